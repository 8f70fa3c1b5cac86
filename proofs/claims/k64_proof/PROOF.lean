import PyProof.Rows.All
import Wide.All
import OpenK.AllK
import Wide.FinOn
import Lean
import PyProof.EqAt
import PyProof.EqKinds
import PyProof.TupleCall
import PySem.Challenge.RW_facecounts_k64_stacked_nets
set_option Elab.async false
set_option linter.all false
set_option maxRecDepth 100000
set_option exponentiation.threshold 3000
set_option genSizeOf false
set_option genSizeOfSpec false
universe u
open PySem renaming wpAny_bind→Va,Value→Vb,Shared→Vc,wpAny_pure→Vd,wpAny→Vf,model→Vk,wpAny_mono→Vn,sizeLine→Vw,Program→V1,starEach→V3,mainGlobals→V5,World→V9,wpAny_newObj_type→Uj,wpAny_call_entry→Uk,rawInt→Uq,Around→Uu,Scope→Uv,wpAny_setField_rec→Uy,wpAny_holding→Uz,wpAny_isNot_plain→U6,wpAny_field→U7,wpAny_Call_Name_kw→Vad,wpAny_callSpecial?_slot→Vae,intKind→Vah,wpAny_is_plain→Van,SetTable→Var,compareOp→Vay,Builtin→Va2,Comprehension→Va3,codeAny_builtin→Va4,sizeLine_eq→Va7,Env→Vbd,assignEach→Vbe,foldedSetIterable→Vbf,backTo→Vbg,PyData→Vbj,cellsFrom→Vbt,sysModules→Vb1,wpAny_setState_of→Vb4,mem_of_lookup→Vb8,binaryOp→Vck,wpAny_typeNameOfWhole_itemiter→Vcp,wpAny_truthy_bool→Vcs,FuncData→Vcx,codeAny→Vcy,wpAny_askSetting→Vcz,wpAny_seqItems→Vc0,wpAny_attempt→Vc9,swapsWithSole→Vdb,swappedStores→Vdc,pyNext→Vdd,wpAny_typeNameOf_itemiter→Vdg,bootBuiltins→Vdm,wpAny_typeOf→Vdn,Keyword→Vdt,wpAny_standAt→Vdu,letOwnedTupleGo→Vdv,pyIter→Vdw,wpAny_rule→Vdy,wpAny_loadPart'→Vdz,importedModules→Vd1,NameKind→Vd2,codeAny_mono→Vd9,builtinLookup_eq_fast→Vec,firstArgMember→Ved,tupleKind→Veg,call_meets→Vej,IsItemIter→Vel,plainId_quiet→Vep,sliceBounds→Ves,wpAny_of_eq→Vet,holding→Veu,swapsWith→Ve8,wpAny_load→Vfa,wpAny_pyIter_slot→Vfj,wpAny_pyIter_list→Vfm,wpAny_Call_method→Vfn,wpAny_isOneOf_itemiter→Vfs,keywordEach→Vft,wpAny_newList→Vfx,wpAny_isInstance→Vf0,checkBuiltinCall→Vf3,typeLookup_type→Vgd,wpAny_updateSeq_pair→Vgf,codeAny_of_tree→Vgh,codeAny_call_builtin→Vgi,wpAny_Tuple_spliced→Vgl,wpAny_Assign_stores→Vgn,wpAny_runValue→Vgt,wpAny_newTuple→Vgv,wpAny_setField→Vgw,wpAny_pyIter_tuple→Vg4,wpAny_assign_Name→Vhe,wpAny_dictEntries→Vhh,wpAny_binaryOp_repeat_ref→Vhk,wpAny_comprehension_free→Vhq
open PySem.Heap renaming get?_push_of_some→Ve,get?_push_size→Vm,lt_size→Vu,size_push→Vaa,SameBut→Vac,get?_update_other→Vd3,get?_update_self→Vd8,size_update→Vf1
open PySem.W renaming Frag→Vg,nsIn→Vaj,hideAll_none→Vbl,hideAll→Vb5,fnOf→Vcb,mg_of→Vc7,keepIn→Vdk,hideAll_get→Vdp,findIn→Vef,kas_sort→Vem,of_hideAll→Ve1,callWith_K→Ve7,kitOne→Vfe,cellsFrom_some→Vfp,excIn→Vfy,codeIn→Vgq,methodObj→Vhd
open List renaming replicate→Vh,getElem?_eq_some_iff→Vi,length_map→Vj,append_assoc→Vo,size_toArray→Vp,getElem?_eq_getElem→Vq,getElem?_append_left→Vt,mem_cons→Vv,getElem?_map→Vx,append_nil→Vz,range→V0,mem_cons_of_mem→Ua,length_cons→Uc,length_append→Uf,map→Ug,mem_map→Uh,length→Um,mem_cons_self→Uo,mem_singleton→Up,mem_of_getElem?→Ur,getElem?_eq_none_iff→Us,all_eq_true→Ux,flatten_cons→U0,replicate_succ→U3,getElem?_append_right→U5,mem_append_right→U8,map_cons→Vab,length_range→Vai,map_append→Val,getElem?_eq_none→Vam,not_mem_nil→Vap,getElem?_set_ne→Vaq,lookup_cons→Vat,filterMap_cons→Vbc,mem_append→Vbh,nil_append→Vbi,mem_iff_getElem→Vbm,isEmpty_iff→Vbo,all_cons→Vbq,map_map→Vbr,getElem?_set_self→Vbs,length_take→Vbx,getElem_mem→Vbz,getD→Vb0,mem_range→Vb2,getD_eq_getElem?_getD→Vcc,length_singleton→Vcd,mem_filter→Vcj,nodup_cons→Vcl,length_nil→Vco,forIn_cons→Vcq,getElem?_replicate→Vcv,take_length→Vc1,set→Vc2,take_of_length_le→Vc3,pairwise_cons→Vc4,take_append_drop→Vc5,mem_append_left→Vde,filter_cons→Vdo,foldl_cons→Vdx,foldl_append→Vd6,foldl→Vei,any_eq_true→Vek,filter_eq_self→Vev,filter_map→Vez,drop_eq_getElem_cons→Ve0,mem_filterMap→Ve2,forIn_nil→Vfd,nodup_append→Vfl,findIdx?_eq_some_iff_getElem→Vfr,length_drop→Vfz,take_succ_eq_append_getElem→Vf4,cons_append→Vf5,set_append_right→Vf8,length_filter_le→Vf9,eq_nil_of_length_eq_zero→Vgk,getElem?_range→Vgm,flatten_append→Vgo,drop_zero→Vgr,nodup_nil→Vgx,take_succ→Vgz,map_replicate→Vg7,filter_congr→Vhj,pairwise_iff_getElem→Vhl,getElem?_take_of_lt→Vhn
open Nat renaming le_refl→Vl,lt_of_lt_of_le→V6,ne_of_lt→V8,zero_le→Ul,le_trans→U4,sub_self→Vag,lt_succ_of_lt→Va0,le_of_lt→Vb9,ne_of_gt→Vca,le_succ→Vdi,lt_irrefl→Vds,lt_trans→Vea,lt_succ_self→Ven,not_lt_zero→Vex,lt_of_succ_lt→Vfo,mul_le_mul→Vg0
open Option.some renaming injEq→Vr,inj→Ue
open Option renaming bind_some→Vs,map_some→Vy,map_eq_some_iff→Ui,isSome_iff_exists→Vbw,bind_eq_some_iff→Vfi,map_none→Vgc
open Bool renaming false_eq_true→V2,false_ne_true→V7,not_true→Ut,not_eq_true'→Vbv,or_eq_true→Vb6,not_false→Vce,and_self→Vc8,and_false→Vgp
open Int renaming ofNat→V4,toNat_natCast→Vaz,emod_lt_of_pos→Vcg,emod_nonneg→Vc6,toNat→Ve5
open Array renaming length_toList→Ub,getElem?_toList→Vaw,getElem?_eq_getElem→Va9,getElem?_eq_some_iff→Vbp,getD→Vcn,perm_iff_toList_perm→Vhc,toList_push→Vhf
open PySem.Builtin.SmallTypes renaming nextOf→Ud,ownedTupleIsFree→Vb3,ownedTupleHandOut→Ve9
open PySem.Obj renaming mapSeq→Uw
open PySem.Value renaming none→U1,ref→Vas,type→Vci,bool→Veh,int→Vf6
open PyProof.Rows renaming callWith_type1→U2,seqObj→Vaf,callWith_builtin1→Vao,spliced_more→Vba,spliced_none→Vbb,slot_tuple_getitem→Vch,IntsAre→Vdj,kindOf→Vd7,subscriptTail→Vfu,listUpdate_at→Vfw,listItems_at→Vgj,assignInOrder_cons→Vg1
open PySem.Str renaming ofString→U9,length_append→Vhi
open PySem.Calls renaming spliced_cons→Vak,spliced_nil→Vct,evalArgs_plain→Vdh,callWith_builtin→Vd4,call_function_entry→Vey,Name_function_global→Vg8
open PySem.PyData renaming depth→Vau,eqv→Vav,showable→Va5,int→Va6,list→Va8,showableAll→Vbk,canLayAll0→Vbu,depthAll→Vb7,canLay0→Vcf,shownAll→Vcr,shown→Vee,eqvAll→Ver
open PySem.Builtin.List renaming listExtendWith→Vax,listTooLong→Vcm,listLengthHint→Vg2,listSameRef→Vhp
open PySem.Builtin.Range renaming rangeSize→Va1,small→Vcw
open PySem.Around renaming under_plainId→Vbn
open PySem.Builtin.Tuple renaming tupleExact→Vby,tupleItemsOf→Vha,tupleTooMany→Vhb
open PySem.F renaming slot_dict_itemiterator_next→Vcu,slot_tuple_iterator_next→Vda,plainAttrs_dict→Vdr,args_tuple_add_2→Ve3,entry_tuple_add→Vfg,plain_list_iadd→Vfk,slot_tuple_add→Vfq,slot_dict_get→Vf7,args_dict_itemiterator_next_1→Vga,entry_dict_itemiterator_next→Vge,slot_zip_next→Vgg,args_tuple_iterator_next_1→Vgy,entry_tuple_iterator_next→Vg3
open PySem.Builtin.Slice renaming slicePlaces→Vdf,sliceAdjust→Vew,sliceApplied→Vg9
open List.Perm renaming refl→Vdl
open PySem.Heap.SameBut renaming update→Vdq,refl→Vhg
open ForInStep renaming yield→Vd0
open List.Pairwise renaming nil→Vd5
open PySem.SetTable renaming grown→Veb,sizeAbove→Ve4,below→Vgs
open PySem.Paired renaming length→Veo
open Prod.mk renaming injEq→Veq
open PySem.AutoSeq1 renaming sub_tuple_tuple→Ve6
open PySem.Builtin.Dict_items renaming ownedTupleFields→Vfb,ownedTupleIsFree→Vfc,pairFromOwner→Vf2,ownsTuple→Vgu
open PySem.W.Fast renaming te14364793385576792824→Vff
open PyProof.Rows.F renaming plain_set_update_loop→Vfh
open PySem.NameKind renaming free→Vfv
open False renaming elim→Vgb
open PySem.Code renaming quiet_builtin→Vg5
open PySem.Heap.IsSliceOf renaming new→Vg6
open PySem.Manifest renaming sig_set_iterator→Vhm
open PySem.Builtin.Frozenset renaming sizeOf→Vho
theorem oD0{p:Prop}[Decidable p](h:decide p=true):p:=of_decide_eq_true h
theorem aB0{a b:Prop}(h:a)(k:¬a):b:=(k h).elim
theorem iP0{c:Prop}{i:Decidable c}(h:c){α:Sort u}{t e:α}:(ite c t e)=t:=if_pos h
theorem iN0{c:Prop}{i:Decidable c}(h:¬c){α:Sort u}{t e:α}:(ite c t e)=e:=if_neg h
theorem gZ0{α:Type u}{a:α}{l:List α}:(a::l)[0]?=some a:=rfl
theorem gS0{α:Type u}{a:α}{i:Nat}{l:List α}:(a::l)[i+1]?=l[i]?:=rfl
theorem bA0(a b:Bool):((a&&b)=true)=(a=true∧b=true):=Bool.and_eq_true a b
section
namespace L2
open PySem PySem.Spec PyProof.Rows
noncomputable abbrev Key:=Sum Int Str
noncomputable def Xxq:Key->Vb->Bool
 |.inl k,v=>Value.isInt k v
 |.inr x,v=>Value.isStrOf x v
noncomputable def X8w(w:V9):Key->Int
 |.inl k=>hashInt k
 |.inr x=>hashStr w x
theorem Yp:∀ {k:Key} {v:Vb},Xxq k v=true->(∃i t,k=Sum.inl i/\v=Vf6 i t)\/(∃x t,k=Sum.inr x/\v=Value.str x t)
 |.inl i,v,h=>by
  obtain⟨t,e⟩:=Value.isInt_shape (k:=i) (v:=v) h;exact .inl ⟨i,t,rfl,e⟩
 |.inr x,v,h=>by
  obtain⟨t,e⟩:=Value.isStrOf_shape (x:=x) (v:=v) h;exact .inr ⟨x,t,rfl,e⟩
theorem X16(a b:Int):decide ((Sum.inl a:Key)=Sum.inl b)=(a==b):=by
 by_cases e:a=b
 ·subst e;simp
 ·have h:¬ (Sum.inl a:Key)=Sum.inl b:=fun q=>e (Sum.inl.inj q)
  rw[decide_eq_false h];exact(beq_eq_false_iff_ne.mpr e).symm
theorem X17(a b:Str):decide ((Sum.inr a:Key)=Sum.inr b)=decide (a=b):=by
 by_cases e:a=b
 ·subst e;simp
 ·have h:¬ (Sum.inr a:Key)=Sum.inr b:=fun q=>e (Sum.inr.inj q)
  rw[decide_eq_false h,decide_eq_false e]
theorem X18(a:Int)(b:Str):decide ((Sum.inl a:Key)=Sum.inr b)=false:=decide_eq_false (fun q=>nomatch q)
theorem X19(a:Str)(b:Int):decide ((Sum.inr a:Key)=Sum.inl b)=false:=decide_eq_false (fun q=>nomatch q)
noncomputable def Xho(prog:V1)(w:V9):PySem.KeyKind prog w Key where
 is:=Xxq
 hash:=X8w w
 inj:=fun v a b ha hb=>by
  rcases Yp ha with⟨i,t,rfl,rfl⟩|⟨x,t,rfl,rfl⟩
  ·rcases Yp hb with⟨j,u,rfl,e⟩|⟨y,u,rfl,e⟩
   ·injection e with e1 _;rw[e1]
   ·exact nomatch e
  ·rcases Yp hb with⟨j,u,rfl,e⟩|⟨y,u,rfl,e⟩
   ·exact nomatch e
   ·injection e with e1 _;rw[e1]
 byValue:=fun k v h=>by
  rcases Yp h with⟨i,t,rfl,rfl⟩|⟨x,t,rfl,rfl⟩<;>rfl
 pyHash:=fun hv h=>by
  rcases Yp hv with⟨i,t,rfl,rfl⟩|⟨x,t,rfl,rfl⟩
  ·exact wpAny_pyHash_int h
  ·exact wpAny_pyHash_str h
 eqBool:=fun hu hv h=>by
  rcases Yp hu with⟨i,t,rfl,rfl⟩|⟨x,t,rfl,rfl⟩
  ·rcases Yp hv with⟨j,u,rfl,rfl⟩|⟨y,u,rfl,rfl⟩
   ·rw[X16]at h;exact wpAny_eqBool_int h
   ·rw[X18]at h;exact SeqAt.EqAt.int_str i t y u _ _ _ _ h
  ·rcases Yp hv with⟨j,u,rfl,rfl⟩|⟨y,u,rfl,rfl⟩
   ·rw[X19]at h;exact SeqAt.EqAt.str_int x t j u _ _ _ _ h
   ·rw[X17]at h;exact wpAny_eqBool_str h
 «strs»:=fun k x t v h=>by
  rcases Yp h with⟨i,u,rfl,e⟩|⟨y,u,rfl,e⟩
  ·exact nomatch e
  ·injection e with e1 _
   subst e1;cases v<;>rfl
end L2
namespace L2
open PySem PySem.Spec PyProof.Rows
inductive V where
 |non|bl (b:Bool)|int (i:Int)|str (x:Str)|byt (b:Array UInt8)|flt (b:UInt64)|ref (a:Addr)|ty (n:String)
 deriving DecidableEq
def RelV:V->Vb->Prop
 |.non,u=>u=U1
 |.bl b,u=>u=Veh b
 |.int i,u=>∃t,u=Vf6 i t
 |.str x,u=>∃t,u=Value.str x t
 |.byt b,u=>∃t,u=Value.bytes b t
 |.flt b,u=>∃t,u=Value.float b t
 |.ref a,u=>u=Vas a
 |.ty n,u=>u=Vci n
abbrev Vals:List V->List Vb->Prop:=Paired RelV
theorem Vals.length{xs:List V}{us:List Vb}(r:Vals xs us):xs.length=us.length:=Veo r
theorem Vals.get:∀ {xs:List V} {us:List Vb} {i:Nat} {x:V},Vals xs us->xs[i]?=some x->∃u,us[i]?=some u/\RelV x u
 |_,_,_,_,.nil,e=>by simp at e
 |_,_,0,_,.cons r _,e=>by simp at e;subst e;exact⟨_,rfl,r⟩
 |_,_,i+1,x,.cons _ t,e=>by
  obtain⟨u,h1,h2⟩:=Vals.get (i:=i) (x:=x) t (by simpa using e)
  exact⟨u,by simpa using h1,h2⟩
theorem Vals.set{x:V}{u:Vb}(r:RelV x u):∀ {xs:List V} {us:List Vb} (i:Nat),Vals xs us->Vals (xs.set i x) (us.set i u)
 |_,_,_,.nil=>.nil
 |_,_,0,.cons _ t=>.cons r t
 |_,_,i+1,.cons q t=>.cons q (Vals.set r i t)
theorem Vals.append:∀ {xs ys:List V} {us ws:List Vb},Vals xs us->Vals ys ws->Vals (xs++ys) (us++ws)
 |_,_,_,_,.nil,s=>s
 |_,_,_,_,.cons r t,s=>.cons r (Vals.append t s)
theorem Vals.take:∀ {xs:List V} {us:List Vb} (n:Nat),Vals xs us->Vals (xs.take n) (us.take n)
 |_,_,0,_=>.nil
 |_,_,_+1,.nil=>.nil
 |_,_,n+1,.cons r t=>.cons r (Vals.take n t)
theorem Vals.drop:∀ {xs:List V} {us:List Vb} (n:Nat),Vals xs us->Vals (xs.drop n) (us.drop n)
 |_,_,0,r=>r
 |_,_,_+1,.nil=>.nil
 |_,_,n+1,.cons _ t=>Vals.drop n t
def X2a:Option V->Option Vb->Prop
 |some v,some u=>RelV v u
 |none,none=>True
 |_,_=>False
def KV{κ:Type}:List (κ×V)->List (κ×Vb)->Prop:=Paired fun(p:κ×V) (q:κ×Vb)=>p.1=q.1/\RelV p.2 q.2
noncomputable def kV:Key->V
 |.inl i=>.int i
 |.inr x=>.str x
inductive HO where
 |lst (xs:List V)
 |tup (xs:List V)
 |dK (kvs:List (Key×V))|dT (kvs:List (List Key×V))
 |set (S:Int->Bool) (n:Nat)
 |ins (C dx:Addr) (fs:List (Str×V))
 |own (x:Addr)
 |xd (fs:List (Str×V))
 |met (f x:Addr)
 |rng (lo hi:Int)
 |frz (o:Obj) (u:HO)
 |tbl (ps:Array Vb)
 |ext (φ:Heap->Prop)
noncomputable abbrev Hp:=Addr->Option HO
noncomputable def upd(H:Hp)(a:Addr)(o:HO):Hp:=fun b=>if b=a then some o else H b
theorem X6{H:Hp}{a:Addr}{o:HO}:upd H a o a=some o:=by unfold upd;rw[iP0 rfl]
theorem Xh{H:Hp}{a b:Addr}{o:HO}(h:b≠a):upd H a o b=H b:=by unfold upd;rw[iN0 h]
theorem Xs{H:Hp}{a b:Addr}{o:HO}(h:H a=some o)(h':H b=none):a≠b:=by
 intro e;subst e;rw[h]at h';cases h'
section
variable(P:V1)(w:V9)
def ObjOk(H:Hp)(h:Heap)(a:Addr):HO->Prop
 |.lst xs=>xs.length<=Vw/\∃(its:List Vb) (n:Nat),Vals xs its/\h.get? a=some {cls:=.type "list",data:=.seq its.toArray n}
 |.tup xs=>xs.length<=Vw/\∃its:List Vb,Vals xs its/\IsTup h a its.toArray
 |.dK kvs=>kvs.length<=Vw/\(a==Vb1)=false/\∃vs,KV kvs vs/\h.DictOf (Xho P w) a vs
 |.dT kvs=>kvs.length<=Vw/\(a==Vb1)=false/\∃xs:List (List Key×Addr×Vb),
   Paired (fun(p:List Key×V) (q:List Key×Addr×Vb)=>p.1=q.1/\H q.2.1=some (.tup (p.1.map kV))/\RelV p.2 q.2.2) kvs xs /\
   ∃o es ep,h.get? a=some o/\o.ExactDict/\o.data=.dict es ep/\es.toList=xs.map (entryOfKey (Veg (Xho P w)))/\(xs.map (·.1)).Nodup
 |.set S n=>h.SetOf (Vah P w) a S n
 |.ins C dx fs=>H dx=some (.own a)/\fs.length<=1000/\dx≠a/\h.get? a=some (PySem.W.instObj C dx) /\
   ∃mA,h.Ns1 dx mA/\(∀f,X2a (fs.lookup f) (mA f))/\PySem.Within mA (fs.map (·.1))
 |.own _=>∃o,h.get? a=some o
 |.xd fs=>∃mA,h.Ns1 a mA/\∀f,X2a (fs.lookup f) (mA f)
 |.rng lo hi=>∃t u v,h.get? a=some {cls:=.type "range",data:=.fields #[.int lo t,.int hi u,.int 1 v]}
 |.frz o u=>h.get? a=some o/\ObjOk H h a u
 |.tbl ps=>h.get? a=some {cls:=.none,data:=.fields ps}
 |.met f x=>h.get? a=some (Vhd (.ref f) (.ref x))
 |.ext φ=>φ h/\(∃o,h.get? a=some o)/\∀h1 h2:Heap,φ h1->(∀o,h1.get? a=some o->h2.get? a=some o)->φ h2
def HOk(H:Hp)(h:Heap):Prop:=∀a o,H a=some o->ObjOk P w H h a o
end
section
variable{P:V1}{w:V9}{H H':Hp}{h h':Heap}{a:Addr}{o:HO}
theorem ObjOk.lt(x:ObjOk P w H h a o):a<h.objs.size:=by
 cases o with
 |lst xs=>obtain⟨_,_,_,_,e⟩:=x;exact Vu e
 |tup xs=>obtain⟨_,_,_,p⟩:=x;exact p.lt
 |dK kvs=>obtain⟨_,_,_,_,o,_,_,e,_⟩:=x;exact Vu e
 |dT kvs=>obtain⟨_,_,_,_,o,_,_,e,_⟩:=x;exact Vu e
 |set S n=>obtain⟨o,_,_,_,e,_⟩:=x;exact Vu e
 |ins C dx fs=>obtain⟨_,_,_,e,_⟩:=x;exact Vu e
 |own y=>obtain⟨_,e⟩:=x;exact Vu e
 |xd fs=>obtain⟨_,⟨_,_,_,e,_⟩,_⟩:=x;exact Vu e
 |rng lo hi=>obtain⟨_,_,_,e⟩:=x;exact Vu e
 |frz ob u=>obtain⟨e,_⟩:=x;exact Vu e
 |tbl ps=>exact Vu (show h.get? a=some _ from x)
 |met f y=>exact Vu (show h.get? a=some _ from x)
 |ext φ=>obtain⟨_,⟨_,e⟩,_⟩:=x;exact Vu e
theorem Paired.mapP{α β:Type}{F G:α->β->Prop}:∀ {l₁:List α} {l₂:List β},Paired F l₁ l₂->(∀a b,F a b->G a b)->Paired G l₁ l₂
 |_,_,.nil,_=>.nil
 |_,_,.cons r t,f=>.cons (f _ _ r) (Paired.mapP t f)
theorem ObjOk.stay(x:ObjOk P w H h a o)(k:∀b u,(b=a\/H b=some (.own a))->h.get? b=some u->h'.get? b=some u)
  (ho:∀b,H b=some (.own a)->H' b=some (.own a)) (ht:∀b xs,H b=some (.tup xs)->H' b=some (.tup xs)):ObjOk P w H' h' a o:=by
 induction o with
 |lst xs=>obtain⟨z,its,n,r,e⟩:=x;exact⟨z,its,n,r,k _ _ (.inl rfl) e⟩
 |tup xs=>obtain⟨z,its,r,ob,e,c⟩:=x;exact⟨z,its,r,ob,k _ _ (.inl rfl) e,c⟩
 |dK kvs=>obtain⟨z,y,vs,r,ob,es,ep,e,c⟩:=x;exact⟨z,y,vs,r,ob,es,ep,k _ _ (.inl rfl) e,c⟩
 |dT kvs =>
  obtain⟨z,y,xs,r,ob,es,ep,e,c⟩:=x;exact⟨z,y,xs,Paired.mapP r fun p q z=>⟨z.1,ht _ _ z.2.1,z.2.2⟩,ob,es,ep,k _ _ (.inl rfl) e,c⟩
 |set S n=>obtain⟨ob,es,ep,t,e,c⟩:=x;exact⟨ob,es,ep,t,k _ _ (.inl rfl) e,c⟩
 |ins C dx fs =>
  obtain⟨d,z,ne,e,mA,⟨od,es,ep,e2,c⟩,r⟩:=x;exact⟨ho _ d,z,ne,k _ _ (.inl rfl) e,mA,⟨od,es,ep,k _ _ (.inr d) e2,c⟩,r⟩
 |own y=>obtain⟨ob,e⟩:=x;exact⟨ob,k _ _ (.inl rfl) e⟩
 |xd fs=>obtain⟨mA,⟨od,es,ep,e,c⟩,r⟩:=x;exact⟨mA,⟨od,es,ep,k _ _ (.inl rfl) e,c⟩,r⟩
 |rng lo hi=>obtain⟨t,u,v,e⟩:=x;exact⟨t,u,v,k _ _ (.inl rfl) e⟩
 |frz ob u ih=>obtain⟨e,q⟩:=x;exact⟨k _ _ (.inl rfl) e,ih q⟩
 |tbl ps =>
  have e:h.get? a=some {cls:=.none,data:=.fields ps}:=x;show h'.get? a=some {cls:=.none,data:=.fields ps};exact k a _ (.inl rfl) e
 |met f y =>
  have e:h.get? a=some (Vhd (.ref f) (.ref y)):=x;show h'.get? a=some (Vhd (.ref f) (.ref y));exact k a _ (.inl rfl) e
 |ext φ=>obtain⟨p,⟨o,e⟩,st⟩:=x;exact⟨st _ _ p fun o q=>k _ _ (.inl rfl) q,⟨o,k _ _ (.inl rfl) e⟩,st⟩
theorem HOk.lt(x:HOk P w H h)(e:H a=some o):a<h.objs.size:=(x a o e).lt
theorem HOk.fresh(x:HOk P w H h)(e:h.objs.size<=a):H a=none:=by
 cases q:H a with
 |none=>rfl
 |some u=>exact aB0 (V6 (x.lt q) e) (Vds _)
theorem HOk.kept(x:HOk P w H h)(k:∀b u,h.get? b=some u->h'.get? b=some u):HOk P w H h':=fun a o e =>
 (x a o e).stay (fun b u _ q=>k b u q) (fun _ q=>q) fun _ _ q=>q
theorem HOk.laid(x:HOk P w H h)(k:∀b u,h.get? b=some u->h'.get? b=some u)(hp:h.objs.size<=a)(new:ObjOk P w (upd H a o) h' a o):HOk P w (upd H a o) h':=fun b u e=>by
 have hn:=x.fresh hp
 by_cases hb:b=a
 ·subst hb;rw[X6]at e;cases e;exact new
 ·rw[Xh hb]at e
  exact(x b u e).stay (fun c v _ q=>k c v q) (fun c q=>by rw[Xh (Xs q hn)];exact q) fun c xs q=>by rw[Xh (Xs q hn)];exact q
end
def Rd(H:Hp)(a:Addr)(u:HO):Prop:=H a=some u\/∃o,H a=some (.frz o u)
theorem Rd.ok{P:V1}{w:V9}{H:Hp}{h:Heap}{a:Addr}{u:HO}(r:Rd H a u)(x:HOk P w H h):ObjOk P w H h a u:=by
 rcases r with r|⟨o,r⟩
 ·exact x a u r
 ·obtain⟨_,q⟩:=x a _ r
  exact q
def Mut:Option HO->Prop
 |some (.lst _)=>True
 |some (.dK _)=>True
 |some (.dT _)=>True
 |some (.set _ _)=>True
 |some (.ins _ _ _)=>True
 |some (.ext _)=>True
 |_=>False
section
variable{P:V1}{w:V9}{H:Hp}{h h':Heap}{x e:Addr}{o':HO}
theorem HOk.write(ok:HOk P w H h)(mu:Mut (H x))(he:e=x\/H e=some (.own x))(k:∀b u,b≠e->h.get? b=some u->h'.get? b=some u)(heo:∃u,h'.get? e=some u)
  (new:ObjOk P w (upd H x o') h' x o'):HOk P w (upd H x o') h':=fun b u q=>by
 have nown:∀c y,H c=some (.own y)->c≠x:=fun c y r z=>by subst z;rw[r]at mu;exact mu
 have ntup:∀c xs,H c=some (.tup xs)->c≠x:=fun c xs r z=>by subst z;rw[r]at mu;exact mu
 by_cases hb:b=x
 ·subst hb;rw[X6]at q;cases q;exact new
 ·rw[Xh hb]at q
  by_cases hbe:b=e
  ·have q':H b=some (.own x):=by
    rcases he with z|z
    ·exact aB0 (hbe.trans z) hb
    ·rw[hbe];exact z
   rw[q]at q';cases q';obtain⟨v,hv⟩:=heo;exact⟨v,by rw[hbe];exact hv⟩
  ·refine(ok b u q).stay (fun c v hc r=>k c v ?_ r) (fun c r=>by rw[Xh (nown c b r)];exact r) fun c xs r=>by rw[Xh (ntup c xs r)];exact r
   rcases hc with rfl|hc
   ·exact hbe
   ·rintro rfl
    rcases he with z|z
    ·exact nown c b hc z
    ·rw[hc]at z;cases z;exact hb rfl
end
structure Un(fs ex:List Addr)(H H':Hp)(h h':Heap):Prop where
 keep:∀b o,h.get? b=some o->H b=none->b ∉ fs->b ∉ ex->h'.get? b=some o
 slot:∀b o,h.get? b=some o->H b=none->b∈fs->b ∉ ex->∃sl,h'.get? b=some {o with slots:=sl}
 free:∀b o,h.get? b=some o->H b=none->b ∉ ex->H' b=none
 there:∀b o,h.get? b=some o->b ∉ ex->∃o',h'.get? b=some o'
 tups:∀b xs,H b=some (.tup xs)->H' b=some (.tup xs)
 frzs:∀b o u,H b=some (.frz o u)->H' b=some (.frz o u)
 tbls:∀b ps,H b=some (.tbl ps)->∃more,H' b=some (.tbl (ps++more))
section
variable{fs fs' ex ex':List Addr}{H H1 H2:Hp}{h h1 h2 h':Heap}{a x e:Addr}{o:HO}
theorem Un.any(u:Un fs ex H H1 h h1){b:Addr}{ob:Obj}(q:h.get? b=some ob)(n:H b=none)(hx:b ∉ ex):∃sl,h1.get? b=some {ob with slots:=sl}:=by
 by_cases hb:b∈fs
 ·exact u.slot b ob q n hb hx
 ·exact⟨ob.slots,u.keep b ob q n hb hx⟩
theorem Un.kept(k:∀b u,h.get? b=some u->h'.get? b=some u):Un fs ex H H h h' :=
 ⟨fun b ob q _ _ _=>k b ob q,fun b ob q _ _ _=>⟨ob.slots,k b ob q⟩,fun _ _ _ n _=>n,fun b ob q _=>⟨ob,k b ob q⟩,fun _ _ q=>q,fun _ _ _ q=>q,fun _ ps q=>⟨#[],by rw[q];simp⟩⟩
theorem Un.refl:Un fs ex H H h h:=Un.kept fun _ _ q=>q
theorem Un.laid(k:∀b u,h.get? b=some u->h'.get? b=some u)(hp:h.objs.size<=a)(hn:H a=none):Un fs ex H (upd H a o) h h' where
 keep:=fun b u q _ _ _=>k b u q
 slot:=fun b u q _ _ _=>⟨u.slots,k b u q⟩
 free:=fun b u q n _=>by rw[Xh (V8 (V6 (Vu q) hp))];exact n
 there:=fun b u q _=>⟨u,k b u q⟩
 tups:=fun b xs q=>by rw[Xh (Xs q hn)];exact q
 frzs:=fun b u xs q=>by rw[Xh (Xs q hn)];exact q
 tbls:=fun b ps q=>⟨#[],by rw[Xh (Xs q hn),q];simp⟩
theorem Un.write(mu:Mut (H x))(he:e=x\/H e=some (.own x))(k:∀b u,b≠e->h.get? b=some u->h'.get? b=some u)(heo:∃u,h'.get? e=some u):Un fs ex H (upd H x o) h h':=by
 have hx:∀b,H b=none->b≠x:=fun b n z=>by subst z;rw[n]at mu;exact mu
 have hb:∀b,H b=none->b≠e:=fun b n z=>by
  subst z;rcases he with r|r
  ·exact hx b n r
  ·rw[n]at r;cases r
 have hm:∀b u,H b=some u->¬ Mut (some u)->b≠x:=fun b u q nm z=>by subst z;rw[q]at mu;exact nm mu
 refine⟨fun b u q n _ _=>k b u (hb b n) q,fun b u q n _ _=>⟨u.slots,k b u (hb b n) q⟩,fun b u q n _=>by rw[Xh (hx b n)];exact n,fun b u q _=>?_,
  fun b xs q=>by rw[Xh (hm b _ q fun z=>z)];exact q,fun b u xs q=>by rw[Xh (hm b _ q fun z=>z)];exact q,fun b ps q=>⟨#[],by rw[Xh (hm b _ q fun z=>z),q];simp⟩⟩
 by_cases hbe:b=e
 ·subst hbe;exact heo
 ·exact⟨u,k b u hbe q⟩
end
noncomputable def trk(h:Heap)(H:Hp):List Addr:=(V0 h.objs.size).filter fun a=>(H a).isSome
noncomputable def Xdr(h:Heap)(H:Hp):Heap:=Vb5 h (trk h H)
theorem Xrs(h:Heap)(H:Hp):(Xdr h H).objs.size=h.objs.size:=PySem.W.hideAll_size _ _
theorem Xuc{h:Heap}{H:Hp}{b:Addr}{o:Obj}(e:h.get? b=some o)(n:H b=none):(Xdr h H).get? b=some o :=
 Vdp _ e fun hm=>by
  have q:(H b).isSome=true:=(Vcj.mp hm).2;rw[n]at q;simp at q
theorem Xym{h:Heap}{H:Hp}{b:Addr}{o:Obj}(e:(Xdr h H).get? b=some o):h.get? b=some o/\H b=none:=by
 have e':h.get? b=some o:=Ve1 (trk h H) e;refine⟨e',?_⟩;cases q:H b with
 |none=>rfl
 |some x =>
  have hm:b∈trk h H:=Vcj.mpr ⟨Vb2.mpr (Vu e'),by simp[q]⟩
  have z:(Xdr h H).get? b=none:=Vbl (trk h H) hm;rw[z]at e;cases e
noncomputable def Xyn(g h:Heap)(L:Addr):List (Addr×Obj):=(V0 h.objs.size).filterMap fun a=>if a=L\/(g.get? a).isSome=true then none else (h.get? a).map fun o=>(a,o)
noncomputable def Yt(g h:Heap)(L d:Addr):List (Addr×Obj):=(Xyn g h L).filter fun p=>decide (p.1≠d)
end L2
namespace L2
open PySem PySem.Spec PyProof.Rows
structure Mod(K:Vg)(mg:Str->Option Vb)(base:Heap):Prop where
 kin:K.In base
 glob:base.Ns V5 mg
 blt:∃mb,base.Ns builtinsNs mb/\∀x:Str,x ≠ "__name__" -> mb x=Vdm x
 nolimit:base.NoLimit
structure Cx where
 prog:V1
 w:V9
 K:Vg
 mg:Str->Option Vb
 base:Heap
 A:Uu
 N:List Str
 s₀:Vc
 H₀:Hp
 env:Env
 outer:List Env
 stack:List Env
 ex:List Addr
 fn:Str->Bool
 calm:Bool
 pn:List (Addr×Obj)
 xe:Vb->Vc->Prop
noncomputable def frs(l:List Env):List Addr:=l.filterMap (·.frame)
noncomputable abbrev Cx.fs(X:Cx):List Addr:=frs X.outer
def Vis(sc:Uv)(x:Str):Prop:=sc.names.lookup x=some .local\/sc.names.lookup x=some .cell\/sc.names.lookup x=some .free
def Loc(sc:Uv)(x:Str):Prop:=sc.names.lookup x=some .local\/sc.names.lookup x=some .cell
def X8x(env:Env)(h:Heap)(m:Str->Option Vb)(x:Str)(u:Vb):Prop :=
 (env.kindOf x=some .local/\m x=some u)\/((env.kindOf x=some .cell\/env.kindOf x=some .free)/\∃c,env.cells.lookup x=some c/\h.IsCell c (some u))
structure Cx.Ok(X:Cx):Prop where
 mod:Mod X.K X.mg X.base
 kind:X.env.scope.kind=.function
 glob:X.env.globals=V5
 blt:X.env.builtins=builtinsNs
 above:X.s₀.heap.objs.size<=X.env.locals
 inj:∀x y c,X.env.cells.lookup x=some c->X.env.cells.lookup y=some c->x=y
 has:∀x,(X.env.kindOf x=some .cell\/X.env.kindOf x=some .free)->∃c,X.env.cells.lookup x=some c
 cab:∀x c,X.fn x=true->X.env.cells.lookup x=some c->X.s₀.heap.objs.size<=c
 hd:X.calm=true->X.A.handled=none
 frames:X.A.frames=some X.stack
 stk:X.stack=X.outer\/(X.stack=X.env::X.outer/\X.env.frame=some X.env.locals)
 exf:∀b∈X.ex,b≠X.env.locals/\∀x c,X.env.cells.lookup x=some c->c≠b
 bs:∀b o,X.base.get? b=some o->X.s₀.heap.get? b=some o/\X.H₀ b=none
 bsz:X.base.objs.size<=X.s₀.heap.objs.size
 noex:∀b o,X.base.get? b=some o->b ∉ X.ex
 exfs:∀b∈X.ex,b ∉ X.fs
 funs:X.s₀.heap.FunFrames X.base X.outer
 frf:∀b∈X.fs,X.H₀ b=none
structure Inv(X:Cx)(pa:List (Addr×Obj))(σ:List (Option V))(H:Hp)(s:Vc):Prop where
 ok:X.Ok
 os:s.os=X.s₀.os
 bare:AllBare s.gens
 base:Un X.fs X.ex X.H₀ H X.s₀.heap s.heap
 loc:∃m,s.heap.Ns X.env.locals m/\∀(i:Nat) (x:Str) (v:V),X.N[i]?=some x->σ[i]?=some (some v)->Vis X.env.scope x->∃u,RelV v u/\X8x X.env s.heap m x u
 cell:∀x c,X.env.cells.lookup x=some c->∃v,s.heap.IsCell c v
 free:H X.env.locals=none
 freeC:∀x c,X.env.cells.lookup x=some c->H c=none
 pin:∀p∈X.pn++pa,s.heap.get? p.1=some p.2/\H p.1=none/\p.1≠X.env.locals/\p.1 ∉ X.fs/\∀v,p.2.data≠.cell v
 hok:HOk X.prog X.w H s.heap
 len:σ.length=X.N.length
section
variable{X:Cx}{pa:List (Addr×Obj)}{σ:List (Option V)}{H H':Hp}{s:Vc}{h':Heap}
theorem Cx.Ok.nofr(ok:X.Ok){b:Addr}{o:Obj}(e:X.base.get? b=some o):b ∉ X.fs:=fun hb=>by
 have:=(ok.funs.mem hb).1;rw[e]at this;cases this
theorem Inv.bs(I:Inv X pa σ H s):∀b o,X.base.get? b=some o->s.heap.get? b=some o/\H b=none:=fun b o e =>
 ⟨I.base.keep b o (I.ok.bs b o e).1 (I.ok.bs b o e).2 (I.ok.nofr e) (I.ok.noex b o e),I.base.free b o (I.ok.bs b o e).1 (I.ok.bs b o e).2 (I.ok.noex b o e)⟩
theorem Inv.bk(I:Inv X pa σ H s):∀b o,X.base.get? b=some o->s.heap.get? b=some o:=fun b o e=>(I.bs b o e).1
theorem Inv.mod(I:Inv X pa σ H s):Mod X.K X.mg X.base:=I.ok.mod
theorem Inv.kIn(I:Inv X pa σ H s):X.K.In s.heap:=I.ok.mod.kin.keeps I.bk
theorem Inv.lt(I:Inv X pa σ H s):X.env.locals<s.heap.objs.size:=let ⟨_,hn,_⟩:=I.loc;hn.lt
theorem Inv.sz(I:Inv X pa σ H s):X.s₀.heap.objs.size<=s.heap.objs.size:=U4 I.ok.above (Vb9 I.lt)
theorem Inv.nofs(I:Inv X pa σ H s){a:Addr}(h:s.heap.objs.size<=a):a ∉ X.fs:=fun hb=>by
 obtain⟨_,o,ho,_⟩:=I.ok.funs.mem hb;exact aB0 (V6 (Vu ho) (U4 I.sz h)) (Vds _)
theorem Inv.cne(I:Inv X pa σ H s):∀x c,X.env.cells.lookup x=some c->c≠X.env.locals:=fun x c e z=>by
 obtain⟨v,o,ho,hd⟩:=I.cell x c e;obtain⟨m,⟨o',es,ep,ho',hd',_⟩,_⟩:=I.loc;rw[z,ho']at ho;cases ho;rw[hd']at hd;cases hd
theorem Inv.funs(I:Inv X pa σ H s):s.heap.FunFrames X.base X.outer:=by
 have all:∀(l:List Env),(∀b∈frs l,b∈X.fs)->X.s₀.heap.FunFrames X.base l->s.heap.FunFrames X.base l:=by
  intro l
  induction l with
  |nil=>intro _ _;trivial
  |cons env r ih =>
   intro hs hl;obtain⟨hk,⟨L,o,hf,hn,ho,hd⟩,hr⟩:=hl;have hL:L∈X.fs:=hs L (by unfold frs;rw[Vbc,hf];exact Uo)
   obtain⟨sl,e⟩:=I.base.slot L o ho (I.ok.frf L hL) hL fun z=>I.ok.exfs L z hL
   exact⟨hk,⟨L,_,hf,hn,e,hd⟩,ih (fun b hb=>hs b (by unfold frs;rw[Vbc,hf];exact Ua _ hb)) hr⟩
 exact all X.outer (fun _ hb=>hb) I.ok.funs
theorem Inv.stack(I:Inv X pa σ H s):s.heap.FunFrames X.base X.stack:=by
 rcases I.ok.stk with e|⟨e,hf⟩
 ·rw[e];exact I.funs
 ·rw[e]
  obtain⟨m,hn,_⟩:=I.loc;refine .cons (by rw[I.ok.kind];decide) hf hn ?_ I.funs
  exact Heap.get?_none_of_le (U4 I.ok.bsz I.ok.above)
theorem Inv.stkSub(I:Inv X pa σ H s):∀b∈frs X.stack,b∈X.env.locals::X.fs:=fun b hb=>by
 rcases I.ok.stk with e|⟨e,hf⟩
 ·rw[e]at hb;exact Ua _ hb
 ·rw[e]at hb
  unfold frs at hb;rw[Vbc,hf]at hb;exact hb
theorem Inv.stkFree(I:Inv X pa σ H s):∀b∈frs X.stack,H b=none:=fun b hb=>by
 rcases Vv.mp (I.stkSub b hb) with e|hb
 ·rw[e];exact I.free
 ·obtain⟨_,o,ho,_⟩:=I.ok.funs.mem hb
  exact I.base.free b o ho (I.ok.frf b hb) fun z=>I.ok.exfs b z hb
theorem Inv.step{g':Array GenState}{t':Nat}{d':Drawn}{ch:List Addr}(I:Inv X pa σ H s)
  (hch:∀b∈ch,(b∈X.ex\/X.s₀.heap.objs.size<=b)/\b≠X.env.locals/\(∀x c,X.env.cells.lookup x=some c->c≠b)/\∀p∈X.pn++pa,p.1≠b)
  (keep:∀b o,b≠X.env.locals->b ∉ X.fs->b ∉ ch->s.heap.get? b=some o->H b=none->h'.get? b=some o)
  (slot:∀b o,b≠X.env.locals->b∈X.fs->b ∉ ch->s.heap.get? b=some o->H b=none->∃sl,h'.get? b=some {o with slots:=sl}) (free:∀b o,b ∉ ch->s.heap.get? b=some o->H b=none->H' b=none)
  (there:∀b o,b ∉ ch->s.heap.get? b=some o->∃o',h'.get? b=some o')
  (tups:∀b xs,H b=some (.tup xs)->H' b=some (.tup xs)) (frzs:∀b o u,H b=some (.frz o u)->H' b=some (.frz o u)) (tbls:∀b ps,H b=some (.tbl ps)->∃more,H' b=some (.tbl (ps++more)))
  (ns:∀m,s.heap.Ns X.env.locals m->h'.Ns X.env.locals m) (hok:HOk X.prog X.w H' h') (hg:AllBare g') :
  Inv X pa σ H' {s with heap:=h',gens:=g',drawn:=d',toks:=t' }:=by
 have neL:∀b o,X.s₀.heap.get? b=some o->b≠X.env.locals:=fun b o e=>V8 (V6 (Vu e) I.ok.above)
 have neC:∀b o,X.s₀.heap.get? b=some o->b ∉ X.ex->b ∉ ch:=fun b o e hx hb=>by
  rcases (hch b hb).1 with z|z
  ·exact hx z
  ·exact aB0 (V6 (Vu e) z) (Vds _)
 have cellK:∀x c,X.env.cells.lookup x=some c->∀v,s.heap.IsCell c v->h'.IsCell c v:=fun x c e v ⟨o,ho,hd⟩=>by
  have nch:c ∉ ch:=fun z=>(hch c z).2.2.1 x c e rfl
  by_cases hc:c∈X.fs
  ·obtain⟨sl,q⟩:=slot c o (I.cne x c e) hc nch ho (I.freeC x c e)
   exact⟨_,q,hd⟩
  ·exact⟨o,keep c o (I.cne x c e) hc nch ho (I.freeC x c e),hd⟩
 refine⟨I.ok,I.os,hg,⟨fun b o e n hb hx=>?_,fun b o e n hb hx=>?_,fun b o e n hx=>?_,fun b o e hx=>?_,fun b xs e=>tups b xs (I.base.tups b xs e),fun b o xs e=>frzs b o xs (I.base.frzs b o xs e),fun b ps e=>?_⟩,?_,fun x c e=>?_,?_,fun x c e=>?_,fun p hp=>?_,hok,I.len⟩
 ·exact keep b o (neL b o e) hb (neC b o e hx) (I.base.keep b o e n hb hx) (I.base.free b o e n hx)
 ·obtain⟨sl,e1⟩:=I.base.slot b o e n hb hx
  obtain⟨sl',e2⟩:=slot b _ (neL b o e) hb (neC b o e hx) e1 (I.base.free b o e n hx);exact⟨sl',e2⟩
 ·obtain⟨o',e1⟩:=I.base.there b o e hx
  exact free b o' (neC b o e hx) e1 (I.base.free b o e n hx)
 ·obtain⟨o',e1⟩:=I.base.there b o e hx
  exact there b o' (neC b o e hx) e1
 ·obtain⟨m1,e1⟩:=I.base.tbls b ps e
  obtain⟨m2,e2⟩:=tbls b _ e1;exact⟨m1++m2,by rw[e2,Array.append_assoc]⟩
 ·obtain⟨m,hn,hl⟩:=I.loc
  refine⟨m,ns m hn,fun i x v e1 e2 e3=>?_⟩
  obtain⟨u,r,l⟩:=hl i x v e1 e2 e3;refine⟨u,r,?_⟩;rcases l with l|⟨k,c,e,z⟩
  ·exact .inl l
  ·exact .inr ⟨k,c,e,cellK x c e _ z⟩
 ·obtain⟨v,z⟩:=I.cell x c e
  exact⟨v,cellK x c e v z⟩
 ·obtain⟨m,⟨o,_,_,ho,_⟩,_⟩:=I.loc
  exact free _ o (fun z=>(hch _ z).2.1 rfl) ho I.free
 ·obtain⟨v,o,ho,hd⟩:=I.cell x c e
  exact free c o (fun z=>(hch c z).2.2.1 x c e rfl) ho (I.freeC x c e)
 ·obtain⟨e,n,ne,nf,d⟩:=I.pin p hp
  have nch:p.1 ∉ ch:=fun z=>(hch p.1 z).2.2.2 p hp rfl
  exact⟨keep p.1 p.2 ne nf nch e n,free p.1 p.2 nch e n,ne,nf,d⟩
theorem Inv.un{t':Nat}(I:Inv X pa σ H s)(u:Un X.fs [] H H' s.heap h')(hok:HOk X.prog X.w H' h'):Inv X pa σ H' {s with heap:=h',toks:=t' }:=by
 obtain⟨m,⟨o,es,ep,ho,r⟩,_⟩:=id I.loc;obtain⟨sl,hL⟩:=u.any ho I.free (by simp)
 exact I.step (g':=s.gens) (d':=s.drawn) (ch:=[]) (fun _ z=>nomatch z) (fun b o _ hb _ e n=>u.keep b o e n hb (by simp)) (fun b o _ hb _ e n=>u.slot b o e n hb (by simp)) (fun b o _ e n=>u.free b o e n (by simp)) (fun b o _ e=>u.there b o e (by simp)) u.tups u.frzs u.tbls (fun m' hm=>by
  obtain⟨o',es',ep',ho',r'⟩:=hm;rw[ho]at ho';cases ho';exact⟨_,es',ep',hL,r'⟩) hok I.bare
theorem Inv.call{g':Array GenState}{t':Nat}{d':Drawn}{ch:List Addr}(I:Inv X pa σ H s)(u:Un (frs X.stack) ch H H' s.heap h')(hok:HOk X.prog X.w H' h')(hg:AllBare g')
  (hch:∀b∈ch,(b∈X.ex\/X.s₀.heap.objs.size<=b)/\b≠X.env.locals/\(∀x c,X.env.cells.lookup x=some c->c≠b)/\∀p∈X.pn++pa,p.1≠b) :
  Inv X pa σ H' {s with heap:=h',gens:=g',drawn:=d',toks:=t' }:=by
 obtain⟨m,⟨o,es,ep,ho,r⟩,_⟩:=id I.loc;obtain⟨sl,hL⟩:=u.any ho I.free fun z=>(hch _ z).2.1 rfl
 exact I.step (ch:=ch) hch (fun b o hL hb hc e n=>u.keep b o e n (fun z=>(Vv.mp (I.stkSub b z)).elim hL hb) hc) (fun b o _ _ hc e n=>u.any e n hc) (fun b o hc e n=>u.free b o e n hc) (fun b o hc e=>u.there b o e hc) u.tups u.frzs u.tbls (fun m' hm=>by
  obtain⟨o',es',ep',ho',r'⟩:=hm;rw[ho]at ho';cases ho';exact⟨_,es',ep',hL,r'⟩) hok hg
theorem Inv.turned{t':Nat}{it:Addr}(I:Inv X pa σ H s)(k:∀b o,b≠it->s.heap.get? b=some o->h'.get? b=some o)(hn:H it=none)(hL:it≠X.env.locals)
  (h1:it∈X.ex\/X.s₀.heap.objs.size<=it) (h2:∀x c,X.env.cells.lookup x=some c->c≠it) (h3:∀p∈X.pn++pa,p.1≠it):Inv X pa σ H {s with heap:=h',toks:=t' }:=by
 have nit:∀b u,H b=some u->b≠it:=fun b u e z=>by rw[z,hn]at e;cases e
 refine I.step (g':=s.gens) (d':=s.drawn) (ch:=[it]) (fun b hb=>?_) (fun b o _ _ hc e _=>k b o (fun z=>hc (by simp[z])) e) (fun b o _ _ hc e _=>⟨o.slots,k b o (fun z=>hc (by simp[z])) e⟩) (fun _ _ _ _ n=>n)
  (fun b o hc e=>⟨o,k b o (fun z=>hc (by simp[z])) e⟩) (fun _ _ e=>e) (fun _ _ _ e=>e) (fun b ps e=>⟨#[],by rw[e];simp⟩) (fun m hm=>?_) (fun b u e=>?_) I.bare
 ·have e:b=it:=by simpa using hb
  subst e;exact⟨h1,hL,h2,h3⟩
 ·obtain⟨o,es,ep,ho,r⟩:=hm
  exact⟨o,es,ep,k _ o (Ne.symm hL) ho,r⟩
 ·refine(I.hok b u e).stay (fun c v hc q=>k c v ?_ q) (fun _ q=>q) fun _ _ q=>q
  rcases hc with z|z
  ·rw[z];exact nit b u e
  ·exact nit c _ z
theorem Inv.tok(I:Inv X pa σ H s)(t:Nat):Inv X pa σ H {s with toks:=t}:=I.un (h':=s.heap) (t':=t) Un.refl I.hok
theorem Inv.kept{t':Nat}(I:Inv X pa σ H s)(k:∀b u,s.heap.get? b=some u->h'.get? b=some u):Inv X pa σ H {s with heap:=h',toks:=t' }:=I.un (Un.kept k) (I.hok.kept k)
theorem Inv.laid{a:Addr}{o:HO}{t':Nat}(I:Inv X pa σ H s)(k:∀b u,s.heap.get? b=some u->h'.get? b=some u)(hp:s.heap.objs.size<=a)(new:ObjOk X.prog X.w (upd H a o) h' a o) :
  Inv X pa σ (upd H a o) {s with heap:=h',toks:=t' }:=I.un (Un.laid k hp (I.hok.fresh hp)) (I.hok.laid k hp new)
theorem Inv.write{x e:Addr}{o:HO}{t':Nat}(I:Inv X pa σ H s)(mu:Mut (H x))(he:e=x\/H e=some (.own x))(k:∀b u,b≠e->s.heap.get? b=some u->h'.get? b=some u)(heo:∃u,h'.get? e=some u)
  (new:ObjOk X.prog X.w (upd H x o) h' x o):Inv X pa σ (upd H x o) {s with heap:=h',toks:=t' }:=I.un (Un.write mu he k heo) (I.hok.write mu he k heo new)
theorem Inv.pins_of{pins':List (Addr×Obj)}(I:Inv X pa σ H s)(h:∀p∈pins',s.heap.get? p.1=some p.2/\H p.1=none/\p.1≠X.env.locals/\p.1 ∉ X.fs/\∀v,p.2.data≠.cell v):Inv X pins' σ H s :=
 ⟨I.ok,I.os,I.bare,I.base,I.loc,I.cell,I.free,I.freeC,fun p hp=>(Vbh.mp hp).elim (fun z=>I.pin p (Vde _ z)) (h p),I.hok,I.len⟩
theorem Xkx{N:List Str}(hN:N.Nodup){i j:Nat}{x:Str}(a:N[i]?=some x)(b:N[j]?=some x):i=j:=by
 obtain⟨h1,e1⟩:=Vi.mp a;obtain⟨h2,e2⟩:=Vi.mp b;exact(List.getElem_inj hN).mp (e1.trans e2.symm)
theorem Xjj{M:Model}{A:Uu}{E:Vb->Vc->Prop}{i:Nat}{x:Str}{v:V}{u:Vb}{Q:Unit->Vc->Prop}(I:Inv X pa σ H s)(hN:X.N.Nodup)(hi:X.N[i]?=some x)(hx:Loc X.env.scope x)(r:RelV v u)
  (h:∀s',Inv X pa (σ.set i (some v)) H s'->(∃a,Vac a s.heap s'.heap/\(a=X.env.locals\/X.env.cells.lookup x=some a))->Q () s') (hf:X.fn x=true\/X.env.scope.names.lookup x=some .local:=by first|exact .inl rfl|exact .inr rfl|assumption):Vf M A (storeName X.env x u) Q E s:=by
 obtain⟨m,hn,hl⟩:=id I.loc;have hcls:(X.env.scope.kind == .class||(X.env.scope.kind == .module&&X.env.locals != X.env.globals))=false:=by rw[I.ok.kind];rfl
 have hiσ:i < σ.length:=by rw[I.len];exact(Vi.mp hi).1
 have cne:=I.cne;have tracked:∀ {a:Addr} {h':Heap},(∃o,s.heap.get? a=some o/\H a=none)->Vac a s.heap h'->HOk X.prog X.w H h':=fun {a h'} ha hs b ob e=>by
  obtain⟨_,_,hfree⟩:=ha;refine(I.hok b ob e).stay (fun c w' hc q=>(hs.2 c ?_).trans q) (fun _ q=>q) fun _ _ q=>q
  rintro rfl
  rcases hc with rfl|hc
  ·rw[hfree]at e;cases e
  ·rw[hfree]at hc;cases hc
 rcases hx with hk|hk
 ·refine wpAny_storeName_local hk hn (fun h' hn' hs=>?_) hcls
  obtain⟨oL,_,_,hoL,_⟩:=id hn;refine h _ ⟨I.ok,I.os,I.bare,⟨fun b o e n hb hx=>?_,fun b o e n hb hx=>?_,I.base.free,fun b o e hx=>?_,I.base.tups,I.base.frzs,I.base.tbls⟩,⟨_,hn',fun j y v' e1 e2 e3=>?_⟩,fun y c e=>?_,I.free,I.freeC,fun p hp=>?_,tracked ⟨oL,hoL,I.free⟩ hs,by simpa using I.len⟩ ⟨_,hs,.inl rfl⟩
  ·exact(hs.2 b (V8 (V6 (Vu e) I.ok.above))).trans (I.base.keep b o e n hb hx)
  ·obtain⟨sl,e1⟩:=I.base.slot b o e n hb hx
   exact⟨sl,(hs.2 b (V8 (V6 (Vu e) I.ok.above))).trans e1⟩
  ·obtain⟨o',e1⟩:=I.base.there b o e hx
   exact⟨o',(hs.2 b (V8 (V6 (Vu e) I.ok.above))).trans e1⟩
  ·by_cases hj:j=i
   ·subst hj
    rw[hi]at e1;cases e1;rw[Vbs hiσ]at e2;cases e2;exact⟨u,r,.inl ⟨hk,by simp⟩⟩
   ·rw[Vaq (Ne.symm hj)]at e2
    obtain⟨u',r',q⟩:=hl j y v' e1 e2 e3;refine⟨u',r',?_⟩;rcases q with⟨k,e⟩|⟨k,c,e,z⟩
    ·refine .inl ⟨k,?_⟩
     have:y≠x:=fun e=>hj (Xkx hN e1 (e▸hi))
     simp[this,e]
    ·exact .inr ⟨k,c,e,z.sameBut hs (cne y c e)⟩
  ·obtain⟨w',z⟩:=I.cell y c e
   exact⟨w',z.sameBut hs (cne y c e)⟩
  ·obtain⟨e,n,ne,nf,d⟩:=I.pin p hp
   exact⟨(hs.2 p.1 ne).trans e,n,ne,nf,d⟩
 ·have hfn:X.fn x=true:=by
   rcases hf with z|z
   ·exact z
   ·rw[z]at hk;cases hk
  obtain⟨c,hc⟩:=I.ok.has x (.inl hk);obtain⟨w',z⟩:=I.cell x c hc;refine wpAny_storeName_cell I.ok.kind hk hc z (fun h' hc' hs=>?_)
  obtain⟨oc,hoc,hocd⟩:=id z;refine h {s with heap:=h' } ⟨I.ok,I.os,I.bare,⟨fun b o e n hb hx=>?_,fun b o e n hb hx=>?_,I.base.free,fun b o e hx=>?_,I.base.tups,I.base.frzs,I.base.tbls⟩,⟨m,hn.sameBut hs (Ne.symm (cne x c hc)),fun j y v' e1 e2 e3=>?_⟩,fun y c' e=>?_,I.free,I.freeC,fun p hp=>?_,tracked ⟨oc,hoc,I.freeC x c hc⟩ hs,by simpa using I.len⟩ ⟨c,hs,.inr hc⟩
  ·exact(hs.2 b (V8 (V6 (Vu e) (I.ok.cab x c hfn hc)))).trans (I.base.keep b o e n hb hx)
  ·obtain⟨sl,e1⟩:=I.base.slot b o e n hb hx
   exact⟨sl,(hs.2 b (V8 (V6 (Vu e) (I.ok.cab x c hfn hc)))).trans e1⟩
  ·obtain⟨o',e1⟩:=I.base.there b o e hx
   exact⟨o',(hs.2 b (V8 (V6 (Vu e) (I.ok.cab x c hfn hc)))).trans e1⟩
  ·by_cases hj:j=i
   ·subst hj
    rw[hi]at e1;cases e1;rw[Vbs hiσ]at e2;cases e2;exact⟨u,r,.inr ⟨.inl hk,c,hc,hc'⟩⟩
   ·rw[Vaq (Ne.symm hj)]at e2
    obtain⟨u',r',q⟩:=hl j y v' e1 e2 e3;refine⟨u',r',?_⟩;rcases q with q|⟨k,c',e,z'⟩
    ·exact .inl q
    ·refine .inr ⟨k,c',e,z'.sameBut hs ?_⟩
     rintro rfl
     exact hj (Xkx hN e1 (I.ok.inj _ _ _ e hc▸hi))
  ·by_cases hcc:c'=c
   ·subst hcc;exact⟨_,hc'⟩
   ·obtain⟨w2,z2⟩:=I.cell y c' e
    exact⟨w2,z2.sameBut hs hcc⟩
  ·obtain⟨e,n,ne,nf,d⟩:=I.pin p hp
   refine⟨(hs.2 p.1 ?_).trans e,n,ne,nf,d⟩;intro q;rw[q,hoc]at e;have q':oc=p.2:=Ue e;exact d w' (by rw[<- q'];exact hocd)
theorem Xbg{M:Model}{A:Uu}{E:Vb->Vc->Prop}{i:Nat}{x:Str}{v:V}{u:Vb}{Q:Unit->Vc->Prop}(I:Inv X pa σ H s)(hN:X.N.Nodup)(hi:X.N[i]?=some x)(hx:Loc X.env.scope x)(r:RelV v u)
  (h:∀s',Inv X pa (σ.set i (some v)) H s'->Q () s') (hf:X.fn x=true\/X.env.scope.names.lookup x=some .local:=by first|exact .inl rfl|exact .inr rfl|assumption):Vf M A (storeName X.env x u) Q E s :=
 Xjj I hN hi hx r (fun s' I' _=>h s' I') hf
theorem Inv.call'{s':Vc}{ch:List Addr}(I:Inv X pa σ H s)(ho:s'.os=s.os)(u:Un (frs X.stack) ch H H' s.heap s'.heap)(hok:HOk X.prog X.w H' s'.heap)(hg:AllBare s'.gens)
  (hch:∀b∈ch,(b∈X.ex\/X.s₀.heap.objs.size<=b)/\b≠X.env.locals/\(∀x c,X.env.cells.lookup x=some c->c≠b)/\∀p∈X.pn++pa,p.1≠b):Inv X pa σ H' s':=by
 obtain⟨h',g',d',t',o'⟩:=s';have e:o'=s.os:=ho;subst e;exact I.call (g':=g') (t':=t') (d':=d') u hok hg hch
end
abbrev XK:=Vb->Option Addr->Hp->Prop
noncomputable abbrev St:=List (Option V)
abbrev VK:=V->Hp->Prop
abbrev TE:=St->Hp->VK->Prop
def EP(X:Cx)(pa:List (Addr×Obj))(σ:St)(Q:VK)(u:Vb)(s':Vc):Prop:=∃v H',Inv X pa σ H' s'/\RelV v u/\Q v H'
def TP(X:Cx)(pa:List (Addr×Obj))(σ:St)(Q:Bool->Hp->Prop)(b:Bool)(s':Vc):Prop:=∃H',Inv X pa σ H' s'/\Q b H'
def PE(X:Cx)(e:Expr)(t:TE):Prop :=
 ∀(pa:List (Addr×Obj)) (s:Vc) (σ:St) (H:Hp) (Q:VK),Inv X pa σ H s->t σ H Q->Vf (Vk X.prog X.w) X.A (eval e X.env) (EP X pa σ Q) X.xe s
theorem thn{α:Type}{t:Sem α}{Q Q':α->Vc->Prop}{M:Model}{A:Uu}{E:Vb->Vc->Prop}{s:Vc}(h:Vf M A t Q E s)(hQ:∀a s,Q a s->Q' a s):Vf M A t Q' E s:=Vn h hQ fun _ _ x=>x
end L2
namespace L2
open PySem PySem.Spec PyProof.Rows
section
variable{X:Cx}
theorem bin{a b:Expr}{ta tb:TE}(ha:PE X a ta)(hb:PE X b tb){pa:List (Addr×Obj)}{s:Vc}{σ:St}{H:Hp}{R:V->V->Hp->Prop}(I:Inv X pa σ H s)(h:ta σ H fun x H1=>tb σ H1 fun y H2=>R x y H2)
  {α:Type} {Q:α->Vc->Prop} {f:Vb->Vb->Sem α}
  (hf:∀v u s2 x y H2,Inv X pa σ H2 s2->RelV x v->RelV y u->R x y H2->Vf (Vk X.prog X.w) X.A (f v u) Q X.xe s2) :
  Vf (Vk X.prog X.w) X.A (eval a X.env) (fun v s₁=>Vf (Vk X.prog X.w) X.A (eval b X.env) (fun u s₂=>Vf (Vk X.prog X.w) X.A (f v u) Q X.xe s₂) X.xe s₁) X.xe s:=by
 refine thn (ha pa s σ H _ I h) fun v s1 ⟨x,H1,I1,r1,q1⟩=>?_
 refine thn (hb pa s1 σ H1 _ I1 q1) fun u s2 ⟨y,H2,I2,r2,q2⟩=>?_
 exact hf v u s2 x y H2 I2 r1 r2 q2
noncomputable def X8y(i:Nat):TE:=fun σ H Q=>∃v,σ[i]?=some (some v)/\Q v H
noncomputable def tC(v:V):TE:=fun _ H Q=>Q v H
theorem X2b {i:Nat} {x:Str} {pos:Pos} (hN:X.N[i]?=some x) (hv:Vis X.env.scope x) (hd:(x==("__debug__" : Str))=false:=by decide) (hcd:(x==("__classdict__" : Str))=false:=by decide):PE X (.Name x pos) (X8y i):=by
 intro pa s σ H Q I h;obtain⟨v,e,h⟩:=h;obtain⟨m,hn,hl⟩:=I.loc;obtain⟨u,r,l⟩:=hl i x v hN e hv;have fin:EP X pa σ Q u s:=⟨v,H,I,r,h⟩;rcases l with⟨hk,hm⟩|⟨hk,c,hc,hcell⟩
 ·exact wpAny_Name (wpAny_loadName_local I.ok.kind hk hn hm fin) hd
 ·rcases hk with hk|hk
  ·exact wpAny_Name (wpAny_loadName_cell I.ok.kind hk hc hcell fin) hd
  ·exact wpAny_Name (wpAny_loadName_free I.ok.kind hk hc hcell fin hcd) hd
theorem X2c{i j pos}:PE X (.Constant (.int i) j pos) (tC (.int i)):=fun _ _ _ H _ I h=>wpAny_Constant_int ⟨.int i,H,I.tok _,⟨_,rfl⟩,h⟩
theorem X6v{b j pos}:PE X (.Constant (.bool b) j pos) (tC (.bl b)):=fun _ _ _ H _ I h=>Constant_bool ⟨.bl b,H,I,rfl,h⟩
theorem X2d{j pos}:PE X (.Constant .none j pos) (tC .non):=fun _ _ _ H _ I h=>Constant_none ⟨.non,H,I,rfl,h⟩
theorem X2e{x j pos}:PE X (.Constant (.str x) j pos) (tC (.str x)):=fun _ _ _ H _ I h=>Calls.Constant_str ⟨.str x,H,I.tok _,⟨_,rfl⟩,h⟩
def Gl(X:Cx)(x:Str):Prop:=X.env.kindOf x=some .globalImplicit
theorem Xc2{E:Vb->Vc->Prop}{pa:List (Addr×Obj)}{s:Vc}{σ:St}{H:Hp}{x:Str}{u:Vb}{pos:Pos}{Q:Vb->Vc->Prop}(I:Inv X pa σ H s)(hg:Gl X x)(hm:X.mg x=some u)(h:Q u s)
  (hd:(x==("__debug__" : Str))=false:=by decide):Vf (Vk X.prog X.w) X.A (eval (.Name x pos) X.env) Q E s :=
 Vg8 I.ok.kind hg (Calls.loadGlobal_global (by rw[I.ok.glob];exact I.mod.glob.keeps I.bk) hm h) hd
theorem Yj{E:Vb->Vc->Prop}{pa:List (Addr×Obj)}{s:Vc}{σ:St}{H:Hp}{x:Str}{u:Vb}{pos:Pos}{Q:Vb->Vc->Prop}(I:Inv X pa σ H s)(hg:Gl X x)(hm:X.mg x=none)(hv:Vdm x=some u)(h:Q u s)
  (hn:x ≠ "__name__" := by decide) (hd:(x==("__debug__" : Str))=false:=by decide):Vf (Vk X.prog X.w) X.A (eval (.Name x pos) X.env) Q E s:=by
 obtain⟨mb,h1,h2⟩:=I.mod.blt;exact Vg8 I.ok.kind hg (Calls.loadGlobal_builtin (by rw[I.ok.glob];exact I.mod.glob.keeps I.bk) hm (by rw[I.ok.blt];exact h1.keeps I.bk) ((h2 x hn).trans hv) h) hd
variable{a b:Expr}{ta tb:TE}{pos:Pos}
variable{tA tB':TT}{Yt:List Expr}
end
end L2
namespace L2
open PySem PySem.Spec PyProof.Rows
def SqL(K:Vg)(H:Hp)(a:Addr)(xs:List V):Prop :=
 Rd H a (.lst xs) \/
  ∃(o:Obj) (its:Array Vb) (n:Nat),K.lookup a=some o/\o.cls=.type "list" /\ o.dict=none/\o.data=.seq its n/\its.size<=Vw/\Vals xs its.toList
def SqT(K:Vg)(H:Hp)(a:Addr)(xs:List V):Prop :=
 Rd H a (.tup xs) \/
  ∃(o:Obj) (its:Array Vb) (n:Nat),K.lookup a=some o/\o.cls=.type "tuple" /\ o.data=.seq its n/\its.size<=Vw/\Vals xs its.toList
noncomputable def X8z:Vb->Option V
 |.none=>some .non
 |.bool b=>some (.bl b)
 |.int i _=>some (.int i)
 |.str x _=>some (.str x)
 |.bytes b _=>some (.byt b)
 |.float b _=>some (.flt b)
 |.ref a=>some (.ref a)
 |.type n=>some (.ty n)
 |_=>none
theorem RelV.abs{x:V}{u:Vb}(r:RelV x u):X8z u=some x:=by
 cases x with
 |non=>cases r;rfl
 |bl _=>cases r;rfl
 |int _=>obtain⟨t,rfl⟩:=r;rfl
 |str _=>obtain⟨t,rfl⟩:=r;rfl
 |byt _=>obtain⟨t,rfl⟩:=r;rfl
 |flt _=>obtain⟨t,rfl⟩:=r;rfl
 |ref _=>cases r;rfl
 |ty _=>cases r;rfl
theorem RelV.inj{x y:V}{u:Vb}(r:RelV x u)(q:RelV y u):x=y:=Ue (r.abs.symm.trans q.abs)
theorem Vals.inj:∀ {xs ys:List V} {us:List Vb},Vals xs us->Vals ys us->xs=ys
 |_,_,_,.nil,.nil=>rfl
 |_,_,_,.cons r t,.cons r' t'=>by rw[r.inj r',Vals.inj t t']
section
variable{X:Cx}{pa:List (Addr×Obj)}{σ:St}{H:Hp}{s:Vc}{a:Addr}{xs ys:List V}
theorem SqL.of{K:Vg}(h:H a=some (.lst xs)):SqL K H a xs:=.inl (.inl h)
theorem SqT.of{K:Vg}(h:H a=some (.tup xs)):SqT K H a xs:=.inl (.inl h)
theorem Inv.list(I:Inv X pa σ H s)(h:SqL X.K H a xs):∃its:List Vb,Vals xs its/\PlainL s.heap a its.toArray/\xs.length<=Vw:=by
 rcases h with h|⟨o,its,n,hk,hc,hd,hs,hz,r⟩
 ·obtain⟨z,its,n,r,e⟩:=h.ok I.hok
  exact⟨its,r,⟨_,n,e,rfl,rfl,rfl⟩,z⟩
 ·refine⟨its.toList,r,⟨o,n,I.kIn a o hk,hc,hd,by simpa using hs⟩,?_⟩
  have e:=r.length;simp only[Ub]at e;omega
theorem Inv.tuple(I:Inv X pa σ H s)(h:SqT X.K H a xs):∃its:List Vb,Vals xs its/\IsTup s.heap a its.toArray/\xs.length<=Vw:=by
 rcases h with h|⟨o,its,n,hk,hc,hs,hz,r⟩
 ·obtain⟨z,its,r,p⟩:=h.ok I.hok
  exact⟨its,r,p,z⟩
 ·refine⟨its.toList,r,⟨o,I.kIn a o hk,hc,n,by simpa using hs⟩,?_⟩
  have e:=r.length;simp only[Ub]at e;omega
theorem Inv.list_inj(I:Inv X pa σ H s)(h:SqL X.K H a xs)(h':SqL X.K H a ys):xs=ys:=by
 obtain⟨its,r,⟨o,n,e,_,_,d⟩,_⟩:=I.list h;obtain⟨its',r',⟨o',n',e',_,_,d'⟩,_⟩:=I.list h';rw[e]at e';cases e';rw[d]at d';injection d' with d1 _
 have:its=its':=by simpa using congrArg Array.toList d1
 subst this;exact r.inj r'
theorem Inv.tuple_inj(I:Inv X pa σ H s)(h:SqT X.K H a xs)(h':SqT X.K H a ys):xs=ys:=by
 obtain⟨its,r,⟨o,e,_,n,d⟩,_⟩:=I.tuple h;obtain⟨its',r',⟨o',e',_,n',d'⟩,_⟩:=I.tuple h';rw[e]at e';cases e';rw[d]at d';injection d' with d1 _
 have:its=its':=by simpa using congrArg Array.toList d1
 subst this;exact r.inj r'
end
noncomputable abbrev Cx.wish(X:Cx)(E:Vb->Vc->Prop):Cx:={ X with xe:=E}
theorem Cx.Ok.wish{X:Cx}(ok:X.Ok)(E:Vb->Vc->Prop):(X.wish E).Ok :=
 ⟨ok.mod,ok.kind,ok.glob,ok.blt,ok.above,ok.inj,ok.has,ok.cab,ok.hd,ok.frames,ok.stk,ok.exf,ok.bs,ok.bsz,ok.noex,ok.exfs,ok.funs,ok.frf⟩
theorem Cx.Ok.unwish{X:Cx}{E:Vb->Vc->Prop}(ok:(X.wish E).Ok):X.Ok :=
 ⟨ok.mod,ok.kind,ok.glob,ok.blt,ok.above,ok.inj,ok.has,ok.cab,ok.hd,ok.frames,ok.stk,ok.exf,ok.bs,ok.bsz,ok.noex,ok.exfs,ok.funs,ok.frf⟩
section
variable{X:Cx}{pa:List (Addr×Obj)}{σ:St}{H:Hp}{s:Vc}{E:Vb->Vc->Prop}
theorem Inv.wish(I:Inv X pa σ H s)(E:Vb->Vc->Prop):Inv (X.wish E) pa σ H s:=⟨I.ok.wish E,I.os,I.bare,I.base,I.loc,I.cell,I.free,I.freeC,I.pin,I.hok,I.len⟩
theorem Inv.unwish(I:Inv (X.wish E) pa σ H s):Inv X pa σ H s:=⟨I.ok.unwish,I.os,I.bare,I.base,I.loc,I.cell,I.free,I.freeC,I.pin,I.hok,I.len⟩
end
section
variable{X:Cx}{st:Stmt}{Yt:List Stmt}{t u:TS}{e:Expr}{te:TE}{pos:Pos}
theorem Inv.quiet{pa:List (Addr×Obj)}{σ:St}{H:Hp}{s:Vc}(I:Inv X pa σ H s):interactive X.env=false:=by simp[interactive,I.ok.kind]
end
abbrev TG:=V->St->Hp->(St->Hp->Prop)->Prop
abbrev TGs:=List V->St->Hp->(St->Hp->Prop)->Prop
def PG(X:Cx)(target:Expr)(t:TG):Prop :=
 ∀(pa:List (Addr×Obj)) (s:Vc) (σ:St) (H:Hp) (v:V) (u:Vb) (Q:St->Hp->Prop),Inv X pa σ H s->RelV v u->t v σ H Q ->
  Vf (Vk X.prog X.w) X.A (assign target X.env u) (fun _ s'=>∃ σ' H',Inv X pa σ' H' s'/\Q σ' H') X.xe s
def PGs(X:Cx)(ts:List Expr)(t:TGs):Prop :=
 ∀(pa:List (Addr×Obj)) (s:Vc) (σ:St) (H:Hp) (vs:List V) (us:List Vb) (Q:St->Hp->Prop),Inv X pa σ H s->Vals vs us->t vs σ H Q ->
  Vf (Vk X.prog X.w) X.A (assignInOrder ((Vbe ts X.env).map (·.2)) us) (fun _ s'=>∃ σ' H',Inv X pa σ' H' s'/\Q σ' H') X.xe s
abbrev X80:=V->V->V->Hp->(Hp->Prop)->Prop
def X81(X:Cx)(t:X80):Prop :=
 ∀(pa:List (Addr×Obj)) (s:Vc) (σ:St) (H:Hp) (o i v:V) (ov iv u:Vb) (Q:Hp->Prop),Inv X pa σ H s->RelV o ov->RelV i iv->RelV v u->t o i v H Q ->
  Vf (Vk X.prog X.w) X.A (setItem ov iv u) (fun _ s'=>∃H',Inv X pa σ H' s'/\Q H') X.xe s
section
variable{X:Cx}{pos:Pos}
noncomputable def Xxr(i:Nat):TG:=fun v σ H Q=>Q (σ.set i (some v)) H
theorem Xyo{i:Nat}{x:Str}(hN:X.N.Nodup)(hi:X.N[i]?=some x)(hx:Loc X.env.scope x)(hf:X.fn x=true\/X.env.scope.names.lookup x=some .local:=by first|exact .inl rfl|exact .inr rfl|assumption):PG X (.Name x pos) (Xxr i):=by
 intro pa s σ H v u Q I r h;exact Vhe (Xbg I hN hi hx r (fun s' I'=>⟨_,H,I',h⟩) hf)
noncomputable def X2f:TGs:=fun vs σ H Q=>vs=[]/\Q σ H
noncomputable def Xxs(t:TG)(u:TGs):TGs:=fun vs σ H Q=>∃v r,vs=v::r/\t v σ H fun σ' H'=>u r σ' H' Q
theorem Xyp:PGs X [] X2f:=by
 intro pa s σ H vs us Q I r h;obtain⟨e,h⟩:=h;subst e;cases r;exact assignInOrder_nil ⟨σ,H,I,h⟩
theorem Xud{e:Expr}{es:List Expr}{t:TG}{u:TGs}(h1:PG X e t)(h2:PGs X es u)
  (hs:(Vbe (e::es) X.env).map (·.2)=assign e X.env::(Vbe es X.env).map (·.2):=by rfl):PGs X (e::es) (Xxs t u):=by
 intro pa s σ H vs us Q I r h;obtain⟨v,vr,e1,h⟩:=h;subst e1;cases r with
 |cons r rr =>
  rw[hs];refine Vg1 (thn (h1 pa s σ H _ _ _ I r h) fun _ s1 ⟨σ1,H1,I1,q1⟩=>?_)
  exact h2 pa s1 σ1 H1 _ _ Q I1 rr q1
noncomputable def X82(K:Vg)(n:Nat)(t:TGs):TG:=fun v σ H Q=>∃a xs,v=.ref a/\SqT K H a xs/\xs.length=n/\t xs σ H Q
theorem X2g{es:List Expr}{k:Nat}{t:TGs}{n:Nat}(hc:X.calm=true)(h:PGs X es t)
  (hn:(Vbe es X.env).length=n:=by rfl) (hst:(Vbe es X.env).findIdx? (·.1)=none:=by rfl):PG X (.Tuple es k pos) (X82 X.K n t):=by
 intro pa s σ H v u Q I r hw;obtain⟨a,xs,e1,hq,hl,hw⟩:=hw;subst e1;cases r;obtain⟨its,rv,ht,hz⟩:=I.tuple hq;refine assign_Tuple_tuple (I.ok.hd hc) ht (by simp[hn,<- hl,rv.length]) hst fun h' hx=>?_
 have I1:Inv X pa σ H {s with heap:=h' }:=I.kept (t':=s.toks) fun b o e=>hx b o (V8 (Vu e)) e
 exact h pa _ σ H xs _ Q I1 (by simpa using rv) hw
end
structure It where
 go:Nat->Hp->Prop
 yld:Nat->Hp->V->Hp->Prop
 stop:Nat->Hp->Prop
def Xat(X:Cx)(pa:List (Addr×Obj))(H:Hp)(b:Addr):Prop :=
 H b=none/\b≠X.env.locals/\b ∉ X.fs/\(b∈X.ex\/X.s₀.heap.objs.size<=b)/\(∀x c,X.env.cells.lookup x=some c->c≠b)/\∀p∈X.pn++pa,p.1≠b
theorem Inv.fpOk{X:Cx}{pa:List (Addr×Obj)}{σ:St}{H H':Hp}{s:Vc}{b:Addr}(I:Inv X pa σ H s)(hb:s.heap.objs.size<=b)(hn:H' b=none):Xat X pa H' b:=by
 refine⟨hn,Vca (V6 I.lt hb),I.nofs hb,.inr (U4 I.sz hb),fun x c e z=>?_,fun p hp z=>?_⟩
 ·obtain⟨v,q⟩:=I.cell x c e
  exact aB0 (V6 q.lt (by rw[z];exact hb)) (Vds _)
 ·exact aB0 (V6 (Vu (I.pin p hp).1) (by rw[z];exact hb)) (Vds _)
structure Turn(P:V1)(w:V9)(K:Vg)(tg:Expr)(J:It)(fp:List Addr)(it:Addr)(tn:Nat->Heap->Prop):Prop where
 mem:it∈fp
 obj:∀i h,tn i h->∀b∈fp,∃o,h.get? b=some o/\∀v,o.data≠.cell v
 keep:∀i h h',tn i h->(∀b∈fp,∀o,h.get? b=some o->h'.get? b=some o)->tn i h'
 item:∀(X:Cx),X.prog=P->X.w=w->X.K=K->X.calm=true->∀(i:Nat) (pa:List (Addr×Obj)) (s:Vc) (σ:St) (H:Hp) (E:Vb->Vc->Prop),Inv X pa σ H s->(∀b∈fp,Xat X pa H b)->tn i s.heap->J.go i H ->
  Vf (Vk P w) X.A (Vdd (.ref it)) (fun r s1=>∃u,r=some u /\
   Vf (Vk P w) X.A (Vdv tg (.ref it) u) (fun _ s2=>∃x H',Inv X pa σ H' s2/\RelV x u/\J.yld i H x H'/\tn (i+1) s2.heap/\∀b∈fp,H' b=none) E s1) E s
 done:∀(X:Cx),X.prog=P->X.w=w->X.K=K->X.calm=true->∀(i:Nat) (pa:List (Addr×Obj)) (s:Vc) (σ:St) (H:Hp) (E:Vb->Vc->Prop),Inv X pa σ H s->(∀b∈fp,Xat X pa H b)->tn i s.heap->J.stop i H ->
  Vf (Vk P w) X.A (Vdd (.ref it)) (fun r s1=>r=none/\Inv X pa σ H s1) E s
 self:∀(A:Uu) (i:Nat) (s:Vc) (Q:Vb->Vc->Prop) (E:Vb->Vc->Prop),tn i s.heap->Q (.ref it) s->Vf (Vk P w) A (Vdw (.ref it)) Q E s
def PIE(X:Cx)(pa:List (Addr×Obj))(σ:St)(tg:Expr)(R:It->Hp->Prop)(itv:Vb)(s2:Vc):Prop :=
 ∃(it:Addr) (fp:List Addr) (tn:Nat->Heap->Prop) (J:It) (H':Hp),itv=.ref it/\Inv X pa σ H' s2/\Turn X.prog X.w X.K tg J fp it tn/\tn 0 s2.heap/\(∀b∈fp,Xat X pa H' b)/\R J H'
theorem Xkl{M:Model}{A:Uu}{E:Vb->Vc->Prop}{s:Vc}{tg:Expr}{it:Addr}{u:Vb}{o:Obj}{n:String}{vs:Array Vb}{Q:Unit->Vc->Prop}(ho:s.heap.get? it=some o)(hc:o.cls=.type n)(hd:o.data=.fields vs)
  (hn:["enumerate","zip","dict_itemiterator","dict_reverseitemiterator","odict_iterator","itertools.zip_longest","itertools.pairwise"].contains n=false) (hQ:Q () s):Vf M A (Vdv tg (.ref it) u) Q E s:=by
 unfold Vdv;cases tg<;>first
  |exact Vd hQ
  | (cases u<;>first
    |exact Vd hQ
    | (refine Va (Vfa ho ?_)
       rw[hc,hd];show Vf M A (if (["enumerate","zip","dict_itemiterator","dict_reverseitemiterator","odict_iterator","itertools.zip_longest","itertools.pairwise"].contains n&&vs[0]?==some (Uq _))=true then _ else _) Q E s
       rw[iN0 (by intro h;rw[hn,Bool.false_and]at h;cases h)]
       exact Vd hQ))
noncomputable def Itl(K:Vg)(a:Addr):It :=
 ⟨fun i H=>∃xs x,SqL K H a xs/\xs[i]?=some x,fun i H x H'=>H'=H/\∀xs,SqL K H a xs->xs[i]?=some x,fun i H=>∃xs,SqL K H a xs/\xs.length<=i⟩
noncomputable def Itt(K:Vg)(a:Addr):It :=
 ⟨fun i H=>∃xs x,SqT K H a xs/\xs[i]?=some x,fun i H x H'=>H'=H/\∀xs,SqT K H a xs->xs[i]?=some x,fun i H=>∃xs,SqT K H a xs/\xs.length<=i⟩
noncomputable def Itr(lo:Int)(n:Nat):It:=⟨fun i _=>i<n,fun i H x H'=>H'=H/\x=.int (lo+i),fun i _=>n<=i⟩
theorem Xrt{P:V1}{w:V9}{K:Vg}{tg:Expr}(a it:Addr):Turn P w K tg (Itl K a) [it] it (fun i h=>h.IsListIter it a i) where
 mem:=by simp
 obj:=fun i h st b hb=>by
  have e:b=it:=by simpa using hb
  subst e;obtain⟨o,e,c,d⟩:=st;exact⟨o,e,fun v z=>by rw[d]at z;cases z⟩
 keep:=fun i h h' st k=>st.at fun o e=>k it (by simp) o e
 item:=by
  intro X hP hw hK hc i pa s σ H E I hf st hg;subst hP hw hK;obtain⟨xs,x,hq,hx⟩:=hg;obtain⟨its,rv,p,hz⟩:=I.list hq;obtain⟨u,hu,ru⟩:=rv.get hx;obtain⟨f0,f1,f2,f3,f4,f5⟩:=hf it (by simp)
  refine wpAny_pyNext_list_item st p.isList (x:=u) (by simpa using hu) fun h' st' sb=>?_
  have I1:Inv X pa σ H {s with heap:=h' }:=I.turned (t':=s.toks) (fun b o hb e=>(sb.2 b hb).trans e) f0 f1 f3 f4 f5
  obtain⟨o,e,c,d⟩:=id st';exact⟨u,rfl,Xkl (s:={s with heap:=h' }) e c d (by decide) ⟨x,H,I1,ru,⟨rfl,fun ys hy=>by rw[I.list_inj hy hq];exact hx⟩,st',fun b hb=>(hf b hb).1⟩⟩
 done:=by
  intro X hP hw hK hc i pa s σ H E I hf st hg;subst hP hw hK;obtain⟨xs,hq,hx⟩:=hg;obtain⟨its,rv,p,hz⟩:=I.list hq;obtain⟨f0,f1,f2,f3,f4,f5⟩:=hf it (by simp)
  have hl:=rv.length;exact wpAny_pyNext_list_end (I.ok.hd hc) st p.isList (by simp;omega) fun h' eb=>⟨rfl,I.turned (t':=s.toks) (fun b o hb e=>eb b o hb e) f0 f1 f3 f4 f5⟩
 self:=fun _ _ _ _ _ st h=>wpAny_pyIter_listiter st h
theorem Xpo{P:V1}{w:V9}{K:Vg}{tg:Expr}(a it:Addr):Turn P w K tg (Itt K a) [it] it (fun i h=>h.IsTupleIter it a i) where
 mem:=by simp
 obj:=fun i h st b hb=>by
  have e:b=it:=by simpa using hb
  subst e;obtain⟨o,e,c,d⟩:=st;exact⟨o,e,fun v z=>by rw[d]at z;cases z⟩
 keep:=fun i h h' st k=>st.at fun o e=>k it (by simp) o e
 item:=by
  intro X hP hw hK hc i pa s σ H E I hf st hg;subst hP hw hK;obtain⟨xs,x,hq,hx⟩:=hg;obtain⟨its,rv,p,hz⟩:=I.tuple hq;obtain⟨u,hu,ru⟩:=rv.get hx;obtain⟨f0,f1,f2,f3,f4,f5⟩:=hf it (by simp)
  refine wpAny_pyNext_tuple_item st (show s.heap.IsTuple a its.toArray from p) (x:=u) (by simpa using hu) fun h' st' sb=>?_
  have I1:Inv X pa σ H {s with heap:=h' }:=I.turned (t':=s.toks) (fun b o hb e=>(sb.2 b hb).trans e) f0 f1 f3 f4 f5
  obtain⟨o,e,c,d⟩:=id st';exact⟨u,rfl,Xkl (s:={s with heap:=h' }) e c d (by decide) ⟨x,H,I1,ru,⟨rfl,fun ys hy=>by rw[I.tuple_inj hy hq];exact hx⟩,st',fun b hb=>(hf b hb).1⟩⟩
 done:=by
  intro X hP hw hK hc i pa s σ H E I hf st hg;subst hP hw hK;obtain⟨xs,hq,hx⟩:=hg;obtain⟨its,rv,p,hz⟩:=I.tuple hq;obtain⟨f0,f1,f2,f3,f4,f5⟩:=hf it (by simp)
  have hl:=rv.length;exact wpAny_pyNext_tuple_end (I.ok.hd hc) st (show s.heap.IsTuple a its.toArray from p) (by simp;omega) fun h' eb=>⟨rfl,I.turned (t':=s.toks) (fun b o hb e=>eb b o hb e) f0 f1 f3 f4 f5⟩
 self:=fun _ _ _ _ _ st h=>wpAny_pyIter_tupleiter st h
theorem Xpp{P:V1}{w:V9}{K:Vg}{tg:Expr}(it:Addr)(lo:Int)(n:Nat):Turn P w K tg (Itr lo n) [it] it (fun i h=>IsRangeIter h it (lo+(i:Nat)*1) ((n:Int)-(i:Nat)) 1) where
 mem:=by simp
 obj:=fun i h st b hb=>by
  have e:b=it:=by simpa using hb
  subst e;exact⟨_,st,fun v z=>by
   have z':Data.fields _=Data.cell v:=z;cases z'⟩
 keep:=fun i h h' st k=>k it (by simp) _ st
 item:=by
  intro X hP hw hK hc i pa s σ H E I hf st hg;subst hP hw hK;obtain⟨f0,f1,f2,f3,f4,f5⟩:=hf it (by simp)
  have W:=Walks.range (prog:=X.prog) (w:=X.w) (I.ok.hd hc) it lo 1 n;refine W.item i s _ _ hg st fun v h' tk hv st' kk=>?_
  obtain⟨t,rfl⟩:=hv;have I1:Inv X pa σ H {s with heap:=h',toks:=tk}:=I.turned (fun b o hb e=>kk b o (by simpa using hb) e) f0 f1 f3 f4 f5
  refine⟨_,rfl,Xkl (s:={s with heap:=h',toks:=tk}) (n := "range_iterator") st' rfl rfl (by decide) ⟨.int (lo+i),H,I1,⟨t,?_⟩,⟨rfl,rfl⟩,st',fun b hb=>(hf b hb).1⟩⟩
  rw[Int.mul_one]
 done:=by
  intro X hP hw hK hc i pa s σ H E I hf st hg;subst hP hw hK;obtain⟨f0,f1,f2,f3,f4,f5⟩:=hf it (by simp)
  exact wpAny_pyNext_range_end (I.ok.hd hc) st (by have:n<=i:=hg;omega) fun h' eb=>⟨rfl,I.turned (t':=s.toks) (fun b o hb e=>eb b o hb e) f0 f1 f3 f4 f5⟩
 self:=fun _ _ _ _ _ st h=>wpAny_pyIter_rangeiter st h
end L2
namespace L2
open PySem PySem.Spec PyProof.Rows
section
variable{X:Cx}{tg:Expr}
theorem Xue{pa:List (Addr×Obj)}{σ:St}{H:Hp}{s:Vc}{R:It->Hp->Prop}{E:Vb->Vc->Prop}{lo hi:Int}{t u v:Tok}{tk:Nat}(I:Inv X pa σ H s)(h1:-(2^62)<=lo)(h2:lo<2^62)(h3:-(2^62)<=hi)(h4:hi<2^62)
  (q:R (Itr lo (hi-lo).toNat) H):Vf (Vk X.prog X.w) X.A (Vdw (.ref s.heap.objs.size)) (PIE X pa σ tg R) E {s with heap:=s.heap.push {cls:=.type "range",data:=.fields #[.int lo t,.int hi u,.int 1 v]},toks:=tk}:=by
 refine wpAny_pyIter_range (IsRange.new ..) (small_one h1 h2 h3 h4) ?_;have I1:Inv X pa σ H {s with heap:=s.heap.push {cls:=.type "range",data:=.fields #[.int lo t,.int hi u,.int 1 v]},toks:=tk}:=I.kept fun b o e=>Ve _ e
 refine⟨(s.heap.push {cls:=.type "range",data:=.fields #[.int lo t,.int hi u,.int 1 v]}).objs.size,[(s.heap.push {cls:=.type "range",data:=.fields #[.int lo t,.int hi u,.int 1 v]}).objs.size],_,_,H,rfl,
  I1.kept (t':=tk) fun b o e=>Ve _ e,Xpp _ lo (hi-lo).toNat,?_,fun b hb=>?_,q⟩
 ·have e1:lo+((0:Nat):Int)*1=lo:=by simp
  have e2:(((hi-lo).toNat:Nat):Int)-((0:Nat):Int)=Va1 lo hi 1:=by rw[rangeSize_one];split<;>omega
  show IsRangeIter _ _ (lo+((0:Nat):Int)*1) ((((hi-lo).toNat:Nat):Int)-((0:Nat):Int)) 1;rw[e1,e2];exact Vm _ rfl
 ·have e:b=(s.heap.push {cls:=.type "range",data:=.fields #[.int lo t,.int hi u,.int 1 v]}).objs.size:=by simpa using hb
  subst e;exact I1.fpOk (Vl _) (I1.hok.fresh (Vl _))
noncomputable def Xa5(fp:List Addr)(h:Heap):List (Addr×Obj):=fp.filterMap fun b=>(h.get? b).map fun o=>(b,o)
theorem Xby{fp:List Addr}{h:Heap}{b:Addr}{o:Obj}(hb:b∈fp)(e:h.get? b=some o):(b,o)∈Xa5 fp h:=Ve2.mpr ⟨b,hb,by rw[e];rfl⟩
theorem Xru{fp:List Addr}{h:Heap}{p:Addr×Obj}(hp:p∈Xa5 fp h):p.1∈fp/\h.get? p.1=some p.2:=by
 obtain⟨b,hb,e⟩:=Ve2.mp hp;cases q:h.get? b with
 |none=>rw[q]at e;cases e
 |some o =>
  rw[q]at e;have e':(b,o)=p:=Ue e;subst e';exact⟨hb,q⟩
theorem Inv.pinned{pa:List (Addr×Obj)}{σ:St}{H:Hp}{s:Vc}{fp:List Addr}(I:Inv X pa σ H s)(hf:∀b∈fp,Xat X pa H b)(ho:∀b∈fp,∃o,s.heap.get? b=some o/\∀v,o.data≠.cell v):Inv X (pa++Xa5 fp s.heap) σ H s :=
 I.pins_of fun p hp=>(Vbh.mp hp).elim (fun z=>I.pin p (U8 _ z)) fun z=>by
  obtain⟨hb,e⟩:=Xru z;obtain⟨f0,f1,f2,_⟩:=hf p.1 hb;obtain⟨o,e',d⟩:=ho p.1 hb;rw[e]at e';cases e';exact⟨e,f0,f1,f2,d⟩
theorem Inv.unpinned{pa pl:List (Addr×Obj)}{σ:St}{H:Hp}{s:Vc}(I:Inv X (pa++pl) σ H s):Inv X pa σ H s:=I.pins_of fun p hp=>I.pin p (U8 _ (Vde _ hp))
end
end L2
namespace L2
open PySem PySem.Spec PyProof.Rows
abbrev R2:=V->V->Hp->VK->Prop
def OpR(X:Cx)(f:Vb->Vb->Sem Vb)(r:R2):Prop :=
 ∀(pa:List (Addr×Obj)) (s:Vc) (σ:St) (H:Hp) (x y:V) (v u:Vb) (Q:VK),Inv X pa σ H s->RelV x v->RelV y u->r x y H Q ->
  Vf (Vk X.prog X.w) X.A (f v u) (EP X pa σ Q) X.xe s
def Xds(X:Cx)(f:Vb)(r:List V->Hp->VK->Prop):Prop :=
 ∀(pa:List (Addr×Obj)) (s:Vc) (σ:St) (H:Hp) (xs:List V) (us:List Vb) (Q:VK),Inv X pa σ H s->Vals xs us->r xs H Q ->
  Vf (Vk X.prog X.w) X.A (call f us) (EP X pa σ Q) X.xe s
def X83(X:Cx)(r:V->Hp->(Bool->Hp->Prop)->Prop):Prop :=
 ∀(pa:List (Addr×Obj)) (s:Vc) (σ:St) (H:Hp) (x:V) (v:Vb) (Q:Bool->Hp->Prop),Inv X pa σ H s->RelV x v->r x H Q ->
  Vf (Vk X.prog X.w) X.A (truthy v) (TP X pa σ Q) X.xe s
section
variable{X:Cx}{a b c:Expr}{ta tb tc:TE}{pos:Pos}
def CMul(i j:Int):Prop:=(-(2^64)<i/\i<2^64)\/(-(2^64)<j/\j<2^64)
theorem CMul.ok{i j:Int}(h:CMul i j):IntMulOk i j:=by
 rcases h with⟨h1,h2⟩|⟨h1,h2⟩
 ·exact .of_left (intBits_le_64 h1 h2)
 ·exact .of_right (intBits_le_64 h1 h2)
noncomputable def X6w:HO->Bool
 |.lst _=>true
 |.ins _ _ _=>true
 |_=>false
theorem Xbo{pa:List (Addr×Obj)}{s:Vc}{σ:St}{H:Hp}{a:Addr}{o:HO}(I:Inv X pa σ H s)(h:H a=some o)(p:X6w o=true):∃ob,s.heap.get? a=some ob/\ob.cls≠.type "tuple" := by
 cases o with
 |lst xs =>
  obtain⟨_,its,n,_,e⟩:xs.length<=Vw/\∃(its:List Vb) (n:Nat),Vals xs its/\s.heap.get? a=some {cls:=.type "list",data:=.seq its.toArray n}:=I.hok a _ h;exact⟨_,e,(by show Vci "list" ≠ .type "tuple";decide+kernel)⟩
 |ins C dx fs =>
  have x:=I.hok a _ h;obtain⟨_,_,_,e,_⟩:=x;exact⟨_,e,(by show Vas C≠.type "tuple";exact fun z=>by cases z)⟩
 |_=>exact aB0 (show false=true from p) V7
def X2h(K:Vg)(x:V)(H:Hp)(k:Bool):Prop :=
 match x with
 |.non=>k=false
 |.bl b=>k=b
 |.int i=>k=(i != 0)
 |.str y=>y.length<=Vw/\k=((y.length:Int) != 0)
 |.byt y=>y.size<=Vw/\k=((y.size:Int) != 0)
 |.ref p=>(∃xs,SqL K H p xs/\k = !xs.isEmpty)\/(∃xs,SqT K H p xs/\k = !xs.isEmpty)\/∃kvs,H p=some (.dK kvs)/\k = !kvs.isEmpty
 |_=>False
theorem Xpq{κ:Type}{kvs:List (κ×V)}{vs:List (κ×Vb)}(r:KV kvs vs):(!vs.isEmpty) = !kvs.isEmpty:=by
 cases r<;>rfl
theorem Xgq{xs:List V}{its:List Vb}(r:Vals xs its):(!its.toArray.isEmpty) = !xs.isEmpty:=by
 cases r<;>simp
theorem Xce:(Vw:Nat)<2^63:=by rw[Va7];decide
theorem X2i:X83 X (fun x H Q=>∃k,X2h X.K x H k/\Q k H):=by
 intro pa s σ H x v Q I rx h;obtain⟨k,e,q⟩:=h;have hl:=Xce;have hs:Vw=16777216:=Va7;cases x with
 |non =>
  cases rx;have e':k=false:=e;subst e';exact truthy_none ⟨H,I,q⟩
 |bl b =>
  cases rx;have e':k=b:=e;subst e';exact Vcs ⟨H,I,q⟩
 |int i =>
  obtain⟨t,rfl⟩:=rx;have e':k=(i != 0):=e;subst e';exact PySem.P.truthy_int ⟨H,I,q⟩
 |str y =>
  obtain⟨t,rfl⟩:=rx;obtain⟨hy,e'⟩:y.length<=Vw/\k=((y.length:Int) != 0):=e;subst e';exact PySem.P.truthy_str (by omega) ⟨H,I.tok _,q⟩
 |byt y =>
  obtain⟨t,rfl⟩:=rx;obtain⟨hy,e'⟩:y.size<=Vw/\k=((y.size:Int) != 0):=e;subst e';exact PySem.W.truthy_bytes (by omega) ⟨H,I.tok _,q⟩
 |ref p =>
  cases rx;have e':(∃xs,SqL X.K H p xs/\k = !xs.isEmpty)\/(∃xs,SqT X.K H p xs/\k = !xs.isEmpty)\/∃kvs,H p=some (.dK kvs)/\k = !kvs.isEmpty:=e;rcases e' with⟨xs,hx,e'⟩|⟨xs,hx,e'⟩|⟨kvs,hx,e'⟩
  ·subst e'
   obtain⟨its,r,pl,hz⟩:=I.list hx;have hlen:=r.length;exact wpAny_truthy_list pl.isList (by simp only[Vp];omega) ⟨H,I.tok _,by rw[Xgq r];exact q⟩
  ·subst e'
   obtain⟨its,r,pl,hz⟩:=I.tuple hx;have hlen:=r.length;exact truthy_tuple pl (by simp only[Vp];omega) ⟨H,I.tok _,by rw[Xgq r];exact q⟩
  ·subst e'
   obtain⟨hz,hS,vs,r,m⟩:kvs.length<=Vw/\(p==Vb1)=false/\∃vs,KV kvs vs/\s.heap.DictOf (Xho X.prog X.w) p vs:=I.hok p _ hx;have hlen:kvs.length=vs.length:=Veo r;exact wpAny_truthy_dict hS m (by omega) ⟨H,I.tok _,by rw[Xpq r];exact q⟩
 |_=>exact(show False from e).elim
theorem Xpr:OpR X (Vck .Add) (fun x y H Q=>∃i j,x=.str i/\y=.str j/\i.length+j.length<=Vw/\Q (.str (i++j)) H):=by
 intro pa s σ H x y v u Q I rx ry h;obtain⟨i,j,rfl,rfl,hz,q⟩:=h;obtain⟨t,rfl⟩:=rx;obtain⟨t',rfl⟩:=ry;exact add_str (fun t' tk=>⟨.str (i++j),H,I.tok _,⟨_,rfl⟩,q⟩) hz
theorem Xkm{x:V}{us:List Vb}(r:Vals [x] us):∃u,us=[u]/\RelV x u:=by
 cases r with
 |cons r1 r2=>cases r2;exact⟨_,rfl,r1⟩
theorem Xxt{x y:V}{us:List Vb}(r:Vals [x,y] us):∃u w',us=[u,w']/\RelV x u/\RelV y w':=by
 cases r with
 |cons r1 r2 =>
  cases r2 with
  |cons r3 r4=>cases r4;exact⟨_,_,rfl,r1,r3⟩
theorem Xrv(hc:X.calm=true):Xds X (.builtin "max") (fun xs H Q=>∃i j,xs=[.int i,.int j]/\Q (.int (if j>i then j else i)) H):=by
 intro pa s σ H xs us Q I r h;obtain⟨i,j,rfl,q⟩:=h;obtain⟨u,w',rfl,⟨t,rfl⟩,⟨t',rfl⟩⟩:=Xxt r;refine max_two_ints (I.ok.hd hc) fun h' tk k=>⟨_,H,I.kept k,?_,q⟩
 by_cases hj:j>i
 ·rw[iP0 hj,iP0 hj];exact⟨_,rfl⟩
 ·rw[iN0 hj,iN0 hj];exact⟨_,rfl⟩
theorem Xrw(hc:X.calm=true):Xds X (.builtin "min") (fun xs H Q=>∃i j,xs=[.int i,.int j]/\Q (.int (if j<i then j else i)) H):=by
 intro pa s σ H xs us Q I r h;obtain⟨i,j,rfl,q⟩:=h;obtain⟨u,w',rfl,⟨t,rfl⟩,⟨t',rfl⟩⟩:=Xxt r;refine min_two_ints (I.ok.hd hc) fun h' tk k=>⟨_,H,I.kept k,?_,q⟩
 by_cases hj:j<i
 ·rw[iP0 hj,iP0 hj];exact⟨_,rfl⟩
 ·rw[iN0 hj,iN0 hj];exact⟨_,rfl⟩
end
end L2
namespace L2
open PySem PySem.Spec PyProof.Rows
section
variable{prog:V1}{w:V9}{A:Uu}{E:Vb->Vc->Prop}{s:Vc}{K:Vg}{x dx C f:Addr}{mA:Str->Option Vb}{name:Str}{v:Vb}
end
section
variable{P:V1}{w:V9}{H H':Hp}{h h':Heap}{a C dx:Addr}{fs fs':List (Str×V)}
end
section
variable{X:Cx}{pa:List (Addr×Obj)}{σ:St}{H:Hp}{s:Vc}{a C dx:Addr}{fs:List (Str×V)}{f:Str}{v:V}{A:Uu}{E:Vb->Vc->Prop}
end
section
variable{X:Cx}{o e value:Expr}{f:Str}{pos pos' tpos:Pos}{ta tv:TE}
end
section
variable{X:Cx}{pa:List (Addr×Obj)}{σ:St}{H:Hp}{s:Vc}{A:Uu}{E:Vb->Vc->Prop}{Q:Vb->Vc->Prop}{c:Vb}{b:Bool}
end
end L2
namespace L2
open PySem PySem.Spec PyProof.Rows
structure Room(k:Nat)(A:Uu):Prop where
 gd:A.guards=some []
 hd:A.handled=none
 dp:A.depth+3*k+5<recursionLimit
 un:A.units+16*k+200<cLine
section
variable{X:Cx}{e:Expr}{es:List Expr}{te:TE}{t:TA}{pos:Pos}
end
abbrev Sp:=List V->Hp->VK->XK->Prop
abbrev CXT:=List Env->Hp->Vc->XK->Vb->Vc->Prop
structure Env0(P:V1)(w:V9)(K:Vg)(mg:Str->Option Vb)(base:Heap)(A:Uu)(outer:List Env)(s:Vc)(H:Hp):Prop where
 frames:A.frames=some outer
 mod:Mod K mg base
 bs:∀b o,base.get? b=some o->s.heap.get? b=some o/\H b=none
 bsz:base.objs.size<=s.heap.objs.size
 funs:s.heap.FunFrames base outer
 frf:∀b∈frs outer,H b=none
 hok:HOk P w H s.heap
 bare:AllBare s.gens
def CE(outer:List Env)(P:V1)(w:V9)(H:Hp)(s:Vc)(Q:VK)(u:Vb)(s':Vc):Prop :=
 ∃v H',s'.os=s.os/\AllBare s'.gens/\Un (frs outer) [] H H' s.heap s'.heap/\HOk P w H' s'.heap/\RelV v u/\Q v H'
def CR(CX:CXT)(outer:List Env)(P:V1)(w:V9)(H:Hp)(s:Vc)(Q:VK)(E:XK)(r:Result)(s':Vc):Prop :=
 match r with
 |.ok (.ret u)=>CE outer P w H s Q u s'
 |.ok _=>False
 |.error e=>CX outer H s E e s'
structure FnOk(P:V1)(w:V9)(K:Vg)(mg:Str->Option Vb)(base:Heap)(CX:CXT)(k:Nat)(f:Addr)(fd:Vcx)(ps:List Str)(sp:Sp):Prop where
 len:∀vs H Q E,sp vs H Q E->vs.length=ps.length
 run:∀(A:Uu) (outer:List Env) (s:Vc) (H:Hp) (args:Args) (us:List Vb) (vs:List V) (Q:VK) (E:XK),Room k A->Env0 P w K mg base A outer s H->BindsTo s fd args (ps.zip us)->Vals vs us->sp vs H Q E ->
  Vcy (Vk P w) A (.call (.ref f) args) (CR CX outer P w H s Q E) s
section
variable{X:Cx}{pa:List (Addr×Obj)}{σ:St}{H:Hp}{s s':Vc}
theorem Inv.env0(I:Inv X pa σ H s):Env0 X.prog X.w X.K X.mg X.base X.A X.stack s H :=
 ⟨I.ok.frames,I.ok.mod,I.bs,U4 I.ok.bsz I.sz,I.stack,I.stkFree,I.hok,I.bare⟩
theorem Inv.after{Q:VK}{u:Vb}(I:Inv X pa σ H s)(h:CE X.stack X.prog X.w H s Q u s'):EP X pa σ Q u s':=by
 obtain⟨v,H',os,bare,un,hok,r,q⟩:=h;obtain⟨hh,g,d,t,os'⟩:=s';obtain rfl:os'=s.os:=os;exact⟨v,H',I.call (h':=hh) (g':=g) (d':=d) (t':=t) (ch:=[]) un hok bare (fun b z=>aB0 z (by simp)),r,q⟩
end
def Binds(K:Vg)(fd:Vcx)(ps:List Str)(ds:List Vb):Prop :=
 ∀(s:Vc) (us:List Vb),K.In s.heap->(us++ds).length=ps.length->BindsTo s fd ⟨us,[]⟩ (ps.zip (us++ds))
theorem Binds.all{K:Vg}{fd:Vcx}{ps:List Str}(h:∀us:List Vb,us.length=ps.length->bindArgs fd ⟨us,[]⟩=pure (ps.zip us)):Binds K fd ps []:=fun s us _ hl=>by
 rw[Vz]at hl ⊢;exact .of_eq (h us hl)
section
variable{X:Cx}{CX:CXT}{k:Nat}{f C:Addr}{fd:Vcx}{ps:List Str}{sp:Sp}{dvs:List V}{ds:List Vb}{E:XK}{x m:Str}{p pos apos:Pos}{e o:Expr}{es:List Expr}{ta:TE}{t:TA}
end
section
variable{X:Cx}{CX:CXT}{k:Nat}{f C:Addr}{fd:Vcx}{ps ks:List Str}{sp:Sp}{E:XK}{x m:Str}{p pos apos kpos:Pos}{e o:Expr}{es:List Expr}{kws:List Vdt}{te ta:TE}{t tk:TA}{nm:Option Str}
variable{g:List Vb->List Vb->List Vb}{gV:List V->List V->List V}
end
structure FnScope(N P:List Str)(sc:Uv):Prop where
 kind:sc.kind=.function
 co:sc.isCoroutine=false
 gen:sc.isGenerator=false
 nd:N.Nodup
 pre:N.take P.length=P
 par:∀x∈P,sc.names.lookup x=some .local\/sc.names.lookup x=some .cell
 nofree:∀y∈sc.names,y.2≠.free
theorem Xjk{Vd7:Str->Option Vd2}{x:Str}:∀ {binds:List (Str×Vb)} {m:Str->Option Vb},(∀v,(x,v) ∉ binds)->bindL Vd7 binds m x=m x
 |[],_,_=>rfl
 | (n,v)::r,m,h=>by
  unfold bindL;rw[Xjk fun w hw=>h w (Ua _ hw)]
  split
  ·have:x≠n:=by rintro rfl;exact h v Uo
   simp[this]
  ·rfl
theorem Xjl{Vd7:Str->Option Vd2}{x:Str}:∀ {binds:List (Str×Vb)} {m:Str->Option Vb},(∀v,(x,v) ∉ binds)->bindC Vd7 binds m x=m x
 |[],_,_=>rfl
 | (n,v)::r,m,h=>by
  unfold bindC;rw[Xjl fun w hw=>h w (Ua _ hw)]
  split
  ·rfl
  ·have:x≠n:=by rintro rfl;exact h v Uo
   simp[this]
theorem Xjm{Vd7:Str->Option Vd2}{x:Str}{v:Vb}:∀ {P:List Str} {vs:List Vb} {i:Nat} {m:Str->Option Vb},P.Nodup->P[i]?=some x->vs[i]?=some v->Vd7 x=some .local ->
  bindL Vd7 (P.zip vs) m x=some v
 |[],_,_,_,_,h,_,_=>by simp at h
 |_::_,[],_,_,_,_,h,_=>by simp at h
 |p::P,w::vs,0,m,nd,h1,h2,hk=>by
  simp at h1 h2;subst h1;subst h2;show bindL Vd7 ((p,w)::P.zip vs) m p=_;unfold bindL;rw[Xjk fun v hv=>(Vcl.mp nd).1 (List.of_mem_zip hv).1,iP0 hk]
  simp
 |p::P,w::vs,i+1,m,nd,h1,h2,hk=>by
  show bindL Vd7 ((p,w)::P.zip vs) m x=_;unfold bindL;exact Xjm (i:=i) (Vcl.mp nd).2 (by simpa using h1) (by simpa using h2) hk
theorem Xjn{Vd7:Str->Option Vd2}{x:Str}{v:Vb}:∀ {P:List Str} {vs:List Vb} {i:Nat} {m:Str->Option Vb},P.Nodup->P[i]?=some x->vs[i]?=some v->Vd7 x≠some .local ->
  bindC Vd7 (P.zip vs) m x=some v
 |[],_,_,_,_,h,_,_=>by simp at h
 |_::_,[],_,_,_,_,h,_=>by simp at h
 |p::P,w::vs,0,m,nd,h1,h2,hk=>by
  simp at h1 h2;subst h1;subst h2;show bindC Vd7 ((p,w)::P.zip vs) m p=_;unfold bindC;rw[Xjl fun v hv=>(Vcl.mp nd).1 (List.of_mem_zip hv).1,iN0 hk]
  simp
 |p::P,w::vs,i+1,m,nd,h1,h2,hk=>by
  show bindC Vd7 ((p,w)::P.zip vs) m x=_;unfold bindC;exact Xjn (i:=i) (Vcl.mp nd).2 (by simpa using h1) (by simpa using h2) hk
noncomputable def start(N:List Str)(vs:List V):St:=vs.map some++Vh (N.length-vs.length) none
noncomputable def Xps(CX:CXT)(P:V1)(w:V9)(K:Vg)(mg:Str->Option Vb)(base:Heap)(N:List Str)(qual:Str)(scope:Uv)(f:Addr)(cd:Vb)(A:Uu)(outer:List Env)(s:Vc)(H:Hp)(E:XK):Cx where
 prog:=P
 w:=w
 K:=K
 mg:=mg
 base:=base
 A:=A.deeper (envOfC qual scope s.heap.objs.size f cd)
 N:=N
 s₀:=s
 H₀:=H
 env:=envOfC qual scope s.heap.objs.size f cd
 outer:=outer
 stack:=envOfC qual scope s.heap.objs.size f cd::outer
 ex:=[]
 calm:=true
 fn:=fun _=>true
 pn:=[]
 xe:=fun e s'=>Vf (Vk P w) (A.deeper (envOfC qual scope s.heap.objs.size f cd)) (leaving (envOfC qual scope s.heap.objs.size f cd) e) (fun _ s''=>CX outer H s E e s'') (fun e' s''=>CX outer H s E e' s'') s'
theorem Xky{sc:Uv}{n:Nat}{x:Str}(h:sc.names.lookup x=some .cell):∃c,(Vbt n sc.names []).lookup x=some c:=by
 have q:=Vfp sc.names n [] (.inl h);exact Vbw.mp q
theorem Xrx{CX:CXT}{P:V1}{w:V9}{K:Vg}{mg:Str->Option Vb}{base:Heap}{N ps:List Str}{qual:Str}{scope:Uv}{f:Addr}{cd:Vb}{A:Uu}{outer:List Env}{s s1:Vc}{H:Hp}{E:XK}{us:List Vb}{vs:List V}
  (S:FnScope N ps scope) (hd:A.handled=none) (e0:Env0 P w K mg base A outer s H) (hl:vs.length=ps.length) (r:Vals vs us)
  (x:InCallC s s.heap.objs.size (bindL (envOfC qual scope s.heap.objs.size f cd).kindOf (ps.zip us) fun _=>none) (Vbt (s.heap.objs.size+1) scope.names []) (bindC (envOfC qual scope s.heap.objs.size f cd).kindOf (ps.zip us) fun _=>none) s1) :
  Inv (Xps CX P w K mg base N qual scope f cd A outer s H E) [] (start N vs) H s1:=by
 have hpl:ps.length<=N.length:=by have:=congrArg Um S.pre;rw[Vbx]at this;omega
 obtain⟨h1,tk,rfl,hk⟩:=x.done;have noA:∀b:Addr,b ∉ (Xps CX P w K mg base N qual scope f cd A outer s H E).ex:=fun b z=>aB0 (show b∈([]:List Addr) from z) (by simp)
 refine⟨⟨e0.mod,S.kind,rfl,rfl,Vl _,fun y z c h1 h2=>?_,fun y hy=>?_,fun y c _ h=>?_,fun _=>hd,Around.frames_deeper e0.frames,.inr ⟨rfl,rfl⟩,fun b z=>aB0 z (noA b),e0.bs,e0.bsz,fun b _ _=>noA b,fun b z=>aB0 z (noA b),e0.funs,e0.frf⟩,
  rfl,e0.bare,Un.kept hk,⟨_,x.toInCall.ns,fun i y v h1 h2 h3=>?_⟩,fun y c h=>⟨_,x.cell y c h⟩,e0.hok.fresh (Vl _),fun y c h=>?_,fun p hp=>aB0 (show p∈([]:List (Addr×Obj)) from hp) (by simp),e0.hok.kept hk,?_⟩
 ·exact name_of_addr x.apart (Vb8 h1) (Vb8 h2)
 ·have hy:scope.names.lookup y=some .cell\/scope.names.lookup y=some .free:=hy
  rcases hy with hy|hy
  ·exact Xky hy
  ·exact aB0 rfl (S.nofree _ (Vb8 hy))
 ·exact Vb9 (x.above y c (Vb8 h))
 ·have hi:i<vs.length:=by
   unfold start at h2
   by_cases hi:i<vs.length
   ·exact hi
   ·rw[U5 (by simpa using hi)]at h2
    rw[Vcv]at h2;split at h2<;>cases h2
  have ha:vs[i]?=some v:=by
   unfold start at h2;rw[Vt (by simpa using hi),Vx]at h2
   cases e:vs[i]? with
   |none=>rw[e]at h2;cases h2
   |some a=>rw[e]at h2;cases h2;rfl
  obtain⟨u,hu,rv⟩:=r.get ha;have hp:ps[i]?=some y:=by
   rw[<- S.pre,Vhn (by omega)];exact h1
  have ndP:ps.Nodup:=by rw[<- S.pre];exact S.nd.sublist (List.take_sublist _ _)
  refine⟨u,rv,?_⟩;rcases S.par y (Ur hp) with k|k
  ·exact .inl ⟨k,Xjm ndP hp hu k⟩
  ·obtain⟨c,e⟩:=Xky (n:=s.heap.objs.size+1) k
   refine .inr ⟨.inl k,c,e,?_⟩;have q:=x.cell y c e;rw[Xjn ndP hp hu (by show scope.names.lookup y≠_;rw[k];decide)]at q
   exact q
 ·exact e0.hok.fresh (Vb9 (x.above y c (Vb8 h)))
 ·unfold start
  show _=N.length;rw[Uf,Vj,List.length_replicate];omega
end L2
namespace L2
open PySem PySem.Spec PyProof.Rows
section
variable{X:Cx}{x:Str}{p pos:Pos}{e:Expr}{es:List Expr}{t:TA}{id T:String}{r:List V->Hp->VK->Prop}
end
end L2
namespace HT
open PySem PyProof.Rows
section
open PySem.SeqAt
open PySem.AutoSeq1 (wpAny_loadPart')
open PySem.MeetsSeq PySem.MeetsSeq2 PySem.MeetsSeq3
end
section
variable{prog:V1}{w:V9}{A:Uu}{E:Vb->Vc->Prop}{s:Vc}
theorem cat_tup{t b:Addr}{vs ws:List Vb}{Q:Vb->Vc->Prop}(ht:IsTup s.heap t vs.toArray)(hb:IsTup s.heap b ws.toArray)(hv:vs≠[])
  (h1:ws=[]->Q (.ref t) s) (h2:ws≠[]->Q (.ref s.heap.objs.size) {s with heap:=s.heap.push {cls:=.type "tuple",data:=.seq (vs++ws).toArray} })
  (hsz:vs.length+ws.length<=Vw):Vf (Vk prog w) A (Vck .Add (.ref t) (.ref b)) Q E s:=by
 obtain⟨⟨cls,dd,data,sl⟩,ho,hc,n,hd⟩:=id ht;obtain⟨⟨cls2,dd2,data2,sl2⟩,ho2,hc2,n2,hd2⟩:=id hb;simp only at hc hd hc2 hd2;subst hc hd hc2 hd2;have e:vs.toArray++ws.toArray=(vs++ws).toArray:=by simp
 by_cases hw:ws=[]
 ·exact concat_meets ⟨_,ho,rfl⟩ ⟨_,ho2,rfl⟩ noFill_tuple_add seq_tuple_add Vfq Vfg (Ve3 _ _)
   (tuple_addW1 t b vs.toArray ws.toArray n n2 dd dd2 sl sl2 (by simpa using hv) (by simp[hw])) ⟨ho,ho2,h1 hw⟩
 ·refine concat_meets ⟨_,ho,rfl⟩ ⟨_,ho2,rfl⟩ noFill_tuple_add seq_tuple_add Vfq Vfg (Ve3 _ _)
   (tuple_addW2 t b vs.toArray ws.toArray n n2 dd dd2 sl sl2 (by simpa using hv) (by simpa using hw) (by rw[Vp,Vp];exact hsz)) ⟨ho,ho2,?_⟩
  rw[e];exact h2 hw
noncomputable def sIx(n d:Nat):Option Int->Nat
 |none=>d
 |some v=>if v<0 then (v+(n:Int)).toNat else min v.toNat n
theorem X2j(n d:Nat)(hd:d<=n)(o:Option Int):sIx n d o<=n:=by
 cases o with
 |none=>exact hd
 |some v =>
  show(if v<0 then (v+(n:Int)).toNat else min v.toNat n)<=n
  by_cases hv:v<0
  ·rw[iP0 hv];omega
  ·rw[iN0 hv];exact Nat.min_le_right _ _
theorem Xn4(v:Int)(n d:Nat):(if v<0 then max (v+(n:Int)) 0 else min v (n:Int))=((sIx n d (some v):Nat):Int):=by
 show(if v<0 then max (v+(n:Int)) 0 else min v (n:Int))=(((if v<0 then (v+(n:Int)).toNat else min v.toNat n):Nat):Int)
 by_cases hv:v<0
 ·simp only[iP0 hv];omega
 ·simp only[iN0 hv];omega
theorem Xpt(lo hi:Option Int)(n:Nat):Vew lo hi 1 (n:Int)=(((sIx n 0 lo:Nat):Int),((sIx n n hi:Nat):Int)):=by
 have h1:¬ ((1:Int)<0):=by omega
 unfold Vew;simp only[h1,if_false];refine Prod.ext ?_ ?_
 ·cases lo with
  |none=>rfl
  |some v=>exact Xn4 v n 0
 ·cases hi with
  |none=>rfl
  |some v=>exact Xn4 v n n
theorem Xpu(i j:Nat):Vdf (i:Int) (j:Int) 1=j-i:=by
 unfold Vdf;have h1:(1:Int)>0:=by omega
 simp only[h1,if_true,Int.ediv_one];split<;>omega
theorem Xgr{v:Vb}{o:Option Int}{Q:Option Int->Vc->Prop}(p:IsPart v o)(h:Q o s):Vf (Vk prog w) A (Builtin.Slice.slicePartIndex v) Q E s:=by
 cases p with
 |none=>exact slicePart_none h
 |int i t=>exact slicePart_int h
theorem sliceApplied_gen{sl:Addr}{vl vu:Vb}{lo hi:Option Int}{n:Nat}{Q:Int×Int×Nat->Vc->Prop}(hs:s.heap.IsSliceOf sl vl vu .none)(pl:IsPart vl lo)(pu:IsPart vu hi)
  (h:Q (((sIx n 0 lo:Nat):Int),1,sIx n n hi-sIx n 0 lo) s):Vf (Vk prog w) A (Vg9 (.ref sl) (pure (n:Int))) Q E s:=by
 obtain⟨os,hos,hcs,hds⟩:=id hs;unfold Vg9 Builtin.Slice.sliceFields;refine Va (Va (U7 hos hds (x:=vl) rfl (Va (U7 hos hds (x:=vu) rfl (Va (U7 hos hds (x:=.none) rfl (Vd ?_)))))));refine Va (slicePart_none ?_);show Vf _ _ (if ((1:Int)==0)=true then _ else _) _ _ s
 rw[iN0 (by decide)]
 refine Va (Xgr pl (Va (Xgr pu (Va (Vd ?_)))));show Vf _ _ (match Vew lo hi 1 (n:Int) with|(lo,hi)=>pure (lo,(1:Int),Vdf lo hi 1)) _ _ s
 rw[Xpt lo hi n];show Vf _ _ (pure (((sIx n 0 lo:Nat):Int),(1:Int),Vdf ((sIx n 0 lo:Nat):Int) ((sIx n n hi:Nat):Int) 1)) _ _ s;rw[Xpu];exact Vd h
theorem Xuf(xs:Array Vb)(i k:Nat):((V0 k).filterMap fun(m:Nat)=>xs[((i:Int)+(m:Int)*1).toNat]?).toArray=((xs.toList.drop i).take k).toArray:=by
 have e:(fun(m:Nat)=>xs[((i:Int)+(m:Int)*1).toNat]?)=fun m=>xs[i+m]?:=by
  funext m
  have:((i:Int)+(m:Int)*1).toNat=i+m:=by omega
  rw[this]
 rw[e];have:=pick_run xs i k;rw[List.filterMap_map]at this;have e2:((fun x=>xs[x]?)∘fun x=>i+x)=fun m=>xs[i+m]?:=rfl
 rw[e2]at this;rw[this]
theorem getItem_tuple_cut{t sl:Addr}{items:Array Vb}{vl vu:Vb}{lo hi:Option Int}{Q:Vb->Vc->Prop}(ht:IsTup s.heap t items)(hs:s.heap.IsSliceOf sl vl vu .none)(pl:IsPart vl lo)(pu:IsPart vu hi)
  (hw:¬ (sIx items.size 0 lo=0/\sIx items.size items.size hi=items.size))
  (h:Q (.ref s.heap.objs.size) {s with heap:=s.heap.push {cls:=.type "tuple",data:=.seq ((items.toList.drop (sIx items.size 0 lo)).take (sIx items.size items.size hi-sIx items.size 0 lo)).toArray} })
  (hsz:items.size<=Vw):Vf (Vk prog w) A (getItem (.ref t) (.ref sl)) Q E s:=by
 have htake:sizeOk (.seq ((items.toList.drop (sIx items.size 0 lo)).take (sIx items.size items.size hi-sIx items.size 0 lo)).toArray):=by
  show((items.toList.drop (sIx items.size 0 lo)).take (sIx items.size items.size hi-sIx items.size 0 lo)).toArray.size<=Vw;rw[Vp,Vbx,Vfz,Ub];omega
 have hj:sIx items.size items.size hi<=items.size:=X2j _ _ (Vl _) hi;obtain⟨os,hos,hcs,hds⟩:=id hs;have hTs:s.TypeIs (.ref sl) "slice" := ⟨os,hos,hcs⟩;unfold getItem
 try with_reducible refine Uz ?_
 first|refine Va (Vd ?_)|skip
 refine Va (wpAny_sequenceKey ht.typeIs (by decide) ?_)
 refine Va (Vae (name:=U9 "__getitem__") ht.typeIs Vch
  (Uk Vch ht.typeIs entry_tuple_getitem ?_ (args_tuple_getitem _ _)))
 show Vf _ _ (Vha (.ref t) >>= _) _ _ s;refine Va (tupleItemsOf_ ht ?_);refine Va (Vdn hTs ?_);rw[iP0 (by decide)]
 refine Va (sliceApplied_gen hs pl pu ?_);have hno:¬ ((((sIx items.size 0 lo:Nat):Int)==0&&(1:Int)==1&&(sIx items.size items.size hi-sIx items.size 0 lo)==items.size)=true):=by
  intro q;rw[bA0,bA0]at q;have q1:((sIx items.size 0 lo:Nat):Int)=0:=eq_of_beq q.1.1;have q2:sIx items.size items.size hi-sIx items.size 0 lo=items.size:=eq_of_beq q.2;exact hw ⟨by omega,by omega⟩
 show Vf _ _ (if (((sIx items.size 0 lo:Nat):Int)==0&&(1:Int)==1&&(sIx items.size items.size hi-sIx items.size 0 lo)==items.size)=true then _ else _) _ _ s
 rw[iN0 hno,Xuf]
 first
  |exact Va (m:=Vby _) (Uj (Vd ⟨_,rfl,Vd h⟩) htake)
  |exact Va (m:=Vby _) (Uj (Va (Vd (Vd ⟨_,rfl,Vd h⟩))) htake)
  |exact Va (Va (m:=Vby _) (Uj (Vd (Vd ⟨_,rfl,Vd h⟩)) htake))
  |exact Va (Va (m:=Vby _) (Uj (Vd ⟨_,rfl,Vd h⟩) htake))
end
end HT
namespace L2
open PySem PySem.Spec PyProof.Rows
section
variable{X:Cx}{e:Expr}{te:TE}{lo hi:Option Expr}{tl th:TO}{pos p2:Pos}
noncomputable def Xhp(xs:List V)(lo hi:Option Int):List V:=(xs.drop (HT.sIx xs.length 0 lo)).take (HT.sIx xs.length xs.length hi-HT.sIx xs.length 0 lo)
theorem Xfm(xs:List V)(lo hi:Option Int):(Xhp xs lo hi).length<=xs.length:=by
 unfold Xhp;rw[Vbx,Vfz];omega
end
end L2
namespace L2
open PySem PySem.Spec PyProof.Rows
noncomputable def ixN(n:Nat)(i:Int):Option Nat:=if 0<=i then (if i<n then some i.toNat else none) else if-(n:Int)<=i then some (i+n).toNat else none
noncomputable def atI{α:Type}(xs:List α)(i:Int):Option α:=(ixN xs.length i).bind fun j=>xs[j]?
theorem Xn5{n:Nat}{i:Int}{j:Nat}(h:ixN n i=some j):seqIndex? i n=some j/\j<n/\-(n:Int)<=i/\i<n:=by
 unfold ixN at h
 by_cases h0:0<=i
 ·rw[iP0 h0]at h
  by_cases h1:i<n
  ·rw[iP0 h1]at h
   have e:i.toNat=j:=Ue h;exact⟨by rw[seqIndex_of h0 h1,e],by omega,by omega,h1⟩
  ·rw[iN0 h1]at h;cases h
 ·rw[iN0 h0]at h
  by_cases h1:-(n:Int)<=i
  ·rw[iP0 h1]at h
   have e:(i+n).toNat=j:=Ue h;exact⟨by rw[seqIndex_neg (by omega) h1,e],by omega,h1,by omega⟩
  ·rw[iN0 h1]at h;cases h
theorem Xhq{α:Type}{xs:List α}{i:Int}{v:α}(h:atI xs i=some v):∃j,seqIndex? i xs.length=some j/\xs[j]?=some v/\j<xs.length/\-(xs.length:Int)<=i/\i<xs.length:=by
 unfold atI at h;cases e:ixN xs.length i with
 |none=>rw[e]at h;cases h
 |some j =>
  rw[e]at h;obtain⟨h1,h2,h3,h4⟩:=Xn5 e;exact⟨j,h1,h,h2,h3,h4⟩
def Xhr(b:Expr):Prop:=∀o i,subscripted b false o i=operate [o,i] (getItem o i)
def IxR(X:Cx)(r:R2):Prop :=
 ∀(value slice:Expr) (pa:List (Addr×Obj)) (s:Vc) (σ:St) (H:Hp) (x y:V) (v u:Vb) (Q:VK),Inv X pa σ H s->RelV x v->RelV y u->r x y H Q ->
  subscripted slice false v u=operate [v,u] (getItem v u)->Vf (Vk X.prog X.w) X.A (Vfu value slice v u) (EP X pa σ Q) X.xe s
section
variable{X:Cx}{a b:Expr}{ta tb:TE}{pos:Pos}
noncomputable def X84(K:Vg):R2:=fun x y H Q=>∃p xs i v,x=.ref p/\y=.int i/\SqL K H p xs/\atI xs i=some v/\Q v H
noncomputable def X85(K:Vg):R2:=fun x y H Q=>∃p xs i v,x=.ref p/\y=.int i/\SqT K H p xs/\atI xs i=some v/\Q v H
noncomputable def X86:R2:=fun x y H Q=>∃z i c,x=.str z/\y=.int i/\z.length<=Vw/\atI z.cps.toList i=some c/\Q (.str ⟨#[c]⟩) H
theorem Xyq:IxR X (X84 X.K):=by
 intro value slice pa s σ H x y v u Q I rx ry h hs;obtain⟨p,xs,i,z,rfl,rfl,hq,he,q⟩:=h;cases rx;obtain⟨t,rfl⟩:=ry;obtain⟨its,r,pl,hz⟩:=I.list hq;obtain⟨j,h1,h2,h3,h4,h5⟩:=Xhq he;obtain⟨w,ew,rw'⟩:=r.get h2;have hl:=r.length;have hn:=Xce;have fin:EP X pa σ Q w s:=⟨z,H,I,rw',q⟩
 by_cases h0:0<=i
 ·have hj:i.toNat=j:=by
   rw[seqIndex_of h0 h5]at h1;exact Ue h1
  exact item_listR pl.isList h0 (by omega) (by rw[hj];simpa using ew) fin hs
 ·have hj:(i+(its.toArray.size:Int)).toNat=j:=by
   rw[seqIndex_neg (by omega) h4]at h1
   rw[Vp,<- hl];exact Ue h1
  exact subscriptTail_builtinR (x:=w) pl.isList.typeIs slot_list_getitem.lookup
   (wpAny_getItem_list_neg (Q:=fun r s'=>r=w/\EP X pa σ Q r s') pl.isList (by omega) (by rw[Vp]<;>omega) (by omega) (by rw[hj];simpa using ew) ⟨rfl,fin⟩) hs
theorem X2k:IxR X (X85 X.K):=by
 intro value slice pa s σ H x y v u Q I rx ry h hs;obtain⟨p,xs,i,z,rfl,rfl,hq,he,q⟩:=h;cases rx;obtain⟨t,rfl⟩:=ry;obtain⟨its,r,pl,hz⟩:=I.tuple hq;obtain⟨j,h1,h2,h3,h4,h5⟩:=Xhq he;obtain⟨w,ew,rw'⟩:=r.get h2;have hl:=r.length;have hn:=Xce;have fin:EP X pa σ Q w s:=⟨z,H,I,rw',q⟩;exact subscriptTail_builtinR (x:=w) pl.typeIs slot_tuple_getitem.lookup
  (getItem_tuple (j:=j) (Q:=fun r s'=>r=w/\EP X pa σ Q r s') pl (by omega) (by omega) (by rw[Vp,<- hl];exact h1) (by simpa using ew) ⟨rfl,fin⟩) hs
theorem X2l:IxR X X86:=by
 intro value slice pa s σ H x y v u Q I rx ry h hs;obtain⟨z,i,c,rfl,rfl,hz,he,q⟩:=h;obtain⟨t,rfl⟩:=rx;obtain⟨t',rfl⟩:=ry;obtain⟨j,h1,h2,h3,h4,h5⟩:=Xhq he;have hl:z.cps.toList.length=z.length:=by simp[Str.length]
 rw[hl]at h1 h4 h5;have hn:=Xce;exact tail_any (typeIs_str s z t) slot_str_getitem.lookup (getItem_str (c:=c) (by
  have e1:decide (i < -(2^63:Int))=false:=decide_eq_false (by omega)
  have e2:decide (i ≥ 2^63)=false:=decide_eq_false (by omega)
  rw[e1,e2,Bool.or_false]) (by rw[h1];simpa using h2) ⟨.str ⟨#[c]⟩,H,I.tok _,⟨_,rfl⟩,q⟩) hs
theorem Xpv(its:List Vb)(n j:Nat)(u:Vb):Uw (·.setIfInBounds j u) {cls:=.type "list",data:=.seq its.toArray n}={cls:=.type "list",data:=.seq (its.set j u).toArray n}:=by
 simp[Uw]
theorem Inv.lst{pa:List (Addr×Obj)}{σ:St}{H:Hp}{s:Vc}{p:Addr}{xs:List V}(I:Inv X pa σ H s)(h:H p=some (.lst xs)) :
  ∃(its:List Vb) (n:Nat),Vals xs its/\s.heap.get? p=some {cls:=.type "list",data:=.seq its.toArray n}/\xs.length<=Vw:=by
 obtain⟨z,its,n,r,e⟩:=I.hok p _ h;exact⟨its,n,r,e,z⟩
theorem Inv.lstUpd{pa:List (Addr×Obj)}{σ:St}{H:Hp}{s:Vc}{p:Addr}{xs ys:List V}{its its':List Vb}{n n':Nat}{f:Obj->Obj}(I:Inv X pa σ H s)(h:H p=some (.lst xs))
  (ho:s.heap.get? p=some {cls:=.type "list",data:=.seq its.toArray n}) (hf:f {cls:=.type "list",data:=.seq its.toArray n}={cls:=.type "list",data:=.seq its'.toArray n' }) (r:Vals ys its') (hz:ys.length<=Vw) (t:Nat) :
  Inv X pa σ (upd H p (.lst ys)) {s with heap:=s.heap.update p f,toks:=t}:=by
 have e:(s.heap.update p f).get? p=some {cls:=.type "list",data:=.seq its'.toArray n' }:=by
  rw[Vd8 f ho (by rw[hf]<;>rfl),hf]
 refine I.write (x:=p) (e:=p) (by rw[h];trivial) (.inl rfl) (fun b u hb q=>(Vd3 _ _ (Ne.symm hb)).trans q) ⟨_,e⟩ ?_
 exact⟨hz,its',n',r,e⟩
def X6x:V->V->V->Hp->(Hp->Prop)->Prop:=fun o i v H Q=>∃p xs k j,o=.ref p/\i=.int k/\H p=some (.lst xs)/\ixN xs.length k=some j/\Q (upd H p (.lst (xs.set j v)))
theorem Xug:X81 X X6x:=by
 intro pa s σ H o i v ov iv u Q I ro ri rv h;obtain⟨p,xs,k,j,rfl,rfl,hp,hj,q⟩:=h;cases ro;obtain⟨t,rfl⟩:=ri;obtain⟨its,n,r,ho,hz⟩:=I.lst hp;obtain⟨h1,h2,h3,h4⟩:=Xn5 hj;have hl:=r.length;have hn:=Xce;have I':Inv X pa σ (upd H p (.lst (xs.set j v))) {s with heap:=s.heap.update p (Uw (·.setIfInBounds j u))} :=
  I.lstUpd hp ho (Xpv its n j u) (r.set rv j) (by rw[List.length_set];exact hz) s.toks
 by_cases h0:0<=k
 ·have hk:k.toNat=j:=by
   rw[seqIndex_of h0 h4]at h1;exact Ue h1
  exact PySem.W.ki_setAt ho h0 (by omega) (by rw[Vp,<- hl];exact h4) (by rw[hk];exact⟨_,I',q⟩)
 ·have hk:(k+(its.toArray.size:Int)).toNat=j:=by
   rw[seqIndex_neg (by omega) h3]at h1
   rw[Vp,<- hl];exact Ue h1
  exact PySem.W.ki_setBack ho (by omega) (by rw[Vp,<- hl];exact h3) (by omega) (by rw[hk];exact⟨_,I',q⟩)
theorem Xkz(lo hi:Option Int)(n:Nat):(Ves lo hi none n).1=((HT.sIx n 0 lo:Nat):Int)/\(Ves lo hi none n).2.1=((HT.sIx n n hi:Nat):Int)/\(Ves lo hi none n).2.2=1:=by
 refine⟨?_,?_,rfl⟩
 ·cases lo with
  |none=>simp[Ves,HT.sIx]
  |some i =>
   simp only[Ves,HT.sIx,Option.getD_none,show(1:Int)>0 by decide,if_true]
   by_cases h:i<0
   ·simp only[h,if_true]<;>omega
   ·simp only[h,if_false]<;>omega
 ·cases hi with
  |none=>simp[Ves,HT.sIx]
  |some i =>
   simp only[Ves,HT.sIx,Option.getD_none,show(1:Int)>0 by decide,if_true]
   by_cases h:i<0
   ·simp only[h,if_true]<;>omega
   ·simp only[h,if_false]<;>omega
theorem Xke(its:List Vb)(lo hi:Option Int):slicePick its.toArray lo hi none=((its.drop (HT.sIx its.length 0 lo)).take (HT.sIx its.length its.length hi-HT.sIx its.length 0 lo)).toArray:=by
 obtain⟨h1,h2,h3⟩:=Xkz lo hi its.toArray.size;unfold slicePick;rw[h1,h2,h3];simp only[sliceRange_one,pick_run,Vp]<;>rfl
theorem Xk0:Xds X (.builtin "len") (fun xs H Q=>∃p ys,xs=[.ref p]/\(SqL X.K H p ys\/SqT X.K H p ys)/\Q (.int ys.length) H):=by
 intro pa s σ H xs us Q I r h;obtain⟨p,ys,rfl,hq,q⟩:=h;obtain⟨u,rfl,rx⟩:=Xkm r;cases rx;have hn:=Xce;rcases hq with hq|hq
 ·obtain⟨its,r',pl,hz⟩:=I.list hq
  have hlen:=r'.length;exact Calls.call_len_list pl.isList (by simp only[Vp]<;>omega) ⟨.int ys.length,H,I.tok _,⟨s.toks+1,by rw[Vp,hlen]⟩,q⟩
 ·obtain⟨its,r',pl,hz⟩:=I.tuple hq
  have hlen:=r'.length;exact len_tuple pl (by simp only[Vp]<;>omega) ⟨.int ys.length,H,I.tok _,⟨s.toks+1,by rw[Vp,hlen]⟩,q⟩
theorem Xk1:Xds X (.builtin "len") (fun xs H Q=>∃z,xs=[.str z]/\z.length<=Vw/\Q (.int z.length) H):=by
 intro pa s σ H xs us Q I r h;obtain⟨z,rfl,hz,q⟩:=h;obtain⟨u,rfl,t,rfl⟩:=Xkm r;have hn:=Xce;exact len_str (by omega) ⟨.int z.length,H,I.tok _,⟨_,rfl⟩,q⟩
theorem Xk2:Xds X (.type "list") (fun xs H Q=>∃p ys,xs=[.ref p]/\(SqL X.K H p ys\/SqT X.K H p ys)/\∀l,H l=none->Q (.ref l) (upd H l (.lst ys))):=by
 intro pa s σ H xs us Q I r h;obtain⟨p,ys,rfl,hq,q⟩:=h;obtain⟨u,rfl,rx⟩:=Xkm r;cases rx;have fin:∀(its:List Vb),Vals ys its->ys.length<=Vw->∀(h':Heap) (c':Nat),(∀b o',s.heap.get? b=some o'->h'.get? b=some o') ->
   h'.get? s.heap.objs.size=some {cls:=.type "list",dict:=none,data:=.seq its.toArray c',slots:=#[]}->EP X pa σ Q (.ref s.heap.objs.size) {s with heap:=h' }:=fun its r' hz h' c' kp e =>
  ⟨.ref s.heap.objs.size,_,I.laid (t':=s.toks) kp (Vl _) (show ObjOk X.prog X.w _ h' _ (.lst ys) from⟨hz,its,c',r',e⟩),rfl,q _ (I.hok.fresh (Vl _))⟩
 rcases hq with hq|hq
 ·obtain⟨its,r',pl,hz⟩:=I.list hq
  have hlen:=r'.length;obtain⟨o,ho,hc,n,hd⟩:=pl.isList;exact call_list_seq p (.inl rfl) ho hc hd (fun h' c' kp e=>fin its r' hz h' c' kp e) (by simp only[Vp]<;>omega)
 ·obtain⟨its,r',pl,hz⟩:=I.tuple hq
  have hlen:=r'.length;obtain⟨o,ho,hc,n,hd⟩:=pl;exact call_list_seq p (.inr rfl) ho hc hd (fun h' c' kp e=>fin its r' hz h' c' kp e) (by simp only[Vp]<;>omega)
theorem Xea:Xds X (.type "tuple") (fun xs H Q=>∃p ys,xs=[.ref p]/\((SqL X.K H p ys/\∀l,H l=none->Q (.ref l) (upd H l (.tup ys)))\/(SqT X.K H p ys/\Q (.ref p) H))):=by
 intro pa s σ H xs us Q I r h;obtain⟨p,ys,rfl,h⟩:=h;obtain⟨u,rfl,rx⟩:=Xkm r;cases rx;rcases h with⟨hq,q⟩|⟨hq,q⟩
 ·obtain⟨its,r',pl,hz⟩:=I.list hq
  have hlen:=r'.length;refine call_tuple_list pl.isList (fun h' kp=>?_) (by simp only[Vp]<;>omega)
  have I1:Inv X pa σ H {s with heap:=h' }:=I.kept (t':=s.toks) kp
  have I2:Inv X pa σ (upd H h'.objs.size (.tup ys)) {s with heap:=h'.push {cls:=.type "tuple",data:=.seq its.toArray} } :=
   I1.laid (t':=s.toks) (fun b o e=>Ve _ e) (Vl _) (show ObjOk X.prog X.w _ _ _ (.tup ys) from⟨hz,its,r',IsTup.new _ _⟩)
  exact⟨.ref h'.objs.size,_,I2,rfl,q _ (I1.hok.fresh (Vl _))⟩
 ·obtain⟨its,r',pl,hz⟩:=I.tuple hq
  exact call_tuple_same pl ⟨.ref p,H,I,rfl,q⟩
variable{o e:Expr}{es:List Expr}{to:TE}{t:TA}{name:Str}{apos cpos:Pos}{T id:String}{r:V->List V->Hp->VK->Prop}
/- xs.append(e),list.index on a module's tuple .. are MtR facts of 06m -/
end
end L2
namespace L2
open PySem PySem.Spec PyProof.Rows
def MtM(X:Cx)(id:String)(r:V->List V->Hp->VK->Prop):Prop :=
 ∀(pa:List (Addr×Obj)) (s:Vc) (σ:St) (H:Hp) (x:V) (xs:List V) (v:Vb) (us:List Vb) (Q:VK),Inv X pa σ H s->RelV x v->Vals xs us->r x xs H Q ->
  Vf (Vk X.prog X.w) X.A (call (.builtin id) (v::us)) (EP X pa σ Q) X.xe s
theorem Vals.one:∀ {x:V} {us:List Vb},Vals [x] us->∃u,us=[u]/\RelV x u
 |_,_,h=>by cases h with|cons r t=>cases t;exact⟨_,rfl,r⟩
theorem Vals.rep{xs:List V}{us:List Vb}(h:Vals xs us):∀k:Nat,Vals (Vh k xs).flatten (Vh k us).flatten
 |0=>.nil
 |k+1=>by
  rw[U3,U3,U0,U0];exact Vals.append h (Vals.rep h k)
theorem Xjo(its:List Vb):∀(k:Nat) (acc:List Vb),
  Vei (fun x1 x2=>x1++x2) acc.toArray (Vh k its.toArray)=(acc++(Vh k its).flatten).toArray
 |0,acc=>by simp
 |k+1,acc=>by
  have e:acc.toArray++its.toArray=(acc++its).toArray:=by simp
  have e2:(acc++its)++(Vh k its).flatten=acc++(Vh (k+1) its).flatten:=by
   rw[U3,U0,Vo]
  rw[<- e2,<- Xjo its k (acc++its),<- e,U3,Vdx]
section
variable{X:Cx}{pa:List (Addr×Obj)}{σ:St}{H:Hp}{s:Vc}{l b:Addr}{xs ys zs:List V}
theorem Inv.lset{its its':List Vb}{n:Nat}{f:Array Vb->Array Vb}{t':Nat}(I:Inv X pa σ H s)(hH:H l=some (.lst xs))
  (e:s.heap.get? l=some {cls:=.type "list",data:=.seq its.toArray n}) (hf:f its.toArray=its'.toArray) (hv:Vals ys its') (hz:ys.length<=Vw) :
  Inv X pa σ (upd H l (.lst ys)) {s with heap:=s.heap.update l (Uw f),toks:=t' }:=by
 have q:=PySem.IsL.update e f;rw[hf]at q;refine I.write (x:=l) (e:=l) (by rw[hH];exact trivial) (.inl rfl) (fun b' u hb hu=>(Vd3 s.heap (Uw f) (Ne.symm hb)).trans hu) ⟨_,q⟩ ?_
 exact⟨hz,its',_,hv,q⟩
theorem Inv.lnew{its:List Vb}{t':Nat}(I:Inv X pa σ H s)(hv:Vals ys its)(hz:ys.length<=Vw) :
  Inv X pa σ (upd H s.heap.objs.size (.lst ys)) {s with heap:=s.heap.push {cls:=.type "list",data:=.seq its.toArray},toks:=t' } :=
 I.laid (fun _ _ q=>Ve _ q) (Vl _) ⟨hz,its,0,hv,Vm _ rfl⟩
theorem Inv.fresh(I:Inv X pa σ H s):H s.heap.objs.size=none:=I.hok.fresh (Vl _)
theorem Inv.lstM(I:Inv X pa σ H s)(hH:H l=some (.lst xs)):xs.length<=Vw/\∃(its:List Vb) (n:Nat),Vals xs its/\xs.length=its.length/\s.heap.get? l=some {cls:=.type "list",data:=.seq its.toArray n}:=by
 obtain⟨z,its,n,r,e⟩:=I.hok l _ hH;exact⟨z,its,n,r,r.length,e⟩
theorem Xf0{n:Nat}(h:n<=Vw):Vcm n=false:=by
 unfold Vcm;exact decide_eq_false (by omega)
end
section
variable{X:Cx}
def Xyr:V->List V->Hp->VK->Prop:=fun x vs H Q=>∃l xs y,x=.ref l/\vs=[y]/\H l=some (.lst xs)/\xs.length<Vw/\Q .non (upd H l (.lst (xs++[y])))
theorem Xjp:MtM X "list.append" Xyr:=by
 intro pa s σ H x vs v us Q I rx rv h;obtain⟨l,xs,y,rfl,rfl,hH,hz,q⟩:=h;cases rx;obtain⟨u,rfl,ru⟩:=rv.one;obtain⟨z,its,n,r,hl,e⟩:=I.lstM hH;refine Vej F.slot_list_append ⟨_,e,rfl⟩ F.entry_list_append (F.args_list_append_2 _ _) (PySem.list_append l its.toArray n u (by rw[Vp];omega)) ⟨e,?_⟩
 refine⟨.non,_,I.lset (its':=its++[u]) hH e (by simp) (r.append (.cons ru .nil)) ?_,rfl,q⟩
 rw[Uf,Vcd];omega
def Xys:V->List V->Hp->VK->Prop:=fun x vs H Q=>∃l b xs zs,x=.ref l/\vs=[.ref b]/\H l=some (.lst xs)/\H b=some (.lst zs)/\xs.length+zs.length<=Vw/\Q .non (upd H l (.lst (xs++zs)))
theorem Xry:MtM X "list.extend" Xys:=by
 intro pa s σ H x vs v us Q I rx rv h;obtain⟨l,b,xs,zs,rfl,rfl,hH,hB,hz,q⟩:=h;cases rx;obtain⟨u,rfl,ru⟩:=rv.one;cases ru;obtain⟨z,its,n,r,hl,e⟩:=I.lstM hH;obtain⟨z2,its2,n2,r2,hl2,e2⟩:=I.lstM hB;have hsz:its.toArray.size+its2.toArray.size<=Vw:=by rw[Vp,Vp];omega
 have hlong:¬ (!its.toArray.isEmpty&&Vcm (its.toArray.size+its2.toArray.size))=true:=by
  rw[Xf0 hsz,Vgp];exact V7
 refine Vej F.slot_list_extend ⟨_,e,rfl⟩ F.entry_list_extend (F.args_list_extend_2 _ _)
  (AutoSeq1.list_extend_list_list_0 l its.toArray n b its2.toArray n2 hlong (by rw[Vp];omega) (by omega)) ⟨e,e2,?_⟩
 refine⟨.non,_,I.lset (its':=its++its2) hH e (by simp) (r.append r2) ?_,rfl,q⟩
 rw[Uf];omega
noncomputable def X87:R2:=fun x y H Q=>∃l b xs zs,x=.ref l/\y=.ref b/\H l=some (.lst xs)/\H b=some (.lst zs)/\xs.length+zs.length<=Vw/\∀p,H p=none->Q (.ref p) (upd H p (.lst (xs++zs)))
theorem X2m:OpR X (Vck .Add) X87:=by
 intro pa s σ H x y v u Q I rx ry h;obtain⟨l,b,xs,zs,rfl,rfl,hH,hB,hz,q⟩:=h;cases rx;cases ry;obtain⟨z,its,n,r,hl,e⟩:=I.lstM hH;obtain⟨z2,its2,n2,r2,hl2,e2⟩:=I.lstM hB;refine PySem.P.add_list e e2 ?_ (by rw[Vp,Vp];omega)
 have ea:its.toArray++its2.toArray=(its++its2).toArray:=by simp
 rw[ea];exact⟨.ref _,_,I.lnew (t':=s.toks) (r.append r2) (by rw[Uf];omega),rfl,q _ I.fresh⟩
noncomputable def X88:R2:=fun x y H Q=>∃l k xs,x=.ref l/\y=.int k/\H l=some (.lst xs)/\-(2^63)<=k/\k<2^63/\xs.length*k.toNat<=Vw /\
 ∀p,H p=none->Q (.ref p) (upd H p (.lst (Vh k.toNat xs).flatten))
theorem Xhs{α:Type}(xs:List α)(k:Nat):(Vh k xs).flatten.length=k*xs.length:=by
 induction k with
 |zero=>simp
 |succ k ih=>rw[U3,U0,Uf,ih,Nat.succ_mul,Nat.add_comm]
theorem X2n:OpR X (Vck .Mult) X88:=by
 intro pa s σ H x y v u Q I rx ry h;obtain⟨l,k,xs,rfl,rfl,hH,h1,h2,hz,q⟩:=h;cases rx;obtain⟨t,rfl⟩:=ry;obtain⟨z,its,n,r,hl,e⟩:=I.lstM hH;have hlen:its.toArray.size*k.toNat<=Vw:=by rw[Vp,<- hl];exact hz
 have hcap:¬ its.toArray.size*k.toNat>(2^63-1)/8:=by
  have:(Vw:Nat)<=(2^63-1)/8:=by decide
  omega
 have hfit:¬ (!Builtin.List.listFitsIndex k)=true:=by
  rw[fitsIndex_both h1 h2];exact V7
 have hlong:¬ Vcm (its.toArray.size*k.toNat)=true:=by
  rw[Xf0 hlen];exact V7
 have hnew:Vei (fun x1 x2=>x1++x2) #[] (Vh (if its.toArray.isEmpty=true then 0 else k.toNat) its.toArray)=(Vh k.toNat its).flatten.toArray:=by
  have f0:∀m:Nat,Vei (fun x1 x2=>x1++x2) #[] (Vh m its.toArray)=(Vh m its).flatten.toArray:=fun m=>by
   have:=Xjo its m [];rw[Vbi]at this;exact this
  rw[f0];cases its with
  |nil=>simp
  |cons a r'=>rw[iN0 (by simp)]
 refine Vhk (T := "list") (U := "int") (by decide) ⟨_,e,rfl⟩ (fun s'=>typeIs_int s' k t) noFill_list_mul F.fills_int_mul F.slot_int_rmul repeat_list F.slot_int_index.lookup
  (Vej F.slot_int_rmul (typeIs_int s k t) F.entry_int_rmul (F.args_int_rmul_2 _ _) (int___rmul___int_list k t l its.toArray n)
   ⟨e,rfl,⟨_,e,rfl⟩,Vej F.slot_list_mul ⟨_,e,rfl⟩ F.entry_list_mul (F.args_list_mul_2 _ _) (AutoListH.list___mul___list_int_3 l its.toArray n k t hfit hcap hlong) ⟨e,?_⟩⟩)
 rw[hnew];exact⟨.ref _,_,I.lnew (t':=s.toks) (r.rep k.toNat) (by rw[Xhs,Nat.mul_comm];exact hz),rfl,q _ I.fresh⟩
end
section
variable{prog:V1}{w:V9}{A:Uu}{E:Vb->Vc->Prop}{s:Vc}
end
section
variable{X:Cx}
end
end L2
namespace Att
open PySem PySem.W PySem.Calls PyProof.Rows
theorem Xgs{P:Params}{h:Heap}:∀(ns:List Int) (vs:List Vb),WellAll P h vs (ns.map WData.int)->Vdj vs ns:=by
 intro ns
 induction ns with
 |nil =>
  intro vs w;rw[List.map_nil]at w;cases w;exact .nil
 |cons n ns ih =>
  intro vs w;rw[Vab]at w;cases w with
  |cons a b =>
   cases a;exact .cons _ _ (ih _ b)
theorem Xrz{l:OpenLaw}{n:Nat}(hn:l.most=some n){P:Params}{h:Heap}{args:List WData}{vals:List Vb}
  (hpre:l.row.toRowW.claim.pre args=true) (hwl:WellAll P h vals args) :
  ∃a vs ns,vals=[Vas a]/\args=[WData.list (ns.map WData.int)]/\h.get? a=some {cls:=.type "list",data:=.seq vs.toArray}/\Vdj vs ns/\ns.length<=n:=by
 have hsh:WShape.hasAll [] args [.list .int]=true:=(pre_splitW hpre).1;have hc:l.pre.holds [] {args:=args}=true:=(pre_splitW hpre).2;obtain⟨d,r,rfl,h1,h2⟩:=hasAllW_cons hsh;obtain rfl:=hasAllW_nil h2;obtain⟨xs,rfl,h3⟩:=hasW_list h1;obtain⟨ns,rfl⟩:=items_int h3;have hlen:ns.length<=n:=by
  unfold OpenLaw.pre at hc;have h4:(WTm.not (.lt (.lit (.int (n:Int))) (.len (.arg 0)))).holds [] {args:=[.list (ns.map .int)]}=true:=by
   have h4:=(holds_andW hc).1;rw[hn]at h4;exact h4
  have h5:=condW_of h4 (w_not (w_lt w_lit (w_len_list (w_arg rfl))));rw[Vj]at h5;refine Nat.le_of_not_lt fun q=>?_
  have q':(n:Int)<((ns.length:Nat):Int):=by omega
  first
   | (rw[decide_eq_true q']at h5;exact aB0 h5 (by decide))
   | (simp at h5;omega)
 cases hwl with
 |cons w1 w2 =>
  cases w2;cases w1 with
  |list ho hall=>exact⟨_,_,ns,rfl,rfl,ho,Xgs ns _ hall,hlen⟩
theorem Xr0(l:OpenLaw)(args:List WData):l.row.toRowW.claim.post args (.bool true) args=true :=
 postW_of (r:=l.row.toRowW) (X:=(true==true))
  (show WShape.has [] (.bool true) .bool=true by first|rfl|decide|simp[WShape.has,WShape.arms,WShape.armsAll])
  (show(WTm.eq .res (.lit (.bool true))).value [] {args:=args,res:=some (.bool true),after:=args}=some (.bool (true==true)) from w_eq_bool (w_res rfl) w_lit) rfl
theorem attach_call{l:OpenLaw}{n:Nat}{q:V1}{loose:List Str}{XP:(Str->Option Vb)->Heap->Prop}{YP:V9->Heap->Prop}{d:DefRec}
  (hn:l.most=some n) (hdf:d.params.defaults=[])
  (call:∀(w:V9) (s₀ s₁:Vc) (mg mb:Str->Option Vb) (fa:Addr) (o:Obj) (pm cd doc:Vb) (a:Addr) (vs:List Vb) (ns:List Int),
   Ground q loose [] XP w s₀ mg mb s₁.heap->YP w s₁.heap ->
   s₁.heap.get? fa=some o->o.data=.func (docDef d.name d.params d.body d.scope pm cd doc)->s₁.heap.CodeRec cd d.name->mg d.name=some (.ref fa) ->
   s₁.heap.get? a=some {cls:=.type "list",data:=.seq vs.toArray}->Vdj vs ns->ns.length<=n->s₁.gens=#[] ->
   Vcy (Vk l.prog w) callerA (.call (.ref fa) ⟨[.ref a],[]⟩) (fun r s'=>r=.ok (.ret (.bool true))/\OldK s₁.heap s'.heap/\s'.os=s₁.os/\AllBare s'.gens) s₁) :
  WalkO q loose XP YP l.row.toRowW d [] (fun f vs=>PySem.call f vs):=by
 intro w s₀ s₁ mg mb G Y fa o pm cd doc dV kV ho hd hcd hD hmg hg args vals as hpre hlay hrd hwl hlo;obtain rfl:dV=.none:=Dflts.none hD hdf;obtain rfl:kV=.none:=Dflts.noKw hD;obtain⟨a,vs,ns,rfl,rfl,hobj,hints,hlen⟩:=Xrz hn hpre hwl;refine enter_call (Vd9 (call w s₀ s₁ mg mb fa o pm cd doc a vs ns G Y ho (fd_plain hd) hcd hmg hobj hints hlen hg) fun r s' hq=>?_)
 obtain⟨rfl,h2,h3,h4⟩:=hq;exact⟨.inl ⟨.bool true,.bool true,[],rfl,fun _=>rfl,.bool true,Xr0 l _,fun _=>⟨Vd5,fun _ hm=>(nomatch hm)⟩⟩,h2,h3,h4⟩
section
variable{prog:V1}{w:V9}{A:Uu}{E:Vb->Vc->Prop}{s:Vc}{K:Frag}
end
end Att
namespace L2
open PySem PySem.Spec PyProof.Rows
theorem Xak:∀ {vs:List Vb} {ns:List Int},Vdj vs ns->Vals (ns.map V.int) vs
 |_,_,.nil=>.nil
 |_,_,.cons n t h=>.cons ⟨t,rfl⟩ (Xak h)
def Xpw(H:Hp):Prop:=∀b,H b=none\/∃o xs,H b=some (.frz o (.lst xs))
theorem Xuh{P:V1}{w:V9}{K:Vg}{mg mb:Str->Option Vb}{CX:CXT}{k:Nat}{fa a:Addr}{fd:Vcx}{x:Str}{sp:Sp}{s₁:Vc}{vs:List Vb}{ns:List Int}
  (KX:K.In s₁.heap) (hns:s₁.heap.Ns V5 mg) (hb:s₁.heap.Ns builtinsNs mb) (hbb:∀x:Str,x ≠ "__name__" -> mb x=Vdm x) (hlim:s₁.heap.NoLimit) (hg:s₁.gens=#[])
  (ha:s₁.heap.get? a=some {cls:=.type "list",data:=.seq vs.toArray}) (hi:Vdj vs ns) (hl:ns.length<=Vw) (hr:Room k callerA)
  (F:∀base:Heap,K.In base->base.Ns V5 mg->FnOk P w K mg base CX k fa fd [x] sp) (hbind:∀(s:Vc) (u:Vb),BindsTo s fd ⟨[u],[]⟩ [(x,u)])
  (hsp:∀H:Hp,Xpw H->SqL K H a (ns.map V.int)->sp [.ref a] H (fun v _=>v=.bl true) fun _ _ _=>False)
  (hCX:∀H e s',CX [] H s₁ (fun _ _ _=>False) e s'->False) :
  Vcy (Vk P w) callerA (.call (.ref fa) ⟨[.ref a],[]⟩) (fun r s'=>r=.ok (.ret (.bool true))/\OldK s₁.heap s'.heap/\s'.os=s₁.os/\AllBare s'.gens) s₁:=by
 have rv:=Xak hi;have lenV:=hi.length;have core:∀H:Hp,Xpw H->SqL K H a (ns.map V.int)->HOk P w H s₁.heap->(∀b,H b≠none->b=a)->(H a≠none->K.lookup a=none) ->
   Vcy (Vk P w) callerA (.call (.ref fa) ⟨[.ref a],[]⟩) (fun r s'=>r=.ok (.ret (.bool true))/\OldK s₁.heap s'.heap/\s'.os=s₁.os/\AllBare s'.gens) s₁:=by
  intro H hO hS hok hA hK;have base_of:∀ {b:Addr} {o:Obj},s₁.heap.get? b=some o->H b=none->(Xdr s₁.heap H).get? b=some o:=fun e n=>Xuc e n
  have noA:∀ {b:Addr} {o:Obj} {es:Array DictEntry} {ep:Nat},s₁.heap.get? b=some o->o.data=.dict es ep->H b=none:=fun {b o es ep} e d=>by
   cases q:H b with
   |none=>rfl
   |some u =>
    have e':b=a:=hA b (by rw[q];simp)
    subst e';rw[ha]at e;cases e;have d':Data.seq vs.toArray _=Data.dict es ep:=d;cases d'
  have nsK:∀ {b:Addr} {m:Str->Option Vb},s₁.heap.Ns b m->(Xdr s₁.heap H).Ns b m:=fun {b m} ⟨o,es,ep,e,d,r⟩=>⟨o,es,ep,base_of e (noA e d),d,r⟩
  have hKb:K.In (Xdr s₁.heap H):=fun b o e=>base_of (KX b o e) (by
   cases q:H b with
   |none=>rfl
   |some u =>
    have e':b=a:=hA b (by rw[q];simp)
    subst e';rw[hK (by rw[q];simp)]at e;cases e)
  have hM:Mod K mg (Xdr s₁.heap H):=⟨hKb,nsK hns,⟨mb,nsK hb,hbb⟩,let ⟨mc,h1,h2⟩:=hlim;⟨mc,nsK h1,h2⟩⟩
  have e0:Env0 P w K mg (Xdr s₁.heap H) callerA [] s₁ H:=⟨rfl,hM,fun b o e=>Xym e,Nat.le_of_eq (Xrs _ _),trivial,fun b hb=>aB0 (show b∈([]:List Addr) from hb) (by simp),hok,.of_eq hg⟩
  refine Vd9 ((F _ hKb (nsK hns)).run callerA [] s₁ H ⟨[.ref a],[]⟩ [.ref a] [.ref a] _ _ hr e0 (hbind s₁ (.ref a)) (.cons rfl .nil) (hsp H hO hS)) fun r s' h=>?_
  cases r with
  |error e=>exact(hCX H e s' h).elim
  |ok fl =>
   cases fl with
   |next=>exact Vgb h
   |brk=>exact Vgb h
   |cont=>exact Vgb h
   |ret u =>
    obtain⟨v,H',os,bare,un,hok',r',q⟩:=h;have q':v=.bl true:=q;subst q';obtain rfl:u=Veh true:=r';refine⟨rfl,OldK.of_keep fun b o e=>?_,os,bare⟩
    cases q:H b with
    |none=>exact un.keep b o e q (by intro z;exact aB0 (show b∈([]:List Addr) from z) (by simp)) (by simp)
    |some u =>
     rcases hO b with z|⟨ob,xs,z⟩
     ·rw[q]at z;cases z
     ·have z2:=un.frzs b ob _ z
      obtain⟨e1,_⟩:=hok b _ z;obtain⟨e2,_⟩:=hok' b _ z2;rw[e]at e1;cases e1;exact e2
 cases hk:K.lookup a with
 |some o =>
  have e:=KX a o hk;rw[ha]at e;cases e;refine core (fun _=>none) (fun _=>.inl rfl) (.inr ⟨_,vs.toArray,_,hk,rfl,rfl,rfl,by rw[Vp,lenV];exact hl,by simpa using rv⟩) (fun b u z=>by have z':(none:Option HO)=some u:=z;cases z') (fun b z=>aB0 rfl z) fun z=>aB0 rfl z
 |none =>
  refine core (fun b=>if b=a then some (.frz {cls:=.type "list",data:=.seq vs.toArray} (.lst (ns.map V.int))) else none) (fun b=>?_) (.inl (.inr ⟨{cls:=.type "list",data:=.seq vs.toArray},iP0 rfl⟩)) (fun b u z=>?_) (fun b z=>?_) fun _=>hk
  ·by_cases hb:b=a
   ·exact .inr ⟨_,_,iP0 hb⟩
   ·exact .inl (iN0 hb)
  ·by_cases hb:b=a
   ·have z':=(iP0 hb).symm.trans z
    cases z';subst hb;exact⟨ha,by rw[Vj];exact hl,vs,_,rv,ha⟩
   ·have z':=(iN0 hb).symm.trans z
    cases z'
  ·by_cases hb:b=a
   ·exact hb
   ·exact aB0 (iN0 hb) z
end L2
namespace L2
open PySem PySem.Spec PyProof.Rows
theorem walk_of{l:PySem.W.OpenLaw}{n k:Nat}{q:V1}{loose:List Str}{XP:(Str->Option Vb)->Heap->Prop}{YP:V9->Heap->Prop}{d:DefRec}{K:Params->Vg}{CX:V9->CXT}{sp:V9->Sp}{x:Str}
  (hn:l.most=some n) (hn2:n<=Vw) (hdf:d.params.defaults=[]) (hr:Room k callerA)
  (hY:∀(w:V9) (h:Heap),YP w h->(K w.params).In h)
  (F:∀(w:V9) (mg:Str->Option Vb) (fa:Addr) (h:Heap),(K w.params).In h->h.Ns V5 mg->mg d.name=some (.ref fa) ->
   ∃fd:Vcx,(∀(s:Vc) (u:Vb),BindsTo s fd ⟨[u],[]⟩ [(x,u)]) /\
    ∀base:Heap,(K w.params).In base->base.Ns V5 mg->FnOk l.prog w (K w.params) mg base (CX w) k fa fd [x] (sp w))
  (hsp:∀(w:V9) (H:Hp) (a:Addr) (ns:List Int),ns.length<=n->Xpw H->SqL (K w.params) H a (ns.map V.int)->sp w [.ref a] H (fun v _=>v=.bl true) fun _ _ _=>False)
  (hCX:∀(w:V9) (H:Hp) (s:Vc) (e:Vb) (s':Vc),CX w [] H s (fun _ _ _=>False) e s'->False) :
  PySem.W.WalkO q loose XP YP l.row.toRowW d [] (fun f vs=>PySem.call f vs):=by
 refine Att.attach_call hn hdf fun w s₀ s₁ mg mb fa o pm cd doc a vs ns G Y ho hd hcd hmg hobj hints hlen hg=>?_
 have KX:=hY w _ Y;obtain⟨fd,hb,hF⟩:=F w mg fa _ KX G.T.g hmg;exact Xuh KX G.T.g G.T.b G.T.builtins G.T.nolimit hg hobj hints (U4 hlen hn2) hr hF hb (fun H hO hS=>hsp w H a ns hlen hO hS) fun H e s'=>hCX w H s₁ e s'
end L2
/- THE LAST THEOREM (shape;LID,My.* are yours):
   My.Adr: a structure of the addresses that your layer names (classes,functions);My.Txt K t: a structure (Prop) of the equations over K;
   My.txt_mk:{K} {implicit addresses ..} (e1:nsIn K V5 "law" = some (some (.ref f))) (e2:K.lookup f=some ⟨oc,od,.func (fnOf "law" "law" params body scope dV kV doc pm an cdv ct),sl⟩) (e3:codeIn K cdv "law" = true) ..:∃t,My.Txt K t
set_option maxRecDepth 100000 in
set_option maxHeartbeats 0 in
theorem PySem.Challenge.cw_LID_holds : PySem.Challenge.rw_LID.Holds := by
 w_on;o_law;k_head;(case hw=>w_witness2)
 k_fill
 refine L2.walk_of (l:=PySem.Challenge.rw_LID) (n:=63) (k:=40) (x := "script") (CX:=fun w=>..) (sp:=fun _=>My.sp_law) rfl (by decide) rfl ⟨rfl,by decide,by decide⟩ (fun w h Y=>PySem.W.kIn_of Y) ?F ?S ?C
 case F =>
  intro w mg fa h KX G hmg;have T:∃t,My.Txt (L2.KOf KX) t:=by
   dsimp only[L2.KOf]                          -- K must stand as «<heap const> w.params» for k_is;refine' My.txt_mk ?e1 ?e2 ?e3 ..
   (case e1=>PySem.W.k_is)                    -- in the order: a name -> its address -> its object -> its parts
   (case e2=>PySem.W.k_is)
   ..
  obtain⟨t,T⟩:=T;have e0:=hmg.symm.trans (Vc7 KX G T.law);cases e0                                       -- fa is the law's own address;exact⟨_,fun s u=>.of_eq rfl,fun base kb nb=>My.law_fn T kb nb⟩     -- if «.of_eq rfl» comes too early: refine' ⟨_,?b,fun base kb nb=>My.law_fn T kb nb⟩;exact fun s u=>.of_eq rfl
 case S=>exact fun w H a ns hl hO hS=>..
 case C=>exact ..
(the tactic k_is has no namespace: write k_is) -/
namespace L2
open PySem PySem.Spec PyProof.Rows
noncomputable def Xap(s:Stmt):Arguments:=match s with
 |.FunctionDef _ a _ _ _ _ _ _ _ _=>a
 |_=>{posonlyargs:=[],args:=[],vararg:=none,kwonlyargs:=[],kw_defaults:=[],kwarg:=none,defaults:=[]}
noncomputable def Yl(s:Stmt):List Stmt:=match s with
 |.FunctionDef _ _ b _ _ _ _ _ _ _=>b
 |_=>[]
noncomputable def Xv(s:Stmt):Uv:=match s with
 |.FunctionDef _ _ _ _ _ _ sc _ _ _=>sc
 |_=>{kind:=.function,names:=[],isGenerator:=false,isCoroutine:=false}
structure Fun(K:Vg)(x qual:Str)(st:Stmt)(f:Addr)(fd:Vcx):Prop where
 ex:∃(oc:Vb) (od:Option Addr) (kV doc pm:Vb) (an:Option Addr) (cdv ct:Vb) (osl:Array (Option Vb)),
  fd=Vcb x qual (Xap st) (Yl st) (Xv st) .none kV doc pm an cdv ct/\K.lookup f=some ⟨oc,od,.func fd,osl⟩/\Vgq K cdv qual=true
 kp:Vdk K (.ref f)=true
section
variable{P:V1}{w:V9}{K:Vg}{mg:Str->Option Vb}{base:Heap}
theorem Fun.binds{x qual:Str}{st:Stmt}{f:Addr}{fd:Vcx}{ps:List Str}(F:Fun K x qual st f fd)
  (h:∀(kV doc pm:Vb) (an:Option Addr) (cdv ct:Vb) (us:List Vb),us.length=ps.length->bindArgs (Vcb x qual (Xap st) (Yl st) (Xv st) .none kV doc pm an cdv ct) ⟨us,[]⟩=pure (ps.zip us)):Binds K fd ps []:=by
 obtain⟨oc,od,kV,doc,pm,an,cdv,ct,osl,rfl,lk,hcd⟩:=F.ex;exact .all (h kV doc pm an cdv ct)
theorem X2o{x qual:Str}{st:Stmt}{f:Addr}{oc:Vb}{od an:Option Addr}{osl:Array (Option Vb)}{kV doc pm cdv ct:Vb}(l:K.lookup f=some ⟨oc,od,.func (Vcb x qual (Xap st) (Yl st) (Xv st) .none kV doc pm an cdv ct),osl⟩)
  (c:Vgq K cdv qual=true) (k:Vdk K (.ref f)=true):Fun K x qual st f (Vcb x qual (Xap st) (Yl st) (Xv st) .none kV doc pm an cdv ct):=⟨⟨oc,od,kV,doc,pm,an,cdv,ct,osl,rfl,l,c⟩,k⟩
end
section
variable{X:Cx}
end
end L2
end
section
namespace Z
open PySem PySem.SetTable
theorem Xn6{xs:Array Nat}{i a b:Nat}(h:i<xs.size):xs.getD i a=xs.getD i b:=by simp[Vcn,h]
def Ris(xs:Array Nat):Prop:=xs.toList.Pairwise (· < ·)
theorem Ris.lt{xs:Array Nat}(h:Ris xs){i j a:Nat}(hij:i<j)(hj:j<xs.size):xs.getD i a<xs.getD j a:=by
 have:=Vhl.mp h i j (by simpa using Vea hij hj) (by simpa using hj) hij
 simpa [Vcn,hj,Vea hij hj] using this
theorem Xf1{xs:Array Nat}{j:Nat}(hr:Ris xs):∀(fuel lo hi:Nat),hi<=xs.size->lo<=hi->hi-lo<=fuel->(∀k,k<lo->xs.getD k 0<j)->(∀k,hi<=k->k<xs.size->j<=xs.getD k 0) ->
  below.go xs j fuel lo hi<=xs.size/\(∀k,k<below.go xs j fuel lo hi->xs.getD k 0<j)/\∀k,below.go xs j fuel lo hi<=k->k<xs.size->j<=xs.getD k 0
 |0,lo,hi,h1,h2,h3,h4,h5=>by
  have:lo=hi:=by omega
  subst this;exact⟨h1,h4,h5⟩
 |f+1,lo,hi,h1,h2,h3,h4,h5=>by
  unfold below.go
  by_cases hl:lo<hi
  ·rw[iP0 hl]
   dsimp only;have hm:(lo+hi)/2<xs.size:=by omega
   by_cases c:xs.getD ((lo+hi)/2) j<j
   ·rw[iP0 c]
    refine Xf1 hr f _ hi h1 (by omega) (by omega) (fun k hk=>?_) h5
    rw[Xn6 (b:=0) hm]at c
    by_cases e:k=(lo+hi)/2
    ·rw[e];exact c
    ·exact Vea (hr.lt (by omega) hm) c
   ·rw[iN0 c]
    refine Xf1 hr f lo _ (by omega) (by omega) (by omega) h4 fun k hk hs=>?_
    rw[Xn6 (b:=0) hm]at c
    by_cases e:k=(lo+hi)/2
    ·rw[e];omega
    ·have:=hr.lt (a:=0) (show(lo+hi)/2<k by omega) hs
     omega
  ·rw[iN0 hl]
   have:lo=hi:=by omega
   subst this;exact⟨h1,h4,h5⟩
theorem Xdt{xs:Array Nat}(hr:Ris xs)(j:Nat):below xs j<=xs.size/\(∀k,k<below xs j->xs.getD k 0<j)/\∀k,below xs j<=k->k<xs.size->j<=xs.getD k 0 :=
 Xf1 hr xs.size 0 xs.size (Vl _) (Ul _) (Vl _) (fun k hk=>aB0 hk (Vex _)) fun k h1 h2=>aB0 h2 (Nat.not_lt.mpr h1)
structure Tb(t:Var):Prop where
 ris:Ris t.place
 dum:t.dummies=#[]
theorem Xht{t:Var}(T:Tb t)(j:Nat):(∃i,t.slot j=.live i/\t.place[i]?=some j)\/(t.slot j=.empty/\∀k,k<t.place.size->t.place.getD k 0≠j):=by
 obtain⟨b1,b2,b3⟩:=Xdt T.ris j;have hs:t.slot j=if t.place[below t.place j]?==some j then .live (below t.place j) else .empty:=by
  unfold SetTable.slot SetTable.has;rw[T.dum];dsimp only;split
  ·rfl
  ·simp
 rw[hs]
 by_cases c:(t.place[below t.place j]?==some j)=true
 ·rw[iP0 c]
  exact .inl ⟨_,rfl,eq_of_beq c⟩
 ·rw[iN0 c]
  refine .inr ⟨rfl,fun k hk e=>c ?_⟩
  by_cases q:k<below t.place j
  ·have:=b2 k q;omega
  ·by_cases q2:k=below t.place j
   ·subst q2
    have:t.place[below t.place j]?=some j:=by
     rw[Va9 hk];simp[Vcn,hk]at e;rw[e]
    rw[this];exact beq_self_eq_true _
   ·have h1:=b3 _ (Vl _) (by omega)
    have h2:=T.ris.lt (a:=0) (show below t.place j<k by omega) hk
    omega
theorem gap{xs:Array Nat}(hr:Ris xs):∀n,n<=xs.size->(∀k,k<n->xs.getD k 0=k)\/∃e,e<n/\∀k,k<xs.size->xs.getD k 0≠e
 |0,_=>.inl fun k hk=>aB0 hk (Vex _)
 |n+1,h=>by
  rcases gap hr n (by omega) with q|⟨e,he,q⟩
  ·by_cases c:xs.getD n 0=n
   ·exact .inl fun k hk=>by
     by_cases z:k=n
     ·rw[z,c]
     ·exact q k (by omega)
   ·refine .inr ⟨n,by omega,fun k hk=>?_⟩
    have hn:n<=xs.getD n 0:=by
     cases n with
     |zero=>exact Ul _
     |succ m =>
      have h1:=hr.lt (a:=0) (show m<m+1 by omega) (by omega)
      have h2:=q m (by omega)
      omega
    rcases Nat.lt_trichotomy k n with z|z|z
    ·have:=q k z;omega
    ·rw[z];exact c
    ·have:=hr.lt (a:=0) z hk;omega
  ·exact .inr ⟨e,by omega,q⟩
theorem Xpx{t:Var}(T:Tb t):∃e,e<=t.place.size/\t.slot e=.empty:=by
 have key:∃e,e<=t.place.size/\∀k,k<t.place.size->t.place.getD k 0≠e:=by
  rcases gap T.ris _ (Vl _) with q|⟨e,he,q⟩
  ·exact⟨t.place.size,Vl _,fun k hk z=>by have:=q k hk;omega⟩
  ·exact⟨e,by omega,q⟩
 obtain⟨e,he,q⟩:=key;refine⟨e,he,?_⟩;rcases Xht T e with⟨i,_,h⟩|⟨h,_⟩
 ·obtain⟨hi,hx⟩:=Vbp.mp h
  exact aB0 (by simp[Vcn,hi,hx]) (q i hi)
 ·exact h
noncomputable def fiv(m x:Nat):Nat:=(x*5+1)%(m+1)
noncomputable def itf(m:Nat):Nat->Nat->Nat
 |0,x=>x
 |k+1,x=>itf m k (fiv m x)
noncomputable def orM(m:Nat):Nat->Nat->Nat->Nat
 |0,_,a=>a
 |n+1,x,a=>orM m n (fiv m x) (a ||| (1 <<< x))
theorem Xn7(m e:Nat):∀(n x a:Nat),(orM m n x a).testBit e=true->a.testBit e=true\/∃k,k<n/\itf m k x=e
 |0,x,a,h=>.inl h
 |n+1,x,a,h=>by
  rcases Xn7 m e n _ _ h with q|⟨k,hk,q⟩
  ·rw[Nat.testBit_or,Vb6]at q
   rcases q with q|q
   ·exact .inl q
   ·refine .inr ⟨0,by omega,?_⟩
    rw[Nat.one_shiftLeft,Nat.testBit_two_pow]at q
    simpa [itf] using q
  ·exact .inr ⟨k+1,by omega,q⟩
noncomputable def cyc(m:Nat):Bool:=(V0 (m+1)).all fun x=>orM m (m+1) x 0==2^(m+1)-1
theorem X2p{m:Nat}(h:cyc m=true){x e:Nat}(hx:x<m+1)(he:e<m+1):∃k,k<m+1/\itf m k x=e:=by
 have q:=Ux.mp h x (Vb2.mpr hx);have z:(orM m (m+1) x 0).testBit e=true:=by
  rw[eq_of_beq q,Nat.testBit_two_pow_sub_one];exact decide_eq_true he
 rcases Xn7 m e _ _ _ z with w|w
 ·simp at w
 ·exact w
def Mk(m:Nat):Prop:=m=7\/m=31\/m=127
theorem Mk.cyc{m:Nat}(h:Mk m):cyc m=true:=by
 rcases h with rfl|rfl|rfl<;>decide+kernel
noncomputable def rnd(m:Nat):Nat->Nat×Nat->Nat×Nat
 |0,p=>p
 |r+1,p=>rnd m r (leap m p.1 p.2)
theorem Xn8(m a:Nat):∀(b:Nat) (p:Nat×Nat),rnd m (b+a) p=rnd m a (rnd m b p)
 |0,p=>by simp[rnd]
 |b+1,p=>by rw[Nat.add_right_comm];exact Xn8 m a b _
theorem Xn9(m:Nat):∀(r:Nat) (p:Nat×Nat),(rnd m r p).2=p.2/32^r
 |0,p=>by simp[rnd]
 |r+1,p=>by
  rw[rnd,Xn9 m r];show p.2/32/32^r=_;rw[Nat.div_div_eq_div_mul,Nat.pow_succ,Nat.mul_comm]
theorem Xk3(m:Nat):∀(r i:Nat),rnd m r (i,0)=(itf m r i,0)
 |0,i=>rfl
 |r+1,i=>by
  have:leap m i 0=(fiv m i,0):=by simp[leap,fiv]
  rw[rnd];show rnd m r (leap m i 0)=_;rw[this];exact Xk3 m r _
theorem Xr1(m:Nat):∀(r:Nat) (p:Nat×Nat),p.1<m+1->(rnd m r p).1<m+1
 |0,p,h=>h
 |r+1,p,h=>Xr1 m r _ (Nat.mod_lt _ (by omega))
theorem Xk4{m:Nat}(hm:Mk m){i q e:Nat}(hi:i<m+1)(hq:q<2^64)(he:e<m+1):∃r,r<m+14/\(rnd m r (i,q)).1=e:=by
 have h1:(rnd m 13 (i,q)).2=0:=by
  rw[Xn9];exact Nat.div_eq_of_lt (V6 hq (by decide))
 have h2:=Xr1 m 13 (i,q) hi;obtain⟨k,hk,e1⟩:=X2p hm.cyc h2 he;refine⟨13+k,by omega,?_⟩
 rw[Xn8];have:rnd m 13 (i,q)=((rnd m 13 (i,q)).1,0):=Prod.ext rfl h1;rw[this,Xk3];exact e1
noncomputable def its(t:Var):Nat->Probe->Probe
 |0,p=>p
 |n+1,p=>its t n (t.advance p)
theorem Xoa(t:Var)(a:Nat):∀(b:Nat) (p:Probe),its t (b+a) p=its t a (its t b p)
 |0,p=>by simp[its]
 |b+1,p=>by rw[Nat.add_right_comm];exact Xoa t a b _
noncomputable def Xhu(t:Var)(p:Nat×Nat):Probe:={j:=p.1,more:=runEnd t.mask p.1-p.1,i:=p.1,perturb:=p.2,dummy:=none}
theorem Xjq(t:Var)(i q:Nat):∀(m j:Nat),its t (m+1) {j:=j,more:=m,i:=i,perturb:=q,dummy:=none}=Xhu t (leap t.mask i q)
 |0,j=>by simp[its,advance,Xhu]
 |m+1,j=>by
  rw[its];have:t.advance {j:=j,more:=m+1,i:=i,perturb:=q,dummy:=none}={j:=j+1,more:=m,i:=i,perturb:=q,dummy:=none}:=by simp[advance]
  rw[this];exact Xjq t i q m (j+1)
theorem X2q(m i:Nat):runEnd m i-i<=9:=by unfold runEnd;split<;>omega
theorem Xk5(t:Var):∀(r:Nat) (p:Nat×Nat),∃n,n<=10*r/\its t n (Xhu t p)=Xhu t (rnd t.mask r p)
 |0,p=>⟨0,Vl _,rfl⟩
 |r+1,p=>by
  obtain⟨n,hn,e⟩:=Xk5 t r (leap t.mask p.1 p.2);refine⟨(runEnd t.mask p.1-p.1+1)+n,by have:=X2q t.mask p.1;omega,?_⟩
  rw[Xoa,Xhu,Xjq t p.1 p.2];exact e
theorem Xr2(t:Var)(p:Probe):(t.advance p).dummy=p.dummy:=by
 unfold advance;split
 ·rfl
 ·rfl
theorem Xob{t:Var}(T:Tb t){f:Nat->Int}{h:Int}(hf:∀i,(f i==h)=false):∀(n fuel:Nat) (p:Probe),n<fuel->p.dummy=none->t.slot (its t n p).j=.empty->∃j,probe.go t f h fuel p=some (.empty j none)/\t.slot j=.empty
 |n,0,p,hn,_,_=>aB0 hn (Vex _)
 |n,fuel+1,p,hn,hd,he=>by
  unfold probe.go;rcases Xht T p.j with⟨i,h1,_⟩|⟨h1,_⟩
  ·rw[h1]
   dsimp only;rw[hf i];simp only[V2,if_false];cases n with
   |zero=>rw[its,h1]at he;cases he
   |succ n=>exact Xob T hf n fuel _ (by omega) (by rw[Xr2];exact hd) he
  ·rw[h1,hd]
   exact⟨p.j,rfl,h1⟩
theorem Xoc(h:Int):bits h<2^64:=by unfold bits;omega
theorem Xyt{t:Var}(T:Tb t)(hm:Mk t.mask)(hn:t.place.size<=t.mask)(h:Int):∃j,t.freeSlot h=some (j,false)/\t.slot j=.empty:=by
 obtain⟨e,he,hs⟩:=Xpx T;obtain⟨r,hr,e1⟩:=Xk4 hm (i:=bits h%(t.mask+1)) (q:=bits h) (Nat.mod_lt _ (by omega)) (Xoc h) (e:=e) (by omega)
 obtain⟨n,hn',e2⟩:=Xk5 t r (bits h%(t.mask+1),bits h);have st:t.probeStart h=Xhu t (bits h%(t.mask+1),bits h):=rfl;obtain⟨j,g1,g2⟩:=Xob T (f:=fun _=>h+1) (h:=h) (fun i=>beq_eq_false_iff_ne.mpr (by omega)) n (10*turns t.mask) (t.probeStart h) (by unfold turns;omega) rfl (by rw[st,e2];show t.slot (rnd t.mask r _).1=_;rw[e1];exact hs)
 refine⟨j,?_,g2⟩;unfold freeSlot probe;rw[g1];rfl
theorem Xf2{α:Type}(xs:Array α)(p:Nat)(x:α)(hp:p<=xs.size):(insertAt xs p x).toList=xs.toList.take p++x::xs.toList.drop p:=by
 unfold insertAt;simp only[Array.toList_append,Vhf,Array.toList_extract,List.extract_eq_take_drop,Vgr,Nat.sub_zero];have:List.take (xs.size-p) (List.drop p xs.toList)=List.drop p xs.toList:=Vc3 (by simp)
 rw[this,Vo];rfl
theorem Xyu{xs:Array Nat}(hr:Ris xs){j:Nat}(hj:∀k,k<xs.size->xs.getD k 0≠j):Ris (insertAt xs (below xs j) j):=by
 obtain⟨b1,b2,b3⟩:=Xdt hr j;unfold Ris;rw[Xf2 _ _ _ b1];have at_:∀k,(hk:k<xs.toList.length)->xs.toList[k]=xs.getD k 0:=fun k hk=>by
  have hk':k<xs.size:=by simpa using hk
  simp[Vcn,hk']
 have lo:∀x∈xs.toList.take (below xs j),x<j:=fun x hx=>by
  obtain⟨k,hk,rfl⟩:=Vbm.mp hx;rw[Vbx]at hk;rw[List.getElem_take,at_];exact b2 k (by omega)
 have hi:∀x∈xs.toList.drop (below xs j),j<x:=fun x hx=>by
  obtain⟨k,hk,rfl⟩:=Vbm.mp hx;rw[Vfz,Ub]at hk;rw[List.getElem_drop,at_];have h1:=b3 (below xs j+k) (by omega) (by omega)
  have h2:=hj (below xs j+k) (by omega)
  omega
 refine List.pairwise_append.mpr ⟨List.Pairwise.sublist (List.take_sublist _ _) hr,Vc4.mpr ⟨hi,List.Pairwise.sublist (List.drop_sublist _ _) hr⟩,fun a ha b hb=>?_⟩
 rcases Vv.mp hb with rfl|hb
 ·exact lo a ha
 ·exact Vea (lo a ha) (hi b hb)
structure Tab(t:Var)(n:Nat):Prop where
 tb:Tb t
 pl:t.plain=true
 sz:t.place.size=n
 ms:(t.mask=7/\n<=4)\/(t.mask=31/\n<=18)\/(t.mask=127/\n<=76)
theorem Tab.mk'{t:Var}{n:Nat}(T:Tab t n):Mk t.mask/\n+1<=t.mask:=by
 rcases T.ms with⟨e,h⟩|⟨e,h⟩|⟨e,h⟩<;>rw[e]<;>exact⟨by simp[Mk],by omega⟩
theorem Xc3{t:Var}(T:Tb t):t.fill=t.place.size:=by unfold fill;rw[T.dum];rfl
theorem X2r{t:Var}(T:Tb t){j:Nat}(hj:t.slot j=.empty):Tb (t.put j).1/\(t.put j).1.place.size=t.place.size+1/\(t.put j).1.mask=t.mask/\(t.put j).1.plain=t.plain/\(t.put j).1.led=t.led/\(t.put j).2<=t.place.size:=by
 have hk:∀k,k<t.place.size->t.place.getD k 0≠j:=by
  rcases Xht T j with⟨i,h,_⟩|⟨_,h⟩
  ·rw[h]at hj;cases hj
  ·exact h
 obtain⟨b1,_⟩:=Xdt T.ris j;refine⟨⟨Xyu T.ris hk,?_⟩,?_,rfl,rfl,rfl,b1⟩
 ·show(if has t.dummies j=true then _ else t.dummies)=_
  rw[T.dum];simp[has]
 ·show(insertAt t.place (below t.place j) j).size=_
  rw[<- Ub,Xf2 _ _ _ b1];simp;omega
theorem X2s{t:Var}{es:Array (Int×Vb)}(T:Tab t es.size)(h:Int)(x:Vb):∃es' t',layNew t es h x=(es',t',false,false)/\Tb t'/\t'.mask=t.mask/\t'.plain=true/\t'.led=t.led/\t'.place.size=es.size+1/\es'.size=es.size+1:=by
 obtain⟨hm,hn⟩:=T.mk';obtain⟨j,f1,f2⟩:=Xyt T.tb hm (by rw[T.sz];omega) h
 obtain⟨p1,p2,p3,p4,p5,p6⟩:=X2r T.tb f2;rw[T.sz]at p2 p6;have hsz:(insertAt es (t.put j).2 (h,x)).size=es.size+1:=by
  rw[<- Ub,Xf2 _ _ _ p6];simp;omega
 have ft:(t.put j).1.fits (insertAt es (t.put j).2 (h,x)).size=true:=by
  unfold SetTable.fits;rw[Xc3 p1,p2,hsz,p3];simp;omega
 refine⟨insertAt es (t.put j).2 (h,x),(t.put j).1,?_,p1,p3,by rw[p4];exact T.pl,p5,p2,hsz⟩
 unfold layNew;rw[f1];show(insertAt es (t.put j).2 (h,x),(t.put j).1.orStandIn (insertAt es (t.put j).2 (h,x)).size,false,!(t.put j).1.fits (insertAt es (t.put j).2 (h,x)).size)=_;unfold SetTable.orStandIn;generalize t.put j=pj at ft;rw[ft];rfl
theorem Xk6(k:Nat):∀(l:List (Option Nat)) (j:Nat),l[j]?=some none->((l.set j (some k)).filterMap id).Perm (k::l.filterMap id)
 |[],j,h=>by simp at h
 |o::l,0,h=>by
  simp only[gZ0,Vr]at h;subst h;exact Vdl _
 |o::l,j+1,h=>by
  have ih:=Xk6 k l j (by simpa using h)
  cases o with
  |none=>exact ih
  |some a=>exact(ih.cons a).trans (List.Perm.swap k a _)
theorem Xjr:∀(l:List (Option Nat)),(l.filterMap id).length<l.length->∃j:Nat,l[j]?=some none
 |[],h=>by simp at h
 |o::l,h=>by
  cases o with
  |none=>exact⟨0,rfl⟩
  |some a =>
   obtain⟨j,hj⟩:=Xjr l (by simpa using h)
   exact⟨j+1,by simpa using hj⟩
theorem Xk7{m:Nat}{ow:Array (Option Nat)}:∀(fuel r i q:Nat),r<fuel->ow[(rnd m r (i,q)).1]?=some none->∃j,layClean.free m ow fuel i q=some j/\ow[j]?=some none
 |0,r,i,q,hr,_=>aB0 hr (Vex _)
 |f+1,r,i,q,hr,h=>by
  unfold layClean.free;cases e:(V0 (runEnd m i+1-i)).find? fun k=>(ow.getD (i+k) (some 0)).isNone with
  |some k =>
   refine⟨i+k,rfl,?_⟩;have z:=List.find?_some e
   by_cases hk:i+k<ow.size
   ·rw[Va9 hk]
    simp only[Vcn,hk,dite_true]at z
    simpa using z
   ·simp[Vcn,hk]at z
  |none =>
   dsimp only;cases r with
   |zero =>
    have z:=List.find?_eq_none.mp e 0 (Vb2.mpr (by unfold runEnd;split<;>omega))
    obtain⟨hi,hx⟩:=Vbp.mp (show ow[i]?=some none from h);simp[Vcn,hi,hx]at z
   |succ r=>exact Xk7 f r _ _ (by omega) h
def Own(m:Nat)(ow:Array (Option Nat))(k:Nat):Prop:=ow.size=m+1/\(ow.toList.filterMap id).Perm (V0 k)
theorem Xui{m:Nat}(hm:Mk m){ow:Array (Option Nat)}{k:Nat}(O:Own m ow k)(hk:k<m+1)(h:Int):∃j,layClean.free m ow (turns m) (bits h%(m+1)) (bits h)=some j/\Own m (ow.setIfInBounds j (some k)) (k+1):=by
 obtain⟨o1,o2⟩:=O;obtain⟨e,he⟩:=Xjr ow.toList (by rw[o2.length_eq,Vai,Ub,o1];exact hk)
 have hes:e<m+1:=by
  have:=(Vi.mp he).1;rw[Ub,o1]at this;exact this
 obtain⟨r,hr,e1⟩:=Xk4 hm (i:=bits h%(m+1)) (q:=bits h) (Nat.mod_lt _ (by omega)) (Xoc h) hes
 obtain⟨j,f1,f2⟩:=Xk7 (m:=m) (ow:=ow) (turns m) r (bits h%(m+1)) (bits h) (by unfold turns;omega) (by rw[e1,<- Vaw];exact he)
 refine⟨j,f1,by rw[Array.size_setIfInBounds,o1],?_⟩
 rw[Array.toList_setIfInBounds];refine(Xk6 k _ j (by rw[Vaw];exact f2)).trans ((o2.cons k).trans ?_)
 rw[List.range_succ];exact(List.perm_append_singleton k (V0 k)).symm
theorem Xod{m:Nat}(hm:Mk m):∀(hs:List Int) (ow:Array (Option Nat)) (k:Nat),Own m ow k->k+hs.length<m+1->∃ow',Own m ow' (k+hs.length) /\
  hs.foldl (fun acc h=>do
   let (owner,k) <- acc
   let j <- layClean.free m owner (turns m) (bits h%(m+1)) (bits h)
   pure (owner.setIfInBounds j (some k),k+1)) (some (ow,k))=some (ow',k+hs.length)
 |[],ow,k,O,_=>⟨ow,O,rfl⟩
 |h::hs,ow,k,O,hl=>by
  rw[Uc]at hl;obtain⟨j,f1,f2⟩:=Xui hm O (by omega) h
  obtain⟨ow',O',e⟩:=Xod hm hs _ (k+1) f2 (by omega)
  refine⟨ow',by rw[Uc,show k+(hs.length+1)=k+1+hs.length by omega];exact O',?_⟩
  rw[Vdx,Uc,show k+(hs.length+1)=k+1+hs.length by omega,<- e]
  congr 1;show(layClean.free m ow (turns m) (bits h%(m+1)) (bits h)).bind _=_;rw[f1];rfl
theorem Xk8:∀(l:List (Option Nat)) (s:Nat) (g:Nat->Option Nat),(∀i,i<l.length->g (s+i)=l.getD i none)->((List.range' s l.length).filterMap fun j=>(g j).map (j,·)).map (·.2)=l.filterMap id
 |[],s,g,h=>rfl
 |o::l,s,g,h=>by
  have h0:=h 0 (by simp)
  have ih:=Xk8 l (s+1) g fun i hi=>by
   have:=h (i+1) (by simp;omega)
   rw[show s+1+i=s+(i+1) by omega,this]
   rfl
  rw[Uc,List.range'_succ,Vbc];rw[Nat.add_zero]at h0;rw[h0];cases o with
  |none=>simpa using ih
  |some a=>simpa using ih
theorem Xk9(g:Nat->Option Nat):∀(l:List Nat),l.Pairwise (· < ·)->(((l.filterMap fun j=>(g j).map (j,·)).map (·.1)).Pairwise (· < ·)/\∀x∈(l.filterMap fun j=>(g j).map (j,·)).map (·.1),x∈l)
 |[],_=>⟨Vd5,fun x hx=>by simp at hx⟩
 |a::l,h=>by
  obtain⟨h1,h2⟩:=Vc4.mp h;obtain⟨i1,i2⟩:=Xk9 g l h2;rw[Vbc];cases e:g a with
  |none =>
   simp only[Vgc];exact⟨i1,fun x hx=>Ua _ (i2 x hx)⟩
  |some b =>
   simp only[Vy,Vab];refine⟨Vc4.mpr ⟨fun x hx=>h1 x (i2 x hx),i1⟩,fun x hx=>?_⟩
   rcases Vv.mp hx with rfl|hx
   ·exact Uo
   ·exact Ua _ (i2 x hx)
theorem Xyv{m f v:Nat}{led pl:Bool}(hm:Mk m)(hs:Array Int)(hl:hs.size<m+1):∃t order,laid m f v led pl hs=some (t,order)/\Tb t/\t.mask=m/\t.plain=pl/\t.led=led/\t.place.size=hs.size/\order.toList.Perm (V0 hs.size):=by
 have O0:Own m (Array.replicate (m+1) none) 0:=⟨by simp,by
  rw[Array.toList_replicate];have:∀n,(Vh n (none:Option Nat)).filterMap id=[]:=fun n=>by induction n with
   |zero=>rfl
   |succ n ih=>rw[U3,Vbc];exact ih
  rw[this];exact Vdl _⟩
 obtain⟨ow,⟨o1,o2⟩,e⟩:=Xod hm hs.toList _ 0 O0 (by simpa using hl)
 rw[Nat.zero_add,Ub]at o2 e;have lc:layClean m hs=some ow:=by
  unfold layClean;rw[<- Array.foldl_toList];rw[show(hs.toList.foldl _ (some (Array.replicate (m+1) (none:Option Nat),0)))=some (ow,hs.size) from e];rfl
 have sn:((V0 (m+1)).filterMap fun j=>(ow.getD j none).map (j,·)).map (·.2)=ow.toList.filterMap id:=by
  have:=Xk8 ow.toList 0 (fun j=>ow.getD j none) fun i hi=>by
   have hi':i<ow.size:=by simpa using hi
   simp[Vcn,hi',Vcc]
  rw[Ub,o1,<- List.range_eq_range']at this;exact this
 have fs:=(Xk9 (fun j=>ow.getD j none) (V0 (m+1)) List.pairwise_lt_range).1
 unfold laid;rw[lc];refine⟨_,_,rfl,⟨?_,rfl⟩,rfl,rfl,rfl,?_,?_⟩
 ·exact fs
 ·show(Ug _ _).toArray.size=_
  have h1:=congrArg Um sn;rw[Vj,o2.length_eq,Vai]at h1;simp only[Vp,Vj];exact h1
 ·rw[List.toList_toArray,sn];exact o2
theorem Xuj{t:Var}{es:Array (Int×Vb)}{wanted:Nat}(hp:t.plain=true)(hm:Mk (sizeAbove wanted-1))(hl:es.size<=sizeAbove wanted-1):∃es' t',relayAll t es wanted=(es',t',false)/\Tb t'/\t'.mask=sizeAbove wanted-1/\t'.plain=true/\t'.led=t.led/\t'.place.size=es.size/\es'.size=es.size:=by
 obtain⟨t',order,e,T,h1,h2,h3,h4,h5⟩:=Xyv (f:=t.finger) (v:=t.movedTo (sizeAbove wanted-1)) (led:=t.led) (pl:=t.plain) hm (es.map (·.1)) (by simp;omega)
 rw[Array.size_map]at h4 h5;have rl:t.relaid (es.map (·.1)) wanted=some (t',order):=e;have cv:coversAll order es.size=true:=List.isPerm_iff.mpr h5;have pm:=relayAll_perm t es wanted;have sz:(order.filterMap (es[·]?)).size=es.size:=by
  have:∀l:List Nat,(∀x∈l,x<es.size)->(l.filterMap (es[·]?)).length=l.length:=fun l=>by
   induction l with
   |nil=>intro _;rfl
   |cons a l ih =>
    intro h;rw[Vbc,Va9 (h a Uo)];simp only[Uc];rw[ih fun x hx=>h x (Ua _ hx)]
  rw[<- Ub,Array.toList_filterMap,this _ fun x hx=>Vb2.mp (h5.mem_iff.mp hx),h5.length_eq,Vai]
 have ft:t'.fits (order.filterMap (es[·]?)).size=true:=by
  unfold SetTable.fits;rw[Xc3 T,h4,sz,h1];simp;omega
 refine⟨_,t',?_,T,h1,by rw[h2];exact hp,h3,h4,sz⟩
 unfold relayAll;rw[rl];dsimp only;rw[cv,ft];rfl
end Z
end
section
namespace Z
open PySem PyProof.Rows
noncomputable def Xbh:Vb->Int
 |.int i _=>i
 |_=>0
def SetI(prog:V1)(w:V9)(h:Heap)(a:Addr)(ld:Bool)(ks:List Int):Prop:=∃o es ep t,h.get? a=some o/\o.ExactSet/\o.data=.set es ep t/\ElemsOf (Vah prog w) es.toList/\ks=es.toList.map (fun e=>Xbh e.2)/\Tab t es.size/\t.led=ld
theorem SetI.keep{prog:V1}{w:V9}{h h':Heap}{a:Addr}{ld:Bool}{ks:List Int}(S:SetI prog w h a ld ks)(k:∀o,h.get? a=some o->h'.get? a=some o):SetI prog w h' a ld ks:=by
 obtain⟨o,es,ep,t,ho,r⟩:=S;exact⟨o,es,ep,t,k _ ho,r⟩
theorem Xbi{t:Var}{n:Nat}(T:Tab t n):t.fits n=true:=by
 have:=T.mk'.2;unfold SetTable.fits;rw[Xc3 T.tb,T.sz];simp;omega
section
variable{prog:V1}{w:V9}{A:Uu}{E:Vb->Vc->Prop}{s:Vc}
theorem Xoe{es:List (Int×Vb)}(h:ElemsOf (Vah prog w) es){e:Int×Vb}(he:e∈es):∃i t,e.2=.int i t:=by
 obtain⟨⟨k,hk,_⟩,_⟩:=h e he;obtain⟨t,q⟩:=Value.isInt_shape hk;exact⟨k,t,q⟩
theorem Xuk{es:List (Int×Vb)}(h:ElemsOf (Vah prog w) es)(k:Int):(es.findIdx? (fun e=>(Vah prog w).is k e.2)).isSome=decide (k∈es.map fun e=>Xbh e.2):=by
 have iff:∀e∈es,((Vah prog w).is k e.2=true ↔ Xbh e.2=k):=fun e he=>by
  obtain⟨i,t,q⟩:=Xoe h he;rw[q,KeyKind.is_eq_decide (intKind_is prog w i t),decide_eq_true_eq];exact eq_comm
 by_cases c:k∈es.map fun e=>Xbh e.2
 ·rw[decide_eq_true c]
  obtain⟨e,he,q⟩:=Uh.mp c;cases f:es.findIdx? (fun e=>(Vah prog w).is k e.2) with
  |some _=>rfl
  |none =>
   have:=List.findIdx?_eq_none_iff.mp f e he;rw[(iff e he).mpr q]at this;cases this
 ·rw[decide_eq_false c]
  cases f:es.findIdx? (fun e=>(Vah prog w).is k e.2) with
  |none=>rfl
  |some j =>
   obtain⟨hj,hp,_⟩:=Vfr.mp f;exact aB0 (Uh.mpr ⟨_,Vbz hj,(iff _ (Vbz hj)).mp hp⟩) c
theorem Xr3{n:Nat}{t:Var}(T:Tb t)(hp:t.plain=true)(hs:t.place.size=n+1)(ms:(t.mask=7/\n<=4)\/(t.mask=31/\n<=18)\/(t.mask=127/\n<=76))(hn:n<60) :
  (t.tooFull=false/\Tab t (n+1))\/(t.tooFull=true/\Mk (Ve4 (Veb (n+1))-1)/\n+1<=Ve4 (Veb (n+1))-1/\((Ve4 (Veb (n+1))-1=31/\n+1<=18)\/(Ve4 (Veb (n+1))-1=127/\n+1<=76))):=by
 have tf:t.tooFull=decide ((n+1)*5 ≥ t.mask*3):=by unfold SetTable.tooFull;rw[Xc3 T,hs]
 rcases ms with⟨e,h⟩|⟨e,h⟩|⟨e,h⟩
 ·rw[tf,e]
  by_cases c:n+1<=4
  ·exact .inl ⟨decide_eq_false (by omega),⟨T,hp,hs,.inl ⟨e,c⟩⟩⟩
  ·have:n=4:=by omega
   subst this;exact .inr ⟨by decide,.inr (.inl (by decide+kernel)),by decide+kernel,.inl (by decide+kernel)⟩
 ·rw[tf,e]
  by_cases c:n+1<=18
  ·exact .inl ⟨decide_eq_false (by omega),⟨T,hp,hs,.inr (.inl ⟨e,c⟩)⟩⟩
  ·have:n=18:=by omega
   subst this;exact .inr ⟨by decide,.inr (.inr (by decide+kernel)),by decide+kernel,.inr (by decide+kernel)⟩
 ·rw[tf,e]
  exact .inl ⟨decide_eq_false (by omega),⟨T,hp,hs,.inr (.inr ⟨e,by omega⟩)⟩⟩
theorem Xof{a:Addr}{ld:Bool}{ks:List Int}{k:Int}{tk:Tok}{Q:Bool->Vc->Prop}(S:SetI prog w s.heap a ld ks)(hn:ks.length<60)
  (h:∀h' ks',Vac a s.heap h'->SetI prog w h' a ld ks'->(k∈ks/\ks'=ks)\/(k ∉ ks/\ks'.Perm (ks++[k]))->Q (decide (k ∉ ks)) {s with heap:=h',toks:=s.toks+1}) :
  Vf (Vk prog w) A (setAdd a (.int k tk)) Q E s:=by
 obtain⟨o,es,ep,t,ho,hex,hd,hel,rfl,T,hl⟩:=S;rw[Vj,Ub]at hn;have hb:es.size<scanBound:=Vea hn (by decide)
 have ft:=Xbi T;have fi:=Xuk hel k;unfold setAdd setAddHashed setAddHashedIn;refine Uz (Va ((Vah prog w).pyHash (k:=k) (intKind_is prog w k tk) (Uz (Va (Vb4 (s:={s with toks:=s.toks+1}) ho hd ft ?_)))))
 dsimp only;rw[byScan_of (knd:=Vah prog w) rfl hb hel];simp only[if_true];unfold setAddByScan;refine Va (Va (Vdy (Va (wpAny_setScan_of (knd:=Vah prog w) (k:=k) (s:={s with toks:=s.toks+1}) (intKind_is prog w k tk) ho hd ft hel ?_))))
 cases f:es.toList.findIdx? (fun e=>(Vah prog w).is k e.2) with
 |some j =>
  rw[f]at fi;have c:=oD0 fi.symm;have:=h s.heap _ (Vhg a s.heap) ⟨o,es,ep,t,ho,hex,hd,hel,rfl,T,hl⟩ (.inl ⟨c,rfl⟩);rw[decide_eq_false (fun z=>z c)]at this
  exact Vd (Vd this)
 |none =>
  rw[f]at fi;have c:=of_decide_eq_false fi.symm;obtain⟨es1,t1,e1,T1,m1,pl1,l1,sz1,z1⟩:=X2s T ((Vah prog w).hash k) (.int k tk);have pm:=layNew_perm t es ((Vah prog w).hash k) (.int k tk);rw[e1,Vhf]at pm;have hel1:ElemsOf (Vah prog w) es1.toList:=(hel.push (intKind_is prog w k tk) rfl).perm pm;have kp:(es1.toList.map fun e=>Xbh e.2).Perm ((es.toList.map fun e=>Xbh e.2)++[k]):=by
   have:=pm.map fun e=>Xbh e.2
   rwa [Val]at this
  dsimp only;rw[e1];dsimp only;refine Va (Vd ?_);rw[pl1];simp only[if_true];rw[hashByValue_scannable 8 rfl];refine Va (Vd ?_);simp only[plainKind,if_true];have ft1:t1.fits es1.size=true:=by
   unfold SetTable.fits;rw[Xc3 T1,sz1,z1,m1];have:=T.mk'.2;simp;omega
  have line:es1.size<=Vw:=by rw[z1,Va7];omega
  refine Va (wpAny_storeSet_of ho hd ?_ line);obtain⟨g1,_⟩:=SetOf_store (knd:=Vah prog w) (S':=fun k'=>es1.toList.any fun e=>(Vah prog w).is k' e.2) ho hex hd hel1 (fun k'=>Vek) (by rw[z1];exact Nat.lt_of_le_of_lt hn (by decide)) ft1
  have sb1:=Vdq s.heap a (Obj.putSet es1 t1);have ms1:(t1.mask=7/\es.size<=4)\/(t1.mask=31/\es.size<=18)\/(t1.mask=127/\es.size<=76):=by rw[m1];exact T.ms
  rcases Xr3 T1 pl1 sz1 ms1 hn with⟨q,T2⟩|⟨q,mk,le,ms2⟩
  ·rw[q]
   simp only[Vgp,V2,if_false];have:=h _ _ sb1 ⟨_,es1,ep+1,t1,g1,hex,rfl,hel1,rfl,by rw[z1];exact T2,l1.trans hl⟩ (.inr ⟨c,kp⟩)
   rw[decide_eq_true c]at this;exact Vd (Vd this)
  ·rw[q]
   simp only[Vce,Vc8,if_true];obtain⟨es2,t2,e2,T2,m2,pl2,l2,sz2,z2⟩:=Xuj (t:=t1) (es:=es1) (wanted:=Veb es1.size) pl1 (by rw[z1];exact mk) (by rw[z1];exact le)
   have pm2:=relayAll_perm t1 es1 (Veb es1.size);rw[e2]at pm2;rw[e2];dsimp only;have line2:es2.size<=Vw:=by rw[z2];exact line
   refine Va (Vd (Va (wpAny_storeSet_of g1 rfl ?_ line2)));have hel2:ElemsOf (Vah prog w) es2.toList:=hel1.perm pm2;have TT:Tab t2 es2.size:=⟨T2,pl2,by rw[sz2,z2],by rw[m2,z2,z1];exact .inr ms2⟩
   obtain⟨g2,_⟩:=SetOf_store (knd:=Vah prog w) (S':=fun k'=>es2.toList.any fun e=>(Vah prog w).is k' e.2) g1 hex rfl hel2 (fun k'=>Vek) (by rw[z2,z1];exact Nat.lt_of_le_of_lt hn (by decide)) (Xbi TT)
   have:=h _ _ (sb1.trans (Vdq _ a (Obj.putSet es2 t2))) ⟨_,es2,ep+2,t2,g2,hex,rfl,hel2,rfl,TT,l2.trans (l1.trans hl)⟩ (.inr ⟨c,(pm2.map fun e=>Xbh e.2).trans kp⟩)
   rw[decide_eq_true c]at this;exact Vd (Vd this)
end
theorem slot_si:PySem.Slot "set_iterator" "__next__" "set_iterator.__next__" :=
 .of (owner := "set_iterator") (n := "__next__") (by rw[Vgd,Vec];kernel_rfl) (by decide+kernel) (by decide+kernel) (by decide+kernel) (by first|exact .inl (by decide+kernel)|exact .inr (by decide+kernel)) (by rw[isSubtype_type];kernel_rfl)
theorem Xla:entryFor table "set_iterator.__next__" = some Va2.«set_iterator.__next__»:=entryFor_of_tree (by kernel_rfl)
theorem Xog(a:Vb):argsOk "set_iterator.__next__" ⟨[a],[]⟩:=by
 unfold argsOk;rw[signature?_of (id := "set_iterator.__next__") (n:=['_','_','t','x','e','n','_','_']) (o:=['r','o','t','a','r','e','t','i','_','t','e','s']) (by kernel_rfl) (show Manifest.owners.lookup _=some Vhm by kernel_rfl)]
 kernel_rfl
theorem Xlb:entryFor table "set.__iter__" = some Va2.«frozenset.__iter__»:=entryFor_alias (id' := "frozenset.__iter__") (by kernel_rfl) rfl (by decide+kernel) (by kernel_rfl)
theorem Xlc:PySem.Slot "set_iterator" "__iter__" "set_iterator.__iter__" :=
 .of (owner := "set_iterator") (n := "__iter__") (by rw[Vgd,Vec];kernel_rfl) (by decide+kernel) (by decide+kernel) (by decide+kernel) (by first|exact .inl (by decide+kernel)|exact .inr (by decide+kernel)) (by rw[isSubtype_type];kernel_rfl)
theorem Xr4:entryFor table "set_iterator.__iter__" = some Va2.«dict_keyiterator.__iter__»:=entryFor_alias (id' := "dict_keyiterator.__iter__") (by kernel_rfl) rfl (by decide+kernel) (by kernel_rfl)
theorem Xul(a:Vb):argsOk "set_iterator.__iter__" ⟨[a],[]⟩:=by
 unfold argsOk;rw[signature?_of (id := "set_iterator.__iter__") (n:=['_','_','r','e','t','i','_','_']) (o:=['r','o','t','a','r','e','t','i','_','t','e','s']) (by kernel_rfl) (show Manifest.owners.lookup _=some Vhm by kernel_rfl)]
 kernel_rfl
noncomputable def byT(w:V9):Bool:=w.params.followText "set-order"
theorem Xjs{α:Type}(f:Nat->Nat):∀(n k:Nat) (l:List α) (out:Array α),l.length=n->(pickOrder.go f n k l out).toList.Perm (out.toList++l)
 |0,k,l,out,h=>by
  have:l=[]:=Vgk h;subst this;simp[pickOrder.go]
 |n+1,k,l,out,h=>by
  have hl:f k%l.length<l.length:=Nat.mod_lt _ (by omega)
  unfold pickOrder.go;rw[Vq hl];dsimp only;refine(Xjs f n (k+1) _ _ (by rw[List.length_eraseIdx_of_lt hl];omega)).trans ?_
  rw[Vhf,Vo];refine List.Perm.append_left _ ?_;have e:l=l.take (f k%l.length)++l[f k%l.length]::l.drop (f k%l.length+1):=by
   rw[List.getElem_cons_drop,Vc5]
  rw[List.eraseIdx_eq_take_drop_succ];exact List.Perm.symm (by
   conv=>lhs;rw[e]
   exact List.perm_middle)
noncomputable def Xaa(w:V9)(a ep:Nat)(es:Array (Int×Vb)):List (Int×Vb):=if byT w then (pickOrder (w.params.setOrder a ep) es).toList else es.toList
theorem Xcf(w:V9)(a ep:Nat)(es:Array (Int×Vb)):(Xaa w a ep es).Perm es.toList:=by
 unfold Xaa;split
 ·unfold pickOrder
  have:=Xjs (w.params.setOrder a ep) es.size 0 es.toList #[] (by simp)
  simpa using this
 ·exact Vdl _
noncomputable def Xaf(w:V9)(t:Var)(i:Nat):Nat:=if byT w then 0 else match i with
 |0=>0
 |i+1=>t.place.getD i 0+1
section
variable{prog:V1}{w:V9}{A:Uu}{E:Vb->Vc->Prop}{s:Vc}
theorem Xum{t:Var}(T:Tb t)(i:Nat)(hi:i<=t.place.size)(hb:byT w=false):Vgs t.place (Xaf w t i)=i:=by
 obtain⟨b1,b2,b3⟩:=Xdt T.ris (Xaf w t i);unfold Xaf at b1 b2 b3 ⊢;rw[hb]at b1 b2 b3 ⊢;simp only[V2,if_false]at b1 b2 b3 ⊢;cases i with
 |zero =>
  dsimp only at b1 b2 b3 ⊢;rcases Nat.eq_zero_or_pos (Vgs t.place 0) with h|h
  ·exact h
  ·exact aB0 (b2 0 h) (Vex _)
 |succ i =>
  dsimp only at b1 b2 b3 ⊢;have h1:¬ Vgs t.place (t.place.getD i 0+1)<=i:=fun h=>by
   have:=b3 i h (by omega);omega
  have h2:¬ i+1<Vgs t.place (t.place.getD i 0+1):=fun h=>by
   have:=b2 (i+1) h;have:=T.ris.lt (a:=0) (show i<i+1 by omega) (by omega)
   omega
  omega
theorem Xoh{a:Addr}{o:Obj}{es:Array (Int×Vb)}{ep i:Nat}{t:Var}{Q:Option (Vb×Nat)->Vc->Prop}(ho:s.heap.get? a=some o)(hd:o.data=.set es ep t)(T:Tab t es.size)(hl:t.led = !byT w)(hi:i<=es.size)
  (h:Q (((Xaa w a ep es)[i]?).map fun e=>(e.2,Xaf w t (i+1))) s):Vf (Vk prog w) A (setNext a (Xaf w t i) i ep) Q E s:=by
 have ft:=Xbi T;unfold setNext;refine Va (Vb4 ho hd ft ?_);dsimp only;unfold setsByText;refine Va (Va (Vcz (Vd ?_)));show Vf _ _ (if byT w=true then _ else _) _ _ _
 cases hb:byT w with
 |true =>
  simp only[if_true,bne_self_eq_false,V2,if_false];unfold setWalk;refine Va (Va (Vb4 ho hd ft ?_));dsimp only;unfold setsByText;refine Va (Va (Vcz (Vd ?_)));show Vf _ _ (if byT w=true then _ else _) _ _ _
  rw[hb,iP0 rfl];refine Va (Vcz (Vd (Vd ?_)));have e1:Xaa w a ep es=(pickOrder (w.params.setOrder a ep) es).toList:=by unfold Xaa;rw[iP0 hb]
  have e2:Xaf w t (i+1)=Xaf w t i:=by unfold Xaf;rw[iP0 hb,iP0 hb]
  rw[e1,e2,Vaw]at h;exact h
 |false =>
  simp only[V2,if_false];have hdr:(!t.plain&&decide (es.size>1))=false:=by rw[T.pl];rfl
  have hld:(!t.led && !es.isEmpty)=false:=by rw[hl,hb];rfl
  show Vf _ _ (if (!t.plain&&decide (es.size>1))=true then _ else _) _ _ _
  rw[hdr];simp only[V2,if_false];refine Va ?_;show Vf _ _ (if (!t.led && !es.isEmpty)=true then _ else _) _ _ _
  rw[hld];simp only[V2,if_false];refine Vd ?_;rw[Xum T.tb i (by rw[T.sz];exact hi) hb]
  have e1:Xaa w a ep es=es.toList:=by unfold Xaa;rw[iN0 (by rw[hb];exact V7)]
  rw[e1,Vaw]at h
  by_cases c:i<es.size
  ·have c2:i<t.place.size:=by rw[T.sz];exact c
   rw[Va9 c]at h;rw[Va9 c,Va9 c2];have e2:Xaf w t (i+1)=t.place[i]+1:=by
    unfold Xaf;rw[iN0 (by rw[hb];exact V7)]
    simp[Vcn,c2]
   rw[e2]at h;exact Vd h
  ·rw[Array.getElem?_eq_none (by omega)]at h
   rw[Array.getElem?_eq_none (by omega)]
   exact Vd h
abbrev Xpy(h:Heap)(it a:Addr)(f0 f1 n ep:Nat):Prop:=h.get? it=some {cls:=.type "set_iterator",dict:=none,data:=.fields #[Uq f0,Uq f1,.ref a,Uq n,Uq ep],slots:=#[]}
variable{it a:Addr}{o:Obj}{es:Array (Int×Vb)}{ep i:Nat}{t:Var}
theorem Xyw{Q:Option Vb->Vc->Prop}{e:Int×Vb}(hi:Xpy s.heap it a (Xaf w t i) i es.size ep)(ho:s.heap.get? a=some o)(hd:o.data=.set es ep t)(T:Tab t es.size)(hl:t.led = !byT w)(hx:(Xaa w a ep es)[i]?=some e)
  (hQ:∀h',Xpy h' it a (Xaf w t (i+1)) (i+1) es.size ep->Vac it s.heap h'->Q (some e.2) {s with heap:=h' }):Vf (Vk prog w) A (Vdd (.ref it)) Q E s:=by
 have hT:s.TypeIs (.ref it) "set_iterator" := ⟨_,hi,rfl⟩;have hn:i<=es.size:=by
  have:=(Vi.mp hx).1;rw[(Xcf w a ep es).length_eq,Ub]at this;exact Vb9 this
 unfold Vdd;refine Va (Vc9 (Vae (name:=U9 "__next__") hT slot_si (Uk slot_si hT Xla ?_ (Xog _))));show Vf _ _ (fieldsOf (.ref it) >>= _) _ _ _;unfold fieldsOf;refine Va (Va (Vfa hi (Vd ?_)));show Vf _ _ (setEntries a >>= _) _ _ _;unfold setEntries;refine Va (Va (Vb4 ho hd (Xbi T) (Vd ?_)));dsimp only;simp only[bne_self_eq_false,V2,if_false];show Vf _ _ (setNext a (Ve5 (Xaf w t i:Int)) (Ve5 (i:Int)) (Ve5 (ep:Int)) >>= _) _ _ _;simp only[Vaz];refine Va (Xoh ho hd T hl hn ?_);rw[hx];dsimp only[Vy];refine Va (Uy hi (by simp) fun h1 e1 c1=>?_)
 refine Va (Uy e1 (by simp) fun h2 e2 c2=>?_)
 refine Vd ⟨_,rfl,Vd (hQ h2 ?_ (c1.trans c2))⟩;exact e2
theorem Xyx{Q:Option Vb->Vc->Prop}(hh:A.handled=none)(hi:Xpy s.heap it a (Xaf w t es.size) es.size es.size ep)(ho:s.heap.get? a=some o)(hd:o.data=.set es ep t)(T:Tab t es.size)(hl:t.led = !byT w)
  (hQ:∀h',Heap.ExtBut it s.heap h'->Q none {s with heap:=h' }):Vf (Vk prog w) A (Vdd (.ref it)) Q E s:=by
 have hT:s.TypeIs (.ref it) "set_iterator" := ⟨_,hi,rfl⟩;have hx:(Xaa w a ep es)[es.size]?=none:=Vam (by rw[(Xcf w a ep es).length_eq,Ub];exact Vl _)
 unfold Vdd;refine Va (Vc9 (Vae (name:=U9 "__next__") hT slot_si (Uk slot_si hT Xla ?_ (Xog _))));show Vf _ _ (fieldsOf (.ref it) >>= _) _ _ _;unfold fieldsOf;refine Va (Va (Vfa hi (Vd ?_)));show Vf _ _ (setEntries a >>= _) _ _ _;unfold setEntries;refine Va (Va (Vb4 ho hd (Xbi T) (Vd ?_)));dsimp only;simp only[bne_self_eq_false,V2,if_false];show Vf _ _ (setNext a (Ve5 (Xaf w t es.size:Int)) (Ve5 (es.size:Int)) (Ve5 (ep:Int)) >>= _) _ _ _;simp only[Vaz];refine Va (Xoh ho hd T hl (Vl _) ?_);rw[hx];dsimp only[Vgc];refine Va (Uy hi (by simp) fun h1 e1 c1=>?_)
 show Vf _ _ (newExc (.type "StopIteration") [] >>= _) _ _ _;refine Va ?_;simp only[newExc,newTuple];refine Va (Uj ?_ (by size_fits))
 refine Va (m:=Ved _ _) (Vet (a:=U1) (by first|rfl|(simp only[Ved];rfl)) ?_)
 refine Uj ?_ (by size_fits)
 simp only[raiseNew];refine Va (wpAny_handled ?_)
 first|rw[show A.in1.handled=none from hh]|rw[hh]
 refine Va (Vd (wpAny_throw ?_));refine Va (Vf0 (T := "StopIteration") (b:=true) ⟨_,Vm _ rfl,rfl⟩ isSubtype_stop ?_);exact Vd (hQ _ ((c1.extBut.push _).push _))
def X89(w:V9)(it a:Addr)(o:Obj)(es:Array (Int×Vb))(ep:Nat)(t:Var)(i:Nat)(s:Vc):Prop:=Xpy s.heap it a (Xaf w t i) i es.size ep/\s.heap.get? a=some o
theorem Xyy(hh:A.handled=none)(hne:it≠a)(hd:o.data=.set es ep t)(T:Tab t es.size)(hl:t.led = !byT w):WalksS prog w A it [it,a] [it] Eq es.size (fun i v=>((Xaa w a ep es)[i]?).map (·.2)=some v) (X89 w it a o es ep t) where
 sub:=fun b hb=>by rw[Up.mp hb];exact Uo
 grefl:=fun _=>rfl
 gtrans:=fun _ _ _ x y=>x.trans y
 frame:=fun i s h' tk st _ k=>⟨k it Uo _ st.1,k a (Ua _ Uo) _ st.2⟩
 item:=fun i s Q E hi st hQ=>by
  have hlt:i<(Xaa w a ep es).length:=by rw[(Xcf w a ep es).length_eq,Ub];exact hi
  refine Xyw st.1 st.2 hd T hl (Vq hlt) fun h' q c=>hQ _ _ (by rw[Vq hlt];rfl) ⟨q,(c.2 a (Ne.symm hne)).trans st.2⟩ ⟨fun b o' hb e'=>?_,rfl,rfl,rfl,Vl _⟩
  exact(c.2 b (fun z=>hb (Up.mpr z))).trans e'
 done:=fun s Q E st hQ=>Xyx hh st.1 st.2 hd T hl fun h' c=>hQ _ ⟨fun b o' hb e'=>c b o' (fun z=>hb (Up.mpr z)) e',rfl,rfl,rfl,Vl _⟩
 self:=fun i s Q E st hQ=>by
  have hT:s.TypeIs (.ref it) "set_iterator" := ⟨_,st.1,rfl⟩;exact Vfj hT Xlc (Uk Xlc hT Xr4 (show Vf _ _ (ret (.ref it)) _ _ s from Vd ⟨_,rfl,"set_iterator",_,hT,slot_si.lookup,hQ⟩) (Xul _))
end
section
variable{prog:V1}{w:V9}{A:Uu}{E:Vb->Vc->Prop}{s:Vc}{a:Addr}{o:Obj}{es:Array (Int×Vb)}{ep:Nat}{t:Var}
theorem Xun{Q:Vb->Vc->Prop}(ho:s.heap.get? a=some o)(hex:o.ExactSet)(hd:o.data=.set es ep t)(T:Tab t es.size)
  (hQ:Q (.ref s.heap.objs.size) {s with heap:=s.heap.push {cls:=.type "set_iterator",data:=.fields #[Uq 0,Uq 0,.ref a,Uq es.size,Uq ep]} }):Vf (Vk prog w) A (Vdw (.ref a)) Q E s:=by
 have hT:s.TypeIs (.ref a) "set" := ⟨o,ho,hex.1⟩;have ft:=Xbi T;refine Vfj hT F.slot_set_iter (Uk F.slot_set_iter hT Xlb ?_ (F.args_set_iter_1 _));show Vf _ _ (Vho a >>= _) _ _ _;unfold Vho setEntries;refine Va (Va (Va (Vb4 ho hd ft (Vd (Vd ?_)))));show Vf _ _ (setDrawn a >>= _) _ _ _;unfold setDrawn setsByText;refine Va (Va (Vb4 ho hd ft (Va (Va (Vcz (Vd (Vd ?_)))))));have hdr:(!byT w&&(!t.plain&&decide (es.size>1)))=false:=by rw[T.pl];simp
 show Vf _ _ (ite ((!byT w&&(!t.plain&&decide (es.size>1)))=true) _ _) _ _ _;rw[hdr,iN0 V7];refine Va (Vd ?_);unfold setEpoch;refine Va (Va (Vb4 ho hd ft (Vd ?_)));exact Va (Uj (Vd ⟨_,rfl,"set_iterator",_,⟨_,Vm _ rfl,rfl⟩,slot_si.lookup,hQ⟩))
theorem Xuo{Q:Bool->Vc->Prop}(ho:s.heap.get? a=some o)(hex:o.ExactSet)(hQ:Q false s):Vf (Vk prog w) A (Vg2 (.ref a)) Q E s:=by
 have hT:s.TypeIs (.ref a) "set" := ⟨o,ho,hex.1⟩;unfold Vg2;refine Va (wpAny_specialOf hT F.slot_set_len.lookup ?_);have e1:splitId "set.__len__" = some ("set","__len__"):=by decide+kernel
 dsimp only;rw[e1];dsimp only;refine Va (Vf0 hT sub_set_self ?_);simp only[Ut,V2,if_false];exact Va (Vdn hT (Vd hQ))
theorem Xm4{Q:List Vb->Vc->Prop}(hh:A.handled=none)(ho:s.heap.get? a=some o)(hex:o.ExactSet)(hd:o.data=.set es ep t)(T:Tab t es.size)(hl:t.led = !byT w)
  (hQ:∀h' tk,(∀b u,s.heap.get? b=some u->h'.get? b=some u)->s.heap.objs.size<=h'.objs.size->Q ((Xaa w a ep es).map (·.2)) {s with heap:=h',toks:=tk}):Vf (Vk prog w) A (collect (.ref a)) Q E s:=by
 unfold collect;refine Va (Vgt (Va4 F.entry_proto_collect ?_));rw[Vbn F.plain_proto_collect _];show Vf _ A.in1 (newList [] >>= fun l=>again (.builtin "list.__iadd__" ⟨[l,.ref a],[]⟩)) _ _ s
 refine Va (Uj (Vd ⟨Vep Vfk _,Va4 F.entry_list_iadd ?_⟩));rw[Vbn Vfk _];obtain⟨hp,g,d,tk,os⟩:=s
 replace ho:hp.get? a=some o:=ho
 have la:a<hp.objs.size:=Vu ho;have h1a:(hp.push {cls:=.type "list",data:=.seq ([]:List Vb).toArray}).get? a=some o:=Ve _ ho;show Vf _ A.in1 (Vax (.ref hp.objs.size) (.ref a) (.ref hp.objs.size)) _ _ ⟨hp.push {cls:=.type "list",data:=.seq ([]:List Vb).toArray},g,d,tk,os⟩;have n1:(hp.push {cls:=.type "list",data:=.seq ([]:List Vb).toArray}).get? hp.objs.size=some {cls:=.type "list",data:=.seq ([]:List Vb).toArray}:=Vm _ rfl;have k1:∀b u,hp.get? b=some u->(hp.push {cls:=.type "list",data:=.seq ([]:List Vb).toArray}).get? b=some u:=fun b u e=>Ve _ e
 have z1:(hp.push {cls:=.type "list",data:=.seq ([]:List Vb).toArray}).objs.size=hp.objs.size+1:=Vaa ..;generalize hp.push {cls:=.type "list",data:=.seq ([]:List Vb).toArray}=g1 at h1a n1 k1 z1;unfold Vax;refine Va (Vdn (T := "set") ⟨o,h1a,hex.1⟩ ?_);have hS:Vhp (.ref hp.objs.size) (.ref a)=false:=by simp[Vhp,Vca la]
 simp only[hS,show(Vci "set" == Vci "list")=false by decide,show(Vci "set" == Vci "tuple")=false by decide,Bool.or_false,V2,if_false]
 refine Va (Xun (s:=⟨g1,g,d,tk,os⟩) h1a hex hd T ?_);have n2:(g1.push {cls:=.type "set_iterator",data:=.fields #[Uq 0,Uq 0,.ref a,Uq es.size,Uq ep]}).get? hp.objs.size=some {cls:=.type "list",data:=.seq ([]:List Vb).toArray}:=Ve _ n1;have i2:(g1.push {cls:=.type "set_iterator",data:=.fields #[Uq 0,Uq 0,.ref a,Uq es.size,Uq ep]}).get? g1.objs.size=some {cls:=.type "set_iterator",data:=.fields #[Uq 0,Uq 0,.ref a,Uq es.size,Uq ep]}:=Vm _ rfl;have k2:∀b u,g1.get? b=some u->(g1.push {cls:=.type "set_iterator",data:=.fields #[Uq 0,Uq 0,.ref a,Uq es.size,Uq ep]}).get? b=some u:=fun b u e=>Ve _ e
 have z2:(g1.push {cls:=.type "set_iterator",data:=.fields #[Uq 0,Uq 0,.ref a,Uq es.size,Uq ep]}).objs.size=g1.objs.size+1:=Vaa ..;generalize g1.push {cls:=.type "set_iterator",data:=.fields #[Uq 0,Uq 0,.ref a,Uq es.size,Uq ep]}=g2 at n2 i2 k2 z2;refine Va (Uz (Xuo (s:=⟨g2,g,d,tk,os⟩) (k2 _ _ h1a) hex ?_));show Vf _ A.in1 (rule "list.extend.makes-room" >>= fun _=>Builtin.List.listTouch (.ref hp.objs.size) >>= fun _=>again (.builtin "list.extend.loop" ⟨[.ref hp.objs.size,.ref g1.objs.size,.ref hp.objs.size],[]⟩)) _ _ _
 refine Va (Vdy (Va ?_));show Vf _ A.in1 (updateSeq hp.objs.size (·.push .none) >>= fun _=>updateSeq hp.objs.size (·.pop)) _ _ _
 refine Va (wpAny_updateSeq n2 rfl ?_);have n3:=Vd8 (Uw (·.push U1)) n2 rfl;refine wpAny_updateSeq n3 rfl ?_;have n4:=Vd8 (Uw (·.pop)) n3 rfl;have oth:∀b u,b≠hp.objs.size->g2.get? b=some u->((g2.update hp.objs.size (Uw (·.push U1))).update hp.objs.size (Uw (·.pop))).get? b=some u:=fun b u hb e=>(Vd3 _ _ (Ne.symm hb)).trans ((Vd3 _ _ (Ne.symm hb)).trans e)
 have z4:((g2.update hp.objs.size (Uw (·.push U1))).update hp.objs.size (Uw (·.pop))).objs.size=g2.objs.size:=by rw[Vf1,Vf1]
 generalize (g2.update hp.objs.size (Uw (·.push U1))).update hp.objs.size (Uw (·.pop))=g4 at n4 oth z4;have ne1:g1.objs.size≠a:=by rw[z1];exact Vca (Va0 la)
 have ne2:a≠hp.objs.size:=V8 la;have ne3:g1.objs.size≠hp.objs.size:=by rw[z1];exact Nat.succ_ne_self _
 have W:=Xyy (prog:=prog) (w:=w) (A:=A.in1) (it:=g1.objs.size) (a:=a) (o:=o) (es:=es) (ep:=ep) (t:=t) (by simpa using hh) ne1 hd T hl
 refine Vd ⟨Vep F.plain_extend_loop _,codeAny_extend_loopS W (by have:=T.mk'.2;rcases T.ms with⟨_,h⟩|⟨_,h⟩|⟨_,h⟩<;>rw[Va7]<;>omega) hp.objs.size (by
  intro hm;rcases Vv.mp hm with e|hm
  ·exact ne3 e.symm
  ·exact ne2 (Up.mp hm).symm) _ es.size 0 _ _ _ rfl (Ul _) ⟨?_,oth _ _ ne2 (k2 _ _ h1a)⟩ n4 (ItemsOf.nil _) fun s' acc c hm hS' hacc=>?_⟩
 ·have e0:Xaf w t 0=0:=by unfold Xaf;split<;>rfl
  rw[e0];exact oth _ _ ne3 i2
 ·show Vf _ A (load hp.objs.size >>= _) _ _ s'
  refine Va (Vfa hS' (Vd ?_));obtain⟨h',g',d',tk',os'⟩:=s';obtain⟨m1,m2,m3,m4,m5⟩:=hm
  replace m2:g=g':=m2
  replace m3:d'=d:=m3
  replace m4:os'=os:=m4
  subst m2;subst m3;subst m4;have ea:acc.toList=(Xaa w a ep es).map (·.2):=by
   refine List.ext_getElem? fun i=>?_
   have hlen:(Xaa w a ep es).length=es.size:=by rw[(Xcf w a ep es).length_eq,Ub]
   by_cases c:i<es.size
   ·have hz:i<acc.size:=by rw[hacc.1];exact c
    have h1:acc[i]?=some acc[i]:=Va9 hz;rw[Vaw,h1,Vx];exact(hacc.2 i _ h1).symm
   ·rw[Vam (by rw[Ub,hacc.1];omega),Vam (by rw[Vj,hlen];omega)]
  rw[ea];have kk:∀b u,hp.get? b=some u->h'.get? b=some u:=fun b u e=>by
   have lb:=Vu e;exact m1 b u (by simp only[Vv,Vap,or_false,not_or];exact⟨V8 lb,by rw[z1];exact V8 (Va0 lb)⟩) (oth b u (V8 lb) (k2 b u (k1 b u e)))
  refine hQ h' tk' kk ?_;exact Vb9 (Vu hS')
end
end Z
end
section
namespace Z
open PySem PySem.Spec PyProof.Rows L2
section
variable{prog:V1}{w:V9}{A:Uu}{E:Vb->Vc->Prop}{s:Vc}{d it v:Addr}{o:Obj}{es:Array DictEntry}{ep i:Nat}{k0 v0:Vb}
theorem Xup {Q:Vb->Vc->Prop} (hT:s.TypeIs (.ref d) "dict") (hd:(d==Vb1)=false) (h:Q (.ref s.heap.objs.size) {s with heap:=s.heap.push {cls:=.type "dict_items",data:=.fields #[.ref d]} }) :
  Vf (Vk prog w) A (call (.builtin "dict.items") [.ref d]) Q E s:=by
 refine Uk F.slot_dict_items hT F.entry_dict_items ?_ (F.args_dict_items_1 _);unfold Va2.«dict.items»;refine Va ?_;unfold Builtin.Dict.noArgs;refine Va (wpAny_notOrdered_dict hT (Vd ?_));show Vf _ _ (Builtin.Dict.showsAll d >>= _) _ _ s;unfold Builtin.Dict.showsAll;rw[hd];exact Va (Vd (Va (Uj (Vd ⟨_,rfl,h⟩))))
theorem Xuq {Q:Vb->Vc->Prop} (hv:s.heap.get? v=some {cls:=.type "dict_items",data:=.fields #[.ref d]}) (ho:s.heap.get? d=some o) (hd:o.data=.dict es ep)
  (hQ:Q (.ref s.heap.objs.size) {s with heap:=s.heap.push {cls:=.type "dict_itemiterator",data:=.fields #[.none,.bool false,.ref d,.int 0 0,.int es.size 0,.int ep 0,.none,.none]} }):Vf (Vk prog w) A (Vdw (.ref v)) Q E s:=by
 have hT:s.TypeIs (.ref v) "dict_items" := ⟨_,hv,rfl⟩;refine Vfj hT F.slot_dict_items_iter (Uk F.slot_dict_items_iter hT F.entry_dict_items_iter ?_ (F.args_dict_items_iter_1 _));unfold Va2.«dict_items.__iter__»;refine Va (Vd (Va ?_));unfold Builtin.Dict_items.dictOf;refine Va (U7 hv rfl (x:=.ref d) rfl (Vd (Va ?_)));unfold Builtin.Dict_items.newIterator;refine Va (Vhh ho hd (Va (wpAny_dictEpoch ho hd ?_)));simp only[show Vgu "dict_itemiterator" = true by decide,if_true]
 refine Uj (Vd ⟨_,rfl,"dict_itemiterator",_,⟨_,Vm _ rfl,rfl⟩,F.slot_dict_itemiterator_next.lookup,?_⟩) (by simp only[sizeOk,Vfb,Vp,Uf,Uc,Vco,Va7];omega)
 simpa [Uq,Vfb] using hQ
theorem Xr5:Vgu "dict_itemiterator" = true:=by decide
theorem Xur{k:Sem Vb}{Q:Option Vb->Vc->Prop}(hi:Vel s.heap it d i es.size ep k0 v0)(ho:s.heap.get? d=some o)(hd:o.data=.dict es ep)(hx:es[i]?=some ⟨hs,key,val⟩)
  (hQ:∀h',IsItemIterOut h' it d (i+1) es.size ep key val s.heap.objs.size->h'.get? s.heap.objs.size=some {cls:=.type "tuple",data:=.seq #[key,val]}->h'.objs.size=s.heap.objs.size+1 ->
   (∀b u,b≠it->s.heap.get? b=some u->h'.get? b=some u)->Q (some (.ref s.heap.objs.size)) {s with heap:=h' }):Vf (Vk prog w) A (Vdd (.ref it)) Q E s:=by
 obtain⟨h0,gs,dr,tk,os⟩:=s;have hT:Shared.TypeIs ⟨h0,gs,dr,tk,os⟩ (.ref it) "dict_itemiterator" := ⟨_,hi,rfl⟩;unfold Vdd;refine Va (Vc9 (Vae (name:=U9 "__next__") hT Vcu (Uk Vcu hT Vge ?_ (Vga _))));refine Va (Vd (Va (Va ?_)))
 first|refine Va (Vcp hT (Vd ?_))|refine Va (Vdg hT (Vd ?_))
 refine Va (wpAny_fieldsOf hi rfl ?_);simp only[Xr5,if_true];show Vf _ _ (if (Vas d==U1)=true then _ else _) _ _ _
 rw[iN0 (show ¬ ((Vas d==U1)=true) from V7)];refine Va (Vd (Va (Vhh ho hd ?_)));rw[iN0 (by simp)]
 refine Va (Vd (Va (wpAny_dictEpoch ho hd ?_)));rw[iN0 (by simp)]
 refine Vd ?_;simp only[show ¬ ((i:Int)<0) from by omega,if_false,Vaz,hx]
 refine Va ?_
 first|refine Va (Vcp hT (Vd ?_))|refine Va (Vdg hT (Vd ?_))
 refine Va (Vfs hT ?_);show Vf _ _ (setField (.ref it) 3 (Uq ((i:Int)+1)) >>= _) _ _ ⟨h0,gs,dr,tk,os⟩;refine Va (Uy hi (by simp) fun h1 i1 c1=>?_)
 replace c1:Vac it h0 h1:=c1
 replace i1:Vel h1 it d (i+1) es.size ep k0 v0:=by
  unfold Vel;rw[show((i+1:Nat):Int)=(i:Int)+1 by omega]
  simpa [Uq] using i1
 have T1:Shared.TypeIs ⟨h1,gs,dr,tk,os⟩ (.ref it) "dict_itemiterator" := ⟨_,i1,rfl⟩;refine Va (Uz (Va (Vfs T1 (Va (Vfs T1 ?_)))));show Vf _ _ (Vf2 (.ref it) 6 key val) _ _ ⟨h1,gs,dr,tk,os⟩;unfold Vf2;refine Va (Vgv ?_);have i2:Vel (h1.push {cls:=.type "tuple",data:=.seq #[key,val]}) it d (i+1) es.size ep k0 v0:=Ve _ i1;have sz:h1.objs.size=h0.objs.size:=c1.1;have lt:it<h0.objs.size:=Vu hi;have t2:(h1.push {cls:=.type "tuple",data:=.seq #[key,val]}).get? h0.objs.size=some {cls:=.type "tuple",data:=.seq #[key,val]}:=by rw[<- sz];exact Vm _ rfl
 have z2:(h1.push {cls:=.type "tuple",data:=.seq #[key,val]}).objs.size=h0.objs.size+1:=by rw[Vaa,sz]
 have u2:∀b u,b≠it->h0.get? b=some u->(h1.push {cls:=.type "tuple",data:=.seq #[key,val]}).get? b=some u:=fun b u hb e=>Ve _ (c1.extBut b u hb e)
 show Vf _ _ (Vfc (.ref it) >>= _) _ _ ⟨h1.push {cls:=.type "tuple",data:=.seq #[key,val]},gs,dr,tk,os⟩;rw[sz];generalize h1.push {cls:=.type "tuple",data:=.seq #[key,val]}=h2 at i2 t2 z2 u2 ⊢;refine Va ?_;unfold Vfc;refine Va (U7 i2 rfl (x:=.none) rfl (Vd ?_));simp only[if_true];refine Va (U7 i2 rfl (x:=k0) rfl (Va (U7 i2 rfl (x:=v0) rfl ?_)));refine Va (Uy i2 (by simp) fun h3 i3 c3=>?_)
 replace i3:Vel h3 it d (i+1) es.size ep key v0:=i3
 refine Va (Uy i3 (by simp) fun h4 i4 c4=>?_)
 replace i4:Vel h4 it d (i+1) es.size ep key val:=i4
 refine Va (Uy i4 (by simp) fun h5 i5 c5=>?_)
 replace i5:IsItemIterOut h5 it d (i+1) es.size ep key val h0.objs.size:=i5
 refine Va (Uy i5 (by simp) fun h6 i6 c6=>?_)
 replace i6:IsItemIterOut h6 it d (i+1) es.size ep key val h0.objs.size:=i6
 replace c3:Vac it h2 h3:=c3
 replace c4:Vac it h3 h4:=c4
 replace c5:Vac it h4 h5:=c5
 replace c6:Vac it h5 h6:=c6
 have up:∀b u,b≠it->h2.get? b=some u->h6.get? b=some u:=fun b u hb e=>c6.extBut b u hb (c5.extBut b u hb (c4.extBut b u hb (c3.extBut b u hb e)))
 refine Va (wpAny_letGo (Vd (Vd ⟨_,rfl,Vd (hQ h6 i6 (up _ _ (Vca lt) t2) ?_ fun b u hb e=>up b u hb (u2 b u hb e))⟩)))
 show h6.objs.size=h0.objs.size+1;rw[c6.1,c5.1,c4.1,c3.1,z2]
theorem Xyz{Q:Option Vb->Vc->Prop}(hh:A.handled=none)(hi:Vel s.heap it d i es.size ep k0 v0)(ho:s.heap.get? d=some o)(hd:o.data=.dict es ep)(hx:es[i]?=none)
  (hQ:∀h',Heap.ExtBut it s.heap h'->Q none {s with heap:=h' }):Vf (Vk prog w) A (Vdd (.ref it)) Q E s:=by
 have hT:s.TypeIs (.ref it) "dict_itemiterator" := ⟨_,hi,rfl⟩;unfold Vdd;refine Va (Vc9 (Vae (name:=U9 "__next__") hT Vcu (Uk Vcu hT Vge ?_ (Vga _))));refine Va (Vd (Va (Va ?_)))
 first|refine Va (Vcp hT (Vd ?_))|refine Va (Vdg hT (Vd ?_))
 refine Va (wpAny_fieldsOf hi rfl ?_);simp only[Xr5,if_true];show Vf _ _ (if (Vas d==U1)=true then _ else _) _ _ s
 rw[iN0 (show ¬ ((Vas d==U1)=true) from V7)];refine Va (Vd (Va (Vhh ho hd ?_)));rw[iN0 (by simp)]
 refine Va (Vd (Va (wpAny_dictEpoch ho hd ?_)));rw[iN0 (by simp)]
 refine Vd ?_;simp only[show ¬ ((i:Int)<0) from by omega,if_false,Vaz,hx]
 refine Va ?_
 first|refine Va (Vcp hT (Vd ?_))|refine Va (Vdg hT (Vd ?_))
 show Vf _ _ (setField (.ref it) 2 .none >>= _) _ _ s;refine Va (Vgw hi rfl (by simp) ?_)
 show Vf _ _ (newExc (.type "StopIteration") [] >>= _) _ _ _;refine Va ?_;simp only[newExc,newTuple];refine Va (Uj ?_ (by size_fits))
 refine Va (m:=Ved _ _) (Vet (a:=U1) (by first|rfl|(simp only[Ved];rfl)) ?_)
 refine Uj ?_ (by size_fits)
 simp only[raiseNew];refine Va (wpAny_handled ?_);rw[show A.in1.handled=none from hh];refine Va (Vd (wpAny_throw ?_));refine Va (Vf0 (T := "StopIteration") (b:=true) ⟨_,Vm _ rfl,rfl⟩ isSubtype_stop ?_);exact Vd (hQ _ (((Vdq ..).extBut.push _).push _))
end
end Z
end
section
namespace Z
open PySem PyProof.Rows
inductive D where
 |non|bl (b:Bool)|int (i:Int)|str (x:Str)|tup (xs:List D)|ref (n:Nat)|fro (xs:List D)|fn (f:Nat) (nm:Str)
 deriving Inhabited
inductive O where
 |lst (xs:List D)|fdc (kvs:List (List Int×D))|dct (kvs:List (List Int×D))|exc (c:Nat)
noncomputable abbrev Sto:=List O
noncomputable abbrev En:=List (Option D)
inductive R(α:Type) where
 |ok (a:α) (S:Sto)|ex (n:Nat) (S:Sto)|bad
noncomputable def R.bind{α β:Type}:R α->(α->Sto->R β)->R β
 |.ok a S,f=>f a S
 |.ex n S,_=>.ex n S
 |.bad,_=>.bad
@[simp] theorem Rk0{α β:Type}(a:α)(S:Sto)(f:α->Sto->R β):(R.ok a S).bind f=f a S:=rfl
@[simp] theorem R.bind_ex{α β:Type}(n:Nat)(S:Sto)(f:α->Sto->R β):(R.ex n S).bind f=.ex n S:=rfl
@[simp] theorem R.bind_bad{α β:Type}(f:α->Sto->R β):(R.bad:R α).bind f=.bad:=rfl
noncomputable def big:Nat:=1000000
set_option genInjectivity false
inductive Bo where|add|sub|mul|fdiv|mod|pow
 deriving DecidableEq
inductive Co where|eq|ne|lt|le|gt|ge|isin|notin|is|isnot
 deriving DecidableEq
inductive Ty where|int|bool|str|tuple|list|dict|cls(c:Nat)|valueError
 deriving DecidableEq
inductive Bl where
 |len|min|max|mxl|sum|sorted|srt|all|anb|tuple|list|repr|int
 deriving DecidableEq
inductive Mt where
 |append|xtd|index|count
 deriving DecidableEq
inductive Tg where
 |var (i:Nat)
 |tup (is:List Nat)
mutual
inductive Ex where
 |nev
 |var (i:Nat)
 |cst (d:D)
 |neg (a:Ex)
 |glb (k:Nat)
 |tup (es:Exs)
 |lst (es:Exs)
 |dct0
 |bin (op:Bo) (a b:Ex)
 |cmp (op:Co) (a b:Ex)
 |chn (o1 o2:Co) (a b c:Ex)
 |and (a b:Ex)
 |or (a b:Ex)
 |not (a:Ex)
 |ite (c a b:Ex)
 |idx (a i:Ex)
 |sli (a:Ex) (lo hi:Op)
 |call (f:Nat) (es:Exs)
 |cal (e:Ex) (es:Exs)
 |blt (k:Bl) (es:Exs)
 |mth (k:Mt) (o:Ex) (es:Exs)
 |isi (a:Ex) (ts:List Ty)
 |lrg (t:Bool) (es:Exs)
 |dgt (o:Ex) (es:Exs)
 |cmr (k:Bool) (n:Nat) (gs:Gens) (elt:Ex)
 |cms (n:Nat) (gs:Gens) (elt:Ex)
 |sst (a:Ex)
inductive Op where
 |none|some (e:Ex)
inductive Exs where
 |nil|cons (e:Ex) (es:Exs)
inductive Gens where
 |nil|cons (t:Tg) (it:It) (ifs:Exs) (gs:Gens)
inductive It where
 |val (e:Ex)|rng (es:Exs)|zpp (es:Exs)|itm (e:Ex)
end
mutual
inductive St where
 |nev
 |asg (t:Tg) (e:Ex)
 |par (is:List Nat) (es:Exs)
 |aset (o i e:Ex)
 |expr (e:Ex)
 |ret (e:Ex)
 |ite (c:Ex) (a b:Sts)
 |for (t:Tg) (it:It) (b:Sts)
 |rse (c:Nat) (e:Ex)
 |try (b:Sts) (c:Nat) (x:Nat) (h:Sts)
 |pass
 |brk
 |cnt
inductive Sts where
 |nil|cons (s:St) (ss:Sts)
end
set_option genInjectivity true
inductive Fl where
 |nx (e:En)|brk (e:En)|cnt (e:En)|rt (d:D)
noncomputable def Xc(S:Sto)(n:Nat):Option (List D) :=
 match S[n]? with
 |some (.lst xs)=>some xs
 |_=>none
noncomputable def lstM(S:Sto)(n:Nat):Option (List D) :=
 match S[n]? with
 |some (.lst xs)=>some xs
 |_=>none
noncomputable def i2(b:Bool):Int:=if b then 1 else 0
mutual
noncomputable def Xw(look:Nat->Option Vbj):D->Option Vbj
 |.non=>some .none
 |.bl b=>some (.bool b)
 |.int i=>some (.int i)
 |.str x=>some (.str x)
 |.tup xs=>(datFs look xs).map PyData.tuple
 |.fro _=>none
 |.fn _ _=>none
 |.ref n=>look n
noncomputable def datFs(look:Nat->Option Vbj):List D->Option (List Vbj)
 |[]=>some []
 |x::xs=>match Xw look x,datFs look xs with
  |some p,some ps=>some (p::ps)
  |_,_=>none
end
noncomputable def Yg(S:Sto):Nat->Nat->Option Vbj
 |0,_=>none
 |k+1,n=>match S[n]? with
  |some (.lst xs)=>(datFs (Yg S k) xs).map Va8
  |some (.dct [])=>some (.dict [])
  |_=>none
noncomputable def X8(S:Sto)(d:D):Option Vbj:=Xw (Yg S 4) d
noncomputable def Xbs(x y:D):Option Bool:=match x with
 |.str a=>(match y with
  |.str b=>some (a.cps.toList==b.cps.toList)
  |_=>none)
 |_=>none
noncomputable def Xed(S:Sto)(x y:D):Option Bool:=match x with
 |.ref a=>(match y with
  |.ref b=>(match Xc S a,Xc S b with
   |some xs,some ys=>if xs.length=ys.length then none else some false
   |_,_=>none)
  |_=>none)
 |_=>none
noncomputable def eqD(S:Sto)(x y:D):Option Bool:=match Xbs x y with
 |some r=>some r
 |none=>match X8 S x,X8 S y with
  |some p,some q=>if p.canLay0&&q.canLay0&&decide (p.depth<=60) then some (Vav p q) else Xed S x y
  |_,_=>Xed S x y
noncomputable def inD(S:Sto)(x y:D):Option Bool:=match X8 S x,X8 S y with
 |some p,some (.list qs)=>if p.canLay0&&Vbu qs&&decide (p.depth<=60) then some (qs.any fun q=>Vav q p) else none
 |some p,some (.tuple qs)=>if p.canLay0&&Vbu qs&&decide (p.depth<=60) then some (qs.any fun q=>Vav q p) else none
 |_,_=>none
noncomputable def Xx(S:Sto):D->Option (List D)
 |.tup xs=>some xs
 |.fro xs=>some xs
 |.ref n=>Xc S n
 |_=>none
noncomputable def Xl:List D->Option (List Int)
 |[]=>some []
 |.int i::r=>(Xl r).map (i :: ·)
 |_::_=>none
noncomputable def Yb:List D->Option (List Bool)
 |[]=>some []
 |.bl i::r=>(Yb r).map (i :: ·)
 |_::_=>none
noncomputable def ltD:D->D->Option Bool
 |.int i,.int j=>some (decide (i<j))
 |_,_=>none
noncomputable def X2t:D->Bool
 |.ref _=>true
 |.tup _=>true
 |_=>false
noncomputable def Xf3(x:Int):List Int->List Int
 |[]=>[x]
 |y::r=>if x<=y then x::y::r else y::Xf3 x r
noncomputable def Xal:List Int->List Int
 |[]=>[]
 |x::r=>Xf3 x (Xal r)
noncomputable def ddS(acc:List Int)(x:Int):List Int:=if x∈acc then acc else acc++[x]
noncomputable def ddI(ns:List Int):List Int:=ns.foldl ddS []
noncomputable def Xcs(acc:List D)(y:D)(S:Sto):R (List D):=match y with
 |.int _=>match Xl acc with
  |some ns=>if (ddI ns).length<60 then .ok (acc++[y]) S else .bad
  |none=>.bad
 |_=>.bad
noncomputable def Xbt(acc:List D)(S:Sto):R D:=match Xl acc with
 |some ns=>if (ddI ns).length<60 then .ok (.ref S.length) (S++[.lst ((Xal (ddI ns)).map D.int)]) else .bad
 |none=>.bad
noncomputable def Xaq:List D->Option (List (List Int))
 |[]=>some []
 |.tup ds::r=>match Xl ds with
  |some k=>(Xaq r).map (k :: ·)
  |none=>none
 |_::_=>none
noncomputable def ltL:List Int->List Int->Bool
 |[],[]=>false
 |[],_::_=>true
 |_::_,[]=>false
 |x::xs,y::ys=>if x=y then ltL xs ys else decide (x<y)
noncomputable def ltK(ks:List (List Int))(i j:Nat):Option Bool:=match ks[i]? with
 |some a=>match ks[j]? with
  |some b=>some (ltL a b)
  |none=>none
 |none=>none
noncomputable def Xct{α:Type}(lt:Nat->Nat->Option Bool):PySem.W.KasT α->Option α
 |.ret a=>some a
 |.ask i j k=>match lt i j with
  |some b=>Xct lt (k b)
  |none=>none
noncomputable def Xdu(ks:List (List Int)):List Nat->Option (List (List Int))
 |[]=>some []
 |i::r=>match ks[i]? with
  |some k=>(Xdu ks r).map (k :: ·)
  |none=>none
noncomputable def Xay(ks:List (List Int)):Option (List (List Int)) :=
 if ks.length<2 then some ks else if decide (ks.length<64)&&ks.all (fun k=>!k.isEmpty) then (Xct (ltK ks) (Vem ks.length)).bind fun p=>if p.size=ks.length then Xdu ks p.toList else none else none
noncomputable def Xf(S:Sto):D->Option Bool
 |.non=>some false
 |.bl b=>some b
 |.int i=>some (i != 0)
 |.str x=>if x.length<=big then some ((x.length:Int) != 0) else none
 |.tup xs=>some (!xs.isEmpty)
 |.fro xs=>some (!xs.isEmpty)
 |.fn _ _=>none
 |.ref n=>match S[n]? with
  |some (.lst xs)=>some (!xs.isEmpty)
  |_=>none
noncomputable def Xar(i j:Int):Bool:=(decide (-(18446744073709551616)<i)&&decide (i<18446744073709551616))||(decide (-(18446744073709551616)<j)&&decide (j<18446744073709551616))||(decide (i.natAbs.log2<100000)&&decide (j.natAbs.log2<100000))
noncomputable def Xbz(j:Int):Bool:=decide (0<j)&&decide (j.natAbs.log2<9000)
noncomputable def Xo(op:Bo)(x y:D)(S:Sto):R D:=match op with
 |.add=>match x,y with
  |.int i,.int j=>.ok (.int (i+j)) S
  |.tup x,.tup y=>if x.length+y.length<=big then .ok (.tup (x++y)) S else .bad
  |.str x,.str y=>if x.length+y.length<=big then .ok (.str (x++y)) S else .bad
  |.ref n,.ref m=>match lstM S n,lstM S m with
   |some x,some y=>if x.length+y.length<=big then .ok (.ref S.length) (S++[.lst (x++y)]) else .bad
   |_,_=>.bad
  |_,_=>.bad
 |.sub=>match x,y with
  |.int i,.int j=>.ok (.int (i-j)) S
  |_,_=>.bad
 |.mul=>match x,y with
  |.int i,.int j=>if Xar i j then .ok (.int (i*j)) S else .bad
  |.tup x,.int k=>if k<1048576/\x.length*k.toNat<=big/\-(1048576)<k/\x.isEmpty=false then .ok (.tup (Vh k.toNat x).flatten) S else .bad
  |.ref n,.int k=>match lstM S n with
   |some x=>if k<1048576/\x.length*k.toNat<=big/\-(1048576)<k then .ok (.ref S.length) (S++[.lst (Vh k.toNat x).flatten]) else .bad
   |none=>.bad
  |_,_=>.bad
 |.fdiv=>match x,y with
  |.int i,.int j=>if Xbz j then .ok (.int (i/j)) S else .bad
  |_,_=>.bad
 |.mod=>match x,y with
  |.int i,.int j=>if 0<j then .ok (.int (i%j)) S else .bad
  |_,_=>.bad
 |.pow=>match x,y with
  |.int i,.int j=>if 0<=j/\j<=1000/\i.natAbs<2^63 then .ok (.int (i^j.toNat)) S else .bad
  |_,_=>.bad
noncomputable def X9(op:Co)(x y:D)(S:Sto):Option Bool:=match op with
 |.eq=>eqD S x y
 |.ne=>(eqD S x y).map (!·)
 |.lt=>ltD x y
 |.le=>match x,y with
  |.int i,.int j=>some (decide (i<=j))
  |_,_=>none
 |.gt=>match x,y with
  |.int i,.int j=>some (decide (j<i))
  |_,_=>none
 |.ge=>match x,y with
  |.int i,.int j=>some (decide (j<=i))
  |_,_=>none
 |.isin=>inD S x y
 |.notin=>(inD S x y).map (!·)
 |.is=>match y with
  |.non=>some (match x with | .non=>true|_=>false)
  |.bl b=>some (match x with | .bl c=>b==c|_=>false)
  |_=>none
 |.isnot=>match y with
  |.non=>some (match x with | .non=>false|_=>true)
  |.bl b=>some (match x with | .bl c=>b != c|_=>true)
  |_=>none
noncomputable def ixN(n:Nat)(i:Int):Option Nat:=if 0<=i then (if i<n then some i.toNat else none) else if-(n:Int)<=i then some (i+n).toNat else none
noncomputable def Xam(x:D)(i:D)(S:Sto):Option D :=
 match i with
 |.int k=>match x with
  |.str z=>if z.length<=big then (ixN z.length k).bind fun j=>z.cps.toList[j]?.map fun c=>.str ⟨#[c]⟩ else none
  |_=>(Xx S x).bind fun xs=>(ixN xs.length k).bind fun j=>xs[j]?
 |_=>none
noncomputable def Xj(op:Co)(x y:D)(S:Sto):R D:=match X9 op x y S with
 |some r=>.ok (.bl r) S
 |none=>.bad
noncomputable def Xag(x i:D)(S:Sto):R D:=match Xam x i S with
 |some d=>.ok d S
 |none=>.bad
noncomputable def Xz(ifs:En->Sto->R Bool)(body:En->List D->Sto->R (List D))(env:En)(acc:List D)(S:Sto):R (List D):=(ifs env S).bind fun b S=>if b then body env acc S else .ok acc S
noncomputable def Xf4(n:Nat)(d:Nat):Option Int->Nat
 |none=>d
 |some i=>if 0<=i then min i.toNat n else (i+n).toNat
noncomputable def cut{α:Type}(xs:List α)(lo hi:Option Int):List α :=
 (xs.drop (Xf4 xs.length 0 lo)).take (Xf4 xs.length xs.length hi-Xf4 xs.length 0 lo)
noncomputable def Xdv:Option D->Option (Option Int)
 |none=>some none
 |some (.int i)=>some (some i)
 |_=>none
noncomputable def Xa6(x:D)(lo hi:Option Int)(S:Sto):R D :=
 match x with
 |.tup xs=>.ok (.tup (cut xs lo hi)) S
 |.ref n=>match Xc S n with
  |some xs=>.ok (.ref S.length) (S++[.lst (cut xs lo hi)])
  |none=>.bad
 |_=>.bad
noncomputable def Xbu(f:Nat)(nm:Str):List D->Bool
 |[]=>false
 |.fn g m::r=>(g==f&&decide (m=nm))||Xbu f nm r
 |_::r=>Xbu f nm r
inductive Kd where|non|bool|int|str|tuple|list|dict|exc(c:Nat)
 deriving DecidableEq
noncomputable def kdD(S:Sto):D->Option Kd
 |.non=>some .non
 |.bl _=>some .bool
 |.int _=>some .int
 |.str _=>some .str
 |.tup _=>some .tuple
 |.fro _=>some .list
 |.fn _ _=>none
 |.ref n=>match S[n]? with
  |some (.lst _)=>some .list
  |some (.dct [])=>some .dict
  |some (.exc c)=>some (.exc c)
  |_=>none
noncomputable def isT:Kd->Ty->Option Bool
 |.exc c',.cls c=>some (c==0||c==c')
 |.exc _,.valueError=>some true
 |.exc _,_=>none
 |_,.cls _=>none
 |_,.valueError=>none
 |.bool,.int=>some true
 |.int,.int=>some true
 |.bool,.bool=>some true
 |.str,.str=>some true
 |.tuple,.tuple=>some true
 |.list,.list=>some true
 |.dict,.dict=>some true
 |_,_=>some false
noncomputable def Yc(k:Kd):List Ty->Option Bool
 |[]=>some false
 |t::r=>match isT k t with
  |some true=>some true
  |some false=>Yc k r
  |none=>none
mutual
noncomputable def szD:Vbj->Nat
 |.none=>4
 |.bool _=>5
 |.int _=>1921
 |.str x=>(reprText x).length
 |.list xs=>szDs xs+2
 |.tuple xs=>szDs xs+3
 |.dict _=>2
noncomputable def szDs:List Vbj->Nat
 |[]=>0
 |x::xs=>szD x+2+szDs xs
end
mutual
noncomputable def Xah:Vbj->Bool
 |.none=>true
 |.bool _=>true
 |.int _=>true
 |.str _=>true
 |.list xs=>dctEs xs
 |.tuple xs=>dctEs xs
 |.dict kvs=>kvs.isEmpty
noncomputable def dctEs:List Vbj->Bool
 |[]=>true
 |x::xs=>Xah x&&dctEs xs
end
noncomputable def Xld(S:Sto)(x:D):Option Str:=match X8 S x with
 |some p=>if p.showable&&Xah p&&decide (p.depth<=60)&&decide (szD p<=big) then some p.shown else none
 |none=>none
noncomputable def Xm(k:Bl)(ds:List D)(S:Sto):R D:=match k with
 |.len=>match ds with
  |[x]=>match x with
   |.str z=>if z.length<=big then .ok (.int z.length) S else .bad
   |_=>match Xx S x with
    |some xs=>.ok (.int xs.length) S
    |none=>.bad
  |_=>.bad
 |.tuple=>match ds with
  |[x]=>match Xx S x with
   |some xs=>.ok (.tup xs) S
   |none=>.bad
  |_=>.bad
 |.list=>match ds with
  |[x]=>match Xx S x with
   |some xs=>.ok (.ref S.length) (S++[.lst xs])
   |none=>.bad
  |_=>.bad
 |.all=>match ds with
  |[.ref n]=>match (Xc S n).bind Yb with
   |some bs=>.ok (.bl (bs.all id)) S
   |none=>.bad
  |_=>.bad
 |.anb=>match ds with
  |[.ref n]=>match (Xc S n).bind Yb with
   |some bs=>.ok (.bl (bs.any id)) S
   |none=>.bad
  |_=>.bad
 |.sum=>match ds with
  |[x]=>match (Xx S x).bind Xl with
   |some ns=>.ok (.int ns.sum) S
   |none=>.bad
  |_=>.bad
 |.max=>match ds with
  |[.int i,.int j]=>.ok (.int (if j>i then j else i)) S
  |_=>.bad
 |.min=>match ds with
  |[.int i,.int j]=>.ok (.int (if j<i then j else i)) S
  |_=>.bad
 |.sorted=>match ds with
  |[x]=>match (Xx S x).bind Xl with
   |some ns=>if X2t x&&decide (ns.length<64) then .ok (.ref S.length) (S++[.lst ((Xal ns).map D.int)]) else .bad
   |none=>.bad
  |_=>.bad
 |.mxl=>match ds with
  |[x]=>match (Xx S x).bind Xl with
   |some ns=>match ns with
    |n::r=>.ok (.int (r.foldl max n)) S
    |[]=>.bad
   |none=>.bad
  |_=>.bad
 |.srt=>match ds with
  |[.ref n]=>match (Xc S n).bind Xaq with
   |some ks=>match Xay ks with
    |some r=>.ok (.ref S.length) (S++[.lst (r.map fun k=>.tup (k.map D.int))])
    |none=>.bad
   |none=>.bad
  |_=>.bad
 |.int=>match ds with
  |[.bl b]=>.ok (.int (i2 b)) S
  |_=>.bad
 |.repr=>match ds with
  |[x]=>match Xld S x with
   |some t=>.ok (.str t) S
   |none=>.bad
  |_=>.bad
noncomputable def Xab(k:Mt)(o:D)(ds:List D)(S:Sto):R D:=match o,ds with
 |.ref n,[x]=>match k with
  |.append=>match lstM S n with
   |some xs=>if xs.length<big then .ok .non (S.set n (.lst (xs++[x]))) else .bad
   |none=>.bad
  |.xtd=>match x with
   |.ref k=>match lstM S n with
    |some xs=>match Xc S k with
     |some ys=>if xs.length+ys.length<=big then .ok .non (S.set n (.lst (xs++ys))) else .bad
     |none=>.bad
    |none=>.bad
   |.tup ys=>match lstM S n with
    |some xs=>if xs.length+ys.length<=big then .ok .non (S.set n (.lst (xs++ys))) else .bad
    |none=>.bad
   |_=>.bad
  |.index=>match x with
   |.bl b=>match (Xc S n).bind Yb with
    |some bs=>match bs.findIdx? (· == b) with
     |some i=>.ok (.int i) S
     |none=>.bad
    |none=>.bad
   |_=>.bad
  |.count=>match x with
   |.bl b=>match (Xc S n).bind Yb with
    |some bs=>.ok (.int (bs.countP (· == b):Nat)) S
    |none=>.bad
   |_=>.bad
 |_,_=>.bad
noncomputable def Xcm(k:Mt)(x:D)(S:Sto):Bool:=match x with
 |.ref n=>(Xc S n).isSome
 |_=>false
noncomputable def Y0(kvs:List (List Int×D))(k:List Int):Option D:=(kvs.find? fun p=>decide (p.1=k)).map (·.2)
noncomputable def Xb0(kvs:List (List Int×D))(k:List Int)(v:D):List (List Int×D):=if (Y0 kvs k).isSome then kvs.map (fun p=>if p.1=k then (p.1,v) else p) else kvs++[(k,v)]
noncomputable def Xdw(S:Sto)(n:Nat):Option (List (List Int×D)):=match S[n]? with
 |some (.dct kvs)=>some kvs
 |_=>none
noncomputable def Yx(S:Sto)(n:Nat):Option (List (List Int×D)):=match S[n]? with
 |some (.dct kvs)=>some kvs
 |some (.fdc kvs)=>some kvs
 |_=>none
noncomputable def Xus(S:Sto)(x:D):Bool:=match x with
 |.ref n=>(Yx S n).isSome
 |_=>false
noncomputable def Xcu(o:D)(ds:List D)(S:Sto):R D:=match o with
 |.ref n=>match ds with
  |[k,d]=>match k with
   |.tup ks=>match Yx S n,Xl ks with
    |some kvs,some r=>.ok ((Y0 kvs r).getD d) S
    |_,_=>.bad
   |_=>.bad
  |_=>.bad
 |_=>.bad
noncomputable def Xbm(o i v:D)(S:Sto):R Unit :=
 match o with
 |.ref n=>match i with
  |.int k=>match lstM S n with
   |some xs=>match ixN xs.length k with
    |some j=>.ok () (S.set n (.lst (xs.set j v)))
    |none=>.bad
   |none=>.bad
  |.tup ks=>match Xdw S n,Xl ks with
   |some kvs,some r=>if kvs.length<big then .ok () (S.set n (.dct (Xb0 kvs r v))) else .bad
   |_,_=>.bad
  |_=>.bad
 |_=>.bad
noncomputable def Xee(p:List Int×D):D:=.tup [.tup (p.1.map D.int),p.2]
inductive Src where
 |con (xs:List D)|ref (n:Nat)|zpp (a b:Src)
noncomputable def Src.get:Src->Sto->Nat->Option (Option D)
 |.con xs,_,i=>some xs[i]?
 |.ref n,S,i=>(Xc S n).map fun xs=>xs[i]?
 |.zpp a b,S,i=>match a.get S i,b.get S i with
  |some (some x),some (some y)=>some (some (.tup [x,y]))
  |some _,some _=>some none
  |_,_=>none
noncomputable def Src.most:Src->Sto->Nat
 |.con xs,_=>xs.length
 |.ref n,S=>((Xc S n).getD []).length
 |.zpp a b,S=>min (a.most S) (b.most S)
noncomputable def Yo(S:Sto):D->Option Src
 |.tup xs=>some (.con xs)
 |.ref n=>(Xc S n).map fun _=>.ref n
 |_=>none
noncomputable def Yd:List D->Option (List D)
 |[.int j]=>if-(1048576)<j/\j<1048576 then some ((V0 j.toNat).map fun(k:Nat)=>D.int (k:Int)) else none
 |[.int i,.int j]=>if-(1048576)<i/\i<1048576/\-(1048576)<j/\j<1048576 then some ((V0 (j-i).toNat).map fun(k:Nat)=>D.int (i+k)) else none
 |[.int i,.int j,.int s]=>if s = -1/\-(1048576)<i/\i<1048576/\-(1048576)<j/\j<1048576 then some ((V0 (i-j).toNat).map fun(k:Nat)=>D.int (i-k)) else none
 |_=>none
noncomputable def Xr(t:Tg)(d:D)(env:En):Option En :=
 match t with
 |.var i=>some (env.set i (some d))
 |.tup is=>match d with
  |.tup ds=>if is.length=ds.length then some ((is.zip ds).foldl (fun e p=>e.set p.1 (some p.2)) env) else none
  |_=>none
noncomputable def slots:Tg->List Nat
 |.var i=>[i]
 |.tup is=>is
noncomputable def Xc4(t:Tg)(env:En):Bool:=(slots t).all fun i=>match env[i]? with
 |some (some _)=>false
 |_=>true
noncomputable def X0(get:Sto->Nat->Option (Option D))(t:Tg)(body:En->List D->Sto->R (List D)):Nat->Nat->En->List D->Sto->R (List D)
 |0,_,_,_,_=>.bad
 |k+1,i,env,acc,S=>match get S i with
  |none=>.bad
  |some none=>.ok acc S
  |some (some d)=>match Xr t d env with
   |none=>.bad
   |some env'=>match body env' acc S with
    |.ok acc' S'=>X0 get t body k (i+1) env' acc' S'
    |_=>.bad
noncomputable abbrev Fn:=Nat->List D->Sto->R D
section
variable(F:Fn)(G:List D)
mutual
noncomputable def ev:Ex->En->Sto->R D
 |.nev,_,_=>.bad
 |.var i,env,S=>match env[i]? with
  |some (some d)=>.ok d S
  |_=>.bad
 |.cst d,_,S=>.ok d S
 |.neg a,env,S=>(ev a env S).bind fun x S=>match x with
  |.int i=>.ok (.int (-i)) S
  |_=>.bad
 |.glb k,_,S=>match G[k]? with
  |some d=>.ok d S
  |none=>.bad
 |.tup es,env,S=>(evs es env S).bind fun xs S=>if xs.length<=big then .ok (.tup xs) S else .bad
 |.lst es,env,S=>(evs es env S).bind fun xs S=>if xs.length<=big then .ok (.ref S.length) (S++[.lst xs]) else .bad
 |.dct0,_,S=>.ok (.ref S.length) (S++[.dct []])
 |.bin op a b,env,S=>(ev a env S).bind fun x S=>(ev b env S).bind fun y S=>Xo op x y S
 |.cmp op a b,env,S=>(ev a env S).bind fun x S=>(ev b env S).bind fun y S=>Xj op x y S
 |.chn o1 o2 a b c,env,S=>(ev a env S).bind fun x S=>(ev b env S).bind fun y S=>match X9 o1 x y S with
  |some true=>(ev c env S).bind fun z S=>Xj o2 y z S
  |some false=>.ok (.bl false) S
  |none=>.bad
 |.and a b,env,S=>(ev a env S).bind fun x S=>match Xf S x with
  |some true=>ev b env S
  |some false=>.ok x S
  |none=>.bad
 |.or a b,env,S=>(ev a env S).bind fun x S=>match Xf S x with
  |some true=>.ok x S
  |some false=>ev b env S
  |none=>.bad
 |.not a,env,S=>(ev a env S).bind fun x S=>match Xf S x with
  |some r=>.ok (.bl (!r)) S
  |none=>.bad
 |.ite c a b,env,S=>(ev c env S).bind fun x S=>match Xf S x with
  |some true=>ev a env S
  |some false=>ev b env S
  |none=>.bad
 |.idx a i,env,S=>(ev a env S).bind fun x S=>(ev i env S).bind fun y S=>Xag x y S
 |.sli a lo hi,env,S=>(ev a env S).bind fun x S=>(evo lo env S).bind fun l S=>(evo hi env S).bind fun h S=>match Xdv l,Xdv h with
  |some l,some h=>Xa6 x l h S
  |_,_=>.bad
 |.call f es,env,S=>(evs es env S).bind fun xs S=>F f xs S
 |.cal e es,env,S=>(ev e env S).bind fun x S=>match x with
  |.fn f nm=>if Xbu f nm G then (evs es env S).bind fun xs S=>F f xs S else .bad
  |_=>.bad
 |.blt k es,env,S=>(evs es env S).bind fun xs S=>Xm k xs S
 |.mth k o es,env,S=>(ev o env S).bind fun x S=>if Xcm k x S then (evs es env S).bind fun xs S=>Xab k x xs S else .bad
 |.isi a ts,env,S=>(ev a env S).bind fun x S=>match (kdD S x).bind fun k=>Yc k ts with
  |some r=>.ok (.bl r) S
  |none=>.bad
 |.lrg t es,env,S=>(evs es env S).bind fun xs S=>match Yd xs with
  |some ds=>if t then .ok (.tup ds) S else .ok (.ref S.length) (S++[.lst ds])
  |none=>.bad
 |.dgt o es,env,S=>(ev o env S).bind fun x S=>if Xus S x then (evs es env S).bind fun xs S=>Xcu x xs S else .bad
 |.cmr k n gs elt,env,S=>match gs with
  |.nil=>.bad
  |.cons t it ifs gs=>(evit it env S).bind fun src S =>
   (X0 (src.get) t (Xz (fun env S=>evts ifs env S) (fun env acc S =>
     match gs with
     |.nil=>(ev elt env S).bind fun y S=>if acc.length<big then .ok (acc++[y]) S else .bad
     |.cons t2 it2 ifs2 gs2=>match gs2 with
      |.nil=>if Xc4 t2 env then (evit it2 env S).bind fun src2 S =>
       X0 (src2.get) t2 (Xz (fun env S=>evts ifs2 env S) (fun env acc S =>
        (ev elt env S).bind fun y S=>if acc.length<big then .ok (acc++[y]) S else .bad)) (src2.most S+1) 0 env acc S else .bad
      |.cons ..=>.bad)) (src.most S+1) 0 (env++Vh n none) [] S).bind fun acc S =>
   if k then .bad else .ok (.ref S.length) (S++[.lst acc])
 |.cms n gs elt,env,S=>match gs with
  |.nil=>.bad
  |.cons t it ifs gs=>(evit it env S).bind fun src S =>
   (X0 (src.get) t (Xz (fun env S=>evts ifs env S) (fun env acc S =>
     match gs with
     |.nil=>(ev elt env S).bind fun y S=>Xcs acc y S
     |.cons t2 it2 ifs2 gs2=>match gs2 with
      |.nil=>if Xc4 t2 env then (evit it2 env S).bind fun src2 S =>
       X0 (src2.get) t2 (Xz (fun env S=>evts ifs2 env S) (fun env acc S =>
        (ev elt env S).bind fun y S=>Xcs acc y S)) (src2.most S+1) 0 env acc S else .bad
      |.cons ..=>.bad)) (src.most S+1) 0 (env++Vh n none) [] S).bind fun acc S=>Xbt acc S
 |.sst a,env,S=>(ev a env S).bind fun x S=>match x with
  |.ref n=>match Xc S n with
   |some xs=>Xbt xs S
   |none=>.bad
  |_=>.bad
noncomputable def evo:Op->En->Sto->R (Option D)
 |.none,_,S=>.ok none S
 |.some e,env,S=>(ev e env S).bind fun x S=>.ok (some x) S
noncomputable def evs:Exs->En->Sto->R (List D)
 |.nil,_,S=>.ok [] S
 |.cons e es,env,S=>(ev e env S).bind fun x S=>(evs es env S).bind fun xs S=>.ok (x::xs) S
noncomputable def evts:Exs->En->Sto->R Bool
 |.nil,_,S=>.ok true S
 |.cons e es,env,S=>(ev e env S).bind fun x S=>match Xf S x with
  |some true=>evts es env S
  |some false=>.ok false S
  |none=>.bad
noncomputable def evit:It->En->Sto->R Src
 |.val e,env,S=>(ev e env S).bind fun x S=>match Yo S x with
  |some s=>.ok s S
  |none=>.bad
 |.rng es,env,S=>(evs es env S).bind fun xs S=>match Yd xs with
  |some ds=>.ok (.con ds) S
  |none=>.bad
 |.zpp es,env,S=>(evs es env S).bind fun xs S=>match xs with
  |[x,y]=>match Yo S x,Yo S y with
   |some s,some t=>.ok (.zpp s t) S
   |_,_=>.bad
  |_=>.bad
 |.itm e,env,S=>(ev e env S).bind fun x S=>match x with
  |.ref n=>match Yx S n with
   |some kvs=>.ok (.con (kvs.map Xee)) (S.set n (.fdc kvs))
   |none=>.bad
  |_=>.bad
end
mutual
noncomputable def X2u:St->Bool
 |.expr _=>true
 |.ret _=>true
 |.pass=>true
 |.ite _ a b=>nasgs a&&nasgs b
 |.rse _ _=>true
 |_=>false
noncomputable def nasgs:Sts->Bool
 |.nil=>true
 |.cons s ss=>X2u s&&nasgs ss
end
noncomputable def Xu(get:Sto->Nat->Option (Option D))(t:Tg)(body:En->Sto->R Fl):Nat->Nat->En->Sto->R Fl
 |0,_,_,_=>.bad
 |k+1,i,env,S=>match get S i with
  |none=>.bad
  |some none=>.ok (.nx env) S
  |some (some d)=>match Xr t d env with
   |none=>.bad
   |some env'=>match body env' S with
    |.ok (.nx e) S'=>Xu get t body k (i+1) e S'
    |.ok (.cnt e) S'=>Xu get t body k (i+1) e S'
    |.ok (.brk e) S'=>.ok (.nx e) S'
    |.ok (.rt d) S'=>.ok (.rt d) S'
    |.ex n S'=>.ex n S'
    |.bad=>.bad
mutual
noncomputable def exe:St->En->Sto->R Fl
 |.nev,_,_=>.bad
 |.asg t e,env,S=>(ev F G e env S).bind fun x S=>match Xr t x env with
  |some env=>.ok (.nx env) S
  |none=>.bad
 |.par is es,env,S=>(evs F G es env S).bind fun xs S=>if is.length=xs.length then .ok (.nx ((is.zip xs).foldl (fun e p=>e.set p.1 (some p.2)) env)) S else .bad
 |.aset o i e,env,S=>(ev F G e env S).bind fun v S=>(ev F G o env S).bind fun x S=>(ev F G i env S).bind fun y S=>(Xbm x y v S).bind fun _ S=>.ok (.nx env) S
 |.expr e,env,S=>(ev F G e env S).bind fun _ S=>.ok (.nx env) S
 |.ret e,env,S=>(ev F G e env S).bind fun x S=>.ok (.rt x) S
 |.ite c a b,env,S=>(ev F G c env S).bind fun x S=>match Xf S x with
  |some true=>pb a env S
  |some false=>pb b env S
  |none=>.bad
 |.for t it b,env,S=>(evit F G it env S).bind fun src S=>Xu src.get t (fun env S=>pb b env S) (src.most S+1) 0 env S
 |.rse c e,env,S=>(ev F G e env S).bind fun _ S=>.ex S.length (S++[.exc c])
 |.try b c x h,env,S=>if nasgs b then
   match pb b env S with
   |.ex n S'=>match S'[n]? with
    |some (.exc c')=>if c==0||c==c' then
      match pb h (env.set x (some (.ref n))) S' with
      |.ok (.rt d) S''=>.ok (.rt d) S''
      |_=>.bad
     else .bad
    |_=>.bad
   |r=>r
  else .bad
 |.pass,env,S=>.ok (.nx env) S
 |.brk,env,S=>.ok (.brk env) S
 |.cnt,env,S=>.ok (.cnt env) S
noncomputable def pb:Sts->En->Sto->R Fl
 |.nil,env,S=>.ok (.nx env) S
 |.cons s ss,env,S=>match exe s env S with
  |.ok (.nx e) S'=>pb ss e S'
  |r=>r
end
structure Df where
 np:Nat
 nl:Nat
 body:Sts
noncomputable def den(d:Df)(ds:List D)(S:Sto):R D :=
 if ds.length=d.np then
  match pb F G d.body (ds.map some++Vh (d.nl-d.np) none) S with
  |.ok (.rt v) S=>.ok v S
  |.ok (.nx _) S=>.ok .non S
  |.ok _ _=>.bad
  |.ex n S=>.ex n S
  |.bad=>.bad
 else .bad
end
noncomputable def FT(T:List Df)(G:List D):Nat->Fn
 |0=>fun _ _ _=>.bad
 |k+1=>fun f ds S=>match T[f]? with
  |some d=>den (FT T G k) G d ds S
  |none=>.bad
end Z
end
section
namespace Z
open PySem PySem.Spec PyProof.Rows L2
def FrL(K:Vg)(H:Hp)(a:Addr)(vs:List V):Prop :=
 (∃o,H a=some (.frz o (.lst vs))) \/
  ∃(o:Obj) (its:Array Vb) (n:Nat),K.lookup a=some o/\o.cls=.type "list" /\ o.dict=none/\o.data=.seq its n/\its.size<=Vw/\Vals vs its.toList
theorem FrL.sq{K:Vg}{H:Hp}{a:Addr}{vs:List V}(h:FrL K H a vs):SqL K H a vs:=by
 rcases h with⟨o,h⟩|h
 ·exact .inl (.inr ⟨o,h⟩)
 ·exact .inr h
mutual
def RD(K:Vg)(ρ:List Addr)(H:Hp):D->V->Prop
 |.non,v=>v=.non
 |.bl b,v=>v=.bl b
 |.int i,v=>v=.int i
 |.str x,v=>v=.str x
 |.tup xs,v=>∃a vs,v=.ref a/\SqT K H a vs/\RDs K ρ H xs vs
 |.fro xs,v=>∃a vs,v=.ref a/\FrL K H a vs/\RDs K ρ H xs vs
 |.ref n,v=>∃a,v=.ref a/\ρ[n]?=some a
 |.fn _ nm,v=>∃a,v=.ref a/\Vaj K V5 nm=some (some (.ref a))
def RDs(K:Vg)(ρ:List Addr)(H:Hp):List D->List V->Prop
 |[],vs=>vs=[]
 |x::xs,vs=>∃v r,vs=v::r/\RD K ρ H x v/\RDs K ρ H xs r
end
noncomputable def clsNames:List Str:=["FaceError","NoNet","NoFace","NoPoint","NotApart","TooMany","NoText","NoRow","NoNumber","NotLevel","NoCrowd","NoWay","NotClosed","NoSwap","NoPlaces","NoDeed","NoLine"]
noncomputable def Xa7(c:Nat):Option Str:=(clsNames[c]?).filter fun x=>!decide (x = "")
theorem Xle(h:Xa7 c=some x):c<clsNames.length:=by
 unfold Xa7 at h;cases q:clsNames[c]? with
 |none=>rw[q]at h;cases h
 |some _=>exact(Vi.mp q).1
noncomputable def Yy(K:Vg)(c:Nat):Option Addr:=(Xa7 c).bind fun nm=>match Vaj K V5 nm with
 |some (some (.ref C))=>some C
 |_=>none
def ExcO(C a:Addr)(h:Heap):Prop:=∃oe vs a0,h.get? a=some oe/\oe.cls=.ref C/\oe.data=.fields vs/\vs[0]?=some a0/\1<vs.size
theorem ExcO.ok(x:ExcO C a h):ObjOk P w H h a (.ext (ExcO C a)) :=
 ⟨x,let ⟨oe,_,_,e,_⟩:=x;⟨oe,e⟩,fun h1 h2 ⟨oe,vs,a0,e,r⟩ k=>⟨oe,vs,a0,k _ e,r⟩⟩
def Xf5(a:Addr)(o:Obj)(xs:List (List Int×Addr×V)):Prop:=(a==Vb1)=false/\xs.length<=Vw/\o.ExactDict/\∃(ys:List (List Int×Addr×Vb)) (es:Array DictEntry) (ep:Nat),
 Paired (fun p q=>p.1=q.1/\p.2.1=q.2.1/\RelV p.2.2 q.2.2) xs ys/\o.data=.dict es ep/\(∀P w,es.toList=ys.map (entryOfKey (Veg (Vah P w))))/\(ys.map (·.1)).Nodup
def DicO(a:Addr)(xs:List (List Int×Addr×V))(h:Heap):Prop:=∃o,h.get? a=some o/\Xf5 a o xs
theorem DicO.ok(x:DicO a xs h):ObjOk P w H h a (.ext (DicO a xs)) :=
 ⟨x,let ⟨o,e,_⟩:=x;⟨o,e⟩,fun h1 h2 ⟨o,e,r⟩ k=>⟨o,k _ e,r⟩⟩
abbrev DX(K:Vg)(ρ:List Addr)(H:Hp):List (List Int×D)->List (List Int×Addr×V)->Prop:=Paired fun p q=>p.1=q.1/\SqT K H q.2.1 (p.1.map V.int)/\RD K ρ H p.2 q.2.2
def OR(K:Vg)(ρ:List Addr)(H:Hp)(a:Addr):O->Prop
 |.lst xs=>∃vs,H a=some (.lst vs)/\RDs K ρ H xs vs
 |.dct kvs=>(kvs=[]/\H a=some (.dK []))\/(kvs≠[]/\∃xs,H a=some (.ext (DicO a xs))/\DX K ρ H kvs xs)
 |.fdc kvs=>∃o u xs,H a=some (.frz o u)/\(∀ys,u≠.tup ys)/\(∀ys,u≠.lst ys)/\Xf5 a o xs/\DX K ρ H kvs xs
 |.exc c=>∃C,Yy K c=some C/\H a=some (.ext (ExcO C a))
theorem OR.some{K:Vg}{ρ:List Addr}{H:Hp}{a:Addr}{o:O}(h:OR K ρ H a o):∃u,H a=some u/\∀xs,u≠.tup xs:=by
 cases o with
 |lst xs=>obtain⟨vs,e,_⟩:=h;exact⟨_,e,fun _ z=>(nomatch z)⟩
 |dct kvs =>
  rcases h with⟨_,e⟩|⟨_,xs,e,_⟩
  ·exact⟨_,e,fun _ z=>(nomatch z)⟩
  ·exact⟨_,e,fun _ z=>(nomatch z)⟩
 |fdc kvs=>obtain⟨o,u,xs,e,_⟩:=h;exact⟨_,e,fun _ z=>(nomatch z)⟩
 |exc c=>obtain⟨C,_,e⟩:=h;exact⟨_,e,fun _ z=>(nomatch z)⟩
structure SR(K:Vg)(ρ:List Addr)(S:Sto)(H:Hp):Prop where
 len:ρ.length=S.length
 nd:ρ.Nodup
 ob:∀(n:Nat) a o,ρ[n]?=some a->S[n]?=some o->OR K ρ H a o
structure Mon(K:Vg)(ρ ρ':List Addr)(H H':Hp):Prop where
 pre:∀(n:Nat) a,ρ[n]?=some a->ρ'[n]?=some a
 tup:∀a xs,SqT K H a xs->SqT K H' a xs
 frz:∀a o u,H a=some (.frz o u)->H' a=some (.frz o u)
structure Stp(K:Vg)(ρ ρ':List Addr)(H H':Hp):Prop extends Mon K ρ ρ' H H' where
 new:∀a∈ρ',a∈ρ\/H a=none
 keep:∀a o,H a=some o->a ∉ ρ->H' a=some o
section
variable{K:Vg}{ρ ρ' ρ'':List Addr}{H H' H'':Hp}{S S':Sto}
theorem Mon.fro(x:Mon K ρ ρ' H H')(a:Addr)(xs:List V)(h:FrL K H a xs):FrL K H' a xs:=by
 rcases h with⟨o,h⟩|h
 ·exact .inl ⟨o,x.frz _ _ _ h⟩
 ·exact .inr h
theorem Stp.refl:Stp K ρ ρ H H:=⟨⟨fun _ _ h=>h,fun _ _ h=>h,fun _ _ _ h=>h⟩,fun _ h=>.inl h,fun _ _ h _=>h⟩
theorem Stp.trans(x:Stp K ρ ρ' H H')(y:Stp K ρ' ρ'' H' H''):Stp K ρ ρ'' H H'' where
 pre:=fun n a h=>y.pre n a (x.pre n a h)
 new:=fun a h=>by
  rcases y.new a h with h|h
  ·exact x.new a h
  ·cases e:H a with
   |none=>exact .inr rfl
   |some o =>
    by_cases hm:a∈ρ
    ·exact .inl hm
    ·rw[x.keep a o e hm]at h;cases h
 keep:=fun a o h n=>y.keep a o (x.keep a o h n) fun hm=>by
  rcases x.new a hm with z|z
  ·exact n z
  ·rw[h]at z;cases z
 tup:=fun a xs h=>y.tup a xs (x.tup a xs h)
 frz:=fun a o u h=>y.frz a o u (x.frz a o u h)
mutual
theorem RD.mono'(x:Mon K ρ ρ' H H'):∀(d:D) (v:V),RD K ρ H d v->RD K ρ' H' d v
 |.non,v,h=>by simpa only[RD] using h
 |.bl b,v,h=>by simpa only[RD] using h
 |.int i,v,h=>by simpa only[RD] using h
 |.str y,v,h=>by simpa only[RD] using h
 |.tup xs,v,h=>by
  simp only[RD]at h ⊢;obtain⟨a,vs,e,h1,h2⟩:=h;exact⟨a,vs,e,x.tup a vs h1,RDs.mono' x xs vs h2⟩
 |.fro xs,v,h=>by
  simp only[RD]at h ⊢;obtain⟨a,vs,e,h1,h2⟩:=h;exact⟨a,vs,e,x.fro a vs h1,RDs.mono' x xs vs h2⟩
 |.ref n,v,h=>by
  simp only[RD]at h ⊢;obtain⟨a,e,h⟩:=h;exact⟨a,e,x.pre n a h⟩
 |.fn f nm,v,h=>by simpa only[RD] using h
theorem RDs.mono'(x:Mon K ρ ρ' H H'):∀(ds:List D) (vs:List V),RDs K ρ H ds vs->RDs K ρ' H' ds vs
 |[],vs,h=>by simpa only[RDs] using h
 |d::ds,vs,h=>by
  simp only[RDs]at h ⊢;obtain⟨v,r,e,h1,h2⟩:=h;exact⟨v,r,e,RD.mono' x d v h1,RDs.mono' x ds r h2⟩
end
theorem RD.mono(x:Stp K ρ ρ' H H')(d:D)(v:V)(h:RD K ρ H d v):RD K ρ' H' d v:=RD.mono' x.toMon d v h
theorem RDs.mono(x:Stp K ρ ρ' H H')(ds:List D)(vs:List V)(h:RDs K ρ H ds vs):RDs K ρ' H' ds vs:=RDs.mono' x.toMon ds vs h
theorem RDs.nil:RDs K ρ H [] []:=by simp only[RDs]
theorem RDs.cons(h:RD K ρ H d v)(t:RDs K ρ H ds vs):RDs K ρ H (d::ds) (v::vs):=by
 simp only[RDs];exact⟨v,vs,rfl,h,t⟩
theorem RDs.length:∀ {ds:List D} {vs:List V},RDs K ρ H ds vs->ds.length=vs.length
 |[],vs,h=>by simp only[RDs]at h;subst h;rfl
 |d::ds,vs,h=>by
  simp only[RDs]at h;obtain⟨v,r,rfl,_,h2⟩:=h;simp[RDs.length h2]
theorem RDs.append:∀ {ds es:List D} {vs us:List V},RDs K ρ H ds vs->RDs K ρ H es us->RDs K ρ H (ds++es) (vs++us)
 |[],es,vs,us,h,t=>by simp only[RDs]at h;subst h;exact t
 |d::ds,es,vs,us,h,t=>by
  simp only[RDs]at h;obtain⟨v,r,rfl,h1,h2⟩:=h;exact RDs.cons h1 (RDs.append h2 t)
theorem RDs.get:∀ {ds:List D} {vs:List V} {i:Nat} {d:D},RDs K ρ H ds vs->ds[i]?=some d->∃v,vs[i]?=some v/\RD K ρ H d v
 |[],vs,i,d,h,e=>by simp at e
 |x::ds,vs,0,d,h,e=>by
  simp only[RDs]at h;obtain⟨v,r,rfl,h1,h2⟩:=h;simp at e;subst e;exact⟨v,rfl,h1⟩
 |x::ds,vs,i+1,d,h,e=>by
  simp only[RDs]at h;obtain⟨v,r,rfl,h1,h2⟩:=h;obtain⟨v',e',h'⟩:=RDs.get (i:=i) h2 (by simpa using e)
  exact⟨v',by simpa using e',h'⟩
theorem RDs.none{ds:List D}{vs:List V}{i:Nat}(h:RDs K ρ H ds vs)(e:ds[i]?=none):vs[i]?=none:=by
 have:=h.length;rw[Us]at e ⊢;omega
theorem RDs.set(hv:RD K ρ H d v):∀ {ds:List D} {vs:List V} (i:Nat),RDs K ρ H ds vs->RDs K ρ H (ds.set i d) (vs.set i v)
 |[],vs,i,h=>by simp only[RDs]at h;subst h;exact RDs.nil
 |x::ds,vs,0,h=>by
  simp only[RDs]at h;obtain⟨w,r,rfl,h1,h2⟩:=h;exact RDs.cons hv h2
 |x::ds,vs,i+1,h=>by
  simp only[RDs]at h;obtain⟨w,r,rfl,h1,h2⟩:=h;exact RDs.cons h1 (RDs.set hv i h2)
theorem RDs.drop:∀ {ds:List D} {vs:List V} (n:Nat),RDs K ρ H ds vs->RDs K ρ H (ds.drop n) (vs.drop n)
 |ds,vs,0,h=>h
 |[],vs,n+1,h=>by simp only[RDs]at h;subst h;exact RDs.nil
 |x::ds,vs,n+1,h=>by
  simp only[RDs]at h;obtain⟨w,r,rfl,h1,h2⟩:=h;exact RDs.drop n h2
theorem RDs.take:∀ {ds:List D} {vs:List V} (n:Nat),RDs K ρ H ds vs->RDs K ρ H (ds.take n) (vs.take n)
 |ds,vs,0,h=>RDs.nil
 |[],vs,n+1,h=>by simp only[RDs]at h;subst h;exact RDs.nil
 |x::ds,vs,n+1,h=>by
  simp only[RDs]at h;obtain⟨w,r,rfl,h1,h2⟩:=h;exact RDs.cons h1 (RDs.take n h2)
theorem RDs.ints:∀(ns:List Int),RDs K ρ H (ns.map D.int) (ns.map V.int)
 |[]=>RDs.nil
 |n::ns=>RDs.cons (by simp only[RD]) (RDs.ints ns)
theorem RDs.ints_of:∀ {ns:List Int} {vs:List V},RDs K ρ H (ns.map D.int) vs->vs=ns.map V.int
 |[],vs,h=>by simp only[Ug,RDs]at h;exact h
 |n::ns,vs,h=>by
  simp only[Ug,RDs]at h;obtain⟨v,r,rfl,h1,h2⟩:=h;simp only[RD]at h1;subst h1;rw[RDs.ints_of h2];rfl
theorem DX.mono(x:Mon K ρ ρ' H H')(h:DX K ρ H kvs xs):DX K ρ' H' kvs xs:=Paired.mapP h fun p q ⟨h1,h2,h3⟩=>⟨h1,x.tup _ _ h2,RD.mono' x _ _ h3⟩
theorem OR.mono'(x:Mon K ρ ρ' H H')(h:OR K ρ H a o)(e:H' a=H a):OR K ρ' H' a o:=by
 cases o with
 |lst xs=>obtain⟨vs,h1,h2⟩:=h;exact⟨vs,e.trans h1,RDs.mono' x xs vs h2⟩
 |dct kvs =>
  rcases h with⟨h1,h2⟩|⟨h0,xs,h1,h2⟩
  ·exact .inl ⟨h1,e.trans h2⟩
  ·exact .inr ⟨h0,xs,e.trans h1,h2.mono x⟩
 |fdc kvs=>obtain⟨o,u,xs,h1,h2,h3,h4,h5⟩:=h;exact⟨o,u,xs,e.trans h1,h2,h3,h4,h5.mono x⟩
 |exc c=>obtain⟨C,h1,h2⟩:=h;exact⟨C,h1,e.trans h2⟩
theorem OR.mono(x:Stp K ρ ρ' H H')(h:OR K ρ H a o)(e:H' a=H a):OR K ρ' H' a o:=OR.mono' x.toMon h e
theorem SR.at(r:SR K ρ S H){n:Nat}{a:Addr}(h:ρ[n]?=some a):∃o,S[n]?=some o/\OR K ρ H a o:=by
 have hn:n<S.length:=by rw[<- r.len];exact(Vi.mp h).1
 exact⟨S[n],by simp[hn],r.ob n a _ h (by simp[hn])⟩
theorem SR.adr(r:SR K ρ S H){n:Nat}(h:S[n]?=some o):∃a,ρ[n]?=some a/\OR K ρ H a o:=by
 have hn:n < ρ.length:=by rw[r.len];exact(Vi.mp h).1
 exact⟨ρ[n],by simp[hn],r.ob n _ o (by simp[hn]) h⟩
theorem SR.mem(r:SR K ρ S H){a:Addr}(h:a∈ρ):∃u,H a=some u/\∀xs,u≠.tup xs:=by
 obtain⟨n,hn,e⟩:=Vbm.mp h;obtain⟨o,_,q⟩:=r.at (n:=n) (a:=a) (by simp[hn,e])
 exact q.some
theorem Stp.upd(hp:H p=none):Stp K ρ ρ H (L2.upd H p o) where
 pre:=fun _ _ h=>h
 new:=fun _ h=>.inl h
 keep:=fun a u h _=>by rw[Xh (Xs h hp)];exact h
 tup:=fun a xs h=>by
  rcases h with(h|⟨u,h⟩)|h
  ·exact .inl (.inl (by rw[Xh (Xs h hp)];exact h))
  ·exact .inl (.inr ⟨u,by rw[Xh (Xs h hp)];exact h⟩)
  ·exact .inr h
 frz:=fun a o u h=>by rw[Xh (Xs h hp)];exact h
theorem SR.upd(r:SR K ρ S H){p:Addr}{o:HO}(hp:H p=none):SR K ρ S (L2.upd H p o) :=
 ⟨r.len,r.nd,fun n a ob h1 h2=>by
  have q:=r.ob n a ob h1 h2;obtain⟨u,hu,_⟩:=q.some;exact q.mono (Stp.upd hp) (Xh (Xs hu hp))⟩
theorem Stp.new1(hp:H p=none):Stp K ρ (ρ++[p]) H (L2.upd H p o) where
 pre:=fun n a h=>by rw[Vt (Vi.mp h).1];exact h
 new:=fun a h=>by
  rcases Vbh.mp h with h|h
  ·exact .inl h
  ·rw[Up.mp h];exact .inr hp
 keep:=(Stp.upd (ρ:=ρ) (K:=K) hp).keep
 tup:=(Stp.upd (ρ:=ρ) (K:=K) hp).tup
 frz:=(Stp.upd (ρ:=ρ) (K:=K) hp).frz
theorem SR.new1(r:SR K ρ S H){p:Addr}{u:HO}{o:O}(hp:H p=none)(ho:OR K (ρ++[p]) (L2.upd H p u) p o):SR K (ρ++[p]) (S++[o]) (L2.upd H p u):=by
 have hpm:p ∉ ρ:=fun h=>by obtain⟨w,hw,_⟩:=r.mem h;rw[hp]at hw;cases hw
 refine⟨by simp[r.len],?_,fun n a ob h1 h2=>?_⟩
 ·rw[Vfl]
  refine⟨r.nd,by simp,fun x hx y hy=>?_⟩
  rw[Up.mp hy];exact fun z=>hpm (z▸hx)
 ·by_cases hn:n < ρ.length
  ·rw[Vt hn]at h1
   rw[Vt (by rw[<- r.len];exact hn)]at h2
   have q:=r.ob n a ob h1 h2;obtain⟨w,hw,_⟩:=q.some;exact q.mono (Stp.new1 hp) (Xh (Xs hw hp))
  ·have e:n=ρ.length:=by
    have:=(Vi.mp h1).1;simp at this;omega
   subst e;simp at h1;rw[r.len]at h2;simp at h2;subst h1 h2;exact ho
theorem Stp.chg{n:Nat}{a:Addr}{o:O}{u:HO}(r:SR K ρ S H)(ha:ρ[n]?=some a)(hz:∀o u,H a≠some (.frz o u)):Stp K ρ ρ H (L2.upd H a u):=by
 have hm:a∈ρ:=Ur ha;obtain⟨w,hw,h1⟩:=r.mem hm;refine⟨⟨fun _ _ h=>h,fun b xs h=>?_,fun b o u h=>?_⟩,fun _ h=>.inl h,fun b o h hb=>?_⟩
 ·rcases h with(h|⟨v,h⟩)|h
  ·exact .inl (.inl (by rw[Xh (fun z=>by subst z;rw[hw]at h;exact h1 _ (Ue h))];exact h))
  ·exact .inl (.inr ⟨v,by rw[Xh (fun z=>by subst z;exact hz _ _ h)];exact h⟩)
  ·exact .inr h
 ·rw[Xh (fun z=>by subst z;exact hz _ _ h)];exact h
 ·rw[Xh (fun z=>hb (by rw[z];exact hm))];exact h
theorem SR.chg{n:Nat}{a:Addr}{o:O}{u:HO}(r:SR K ρ S H)(ha:ρ[n]?=some a)(hz:∀o u,H a≠some (.frz o u))(ho:OR K ρ (L2.upd H a u) a o):SR K ρ (S.set n o) (L2.upd H a u):=by
 refine⟨by simp[r.len],r.nd,fun m b ob h1 h2=>?_⟩
 have hn:n<S.length:=by rw[<- r.len];exact(Vi.mp ha).1
 by_cases e:m=n
 ·subst e
  rw[ha]at h1;cases h1;rw[Vbs hn]at h2;cases h2;exact ho
 ·rw[Vaq (Ne.symm e)]at h2
  have q:=r.ob m b ob h1 h2;refine q.mono (Stp.chg (S:=S) (o:=o) r ha hz) (Xh fun z=>e ?_)
  subst z;obtain⟨h3,e3⟩:=Vi.mp h1;obtain⟨h4,e4⟩:=Vi.mp ha;exact(List.getElem_inj r.nd).mp (e3.trans e4.symm)
end
section
variable{K:Vg}{ρ ρ':List Addr}{H H':Hp}{S S':Sto}
theorem Mon.own{D:Addr}{u:HO}{vs:List V}(hd:H D=some (.lst vs)):Mon K ρ ρ H (L2.upd H D u) where
 pre:=fun _ _ h=>h
 tup:=fun a xs h=>by
  rcases h with(h|⟨v,h⟩)|h
  ·exact .inl (.inl (by rw[Xh (fun z=>by subst z;rw[hd]at h;cases h)];exact h))
  ·exact .inl (.inr ⟨v,by rw[Xh (fun z=>by subst z;rw[hd]at h;cases h)];exact h⟩)
  ·exact .inr h
 frz:=fun a o u h=>by rw[Xh (fun z=>by subst z;rw[hd]at h;cases h)];exact h
theorem SR.own{D:Addr}{u:HO}{vs:List V}(r:SR K ρ S H)(hd:H D=some (.lst vs))(hn:D ∉ ρ):SR K ρ S (L2.upd H D u) :=
 ⟨r.len,r.nd,fun n a ob h1 h2=>(r.ob n a ob h1 h2).mono' (Mon.own hd) (Xh fun z=>hn (by rw[<- z];exact Ur h1))⟩
theorem Stp.own{D:Addr}{u:HO}{vs:List V}{ρ0:List Addr}(x:Stp K ρ0 ρ H0 H)(h0:H0 D=none)(hd:H D=some (.lst vs)):Stp K ρ0 ρ H0 (L2.upd H D u) where
 pre:=x.pre
 tup:=fun a xs h=>(Mon.own (ρ:=ρ) hd).tup a xs (x.tup a xs h)
 frz:=fun a o u h=>(Mon.own (K:=K) (ρ:=ρ) hd).frz a o u (x.frz a o u h)
 new:=x.new
 keep:=fun a o h hn=>by rw[Xh (Xs h h0)];exact x.keep a o h hn
end
structure ER(K:Vg)(ρ:List Addr)(H:Hp)(env:En)(σ:L2.St):Prop where
 len:env.length=σ.length
 val:∀(i:Nat) d,env[i]?=some (some d)->∃v,σ[i]?=some (some v)/\RD K ρ H d v
theorem ER.mono{K:Vg}{ρ ρ':List Addr}{H H':Hp}{env:En}{σ:L2.St}(r:ER K ρ H env σ)(x:Stp K ρ ρ' H H'):ER K ρ' H' env σ :=
 ⟨r.len,fun i d e=>let ⟨v,h1,h2⟩:=r.val i d e;⟨v,h1,h2.mono x⟩⟩
theorem ER.mono'{K:Vg}{ρ ρ':List Addr}{H H':Hp}{env:En}{σ:L2.St}(r:ER K ρ H env σ)(x:Mon K ρ ρ' H H'):ER K ρ' H' env σ :=
 ⟨r.len,fun i d e=>let ⟨v,h1,h2⟩:=r.val i d e;⟨v,h1,RD.mono' x d v h2⟩⟩
theorem ER.set{K:Vg}{ρ:List Addr}{H:Hp}{env:En}{σ:L2.St}(r:ER K ρ H env σ)(i:Nat){d:D}{v:V}(h:RD K ρ H d v):ER K ρ H (env.set i (some d)) (σ.set i (some v)) :=
 ⟨by simp[r.len],fun j e h1=>by
  by_cases z:j=i
  ·subst z
   have hj:j<env.length:=by
    have:=(Vi.mp h1).1
    simpa using this
   rw[Vbs hj]at h1;cases h1;exact⟨v,by rw[Vbs (by rw[<- r.len];exact hj)],h⟩
  ·rw[Vaq (Ne.symm z)]at h1
   obtain⟨v',h2,h3⟩:=r.val j e h1;exact⟨v',by rw[Vaq (Ne.symm z)];exact h2,h3⟩⟩
structure S0(X:Cx)(pa:List (Addr×Obj))(σ:L2.St)(H:Hp)(s:Vc)(ρ:List Addr)(S:Sto)(env:En):Prop where
 inv:Inv X pa σ H s
 sr:SR X.K ρ S H
 er:ER X.K ρ H env σ
theorem S0.step(I:S0 X pa σ H s ρ S env)(J:Inv X pa σ H' s')(r:SR X.K ρ' S' H')(x:Stp X.K ρ ρ' H H') :
  S0 X pa σ H' s' ρ' S' env:=⟨J,r,I.er.mono x⟩
def EPd(X:Cx)(pa:List (Addr×Obj))(σ:L2.St)(ρ:List Addr)(H:Hp)(d:D)(S':Sto)(u:Vb)(s':Vc):Prop :=
 ∃v H' ρ',Inv X pa σ H' s'/\RelV v u/\RD X.K ρ' H' d v/\SR X.K ρ' S' H'/\Stp X.K ρ ρ' H H'
def Trc(fl:Vb)(ok:Addr->Prop)(H':Hp)(a:Addr)(h:Heap):Prop :=
 ∃oe vs T oT ts,h.get? a=some oe/\oe.data=.fields vs/\vs[1]?=some (.ref T)/\ok T/\T≠a/\H' T=none/\h.get? T=some oT/\oT.data=.fields ts/\ts[3]?=some fl
theorem Trc.imp(x:Trc fl ok H' a h)(k:∀T,ok T->ok' T):Trc fl ok' H' a h:=by
 obtain⟨oe,vs,T,oT,ts,h1,h2,h3,h4,r⟩:=x;exact⟨oe,vs,T,oT,ts,h1,h2,h3,k T h4,r⟩
def Xhv(X:Cx)(pa:List (Addr×Obj))(T:Addr):Prop:=(T∈X.ex\/X.s₀.heap.get? T=none)/\∀p∈X.pn++pa,p.1≠T
def Fly(X:Cx)(pa:List (Addr×Obj))(H':Hp)(a:Addr)(h:Heap):Prop :=
 (∃oe vs,h.get? a=some oe/\oe.data=.fields vs/\vs[1]?=some .none)\/∃fl,(fl=.none\/fl=Uq X.env.locals)/\Trc fl (Xhv X pa) H' a h
def XPd(X:Cx)(pa:List (Addr×Obj))(σ:L2.St)(ρ:List Addr)(H:Hp)(n:Nat)(S':Sto)(e:Vb)(s':Vc):Prop :=
 ∃H' ρ' a c,Inv X pa σ H' s'/\e=.ref a/\ρ'[n]?=some a/\S'[n]?=some (.exc c)/\SR X.K ρ' S' H'/\Stp X.K ρ ρ' H H'/\Fly X pa H' a s'.heap
def OkP(X:Cx)(pa:List (Addr×Obj))(σ:L2.St)(ρ:List Addr)(H:Hp)(r:R D)(u:Vb)(s':Vc):Prop:=∃d S',r=.ok d S'/\EPd X pa σ ρ H d S' u s'
def ExP(X:Cx)(pa:List (Addr×Obj))(σ:L2.St)(ρ:List Addr)(H:Hp){α:Type}(r:R α)(e:Vb)(s':Vc):Prop:=∃n S',r=.ex n S'/\XPd X pa σ ρ H n S' e s'
def DE(X:Cx)(e:Expr)(f:En->Sto->R D):Prop :=
 ∀(pa:List (Addr×Obj)) (s:Vc) (σ:L2.St) (H:Hp) (ρ:List Addr) (S:Sto) (env:En),S0 X pa σ H s ρ S env->f env S≠.bad ->
  Vf (Vk X.prog X.w) X.A (eval e X.env) (OkP X pa σ ρ H (f env S)) (ExP X pa σ ρ H (f env S)) s
def DT(X:Cx)(e:Expr)(f:En->Sto->R Bool):Prop :=
 ∀(pa:List (Addr×Obj)) (s:Vc) (σ:L2.St) (H:Hp) (ρ:List Addr) (S:Sto) (env:En),S0 X pa σ H s ρ S env->f env S≠.bad ->
  Vf (Vk X.prog X.w) X.A (isTrue e X.env (eval e X.env)) (fun b s'=>∃S',f env S=.ok b S'/\∃H' ρ',Inv X pa σ H' s'/\SR X.K ρ' S' H'/\Stp X.K ρ ρ' H H') (ExP X pa σ ρ H (f env S)) s
section
variable{X:Cx}{pa:List (Addr×Obj)}{σ:L2.St}{H:Hp}{s:Vc}{ρ:List Addr}{S S':Sto}{env:En}{e:Expr}{f:En->Sto->R D}{g:En->Sto->R Bool}{Q:Vb->Vc->Prop}{E:Vb->Vc->Prop}
theorem DE.ok(h:DE X e f)(I:S0 X pa σ H s ρ S env)(r:f env S=.ok d S')(hQ:∀u s' v H' ρ',S0 X pa σ H' s' ρ' S' env->RelV v u->RD X.K ρ' H' d v->Stp X.K ρ ρ' H H'->Q u s') :
  Vf (Vk X.prog X.w) X.A (eval e X.env) Q E s:=by
 have nb:f env S≠.bad:=by rw[r];exact fun z=>nomatch z
 refine Vn (h pa s σ H ρ S env I nb) (fun u s' q=>?_) fun x s' q=>?_
 ·obtain⟨d',S1,e1,v,H',ρ',J,rv,rd,sr,st⟩:=q
  rw[r]at e1;cases e1;exact hQ u s' v H' ρ' (I.step J sr st) rv rd st
 ·obtain⟨n,S1,e1,_⟩:=q
  rw[r]at e1;cases e1
theorem DE.ex(h:DE X e f)(I:S0 X pa σ H s ρ S env)(r:f env S=.ex n S')(hE:∀x s',XPd X pa σ ρ H n S' x s'->E x s') :
  Vf (Vk X.prog X.w) X.A (eval e X.env) Q E s:=by
 have nb:f env S≠.bad:=by rw[r];exact fun z=>nomatch z
 refine Vn (h pa s σ H ρ S env I nb) (fun u s' q=>?_) fun x s' q=>?_
 ·obtain⟨d',S1,e1,_⟩:=q
  rw[r]at e1;cases e1
 ·obtain⟨m,S1,e1,q⟩:=q
  rw[r]at e1;cases e1;exact hE x s' q
theorem DT.ok{Q:Bool->Vc->Prop}{b:Bool}(h:DT X e g)(I:S0 X pa σ H s ρ S env)(r:g env S=.ok b S')(hQ:∀s' H' ρ',S0 X pa σ H' s' ρ' S' env->Stp X.K ρ ρ' H H'->Q b s') :
  Vf (Vk X.prog X.w) X.A (isTrue e X.env (eval e X.env)) Q E s:=by
 have nb:g env S≠.bad:=by rw[r];exact fun z=>nomatch z
 refine Vn (h pa s σ H ρ S env I nb) (fun u s' q=>?_) fun x s' q=>?_
 ·obtain⟨S1,e1,H',ρ',J,sr,st⟩:=q
  rw[r]at e1;cases e1;exact hQ s' H' ρ' (I.step J sr st) st
 ·obtain⟨n,S1,e1,_⟩:=q
  rw[r]at e1;cases e1
theorem DT.ex{Q:Bool->Vc->Prop}{n:Nat}(h:DT X e g)(I:S0 X pa σ H s ρ S env)(r:g env S=.ex n S')(hE:∀x s',XPd X pa σ ρ H n S' x s'->E x s') :
  Vf (Vk X.prog X.w) X.A (isTrue e X.env (eval e X.env)) Q E s:=by
 have nb:g env S≠.bad:=by rw[r];exact fun z=>nomatch z
 refine Vn (h pa s σ H ρ S env I nb) (fun u s' q=>?_) fun x s' q=>?_
 ·obtain⟨S1,e1,_⟩:=q
  rw[r]at e1;cases e1
 ·obtain⟨m,S1,e1,q⟩:=q
  rw[r]at e1;cases e1;exact hE x s' q
theorem XPd.pre(st:Stp X.K ρ ρ' H H')(h:XPd X pa σ ρ' H' n S' x s'):XPd X pa σ ρ H n S' x s':=by
 obtain⟨H2,ρ2,a,c,J,e,hn,hc,sr,st2,fl⟩:=h;exact⟨H2,ρ2,a,c,J,e,hn,hc,sr,st.trans st2,fl⟩
theorem ExP.mk{α:Type}(st:Stp X.K ρ ρ' H H')(h:XPd X pa σ ρ' H' n S' x s'):ExP X pa σ ρ H (.ex n S':R α) x s':=⟨n,S',rfl,h.pre st⟩
theorem OkP.mk(st:Stp X.K ρ ρ' H H')(J:Inv X pa σ H' s')(rv:RelV v u)(rd:RD X.K ρ' H' d v)(sr:SR X.K ρ' S' H'):OkP X pa σ ρ H (.ok d S') u s' :=
 ⟨d,S',rfl,v,H',ρ',J,rv,rd,sr,st⟩
theorem OkP.pre(st:Stp X.K ρ ρ' H H')(h:OkP X pa σ ρ' H' r u s'):OkP X pa σ ρ H r u s':=by
 obtain⟨d,S1,e,v,H2,ρ2,J,rv,rd,sr,st2⟩:=h;exact⟨d,S1,e,v,H2,ρ2,J,rv,rd,sr,st.trans st2⟩
theorem ExP.pre{α:Type}{ρ':List Addr}{H':Hp}{r:R α}{x:Vb}{s':Vc}(st:Stp X.K ρ ρ' H H')(h:ExP X pa σ ρ' H' r x s'):ExP X pa σ ρ H r x s':=by
 obtain⟨n,S1,e,q⟩:=h;exact⟨n,S1,e,q.pre st⟩
theorem DE.bind{α:Type}(h:DE X e f)(I:S0 X pa σ H s ρ S env){k:D->Sto->R α}(nb:(f env S).bind k≠.bad){r:R α}(hr:r=(f env S).bind k)
  (hQ:∀d S1 u s' v H' ρ',r=k d S1->k d S1≠.bad->S0 X pa σ H' s' ρ' S1 env->RelV v u->RD X.K ρ' H' d v->Stp X.K ρ ρ' H H'->Q u s') (hE:∀x s',ExP X pa σ ρ H r x s'->E x s') :
  Vf (Vk X.prog X.w) X.A (eval e X.env) Q E s:=by
 cases q:f env S with
 |bad=>rw[q]at nb;exact aB0 rfl nb
 |ex n S1 =>
  rw[q]at hr;exact h.ex I q fun x s' z=>hE x s' ⟨n,S1,hr,z⟩
 |ok d S1 =>
  rw[q]at hr nb;exact h.ok I q fun u s' v H' ρ' J rv rd st=>hQ d S1 u s' v H' ρ' hr nb J rv rd st
end
theorem Xef:big<=Vw:=by rw[Va7];decide
theorem Yq(h:n<=big):n<=Vw:=U4 h Xef
noncomputable def tst(r:R D):R Bool:=r.bind fun x S=>match Xf S x with
 |some b=>.ok b S
 |none=>.bad
section
variable{X:Cx}{pa:List (Addr×Obj)}{σ:L2.St}{H:Hp}{s:Vc}{ρ:List Addr}{S S':Sto}{env:En}{e a b c:Expr}{f fa fb fc:En->Sto->R D}{Q:Vb->Vc->Prop}{E:Vb->Vc->Prop}{pos:Pos}
theorem opd{f:Vb->Vb->Sem Vb}(ho:OpR (X.wish E) f r)(I:Inv X pa σ H s)(rx:RelV x v)(ry:RelV y u)(h:r x y H Q')
  (hQ:∀w s' z H',Inv X pa σ H' s'->RelV z w->Q' z H'->Q w s'):Vf (Vk X.prog X.w) X.A (f v u) Q E s :=
 thn (ho pa s σ H x y v u Q' (I.wish E) rx ry h) fun w s' ⟨z,H',J,rz,q⟩=>hQ w s' z H' J.unwish rz q
theorem ped(ho:PE (X.wish E) e t)(I:Inv X pa σ H s)(h:t σ H Q')(hQ:∀w s' z H',Inv X pa σ H' s'->RelV z w->Q' z H'->Q w s'):Vf (Vk X.prog X.w) X.A (eval e X.env) Q E s :=
 thn (ho pa s σ H Q' (I.wish E) h) fun w s' ⟨z,H',J,rz,q⟩=>hQ w s' z H' J.unwish rz q
theorem Xdx{f:Vb}{r:List V->Hp->VK->Prop}{xs:List V}{us:List Vb}{Q':VK}(ho:Xds (X.wish E) f r)(I:Inv X pa σ H s)(rx:Vals xs us)(h:r xs H Q')
  (hQ:∀w s' z H',Inv X pa σ H' s'->RelV z w->Q' z H'->Q w s'):Vf (Vk X.prog X.w) X.A (call f us) Q E s :=
 thn (ho pa s σ H xs us Q' (I.wish E) rx h) fun w s' ⟨z,H',J,rz,q⟩=>hQ w s' z H' J.unwish rz q
theorem mtd{id:String}{r:V->List V->Hp->VK->Prop}{x:V}{xs:List V}{v:Vb}{us:List Vb}{Q':VK}(ho:MtM (X.wish E) id r)(I:Inv X pa σ H s)(rx:RelV x v)(rs:Vals xs us)(h:r x xs H Q')
  (hQ:∀w s' z H',Inv X pa σ H' s'->RelV z w->Q' z H'->Q w s'):Vf (Vk X.prog X.w) X.A (call (.builtin id) (v::us)) Q E s :=
 thn (ho pa s σ H x xs v us Q' (I.wish E) rx rs h) fun w s' ⟨z,H',J,rz,q⟩=>hQ w s' z H' J.unwish rz q
theorem S0.list(I:S0 X pa σ H s ρ S env)(h:Xc S n=some xs):∃a vs,ρ[n]?=some a/\H a=some (.lst vs)/\RDs X.K ρ H xs vs:=by
 unfold Xc at h;cases e:S[n]? with
 |none=>rw[e]at h;cases h
 |some o =>
  rw[e]at h;cases o with
  |lst ys =>
   cases h;obtain⟨a,ha,vs,hv,hr⟩:=I.sr.adr e;exact⟨a,vs,ha,hv,hr⟩
  |fdc _=>cases h
  |dct _=>cases h
  |exc _=>cases h
theorem S0.seq(I:S0 X pa σ H s ρ S env)(h:Xx S d=some xs)(r:RD X.K ρ H d v):∃a vs,v=.ref a/\(SqL X.K H a vs\/SqT X.K H a vs)/\RDs X.K ρ H xs vs:=by
 cases d with
 |tup ys =>
  simp only[Xx,Vr]at h;subst h;simp only[RD]at r;obtain⟨a,vs,e,h1,h2⟩:=r;exact⟨a,vs,e,.inr h1,h2⟩
 |fro ys =>
  simp only[Xx,Vr]at h;subst h;simp only[RD]at r;obtain⟨a,vs,e,h1,h2⟩:=r;exact⟨a,vs,e,.inl h1.sq,h2⟩
 |ref n =>
  simp only[RD]at r;obtain⟨a,e,h1⟩:=r;obtain⟨a',vs,h2,h3,h4⟩:=I.list (xs:=xs) (n:=n) h;rw[h1]at h2;cases h2;exact⟨a,vs,e,.inl (.of h3),h4⟩
 |non=>cases h
 |bl _=>cases h
 |int _=>cases h
 |str _=>cases h
 |fn _ _=>cases h
theorem Xa8(h:RDs X.K ρ H ds vs):(!vs.isEmpty) = !ds.isEmpty:=by
 have:=h.length;cases ds<;>cases vs<;>simp_all
theorem Xkn(I:S0 X pa σ H s ρ S env){k:Bool}{Q:Bool->Vc->Prop}(h:Xf S d=some k)(rd:RD X.K ρ H d v)(rv:RelV v u)(hQ:∀s',Inv X pa σ H s'->Q k s') :
  Vf (Vk X.prog X.w) X.A (truthy u) Q E s:=by
 have key:X2h X.K v H k:=by
  cases d with
  |non=>simp only[RD]at rd;subst rd;simp only[Xf,Vr]at h;exact h.symm
  |bl b=>simp only[RD]at rd;subst rd;simp only[Xf,Vr]at h;exact h.symm
  |int i=>simp only[RD]at rd;subst rd;simp only[Xf,Vr]at h;exact h.symm
  |str x =>
   simp only[RD]at rd;subst rd;simp only[Xf]at h;split at h
   ·rename_i hb
    exact⟨Yq hb,(Ue h).symm⟩
   ·cases h
  |fn _ _=>cases h
  |tup xs =>
   simp only[Xf,Vr]at h;obtain⟨a,vs,e,h1,h2⟩:=I.seq (d:=.tup xs) rfl rd;subst e;rcases h1 with h1|h1
   ·exact .inl ⟨vs,h1,by rw[Xa8 h2];exact h.symm⟩
   ·exact .inr (.inl ⟨vs,h1,by rw[Xa8 h2];exact h.symm⟩)
  |fro xs =>
   simp only[Xf,Vr]at h;obtain⟨a,vs,e,h1,h2⟩:=I.seq (d:=.fro xs) rfl rd;subst e;rcases h1 with h1|h1
   ·exact .inl ⟨vs,h1,by rw[Xa8 h2];exact h.symm⟩
   ·exact .inr (.inl ⟨vs,h1,by rw[Xa8 h2];exact h.symm⟩)
  |ref n =>
   simp only[Xf]at h;cases e:S[n]? with
   |none=>rw[e]at h;cases h
   |some o =>
    rw[e]at h;cases o with
    |lst ys =>
     obtain⟨a,vs,h1,h2,h3⟩:=I.list (n:=n) (xs:=ys) (by unfold Xc;rw[e])
     simp only[RD]at rd;obtain⟨a',e',h1'⟩:=rd;rw[h1]at h1';cases h1';subst e';exact .inl ⟨vs,.of h2,by rw[Xa8 h3];exact(Ue h).symm⟩
    |fdc _=>cases h
    |dct _=>cases h
    |exc _=>cases h
 exact thn (X2i (X:=X.wish E) pa s σ H v u (fun k' H'=>k'=k/\H'=H) (I.inv.wish E) rv ⟨k,key,rfl,rfl⟩) fun b s' ⟨H',J,e1,e2⟩=>by subst e1 e2;exact hQ s' J.unwish
theorem DT.of(h:DE X e f)(he:∀whole,isTrue e X.env whole=(do let v <- whole;standAt e.pos;Veu [v] (truthy v))):DT X e (fun env S=>tst (f env S)):=by
 intro pa s σ H ρ S env I nb;dsimp only at nb ⊢;cases q:f env S with
 |bad=>rw[q]at nb;exact aB0 rfl nb
 |ex n S1=>exact isTrue_plain (h.ex I q fun x s' z=>⟨n,S1,rfl,z⟩) (he _)
 |ok d S1 =>
  rw[q]at nb;cases t:Xf S1 d with
  |none=>simp[tst,t]at nb
  |some k =>
   refine isTrue_plain (h.ok I q fun u s' v H' ρ' J rv rd st=>?_) (he _)
   exact Xkn J t rd rv fun s2 J2=>⟨S1,by simp[tst,t],H',ρ',J2,J.sr,st⟩
theorem X6y {i:Nat} (hN:X.N[i]?=some x) (hv:Vis X.env.scope x) (hd:(x==("__debug__" : Str))=false) (hcd:(x==("__classdict__" : Str))=false) :
  DE X (.Name x pos) (fun env S=>match env[i]? with|some (some d)=>.ok d S|_=>.bad):=by
 intro pa s σ H ρ S env I nb;dsimp only at nb ⊢;cases q:env[i]? with
 |none=>rw[q]at nb;exact aB0 rfl nb
 |some o =>
  cases o with
  |none=>rw[q]at nb;exact aB0 rfl nb
  |some d =>
   obtain⟨v,h1,h2⟩:=I.er.val i d q;exact ped (Q':=fun z H'=>z=v/\H'=H) (X2b hN hv hd hcd) I.inv ⟨v,h1,rfl,rfl⟩ fun u s' z H' J rz ⟨e1,e2⟩=>by
    subst e1 e2;exact .mk .refl J rz h2 I.sr
theorem d_int:DE X (.Constant (.int i) j pos) (fun _ S=>.ok (.int i) S):=fun pa s σ H ρ S env I _ =>
 ped (Q':=fun z H'=>z=.int i/\H'=H) X2c I.inv ⟨rfl,rfl⟩ fun u s' z H' J rz ⟨e1,e2⟩=>by
  subst e1 e2;exact .mk .refl J rz (by simp only[RD]) I.sr
theorem d_bl:DE X (.Constant (.bool i) j pos) (fun _ S=>.ok (.bl i) S):=fun pa s σ H ρ S env I _ =>
 ped (Q':=fun z H'=>z=.bl i/\H'=H) X6v I.inv ⟨rfl,rfl⟩ fun u s' z H' J rz ⟨e1,e2⟩=>by
  subst e1 e2;exact .mk .refl J rz (by simp only[RD]) I.sr
theorem d_non:DE X (.Constant .none j pos) (fun _ S=>.ok .non S):=fun pa s σ H ρ S env I _ =>
 ped (Q':=fun z H'=>z=.non/\H'=H) X2d I.inv ⟨rfl,rfl⟩ fun u s' z H' J rz ⟨e1,e2⟩=>by
  subst e1 e2;exact .mk .refl J rz (by simp only[RD]) I.sr
theorem d_str:DE X (.Constant (.str i) j pos) (fun _ S=>.ok (.str i) S):=fun pa s σ H ρ S env I _ =>
 ped (Q':=fun z H'=>z=.str i/\H'=H) X2e I.inv ⟨rfl,rfl⟩ fun u s' z H' J rz ⟨e1,e2⟩=>by
  subst e1 e2;exact .mk .refl J rz (by simp only[RD]) I.sr
def DA(X:Cx)(es:List Expr)(f:En->Sto->R (List D)):Prop :=
 ∀(pos:Pos) (pa:List (Addr×Obj)) (s:Vc) (σ:L2.St) (H:Hp) (ρ:List Addr) (S:Sto) (env:En),S0 X pa σ H s ρ S env->f env S≠.bad ->
  Vf (Vk X.prog X.w) X.A (spliced (Vbg pos (V3 es X.env)))
   (fun us s'=>∃ds S' vs H' ρ',f env S=.ok ds S'/\Inv X pa σ H' s'/\Vals vs us/\RDs X.K ρ' H' ds vs/\SR X.K ρ' S' H'/\Stp X.K ρ ρ' H H') (ExP X pa σ ρ H (f env S)) s
theorem DA.ok{es:List Expr}{g:En->Sto->R (List D)}{Q:List Vb->Vc->Prop}{ds:List D}(h:DA X es g)(I:S0 X pa σ H s ρ S env)(r:g env S=.ok ds S')
  (hQ:∀us s' vs H' ρ',S0 X pa σ H' s' ρ' S' env->Vals vs us->RDs X.K ρ' H' ds vs->Stp X.K ρ ρ' H H'->Q us s') :
  Vf (Vk X.prog X.w) X.A (spliced (Vbg pos (V3 es X.env))) Q E s:=by
 have nb:g env S≠.bad:=by rw[r];exact fun z=>nomatch z
 refine Vn (h pos pa s σ H ρ S env I nb) (fun u s' q=>?_) fun x s' q=>?_
 ·obtain⟨d',S1,vs,H',ρ',e1,J,rv,rd,sr,st⟩:=q
  rw[r]at e1;cases e1;exact hQ u s' vs H' ρ' (I.step J sr st) rv rd st
 ·obtain⟨n,S1,e1,_⟩:=q
  rw[r]at e1;cases e1
theorem DA.ex{es:List Expr}{g:En->Sto->R (List D)}{Q:List Vb->Vc->Prop}{n:Nat}(h:DA X es g)(I:S0 X pa σ H s ρ S env)(r:g env S=.ex n S')(hE:∀x s',XPd X pa σ ρ H n S' x s'->E x s') :
  Vf (Vk X.prog X.w) X.A (spliced (Vbg pos (V3 es X.env))) Q E s:=by
 have nb:g env S≠.bad:=by rw[r];exact fun z=>nomatch z
 refine Vn (h pos pa s σ H ρ S env I nb) (fun u s' q=>?_) fun x s' q=>?_
 ·obtain⟨d',S1,_,_,_,e1,_⟩:=q
  rw[r]at e1;cases e1
 ·obtain⟨m,S1,e1,q⟩:=q
  rw[r]at e1;cases e1;exact hE x s' q
theorem X2v:DA X [] (fun _ S=>.ok [] S):=fun _ pa s σ H ρ S env I _=>Vct ⟨[],S,[],H,ρ,rfl,I.inv,.nil,.nil,I.sr,.refl⟩
theorem Xy0{es:List Expr}{g:En->Sto->R (List D)}(ha:DE X a fa)(hr:DA X es g)(hs:V3 (a::es) X.env=(false,eval a X.env)::V3 es X.env) :
  DA X (a::es) (fun env S=>(fa env S).bind fun x S=>(g env S).bind fun xs S=>.ok (x::xs) S):=by
 intro pos pa s σ H ρ S env I nb;dsimp only at nb ⊢;rw[hs];show Vf _ _ (spliced ((false,eval a X.env)::Vbg pos (V3 es X.env))) _ _ s;cases q:fa env S with
 |bad=>rw[q]at nb;exact aB0 rfl nb
 |ex n S1=>exact Vak (ha.ex I q fun x s' z=>⟨n,S1,rfl,z⟩)
 |ok d S1 =>
  rw[q]at nb;simp only[Rk0]at nb ⊢;refine Vak (ha.ok I q fun u s1 v H1 ρ1 I1 rv rd st1=>?_)
  cases q2:g env S1 with
  |bad=>rw[q2]at nb;exact aB0 rfl nb
  |ex n S2=>exact hr.ex I1 q2 fun x s' z=>.mk st1 z
  |ok ds S2 =>
   refine hr.ok I1 q2 fun us s2 vs H2 ρ2 I2 rvs rds st2=>?_
   exact⟨d::ds,S2,v::vs,H2,ρ2,rfl,I2.inv,.cons rv rvs,.cons (rd.mono st2) rds,I2.sr,st1.trans st2⟩
theorem Xb7(J:Inv X pa σ (upd H p (.tup vs)) s')(hp:H p=none)(sr:SR X.K ρ S H)(rd:RDs X.K ρ H xs vs):OkP X pa σ ρ H (.ok (.tup xs) S) (.ref p) s':=by
 refine .mk (v:=.ref p) (Stp.upd hp) J rfl ?_ (sr.upd hp);simp only[RD];exact⟨p,vs,rfl,.of X6,RDs.mono (Stp.upd hp) xs vs rd⟩
theorem Xac(J:Inv X pa σ (upd H p (.lst vs)) s')(hp:H p=none)(sr:SR X.K ρ S H)(rd:RDs X.K ρ H xs vs):OkP X pa σ ρ H (.ok (.ref S.length) (S++[.lst xs])) (.ref p) s':=by
 refine .mk (v:=.ref p) (ρ':=ρ++[p]) (Stp.new1 hp) J rfl ?_ (sr.new1 hp ⟨vs,X6,RDs.mono (Stp.new1 hp) xs vs rd⟩);simp only[RD];exact⟨p,rfl,by rw[<- sr.len];simp⟩
theorem X6z{es:List Expr}{x1:Nat}{g:En->Sto->R (List D)}(h:DA X es g):DE X (.Tuple es x1 pos) (fun env S=>(g env S).bind fun xs S=>if xs.length<=big then .ok (.tup xs) S else .bad):=by
 intro pa s σ H ρ S env I nb;dsimp only at nb ⊢;cases q:g env S with
 |bad=>rw[q]at nb;exact aB0 rfl nb
 |ex n S1=>exact Vgl (h.ex I q fun x s' z=>⟨n,S1,rfl,z⟩)
 |ok ds S1 =>
  rw[q]at nb;simp only[Rk0]at nb ⊢;split at nb
  ·rename_i hz
   rw[iP0 hz];refine Vgl (h.ok I q fun us s1 vs H1 ρ1 I1 rv rd st1=>⟨by rw[<- rv.length,<- rd.length];exact Yq hz,?_⟩)
   have hf:H1 s1.heap.objs.size=none:=I1.inv.hok.fresh (Vl _);refine OkP.pre st1 (Xb7 (I1.inv.laid (t':=s1.toks) (fun b u e=>Ve _ e) (Vl _) ?_) hf I1.sr rd)
   exact⟨by rw[<- rd.length];exact Yq hz,us,rv,⟨_,Vm _ rfl,rfl,_,rfl⟩⟩
  ·exact aB0 rfl nb
theorem X60{es:List Expr}{g:En->Sto->R (List D)}(h:DA X es g):DE X (.List es pos) (fun env S=>(g env S).bind fun xs S=>if xs.length<=big then .ok (.ref S.length) (S++[.lst xs]) else .bad):=by
 intro pa s σ H ρ S env I nb;dsimp only at nb ⊢;cases q:g env S with
 |bad=>rw[q]at nb;exact aB0 rfl nb
 |ex n S1=>exact wpAny_List_spliced (h.ex I q fun x s' z=>⟨n,S1,rfl,z⟩)
 |ok ds S1 =>
  rw[q]at nb;simp only[Rk0]at nb ⊢;split at nb
  ·rename_i hz
   rw[iP0 hz];refine wpAny_List_spliced (h.ok I q fun us s1 vs H1 ρ1 I1 rv rd st1=>⟨by rw[<- rv.length,<- rd.length];exact Yq hz,?_⟩)
   have hf:H1 s1.heap.objs.size=none:=I1.inv.hok.fresh (Vl _);refine OkP.pre st1 (Xac (I1.inv.laid (t':=s1.toks) (fun b u e=>Ve _ e) (Vl _) ?_) hf I1.sr rd)
   exact⟨by rw[<- rd.length];exact Yq hz,us,0,rv,Vm _ rfl⟩
  ·exact aB0 rfl nb
def Op2(X:Cx)(m:Vb->Vb->Sem Vb)(k:D->D->Sto->R D):Prop :=
 ∀(pa:List (Addr×Obj)) (s:Vc) (σ:L2.St) (H:Hp) (ρ:List Addr) (S:Sto) (env:En) (x y:D) (v u:V) (v' u':Vb) (E:Vb->Vc->Prop),S0 X pa σ H s ρ S env->k x y S≠.bad ->
  RD X.K ρ H x v->RelV v v'->RD X.K ρ H y u->RelV u u'->Vf (Vk X.prog X.w) X.A (m v' u') (OkP X pa σ ρ H (k x y S)) E s
theorem two(ho:Op2 X m k)(ha:DE X a fa)(hb:DE X b fb)(I:S0 X pa σ H s ρ S env)
  (nb:(fa env S).bind (fun x S=>(fb env S).bind fun y S=>k x y S)≠.bad) :
  Vf (Vk X.prog X.w) X.A (eval a X.env) (fun v s₁=>Vf (Vk X.prog X.w) X.A (eval b X.env) (fun u s₂=>Vf (Vk X.prog X.w) X.A (m v u)
   (OkP X pa σ ρ H ((fa env S).bind fun x S=>(fb env S).bind fun y S=>k x y S)) (ExP X pa σ ρ H ((fa env S).bind fun x S=>(fb env S).bind fun y S=>k x y S)) s₂)
   (ExP X pa σ ρ H ((fa env S).bind fun x S=>(fb env S).bind fun y S=>k x y S)) s₁) (ExP X pa σ ρ H ((fa env S).bind fun x S=>(fb env S).bind fun y S=>k x y S)) s:=by
 cases q:fa env S with
 |bad=>rw[q]at nb;exact aB0 rfl nb
 |ex n S1=>exact ha.ex I q fun x s' z=>⟨n,S1,rfl,z⟩
 |ok x S1 =>
  rw[q]at nb;simp only[Rk0]at nb ⊢;refine ha.ok I q fun v' s1 v H1 ρ1 I1 rv rd st1=>?_
  cases q2:fb env S1 with
  |bad=>rw[q2]at nb;exact aB0 rfl nb
  |ex n S2=>exact hb.ex I1 q2 fun x s' z=>.mk st1 z
  |ok y S2 =>
   rw[q2]at nb;simp only[Rk0]at nb ⊢;refine hb.ok I1 q2 fun u' s2 u H2 ρ2 I2 ru rdu st2=>?_
   exact Vn (ho pa s2 σ H2 ρ2 S2 env x y v u v' u' (fun _ _=>False) I2 nb (rd.mono st2) rv rdu ru) (fun w s3 z=>z.pre (st1.trans st2)) fun _ _ z=>z.elim
noncomputable def opB:Bo->Operator
 |.add=>.Add | .sub=>.Sub | .mul=>.Mult | .fdiv=>.FloorDiv | .mod=>.Mod | .pow=>.Pow
theorem X61(ho:Op2 X (Vck (opB op)) (Xo op))(ha:DE X a fa)(hb:DE X b fb):DE X (.BinOp a (opB op) b pos) (fun env S=>(fa env S).bind fun x S=>(fb env S).bind fun y S=>Xo op x y S) :=
 fun pa s σ H ρ S env I nb=>wpAny_BinOp (two ho ha hb I nb)
noncomputable def opC:Co->CmpOp
 |.eq=>.Eq | .ne=>.NotEq | .lt=>.Lt | .le=>.LtE | .gt=>.Gt | .ge=>.GtE | .isin=>.In | .notin=>.NotIn | .is=>.Is | .isnot=>.IsNot
theorem X62(ho:Op2 X (Vay (opC op)) (Xj op))(ha:DE X a fa)(hb:DE X b fb)(hm:behindInMarks (opC op) b=false) :
  DE X (.Compare a [opC op] [b] pos) (fun env S=>(fa env S).bind fun x S=>(fb env S).bind fun y S=>Xj op x y S) :=
 fun pa s σ H ρ S env I nb=>wpAny_Compare1 (two ho ha hb I nb) hm
theorem Xb8(h:Xj op x y S≠.bad):∃r,X9 op x y S=some r/\Xj op x y S=.ok (.bl r) S:=by
 unfold Xj at h ⊢;cases e:X9 op x y S with
 |none=>rw[e]at h;exact aB0 rfl h
 |some r=>exact⟨r,rfl,rfl⟩
theorem Xa9(h:Xf S d=some r):tst (.ok d S)=.ok r S:=by simp[tst,h]
theorem X2w(ho:Op2 X (Vay (opC op)) (Xj op))(ha:DE X a fa)(hb:DE X b fb)(hm:behindInMarks (opC op) b=false) :
  DT X (.Compare a [opC op] [b] pos) (fun env S=>tst ((fa env S).bind fun x S=>(fb env S).bind fun y S=>Xj op x y S)):=by
 intro pa s σ H ρ S env I nb;dsimp only at nb ⊢;have nb':((fa env S).bind fun x S=>(fb env S).bind fun y S=>Xj op x y S)≠.bad:=fun z=>nb (by rw[z];rfl)
 refine wpAny_isTrue_Compare1 (Vn (two ho ha hb I nb') (fun v s1 h1=>Vn h1 (fun u s2 h2=>Vn h2 (fun w s3 h3=>?_) fun x s' z=>?_) fun x s' z=>?_) fun x s' z=>?_) hm
 ·obtain⟨d,S1,e,v1,H1,ρ1,J,rv,rd,sr,st⟩:=h3
  have hb':∃r,d=.bl r:=by
   cases q:fa env S with
   |bad=>rw[q]at e;cases e
   |ex n S1=>rw[q]at e;cases e
   |ok x S1 =>
    rw[q]at e;simp only[Rk0]at e;cases q2:fb env S1 with
    |bad=>rw[q2]at e;cases e
    |ex n S1=>rw[q2]at e;cases e
    |ok y S2 =>
     rw[q2]at e;simp only[Rk0]at e;obtain⟨r,_,e2⟩:=Xb8 (op:=op) (x:=x) (y:=y) (S:=S2) (by rw[e];exact fun z=>nomatch z)
     rw[e2]at e;cases e;exact⟨r,rfl⟩
  obtain⟨r,rfl⟩:=hb';simp only[RD]at rd;subst rd;cases rv;exact Vcs ⟨S1,by rw[e];rfl,H1,ρ1,J,sr,st⟩
 all_goals (obtain⟨n,S1,e,q⟩:=z;exact⟨n,S1,by rw[e];rfl,q⟩)
theorem Xxu{Yt:List Expr}(ha:DE X a fa)(hb:DE X (.BoolOp .And (b::Yt) pos) fb):DE X (.BoolOp .And (a::b::Yt) pos)
  (fun env S=>(fa env S).bind fun x S=>match Xf S x with|some true=>fb env S|some false=>.ok x S|none=>.bad):=by
 intro pa s σ H ρ S env I nb;dsimp only at nb ⊢;cases q:fa env S with
 |bad=>rw[q]at nb;exact aB0 rfl nb
 |ex n S1=>exact BoolOp_and (ha.ex I q fun x s' z=>⟨n,S1,rfl,z⟩)
 |ok x S1 =>
  rw[q]at nb;simp only[Rk0]at nb ⊢;refine BoolOp_and (ha.ok I q fun u s1 v H1 ρ1 I1 rv rd st1=>?_)
  cases t:Xf S1 x with
  |none=>rw[t]at nb;exact aB0 rfl nb
  |some r =>
   rw[t]at nb;refine Xkn I1 t rd rv fun s2 J2=>?_
   cases r with
   |true=>exact Vn (hb pa s2 σ H1 ρ1 S1 env ⟨J2,I1.sr,I1.er⟩ nb) (fun w s3 z=>z.pre st1) fun x s' z=>z.pre st1
   |false=>exact .mk st1 J2 rv rd I1.sr
theorem X2x{Yt:List Expr}(ha:DE X a fa)(hb:DE X (.BoolOp .Or (b::Yt) pos) fb):DE X (.BoolOp .Or (a::b::Yt) pos)
  (fun env S=>(fa env S).bind fun x S=>match Xf S x with|some true=>.ok x S|some false=>fb env S|none=>.bad):=by
 intro pa s σ H ρ S env I nb;dsimp only at nb ⊢;cases q:fa env S with
 |bad=>rw[q]at nb;exact aB0 rfl nb
 |ex n S1=>exact BoolOp_or (ha.ex I q fun x s' z=>⟨n,S1,rfl,z⟩)
 |ok x S1 =>
  rw[q]at nb;simp only[Rk0]at nb ⊢;refine BoolOp_or (ha.ok I q fun u s1 v H1 ρ1 I1 rv rd st1=>?_)
  cases t:Xf S1 x with
  |none=>rw[t]at nb;exact aB0 rfl nb
  |some r =>
   rw[t]at nb;refine Xkn I1 t rd rv fun s2 J2=>?_
   cases r with
   |false=>exact Vn (hb pa s2 σ H1 ρ1 S1 env ⟨J2,I1.sr,I1.er⟩ nb) (fun w s3 z=>z.pre st1) fun x s' z=>z.pre st1
   |true=>exact .mk st1 J2 rv rd I1.sr
theorem Xxv(h:DE X a f):DE X (.BoolOp op [a] pos) f:=fun pa s σ H ρ S env I nb=>BoolOp_one (h pa s σ H ρ S env I nb)
theorem X63(ha:DT X a (fun env S=>tst (fa env S)))(hv:DE X a fa):DE X (.UnaryOp .Not a pos) (fun env S=>(fa env S).bind fun x S=>match Xf S x with|some r=>.ok (.bl (!r)) S|none=>.bad):=by
 intro pa s σ H ρ S env I nb;dsimp only at nb ⊢;cases q:fa env S with
 |bad=>rw[q]at nb;exact aB0 rfl nb
 |ex n S1=>exact UnaryOp_ (hv.ex I q fun x s' z=>⟨n,S1,rfl,z⟩)
 |ok x S1 =>
  rw[q]at nb;simp only[Rk0]at nb ⊢;refine UnaryOp_ (hv.ok I q fun u s1 v H1 ρ1 I1 rv rd st1=>?_)
  cases t:Xf S1 x with
  |none=>rw[t]at nb;exact aB0 rfl nb
  |some r=>exact not_of (Xkn I1 t rd rv fun s2 J2=>.mk (v:=.bl (!r)) st1 J2 rfl (by simp only[RD]) I1.sr)
theorem X2y(ha:DT X a (fun env S=>tst (fa env S))):DT X (.UnaryOp .Not a pos) (fun env S=>tst ((fa env S).bind fun x S=>match Xf S x with|some r=>.ok (.bl (!r)) S|none=>.bad)):=by
 intro pa s σ H ρ S env I nb;dsimp only at nb ⊢;cases q:fa env S with
 |bad=>rw[q]at nb;exact aB0 rfl nb
 |ex n S1=>exact isTrue_not (ha.ex I (by simp only[q];rfl) fun x s' z=>⟨n,S1,rfl,z⟩)
 |ok x S1 =>
  rw[q]at nb;simp only[Rk0]at nb ⊢;cases t:Xf S1 x with
  |none=>rw[t]at nb;exact aB0 rfl nb
  |some r=>exact isTrue_not (ha.ok I (by simp only[q];exact Xa9 t) fun s2 H2 ρ2 I2 st2=>⟨S1,rfl,H2,ρ2,I2.inv,I2.sr,st2⟩)
theorem X64(hc:DT X c (fun env S=>tst (fc env S)))(ha:DE X a fa)(hb:DE X b fb) :
  DE X (.IfExp c a b pos) (fun env S=>(fc env S).bind fun x S=>match Xf S x with|some true=>fa env S|some false=>fb env S|none=>.bad):=by
 intro pa s σ H ρ S env I nb;dsimp only at nb ⊢;cases q:fc env S with
 |bad=>rw[q]at nb;exact aB0 rfl nb
 |ex n S1=>exact wpAny_IfExp (hc.ex I (by simp only[q];rfl) fun x s' z=>⟨n,S1,rfl,z⟩)
 |ok x S1 =>
  rw[q]at nb;simp only[Rk0]at nb ⊢;cases t:Xf S1 x with
  |none=>rw[t]at nb;exact aB0 rfl nb
  |some r =>
   rw[t]at nb;refine wpAny_IfExp (hc.ok I (by simp only[q];exact Xa9 t) fun s2 H2 ρ2 I2 st2=>?_)
   cases r with
   |true=>exact Vn (ha pa s2 σ H2 ρ2 S1 env I2 nb) (fun w s3 z=>z.pre st2) fun x s' z=>z.pre st2
   |false=>exact Vn (hb pa s2 σ H2 ρ2 S1 env I2 nb) (fun w s3 z=>z.pre st2) fun x s' z=>z.pre st2
def DW(X:Cx)(e:Expr)(f:En->Sto->R Bool):Prop :=
 ∀(whole:Sem Vb) (pa:List (Addr×Obj)) (s:Vc) (σ:L2.St) (H:Hp) (ρ:List Addr) (S:Sto) (env:En),S0 X pa σ H s ρ S env->f env S≠.bad ->
  Vf (Vk X.prog X.w) X.A (isTrue e X.env whole) (fun b s'=>∃S',f env S=.ok b S'/\∃H' ρ',Inv X pa σ H' s'/\SR X.K ρ' S' H'/\Stp X.K ρ ρ' H H') (ExP X pa σ ρ H (f env S)) s
theorem DW.dt(h:DW X e g):DT X e g:=h _
theorem Xy1(ha:DT X a g):DW X (.BoolOp .And [a] pos) g:=by
 intro wh pa s σ H ρ S env I nb;refine isTrue_and (Vn (ha pa s σ H ρ S env I nb) (fun c s1 z=>?_) fun _ _ z=>z)
 cases c with
 |true=>exact isTrue_and_nil z
 |false=>exact z
theorem X2z(ha:DT X a g):DW X (.BoolOp .Or [a] pos) g:=by
 intro wh pa s σ H ρ S env I nb;refine isTrue_or (Vn (ha pa s σ H ρ S env I nb) (fun c s1 z=>?_) fun _ _ z=>z)
 cases c with
 |false=>exact isTrue_or_nil z
 |true=>exact z
theorem Xr6{Yt:List Expr}(ha:DT X a (fun env S=>tst (fa env S)))(hb:DW X (.BoolOp .And (b::Yt) pos) (fun env S=>tst (fb env S))):DW X (.BoolOp .And (a::b::Yt) pos)
  (fun env S=>tst ((fa env S).bind fun x S=>match Xf S x with|some true=>fb env S|some false=>.ok x S|none=>.bad)):=by
 intro wh pa s σ H ρ S env I nb;dsimp only at nb ⊢;cases q:fa env S with
 |bad=>rw[q]at nb;exact aB0 rfl nb
 |ex n S1=>exact isTrue_and (ha.ex I (by simp only[q];rfl) fun x s' z=>⟨n,S1,rfl,z⟩)
 |ok x S1 =>
  rw[q]at nb;simp only[Rk0]at nb ⊢;cases t:Xf S1 x with
  |none=>rw[t]at nb;exact aB0 rfl nb
  |some r =>
   rw[t]at nb;refine isTrue_and (ha.ok I (by simp only[q];exact Xa9 t) fun s2 H2 ρ2 I2 st2=>?_)
   cases r with
   |true=>exact Vn (hb wh pa s2 σ H2 ρ2 S1 env I2 nb) (fun w s3 ⟨S3,e3,H3,ρ3,J3,sr3,st3⟩=>⟨S3,e3,H3,ρ3,J3,sr3,st2.trans st3⟩) fun x s' z=>z.pre st2
   |false=>exact⟨S1,Xa9 t,H2,ρ2,I2.inv,I2.sr,st2⟩
theorem Xxw{Yt:List Expr}(ha:DT X a (fun env S=>tst (fa env S)))(hb:DW X (.BoolOp .Or (b::Yt) pos) (fun env S=>tst (fb env S))):DW X (.BoolOp .Or (a::b::Yt) pos)
  (fun env S=>tst ((fa env S).bind fun x S=>match Xf S x with|some true=>.ok x S|some false=>fb env S|none=>.bad)):=by
 intro wh pa s σ H ρ S env I nb;dsimp only at nb ⊢;cases q:fa env S with
 |bad=>rw[q]at nb;exact aB0 rfl nb
 |ex n S1=>exact isTrue_or (ha.ex I (by simp only[q];rfl) fun x s' z=>⟨n,S1,rfl,z⟩)
 |ok x S1 =>
  rw[q]at nb;simp only[Rk0]at nb ⊢;cases t:Xf S1 x with
  |none=>rw[t]at nb;exact aB0 rfl nb
  |some r =>
   rw[t]at nb;refine isTrue_or (ha.ok I (by simp only[q];exact Xa9 t) fun s2 H2 ρ2 I2 st2=>?_)
   cases r with
   |false=>exact Vn (hb wh pa s2 σ H2 ρ2 S1 env I2 nb) (fun w s3 ⟨S3,e3,H3,ρ3,J3,sr3,st3⟩=>⟨S3,e3,H3,ρ3,J3,sr3,st2.trans st3⟩) fun x s' z=>z.pre st2
   |true=>exact⟨S1,Xa9 t,H2,ρ2,I2.inv,I2.sr,st2⟩
end
end Z
end
section
namespace Z
open PySem PySem.Spec PyProof.Rows L2 PySem.SeqAt
open AutoSeq1 (wpAny_loadPart')
theorem X9a:fillsNumberSlot (.type "tuple") "mul" = pure false :=
 PySem.fillsNumberSlot_seq (r:=some (.builtin "tuple.__rmul__")) PySem.F.slot_tuple_mul.lookup (by decide+kernel) (by rw[Vgd,Vec];kernel_rfl) (by decide+kernel)
theorem X9b:seqRepeat? (.type "tuple")=pure (some (.builtin "tuple.__mul__")):=by
 unfold seqRepeat?;rw[PySem.seqSlot_of (T := "tuple") (name := "__mul__") (id := "tuple.__mul__") PySem.F.slot_tuple_mul.lookup (by decide+kernel),PySem.seqSlot_of (T := "tuple") (name := "__rmul__") (id := "tuple.__rmul__") (by rw[Vgd,Vec];kernel_rfl) (by decide+kernel)]
 rfl
noncomputable abbrev Xpz(items:Array Vb)(n:Nat)(dd:Option Addr)(sl:Array (Option Vb)):Obj:={cls:=.type "tuple",dict:=dd,data:=.seq items n,slots:=sl}
theorem Xr7(a:Int)(t:Tok)(l:Addr)(items:Array Vb)(n:Nat)(dd:Option Addr)(sl:Array (Option Vb)) :
  Meets (Va2.«int.__rmul__» ⟨[.int a t,.ref l],[]⟩) (fun _ R s=>s.heap.get? l=some (Xpz items n dd sl)/\R (.ok (.ret Value.notImplemented)) s) :=
 .of_wp fun prog w A R s ⟨hl,h⟩=>by
  obtain⟨hp,g,d,tk,os⟩:=s
  wp_walk
  exact⟨_,rfl,h⟩
section
variable(l:Addr)(items:Array Vb)(n:Nat)(dd:Option Addr)(sl:Array (Option Vb))(k:Int)(u:Tok)
theorem X65 :
  Meets (Va2.«tuple.__mul__» ⟨[.ref l,.int 1 u],[]⟩) (fun _ R s=>s.heap.get? l=some (Xpz items n dd sl)/\R (.ok (.ret (.ref l))) s) :=
 .of_wp fun prog w A R s ⟨hl,h⟩=>by
  obtain⟨hp,g,d,tk,os⟩:=s;have f1:=AutoSeq1.idx_int;have f2:=Ve6
  wp_walk using Vdz hl
  exact⟨_,rfl,h⟩
theorem X66(h0:¬ (decide (k < -2^63)||decide (k ≥ 2^63))=true)(h1:¬ (items.isEmpty||k==1)=true)(h2:(decide (k<=0)||items.isEmpty)=true) :
  Meets (Va2.«tuple.__mul__» ⟨[.ref l,.int k u],[]⟩) (fun _ R s=>s.heap.get? l=some (Xpz items n dd sl)/\R (.ok (.ret (.ref s.heap.objs.size))) {s with heap:=s.heap.push {cls:=.type "tuple",data:=.seq #[]} }) :=
 .of_wp fun prog w A R s ⟨hl,h⟩=>by
  obtain⟨hp,g,d,tk,os⟩:=s;have f1:=AutoSeq1.idx_int;have f2:=Ve6
  wp_walk using Vdz hl
  refine wpAny_ite_false (decide_eq_false h0) ?_
  wp_walk using Vdz hl
  exact⟨_,rfl,h⟩
theorem X67(h0:¬ (decide (k < -2^63)||decide (k ≥ 2^63))=true)(h1:¬ (items.isEmpty||k==1)=true)(h2:¬ (decide (k<=0)||items.isEmpty)=true)(h3:¬ (items.size:Int)*k>(2^63-1)/8)
  (h4:¬ Vhb (items.size*k)=true) (h5:(Vei (fun x1 x2=>x1++x2) #[] (Vh k.toNat items)).size<=Vw) :
  Meets (Va2.«tuple.__mul__» ⟨[.ref l,.int k u],[]⟩) (fun _ R s=>s.heap.get? l=some (Xpz items n dd sl)/\R (.ok (.ret (.ref s.heap.objs.size))) {s with heap:=s.heap.push {cls:=.type "tuple",data:=.seq (Vei (fun x1 x2=>x1++x2) #[] (Vh k.toNat items))} }) :=
 .of_wp fun prog w A R s ⟨hl,h⟩=>by
  obtain⟨hp,g,d,tk,os⟩:=s;have f1:=AutoSeq1.idx_int;have f2:=Ve6
  wp_walk using Vdz hl
  refine wpAny_ite_false (decide_eq_false h0) ?_
  wp_walk using Vdz hl
  refine wpAny_ite_false (decide_eq_false h3) ?_
  wp_walk using Vdz hl
  exact⟨_,rfl,h⟩
end
section
variable{X:Cx}{E:Vb->Vc->Prop}{s:Vc}
theorem Xjt(its:List Vb):∀(m:Nat) (acc:List Vb),Vei (fun x1 x2=>x1++x2) acc.toArray (Vh m its.toArray)=(acc++(Vh m its).flatten).toArray
 |0,acc=>by simp
 |m+1,acc=>by
  rw[U3,Vdx,List.append_toArray,Xjt its m];simp[U3]
theorem Xy2(ht:IsTup s.heap t vs.toArray)(hv:vs≠[])(hk:-(1048576)<k)(hk':k<1048576)(hz:vs.length*k.toNat<=1000000)
  (h1:k=1->Q (.ref t) s) (h2:k≠1->Q (.ref s.heap.objs.size) {s with heap:=s.heap.push {cls:=.type "tuple",data:=.seq (Vh k.toNat vs).flatten.toArray} }) :
  Vf (Vk prog w) A (Vck .Mult (.ref t) (.int k u)) Q E s:=by
 obtain⟨⟨cls,dd,data,sl⟩,ho,hc,n,hd⟩:=id ht;simp only at hc hd;subst hc hd;have ez:(vs.toArray.isEmpty)=false:=by cases vs with|nil=>exact aB0 rfl hv|cons _ _=>rfl
 have h0:¬ (decide (k < -2^63)||decide (k ≥ 2^63))=true:=by simp;omega
 have go:∀ {S:PySem.Spec},Meets (Va2.«tuple.__mul__» ⟨[.ref t,.int k u],[]⟩) S->S A (wants Q E) s->Vf (Vk prog w) A (Vck .Mult (.ref t) (.int k u)) Q E s:=fun g hS =>
  Vhk (T := "tuple") (U := "int") (by decide) ⟨_,ho,rfl⟩ (fun s'=>typeIs_int s' k u) X9a PySem.F.fills_int_mul PySem.F.slot_int_rmul X9b PySem.F.slot_int_index.lookup
   (Vej PySem.F.slot_int_rmul (typeIs_int s k u) PySem.F.entry_int_rmul (PySem.F.args_int_rmul_2 _ _) (Xr7 k u t vs.toArray n dd sl)
    ⟨ho,rfl,⟨_,ho,rfl⟩,Vej PySem.F.slot_tuple_mul ⟨_,ho,rfl⟩ PySem.F.entry_tuple_mul (PySem.F.args_tuple_mul_2 _ _) g hS⟩)
 by_cases e1:k=1
 ·subst e1
  exact go (X65 t vs.toArray n dd sl u) ⟨ho,h1 rfl⟩
 ·have hn1:¬ (vs.toArray.isEmpty||k==1)=true:=by rw[ez];simpa using e1
  by_cases e0:k<=0
  ·refine go (X66 t vs.toArray n dd sl k u h0 hn1 (by simp[e0])) ⟨ho,?_⟩
   have:=h2 e1;have e2:k.toNat=0:=by omega
   rw[e2]at this;exact this
  ·have ef:=Xjt vs k.toNat []
   rw[Vbi]at ef;have hl:(Vh k.toNat vs).flatten.length=k.toNat*vs.length:=Xhs vs k.toNat;have hz':vs.length*k.toNat<=Vw:=U4 hz (by decide)
   have hzi:(vs.length:Int)*k<=1000000:=by
    have hkk:(k.toNat:Int)=k:=by omega
    rw[<- hkk,<- Int.natCast_mul];exact Int.ofNat_le.mpr hz
   refine go (X67 t vs.toArray n dd sl k u h0 hn1 (by rw[ez];simpa using e0) ?_ ?_ ?_) ⟨ho,?_⟩
   ·rw[Vp];omega
   ·rw[Vp]
    unfold Vhb;have:(1000000:Int)<=(Vw:Int):=by decide
    intro hh;have hh:=oD0 hh;omega
   ·rw[show(#[]:Array Vb)=([]:List Vb).toArray from rfl,ef,Vp,hl,Nat.mul_comm];exact hz'
   ·rw[show(#[]:Array Vb)=([]:List Vb).toArray from rfl,ef];exact h2 e1
end
end Z
end
section
namespace Z
open PySem PySem.Spec PyProof.Rows L2
section
variable{X:Cx}{pa:List (Addr×Obj)}{σ:L2.St}{H:Hp}{s:Vc}{ρ:List Addr}{S S':Sto}{env:En}{Q:Vb->Vc->Prop}{E:Vb->Vc->Prop}
mutual
theorem Xoi(I:S0 X pa σ H s ρ S env)(hl:∀n p a,look n=some p->ρ[n]?=some a->∃as,Reads s.heap (.ref a) p as/\∀b∈as,b∈ρ) :
  ∀(d:D) (v:V) (u:Vb) (p:Vbj),Xw look d=some p->RD X.K ρ H d v->RelV v u->∃as,Reads s.heap u p as/\∀b∈as,b∈ρ
 |.non,v,u,p,h,rd,rv=>by
  simp only[Xw,Vr]at h;simp only[RD]at rd;subst h rd;cases rv;exact⟨_,.none,fun _ z=>nomatch z⟩
 |.bl b,v,u,p,h,rd,rv=>by
  simp only[Xw,Vr]at h;simp only[RD]at rd;subst h rd;cases rv;exact⟨_,.bool b,fun _ z=>nomatch z⟩
 |.int i,v,u,p,h,rd,rv=>by
  simp only[Xw,Vr]at h;simp only[RD]at rd;subst h rd;obtain⟨t,rfl⟩:=rv;exact⟨_,.int i t,fun _ z=>nomatch z⟩
 |.str i,v,u,p,h,rd,rv=>by
  simp only[Xw,Vr]at h;simp only[RD]at rd;subst h rd;obtain⟨t,rfl⟩:=rv;exact⟨_,.str i t,fun _ z=>nomatch z⟩
 |.fro _,v,u,p,h,rd,rv=>by simp only[Xw]at h;cases h
 |.tup xs,v,u,p,h,rd,rv=>by
  simp only[Xw]at h;cases e:datFs look xs with
  |none=>rw[e]at h;cases h
  |some ps =>
   rw[e]at h;cases h;simp only[RD]at rd;obtain⟨a,vs,rfl,ht,hs⟩:=rd;cases rv;obtain⟨its,r,⟨o,ho,hc,n,hd⟩,hz⟩:=I.inv.tuple ht;obtain⟨as,q,qm⟩:=reads_Fs I hl xs vs its ps e hs r;exact⟨_,.tuple ho hc hd (by simpa using q),qm⟩
 |.ref n,v,u,p,h,rd,rv=>by
  simp only[Xw]at h;simp only[RD]at rd;obtain⟨a,rfl,ha⟩:=rd;cases rv;exact hl n p a h ha
theorem reads_Fs(I:S0 X pa σ H s ρ S env)(hl:∀n p a,look n=some p->ρ[n]?=some a->∃as,Reads s.heap (.ref a) p as/\∀b∈as,b∈ρ) :
  ∀(ds:List D) (vs:List V) (us:List Vb) (ps:List Vbj),datFs look ds=some ps->RDs X.K ρ H ds vs->Vals vs us->∃as,ReadsAll s.heap us ps as/\∀b∈as,b∈ρ
 |[],vs,us,ps,h,rd,rv=>by
  simp only[datFs,Vr]at h;simp only[RDs]at rd;subst h rd;cases rv;exact⟨_,.nil,fun _ z=>nomatch z⟩
 |d::ds,vs,us,ps,h,rd,rv=>by
  simp only[datFs]at h;simp only[RDs]at rd;obtain⟨v,r,rfl,h1,h2⟩:=rd;cases e1:Xw look d with
  |none=>rw[e1]at h;cases h
  |some p =>
   cases e2:datFs look ds with
   |none=>rw[e1,e2]at h;cases h
   |some ps' =>
    rw[e1,e2]at h;cases h;cases rv with
    |cons ru rus =>
     obtain⟨as,q,qm⟩:=Xoi I hl d v _ p e1 h1 ru;obtain⟨bs,q2,qm2⟩:=reads_Fs I hl ds r _ ps' e2 h2 rus;exact⟨_,.cons q q2,fun b hb=>(Vbh.mp hb).elim (qm b) (qm2 b)⟩
end
theorem Xoj(I:S0 X pa σ H s ρ S env):∀(k n:Nat) (p:Vbj) (a:Addr),Yg S k n=some p->ρ[n]?=some a->∃as,Reads s.heap (.ref a) p as/\∀b∈as,b∈ρ
 |0,n,p,a,h,ha=>by simp only[Yg]at h;cases h
 |k+1,n,p,a,h,ha=>by
  simp only[Yg]at h;cases e:S[n]? with
  |none=>rw[e]at h;cases h
  |some o =>
   rw[e]at h;have q:=I.sr.ob n a o ha e;cases o with
   |lst xs =>
    dsimp only at h;cases e2:datFs (Yg S k) xs with
    |none=>rw[e2]at h;cases h
    |some ps =>
     rw[e2]at h;cases h;obtain⟨vs,hv,hr⟩:=q;obtain⟨_,its,n',r,ho⟩:=I.inv.hok a _ hv;obtain⟨as,z,zm⟩:=reads_Fs I (Xoj I k) xs vs its ps e2 hr r;exact⟨_,.list ho rfl rfl (by simpa using z),fun b hb=>(Vv.mp hb).elim (fun q=>q▸Ur ha) (zm b)⟩
   |dct kvs =>
    rcases q with⟨rfl,hv⟩|⟨h0,_⟩
    case inr =>
     cases kvs with
     |nil=>exact aB0 rfl h0
     |cons _ _=>cases h
    cases h;obtain⟨_,_,vs,r,ob,es,ep,ho,hx,hd,hh⟩:=I.inv.hok a _ hv;cases r;have hes:es.toList=[]:=by
     have z:=hh.2.1;cases q:es.toList with
     |nil=>rfl
     |cons x r=>rw[q]at z;cases z
    refine⟨_,.dict (kvs:=[]) (as:=[]) (bs:=[]) ho hx.1 hd ?_ ?_,fun b hb=>(Vv.mp hb).elim (fun q=>q▸Ur ha) (fun z=>nomatch z)⟩
    ·rw[hes];exact .nil
    ·rw[hes];exact .nil
   |fdc _=>cases h
   |exc _=>cases h
theorem Xlf(I:S0 X pa σ H s ρ S env)(h:X8 S d=some p)(rd:RD X.K ρ H d v)(rv:RelV v u):∃as,Reads s.heap u p as/\∀b∈as,b∈ρ :=
 Xoi I (Xoj I 4) d v u p h rd rv
theorem Xad(I:S0 X pa σ H s ρ S env)(h:X8 S d=some p)(rd:RD X.K ρ H d v)(rv:RelV v u):∃as,Reads s.heap u p as :=
 let ⟨as,r,_⟩:=Xlf I h rd rv
 ⟨as,r⟩
theorem Xr8(I:S0 X pa σ H s ρ S env)(hsm:∃o,X.K.lookup Vb1=some o)(h:X8 S d=some p)(rd:RD X.K ρ H d v)(rv:RelV v u):∃as,Reads s.heap u p as/\Vb1 ∉ as:=by
 obtain⟨as,r,hm⟩:=Xlf I h rd rv;refine⟨as,r,fun hb=>?_⟩
 obtain⟨o,ho⟩:=hsm;obtain⟨w,hw,_⟩:=I.sr.mem (hm _ hb);have:=(I.inv.bs _ _ (I.inv.mod.kin _ _ ho)).2;rw[hw]at this;cases this
theorem Xi(sr:SR X.K ρ S H)(J:Inv X pa σ H s'):OkP X pa σ ρ H (.ok (.bl r) S) (.bool r) s':=.mk (v:=.bl r) .refl J rfl (by simp only[RD]) sr
theorem Y5(sr:SR X.K ρ S H)(J:Inv X pa σ H s'):OkP X pa σ ρ H (.ok (.int i) S) (.int i t) s':=.mk (v:=.int i) .refl J ⟨t,rfl⟩ (by simp only[RD]) sr
theorem Xe0(sr:SR X.K ρ S H)(J:Inv X pa σ H s'):OkP X pa σ ρ H (.ok (.str x) S) (.str x t) s':=.mk (v:=.str x) .refl J ⟨t,rfl⟩ (by simp only[RD]) sr
theorem Xut(h:(a&&b&&c)=true):a=true/\b=true/\c=true:=by
 rw[bA0,bA0]at h;exact⟨h.1.1,h.1.2,h.2⟩
theorem Xju(h:Xbs x y=some r):∃a b,x=.str a/\y=.str b/\r=(a.cps.toList==b.cps.toList):=by
 cases x with
 |str a=>cases y with
  |str b=>exact⟨a,b,rfl,rfl,(Ue h).symm⟩
  |_=>cases h
 |_=>cases h
theorem Xr9(h:Xed S x y=some r):∃a b xs ys,x=.ref a/\y=.ref b/\Xc S a=some xs/\Xc S b=some ys/\xs.length≠ys.length/\r=false:=by
 cases x with
 |ref a=>cases y with
  |ref b =>
   simp only[Xed]at h;cases e1:Xc S a with
   |none=>rw[e1]at h;cases h
   |some xs =>
    cases e2:Xc S b with
    |none=>rw[e1,e2]at h;cases h
    |some ys =>
     rw[e1,e2]at h;dsimp only at h;split at h
     ·cases h
     ·cases h;exact⟨a,b,xs,ys,rfl,rfl,e1,e2,by assumption,rfl⟩
  |_=>cases h
 |_=>cases h
theorem Xlg(h0:eqD S x y=some r)(hn:Xbs x y=none):(∃p q,X8 S x=some p/\X8 S y=some q/\p.canLay0=true/\q.canLay0=true/\p.depth<=60/\r=Vav p q)\/Xed S x y=some r:=by
 have h:=h0;unfold eqD at h;rw[hn]at h;dsimp only at h;cases e1:X8 S x with
 |none=>rw[e1]at h;exact .inr h
 |some p =>
  cases e2:X8 S y with
  |none=>rw[e1,e2]at h;exact .inr h
  |some q =>
   rw[e1,e2]at h;dsimp only at h;split at h
   ·rename_i hc
    obtain⟨h1,h2,h3⟩:=Xut hc;exact .inl ⟨p,q,rfl,rfl,h1,h2,oD0 h3,(Ue h).symm⟩
   ·exact .inr h
theorem S0.lstM(I:S0 X pa σ H s ρ S env)(h:lstM S n=some xs):∃a vs,ρ[n]?=some a/\H a=some (.lst vs)/\RDs X.K ρ H xs vs:=I.list h
theorem S0.lstR(I:S0 X pa σ H s ρ S env)(h:Z.lstM S n=some xs)(r:RD X.K ρ H (.ref n) v):∃a vs,v=.ref a/\ρ[n]?=some a/\H a=some (.lst vs)/\RDs X.K ρ H xs vs:=by
 simp only[RD]at r;obtain⟨a,e,h1⟩:=r;obtain⟨a',vs,h2,h3,h4⟩:=I.lstM h;rw[h1]at h2;cases h2;exact⟨a,vs,e,h1,h3,h4⟩
theorem Xlh(I:S0 X pa σ H s ρ S env)(h:Xed S x y=some r)(rx:RD X.K ρ H x v)(rv:RelV v u)(ry:RD X.K ρ H y v')(ru:RelV v' u') :
  r=false/\∃a b its its',u=.ref a/\u'=.ref b/\s.heap.IsList a its/\s.heap.IsList b its'/\(its.size != its'.size)=true:=by
 obtain⟨n,m,xs,ys,rfl,rfl,h1,h2,hne,rfl⟩:=Xr9 h;obtain⟨a,vs,rfl,ha,hva,ra⟩:=I.lstR h1 rx;obtain⟨b,us,rfl,hb,hvb,rb⟩:=I.lstR h2 ry;cases rv;cases ru;obtain⟨_,i1,n1,q1,o1⟩:=I.inv.hok a _ hva;obtain⟨_,i2,n2,q2,o2⟩:=I.inv.hok b _ hvb;refine⟨rfl,a,b,i1.toArray,i2.toArray,rfl,rfl,⟨_,o1,rfl,_,rfl⟩,⟨_,o2,rfl,_,rfl⟩,?_⟩;have e1:i1.length=xs.length:=by rw[ra.length];exact q1.length.symm
 have e2:i2.length=ys.length:=by rw[rb.length];exact q2.length.symm
 simp only[Vp,bne_iff_ne,ne_eq];omega
theorem X9c(hu:X.A.units+200<cLine):Op2 X (Vay .Eq) (Xj .eq):=by
 intro pa s σ H ρ S env x y v u v' u' E I nb rx rv ry ru;obtain⟨r,e,e2⟩:=Xb8 nb;rw[e2];cases hn:Xbs x y with
 |some r' =>
  obtain⟨a,b,rfl,rfl,hr⟩:=Xju hn;have er:r=r':=by
   have e':eqD S (.str a) (.str b)=some r:=e;unfold eqD at e';rw[hn]at e';exact(Ue e').symm
  subst er hr;simp only[RD]at rx ry;subst rx ry;obtain⟨t,rfl⟩:=rv;obtain⟨t',rfl⟩:=ru;exact PySem.P.eq_str (Xi I.sr I.inv)
 |none =>
 rcases Xlg e hn with⟨p,q,h1,h2,h3,h4,h5,rfl⟩|hl
 rotate_left
 ·obtain⟨rfl,a,b,i1,i2,rfl,rfl,l1,l2,l3⟩:=Xlh I hl rx rv ry ru
  exact SeqAt.RcAt.lists_lengths l1 l2 l3 (by omega) X.prog X.w E _ (Xi I.sr I.inv)
 obtain⟨as,ra⟩:=Xad I h1 rx rv;obtain⟨bs,rb⟩:=Xad I h2 ry ru;exact SeqAt.rcAt_reads ra rb h3 h4 (by omega) X.prog X.w E _ (Xi I.sr I.inv)
theorem X9d(hu:X.A.units+200<cLine):Op2 X (Vay .NotEq) (Xj .ne):=by
 intro pa s σ H ρ S env x y v u v' u' E I nb rx rv ry ru;obtain⟨r,e,e2⟩:=Xb8 nb;rw[e2];simp only[X9,Ui]at e;obtain⟨r',e,rfl⟩:=e;cases hn:Xbs x y with
 |some r2 =>
  obtain⟨a,b,rfl,rfl,hr⟩:=Xju hn;have er:r'=r2:=by
   have e':eqD S (.str a) (.str b)=some r':=e;unfold eqD at e';rw[hn]at e';exact(Ue e').symm
  subst er hr;simp only[RD]at rx ry;subst rx ry;obtain⟨t,rfl⟩:=rv;obtain⟨t',rfl⟩:=ru;exact PySem.P.ne_str (Xi I.sr I.inv)
 |none =>
 rcases Xlg e hn with⟨p,q,h1,h2,h3,h4,h5,rfl⟩|hl
 rotate_left
 ·obtain⟨rfl,a,b,i1,i2,rfl,rfl,l1,l2,l3⟩:=Xlh I hl rx rv ry ru
  exact SeqAt.RcNeAt.lists_lengths l1 l2 l3 (by omega) X.prog X.w E _ (Xi I.sr I.inv)
 obtain⟨as,ra⟩:=Xad I h1 rx rv;obtain⟨bs,rb⟩:=Xad I h2 ry ru;exact SeqAt.rcNeAt_reads ra rb h3 h4 (by omega) X.prog X.w E _ (Xi I.sr I.inv)
theorem Xli(h:inD S x y=some r):∃p qs,X8 S x=some p/\(X8 S y=some (.list qs)\/X8 S y=some (.tuple qs))/\p.canLay0=true/\Vbu qs=true/\p.depth<=60/\r=qs.any fun q=>Vav q p:=by
 unfold inD at h;cases e1:X8 S x with
 |none=>rw[e1]at h;cases h
 |some p =>
  cases e2:X8 S y with
  |none=>rw[e1,e2]at h;cases h
  |some q =>
   rw[e1,e2]at h;cases q with
   |list qs =>
    dsimp only at h;split at h
    ·rename_i hc
     obtain⟨h1,h2,h3⟩:=Xut hc;exact⟨p,qs,rfl,.inl rfl,h1,h2,oD0 h3,(Ue h).symm⟩
    ·cases h
   |tuple qs =>
    dsimp only at h;split at h
    ·rename_i hc
     obtain⟨h1,h2,h3⟩:=Xut hc;exact⟨p,qs,rfl,.inr rfl,h1,h2,oD0 h3,(Ue h).symm⟩
    ·cases h
   |none=>cases h
   |bool _=>cases h
   |int _=>cases h
   |str _=>cases h
   |dict _=>cases h
theorem X9e(hu:X.A.units+200<cLine):Op2 X (Vay .In) (Xj .isin):=by
 intro pa s σ H ρ S env x y v u v' u' E I nb rx rv ry ru;obtain⟨r,e,e2⟩:=Xb8 nb;rw[e2];obtain⟨p,qs,h1,h2,h3,h4,h5,rfl⟩:=Xli e;obtain⟨as,ra⟩:=Xad I h1 rx rv;rcases h2 with h2|h2
 ·obtain⟨bs,rb⟩:=Xad I h2 ry ru
  exact SeqAt.in_list_reads rb ra h4 h3 (by omega) (Xi I.sr I.inv)
 ·obtain⟨bs,rb⟩:=Xad I h2 ry ru
  exact SeqAt.in_tuple_reads rb ra h4 h3 (by omega) (Xi I.sr I.inv)
theorem Xy3(hu:X.A.units+200<cLine):Op2 X (Vay .NotIn) (Xj .notin):=by
 intro pa s σ H ρ S env x y v u v' u' E I nb rx rv ry ru;obtain⟨r,e,e2⟩:=Xb8 nb;rw[e2];simp only[X9,Ui]at e;obtain⟨r',e,rfl⟩:=e;obtain⟨p,qs,h1,h2,h3,h4,h5,rfl⟩:=Xli e;obtain⟨as,ra⟩:=Xad I h1 rx rv;rcases h2 with h2|h2
 ·obtain⟨bs,rb⟩:=Xad I h2 ry ru
  exact SeqAt.notIn_list_reads rb ra h4 h3 (by omega) (Xi I.sr I.inv)
 ·obtain⟨bs,rb⟩:=Xad I h2 ry ru
  exact SeqAt.notIn_tuple_reads rb ra h4 h3 (by omega) (Xi I.sr I.inv)
theorem X9f:Op2 X (Vay .LtE) (Xj .le):=by
 intro pa s σ H ρ S env x y v u v' u' E I nb rx rv ry ru;cases x with
 |int i=>cases y with
  |int j =>
   simp only[RD]at rx ry;subst rx ry;obtain⟨t,rfl⟩:=rv;obtain⟨t',rfl⟩:=ru;exact le_int (Xi I.sr I.inv)
  |_=>exact aB0 rfl nb
 |_=>cases y<;>exact aB0 rfl nb
theorem X9g:Op2 X (Vay .Gt) (Xj .gt):=by
 intro pa s σ H ρ S env x y v u v' u' E I nb rx rv ry ru;cases x with
 |int i=>cases y with
  |int j =>
   simp only[RD]at rx ry;subst rx ry;obtain⟨t,rfl⟩:=rv;obtain⟨t',rfl⟩:=ru;exact gt_int (Xi I.sr I.inv)
  |_=>exact aB0 rfl nb
 |_=>cases y<;>exact aB0 rfl nb
theorem X9h:Op2 X (Vay .GtE) (Xj .ge):=by
 intro pa s σ H ρ S env x y v u v' u' E I nb rx rv ry ru;cases x with
 |int i=>cases y with
  |int j =>
   simp only[RD]at rx ry;subst rx ry;obtain⟨t,rfl⟩:=rv;obtain⟨t',rfl⟩:=ru;exact ge_int (Xi I.sr I.inv)
  |_=>exact aB0 rfl nb
 |_=>cases y<;>exact aB0 rfl nb
theorem Y6:∀ {xs:List D} {ns:List Int},Xl xs=some ns->xs=ns.map D.int
 |[],ns,h=>by simp only[Xl,Vr]at h;subst h;rfl
 |.int i::r,ns,h=>by
  simp only[Xl,Ui]at h;obtain⟨ms,h1,rfl⟩:=h;rw[Y6 h1];rfl
 |.non::_,_,h=>by simp[Xl]at h
 |.bl _::_,_,h=>by simp[Xl]at h
 |.str _::_,_,h=>by simp[Xl]at h
 |.tup _::_,_,h=>by simp[Xl]at h
 |.ref _::_,_,h=>by simp[Xl]at h
 |.fro _::_,_,h=>by simp[Xl]at h
theorem X9i(hu:X.A.units+200<cLine):Op2 X (Vay .Lt) (Xj .lt):=by
 intro pa s σ H ρ S env x y v u v' u' E I nb rx rv ry ru;cases x with
 |int i=>cases y with
  |int j =>
   simp only[RD]at rx ry;subst rx ry;obtain⟨t,rfl⟩:=rv;obtain⟨t',rfl⟩:=ru;exact lt_int (Xi I.sr I.inv)
  |_=>exact aB0 rfl nb
 |_=>cases y<;>exact aB0 rfl nb
theorem X9j:Op2 X (Vay .Is) (Xj .is):=by
 intro pa s σ H ρ S env x y v u v' u' E I nb rx rv ry ru;cases y with
 |non =>
  simp only[RD]at ry;subst ry;cases ru;cases x with
  |non=>simp only[RD]at rx;subst rx;cases rv;exact Van rfl (Xi I.sr I.inv)
  |bl b=>simp only[RD]at rx;subst rx;cases rv;exact Van rfl (Xi I.sr I.inv)
  |int b=>simp only[RD]at rx;subst rx;obtain⟨t,rfl⟩:=rv;exact Van rfl (Xi I.sr I.inv)
  |str b=>simp only[RD]at rx;subst rx;obtain⟨t,rfl⟩:=rv;exact Van rfl (Xi I.sr I.inv)
  |tup b=>simp only[RD]at rx;obtain⟨a,_,rfl,_⟩:=rx;cases rv;exact Van rfl (Xi I.sr I.inv)
  |fro b=>simp only[RD]at rx;obtain⟨a,_,rfl,_⟩:=rx;cases rv;exact Van rfl (Xi I.sr I.inv)
  |ref b=>simp only[RD]at rx;obtain⟨a,rfl,_⟩:=rx;cases rv;exact Van rfl (Xi I.sr I.inv)
  |fn _ _=>simp only[RD]at rx;obtain⟨a,rfl,_⟩:=rx;cases rv;exact Van rfl (Xi I.sr I.inv)
 |bl c =>
  simp only[RD]at ry;subst ry;cases ru;cases x with
  |non=>simp only[RD]at rx;subst rx;cases rv;exact Van rfl (Xi I.sr I.inv)
  |bl b =>
   simp only[RD]at rx;subst rx;cases rv;refine is_bool ?_;have e:(b==c)=(c==b):=by cases b<;>cases c<;>rfl
   rw[e];exact Xi I.sr I.inv
  |int b=>simp only[RD]at rx;subst rx;obtain⟨t,rfl⟩:=rv;exact Van rfl (Xi I.sr I.inv)
  |str b=>simp only[RD]at rx;subst rx;obtain⟨t,rfl⟩:=rv;exact Van rfl (Xi I.sr I.inv)
  |tup b=>simp only[RD]at rx;obtain⟨a,_,rfl,_⟩:=rx;cases rv;exact Van rfl (Xi I.sr I.inv)
  |fro b=>simp only[RD]at rx;obtain⟨a,_,rfl,_⟩:=rx;cases rv;exact Van rfl (Xi I.sr I.inv)
  |ref b=>simp only[RD]at rx;obtain⟨a,rfl,_⟩:=rx;cases rv;exact Van rfl (Xi I.sr I.inv)
  |fn _ _=>simp only[RD]at rx;obtain⟨a,rfl,_⟩:=rx;cases rv;exact Van rfl (Xi I.sr I.inv)
 |_=>cases x<;>exact aB0 rfl nb
theorem Xy4:Op2 X (Vay .IsNot) (Xj .isnot):=by
 intro pa s σ H ρ S env x y v u v' u' E I nb rx rv ry ru;cases y with
 |non =>
  simp only[RD]at ry;subst ry;cases ru;cases x with
  |non=>simp only[RD]at rx;subst rx;cases rv;exact U6 rfl (Xi I.sr I.inv)
  |bl b=>simp only[RD]at rx;subst rx;cases rv;exact U6 rfl (Xi I.sr I.inv)
  |int b=>simp only[RD]at rx;subst rx;obtain⟨t,rfl⟩:=rv;exact U6 rfl (Xi I.sr I.inv)
  |str b=>simp only[RD]at rx;subst rx;obtain⟨t,rfl⟩:=rv;exact U6 rfl (Xi I.sr I.inv)
  |tup b=>simp only[RD]at rx;obtain⟨a,_,rfl,_⟩:=rx;cases rv;exact U6 rfl (Xi I.sr I.inv)
  |fro b=>simp only[RD]at rx;obtain⟨a,_,rfl,_⟩:=rx;cases rv;exact U6 rfl (Xi I.sr I.inv)
  |ref b=>simp only[RD]at rx;obtain⟨a,rfl,_⟩:=rx;cases rv;exact U6 rfl (Xi I.sr I.inv)
  |fn _ _=>simp only[RD]at rx;obtain⟨a,rfl,_⟩:=rx;cases rv;exact U6 rfl (Xi I.sr I.inv)
 |bl c =>
  simp only[RD]at ry;subst ry;cases ru;cases x with
  |non=>simp only[RD]at rx;subst rx;cases rv;exact U6 rfl (Xi I.sr I.inv)
  |bl b =>
   simp only[RD]at rx;subst rx;cases rv;refine isnot_bool ?_;have e:(b != c)=(c != b):=by cases b<;>cases c<;>rfl
   rw[e];exact Xi I.sr I.inv
  |int b=>simp only[RD]at rx;subst rx;obtain⟨t,rfl⟩:=rv;exact U6 rfl (Xi I.sr I.inv)
  |str b=>simp only[RD]at rx;subst rx;obtain⟨t,rfl⟩:=rv;exact U6 rfl (Xi I.sr I.inv)
  |tup b=>simp only[RD]at rx;obtain⟨a,_,rfl,_⟩:=rx;cases rv;exact U6 rfl (Xi I.sr I.inv)
  |fro b=>simp only[RD]at rx;obtain⟨a,_,rfl,_⟩:=rx;cases rv;exact U6 rfl (Xi I.sr I.inv)
  |ref b=>simp only[RD]at rx;obtain⟨a,rfl,_⟩:=rx;cases rv;exact U6 rfl (Xi I.sr I.inv)
  |fn _ _=>simp only[RD]at rx;obtain⟨a,rfl,_⟩:=rx;cases rv;exact U6 rfl (Xi I.sr I.inv)
 |_=>cases x<;>exact aB0 rfl nb
theorem Xe1(hu:X.A.units+200<cLine):∀op:Co,Op2 X (Vay (opC op)) (Xj op)
 |.eq=>X9c hu | .ne=>X9d hu | .lt=>X9i hu | .le=>X9f | .gt=>X9g | .ge=>X9h | .isin=>X9e hu | .notin=>Xy3 hu | .is=>X9j | .isnot=>Xy4
theorem Xuu{ws:List Vb}(ht:IsTup s.heap t #[])(hb:IsTup s.heap b ws.toArray)(h:Q (.ref b) s):Vf (Vk prog w) A (Vck .Add (.ref t) (.ref b)) Q E s:=by
 obtain⟨⟨cls,dd,data,sl⟩,ho,hc,n,hd⟩:=id ht;obtain⟨⟨cls2,dd2,data2,sl2⟩,ho2,hc2,n2,hd2⟩:=id hb;simp only at hc hd hc2 hd2;subst hc hd hc2 hd2;exact concat_meets ⟨_,ho,rfl⟩ ⟨_,ho2,rfl⟩ noFill_tuple_add seq_tuple_add Vfq Vfg (Ve3 _ _)
   (tuple_addW0 t b #[] ws.toArray n n2 dd dd2 sl sl2 rfl) ⟨ho,ho2,h⟩
theorem X68:Op2 X (Vck .Add) (Xo .add):=by
 intro pa s σ H ρ S env x y v u v' u' E I nb rx rv ry ru;cases x with
 |int i=>cases y with
  |int j =>
   simp only[RD]at rx ry;subst rx ry;obtain⟨t,rfl⟩:=rv;obtain⟨t',rfl⟩:=ru;exact add_int (Y5 I.sr (I.inv.tok _))
  |_=>exact aB0 rfl nb
 |str i=>cases y with
  |str j =>
   simp only[RD]at rx ry;subst rx ry;simp only[Xo]at nb ⊢;split at nb
   ·rename_i hz
    rw[iP0 hz];exact opd (Q':=fun z H'=>z=.str (i++j)/\H'=H) Xpr I.inv rv ru ⟨i,j,rfl,rfl,Yq hz,rfl,rfl⟩ fun w s' z H' J rz ⟨z1,z2⟩=>by
     subst z1 z2;obtain⟨t,rfl⟩:=rz;exact Xe0 I.sr J
   ·exact aB0 rfl nb
  |_=>exact aB0 rfl nb
 |tup xs=>cases y with
  |tup ys =>
   simp only[Xo]at nb ⊢;split at nb
   ·rename_i hz
    rw[iP0 hz];have rx':=rx;have ry':=ry;simp only[RD]at rx ry;obtain⟨a,vs,rfl,s1,r1⟩:=rx;obtain⟨b,us,rfl,s2,r2⟩:=ry;cases rv;cases ru;obtain⟨i1,q1,p1,z1⟩:=I.inv.tuple s1;obtain⟨i2,q2,p2,z2⟩:=I.inv.tuple s2;have hl1:=r1.length;have hl2:=r2.length;have hk1:=q1.length;have hk2:=q2.length
    by_cases hx:xs=[]
    ·subst hx
     have:vs=[]:=by simpa [RDs] using r1
     subst this;cases q1;refine Xuu p1 p2 ?_;exact .mk (v:=.ref b) .refl I.inv rfl ry' I.sr
    ·refine HT.cat_tup p1 p2 (fun z=>hx ?_) (fun z=>?_) (fun z=>?_) ?_
     ·subst z;simp at hk1;rw[hk1]at hl1;simpa using hl1
     ·have:ys=[]:=by subst z;simp at hk2;rw[hk2]at hl2;simpa using hl2
      subst this;rw[Vz];exact .mk (v:=.ref a) .refl I.inv rfl rx' I.sr
     ·refine Xb7 (I.inv.laid (t':=s.toks) (o:=.tup (vs++us)) (fun b ob q=>Ve _ q) (Vl _) ?_) (I.inv.hok.fresh (Vl _)) I.sr (r1.append r2)
      exact⟨by rw[Uf,<- hl1,<- hl2];exact Yq hz,_,q1.append q2,IsTup.new _ _⟩
     ·rw[<- hk1,<- hk2,<- hl1,<- hl2];exact Yq hz
   ·exact aB0 rfl nb
  |_=>exact aB0 rfl nb
 |ref n=>cases y with
  |ref m =>
   simp only[Xo]at nb ⊢;cases h1:Z.lstM S n with
   |none=>rw[h1]at nb;exact aB0 rfl nb
   |some xs =>
    cases h2:Z.lstM S m with
    |none=>rw[h1,h2]at nb;exact aB0 rfl nb
    |some ys =>
     rw[h1,h2]at nb;dsimp only at nb ⊢;split at nb
     ·rename_i hz
      rw[iP0 hz];obtain⟨a,vs,rfl,ha,hva,ra⟩:=I.lstR h1 rx;obtain⟨b,us,rfl,hb,hvb,rb⟩:=I.lstR h2 ry;exact opd (Q':=fun z H'=>∃p,H p=none/\z=.ref p/\H'=upd H p (.lst (vs++us))) X2m I.inv rv ru ⟨a,b,vs,us,rfl,rfl,hva,hvb,by rw[<- ra.length,<- rb.length];exact Yq hz,fun p hp=>⟨p,hp,rfl,rfl⟩⟩
       fun w s' z H' J rz ⟨p,hp,z1,z2⟩=>by subst z1 z2;cases rz;exact Xac J hp I.sr (ra.append rb)
     ·exact aB0 rfl nb
  |_=>exact aB0 rfl nb
 |_=>cases y<;>exact aB0 rfl nb
theorem X69:Op2 X (Vck .Sub) (Xo .sub):=by
 intro pa s σ H ρ S env x y v u v' u' E I nb rx rv ry ru;cases x with
 |int i=>cases y with
  |int j =>
   simp only[RD]at rx ry;subst rx ry;obtain⟨t,rfl⟩:=rv;obtain⟨t',rfl⟩:=ru;exact sub_int (Y5 I.sr (I.inv.tok _))
  |_=>exact aB0 rfl nb
 |_=>cases y<;>exact aB0 rfl nb
theorem Xok(h:i.natAbs.log2<100000):Builtin.Int.intBits i<=2^20:=by
 unfold Builtin.Int.intBits;split
 ·exact Ul _
 ·omega
theorem Xuv(h:Xar i j=true):IntMulOk i j:=by
 simp only[Xar,Vb6,bA0,decide_eq_true_eq]at h;rcases h with h|h
 ·have:CMul i j:=h
  exact this.ok
 ·exact IntMulOk.of_bits (Xok h.1) (Xok h.2)
theorem X7a:Op2 X (Vck .Mult) (Xo .mul):=by
 intro pa s σ H ρ S env x y v u v' u' E I nb rx rv ry ru;cases x with
 |int i=>cases y with
  |int j =>
   simp only[RD]at rx ry;subst rx ry;obtain⟨t,rfl⟩:=rv;obtain⟨t',rfl⟩:=ru;simp only[Xo]at nb ⊢;split at nb
   ·rename_i hz
    rw[iP0 hz];exact mul_int (Y5 I.sr (I.inv.tok _)) (Xuv hz)
   ·exact aB0 rfl nb
  |_=>exact aB0 rfl nb
 |tup xs=>cases y with
  |int k =>
   simp only[Xo]at nb ⊢;split at nb
   ·rename_i hz
    rw[iP0 hz];have rx':=rx;simp only[RD]at rx ry;subst ry;obtain⟨a,vs,rfl,s1,r1⟩:=rx;cases rv;obtain⟨t',rfl⟩:=ru;obtain⟨i1,q1,p1,z1⟩:=I.inv.tuple s1;have hl1:=r1.length;have hk1:=q1.length;have hne:i1≠[]:=fun z=>by
     subst z;have:xs=[]:=Vgk (by rw[hl1,hk1];rfl)
     subst this;exact aB0 hz.2.2.2 (by simp)
    refine Xy2 p1 hne hz.2.2.1 hz.1 (by rw[<- hk1,<- hl1];exact hz.2.1) (fun e=>?_) (fun e=>?_)
    ·subst e
     have e1:(Vh (1:Int).toNat xs).flatten=xs:=by simp
     rw[e1];exact .mk (v:=.ref a) .refl I.inv rfl rx' I.sr
    ·have hr:∀m:Nat,RDs X.K ρ H (Vh m xs).flatten (Vh m vs).flatten:=fun m=>by
      induction m with
      |zero=>simpa using RDs.nil
      |succ m ih=>rw[U3,U3,U0,U0];exact r1.append ih
     refine Xb7 (I.inv.laid (t':=s.toks) (o:=.tup (Vh k.toNat vs).flatten) (fun b ob q=>Ve _ q) (Vl _) ?_) (I.inv.hok.fresh (Vl _)) I.sr (hr _)
     exact⟨by rw[Xhs,<- hl1,Nat.mul_comm];exact Yq hz.2.1,_,q1.rep _,IsTup.new _ _⟩
   ·exact aB0 rfl nb
  |_=>exact aB0 rfl nb
 |ref n=>cases y with
  |int k =>
   simp only[Xo]at nb ⊢;cases h1:Z.lstM S n with
   |none=>rw[h1]at nb;exact aB0 rfl nb
   |some xs =>
    rw[h1]at nb;dsimp only at nb ⊢;split at nb
    ·rename_i hz
     rw[iP0 hz];obtain⟨a,vs,rfl,ha,hva,ra⟩:=I.lstR h1 rx;simp only[RD]at ry;subst ry;have hr:RDs X.K ρ H (Vh k.toNat xs).flatten (Vh k.toNat vs).flatten:=by
      induction k.toNat with
      |zero=>simpa using RDs.nil
      |succ m ih=>rw[U3,U3,U0,U0];exact ra.append ih
     exact opd (Q':=fun z H'=>∃p,H p=none/\z=.ref p/\H'=upd H p (.lst (Vh k.toNat vs).flatten)) X2n I.inv rv ru
      ⟨a,k,vs,rfl,rfl,hva,by omega,by omega,by rw[<- ra.length];exact Yq hz.2.1,fun p hp=>⟨p,hp,rfl,rfl⟩⟩
      fun w s' z H' J rz ⟨p,hp,z1,z2⟩=>by subst z1 z2;cases rz;exact Xac J hp I.sr hr
    ·exact aB0 rfl nb
  |_=>exact aB0 rfl nb
 |_=>cases y<;>exact aB0 rfl nb
theorem X20:Op2 X (Vck .FloorDiv) (Xo .fdiv):=by
 intro pa s σ H ρ S env x y v u v' u' E I nb rx rv ry ru;cases x with
 |int i=>cases y with
  |int j =>
   simp only[RD]at rx ry;subst rx ry;obtain⟨t,rfl⟩:=rv;obtain⟨t',rfl⟩:=ru;simp only[Xo]at nb ⊢;split at nb
   ·rename_i hz
    rw[iP0 hz];simp only[Xbz,bA0,decide_eq_true_eq]at hz;have hj:(0:Int)<j:=hz.1;exact floordiv_int (by omega) (by rw[Int.fdiv_eq_ediv_of_nonneg i (by omega)];exact Y5 I.sr (I.inv.tok _)) (.inl (PyProof.noPylong_of_log2 hz.2))
   ·exact aB0 rfl nb
  |_=>exact aB0 rfl nb
 |_=>cases y<;>exact aB0 rfl nb
theorem X7b:Op2 X (Vck .Mod) (Xo .mod):=by
 intro pa s σ H ρ S env x y v u v' u' E I nb rx rv ry ru;cases x with
 |int i=>cases y with
  |int j =>
   simp only[RD]at rx ry;subst rx ry;obtain⟨t,rfl⟩:=rv;obtain⟨t',rfl⟩:=ru;simp only[Xo]at nb ⊢;split at nb
   ·rename_i hz
    rw[iP0 hz];exact mod_int' (by omega) (by rw[Int.fmod_eq_emod_of_nonneg i (by omega)];exact Y5 I.sr (I.inv.tok _))
   ·exact aB0 rfl nb
  |_=>exact aB0 rfl nb
 |_=>cases y<;>exact aB0 rfl nb
theorem X7c:Op2 X (Vck .Pow) (Xo .pow):=by
 intro pa s σ H ρ S env x y v u v' u' E I nb rx rv ry ru;cases x with
 |int i=>cases y with
  |int j =>
   simp only[RD]at rx ry;subst rx ry;obtain⟨t,rfl⟩:=rv;obtain⟨t',rfl⟩:=ru;simp only[Xo]at nb ⊢;split at nb
   ·rename_i hz
    rw[iP0 hz];exact pow_int_small hz.1 (by omega) (by omega) (Y5 I.sr (I.inv.tok _))
   ·exact aB0 rfl nb
  |_=>exact aB0 rfl nb
 |_=>cases y<;>exact aB0 rfl nb
theorem X7d:∀op:Bo,Op2 X (Vck (opB op)) (Xo op)
 |.add=>X68 | .sub=>X69 | .mul=>X7a | .fdiv=>X20 | .mod=>X7b | .pow=>X7c
end
theorem Xsa(n:Nat)(i:Int):Z.ixN n i=L2.ixN n i:=rfl
section
variable{X:Cx}{pa:List (Addr×Obj)}{σ:L2.St}{H:Hp}{s:Vc}{ρ:List Addr}{S S':Sto}{env:En}{Q:Vb->Vc->Prop}{E:Vb->Vc->Prop}{a b c e:Expr}{f fa fb fc:En->Sto->R D}{pos:Pos}
theorem X21(r:RDs X.K ρ H xs vs)(h:((Z.ixN xs.length k).bind fun j=>xs[j]?)=some d):∃v,atI vs k=some v/\RD X.K ρ H d v:=by
 cases e:Z.ixN xs.length k with
 |none=>rw[e]at h;cases h
 |some j =>
  rw[e]at h;obtain⟨v,h1,h2⟩:=r.get (i:=j) (d:=d) h;refine⟨v,?_,h2⟩;show((L2.ixN vs.length k).bind fun j=>vs[j]?)=some v
  rw[<- r.length];rw[Xsa]at e;rw[e];exact h1
theorem X7e(hs:Xhr b):Op2 X (Vfu a b) Xag:=by
 intro pa s σ H ρ S env x y v u v' u' E I nb rx rv ry ru;unfold Xag at nb ⊢;cases e:Xam x y S with
 |none=>rw[e]at nb;exact aB0 rfl nb
 |some d =>
  cases y with
  |int k =>
   simp only[RD]at ry;subst ry;have ixr:∀ {r:R2} (hr:IxR (X.wish E) r) (z:V),r v (.int k) H (fun z' H'=>z'=z/\H'=H)->RD X.K ρ H d z->Vf (Vk X.prog X.w) X.A (Vfu a b v' u') (OkP X pa σ ρ H (.ok d S)) E s:=fun {r} hr z h1 h2 =>
    thn (hr a b pa s σ H v (.int k) v' u' _ (I.inv.wish E) rv ru h1 (hs _ _)) fun w s' ⟨z',H',J,rz,e1,e2⟩=>by subst e1 e2;exact .mk .refl J.unwish rz h2 I.sr
   have seq:∀xs,Xx S x=some xs->((Z.ixN xs.length k).bind fun j=>xs[j]?)=some d->Vf (Vk X.prog X.w) X.A (Vfu a b v' u') (OkP X pa σ ρ H (.ok d S)) E s:=fun xs h1 h2=>by
    obtain⟨p,vs,rfl,hq,hr⟩:=I.seq h1 rx;obtain⟨z,hz,rz⟩:=X21 hr h2;rcases hq with hq|hq
    ·exact ixr Xyq z ⟨p,vs,k,z,rfl,rfl,hq,hz,rfl,rfl⟩ rz
    ·exact ixr X2k z ⟨p,vs,k,z,rfl,rfl,hq,hz,rfl,rfl⟩ rz
   cases x with
   |str z =>
    simp only[Xam]at e;simp only[RD]at rx;subst rx;split at e
    ·rename_i hz
     cases e1:Z.ixN z.length k with
     |none=>rw[e1]at e;cases e
     |some j =>
      rw[e1]at e;simp only[Vs,Ui]at e;obtain⟨c,hc,rfl⟩:=e;refine ixr X2l (.str ⟨#[c]⟩) ⟨z,k,c,rfl,rfl,Yq hz,?_,rfl,rfl⟩ (by simp only[RD])
      show((L2.ixN z.cps.toList.length k).bind fun j=>z.cps.toList[j]?)=some c
      have:z.cps.toList.length=z.length:=by simp[Str.length]
      rw[this,<- Xsa,e1];exact hc
    ·cases e
   |tup xs=>exact seq xs rfl (by simpa [Xam,Xx] using e)
   |fro xs=>exact seq xs rfl (by simpa [Xam,Xx] using e)
   |ref n =>
    simp only[Xam,Xx]at e;cases e1:Xc S n with
    |none=>rw[e1]at e;cases e
    |some xs=>rw[e1]at e;exact seq xs e1 e
   |non=>simp[Xam,Xx]at e
   |bl _=>simp[Xam,Xx]at e
   |int _=>simp[Xam,Xx]at e
   |fn _ _=>simp[Xam,Xx]at e
  |_=>simp[Xam]at e
theorem X7f(hs:Xhr b)(ha:DE X a fa)(hb:DE X b fb):DE X (.Subscript a b pos) (fun env S=>(fa env S).bind fun x S=>(fb env S).bind fun y S=>Xag x y S) :=
 fun pa s σ H ρ S env I nb=>Subscript_ (two (X7e hs) ha hb I nb)
noncomputable def spD(K:Vg)(n:Nat)(F:List D->Sto->R D):Sp:=fun vs H Q E=>∃ds ρ S,vs.length=n/\RDs K ρ H ds vs/\SR K ρ S H/\F ds S≠.bad /\
 (∀d S' v H' ρ',F ds S=.ok d S'->RD K ρ' H' d v->SR K ρ' S' H'->Stp K ρ ρ' H H'->Q v H') /\
 ∀n c S' a H' ρ',F ds S=.ex n S'->ρ'[n]?=some a->S'[n]?=some (.exc c)->SR K ρ' S' H'->Stp K ρ ρ' H H'->E (.ref a) none H'
noncomputable def CXd(P:V1)(w:V9):CXT:=fun outer H s E e s'=>∃H',s'.os=s.os/\AllBare s'.gens/\Un (frs outer) [] H H' s.heap s'.heap/\HOk P w H' s'.heap/\(∃a,e=.ref a/\Trc .none (fun T=>s.heap.get? T=none) H' a s'.heap)/\E e none H'
structure RoomC(cm:Bool)(k:Nat)(A:Uu):Prop where
 gd:A.guards=some []
 hd:cm=true->A.handled=none
 dp:A.depth+3*k+5<recursionLimit
 un:A.units+16*k+200<cLine
theorem RoomC.of(r:Room k A):RoomC cm k A:=⟨r.gd,fun _=>r.hd,r.dp,r.un⟩
theorem RoomC.less(r:RoomC cm k A)(h:cm2=true->cm=true):RoomC cm2 k A:=⟨r.gd,fun z=>r.hd (h z),r.dp,r.un⟩
theorem RoomC.deeper(r:RoomC cm (k+1) A)(env:Vbd):RoomC cm k (A.deeper env) :=
 ⟨r.gd,r.hd,by have:=r.dp;show A.depth+1+3*k+5<_;omega,by have:=r.un;show A.units+3+16*k+200<_;omega⟩
theorem RoomC.mark(r:RoomC cm k A):RoomC false k (A.mark h):=⟨r.gd,(fun z=>nomatch z),r.dp,r.un⟩
structure FnD(cm:Bool)(P:V1)(w:V9)(K:Vg)(mg:Str->Option Vb)(base:Heap)(k:Nat)(f:Addr)(fd:Vcx)(ps:List Str)(F:List D->Sto->R D):Prop where
 run:∀(A:Uu) (outer:List Vbd) (s:Vc) (H:Hp) (args:Args) (us:List Vb) (vs:List V) (Q:VK) (E:XK),RoomC cm k A->Env0 P w K mg base A outer s H->BindsTo s fd args (ps.zip us)->Vals vs us->spD K ps.length F vs H Q E ->
  Vcy (Vk P w) A (.call (.ref f) args) (CR (CXd P w) outer P w H s Q E) s
theorem Xxx(G:FnD cm X.prog X.w X.K X.mg X.base k g fd ps F)(hr:RoomC cm k X.A)(hb:Binds X.K fd ps [])
  (I:S0 X pa σ H s ρ S env) (rv:Vals vs us) (rd:RDs X.K ρ H ds vs) (hl:ds.length=ps.length) (nb:F ds S≠.bad) :
  Vf (Vk X.prog X.w) X.A (call (.ref g) us) (OkP X pa σ ρ H (F ds S)) (ExP X pa σ ρ H (F ds S)) s:=by
 have hlv:vs.length=ps.length:=by rw[<- rd.length];exact hl
 have hb':BindsTo s fd ⟨us,[]⟩ (ps.zip us):=by
  have:=hb s us I.inv.kIn (by rw[Vz,<- rv.length];exact hlv)
  rwa [Vz]at this
 have hsp:spD X.K ps.length F vs H (fun v H'=>∃d S' ρ',F ds S=.ok d S'/\RD X.K ρ' H' d v/\SR X.K ρ' S' H'/\Stp X.K ρ ρ' H H')
   (fun e _ H'=>∃n c S' a ρ',F ds S=.ex n S'/\e=.ref a/\ρ'[n]?=some a/\S'[n]?=some (.exc c)/\SR X.K ρ' S' H'/\Stp X.K ρ ρ' H H') :=
  ⟨ds,ρ,S,hlv,rd,I.sr,nb,fun d S' v H' ρ' h1 h2 h3 h4=>⟨d,S',ρ',h1,h2,h3,h4⟩,fun n c S' a H' ρ' h1 h2 h3 h4 h5=>⟨n,c,S',a,ρ',h1,rfl,h2,h3,h4,h5⟩⟩
 refine wpAny_call (Vd9 (G.run X.A X.stack s H ⟨us,[]⟩ us vs _ _ hr I.inv.env0 hb' rv hsp) fun r s' hq=>?_)
 cases r with
 |error e =>
  obtain⟨H',os,bare,un,hok,⟨a',h0,tr⟩,n,c,S',a,ρ',h1,h2,h3,h4,h5,h6⟩:=hq;refine⟨n,S',h1,H',ρ',a,c,I.inv.call' os un hok bare (fun b z=>aB0 z (by simp)),h2,h3,h4,h5,h6,.inr ⟨_,.inl rfl,?_⟩⟩
  rw[h2]at h0;cases h0;refine tr.imp fun T hT=>⟨?_,fun p hp z=>?_⟩
  ·by_cases hx:T∈X.ex
   ·exact .inl hx
   ·cases q:X.s₀.heap.get? T with
    |none=>exact .inr rfl
    |some o=>obtain⟨o',e⟩:=I.inv.base.there T o q hx;rw[hT]at e;cases e
  ·have:=(I.inv.pin p hp).1
   rw[z,hT]at this;cases this
 |ok fl =>
  cases fl with
  |ret u =>
   obtain⟨v,H',J,rv',d,S',ρ',h1,h2,h3,h4⟩:=I.inv.after hq;exact⟨d,S',h1,v,H',ρ',J,rv',h2,h3,h4⟩
  |next=>exact Vgb hq
  |brk=>exact Vgb hq
  |cont=>exact Vgb hq
theorem X22(G:FnD cm X.prog X.w X.K X.mg X.base k g fd ps F)(hr:RoomC cm k X.A)(hb:Binds X.K fd ps [])
  (hg:Gl X x) (hm:X.mg x=some (.ref g)) (hk:Vdk X.K (.ref g)=true) (ha:DA X (e::es) ga) (hl:∀env S ds S',ga env S=.ok ds S'->ds.length=ps.length)
  (hdb:(x==("__debug__" : Str))=false) (he:V3 (e::es) X.env=(false,eval e X.env)::V3 es X.env) (hpl:(Vbg pos (V3 es X.env)).any (·.1)=false) :
  DE X (.Call (.Name x p) (e::es) [] pos) (fun env S=>(ga env S).bind fun xs S=>F xs S):=by
 intro pa s σ H ρ S env I nb;dsimp only at nb ⊢;refine Vad (Xc2 I.inv hg hm ?_ hdb);cases q:ga env S with
 |bad=>rw[q]at nb;exact aB0 rfl nb
 |ex n S1=>exact Ve7 (h₀:=X.base) I.inv.ok.mod.kin hk (ha.ex I q fun x s' z=>⟨n,S1,rfl,z⟩) he hpl
 |ok ds S1 =>
  rw[q]at nb;simp only[Rk0]at nb ⊢;refine Ve7 (h₀:=X.base) I.inv.ok.mod.kin hk (ha.ok I q fun us s1 vs H1 ρ1 I1 rv rd st1=>⟨I1.inv.kIn,?_⟩) he hpl
  exact Vn (Xxx G hr hb I1 rv rd (hl env S ds S1 q) nb) (fun u s2 z=>z.pre st1) fun x s2 z=>z.pre st1
def FlP(X:Cx)(pa:List (Addr×Obj))(σ:L2.St)(ρ:List Addr)(H:Hp)(na:Bool)(S':Sto)(s':Vc):Fl->Flow->Prop
 |.nx e,fl=>fl=.next/\∃ σ' H' ρ',S0 X pa σ' H' s' ρ' S' e/\Stp X.K ρ ρ' H H'/\(na=true->σ'=σ)
 |.brk e,fl=>fl=.brk/\∃ σ' H' ρ',S0 X pa σ' H' s' ρ' S' e/\Stp X.K ρ ρ' H H'
 |.cnt e,fl=>fl=.cont/\∃ σ' H' ρ',S0 X pa σ' H' s' ρ' S' e/\Stp X.K ρ ρ' H H'
 |.rt d,fl=>∃u v σ' H' ρ',fl=.ret u/\Inv X pa σ' H' s'/\RelV v u/\RD X.K ρ' H' d v/\SR X.K ρ' S' H'/\Stp X.K ρ ρ' H H'
def OkS(X:Cx)(pa:List (Addr×Obj))(σ:L2.St)(ρ:List Addr)(H:Hp)(na:Bool)(r:R Fl)(fl:Flow)(s':Vc):Prop:=∃x S',r=.ok x S'/\FlP X pa σ ρ H na S' s' x fl
def ExS(X:Cx)(pa:List (Addr×Obj))(σ:L2.St)(ρ:List Addr)(H:Hp)(na:Bool)(r:R Fl)(e:Vb)(s':Vc):Prop:=∃n S' σ',r=.ex n S'/\(na=true->σ'=σ)/\XPd X pa σ' ρ H n S' e s'
def DS(X:Cx)(st:Stmt)(na:Bool)(f:En->Sto->R Fl):Prop :=
 ∀(pa:List (Addr×Obj)) (s:Vc) (σ:L2.St) (H:Hp) (ρ:List Addr) (S:Sto) (env:En),S0 X pa σ H s ρ S env->f env S≠.bad ->
  Vf (Vk X.prog X.w) X.A (exec st X.env) (OkS X pa σ ρ H na (f env S)) (ExS X pa σ ρ H na (f env S)) s
def DSs(X:Cx)(st:List Stmt)(na:Bool)(f:En->Sto->R Fl):Prop :=
 ∀(pa:List (Addr×Obj)) (s:Vc) (σ:L2.St) (H:Hp) (ρ:List Addr) (S:Sto) (env:En),S0 X pa σ H s ρ S env->f env S≠.bad ->
  Vf (Vk X.prog X.w) X.A (execs st X.env) (OkS X pa σ ρ H na (f env S)) (ExS X pa σ ρ H na (f env S)) s
theorem FlP.pre{x:Fl}{fl:Flow}{s':Vc}{σ':L2.St}{ρ':List Addr}{H':Hp}{na na':Bool}(st:Stp X.K ρ ρ' H H')(hn:na'=true->na=true/\σ'=σ)(h:FlP X pa σ' ρ' H' na S' s' x fl):FlP X pa σ ρ H na' S' s' x fl:=by
 cases x with
 |nx e=>obtain⟨h1,σ2,H2,ρ2,h2,h3,h4⟩:=h;exact⟨h1,σ2,H2,ρ2,h2,st.trans h3,fun z=>(h4 (hn z).1).trans (hn z).2⟩
 |brk e=>obtain⟨h1,σ2,H2,ρ2,h2,h3⟩:=h;exact⟨h1,σ2,H2,ρ2,h2,st.trans h3⟩
 |cnt e=>obtain⟨h1,σ2,H2,ρ2,h2,h3⟩:=h;exact⟨h1,σ2,H2,ρ2,h2,st.trans h3⟩
 |rt d=>obtain⟨u,v,σ2,H2,ρ2,h1,h2,h3,h4,h5,h6⟩:=h;exact⟨u,v,σ2,H2,ρ2,h1,h2,h3,h4,h5,st.trans h6⟩
theorem OkS.pre{r:R Fl}{fl:Flow}{s':Vc}{σ':L2.St}{ρ':List Addr}{H':Hp}{na na':Bool}(st:Stp X.K ρ ρ' H H')(hn:na'=true->na=true/\σ'=σ)(h:OkS X pa σ' ρ' H' na r fl s'):OkS X pa σ ρ H na' r fl s':=by
 obtain⟨x,S1,e,h⟩:=h;exact⟨x,S1,e,h.pre st hn⟩
theorem ExS.of(st:Stp X.K ρ ρ' H H')(h:XPd X pa σ ρ' H' n S' x s')(e:r=.ex n S'):ExS X pa σ ρ H na r x s':=⟨n,S',σ,e,fun _=>rfl,h.pre st⟩
theorem ExS.pre{na na':Bool}{σ':L2.St}{r:R Fl}{x:Vb}{s':Vc}{ρ':List Addr}{H':Hp}(st:Stp X.K ρ ρ' H H')(hn:na'=true->na=true/\σ'=σ)(h:ExS X pa σ' ρ' H' na r x s'):ExS X pa σ ρ H na' r x s':=by
 obtain⟨n,S1,σ2,e,h1,h2⟩:=h;exact⟨n,S1,σ2,e,fun z=>(h1 (hn z).1).trans (hn z).2,h2.pre st⟩
variable{st:Stmt}{Yt sa sb:List Stmt}{g g2:En->Sto->R Fl}{na na2:Bool}
theorem DS.weak(h:DS X st na g)(hn:na2=true->na=true):DS X st na2 g:=fun pa s σ H ρ S env I nb =>
 Vn (h pa s σ H ρ S env I nb) (fun _ _ z=>z.pre .refl fun q=>⟨hn q,rfl⟩) fun _ _ z=>z.pre .refl fun q=>⟨hn q,rfl⟩
theorem dss_nil:DSs X [] true (fun env S=>.ok (.nx env) S):=fun pa s σ H ρ S env I _=>wpAny_execs_nil ⟨.nx env,S,rfl,rfl,σ,H,ρ,I,.refl,fun _=>rfl⟩
theorem Xuw(h1:DS X st na g)(h2:DSs X Yt na2 g2):DSs X (st::Yt) (na&&na2) (fun env S=>match g env S with | .ok (.nx e) S'=>g2 e S'|r=>r):=by
 intro pa s σ H ρ S env I nb;dsimp only at nb ⊢;refine wpAny_execs_cons ?_;cases q:g env S with
 |bad=>rw[q]at nb;exact aB0 rfl nb
 |ex n S1 =>
  refine Vn (h1 pa s σ H ρ S env I (by rw[q];exact fun z=>nomatch z)) (fun fl s1 z=>?_) fun x s1 z=>?_
  ·obtain⟨x,S2,e,_⟩:=z;rw[q]at e;cases e
  ·rw[q]at z
   exact z.pre .refl fun w=>⟨by rw[bA0]at w;exact w.1,rfl⟩
 |ok x S1 =>
  rw[q]at nb;refine Vn (h1 pa s σ H ρ S env I (by rw[q];exact fun z=>nomatch z)) (fun fl s1 z=>?_) fun x s1 z=>?_
  ·obtain⟨y,S2,e,z⟩:=z
   rw[q]at e;cases e;cases x with
   |nx e =>
    obtain⟨rfl,σ1,H1,ρ1,I1,st1,hσ⟩:=z;exact Vn (h2 pa s1 σ1 H1 ρ1 S1 e I1 nb) (fun fl s2 z=>z.pre st1 fun w=>by rw[bA0]at w;exact⟨w.2,hσ w.1⟩) fun x s2 z=>z.pre st1 fun w=>by rw[bA0]at w;exact⟨w.2,hσ w.1⟩
   |brk e=>obtain⟨rfl,σ1,H1,ρ1,I1,st1⟩:=z;exact⟨.brk e,S1,rfl,rfl,σ1,H1,ρ1,I1,st1⟩
   |cnt e=>obtain⟨rfl,σ1,H1,ρ1,I1,st1⟩:=z;exact⟨.cnt e,S1,rfl,rfl,σ1,H1,ρ1,I1,st1⟩
   |rt d=>obtain⟨u,v,σ1,H1,ρ1,rfl,r⟩:=z;exact⟨.rt d,S1,rfl,u,v,σ1,H1,ρ1,rfl,r⟩
  ·obtain⟨k,S2,σ2,e,_⟩:=z
   rw[q]at e;cases e
theorem ds_pass:DS X (.Pass pos) true (fun env S=>.ok (.nx env) S):=fun pa s σ H ρ S env I _=>wpAny_Pass ⟨.nx env,S,rfl,rfl,σ,H,ρ,I,.refl,fun _=>rfl⟩
theorem ds_brk:DS X (.Break pos) false (fun env S=>.ok (.brk env) S):=fun pa s σ H ρ S env I _=>wpAny_Break ⟨.brk env,S,rfl,rfl,σ,H,ρ,I,.refl⟩
theorem ds_cnt:DS X (.Continue pos) false (fun env S=>.ok (.cnt env) S):=fun pa s σ H ρ S env I _=>wpAny_Continue ⟨.cnt env,S,rfl,rfl,σ,H,ρ,I,.refl⟩
theorem Xy5(he:DE X e f)(hs:Ve8 e none pos.line X.env=pure false):DS X (.Expr e pos) true (fun env S=>(f env S).bind fun _ S=>.ok (.nx env) S):=by
 intro pa s σ H ρ S env I nb;dsimp only at nb ⊢;cases q:f env S with
 |bad=>rw[q]at nb;exact aB0 rfl nb
 |ex n S1=>exact wpAny_Expr_any (he.ex I q fun x s' z=>.of .refl z rfl) I.inv.quiet hs
 |ok d S1=>exact wpAny_Expr_any (he.ok I q fun u s' v H' ρ' J rv rd st=>⟨.nx env,S1,rfl,rfl,σ,H',ρ',J,st,fun _=>rfl⟩) I.inv.quiet hs
theorem X23(he:DE X e f):DS X (.Return (some e) pos) true (fun env S=>(f env S).bind fun x S=>.ok (.rt x) S):=by
 intro pa s σ H ρ S env I nb;dsimp only at nb ⊢;cases q:f env S with
 |bad=>rw[q]at nb;exact aB0 rfl nb
 |ex n S1=>exact wpAny_Return_some (he.ex I q fun x s' z=>.of .refl z rfl)
 |ok d S1=>exact wpAny_Return_some (he.ok I q fun u s' v H' ρ' J rv rd st=>⟨.rt d,S1,rfl,u,v,σ,H',ρ',rfl,J.inv,rv,rd,J.sr,st⟩)
theorem X7g(hc:DT X c (fun env S=>tst (fc env S)))(ha:DSs X sa na g)(hb:DSs X sb na2 g2) :
  DS X (.If c sa sb pos) (na&&na2) (fun env S=>(fc env S).bind fun x S=>match Xf S x with|some true=>g env S|some false=>g2 env S|none=>.bad):=by
 intro pa s σ H ρ S env I nb;dsimp only at nb ⊢;cases q:fc env S with
 |bad=>rw[q]at nb;exact aB0 rfl nb
 |ex n S1=>exact wpAny_If (hc.ex I (by simp only[q];rfl) fun x s' z=>.of .refl z rfl)
 |ok x S1 =>
  rw[q]at nb;simp only[Rk0]at nb ⊢;cases t:Xf S1 x with
  |none=>rw[t]at nb;exact aB0 rfl nb
  |some r =>
   rw[t]at nb;refine wpAny_If (hc.ok I (by simp only[q];exact Xa9 t) fun s2 H2 ρ2 I2 st2=>?_)
   cases r with
   |true=>exact Vn (ha pa s2 σ H2 ρ2 S1 env I2 nb) (fun w s3 z=>z.pre st2 fun w=>by rw[bA0]at w;exact⟨w.1,rfl⟩) fun x s' z=>z.pre st2 fun w=>by rw[bA0]at w;exact⟨w.1,rfl⟩
   |false=>exact Vn (hb pa s2 σ H2 ρ2 S1 env I2 nb) (fun w s3 z=>z.pre st2 fun w=>by rw[bA0]at w;exact⟨w.2,rfl⟩) fun x s' z=>z.pre st2 fun w=>by rw[bA0]at w;exact⟨w.2,rfl⟩
theorem X24(hN:X.N.Nodup)(hi:X.N[i]?=some x)(hx:Loc X.env.scope x)(hf:X.fn x=true\/X.env.scope.names.lookup x=some .local)(he:DE X e f)(hs:Ve8 e (some (.Name x pos')) pos.line X.env=pure false) :
  DS X (.Assign [.Name x pos'] e pos) false (fun env S=>(f env S).bind fun x S=>match Xr (.var i) x env with|some env=>.ok (.nx env) S|none=>.bad):=by
 intro pa s σ H ρ S env I nb;dsimp only at nb ⊢;cases q:f env S with
 |bad=>rw[q]at nb;exact aB0 rfl nb
 |ex n S1=>exact wpAny_Assign_Name (he.ex I q fun x s' z=>.of .refl z rfl) hs
 |ok d S1 =>
  refine wpAny_Assign_Name (he.ok I q fun u s' v H' ρ' J rv rd st=>?_) hs
  exact Xbg J.inv hN hi hx rv (fun s2 I2=>⟨.nx (env.set i (some d)),S1,rfl,rfl,_,H',ρ',⟨I2,J.sr,J.er.set i rd⟩,st,fun z=>nomatch z⟩) hf
theorem Xbo{b:Addr}{u:HO}(x:ObjOk P w H h b u):∃o,h.get? b=some o:=by
 cases u with
 |lst xs=>obtain⟨_,_,_,_,e⟩:=x;exact⟨_,e⟩
 |tup xs=>obtain⟨_,_,_,o,e,_⟩:=x;exact⟨_,e⟩
 |dK kvs=>obtain⟨_,_,_,_,o,_,_,e,_⟩:=x;exact⟨_,e⟩
 |dT kvs=>obtain⟨_,_,_,_,o,_,_,e,_⟩:=x;exact⟨_,e⟩
 |set S n=>obtain⟨o,_,_,_,e,_⟩:=x;exact⟨_,e⟩
 |ins C dx fs=>obtain⟨_,_,_,e,_⟩:=x;exact⟨_,e⟩
 |own y=>exact x
 |xd fs=>obtain⟨_,⟨_,_,_,e,_⟩,_⟩:=x;exact⟨_,e⟩
 |rng lo hi=>obtain⟨_,_,_,e⟩:=x;exact⟨_,e⟩
 |frz ob u=>obtain⟨e,_⟩:=x;exact⟨_,e⟩
 |tbl ps=>exact⟨_,(show h.get? b=some _ from x)⟩
 |met f y=>exact⟨_,(show h.get? b=some _ from x)⟩
 |ext φ=>exact x.2.1
theorem Xcv{h g g':Heap}:∀ {l:List Vbd},h.FunFrames g l->(∀b∈frs l,g'.get? b=none)->h.FunFrames g' l
 |[],_,_=>trivial
 |env::r,⟨hk,⟨L,o,hf,_,ho,hd⟩,hr⟩,k=>by
  have e:frs (env::r)=L::frs r:=by unfold frs;rw[Vbc,hf]
  rw[e]at k;exact⟨hk,⟨L,o,hf,k L (.head _),ho,hd⟩,Xcv hr fun b hb=>k b (.tail _ hb)⟩
structure Hid(X:Cx)(H':Hp)(a:Addr)(h:Heap)(l:List Addr):Prop where
 er:a∈l
 fr:∀b∈frs X.stack,b∈l
 of:∀b∈l,b=a\/b∈frs X.stack\/(H' b=none/\∃o vs,h.get? b=some o/\o.data=.fields vs)
theorem Xol{pa:List (Addr×Obj)}{σ:L2.St}{a C:Addr}{l:List Addr}(I:Inv X pa σ H' s')(ha:H' a=some (.ext (ExcO C a)))(hl:Hid X H' a s'.heap l)
  (keep:∀b o,s'.heap.get? b=some o->b ∉ l->h'.get? b=some o) (he:ExcO C a h'):HOk X.prog X.w H' h':=by
 have out:∀b u,b≠a->H' b=some u->b ∉ l:=fun b u hb q hm=>by
  rcases hl.of b hm with z|z|⟨z,_⟩
  ·exact hb z
  ·rw[I.stkFree b z]at q;cases q
  ·rw[z]at q;cases q
 intro b u q
 by_cases hb:b=a
 ·subst hb;rw[ha]at q;cases q;exact he.ok
 ·refine(I.hok b u q).stay (fun c v hc e=>?_) (fun _ z=>z) fun _ _ z=>z
  rcases hc with rfl|hc
  ·exact keep c v e (out c u hb q)
  ·exact keep c v e (out c _ (fun z=>by rw[z,ha]at hc;cases hc) hc)
theorem Inv.fly{X:Cx}{pa:List (Addr×Obj)}{σ:L2.St}{H:Hp}{s:Vc}{a:Addr}(I:Inv X pa σ H s)(ha:H a=some (.ext (ExcO C a)))(hl:Hid X H a s.heap l)
  (hnew:∀b∈l,b≠a->b ∉ frs X.stack->Xhv X pa b) (k1:(Vb5 s.heap l).StaysIn h') (k4:s.heap.UpToSlots h') (he:ExcO C a h') :
  Inv X pa σ H {s with heap:=h' }:=by
 have keep:∀b o,s.heap.get? b=some o->b ∉ l->h'.get? b=some o:=fun b o e hb=>k1 b o (Vdp l e hb)
 have nfr:∀b∈frs X.stack,∃o,s.heap.get? b=some o/\∀vs,o.data≠.fields vs:=fun b hb=>(I.stack.mem hb).2
 have old:∀b o,X.s₀.heap.get? b=some o->b≠X.env.locals:=fun b o e=>V8 (V6 (Vu e) I.ok.above)
 have cellK:∀x c,X.env.cells.lookup x=some c->∀v,s.heap.IsCell c v->h'.IsCell c v:=fun x c e v ⟨o,ho,hd⟩=>by
  obtain⟨sl,q⟩:=k4 c o ho fun vs z=>by rw[hd]at z;cases z
  exact⟨_,q,hd⟩
 refine⟨I.ok,I.os,I.bare,⟨fun b o e n hb hx=>?_,fun b o e n hb hx=>?_,fun b o e n hx=>I.base.free b o e n hx,fun b o e hx=>?_,I.base.tups,I.base.frzs,I.base.tbls⟩,?_,fun x c e=>?_,I.free,I.freeC,fun p hp=>?_,Xol I ha hl keep he,I.len⟩
 ·refine keep b o (I.base.keep b o e n hb hx) fun hm=>?_
  have fb:=I.base.free b o e n hx
  by_cases h1:b=a
  ·rw[h1,ha]at fb;cases fb
  ·by_cases h2:b∈frs X.stack
   ·rcases Vv.mp (I.stkSub b h2) with z|z
    ·exact old b o e z
    ·exact hb z
   ·rcases (hnew b hm h1 h2).1 with z|z
    ·exact hx z
    ·rw[z]at e;cases e
 ·obtain⟨sl,e1⟩:=I.base.slot b o e n hb hx
  obtain⟨_,o',e',nd⟩:=I.funs.mem hb;rw[e1]at e';cases e';obtain⟨sl',e2⟩:=k4 b _ e1 nd;exact⟨sl',e2⟩
 ·obtain⟨o',e1⟩:=I.base.there b o e hx
  by_cases hm:b∈l
  ·by_cases h1:b=a
   ·subst h1;obtain⟨oe,_,_,q,_⟩:=he;exact⟨_,q⟩
   ·by_cases h2:b∈frs X.stack
    ·obtain⟨o2,e2,nd⟩:=nfr b h2
     rw[e1]at e2;cases e2;obtain⟨sl,e3⟩:=k4 b _ e1 nd;exact⟨_,e3⟩
    ·rcases (hnew b hm h1 h2).1 with z|z
     ·exact aB0 z hx
     ·rw[z]at e;cases e
  ·exact⟨_,keep b o' e1 hm⟩
 ·obtain⟨m,hn,hlk⟩:=I.loc
  refine⟨m,k4.ns hn,fun i x v e1 e2 e3=>?_⟩
  obtain⟨u,r,lk⟩:=hlk i x v e1 e2 e3;refine⟨u,r,?_⟩;rcases lk with lk|⟨kd,c,e,z⟩
  ·exact .inl lk
  ·exact .inr ⟨kd,c,e,cellK x c e _ z⟩
 ·obtain⟨v,z⟩:=I.cell x c e
  exact⟨v,cellK x c e v z⟩
 ·obtain⟨e,n,ne,nf,d⟩:=I.pin p hp
  refine⟨keep p.1 p.2 e fun hm=>?_,n,ne,nf,d⟩
  by_cases h1:p.1=a
  ·rw[h1,ha]at n;cases n
  ·by_cases h2:p.1∈frs X.stack
   ·rcases Vv.mp (I.stkSub p.1 h2) with z|z
    ·exact ne z
    ·exact nf z
   ·exact(hnew p.1 hm h1 h2).2 p hp rfl
theorem Xf6{X:Cx}{pa:List (Addr×Obj)}{σ:L2.St}{H':Hp}{s':Vc}{a C:Addr}{Q:Unit->Vc->Prop}{E:Vb->Vc->Prop}(I:Inv X pa σ H' s')(hs:X.stack=X.env::X.outer)(hf:X.env.frame=some X.env.locals)
  (ha:H' a=some (.ext (ExcO C a))) (fl:Fly X pa H' a s'.heap)
  (hQ:∀l h2 a0,Hid X H' a s'.heap l->(∀b∈l,b≠a->b ∉ frs X.stack->Xhv X pa b)->Heap.HeldW (Vb5 s'.heap l) (X.env::X.outer) a (.ref C) a0 X.env.locals h2->s'.heap.UpToSlots h2->Q () {s' with heap:=h2}) :
  Vf (Vk X.prog X.w) X.A (noteFrame (.ref a) X.env) Q E s':=by
 have hA:X.A.frames=some (X.env::X.outer):=by rw[<- hs];exact I.ok.frames
 have hI:=I.stack;obtain⟨⟨oa,va,a0,ea,ca,da,v0,vz⟩,_,_⟩:=(show ObjOk X.prog X.w H' s'.heap a (.ext (ExcO C a)) from I.hok a _ ha);rcases fl with⟨oe,vs,e1,e2,e3⟩|⟨fl,hfl,oe,vs,T,oT,ts,e1,e2,e3,e4,e6,e7,e8,e9,e10⟩
 ·have hid:Hid X H' a s'.heap (a::frs X.stack):=⟨.head _,fun b hb=>.tail _ hb,fun b hb=>by
   rcases Vv.mp hb with z|z
   ·exact .inl z
   ·exact .inr (.inl z)⟩
  rw[ea]at e1;cases e1;rw[da]at e2;cases e2;unfold noteFrame;simp only[hf];refine Va (U7 ea da e3 ?_);rw[iN0 (by decide)]
  refine wpAny_entryW (base:=Vb5 s'.heap (a::frs X.stack)) hA (by rw[<- hs];exact Xcv hI fun b hb=>Vbl _ (.tail _ hb)) hf ea (fun b o e=>Ve1 _ e) (Vbl _ (.head _)) da vz v0 fun h2 ⟨k1,k2,k3,k4⟩=>?_
  rw[ca]at k3;exact hQ _ h2 a0 hid (fun b hb h1 h2=>by
   rcases Vv.mp hb with z|z
   ·exact aB0 z h1
   ·exact aB0 z h2) ⟨k1,Vbl _ (.head _),k2,k3⟩ k4
 ·have hid:Hid X H' a s'.heap (a::T::frs X.stack):=⟨.head _,fun b hb=>.tail _ (.tail _ hb),fun b hb=>by
   rcases Vv.mp hb with z|z
   ·exact .inl z
   ·rcases Vv.mp z with z|z
    ·subst z;exact .inr (.inr ⟨e7,oT,ts,e8,e9⟩)
    ·exact .inr (.inl z)⟩
  have hnew:∀b∈a::T::frs X.stack,b≠a->b ∉ frs X.stack->Xhv X pa b:=fun b hb h1 h2=>by
   rcases Vv.mp hb with z|z
   ·exact aB0 z h1
   ·rcases Vv.mp z with z|z
    ·subst z;exact e4
    ·exact aB0 z h2
  rw[ea]at e1;cases e1;rw[da]at e2;cases e2;have fr:s'.heap.FunFrames (Vb5 s'.heap (a::T::frs X.stack)) (X.env::X.outer):=by rw[<- hs];exact Xcv hI fun b hb=>Vbl _ (.tail _ (.tail _ hb))
  have tr:s'.heap.TracedAtW (Vb5 s'.heap (a::T::frs X.stack)) a (.ref C) a0 fl:=⟨oa,va,T,oT,ts,ea,⟨ca,v0⟩,da,e3,Vbl _ (.tail _ (.head _)),e6,e8,e9,e10⟩;rcases hfl with rfl|rfl
  ·exact wpAny_looks_onW hA hf ⟨fun b o e=>Ve1 _ e,Vbl _ (.head _),fr,tr⟩ fun h2 hh2 up2=>hQ _ h2 a0 hid hnew hh2 up2
  ·exact wpAny_noteFrame_againW hf tr (hQ _ s'.heap a0 hid hnew ⟨fun b o e=>Ve1 _ e,Vbl _ (.head _),fr,tr⟩ (.refl _))
theorem Xy6{X:Cx}{pa:List (Addr×Obj)}{σ:L2.St}{H':Hp}{s':Vc}{a C:Addr}{Q:Unit->Vc->Prop}{E:Vb->Vc->Prop}(I:Inv X pa σ H' s')(hs:X.stack=X.env::X.outer)(hf:X.env.frame=some X.env.locals)(hx:X.ex=[])
  (ha:H' a=some (.ext (ExcO C a))) (fl:Fly X pa H' a s'.heap)
  (hQ:∀h',Un X.fs [] X.H₀ H' X.s₀.heap h'->HOk X.prog X.w H' h'->Trc .none (fun T=>X.s₀.heap.get? T=none) H' a h'->Q () {s' with heap:=h' }):Vf (Vk X.prog X.w) X.A (leaving X.env (.ref a)) Q E s':=by
 have hfrs:frs X.stack=X.env.locals::X.fs:=by rw[hs];unfold frs;rw[Vbc,hf];rfl
 have hA:X.A.frames=some (X.env::X.outer):=by rw[<- hs];exact I.ok.frames
 have hI:=I.stack;have fin:∀(l:List Addr) (h':Heap) (a0:Vb),Hid X H' a s'.heap l->(∀b∈l,b≠a->b ∉ frs X.stack->X.s₀.heap.get? b=none)->Heap.LeftW (Vb5 s'.heap l) (X.env::X.outer) a (.ref C) a0 s'.heap h'->Q () {s' with heap:=h' }:=by
  intro l h' a0 hl hnew ⟨k1,k2,⟨oe,vs,T,oT,ts,t1,⟨t2,t3⟩,t4,t5,t6,t7,t8,t9,t10⟩,k4⟩;have keep:∀b o,s'.heap.get? b=some o->b ∉ l->h'.get? b=some o:=fun b o e hb=>k1 b o (Vdp l e hb)
  have nfr:∀b∈frs X.stack,∃o,s'.heap.get? b=some o/\∀vs,o.data≠.fields vs:=fun b hb=>(hI.mem hb).2
  have frk:∀b∈frs X.stack,∀o,s'.heap.get? b=some o->∃sl,h'.get? b=some {o with slots:=sl}:=fun b hb o e=>by
   obtain⟨o',e',nd⟩:=nfr b hb;rw[e]at e';cases e';exact k4 b o e nd
  have old:∀b o,X.s₀.heap.get? b=some o->b≠X.env.locals:=fun b o e=>V8 (V6 (Vu e) I.ok.above)
  have nx:∀b:Addr,b ∉ X.ex:=fun b z=>by rw[hx]at z;cases z
  have hT:∀o,s'.heap.get? T=some o->T∈l:=fun o e=>by
   by_cases hm:T∈l
   ·exact hm
   ·rw[Vdp l e hm]at t6;cases t6
  have nT:T ∉ frs X.stack:=fun hm=>by
   obtain⟨o,e,nd⟩:=nfr T hm;obtain⟨sl,e'⟩:=frk T hm o e;rw[t8]at e';cases e';exact nd ts t9
  refine hQ h' ⟨fun b o e n hb _=>?_,fun b o e n hb _=>?_,fun b o e n _=>I.base.free b o e n (nx b),fun b o e _=>?_,I.base.tups,I.base.frzs,I.base.tbls⟩ (Xol I ha hl keep ⟨oe,vs,a0,t1,t2,t4,t3,(Vbp.mp t5).1⟩) ⟨oe,vs,T,oT,ts,t1,t4,t5,?_,t7,?_,t8,t9,t10⟩
  ·refine keep b o (I.base.keep b o e n hb (nx b)) fun hm=>?_
   have fb:=I.base.free b o e n (nx b)
   by_cases h1:b=a
   ·rw[h1,ha]at fb;cases fb
   ·by_cases h2:b∈frs X.stack
    ·rw[hfrs]at h2
     rcases Vv.mp h2 with z|z
     ·exact old b o e z
     ·exact hb z
    ·rw[hnew b hm h1 h2]at e;cases e
  ·obtain⟨sl,e1⟩:=I.base.slot b o e n hb (nx b)
   obtain⟨sl',e2⟩:=frk b (by rw[hfrs];exact .tail _ hb) _ e1
   exact⟨sl',e2⟩
  ·obtain⟨o',e1⟩:=I.base.there b o e (nx b)
   by_cases hm:b∈l
   ·by_cases h1:b=a
    ·subst h1;exact⟨_,t1⟩
    ·by_cases h2:b∈frs X.stack
     ·obtain⟨sl,e2⟩:=frk b h2 o' e1;exact⟨_,e2⟩
     ·rw[hnew b hm h1 h2]at e;cases e
   ·exact⟨_,keep b o' e1 hm⟩
  ·cases q:X.s₀.heap.get? T with
   |none=>exact q
   |some o =>
    obtain⟨o',e1⟩:=I.base.there T o q (nx T);rw[hnew T (hT o' e1) t7 nT]at q;cases q
  ·cases q:H' T with
   |none=>rfl
   |some u =>
    obtain⟨o',e1⟩:=Xbo (I.hok T u q);rcases hl.of T (hT o' e1) with z|z|⟨z,_⟩
    ·exact aB0 z t7
    ·exact aB0 z nT
    ·rw[z]at q;cases q
 unfold leaving;refine Va (Xf6 I hs hf ha fl fun l h2 a0 hid hnew hh up=>?_)
 refine wpAny_setFlight_noneW hh.1 hh.2.2.1 hh.2.2.2 fun h' k1 k2 k3 k4=>?_
 refine fin l h' a0 hid (fun b hb h1 h2=>?_) ⟨k1,k2,k3,fun b o e nd=>?_⟩
 ·rcases (hnew b hb h1 h2).1 with z|z
  ·rw[hx]at z;cases z
  ·exact z
 ·obtain⟨sl,e2⟩:=up b o e nd
  exact⟨sl,k4 b _ e2 nd⟩
noncomputable def cxC(cm:Bool)(P:V1)(w:V9)(K:Vg)(mg:Str->Option Vb)(base:Heap)(N:List Str)(qual:Str)(scope:Uv)(f:Addr)(cd:Vb)(A:Uu)(outer:List Vbd)(s:Vc)(H:Hp)(E:XK):Cx :=
 { Xps (CXd P w) P w K mg base N qual scope f cd A outer s H E with calm:=cm}
theorem X25{cm:Bool}{P:V1}{w:V9}{K:Vg}{mg:Str->Option Vb}{base:Heap}{k:Nat}{f:Addr}{name qual:Str}{params:Arguments}{body:List Stmt}{scope:Uv}{dV kV doc pm cdv ct oc:Vb}{an od:Option Addr}
  {osl:Array (Option Vb)} {N ps:List Str} {G:En->Sto->R Fl} {na:Bool} (lk:K.lookup f=some ⟨oc,od,.func (Vcb name qual params body scope dV kV doc pm an cdv ct),osl⟩) (hcd:Vgq K cdv qual=true) (S:FnScope N ps scope)
  (hbody:∀(A:Uu) (outer:List Vbd) (s:Vc) (H:Hp) (E:XK),RoomC cm k (A.deeper (envOfC qual scope s.heap.objs.size f cdv))->DSs (cxC cm P w K mg base N qual scope f cdv A outer s H E) body na G) :
  FnD cm P w K mg base (k+1) f (Vcb name qual params body scope dV kV doc pm an cdv ct) ps (fun ds S=>if ds.length=ps.length then
   match G (ds.map some++Vh (N.length-ps.length) none) S with
   |.ok (.rt v) S=>.ok v S
   |.ok (.nx _) S=>.ok .non S
   |.ok _ _=>.bad
   |.ex n S=>.ex n S
   |.bad=>.bad else .bad):=by
 refine⟨fun A outer s H args us vs Q E hr e0 hb r hsp=>?_⟩
 obtain⟨ds,ρ,S0',hl,rd,sr,nb,hok,hex⟩:=hsp;have hl':ds.length=ps.length:=by rw[rd.length];exact hl
 dsimp only at nb hok hex;rw[iP0 hl']at nb;simp only[iP0 hl']at hok hex;have KX:K.In s.heap:=e0.mod.kin.keeps fun b o e=>(e0.bs b o e).1
 have lim:s.heap.NoLimit:=e0.mod.nolimit.keeps fun b o e=>(e0.bs b o e).1
 have hkind:∀y∈ps.zip us,scope.names.lookup y.1=some .local\/(scope.names.lookup y.1=some .cell/\((Vbt (s.heap.objs.size+1) scope.names []).lookup y.1).isSome=true):=fun⟨n,v⟩ hy=>by
  rcases S.par n (List.of_mem_zip hy).1 with q|q
  ·exact .inl q
  ·exact .inr ⟨q,Vfp _ _ _ (.inl q)⟩
 refine codeAny_call_function (by have:=hr.dp;omega) (KX _ _ lk) rfl S.co S.gen rfl (PySem.W.codeRec_of KX hcd) (hb _ _ _ _ ?_)
 refine wpAny_newFunctionEnv_cells S.kind hkind fun env he s1 x=>?_
 subst he;refine⟨lim.keeps x.toInCall.keep,codeAny_func ?_⟩;have hD:=hbody A outer s H E (hr.deeper _);have e0':Env0 P w K mg base { A with handled:=none} outer s H:=⟨e0.frames,e0.mod,e0.bs,e0.bsz,e0.funs,e0.frf,e0.hok,e0.bare⟩
 have I:Inv (cxC cm P w K mg base N qual scope f cdv A outer s H E) [] (start N vs) H s1:=by
  have I0:Inv (Xps (CXd P w) P w K mg base N qual scope f cdv { A with handled:=none} outer s H E) [] (start N vs) H s1:=Xrx S rfl e0' hl r x
  exact⟨⟨I0.ok.mod,I0.ok.kind,I0.ok.glob,I0.ok.blt,I0.ok.above,I0.ok.inj,I0.ok.has,I0.ok.cab,(fun z=>hr.hd z),I0.ok.frames,I0.ok.stk,I0.ok.exf,I0.ok.bs,I0.ok.bsz,I0.ok.noex,I0.ok.exfs,I0.ok.funs,I0.ok.frf⟩,I0.os,I0.bare,I0.base,I0.loc,I0.cell,I0.free,I0.freeC,I0.pin,I0.hok,I0.len⟩
 have J:S0 (cxC cm P w K mg base N qual scope f cdv A outer s H E) [] (start N vs) H s1 ρ S0' (ds.map some++Vh (N.length-ps.length) none):=by
  refine⟨I,sr,⟨?_,fun i d e=>?_⟩⟩
  ·unfold L2.start;simp[rd.length,hl]
  ·by_cases hi:i<ds.length
   ·rw[Vt (by simpa using hi),Vx]at e
    cases q:ds[i]? with
    |none=>rw[q]at e;cases e
    |some d' =>
     rw[q]at e;cases e;obtain⟨v,h1,h2⟩:=rd.get q;refine⟨v,?_,h2⟩;unfold L2.start;rw[Vt (by rw[Vj,<- rd.length];exact hi),Vx,h1];rfl
   ·rw[U5 (by simpa using hi),Vcv]at e
    split at e<;>cases e
 have nb':G (ds.map some++Vh (N.length-ps.length) none) S0'≠.bad:=fun z=>nb (by rw[z])
 refine Vn (hD [] s1 (start N vs) H ρ S0' _ J nb') (fun fl s' hs=>?_) fun e s' hs=>?_
 ·obtain⟨y,S1,e1,hs⟩:=hs
  rw[e1]at nb hok;cases y with
  |nx e =>
   obtain⟨rfl,σ',H',ρ',J',st',_⟩:=hs;exact⟨.non,H',J'.inv.os,J'.inv.bare,J'.inv.base,J'.inv.hok,rfl,hok .non S1 .non H' ρ' rfl (by simp only[RD]) J'.sr st'⟩
  |rt d =>
   obtain⟨u,v,σ',H',ρ',rfl,J',rv,rd',sr',st'⟩:=hs;exact⟨v,H',J'.os,J'.bare,J'.base,J'.hok,rv,hok d S1 v H' ρ' rfl rd' sr' st'⟩
  |brk e=>exact aB0 rfl nb
  |cnt e=>exact aB0 rfl nb
 ·obtain⟨n,S1,σ',e1,_,H',ρ',a,c,J',rfl,hn,hc,sr',st',fl⟩:=hs
  rw[e1]at hex;obtain⟨C,_,ha⟩:=(show ∃C,Yy K c=some C/\H' a=some (.ext (ExcO C a)) from sr'.ob n a _ hn hc);exact Xy6 J' rfl rfl rfl ha fl fun h' un hok tr=>⟨H',J'.os,J'.bare,un,hok,⟨a,rfl,tr⟩,hex n c S1 a H' ρ' rfl hn hc sr' st'⟩
end
abbrev RX:List (List Int×Addr×V)->List (List Int×Addr×Vb)->Prop:=Paired fun p q=>p.1=q.1/\p.2.1=q.2.1/\RelV p.2.2 q.2.2
noncomputable def Xeg(xs:List (List Int×Addr×V))(k:List Int)(b:Addr)(v:V):List (List Int×Addr×V) :=
 if xs.any (fun p=>decide (p.1=k)) then xs.map (fun p=>if p.1=k then (p.1,p.2.1,v) else p) else xs++[(k,b,v)]
section
variable{K:Vg}{ρ:List Addr}{H:Hp}{kvs:List (List Int×D)}{xs:List (List Int×Addr×V)}{ys:List (List Int×Addr×Vb)}{k:List Int}{b:Addr}{d:D}{v:V}{u:Vb}
theorem X26(r:DX K ρ H kvs xs)(q:RX xs ys):match Y0 kvs k with
  |none=>atKey ys k=none
  |some d=>∃c v u,atKey ys k=some (c,u)/\RelV v u/\RD K ρ H d v:=by
 induction r generalizing ys with
 |nil=>cases q;rfl
 |@cons p x ps qs h t ih =>
  cases q with
  |@cons _ y _ zs h2 t2 =>
   have:=ih t2;obtain⟨e1,e2,e3⟩:=h;obtain⟨f1,f2,f3⟩:=h2
   by_cases e:p.1=k
   ·have a1:Y0 (p::ps) k=some p.2:=by simp[Y0,e]
    have a2:atKey (y::zs) k=some y.2:=by simp[atKey,<- f1,<- e1,e]
    rw[a1];exact⟨_,_,_,a2,f3,e3⟩
   ·have a1:Y0 (p::ps) k=Y0 ps k:=by simp[Y0,e]
    have a2:atKey (y::zs) k=atKey zs k:=by simp[atKey,<- f1,<- e1,e]
    rw[a1,a2];exact this
theorem Xy7(r:DX K ρ H kvs xs)(k:List Int):xs.any (fun p=>decide (p.1=k))=(Y0 kvs k).isSome:=by
 induction r with
 |nil=>rfl
 |@cons p x ps qs h t ih =>
  by_cases e:p.1=k
  ·simp[Y0,<- h.1,e]
  ·have a1:Y0 (p::ps) k=Y0 ps k:=by simp[Y0,e]
   rw[a1,List.any_cons,ih,<- h.1];simp[e]
theorem X27(r:DX K ρ H kvs xs)(hb:SqT K H b (k.map V.int))(hd:RD K ρ H d v):DX K ρ H (Xb0 kvs k d) (Xeg xs k b v):=by
 unfold Xb0 Xeg;rw[Xy7 r k];split
 ·rename_i hz
  clear hb hz
  induction r with
  |nil=>exact .nil
  |@cons p x ps qs h t ih =>
   rw[Vab,Vab];refine .cons ?_ ih;obtain⟨h1,h2,h3⟩:=h
   by_cases e:p.1=k
   ·rw[iP0 e,iP0 (h1.symm.trans e)];exact⟨h1,h2,hd⟩
   ·rw[iN0 e,iN0 (fun z=>e (h1.trans z))];exact⟨h1,h2,h3⟩
 ·exact Paired.snoc r ⟨rfl,hb,hd⟩
theorem Xy8(r:RX xs ys)(k:List Int):xs.any (fun p=>decide (p.1=k))=(atKey ys k).isSome:=by
 induction r with
 |nil=>rfl
 |@cons p x ps qs h t ih =>
  by_cases e:p.1=k
  ·simp[atKey,<- h.1,e]
  ·have a1:atKey (x::qs) k=atKey qs k:=by simp[atKey,<- h.1,e]
   rw[a1,List.any_cons,ih];simp[e]
theorem X28(r:RX xs ys)(rv:RelV v u):RX (Xeg xs k b v) (storedH ys k b u):=by
 unfold Xeg storedH;rw[Xy8 r k];split
 ·rename_i hz
  clear hz
  induction r with
  |nil=>exact .nil
  |@cons p x ps qs h t ih =>
   rw[Vab,Vab];refine .cons ?_ ih;obtain⟨h1,h2,h3⟩:=h;unfold putAt
   by_cases e:p.1=k
   ·rw[iP0 e,iP0 (h1.symm.trans e)];exact⟨h1,h2,rv⟩
   ·rw[iN0 e,iN0 (fun z=>e (h1.trans z))];exact⟨h1,h2,h3⟩
 ·exact Paired.snoc r ⟨rfl,rfl,rv⟩
theorem Xux:(Xeg xs k b v).length<=xs.length+1:=by
 unfold Xeg;split
 ·rw[Vj];omega
 ·rw[Uf];exact Vl _
theorem Xuy:Xb0 kvs k d≠[]:=by
 unfold Xb0;split
 ·rename_i h
  cases kvs with
  |nil=>cases h
  |cons p r=>exact fun z=>by cases z
 ·simp
end
section
variable{X:Cx}{pa:List (Addr×Obj)}{σ:L2.St}{H:Hp}{s:Vc}{ρ:List Addr}{S S':Sto}{env:En}{E:Vb->Vc->Prop}
theorem Xgt{P:V1}{w:V9}:∀ {ks:List Int} {us:List Vb},Vals (ks.map V.int) us->ItemsAre (Vah P w) ks us
 |[],_,r=>by rw[List.map_nil]at r;cases r;exact .nil
 |k::ks,_,r=>by
  rw[Vab]at r;cases r with
  |cons h t =>
   obtain⟨t',rfl⟩:=h;exact .cons (by simp[Vah,Value.isInt]) (Xgt t)
theorem Xhw(I:Inv X pa σ H s)(h:SqT X.K H b (k.map V.int)):(Veg (Vah X.prog X.w)).is s.heap k b:=by
 obtain⟨its,r,⟨o,e,c,n,dt⟩,_⟩:=I.tuple h;exact⟨o,its.toArray,n,e,c,dt,by simpa using Xgt r⟩
theorem S0.dic(I:S0 X pa σ H s ρ S env)(h:Yx S n=some kvs):∃a o xs,ρ[n]?=some a/\s.heap.get? a=some o/\Xf5 a o xs/\DX X.K ρ H kvs xs/\(Xdw S n=some kvs->Mut (H a)/\∀o u,H a≠some (.frz o u)):=by
 unfold Yx at h;unfold Xdw;cases e:S[n]? with
 |none=>rw[e]at h;cases h
 |some ob =>
  rw[e]at h;obtain⟨a,ha,q⟩:=I.sr.adr e;cases ob with
  |lst _=>cases h
  |exc _=>cases h
  |fdc kv =>
   cases h;obtain⟨o,u,xs,h1,_,_,h2,h3⟩:=q;obtain⟨e1,_⟩:=(show ObjOk X.prog X.w H s.heap a (.frz o u) from I.inv.hok a _ h1);exact⟨a,o,xs,ha,e1,h2,h3,fun z=>by simp at z⟩
  |dct kv =>
   cases h;rcases q with⟨rfl,hv⟩|⟨_,xs,hv,hx⟩
   ·obtain⟨_,hm,vs,r,ob,es,ep,ho,hx,hd,hh⟩:=I.inv.hok a _ hv
    cases r;have hes:es.toList=[]:=by
     have z:=hh.2.1;cases q:es.toList with
     |nil=>rfl
     |cons x r=>rw[q]at z;cases z
    exact⟨a,ob,[],ha,ho,⟨hm,Ul _,hx,[],es,ep,.nil,hd,fun _ _=>hes,Vgx⟩,.nil,fun _=>⟨by rw[hv];trivial,fun o u z=>by rw[hv]at z;cases z⟩⟩
   ·obtain⟨⟨o,e1,h2⟩,_,_⟩:=(show ObjOk X.prog X.w H s.heap a (.ext (DicO a xs)) from I.inv.hok a _ hv)
    exact⟨a,o,xs,ha,e1,h2,hx,fun _=>⟨by rw[hv];trivial,fun o u z=>by rw[hv]at z;cases z⟩⟩
theorem Xxy(I:Inv X pa σ H s)(ho:s.heap.get? a=some o)(f:Xf5 a o xs)(r:DX X.K ρ H kvs xs):∃ys,RX xs ys/\s.heap.DictOfH (Veg (Vah X.prog X.w)) a ys:=by
 obtain⟨f1,f2,hx,ys,es,ep,q,hd,he,nd⟩:=f;refine⟨ys,q,o,es,ep,ho,hx,hd,he _ _,?_,nd⟩;clear he nd f2
 induction r generalizing ys with
 |nil=>cases q;exact fun _ z=>nomatch z
 |@cons p x ps qs h t ih =>
  cases q with
  |@cons _ y _ zs h2 t2 =>
   intro z hz;rcases Vv.mp hz with e|hz
   ·subst e
    rw[<- h2.1,<- h2.2.1,<- h.1];exact Xhw I h.2.1
   ·exact ih zs t2 z hz
theorem Xxz:∀ {ds:List D} {ks:List Int},Xl ds=some ks->ds=ks.map D.int
 |[],ks,h=>by cases h;rfl
 |.int i::r,ks,h=>by
  simp only[Xl,Ui]at h;obtain⟨ks',h1,rfl⟩:=h;rw[Xxz h1];rfl
 |.non::r,ks,h=>by cases h
 |.bl _::r,ks,h=>by cases h
 |.str _::r,ks,h=>by cases h
 |.tup _::r,ks,h=>by cases h
 |.ref _::r,ks,h=>by cases h
 |.fro _::r,ks,h=>by cases h
 |.fn _ _::r,ks,h=>by cases h
theorem Xsb{K:Vg}(h:Xl ds=some ks)(r:RD K ρ H (.tup ds) v):∃b,v=.ref b/\SqT K H b (ks.map V.int):=by
 simp only[RD]at r;obtain⟨b,vs,rfl,h1,h2⟩:=r;rw[Xxz h]at h2;rw[RDs.ints_of h2]at h1;exact⟨b,rfl,h1⟩
theorem X7h(hu:X.A.units+1<cLine)(I:S0 X pa σ H s ρ S env)(nb:Xcu x ds S≠.bad)(rx:RD X.K ρ H x vx)(qx:RelV vx ux)(rd:RDs X.K ρ H ds vs)(rv:Vals vs us) :
  Vf (Vk X.prog X.w) X.A (call (.builtin "dict.get") (ux::us)) (OkP X pa σ ρ H (Xcu x ds S)) E s:=by
 unfold Xcu at nb ⊢;cases x with
 |ref n =>
  match ds,rd,nb with
  |[],_,nb=>exact aB0 rfl nb
  |[_],_,nb=>exact aB0 rfl nb
  |_::_::_::_,_,nb=>exact aB0 rfl nb
  |[kd,d],rd,nb =>
   cases kd with
   |tup ks =>
    dsimp only at nb ⊢;cases e1:Yx S n with
    |none=>rw[e1]at nb;exact aB0 rfl nb
    |some kvs =>
     cases e2:Xl ks with
     |none=>rw[e1,e2]at nb;exact aB0 rfl nb
     |some r =>
      dsimp only;obtain⟨a,o,xs,ha,ho,f,hx,_⟩:=I.dic e1;obtain⟨ys,q,dd⟩:=Xxy I.inv ho f hx;rw[RD]at rx;obtain⟨a',rfl,ha'⟩:=rx;rw[ha]at ha';cases ha';cases qx;simp only[RDs]at rd;obtain⟨v1,r1,rfl,rd1,v2,r2,rfl,rd2,rfl⟩:=rd;obtain⟨b,rfl,hb⟩:=Xsb e2 rd1;cases rv with
      |cons p1 p2=>cases p2 with
       |cons p3 p4 =>
        cases p4;cases p1;refine call_meetsIn Vf7 dd.typeIs PySem.F.entry_dict_get (PySem.F.args_dict_get_3 _ _ _) (meetsH_dict_get_default (Veg (Vah X.prog X.w)) a b f.1 _) ⟨tupleKind_room_in1 hu,r,ys,Xhw I.inv hb,dd,?_⟩;have g:=X26 (k:=r) hx q;cases e3:Y0 kvs r with
        |none =>
         rw[e3]at g;rw[g];exact .mk .refl (I.inv.tok _) p3 rd2 I.sr
        |some d' =>
         rw[e3]at g;obtain⟨c,v,u,g1,g2,g3⟩:=g;rw[g1];exact .mk .refl (I.inv.tok _) g2 g3 I.sr
   |_=>exact aB0 rfl nb
 |_=>exact aB0 rfl nb
theorem X29(hu:X.A.units+1<cLine)(I:S0 X pa σ H s ρ S env)(e1:Xdw S n=some kvs)(e2:Xl ks=some r)(hz:kvs.length<big)(rx:RD X.K ρ H (.ref n) vx)(qx:RelV vx ux)(ry:RD X.K ρ H (.tup ks) vy)(qy:RelV vy uy)(rd:RD X.K ρ H d v)(rv:RelV v u)
  (hQ:∀s' H',S0 X pa σ H' s' ρ (S.set n (.dct (Xb0 kvs r d))) env->Stp X.K ρ ρ H H'->Q () s'):Vf (Vk X.prog X.w) X.A (setItem ux uy u) Q E s:=by
 have e1':Yx S n=some kvs:=by
  unfold Xdw at e1;unfold Yx;split at e1
  ·rename_i e;rw[e];exact e1
  ·cases e1
 obtain⟨a,o,xs,ha,ho,f,hx,mu⟩:=I.dic e1';obtain⟨mu,nf⟩:=mu e1;obtain⟨ys,q,dd⟩:=Xxy I.inv ho f hx;rw[RD]at rx;obtain⟨a',rfl,ha'⟩:=rx;rw[ha]at ha';cases ha';cases qx;obtain⟨b,rfl,hb⟩:=Xsb e2 ry;cases qy;have hl:xs.length=kvs.length:=(Veo hx).symm;have hly:ys.length=kvs.length:=by rw[<- Veo q];exact hl
 have hbig:big<Vw:=by decide
 refine wpAny_setItem_heap (knd:=Veg (Vah X.prog X.w)) (k:=r) (xs:=ys) (hsz:=by omega) (tupleKind_room_in1 hu) (Xhw I.inv hb) dd fun h' dd' hs=>?_
 have st:Stp X.K ρ ρ H (upd H a (.ext (DicO a (Xeg xs r b v)))):=Stp.chg (S:=S) (o:=.dct (Xb0 kvs r d)) I.sr ha nf;have hx':=(X27 hx hb rd).mono st.toMon;obtain⟨o',es,ep,g1,g2,g3,g4,_,g6⟩:=dd';have df:Xf5 a o' (Xeg xs r b v):=⟨f.1,by have:=Xux (xs:=xs) (k:=r) (b:=b) (v:=v);omega,g2,_,es,ep,X28 q rv,g3,fun _ _=>g4,g6⟩
 have J:=I.inv.write (x:=a) (e:=a) (t':=s.toks+(Veg (Vah X.prog X.w)).draws r) mu (.inl rfl) (fun c w hc z=>(hs.2 c hc).trans z) ⟨_,g1⟩ (DicO.ok ⟨o',g1,df⟩)
 exact hQ _ _ ⟨J,I.sr.chg ha nf (.inr ⟨Xuy,_,X6,hx'⟩),I.er.mono st⟩ st
end
theorem Xe2{pa:List (Addr×Obj)}{t':Nat}{fp:List Addr}(I:Inv X pa σ H s)(hf:∀b∈fp,Xat X pa H b)
  (k:∀b o,b ∉ fp->s.heap.get? b=some o->h'.get? b=some o):Inv X pa σ H {s with heap:=h',toks:=t' }:=by
 have nit:∀b u,H b=some u->b ∉ fp:=fun b u e z=>by rw[(hf b z).1]at e;cases e
 refine I.step (g':=s.gens) (d':=s.drawn) (ch:=fp) (fun b hb=>⟨(hf b hb).2.2.2.1,(hf b hb).2.1,(hf b hb).2.2.2.2.1,(hf b hb).2.2.2.2.2⟩)
  (fun b o _ _ hc e _=>k b o hc e) (fun b o _ _ hc e _=>⟨o.slots,k b o hc e⟩) (fun _ _ _ _ n=>n)
  (fun b o hc e=>⟨o,k b o hc e⟩) (fun _ _ e=>e) (fun _ _ _ e=>e) (fun b ps e=>⟨#[],by rw[e];simp⟩) (fun m hm=>?_) (fun b u e=>?_) I.bare
 ·obtain⟨o,es,ep,ho,r⟩:=hm
  exact⟨o,es,ep,k _ o (fun z=>(hf _ z).2.1 rfl) ho,r⟩
 ·refine(I.hok b u e).stay (fun c v hc q=>k c v ?_ q) (fun _ q=>q) fun _ _ q=>q
  rcases hc with z|z
  ·rw[z];exact nit b u e
  ·exact nit c _ z
def SqK(k:Bool)(h:Heap)(a:Addr)(xs:Array Vb):Prop:=match k with
 |true=>h.IsList a xs
 |false=>h.IsTuple a xs
def ItK(k:Bool)(h:Heap)(i a:Addr)(n:Nat):Prop:=match k with
 |true=>h.IsListIter i a n
 |false=>h.IsTupleIter i a n
def SqH(k:Bool)(K:Vg)(H:Hp)(a:Addr)(vs:List V):Prop:=match k with
 |true=>SqL K H a vs
 |false=>SqT K H a vs
section
variable{k:Bool}{h h':Heap}{a b i:Addr}{n:Nat}{xs:Array Vb}
theorem SqK.at(x:SqK k h a xs)(e:∀o,h.get? a=some o->h'.get? a=some o):SqK k h' a xs:=by
 cases k<;>(obtain⟨o,ho,r⟩:=x;exact⟨o,e _ ho,r⟩)
theorem ItK.at(x:ItK k h i a n)(e:∀o,h.get? i=some o->h'.get? i=some o):ItK k h' i a n:=by
 cases k<;>(obtain⟨o,ho,r⟩:=x;exact⟨o,e _ ho,r⟩)
theorem SqK.obj(x:SqK k h a xs):∃o,h.get? a=some o/\(o.cls=.type "list" \/ o.cls=.type "tuple"):=by
 cases k
 ·obtain⟨o,e,c,_⟩:=x;exact⟨o,e,.inr c⟩
 ·obtain⟨o,e,c,_⟩:=x;exact⟨o,e,.inl c⟩
theorem ItK.obj(x:ItK k h i a n):∃o,h.get? i=some o/\(o.cls=.type "list_iterator" \/ o.cls=.type "tuple_iterator")/\∀v,o.data≠.cell v:=by
 cases k
 ·obtain⟨o,e,c,d⟩:=x;exact⟨o,e,.inr c,fun v z=>by rw[d]at z;cases z⟩
 ·obtain⟨o,e,c,d⟩:=x;exact⟨o,e,.inl c,fun v z=>by rw[d]at z;cases z⟩
end
theorem Xf7(I:Inv X pa σ H s)(h:SqH k X.K H a vs):∃its:List Vb,Vals vs its/\SqK k s.heap a its.toArray:=by
 cases k
 ·obtain⟨its,rv,p,_⟩:=I.tuple h;exact⟨its,rv,show s.heap.IsTuple a its.toArray from p⟩
 ·obtain⟨its,rv,p,_⟩:=I.list h;exact⟨its,rv,p.isList⟩
theorem Xlj(I:Inv X pa σ H s)(h:SqH k X.K H a vs)(h':SqH k X.K H a us):vs=us:=by
 cases k
 ·exact I.tuple_inj h h'
 ·exact I.list_inj h h'
section
variable{prog:V1}{w:V9}{A:Uu}{E:Vb->Vc->Prop}{s:Vc}
theorem Xuz(hit:s.heap.IsTupleIter it t i)(ht:s.heap.IsTuple t items)(hx:items[i]?=some x)
  (hQ:∀h',h'.IsTupleIter it t (i+1)->Vac it s.heap h'->Q x {s with heap:=h' }):Vf (Vk prog w) A (Ud (.ref it)) Q E s:=by
 obtain⟨o,ho,hc,hd⟩:=id hit;obtain⟨ol,hol,_,nl,hdl⟩:=ht;unfold Ud;refine Va (Vae (name:=U9 "__next__") hit.typeIs Vda (Uk Vda hit.typeIs Vg3 ?_ (Vgy _)));show Vf _ _ (field (.ref it) 0 >>= _) _ _ s;refine Va (U7 ho hd (x:=.ref t) rfl ?_);show Vf _ _ (if (Vas t==U1)=true then _ else _) _ _ s;rw[iN0 (show ¬ ((Vas t==U1)=true) from V7)]
 show Vf _ _ (field (.ref it) 1 >>= _) _ _ s;refine Va (U7 ho hd (x:=.int i 0) rfl ?_);show Vf _ _ (seqItems? (.ref t) >>= _) _ _ s;refine Va (Vc0 hol hdl ?_);simp only[Vaz,hx];refine Va (Vgw ho hd (by simp) (Vd ⟨x,rfl,Vd (hQ _ ⟨_,Vd8 _ ho (Obj.isFreed_of_fields (Obj.data_mapFields hd _)),(Obj.cls_mapFields ..).trans hc,by rw[Obj.data_mapFields hd];simp[Uq]⟩ (Vdq ..))⟩))
theorem Xy9(hh:A.handled=none)(hit:s.heap.IsTupleIter it t i)(ht:s.heap.IsTuple t items)(hx:items[i]?=none)
  (hE:∀h' e,Heap.ExtBut it s.heap h'->(∃o,h'.get? e=some o/\o.cls=.type "StopIteration")->E (.ref e) {s with heap:=h' }):Vf (Vk prog w) A (Ud (.ref it)) Q E s:=by
 obtain⟨o,ho,hc,hd⟩:=id hit;obtain⟨ol,hol,_,nl,hdl⟩:=ht;unfold Ud;refine Va (Vae (name:=U9 "__next__") hit.typeIs Vda (Uk Vda hit.typeIs Vg3 ?_ (Vgy _)));show Vf _ _ (field (.ref it) 0 >>= _) _ _ s;refine Va (U7 ho hd (x:=.ref t) rfl ?_);show Vf _ _ (if (Vas t==U1)=true then _ else _) _ _ s;rw[iN0 (show ¬ ((Vas t==U1)=true) from V7)]
 show Vf _ _ (field (.ref it) 1 >>= _) _ _ s;refine Va (U7 ho hd (x:=.int i 0) rfl ?_);show Vf _ _ (seqItems? (.ref t) >>= _) _ _ s;refine Va (Vc0 hol hdl ?_);simp only[Vaz,hx];refine Va (Vdy (Va (Vgw ho hd (by simp) ?_)))
 show Vf _ _ (newExc (.type "StopIteration") [] >>= _) _ _ _;refine Va ?_;simp only[newExc,newTuple];refine Va (Uj ?_ (by size_fits));refine Va (m:=Ved _ _) (Vet (a:=U1) (by first|rfl|(simp only[Ved];rfl)) ?_)
 refine Uj ?_ (by size_fits);simp only[raiseNew];refine Va (wpAny_handled ?_)
 first|rw[show A.in1.handled=none from hh]|rw[hh]
 exact Va (Vd (wpAny_throw (hE _ _ (((Vdq ..).extBut.push _).push _) ⟨_,Vm _ rfl,rfl⟩)))
theorem nxK(hit:ItK k s.heap it t i)(ht:SqK k s.heap t items)(hx:items[i]?=some x)
  (hQ:∀h',ItK k h' it t (i+1)->Vac it s.heap h'->Q x {s with heap:=h' }):Vf (Vk prog w) A (Ud (.ref it)) Q E s:=by
 cases k
 ·exact Xuz hit ht hx hQ
 ·exact wpAny_nextOf_list_item hit ht hx hQ
theorem Xp0(hh:A.handled=none)(hit:ItK k s.heap it t i)(ht:SqK k s.heap t items)(hx:items[i]?=none)
  (hE:∀h' e,Heap.ExtBut it s.heap h'->(∃o,h'.get? e=some o/\o.cls=.type "StopIteration")->E (.ref e) {s with heap:=h' }):Vf (Vk prog w) A (Ud (.ref it)) Q E s:=by
 cases k
 ·exact Xy9 hh hit ht hx hE
 ·exact wpAny_nextOf_list_end hh hit ht hx hE
noncomputable def Xlk(k:Bool):String:=match k with
 |true => "list_iterator"
 |false => "tuple_iterator"
theorem Xx0(h:SqK k s.heap a xs)(hQ:Q (.ref s.heap.objs.size) {s with heap:=s.heap.push {cls:=.type (Xlk k),data:=.fields #[.ref a,.int 0 0]} }) :
  Vf (Vk prog w) A (Vdw (.ref a)) Q E s:=by
 cases k
 ·exact Vg4 h hQ
 ·exact Vfm h hQ
theorem Xom(e:h.get? i=some {cls:=.type (Xlk k),data:=.fields #[.ref a,.int 0 0]}):ItK k h i a 0:=by
 cases k<;>exact⟨_,e,rfl,rfl⟩
end
structure ZAp(z I O i j a b:Addr):Prop where
 Iz:I≠z
 Oz:O≠z
 iz:i≠z
 jz:j≠z
 IO:I≠O
 Ii:I≠i
 Ij:I≠j
 Oi:O≠i
 Oj:O≠j
 ij:i≠j
 a_:a≠z/\a≠O/\a≠i/\a≠j
 b_:b≠z/\b≠O/\b≠i/\b≠j
abbrev IsZ(h:Heap)(z I O:Addr)(f0 f1:Vb):Prop :=
 h.get? z=some {cls:=.type "zip",dict:=none,data:=.fields #[f0,f1,.bool false,.ref I,.ref O],slots:=#[]}
structure ZSa(k1 k2:Bool)(z I O i j a b:Addr)(n m:Nat)(h:Heap):Prop where
 zo:∃f0 f1,IsZ h z I O f0 f1/\(f0=.none\/∃T:Nat,f0=Uq T)
 io:IsPair h I (.ref i) (.ref j)
 oo:∃x y,IsPair h O x y
 i1:ItK k1 h i a n
 i2:ItK k2 h j b m
section
variable(k1 k2:Bool)(h:Heap)(a b:Addr)
noncomputable abbrev zp1:Heap:=h.push {cls:=.type (Xlk k1),data:=.fields #[.ref a,.int 0 0]}
noncomputable abbrev zp2:Heap:=(zp1 k1 h a).push {cls:=.type (Xlk k2),data:=.fields #[.ref b,.int 0 0]}
noncomputable abbrev zp3:Heap:=(zp2 k1 k2 h a b).push {cls:=.type "tuple",data:=.seq #[.ref h.objs.size,.ref (zp1 k1 h a).objs.size]}
noncomputable abbrev zp4:Heap:=(zp3 k1 k2 h a b).push {cls:=.type "tuple",data:=.seq #[.none,.none]}
noncomputable abbrev zp5:Heap:=(zp4 k1 k2 h a b).push {cls:=.type "zip",data:=.fields #[.none,.bool false,.bool false,.ref (zp2 k1 k2 h a b).objs.size,.ref (zp3 k1 k2 h a b).objs.size]}
end
theorem Xsc(k1 k2:Bool)(a b:Addr)(xs ys:Array Vb):Meets (Va2.«zip.__new__» ⟨[.type "zip",.ref a,.ref b],[]⟩) (fun _ R s=>SqK k1 s.heap a xs/\SqK k2 s.heap b ys/\R (.ok (.ret (.ref (zp4 k1 k2 s.heap a b).objs.size))) {s with heap:=zp5 k1 k2 s.heap a b}) :=
 .of_wp fun prog w A R s h=>by
  obtain⟨hp,g,d,tk,os⟩:=s;obtain⟨h1,h2,h⟩:=h;have hsub:=sub_zip;have L1:SqK k1 (Shared.heap ⟨hp,g,d,tk,os⟩) a xs:=h1;have L2:SqK k2 (Shared.heap ⟨hp.push {cls:=.type (Xlk k1),data:=.fields #[.ref a,.int 0 0]},g,d,tk,os⟩) b ys:=h2.at fun o e=>Ve _ e
  wp_walk using Xx0 L1,Xx0 L2
  exact⟨_,rfl,h⟩
theorem Xu0(h1:SqK k1 s.heap a xs)(h2:SqK k2 s.heap b ys)
  (h:∀h',ZSa k1 k2 (s.heap.objs.size+4) (s.heap.objs.size+2) (s.heap.objs.size+3) s.heap.objs.size (s.heap.objs.size+1) a b 0 0 h'->(∀c o,s.heap.get? c=some o->h'.get? c=some o)->Q (.ref (s.heap.objs.size+4)) {s with heap:=h' }) :
  Vf (Vk prog w) A (call (.type "zip") [.ref a,.ref b]) Q E s:=by
 refine callType_new F.called_zip (by decide) (F.typeCall_zip_2 _ _) (F.newCall_zip_2 _ _) (fun obj=>F.args_object_init_3 obj _ _) F.entry_zip_new (Xsc k1 k2 a b xs ys) ⟨h1,h2,?_⟩
 have z1:(zp1 k1 s.heap a).objs.size=s.heap.objs.size+1:=Vaa ..;have z2:(zp2 k1 k2 s.heap a b).objs.size=s.heap.objs.size+2:=by rw[Vaa,z1]
 have z3:(zp3 k1 k2 s.heap a b).objs.size=s.heap.objs.size+3:=by rw[Vaa,z2]
 have z4:(zp4 k1 k2 s.heap a b).objs.size=s.heap.objs.size+4:=by rw[Vaa,z3]
 have g5:(zp5 k1 k2 s.heap a b).get? (zp4 k1 k2 s.heap a b).objs.size=some _:=Vm _ rfl;have g4:(zp5 k1 k2 s.heap a b).get? (zp3 k1 k2 s.heap a b).objs.size=some _:=Ve _ (Vm _ rfl);have g3:(zp5 k1 k2 s.heap a b).get? (zp2 k1 k2 s.heap a b).objs.size=some _:=Ve _ (Ve _ (Vm _ rfl));have g2:(zp5 k1 k2 s.heap a b).get? (zp1 k1 s.heap a).objs.size=some _:=Ve _ (Ve _ (Ve _ (Vm _ rfl)));have g1:(zp5 k1 k2 s.heap a b).get? s.heap.objs.size=some _:=Ve _ (Ve _ (Ve _ (Ve _ (Vm _ rfl))));show _/\_;rw[z2,z3,z4]at g5;rw[z1,z2]at g3;rw[z3]at g4;rw[z1]at g2;rw[z4];exact⟨⟨_,g5,rfl⟩,h _ ⟨⟨_,_,g5,.inl rfl⟩,g3,⟨_,_,g4⟩,Xom g1,Xom g2⟩ fun c o q=>Ve _ (Ve _ (Ve _ (Ve _ (Ve _ q))))⟩
noncomputable def Itz(K:Vg)(k1 k2:Bool)(a b:Addr):L2.It :=
 ⟨fun n H=>∃xs x ys y,SqH k1 K H a xs/\xs[n]?=some x/\SqH k2 K H b ys/\ys[n]?=some y,
   fun n H v H'=>∃T x y,v=.ref T/\H T=none/\H'=upd H T (.tup [x,y])/\(∀xs,SqH k1 K H a xs->xs[n]?=some x)/\∀ys,SqH k2 K H b ys->ys[n]?=some y,
   fun n H=>∃xs ys,SqH k1 K H a xs/\SqH k2 K H b ys/\(xs.length<=n\/ys.length<=n)⟩
theorem Xll{h:Heap}{o u:Obj}{c:Addr}(e:(h.push o).get? c=some u)(hc:c≠h.objs.size):h.get? c=some u:=by
 rw[Heap.get?_push_ne h c o hc]at e;exact e
section
variable{prog:V1}{w:V9}{A:Uu}{E:Vb->Vc->Prop}{s:Vc}{k1 k2:Bool}{z I O i j a b:Addr}{f0 f1:Vb}{n:Nat}{xs ys:Array Vb}{x y:Vb}
theorem Xsd(h:Q (s.heap.get? a) s):Vf M A (loadIfAlive a) Q E s:=fun _ _ _=>h
theorem Xlm(hz:IsZ s.heap z I O f0 f1)(hf:f0=.none\/∃T:Nat,f0=Uq T)(h1:Q' true s)(h2:∀h' (T:Nat),IsZ h' z I O (Uq T) (.bool true)->Vac z s.heap h'->Q' false {s with heap:=h' }):Vf (Vk prog w) A (Vb3 (.ref z)) Q' E s:=by
 unfold Vb3;rcases hf with rfl|⟨T,rfl⟩
 ·exact Va (U7 hz rfl (x:=.none) rfl (Vd h1))
 ·refine Va (U7 hz rfl (x:=Uq T) rfl ?_)
  show Vf _ _ (loadIfAlive (Ve5 (T:Int)) >>= _) _ _ _;refine Va (Xsd ?_);cases s.heap.get? (Ve5 (T:Int)) with
  |none =>
   simp only[Option.isNone_none,if_true];exact Vd h1
  |some o =>
   simp only[Option.isNone_some,V2,if_false];refine Va (U7 hz rfl (x:=f1) rfl ?_);split
   ·exact Va (Uy hz (by simp) fun g5 e5 c5=>Vd (h2 g5 T e5 c5))
   ·rename_i hf
    have:f1=.bool true:=by simpa using hf
    subst this;exact Vd (h2 s.heap T hz (Vhg ..))
theorem Xza{Q:Vb->Vc->Prop}(D:ZAp z I O i j a b)(st:ZSa k1 k2 z I O i j a b n n s.heap)(ha:SqK k1 s.heap a xs)(hb:SqK k2 s.heap b ys)(hx:xs[n]?=some x)(hy:ys[n]?=some y)
  (hQ:∀h',h'.objs.size=s.heap.objs.size+1->ZSa k1 k2 z I O i j a b (n+1) (n+1) h'->IsPair h' s.heap.objs.size x y->(∀c o,c≠z->c≠O->c≠i->c≠j->s.heap.get? c=some o->h'.get? c=some o)->Q (.ref s.heap.objs.size) {s with heap:=h' }) :
  Vf (Vk prog w) A (Va2.«zip.__next__» ⟨[.ref z],[]⟩) (fun fin s'=>∃v,fin=.done (.ret v)/\Q v s') E s:=by
 obtain⟨⟨f0,f1,hz,hf⟩,hI,⟨a0,b0,hO⟩,h1,h2⟩:=st;show Vf _ _ (field (.ref z) 2 >>= _) _ _ _;refine Va (U7 hz rfl (x:=.bool false) rfl ?_);show Vf _ _ (field (.ref z) 3 >>= _) _ _ _;refine Va (U7 hz rfl (x:=.ref I) rfl (Va (Vc0 hI rfl ?_)));show Vf _ _ (Vb3 (.ref z) >>= _) _ _ _;refine Va (Xlm hz hf ?_ fun g1 T z1 c1=>?_)
 ·simp only[if_true]
  refine Va (Vdy (Va (U7 hz rfl (x:=.ref O) rfl (Va (Uy hz (by simp) fun g1 z1 c1=>?_)))))
  replace z1:IsZ g1 z I O .ellipsis f1:=z1
  refine Va ?_;simp only[List.zipIdx_cons,List.zipIdx_nil,Vcq,Vfd];refine Va (Va (wpAny_onRaise ?_));show Vf _ _ (Ud (.ref i) >>= _) _ _ _;refine Va (nxK (h1.at fun o e=>c1.extBut _ _ D.iz e) (ha.at fun o e=>c1.extBut _ _ D.a_.1 e) hx fun g2 i2 c2=>Vd ?_)
  have o2:IsPair g2 O a0 b0:=c2.extBut _ _ D.Oi (c1.extBut _ _ D.Oz hO);refine Va (Vc0 o2 rfl (Va (Vgf o2 fun g3 o3 c3=>?_)))
  replace o3:IsPair g3 O x b0:=o3
  refine Va (wpAny_letGo (Vd (Va (Va (wpAny_onRaise ?_)))));show Vf _ _ (Ud (.ref j) >>= _) _ _ _;have u3:∀c o,c≠z->c≠O->c≠i->s.heap.get? c=some o->g3.get? c=some o:=fun c o e1 e2 e3 e=>c3.extBut _ _ e2 (c2.extBut _ _ e3 (c1.extBut _ _ e1 e))
  refine Va (nxK (h2.at fun o e=>u3 j o D.jz D.Oj.symm D.ij.symm e) (hb.at fun o e=>u3 b o D.b_.1 D.b_.2.1 D.b_.2.2.1 e) hy fun g4 j4 c4=>Vd ?_)
  have o4:IsPair g4 O x b0:=c4.extBut _ _ D.Oj o3;refine Va (Vc0 o4 rfl (Va (Vgf o4 fun g5 o5 c5=>?_)))
  replace o5:IsPair g5 O x y:=o5
  refine Va (wpAny_letGo (Vd (Vd (Va (Vc0 o5 rfl (Va (Vgv ?_)))))));have sz:g5.objs.size=s.heap.objs.size:=by rw[c5.1,c4.1,c3.1,c2.1,c1.1]
  have z5:IsZ g5 z I O .ellipsis f1:=c5.extBut _ _ D.Oz.symm (c4.extBut _ _ D.jz.symm (c3.extBut _ _ D.Oz.symm (c2.extBut _ _ D.iz.symm z1)));have u5:∀c o,c≠z->c≠O->c≠i->c≠j->s.heap.get? c=some o->g5.get? c=some o:=fun c o e1 e2 e3 e4 e=>c5.extBut _ _ e2 (c4.extBut _ _ e4 (u3 c o e1 e2 e3 e))
  have i5:ItK k1 g5 i a (n+1):=i2.at fun o e=>c5.extBut _ _ D.Oi.symm (c4.extBut _ _ D.ij (c3.extBut _ _ D.Oi.symm e))
  have j5:ItK k2 g5 j b (n+1):=j4.at fun o e=>c5.extBut _ _ D.Oj.symm e
  have zlt:z<g5.objs.size:=Vu z5;show Vf _ _ (Ve9 (.ref z) (.ref g5.objs.size) >>= _) _ _ _;refine Va ?_;unfold Ve9;refine Va (Uy (Ve _ z5:IsZ (g5.push {cls:=.type "tuple",data:=.seq #[x,y]}) z I O .ellipsis f1) (by simp) fun g7 z7 c7=>?_)
  replace z7:IsZ g7 z I O (Uq g5.objs.size) f1:=z7
  refine Uy z7 (by simp) fun g8 z8 c8=>?_
  replace z8:IsZ g8 z I O (Uq g5.objs.size) (.bool false):=z8
  have up:∀c o,c≠z->g5.get? c=some o->g8.get? c=some o:=fun c o e1 e=>c8.extBut _ _ e1 (c7.extBut _ _ e1 (Ve _ e))
  have t8:IsPair g8 g5.objs.size x y:=c8.extBut _ _ (Vca zlt) (c7.extBut _ _ (Vca zlt) (Vm _ rfl));rw[sz]at z8 t8;refine Vd ⟨_,rfl,?_⟩;show Q (.ref g5.objs.size) _;rw[sz];exact hQ g8 (by rw[c8.1,c7.1,Vaa,sz]) ⟨⟨_,_,z8,.inr ⟨_,rfl⟩⟩,up _ _ D.Iz (u5 _ _ D.Iz D.IO D.Ii D.Ij hI),⟨_,_,up _ _ D.Oz o5⟩,i5.at fun o e=>up _ o D.iz e,j5.at fun o e=>up _ o D.jz e⟩ t8 fun c o e1 e2 e3 e4 e=>up c o e1 (u5 c o e1 e2 e3 e4 e)
 ·replace c1:Vac z s.heap g1:=c1
  simp only[V2,if_false];rw[show(#[Vas i,Vas j]:Array Vb)=[Vas i,Vas j].toArray from rfl];refine Va ?_;simp only[List.forIn_toArray,Vcq,Vfd];refine Va (Va (Uz ?_));show Vf _ _ (Ud (.ref i) >>= _) _ _ _;refine Va (nxK (h1.at fun o e=>c1.extBut _ _ D.iz e) (ha.at fun o e=>c1.extBut _ _ D.a_.1 e) hx fun g2 i2 c2=>Vd ?_)
  replace c2:Vac i g1 g2:=c2
  refine Vd ?_;dsimp only;refine Va (Va (Uz ?_));show Vf _ _ (Ud (.ref j) >>= _) _ _ _;have u2:∀c o,c≠z->c≠i->s.heap.get? c=some o->g2.get? c=some o:=fun c o e1 e3 e=>c2.extBut _ _ e3 (c1.extBut _ _ e1 e)
  refine Va (nxK (h2.at fun o e=>u2 j o D.jz D.ij.symm e) (hb.at fun o e=>u2 b o D.b_.1 D.b_.2.2.1 e) hy fun g4 j4 c4=>Vd ?_)
  replace c4:Vac j g2 g4:=c4
  refine Vd ?_;dsimp only;refine Vd ?_;dsimp only;show Vf _ _ (newTuple [x,y] >>= _) _ _ _;refine Va (Vgv ?_);have sz:g4.objs.size=s.heap.objs.size:=by rw[c4.1,c2.1,c1.1]
  have z4:IsZ g4 z I O (Uq T) (.bool true):=c4.extBut _ _ D.jz.symm (c2.extBut _ _ D.iz.symm z1);have u4:∀c o,c≠z->c≠i->c≠j->s.heap.get? c=some o->g4.get? c=some o:=fun c o e1 e3 e4 e=>c4.extBut _ _ e4 (u2 c o e1 e3 e)
  have i4:ItK k1 g4 i a (n+1):=i2.at fun o e=>c4.extBut _ _ D.ij e
  refine Vd ⟨_,rfl,?_⟩;show Q (.ref g4.objs.size) _;rw[sz];refine hQ _ (by rw[Vaa,sz]) ⟨⟨_,_,Ve _ z4,.inr ⟨T,rfl⟩⟩,Ve _ (u4 _ _ D.Iz D.Ii D.Ij hI),⟨_,_,Ve _ (u4 _ _ D.Oz D.Oi D.Oj hO)⟩,i4.at fun o e=>Ve _ e,j4.at fun o e=>Ve _ e⟩ ?_ fun c o e1 _ e3 e4 e=>Ve _ (u4 c o e1 e3 e4 e)
  have:IsPair (g4.push {cls:=.type "tuple",data:=.seq #[x,y]}) g4.objs.size x y:=Vm _ rfl;rw[sz]at this;exact this
theorem Xu1(hh:A.handled=none)(D:ZAp z I O i j a b)(st:ZSa k1 k2 z I O i j a b n n s.heap)(ha:SqK k1 s.heap a xs)(hb:SqK k2 s.heap b ys)(hend:xs[n]?=none\/ys[n]?=none)
  (hE:∀h' e,(∀c o,c≠z->c≠O->c≠i->c≠j->s.heap.get? c=some o->h'.get? c=some o)->(∃o,h'.get? e=some o/\o.cls=.type "StopIteration")->E (.ref e) {s with heap:=h' }) :
  Vf (Vk prog w) A (Va2.«zip.__next__» ⟨[.ref z],[]⟩) Q E s:=by
 obtain⟨⟨f0,f1,hz,hf⟩,hI,⟨a0,b0,hO⟩,h1,h2⟩:=st;show Vf _ _ (field (.ref z) 2 >>= _) _ _ _;refine Va (U7 hz rfl (x:=.bool false) rfl ?_);show Vf _ _ (field (.ref z) 3 >>= _) _ _ _;refine Va (U7 hz rfl (x:=.ref I) rfl (Va (Vc0 hI rfl ?_)));show Vf _ _ (Vb3 (.ref z) >>= _) _ _ _;refine Va (Xlm hz hf ?_ fun g1 T z1 c1=>?_)
 ·simp only[if_true]
  refine Va (Vdy (Va (U7 hz rfl (x:=.ref O) rfl (Va (Uy hz (by simp) fun g1 z1 c1=>?_)))))
  replace z1:IsZ g1 z I O .ellipsis f1:=z1
  refine Va ?_;simp only[List.zipIdx_cons,List.zipIdx_nil,Vcq,Vfd];refine Va (Va (wpAny_onRaise ?_));show Vf _ _ (Ud (.ref i) >>= _) _ _ _;cases hx:xs[n]? with
  |none =>
   refine Va (Xp0 hh (h1.at fun o e=>c1.extBut _ _ D.iz e) (ha.at fun o e=>c1.extBut _ _ D.a_.1 e) hx fun g2 e c2 he=>?_)
   obtain⟨oe,hoe,hce⟩:=he;have z2:IsZ g2 z I O .ellipsis f1:=c2 _ _ D.iz.symm z1;have ez:e≠z:=fun q=>by subst q;rw[z2]at hoe;cases hoe;simp at hce
   exact Uy z2 (by simp) fun g3 _ c3=>hE g3 e (fun c o e1 _ e3 _ q=>c3.extBut _ _ e1 (c2 _ _ e3 (c1.extBut _ _ e1 q))) ⟨oe,c3.extBut _ _ ez hoe,hce⟩
  |some x =>
   have hy:ys[n]?=none:=by rcases hend with q|q;rw[hx]at q;cases q;exact q
   refine Va (nxK (h1.at fun o e=>c1.extBut _ _ D.iz e) (ha.at fun o e=>c1.extBut _ _ D.a_.1 e) hx fun g2 i2 c2=>Vd ?_)
   have o2:IsPair g2 O a0 b0:=c2.extBut _ _ D.Oi (c1.extBut _ _ D.Oz hO);refine Va (Vc0 o2 rfl (Va (Vgf o2 fun g3 o3 c3=>Va (wpAny_letGo (Vd (Va (Va (wpAny_onRaise ?_))))))))
   show Vf _ _ (Ud (.ref j) >>= _) _ _ _;have u3:∀c o,c≠z->c≠O->c≠i->s.heap.get? c=some o->g3.get? c=some o:=fun c o e1 e2 e3 e=>c3.extBut _ _ e2 (c2.extBut _ _ e3 (c1.extBut _ _ e1 e))
   refine Va (Xp0 hh (h2.at fun o e=>u3 j o D.jz D.Oj.symm D.ij.symm e) (hb.at fun o e=>u3 b o D.b_.1 D.b_.2.1 D.b_.2.2.1 e) hy fun g4 e c4 he=>?_)
   obtain⟨oe,hoe,hce⟩:=he;have z4:IsZ g4 z I O .ellipsis f1:=c4 _ _ D.jz.symm (c3.extBut _ _ D.Oz.symm (c2.extBut _ _ D.iz.symm z1));have ez:e≠z:=fun q=>by subst q;rw[z4]at hoe;cases hoe;simp at hce
   exact Uy z4 (by simp) fun g5 _ c5=>hE g5 e (fun c o e1 e2 e3 e4 q=>c5.extBut _ _ e1 (c4 _ _ e4 (u3 c o e1 e2 e3 q))) ⟨oe,c5.extBut _ _ ez hoe,hce⟩
 ·replace c1:Vac z s.heap g1:=c1
  simp only[V2,if_false];rw[show(#[Vas i,Vas j]:Array Vb)=[Vas i,Vas j].toArray from rfl];refine Va ?_;simp only[List.forIn_toArray,Vcq,Vfd];refine Va (Va (Uz ?_));show Vf _ _ (Ud (.ref i) >>= _) _ _ _;cases hx:xs[n]? with
  |none =>
   exact Va (Xp0 hh (h1.at fun o e=>c1.extBut _ _ D.iz e) (ha.at fun o e=>c1.extBut _ _ D.a_.1 e) hx fun g2 e c2 he=>hE g2 e (fun c o e1 _ e3 _ q=>c2 _ _ e3 (c1.extBut _ _ e1 q)) he)
  |some x =>
   have hy:ys[n]?=none:=by rcases hend with q|q;rw[hx]at q;cases q;exact q
   refine Va (nxK (h1.at fun o e=>c1.extBut _ _ D.iz e) (ha.at fun o e=>c1.extBut _ _ D.a_.1 e) hx fun g2 i2 c2=>Vd ?_)
   replace c2:Vac i g1 g2:=c2
   refine Vd ?_;dsimp only;refine Va (Va (Uz ?_));show Vf _ _ (Ud (.ref j) >>= _) _ _ _;have u2:∀c o,c≠z->c≠i->s.heap.get? c=some o->g2.get? c=some o:=fun c o e1 e3 e=>c2.extBut _ _ e3 (c1.extBut _ _ e1 e)
   exact Va (Xp0 hh (h2.at fun o e=>u2 j o D.jz D.ij.symm e) (hb.at fun o e=>u2 b o D.b_.1 D.b_.2.2.1 e) hy fun g4 e c4 he=>hE g4 e (fun c o e1 _ e3 e4 q=>c4 _ _ e4 (u2 c o e1 e3 q)) he)
theorem ZSa.ty(st:ZSa k1 k2 z I O i j a b n n s.heap):s.TypeIs (.ref z) "zip" := let ⟨_,_,q,_⟩:=st.zo;⟨_,q,rfl⟩
theorem Xu2(D:ZAp z I O i j a b)(st:ZSa k1 k2 z I O i j a b n n s.heap)(ha:SqK k1 s.heap a xs)(hb:SqK k2 s.heap b ys)(hx:xs[n]?=some x)(hy:ys[n]?=some y)
  (hQ:∀h',ZSa k1 k2 z I O i j a b (n+1) (n+1) h'->IsPair h' s.heap.objs.size x y->(∀c o,c≠z->c≠O->c≠i->c≠j->s.heap.get? c=some o->h'.get? c=some o)->Q (some (.ref s.heap.objs.size)) {s with heap:=h' }) :
  Vf (Vk prog w) A (Vdd (.ref z)) Q E s:=by
 unfold Vdd;exact Va (Vc9 (Vae (name:=U9 "__next__") st.ty Vgg (Uk Vgg st.ty F.entry_zip_next (Xza D st ha hb hx hy fun h' _ q1 q2 q3=>Vd (hQ h' q1 q2 q3)) (F.args_zip_next_1 _))))
theorem Xu3(hh:A.handled=none)(D:ZAp z I O i j a b)(st:ZSa k1 k2 z I O i j a b n n s.heap)(ha:SqK k1 s.heap a xs)(hb:SqK k2 s.heap b ys)(hend:xs[n]?=none\/ys[n]?=none)
  (hQ:∀h',(∀c o,c≠z->c≠O->c≠i->c≠j->s.heap.get? c=some o->h'.get? c=some o)->Q none {s with heap:=h' }):Vf (Vk prog w) A (Vdd (.ref z)) Q E s:=by
 unfold Vdd;refine Va (Vc9 (Vae (name:=U9 "__next__") st.ty Vgg (Uk Vgg st.ty F.entry_zip_next (Xu1 hh D st ha hb hend fun h' e hk he=>?_) (F.args_zip_next_1 _))))
 obtain⟨o,ho,hc⟩:=he;exact Va (Vf0 (T := "StopIteration") (b:=true) ⟨o,ho,hc⟩ isSubtype_stop (Vd (hQ _ hk)))
theorem X3a(hz:∃f0 f1,IsZ s.heap z I O f0 f1/\(f0=.none\/∃T:Nat,f0=Uq T))(hQ:∀h',(∃f0 f1,IsZ h' z I O f0 f1/\(f0=.none\/∃T:Nat,f0=Uq T))->Vac z s.heap h'->Q () {s with heap:=h' }) :
  Vf (Vk prog w) A (Vdv (.Tuple elts x1 pos) (.ref z) (.ref T)) Q E s:=by
 obtain⟨f0,f1,hz,hf⟩:=hz;unfold Vdv;refine Va (Vfa hz ?_);show Vf _ _ (if (["enumerate","zip","dict_itemiterator","dict_reverseitemiterator","odict_iterator","itertools.zip_longest","itertools.pairwise"].contains "zip" && (#[f0,f1,.bool false,.ref I,.ref O]:Array Vb)[0]?==some (Uq T))=true then _ else _) Q E s
 split
 ·refine Va (Vdy ?_)
  show Vf _ _ (setField (.ref z) 0 .none) Q E s;exact Uy hz (by simp) fun h' z' c'=>hQ h' ⟨_,_,z',.inl rfl⟩ c'
 ·exact Vd (hQ s.heap ⟨f0,f1,hz,hf⟩ (Vhg ..))
theorem Xln(hz:IsZ s.heap z I O f0 f1)(h:Q (.ref z) s):Vf (Vk prog w) A (Vdw (.ref z)) Q E s:=by
 have ty:s.TypeIs (.ref z) "zip" := ⟨_,hz,rfl⟩;exact Vfj ty F.slot_zip_iter (Uk F.slot_zip_iter ty F.entry_zip_iter (show Vf _ _ (ret (.ref z)) _ _ s from Vd ⟨_,rfl,"zip",_,ty,F.slot_zip_next.lookup,h⟩) (F.args_zip_iter_1 _))
end
theorem ZSa.at{k1 k2:Bool}{z I O i j a b:Addr}{n m:Nat}(x:ZSa k1 k2 z I O i j a b n m h)(k:∀c∈[z,I,O,i,j],∀o,h.get? c=some o->h'.get? c=some o):ZSa k1 k2 z I O i j a b n m h' :=
 ⟨let ⟨f0,f1,q,r⟩:=x.zo;⟨f0,f1,k z (by simp) _ q,r⟩,k I (by simp) _ x.io,let ⟨p,q,e⟩:=x.oo;⟨p,q,k O (by simp) _ e⟩,x.i1.at fun o e=>k i (by simp) o e,x.i2.at fun o e=>k j (by simp) o e⟩
theorem ZSa.some{k1 k2:Bool}{z I O i j a b:Addr}{n m:Nat}(x:ZSa k1 k2 z I O i j a b n m h):∀c∈[z,I,O,i,j],∃o,h.get? c=some o/\∀v,o.data≠.cell v:=fun c hc=>by
 simp only[Vv,Vap,or_false]at hc;rcases hc with e|e|e|e|e<;>subst e
 ·obtain⟨f0,f1,q,_⟩:=x.zo;exact⟨_,q,fun v q=>nomatch q⟩
 ·exact⟨_,x.io,fun v q=>nomatch q⟩
 ·obtain⟨p,q,e⟩:=x.oo;exact⟨_,e,fun v q=>nomatch q⟩
 ·obtain⟨o,e,_,d⟩:=x.i1.obj;exact⟨o,e,d⟩
 ·obtain⟨o,e,_,d⟩:=x.i2.obj;exact⟨o,e,d⟩
theorem Xu4{P:V1}{w:V9}{K:Vg}{es:List Expr}{x0:Nat}{tp:Pos}{k1 k2:Bool}{z I O i j a b:Addr}(D:ZAp z I O i j a b) :
  Turn P w K (.Tuple es x0 tp) (Itz K k1 k2 a b) [z,I,O,i,j] z (fun n h=>ZSa k1 k2 z I O i j a b n n h) where
 mem:=by simp
 obj:=fun n h st c hc=>st.some c hc
 keep:=fun n h h' st k=>st.at k
 item:=by
  intro X hP hw hK hc n pa s σ H E J hf st hg;subst hP hw hK;obtain⟨xs,x,ys,y,q1,hx,q2,hy⟩:=hg;obtain⟨its1,rv1,p1⟩:=Xf7 J q1;obtain⟨its2,rv2,p2⟩:=Xf7 J q2;obtain⟨u1,hu1,ru1⟩:=rv1.get hx;obtain⟨u2,hu2,ru2⟩:=rv2.get hy;have hT:H s.heap.objs.size=none:=J.hok.fresh (Vl _);have old:∀c∈[z,I,O,i,j],c≠s.heap.objs.size:=fun c hc=>by obtain⟨o,e,_⟩:=st.some c hc;exact V8 (Vu e)
  refine Xu2 D st p1 p2 (x:=u1) (y:=u2) (by simpa using hu1) (by simpa using hu2) fun h' st' pr kp=>⟨_,rfl,X3a st'.zo fun h2 z2 c2=>?_⟩
  have J1:Inv X pa σ (upd H s.heap.objs.size (.tup [x,y])) {s with heap:=s.heap.push {cls:=.type "tuple",data:=.seq #[u1,u2]} }:=J.laid (t':=s.toks) (fun c o e=>Ve _ e) (Vl _) ⟨by show 2<=Vw;decide,[u1,u2],.cons ru1 (.cons ru2 .nil),⟨_,Vm _ rfl,rfl,_,rfl⟩⟩
  have hf1:∀c∈[z,I,O,i,j],Xat X pa (upd H s.heap.objs.size (.tup [x,y])) c:=fun c hc=>⟨by rw[Xh (old c hc)];exact(hf c hc).1,(hf c hc).2⟩
  have J2:Inv X pa σ (upd H s.heap.objs.size (.tup [x,y])) {s with heap:=h2}:=Xe2 (s:={s with heap:=s.heap.push {cls:=.type "tuple",data:=.seq #[u1,u2]} }) (h':=h2) (t':=s.toks) J1 hf1 fun c o hc e=>by
   simp only[Vv,Vap,or_false,not_or]at hc;refine c2.extBut _ _ hc.1 ?_
   by_cases q:c=s.heap.objs.size
   ·subst q
    have e':=(Vm s.heap (o:={cls:=.type "tuple",data:=.seq #[u1,u2]}) rfl).symm.trans e;rw[<- e'];exact pr
   ·exact kp c o hc.1 hc.2.2.1 hc.2.2.2.1 hc.2.2.2.2 (Xll e q)
  refine⟨.ref s.heap.objs.size,_,J2,rfl,⟨s.heap.objs.size,x,y,rfl,hT,rfl,fun zs hz=>?_,fun zs hz=>?_⟩,?_,fun c hc=>(hf1 c hc).1⟩
  ·rw[Xlj J hz q1];exact hx
  ·rw[Xlj J hz q2];exact hy
  ·have k2':∀c o,c≠z->h'.get? c=some o->h2.get? c=some o:=fun c o e1 e=>c2.extBut _ _ e1 e
   exact⟨z2,k2' _ _ D.Iz st'.io,let ⟨p,q,e⟩:=st'.oo;⟨p,q,k2' _ _ D.Oz e⟩,st'.i1.at fun o e=>k2' _ o D.iz e,st'.i2.at fun o e=>k2' _ o D.jz e⟩
 done:=by
  intro X hP hw hK hc n pa s σ H E J hf st hg;subst hP hw hK;obtain⟨xs,ys,q1,q2,hl⟩:=hg;obtain⟨its1,rv1,p1⟩:=Xf7 J q1;obtain⟨its2,rv2,p2⟩:=Xf7 J q2;have l1:=rv1.length;have l2:=rv2.length;refine Xu3 (J.ok.hd hc) D st p1 p2 ?_ fun h' kp=>⟨rfl,Xe2 (t':=s.toks) J hf fun c o hc e=>?_⟩
  ·rcases hl with hl|hl
   ·exact .inl (by simp;omega)
   ·exact .inr (by simp;omega)
  ·simp only[Vv,Vap,or_false,not_or]at hc
   exact kp c o hc.1 hc.2.2.1 hc.2.2.2.1 hc.2.2.2.2 e
 self:=fun _ _ _ _ _ st h=>let ⟨_,_,q,_⟩:=st.zo;Xln q h
section
variable{prog:V1}{w:V9}{A:Uu}{E:Vb->Vc->Prop}{s:Vc}{k:Bool}{e it a:Addr}{n:Nat}{xs:Array Vb}{x:Vb}
end
open AutoSeq1 (wpAny_loadPart')
noncomputable def Itx(a:Addr)(o:Obj)(xs:List (List Int×Addr×V)):L2.It :=
 ⟨fun i H=>(∃u,H a=some (.frz o u))/\i<xs.length,
   fun i H v H'=>∃T p,xs[i]?=some p/\v=.ref T/\H T=none/\H'=upd H T (.tup [.ref p.2.1,p.2.2]),
   fun i H=>(∃u,H a=some (.frz o u))/\xs.length<=i⟩
theorem Xx1:∀ {xs:List (List Int×Addr×V)} {ys:List (List Int×Addr×Vb)} {i:Nat},RX xs ys->i<xs.length->∃p q,xs[i]?=some p/\ys[i]?=some q/\p.1=q.1/\p.2.1=q.2.1/\RelV p.2.2 q.2.2
 |_,_,i,.nil,h=>by simp at h
 |_,_,0,.cons r _,_=>⟨_,_,rfl,rfl,r⟩
 |_,_,i+1,.cons _ t,h=>by
  obtain⟨p,q,h1,h2,h3⟩:=Xx1 (i:=i) t (by simpa using h)
  exact⟨p,q,by simpa using h1,by simpa using h2,h3⟩
theorem Xu5{P:V1}{w:V9}{K:Vg}{ts:List Expr}{x0:Nat}{tp:Pos}{a it:Addr}{o:Obj}{xs:List (List Int×Addr×V)}{ys:List (List Int×Addr×Vb)}{es:Array DictEntry}{ep:Nat}(q:RX xs ys)(hd:o.data=.dict es ep)(he:es.toList=ys.map (entryOfKey (Veg (Vah P w)))) :
  Turn P w K (.Tuple ts x0 tp) (Itx a o xs) [it] it (fun i h=>∃k0 v0,Vel h it a i es.size ep k0 v0) where
 mem:=by simp
 obj:=fun i h ⟨k0,v0,st⟩ b hb=>by
  have e:b=it:=by simpa using hb
  subst e;exact⟨_,st,fun v z=>nomatch z⟩
 keep:=fun i h h' ⟨k0,v0,st⟩ k=>⟨k0,v0,k it (by simp) _ st⟩
 item:=by
  intro X hP hw hK hc i pa s σ H E J hf ⟨k0,v0,st⟩ hg;subst hP hw hK;obtain⟨⟨u,hu⟩,hlt⟩:=hg;obtain⟨ho,_⟩:=(show ObjOk X.prog X.w H s.heap a (.frz o u) from J.hok a _ hu);obtain⟨p,y,hp,hy,e1,e2,ry⟩:=Xx1 q hlt;have hx:es[i]?=some ⟨(Veg (Vah X.prog X.w)).hash y.1,.ref y.2.1,y.2.2⟩:=by
   rw[<- Vaw,he,Vx,hy];rfl
  have hT:H s.heap.objs.size=none:=J.hok.fresh (Vl _);have nit:it≠s.heap.objs.size:=V8 (Vu st);refine Xur (k:=pure .none) st ho hd hx fun h' out pr sz kp=>⟨_,rfl,wpAny_letOwnedTupleGo_items out fun h2 i2 c2=>?_⟩
  have J1:Inv X pa σ (upd H s.heap.objs.size (.tup [.ref p.2.1,p.2.2])) {s with heap:=s.heap.push {cls:=.type "tuple",data:=.seq #[.ref y.2.1,y.2.2]} }:=J.laid (t':=s.toks) (fun c o z=>Ve _ z) (Vl _) ⟨by show 2<=Vw;decide,[.ref y.2.1,y.2.2],.cons (by rw[e2];rfl) (.cons ry .nil),⟨_,Vm _ rfl,rfl,_,rfl⟩⟩
  have hf1:∀c∈[it],Xat X pa (upd H s.heap.objs.size (.tup [.ref p.2.1,p.2.2])) c:=fun c hc=>⟨by
   have e:c=it:=by simpa using hc
   rw[Xh (by rw[e];exact nit)];exact(hf c hc).1,(hf c hc).2⟩
  have J2:Inv X pa σ (upd H s.heap.objs.size (.tup [.ref p.2.1,p.2.2])) {s with heap:=h2}:=Xe2 (s:={s with heap:=s.heap.push {cls:=.type "tuple",data:=.seq #[.ref y.2.1,y.2.2]} }) (h':=h2) (t':=s.toks) J1 hf1 fun c o hc z=>by
   have hc':c≠it:=by simpa using hc
   refine c2.extBut _ _ hc' ?_
   by_cases q:c=s.heap.objs.size
   ·subst q
    have z':=(Vm s.heap (o:={cls:=.type "tuple",data:=.seq #[.ref y.2.1,y.2.2]}) rfl).symm.trans z;rw[<- z'];exact pr
   ·exact kp c o hc' (Xll z q)
  exact⟨.ref s.heap.objs.size,_,J2,rfl,⟨s.heap.objs.size,p,hp,rfl,hT,rfl⟩,⟨_,_,i2⟩,fun c hc=>(hf1 c hc).1⟩
 done:=by
  intro X hP hw hK hc i pa s σ H E J hf ⟨k0,v0,st⟩ hg;subst hP hw hK;obtain⟨⟨u,hu⟩,hle⟩:=hg;obtain⟨ho,_⟩:=(show ObjOk X.prog X.w H s.heap a (.frz o u) from J.hok a _ hu);have hx:es[i]?=none:=by
   rw[<- Vaw,he,Vx,Vam (by rw[<- Veo q];exact hle)];rfl
  refine Xyz (J.ok.hd hc) st ho hd hx fun h' kp=>⟨rfl,Xe2 (t':=s.toks) J hf fun c o hc z=>kp c o (by simpa using hc) z⟩
 self:=fun _ _ _ _ _ ⟨_,_,st⟩ h=>PySem.W.kcp_self st h
section
variable{prog:V1}{w:V9}{A:Uu}{E:Vb->Vc->Prop}{s:Vc}{k1 k2:Bool}{e z I O i j a b:Addr}{n:Nat}{xs ys:Array Vb}{x y:Vb}
end
end Z
end
section
namespace Z
open PySem PySem.Spec PyProof.Rows L2
open AutoSeq1 (wpAny_loadPart')
end Z
end
section
namespace Z
open PySem PySem.Spec PyProof.Rows L2
theorem Xjv(a b:Int):Va1 a b (-1)=if a>b then a-b else 0:=by
 unfold Va1;rw[iN0 (by decide)]
 split<;>simp<;>omega
theorem Xp1(ha:-(2^62)<=a)(ha':a<2^62)(hb:-(2^62)<=b)(hb':b<2^62):Vcw a b (-1)=true:=by
 unfold Vcw;rw[Xjv];simp only[Builtin.Range.rangeFitsLong,bA0,Vb6,decide_eq_true_eq,beq_iff_eq,show ¬ (-1:Int)>0 by decide,if_false]
 split<;>omega
noncomputable def Itd(lo:Int)(n:Nat):L2.It where
 go:=fun i _=>i<n
 yld:=fun i H x H'=>H'=H/\x=.int (lo-i)
 stop:=fun i _=>n<=i
theorem Xse{P:V1}{w:V9}{K:Vg}{tg:Expr}(it:Addr)(lo:Int)(n:Nat):Turn P w K tg (Itd lo n) [it] it (fun i h=>IsRangeIter h it (lo+(i:Nat)*(-1)) ((n:Int)-(i:Nat)) (-1)) where
 mem:=by simp
 obj:=fun i h st b hb=>by
  obtain rfl:b=it:=by simpa using hb
  exact⟨_,st,fun v z=>nomatch z⟩
 keep:=fun i h h' st k=>k it (by simp) _ st
 item:=by
  intro X hP hw hK hc i pa s σ H E I hf st hg;subst hP hw hK;obtain⟨f0,f1,f2,f3,f4,f5⟩:=hf it (by simp)
  refine(Walks.range (prog:=X.prog) (w:=X.w) (I.ok.hd hc) it lo (-1) n).item i s _ _ hg st fun v h' tk hv st' kk=>?_
  obtain⟨t,rfl⟩:=hv;have I1:Inv X pa σ H {s with heap:=h',toks:=tk}:=I.turned (fun b o hb e=>kk b o (by simpa using hb) e) f0 f1 f3 f4 f5
  refine⟨_,rfl,Xkl (s:={s with heap:=h',toks:=tk}) (n := "range_iterator") st' rfl rfl (by decide) ⟨.int (lo-i),H,I1,⟨t,?_⟩,⟨rfl,rfl⟩,st',fun b hb=>(hf b hb).1⟩⟩
  have e:lo+(i:Int)*(-1)=lo-i:=by omega
  rw[e]
 done:=by
  intro X hP hw hK hc i pa s σ H E I hf st hg;subst hP hw hK;obtain⟨f0,f1,f2,f3,f4,f5⟩:=hf it (by simp)
  have hn:n<=i:=hg;exact wpAny_pyNext_range_end (I.ok.hd hc) st (by omega) fun h' eb=>⟨rfl,I.turned (t':=s.toks) (fun b o hb e=>eb b o hb e) f0 f1 f3 f4 f5⟩
 self:=fun _ _ _ _ _ st h=>wpAny_pyIter_rangeiter st h
section
variable{X:Cx}{tg:Expr}
theorem Xzb{pa:List (Addr×Obj)}{R:L2.It->Hp->Prop}{E:Vb->Vc->Prop}{lo hi:Int}{tk:Nat}(I:Inv X pa σ H s)(h1:-(2^62)<=lo)(h2:lo<2^62)(h3:-(2^62)<=hi)(h4:hi<2^62)
  (q:R (Itd lo (lo-hi).toNat) H):Vf (Vk X.prog X.w) X.A (Vdw (.ref s.heap.objs.size)) (PIE X pa σ tg R) E {s with heap:=s.heap.push {cls:=.type "range",data:=.fields #[.int lo t,.int hi u,.int (-1) v]},toks:=tk}:=by
 refine wpAny_pyIter_range (IsRange.new ..) (Xp1 h1 h2 h3 h4) ?_;generalize hR:({cls:=.type "range",data:=.fields #[.int lo t,.int hi u,.int (-1) v]}:Obj)=ro;have I1:Inv X pa σ H {s with heap:=s.heap.push ro,toks:=tk}:=I.kept fun b o e=>Ve _ e
 refine⟨(s.heap.push ro).objs.size,[(s.heap.push ro).objs.size],_,_,H,rfl,I1.kept (t':=tk) fun b o e=>Ve _ e,Xse _ lo (lo-hi).toNat,?_,fun b hb=>?_,q⟩
 ·have e1:lo+((0:Nat):Int)*(-1)=lo:=by simp
  have e2:(((lo-hi).toNat:Nat):Int)-((0:Nat):Int)=Va1 lo hi (-1):=by rw[Xjv];split<;>omega
  show IsRangeIter _ _ (lo+((0:Nat):Int)*(-1)) ((((lo-hi).toNat:Nat):Int)-((0:Nat):Int)) (-1);rw[e1,e2];exact Vm _ rfl
 ·obtain rfl:b=(s.heap.push ro).objs.size:=by simpa using hb
  exact I1.fpOk (Vl _) (I1.hok.fresh (Vl _))
end
section
variable{X:Cx}{pa:List (Addr×Obj)}{σ:L2.St}{H:Hp}{s:Vc}{ρ:List Addr}{S S':Sto}{env:En}{Q:Vb->Vc->Prop}{E:Vb->Vc->Prop}{a b c e tg iter:Expr}{f fa fb fc:En->Sto->R D}{pos:Pos}
def DG(X:Cx)(tg:Expr)(t:Tg):Prop :=
 ∀(pa:List (Addr×Obj)) (s:Vc) (σ:L2.St) (H:Hp) (ρ:List Addr) (S:Sto) (env:En) (d:D) (v:V) (u:Vb) (env':En) (Q:Unit->Vc->Prop) (E:Vb->Vc->Prop),S0 X pa σ H s ρ S env->Xr t d env=some env'->RD X.K ρ H d v->RelV v u ->
  (∀s' σ',S0 X pa σ' H s' ρ S env'->Q () s')->Vf (Vk X.prog X.w) X.A (assign tg X.env u) Q E s
theorem Xzc(hN:X.N.Nodup)(hi:X.N[i]?=some x)(hx:Loc X.env.scope x)(hf:X.fn x=true\/X.env.scope.names.lookup x=some .local):DG X (.Name x pos) (.var i):=by
 intro pa s σ H ρ S env d v u env' Q E I h rd rv hQ;simp only[Xr,Vr]at h;subst h;exact Vhe (Xbg I.inv hN hi hx rv (fun s' I'=>hQ s' _ ⟨I',I.sr,I.er.set i rd⟩) hf)
noncomputable def gNs:List Nat->TGs
 |[]=>X2f
 |i::is=>Xxs (Xxr i) (gNs is)
theorem Xsf:∀(is:List Nat) (vs:List V) (σ:L2.St) (H:Hp) (Q:L2.St->Hp->Prop),is.length=vs.length->Q ((is.zip vs).foldl (fun e p=>e.set p.1 (some p.2)) σ) H->gNs is vs σ H Q
 |[],vs,σ,H,Q,hl,h=>by
  have:vs=[]:=by simpa using hl.symm
  subst this;exact⟨rfl,h⟩
 |i::is,[],σ,H,Q,hl,h=>by simp at hl
 |i::is,v::vs,σ,H,Q,hl,h=>⟨v,vs,rfl,Xsf is vs _ H Q (by simpa using hl) h⟩
theorem ER.sets{K:Vg}:∀(is:List Nat) (ds:List D) (vs:List V) (env:En) (σ:L2.St),RDs K ρ H ds vs->ER K ρ H env σ->ER K ρ H ((is.zip ds).foldl (fun e p=>e.set p.1 (some p.2)) env) ((is.zip vs).foldl (fun e p=>e.set p.1 (some p.2)) σ)
 |[],ds,vs,env,σ,r,e=>by simpa using e
 |i::is,[],vs,env,σ,r,e=>by simp only[RDs]at r;subst r;simpa using e
 |i::is,d::ds,vs,env,σ,r,e=>by
  simp only[RDs]at r;obtain⟨v,vs',rfl,h1,h2⟩:=r;exact ER.sets is ds vs' _ _ h2 (e.set i h1)
theorem X3b(hc:X.calm=true)(h:∀E,PGs (X.wish E) es (gNs is))(hn:(Vbe es X.env).length=is.length)(hst:(Vbe es X.env).findIdx? (·.1)=none):DG X (.Tuple es k pos) (.tup is):=by
 intro pa s σ H ρ S env d v u env' Q E I hd rd rv hQ;cases d with
 |tup ds =>
  simp only[Xr]at hd;split at hd
  ·rename_i hl
   cases hd;simp only[RD]at rd;obtain⟨a,vs,rfl,hs,hr⟩:=rd;have hlv:is.length=vs.length:=by rw[hl,hr.length]
   refine thn (X2g (X:=X.wish E) (n:=is.length) hc (h E) hn hst pa s σ H (.ref a) u (fun σ' H'=>H'=H/\σ'=(is.zip vs).foldl (fun e p=>e.set p.1 (some p.2)) σ) (I.inv.wish E) rv ⟨a,vs,rfl,hs,hlv.symm,Xsf is vs σ H _ hlv ⟨rfl,rfl⟩⟩) fun _ s' ⟨σ',H',J,e1,e2⟩=>?_
   subst e1 e2;exact hQ s' _ ⟨J.unwish,I.sr,ER.sets is ds vs env σ hr I.er⟩
  ·cases hd
 |_=>cases hd
theorem Xsg:∀(is:List Nat) (xs:List (Str×Pos)),X.N.Nodup->is.length=xs.length->(∀(j i:Nat) (x:Str×Pos),is[j]?=some i->xs[j]?=some x->X.N[i]?=some x.1/\Loc X.env.scope x.1/\(X.fn x.1=true\/X.env.scope.names.lookup x.1=some .local)) ->
  PGs X (xs.map fun x=>Expr.Name x.1 x.2) (gNs is)
 |[],xs,_,hl,_=>by
  have:xs=[]:=by simpa using hl.symm
  subst this;exact Xyp
 |i::is,[],_,hl,_=>by simp at hl
 |i::is,x::xs,hN,hl,h=>by
  obtain⟨h1,h2,h3⟩:=h 0 i x rfl rfl;exact Xud (Xyo hN h1 h2 h3) (Xsg is xs hN (by simpa using hl) fun j i' x' e1 e2=>h (j+1) i' x' (by simpa using e1) (by simpa using e2)) rfl
theorem Xgu:∀(xs:List (Str×Pos)) (env:Vbd),(Vbe (xs.map fun x=>Expr.Name x.1 x.2) env).length=xs.length/\(Vbe (xs.map fun x=>Expr.Name x.1 x.2) env).findIdx? (·.1)=none
 |[],env=>⟨rfl,rfl⟩
 |x::xs,env=>by
  have h:=Xgu xs env;have e:Vbe ((x::xs).map fun x=>Expr.Name x.1 x.2) env=(false,assign (.Name x.1 x.2) env)::Vbe (xs.map fun x=>Expr.Name x.1 x.2) env:=rfl
  rw[e];refine⟨by simp[h.1],?_⟩
  rw[List.findIdx?_cons];simp[h.2]
def SrcK(K:Vg)(ρ:List Addr)(H:Hp):Src->Bool->Addr->Prop
 |.con xs,false,a=>∃vs,SqT K H a vs/\RDs K ρ H xs vs
 |.ref n,true,a=>ρ[n]?=some a
 |_,_,_=>False
theorem SrcK.mono'{K:Vg}{ρ':List Addr}{H':Hp}{src:Src}{k:Bool}{a:Addr}(x:Mon K ρ ρ' H H')(h:SrcK K ρ H src k a):SrcK K ρ' H' src k a:=by
 cases src with
 |con xs=>cases k with
  |false=>obtain⟨vs,h1,h2⟩:=h;exact⟨vs,x.tup _ _ h1,RDs.mono' x _ _ h2⟩
  |true=>exact h.elim
 |ref n=>cases k with
  |false=>exact h.elim
  |true=>exact x.pre _ _ h
 |zpp _ _=>exact h.elim
theorem SrcK.get{src:Src}{k:Bool}{a:Addr}{i:Nat}{o:Option D}(h:SrcK X.K ρ H src k a)(I:S0 X pa σ H s ρ S env)(g:src.get S i=some o):∃vs,SqH k X.K H a vs/\match o with
  |some d=>∃v,vs[i]?=some v/\RD X.K ρ H d v
  |none=>vs.length<=i:=by
 cases src with
 |con xs=>cases k with
  |false =>
   obtain⟨vs,h1,h2⟩:=h;simp only[Src.get,Vr]at g;refine⟨vs,h1,?_⟩;cases o with
   |some d=>exact h2.get g
   |none=>have:=h2.none g;rw[Us]at this;exact this
  |true=>exact h.elim
 |ref n=>cases k with
  |false=>exact h.elim
  |true =>
   simp only[Src.get,Ui]at g;obtain⟨xs,g1,g2⟩:=g;obtain⟨a',vs,k1,k2,k3⟩:=I.list g1;have h':ρ[n]?=some a:=h;rw[h']at k1;cases k1;refine⟨vs,.of k2,?_⟩;cases o with
   |some d=>exact k3.get g2
   |none=>have:=k3.none g2;rw[Us]at this;exact this
 |zpp _ _=>exact h.elim
inductive SrcR(K:Vg)(ρ:List Addr)(H:Hp):Src->L2.It->Prop where
 |tup {a:Addr} {xs:List D} {vs:List V}:SqT K H a vs->RDs K ρ H xs vs->SrcR K ρ H (.con xs) (Itt K a)
 |rng (lo:Int) (n:Nat):SrcR K ρ H (.con ((V0 n).map fun(k:Nat)=>D.int (lo+k))) (Itr lo n)
 |lst {n:Nat} {a:Addr}:ρ[n]?=some a->SrcR K ρ H (.ref n) (Itl K a)
 |zpp {s1 s2:Src} {k1 k2:Bool} {a b:Addr}:SrcK K ρ H s1 k1 a->SrcK K ρ H s2 k2 b->SrcR K ρ H (.zpp s1 s2) (Itz K k1 k2 a b)
 |dwn (lo:Int) (n:Nat):SrcR K ρ H (.con ((V0 n).map fun(k:Nat)=>D.int (lo-k))) (Itd lo n)
 |dic {a:Addr} {o:Obj} {u:HO} {kvs:List (List Int×D)} {xs:List (List Int×Addr×V)}:H a=some (.frz o u)->DX K ρ H kvs xs->SrcR K ρ H (.con (kvs.map Xee)) (Itx a o xs)
theorem Xx2{K:Vg}{ρ:List Addr}{H:Hp}:∀ {kvs:List (List Int×D)} {xs:List (List Int×Addr×V)} {i:Nat} {p:List Int×D},DX K ρ H kvs xs->kvs[i]?=some p->∃q,xs[i]?=some q/\p.1=q.1/\SqT K H q.2.1 (p.1.map V.int)/\RD K ρ H p.2 q.2.2
 |_,_,i,_,.nil,h=>by simp at h
 |_,_,0,_,.cons r _,h=>by simp at h;subst h;exact⟨_,rfl,r⟩
 |_,_,i+1,_,.cons _ t,h=>by
  obtain⟨q,h1,h2⟩:=Xx2 (i:=i) t (by simpa using h)
  exact⟨q,by simpa using h1,h2⟩
theorem SrcR.mono'{K:Vg}{ρ':List Addr}{H':Hp}{src:Src}{J:L2.It}(x:Mon K ρ ρ' H H')(h:SrcR K ρ H src J):SrcR K ρ' H' src J:=by
 cases h with
 |tup h1 h2=>exact .tup (x.tup _ _ h1) (RDs.mono' x _ _ h2)
 |rng lo n=>exact .rng lo n
 |lst h=>exact .lst (x.pre _ _ h)
 |zpp h1 h2=>exact .zpp (h1.mono' x) (h2.mono' x)
 |dwn lo n=>exact .dwn lo n
 |dic h1 h2=>exact .dic (x.frz _ _ _ h1) (h2.mono x)
theorem SrcR.mono{K:Vg}{ρ':List Addr}{H':Hp}{src:Src}{J:L2.It}(x:Stp K ρ ρ' H H')(h:SrcR K ρ H src J):SrcR K ρ' H' src J:=h.mono' x.toMon
theorem Xon{s1 s2:Src}{i:Nat}{o:Option D}(g:(Src.zpp s1 s2).get S i=some o):∃o1 o2,s1.get S i=some o1/\s2.get S i=some o2/\match o with
  |some d=>∃x y,o1=some x/\o2=some y/\d=.tup [x,y]
  |none=>o1=none\/o2=none:=by
 simp only[Src.get]at g;split at g
 ·rename_i x y e1 e2;cases g;exact⟨_,_,e1,e2,x,y,rfl,rfl,rfl⟩
 ·rename_i o1 o2 hn e1 e2
  cases g;refine⟨o1,o2,e1,e2,?_⟩;cases o1 with
  |none=>exact .inl rfl
  |some x =>
   cases o2 with
   |none=>exact .inr rfl
   |some y=>exact(hn x y rfl rfl).elim
 ·cases g
theorem SrcR.go(h:SrcR X.K ρ H src J)(I:S0 X pa σ H s ρ S env)(g:src.get S i=some (some d)) :
  J.go i H/\∀x H',J.yld i H x H'->SR X.K ρ S H'/\Stp X.K ρ ρ H H'/\RD X.K ρ H' d x:=by
 cases h with
 |@tup a xs vs h1 h2 =>
  simp only[Src.get,Vr]at g;obtain⟨v,e1,e2⟩:=h2.get g;refine⟨⟨vs,v,h1,e1⟩,fun x H' y=>?_⟩
  obtain⟨rfl,y⟩:=y;have:=y vs h1;rw[e1]at this;cases this;exact⟨I.sr,.refl,e2⟩
 |rng lo n =>
  simp only[Src.get,Vr]at g;rw[Vx]at g;have hi:i<n:=by
   by_cases hi:i<n
   ·exact hi
   ·rw[Vam (by simpa using hi)]at g;cases g
  rw[Vgm hi]at g;simp only[Vy,Vr]at g;subst g;refine⟨hi,fun x H' y=>?_⟩
  obtain⟨rfl,rfl⟩:=y;exact⟨I.sr,.refl,by simp only[RD]⟩
 |@lst n a h =>
  simp only[Src.get,Ui]at g;obtain⟨xs,g1,g2⟩:=g;obtain⟨a',vs,k1,k2,k3⟩:=I.list g1;rw[h]at k1;cases k1;obtain⟨v,e1,e2⟩:=k3.get g2;refine⟨⟨vs,v,.of k2,e1⟩,fun x H' y=>?_⟩
  obtain⟨rfl,y⟩:=y;have:=y vs (.of k2);rw[e1]at this;cases this;exact⟨I.sr,.refl,e2⟩
 |@zpp s1 s2 k1 k2 a b h1 h2 =>
  obtain⟨o1,o2,g1,g2,x,y,rfl,rfl,rfl⟩:=Xon g;obtain⟨vs,q1,v,e1,r1⟩:=h1.get I g1;obtain⟨us,q2,u,e2,r2⟩:=h2.get I g2;refine⟨⟨vs,v,us,u,q1,e1,q2,e2⟩,fun w H' yd=>?_⟩
  obtain⟨T,v',u',rfl,hT,rfl,z1,z2⟩:=yd;have z1':=z1 vs q1;have z2':=z2 us q2;rw[e1]at z1';cases z1';rw[e2]at z2';cases z2';have st:Stp X.K ρ ρ H (upd H T (.tup [v,u])):=Stp.upd hT;refine⟨I.sr.upd hT,st,?_⟩;simp only[RD];exact⟨T,[v,u],rfl,.of X6,.cons (r1.mono st) (.cons (r2.mono st) .nil)⟩
 |dwn lo n =>
  simp only[Src.get,Vr]at g;rw[Vx]at g;have hi:i<n:=by
   by_cases hi:i<n
   ·exact hi
   ·rw[Vam (by simpa using hi)]at g;cases g
  rw[Vgm hi]at g;simp only[Vy,Vr]at g;subst g;refine⟨hi,fun x H' y=>?_⟩
  obtain⟨rfl,rfl⟩:=y;exact⟨I.sr,.refl,by simp only[RD]⟩
 |@dic a o u kvs xs h1 h2 =>
  simp only[Src.get,Vr,Vx,Ui]at g;obtain⟨p,g1,rfl⟩:=g;obtain⟨q,q1,q2,q3,q4⟩:=Xx2 h2 g1;refine⟨⟨⟨u,h1⟩,(Vi.mp q1).1⟩,fun w H' yd=>?_⟩
  obtain⟨T,q',e1,rfl,hT,rfl⟩:=yd;rw[q1]at e1;cases e1;have st:Stp X.K ρ ρ H (upd H T (.tup [.ref q.2.1,q.2.2])):=Stp.upd hT;refine⟨I.sr.upd hT,st,?_⟩;unfold Xee;rw[RD];refine⟨T,_,rfl,.of X6,.cons ?_ (.cons (q4.mono st) .nil)⟩;rw[RD];exact⟨_,_,rfl,st.tup _ _ q3,.ints _⟩
theorem SrcR.stop(h:SrcR X.K ρ H src J)(I:S0 X pa σ H s ρ S env)(g:src.get S i=some none):J.stop i H:=by
 cases h with
 |@tup a xs vs h1 h2 =>
  simp only[Src.get,Vr]at g;exact⟨vs,h1,by have:=h2.none g;rw[Us]at this;exact this⟩
 |rng lo n =>
  simp only[Src.get,Vr]at g;rw[Us]at g;show n<=i
  simpa using g
 |@lst n a h =>
  simp only[Src.get,Ui]at g;obtain⟨xs,g1,g2⟩:=g;obtain⟨a',vs,k1,k2,k3⟩:=I.list g1;rw[h]at k1;cases k1;exact⟨vs,.of k2,by have:=k3.none g2;rw[Us]at this;exact this⟩
 |@zpp s1 s2 k1 k2 a b h1 h2 =>
  obtain⟨o1,o2,g1,g2,ho⟩:=Xon g;obtain⟨vs,q1,r1⟩:=h1.get I g1;obtain⟨us,q2,r2⟩:=h2.get I g2;refine⟨vs,us,q1,q2,?_⟩;rcases ho with e|e<;>subst e
  ·exact .inl r1
  ·exact .inr r2
 |dwn lo n =>
  simp only[Src.get,Vr]at g;rw[Us]at g;show n<=i
  simpa using g
 |@dic a o u kvs xs h1 h2 =>
  simp only[Src.get,Vr,Vx,Option.map_eq_none_iff,Us]at g;exact⟨⟨u,h1⟩,by rw[<- Veo h2];exact g⟩
def ItP(X:Cx)(pa:List (Addr×Obj))(σ:L2.St)(ρ:List Addr)(H:Hp)(tg:Expr)(r:R Src)(itv:Vb)(s2:Vc):Prop :=
 ∃src S' it fp tn J H' ρ',r=.ok src S'/\itv=.ref it/\Inv X pa σ H' s2/\Turn X.prog X.w X.K tg J fp it tn/\tn 0 s2.heap/\(∀b∈fp,Xat X pa H' b)/\SrcR X.K ρ' H' src J/\SR X.K ρ' S' H'/\Stp X.K ρ ρ' H H'
def DI(X:Cx)(tg iter:Expr)(f:En->Sto->R Src):Prop :=
 ∀(pa:List (Addr×Obj)) (s:Vc) (σ:L2.St) (H:Hp) (ρ:List Addr) (S:Sto) (env:En) (E:Vb->Vc->Prop),S0 X pa σ H s ρ S env->f env S≠.bad->(∀x s',ExP X pa σ ρ H (f env S) x s'->E x s') ->
  Vf (Vk X.prog X.w) X.A (eval iter X.env) (fun v s1=>Vf (Vk X.prog X.w) X.A (Vdw v) (ItP X pa σ ρ H tg (f env S)) E s1) E s
theorem X3c(he:DE X iter f):DI X tg iter (fun env S=>(f env S).bind fun x S=>match Yo S x with|some r=>.ok r S|none=>.bad):=by
 intro pa s σ H ρ S env E I nb hE;dsimp only at nb hE ⊢;cases q:f env S with
 |bad=>rw[q]at nb;exact aB0 rfl nb
 |ex n S1=>rw[q]at hE;exact he.ex I q fun x s' z=>hE x s' ⟨n,S1,rfl,z⟩
 |ok d S1 =>
  rw[q]at nb;simp only[Rk0]at nb ⊢;refine he.ok I q fun u s1 v H1 ρ1 I1 rv rd st1=>?_
  cases d with
  |tup xs =>
   simp only[RD]at rd;obtain⟨a,vs,rfl,h1,h2⟩:=rd;cases rv;obtain⟨its,rvs,p,hz⟩:=I1.inv.tuple h1;refine Vg4 (show s1.heap.IsTuple a its.toArray from p) ?_;refine⟨_,S1,s1.heap.objs.size,[s1.heap.objs.size],_,_,H1,ρ1,rfl,rfl,I1.inv.kept (t':=s1.toks) fun b o e=>Ve _ e,Xpo a _,⟨_,Vm _ rfl,rfl,rfl⟩,fun b hb=>?_,.tup h1 h2,I1.sr,st1⟩
   have e:b=s1.heap.objs.size:=by simpa using hb
   subst e;exact I1.inv.fpOk (Vl _) (I1.inv.hok.fresh (Vl _))
  |ref n =>
   cases e1:Xc S1 n with
   |none=>simp[Yo,e1]at nb
   |some xs =>
    obtain⟨a,vs,k1,k2,k3⟩:=I1.list e1;simp only[RD]at rd;obtain⟨a',rfl,k4⟩:=rd;rw[k1]at k4;cases k4;cases rv;obtain⟨its,rvs,p,hz⟩:=I1.inv.list (.of k2);refine Vfm p.isList ?_;refine⟨.ref n,S1,s1.heap.objs.size,[s1.heap.objs.size],_,_,H1,ρ1,by simp[Yo,e1],rfl,I1.inv.kept (t':=s1.toks) fun b o e=>Ve _ e,Xrt a _,⟨_,Vm _ rfl,rfl,rfl⟩,fun b hb=>?_,.lst k1,I1.sr,st1⟩
    have e:b=s1.heap.objs.size:=by simpa using hb
    subst e;exact I1.inv.fpOk (Vl _) (I1.inv.hok.fresh (Vl _))
  |non=>simp[Yo]at nb
  |bl _=>simp[Yo]at nb
  |int _=>simp[Yo]at nb
  |str _=>simp[Yo]at nb
  |fro _=>simp[Yo]at nb
  |fn _ _=>simp[Yo]at nb
theorem Xsh{tk:Nat}{lo hi:Int}{ds:List D}(I:S0 X pa σ H s ρ S env)(h1:-(2^62)<=lo)(h2:lo<2^62)(h3:-(2^62)<=hi)(h4:hi<2^62)(hds:ds=(V0 (hi-lo).toNat).map fun(k:Nat)=>D.int (lo+k)) :
  Vf (Vk X.prog X.w) X.A (Vdw (.ref s.heap.objs.size)) (ItP X pa σ ρ H tg (.ok (.con ds) S)) E {s with heap:=s.heap.push {cls:=.type "range",data:=.fields #[.int lo t,.int hi u,.int 1 v]},toks:=tk}:=by
 refine thn (Xue (X:=X.wish E) (tg:=tg) (R:=fun J H'=>J=Itr lo (hi-lo).toNat/\H'=H) (I.inv.wish E) h1 h2 h3 h4 ⟨rfl,rfl⟩) fun itv s2 ⟨it,fp,tn,J,H',e1,J',T,t0,fo,e2,e3⟩=>?_
 subst e2 e3;exact⟨_,S,it,fp,tn,_,H',ρ,rfl,e1,J'.unwish,T,t0,fo,by rw[hds];exact .rng _ _,I.sr,.refl⟩
theorem Xu6{tk:Nat}{lo hi:Int}(I:S0 X pa σ H s ρ S env)(h1:-(2^62)<=lo)(h2:lo<2^62)(h3:-(2^62)<=hi)(h4:hi<2^62) :
  Vf (Vk X.prog X.w) X.A (Vdw (.ref s.heap.objs.size)) (ItP X pa σ ρ H tg (.ok (.con ((V0 (lo-hi).toNat).map fun(k:Nat)=>D.int (lo-k))) S)) E {s with heap:=s.heap.push {cls:=.type "range",data:=.fields #[.int lo t,.int hi u,.int (-1) v]},toks:=tk}:=by
 refine thn (Xzb (X:=X.wish E) (tg:=tg) (R:=fun J H'=>J=Itd lo (lo-hi).toNat/\H'=H) (I.inv.wish E) h1 h2 h3 h4 ⟨rfl,rfl⟩) fun itv s2 ⟨it,fp,tn,J,H',e1,J',T,t0,fo,e2,e3⟩=>?_
 subst e2 e3;exact⟨_,S,it,fp,tn,_,H',ρ,rfl,e1,J'.unwish,T,t0,fo,.dwn _ _,I.sr,.refl⟩
theorem X3d {es:List Expr} {g:En->Sto->R (List D)} (hg:Gl X "range") (hm:X.mg "range" = none) (ha:DA X (a::es) g) (hs:V3 (a::es) X.env=(false,eval a X.env)::V3 es X.env) (hpl:(Vbg pos (V3 es X.env)).any (·.1)=false) :
  DI X tg (.Call (.Name "range" p) (a::es) [] pos) (fun env S=>(g env S).bind fun xs S=>match Yd xs with|some ds=>.ok (.con ds) S|none=>.bad):=by
 intro pa s σ H ρ S env E I nb hE;dsimp only at nb hE ⊢;refine Call_ (Yj I.inv hg hm boot_range (U2 ?_ hs hpl));cases q:g env S with
 |bad=>rw[q]at nb;exact aB0 rfl nb
 |ex n S1=>rw[q]at hE;exact ha.ex I q fun x s' z=>hE x s' ⟨n,S1,rfl,z⟩
 |ok ds S1 =>
  rw[q]at nb;simp only[Rk0]at nb ⊢;refine ha.ok I q fun us s1 vs H1 ρ1 I1 rv rd st1=>?_
  have fin:∀ {tk:Nat} {lo hi:Int} {t u v:Tok} {xs:List D},-(2^62)<=lo->lo<2^62->-(2^62)<=hi->hi<2^62->xs=(V0 (hi-lo).toNat).map (fun(k:Nat)=>D.int (lo+k)) ->
    Vf (Vk X.prog X.w) X.A (Vdw (.ref s1.heap.objs.size)) (ItP X pa σ ρ H tg (.ok (.con xs) S1)) E {s1 with heap:=s1.heap.push {cls:=.type "range",data:=.fields #[.int lo t,.int hi u,.int 1 v]},toks:=tk}:=fun h1 h2 h3 h4 h5 =>
   Vn (Xsh I1 h1 h2 h3 h4 h5) (fun itv s2 ⟨src,S2,it,fp,tn,J,H2,ρ2,z1,z2,z3,z4,z5,z6,z7,z8,z9⟩=>⟨src,S2,it,fp,tn,J,H2,ρ2,z1,z2,z3,z4,z5,z6,z7,z8,st1.trans z9⟩) fun _ _ z=>z
  match ds,rd,nb with
  |[],rd,nb=>simp[Yd]at nb
  |[d],rd,nb =>
   cases d with
   |int j =>
    simp only[Yd]at nb ⊢
    by_cases hz:-(1048576)<j/\j<1048576
    ·rw[iP0 hz]at nb ⊢
     simp only[RDs]at rd;obtain⟨v,r,rfl,r1,rfl⟩:=rd;simp only[RD]at r1;subst r1;cases rv with
     |cons q1 q2 =>
      cases q2;obtain⟨t,rfl⟩:=q1;refine call_range_1 (fin (by omega) (by omega) (by omega) (by omega) ?_)
      simp
    ·rw[iN0 hz]at nb;exact aB0 rfl nb
   |_=>simp[Yd]at nb
  |[d1,d2],rd,nb =>
   cases d1 with
   |int i=>cases d2 with
    |int j =>
     simp only[Yd]at nb ⊢
     by_cases hz:-(1048576)<i/\i<1048576/\-(1048576)<j/\j<1048576
     ·rw[iP0 hz]at nb ⊢
      simp only[RDs]at rd;obtain⟨v,r,rfl,r1,v2,r2,rfl,r3,rfl⟩:=rd;simp only[RD]at r1 r3;subst r1 r3;cases rv with
      |cons q1 q2 =>
       cases q2 with
       |cons q3 q4 =>
        cases q4;obtain⟨t,rfl⟩:=q1;obtain⟨t',rfl⟩:=q3;exact call_range_2 (fin (by omega) (by omega) (by omega) (by omega) rfl)
     ·rw[iN0 hz]at nb;exact aB0 rfl nb
    |_=>simp[Yd]at nb
   |_=>simp[Yd]at nb
  |[d1,d2,d3],rd,nb =>
   cases d1 with
   |int i=>cases d2 with
    |int j=>cases d3 with
     |int c =>
      simp only[Yd]at nb ⊢
      by_cases hz:c = -1/\-(1048576)<i/\i<1048576/\-(1048576)<j/\j<1048576
      ·rw[iP0 hz]at nb ⊢
       simp only[RDs]at rd;obtain⟨v,r,rfl,r1,v2,r2,rfl,r3,v3,r4,rfl,r5,rfl⟩:=rd;simp only[RD]at r1 r3 r5;subst r1 r3 r5;obtain⟨rfl,hz⟩:=hz;cases rv with
       |cons q1 q2 =>
        cases q2 with
        |cons q3 q4 =>
         cases q4 with
         |cons q5 q6 =>
          cases q6;obtain⟨t,rfl⟩:=q1;obtain⟨t',rfl⟩:=q3;obtain⟨t'',rfl⟩:=q5;exact call_range_3 (by decide) (Vn (Xu6 I1 (by omega) (by omega) (by omega) (by omega)) (fun itv s2 ⟨src,S2,it,fp,tn,J,H2,ρ2,z1,z2,z3,z4,z5,z6,z7,z8,z9⟩=>⟨src,S2,it,fp,tn,J,H2,ρ2,z1,z2,z3,z4,z5,z6,z7,z8,st1.trans z9⟩) fun _ _ z=>z)
      ·rw[iN0 hz]at nb;exact aB0 rfl nb
     |_=>simp[Yd]at nb
    |_=>simp[Yd]at nb
   |_=>simp[Yd]at nb
  |_::_::_::_::_,rd,nb=>simp[Yd]at nb
theorem Xx3(I:S0 X pa σ H s ρ S env)(e:Yo S d=some src)(rd:RD X.K ρ H d v)(rv:RelV v u):∃k a vs,u=.ref a/\SqH k X.K H a vs/\SrcK X.K ρ H src k a:=by
 cases d with
 |tup xs =>
  have e':some (Src.con xs)=some src:=e;cases e';simp only[RD]at rd;obtain⟨a,vs,rfl,h1,h2⟩:=rd;cases rv;exact⟨false,a,vs,rfl,h1,vs,h1,h2⟩
 |ref n =>
  cases e1:Xc S n with
  |none=>simp[Yo,e1]at e
  |some xs =>
   simp only[Yo,e1,Vy,Vr]at e;subst e;obtain⟨a,vs,k1,k2,k3⟩:=I.list e1;simp only[RD]at rd;obtain⟨a',rfl,k4⟩:=rd;rw[k1]at k4;cases k4;cases rv;exact⟨true,a,vs,rfl,.of k2,k1⟩
 |_=>cases e
theorem Xzd{n a b:Nat}(h1:a<n)(h2:b<n):ZAp (n+4) (n+2) (n+3) n (n+1) a b:=by
 constructor<;>(try refine⟨?_,?_,?_,?_⟩)<;>(intro z;first|omega|(have z':(_:Nat)=_:=z;omega))
theorem X3e{n b:Nat}(h:b∈[n+4,n+2,n+3,n,n+1]):n<=b:=by
 simp only[Vv,Vap,or_false]at h;omega
theorem Xoo{k:Bool}{a:Addr}{vs:List V}(I:Inv X pa σ H s)(h:SqH k X.K H a vs):a<s.heap.objs.size:=by
 obtain⟨its,_,q⟩:=Xf7 I h;obtain⟨o,e,_⟩:=q.obj;exact Vu e
theorem X3f {es:List Expr} {g:En->Sto->R (List D)} {sx sy:Src} (hg:Gl X "zip") (hm:X.mg "zip" = none) (ha:DA X (a::es) g) (hs:V3 (a::es) X.env=(false,eval a X.env)::V3 es X.env) (hpl:(Vbg pos (V3 es X.env)).any (·.1)=false) (I:S0 X pa σ H s ρ S env) (q:g env S=.ok [x,y] S1) (e1:Yo S1 x=some sx) (e2:Yo S1 y=some sy)
  (hQ:∀s1 h' H1 ρ1 k1 k2 b1 b2,S0 X pa σ H1 s1 ρ1 S1 env->ZAp (s1.heap.objs.size+4) (s1.heap.objs.size+2) (s1.heap.objs.size+3) s1.heap.objs.size (s1.heap.objs.size+1) b1 b2->ZSa k1 k2 (s1.heap.objs.size+4) (s1.heap.objs.size+2) (s1.heap.objs.size+3) s1.heap.objs.size (s1.heap.objs.size+1) b1 b2 0 0 h'->SrcK X.K ρ1 H1 sx k1 b1->SrcK X.K ρ1 H1 sy k2 b2->Stp X.K ρ ρ1 H H1->(∀c o,s1.heap.get? c=some o->h'.get? c=some o)->Q (.ref (s1.heap.objs.size+4)) {s1 with heap:=h' }) :
  Vf (Vk X.prog X.w) X.A (eval (.Call (.Name "zip" p) (a::es) [] pos) X.env) Q E s:=by
 refine Call_ (Yj I.inv hg hm (u:=.type "zip") (by decide+kernel) (U2 (ha.ok I q fun us s1 vs H1 ρ1 I1 rv rd st1=>?_) hs hpl))
 simp only[RDs]at rd;obtain⟨v1,r1,rfl,rd1,v2,r2,rfl,rd2,rfl⟩:=rd;cases rv with
 |cons q1 q2 =>
  cases q2 with
  |cons q3 q4 =>
   cases q4;obtain⟨k1,b1,w1,rfl,m1,c1⟩:=Xx3 I1 e1 rd1 q1;obtain⟨k2,b2,w2,rfl,m2,c2⟩:=Xx3 I1 e2 rd2 q3;obtain⟨its1,_,p1⟩:=Xf7 I1.inv m1;obtain⟨its2,_,p2⟩:=Xf7 I1.inv m2;exact Xu0 p1 p2 fun h' zs kp=>hQ s1 h' H1 ρ1 k1 k2 b1 b2 I1 (Xzd (Xoo I1.inv m1) (Xoo I1.inv m2)) zs c1 c2 st1 kp
theorem X3g {x0:Nat} {ts es:List Expr} {g:En->Sto->R (List D)} (hg:Gl X "zip") (hm:X.mg "zip" = none) (ha:DA X (a::es) g) (hs:V3 (a::es) X.env=(false,eval a X.env)::V3 es X.env) (hpl:(Vbg pos (V3 es X.env)).any (·.1)=false) :
  DI X (.Tuple ts x0 tp) (.Call (.Name "zip" p) (a::es) [] pos) (fun env S=>(g env S).bind fun xs S=>match xs with
   |[x,y]=>match Yo S x,Yo S y with
    |some s,some t=>.ok (.zpp s t) S
    |_,_=>.bad
   |_=>.bad):=by
 intro pa s σ H ρ S env E I nb hE;dsimp only at nb hE ⊢;cases q:g env S with
 |bad=>rw[q]at nb;exact aB0 rfl nb
 |ex n S1=>rw[q]at hE;exact Call_ (Yj I.inv hg hm (u:=.type "zip") (by decide+kernel) (U2 (ha.ex I q fun x s' z=>hE x s' ⟨n,S1,rfl,z⟩) hs hpl))
 |ok ds S1 =>
  rw[q]at nb;simp only[Rk0]at nb ⊢
  match ds,q,nb with
  |[],q,nb=>exact aB0 rfl nb
  |[_],q,nb=>exact aB0 rfl nb
  |_::_::_::_,q,nb=>exact aB0 rfl nb
  |[x,y],q,nb =>
   cases e1:Yo S1 x with
   |none=>simp only[e1]at nb;exact aB0 rfl nb
   |some sx =>
    cases e2:Yo S1 y with
    |none=>simp only[e1,e2]at nb;exact aB0 rfl nb
    |some sy =>
     refine X3f hg hm ha hs hpl I q e1 e2 fun s1 h' H1 ρ1 k1 k2 b1 b2 I1 za zs c1 c2 st1 kp=>let ⟨_,_,zq,_⟩:=zs.zo;Xln zq ?_
     refine⟨.zpp sx sy,S1,_,[s1.heap.objs.size+4,s1.heap.objs.size+2,s1.heap.objs.size+3,s1.heap.objs.size,s1.heap.objs.size+1],_,_,H1,ρ1,by simp only[e1,e2],rfl,I1.inv.kept (t':=s1.toks) kp,Xu4 za,zs,fun b hb=>?_,.zpp c1 c2,I1.sr,st1⟩
     have hb':s1.heap.objs.size<=b:=X3e hb;exact I1.inv.fpOk hb' (I1.inv.hok.fresh hb')
theorem Xp2{a:Addr}{o:Obj}{u:HO}(I:Inv X pa σ H s)(mu:Mut (H a))(ho:s.heap.get? a=some o)(hu:H a=some u)(hk:u=.dK []\/∃ φ,u=.ext φ):Inv X pa σ (upd H a (.frz o u)) s:=by
 refine I.write (x:=a) (e:=a) (h':=s.heap) (t':=s.toks) mu (.inl rfl) (fun b w hb z=>z) ⟨o,ho⟩ ⟨ho,?_⟩
 rcases hk with rfl|⟨φ,rfl⟩
 ·exact(show ObjOk X.prog X.w H s.heap a (.dK []) from I.hok a _ hu)
 ·exact(show ObjOk X.prog X.w H s.heap a (.ext φ) from I.hok a _ hu)
theorem Xp3(I:S0 X pa σ H s ρ S env)(h:Yx S n=some kvs):∃a o u xs H',ρ[n]?=some a/\s.heap.get? a=some o/\Xf5 a o xs/\H' a=some (.frz o u)/\DX X.K ρ H' kvs xs/\Inv X pa σ H' s/\SR X.K ρ (S.set n (.fdc kvs)) H'/\Stp X.K ρ ρ H H':=by
 obtain⟨a,o,xs,ha,ho,f,hx,mu⟩:=I.dic h;unfold Yx at h;cases e:S[n]? with
 |none=>rw[e]at h;cases h
 |some ob =>
  rw[e]at h;obtain⟨a',ha',q⟩:=I.sr.adr e;rw[ha]at ha';cases ha';have go:∀u,H a=some u->(u=.dK []\/∃ φ,u=.ext φ)->Mut (H a)->(∀o u,H a≠some (.frz o u))->∃a o u xs H',ρ[n]?=some a/\s.heap.get? a=some o/\Xf5 a o xs/\H' a=some (.frz o u)/\DX X.K ρ H' kvs xs/\Inv X pa σ H' s/\SR X.K ρ (S.set n (.fdc kvs)) H'/\Stp X.K ρ ρ H H':=fun u hu hk m nf=>by
   have st:Stp X.K ρ ρ H (upd H a (.frz o u)):=Stp.chg (S:=S) (o:=.fdc kvs) I.sr ha nf;refine⟨a,o,u,xs,_,ha,ho,f,X6,hx.mono st.toMon,Xp2 I.inv m ho hu hk,I.sr.chg ha nf ⟨o,u,xs,X6,fun ys z=>?_,fun ys z=>?_,f,hx.mono st.toMon⟩,st⟩
   ·rcases hk with rfl|⟨φ,rfl⟩<;>cases z
   ·rcases hk with rfl|⟨φ,rfl⟩<;>cases z
  cases ob with
  |lst _=>cases h
  |exc _=>cases h
  |fdc kv =>
   cases h;obtain⟨o',u,xs',h1,h2,h3,h4,h5⟩:=q;obtain⟨e1,_⟩:=(show ObjOk X.prog X.w H s.heap a (.frz o' u) from I.inv.hok a _ h1);refine⟨a,o',u,xs',H,ha,e1,h4,h1,h5,I.inv,?_,.refl⟩;have:S.set n (.fdc kvs)=S:=by
    apply List.ext_getElem?;intro m
    by_cases z:n=m
    ·subst z;rw[Vbs (Vi.mp e).1,e]
    ·rw[Vaq z]
   rw[this];exact I.sr
  |dct kv =>
   cases h;obtain⟨m,nf⟩:=mu (by unfold Xdw;rw[e])
   rcases q with⟨_,hv⟩|⟨_,xs,hv,_⟩
   ·exact go _ hv (.inl rfl) m nf
   ·exact go _ hv (.inr ⟨_,rfl⟩) m nf
theorem X3h {x0:Nat} {ts:List Expr} (he:DE X e f) (hbase:attributeBase e "items" X.env (eval e X.env)=eval e X.env) (hline:(ap.endLine==cp.line)=true) :
  DI X (.Tuple ts x0 tp) (.Call (.Attribute e "items" ap) [] [] cp) (fun env S=>(f env S).bind fun x S=>match x with
   |.ref n=>match Yx S n with
    |some kvs=>.ok (.con (kvs.map Xee)) (S.set n (.fdc kvs))
    |none=>.bad
   |_=>.bad):=by
 intro pa s σ H ρ S env E I nb hE;dsimp only at nb hE ⊢;cases q:f env S with
 |bad=>rw[q]at nb;exact aB0 rfl nb
 |ex n S1=>rw[q]at hE;exact Vfn hbase rfl hline Vdr PySem.F.slot_dict_items PySem.F.type_dict_items (he.ex I q fun x s' z=>hE x s' ⟨n,S1,rfl,z⟩)
 |ok x S1 =>
  rw[q]at nb;simp only[Rk0]at nb ⊢;cases x with
  |ref n =>
   dsimp only at nb ⊢;cases e1:Yx S1 n with
   |none=>rw[e1]at nb;exact aB0 rfl nb
   |some kvs =>
    refine Vfn hbase rfl hline Vdr PySem.F.slot_dict_items PySem.F.type_dict_items (he.ok I q fun u s1 v H1 ρ1 I1 rv rd st1=>?_)
    obtain⟨a,o,w,xs,H2,ha,ho,df,hw,hx,J,sr,st2⟩:=Xp3 I1 e1;rw[RD]at rd;obtain⟨a',rfl,ha'⟩:=rd;rw[ha]at ha';cases ha';cases rv;obtain⟨f1,f2,f3,ys,es,ep,q,hd,hes,nd⟩:=id df;refine⟨⟨o,ho,f3.1⟩,fun b eb=>by cases eb;exact⟨o,ho,f3.2.1⟩,?_⟩
    refine PyProof.Rows.callWith_method0 (Xup ⟨o,ho,f3.1⟩ f1 ?_);have J1:Inv X pa σ H2 {s1 with heap:=s1.heap.push {cls:=.type "dict_items",data:=.fields #[.ref a]} }:=J.kept (t':=s1.toks) fun b w e=>Ve _ e
    refine Xuq (Vm _ rfl) (Ve _ ho) hd ?_;refine⟨_,_,_,[_],_,Itx a o xs,H2,ρ1,rfl,rfl,J1.kept (t':=s1.toks) fun b w e=>Ve _ e,Xu5 q hd (hes _ _),⟨_,_,Vm _ rfl⟩,fun b hb=>?_,.dic hw hx,sr,st1.trans st2⟩
    have eb:=Up.mp hb;subst eb;exact J1.fpOk (Vl _) (J1.hok.fresh (Vl _))
  |_=>exact aB0 rfl nb
theorem DSs.ok{st:List Stmt}{na:Bool}{g:En->Sto->R Fl}{Q:Flow->Vc->Prop}(h:DSs X st na g)(I:S0 X pa σ H s ρ S env)(r:g env S=.ok x S')(hQ:∀fl s',FlP X pa σ ρ H na S' s' x fl->Q fl s') :
  Vf (Vk X.prog X.w) X.A (execs st X.env) Q E s:=by
 refine Vn (h pa s σ H ρ S env I (by rw[r];exact fun z=>nomatch z)) (fun fl s' z=>?_) fun x s' z=>?_
 ·obtain⟨y,S1,e,z⟩:=z
  rw[r]at e;cases e;exact hQ fl s' z
 ·obtain⟨n,S1,_,e,_⟩:=z
  rw[r]at e;cases e
theorem S0.rep(I:S0 X pa σ H s ρ S env)(J:Inv X pl σ H s):S0 X pl σ H s ρ S env:=⟨J,I.sr,I.er⟩
theorem X3i{pl:List (Addr×Obj)}{σ σ':L2.St}{ρ ρ':List Addr}{H H':Hp}{s:Vc}{x:Vb}{n:Nat}{r:R Fl}(hst:X.stack=X.env::X.outer)(hf:X.env.frame=some X.env.locals)(st:Stp X.K ρ ρ' H H')(h:XPd X (pa++pl) σ' ρ' H' n S' x s)(e:r=.ex n S') :
  notedBy (Vk X.prog X.w) X.A X.env (cameBackBy (Vk X.prog X.w) X.A X.env (ExS X pa σ ρ H false r)) x s:=by
 obtain⟨H2,ρ2,a,c,J,rfl,hn,hc,sr,st2,fl⟩:=h.pre st;obtain⟨C,_,ha⟩:=(show ∃C,Yy X.K c=some C/\H2 a=some (.ext (ExcO C a)) from sr.ob n a _ hn hc);have J':Inv X pa σ' H2 s:=J.pins_of fun p hp=>J.pin p (U8 _ (Vde _ hp))
 have fl':Fly X pa H2 a s.heap:=by
  rcases fl with fl|⟨f,hf,tr⟩
  ·exact .inl fl
  ·exact .inr ⟨f,hf,tr.imp fun T ⟨h1,h2⟩=>⟨h1,fun p hp=>h2 p (by
    rcases Vbh.mp hp with z|z
    ·exact Vde _ z
    ·exact U8 _ (Vde _ z))⟩⟩
 refine Xf6 J' hst hf ha fl' fun l h2 a0 hid hnew hh up=>?_
 obtain⟨k1,k2,k3,oe,vs,T,oT,ts,t1,⟨t2,t3⟩,t4,t5,t6,t7,t8,t9,t10⟩:=hh;have J2:Inv X pa σ' H2 {s with heap:=h2}:=Inv.fly J' ha hid hnew k1 up ⟨oe,vs,a0,t1,t2,t4,t3,(Vbp.mp t5).1⟩
 have nT:T ∉ frs X.stack:=fun hm=>by
  obtain⟨_,o,e,nd⟩:=J2.stack.mem hm;have e':h2.get? T=some o:=e;rw[t8]at e';cases e';exact nd ts t9
 have hT:∀o,s.heap.get? T=some o->T∈l:=fun o e=>by
  by_cases hm:T∈l
  ·exact hm
  ·rw[Vdp l e hm]at t6;cases t6
 have nw:Xhv X pa T:=by
  cases q:s.heap.get? T with
  |some o=>exact hnew T (hT o q) t7 nT
  |none =>
   refine⟨?_,fun p hp z=>?_⟩
   ·by_cases hx:T∈X.ex
    ·exact .inl hx
    ·cases w:X.s₀.heap.get? T with
     |none=>exact .inr rfl
     |some o=>obtain⟨o',e⟩:=J'.base.there T o w hx;rw[q]at e;cases e
   ·have:=(J'.pin p hp).1
    rw[z,q]at this;cases this
 have hH:H2 T=none:=by
  cases q:H2 T with
  |none=>rfl
  |some u =>
   obtain⟨o',e1⟩:=Xbo (J'.hok T u q);rcases hid.of T (hT o' e1) with z|z|⟨z,_⟩
   ·exact aB0 z t7
   ·exact aB0 z nT
   ·rw[z]at q;cases q
 have fin:ExS X pa σ ρ H false r (.ref a) {s with heap:=h2} :=
  ⟨n,S',σ',e,(fun z=>nomatch z),H2,ρ2,a,c,J2,rfl,hn,hc,sr,st2,.inr ⟨_,.inr rfl,oe,vs,T,oT,ts,t1,t4,t5,nw,t7,hH,t8,t9,t10⟩⟩
 show Vf _ _ (do {if (<- field (.ref a) 1) == .none then {unsupported _};setFlight (.ref a) X.env.frame}) _ _ _
 refine Va (U7 (s:={s with heap:=h2}) t1 t4 t5 ?_)
 rw[iN0 (show ¬ ((Vas T==U1)=true) from by simp)]
 have step:Vf (Vk X.prog X.w) X.A (setFlight (.ref a) X.env.frame) (fun _ s2=>ExS X pa σ ρ H false r (.ref a) s2) (ExS X pa σ ρ H false r) {s with heap:=h2}:=by
  rw[hf];unfold setFlight;refine Va (U7 (s:={s with heap:=h2}) t1 t4 t5 ?_)
  rw[iP0 (show(Vas T != U1)=true from by simp)]
  refine Vgw (s:={s with heap:=h2}) t8 t9 (Vbp.mp t10).1 ?_
  rw[show((some X.env.locals).elim U1 fun f=>Uq f)=Uq X.env.locals from rfl,Heap.update_setField_same h2 T oT ts 3 _ t8 t9 t10]
  exact fin
 first
  |exact Va (Vd step)
  |exact step
theorem X3j(hst:X.stack=X.env::X.outer)(hf:X.env.frame=some X.env.locals)(hc:X.calm=true)(hi:DI X tg iter fi)(hg:DG X tg t)(hb:DSs X body na g)(hs:∀x,Vbf iter X.env x=pure x) :
  DS X (.For tg iter body [] pos) false (fun env S=>(fi env S).bind fun src S=>Xu src.get t g (src.most S+1) 0 env S):=by
 intro pa s σ H ρ S env I nb;dsimp only at nb ⊢;cases q:fi env S with
 |bad=>rw[q]at nb;exact aB0 rfl nb
 |ex n S1 =>
  refine wpAny_For (Vn (hi pa s σ H ρ S env _ I (by rw[q];exact fun z=>nomatch z) fun x s' z=>?_) (fun v s1 h1=>Vn h1 (fun itv s2 h2=>?_) fun _ _ z=>z) fun _ _ z=>z) hs
  ·rw[q]at z;obtain⟨m,S2,e,z⟩:=z;cases e;exact .of .refl z rfl
  ·obtain⟨src,S2,_,_,_,_,_,_,e,_⟩:=h2
   rw[q]at e;cases e
 |ok src S1 =>
  rw[q]at nb;simp only[Rk0]at nb ⊢;refine wpAny_For (Vn (hi pa s σ H ρ S env (ExS X pa σ ρ H false (Xu src.get t g (src.most S1+1) 0 env S1)) I (by rw[q];exact fun z=>nomatch z) fun x s' z=>?_) (fun v s1 h1=>Vn h1 (fun itv s2 h2=>?_) fun _ _ z=>z) fun _ _ z=>z) hs
  ·rw[q]at z;obtain⟨m,S2,e,z⟩:=z;cases e
  ·obtain⟨src',S2,it,fp,tn,J,H2,ρ2,e1,rfl,I2,T,t0,f2,sr2,srr,st2⟩:=h2
   rw[q]at e1;cases e1;have stat:∀ {H':Hp},(∀b∈fp,H' b=none)->∀b∈fp,Xat X pa H' b:=fun hn b hb=>⟨hn b hb,(f2 b hb).2⟩
   generalize hr0:Xu src.get t g (src.most S1+1) 0 env S1=r0;refine codeAny_forLoop_any (fun n s'=>∃i σ' H' ρ' S' env',S0 X pa σ' H' s' ρ' S' env'/\tn i s'.heap/\(∀b∈fp,H' b=none)/\SrcR X.K ρ' H' src J/\Stp X.K ρ ρ' H H'/\Xu src.get t g n i env' S'≠.bad/\Xu src.get t g n i env' S'=r0)
    ?_ (src.most S1+1) ⟨0,σ,H2,ρ2,S1,env,I.step I2 srr st2,t0,fun b hb=>(f2 b hb).1,sr2,st2,nb,hr0⟩
   rintro n s3 ⟨i,σ3,H3,ρ3,S3,env3,I3,t3,fr3,sr3,st3,nb3,eq3⟩
   cases n with
   |zero=>exact aB0 rfl nb3
   |succ n =>
    simp only[Xu]at nb3;cases g1:src.get S3 i with
    |none=>rw[g1]at nb3;exact aB0 rfl nb3
    |some o =>
     rw[g1]at nb3;cases o with
     |none =>
      refine thn (T.done X rfl rfl rfl hc i pa s3 σ3 H3 _ I3.inv (stat fr3) t3 (sr3.stop I3 g1)) fun r s4 ⟨hr,I4⟩=>?_
      subst hr;exact wpAny_execs_nil ⟨.nx env3,S3,by rw[<- eq3];simp only[Xu,g1],rfl,σ3,H3,ρ3,⟨I4,I3.sr,I3.er⟩,st3,fun z=>nomatch z⟩
     |some d =>
      dsimp only at nb3;obtain⟨go,yl⟩:=sr3.go I3 g1;refine thn (T.item X rfl rfl rfl hc i pa s3 σ3 H3 _ I3.inv (stat fr3) t3 go) fun r s4 ⟨u,hr,h4⟩=>?_
      subst hr;refine thn h4 fun _ s5 ⟨x,H5,I5,r5,y5,t5,fr5⟩=>?_
      obtain⟨sr5,st5,rd5⟩:=yl x H5 y5;have I5':=I5.pinned (stat fr5) (T.obj _ _ t5);cases e6:Xr t d env3 with
      |none=>rw[e6]at nb3;exact aB0 rfl nb3
      |some env6 =>
       rw[e6]at nb3;dsimp only at nb3;refine hg (pa++Xa5 fp s5.heap) s5 σ3 H5 ρ3 S3 env3 d x u env6 _ _ ⟨I5',sr5,I3.er.mono st5⟩ e6 rd5 r5 fun s6 σ6 I6=>?_
       have eq3':=eq3;simp only[Xu,g1,e6]at eq3';cases e7:g env6 S3 with
       |bad=>rw[e7]at nb3;exact aB0 rfl nb3
       |ex m S7 =>
        rw[e7]at eq3';refine Vn (hb _ _ _ _ _ _ _ I6 (by rw[e7];exact fun z=>nomatch z)) (fun fl s7 z7=>?_) fun x7 s7 z7=>?_
        ·obtain⟨_,_,e,_⟩:=z7;rw[e7]at e;cases e
        ·obtain⟨m',S8,σ7,e,_,z⟩:=z7
         rw[e7]at e;cases e;exact X3i hst hf (st3.trans st5) z eq3'.symm
       |ok x7 S7 =>
        rw[e7]at nb3 eq3';refine hb.ok I6 e7 fun fl s7 z7=>?_
        have again:∀ {σ7:L2.St} {H7:Hp} {ρ7:List Addr} {env7:En},S0 X (pa++Xa5 fp s5.heap) σ7 H7 s7 ρ7 S7 env7->Stp X.K ρ3 ρ7 H5 H7->Xu src.get t g n (i+1) env7 S7≠.bad->Xu src.get t g n (i+1) env7 S7=r0 ->
          ∃m,m<n+1/\∃i σ' H' ρ' S' env',S0 X pa σ' H' s7 ρ' S' env'/\tn i s7.heap/\(∀b∈fp,H' b=none)/\SrcR X.K ρ' H' src J/\Stp X.K ρ ρ' H H'/\Xu src.get t g m i env' S'≠.bad/\Xu src.get t g m i env' S'=r0 :=
         fun {σ7 H7 ρ7 env7} I7 st7 nb7 eq7=>by
          refine⟨n,Ven _,i+1,σ7,H7,ρ7,S7,env7,I7.rep I7.inv.unpinned,T.keep _ _ _ t5 fun b hb o e=>(I7.inv.pin (b,o) (U8 _ (U8 _ (Xby hb e)))).1,fun b hb=>?_,sr3.mono (st5.trans st7),st3.trans (st5.trans st7),nb7,eq7⟩
          obtain⟨o,e,_⟩:=T.obj _ _ t5 b hb;exact(I7.inv.pin (b,o) (U8 _ (U8 _ (Xby hb e)))).2.1
        cases x7 with
        |nx e =>
         obtain⟨rfl,σ7,H7,ρ7,I7,st7,_⟩:=z7;exact again I7 st7 nb3 eq3'
        |cnt e =>
         obtain⟨rfl,σ7,H7,ρ7,I7,st7⟩:=z7;exact again I7 st7 nb3 eq3'
        |brk e =>
         obtain⟨rfl,σ7,H7,ρ7,I7,st7⟩:=z7;exact⟨.nx e,S7,eq3'.symm,rfl,σ7,H7,ρ7,I7.rep I7.inv.unpinned,st3.trans (st5.trans st7),fun z=>nomatch z⟩
        |rt d' =>
         obtain⟨u',v',σ7,H7,ρ7,rfl,I7,rv7,rd7,sr7,st7⟩:=z7;exact⟨.rt d',S7,eq3'.symm,u',v',σ7,H7,ρ7,rfl,I7.unpinned,rv7,rd7,sr7,st3.trans (st5.trans st7)⟩
end
theorem Xdy(env:Vbd)(P:Str->Addr->Prop):∀(names:List (Str×Vd2)) (cs:List (Str×Addr)),(∀x∈names,x.2=.free->∃c,env.cells.lookup x.1=some c/\P x.1 c)->(∀x c,cs.lookup x=some c->P x c) ->
  ∃cl,(forIn names cs fun(x:Str×Vd2) (r:List (Str×Addr))=>(match x with
   | (name,kind)=>if (kind==Vfv)=true then do
     let a <- cellOf env name
     pure (Vd0 ((name,a)::r))
    else pure (Vd0 r):Sem (ForInStep (List (Str×Addr)))))=(pure cl:Sem (List (Str×Addr)))/\(∀x c,cl.lookup x=some c->P x c)/\(∀x c,cs.lookup x=some c->∃c',cl.lookup x=some c')/\∀x∈names,x.2=.free->∃c,cl.lookup x.1=some c
 |[],cs,_,hc=>⟨cs,rfl,hc,fun x c h=>⟨c,h⟩,fun _ h=>nomatch h⟩
 | (n,k)::r,cs,hf,hc=>by
  by_cases hk:k=.free
  ·subst hk
   obtain⟨c,hcell,hpc⟩:=hf (n,.free) Uo rfl;obtain⟨cl,e,h1,h2,h3⟩:=Xdy env P r ((n,c)::cs) (fun x hx=>hf x (Ua _ hx)) (fun x d h=>by
    rw[Vat]at h
    by_cases hx:x==n
    ·rw[hx]at h;cases h;rw[eq_of_beq hx];exact hpc
    ·have hx':(x==n)=false:=by simpa using hx
     rw[hx']at h;exact hc x d h)
   refine⟨cl,?_,h1,fun x d h=>?_,fun x hx hx2=>?_⟩
   ·rw[Vcq]
    simp only[beq_self_eq_true,if_true,cellOf,hcell,pure_bind];exact e
   ·by_cases hx:x==n
    ·exact h2 x c (by rw[Vat,hx])
    ·have hx':(x==n)=false:=by simpa using hx
     exact h2 x d (by rw[Vat,hx'];exact h)
   ·rcases Vv.mp hx with rfl|hx
    ·exact h2 n c (by rw[Vat,beq_self_eq_true])
    ·exact h3 x hx hx2
  ·obtain⟨cl,e,h1,h2,h3⟩:=Xdy env P r cs (fun x hx=>hf x (Ua _ hx)) hc
   refine⟨cl,?_,h1,h2,fun x hx hx2=>?_⟩
   ·rw[Vcq]
    have hk':(k==Vfv)=false:=by simpa using hk
    simp only[hk',V2,if_false,pure_bind];exact e
   ·rcases Vv.mp hx with rfl|hx
    ·exact aB0 hx2 hk
    ·exact h3 x hx hx2
theorem Xgv(hf:∀x∈scope.names,x.2=.free->∃c,env.cells.lookup x.1=some c) :
  ∃cl,closureFor scope env=pure cl/\(∀x c,cl.lookup x=some c->env.cells.lookup x=some c/\(x,.free)∈scope.names)/\∀x∈scope.names,x.2=.free->∃c,cl.lookup x.1=some c:=by
 obtain⟨cl,e,h1,_,h3⟩:=Xdy env (fun x c=>env.cells.lookup x=some c/\(x,.free)∈scope.names) scope.names [] (fun x hx hk=>let ⟨c,hc⟩:=hf x hx hk;⟨c,hc,hc,hk▸hx⟩) (fun x c h=>by simp at h)
 refine⟨cl,?_,h1,h3⟩;unfold closureFor;simp only[bind_pure];exact e
noncomputable abbrev Xp4(ifs:List Expr)(env:Vbd):Sem Bool:=forIn ifs true fun c r=>if r=true then do let ok <- isTrue c env (eval c env);pure (Vd0 ok) else pure (Vd0 r)
noncomputable def cE(k:Bool)(elt:Expr)(gens:List Va3)(scope:Uv)(pos:Pos):Expr:=match k with
 |false=>.ListComp elt gens scope pos
 |true=>.SetComp elt gens scope pos
noncomputable def aN(k:Bool):String:=match k with
 |false => "list.append"
 |true => "set.add"
def Xhx(k:Bool)(M:Model)(A:Uu)(elt:Expr)(gens:List Va3)(scope:Uv)(pos:Pos)(d:Nat)(acc:Vb)(env:Vbd)(P:Vc->Prop)(s:Vc):Prop :=
 match gens[d+1]? with
 |none=>Vf M A (eval elt env) (fun x s4=>Vf M A (call (.builtin (aN k)) [acc,x]) (fun _ s5=>P s5) (fun _ _=>False) s4) (fun _ _=>False) s
 |some g'=>g'.is_async=0/\(∀x,Vbf g'.iter env x=pure x)/\Vf M A (eval g'.iter env) (fun x s4=>Vf M A (Vdw x) (fun it' s5 =>
   Vcy M A (.compStart (cE k elt gens scope pos) (d+1) it' acc env) (fun r s6=>match r with | .ok _=>P s6 | .error _=>False) s5) (fun _ _=>False) s4) (fun _ _=>False) s
section
variable{prog:V1}{w:V9}{A:Uu}{s:Vc}{R:Result->Vc->Prop}
theorem Xsi(hg:gens[d]?=some ⟨target,iter,ifs,0⟩)(hm:A.mark none=A)(I:Nat->Vc->Prop)
  (turn:∀n s,I n s->Vf (Vk prog w) A (Vdd it) (fun r s₁=>match r with
   |none=>R (.ok .next) s₁
   |some v=>Vf (Vk prog w) A (Vdv target it v) (fun _ s₁'=>Vf (Vk prog w) A (assign target env v) (fun _ s₂ =>
     Vf (Vk prog w) A (Xp4 ifs env) (fun ok s₃=>if ok=true then Xhx k (Vk prog w) A elt gens scope pos d acc env (fun s₅=>∃m,m<n/\I m s₅) s₃ else ∃m,m<n/\I m s₃) (fun _ _=>False) s₂) (fun _ _=>False) s₁') (fun _ _=>False) s₁) (fun _ _=>False) s)
  (n:Nat) (h:I n s):Vcy (Vk prog w) A (.compLoop (cE k elt gens scope pos) d it acc env) R s:=by
 cases k
 all_goals
  refine codeAny_loop rfl I (fun n s hI=>?_) n h
  show Vf _ A ((compTurn _ d it acc env).onRaise (fun x=>do noteFrame x env;theTreesLotGoes x)) _ _ s
  refine wpAny_noted (Vn (E:=fun _ _=>False) ?_ (fun _ _ z=>z) fun _ _ z=>z.elim)
  unfold compTurn;simp only[cE,hg,show((0:Nat) != 0)=false from rfl,V2,if_false];refine Va (Vdu (Va (Vn (turn n s hI) (fun r s₁ h₁=>?_) fun _ _ z=>z)))
  cases r with
  |none=>exact Vd h₁
  |some v =>
   refine Va (Vn h₁ (fun _ s₁' h₁'=>Va (Vn h₁' (fun _ s₂ h₂=>Va (Vn h₂ (fun ok s₃ h₃=>?_) fun _ _ z=>z)) fun _ _ z=>z)) fun _ _ z=>z)
   cases ok with
   |false =>
    rw[iN0 V7]at h₃;simp only[V2,if_false];exact Vd ⟨rfl,h₃⟩
   |true =>
    rw[iP0 rfl]at h₃;simp only[if_true];unfold Xhx at h₃;cases hq:gens[d+1]? with
    |none =>
     rw[hq]at h₃;simp only[bind_assoc,pure_bind]
     first
      |exact Va (Vn h₃ (fun x s₄ h₄=>Va (Vn h₄ (fun _ s₅ h₅=>Vd ⟨rfl,h₅⟩) fun _ _ z=>z)) fun _ _ z=>z)
      |exact Va (Vn h₃ (fun x s₄ h₄=>Va (Vdu (Va (Vn h₄ (fun _ s₅ h₅=>Vd ⟨rfl,h₅⟩) fun _ _ z=>z)))) fun _ _ z=>z)
    |some g' =>
     rw[hq]at h₃;obtain⟨ha,hf,h₃⟩:=h₃;simp only[ha,show((0:Nat) != 0)=false from rfl,V2,if_false];refine Va (Vn h₃ (fun x s₄ h₄=>Va (Vdu (Va (Vet (hf x) (Va (Uz (Vn h₄ (fun it' s₅ h₅=>?_) fun _ _ z=>z))))))) fun _ _ z=>z)
     refine Va (wpAny_runOwn ?_);rw[hm];refine Vd9 h₅ fun r s₆ h₆=>?_
     cases r with
     |ok f=>exact Vd ⟨rfl,h₆⟩
     |error e=>exact h₆.elim
theorem Xp5(hg:gens[d]?=some ⟨target,iter,ifs,0⟩)
  (h0:Vcy (Vk prog w) A (.compLoop (cE k elt gens scope pos) d it acc env) R s)
  (h:Vf (Vk prog w) A (Vdw it) (fun it' s'=>Vcy (Vk prog w) A (.compLoop (cE k elt gens scope pos) d it' acc env) R s') (fun _ _=>False) s) :
  Vcy (Vk prog w) A (.compStart (cE k elt gens scope pos) d it acc env) R s:=by
 cases k
 all_goals
  refine Vgh ?_;show Vf _ _ ((compStart _ d it acc env).onRaise (fun x=>do noteFrame x env;standAt theWindowsPlace)) _ _ s
  refine wpAny_notedAt ?_;unfold compStart;simp only[cE,clausesOf,hg,Option.elim,show((0:Nat) != 0)=false from rfl,V2,if_false];refine Va (Vcz (wpAny_ite ?_));split
  ·first
    |exact Va (Vd (Vd (And.intro rfl h0)))
    |exact Vd (And.intro rfl h0)
  ·refine Va (Vdy ?_)
   refine Va (Vdu (Va (Vn h (fun it' s' h'=>Vd (And.intro rfl h')) fun _ _ x=>x.elim)))
end
section
variable{X:Cx}{pa:List (Addr×Obj)}{σ:L2.St}{H:Hp}{s:Vc}{ρ:List Addr}{S S':Sto}{env:En}{Q:Vb->Vc->Prop}{E:Vb->Vc->Prop}
def DTs(X:Cx)(ifs:List Expr)(f:En->Sto->R Bool):Prop :=
 ∀(pa:List (Addr×Obj)) (s:Vc) (σ:L2.St) (H:Hp) (ρ:List Addr) (S:Sto) (env:En) (b:Bool) (S':Sto) (Q:Bool->Vc->Prop) (E:Vb->Vc->Prop),S0 X pa σ H s ρ S env->f env S=.ok b S' ->
  (∀s' H' ρ',S0 X pa σ H' s' ρ' S' env->Stp X.K ρ ρ' H H'->Q b s')->Vf (Vk X.prog X.w) X.A (Xp4 ifs X.env) Q E s
theorem Xfn{M:Model}{A:Uu}{env:Vbd}{s:Vc}{Q:Bool->Vc->Prop}{E:Vb->Vc->Prop}(h:Q false s):∀ifs:List Expr,
  Vf M A (forIn ifs false fun c r=>if r=true then do let ok <- isTrue c env (eval c env);pure (Vd0 ok) else pure (Vd0 r)) Q E s
 |[]=>Vd h
 |c::r=>by
  rw[Vcq];simp only[V2,if_false];exact Va (Vd (Xfn h r))
theorem Xze:DTs X [] (fun _ S=>.ok true S):=by
 intro pa s σ H ρ S env b S' Q E I h hQ;cases h;exact Vd (hQ s H ρ I .refl)
theorem Xu7{cs:List Expr}{fc:En->Sto->R D}{g:En->Sto->R Bool}(hc:DT X c (fun env S=>tst (fc env S)))(hr:DTs X cs g) :
  DTs X (c::cs) (fun env S=>(fc env S).bind fun x S=>match Xf S x with|some true=>g env S|some false=>.ok false S|none=>.bad):=by
 intro pa s σ H ρ S env b S' Q E I h hQ;dsimp only at h;cases q:fc env S with
 |bad=>rw[q]at h;cases h
 |ex n S1=>rw[q]at h;cases h
 |ok x S1 =>
  rw[q]at h;simp only[Rk0]at h;unfold Xp4;rw[Vcq];simp only[if_true];cases t:Xf S1 x with
  |none=>rw[t]at h;cases h
  |some r =>
   rw[t]at h;refine Va (Va (hc.ok I (by simp only[q];exact Xa9 t) fun s2 H2 ρ2 I2 st2=>Vd ?_))
   cases r with
   |true=>exact hr pa s2 σ H2 ρ2 S1 env b S' Q E I2 h fun s3 H3 ρ3 I3 st3=>hQ s3 H3 ρ3 I3 (st2.trans st3)
   |false=>cases h;exact Xfn (hQ s2 H2 ρ2 I2 st2) cs
theorem Mon.trans{K:Vg}{ρ' ρ'':List Addr}{H' H'':Hp}(x:Mon K ρ ρ' H H')(y:Mon K ρ' ρ'' H' H''):Mon K ρ ρ'' H H'' :=
 ⟨fun n a h=>y.pre n a (x.pre n a h),fun a xs h=>y.tup a xs (x.tup a xs h),fun a o u h=>y.frz a o u (x.frz a o u h)⟩
theorem Xp6:∀(is:List Nat) (ds:List D) (env:En),i ∉ is->((is.zip ds).foldl (fun e p=>e.set p.1 (some p.2)) env)[i]?=env[i]?:=by
 intro is
 induction is with
 |nil=>intro ds env _;simp
 |cons j js ih =>
  intro ds env hn;cases ds with
  |nil=>simp
  |cons d ds =>
   simp only[List.zip_cons_cons,Vdx];rw[ih ds _ (fun z=>hn (Ua _ z)),Vaq (fun z=>hn (by simp[z]))]
theorem Xm5{t:Tg}{d:D}{env env':En}(h:Xr t d env=some env'){i:Nat}(hi:i ∉ slots t):env'[i]?=env[i]?:=by
 cases t with
 |var j =>
  simp only[Xr,Vr]at h;subst h;have:j≠i:=fun z=>hi (by simp[slots,z])
  rw[Vaq this]
 |tup is =>
  cases d with
  |tup ds =>
   simp only[Xr]at h;split at h
   ·cases h
    exact Xp6 is ds env hi
   ·cases h
  |_=>cases h
def Xf8:Type:=List Addr->Hp->List D->Prop
def Xgw(K:Vg)(Da:Addr)(AR:Xf8):Prop:=∀(ρ ρ':List Addr) (H H':Hp) (acc:List D),AR ρ H acc->Da ∉ ρ->Stp K ρ ρ' H H'->Da ∉ ρ'/\AR ρ' H' acc
noncomputable def LstA(K:Vg)(Da:Addr):Xf8:=fun ρ H acc=>∃vs,H Da=some (.lst vs)/\RDs K ρ H acc vs
def Xbn(k:Bool)(AR:Xf8)(Y:Cx)(Da:Addr)(elt:Expr)(gens:List Va3)(scope:Uv)(cpos:Pos)(d:Nat)(body:En->List D->Sto->R (List D)):Prop :=
 ∀(pa:List (Addr×Obj)) (s:Vc) (σ:L2.St) (H:Hp) (ρ:List Addr) (S S':Sto) (env:En) (acc acc':List D) (H0:Hp) (ρ0:List Addr) (P:Vc->Prop),S0 Y pa σ H s ρ S env->Da ∉ ρ->AR ρ H acc->H0 Da=none->Stp Y.K ρ0 ρ H0 H ->
  body env acc S=.ok acc' S'->(∀s' σ' H' ρ',S0 Y pa σ' H' s' ρ' S' env->Da ∉ ρ'->AR ρ' H' acc'->Stp Y.K ρ0 ρ' H0 H'->Mon Y.K ρ ρ' H H'->P s') ->
  Xhx k (Vk Y.prog Y.w) Y.A elt gens scope cpos d (.ref Da) Y.env P s
theorem Stp.out{K:Vg}{ρ':List Addr}{H':Hp}{Da:Addr}{o:HO}(st:Stp K ρ ρ' H H')(hD:H Da=some o)(hn:Da ∉ ρ):Da ∉ ρ'/\H' Da=some o :=
 ⟨fun hm=>(st.new Da hm).elim hn (fun z=>by rw[hD]at z;cases z),st.keep Da o hD hn⟩
theorem LstA.ok{K:Vg}{Da:Addr}:Xgw K Da (LstA K Da):=fun ρ ρ' H H' acc ⟨vs,h,r⟩ hn st=>⟨(st.out h hn).1,vs,(st.out h hn).2,r.mono st⟩
theorem Xsj{k:Bool}{AR:Xf8}{Y:Cx}{Da it:Addr}{elt tg iter:Expr}{gens:List Va3}{ifs:List Expr}{scope:Uv}{cpos:Pos}{d:Nat}{t:Tg}{src:Src}{J:L2.It}{fp:List Addr}{tn:Nat->Heap->Prop}{tf:En->Sto->R Bool}{body:En->List D->Sto->R (List D)}
  {pa:List (Addr×Obj)} {σ:L2.St} {H H0:Hp} {s:Vc} {ρ ρ0:List Addr} {S Sf:Sto} {env:En} {acc accf:List D} {P:Vc->Prop} (hA:Xgw Y.K Da AR) (hc:Y.calm=true) (hg:gens[d]?=some ⟨tg,iter,ifs,0⟩)
  (T:Turn Y.prog Y.w Y.K tg J fp it tn) (hG:DG Y tg t) (hT:DTs Y ifs tf) (hB:Xbn k AR Y Da elt gens scope cpos d body) (h0:H0 Da=none)
  (I:S0 Y pa σ H s ρ S env) (t0:tn 0 s.heap) (f0:∀b∈fp,Xat Y pa H b) (sr:SrcR Y.K ρ H src J) (hn:Da ∉ ρ) (ha:AR ρ H acc) (st0:Stp Y.K ρ0 ρ H0 H)
  (hr:X0 src.get t (Xz tf body) (src.most S+1) 0 env acc S=.ok accf Sf)
  (hP:∀s' σ' H' ρ' env',S0 Y pa σ' H' s' ρ' Sf env'->(∀i,i ∉ slots t->env'[i]?=env[i]?)->Da ∉ ρ'->AR ρ' H' accf->Stp Y.K ρ0 ρ' H0 H'->Mon Y.K ρ ρ' H H'->P s') :
  Vcy (Vk Y.prog Y.w) Y.A (.compStart (cE k elt gens scope cpos) d (.ref it) (.ref Da) Y.env) (fun r s'=>match r with | .ok _=>P s' | .error _=>False) s:=by
 have loop:Vcy (Vk Y.prog Y.w) Y.A (.compLoop (cE k elt gens scope cpos) d (.ref it) (.ref Da) Y.env) (fun r s'=>match r with | .ok _=>P s' | .error _=>False) s:=by
  have stat:∀ {H':Hp},(∀b∈fp,H' b=none)->∀b∈fp,Xat Y pa H' b:=fun hn b hb=>⟨hn b hb,(f0 b hb).2⟩
  refine Xsi hg rfl (fun n s'=>∃i σ' H' ρ' S' env' acc',S0 Y pa σ' H' s' ρ' S' env'/\tn i s'.heap/\(∀b∈fp,H' b=none)/\SrcR Y.K ρ' H' src J/\Mon Y.K ρ ρ' H H'/\Stp Y.K ρ0 ρ' H0 H'/\Da ∉ ρ'/\AR ρ' H' acc' /\
   (∀i,i ∉ slots t->env'[i]?=env[i]?)/\X0 src.get t (Xz tf body) n i env' acc' S'=.ok accf Sf) ?_ (src.most S+1) ⟨0,σ,H,ρ,S,env,acc,I,t0,fun b hb=>(f0 b hb).1,sr,Stp.refl.toMon,st0,hn,ha,fun _ _=>rfl,hr⟩
  rintro n s3 ⟨i,σ3,H3,ρ3,S3,env3,acc3,I3,t3,fr3,sr3,mo3,st3,hn3,ha3,hs3,eq3⟩
  cases n with
  |zero=>cases eq3
  |succ n =>
   simp only[X0]at eq3;cases g1:src.get S3 i with
   |none=>rw[g1]at eq3;cases eq3
   |some o =>
    rw[g1]at eq3;cases o with
    |none =>
     cases eq3;refine thn (T.done Y rfl rfl rfl hc i pa s3 σ3 H3 _ I3.inv (stat fr3) t3 (sr3.stop I3 g1)) fun r s4 ⟨hr,I4⟩=>?_
     subst hr;exact hP s4 σ3 H3 ρ3 env3 ⟨I4,I3.sr,I3.er⟩ hs3 hn3 ha3 st3 mo3
    |some dd =>
     dsimp only at eq3;obtain⟨go,yl⟩:=sr3.go I3 g1;refine thn (T.item Y rfl rfl rfl hc i pa s3 σ3 H3 _ I3.inv (stat fr3) t3 go) fun r s4 ⟨u,hr,h4⟩=>?_
     subst hr;refine thn h4 fun _ s5 ⟨x,H5,I5,r5,y5,t5,fr5⟩=>?_
     obtain⟨sr5,st5,rd5⟩:=yl x H5 y5;have I5':=I5.pinned (stat fr5) (T.obj _ _ t5);cases e6:Xr t dd env3 with
     |none=>rw[e6]at eq3;cases eq3
     |some env6 =>
      rw[e6]at eq3;dsimp only at eq3;refine hG (pa++Xa5 fp s5.heap) s5 σ3 H5 ρ3 S3 env3 dd x u env6 _ _ ⟨I5',sr5,I3.er.mono st5⟩ e6 rd5 r5 fun s6 σ6 I6=>?_
      obtain⟨_,ha6⟩:=hA _ _ _ _ _ ha3 hn3 st5;cases e7:Xz tf body env6 acc3 S3 with
      |bad=>rw[e7]at eq3;cases eq3
      |ex m S7=>rw[e7]at eq3;cases eq3
      |ok acc7 S7 =>
       rw[e7]at eq3;dsimp only at eq3;have hs6:∀i,i ∉ slots t->env6[i]?=env[i]?:=fun i hi=>(Xm5 e6 hi).trans (hs3 i hi)
       have again:∀ {s7:Vc} {σ7:L2.St} {H7:Hp} {ρ7:List Addr},S0 Y (pa++Xa5 fp s5.heap) σ7 H7 s7 ρ7 S7 env6->SrcR Y.K ρ7 H7 src J->Mon Y.K ρ ρ7 H H7->Stp Y.K ρ0 ρ7 H0 H7->Da ∉ ρ7->AR ρ7 H7 acc7 ->
         ∃m,m<n+1/\∃i σ' H' ρ' S' env' acc',S0 Y pa σ' H' s7 ρ' S' env'/\tn i s7.heap/\(∀b∈fp,H' b=none)/\SrcR Y.K ρ' H' src J/\Mon Y.K ρ ρ' H H'/\Stp Y.K ρ0 ρ' H0 H'/\Da ∉ ρ'/\AR ρ' H' acc' /\
          (∀i,i ∉ slots t->env'[i]?=env[i]?)/\X0 src.get t (Xz tf body) m i env' acc' S'=.ok accf Sf:=fun {s7 σ7 H7 ρ7} I7 sr7 mo7 st7 hn7 ha7=>by
        refine⟨n,Ven _,i+1,σ7,H7,ρ7,S7,env6,acc7,I7.rep I7.inv.unpinned,T.keep _ _ _ t5 fun b hb o e=>(I7.inv.pin (b,o) (U8 _ (U8 _ (Xby hb e)))).1,fun b hb=>?_,sr7,mo7,st7,hn7,ha7,hs6,eq3⟩
        obtain⟨o,e,_⟩:=T.obj _ _ t5 b hb;exact(I7.inv.pin (b,o) (U8 _ (U8 _ (Xby hb e)))).2.1
       unfold Xz at e7;cases e8:tf env6 S3 with
       |bad=>rw[e8]at e7;cases e7
       |ex m S8=>rw[e8]at e7;cases e7
       |ok b8 S8 =>
        rw[e8]at e7;simp only[Rk0]at e7;refine hT (pa++Xa5 fp s5.heap) s6 σ6 H5 ρ3 S3 env6 b8 S8 _ _ I6 e8 fun s8 H8 ρ8 I8 st8=>?_
        obtain⟨hn8,ha8⟩:=hA _ _ _ _ _ ha6 hn3 st8;have st08:=st3.trans (st5.trans st8);have sr8:SrcR Y.K ρ8 H8 src J:=sr3.mono (st5.trans st8);cases b8 with
        |false =>
         rw[iN0 V7]at e7 ⊢;cases e7;exact again I8 sr8 (mo3.trans (st5.trans st8).toMon) st08 hn8 ha8
        |true =>
         rw[iP0 rfl]at e7 ⊢;exact hB (pa++Xa5 fp s5.heap) s8 σ6 H8 ρ8 S8 S7 env6 acc3 acc7 H0 ρ0 _ I8 hn8 ha8 h0 st08 e7 fun s9 σ9 H9 ρ9 I9 hn9 ha9 st9 mo9=>again I9 (sr8.mono' mo9) ((mo3.trans (st5.trans st8).toMon).trans mo9) st9 hn9 ha9
 exact Xp5 hg loop (T.self Y.A 0 s _ _ t0 loop)
theorem Xjw(hg:gens[d+1]?=none)(he:DE Y elt fe) :
  Xbn false (LstA Y.K Da) Y Da elt gens scope cpos d (fun env acc S=>(fe env S).bind fun y S=>if acc.length<big then .ok (acc++[y]) S else .bad):=by
 intro pa s σ H ρ S S' env acc acc' H0 ρ0 P I hn ⟨vs,hD,ra⟩ h0 st0 hb hP;unfold Xhx;rw[hg];dsimp only at hb ⊢;cases q:fe env S with
 |bad=>rw[q]at hb;cases hb
 |ex n S1=>rw[q]at hb;cases hb
 |ok y S1 =>
  rw[q]at hb;simp only[Rk0]at hb;split at hb
  ·rename_i hz
   cases hb;refine he.ok I q fun u s1 v H1 ρ1 I1 rv rd st1=>?_
   obtain⟨hn1,hD1⟩:=st1.out hD hn;have hlen:vs.length<Vw:=by rw[<- ra.length];exact V6 hz Xef
   refine mtd (X:=Y) (Q':=fun z H'=>z=.non/\H'=upd H1 Da (.lst (vs++[v]))) Xjp I1.inv (show RelV (.ref Da) (.ref Da) from rfl) (.cons rv .nil) ⟨Da,vs,v,rfl,rfl,hD1,hlen,rfl,rfl⟩ fun w s2 z H2 J rz ⟨e1,e2⟩=>?_
   subst e1 e2;have mo:Mon Y.K ρ1 ρ1 H1 (upd H1 Da (.lst (vs++[v]))):=Mon.own hD1;refine hP s2 σ _ ρ1 ⟨J,I1.sr.own hD1 hn1,I1.er.mono' mo⟩ hn1 ⟨vs++[v],X6,(RDs.mono' mo _ _ (ra.mono st1)).append (.cons (RD.mono' mo _ _ rd) .nil)⟩ ((st0.trans st1).own h0 hD1) ⟨fun n a h=>st1.pre n a h,fun a xs h=>mo.tup a xs (st1.tup a xs h),fun a o u h=>mo.frz a o u (st1.frz a o u h)⟩
  ·cases hb
theorem Xjx{k:Bool}{AR:Xf8}(hA:Xgw Y.K Da AR)(hc:Y.calm=true)
  (hg:gens[d+1]?=some ⟨tg2,iter2,ifs2,0⟩) (hi:DI Y tg2 iter2 fi) (hs:∀x,Vbf iter2 Y.env x=pure x) (hG:DG Y tg2 t2) (hT:DTs Y ifs2 tf) (hB:Xbn k AR Y Da elt gens scope cpos (d+1) body) :
  Xbn k AR Y Da elt gens scope cpos d (fun env acc S=>if Xc4 t2 env then (fi env S).bind fun src S=>X0 src.get t2 (Xz tf body) (src.most S+1) 0 env acc S else .bad):=by
 intro pa s σ H ρ S S' env acc acc' H0 ρ0 P I hn ha h0 st0 hb hP;unfold Xhx;rw[hg];dsimp only at hb ⊢;split at hb
 ·rename_i hno
  refine⟨rfl,hs,?_⟩;cases q:fi env S with
  |bad=>rw[q]at hb;cases hb
  |ex n S1=>rw[q]at hb;cases hb
  |ok src S1 =>
   rw[q]at hb;simp only[Rk0]at hb;refine Vn (hi pa s σ H ρ S env (fun _ _=>False) I (by rw[q];exact fun z=>nomatch z) fun x s' z=>?_) (fun v s1 h1=>Vn h1 (fun itv s2 h2=>?_) fun _ _ z=>z) fun _ _ z=>z
   ·rw[q]at z;obtain⟨m,S2,e,z⟩:=z;cases e
   ·obtain⟨src',S2,it,fp,tn,J,H2,ρ2,e1,rfl,I2,T,t0,f2,sr2,srr,st2⟩:=h2
    rw[q]at e1;cases e1;obtain⟨hn2,ha2⟩:=hA _ _ _ _ _ ha hn st2;refine Xsj (ρ0:=ρ0) (H0:=H0) hA hc hg T hG hT hB h0 (I.step I2 srr st2) t0 f2 sr2 hn2 ha2 (st0.trans st2) hb fun s' σ' H' ρ' env' I' hs' hn' ha' st' mo'=>?_
    refine hP s' σ' H' ρ' ⟨I'.inv,I'.sr,⟨?_,fun i d e=>?_⟩⟩ hn' ha' st' (st2.toMon.trans mo')
    ·have h1:=I.er.len
     have h2:=I.inv.len;have h3:=I'.inv.len;omega
    ·by_cases hi:i∈slots t2
     ·have z:=Ux.mp hno i hi
      rw[e]at z;cases z
     ·exact I'.er.val i d ((hs' i hi).trans e)
 ·cases hb
end
noncomputable def hid(own:List Str)(y:Str):Str:=if own.contains y then U9 "0" ++ y else y
noncomputable def Ym(N own:List Str):List Str:=N.map (hid own)++own
structure ScOk(outer sc:Uv)(N own:List Str):Prop where
 kind:sc.kind=.function
 okind:outer.kind=.function
 nd:(Ym N own).Nodup
 cel:∀y∈sc.names,y.2=.cell->y.1∈own
 apart:∀y∈sc.names,y.2=.free->y.1 ∉ own
 free:∀y∈sc.names,y.2=.free->outer.names.lookup y.1=some .cell\/outer.names.lookup y.1=some .free
 loc:∀y,sc.names.lookup y=some .local->y∈own
 names:∀x∈sc.names,x.2=.local->sc.names.lookup x.1=some .local
 hidn:∀y∈N,own.contains y=true->sc.names.lookup (U9 "0" ++ y)=none
section
variable{X:Cx}{pa:List (Addr×Obj)}{σ:L2.St}{H:Hp}{s:Vc}{ρ:List Addr}{S S':Sto}{env:En}{Q:Vb->Vc->Prop}{E:Vb->Vc->Prop}
noncomputable def blk(X:Cx)(pa:List (Addr×Obj))(s:Vc)(H:Hp)(sc:Uv)(cl:List (Str×Addr))(C:Addr)(own:List Str)(fp:List Addr):Cx :=
 { X with N:=Ym X.N own,s₀:=s,H₀:=H,env:=compEnvC sc cl C X.env,outer:=X.stack,stack:=X.stack,ex:=fp,fn:=fun x=>own.contains x,pn:=X.pn++pa}
theorem Xb1{names:List (Str×Vd2)}(h:names.lookup x=some k):(x,k)∈names:=Vb8 h
theorem Xm6{cs:List (Str×Addr)}(h:cs.lookup x=some c):(x,c)∈cs:=Vb8 h
theorem Xbj(sc:Uv)(env:Vbd)(x:Str):(relabel sc env).names.lookup x=(sc.names.lookup x).map fun k=>if (k == .free&&env.scope.kind == .function&&env.kindOf x==some .cell)=true then .cell else k:=by
 unfold relabel;dsimp only
 induction sc.names with
 |nil=>rfl
 |cons y r ih =>
  obtain⟨n,k⟩:=y;show List.lookup x ((if (k==Vfv&&env.scope.kind == .function&&env.kindOf n==some .cell)=true then (n,NameKind.cell) else (n,k))::_)=_
  by_cases hx:x==n
  ·have e:=eq_of_beq hx
   subst e
   by_cases hc:(k==Vfv&&env.scope.kind == .function&&env.kindOf x==some .cell)=true
   ·rw[iP0 hc,Vat,beq_self_eq_true,Vat,beq_self_eq_true];exact congrArg some (iP0 hc).symm
   ·rw[iN0 hc,Vat,beq_self_eq_true,Vat,beq_self_eq_true];exact congrArg some (iN0 hc).symm
  ·have hx':(x==n)=false:=by simpa using hx
   by_cases hc:(k==Vfv&&env.scope.kind == .function&&env.kindOf n==some .cell)=true
   ·rw[iP0 hc,Vat,hx',Vat,hx'];exact ih
   ·rw[iN0 hc,Vat,hx',Vat,hx'];exact ih
theorem X3k{own:List Str}{cl:List (Str×Addr)}{fp:List Addr}{m:Str->Option Vb}(so:ScOk X.env.scope sc X.N own)(I:Inv X pa σ H s)(hf:∀b∈fp,Xat X pa H b)
  (hcl:∀x c,cl.lookup x=some c->(x ∉ own/\X.env.cells.lookup x=some c)\/(x∈own/\C<c/\s4.heap.IsCell c none)) (hinj:∀x y c,cl.lookup x=some c->cl.lookup y=some c->x=y) (hclf:∀x,sc.names.lookup x=some .cell\/sc.names.lookup x=some .free->∃c,cl.lookup x=some c)
  (hDa:Da=s.heap.objs.size) (hC:C=s.heap.objs.size+1) (hos:s4.os=s.os) (hgens:s4.gens=s.gens) (keep:∀b o,s.heap.get? b=some o->s4.heap.get? b=some o)
  (hns:s4.heap.Ns C m) (hacc:ObjOk X.prog X.w (upd H Da u) s4.heap Da u) (hfp:∀b∈fp,b<s.heap.objs.size) :
  Inv (blk X pa s H sc cl C own fp) [] (σ++Vh own.length none) (upd H Da u) s4:=by
 have hD:H Da=none:=by rw[hDa];exact I.hok.fresh (Vl _)
 have hCn:H C=none:=by rw[hC];exact I.hok.fresh (Vdi _)
 have hCD:C≠Da:=by rw[hC,hDa];exact Vca (Ven _)
 have lt_ne:∀b,b<s.heap.objs.size->b≠C/\b≠Da:=fun b hb=>⟨by rw[hC];exact V8 (Va0 hb),by rw[hDa];exact V8 hb⟩
 have cell_lt:∀x c,X.env.cells.lookup x=some c->c<s.heap.objs.size:=fun x c e=>by obtain⟨v,q⟩:=I.cell x c e;exact q.lt
 refine⟨⟨I.ok.mod,so.kind,I.ok.glob,I.ok.blt,?_,?_,?_,?_,I.ok.hd,I.ok.frames,.inl rfl,?_,I.bs,?_,?_,?_,I.stack,I.stkFree⟩,hos,?_,?_,?_,?_,?_,?_,?_,?_,?_⟩
 ·show s.heap.objs.size<=C;rw[hC];exact Vdi _
 ·exact hinj
 ·intro x hx
  have hx':(relabel sc X.env).names.lookup x=some .cell\/(relabel sc X.env).names.lookup x=some .free:=hx;rw[Xbj]at hx';cases e:sc.names.lookup x with
  |none=>rw[e]at hx';simp at hx'
  |some k =>
   rw[e]at hx';have hk:k=.cell\/k=.free:=by
    rcases hx' with h|h
    ·simp only[Vy,Vr]at h
     split at h
     ·rename_i hc
      simp only[bA0,beq_iff_eq]at hc;exact .inr hc.1.1
     ·exact .inl h
    ·simp only[Vy,Vr]at h
     split at h
     ·cases h
     ·exact .inr h
   exact hclf x (hk.elim (fun z=>.inl (z▸e)) fun z=>.inr (z▸e))
 ·intro x c h e
  have hx:x∈own:=by simpa using (show own.contains x=true from h)
  rcases hcl x c e with⟨z,_⟩|⟨_,z,_⟩
  ·exact aB0 hx z
  ·show s.heap.objs.size<=c;rw[hC]at z;exact Vb9 (Vfo z)
 ·intro b hb
  refine⟨(lt_ne b (hfp b hb)).1,fun x c h=>?_⟩
  rcases hcl x c h with⟨_,z⟩|⟨_,z,_⟩
  ·exact(hf b hb).2.2.2.2.1 x c z
  ·rw[hC]at z
   exact Vca (Vea (hfp b hb) (Vfo z))
 ·exact U4 I.ok.bsz I.sz
 ·intro b o e hb
  rcases (hf b hb).2.2.2.1 with z|z
  ·exact I.ok.noex b o e z
  ·exact aB0 (V6 (Vu e) (U4 I.ok.bsz z)) (Vds _)
 ·intro b hb hm
  rcases Vv.mp (I.stkSub b hm) with z|z
  ·exact(hf b hb).2.1 z
  ·exact(hf b hb).2.2.1 z
 ·rw[hgens];exact I.bare
 ·refine⟨fun b o e _ _ _=>keep b o e,fun b o e _ _ _=>⟨o.slots,keep b o e⟩,fun b o e n _=>?_,fun b o e _=>⟨o,keep b o e⟩,fun b xs e=>?_,fun b o u e=>?_,fun b ps e=>⟨#[],?_⟩⟩
  ·show upd H Da _ b=none
   rw[Xh (lt_ne b (Vu e)).2];exact n
  ·rw[Xh (Xs e hD)];exact e
  ·rw[Xh (Xs e hD)];exact e
  ·rw[Xh (Xs e hD),show H b=some (.tbl ps) from e];simp
 ·refine⟨m,hns,fun i x v h1 h2 h3=>?_⟩
  have hi:i<X.N.length:=by
   by_cases hi:i < σ.length
   ·rw[I.len]at hi;exact hi
   ·rw[U5 (by omega),Vcv]at h2
    split at h2<;>cases h2
  have h1':(Ym X.N own)[i]?=some x:=h1;unfold Ym at h1';rw[Vt (by simpa using hi),Vx]at h1'
  rw[Vt (by rw[I.len];exact hi)]at h2
  cases ey:X.N[i]? with
  |none=>rw[ey]at h1';cases h1'
  |some y =>
   rw[ey]at h1';simp only[Vy,Vr]at h1';have h3':Vis (relabel sc X.env) x:=h3;have nloc:=so.loc;have hxo:x ∉ own:=fun hm=>by
    have nd:=so.nd;unfold Ym at nd;rw[Vfl]at nd;exact nd.2.2 x (Uh.mpr ⟨y,Ur ey,h1'⟩) x hm rfl
   have hfree:sc.names.lookup x=some .free:=by
    have:(relabel sc X.env).names.lookup x=some .local\/(relabel sc X.env).names.lookup x=some .cell\/(relabel sc X.env).names.lookup x=some .free:=h3';rw[Xbj]at this;cases e:sc.names.lookup x with
    |none=>rw[e]at this;simp at this
    |some k =>
     cases k with
     |free=>rfl
     |«local»=>exact aB0 (nloc x e) hxo
     |cell=>exact aB0 (so.cel _ (Xb1 e) rfl) hxo
     |_=>rw[e]at this;simp at this
   have hxy:x=y:=by
    unfold hid at h1';split at h1'
    ·rename_i hc
     have z:=so.hidn y (Ur ey) hc;rw[h1',hfree]at z;cases z
    ·exact h1'.symm
   subst hxy;obtain⟨c,hc⟩:=hclf x (.inr hfree);have hcX:=((hcl x c hc).resolve_right fun z=>hxo z.1).2
   have kx:=so.free (x,.free) (Xb1 hfree) rfl;obtain⟨m0,hn0,hl⟩:=I.loc;obtain⟨u,ru,lk⟩:=hl i x v ey h2 (kx.elim (fun z=>.inr (.inl z)) fun z=>.inr (.inr z))
   refine⟨u,ru,.inr ⟨?_,c,hc,?_⟩⟩
   ·show(relabel sc X.env).names.lookup x=some .cell\/(relabel sc X.env).names.lookup x=some .free
    rw[Xbj,hfree];simp only[Vy];split
    ·exact .inl rfl
    ·exact .inr rfl
   ·rcases lk with⟨k,_⟩|⟨_,c',hc',hcell⟩
    ·have k':X.env.scope.names.lookup x=some .local:=k
     rcases kx with z|z<;>(rw[k']at z;cases z)
    ·rw[hcX]at hc';cases hc'
     exact⟨_,keep _ _ hcell.choose_spec.1,hcell.choose_spec.2⟩
 ·intro x c h
  rcases hcl x c h with⟨_,z⟩|⟨_,_,z⟩
  ·obtain⟨v,o,ho,hd⟩:=I.cell x c z
   exact⟨v,o,keep _ _ ho,hd⟩
  ·exact⟨none,z⟩
 ·show upd H Da _ C=none
  rw[Xh hCD];exact hCn
 ·intro x c h
  rcases hcl x c h with⟨_,z⟩|⟨_,z,_⟩
  ·rw[Xh (lt_ne c (cell_lt x c z)).2]
   exact I.freeC x c z
  ·rw[hC]at z
   rw[Xh (by rw[hDa];exact Vca (Vfo z))]
   exact I.hok.fresh (Vb9 (Vfo z))
 ·intro p hp
  rw[Vz]at hp;obtain⟨e,n,ne,nf,d⟩:=I.pin p hp;refine⟨keep _ _ e,?_,(lt_ne _ (Vu e)).1,fun hm=>?_,d⟩
  ·rw[Xh (lt_ne _ (Vu e)).2];exact n
  ·rcases Vv.mp (I.stkSub _ hm) with z|z
   ·exact ne z
   ·exact nf z
 ·intro b o e
  by_cases hb:b=Da
  ·subst hb
   rw[X6]at e;cases e;exact hacc
  ·rw[Xh hb]at e
   exact(I.hok b o e).stay (fun c v _ q=>keep c v q) (fun c q=>by rw[Xh (Xs q hD)];exact q) fun c xs q=>by rw[Xh (Xs q hD)];exact q
 ·show(σ++Vh own.length none).length=(Ym X.N own).length
  unfold Ym;simp[I.len]
theorem Xzf(I:Inv X pa σ H s)(hf:∀b∈fp,Xat X pa H b)(J:Inv (blk X pa s H sc cl C own fp) [] σ' H' s') :
  Inv X pa σ H' s' :=
 I.call' J.os J.base J.hok J.bare fun b hb=>⟨(hf b hb).2.2.2.1,(hf b hb).2.1,(hf b hb).2.2.2.2.1,(hf b hb).2.2.2.2.2⟩
theorem Xeh:∀(names:List (Str×Vd2)) (n:Nat) (acc:List (Str×Addr)),Vbt n names acc=Vbt n names []++acc
 |[],_,_=>rfl
 | (x,k)::r,n,acc=>by
  unfold Vbt;split
  ·rw[Xeh r (n+1) ((x,n)::acc),Xeh r (n+1) [(x,n)],Vo];rfl
  ·exact Xeh r n acc
theorem Xlo:∀(names:List (Str×Vd2)) (n:Nat),(x,c)∈Vbt n names []->(x,.cell)∈names
 |[],_,h=>nomatch h
 | (y,k)::r,n,h=>by
  unfold Vbt at h;split at h
  ·rename_i hk
   rw[Xeh]at h;rcases Vbh.mp h with h|h
   ·exact Ua _ (Xlo r (n+1) h)
   ·have e:=Up.mp h
    cases e;rw[eq_of_beq hk];exact Uo
  ·exact Ua _ (Xlo r n h)
theorem Xzg {M:Model} {sc:Uv} {g:Addr} {cl:List (Str×Addr)} {q:Str} {env:Vbd} {R:Vbd->Vc->Prop} (h:R {scope:=sc,locals:=s.heap.objs.size,globals:=g,cells:=Vbt (s.heap.objs.size+1) sc.names cl,qual:=q,func:=none,code:=env.code,frame:=env.frame,builtins:=env.builtins} {s with heap:=pushCells (s.heap.push {cls:=.type "dict",data:=.dict #[]}) sc.names}) :
  Vf M A (newFunctionEnv sc g cl [] q none .none (some env)) R E s:=by
 simp only[newFunctionEnv,Option.isSome_some,if_true];refine Va (wpAny_alloc ?_);refine Va (wpAny_layCells _ (fun name kind cells=>by cases hkc:kind==NameKind.cell<;>simp[hkc]) _ _ _ _ ?_)
 rw[show({s with heap:=s.heap.push {cls:=.type "dict",data:=.dict #[]} }:Vc).heap.objs.size=s.heap.objs.size+1 from Vaa ..]
 exact Va (by rw[Vfd];exact Vd (Vd h))
theorem Xei{k:Bool}{AR:Addr->Xf8}{newA:Sem Vb}{oA:Obj}{uA:Addr->HO}(hA:∀Da,Xgw X.K Da (AR Da))(hna:∀(A:Uu) (E:Vb->Vc->Prop) (s:Vc) (Q:Vb->Vc->Prop),Q (.ref s.heap.objs.size) {s with heap:=s.heap.push oA}->Vf (Vk X.prog X.w) A newA Q E s)(hof:oA.isFreed=false)
  (hno:∀(H:Hp) (h:Heap) (a:Addr),h.get? a=some oA->ObjOk X.prog X.w H h a (uA a)) (h00:∀a ρ (H:Hp),H a=some (uA a)->AR a ρ H [])
  (hc:X.calm=true) (so:ScOk X.env.scope sc X.N own) (hon:own.length=n) (hg:gens=⟨tg,iter,ifs,0⟩::gens.tail) (hi:DI X tg iter fi) (hs:∀x,Vbf iter X.env x=pure x)
  (hG:∀pa s H cl C fp,DG (blk X pa s H sc cl C own fp) tg t) (hT:∀pa s H cl C fp,DTs (blk X pa s H sc cl C own fp) ifs tf) (hB:∀pa s H cl C fp Da,Xbn k (AR Da) (blk X pa s H sc cl C own fp) Da elt gens sc cpos 0 body)
  (I:S0 X pa σ H s ρ S env) (q:fi env S=.ok src S1) (hr:X0 src.get t (Xz tf body) (src.most S1+1) 0 (env++Vh n none) [] S1=.ok accf Sf)
  (hQ:∀s' H' ρ' Da C m,S0 X pa σ H' s' ρ' Sf env->Stp X.K ρ ρ' H H'->Da ∉ ρ'->H Da=none->AR Da ρ' H' accf->s'.heap.Ns C m->(∀x c,X.env.cells.lookup x=some c->c≠C)->C≠X.env.locals->H' C=none->(∀s'' σ'' H'' h',Inv X pa σ'' H'' s''->H'' C=none->Vac C s''.heap h'->Inv X pa σ'' H'' {s'' with heap:=h' }) ->
   compPost (Vk X.prog X.w) X.A E use Q (.ref Da) C (.ok .next) s') :
  Vf (Vk X.prog X.w) X.A (comprehension (cE k elt gens sc cpos) sc X.env (firstIterPos gens cpos) newA false (eval iter X.env) use) Q E s:=by
 have hfree:∀x∈sc.names,x.2=.free->∃c,X.env.cells.lookup x.1=some c:=fun x hx hf=>by
  rcases so.free x hx hf with z|z
  ·exact I.inv.ok.has x.1 (.inl z)
  ·exact I.inv.ok.has x.1 (.inr z)
 obtain⟨cl,hclos,hcl,hclf⟩:=Xgv hfree;refine Vhq (g:=⟨tg,iter,ifs,0⟩) (gs:=gens.tail) ((show clausesOf (cE k elt gens sc cpos)=gens by cases k<;>rfl).trans hg) hs hclos so.kind so.names ?_
 refine Vn (E:=fun _ _=>False) (hi pa s σ H ρ S env (fun _ _=>False) I (by rw[q];exact fun z=>nomatch z) fun x s' z=>?_) (fun v s1 h1=>Vn h1 (fun itv s2 h2=>?_) fun _ _ z=>z.elim) fun _ _ z=>z.elim
 ·rw[q]at z;obtain⟨k,S2,e,z⟩:=z;cases e
 ·obtain⟨src',S2,it,fp,tn,J,H2,ρ2,e1,rfl,I2,T,t0,f2,sr2,srr,st2⟩:=h2
  rw[q]at e1;cases e1;have J2:=I.step I2 srr st2;refine hna _ _ _ _ (Xzg ?_);dsimp only;generalize hH2:s2.heap.push oA=G2;have hC:G2.objs.size=s2.heap.objs.size+1:=by rw[<- hH2,Vaa]
  have below:∀b,b<s2.heap.objs.size->b≠G2.objs.size:=fun b hb=>by rw[hC];exact V8 (Va0 hb)
  have cok:=cellsFrom_ok sc.names (G2.push {cls:=.type "dict",data:=.dict #[]}) (G2.objs.size+1) [] ⟨fun _ _ hm=>(nomatch hm),Vd5⟩ (by rw[Vaa];exact Vl _)
  rw[Vaa]at cok;obtain⟨m1,hns₁⟩:∃m1,(pushCells (G2.push {cls:=.type "dict",data:=.dict #[]}) sc.names).Ns G2.objs.size m1:=by
   obtain⟨o,es,ep,ho,Yt⟩:=(Heap.Ns.new ..:(G2.push {cls:=.type "dict",data:=.dict #[]}).Ns G2.objs.size _);exact⟨_,o,es,ep,pushCells_keeps _ _ _ _ ho,Yt⟩
  have ok0:∀b o,G2.get? b=some o->(pushCells (G2.push {cls:=.type "dict",data:=.dict #[]}) sc.names).get? b=some o:=fun b o e=>pushCells_keeps _ _ b o (Ve _ e)
  generalize pushCells (G2.push {cls:=.type "dict",data:=.dict #[]}) sc.names=h₁ at cok hns₁ ok0 ⊢;have old:∀b o,s2.heap.get? b=some o->h₁.get? b=some o:=fun b o e=>ok0 b o (hH2▸Ve _ e)
  have hacc:h₁.get? s2.heap.objs.size=some oA:=ok0 _ _ (hH2▸Vm _ hof);have ofnew:∀x c,(x,c)∈Vbt (G2.objs.size+1) sc.names []->x∈own/\G2.objs.size<c/\h₁.IsCell c none:=fun x c hm=>⟨so.cel _ (Xlo _ _ hm) rfl,(cok.empty x c hm).2,(cok.empty x c hm).1⟩
  have two:∀x c,(Vbt (G2.objs.size+1) sc.names cl).lookup x=some c->(x,c)∈Vbt (G2.objs.size+1) sc.names []\/(x ∉ own/\X.env.cells.lookup x=some c):=fun x c h=>by
   rw[Xeh,List.lookup_append,Option.or_eq_some_iff]at h;rcases h with h|⟨_,h⟩
   ·exact .inl (Xm6 h)
   ·exact .inr ⟨so.apart _ (hcl x c h).2 rfl,(hcl x c h).1⟩
  have hclN:∀x c,(Vbt (G2.objs.size+1) sc.names cl).lookup x=some c->(x ∉ own/\X.env.cells.lookup x=some c)\/(x∈own/\G2.objs.size<c/\h₁.IsCell c none):=fun x c h=>(two x c h).elim (fun z=>.inr (ofnew x c z)) .inl
  have old_lt:∀x c,X.env.cells.lookup x=some c->c<G2.objs.size:=fun x c e=>by obtain⟨v,z⟩:=I2.cell x c e;rw[hC];exact Va0 z.lt
  have hinj:∀x y c,(Vbt (G2.objs.size+1) sc.names cl).lookup x=some c->(Vbt (G2.objs.size+1) sc.names cl).lookup y=some c->x=y:=fun x y c h1 h2=>by
   rcases two x c h1 with a|⟨_,a⟩<;>rcases two y c h2 with b|⟨_,b⟩
   ·exact name_of_addr cok.apart a b
   ·exact aB0 (old_lt y c b) (Nat.lt_asymm (ofnew x c a).2.1)
   ·exact aB0 (old_lt x c a) (Nat.lt_asymm (ofnew y c b).2.1)
   ·exact I2.ok.inj x y c a b
  have hclfN:∀x,sc.names.lookup x=some .cell\/sc.names.lookup x=some .free->∃c,(Vbt (G2.objs.size+1) sc.names cl).lookup x=some c:=fun x h=>Vbw.mp (Vfp sc.names _ cl (h.imp id fun z=>by
   obtain⟨c,hc⟩:=hclf (x,.free) (Xb1 z) rfl;exact Vbw.mpr ⟨c,hc⟩))
  generalize Vbt (G2.objs.size+1) sc.names cl=cl1 at hclN hinj hclfN two ⊢;have hfp:∀b∈fp,b<s2.heap.objs.size:=fun b hb=>by obtain⟨o,e,_⟩:=T.obj _ _ t0 b hb;exact Vu e
  have hD0:H2 s2.heap.objs.size=none:=I2.hok.fresh (Vl _);have hDn:s2.heap.objs.size ∉ ρ2:=fun hm=>by obtain⟨w,hw,_⟩:=srr.mem hm;rw[hD0]at hw;cases hw
  generalize hs4:({s2 with heap:=h₁}:Vc)=s4
  have IY:Inv (blk X pa s2 H2 sc cl1 G2.objs.size own fp) [] (σ++Vh own.length none) (upd H2 s2.heap.objs.size (uA s2.heap.objs.size)) s4:=by
   subst hs4;exact X3k so I2 f2 hclN hinj hclfN rfl hC rfl rfl old hns₁ (hno _ _ _ hacc) hfp
  have stD:Stp X.K ρ2 ρ2 H2 (upd H2 s2.heap.objs.size (uA s2.heap.objs.size)):=Stp.upd hD0;have SY:S0 (blk X pa s2 H2 sc cl1 G2.objs.size own fp) [] (σ++Vh own.length none) (upd H2 s2.heap.objs.size (uA s2.heap.objs.size)) s4 ρ2 S1 (env++Vh n none):=by
   refine⟨IY,srr.upd hD0,⟨by simp[J2.er.len,hon],fun i d e=>?_⟩⟩
   have hi:i<env.length:=by
    by_cases hi:i<env.length
    ·exact hi
    ·rw[U5 (by omega),Vcv]at e
     split at e<;>cases e
   rw[Vt hi]at e;obtain⟨v,h1,h2⟩:=J2.er.val i d e;exact⟨v,by rw[Vt (by rw[<- J2.er.len];exact hi)];exact h1,h2.mono stD⟩
  have t4:tn 0 s4.heap:=by
   subst hs4;exact T.keep 0 _ _ t0 fun b hb o e=>old b o e
  have fY:∀b∈fp,Xat (blk X pa s2 H2 sc cl1 G2.objs.size own fp) [] (upd H2 s2.heap.objs.size (uA s2.heap.objs.size)) b:=fun b hb=>by
   obtain⟨a1,a2,a3,a4,a5,a6⟩:=f2 b hb;refine⟨by rw[Xh (V8 (hfp b hb))];exact a1,below b (hfp b hb),fun hm=>?_,.inl hb,fun x c h=>(hclN x c h).elim (fun z=>a5 x c z.2) (fun z=>Vca (Vea (by rw[hC];exact Va0 (hfp b hb)) z.2.1)),fun p hp=>?_⟩
   ·rcases Vv.mp (I2.stkSub b hm) with z|z
    ·exact a2 z
    ·exact a3 z
   ·rw[Vz]at hp;exact a6 p hp
  refine Vd9 (Xsj (hA s2.heap.objs.size) (Y:=blk X pa s2 H2 sc cl1 G2.objs.size own fp) (H0:=H2) (ρ0:=ρ2) (P:=compPost (Vk X.prog X.w) X.A E use Q (.ref s2.heap.objs.size) G2.objs.size (.ok .next)) hc (by rw[hg];rfl) T (hG _ _ _ _ _ _) (hT _ _ _ _ _ _) (hB _ _ _ _ _ _ _) hD0 SY t4 fY (sr2.mono stD) hDn (h00 _ _ _ X6) stD hr
   fun s' σ' H' ρ' env' I' _ hn' ha' st' _=>?_) fun r s' h=>?_
  ·have JX:=Xzf I2 f2 I'.inv
   have hCn:H' G2.objs.size=none:=I'.inv.free;have hCle:s2.heap.objs.size<=G2.objs.size:=by rw[hC];exact Vdi _
   obtain⟨m',hm',_⟩:=I'.inv.loc;have fo:=I2.fpOk (H':=H') hCle hCn;have hDX:H s2.heap.objs.size=none:=by
    cases e:H s2.heap.objs.size with
    |none=>rfl
    |some o =>
     by_cases hm:s2.heap.objs.size∈ρ
     ·obtain⟨k,hk,ek⟩:=Vbm.mp hm
      exact aB0 (Ur (st2.pre k _ (by simp[hk,ek]))) hDn
     ·rw[st2.keep _ o e hm]at hD0;cases hD0
   refine hQ s' H' ρ' s2.heap.objs.size G2.objs.size m' ⟨JX,I'.sr,I.er.mono (st2.trans st')⟩ (st2.trans st') hn' hDX ha' hm' fo.2.2.2.2.1 (fun z=>fo.2.1 z) hCn fun s'' σ'' H'' h' J'' hn'' hs''=>?_
   have q'':Xat X pa H'' G2.objs.size:=⟨hn'',fo.2⟩;exact J''.turned (t':=s''.toks) (fun b o hb e=>(hs''.2 b hb).trans e) hn'' q''.2.1 q''.2.2.2.1 q''.2.2.2.2.1 q''.2.2.2.2.2
  ·cases r with
   |ok f=>cases use<;>exact h
   |error e=>exact h.elim
end
theorem Xb2{get:Sto->Nat->Option (Option D)}{body:En->List D->Sto->R (List D)}:∀(k i:Nat) (env:En) (acc:List D) (S:Sto) (n:Nat) (S':Sto),X0 get t body k i env acc S≠.ex n S'
 |0,i,env,acc,S,n,S'=>fun z=>nomatch z
 |k+1,i,env,acc,S,n,S'=>by
  simp only[X0];cases get S i with
  |none=>exact fun z=>nomatch z
  |some o =>
   cases o with
   |none=>exact fun z=>nomatch z
   |some d =>
    dsimp only;cases Xr t d env with
    |none=>exact fun z=>nomatch z
    |some env' =>
     dsimp only;cases body env' acc S with
     |ok a S1=>exact Xb2 k (i+1) env' a S1 n S'
     |ex _ _=>exact fun z=>nomatch z
     |bad=>exact fun z=>nomatch z
section
variable{X:Cx}{pa:List (Addr×Obj)}{σ:L2.St}{H:Hp}{s:Vc}{ρ:List Addr}{S S':Sto}{env:En}{Q:Vb->Vc->Prop}{E:Vb->Vc->Prop}
theorem SR.adopt{K:Vg}{Da:Addr}{vs:List V}{xs:List D}(r:SR K ρ S H)(hn:Da ∉ ρ)(hD:H Da=some (.lst vs))(rd:RDs K ρ H xs vs):SR K (ρ++[Da]) (S++[.lst xs]) H:=by
 have mo:Mon K ρ (ρ++[Da]) H H:=⟨fun n a h=>by rw[Vt (Vi.mp h).1];exact h,fun _ _ h=>h,fun _ _ _ h=>h⟩
 refine⟨by simp[r.len],?_,fun n a ob h1 h2=>?_⟩
 ·rw[Vfl]
  refine⟨r.nd,by simp,fun x hx y hy=>?_⟩
  rw[Up.mp hy];exact fun z=>hn (z▸hx)
 ·by_cases hk:n < ρ.length
  ·rw[Vt hk]at h1
   rw[Vt (by rw[<- r.len];exact hk)]at h2
   exact(r.ob n a ob h1 h2).mono' mo rfl
  ·have e:n=ρ.length:=by
    have:=(Vi.mp h1).1;simp at this;omega
   subst e;simp at h1;rw[r.len]at h2;simp at h2;subst h1 h2;exact⟨vs,hD,RDs.mono' mo _ _ rd⟩
theorem Stp.adopt{K:Vg}{Da:Addr}{ρ':List Addr}{H':Hp}(st:Stp K ρ ρ' H H')(h0:H Da=none):Stp K ρ (ρ'++[Da]) H H' where
 pre:=fun n a h=>by have z:=st.pre n a h;rw[Vt (Vi.mp z).1];exact z
 tup:=st.tup
 frz:=st.frz
 new:=fun a h=>by
  rcases Vbh.mp h with h|h
  ·exact st.new a h
  ·rw[Up.mp h];exact .inr h0
 keep:=st.keep
variable{elt:Expr}{gens:List Va3}{sc:Uv}{cpos:Pos}{tg iter:Expr}{ifs:List Expr}{own:List Str}{t:Tg}{n:Nat}{fi:En->Sto->R Src}{tf:En->Sto->R Bool}{body:En->List D->Sto->R (List D)}
noncomputable def Xej(fi:En->Sto->R Src)(t:Tg)(n:Nat)(tf:En->Sto->R Bool)(body:En->List D->Sto->R (List D))(env:En)(S:Sto):R D :=
 (fi env S).bind fun src S=>(X0 src.get t (Xz tf body) (src.most S+1) 0 (env++Vh n none) [] S).bind fun acc S=>.ok (.ref S.length) (S++[.lst acc])
theorem Xhy{k:Bool}{newA:Sem Vb}{use:Option (Vb->Sem Unit)}{m:Nat}(so:ScOk X.env.scope sc X.N own)(hg:gens=⟨tg,iter,ifs,0⟩::gens.tail)(hi:DI X tg iter fi)(hs:∀x,Vbf iter X.env x=pure x)
  (I:S0 X pa σ H s ρ S env) (q:fi env S=.ex m S1) (hE:∀x s',XPd X pa σ ρ H m S1 x s'->E x s') :
  Vf (Vk X.prog X.w) X.A (comprehension (cE k elt gens sc cpos) sc X.env (firstIterPos gens cpos) newA false (eval iter X.env) use) Q E s:=by
 have hfree:∀x∈sc.names,x.2=.free->∃c,X.env.cells.lookup x.1=some c:=fun x hx hf=>by
  rcases so.free x hx hf with z|z
  ·exact I.inv.ok.has x.1 (.inl z)
  ·exact I.inv.ok.has x.1 (.inr z)
 obtain⟨cl,hclos,hcl,hclf⟩:=Xgv hfree;refine Vhq (g:=⟨tg,iter,ifs,0⟩) (gs:=gens.tail) ((show clausesOf (cE k elt gens sc cpos)=gens by cases k<;>rfl).trans hg) hs hclos so.kind so.names ?_
 refine Vn (hi pa s σ H ρ S env E I (by rw[q];exact fun z=>nomatch z) fun x s' z=>?_) (fun v s1 h1=>Vn h1 (fun itv s2 h2=>?_) fun _ _ z=>z) fun _ _ z=>z
 ·rw[q]at z;obtain⟨k,S2,e,z⟩:=z;cases e;exact hE x s' z
 ·obtain⟨src',S2,_,_,_,_,_,_,e1,_⟩:=h2
  rw[q]at e1;cases e1
theorem Xop (A:Uu) (E:Vb->Vc->Prop) (s:Vc) (Q:Vb->Vc->Prop) (h:Q (.ref s.heap.objs.size) {s with heap:=s.heap.push {cls:=.type "list",dict:=none,data:=.seq ([]:List Vb).toArray} }):Vf (Vk X.prog X.w) A (newList []) Q E s:=Uj h
theorem Xsk (H:Hp) (h:Heap) (a:Addr) (e:h.get? a=some {cls:=.type "list",dict:=none,data:=.seq ([]:List Vb).toArray}):ObjOk X.prog X.w H h a (.lst []):=⟨Ul _,[],0,.nil,e⟩
theorem X3l(hc:X.calm=true)(so:ScOk X.env.scope sc X.N own)(hon:own.length=n)(hg:gens=⟨tg,iter,ifs,0⟩::gens.tail)(hi:DI X tg iter fi)(hs:∀x,Vbf iter X.env x=pure x)
  (hG:∀pa s H cl C fp,DG (blk X pa s H sc cl C own fp) tg t) (hT:∀pa s H cl C fp,DTs (blk X pa s H sc cl C own fp) ifs tf) (hB:∀pa s H cl C fp Da,Xbn false (LstA X.K Da) (blk X pa s H sc cl C own fp) Da elt gens sc cpos 0 body) :
  DE X (.ListComp elt gens sc cpos) (Xej fi t n tf body):=by
 intro pa s σ H ρ S env I nb;have hfi:firstIter gens X.env=eval iter X.env:=by rw[hg];rfl
 have hfa:firstAsync gens=false:=by rw[hg];rfl
 rw[eval_ListComp,hfi,hfa];unfold Xej at nb ⊢;cases q:fi env S with
 |bad=>rw[q]at nb;exact aB0 rfl nb
 |ex m S1=>exact Xhy (k:=false) so hg hi hs I q fun x s' z=>⟨m,S1,rfl,z⟩
 |ok src S1 =>
  rw[q]at nb;simp only[Rk0]at nb ⊢;cases q2:X0 src.get t (Xz tf body) (src.most S1+1) 0 (env++Vh n none) [] S1 with
  |bad=>rw[q2]at nb;exact aB0 rfl nb
  |ex m S2=>exact aB0 q2 (Xb2 _ _ _ _ _ _ _)
  |ok accf Sf =>
   refine Xei (k:=false) (AR:=fun Da=>LstA X.K Da) (uA:=fun _=>.lst []) (fun Da=>LstA.ok) Xop rfl Xsk (fun a ρ H z=>⟨[],z,.nil⟩) hc so hon hg hi hs hG hT hB I q q2 fun s' H' ρ' Da C m I' st' hn' h0 ⟨vs,hD',ra'⟩ hns hcells hCl hCn back=>?_
   refine⟨m,hns,fun h' hs'=>?_⟩
   refine .mk (v:=.ref Da) (st'.adopt h0) (back s' σ H' h' I'.inv hCn hs') rfl ?_ (I'.sr.adopt hn' hD' ra');simp only[RD];exact⟨Da,rfl,by rw[<- I'.sr.len];simp⟩
theorem Xzh{i:Nat}(hN:X.N.Nodup)(hi':X.N[i]?=some x)(hx:X.env.scope.names.lookup x=some .local)(hsw:Ve8 (.ListComp elt gens sc cpos) (some (.Name x py)) spos.line X.env=pure true)
  (hc:X.calm=true) (so:ScOk X.env.scope sc X.N own) (hon:own.length=n) (hg:gens=⟨tg,iter,ifs,0⟩::gens.tail) (hi:DI X tg iter fi) (hs:∀x,Vbf iter X.env x=pure x)
  (hG:∀pa s H cl C fp,DG (blk X pa s H sc cl C own fp) tg t) (hT:∀pa s H cl C fp,DTs (blk X pa s H sc cl C own fp) ifs tf) (hB:∀pa s H cl C fp Da,Xbn false (LstA X.K Da) (blk X pa s H sc cl C own fp) Da elt gens sc cpos 0 body) :
  DS X (.Assign [.Name x py] (.ListComp elt gens sc cpos) spos) false (fun env S=>(Xej fi t n tf body env S).bind fun d S=>match Xr (.var i) d env with|some env=>.ok (.nx env) S|none=>.bad):=by
 intro pa s σ H ρ S env I nb;dsimp only at nb ⊢;have hfi:firstIter gens X.env=eval iter X.env:=by rw[hg];rfl
 have hfa:firstAsync gens=false:=by rw[hg];rfl
 rw[exec_Assign_Name_used _ _ _ _ hsw];refine Va (Vdu (Va ?_));show Vf _ X.A (do let _ <- comprehension (.ListComp elt gens sc cpos) sc X.env (firstIterPos gens cpos) (newList []) (firstAsync gens) (firstIter gens X.env) (some (assign (.Name x py) X.env))) _ _ s
 rw[hfi,hfa];refine Va (Vn (Q:=fun _ s'=>OkS X pa σ ρ H false ((Xej fi t n tf body env S).bind fun d S=>match Xr (.var i) d env with|some env=>.ok (.nx env) S|none=>.bad) .next s') ?_ (fun _ s' hq=>Vd (Vd hq)) fun _ _ z=>z)
 unfold Xej at nb ⊢;cases q:fi env S with
 |bad=>rw[q]at nb;exact aB0 rfl nb
 |ex m S1=>exact Xhy (k:=false) so hg hi hs I q fun x s' z=>.of .refl z rfl
 |ok src S1 =>
  rw[q]at nb;simp only[Rk0]at nb ⊢;cases q2:X0 src.get t (Xz tf body) (src.most S1+1) 0 (env++Vh n none) [] S1 with
  |bad=>rw[q2]at nb;exact aB0 rfl nb
  |ex m S2=>exact aB0 q2 (Xb2 _ _ _ _ _ _ _)
  |ok accf Sf =>
   refine Xei (k:=false) (AR:=fun Da=>LstA X.K Da) (uA:=fun _=>.lst []) (use:=some (assign (.Name x py) X.env)) (fun Da=>LstA.ok) Xop rfl Xsk (fun a ρ H z=>⟨[],z,.nil⟩) hc so hon hg hi hs hG hT hB I q q2 fun s' H' ρ' Da C m I' st' hn' h0 ⟨vs,hD',ra'⟩ hns hcells hCl hCn back=>?_
   show Vf _ X.A (assign (.Name x py) X.env (.ref Da)) _ _ s';refine Vhe (Xjj I'.inv hN hi' (.inl hx) (show RelV (.ref Da) (.ref Da) from rfl) (fun s2 I2 hsb=>?_) (.inr hx))
   obtain⟨ad,hsb,had⟩:=hsb;have hne:ad≠C:=by
    rcases had with z|z
    ·rw[z];exact Ne.symm hCl
    ·exact hcells x ad z
   refine⟨m,hns.sameBut hsb (Ne.symm hne),fun h' hs'=>?_⟩
   have J:=back s2 _ H' h' I2 hCn hs';refine⟨.nx (env.set i (some (.ref Sf.length))),Sf++[.lst accf],rfl,rfl,_,H',ρ'++[Da],⟨J,I'.sr.adopt hn' hD' ra',?_⟩,st'.adopt h0,fun z=>nomatch z⟩
   have mo:Mon X.K ρ' (ρ'++[Da]) H' H':=⟨fun n a h=>by rw[Vt (Vi.mp h).1];exact h,fun _ _ h=>h,fun _ _ _ h=>h⟩
   refine(I'.er.mono' mo).set i ?_;simp only[RD];exact⟨Da,rfl,by rw[<- I'.sr.len];simp⟩
end
end Z
end
section
namespace Z
open PySem PyProof.Rows
theorem Xlp:∀(l acc:List Int),acc.length<=(l.foldl ddS acc).length
 |[],acc=>Vl _
 |x::l,acc=>by
  refine U4 ?_ (Xlp l (ddS acc x));unfold ddS;split
  ·exact Vl _
  ·simp
theorem Xzi(ns:List Int)(i:Nat)(hi:i<ns.length):ddI (ns.take (i+1))=ddS (ddI (ns.take i)) (ns.getD i 0):=by
 unfold ddI;rw[Vgz,Vq hi,Vd6];simp[Vb0,hi]
theorem X7i(ns:List Int)(i:Nat):(ddI (ns.take i)).length<=(ddI ns).length:=by
 have:ns=ns.take i++ns.drop i:=(Vc5 i ns).symm;unfold ddI
 conv=>rhs;rw[this,Vd6]
 exact Xlp _ _
section
variable{prog:V1}{w:V9}{A:Uu}{R:Result->Vc->Prop}{I:Addr}{fp wr:List Addr}{G:Array GenState->Array GenState->Prop}{n:Nat}{P:Nat->Vb->Prop}{St:Nat->Vc->Prop}{ld:Bool}
theorem Xu8(W:WalksS prog w A.in1 I fp wr G n P St)(Sa:Addr)(hf:Sa ∉ fp)(ns:List Int)(hn:ns.length=n)(hP:∀i v,P i v->∃t,v=.int (ns.getD i 0) t)(hb:(ddI ns).length<60) :
  ∀(k i:Nat) (s:Vc) (ks:List Int),n-i=k->i<=n->St i s->SetI prog w s.heap Sa ld ks->ks.Perm (ddI (ns.take i)) ->
   (∀s' ks',Moved (Sa::wr) G s s'->SetI prog w s'.heap Sa ld ks'->ks'.Perm (ddI ns)->R (.ok (.ret .none)) s')->Vcy (Vk prog w) A (.builtin "set.update.loop" ⟨[.ref Sa,.ref I],[]⟩) R s:=by
 have hw:Sa ∉ wr:=fun h=>hf (W.sub _ h)
 have sub:∀b∈wr,b∈Sa::wr:=fun b hb=>Ua _ hb
 intro k
 induction k with
 |zero =>
  intro i s ks hk hi st S p hR;obtain rfl:i=n:=by omega
  refine Va4 F.entry_set_update_loop ?_;rw[Vbn Vfh _];show Vf _ A.in1 (Vdd (.ref I) >>= _) _ _ s;refine Va (W.done s _ _ st fun s' m=>?_)
  show Vf _ A.in1 (ret U1) _ _ s';refine Vd (hR s' ks (m.mono sub) (S.keep fun o e=>m.heap Sa o hw e) ?_)
  rwa [<- hn,Vc1]at p
 |succ k ih =>
  intro i s ks hk hi st S p hR;have lt:i<n:=by omega
  refine Va4 F.entry_set_update_loop ?_;rw[Vbn Vfh _];show Vf _ A.in1 (Vdd (.ref I) >>= _) _ _ s;refine Va (W.item i s _ _ lt st fun v s' hv st' m=>?_)
  obtain⟨t,rfl⟩:=hP i v hv;show Vf _ A.in1 (Veu [Vf6 (ns.getD i 0) t] (setAdd Sa (.int (ns.getD i 0) t)) >>= _) _ _ s';have le:=X7i ns i;refine Va (Uz (Xof (S.keep fun o e=>m.heap Sa o hw e) (by rw[p.length_eq];omega) fun h' ks' sb S' q=>?_))
  refine Vd ⟨Vep Vfh _,ih (i+1) _ ks' (by omega) lt (W.frame _ s' _ _ st' (Vdi _) fun b hb o e=>?_) S' ?_ fun s'' ks'' m'' S'' p''=>?_⟩
  ·rw[sb.2 b (fun z:b=Sa=>hf (z▸hb))];exact e
  ·rw[Xzi ns i (by omega)]
   unfold ddS;rcases q with⟨q1,rfl⟩|⟨q1,q2⟩
   ·rw[iP0 (p.mem_iff.mp q1)];exact p
   ·rw[iN0 (fun z=>q1 (p.mem_iff.mpr z))]
    exact q2.trans (p.append_right _)
  ·refine hR s'' ks'' (Moved.trans W.gtrans ((m.mono sub).then_heap (Vdi _) fun b o hb e=>?_) m'') S'' p''
   rw[sb.2 b (fun z:b=Sa=>hb (z▸Uo))];exact e
end
section
variable{prog:V1}{w:V9}{A:Uu}{E:Vb->Vc->Prop}{s:Vc}
theorem Xzj(a:Vb){Q₁:Vb->Vc->Prop}
  (h:Q₁ (.ref s.heap.objs.size) {s with heap:=s.heap.push {cls:=.type "set",dict:=none,data:=.set #[] 0 (.fresh 0 0 (!byT w))} }) :
  Vcy (Vk prog w) A (.call (.builtin "set.__new__") ⟨[.type "set",a],[]⟩) (wants Q₁ E) s:=by
 refine Vgh ?_;show Vf _ A.in1 (do Vf3 "set.__new__" ⟨[.type "set",a],[]⟩;again (.builtin "set.__new__" ⟨[.type "set",a],[]⟩)) _ _ s
 refine Va (Vet (F.newCall_set_1 a) (Vd ⟨Vep F.plain_set_new _,Va4 F.entry_set_new ?_⟩));rw[Vbn F.plain_set_new _];unfold Va2.«set.__new__» Builtin.Frozenset.newClass;have hsub:=sub_set_self;obtain⟨hp,g,d,tk,os⟩:=s;dsimp only
 wp_walk
 refine Vcz (Vd ?_);dsimp only;simp only[newObj];exact Va (wpAny_alloc (Vd (Vd h)))
theorem Xlq {h:Heap} {ld:Bool} {a:Addr} (e:h.get? a=some {cls:=.type "set",dict:=none,data:=.set #[] 0 (.fresh 0 0 ld)}):SetI prog w h a ld [] :=
 ⟨_,#[],0,.fresh 0 0 ld,e,⟨rfl,rfl,rfl⟩,rfl,fun x hx=>by simp at hx,rfl,⟨⟨Vd5,rfl⟩,rfl,rfl,.inl ⟨rfl,Ul _⟩⟩,rfl⟩
set_option maxHeartbeats 3200000 in
theorem Xsl{l:Addr}{items:Array Vb}{ns:List Int}{Q:Vb->Vc->Prop}(hh:A.handled=none)(hl:s.heap.IsList l items)(hi:Vdj items.toList ns)(hb:(ddI ns).length<60)
  (h:∀(h':Heap) (tk:Nat) (ks:List Int),SetI prog w h' s.heap.objs.size (!byT w) ks->ks.Perm (ddI ns)->(∀b o,s.heap.get? b=some o->h'.get? b=some o)->Q (.ref s.heap.objs.size) {s with heap:=h',toks:=tk}) :
  Vf (Vk prog w) A (call (.type "set") [.ref l]) Q E s:=by
 obtain⟨c,tl,hmro⟩:=F.called_set.mro;have hmade:=F.called_set.made;have hsub:=F.called_set.sub;refine wpAny_call (Vgh ?_);show Vf _ _ (callAny (.type "set") _) _ _ _;refine Vd ⟨Vg5 _ (by decide+kernel),Va4 F.entry_type_call ?_⟩
 rw[Around.under_plain (weight_type_call_type "set" [.ref l] []) rfl];have h1:=F.called_set.notType;have h2:=F.called_set.canCreate;have hct:=F.typeCall_set_1 (.ref l)
 repeat (any_goals (first|assumption|wp_step))
 refine Vd9 (Xzj (.ref l) (E:=E) (Q₁:=fun obj s₁=>obj=.ref s.heap.objs.size/\s₁={s with heap:=s.heap.push {cls:=.type "set",dict:=none,data:=.set #[] 0 (.fresh 0 0 (!byT w))} }) ⟨rfl,rfl⟩) fun r s₁ hr=>?_
 cases r with
 |error e=>exact hr
 |ok fl =>
  cases fl with
  |ret obj =>
   obtain⟨rfl,rfl⟩:=hr;have hS:(s.heap.push {cls:=.type "set",dict:=none,data:=.set #[] 0 (.fresh 0 0 (!byT w))}).get? s.heap.objs.size=some {cls:=.type "set",dict:=none,data:=.set #[] 0 (.fresh 0 0 (!byT w))}:=Vm _ rfl;have hT:Shared.TypeIs {s with heap:=s.heap.push {cls:=.type "set",dict:=none,data:=.set #[] 0 (.fresh 0 0 (!byT w))} } (.ref s.heap.objs.size) "set" := ⟨_,hS,rfl⟩
   have hli:=F.called_set.init.lookup;have hbi:=F.called_set.init.bind (.ref s.heap.objs.size)
   repeat (any_goals (first|assumption|wp_step))
   refine Vd9 (Vgi (R:=wants (fun r s₂=>r=.none/\∃h' tk ks,s₂={s with heap:=h',toks:=tk}/\SetI prog w h' s.heap.objs.size (!byT w) ks/\ks.Perm (ddI ns)/\(∀b o,s.heap.get? b=some o->h'.get? b=some o)) E) F.called_set.init.plain F.entry_set_init (check_set_init_1 hT ?_)) fun r₂ s₂ hr₂=>?_
   ·obtain⟨⟨ocls,odict,odata,oslots⟩,hol,hcl,nl,hdl⟩:=hl
    simp only at hcl hdl;subst hcl;subst hdl;have hol':(s.heap.push {cls:=.type "set",dict:=none,data:=.set #[] 0 (.fresh 0 0 (!byT w))}).get? l=some {cls:=.type "list",dict:=odict,data:=.seq items nl,slots:=oslots}:=Ve _ hol;have hsls:=F.sub_list_set;have hslf:=F.sub_list_frozenset;have hne:(Vci "list" == Vci "dict")=false:=by decide
    have hl1:(s.heap.push {cls:=.type "set",dict:=none,data:=.set #[] 0 (.fresh 0 0 (!byT w))}).IsList l items:=⟨_,hol',rfl,nl,rfl⟩;unfold Va2.«set.__init__» noKeywords Builtin.Frozenset.updateFrom;generalize hPI:Vdw=PI
    wp_walk
    subst hPI;refine Vfm hl1 (Va (Vgt ?_));have lS:l<s.heap.objs.size:=Vu hol;have neI:l≠(s.heap.push {cls:=.type "set",dict:=none,data:=.set #[] 0 (.fresh 0 0 (!byT w))}).objs.size:=by
     rw[Vaa];exact V8 (Va0 lS)
    have hSf:s.heap.objs.size ∉ [(s.heap.push {cls:=.type "set",dict:=none,data:=.set #[] 0 (.fresh 0 0 (!byT w))}).objs.size,l]:=by
     rw[Vaa];simp only[Vv,Vap,or_false,not_or];exact⟨V8 (Ven _),Vca lS⟩
    have hg:((s.heap.push {cls:=.type "set",dict:=none,data:=.set #[] 0 (.fresh 0 0 (!byT w))}).push {cls:=.type "list_iterator",data:=.fields #[.ref l,.int 0 0]}).get? s.heap.objs.size=some {cls:=.type "set",dict:=none,data:=.set #[] 0 (.fresh 0 0 (!byT w))}:=Ve _ hS;refine Xu8 ((Walks.list (by simpa using hh) _ l neI items).toS) s.heap.objs.size hSf ns (by rw[<- hi.length];simp) (fun i v hv=>IntsAre.int_at hi i v (by rw[Vaw];exact hv)) hb (items.size-0) 0 _ [] rfl (Ul _)
     ⟨⟨_,Vm _ rfl,rfl,rfl⟩,hl1.push _⟩ (Xlq hg) (Vdl _) fun s' ks m S' p=>?_
    obtain⟨h',g',d',tk',os'⟩:=s';have eg:g'=s.gens:=m.gens;have ed:d'=s.drawn:=m.drawn;have eo:os'=s.os:=m.os;subst eg;subst ed;subst eo;show Vf _ _ _ _ _ _;refine Vd ?_;show Vf _ _ (ret U1) _ _ _;refine Vd ⟨rfl,h',tk',ks,rfl,S',p,fun b o e=>?_⟩
    have lb:=Vu e;exact m.heap b o (by
     rw[Vaa];simp only[Vv,Vap,or_false,not_or];exact⟨V8 lb,V8 (Va0 lb)⟩) (Ve _ (Ve _ e))
   ·cases r₂ with
    |error e=>exact hr₂
    |ok fl₂ =>
     cases fl₂ with
     |ret r =>
      obtain⟨rfl,h',tk,ks,rfl,S',p,k'⟩:=hr₂
      repeat (any_goals (first|assumption|wp_step))
      exact h _ _ ks S' p k'
     |_=>exact hr₂.elim
  |_=>exact hr.elim
end
end Z
end
section
namespace Z
open PySem PySem.Spec PyProof.Rows L2
section
variable{X:Cx}{pa:List (Addr×Obj)}{σ:L2.St}{H:Hp}{s:Vc}{ρ:List Addr}{S S':Sto}{env:En}{Q:Vb->Vc->Prop}{E:Vb->Vc->Prop}
def BlR(X:Cx)(k:Bl)(f:Vb):Prop :=
 ∀(pa:List (Addr×Obj)) (s:Vc) (σ:L2.St) (H:Hp) (ρ:List Addr) (S:Sto) (env:En) (ds:List D) (vs:List V) (us:List Vb) (E:Vb->Vc->Prop),S0 X pa σ H s ρ S env->RDs X.K ρ H ds vs->Vals vs us->Xm k ds S≠.bad ->
  Vf (Vk X.prog X.w) X.A (call f us) (OkP X pa σ ρ H (Xm k ds S)) E s
theorem RDs.one{K:Vg}{d:D}{vs:List V}(h:RDs K ρ H [d] vs):∃v,vs=[v]/\RD K ρ H d v:=by
 simp only[RDs]at h;obtain⟨v,r,rfl,h1,rfl⟩:=h;exact⟨v,rfl,h1⟩
theorem RDs.two{K:Vg}{d e:D}{vs:List V}(h:RDs K ρ H [d,e] vs):∃v u,vs=[v,u]/\RD K ρ H d v/\RD K ρ H e u:=by
 simp only[RDs]at h;obtain⟨v,r,rfl,h1,u,r',rfl,h2,rfl⟩:=h;exact⟨v,u,rfl,h1,h2⟩
theorem X7j:BlR X .len (.builtin "len"):=by
 intro pa s σ H ρ S env ds vs us E I rd rv nb
 match ds,rd,nb with
 |[],_,nb=>exact aB0 rfl nb
 |_::_::_,_,nb=>exact aB0 rfl nb
 |[d],rd,nb =>
  obtain⟨v,rfl,r1⟩:=rd.one;have go:∀xs,Xx S d=some xs->Vf (Vk X.prog X.w) X.A (call (.builtin "len") us) (OkP X pa σ ρ H (.ok (.int xs.length) S)) E s:=fun xs h=>by
   obtain⟨a,ws,rfl,hq,hr⟩:=I.seq h r1;refine Xdx (Q':=fun z H'=>z=.int ws.length/\H'=H) Xk0 I.inv rv ⟨a,ws,rfl,hq,rfl,rfl⟩ fun w s' z H' J rz ⟨e1,e2⟩=>?_
   subst e1 e2;obtain⟨t,rfl⟩:=rz;rw[<- hr.length];exact Y5 I.sr J
  cases d with
  |str z =>
   simp only[Xm]at nb ⊢;split at nb
   ·rename_i hz
    rw[iP0 hz];simp only[RD]at r1;subst r1;refine Xdx (Q':=fun y H'=>y=.int z.length/\H'=H) Xk1 I.inv rv ⟨z,rfl,Yq hz,rfl,rfl⟩ fun w s' y H' J rz ⟨e1,e2⟩=>?_
    subst e1 e2;obtain⟨t,rfl⟩:=rz;exact Y5 I.sr J
   ·exact aB0 rfl nb
  |tup xs=>exact go xs rfl
  |fro xs=>exact go xs rfl
  |ref n =>
   simp only[Xm,Xx]at nb ⊢;cases e:Xc S n with
   |none=>rw[e]at nb;exact aB0 rfl nb
   |some xs=>exact go xs e
  |non=>exact aB0 rfl nb
  |bl _=>exact aB0 rfl nb
  |int _=>exact aB0 rfl nb
  |fn _ _=>exact aB0 rfl nb
theorem Xzk:BlR X .tuple (.type "tuple"):=by
 intro pa s σ H ρ S env ds vs us E I rd rv nb
 match ds,rd,nb with
 |[],_,nb=>exact aB0 rfl nb
 |_::_::_,_,nb=>exact aB0 rfl nb
 |[d],rd,nb =>
  obtain⟨v,rfl,r1⟩:=rd.one;simp only[Xm]at nb ⊢;cases e:Xx S d with
  |none=>rw[e]at nb;exact aB0 rfl nb
  |some xs =>
   dsimp only;obtain⟨a,ws,rfl,hq,hr⟩:=I.seq e r1;rcases hq with hq|hq
   ·refine Xdx (Q':=fun z H'=>∃p,H p=none/\z=.ref p/\H'=upd H p (.tup ws)) Xea I.inv rv ⟨a,ws,rfl,.inl ⟨hq,fun l hl=>⟨l,hl,rfl,rfl⟩⟩⟩ fun w s' z H' J rz ⟨p,hp,e1,e2⟩=>?_
    subst e1 e2;cases rz;exact Xb7 J hp I.sr hr
   ·refine Xdx (Q':=fun z H'=>z=.ref a/\H'=H) Xea I.inv rv ⟨a,ws,rfl,.inr ⟨hq,rfl,rfl⟩⟩ fun w s' z H' J rz ⟨e1,e2⟩=>?_
    subst e1 e2;refine .mk .refl J rz ?_ I.sr;simp only[RD];exact⟨a,ws,rfl,hq,hr⟩
theorem X3m:BlR X .list (.type "list"):=by
 intro pa s σ H ρ S env ds vs us E I rd rv nb
 match ds,rd,nb with
 |[],_,nb=>exact aB0 rfl nb
 |_::_::_,_,nb=>exact aB0 rfl nb
 |[d],rd,nb =>
  obtain⟨v,rfl,r1⟩:=rd.one;simp only[Xm]at nb ⊢;cases e:Xx S d with
  |none=>rw[e]at nb;exact aB0 rfl nb
  |some xs =>
   dsimp only;obtain⟨a,ws,rfl,hq,hr⟩:=I.seq e r1;refine Xdx (Q':=fun z H'=>∃p,H p=none/\z=.ref p/\H'=upd H p (.lst ws)) Xk2 I.inv rv ⟨a,ws,rfl,hq,fun l hl=>⟨l,hl,rfl,rfl⟩⟩ fun w s' z H' J rz ⟨p,hp,e1,e2⟩=>?_
   subst e1 e2;cases rz;exact Xac J hp I.sr hr
theorem Xau:∀ {xs:List D} {bs:List Bool},Yb xs=some bs->xs=bs.map D.bl
 |[],ns,h=>by simp only[Yb,Vr]at h;subst h;rfl
 |.bl i::r,ns,h=>by
  simp only[Yb,Ui]at h;obtain⟨ms,h1,rfl⟩:=h;rw[Xau h1];rfl
 |.non::_,_,h=>by simp[Yb]at h
 |.int _::_,_,h=>by simp[Yb]at h
 |.str _::_,_,h=>by simp[Yb]at h
 |.tup _::_,_,h=>by simp[Yb]at h
 |.ref _::_,_,h=>by simp[Yb]at h
 |.fro _::_,_,h=>by simp[Yb]at h
 |.fn _ _::_,_,h=>by simp[Yb]at h
theorem Xsm(bs:List Bool)(f:Nat->Bool)(h:∀i,f i=(bs[i]?).getD false):(V0 bs.length).all f=bs.all id:=by
 rw[Bool.eq_iff_iff,Ux,Ux];constructor
 ·intro q b hb
  obtain⟨i,hi,rfl⟩:=Vbm.mp hb;have:=q i (by simpa using hi)
  rw[h i]at this
  simpa [hi] using this
 ·intro q i hi
  have hi':i<bs.length:=by simpa using hi
  rw[h i];simp only[hi',getElem?_pos,Option.getD_some];exact q _ (Vbz hi')
theorem Xsn(bs:List Bool)(f:Nat->Bool)(h:∀i,f i=(bs[i]?).getD false):(V0 bs.length).any f=bs.any id:=by
 rw[Bool.eq_iff_iff,Vek,Vek];constructor
 ·rintro ⟨i,hi,q⟩
  have hi':i<bs.length:=by simpa using hi
  rw[h i]at q;simp only[hi',getElem?_pos,Option.getD_some]at q;exact⟨_,Vbz hi',q⟩
 ·rintro ⟨b,hb,q⟩
  obtain⟨i,hi,rfl⟩:=Vbm.mp hb;refine⟨i,by simpa using hi,?_⟩
  rw[h i]
  simpa [hi] using q
theorem Xp7{K:Vg}:∀ {bs:List Bool} {vs:List V},RDs K ρ H (bs.map D.bl) vs->vs=bs.map V.bl
 |[],vs,h=>by simp only[Ug,RDs]at h;exact h
 |n::ns,vs,h=>by
  simp only[Ug,RDs]at h;obtain⟨v,r,rfl,h1,h2⟩:=h;simp only[RD]at h1;subst h1;rw[Xp7 h2];rfl
theorem S0.its(I:S0 X pa σ H s ρ S env)(h:Xc S n=some xs)(rd:RD X.K ρ H (.ref n) v)(rv:RelV v u):∃a vs its,u=.ref a/\s.heap.IsList a its.toArray/\RDs X.K ρ H xs vs/\Vals vs its/\vs.length<=Vw:=by
 obtain⟨a,vs,rfl,h1,h2,h3⟩:=I.lstR h rd;cases rv;obtain⟨its,r,p,hz⟩:=I.inv.list (.of h2);exact⟨a,vs,its,rfl,p.isList,h3,r,hz⟩
theorem Xdz{its:List Vb}{Q:Vb->Vc->Prop}(hh:A.handled=none)(hq:s.heap.IsList a its.toArray\/s.heap.IsTuple a its.toArray)
  (h:∀I fp wr St s₂,Walks prog w A I fp wr its.length (fun i v=>its[i]?=some v) St->St 0 s₂.heap->(∀b∈fp,b<s₂.heap.objs.size) ->
   (∀h' tk,(∀b o,b ∉ wr->s₂.heap.get? b=some o->h'.get? b=some o)->({s₂ with heap:=h',toks:=tk}:Vc)={s with heap:=h',toks:=tk}/\∀b o,s.heap.get? b=some o->h'.get? b=some o)->Q (.ref I) s₂) :
  Vf (Vk prog w) A (Vdw (.ref a)) Q E s:=by
 have key:∀ {o:Obj},∀h' tk,(∀b ob,b ∉ [s.heap.objs.size]->({s with heap:=s.heap.push o}:Vc).heap.get? b=some ob->h'.get? b=some ob)->({ ({s with heap:=s.heap.push o}:Vc) with heap:=h',toks:=tk}:Vc)={s with heap:=h',toks:=tk}/\∀b ob,s.heap.get? b=some ob->h'.get? b=some ob :=
  fun {o} h' tk hk=>⟨rfl,fun b ob e=>hk b ob (by simp;exact V8 (Vu e)) (Ve _ e)⟩
 have fpk:∀ {o:Obj} (ha:a<s.heap.objs.size),∀b∈[s.heap.objs.size,a],b<(s.heap.push o).objs.size:=fun {o} ha b hb=>by
  rw[Vaa];simp at hb;rcases hb with rfl|rfl
  ·exact Ven _
  ·exact Va0 ha
 rcases hq with hq|hq
 ·have ha:a<s.heap.objs.size:=Vu hq.choose_spec.1
  refine Vfm hq ?_;have W:=Walks.list (prog:=prog) (w:=w) hh s.heap.objs.size a (V8 ha) its.toArray;simp only[Vp,List.getElem?_toArray]at W;exact h _ _ _ _ _ W ⟨⟨_,Vm _ rfl,rfl,rfl⟩,hq.at fun o e=>Ve _ e⟩ (fpk ha) key
 ·have ha:a<s.heap.objs.size:=Vu hq.choose_spec.1
  refine Vg4 hq ?_;have W:=Walks.tuple (prog:=prog) (w:=w) hh s.heap.objs.size a (V8 ha) its.toArray;simp only[Vp,List.getElem?_toArray]at W;exact h _ _ _ _ _ W ⟨⟨_,Vm _ rfl,rfl,rfl⟩,hq.at fun o e=>Ve _ e⟩ (fpk ha) key
theorem S0.seqI(I:S0 X pa σ H s ρ S env)(h:Xx S d=some xs)(rd:RD X.K ρ H d v)(rv:RelV v u):∃a vs its,u=.ref a/\(s.heap.IsList a its.toArray\/s.heap.IsTuple a its.toArray)/\RDs X.K ρ H xs vs/\Vals vs its/\vs.length<=Vw:=by
 obtain⟨a,vs,rfl,hq,hr⟩:=I.seq h rd;cases rv;rcases hq with hq|hq
 ·obtain⟨its,r,p,hz⟩:=I.inv.list hq
  exact⟨a,vs,its,rfl,.inl p.isList,hr,r,hz⟩
 ·obtain⟨its,r,p,hz⟩:=I.inv.tuple hq
  exact⟨a,vs,its,rfl,.inr p,hr,r,hz⟩
theorem Xoq{i:Nat}{v:Vb}:∀ {bs:List Bool} {its:List Vb},Vals (bs.map V.bl) its->its[i]?=some v->v=.bool ((bs[i]?).getD false):=fun {bs its} hv e=>by
 have hl:i<bs.length:=by
  have h1:=hv.length;have h2:=(Vi.mp e).1;simp at h1;omega
 obtain⟨u,h1,h2⟩:=hv.get (i:=i) (x:=.bl bs[i]) (by simp[hl])
 rw[e]at h1;cases h1;simp[hl];exact h2
theorem X7k(hc:X.calm=true):BlR X .all (.builtin "all"):=by
 intro pa s σ H ρ S env ds vs us E I rd rv nb
 match ds,rd,nb with
 |[],_,nb=>exact aB0 rfl nb
 |d::_::_,_,nb=>cases d<;>exact aB0 rfl nb
 |[d],rd,nb =>
  cases d with
  |ref n =>
   obtain⟨v,rfl,r1⟩:=rd.one;simp only[Xm]at nb ⊢;cases e:Xc S n with
   |none=>rw[e]at nb;exact aB0 rfl nb
   |some xs =>
    rw[e]at nb;simp only[Vs]at nb ⊢;cases e2:Yb xs with
    |none=>rw[e2]at nb;exact aB0 rfl nb
    |some bs =>
     dsimp only;have q:=Xau e2;subst q;cases rv with
     |cons ru rr =>
      cases rr;obtain⟨a,ws,its,rfl,hl,hr,hv,hz⟩:=I.its e r1 ru;have hw:=Xp7 hr;subst hw;have hlen:its.length=bs.length:=by rw[<- hv.length];simp
      refine call_all_walk (Xdz (I.inv.ok.hd hc) (.inl hl) fun It fp wr St s₂ W st hf key=>?_)
      refine⟨It,fp,wr,_,_,St,fun i=>(bs[i]?).getD false,rfl,W,st,fun i v s' Q' E' hP hQ=>?_,fun h' tk hk=>?_⟩
      ·rw[Xoq hv hP];exact Vcs hQ
      ·obtain⟨e3,k3⟩:=key h' tk hk
       rw[e3,hlen,Xsm bs _ fun _=>rfl]
       exact Xi I.sr (I.inv.kept k3)
  |_=>exact aB0 rfl nb
theorem X7l(hc:X.calm=true):BlR X .anb (.builtin "any"):=by
 intro pa s σ H ρ S env ds vs us E I rd rv nb
 match ds,rd,nb with
 |[],_,nb=>exact aB0 rfl nb
 |d::_::_,_,nb=>cases d<;>exact aB0 rfl nb
 |[d],rd,nb =>
  cases d with
  |ref n =>
   obtain⟨v,rfl,r1⟩:=rd.one;simp only[Xm]at nb ⊢;cases e:Xc S n with
   |none=>rw[e]at nb;exact aB0 rfl nb
   |some xs =>
    rw[e]at nb;simp only[Vs]at nb ⊢;cases e2:Yb xs with
    |none=>rw[e2]at nb;exact aB0 rfl nb
    |some bs =>
     dsimp only;have q:=Xau e2;subst q;cases rv with
     |cons ru rr =>
      cases rr;obtain⟨a,ws,its,rfl,hl,hr,hv,hz⟩:=I.its e r1 ru;have hw:=Xp7 hr;subst hw;have hlen:its.length=bs.length:=by rw[<- hv.length];simp
      refine call_any_walk (Xdz (I.inv.ok.hd hc) (.inl hl) fun It fp wr St s₂ W st hf key=>?_)
      refine⟨It,fp,wr,_,_,St,fun i=>(bs[i]?).getD false,rfl,W,st,fun i v s' Q' E' hP hQ=>?_,fun h' tk hk=>?_⟩
      ·rw[Xoq hv hP];exact Vcs hQ
      ·obtain⟨e3,k3⟩:=key h' tk hk
       rw[e3,hlen,Xsn bs _ fun _=>rfl]
       exact Xi I.sr (I.inv.kept k3)
  |_=>exact aB0 rfl nb
theorem Xd0{i:Nat}{v:Vb}{ns:List Int}{its:List Vb}(hv:Vals (ns.map V.int) its)(e:its[i]?=some v):∃t,v=.int ((ns[i]?).getD 0) t:=by
 have hl:i<ns.length:=by
  have h1:=hv.length;have h2:=(Vi.mp e).1;simp at h1;omega
 obtain⟨u,h1,h2⟩:=hv.get (i:=i) (x:=.int ns[i]) (by simp[hl])
 rw[e]at h1;cases h1;simp[hl];exact h2
theorem Xfo(ns:List Int):∀k,k<=ns.length->preSum (fun i=>(ns[i]?).getD 0) k=(ns.take k).sum
 |0,_=>by simp[preSum]
 |k+1,h=>by
  have hk:k<ns.length:=by omega
  rw[preSum,Xfo ns k (by omega),Vf4 hk,List.sum_append]
  simp[hk]
theorem X7m(hc:X.calm=true):BlR X .sum (.builtin "sum"):=by
 intro pa s σ H ρ S env ds vs us E I rd rv nb
 match ds,rd,nb with
 |[],_,nb=>exact aB0 rfl nb
 |_::_::_,_,nb=>exact aB0 rfl nb
 |[d],rd,nb =>
  obtain⟨v,rfl,r1⟩:=rd.one;simp only[Xm]at nb ⊢;cases e:Xx S d with
  |none=>rw[e]at nb;exact aB0 rfl nb
  |some xs =>
   rw[e]at nb;simp only[Vs]at nb ⊢;cases e2:Xl xs with
   |none=>rw[e2]at nb;exact aB0 rfl nb
   |some ns =>
    dsimp only;have q:=Y6 e2;subst q;cases rv with
    |cons ru rr =>
     cases rr;obtain⟨a,ws,its,rfl,hl,hr,hv,hz⟩:=I.seqI e r1 ru;have hw:=hr.ints_of;subst hw;have hlen:its.length=ns.length:=by rw[<- hv.length];simp
     refine call_sum_walkAnyS (Xdz (I.inv.ok.hd hc) hl fun It fp wr St s₂ W st hf key=>?_)
     refine⟨It,fp,wr,_,_,_,_,fun i=>(ns[i]?).getD 0,rfl,W.toS,st,hf,fun i v hP=>Xd0 hv hP,fun s' t' hm=>?_⟩
     obtain⟨h1,h2,h3,h4,h5⟩:=hm;obtain⟨e3,k3⟩:=key s'.heap s'.toks h1;have e4:s'={s₂ with heap:=s'.heap,toks:=s'.toks}:=by
      cases s';cases s₂;simp only at h2 h3 h4;subst h2 h3 h4;rfl
     rw[e4,e3,hlen,Xfo ns _ (Vl _),Vc1];exact Y5 I.sr (I.inv.kept k3)
theorem X3n(hc:X.calm=true)(I:S0 X pa σ H s ρ S env)(rv:RelV (.int i) v')(ru:RelV (.int j) u'):Vf (Vk X.prog X.w) X.A (call (.builtin "max") [v',u']) (OkP X pa σ ρ H (Xm .max [.int i,.int j] S)) E s :=
 Xdx (Q':=fun z H'=>z=.int (if j>i then j else i)/\H'=H) (Xrv hc) I.inv (.cons rv (.cons ru .nil)) ⟨i,j,rfl,rfl,rfl⟩ fun w s' z H' J rz ⟨e1,e2⟩=>by
  subst e1 e2;obtain⟨t,rfl⟩:=rz;exact Y5 I.sr J
theorem X3o(hc:X.calm=true){i j:Int}{v' u':Vb}(I:S0 X pa σ H s ρ S env)(rv:RelV (.int i) v')(ru:RelV (.int j) u'):Vf (Vk X.prog X.w) X.A (call (.builtin "min") [v',u']) (OkP X pa σ ρ H (Xm .min [.int i,.int j] S)) E s :=
 Xdx (Q':=fun z H'=>z=.int (if j<i then j else i)/\H'=H) (Xrw hc) I.inv (.cons rv (.cons ru .nil)) ⟨i,j,rfl,rfl,rfl⟩ fun w s' z H' J rz ⟨e1,e2⟩=>by
  subst e1 e2;obtain⟨t,rfl⟩:=rz;exact Y5 I.sr J
theorem X7n(hc:X.calm=true):BlR X .max (.builtin "max"):=by
 intro pa s σ H ρ S env ds vs us E I rd rv nb
 match ds,rd,nb with
 |[],_,nb=>exact aB0 rfl nb
 |[d],rd,nb=>cases d<;>exact aB0 rfl nb
 |[d,e],rd,nb =>
  obtain⟨v,u,rfl,r1,r2⟩:=rd.two;cases d with
  |int i=>cases e with
   |int j =>
    simp only[RD]at r1 r2;subst r1 r2;cases rv with
    |cons ru rr=>cases rr with
     |cons rw' rr=>cases rr;exact X3n hc I ru rw'
   |_=>exact aB0 rfl nb
  |_=>cases e<;>exact aB0 rfl nb
 |d::e::_::_,_,nb=>cases d<;>(try cases e)<;>exact aB0 rfl nb
theorem X7o(hc:X.calm=true):BlR X .min (.builtin "min"):=by
 intro pa s σ H ρ S env ds vs us E I rd rv nb
 match ds,rd,nb with
 |[],_,nb=>exact aB0 rfl nb
 |[d],rd,nb=>cases d<;>exact aB0 rfl nb
 |[d,e],rd,nb =>
  obtain⟨v,u,rfl,r1,r2⟩:=rd.two;cases d with
  |int i=>cases e with
   |int j =>
    simp only[RD]at r1 r2;subst r1 r2;cases rv with
    |cons ru rr=>cases rr with
     |cons rw' rr=>cases rr;exact X3o hc I ru rw'
   |_=>exact aB0 rfl nb
  |_=>cases e<;>exact aB0 rfl nb
 |d::e::_::_,_,nb=>cases d<;>(try cases e)<;>exact aB0 rfl nb
theorem Xfp(ns:List Int):∀k,k<ns.length->(ns[argBest (fun i j=>decide ((ns[i]?).getD 0>(ns[j]?).getD 0)) k]?).getD 0=(ns.take (k+1)).tail.foldl max ((ns[0]?).getD 0)
 |0,h=>by
  cases ns with
  |nil=>simp at h
  |cons n r=>simp[argBest]
 |k+1,h=>by
  have ih:=Xfp ns k (by omega)
  simp only[argBest];have ht:(ns.take (k+1+1)).tail=(ns.take (k+1)).tail++[ns[k+1]]:=by
   rw[Vf4 h];cases ns with
   |nil=>simp at h
   |cons n r=>simp
  rw[ht,Vd6];simp only[Vdx,List.foldl_nil];generalize hm:Vei max ((ns[0]?).getD 0) (ns.take (k+1)).tail=m at ih ⊢;have h1:(ns[k+1]?).getD 0=ns[k+1]:=by simp[h]
  split
  ·rename_i hc
   have hc':=oD0 hc;rw[ih,h1]at hc';rw[h1];omega
  ·rename_i hc
   have hc':¬ ((ns[k+1]?).getD 0>(ns[argBest (fun i j=>decide ((ns[i]?).getD 0>(ns[j]?).getD 0)) k]?).getD 0):=fun z=>hc (decide_eq_true z)
   rw[ih,h1]at hc';rw[ih];omega
theorem X3p(hc:X.calm=true){d:D}{v:V}{u:Vb}(I:S0 X pa σ H s ρ S env)(rd:RD X.K ρ H d v)(rv:RelV v u)(nb:Xm .mxl [d] S≠.bad):Vf (Vk X.prog X.w) X.A (call (.builtin "max") [u]) (OkP X pa σ ρ H (Xm .mxl [d] S)) E s:=by
 simp only[Xm]at nb ⊢;cases e:Xx S d with
 |none=>rw[e]at nb;exact aB0 rfl nb
 |some xs =>
  rw[e]at nb;simp only[Vs]at nb ⊢;cases e2:Xl xs with
  |none=>rw[e2]at nb;exact aB0 rfl nb
  |some ns =>
   rw[e2]at nb;cases ns with
   |nil=>exact aB0 rfl nb
   |cons n ns =>
    dsimp only;have q:=Y6 e2;subst q;obtain⟨a,ws,its,rfl,hl,hr,hv,hz⟩:=I.seqI e rd rv;have hw:=hr.ints_of;subst hw;have hlen:its.length=(n::ns).length:=by rw[<- hv.length];simp
    refine call_max_walk (Xdz (I.inv.ok.hd hc) hl fun It fp wr St s₂ W st hf key=>?_)
    refine⟨It,fp,wr,_,_,St,fun i j=>decide (((n::ns)[i]?).getD 0>((n::ns)[j]?).getD 0),rfl,W,st,hf,by rw[hlen];simp,fun i j vi vj s' Q' E' hi hj hQ=>?_,fun v' h' tk hP hk=>?_⟩
    ·obtain⟨t,rfl⟩:=Xd0 hv hi
     obtain⟨t',rfl⟩:=Xd0 hv hj;exact gt_int hQ
    ·obtain⟨t,rfl⟩:=Xd0 hv hP
     obtain⟨e3,k3⟩:=key h' tk hk;rw[e3];have:=Xfp (n::ns) (its.length-1) (by rw[hlen];simp)
     rw[this,hlen];simp only[Uc,Nat.add_sub_cancel,Vc3 (Vl (n::ns).length),List.tail_cons];have e5:List.take (ns.length+1) (n::ns)=n::ns:=by simp
     rw[e5];exact Y5 I.sr (I.inv.kept k3)
theorem X7p(hc:X.calm=true):BlR X .mxl (.builtin "max"):=by
 intro pa s σ H ρ S env ds vs us E I rd rv nb
 match ds,rd,nb with
 |[],_,nb=>exact aB0 rfl nb
 |_::_::_,_,nb=>exact aB0 rfl nb
 |[d],rd,nb =>
  obtain⟨v,rfl,r1⟩:=rd.one;obtain⟨u,rfl,ru⟩:=rv.one;exact X3p hc I r1 ru nb
def MtD(X:Cx)(k:Mt)(id:String):Prop :=
 ∀(pa:List (Addr×Obj)) (s:Vc) (σ:L2.St) (H:Hp) (ρ:List Addr) (S:Sto) (env:En) (d:D) (v:V) (u:Vb) (ds:List D) (vs:List V) (us:List Vb) (E:Vb->Vc->Prop),S0 X pa σ H s ρ S env->RD X.K ρ H d v->RelV v u->RDs X.K ρ H ds vs->Vals vs us->Xab k d ds S≠.bad ->
  Vf (Vk X.prog X.w) X.A (call (.builtin id) (u::us)) (OkP X pa σ ρ H (Xab k d ds S)) E s
theorem Xhz{n:Nat}{a:Addr}{xs:List D}{vs:List V}{s':Vc}{d:D}{v:V}{u:Vb}(I:S0 X pa σ H s ρ S env)(ha:ρ[n]?=some a)(hv:H a=some (.lst ws))(J:Inv X pa σ (upd H a (.lst vs)) s')(rd:RDs X.K ρ H xs vs)(rv:RelV v u)(rdv:RD X.K ρ H d v) :
  OkP X pa σ ρ H (.ok d (S.set n (.lst xs))) u s':=by
 have nf:∀o u,H a≠some (.frz o u):=fun o u z=>by rw[hv]at z;cases z
 have st:Stp X.K ρ ρ H (upd H a (.lst vs)):=Stp.chg (S:=S) (o:=.lst xs) I.sr ha nf;exact .mk st J rv (rdv.mono st) (I.sr.chg ha nf ⟨vs,X6,rd.mono st⟩)
theorem Xu9:MtD X .append "list.append" := by
 intro pa s σ H ρ S env d v u ds vs us E I rd rv rds rvs nb
 match d,ds,rds,rd,nb with
 |.ref n,[x],rds,rd,nb =>
  obtain⟨y,rfl,r1⟩:=rds.one;simp only[Xab]at nb ⊢;cases e:Z.lstM S n with
  |none=>rw[e]at nb;exact aB0 rfl nb
  |some xs =>
   rw[e]at nb;dsimp only at nb ⊢;split at nb
   ·rename_i hz
    rw[iP0 hz];obtain⟨a,ws,rfl,ha,hv,hr⟩:=I.lstR e rd;refine mtd (Q':=fun z H'=>z=.non/\H'=upd H a (.lst (ws++[y]))) Xjp I.inv rv rvs ⟨a,ws,y,rfl,rfl,hv,by rw[<- hr.length];exact V6 hz Xef,rfl,rfl⟩ fun w s' z H' J rz ⟨e1,e2⟩=>?_
    subst e1 e2;exact Xhz I ha hv J (hr.append (.cons r1 .nil)) rz (by simp only[RD])
   ·exact aB0 rfl nb
 |.ref n,[],_,_,nb=>exact aB0 rfl nb
 |.ref n,_::_::_,_,_,nb=>exact aB0 rfl nb
 |.non,ds,_,_,nb=>cases ds<;>exact aB0 rfl nb
 |.bl _,ds,_,_,nb=>cases ds<;>exact aB0 rfl nb
 |.int _,ds,_,_,nb=>cases ds<;>exact aB0 rfl nb
 |.str _,ds,_,_,nb=>cases ds<;>exact aB0 rfl nb
 |.tup _,ds,_,_,nb=>cases ds<;>exact aB0 rfl nb
 |.fro _,ds,_,_,nb=>cases ds<;>exact aB0 rfl nb
theorem X7q:MtD X .xtd "list.extend" := by
 intro pa s σ H ρ S env d v u ds vs us E I rd rv rds rvs nb
 match d,ds,rds,rd,nb with
 |.ref n,[x],rds,rd,nb =>
  obtain⟨y,rfl,r1⟩:=rds.one;cases x with
  |ref k =>
   simp only[Xab]at nb ⊢;cases e:Z.lstM S n with
   |none=>rw[e]at nb;exact aB0 rfl nb
   |some xs =>
    rw[e]at nb;dsimp only at nb ⊢;cases e2:Xc S k with
    |none=>rw[e2]at nb;exact aB0 rfl nb
    |some ys =>
     rw[e2]at nb;dsimp only at nb ⊢;split at nb
     ·rename_i hz
      rw[iP0 hz];obtain⟨a,ws,rfl,ha,hv,hr⟩:=I.lstR e rd;obtain⟨b,zs,rfl,hb,hw,hq⟩:=I.lstR e2 r1;refine mtd (Q':=fun z H'=>z=.non/\H'=upd H a (.lst (ws++zs))) Xry I.inv rv rvs ⟨a,b,ws,zs,rfl,rfl,hv,hw,by rw[<- hr.length,<- hq.length];exact U4 hz Xef,rfl,rfl⟩ fun w s' z H' J rz ⟨e1,e2⟩=>?_
      subst e1 e2;exact Xhz I ha hv J (hr.append hq) rz (by simp only[RD])
     ·exact aB0 rfl nb
  |tup ys =>
   simp only[Xab]at nb ⊢;cases e:Z.lstM S n with
   |none=>rw[e]at nb;exact aB0 rfl nb
   |some xs =>
    rw[e]at nb;dsimp only at nb ⊢;split at nb
    ·rename_i hz
     rw[iP0 hz];obtain⟨a,ws,rfl,ha,hv,hr⟩:=I.lstR e rd;simp only[RD]at r1;obtain⟨b,zs,rfl,hs,hq⟩:=r1;cases rv;obtain⟨u2,rfl,ru2⟩:=rvs.one;cases ru2;have hz':ws.length+zs.length<=Vw:=by rw[<- hr.length,<- hq.length];exact U4 hz Xef
     obtain⟨z,its,c,rw',hl,eo⟩:=I.inv.lstM hv;obtain⟨its2,r2,⟨o2,e2,hc2,n2,hd2⟩,hz2⟩:=I.inv.tuple hs;have hl2:=r2.length;have hsz:its.toArray.size+its2.toArray.size<=Vw:=by rw[Vp,Vp];omega
     have hlong:¬ (!its.toArray.isEmpty&&Vcm (its.toArray.size+its2.toArray.size))=true:=by
      rw[Xf0 hsz,Vgp];exact V7
     refine Uk F.slot_list_extend ⟨_,eo,rfl⟩ F.entry_list_extend ?_ (F.args_list_extend_2 _ _);show Vf _ _ (Vax (.ref a) (.ref b) .none) _ _ s;unfold Vax;refine Va (Vdn (T := "tuple") ⟨o2,e2,hc2⟩ ?_);rw[iP0 (by rw[show(Vci "tuple" == Vci "tuple")=true from rfl];simp)]
     refine Va (Vgj e2 hd2 (Va (Vgj eo rfl ?_)));rw[iN0 hlong];refine Va (Vfw eo rfl (Vd ⟨_,rfl,?_⟩) (by rw[Vp];omega) (by rw[Array.size_append];omega))
     exact Xhz I ha hv (I.inv.lset (its':=its++its2) hv eo (by simp) (rw'.append r2) (by rw[Uf];exact hz')) (hr.append hq) (show RelV .non U1 from rfl) (by simp only[RD])
    ·exact aB0 rfl nb
  |_=>exact aB0 rfl nb
 |.ref n,[],_,_,nb=>exact aB0 rfl nb
 |.ref n,_::_::_,_,_,nb=>exact aB0 rfl nb
 |.non,ds,_,_,nb=>cases ds<;>exact aB0 rfl nb
 |.bl _,ds,_,_,nb=>cases ds<;>exact aB0 rfl nb
 |.int _,ds,_,_,nb=>cases ds<;>exact aB0 rfl nb
 |.str _,ds,_,_,nb=>cases ds<;>exact aB0 rfl nb
 |.tup _,ds,_,_,nb=>cases ds<;>exact aB0 rfl nb
 |.fro _,ds,_,_,nb=>cases ds<;>exact aB0 rfl nb
end
section
variable{X:Cx}{pa:List (Addr×Obj)}{σ:L2.St}{H:Hp}{s:Vc}{ρ:List Addr}{S S':Sto}{env:En}{a b c e:Expr}{f fa fb fc:En->Sto->R D}{pos:Pos}
theorem X7r(ha:DE X a fa):DE X (.UnaryOp .USub a pos) (fun env S=>(fa env S).bind fun x S=>match x with | .int i=>.ok (.int (-i)) S|_=>.bad):=by
 intro pa s σ H ρ S env I nb;dsimp only at nb ⊢;cases q:fa env S with
 |bad=>rw[q]at nb;exact aB0 rfl nb
 |ex n S1=>exact UnaryOp_ (ha.ex I q fun x s' z=>⟨n,S1,rfl,z⟩)
 |ok x S1 =>
  rw[q]at nb;simp only[Rk0]at nb ⊢;refine UnaryOp_ (ha.ok I q fun u s1 v H1 ρ1 I1 rv rd st1=>?_)
  cases x with
  |int i =>
   simp only[RD]at rd;subst rd;obtain⟨t,rfl⟩:=rv;exact neg_int (OkP.pre st1 (Y5 I1.sr (I1.inv.tok _)))
  |_=>exact aB0 rfl nb
theorem X3q(hc:DT X c (fun env S=>tst (fc env S)))(ha:DT X a (fun env S=>tst (fa env S)))(hb:DT X b (fun env S=>tst (fb env S))) :
  DT X (.IfExp c a b pos) (fun env S=>tst ((fc env S).bind fun x S=>match Xf S x with|some true=>fa env S|some false=>fb env S|none=>.bad)):=by
 intro pa s σ H ρ S env I nb;dsimp only at nb ⊢;show Vf _ _ (do if <- isTrue c X.env (eval c X.env) then isTrue a X.env (eval a X.env) else isTrue b X.env (eval b X.env)) _ _ s
 cases q:fc env S with
 |bad=>rw[q]at nb;exact aB0 rfl nb
 |ex n S1=>exact Va (hc.ex I (by simp only[q];rfl) fun x s' z=>⟨n,S1,rfl,z⟩)
 |ok x S1 =>
  rw[q]at nb;simp only[Rk0]at nb ⊢;cases t:Xf S1 x with
  |none=>rw[t]at nb;exact aB0 rfl nb
  |some r =>
   rw[t]at nb;refine Va (hc.ok I (by simp only[q];exact Xa9 t) fun s2 H2 ρ2 I2 st2=>?_)
   cases r with
   |true=>exact Vn (ha pa s2 σ H2 ρ2 S1 env I2 nb) (fun w s3 ⟨S3,e3,H3,ρ3,J3,sr3,st3⟩=>⟨S3,e3,H3,ρ3,J3,sr3,st2.trans st3⟩) fun x s' z=>z.pre st2
   |false=>exact Vn (hb pa s2 σ H2 ρ2 S1 env I2 nb) (fun w s3 ⟨S3,e3,H3,ρ3,J3,sr3,st3⟩=>⟨S3,e3,H3,ρ3,J3,sr3,st2.trans st3⟩) fun x s' z=>z.pre st2
noncomputable def Yv(o1 o2:Co)(fa fb fc:En->Sto->R D)(env:En)(S:Sto):R D:=(fa env S).bind fun x S=>(fb env S).bind fun y S=>match X9 o1 x y S with
  |some true=>(fc env S).bind fun z S=>Xj o2 y z S
  |some false=>.ok (.bl false) S
  |none=>.bad
theorem Xlr(ho1:Op2 X (Vay (opC o1)) (Xj o1))(ha:DE X a fa)(hb:DE X b fb)(I:S0 X pa σ H s ρ S env)(nb:Yv o1 o2 fa fb fc env S≠.bad)
  {W:Vb->Vb->Bool->Vc->Prop} (hE:∀x s',ExP X pa σ ρ H (Yv o1 o2 fa fb fc env S) x s'->Ev x s')
  (hF:∀v u s3 S2 H2 ρ2,Yv o1 o2 fa fb fc env S=.ok (.bl false) S2->S0 X pa σ H2 s3 ρ2 S2 env->Stp X.K ρ ρ2 H H2->W v u false s3)
  (hT:∀v u s3 S2 y vy H2 ρ2,Yv o1 o2 fa fb fc env S=((fc env S2).bind fun z S=>Xj o2 y z S)->S0 X pa σ H2 s3 ρ2 S2 env->RelV vy u->RD X.K ρ2 H2 y vy->Stp X.K ρ ρ2 H H2->W v u true s3) :
  Vf (Vk X.prog X.w) X.A (eval a X.env) (fun v s1=>Vf (Vk X.prog X.w) X.A (eval b X.env) (fun u s2=>Vf (Vk X.prog X.w) X.A (Vay (opC o1) v u) (fun d s3=>∃r,d=.bool r/\W v u r s3) Ev s2) Ev s1) Ev s:=by
 cases q:fa env S with
 |bad=>rw[Yv,q]at nb;exact aB0 rfl nb
 |ex n S1=>exact ha.ex I q fun x s' z=>hE x s' ⟨n,S1,by rw[Yv,q];rfl,z⟩
 |ok x S1 =>
  refine ha.ok I q fun v s1 vx H1 ρ1 I1 rv rd st1=>?_
  cases q2:fb env S1 with
  |bad=>rw[Yv,q]at nb;simp only[Rk0]at nb;rw[q2]at nb;exact aB0 rfl nb
  |ex n S2=>exact hb.ex I1 q2 fun x s' z=>hE x s' ⟨n,S2,by rw[Yv,q];simp only[Rk0];rw[q2];rfl,z.pre st1⟩
  |ok y S2 =>
   refine hb.ok I1 q2 fun u s2 vy H2 ρ2 I2 ru rdu st2=>?_
   have eq:Yv o1 o2 fa fb fc env S=(match X9 o1 x y S2 with
     |some true=>(fc env S2).bind fun z S=>Xj o2 y z S
     |some false=>.ok (.bl false) S2
     |none=>.bad):=by rw[Yv,q];simp only[Rk0];rw[q2];rfl
   cases q3:X9 o1 x y S2 with
   |none=>rw[eq,q3]at nb;exact aB0 rfl nb
   |some r =>
    have e3:Xj o1 x y S2=.ok (.bl r) S2:=by unfold Xj;rw[q3]
    refine Vn (ho1 pa s2 σ H2 ρ2 S2 env x y vx vy v u (fun _ _=>False) I2 (by rw[e3];exact fun z=>nomatch z) (rd.mono st2) rv rdu ru) (fun d s3 z=>?_) fun _ _ z=>z.elim
    rw[e3]at z;obtain⟨d',S3,e4,w,H3,ρ3,J3,rw3,rd3,sr3,st3⟩:=z;cases e4;simp only[RD]at rd3;subst rd3;cases rw3;refine⟨r,rfl,?_⟩;have I3:S0 X pa σ H3 s3 ρ3 S2 env:=I2.step J3 sr3 st3;cases r with
    |false=>exact hF v u s3 S2 H3 ρ3 (by rw[eq,q3]) I3 (st1.trans (st2.trans st3))
    |true=>exact hT v u s3 S2 y vy H3 ρ3 (by rw[eq,q3]) I3 ru (rdu.mono st3) (st1.trans (st2.trans st3))
theorem Xls(ho2:Op2 X (Vay (opC o2)) (Xj o2))(hc:DE X c fc)(I:S0 X pa σ H s ρ S env)(ru:RelV vy u)(rd:RD X.K ρ H y vy)(st0:Stp X.K ρ0 ρ H0 H)
  (nb:((fc env S).bind fun z S=>Xj o2 y z S)≠.bad) (hE:∀x s',ExP X pa σ ρ0 H0 ((fc env S).bind fun z S=>Xj o2 y z S) x s'->Ev x s')
  (hW:∀r S3 s3 H3 ρ3,((fc env S).bind fun z S=>Xj o2 y z S)=.ok (.bl r) S3->S0 X pa σ H3 s3 ρ3 S3 env->Stp X.K ρ0 ρ3 H0 H3->W (.bool r) s3) :
  Vf (Vk X.prog X.w) X.A (eval c X.env) (fun w s1=>Vf (Vk X.prog X.w) X.A (Vay (opC o2) u w) W Ev s1) Ev s:=by
 cases q:fc env S with
 |bad=>rw[q]at nb;exact aB0 rfl nb
 |ex n S1=>exact hc.ex I q fun x s' z=>hE x s' ⟨n,S1,by rw[q];rfl,z.pre st0⟩
 |ok z S1 =>
  rw[q]at nb;simp only[Rk0]at nb;refine hc.ok I q fun w s1 vz H1 ρ1 I1 rv rdz st1=>?_
  obtain⟨r,e1,e2⟩:=Xb8 nb;refine Vn (ho2 pa s1 σ H1 ρ1 S1 env y z vy vz u w (fun _ _=>False) I1 nb (rd.mono st1) ru rdz rv) (fun d s3 zz=>?_) fun _ _ z=>z.elim
  rw[e2]at zz;obtain⟨d',S3,e4,w',H3,ρ3,J3,rw3,rd3,sr3,st3⟩:=zz;cases e4;simp only[RD]at rd3;subst rd3;cases rw3;exact hW r S1 s3 H3 ρ3 (by rw[q];exact e2) (I1.step J3 sr3 st3) (st0.trans (st1.trans st3))
theorem X7s(ho1:Op2 X (Vay (opC o1)) (Xj o1))(ho2:Op2 X (Vay (opC o2)) (Xj o2))(ha:DE X a fa)(hb:DE X b fb)(hc:DE X c fc)(hm:lastMarks [opC o1,opC o2] [b,c]=false) :
  DE X (.Compare a [opC o1,opC o2] [b,c] pos) (Yv o1 o2 fa fb fc):=by
 intro pa s σ H ρ S env I nb;refine Compare_chain (Vn (Xlr (W:=fun v u r s3=>if r=true then Vf (Vk X.prog X.w) X.A (compareChain pos u [opC o2] [eval c X.env]) (OkP X pa σ ρ H (Yv o1 o2 fa fb fc env S)) (ExP X pa σ ρ H (Yv o1 o2 fa fb fc env S)) s3 else OkP X pa σ ρ H (Yv o1 o2 fa fb fc env S) (.bool false) s3) ho1 ha hb I nb (fun _ _ z=>z) ?_ ?_)
  (fun v s1 h1=>chain_link (Vn h1 (fun u s2 h2=>Vn h2 (fun d s3 ⟨r,e,w⟩=>?_) fun _ _ z=>z) fun _ _ z=>z)) fun _ _ z=>z) hm
 ·intro v u s3 S2 H2 ρ2 e I2 st2
  rw[iN0 V7,e];exact OkP.pre st2 (Xi I2.sr I2.inv)
 ·intro v u s3 S2 y vy H2 ρ2 e I2 ru rd st2
  rw[iP0 rfl];refine chain_last (Xls ho2 hc I2 ru rd st2 (by rw[<- e];exact nb) (fun x s' z=>by rw[e];exact z) fun r S3 s4 H3 ρ3 e3 I3 st3=>?_)
  rw[e,e3];exact OkP.pre st3 (Xi I3.sr I3.inv)
 ·subst e
  refine Vcs ?_;cases r with
  |true=>rw[iP0 rfl]at w;exact ite_tt w
  |false=>rw[iN0 V7]at w;exact ite_ff w
theorem X3r(ho1:Op2 X (Vay (opC o1)) (Xj o1))(ho2:Op2 X (Vay (opC o2)) (Xj o2))(ha:DE X a fa)(hb:DE X b fb)(hc:DE X c fc)(hm:lastMarks [opC o1,opC o2] [b,c]=false) :
  DT X (.Compare a [opC o1,opC o2] [b,c] pos) (fun env S=>tst (Yv o1 o2 fa fb fc env S)):=by
 intro pa s σ H ρ S env I nb;dsimp only at nb ⊢;have nb':Yv o1 o2 fa fb fc env S≠.bad:=fun z=>nb (by rw[z];rfl)
 have ex:∀x s',ExP X pa σ ρ H (Yv o1 o2 fa fb fc env S) x s'->ExP X pa σ ρ H (tst (Yv o1 o2 fa fb fc env S)) x s':=fun x s' ⟨n,S1,e,z⟩=>⟨n,S1,by rw[e];rfl,z⟩
 refine isTrue_chain (Vn (Xlr (W:=fun v u r s3=>if r=true then Vf (Vk X.prog X.w) X.A (testChain pos u [opC o2] [eval c X.env]) (fun b s'=>∃S',tst (Yv o1 o2 fa fb fc env S)=.ok b S'/\∃H' ρ',Inv X pa σ H' s'/\SR X.K ρ' S' H'/\Stp X.K ρ ρ' H H') (ExP X pa σ ρ H (tst (Yv o1 o2 fa fb fc env S))) s3
   else ∃S',tst (Yv o1 o2 fa fb fc env S)=.ok false S'/\∃H' ρ',Inv X pa σ H' s3/\SR X.K ρ' S' H'/\Stp X.K ρ ρ' H H') ho1 ha hb I nb' ex ?_ ?_)
  (fun v s1 h1=>test_link (Vn h1 (fun u s2 h2=>Vn h2 (fun d s3 ⟨r,e,w⟩=>?_) fun _ _ z=>z) fun _ _ z=>z)) fun _ _ z=>z) hm
 ·intro v u s3 S2 H2 ρ2 e I2 st2
  rw[iN0 V7,e];exact⟨S2,rfl,H2,ρ2,I2.inv,I2.sr,st2⟩
 ·intro v u s3 S2 y vy H2 ρ2 e I2 ru rd st2
  rw[iP0 rfl];refine test_last (Xls ho2 hc I2 ru rd st2 (by rw[<- e];exact nb') (fun x s' z=>ex x s' (by rw[e];exact z)) fun r S3 s4 H3 ρ3 e3 I3 st3=>?_)
  exact Vcs ⟨S3,by rw[e,e3];rfl,H3,ρ3,I3.inv,I3.sr,st3⟩
 ·subst e
  refine Vcs ?_;cases r with
  |true=>rw[iP0 rfl]at w;exact ite_tt w
  |false=>rw[iN0 V7]at w;exact ite_ff w
variable{x:Str}{p:Pos}{es:List Expr}{g:En->Sto->R (List D)}{k:Bl}{id T:String}
theorem X3s (hB:BlR X k (.builtin id)) (hg:Gl X x) (hm:X.mg x=none) (hv:Vdm x=some (.builtin id)) (ha:DA X (e::es) g) (hn:x ≠ "__name__") (hdb:(x==("__debug__" : Str))=false)
  (he:V3 (e::es) X.env=(false,eval e X.env)::V3 es X.env) (hpl:(Vbg pos (V3 es X.env)).any (·.1)=false):DE X (.Call (.Name x p) (e::es) [] pos) (fun env S=>(g env S).bind fun xs S=>Xm k xs S):=by
 intro pa s σ H ρ S env I nb;dsimp only at nb ⊢;refine Vad (Yj I.inv hg hm hv ?_ hn hdb);cases q:g env S with
 |bad=>rw[q]at nb;exact aB0 rfl nb
 |ex n S1=>exact Vao (ha.ex I q fun x s' z=>⟨n,S1,rfl,z⟩) he hpl
 |ok ds S1 =>
  rw[q]at nb;refine Vao (ha.ok I q fun us s1 vs H1 ρ1 I1 rv rd st1=>?_) he hpl
  exact Vn (hB pa s1 σ H1 ρ1 S1 env ds vs us (fun _ _=>False) I1 rd rv nb) (fun w s2 z=>z.pre st1) fun _ _ z=>z.elim
theorem X3t (hB:BlR X k (.type T)) (hg:Gl X x) (hm:X.mg x=none) (hv:Vdm x=some (.type T)) (ha:DA X (e::es) g) (hn:x ≠ "__name__") (hdb:(x==("__debug__" : Str))=false)
  (he:V3 (e::es) X.env=(false,eval e X.env)::V3 es X.env) (hpl:(Vbg pos (V3 es X.env)).any (·.1)=false):DE X (.Call (.Name x p) (e::es) [] pos) (fun env S=>(g env S).bind fun xs S=>Xm k xs S):=by
 intro pa s σ H ρ S env I nb;dsimp only at nb ⊢;refine Vad (Yj I.inv hg hm hv ?_ hn hdb);cases q:g env S with
 |bad=>rw[q]at nb;exact aB0 rfl nb
 |ex n S1=>exact U2 (ha.ex I q fun x s' z=>⟨n,S1,rfl,z⟩) he hpl
 |ok ds S1 =>
  rw[q]at nb;refine U2 (ha.ok I q fun us s1 vs H1 ρ1 I1 rv rd st1=>?_) he hpl
  exact Vn (hB pa s1 σ H1 ρ1 S1 env ds vs us (fun _ _=>False) I1 rd rv nb) (fun w s2 z=>z.pre st1) fun _ _ z=>z.elim
theorem X7t (hg:Gl X x) (hm:X.mg x=some u) (hd:∀ ρ H,∃v,RelV v u/\RD X.K ρ H d v) (hdb:(x==("__debug__" : Str))=false):DE X (.Name x p) (fun _ S=>.ok d S):=by
 intro pa s σ H ρ S env I nb;obtain⟨v,rv,rd⟩:=hd ρ H;exact Xc2 I.inv hg hm (.mk .refl I.inv rv rd I.sr) hdb
theorem Xgx (slot:Slot "list" name id) (hty:typeOf (.builtin id)=pure (.type "method_descriptor")) (hM:MtD X m id) (hr:∀x S,Xcm m x S=true->∃n xs,x=.ref n/\Xc S n=some xs) (ho:DE X o fo) (ha:DA X (e::es) g)
  (hbase:attributeBase o name X.env (eval o X.env)=eval o X.env)
  (hfew:((Vbg cpos (V3 (e::es) X.env)).all (fun x=>!x.1)&&(backToKw cpos (Vft [] X.env)).all (fun x=>x.1.isSome)&&decide ((e::es).length+([]:List Vdt).length+(if ([]:List Vdt).isEmpty then 0 else 1)<30))=true)
  (hline:(apos.endLine==cpos.line)=true) (hs:V3 (e::es) X.env=(false,eval e X.env)::V3 es X.env) (hplain:(Vbg cpos (V3 es X.env)).any (·.1)=false) :
  DE X (.Call (.Attribute o name apos) (e::es) [] cpos) (fun env S=>(fo env S).bind fun x S=>if Xcm m x S then (g env S).bind fun xs S=>Xab m x xs S else .bad):=by
 intro pa s σ H ρ S env I nb;dsimp only at nb ⊢;cases q:fo env S with
 |bad=>rw[q]at nb;exact aB0 rfl nb
 |ex n S1=>exact wpAny_Call_method_late hbase hfew hline rfl (ho.ex I q fun x s' z=>⟨n,S1,rfl,z⟩)
 |ok x S1 =>
  rw[q]at nb;simp only[Rk0]at nb ⊢;split at nb
  ·rename_i hk
   rw[iP0 hk];obtain⟨n,xs,rfl,hx⟩:=hr x S1 hk;refine wpAny_Call_method_late hbase hfew hline rfl (ho.ok I q fun v s1 vx H1 ρ1 I1 rv rd st1=>?_)
   obtain⟨a,ws,rfl,k1,k2,k3⟩:=I1.lstR hx rd;cases rv;obtain⟨its,_,pl,_⟩:=I1.inv.list (.of k2);refine⟨"list",id,PySem.F.plainAttrs_list,slot,hty,pl.isList.typeIs,fun b eb=>?_,?_⟩
   ·cases eb
    obtain⟨ob,n',e1,c1,hd,_⟩:=pl;exact⟨ob,e1,hd⟩
   ·cases q2:g env S1 with
    |bad=>rw[q2]at nb;exact aB0 rfl nb
    |ex k S2 =>
     have hA:=ha.ex (pos:=cpos) (E:=ExP X pa σ ρ H (.ex k S2:R D)) (Q:=fun us s2=>Vf (Vk X.prog X.w) X.A (call (.builtin id) (.ref a::us)) (OkP X pa σ ρ H (.ex k S2)) (ExP X pa σ ρ H (.ex k S2:R D)) s2) I1 q2 fun x s' z=>.mk st1 z
     rw[hs]at hA ⊢;exact Vd4 (by show(false||(Vbg cpos (V3 es X.env)).any (·.1))=false;rw[hplain];rfl) (Vdh hA)
    |ok ds S2 =>
     rw[q2]at nb;simp only[Rk0]at nb ⊢;have hA:=ha.ok (pos:=cpos) (E:=ExP X pa σ ρ H (Xab m (.ref n) ds S2)) (Q:=fun us s2=>Vf (Vk X.prog X.w) X.A (call (.builtin id) (.ref a::us)) (OkP X pa σ ρ H (Xab m (.ref n) ds S2)) (ExP X pa σ ρ H (Xab m (.ref n) ds S2)) s2) I1 q2 fun us s2 vs H2 ρ2 I2 rvs rds st2 =>
      Vn (hM pa s2 σ H2 ρ2 S2 env (.ref n) (.ref a) (.ref a) ds vs us (fun _ _=>False) I2 (rd.mono st2) rfl rds rvs nb) (fun w s3 z=>z.pre (st1.trans st2)) fun _ _ z=>z.elim
     rw[hs]at hA ⊢;exact Vd4 (by show(false||(Vbg cpos (V3 es X.env)).any (·.1))=false;rw[hplain];rfl) (Vdh hA)
  ·exact aB0 rfl nb
end
theorem X7u{X:Cx}{o e:Expr}{es:List Expr}{apos cpos:Pos}{fo:En->Sto->R D}{g:En->Sto->R (List D)}(hu:X.A.units+1<cLine)(ho:DE X o fo)(ha:DA X (e::es) g)
  (hbase:attributeBase o "get" X.env (eval o X.env)=eval o X.env)
  (hfew:((Vbg cpos (V3 (e::es) X.env)).all (fun x=>!x.1)&&(backToKw cpos (Vft [] X.env)).all (fun x=>x.1.isSome)&&decide ((e::es).length+([]:List Vdt).length+(if ([]:List Vdt).isEmpty then 0 else 1)<30))=true)
  (hline:(apos.endLine==cpos.line)=true) (hs:V3 (e::es) X.env=(false,eval e X.env)::V3 es X.env) (hplain:(Vbg cpos (V3 es X.env)).any (·.1)=false) :
  DE X (.Call (.Attribute o "get" apos) (e::es) [] cpos) (fun env S=>(fo env S).bind fun x S=>if Xus S x then (g env S).bind fun xs S=>Xcu x xs S else .bad):=by
 intro pa s σ H ρ S env I nb;dsimp only at nb ⊢;cases q:fo env S with
 |bad=>rw[q]at nb;exact aB0 rfl nb
 |ex n S1=>exact Vfn hbase hfew hline Vdr Vf7 PySem.F.type_dict_get (ho.ex I q fun x s' z=>⟨n,S1,rfl,z⟩)
 |ok x S1 =>
  rw[q]at nb;simp only[Rk0]at nb ⊢;split at nb
  ·rename_i hk
   rw[iP0 hk];cases x with
   |ref n =>
    obtain⟨kvs,e1⟩:=Vbw.mp (show(Yx S1 n).isSome=true from hk);refine Vfn hbase hfew hline Vdr Vf7 PySem.F.type_dict_get (ho.ok I q fun u s1 v H1 ρ1 I1 rv rd st1=>?_)
    obtain⟨a,ob,xs,ha1,hob,f,hx,_⟩:=I1.dic e1;have rd':=rd;rw[RD]at rd';obtain⟨a',rfl,ha'⟩:=rd';rw[ha1]at ha';cases ha';cases rv;refine⟨⟨ob,hob,f.2.2.1.1⟩,fun b eb=>by cases eb;exact⟨ob,hob,f.2.2.1.2.1⟩,?_⟩
    cases q2:g env S1 with
    |bad=>rw[q2]at nb;exact aB0 rfl nb
    |ex k S2 =>
     have hA:=ha.ex (pos:=cpos) (E:=ExP X pa σ ρ H (.ex k S2:R D)) (Q:=fun us s2=>Vf (Vk X.prog X.w) X.A (call (.builtin "dict.get") (.ref a::us)) (OkP X pa σ ρ H (.ex k S2)) (ExP X pa σ ρ H (.ex k S2:R D)) s2) I1 q2 fun x s' z=>.mk st1 z
     rw[hs]at hA ⊢;exact Vd4 (by show(false||(Vbg cpos (V3 es X.env)).any (·.1))=false;rw[hplain];rfl) (Vdh hA)
    |ok ds S2 =>
     rw[q2]at nb;simp only[Rk0]at nb ⊢;have hA:=ha.ok (pos:=cpos) (E:=ExP X pa σ ρ H (Xcu (.ref n) ds S2)) (Q:=fun us s2=>Vf (Vk X.prog X.w) X.A (call (.builtin "dict.get") (.ref a::us)) (OkP X pa σ ρ H (Xcu (.ref n) ds S2)) (ExP X pa σ ρ H (Xcu (.ref n) ds S2)) s2) I1 q2 fun us s2 vs H2 ρ2 I2 rvs rds st2 =>
      Vn (X7h (E:=fun _ _=>False) hu I2 nb (rd.mono st2) rfl rds rvs) (fun w s3 z=>z.pre (st1.trans st2)) fun _ _ z=>z.elim
     rw[hs]at hA ⊢;exact Vd4 (by show(false||(Vbg cpos (V3 es X.env)).any (·.1))=false;rw[hplain];rfl) (Vdh hA)
   |_=>cases hk
  ·exact aB0 rfl nb
section
variable{X:Cx}{pa:List (Addr×Obj)}{σ:L2.St}{H:Hp}{s:Vc}{ρ:List Addr}{S S':Sto}{env:En}
theorem Xlt:∀(ts:List Str) (k:Nat) (acc:Str),(textFrom k acc ts).length<=acc.length+piled ts
 |[],k,acc=>by simp[textFrom,piled]
 |t::ts,k,acc=>by
  have ih:=Xlt ts (k+1) (acc++(if k>0 then ", " else "" : String)++t)
  have e:(U9 (if k>0 then ", " else "")).length<=2:=by split<;>decide
  rw[textFrom,piled_cons];simp only[Vhi]at ih;omega
mutual
theorem Xlu:∀p:Vbj,p.showable=true->Xah p=true->p.shown.length<=szD p
 |.none,_,_=>by simp only[Vee,szD];decide
 |.bool b,_,_=>by simp only[Vee,szD];cases b<;>decide
 |.int i,h,_=>by
  simp only[Va5,decide_eq_true_eq]at h;simp only[Vee,szD];have:=int_text_length_le (by decide) h
  rw[PySem.ofString_length];omega
 |.str x,_,_=>by simp only[Vee,szD];exact Vl _
 |.list xs,h,h2=>by
  simp only[Va5]at h;simp only[Xah]at h2;have ih:=shownAll_le xs h h2;simp only[Vee,szD,listText,Vhi];have:=Xlt (Vcr xs) 0 "[";have e1:(U9 "[").length=1:=by decide
  have e2:(U9 "]").length=1:=by decide
  omega
 |.tuple xs,h,h2=>by
  simp only[Va5]at h;simp only[Xah]at h2;have ih:=shownAll_le xs h h2;simp only[Vee,szD,tupleText,Vhi];have e1:(U9 "(").length=1:=by decide
  have e2:(U9 (if (Vcr xs).length==1 then ",)" else ")")).length<=2:=by split<;>decide
  have e3:(Str.join ", " (Vcr xs)).length<=piled (Vcr xs):=by
   cases e:Vcr xs with
   |nil=>decide
   |cons t ts=>have:=join_length_add (t::ts) (by simp);omega
  omega
 |.dict kvs,_,h2=>by
  simp only[Xah]at h2;cases kvs with
  |nil=>simp only[Vee,PyData.shownKv,szD];decide
  |cons x r=>cases h2
theorem shownAll_le:∀ps:List Vbj,Vbk ps=true->dctEs ps=true->piled (Vcr ps)<=szDs ps
 |[],_,_=>by simp[Vcr,szDs,piled]
 |p::ps,h,h2=>by
  simp only[Vbk,bA0]at h;simp only[dctEs,bA0]at h2;have i1:=Xlu p h.1 h2.1;have i2:=shownAll_le ps h.2 h2.2;rw[Vcr,piled_cons,szDs];omega
end
theorem X3u(hsm:∃o,X.K.lookup Vb1=some o)(hg:X.A.guards=some [])(hu:X.A.units+200<cLine):BlR X .repr (.builtin "repr"):=by
 intro pa s σ H ρ S env ds vs us E I rd rv nb
 match ds,rd,nb with
 |[],_,nb=>exact aB0 rfl nb
 |d::_::_,_,nb=>cases d<;>exact aB0 rfl nb
 |[d],rd,nb =>
  obtain⟨v,rfl,r1⟩:=rd.one;obtain⟨u,rfl,ru⟩:=rv.one;simp only[Xm]at nb ⊢;cases e:Xld S d with
  |none=>rw[e]at nb;exact aB0 rfl nb
  |some t =>
   dsimp only;unfold Xld at e;cases e1:X8 S d with
   |none=>rw[e1]at e;cases e
   |some p =>
    rw[e1]at e;dsimp only at e;split at e
    ·rename_i hz
     simp only[bA0,decide_eq_true_eq]at hz;obtain⟨⟨⟨z1,z2⟩,z3⟩,z4⟩:=hz;cases e;obtain⟨as,rr,hoff⟩:=Xr8 I hsm e1 r1 ru;have hsz:p.shown.length<=Vw:=Yq (U4 (Xlu p z1 z2) z4);have ref:∀a,u=.ref a->Vf (Vk X.prog X.w) X.A (call (.builtin "repr") [u]) (OkP X pa σ ρ H (.ok (.str p.shown) S)) E s:=fun a ea=>by
      subst ea;exact repr_of_reads' rr z1 (fun _=>hoff) hg (by omega) (fun _ _ q=>q) (fun h' u tk hk=>Xe0 I.sr (I.inv.kept hk)) hsz
     cases rr with
     |none=>exact PySem.P.repr_of_none (Xe0 I.sr (I.inv.tok _))
     |bool b=>exact PySem.P.repr_of_bool (by cases b<;>exact Xe0 I.sr (I.inv.tok _))
     |int i t=>exact PySem.P.repr_of_int (by simpa only[Va5,decide_eq_true_eq] using z1) (Xe0 I.sr (I.inv.tok _))
     |str x t=>exact PySem.P.repr_of_str (Xe0 I.sr (I.inv.tok _)) hsz
     |_=>exact ref _ rfl
    ·cases e
theorem X7v:BlR X .int (.type "int"):=by
 intro pa s σ H ρ S env ds vs us E I rd rv nb
 match ds,rd,nb with
 |[],_,nb=>exact aB0 rfl nb
 |d::_::_,_,nb=>cases d<;>exact aB0 rfl nb
 |[d],rd,nb =>
  obtain⟨v,rfl,r1⟩:=rd.one;obtain⟨u,rfl,ru⟩:=rv.one;cases d with
  |bl b =>
   simp only[RD]at r1;subst r1;cases ru;simp only[Xm];refine call_int_bool ?_;cases b<;>exact Y5 I.sr (I.inv.tok _)
  |_=>exact aB0 rfl nb
theorem Xek(x:Int):∀l:List Int,(Xf3 x l).Perm (x::l)
 |[]=>.refl _
 |y::r=>by
  simp only[Xf3];split
  ·exact .refl _
  ·exact(List.Perm.cons y (Xek x r)).trans (List.Perm.swap x y r)
theorem Yu:∀l:List Int,(Xal l).Perm l
 |[]=>.refl _
 |x::r=>(Xek x (Xal r)).trans (List.Perm.cons x (Yu r))
theorem Xor(x:Int):∀l:List Int,l.Pairwise (·<=·)->(Xf3 x l).Pairwise (·<=·)
 |[],_=>by simp[Xf3]
 |y::r,h=>by
  have ⟨h1,h2⟩:=Vc4.mp h;simp only[Xf3];split
  ·rename_i e
   refine Vc4.mpr ⟨fun z hz=>?_,h⟩
   rcases Vv.mp hz with rfl|hz
   ·exact e
   ·exact Int.le_trans e (h1 z hz)
  ·rename_i e
   refine Vc4.mpr ⟨fun z hz=>?_,Xor x r h2⟩
   rcases Vv.mp ((Xek x r).mem_iff.mp hz) with rfl|hz
   ·omega
   ·exact h1 z hz
theorem Xc5:∀l:List Int,(Xal l).Pairwise (·<=·)
 |[]=>Vd5
 |x::r=>Xor x _ (Xc5 r)
theorem Xbp:∀ {ns:List Int} {us:List Vb},Vals (ns.map V.int) us->Vdj us ns
 |[],_,.nil=>.nil
 |n::ns,_,.cons r t=>by obtain⟨k,rfl⟩:=r;exact .cons n k (Xbp t)
theorem Xak:∀ {ns:List Int} {us:List Vb},Vdj us ns->Vals (ns.map V.int) us
 |[],_,.nil=>.nil
 |_::ns,_,.cons n k t=>.cons ⟨_,rfl⟩ (Xak t)
theorem Xd1{K:Vg}{ρ:List Addr}{H:Hp}:∀ns:List Int,RDs K ρ H (ns.map D.int) (ns.map V.int)
 |[]=>by simp only[Ug,RDs]
 |n::ns=>by simp only[Ug,RDs];exact⟨_,_,rfl,by simp only[RD],Xd1 ns⟩
theorem Xm7{prog:V1}{w:V9}{A:Uu}{E:Vb->Vc->Prop}{s:Vc}{l:Addr}{vs:List Vb}{Q:List Vb->Vc->Prop}(hl:IsTup s.heap l vs.toArray)(hsz:vs.length<=Vw)
  (h:Q vs {s with heap:=(s.heap.push (Vaf "list" #[] 0)).update s.heap.objs.size (Uw (·++vs.toArray))}):Vf (Vk prog w) A (collect (.ref l)) Q E s:=by
 obtain⟨o,ho,hc,n,hd⟩:=id hl;unfold collect;refine Va (Vgt (Va4 entry_proto_collect' ?_));show Vf _ _ (do again (.builtin "list.__iadd__" ⟨[<- newList [],.ref l],[]⟩)) _ _ s
 refine Va (Vfx (Vd ⟨Vg5 _ (by decide+kernel),Va4 entry_list_iadd' ?_⟩))
 show Vf _ _ (Vax (.ref s.heap.objs.size) (.ref l) (.ref s.heap.objs.size)) _ _ {s with heap:=s.heap.push (Vaf "list" #[] 0)}
 unfold Vax;have ho':(s.heap.push (Vaf "list" #[] 0)).get? l=some o:=Ve _ ho;refine Va (Vdn (T := "tuple") ⟨o,ho',hc⟩ ?_);have ht:(Vci "tuple" == Vci "tuple")=true:=by rfl
 rw[iP0 (by rw[ht];simp)]
 refine Va (Vgj ho' hd (Va (Vgj (xs:=#[]) (n:=0) (Vm _ rfl) rfl ?_)));rw[iN0 (by simp)]
 refine Va (Vfw (xs:=#[]) (n:=0) (Vm _ rfl) rfl (Vd ?_) (Ul _) (by show(#[]++vs.toArray).size<=Vw+1;simp only[Array.size_append,Vp,Vco];omega))
 show Vf (Vk prog w) A (load s.heap.objs.size >>= _) Q E {s with heap:=(s.heap.push (Vaf "list" #[] 0)).update s.heap.objs.size (Uw (·++vs.toArray))}
 refine Va (Vfa (get?_update_seq (Vm _ rfl) _) ?_);show Vf _ _ (pure ((#[]:Array Vb)++vs.toArray).toList) Q E _;rw[show((#[]:Array Vb)++vs.toArray).toList=vs by simp]
 exact Vd h
theorem Xp8{prog:V1}{w:V9}{A:Uu}{E:Vb->Vc->Prop}{s:Vc}{l:Addr}{vs:List Vb}{ns:List Int}{Q:Vb->Vc->Prop}(hl:IsTup s.heap l vs.toArray)(hI:Vdj vs ns)(h64:vs.length<64)
  (h:∀(out:Array Vb) (ns':List Int),Vdj out.toList ns'->ns'.Perm ns->ns'.Pairwise (·<=·)->Q (.ref (s.heap.objs.size+1)) {s with heap:=sortedAll s.heap vs out}):Vf (Vk prog w) A (call (.builtin "sorted") [.ref l]) Q E s:=by
 refine Vey kind_sorted plain_sorted entry_sorted (args_sorted1 _) ?_;unfold Va2.«sorted»;refine Va (m:=checkCount "sorted" 1 1 _) (Vd (Va (Xm7 hl (by rw[Va7];omega) (Va (Vfx ?_ (by rw[Va7];omega))))))
 have hsz:((s.heap.push (Vaf "list" #[] 0)).update s.heap.objs.size (Uw (·++vs.toArray))).objs.size=s.heap.objs.size+1:=by rw[Vf1,size_push']
 have hoL:(((s.heap.push (Vaf "list" #[] 0)).update s.heap.objs.size (Uw (·++vs.toArray))).push (Vaf "list" vs.toArray 0)).get? (s.heap.objs.size+1)=some (Vaf "list" vs.toArray 0):=by rw[<- hsz];exact Vm _ rfl
 show Vf _ _ _ _ _ {s with heap:=((s.heap.push (Vaf "list" #[] 0)).update s.heap.objs.size (Uw (·++vs.toArray))).push (Vaf "list" vs.toArray 0)}
 rw[hsz];refine Va (Uz (Uk slot_list_sort ⟨_,hoL,rfl⟩ entry_list_sort (list_sort_tree hoL hI h64 fun out ns' a1 a2 a3=>⟨_,rfl,Vd ⟨_,rfl,h out ns' a1 a2 a3⟩⟩) (args_list_sort _)))
theorem Xva:BlR X .sorted (.builtin "sorted"):=by
 intro pa s σ H ρ S env ds vs us E I rd rv nb
 match ds,rd,nb with
 |[],_,nb=>exact aB0 rfl nb
 |d::_::_,_,nb=>cases d<;>exact aB0 rfl nb
 |[d],rd,nb =>
  obtain⟨v,rfl,r1⟩:=rd.one;obtain⟨u,rfl,ru⟩:=rv.one;simp only[Xm]at nb ⊢;cases e:Xx S d with
  |none=>rw[e]at nb;exact aB0 rfl nb
  |some xs =>
   rw[e]at nb;simp only[Vs]at nb ⊢;cases e2:Xl xs with
   |none=>rw[e2]at nb;exact aB0 rfl nb
   |some ns =>
    rw[e2]at nb;dsimp only at nb ⊢;split at nb
    ·rename_i hz
     rw[iP0 hz];simp only[bA0,decide_eq_true_eq]at hz;have q:=Y6 e2;subst q;cases d with
     |ref n =>
      obtain⟨a,ws,rfl,ha,hv,hr⟩:=I.lstR e r1;obtain⟨hle,its,k,rvs,eo⟩:=(show ObjOk X.prog X.w H s.heap a (.lst ws) from I.inv.hok a _ hv);have hw:=hr.ints_of;subst hw;cases ru;have hI:=Xbp rvs;have hlen:its.length=ns.length:=by rw[<- rvs.length];simp
      refine sorted_ints ⟨_,eo,rfl,k,rfl⟩ hI (by omega) fun out ns' a1 a2 a3=>?_
      have hns:ns'=Xal ns:=PySem.W.ksm_same (a2.trans (Yu ns).symm) a3 (Xc5 ns);subst hns;obtain⟨e3,he3⟩:=sortedAll_at s.heap its out;have hnew:s.heap.objs.size<=s.heap.objs.size+1:=Vdi _;have J:=I.inv.laid (o:=.lst ((Xal ns).map V.int)) (t':=s.toks) (h':=sortedAll s.heap its out) (fun b u hb=>sortedAll_old hb) hnew
       ⟨by rw[Vj,(Yu ns).length_eq];simpa using hle,out.toList,e3,Xak a1,by simpa [Vaf] using he3⟩
      exact Xac J (I.inv.hok.fresh hnew) I.sr (Xd1 _)
     |tup ds =>
      cases e;simp only[RD]at r1;obtain⟨b,zs,rfl,hs,hr⟩:=r1;have hw:=hr.ints_of;subst hw;cases ru;obtain⟨its,rvs,pt,hle⟩:=I.inv.tuple hs;have hI:=Xbp rvs;have hlen:its.length=ns.length:=by rw[<- rvs.length];simp
      refine Xp8 pt hI (by omega) fun out ns' a1 a2 a3=>?_
      have hns:ns'=Xal ns:=PySem.W.ksm_same (a2.trans (Yu ns).symm) a3 (Xc5 ns);subst hns;obtain⟨e3,he3⟩:=sortedAll_at s.heap its out;have hnew:s.heap.objs.size<=s.heap.objs.size+1:=Vdi _;have J:=I.inv.laid (o:=.lst ((Xal ns).map V.int)) (t':=s.toks) (h':=sortedAll s.heap its out) (fun b u hb=>sortedAll_old hb) hnew
       ⟨by rw[Vj,(Yu ns).length_eq];simpa using hle,out.toList,e3,Xak a1,by simpa [Vaf] using he3⟩
      exact Xac J (I.inv.hok.fresh hnew) I.sr (Xd1 _)
     |_=>cases hz.1
    ·exact aB0 rfl nb
theorem Xlv:∀ {bs:List Bool} {us:List Vb},Vals (bs.map V.bl) us->us=bs.map Veh
 |[],_,.nil=>rfl
 |b::bs,_,.cons r t=>by cases r;rw[Xlv t];rfl
theorem Xos{K:Vg}{ρ:List Addr}{H:Hp}:∀ {bs:List Bool} {ws:List V},RDs K ρ H (bs.map D.bl) ws->ws=bs.map V.bl
 |[],ws,h=>by simp only[Ug,RDs]at h;exact h
 |b::bs,ws,h=>by
  simp only[Ug,RDs]at h;obtain⟨v,r,rfl,h1,h2⟩:=h;simp only[RD]at h1;subst h1;rw[Xos h2];rfl
theorem Xso(I:S0 X pa σ H s ρ S env){n:Nat}{xs:List D}{bs:List Bool}{v:V}(h:Xc S n=some xs)(hb:Yb xs=some bs)(r:RD X.K ρ H (.ref n) v):∃a k,v=.ref a/\s.heap.get? a=some {cls:=.type "list",data:=.seq (bs.map Veh).toArray k}:=by
 obtain⟨a,ws,rfl,ha,hv,hr⟩:=I.lstR h r;obtain⟨_,its,k,rv,e⟩:=(show ObjOk X.prog X.w H s.heap a (.lst ws) from I.inv.hok a _ hv);have e1:=Xau hb;subst e1;have e2:=Xos hr;subst e2;rw[Xlv rv]at e;exact⟨a,k,rfl,e⟩
theorem Xsp(hk:k=.count\/k=.index)(nb:Xab k d ds S≠.bad):∃n b,d=.ref n/\ds=[.bl b]:=by
 rcases hk with rfl|rfl<;>(
  cases d with
  |ref n =>
   cases ds with
   |nil=>exact aB0 rfl nb
   |cons x r =>
    cases r with
    |nil =>
     cases x with
     |bl b=>exact⟨n,b,rfl,rfl⟩
     |_=>exact aB0 rfl nb
    |cons _ _=>cases x<;>exact aB0 rfl nb
  |_=>cases ds<;>exact aB0 rfl nb)
theorem Xzl:MtD X .count "list.count" := by
 intro pa s σ H ρ S env d v u ds vs us E I rd rv rds rvs nb;obtain⟨n,b,rfl,rfl⟩:=Xsp (.inl rfl) nb;obtain⟨y,rfl,r1⟩:=rds.one;simp only[RD]at r1;subst r1;obtain⟨w,rfl,rw1⟩:=rvs.one;cases rw1;simp only[Xab]at nb ⊢;cases e:Xc S n with
 |none=>rw[e]at nb;exact aB0 rfl nb
 |some xs =>
  rw[e]at nb;simp only[Vs]at nb ⊢;cases e2:Yb xs with
  |none=>rw[e2]at nb;exact aB0 rfl nb
  |some bs =>
   dsimp only;obtain⟨a,k,rfl,ha⟩:=Xso I e e2 rd;cases rv;refine Vej PySem.F.slot_list_count ⟨_,ha,rfl⟩ PySem.F.entry_list_count (PySem.F.args_list_count_2 _ _) (SeqAt.list_countAt a _ k none #[] (.bool b) fun y=>match y with | .bool c=>c==b|_=>false) ⟨ha,fun y hy=>?_,?_⟩
   ·have hy':y∈bs.map Veh:=by simpa using hy
    obtain⟨c,_,rfl⟩:=Uh.mp hy';exact SeqAt.EqAt.bool_bool c b
   ·have ec:(bs.map Veh).countP (fun y=>match y with | .bool c=>c==b|_=>false)=bs.countP (· == b):=by rw[List.countP_map];rfl
    simp only[List.toList_toArray]at *;rw[ec];exact Y5 I.sr (I.inv.tok _)
theorem Xzm:MtD X .index "list.index" := by
 intro pa s σ H ρ S env d v u ds vs us E I rd rv rds rvs nb;obtain⟨n,b,rfl,rfl⟩:=Xsp (.inr rfl) nb;obtain⟨y,rfl,r1⟩:=rds.one;simp only[RD]at r1;subst r1;obtain⟨w,rfl,rw1⟩:=rvs.one;cases rw1;simp only[Xab]at nb ⊢;cases e:Xc S n with
 |none=>rw[e]at nb;exact aB0 rfl nb
 |some xs =>
  rw[e]at nb;simp only[Vs]at nb ⊢;cases e2:Yb xs with
  |none=>rw[e2]at nb;exact aB0 rfl nb
  |some bs =>
   rw[e2]at nb;dsimp only at nb ⊢;cases e3:bs.findIdx? (· == b) with
   |none=>rw[e3]at nb;exact aB0 rfl nb
   |some i =>
    dsimp only;obtain⟨a,k,rfl,ha⟩:=Xso I e e2 rd;cases rv;obtain⟨hi,h1,h2⟩:=Vfr.mp e3;have hsz:bs.length<=Vw:=by
     obtain⟨a',ws,_,_,hv,hr⟩:=I.lstR e rd;obtain⟨z,_⟩:=(show ObjOk X.prog X.w H s.heap a' (.lst ws) from I.inv.hok a' _ hv);rw[<- hr.length,Xau e2,Vj]at z;exact z
    have hsm:(i:Int)<2^63-1:=by
     have:Vw<2^62:=by decide
     have e62:(2:Int)^63-1=9223372036854775807:=by decide
     have e63:(2:Nat)^62=4611686018427387904:=by decide
     omega
    refine Vej PySem.F.slot_list_index ⟨_,ha,rfl⟩ PySem.F.entry_list_index (PySem.F.args_list_index_2 _ _) (SeqAt.list_indexAt a (bs.map Veh).toArray k none #[] (.bool b) (fun y=>match y with | .bool c=>c==b|_=>false) i (by simpa using hi) hsm (by simpa using h1) fun m hm hlt=>?_) ⟨ha,fun y hy=>?_,Y5 I.sr (I.inv.tok _)⟩
    ·have:=h2 m hlt
     simpa using this
    ·have hy':y∈bs.map Veh:=by simpa using hy
     obtain⟨c,_,rfl⟩:=Uh.mp hy';exact SeqAt.EqAt.bool_bool c b
end
theorem Xot{α:Type}{cmp:Nat->Nat->(Bool->Vc->Prop)->Vc->Prop}{lt:Nat->Nat->Option Bool}{Q:α->Vc->Prop}(hc:∀i j b C,lt i j=some b->C b s->cmp i j C s) :
  ∀(t:PySem.W.KasT α) (r:α),Xct lt t=some r->Q r s->t.kasWp cmp Q s
 |.ret a,r,h,q=>by cases h;exact q
 |.ask i j k,r,h,q=>by
  simp only[Xct]at h;cases e:lt i j with
  |none=>rw[e]at h;cases h
  |some b =>
   rw[e]at h;exact hc i j b _ e (Xot hc (k b) r h q)
section
variable{prog:V1}{w:V9}{A:Uu}{E:Vb->Vc->Prop}{s:Vc}
theorem X3v(h:Q (decide (x<y)) s):Vf (Vk prog w) A (oneLt' b (.int x t) (.int y u)) Q E s:=by
 cases b with
 |true=>exact PySem.W.kat_lt_int h
 |false=>exact PySem.W.kat_one _ _ (lt_int (show PySem.W.BoolBack Q _ s from h))
theorem Xsq:∀(xs ys:List Int) (us vs:List Vb) (i:Nat),Vdj us xs->Vdj vs ys->Q (ltL xs ys) s->PySem.W.KatLex prog w A true (decide (us.length<vs.length)) Q (us.zip vs) i s
 |[],[],_,_,i,.nil,.nil,h=>h
 |[],_::_,_,_,i,.nil,.cons _ _ _,h=>h
 |_::_,[],_,_,i,.cons _ _ _,.nil,h=>h
 |_::xs,_::ys,_,_,i,.cons x t (vs:=us) ha,.cons y u (vs:=vs) hb,h=>by
  have hl:decide (us.length+1<vs.length+1)=decide (us.length<vs.length):=by
   by_cases z:us.length<vs.length
   ·rw[decide_eq_true z,decide_eq_true (by omega)]
   ·rw[decide_eq_false z,decide_eq_false (by omega)]
  simp only[Uc,List.zip_cons_cons,hl];simp only[ltL]at h;refine PySem.W.kat_cons (wpAny_eqBool_int (PySem.W.kat_go (fun e=>?_) fun e=>?_))
  ·rw[iP0 (eq_of_beq e)]at h
   exact PySem.W.kat_yes (Xsq xs ys us vs (i+1) ha hb h)
  ·rw[iN0 (fun z=>by rw[z,beq_self_eq_true]at e;cases e)]at h
   exact PySem.W.kat_no (X3v h)
theorem X3w {vs:List Vb} {n:Nat} {lt:Nat->Nat->Option Bool} {out:Array Vb} {P:PySem.Fin->Vc->Prop} (ho:s.heap.get? a=some (Vaf "list" vs.toArray n)) (h64:vs.length<64)
  (hk:2<=vs.length->∀h':Heap,(∀b o,b≠a->s.heap.get? b=some o->h'.get? b=some o)->∀Q':SortKind->Vc->Prop,Q' κ {s with heap:=h' }->Vf (Vk prog w) A (keyKind' vs.toArray) Q' E {s with heap:=h' })
  (hc:∀h':Heap,(∀b o,b≠a->s.heap.get? b=some o->h'.get? b=some o)->∀i j b C,lt i j=some b->C b {s with heap:=h' }->PySem.W.kas_ask prog w A κ vs i j C {s with heap:=h' })
  (h1:vs.length<2->out=vs.toArray) (h2:2<=vs.length->∃p,Xct lt (Vem vs.length)=some p/\out=(p.toList.map fun i=>vs.getD i U1).toArray)
  (hsz:out.size=vs.length) (h:P (.done (.ret .none)) {s with heap:=sortedHeap s.heap a vs out}):Vf (Vk prog w) A (Va2.«list.sort» ⟨[.ref a],[]⟩) P E s:=by
 have lim:vs.length<=Vw:=by rw[Va7];omega
 have lt0:a<s.heap.objs.size:=Vu ho;obtain⟨e1,o1⟩:∃e1,(s.heap.update a (Uw fun _=>(#[]:Array Vb))).get? a=some (Vaf "list" #[] e1):=⟨_,get?_update_seq ho fun _=>#[]⟩
 have up:∀b o,(s.heap.update a (Uw fun _=>(#[]:Array Vb))).get? b=some o->(((s.heap.update a (Uw fun _=>(#[]:Array Vb))).push (Vaf "tuple" vs.toArray 0)).push (Vaf "list" #[] 0)).get? b=some o:=fun b o q=>Ve _ (Ve _ q)
 have kp:∀b o,b≠a->s.heap.get? b=some o->(((s.heap.update a (Uw fun _=>(#[]:Array Vb))).push (Vaf "tuple" vs.toArray 0)).push (Vaf "list" #[] 0)).get? b=some o:=fun b o hb q=>up b o ((Heap.get?_update_ne _ _ _ _ hb).trans q)
 have o2:=up a _ o1;rw[list_sort_plain];refine Va (Vgj ho rfl (Va (Vfw ho rfl (Va (seqEpoch_at o1 rfl (Va (Vgv (Va (Vfx (Uz ?_) (Ul _))) (by show vs.length<=_;exact lim))))) (by rw[Vp];exact lim) (Ul _))))
 change Vf (Vk prog w) A _ P E {s with heap:=((s.heap.update a (Uw fun _=>(#[]:Array Vb))).push (Vaf "tuple" vs.toArray 0)).push (Vaf "list" #[] 0)}
 dsimp only;have zz:vs.toArray.size=vs.length:=Vp
 by_cases q:vs.length<2
 ·have q':vs.toArray.size<2:=by rw[zz];exact q
  have em:(arrOf (SortSt.mk' general' (vs.toArray.zip vs.toArray) #[] 7 none)).map (·.2)=out:=by
   rw[h1 q];show(vs.toArray.zip vs.toArray).map (·.2)=_;apply Array.toList_inj.mp;rw[Array.toList_map,Array.toList_zip,List.map_snd_zip (Vl _)]
  rw[iP0 q',iP0 q'];refine Va (Vd ?_);rw[StateT.run_pure];refine Va (Vd (Va (seqEpoch_at o2 rfl (Va (Vfw o2 rfl ?_ (Ul _) (by rw[em,hsz];omega))))))
  rw[em,bne_self_eq_false];exact Vd h
 ·have q':¬ vs.toArray.size<2:=by rw[zz];exact q
  obtain⟨p,hp,ep⟩:=h2 (by omega)
  rw[iN0 q',iN0 q'];refine Va (hk (by omega) _ kp _ (Va (Vn (PySem.W.kat_run (ks:=vs) (κ:=κ) (E:=E) (Q:=fun st s'=>(arrOf st).map (·.2)=out/\failedOf st=none/\s'={s with heap:=((s.heap.update a (Uw fun _=>(#[]:Array Vb))).push (Vaf "tuple" vs.toArray 0)).push (Vaf "list" #[] 0)})
   (G:=fun r s'=>r=p/\s'={s with heap:=((s.heap.update a (Uw fun _=>(#[]:Array Vb))).push (Vaf "tuple" vs.toArray 0)).push (Vaf "list" #[] 0)}) rfl (by omega) h64
   (fun r st s' _ k2 k3 ⟨k4,k5⟩=>by subst k4;exact⟨by rw[ep];exact PySem.W.kat_snds rfl k2,k3,k5⟩) (Xot (hc _ kp) _ p hp ⟨rfl,rfl⟩)) ?_ fun _ _ z=>z)))
  rintro ⟨⟨⟩,st⟩ s' ⟨k1,k2,rfl⟩
  dsimp only at k1 k2 ⊢;refine Va (seqEpoch_at o2 rfl (Va (Vfw o2 rfl ?_ (Ul _) (by rw[k1,hsz];omega))))
  rw[k1,k2,bne_self_eq_false];exact Vd h
theorem Xsr(hl:s.heap.IsList l vs.toArray)(h64:vs.length<64)
  (hk:∀(A:Uu) (E:Vb->Vc->Prop),2<=vs.length->∀h':Heap,(∀b o,s.heap.get? b=some o->h'.get? b=some o)->∀Q':SortKind->Vc->Prop,Q' κ {s with heap:=h' }->Vf (Vk prog w) A (keyKind' vs.toArray) Q' E {s with heap:=h' })
  (hc:∀(A:Uu) (h':Heap),(∀b o,s.heap.get? b=some o->h'.get? b=some o)->∀i j b C,lt i j=some b->C b {s with heap:=h' }->PySem.W.kas_ask prog w A κ vs i j C {s with heap:=h' })
  (h1:vs.length<2->out=vs.toArray) (h2:2<=vs.length->∃p,Xct lt (Vem vs.length)=some p/\out=(p.toList.map fun i=>vs.getD i U1).toArray)
  (hsz:out.size=vs.length) (h:Q (.ref (s.heap.objs.size+1)) {s with heap:=sortedAll s.heap vs out}):Vf (Vk prog w) A (call (.builtin "sorted") [.ref l]) Q E s:=by
 have lim:vs.length<=Vw:=by rw[Va7];omega
 have sz:((s.heap.push (Vaf "list" #[] 0)).update s.heap.objs.size (Uw (·++vs.toArray))).objs.size=s.heap.objs.size+1:=by rw[Vf1,size_push']
 have oL:(((s.heap.push (Vaf "list" #[] 0)).update s.heap.objs.size (Uw (·++vs.toArray))).push (Vaf "list" vs.toArray 0)).get? (s.heap.objs.size+1)=some (Vaf "list" vs.toArray 0):=sz▸Vm _ rfl;have old:∀b o,s.heap.get? b=some o->b≠s.heap.objs.size+1/\(((s.heap.push (Vaf "list" #[] 0)).update s.heap.objs.size (Uw (·++vs.toArray))).push (Vaf "list" vs.toArray 0)).get? b=some o:=fun b o q=>by
  have lt:=Vu q;exact⟨V8 (Va0 lt),Ve _ ((Heap.get?_update_ne _ _ _ _ (V8 lt)).trans (Ve _ q))⟩
 refine Vey kind_sorted plain_sorted entry_sorted (args_sorted1 _) ?_;unfold Va2.«sorted»;refine Va (m:=checkCount "sorted" 1 1 _) (Vd (Va (collect_list hl (Va (Vfx ?_ (by show vs.length<=_;exact lim))) lim)))
 change Vf _ _ _ _ _ {s with heap:=((s.heap.push (Vaf "list" #[] 0)).update s.heap.objs.size (Uw (·++vs.toArray))).push (Vaf "list" vs.toArray 0)}
 rw[sz];refine Va (Uz (Uk slot_list_sort ⟨_,oL,rfl⟩ entry_list_sort (X3w (κ:=κ) (lt:=lt) oL h64 (fun g h' kp=>hk _ _ g h' fun b o q=>kp b o (old b o q).1 (old b o q).2) (fun h' kp=>hc _ h' fun b o q=>kp b o (old b o q).1 (old b o q).2) h1 h2 hsz ⟨_,rfl,?_⟩) (args_list_sort _)))
 exact Vd ⟨_,rfl,h⟩
end
def Row(h:Heap)(k:List Int)(u:Vb):Prop:=∃a us,u=.ref a/\IsTup h a us.toArray/\Vdj us k
theorem Row.keep(r:Row h k u)(kp:∀b o,h.get? b=some o->h'.get? b=some o):Row h' k u:=by
 obtain⟨a,us,e,⟨o,ho,hc⟩,hi⟩:=r;exact⟨a,us,e,⟨o,kp _ _ ho,hc⟩,hi⟩
theorem Xel:∀ {xs:List D} {ks:List (List Int)},Xaq xs=some ks->xs=ks.map fun k=>.tup (k.map D.int)
 |[],ks,h=>by cases h;rfl
 |x::xs,ks,h=>by
  cases x with
  |tup ds =>
   simp only[Xaq]at h;cases e:Xl ds with
   |none=>rw[e]at h;cases h
   |some k =>
    rw[e]at h;dsimp only at h;cases e2:Xaq xs with
    |none=>rw[e2]at h;cases h
    |some r =>
     rw[e2]at h;cases h;rw[Y6 e,Xel e2];rfl
  |_=>cases h
theorem Xlw:∀(ks:List (List Int)) (its:List Vb),its.length=ks.length->(∀(i:Nat) (k:List Int),ks[i]?=some k->∃u,its[i]?=some u/\Row h k u)->ks.all (fun k=>!k.isEmpty)=true->∃fs,PySem.W.KatTups h its fs/\fs.length=its.length/\∀v∈fs,∃n t,v=Vf6 n t
 |[],its,hl,_,_=>by
  cases its with
  |nil=>exact⟨[],.nil,rfl,fun v hv=>by cases hv⟩
  |cons _ _=>simp at hl
 |k::ks,its,hl,hr,hn=>by
  cases its with
  |nil=>simp at hl
  |cons u its =>
   rw[Vbq,bA0]at hn;obtain⟨u',eu,a,us,rfl,⟨o,ho,hc,n,hd⟩,hi⟩:=hr 0 k rfl;cases eu;obtain⟨fs,f1,f2,f3⟩:=Xlw ks its (by simpa using hl) (fun i k' hk=>hr (i+1) k' hk) hn.2
   cases hi with
   |nil=>simp at hn
   |cons x t hi' =>
    refine⟨.int x t::fs,.cons ho hc hd rfl f1,by simp[f2],fun v hv=>?_⟩
    rcases Vv.mp hv with rfl|hv
    ·exact⟨x,t,rfl⟩
    ·exact f3 v hv
theorem Xh0{α:Type}{l:List α}{i:Nat}{x d:α}(h:l[i]?=some x):l.getD i d=x:=by rw[Vcc,h];rfl
section
variable{X:Cx}{pa:List (Addr×Obj)}{σ:L2.St}{H:Hp}{s:Vc}{ρ:List Addr}{S S':Sto}{env:En}
theorem Xou{ks:List (List Int)}{ws:List V}{its:List Vb}(hr:RDs X.K ρ H (ks.map fun k=>.tup (k.map D.int)) ws)(hv:Vals ws its):∀(p:List Nat) (r:List (List Int)),Xdu ks p=some r ->
  ∃zs,RDs X.K ρ H (r.map fun k=>.tup (k.map D.int)) zs/\Vals zs (p.map fun i=>its.getD i U1)/\zs.length=p.length
 |[],r,h=>by cases h;exact⟨[],.nil,.nil,rfl⟩
 |i::p,r,h=>by
  simp only[Xdu]at h;cases e:ks[i]? with
  |none=>rw[e]at h;cases h
  |some k =>
   rw[e]at h;dsimp only at h;cases e2:Xdu ks p with
   |none=>rw[e2]at h;cases h
   |some r' =>
    rw[e2]at h;cases h;obtain⟨zs,z1,z2,z3⟩:=Xou hr hv p r' e2;obtain⟨v,hv1,hd⟩:=hr.get (i:=i) (d:=.tup (k.map D.int)) (by rw[Vx,e];rfl)
    obtain⟨u,hu,ru⟩:=hv.get hv1;refine⟨v::zs,.cons hd z1,?_,by simp[z3]⟩
    rw[Vab,Xh0 hu];exact .cons ru z2
theorem X7w:BlR X .srt (.builtin "sorted"):=by
 intro pa s σ H ρ S env ds vs us E I rd rv nb
 match ds,rd,nb with
 |[],_,nb=>exact aB0 rfl nb
 |d::_::_,_,nb=>cases d<;>exact aB0 rfl nb
 |[d],rd,nb =>
  obtain⟨v,rfl,r1⟩:=rd.one;obtain⟨u,rfl,ru⟩:=rv.one;cases d with
  |ref n =>
   simp only[Xm]at nb ⊢;cases e:Xc S n with
   |none=>rw[e]at nb;exact aB0 rfl nb
   |some xs =>
    rw[e]at nb;simp only[Vs]at nb ⊢;cases e2:Xaq xs with
    |none=>rw[e2]at nb;exact aB0 rfl nb
    |some ks =>
     rw[e2]at nb;dsimp only at nb ⊢;cases e3:Xay ks with
     |none=>rw[e3]at nb;exact aB0 rfl nb
     |some r =>
      dsimp only;have q:=Xel e2;subst q;obtain⟨a,ws,rfl,ha,hv,hr⟩:=I.lstR e r1;obtain⟨hle,its,c,rvs,eo⟩:=(show ObjOk X.prog X.w H s.heap a (.lst ws) from I.inv.hok a _ hv);cases ru;have hl1:its.length=ks.length:=by rw[<- rvs.length,<- hr.length,Vj]
      have rows:∀(i:Nat) (k:List Int),ks[i]?=some k->∃u,its[i]?=some u/\Row s.heap k u:=fun i k hk=>by
       obtain⟨v,hv1,hd⟩:=hr.get (i:=i) (d:=.tup (k.map D.int)) (by rw[Vx,hk];rfl)
       obtain⟨u,hu,ru⟩:=rvs.get hv1;simp only[RD]at hd;obtain⟨b,zs,rfl,hs,hz⟩:=hd;have ez:=hz.ints_of;subst ez;cases ru;obtain⟨us,h1,h2,_⟩:=I.inv.tuple hs;exact⟨_,hu,b,us,rfl,h2,Xbp h1⟩
      have key:ks.length<64/\∃(out:Array Vb) (zs:List V),RDs X.K ρ H (r.map fun k=>.tup (k.map D.int)) zs/\Vals zs out.toList/\out.size=its.length/\(its.length<2->out=its.toArray)/\(2<=its.length->(ks.all fun k=>!k.isEmpty)=true/\∃p,Xct (ltK ks) (Vem its.length)=some p/\out=(p.toList.map fun i=>its.getD i U1).toArray):=by
       unfold Xay at e3
       by_cases h2:ks.length<2
       ·rw[iP0 h2]at e3
        cases e3;exact⟨by omega,its.toArray,ws,hr,rvs,by simp,fun _=>rfl,fun z=>by omega⟩
       ·rw[iN0 h2]at e3
        split at e3
        ·rename_i hc
         simp only[bA0,decide_eq_true_eq]at hc;cases e4:Xct (ltK ks) (Vem ks.length) with
         |none=>rw[e4]at e3;cases e3
         |some p =>
          rw[e4]at e3;simp only[Vs]at e3;split at e3
          case isFalse=>cases e3
          rename_i hps
          obtain⟨zs,z1,z2,z3⟩:=Xou hr rvs p.toList r e3;exact⟨hc.1,(p.toList.map fun i=>its.getD i U1).toArray,zs,z1,z2,by simp[hps,hl1],fun z=>by omega,fun _=>⟨hc.2,p,by rw[hl1];exact e4,rfl⟩⟩
        ·cases e3
      obtain⟨h64,out,zs,z1,z2,z0,z3,z4⟩:=key;have looks:∀(M:Model) (h:Heap) (v:Vb),(∃n t,v=Vf6 n t)->PySem.W.Looks M h (typeOf v) (.type "int"):=fun M h v z=>by obtain⟨n,t,rfl⟩:=z;exact .now
      refine Xsr (κ:=tuples' true) (lt:=ltK ks) (out:=out) ⟨_,eo,rfl,c,rfl⟩ (by omega) (fun A E g h' kp Q' hq=>?_) (fun A h' kp i j b C hb hC=>?_) z3 (fun g=>(z4 g).2) z0 ?_
      ·obtain⟨fs,f1,f2,f3⟩:=Xlw (h:=h') ks its hl1 (fun i k hk=>let ⟨u,hu,hr⟩:=rows i k hk;⟨u,hu,hr.keep kp⟩) (z4 g).1
       exact PySem.W.kat_kind (T:=.type "int") f1 (by omega) (fun v hv=>looks _ _ v (f3 v hv)) rfl hq
      ·unfold ltK at hb
       cases e5:ks[i]? with
       |none=>rw[e5]at hb;cases hb
       |some k =>
        rw[e5]at hb;dsimp only at hb;cases e6:ks[j]? with
        |none=>rw[e6]at hb;cases hb
        |some k' =>
         rw[e6]at hb;cases hb;obtain⟨u,hu,hr1⟩:=rows i k e5;obtain⟨u',hu',hr2⟩:=rows j k' e6;obtain⟨a1,us1,rfl,⟨o1,ho1,hc1,n1,hd1⟩,hi1⟩:=hr1.keep kp;obtain⟨a2,us2,rfl,⟨o2,ho2,hc2,n2,hd2⟩,hi2⟩:=hr2.keep kp;unfold PySem.W.kas_ask;rw[Xh0 hu,Xh0 hu'];refine PySem.W.kat_lt ho1 hd1 ho2 hd2 ?_;simp only[Vp];exact Xsq k k' us1 us2 0 hi1 hi2 hC
      ·obtain⟨e8,he8⟩:=sortedAll_at s.heap its out
       have hnew:s.heap.objs.size<=s.heap.objs.size+1:=Vdi _;have J:=I.inv.laid (o:=.lst zs) (t':=s.toks) (h':=sortedAll s.heap its out) (fun b u hb=>sortedAll_old hb) hnew
        ⟨by rw[z2.length,Ub,z0,Va7];omega,out.toList,e8,z2,by simpa [Vaf] using he8⟩
       exact Xac J (I.inv.hok.fresh hnew) I.sr z1
  |_=>exact aB0 rfl nb
end
end Z
end
section
namespace Z
open PySem PySem.W PyProof.Rows
def GoodK{α:Type}(n:Nat)(P:α->Prop):KasT α->Prop
 |.ret a=>P a
 |.ask i j k=>i<n/\j<n/\∀b,GoodK n P (k b)
theorem GoodK.run{α:Type}{n:Nat}{P:α->Prop}{lt:Nat->Nat->Option Bool}(hl:∀i j,i<n->j<n->∃b,lt i j=some b):∀t:KasT α,GoodK n P t->∃r,Xct lt t=some r/\P r
 |.ret a,h=>⟨a,rfl,h⟩
 |.ask i j k,h=>by
  obtain⟨b,e⟩:=hl i j h.1 h.2.1;obtain⟨r,e2,p⟩:=GoodK.run hl (k b) (h.2.2 b);exact⟨r,by simp only[Xct,e];exact e2,p⟩
theorem GoodK.bind{α β:Type}{n:Nat}{P:α->Prop}{Q:β->Prop}{f:α->KasT β}(hf:∀a,P a->GoodK n Q (f a)):∀t:KasT α,GoodK n P t->GoodK n Q (t.bind f)
 |.ret a,h=>hf a h
 |.ask i j k,h=>⟨h.1,h.2.1,fun b=>GoodK.bind hf (k b) (h.2.2 b)⟩
def PA(n:Nat)(p:Array Nat):Prop:=p.toList.Perm (V0 n)
theorem PA.lt{n:Nat}{p:Array Nat}(h:PA n p)(hn:0<n)(i:Nat):p.getD i 0<n:=by
 by_cases c:i<p.size
 ·have:p.getD i 0∈p.toList:=by simp[Vcn,c]
  exact Vb2.mp (h.mem_iff.mp this)
 ·simp[Vcn,c];exact hn
theorem PA.mir{n:Nat}{p:Array Nat}(h:PA n p)(i j:Nat):PA n (kas_rev p i j):=(Vhc.mp (mirror_perm p i j _)).trans h
theorem PA.bub{n:Nat}{p:Array Nat}(h:PA n p)(i j:Nat):PA n (bubble p i j):=(Vhc.mp (bubble_perm p i j)).trans h
section
variable{n:Nat}(hn:0<n)
include hn
theorem Xp9{p:Array Nat}(h:PA n p):∀f m,GoodK n (fun _=>True) (kas_asc p f m)
 |0,m=>trivial
 |f+1,m=>⟨h.lt hn _,h.lt hn _,fun b=>by
  cases b
  ·exact Xp9 h f (m+1)
  ·exact trivial⟩
theorem Xgy:∀f p m q,PA n p->GoodK n (fun r=>PA n r.1) (kas_desc f p m q)
 |0,p,m,q,h=>h
 |f+1,p,m,q,h=>by
  refine⟨h.lt hn _,h.lt hn _,fun b=>?_⟩
  cases b with
  |true =>
   simp only[if_true];split
   ·exact Xgy f _ _ _ (h.mir _ _)
   ·exact Xgy f _ _ _ h
  |false =>
   simp only[V2,if_false];refine⟨h.lt hn _,h.lt hn _,fun c=>?_⟩
   cases c with
   |true=>exact h
   |false=>exact Xgy f _ _ _ h
theorem Xss{p:Array Nat}(h:PA n p)(m r:Nat):GoodK n (fun x=>PA n x.2) (kas_tail3 m r p):=by
 refine GoodK.bind (P:=fun _=>True) (fun x _=>?_) _ (Xp9 hn (h.mir _ _) _ _)
 exact PA.mir h _ _
theorem Xov{p:Array Nat}(h:PA n p)(m r:Nat):GoodK n (fun x=>PA n x.2) (kas_descPart m r p):=by
 refine GoodK.bind (P:=fun r=>PA n r.1) (fun x hx=>?_) _ (Xgy hn _ _ _ _ h)
 split
 ·exact Xss hn (PA.mir hx _ _) _ _
 ·exact Xss hn hx _ _
theorem Xzn{p:Array Nat}(h:PA n p)(r:Nat):GoodK n (fun x=>PA n x.2) (kas_count r p):=by
 refine GoodK.bind (P:=fun _=>True) (fun m _=>?_) _ (Xp9 hn h _ _)
 split
 ·exact h
 ·split
  ·refine⟨h.lt hn _,h.lt hn _,fun b=>?_⟩
   cases b
   ·exact Xov hn (h.mir _ _) _ _
   ·exact h
  ·exact Xov hn h _ _
theorem Xh1{p:Array Nat}(h:PA n p)(k:Nat):∀f l r,GoodK n (fun _=>True) (kas_place p k f l r)
 |0,l,r=>trivial
 |f+1,l,r=>by
  unfold kas_place;split
  ·exact trivial
  ·refine⟨h.lt hn _,h.lt hn _,fun b=>?_⟩
   cases b
   ·exact Xh1 h k f _ _
   ·exact Xh1 h k f _ _
theorem Xx4:∀f p k,PA n p->GoodK n (PA n) (kas_bin f p k)
 |0,p,k,h=>h
 |f+1,p,k,h=>GoodK.bind (P:=fun _=>True) (fun l _=>Xx4 f _ _ (h.bub _ _)) _ (Xh1 hn h k _ _ _)
theorem X3x:GoodK n (PA n) (kas_sort n):=by
 refine GoodK.bind (P:=fun x=>PA n x.2) (fun x hx=>?_) _ (Xzn hn (show PA n (List.toArray (V0 n)) from Vdl _) n)
 split
 ·exact Xx4 hn _ _ _ hx
 ·exact hx
end
theorem Xlx{ks:List (List Int)}:∀p:List Nat,(∀i∈p,i<ks.length)->Xdu ks p=some (p.map fun i=>ks.getD i [])
 |[],_=>rfl
 |i::p,h=>by
  have hi:=h i Uo;simp only[Xdu,Vq hi,Xlx p fun j hj=>h j (Ua _ hj),Vy,Vab]
  simp[Vb0,hi]
theorem Xst:∀ks:List (List Int),(V0 ks.length).map (fun i=>ks.getD i [])=ks:=fun ks=>by
 refine List.ext_getElem (by simp) fun i h1 h2=>?_
 simp[Vb0]at h1 ⊢;simp[h1]
theorem Xsu(ks:List (List Int))(h64:ks.length<64)(hne:∀k∈ks,k≠[]):∃r,Xay ks=some r/\r.Perm ks:=by
 unfold Xay
 by_cases h2:ks.length<2
 ·rw[iP0 h2];exact⟨ks,rfl,Vdl _⟩
 ·rw[iN0 h2]
  have hc:(decide (ks.length<64)&&ks.all fun k=>!k.isEmpty)=true:=by
   rw[bA0,decide_eq_true_eq,Ux];refine⟨h64,fun k hk=>?_⟩
   cases k with
   |nil=>exact aB0 rfl (hne _ hk)
   |cons _ _=>rfl
  rw[iP0 hc];obtain⟨p,e,hp⟩:=GoodK.run (n:=ks.length) (P:=PA ks.length) (lt:=ltK ks) (fun i j hi hj=>⟨ltL ks[i] ks[j],by simp only[ltK,Vq hi,Vq hj]⟩) _ (X3x (by omega))
  have hsz:p.size=ks.length:=by rw[<- Ub,hp.length_eq,Vai]
  rw[e,Vs,iP0 hsz,Xlx _ fun i hi=>Vb2.mp (hp.mem_iff.mp hi)]
  refine⟨_,rfl,?_⟩;have:=hp.map fun i=>ks.getD i []
  rwa [Xst]at this
end Z
end
section
namespace Z
open PySem PySem.Spec PyProof.Rows L2
section
variable{prog:V1}{w:V9}{A:Uu}{E:Vb->Vc->Prop}{s:Vc}{k:Bool}{e it a:Addr}{n:Nat}{xs:Array Vb}{x:Vb}
end
section
variable{X:Cx}{pa:List (Addr×Obj)}{σ:L2.St}{ρ:List Addr}{S:Sto}
end
section
variable{X:Cx}{pa:List (Addr×Obj)}{σ:L2.St}{H H0:Hp}{s:Vc}{ρ ρ0:List Addr}{S S':Sto}{env:En}{K:Vg}{Da:Addr}
theorem Mon.ownE{φ:Heap->Prop}{u:HO}(hd:H Da=some (.ext φ)):Mon K ρ ρ H (L2.upd H Da u) where
 pre:=fun _ _ h=>h
 tup:=fun a xs h=>by
  rcases h with(h|⟨v,h⟩)|h
  ·exact .inl (.inl (by rw[Xh (fun z=>by subst z;rw[hd]at h;cases h)];exact h))
  ·exact .inl (.inr ⟨v,by rw[Xh (fun z=>by subst z;rw[hd]at h;cases h)];exact h⟩)
  ·exact .inr h
 frz:=fun a o u h=>by rw[Xh (fun z=>by subst z;rw[hd]at h;cases h)];exact h
theorem SR.ownE{φ:Heap->Prop}{u:HO}(r:SR K ρ S H)(hd:H Da=some (.ext φ))(hn:Da ∉ ρ):SR K ρ S (L2.upd H Da u) :=
 ⟨r.len,r.nd,fun n a ob h1 h2=>(r.ob n a ob h1 h2).mono' (Mon.ownE hd) (Xh fun z=>hn (by rw[<- z];exact Ur h1))⟩
theorem Stp.ownE{φ:Heap->Prop}{u:HO}(x:Stp K ρ0 ρ H0 H)(h0:H0 Da=none)(hd:H Da=some (.ext φ)):Stp K ρ0 ρ H0 (L2.upd H Da u) where
 pre:=x.pre
 tup:=fun a xs h=>(Mon.ownE (ρ:=ρ) hd).tup a xs (x.tup a xs h)
 frz:=fun a o u h=>(Mon.ownE (K:=K) (ρ:=ρ) hd).frz a o u (x.frz a o u h)
 new:=x.new
 keep:=fun a o h hn=>by rw[Xh (Xs h h0)];exact x.keep a o h hn
noncomputable def Xem(X:Cx)(Da:Addr)(ks:List Int):HO:=.ext fun h=>SetI X.prog X.w h Da (!byT X.w) ks
theorem Xh2{ks:List Int}{h:Heap}(S:SetI X.prog X.w h Da (!byT X.w) ks):ObjOk X.prog X.w H h Da (Xem X Da ks) :=
 ⟨S,let ⟨o,_,_,_,ho,_⟩:=S;⟨o,ho⟩,fun h1 h2 x k=>SetI.keep x k⟩
noncomputable def SetA(X:Cx)(Da:Addr):Xf8:=fun _ H acc=>∃ns ks,acc=ns.map D.int/\ks.Perm (ddI ns)/\H Da=some (Xem X Da ks)
theorem SetA.ok:Xgw X.K Da (SetA X Da):=fun ρ ρ' H H' acc ⟨ns,ks,e,p,h⟩ hn st=>⟨(st.out h hn).1,ns,ks,e,p,(st.out h hn).2⟩
theorem Xd2:∀l:List Int,Xl (l.map D.int)=some l
 |[]=>rfl
 |x::l=>by rw[Vab,Xl,Xd2 l];rfl
theorem Xzo{E:Vb->Vc->Prop}{A:Uu}{prog:V1}{w:V9}{ld:Bool}{ks:List Int}{k:Int}{tk:Tok}{Q:Vb->Vc->Prop}(S:SetI prog w s.heap Da ld ks)(hn:ks.length<60)
  (h:∀h' ks',Vac Da s.heap h'->SetI prog w h' Da ld ks'->(k∈ks/\ks'=ks)\/(k ∉ ks/\ks'.Perm (ks++[k]))->Q .none {s with heap:=h',toks:=s.toks+1}) :
  Vf (Vk prog w) A (call (.builtin "set.add") [.ref Da,.int k tk]) Q E s:=by
 have hT:s.TypeIs (.ref Da) "set" := by obtain⟨o,_,_,_,ho,hex,_⟩:=S;exact⟨o,ho,hex.1⟩
 refine Uk F.slot_set_add hT F.entry_set_add ?_ (F.args_set_add_2 _ _);unfold Va2.«set.add» Builtin.Frozenset.oneOther;simp only[List.isEmpty_nil,bind_assoc];unfold Builtin.Frozenset.addrOf;refine Va (Vd ?_)
 try dsimp only
 refine Va (Vd ?_)
 try dsimp only
 refine Va (Xof S hn fun h' ks' sb S' q=>?_)
 exact Vd ⟨_,rfl,h h' ks' sb S' q⟩
variable{elt:Expr}{gens:List Va3}{scope:Uv}{cpos:Pos}{fe:En->Sto->R D}{d:Nat}
theorem Xgz{Y:Cx}(hg:gens[d+1]?=none)(he:DE Y elt fe):Xbn true (SetA Y Da) Y Da elt gens scope cpos d (fun env acc S=>(fe env S).bind fun y S=>Xcs acc y S):=by
 intro pa s σ H ρ S S' env acc acc' H0 ρ0 P I hn ⟨ns,ks,ea,p,hD⟩ h0 st0 hb hP;subst ea;unfold Xhx;rw[hg];dsimp only at hb ⊢;cases q:fe env S with
 |bad=>rw[q]at hb;cases hb
 |ex n S1=>rw[q]at hb;cases hb
 |ok y S1 =>
  rw[q]at hb;simp only[Rk0]at hb;cases y with
  |int i =>
   simp only[Xcs,Xd2]at hb;split at hb
   ·rename_i hz
    cases hb;refine he.ok I q fun u s1 v H1 ρ1 I1 rv rd st1=>?_
    simp only[RD]at rd;subst rd;obtain⟨t,rfl⟩:=rv;obtain⟨hn1,hD1⟩:=st1.out hD hn;have S1':SetI Y.prog Y.w s1.heap Da (!byT Y.w) ks:=(I1.inv.hok Da _ hD1).1;refine Xzo S1' (by rw[p.length_eq];exact hz) fun h' ks' sb S2 q2=>?_
    have J:=I1.inv.write (x:=Da) (e:=Da) (o:=Xem Y Da ks') (t':=s1.toks+1) (h':=h') (by rw[hD1];trivial) (.inl rfl) (fun b u hb e=>(sb.2 b hb).trans e) (let ⟨o,_,_,_,ho,_⟩:=S2;⟨o,ho⟩) (Xh2 S2)
    have mo:Mon Y.K ρ1 ρ1 H1 (upd H1 Da (Xem Y Da ks')):=Mon.ownE hD1;refine hP _ σ _ ρ1 ⟨J,I1.sr.ownE hD1 hn1,I1.er.mono' mo⟩ hn1 ⟨ns++[i],ks',by simp,?_,X6⟩ ((st0.trans st1).ownE h0 hD1) ⟨fun n a h=>st1.pre n a h,fun a xs h=>mo.tup a xs (st1.tup a xs h),fun a o u h=>mo.frz a o u (st1.frz a o u h)⟩
    unfold ddI at p ⊢;rw[Vd6];show ks'.Perm (ddS (ns.foldl ddS []) i);unfold ddS at p ⊢;rcases q2 with⟨q1,rfl⟩|⟨q1,q2⟩
    ·rw[iP0 (p.mem_iff.mp q1)];exact p
    ·rw[iN0 (fun z=>q1 (p.mem_iff.mpr z))]
     exact q2.trans (p.append_right _)
   ·cases hb
  |_=>cases hb
theorem Xly{prog:V1}{w:V9}:∀ {es:List (Int×Vb)},ElemsOf (Vah prog w) es->Vdj (es.map (·.2)) (es.map fun e=>Xbh e.2)
 |[],_=>.nil
 |e::es,h=>by
  obtain⟨i,t,q⟩:=Xoe h Uo;simp only[Vab,q];exact .cons i t (Xly h.tail)
theorem Xg0{E:Vb->Vc->Prop}{ns ks:List Int}(hh:X.A.handled=none)(I:S0 X pa σ H s ρ S env)(hD:H Da=some (Xem X Da ks))(p:ks.Perm (ddI ns))(hz:(ddI ns).length<60) :
  Vf (Vk X.prog X.w) X.A (call (.builtin "sorted") [.ref Da]) (fun w s'=>OkP X pa σ ρ H (Xbt (ns.map D.int) S) w s') E s:=by
 obtain⟨o,es,ep,t,ho,hex,hd,hel,hks,T,hl⟩:=(show SetI X.prog X.w s.heap Da (!byT X.w) ks from(I.inv.hok Da _ hD).1);refine Vey kind_sorted plain_sorted entry_sorted (args_sorted1 _) ?_;unfold Va2.«sorted»;refine Va (m:=checkCount "sorted" 1 1 _) (Vd (Va (Xm4 (show X.A.in1.handled=none from hh) ho hex hd T hl fun h1 tk kp le=>?_)))
 have op:=Xcf X.w Da ep es;have len:(Xaa X.w Da ep es).length<60:=by
  rw[op.length_eq,<- Vj (f:=fun e=>Xbh e.2),<- hks,p.length_eq];exact hz
 have hel':ElemsOf (Vah X.prog X.w) (Xaa X.w Da ep es):=hel.perm op;have hI:=Xly hel';have pk:((Xaa X.w Da ep es).map fun e=>Xbh e.2).Perm (ddI ns):=(op.map fun e=>Xbh e.2).trans (hks▸p)
 generalize (Xaa X.w Da ep es).map (·.2)=vs at hI;have lv:vs.length<60:=by rw[hI.length,Vj];exact len
 generalize ((Xaa X.w Da ep es).map fun e=>Xbh e.2)=ms at hI pk
 refine Va (Vfx ?_ (by rw[Va7];omega))
 obtain⟨hp,g,dr,tk0,os⟩:=s
 replace kp:∀b u,hp.get? b=some u->h1.get? b=some u:=kp
 replace le:hp.objs.size<=h1.objs.size:=le
 show Vf _ _ _ _ _ ⟨h1.push (Vaf "list" vs.toArray 0),g,dr,tk,os⟩;have oL:(h1.push (Vaf "list" vs.toArray 0)).get? h1.objs.size=some (Vaf "list" vs.toArray 0):=Vm _ rfl;show Vf _ _ (Veu [.ref h1.objs.size] (call (.builtin "list.sort") [.ref h1.objs.size]) >>= _) _ _ _;refine Va (Uz (Uk slot_list_sort ⟨_,oL,rfl⟩ entry_list_sort (list_sort_tree oL hI (by omega) fun out ns' a1 a2 a3=>⟨_,rfl,Vd ⟨_,rfl,?_⟩⟩) (args_list_sort _)))
 have hns:ns'=Xal (ddI ns):=PySem.W.ksm_same ((a2.trans pk).trans (Yu _).symm) a3 (Xc5 _);subst hns;obtain⟨e3,he3⟩:=sortedHeap_at (out:=out) oL;have J:=I.inv.laid (o:=.lst ((Xal (ddI ns)).map V.int)) (t':=tk) (h':=sortedHeap (h1.push (Vaf "list" vs.toArray 0)) h1.objs.size vs out) (fun b u hb=>by
  have lb:b<h1.objs.size:=V6 (Vu hb) le;rw[sortedHeap_old (V8 lb) (by rw[size_push'];exact Va0 lb)]
  exact Ve _ (kp b u hb)) le
  ⟨by rw[Vj,(Yu _).length_eq,Va7];omega,out.toList,e3,Xak a1,by simpa [Vaf] using he3⟩
 have hres:Xbt (ns.map D.int) S=.ok (.ref S.length) (S++[.lst ((Xal (ddI ns)).map D.int)]):=by simp only[Xbt,Xd2,hz,if_true]
 rw[hres];exact Xac J (I.inv.hok.fresh le) I.sr (Xd1 _)
theorem Xvb (A:Uu) (E:Vb->Vc->Prop) (s:Vc) (Q:Vb->Vc->Prop) (h:Q (.ref s.heap.objs.size) {s with heap:=s.heap.push {cls:=.type "set",dict:=none,data:=.set #[] 0 (.fresh 0 0 (!byT X.w))} }):Vf (Vk X.prog X.w) A (newSet (.type "set")) Q E s:=by
 unfold newSet setsByText;refine Va (Va (Vcz (Vd ?_)));exact Uj h
variable{sc:Uv}{tg iter:Expr}{ifs:List Expr}{own:List Str}{t:Tg}{n:Nat}{fi:En->Sto->R Src}{tf:En->Sto->R Bool}{body:En->List D->Sto->R (List D)}
noncomputable def Xqa(fi:En->Sto->R Src)(t:Tg)(n:Nat)(tf:En->Sto->R Bool)(body:En->List D->Sto->R (List D))(env:En)(S:Sto):R D :=
 (fi env S).bind fun src S=>(X0 src.get t (Xz tf body) (src.most S+1) 0 (env++Vh n none) [] S).bind fun acc S=>Xbt acc S
theorem Xx5 {p0 pos:Pos} (hgl:Gl X "sorted") (hml:X.mg "sorted" = none) (hc:X.calm=true) (so:ScOk X.env.scope sc X.N own) (hon:own.length=n) (hg:gens=⟨tg,iter,ifs,0⟩::gens.tail) (hi:DI X tg iter fi) (hs:∀x,Vbf iter X.env x=pure x)
  (hG:∀pa s H cl C fp,DG (blk X pa s H sc cl C own fp) tg t) (hT:∀pa s H cl C fp,DTs (blk X pa s H sc cl C own fp) ifs tf) (hB:∀pa s H cl C fp Da,Xbn true (SetA X Da) (blk X pa s H sc cl C own fp) Da elt gens sc cpos 0 body) :
  DE X (.Call (.Name "sorted" p0) [.SetComp elt gens sc cpos] [] pos) (Xqa fi t n tf body):=by
 intro pa s σ H ρ S env I nb;have hfi:firstIter gens X.env=eval iter X.env:=by rw[hg];rfl
 have hfa:firstAsync gens=false:=by rw[hg];rfl
 refine Vad (Yj I.inv hgl hml (u:=.builtin "sorted") (by decide+kernel) (Vao (Vba ?_ rfl) rfl rfl) (by decide) rfl)
 rw[arm_eval_SetComp];dsimp only;rw[hfi,hfa];unfold Xqa at nb ⊢;cases q:fi env S with
 |bad=>rw[q]at nb;exact aB0 rfl nb
 |ex m S1=>exact Xhy (k:=true) so hg hi hs I q fun x s' z=>⟨m,S1,rfl,z⟩
 |ok src S1 =>
  rw[q]at nb;simp only[Rk0]at nb ⊢;cases q2:X0 src.get t (Xz tf body) (src.most S1+1) 0 (env++Vh n none) [] S1 with
  |bad=>rw[q2]at nb;exact aB0 rfl nb
  |ex m S2=>exact aB0 q2 (Xb2 _ _ _ _ _ _ _)
  |ok accf Sf =>
   rw[q2]at nb;simp only[Rk0]at nb ⊢;refine Xei (k:=true) (AR:=fun Da=>SetA X Da) (uA:=fun Da=>Xem X Da []) (fun Da=>SetA.ok) Xvb rfl (fun H h a e=>Xh2 (Xlq e)) (fun a ρ H z=>⟨[],[],rfl,Vdl _,z⟩) hc so hon hg hi hs hG hT hB I q q2 fun s' H' ρ' Da C m I' st' hn' h0 ha' hns hcells hCl hCn back=>?_
   obtain⟨ns,ks,rfl,p,hD'⟩:=ha';have hz:(ddI ns).length<60:=by
    by_cases c:(ddI ns).length<60
    ·exact c
    ·simp only[Xbt,Xd2,c,if_false]at nb
     exact aB0 rfl nb
   refine⟨m,hns,fun h' hs'=>Vbb ?_⟩
   have J:=back s' σ H' h' I'.inv hCn hs';exact Vn (Xg0 (E:=fun _ _=>False) (I'.inv.ok.hd hc) ⟨J,I'.sr,I'.er⟩ hD' p hz) (fun w s2 z=>z.pre st') fun _ _ z=>z.elim
theorem X7x {a:Expr} {f:En->Sto->R D} {p0 p2 pos pos2:Pos} (hc:X.calm=true) (hgl:Gl X "sorted") (hml:X.mg "sorted" = none) (hge:Gl X "set") (hme:X.mg "set" = none) (ha:DE X a f) (hs:V3 [a] X.env=(false,eval a X.env)::V3 [] X.env) :
  DE X (.Call (.Name "sorted" p0) [.Call (.Name "set" p2) [a] [] pos2] [] pos) (fun env S=>(f env S).bind fun x S=>match x with
   |.ref n=>match Xc S n with
    |some xs=>Xbt xs S
    |none=>.bad
   |_=>.bad):=by
 intro pa s σ H ρ S env I nb;dsimp only at nb ⊢;refine Vad (Yj I.inv hgl hml (u:=.builtin "sorted") (by decide+kernel) (Vao (Vba ?_ rfl) rfl rfl) (by decide) rfl)
 refine Vad (Yj I.inv hge hme (u:=.type "set") (by decide+kernel) (U2 (Vba ?_ hs) hs rfl) (by decide) rfl)
 cases q:f env S with
 |bad=>rw[q]at nb;exact aB0 rfl nb
 |ex n S1=>exact ha.ex I q fun x s' z=>⟨n,S1,rfl,z⟩
 |ok d S1 =>
  rw[q]at nb;simp only[Rk0]at nb ⊢;cases d with
  |ref k =>
   dsimp only at nb ⊢;cases e:Xc S1 k with
   |none=>rw[e]at nb;exact aB0 rfl nb
   |some xs =>
    rw[e]at nb;dsimp only at nb ⊢;cases e2:Xl xs with
    |none=>simp only[Xbt,e2]at nb;exact aB0 rfl nb
    |some ns =>
     have hz:(ddI ns).length<60:=by
      by_cases c:(ddI ns).length<60
      ·exact c
      ·simp only[Xbt,e2,c,if_false]at nb
       exact aB0 rfl nb
     have qx:=Y6 e2;subst qx;refine ha.ok I q fun u s1 v H1 ρ1 I1 rv rd st1=>Vbb ?_
     obtain⟨b,ws,rfl,_,hv,hr⟩:=I1.lstR e rd;obtain⟨hle,its,c,rvs,eo⟩:=(show ObjOk X.prog X.w H1 s1.heap b (.lst ws) from I1.inv.hok b _ hv);have hw:=hr.ints_of;subst hw;cases rv;refine Xsl (s:=s1) (show X.A.handled=none from I1.inv.ok.hd hc) ⟨_,eo,rfl,c,rfl⟩ (by simpa using Xbp rvs) hz fun h' tk ks S2 p kp=>Vbb ?_
     have hp:H1 s1.heap.objs.size=none:=I1.inv.hok.fresh (Vl _);have J:=I1.inv.laid (o:=Xem X s1.heap.objs.size ks) (t':=tk) kp (Vl _) (Xh2 S2);have stU:Stp X.K ρ1 ρ1 H1 (upd H1 s1.heap.objs.size (Xem X s1.heap.objs.size ks)):=Stp.upd hp;exact Vn (Xg0 (E:=fun _ _=>False) (I1.inv.ok.hd hc) ⟨J,I1.sr.upd hp,I1.er.mono stU⟩ X6 p hz) (fun w s2 z=>z.pre (st1.trans stU)) fun _ _ z=>z.elim
  |_=>exact aB0 rfl nb
end
section
variable{prog:V1}{w:V9}{A:Uu}{E:Vb->Vc->Prop}{s:Vc}
theorem Xm8{Q:List Vb->Vc->Prop}{r:Addr}{a b c:Int}{t u v:Tok}{n:Nat}(hh:A.handled=none)(hr:IsRange s.heap r a b c t u v)(hsmall:Vcw a b c=true)(hn:Va1 a b c=n)(hlen:n<=2^24)
  (hQ:∀(h':Heap) (tk:Nat) (acc:Array Vb),(∀b o,s.heap.get? b=some o->h'.get? b=some o)->ItemsOf (fun i v=>∃t,v=.int (a+i*c) t) acc n->Q acc.toList {s with heap:=h',toks:=tk}):Vf (Vk prog w) A (collect (.ref r)) Q E s:=by
 unfold collect;refine Va (Vgt (Va4 F.entry_proto_collect ?_));rw[Vbn F.plain_proto_collect _];show Vf _ A.in1 (newList [] >>= fun l=>again (.builtin "list.__iadd__" ⟨[l,.ref r],[]⟩)) _ _ s
 refine Va (Uj (Vd ⟨Vep Vfk _,Va4 F.entry_list_iadd ?_⟩));rw[Vbn Vfk _];obtain⟨hp,g,d,tk,os⟩:=s;show Vf _ A.in1 (Vax (.ref hp.objs.size) (.ref r) (.ref hp.objs.size)) _ _ ⟨hp.push {cls:=.type "list",data:=.seq ([]:List Vb).toArray},g,d,tk,os⟩;refine wpAny_extend_range (R:=fun r s'=>match r with
  |.ok (.ret v)=>Vf (Vk prog w) A (match v with
   |.ref a=>do match (<- load a).data with
    |.seq xs _=>pure xs.toList
    |_=>unsupported "internal:collect"
   |_=>unsupported "internal:collect") Q E s'
  |.ok _=>False
  |.error e=>E e s') (s:=⟨hp.push {cls:=.type "list",data:=.seq ([]:List Vb).toArray},g,d,tk,os⟩) hh (Ve _ hr) hsmall hn hlen hp.objs.size (.ref hp.objs.size) 0 (Vm _ rfl) fun h' tk' acc c' k hS hacc=>?_
 show Vf _ A (load hp.objs.size >>= _) _ _ _;refine Va (Vfa hS (Vd (hQ h' tk' acc (fun b o e=>k b o (V8 (Vu e)) (Ve _ e)) hacc)))
theorem Xm9{Q₁:Vb->Vc->Prop}{r:Addr}{a b c:Int}{t u v:Tok}{n:Nat}(hh:A.handled=none)(hr:IsRange s.heap r a b c t u v)(hsmall:Vcw a b c=true)(hn:Va1 a b c=n)(hlen:n<=2^24)
  (h:∀(h':Heap) (tk:Nat) (acc:Array Vb),(∀b o,s.heap.get? b=some o->h'.get? b=some o)->ItemsOf (fun i v=>∃t,v=.int (a+i*c) t) acc n->Q₁ (.ref h'.objs.size) {s with heap:=h'.push {cls:=.type "tuple",data:=.seq acc},toks:=tk}) :
  Vcy (Vk prog w) A (.call (.builtin "tuple.__new__") ⟨[.type "tuple",.ref r],[]⟩) (wants Q₁ E) s:=by
 refine Vgh ?_;show Vf _ A.in1 (do Vf3 "tuple.__new__" ⟨[.type "tuple",.ref r],[]⟩;again (.builtin "tuple.__new__" ⟨[.type "tuple",.ref r],[]⟩)) _ _ s
 refine Va (Vet (F.newCall_tuple_1 _) (Vd ⟨Vep F.plain_tuple_new _,Va4 F.entry_tuple_new ?_⟩));rw[Vbn F.plain_tuple_new _];have hsub:=sub_tuple_self;have hinit:=init_tuple_lookup;have hmh:=madeHere_tuple;have hTI:s.TypeIs (.ref r) "range" := ⟨_,hr,rfl⟩
 wp_walk using Vdn hTI,Xm8 (A:=A.in1) hh hr hsmall hn hlen
 intro h' tk acc k hacc;show Vf _ _ (Vby acc.toList.toArray >>= fun v=>ret v) _ _ _
 unfold Vby;refine Va (Uj ?_ (by show acc.toList.toArray.size<=Vw;simp only[Array.toArray_toList];rw[hacc.1,Va7];omega))
 refine Vd ?_;have e:acc.toList.toArray=acc:=by simp
 rw[e];exact h h' tk acc k hacc
theorem Xlz{Q:Vb->Vc->Prop}{r:Addr}{a b c:Int}{t u v:Tok}{n:Nat}(hh:A.handled=none)(hr:IsRange s.heap r a b c t u v)(hsmall:Vcw a b c=true)(hn:Va1 a b c=n)(hlen:n<=2^24)
  (h:∀(h':Heap) (tk:Nat) (acc:Array Vb),(∀b o,s.heap.get? b=some o->h'.get? b=some o)->ItemsOf (fun i v=>∃t,v=.int (a+i*c) t) acc n->Q (.ref h'.objs.size) {s with heap:=h'.push {cls:=.type "tuple",data:=.seq acc},toks:=tk}) :
  Vf (Vk prog w) A (call (.type "tuple") [.ref r]) Q E s:=by
 refine callType_codes (Q₁:=fun obj s₁=>s₁.TypeIs obj "tuple" /\ Q obj s₁) F.called_tuple (F.typeCall_tuple_1 _) F.entry_object_init
  (Xm9 hh hr hsmall hn hlen fun h' tk acc k hacc=>⟨⟨_,Vm _ rfl,rfl⟩,h h' tk acc k hacc⟩) fun obj s₁ h₁=>?_
 exact⟨h₁.1,F.args_object_init_2 obj _,object_init_meets F.called_tuple.init.lookup F.called_tuple.made (by decide) prog w A.in1 _ s₁ ⟨h₁.1,rfl,h₁.2⟩⟩
theorem Xg1{acc:Array Vb}{n:Nat}(h:ItemsOf (fun i v=>∃t,v=Vf6 ((0:Int)+i*1) t) acc n):∃us:List Vb,acc=us.toArray/\Vals ((V0 n).map fun(k:Nat)=>V.int (k:Int)) us:=by
 refine⟨acc.toList,by simp,?_⟩
 have key:∀(us:List Vb) (m:Nat),(∀(i:Nat) (v:Vb),us[i]?=some v->∃t,v=Vf6 ((m+i:Nat):Int) t)->Vals ((List.range' m us.length).map fun(k:Nat)=>V.int (k:Int)) us:=fun us=>by
  induction us with
  |nil=>intro m _;exact .nil
  |cons u us ih =>
   intro m hu;rw[Uc,List.range'_succ,Vab];refine .cons (hu 0 u rfl) (ih (m+1) fun i v e=>?_)
   have:=hu (i+1) v (by simpa using e)
   rwa [show m+(i+1)=m+1+i by omega]at this
 have:=key acc.toList 0 fun i v e=>by
  obtain⟨t,q⟩:=h.2 i v (by rw[<- Vaw];exact e)
  exact⟨t,by rw[q];congr 1;simp⟩
 rwa [Ub,h.1,<- List.range_eq_range']at this
end
section
variable{X:Cx}{pa:List (Addr×Obj)}{σ:L2.St}{H:Hp}{s:Vc}{ρ:List Addr}{S:Sto}{env:En}
theorem Xh3{K:Vg}{ρ:List Addr}{H:Hp}:∀l:List Nat,RDs K ρ H (l.map fun(k:Nat)=>D.int (k:Int)) (l.map fun(k:Nat)=>V.int (k:Int))
 |[]=>by simp only[Ug,RDs]
 |n::ns=>by simp only[Ug,RDs];exact⟨_,_,rfl,by simp only[RD],Xh3 ns⟩
noncomputable def lrN(t:Bool):Str:=match t with
 |true => "tuple"
 |false => "list"
theorem X7y {t:Bool} {a:Expr} {f:En->Sto->R D} {p p2 pos pos2:Pos} (hc:X.calm=true) (hgl:Gl X (lrN t)) (hml:X.mg (lrN t)=none) (hge:Gl X "range") (hme:X.mg "range" = none) (ha:DE X a f) (hs:V3 [a] X.env=(false,eval a X.env)::V3 [] X.env) :
  DE X (.Call (.Name (lrN t) p) [.Call (.Name "range" p2) [a] [] pos2] [] pos) (fun env S=>(f env S).bind fun x S=>match Yd [x] with
   |some ds=>if t then .ok (.tup ds) S else .ok (.ref S.length) (S++[.lst ds])
   |none=>.bad):=by
 intro pa s σ H ρ S env I nb;dsimp only at nb ⊢;have sm:∀j:Int,-(1048576)<j/\j<1048576->Vcw 0 j 1=true:=fun j h=>small_one (by decide) (by decide) (by omega) (by omega)
 have rs:∀j:Int,-(1048576)<j/\j<1048576->Va1 0 j 1=(j.toNat:Int)/\j.toNat<=2^24:=fun j h=>by
  rw[rangeSize_one];constructor
  ·split<;>omega
  ·omega
 have ends:∀ {d:D} {S1:Sto},(match Yd [d] with
   |some ds=>if t then R.ok (D.tup ds) S1 else R.ok (D.ref S1.length) (S1++[O.lst ds])
   |none=>R.bad)≠R.bad->∃j,d=.int j/\(-(1048576)<j/\j<1048576):=fun {d S1} h=>by
  cases d with
  |int j =>
   by_cases c:-(1048576)<j/\j<1048576
   ·exact⟨j,rfl,c⟩
   ·simp only[Yd,c,if_false]at h
    exact aB0 rfl h
  |_=>exact aB0 rfl h
 cases t with
 |true =>
  refine Vad (Yj I.inv hgl hml (u:=.type "tuple") (by decide+kernel) (U2 (Vba ?_ rfl) rfl rfl) (by decide) rfl)
  refine Vad (Yj I.inv hge hme (u:=.type "range") (by decide+kernel) (U2 (Vba ?_ hs) hs rfl) (by decide) rfl)
  cases q:f env S with
  |bad=>rw[q]at nb;exact aB0 rfl nb
  |ex n S1=>exact ha.ex I q fun x s' z=>⟨n,S1,rfl,z⟩
  |ok d S1 =>
   rw[q]at nb;simp only[Rk0]at nb ⊢;obtain⟨j,rfl,hj⟩:=ends nb;refine ha.ok I q fun u s1 v H1 ρ1 I1 rv rd st1=>Vbb ?_
   simp only[RD]at rd;subst rd;obtain⟨tk,rfl⟩:=rv;refine call_range_1 (Vbb (Xlz (I1.inv.ok.hd hc) (IsRange.new ..) (sm j hj) (rs j hj).1 (rs j hj).2 fun h' tk' acc k hacc=>?_))
   obtain⟨us,rfl,vals⟩:=Xg1 hacc;have keep:∀b o,s1.heap.get? b=some o->h'.get? b=some o:=fun b o e=>k b o (Ve _ e)
   have le:s1.heap.objs.size<=h'.objs.size:=Vb9 (Vu (k _ _ (Vm _ rfl)));have res:Yd [.int j]=some ((V0 j.toNat).map fun(k:Nat)=>D.int (k:Int)):=by simp only[Yd,hj,and_self,if_true]
   rw[res];simp only[if_true];refine OkP.pre st1 (Xb7 (I1.inv.laid (t':=tk') (fun b u e=>Ve _ (keep b u e)) le ?_) (I1.inv.hok.fresh le) I1.sr (Xh3 _))
   exact⟨by rw[Vj,Vai,Va7];have:=(rs j hj).2;omega,us,vals,⟨_,Vm _ rfl,rfl,_,rfl⟩⟩
 |false =>
  refine Vad (Yj I.inv hgl hml (u:=.type "list") (by decide+kernel) (U2 (Vba ?_ rfl) rfl rfl) (by decide) rfl)
  refine Vad (Yj I.inv hge hme (u:=.type "range") (by decide+kernel) (U2 (Vba ?_ hs) hs rfl) (by decide) rfl)
  cases q:f env S with
  |bad=>rw[q]at nb;exact aB0 rfl nb
  |ex n S1=>exact ha.ex I q fun x s' z=>⟨n,S1,rfl,z⟩
  |ok d S1 =>
   rw[q]at nb;simp only[Rk0]at nb ⊢;obtain⟨j,rfl,hj⟩:=ends nb;refine ha.ok I q fun u s1 v H1 ρ1 I1 rv rd st1=>Vbb ?_
   simp only[RD]at rd;subst rd;obtain⟨tk,rfl⟩:=rv;refine call_range_1 (Vbb (call_list_range (I1.inv.ok.hd hc) (IsRange.new ..) (sm j hj) (rs j hj).1 (rs j hj).2 fun h' tk' acc c k hS hacc=>?_))
   obtain⟨us,rfl,vals⟩:=Xg1 hacc;have keep:∀b o,s1.heap.get? b=some o->h'.get? b=some o:=fun b o e=>k b o (Ve _ e)
   have le:s1.heap.objs.size<=(s1.heap.push {cls:=.type "range",data:=.fields #[.int 0 s1.toks,.int j tk,.int 1 (s1.toks+1)]}).objs.size:=by rw[Vaa];exact Vdi _
   have res:Yd [.int j]=some ((V0 j.toNat).map fun(k:Nat)=>D.int (k:Int)):=by simp only[Yd,hj,and_self,if_true]
   rw[res];simp only[V2,if_false];refine OkP.pre st1 (Xac (I1.inv.laid (t':=tk') keep le ?_) (I1.inv.hok.fresh le) I1.sr (Xh3 _));exact⟨by rw[Vj,Vai,Va7];have:=(rs j hj).2;omega,us,c,vals,hS⟩
end
noncomputable def Xqb(sc:Uv)(x:Str):Bool:=match sc.names.lookup x with
 |some .local=>true
 |some .cell=>true
 |some .free=>true
 |_=>false
noncomputable def glB(sc:Uv)(x:Str):Bool:=match sc.names.lookup x with
 |some .globalImplicit=>true
 |_=>false
noncomputable def Xl0(top:Str->Bool)(sc:Uv)(x:Str):Bool:=match sc.names.lookup x with
 |some .local=>true
 |some .cell=>top x
 |_=>false
noncomputable def Yw(x:Str):Bool:=!(x==("__debug__" : Str)) && !(x==("__classdict__" : Str)) && !decide (x = "__name__")
theorem Xzp(h:Xqb sc x=true):Vis sc x:=by
 unfold Xqb at h;split at h
 ·exact .inl (by assumption)
 ·exact .inr (.inl (by assumption))
 ·exact .inr (.inr (by assumption))
 ·cases h
theorem Yr(hs:X.env.scope=sc)(h:glB sc x=true):Gl X x:=by
 subst hs;unfold glB at h;split at h
 ·assumption
 ·cases h
theorem Xh4{X:Cx}{top:Str->Bool}{sc:Uv}{x:Str}(hs:X.env.scope=sc)(ht:∀x,top x=true->X.fn x=true)(h:Xl0 top sc x=true):Loc X.env.scope x/\(X.fn x=true\/X.env.scope.names.lookup x=some .local):=by
 subst hs;unfold Xl0 at h;split at h
 ·exact⟨.inl (by assumption),.inr (by assumption)⟩
 ·exact⟨.inr (by assumption),.inl (ht x h)⟩
 ·cases h
theorem Xae(h:Yw x=true):(x==("__debug__" : Str))=false/\(x==("__classdict__" : Str))=false/\x ≠ "__name__" := by
 simp only[Yw,bA0,Vbv,decide_eq_false_iff_not]at h;exact⟨h.1.1,h.1.2,h.2⟩
noncomputable def Yh:Expr->Bool
 |.Starred _ _=>false
 |_=>true
theorem Xq(h:Yh e=true):V3 (e::es) env=(false,eval e env)::V3 es env:=by
 cases e<;>first|rfl|cases h
theorem Yz(h:es.all Yh=true):(Vbg pos (V3 es env)).any (·.1)=false:=by
 induction es with
 |nil=>rfl
 |cons e es ih =>
  rw[Vbq,bA0]at h;rw[Xq h.1];show(false||(Vbg pos (V3 es env)).any (·.1))=false;rw[ih h.2];rfl
theorem Xl1(h:es.all Yh=true):(Vbg pos (V3 es env)).all (fun x=>!x.1)=true:=by
 induction es with
 |nil=>rfl
 |cons e es ih =>
  rw[Vbq,bA0]at h;rw[Xq h.1];show(true&&(Vbg pos (V3 es env)).all (fun x=>!x.1))=true
  rw[ih h.2];rfl
noncomputable def Xc6:Expr->Bool
 |.Name _ _=>true
 |.Constant _ _ _=>true
 |.BinOp _ _ _ _=>true
 |.UnaryOp _ _ _=>true
 |.Call _ _ _ _=>true
 |.Subscript _ _ _=>true
 |.IfExp _ _ _ _=>true
 |.Compare _ _ _ _=>true
 |_=>false
theorem Xqc(h:Xc6 b=true):Xhr b:=by
 cases b<;>first|(intro o i;rfl)|cases h
noncomputable def Xba:Expr->Bool
 |.Set _ _ _=>false
 |_=>true
theorem Xaz(h:Xba e=true)(x:Vb):Vbf e env x=pure x:=by
 cases e<;>first|rfl|cases h
noncomputable def Xd3:Expr->Bool
 |.Name _ _=>true
 |.Subscript _ _ _=>true
 |.Constant _ _ _=>true
 |_=>false
theorem Xb9(h:Xd3 o=true):attributeBase o name env (eval o env)=eval o env:=by
 cases o<;>first|rfl|cases h
noncomputable def Xqd(c:Co)(o:CmpOp):Bool:=decide (o=opC c)
theorem Xh5{c:Co}{o:CmpOp}(h:Xqd c o=true):o=opC c:=oD0 h
noncomputable def X3y(c:Bo)(o:Operator):Bool:=decide (o=opB c)
theorem Xzq{c:Bo}{o:Operator}(h:X3y c o=true):o=opB c:=oD0 h
noncomputable def Xh6:D->Const->Bool
 |.int i,.int j=>i==j
 |.bl i,.bool j=>i==j
 |.non,.none=>true
 |.str i,.str j=>decide (i=j)
 |_,_=>false
noncomputable def Xqe:Bl->Option (Str×Bool×String)
 |.len=>some ("len",true,"len")
 |.tuple=>some ("tuple",false,"tuple")
 |.list=>some ("list",false,"list")
 |.all=>some ("all",true,"all")
 |.anb=>some ("any",true,"any")
 |.sum=>some ("sum",true,"sum")
 |.max=>some ("max",true,"max")
 |.mxl=>some ("max",true,"max")
 |.min=>some ("min",true,"min")
 |.repr=>some ("repr",true,"repr")
 |.int=>some ("int",false,"int")
 |.sorted=>some ("sorted",true,"sorted")
 |.srt=>some ("sorted",true,"sorted")
noncomputable def Xqf:Bl->Bool
 |.len=>true
 |.tuple=>true
 |.list=>true
 |.repr=>true
 |.int=>true
 |.sorted=>true
 |.srt=>true
 |_=>false
noncomputable def X3z:Tg->Bool
 |.var _=>true
 |_=>false
noncomputable def tyB(sc:Uv)(t:Ty)(nm:Str):Bool:=match t with
 |.cls c=>decide (Xa7 c=some nm)
 |.int=>decide (nm = "int")
 |.bool=>decide (nm = "bool")
 |.str=>decide (nm = "str")
 |.tuple=>decide (nm = "tuple")
 |.list=>decide (nm = "list")
 |.dict=>decide (nm = "dict")
 |.valueError=>decide (nm = "ValueError")
noncomputable def Xl2:Ty->Bool
 |.cls _=>false
 |.valueError=>false
 |_=>true
noncomputable def tyM(sc:Uv)(ts:List Ty)(y:Expr):Bool:=match y with
 |.Name nm _=>glB sc nm&&Yw nm&&(match ts with|[t]=>tyB sc t nm|_=>false)
 |.Tuple ys _ _=>(match ys with
  |[.Name n1 _,.Name n2 _]=>glB sc n1&&Yw n1&&glB sc n2&&Yw n2&&(match ts with|[t1,t2]=>Xl2 t1&&Xl2 t2&&tyB sc t1 n1&&tyB sc t2 n2|_=>false)
  |_=>false)
 |_=>false
noncomputable def X9k:Mt->Option Str
 |.append=>some "append"
 |.xtd=>some "extend"
 |.count=>some "count"
 |.index=>some "index"
noncomputable def Xbb(scope sc:Uv):Uv:={scope with names:=scope.names.map fun(n,k)=>if (k == .free&&sc.kind == .function&&sc.names.lookup n==some .cell) then (n,.cell) else (n,k)}
noncomputable def Xy(scope:Uv):List Str:=scope.names.filterMap fun x=>match x.2 with
 |.local=>some x.1
 |.cell=>some x.1
 |_=>none
noncomputable def Xa0(N N2:List Str)(x:Str):Bool:=(N2.drop N.length).contains x
theorem Xow(h:Xa0 N (Ym N own) x=true):own.contains x=true:=by
 unfold Xa0 Ym at h;rw[List.drop_left' (by simp)]at h
 exact h
noncomputable def Xqg(k:ScopeKind):Bool:=match k with
 |.function=>true
 |_=>false
theorem Xh7(h:Xqg k=true):k=.function:=by cases k<;>first|rfl|cases h
noncomputable def Xl3(k:Option Vd2):Bool:=match k with
 |some .cell=>true
 |some .free=>true
 |_=>false
noncomputable def Xcn(k:Option Vd2):Bool:=match k with
 |some .local=>true
 |_=>false
noncomputable def Xen:List Str->Bool
 |[]=>true
 |x::r=>!(r.contains x)&&Xen r
theorem Xeo:∀ {l:List Str},Xen l=true->l.Nodup
 |[],_=>Vgx
 |x::r,h=>by
  simp only[Xen,bA0,Vbv,List.contains_eq_mem]at h;exact Vcl.mpr ⟨by simpa using h.1,Xeo h.2⟩
noncomputable def scB(outer sc:Uv)(N:List Str):Bool :=
 Xqg sc.kind&&Xqg outer.kind&&Xen (Ym N (Xy sc)) &&
 sc.names.all (fun y=>match y.2 with | .free=>Xl3 (outer.names.lookup y.1) && !(Xy sc).contains y.1 | .local=>Xcn (sc.names.lookup y.1)|_=>true) &&
 N.all (fun y=>!((Xy sc).contains y)||(sc.names.lookup (U9 "0" ++ y)).isNone)
theorem Xl4(h:scB outer sc N=true):ScOk outer sc N (Xy sc):=by
 simp only[scB,bA0]at h;obtain⟨⟨⟨⟨h1,h2⟩,h3⟩,h5⟩,h6⟩:=h;have hfr:∀y∈sc.names,y.2=.free->Xl3 (outer.names.lookup y.1)=true/\y.1 ∉ Xy sc:=fun y hy hf=>by
  have:=Ux.mp h5 y hy;rw[hf]at this
  simpa using this
 have hcel:∀y∈sc.names,y.2=.cell->y.1∈Xy sc:=fun y hy hk=>Ve2.mpr ⟨y,hy,by rw[hk]⟩
 refine⟨Xh7 h1,Xh7 h2,Xeo h3,hcel,fun y hy hf=>(hfr y hy hf).2,fun y hy hf=>?_,fun y hy=>?_,fun x hx hl=>?_,fun y hy hc=>?_⟩
 ·have:=(hfr y hy hf).1
  unfold Xl3 at this;split at this
  ·exact .inl (by assumption)
  ·exact .inr (by assumption)
  ·cases this
 ·exact Ve2.mpr ⟨(y,.local),Xb1 hy,rfl⟩
 ·have:=Ux.mp h5 x hx
  rw[hl]at this;dsimp only at this;unfold Xcn at this;split at this
  ·assumption
  ·cases this
 ·have:=Ux.mp h6 y hy
  rw[hc]at this;simp only[Ut,Bool.false_or,Option.isNone_iff_eq_none]at this;exact this
noncomputable def Xqh:It->Bool
 |.zpp _=>true
 |.itm _=>true
 |_=>false
noncomputable def Xd4(t:Tg)(it:It):Bool:=!Xqh it || !X3z t
noncomputable def Xvc:Expr->Bool
 |.Name _ _=>true
 |.Subscript _ _ _=>true
 |_=>false
theorem Xe{α:Type}{o:Option α}{p:α->Bool}(h:o.any p=true):∃x,o=some x/\p x=true:=by
 cases o with
 |none=>cases h
 |some x=>exact⟨x,rfl,h⟩
noncomputable def vNm(e:Expr):Option Str:=match e with
 |.Name x _=>some x
 |_=>none
theorem Xbc{e:Expr}{x:Str}(h:vNm e=some x):∃p,e=.Name x p:=by
 unfold vNm at h;split at h
 ·cases h;exact⟨_,rfl⟩
 ·cases h
noncomputable def Xvd(e:Expr):Option Const:=match e with
 |.Constant c _ _=>some c
 |_=>none
theorem Xzr{e:Expr}{x:Const}(h:Xvd e=some x):∃k p,e=.Constant x k p:=by
 unfold Xvd at h;split at h
 ·cases h;exact⟨_,_,rfl⟩
 ·cases h
noncomputable def vUn(e:Expr):Option (UnaryOp×Expr):=match e with
 |.UnaryOp o x _=>some (o,x)
 |_=>none
theorem Xsv{e:Expr}{z:UnaryOp×Expr}(h:vUn e=some z):∃p,e=.UnaryOp z.1 z.2 p:=by
 unfold vUn at h;split at h
 ·cases h;exact⟨_,rfl⟩
 ·cases h
noncomputable def X30(o:UnaryOp):Bool:=decide (o=.USub)
theorem Xzs(h:X30 o=true):o=.USub:=oD0 h
noncomputable def X31(o:UnaryOp):Bool:=decide (o=.Not)
theorem Xzt(h:X31 o=true):o=.Not:=oD0 h
noncomputable def Xh8(e:Expr):Option (List Expr):=match e with
 |.Tuple xs _ _=>some xs
 |_=>none
theorem Xca{e:Expr}{x:List Expr}(h:Xh8 e=some x):∃k p,e=.Tuple x k p:=by
 unfold Xh8 at h;split at h
 ·cases h;exact⟨_,_,rfl⟩
 ·cases h
noncomputable def Xve(e:Expr):Option (List Expr):=match e with
 |.List xs _=>some xs
 |_=>none
theorem Xzu{e:Expr}{x:List Expr}(h:Xve e=some x):∃p,e=.List x p:=by
 unfold Xve at h;split at h
 ·cases h;exact⟨_,rfl⟩
 ·cases h
noncomputable def Xvf(e:Expr):Bool:=match e with
 |.Dict ks vs _=>ks.isEmpty&&vs.isEmpty
 |_=>false
theorem Xzv{e:Expr}(h:Xvf e=true):∃p,e=.Dict [] [] p:=by
 unfold Xvf at h;split at h
 ·simp only[bA0,Vbo]at h
  obtain⟨rfl,rfl⟩:=h;exact⟨_,rfl⟩
 ·cases h
noncomputable def Xvg(e:Expr):Option (Expr×Operator×Expr):=match e with
 |.BinOp x o y _=>some (x,o,y)
 |_=>none
theorem Xzw{e:Expr}{z:Expr×Operator×Expr}(h:Xvg e=some z):∃p,e=.BinOp z.1 z.2.1 z.2.2 p:=by
 unfold Xvg at h;split at h
 ·cases h;exact⟨_,rfl⟩
 ·cases h
noncomputable def Xcw{α:Type}(l:List α):Option α:=match l with
 |[x]=>some x
 |_=>none
theorem Xa1{α:Type}{l:List α}{x:α}(h:Xcw l=some x):l=[x]:=by
 unfold Xcw at h;split at h
 ·cases h;rfl
 ·cases h
noncomputable def Xf9{α:Type}(l:List α):Option (α×α):=match l with
 |[x,y]=>some (x,y)
 |_=>none
theorem Xc7{α:Type}{l:List α}{z:α×α}(h:Xf9 l=some z):l=[z.1,z.2]:=by
 unfold Xf9 at h;split at h
 ·cases h;rfl
 ·cases h
noncomputable def Xqi(e:Expr):Option (Expr×List CmpOp×List Expr):=match e with
 |.Compare x os ys _=>some (x,os,ys)
 |_=>none
theorem Xox{e:Expr}{z:Expr×List CmpOp×List Expr}(h:Xqi e=some z):∃p,e=.Compare z.1 z.2.1 z.2.2 p:=by
 unfold Xqi at h;split at h
 ·cases h;exact⟨_,rfl⟩
 ·cases h
noncomputable def Xl5(e:Expr):Option (BoolOp×List Expr×Pos):=match e with
 |.BoolOp o xs p=>some (o,xs,p)
 |_=>none
theorem Xzx{e:Expr}{z:BoolOp×List Expr×Pos}(h:Xl5 e=some z):e=.BoolOp z.1 z.2.1 z.2.2:=by
 unfold Xl5 at h;split at h
 ·cases h;rfl
 ·cases h
noncomputable def opA(an:Bool):BoolOp:=if an then .And else .Or
noncomputable def Xqj(an:Bool)(o:BoolOp):Bool:=decide (o=opA an)
theorem Xzy{an:Bool}{o:BoolOp}(h:Xqj an o=true):o=opA an:=oD0 h
noncomputable def Xl6(an:Bool)(p:Pos)(l:List Expr):Option (Expr×Expr):=match l with
 |[x,y]=>some (x,y)
 |x::y::z::r=>some (x,.BoolOp (opA an) (y::z::r) p)
 |_=>none
theorem Xzz(h:Xl6 an p l=some z):l=[z.1,z.2]\/∃y y2 r,l=z.1::y::y2::r/\z.2=.BoolOp (opA an) (y::y2::r) p:=by
 unfold Xl6 at h;split at h
 ·cases h;exact .inl rfl
 ·cases h;exact .inr ⟨_,_,_,rfl,rfl⟩
 ·cases h
noncomputable def vIf(e:Expr):Option (Expr×Expr×Expr):=match e with
 |.IfExp x y z _=>some (x,y,z)
 |_=>none
theorem X32{e:Expr}{z:Expr×Expr×Expr}(h:vIf e=some z):∃p,e=.IfExp z.1 z.2.1 z.2.2 p:=by
 unfold vIf at h;split at h
 ·cases h;exact⟨_,rfl⟩
 ·cases h
noncomputable def Xl7(e:Expr):Option (Expr×Expr):=match e with
 |.Subscript x y _=>some (x,y)
 |_=>none
theorem Xh9{e:Expr}{z:Expr×Expr}(h:Xl7 e=some z):∃p,e=.Subscript z.1 z.2 p:=by
 unfold Xl7 at h;split at h
 ·cases h;exact⟨_,rfl⟩
 ·cases h
noncomputable def Xvh(e:Expr):Option (Option Expr×Option Expr):=match e with
 |.Slice l h none _=>some (l,h)
 |_=>none
theorem Xz0(h:Xvh e=some z):∃p,e=.Slice z.1 z.2 none p:=by
 unfold Xvh at h;split at h
 ·cases h;exact⟨_,rfl⟩
 ·cases h
noncomputable def Xai(e:Expr):Option (Expr×Expr×List Expr×Pos):=match e with
 |.Call f (y::ys) [] p=>some (f,y,ys,p)
 |_=>none
theorem Xe3{e:Expr}{z:Expr×Expr×List Expr×Pos}(h:Xai e=some z):e=.Call z.1 (z.2.1::z.2.2.1) [] z.2.2.2:=by
 unfold Xai at h;split at h
 ·cases h;rfl
 ·cases h
noncomputable def Xvi(e:Expr):Option (Expr×Pos):=match e with
 |.Call f [] [] p=>some (f,p)
 |_=>none
theorem Xz1{e:Expr}{z:Expr×Pos}(h:Xvi e=some z):e=.Call z.1 [] [] z.2:=by
 unfold Xvi at h;split at h
 ·cases h;rfl
 ·cases h
noncomputable def Xep(e:Expr):Option (Expr×Str×Pos):=match e with
 |.Attribute o nm p=>some (o,nm,p)
 |_=>none
theorem Xia(h:Xep e=some z):e=.Attribute z.1 z.2.1 z.2.2:=by
 unfold Xep at h;split at h
 ·cases h;rfl
 ·cases h
noncomputable def vLC(e:Expr):Option (Expr×List Va3×Uv):=match e with
 |.ListComp e gens scope _=>some (e,gens,scope)
 |_=>none
noncomputable def vSC(e:Expr):Option (Expr×List Va3×Uv):=match e with
 |.SetComp e gens scope _=>some (e,gens,scope)
 |_=>none
theorem X33{e:Expr}{z:Expr×List Va3×Uv}(h:vSC e=some z):∃p,e=.SetComp z.1 z.2.1 z.2.2 p:=by
 unfold vSC at h;split at h
 ·cases h;exact⟨_,rfl⟩
 ·cases h
theorem X34{e:Expr}{z:Expr×List Va3×Uv}(h:vLC e=some z):∃p,e=.ListComp z.1 z.2.1 z.2.2 p:=by
 unfold vLC at h;split at h
 ·cases h;exact⟨_,rfl⟩
 ·cases h
section
variable(cm:Bool)(fns:List (Str×Nat×Bool))(gns:List Str)
noncomputable def mtT(top:Str->Bool)(sc:Uv)(N:List Str):Tg->Expr->Bool
 |.var i,e=>(vNm e).any fun x=>decide (N[i]?=some x)&&Xl0 top sc x
 |.tup is,e=>(Xh8 e).any fun es=>namesB is es
where namesB:List Nat->List Expr->Bool
 |[],[]=>true
 |i::is,e::es=>((vNm e).any fun x=>decide (N[i]?=some x)&&Xl0 top sc x)&&namesB is es
 |_,_=>false
noncomputable def fnB(f:Nat)(x:Str)(n:Nat):Bool:=match fns[f]? with
 |some (nm,ar,fl)=>decide (nm=x)&&decide (ar=n)&&(cm || !fl)
 |none=>false
noncomputable def blB(k:Bl)(x:Str):Bool:=match Xqe k with
 |some (nm,_,_)=>decide (x=nm)
 |none=>false
noncomputable def mtB(k:Mt)(nm:Str):Bool:=match X9k k with
 |some m=>decide (nm=m)
 |none=>false
mutual
noncomputable def mt(sc:Uv)(N:List Str):Ex->Expr->Bool
 |.nev,_=>true
 |.var i,e=>(vNm e).any fun x=>decide (N[i]?=some x)&&Xqb sc x&&Yw x
 |.cst d,e=>(Xvd e).any fun c=>Xh6 d c
 |.neg a,e=>(vUn e).any fun z=>X30 z.1&&mt sc N a z.2
 |.glb k,e=>(vNm e).any fun x=>decide (gns[k]?=some x)&&glB sc x&&Yw x
 |.tup es,e=>(Xh8 e).any fun xs=>mts sc N es xs
 |.lst es,e=>(Xve e).any fun xs=>mts sc N es xs
 |.dct0,e=>Xvf e
 |.isi a ts,e=>(Xai e).any fun z=>(vNm z.1).any fun(f:Str)=>decide (f = "isinstance")&&glB sc f&&Yh z.2.1&&mt sc N a z.2.1&&(Xcw z.2.2.1).any fun y=>tyM sc ts y
 |.bin op a b,e=>(Xvg e).any fun z=>X3y op z.2.1&&mt sc N a z.1&&mt sc N b z.2.2
 |.cmp op a b,e=>(Xqi e).any fun z=>(Xcw z.2.1).any fun o=>(Xcw z.2.2).any fun y=>Xqd op o && !(behindInMarks (opC op) y)&&mt sc N a z.1&&mt sc N b y
 |.chn o1 o2 a b c,e=>(Xqi e).any fun z=>(Xf9 z.2.1).any fun o=>(Xf9 z.2.2).any fun y=>Xqd o1 o.1&&Xqd o2 o.2 && !(lastMarks [opC o1,opC o2] [y.1,y.2])&&mt sc N a z.1&&mt sc N b y.1&&mt sc N c y.2
 |.and a b,e=>(Xl5 e).any fun z=>Xqj true z.1&&(Xl6 true z.2.2 z.2.1).any fun y=>mt sc N a y.1&&mt sc N b y.2
 |.or a b,e=>(Xl5 e).any fun z=>Xqj false z.1&&(Xl6 false z.2.2 z.2.1).any fun y=>mt sc N a y.1&&mt sc N b y.2
 |.not a,e=>(vUn e).any fun z=>X31 z.1&&mt sc N a z.2
 |.ite c a b,e=>(vIf e).any fun z=>mt sc N c z.1&&mt sc N a z.2.1&&mt sc N b z.2.2
 |.idx a i,e=>(Xl7 e).any fun z=>Xc6 z.2&&mt sc N a z.1&&mt sc N i z.2
 |.call f es,e=>(Xai e).any fun z=>(vNm z.1).any fun x=>fnB cm fns f x (z.2.1::z.2.2.1).length&&glB sc x&&Yw x&&mts sc N es (z.2.1::z.2.2.1)
 |.blt k es,e=>(Xai e).any fun z=>(vNm z.1).any fun x=>blB k x&&(cm||Xqf k)&&glB sc x&&Yw x&&mts sc N es (z.2.1::z.2.2.1)
 |.mth k o es,e=>(Xai e).any fun z=>(Xep z.1).any fun x=>mtB k x.2.1&&Xd3 x.1&&(x.2.2.endLine==z.2.2.2.line)&&decide ((z.2.1::z.2.2.1).length<29)&&mt sc N o x.1&&mts sc N es (z.2.1::z.2.2.1)
 |.dgt o es,e=>(Xai e).any fun z=>(Xep z.1).any fun x=>decide (x.2.1=("get" : Str))&&Xd3 x.1&&(x.2.2.endLine==z.2.2.2.line)&&decide ((z.2.1::z.2.2.1).length<29)&&mt sc N o x.1&&mts sc N es (z.2.1::z.2.2.1)
 |.cmr k n gs elt,e=>(vLC e).any fun z=>cm && !k&&decide ((Xy z.2.2).length=n)&&scB sc z.2.2 N&&mtG sc N (Xbb z.2.2 sc) (Ym N (Xy z.2.2)) gs z.2.1&&mt (Xbb z.2.2 sc) (Ym N (Xy z.2.2)) elt z.1
 |.sli a lo hi,e=>(Xl7 e).any fun z=>(Xvh z.2).any fun y=>mt sc N a z.1&&mto sc N lo y.1&&mto sc N hi y.2
 |.cal f es,e=>(Xai e).any fun z=>cm&&Xvc z.1&&mt sc N f z.1&&mts sc N es (z.2.1::z.2.2.1)
 |.sst a,e=>(Xai e).any fun z=>(vNm z.1).any fun(x:Str)=>decide (x = "sorted")&&cm&&glB sc x&&z.2.2.1.isEmpty&&(Xai z.2.1).any fun y=>(vNm y.1).any fun(x2:Str)=>decide (x2 = "set")&&glB sc x2&&y.2.2.1.isEmpty&&Yh y.2.1&&mt sc N a y.2.1
 |.cms n gs elt,e=>(Xai e).any fun y=>(vNm y.1).any fun(x:Str)=>decide (x = "sorted")&&glB sc x&&y.2.2.1.isEmpty&&(vSC y.2.1).any fun z=>cm&&decide ((Xy z.2.2).length=n)&&scB sc z.2.2 N&&mtG sc N (Xbb z.2.2 sc) (Ym N (Xy z.2.2)) gs z.2.1&&mt (Xbb z.2.2 sc) (Ym N (Xy z.2.2)) elt z.1
 |.lrg t (.cons a .nil),e=>(Xai e).any fun z=>(vNm z.1).any fun(x:Str)=>decide (x=lrN t)&&cm&&glB sc x&&z.2.2.1.isEmpty&&(Xai z.2.1).any fun y=>(vNm y.1).any fun(x2:Str)=>decide (x2 = "range")&&glB sc x2&&y.2.2.1.isEmpty&&Yh y.2.1&&mt sc N a y.2.1
 |.lrg _ _,_=>false
noncomputable def mto(sc:Uv)(N:List Str):Op->Option Expr->Bool
 |.none,none=>true
 |.some e,some x=>mt sc N e x
 |_,_=>false
noncomputable def mts(sc:Uv)(N:List Str):Exs->List Expr->Bool
 |.nil,[]=>true
 |.cons e es,x::xs=>Yh x&&mt sc N e x&&mts sc N es xs
 |_,_=>false
noncomputable def mtG(sc:Uv)(N:List Str)(sc2:Uv)(N2:List Str):Gens->List Va3->Bool
 |.cons t it ifs .nil,[⟨tg,iter,cs,a⟩]=>(a==0)&&Xba iter&&mtT (Xa0 N N2) sc2 N2 t tg&&mtI sc N it iter&&mts sc2 N2 ifs cs&&Xd4 t it
 |.cons t it ifs (.cons t2 it2 ifs2 .nil),[⟨tg,iter,cs,a⟩,⟨tg2,iter2,cs2,a2⟩]=>(a==0)&&(a2==0)&&Xba iter&&Xba iter2&&mtT (Xa0 N N2) sc2 N2 t tg&&mtI sc N it iter&&mts sc2 N2 ifs cs&&mtT (Xa0 N N2) sc2 N2 t2 tg2&&mtI sc2 N2 it2 iter2&&mts sc2 N2 ifs2 cs2&&Xd4 t it&&Xd4 t2 it2
 |_,_=>false
noncomputable def mtI(sc:Uv)(N:List Str):It->Expr->Bool
 |.val e,x=>mt sc N e x
 |.rng es,e=>(Xai e).any fun z=>(vNm z.1).any fun(x:Str)=>decide (x = "range")&&glB sc x&&mts sc N es (z.2.1::z.2.2.1)
 |.zpp es,e=>(Xai e).any fun z=>(vNm z.1).any fun(x:Str)=>decide (x = "zip")&&glB sc x&&mts sc N es (z.2.1::z.2.2.1)
 |.itm o,e=>(Xvi e).any fun z=>(Xep z.1).any fun x=>decide (x.2.1=("items" : Str))&&Xd3 x.1&&(x.2.2.endLine==z.2.line)&&mt sc N o x.1
end
end
section
variable{cm:Bool}{fns:List (Str×Nat×Bool)}{gns:List Str}{sc sc2:Uv}{N N2:List Str}{t t2:Tg}{it it2:It}{ifs ifs2:Exs}
theorem X7z(h:mtG cm fns gns sc N sc2 N2 .nil gens=true):False:=by
 cases h
theorem X70(h:mtG cm fns gns sc N sc2 N2 (.cons t it ifs .nil) gens=true):∃tg iter cs,gens=[⟨tg,iter,cs,0⟩]/\Xba iter=true/\mtT (Xa0 N N2) sc2 N2 t tg=true/\mtI cm fns gns sc N it iter=true/\mts cm fns gns sc2 N2 ifs cs=true/\Xd4 t it=true:=by
 match gens,h with
 |[⟨tg,iter,cs,a⟩],h =>
  simp only[mtG,bA0,beq_iff_eq]at h;obtain⟨⟨⟨⟨⟨h1,h2⟩,h3⟩,h4⟩,h5⟩,h6⟩:=h;subst h1;exact⟨tg,iter,cs,rfl,h2,h3,h4,h5,h6⟩
 |[],h=>cases h
 |⟨_,_,_,_⟩::_::_,h=>cases h
theorem X71(h:mtG cm fns gns sc N sc2 N2 (.cons t it ifs (.cons t2 it2 ifs2 .nil)) gens=true):∃tg iter cs tg2 iter2 cs2,gens=[⟨tg,iter,cs,0⟩,⟨tg2,iter2,cs2,0⟩]/\Xba iter=true/\Xba iter2=true/\mtT (Xa0 N N2) sc2 N2 t tg=true/\mtI cm fns gns sc N it iter=true/\mts cm fns gns sc2 N2 ifs cs=true/\mtT (Xa0 N N2) sc2 N2 t2 tg2=true/\mtI cm fns gns sc2 N2 it2 iter2=true/\mts cm fns gns sc2 N2 ifs2 cs2=true/\Xd4 t it=true/\Xd4 t2 it2=true:=by
 match gens,h with
 |[⟨tg,iter,cs,a⟩,⟨tg2,iter2,cs2,a2⟩],h =>
  simp only[mtG,bA0,beq_iff_eq]at h;obtain⟨⟨⟨⟨⟨⟨⟨⟨⟨⟨⟨h1,h2⟩,h3⟩,h4⟩,h5⟩,h6⟩,h7⟩,h8⟩,h9⟩,h10⟩,h11⟩,h12⟩:=h;subst h1 h2;exact⟨tg,iter,cs,tg2,iter2,cs2,rfl,h3,h4,h5,h6,h7,h8,h9,h10,h11,h12⟩
 |[],h=>cases h
 |[⟨_,_,_,_⟩],h=>cases h
 |⟨_,_,_,_⟩::⟨_,_,_,_⟩::_::_,h=>cases h
theorem X72(h:mtG cm fns gns sc N sc2 N2 (.cons t it ifs (.cons t2 it2 ifs2 (.cons t3 it3 ifs3 gs3))) gens=true):False:=by
 match gens,h with
 |[],h=>cases h
 |[⟨_,_,_,_⟩],h=>cases h
 |⟨_,_,_,_⟩::⟨_,_,_,_⟩::_ ,h=>cases h
theorem Xav{e:Expr}{q:Expr×Expr×List Expr×Pos->Str->Bool}(h:((Xai e).any fun z=>(vNm z.1).any fun x=>q z x)=true):∃x p y ys cp,e=.Call (.Name x p) (y::ys) [] cp/\q (.Name x p,y,ys,cp) x=true:=by
 obtain⟨⟨f,y,ys,cp⟩,h1,h2⟩:=Xe h;obtain⟨x,h3,h4⟩:=Xe h2;have e1:=Xe3 h1;subst e1;have h3':vNm f=some x:=h3;obtain⟨p,e2⟩:=Xbc h3';subst e2;exact⟨x,p,y,ys,cp,rfl,h4⟩
theorem X35{i:Nat}{e:Expr}(h:mt cm fns gns sc N (.var i) e=true):∃x p,e=.Name x p/\N[i]?=some x/\Xqb sc x=true/\Yw x=true:=by
 simp only[mt]at h;obtain⟨x,h1,h2⟩:=Xe h;obtain⟨p,rfl⟩:=Xbc h1;simp only[bA0,decide_eq_true_eq]at h2;exact⟨x,p,rfl,h2.1.1,h2.1.2,h2.2⟩
theorem X36{d:D}{e:Expr}(h:mt cm fns gns sc N (.cst d) e=true):∃c k p,e=.Constant c k p/\Xh6 d c=true:=by
 simp only[mt]at h;obtain⟨c,h1,h2⟩:=Xe h;obtain⟨k,p,rfl⟩:=Xzr h1;exact⟨c,k,p,rfl,h2⟩
theorem X37{a:Ex}{e:Expr}(h:mt cm fns gns sc N (.neg a) e=true):∃x p,e=.UnaryOp .USub x p/\mt cm fns gns sc N a x=true:=by
 simp only[mt]at h;obtain⟨⟨o,x⟩,h1,h2⟩:=Xe h;obtain⟨p,rfl⟩:=Xsv h1;rw[bA0]at h2;have e1:=Xzs h2.1;dsimp only at e1;subst e1;exact⟨x,p,rfl,h2.2⟩
theorem X38{a:Ex}{e:Expr}(h:mt cm fns gns sc N (.not a) e=true):∃x p,e=.UnaryOp .Not x p/\mt cm fns gns sc N a x=true:=by
 simp only[mt]at h;obtain⟨⟨o,x⟩,h1,h2⟩:=Xe h;obtain⟨p,rfl⟩:=Xsv h1;rw[bA0]at h2;have e1:=Xzt h2.1;dsimp only at e1;subst e1;exact⟨x,p,rfl,h2.2⟩
theorem X39{k:Nat}{e:Expr}(h:mt cm fns gns sc N (.glb k) e=true):∃x p,e=.Name x p/\gns[k]?=some x/\glB sc x=true/\Yw x=true:=by
 simp only[mt]at h;obtain⟨x,h1,h2⟩:=Xe h;obtain⟨p,rfl⟩:=Xbc h1;simp only[bA0,decide_eq_true_eq]at h2;exact⟨x,p,rfl,h2.1.1,h2.1.2,h2.2⟩
theorem X4a{es:Exs}{e:Expr}(h:mt cm fns gns sc N (.tup es) e=true):∃xs k p,e=.Tuple xs k p/\mts cm fns gns sc N es xs=true:=by
 simp only[mt]at h;obtain⟨x,h1,h2⟩:=Xe h;obtain⟨k,p,rfl⟩:=Xca h1;exact⟨x,k,p,rfl,h2⟩
theorem X4b{es:Exs}{e:Expr}(h:mt cm fns gns sc N (.lst es) e=true):∃xs p,e=.List xs p/\mts cm fns gns sc N es xs=true:=by
 simp only[mt]at h;obtain⟨x,h1,h2⟩:=Xe h;obtain⟨p,rfl⟩:=Xzu h1;exact⟨x,p,rfl,h2⟩
theorem Xz2(h:mt cm fns gns sc N .dct0 e=true):∃p,e=.Dict [] [] p:=by
 simp only[mt]at h;exact Xzv h
theorem X4c{op:Bo}{a b:Ex}{e:Expr}(h:mt cm fns gns sc N (.bin op a b) e=true):∃x y p,e=.BinOp x (opB op) y p/\mt cm fns gns sc N a x=true/\mt cm fns gns sc N b y=true:=by
 simp only[mt]at h;obtain⟨⟨x,o,y⟩,h1,h2⟩:=Xe h;obtain⟨p,rfl⟩:=Xzw h1;simp only[bA0]at h2;have e1:=Xzq h2.1.1;subst e1;exact⟨x,y,p,rfl,h2.1.2,h2.2⟩
theorem X4d{op:Co}{a b:Ex}{e:Expr}(h:mt cm fns gns sc N (.cmp op a b) e=true):∃x y p,e=.Compare x [opC op] [y] p/\behindInMarks (opC op) y=false/\mt cm fns gns sc N a x=true/\mt cm fns gns sc N b y=true:=by
 simp only[mt]at h;obtain⟨⟨x,os,ys⟩,h1,h2⟩:=Xe h;obtain⟨o,h3,h4⟩:=Xe h2;obtain⟨y,h5,h6⟩:=Xe h4;obtain⟨p,rfl⟩:=Xox h1;have e1:os=[o]:=Xa1 h3;have e2:ys=[y]:=Xa1 h5;subst e1 e2;simp only[bA0,Vbv]at h6;have e3:=Xh5 h6.1.1.1;subst e3;exact⟨x,y,p,rfl,h6.1.1.2,h6.1.2,h6.2⟩
theorem X4e{o1 o2:Co}{a b c:Ex}{e:Expr}(h:mt cm fns gns sc N (.chn o1 o2 a b c) e=true):∃x y z p,e=.Compare x [opC o1,opC o2] [y,z] p/\lastMarks [opC o1,opC o2] [y,z]=false/\mt cm fns gns sc N a x=true/\mt cm fns gns sc N b y=true/\mt cm fns gns sc N c z=true:=by
 simp only[mt]at h;obtain⟨⟨x,os,ys⟩,h1,h2⟩:=Xe h;obtain⟨⟨p1,p2⟩,h3,h4⟩:=Xe h2;obtain⟨⟨y,z⟩,h5,h6⟩:=Xe h4;obtain⟨p,rfl⟩:=Xox h1;have e1:os=[p1,p2]:=Xc7 h3;have e2:ys=[y,z]:=Xc7 h5;subst e1 e2;rw[bA0,bA0,bA0,bA0,bA0,Vbv]at h6;obtain⟨⟨⟨⟨⟨k1,k2⟩,k3⟩,k4⟩,k5⟩,k6⟩:=h6;have e3:=Xh5 k1;have e4:=Xh5 k2;dsimp only at e3 e4;subst e3 e4;exact⟨x,y,z,p,rfl,k3,k4,k5,k6⟩
theorem Xoy{an:Bool}{a b:Ex}{e:Expr}(h:((Xl5 e).any fun z=>Xqj an z.1&&(Xl6 an z.2.2 z.2.1).any fun y=>mt cm fns gns sc N a y.1&&mt cm fns gns sc N b y.2)=true) :
  (∃x y p,e=.BoolOp (opA an) [x,y] p/\mt cm fns gns sc N a x=true/\mt cm fns gns sc N b y=true)\/∃x y z r p,e=.BoolOp (opA an) (x::y::z::r) p/\mt cm fns gns sc N a x=true/\mt cm fns gns sc N b (.BoolOp (opA an) (y::z::r) p)=true:=by
 obtain⟨⟨o,xs,p⟩,h1,h2⟩:=Xe h;have e1:=Xzx h1;subst e1;rw[bA0]at h2;have e2:=Xzy h2.1;dsimp only at e2;subst e2;obtain⟨⟨x,y⟩,h3,h4⟩:=Xe h2.2;rw[bA0]at h4;rcases Xzz h3 with e3|⟨y1,y2,r,e3,e4⟩
 ·dsimp only at e3
  subst e3;exact .inl ⟨x,y,p,rfl,h4.1,h4.2⟩
 ·dsimp only at e3 e4
  subst e3 e4;exact .inr ⟨x,y1,y2,r,p,rfl,h4.1,h4.2⟩
theorem X4f(h:mt cm fns gns sc N (.and a b) e=true):(∃x y p,e=.BoolOp .And [x,y] p/\mt cm fns gns sc N a x=true/\mt cm fns gns sc N b y=true)\/∃x y z r p,e=.BoolOp .And (x::y::z::r) p/\mt cm fns gns sc N a x=true/\mt cm fns gns sc N b (.BoolOp .And (y::z::r) p)=true:=by
 simp only[mt]at h;exact Xoy (an:=true) h
theorem X73(h:mt cm fns gns sc N (.or a b) e=true):(∃x y p,e=.BoolOp .Or [x,y] p/\mt cm fns gns sc N a x=true/\mt cm fns gns sc N b y=true)\/∃x y z r p,e=.BoolOp .Or (x::y::z::r) p/\mt cm fns gns sc N a x=true/\mt cm fns gns sc N b (.BoolOp .Or (y::z::r) p)=true:=by
 simp only[mt]at h;exact Xoy (an:=false) h
theorem X4g{c a b:Ex}{e:Expr}(h:mt cm fns gns sc N (.ite c a b) e=true):∃x y z p,e=.IfExp x y z p/\mt cm fns gns sc N c x=true/\mt cm fns gns sc N a y=true/\mt cm fns gns sc N b z=true:=by
 simp only[mt]at h;obtain⟨⟨x,y,z⟩,h1,h2⟩:=Xe h;obtain⟨p,rfl⟩:=X32 h1;simp only[bA0]at h2;exact⟨x,y,z,p,rfl,h2.1.1,h2.1.2,h2.2⟩
theorem X4h{a i:Ex}{e:Expr}(h:mt cm fns gns sc N (.idx a i) e=true):∃x y p,e=.Subscript x y p/\Xc6 y=true/\mt cm fns gns sc N a x=true/\mt cm fns gns sc N i y=true:=by
 simp only[mt]at h;obtain⟨⟨x,y⟩,h1,h2⟩:=Xe h;obtain⟨p,rfl⟩:=Xh9 h1;simp only[bA0]at h2;exact⟨x,y,p,rfl,h2.1.1,h2.1.2,h2.2⟩
theorem Xsw{k:Bool}{n:Nat}{gs:Gens}{elt:Ex}{e:Expr}(h:mt cm fns gns sc N (.cmr k n gs elt) e=true):∃ee gens scope p,e=.ListComp ee gens scope p/\cm=true/\k=false/\(Xy scope).length=n/\scB sc scope N=true/\mtG cm fns gns sc N (Xbb scope sc) (Ym N (Xy scope)) gs gens=true/\mt cm fns gns (Xbb scope sc) (Ym N (Xy scope)) elt ee=true:=by
 simp only[mt]at h;obtain⟨⟨ee,gens,scope⟩,h1,h2⟩:=Xe h;obtain⟨p,rfl⟩:=X34 h1;simp only[bA0,decide_eq_true_eq,Vbv]at h2;obtain⟨⟨⟨⟨⟨h0,h1⟩,h2⟩,h3⟩,h4⟩,h5⟩:=h2;exact⟨ee,gens,scope,p,rfl,h0,h1,h2,h3,h4,h5⟩
theorem X4i{t:Bool}(h:mt cm fns gns sc N (.lrg t (.cons a .nil)) e=true):∃p p2 x cp cp2,e=.Call (.Name (lrN t) p) [.Call (.Name "range" p2) [x] [] cp2] [] cp/\cm=true/\glB sc (lrN t)=true/\glB sc "range" = true/\Yh x=true/\mt cm fns gns sc N a x=true:=by
 simp only[mt]at h;obtain⟨x,p,y,ys,cp,rfl,h1⟩:=Xav h;rw[bA0,bA0,bA0,bA0]at h1;obtain⟨⟨⟨⟨e1,e2⟩,e3⟩,e4⟩,h2⟩:=h1;obtain⟨x2,p2,y2,ys2,cp2,rfl,h3⟩:=Xav h2;rw[bA0,bA0,bA0,bA0]at h3;obtain⟨⟨⟨⟨f1,f2⟩,f3⟩,f4⟩,f5⟩:=h3;have e1':=oD0 e1;have f1':=oD0 f1;subst e1' f1';have e4':=Vbo.mp e4;have f3':=Vbo.mp f3;dsimp only at e4' f3';subst e4' f3';exact⟨p,p2,y2,cp,cp2,rfl,e2,e3,f2,f4,f5⟩
theorem X4j(h:mt cm fns gns sc N (.sst a) e=true):∃p p2 x cp cp2,e=.Call (.Name "sorted" p) [.Call (.Name "set" p2) [x] [] cp2] [] cp/\cm=true/\glB sc "sorted" = true/\glB sc "set" = true/\Yh x=true/\mt cm fns gns sc N a x=true:=by
 simp only[mt]at h;obtain⟨x,p,y,ys,cp,rfl,h1⟩:=Xav h;rw[bA0,bA0,bA0,bA0]at h1;obtain⟨⟨⟨⟨e1,e2⟩,e3⟩,e4⟩,h2⟩:=h1;obtain⟨x2,p2,y2,ys2,cp2,rfl,h3⟩:=Xav h2;rw[bA0,bA0,bA0,bA0]at h3;obtain⟨⟨⟨⟨f1,f2⟩,f3⟩,f4⟩,f5⟩:=h3;have e1':=oD0 e1;have f1':=oD0 f1;subst e1' f1';have e4':=Vbo.mp e4;have f3':=Vbo.mp f3;dsimp only at e4' f3';subst e4' f3';exact⟨p,p2,y2,cp,cp2,rfl,e2,e3,f2,f4,f5⟩
theorem X4k{n:Nat}{gs:Gens}{elt:Ex}{e:Expr}(h:mt cm fns gns sc N (.cms n gs elt) e=true):∃p0 ee gens scope p cp,e=.Call (.Name "sorted" p0) [.SetComp ee gens scope p] [] cp/\glB sc "sorted" = true/\cm=true/\(Xy scope).length=n/\scB sc scope N=true/\mtG cm fns gns sc N (Xbb scope sc) (Ym N (Xy scope)) gs gens=true/\mt cm fns gns (Xbb scope sc) (Ym N (Xy scope)) elt ee=true:=by
 simp only[mt]at h;obtain⟨x,p0,y,ys,cp,rfl,h1⟩:=Xav h;rw[bA0,bA0,bA0]at h1;obtain⟨⟨⟨e1,e2⟩,e3⟩,h2⟩:=h1;have e1':=oD0 e1;subst e1';have e3':=Vbo.mp e3;dsimp only at e3';subst e3';obtain⟨⟨ee,gens,scope⟩,h3,h4⟩:=Xe h2;obtain⟨p,rfl⟩:=X33 h3;simp only[bA0,decide_eq_true_eq]at h4;obtain⟨⟨⟨⟨h5,h6⟩,h7⟩,h8⟩,h9⟩:=h4;exact⟨p0,ee,gens,scope,p,cp,rfl,e2,h5,h6,h7,h8,h9⟩
theorem X4l(h:mt cm fns gns sc N (.blt k es) e=true):∃x p y ys cp,e=.Call (.Name x p) (y::ys) [] cp/\blB k x=true/\(cm||Xqf k)=true/\glB sc x=true/\Yw x=true/\mts cm fns gns sc N es (y::ys)=true:=by
 simp only[mt]at h;obtain⟨x,p,y,ys,cp,rfl,h1⟩:=Xav h;rw[bA0,bA0,bA0,bA0]at h1;exact⟨x,p,y,ys,cp,rfl,h1.1.1.1.1,h1.1.1.1.2,h1.1.1.2,h1.1.2,h1.2⟩
theorem Xz3{k:Nat}(h:mt cm fns gns sc N (.call k es) e=true):∃x p y ys cp,e=.Call (.Name x p) (y::ys) [] cp/\(∃fl,fns[k]?=some (x,(y::ys).length,fl)/\(fl=true->cm=true))/\glB sc x=true/\Yw x=true/\mts cm fns gns sc N es (y::ys)=true:=by
 simp only[mt]at h;obtain⟨x,p,y,ys,cp,rfl,h1⟩:=Xav h;rw[bA0,bA0,bA0]at h1;refine⟨x,p,y,ys,cp,rfl,?_,h1.1.1.2,h1.1.2,h1.2⟩;have h2:=h1.1.1.1;unfold fnB at h2;split at h2
 ·rename_i nm ar fl e
  simp only[bA0,decide_eq_true_eq,Vb6,Vbv]at h2;obtain⟨⟨rfl,rfl⟩,h2⟩:=h2;exact⟨fl,e,fun z=>by rcases h2 with h2|h2;exact h2;rw[z]at h2;cases h2⟩
 ·cases h2
theorem X4m{k:Mt}{o:Ex}{es:Exs}{e:Expr}(h:mt cm fns gns sc N (.mth k o es) e=true):∃ox nm ap y ys cp,e=.Call (.Attribute ox nm ap) (y::ys) [] cp/\mtB k nm=true/\Xd3 ox=true/\(ap.endLine==cp.line)=true/\(y::ys).length<29/\mt cm fns gns sc N o ox=true/\mts cm fns gns sc N es (y::ys)=true:=by
 simp only[mt]at h;obtain⟨⟨f,y,ys,cp⟩,h1,h2⟩:=Xe h;obtain⟨⟨ox,nm,ap⟩,h3,h4⟩:=Xe h2;have e1:=Xe3 h1;subst e1;have h3':Xep f=some (ox,nm,ap):=h3;have e2:=Xia h3';subst e2;rw[bA0,bA0,bA0,bA0,bA0]at h4;exact⟨ox,nm,ap,y,ys,cp,rfl,h4.1.1.1.1.1,h4.1.1.1.1.2,h4.1.1.1.2,oD0 h4.1.1.2,h4.1.2,h4.2⟩
theorem X4n{o:Ex}{es:Exs}{e:Expr}(h:mt cm fns gns sc N (.dgt o es) e=true):∃ox ap y ys cp,e=.Call (.Attribute ox "get" ap) (y::ys) [] cp/\Xd3 ox=true/\(ap.endLine==cp.line)=true/\(y::ys).length<29/\mt cm fns gns sc N o ox=true/\mts cm fns gns sc N es (y::ys)=true:=by
 simp only[mt]at h;obtain⟨⟨f,y,ys,cp⟩,h1,h2⟩:=Xe h;obtain⟨⟨ox,nm,ap⟩,h3,h4⟩:=Xe h2;have e1:=Xe3 h1;subst e1;have h3':Xep f=some (ox,nm,ap):=h3;have e2:=Xia h3';subst e2;rw[bA0,bA0,bA0,bA0,bA0]at h4;have e3:nm = "get" := oD0 h4.1.1.1.1.1;subst e3;exact⟨ox,ap,y,ys,cp,rfl,h4.1.1.1.1.2,h4.1.1.1.2,oD0 h4.1.1.2,h4.1.2,h4.2⟩
theorem Xz4{o:Ex}{e:Expr}(h:mtI cm fns gns sc N (.itm o) e=true):∃ox ap cp,e=.Call (.Attribute ox "items" ap) [] [] cp/\Xd3 ox=true/\(ap.endLine==cp.line)=true/\mt cm fns gns sc N o ox=true:=by
 simp only[mtI]at h;obtain⟨⟨f,cp⟩,h1,h2⟩:=Xe h;obtain⟨⟨ox,nm,ap⟩,h3,h4⟩:=Xe h2;have e1:=Xz1 h1;subst e1;have h3':Xep f=some (ox,nm,ap):=h3;have e2:=Xia h3';subst e2;rw[bA0,bA0,bA0]at h4;have e3:nm = "items" := oD0 h4.1.1.1;subst e3;exact⟨ox,ap,cp,rfl,h4.1.1.2,h4.1.2,h4.2⟩
theorem X4o{a:Ex}{ts:List Ty}{e:Expr}(h:mt cm fns gns sc N (.isi a ts) e=true):∃p0 x y cp,e=.Call (.Name "isinstance" p0) [x,y] [] cp/\glB sc "isinstance" = true/\Yh x=true/\mt cm fns gns sc N a x=true/\tyM sc ts y=true:=by
 simp only[mt]at h;obtain⟨f,p,y,ys,cp,rfl,h1⟩:=Xav h;rw[bA0,bA0,bA0,bA0]at h1;obtain⟨⟨⟨⟨h2,h3⟩,h4⟩,h5⟩,h6⟩:=h1;have e1:f = "isinstance" := oD0 h2;subst e1;obtain⟨y2,h7,h8⟩:=Xe h6;have e2:ys=[y2]:=Xa1 h7;subst e2;exact⟨p,y,y2,cp,rfl,h3,h4,h5,h8⟩
theorem X4p(h:tyM sc ts y=true):(∃t nm p,ts=[t]/\y=.Name nm p/\glB sc nm=true/\Yw nm=true/\tyB sc t nm=true) \/
  ∃t1 t2 n1 n2 p1 p2 k p,ts=[t1,t2]/\y=.Tuple [.Name n1 p1,.Name n2 p2] k p/\glB sc n1=true/\Yw n1=true/\glB sc n2=true/\Yw n2=true/\Xl2 t1=true/\Xl2 t2=true/\tyB sc t1 n1=true/\tyB sc t2 n2=true:=by
 unfold tyM at h;split at h
 ·simp only[bA0]at h
  obtain⟨⟨h1,h2⟩,h3⟩:=h;split at h3
  ·exact .inl ⟨_,_,_,rfl,rfl,h1,h2,h3⟩
  ·cases h3
 ·split at h
  ·simp only[bA0]at h
   obtain⟨⟨⟨⟨h1,h2⟩,h3⟩,h4⟩,h5⟩:=h;split at h5
   ·simp only[bA0]at h5
    obtain⟨⟨⟨h6,h7⟩,h8⟩,h9⟩:=h5;exact .inr ⟨_,_,_,_,_,_,_,_,rfl,rfl,h1,h2,h3,h4,h6,h7,h8,h9⟩
   ·cases h5
  ·cases h
 ·cases h
theorem X4q{a:Ex}{lo hi:Op}{e:Expr}(h:mt cm fns gns sc N (.sli a lo hi) e=true):∃x l u p2 p,e=.Subscript x (.Slice l u none p2) p/\mt cm fns gns sc N a x=true/\mto cm fns gns sc N lo l=true/\mto cm fns gns sc N hi u=true:=by
 simp only[mt]at h;obtain⟨⟨x,y⟩,h1,h2⟩:=Xe h;obtain⟨⟨l,u⟩,h3,h4⟩:=Xe h2;obtain⟨p,rfl⟩:=Xh9 h1;obtain⟨p2,e2⟩:=Xz0 h3;dsimp only at e2;subst e2;simp only[bA0]at h4;exact⟨x,l,u,p2,p,rfl,h4.1.1,h4.1.2,h4.2⟩
theorem Xx6{w:Str}{es:Exs}{e:Expr}(h:((Xai e).any fun z=>(vNm z.1).any fun x=>decide (x=w)&&glB sc x&&mts cm fns gns sc N es (z.2.1::z.2.2.1))=true):∃p y ys cp,e=.Call (.Name w p) (y::ys) [] cp/\glB sc w=true/\mts cm fns gns sc N es (y::ys)=true:=by
 obtain⟨x,p,y,ys,cp,rfl,h1⟩:=Xav h;rw[bA0,bA0]at h1;have e1:x=w:=oD0 h1.1.1;subst e1;exact⟨p,y,ys,cp,rfl,h1.1.2,h1.2⟩
theorem Xz5(h:mtI cm fns gns sc N (.zpp es) e=true):∃p y ys cp,e=.Call (.Name "zip" p) (y::ys) [] cp/\glB sc "zip" = true/\mts cm fns gns sc N es (y::ys)=true:=by
 simp only[mtI]at h;exact Xx6 h
theorem Xz6(h:mtI cm fns gns sc N (.rng es) e=true):∃p y ys cp,e=.Call (.Name "range" p) (y::ys) [] cp/\glB sc "range" = true/\mts cm fns gns sc N es (y::ys)=true:=by
 simp only[mtI]at h;exact Xx6 h
theorem X4r{f:Ex}{es:Exs}{e:Expr}(h:mt cm fns gns sc N (.cal f es) e=true):∃fx y ys cp,e=.Call fx (y::ys) [] cp/\cm=true/\Xvc fx=true/\mt cm fns gns sc N f fx=true/\mts cm fns gns sc N es (y::ys)=true:=by
 simp only[mt]at h;obtain⟨⟨fx,y,ys,cp⟩,h1,h2⟩:=Xe h;have e1:=Xe3 h1;subst e1;rw[bA0,bA0,bA0]at h2;exact⟨fx,y,ys,cp,rfl,h2.1.1.1,h2.1.1.2,h2.1.2,h2.2⟩
theorem Xg2{top:Str->Bool}{tg:Expr}(h1:Xd4 t it=true)(h2:mtT top sc N t tg=true)(h3:Xqh it=true):∃es k p,tg=.Tuple es k p:=by
 unfold Xd4 at h1;rw[h3]at h1;cases t with
 |var i=>cases h1
 |tup is =>
  simp only[mtT]at h2;obtain⟨es,h4,_⟩:=Xe h2;obtain⟨k,p,rfl⟩:=Xca h4;exact⟨es,k,p,rfl⟩
end
noncomputable def blts:List Str:=["len","tuple","list","all","any","sum","max","min","range","isinstance","sorted","set","str","repr","zip","enumerate","abs","ValueError","int","bool","dict"]
noncomputable def bmV:List Vb:=[.type "ValueError",.type "Exception",.type "BaseException",.type "object"]
noncomputable def Xvj(K:Vg):Bool :=
 (K.lookup Vb1).isSome&&PySem.W.specialIn K (.builtin "object.__class__") "__get__" == some (some (.builtin "getset_descriptor.__get__"))&&PySem.W.takesIn K (.builtin "object.__class__")==some true &&
 (V0 clsNames.length).all fun c=>match Yy K c with
  |some C=>Vfy K C bmV "ValueError.__new__" && (Vef K (.ref C) "__getattribute__" == some (some (.builtin "BaseException.__getattribute__"))&&Vef K (.ref C) "__getattr__" == some none&&PySem.W.mroIn K C (.type "BaseException")==some true)&&(PySem.W.clsIn K C).isSome&&Vef K (.ref C) "__class__" == some (some (.builtin "object.__class__"))&&PySem.W.mroIn K C (.type "object")==some true &&
   Vfe K (.ref C) (.type "ValueError")==some true&&(V0 clsNames.length).all fun c0=>match Yy K c0 with
    |some C0=>Vfe K (.ref C) (.ref C0)==some (c0==0||c0==c)&&(!(c0==0||c0==c)||PySem.W.exmOne K (.ref C) (.ref C0)==some true)
    |none=>true
  |none=>(Xa7 c).isNone
structure ErrOk(K:Vg):Prop where
 sm:∃o,K.lookup Vb1=some o
 gt:PySem.W.specialIn K (.builtin "object.__class__") "__get__" = some (some (.builtin "getset_descriptor.__get__"))
 tk:PySem.W.takesIn K (.builtin "object.__class__")=some true
 at_:∀c nm,Xa7 c=some nm->∃C,Yy K c=some C/\Vaj K V5 nm=some (some (.ref C))
 cls:∀c C,Yy K c=some C->Vfy K C bmV "ValueError.__new__" = true/\(Vef K (.ref C) "__getattribute__" = some (some (.builtin "BaseException.__getattribute__"))/\Vef K (.ref C) "__getattr__" = some none/\PySem.W.mroIn K C (.type "BaseException")=some true)/\(PySem.W.clsIn K C).isSome=true/\Vef K (.ref C) "__class__" = some (some (.builtin "object.__class__"))/\PySem.W.mroIn K C (.type "object")=some true/\Vfe K (.ref C) (.type "ValueError")=some true
 sub:∀c C c0 C0,Yy K c=some C->Yy K c0=some C0->Vfe K (.ref C) (.ref C0)=some (c0==0||c0==c)/\((c0==0||c0==c)=true->PySem.W.exmOne K (.ref C) (.ref C0)=some true)
theorem Xga{K:Vg}{c:Nat}{C:Addr}(h:Yy K c=some C):c<clsNames.length:=by
 unfold Yy at h;cases q:Xa7 c with
 |none=>rw[q]at h;cases h
 |some _=>exact Xle q
theorem Xz7{K:Vg}(h:Xvj K=true):ErrOk K:=by
 simp only[Xvj,bA0,beq_iff_eq,Ux,Vb2]at h;obtain⟨⟨⟨h0,h1⟩,h2⟩,h3⟩:=h;refine⟨Vbw.mp h0,h1,h2,fun c nm e=>?_,fun c C e=>?_,fun c C c0 C0 e e0=>?_⟩
 ·have:=h3 c (Xle e)
  split at this
  ·rename_i C q
   refine⟨C,q,?_⟩;unfold Yy at q;rw[e,Vs]at q;split at q
   ·rename_i q2;cases q;exact q2
   ·cases q
  ·rw[e]at this;cases this
 ·have:=h3 c (Xga e)
  rw[e]at this;simp only[bA0,beq_iff_eq]at this;obtain⟨⟨⟨⟨⟨⟨a1,⟨⟨a2,a2'⟩,a2''⟩⟩,a3⟩,a4⟩,a5⟩,a6⟩,_⟩:=this;exact⟨a1,⟨a2,a2',a2''⟩,a3,a4,a5,a6⟩
 ·have:=h3 c (Xga e)
  rw[e]at this;simp only[bA0,beq_iff_eq,Ux,Vb2]at this;have z:=this.2 c0 (Xga e0);rw[e0]at z;simp only[bA0,beq_iff_eq,Vb6,Vbv]at z;refine⟨z.1,fun y=>?_⟩
  rcases z.2 with z2|z2
  ·rw[y]at z2;cases z2
  ·exact z2
end Z
end
section
namespace Z
open PySem PySem.Spec PySem.Calls PyProof.Rows L2 PySem.W Builtin Builtin.ObjectAttr Builtin.Getset_descriptor
section
variable{prog:V1}{w:V9}{A:Uu}{E:Vb->Vc->Prop}{K:Frag}{y D:Addr}
theorem Xcg(e:ExcO D y h):Looks M h (typeOf (.ref y)) (.ref D):=by
 obtain⟨ob,_,_,q,cl,_⟩:=e;exact cl▸(Looks.ld q).andThen .now
theorem Xz8 {R:Result->Vc->Prop} (hK:K.In s.heap) (e:ExcO D y s.heap) (mo:mroIn K D (.type "object")=some true) (q:R (.ok (.ret (.ref D))) s) :
  Vcy (Vk prog w) A (.call (.builtin "getset_descriptor.__get__") ⟨[.builtin "object.__class__",.ref y,tv],[]⟩) R s:=by
 obtain⟨hp,gn,dw,tk,os⟩:=s;have T0:=Xcg (M:=Vk prog w) e;have T1:=looks_mroIn (M:=Vk prog w) hK mo;refine Vgi KF.slot_gs.plain KF.entry_gs (KF.slot_gs.check _ _ _ _ _ _ _ _ KF.type_class (KF.args_gs _ _ _) ?_);unfold Va2.«getset_descriptor.__get__» descrGet;rw[dga_obj];refine Va (Vd ?_);unfold descrGetter descrCheckInstance descrNameAndClass isInstance;simp only[KF.owner_class]
 repeat lk
 refine⟨Vg5 _ (by decide+kernel),Va4 KF.entry_class ?_⟩
 unfold Va2.«object.__class__» shownTypeOf
 repeat lk
 exact q
theorem Xvk (hK:K.In h) (h1:findIn K (.ref D) nm=some (some v)) (h2:specialIn K v "__get__" = some (some g)) (h3:takesIn K v=some true):Looks M h (find (.ref y) (.ref D) nm) (.bind g v):=by
 have a1:=looks_findIn (M:=M) hK h1;have a2:Looks M h (getOf (some v)) (some g):=looks_specialIn hK h2;have a3:=looks_takesIn (M:=M) hK h3;exact a1.andThen (a2.andThen ((show Looks M h (dataDescriptor? (some v) (some g)) (some (g,v)) from a3.andThen .now).andThen (Looks.tag .now)))
theorem Xsx (hK:K.In s.heap) (e:ExcO D y s.heap) (h1:findIn K (.ref D) nm=some (some v)) (h2:specialIn K v "__get__" = some (some g)) (h3:takesIn K v=some true)
  (z:Vf (Vk prog w) A (call g [v,.ref y,.ref D]) (fun r s1=>Q (.done (.ret r)) s1) E s) :
  Vf (Vk prog w) A (Va2.«object.__getattribute__» ⟨[.ref y,.str nm tk],[]⟩) Q E s:=by
 obtain⟨hp,gn,dw,t0,os⟩:=s;have T0:=Xcg (M:=Vk prog w) e;have T1:=Xvk (M:=Vk prog w) (y:=y) hK h1 h2 h3;unfold Va2.«object.__getattribute__»;refine Va (Vd ?_);refine Va (Vd ?_);refine Va (T0.at (Va (T1.at ?_)));show Vf (Vk prog w) A (Veu [v] (call g [v,.ref y,.ref D]) >>= ret) _ _ _;exact Va (Uz (Vn z (fun r s1 q=>Vd q) fun _ _ q=>q))
theorem Xsy (hK:K.In s.heap) (e:ExcO D y s.heap) (hm:mroIn K D (.type "BaseException")=some true) (q:Q () s) :
  Vf (Vk prog w) A (Vf3 "BaseException.__getattribute__" ⟨[.ref y,nv],[]⟩) Q E s:=by
 obtain⟨hp,gn,dw,t0,os⟩:=s;have T0:=Xcg (M:=Vk prog w) e;have T3:=looks_mroIn (M:=Vk prog w) hK hm;have kd:builtinKind "BaseException.__getattribute__" = some .slot:=by decide+kernel
 have sp:splitId "BaseException.__getattribute__" = some ("BaseException","__getattribute__"):=by decide+kernel
 have ao:=PySem.F.args_bexc_ga (.ref y) nv;simp only[Vf3,kd,sp];unfold isInstance;refine Va (Va (T0.at (T3.at ?_)));rw[iN0 (by decide)]
 exact Vet ao q
theorem Xvl (hK:K.In s.heap) (e:ExcO D y s.heap) (ga:findIn K (.ref D) "__getattribute__" = some (some (.builtin "BaseException.__getattribute__"))) (gn:findIn K (.ref D) "__getattr__" = some none)
  (hm:mroIn K D (.type "BaseException")=some true) (h1:findIn K (.ref D) nm=some (some v)) (h2:specialIn K v "__get__" = some (some g)) (h3:takesIn K v=some true) (hh:handedIn (.ref D)=true)
  (z:∀A':Uu,Vf (Vk prog w) A' (call g [v,.ref y,.ref D]) (fun r s1=>r=.ref D/\Q (some (.ref D)) s1) (fun _ _=>False) {s with toks:=s.toks+1}) :
  Vf (Vk prog w) A (getAttr? (.ref y) nm) Q E s:=by
 obtain⟨hp,gs,dw,tk,os⟩:=s;have T0:=Xcg (M:=Vk prog w) e;have T1:=looks_findIn (M:=Vk prog w) hK ga;have T2:=looks_findIn (M:=Vk prog w) hK gn;have T3:=looks_mroIn (M:=Vk prog w) hK hm;unfold getAttr? getAttrBy? getAttrBy;refine Va (wpAny_mkText (Va (Vc9 (Uz (Va (T0.at (Va (T1.at ?_))))))));have hno:(onTheHeap (Vas D)&&Value.builtin "BaseException.__getattribute__" == Value.builtin "object.__getattribute__")=false:=by
  have:(Value.builtin "BaseException.__getattribute__" == Value.builtin "object.__getattribute__")=false:=by decide+kernel
  rw[this,Vgp]
 dsimp only;rw[iN0 (by rw[hno];exact V7)]
 unfold getAttrByItsOwn hookBefore;rw[iP0 (by rfl)]
 refine Va (T2.at (Va (Vc9 (Uz ?_))));unfold callGetattribute boundAndCalled;rw[iN0 (by simp)]
 have f3:=PySem.F.excAttr_ValueError.ga.bind (.ref y);rw[f3];refine Va (Vd ?_);refine wpAny_call (Vgi PySem.F.excAttr_ValueError.ga.plain PySem.F.entry_bexc_ga (Xsy (s:=⟨hp,gs,dw,tk+1,os⟩) hK e hm ?_));refine Xsx (s:=⟨hp,gs,dw,tk+1,os⟩) hK e h1 h2 h3 (Vn (z _) (fun r s1 q=>?_) fun _ _ q=>q.elim)
 obtain⟨rfl,q⟩:=q;exact handed_on hh (Vd q)
theorem Xvm (p1:findIn K (.ref D) "__getattribute__" = some (some (.builtin "BaseException.__getattribute__"))) (p0:findIn K (.ref D) "__getattr__" = some none) (p7:mroIn K D (.type "BaseException")=some true) (p2:(clsIn K D).isSome=true) (p3:findIn K (.ref D) "__class__" = some (some (.builtin "object.__class__")))
  (p4:specialIn K (.builtin "object.__class__") "__get__" = some (some (.builtin "getset_descriptor.__get__"))) (p5:takesIn K (.builtin "object.__class__")=some true) (p6:mroIn K D (.type "object")=some true):KitX K (.ref y) (.ref D) (ExcO D y) where
 ty:=fun _ _ _ e=>Xcg e
 it:=fun _ _ hK _=>by
  unfold clsIn at p2;split at p2
  ·rename_i lk
   intro B Q' E' s' k q;unfold isType loadHead;exact Va (wpAny_loadPart (k _ _ (hK _ _ lk)) (Vd q))
  ·cases p2
 ne:=fun hp tp dd its n sl hK ht=>by
  refine Bool.eq_false_iff.mpr fun q=>?_
  have q':D=tp:=Value.ref.inj (beq_iff_eq.mp q);subst q';unfold clsIn at p2;split at p2
  ·rename_i lk
   cases (hK _ _ lk).symm.trans ht
  ·cases p2
 ca:=fun {prog w B E' Q' s'} hK e k=>Xvl hK e p1 p0 p7 p3 p4 p5 rfl fun A'=>wpAny_call (Xz8 (s:={s' with toks:=s'.toks+1}) hK e p6 ⟨rfl,k⟩)
end
end Z
end
section
namespace Z
open PySem PySem.Spec PyProof.Rows L2
noncomputable def Xbd:Ty->Option (Str×String)
 |.int=>some ("int","int")
 |.bool=>some ("bool","bool")
 |.str=>some ("str","str")
 |.tuple=>some ("tuple","tuple")
 |.list=>some ("list","list")
 |.dict=>some ("dict","dict")
 |_=>none
noncomputable def Xgb:Kd->Option String
 |.non=>some "NoneType"
 |.bool=>some "bool"
 |.int=>some "int"
 |.str=>some "str"
 |.tuple=>some "tuple"
 |.list=>some "list"
 |.dict=>some "dict"
 |.exc _=>none
theorem Xeq(h:Xbd t=some (nm,T)):Vdm nm=some (.type T):=by
 cases t<;>simp only[Xbd,Vr,Veq,reduceCtorEq]at h<;>obtain⟨rfl,rfl⟩:=h<;>decide+kernel
theorem Xgc(h:Xbd t=some (nm,T)):nm∈blts:=by
 cases t<;>simp only[Xbd,Vr,Veq,reduceCtorEq]at h<;>obtain⟨rfl,rfl⟩:=h<;>decide
theorem Xib(ht:Xbd t=some (nm,T))(hk:Xgb k=some U)(h:isT k t=some b)(K:Vg):Vfe K (.type U) (.type T)=some b:=by
 cases k<;>simp only[Xgb,Vr,reduceCtorEq]at hk<;>subst hk<;>cases t<;>simp only[Xbd,Vr,Veq,reduceCtorEq]at ht<;>obtain⟨rfl,rfl⟩:=ht<;>simp only[isT,Vr]at h<;>subst h<;>kernel_rfl
section
variable{X:Cx}{pa:List (Addr×Obj)}{σ:L2.St}{H:Hp}{s:Vc}{ρ:List Addr}{S S':Sto}{env:En}{a:Expr}{fa:En->Sto->R D}{pos:Pos}
theorem Xx7(I:S0 X pa σ H s ρ S env)(h:kdD S d=some k)(hU:Xgb k=some U)(rd:RD X.K ρ H d v)(rv:RelV v u) :
  ∃P:Heap->Prop,PySem.W.KitX X.K u (.type U) P/\P s.heap/\u≠.builtin "__main__.__loader__#opaque" := by
 cases d with
 |non=>cases h;cases hU;simp only[RD]at rd;subst rd;cases rv;exact⟨_,PySem.W.kitx_none,trivial,fun z=>nomatch z⟩
 |bl b=>cases h;cases hU;simp only[RD]at rd;subst rd;cases rv;exact⟨_,PySem.W.kitx_bool,trivial,fun z=>nomatch z⟩
 |int i=>cases h;cases hU;simp only[RD]at rd;subst rd;obtain⟨t,rfl⟩:=rv;exact⟨_,PySem.W.kitx_int,trivial,fun z=>nomatch z⟩
 |str x=>cases h;cases hU;simp only[RD]at rd;subst rd;obtain⟨t,rfl⟩:=rv;exact⟨_,PySem.W.kitx_str,trivial,fun z=>nomatch z⟩
 |tup xs =>
  cases h;cases hU;simp only[RD]at rd;obtain⟨p,vs,rfl,hq,_⟩:=rd;cases rv;obtain⟨its,_,pl,_⟩:=I.inv.tuple hq;obtain⟨o,h1,h2,_⟩:=pl;exact⟨_,PySem.W.kitx_tuple,⟨o,h1,h2⟩,fun z=>nomatch z⟩
 |fro xs =>
  cases h;cases hU;simp only[RD]at rd;obtain⟨p,vs,rfl,hq,_⟩:=rd;cases rv;obtain⟨its,_,pl,_⟩:=I.inv.list hq.sq;obtain⟨o,n,h1,h2,_⟩:=pl;exact⟨_,PySem.W.kitx_list,⟨o,h1,h2⟩,fun z=>nomatch z⟩
 |fn _ _=>cases h
 |ref n =>
  simp only[kdD]at h;simp only[RD]at rd;obtain⟨p,rfl,hp⟩:=rd;cases rv;split at h
  ·rename_i xs e
   cases h;cases hU;obtain⟨vs,hv,_⟩:=I.sr.ob n p _ hp e;obtain⟨_,its,n',_,h1⟩:=(show ObjOk X.prog X.w H s.heap p (.lst vs) from I.inv.hok p _ hv);exact⟨_,PySem.W.kitx_list,⟨_,h1,rfl⟩,fun z=>nomatch z⟩
  ·rename_i xs e
   cases h;cases hU;obtain⟨_,hv⟩:=(show(([]:List (List Int×D))=[]/\H p=some (.dK []))\/_ from I.sr.ob n p _ hp e).resolve_right fun z=>z.1 rfl
   obtain⟨_,_,vs,_,o,es,ep,h1,h2,_⟩:=(show ObjOk X.prog X.w H s.heap p (.dK []) from I.inv.hok p _ hv);exact⟨_,PySem.W.kitx_dict,⟨o,h1,h2.1⟩,fun z=>nomatch z⟩
  ·cases h;cases hU
  ·cases h
theorem Xc8 (ht:Xbd t=some (nm,T)) (hb:∀x∈blts,X.mg x=none) (hg0:Gl X "isinstance") (hg:Gl X nm) (hok:Yw nm=true) (ha:DE X a fa) (hst:Yh a=true) :
  DE X (.Call (.Name "isinstance" p0) [a,.Name nm p1] [] pos) (fun env S=>(fa env S).bind fun x S=>match (kdD S x).bind fun k=>Yc k [t] with|some r=>.ok (.bl r) S|none=>.bad):=by
 intro pa s σ H ρ S env I nb;dsimp only at nb ⊢;obtain⟨o1,_,o3⟩:=Xae hok;refine Vad (Yj I.inv hg0 (hb _ (by decide)) (u:=.builtin "isinstance") (by decide+kernel) ?_)
 refine Vao ?_ (Xq hst) rfl;rw[Xq hst];generalize hr:((fa env S).bind fun x S=>match (kdD S x).bind fun k=>Yc k [t] with|some r=>R.ok (D.bl r) S|none=>R.bad)=r at nb ⊢
 refine Vak (ha.bind I (by rw[hr];exact nb) hr.symm (fun d S1 u s1 v H1 ρ1 e1 nb1 I1 rv rd st1=>?_) fun _ _ z=>z)
 refine Vak (Yj I1.inv hg (hb _ (Xgc ht)) (Xeq ht) ?_ o3 o1);refine Vct ?_;cases q:(kdD S1 d).bind fun k=>Yc k [t] with
 |none=>rw[q]at nb1;exact aB0 rfl nb1
 |some b =>
  obtain⟨k,q1,q2⟩:=Vfi.mp q;have q3:isT k t=some b:=by
   unfold Yc at q2;cases e:isT k t with
   |none=>rw[e]at q2;cases q2
   |some c=>rw[e]at q2;cases c<;>simp[Yc]at q2<;>rw[q2]
  rw[e1,q];cases hU:Xgb k with
  |none=>cases k<;>simp only[Xgb,reduceCtorEq]at hU;cases t<;>simp only[Xbd,reduceCtorEq]at ht<;>simp only[isT,reduceCtorEq]at q3
  |some U =>
   obtain⟨P,k1,k2,k3⟩:=Xx7 I1 q1 hU rd rv;exact PySem.W.kia_one k1 I1.inv.kIn k2 (Xib ht hU q3 X.K) k3 fun tk=>OkP.pre st1 (Xi I1.sr (I1.inv.tok tk))
theorem Xsz (er:ErrOk X.K) (ht:(∃c,t=.cls c/\Xa7 c=some nm)\/(t=.valueError/\nm = "ValueError")) (hb:∀x∈blts,X.mg x=none) (hg0:Gl X "isinstance") (hg:Gl X nm) (hok:Yw nm=true) (ha:DE X a fa) (hst:Yh a=true) :
  DE X (.Call (.Name "isinstance" p0) [a,.Name nm p1] [] pos) (fun env S=>(fa env S).bind fun x S=>match (kdD S x).bind fun k=>Yc k [t] with|some r=>.ok (.bl r) S|none=>.bad):=by
 intro pa s σ H ρ S env I nb;dsimp only at nb ⊢;obtain⟨o1,_,o3⟩:=Xae hok;refine Vad (Yj I.inv hg0 (hb _ (by decide)) (u:=.builtin "isinstance") (by decide+kernel) ?_)
 refine Vao ?_ (Xq hst) rfl;rw[Xq hst];generalize hr:((fa env S).bind fun x S=>match (kdD S x).bind fun k=>Yc k [t] with|some r=>R.ok (D.bl r) S|none=>R.bad)=r at nb ⊢
 refine Vak (ha.bind I (by rw[hr];exact nb) hr.symm (fun d S1 u s1 v H1 ρ1 e1 nb1 I1 rv rd st1=>?_) fun _ _ z=>z)
 /- the value is an error -/
 cases q:(kdD S1 d).bind fun k=>Yc k [t] with
 |none=>rw[q]at nb1;exact aB0 rfl nb1
 |some b =>
  rw[e1,q];obtain⟨k,q1,q2⟩:=Vfi.mp q;have q3:isT k t=some b:=by
   unfold Yc at q2;cases e:isT k t with
   |none=>rw[e]at q2;cases q2
   |some c=>rw[e]at q2;cases c<;>simp[Yc]at q2<;>rw[q2]
  obtain⟨c',rfl⟩:∃c',k=.exc c':=by
   rcases ht with⟨c,rfl,_⟩|⟨rfl,_⟩<;>cases k<;>first|exact⟨_,rfl⟩|(simp only[isT,reduceCtorEq]at q3)
  obtain⟨n,rfl,hS⟩:∃n,d=.ref n/\S1[n]?=some (.exc c'):=by
   cases d with
   |ref n =>
    refine⟨n,rfl,?_⟩;simp only[kdD]at q1;split at q1
    ·cases q1
    ·cases q1
    ·rename_i c2 e;cases q1;exact e
    ·cases q1
   |_=>cases q1
  simp only[RD]at rd;obtain⟨p,rfl,hp⟩:=rd;cases rv;obtain⟨C,hC,hH⟩:=(show ∃C,Yy X.K c'=some C/\H1 p=some (.ext (ExcO C p)) from I1.sr.ob n p _ hp hS);obtain⟨_,⟨b1,b2,b3⟩,a3,a4,a5,a6⟩:=er.cls c' C hC;have hE:ExcO C p s1.heap:=(show ObjOk X.prog X.w H1 s1.heap p (.ext (ExcO C p)) from I1.inv.hok p _ hH).1;have kx:=Xvm (y:=p) b1 b2 b3 a3 a4 er.gt er.tk a5;rcases ht with⟨c,rfl,hc⟩|⟨rfl,rfl⟩
  ·obtain⟨C0,h1,h2⟩:=er.at_ c nm hc
   have e3:b=(c==0||c==c'):=by simp only[isT,Vr]at q3;exact q3.symm
   subst e3;refine Vak (Xc2 I1.inv hg (Vc7 I1.inv.mod.kin I1.inv.mod.glob h2) (Vct ?_) o1);exact PySem.W.kia_one kx I1.inv.kIn hE (er.sub c' C c C0 hC h1).1 (fun z=>nomatch z) fun tk=>OkP.pre st1 (Xi I1.sr (I1.inv.tok tk))
  ·have e3:b=true:=by simp only[isT,Vr]at q3;exact q3.symm
   subst e3;refine Vak (Yj I1.inv hg (hb _ (by decide)) (u:=.type "ValueError") (by decide+kernel) (Vct ?_) o3 o1)
   exact PySem.W.kia_one kx I1.inv.kIn hE a6 (fun z=>nomatch z) fun tk=>OkP.pre st1 (Xi I1.sr (I1.inv.tok tk))
end
theorem Xvn(I:Inv X pa σ H s):Vb1<s.heap.objs.size:=by
 have hm:=(I.mod.glob.keeps I.bk).lt;exact V6 (show Vb1<V5 from by decide) (Vb9 hm)
theorem d_dct0:DE X (.Dict [] [] pos) (fun _ S=>.ok (.ref S.length) (S++[.dct []])):=by
 intro pa s σ H ρ S env I _;have hp:H s.heap.objs.size=none:=I.inv.hok.fresh (Vl _);have hb:=Xvn I.inv;have new:ObjOk X.prog X.w (upd H s.heap.objs.size (.dK [])) (s.heap.push {cls:=.type "dict",data:=.dict #[]}) s.heap.objs.size (.dK []) :=
  ⟨Ul _,beq_eq_false_iff_ne.mpr (fun z=>by rw[z]at hb;exact aB0 hb (Vds _)),[],.nil,Heap.DictOf.new s.heap⟩
 have J:=I.inv.laid (t':=s.toks) (fun b u e=>Ve _ e) (Vl _) new
 refine wpAny_Dict_empty ?_;refine .mk (v:=.ref s.heap.objs.size) (ρ':=ρ++[s.heap.objs.size]) (Stp.new1 hp) J rfl ?_ (I.sr.new1 (o:=.dct []) hp (.inl ⟨rfl,X6⟩));simp only[RD];exact⟨_,rfl,by rw[<- I.sr.len];simp⟩
theorem Xe4(n d:Nat)(o:Option Int):Xf4 n d o=HT.sIx n d o:=by
 cases o with
 |none=>rfl
 |some i =>
  simp only[Xf4,HT.sIx]
  by_cases h:i<0
  ·rw[iP0 h,iN0 (by omega)]
  ·rw[iN0 h,iP0 (by omega)]
theorem Xs0{K:Vg}{ρ:List Addr}{H:Hp}{xs:List D}{vs:List V}(h:RDs K ρ H xs vs)(lo hi:Option Int):RDs K ρ H (cut xs lo hi) (Xhp vs lo hi):=by
 unfold cut Xhp;rw[Xe4,Xe4,h.length];exact(h.drop _).take _
section
variable{prog:V1}{w:V9}{A:Uu}{E:Vb->Vc->Prop}{s:Vc}
theorem Xna{items:Array Vb}{lo hi:Option Int}{Q:Vb->Vc->Prop}(ht:IsTup s.heap t items)(hs:s.heap.IsSliceOf sl vl vu .none)(pl:IsPart vl lo)(pu:IsPart vu hi)
  (h1:HT.sIx items.size 0 lo=0) (h2:HT.sIx items.size items.size hi=items.size) (h:Q (.ref t) s):Vf (Vk prog w) A (getItem (.ref t) (.ref sl)) Q E s:=by
 obtain⟨os,hos,hcs,hds⟩:=id hs;have hTs:s.TypeIs (.ref sl) "slice" := ⟨os,hos,hcs⟩;unfold getItem
 try with_reducible refine Uz ?_
 first|refine Va (Vd ?_)|skip
 refine Va (wpAny_sequenceKey ht.typeIs (by decide) (Va (Vae (name:=U9 "__getitem__") ht.typeIs Vch (Uk Vch ht.typeIs entry_tuple_getitem ?_ (args_tuple_getitem _ _)))))
 show Vf _ _ (Vha (.ref t) >>= _) _ _ s;refine Va (tupleItemsOf_ ht (Va (Vdn hTs ?_)));rw[iP0 (by decide)]
 refine Va (HT.sliceApplied_gen hs pl pu ?_);show Vf _ _ (if (((HT.sIx items.size 0 lo:Nat):Int)==0&&(1:Int)==1&&(HT.sIx items.size items.size hi-HT.sIx items.size 0 lo)==items.size)=true then _ else _) _ _ s
 rw[h1,h2,iP0 (by simp)]
 refine Va ?_;unfold Builtin.Tuple.tupleIsExact;refine Va (Vdn ht.typeIs (Vd ?_));rw[iP0 (by decide)]
 exact Va (Vdy (Vd ⟨_,rfl,Vd h⟩))
end
def Xqk(K:Vg)(ρ:List Addr)(H:Hp)(o:Option D)(u:Vb):Prop:=match o with
 |none=>u=.none
 |some d=>∃v,RelV v u/\RD K ρ H d v
def DO(X:Cx)(e:Option Expr)(f:En->Sto->R (Option D)):Prop :=
 ∀(pa:List (Addr×Obj)) (s:Vc) (σ:L2.St) (H:Hp) (ρ:List Addr) (S:Sto) (env:En),S0 X pa σ H s ρ S env->f env S≠.bad ->
  Vf (Vk X.prog X.w) X.A (evalPart e X.env) (fun u s'=>∃o S',f env S=.ok o S'/\∃H' ρ',Inv X pa σ H' s'/\SR X.K ρ' S' H'/\Stp X.K ρ ρ' H H'/\Xqk X.K ρ' H' o u) (ExP X pa σ ρ H (f env S)) s
section
variable{X:Cx}{pa:List (Addr×Obj)}{σ:L2.St}{H:Hp}{s:Vc}{ρ:List Addr}{S S':Sto}{env:En}{a:Expr}{fa:En->Sto->R D}{pos p2:Pos}
theorem Xz9:DO X none (fun _ S=>.ok none S):=by
 intro pa s σ H ρ S env I nb;rw[evalPart_none];exact Vd ⟨none,S,rfl,H,ρ,I.inv,I.sr,.refl,rfl⟩
theorem X0a(h:DE X a fa):DO X (some a) (fun env S=>(fa env S).bind fun x S=>.ok (some x) S):=by
 intro pa s σ H ρ S env I nb;dsimp only at nb ⊢;rw[evalPart_some];refine h.bind I nb rfl (fun d S1 u s1 v H1 ρ1 e1 nb1 I1 rv rd st1=>?_) fun _ _ z=>z
 exact⟨some d,S1,e1,H1,ρ1,I1.inv,I1.sr,st1,v,rv,rd⟩
theorem DO.bind{α:Type}{e:Option Expr}{f:En->Sto->R (Option D)}(h:DO X e f)(I:S0 X pa σ H s ρ S env){k:Option D->Sto->R α}{r:R α}{Q:Vb->Vc->Prop}{E:Vb->Vc->Prop}(nb:(f env S).bind k≠.bad)(hr:r=(f env S).bind k)
  (hQ:∀o S1 u s' H' ρ',r=k o S1->k o S1≠.bad->S0 X pa σ H' s' ρ' S1 env->Xqk X.K ρ' H' o u->Stp X.K ρ ρ' H H'->Q u s') (hE:∀x s',ExP X pa σ ρ H r x s'->E x s'):Vf (Vk X.prog X.w) X.A (evalPart e X.env) Q E s:=by
 cases q:f env S with
 |bad=>rw[q]at nb;exact aB0 rfl nb
 |ex n S1 =>
  rw[q]at hr;refine Vn (h pa s σ H ρ S env I (by rw[q];exact fun z=>nomatch z)) (fun u s' z=>?_) fun x s' z=>?_
  ·obtain⟨o,S2,e,_⟩:=z;rw[q]at e;cases e
  ·obtain⟨m,S2,e,z⟩:=z;rw[q]at e;cases e;exact hE x s' ⟨n,S1,hr,z⟩
 |ok o S1 =>
  rw[q]at hr nb;refine Vn (h pa s σ H ρ S env I (by rw[q];exact fun z=>nomatch z)) (fun u s' z=>?_) fun x s' z=>?_
  ·obtain⟨o',S2,e,H',ρ',J,sr,st,pr⟩:=z
   rw[q]at e;cases e;exact hQ o S1 u s' H' ρ' hr nb (I.step J sr st) pr st
  ·obtain⟨m,S2,e,z⟩:=z;rw[q]at e;cases e
theorem Xoz{K:Vg}{o:Option D}{u:Vb}{oi:Option Int}(h:Xqk K ρ H o u)(e:Xdv o=some oi):IsPart u oi:=by
 cases o with
 |none =>
  have e':some none=some oi:=e;cases e';have h':u=.none:=h;subst h';exact .none
 |some d =>
  cases d with
  |int i =>
   have e':some (some i)=some oi:=e;cases e';obtain⟨v,rv,rd⟩:=h;simp only[RD]at rd;subst rd;obtain⟨t,rfl⟩:=rv;exact .int i t
  |_=>cases e
theorem X74{lo hi:Option Expr}{fl fh:En->Sto->R (Option D)}(ha:DE X a fa)(hl:DO X lo fl)(hh:DO X hi fh) :
  DE X (.Subscript a (.Slice lo hi none p2) pos) (fun env S=>(fa env S).bind fun x S=>(fl env S).bind fun l S=>(fh env S).bind fun h S=>match Xdv l,Xdv h with
   |some l,some h=>Xa6 x l h S
   |_,_=>.bad):=by
 intro pa s σ H ρ S env I nb;dsimp only at nb ⊢;refine Subscript_ (ha.bind I nb rfl (fun d S1 u s1 v H1 ρ1 e1 nb1 I1 rv rd st1=>?_) fun _ _ z=>z)
 rw[e1];refine wpAny_Slice (hl.bind I1 nb1 rfl (fun l S2 vl s2 H2 ρ2 e2 nb2 I2 pl st2=>?_) fun x s' z=>z.pre st1)
 rw[e2];refine hh.bind I2 nb2 rfl (fun h S3 vu s3 H3 ρ3 e3 nb3 I3 pu st3=>?_) fun x s' z=>(z.pre st2).pre st1
 rw[e3];cases q1:Xdv l with
 |none=>rw[q1]at nb3;exact aB0 rfl nb3
 |some li =>
  cases q2:Xdv h with
  |none=>rw[q1,q2]at nb3;exact aB0 rfl nb3
  |some hi' =>
   rw[q1,q2]at nb3;dsimp only at nb3 ⊢;rw[evalPart_none];refine Vd ?_;have P1:=Xoz pl q1;have P2:=Xoz pu q2;have rd3:=(rd.mono st2).mono st3;have J:Inv X pa σ H3 {s3 with heap:=s3.heap.push {cls:=.type "slice",data:=.fields #[vl,vu,.none]} }:=I3.inv.kept (t':=s3.toks) fun b ob q=>Ve _ q
   have fin:∀ {T id:String},typeLookup (.type T) "__getitem__" = pure (some (.builtin id))->({s3 with heap:=s3.heap.push {cls:=.type "slice",data:=.fields #[vl,vu,.none]} }:Vc).TypeIs u T ->
     Vf (Vk X.prog X.w) X.A (getItem u (.ref s3.heap.objs.size)) (OkP X pa σ ρ3 H3 (Xa6 d li hi' S3)) (ExP X pa σ ρ3 H3 (Xa6 d li hi' S3)) {s3 with heap:=s3.heap.push {cls:=.type "slice",data:=.fields #[vl,vu,.none]} } ->
     Vf (Vk X.prog X.w) X.A (Vfu a (.Slice lo hi none p2) u (.ref s3.heap.objs.size)) (OkP X pa σ ρ H (Xa6 d li hi' S3)) (ExP X pa σ ρ H (Xa6 d li hi' S3)) {s3 with heap:=s3.heap.push {cls:=.type "slice",data:=.fields #[vl,vu,.none]} }:=fun t1 t2 g =>
    tail_any (ops:=[.ref s3.heap.objs.size,u]) t2 t1 (Vn g (fun _ _ z=>OkP.pre ((st1.trans st2).trans st3) z) fun _ _ z=>ExP.pre ((st1.trans st2).trans st3) z) (by with_unfolding_all rfl)
   cases d with
   |tup xs =>
    simp only[RD]at rd3;obtain⟨p,vs,rfl,hq,hr⟩:=rd3;cases rv;obtain⟨its,r,ht,hz⟩:=J.tuple hq;have hlen:its.toArray.size=vs.length:=by rw[Vp];exact r.length.symm
    refine fin PyProof.Rows.slot_tuple_getitem.lookup ht.typeIs ?_
    by_cases hw:HT.sIx vs.length 0 li=0/\HT.sIx vs.length vs.length hi'=vs.length
    ·refine Xna ht (Vg6 ..) P1 P2 (by rw[hlen];exact hw.1) (by rw[hlen];exact hw.2) ?_
     have e:cut xs li hi'=xs:=by
      unfold cut;rw[Xe4,Xe4,hr.length,hw.1,hw.2,Vgr,Nat.sub_zero,<- hr.length,Vc1]
     refine .mk (v:=.ref p) .refl J rfl ?_ I3.sr;rw[e];simp only[RD];exact⟨p,vs,rfl,hq,hr⟩
    ·refine HT.getItem_tuple_cut ht (Vg6 ..) P1 P2 (by rw[hlen];exact hw) ?_ (by rw[hlen];exact hz)
     rw[hlen];refine Xb7 (vs:=Xhp vs li hi') (J.laid (t':=s3.toks) (fun b ob q=>Ve _ q) (Vl _) ?_) (J.hok.fresh (Vl _)) I3.sr (Xs0 hr li hi')
     exact⟨U4 (Xfm vs li hi') hz,_,(r.drop (HT.sIx vs.length 0 li)).take (HT.sIx vs.length vs.length hi'-HT.sIx vs.length 0 li),⟨_,Vm _ rfl,rfl,_,rfl⟩⟩
   |ref n =>
    cases e4:Xc S3 n with
    |none=>simp[Xa6,e4]at nb3
    |some xs =>
     obtain⟨b,vs,k1,k2,k3⟩:=I3.list e4;simp only[RD]at rd3;obtain⟨b',rfl,k4⟩:=rd3;rw[k1]at k4;cases k4;cases rv;obtain⟨its,r,ht,hz⟩:=J.list (.of k2);have hlen:=r.length;refine fin slot_list_getitem.lookup ht.isList.typeIs ?_;refine wpAny_getItem_list_slice ht.isList (Vg6 ..) P1 P2 .none (by simp) ?_ (by rw[Vp]<;>omega)
     rw[Xke,<- hlen];have e5:Xa6 (.ref n) li hi' S3=.ok (.ref S3.length) (S3++[.lst (cut xs li hi')]):=by simp only[Xa6,e4]
     rw[e5];refine Xac (vs:=Xhp vs li hi') (J.laid (t':=s3.toks) (fun b ob q=>Ve _ q) (Vl _) ?_) (J.hok.fresh (Vl _)) I3.sr (Xs0 k3 li hi')
     exact⟨U4 (Xfm vs li hi') hz,_,0,(r.drop (HT.sIx vs.length 0 li)).take (HT.sIx vs.length vs.length hi'-HT.sIx vs.length 0 li),Vm _ rfl⟩
   |_=>exact aB0 rfl nb3
end
theorem X0b{K:Vg}{k:Kd}{t1 t2:Ty}{n1 n2:Str}{T1 T2 U:String}{b:Bool}(h1:Xbd t1=some (n1,T1))(h2:Xbd t2=some (n2,T2))(hk:Xgb k=some U)(h:Yc k [t1,t2]=some b) :
  PySem.W.kitAny K (.type U) [.type T1,.type T2]=some b:=by
 simp only[Yc]at h;unfold PySem.W.kitAny;cases e1:isT k t1 with
 |none=>rw[e1]at h;cases h
 |some c1 =>
  rw[e1]at h;rw[Xib h1 hk e1 K];cases c1 with
  |true=>cases h;rfl
  |false =>
   dsimp only at h ⊢;unfold PySem.W.kitAny;cases e2:isT k t2 with
   |none=>rw[e2]at h;cases h
   |some c2 =>
    rw[e2]at h;rw[Xib h2 hk e2 K];cases c2 with
    |true=>cases h;rfl
    |false=>cases h;rfl
section
variable{X:Cx}{pa:List (Addr×Obj)}{σ:L2.St}{H:Hp}{s:Vc}{ρ:List Addr}{S S':Sto}{env:En}{a:Expr}{fa:En->Sto->R D}{pos:Pos}
theorem X4s (h1:Xbd t1=some (n1,T1)) (h2:Xbd t2=some (n2,T2)) (hb:∀x∈blts,X.mg x=none) (hg0:Gl X "isinstance") (g1:Gl X n1) (g2:Gl X n2) (o1:Yw n1=true) (o2:Yw n2=true) (ha:DE X a fa) (hst:Yh a=true) :
  DE X (.Call (.Name "isinstance" p0) [a,.Tuple [.Name n1 q1,.Name n2 q2] k3 p3] [] pos) (fun env S=>(fa env S).bind fun x S=>match (kdD S x).bind fun k=>Yc k [t1,t2] with|some r=>.ok (.bl r) S|none=>.bad):=by
 intro pa s σ H ρ S env I nb;dsimp only at nb ⊢;obtain⟨a1,_,a3⟩:=Xae o1;obtain⟨b1,_,b3⟩:=Xae o2;refine Vad (Yj I.inv hg0 (hb _ (by decide)) (u:=.builtin "isinstance") (by decide+kernel) ?_)
 refine Vao ?_ (Xq hst) rfl;rw[Xq hst];generalize hr:((fa env S).bind fun x S=>match (kdD S x).bind fun k=>Yc k [t1,t2] with|some r=>R.ok (D.bl r) S|none=>R.bad)=r at nb ⊢
 refine Vak (ha.bind I (by rw[hr];exact nb) hr.symm (fun d S1 u s1 v H1 ρ1 e1 nb1 I1 rv rd st1=>?_) fun _ _ z=>z)
 refine Vak (Vgl (x1:=k3) (Vak (Yj I1.inv g1 (hb _ (Xgc h1)) (Xeq h1) (Vak (Yj I1.inv g2 (hb _ (Xgc h2)) (Xeq h2) (Vct ⟨by show 2<=Vw;decide,?_⟩) b3 b1)) a3 a1)))
 refine Vct ?_;cases q:(kdD S1 d).bind fun k=>Yc k [t1,t2] with
 |none=>rw[q]at nb1;exact aB0 rfl nb1
 |some b =>
  obtain⟨k,k1,k2⟩:=Vfi.mp q;rw[e1,q];have J:Inv X pa σ H1 {s1 with heap:=s1.heap.push {cls:=.type "tuple",data:=.seq #[.type T1,.type T2]} }:=I1.inv.kept (t':=s1.toks) fun b ob q=>Ve _ q
  have I2:S0 X pa σ H1 {s1 with heap:=s1.heap.push {cls:=.type "tuple",data:=.seq #[.type T1,.type T2]} } ρ1 S1 env:=⟨J,I1.sr,I1.er⟩
  cases hU:Xgb k with
  |none =>
   cases k with
   |exc c =>
    simp only[Yc]at k2;have z:isT (.exc c) t1=none:=by cases t1<;>simp only[Xbd,reduceCtorEq]at h1<;>rfl
    rw[z]at k2;cases k2
   |_=>cases hU
  |some U =>
   obtain⟨P,z1,z2,z3⟩:=Xx7 I2 k1 hU rd rv;exact PySem.W.kia_tup (its:=[.type T1,.type T2]) z1 J.kIn z2 (Vm _ rfl) (X0b h1 h2 hU k2) z3 fun tk=>OkP.pre st1 (Xi I1.sr (J.tok tk))
end
end Z
end
section
namespace Z
open PySem PySem.Spec PyProof.Rows L2
open Builtin.Slice (sliceAdjust slicePlaces)
section
variable{prog:V1}{w:V9}{A:Uu}{E:Vb->Vc->Prop}{s:Vc}
end
section
variable{X:Cx}{pa:List (Addr×Obj)}{σ:L2.St}{H:Hp}{s:Vc}{ρ:List Addr}{S S':Sto}{env:En}{a:Expr}{fa:En->Sto->R D}{pos p2:Pos}
end
end Z
end
section
namespace Z
open PySem PySem.Spec PyProof.Rows L2
section
variable{X:Cx}{pa:List (Addr×Obj)}{σ:L2.St}{H:Hp}{s:Vc}{ρ:List Addr}{S:Sto}{env:En}{a b:Expr}{es:List Expr}{fa:En->Sto->R D}{g:En->Sto->R (List D)}{p pos pos':Pos}
end
section
variable(cm:Bool)(F:Fn)(G:List D)(fns:List (Str×Nat×Bool))(gns:List Str)
structure PF(X:Cx):Prop where
 blt:∀x∈blts,X.mg x=none
 fn:∀(f:Nat) nm ar fl,fns[f]?=some (nm,ar,fl)->(fl=true->cm=true)->∃g fd ps k,FnD fl X.prog X.w X.K X.mg X.base k g fd ps (F f)/\RoomC fl k X.A/\Binds X.K fd ps []/\X.mg nm=some (.ref g)/\Vdk X.K (.ref g)=true/\ps.length=ar
 glb:∀(k:Nat) nm,gns[k]?=some nm->∃u d,X.mg nm=some u/\G[k]?=some d/\∀ ρ H,∃v,RelV v u/\RD X.K ρ H d v
 cal:∀(f:Nat) (nm:Str),Xbu f nm G=true->∃ar fl,fns[f]?=some (nm,ar,fl)/\(∀a,Vaj X.K V5 nm=some (some (.ref a))->X.mg nm=some (.ref a))/\∀xs S,F f xs S≠.bad->xs.length=ar
 units:X.A.units+200<cLine
 gd:X.A.guards=some []
 calm:cm=true->X.calm=true
 err:ErrOk X.K
theorem PF.blk(h:PF cm F G fns gns X)(pa:List (Addr×Obj))(s:Vc)(H:Hp)(sc:Uv)(cl:List (Str×Addr))(C:Addr)(own:List Str)(fp:List Addr):PF cm F G fns gns (blk X pa s H sc cl C own fp) :=
 ⟨h.blt,h.fn,h.glb,h.cal,h.units,h.gd,h.calm,h.err⟩
end
section
variable{X:Cx}{e:Expr}{f g:En->Sto->R D}
theorem DE.congr(h:DE X e f)(q:∀env S,g env S=f env S):DE X e g:=by
 have:g=f:=funext fun env=>funext fun S=>q env S
 rw[this];exact h
theorem DT.congr{f g:En->Sto->R Bool}(h:DT X e f)(q:∀env S,g env S=f env S):DT X e g:=by
 have:g=f:=funext fun env=>funext fun S=>q env S
 rw[this];exact h
theorem X9l(hnd:X.N.Nodup)(ht:∀x,top x=true->X.fn x=true)(is:List Nat)(es:List Expr)(h:mtT.namesB top X.env.scope X.N is es=true):(∀E,PGs (X.wish E) es (gNs is))/\(Vbe es X.env).length=is.length/\(Vbe es X.env).findIdx? (·.1)=none:=by
 have key:∀(is:List Nat) (es:List Expr),mtT.namesB top X.env.scope X.N is es=true->∃xs:List (Str×Pos),es=xs.map (fun x=>Expr.Name x.1 x.2)/\is.length=xs.length/\∀(j i:Nat) (x:Str×Pos),is[j]?=some i->xs[j]?=some x->X.N[i]?=some x.1/\Loc X.env.scope x.1/\(X.fn x.1=true\/X.env.scope.names.lookup x.1=some .local):=by
  intro is
  induction is with
  |nil =>
   intro es h;cases es with
   |nil=>exact⟨[],rfl,rfl,fun j i x e1 _=>by simp at e1⟩
   |cons _ _=>simp[mtT.namesB]at h
  |cons i is ih =>
   intro es h;cases es with
   |nil=>simp[mtT.namesB]at h
   |cons e es =>
    simp only[mtT.namesB,bA0]at h;obtain⟨x,h1,h2⟩:=Xe h.1;obtain⟨p,rfl⟩:=Xbc h1;rw[bA0,decide_eq_true_eq]at h2;obtain⟨xs,e1,e2,e3⟩:=ih es h.2;obtain⟨l1,l2⟩:=Xh4 rfl ht h2.2;refine⟨(x,p)::xs,by rw[e1];rfl,by simp[e2],fun j i' x' q1 q2=>?_⟩
    cases j with
    |zero=>simp at q1 q2;subst q1 q2;exact⟨h2.1,l1,l2⟩
    |succ j=>exact e3 j i' x' (by simpa using q1) (by simpa using q2)
 obtain⟨xs,e1,e2,e3⟩:=key is es h;subst e1;have nm:=Xgu xs X.env;exact⟨fun E=>Xsg (X:=X.wish E) is xs hnd e2 e3,by rw[nm.1,e2],nm.2⟩
theorem X9m(hnd:X.N.Nodup)(ht:∀x,top x=true->X.fn x=true)(h:mtT top X.env.scope X.N (.tup is) tg=true):∃es k p,tg=.Tuple es k p/\(∀E,PGs (X.wish E) es (gNs is))/\(Vbe es X.env).length=is.length/\(Vbe es X.env).findIdx? (·.1)=none:=by
 simp only[mtT]at h;obtain⟨es,h1,h⟩:=Xe h;obtain⟨k,p,rfl⟩:=Xca h1;exact⟨es,k,p,rfl,X9l hnd ht is es h⟩
theorem dgB(hN:X.N=N)(hs:X.env.scope=sc)(hnd:N.Nodup)(hc:X3z t=false->X.calm=true)(ht:∀x,top x=true->X.fn x=true)(h:mtT top sc N t tg=true):DG X tg t:=by
 subst hN hs;cases t with
 |var i =>
  simp only[mtT]at h;obtain⟨x,h1,h2⟩:=Xe h;obtain⟨p,rfl⟩:=Xbc h1;rw[bA0,decide_eq_true_eq]at h2;obtain⟨l1,l2⟩:=Xh4 rfl ht h2.2;exact Xzc hnd h2.1 l1 l2
 |tup is =>
  obtain⟨es,k,p,rfl,q1,q2,q3⟩:=X9m hnd ht h;exact X3b (hc rfl) q1 q2 q3
end
theorem Xo0:∀(es:Exs) (xs:List Expr),mts cm fns gns sc N es xs=true->∀env S ds S',evs F G es env S=.ok ds S'->ds.length=xs.length
 |.nil,[],_,env,S,ds,S',h=>by simp only[evs]at h;cases h;rfl
 |.nil,_::_,h,_,_,_,_,_=>by simp[mts]at h
 |.cons _ _,[],h,_,_,_,_,_=>by simp[mts]at h
 |.cons e es,x::xs,h,env,S,ds,S',q=>by
  simp only[mts,bA0]at h;simp only[evs]at q;cases q1:ev F G e env S with
  |bad=>rw[q1]at q;cases q
  |ex _ _=>rw[q1]at q;cases q
  |ok d S1 =>
   rw[q1]at q;simp only[Rk0]at q;cases q2:evs F G es env S1 with
   |bad=>rw[q2]at q;cases q
   |ex _ _=>rw[q2]at q;cases q
   |ok ds' S2 =>
    rw[q2]at q;simp only[Rk0]at q;cases q;simp[Xo0 es xs h.2 env S1 ds' _ q2]
theorem Xan:∀(es:Exs) (xs:List Expr),mts cm fns gns sc N es xs=true->xs.all Yh=true
 |.nil,[],_=>rfl
 |.nil,_::_,h=>by simp[mts]at h
 |.cons _ _,[],h=>by simp[mts]at h
 |.cons e es,x::xs,h=>by
  simp only[mts,bA0]at h;rw[Vbq,h.1.1,Xan es xs h.2];rfl
theorem X0c{k:Bl}{nm:Str}{b:Bool}{id:String}(h:Xqe k=some (nm,b,id))(hsm:∃o,X.K.lookup Vb1=some o)(hgd:X.A.guards=some [])(hun:X.A.units+200<cLine)(hc:Xqf k=false->X.calm=true):nm∈blts/\(if b then Vdm nm=some (.builtin id)/\BlR X k (.builtin id) else Vdm nm=some (.type id)/\BlR X k (.type id)):=by
 cases k<;>simp only[Xqe,Vr,Veq,reduceCtorEq]at h<;>obtain⟨rfl,rfl,rfl⟩:=h
 case len=>exact⟨by decide,PySem.boot_len,X7j⟩
 case min=>exact⟨by decide,by decide+kernel,X7o (hc rfl)⟩
 case max=>exact⟨by decide,by decide+kernel,X7n (hc rfl)⟩
 case mxl=>exact⟨by decide,by decide+kernel,X7p (hc rfl)⟩
 case sum=>exact⟨by decide,by decide+kernel,X7m (hc rfl)⟩
 case sorted=>exact⟨by decide,by decide+kernel,Xva⟩
 case srt=>exact⟨by decide,by decide+kernel,X7w⟩
 case all=>exact⟨by decide,by decide+kernel,X7k (hc rfl)⟩
 case anb=>exact⟨by decide,by decide+kernel,X7l (hc rfl)⟩
 case tuple=>exact⟨by decide,by decide+kernel,Xzk⟩
 case list=>exact⟨by decide,by decide+kernel,X3m⟩
 case repr=>exact⟨by decide,by decide+kernel,X3u hsm hgd hun⟩
 case int=>exact⟨by decide,by decide+kernel,X7v⟩
section
variable{F:Fn}{G:List D}{cm:Bool}{fns:List (Str×Nat×Bool)}{gns:List Str}
theorem X0d(h:Xvc fx=true)(args:List Expr)(pos:Pos)(env:Vbd):eval (.Call fx args [] pos) env=(do callWith pos (<- eval fx env) [] (Vbg pos (V3 args env)) (backToKw pos (Vft [] env))):=by
 cases fx<;>first|rfl|cases h
theorem X75(hp:PF cm F G fns gns X)(hc:cm=true)(hx:∀(args:List Expr) (pos:Pos) (env:Vbd),eval (.Call fx args [] pos) env=(do callWith pos (<- eval fx env) [] (Vbg pos (V3 args env)) (backToKw pos (Vft [] env))))
  (hf:DE X fx f) (ha:DA X (e::es) ga) (he:V3 (e::es) X.env=(false,eval e X.env)::V3 es X.env) (hpl:(Vbg pos (V3 es X.env)).any (·.1)=false) :
  DE X (.Call fx (e::es) [] pos) (fun env S=>(f env S).bind fun x S=>match x with
   |.fn k nm=>if Xbu k nm G then (ga env S).bind fun xs S=>F k xs S else .bad
   |_=>.bad):=by
 intro pa s σ H ρ S env I nb;dsimp only at nb ⊢;rw[hx];refine Va (hf.bind I nb rfl (fun d S1 u s1 v H1 ρ1 e1 nb1 I1 rv rd st1=>?_) fun _ _ z=>z)
 rw[e1];cases d with
 |fn k nm =>
  dsimp only at nb1 ⊢
  by_cases hi:Xbu k nm G=true
  ·rw[iP0 hi]at nb1 ⊢
   obtain⟨ar,fl,q1,q2,q3⟩:=hp.cal k nm hi;obtain⟨g,fd,ps,kk,c1,c2,c3,c4,c5,c6⟩:=hp.fn k nm ar fl q1 fun _=>hc
   simp only[RD]at rd;obtain⟨a,rfl,hn⟩:=rd;have:=(q2 a hn).symm.trans c4;cases this;cases rv;cases q:ga env S1 with
   |bad=>rw[q]at nb1;exact aB0 rfl nb1
   |ex n S2=>exact Ve7 (h₀:=X.base) I1.inv.ok.mod.kin c5 (ha.ex I1 q fun x s' z=>⟨n,S2,rfl,z.pre st1⟩) he hpl
   |ok ds S2 =>
    rw[q]at nb1;simp only[Rk0]at nb1 ⊢;refine Ve7 (h₀:=X.base) I1.inv.ok.mod.kin c5 (ha.ok I1 q fun us s2 vs H2 ρ2 I2 rv2 rd2 st2=>⟨I2.inv.kIn,?_⟩) he hpl
    exact Vn (Xxx c1 c2 c3 I2 rv2 rd2 (by rw[c6];exact q3 _ _ nb1) nb1) (fun u s2 z=>(z.pre st2).pre st1) fun x s2 z=>(z.pre st2).pre st1
  ·rw[iN0 hi]at nb1;exact aB0 rfl nb1
 |_=>exact aB0 rfl nb1
theorem Yi(h:DE X e f)(he:∀whole,isTrue e X.env whole=(do let v <- whole;standAt e.pos;Veu [v] (truthy v))):DE X e f/\DT X e (fun env S=>tst (f env S)):=⟨h,.of h he⟩
theorem DW.of(h:DT X (.BoolOp op ys p) g):DW X (.BoolOp op ys p) g:=fun _=>h
def Xvo(F:Fn)(G:List D)(X:Cx)(sc2:Uv)(N2:List Str)(PFY:Cx->Prop):Gens->List Va3->Prop
 |.cons t it ifs .nil,gens=>∃tg iter cs,gens=[⟨tg,iter,cs,0⟩]/\Xba iter=true/\mtT (Xa0 X.N N2) sc2 N2 t tg=true/\DI X tg iter (evit F G it)/\∀Y:Cx,Y.N=N2->Y.env.scope=sc2->PFY Y->DTs Y cs (evts F G ifs)
 |.cons t it ifs (.cons t2 it2 ifs2 .nil),gens=>∃tg iter cs tg2 iter2 cs2,gens=[⟨tg,iter,cs,0⟩,⟨tg2,iter2,cs2,0⟩]/\Xba iter=true/\Xba iter2=true/\mtT (Xa0 X.N N2) sc2 N2 t tg=true/\mtT (Xa0 X.N N2) sc2 N2 t2 tg2=true/\DI X tg iter (evit F G it) /\
   (∀Y:Cx,Y.N=N2->Y.env.scope=sc2->PFY Y->DTs Y cs (evts F G ifs))/\(∀Y:Cx,Y.N=N2->Y.env.scope=sc2->PFY Y->DI Y tg2 iter2 (evit F G it2))/\∀Y:Cx,Y.N=N2->Y.env.scope=sc2->PFY Y->DTs Y cs2 (evts F G ifs2)
 |_,_=>False
structure CompP(X:Cx)(elt:Expr)(gens:List Va3)(scope:Uv)(cpos:Pos)(own:List Str)(f:En->Sto->R D) where
 tg:Expr
 iter:Expr
 ifs:List Expr
 t:Tg
 fi:En->Sto->R Src
 tf:En->Sto->R Bool
 body:En->List D->Sto->R (List D)
 hg:gens=⟨tg,iter,ifs,0⟩::gens.tail
 hi:DI X tg iter fi
 hs:∀x,Vbf iter X.env x=pure x
 hG:∀pa s H cl C fp,DG (blk X pa s H scope cl C own fp) tg t
 hT:∀pa s H cl C fp,DTs (blk X pa s H scope cl C own fp) ifs tf
 hB:∀pa s H cl C fp Da,Xbn false (LstA X.K Da) (blk X pa s H scope cl C own fp) Da elt gens scope cpos 0 body
 eq:f=Xej fi t own.length tf body
theorem Xo1(hN:X.N=N)(hs:X.env.scope=sc)(hp:PF cm F G fns gns X)(hc:X.calm=true)(so:ScOk sc scope N (Xy scope))
  (hg:Xvo F G X (Xbb scope sc) (Ym N (Xy scope)) (PF cm F G fns gns) gs gens) (he:∀Y:Cx,Y.N=Ym N (Xy scope)->Y.env.scope=Xbb scope sc->PF cm F G fns gns Y->DE Y elt (ev F G xe)) :
  Nonempty (CompP X elt gens scope p (Xy scope) (ev F G (.cmr false (Xy scope).length gs xe))):=by
 subst hN hs;have hY:∀pa s H cl C fp,PF cm F G fns gns (blk X pa s H scope cl C (Xy scope) fp):=fun pa s H cl C fp=>PF.blk cm F G fns gns hp pa s H scope cl C (Xy scope) fp
 have hTg:∀ {t:Tg} {tg:Expr},mtT (Xa0 X.N (Ym X.N (Xy scope))) (Xbb scope X.env.scope) (Ym X.N (Xy scope)) t tg=true->∀pa s H cl C fp,DG (blk X pa s H scope cl C (Xy scope) fp) tg t:=fun h pa s H cl C fp=>dgB (top:=Xa0 X.N (Ym X.N (Xy scope))) rfl rfl so.nd (fun _=>hc) (fun _ z=>Xow z) h
 match gs,hg with
 |.cons t it ifs .nil,hg =>
  obtain⟨tg,iter,cs,rfl,n1,m1,i1,t1⟩:=hg;refine⟨⟨tg,iter,cs,t,evit F G it,evts F G ifs,_,rfl,i1,Xaz n1,hTg m1,fun pa s H cl C fp=>t1 _ rfl rfl (hY pa s H cl C fp),fun pa s H cl C fp Da=>Xjw rfl (he _ rfl rfl (hY pa s H cl C fp)),?_⟩⟩
  funext env S
  simp only[ev,Xej];rfl
 |.cons t it ifs (.cons t2 it2 ifs2 .nil),hg =>
  obtain⟨tg,iter,cs,tg2,iter2,cs2,rfl,n1,n2,m1,m2,i1,t1,i2,t2'⟩:=hg;refine⟨⟨tg,iter,cs,t,evit F G it,evts F G ifs,_,rfl,i1,Xaz n1,hTg m1,fun pa s H cl C fp=>t1 _ rfl rfl (hY pa s H cl C fp),
   fun pa s H cl C fp Da=>Xjx LstA.ok hc rfl (i2 _ rfl rfl (hY pa s H cl C fp)) (Xaz n2) (hTg m2 pa s H cl C fp) (t2' _ rfl rfl (hY pa s H cl C fp)) (Xjw rfl (he _ rfl rfl (hY pa s H cl C fp))),?_⟩⟩
  funext env S
  simp only[ev,Xej];rfl
theorem X4t (hN:X.N=N) (hs:X.env.scope=sc) (hp:PF cm F G fns gns X) (hc:X.calm=true) (so:ScOk sc scope N (Xy scope)) (hgl:Gl X "sorted") (hml:X.mg "sorted" = none)
  (hg:Xvo F G X (Xbb scope sc) (Ym N (Xy scope)) (PF cm F G fns gns) gs gens) (he:∀Y:Cx,Y.N=Ym N (Xy scope)->Y.env.scope=Xbb scope sc->PF cm F G fns gns Y->DE Y elt (ev F G xe)) :
  DE X (.Call (.Name "sorted" p0) [.SetComp elt gens scope p] [] cp) (ev F G (.cms (Xy scope).length gs xe)):=by
 subst hN hs;have hY:∀pa s H cl C fp,PF cm F G fns gns (blk X pa s H scope cl C (Xy scope) fp):=fun pa s H cl C fp=>PF.blk cm F G fns gns hp pa s H scope cl C (Xy scope) fp
 have hTg:∀ {t:Tg} {tg:Expr},mtT (Xa0 X.N (Ym X.N (Xy scope))) (Xbb scope X.env.scope) (Ym X.N (Xy scope)) t tg=true->∀pa s H cl C fp,DG (blk X pa s H scope cl C (Xy scope) fp) tg t:=fun h pa s H cl C fp=>dgB (top:=Xa0 X.N (Ym X.N (Xy scope))) rfl rfl so.nd (fun _=>hc) (fun _ z=>Xow z) h
 match gs,hg with
 |.cons t it ifs .nil,hg =>
  obtain⟨tg,iter,cs,rfl,n1,m1,i1,t1⟩:=hg;refine(Xx5 (n:=(Xy scope).length) hgl hml hc so rfl rfl i1 (Xaz n1) (hTg m1) (fun pa s H cl C fp=>t1 _ rfl rfl (hY pa s H cl C fp)) fun pa s H cl C fp Da=>Xgz (Y:=blk X pa s H scope cl C (Xy scope) fp) rfl (he _ rfl rfl (hY pa s H cl C fp))).congr fun env S=>?_
  simp only[ev,Xqa]
  all_goals rfl
 |.cons t it ifs (.cons t2 it2 ifs2 .nil),hg =>
  obtain⟨tg,iter,cs,tg2,iter2,cs2,rfl,n1,n2,m1,m2,i1,t1,i2,t2'⟩:=hg;refine(Xx5 (n:=(Xy scope).length) hgl hml hc so rfl rfl i1 (Xaz n1) (hTg m1) (fun pa s H cl C fp=>t1 _ rfl rfl (hY pa s H cl C fp)) fun pa s H cl C fp Da=>Xjx (SetA.ok (X:=blk X pa s H scope cl C (Xy scope) fp)) hc rfl (i2 _ rfl rfl (hY pa s H cl C fp)) (Xaz n2) (hTg m2 pa s H cl C fp) (t2' _ rfl rfl (hY pa s H cl C fp)) (Xgz (Y:=blk X pa s H scope cl C (Xy scope) fp) rfl (he _ rfl rfl (hY pa s H cl C fp)))).congr fun env S=>?_
  simp only[ev,Xqa]
  all_goals rfl
theorem Xvp {k:Bl} {es:Exs} {x:Str} {ys:List Expr} (hsm:∃o,X.K.lookup Vb1=some o) (hgd:X.A.guards=some []) (hun:X.A.units+200<cLine) (hg:Gl X x) (hb:∀x∈blts,X.mg x=none) (hc:Xqf k=false->X.calm=true) (h1:blB k x=true) (o1:(x==("__debug__" : Str))=false) (o3:x ≠ "__name__") (ih:DA X (y::ys) (evs F G es))
  (he:V3 (y::ys) X.env=(false,eval y X.env)::V3 ys X.env) (hpl:(Vbg p (V3 ys X.env)).any (·.1)=false):DE X (.Call (.Name x p0) (y::ys) [] p) (ev F G (.blt k es)):=by
 unfold blB at h1;cases q:Xqe k with
 |none=>rw[q]at h1;cases h1
 |some z =>
  obtain⟨nm,b,id⟩:=z;rw[q]at h1;dsimp only at h1;have e1:x=nm:=oD0 h1;subst e1;obtain⟨m1,m2⟩:=X0c q hsm hgd hun hc;cases b with
  |true =>
   rw[iP0 rfl]at m2;exact(X3s m2.2 hg (hb _ m1) m2.1 ih o3 o1 he hpl).congr fun env S=>by simp only[ev]
  |false =>
   rw[iN0 V7]at m2;exact(X3t m2.2 hg (hb _ m1) m2.1 ih o3 o1 he hpl).congr fun env S=>by simp only[ev]
theorem Xvq(h1:mtB k nm=true)(h2:Xd3 ox=true)(h3:(ap.endLine==cp.line)=true)(h4:(y::ys).length<29)(io:DE X ox (ev F G o))(ih:DA X (y::ys) (evs F G es))(st:(y::ys).all Yh=true) :
  DE X (.Call (.Attribute ox nm ap) (y::ys) [] cp) (ev F G (.mth k o es)):=by
 have hfew:((Vbg cp (V3 (y::ys) X.env)).all (fun x=>!x.1)&&(backToKw cp (Vft [] X.env)).all (fun x=>x.1.isSome)&&decide ((y::ys).length+([]:List Vdt).length+(if ([]:List Vdt).isEmpty then 0 else 1)<30))=true:=by
  rw[Xl1 st];have:(y::ys).length+([]:List Vdt).length+(if ([]:List Vdt).isEmpty then 0 else 1)<30:=by
   simp only[Vco,List.isEmpty_nil,if_true];omega
  rw[decide_eq_true this];rfl
 rw[Vbq,bA0]at st;have rcv:∀ {m:Mt} (x:D) (S:Sto),Xcm m x S=true->∃n xs,x=.ref n/\Xc S n=some xs:=fun {m} x S h=>by
  cases x with
  |ref n =>
   have h':(Xc S n).isSome=true:=h;obtain⟨xs,e⟩:=Vbw.mp h';exact⟨n,xs,rfl,e⟩
  |_=>cases h
 cases k with
 |append =>
  have e1:nm = "append" := oD0 h1;subst e1;exact(Xgx (m:=.append) (id := "list.append") PySem.F.slot_list_append PySem.F.type_list_append Xu9 rcv io ih (Xb9 h2) hfew h3 (Xq st.1) (Yz st.2)).congr fun env S=>by simp only[ev]
 |xtd =>
  have e1:nm = "extend" := oD0 h1;subst e1;exact(Xgx (m:=.xtd) (id := "list.extend") PySem.F.slot_list_extend PySem.F.type_list_extend X7q rcv io ih (Xb9 h2) hfew h3 (Xq st.1) (Yz st.2)).congr fun env S=>by simp only[ev]
 |count =>
  have e1:nm = "count" := oD0 h1;subst e1;exact(Xgx (m:=.count) (id := "list.count") PySem.F.slot_list_count PySem.F.type_list_count Xzl rcv io ih (Xb9 h2) hfew h3 (Xq st.1) (Yz st.2)).congr fun env S=>by simp only[ev]
 |index =>
  have e1:nm = "index" := oD0 h1;subst e1;exact(Xgx (m:=.index) (id := "list.index") PySem.F.slot_list_index PySem.F.type_list_index Xzm rcv io ih (Xb9 h2) hfew h3 (Xq st.1) (Yz st.2)).congr fun env S=>by simp only[ev]
theorem Xvr(hu:X.A.units+1<cLine)(h2:Xd3 ox=true)(h3:(ap.endLine==cp.line)=true)(h4:(y::ys).length<29)(io:DE X ox (ev F G o))(ih:DA X (y::ys) (evs F G es))(st:(y::ys).all Yh=true) :
  DE X (.Call (.Attribute ox "get" ap) (y::ys) [] cp) (ev F G (.dgt o es)):=by
 have hfew:((Vbg cp (V3 (y::ys) X.env)).all (fun x=>!x.1)&&(backToKw cp (Vft [] X.env)).all (fun x=>x.1.isSome)&&decide ((y::ys).length+([]:List Vdt).length+(if ([]:List Vdt).isEmpty then 0 else 1)<30))=true:=by
  rw[Xl1 st];have:(y::ys).length+([]:List Vdt).length+(if ([]:List Vdt).isEmpty then 0 else 1)<30:=by
   simp only[Vco,List.isEmpty_nil,if_true];omega
  rw[decide_eq_true this];rfl
 rw[Vbq,bA0]at st;exact(X7u hu io ih (Xb9 h2) hfew h3 (Xq st.1) (Yz st.2)).congr fun env S=>by simp only[ev]
theorem Xvs (er:ErrOk X.K) (hb:∀x∈blts,X.mg x=none) (hg0:Gl X "isinstance") (hg:Gl X nm) (hok:Yw nm=true) (ht:tyB sc t nm=true) (ha:DE X a fa) (hst:Yh a=true) :
  DE X (.Call (.Name "isinstance" p0) [a,.Name nm p1] [] pos) (fun env S=>(fa env S).bind fun x S=>match (kdD S x).bind fun k=>Yc k [t] with|some r=>.ok (.bl r) S|none=>.bad):=by
 cases t with
 |cls c=>exact Xsz er (.inl ⟨c,rfl,oD0 ht⟩) hb hg0 hg hok ha hst
 |valueError=>exact Xsz er (.inr ⟨rfl,oD0 ht⟩) hb hg0 hg hok ha hst
 |int=>have e:=oD0 ht;subst e;exact Xc8 (t:=.int) rfl hb hg0 hg hok ha hst
 |bool=>have e:=oD0 ht;subst e;exact Xc8 (t:=.bool) rfl hb hg0 hg hok ha hst
 |str=>have e:=oD0 ht;subst e;exact Xc8 (t:=.str) rfl hb hg0 hg hok ha hst
 |tuple=>have e:=oD0 ht;subst e;exact Xc8 (t:=.tuple) rfl hb hg0 hg hok ha hst
 |list=>have e:=oD0 ht;subst e;exact Xc8 (t:=.list) rfl hb hg0 hg hok ha hst
 |dict=>have e:=oD0 ht;subst e;exact Xc8 (t:=.dict) rfl hb hg0 hg hok ha hst
theorem Xx8(hb:Xl2 t=true)(h:tyB sc t nm=true):∃T,Xbd t=some (nm,T):=by
 cases t with
 |cls c=>cases hb
 |valueError=>cases hb
 |_=>have e:=oD0 h;subst e;exact⟨_,rfl⟩
theorem X0e (er:ErrOk X.K) (hb:∀x∈blts,X.mg x=none) (hs:X.env.scope=sc) (hg0:Gl X "isinstance") (ht:tyM sc ts y=true) (ha:DE X a fa) (hst:Yh a=true) :
  DE X (.Call (.Name "isinstance" p0) [a,y] [] pos) (fun env S=>(fa env S).bind fun x S=>match (kdD S x).bind fun k=>Yc k ts with|some r=>.ok (.bl r) S|none=>.bad):=by
 rcases X4p ht with⟨t,nm,p,rfl,rfl,h1,h2,h3⟩|⟨t1,t2,n1,n2,p1,p2,k,p,rfl,rfl,h1,h2,h3,h4,h5,h6,h7,h8⟩
 ·exact Xvs er hb hg0 (Yr hs h1) h2 h3 ha hst
 ·obtain⟨T1,q1⟩:=Xx8 h5 h7
  obtain⟨T2,q2⟩:=Xx8 h6 h8;exact X4s q1 q2 hb hg0 (Yr hs h1) (Yr hs h3) h2 h4 ha hst
set_option maxHeartbeats 0 in
theorem X4u{k:Nat}(h:Xh6 d c=true):DE X (.Constant c k p) (ev F G (.cst d)):=by
 cases d with
 |int i=>cases c with
  |int j=>simp only[Xh6,beq_iff_eq]at h;subst h;exact d_int.congr fun env S=>by simp only[ev]
  |_=>cases h
 |bl i=>cases c with
  |bool j=>simp only[Xh6,beq_iff_eq]at h;subst h;exact d_bl.congr fun env S=>by simp only[ev]
  |_=>cases h
 |non=>cases c with
  |none=>exact d_non.congr fun env S=>by simp only[ev]
  |_=>cases h
 |str i=>cases c with
  |str j=>simp only[Xh6,decide_eq_true_eq]at h;subst h;exact d_str.congr fun env S=>by simp only[ev]
  |_=>cases h
 |_=>cases h
mutual
theorem snd:∀(x:Ex) (X:Cx) (sc:Uv) (N:List Str) (e:Expr),X.N=N->X.env.scope=sc->PF cm F G fns gns X->mt cm fns gns sc N x e=true->DE X e (ev F G x)/\DT X e (fun env S=>tst (ev F G x env S))
 |.nev,X,sc,N,e,hN,hs,hp,h=>⟨fun _ _ _ _ _ _ _ _ nb=>aB0 (by simp only[ev]) nb,fun _ _ _ _ _ _ _ _ nb=>aB0 (by simp only[ev]<;>rfl) nb⟩
 |.var i,X,sc,N,e,hN,hs,hp,h=>by
  obtain⟨x,p,rfl,h1,h2,h3⟩:=X35 h;subst hN hs;obtain⟨o1,o2,_⟩:=Xae h3;exact Yi ((X6y h1 (Xzp h2) o1 o2).congr fun env S=>by simp only[ev]<;>rfl) fun _=>rfl
 |.cst d,X,sc,N,e,hN,hs,hp,h=>by
  obtain⟨c,k,p,rfl,h⟩:=X36 h;exact Yi (X4u h) fun _=>rfl
 |.neg a,X,sc,N,e,hN,hs,hp,h=>by
  obtain⟨x,p,rfl,h⟩:=X37 h;exact Yi ((X7r (snd a X sc N x hN hs hp h).1).congr fun env S=>by simp only[ev]<;>rfl) fun _=>rfl
 |.glb k,X,sc,N,e,hN,hs,hp,h=>by
  obtain⟨x,p,rfl,h1,h2,h3⟩:=X39 h;obtain⟨o1,o2,_⟩:=Xae h3;obtain⟨u,d,q1,q2,q3⟩:=hp.glb k x h1;exact Yi ((X7t (Yr hs h2) q1 q3 o1).congr fun env S=>by simp only[ev,q2]) fun _=>rfl
 |.tup es,X,sc,N,e,hN,hs,hp,h=>by
  obtain⟨xs,k,p,rfl,h⟩:=X4a h;exact Yi ((X6z (snds es X sc N xs hN hs hp h)).congr fun env S=>by simp only[ev]) fun _=>rfl
 |.lst es,X,sc,N,e,hN,hs,hp,h=>by
  obtain⟨xs,p,rfl,h⟩:=X4b h;exact Yi ((X60 (snds es X sc N xs hN hs hp h)).congr fun env S=>by simp only[ev]) fun _=>rfl
 |.dct0,X,sc,N,e,hN,hs,hp,h=>by
  obtain⟨p,rfl⟩:=Xz2 h;exact Yi (d_dct0.congr fun env S=>by simp only[ev]) fun _=>rfl
 |.bin op a b,X,sc,N,e,hN,hs,hp,h=>by
  obtain⟨x,y,p,rfl,h1,h2⟩:=X4c h;exact Yi ((X61 (X7d op) (snd a X sc N x hN hs hp h1).1 (snd b X sc N y hN hs hp h2).1).congr fun env S=>by simp only[ev]) fun _=>rfl
 |.cmp op a b,X,sc,N,e,hN,hs,hp,h=>by
  obtain⟨x,y,p,rfl,h1,h2,h3⟩:=X4d h;have ha:=(snd a X sc N x hN hs hp h2).1;have hb:=(snd b X sc N y hN hs hp h3).1;exact⟨(X62 (Xe1 hp.units op) ha hb h1).congr fun env S=>by simp only[ev],(X2w (Xe1 hp.units op) ha hb h1).congr fun env S=>by simp only[ev]⟩
 |.chn o1 o2 a b c,X,sc,N,e,hN,hs,hp,h=>by
  obtain⟨x,y,z,p,rfl,h1,h2,h3,h4⟩:=X4e h;have ha:=(snd a X sc N x hN hs hp h2).1;have hb:=(snd b X sc N y hN hs hp h3).1;have hc:=(snd c X sc N z hN hs hp h4).1;exact⟨(X7s (Xe1 hp.units o1) (Xe1 hp.units o2) ha hb hc h1).congr fun env S=>by simp only[ev,Yv]<;>rfl,(X3r (Xe1 hp.units o1) (Xe1 hp.units o2) ha hb hc h1).congr fun env S=>by simp only[ev,Yv]<;>rfl⟩
 |.and a b,X,sc,N,e,hN,hs,hp,h=>by
  rcases X4f h with⟨x,y,p,rfl,h1,h2⟩|⟨x,y,z,r,p,rfl,h1,h2⟩
  ·have ha:=snd a X sc N x hN hs hp h1
   have hb:=snd b X sc N y hN hs hp h2;exact⟨(Xxu ha.1 (Xxv hb.1)).congr fun env S=>by simp only[ev]<;>rfl,((Xr6 ha.2 (Xy1 hb.2)).dt).congr fun env S=>by simp only[ev]<;>rfl⟩
  ·have ha:=snd a X sc N x hN hs hp h1
   have hb:=snd b X sc N (.BoolOp .And (y::z::r) p) hN hs hp h2;exact⟨(Xxu ha.1 hb.1).congr fun env S=>by simp only[ev]<;>rfl,((Xr6 ha.2 (.of hb.2)).dt).congr fun env S=>by simp only[ev]<;>rfl⟩
 |.or a b,X,sc,N,e,hN,hs,hp,h=>by
  rcases X73 h with⟨x,y,p,rfl,h1,h2⟩|⟨x,y,z,r,p,rfl,h1,h2⟩
  ·have ha:=snd a X sc N x hN hs hp h1
   have hb:=snd b X sc N y hN hs hp h2;exact⟨(X2x ha.1 (Xxv hb.1)).congr fun env S=>by simp only[ev]<;>rfl,((Xxw ha.2 (X2z hb.2)).dt).congr fun env S=>by simp only[ev]<;>rfl⟩
  ·have ha:=snd a X sc N x hN hs hp h1
   have hb:=snd b X sc N (.BoolOp .Or (y::z::r) p) hN hs hp h2;exact⟨(X2x ha.1 hb.1).congr fun env S=>by simp only[ev]<;>rfl,((Xxw ha.2 (.of hb.2)).dt).congr fun env S=>by simp only[ev]<;>rfl⟩
 |.not a,X,sc,N,e,hN,hs,hp,h=>by
  obtain⟨x,p,rfl,h⟩:=X38 h;have ha:=snd a X sc N x hN hs hp h;exact⟨(X63 ha.2 ha.1).congr fun env S=>by simp only[ev]<;>rfl,(X2y ha.2).congr fun env S=>by simp only[ev]<;>rfl⟩
 |.ite c a b,X,sc,N,e,hN,hs,hp,h=>by
  obtain⟨x,y,z,p,rfl,h1,h2,h3⟩:=X4g h;have hc:=snd c X sc N x hN hs hp h1;have ha:=snd a X sc N y hN hs hp h2;have hb:=snd b X sc N z hN hs hp h3;exact⟨(X64 hc.2 ha.1 hb.1).congr fun env S=>by simp only[ev]<;>rfl,(X3q hc.2 ha.2 hb.2).congr fun env S=>by simp only[ev]<;>rfl⟩
 |.idx a i,X,sc,N,e,hN,hs,hp,h=>by
  obtain⟨x,y,p,rfl,h1,h2,h3⟩:=X4h h;exact Yi ((X7f (Xqc h1) (snd a X sc N x hN hs hp h2).1 (snd i X sc N y hN hs hp h3).1).congr fun env S=>by simp only[ev]) fun _=>rfl
 |.sli a lo hi,X,sc,N,e,hN,hs,hp,h=>by
  obtain⟨x,l,u,p2,p,rfl,h1,h2,h3⟩:=X4q h;exact Yi ((X74 (snd a X sc N x hN hs hp h1).1 (sndo lo X sc N l hN hs hp h2) (sndo hi X sc N u hN hs hp h3)).congr fun env S=>by simp only[ev]<;>rfl) fun _=>rfl
 |.cal f es,X,sc,N,e,hN,hs,hp,h=>by
  obtain⟨fx,y,ys,p,rfl,h1,h2,h3,h4⟩:=X4r h;have st:=Xan es (y::ys) h4;rw[Vbq,bA0]at st;exact Yi ((X75 hp h1 (X0d h2) (snd f X sc N fx hN hs hp h3).1 (snds es X sc N (y::ys) hN hs hp h4) (Xq st.1) (Yz st.2)).congr fun env S=>by simp only[ev]<;>rfl) fun _=>rfl
 |.isi a ts,X,sc,N,e,hN,hs,hp,h=>by
  obtain⟨p0,x,y,cp,rfl,h1,h2,h3,h4⟩:=X4o h;have ih:=(snd a X sc N x hN hs hp h3).1;exact Yi ((X0e hp.err hp.blt hs (Yr hs h1) h4 ih h2).congr fun env S=>by simp only[ev]<;>rfl) fun _=>rfl
 |.lrg t .nil,X,sc,N,e,hN,hs,hp,h=>by cases h
 |.lrg t (.cons a .nil),X,sc,N,e,hN,hs,hp,h=>by
  obtain⟨p,p2,x,cp,cp2,rfl,h1,h2,h3,h4,h5⟩:=X4i h;have ih:=(snd a X sc N x hN hs hp h5).1;exact Yi ((X7y (hp.calm h1) (Yr hs h2) (hp.blt _ (by cases t<;>decide)) (Yr hs h3) (hp.blt _ (by decide)) ih (Xq h4)).congr fun env S=>by simp only[ev,evs];cases ev F G a env S<;>rfl) fun _=>by cases t<;>rfl
 |.lrg t (.cons _ (.cons _ _)),X,sc,N,e,hN,hs,hp,h=>by cases h
 |.call f es,X,sc,N,e,hN,hs,hp,h=>by
  obtain⟨x,p0,y,ys,p,rfl,h1,h2,h3,h4⟩:=Xz3 h;obtain⟨o1,o2,_⟩:=Xae h3;obtain⟨fl,h1,hfl⟩:=h1;obtain⟨g,fd,ps,k,c1,c2,c3,c4,c5,c6⟩:=hp.fn f x _ fl h1 hfl;have st:=Xan es (y::ys) h4;rw[Vbq,bA0]at st;exact Yi ((X22 c1 c2 c3 (Yr hs h2) c4 c5 (snds es X sc N (y::ys) hN hs hp h4) (fun env S ds S' q=>by rw[c6];exact Xo0 es (y::ys) h4 env S ds S' q) o1 (Xq st.1) (Yz st.2)).congr fun env S=>by simp only[ev]) fun _=>rfl
 |.blt k es,X,sc,N,e,hN,hs,hp,h=>by
  obtain⟨x,p0,y,ys,p,rfl,h1,hq,h2,h3,h4⟩:=X4l h;obtain⟨o1,o2,o3⟩:=Xae h3;have st:=Xan es (y::ys) h4;rw[Vbq,bA0]at st;have ih:=snds es X sc N (y::ys) hN hs hp h4;exact Yi (Xvp hp.err.sm hp.gd hp.units (Yr hs h2) hp.blt (fun z=>hp.calm (by rw[z,Bool.or_false]at hq;exact hq)) h1 o1 o3 ih (Xq st.1) (Yz st.2)) fun _=>rfl
 |.mth k o es,X,sc,N,e,hN,hs,hp,h=>by
  obtain⟨ox,nm,ap,y,ys,cp,rfl,h1,h2,h3,h4,h5,h6⟩:=X4m h;have st:=Xan es (y::ys) h6;have ih:=snds es X sc N (y::ys) hN hs hp h6;have io:=(snd o X sc N ox hN hs hp h5).1;exact Yi (Xvq h1 h2 h3 h4 io ih st) fun _=>rfl
 |.dgt o es,X,sc,N,e,hN,hs,hp,h=>by
  obtain⟨ox,ap,y,ys,cp,rfl,h2,h3,h4,h5,h6⟩:=X4n h;have st:=Xan es (y::ys) h6;have ih:=snds es X sc N (y::ys) hN hs hp h6;have io:=(snd o X sc N ox hN hs hp h5).1;exact Yi (Xvr (by have:=hp.units;omega) h2 h3 h4 io ih st) fun _=>rfl
 |.sst a,X,sc,N,e,hN,hs,hp,h=>by
  obtain⟨p,p2,x,cp,cp2,rfl,h1,h2,h3,h4,h5⟩:=X4j h;have ih:=(snd a X sc N x hN hs hp h5).1;exact Yi ((X7x (hp.calm h1) (Yr hs h2) (hp.blt _ (by decide)) (Yr hs h3) (hp.blt _ (by decide)) ih (Xq h4)).congr fun env S=>by simp only[ev]<;>rfl) fun _=>rfl
 |.cms n gs elt,X,sc,N,e,hN,hs,hp,h=>by
  obtain⟨p0,ee,gens,scope,p,cp,rfl,e2,h0,h2,h3,h4,h5⟩:=X4k h;subst h2;exact Yi (X4t hN hs hp (hp.calm h0) (Xl4 h3) (Yr hs e2) (hp.blt _ (by decide)) (sndg gs X sc N _ _ gens hN hs hp h4) (fun Y y1 y2 y3=>(snd elt Y _ _ ee y1 y2 y3 h5).1)) fun _=>rfl
 |.cmr k n gs elt,X,sc,N,e,hN,hs,hp,h=>by
  obtain⟨ee,gens,scope,p,rfl,h0,h1,h2,h3,h4,h5⟩:=Xsw h;subst h1 h2;have so:=Xl4 h3;have hcl:=hp.calm h0;obtain⟨c⟩:=Xo1 (p:=p) hN hs hp hcl so (sndg gs X sc N _ _ gens hN hs hp h4) (fun Y y1 y2 y3=>(snd elt Y _ _ ee y1 y2 y3 h5).1)
  subst hN hs;refine Yi ?_ fun _=>rfl
  rw[c.eq];exact X3l hcl so rfl c.hg c.hi c.hs c.hG c.hT c.hB
theorem sndo:∀(o:Op) (X:Cx) (sc:Uv) (N:List Str) (x:Option Expr),X.N=N->X.env.scope=sc->PF cm F G fns gns X->mto cm fns gns sc N o x=true->DO X x (evo F G o)
 |.none,X,sc,N,x,hN,hs,hp,h=>by
  cases x with
  |none =>
   have:evo F G .none=fun _ S=>.ok none S:=by funext env S;simp only[evo]
   rw[this];exact Xz9
  |some _=>cases h
 |.some e,X,sc,N,x,hN,hs,hp,h=>by
  cases x with
  |none=>cases h
  |some x =>
   have h':mt cm fns gns sc N e x=true:=h;have:evo F G (.some e)=fun env S=>(ev F G e env S).bind fun x S=>.ok (some x) S:=by funext env S;simp only[evo]
   rw[this];exact X0a (snd e X sc N x hN hs hp h').1
theorem snds:∀(es:Exs) (X:Cx) (sc:Uv) (N:List Str) (xs:List Expr),X.N=N->X.env.scope=sc->PF cm F G fns gns X->mts cm fns gns sc N es xs=true->DA X xs (evs F G es)
 |.nil,X,sc,N,[],hN,hs,hp,h=>by
  have:evs F G .nil=fun _ S=>.ok [] S:=by funext env S;simp only[evs]
  rw[this];exact X2v
 |.cons e es,X,sc,N,x::xs,hN,hs,hp,h=>by
  simp only[mts,bA0]at h;have:evs F G (.cons e es)=fun env S=>(ev F G e env S).bind fun x S=>(evs F G es env S).bind fun xs S=>.ok (x::xs) S:=by funext env S;simp only[evs]
  rw[this];exact Xy0 (snd e X sc N x hN hs hp h.1.2).1 (snds es X sc N xs hN hs hp h.2) (Xq h.1.1)
 |.nil,X,sc,N,_::_,hN,hs,hp,h=>by simp[mts]at h
 |.cons _ _,X,sc,N,[],hN,hs,hp,h=>by simp[mts]at h
theorem Xql:∀(es:Exs) (X:Cx) (sc:Uv) (N:List Str) (xs:List Expr),X.N=N->X.env.scope=sc->PF cm F G fns gns X->mts cm fns gns sc N es xs=true->DTs X xs (evts F G es)
 |.nil,X,sc,N,[],hN,hs,hp,h=>by
  have:evts F G .nil=fun _ S=>.ok true S:=by funext env S;simp only[evts]
  rw[this];exact Xze
 |.cons e es,X,sc,N,x::xs,hN,hs,hp,h=>by
  simp only[mts,bA0]at h;have:evts F G (.cons e es)=fun env S=>(ev F G e env S).bind fun x S=>match Xf S x with|some true=>evts F G es env S|some false=>.ok false S|none=>.bad:=by funext env S;simp only[evts]<;>rfl
  rw[this];exact Xu7 (snd e X sc N x hN hs hp h.1.2).2 (Xql es X sc N xs hN hs hp h.2)
 |.nil,X,sc,N,_::_,hN,hs,hp,h=>by simp[mts]at h
 |.cons _ _,X,sc,N,[],hN,hs,hp,h=>by simp[mts]at h
theorem Xqm:∀(it:It) (X:Cx) (sc:Uv) (N:List Str) (tg x:Expr),X.N=N->X.env.scope=sc->PF cm F G fns gns X->(Xqh it=true->∃es k p,tg=.Tuple es k p)->mtI cm fns gns sc N it x=true->DI X tg x (evit F G it)
 |.val e,X,sc,N,tg,x,hN,hs,hp,_,h=>by
  simp only[mtI]at h;have:evit F G (.val e)=fun env S=>(ev F G e env S).bind fun x S=>match Yo S x with|some r=>.ok r S|none=>.bad:=by funext env S;simp only[evit]<;>rfl
  rw[this];exact X3c (snd e X sc N x hN hs hp h).1
 |.rng es,X,sc,N,tg,x,hN,hs,hp,_,h=>by
  obtain⟨p0,y,ys,p,rfl,h2,h3⟩:=Xz6 h;have st:=Xan es (y::ys) h3;rw[Vbq,bA0]at st;have:evit F G (.rng es)=fun env S=>(evs F G es env S).bind fun xs S=>match Yd xs with|some ds=>.ok (.con ds) S|none=>.bad:=by funext env S;simp only[evit]<;>rfl
  rw[this];exact X3d (Yr hs h2) (hp.blt _ (by decide)) (snds es X sc N (y::ys) hN hs hp h3) (Xq st.1) (Yz st.2)
 |.zpp es,X,sc,N,tg,x,hN,hs,hp,ht,h=>by
  obtain⟨p0,y,ys,p,rfl,h2,h3⟩:=Xz5 h;obtain⟨ts,k,tp,rfl⟩:=ht rfl;have st:=Xan es (y::ys) h3;rw[Vbq,bA0]at st;have:evit F G (.zpp es)=fun env S=>(evs F G es env S).bind fun xs S=>match xs with
   |[x,y]=>match Yo S x,Yo S y with
    |some s,some t=>.ok (.zpp s t) S
    |_,_=>.bad
   |_=>.bad:=by funext env S;simp only[evit]<;>rfl
  rw[this];exact X3g (Yr hs h2) (hp.blt _ (by decide)) (snds es X sc N (y::ys) hN hs hp h3) (Xq st.1) (Yz st.2)
 |.itm e,X,sc,N,tg,x,hN,hs,hp,ht,h=>by
  obtain⟨ox,ap,cp,rfl,h1,h2,h3⟩:=Xz4 h;obtain⟨ts,k,tp,rfl⟩:=ht rfl;have:evit F G (.itm e)=fun env S=>(ev F G e env S).bind fun x S=>match x with
   |.ref n=>match Yx S n with
    |some kvs=>.ok (.con (kvs.map Xee)) (S.set n (.fdc kvs))
    |none=>.bad
   |_=>.bad:=by funext env S;simp only[evit]<;>rfl
  rw[this];exact X3h (snd e X sc N ox hN hs hp h3).1 (Xb9 h1) h2
theorem sndg:∀(gs:Gens) (X:Cx) (sc:Uv) (N:List Str) (sc2:Uv) (N2:List Str) (gens:List Va3),X.N=N->X.env.scope=sc->PF cm F G fns gns X->mtG cm fns gns sc N sc2 N2 gs gens=true->Xvo F G X sc2 N2 (PF cm F G fns gns) gs gens
 |.nil,X,sc,N,sc2,N2,gens,hN,hs,hp,h=>(X7z h).elim
 |.cons t it ifs .nil,X,sc,N,sc2,N2,gens,hN,hs,hp,h=>by
  obtain⟨tg,iter,cs,rfl,h2,h3,h4,h5,h6⟩:=X70 h;exact⟨tg,iter,cs,rfl,h2,hN▸h3,Xqm it X sc N tg iter hN hs hp (Xg2 h6 h3) h4,fun Y y1 y2 y3=>Xql ifs Y sc2 N2 cs y1 y2 y3 h5⟩
 |.cons t it ifs (.cons t2 it2 ifs2 .nil),X,sc,N,sc2,N2,gens,hN,hs,hp,h=>by
  obtain⟨tg,iter,cs,tg2,iter2,cs2,rfl,h3,h4,h5,h6,h7,h8,h9,h10,h11,h12⟩:=X71 h;exact⟨tg,iter,cs,tg2,iter2,cs2,rfl,h3,h4,hN▸h5,hN▸h8,Xqm it X sc N tg iter hN hs hp (Xg2 h11 h5) h6,fun Y y1 y2 y3=>Xql ifs Y sc2 N2 cs y1 y2 y3 h7,fun Y y1 y2 y3=>Xqm it2 Y sc2 N2 tg2 iter2 y1 y2 y3 (Xg2 h12 h8) h9,fun Y y1 y2 y3=>Xql ifs2 Y sc2 N2 cs2 y1 y2 y3 h10⟩
 |.cons t it ifs (.cons t2 it2 ifs2 (.cons _ _ _ _)),X,sc,N,sc2,N2,gens,hN,hs,hp,h=>(X72 h).elim
end
end
section
variable{X:Cx}{pa:List (Addr×Obj)}{σ:L2.St}{H:Hp}{s:Vc}{ρ:List Addr}{S S':Sto}{env:En}{a b c e tg:Expr}{f fa fb fc:En->Sto->R D}{pos:Pos}
theorem X4v(he:DE X e f)(hg:DG X tg t)(hs:Vdb [tg] e pos.line X.env=pure false)(hw:Vdc [tg] e X.env=pure none)(h1:(Vbe [tg] X.env).map (·.2)=[assign tg X.env]) :
  DS X (.Assign [tg] e pos) false (fun env S=>(f env S).bind fun x S=>match Xr t x env with|some env=>.ok (.nx env) S|none=>.bad):=by
 intro pa s σ H ρ S env I nb;dsimp only at nb ⊢;cases q:f env S with
 |bad=>rw[q]at nb;exact aB0 rfl nb
 |ex n S1=>exact Vgn (he.ex I q fun x s' z=>.of .refl z rfl) hs hw
 |ok d S1 =>
  rw[q]at nb;simp only[Rk0]at nb ⊢;cases q2:Xr t d env with
  |none=>rw[q2]at nb;exact aB0 rfl nb
  |some env' =>
   refine Vgn (he.ok I q fun u s' v H' ρ' J rv rd st=>?_) hs hw
   rw[h1];exact hg pa s' σ H' ρ' S1 env d v u env' _ _ J q2 rd rv fun s2 σ2 I2=>⟨.nx env',S1,rfl,rfl,σ2,H',ρ',I2,st,fun z=>nomatch z⟩
theorem X0f{kt k2 pt2}(hc:X.calm=true)(hN:X.N.Nodup)(hi:X.N[i]?=some x)(hj:X.N[j]?=some y)(hij:i≠j)
  (hx:X.env.scope.names.lookup x=some .local) (hy:X.env.scope.names.lookup y=some .local) (ha:DA X [a,b] ga)
  (hw:Vdc [.Tuple [.Name x px,.Name y py] kt pt] (.Tuple [a,b] k2 pt2) X.env=pure (some [x,y]))
  (hs:Vdb [.Tuple [.Name x px,.Name y py] kt pt] (.Tuple [a,b] k2 pt2) pos.line X.env=pure false) :
  DS X (.Assign [.Tuple [.Name x px,.Name y py] kt pt] (.Tuple [a,b] k2 pt2) pos) false (fun env S=>(ga env S).bind fun xs S=>if [i,j].length=xs.length then .ok (.nx (([i,j].zip xs).foldl (fun e p=>e.set p.1 (some p.2)) env)) S else .bad):=by
 intro pa s σ H ρ S env I nb;dsimp only at nb ⊢;rw[exec_Assign_arm];refine Va (Vdu ?_);rw[hs];refine Va (Vd ?_);rw[iN0 (by decide)]
 cases q:ga env S with
 |bad=>rw[q]at nb;exact aB0 rfl nb
 |ex n S1=>exact Va (Tuple_ (ha.ex I q fun x s' z=>.of .refl z rfl))
 |ok ds S1 =>
  rw[q]at nb;simp only[Rk0]at nb ⊢;split at nb
  ·rename_i hl
   rw[iP0 hl];obtain⟨d1,d2,rfl⟩:∃d1 d2,ds=[d1,d2]:=by
    match ds,hl with
    |[d1,d2],_=>exact⟨d1,d2,rfl⟩
   refine Va (Tuple_ (ha.ok I q fun us s1 vs H1 ρ1 I1 rvs rds st1=>?_))
   obtain⟨v,w,rfl,rd1,rd2⟩:=rds.two;obtain⟨u1,u2,rfl,rv,rw'⟩:∃u1 u2,us=[u1,u2]/\RelV v u1/\RelV w u2:=by
    cases rvs with
    |cons p q =>
     cases q with
     |cons p' q' =>
      cases q';exact⟨_,_,rfl,p,p'⟩
   refine Uj ?_ (by show 2<=Vw;decide)
   have I2:Inv X pa σ H1 {s1 with heap:=s1.heap.push {cls:=.type "tuple",data:=.seq [u1,u2].toArray} }:=I1.inv.kept (t':=s1.toks) fun b o e=>Ve _ e
   rw[hw];refine Va (Vd ?_);show Vf (Vk X.prog X.w) X.A (do rule "assign.swapped-stores";let items <- unpackItems (.ref s1.heap.objs.size) 2 none;assignInOrder [fun v=>bindName X.env y v,fun v=>bindName X.env x v] items.reverse;pure Flow.next) _ _ _
   refine Va (Vdy (Va (unpackItems_tuple (items:=#[u1,u2]) (I.inv.ok.hd hc) (IsTup.new s1.heap _) fun h' hx'=>?_)))
   have I3:=I2.kept (h':=h') (t':=s1.toks) fun b o e=>hx' b o (V8 (Vu e)) e
   show Vf _ _ (assignInOrder [fun v=>bindName X.env y v,fun v=>bindName X.env x v] [u2,u1] >>= fun _=>pure Flow.next) _ _ _
   refine Va (Vg1 (wpAny_bindName (Xbg I3 hN hj (.inl hy) rw' (fun s2 I4=>?_) (.inr hy))))
   refine Vg1 (wpAny_bindName (Xbg I4 hN hi (.inl hx) rv (fun s3 I5=>assignInOrder_nil (Vd ?_)) (.inr hx)))
   rw[List.set_comm _ _ (Ne.symm hij)]at I5;exact⟨.nx ((env.set i (some d1)).set j (some d2)),S1,rfl,rfl,_,H1,ρ1,⟨I5,I1.sr,(I1.er.set i rd1).set j rd2⟩,st1,fun z=>nomatch z⟩
  ·exact aB0 rfl nb
theorem X4w(hu:X.A.units+1<cLine)(I:S0 X pa σ H s ρ S env)(nb:Xbm x y d S≠.bad)(rx:RD X.K ρ H x vx)(qx:RelV vx ux)(ry:RD X.K ρ H y vy)(qy:RelV vy uy)(rd:RD X.K ρ H d v)(rv:RelV v u)
  (hQ:∀S' s' H',Xbm x y d S=.ok () S'->S0 X pa σ H' s' ρ S' env->Stp X.K ρ ρ H H'->Q () s'):Vf (Vk X.prog X.w) X.A (setItem ux uy u) Q Ev s:=by
 unfold Xbm at nb hQ;cases x with
 |ref n =>
   dsimp only at nb hQ;cases y with
  |tup ks =>
   dsimp only at nb hQ;cases e1:Xdw S n with
   |none=>rw[e1]at nb;exact aB0 rfl nb
   |some kvs =>
    cases e2:Xl ks with
    |none=>rw[e1,e2]at nb;exact aB0 rfl nb
    |some r =>
     rw[e1,e2]at nb hQ;dsimp only at nb hQ;split at nb
     ·rename_i hz
      rw[iP0 hz]at hQ;exact X29 hu I e1 e2 hz rx qx ry qy rd rv fun s' H' J st=>hQ _ s' H' rfl J st
     ·exact aB0 rfl nb
  |int k =>
   dsimp only at nb hQ;cases e:Z.lstM S n with
   |none=>rw[e]at nb;exact aB0 rfl nb
   |some xs =>
    rw[e]at nb hQ;dsimp only at nb hQ;cases e2:Z.ixN xs.length k with
    |none=>rw[e2]at nb;exact aB0 rfl nb
    |some j =>
     rw[e2]at hQ;obtain⟨a,ws,rfl,ha,hv,hr⟩:=I.lstR e rx;simp only[RD]at ry;subst ry;have hl:L2.ixN ws.length k=some j:=by rw[<- hr.length];exact e2
     refine thn (Xug (X:=X.wish Ev) pa s σ H (.ref a) (.int k) v ux uy u (fun H'=>H'=upd H a (.lst (ws.set j v))) (I.inv.wish Ev) qx qy rv ⟨a,ws,k,j,rfl,rfl,hv,hl,rfl⟩) fun _ s' ⟨H',J,e3⟩=>?_
     subst e3;have nf:∀o u,H a≠some (.frz o u):=fun o u z=>by rw[hv]at z;cases z
     have st:Stp X.K ρ ρ H (upd H a (.lst (ws.set j v))):=Stp.chg (S:=S) (o:=.lst (xs.set j d)) I.sr ha nf;exact hQ _ s' _ rfl ⟨J.unwish,I.sr.chg ha nf ⟨ws.set j v,X6,(hr.set rd j).mono st⟩,I.er.mono st⟩ st
  |_=>exact aB0 rfl nb
 |_=>exact aB0 rfl nb
end
section
variable{X:Cx}{pa:List (Addr×Obj)}{σ:L2.St}{H:Hp}{s:Vc}{ρ:List Addr}{S S':Sto}{env:En}{a b c e o i:Expr}{f fa fb fc fo fi:En->Sto->R D}{pos spos:Pos}
theorem X0g(hu:X.A.units+1<cLine)(he:DE X e f)(ho:DE X o fo)(hi:DE X i fi)(hs:Vdb [.Subscript o i spos] e pos.line X.env=pure false)(hw:Vdc [.Subscript o i spos] e X.env=pure none)
  (hA:∀v,assign (.Subscript o i spos) X.env v=(do
   let ov <- Veu [v] (eval o X.env)
   let iv <- Veu [v,ov] (eval i X.env)
   standAt spos
   Veu [v,ov,iv] (setItem ov iv v)
   release [v,ov,iv] [])) :
  DS X (.Assign [.Subscript o i spos] e pos) true (fun env S=>(f env S).bind fun v S=>(fo env S).bind fun x S=>(fi env S).bind fun y S=>(Xbm x y v S).bind fun _ S=>.ok (.nx env) S):=by
 intro pa s σ H ρ S env I nb;dsimp only at nb ⊢;generalize hr:(f env S).bind (fun v S=>(fo env S).bind fun x S=>(fi env S).bind fun y S=>(Xbm x y v S).bind fun _ S=>R.ok (Fl.nx env) S)=r at nb ⊢
 have h1:(Vbe [Expr.Subscript o i spos] X.env).map (·.2)=[assign (.Subscript o i spos) X.env]:=rfl;refine Vgn (he.bind I (by rw[hr];exact nb) hr.symm (fun d S1 u s1 v H1 ρ1 e1 nb1 I1 rv rd st1=>?_) fun x s' ⟨n,S2,e2,z⟩=>.of .refl z e2) hs hw
 rw[h1];show Vf _ _ (assign (.Subscript o i spos) X.env u) _ _ _;rw[hA];refine Va (Uz (ho.bind I1 nb1 e1 (fun x S2 ux s2 vx H2 ρ2 e2 nb2 I2 rvx rdx st2=>?_) fun x s' ⟨n,S3,e3,z⟩=>.of st1 z e3))
 refine Va (Uz (hi.bind I2 nb2 e2 (fun y S3 uy s3 vy H3 ρ3 e3 nb3 I3 rvy rdy st3=>?_) fun x s' ⟨n,S4,e4,z⟩=>.of (st1.trans st2) z e4))
 refine Va (Vdu (Va (Uz (X4w hu I3 (fun z=>nb3 (by rw[z];rfl)) (rdx.mono st3) rvx rdy rvy ((rd.mono st2).mono st3) rv fun S4 s4 H4 e4 I4 st4=>?_))))
 refine wpAny_release ⟨.nx env,S4,by rw[e3,e4];rfl,rfl,σ,H4,ρ3,I4,st1.trans (st2.trans (st3.trans st4)),fun _=>rfl⟩
end
def X4x(C:Addr)(h:Heap):Prop:=∃tl N nm qn bs hd sn sub ab col dd k0 k1 k2 k3 k5 mN,
 h.get? C=some (excClassObj nm qn C N bs tl hd sn sub ab col dd k0 k1 k2 k3 k5 "ValueError.__new__")/\h.Ns N mN/\mN "__init__" = none/\OwnTail h bmV tl
theorem X0h {K:Vg} {h:Heap} {C:Addr} (hK:K.In h) (hq:Vfy K C bmV "ValueError.__new__" = true):X4x C h:=by
 unfold Vfy at hq;split at hq
 case h_2=>cases hq
 rename_i _ dct cdt slt lk
 split at hq
 case h_2=>cases hq
 rename_i _ C1 tl s0 s1 s2 s3 nw s5 em es
 simp only[bA0,beq_iff_eq,Vbv]at hq;obtain⟨⟨⟨⟨⟨e1,e2⟩,e3⟩,e4⟩,e5⟩,e6⟩:=hq;subst e1 e2;cases cdt;dsimp only at em e3 e5 e6;subst em e3;have esl:slt=#[s0,s1,s2,s3,some (.builtin "ValueError.__new__"),s5]:=by
  cases slt;dsimp only at es;rw[es]
 subst esl;exact⟨tl,_,_,_,_,_,_,_,_,_,_,_,_,_,_,_,_,hK _ _ lk,.of_isNs (PySem.W.isNs_of_in hK e5),PySem.W.nsMap_none_of_in hK e5 e6,PySem.W.tail_of_in hK e4⟩
theorem _root_.L2.Inv.newX(I:Inv X pa σ H s)(k:∀b u,s.heap.get? b=some u->h'.get? b=some u)(hn:s.heap.get? a=none)
  (new:ObjOk X.prog X.w (upd H a o) h' a o):Inv X pa σ (upd H a o) {s with heap:=h' }/\HOk X.prog X.w (upd H a o) h':=by
 have hna:H a=none:=by
  cases z:H a with
  |none=>rfl
  |some w=>obtain⟨q,e⟩:=Xbo (I.hok a w z);rw[hn]at e;cases e
 have ne:∀b u,H b=some u->b≠a:=fun b u q=>Xs q hna
 have hok:HOk X.prog X.w (upd H a o) h':=fun b u q=>by
  by_cases hb:b=a
  ·subst hb;rw[X6]at q;cases q;exact new
  ·rw[Xh hb]at q
   exact(I.hok b u q).stay (fun c v _ e=>k c v e) (fun c z=>by rw[Xh (ne c _ z)];exact z) fun c xs z=>by rw[Xh (ne c _ z)];exact z
 refine⟨I.un (t':=s.toks) ⟨fun b u e _ _ _=>k b u e,fun b u e _ _ _=>⟨u.slots,k b u e⟩,fun b u e n _=>?_,fun b u e _=>⟨u,k b u e⟩,fun b xs z=>by rw[Xh (ne b _ z)];exact z,fun b u xs z=>by rw[Xh (ne b _ z)];exact z,fun b ps z=>⟨#[],by rw[Xh (ne b _ z),z];simp⟩⟩ hok,hok⟩
 rw[Xh (fun z=>by rw[z,hn]at e;cases e)];exact n
section
variable{X:Cx}{pa:List (Addr×Obj)}{σ:L2.St}{H:Hp}{s:Vc}{ρ:List Addr}{S S':Sto}{env:En}{e:Expr}{f:En->Sto->R D}{pos np cpos:Pos}
theorem X4y {c:Nat} {x:Str} {C:Addr} (hc:X.calm=true) (hx:Xa7 c=some x) (hn:Vaj X.K V5 x=some (some (.ref C))) (hq:Vfy X.K C bmV "ValueError.__new__" = true)
  (hg:Gl X x) (hdb:(x==("__debug__" : Str))=false) (he:DE X e f) (hst:Yh e=true):DS X (.Raise (some (.Call (.Name x np) [e] [] cpos)) none pos) true (fun env S=>(f env S).bind fun _ S=>.ex S.length (S++[.exc c])):=by
 intro pa s σ H ρ S env I nb;dsimp only at nb ⊢;have hm:X.mg x=some (.ref C):=Vc7 I.inv.mod.kin I.inv.mod.glob hn;have hcl:Yy X.K c=some C:=by unfold Yy;rw[hx];simp only[Vs,hn]
 obtain⟨tl,N,nm,qn,bs,hd,sn,sub,ab,col,dd,k0,k1,k2,k3,k5,mN,hC,hN,hni,T⟩:=X0h I.inv.mod.kin hq;refine wpAny_Raise_call_subT (C:=C) (nm:=nm) (q:=qn) (N:=N) (bs:=bs) (bm:=tl) (hdct:=hd) (sn:=sn) (sub:=sub) (ab:=ab) (col:=col) (dd:=dd) (k0:=k0) (k1:=k1) (k2:=k2) (k3:=k3) (k5:=k5)
  PySem.F.excBase_ValueError (mN:=mN) (T.hasType PySem.F.excBase_ValueError.hasBase) (I.inv.ok.hd hc) (by rw[Xq hst];rfl) hni (Xc2 I.inv hg hm ⟨rfl,?_⟩ hdb)
 rw[Xq hst];refine Vdh ?_;generalize hr:((f env S).bind fun _ S=>(R.ex S.length (S++[.exc c]):R Fl))=r at nb ⊢
 refine Vak (he.bind I (by rw[hr];exact nb) hr.symm (fun d S1 u s1 v H1 ρ1 e1 nb1 I1 rv rd st1=>Vct ?_) fun y s' ⟨n,S2,z1,z2⟩=>⟨n,S2,σ,z1,fun _=>rfl,z2⟩)
 refine⟨rfl,by simp[Vw],I1.inv.bk _ _ hC,hN.keeps I1.inv.bk,T.keeps I1.inv.bk,fun h' a hmk=>?_⟩
 obtain⟨t,h1,h2,h3⟩:=hmk.there;have hna:H1 a=none:=by
  cases z:H1 a with
  |none=>rfl
  |some w=>obtain⟨o,e⟩:=Xbo (I1.inv.hok a w z);rw[hmk.new]at e;cases e
 have xo:ExcO C a h':=⟨_,_,_,h1,rfl,rfl,rfl,by simp⟩
 obtain⟨J,hok⟩:=I1.inv.newX hmk.keeps hmk.new xo.ok;refine⟨S1.length,S1++[.exc c],σ,e1,fun _=>rfl,_,ρ1++[a],a,c,J,rfl,?_,by simp,I1.sr.new1 (o:=.exc c) hna ⟨C,hcl,X6⟩,st1.trans (Stp.new1 hna),.inl ⟨_,_,h1,rfl,rfl⟩⟩
 rw[<- I1.sr.len];simp
end
noncomputable def inH(X:Cx)(a:Addr):Cx:={ X with A:=X.A.mark (some (.ref a)),calm:=false}
section
variable{X:Cx}{pa:List (Addr×Obj)}{σ:L2.St}{H:Hp}{s:Vc}{a:Addr}
theorem Inv.inH(I:Inv X pa σ H s)(a:Addr):Inv (inH X a) pa σ H s :=
 ⟨⟨I.ok.mod,I.ok.kind,I.ok.glob,I.ok.blt,I.ok.above,I.ok.inj,I.ok.has,I.ok.cab,(fun z=>nomatch z),I.ok.frames,I.ok.stk,I.ok.exf,I.ok.bs,I.ok.bsz,I.ok.noex,I.ok.exfs,I.ok.funs,I.ok.frf⟩,I.os,I.bare,I.base,I.loc,I.cell,I.free,I.freeC,I.pin,I.hok,I.len⟩
theorem Inv.outH(I:Inv (Z.inH X a) pa σ H s)(ok:X.Ok):Inv X pa σ H s:=⟨ok,I.os,I.bare,I.base,I.loc,I.cell,I.free,I.freeC,I.pin,I.hok,I.len⟩
theorem Inv.goes(I:Inv X pa σ H s)(hl:X.env.scope.names.lookup n=some .local)
  (h:∀s',Inv X pa (Vh σ.length none) H s'->Q () s'):Vf M A (do bindName X.env n .none;unbindBehindTheSuite X.env n p) Q E s:=by
 obtain⟨m,hn,_⟩:=I.loc;refine wpAny_nameGoes hl hn (by rw[I.ok.kind];rfl) fun h' m' hn' sb=>h _ ?_
 obtain⟨o,es,ep,ho,r⟩:=id hn;obtain⟨o',es',ep',ho',r'⟩:=id hn';have old:∀b u,X.s₀.heap.get? b=some u->b≠X.env.locals:=fun b u e=>V8 (V6 (Vu e) I.ok.above)
 have cellK:∀x c,X.env.cells.lookup x=some c->∀v,s.heap.IsCell c v->h'.IsCell c v:=fun x c e v ⟨u,hu,hd⟩=>⟨u,(sb.2 c (I.cne x c e)).trans hu,hd⟩
 refine⟨I.ok,I.os,I.bare,⟨fun b u e q hb hx=>(sb.2 b (old b u e)).trans (I.base.keep b u e q hb hx),fun b u e q hb hx=>?_,I.base.free,fun b u e hx=>?_,I.base.tups,I.base.frzs,I.base.tbls⟩,⟨m',hn',fun i x v _ e2 _=>?_⟩,fun x c e=>?_,I.free,I.freeC,fun p hp=>?_,fun b u q=>?_,by rw[List.length_replicate];exact I.len⟩
 ·obtain⟨sl,z⟩:=I.base.slot b u e q hb hx
  exact⟨sl,(sb.2 b (old b u e)).trans z⟩
 ·obtain⟨w,z⟩:=I.base.there b u e hx
  exact⟨w,(sb.2 b (old b u e)).trans z⟩
 ·rw[Vcv]at e2
  split at e2<;>cases e2
 ·obtain⟨v,z⟩:=I.cell x c e
  exact⟨v,cellK x c e v z⟩
 ·obtain⟨e,n,ne,r⟩:=I.pin p hp
  exact⟨(sb.2 _ ne).trans e,n,ne,r⟩
 ·have ne:∀c v,H c=some v->c≠X.env.locals:=fun c v z=>Xs z I.free
  refine(I.hok b u q).stay (fun c v hc e=>?_) (fun _ z=>z) fun _ _ z=>z
  rcases hc with rfl|hc
  ·exact(sb.2 _ (ne _ _ q)).trans e
  ·exact(sb.2 _ (ne _ _ hc)).trans e
noncomputable def Xvt(c i:Nat)(g gh:En->Sto->R Fl)(env:En)(S:Sto):R Fl:=match g env S with
 |.ex m S'=>match S'[m]? with
  |some (.exc c')=>if c==0||c==c' then
    match gh (env.set i (some (.ref m))) S' with
    |.ok (.rt d) S''=>.ok (.rt d) S''
    |_=>.bad
   else .bad
  |_=>.bad
 |r=>r
theorem X4z(hs:X.stack=X.env::X.outer)(hf:X.env.frame=some X.env.locals)
  (hN:X.N.Nodup) (hi:X.N[i]?=some n) (hl:X.env.scope.names.lookup n=some .local) (hn:Vaj X.K V5 x=some (some (.ref C0))) (hg:Gl X x) (hdb:(x==("__debug__" : Str))=false)
  (hm:∀c' C,Yy X.K c'=some C->(c==0||c==c')=true->PySem.W.exmOne X.K (.ref C) (.ref C0)=some true) (hb:DSs X body true g) (hh:∀a,DSs (Z.inH X a) (b0::suite) na gh) :
  DS X (.Try body [.ExceptHandler (some (.Name x np)) (some n) (b0::suite) hp] [] [] pos) false (Xvt c i g gh):=by
 intro pa s σ H ρ S env I nb;unfold Xvt at nb ⊢;refine wpAny_Try_except ?_;cases q:g env S with
 |bad=>rw[q]at nb;exact aB0 rfl nb
 |ok y S1 =>
  refine Vn (hb pa s σ H ρ S env I (by rw[q];exact fun z=>nomatch z)) (fun fl s1 z=>?_) fun x s1 z=>?_
  ·rw[q]at z
   have z':=z.pre (σ:=σ) (na':=false) .refl fun w=>nomatch w
   obtain⟨y',S2,e,z2⟩:=z;cases e;cases y with
   |nx e=>obtain⟨rfl,_⟩:=z2;exact wpAny_execs_nil z'
   |brk e=>obtain⟨rfl,_⟩:=z2;exact z'
   |cnt e=>obtain⟨rfl,_⟩:=z2;exact z'
   |rt d=>obtain⟨u,v,σ',H',ρ',rfl,_⟩:=z2;exact z'
  ·obtain⟨k,S2,σ2,e,_⟩:=z
   rw[q]at e;cases e
 |ex m S1 =>
  rw[q]at nb;dsimp only at nb ⊢;refine Vn (hb pa s σ H ρ S env I (by rw[q];exact fun z=>nomatch z)) (fun fl s1 z=>?_) fun x1 s1 z=>?_
  ·obtain⟨y,S2,e,_⟩:=z
   rw[q]at e;cases e
  obtain⟨m',S2,σ',e,hσ,H1,ρ1,a,c',J,rfl,hρ,hc,sr,st,fl⟩:=z;rw[q]at e;cases e;cases hσ rfl;rw[hc]at nb ⊢;dsimp only at nb ⊢;have hcc:(c==0||c==c')=true:=by
   cases z:(c==0||c==c') with
   |true=>rfl
   |false=>rw[z]at nb;exact aB0 rfl nb
  rw[iP0 hcc]at nb ⊢;obtain⟨d,S2,hgh⟩:∃d S2,gh (env.set i (some (.ref m))) S1=.ok (.rt d) S2:=by
   cases z:gh (env.set i (some (.ref m))) S1 with
   |bad=>rw[z]at nb;exact aB0 rfl nb
   |ex _ _=>rw[z]at nb;exact aB0 rfl nb
   |ok y S2 =>
    rw[z]at nb;cases y with
    |rt d=>exact⟨d,S2,rfl⟩
    |nx _=>exact aB0 rfl nb
    |brk _=>exact aB0 rfl nb
    |cnt _=>exact aB0 rfl nb
  rw[hgh];dsimp only;obtain⟨C,hC,ha⟩:=(show ∃C,Yy X.K c'=some C/\H1 a=some (.ext (ExcO C a)) from sr.ob m a _ hρ hc);have hex:=hm c' C hC hcc;have main:∀(l:List Addr) (a0:Vb),Hid X H1 a s1.heap l->(∀b∈l,b≠a->b ∉ frs X.stack->Xhv X pa b) ->
    ∀h2,Heap.HeldW (Vb5 s1.heap l) (X.env::X.outer) a (.ref C) a0 X.env.locals h2->s1.heap.UpToSlots h2 ->
    Vf (Vk X.prog X.w) X.A (setFlight (.ref a) none) (fun _ s3=>Vf (Vk X.prog X.w) X.A (handleBy (.ref a) X.env [.ExceptHandler (some (.Name x np)) (some n) (b0::suite) hp])
     (OkS X pa σ ρ H false (.ok (.rt d) S2)) (ExS X pa σ ρ H false (.ok (.rt d) S2)) s3) (ExS X pa σ ρ H false (.ok (.rt d) S2)) {s1 with heap:=h2}:=by
   intro l a0 hid hnew h2 hh2 up2;have inv:∀ {h':Heap},Heap.FlyingW (Vb5 s1.heap l) (X.env::X.outer) a (.ref C) a0 h'->s1.heap.UpToSlots h'->Inv X pa σ H1 {s1 with heap:=h' }:=fun {h'} fw up=>by
    obtain⟨f1,_,_,oe,vs,T,oT,ts,t1,⟨t2,t3⟩,t4,t5,_⟩:=fw;exact Inv.fly J ha hid hnew f1 up ⟨oe,vs,a0,t1,t2,t4,t3,(Vbp.mp t5).1⟩
   refine wpAny_landsW hh2 fun h3 fw3 up3=>?_
   have J3:=inv fw3 (up2.trans up3);obtain⟨ob,hob,hobc⟩:=fw3.there;refine wpAny_handleBy_cons (codeAny_handlers_test (Xc2 (Inv.inH J3 a) hg (Vc7 J.mod.kin J.mod.glob hn) ?_ hdb)) (by intro z;cases z)
   have LT:PySem.W.Looks (Vk X.prog X.w) h3 (typeOf (.ref a)) (.ref C):=hobc▸(PySem.W.Looks.ld hob).andThen .now;refine(PySem.W.exm_one J3.kIn LT hex).at ?_;refine codeAny_handlers_suite_as (lands_againW fw3 fun h4 fw4 up4=>?_)
   have J4:=inv fw4 ((up2.trans up3).trans up4);refine Xbg (X:=Z.inH X a) (v:=.ref a) (Inv.inH J4 a) hN hi (.inl hl) rfl (fun s5 J5=>?_) (.inr hl)
   have er:ER X.K ρ1 H1 (env.set i (some (.ref m))) (σ.set i (some (.ref a))):=(I.er.mono st).set i (by simp only[RD];exact⟨a,rfl,hρ⟩)
   refine Vn (hh a pa s5 (σ.set i (some (.ref a))) H1 ρ1 S1 (env.set i (some (.ref m))) ⟨J5,sr,er⟩ (by rw[hgh];exact fun z=>nomatch z)) (fun f6 s6 z=>?_) fun y s6 z=>?_
   ·rw[hgh]at z
    obtain⟨y,S3,e,z⟩:=z;cases e;obtain⟨u,v,σ6,H6,ρ6,rfl,J6,rv,rd,sr6,st6⟩:=z;exact Inv.goes (Inv.outH J6 J.ok) hl fun s7 J7=>⟨.rt d,S2,rfl,u,v,_,H6,ρ6,rfl,J7,rv,rd,sr6,st.trans st6⟩
   ·rw[hgh]at z
    obtain⟨_,_,_,e,_⟩:=z;cases e
  exact Xf6 J hs hf ha fl fun l h2 a0 hid hnew hh2 up2=>main l a0 hid hnew h2 hh2 up2
end
noncomputable def Xbv(sc:Uv):Vbd:={scope:=sc,locals:=0,globals:=0,cells:=[]}
noncomputable def Xer(b:Bool):Sem Bool->Bool
 |.pure c=>b==c
 |_=>false
noncomputable def Xl8(l:Option (List Str)):Sem (Option (List Str))->Bool
 |.pure m=>decide (l=m)
 |_=>false
theorem Xcb(h:Xer b m=true):m=pure b:=by
 cases m<;>first|cases h|skip
 simp only[Xer,beq_iff_eq]at h;subst h;rfl
theorem Xic(h:Xl8 b m=true):m=pure b:=by
 cases m<;>first|cases h|skip
 simp only[Xl8,decide_eq_true_eq]at h;subst h;rfl
theorem Xl9(v:Expr)(t:Option Expr)(l:Nat)(env:Vbd):Ve8 v t l env=Ve8 v t l (Xbv env.scope):=rfl
theorem Xid(t v:Expr)(l:Nat)(env:Vbd):Vdb [t] v l env=Vdb [t] v l (Xbv env.scope):=rfl
theorem Xie(ts:List Expr)(v:Expr)(env:Vbd):Vdc ts v env=Vdc ts v (Xbv env.scope):=rfl
theorem Xma(h:Xc6 i=true)(v:Vb):assign (.Subscript o i spos) env v=(do
   let ov <- Veu [v] (eval o env)
   let iv <- Veu [v,ov] (eval i env)
   standAt spos
   Veu [v,ov,iv] (setItem ov iv v)
   release [v,ov,iv] []):=by
 cases i<;>first|rfl|cases h
noncomputable def X40:Expr->Bool
 |.ListComp _ _ _ _=>true
 |_=>false
noncomputable def Xif(s:Stmt):Option (List Expr×Expr×Pos):=match s with
 |.Assign ts v p=>some (ts,v,p)
 |_=>none
theorem Xe5(h:Xif s=some z):s=.Assign z.1 z.2.1 z.2.2:=by
 unfold Xif at h;split at h
 ·cases h;rfl
 ·cases h
noncomputable def Xvu(s:Stmt):Option (Expr×Pos):=match s with
 |.Expr v p=>some (v,p)
 |_=>none
theorem X0i(h:Xvu s=some z):s=.Expr z.1 z.2:=by
 unfold Xvu at h;split at h
 ·cases h;rfl
 ·cases h
noncomputable def Xvv(s:Stmt):Option (Option Expr):=match s with
 |.Return v _=>some v
 |_=>none
theorem X0j(h:Xvv s=some z):∃p,s=.Return z p:=by
 unfold Xvv at h;split at h
 ·cases h;exact⟨_,rfl⟩
 ·cases h
noncomputable def Xvw(s:Stmt):Option (Expr×List Stmt×List Stmt):=match s with
 |.If c a b _=>some (c,a,b)
 |_=>none
theorem X0k{s:Stmt}{z:Expr×List Stmt×List Stmt}(h:Xvw s=some z):∃p,s=.If z.1 z.2.1 z.2.2 p:=by
 unfold Xvw at h;split at h
 ·cases h;exact⟨_,rfl⟩
 ·cases h
noncomputable def Xvx(s:Stmt):Option (Expr×Expr×List Stmt×List Stmt):=match s with
 |.For t i b oe _=>some (t,i,b,oe)
 |_=>none
theorem X0l(h:Xvx s=some z):∃p,s=.For z.1 z.2.1 z.2.2.1 z.2.2.2 p:=by
 unfold Xvx at h;split at h
 ·cases h;exact⟨_,rfl⟩
 ·cases h
noncomputable def Xvy(s:Stmt):Option (Option Expr×Option Expr):=match s with
 |.Raise v w _=>some (v,w)
 |_=>none
theorem X0m(h:Xvy s=some z):∃p,s=.Raise z.1 z.2 p:=by
 unfold Xvy at h;split at h
 ·cases h;exact⟨_,rfl⟩
 ·cases h
noncomputable def Xvz(s:Stmt):Option (List Stmt×List ExceptHandler×List Stmt×List Stmt):=match s with
 |.Try b hs oe fb _=>some (b,hs,oe,fb)
 |_=>none
theorem X0n(h:Xvz s=some z):∃p,s=.Try z.1 z.2.1 z.2.2.1 z.2.2.2 p:=by
 unfold Xvz at h;split at h
 ·cases h;exact⟨_,rfl⟩
 ·cases h
noncomputable def Xv0(h:ExceptHandler):Option (Expr×Str×Stmt×List Stmt):=match h with
 |.ExceptHandler (some e) (some n) (b::su) _=>some (e,n,b,su)
 |_=>none
theorem X0o(q:Xv0 h=some z):∃p,h=.ExceptHandler (some z.1) (some z.2.1) (z.2.2.1::z.2.2.2) p:=by
 unfold Xv0 at q;split at q
 ·cases q;exact⟨_,rfl⟩
 ·cases q
noncomputable def Xgd(s:Stmt):Nat:=match s with
 |.Pass _=>1
 |.Break _=>2
 |.Continue _=>3
 |_=>0
theorem vEnd_ok:(Xgd s=1->∃p,s=.Pass p)/\(Xgd s=2->∃p,s=.Break p)/\(Xgd s=3->∃p,s=.Continue p):=by
 unfold Xgd;split
 ·exact⟨fun _=>⟨_,rfl⟩,fun z=>(nomatch z),fun z=>(nomatch z)⟩
 ·exact⟨fun z=>(nomatch z),fun _=>⟨_,rfl⟩,fun z=>(nomatch z)⟩
 ·exact⟨fun z=>(nomatch z),fun z=>(nomatch z),fun _=>⟨_,rfl⟩⟩
 ·exact⟨fun z=>(nomatch z),fun z=>(nomatch z),fun z=>(nomatch z)⟩
section
variable(cm:Bool)(fns:List (Str×Nat×Bool))(gns:List Str)(sc:Uv)(N:List Str)
noncomputable def X41(i:Nat)(e:Ex)(v:Expr)(p:Pos)(ts:List Expr):Bool:=(Xcw ts).any fun t=>(vNm t).any fun x=>decide (N[i]?=some x)&&Xl0 (fun _=>true) sc x&&mt cm fns gns sc N e v&&(Xer false (Ve8 v (some t) p.line (Xbv sc))||(X40 v&&Xcn (sc.names.lookup x)&&Xer true (Ve8 v (some t) p.line (Xbv sc))))
noncomputable def Xx9(is:List Nat)(e:Ex)(v:Expr)(p:Pos)(ts:List Expr):Bool:=(Xcw ts).any fun t=>cm&&mtT (fun _=>true) sc N (.tup is) t&&mt cm fns gns sc N e v&&Xer false (Vdb [t] v p.line (Xbv sc))&&Xl8 none (Vdc [t] v (Xbv sc))
noncomputable def X76(es:Exs)(p:Pos)(i j:Nat)(a b x y t v:Expr):Bool:=(vNm x).any fun xn=>(vNm y).any fun yn=>cm&&decide (N[i]?=some xn)&&decide (N[j]?=some yn)&&decide (i≠j)&&Xcn (sc.names.lookup xn)&&Xcn (sc.names.lookup yn)&&mts cm fns gns sc N es [a,b] &&
   Xl8 (some [xn,yn]) (Vdc [t] v (Xbv sc))&&Xer false (Vdb [t] v p.line (Xbv sc))
noncomputable def X42(es:Exs)(p:Pos)(is:List Nat)(ts:List Expr)(v:Expr):Bool:=(Xcw ts).any fun t=>(Xh8 t).any fun tn=>(Xh8 v).any fun vs =>
 (Xf9 is).any fun i=>(Xf9 tn).any fun x=>(Xf9 vs).any fun a=>X76 cm fns gns sc N es p i.1 i.2 a.1 a.2 x.1 x.2 t v
noncomputable def Xya(o i e:Ex)(v:Expr)(p:Pos)(ts:List Expr):Bool:=(Xcw ts).any fun t=>(Xl7 t).any fun z=>Xc6 z.2&&mt cm fns gns sc N o z.1&&mt cm fns gns sc N i z.2&&mt cm fns gns sc N e v&&Xer false (Vdb [t] v p.line (Xbv sc))&&Xl8 none (Vdc [t] v (Xbv sc))
noncomputable def Xv1(c:Nat)(e:Ex)(v w:Option Expr):Bool:=w.isNone&&v.any fun r=>(Xai r).any fun z=>(vNm z.1).any fun x=>decide (Xa7 c=some x)&&glB sc x&&Yw x&&Yh z.2.1&&z.2.2.1.isEmpty&&mt cm fns gns sc N e z.2.1
end
section
variable(fns:List (Str×Nat×Bool))(gns:List Str)(sc:Uv)(N:List Str)
mutual
noncomputable def mtS(cm:Bool):St->Stmt->Bool
 |.nev,_=>true
 |.asg (.var i) e,st=>(Xif st).any fun z=>X41 cm fns gns sc N i e z.2.1 z.2.2 z.1
 |.asg (.tup is) e,st=>(Xif st).any fun z=>Xx9 cm fns gns sc N is e z.2.1 z.2.2 z.1
 |.par is es,st=>(Xif st).any fun z=>X42 cm fns gns sc N es z.2.2 is z.1 z.2.1
 |.aset o i e,st=>(Xif st).any fun z=>Xya cm fns gns sc N o i e z.2.1 z.2.2 z.1
 |.expr e,st=>(Xvu st).any fun z=>Xer false (Ve8 z.1 none z.2.line (Xbv sc))&&mt cm fns gns sc N e z.1
 |.ret e,st=>(Xvv st).any fun z=>z.any fun v=>mt cm fns gns sc N e v
 |.ite c a b,st=>(Xvw st).any fun z=>mt cm fns gns sc N c z.1&&mtSs cm a z.2.1&&mtSs cm b z.2.2
 |.for t it b,st=>(Xvx st).any fun z=>cm&&z.2.2.2.isEmpty&&Xba z.2.1&&mtT (fun _=>true) sc N t z.1&&mtI cm fns gns sc N it z.2.1&&mtSs cm b z.2.2.1&&Xd4 t it
 |.rse c e,st=>(Xvy st).any fun z=>cm&&Xv1 cm fns gns sc N c e z.1 z.2
 |.try b c i h,st=>(Xvz st).any fun z=>(Xcw z.2.1).any fun y=>(Xv0 y).any fun q=>(vNm q.1).any fun x=>z.2.2.1.isEmpty&&z.2.2.2.isEmpty&&nasgs b&&decide (Xa7 c=some x)&&glB sc x&&Yw x&&decide (N[i]?=some q.2.1)&&Xcn (sc.names.lookup q.2.1)&&mtSs cm b z.1&&mtSs false h (q.2.2.1::q.2.2.2)
 |.pass,st=>Xgd st==1
 |.brk,st=>Xgd st==2
 |.cnt,st=>Xgd st==3
noncomputable def mtSs(cm:Bool):Sts->List Stmt->Bool
 |.nil,[]=>true
 |.cons s ss,x::xs=>mtS cm s x&&mtSs cm ss xs
 |_,_=>false
end
end
theorem Xd5(h:Xcn k=true):k=some .local:=by
 unfold Xcn at h;split at h
 ·rfl
 ·cases h
section
variable{F:Fn}{G:List D}{cm:Bool}{fns:List (Str×Nat×Bool)}{gns:List Str}{X:Cx}
theorem DS.congr{st:Stmt}{na:Bool}{f g:En->Sto->R Fl}(h:DS X st na f)(q:∀env S,g env S=f env S):DS X st na g:=by
 have:g=f:=funext fun env=>funext fun S=>q env S
 rw[this];exact h
theorem DSs.congr{st:List Stmt}{na:Bool}{f g:En->Sto->R Fl}(h:DSs X st na f)(q:∀env S,g env S=f env S):DSs X st na g:=by
 have:g=f:=funext fun env=>funext fun S=>q env S
 rw[this];exact h
theorem X43{st:Stmt}{na:Bool}:DS X st na (exe F G .nev):=fun _ _ _ _ _ _ _ _ nb=>aB0 (by simp only[exe]) nb
structure TopOk(cm:Bool)(F:Fn)(G:List D)(fns:List (Str×Nat×Bool))(gns:List Str)(X:Cx)(sc:Uv)(N:List Str):Prop where
 hN:X.N=N
 hs:X.env.scope=sc
 nd:N.Nodup
 fn:∀x,X.fn x=true
 pf:PF cm F G fns gns X
 stk:X.stack=X.env::X.outer
 frm:X.env.frame=some X.env.locals
theorem TopOk.inH(T:TopOk cm F G fns gns X sc N)(a:Addr):TopOk false F G fns gns (Z.inH X a) sc N :=
 ⟨T.hN,T.hs,T.nd,T.fn,⟨T.pf.blt,fun f nm ar fl h hf=>by
  obtain⟨g,fd,ps,k,c1,c2,r⟩:=T.pf.fn f nm ar fl h (fun z=>nomatch (hf z))
  refine⟨g,fd,ps,k,c1,?_,r⟩;cases fl with
  |true=>exact nomatch (hf rfl)
  |false=>exact c2.mark,T.pf.glb,T.pf.cal,T.pf.units,T.pf.gd,(fun z=>nomatch z),T.pf.err⟩,T.stk,T.frm⟩
variable{sc:Uv}{N:List Str}
noncomputable def isC:Ex->Bool
 |.nev=>true
 |.cmr _ _ _ _=>true
 |_=>false
theorem X77(h4:X40 v=true)(hn:isC e=false)(h:mt cm fns gns sc N e v=true):False:=by
 cases v with
 |ListComp ee gens scope cp =>
  cases e with
  |nev=>cases hn
  |cmr _ _ _ _=>cases hn
  |lrg _ es =>
   cases es with
   |nil=>cases h
   |cons _ es=>cases es<;>cases h
  |_=>cases h
 |_=>cases h4
theorem Xv2{i:Nat}{e:Ex}{ts:List Expr}(T:TopOk cm F G fns gns X sc N)(h:X41 cm fns gns sc N i e v p ts=true):DS X (.Assign ts v p) false (exe F G (.asg (.var i) e)):=by
 obtain⟨t,k1,hq1⟩:=Xe h;obtain⟨x,k2,hq2⟩:=Xe hq1;clear h hq1;have h:=hq2;clear hq2;have k3:=Xa1 k1;obtain⟨py,k4⟩:=Xbc k2;subst k4 k3
 ·rw[bA0,bA0,bA0,decide_eq_true_eq,Vb6,bA0,bA0]at h
  obtain⟨⟨⟨h1,h2⟩,h3⟩,h4⟩:=h;obtain⟨l1,l2⟩:=Xh4 (X:=X) T.hs (fun x _=>T.fn x) h2
  have ihe:=(snd e X sc N v T.hN T.hs T.pf h3).1;have hN:=T.hN;have hs:=T.hs;subst hN hs;rcases h4 with h4|⟨⟨h4,h5⟩,h6⟩
  ·have hw:=Xcb h4
   rw[<- Xl9]at hw;exact(X24 T.nd h1 l1 l2 ihe hw).congr fun env S=>by simp only[exe]<;>rfl
  ·have hw:=Xcb h6
   rw[<- Xl9]at hw;cases e with
   |nev=>exact fun _ _ _ _ _ _ _ _ nb=>aB0 (by simp only[exe,ev,R.bind_bad]) nb
   |cmr k n gs elt =>
    obtain⟨ee,gens,scope,cp,rfl,m0,m1,m2,m3,m4,m5⟩:=Xsw h3;subst m1 m2;have so:=Xl4 m3;have hcl:=T.pf.calm m0;obtain⟨c⟩:=Xo1 (p:=cp) rfl rfl T.pf hcl so (sndg gs X _ _ _ _ gens rfl rfl T.pf m4) (fun Y y1 y2 y3=>(snd elt Y _ _ ee y1 y2 y3 m5).1)
    refine(Xzh (py:=py) (spos:=p) T.nd h1 (Xd5 h5) hw hcl so rfl c.hg c.hi c.hs c.hG c.hT c.hB).congr fun env S=>?_
    simp only[exe];have:=congrFun (congrFun c.eq env) S;rw[this]
    all_goals rfl
   |_=>exact(X77 h4 rfl h3).elim
theorem Xv3{is:List Nat}{e:Ex}{ts:List Expr}(T:TopOk cm F G fns gns X sc N)(h:Xx9 cm fns gns sc N is e v p ts=true):DS X (.Assign ts v p) false (exe F G (.asg (.tup is) e)):=by
 obtain⟨t,k1,hq1⟩:=Xe h;clear h;have h:=hq1;clear hq1;have k3:=Xa1 k1;subst k3
 ·rw[bA0,bA0,bA0,bA0]at h
  obtain⟨⟨⟨⟨h0,h1⟩,h2⟩,h3⟩,h4⟩:=h;have h1':=h1;simp only[mtT]at h1';obtain⟨tes,q1,_⟩:=Xe h1';obtain⟨tkk,tpp,q2⟩:=Xca q1;subst q2;have ihe:=(snd e X sc N v T.hN T.hs T.pf h2).1;have hg:=dgB (top:=fun _=>true) T.hN T.hs T.nd (fun _=>T.pf.calm h0) (fun x _=>T.fn x) h1
  have w1:=Xcb h3;have w2:=Xic h4;rw[<- T.hs]at w1 w2;rw[<- Xid]at w1;rw[<- Xie]at w2;exact(X4v ihe hg w1 w2 rfl).congr fun env S=>by simp only[exe]<;>rfl
theorem X0p{is:List Nat}{es:Exs}{ts:List Expr}(T:TopOk cm F G fns gns X sc N)(h:X42 cm fns gns sc N es p is ts v=true):DS X (.Assign ts v p) false (exe F G (.par is es)):=by
 obtain⟨t,k1,hq⟩:=Xe h;clear h;have h:=hq;clear hq;obtain⟨tn,k2,hq⟩:=Xe h;clear h;have h:=hq;clear hq;obtain⟨vs,k3,hq⟩:=Xe h;clear h;have h:=hq;clear hq;have e1:=Xa1 k1;obtain⟨kt,pt,e2⟩:=Xca k2;obtain⟨kv,pv,e3⟩:=Xca k3;subst e1 e2 e3;obtain⟨⟨i,j⟩,k4,hq⟩:=Xe h;clear h;have h:=hq;clear hq;obtain⟨⟨x,y⟩,k5,hq⟩:=Xe h;clear h;have h:=hq;clear hq;obtain⟨⟨a,b⟩,k6,hq⟩:=Xe h;clear h;have h:=hq;clear hq;have e4:=Xc7 k4;have e5:=Xc7 k5;have e6:=Xc7 k6;subst e4 e5 e6;obtain⟨xn,k7,hq⟩:=Xe h;clear h;have h:=hq;clear hq;obtain⟨yn,k8,hq⟩:=Xe h;clear h;have h:=hq;clear hq;obtain⟨px,e7⟩:=Xbc k7;obtain⟨py,e8⟩:=Xbc k8;dsimp only at e7 e8;subst e7 e8
 iterate 8 rw[bA0]at h
 obtain⟨⟨⟨⟨⟨⟨⟨⟨h0,h1⟩,h2⟩,h3⟩,h4⟩,h5⟩,h6⟩,h7⟩,h8⟩:=h;have ihe:=snds es X sc N _ T.hN T.hs T.pf h6;have hN:=T.hN;have hs:=T.hs;subst hN hs;have w1:=Xcb h8;have w2:=Xic h7;rw[<- Xid]at w1;rw[<- Xie]at w2;exact(X0f (T.pf.calm h0) T.nd (oD0 h1) (oD0 h2) (oD0 h3) (Xd5 h4) (Xd5 h5) ihe w2 w1).congr fun env S=>by simp only[exe]
theorem Xv4{o i e:Ex}{ts:List Expr}(T:TopOk cm F G fns gns X sc N)(h:Xya cm fns gns sc N o i e v p ts=true):DS X (.Assign ts v p) false (exe F G (.aset o i e)):=by
 obtain⟨t,k1,hq1⟩:=Xe h;obtain⟨⟨ox,ix⟩,k2,hq2⟩:=Xe hq1;clear h hq1;have h:=hq2;clear hq2;have k3:=Xa1 k1;obtain⟨sp,k4⟩:=Xh9 k2;dsimp only at k4;subst k4 k3
 ·iterate 5 rw[bA0]at h
  obtain⟨⟨⟨⟨⟨h1,h2⟩,h3⟩,h4⟩,h5⟩,h6⟩:=h;have w1:=Xcb h5;have w2:=Xic h6;rw[<- T.hs]at w1 w2;rw[<- Xid]at w1;rw[<- Xie]at w2;exact((X0g (by have:=T.pf.units;omega) (snd e X sc N v T.hN T.hs T.pf h4).1 (snd o X sc N _ T.hN T.hs T.pf h2).1 (snd i X sc N _ T.hN T.hs T.pf h3).1 w1 w2 (Xma h1)).weak (na2:=false) fun z=>nomatch z).congr fun env S=>by simp only[exe]
theorem X0q{e:Ex}{v:Option Expr}(T:TopOk cm F G fns gns X sc N)(h:(v.any fun v=>mt cm fns gns sc N e v)=true):DS X (.Return v p) true (exe F G (.ret e)):=by
 obtain⟨v,rfl,h⟩:=Xe h;exact(X23 (snd e X sc N v T.hN T.hs T.pf h).1).congr fun env S=>by simp only[exe]
theorem X0r{c:Nat}{e:Ex}{v w:Option Expr}(T:TopOk cm F G fns gns X sc N)(h0:cm=true)(h:Xv1 cm fns gns sc N c e v w=true):DS X (.Raise v w p) true (exe F G (.rse c e)):=by
 unfold Xv1 at h;rw[bA0]at h;obtain⟨hw,h⟩:=h;cases w with
 |some _=>cases hw
 |none =>
  obtain⟨r,er,hq⟩:=Xe h;obtain⟨x,px,y,ys,cp,er2,hq2⟩:=Xav hq;clear h hq;have h:=hq2;clear hq2;subst er2 er
  iterate 5 rw[bA0]at h
  obtain⟨⟨⟨⟨⟨h1,h2⟩,h3⟩,h4⟩,h6⟩,h5⟩:=h;have h1:=oD0 h1;have e6:=Vbo.mp h6;dsimp only at e6;subst e6;obtain⟨C,k1,k2⟩:=T.pf.err.at_ c x h1;exact(X4y (T.pf.calm h0) h1 k2 (T.pf.err.cls c C k1).1 (Yr T.hs h2) (Xae h3).1 (snd e X sc N y T.hN T.hs T.pf h5).1 h4).congr fun env S=>by simp only[exe]
mutual
theorem X9n{cm:Bool}{X:Cx}:∀(x:St) (st:Stmt),TopOk cm F G fns gns X sc N->mtS fns gns sc N cm x st=true->DS X st (X2u x) (exe F G x)
 |.nev,st,T,h=>X43
 |.asg (.var i) e,st,T,h=>by
  simp only[mtS]at h;obtain⟨z,h1,hq⟩:=Xe h;clear h;have h:=hq;clear hq;rw[Xe5 h1];exact Xv2 T h
 |.asg (.tup is) e,st,T,h=>by
  simp only[mtS]at h;obtain⟨z,h1,hq⟩:=Xe h;clear h;have h:=hq;clear hq;rw[Xe5 h1];exact Xv3 T h
 |.par is es,st,T,h=>by
  simp only[mtS]at h;obtain⟨z,h1,hq⟩:=Xe h;clear h;have h:=hq;clear hq;rw[Xe5 h1];exact X0p T h
 |.aset o i e,st,T,h=>by
  simp only[mtS]at h;obtain⟨z,h1,hq⟩:=Xe h;clear h;have h:=hq;clear hq;rw[Xe5 h1];exact Xv4 T h
 |.expr e,st,T,h=>by
  simp only[mtS]at h;obtain⟨z,h1,hq⟩:=Xe h;clear h;have h:=hq;clear hq;rw[X0i h1];rw[bA0]at h;have w1:=Xcb h.1;rw[<- T.hs,<- Xl9]at w1;exact(Xy5 (snd e X sc N z.1 T.hN T.hs T.pf h.2).1 w1).congr fun env S=>by simp only[exe]
 |.ret e,st,T,h=>by
  simp only[mtS]at h;obtain⟨z,h1,hq⟩:=Xe h;clear h;have h:=hq;clear hq;obtain⟨p,rfl⟩:=X0j h1;exact X0q T h
 |.ite c a b,st,T,h=>by
  simp only[mtS]at h;obtain⟨z,h1,hq⟩:=Xe h;clear h;have h:=hq;clear hq;obtain⟨p,rfl⟩:=X0k h1;rw[bA0,bA0]at h;exact(X7g (snd c X sc N z.1 T.hN T.hs T.pf h.1.1).2 (sndSs a z.2.1 T h.1.2) (sndSs b z.2.2 T h.2)).congr fun env S=>by simp only[exe]<;>rfl
 |.for t it b,st,T,h=>by
  simp only[mtS]at h;obtain⟨⟨tg,iter,body,oe⟩,h1,hq⟩:=Xe h;clear h;have h:=hq;clear hq;obtain⟨p,rfl⟩:=X0l h1
  iterate 6 rw[bA0]at h
  obtain⟨⟨⟨⟨⟨⟨h0,h1⟩,h2⟩,h3⟩,h4⟩,h5⟩,h6⟩:=h;have e1:=Vbo.mp h1;dsimp only at e1;subst e1;have hg:=dgB (top:=fun _=>true) T.hN T.hs T.nd (fun _=>T.pf.calm h0) (fun x _=>T.fn x) h3
  exact(X3j T.stk T.frm (T.pf.calm h0) (Xqm it X sc N tg iter T.hN T.hs T.pf (Xg2 h6 h3) h4) hg (sndSs b body T h5) (Xaz h2)).congr fun env S=>by simp only[exe]
 |.rse c e,st,T,h=>by
  simp only[mtS]at h;obtain⟨z,h1,hq⟩:=Xe h;clear h;have h:=hq;clear hq;obtain⟨p,rfl⟩:=X0m h1;rw[bA0]at h;exact X0r T h.1 h.2
 |.try b c i hd,st,T,h=>by
  simp only[mtS]at h;obtain⟨⟨body,hs,oe,fb⟩,k1,hq⟩:=Xe h;clear h;have h:=hq;clear hq;obtain⟨y,k2,hq⟩:=Xe h;clear h;have h:=hq;clear hq;obtain⟨⟨te,n,b0,su⟩,k3,hq⟩:=Xe h;clear h;have h:=hq;clear hq;obtain⟨x,k4,hq⟩:=Xe h;clear h;have h:=hq;clear hq;obtain⟨p,e1⟩:=X0n k1;have e2:=Xa1 k2;obtain⟨hp,e3⟩:=X0o k3;obtain⟨np,e4⟩:=Xbc k4;dsimp only at e1 e2 e3 e4;subst e4 e3 e2 e1
  iterate 9 rw[bA0]at h
  obtain⟨⟨⟨⟨⟨⟨⟨⟨⟨h1,h2⟩,h3⟩,h4⟩,h5⟩,h6⟩,h7⟩,h8⟩,h9⟩,h10⟩:=h;have e1:=Vbo.mp h1;have e2:=Vbo.mp h2;have h4:=oD0 h4;have h7:=oD0 h7;dsimp only at e1 e2 h7;subst e1 e2;have ib:=sndSs b body T h9;rw[h3]at ib;have ih:∀a,DSs (Z.inH X a) (b0::su) (nasgs hd) (pb F G hd):=fun a=>sndSs hd (b0::su) (T.inH a) h10
  obtain⟨C0,k1,k2⟩:=T.pf.err.at_ c x h4;have hN:=T.hN;have hs:=T.hs;subst hN hs;refine(X4z (c:=c) T.stk T.frm T.nd h7 (Xd5 h8) k2 (Yr rfl h5) (Xae h6).1 (fun c' C e1 e2=>(T.pf.err.sub c' C c C0 e1 k1).2 e2) ib ih).congr fun env S=>?_
  simp only[exe,h3,if_true,Xvt]
  all_goals rfl
 |.pass,st,T,h=>by
  simp only[mtS,beq_iff_eq]at h;obtain⟨p,rfl⟩:=vEnd_ok.1 h;exact ds_pass.congr fun env S=>by simp only[exe]
 |.brk,st,T,h=>by
  simp only[mtS,beq_iff_eq]at h;obtain⟨p,rfl⟩:=vEnd_ok.2.1 h;exact ds_brk.congr fun env S=>by simp only[exe]
 |.cnt,st,T,h=>by
  simp only[mtS,beq_iff_eq]at h;obtain⟨p,rfl⟩:=vEnd_ok.2.2 h;exact ds_cnt.congr fun env S=>by simp only[exe]
theorem sndSs{cm:Bool}{X:Cx}:∀(x:Sts) (st:List Stmt),TopOk cm F G fns gns X sc N->mtSs fns gns sc N cm x st=true->DSs X st (nasgs x) (pb F G x)
 |.nil,[],T,h=>dss_nil.congr fun env S=>by simp only[pb]
 |.cons s ss,x::xs,T,h=>by
  have h':(mtS fns gns sc N cm s x&&mtSs fns gns sc N cm ss xs)=true:=h;rw[bA0]at h';exact(Xuw (X9n s x T h'.1) (sndSs ss xs T h'.2)).congr fun env S=>by simp only[pb]<;>rfl
 |.nil,_::_,T,h=>by cases h
 |.cons _ _,[],T,h=>by cases h
end
end
noncomputable def Xco(N ps:List Str)(sc:Uv):Bool:=Xqg sc.kind && !sc.isCoroutine && !sc.isGenerator&&Xen N&&decide (N.take ps.length=ps)&&ps.all (fun x=>match sc.names.lookup x with|some .local=>true|some .cell=>true|_=>false)&&sc.names.all (fun y=>match y.2 with | .free=>false|_=>true)
theorem Xv5(h:Xco N ps sc=true):FnScope N ps sc:=by
 simp only[Xco,bA0,Vbv,decide_eq_true_eq]at h;obtain⟨⟨⟨⟨⟨⟨h1,h2⟩,h3⟩,h4⟩,h5⟩,h6⟩,h7⟩:=h;refine⟨Xh7 h1,h2,h3,Xeo h4,h5,fun x hx=>?_,fun y hy e=>?_⟩
 ·have:=Ux.mp h6 x hx
  split at this
  ·exact .inl (by assumption)
  ·exact .inr (by assumption)
  ·cases this
 ·have:=Ux.mp h7 y hy
  rw[e]at this;cases this
structure DefOk(K:Vg)(mg:Str->Option Vb)(fns:List (Str×Nat×Bool))(gns:List Str)(d:Df)(nm:Str)(ar:Nat)(fl:Bool):Prop where
 ex:∃g fd st qual N ps,Fun K nm qual st g fd/\mg nm=some (.ref g)/\Xco N ps (Xv st)=true/\mtSs fns gns (Xv st) N fl d.body (Yl st)=true/\d.np=ps.length/\d.nl=N.length/\ps.length=ar/\Binds K fd ps []
section
variable{P:V1}{w:V9}{K:Vg}{mg:Str->Option Vb}{base:Heap}{T:List Df}{G:List D}{fns:List (Str×Nat×Bool)}{gns:List Str}
theorem Xmb(hcl:∀(f:Nat) (nm:Str),Xbu f nm G=true->∃ar fl,fns[f]?=some (nm,ar,fl)/\(∀a,Vaj K V5 nm=some (some (.ref a))->mg nm=some (.ref a))/\∀k xs S,FT T G k f xs S≠.bad->xs.length=ar)(er:ErrOk K)(hb:∀x∈blts,mg x=none)(hg:∀(k:Nat) nm,gns[k]?=some nm->∃u d,mg nm=some u/\G[k]?=some d/\∀ ρ H,∃v,RelV v u/\RD K ρ H d v){k:Nat}
  (ih:∀(f:Nat) nm ar fl,fns[f]?=some (nm,ar,fl)->∃g fd ps,FnD fl P w K mg base k g fd ps (FT T G k f)/\Binds K fd ps []/\mg nm=some (.ref g)/\Vdk K (.ref g)=true/\ps.length=ar)
  {f:Nat} {nm qual:Str} {fl:Bool} {d:Df} {g:Addr} {fd:Vcx} {st:Stmt} {N ps:List Str} (hT:T[f]?=some d) (F:Fun K nm qual st g fd) (hS:Xco N ps (Xv st)=true) (hM:mtSs fns gns (Xv st) N fl d.body (Yl st)=true) (hp:d.np=ps.length) (hn:d.nl=N.length) :
  FnD fl P w K mg base (k+1) g fd ps (FT T G (k+1) f):=by
 obtain⟨oc,od,kV,doc,pm,an,cdv,ct,osl,rfl,lk,hcd⟩:=F.ex;have hS':=Xv5 hS;have key:=X25 (cm:=fl) (P:=P) (w:=w) (mg:=mg) (base:=base) (k:=k) (G:=pb (FT T G k) G d.body) (na:=nasgs d.body) lk hcd hS' fun A outer s H E hr=>by
  refine sndSs (fns:=fns) (gns:=gns) (sc:=Xv st) (N:=N) d.body (Yl st) ⟨rfl,rfl,hS'.nd,fun _=>rfl,⟨hb,fun f nm ar fl' h hfl=>?_,hg,fun f nm h=>let ⟨ar,fl,h1,h2,h3⟩:=hcl f nm h;⟨ar,fl,h1,h2,h3 k⟩,?_,hr.gd,id,er⟩,rfl,rfl⟩ hM
  ·obtain⟨g,fd,ps,h1,h2,h3,h4,h5⟩:=ih f nm ar fl' h
   exact⟨g,fd,ps,k,h1,hr.less hfl,h2,h3,h4,h5⟩
  ·have:=hr.un
   show(A.deeper _).units+200<cLine;omega
 have e:FT T G (k+1) f=(fun ds S=>if ds.length=ps.length then
  match pb (FT T G k) G d.body (ds.map some++Vh (N.length-ps.length) none) S with
  |.ok (.rt v) S=>.ok v S
  |.ok (.nx _) S=>.ok .non S
  |.ok _ _=>.bad
  |.ex n S=>.ex n S
  |.bad=>.bad else .bad):=by
  funext ds S
  simp only[FT,hT,den,hp,hn]
  all_goals rfl
 rw[e];exact key
theorem table(hcl:∀(f:Nat) (nm:Str),Xbu f nm G=true->∃ar fl,fns[f]?=some (nm,ar,fl)/\(∀a,Vaj K V5 nm=some (some (.ref a))->mg nm=some (.ref a))/\∀k xs S,FT T G k f xs S≠.bad->xs.length=ar)(er:ErrOk K)(hb:∀x∈blts,mg x=none)(hg:∀(k:Nat) nm,gns[k]?=some nm->∃u d,mg nm=some u/\G[k]?=some d/\∀ ρ H,∃v,RelV v u/\RD K ρ H d v)
  (hd:∀(f:Nat) nm ar fl,fns[f]?=some (nm,ar,fl)->∃d,T[f]?=some d/\DefOk K mg fns gns d nm ar fl) :
  ∀(k f:Nat) nm ar fl,fns[f]?=some (nm,ar,fl)->∃g fd ps,FnD fl P w K mg base k g fd ps (FT T G k f)/\Binds K fd ps []/\mg nm=some (.ref g)/\Vdk K (.ref g)=true/\ps.length=ar:=by
 intro k
 induction k with
 |zero =>
  intro f nm ar fl h;obtain⟨d,_,⟨g,fd,st,qual,N,ps,F,hm,_,_,_,_,hl,hB⟩⟩:=hd f nm ar fl h;refine⟨g,fd,ps,⟨fun A outer s H args us vs Q E _ _ _ _ hsp=>?_⟩,hB,hm,F.kp,hl⟩
  obtain⟨ds,ρ,S',_,_,_,nb,_⟩:=hsp;exact aB0 rfl nb
 |succ k ih =>
  intro f nm ar fl h;obtain⟨d,hT,⟨g,fd,st,qual,N,ps,F,hm,hS,hM,hp,hn,hl,hB⟩⟩:=hd f nm ar fl h;exact⟨g,fd,ps,Xmb hcl er hb hg ih hT F hS hM hp hn,hB,hm,F.kp,hl⟩
end
structure FunAt(K:Vg)(nm:Str)(st:Stmt):Prop where
 ex:∃g fd,Fun K nm nm st g fd/\Vaj K V5 nm=some (some (.ref g))
theorem funAt_mk{K:Vg}{nm:Str}{st:Stmt}{f:Addr}{oc:Vb}{od an:Option Addr}{osl:Array (Option Vb)}{kV doc pm cdv ct:Vb}(a:Vaj K V5 nm=some (some (.ref f)))
  (l:K.lookup f=some ⟨oc,od,.func (Vcb nm nm (Xap st) (Yl st) (Xv st) .none kV doc pm an cdv ct),osl⟩) (c:Vgq K cdv nm=true) (k:Vdk K (.ref f)=true):FunAt K nm st:=⟨⟨f,_,X2o l c k,a⟩⟩
def Xe6(nm:Str)(st:Stmt)(ps:List Str):Prop:=∀(kV doc pm:Vb) (an:Option Addr) (cdv ct:Vb) (us:List Vb),us.length=ps.length->bindArgs (Vcb nm nm (Xap st) (Yl st) (Xv st) .none kV doc pm an cdv ct) ⟨us,[]⟩=pure (ps.zip us)
theorem Y7{nm a:Str}{st:Stmt}(h:∀kV doc pm an cdv ct u,bindArgs (Vcb nm nm (Xap st) (Yl st) (Xv st) .none kV doc pm an cdv ct) ⟨[u],[]⟩=pure [(a,u)]:=by intros;rfl):Xe6 nm st [a]:=fun kV doc pm an cdv ct us hl=>match us,hl with
 |[u],_=>h kV doc pm an cdv ct u
theorem Xaj{nm a b:Str}{st:Stmt}(h:∀kV doc pm an cdv ct u v,bindArgs (Vcb nm nm (Xap st) (Yl st) (Xv st) .none kV doc pm an cdv ct) ⟨[u,v],[]⟩=pure [(a,u),(b,v)]:=by intros;rfl):Xe6 nm st [a,b]:=fun kV doc pm an cdv ct us hl=>match us,hl with
 |[u,v],_=>h kV doc pm an cdv ct u v
theorem X9o{nm a b c:Str}{st:Stmt}(h:∀kV doc pm an cdv ct u v x,bindArgs (Vcb nm nm (Xap st) (Yl st) (Xv st) .none kV doc pm an cdv ct) ⟨[u,v,x],[]⟩=pure [(a,u),(b,v),(c,x)]:=by intros;rfl):Xe6 nm st [a,b,c]:=fun kV doc pm an cdv ct us hl=>match us,hl with
 |[u,v,x],_=>h kV doc pm an cdv ct u v x
theorem Xv6{K:Vg}{h:Heap}{mg:Str->Option Vb}{fns:List (Str×Nat×Bool)}{gns:List Str}{d:Df}{nm:Str}{ar:Nat}{fl:Bool}{st:Stmt}{N ps:List Str}(X:K.In h)(Gm:h.Ns V5 mg)(F:FunAt K nm st)
  (hS:Xco N ps (Xv st)=true) (hM:mtSs fns gns (Xv st) N fl d.body (Yl st)=true) (hp:d.np=ps.length) (hn:d.nl=N.length) (hl:ps.length=ar) (hB:Xe6 nm st ps):DefOk K mg fns gns d nm ar fl:=by
 obtain⟨g,fd,h1,h2⟩:=F.ex;exact⟨g,fd,st,nm,N,ps,h1,Vc7 X Gm h2,hS,hM,hp,hn,hl,h1.binds hB⟩
abbrev MD(fns:List (Str×Nat×Bool))(gns:List Str)(st:Stmt)(N:List Str)(fl:Bool)(d:Df):Prop:=(mtSs fns gns (Xv st) N fl d.body (Yl st)&&Xco N (N.take d.np) (Xv st))=true
theorem mm{fns:List (Str×Nat×Bool)}{gns:List Str}{st:Stmt}{N:List Str}{fl:Bool}{d:Df}(h:MD fns gns st N fl d):mtSs fns gns (Xv st) N fl d.body (Yl st)=true:=((bA0 _ _).mp h).1
theorem ms{fns:List (Str×Nat×Bool)}{gns:List Str}{st:Stmt}{N:List Str}{fl:Bool}{d:Df}(h:MD fns gns st N fl d):Xco N (N.take d.np) (Xv st)=true:=((bA0 _ _).mp h).2
theorem dk{K:Vg}{h:Heap}{mg:Str->Option Vb}{fns:List (Str×Nat×Bool)}{gns:List Str}{d:Df}{nm:Str}{ar:Nat}{fl:Bool}{st:Stmt}{N:List Str}(X:K.In h)(Gm:h.Ns V5 mg)(F:FunAt K nm st)
  (hM:MD fns gns st N fl d) (hB:Xe6 nm st (N.take d.np)) (hp:d.np=(N.take d.np).length:=by rfl) (hn:d.nl=N.length:=by rfl) (hl:(N.take d.np).length=ar:=by rfl):DefOk K mg fns gns d nm ar fl:=Xv6 X Gm F (ms hM) (mm hM) hp hn hl hB
def AllD(K:Vg)(mg:Str->Option Vb)(fns:List (Str×Nat×Bool))(gns:List Str):List (Str×Nat×Bool)->List Df->Prop
 |[],[]=>True
 |x::r,d::ds=>DefOk K mg fns gns d x.1 x.2.1 x.2.2/\AllD K mg fns gns r ds
 |_,_=>False
theorem AllD.c{K:Vg}{mg:Str->Option Vb}{fns:List (Str×Nat×Bool)}{gns:List Str}{x:Str×Nat×Bool}{r:List (Str×Nat×Bool)}{d:Df}{ds:List Df}(h:DefOk K mg fns gns d x.1 x.2.1 x.2.2)(t:AllD K mg fns gns r ds):AllD K mg fns gns (x::r) (d::ds):=⟨h,t⟩
theorem AllD.get{K:Vg}{mg:Str->Option Vb}{fns:List (Str×Nat×Bool)}{gns:List Str}:∀ {fs:List (Str×Nat×Bool)} {ds:List Df},AllD K mg fns gns fs ds->∀(f:Nat) nm ar fl,fs[f]?=some (nm,ar,fl)->∃d,ds[f]?=some d/\DefOk K mg fns gns d nm ar fl
 |[],[],_,f,nm,ar,fl,e=>by cases e
 |x::r,d::ds,h,0,nm,ar,fl,e=>by cases e;exact⟨d,rfl,h.1⟩
 |x::r,d::ds,h,f+1,nm,ar,fl,e=>AllD.get h.2 f nm ar fl e
noncomputable def X44(K:Vg):Bool:=blts.all fun x=>match Vaj K V5 x with
 |some none=>true
 |_=>false
theorem X0s{K:Vg}{h:Heap}{mg:Str->Option Vb}(X:K.In h)(Gm:h.Ns V5 mg)(e:X44 K=true):∀x∈blts,mg x=none:=fun x hx=>by
 have:=Ux.mp e x hx;split at this
 ·rename_i q;exact PySem.W.mg_none_of X Gm q
 ·cases this
theorem Xc9{K:Vg}{h:Heap}{mg:Str->Option Vb}{nm:Str}{i:Int}{t:Tok}(X:K.In h)(Gm:h.Ns V5 mg)(e:Vaj K V5 nm=some (some (.int i t))):∃u d,mg nm=some u/\some (D.int i)=some d/\∀ ρ H,∃v,RelV v u/\RD K ρ H d v :=
 ⟨_,_,Vc7 X Gm e,rfl,fun _ _=>⟨.int i,⟨t,rfl⟩,by simp only[RD]⟩⟩
noncomputable def Xig(fns:List (Str×Nat×Bool)):List D->Bool
 |[]=>true
 |.fn f nm::r=>(match fns[f]? with|some (m,_,_)=>decide (m=nm)|none=>false)&&Xig fns r
 |_::r=>Xig fns r
theorem Xih:∀ {G:List D},Xig fns G=true->Xbu f nm G=true->∃ar fl,fns[f]?=some (nm,ar,fl)
 |[],_,h=>by cases h
 |d::r,hc,h=>by
  cases d with
  |fn g m =>
   simp only[Xig,bA0]at hc;simp only[Xbu,Vb6,bA0,beq_iff_eq,decide_eq_true_eq]at h;rcases h with⟨rfl,rfl⟩|h
   ·have h1:=hc.1
    split at h1
    ·rename_i m' ar fl e
     have:=oD0 h1;subst this;exact⟨ar,fl,e⟩
    ·cases h1
   ·exact Xih hc.2 h
  |_=>exact Xih (by simpa only[Xig] using hc) (by simpa only[Xbu] using h)
theorem X45(hT:T[f]?=some d):∀(k:Nat) (xs:List D) (S:Sto),FT T G k f xs S≠.bad->xs.length=d.np
 |0,xs,S,h=>aB0 rfl h
 |k+1,xs,S,h=>by
  simp only[FT,hT,den]at h;split at h
  ·assumption
  ·exact aB0 rfl h
theorem law_fn {P:V1} {w:V9} {K:Vg} {h:Heap} {mg:Str->Option Vb} {T:List Df} {G:List D} {fns:List (Str×Nat×Bool)} {gns:List Str} {fa:Addr} {k f:Nat} {d:Df} {st:Stmt} {N:List Str} {x:Str} (X:K.In h) (Gm:h.Ns V5 mg) (hfa:mg "law" = some (.ref fa))
  (er:ErrOk K) (hb:∀x∈blts,mg x=none) (hg:∀(k:Nat) nm,gns[k]?=some nm->∃u d,mg nm=some u/\G[k]?=some d/\∀ ρ H,∃v,RelV v u/\RD K ρ H d v)
  (hd:∀(f:Nat) nm ar fl,fns[f]?=some (nm,ar,fl)->∃d,T[f]?=some d/\DefOk K mg fns gns d nm ar fl)
  (hT:T[f]?=some d) (F:FunAt K "law" st) (hS:Xco N [x] (Xv st)=true) (hM:mtSs fns gns (Xv st) N true d.body (Yl st)=true) (hp:d.np=1) (hn:d.nl=N.length) (hB:Xe6 "law" st [x]) (hcb:Xig fns G=true:=by rfl) :
  ∃fd:Vcx,(∀(s:Vc) (u:Vb),BindsTo s fd ⟨[u],[]⟩ [(x,u)])/\∀base:Heap,K.In base->base.Ns V5 mg->FnOk P w K mg base (CXd P w) (k+1) fa fd [x] (spD K 1 (FT T G (k+1) f)):=by
 obtain⟨g,fd,h1,h2⟩:=F.ex;have e:=hfa.symm.trans (Vc7 X Gm h2);cases e;refine⟨fd,fun s u=>?_,fun base _ _=>?_⟩
 ·obtain⟨oc,od,kV,doc,pm,an,cdv,ct,osl,rfl,_⟩:=h1.ex
  exact .of_eq (hB kV doc pm an cdv ct [u] rfl)
 ·have hcl:∀(f:Nat) (nm:Str),Xbu f nm G=true->∃ar fl,fns[f]?=some (nm,ar,fl)/\(∀a,Vaj K V5 nm=some (some (.ref a))->mg nm=some (.ref a))/\∀k xs S,FT T G k f xs S≠.bad->xs.length=ar:=fun f nm h=>by
   obtain⟨ar,fl,q⟩:=Xih hcb h;obtain⟨d',hT',⟨_,_,_,_,_,ps',_,_,_,_,e1,_,e2,_⟩⟩:=hd f nm ar fl q;exact⟨ar,fl,q,fun a z=>Vc7 X Gm z,fun k xs S z=>by rw[X45 hT' k xs S z,e1,e2]⟩
  have:=Xmb (P:=P) (w:=w) (base:=base) hcl er hb hg (fun f nm ar fl q=>table hcl er hb hg hd k f nm ar fl q) hT h1 hS hM hp hn
  exact⟨fun vs H Q E z=>let ⟨_,_,_,q,_⟩:=z;q,fun A outer s H args us vs Q E hr=>this.run A outer s H args us vs Q E (.of hr)⟩
theorem X46{K:Vg}{F:List D->Sto->R D}{H:Hp}{a:Addr}{ns:List Int}(hO:Xpw H)(hS:SqL K H a (ns.map V.int))(hF:∃S',F [.fro (ns.map D.int)] []=.ok (.bl true) S') :
  spD K 1 F [.ref a] H (fun v _=>v=.bl true) fun _ _ _=>False:=by
 obtain⟨S',e⟩:=hF;have hfr:FrL K H a (ns.map V.int):=by
  rcases hS with(h|⟨o,h⟩)|h
  ·rcases hO a with z|⟨o,xs,z⟩
   ·rw[h]at z;cases z
   ·rw[h]at z;cases z
  ·exact .inl ⟨o,h⟩
  ·exact .inr h
 refine⟨[.fro (ns.map D.int)],[],[],rfl,.cons ?_ .nil,⟨rfl,Vgx,fun n a o q=>by simp at q⟩,(by rw[e];exact fun z=>nomatch z),fun d S2 v H' ρ' q rd _ _=>?_,fun n c S2 a H' ρ' q=>?_⟩
 ·simp only[RD]
  exact⟨a,_,rfl,hfr,RDs.ints ns⟩
 ·rw[e]at q;cases q
  simpa only[RD] using rd
 ·rw[e]at q;cases q
theorem X47(H:Hp)(s:Vc)(e:Vb)(s':Vc)(z:CXd P w [] H s (fun _ _ _=>False) e s'):False:=by
 obtain⟨_,_,_,_,_,_,q⟩:=z;exact q
theorem walk_z{l:PySem.W.OpenLaw}{loose:List Str}{XP:(Str->Option Vb)->Heap->Prop}{YP:V9->Heap->Prop}{d:DefRec}{K:Params->Vg}{T:List Df}{G:List D}{k f:Nat}{x:Str}(hn:l.most=some 63)(hdf:d.params.defaults=[])(hr:Room k callerA)
  (hY:∀(w:V9) (h:Heap),YP w h->(K w.params).In h)
  (F:∀(w:V9) (mg:Str->Option Vb) (fa:Addr) (h:Heap),(K w.params).In h->h.Ns V5 mg->mg d.name=some (.ref fa) ->
   ∃fd:Vcx,(∀(s:Vc) (u:Vb),BindsTo s fd ⟨[u],[]⟩ [(x,u)])/\∀base:Heap,(K w.params).In base->base.Ns V5 mg->FnOk l.prog w (K w.params) mg base (CXd l.prog w) k fa fd [x] (spD (K w.params) 1 (FT T G k f)))
  (hL:∀ns:List Int,ns.length<=63->∃S',FT T G k f [.fro (ns.map D.int)] []=.ok (.bl true) S') :
  PySem.W.WalkO q loose XP YP l.row.toRowW d [] (fun f vs=>PySem.call f vs) :=
 L2.walk_of (n:=63) (k:=k) (x:=x) (CX:=fun w=>CXd l.prog w) (sp:=fun w=>spD (K w.params) 1 (FT T G k f)) hn (by decide) hdf hr hY F (fun _ _ _ ns hl hO hS=>X46 hO hS (hL ns hl)) fun _ H s e s' z=>X47 H s e s' z
end Z
end
section
namespace Z
open PySem
section
variable{F:Fn}{G:List D}{s:St}{ss:Sts}{env e:En}{S S1:Sto}
theorem Xd(h:exe F G s env S=.ok (.nx e) S1):pb F G (.cons s ss) env S=pb F G ss e S1:=by simp only[pb,h]
theorem Xk(h:exe F G s env S=.ok (.rt d) S1):pb F G (.cons s ss) env S=.ok (.rt d) S1:=by simp only[pb,h]
theorem Xda(h:exe F G s env S=.ex n S1):pb F G (.cons s ss) env S=.ex n S1:=by simp only[pb,h]
theorem Xcp{get:Sto->Nat->Option (Option D)}{body:En->Sto->R Fl}(xs:List D)(P:Nat->En->Sto->Prop)(hget:∀i e S,P i e S->get S i=some xs[i]?)
  (step:∀i d e S,xs[i]?=some d->P i e S->∃e1 e2 S2,Xr t d e=some e1/\body e1 S=.ok (.nx e2) S2/\P (i+1) e2 S2) :
  ∀(fuel i:Nat) (e:En) (S:Sto),P i e S->i<=xs.length->xs.length<fuel+i->∃e' S',Xu get t body fuel i e S=.ok (.nx e') S'/\P xs.length e' S'
 |0,i,e,S,h,h1,h2=>by omega
 |fuel+1,i,e,S,h,h1,h2=>by
  cases q:xs[i]? with
  |none =>
   have hi:i=xs.length:=by
    have:=Us.mp q;omega
   refine⟨e,S,?_,hi▸h⟩;simp only[Xu,hget i e S h,q]
  |some d =>
   obtain⟨e1,e2,S2,a1,a2,a3⟩:=step i d e S q h;have hi:i<xs.length:=(Vi.mp q).1;obtain⟨e',S',b1,b2⟩:=Xcp xs P hget step fuel (i+1) e2 S2 a3 (by omega) (by omega)
   refine⟨e',S',?_,b2⟩;simp only[Xu,hget i e S h,q,a1,a2];exact b1
theorem Xii{ds xs:List D}(P:Nat->En->Sto->Prop)(h1:evs F G es env S=.ok ds S1)(h2:Yd ds=some xs)(h0:P 0 env S1)
  (step:∀i d e S,xs[i]?=some d->P i e S->∃e1 e2 S2,Xr t d e=some e1/\pb F G b e1 S=.ok (.nx e2) S2/\P (i+1) e2 S2) :
  ∃e' S',exe F G (.for t (.rng es) b) env S=.ok (.nx e') S'/\P xs.length e' S':=by
 obtain⟨e',S',a,b'⟩:=Xcp (get:=(Src.con xs).get) (t:=t) (body:=fun env S=>pb F G b env S) xs P (fun _ _ _ _=>rfl) step (xs.length+1) 0 env S1 h0 (Ul _) (by omega)
 refine⟨e',S',?_,b'⟩;simp only[exe,evit,h1,Rk0,h2,Src.most];exact a
end
theorem Xge(h:Yd [.int m]=some xs)(q:xs[i]?=some d):d=.int i/\i<m.toNat:=by
 simp only[Yd]at h;split at h
 ·cases h
  rw[Vx]at q;cases z:(V0 m.toNat)[i]? with
  |none=>rw[z]at q;cases q
  |some j =>
   rw[z]at q;obtain⟨hi,e⟩:=Vi.mp z;simp at e hi;subst e;simp at q;exact⟨q.symm,by omega⟩
 ·cases h
theorem Xes(h0:0<=m)(h:m<1048576):∃xs,Yd [.int m]=some xs/\xs.length=m.toNat:=by
 refine⟨_,by simp only[Yd];rw[iP0 ⟨by omega,h⟩],by simp⟩
noncomputable def C:Nat->Nat->Nat
 |_,0=>1
 |0,_+1=>0
 |n+1,k+1=>C n k+C n (k+1)
noncomputable def fac:Nat->Nat
 |0=>1
 |n+1=>fac n*(n+1)
theorem Xv7(s:String):PyData.strOk (U9 s)=true:=by
 rw[Str.ofString_eq_toList];unfold PyData.strOk;rw[<- Array.all_toList,Ux];intro n hn;have hn':n∈s.toList.map Char.toNat:=by simpa using hn
 obtain⟨c,_,rfl⟩:=Uh.mp hn';refine decide_eq_true ?_;have:=c.valid;rcases this with h|⟨_,h⟩
 ·have:c.toNat<0xd800:=h
  omega
 ·exact h
theorem ne_str(s:String):Xj .ne (.str (U9 s)) (.str (U9 s)) S=.ok (.bl false) S:=by
 simp only[Xj,X9,eqD,Xbs,X8,Xw,Vcf,Xv7,Vau];simp[Vav]
theorem Y8(i j:Int)(S:Sto):Xo .add (.int i) (.int j) S=.ok (.int (i+j)) S:=rfl
theorem X0t(i j:Int)(S:Sto):Xo .sub (.int i) (.int j) S=.ok (.int (i-j)) S:=rfl
theorem Xdb(h:Xar i j=true)(S:Sto):Xo .mul (.int i) (.int j) S=.ok (.int (i*j)) S:=by simp only[Xo,h,if_true]
theorem Xv8(h:Xbz j=true)(S:Sto):Xo .fdiv (.int i) (.int j) S=.ok (.int (i/j)) S:=by simp only[Xo,h,if_true]
theorem Xe7(h:0<j)(S:Sto):Xo .mod (.int i) (.int j) S=.ok (.int (i%j)) S:=by simp only[Xo,h,if_true]
theorem Xe8(h:0<=j/\j<=1000/\i.natAbs<2^63)(S:Sto):Xo .pow (.int i) (.int j) S=.ok (.int (i^j.toNat)) S:=by simp only[Xo,h,and_self,if_true]
theorem Xij(h1:-1000000000000000<j)(h2:j<1000000000000000):Xar i j=true:=by
 unfold Xar;simp only[Vb6,bA0,decide_eq_true_eq];left;right;constructor<;>omega
theorem Xo2(h1:-1000000000000000<i)(h2:i<1000000000000000):Xar i j=true:=by
 unfold Xar;simp only[Vb6,bA0,decide_eq_true_eq];left;left;constructor<;>omega
end Z
end
section
namespace Z
open PySem PySem.W
section
variable(tb:String->Option Va2)(p:V1)(w:V9)(m:Nat)(ann:Option Vb)
noncomputable def topT:Nat->SharedT->Thread->Option SharedT
 |0,_,_=>none
 |n+1,s,t=>match through t with
  |true=>some s
  |false=>match stepOk m ann t with
   |false=>none
   |true=>match stepT (denote tb) p w s t with
    |some (s',t')=>topT n s' t'
    |none=>none
end
theorem Xo3{tb:String->Option Va2}{p:V1}{w:V9}{m:Nat}{ann:Option Vb}:∀ {n:Nat} {s s':SharedT} {t:Thread},topT tb p w m ann n s t=some s'->topRun tb p w m ann n s.abs t=some s'.abs
 |0,_,_,_,h=>by cases h
 |n+1,s,s',t,h=>by
  unfold topT at h;unfold topRun;cases ht:through t with
  |true=>rw[ht]at h;cases h;rfl
  |false =>
   rw[ht]at h;cases hk:stepOk m ann t with
   |false=>rw[hk]at h;cases h
   |true =>
    rw[hk]at h;cases hs:stepT (denote tb) p w s t with
    |none=>rw[hs]at h;cases h
    |some r=>obtain⟨a,b⟩:=r;rw[hs]at h;rw[stepT_spec hs];exact Xo3 h
noncomputable def Xko(P:Params):BT :=
 .node (boot_o_0 P) (.node (boot_o_1 P) (.node (boot_o_3 P) (.node (boot_o_7 P) .nil .nil) .nil) (.node (boot_o_5 P) (.node (boot_o_9 P) .nil .nil) .nil))
  (.node (boot_o_2 P) (.node (boot_o_4 P) (.node (boot_o_8 P) .nil .nil) .nil) (.node (boot_o_6 P) (.node (boot_o_10 P) .nil .nil) .nil))
noncomputable def Xkp:Life:={debug:=0,thresholds:=[2000,10,10]}
theorem Xv9(P:Params):absHeap (Xko P) 11 Xkp=boot_heap P:=by kernel_rfl
theorem Xs1(P:Params):((boot_heap P).isNs V5&&(Array.mk ([]:List GenState)).size==0,(boot_heap P).objs.size,(boot_heap P).nsMap V5 "__annotations__")=(true,11,some (.ref 6)):=by kernel_rfl
noncomputable def Xs2{α:Type}(p q:V1)(loose:List Str)(Xt:Vc->Bool)(Yf:Vc->α)(P:Params)(s:Vc):=((staticsOk (Vd1 p.main.body) (boot_heap P) s.heap&&namesBound p s.heap&&gensDone s&&laidKept (boot_heap P) s.heap),openSeen q loose (Vd1 p.main.body) Xt true s,Yf s)
theorem Xs3{p q:V1}{loose:List Str}{Xt:Vc->Bool}{α:Type}{Yf:Vc->α}{Ya:V9->α}{N:Nat}
  (e:opening p=plainProg p.main.scope.names) (hN:Nat.ble 600 N=true) (f:∀s,fenceModules? p s=some s)
  (all:∀w os,(topT treeTable p w 11 (some (.ref 6)) N ⟨Xko w.params,11,Xkp,Array.mk [],boot_drawn,boot_toks,os⟩ (topStub p)).map (fun s=>Xs2 p q loose Xt Yf w.params s.abs)=some (true,openGood q loose,Ya w)) :
  LeftO p q loose Xt Yf Ya N:=fun w=>by
 obtain⟨⟨h,gs,d,k,os⟩,e1,e2⟩:=Ui.mp (boot_open e hN f w);obtain⟨rfl,rfl,rfl,rfl⟩:h=boot_heap w.params/\gs=Array.mk []/\d=boot_drawn/\k=boot_toks:=by simpa using e2
 obtain⟨z1,z2,z3⟩:_/\_/\_:=by simpa only[Veq] using Xs1 w.params
 obtain⟨s,r,l⟩:=Ui.mp (all w os);have r':=Xo3 r;have e0:SharedT.abs ⟨Xko w.params,11,Xkp,Array.mk [],boot_drawn,boot_toks,os⟩=⟨boot_heap w.params,Array.mk [],boot_drawn,boot_toks,os⟩:=by
  unfold SharedT.abs;dsimp only;rw[Xv9]
 rw[e0]at r';unfold Xs2 at l;obtain⟨l1,l2,l3⟩:_/\_/\_:=by simpa only[Veq] using l
 have t:topFrom treeTable p w N ⟨boot_heap w.params,Array.mk [],boot_drawn,boot_toks,os⟩=some s.abs:=by
  unfold topFrom;dsimp only;rw[z1,z2,z3,r'];dsimp only[Option.bind];rw[l1]
 unfold openEnds;rw[e1];show(topFrom treeTable p w N _).map _=_;rw[t];exact congrArg some (Prod.ext l2 l3)
abbrev RunT{β:Type}(p:V1)(g:V9->SharedT->β)(r:V9->β):Prop:=∀w os,(topT treeTable p w 11 (some (.ref 6)) 40000 ⟨Xko w.params,11,Xkp,Array.mk [],boot_drawn,boot_toks,os⟩ (topStub p)).map (g w)=some (r w)
theorem left_tree3{p q:V1}{loose:List Str}{Xt:Vc->Bool}{α:Type}{Yf:Vc->α}{Ya:V9->α}(e:opening p=plainProg p.main.scope.names)(f:∀s,fenceModules? p s=some s)
  (a1:RunT p (fun w s=>staticsOk (Vd1 p.main.body) (boot_heap w.params) s.abs.heap&&namesBound p s.abs.heap&&gensDone s.abs&&laidKept (boot_heap w.params) s.abs.heap) fun _=>true)
  (a2:RunT p (fun _ s=>openSeen q loose (Vd1 p.main.body) Xt true s.abs) fun _=>openGood q loose) (a3:RunT p (fun _ s=>Yf s.abs) Ya):LeftO p q loose Xt Yf Ya 40000:=Xs3 e rfl f fun w os=>by
 obtain⟨s,h,x1⟩:=Ui.mp (a1 w os);have x2:=a2 w os;have x3:=a3 w os;rw[h]at x2 x3 ⊢;exact congrArg some (Prod.ext x1 (Prod.ext (Ue x2) (Ue x3)))
end Z
end
section
namespace Z
open PySem
section
variable{P S:Sto}
end
section
variable{F:Fn}{G:List D}{P:Sto}
end
mutual
noncomputable def flt:D->Bool
 |.tup xs=>flts xs
 |.fro xs=>flts xs
 |.ref _=>false
 |_=>true
noncomputable def flts:List D->Bool
 |[]=>true
 |x::r=>flt x&&flts r
end
section
variable{F:Fn}{G:List D}{e1 e2:En}
end
section
variable{F:Fn}{G:List D}
end
theorem Xqn{m:Int}(h:m<1000000):m<1048576:=by omega
theorem Xg:Xc (S++[.lst xs]) S.length=some xs:=by
 unfold Xc;rw[U5 (Vl _),Vag];rfl
theorem Xn(h:Xc S q=some xs):Xc (S++X) q=some xs:=by
 unfold Xc at h ⊢;cases e:S[q]? with
 |none=>rw[e]at h;cases h
 |some o=>rw[Vt (Vi.mp e).1];exact h
theorem Xaw(hp:Xc S p=some xs):p<S.length:=by
 unfold Xc at hp;cases e:S[p]? with
 |none=>rw[e]at hp;cases hp
 |some o=>exact(Vi.mp e).1
theorem Xcc{S:Sto}{p:Nat}{x:List D}(h:p<S.length):Xc (S.set p (.lst x)) p=some x:=by
 unfold Xc;rw[Vbs h]
theorem Xs4(h:p≠q):Xc (S.set p o) q=Xc S q:=by
 unfold Xc;rw[Vaq h]
theorem X9p(h:Xc S p=some [.int v]):Xag (.ref p) (.int 0) S=.ok (.int v) S:=by
 simp only[Xag,Xam,Xx,h,Vs,Z.ixN,Um];rfl
theorem X78(h:Xc S p=some [.int v]):Xbm (.ref p) (.int 0) d S=.ok () (S.set p (.lst [d])):=by
 have h':Z.lstM S p=some [.int v]:=h;simp only[Xbm,h',Z.ixN,Um];rfl
section
variable{F:Fn}{G:List D}
noncomputable def Xqo:Sts:=.cons (.ite (.cmp .lt (.var 1) (.blt .len (.cons (.var 0) .nil))) (.cons (.ret (.idx (.var 0) (.var 1))) .nil) .nil) (.cons (.ret (.cst (.int 0))) .nil)
noncomputable def Xkq:Df:=⟨2,2,Xqo⟩
theorem Xwa(ns:List Int)(j:Nat)(S:Sto):∃c,den F G Xkq [.fro (ns.map D.int),.int j] S=.ok (.int c) S:=by
 have hlen:Xm .len [.fro (ns.map D.int)] S=.ok (.int ns.length) S:=by simp only[Xm,Xx,Vj]
 by_cases h:j<ns.length
 ·refine⟨ns[j],?_⟩
  have hi:Xag (.fro (ns.map D.int)) (.int j) S=.ok (.int ns[j]) S:=by
   simp only[Xag,Xam,Xx,Vs,Z.ixN,Vj];rw[iP0 (by omega),iP0 (by omega)]
   simp[h]
  simp only[den,Xkq,Xqo,Um,if_true,Ug,Vh,Vag,Vz];rw[Xk (d:=.int ns[j]) (S1:=S) (by
   have hc:decide ((j:Int)<(ns.length:Int))=true:=decide_eq_true (by omega)
   simp only[exe,ev,evs,gZ0,gS0,Rk0,hlen,Xj,X9,ltD,hc,Xf];simp only[pb,exe,ev,gZ0,gS0,Rk0,hi])]
 ·refine⟨0,?_⟩
  simp only[den,Xkq,Xqo,Um,if_true,Ug,Vh,Vag,Vz];rw[Xd (e:=[some (.fro (ns.map D.int)),some (.int j)]) (S1:=S) (by
   have hc:decide ((j:Int)<(ns.length:Int))=false:=decide_eq_false (by omega)
   simp only[exe,ev,evs,gZ0,gS0,Rk0,hlen,Xj,X9,ltD,hc,Xf];simp only[pb])]
  simp only[pb,exe,ev,Rk0]
noncomputable def Xyb:Sts:=.cons (.asg (.var 2) (.bin .mod (.idx (.var 0) (.cst (.int 0))) (.var 1))) (.cons (.aset (.var 0) (.cst (.int 0)) (.bin .fdiv (.idx (.var 0) (.cst (.int 0))) (.var 1))) (.cons (.ret (.var 2)) .nil))
noncomputable def Xqp:Df:=⟨2,3,Xyb⟩
theorem Xwb{p:Nat}{v far:Int}{S:Sto}(h:Xc S p=some [.int v])(h0:0<far)(hd:Xbz far=true):den F G Xqp [.ref p,.int far] S=.ok (.int (v%far)) (S.set p (.lst [.int (v/far)])):=by
 have i0:=X9p h;have a0:=X78 (d:=.int (v/far)) h;simp only[den,Xqp,Xyb,Um,if_true,Ug,Vh];rw[Xd (e:=[some (.ref p),some (.int far),some (.int (v%far))]) (S1:=S) (by simp only[exe,ev,Vf5,Vbi,gZ0,gS0,Rk0,i0,Xe7 h0,Xr,Vc2])]
 rw[Xd (e:=[some (.ref p),some (.int far),some (.int (v%far))]) (S1:=S.set p (.lst [.int (v/far)])) (by simp only[exe,ev,gZ0,gS0,Rk0,i0,Xv8 hd,a0])]
 rw[Xk (d:=.int (v%far)) (S1:=S.set p (.lst [.int (v/far)])) (by simp only[exe,ev,gZ0,gS0,Rk0])]
noncomputable def Xg3:Sts:=.cons (.asg (.var 3) (.bin .mod (.bin .mul (.bin .add (.bin .add (.bin .mod (.var 0) (.cst (.int 2147483629))) (.bin .mul (.cst (.int 7919)) (.var 2))) (.cst (.int 1))) (.cst (.int 48271))) (.cst (.int 2147483647))))
  (.cons (.asg (.var 3) (.bin .mod (.bin .add (.bin .add (.bin .mul (.var 3) (.var 3)) (.bin .mul (.cst (.int 69621)) (.var 2))) (.cst (.int 7))) (.cst (.int 2147483587))))
  (.cons (.asg (.var 1) (.bin .add (.bin .mul (.var 1) (.cst (.int 2147483587))) (.var 3)))
  .nil))
noncomputable def Xwc:Sts:=.cons (.ite (.cmp .ge (.var 0) (.bin .pow (.cst (.int 10)) (.cst (.int 18)))) (.cons (.ret (.lst (.cons (.bin .sub (.var 0) (.bin .pow (.cst (.int 10)) (.cst (.int 18)))) .nil))) .nil) .nil)
 (.cons (.asg (.var 1) (.cst (.int 0))) (.cons (.for (.var 2) (.rng (.cons (.cst (.int 64)) .nil)) Xg3) (.cons (.ret (.lst (.cons (.var 1) .nil))) .nil)))
noncomputable def Xik:Df:=⟨1,4,Xwc⟩
theorem Xwd(c a j:Int)(x:Option D)(S:Sto):∃a' b',pb F G Xg3 [some (.int c),some (.int a),some (.int j),x] S=.ok (.nx [some (.int c),some (.int a'),some (.int j),some (.int b')]) S:=by
 have m1:Xar 7919 j=true:=Xo2 (by decide) (by decide)
 have m2:∀y,Xar y 48271=true:=fun y=>Xij (by decide) (by decide)
 have m3:Xar 69621 j=true:=Xo2 (by decide) (by decide)
 have m4:∀y,Xar y 2147483587=true:=fun y=>Xij (by decide) (by decide)
 have p1:(0:Int)<2147483629:=by decide
 have p2:(0:Int)<2147483647:=by decide
 have p3:(0:Int)<2147483587:=by decide
 generalize hb:((c%2147483629+7919*j+1)*48271)%2147483647=b;have b1:0<=b:=by rw[<- hb];exact Vc6 _ (by decide)
 have b2:b<2147483647:=by rw[<- hb];exact Vcg _ (by decide)
 have m5:Xar b b=true:=Xij (by omega) (by omega)
 refine⟨a*2147483587+(b*b+69621*j+7)%2147483587,(b*b+69621*j+7)%2147483587,?_⟩;unfold Xg3;rw[Xd (e:=[some (.int c),some (.int a),some (.int j),some (.int b)]) (S1:=S) (by
  simp only[exe,ev,gZ0,gS0,Rk0,Xe7 p1,Xdb m1,Y8,Xdb (m2 _),Xe7 p2,Xr,Vc2,hb])]
 rw[Xd (e:=[some (.int c),some (.int a),some (.int j),some (.int ((b*b+69621*j+7)%2147483587))]) (S1:=S) (by
  simp only[exe,ev,gZ0,gS0,Rk0,Xdb m5,Xdb m3,Y8,Xe7 p3,Xr,Vc2])]
 rw[Xd (e:=[some (.int c),some (.int (a*2147483587+(b*b+69621*j+7)%2147483587)),some (.int j),some (.int ((b*b+69621*j+7)%2147483587))]) (S1:=S) (by
  simp only[exe,ev,gZ0,gS0,Rk0,Xdb (m4 _),Y8,Xr,Vc2])]
 simp only[pb]
theorem X0u(c a:Int)(S:Sto)(e':En)(hc:¬ (10:Int)^(18:Int).toNat<=c)(h1:exe F G (.for (.var 2) (.rng (.cons (.cst (.int 64)) .nil)) Xg3) [some (.int c),some (.int 0),none,none] S=.ok (.nx e') S)(h2:e'[1]?=some (some (.int a))) :
  den F G Xik [.int c] S=.ok (.ref S.length) (S++[.lst [.int a]]):=by
 have hp:Xo .pow (.int 10) (.int 18) S=.ok (.int (10^(18:Int).toNat)) S:=Xe8 (by decide+kernel) S
 generalize (10:Int)^(18:Int).toNat=w at hp hc;simp only[den,Xik,Xwc,Um,if_true,Ug,Vh];rw[Xd (e:=[some (.int c),none,none,none]) (S1:=S) (by
  simp only[exe,ev,Vf5,Vbi,gZ0,gS0,Rk0,hp,Xj,X9,Xf,decide_eq_false hc];simp only[pb])]
 rw[Xd (e:=[some (.int c),some (.int 0),none,none]) (S1:=S) (by simp only[exe,ev,Rk0,Xr,Vc2])]
 have h1':=Xd (ss:=.cons (.ret (.lst (.cons (.var 1) .nil))) .nil) h1;rw[h1'];rw[Xk (d:=.ref S.length) (S1:=S++[.lst [.int a]]) (by
  simp only[exe,ev,evs,h2,Rk0,Um];rfl)]
theorem Xs5(c:Int)(S:Sto)(hc:(10:Int)^(18:Int).toNat<=c):∃a,den F G Xik [.int c] S=.ok (.ref S.length) (S++[.lst [.int a]]):=by
 have hp:Xo .pow (.int 10) (.int 18) S=.ok (.int (10^(18:Int).toNat)) S:=Xe8 (by decide+kernel) S
 generalize (10:Int)^(18:Int).toNat=w at hp hc;refine⟨c-w,?_⟩;simp only[den,Xik,Xwc,Um,if_true,Ug,Vh];rw[Xk (d:=.ref S.length) (S1:=S++[.lst [.int (c-w)]]) (by
  simp only[exe,ev,Vf5,Vbi,gZ0,gS0,Rk0,hp,Xj,X9,Xf,decide_eq_true hc];rw[Xk (d:=.ref S.length) (S1:=S++[.lst [.int (c-w)]]) (by
   simp only[exe,ev,evs,gZ0,Rk0,hp,X0t,Um];rfl)])]
theorem X0v(c:Int)(S:Sto):∃a,den F G Xik [.int c] S=.ok (.ref S.length) (S++[.lst [.int a]]):=by
 by_cases hc:(10:Int)^(18:Int).toNat<=c
 ·exact Xs5 c S hc
 obtain⟨xs,hx,hl⟩:=Xes (m:=(64:Int)) (by decide) (Xqn (by decide))
 have loop:=Xii (F:=F) (G:=G) (t:=.var 2) (es:=.cons (.cst (.int 64)) .nil) (b:=Xg3)
  (env:=[some (.int c),some (.int 0),none,none]) (S:=S) (S1:=S) (ds:=[.int 64]) (xs:=xs) (fun i e S'=>S'=S/\∃a x y,e=[some (.int c),some (.int a),x,y])
  (by simp only[evs,ev,Rk0]) hx ⟨rfl,0,none,none,rfl⟩ (fun i d e S' hd hP=>by
   obtain⟨rfl,a,x,y,rfl⟩:=hP;obtain⟨rfl,hi⟩:=Xge hx hd;obtain⟨a',b',st⟩:=Xwd (F:=F) (G:=G) c a i y S';exact⟨_,_,S',rfl,st,rfl,a',_,_,rfl⟩)
 obtain⟨e',S',h1,rfl,a,x,y,rfl⟩:=loop;exact⟨a,X0u c a S' _ hc h1 rfl⟩
noncomputable def wh:D->Bool
 |.int _=>true
 |_=>false
def good(S:Sto)(d:D):Prop:=∃k,kdD S d=some k/\∀c,k≠.exc c
theorem X0w(h:∀c,k≠.exc c):∃b,Yc k [.int]=some b/\(b=true ↔ k=.int\/k=.bool):=by
 cases k<;>first|exact⟨_,rfl,by simp⟩|exact aB0 rfl (h _)
theorem Xwe(h:∀c,k≠.exc c):∃b,Yc k [.bool]=some b/\(b=true ↔ k=.bool):=by
 cases k<;>first|exact⟨_,rfl,by simp⟩|exact aB0 rfl (h _)
theorem X79(h:kdD S d=some k):wh d=true ↔ k=.int:=by
 cases d with
 |ref n =>
  simp only[kdD]at h;split at h<;>first|(cases h;simp[wh])|cases h
 |fn _ _=>cases h
 |_=>cases h;simp[wh]
noncomputable def Xs6:Sts:=.cons (.ret (.and (.isi (.var 0) [.int]) (.not (.isi (.var 0) [.bool])))) .nil
noncomputable def Xmc:Df:=⟨1,1,Xs6⟩
theorem Xs7(h:good S d):den F G Xmc [d] S=.ok (.bl (wh d)) S:=by
 obtain⟨kd,h1,h2⟩:=h;obtain⟨b1,i1,j1⟩:=X0w h2;obtain⟨b2,i2,j2⟩:=Xwe h2;have hw:=X79 h1;simp only[den,Xmc,Xs6,Um,pb,exe,ev,Ug,Vh,if_true,Vag,Vz,gZ0,Rk0,h1,Vs,i1,i2,Xf];cases b1 with
 |false =>
  have e:wh d=false:=by
   cases q:wh d with
   |false=>rfl
   |true=>exact aB0 (j1.mpr (.inl (hw.mp q))) V7
  rw[e];rfl
 |true =>
  cases b2 with
  |false =>
   have e:wh d=true:=hw.mpr (by rcases j1.mp rfl with z|z;exact z;exact aB0 (j2.mpr z) V7)
   rw[e];rfl
  |true =>
   have e:wh d=false:=by
    cases q:wh d with
    |false=>rfl
    |true=>have z1:=hw.mp q;have z2:=j2.mp rfl;rw[z1]at z2;cases z2
   rw[e];rfl
noncomputable def wi(d:D)(lo hi:Int):Bool:=match d with
 |.int i=>decide (lo<=i)&&decide (i<=hi)
 |_=>false
noncomputable def Xo4(f:Nat):Sts:=.cons (.ret (.and (.call f (.cons (.var 0) .nil)) (.chn .le .le (.var 1) (.var 0) (.var 2)))) .nil
noncomputable def Xil(f:Nat):Df:=⟨3,3,Xo4 f⟩
theorem Xqq(h:F f [d] S=.ok (.bl (wh d)) S):den F G (Xil f) [d,.int lo,.int hi] S=.ok (.bl (wi d lo hi)) S:=by
 simp only[den,Xil,Xo4,Um,pb,exe,ev,evs,Ug,Vh,if_true,Vag,Vz,gZ0,gS0,Rk0,h,Xf];cases d with
 |int i =>
  simp only[wh,wi,X9,Xj];cases decide (lo<=i)<;>rfl
 |_=>rfl
theorem Xs8(h1:lo<=i)(h2:i<=hi):wi (.int i) lo hi=true:=by
 simp only[wi,decide_eq_true h1,decide_eq_true h2,Vc8]
theorem Xd6(S:Sto)(i:Int):good S (.int i):=⟨.int,rfl,fun c z=>nomatch z⟩
theorem Xgf(h:good S d):good (S++X) d:=by
 obtain⟨k,h1,h2⟩:=h;cases d with
 |ref n =>
  refine⟨k,?_,h2⟩;simp only[kdD]at h1 ⊢;cases e:S[n]? with
  |none=>rw[e]at h1;cases h1
  |some o=>rw[Vt (Vi.mp e).1,e];rw[e]at h1;exact h1
 |_=>exact⟨k,h1,h2⟩
theorem Xjy(S:Sto)(d:D)(h:∀n,d≠.ref n)(hf:∀f m,d≠.fn f m:=by intro _ _ z;cases z):good S d:=by
 cases d with
 |fn f m=>exact aB0 rfl (hf f m)
 |ref n=>exact aB0 rfl (h n)
 |non=>exact⟨.non,rfl,fun _ z=>nomatch z⟩
 |bl _=>exact⟨.bool,rfl,fun _ z=>nomatch z⟩
 |int _=>exact⟨.int,rfl,fun _ z=>nomatch z⟩
 |str _=>exact⟨.str,rfl,fun _ z=>nomatch z⟩
 |tup _=>exact⟨.tuple,rfl,fun _ z=>nomatch z⟩
 |fro _=>exact⟨.list,rfl,fun _ z=>nomatch z⟩
theorem Xwf(h:ev F G c env S=.ok (.bl true) S):exe F G (.ite c (.cons (.rse k (.cst (.str s))) .nil) .nil) env S=.ex S.length (S++[.exc k]):=by
 rw[exe,h,Rk0];simp only[Xf,pb,exe,ev,Rk0]
theorem Y9(h:ev F G c env S=.ok (.bl false) S'):exe F G (.ite c a .nil) env S=.ok (.nx env) S':=by
 rw[exe,h,Rk0];simp only[Xf,pb]
end
noncomputable def Xet(c1 c2 c3 c4:Nat):Ex:=.lst (.cons (.isi (.var 0) [.cls c1]) (.cons (.isi (.var 0) [.cls c2]) (.cons (.isi (.var 0) [.cls c3]) (.cons (.isi (.var 0) [.cls c4]) .nil))))
noncomputable def words1:List D:=[.str "net",.str "face",.str "point",.str "apart",.str "many",.str "text",.str "row",.str "number",.str "level",.str "crowd",.str "way",.str "closed"]
noncomputable def words2:List D:=[.str "swap",.str "places",.str "deed",.str "line"]
noncomputable def Xdc:List D->Exs
 |[]=>.nil
 |d::r=>.cons (.cst d) (Xdc r)
noncomputable def Xqr:Sts:=.cons (.asg (.var 1) (Xet 1 2 3 4)) (.cons (.asg (.var 1) (.bin .add (.var 1) (Xet 5 6 7 8))) (.cons (.asg (.var 1) (.bin .add (.var 1) (Xet 9 10 11 12))) (.cons (.asg (.var 1) (.bin .add (.var 1) (Xet 13 14 15 16)))
  (.cons (.ite (.or (.cmp .ne (.mth .count (.var 1) (.cons (.cst (.bl true)) .nil)) (.cst (.int 1))) (.not (.isi (.var 0) [.valueError]))) (.cons (.ret (.cst (.str "other"))) .nil) .nil)
  (.cons (.asg (.var 2) (.lst (Xdc words1))) (.cons (.ret (.idx (.bin .add (.var 2) (.lst (Xdc words2))) (.mth .index (.var 1) (.cons (.cst (.bl true)) .nil)))) .nil))))))
noncomputable def Xqs:Df:=⟨1,3,Xqr⟩
noncomputable def Xch(c:Nat):D:=(words1++words2).getD (c-1) .non
section
variable{F:Fn}{G:List D}{n c:Nat}{env:En}{S:Sto}
noncomputable def isK(c x:Nat):D:=.bl (x==0||x==c)
theorem Xo5(h0:env[0]?=some (some (.ref n)))(hn:S[n]?=some (.exc c))(x1 x2 x3 x4:Nat):ev F G (Xet x1 x2 x3 x4) env S=.ok (.ref S.length) (S++[.lst [isK c x1,isK c x2,isK c x3,isK c x4]]):=by
 have q:∀x,ev F G (.isi (.var 0) [.cls x]) env S=.ok (isK c x) S:=fun x=>by
  simp only[ev,h0,Rk0,kdD,hn,Vs,Yc,isT,isK];cases (x==0||x==c)<;>rfl
 unfold Xet;rw[ev];simp only[evs,q,Rk0];exact iP0 (show 4<=big by decide)
theorem Xgg{r:Nat}{xs:List D}(h0:env[0]?=some (some (.ref n)))(hn:S[n]?=some (.exc c))(he:1<env.length)(hr:env[1]?=some (some (.ref r)))(hx:Xc S r=some xs)(hl:xs.length<=12)(x1 x2 x3 x4:Nat) :
  ∃q Y,exe F G (.asg (.var 1) (.bin .add (.var 1) (Xet x1 x2 x3 x4))) env S=.ok (.nx (env.set 1 (some (.ref q)))) (S++Y)/\Xc (S++Y) q=some (xs++[isK c x1,isK c x2,isK c x3,isK c x4])/\(S++Y)[n]?=some (.exc c):=by
 refine⟨(S++[O.lst [isK c x1,isK c x2,isK c x3,isK c x4]]).length,[.lst [isK c x1,isK c x2,isK c x3,isK c x4]]++[.lst (xs++[isK c x1,isK c x2,isK c x3,isK c x4])],?_,?_,?_⟩
 ·have h16:(16:Nat)<=big:=by decide
  have h4:xs.length+4<=big:=by omega
  have l1:lstM (S++[O.lst [isK c x1,isK c x2,isK c x3,isK c x4]]) r=some xs:=Xn hx;have l2:lstM (S++[O.lst [isK c x1,isK c x2,isK c x3,isK c x4]]) S.length=some [isK c x1,isK c x2,isK c x3,isK c x4]:=Xg;rw[exe,ev,ev,hr];simp only[Rk0,Xo5 h0 hn,Xo,l1,l2,Uc,Vco,h4,if_true,Xr,Vo]
 ·rw[<- Vo];exact Xg
 ·rw[Vt (Vi.mp hn).1];exact hn
theorem X0x(hn:S[n]?=some (.exc c))(h1:1<=c)(h2:c<=16):∃X,den F G Xqs [.ref n] S=.ok (Xch c) (S++X):=by
 have s1:exe F G (.asg (.var 1) (Xet 1 2 3 4)) [some (.ref n),none,none] S=.ok (.nx [some (.ref n),some (.ref S.length),none]) (S++[.lst [isK c 1,isK c 2,isK c 3,isK c 4]]):=by
  rw[exe,Xo5 rfl hn];rfl
 obtain⟨q2,Y2,s2,l2,n2⟩:=Xgg (F:=F) (G:=G) (env:=[some (.ref n),some (.ref S.length),none]) (S:=S++[.lst [isK c 1,isK c 2,isK c 3,isK c 4]]) (c:=c) (n:=n) rfl (by rw[Vt (Vi.mp hn).1];exact hn) (by simp) rfl Xg (by simp) 5 6 7 8
 generalize hS2:S++[O.lst [isK c 1,isK c 2,isK c 3,isK c 4]]++Y2=S2 at s2 l2 n2;obtain⟨q3,Y3,s3,l3,n3⟩:=Xgg (F:=F) (G:=G) (env:=[some (.ref n),some (.ref q2),none]) rfl n2 (by simp) rfl l2 (by simp) 9 10 11 12
 generalize hS3:S2++Y3=S3 at s3 l3 n3;obtain⟨q4,Y4,s4,l4,n4⟩:=Xgg (F:=F) (G:=G) (env:=[some (.ref n),some (.ref q3),none]) rfl n3 (by simp) rfl l3 (by simp) 13 14 15 16
 generalize hS4:S3++Y4=S4 at s4 l4 n4;simp only[Vf5,Vbi]at l4;have ab:Yb [isK c 1,isK c 2,isK c 3,isK c 4,isK c 5,isK c 6,isK c 7,isK c 8,isK c 9,isK c 10,isK c 11,isK c 12,isK c 13,isK c 14,isK c 15,isK c 16]=some ([1,2,3,4,5,6,7,8,9,10,11,12,13,14,15,16].map fun x=>(x==0||x==c)):=rfl
 have key:∀c:Fin 17,1<=c.val->([1,2,3,4,5,6,7,8,9,10,11,12,13,14,15,16].map fun x=>(x==0||x==c.val)).countP (· == true)=1/\([1,2,3,4,5,6,7,8,9,10,11,12,13,14,15,16].map fun x=>(x==0||x==c.val)).findIdx? (· == true)=some (c.val-1):=by decide+kernel
 obtain⟨k1,k2⟩:=key ⟨c,by omega⟩ h1
 generalize [isK c 1,isK c 2,isK c 3,isK c 4,isK c 5,isK c 6,isK c 7,isK c 8,isK c 9,isK c 10,isK c 11,isK c 12,isK c 13,isK c 14,isK c 15,isK c 16]=L at l4 ab;generalize ([1,2,3,4,5,6,7,8,9,10,11,12,13,14,15,16].map fun x=>(x==0||x==c))=B at ab k1 k2
 have c1:∀Y,Xab .count (.ref q4) [.bl true] (S4++Y)=.ok (.int 1) (S4++Y):=fun Y=>by
  simp only[Xab,Xn l4,Vs,ab,k1];rfl
 have c2:∀Y,Xab .index (.ref q4) [.bl true] (S4++Y)=.ok (.int (c-1:Nat)) (S4++Y):=fun Y=>by
  simp only[Xab,Xn l4,Vs,ab,k2]
 have rc:∀k Y,Xcm k (.ref q4) (S4++Y)=true:=fun k Y=>by simp only[Xcm,Xn l4,Option.isSome]
 have s5:exe F G (.ite (.or (.cmp .ne (.mth .count (.var 1) (.cons (.cst (.bl true)) .nil)) (.cst (.int 1))) (.not (.isi (.var 0) [.valueError]))) (.cons (.ret (.cst (.str "other"))) .nil) .nil) [some (.ref n),some (.ref q4),none] S4=.ok (.nx [some (.ref n),some (.ref q4),none]) S4:=by
  have c1':=c1 [];have rc':=rc .count [];rw[Vz]at c1' rc';have e1:Xj .ne (.int 1) (.int 1) S4=.ok (.bl false) S4:=rfl;refine Y9 ?_;simp only[ev,evs,gZ0,gS0,Rk0,rc',if_true,c1',e1,Xf,kdD,n4,Vs,Yc,isT,Ut]
 have s6:exe F G (.asg (.var 2) (.lst (Xdc words1))) [some (.ref n),some (.ref q4),none] S4=.ok (.nx [some (.ref n),some (.ref q4),some (.ref S4.length)]) (S4++[.lst words1]):=by kernel_rfl
 have e7:∀env S,evs F G (Xdc words2) env S=.ok words2 S:=fun env S=>by kernel_rfl
 have a5:words2.length<=big:=by decide
 have s7:exe F G (.ret (.idx (.bin .add (.var 2) (.lst (Xdc words2))) (.mth .index (.var 1) (.cons (.cst (.bl true)) .nil)))) [some (.ref n),some (.ref q4),some (.ref S4.length)] (S4++[O.lst words1])=.ok (.rt (Xch c)) (S4++([O.lst words1]++[O.lst words2]++[O.lst (words1++words2)])):=by
  have a1:lstM (S4++[O.lst words1]++[O.lst words2]) S4.length=some words1:=Xn Xg;have a2:lstM (S4++[O.lst words1]++[O.lst words2]) (S4++[O.lst words1]).length=some words2:=Xg;have a3:words1.length+words2.length<=big:=by decide
  have a4:=Xn (X:=[]) (Xg (S:=S4++[O.lst words1]++[O.lst words2]) (xs:=words1++words2));have c2':=c2 ([O.lst words1]++[O.lst words2]++[O.lst (words1++words2)]);have rc':=rc .index ([O.lst words1]++[O.lst words2]++[O.lst (words1++words2)]);simp only[<- Vo]at c2' rc' ⊢;have ix:Xag (.ref (S4++[O.lst words1]++[O.lst words2]).length) (.int (c-1:Nat)) (S4++[O.lst words1]++[O.lst words2]++[O.lst (words1++words2)])=.ok (Xch c) (S4++[O.lst words1]++[O.lst words2]++[O.lst (words1++words2)]):=by
   rw[Vz]at a4;have hl:(words1++words2).length=16:=rfl;have hi:ixN 16 ((c-1:Nat):Int)=some (c-1):=by unfold ixN;rw[iP0 (by omega),iP0 (by omega),Vaz]
   have hg:(words1++words2)[c-1]?=some (Xch c):=by
    have:c-1<(words1++words2).length:=by rw[hl];omega
    unfold Xch;rw[Vq this,Vcc,Vq this];rfl
   simp only[Xag,Xam,Xx,a4,Vs,hl,hi,hg]
  rw[exe];simp only[ev,evs,gZ0,gS0,Rk0,e7,a5,Xo,a1,a2,a3,if_true,rc',c2',ix]
 refine⟨[O.lst [isK c 1,isK c 2,isK c 3,isK c 4]]++(Y2++(Y3++(Y4++([O.lst words1]++([O.lst words2]++[O.lst (words1++words2)]))))),?_⟩;have e:den F G Xqs [.ref n] S=match pb F G Xqr [some (.ref n),none,none] S with
  |.ok (.rt v) S=>.ok v S
  |.ok (.nx _) S=>.ok .non S
  |.ok _ _=>.bad
  |.ex n S=>.ex n S
  |.bad=>.bad:=rfl
 rw[e];unfold Xqr;rw[Xd s1,Xd s2];dsimp only[Vc2];rw[Xd s3];dsimp only[Vc2];rw[Xd s4];dsimp only[Vc2];rw[Xd s5,Xd s6,Xk s7,<- hS4,<- hS3,<- hS2];simp only[Vo]
theorem X0y{T:List Df}{k f:Nat}(hf:T[f]?=some Xqs)(h1:1<=c)(h2:c<=16)(P:Sto):∃X,FT T G (k+1) f [.ref P.length] (P++[.exc c])=.ok (Xch c) (P++X):=by
 obtain⟨X,h⟩:=X0x (F:=FT T G k) (G:=G) (n:=P.length) (S:=P++[.exc c]) (by simp) h1 h2
 simp only[FT,hf];exact⟨_,by rw[h,Vo]⟩
end
def Xb3(F:Fn)(f:Nat):Prop:=∀(p:Nat) (v far:Int) (S:Sto),Xc S p=some [.int v]->0<far->Xbz far=true->F f [.ref p,.int far] S=.ok (.int (v%far)) (S.set p (.lst [.int (v/far)]))
theorem Xwg(hf:T[f]?=some Xqp)(k:Nat):Xb3 (FT T G (k+1)) f:=fun p v far S h h0 hd=>by
 simp only[FT,hf];exact Xwb h h0 hd
theorem Xwh(hF:Xb3 F f)(he:evs F G es env S=.ok ds S')(hc:(ds.length:Int)=c)(h0:0<c)(hz:ds.length<=big)(hd:Xbz c=true)(h5:env[q]?=some (some (.ref p)))(hp:Xc S' p=some [.int v]) :
  ∃d∈ds,ev F G (.idx (.lst es) (.call f (.cons (.var q) (.cons (.cst (.int c)) .nil)))) env S=.ok d ((S'++[O.lst ds]).set p (.lst [.int (v/c)])):=by
 have tk:=hF p v c (S'++[.lst ds]) (Xn hp) h0 hd;have r0:=Vc6 v (Int.ne_of_gt h0);have r1:=Vcg v h0;have hlt:(v%c).toNat<ds.length:=by omega
 have hpl:=Xaw hp;have hl:Xc ((S'++[O.lst ds]).set p (.lst [.int (v/c)])) S'.length=some ds:=by
  rw[Xs4 (by omega)]
  exact Xg
 refine⟨ds[(v%c).toNat],Vbz hlt,?_⟩;have hi:Xag (.ref S'.length) (.int (v%c)) ((S'++[O.lst ds]).set p (.lst [.int (v/c)]))=.ok ds[(v%c).toNat] ((S'++[O.lst ds]).set p (.lst [.int (v/c)])):=by
  simp only[Xag,Xam,Xx,hl,Vs,Z.ixN];rw[iP0 r0,iP0 (by omega)]
  simp only[Vs,Vq hlt]
 simp only[ev,he,evs,h5,Rk0,hz,if_true,tk,hi]
theorem Xeu(hp:Xc S' p=some [.int v]):Xc ((S'++[O.lst ds]).set p (.lst [.int (v/c)])) p=some [.int (v/c)]:=by
 refine Xcc ?_;have:=Xaw hp;simp;omega
theorem turns{G:List D}{ns:List Int}(c:Int)(h1:1<=c)(h2:c<1000000)(h0:env[0]?=some (some (.fro (ns.map D.int)))) :
  ∃m:Int,evs F G (.cons (.blt .max (.cons (.cst (.int 1)) (.cons (.blt .min (.cons (.blt .len (.cons (.var 0) .nil)) (.cons (.cst (.int c)) .nil))) .nil))) .nil) env S=.ok [.int m] S/\0<=m/\m<=c:=by
 have hlen:Xm .len [.fro (ns.map D.int)] S=.ok (.int ns.length) S:=by simp only[Xm,Xx,Vj]
 have hmin:∀i j:Int,Xm .min [.int i,.int j] S=.ok (.int (if j<i then j else i)) S:=fun _ _=>rfl
 have hmax:∀i j:Int,Xm .max [.int i,.int j] S=.ok (.int (if j>i then j else i)) S:=fun _ _=>rfl
 refine⟨if (if c<(ns.length:Int) then c else (ns.length:Int))>1 then (if c<(ns.length:Int) then c else (ns.length:Int)) else 1,by simp only[evs,ev,h0,Rk0,hlen,hmin,hmax],?_,?_⟩
 ·split
  ·split<;>omega
  ·omega
 ·split
  ·split<;>omega
  ·omega
end Z
end
section
namespace Z
noncomputable def Xyc(s:Int)(f:List Int):List Int:=List.zipWith (fun a b=>a+s*b) (f++[0]) (0::f)
noncomputable def stepT(s:Int)(f:List Int)(n:Int):List Int:=(Xyc s f).set f.length ((Xyc s f).getD f.length 0+n)
end Z
end
section
namespace Z
open PySem
section
variable{F:Fn}{G:List D}
theorem Xjz{get:Sto->Nat->Option (Option D)}{body:En->List D->Sto->R (List D)}(xs:List D)(y:Nat->D)(P:Nat->En->Sto->Prop)(hget:∀i e S,P i e S->get S i=some xs[i]?)
  (step:∀i d e S,xs[i]?=some d->P i e S->∃e1 S2,Xr t d e=some e1/\body e1 ((V0 i).map y) S=.ok ((V0 (i+1)).map y) S2/\P (i+1) e1 S2) :
  ∀(fuel i:Nat) (e:En) (S:Sto),P i e S->i<=xs.length->xs.length<fuel+i->∃e' S',X0 get t body fuel i e ((V0 i).map y) S=.ok ((V0 xs.length).map y) S'/\P xs.length e' S'
 |0,i,e,S,h,h1,h2=>by omega
 |fuel+1,i,e,S,h,h1,h2=>by
  cases q:xs[i]? with
  |none =>
   have hi:i=xs.length:=by
    have:=Us.mp q;omega
   refine⟨e,S,?_,hi▸h⟩;simp only[X0,hget i e S h,q];rw[hi]
  |some d =>
   obtain⟨e1,S2,a1,a2,a3⟩:=step i d e S q h;have hi:i<xs.length:=(Vi.mp q).1;obtain⟨e',S',b1,b2⟩:=Xjz xs y P hget step fuel (i+1) e1 S2 a3 (by omega) (by omega)
   refine⟨e',S',?_,b2⟩;simp only[X0,hget i e S h,q,a1,a2];exact b1
theorem Ye(h:n<=1000):n<=big:=U4 h (by decide)
theorem Xdd{n:Nat}(xs:List D)(y:Nat->D)(P:Nat->En->Sto->Prop)(hit:evit F G it env S=.ok src S1)(hm:src.most S1=xs.length)(hb:xs.length<=big)
  (h0:P 0 (env++Vh n none) S1) (hget:∀i e S,P i e S->src.get S i=some xs[i]?)
  (step:∀i d e S,xs[i]?=some d->P i e S->∃e1 S2,Xr t d e=some e1/\ev F G elt e1 S=.ok (y i) S2/\P (i+1) e1 S2) :
  ∃e' S',ev F G (.cmr false n (.cons t it .nil .nil) elt) env S=.ok (.ref S'.length) (S'++[.lst ((V0 xs.length).map y)])/\P xs.length e' S':=by
 obtain⟨e',S',a,b⟩:=Xjz (get:=src.get) (t:=t) (body:=Xz (fun env S=>evts F G .nil env S) (fun env acc S=>(ev F G elt env S).bind fun y S=>if acc.length<big then .ok (acc++[y]) S else .bad)) xs y P hget
  (fun i d e S hd hP=>by
   obtain⟨e1,S2,a1,a2,a3⟩:=step i d e S hd hP;refine⟨e1,S2,a1,?_,a3⟩;have hi:i<xs.length:=(Vi.mp hd).1;simp only[Xz,evts,Rk0,if_true,a2,Vj,Vai];rw[iP0 (by omega),List.range_succ,Val]
   rfl) (xs.length+1) 0 _ S1 h0 (Ul _) (by omega)
 refine⟨e',S',?_,b⟩;simp only[ev,hit,Rk0,hm];have a':X0 src.get t (Xz (fun env S=>evts F G .nil env S) (fun env acc S=>(ev F G elt env S).bind fun y S=>if acc.length<big then .ok (acc++[y]) S else .bad)) (xs.length+1) 0 (env++Vh n none) [] S1=.ok ((V0 xs.length).map y) S':=a
 rw[a'];simp only[Rk0];rfl
theorem Xs9(h1:evs F G es env S=.ok ds S1)(h2:Yd ds=some xs):evit F G (.rng es) env S=.ok (.con xs) S1:=by simp only[evit,h1,Rk0,h2]
theorem Ys(h1:ev F G e env S=.ok (.tup xs) S1):evit F G (.val e) env S=.ok (.con xs) S1:=by simp only[evit,h1,Rk0,Yo]
noncomputable def X97(row:List Int)(p a:Nat):Int:=row.getD a 0*(C (row.length-1-a) (p-a):Int)
theorem Xo6(xs:List D)(S:Sto):Xm .len [.tup xs] S=.ok (.int xs.length) S:=rfl
theorem Xcx:∀l:List Int,Xl (l.map D.int)=some l
 |[]=>rfl
 |x::l=>by simp only[Ug,Xl,Xcx l,Vy]
noncomputable def Xwi(row:D)(x:Option D):En:=[some row,none,x]
noncomputable def Xa(l:List Int):D:=.tup (l.map D.int)
theorem Xd7(row:List Int)(S:Sto):Xm .len [Xa row] S=.ok (.int row.length) S:=by unfold Xa;rw[Xo6,Vj]
def Xde(F:Fn)(i:Nat):Prop:=∀(d:D) (S:Sto),good S d->F i [d] S=.ok (.bl (wh d)) S
theorem Xd8:∀l:List Bool,Yb (l.map D.bl)=some l
 |[]=>rfl
 |x::l=>by simp only[Ug,Yb,Xd8 l,Vy]
noncomputable def Xqt(i0:Nat):Ex:=.blt .all (.cons (.cmr false 2 (.cons (.var 2) (.val (.var 0)) .nil .nil) (.call i0 (.cons (.var 2) .nil))) .nil)
noncomputable def Xg4(i0:Nat):Df:=⟨1,1,.cons (.ret (.and (.isi (.var 0) [.tuple]) (Xqt i0))) .nil⟩
theorem Xa2{l:List Bool}:Xm .all [.ref S.length] (S++[.lst (l.map D.bl)])=.ok (.bl (l.all id)) (S++[.lst (l.map D.bl)]):=by
 simp only[Xm,Xg,Vs,Xd8]
theorem Xta{α β:Type}[Inhabited α](f:α->β)(xs:List α):(V0 xs.length).map (fun i=>f (xs.getD i default))=xs.map f:=by
 refine List.ext_getElem (by simp) fun i h1 h2=>?_
 have:i<xs.length:=by simpa using h2
 simp[this]
theorem Xwj(hw:Xde F i0)(hg:∀d∈xs,good S d)(hl:xs.length<=1000):ev F G (Xqt i0) [some (.tup xs)] S=.ok (.bl (xs.all wh)) (S++[.lst ((xs.map wh).map D.bl)]):=by
 obtain⟨e',S',h2,h3,h4⟩:=Xdd (F:=F) (G:=G) (t:=.var 2) (n:=2) (elt:=.call i0 (.cons (.var 2) .nil)) (env:=[some (.tup xs)]) (S:=S) (S1:=S) xs (fun i=>.bl (wh (xs.getD i default)))
  (fun i e S'=>S'=S/\∃x,e=Xwi (.tup xs) x)
  (Ys (e:=.var 0) (by simp only[ev,gZ0])) rfl (Ye hl) ⟨rfl,none,rfl⟩ (fun _ _ _ _=>rfl)
  (fun i d e S' hd hP=>by
   obtain⟨rfl,x,rfl⟩:=hP;have hm:d∈xs:=Ur hd;have e:xs.getD i default=d:=by rw[Vcc,hd];rfl
   refine⟨Xwi (.tup xs) (some d),S',rfl,?_,rfl,some d,rfl⟩;rw[e];simp only[ev,evs,Xwi,gZ0,gS0,Rk0,hw d S' (hg d hm)])
 have h3':S'=S:=h3;subst h3';have e1:((V0 xs.length).map fun i=>D.bl (wh (xs.getD i default)))=(xs.map wh).map D.bl:=by
  rw[Xta (fun d=>D.bl (wh d)) xs,Vbr];rfl
 rw[e1]at h2;simp only[Xqt,ev,evs]at h2 ⊢;rw[h2];simp only[Rk0];rw[Xa2];simp[Function.comp]
theorem Xwk(hw:Xde F i0)(hg:∀d∈xs,good S d)(hl:xs.length<=1000):den F G (Xg4 i0) [.tup xs] S=.ok (.bl (xs.all wh)) (S++[.lst ((xs.map wh).map D.bl)]):=by
 have h:=Xwj (G:=G) hw hg hl;have hk:kdD S (.tup xs)=some .tuple:=rfl;simp only[den,Xg4,Um,if_true,Ug,Vh,Vag,Vz];rw[Xk (d:=.bl (xs.all wh)) (S1:=S++[.lst ((xs.map wh).map D.bl)]) (by
  simp only[exe];rw[ev,ev];simp only[ev,gZ0,Rk0,hk,Vs,Yc,isT,Xf];rw[h,Rk0])]
theorem X48(h:∀c,k≠.exc c)(hn:k≠.tuple):Yc k [.tuple]=some false:=by
 cases k<;>first|rfl|exact aB0 rfl (h _)|exact aB0 rfl hn
theorem X0z(hk:kdD S d=some k)(h:∀c,k≠.exc c)(hn:k≠.tuple):den F G (Xg4 i0) [d] S=.ok (.bl false) S:=by
 have hi:=X48 h hn;simp only[den,Xg4,Um,if_true,Ug,Vh,Vag,Vz];rw[Xk (d:=.bl false) (S1:=S) (by
  simp only[exe];rw[ev,ev];simp only[ev,gZ0,Rk0,hk,Vs,hi,Xf])]
noncomputable def wt:D->Bool
 |.tup xs=>xs.all wh
 |_=>false
def Xyd(F:Fn)(i:Nat):Prop:=∀(d:D) (S:Sto),good S d->(∀xs,d=.tup xs->(∀x∈xs,good S x)/\xs.length<=1000)->∃X,F i [d] S=.ok (.bl (wt d)) (S++X)
theorem Xwl(hf:T[i]?=some (Xg4 i0))(k:Nat)(hw:Xde (FT T G k) i0):Xyd (FT T G (k+1)) i:=fun d S hg ht=>by
 simp only[FT,hf]
 by_cases h:∃xs,d=.tup xs
 ·obtain⟨xs,rfl⟩:=h
  obtain⟨h1,h2⟩:=ht xs rfl;exact⟨_,Xwk hw h1 h2⟩
 ·obtain⟨kd,h1,h2⟩:=hg
  have hn:kd≠.tuple:=fun z=>by
   subst z;cases d with
   |tup xs=>exact h ⟨xs,rfl⟩
   |ref n =>
    simp only[kdD]at h1;split at h1<;>cases h1
   |_=>cases h1
  have e:wt d=false:=by
   cases d with
   |tup xs=>exact aB0 ⟨xs,rfl⟩ h
   |_=>rfl
  refine⟨[],?_⟩;rw[e,Vz];exact X0z h1 h2 hn
theorem Xj0(hf:T[i]?=some Xmc)(k:Nat):Xde (FT T G (k+1)) i:=fun d S h=>by
 simp only[FT,hf];exact Xs7 h
theorem Xwm{α:Type}(xs:List α)(n:Nat):cut xs none (some (n:Int))=xs.take n:=by
 unfold cut Xf4;simp only[Vgr,Nat.sub_zero];rw[iP0 (by omega)]
 simp only[Vaz]
 by_cases h:n<=xs.length
 ·rw[Nat.min_eq_left h]
 ·rw[Nat.min_eq_right (by omega),Vc3 (by omega),Vc3 (by omega)]
end
noncomputable def ps(l:List Int)(k:Nat):Int:=(l.take k).sum
noncomputable def pre(l:List Int)(n:Nat):List Int:=(V0 n).map fun j=>ps l (j+1)
noncomputable def mir(w:Nat)(h:List Int):List Int:=h++(h.take (w+1-h.length)).reverse
section
variable{F:Fn}{G:List D}
theorem Xtb(h:ev F G c env S=.ok (.bl true) S1):exe F G (.ite c (.cons (.rse k (.cst (.str s))) .nil) .nil) env S=.ex S1.length (S1++[.exc k]):=by
 rw[exe,h,Rk0];simp only[Xf,pb,exe,ev,Rk0]
variable{i1 i2 ih ig:Nat}{d e:D}{g:Int}{S S1:Sto}
theorem X49(i j:Int)(S:Sto):Xj .ne (.int i) (.int j) S=.ok (.bl (!(i==j))) S:=by
 simp only[Xj,X9,eqD,Xbs,X8,Xw,Vcf,Vau,Vav];rfl
end
section
variable{F:Fn}{G:List D}
theorem X00(h1:k<1048576)(h2:x.length*k.toNat<=big)(h3:-(1048576)<k)(h4:x.isEmpty=false):Xo .mul (.tup x) (.int k) S=.ok (.tup (Vh k.toNat x).flatten) S:=by
 simp only[Xo];rw[iP0 ⟨h1,h2,h3,h4⟩]
theorem Xmd{α:Type}(x:α):∀n,(Vh n [x]).flatten=Vh n x
 |0=>rfl
 |n+1=>by rw[U3,U0,Xmd x n,U3];rfl
theorem X9q(h:0<=m):-(1048576)<m:=by omega
theorem Xtc(n:Nat)(S:Sto)(h:n<1000):Xo .mul (.tup [.int 0]) (.int n) S=.ok (Xa (Vh n 0)) S:=by
 have h2:([D.int 0]:List D).length*(n:Int).toNat<=big:=by rw[Vaz,Vcd,Nat.one_mul];exact Ye (by omega)
 rw[X00 (Xqn (by omega)) h2 (X9q (by omega)) rfl,Vaz,Xmd]
 unfold Xa;rw[Vg7]
theorem Xwn(a b:List Int)(S:Sto)(h:a.length+b.length<=1000):Xo .add (Xa a) (Xa b) S=.ok (Xa (a++b)) S:=by
 unfold Xa;simp only[Xo];rw[iP0 (by rw[Vj,Vj];exact Ye h),Val]
theorem Xwo(a:List Int)(n:Nat)(S:Sto):Xa6 (Xa a) none (some (n:Int)) S=.ok (Xa (a.take n)) S:=by
 unfold Xa;simp only[Xa6,Xwm,List.map_take]
theorem Xo7(h1:Xc S a=some x)(h2:Xc S b=some y)(hl:x.length+y.length<=1000):Xo .add (.ref a) (.ref b) S=.ok (.ref S.length) (S++[.lst (x++y)]):=by
 have h1':lstM S a=some x:=h1;have h2':lstM S b=some y:=h2;simp only[Xo,h1',h2'];exact iP0 (Ye hl)
noncomputable def Xgh(is:Nat):Ex:=.blt .all (.cons (.cmr false 3 (.cons (.tup [3,4]) (.zpp (.cons (.var 0) (.cons (.var 1) .nil))) .nil .nil) (.call is (.cons (.var 3) (.cons (.var 4) .nil)))) .nil)
noncomputable def Xkr(is iw:Nat):Sts:=.cons (.ite (.isi (.var 1) [.list,.tuple]) (.cons (.ite (.or (.cmp .ne (.isi (.var 1) [.list]) (.isi (.var 0) [.list])) (.cmp .ne (.isi (.var 1) [.tuple]) (.isi (.var 0) [.tuple]))) (.cons (.ret (.cst (.bl false))) .nil) .nil)
  (.cons (.ret (.and (.cmp .eq (.blt .len (.cons (.var 0) .nil)) (.blt .len (.cons (.var 1) .nil))) (Xgh is))) .nil)) .nil)
  (.cons (.ite (.or (.cmp .is (.var 1) (.cst .non)) (.or (.isi (.var 1) [.bool]) (.isi (.var 1) [.str]))) (.cons (.ret (.and (.cmp .eq (.var 0) (.var 1)) (.cmp .eq (.isi (.var 0) [.bool]) (.isi (.var 1) [.bool])))) .nil) .nil)
  (.cons (.ret (.and (.call iw (.cons (.var 0) .nil)) (.cmp .eq (.var 0) (.var 1)))) .nil))
noncomputable def Xb4(is iw:Nat):Df:=⟨2,2,Xkr is iw⟩
theorem Xax(i j:Int)(S:Sto):Xj .eq (.int i) (.int j) S=.ok (.bl (i==j)) S:=by
 simp only[Xj,X9,eqD,Xbs,X8,Xw,Vcf,Vau,Vav];rfl
theorem Xye(a b:Bool)(S:Sto):Xj .ne (.bl a) (.bl b) S=.ok (.bl (!(a==b))) S:=by
 cases a<;>cases b<;>rfl
theorem Xwp(hw:Xde F iw)(i j:Int)(S:Sto):den F G (Xb4 is iw) [.int i,.int j] S=.ok (.bl (i==j)) S:=by
 have h:=hw (.int i) S (Xd6 S i);have hk:kdD S (.int j)=some .int:=rfl;simp only[den,Xb4,Xkr,Um,if_true,Ug,Vh,Vag,Vz];rw[Xd (e:=[some (.int i),some (.int j)]) (S1:=S) (Y9 (by simp only[ev,gZ0,gS0,Rk0,hk,Vs,Yc,isT]))]
 rw[Xd (e:=[some (.int i),some (.int j)]) (S1:=S) (Y9 (by simp only[ev,gZ0,gS0,Rk0,hk,Vs,Yc,isT,Xj,X9,Xf]))]
 rw[Xk (d:=.bl (i==j)) (S1:=S) (by simp only[exe,ev,evs,gZ0,gS0,Rk0,h,wh,Xf,Xax])]
noncomputable def Xim(a b:D)(u v:Option D):En:=[some a,some b,none,u,v]
theorem Xwq(hs:∀(i j:Int) (S:Sto),F is [.int i,.int j] S=.ok (.bl (i==j)) S)(l:List Int)(S:Sto)(hl:l.length<=100) :
  ∃X,ev F G (Xgh is) [some (Xa l),some (Xa l)] S=.ok (.bl true) (S++X):=by
 let xs:List D:=l.map fun i=>.tup [.int i,.int i]
 have hget:∀S i,(Src.zpp (.con (l.map D.int)) (.con (l.map D.int))).get S i=some xs[i]?:=fun S i=>by
  simp only[Src.get,Vx,xs];cases l[i]?<;>rfl
 obtain⟨e',S',h2,h3,h4⟩:=Xdd (F:=F) (G:=G) (t:=.tup [3,4]) (n:=3) (elt:=.call is (.cons (.var 3) (.cons (.var 4) .nil))) (env:=[some (Xa l),some (Xa l)]) (S:=S) (S1:=S) (it:=.zpp (.cons (.var 0) (.cons (.var 1) .nil))) (src:=.zpp (.con (l.map D.int)) (.con (l.map D.int))) xs (fun _=>.bl true)
  (fun i e S'=>S'=S/\∃u v,e=Xim (Xa l) (Xa l) u v)
  (by simp only[evit,evs,ev,gZ0,gS0,Rk0,Xa,Yo]) (by simp[Src.most,xs]) (Ye (by simp[xs];omega)) ⟨rfl,none,none,rfl⟩ (fun i e S' hP=>hget S' i)
  (fun i d e S' hd hP=>by
   obtain⟨rfl,u,v,rfl⟩:=hP;simp only[xs,Vx]at hd;cases hy:l[i]? with
   |none=>rw[hy]at hd;cases hd
   |some y =>
    rw[hy]at hd;have hd':d=.tup [.int y,.int y]:=by simpa using hd.symm
    subst hd';refine⟨Xim (Xa l) (Xa l) (some (.int y)) (some (.int y)),S',rfl,?_,rfl,_,_,rfl⟩;have hh:=hs y y S';rw[beq_self_eq_true]at hh;simp only[ev,evs,Xim,gZ0,gS0,Rk0,hh])
 have h3':S'=S:=h3;subst h3';have e1:(V0 xs.length).map (fun _=>D.bl true)=(Vh l.length true).map D.bl:=by
  rw[List.map_const',Vai,Vg7];simp[xs]
 rw[e1]at h2;refine⟨[.lst ((Vh l.length true).map D.bl)],?_⟩;simp only[Xgh,ev,evs]at h2 ⊢;rw[h2];simp only[Rk0];rw[Xa2];congr 2;simp
theorem Xwr(hs:∀(i j:Int) (S:Sto),F is [.int i,.int j] S=.ok (.bl (i==j)) S)(l:List Int)(S:Sto)(hl:l.length<=100):∃X,den F G (Xb4 is iw) [Xa l,Xa l] S=.ok (.bl true) (S++X):=by
 obtain⟨X,hz⟩:=Xwq (G:=G) hs l S hl;refine⟨X,?_⟩;have hk:kdD S (Xa l)=some .tuple:=rfl;have hi1:∀i,i<2->([some (Xa l),some (Xa l)]:En)[i]?=some (some (Xa l)):=fun i hi=>by
  match i,hi with
  |0,_=>rfl
  |1,_=>rfl
 simp only[den,Xb4,Xkr,Um,if_true,Ug,Vh,Vag,Vz];have inner:pb F G (.cons (.ite (.or (.cmp .ne (.isi (.var 1) [.list]) (.isi (.var 0) [.list])) (.cmp .ne (.isi (.var 1) [.tuple]) (.isi (.var 0) [.tuple]))) (.cons (.ret (.cst (.bl false))) .nil) .nil)
  (.cons (.ret (.and (.cmp .eq (.blt .len (.cons (.var 0) .nil)) (.blt .len (.cons (.var 1) .nil))) (Xgh is))) .nil)) [some (Xa l),some (Xa l)] S=.ok (.rt (.bl true)) (S++X):=by
  rw[Xd (e:=[some (Xa l),some (Xa l)]) (S1:=S) (Y9 (by simp only[ev,gZ0,gS0,Rk0,hk,Vs,Yc,isT,Xye,Xf,beq_self_eq_true,Ut]))]
  rw[Xk (d:=.bl true) (S1:=S++X) (by
   rw[exe,ev,ev];simp only[ev,evs,gZ0,gS0,Rk0,Xd7,Xax,beq_self_eq_true,Xf];rw[hz,Rk0])]
 rw[Xk (d:=.bl true) (S1:=S++X) (by
  rw[exe];simp only[ev,gZ0,gS0,Rk0,hk,Vs,Yc,isT,Xf];exact inner)]
end
mutual
theorem Xj1(h:∀n p,look n=some p->look' n=some p):∀(d:D) (p:Vbj),Xw look d=some p->Xw look' d=some p
 |.non,p,e=>by simpa only[Xw] using e
 |.bl b,p,e=>by simpa only[Xw] using e
 |.int i,p,e=>by simpa only[Xw] using e
 |.str x,p,e=>by simpa only[Xw] using e
 |.tup xs,p,e=>by
  simp only[Xw,Ui]at e ⊢;obtain⟨ps,e1,e2⟩:=e;exact⟨ps,datFs_mono h xs ps e1,e2⟩
 |.fro _,p,e=>by simp[Xw]at e
 |.fn _ _,p,e=>by simp[Xw]at e
 |.ref n,p,e=>by simp only[Xw]at e ⊢;exact h n p e
theorem datFs_mono(h:∀n p,look n=some p->look' n=some p):∀(ds:List D) (ps:List Vbj),datFs look ds=some ps->datFs look' ds=some ps
 |[],ps,e=>by simpa only[datFs] using e
 |d::ds,ps,e=>by
  simp only[datFs]at e ⊢;cases e1:Xw look d with
  |none=>rw[e1]at e;cases e
  |some q =>
   cases e2:datFs look ds with
   |none=>rw[e1,e2]at e;cases e
   |some qs =>
    rw[e1,e2]at e;rw[Xj1 h d q e1,datFs_mono h ds qs e2];exact e
end
theorem Xev:∀(k n:Nat) (p:Vbj),Yg S k n=some p->Yg (S++X) k n=some p
 |0,n,p,e=>by cases e
 |k+1,n,p,e=>by
  simp only[Yg]at e ⊢;cases q:S[n]? with
  |none=>rw[q]at e;cases e
  |some o =>
   rw[Vt (Vi.mp q).1,q];rw[q]at e;cases o with
   |lst xs =>
    simp only[Ui]at e ⊢;obtain⟨ps,e1,e2⟩:=e;exact⟨ps,datFs_mono (Xev k) xs ps e1,e2⟩
   |dct kvs=>cases kvs<;>exact e
   |fdc _=>cases e
   |exc _=>cases e
structure Shw(S:Sto)(ds:List D)(ps:List Vbj):Prop where
 dat:datFs (Yg S 3) ds=some ps
 shw:Vbk ps=true
 nod:dctEs ps=true
 dep:(Va8 ps).depth<=60
 siz:szD (.list ps)<=big
theorem Shw.app{ds:List D}{ps:List Vbj}(h:Shw S ds ps):Shw (S++X) ds ps:=⟨datFs_mono (Xev 3) ds ps h.dat,h.shw,h.nod,h.dep,h.siz⟩
theorem Shw.rep{ds:List D}{ps:List Vbj}(h:Shw S ds ps):Xld (S++[.lst ds]) (.ref S.length)=some (Va8 ps).shown:=by
 have e:X8 (S++[.lst ds]) (.ref S.length)=some (.list ps):=by
  have hd:=(h.app (X:=[.lst ds])).dat;have hg:(S++[O.lst ds])[S.length]?=some (.lst ds):=by rw[U5 (Vl _),Vag];rfl
  show Yg (S++[.lst ds]) 4 S.length=_;rw[Yg,hg];dsimp only;rw[hd,Vy]
 have h1:(Va8 ps).showable=true:=by simpa only[Va5] using h.shw
 have h2:Xah (Va8 ps)=true:=by simpa only[Xah] using h.nod
 simp only[Xld,e,h1,h2,decide_eq_true h.dep,decide_eq_true h.siz];rfl
section
variable{F:Fn}{G:List D}
theorem eq_str(t:Str)(S:Sto):Xj .eq (.str t) (.str t) S=.ok (.bl true) S:=by
 simp only[Xj,X9,eqD,Xbs,beq_self_eq_true]
end
def Sm(S:Sto)(dep siz:Nat)(d:D):Prop:=∃p,Xw (Yg S 3) d=some p/\p.showable=true/\Xah p=true/\p.depth<=dep/\szD p<=siz
theorem Sm.mono(h:Sm S a b d)(h1:a<=a')(h2:b<=b'):Sm S a' b' d:=by
 obtain⟨p,q1,q2,q3,q4,q5⟩:=h;exact⟨p,q1,q2,q3,U4 q4 h1,U4 q5 h2⟩
theorem Sm.app(h:Sm S a b d):Sm (S++X) a b d:=by
 obtain⟨p,q1,q⟩:=h;exact⟨p,Xj1 (Xev 3) d p q1,q⟩
theorem sms:∀ds:List D,(∀d∈ds,∃p,Xw look d=some p/\p.showable=true/\Xah p=true/\p.depth<=a/\szD p<=b) ->
  ∃ps,datFs look ds=some ps/\Vbk ps=true/\dctEs ps=true/\Vb7 ps<=a/\szDs ps<=ds.length*(b+2)
 |[],_=>⟨[],by simp only[datFs],by simp only[Vbk],by simp only[dctEs],by simp only[Vb7];exact Ul _,by simp only[szDs];exact Ul _⟩
 |d::ds,h=>by
  obtain⟨p,p1,p2,p3,p4,p5⟩:=h d (by simp)
  obtain⟨ps,q1,q2,q3,q4,q5⟩:=sms ds fun x hx=>h x (by simp[hx])
  refine⟨p::ps,by simp only[datFs,p1,q1],by simp only[Vbk,p2,q2,Vc8],by simp only[dctEs,p3,q3,Vc8],by simp only[Vb7];exact Nat.max_le.mpr ⟨p4,q4⟩,?_⟩
  simp only[szDs,Uc,Nat.succ_mul];omega
theorem X5a(h:∀d∈ds,Sm S a b d):Sm S (a+1) (ds.length*(b+2)+3) (.tup ds):=by
 obtain⟨ps,q1,q2,q3,q4,q5⟩:=sms ds h;refine⟨.tuple ps,by simp only[Xw,q1,Vy],by simp only[Va5,q2],by simp only[Xah,q3],by simp only[Vau];omega,by simp only[szD];omega⟩
theorem X5b(h:n<=900000):n<=big:=U4 h (by decide)
def Ext(p:Nat)(S S':Sto):Prop:=∀n o,n≠p->S[n]?=some o->S'[n]?=some o
section
variable{p:Nat}{S S' S1 S2 X:Sto}
theorem Ext.refl:Ext p S S:=fun _ _ _ h=>h
theorem Ext.trans(a:Ext p S S1)(b:Ext p S1 S2):Ext p S S2:=fun n o h e=>b n o h (a n o h e)
theorem Ext.app:Ext p S (S++X):=fun n o _ e=>by rw[Vt (Vi.mp e).1];exact e
theorem Ext.set:Ext p S (S.set p o):=fun n o h e=>by rw[Vaq (Ne.symm h)];exact e
theorem Xdf(h:Xc S q=some xs):S[q]?=some (.lst xs):=by
 unfold Xc at h;split at h
 ·rename_i ys hh;cases h;exact hh
 ·cases h
theorem X5c(h:S[q]?=some (.lst xs)):Xc S q=some xs:=by unfold Xc;rw[h]
theorem Ext.lst(x:Ext p S S')(hq:q≠p)(h:Xc S q=some xs):Xc S' q=some xs:=X5c (x q _ hq (Xdf h))
end
def FSm(dep siz:Nat)(d:D):Prop:=∃p,(∀look,Xw look d=some p)/\p.showable=true/\Xah p=true/\p.depth<=dep/\szD p<=siz
theorem FSm.mono(h:FSm a b d)(h1:a<=a')(h2:b<=b'):FSm a' b' d:=by
 obtain⟨p,q1,q2,q3,q4,q5⟩:=h;exact⟨p,q1,q2,q3,U4 q4 h1,U4 q5 h2⟩
theorem FSm.sm(h:FSm a b d)(S:Sto):Sm S a b d:=by
 obtain⟨p,q1,q⟩:=h;exact⟨p,q1 _,q⟩
theorem FSm.good(h:FSm a b d)(S:Sto):good S d:=by
 obtain⟨p,q1,q⟩:=h;refine Xjy S d (fun n z=>?_) (fun f m z=>?_)
 ·subst z;have:=q1 (fun _=>none);cases this
 ·subst z;have:=q1 (fun _=>none);cases this
theorem Xbe(h:i.natAbs.log2<1920):FSm 0 1921 (.int i):=⟨.int i,fun _=>by simp only[Xw],by simp only[Va5,decide_eq_true h],by simp only[Xah],by simp only[Vau];exact Vl _,by simp only[szD];exact Vl _⟩
theorem Xme:FSm 0 1921 .non:=⟨.none,fun _=>by simp only[Xw],by simp only[Va5],by simp only[Xah],by simp only[Vau];exact Vl _,by simp only[szD];omega⟩
theorem Xqu:FSm 0 1921 (.bl b):=⟨.bool b,fun _=>by simp only[Xw],by simp only[Va5],by simp only[Xah],by simp only[Vau];exact Vl _,by simp only[szD];omega⟩
theorem Xtd(h:(reprText t).length<=1921):FSm 0 1921 (.str t):=⟨.str t,fun _=>by simp only[Xw],by simp only[Va5],by simp only[Xah],by simp only[Vau];exact Vl _,by simp only[szD];exact h⟩
theorem fss:∀ds:List D,(∀d∈ds,FSm a b d) ->
  ∃ps,(∀look,datFs look ds=some ps)/\Vbk ps=true/\dctEs ps=true/\Vb7 ps<=a/\szDs ps<=ds.length*(b+2)
 |[],_=>⟨[],fun _=>by simp only[datFs],by simp only[Vbk],by simp only[dctEs],by simp only[Vb7];exact Ul _,by simp only[szDs];exact Ul _⟩
 |d::ds,h=>by
  obtain⟨p,p1,p2,p3,p4,p5⟩:=h d (by simp)
  obtain⟨ps,q1,q2,q3,q4,q5⟩:=fss ds fun x hx=>h x (by simp[hx])
  refine⟨p::ps,fun look=>by simp only[datFs,p1 look,q1 look],by simp only[Vbk,p2,q2,Vc8],by simp only[dctEs,p3,q3,Vc8],by simp only[Vb7];exact Nat.max_le.mpr ⟨p4,q4⟩,?_⟩
  simp only[szDs,Uc,Nat.succ_mul];omega
theorem X5d(h:∀d∈ds,FSm a b d):FSm (a+1) (ds.length*(b+2)+3) (.tup ds):=by
 obtain⟨ps,q1,q2,q3,q4,q5⟩:=fss ds h;refine⟨.tuple ps,fun look=>by simp only[Xw,q1 look,Vy],by simp only[Va5,q2],by simp only[Xah,q3],by simp only[Vau];omega,by simp only[szD];omega⟩
theorem X5e(h:FSm a b d):FSm (a+1) (b+5) (.tup [d]):=by
 have:=X5d (ds:=[d]) (a:=a) (b:=b) (fun x hx=>by rw[Up]at hx;subst hx;exact h)
 exact this.mono (Vl _) (by simp)
theorem Xo8(hn:Xc S n=some xs)(h:∀x∈xs,FSm a b x):Sm S (a+1) (xs.length*(b+2)+2) (.ref n):=by
 obtain⟨ps,q1,q2,q3,q4,q5⟩:=fss xs h;refine⟨.list ps,?_,by simp only[Va5,q2],by simp only[Xah,q3],by simp only[Vau];omega,by simp only[szD];omega⟩
 show Yg S 3 n=_;rw[Yg,Xdf hn];dsimp only;rw[q1,Vy]
theorem Xj2(h:Xc S q=some xs):good S (.ref q):=⟨.list,by simp only[kdD];rw[Xdf h],fun _ z=>nomatch z⟩
structure Thing(S:Sto)(d:D):Prop where
 sm:Sm S 20 400000 d
 gd:good S d
 el:∀xs,d=.tup xs->(∀x∈xs,good S x)/\xs.length<=200
def Kp(p:Nat)(S:Sto)(d:D):Prop:=∀S',Ext p S S'->Thing S' d
def El(p:Nat)(S:Sto)(d:D):Prop:=∀S',Ext p S S'->Sm S' 5 30000 d/\good S' d
section
variable{p:Nat}{S S':Sto}{d:D}
theorem Kp.mono(h:Kp p S d)(x:Ext p S S'):Kp p S' d:=fun S2 y=>h S2 (x.trans y)
theorem Kp.now(h:Kp p S d):Thing S d:=h S .refl
theorem El.mono(h:El p S d)(x:Ext p S S'):El p S' d:=fun S2 y=>h S2 (x.trans y)
theorem Xcd(h:FSm a b d)(ha:a<=5)(hb:b<=30000):El p S d:=fun S' _=>⟨(h.sm S').mono ha hb,h.good S'⟩
theorem X5f(hq:q≠p)(hl:Xc S q=some xs)(h:∀x∈xs,FSm a b x)(ha:a<=4)(hb:xs.length*(b+2)+2<=30000):El p S (.ref q):=fun S' x=>⟨(Xo8 (x.lst hq hl) h).mono (by omega) hb,Xj2 (x.lst hq hl)⟩
theorem X8a(h:El p S d)(ht:∀xs,d≠.tup xs):Kp p S d:=fun S' x=>⟨(h S' x).1.mono (by omega) (by omega),(h S' x).2,fun xs z=>aB0 z (ht xs)⟩
theorem Xmf(h:∀x∈xs,El p S x)(hl:xs.length<=13):Kp p S (.tup xs):=fun S' x=>by
 refine⟨(X5a (a:=5) (b:=30000) fun y hy=>(h y hy S' x).1).mono (by omega) (by omega),Xjy S' _ (fun _ z=>nomatch z) (fun _ _ z=>nomatch z),fun ys z=>?_⟩
 injection z with z
 subst z;exact⟨fun y hy=>(h y hy S' x).2,by omega⟩
theorem Xte(hq:q≠p)(hl:Xc S q=some xs)(h:∀x∈xs,FSm a b x)(ha:a<=4)(hb:xs.length*(b+2)+2<=400000):Kp p S (.ref q):=fun S' x=>⟨(Xo8 (x.lst hq hl) h).mono (by omega) hb,Xj2 (x.lst hq hl),fun xs z=>nomatch z⟩
end
theorem Thing.app(h:Thing S d):Thing (S++X) d:=⟨h.sm.app,Xgf h.gd,fun xs z=>⟨fun x hx=>Xgf ((h.el xs z).1 x hx),(h.el xs z).2⟩⟩
def Xws(l:List Int):Prop:=∀x∈l,x.natAbs.log2<1920
theorem Xci(h:i.natAbs.log2<1920):El p S (.int i):=Xcd (Xbe h) (by omega) (by omega)
theorem Xtf(h:Xws l)(hl:l.length<=13):Kp p S (Xa l):=Xmf (fun x hx=>by
 obtain⟨i,hi,rfl⟩:=Uh.mp hx;exact Xci (h i hi)) (by rw[Vj];exact hl)
theorem X5g(h1:Sm S 20 400000 a)(h2:Sm S 20 400000 b):∃ps,Shw S [a,b] ps:=by
 obtain⟨ps,q1,q2,q3,q4,q5⟩:=sms (look:=Yg S 3) (a:=20) (b:=400000) [a,b] fun d hd=>by
  simp only[Vv,Vap,or_false]at hd;rcases hd with rfl|rfl
  ·exact h1
  ·exact h2
 exact⟨ps,q1,q2,q3,by simp only[Vau];omega,X5b (by simp only[szD];simp only[Um]at q5;omega)⟩
theorem Xtg(l:List Int):(l.map D.int).all wh=true:=by
 rw[Ux];intro d hd;obtain⟨i,_,rfl⟩:=Uh.mp hd;rfl
section
variable{F:Fn}{G:List D}
theorem Xj3:∀ {xs:List D} {ps:List Vbj},datFs look xs=some ps->ps.length=xs.length
 |[],ps,h=>by simp only[datFs,Vr]at h;subst h;rfl
 |x::xs,ps,h=>by
  simp only[datFs]at h;cases e1:Xw look x with
  |none=>rw[e1]at h;cases h
  |some p =>
   cases e2:datFs look xs with
   |none=>rw[e1,e2]at h;cases h
   |some qs=>rw[e1,e2]at h;cases h;simp[Xj3 e2]
theorem X5h(ha:Xc S a=some xs)(hb:Xc S b=some []):Xj .eq (.ref a) (.ref b) S=.ok (.bl xs.isEmpty) S:=by
 have db:X8 S (.ref b)=some (.list []):=by
  show Yg S 4 b=_;rw[Yg,Xdf hb];simp only[datFs,Vy]
 have key:eqD S (.ref a) (.ref b)=some xs.isEmpty:=by
  have ts:Xbs (.ref a) (.ref b)=none:=rfl;have da:X8 S (.ref a)=(datFs (Yg S 3) xs).map Va8:=by
   show Yg S 4 a=_;rw[Yg,Xdf ha]
  cases xs with
  |nil =>
   simp only[datFs,Vy]at da;simp only[eqD,ts,da,db];rfl
  |cons x xs =>
   have ls:Xed S (.ref a) (.ref b)=some false:=by
    simp only[Xed,ha,hb];rfl
   cases e:datFs (Yg S 3) (x::xs) with
   |none =>
    rw[e]at da;simp only[eqD,ts,da,Vgc,ls,List.isEmpty_cons]
   |some ps =>
    rw[e]at da;have hp:=Xj3 e;have hv:Vav (.list ps) (.list [])=false:=by
     cases ps with
     |nil=>simp at hp
     |cons p ps=>simp only[Vav,Ver]
    simp only[eqD,ts,da,db,Vy,ls,hv,List.isEmpty_cons];split<;>rfl
 simp only[Xj,X9,key]
theorem X9r(h0:env[0]?=some (some a))(h1:env[1]?=some (some b)):ev F G (.lst (.cons (.var 0) (.cons (.var 1) .nil))) env S=.ok (.ref S.length) (S++[.lst [a,b]]):=by
 simp only[ev,evs,h0,h1,Rk0];exact iP0 (Ye (by simp))
noncomputable def Xmg:Ex:=.blt .repr (.cons (.lst (.cons (.var 0) (.cons (.var 1) .nil))) .nil)
theorem Xo9{ps:List Vbj}(h0:env[0]?=some (some a))(h1:env[1]?=some (some b))(h:Shw S [a,b] ps):ev F G Xmg env S=.ok (.str (Va8 ps).shown) (S++[.lst [a,b]]):=by
 have hr:=h.rep;have hl:=X9r (F:=F) (G:=G) (S:=S) h0 h1;simp only[ev,evs]at hl;simp only[Xmg,ev,evs]at *;rw[hl];simp only[Rk0,Xm,hr]
noncomputable def Xg5(ib:Nat):Df:=⟨2,4,.cons (.asg (.var 2) Xmg) (.cons (.asg (.var 3) (.call ib (.cons (.var 0) (.cons (.var 1) .nil)))) (.cons (.ret (.ite (.cmp .eq Xmg (.var 2)) (.var 3) (.cst (.str "changed")))) .nil))⟩
theorem Xj4{ib:Nat}{ps:List Vbj}(h:Shw S [a,b] ps)(hb:F ib [a,b] (S++[.lst [a,b]])=.ok r (S++X)):∃Y,den F G (Xg5 ib) [a,b] S=.ok r (S++Y):=by
 have r1:=Xo9 (F:=F) (G:=G) (env:=[some a,some b,none,none]) rfl rfl h;have r2:=Xo9 (F:=F) (G:=G) (env:=[some a,some b,some (.str (Va8 ps).shown),some r]) rfl rfl (h.app (X:=X));refine⟨X++[.lst [a,b]],?_⟩;simp only[den,Xg5,Um,if_true,Ug,Vh];rw[Xd (e:=[some a,some b,some (.str (Va8 ps).shown),none]) (S1:=S++[.lst [a,b]]) (by
  rw[exe];have r1':ev F G Xmg ([some a,some b]++[none,none]) S=_:=r1;rw[r1',Rk0];rfl)]
 rw[Xd (e:=[some a,some b,some (.str (Va8 ps).shown),some r]) (S1:=S++X) (by simp only[exe,ev,evs,gZ0,gS0,Rk0,hb,Xr,Vc2])]
 rw[Xk (d:=r) (S1:=S++(X++[.lst [a,b]])) (by
  rw[exe,ev,ev,r2,Rk0];simp only[ev,gZ0,gS0,Rk0,eq_str,Xf,Vo])]
end
noncomputable def vsq(v m:Int):Nat->Int
 |0=>v
 |n+1=>vsq v m n/m
noncomputable def drawn(v far:Int)(n:Nat):List Int:=(V0 n).map fun i=>vsq v (2*far+1) i%(2*far+1)-far
section
variable{F:Fn}{G:List D}
theorem Xdg(he:env.length=L)(x:Option D)(d:D):Xr (.var (L+1)) d (env++[none,x])=some (env++[none,some d]):=by
 simp only[Xr];rw[Vf8 _ _ (by omega),he,Nat.add_sub_cancel_left]
 rfl
theorem Xdh{env X:En}{i:Nat}{d:D}(h:env[i]?=some (some d)):(env++X)[i]?=some (some d):=by
 rw[Vt (Vi.mp h).1];exact h
theorem Xe9{env:En}{L:Nat}(he:env.length=L)(d:D):(env++[none,some d])[L+1]?=some (some d):=by
 rw[U5 (by omega),he,Nat.add_sub_cancel_left];rfl
theorem Yn(h:ev F G e env S=.ok d S'):exe F G (.asg (.var i) e) env S=.ok (.nx (env.set i (some d))) S':=by
 simp only[exe,h,Rk0,Xr]
theorem Xj5(a:List Int)(n:Nat)(S:Sto):Xa6 (Xa a) (some (n:Int)) none S=.ok (Xa (a.drop n)) S:=by
 have c:cut (a.map D.int) (some (n:Int)) none=(a.map D.int).drop n:=by
  unfold cut Xf4;simp only;rw[iP0 (by omega)]
  simp only[Vaz]
  by_cases h:n<=(a.map D.int).length
  ·rw[Nat.min_eq_left h,Vc3 (by rw[Vfz];omega)]
  ·rw[Nat.min_eq_right (by omega),List.drop_of_length_le (by omega),List.drop_of_length_le (by omega)];simp
 unfold Xa;simp only[Xa6,c,List.map_drop]
end
noncomputable def e30:Int:=10^(30:Int).toNat
theorem X9s(S:Sto):Xo .pow (.int 10) (.int 30) S=.ok (.int e30) S:=Xe8 (by decide+kernel) S
noncomputable def Xfa:Exs:=.cons (.cst .non) (.cons (.cst (.bl true)) (.cons (.cst (.bl false)) (.cons (.neg (.cst (.int 1))) (.cons (.cst (.int 0)) (.cons (.cst (.int 16)) (.cons (.bin .pow (.cst (.int 10)) (.cst (.int 30))) (.cons (.cst (.str "")) (.cons (.cst (.str "0,1")) (.cons (.tup .nil) (.cons (.tup (.cons (.tup .nil) .nil)) (.cons (.lst (.cons (.tup .nil) .nil)) (.cons (.tup (.cons (.cst (.int 0)) .nil)) (.cons .dct0 (.cons (.tup (.cons (.tup (.cons (.cst (.int 0)) (.cons (.cst (.int 1)) .nil))) (.cons (.lst (.cons (.cst (.int 2)) .nil)) .nil))) (.cons (.tup (.cons (.cst (.bl true)) .nil)) .nil)))))))))))))))
noncomputable def Xbk(q:Nat):List D:=[.non,.bl true,.bl false,.int (-1),.int 0,.int 16,.int e30,.str "",.str "0,1",.tup [],.tup [.tup []],.ref q,.tup [.int 0],.ref (q+1),.tup [.tup [.int 0,.int 1],.ref (q+2)],.tup [.bl true]]
section
variable{F:Fn}{G:List D}
theorem Xmh(env:En)(S:Sto):evs F G Xfa env S=.ok (Xbk S.length) (S++[.lst [.tup []]]++[.dct []]++[.lst [.int 2]]):=by
 have h0:([]:List D).length<=big:=by decide
 have h1:([D.tup []]:List D).length<=big:=by decide
 have h2:([D.int 2]:List D).length<=big:=by decide
 have h3:([D.int 0]:List D).length<=big:=by decide
 have h4:([D.int 0,D.int 1]:List D).length<=big:=by decide
 have h5:([D.bl true]:List D).length<=big:=by decide
 have h6:∀n,([D.tup [.int 0,.int 1],D.ref n]:List D).length<=big:=fun n=>(by decide:2<=big)
 have l1:(S++[O.lst [.tup []]]).length=S.length+1:=by simp
 have l2:(S++[O.lst [.tup []]]++[O.dct []]).length=S.length+2:=by simp
 unfold Xfa Xbk;simp only[evs,ev,Rk0,X9s,h0,h1,h2,h3,h4,h5,h6,if_true,l1,l2]
theorem Xas(h:FSm a b d)(ht:∀xs,d≠.tup xs)(ha:a<=5)(hb:b<=30000):Kp p S d:=X8a (Xcd h ha hb) ht
end
end Z
end
section
namespace Z
end Z
end
section
namespace Z
open PySem
section
variable{F:Fn}{G:List D}
end
theorem Xew:∀l w:List Int,Ver (l.map Va6) (w.map Va6)=decide (l=w)
 |[],[]=>by simp[Ver]
 |[],_::_=>by simp[Ver]
 |_::_,[]=>by simp[Ver]
 |x::l,y::w=>by
  have ih:=Xew l w;simp only[Ug,Ver,Vav,ih]
  by_cases e:x=y
  ·subst e;simp
  ·simp[e]
theorem Xin(look:Nat->Option Vbj):∀l:List Int,datFs look (l.map D.int)=some (l.map Va6)
 |[]=>by simp only[Ug,datFs]
 |x::l=>by simp only[Ug,datFs,Xw,Xin look l]
theorem Xio:∀l:List Int,Vbu (l.map Va6)=true
 |[]=>by simp only[Ug,Vbu]
 |x::l=>by simp only[Ug,Vbu,Vcf,Xio l,Vc8]
theorem Xwt:∀l:List Int,Vb7 (l.map Va6)=0
 |[]=>by simp only[Ug,Vb7]
 |x::l=>by simp only[Ug,Vb7,Vau,Xwt l,Nat.max_self]
theorem Xip(l w:List Int)(S:Sto):Xj .eq (Xa l) (Xa w) S=.ok (.bl (decide (l=w))) S:=by
 have hd:∀l:List Int,X8 S (Xa l)=some (.tuple (l.map Va6)):=fun l=>by simp only[X8,Xa,Xw,Xin,Vy]
 have h1:∀l:List Int,(PyData.tuple (l.map Va6)).canLay0=true:=fun l=>by simp only[Vcf,Xio]
 have h2:(PyData.tuple (l.map Va6)).depth<=60:=by simp only[Vau,Xwt];omega
 have h3:Vav (.tuple (l.map Va6)) (.tuple (w.map Va6))=decide (l=w):=by simp only[Vav,Xew]
 have hs:Xbs (Xa l) (Xa w)=none:=rfl;have key:eqD S (Xa l) (Xa w)=some (decide (l=w)):=by
  simp only[eqD,hs,hd,h1,h3,decide_eq_true h2,Vc8,if_true]
 simp only[Xj,X9,key]
theorem X01(l w:List Int)(S:Sto):Xj .ne (Xa l) (Xa w) S=.ok (.bl (!decide (l=w))) S:=by
 have h:=Xip l w S;simp only[Xj,X9]at h ⊢;cases e:eqD S (Xa l) (Xa w) with
 |none=>rw[e]at h;cases h
 |some b =>
  rw[e]at h;simp only[R.ok.injEq,D.bl.injEq,and_true]at h;subst h;rfl
section
variable{F:Fn}{G:List D}
variable{i1:Nat}{d e:D}{x y:Str}{g1 g2:Int}{S:Sto}
end
section
variable{F:Fn}{G:List D}
theorem Xiq(h:Xc S q=some xs):Xm .len [.ref q] S=.ok (.int xs.length) S:=by simp only[Xm,Xx,h]
theorem Yk(h0:ds.length=d.np)(he:ds.map some++Vh (d.nl-d.np) none=env)(h:pb F G d.body env S=.ok (.rt r) S'):den F G d ds S=.ok r S':=by
 subst he;unfold den;rw[iP0 h0,h]
theorem X5i{l:List Int}{i:Nat}(h:i<l.length):(l.map D.int)[i]?=some (.int (l.getD i 0)):=by
 rw[Vx,Vcc,Vq h];rfl
noncomputable def gpr(h:List Int)(i:Nat):D:=.tup [.int (h.getD i 0),.int (h.getD (i+1) 0)]
theorem X5j(h:List Int)(i:Nat)(S:Sto):(Src.zpp (.con (h.map D.int)) (.con ((h.drop 1).map D.int))).get S i=some ((V0 (h.length-1)).map (gpr h))[i]?:=by
 by_cases hi:i<h.length-1
 ·have e1:=X5i (l:=h) (i:=i) (by omega)
  have e2:=X5i (l:=h.drop 1) (i:=i) (by simpa using hi)
  have e3:(h.drop 1).getD i 0=h.getD (i+1) 0:=by simp[Vb0,Nat.add_comm]
  rw[e3]at e2;simp only[Src.get,e1,e2];simp[hi,gpr]
 ·have e2:((h.drop 1).map D.int)[i]?=none:=Vam (by simpa using hi)
  rw[Vam (l:=(V0 (h.length-1)).map (gpr h)) (by simpa using hi)]
  simp only[Src.get,e2];cases (h.map D.int)[i]?<;>rfl
end
end Z
end
section
namespace Z
end Z
end
section
namespace Z
open PySem
section
variable{F:Fn}{G:List D}
theorem ixn{N i:Nat}{x:Int}(h:i<N)(e:x=(i:Int)):ixN N x=some i:=by
 subst e;unfold ixN;rw[iP0 (by omega),iP0 (by omega)]
 simp
end
section
variable{p q:Nat}{S0 S X:Sto}{l:List Int}
end
section
variable{F:Fn}{G:List D}
theorem X5k{q i:Nat}{x:Int}{xs:List D}(h:Xc S q=some xs)(hd:xs[i]?=some d)(e:x=(i:Int)):Xag (.ref q) (.int x) S=.ok d S:=by
 have hi:=(Vi.mp hd).1;simp only[Xag,Xam,Xx,h,Vs,ixn hi e,hd]
end
section
variable{F:Fn}{G:List D}{S:Sto}{t:Tg}{it:It}{ifs:Exs}{elt:Ex}{env:En}{n:Nat}
theorem Xth{w:D->List D}{xs:List D}{i:Nat}{d:D}(h:xs[i]?=some d):((xs.take (i+1)).map w).flatten=((xs.take i).map w).flatten++w d:=by
 rw[Vgz,h];simp
theorem Xfb{get:Sto->Nat->Option (Option D)}{body:En->List D->Sto->R (List D)}(xs:List D)(w:D->List D)(acc0:List D)(P:En->Prop)(hget:∀i,get S i=some xs[i]?)
  (step:∀i d e,xs[i]?=some d->P e->∃e1,Xr t d e=some e1/\P e1/\body e1 (acc0++((xs.take i).map w).flatten) S=.ok (acc0++((xs.take i).map w).flatten++w d) S) :
  ∀(fuel i:Nat) (e:En),P e->i<=xs.length->xs.length<fuel+i->∃e',P e'/\X0 get t body fuel i e (acc0++((xs.take i).map w).flatten) S=.ok (acc0++(xs.map w).flatten) S
 |0,i,e,h,h1,h2=>by omega
 |fuel+1,i,e,h,h1,h2=>by
  cases q:xs[i]? with
  |none =>
   have hi:i=xs.length:=by
    have:=Us.mp q;omega
   refine⟨e,h,?_⟩;simp only[X0,hget i,q];rw[hi,Vc1]
  |some d =>
   obtain⟨e1,a1,a2,a3⟩:=step i d e q h;have hi:i<xs.length:=(Vi.mp q).1;obtain⟨e',b1,b2⟩:=Xfb xs w acc0 P hget step fuel (i+1) e1 a2 (by omega) (by omega)
   refine⟨e',b1,?_⟩;simp only[X0,hget i,q,a1,a3];rw[Xth q,<- Vo]at b2;exact b2
theorem Xqv{w:D->List D}(hw:∀d,(w d).length<=1):∀l:List D,((l.map w).flatten).length<=l.length
 |[]=>Vl _
 |d::l=>by
  have:=Xqv hw l;have:=hw d;simp only[Vab,U0,Uf,Uc];omega
theorem Xcj{src:Src}{S0:Sto}(xs:List D)(b:D->Bool)(y:D->D)(P:En->Prop)(hit:evit F G it env S0=.ok src S)(hm:src.most S=xs.length)(hget:∀i,src.get S i=some xs[i]?)(hb:xs.length<=big)(h0:P (env++Vh n none))
  (step:∀d∈xs,∀e,P e->∃e1,Xr t d e=some e1/\P e1/\evts F G ifs e1 S=.ok (b d) S/\(b d=true->ev F G elt e1 S=.ok (y d) S)) :
  ev F G (.cmr false n (.cons t it ifs .nil) elt) env S0=.ok (.ref S.length) (S++[.lst ((xs.filter b).map y)]):=by
 have hw:∀d,(if b d then [y d] else []:List D).length<=1:=fun d=>by split<;>simp
 obtain⟨e',_,a⟩:=Xfb (S:=S) (get:=src.get) (t:=t) (body:=Xz (fun env S=>evts F G ifs env S) (fun env acc S=>(ev F G elt env S).bind fun y S=>if acc.length<big then .ok (acc++[y]) S else .bad)) xs (fun d=>if b d then [y d] else []) [] P hget
  (fun i d e hd hP=>by
   obtain⟨e1,a1,a2,a3,a4⟩:=step d (Ur hd) e hP;refine⟨e1,a1,a2,?_⟩;have hi:i<xs.length:=(Vi.mp hd).1;have hl:=Xqv hw (xs.take i);rw[Vbx]at hl;simp only[Xz,a3,Rk0,Vbi];cases c:b d with
   |false=>simp
   |true =>
    simp only[if_true,a4 c,Rk0];rw[iP0 (by omega)]) (xs.length+1) 0 _ h0 (Ul _) (by omega)
 simp only[ev,hit,Rk0,hm];have a':X0 src.get t (Xz (fun env S=>evts F G ifs env S) (fun env acc S=>(ev F G elt env S).bind fun y S=>if acc.length<big then .ok (acc++[y]) S else .bad)) (xs.length+1) 0 (env++Vh n none) [] S=.ok (xs.map fun d=>if b d then [y d] else []).flatten S:=a
 have e:(xs.map fun d=>if b d then [y d] else []).flatten=(xs.filter b).map y:=by
  clear a a' h0 step hb hm hget hit
  induction xs with
  |nil=>rfl
  |cons d xs ih =>
   simp only[Vab,U0,ih,Vdo];split<;>simp
 rw[a',e];simp only[Rk0];rfl
end
section
variable{F:Fn}{G:List D}{S:Sto}
theorem Xir(i:Int):∀l:List Int,((l.map Va6).any fun q=>Vav q (.int i))=decide (i∈l)
 |[]=>rfl
 |x::l=>by
  simp only[Vab,List.any_cons,Xir i l,Vav]
  by_cases h:x=i
  ·subst h;simp
  ·have:¬ i=x:=fun z=>h z.symm
   simp[h,this]
theorem Xpa(i:Int)(l:List Int)(S:Sto):inD S (.int i) (Xa l)=some (decide (i∈l)):=by
 have h1:X8 S (Xa l)=some (.tuple (l.map Va6)):=by simp only[X8,Xa,Xw,Xin,Vy]
 have h2:X8 S (.int i)=some (.int i):=by simp only[X8,Xw]
 have h3:(Va6 i).canLay0=true:=by simp only[Vcf]
 have h4:(Va6 i).depth=0:=by simp only[Vau]
 unfold inD;rw[h1,h2];dsimp only;rw[h3,h4,Xio,Xir];rfl
theorem Xpb{n:Nat}(i:Int)(l:List Int)(h:Xc S n=some (l.map D.int)):inD S (.int i) (.ref n)=some (decide (i∈l)):=by
 have hS:S[n]?=some (.lst (l.map D.int)):=by
  unfold Xc at h;split at h
  ·rename_i xs e;cases h;exact e
  ·cases h
 have h1:X8 S (.ref n)=some (.list (l.map Va6)):=by simp only[X8,Xw,Yg,hS,Xin,Vy]
 have h2:X8 S (.int i)=some (.int i):=by simp only[X8,Xw]
 have h3:(Va6 i).canLay0=true:=by simp only[Vcf]
 have h4:(Va6 i).depth=0:=by simp only[Vau]
 unfold inD;rw[h1,h2];dsimp only;rw[h3,h4,Xio,Xir];rfl
noncomputable def lft(a b:List Int):List Int:=a.filter fun x=>!decide (x∈b)
noncomputable def Xg6:Sts:=.cons (.ret (.blt .tuple (.cons (.cmr false 2 (.cons (.var 3) (.val (.var 0)) (.cons (.cmp .notin (.var 3) (.var 1)) .nil) .nil) (.var 3)) .nil))) .nil
theorem Xpc{a b:List Int}(ha:a.length<=1000)(S:Sto):ev F G (.cmr false 2 (.cons (.var 3) (.val (.var 0)) (.cons (.cmp .notin (.var 3) (.var 1)) .nil) .nil) (.var 3)) [some (Xa a),some (Xa b)] S=.ok (.ref S.length) (S++[.lst ((lft a b).map D.int)]):=by
 have key:=Xcj (F:=F) (G:=G) (n:=2) (t:=.var 3) (it:=.val (.var 0)) (ifs:=.cons (.cmp .notin (.var 3) (.var 1)) .nil) (elt:=.var 3) (env:=[some (Xa a),some (Xa b)]) (S0:=S) (S:=S) (src:=.con (a.map D.int)) (a.map D.int) (fun d=>match d with | .int i=>!decide (i∈b)|_=>false) id
  (fun e=>∃x y,e=[some (Xa a),some (Xa b),x,y]) (Ys (by simp only[ev,gZ0];rfl)) rfl (fun i=>rfl) (by rw[Vj];exact Ye ha) ⟨none,none,rfl⟩
  (fun d hd e he=>by
   obtain⟨x,y,rfl⟩:=he;obtain⟨i,hi,rfl⟩:=Uh.mp hd;refine⟨[some (Xa a),some (Xa b),x,some (.int i)],rfl,⟨_,_,rfl⟩,?_,fun _=>by simp only[ev,gZ0,gS0,id]⟩
   simp only[evts,ev,gZ0,gS0,Rk0,Xj,X9,Xpa,Vy,Xf];cases decide (i∈b)<;>rfl)
 rw[key];have e:((a.map D.int).filter fun d=>match d with | .int i=>!decide (i∈b)|_=>false).map id=(lft a b).map D.int:=by
  unfold lft;rw[List.map_id,Vez];rfl
 rw[e]
theorem Xmi{a b:List Int}(ha:a.length<=1000)(S:Sto):den F G ⟨2,2,Xg6⟩ [Xa a,Xa b] S=.ok (Xa (lft a b)) (S++[.lst ((lft a b).map D.int)]):=by
 have h:pb F G Xg6 [some (Xa a),some (Xa b)] S=.ok (.rt (Xa (lft a b))) (S++[.lst ((lft a b).map D.int)]):=by
  unfold Xg6;refine Xk ?_;rw[exe,ev,evs,Xpc ha S];simp only[Rk0,evs,Xm,Xx,Xg];rfl
 simp only[den,Um,if_true,Ug,Vag,Vh,Vz];rw[h]
noncomputable def lie(a b:List Int):Bool:=a.all fun x=>decide (x∈b)
noncomputable def Xbf:Sts:=.cons (.ite (.cmp .notin (.var 2) (.var 1)) (.cons (.ret (.cst (.bl false))) .nil) .nil) .nil
noncomputable def Xg7:Sts:=.cons (.for (.var 2) (.val (.var 0)) Xbf) (.cons (.ret (.cst (.bl true))) .nil)
theorem Xj6(A:Option D)(b:List Int)(i:Int)(S:Sto):pb F G Xbf [A,some (Xa b),some (.int i)] S=if i∈b then .ok (.nx [A,some (Xa b),some (.int i)]) S else .ok (.rt (.bl false)) S:=by
 unfold Xbf;simp only[pb,exe,ev,gZ0,gS0,Rk0,Xj,X9,Xpa,Vy,Xf]
 by_cases h:i∈b
 ·simp only[h,decide_true,Ut,if_true]<;>rfl
 ·simp only[h,decide_false,Vce,if_false]<;>rfl
theorem Xj7(A:Option D)(a b:List Int)(S:Sto):∀(fuel i:Nat) (x:Option D),i<=a.length->a.length<fuel+i ->
  if lie (a.drop i) b=true then ∃x',Xu (Src.con (a.map D.int)).get (.var 2) (pb F G Xbf) fuel i [A,some (Xa b),x] S=.ok (.nx [A,some (Xa b),x']) S
  else Xu (Src.con (a.map D.int)).get (.var 2) (pb F G Xbf) fuel i [A,some (Xa b),x] S=.ok (.rt (.bl false)) S
 |0,i,x,h1,h2=>by omega
 |fuel+1,i,x,h1,h2=>by
  by_cases c:i<a.length
  ·have hg:(Src.con (a.map D.int)).get S i=some (some (.int a[i])):=by simp only[Src.get,Vx,Vq c,Vy]
   have hd:a.drop i=a[i]::a.drop (i+1):=Ve0 c;have ih:=Xj7 A a b S fuel (i+1) (some (.int a[i])) (by omega) (by omega)
   have hs:Xr (.var 2) (.int a[i]) [A,some (Xa b),x]=some [A,some (Xa b),some (.int a[i])]:=rfl;rw[hd];have el:lie (a[i]::a.drop (i+1)) b=(decide (a[i]∈b)&&lie (a.drop (i+1)) b):=rfl;rw[el]
   by_cases m:a[i]∈b
   ·simp only[m,decide_true,Bool.true_and]
    have e:Xu (Src.con (a.map D.int)).get (.var 2) (pb F G Xbf) (fuel+1) i [A,some (Xa b),x] S=Xu (Src.con (a.map D.int)).get (.var 2) (pb F G Xbf) fuel (i+1) [A,some (Xa b),some (.int a[i])] S:=by
     conv=>lhs;unfold Xu
     simp only[hg,hs,Xj6,m,if_true]
    rw[e];exact ih
   ·simp only[m,decide_false,Bool.false_and,V2,if_false]
    conv=>lhs;unfold Xu
    simp only[hg,hs,Xj6,m,if_false]
  ·have hi:i=a.length:=by omega
   have hg:(Src.con (a.map D.int)).get S i=some none:=by simp only[Src.get,Vx,Vam (Nat.not_lt.mp c),Vgc]
   have hd:a.drop i=[]:=List.drop_eq_nil_of_le (by omega)
   rw[hd,iP0 (show lie [] b=true from rfl)];exact⟨x,by unfold Xu;simp only[hg]⟩
theorem Xwu{a b:List Int}(S:Sto):den F G ⟨2,3,Xg7⟩ [Xa a,Xa b] S=.ok (.bl (lie a b)) S:=by
 have lp:=Xj7 (F:=F) (G:=G) (some (Xa a)) a b S (a.length+1) 0 none (Ul _) (by omega)
 have ex:exe F G (.for (.var 2) (.val (.var 0)) Xbf) [some (Xa a),some (Xa b),none] S=Xu (Src.con (a.map D.int)).get (.var 2) (pb F G Xbf) (a.length+1) 0 [some (Xa a),some (Xa b),none] S:=by
  rw[exe,Ys (xs:=a.map D.int) (S1:=S) (by simp only[ev,gZ0];rfl)]
  simp only[Rk0,Src.most,Vj]<;>rfl
 rw[Vgr]at lp;have run:pb F G Xg7 [some (Xa a),some (Xa b),none] S=.ok (.rt (.bl (lie a b))) S:=by
  unfold Xg7;cases h:lie a b with
  |true =>
   rw[h,iP0 rfl]at lp;obtain⟨x',e⟩:=lp;rw[Xd (ex.trans e)];exact Xk (by simp only[exe,ev,Rk0])
  |false =>
   rw[h,iN0 V7]at lp;exact Xk (ex.trans lp)
 simp only[den,Um,if_true,Ug];show(match pb F G Xg7 [some (Xa a),some (Xa b),none] S with | .ok (.rt v) S=>R.ok v S | .ok (.nx _) S=>.ok .non S | .ok _ _=>.bad | .ex n S=>.ex n S | .bad=>.bad)=_
 rw[run]
theorem X02(a b:List Int):lie a b=(lft a b).isEmpty:=by
 unfold lie lft
 induction a with
 |nil=>rfl
 |cons x a ih =>
  simp only[Vbq,Vdo,ih]
  by_cases h:x∈b
  ·simp[h]
  ·simp[h]
noncomputable def bLL:Sts:=.cons (.ret (.cmp .eq (.cmr false 2 (.cons (.var 3) (.val (.var 0)) (.cons (.cmp .notin (.var 3) (.var 1)) .nil) .nil) (.var 3)) (.lst .nil))) .nil
theorem Xti{a b:List Int}(ha:a.length<=1000)(S:Sto):den F G ⟨2,2,bLL⟩ [Xa a,Xa b] S=.ok (.bl (lie a b)) (S++[.lst ((lft a b).map D.int)]++[.lst []]):=by
 have h:pb F G bLL [some (Xa a),some (Xa b)] S=.ok (.rt (.bl (lie a b))) (S++[.lst ((lft a b).map D.int)]++[.lst []]):=by
  unfold bLL;refine Xk ?_;have e:=X5h (S:=S++[.lst ((lft a b).map D.int)]++[.lst []]) (a:=S.length) (b:=(S++[O.lst ((lft a b).map D.int)]).length) (xs:=(lft a b).map D.int) (Xn Xg) Xg;have n0:ev F G (.lst .nil) [some (Xa a),some (Xa b)] (S++[O.lst ((lft a b).map D.int)])=.ok (.ref (S++[O.lst ((lft a b).map D.int)]).length) (S++[.lst ((lft a b).map D.int)]++[.lst []]):=by
   simp only[ev,evs,Rk0];exact iP0 (show 0<=big by decide)
  rw[exe,ev,Xpc ha S,Rk0,n0,Rk0,e,Rk0,X02,List.isEmpty_map]
 simp only[den,Um,if_true,Ug,Vag,Vh,Vz];rw[h]
noncomputable def Xb(n:List (List Int)):D:=.tup (n.map Xa)
noncomputable def Xdi:D->List D
 |.tup xs=>xs
 |_=>[]
noncomputable def pts(n:List (List Int)):List Int:=Xal (ddI n.flatten)
theorem Xa3(l:List Int):Xl (l.map D.int)=some l:=Xcx l
theorem Xtj(l m:List Int):(ddI l).length<=(ddI (l++m)).length:=by
 unfold ddI;rw[Vd6];exact Xlp m _
theorem X5l{l:List Int}{i:Int}(h:(ddI l).length<60):Xcs (l.map D.int) (.int i) S=.ok (l.map D.int++[.int i]) S:=by
 simp only[Xcs,Xa3,h,if_true]
theorem Xyf(l:List D):(l.map fun d=>[d]).flatten=l:=by
 induction l with
 |nil=>rfl
 |cons x l ih=>simp[ih]
theorem X5m{A:Option D}{l row:List Int}(h:(ddI (l++row)).length<60) :
  X0 (Src.con (row.map D.int)).get (.var 3) (Xz (fun env S=>evts F G .nil env S) (fun env acc S=>(ev F G (.var 3) env S).bind fun y S=>Xcs acc y S)) (row.length+1) 0 [A,none,some (Xa row),none] (l.map D.int) S=.ok ((l++row).map D.int) S:=by
 obtain⟨e',_,a⟩:=Xfb (S:=S) (get:=(Src.con (row.map D.int)).get) (t:=.var 3) (body:=Xz (fun env S=>evts F G .nil env S) (fun env acc S=>(ev F G (.var 3) env S).bind fun y S=>Xcs acc y S)) (row.map D.int) (fun d=>[d]) (l.map D.int)
  (fun e=>∃x,e=[A,none,some (Xa row),x]) (fun i=>rfl) (fun i d e hd he=>by
   obtain⟨x,rfl⟩:=he;obtain⟨k,hk,rfl⟩:=Uh.mp (Ur hd);refine⟨[A,none,some (Xa row),some (.int k)],rfl,⟨_,rfl⟩,?_⟩;have hpre:(ddI (l++row.take i)).length<60:=by
    have:=Xtj (l++row.take i) (row.drop i);rw[Vo,Vc5]at this;omega
   have e:l.map D.int++(((row.map D.int).take i).map fun d=>[d]).flatten=(l++row.take i).map D.int:=by rw[Xyf,<- List.map_take,Val]
   rw[e];simp only[Xz,evts,Rk0,if_true,ev,gZ0,gS0,X5l hpre])
  (row.length+1) 0 [A,none,some (Xa row),none] ⟨none,rfl⟩ (Ul _) (by rw[Vj];omega)
 rw[List.take_zero,List.map_nil,List.flatten_nil,Vz,Xyf (row.map D.int),<- Val]at a;exact a
theorem Xtk{n:List (List Int)}(h:(ddI n.flatten).length<60)(S:Sto) :
  ev F G (.cms 3 (.cons (.var 2) (.val (.var 0)) .nil (.cons (.var 3) (.val (.var 2)) .nil .nil)) (.var 3)) [some (Xb n)] S=.ok (.ref S.length) (S++[.lst ((pts n).map D.int)]):=by
 have fl:∀m:List (List Int),((m.map Xa).map Xdi).flatten=m.flatten.map D.int:=fun m=>by
  induction m with
  |nil=>rfl
  |cons r m ih=>simp only[Vab,U0,ih,Val];rfl
 obtain⟨e',_,a⟩:=Xfb (S:=S) (get:=(Src.con (n.map Xa)).get) (t:=.var 2) (body:=Xz (fun env S=>evts F G .nil env S) (fun env acc S=>if Xc4 (.var 3) env then (evit F G (.val (.var 2)) env S).bind fun src2 S =>
   X0 (src2.get) (.var 3) (Xz (fun env S=>evts F G .nil env S) (fun env acc S=>(ev F G (.var 3) env S).bind fun y S=>Xcs acc y S)) (src2.most S+1) 0 env acc S else .bad)) (n.map Xa) Xdi []
  (fun e=>∃x,e=[some (Xb n),none,x,none]) (fun i=>rfl) (fun i d e hd he=>by
   obtain⟨x,rfl⟩:=he;have hi:i<n.length:=by
    have:=(Vi.mp hd).1
    rwa [Vj]at this
   have hd':d=Xa n[i]:=by
    rw[Vx,Vq hi]at hd;exact(Ue hd).symm
   subst hd';refine⟨[some (Xb n),none,some (Xa n[i]),none],rfl,⟨_,rfl⟩,?_⟩;have et:((n.map Xa).take i).map Xdi=((n.take i).map Xa).map Xdi:=by rw[List.map_take (f:=Xa)]
   have hpre:(ddI ((n.take i).flatten++n[i])).length<60:=by
    have:=Xtj ((n.take i).flatten++n[i]) (n.drop (i+1)).flatten;have e2:(n.take i).flatten++n[i]++(n.drop (i+1)).flatten=n.flatten:=by
     conv=>rhs;rw[<- Vc5 i n,Ve0 hi]
     rw[Vgo,U0,Vo]
    rw[e2]at this;omega
   rw[Vbi,et,fl];have hit:evit F G (.val (.var 2)) [some (Xb n),none,some (Xa n[i]),none] S=.ok (.con (n[i].map D.int)) S:=Ys (by simp only[ev,gZ0,gS0];rfl)
   have hno:Xc4 (.var 3) [some (Xb n),none,some (Xa n[i]),none]=true:=rfl;simp only[Xz,evts,Rk0,if_true,hno,hit,Src.most,Vj];have:=X5m (F:=F) (G:=G) (S:=S) (A:=some (Xb n)) hpre;rw[Val]at this;exact this) (n.length+1) 0 [some (Xb n),none,none,none] ⟨none,rfl⟩ (Ul _) (by rw[Vj];omega)
 rw[Vbi,fl]at a;have hit:evit F G (.val (.var 0)) [some (Xb n)] S=.ok (.con (n.map Xa)) S:=Ys (by simp only[ev,gZ0];rfl)
 have a':X0 (Src.con (n.map Xa)).get (.var 2) (Xz (fun env S=>evts F G .nil env S) (fun env acc S=>if Xc4 (.var 3) env then (evit F G (.val (.var 2)) env S).bind fun src2 S =>
   X0 (src2.get) (.var 3) (Xz (fun env S=>evts F G .nil env S) (fun env acc S=>(ev F G (.var 3) env S).bind fun y S=>Xcs acc y S)) (src2.most S+1) 0 env acc S else .bad)) (n.length+1) 0 ([some (Xb n)]++Vh 3 none) [] S=.ok (n.flatten.map D.int) S:=a
 rw[ev,hit];simp only[Rk0,Src.most,Vj];rw[a',Rk0];simp only[Xbt,Xa3,h,if_true];rfl
end
section
variable{F:Fn}{G:List D}
noncomputable def dPts:Df:=⟨1,1,.cons (.ret (.cms 3 (.cons (.var 2) (.val (.var 0)) .nil (.cons (.var 3) (.val (.var 2)) .nil .nil)) (.var 3))) .nil⟩
theorem X03{n:List (List Int)}(h:(ddI n.flatten).length<60)(S:Sto):den F G dPts [Xb n] S=.ok (.ref S.length) (S++[.lst ((pts n).map D.int)]):=by
 have r:pb F G dPts.body [some (Xb n)] S=.ok (.rt (.ref S.length)) (S++[.lst ((pts n).map D.int)]):=Xk (by rw[exe,Xtk h S];rfl)
 have e:den F G dPts [Xb n] S=match pb F G dPts.body [some (Xb n)] S with
  |.ok (.rt v) S=>.ok v S
  |.ok (.nx _) S=>.ok .non S
  |.ok _ _=>.bad
  |.ex n S=>.ex n S
  |.bad=>.bad:=rfl
 rw[e,r]
noncomputable def Xfc:Sts:=.cons (.expr (.mth .xtd (.var 1) (.cons (.var 2) .nil))) .nil
noncomputable def dLPts:Df:=⟨1,3,.cons (.asg (.var 1) (.lst .nil)) (.cons (.for (.var 2) (.val (.var 0)) Xfc) (.cons (.ret (.sst (.var 1))) .nil))⟩
theorem Xtl(S:Sto)(o o':O):(S++[o]).set S.length o'=S++[o']:=by
 rw[Vf8 _ _ (Vl _),Vag];rfl
theorem Xwv{A:Option D}{S:Sto}{l row:List Int}(h:l.length+row.length<=big):pb F G Xfc [A,some (.ref S.length),some (Xa row)] (S++[.lst (l.map D.int)])=.ok (.nx [A,some (.ref S.length),some (Xa row)]) (S++[.lst ((l++row).map D.int)]):=by
 have l1:lstM (S++[O.lst (l.map D.int)]) S.length=some (l.map D.int):=Xg;have rc:Xcm .xtd (.ref S.length) (S++[O.lst (l.map D.int)])=true:=by simp only[Xcm,Xg,Option.isSome]
 have m:Xab .xtd (.ref S.length) [Xa row] (S++[O.lst (l.map D.int)])=.ok .non (S++[.lst ((l++row).map D.int)]):=by
  simp only[Xab,Xa,l1,Vj,h,if_true];rw[Xtl,Val]
 unfold Xfc;refine Xd (e:=[A,some (.ref S.length),some (Xa row)]) (S1:=S++[.lst ((l++row).map D.int)]) ?_;simp only[exe,ev,evs,gZ0,gS0,Rk0,rc,if_true,m]
theorem Xww{n:List (List Int)}(h:(ddI n.flatten).length<60)(hl:n.flatten.length<=big)(S:Sto):den F G dLPts [Xb n] S=.ok (.ref (S.length+1)) (S++[.lst (n.flatten.map D.int)]++[.lst ((pts n).map D.int)]):=by
 have s1:exe F G (.asg (.var 1) (.lst .nil)) [some (Xb n),none,none] S=.ok (.nx [some (Xb n),some (.ref S.length),none]) (S++[.lst []]):=by
  rw[exe,ev];simp only[evs,Rk0];rw[iP0 (show([]:List D).length<=big by decide)]
  rfl
 obtain⟨e',S',a,rfl,x,rfl⟩:=Xcp (t:=.var 2) (get:=(Src.con (n.map Xa)).get) (body:=fun env S=>pb F G Xfc env S) (n.map Xa) (fun i e S'=>S'=S++[.lst ((n.take i).flatten.map D.int)]/\∃x,e=[some (Xb n),some (.ref S.length),x]) (fun i e S _=>rfl)
  (fun i d e S' hd he=>by
   obtain⟨rfl,x,rfl⟩:=he;have hi:i<n.length:=by
    have:=(Vi.mp hd).1
    rwa [Vj]at this
   have hd':d=Xa n[i]:=by
    rw[Vx,Vq hi]at hd;exact(Ue hd).symm
   subst hd';have ef:(n.take (i+1)).flatten=(n.take i).flatten++n[i]:=by
    rw[Vgz,Vq hi,Vgo];simp only[Option.toList,U0,List.flatten_nil,Vz]
   have e2:(n.take (i+1)).flatten++(n.drop (i+1)).flatten=n.flatten:=by rw[<- Vgo,Vc5]
   have hb:(n.take i).flatten.length+n[i].length<=big:=by
    have:=congrArg Um e2;rw[ef]at this;simp only[Uf]at this;omega
   refine⟨[some (Xb n),some (.ref S.length),some (Xa n[i])],_,_,rfl,Xwv hb,?_,_,rfl⟩;rw[ef])
  (n.length+1) 0 [some (Xb n),some (.ref S.length),none] (S++[.lst []]) ⟨rfl,none,rfl⟩ (Ul _) (by rw[Vj];omega)
 rw[Vj,Vc1]at a;have s2:exe F G (.for (.var 2) (.val (.var 0)) Xfc) [some (Xb n),some (.ref S.length),none] (S++[.lst []])=.ok (.nx [some (Xb n),some (.ref S.length),x]) (S++[.lst (n.flatten.map D.int)]):=by
  rw[exe,Ys (xs:=n.map Xa) (S1:=S++[.lst []]) (by simp only[ev,gZ0];rfl)]
  simp only[Rk0,Src.most,Vj];exact a
 have s3:exe F G (.ret (.sst (.var 1))) [some (Xb n),some (.ref S.length),x] (S++[.lst (n.flatten.map D.int)])=.ok (.rt (.ref (S.length+1))) (S++[.lst (n.flatten.map D.int)]++[.lst ((pts n).map D.int)]):=by
  rw[exe,ev];simp only[ev,gZ0,gS0,Rk0,Xg,Xbt,Xa3,h,if_true,Uf,Vcd];rfl
 have e:den F G dLPts [Xb n] S=match pb F G dLPts.body [some (Xb n),none,none] S with
  |.ok (.rt v) S=>.ok v S
  |.ok (.nx _) S=>.ok .non S
  |.ok _ _=>.bad
  |.ex n S=>.ex n S
  |.bad=>.bad:=rfl
 rw[e];show(match pb F G (.cons (.asg (.var 1) (.lst .nil)) (.cons (.for (.var 2) (.val (.var 0)) Xfc) (.cons (.ret (.sst (.var 1))) .nil))) [some (Xb n),none,none] S with | .ok (.rt v) S=>R.ok v S | .ok (.nx _) S=>.ok .non S | .ok _ _=>.bad | .ex n S=>.ex n S | .bad=>.bad)=_
 rw[Xd s1,Xd s2,Xk s3]
end
theorem Xgi:∀(l m:List Int),l.Nodup->(∀x∈l,x∈m)->l.length<=m.length
 |[],m,_,_=>Ul _
 |x::l,m,hn,hs=>by
  obtain⟨h1,h2⟩:=Vcl.mp hn;have hx:=hs x Uo;have ih:=Xgi l (m.erase x) h2 fun y hy=>(List.mem_erase_of_ne (fun(z:y=x)=>h1 (by rw[<- z];exact hy))).mpr (hs y (Ua _ hy))
  rw[List.length_erase_of_mem hx]at ih;have:0<m.length:=List.length_pos_of_mem hx;rw[Uc];omega
noncomputable def sixt:List Int:=[0,1,2,3,4,5,6,7,8,9,10,11,12,13,14,15]
noncomputable def fre(ps:List Int):List Int:=sixt.filter fun i=>!decide (i∈ps)
theorem Xmj{ps:List Int}(h:ps.length<16):∃f r,fre ps=f::r/\0<=f/\f<=15/\f ∉ ps:=by
 cases e:fre ps with
 |nil =>
  have:∀x∈sixt,x∈ps:=fun x hx=>by
   have z:=List.filter_eq_nil_iff.mp e x hx
   simpa using z
  have:=Xgi sixt ps (by decide) this
  have:sixt.length=16:=rfl;omega
 |cons f r =>
  have hf:f∈fre ps:=by rw[e];exact Uo
  obtain⟨h1,h2⟩:=Vcj.mp hf;have b:∀x∈sixt,0<=x/\x<=15:=by decide
  exact⟨f,r,rfl,(b f h1).1,(b f h1).2,by simpa using h2⟩
section
variable{F:Fn}{G:List D}{S:Sto}
noncomputable def Xfd:Sts:=.cons (.ite (.cmp .notin (.var 2) (.var 1)) (.cons (.ret (.tup (.cons (.var 2) .nil))) .nil) .nil) .nil
theorem Xmk{q:Nat}{ps:List Int}(A:Option D)(hq:Xc S q=some (ps.map D.int))(i:Int):pb F G Xfd [A,some (.ref q),some (.int i)] S=if i∈ps then .ok (.nx [A,some (.ref q),some (.int i)]) S else .ok (.rt (.tup [.int i])) S:=by
 unfold Xfd;have hb:([D.int i]:List D).length<=big:=by show 1<=big;decide
 simp only[pb,exe,ev,evs,gZ0,gS0,Rk0,Xj,X9,Xpb i ps hq,Vy,Xf]
 by_cases h:i∈ps
 ·simp only[h,decide_true,Ut,if_true]<;>rfl
 ·simp only[h,decide_false,Vce,if_false,hb,if_true,Rk0]<;>rfl
theorem Xml{q:Nat}{ps:List Int}(A:Option D)(hq:Xc S q=some (ps.map D.int))(xs:List Int):∀(fuel i:Nat) (x:Option D),i<=xs.length->xs.length<fuel+i->∀f r,((xs.drop i).filter fun i=>!decide (i∈ps))=f::r ->
  Xu (Src.con (xs.map D.int)).get (.var 2) (pb F G Xfd) fuel i [A,some (.ref q),x] S=.ok (.rt (.tup [.int f])) S
 |0,i,x,h1,h2,f,r,e=>by omega
 |fuel+1,i,x,h1,h2,f,r,e=>by
  by_cases c:i<xs.length
  ·have hg:(Src.con (xs.map D.int)).get S i=some (some (.int xs[i])):=by simp only[Src.get,Vx,Vq c,Vy]
   rw[Ve0 c,Vdo]at e;have hs:Xr (.var 2) (.int xs[i]) [A,some (.ref q),x]=some [A,some (.ref q),some (.int xs[i])]:=rfl
   by_cases m:xs[i]∈ps
   ·simp only[m,decide_true,Ut,V2,if_false]at e
    have ih:=Xml A hq xs fuel (i+1) (some (.int xs[i])) (by omega) (by omega) f r e
    conv=>lhs;unfold Xu
    simp only[hg,hs,Xmk A hq,m,if_true];exact ih
   ·simp only[m,decide_false,Vce,if_true,List.cons.injEq]at e
    conv=>lhs;unfold Xu
    simp only[hg,hs,Xmk A hq,m,if_false];rw[e.1]
  ·rw[List.drop_eq_nil_of_le (by omega)]at e
   cases e
noncomputable def Xks(ip:Nat):Df:=⟨1,3,.cons (.asg (.var 1) (.call ip (.cons (.var 0) .nil))) (.cons (.for (.var 2) (.rng (.cons (.bin .add (.glb 0) (.cst (.int 1))) .nil)) Xfd) (.cons (.ret (.cst .non)) .nil))⟩
theorem Xwx{ip:Nat}{n:List (List Int)}{f:Int}{r:List Int}(hG:G[0]?=some (.int 15))(hp:F ip [Xb n] S=.ok (.ref S.length) (S++[.lst ((pts n).map D.int)]))(hf:fre (pts n)=f::r) :
  den F G (Xks ip) [Xb n] S=.ok (.tup [.int f]) (S++[.lst ((pts n).map D.int)]):=by
 have s1:exe F G (.asg (.var 1) (.call ip (.cons (.var 0) .nil))) [some (Xb n),none,none] S=.ok (.nx [some (Xb n),some (.ref S.length),none]) (S++[.lst ((pts n).map D.int)]):=by
  rw[exe,ev];simp only[evs,ev,gZ0,Rk0,hp];rfl
 have s2:exe F G (.for (.var 2) (.rng (.cons (.bin .add (.glb 0) (.cst (.int 1))) .nil)) Xfd) [some (Xb n),some (.ref S.length),none] (S++[.lst ((pts n).map D.int)])=.ok (.rt (.tup [.int f])) (S++[.lst ((pts n).map D.int)]):=by
  have hr:Yd [.int ((15:Int)+1)]=some (sixt.map D.int):=by rfl
  rw[exe,Xs9 (ds:=[.int ((15:Int)+1)]) (xs:=sixt.map D.int) (S1:=S++[.lst ((pts n).map D.int)]) (by simp only[evs,ev,hG,Rk0,Y8]) hr]
  simp only[Rk0,Src.most,Vj];exact Xml (some (Xb n)) Xg sixt (sixt.length+1) 0 none (Ul _) (by omega) f r hf
 have e:den F G (Xks ip) [Xb n] S=match pb F G (Xks ip).body [some (Xb n),none,none] S with
  |.ok (.rt v) S=>.ok v S
  |.ok (.nx _) S=>.ok .non S
  |.ok _ _=>.bad
  |.ex n S=>.ex n S
  |.bad=>.bad:=rfl
 rw[e];show(match pb F G (.cons (.asg (.var 1) (.call ip (.cons (.var 0) .nil))) (.cons (.for (.var 2) (.rng (.cons (.bin .add (.glb 0) (.cst (.int 1))) .nil)) Xfd) (.cons (.ret (.cst .non)) .nil))) [some (Xb n),none,none] S with | .ok (.rt v) S=>R.ok v S | .ok (.nx _) S=>.ok .non S | .ok _ _=>.bad | .ex n S=>.ex n S | .bad=>.bad)=_
 rw[Xd s1,Xk s2]
noncomputable def riz(h:List Int):Bool:=(V0 (h.length-1)).all fun i=>decide (h.getD i 0<h.getD (i+1) 0)
theorem X5n{h:List Int}(p:h.Pairwise (· < ·)):riz h=true:=by
 unfold riz;rw[Ux];intro i hi;have hi:=Vb2.mp hi;have q:=Vhl.mp p i (i+1) (by omega) (by omega) (by omega)
 have e1:h.getD i 0=h[i]:=by simp[Vb0,Vq (show i<h.length by omega)]
 have e2:h.getD (i+1) 0=h[i+1]:=by simp[Vb0,Vq (show i+1<h.length by omega)]
 rw[e1,e2];exact decide_eq_true q
noncomputable def Xkt:Ex:=.cmr false 3 (.cons (.tup [2,3]) (.zpp (.cons (.var 0) (.cons (.sli (.var 0) (.some (.cst (.int 1))) .none) .nil))) .nil .nil) (.cmp .lt (.var 2) (.var 3))
noncomputable def Xmm(h:List Int):List Bool:=(V0 (h.length-1)).map fun i=>decide (h.getD i 0<h.getD (i+1) 0)
theorem X04{h:List Int}(hl:h.length<=1000)(S:Sto):ev F G Xkt [some (Xa h)] S=.ok (.ref S.length) (S++[.lst ((Xmm h).map D.bl)]):=by
 have h1:Xa6 (Xa h) (some 1) none S=.ok (Xa (h.drop 1)) S:=Xj5 h 1 S;have hit:evit F G (.zpp (.cons (.var 0) (.cons (.sli (.var 0) (.some (.cst (.int 1))) .none) .nil))) [some (Xa h)] S=.ok (.zpp (.con (h.map D.int)) (.con ((h.drop 1).map D.int))) S:=by
  simp only[evit,evs,ev,evo,gZ0,gS0,Rk0,Xdv,h1];rfl
 obtain⟨e',S',h2,rfl,_⟩:=Xdd (F:=F) (G:=G) (t:=.tup [2,3]) (n:=3) (elt:=.cmp .lt (.var 2) (.var 3)) ((V0 (h.length-1)).map (gpr h)) (fun i=>.bl (decide (h.getD i 0<h.getD (i+1) 0)))
  (fun i e S'=>S'=S/\∃x y,e=[some (Xa h),none,x,y]) hit (by simp[Src.most]) (Ye (by simp;omega)) ⟨rfl,none,none,rfl⟩
  (fun i e S' hP=>by obtain⟨rfl,_⟩:=hP;exact X5j h i S')
  (fun i d e S' hd hP=>by
   obtain⟨rfl,x,y,rfl⟩:=hP;have hi:i<h.length-1:=by have:=(Vi.mp hd).1;simpa using this
   simp only[Vx,Vgm hi,Vy,Vr]at hd;subst hd;exact⟨[some (Xa h),none,some (.int (h.getD i 0)),some (.int (h.getD (i+1) 0))],_,rfl,by simp only[ev,gZ0,gS0,Rk0,Xj,X9,ltD],rfl,_,_,rfl⟩)
 unfold Xkt Xmm;rw[h2];simp[Function.comp_def]
noncomputable def Xku:Df:=⟨1,1,.cons (.ret (.blt .all (.cons Xkt .nil))) .nil⟩
theorem Xwy{h:List Int}(hl:h.length<=1000)(S:Sto):den F G Xku [Xa h] S=.ok (.bl (riz h)) (S++[.lst ((Xmm h).map D.bl)]):=by
 refine Yk (env:=[some (Xa h)]) rfl rfl ?_;refine Xk ?_;rw[exe,ev,evs,X04 hl S];simp only[Rk0,evs,Xa2];have e:(Xmm h).all id=riz h:=by simp[Xmm,riz,List.all_map,Function.comp_def]
 rw[e]
theorem Xis{l:List Bool}:Xm .anb [.ref S.length] (S++[.lst (l.map D.bl)])=.ok (.bl (l.any id)) (S++[.lst (l.map D.bl)]):=by
 simp only[Xm,Xg,Vs,Xd8]
noncomputable def Xbq(d:D):List Int:=(Xl (Xdi d)).getD []
theorem ints_of(l:List Int):Xbq (Xa l)=l:=by
 have:Xdi (Xa l)=l.map D.int:=rfl;unfold Xbq;rw[this,Xa3];rfl
structure Fac(f:List Int):Prop where
 few:f.length<=6
 low:∀x∈f,0<=x/\x<=15
 ris:f.Pairwise (· < ·)
noncomputable def Xqw(iw:Nat):Ex:=.cmr false 2 (.cons (.var 2) (.val (.var 0)) .nil .nil) (.call iw (.cons (.var 2) (.cons (.cst (.int 0)) (.cons (.glb 0) .nil))))
theorem X5o{iw:Nat}{f:List Int}(hG:G[0]?=some (.int 15))(hw:∀(i:Int) (S:Sto),F iw [.int i,.int 0,.int 15] S=.ok (.bl (decide (0<=i)&&decide (i<=15))) S)(hl:f.length<=1000)(S:Sto) :
  ev F G (Xqw iw) [some (Xa f)] S=.ok (.ref S.length) (S++[.lst ((f.map fun i=>decide (0<=i)&&decide (i<=15)).map D.bl)]):=by
 have key:=Xcj (F:=F) (G:=G) (n:=2) (t:=.var 2) (it:=.val (.var 0)) (ifs:=.nil) (elt:=.call iw (.cons (.var 2) (.cons (.cst (.int 0)) (.cons (.glb 0) .nil)))) (env:=[some (Xa f)]) (S0:=S) (S:=S) (src:=.con (f.map D.int)) (f.map D.int) (fun _=>true) (fun d=>match d with | .int i=>.bl (decide (0<=i)&&decide (i<=15))|_=>.non)
  (fun e=>∃x y,e=[some (Xa f),x,y]) (Ys (by simp only[ev,gZ0];rfl)) rfl (fun i=>rfl) (by rw[Vj];exact Ye hl) ⟨none,none,rfl⟩
  (fun d hd e he=>by
   obtain⟨x,y,rfl⟩:=he;obtain⟨i,hi,rfl⟩:=Uh.mp hd;refine⟨[some (Xa f),x,some (.int i)],rfl,⟨_,_,rfl⟩,rfl,fun _=>?_⟩
   simp only[ev,evs,gZ0,gS0,Rk0,hG,hw])
 unfold Xqw;rw[key];have e:((f.map D.int).filter fun _=>true)=f.map D.int:=Vev.mpr fun _ _=>rfl
 rw[e,Vbr,Vbr];rfl
noncomputable def X5p(iw ir:Nat):Df:=⟨1,1,.cons (.ite (.or (.not (.isi (.var 0) [.tuple])) (.cmp .gt (.blt .len (.cons (.var 0) .nil)) (.glb 1))) (.cons (.ret (.cst (.bl false))) .nil) .nil) (.cons (.ret (.and (.blt .all (.cons (Xqw iw) .nil)) (.call ir (.cons (.var 0) .nil)))) .nil)⟩
theorem X05{iw ir:Nat}{f:List Int}(h:Fac f)(hG:G[0]?=some (.int 15))(hG1:G[1]?=some (.int 6))(hw:∀(i:Int) (S:Sto),F iw [.int i,.int 0,.int 15] S=.ok (.bl (decide (0<=i)&&decide (i<=15))) S)(hr:∀S,∃X,F ir [Xa f] S=.ok (.bl (riz f)) (S++X))(S:Sto) :
  ∃X,den F G (X5p iw ir) [Xa f] S=.ok (.bl true) (S++X):=by
 have hl:=h.few;obtain⟨X,hX⟩:=hr (S++[.lst ((f.map fun i=>decide (0<=i)&&decide (i<=15)).map D.bl)])
 refine⟨[.lst ((f.map fun i=>decide (0<=i)&&decide (i<=15)).map D.bl)]++X,Yk (env:=[some (Xa f)]) rfl rfl ?_⟩
 have s1:exe F G (.ite (.or (.not (.isi (.var 0) [.tuple])) (.cmp .gt (.blt .len (.cons (.var 0) .nil)) (.glb 1))) (.cons (.ret (.cst (.bl false))) .nil) .nil) [some (Xa f)] S=.ok (.nx [some (Xa f)]) S:=by
  have k:kdD S (Xa f)=some .tuple:=rfl;have t:Yc .tuple [.tuple]=some true:=rfl;have n:¬ ((6:Int)<(f.length:Int)):=by omega
  simp only[exe,ev,evs,gZ0,Rk0,k,Vs,t,Xf,Ut,Xd7,hG1,Xj,X9,n,decide_false,pb]
 have s2:(f.map fun i=>decide (0<=i)&&decide (i<=15)).all id=true:=by
  rw[List.all_map,Ux];intro x hx;have:=h.low x hx;simp[this.1,this.2]
 show pb F G (.cons (.ite (.or (.not (.isi (.var 0) [.tuple])) (.cmp .gt (.blt .len (.cons (.var 0) .nil)) (.glb 1))) (.cons (.ret (.cst (.bl false))) .nil) .nil) (.cons (.ret (.and (.blt .all (.cons (Xqw iw) .nil)) (.call ir (.cons (.var 0) .nil)))) .nil)) [some (Xa f)] S=_;rw[Xd s1];refine Xk ?_;rw[exe];simp only[ev,evs,X5o hG hw (show f.length<=1000 by omega) S,Rk0,Xa2,s2,Xf,gZ0,hX,X5n h.ris,Vo]
noncomputable def Xwz(il:Nat):Ex:=.cmr false 2 (.cons (.var 3) (.val (.var 0)) .nil .nil) (.call il (.cons (.var 1) (.cons (.var 3) .nil)))
theorem X5q{il:Nat}{n:List (List Int)}{f:List Int}(hi:∀(a b:List Int) (S:Sto),F il [Xa a,Xa b] S=.ok (.bl (lie a b)) S)(hl:n.length<=1000)(S:Sto) :
  ev F G (Xwz il) [some (Xb n),some (Xa f)] S=.ok (.ref S.length) (S++[.lst ((n.map fun s=>lie f s).map D.bl)]):=by
 have key:=Xcj (F:=F) (G:=G) (n:=2) (t:=.var 3) (it:=.val (.var 0)) (ifs:=.nil) (elt:=.call il (.cons (.var 1) (.cons (.var 3) .nil))) (env:=[some (Xb n),some (Xa f)]) (S0:=S) (S:=S) (src:=.con (n.map Xa)) (n.map Xa) (fun _=>true) (fun d=>.bl (lie f (Xbq d)))
  (fun e=>∃x y,e=[some (Xb n),some (Xa f),x,y]) (Ys (by simp only[ev,gZ0];rfl)) rfl (fun i=>rfl) (by rw[Vj];exact Ye hl) ⟨none,none,rfl⟩
  (fun d hd e he=>by
   obtain⟨x,y,rfl⟩:=he;obtain⟨s,hs,rfl⟩:=Uh.mp hd;refine⟨[some (Xb n),some (Xa f),x,some (Xa s)],rfl,⟨_,_,rfl⟩,rfl,fun _=>?_⟩
   simp only[ev,evs,gZ0,gS0,Rk0,hi,ints_of])
 unfold Xwz;rw[key];have e:((n.map Xa).filter fun _=>true)=n.map Xa:=Vev.mpr fun _ _=>rfl
 rw[e,Vbr,Vbr];have e2:((fun d=>D.bl (lie f (Xbq d)))∘Xa)=(D.bl∘fun s=>lie f s):=by
  funext s
  simp only[Function.comp,ints_of]
 rw[e2]
noncomputable def X5r(ia il:Nat):Df:=⟨2,2,.cons (.ret (.and (.call ia (.cons (.var 1) .nil)) (.blt .anb (.cons (Xwz il) .nil)))) .nil⟩
theorem X06{ia il:Nat}{n:List (List Int)}{f:List Int}(ha:∀S,∃X,F ia [Xa f] S=.ok (.bl true) (S++X))(hi:∀(a b:List Int) (S:Sto),F il [Xa a,Xa b] S=.ok (.bl (lie a b)) S)(hl:n.length<=1000)(S:Sto) :
  ∃X,den F G (X5r ia il) [Xb n,Xa f] S=.ok (.bl (n.any fun s=>lie f s)) (S++X):=by
 obtain⟨X,hX⟩:=ha S;refine⟨X++[.lst ((n.map fun s=>lie f s).map D.bl)],Yk (env:=[some (Xb n),some (Xa f)]) rfl rfl ?_⟩
 refine Xk ?_;rw[exe];have e:(n.map fun s=>lie f s).any id=n.any fun s=>lie f s:=by rw[List.any_map];rfl
 simp only[ev,evs,gZ0,gS0,Rk0,hX,Xf,X5q hi hl,Xis,e,Vo]
noncomputable def Xao(l:List Int):Vbj:=.tuple (l.map Va6)
theorem X5s(look:Nat->Option Vbj):∀n:List (List Int),datFs look (n.map Xa)=some (n.map Xao)
 |[]=>by simp only[Ug,datFs]
 |x::n=>by
  have e:Xw look (Xa x)=some (Xao x):=by simp only[Xa,Xw,Xin,Vy,Xao]
  simp only[Vab,datFs,e,X5s look n]
theorem X5t:∀n:List (List Int),Vbu (n.map Xao)=true
 |[]=>by simp only[Ug,Vbu]
 |x::n=>by simp only[Ug,Vbu,Xao,Vcf,Xio,Bool.true_and];exact X5t n
theorem Xpd(f:List Int):∀n:List (List Int),((n.map Xao).any fun q=>Vav q (Xao f))=decide (f∈n)
 |[]=>rfl
 |x::n=>by
  have e:Vav (Xao x) (Xao f)=decide (x=f):=by simp only[Xao,Vav,Xew]
  simp only[Vab,List.any_cons,Xpd f n,e]
  by_cases h:x=f
  ·subst h;simp
  ·have:¬ f=x:=fun z=>h z.symm
   simp[h,this]
theorem X07(f:List Int)(n:List (List Int))(S:Sto):inD S (Xa f) (Xb n)=some (decide (f∈n)):=by
 have h1:X8 S (Xb n)=some (.tuple (n.map Xao)):=by simp only[X8,Xb,Xw,X5s,Vy]
 have h2:X8 S (Xa f)=some (Xao f):=by simp only[X8,Xa,Xw,Xin,Vy,Xao]
 have h3:(Xao f).canLay0=true:=by simp only[Xao,Vcf,Xio]
 have h4:(Xao f).depth<=60:=by simp only[Xao,Vau,Xwt];omega
 unfold inD;rw[h1,h2];dsimp only;rw[h3,decide_eq_true h4,X5t,Xpd];rfl
noncomputable def Xkv(i21:Nat)(Yt:Sts):Sts:=.cons (.ite (.cmp .eq (.var 1) (.tup .nil)) (.cons (.ret (.cst .non)) .nil) .nil) (.cons (.ite (.cmp .isin (.var 1) (.var 0)) (.cons (.ret (.call i21 (.cons (.var 0) .nil))) .nil) .nil) Yt)
theorem Xw0{i21:Nat}{Yt:Sts}{n:List (List Int)}{f:List Int}{d:D}{S1:Sto}(h0:f≠[])(hf:f∈n)(hp:F i21 [Xb n] S=.ok d S1):den F G ⟨2,5,Xkv i21 Yt⟩ [Xb n,Xa f] S=.ok d S1:=by
 refine Yk (env:=[some (Xb n),some (Xa f),none,none,none]) rfl rfl ?_;have hb:([]:List D).length<=big:=by show 0<=big;decide
 have s1:exe F G (.ite (.cmp .eq (.var 1) (.tup .nil)) (.cons (.ret (.cst .non)) .nil) .nil) [some (Xb n),some (Xa f),none,none,none] S=.ok (.nx [some (Xb n),some (Xa f),none,none,none]) S:=by
  have e:Xj .eq (Xa f) (.tup []) S=.ok (.bl (decide (f=[]))) S:=Xip f [] S;simp only[exe,ev,evs,gZ0,gS0,Rk0,hb,if_true,e,h0,decide_false,Xf,pb]
 have s2:exe F G (.ite (.cmp .isin (.var 1) (.var 0)) (.cons (.ret (.call i21 (.cons (.var 0) .nil))) .nil) .nil) [some (Xb n),some (Xa f),none,none,none] S=.ok (.rt d) S1:=by
  simp only[exe,ev,evs,gZ0,gS0,Rk0,Xj,X9,X07,hf,decide_true,Xf,pb,hp]
 show pb F G (Xkv i21 Yt) _ S=_;unfold Xkv;rw[Xd s1];exact Xk s2
noncomputable def X5u(i6 i10 i20:Nat):Df:=⟨2,4,.cons (.ite (.or (.not (.isi (.var 1) [.tuple])) (.cmp .ne (.blt .len (.cons (.var 1) .nil)) (.cst (.int 2)))) (.cons (.ret (.cst (.bl false))) .nil) .nil)
 (.cons (.asg (.tup [2,3]) (.var 1)) (.cons (.ret (.and (.call i6 (.cons (.var 3) .nil)) (.and (.call i10 (.cons (.var 0) (.cons (.var 2) .nil))) (.cmp .eq (.call i20 (.cons (.var 0) (.cons (.var 2) .nil))) (.var 3))))) .nil))⟩
theorem X08{i6 i10 i20:Nat}{n:List (List Int)}{f g:List Int}(h6:∀S,∃X,F i6 [Xa g] S=.ok (.bl true) (S++X))(h10:∀S,∃X,F i10 [Xb n,Xa f] S=.ok (.bl true) (S++X))(h20:∀S,∃X,F i20 [Xb n,Xa f] S=.ok (Xa g) (S++X))(S:Sto) :
  ∃X,den F G (X5u i6 i10 i20) [Xb n,.tup [Xa f,Xa g]] S=.ok (.bl true) (S++X):=by
 obtain⟨X1,e1⟩:=h6 S;obtain⟨X2,e2⟩:=h10 (S++X1);obtain⟨X3,e3⟩:=h20 (S++X1++X2);refine⟨X1++X2++X3,Yk (env:=[some (Xb n),some (.tup [Xa f,Xa g]),none,none]) rfl rfl ?_⟩;have s1:exe F G (.ite (.or (.not (.isi (.var 1) [.tuple])) (.cmp .ne (.blt .len (.cons (.var 1) .nil)) (.cst (.int 2)))) (.cons (.ret (.cst (.bl false))) .nil) .nil) [some (Xb n),some (.tup [Xa f,Xa g]),none,none] S=.ok (.nx [some (Xb n),some (.tup [Xa f,Xa g]),none,none]) S:=by
  have k:kdD S (.tup [Xa f,Xa g])=some .tuple:=rfl;have t:Yc .tuple [.tuple]=some true:=rfl;have l:Xm .len [.tup [Xa f,Xa g]] S=.ok (.int 2) S:=rfl;have q:Xj .ne (.int 2) (.int 2) S=.ok (.bl false) S:=rfl;simp only[exe,ev,evs,gZ0,gS0,Rk0,k,Vs,t,Xf,Ut,l,q,pb]
 have s2:exe F G (.asg (.tup [2,3]) (.var 1)) [some (Xb n),some (.tup [Xa f,Xa g]),none,none] S=.ok (.nx [some (Xb n),some (.tup [Xa f,Xa g]),some (Xa f),some (Xa g)]) S:=rfl;show pb F G (.cons _ (.cons (.asg (.tup [2,3]) (.var 1)) _)) _ S=_;rw[Xd s1,Xd s2];refine Xk ?_;rw[exe];simp only[ev,evs,gZ0,gS0,Rk0,e1,e2,e3,Xf,Xip,decide_true];simp only[Vo]
theorem Xmn{L:Nat}{env:En}{e elt:Ex}{xs:List D}(y:D->D)(he:env.length=L)(hc:ev F G e env S=.ok (.tup xs) S)(hm:xs.length<=1000)(ht:∀d∈xs,∀X,∃X',ev F G elt (env++[none,some d]) (S++X)=.ok (y d) (S++X')) :
  ∃X,ev F G (.cmr false 2 (.cons (.var (L+1)) (.val e) .nil .nil) elt) env S=.ok (.ref (S++X).length) (S++X++[.lst (xs.map y)]):=by
 obtain⟨e',S',h2,⟨X,rfl⟩,_⟩:=Xdd (F:=F) (G:=G) (t:=.var (L+1)) (n:=2) (elt:=elt) (env:=env) (S:=S) (S1:=S) (src:=.con xs) xs (fun i=>y (xs.getD i .non))
  (fun k e S'=>(∃X,S'=S++X)/\∃x,e=env++[none,x]) (Ys hc) rfl (Ye (by omega)) ⟨⟨[],by simp⟩,none,rfl⟩ (fun _ _ _ _=>rfl)
  (fun k dd ee S' hd hP=>by
   obtain⟨⟨X,rfl⟩,x,rfl⟩:=hP;obtain⟨X',q⟩:=ht dd (Ur hd) X;have e:xs.getD k .non=dd:=by simp[Vb0,hd]
   exact⟨env++[none,some dd],_,Xdg he x _,by rw[e];exact q,⟨X',rfl⟩,_,rfl⟩)
 have e2:(V0 xs.length).map (fun i=>y (xs.getD i .non))=xs.map y:=by
  refine List.ext_getElem (by simp) fun i h1 h2=>?_
  have:i<xs.length:=by simpa using h1
  simp[Vb0,Vq this]
 rw[e2]at h2;exact⟨X,h2⟩
noncomputable def Xcq(io L il:Nat):Ex:=.cmr false 2 (.cons (.var (L+1)) (.val (.var 0)) (.cons (.not (.call il (.cons (.var io) (.cons (.var (L+1)) .nil)))) .nil) .nil) (.var (L+1))
noncomputable def kpt(n:List (List Int))(o:List Int):List (List Int):=n.filter fun s=>!lie o s
theorem X09{io L il:Nat}{n:List (List Int)}{o:List Int}{env:En}(he:env.length=L)(h0:env[0]?=some (some (Xb n)))(h1:env[io]?=some (some (Xa o)))(hi:∀(a b:List Int) (S:Sto),F il [Xa a,Xa b] S=.ok (.bl (lie a b)) S)(hl:n.length<=1000)(S:Sto) :
  ev F G (Xcq io L il) env S=.ok (.ref S.length) (S++[.lst ((kpt n o).map Xa)]):=by
 have key:=Xcj (F:=F) (G:=G) (n:=2) (t:=.var (L+1)) (it:=.val (.var 0)) (ifs:=.cons (.not (.call il (.cons (.var io) (.cons (.var (L+1)) .nil)))) .nil) (elt:=.var (L+1)) (env:=env) (S0:=S) (S:=S) (src:=.con (n.map Xa)) (n.map Xa) (fun d=>!lie o (Xbq d)) id
  (fun e=>∃x,e=env++[none,x]) (Ys (by simp only[ev,h0];rfl)) rfl (fun i=>rfl) (by rw[Vj];exact Ye hl) ⟨none,rfl⟩
  (fun d hd e he'=>by
   obtain⟨x,rfl⟩:=he';obtain⟨s,hs,rfl⟩:=Uh.mp hd;have g1:(env++[none,some (Xa s)])[io]?=some (some (Xa o)):=Xdh h1;have g2:(env++[none,some (Xa s)])[L+1]?=some (some (Xa s)):=Xe9 he _;refine⟨env++[none,some (Xa s)],Xdg he x _,⟨_,rfl⟩,?_,fun _=>by simp only[ev,g2,id]⟩
   simp only[evts,ev,evs,g1,g2,Rk0,hi,Xf,ints_of];cases lie o s<;>rfl)
 unfold Xcq;rw[key];have e:((n.map Xa).filter fun d=>!lie o (Xbq d)).map id=(kpt n o).map Xa:=by
  unfold kpt;rw[List.map_id,Vez];congr 1;refine Vhj fun s _=>?_
  simp only[Function.comp,ints_of]
 rw[e]
noncomputable def Xqx(io ii L ill:Nat):Ex:=.blt .tuple (.cons (.blt .sorted (.cons (.bin .add (.var ii) (.call ill (.cons (.var io) (.cons (.tup (.cons (.var (L+1)) .nil)) .nil)))) .nil)) .nil)
noncomputable def Xg8(io ii L ill:Nat):Ex:=.cmr false 2 (.cons (.var (L+1)) (.val (.var io)) .nil .nil) (Xqx io ii L ill)
noncomputable def Xcy(o g:List Int)(p:Int):List Int:=Xal (g++lft o [p])
noncomputable def com(o g:List Int):List (List Int):=o.map (Xcy o g)
theorem X1a(a b:List Int):(lft a b).length<=a.length:=Vf9 _ _
theorem X1b{l:List Int}(h:l.length<64)(S:Sto):Xm .sorted [Xa l] S=.ok (.ref S.length) (S++[.lst ((Xal l).map D.int)]):=by
 have e:(Xx S (Xa l)).bind Xl=some l:=by simp only[Xa,Xx,Vs,Xa3]
 have q:X2t (Xa l)=true:=rfl;simp only[Xm,e,q,Bool.true_and,decide_eq_true h,if_true]
theorem Xpe{io ii L ill:Nat}{o g:List Int}{env:En}(he:env.length=L)(h1:env[io]?=some (some (Xa o)))(h2:env[ii]?=some (some (Xa g)))(ho:o.length<=6)(hg:g.length<=6)
  (hi:∀(a b:List Int) (S:Sto),a.length<=6->F ill [Xa a,Xa b] S=.ok (Xa (lft a b)) (S++[.lst ((lft a b).map D.int)])) (S:Sto) :
  ∃X,ev F G (Xg8 io ii L ill) env S=.ok (.ref (S++X).length) (S++X++[.lst ((com o g).map Xa)]):=by
 obtain⟨X,h⟩:=Xmn (F:=F) (G:=G) (S:=S) (L:=L) (env:=env) (e:=.var io) (elt:=Xqx io ii L ill) (xs:=o.map D.int) (fun d=>match d with | .int p=>Xa (Xcy o g p)|_=>.non) he (by simp only[ev,h1];rfl) (by rw[Vj];omega)
  (fun d hd X=>by
   obtain⟨p,hp,rfl⟩:=Uh.mp hd;have g1:(env++[none,some (D.int p)])[io]?=some (some (Xa o)):=Xdh h1;have g2:(env++[none,some (D.int p)])[ii]?=some (some (Xa g)):=Xdh h2;have g3:(env++[none,some (D.int p)])[L+1]?=some (some (.int p)):=Xe9 he _;have hb:([D.int p]:List D).length<=big:=by show 1<=big;decide
   have hc:F ill [Xa o,.tup [.int p]] (S++X)=.ok (Xa (lft o [p])) (S++X++[.lst ((lft o [p]).map D.int)]):=hi o [p] _ ho;have hn:=X1a o [p];have ha:=Xwn g (lft o [p]) (S++X++[.lst ((lft o [p]).map D.int)]) (by omega)
   have hs:=X1b (l:=g++lft o [p]) (by rw[Uf];omega) (S++X++[.lst ((lft o [p]).map D.int)])
   refine⟨X++[.lst ((lft o [p]).map D.int)]++[.lst ((Xal (g++lft o [p])).map D.int)],?_⟩;unfold Xqx;simp only[ev,evs,g1,g2,g3,Rk0,hb,if_true,hc,ha,hs];simp only[Xm,Xx,Xg,Xcy,Xa];simp only[Vo])
 refine⟨X,?_⟩;unfold Xg8;rw[h];have e:(o.map D.int).map (fun d=>match d with | .int p=>Xa (Xcy o g p)|_=>.non)=(com o g).map Xa:=by
  unfold com;rw[Vbr,Vbr];rfl
 rw[e]
end
section
variable{F:Fn}{G:List D}{S:Sto}{t:Tg}{it:It}{ifs:Exs}{elt:Ex}{env:En}{n:Nat}
theorem Xpf{xs:List D}{body:En->List D->Sto->R (List D)}(w:D->List D)(acc0:List D)(P:En->Prop)
  (step:∀i d e X,xs[i]?=some d->P e->∃e1 X',Xr t d e=some e1/\P e1/\body e1 (acc0++((xs.take i).map w).flatten) (S++X)=.ok (acc0++((xs.take i).map w).flatten++w d) (S++X')) :
  ∀(fuel i:Nat) (e:En) (X:Sto),P e->i<=xs.length->xs.length<fuel+i->∃X',X0 (Src.con xs).get t body fuel i e (acc0++((xs.take i).map w).flatten) (S++X)=.ok (acc0++(xs.map w).flatten) (S++X')
 |0,i,e,X,h,h1,h2=>by omega
 |fuel+1,i,e,X,h,h1,h2=>by
  have hget:∀S,(Src.con xs).get S i=some xs[i]?:=fun _=>rfl
  cases q:xs[i]? with
  |none =>
   have hi:i=xs.length:=by
    have:=Us.mp q;omega
   refine⟨X,?_⟩;simp only[X0,hget,q];rw[hi,Vc1]
  |some d =>
   obtain⟨e1,X1,a1,a2,a3⟩:=step i d e X q h;have hi:i<xs.length:=(Vi.mp q).1;obtain⟨X',b2⟩:=Xpf w acc0 P step fuel (i+1) e1 X1 a2 (by omega) (by omega)
   refine⟨X',?_⟩;simp only[X0,hget,q,a1,a3];rw[Xth q,<- Vo]at b2;exact b2
theorem X1c{xs:List D}(b:D->Bool)(y:D->D)(P:En->Prop)(hit:evit F G it env S=.ok (.con xs) S)(hb:xs.length<=big)(h0:P (env++Vh n none))
  (step:∀d∈xs,∀e X,P e->∃e1 X1,Xr t d e=some e1/\P e1/\evts F G ifs e1 (S++X)=.ok (b d) (S++X1)/\(b d=true->∃X2,ev F G elt e1 (S++X1)=.ok (y d) (S++X2))) :
  ∃X,ev F G (.cmr false n (.cons t it ifs .nil) elt) env S=.ok (.ref (S++X).length) (S++X++[.lst ((xs.filter b).map y)]):=by
 have hw:∀d,(if b d then [y d] else []:List D).length<=1:=fun d=>by split<;>simp
 obtain⟨X',a⟩:=Xpf (S:=S) (xs:=xs) (t:=t) (body:=Xz (fun env S=>evts F G ifs env S) (fun env acc S=>(ev F G elt env S).bind fun y S=>if acc.length<big then .ok (acc++[y]) S else .bad)) (fun d=>if b d then [y d] else []) [] P
  (fun i d e X hd hP=>by
   obtain⟨e1,X1,a1,a2,a3,a4⟩:=step d (Ur hd) e X hP;have hi:i<xs.length:=(Vi.mp hd).1;have hl:=Xqv hw (xs.take i);rw[Vbx]at hl;cases c:b d with
   |false =>
    refine⟨e1,X1,a1,a2,?_⟩;simp only[Xz,a3,c,Rk0,Vbi];simp
   |true =>
    obtain⟨X2,a5⟩:=a4 c;refine⟨e1,X2,a1,a2,?_⟩;simp only[Xz,a3,c,Rk0,Vbi,if_true,a5];rw[iP0 (by omega)]) (xs.length+1) 0 _ [] h0 (Ul _) (by omega)
 refine⟨X',?_⟩;have hm:(Src.con xs).most S=xs.length:=rfl;simp only[ev,hit,Rk0,hm];rw[Vz]at a;have a':X0 (Src.con xs).get t (Xz (fun env S=>evts F G ifs env S) (fun env acc S=>(ev F G elt env S).bind fun y S=>if acc.length<big then .ok (acc++[y]) S else .bad)) (xs.length+1) 0 (env++Vh n none) [] S=.ok (xs.map fun d=>if b d then [y d] else []).flatten (S++X'):=a
 have e:(xs.map fun d=>if b d then [y d] else []).flatten=(xs.filter b).map y:=by
  clear a a' h0 step hb hm hit
  induction xs with
  |nil=>rfl
  |cons d xs ih =>
   simp only[Vab,U0,ih,Vdo];split<;>simp
 rw[a',e];simp only[Rk0];rfl
end
section
variable{F:Fn}{G:List D}{S:Sto}
theorem X5v:∀n:List (List Int),Xaq (n.map Xa)=some n
 |[]=>rfl
 |x::n=>by
  show Xaq (.tup (x.map D.int)::n.map Xa)=_;simp only[Xaq,Xa3,X5v n,Vy]
theorem Xfe{q:Nat}{n r:List (List Int)}(h:Xc S q=some (n.map Xa))(hr:Xay n=some r):Xm .srt [.ref q] S=.ok (.ref S.length) (S++[.lst (r.map Xa)]):=by
 simp only[Xm,h,Vs,X5v,hr];rfl
noncomputable def swp(n:List (List Int))(o g:List Int):List (List Int):=kpt n o++com o g
noncomputable def Xw1:St:=.asg (.tup [4,5]) (.var 1)
noncomputable def Xqy(i19:Nat)(m:Str):St:=.ite (.not (.call i19 (.cons (.var 0) (.cons (.var 1) .nil)))) (.cons (.rse 13 (.cst (.str m))) .nil) .nil
noncomputable def Xqz(m:Str):St:=.ite (.cmp .gt (.bin .add (.blt .len (.cons (.var 2) .nil)) (.blt .len (.cons (.var 3) .nil))) (.glb 2)) (.cons (.rse 5 (.cst (.str m))) .nil) .nil
noncomputable def Xw2:St:=.ret (.blt .tuple (.cons (.blt .srt (.cons (.bin .add (.var 2) (.var 3)) .nil)) .nil))
noncomputable def X5w(i19 i9 i14:Nat)(m1 m2:Str):Df:=⟨2,6,.cons (Xqy i19 m1) (.cons Xw1 (.cons (.asg (.var 2) (Xcq 4 6 i9)) (.cons (.asg (.var 3) (Xg8 4 5 6 i14)) (.cons (Xqz m2) (.cons Xw2 .nil)))))⟩
theorem X1d{i19 i9 i14:Nat}{m1 m2:Str}{n r:List (List Int)}{o g:List Int}(hG:G[2]?=some (.int 60))(ho:o.length<=6)(hg:g.length<=6)(hn:n.length<=1000)
  (h19:∀S,∃X,F i19 [Xb n,.tup [Xa o,Xa g]] S=.ok (.bl true) (S++X)) (h9:∀(a b:List Int) (S:Sto),F i9 [Xa a,Xa b] S=.ok (.bl (lie a b)) S)
  (h14:∀(a b:List Int) (S:Sto),a.length<=6->F i14 [Xa a,Xa b] S=.ok (Xa (lft a b)) (S++[.lst ((lft a b).map D.int)]))
  (hl:(swp n o g).length<=60) (hr:Xay (swp n o g)=some r) (S:Sto) :
  ∃X,den F G (X5w i19 i9 i14 m1 m2) [Xb n,.tup [Xa o,Xa g]] S=.ok (Xb r) (S++X):=by
 obtain⟨X1,e1⟩:=h19 S;have s1:exe F G (Xqy i19 m1) [some (Xb n),some (.tup [Xa o,Xa g]),none,none,none,none] S=.ok (.nx [some (Xb n),some (.tup [Xa o,Xa g]),none,none,none,none]) (S++X1):=by
  unfold Xqy;simp only[exe,ev,evs,gZ0,gS0,Rk0,e1,Xf,Ut,pb]
 have s2:∀S,exe F G Xw1 [some (Xb n),some (.tup [Xa o,Xa g]),none,none,none,none] S=.ok (.nx [some (Xb n),some (.tup [Xa o,Xa g]),none,none,some (Xa o),some (Xa g)]) S:=fun _=>rfl
 have s3:=Yn (i:=2) (X09 (F:=F) (G:=G) (io:=4) (L:=6) (il:=i9) (n:=n) (o:=o) (env:=[some (Xb n),some (.tup [Xa o,Xa g]),none,none,some (Xa o),some (Xa g)]) rfl rfl rfl h9 hn (S++X1));obtain⟨X2,e4⟩:=Xpe (F:=F) (G:=G) (io:=4) (ii:=5) (L:=6) (ill:=i14) (o:=o) (g:=g) (env:=[some (Xb n),some (.tup [Xa o,Xa g]),some (.ref (S++X1).length),none,some (Xa o),some (Xa g)]) rfl rfl rfl ho hg h14 (S++X1++[.lst ((kpt n o).map Xa)]);have s4:=Yn (i:=3) e4;have k1:Xc (S++X1++[.lst ((kpt n o).map Xa)]++X2++[.lst ((com o g).map Xa)]) (S++X1).length=some ((kpt n o).map Xa):=Xn (Xn Xg);have k2:Xc (S++X1++[O.lst ((kpt n o).map Xa)]++X2++[O.lst ((com o g).map Xa)]) (S++X1++[O.lst ((kpt n o).map Xa)]++X2).length=some ((com o g).map Xa):=Xg;have e5:∃Y,S++X1++[.lst ((kpt n o).map Xa)]++X2++[.lst ((com o g).map Xa)]=S++Y:=⟨X1++[.lst ((kpt n o).map Xa)]++X2++[.lst ((com o g).map Xa)],by simp only[Vo]⟩
 obtain⟨Y,e5⟩:=e5;have hl':(kpt n o).length+(com o g).length<=60:=by
  have:(swp n o g).length=(kpt n o).length+(com o g).length:=Uf;omega
 generalize (S++X1++[O.lst ((kpt n o).map Xa)]++X2).length=q2 at k2 s4;generalize (S++X1).length=q1 at k1 s3 s4;rw[e5]at k1 k2 s4;have s5:exe F G (Xqz m2) [some (Xb n),some (.tup [Xa o,Xa g]),some (.ref q1),some (.ref q2),some (Xa o),some (Xa g)] (S++Y)=.ok (.nx [some (Xb n),some (.tup [Xa o,Xa g]),some (.ref q1),some (.ref q2),some (Xa o),some (Xa g)]) (S++Y):=by
  unfold Xqz;have nn:¬ ((60:Int)<((kpt n o).length:Int)+((com o g).length:Int)):=by omega
  simp only[exe,ev,evs,gZ0,gS0,Rk0,Xiq k1,Xiq k2,Vj,Y8,hG,Xj,X9,nn,decide_false,Xf,pb]
 have ha:=Xo7 k1 k2 (by simp only[Vj];omega)
 rw[<- Val]at ha;have hs:=Xfe (S:=S++Y++[.lst ((kpt n o++com o g).map Xa)]) (q:=(S++Y).length) (n:=swp n o g) (r:=r) Xg hr;refine⟨Y++[.lst ((kpt n o++com o g).map Xa)]++[.lst (r.map Xa)],Yk (env:=[some (Xb n),some (.tup [Xa o,Xa g]),none,none,none,none]) rfl rfl ?_⟩;show pb F G (.cons (Xqy i19 m1) (.cons Xw1 (.cons (.asg (.var 2) (Xcq 4 6 i9)) (.cons (.asg (.var 3) (Xg8 4 5 6 i14)) (.cons (Xqz m2) (.cons Xw2 .nil)))))) _ S=_;rw[Xd s1,Xd (s2 _),Xd s3];refine(Xd s4).trans ?_;refine(Xd s5).trans ?_;refine Xk ?_;unfold Xw2;simp only[exe,ev,evs,gZ0,gS0,Rk0,ha,hs];simp only[Xm,Xx,Xg,Rk0];simp only[Vo];rfl
theorem Xw3{io L il:Nat}{n:List (List Int)}{o:List Int}{env:En}(he:env.length=L)(h0:env[0]?=some (some (Xb n)))(h1:env[io]?=some (some (Xa o)))(hi:∀(b:List Int) (S:Sto),∃X,F il [Xa o,Xa b] S=.ok (.bl (lie o b)) (S++X))(hl:n.length<=1000)(S:Sto) :
  ∃X,ev F G (Xcq io L il) env S=.ok (.ref (S++X).length) (S++X++[.lst ((kpt n o).map Xa)]):=by
 obtain⟨X,key⟩:=X1c (F:=F) (G:=G) (n:=2) (t:=.var (L+1)) (it:=.val (.var 0)) (ifs:=.cons (.not (.call il (.cons (.var io) (.cons (.var (L+1)) .nil)))) .nil) (elt:=.var (L+1)) (env:=env) (S:=S) (xs:=n.map Xa) (fun d=>!lie o (Xbq d)) id
  (fun e=>∃x,e=env++[none,x]) (Ys (by simp only[ev,h0];rfl)) (by rw[Vj];exact Ye hl) ⟨none,rfl⟩
  (fun d hd e X he'=>by
   obtain⟨x,rfl⟩:=he';obtain⟨s,hs,rfl⟩:=Uh.mp hd;have g1:(env++[none,some (Xa s)])[io]?=some (some (Xa o)):=Xdh h1;have g2:(env++[none,some (Xa s)])[L+1]?=some (some (Xa s)):=Xe9 he _;obtain⟨X1,q⟩:=hi s (S++X);refine⟨env++[none,some (Xa s)],X++X1,Xdg he x _,⟨_,rfl⟩,?_,fun _=>⟨X++X1,by simp only[ev,g2,id]⟩⟩
   rw[<- Vo];simp only[evts,ev,evs,g1,g2,Rk0,q,Xf,ints_of];cases lie o s<;>rfl)
 refine⟨X,?_⟩;unfold Xcq;rw[key];have e:((n.map Xa).filter fun d=>!lie o (Xbq d)).map id=(kpt n o).map Xa:=by
  unfold kpt;rw[List.map_id,Vez];congr 1;refine Vhj fun s _=>?_
  simp only[Function.comp,ints_of]
 rw[e]
noncomputable def Xw4:St:=.asg (.tup [3,4]) (.var 1)
noncomputable def X5x(i30 i31:Nat):Df:=⟨2,5,.cons Xw4 (.cons (.asg (.var 2) (Xcq 3 5 i30)) (.cons (.ret (.blt .tuple (.cons (.blt .srt (.cons (.bin .add (.var 2) (Xg8 3 4 5 i31)) .nil)) .nil))) .nil))⟩
theorem X1e{i30 i31:Nat}{n r:List (List Int)}{o g:List Int}(ho:o.length<=6)(hg:g.length<=6)(hn:n.length<=900)
  (h30:∀(b:List Int) (S:Sto),∃X,F i30 [Xa o,Xa b] S=.ok (.bl (lie o b)) (S++X))
  (h31:∀(a b:List Int) (S:Sto),a.length<=6->F i31 [Xa a,Xa b] S=.ok (Xa (lft a b)) (S++[.lst ((lft a b).map D.int)]))
  (hr:Xay (swp n o g)=some r) (S:Sto) :
  ∃X,den F G (X5x i30 i31) [Xb n,.tup [Xa o,Xa g]] S=.ok (Xb r) (S++X):=by
 have s2:exe F G Xw4 [some (Xb n),some (.tup [Xa o,Xa g]),none,none,none] S=.ok (.nx [some (Xb n),some (.tup [Xa o,Xa g]),none,some (Xa o),some (Xa g)]) S:=rfl;obtain⟨X1,e3⟩:=Xw3 (F:=F) (G:=G) (io:=3) (L:=5) (il:=i30) (n:=n) (o:=o) (env:=[some (Xb n),some (.tup [Xa o,Xa g]),none,some (Xa o),some (Xa g)]) rfl rfl rfl h30 (by omega) S
 have s3:=Yn (i:=2) e3;obtain⟨X2,e4⟩:=Xpe (F:=F) (G:=G) (io:=3) (ii:=4) (L:=5) (ill:=i31) (o:=o) (g:=g) (env:=[some (Xb n),some (.tup [Xa o,Xa g]),some (.ref (S++X1).length),some (Xa o),some (Xa g)]) rfl rfl rfl ho hg h31 (S++X1++[.lst ((kpt n o).map Xa)]);have k1:Xc (S++X1++[.lst ((kpt n o).map Xa)]++X2++[.lst ((com o g).map Xa)]) (S++X1).length=some ((kpt n o).map Xa):=Xn (Xn Xg);have k2:Xc (S++X1++[O.lst ((kpt n o).map Xa)]++X2++[O.lst ((com o g).map Xa)]) (S++X1++[O.lst ((kpt n o).map Xa)]++X2).length=some ((com o g).map Xa):=Xg;have e5:∃Y,S++X1++[.lst ((kpt n o).map Xa)]++X2++[.lst ((com o g).map Xa)]=S++Y:=⟨X1++[.lst ((kpt n o).map Xa)]++X2++[.lst ((com o g).map Xa)],by simp only[Vo]⟩
 obtain⟨Y,e5⟩:=e5;generalize (S++X1++[O.lst ((kpt n o).map Xa)]++X2).length=q2 at k2 e4;generalize (S++X1).length=q1 at k1 s3 e4;rw[e5]at k1 k2 e4;have c1:(kpt n o).length<=n.length:=Vf9 _ _;have c2:(com o g).length=o.length:=Vj ..;have ha:=Xo7 k1 k2 (by simp only[Vj];omega)
 rw[<- Val]at ha;have hs:=Xfe (S:=S++Y++[.lst ((kpt n o++com o g).map Xa)]) (q:=(S++Y).length) (n:=swp n o g) (r:=r) Xg hr;refine⟨Y++[.lst ((kpt n o++com o g).map Xa)]++[.lst (r.map Xa)],Yk (env:=[some (Xb n),some (.tup [Xa o,Xa g]),none,none,none]) rfl rfl ?_⟩;show pb F G (.cons Xw4 (.cons (.asg (.var 2) (Xcq 3 5 i30)) _)) _ S=_;rw[Xd s2];refine(Xd s3).trans ?_;refine Xk ?_;simp only[List.set_cons_succ,List.set_cons_zero,exe,ev,evs,gZ0,gS0,Rk0];rw[e4];simp only[Rk0,ha,hs];simp only[Xm,Xx,Xg,Rk0];simp only[Vo];rfl
end
theorem Xtm{acc:List Int}{x:Int}(h:acc.Nodup):(ddS acc x).Nodup:=by
 unfold ddS;split
 ·exact h
 ·rename_i hx
  rw[Vfl];refine⟨h,by simp,?_⟩
  intro a ha b hb e;rw[Up]at hb;subst hb;subst e;exact hx ha
theorem X1f{acc:List Int}{x y:Int}:y∈ddS acc x ↔ y∈acc\/y=x:=by
 unfold ddS;split
 ·rename_i hx
  constructor
  ·exact Or.inl
  ·rintro (h|rfl)
   ·exact h
   ·exact hx
 ·simp
theorem Xg9:∀(l acc:List Int),acc.Nodup->(l.foldl ddS acc).Nodup
 |[],acc,h=>h
 |x::l,acc,h=>Xg9 l _ (Xtm h)
theorem Xmo:∀(l acc:List Int) (y:Int),y∈l.foldl ddS acc ↔ y∈acc\/y∈l
 |[],acc,y=>by simp
 |x::l,acc,y=>by
  rw[Vdx,Xmo l,X1f,Vv,or_assoc]
theorem Xw5(l:List Int):(ddI l).Nodup:=Xg9 l [] Vgx
theorem Xtn(l:List Int)(y:Int):y∈ddI l ↔ y∈l:=by
 unfold ddI;rw[Xmo];simp
theorem pts_mem{n:List (List Int)}{x:Int}:x∈pts n ↔ ∃s∈n,x∈s:=by
 unfold pts;rw[(Yu _).mem_iff,Xtn,List.mem_flatten]
theorem Xpg(n:List (List Int)):(pts n).length=(ddI n.flatten).length:=(Yu _).length_eq
structure Net(w k b:Nat)(n:List (List Int)):Prop where
 some:n≠[]
 few:n.length<=k
 wide:∀s∈n,s.length=w
 fac:∀s∈n,Fac s
 low:∃B:List Int,B.length<=b/\∀s∈n,∀x∈s,x∈B
theorem Net.pts{w k b:Nat}{n:List (List Int)}(h:Net w k b n):(pts n).length<=b:=by
 obtain⟨B,h1,h2⟩:=h.low;have:=Xgi (ddI n.flatten) B (Xw5 _) fun x hx=>by
  obtain⟨s,hs,hx⟩:=List.mem_flatten.mp ((Xtn _ _).mp hx);exact h2 s hs x hx
 rw[Xpg];omega
theorem Xgj(o:List Int):lie o o=true:=by
 unfold lie;rw[Ux];exact fun x hx=>decide_eq_true hx
theorem X1g{n:List (List Int)}{o:List Int}(h:o∈n):(kpt n o).length+1<=n.length:=by
 induction n with
 |nil=>cases h
 |cons s n ih =>
  have q:(kpt n o).length<=n.length:=Vf9 _ _;unfold kpt at q ih ⊢;rw[Vdo]
  by_cases e:s=o
  ·subst e
   rw[Xgj];simp only[Ut,V2,if_false,Uc];omega
  ·have hn:o∈n:=by
    rcases Vv.mp h with z|z
    ·exact aB0 z.symm e
    ·exact z
   have:=ih hn;split
   ·rw[Uc,Uc];omega
   ·rw[Uc];omega
theorem X1h{o:List Int}{p:Int}(hn:o.Nodup)(hp:p∈o):(lft o [p]).length+1=o.length:=by
 induction o with
 |nil=>cases hp
 |cons x o ih =>
  obtain⟨h1,h2⟩:=Vcl.mp hn;unfold lft at ih ⊢;rw[Vdo]
  by_cases e:x=p
  ·subst e
   have q:o.filter (fun y=>!decide (y∈[x]))=o:=Vev.mpr fun y hy=>by
    have:¬ y=x:=fun z=>h1 (by rw[<- z];exact hy)
    simp[this]
   rw[q];simp
  ·have hp':p∈o:=by
    rcases Vv.mp hp with z|z
    ·exact aB0 z.symm e
    ·exact z
   have:=ih h2 hp';have c:(!decide (x∈[p]))=true:=by simp[e]
   rw[iP0 c,Uc,Uc];omega
theorem X5y{l:List Int}(h1:l.Pairwise (·<=·))(h2:l.Nodup):l.Pairwise (· < ·):=by
 refine List.Pairwise.imp₂ ?_ h1 h2;intro a b ha hb;have hb:a≠b:=hb;omega
theorem X1i{o:List Int}{f p:Int}(ho:Fac o)(hf0:0<=f)(hf1:f<=15)(hf:f ∉ o)(hp:p∈o):Fac (Xcy o [f] p)/\(Xcy o [f] p).length=o.length/\∀x∈Xcy o [f] p,x=f\/x∈o:=by
 have nd:o.Nodup:=ho.ris.imp fun h=>Int.ne_of_lt h
 have pm:=Yu ([f]++lft o [p]);have hl:(Xcy o [f] p).length=o.length:=by
  unfold Xcy;rw[pm.length_eq,Uf];have:=X1h nd hp;simp only[Vcd];omega
 have hm:∀x∈Xcy o [f] p,x=f\/x∈o:=fun x hx=>by
  have:=pm.mem_iff.mp hx;rcases Vbh.mp this with z|z
  ·exact Or.inl (Up.mp z)
  ·exact Or.inr (Vcj.mp z).1
 refine⟨⟨by rw[hl];exact ho.few,fun x hx=>?_,?_⟩,hl,hm⟩
 ·rcases hm x hx with z|z
  ·rw[z];exact⟨hf0,hf1⟩
  ·exact ho.low x z
 ·refine X5y (Xc5 _) (pm.nodup_iff.mpr ?_)
  show(f::lft o [p]).Nodup;refine Vcl.mpr ⟨fun z=>hf (Vcj.mp z).1,nd.filter _⟩
theorem Xw6{w k b:Nat}{n:List (List Int)}{o:List Int}{f:Int}(h:Net w k b n)(hw:1<=w)(hk:k+w<=60)(ho:o∈n)(hf0:0<=f)(hf1:f<=15)(hf:f ∉ Z.pts n) :
  ∃r,Xay (swp n o [f])=Option.some r/\Net w (k+w-1) (b+1) r/\(swp n o [f]).length<=60:=by
 have fo:=h.fac o ho;have wo:=h.wide o ho;have hfo:f ∉ o:=fun z=>hf (pts_mem.mpr ⟨o,ho,z⟩)
 have c1:=X1g ho;have c2:(com o [f]).length=o.length:=Vj ..;have c3:(swp n o [f]).length=(kpt n o).length+(com o [f]).length:=Uf;have few:=h.few;have mem:∀s∈swp n o [f],s.length=w/\Fac s/\((s∈n)\/∀x∈s,x=f\/x∈o):=fun s hs=>by
  rcases Vbh.mp hs with z|z
  ·have:=(Vcj.mp z).1
   exact⟨h.wide s this,h.fac s this,Or.inl this⟩
  ·obtain⟨p,hp,rfl⟩:=Uh.mp z
   obtain⟨q1,q2,q3⟩:=X1i fo hf0 hf1 hfo hp;exact⟨by rw[q2];exact wo,q1,Or.inr q3⟩
 obtain⟨r,hr,pr⟩:=Xsu (swp n o [f]) (by omega) fun s hs e=>by
  have:=(mem s hs).1;rw[e]at this;simp only[Vco]at this;omega
 refine⟨r,hr,⟨?_,?_,fun s hs=>(mem s (pr.mem_iff.mp hs)).1,fun s hs=>(mem s (pr.mem_iff.mp hs)).2.1,?_⟩,by omega⟩
 ·intro e
  have:=pr.length_eq;rw[e,Vco]at this;omega
 ·rw[pr.length_eq];omega
 ·obtain⟨B,b1,b2⟩:=h.low
  refine⟨f::B,by rw[Uc];omega,fun s hs x hx=>?_⟩
  rcases (mem s (pr.mem_iff.mp hs)).2.2 with z|z
  ·exact Ua _ (b2 s z x hx)
  ·rcases z x hx with y|y
   ·rw[y];exact Uo
   ·exact Ua _ (b2 o ho x y)
section
variable{F:Fn}{G:List D}{S:Sto}
noncomputable def Xit(m:Str):St:=.ite (.not (.chn .le .lt (.cst (.int 0)) (.var 1) (.blt .len (.cons (.var 0) .nil)))) (.cons (.rse 14 (.cst (.str m))) .nil) .nil
noncomputable def Xmp(i18 i21:Nat)(m:Str):Df:=⟨2,2,.cons (Xit m) (.cons (.ret (.call i18 (.cons (.var 0) (.cons (.tup (.cons (.idx (.var 0) (.var 1)) (.cons (.call i21 (.cons (.var 0) .nil)) .nil))) .nil)))) .nil)⟩
theorem Xbl(n:List (List Int))(S:Sto):Xm .len [Xb n] S=.ok (.int n.length) S:=by unfold Xb;rw[Xo6,Vj]
theorem Xiu{n:List (List Int)}{o:List Int}{i:Nat}{x:Int}(h:n[i]?=some o)(e:x=(i:Int))(S:Sto):Xag (Xb n) (.int x) S=.ok (Xa o) S:=by
 have hi:i<(n.map Xa).length:=by rw[Vj];exact(Vi.mp h).1
 have hg:(n.map Xa)[i]?=some (Xa o):=by rw[Vx,h];rfl
 simp only[Xag,Xam,Xb,Xx,Vs,ixn hi e,hg]
theorem X1j{i18 i21:Nat}{m:Str}{n r:List (List Int)}{o:List Int}{f:Int}{i:Nat}{x:Int}(h:n[i]?=some o)(e:x=(i:Int))(h21:∀S,∃X,F i21 [Xb n] S=.ok (Xa [f]) (S++X))(h18:∀S,∃X,F i18 [Xb n,.tup [Xa o,Xa [f]]] S=.ok (Xb r) (S++X))(S:Sto) :
  ∃X,den F G (Xmp i18 i21 m) [Xb n,.int x] S=.ok (Xb r) (S++X):=by
 obtain⟨X1,e1⟩:=h21 S;obtain⟨X2,e2⟩:=h18 (S++X1);have hi:=(Vi.mp h).1;have c1:(0:Int)<=x:=by omega
 have c2:x<(n.length:Int):=by omega
 have hb:([Xa o,Xa [f]]:List D).length<=big:=by show 2<=big;decide
 refine⟨X1++X2,Yk (env:=[some (Xb n),some (.int x)]) rfl rfl ?_⟩;have s1:exe F G (Xit m) [some (Xb n),some (.int x)] S=.ok (.nx [some (Xb n),some (.int x)]) S:=by
  unfold Xit;simp only[exe,ev,evs,gZ0,gS0,Rk0,X9,Xj,ltD,c1,c2,decide_true,Xbl,Xf,Ut,pb]
 show pb F G (.cons (Xit m) _) _ S=_;rw[Xd s1];refine Xk ?_;simp only[exe,ev,evs,gZ0,gS0,Rk0,Xiu h e,e1,hb,if_true,e2];simp only[Vo]
theorem X5z{i18 i21:Nat}{m:Str}{n:List (List Int)}{x:Int}(h:x<0\/(n.length:Int)<=x)(S:Sto):den F G (Xmp i18 i21 m) [Xb n,.int x] S=.ex S.length (S++[.exc 14]):=by
 have s1:exe F G (Xit m) [some (Xb n),some (.int x)] S=.ex S.length (S++[.exc 14]):=by
  unfold Xit
  by_cases c:(0:Int)<=x
  ·have c2:¬ x<(n.length:Int):=by omega
   simp only[exe,ev,evs,gZ0,gS0,Rk0,X9,Xj,ltD,c,c2,decide_true,decide_false,Xbl,Xf,Vce,pb]
  ·simp only[exe,ev,evs,gZ0,gS0,Rk0,X9,Xj,ltD,c,decide_false,Xbl,Xf,Vce,pb]
 simp only[den,Xmp,Um,if_true,Ug,Vag,Vh,Vz];rw[Xda s1]
noncomputable def Xcz(i23:Nat):Sts:=.cons (.asg (.var 2) (.call i23 (.cons (.var 2) (.cons (.var 3) .nil)))) .nil
theorem Xw7{i23:Nat}{A B:Option D}{n d r:D}{S1:Sto}(h:F i23 [n,d] S=.ok r S1):pb F G (Xcz i23) [A,B,some n,some d] S=.ok (.nx [A,B,some r,some d]) S1:=by
 have s:=Yn (i:=2) (F:=F) (G:=G) (e:=.call i23 (.cons (.var 2) (.cons (.var 3) .nil))) (env:=[A,B,some n,some d]) (S:=S) (d:=r) (S':=S1) (by simp only[ev,evs,gZ0,gS0,Rk0,h])
 unfold Xcz;rw[Xd s];rfl
theorem Xgk{i23:Nat}{A B:Option D}{ps:List D}{N:Nat->D}{m:Nat}(hm:m<=ps.length)(h:∀j d,j<m->ps[j]?=some d->∀S,∃X,F i23 [N j,d] S=.ok (N (j+1)) (S++X)) :
  ∀(c j fuel:Nat) (x:Option D) (X:Sto),j+c=m->ps.length<fuel+j->∃fuel' x' X',ps.length<fuel'+m/\Xu (Src.con ps).get (.var 3) (pb F G (Xcz i23)) fuel j [A,B,some (N j),x] (S++X)=Xu (Src.con ps).get (.var 3) (pb F G (Xcz i23)) fuel' m [A,B,some (N m),x'] (S++X')
 |0,j,fuel,x,X,hj,hf=>by
  have:j=m:=by omega
  subst this;exact⟨fuel,x,X,hf,rfl⟩
 |c+1,j,0,x,X,hj,hf=>by omega
 |c+1,j,fuel+1,x,X,hj,hf=>by
  have hl:j<ps.length:=by omega
  obtain⟨X1,q⟩:=h j ps[j] (by omega) (Vq hl) (S++X)
  obtain⟨fuel',x',X',g1,g2⟩:=Xgk hm h c (j+1) fuel (some ps[j]) (X++X1) (by omega) (by omega)
  refine⟨fuel',x',X',g1,?_⟩;rw[<- g2];have hg:(Src.con ps).get (S++X) j=some (some ps[j]):=by simp only[Src.get,Vq hl]
  have hs:Xr (.var 3) ps[j] [A,B,some (N j),x]=some [A,B,some (N j),some ps[j]]:=rfl
  conv=>lhs;unfold Xu
  simp only[hg,hs,Xw7 q];rw[Vo]
theorem X1k{i23:Nat}{A B:Option D}{ps:List D}{N:Nat->D}(h:∀j d,j<ps.length->ps[j]?=some d->∀S,∃X,F i23 [N j,d] S=.ok (N (j+1)) (S++X))(S:Sto) :
  ∃x X,Xu (Src.con ps).get (.var 3) (pb F G (Xcz i23)) (ps.length+1) 0 [A,B,some (N 0),none] S=.ok (.nx [A,B,some (N ps.length),x]) (S++X):=by
 obtain⟨fuel,x,X,g1,g2⟩:=Xgk (F:=F) (G:=G) (S:=S) (A:=A) (B:=B) (Vl _) h ps.length 0 (ps.length+1) none [] (by omega) (by omega)
 rw[Vz]at g2;refine⟨x,X,g2.trans ?_⟩
 match fuel,g1 with
 |0,g1=>omega
 |fuel+1,_ =>
  have hg:(Src.con ps).get (S++X) ps.length=some none:=by simp only[Src.get,Vam (Vl _)]
  unfold Xu;simp only[hg]
end
noncomputable def stN(w:Nat):List (List Int):=(V0 (w+1)).reverse.map fun p=>((V0 (w+1)).filter fun q=>q != p).map V4
theorem Xex{w k b:Nat}{n:List (List Int)}(B:List Int)(h1:n≠[])(h2:n.length<=k)(h3:∀s∈n,s.length=w/\s.length<=6/\(∀x∈s,0<=x/\x<=15)/\s.Pairwise (· < ·)/\∀x∈s,x∈B)(h4:B.length<=b):Net w k b n :=
 ⟨h1,h2,fun s hs=>(h3 s hs).1,fun s hs=>⟨(h3 s hs).2.1,(h3 s hs).2.2.1,(h3 s hs).2.2.2.1⟩,⟨B,h4,fun s hs=>(h3 s hs).2.2.2.2⟩⟩
theorem X1l:∀w,1<=w->w<=5->Net w (w+1) (w+1) (stN w)
 |1,_,_=>Xex [0,1] (by decide) (by decide) (by decide) (by decide)
 |2,_,_=>Xex [0,1,2] (by decide) (by decide) (by decide) (by decide)
 |3,_,_=>Xex [0,1,2,3] (by decide) (by decide) (by decide) (by decide)
 |4,_,_=>Xex [0,1,2,3,4] (by decide) (by decide) (by decide) (by decide)
 |5,_,_=>Xex [0,1,2,3,4,5] (by decide) (by decide) (by decide) (by decide)
 |0,h,_=>by omega
 |w+6,_,h=>by omega
noncomputable def nxt(n:List (List Int))(i:Nat):List (List Int):=match fre (pts n) with
 |f::_=>(Xay (swp n (n.getD i []) [f])).getD []
 |[]=>[]
theorem Xiv{w k b i:Nat}{n:List (List Int)}(h:Net w k b n)(hw:1<=w)(hk:k+w<=60)(hb:b<=15)(hi:i<n.length) :
  ∃f r,fre (pts n)=f::r/\0<=f/\f<=15/\f ∉ pts n/\Xay (swp n n[i] [f])=some (nxt n i)/\(swp n n[i] [f]).length<=60/\Net w (k+w-1) (b+1) (nxt n i):=by
 have hp:=h.pts;obtain⟨f,r,e,f0,f1,f2⟩:=Xmj (ps:=pts n) (by omega)
 obtain⟨m,hm,nm,lm⟩:=Xw6 h hw hk (Vbz hi) f0 f1 f2;have g:n.getD i []=n[i]:=by simp[Vb0,Vq hi]
 have q:nxt n i=m:=by
  unfold nxt;rw[e];show(Xay (swp n (n.getD i []) [f])).getD []=m;rw[g,hm];rfl
 rw[q];exact⟨f,r,e,f0,f1,f2,hm,lm,nm⟩
noncomputable def Xp(w:Nat)(is:List Nat):Nat->List (List Int)
 |0=>stN w
 |j+1=>nxt (Xp w is j) (is.getD j 0)
theorem Xgl{w:Nat}{is:List Nat}(h1:1<=w)(h5:w<=5):∀j,j<=10->(∀t<j,is.getD t 0<(Xp w is t).length)->Net w (w+1+j*(w-1)) (w+1+j) (Xp w is j)
 |0,_,_=>by
  have:=X1l w h1 h5
  simpa [Xp] using this
 |j+1,hj,hi=>by
  have ih:=Xgl (is:=is) h1 h5 j (by omega) fun t ht=>hi t (by omega)
  have hm:j*(w-1)<=9*4:=Vg0 (by omega) (by omega)
  obtain⟨_,_,_,_,_,_,_,_,r⟩:=Xiv ih h1 (by omega) (by omega) (hi j (by omega))
  have e1:w+1+j*(w-1)+w-1=w+1+(j+1)*(w-1):=by rw[Nat.add_mul,Nat.one_mul];omega
  rw[e1]at r;exact r
section
variable{F:Fn}{G:List D}{S:Sto}
noncomputable def Xha(ik L:Nat):Ex:=.cmr false 2 (.cons (.var (L+1)) (.rng (.cons (.cst (.int 16)) .nil)) (.cons (.cmp .notin (.var (L+1)) (.var ik)) .nil) .nil) (.var (L+1))
theorem Xto{ik L q:Nat}{ps:List Int}{env:En}(he:env.length=L)(h1:env[ik]?=some (some (.ref q)))(hq:Xc S q=some (ps.map D.int)) :
  ev F G (Xha ik L) env S=.ok (.ref S.length) (S++[.lst ((fre ps).map D.int)]):=by
 have hr:Yd [.int (16:Int)]=some (sixt.map D.int):=by rfl
 have key:=Xcj (F:=F) (G:=G) (n:=2) (t:=.var (L+1)) (it:=.rng (.cons (.cst (.int 16)) .nil)) (ifs:=.cons (.cmp .notin (.var (L+1)) (.var ik)) .nil) (elt:=.var (L+1)) (env:=env) (S0:=S) (S:=S) (src:=.con (sixt.map D.int)) (sixt.map D.int) (fun d=>match d with | .int i=>!decide (i∈ps)|_=>false) id
  (fun e=>∃x,e=env++[none,x]) (Xs9 (ds:=[.int (16:Int)]) (by simp only[evs,ev,Rk0]) hr) rfl (fun i=>rfl) (by rw[Vj];exact Ye (by decide)) ⟨none,rfl⟩
  (fun d hd e he'=>by
   obtain⟨x,rfl⟩:=he';obtain⟨i,hi,rfl⟩:=Uh.mp hd;have g1:(env++[none,some (D.int i)])[ik]?=some (some (.ref q)):=Xdh h1;have g2:(env++[none,some (D.int i)])[L+1]?=some (some (.int i)):=Xe9 he _;refine⟨env++[none,some (.int i)],Xdg he x _,⟨_,rfl⟩,?_,fun _=>by simp only[ev,g2,id]⟩
   simp only[evts,ev,g1,g2,Rk0,Xj,X9,Xpb i ps hq,Vy,Xf];cases decide (i∈ps)<;>rfl)
 unfold Xha;rw[key];have e:((sixt.map D.int).filter fun d=>match d with | .int i=>!decide (i∈ps)|_=>false).map id=(fre ps).map D.int:=by
  unfold fre;rw[List.map_id,Vez];rfl
 rw[e]
theorem Xw8{ik L q:Nat}{ps r:List Int}{f:Int}{env:En}(he:env.length=L)(h1:env[ik]?=some (some (.ref q)))(hq:Xc S q=some (ps.map D.int))(hf:fre ps=f::r) :
  ∃X,ev F G (.idx (Xha ik L) (.cst (.int 0))) env S=.ok (.int f) (S++X):=by
 refine⟨[.lst ((fre ps).map D.int)],?_⟩;have hx:Xag (.ref S.length) (.int 0) (S++[.lst ((fre ps).map D.int)])=.ok (.int f) (S++[.lst ((fre ps).map D.int)]):=X5k (i:=0) Xg (by rw[hf];rfl) rfl
 rw[ev,Xto he h1 hq];simp only[Rk0,ev,hx]
end
noncomputable def ptN(w:Nat):List Int:=(V0 (w+1)).map V4
noncomputable def omi(ps:List Int)(p:Int):List Int:=ps.filter fun q=>!decide (q=p)
theorem Xfq:∀w,1<=w->w<=5->Xay ((ptN w).map (omi (ptN w)))=some (stN w)
 |1,_,_=>by decide+kernel
 |2,_,_=>by decide+kernel
 |3,_,_=>by decide+kernel
 |4,_,_=>by decide+kernel
 |5,_,_=>by decide+kernel
 |0,h,_=>by omega
 |w+6,_,h=>by omega
section
variable{F:Fn}{G:List D}{S:Sto}
noncomputable def Xiw:Ex:=.cmr false 2 (.cons (.var 4) (.val (.var 0)) (.cons (.cmp .ne (.var 4) (.var 2)) .nil) .nil) (.var 4)
theorem X50{ps:List Int}{p:Int}{x:Option D}(hl:ps.length<=1000)(S:Sto):ev F G Xiw [some (Xa ps),x,some (.int p)] S=.ok (.ref S.length) (S++[.lst ((omi ps p).map D.int)]):=by
 have key:=Xcj (F:=F) (G:=G) (n:=2) (t:=.var 4) (it:=.val (.var 0)) (ifs:=.cons (.cmp .ne (.var 4) (.var 2)) .nil) (elt:=.var 4) (env:=[some (Xa ps),x,some (.int p)]) (S0:=S) (S:=S) (src:=.con (ps.map D.int)) (ps.map D.int) (fun d=>match d with | .int i=>!decide (i=p)|_=>false) id
  (fun e=>∃z y,e=[some (Xa ps),x,some (.int p),z,y]) (Ys (by simp only[ev,gZ0];rfl)) rfl (fun i=>rfl) (by rw[Vj];exact Ye hl) ⟨none,none,rfl⟩
  (fun d hd e he=>by
   obtain⟨z,y,rfl⟩:=he;obtain⟨i,hi,rfl⟩:=Uh.mp hd;refine⟨[some (Xa ps),x,some (.int p),z,some (.int i)],rfl,⟨_,_,rfl⟩,?_,fun _=>by simp only[ev,gZ0,gS0,id]⟩
   have b:(i==p)=decide (i=p):=by by_cases q:i=p<;>simp[q]
   simp only[evts,ev,gZ0,gS0,Rk0,X49,b,Xf];cases decide (i=p)<;>rfl)
 unfold Xiw;rw[key];have e:((ps.map D.int).filter fun d=>match d with | .int i=>!decide (i=p)|_=>false).map id=(omi ps p).map D.int:=by
  unfold omi;rw[List.map_id,Vez];rfl
 rw[e]
noncomputable def X51:Df:=⟨1,1,.cons (.ret (.blt .tuple (.cons (.blt .srt (.cons (.cmr false 2 (.cons (.var 2) (.val (.var 0)) .nil .nil) (.blt .tuple (.cons Xiw .nil))) .nil)) .nil))) .nil⟩
theorem X1m{w:Nat}(h1:1<=w)(h5:w<=5)(S:Sto):∃X,den F G X51 [Xa (ptN w)] S=.ok (Xb (stN w)) (S++X):=by
 have hl:(ptN w).length<=6:=by simp only[ptN,Vj,Vai];omega
 obtain⟨X,h⟩:=Xmn (F:=F) (G:=G) (S:=S) (L:=1) (env:=[some (Xa (ptN w))]) (e:=.var 0) (elt:=.blt .tuple (.cons Xiw .nil)) (xs:=(ptN w).map D.int) (fun d=>match d with | .int p=>Xa (omi (ptN w) p)|_=>.non) rfl (by simp only[ev,gZ0];rfl) (by rw[Vj];omega)
  (fun d hd X=>by
   obtain⟨p,hp,rfl⟩:=Uh.mp hd;refine⟨X++[.lst ((omi (ptN w) p).map D.int)],?_⟩;show ev F G (.blt .tuple (.cons Xiw .nil)) [some (Xa (ptN w)),none,some (.int p)] (S++X)=_;rw[ev,evs,X50 (by omega) (S++X)]
   simp only[Rk0,evs,Xm,Xx,Xg];simp only[Vo];rfl)
 have e:((ptN w).map D.int).map (fun d=>match d with | .int p=>Xa (omi (ptN w) p)|_=>.non)=((ptN w).map (omi (ptN w))).map Xa:=by
  rw[Vbr,Vbr];rfl
 rw[e]at h;have hs:=Xfe (S:=S++X++[.lst (((ptN w).map (omi (ptN w))).map Xa)]) (q:=(S++X).length) Xg (Xfq w h1 h5);refine⟨X++[.lst (((ptN w).map (omi (ptN w))).map Xa)]++[.lst ((stN w).map Xa)],Yk (env:=[some (Xa (ptN w))]) rfl rfl ?_⟩;refine Xk ?_;have h':ev F G (.cmr false 2 (.cons (.var 2) (.val (.var 0)) .nil .nil) (.blt .tuple (.cons Xiw .nil))) [some (Xa (ptN w))] S=.ok (.ref (S++X).length) (S++X++[.lst (((ptN w).map (omi (ptN w))).map Xa)]):=h;rw[exe,ev,evs,ev,evs,h'];simp only[Rk0,evs,hs];simp only[Xm,Xx,Xg,Rk0];simp only[Vo];rfl
theorem Xtp{xs:List D}{is:Nat}(hs:∀x∈xs,∀Y,∃X,F is [x,x] (S++Y)=.ok (.bl true) (S++Y++X))(hl:xs.length<=100) :
  ∃X,ev F G (Xgh is) [some (.tup xs),some (.tup xs)] S=.ok (.bl true) (S++X):=by
 let zs:List D:=xs.map fun x=>.tup [x,x]
 obtain⟨e',S',h2,⟨Y,h3⟩,h4⟩:=Xdd (F:=F) (G:=G) (t:=.tup [3,4]) (n:=3) (elt:=.call is (.cons (.var 3) (.cons (.var 4) .nil))) (env:=[some (.tup xs),some (.tup xs)]) (S:=S) (S1:=S) (it:=.zpp (.cons (.var 0) (.cons (.var 1) .nil))) (src:=.zpp (.con xs) (.con xs)) zs (fun _=>.bl true)
  (fun i e S'=>(∃Y,S'=S++Y)/\∃u v,e=Xim (.tup xs) (.tup xs) u v)
  (by simp only[evit,evs,ev,gZ0,gS0,Rk0,Yo]) (by simp[Src.most,zs]) (Ye (by simp[zs];omega)) ⟨⟨[],by simp⟩,none,none,rfl⟩ (fun i e S' hP=>by
   simp only[Src.get,Vx,zs];cases xs[i]?<;>rfl)
  (fun i d e S' hd hP=>by
   obtain⟨⟨Y,rfl⟩,u,v,rfl⟩:=hP;simp only[zs,Vx]at hd;cases hy:xs[i]? with
   |none=>rw[hy]at hd;cases hd
   |some y =>
    rw[hy]at hd;have hd':d=.tup [y,y]:=by simpa using hd.symm
    subst hd';obtain⟨X,hX⟩:=hs y (Ur hy) Y;refine⟨Xim (.tup xs) (.tup xs) (some y) (some y),S++Y++X,rfl,?_,⟨Y++X,by simp⟩,_,_,rfl⟩
    simp only[ev,evs,Xim,gZ0,gS0,Rk0,hX])
 have h3':S'=S++Y:=h3;subst h3';have e1:(V0 zs.length).map (fun _=>D.bl true)=(Vh xs.length true).map D.bl:=by
  rw[List.map_const',Vai,Vg7];simp[zs]
 rw[e1]at h2;refine⟨Y++[.lst ((Vh xs.length true).map D.bl)],?_⟩;simp only[Xgh,ev,evs]at h2 ⊢;rw[h2];simp only[Rk0];rw[Xa2,<- Vo];congr 2;simp
theorem Xw9{xs:List D}{is iw:Nat}(hs:∀x∈xs,∀Y,∃X,F is [x,x] (S++Y)=.ok (.bl true) (S++Y++X))(hl:xs.length<=100):∃X,den F G (Xb4 is iw) [.tup xs,.tup xs] S=.ok (.bl true) (S++X):=by
 obtain⟨X,hz⟩:=Xtp (G:=G) hs hl;refine⟨X,?_⟩;have ka:kdD S (.tup xs)=some .tuple:=rfl;have la:Xm .len [.tup xs] S=.ok (.int xs.length) S:=rfl;simp only[den,Xb4,Xkr,Um,if_true,Ug,Vh,Vag,Vz];have inner:pb F G (.cons (.ite (.or (.cmp .ne (.isi (.var 1) [.list]) (.isi (.var 0) [.list])) (.cmp .ne (.isi (.var 1) [.tuple]) (.isi (.var 0) [.tuple]))) (.cons (.ret (.cst (.bl false))) .nil) .nil)
  (.cons (.ret (.and (.cmp .eq (.blt .len (.cons (.var 0) .nil)) (.blt .len (.cons (.var 1) .nil))) (Xgh is))) .nil)) [some (.tup xs),some (.tup xs)] S=.ok (.rt (.bl true)) (S++X):=by
  rw[Xd (e:=[some (.tup xs),some (.tup xs)]) (S1:=S) (Y9 (by simp only[ev,gZ0,gS0,Rk0,ka,Vs,Yc,isT,Xye,Xf,beq_self_eq_true,Ut]))]
  rw[Xk (d:=.bl true) (S1:=S++X) (by
   rw[exe,ev,ev];simp only[ev,evs,gZ0,gS0,Rk0,la,Xax,beq_self_eq_true,Xf];rw[hz,Rk0])]
 rw[Xk (d:=.bl true) (S1:=S++X) (by
  rw[exe];simp only[ev,gZ0,gS0,Rk0,ka,Vs,Yc,isT,Xf];exact inner)]
noncomputable def Xd9(f:Nat):Sts:=.cons (.ret (.call f (.cons (.var 0) (.cons (.var 1) .nil)))) .nil
noncomputable def Xff(f ik:Nat):Df:=⟨2,3,.cons (.try (Xd9 f) 0 2 (.cons (.ret (.call ik (.cons (.var 2) .nil))) .nil)) .nil⟩
theorem Xph{f:Nat}{a b:D}{x:Option D}:pb F G (Xd9 f) [some a,some b,x] S=(match F f [a,b] S with
   |.ok r S'=>.ok (.rt r) S'
   |.ex n S'=>.ex n S'
   |.bad=>.bad):=by
 unfold Xd9;simp only[pb,exe,ev,evs,gZ0,gS0,Rk0];cases F f [a,b] S<;>rfl
theorem X1n{f ik:Nat}{a b r:D}{S':Sto}(h:F f [a,b] S=.ok r S'):den F G (Xff f ik) [a,b] S=.ok r S':=by
 have ha:=Xph (F:=F) (G:=G) (S:=S) (f:=f) (a:=a) (b:=b) (x:=none);rw[h]at ha;have nz:nasgs (Xd9 f)=true:=rfl;simp only[den,Xff,Um,if_true,Ug,Vh];rw[Xk (d:=r) (S1:=S') (by
  rw[exe,iP0 nz];have ha':pb F G (Xd9 f) ([some a,some b]++[none]) S=_:=ha;rw[ha'])]
theorem X1o{f ik k:Nat}{a b r:D}{P S':Sto}(h:F f [a,b] S=.ex P.length (P++[.exc k]))(hk:F ik [.ref P.length] (P++[.exc k])=.ok r S'):den F G (Xff f ik) [a,b] S=.ok r S':=by
 have ha:=Xph (F:=F) (G:=G) (S:=S) (f:=f) (a:=a) (b:=b) (x:=none);rw[h]at ha;have nz:nasgs (Xd9 f)=true:=rfl;have hg:(P++[O.exc k])[P.length]?=some (.exc k):=by rw[U5 (Vl _),Vag];rfl
 have hh:pb F G (.cons (.ret (.call ik (.cons (.var 2) .nil))) .nil) [some a,some b,some (.ref P.length)] (P++[.exc k])=.ok (.rt r) S':=by
  rw[Xk (d:=r) (S1:=S') (by simp only[exe,ev,evs,gZ0,gS0,Rk0,hk])]
 simp only[den,Xff,Um,if_true,Ug,Vh];rw[Xk (d:=r) (S1:=S') (by
  rw[exe,iP0 nz];have ha':pb F G (Xd9 f) ([some a,some b]++[none]) S=_:=ha;rw[ha'];dsimp only;rw[hg];have hh':pb F G (.cons (.ret (.call ik (.cons (.var 2) .nil))) .nil) (([some a,some b]++[none]).set 2 (some (.ref P.length))) (P++[.exc k])=_:=hh;simp only[beq_self_eq_true,Bool.true_or,if_true];rw[hh'])]
theorem Xtq(d:D)(S:Sto):den F G Xku [.tup [d]] S=.ok (.bl true) (S++[.lst []]):=by
 refine Yk (env:=[some (.tup [d])]) rfl rfl ?_;refine Xk ?_;have h:ev F G Xkt [some (.tup [d])] S=.ok (.ref S.length) (S++[.lst (([]:List Bool).map D.bl)]):=by rfl
 rw[exe,ev,evs,h];simp only[Rk0,evs,Xa2];rfl
theorem Xdj{L:Nat}{env:En}{e elt:Ex}{d y:D}{X:Sto}(he:env.length=L)(hc:ev F G e env S=.ok (.tup [d]) S)(ht:ev F G elt (env++[none,some d]) S=.ok y (S++X)) :
  ev F G (.cmr false 2 (.cons (.var (L+1)) (.val e) .nil .nil) elt) env S=.ok (.ref (S++X).length) (S++X++[.lst [y]]):=by
 obtain⟨e',S',h2,h3⟩:=Xdd (F:=F) (G:=G) (t:=.var (L+1)) (n:=2) (elt:=elt) (env:=env) (S:=S) (S1:=S) (src:=.con [d]) [d] (fun _=>y)
  (fun k e S'=>(k=0/\S'=S\/k=1/\S'=S++X)/\∃x,e=env++[none,x]) (Ys hc) rfl (Ye (by show 1<=1000;decide)) ⟨.inl ⟨rfl,rfl⟩,none,rfl⟩ (fun _ _ _ _=>rfl)
  (fun k dd ee S' hd hP=>by
   obtain⟨q,x,rfl⟩:=hP;have hk:k=0:=by
    have:=(Vi.mp hd).1;simp only[Vcd]at this;omega
   subst hk;cases hd;rcases q with⟨_,rfl⟩|⟨q,_⟩
   ·exact⟨env++[none,some d],_,Xdg he x _,ht,.inr ⟨rfl,rfl⟩,_,rfl⟩
   ·cases q)
 obtain⟨q,_⟩:=h3;rcases q with⟨q,_⟩|⟨_,rfl⟩
 ·cases q
 ·exact h2
noncomputable def X52(i9:Nat):Df:=⟨2,2,.cons (.ret (.blt .anb (.cons (.cmr false 2 (.cons (.var 3) (.val (.var 1)) .nil .nil) (.and (.call i9 (.cons (.var 0) (.cons (.var 3) .nil))) (.cmp .ne (.var 0) (.var 3)))) .nil))) .nil⟩
theorem X1p{i9:Nat}{s:List Int}(h9:∀S,F i9 [Xa s,Xa s] S=.ok (.bl true) S)(S:Sto):∃X,den F G (X52 i9) [Xa s,Xb [s]] S=.ok (.bl false) (S++X):=by
 have h:=Xdj (F:=F) (G:=G) (S:=S) (L:=2) (env:=[some (Xa s),some (Xb [s])]) (e:=.var 1) (elt:=.and (.call i9 (.cons (.var 0) (.cons (.var 3) .nil))) (.cmp .ne (.var 0) (.var 3))) (d:=Xa s) (y:=.bl false) (X:=[]) rfl rfl (by
  show ev F G (.and (.call i9 (.cons (.var 0) (.cons (.var 3) .nil))) (.cmp .ne (.var 0) (.var 3))) [some (Xa s),some (Xb [s]),none,some (Xa s)] S=_;simp only[ev,evs,gZ0,gS0,Rk0,h9,Xf,X01,decide_true,Ut,Vz])
 rw[Vz]at h;refine⟨[.lst [.bl false]],Yk (env:=[some (Xa s),some (Xb [s])]) rfl rfl ?_⟩;refine Xk ?_;have a:=Xis (S:=S) (l:=[false]);have a':Xm .anb [.ref S.length] (S++[.lst [.bl false]])=.ok (.bl false) (S++[.lst [.bl false]]):=a;rw[exe,ev,evs,h];simp only[Rk0,evs,a']
noncomputable def X53(i8:Nat):Df:=⟨1,1,.cons (.ret (.blt .anb (.cons (.cmr false 2 (.cons (.var 2) (.val (.var 0)) .nil .nil) (.call i8 (.cons (.var 2) (.cons (.var 0) .nil)))) .nil))) .nil⟩
theorem X1q{i8:Nat}{s:List Int}(h8:∀S,∃X,F i8 [Xa s,Xb [s]] S=.ok (.bl false) (S++X))(S:Sto):∃X,den F G (X53 i8) [Xb [s]] S=.ok (.bl false) (S++X):=by
 obtain⟨X,hX⟩:=h8 S;have h:=Xdj (F:=F) (G:=G) (S:=S) (L:=1) (env:=[some (Xb [s])]) (e:=.var 0) (elt:=.call i8 (.cons (.var 2) (.cons (.var 0) .nil))) (d:=Xa s) (y:=.bl false) (X:=X) rfl rfl (by
  show ev F G (.call i8 (.cons (.var 2) (.cons (.var 0) .nil))) [some (Xb [s]),none,some (Xa s)] S=_;simp only[ev,evs,gZ0,gS0,Rk0,hX])
 refine⟨X++[.lst [.bl false]],Yk (env:=[some (Xb [s])]) rfl rfl ?_⟩;refine Xk ?_;have a':Xm .anb [.ref (S++X).length] (S++X++[.lst [.bl false]])=.ok (.bl false) (S++X++[.lst [.bl false]]):=Xis (S:=S++X) (l:=[false]);rw[exe,ev,evs,h];simp only[Rk0,evs,a'];simp only[Vo]
noncomputable def Xq0:St:=.ite (.or (.not (.isi (.var 0) [.tuple])) (.not (.chn .le .le (.cst (.int 1)) (.blt .len (.cons (.var 0) .nil)) (.glb 2)))) (.cons (.ret (.cst (.bl false))) .nil) .nil
noncomputable def X54(i6:Nat):Ex:=.cmr false 2 (.cons (.var 2) (.val (.var 0)) .nil .nil) (.call i6 (.cons (.var 2) .nil))
noncomputable def Xq1(i6:Nat):St:=.ite (.not (.blt .all (.cons (X54 i6) .nil))) (.cons (.ret (.cst (.bl false))) .nil) .nil
noncomputable def X55(i6 i2 i7:Nat):Df:=⟨1,1,.cons Xq0 (.cons (Xq1 i6) (.cons (.ret (.and (.call i2 (.cons (.var 0) .nil)) (.not (.call i7 (.cons (.var 0) .nil))))) .nil))⟩
theorem X1r{i6 i2 i7:Nat}{s:List Int}(hG:G[2]?=some (.int 60))(h6:∀S,∃X,F i6 [Xa s] S=.ok (.bl true) (S++X))(h2:∀S,∃X,F i2 [Xb [s]] S=.ok (.bl true) (S++X))(h7:∀S,∃X,F i7 [Xb [s]] S=.ok (.bl false) (S++X))(S:Sto) :
  ∃X,den F G (X55 i6 i2 i7) [Xb [s]] S=.ok (.bl true) (S++X):=by
 obtain⟨X1,e1⟩:=h6 S;obtain⟨X2,e2⟩:=h2 (S++X1++[.lst [.bl true]]);obtain⟨X3,e3⟩:=h7 (S++X1++[.lst [.bl true]]++X2);refine⟨X1++[.lst [.bl true]]++X2++X3,Yk (env:=[some (Xb [s])]) rfl rfl ?_⟩;have s1:exe F G Xq0 [some (Xb [s])] S=.ok (.nx [some (Xb [s])]) S:=by
  unfold Xq0;have k:kdD S (Xb [s])=some .tuple:=rfl;have t:Yc .tuple [.tuple]=some true:=rfl;have l:Xm .len [Xb [s]] S=.ok (.int 1) S:=rfl;have c1:((1:Int)<=1):=by decide
  have c2:((1:Int)<=60):=by decide
  simp only[exe,ev,evs,gZ0,Rk0,k,Vs,t,Xf,Ut,l,hG,Xj,X9,c1,c2,decide_true,pb]
 have h:=Xdj (F:=F) (G:=G) (S:=S) (L:=1) (env:=[some (Xb [s])]) (e:=.var 0) (elt:=.call i6 (.cons (.var 2) .nil)) (d:=Xa s) (y:=.bl true) (X:=X1) rfl rfl (by
  show ev F G (.call i6 (.cons (.var 2) .nil)) [some (Xb [s]),none,some (Xa s)] S=_;simp only[ev,evs,gZ0,gS0,Rk0,e1])
 have h':ev F G (X54 i6) [some (Xb [s])] S=.ok (.ref (S++X1).length) (S++X1++[.lst [.bl true]]):=h;have a':Xm .all [.ref (S++X1).length] (S++X1++[.lst [.bl true]])=.ok (.bl true) (S++X1++[.lst [.bl true]]):=Xa2 (S:=S++X1) (l:=[true]);have s2:exe F G (Xq1 i6) [some (Xb [s])] S=.ok (.nx [some (Xb [s])]) (S++X1++[.lst [.bl true]]):=by
  unfold Xq1;simp only[exe,ev,evs,h',Rk0,a',Xf,Ut,pb]
 show pb F G (.cons Xq0 (.cons (Xq1 i6) _)) _ S=_;rw[Xd s1,Xd s2];refine Xk ?_;simp only[exe,ev,evs,gZ0,Rk0,e2,e3,Xf,Vce];simp only[Vo]
noncomputable def X56:Ex:=.cmr false 2 (.cons (.var 2) (.val (.var 0)) .nil .nil) (.cmp .eq (.blt .len (.cons (.var 2) .nil)) (.blt .len (.cons (.idx (.var 0) (.cst (.int 0))) .nil)))
noncomputable def X57:Df:=⟨1,1,.cons (.ret (.blt .all (.cons X56 .nil))) .nil⟩
theorem X1s{s:List Int}(S:Sto):∃X,den F G X57 [Xb [s]] S=.ok (.bl true) (S++X):=by
 have h:=Xdj (F:=F) (G:=G) (S:=S) (L:=1) (env:=[some (Xb [s])]) (e:=.var 0) (elt:=.cmp .eq (.blt .len (.cons (.var 2) .nil)) (.blt .len (.cons (.idx (.var 0) (.cst (.int 0))) .nil))) (d:=Xa s) (y:=.bl true) (X:=[]) rfl rfl (by
  show ev F G (.cmp .eq (.blt .len (.cons (.var 2) .nil)) (.blt .len (.cons (.idx (.var 0) (.cst (.int 0))) .nil))) [some (Xb [s]),none,some (Xa s)] S=_;have i0:=Xiu (n:=[s]) (o:=s) (i:=0) (x:=0) rfl rfl S;simp only[ev,evs,gZ0,gS0,Rk0,Xd7,i0,Xax,beq_self_eq_true,Vz])
 rw[Vz]at h;have h':ev F G X56 [some (Xb [s])] S=.ok (.ref S.length) (S++[.lst [.bl true]]):=h;have a':Xm .all [.ref S.length] (S++[.lst [.bl true]])=.ok (.bl true) (S++[.lst [.bl true]]):=Xa2 (S:=S) (l:=[true]);refine⟨[.lst [.bl true]],Yk (env:=[some (Xb [s])]) rfl rfl ?_⟩;refine Xk ?_;rw[exe,ev,evs,h'];simp only[Rk0,evs,a']
noncomputable def X58:Ex:=.cmr false 2 (.cons (.var 2) (.val (.var 0)) .nil .nil) (.blt .len (.cons (.var 2) .nil))
noncomputable def X59:Df:=⟨1,1,.cons (.ret (.blt .mxl (.cons X58 .nil))) .nil⟩
theorem X1t{s:List Int}(S:Sto):∃X,den F G X59 [Xb [s]] S=.ok (.int s.length) (S++X):=by
 have h:=Xdj (F:=F) (G:=G) (S:=S) (L:=1) (env:=[some (Xb [s])]) (e:=.var 0) (elt:=.blt .len (.cons (.var 2) .nil)) (d:=Xa s) (y:=.int s.length) (X:=[]) rfl rfl (by
  show ev F G (.blt .len (.cons (.var 2) .nil)) [some (Xb [s]),none,some (Xa s)] S=_;simp only[ev,evs,gZ0,gS0,Rk0,Xd7,Vz])
 rw[Vz]at h;have h':ev F G X58 [some (Xb [s])] S=.ok (.ref S.length) (S++[.lst [.int s.length]]):=h;have a':Xm .mxl [.ref S.length] (S++[.lst [.int s.length]])=.ok (.int s.length) (S++[.lst [.int s.length]]):=by
  simp only[Xm,Xx,Xg,Vs,Xl,Vy,List.foldl_nil]
 refine⟨[.lst [.int s.length]],Yk (env:=[some (Xb [s])]) rfl rfl ?_⟩;refine Xk ?_;rw[exe,ev,evs,h'];simp only[Rk0,evs,a']
noncomputable def Xq2(i5:Nat):St:=.expr (.call i5 (.cons (.var 0) .nil))
noncomputable def Xq3(i16 i13:Nat)(m:Str):St:=.ite (.or (.not (.call i16 (.cons (.var 0) .nil))) (.cmp .eq (.call i13 (.cons (.var 0) .nil)) (.cst (.int 0)))) (.cons (.rse 9 (.cst (.str m))) .nil) .nil
noncomputable def Xxa(m:Str):St:=.ite (.cmp .gt (.blt .len (.cons (.var 1) .nil)) (.glb 2)) (.cons (.rse 5 (.cst (.str m))) .nil) .nil
noncomputable def X6a(i5 i16 i13 i17:Nat)(m1 m2:Str):Df:=⟨1,2,.cons (Xq2 i5) (.cons (Xq3 i16 i13 m1) (.cons (.asg (.var 1) (.call i17 (.cons (.var 0) .nil))) (.cons (Xxa m2) (.cons (.ret (.ite (.var 1) (.blt .tuple (.cons (.var 1) .nil)) (.cst .non))) .nil))))⟩
theorem X1u{i5 i16 i13 i17 w:Nat}{m1 m2:Str}{n r:List (List Int)}(hG:G[2]?=some (.int 60))(hw:1<=w)(hr:r≠[])(hl:r.length<=60)(h5:∀S,∃X,F i5 [Xb n] S=.ok .non (S++X))(h16:∀S,∃X,F i16 [Xb n] S=.ok (.bl true) (S++X))(h13:∀S,∃X,F i13 [Xb n] S=.ok (.int w) (S++X))
  (h17:∀S,∃X,F i17 [Xb n] S=.ok (.ref (S++X).length) (S++X++[.lst (r.map Xa)])) (S:Sto):∃X,den F G (X6a i5 i16 i13 i17 m1 m2) [Xb n] S=.ok (Xb r) (S++X):=by
 obtain⟨X1,e1⟩:=h5 S;obtain⟨X2,e2⟩:=h16 (S++X1);obtain⟨X3,e3⟩:=h13 (S++X1++X2);obtain⟨X4,e4⟩:=h17 (S++X1++X2++X3);refine⟨X1++X2++X3++X4++[.lst (r.map Xa)],Yk (env:=[some (Xb n),none]) rfl rfl ?_⟩;have s1:exe F G (Xq2 i5) [some (Xb n),none] S=.ok (.nx [some (Xb n),none]) (S++X1):=by
  unfold Xq2;simp only[exe,ev,evs,gZ0,Rk0,e1]
 have s2:exe F G (Xq3 i16 i13 m1) [some (Xb n),none] (S++X1)=.ok (.nx [some (Xb n),none]) (S++X1++X2++X3):=by
  unfold Xq3;have b:((w:Int)==0)=false:=by
   have:¬ ((w:Int)=0):=by omega
   exact beq_eq_false_iff_ne.mpr this
  simp only[exe,ev,evs,gZ0,Rk0,e2,e3,Xf,Ut,Xax,b,pb]
 have s3:=Yn (i:=1) (F:=F) (G:=G) (e:=.call i17 (.cons (.var 0) .nil)) (env:=[some (Xb n),none]) (S:=S++X1++X2++X3) (by simp only[ev,evs,gZ0,Rk0,e4];rfl)
 have k:Xc (S++X1++X2++X3++X4++[.lst (r.map Xa)]) (S++X1++X2++X3++X4).length=some (r.map Xa):=Xg;have kt:Xf (S++X1++X2++X3++X4++[.lst (r.map Xa)]) (.ref (S++X1++X2++X3++X4).length)=some true:=by
  have hS:(S++X1++X2++X3++X4++[O.lst (r.map Xa)])[(S++X1++X2++X3++X4).length]?=some (.lst (r.map Xa)):=List.getElem?_concat_length;simp only[Xf,hS];cases r with
  |nil=>exact aB0 rfl hr
  |cons a b=>rfl
 have s4:exe F G (Xxa m2) [some (Xb n),some (.ref (S++X1++X2++X3++X4).length)] (S++X1++X2++X3++X4++[.lst (r.map Xa)])=.ok (.nx [some (Xb n),some (.ref (S++X1++X2++X3++X4).length)]) (S++X1++X2++X3++X4++[.lst (r.map Xa)]):=by
  unfold Xxa;have nn:¬ ((60:Int)<(r.length:Int)):=by omega
  simp only[exe,ev,evs,gZ0,gS0,Rk0,Xiq k,Vj,hG,Xj,X9,nn,decide_false,Xf,pb]
 show pb F G (.cons (Xq2 i5) (.cons (Xq3 i16 i13 m1) (.cons (.asg (.var 1) (.call i17 (.cons (.var 0) .nil))) _))) _ S=_;rw[Xd s1,Xd s2];refine(Xd s3).trans ?_;refine(Xd s4).trans ?_;refine Xk ?_;simp only[exe,ev,evs,gZ0,gS0,Rk0,kt];simp only[Xm,Xx,k,Rk0];simp only[Vo];rfl
end
theorem Xmq{S X:Sto}{o:O}:(S++[o]++X)[S.length]?=some o:=by
 rw[Vo,U5 (Vl _),Vag];rfl
theorem Xpi{S X:Sto}{o o':O}:(S++[o]++X).set S.length o'=S++[o']++X:=by
 rw[Vo,Vf8 _ _ (Vl _),Vag,Vo];rfl
noncomputable def sgK(ps:List Int)(i:Nat):List (List Int×D):=(ps.take i).map fun p=>(lft ps [p],D.int 1)
theorem X6b{ps:List Int}{p q:Int}(hq:q∈ps)(h:p≠q):lft ps [p]≠lft ps [q]:=fun e=>by
 have h1:q∈lft ps [p]:=Vcj.mpr ⟨hq,by simp[Ne.symm h]⟩
 rw[e]at h1;have:=(Vcj.mp h1).2;simp at this
theorem Xtr{ps:List Int}(nd:ps.Nodup){i:Nat}(hi:i<ps.length):Y0 (sgK ps i) (lft ps [ps[i]])=none:=by
 unfold Y0;have:(sgK ps i).find? (fun p=>decide (p.1=lft ps [ps[i]]))=none:=by
  rw[List.find?_eq_none];intro x hx;obtain⟨p,hp,rfl⟩:=Uh.mp hx;obtain⟨j,hj,e⟩:=Vbm.mp hp;simp only[decide_eq_true_eq];refine X6b (Vbz hi) fun z=>?_
  rw[Vbx]at hj;rw[List.getElem_take]at e;have:j=i:=(List.getElem_inj nd).mp (e.trans z);omega
 rw[this];rfl
theorem X6c{ps:List Int}(nd:ps.Nodup){i:Nat}(hi:i<ps.length):Xb0 (sgK ps i) (lft ps [ps[i]]) (.int 1)=sgK ps (i+1):=by
 unfold Xb0;rw[Xtr nd hi];show(if false=true then _ else _)=_
 rw[iN0 (by decide)]
 unfold sgK;rw[Vgz,Vq hi,Val];rfl
section
variable{F:Fn}{G:List D}{S:Sto}
noncomputable def sgI(i14:Nat):Sts:=.cons (.asg (.var 4) (.call i14 (.cons (.var 2) (.cons (.tup (.cons (.var 3) .nil)) .nil)))) (.cons (.aset (.var 1) (.var 4) (.bin .add (.dgt (.var 1) (.cons (.var 4) (.cons (.cst (.int 0)) .nil))) (.cst (.int 1)))) .nil)
noncomputable def sgE:Ex:=.cmr false 3 (.cons (.tup [6,7]) (.itm (.var 1)) (.cons (.cmp .eq (.var 7) (.cst (.int 1))) .nil) .nil) (.var 6)
noncomputable def X6d(i14:Nat):Df:=⟨1,5,.cons (.asg (.var 1) .dct0) (.cons (.for (.var 2) (.val (.var 0)) (.cons (.for (.var 3) (.val (.var 2)) (sgI i14)) .nil)) (.cons (.ret (.blt .srt (.cons sgE .nil))) .nil))⟩
theorem X1v{i14:Nat}{ps:List Int}{i:Nat}(nd:ps.Nodup)(hi:i<ps.length)(hl:ps.length<=6)(h14:∀(a b:List Int) S,a.length<=6->F i14 [Xa a,Xa b] S=.ok (Xa (lft a b)) (S++[.lst ((lft a b).map D.int)]))(n:D)(x:Option D)(X:Sto) :
  pb F G (sgI i14) [some n,some (.ref S.length),some (Xa ps),some (.int ps[i]),x] (S++[.dct (sgK ps i)]++X)=.ok (.nx [some n,some (.ref S.length),some (Xa ps),some (.int ps[i]),some (Xa (lft ps [ps[i]]))]) (S++[.dct (sgK ps (i+1))]++(X++[.lst ((lft ps [ps[i]]).map D.int)])):=by
 unfold sgI;have c:=h14 ps [ps[i]] (S++[.dct (sgK ps i)]++X) hl;have s1:=Yn (i:=4) (F:=F) (G:=G) (e:=.call i14 (.cons (.var 2) (.cons (.tup (.cons (.var 3) .nil)) .nil))) (env:=[some n,some (.ref S.length),some (Xa ps),some (.int ps[i]),x]) (S:=S++[.dct (sgK ps i)]++X) (by
  simp only[ev,evs,gZ0,gS0,Rk0];exact c)
 refine(Xd s1).trans ?_;have ea:S++[O.dct (sgK ps i)]++X++[O.lst ((lft ps [ps[i]]).map D.int)]=S++[O.dct (sgK ps i)]++(X++[O.lst ((lft ps [ps[i]]).map D.int)]):=Vo _ _ _;rw[ea];have m1:Yx (S++[.dct (sgK ps i)]++(X++[.lst ((lft ps [ps[i]]).map D.int)])) S.length=some (sgK ps i):=by unfold Yx;rw[Xmq]
 have m2:Xdw (S++[.dct (sgK ps i)]++(X++[.lst ((lft ps [ps[i]]).map D.int)])) S.length=some (sgK ps i):=by unfold Xdw;rw[Xmq]
 have ai:Xl ((lft ps [ps[i]]).map D.int)=some (lft ps [ps[i]]):=Xcx _;have lk:(sgK ps i).length<big:=by unfold sgK big;rw[Vj,Vbx];omega
 have g:Xcu (.ref S.length) [Xa (lft ps [ps[i]]),.int 0] (S++[.dct (sgK ps i)]++(X++[.lst ((lft ps [ps[i]]).map D.int)]))=.ok (.int 0) (S++[.dct (sgK ps i)]++(X++[.lst ((lft ps [ps[i]]).map D.int)])):=by
  unfold Xa;simp only[Xcu,m1,ai,Xtr nd hi,Option.getD_none]
 have a:Xbm (.ref S.length) (Xa (lft ps [ps[i]])) (.int 1) (S++[.dct (sgK ps i)]++(X++[.lst ((lft ps [ps[i]]).map D.int)]))=.ok () (S++[.dct (sgK ps (i+1))]++(X++[.lst ((lft ps [ps[i]]).map D.int)])):=by
  unfold Xa;simp only[Xbm,m2,ai,lk,if_true,X6c nd hi,Xpi]
 have b1:∀Z,Xo .add (.int 0) (.int 1) Z=.ok (.int 1) Z:=fun Z=>Y8 0 1 Z
 have s2:exe F G (.aset (.var 1) (.var 4) (.bin .add (.dgt (.var 1) (.cons (.var 4) (.cons (.cst (.int 0)) .nil))) (.cst (.int 1)))) [some n,some (.ref S.length),some (Xa ps),some (.int ps[i]),some (Xa (lft ps [ps[i]]))] (S++[.dct (sgK ps i)]++(X++[.lst ((lft ps [ps[i]]).map D.int)]))=.ok (.nx [some n,some (.ref S.length),some (Xa ps),some (.int ps[i]),some (Xa (lft ps [ps[i]]))]) (S++[.dct (sgK ps (i+1))]++(X++[.lst ((lft ps [ps[i]]).map D.int)])):=by
  simp only[exe,ev,evs,gZ0,gS0,Rk0,Xus,m1,Option.isSome_some,if_true,g,b1,a]
 refine(Xd s2).trans ?_;simp only[pb]
theorem X1w{i14:Nat}{ps:List Int}{r:List (List Int)}(nd:ps.Nodup)(hl:ps.length<=6)(h14:∀(a b:List Int) S,a.length<=6->F i14 [Xa a,Xa b] S=.ok (Xa (lft a b)) (S++[.lst ((lft a b).map D.int)]))(hr:Xay (ps.map fun p=>lft ps [p])=some r)(S:Sto) :
  ∃X,den F G (X6d i14) [Xb [ps]] S=.ok (.ref (S++X).length) (S++X++[.lst (r.map Xa)]):=by
 have lb:ps.length<=big:=Ye (by omega)
 have s1:=Yn (i:=1) (F:=F) (G:=G) (e:=.dct0) (env:=[some (Xb [ps]),none,none,none,none]) (S:=S) (d:=.ref S.length) (S':=S++[.dct []]) (by simp only[ev])
 have inn:∀(x3 x4:Option D),∃y3 y4 X,Xu (Src.con (ps.map D.int)).get (.var 3) (fun env S=>pb F G (sgI i14) env S) (ps.length+1) 0 [some (Xb [ps]),some (.ref S.length),some (Xa ps),x3,x4] (S++[.dct []])=.ok (.nx [some (Xb [ps]),some (.ref S.length),some (Xa ps),y3,y4]) (S++[.dct (sgK ps ps.length)]++X):=fun x3 x4=>by
  obtain⟨e',S',h1,h2⟩:=Xcp (get:=(Src.con (ps.map D.int)).get) (t:=.var 3) (body:=fun env S=>pb F G (sgI i14) env S) (ps.map D.int) (fun k e Z=>∃y3 y4 X,e=[some (Xb [ps]),some (.ref S.length),some (Xa ps),y3,y4]/\Z=S++[.dct (sgK ps k)]++X)
   (fun i e S _=>rfl) (fun i d e Z hd hP=>by
    obtain⟨y3,y4,X,rfl,rfl⟩:=hP;have hi:i<ps.length:=by simpa using (Vi.mp hd).1
    rw[Vx,Vq hi]at hd;cases hd;exact⟨_,_,_,rfl,X1v nd hi hl h14 (Xb [ps]) y4 X,_,_,_,rfl,rfl⟩) (ps.length+1) 0 [some (Xb [ps]),some (.ref S.length),some (Xa ps),x3,x4] (S++[.dct []]) ⟨x3,x4,[],rfl,by rw[Vz];rfl⟩ (Ul _) (by simp)
  obtain⟨y3,y4,X,rfl,rfl⟩:=h2;rw[Vj]at h1;exact⟨y3,y4,X,h1⟩
 have out:∃y2 y3 y4 X,exe F G (.for (.var 2) (.val (.var 0)) (.cons (.for (.var 3) (.val (.var 2)) (sgI i14)) .nil)) [some (Xb [ps]),some (.ref S.length),none,none,none] (S++[.dct []])=.ok (.nx [some (Xb [ps]),some (.ref S.length),y2,y3,y4]) (S++[.dct (sgK ps ps.length)]++X):=by
  obtain⟨y3,y4,X,h⟩:=inn none none;refine⟨some (Xa ps),y3,y4,X,?_⟩;have i1:evit F G (.val (.var 0)) [some (Xb [ps]),some (.ref S.length),none,none,none] (S++[.dct []])=.ok (.con [Xa ps]) (S++[.dct []]):=Ys (by simp only[ev,gZ0];rfl)
  have i2:evit F G (.val (.var 2)) [some (Xb [ps]),some (.ref S.length),some (Xa ps),none,none] (S++[.dct []])=.ok (.con (ps.map D.int)) (S++[.dct []]):=Ys (by simp only[ev,gZ0,gS0];rfl)
  have b:pb F G (.cons (.for (.var 3) (.val (.var 2)) (sgI i14)) .nil) [some (Xb [ps]),some (.ref S.length),some (Xa ps),none,none] (S++[.dct []])=.ok (.nx [some (Xb [ps]),some (.ref S.length),some (Xa ps),y3,y4]) (S++[.dct (sgK ps ps.length)]++X):=by
   rw[pb,exe,i2,Rk0];simp only[Src.most,Vj];rw[h];simp only[pb]
  rw[exe,i1,Rk0];show Xu (Src.con [Xa ps]).get (.var 2) _ 2 0 _ _=_;simp only[Xu,Src.get,gZ0,Xr,Vc2,b,gS0,List.getElem?_nil]
 obtain⟨y2,y3,y4,X,o1⟩:=out;have e1:ev F G sgE [some (Xb [ps]),some (.ref S.length),y2,y3,y4] (S++[.dct (sgK ps ps.length)]++X)=.ok (.ref (S++[O.fdc (sgK ps ps.length)]++X).length) (S++[O.fdc (sgK ps ps.length)]++X++[.lst ((ps.map fun p=>lft ps [p]).map Xa)]):=by
  have it:evit F G (.itm (.var 1)) [some (Xb [ps]),some (.ref S.length),y2,y3,y4] (S++[.dct (sgK ps ps.length)]++X)=.ok (.con ((sgK ps ps.length).map Xee)) (S++[O.fdc (sgK ps ps.length)]++X):=by
   have m1:Yx (S++[.dct (sgK ps ps.length)]++X) S.length=some (sgK ps ps.length):=by unfold Yx;rw[Xmq]
   simp only[evit,ev,gZ0,gS0,Rk0,m1,Xpi]
  have:=Xcj (F:=F) (G:=G) (t:=.tup [6,7]) (n:=3) (ifs:=.cons (.cmp .eq (.var 7) (.cst (.int 1))) .nil) (elt:=.var 6) (env:=[some (Xb [ps]),some (.ref S.length),y2,y3,y4]) (it:=.itm (.var 1)) (S:=S++[O.fdc (sgK ps ps.length)]++X) ((sgK ps ps.length).map Xee) (fun _=>true) (fun d=>match d with | .tup (a::_)=>a|_=>.non)
   (fun e=>∃x5 x6 x7,e=[some (Xb [ps]),some (.ref S.length),y2,y3,y4,x5,x6,x7]) it rfl (fun i=>rfl) (by rw[Vj];unfold sgK;rw[Vj,Vbx];omega) ⟨none,none,none,rfl⟩ (fun d hd e ⟨x5,x6,x7,he⟩=>by
    subst he;obtain⟨q,hq,rfl⟩:=Uh.mp hd;obtain⟨p,hp,rfl⟩:=Uh.mp hq;refine⟨_,rfl,⟨_,_,_,rfl⟩,?_,fun _=>rfl⟩
    simp only[List.zip,List.zipWith,Vei,Vc2,evts,ev,gZ0,gS0,Rk0,Xax,beq_self_eq_true,Xf])
  refine this.trans ?_;have el:(((sgK ps ps.length).map Xee).filter fun _=>true).map (fun d=>match d with | .tup (a::_)=>a|_=>.non)=(ps.map fun p=>lft ps [p]).map Xa:=by
   unfold sgK;rw[Vev.mpr (fun _ _=>rfl),Vc1,Vbr,Vbr,Vbr]
   exact List.map_congr_left fun p hp=>rfl
  rw[el]
 refine⟨[O.fdc (sgK ps ps.length)]++X++[.lst ((ps.map fun p=>lft ps [p]).map Xa)],Yk (env:=[some (Xb [ps]),none,none,none,none]) rfl rfl ?_⟩
 refine(Xd s1).trans ?_;refine(Xd o1).trans ?_;refine Xk ?_;have k:=Xfe (S:=S++[O.fdc (sgK ps ps.length)]++X++[.lst ((ps.map fun p=>lft ps [p]).map Xa)]) (q:=(S++[O.fdc (sgK ps ps.length)]++X).length) Xg hr
 rw[exe,ev,evs,e1];simp only[Rk0,evs,k];simp only[Vo]
end
end Z
end
section
namespace K64
open PySem PySem.Spec PyProof.Rows L2 Z
noncomputable def top(i:Nat):Stmt:=PySem.Challenge.pw_facecounts_k64_stacked_nets.main.body.getD i (.Pass ⟨0,0,0,0⟩)
noncomputable def gns:List Str:=["GREATEST_POINT","GREATEST_SIZE","MOST_SIDES","GREATEST_STACKED_WIDTH","MOST_PLACES"]
noncomputable def G:List D:=[.int 15,.int 6,.int 60,.int 5,.int 10]
noncomputable def fns:List (Str×Nat×Bool):=([("is_whole",1,true),("is_whole_within",3,true),("is_rising",1,true),("is_whole_tuple",1,true),("is_net",1,true),("check_net",1,true),("is_any_face",1,true),("is_nested",1,true),("lies_in_another",2,true),("lies_in",2,true),("has_face",2,true),("ring_of",2,true),("points_of",1,true),("width_of",1,true),("left_of",2,true),("border",1,true),("has_one_size",1,true),("single_faces",1,true),("exchanged",2,true),("has_swap",2,true)]:List (Str×Nat×Bool))++([("into_of",2,true),("free_point",1,true),("stacked",2,true),("with_point_on",2,true),("_law_cell_at",2,true),("_law_pot",1,true),("_law_take",2,true),("_law_whole",1,true),("_law_same",2,true),("_law_simplex",1,true),("_law_lies",2,true),("_law_less",2,true),("_law_points",1,true),("_law_swapped",2,true),("_law_kind_of",1,false),("_law_told_by",2,true),("_law_told",2,true),("law",1,true)]:List (Str×Nat×Bool))
noncomputable def Xq4:Sts:=(.cons (.ret (.and (.isi (.var 0) [.int]) (.not (.isi (.var 0) [.bool]))))
  .nil)
noncomputable def Xhb:Df:=⟨1,1,Xq4⟩
noncomputable def Xq5:List Str:=["thing"]
noncomputable def Xfg:Sts:=(.cons (.ret (.and (.call 0 (.cons (.var 0) .nil)) (.chn .le .le (.var 1) (.var 0) (.var 2))))
  .nil)
noncomputable def Xbw:Df:=⟨3,3,Xfg⟩
noncomputable def Xfh:List Str:=["thing","low","high"]
noncomputable def Xnb:Sts:=(.cons (.ret (.blt .all (.cons (.cmr false 3 (.cons (.tup [2,3]) (.zpp (.cons (.var 0) (.cons (.sli (.var 0) (.some (.cst (.int 1))) .none) .nil))) .nil .nil) (.cmp .lt (.var 2) (.var 3))) .nil)))
  .nil)
noncomputable def Xfr:Df:=⟨1,1,Xnb⟩
noncomputable def Xnc:List Str:=["things"]
noncomputable def Xgm:Sts:=(.cons (.ret (.and (.isi (.var 0) [.tuple]) (.blt .all (.cons (.cmr false 2 (.cons (.var 2) (.val (.var 0)) .nil .nil) (.call 0 (.cons (.var 2) .nil))) .nil))))
  .nil)
noncomputable def Xck:Df:=⟨1,1,Xgm⟩
noncomputable def Xgn:List Str:=["thing"]
noncomputable def Xxb:Sts:=(.cons (.ite (.or (.not (.isi (.var 0) [.tuple])) (.not (.chn .le .le (.cst (.int 1)) (.blt .len (.cons (.var 0) .nil)) (.glb 2)))) (.cons (.ret (.cst (.bl false)))
  .nil) .nil)
  (.cons (.ite (.not (.blt .all (.cons (.cmr false 2 (.cons (.var 2) (.val (.var 0)) .nil .nil) (.call 6 (.cons (.var 2) .nil))) .nil))) (.cons (.ret (.cst (.bl false)))
  .nil) .nil)
  (.cons (.ret (.and (.call 2 (.cons (.var 0) .nil)) (.not (.call 7 (.cons (.var 0) .nil)))))
  .nil)))
noncomputable def Xmr:Df:=⟨1,1,Xxb⟩
noncomputable def Xxc:List Str:=["thing"]
noncomputable def Xc0:Sts:=(.cons (.ite (.not (.call 4 (.cons (.var 0) .nil))) (.cons (.rse 1 (.cst (.str "a net is due")))
  .nil) .nil)
  .nil)
noncomputable def d_check_net:Df:=⟨1,1,Xc0⟩
noncomputable def Xnd:List Str:=["thing"]
noncomputable def Xkf:Sts:=(.cons (.ite (.or (.not (.isi (.var 0) [.tuple])) (.cmp .gt (.blt .len (.cons (.var 0) .nil)) (.glb 1))) (.cons (.ret (.cst (.bl false)))
  .nil) .nil)
  (.cons (.ret (.and (.blt .all (.cons (.cmr false 2 (.cons (.var 2) (.val (.var 0)) .nil .nil) (.call 1 (.cons (.var 2) (.cons (.cst (.int 0)) (.cons (.glb 0) .nil))))) .nil)) (.call 2 (.cons (.var 0) .nil))))
  .nil))
noncomputable def Xeb:Df:=⟨1,1,Xkf⟩
noncomputable def Xkg:List Str:=["thing"]
noncomputable def Xne:Sts:=(.cons (.ret (.blt .anb (.cons (.cmr false 2 (.cons (.var 2) (.val (.var 0)) .nil .nil) (.call 8 (.cons (.var 2) (.cons (.var 0) .nil)))) .nil)))
  .nil)
noncomputable def Xfs:Df:=⟨1,1,Xne⟩
noncomputable def Xnf:List Str:=["sides"]
noncomputable def Xfi:Sts:=(.cons (.ret (.blt .anb (.cons (.cmr false 2 (.cons (.var 3) (.val (.var 1)) .nil .nil) (.and (.call 9 (.cons (.var 0) (.cons (.var 3) .nil))) (.cmp .ne (.var 0) (.var 3)))) .nil)))
  .nil)
noncomputable def Xbx:Df:=⟨2,2,Xfi⟩
noncomputable def Xfj:List Str:=["face","sides"]
noncomputable def Xts:Sts:=(.cons (.for (.var 2) (.val (.var 0)) (.cons (.ite (.cmp .notin (.var 2) (.var 1)) (.cons (.ret (.cst (.bl false)))
  .nil) .nil)
  .nil))
  (.cons (.ret (.cst (.bl true)))
  .nil))
noncomputable def Xj8:Df:=⟨2,3,Xts⟩
noncomputable def Xtt:List Str:=["inner","outer","point"]
noncomputable def Xq6:Sts:=(.cons (.ret (.and (.call 6 (.cons (.var 1) .nil)) (.blt .anb (.cons (.cmr false 2 (.cons (.var 3) (.val (.var 0)) .nil .nil) (.call 9 (.cons (.var 1) (.cons (.var 3) .nil)))) .nil))))
  .nil)
noncomputable def Xhc:Df:=⟨2,2,Xq6⟩
noncomputable def Xq7:List Str:=["net","thing"]
noncomputable def Xtu:Sts:=(.cons (.ret (.blt .tuple (.cons (.blt .srt (.cons (.cmr false 2 (.cons (.var 3) (.val (.var 0)) (.cons (.call 9 (.cons (.var 1) (.cons (.var 3) .nil))) .nil) .nil) (.call 14 (.cons (.var 3) (.cons (.var 1) .nil)))) .nil)) .nil)))
  .nil)
noncomputable def Xj9:Df:=⟨2,2,Xtu⟩
noncomputable def Xtv:List Str:=["net","face"]
noncomputable def Xng:Sts:=(.cons (.ret (.cms 3 (.cons (.var 2) (.val (.var 0)) .nil (.cons (.var 3) (.val (.var 2)) .nil .nil)) (.var 3)))
  .nil)
noncomputable def Xft:Df:=⟨1,1,Xng⟩
noncomputable def Xnh:List Str:=["net"]
noncomputable def Xq8:Sts:=(.cons (.ret (.blt .mxl (.cons (.cmr false 2 (.cons (.var 2) (.val (.var 0)) .nil .nil) (.blt .len (.cons (.var 2) .nil))) .nil)))
  .nil)
noncomputable def Xhd:Df:=⟨1,1,Xq8⟩
noncomputable def Xq9:List Str:=["net"]
noncomputable def Xtw:Sts:=(.cons (.ret (.blt .tuple (.cons (.cmr false 2 (.cons (.var 3) (.val (.var 0)) (.cons (.cmp .notin (.var 3) (.var 1)) .nil) .nil) (.var 3)) .nil)))
  .nil)
noncomputable def Xka:Df:=⟨2,2,Xtw⟩
noncomputable def Xtx:List Str:=["side","face"]
noncomputable def Xxd:Sts:=(.cons (.expr (.call 5 (.cons (.var 0) .nil)))
  (.cons (.ite (.or (.not (.call 16 (.cons (.var 0) .nil))) (.cmp .eq (.call 13 (.cons (.var 0) .nil)) (.cst (.int 0)))) (.cons (.rse 9 (.cst (.str "a level net with points is due")))
  .nil) .nil)
  (.cons (.asg (.var 1) (.call 17 (.cons (.var 0) .nil)))
  (.cons (.ite (.cmp .gt (.blt .len (.cons (.var 1) .nil)) (.glb 2)) (.cons (.rse 5 (.cst (.str "the border would have more than sixty sides")))
  .nil) .nil)
  (.cons (.ret (.ite (.var 1) (.blt .tuple (.cons (.var 1) .nil)) (.cst .non)))
  .nil)))))
noncomputable def Xms:Df:=⟨1,2,Xxd⟩
noncomputable def Xxe:List Str:=["net","outer"]
noncomputable def Xix:Sts:=(.cons (.ret (.blt .all (.cons (.cmr false 2 (.cons (.var 2) (.val (.var 0)) .nil .nil) (.cmp .eq (.blt .len (.cons (.var 2) .nil)) (.blt .len (.cons (.idx (.var 0) (.cst (.int 0))) .nil)))) .nil)))
  .nil)
noncomputable def Xdk:Df:=⟨1,1,Xix⟩
noncomputable def Xiy:List Str:=["net"]
noncomputable def Xiz:Sts:=(.cons (.asg (.var 1) .dct0)
  (.cons (.for (.var 2) (.val (.var 0)) (.cons (.for (.var 3) (.val (.var 2)) (.cons (.asg (.var 4) (.call 14 (.cons (.var 2) (.cons (.tup (.cons (.var 3) .nil)) .nil))))
  (.cons (.aset (.var 1) (.var 4) (.bin .add (.dgt (.var 1) (.cons (.var 4) (.cons (.cst (.int 0)) .nil))) (.cst (.int 1))))
  .nil)))
  .nil))
  (.cons (.ret (.blt .srt (.cons (.cmr false 3 (.cons (.tup [6,7]) (.itm (.var 1)) (.cons (.cmp .eq (.var 7) (.cst (.int 1))) .nil) .nil) (.var 6)) .nil)))
  .nil)))
noncomputable def Xdl:Df:=⟨1,5,Xiz⟩
noncomputable def Xi0:List Str:=["net","many","side","point","face"]
noncomputable def Xni:Sts:=(.cons (.ite (.not (.call 19 (.cons (.var 0) (.cons (.var 1) .nil)))) (.cons (.rse 13 (.cst (.str "a swap of the net is due")))
  .nil) .nil)
  (.cons (.asg (.tup [4,5]) (.var 1))
  (.cons (.asg (.var 2) (.cmr false 2 (.cons (.var 7) (.val (.var 0)) (.cons (.not (.call 9 (.cons (.var 4) (.cons (.var 7) .nil)))) .nil) .nil) (.var 7)))
  (.cons (.asg (.var 3) (.cmr false 2 (.cons (.var 7) (.val (.var 4)) .nil .nil) (.blt .tuple (.cons (.blt .sorted (.cons (.bin .add (.var 5) (.call 14 (.cons (.var 4) (.cons (.tup (.cons (.var 7) .nil)) .nil)))) .nil)) .nil))))
  (.cons (.ite (.cmp .gt (.bin .add (.blt .len (.cons (.var 2) .nil)) (.blt .len (.cons (.var 3) .nil))) (.glb 2)) (.cons (.rse 5 (.cst (.str "the net would have more than sixty sides")))
  .nil) .nil)
  (.cons (.ret (.blt .tuple (.cons (.blt .srt (.cons (.bin .add (.var 2) (.var 3)) .nil)) .nil)))
  .nil))))))
noncomputable def Xfu:Df:=⟨2,6,Xni⟩
noncomputable def Xnj:List Str:=["net","swap","kept","come","out","into"]
noncomputable def Xra:Sts:=(.cons (.ite (.or (.not (.isi (.var 1) [.tuple])) (.cmp .ne (.blt .len (.cons (.var 1) .nil)) (.cst (.int 2)))) (.cons (.ret (.cst (.bl false)))
  .nil) .nil)
  (.cons (.asg (.tup [2,3]) (.var 1))
  (.cons (.ret (.and (.call 6 (.cons (.var 3) .nil)) (.and (.call 10 (.cons (.var 0) (.cons (.var 2) .nil))) (.cmp .eq (.call 20 (.cons (.var 0) (.cons (.var 2) .nil))) (.var 3)))))
  .nil)))
noncomputable def Xhe:Df:=⟨2,4,Xra⟩
noncomputable def Xrb:List Str:=["net","thing","out","into"]
noncomputable def Xty:Sts:=(.cons (.ite (.cmp .eq (.var 1) (.tup .nil)) (.cons (.ret (.cst .non))
  .nil) .nil)
  (.cons (.ite (.cmp .isin (.var 1) (.var 0)) (.cons (.ret (.call 21 (.cons (.var 0) .nil)))
  .nil) .nil)
  (.cons (.asg (.var 2) (.call 11 (.cons (.var 0) (.cons (.var 1) .nil))))
  (.cons (.asg (.var 3) (.blt .tuple (.cons (.call 12 (.cons (.var 2) .nil)) .nil)))
  (.cons (.asg (.var 4) (.bin .sub (.bin .add (.call 13 (.cons (.var 0) .nil)) (.cst (.int 1))) (.blt .len (.cons (.var 1) .nil))))
  (.cons (.ite (.or (.cmp .ne (.blt .len (.cons (.var 3) .nil)) (.var 4)) (.or (.cmp .ne (.blt .len (.cons (.var 2) .nil)) (.var 4)) (.call 10 (.cons (.var 0) (.cons (.var 3) .nil))))) (.cons (.ret (.cst .non))
  .nil) .nil)
  (.cons (.ret (.var 3))
  .nil)))))))
noncomputable def Xkb:Df:=⟨2,5,Xty⟩
noncomputable def Xtz:List Str:=["net","out","inner","into","size"]
noncomputable def Xmt:Sts:=(.cons (.asg (.var 1) (.call 12 (.cons (.var 0) .nil)))
  (.cons (.for (.var 2) (.rng (.cons (.bin .add (.glb 0) (.cst (.int 1))) .nil)) (.cons (.ite (.cmp .notin (.var 2) (.var 1)) (.cons (.ret (.tup (.cons (.var 2) .nil)))
  .nil) .nil)
  .nil))
  (.cons (.ret (.cst .non))
  .nil)))
noncomputable def Xey:Df:=⟨1,3,Xmt⟩
noncomputable def Xmu:List Str:=["net","points","point"]
noncomputable def Xbr:Sts:=(.cons (.ite (.not (.call 1 (.cons (.var 0) (.cons (.cst (.int 1)) (.cons (.glb 3) .nil))))) (.cons (.rse 8 (.cst (.str "a width from 1 to 5 is due")))
  .nil) .nil)
  (.cons (.ite (.or (.not (.call 3 (.cons (.var 1) .nil))) (.cmp .gt (.blt .len (.cons (.var 1) .nil)) (.glb 4))) (.cons (.rse 14 (.cst (.str "a tuple of at most ten whole numbers is due")))
  .nil) .nil)
  (.cons (.asg (.var 2) (.call 15 (.cons (.tup (.cons (.lrg true (.cons (.bin .add (.var 0) (.cst (.int 1))) .nil)) .nil)) .nil)))
  (.cons (.for (.var 3) (.val (.var 1)) (.cons (.asg (.var 2) (.call 23 (.cons (.var 2) (.cons (.var 3) .nil))))
  .nil))
  (.cons (.ret (.var 2))
  .nil)))))
noncomputable def Xa4:Df:=⟨2,4,Xbr⟩
noncomputable def Xt0:List Str:=["width","places","net","place"]
noncomputable def Xhf:Sts:=(.cons (.ite (.not (.chn .le .lt (.cst (.int 0)) (.var 1) (.blt .len (.cons (.var 0) .nil)))) (.cons (.rse 14 (.cst (.str "a place of a side is due")))
  .nil) .nil)
  (.cons (.ret (.call 18 (.cons (.var 0) (.cons (.tup (.cons (.idx (.var 0) (.var 1)) (.cons (.call 21 (.cons (.var 0) .nil)) .nil))) .nil))))
  .nil))
noncomputable def Xcr:Df:=⟨2,2,Xhf⟩
noncomputable def Xhg:List Str:=["net","place"]
noncomputable def Xi1:Sts:=(.cons (.ite (.cmp .lt (.var 1) (.blt .len (.cons (.var 0) .nil))) (.cons (.ret (.idx (.var 0) (.var 1)))
  .nil) .nil)
  (.cons (.ret (.cst (.int 0)))
  .nil))
noncomputable def Xdm:Df:=⟨2,2,Xi1⟩
noncomputable def Xi2:List Str:=["_law_script","_law_k"]
noncomputable def Xrc:Sts:=(.cons (.ite (.cmp .ge (.var 0) (.bin .pow (.cst (.int 10)) (.cst (.int 18)))) (.cons (.ret (.lst (.cons (.bin .sub (.var 0) (.bin .pow (.cst (.int 10)) (.cst (.int 18)))) .nil)))
  .nil) .nil)
  (.cons (.asg (.var 1) (.cst (.int 0)))
  (.cons (.for (.var 2) (.rng (.cons (.cst (.int 64)) .nil)) (.cons (.asg (.var 3) (.bin .mod (.bin .mul (.bin .add (.bin .add (.bin .mod (.var 0) (.cst (.int 2147483629))) (.bin .mul (.cst (.int 7919)) (.var 2))) (.cst (.int 1))) (.cst (.int 48271))) (.cst (.int 2147483647))))
  (.cons (.asg (.var 3) (.bin .mod (.bin .add (.bin .add (.bin .mul (.var 3) (.var 3)) (.bin .mul (.cst (.int 69621)) (.var 2))) (.cst (.int 7))) (.cst (.int 2147483587))))
  (.cons (.asg (.var 1) (.bin .add (.bin .mul (.var 1) (.cst (.int 2147483587))) (.var 3)))
  .nil))))
  (.cons (.ret (.lst (.cons (.var 1) .nil)))
  .nil))))
noncomputable def Xhh:Df:=⟨1,4,Xrc⟩
noncomputable def Xrd:List Str:=["_law_cell","_law_number","_law_j","_law_more"]
noncomputable def Xnk:Sts:=(.cons (.asg (.var 2) (.bin .mod (.idx (.var 0) (.cst (.int 0))) (.var 1)))
  (.cons (.aset (.var 0) (.cst (.int 0)) (.bin .fdiv (.idx (.var 0) (.cst (.int 0))) (.var 1)))
  (.cons (.ret (.var 2))
  .nil)))
noncomputable def Xfv:Df:=⟨2,3,Xnk⟩
noncomputable def Xnl:List Str:=["_law_pot_here","_law_far","_law_found"]
noncomputable def Xmv:Sts:=(.cons (.ret (.and (.isi (.var 0) [.int]) (.not (.isi (.var 0) [.bool]))))
  .nil)
noncomputable def Xez:Df:=⟨1,1,Xmv⟩
noncomputable def Xmw:List Str:=["_law_thing"]
noncomputable def Xnm:Sts:=(.cons (.ite (.isi (.var 1) [.list,.tuple]) (.cons (.ite (.or (.cmp .ne (.isi (.var 1) [.list]) (.isi (.var 0) [.list])) (.cmp .ne (.isi (.var 1) [.tuple]) (.isi (.var 0) [.tuple]))) (.cons (.ret (.cst (.bl false)))
  .nil) .nil)
  (.cons (.ret (.and (.cmp .eq (.blt .len (.cons (.var 0) .nil)) (.blt .len (.cons (.var 1) .nil))) (.blt .all (.cons (.cmr false 3 (.cons (.tup [3,4]) (.zpp (.cons (.var 0) (.cons (.var 1) .nil))) .nil .nil) (.call 28 (.cons (.var 3) (.cons (.var 4) .nil)))) .nil))))
  .nil)) .nil)
  (.cons (.ite (.or (.cmp .is (.var 1) (.cst .non)) (.or (.isi (.var 1) [.bool]) (.isi (.var 1) [.str]))) (.cons (.ret (.and (.cmp .eq (.var 0) (.var 1)) (.cmp .eq (.isi (.var 0) [.bool]) (.isi (.var 1) [.bool]))))
  .nil) .nil)
  (.cons (.ret (.and (.call 27 (.cons (.var 0) .nil)) (.cmp .eq (.var 0) (.var 1))))
  .nil)))
noncomputable def Xfw:Df:=⟨2,2,Xnm⟩
noncomputable def Xnn:List Str:=["_law_found","_law_due"]
noncomputable def Xi3:Sts:=(.cons (.ret (.blt .tuple (.cons (.blt .srt (.cons (.cmr false 2 (.cons (.var 2) (.val (.var 0)) .nil .nil) (.blt .tuple (.cons (.cmr false 2 (.cons (.var 4) (.val (.var 0)) (.cons (.cmp .ne (.var 4) (.var 2)) .nil) .nil) (.var 4)) .nil))) .nil)) .nil)))
  .nil)
noncomputable def Xdn:Df:=⟨1,1,Xi3⟩
noncomputable def Xi4:List Str:=["_law_points_here"]
noncomputable def Xno:Sts:=(.cons (.ret (.cmp .eq (.cmr false 2 (.cons (.var 3) (.val (.var 0)) (.cons (.cmp .notin (.var 3) (.var 1)) .nil) .nil) (.var 3)) (.lst .nil)))
  .nil)
noncomputable def Xfx:Df:=⟨2,2,Xno⟩
noncomputable def Xnp:List Str:=["_law_one","_law_other"]
noncomputable def Xnq:Sts:=(.cons (.ret (.blt .tuple (.cons (.cmr false 2 (.cons (.var 3) (.val (.var 0)) (.cons (.cmp .notin (.var 3) (.var 1)) .nil) .nil) (.var 3)) .nil)))
  .nil)
noncomputable def Xfy:Df:=⟨2,2,Xnq⟩
noncomputable def Xnr:List Str:=["_law_face","_law_points_here"]
noncomputable def Xkh:Sts:=(.cons (.asg (.var 1) (.lst .nil))
  (.cons (.for (.var 2) (.val (.var 0)) (.cons (.expr (.mth .xtd (.var 1) (.cons (.var 2) .nil)))
  .nil))
  (.cons (.ret (.sst (.var 1)))
  .nil)))
noncomputable def Xec:Df:=⟨1,3,Xkh⟩
noncomputable def Xki:List Str:=["_law_some","_law_found","_law_face"]
noncomputable def Xi5:Sts:=(.cons (.asg (.tup [3,4]) (.var 1))
  (.cons (.asg (.var 2) (.cmr false 2 (.cons (.var 6) (.val (.var 0)) (.cons (.not (.call 30 (.cons (.var 3) (.cons (.var 6) .nil)))) .nil) .nil) (.var 6)))
  (.cons (.ret (.blt .tuple (.cons (.blt .srt (.cons (.bin .add (.var 2) (.cmr false 2 (.cons (.var 6) (.val (.var 3)) .nil .nil) (.blt .tuple (.cons (.blt .sorted (.cons (.bin .add (.var 4) (.call 31 (.cons (.var 3) (.cons (.tup (.cons (.var 6) .nil)) .nil)))) .nil)) .nil)))) .nil)) .nil)))
  .nil)))
noncomputable def Xdo:Df:=⟨2,5,Xi5⟩
noncomputable def Xi6:List Str:=["_law_net","_law_swap","_law_found","_law_out","_law_into"]
noncomputable def Xi7:Sts:=(.cons (.asg (.var 1) (.lst (.cons (.isi (.var 0) [.cls 1]) (.cons (.isi (.var 0) [.cls 2]) (.cons (.isi (.var 0) [.cls 3]) (.cons (.isi (.var 0) [.cls 4]) .nil))))))
  (.cons (.asg (.var 1) (.bin .add (.var 1) (.lst (.cons (.isi (.var 0) [.cls 5]) (.cons (.isi (.var 0) [.cls 6]) (.cons (.isi (.var 0) [.cls 7]) (.cons (.isi (.var 0) [.cls 8]) .nil)))))))
  (.cons (.asg (.var 1) (.bin .add (.var 1) (.lst (.cons (.isi (.var 0) [.cls 9]) (.cons (.isi (.var 0) [.cls 10]) (.cons (.isi (.var 0) [.cls 11]) (.cons (.isi (.var 0) [.cls 12]) .nil)))))))
  (.cons (.asg (.var 1) (.bin .add (.var 1) (.lst (.cons (.isi (.var 0) [.cls 13]) (.cons (.isi (.var 0) [.cls 14]) (.cons (.isi (.var 0) [.cls 15]) (.cons (.isi (.var 0) [.cls 16]) .nil)))))))
  (.cons (.ite (.or (.cmp .ne (.mth .count (.var 1) (.cons (.cst (.bl true)) .nil)) (.cst (.int 1))) (.not (.isi (.var 0) [.valueError]))) (.cons (.ret (.cst (.str "other")))
  .nil) .nil)
  (.cons (.asg (.var 2) (.lst (.cons (.cst (.str "net")) (.cons (.cst (.str "face")) (.cons (.cst (.str "point")) (.cons (.cst (.str "apart")) (.cons (.cst (.str "many")) (.cons (.cst (.str "text")) (.cons (.cst (.str "row")) (.cons (.cst (.str "number")) (.cons (.cst (.str "level")) (.cons (.cst (.str "crowd")) (.cons (.cst (.str "way")) (.cons (.cst (.str "closed")) .nil))))))))))))))
  (.cons (.ret (.idx (.bin .add (.var 2) (.lst (.cons (.cst (.str "swap")) (.cons (.cst (.str "places")) (.cons (.cst (.str "deed")) (.cons (.cst (.str "line")) .nil)))))) (.mth .index (.var 1) (.cons (.cst (.bl true)) .nil))))
  .nil)))))))
noncomputable def Xdp:Df:=⟨1,3,Xi7⟩
noncomputable def Xi8:List Str:=["_law_e","_law_some","_law_words"]
noncomputable def Xi9:Sts:=(.cons (.try (.cons (.ret (.call 22 (.cons (.var 0) (.cons (.var 1) .nil))))
  .nil) 0 2 (.cons (.ret (.call 34 (.cons (.var 2) .nil)))
  .nil))
  .nil)
noncomputable def Xdq:Df:=⟨2,3,Xi9⟩
noncomputable def Xja:List Str:=["_law_width","_law_places","_law_e"]
noncomputable def Xns:Sts:=(.cons (.asg (.var 2) (.blt .repr (.cons (.lst (.cons (.var 0) (.cons (.var 1) .nil))) .nil)))
  (.cons (.asg (.var 3) (.call 35 (.cons (.var 0) (.cons (.var 1) .nil))))
  (.cons (.ret (.ite (.cmp .eq (.blt .repr (.cons (.lst (.cons (.var 0) (.cons (.var 1) .nil))) .nil)) (.var 2)) (.var 3) (.cst (.str "changed"))))
  .nil)))
noncomputable def Xfz:Df:=⟨2,4,Xns⟩
noncomputable def Xnt:List Str:=["_law_width","_law_places","_law_kept","_law_found"]
noncomputable def Xre:Sts:=(.cons (.for (.var 1) (.rng (.cons (.blt .max (.cons (.cst (.int 1)) (.cons (.blt .min (.cons (.blt .len (.cons (.var 0) .nil)) (.cons (.cst (.int 8)) .nil))) .nil))) .nil)) (.cons (.asg (.var 2) (.call 25 (.cons (.call 24 (.cons (.var 0) (.cons (.var 1) .nil))) .nil)))
  (.cons (.asg (.var 3) (.bin .add (.cst (.int 1)) (.call 26 (.cons (.var 2) (.cons (.cst (.int 5)) .nil)))))
  (.cons (.asg (.var 4) (.idx (.lst (.cons (.cst (.int 0)) (.cons (.cst (.int 6)) (.cons (.neg (.cst (.int 1))) (.cons (.cst (.bl true)) (.cons (.cst (.bl false)) (.cons (.cst .non) (.cons (.cst (.str "2")) (.cons (.tup (.cons (.cst (.int 2)) .nil)) (.cons (.bin .pow (.cst (.int 10)) (.cst (.int 20))) (.cons (.lst (.cons (.cst (.int 2)) .nil)) .nil))))))))))) (.call 26 (.cons (.var 2) (.cons (.cst (.int 10)) .nil)))))
  (.cons (.asg (.var 5) (.idx (.lst (.cons (.cst (.int 10)) (.cons (.call 26 (.cons (.var 2) (.cons (.cst (.int 11)) .nil))) .nil))) (.call 26 (.cons (.var 2) (.cons (.cst (.int 2)) .nil)))))
  (.cons (.asg (.var 6) (.call 26 (.cons (.var 2) (.cons (.bin .add (.var 5) (.cst (.int 1))) .nil))))
  (.cons (.asg (.var 7) (.call 26 (.cons (.var 2) (.cons (.cst (.int 3)) .nil))))
  (.cons (.par [13,14] (.cons (.call 29 (.cons (.lrg true (.cons (.bin .add (.var 3) (.cst (.int 1))) .nil)) .nil)) (.cons (.tup .nil) .nil)))
  (.cons (.asg (.var 8) (.blt .len (.cons (.var 13) .nil)))
  (.cons (.for (.var 9) (.rng (.cons (.var 5) .nil)) (.cons (.ite (.cmp .eq (.var 9) (.var 6)) (.cons (.asg (.var 8) (.blt .len (.cons (.var 13) .nil)))
  .nil) .nil)
  (.cons (.asg (.var 15) (.call 26 (.cons (.var 2) (.cons (.blt .len (.cons (.var 13) .nil)) .nil))))
  (.cons (.asg (.var 16) (.call 32 (.cons (.var 13) .nil)))
  (.cons (.asg (.var 13) (.call 33 (.cons (.var 13) (.cons (.tup (.cons (.idx (.var 13) (.var 15)) (.cons (.tup (.cons (.idx (.cmr false 2 (.cons (.var 18) (.rng (.cons (.cst (.int 16)) .nil)) (.cons (.cmp .notin (.var 18) (.var 16)) .nil) .nil) (.var 18)) (.cst (.int 0))) .nil)) .nil))) .nil))))
  (.cons (.asg (.var 14) (.bin .add (.var 14) (.tup (.cons (.var 15) .nil))))
  .nil))))))
  (.cons (.ite (.or (.not (.call 28 (.cons (.call 36 (.cons (.var 3) (.cons (.var 14) .nil))) (.cons (.var 13) .nil)))) (.not (.call 28 (.cons (.call 36 (.cons (.var 3) (.cons (.var 14) .nil))) (.cons (.var 13) .nil))))) (.cons (.ret (.cst (.bl false)))
  .nil) .nil)
  (.cons (.ite (.cmp .eq (.var 6) (.var 5)) (.cons (.asg (.var 8) (.blt .len (.cons (.var 13) .nil)))
  .nil) .nil)
  (.cons (.asg (.var 10) (.idx (.lst (.cons (.var 8) (.cons (.neg (.cst (.int 1))) (.cons (.cst (.bl true)) (.cons (.cst .non) (.cons (.cst (.str "0")) (.cons (.tup (.cons (.cst (.int 0)) .nil)) (.cons (.lst (.cons (.cst (.int 0)) .nil)) (.cons (.bin .pow (.cst (.int 10)) (.cst (.int 20))) .nil))))))))) (.call 26 (.cons (.var 2) (.cons (.cst (.int 8)) .nil)))))
  (.cons (.asg (.var 11) (.idx (.lst (.cons (.bin .add (.bin .add (.sli (.var 14) .none (.some (.var 6))) (.tup (.cons (.var 10) .nil))) (.sli (.var 14) (.some (.bin .add (.var 6) (.cst (.int 1)))) .none)) (.cons (.blt .list (.cons (.var 14) .nil)) (.cons (.bin .mul (.tup (.cons (.cst (.int 0)) .nil)) (.cst (.int 11))) .nil)))) (.var 7)))
  (.cons (.asg (.var 12) (.lst (.cons (.call 36 (.cons (.var 4) (.cons (.var 11) .nil))) (.cons (.call 36 (.cons (.var 4) (.cons (.var 14) .nil))) (.cons (.call 36 (.cons (.var 3) (.cons (.var 11) .nil))) (.cons (.call 36 (.cons (.var 3) (.cons (.cst .non) .nil))) .nil))))))
  (.cons (.ite (.cmp .ne (.var 12) (.bin .add (.bin .mul (.lst (.cons (.cst (.str "number")) .nil)) (.cst (.int 2))) (.bin .mul (.lst (.cons (.cst (.str "places")) .nil)) (.cst (.int 2))))) (.cons (.ret (.cst (.bl false)))
  .nil) .nil)
  .nil))))))))))))))))
  (.cons (.ite (.cmp .ne (.call 22 (.cons (.cst (.int 1)) (.cons (.tup (.cons (.cst (.int 0)) (.cons (.cst (.int 0)) .nil))) .nil))) (.tup (.cons (.tup (.cons (.cst (.int 0)) .nil)) (.cons (.tup (.cons (.cst (.int 2)) .nil)) .nil)))) (.cons (.ret (.cst (.bl false)))
  .nil) .nil)
  (.cons (.ret (.and (.cmp .eq (.call 22 (.cons (.cst (.int 2)) (.cons (.tup (.cons (.cst (.int 0)) .nil)) .nil))) (.tup (.cons (.tup (.cons (.cst (.int 0)) (.cons (.cst (.int 2)) .nil))) (.cons (.tup (.cons (.cst (.int 0)) (.cons (.cst (.int 3)) .nil))) (.cons (.tup (.cons (.cst (.int 1)) (.cons (.cst (.int 2)) .nil))) (.cons (.tup (.cons (.cst (.int 1)) (.cons (.cst (.int 3)) .nil))) .nil)))))) (.cmp .eq (.call 22 (.cons (.cst (.int 1)) (.cons (.tup .nil) .nil))) (.tup (.cons (.tup (.cons (.cst (.int 0)) .nil)) (.cons (.tup (.cons (.cst (.int 1)) .nil)) .nil))))))
  .nil)))
noncomputable def Xkw:Df:=⟨1,17,Xre⟩
noncomputable def Xyg:List Str:=["_law_script","_law_k","_law_pot_here","_law_width","_law_none","_law_many","_law_at","_law_which","_law_far","_law_turn","_law_odd","_law_bad","_law_told_here","_law_net","_law_places","_law_place","_law_known"]
noncomputable def T:List Df:=[Xhb,Xbw,Xfr,Xck,Xmr,d_check_net,Xeb,Xfs,Xbx,Xj8,Xhc,Xj9,Xft,Xhd,Xka,Xms,Xdk,Xdl,Xfu,Xhe,Xkb,Xey,Xa4,Xcr,Xdm,Xhh,Xfv,Xez,Xfw,Xdn,Xfx,Xfy,Xec,Xdo,Xdp,Xdq,Xfz,Xkw]
abbrev MS(p:Nat)(N:List Str)(fl:Bool)(d:Df):Prop:=Z.MD fns gns (top p) N fl d
theorem Xrf:MS 19 Xq5 true Xhb:=by decide+kernel
theorem Xfk:MS 20 Xfh true Xbw:=by decide+kernel
theorem Xnu:MS 21 Xnc true Xfr:=by decide+kernel
theorem Xgo:MS 22 Xgn true Xck:=by decide+kernel
theorem Xxf:MS 27 Xxc true Xmr:=by decide+kernel
theorem Xnv:MS 28 Xnd true d_check_net:=by decide+kernel
theorem Xkj:MS 29 Xkg true Xeb:=by decide+kernel
theorem Xnw:MS 30 Xnf true Xfs:=by decide+kernel
theorem Xfl:MS 31 Xfj true Xbx:=by decide+kernel
theorem Xt1:MS 32 Xtt true Xj8:=by decide+kernel
theorem Xrg:MS 33 Xq7 true Xhc:=by decide+kernel
theorem Xt2:MS 34 Xtv true Xj9:=by decide+kernel
theorem Xnx:MS 35 Xnh true Xft:=by decide+kernel
theorem Xrh:MS 36 Xq9 true Xhd:=by decide+kernel
theorem Xt3:MS 37 Xtx true Xka:=by decide+kernel
theorem Xxg:MS 39 Xxe true Xms:=by decide+kernel
theorem Xjb:MS 40 Xiy true Xdk:=by decide+kernel
theorem Xjc:MS 41 Xi0 true Xdl:=by decide+kernel
theorem Xny:MS 43 Xnj true Xfu:=by decide+kernel
theorem Xri:MS 44 Xrb true Xhe:=by decide+kernel
theorem Xt4:MS 45 Xtz true Xkb:=by decide+kernel
theorem Xmx:MS 46 Xmu true Xey:=by decide+kernel
theorem Xt5:MS 50 Xt0 true Xa4:=by decide+kernel
theorem Xhi:MS 51 Xhg true Xcr:=by decide+kernel
theorem Xjd:MS 53 Xi2 true Xdm:=by decide+kernel
theorem Xrj:MS 54 Xrd true Xhh:=by decide+kernel
theorem Xnz:MS 55 Xnl true Xfv:=by decide+kernel
theorem Xmy:MS 56 Xmw true Xez:=by decide+kernel
theorem Xn0:MS 57 Xnn true Xfw:=by decide+kernel
theorem Xje:MS 58 Xi4 true Xdn:=by decide+kernel
theorem Xn1:MS 59 Xnp true Xfx:=by decide+kernel
theorem Xn2:MS 60 Xnr true Xfy:=by decide+kernel
theorem Xkk:MS 61 Xki true Xec:=by decide+kernel
theorem Xjf:MS 62 Xi6 true Xdo:=by decide+kernel
theorem Xjg:MS 63 Xi8 false Xdp:=by decide+kernel
theorem Xjh:MS 64 Xja true Xdq:=by decide+kernel
theorem Xn3:MS 65 Xnt true Xfz:=by decide+kernel
theorem Xrk:MS 66 Xyg true Xkw:=by decide+kernel
end K64
end
section
namespace K64
open PySem Z
theorem ftx{k f:Nat}{d:Df}{ds:List D}{S:Sto}(h:T[f]?=some d):FT T G (k+1) f ds S=den (FT T G k) G d ds S:=by simp only[FT,h]
theorem whole(k:Nat):Xde (FT T G (k+1)) 0:=Xj0 rfl k
theorem X8b(k:Nat):Xyd (FT T G (k+2)) 3:=Xwl rfl (k+1) (whole k)
theorem Xt6(k:Nat){d:D}{lo hi:Int}{S:Sto}(h:good S d):FT T G (k+2) 1 [d,.int lo,.int hi] S=.ok (.bl (wi d lo hi)) S:=by
 rw[ftx (d:=Xil 0) rfl];exact Xqq (whole k d S h)
theorem X9t(k:Nat){n:List (List Int)}(h:(ddI n.flatten).length<60)(S:Sto):FT T G (k+1) 12 [Xb n] S=.ok (.ref S.length) (S++[.lst ((pts n).map D.int)]):=by
 rw[ftx (d:=dPts) rfl];exact X03 h S
theorem Xyh(k:Nat){n:List (List Int)}{f:Int}{r:List Int}(h:(ddI n.flatten).length<60)(hf:fre (pts n)=f::r)(S:Sto):FT T G (k+2) 21 [Xb n] S=.ok (Xa [f]) (S++[.lst ((pts n).map D.int)]):=by
 rw[ftx (d:=Xks 12) rfl];exact Xwx rfl (X9t k h S) hf
theorem Xrl(k:Nat)(a b:List Int)(S:Sto):FT T G (k+1) 9 [Xa a,Xa b] S=.ok (.bl (lie a b)) S:=by
 rw[ftx (d:=⟨2,3,Xg7⟩) rfl];exact Xwu S
theorem Xyi(k:Nat)(a b:List Int)(S:Sto)(h:a.length<=6):FT T G (k+1) 14 [Xa a,Xa b] S=.ok (Xa (lft a b)) (S++[.lst ((lft a b).map D.int)]):=by
 rw[ftx (d:=⟨2,2,Xg6⟩) rfl];exact Xmi (by omega) S
theorem X8c(k:Nat){f:List Int}(h:f.length<=6)(S:Sto):∃X,FT T G (k+1) 2 [Xa f] S=.ok (.bl (riz f)) (S++X):=by
 rw[ftx (d:=Xku) rfl];exact⟨_,Xwy (by omega) S⟩
theorem Xxh(k:Nat){f:List Int}(h:Fac f)(S:Sto):∃X,FT T G (k+3) 6 [Xa f] S=.ok (.bl true) (S++X):=by
 rw[ftx (d:=X5p 1 2) rfl];exact X05 h rfl rfl (fun i S=>Xt6 k (Xd6 S i)) (fun S=>X8c (k+1) h.few S) S
theorem X9u(k:Nat){n:List (List Int)}{f:List Int}(h:Fac f)(hl:n.length<=1000)(S:Sto):∃X,FT T G (k+4) 10 [Xb n,Xa f] S=.ok (.bl (n.any fun s=>lie f s)) (S++X):=by
 rw[ftx (d:=X5r 6 9) rfl];exact X06 (fun S=>Xxh k h S) (fun a b S=>Xrl (k+2) a b S) hl S
theorem X8d(k:Nat){n:List (List Int)}{o:List Int}{f:Int}{r:List Int}(h:(ddI n.flatten).length<60)(hf:fre (pts n)=f::r)(h0:o≠[])(ho:o∈n)(S:Sto):∃X,FT T G (k+3) 20 [Xb n,Xa o] S=.ok (Xa [f]) (S++X):=by
 rw[ftx (d:=⟨2,5,Xkv 21 _⟩) rfl];exact⟨_,Xw0 h0 ho (Xyh k h hf S)⟩
theorem X9v{f:Int}(h0:0<=f)(h1:f<=15):Fac [f]:=⟨by show 1<=6;decide,fun x hx=>by rw[Up]at hx;subst hx;exact⟨h0,h1⟩,List.pairwise_singleton _ _⟩
theorem Xt7{w k b:Nat}{n:List (List Int)}(h:Net w k b n)(hb:b<=15):(ddI n.flatten).length<60:=by
 have:=h.pts;rw[Xpg]at this;omega
theorem X9w(k:Nat){w c b i:Nat}{n:List (List Int)}{x:Int}(h:Net w c b n)(hw:1<=w)(hk:c+w<=60)(hb:b<=15)(hi:i<n.length)(hx:x=(i:Int))(S:Sto):∃X,FT T G (k+7) 23 [Xb n,.int x] S=.ok (Xb (nxt n i)) (S++X):=by
 obtain⟨f,r,e,f0,f1,f2,hs,hl,_⟩:=Xiv h hw hk hb hi;have ho:n[i]∈n:=Vbz hi;have fo:=h.fac _ ho;have wo:=h.wide _ ho;have h0:n[i]≠[]:=fun z=>by rw[z]at wo;simp only[Vco]at wo;omega
 have hd:=Xt7 h hb;have hn:n.length<=1000:=by have:=h.few;omega
 have any:(n.any fun s=>lie n[i] s)=true:=Vek.mpr ⟨n[i],ho,Xgj _⟩
 have h19:∀S,∃X,FT T G (k+5) 19 [Xb n,.tup [Xa n[i],Xa [f]]] S=.ok (.bl true) (S++X):=fun S=>by
  rw[ftx (d:=X5u 6 10 20) rfl];refine X08 (fun S=>Xxh (k+1) (X9v f0 f1) S) (fun S=>?_) (fun S=>X8d (k+1) hd e h0 ho S) S
  rw[<- any];exact X9u k fo hn S
 have h18:∀S,∃X,FT T G (k+6) 18 [Xb n,.tup [Xa n[i],Xa [f]]] S=.ok (Xb (nxt n i)) (S++X):=fun S=>by
  rw[ftx (d:=X5w 19 9 14 _ _) rfl];exact X1d rfl fo.few (by show 1<=6;decide) hn h19 (fun a b S=>Xrl (k+4) a b S) (fun a b S ha=>Xyi (k+4) a b S ha) hl hs S
 rw[ftx (d:=Xmp 18 21 _) rfl];exact X1j (Vq hi) hx (fun S=>⟨_,Xyh (k+4) hd e S⟩) h18 S
theorem X9x(k:Nat){n:List (List Int)}{x:Int}(h:x<0\/(n.length:Int)<=x)(S:Sto):FT T G (k+7) 23 [Xb n,.int x] S=.ex S.length (S++[.exc 14]):=by
 rw[ftx (d:=Xmp 18 21 _) rfl];exact X5z h S
theorem X6e{w:Nat}(h5:w<=5):Fac (ptN w) where
 few:=by unfold ptN;rw[Vj,Vai];omega
 low:=fun x hx=>by
  obtain⟨i,hi,rfl⟩:=Uh.mp hx;have:=Vb2.mp hi;exact⟨Int.natCast_nonneg i,by show(i:Int)<=15;omega⟩
 ris:=List.pairwise_map.mpr (List.pairwise_lt_range.imp fun h=>Int.ofNat_lt.mpr h)
theorem X1x(ps:List Int)(p:Int):lft ps [p]=omi ps p:=by
 unfold lft omi;exact Vhj fun x _=>by simp
theorem X9y(k:Nat){f:List Int}(h:Fac f)(S:Sto):∃X,FT T G (k+5) 4 [Xb [f]] S=.ok (.bl true) (S++X):=by
 rw[ftx (d:=X55 6 2 7) rfl];refine X1r rfl (fun S=>Xxh (k+1) h S) (fun S=>⟨[.lst []],?_⟩) (fun S=>?_) S
 ·rw[ftx (d:=Xku) rfl]
  exact Xtq _ S
 ·rw[ftx (d:=X53 8) rfl]
  refine X1q (fun S=>?_) S
  rw[ftx (d:=X52 9) rfl];exact X1p (fun S=>by rw[Xrl (k+1),Xgj]) S
theorem X9z(k:Nat){f:List Int}(h:Fac f)(S:Sto):∃X,FT T G (k+6) 5 [Xb [f]] S=.ok .non (S++X):=by
 obtain⟨X,e⟩:=X9y k h S;refine⟨X,?_⟩;rw[ftx (d:=d_check_net) rfl];have e2:pb (FT T G (k+5)) G d_check_net.body ([Xb [f]].map some++Vh (d_check_net.nl-d_check_net.np) none) S=.ok (.nx [some (Xb [f])]) (S++X):=by
  show pb (FT T G (k+5)) G Xc0 [some (Xb [f])] S=_;unfold Xc0;simp only[pb,exe,ev,evs,gZ0,Rk0,e,Xf,Ut]
 unfold den;rw[iP0 (show [Xb [f]].length=d_check_net.np from rfl),e2]
theorem X90{k w:Nat}(h1:1<=w)(h5:w<=5)(S:Sto):∃X,FT T G (k+9) 15 [Xb [ptN w]] S=.ok (Xb (stN w)) (S++X):=by
 have lw:(ptN w).length=w+1:=by unfold ptN;rw[Vj,Vai]
 have ls:(stN w).length=w+1:=by unfold stN;rw[Vj,List.length_reverse,Vai]
 have fc:=X6e h5;rw[ftx (d:=X6a 5 16 13 17 _ _) rfl];refine X1u (w:=w+1) rfl (by omega) (fun z=>by rw[z]at ls;simp at ls) (by omega) (fun S=>X9z (k+2) fc S) (fun S=>?_) (fun S=>?_) (fun S=>?_) S
 ·rw[ftx (d:=X57) rfl]
  exact X1s S
 ·rw[ftx (d:=X59) rfl,<- lw]
  exact X1t S
 ·rw[ftx (d:=X6d 14) rfl]
  refine X1w (fc.ris.imp fun h=>Int.ne_of_lt h) (by omega) (fun a b S ha=>Xyi (k+6) a b S ha) ?_ S
  have e:(ptN w).map (fun p=>lft (ptN w) [p])=(ptN w).map (omi (ptN w)):=List.map_congr_left fun p _=>X1x _ p
  rw[e];exact Xfq w h1 h5
section
variable{F:Fn}{G:List D}{S:Sto}
theorem Xmz{d:Df}{ds:List D}{env:En}{n:Nat}{S':Sto}(h0:ds.length=d.np)(he:ds.map some++Vh (d.nl-d.np) none=env)(h:pb F G d.body env S=.ex n S'):den F G d ds S=.ex n S':=by
 subst he;unfold den;rw[iP0 h0,h]
theorem X6f{i23 m:Nat}{A B:Option D}{ps:List D}{N:Nat->D}{d:D}(hm:m<ps.length)(h:∀j d,j<m->ps[j]?=some d->∀S,∃X,F i23 [N j,d] S=.ok (N (j+1)) (S++X))(hd:ps[m]?=some d)(he:∀S,F i23 [N m,d] S=.ex S.length (S++[.exc 14]))(S:Sto) :
  ∃X,Xu (Src.con ps).get (.var 3) (pb F G (Xcz i23)) (ps.length+1) 0 [A,B,some (N 0),none] S=.ex (S++X).length (S++X++[.exc 14]):=by
 obtain⟨fuel,x,X,g1,g2⟩:=Xgk (F:=F) (G:=G) (S:=S) (A:=A) (B:=B) (Vb9 hm) h m 0 (ps.length+1) none [] (by omega) (by omega)
 rw[Vz]at g2;refine⟨X,g2.trans ?_⟩
 match fuel,g1 with
 |0,g1=>omega
 |fuel+1,_ =>
  have hg:(Src.con ps).get (S++X) m=some (some d):=by simp only[Src.get,hd]
  have hs:Xr (.var 3) d [A,B,some (N m),x]=some [A,B,some (N m),some d]:=rfl;have hb:pb F G (Xcz i23) [A,B,some (N m),some d] (S++X)=.ex (S++X).length (S++X++[.exc 14]):=by
   unfold Xcz;exact Xda (by simp only[exe,ev,evs,gZ0,gS0,Rk0,he,R.bind_ex])
  unfold Xu;simp only[hg,hs,hb]
end
noncomputable def sc1:Ex:=.not (.call 1 (.cons (.var 0) (.cons (.cst (.int 1)) (.cons (.glb 3) .nil))))
noncomputable def sc2:Ex:=.or (.not (.call 3 (.cons (.var 1) .nil))) (.cmp .gt (.blt .len (.cons (.var 1) .nil)) (.glb 4))
noncomputable def st1:St:=.ite sc1 (.cons (.rse 8 (.cst (.str "a width from 1 to 5 is due"))) .nil) .nil
noncomputable def st2:St:=.ite sc2 (.cons (.rse 14 (.cst (.str "a tuple of at most ten whole numbers is due"))) .nil) .nil
noncomputable def sc3:Ex:=.call 15 (.cons (.tup (.cons (.lrg true (.cons (.bin .add (.var 0) (.cst (.int 1))) .nil)) .nil)) .nil)
noncomputable def st4:St:=.for (.var 3) (.val (.var 1)) (Xcz 23)
theorem Xgp:Xbr=.cons st1 (.cons st2 (.cons (.asg (.var 2) sc3) (.cons st4 (.cons (.ret (.var 2)) .nil)))):=rfl
theorem Xm0(k:Nat){a:D}{r:En}{S:Sto}(h:good S a):ev (FT T G (k+2)) G sc1 (some a::r) S=.ok (.bl (!wi a 1 5)) S:=by
 have e:=Xt6 k (lo:=1) (hi:=5) h;have g0:G[3]?=some (.int 5):=rfl;unfold sc1;simp only[ev,evs,gZ0,Rk0,g0,e,Xf]
noncomputable def Xc1:D->Bool
 |.tup xs=>!(xs.all wh)||decide (10<xs.length)
 |_=>true
theorem Xt8(k:Nat){a d:D}{r:En}{S:Sto}(t:Thing S d):∃X,ev (FT T G (k+2)) G sc2 (some a::some d::r) S=.ok (.bl (Xc1 d)) (S++X):=by
 obtain⟨X,h⟩:=X8b k d S t.gd fun xs z=>⟨(t.el xs z).1,by have:=(t.el xs z).2;omega⟩
 have g0:G[4]?=some (.int 10):=rfl;refine⟨X,?_⟩;unfold sc2;simp only[ev,evs,gZ0,gS0,Rk0,h,Xf];cases e:wt d with
 |false =>
  have:Xc1 d=true:=by
   cases d with
   |tup xs=>simp only[wt]at e;simp only[Xc1,e,Vce,Bool.true_or]
   |_=>rfl
  rw[this];rfl
 |true =>
  cases d with
  |tup xs =>
   simp only[wt]at e;have l:Xm .len [.tup xs] (S++X)=.ok (.int xs.length) (S++X):=rfl;have c:decide ((10:Int)<(xs.length:Int))=decide (10<xs.length):=by
    by_cases q:10<xs.length
    ·rw[decide_eq_true q,decide_eq_true (by omega)]
    ·rw[decide_eq_false q,decide_eq_false (by omega)]
   simp only[Ut,l,Rk0,g0,Xj,X9,c,Xc1,e,Bool.false_or]
  |_=>cases e
theorem Xpj{j:Int}{w:Nat}(e:j.toNat=w+1)(h0:-(1048576)<j)(h1:j<1048576):Yd [.int j]=some ((ptN w).map D.int):=by
 unfold ptN;simp only[Yd];rw[iP0 ⟨h0,h1⟩,e,Vbr];rfl
theorem Xxi{F:Fn}{G:List D}{i j:Int}{xs:List D}{r:En}{S S1:Sto}{n:D}(hb:Xo .add (.int i) (.int 1) S=.ok (.int j) S)(hr:Yd [.int j]=some xs)(h:F 15 [.tup [.tup xs]] S=.ok n S1):ev F G sc3 (some (.int i)::r) S=.ok n S1:=by
 have hl:([D.tup xs]:List D).length<=big:=by show 1<=big;decide
 unfold sc3;simp only[ev,evs,gZ0,Rk0,hb,hr,if_true,hl];exact h
theorem X1y{F:Fn}{G:List D}{w:Nat}{r:En}{S S1:Sto}{n:D}(h5:w<=5)(h:F 15 [Xb [ptN w]] S=.ok n S1):ev F G sc3 (some (.int w)::r) S=.ok n S1:=by
 exact Xxi (Y8 ..) (Xpj (by omega) (by omega) (by omega)) h
theorem X6g{k:Nat}{w:Nat}{r:En}{S:Sto}(h1:1<=w)(h5:w<=5):∃X,ev (FT T G (k+9)) G sc3 (some (.int w)::r) S=.ok (Xb (stN w)) (S++X):=by
 obtain⟨X,h⟩:=X90 (k:=k) h1 h5 S;exact⟨X,X1y h5 h⟩
theorem X91{k:Nat}{a d:D}{S:Sto}(ha:good S a)(h:wi a 1 5=false):FT T G (k+10) 22 [a,d] S=.ex S.length (S++[.exc 8]):=by
 rw[ftx (d:=Xa4) rfl];refine Xmz (env:=[some a,some d,none,none]) rfl rfl ?_;show pb _ _ Xbr _ _=_;have e:=Xm0 (k+7) (r:=[some d,none,none]) ha;rw[h]at e;rw[Xgp];exact Xda (Xwf e)
theorem X92{k:Nat}{w:Nat}{d:D}{S:Sto}(h1:1<=w)(h5:w<=5)(t:Thing S d)(h:Xc1 d=true):∃X,FT T G (k+10) 22 [.int w,d] S=.ex (S++X).length (S++X++[.exc 14]):=by
 rw[ftx (d:=Xa4) rfl];have e:=Xm0 (k+7) (r:=[some d,none,none]) (Xd6 S w);rw[Xs8 (by omega) (by omega)]at e
 obtain⟨X,e2⟩:=Xt8 (k+7) (a:=.int w) (r:=[none,none]) t;rw[h]at e2;refine⟨X,Xmz (env:=[some (.int w),some d,none,none]) rfl rfl ?_⟩;show pb _ _ Xbr _ _=_;rw[Xgp];exact(Xd (Y9 e)).trans (Xda (Xtb e2))
theorem Xt9{k:Nat}{w:Nat}{ps:List Int}{S:Sto}(h1:1<=w)(h5:w<=5)(t:Thing S (Xa ps))(hl:ps.length<=10):∃X,pb (FT T G (k+9)) G Xbr [some (.int w),some (Xa ps),none,none] S=pb (FT T G (k+9)) G (.cons st4 (.cons (.ret (.var 2)) .nil)) [some (.int w),some (Xa ps),some (Xb (stN w)),none] (S++X):=by
 have e:=Xm0 (k+7) (r:=[some (Xa ps),none,none]) (Xd6 S w);rw[Xs8 (by omega) (by omega)]at e
 obtain⟨X,e2⟩:=Xt8 (k+7) (a:=.int w) (r:=[none,none]) t;have hp:Xc1 (Xa ps)=false:=by
  simp only[Xc1,Xa,Xtg,Vj,Ut,Bool.false_or];exact decide_eq_false (by omega)
 rw[hp]at e2;obtain⟨X3,e3⟩:=X6g (k:=k) (r:=[some (Xa ps),none,none]) (S:=S++X) h1 h5;refine⟨X++X3,?_⟩;rw[Xgp];refine(Xd (Y9 e)).trans ((Xd (Y9 e2)).trans ((Xd (Yn e3)).trans ?_));rw[Vo];rfl
theorem Xua{k:Nat}{w:Nat}{ps:List Int}{n:D}{S:Sto}:exe (FT T G (k+9)) G st4 [some (.int w),some (Xa ps),some n,none] S=Xu (Src.con (ps.map D.int)).get (.var 3) (pb (FT T G (k+9)) G (Xcz 23)) ((ps.map D.int).length+1) 0 [some (.int w),some (Xa ps),some n,none] S:=by
 unfold st4;rw[exe,Ys (xs:=ps.map D.int) (S1:=S) (by simp only[ev,gZ0,gS0];rfl),Rk0]
 rfl
theorem Xkc{k:Nat}{w m:Nat}{is:List Nat}{ps:List Int}(h1:1<=w)(h5:w<=5)(hm:m<=10)(hg:∀t<m,is.getD t 0<(Xp w is t).length)(hp:∀t<m,ps[t]?=some ((is.getD t 0:Nat):Int)) :
  ∀j d,j<m->(ps.map D.int)[j]?=some d->∀S,∃X,FT T G (k+9) 23 [Xb (Xp w is j),d] S=.ok (Xb (Xp w is (j+1))) (S++X):=fun j d hj hd S=>by
 have hd':d=.int ((is.getD j 0:Nat):Int):=by
  rw[Vx,hp j hj]at hd;exact(Ue hd).symm
 subst hd';have hn:=Xgl (is:=is) h1 h5 j (by omega) fun t ht=>hg t (by omega)
 have hmul:j*(w-1)<=9*4:=Vg0 (by omega) (by omega)
 exact X9w (k+2) hn h1 (by omega) (by omega) (hg j hj) rfl S
theorem Xrm{k:Nat}{w:Nat}{is:List Nat}{S:Sto}(h1:1<=w)(h5:w<=5)(t:Thing S (Xa (is.map V4)))(hl:is.length<=10)(hg:∀t<is.length,is.getD t 0<(Xp w is t).length) :
  ∃X,FT T G (k+10) 22 [.int w,Xa (is.map V4)] S=.ok (Xb (Xp w is is.length)) (S++X):=by
 obtain⟨X,e⟩:=Xt9 (k:=k) h1 h5 t (by rw[Vj];exact hl)
 have hp:∀t<is.length,(is.map V4)[t]?=some ((is.getD t 0:Nat):Int):=fun t ht=>by
  rw[Vx,Vq ht];simp[Vb0,Vq ht]
 have tn:=Xkc (k:=k) (ps:=is.map V4) h1 h5 hl hg hp;obtain⟨x,Y,g⟩:=X1k (F:=FT T G (k+9)) (G:=G) (i23:=23) (A:=some (.int w)) (B:=some (Xa (is.map V4))) (ps:=(is.map V4).map D.int) (N:=fun j=>Xb (Xp w is j)) (fun j d hj hd S=>tn j d (by simpa using hj) hd S) (S++X)
 refine⟨X++Y,?_⟩;rw[ftx (d:=Xa4) rfl];refine Yk (env:=[some (.int w),some (Xa (is.map V4)),none,none]) rfl rfl ?_;refine e.trans ?_;have s4:=Xua (k:=k) (w:=w) (ps:=is.map V4) (n:=Xb (stN w)) (S:=S++X);refine(Xd (s4.trans g)).trans (Xk ?_);simp only[exe,ev,gZ0,gS0,Rk0,Vj,Vo]
theorem X93{k:Nat}{w m:Nat}{is:List Nat}{ps:List Int}{x:Int}{S:Sto}(h1:1<=w)(h5:w<=5)(t:Thing S (Xa ps))(hl:ps.length<=10)(hm:m<ps.length)(hg:∀t<m,is.getD t 0<(Xp w is t).length)(hp:∀t<m,ps[t]?=some ((is.getD t 0:Nat):Int))(hx:ps[m]?=some x)(hb:x<0\/((Xp w is m).length:Int)<=x) :
  ∃X,FT T G (k+10) 22 [.int w,Xa ps] S=.ex (S++X).length (S++X++[.exc 14]):=by
 obtain⟨X,e⟩:=Xt9 (k:=k) h1 h5 t hl;have tn:=Xkc (k:=k) (ps:=ps) h1 h5 (by omega) hg hp
 obtain⟨Y,g⟩:=X6f (F:=FT T G (k+9)) (G:=G) (i23:=23) (A:=some (.int w)) (B:=some (Xa ps)) (ps:=ps.map D.int) (N:=fun j=>Xb (Xp w is j)) (d:=.int x) (m:=m) (by rw[Vj];exact hm) (fun j d hj hd S=>tn j d hj hd S) (by rw[Vx,hx];rfl) (fun S=>X9x (k+2) hb S) (S++X)
 refine⟨X++Y,?_⟩;rw[ftx (d:=Xa4) rfl];refine Xmz (env:=[some (.int w),some (Xa ps),none,none]) rfl rfl ?_;refine e.trans ?_;have s4:=Xua (k:=k) (w:=w) (ps:=ps) (n:=Xb (stN w)) (S:=S++X);have g':=s4.trans g;rw[Vo S X Y]at g';exact Xda g'
theorem Xyj(k:Nat):Xb3 (FT T G (k+1)) 26:=Xwg rfl k
theorem X8e(k:Nat)(i j:Int)(S:Sto):FT T G (k+2) 28 [.int i,.int j] S=.ok (.bl (i==j)) S:=by
 rw[ftx (d:=Xb4 28 27) rfl];exact Xwp (Xj0 rfl k) i j S
theorem X8f(k:Nat){l:List Int}(h:l.length<=100)(S:Sto):∃X,FT T G (k+3) 28 [Xa l,Xa l] S=.ok (.bl true) (S++X):=by
 rw[ftx (d:=Xb4 28 27) rfl];exact Xwr (fun i j S=>X8e k i j S) l S h
theorem Xyk(k:Nat){n:List (List Int)}(h:n.length<=60)(hw:∀s∈n,s.length<=6)(S:Sto):∃X,FT T G (k+4) 28 [Xb n,Xb n] S=.ok (.bl true) (S++X):=by
 rw[ftx (d:=Xb4 28 27) rfl];unfold Xb;refine Xw9 (fun x hx Y=>?_) (by rw[Vj];omega)
 obtain⟨s,hs,rfl⟩:=Uh.mp hx;exact X8f k (by have:=hw s hs;omega) (S++Y)
theorem X8g{a d r:D}{S:Sto}(ha:Sm S 20 400000 a)(hd:Sm S 20 400000 d)(h:∀Y,∃X,FT T G 10 22 [a,d] (S++Y)=.ok r (S++Y++X)):∃X,FT T G 12 36 [a,d] S=.ok r (S++X):=by
 obtain⟨ps,hs⟩:=X5g ha hd;obtain⟨X,e⟩:=h [.lst [a,d]];rw[ftx (d:=Xg5 35) rfl];refine Xj4 hs (X:=[.lst [a,d]]++X) ?_;rw[ftx (d:=Xff 22 34) rfl,<- Vo];exact X1n e
theorem Xrn{c:Nat}{a d:D}{S:Sto}(h1:1<=c)(h2:c<=16)(ha:Sm S 20 400000 a)(hd:Sm S 20 400000 d)(h:∀Y,∃X,FT T G 10 22 [a,d] (S++Y)=.ex (S++Y++X).length (S++Y++X++[.exc c])):∃X,FT T G 12 36 [a,d] S=.ok (Xch c) (S++X):=by
 obtain⟨ps,hs⟩:=X5g ha hd;obtain⟨X,e⟩:=h [.lst [a,d]];obtain⟨Y,e2⟩:=X0y (T:=T) (G:=G) (k:=9) (f:=34) rfl h1 h2 (S++[.lst [a,d]]++X);rw[ftx (d:=Xg5 35) rfl];refine Xj4 hs (X:=[.lst [a,d]]++X++Y) ?_;rw[ftx (d:=Xff 22 34) rfl,<- Vo,<- Vo];exact X1o e e2
theorem Xpk{a d:D}{S:Sto}(ha:Thing S a)(hd:Sm S 20 400000 d)(h:wi a 1 5=false):∃X,FT T G 12 36 [a,d] S=.ok (.str "number") (S++X) :=
 Xrn (c:=8) (by decide) (by decide) ha.sm hd fun Y=>⟨[],by rw[Vz];exact X91 (Xgf ha.gd) h⟩
theorem Xxj(S:Sto){w:Nat}(h:w<=5):Sm S 20 400000 (.int w):=((Xbe (i:=(w:Int)) (by
 have:∀j:Fin 6,((j.val:Int)).natAbs.log2<1920:=by decide+kernel
 exact this ⟨w,by omega⟩)).sm S).mono (by omega) (by omega)
theorem Xhj{w:Nat}{d:D}{S:Sto}(h1:1<=w)(h5:w<=5)(t:Thing S d)(h:Xc1 d=true):∃X,FT T G 12 36 [.int w,d] S=.ok (.str "places") (S++X) :=
 Xrn (c:=14) (by decide) (by decide) (Xxj S h5) t.sm fun Y=>X92 h1 h5 t.app h
theorem X8h{w m:Nat}{is:List Nat}{ps:List Int}{x:Int}{S:Sto}(h1:1<=w)(h5:w<=5)(t:Thing S (Xa ps))(hl:ps.length<=10)(hm:m<ps.length)(hg:∀t<m,is.getD t 0<(Xp w is t).length)(hp:∀t<m,ps[t]?=some ((is.getD t 0:Nat):Int))(hx:ps[m]?=some x)(hb:x<0\/((Xp w is m).length:Int)<=x) :
  ∃X,FT T G 12 36 [.int w,Xa ps] S=.ok (.str "places") (S++X) :=
 Xrn (c:=14) (by decide) (by decide) (Xxj S h5) t.sm fun Y=>X93 h1 h5 t.app hl hm hg hp hx hb
theorem Xyl{w:Nat}{is:List Nat}{S:Sto}(h1:1<=w)(h5:w<=5)(t:Thing S (Xa (is.map V4)))(hl:is.length<=10)(hg:∀t<is.length,is.getD t 0<(Xp w is t).length) :
  ∃X,FT T G 12 36 [.int w,Xa (is.map V4)] S=.ok (Xb (Xp w is is.length)) (S++X) :=
 X8g (Xxj S h5) t.sm fun Y=>Xrm h1 h5 t.app hl hg
theorem X6h(k:Nat){a:List Int}(h:a.length<=6)(b:List Int)(S:Sto):∃X,FT T G (k+1) 30 [Xa a,Xa b] S=.ok (.bl (lie a b)) (S++X):=by
 rw[ftx (d:=⟨2,2,bLL⟩) rfl,Xti (by omega) S]
 exact⟨_,by rw[Vo]⟩
theorem X6i(k:Nat)(a b:List Int)(S:Sto)(h:a.length<=6):FT T G (k+1) 31 [Xa a,Xa b] S=.ok (Xa (lft a b)) (S++[.lst ((lft a b).map D.int)]):=by
 rw[ftx (d:=⟨2,2,Xg6⟩) rfl];exact Xmi (by omega) S
theorem X94(k:Nat){n r:List (List Int)}{o g:List Int}(ho:o.length<=6)(hg:g.length<=6)(hn:n.length<=60)(hr:Xay (swp n o g)=some r)(S:Sto):∃X,FT T G (k+2) 33 [Xb n,.tup [Xa o,Xa g]] S=.ok (Xb r) (S++X):=by
 rw[ftx (d:=X5x 30 31) rfl];exact X1e ho hg (by omega) (fun b S=>X6h k ho b S) (fun a b S h=>X6i k a b S h) hr S
theorem X8i(k:Nat){n:List (List Int)}(h:(ddI n.flatten).length<60)(hl:n.flatten.length<=big)(S:Sto):FT T G (k+1) 32 [Xb n] S=.ok (.ref (S.length+1)) (S++[.lst (n.flatten.map D.int)]++[.lst ((pts n).map D.int)]):=by
 rw[ftx (d:=dLPts) rfl];exact Xww h hl S
theorem X95(k:Nat){w:Nat}(h1:1<=w)(h5:w<=5)(S:Sto):∃X,FT T G (k+1) 29 [Xa (ptN w)] S=.ok (Xb (stN w)) (S++X):=by
 rw[ftx (d:=X51) rfl];exact X1m h1 h5 S
noncomputable def bS1:St:=.ite (.cmp .eq (.var 9) (.var 6)) (.cons (.asg (.var 8) (.blt .len (.cons (.var 13) .nil))) .nil) .nil
noncomputable def bS2:St:=.asg (.var 15) (.call 26 (.cons (.var 2) (.cons (.blt .len (.cons (.var 13) .nil)) .nil)))
noncomputable def bS3:St:=.asg (.var 16) (.call 32 (.cons (.var 13) .nil))
noncomputable def bE4:Ex:=.call 33 (.cons (.var 13) (.cons (.tup (.cons (.idx (.var 13) (.var 15)) (.cons (.tup (.cons (.idx (Xha 16 17) (.cst (.int 0))) .nil)) .nil))) .nil))
noncomputable def bE5:Ex:=.bin .add (.var 14) (.tup (.cons (.var 15) .nil))
noncomputable def Xhk:Sts:=.cons bS1 (.cons bS2 (.cons bS3 (.cons (.asg (.var 13) bE4) (.cons (.asg (.var 14) bE5) .nil))))
theorem X6j{j:Nat}(h1:1<=j)(h:j<=60):Xbz (j:Int)=true:=by
 have:∀i:Fin 60,Xbz ((i.val:Int)+1)=true:=by decide+kernel
 have q:=this ⟨j-1,by omega⟩
 have e:(((j-1:Nat):Int))+1=(j:Int):=by omega
 rw[<- e];exact q
section
variable{F:Fn}{G:List D}{S:Sto}{x0 x1 x3 x4 x5 x7 x10 x11 x12 x15 x16:Option D}
theorem X8j{j a:Nat}{far:Int}{n:List (List Int)}{x2 x14:Option D}:exe F G bS1 [x0,x1,x2,x3,x4,x5,some (.int a),x7,some (.int far),some (.int j),x10,x11,x12,some (Xb n),x14,x15,x16] S =
  .ok (.nx [x0,x1,x2,x3,x4,x5,some (.int a),x7,some (.int (if j=a then (n.length:Int) else far)),some (.int j),x10,x11,x12,some (Xb n),x14,x15,x16]) S:=by
 unfold bS1
 by_cases e:j=a
 ·subst e
  simp only[exe,ev,evs,gZ0,gS0,Rk0,Xax,beq_self_eq_true,Xf,pb,Xbl,Xr,if_true];rfl
 ·have b:((j:Int)==(a:Int))=false:=beq_eq_false_iff_ne.mpr (by omega)
  simp only[exe,ev,evs,gZ0,gS0,Rk0,Xax,b,Xf,pb,iN0 e]
theorem X1z(l:List Int)(i:Int)(S:Sto)(h:l.length<=100):Xo .add (Xa l) (.tup [.int i]) S=.ok (Xa (l++[i])) S:=by
 unfold Xa;simp only[Xo,Vj];rw[iP0 (Ye (by simp;omega)),Val]
 rfl
theorem X8k{j a p:Nat}{far v f:Int}{fr:List Int}{n:List (List Int)}{is:List Nat}(hT:Xb3 F 26)(hp:Xc S p=some [.int v])(h0:1<=n.length)(h60:n.length<=60)(hi:is.length<=20)
  (h32:∀S,F 32 [Xb n] S=.ok (.ref (S.length+1)) (S++[.lst (n.flatten.map D.int)]++[.lst ((pts n).map D.int)])) (hf:fre (pts n)=f::fr)
  (h33:∀i (h:i<n.length) S,∃X,F 33 [Xb n,.tup [Xa n[i],Xa [f]]] S=.ok (Xb (nxt n i)) (S++X)) :
  ∃i S' v' y,i<n.length/\pb F G Xhk [x0,x1,some (.ref p),x3,x4,x5,some (.int a),x7,some (.int far),some (.int j),x10,x11,x12,some (Xb n),some (Xa (is.map V4)),x15,x16] S =
   .ok (.nx [x0,x1,some (.ref p),x3,x4,x5,some (.int a),x7,some (.int (if j=a then (n.length:Int) else far)),some (.int j),x10,x11,x12,some (Xb (nxt n i)),some (Xa ((is++[i]).map V4)),some (.int i),y]) S'/\Ext p S S'/\Xc S' p=some [.int v']:=by
 have hpos:(0:Int)<(n.length:Int):=by omega
 have tk:=hT p v n.length S hp hpos (X6j h0 h60);have r0:=Vc6 v (Int.ne_of_gt hpos);have r1:=Vcg v hpos;obtain⟨i,ei⟩:∃i:Nat,v%(n.length:Int)=(i:Int):=⟨(v%(n.length:Int)).toNat,by omega⟩
 have hil:i<n.length:=by omega
 rw[ei]at tk;have p1:Xc (S.set p (.lst [.int (v/n.length)])) p=some [.int (v/n.length)]:=Xcc (Xaw hp);have x1':Ext p S (S.set p (.lst [.int (v/n.length)])):=Ext.set;generalize v/(n.length:Int)=v1 at tk p1 x1';generalize S.set p (.lst [.int v1])=S1 at tk p1 x1';have e3:=h32 S1;have k3:Xc (S1++[.lst (n.flatten.map D.int)]++[.lst ((pts n).map D.int)]) (S1.length+1)=some ((pts n).map D.int):=by
  have:=Xg (S:=S1++[O.lst (n.flatten.map D.int)]) (xs:=(pts n).map D.int)
  rwa [show(S1++[O.lst (n.flatten.map D.int)]).length=S1.length+1 by simp]at this
 have p2:Xc (S1++[.lst (n.flatten.map D.int)]++[.lst ((pts n).map D.int)]) p=some [.int v1]:=Xn (Xn p1);have x2':Ext p S (S1++[.lst (n.flatten.map D.int)]++[.lst ((pts n).map D.int)]):=(x1'.trans Ext.app).trans Ext.app;generalize S1++[O.lst (n.flatten.map D.int)]++[O.lst ((pts n).map D.int)]=S2 at e3 k3 p2 x2';generalize S1.length+1=q at e3 k3;have hn:n[i]?=some n[i]:=Vq hil;obtain⟨X4,e4⟩:=Xw8 (F:=F) (G:=G) (S:=S2) (ik:=16) (L:=17) (q:=q) (env:=[x0,x1,some (.ref p),x3,x4,x5,some (.int a),x7,some (.int (if j=a then (n.length:Int) else far)),some (.int j),x10,x11,x12,some (Xb n),some (Xa (is.map V4)),some (.int i),some (.ref q)]) rfl rfl k3 hf
 obtain⟨X5,e5⟩:=h33 i hil (S2++X4);refine⟨i,S2++X4++X5,v1,some (.ref q),hil,?_,(x2'.trans Ext.app).trans Ext.app,Xn (Xn p2)⟩;have hb1:([D.int f]:List D).length<=big:=by show 1<=big;decide
 have hb2:([Xa n[i],D.tup [.int f]]:List D).length<=big:=by show 2<=big;decide
 have hb3:([D.int i]:List D).length<=big:=by show 1<=big;decide
 unfold Xhk;refine(Xd X8j).trans ((Xd (Yn (d:=.int i) (S':=S1) ?_)).trans ((Xd (Yn (d:=.ref q) (S':=S2) ?_)).trans ((Xd (Yn (d:=Xb (nxt n i)) (S':=S2++X4++X5) ?_)).trans ((Xd (Yn (d:=Xa ((is++[i]).map V4)) (S':=S2++X4++X5) ?_)).trans rfl))))
 ·simp only[ev,evs,gZ0,gS0,Rk0,Xbl,tk]
 ·simp only[ev,evs,Vc2,gZ0,gS0,Rk0,e3]
 ·unfold bE4
  simp only[Vc2];rw[ev,evs,ev];simp only[gZ0,gS0,Rk0];rw[evs,ev,evs,ev];simp only[ev,gZ0,gS0,Rk0,Xiu hn rfl];rw[evs,ev,evs,e4];simp only[evs,Rk0,hb1,hb2,if_true];exact e5
 ·unfold bE5
  have cr:=X1z (is.map V4) (i:Int) (S2++X4++X5) (by rw[Vj];omega)
  simp only[Vc2,ev,evs,gZ0,gS0,Rk0,hb3,if_true,cr,Val];rfl
end
theorem Xcl{w:Nat}{is ys:List Nat}:∀ {j:Nat},j<=is.length->Xp w (is++ys) j=Xp w is j
 |0,_=>rfl
 |j+1,h=>by
  have hj:j<is.length:=by omega
  have e:(is++ys).getD j 0=is.getD j 0:=by simp[Vb0,Vt hj]
  show nxt (Xp w (is++ys) j) ((is++ys).getD j 0)=nxt (Xp w is j) (is.getD j 0);rw[Xcl (j:=j) (by omega),e]
def Good(w:Nat)(is:List Nat):Prop:=∀t<is.length,is.getD t 0<(Xp w is t).length
theorem Good.snoc{w i:Nat}{is:List Nat}(h:Good w is)(hi:i<(Xp w is is.length).length):Good w (is++[i]):=fun t ht=>by
 rw[Uf,Vcd]at ht
 by_cases e:t<is.length
 ·rw[Xcl (by omega)]
  have q:(is++[i]).getD t 0=is.getD t 0:=by simp[Vb0,Vt e]
  rw[q];exact h t e
 ·have e:t=is.length:=by omega
  subst e;rw[Xcl (Vl _)];have q:(is++[i]).getD is.length 0=i:=by simp[Vb0]
  rw[q];exact hi
theorem Xm1{w:Nat}{is:List Nat}(h1:1<=w)(h5:w<=5)(hl:is.length<=10)(h:Good w is){j:Nat}(hj:j<=is.length):Net w (w+1+j*(w-1)) (w+1+j) (Xp w is j) :=
 Xgl h1 h5 j (by omega) fun t ht=>h t (by omega)
theorem Xb5{w:Nat}{is:List Nat}(h1:1<=w)(h5:w<=5)(hl:is.length<=10)(h:Good w is){j:Nat}(hj:j<=is.length):1<=(Xp w is j).length/\(Xp w is j).length<=60/\∀s∈Xp w is j,s.length<=6:=by
 have n:=Xm1 h1 h5 hl h hj;have hm:j*(w-1)<=10*4:=Vg0 (by omega) (by omega)
 have:=n.few;refine⟨?_,by omega,fun s hs=>(n.fac s hs).few⟩
 cases e:Xp w is j with
 |nil=>exact aB0 e n.some
 |cons _ _=>simp
theorem Xpl:∀(n:List (List Int)),(∀s∈n,s.length<=6)->n.flatten.length<=n.length*6
 |[],_=>Vl _
 |s::n,h=>by
  have:=Xpl n fun x hx=>h x (Ua _ hx)
  have:=h s Uo;rw[U0,Uf,Uc];omega
section
variable{S:Sto}{x0 x1 x3 x4 x7 x10 x11 x12:Option D}
theorem X8l{w m a p:Nat}{v far:Int}{x9 x15 x16:Option D}(h1:1<=w)(h5:w<=5)(hm:m<=10)(hp:Xc S p=some [.int v]) :
  ∃is S' v' far' y9 y15 y16,exe (FT T G 12) G (.for (.var 9) (.rng (.cons (.var 5) .nil)) Xhk) [x0,x1,some (.ref p),x3,x4,some (.int m),some (.int a),x7,some (.int far),x9,x10,x11,x12,some (Xb (stN w)),some (.tup []),x15,x16] S =
   .ok (.nx [x0,x1,some (.ref p),x3,x4,some (.int m),some (.int a),x7,some (.int far'),y9,x10,x11,x12,some (Xb (Xp w is m)),some (Xa (is.map V4)),y15,y16]) S'/\is.length=m/\Good w is/\(a<m->far'=((Xp w is a).length:Int))/\Ext p S S'/\Xc S' p=some [.int v']:=by
 obtain⟨xs,hx,hl⟩:=Xes (m:=(m:Int)) (by omega) (Xqn (by omega))
 have hl':xs.length=m:=by rw[hl];omega
 obtain⟨e',S',f1,is,v',far',y9,y15,y16,q1,q2,q3,q4,q5,q6⟩:=Xii (F:=FT T G 12) (G:=G) (t:=.var 9) (b:=Xhk) (es:=.cons (.var 5) .nil) (env:=[x0,x1,some (.ref p),x3,x4,some (.int m),some (.int a),x7,some (.int far),x9,x10,x11,x12,some (Xb (stN w)),some (.tup []),x15,x16]) (S:=S) (S1:=S) (ds:=[.int m]) (xs:=xs)
  (fun j e S'=>∃(is:List Nat) (v' far':Int) (y9 y15 y16:Option D),e=[x0,x1,some (.ref p),x3,x4,some (.int m),some (.int a),x7,some (.int far'),y9,x10,x11,x12,some (Xb (Xp w is j)),some (Xa (is.map V4)),y15,y16]/\is.length=j/\Good w is/\(a<j->far'=((Xp w is a).length:Int))/\Ext p S S'/\Xc S' p=some [.int v'])
  (by simp only[evs,ev,gZ0,gS0,Rk0]) hx ⟨[],v,far,x9,x15,x16,rfl,rfl,fun t ht=>by simp at ht,fun z=>by omega,Ext.refl,hp⟩
  (fun j d e S1 hd hP=>by
   obtain⟨is,v1,far1,y9,y15,y16,rfl,rfl,hg,hf,hx1,hp1⟩:=hP;have hjm:is.length<m:=by rw[<- hl'];exact(Vi.mp hd).1
   obtain⟨rfl,_⟩:=Xge hx hd;have hn:=Xm1 h1 h5 (by omega) hg (Vl _)
   obtain⟨b1,b2,b3⟩:=Xb5 h1 h5 (by omega) hg (Vl _)
   have hmul:is.length*(w-1)<=9*4:=Vg0 (by omega) (by omega)
   have hdd:=Xt7 hn (by omega)
   have hpt:=hn.pts;obtain⟨f,r,ef,_,_,_⟩:=Xmj (ps:=pts (Xp w is is.length)) (by omega)
   have hfl:=Xpl _ b3;obtain⟨i,S2,v2,y,hi,t1,t2,t3⟩:=X8k (F:=FT T G 12) (G:=G) (S:=S1) (x0:=x0) (x1:=x1) (x3:=x3) (x4:=x4) (x5:=some (.int m)) (x7:=x7) (x10:=x10) (x11:=x11) (x12:=x12) (x15:=y15) (x16:=y16) (j:=is.length) (a:=a) (p:=p) (far:=far1) (n:=Xp w is is.length) (is:=is) (Xyj 11) hp1 b1 b2 (by omega)
    (fun S=>X8i 11 hdd (Ye (by omega)) S) ef
    (fun i hi S=>by
     obtain⟨f',r',e',_,_,_,hs,_,_⟩:=Xiv hn h1 (by omega) (by omega) hi
     rw[ef]at e';cases e';exact X94 10 (b3 _ (Vbz hi)) (by show 1<=6;decide) b2 hs S)
   refine⟨_,_,S2,rfl,t1,is++[i],v2,(if is.length=a then ((Xp w is is.length).length:Int) else far1),some (.int is.length),some (.int i),y,?_,by rw[Uf];rfl,hg.snoc hi,fun ha=>?_,hx1.trans t2,t3⟩
   ·have e:Xp w (is++[i]) (is.length+1)=nxt (Xp w is is.length) i:=by
     show nxt (Xp w (is++[i]) is.length) ((is++[i]).getD is.length 0)=_;have q:(is++[i]).getD is.length 0=i:=by simp[Vb0]
     rw[Xcl (Vl _),q]
    rw[e]
   ·rw[Xcl (by omega)]
    by_cases e:is.length=a
    ·subst e;rw[iP0 rfl]
    ·rw[iN0 e];exact hf (by omega))
 rw[hl']at q1 q2 q4;subst q1;exact⟨is,S',v',far',y9,y15,y16,f1,q2,q3,q4,q5,q6⟩
end
noncomputable def e20:Int:=10^(20:Int).toNat
theorem X6k(S:Sto):Xo .pow (.int 10) (.int 20) S=.ok (.int e20) S:=Xe8 (by decide+kernel) S
theorem X6l:(1000:Int)<=e20:=by decide+kernel
noncomputable def Xm2:Exs:=.cons (.cst (.int 0)) (.cons (.cst (.int 6)) (.cons (.neg (.cst (.int 1))) (.cons (.cst (.bl true)) (.cons (.cst (.bl false)) (.cons (.cst .non) (.cons (.cst (.str "2")) (.cons (.tup (.cons (.cst (.int 2)) .nil)) (.cons (.bin .pow (.cst (.int 10)) (.cst (.int 20))) (.cons (.lst (.cons (.cst (.int 2)) .nil)) .nil)))))))))
noncomputable def Xb6(q:Nat):List D:=[.int 0,.int 6,.int (-1),.bl true,.bl false,.non,.str "2",.tup [.int 2],.int e20,.ref q]
theorem Xxk{q:Nat}:∀d∈Xb6 q,wi d 1 5=false:=by
 intro d hd;unfold Xb6 at hd;simp only[Vv,Vap,or_false]at hd;rcases hd with rfl|rfl|rfl|rfl|rfl|rfl|rfl|rfl|rfl|rfl
 ·rfl
 ·rfl
 ·rfl
 ·rfl
 ·rfl
 ·rfl
 ·rfl
 ·rfl
 ·decide+kernel
 ·rfl
theorem Xpm:e20.natAbs.log2<1920:=by decide+kernel
theorem Xxl{p:Nat}{S:Sto}(hp:p<S.length):∀d∈Xb6 S.length,Kp p (S++[.lst [.int 2]]) d:=by
 intro d hd;have a1:Xc (S++[.lst [.int 2]]) S.length=some [.int 2]:=Xg;generalize S++[O.lst [.int 2]]=S1 at a1 ⊢;generalize S.length=q at hd a1 hp;have one:∀ {x y:D},x∈[y]->x=y:=fun h=>Up.mp h
 have i2:FSm 0 1921 (.int 2):=Xbe (by decide)
 unfold Xb6 at hd;simp only[Vv,Vap,or_false]at hd;rcases hd with rfl|rfl|rfl|rfl|rfl|rfl|rfl|rfl|rfl|rfl
 ·exact Xas (Xbe (by decide)) (fun _ z=>nomatch z) (by omega) (by omega)
 ·exact Xas (Xbe (by decide)) (fun _ z=>nomatch z) (by omega) (by omega)
 ·exact Xas (Xbe (by decide)) (fun _ z=>nomatch z) (by omega) (by omega)
 ·exact Xas Xqu (fun _ z=>nomatch z) (by omega) (by omega)
 ·exact Xas Xqu (fun _ z=>nomatch z) (by omega) (by omega)
 ·exact Xas Xme (fun _ z=>nomatch z) (by omega) (by omega)
 ·exact Xas (Xtd (by decide+kernel)) (fun _ z=>nomatch z) (by omega) (by omega)
 ·exact Xmf (fun x hx=>by rw[one hx];exact Xci (by decide)) (by decide)
 ·exact Xas (Xbe Xpm) (fun _ z=>nomatch z) (by omega) (by omega)
 ·exact Xte (by omega) a1 (fun x hx=>by rw[one hx];exact i2) (by omega) (by decide)
noncomputable def Xfa:Exs:=.cons (.var 8) (.cons (.neg (.cst (.int 1))) (.cons (.cst (.bl true)) (.cons (.cst .non) (.cons (.cst (.str "0")) (.cons (.tup (.cons (.cst (.int 0)) .nil)) (.cons (.lst (.cons (.cst (.int 0)) .nil)) (.cons (.bin .pow (.cst (.int 10)) (.cst (.int 20))) .nil)))))))
noncomputable def Xbk(far:Int)(q:Nat):List D:=[.int far,.int (-1),.bl true,.non,.str "0",.tup [.int 0],.ref q,.int e20]
theorem X10{p:Nat}{far:Int}{S:Sto}(hp:p<S.length)(hf:far.natAbs.log2<1920):∀d∈Xbk far S.length,El p (S++[.lst [.int 0]]) d:=by
 intro d hd;have a1:Xc (S++[.lst [.int 0]]) S.length=some [.int 0]:=Xg;generalize S++[O.lst [.int 0]]=S1 at a1 ⊢;generalize S.length=q at hd a1 hp;have one:∀ {x y:D},x∈[y]->x=y:=fun h=>Up.mp h
 have i0:FSm 0 1921 (.int 0):=Xbe (by decide)
 unfold Xbk at hd;simp only[Vv,Vap,or_false]at hd;rcases hd with rfl|rfl|rfl|rfl|rfl|rfl|rfl|rfl
 ·exact Xci hf
 ·exact Xci (by decide)
 ·exact Xcd Xqu (by omega) (by omega)
 ·exact Xcd Xme (by omega) (by omega)
 ·exact Xcd (Xtd (by decide+kernel)) (by omega) (by omega)
 ·exact Xcd (X5e i0) (by omega) (by omega)
 ·exact X5f (by omega) a1 (fun x hx=>by rw[one hx];exact i0) (by omega) (by decide)
 ·exact Xci Xpm
theorem X11{far:Int}{q:Nat}{c:Nat}(hc:c<=60)(hf:far=(c:Int)):∀d∈Xbk far q,wh d=false\/∃x,d=.int x/\(x<0\/(c:Int)<=x):=by
 intro d hd;have:=X6l;unfold Xbk at hd;simp only[Vv,Vap,or_false]at hd;rcases hd with rfl|rfl|rfl|rfl|rfl|rfl|rfl|rfl
 ·exact .inr ⟨_,rfl,.inr (by omega)⟩
 ·exact .inr ⟨_,rfl,.inl (by omega)⟩
 ·exact .inl rfl
 ·exact .inl rfl
 ·exact .inl rfl
 ·exact .inl rfl
 ·exact .inl rfl
 ·exact .inr ⟨_,rfl,.inr (by omega)⟩
section
variable{F:Fn}{G:List D}{S:Sto}{env:En}
theorem Xub(env:En)(S:Sto):evs F G Xm2 env S=.ok (Xb6 S.length) (S++[.lst [.int 2]]):=by
 have h2:([D.int 2]:List D).length<=big:=by show 1<=big;decide
 unfold Xm2 Xb6;simp only[evs,ev,Rk0,X6k,h2,if_true]
theorem Xmh{far:Int}(h:env[8]?=some (some (.int far)))(S:Sto):evs F G Xfa env S=.ok (Xbk far S.length) (S++[.lst [.int 0]]):=by
 have h2:([D.int 0]:List D).length<=big:=by show 1<=big;decide
 unfold Xfa Xbk;simp only[evs,ev,Rk0,h,X6k,h2,if_true]
noncomputable def Xro:Ex:=.bin .add (.bin .add (.sli (.var 14) .none (.some (.var 6))) (.tup (.cons (.var 10) .nil))) (.sli (.var 14) (.some (.bin .add (.var 6) (.cst (.int 1)))) .none)
noncomputable def Xxm:Ex:=.idx (.lst (.cons Xro (.cons (.blt .list (.cons (.var 14) .nil)) (.cons (.bin .mul (.tup (.cons (.cst (.int 0)) .nil)) (.cst (.int 11))) .nil)))) (.var 7)
noncomputable def tA(l:List Int)(a:Nat)(d:D):D:=.tup ((l.take a).map D.int++[d]++(l.drop (a+1)).map D.int)
theorem X12{l:List Int}{a:Nat}{d:D}(hl:l.length<=100)(h6:env[6]?=some (some (.int a)))(h10:env[10]?=some (some d))(h14:env[14]?=some (some (Xa l)))(S:Sto):ev F G Xro env S=.ok (tA l a d) S:=by
 have b1:Xo .add (.int a) (.int 1) S=.ok (.int ((a+1:Nat):Int)) S:=Y8 ..;have hb:([d]:List D).length<=big:=by show 1<=big;decide
 have c1:Xo .add (Xa (l.take a)) (.tup [d]) S=.ok (.tup ((l.take a).map D.int++[d])) S:=by
  unfold Xa;simp only[Xo];exact iP0 (Ye (by simp;omega))
 have c2:Xo .add (.tup ((l.take a).map D.int++[d])) (Xa (l.drop (a+1))) S=.ok (tA l a d) S:=by
  unfold Xa tA;simp only[Xo];exact iP0 (Ye (by simp;omega))
 unfold Xro;simp only[ev,evo,evs,h6,h10,h14,Rk0,Xdv,Xwo,Xj5,b1,hb,if_true,c1,c2]
noncomputable def t11:D:=Xa (Vh 11 0)
theorem X14{l:List Int}{a b:Nat}{d:D}(hl:l.length<=100)(h6:env[6]?=some (some (.int a)))(h7:env[7]?=some (some (.int b)))(hb:b<3)(h10:env[10]?=some (some d))(h14:env[14]?=some (some (Xa l)))(S:Sto) :
  ∃r X,ev F G Xxm env S=.ok r (S++[.lst (l.map D.int)]++X)/\(r=tA l a d\/r=.ref S.length\/r=t11):=by
 have ha:=X12 (F:=F) (G:=G) hl h6 h10 h14 S;have hls:Xm .list [Xa l] S=.ok (.ref S.length) (S++[.lst (l.map D.int)]):=rfl;have hz:=Xtc 11 (S++[.lst (l.map D.int)]) (by decide)
 have hz':Xo .mul (.tup [.int 0]) (.int 11) (S++[.lst (l.map D.int)])=.ok t11 (S++[.lst (l.map D.int)]):=hz;have hb1:([D.int 0]:List D).length<=big:=by show 1<=big;decide
 have hb3:([tA l a d,D.ref S.length,t11]:List D).length<=big:=by show 3<=big;decide
 have he:ev F G (.lst (.cons Xro (.cons (.blt .list (.cons (.var 14) .nil)) (.cons (.bin .mul (.tup (.cons (.cst (.int 0)) .nil)) (.cst (.int 11))) .nil)))) env S=.ok (.ref (S++[O.lst (l.map D.int)]).length) (S++[.lst (l.map D.int)]++[.lst [tA l a d,.ref S.length,t11]]):=by
  simp only[ev,evs,ha,h14,Rk0,hls,hb1,if_true,hz',hb3]
 refine⟨([tA l a d,.ref S.length,t11]:List D).getD b .non,[.lst [tA l a d,.ref S.length,t11]],?_,?_⟩
 ·have hx:Xag (.ref (S++[O.lst (l.map D.int)]).length) (.int b) (S++[.lst (l.map D.int)]++[.lst [tA l a d,.ref S.length,t11]])=.ok (([tA l a d,.ref S.length,t11]:List D).getD b .non) (S++[.lst (l.map D.int)]++[.lst [tA l a d,.ref S.length,t11]]) :=
   X5k (i:=b) Xg (by
    match b,hb with
    |0,_=>rfl
    |1,_=>rfl
    |2,_=>rfl) rfl
  unfold Xxm;rw[ev,he,Rk0];simp only[ev,h7,Rk0,hx]
 ·match b,hb with
  |0,_=>exact .inl rfl
  |1,_=>exact .inr (.inl rfl)
  |2,_=>exact .inr (.inr rfl)
end
theorem Xkd{i:Nat}(h:i<=60):((i:Int)).natAbs.log2<1920:=by
 have:∀j:Fin 61,((j.val:Int)).natAbs.log2<1920:=by decide+kernel
 exact this ⟨i,by omega⟩
theorem X8m{w:Nat}{is:List Nat}(h1:1<=w)(h5:w<=5)(hl:is.length<=10)(h:Good w is):∀i∈is,i<=60:=fun i hi=>by
 obtain⟨t,ht,e⟩:=Vbm.mp hi;have g:=h t ht;have b:=(Xb5 h1 h5 hl h (Vb9 ht)).2.1;have q:is.getD t 0=i:=by simp[Vb0,Vq ht,e]
 omega
theorem Xji{is:List Nat}(h:∀i∈is,i<=60):Xws (is.map V4):=fun x hx=>by
 obtain⟨i,hi,rfl⟩:=Uh.mp hx;exact Xkd (h i hi)
theorem Xhl{p:Nat}{is:List Nat}{S:Sto}(h:∀i∈is,i<=60)(hl:is.length<=10):Kp p S (Xa (is.map V4)):=Xtf (Xji h) (by rw[Vj];omega)
theorem X96{p a:Nat}{l:List Int}{d:D}{S:Sto}(hn:Xws l)(hl:l.length<=10)(hd:El p S d)(ha:a<=l.length):Kp p S (tA l a d):=by
 refine Xmf (fun x hx=>?_) (by simp;omega)
 rw[Vbh,Vbh]at hx;rcases hx with(hx|hx)|hx
 ·obtain⟨i,hi,rfl⟩:=Uh.mp hx
  exact Xci (hn i (List.mem_of_mem_take hi))
 ·rw[Up]at hx;subst hx;exact hd
 ·obtain⟨i,hi,rfl⟩:=Uh.mp hx
  exact Xci (hn i (List.mem_of_mem_drop hi))
theorem X8n{w a:Nat}{is:List Nat}{d:D}{S:Sto}(h1:1<=w)(h5:w<=5)(hg:Good w is)(hl:is.length<=10)(ha:a<=is.length)(t:Thing S (tA (is.map V4) a d))(hb:wh d=false\/∃x,d=.int x/\(x<0\/((Xp w is a).length:Int)<=x)) :
  ∃X,FT T G 12 36 [.int w,tA (is.map V4) a d] S=.ok (.str "places") (S++X):=by
 rcases hb with hb|⟨x,rfl,hb⟩
 ·refine Xhj h1 h5 t ?_
  have:(((is.map V4).take a).map D.int++[d]++((is.map V4).drop (a+1)).map D.int).all wh=false:=by
   rw[List.all_append,List.all_append];simp[hb]
  simp only[tA,Xc1,this,Vce,Bool.true_or]
 ·have e:tA (is.map V4) a (.int x)=Xa ((is.map V4).take a++[x]++(is.map V4).drop (a+1)):=by
   unfold tA Xa;simp only[Val];rfl
  have hlen:((is.map V4).take a++[x]++(is.map V4).drop (a+1)).length=a+1+(is.length-(a+1)):=by
   simp;omega
  by_cases q:((is.map V4).take a++[x]++(is.map V4).drop (a+1)).length<=10
  ·rw[e]at t ⊢
   have hta:((is.map V4).take a).length=a:=by simp;omega
   refine X8h (m:=a) (is:=is) h1 h5 t q (by omega) (fun u hu=>hg u (by omega)) (fun u hu=>?_) ?_ hb
   ·rw[Vo,Vt (by omega),Vhn hu,Vx,Vq (show u<is.length by omega)]
    simp[Vb0,Vq (show u<is.length by omega)]
   ·rw[Vo,U5 (by omega),hta,Vag]
    rfl
  ·refine Xhj h1 h5 t ?_
   rw[e];simp only[Xc1,Xa,Xtg,Ut,Bool.false_or,Vj];exact decide_eq_true (by omega)
theorem X6m{w:Nat}{S:Sto}(h1:1<=w)(h5:w<=5)(t:Thing S t11):∃X,FT T G 12 36 [.int w,t11] S=.ok (.str "places") (S++X):=Xhj h1 h5 t rfl
noncomputable def wnp:List D:=[.str "number",.str "number",.str "places",.str "places"]
theorem Xpn{S:Sto}{q:Nat}(h:Xc S q=some wnp):X8 S (.ref q)=some (.list [.str "number",.str "number",.str "places",.str "places"]):=by
 show Yg S 4 q=_;rw[Yg,Xdf h];rfl
noncomputable def Xxn:Ex:=.cmp .ne (.var 12) (.bin .add (.bin .mul (.lst (.cons (.cst (.str "number")) .nil)) (.cst (.int 2))) (.bin .mul (.lst (.cons (.cst (.str "places")) .nil)) (.cst (.int 2))))
theorem X6n{S:Sto}{q:Nat}{x:D}(h:Xc S q=some [x]):Xo .mul (.ref q) (.int 2) S=.ok (.ref S.length) (S++[.lst [x,x]]):=by
 have h':Z.lstM S q=some [x]:=h;simp only[Xo,h'];rw[iP0 ⟨by decide,by show 1*2<=big;decide,by decide⟩]
 rfl
theorem Xxo:(if ((Va8 [.str "number",.str "number",.str "places",.str "places"]).canLay0&&(Va8 [.str "number",.str "number",.str "places",.str "places"]).canLay0&&decide ((Va8 [.str "number",.str "number",.str "places",.str "places"]).depth<=60))=true then some (Vav (.list [.str "number",.str "number",.str "places",.str "places"]) (.list [.str "number",.str "number",.str "places",.str "places"])) else none)=some true:=by decide+kernel
theorem X6o{F:Fn}{G:List D}{env:En}{S:Sto}{q:Nat}(h:env[12]?=some (some (.ref q)))(hq:Xc S q=some wnp):∃S',ev F G Xxn env S=.ok (.bl false) S':=by
 have b1:([D.str "number"]:List D).length<=big:=by show 1<=big;decide
 have b2:([D.str "places"]:List D).length<=big:=by show 1<=big;decide
 have q0:=Xn (X:=[O.lst [.str "number"]]) hq;have m1:=X6n (S:=S++[O.lst [.str "number"]]) (q:=S.length) Xg;have k1:Xc (S++[O.lst [.str "number"]]++[O.lst [.str "number",.str "number"]]) (S++[O.lst [.str "number"]]).length=some [.str "number",.str "number"]:=Xg;have q1:=Xn (X:=[O.lst [.str "number",.str "number"]]) q0;generalize (S++[O.lst [.str "number"]]).length=r1 at m1 k1;generalize S++[O.lst [.str "number"]]++[O.lst [.str "number",.str "number"]]=S1 at m1 k1 q1;have m2:=X6n (S:=S1++[O.lst [.str "places"]]) (q:=S1.length) Xg;have k2:Xc (S1++[O.lst [.str "places"]]++[O.lst [.str "places",.str "places"]]) (S1++[O.lst [.str "places"]]).length=some [.str "places",.str "places"]:=Xg;have k1':=Xn (X:=[O.lst [.str "places",.str "places"]]) (Xn (X:=[O.lst [.str "places"]]) k1);have q2:=Xn (X:=[O.lst [.str "places",.str "places"]]) (Xn (X:=[O.lst [.str "places"]]) q1);generalize (S1++[O.lst [.str "places"]]).length=r2 at m2 k2;generalize S1++[O.lst [.str "places"]]++[O.lst [.str "places",.str "places"]]=S2 at m2 k2 k1' q2;have a:Xo .add (.ref r1) (.ref r2) S2=.ok (.ref S2.length) (S2++[.lst wnp]):=by
  have z1:Z.lstM S2 r1=some [.str "number",.str "number"]:=k1';have z2:Z.lstM S2 r2=some [.str "places",.str "places"]:=k2;simp only[Xo,z1,z2];exact iP0 (by show 4<=big;decide)
 have d1:=Xpn (Xn (X:=[O.lst wnp]) q2);have d2:=Xpn (S:=S2++[O.lst wnp]) (q:=S2.length) Xg;have ne:Xj .ne (.ref q) (.ref S2.length) (S2++[.lst wnp])=.ok (.bl false) (S2++[.lst wnp]):=by
  have z:eqD (S2++[.lst wnp]) (.ref q) (.ref S2.length)=some true:=by
   unfold eqD;simp only[Xbs];rw[d1,d2];have y:=Xxo
   by_cases c:((Va8 [.str "number",.str "number",.str "places",.str "places"]).canLay0&&(Va8 [.str "number",.str "number",.str "places",.str "places"]).canLay0&&decide ((Va8 [.str "number",.str "number",.str "places",.str "places"]).depth<=60))=true
   ·rw[iP0 c]at y
    dsimp only;rw[iP0 c];exact y
   ·rw[iN0 c]at y;cases y
  simp only[Xj,X9,z,Vy,Ut]
 refine⟨S2++[.lst wnp],?_⟩;unfold Xxn;simp only[ev,evs,h,Rk0,b1,b2,if_true,m1,m2,a,ne]
noncomputable def tk(c:Int):Ex:=.call 26 (.cons (.var 2) (.cons (.cst (.int c)) .nil))
noncomputable def M1:St:=.asg (.var 2) (.call 25 (.cons (.call 24 (.cons (.var 0) (.cons (.var 1) .nil))) .nil))
noncomputable def e2:Ex:=.bin .add (.cst (.int 1)) (tk 5)
noncomputable def e4:Ex:=.idx (.lst (.cons (.cst (.int 10)) (.cons (tk 11) .nil))) (tk 2)
noncomputable def e5:Ex:=.call 26 (.cons (.var 2) (.cons (.bin .add (.var 5) (.cst (.int 1))) .nil))
noncomputable def M7:St:=.par [13,14] (.cons (.call 29 (.cons (.lrg true (.cons (.bin .add (.var 3) (.cst (.int 1))) .nil)) .nil)) (.cons (.tup .nil) .nil))
noncomputable def Xhm:Ex:=.blt .len (.cons (.var 13) .nil)
noncomputable def sE:Ex:=.call 28 (.cons (.call 36 (.cons (.var 3) (.cons (.var 14) .nil))) (.cons (.var 13) .nil))
noncomputable def Xm3:Sts:=.cons (.ret (.cst (.bl false))) .nil
noncomputable def c10:Ex:=.or (.not sE) (.not sE)
noncomputable def M11:St:=.ite (.cmp .eq (.var 6) (.var 5)) (.cons (.asg (.var 8) Xhm) .nil) .nil
noncomputable def e14:Ex:=.lst (.cons (.call 36 (.cons (.var 4) (.cons (.var 11) .nil))) (.cons (.call 36 (.cons (.var 4) (.cons (.var 14) .nil))) (.cons (.call 36 (.cons (.var 3) (.cons (.var 11) .nil))) (.cons (.call 36 (.cons (.var 3) (.cons (.cst .non) .nil))) .nil))))
noncomputable def Xhn:Sts:=.cons M1 (.cons (.asg (.var 3) e2) (.cons (.asg (.var 4) (.idx (.lst Xm2) (tk 10))) (.cons (.asg (.var 5) e4) (.cons (.asg (.var 6) e5) (.cons (.asg (.var 7) (tk 3)) (.cons M7 (.cons (.asg (.var 8) Xhm)
 (.cons (.for (.var 9) (.rng (.cons (.var 5) .nil)) Xhk) (.cons (.ite c10 Xm3 .nil) (.cons M11 (.cons (.asg (.var 10) (.idx (.lst Xfa) (tk 8))) (.cons (.asg (.var 11) Xxm) (.cons (.asg (.var 12) e14) (.cons (.ite Xxn Xm3 .nil) .nil))))))))))))))
noncomputable def t1:Ex:=.tup (.cons (.tup (.cons (.cst (.int 0)) .nil)) (.cons (.tup (.cons (.cst (.int 2)) .nil)) .nil))
noncomputable def t2:Ex:=.tup (.cons (.tup (.cons (.cst (.int 0)) (.cons (.cst (.int 2)) .nil))) (.cons (.tup (.cons (.cst (.int 0)) (.cons (.cst (.int 3)) .nil))) (.cons (.tup (.cons (.cst (.int 1)) (.cons (.cst (.int 2)) .nil))) (.cons (.tup (.cons (.cst (.int 1)) (.cons (.cst (.int 3)) .nil))) .nil))))
noncomputable def t3:Ex:=.tup (.cons (.tup (.cons (.cst (.int 0)) .nil)) (.cons (.tup (.cons (.cst (.int 1)) .nil)) .nil))
noncomputable def f1:Ex:=.call 22 (.cons (.cst (.int 1)) (.cons (.tup (.cons (.cst (.int 0)) (.cons (.cst (.int 0)) .nil))) .nil))
noncomputable def f2:Ex:=.call 22 (.cons (.cst (.int 2)) (.cons (.tup (.cons (.cst (.int 0)) .nil)) .nil))
noncomputable def f3:Ex:=.call 22 (.cons (.cst (.int 1)) (.cons (.tup .nil) .nil))
noncomputable def fin:Sts:=.cons (.ite (.cmp .ne f1 t1) Xm3 .nil) (.cons (.ret (.and (.cmp .eq f2 t2) (.cmp .eq f3 t3))) .nil)
theorem Xxp:Xre=.cons (.for (.var 1) (.rng (.cons (.blt .max (.cons (.cst (.int 1)) (.cons (.blt .min (.cons (.blt .len (.cons (.var 0) .nil)) (.cons (.cst (.int 8)) .nil))) .nil))) .nil)) Xhn) fin:=rfl
section
variable{F:Fn}{G:List D}{S:Sto}{env:En}{p:Nat}{v:Int}
theorem Xrp{c:Int}(hT:Xb3 F 26)(h2:env[2]?=some (some (.ref p)))(hp:Xc S p=some [.int v])(h0:0<c)(hd:Xbz c=true):ev F G (tk c) env S=.ok (.int (v%c)) (S.set p (.lst [.int (v/c)])):=by
 unfold tk;simp only[ev,evs,h2,Rk0,hT p v c S hp h0 hd]
theorem X8o(hT:Xb3 F 26)(h2:env[2]?=some (some (.ref p)))(hp:Xc S p=some [.int v]):∃w:Nat,1<=w/\w<=5/\ev F G e2 env S=.ok (.int w) (S.set p (.lst [.int (v/5)])):=by
 have n0:=Vc6 v (show(5:Int)≠0 by omega)
 have n1:=Vcg v (show(0:Int)<5 by omega)
 obtain⟨w,hw⟩:∃w:Nat,1+v%5=(w:Int):=⟨(1+v%5).toNat,by omega⟩
 refine⟨w,by omega,by omega,?_⟩
 have t:=Xrp (G:=G) (c:=5) hT h2 hp (by omega) (by decide+kernel)
 unfold e2;rw[ev,ev,Rk0,t,Rk0,Y8,hw]
theorem X8p(hT:Xb3 F 26)(h2:env[2]?=some (some (.ref p)))(hp:Xc S p=some [.int v]):∃(m:Nat) (S':Sto) (v':Int),m<=10/\ev F G e4 env S=.ok (.int m) S'/\Ext p S S'/\Xc S' p=some [.int v']:=by
 have n0:=Vc6 v (show(11:Int)≠0 by omega)
 have n1:=Vcg v (show(0:Int)<11 by omega)
 have t:=Xrp (G:=G) (c:=11) hT h2 hp (by omega) (by decide+kernel)
 have p1:Xc (S.set p (.lst [.int (v/11)])) p=some [.int (v/11)]:=Xcc (Xaw hp);have x1:Ext p S (S.set p (.lst [.int (v/11)])):=Ext.set;generalize v/11=v1 at t p1 x1;generalize S.set p (.lst [.int v1])=S1 at t p1 x1;have he:evs F G (.cons (.cst (.int 10)) (.cons (tk 11) .nil)) env S=.ok [.int 10,.int (v%11)] S1:=by
  rw[evs,ev,Rk0,evs,t];simp only[Rk0,evs]
 obtain⟨d,hd,e⟩:=Xwh (F:=F) (G:=G) (f:=26) (c:=2) hT he rfl (by omega) (by show 2<=big;decide) (by decide+kernel) h2 p1
 have px:Xc ((S1++[O.lst [.int 10,.int (v%11)]]).set p (.lst [.int (v1/2)])) p=some [.int (v1/2)]:=Xeu p1;have xx:Ext p S ((S1++[O.lst [.int 10,.int (v%11)]]).set p (.lst [.int (v1/2)])):=(x1.trans Ext.app).trans Ext.set;simp only[Vv,Vap,or_false]at hd;rcases hd with rfl|rfl
 ·exact⟨10,_,_,by omega,e,xx,px⟩
 ·obtain⟨m,hm⟩:∃m:Nat,v%11=(m:Int):=⟨(v%11).toNat,by omega⟩
  rw[hm]at e xx px;exact⟨m,_,_,by omega,e,xx,px⟩
theorem X8q{m:Nat}(hT:Xb3 F 26)(h2:env[2]?=some (some (.ref p)))(h5:env[5]?=some (some (.int m)))(hm:m<=10)(hp:Xc S p=some [.int v]):∃(a:Nat) (S':Sto) (v':Int),a<=m/\ev F G e5 env S=.ok (.int a) S'/\Ext p S S'/\Xc S' p=some [.int v']:=by
 have hpos:(0:Int)<((m+1:Nat):Int):=by omega
 have n0:=Vc6 v (Int.ne_of_gt hpos);have n1:=Vcg v hpos;have t:=hT p v ((m+1:Nat):Int) S hp hpos (X6j (by omega) (by omega))
 obtain⟨a,ha⟩:∃a:Nat,v%((m+1:Nat):Int)=(a:Int):=⟨(v%((m+1:Nat):Int)).toNat,by omega⟩
 have b:Xo .add (.int m) (.int 1) S=.ok (.int ((m+1:Nat):Int)) S:=Y8 ..;rw[ha]at t;have hev:ev F G e5 env S=.ok (.int a) (S.set p (.lst [.int (v/((m+1:Nat):Int))])):=by
  unfold e5;simp only[ev,evs,h2,h5,Rk0,b,t]
 exact⟨a,_,_,by omega,hev,Ext.set,Xcc (Xaw hp)⟩
theorem X8r(hT:Xb3 F 26)(h2:env[2]?=some (some (.ref p)))(hp:Xc S p=some [.int v]):∃(b:Nat) (S':Sto) (v':Int),b<3/\ev F G (tk 3) env S=.ok (.int b) S'/\Ext p S S'/\Xc S' p=some [.int v']:=by
 have n0:=Vc6 v (show(3:Int)≠0 by omega)
 have n1:=Vcg v (show(0:Int)<3 by omega)
 obtain⟨b,hb⟩:∃b:Nat,v%3=(b:Int):=⟨(v%3).toNat,by omega⟩
 have t:=Xrp (G:=G) (c:=3) hT h2 hp (by omega) (by decide+kernel)
 rw[hb]at t;exact⟨b,_,_,by omega,t,Ext.set,Xcc (Xaw hp)⟩
theorem X6p{i j:Int}{xs:List D}{n:D}{S1:Sto}{x0 x1 x2 x4 x5 x6 x7 x8 x9 x10 x11 x12 x13 x14 x15 x16:Option D}(hb:Xo .add (.int i) (.int 1) S=.ok (.int j) S)(hr:Yd [.int j]=some xs)(h:F 29 [.tup xs] S=.ok n S1) :
  exe F G M7 [x0,x1,x2,some (.int i),x4,x5,x6,x7,x8,x9,x10,x11,x12,x13,x14,x15,x16] S=.ok (.nx [x0,x1,x2,some (.int i),x4,x5,x6,x7,x8,x9,x10,x11,x12,some n,some (.tup []),x15,x16]) S1:=by
 have hl:([]:List D).length<=big:=by show 0<=big;decide
 unfold M7;simp only[exe,evs,ev,gZ0,gS0,Rk0,hb,hr,if_true,h,hl,Um];rfl
theorem X6q{w:Nat}{pl n:D}{S1 S2 S3 S4:Sto}(h3:env[3]?=some (some (.int w)))(h13:env[13]?=some (some n))(h14:env[14]?=some (some pl))(a1:F 36 [.int w,pl] S=.ok n S1)(a2:F 28 [n,n] S1=.ok (.bl true) S2)(a3:F 36 [.int w,pl] S2=.ok n S3)(a4:F 28 [n,n] S3=.ok (.bl true) S4) :
  ev F G c10 env S=.ok (.bl false) S4:=by
 unfold c10 sE;simp only[ev,evs,h3,h13,h14,Rk0,a1,a2,a3,a4,Xf,Ut]
theorem X6r{a m:Nat}{far:Int}{n:List (List Int)}{x0 x1 x2 x3 x4 x7 x9 x10 x11 x12 x14 x15 x16:Option D}:exe F G M11 [x0,x1,x2,x3,x4,some (.int m),some (.int a),x7,some (.int far),x9,x10,x11,x12,some (Xb n),x14,x15,x16] S =
  .ok (.nx [x0,x1,x2,x3,x4,some (.int m),some (.int a),x7,some (.int (if a=m then (n.length:Int) else far)),x9,x10,x11,x12,some (Xb n),x14,x15,x16]) S:=by
 unfold M11 Xhm
 by_cases e:a=m
 ·subst e
  simp only[exe,ev,evs,gZ0,gS0,Rk0,Xax,beq_self_eq_true,Xf,pb,Xbl,Xr,if_true];rfl
 ·have b:((a:Int)==(m:Int))=false:=beq_eq_false_iff_ne.mpr (by omega)
  simp only[exe,ev,evs,gZ0,gS0,Rk0,Xax,b,Xf,pb,iN0 e]
theorem X6s{d3 d4 d11 d14 r1 r2 r3 r4:D}{S1 S2 S3 S4:Sto}(h3:env[3]?=some (some d3))(h4:env[4]?=some (some d4))(h11:env[11]?=some (some d11))(h14:env[14]?=some (some d14))(a1:F 36 [d4,d11] S=.ok r1 S1)(a2:F 36 [d4,d14] S1=.ok r2 S2)(a3:F 36 [d3,d11] S2=.ok r3 S3)(a4:F 36 [d3,.non] S3=.ok r4 S4) :
  ev F G e14 env S=.ok (.ref S4.length) (S4++[.lst [r1,r2,r3,r4]]):=by
 have hl:([r1,r2,r3,r4]:List D).length<=big:=by show 4<=big;decide
 unfold e14;simp only[ev,evs,h3,h4,h11,h14,Rk0,a1,a2,a3,a4,hl,if_true]
theorem Xrq(i:Int)(S:Sto):ev F G (.tup (.cons (.cst (.int i)) .nil)) env S=.ok (Xa [i]) S:=by
 have hl:([D.int i]:List D).length<=big:=by show 1<=big;decide
 simp only[ev,evs,Rk0,hl,if_true];rfl
theorem Xrr(i j:Int)(S:Sto):ev F G (.tup (.cons (.cst (.int i)) (.cons (.cst (.int j)) .nil))) env S=.ok (Xa [i,j]) S:=by
 have hl:([D.int i,.int j]:List D).length<=big:=by show 2<=big;decide
 simp only[ev,evs,Rk0,hl,if_true];rfl
theorem X8s(S:Sto):ev F G t1 env S=.ok (Xb [[0],[2]]) S:=by
 have hl:([Xa [0],Xa [2]]:List D).length<=big:=by show 2<=big;decide
 unfold t1;rw[ev,evs,Xrq,Rk0,evs,Xrq];simp only[evs,Rk0,hl,if_true];rfl
theorem X8t(S:Sto):ev F G t3 env S=.ok (Xb [[0],[1]]) S:=by
 have hl:([Xa [0],Xa [1]]:List D).length<=big:=by show 2<=big;decide
 unfold t3;rw[ev,evs,Xrq,Rk0,evs,Xrq];simp only[evs,Rk0,hl,if_true];rfl
theorem X8u(S:Sto):ev F G t2 env S=.ok (Xb [[0,2],[0,3],[1,2],[1,3]]) S:=by
 have hl:([Xa [0,2],Xa [0,3],Xa [1,2],Xa [1,3]]:List D).length<=big:=by show 4<=big;decide
 unfold t2;rw[ev,evs,Xrr,Rk0,evs,Xrr,Rk0,evs,Xrr,Rk0,evs,Xrr];simp only[evs,Rk0,hl,if_true];rfl
theorem q1(S:Sto):Xj .ne (Xb [[0],[2]]) (Xb [[0],[2]]) S=.ok (.bl false) S:=by rfl
theorem q2(S:Sto):Xj .eq (Xb [[0,2],[0,3],[1,2],[1,3]]) (Xb [[0,2],[0,3],[1,2],[1,3]]) S=.ok (.bl true) S:=by rfl
theorem q3(S:Sto):Xj .eq (Xb [[0],[1]]) (Xb [[0],[1]]) S=.ok (.bl true) S:=by rfl
theorem X15(a1:∀S,∃X,F 22 [.int 1,.tup [.int 0,.int 0]] S=.ok (Xb [[0],[2]]) (S++X))(a2:∀S,∃X,F 22 [.int 2,.tup [.int 0]] S=.ok (Xb [[0,2],[0,3],[1,2],[1,3]]) (S++X))(a3:∀S,∃X,F 22 [.int 1,.tup []] S=.ok (Xb [[0],[1]]) (S++X))(S:Sto) :
  ∃S',pb F G fin env S=.ok (.rt (.bl true)) S':=by
 obtain⟨X1,b1⟩:=a1 S;obtain⟨X2,b2⟩:=a2 (S++X1);obtain⟨X3,b3⟩:=a3 (S++X1++X2);have h0:([]:List D).length<=big:=by show 0<=big;decide
 have h1:([D.int 0]:List D).length<=big:=by show 1<=big;decide
 have h2:([D.int 0,.int 0]:List D).length<=big:=by show 2<=big;decide
 have g1:ev F G f1 env S=.ok (Xb [[0],[2]]) (S++X1):=by
  unfold f1;simp only[ev,evs,Rk0,h2,if_true,b1]
 have g2:ev F G f2 env (S++X1)=.ok (Xb [[0,2],[0,3],[1,2],[1,3]]) (S++X1++X2):=by
  unfold f2;simp only[ev,evs,Rk0,h1,if_true,b2]
 have g3:ev F G f3 env (S++X1++X2)=.ok (Xb [[0],[1]]) (S++X1++X2++X3):=by
  unfold f3;simp only[ev,evs,Rk0,h0,if_true,b3]
 refine⟨S++X1++X2++X3,?_⟩;unfold fin;refine(Xd (Y9 (S':=S++X1) ?_)).trans (Xk ?_)
 ·rw[ev,g1,Rk0,X8s,Rk0,q1]
 ·rw[exe,ev,ev,g2,Rk0,X8u,Rk0,q2,Rk0]
  simp only[Xf];rw[ev,g3,Rk0,X8t,Rk0,q3,Rk0]
end
theorem X6t{env:En}(S:Sto):∃S',pb (FT T G 12) G fin env S=.ok (.rt (.bl true)) S' :=
 X15 (fun S=>Xrm (k:=2) (w:=1) (is:=[0,0]) (by decide) (by decide) (Xhl (p:=0) (by decide) (by decide)).now (by decide) (by decide+kernel))
  (fun S=>Xrm (k:=2) (w:=2) (is:=[0]) (by decide) (by decide) (Xhl (p:=0) (by decide) (by decide)).now (by decide) (by decide+kernel))
  (fun S=>Xrm (k:=2) (w:=1) (is:=[]) (by decide) (by decide) (Xhl (p:=0) (by decide) (by decide)).now (by decide) (by decide+kernel)) S
theorem X6u(S:Sto):Thing S .non:=(Xas (p:=0) (S:=S) Xme (fun _ z=>nomatch z) (by omega) (by omega)).now
theorem X8v {w p:Nat} {d4 d11 d14:D} {S:Sto} {env:En} (h1:1<=w) (h5:w<=5) (k4:Kp p S d4) (w4:wi d4 1 5=false) (k11:Kp p S d11) (k14:Kp p S d14) (hb:∀X,Thing (S++X) d11->∃Y,FT T G 12 36 [.int w,d11] (S++X)=.ok (.str "places") (S++X++Y))
  (e3:env[3]?=some (some (.int w))) (e4:env[4]?=some (some d4)) (e11:env[11]?=some (some d11)) (e14':env[14]?=some (some d14)):∃q S',ev (FT T G 12) G e14 env S=.ok (.ref q) S'/\Xc S' q=some wnp:=by
 obtain⟨X1,a1⟩:=Xpk k4.now k11.now.sm w4;obtain⟨X2,a2⟩:=Xpk (S:=S++X1) k4.now.app k14.now.app.sm w4;have t11':Thing (S++(X1++X2)) d11:=k11.now.app;obtain⟨X3,a3⟩:=hb (X1++X2) t11';obtain⟨X4,a4⟩:=Xhj (S:=S++(X1++X2)++X3) h1 h5 (X6u _) rfl;rw[<- Vo]at a3 a4;exact⟨_,_,X6s e3 e4 e11 e14' a1 a2 a3 a4,Xg⟩
theorem turn(ns:List Int)(i:Nat)(a2 a3 a4 a5 a6 a7 a8 a9 a10 a11 a12 a13 a14 a15 a16:Option D)(S:Sto) :
  ∃e S',pb (FT T G 12) G Xhn [some (.fro (ns.map D.int)),some (.int i),a2,a3,a4,a5,a6,a7,a8,a9,a10,a11,a12,a13,a14,a15,a16] S=.ok (.nx e) S'/\∃b1 b2 b3 b4 b5 b6 b7 b8 b9 b10 b11 b12 b13 b14 b15 b16,e=[some (.fro (ns.map D.int)),b1,b2,b3,b4,b5,b6,b7,b8,b9,b10,b11,b12,b13,b14,b15,b16]:=by
 obtain⟨c,hc⟩:=Xwa (F:=FT T G 11) (G:=G) ns i S;obtain⟨v,hv⟩:=X0v (F:=FT T G 11) (G:=G) c S;have g24:FT T G 12 24 [.fro (ns.map D.int),.int i] S=.ok (.int c) S:=by rw[ftx (d:=Xkq) rfl];exact hc
 have g25:FT T G 12 25 [.int c] S=.ok (.ref S.length) (S++[.lst [.int v]]):=by rw[ftx (d:=Xik) rfl];exact hv
 generalize hsc:some (D.fro (ns.map D.int))=sc;have hT:=Xyj 11;have h25:ev (FT T G 12) G (.call 25 (.cons (.call 24 (.cons (.var 0) (.cons (.var 1) .nil))) .nil)) [sc,some (.int i),a2,a3,a4,a5,a6,a7,a8,a9,a10,a11,a12,a13,a14,a15,a16] S=.ok (.ref S.length) (S++[.lst [.int v]]):=by
  subst hsc;rw[ev,evs,ev,evs,ev];simp only[gZ0,Rk0];rw[evs,ev];simp only[gZ0,gS0,Rk0,evs];rw[g24];simp only[Rk0];rw[g25]
 have s1:=Yn (i:=2) h25;have p1:Xc (S++[O.lst [.int v]]) S.length=some [.int v]:=Xg;generalize S++[O.lst [.int v]]=S1 at s1 p1;generalize S.length=p at s1 p1;obtain⟨w,h1,h5,v2⟩:=X8o (F:=FT T G 12) (G:=G) (env:=[sc,some (.int i),some (.ref p),a3,a4,a5,a6,a7,a8,a9,a10,a11,a12,a13,a14,a15,a16]) hT rfl p1;have s2:=Yn (i:=3) v2;have p2:Xc (S1.set p (.lst [.int (v/5)])) p=some [.int (v/5)]:=Xcc (Xaw p1);generalize S1.set p (.lst [.int (v/5)])=S2 at s2 p2;generalize v/5=u2 at p2;obtain⟨d4,m4,v3⟩:=Xwh (F:=FT T G 12) (G:=G) (f:=26) (c:=10) (env:=[sc,some (.int i),some (.ref p),some (.int w),a4,a5,a6,a7,a8,a9,a10,a11,a12,a13,a14,a15,a16]) (q:=2) hT (Xub _ S2) rfl (by omega) (by show 10<=big;decide) (by decide+kernel) rfl (Xn p2)
 have s3:=Yn (i:=4) v3;have p3:Xc ((S2++[O.lst [.int 2]]++[O.lst (Xb6 S2.length)]).set p (.lst [.int (u2/10)])) p=some [.int (u2/10)]:=Xeu (Xn p2);have k3:Kp p ((S2++[O.lst [.int 2]]++[O.lst (Xb6 S2.length)]).set p (.lst [.int (u2/10)])) d4:=(Xxl (Xaw p2) d4 m4).mono (Ext.app.trans Ext.set);have w4:=Xxk d4 m4;generalize (S2++[O.lst [.int 2]]++[O.lst (Xb6 S2.length)]).set p (.lst [.int (u2/10)])=S3 at s3 p3 k3;generalize u2/10=u3 at p3;obtain⟨m,S4,u4,hm,v4,x4,p4⟩:=X8p (F:=FT T G 12) (G:=G) (env:=[sc,some (.int i),some (.ref p),some (.int w),some d4,a5,a6,a7,a8,a9,a10,a11,a12,a13,a14,a15,a16]) hT rfl p3;have s4:=Yn (i:=5) v4;obtain⟨a,S5,u5,ha,v5,x5,p5⟩:=X8q (F:=FT T G 12) (G:=G) (env:=[sc,some (.int i),some (.ref p),some (.int w),some d4,some (.int m),a6,a7,a8,a9,a10,a11,a12,a13,a14,a15,a16]) hT rfl rfl hm p4;have s5:=Yn (i:=6) v5;obtain⟨b,S6,u6,hb,v6,x6,p6⟩:=X8r (F:=FT T G 12) (G:=G) (env:=[sc,some (.int i),some (.ref p),some (.int w),some d4,some (.int m),some (.int a),a7,a8,a9,a10,a11,a12,a13,a14,a15,a16]) hT rfl p5;have s6:=Yn (i:=7) v6;have k6:=k3.mono ((x4.trans x5).trans x6);obtain⟨X7,g29⟩:=X95 11 h1 h5 S6;have s7:=X6p (F:=FT T G 12) (G:=G) (S:=S6) (i:=(w:Int)) (j:=(w:Int)+1) (xs:=(ptN w).map D.int) (n:=Xb (stN w)) (S1:=S6++X7) (x0:=sc) (x1:=some (.int i)) (x2:=some (.ref p)) (x4:=some d4) (x5:=some (.int m)) (x6:=some (.int a)) (x7:=some (.int b)) (x8:=a8) (x9:=a9) (x10:=a10) (x11:=a11) (x12:=a12) (x13:=a13) (x14:=a14) (x15:=a15) (x16:=a16) (Y8 ..) (Xpj (by omega) (by omega) (by omega)) g29
 have s8:=Yn (i:=8) (F:=FT T G 12) (G:=G) (e:=Xhm) (env:=[sc,some (.int i),some (.ref p),some (.int w),some d4,some (.int m),some (.int a),some (.int b),a8,a9,a10,a11,a12,some (Xb (stN w)),some (.tup []),a15,a16]) (S:=S6++X7) (d:=.int (stN w).length) (S':=S6++X7) (by
  unfold Xhm;simp only[ev,evs,gZ0,gS0,Rk0,Xbl])
 obtain⟨is,S9,u9,far,y9,y15,y16,s9,hil,hg,hfar,x9,p9⟩:=X8l (S:=S6++X7) (x0:=sc) (x1:=some (.int i)) (x3:=some (.int w)) (x4:=some d4) (x7:=some (.int b)) (x10:=a10) (x11:=a11) (x12:=a12) (w:=w) (m:=m) (a:=a) (p:=p) (far:=((stN w).length:Int)) (x9:=a9) (x15:=a15) (x16:=a16) h1 h5 hm (Xn p6);have k9:=(k6.mono Ext.app).mono x9;subst hil;have hpl:=X8m h1 h5 hm hg;have hgi:∀t<is.length,is.getD t 0<(Xp w is t).length:=hg;have tp:∀S,Thing S (Xa (is.map V4)):=fun S=>(Xhl (p:=p) hpl hm).now
 obtain⟨n1,n2,n3⟩:=Xb5 h1 h5 hm hg (Vl _);obtain⟨Y1,b1⟩:=Xyl h1 h5 (tp S9) hm hgi;obtain⟨Y2,b2⟩:=Xyk 8 n2 n3 (S9++Y1);obtain⟨Y3,b3⟩:=Xyl h1 h5 (tp (S9++Y1++Y2)) hm hgi;obtain⟨Y4,b4⟩:=Xyk 8 n2 n3 (S9++Y1++Y2++Y3);have v10:=X6q (F:=FT T G 12) (G:=G) (env:=[sc,some (.int i),some (.ref p),some (.int w),some d4,some (.int is.length),some (.int a),some (.int b),some (.int far),y9,a10,a11,a12,some (Xb (Xp w is is.length)),some (Xa (is.map V4)),y15,y16]) rfl rfl rfl b1 b2 b3 b4;have s10:=Y9 (a:=Xm3) v10;have p10:Xc (S9++Y1++Y2++Y3++Y4) p=some [.int u9]:=Xn (Xn (Xn (Xn p9)));have k10:=k9.mono (S':=S9++Y1++Y2++Y3++Y4) (((Ext.app.trans Ext.app).trans Ext.app).trans Ext.app);generalize S9++Y1++Y2++Y3++Y4=S10 at s10 p10 k10;have s11:=X6r (F:=FT T G 12) (G:=G) (S:=S10) (a:=a) (m:=is.length) (far:=far) (n:=Xp w is is.length) (x0:=sc) (x1:=some (.int i)) (x2:=some (.ref p)) (x3:=some (.int w)) (x4:=some d4) (x7:=some (.int b)) (x9:=y9) (x10:=a10) (x11:=a11) (x12:=a12) (x14:=some (Xa (is.map V4))) (x15:=y15) (x16:=y16);have hfar':(if a=is.length then ((Xp w is is.length).length:Int) else far)=((Xp w is a).length:Int):=by
  by_cases q:a=is.length
  ·subst q;rw[iP0 rfl]
  ·rw[iN0 q];exact hfar (by omega)
 rw[hfar']at s11;have ba:=(Xb5 h1 h5 hm hg ha).2.1;obtain⟨d10,m10,v12⟩:=Xwh (F:=FT T G 12) (G:=G) (f:=26) (c:=8) (env:=[sc,some (.int i),some (.ref p),some (.int w),some d4,some (.int is.length),some (.int a),some (.int b),some (.int ((Xp w is a).length:Int)),y9,a10,a11,a12,some (Xb (Xp w is is.length)),some (Xa (is.map V4)),y15,y16]) (q:=2) hT (Xmh rfl S10) rfl (by omega) (by show 8<=big;decide) (by decide+kernel) rfl (Xn p10)
 have s12:=Yn (i:=10) v12;have p12:Xc ((S10++[O.lst [.int 0]]++[O.lst (Xbk ((Xp w is a).length:Int) S10.length)]).set p (.lst [.int (u9/8)])) p=some [.int (u9/8)]:=Xeu (Xn p10);have l12:El p ((S10++[O.lst [.int 0]]++[O.lst (Xbk ((Xp w is a).length:Int) S10.length)]).set p (.lst [.int (u9/8)])) d10:=(X10 (Xaw p10) (Xkd ba) d10 m10).mono (Ext.app.trans Ext.set);have k12:=k10.mono (S':=(S10++[O.lst [.int 0]]++[O.lst (Xbk ((Xp w is a).length:Int) S10.length)]).set p (.lst [.int (u9/8)])) ((Ext.app.trans Ext.app).trans Ext.set);have ob:=X11 ba rfl d10 m10;generalize (S10++[O.lst [.int 0]]++[O.lst (Xbk ((Xp w is a).length:Int) S10.length)]).set p (.lst [.int (u9/8)])=S12 at s12 p12 l12 k12;obtain⟨d11,X13,v13,hd11⟩:=X14 (F:=FT T G 12) (G:=G) (env:=[sc,some (.int i),some (.ref p),some (.int w),some d4,some (.int is.length),some (.int a),some (.int b),some (.int ((Xp w is a).length:Int)),y9,some d10,a11,a12,some (Xb (Xp w is is.length)),some (Xa (is.map V4)),y15,y16]) (l:=is.map V4) (by rw[Vj];omega) rfl rfl hb rfl rfl S12
 have s13:=Yn (i:=11) v13;have hn13:Xc (S12++[.lst ((is.map V4).map D.int)]++X13) S12.length=some ((is.map V4).map D.int):=Xn Xg;have hnp:S12.length≠p:=by have:=Xaw p12;omega
 have l13:=l12.mono (S':=S12++[.lst ((is.map V4).map D.int)]++X13) (Ext.app.trans Ext.app);have k13:=k12.mono (S':=S12++[.lst ((is.map V4).map D.int)]++X13) (Ext.app.trans Ext.app);generalize S12++[O.lst ((is.map V4).map D.int)]++X13=S13 at s13 hn13 l13 k13;generalize S12.length=q13 at hn13 hnp hd11;have k11:Kp p S13 d11:=by
  rcases hd11 with rfl|rfl|rfl
  ·exact X96 (Xji hpl) (by rw[Vj];exact hm) l13 (by rw[Vj];exact ha)
  ·exact Xte (a:=0) (b:=1921) hnp hn13 (fun x hx=>by
    obtain⟨y,hy,rfl⟩:=Uh.mp hx;exact Xbe (Xji hpl y hy)) (by omega) (by rw[Vj,Vj];omega)
  ·exact Xtf (fun x hx=>by rw[List.eq_of_mem_replicate hx];decide) (by decide)
 have hbad:∀X,Thing (S13++X) d11->∃Y,FT T G 12 36 [.int w,d11] (S13++X)=.ok (.str "places") (S13++X++Y):=fun X t=>by
  rcases hd11 with rfl|rfl|rfl
  ·exact X8n h1 h5 hg hm ha t ob
  ·exact Xhj h1 h5 t rfl
  ·exact X6m h1 h5 t
 obtain⟨q14,S14,v14,l14⟩:=X8v (env:=[sc,some (.int i),some (.ref p),some (.int w),some d4,some (.int is.length),some (.int a),some (.int b),some (.int ((Xp w is a).length:Int)),y9,some d10,some d11,a12,some (Xb (Xp w is is.length)),some (Xa (is.map V4)),y15,y16]) h1 h5 k13 w4 k11 (Xhl hpl hm) hbad rfl rfl rfl rfl;have s14:=Yn (i:=12) v14;obtain⟨S15,v15⟩:=X6o (F:=FT T G 12) (G:=G) (env:=[sc,some (.int i),some (.ref p),some (.int w),some d4,some (.int is.length),some (.int a),some (.int b),some (.int ((Xp w is a).length:Int)),y9,some d10,some d11,some (.ref q14),some (Xb (Xp w is is.length)),some (Xa (is.map V4)),y15,y16]) rfl l14;have s15:=Y9 (a:=Xm3) v15;have z:pb (FT T G 12) G Xhn [sc,some (.int i),a2,a3,a4,a5,a6,a7,a8,a9,a10,a11,a12,a13,a14,a15,a16] S=.ok (.nx [sc,some (.int i),some (.ref p),some (.int w),some d4,some (.int is.length),some (.int a),some (.int b),some (.int ((Xp w is a).length:Int)),y9,some d10,some d11,some (.ref q14),some (Xb (Xp w is is.length)),some (Xa (is.map V4)),y15,y16]) S15:=by
  unfold Xhn;exact(Xd s1).trans ((Xd s2).trans ((Xd s3).trans ((Xd s4).trans ((Xd s5).trans ((Xd s6).trans ((Xd s7).trans ((Xd s8).trans ((Xd s9).trans ((Xd s10).trans ((Xd s11).trans ((Xd s12).trans ((Xd s13).trans ((Xd s14).trans ((Xd s15).trans rfl))))))))))))))
 exact⟨_,S15,z,_,_,_,_,_,_,_,_,_,_,_,_,_,_,_,_,rfl⟩
theorem law_true(ns:List Int)(h:ns.length<=63):∃S',FT T G 13 37 [.fro (ns.map D.int)] []=.ok (.bl true) S':=by
 rw[ftx (d:=Xkw) rfl];obtain⟨m,hm,m0,m1⟩:=Z.turns (F:=FT T G 12) (G:=G) (env:=[some (.fro (ns.map D.int)),none,none,none,none,none,none,none,none,none,none,none,none,none,none,none,none]) (S:=[]) (ns:=ns) 8 (by decide) (by decide) rfl
 obtain⟨xs,hx,hl⟩:=Xes (m:=m) m0 (Xqn (by omega))
 obtain⟨e',S',f2,b1,b2,b3,b4,b5,b6,b7,b8,b9,b10,b11,b12,b13,b14,b15,b16,rfl⟩:=Xii (F:=FT T G 12) (G:=G) (t:=.var 1) (b:=Xhn) (xs:=xs)
  (fun i e S'=>∃b1 b2 b3 b4 b5 b6 b7 b8 b9 b10 b11 b12 b13 b14 b15 b16,e=[some (.fro (ns.map D.int)),b1,b2,b3,b4,b5,b6,b7,b8,b9,b10,b11,b12,b13,b14,b15,b16]) hm hx ⟨none,none,none,none,none,none,none,none,none,none,none,none,none,none,none,none,rfl⟩ (fun i d e S' hd hP=>by
   obtain⟨b1,b2,b3,b4,b5,b6,b7,b8,b9,b10,b11,b12,b13,b14,b15,b16,rfl⟩:=hP;obtain⟨rfl,hi⟩:=Xge hx hd;obtain⟨e2,S2,t1,t2⟩:=turn ns i b2 b3 b4 b5 b6 b7 b8 b9 b10 b11 b12 b13 b14 b15 b16 S';exact⟨_,e2,S2,rfl,t1,t2⟩)
 obtain⟨S4,f4⟩:=X6t (env:=[some (.fro (ns.map D.int)),b1,b2,b3,b4,b5,b6,b7,b8,b9,b10,b11,b12,b13,b14,b15,b16]) S';refine⟨S4,Yk (env:=[some (.fro (ns.map D.int)),none,none,none,none,none,none,none,none,none,none,none,none,none,none,none,none]) rfl rfl ?_⟩;show pb _ _ Xre _ _=_;rw[Xxp];exact(Xd f2).trans f4
end K64
end
section
namespace K64
open PySem PySem.Spec PyProof.Rows L2 Z
set_option maxHeartbeats 0 in
theorem all_mk {P:V1} {w:V9} {K:Vg} {h:Heap} {mg:Str->Option Vb} {fa:Addr} {t0 t1 t2 t3 t4:Tok} (X:K.In h) (Gm:h.Ns V5 mg) (hfa:mg "law" = some (.ref fa))
  (er:Xvj K=true) (bl:X44 K=true) (g0:Vaj K V5 "GREATEST_POINT" = some (some (.int 15 t0))) (g1:Vaj K V5 "GREATEST_SIZE" = some (some (.int 6 t1))) (g2:Vaj K V5 "MOST_SIDES" = some (some (.int 60 t2))) (g3:Vaj K V5 "GREATEST_STACKED_WIDTH" = some (some (.int 5 t3))) (g4:Vaj K V5 "MOST_PLACES" = some (some (.int 10 t4)))
  (f0:FunAt K "is_whole" (top 19)) (f1:FunAt K "is_whole_within" (top 20)) (f2:FunAt K "is_rising" (top 21)) (f3:FunAt K "is_whole_tuple" (top 22)) (f4:FunAt K "is_net" (top 27)) (f5:FunAt K "check_net" (top 28)) (f6:FunAt K "is_any_face" (top 29)) (f7:FunAt K "is_nested" (top 30)) (f8:FunAt K "lies_in_another" (top 31)) (f9:FunAt K "lies_in" (top 32)) (f10:FunAt K "has_face" (top 33)) (f11:FunAt K "ring_of" (top 34)) (f12:FunAt K "points_of" (top 35)) (f13:FunAt K "width_of" (top 36)) (f14:FunAt K "left_of" (top 37)) (f15:FunAt K "border" (top 39)) (f16:FunAt K "has_one_size" (top 40)) (f17:FunAt K "single_faces" (top 41)) (f18:FunAt K "exchanged" (top 43)) (f19:FunAt K "has_swap" (top 44)) (f20:FunAt K "into_of" (top 45)) (f21:FunAt K "free_point" (top 46)) (f22:FunAt K "stacked" (top 50)) (f23:FunAt K "with_point_on" (top 51)) (f24:FunAt K "_law_cell_at" (top 53)) (f25:FunAt K "_law_pot" (top 54)) (f26:FunAt K "_law_take" (top 55)) (f27:FunAt K "_law_whole" (top 56)) (f28:FunAt K "_law_same" (top 57)) (f29:FunAt K "_law_simplex" (top 58)) (f30:FunAt K "_law_lies" (top 59)) (f31:FunAt K "_law_less" (top 60)) (f32:FunAt K "_law_points" (top 61)) (f33:FunAt K "_law_swapped" (top 62)) (f34:FunAt K "_law_kind_of" (top 63)) (f35:FunAt K "_law_told_by" (top 64)) (f36:FunAt K "_law_told" (top 65)) (f37:FunAt K "law" (top 66)) :
  ∃fd:Vcx,(∀(s:Vc) (u:Vb),BindsTo s fd ⟨[u],[]⟩ [("_law_script",u)])/\∀base:Heap,K.In base->base.Ns V5 mg->FnOk P w K mg base (CXd P w) 13 fa fd ["_law_script"] (spD K 1 (FT T G 13 37)):=by
 have er':=Xz7 er;have bl':=X0s X Gm bl;have hg:∀(k:Nat) nm,gns[k]?=some nm->∃u d,mg nm=some u/\G[k]?=some d/\∀ ρ H,∃v,RelV v u/\RD K ρ H d v:=fun k nm e=>by
  match k,e with
  |0,e=>cases e;exact Xc9 X Gm g0
  |1,e=>cases e;exact Xc9 X Gm g1
  |2,e=>cases e;exact Xc9 X Gm g2
  |3,e=>cases e;exact Xc9 X Gm g3
  |4,e=>cases e;exact Xc9 X Gm g4
  |k+5,e=>cases e
 have hD:AllD K mg fns gns fns T:=AllD.c (dk X Gm f0 Xrf Y7) <| AllD.c (dk X Gm f1 Xfk X9o) <| AllD.c (dk X Gm f2 Xnu Y7) <| AllD.c (dk X Gm f3 Xgo Y7) <| AllD.c (dk X Gm f4 Xxf Y7) <| AllD.c (dk X Gm f5 Xnv Y7) <| AllD.c (dk X Gm f6 Xkj Y7) <| AllD.c (dk X Gm f7 Xnw Y7) <| AllD.c (dk X Gm f8 Xfl Xaj) <| AllD.c (dk X Gm f9 Xt1 Xaj) <| AllD.c (dk X Gm f10 Xrg Xaj) <| AllD.c (dk X Gm f11 Xt2 Xaj) <| AllD.c (dk X Gm f12 Xnx Y7) <| AllD.c (dk X Gm f13 Xrh Y7) <| AllD.c (dk X Gm f14 Xt3 Xaj) <| AllD.c (dk X Gm f15 Xxg Y7) <| AllD.c (dk X Gm f16 Xjb Y7) <| AllD.c (dk X Gm f17 Xjc Y7) <| AllD.c (dk X Gm f18 Xny Xaj) <| AllD.c (dk X Gm f19 Xri Xaj) <| AllD.c (dk X Gm f20 Xt4 Xaj) <| AllD.c (dk X Gm f21 Xmx Y7) <| AllD.c (dk X Gm f22 Xt5 Xaj) <| AllD.c (dk X Gm f23 Xhi Xaj) <| AllD.c (dk X Gm f24 Xjd Xaj) <| AllD.c (dk X Gm f25 Xrj Y7) <| AllD.c (dk X Gm f26 Xnz Xaj) <| AllD.c (dk X Gm f27 Xmy Y7) <| AllD.c (dk X Gm f28 Xn0 Xaj) <| AllD.c (dk X Gm f29 Xje Y7) <| AllD.c (dk X Gm f30 Xn1 Xaj) <| AllD.c (dk X Gm f31 Xn2 Xaj) <| AllD.c (dk X Gm f32 Xkk Y7) <| AllD.c (dk X Gm f33 Xjf Xaj) <| AllD.c (dk X Gm f34 Xjg Y7) <| AllD.c (dk X Gm f35 Xjh Xaj) <| AllD.c (dk X Gm f36 Xn3 Xaj) <| AllD.c (dk X Gm f37 Xrk Y7) <| True.intro;exact law_fn (k:=12) (d:=Xkw) (st:=top 66) (N:=Xyg) X Gm hfa er' bl' hg hD.get rfl f37 (ms Xrk) (mm Xrk) rfl rfl Y7
noncomputable def kept:List Stmt:=[top 1,top 2,top 3,top 4,top 5,top 6,top 7,top 8,top 9,top 10,top 11,top 12,top 13,top 14,top 15,top 16,top 17,top 19,top 20,top 21,top 22,top 24,top 25,top 26,top 27,top 28,top 29,top 30,top 31,top 32,top 33,top 34,top 35,top 36,top 37,top 39,top 40,top 41,top 43,top 44,top 45,top 46,top 48,top 49,top 50,top 51,top 53,top 54,top 55,top 56,top 57,top 58,top 59,top 60,top 61,top 62,top 63,top 64,top 65,top 66]
noncomputable def Q:V1:={ PySem.Challenge.pw_facecounts_k64_stacked_nets with main:={ PySem.Challenge.pw_facecounts_k64_stacked_nets.main with body:=kept} }
end K64
open PySem PySem.W PyProof.Rows
noncomputable def PySem.W.Fast.tw7441032426390066341:PySem.Program:=PySem.Challenge.pw_facecounts_k64_stacked_nets
theorem PySem.W.Fast.te7441032426390066341:PySem.Challenge.pw_facecounts_k64_stacked_nets=PySem.W.Fast.tw7441032426390066341:=rfl
lay_quick Z.topT PySem.W.topStub
set_option maxRecDepth 100000 in
set_option maxHeartbeats 0 in
theorem K64.st_ok:Z.RunT PySem.Challenge.pw_facecounts_k64_stacked_nets (fun w s=>staticsOk (Vd1 PySem.Challenge.pw_facecounts_k64_stacked_nets.main.body) (boot_heap w.params) s.abs.heap&&namesBound PySem.Challenge.pw_facecounts_k64_stacked_nets s.abs.heap&&gensDone s.abs&&laidKept (boot_heap w.params) s.abs.heap) fun _=>true:=by
 intro w os;rw[PySem.W.Fast.te15842407815417585275,PySem.W.Fast.te2530740449226627131,Vff]
 kernel_rfl
set_option maxRecDepth 100000 in
set_option maxHeartbeats 0 in
theorem K64.seen_ok:Z.RunT PySem.Challenge.pw_facecounts_k64_stacked_nets (fun _ s=>openSeen K64.Q [] (Vd1 PySem.Challenge.pw_facecounts_k64_stacked_nets.main.body) (fun s=>PySem.W.xlAt K64.Q [] s&&PySem.W.recOk [] s) true s.abs) fun _=>openGood K64.Q []:=by
 intro w os;unfold K64.Q K64.kept K64.top;rw[PySem.W.Fast.te4187177175401517315,PySem.W.Fast.te15842407815417585275,PySem.W.Fast.te2530740449226627131,Vff]
 kernel_rfl
local macro_rules | `(tactic| o_head $H)=>`(tactic|
 refine PySem.W.holds_open (q:=K64.Q) (loose:=[]) (Xt:=fun s=>PySem.W.xlAt K64.Q [] s&&PySem.W.recOk [] s)
  (XP:=PySem.W.XL K64.Q []) (Yf:=PySem.W.Hook.obs $H) (Ya:=PySem.W.Hook.val $H)
  (YP:=PySem.W.Hook.says $H) (N:=40000) ?hl (PySem.W.Hook.of $H) (PySem.W.Hook.keeps $H)
  (fun s e=>PySem.W.xl_of s (Bool.and_eq_true_iff.mp e).1) PySem.W.XL.keeps
  (by rfl) (by rfl) (by rfl)
  (fun s e=>PySem.W.recFacts_of (Bool.and_eq_true_iff.mp e).2)
  (by rfl) (by first|assumption|decide+kernel) (by decide+kernel)
  ⟨rfl,rfl,rfl,rfl,rfl,by decide+kernel⟩ ?hw ?hc)
set_option maxRecDepth 100000 in
set_option maxHeartbeats 0 in
theorem PySem.Challenge.cw_facecounts_k64_stacked_nets_holds : PySem.Challenge.rw_facecounts_k64_stacked_nets.Holds := by
 w_on;o_law;x_head
 (case hl =>
  refine Z.left_tree3 (p:=PySem.Challenge.pw_facecounts_k64_stacked_nets) (by kernel_rfl) (fun s=>by kernel_rfl) K64.st_ok K64.seen_ok ?_
  intro w os;dsimp only[PySem.W.kHook];rw[PySem.W.Fast.te15842407815417585275,PySem.W.Fast.te2530740449226627131,PySem.W.Fast.te14364793385576792824]
  kernel_rfl)
 (case hw=>w_witness2)
 k_fill
 refine Z.walk_z (l:=PySem.Challenge.rw_facecounts_k64_stacked_nets) (T:=K64.T) (G:=K64.G) (k:=13) (f:=37) (x := "_law_script") rfl rfl ⟨rfl,rfl,by decide,by decide⟩ (fun w h Y=>PySem.W.kIn_of Y) ?F K64.law_true
 case F =>
  as_aux_lemma =>
   intro w mg fa h KX G hmg;refine' K64.all_mk KX G hmg ?er ?bl ?g0 ?g1 ?g2 ?g3 ?g4 ?f0 ?f1 ?f2 ?f3 ?f4 ?f5 ?f6 ?f7 ?f8 ?f9 ?f10 ?f11 ?f12 ?f13 ?f14 ?f15 ?f16 ?f17 ?f18 ?f19 ?f20 ?f21 ?f22 ?f23 ?f24 ?f25 ?f26 ?f27 ?f28 ?f29 ?f30 ?f31 ?f32 ?f33 ?f34 ?f35 ?f36 ?f37
   (case g0=>k_is)
   (case g1=>k_is)
   (case g2=>k_is)
   (case g3=>k_is)
   (case g4=>k_is)
   (case er=>kernel_rfl)
   (case bl=>kernel_rfl)
   all_goals (refine' Z.funAt_mk ?a ?l ?c ?k;(case a=>k_is);(case l=>k_is);(case c=>k_is);(case k=>k_is))
end
