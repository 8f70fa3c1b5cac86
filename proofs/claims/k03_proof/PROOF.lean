import PyProof.Rows.All
import Wide.All
import OpenK.AllK
import Wide.FinOn
import Lean
import PyProof.EqAt
import PyProof.EqKinds
import PyProof.TupleCall
import PySem.Challenge.RW_facecounts_k03_nets_joined
set_option Elab.async false
set_option linter.all false
set_option maxRecDepth 100000
set_option exponentiation.threshold 3000
set_option genSizeOf false
set_option bootstrap.genMatcherCode false
set_option genSizeOfSpec false
universe u
open List renaming length→lf
open Option renaming some→yz,none→yy
open Bool renaming true→yx,false→yw
open PySem renaming wpAny_bind→Va,Value→Vb,Shared→Vc,wpAny_pure→Vd,wpAny→Vg,model→Vl,wpAny_mono→Vo,Program→V4,sizeLine→V8,World→Ua,mainGlobals→Uf,SetTable→Uj,starEach→Ul,wpAny_holding→Uo,Around→Uu,wpAny_call_entry→U0,Scope→U7,wpAny_newObj_type→U8,rawInt→Vab,wpAny_field→Vam,wpAny_Call_Name_kw→Var,wpAny_setState_of→Vaw,codeAny_builtin→Va2,sizeLine_eq→Va4,wpAny_callSpecial?_slot→Va6,intKind→Va8,wpAny_setField_rec→Vba,Comprehension→Vbm,compareOp→Vbn,assignEach→Vbt,foldedSetIterable→Vbv,PyData→Vby,wpAny_truthy_bool→Vb5,cellsFrom→Vb6,Env→Vb9,Builtin→Vcb,wpAny_typeOf→Vcc,wpAny_seqItems→Vcg,cLine→Vcl,mem_of_lookup→Vco,sysModules→Vcu,codeAny→Vcy,backTo→Vc0,FuncData→Vdj,wpAny_askSetting→Vdk,wpAny_is_plain→Vdm,swapsWithSole→Vdw,swappedStores→Vdx,wpAny_rule→Vd0,holding→Vd5,bootBuiltins→Vd6,plainId_quiet→Ved,wpAny_standAt→Vef,pyNext→Vei,letOwnedTupleGo→Vej,importedModules→Ven,NameKind→Veo,binaryOp→Vep,IsPart→Ves,codeAny_mono→Vet,wpAny_attempt→Ve5,wpAny_newList→Ve6,unsupported→Ve7,swapsWith→Vfk,wpAny_pyIter_tuple→Vfl,wpAny_load→Vfp,wpAny_runValue→Vft,wpAny_storeSet_of→Vf2,ofAClassStatement→Vf4,wpAny_pyIter_list→Vf5,wpAny_of_eq→Vga,wpAny_isInstance→Vgh,wpAny_forIn_list→Vgj,checkBuiltinCall→Vgk,call_meets→Vgn,wpAny_updateSeq_pair→Vgr,codeAny_of_tree→Vgt,codeAny_call_builtin→Vgu,wpAny_Assign_stores→Vg0,firstArgMember→Vg3,wpAny_assign_Name→Vhj,wpAny_sequenceKey→Vhk,wpAny_pyIter_slot→Vhn,wpAny_comprehension_free→Vhv
open List renaming length_map→Ve,append_assoc→Vh,getElem?_eq_some_iff→Vi,getElem?_eq_getElem→Vk,mem_cons→Vn,size_toArray→Vr,range→Vs,replicate→Vu,getElem?_map→Vx,length_append→Vy,mem_cons_self→Vz,mem_map→V0,getElem?_append_left→V1,append_nil→V3,mem_cons_of_mem→V5,mem_of_getElem?→V6,mem_singleton→V9,getElem?_eq_none_iff→Ui,all_eq_true→Uk,length_take→Um,mem_append→Uq,map→Uw,map_cons→Ux,pairwise_cons→Uy,filterMap_cons→Uz,length_cons→U1,length_singleton→U2,getD_eq_getElem?_getD→U4,mem_range→U6,not_mem_nil→U9,getElem?_eq_none→Vad,map_append→Vae,length→Vah,map_map→Vai,mem_append_right→Vak,length_range→Vap,getElem?_append_right→Vaq,getElem?_set_ne→Vay,isEmpty_iff→Va5,all_cons→Vbe,length_drop→Vbf,getElem_mem→Vbh,lookup_cons→Vbi,nil_append→Vbp,flatten_cons→Vbw,take_append_drop→Vbx,mem_filter→Vbz,mem_iff_getElem→Vb3,nodup_cons→Vcm,toList_toArray→Vcp,filter_eq_self→Vcq,getElem?_set_self→Vcr,take_of_length_le→Vct,any_eq_true→Vcv,take_length→Vcx,mem_append_left→Vc2,forIn_cons→Vc6,length_nil→Vc8,all_map→Vc9,nodup_append→Vda,foldl_append→Vdc,getElem?_replicate→Vdf,getElem?_range→Vdg,map_congr_left→Vdi,getD→Vdq,mem_of_mem_take→Vd2,findIdx?_eq_some_iff_getElem→Vd3,map_nil→Vd8,cons_append→Vd9,pairwise_singleton→Vec,mem_filterMap→Vek,foldl_cons→Vel,take_succ→Vev,flatten_nil→Ve1,mem_of_mem_drop→Ve2,flatten_append→Ve9,pairwise_iff_getElem→Vfb,filter_map→Vfd,drop_eq_getElem_cons→Vfe,zip_cons_cons→Vfh,set→Vfo,drop_zero→Vfr,forIn_nil→Vfu,drop_eq_nil_of_le→Vgb,map_take→Vgf,filter_cons→Vgl,set_append_right→Vgm,eq_nil_of_length_eq_zero→Vgy,nodup_nil→Vg8
open PySem.Heap renaming get?_push_of_some→Vf,get?_push_size→Vt,lt_size→Vw,size_push→Val,SameBut→Va0,get?_update_self→Vcz,get?_update_other→Veq,size_update→Vgi
open PySem.W renaming Frag→Vj,nsIn→Va7,hideAll_none→Vb2,hideAll→Vck,fnOf→Vcs,kas_sort→Vdl,mg_of→Vdu,keepIn→Vd4,hideAll_get→Vea,findIn→Vex,of_hideAll→Vff,kitOne→Vfv,cellsFrom_some→Vf7,kas_ask→Vgx,codeIn→Vg1,methodObj→Vhi
open Nat renaming le_refl→Vm,lt_of_lt_of_le→Ub,ne_of_lt→Uc,zero_le→Ug,le_trans→Uv,lt_succ_of_lt→Vax,sub_self→Vbo,not_lt_zero→Vcn,le_of_lt→Vc1,ne_of_gt→Vc3,le_succ→Vdn,lt_of_le_of_lt→Vdp,lt_irrefl→Vds,lt_trans→Veu,lt_succ_self→Ve0,zero_add→Vfi,mod_lt→Vfq,lt_of_succ_lt→Vf6,add_right_comm→Vhb,lt_trichotomy→Vhl
open Bool renaming false_eq_true→Vp,false_ne_true→Us,not_true→Ut,not_eq_true'→Vav,not_false→Va1,true_and→Vbc,false_and→Vbl,and_self→Vcd,and_false→Vcf,or_eq_true→Vc5,eq_false_iff→Vdy,eq_iff_iff→Vfc
open Option renaming bind_some→Vq,map_some→V2,map_eq_some_iff→Vaa,getD_some→Vcw,isSome_iff_exists→Vc4,isSome→Veg,bind_eq_some_iff→Vfz,map_none→Vgp
open Option.some renaming injEq→Vv,inj→Ud
open Array renaming length_toList→V7,getElem?_eq_getElem→Ue,getElem?_toList→Uh,getElem?_eq_some_iff→U3,getD→Vaj,getD_eq_getD_getElem?→Vey,toList_filterMap→Vf9,perm_iff_toList_perm→Vhh,toList_push→Vhm
open PySem.Builtin.SmallTypes renaming nextOf→Up,ownedTupleIsFree→Vch,ownedTupleHandOut→Vfm
open PySem.Value renaming ref→Ur,none→Van,type→Vca,int→Veh,bool→Vez,isInt_shape→Vf0
open PySem.Obj renaming mapSeq→U5,putSet→Vdo
open PyProof.Rows renaming spliced_none→Vac,callWith_type1→Vaf,seqObj→Vag,callWith_builtin1→Va3,slot_tuple_getitem→Vbk,spliced_more→Vbs,IntsAre→Vb1,IsTup→Vdr,kindOf→Ver,subscriptTail→Ve4,listItems_at→Vfn,listUpdate_at→Vge,entry_list_sort→Vgw,entry_tuple_getitem→Vgz,slot_list_sort→Vg6,args_list_sort→Vg7,assignInOrder_cons→Vg9,args_tuple_getitem→Vha
open PySem.Str renaming ofString→Vao,length_append→Vho
open PySem.PyData renaming int→Vas,depth→Vat,eqv→Vaz,showable→Vbd,depthAll→Vbq,showableAll→Vb0,list→Vb4,canLayAll0→Vb8,eqvAll→Vce,canLay0→Vci,shownAll→Vc7,shown→Vew
open List.Perm renaming refl→Vau,swap→Vfs,cons→Vg5
open PySem.Around renaming under_plainId→Va9
open PySem.Calls renaming spliced_cons→Vbb,spliced_nil→Vdb,call_function_entry→Vd1,evalArgs_plain→Vgv,Name_function_global→Vhg
open PySem.Builtin.Tuple renaming tupleExact→Vbg,tupleItemsOf→Ve3
open PySem.Builtin.List renaming listExtendWith→Vbj,listTooLong→Vd7,listLengthHint→Vhc,listSameRef→Vhu
open Int renaming ofNat→Vbr,toNat_natCast→Vbu,toNat→Vfj
open List.Pairwise renaming nil→Vb7
open PyProof.Rows.F renaming plain_set_update_loop→Vcj,entry_set_update_loop→Veb
open Function renaming comp→Vdd,comp_def→Vhp
open PySem.Builtin.Range renaming rangeSize→Vde,small→Ve8
open PySem.Heap.SameBut renaming update→Vdh,refl→Vf1
open PySem.Builtin.Slice renaming sliceApplied→Vdt,slicePlaces→Vdz,sliceAdjust→Vfa,sliceFields→Vhq
open PySem.F renaming slot_tuple_iterator_next→Vdv,args_tuple_add_2→Vfg,entry_tuple_add→Vfx,slot_list_index→Vfy,plain_list_iadd→Vf3,slot_tuple_add→Vf8,slot_tuple_lt→Vgq,slot_zip_next→Vgs,args_tuple_iterator_next_1→Vg4,entry_tuple_iterator_next→Vhd,args_list_index_2→Vhs,entry_list_index→Vhw
open Prod.mk renaming injEq→Vee
open ForInStep renaming yield→Vem
open PySem.W.Fast renaming te14364793385576792824→Vfw
open PySem.SetTable renaming fits→Vgc,tooFull→Vgg,below→Vg2
open PySem.NameKind renaming free→Vgd
open False renaming elim→Vgo
open PySem.Code renaming quiet_builtin→Vhe
open PySem.Heap.IsSliceOf renaming new→Vhf
open PySem.Manifest renaming sig_set_iterator→Vhr
open PySem.Builtin.Frozenset renaming sizeOf→Vht
abbrev LV:=List PySem.Value
abbrev LS:=List PySem.Str
abbrev LX:=List PySem.Expr
abbrev LM:=List PySem.Stmt
abbrev LF:=List (PySem.Str×Nat×Bool)
abbrev LN:=List Nat
abbrev AV:=Array PySem.Value
abbrev OV:=Option PySem.Value
abbrev LL:=List (List Int)
abbrev LI:=List Int
abbrev LA:=List (PySem.Addr×PySem.Obj)
abbrev LR:=List PySem.Addr
abbrev VP:=PySem.Value->PySem.Shared->Prop
theorem oD0{p:Prop}[Decidable p](h:decide p=yx):p:=of_decide_eq_true h
theorem aB0{a b:Prop}(h:a)(k:¬a):b:=(k h).elim
theorem iP0{c:Prop}{i:Decidable c}(h:c){α:Sort u}{t e:α}:(ite c t e)=t:=if_pos h
theorem iN0{c:Prop}{i:Decidable c}(h:¬c){α:Sort u}{t e:α}:(ite c t e)=e:=if_neg h
theorem gZ0{α:Type u}{a:α}{l:List α}:(a::l)[0]?=yz a:=rfl
theorem gS0{α:Type u}{a:α}{i:Nat}{l:List α}:(a::l)[i+1]?=l[i]?:=rfl
theorem bA0(a b:Bool):((a&&b)=yx)=(a=yx∧b=yx):=Bool.and_eq_true a b
section
namespace L2
open PySem PySem.Spec PyProof.Rows
noncomputable abbrev Key:=Sum Int Str
noncomputable def Xyn:Key->Vb->Bool
 |.inl k,v=>Value.isInt k v|.inr x,v=>Value.isStrOf x v
noncomputable def Yae(w:Ua):Key->Int
 |.inl k=>hashInt k|.inr x=>hashStr w x
theorem Yv:∀ {k:Key} {v:Vb},Xyn k v=yx->(∃i t,k=Sum.inl i/\v=Veh i t)\/(∃x t,k=Sum.inr x/\v=Value.str x t)
 |.inl i,v,h=>by obtain⟨t,e⟩:=Vf0 (k:=i) (v:=v) h;exact .inl ⟨i,t,rfl,e⟩|.inr x,v,h=>by obtain⟨t,e⟩:=Value.isStrOf_shape (x:=x) (v:=v) h;exact .inr ⟨x,t,rfl,e⟩
theorem X25(a b:Int):decide ((Sum.inl a:Key)=Sum.inl b)=(a==b):=by
 by_cases e:a=b;·subst e;simp
 ·have h:¬ (Sum.inl a:Key)=Sum.inl b:=λq=>e (Sum.inl.inj q);rw[decide_eq_false h];exact(beq_eq_false_iff_ne.mpr e).symm
theorem X26(a b:Str):decide ((Sum.inr a:Key)=Sum.inr b)=decide (a=b):=by
 by_cases e:a=b;·subst e;simp
 ·have h:¬ (Sum.inr a:Key)=Sum.inr b:=λq=>e (Sum.inr.inj q);rw[decide_eq_false h,decide_eq_false e]
theorem X27(a:Int)(b:Str):decide ((Sum.inl a:Key)=Sum.inr b)=false:=decide_eq_false (λq=>nomatch q)
theorem X28(a:Str)(b:Int):decide ((Sum.inr a:Key)=Sum.inl b)=false:=decide_eq_false (λq=>nomatch q)
noncomputable def Xic(prog:V4)(w:Ua):PySem.KeyKind prog w Key where
 is:=Xyn
 hash:=Yae w
 inj:=λv a b U L=>by
  rcases Yv U with⟨i,t,rfl,rfl⟩|⟨x,t,rfl,rfl⟩
  ·rcases Yv L with⟨j,u,rfl,e⟩|⟨y,u,rfl,e⟩;·injection e with B _;rw[B]
   ·exact nomatch e
  rcases Yv L with⟨j,u,rfl,e⟩|⟨y,u,rfl,e⟩;·exact nomatch e
  ·injection e with B _;rw[B]
 byValue:=λk v h=>by rcases Yv h with⟨i,t,rfl,rfl⟩|⟨x,t,rfl,rfl⟩<;>rfl
 pyHash:=λJ h=>by
  rcases Yv J with⟨i,t,rfl,rfl⟩|⟨x,t,rfl,rfl⟩;·exact wpAny_pyHash_int h
  ·exact wpAny_pyHash_str h
 eqBool:=λY J h=>by
  rcases Yv Y with⟨i,t,rfl,rfl⟩|⟨x,t,rfl,rfl⟩
  ·rcases Yv J with⟨j,u,rfl,rfl⟩|⟨y,u,rfl,rfl⟩;·rw[X25]at h;exact wpAny_eqBool_int h
   ·rw[X27]at h;exact SeqAt.EqAt.int_str i t y u _ _ _ _ h
  rcases Yv J with⟨j,u,rfl,rfl⟩|⟨y,u,rfl,rfl⟩;·rw[X28]at h;exact SeqAt.EqAt.str_int x t j u _ _ _ _ h
  ·rw[X26]at h;exact wpAny_eqBool_str h
 «strs»:=λk x t v h=>by
  rcases Yv h with⟨i,u,rfl,e⟩|⟨y,u,rfl,e⟩;·exact nomatch e
  ·injection e with B _;subst B;cases v<;>rfl
end L2
namespace L2
open PySem PySem.Spec PyProof.Rows
inductive V where
 |non|bl (b:Bool)|int (i:Int)|str (x:Str)|byt (b:Array UInt8)|flt (b:UInt64)|ref (a:Addr)|ty (n:String)
 deriving DecidableEq
abbrev LW:=List V
def RelV:V->Vb->Prop
 |.non,u=>u=Van|.bl b,u=>u=Vez b|.int i,u=>∃t,u=Veh i t|.str x,u=>∃t,u=Value.str x t|.byt b,u=>∃t,u=Value.bytes b t|.flt b,u=>∃t,u=Value.float b t|.ref a,u=>u=Ur a|.ty n,u=>u=Vca n
abbrev Vals:LW->LV->Prop:=Paired RelV
theorem Vals.length{xs:LW}{us:LV}(r:Vals xs us):(lf xs)=lf us:=Paired.length r
theorem Vals.get:∀ {xs:LW} {us:LV} {i:Nat} {x:V},Vals xs us->xs[i]?=yz x->∃u,us[i]?=yz u/\RelV x u
 |_,_,_,_,.nil,e=>by simp at e|_,_,0,_,.cons r _,e=>by simp at e;subst e;exact⟨_,rfl,r⟩|_,_,i+1,x,.cons _ t,e=>by obtain⟨u,h1,h2⟩:=Vals.get (i:=i) (x:=x) t (by simpa using e);exact⟨u,by simpa using h1,h2⟩
theorem Vals.set{x:V}{u:Vb}(r:RelV x u):∀ {xs:LW} {us:LV} (i:Nat),Vals xs us->Vals (xs.set i x) (us.set i u)
 |_,_,_,.nil=>.nil|_,_,0,.cons _ t=>.cons r t|_,_,i+1,.cons q t=>.cons q (Vals.set r i t)
theorem Vals.append:∀ {xs ys:LW} {us B:LV},Vals xs us->Vals ys B->Vals (xs++ys) (us++B)
 |_,_,_,_,.nil,s=>s|_,_,_,_,.cons r t,s=>.cons r (Vals.append t s)
theorem Vals.take:∀ {xs:LW} {us:LV} (n:Nat),Vals xs us->Vals (xs.take n) (us.take n)
 |_,_,0,_=>.nil|_,_,_+1,.nil=>.nil|_,_,n+1,.cons r t=>.cons r (Vals.take n t)
theorem Vals.drop:∀ {xs:LW} {us:LV} (n:Nat),Vals xs us->Vals (xs.drop n) (us.drop n)
 |_,_,0,r=>r|_,_,_+1,.nil=>.nil|_,_,n+1,.cons _ t=>Vals.drop n t
def X29:Option V->OV->Prop
 |some v,yz u=>RelV v u|none,yy=>True|_,_=>False
def KV{κ:Type}:List (κ×V)->List (κ×Vb)->Prop:=Paired λ(p:κ×V) (q:κ×Vb)=>p.1=q.1/\RelV p.2 q.2
noncomputable def kV:Key->V
 |.inl i=>.int i|.inr x=>.str x
inductive HO where
 |lst (xs:LW)
 |tup (xs:LW)
 |dK (kvs:List (Key×V))|dT (kvs:List (List Key×V))
 |set (S:Int->Bool) (n:Nat)
 |ins (C dx:Addr) (fs:List (Str×V))
 |own (x:Addr)
 |xd (fs:List (Str×V))
 |met (f x:Addr)
 |rng (lo hi:Int)
 |frz (o:Obj) (u:HO)
 |tbl (ps:AV)
 |ext (φ:Heap->Prop)
noncomputable abbrev Hp:=Addr->Option HO
noncomputable def upd(H:Hp)(a:Addr)(o:HO):Hp:=λb=>if b=a then yz o else H b
theorem Yi{H:Hp}{a:Addr}{o:HO}:upd H a o a=yz o:=by unfold upd;rw[iP0 rfl]
theorem Xj{H:Hp}{a b:Addr}{o:HO}(h:b≠a):upd H a o b=H b:=by unfold upd;rw[iN0 h]
theorem Xs{H:Hp}{a b:Addr}{o:HO}(h:H a=yz o)(h':H b=yy):a≠b:=by intro e;subst e;rw[h]at h';cases h'
section
variable(P:V4)(w:Ua)
def ObjOk(H:Hp)(h:Heap)(a:Addr):HO->Prop
 |.lst xs=>lf xs<=V8/\∃(its:LV) (n:Nat),Vals xs its/\h.get? a=yz {cls:=.type "list",data:=.seq its.toArray n}|.tup xs=>lf xs<=V8/\∃its:LV,Vals xs its/\Vdr h a its.toArray|.dK kvs=>lf kvs<=V8/\(a==Vcu)=yw/\∃vs,KV kvs vs/\h.DictOf (Xic P w) a vs|.dT kvs=>lf kvs<=V8/\(a==Vcu)=yw/\∃xs:List (List Key×Addr×Vb),
   Paired (λ(p:List Key×V) (q:List Key×Addr×Vb)=>p.1=q.1/\H q.2.1=yz (.tup (p.1.map kV))/\RelV p.2 q.2.2) kvs xs /\
   ∃o es ep,h.get? a=yz o/\o.ExactDict/\o.data=.dict es ep/\es.toList=xs.map (entryOfKey (tupleKind (Xic P w)))/\(xs.map (·.1)).Nodup|.set S n=>h.SetOf (Va8 P w) a S n|.ins C dx fs=>H dx=yz (.own a)/\(lf fs)<=1000/\dx≠a/\h.get? a=yz (PySem.W.instObj C dx) /\
   ∃mA,h.Ns1 dx mA/\(∀f,X29 (fs.lookup f) (mA f))/\PySem.Within mA (fs.map (·.1))|.own _=>∃o,h.get? a=yz o|.xd fs=>∃mA,h.Ns1 a mA/\∀f,X29 (fs.lookup f) (mA f)|.rng lo hi=>∃t u v,h.get? a=yz {cls:=.type "range",data:=.fields #[.int lo t,.int hi u,.int 1 v]}|.frz o u=>h.get? a=yz o/\ObjOk H h a u|.tbl ps=>h.get? a=yz {cls:=.none,data:=.fields ps}|.met f x=>h.get? a=yz (Vhi (.ref f) (.ref x))|.ext B=>B h/\(∃o,h.get? a=yz o)/\∀h1 h2:Heap,B h1->(∀o,h1.get? a=yz o->h2.get? a=yz o)->B h2
def HOk(H:Hp)(h:Heap):Prop:=∀a o,H a=yz o->ObjOk P w H h a o
end
section
variable{P:V4}{w:Ua}{H H':Hp}{h h':Heap}{a:Addr}{o:HO}
theorem ObjOk.lt(x:ObjOk P w H h a o):a<h.objs.size:=by
 cases o with
 |lst xs=>obtain⟨_,_,_,_,e⟩:=x;exact Vw e|tup xs=>obtain⟨_,_,_,p⟩:=x;exact p.lt|dK kvs=>obtain⟨_,_,_,_,o,_,_,e,_⟩:=x;exact Vw e|dT kvs=>obtain⟨_,_,_,_,o,_,_,e,_⟩:=x;exact Vw e|set S n=>obtain⟨o,_,_,_,e,_⟩:=x;exact Vw e|ins C dx fs=>obtain⟨_,_,_,e,_⟩:=x;exact Vw e|own y=>obtain⟨_,e⟩:=x;exact Vw e|xd fs=>obtain⟨_,⟨_,_,_,e,_⟩,_⟩:=x;exact Vw e|rng lo hi=>obtain⟨_,_,_,e⟩:=x;exact Vw e|frz ob u=>obtain⟨e,_⟩:=x;exact Vw e|tbl ps=>exact Vw (show h.get? a=yz _ from x)|met f y=>exact Vw (show h.get? a=yz _ from x)|ext B=>obtain⟨_,⟨_,e⟩,_⟩:=x;exact Vw e
theorem Paired.mapP{α β:Type}{F G:α->β->Prop}:∀ {l₁:List α} {B:List β},Paired F l₁ B->(∀a b,F a b->G a b)->Paired G l₁ B
 |_,_,.nil,_=>.nil|_,_,.cons r t,f=>.cons (f _ _ r) (Paired.mapP t f)
theorem ObjOk.stay(x:ObjOk P w H h a o)(k:∀b u,(b=a\/H b=yz (.own a))->h.get? b=yz u->h'.get? b=yz u)
  (J:∀b,H b=yz (.own a)->H' b=yz (.own a)) (L:∀b xs,H b=yz (.tup xs)->H' b=yz (.tup xs)):ObjOk P w H' h' a o:=by
 induction o with
 |lst xs=>obtain⟨z,its,n,r,e⟩:=x;exact⟨z,its,n,r,k _ _ (.inl rfl) e⟩|tup xs=>obtain⟨z,its,r,ob,e,c⟩:=x;exact⟨z,its,r,ob,k _ _ (.inl rfl) e,c⟩|dK kvs=>obtain⟨z,y,vs,r,ob,es,ep,e,c⟩:=x;exact⟨z,y,vs,r,ob,es,ep,k _ _ (.inl rfl) e,c⟩|dT kvs=>obtain⟨z,y,xs,r,ob,es,ep,e,c⟩:=x;exact⟨z,y,xs,Paired.mapP r λp q z=>⟨z.1,L _ _ z.2.1,z.2.2⟩,ob,es,ep,k _ _ (.inl rfl) e,c⟩|set S n=>obtain⟨ob,es,ep,t,e,c⟩:=x;exact⟨ob,es,ep,t,k _ _ (.inl rfl) e,c⟩|ins C dx fs=>obtain⟨d,z,ne,e,mA,⟨B,es,ep,U,c⟩,r⟩:=x;exact⟨J _ d,z,ne,k _ _ (.inl rfl) e,mA,⟨B,es,ep,k _ _ (.inr d) U,c⟩,r⟩|own y=>obtain⟨ob,e⟩:=x;exact⟨ob,k _ _ (.inl rfl) e⟩|xd fs=>obtain⟨mA,⟨B,es,ep,e,c⟩,r⟩:=x;exact⟨mA,⟨B,es,ep,k _ _ (.inl rfl) e,c⟩,r⟩|rng lo hi=>obtain⟨t,u,v,e⟩:=x;exact⟨t,u,v,k _ _ (.inl rfl) e⟩|frz ob u ih=>obtain⟨e,q⟩:=x;exact⟨k _ _ (.inl rfl) e,ih q⟩|tbl ps=>have e:h.get? a=yz {cls:=.none,data:=.fields ps}:=x;show h'.get? a=yz {cls:=.none,data:=.fields ps};exact k a _ (.inl rfl) e|met f y=>have e:h.get? a=yz (Vhi (.ref f) (.ref y)):=x;show h'.get? a=yz (Vhi (.ref f) (.ref y));exact k a _ (.inl rfl) e|ext Y=>obtain⟨p,⟨o,e⟩,st⟩:=x;exact⟨st _ _ p λo q=>k _ _ (.inl rfl) q,⟨o,k _ _ (.inl rfl) e⟩,st⟩
theorem HOk.lt(x:HOk P w H h)(e:H a=yz o):a<h.objs.size:=(x a o e).lt
theorem HOk.fresh(x:HOk P w H h)(e:h.objs.size<=a):H a=none:=by
 cases q:H a with
 |none=>rfl|some u=>exact aB0 (Ub (x.lt q) e) (Vds _)
theorem HOk.kept(x:HOk P w H h)(k:∀b u,h.get? b=yz u->h'.get? b=yz u):HOk P w H h':=λa o e=>(x a o e).stay (λb u _ q=>k b u q) (λ_ q=>q) λ_ _ q=>q
theorem HOk.laid(x:HOk P w H h)(k:∀b u,h.get? b=yz u->h'.get? b=yz u)(hp:h.objs.size<=a)(new:ObjOk P w (upd H a o) h' a o):HOk P w (upd H a o) h':=λb u e=>by
 have hn:=x.fresh hp;by_cases B:b=a;·subst B;rw[Yi]at e;cases e;exact new
 ·rw[Xj B]at e;exact(x b u e).stay (λc v _ q=>k c v q) (λc q=>by rw[Xj (Xs q hn)];exact q) λc xs q=>by rw[Xj (Xs q hn)];exact q
end
def Rd(H:Hp)(a:Addr)(u:HO):Prop:=H a=yz u\/∃o,H a=yz (.frz o u)
theorem Rd.ok{P:V4}{w:Ua}{H:Hp}{h:Heap}{a:Addr}{u:HO}(r:Rd H a u)(x:HOk P w H h):ObjOk P w H h a u:=by
 rcases r with r|⟨o,r⟩;·exact x a u r
 ·obtain⟨_,q⟩:=x a _ r;exact q
def Mut:Option HO->Prop
 |some (.lst _)=>True|some (.dK _)=>True|some (.dT _)=>True|some (.set _ _)=>True|some (.ins _ _ _)=>True|some (.ext _)=>True|_=>False
section
variable{P:V4}{w:Ua}{H:Hp}{h h':Heap}{x e:Addr}{o':HO}
theorem HOk.write(ok:HOk P w H h)(Y:Mut (H x))(he:e=x\/H e=yz (.own x))(k:∀b u,b≠e->h.get? b=yz u->h'.get? b=yz u)(aa:∃u,h'.get? e=yz u)
  (new:ObjOk P w (upd H x o') h' x o'):HOk P w (upd H x o') h':=λb u q=>by
 have J:∀c y,H c=yz (.own y)->c≠x:=λc y r z=>by subst z;rw[r]at Y;exact Y
 have L:∀c xs,H c=yz (.tup xs)->c≠x:=λc xs r z=>by subst z;rw[r]at Y;exact Y
 by_cases U:b=x;·subst U;rw[Yi]at q;cases q;exact new
 ·rw[Xj U]at q;by_cases B:b=e
  ·have q':H b=yz (.own x):=by
    rcases he with z|z;·exact aB0 (B.trans z) U
    ·rw[B];exact z
   rw[q]at q';cases q';obtain⟨v,hv⟩:=aa;exact⟨v,by rw[B];exact hv⟩
  refine(ok b u q).stay (λc v hc r=>k c v ?_ r) (λc r=>by rw[Xj (J c b r)];exact r) λc xs r=>by rw[Xj (L c xs r)];exact r
  rcases hc with rfl|hc;·exact B
  ·rintro rfl;rcases he with z|z;·exact J c b hc z
   ·rw[hc]at z;cases z;exact U rfl
end
structure Un(fs ex:LR)(H H':Hp)(h h':Heap):Prop where
 keep:∀b o,h.get? b=yz o->H b=yy->b ∉ fs->b ∉ ex->h'.get? b=yz o
 slot:∀b o,h.get? b=yz o->H b=yy->b∈fs->b ∉ ex->∃sl,h'.get? b=yz {o with slots:=sl}
 free:∀b o,h.get? b=yz o->H b=yy->b ∉ ex->H' b=yy
 there:∀b o,h.get? b=yz o->b ∉ ex->∃o',h'.get? b=yz o'
 tups:∀b xs,H b=yz (.tup xs)->H' b=yz (.tup xs)
 frzs:∀b o u,H b=yz (.frz o u)->H' b=yz (.frz o u)
 tbls:∀b ps,H b=yz (.tbl ps)->∃more,H' b=yz (.tbl (ps++more))
section
variable{fs ex:LR}{H H1:Hp}{h h1 h':Heap}{a x e:Addr}{o:HO}
theorem Un.any(u:Un fs ex H H1 h h1){b:Addr}{ob:Obj}(q:h.get? b=yz ob)(n:H b=yy)(J:b ∉ ex):∃sl,h1.get? b=yz {ob with slots:=sl}:=by
 by_cases B:b∈fs;·exact u.slot b ob q n B J
 ·exact⟨ob.slots,u.keep b ob q n B J⟩
theorem Un.kept(k:∀b u,h.get? b=yz u->h'.get? b=yz u):Un fs ex H H h h':=
 ⟨λb ob q _ _ _=>k b ob q,λb ob q _ _ _=>⟨ob.slots,k b ob q⟩,λ_ _ _ n _=>n,λb ob q _=>⟨ob,k b ob q⟩,λ_ _ q=>q,λ_ _ _ q=>q,λ_ ps q=>⟨#[],by rw[q];simp⟩⟩
theorem Un.refl:Un fs ex H H h h:=Un.kept λ_ _ q=>q
theorem Un.laid(k:∀b u,h.get? b=yz u->h'.get? b=yz u)(hp:h.objs.size<=a)(hn:H a=yy):Un fs ex H (upd H a o) h h' where
 keep:=λb u q _ _ _=>k b u q
 slot:=λb u q _ _ _=>⟨u.slots,k b u q⟩
 free:=λb u q n _=>by rw[Xj (Uc (Ub (Vw q) hp))];exact n
 there:=λb u q _=>⟨u,k b u q⟩
 tups:=λb xs q=>by rw[Xj (Xs q hn)];exact q
 frzs:=λb u xs q=>by rw[Xj (Xs q hn)];exact q
 tbls:=λb ps q=>⟨#[],by rw[Xj (Xs q hn),q];simp⟩
theorem Un.write(J:Mut (H x))(he:e=x\/H e=yz (.own x))(k:∀b u,b≠e->h.get? b=yz u->h'.get? b=yz u)(U:∃u,h'.get? e=yz u):Un fs ex H (upd H x o) h h':=by
 have hx:∀b,H b=yy->b≠x:=λb n z=>by subst z;rw[n]at J;exact J
 have Y:∀b,H b=yy->b≠e:=λb n z=>by
  subst z;rcases he with r|r;·exact hx b n r
  ·rw[n]at r;cases r
 have L:∀b u,H b=yz u->¬ Mut (yz u)->b≠x:=λb u q nm z=>by subst z;rw[q]at J;exact nm J
 refine⟨λb u q n _ _=>k b u (Y b n) q,λb u q n _ _=>⟨u.slots,k b u (Y b n) q⟩,λb u q n _=>by rw[Xj (hx b n)];exact n,λb u q _=>?_,
  λb xs q=>by rw[Xj (L b _ q λz=>z)];exact q,λb u xs q=>by rw[Xj (L b _ q λz=>z)];exact q,λb ps q=>⟨#[],by rw[Xj (L b _ q λz=>z),q];simp⟩⟩
 by_cases B:b=e;·subst B;exact U
 ·exact⟨u,k b u B q⟩
end
noncomputable def trk(h:Heap)(H:Hp):LR:=(Vs h.objs.size).filter λa=>(H a).isSome
noncomputable def Xd2(h:Heap)(H:Hp):Heap:=Vck h (trk h H)
theorem Xr7(h:Heap)(H:Hp):(Xd2 h H).objs.size=h.objs.size:=PySem.W.hideAll_size _ _
theorem Xu6{h:Heap}{H:Hp}{b:Addr}{o:Obj}(e:h.get? b=yz o)(n:H b=yy):(Xd2 h H).get? b=yz o:=
 Vea _ e λB=>by have q:(H b).isSome=true:=(Vbz.mp B).2;rw[n]at q;simp at q
theorem Xzq{h:Heap}{H:Hp}{b:Addr}{o:Obj}(e:(Xd2 h H).get? b=yz o):h.get? b=yz o/\H b=none:=by
 have B:h.get? b=yz o:=Vff (trk h H) e;refine⟨B,?_⟩;cases q:H b with
 |none=>rfl|some x=>have J:b∈trk h H:=Vbz.mpr ⟨U6.mpr (Vw B),by simp[q]⟩;have z:(Xd2 h H).get? b=none:=Vb2 (trk h H) J;rw[z]at e;cases e
noncomputable def Xzr(g h:Heap)(L:Addr):LA:=(Vs h.objs.size).filterMap λa=>if a=L\/(g.get? a).isSome=yx then yy else (h.get? a).map λo=>(a,o)
noncomputable def Yj(g h:Heap)(L d:Addr):LA:=(Xzr g h L).filter λp=>decide (p.1≠d)
end L2
namespace L2
open PySem PySem.Spec PyProof.Rows
structure Mod(K:Vj)(mg:Str->OV)(base:Heap):Prop where
 kin:K.In base
 glob:base.Ns Uf mg
 blt:∃mb,base.Ns builtinsNs mb/\∀x:Str,x ≠ "__name__" -> mb x=Vd6 x
 nolimit:base.NoLimit
structure Cx where
 prog:V4
 w:Ua
 K:Vj
 mg:Str->OV
 base:Heap
 A:Uu
 N:LS
 s₀:Vc
 H₀:Hp
 env:Env
 outer:List Env
 stack:List Env
 ex:LR
 fn:Str->Bool
 calm:Bool
 pn:LA
 xe:VP
noncomputable def frs(l:List Env):LR:=l.filterMap (·.frame)
noncomputable abbrev Cx.fs(X:Cx):LR:=frs X.outer
def Vis(sc:U7)(x:Str):Prop:=sc.names.lookup x=yz .local\/sc.names.lookup x=yz .cell\/sc.names.lookup x=yz .free
def Loc(sc:U7)(x:Str):Prop:=sc.names.lookup x=yz .local\/sc.names.lookup x=yz .cell
def Yaf(env:Env)(h:Heap)(m:Str->OV)(x:Str)(u:Vb):Prop:=
 (env.kindOf x=yz .local/\m x=yz u)\/((env.kindOf x=yz .cell\/env.kindOf x=yz .free)/\∃c,env.cells.lookup x=yz c/\h.IsCell c (yz u))
structure Cx.Ok(X:Cx):Prop where
 mod:Mod X.K X.mg X.base
 kind:X.env.scope.kind=.function
 glob:X.env.globals=Uf
 blt:X.env.builtins=builtinsNs
 above:X.s₀.heap.objs.size<=X.env.locals
 inj:∀x y c,X.env.cells.lookup x=yz c->X.env.cells.lookup y=yz c->x=y
 has:∀x,(X.env.kindOf x=yz .cell\/X.env.kindOf x=yz .free)->∃c,X.env.cells.lookup x=yz c
 cab:∀x c,X.fn x=yx->X.env.cells.lookup x=yz c->X.s₀.heap.objs.size<=c
 hd:X.calm=yx->X.A.handled=yy
 frames:X.A.frames=yz X.stack
 stk:X.stack=X.outer\/(X.stack=X.env::X.outer/\X.env.frame=yz X.env.locals)
 exf:∀b∈X.ex,b≠X.env.locals/\∀x c,X.env.cells.lookup x=yz c->c≠b
 bs:∀b o,X.base.get? b=yz o->X.s₀.heap.get? b=yz o/\X.H₀ b=yy
 bsz:X.base.objs.size<=X.s₀.heap.objs.size
 noex:∀b o,X.base.get? b=yz o->b ∉ X.ex
 exfs:∀b∈X.ex,b ∉ X.fs
 funs:X.s₀.heap.FunFrames X.base X.outer
 frf:∀b∈X.fs,X.H₀ b=yy
structure Inv(X:Cx)(pa:LA)(σ:List (Option V))(H:Hp)(s:Vc):Prop where
 ok:X.Ok
 os:s.os=X.s₀.os
 bare:AllBare s.gens
 base:Un X.fs X.ex X.H₀ H X.s₀.heap s.heap
 loc:∃m,s.heap.Ns X.env.locals m/\∀(i:Nat) (x:Str) (v:V),X.N[i]?=yz x->σ[i]?=yz (yz v)->Vis X.env.scope x->∃u,RelV v u/\Yaf X.env s.heap m x u
 cell:∀x c,X.env.cells.lookup x=yz c->∃v,s.heap.IsCell c v
 free:H X.env.locals=yy
 freeC:∀x c,X.env.cells.lookup x=yz c->H c=yy
 pin:∀p∈X.pn++pa,s.heap.get? p.1=yz p.2/\H p.1=yy/\p.1≠X.env.locals/\p.1 ∉ X.fs/\∀v,p.2.data≠.cell v
 hok:HOk X.prog X.w H s.heap
 len:σ.length=X.N.length
section
variable{X:Cx}{pa:LA}{σ:List (Option V)}{H H':Hp}{s:Vc}{h':Heap}
theorem Cx.Ok.nofr(ok:X.Ok){b:Addr}{o:Obj}(e:X.base.get? b=yz o):b ∉ X.fs:=λB=>by have:=(ok.funs.mem B).1;rw[e]at this;cases this
theorem Inv.bs(I:Inv X pa σ H s):∀b o,X.base.get? b=yz o->s.heap.get? b=yz o/\H b=none:=λb o e=>⟨I.base.keep b o (I.ok.bs b o e).1 (I.ok.bs b o e).2 (I.ok.nofr e) (I.ok.noex b o e),I.base.free b o (I.ok.bs b o e).1 (I.ok.bs b o e).2 (I.ok.noex b o e)⟩
theorem Inv.bk(I:Inv X pa σ H s):∀b o,X.base.get? b=yz o->s.heap.get? b=yz o:=λb o e=>(I.bs b o e).1
theorem Inv.mod(I:Inv X pa σ H s):Mod X.K X.mg X.base:=I.ok.mod
theorem Inv.kIn(I:Inv X pa σ H s):X.K.In s.heap:=I.ok.mod.kin.keeps I.bk
theorem Inv.lt(I:Inv X pa σ H s):X.env.locals<s.heap.objs.size:=let ⟨_,hn,_⟩:=I.loc;hn.lt
theorem Inv.sz(I:Inv X pa σ H s):X.s₀.heap.objs.size<=s.heap.objs.size:=Uv I.ok.above (Vc1 I.lt)
theorem Inv.nofs(I:Inv X pa σ H s){a:Addr}(h:s.heap.objs.size<=a):a ∉ X.fs:=λB=>by obtain⟨_,o,J,_⟩:=I.ok.funs.mem B;exact aB0 (Ub (Vw J) (Uv I.sz h)) (Vds _)
theorem Inv.cne(I:Inv X pa σ H s):∀x c,X.env.cells.lookup x=yz c->c≠X.env.locals:=λx c e z=>by obtain⟨v,o,L,hd⟩:=I.cell x c e;obtain⟨m,⟨o',es,ep,J,B,_⟩,_⟩:=I.loc;rw[z,J]at L;cases L;rw[B]at hd;cases hd
theorem Inv.funs(I:Inv X pa σ H s):s.heap.FunFrames X.base X.outer:=by
 have all:∀(l:List Env),(∀b∈frs l,b∈X.fs)->X.s₀.heap.FunFrames X.base l->s.heap.FunFrames X.base l:=by
  intro l;induction l with
  |nil=>intro _ _;trivial|cons env r ih=>intro hs hl;obtain⟨hk,⟨L,o,B,hn,Y,hd⟩,hr⟩:=hl;have U:L∈X.fs:=hs L (by unfold frs;rw[Uz,B];exact Vz);obtain⟨sl,e⟩:=I.base.slot L o Y (I.ok.frf L U) U λz=>I.ok.exfs L z U;exact⟨hk,⟨L,_,B,hn,e,hd⟩,ih (λb J=>hs b (by unfold frs;rw[Uz,B];exact V5 _ J)) hr⟩
 exact all X.outer (λ_ J=>J) I.ok.funs
theorem Inv.stack(I:Inv X pa σ H s):s.heap.FunFrames X.base X.stack:=by
 rcases I.ok.stk with e|⟨e,B⟩;·rw[e];exact I.funs
 ·rw[e];obtain⟨m,hn,_⟩:=I.loc;refine .cons (by rw[I.ok.kind];decide) B hn ?_ I.funs;exact Heap.get?_none_of_le (Uv I.ok.bsz I.ok.above)
theorem Inv.stkSub(I:Inv X pa σ H s):∀b∈frs X.stack,b∈X.env.locals::X.fs:=λb B=>by
 rcases I.ok.stk with e|⟨e,J⟩;·rw[e]at B;exact V5 _ B
 ·rw[e]at B;unfold frs at B;rw[Uz,J]at B;exact B
theorem Inv.stkFree(I:Inv X pa σ H s):∀b∈frs X.stack,H b=none:=λb B=>by
 rcases Vn.mp (I.stkSub b B) with e|B;·rw[e];exact I.free
 ·obtain⟨_,o,J,_⟩:=I.ok.funs.mem B;exact I.base.free b o J (I.ok.frf b B) λz=>I.ok.exfs b z B
theorem Inv.step{g':Array GenState}{t':Nat}{d':Drawn}{ch:LR}(I:Inv X pa σ H s)
  (L:∀b∈ch,(b∈X.ex\/X.s₀.heap.objs.size<=b)/\b≠X.env.locals/\(∀x c,X.env.cells.lookup x=yz c->c≠b)/\∀p∈X.pn++pa,p.1≠b)
  (keep:∀b o,b≠X.env.locals->b ∉ X.fs->b ∉ ch->s.heap.get? b=yz o->H b=yy->h'.get? b=yz o)
  (slot:∀b o,b≠X.env.locals->b∈X.fs->b ∉ ch->s.heap.get? b=yz o->H b=yy->∃sl,h'.get? b=yz {o with slots:=sl}) (free:∀b o,b ∉ ch->s.heap.get? b=yz o->H b=yy->H' b=yy)
  (there:∀b o,b ∉ ch->s.heap.get? b=yz o->∃o',h'.get? b=yz o')
  (tups:∀b xs,H b=yz (.tup xs)->H' b=yz (.tup xs)) (frzs:∀b o u,H b=yz (.frz o u)->H' b=yz (.frz o u)) (tbls:∀b ps,H b=yz (.tbl ps)->∃more,H' b=yz (.tbl (ps++more)))
  (ns:∀m,s.heap.Ns X.env.locals m->h'.Ns X.env.locals m) (hok:HOk X.prog X.w H' h') (hg:AllBare g'):
  Inv X pa σ H' {s with heap:=h',gens:=g',drawn:=d',toks:=t' }:=by
 have aa:∀b o,X.s₀.heap.get? b=yz o->b≠X.env.locals:=λb o e=>Uc (Ub (Vw e) I.ok.above);have Y:∀b o,X.s₀.heap.get? b=yz o->b ∉ X.ex->b ∉ ch:=λb o e B hb=>by
  rcases (L b hb).1 with z|z;·exact B z
  ·exact aB0 (Ub (Vw e) z) (Vds _)
 have J:∀x c,X.env.cells.lookup x=yz c->∀v,s.heap.IsCell c v->h'.IsCell c v:=λx c e v ⟨o,ho,hd⟩=>by
  have U:c ∉ ch:=λz=>(L c z).2.2.1 x c e rfl;by_cases hc:c∈X.fs;·obtain⟨sl,q⟩:=slot c o (I.cne x c e) hc U ho (I.freeC x c e);exact⟨_,q,hd⟩
  ·exact⟨o,keep c o (I.cne x c e) hc U ho (I.freeC x c e),hd⟩
 refine⟨I.ok,I.os,hg,⟨λb o e n hb B=>?_,λb o e n hb B=>?_,λb o e n B=>?_,λb o e B=>?_,λb xs e=>tups b xs (I.base.tups b xs e),λb o xs e=>frzs b o xs (I.base.frzs b o xs e),λb ps e=>?_⟩,?_,λx c e=>?_,?_,λx c e=>?_,λp hp=>?_,hok,I.len⟩;·exact keep b o (aa b o e) hb (Y b o e B) (I.base.keep b o e n hb B) (I.base.free b o e n B)
 ·obtain⟨sl,e1⟩:=I.base.slot b o e n hb B;obtain⟨ab,e2⟩:=slot b _ (aa b o e) hb (Y b o e B) e1 (I.base.free b o e n B);exact⟨ab,e2⟩
 ·obtain⟨o',e1⟩:=I.base.there b o e B;exact free b o' (Y b o e B) e1 (I.base.free b o e n B)
 ·obtain⟨o',e1⟩:=I.base.there b o e B;exact there b o' (Y b o e B) e1
 ·obtain⟨m1,e1⟩:=I.base.tbls b ps e;obtain⟨m2,e2⟩:=tbls b _ e1;exact⟨m1++m2,by rw[e2,Array.append_assoc]⟩
 ·obtain⟨m,hn,hl⟩:=I.loc;refine⟨m,ns m hn,λi x v e1 e2 e3=>?_⟩;obtain⟨u,r,l⟩:=hl i x v e1 e2 e3;refine⟨u,r,?_⟩;rcases l with l|⟨k,c,e,z⟩;·exact .inl l
  ·exact .inr ⟨k,c,e,J x c e _ z⟩
 ·obtain⟨v,z⟩:=I.cell x c e;exact⟨v,J x c e v z⟩
 ·obtain⟨m,⟨o,_,_,ho,_⟩,_⟩:=I.loc;exact free _ o (λz=>(L _ z).2.1 rfl) ho I.free
 ·obtain⟨v,o,ho,hd⟩:=I.cell x c e;exact free c o (λz=>(L c z).2.2.1 x c e rfl) ho (I.freeC x c e)
 ·obtain⟨e,n,ne,nf,d⟩:=I.pin p hp;have U:p.1 ∉ ch:=λz=>(L p.1 z).2.2.2 p hp rfl;exact⟨keep p.1 p.2 ne nf U e n,free p.1 p.2 U e n,ne,nf,d⟩
theorem Inv.un{t':Nat}(I:Inv X pa σ H s)(u:Un X.fs [] H H' s.heap h')(hok:HOk X.prog X.w H' h'):Inv X pa σ H' {s with heap:=h',toks:=t' }:=by obtain⟨m,⟨o,es,ep,Y,r⟩,_⟩:=id I.loc;obtain⟨sl,hL⟩:=u.any Y I.free (by simp);exact I.step (g':=s.gens) (d':=s.drawn) (ch:=[]) (λ_ z=>nomatch z) (λb o _ U _ e n=>u.keep b o e n U (by simp)) (λb o _ U _ e n=>u.slot b o e n U (by simp)) (λb o _ e n=>u.free b o e n (by simp)) (λb o _ e=>u.there b o e (by simp)) u.tups u.frzs u.tbls (λm' hm=>by obtain⟨o',L,J,B,r'⟩:=hm;rw[Y]at B;cases B;exact⟨_,L,J,hL,r'⟩) hok I.bare
theorem Inv.call{g':Array GenState}{t':Nat}{d':Drawn}{ch:LR}(I:Inv X pa σ H s)(u:Un (frs X.stack) ch H H' s.heap h')(hok:HOk X.prog X.w H' h')(hg:AllBare g')
  (B:∀b∈ch,(b∈X.ex\/X.s₀.heap.objs.size<=b)/\b≠X.env.locals/\(∀x c,X.env.cells.lookup x=yz c->c≠b)/\∀p∈X.pn++pa,p.1≠b):
  Inv X pa σ H' {s with heap:=h',gens:=g',drawn:=d',toks:=t' }:=by
 obtain⟨m,⟨o,es,ep,ho,r⟩,_⟩:=id I.loc;obtain⟨sl,Y⟩:=u.any ho I.free λz=>(B _ z).2.1 rfl;exact I.step (ch:=ch) B (λb o Y hb hc e n=>u.keep b o e n (λz=>(Vn.mp (I.stkSub b z)).elim Y hb) hc) (λb o _ _ hc e n=>u.any e n hc) (λb o hc e n=>u.free b o e n hc) (λb o hc e=>u.there b o e hc) u.tups u.frzs u.tbls (λm' hm=>by obtain⟨o',U,L,J,r'⟩:=hm;rw[ho]at J;cases J;exact⟨_,U,L,Y,r'⟩) hok hg
theorem Inv.turned{t':Nat}{it:Addr}(I:Inv X pa σ H s)(k:∀b o,b≠it->s.heap.get? b=yz o->h'.get? b=yz o)(hn:H it=yy)(J:it≠X.env.locals)
  (h1:it∈X.ex\/X.s₀.heap.objs.size<=it) (h2:∀x c,X.env.cells.lookup x=yz c->c≠it) (Y:∀p∈X.pn++pa,p.1≠it):Inv X pa σ H {s with heap:=h',toks:=t' }:=by
 have B:∀b u,H b=yz u->b≠it:=λb u e z=>by rw[z,hn]at e;cases e
 refine I.step (g':=s.gens) (d':=s.drawn) (ch:=[it]) (λb hb=>?_) (λb o _ _ hc e _=>k b o (λz=>hc (by simp[z])) e) (λb o _ _ hc e _=>⟨o.slots,k b o (λz=>hc (by simp[z])) e⟩) (λ_ _ _ _ n=>n)
  (λb o hc e=>⟨o,k b o (λz=>hc (by simp[z])) e⟩) (λ_ _ e=>e) (λ_ _ _ e=>e) (λb ps e=>⟨#[],by rw[e];simp⟩) (λm U=>?_) (λb u e=>?_) I.bare
 ·have e:b=it:=by simpa using hb
  subst e;exact⟨h1,J,h2,Y⟩
 ·obtain⟨o,es,ep,L,r⟩:=U;exact⟨o,es,ep,k _ o (Ne.symm J) L,r⟩
 ·refine(I.hok b u e).stay (λc v hc q=>k c v ?_ q) (λ_ q=>q) λ_ _ q=>q;rcases hc with z|z;·rw[z];exact B b u e
  ·exact B c _ z
theorem Inv.tok(I:Inv X pa σ H s)(t:Nat):Inv X pa σ H {s with toks:=t}:=I.un (h':=s.heap) (t':=t) Un.refl I.hok
theorem Inv.kept{t':Nat}(I:Inv X pa σ H s)(k:∀b u,s.heap.get? b=yz u->h'.get? b=yz u):Inv X pa σ H {s with heap:=h',toks:=t' }:=I.un (Un.kept k) (I.hok.kept k)
theorem Inv.laid{a:Addr}{o:HO}{t':Nat}(I:Inv X pa σ H s)(k:∀b u,s.heap.get? b=yz u->h'.get? b=yz u)(hp:s.heap.objs.size<=a)(new:ObjOk X.prog X.w (upd H a o) h' a o):
  Inv X pa σ (upd H a o) {s with heap:=h',toks:=t' }:=I.un (Un.laid k hp (I.hok.fresh hp)) (I.hok.laid k hp new)
theorem Inv.write{x e:Addr}{o:HO}{t':Nat}(I:Inv X pa σ H s)(L:Mut (H x))(J:e=x\/H e=yz (.own x))(k:∀b u,b≠e->s.heap.get? b=yz u->h'.get? b=yz u)(B:∃u,h'.get? e=yz u)
  (new:ObjOk X.prog X.w (upd H x o) h' x o):Inv X pa σ (upd H x o) {s with heap:=h',toks:=t' }:=I.un (Un.write L J k B) (I.hok.write L J k B new)
theorem Inv.pins_of{B:LA}(I:Inv X pa σ H s)(h:∀p∈B,s.heap.get? p.1=yz p.2/\H p.1=yy/\p.1≠X.env.locals/\p.1 ∉ X.fs/\∀v,p.2.data≠.cell v):Inv X B σ H s:=
 ⟨I.ok,I.os,I.bare,I.base,I.loc,I.cell,I.free,I.freeC,λp hp=>(Uq.mp hp).elim (λz=>I.pin p (Vc2 _ z)) (h p),I.hok,I.len⟩
theorem Xk8{N:LS}(hN:N.Nodup){i j:Nat}{x:Str}(a:N[i]?=yz x)(b:N[j]?=yz x):i=j:=by obtain⟨h1,J⟩:=Vi.mp a;obtain⟨h2,B⟩:=Vi.mp b;exact(List.getElem_inj hN).mp (J.trans B.symm)
theorem Xju{M:Model}{A:Uu}{E:VP}{i:Nat}{x:Str}{v:V}{u:Vb}{Q:Unit->Vc->Prop}(I:Inv X pa σ H s)(hN:X.N.Nodup)(hi:X.N[i]?=yz x)(L:Loc X.env.scope x)(r:RelV v u)
  (h:∀s',Inv X pa (σ.set i (yz v)) H s'->(∃a,Va0 a s.heap s'.heap/\(a=X.env.locals\/X.env.cells.lookup x=yz a))->Q () s') (hf:X.fn x=yx\/X.env.scope.names.lookup x=yz .local:=by first|exact .inl rfl|exact .inr rfl|assumption):Vg M A (storeName X.env x u) Q E s:=by
 obtain⟨m,hn,hl⟩:=id I.loc;have ah:(X.env.scope.kind == .class||(X.env.scope.kind == .module&&X.env.locals != X.env.globals))=false:=by rw[I.ok.kind];rfl
 have aa:i < σ.length:=by rw[I.len];exact(Vi.mp hi).1
 have cne:=I.cne;have B:∀ {a:Addr} {h':Heap},(∃o,s.heap.get? a=yz o/\H a=yy)->Va0 a s.heap h'->HOk X.prog X.w H h':=λ{a h'} ha hs b ob e=>by
  obtain⟨_,_,U⟩:=ha;refine(I.hok b ob e).stay (λc w' hc q=>(hs.2 c ?_).trans q) (λ_ q=>q) λ_ _ q=>q;rintro rfl;rcases hc with rfl|hc;·rw[U]at e;cases e
  ·rw[U]at hc;cases hc
 rcases L with hk|hk
 ·refine wpAny_storeName_local hk hn (λh' ai hs=>?_) ah;obtain⟨oL,_,_,aj,_⟩:=id hn;refine h _ ⟨I.ok,I.os,I.bare,⟨λb o e n hb L=>?_,λb o e n hb L=>?_,I.base.free,λb o e L=>?_,I.base.tups,I.base.frzs,I.base.tbls⟩,⟨_,ai,λj y v' J Y e3=>?_⟩,λy c e=>?_,I.free,I.freeC,λp hp=>?_,B ⟨oL,aj,I.free⟩ hs,by simpa using I.len⟩ ⟨_,hs,.inl rfl⟩;·exact(hs.2 b (Uc (Ub (Vw e) I.ok.above))).trans (I.base.keep b o e n hb L)
  ·obtain⟨sl,J⟩:=I.base.slot b o e n hb L;exact⟨sl,(hs.2 b (Uc (Ub (Vw e) I.ok.above))).trans J⟩
  ·obtain⟨o',J⟩:=I.base.there b o e L;exact⟨o',(hs.2 b (Uc (Ub (Vw e) I.ok.above))).trans J⟩
  ·by_cases hj:j=i;·subst hj;rw[hi]at J;cases J;rw[Vcr aa]at Y;cases Y;exact⟨u,r,.inl ⟨hk,by simp⟩⟩
   ·rw[Vay (Ne.symm hj)]at Y;obtain⟨u',r',q⟩:=hl j y v' J Y e3;refine⟨u',r',?_⟩;rcases q with⟨k,e⟩|⟨k,c,e,z⟩;·refine .inl ⟨k,?_⟩;have:y≠x:=λe=>hj (Xk8 hN J (e▸hi));simp[this,e]
    ·exact .inr ⟨k,c,e,z.sameBut hs (cne y c e)⟩
  ·obtain⟨w',z⟩:=I.cell y c e;exact⟨w',z.sameBut hs (cne y c e)⟩
  obtain⟨e,n,ne,nf,d⟩:=I.pin p hp;exact⟨(hs.2 p.1 ne).trans e,n,ne,nf,d⟩
 ·have ab:X.fn x=true:=by
   rcases hf with z|z;·exact z
   ·rw[z]at hk;cases hk
  obtain⟨c,hc⟩:=I.ok.has x (.inl hk);obtain⟨w',z⟩:=I.cell x c hc;refine wpAny_storeName_cell I.ok.kind hk hc z (λh' af hs=>?_);obtain⟨oc,ac,ag⟩:=id z;refine h {s with heap:=h' } ⟨I.ok,I.os,I.bare,⟨λb o e n hb L=>?_,λb o e n hb L=>?_,I.base.free,λb o e L=>?_,I.base.tups,I.base.frzs,I.base.tbls⟩,⟨m,hn.sameBut hs (Ne.symm (cne x c hc)),λj y v' J Y e3=>?_⟩,λy c' e=>?_,I.free,I.freeC,λp hp=>?_,B ⟨oc,ac,I.freeC x c hc⟩ hs,by simpa using I.len⟩ ⟨c,hs,.inr hc⟩;·exact(hs.2 b (Uc (Ub (Vw e) (I.ok.cab x c ab hc)))).trans (I.base.keep b o e n hb L)
  ·obtain⟨sl,J⟩:=I.base.slot b o e n hb L;exact⟨sl,(hs.2 b (Uc (Ub (Vw e) (I.ok.cab x c ab hc)))).trans J⟩
  ·obtain⟨o',J⟩:=I.base.there b o e L;exact⟨o',(hs.2 b (Uc (Ub (Vw e) (I.ok.cab x c ab hc)))).trans J⟩
  ·by_cases hj:j=i;·subst hj;rw[hi]at J;cases J;rw[Vcr aa]at Y;cases Y;exact⟨u,r,.inr ⟨.inl hk,c,hc,af⟩⟩
   ·rw[Vay (Ne.symm hj)]at Y;obtain⟨u',r',q⟩:=hl j y v' J Y e3;refine⟨u',r',?_⟩;rcases q with q|⟨k,c',e,z'⟩;·exact .inl q
    ·refine .inr ⟨k,c',e,z'.sameBut hs ?_⟩;rintro rfl;exact hj (Xk8 hN J (I.ok.inj _ _ _ e hc▸hi))
  ·by_cases ae:c'=c;·subst ae;exact⟨_,af⟩
   ·obtain⟨w2,z2⟩:=I.cell y c' e;exact⟨w2,z2.sameBut hs ae⟩
  obtain⟨e,n,ne,nf,d⟩:=I.pin p hp;refine⟨(hs.2 p.1 ?_).trans e,n,ne,nf,d⟩;intro q;rw[q,ac]at e;have q':oc=p.2:=Ud e;exact d w' (by rw[<-q'];exact ag)
theorem Xbv{M:Model}{A:Uu}{E:VP}{i:Nat}{x:Str}{v:V}{u:Vb}{Q:Unit->Vc->Prop}(I:Inv X pa σ H s)(hN:X.N.Nodup)(hi:X.N[i]?=yz x)(L:Loc X.env.scope x)(r:RelV v u)
  (h:∀s',Inv X pa (σ.set i (yz v)) H s'->Q () s') (B:X.fn x=yx\/X.env.scope.names.lookup x=yz .local:=by first|exact .inl rfl|exact .inr rfl|assumption):Vg M A (storeName X.env x u) Q E s:=
 Xju I hN hi L r (λs' J _=>h s' J) B
theorem Inv.call'{s':Vc}{ch:LR}(I:Inv X pa σ H s)(Y:s'.os=s.os)(u:Un (frs X.stack) ch H H' s.heap s'.heap)(hok:HOk X.prog X.w H' s'.heap)(hg:AllBare s'.gens)
  (B:∀b∈ch,(b∈X.ex\/X.s₀.heap.objs.size<=b)/\b≠X.env.locals/\(∀x c,X.env.cells.lookup x=yz c->c≠b)/\∀p∈X.pn++pa,p.1≠b):Inv X pa σ H' s':=by
 obtain⟨h',U,L,J,o'⟩:=s';have e:o'=s.os:=Y;subst e;exact I.call (g':=U) (t':=J) (d':=L) u hok hg B
end
abbrev XK:=Vb->Option Addr->Hp->Prop
noncomputable abbrev St:=List (Option V)
abbrev VK:=V->Hp->Prop
abbrev TE:=St->Hp->VK->Prop
def EP(X:Cx)(pa:LA)(σ:St)(Q:VK)(u:Vb)(s':Vc):Prop:=∃v H',Inv X pa σ H' s'/\RelV v u/\Q v H'
def TP(X:Cx)(pa:LA)(σ:St)(Q:Bool->Hp->Prop)(b:Bool)(s':Vc):Prop:=∃H',Inv X pa σ H' s'/\Q b H'
def PE(X:Cx)(e:Expr)(t:TE):Prop:=
 ∀(pa:LA) (s:Vc) (σ:St) (H:Hp) (Q:VK),Inv X pa σ H s->t σ H Q->Vg (Vl X.prog X.w) X.A (eval e X.env) (EP X pa σ Q) X.xe s
theorem thn{α:Type}{t:Sem α}{Q Q':α->Vc->Prop}{M:Model}{A:Uu}{E:VP}{s:Vc}(h:Vg M A t Q E s)(B:∀a s,Q a s->Q' a s):Vg M A t Q' E s:=Vo h B λ_ _ x=>x
end L2
namespace L2
open PySem PySem.Spec PyProof.Rows
section
variable{X:Cx}
theorem bin{a b:Expr}{ta tb:TE}(U:PE X a ta)(L:PE X b tb){pa:LA}{s:Vc}{σ:St}{H:Hp}{R:V->V->Hp->Prop}(I:Inv X pa σ H s)(h:ta σ H λx H1=>tb σ H1 λy H2=>R x y H2)
  {α:Type} {Q:α->Vc->Prop} {f:Vb->Vb->Sem α}
  (J:∀v u B x y H2,Inv X pa σ H2 B->RelV x v->RelV y u->R x y H2->Vg (Vl X.prog X.w) X.A (f v u) Q X.xe B):
  Vg (Vl X.prog X.w) X.A (eval a X.env) (λv s₁=>Vg (Vl X.prog X.w) X.A (eval b X.env) (λu s₂=>Vg (Vl X.prog X.w) X.A (f v u) Q X.xe s₂) X.xe s₁) X.xe s:=by
 refine thn (U pa s σ H _ I h) λv s1 ⟨x,H1,I1,r1,q1⟩=>?_;refine thn (L pa s1 σ H1 _ I1 q1) λu B ⟨y,H2,I2,r2,q2⟩=>?_;exact J v u B x y H2 I2 r1 r2 q2
noncomputable def Yag(i:Nat):TE:=fun σ H Q=>∃v,σ[i]?=yz (yz v)/\Q v H
noncomputable def tC(v:V):TE:=λ_ H Q=>Q v H
theorem X3a {i:Nat} {x:Str} {pos:Pos} (hN:X.N[i]?=yz x) (L:Vis X.env.scope x) (hd:(x==("__debug__" : Str))=false:=by decide) (J:(x==("__classdict__" : Str))=false:=by decide):PE X (.Name x pos) (Yag i):=by
 intro pa s σ H Q I h;obtain⟨v,e,h⟩:=h;obtain⟨m,hn,U⟩:=I.loc;obtain⟨u,r,l⟩:=U i x v hN e L;have fin:EP X pa σ Q u s:=⟨v,H,I,r,h⟩;rcases l with⟨B,hm⟩|⟨B,c,hc,hcell⟩;·exact wpAny_Name (wpAny_loadName_local I.ok.kind B hn hm fin) hd
 ·rcases B with B|B;·exact wpAny_Name (wpAny_loadName_cell I.ok.kind B hc hcell fin) hd
  ·exact wpAny_Name (wpAny_loadName_free I.ok.kind B hc hcell fin J) hd
theorem X3b{i j pos}:PE X (.Constant (.int i) j pos) (tC (.int i)):=λ_ _ _ H _ I h=>wpAny_Constant_int ⟨.int i,H,I.tok _,⟨_,rfl⟩,h⟩
theorem X8a{b j pos}:PE X (.Constant (.bool b) j pos) (tC (.bl b)):=λ_ _ _ H _ I h=>Constant_bool ⟨.bl b,H,I,rfl,h⟩
theorem X3c{j pos}:PE X (.Constant .none j pos) (tC .non):=λ_ _ _ H _ I h=>Constant_none ⟨.non,H,I,rfl,h⟩
theorem X3d{x j pos}:PE X (.Constant (.str x) j pos) (tC (.str x)):=λ_ _ _ H _ I h=>Calls.Constant_str ⟨.str x,H,I.tok _,⟨_,rfl⟩,h⟩
def Gl(X:Cx)(x:Str):Prop:=X.env.kindOf x=yz .globalImplicit
theorem Xdh{E:VP}{pa:LA}{s:Vc}{σ:St}{H:Hp}{x:Str}{u:Vb}{pos:Pos}{Q:VP}(I:Inv X pa σ H s)(hg:Gl X x)(B:X.mg x=yz u)(h:Q u s)
  (hd:(x==("__debug__" : Str))=false:=by decide):Vg (Vl X.prog X.w) X.A (eval (.Name x pos) X.env) Q E s:=
 Vhg I.ok.kind hg (Calls.loadGlobal_global (by rw[I.ok.glob];exact I.mod.glob.keeps I.bk) B h) hd
theorem Ym{E:VP}{pa:LA}{s:Vc}{σ:St}{H:Hp}{x:Str}{u:Vb}{pos:Pos}{Q:VP}(I:Inv X pa σ H s)(hg:Gl X x)(J:X.mg x=yy)(B:Vd6 x=yz u)(h:Q u s)
  (hn:x ≠ "__name__":=by decide) (hd:(x==("__debug__" : Str))=false:=by decide):Vg (Vl X.prog X.w) X.A (eval (.Name x pos) X.env) Q E s:=by
 obtain⟨L,h1,h2⟩:=I.mod.blt;exact Vhg I.ok.kind hg (Calls.loadGlobal_builtin (by rw[I.ok.glob];exact I.mod.glob.keeps I.bk) J (by rw[I.ok.blt];exact h1.keeps I.bk) ((h2 x hn).trans B) h) hd
end
end L2
namespace L2
open PySem PySem.Spec PyProof.Rows
def SqL(K:Vj)(H:Hp)(a:Addr)(xs:LW):Prop:=
 Rd H a (.lst xs) \/
  ∃(o:Obj) (its:AV) (n:Nat),K.lookup a=yz o/\o.cls=.type "list" /\ o.dict=yy/\o.data=.seq its n/\its.size<=V8/\Vals xs its.toList
def SqT(K:Vj)(H:Hp)(a:Addr)(xs:LW):Prop:=
 Rd H a (.tup xs) \/
  ∃(o:Obj) (its:AV) (n:Nat),K.lookup a=yz o/\o.cls=.type "tuple" /\ o.data=.seq its n/\its.size<=V8/\Vals xs its.toList
noncomputable def Yah:Vb->Option V
 |.none=>yz .non|.bool b=>yz (.bl b)|.int i _=>yz (.int i)|.str x _=>yz (.str x)|.bytes b _=>yz (.byt b)|.float b _=>yz (.flt b)|.ref a=>yz (.ref a)|.type n=>yz (.ty n)|_=>yy
theorem RelV.abs{x:V}{u:Vb}(r:RelV x u):Yah u=yz x:=by
 cases x with
 |non=>cases r;rfl|bl _=>cases r;rfl|int _=>obtain⟨t,rfl⟩:=r;rfl|str _=>obtain⟨t,rfl⟩:=r;rfl|byt _=>obtain⟨t,rfl⟩:=r;rfl|flt _=>obtain⟨t,rfl⟩:=r;rfl|ref _=>cases r;rfl|ty _=>cases r;rfl
theorem RelV.inj{x y:V}{u:Vb}(r:RelV x u)(q:RelV y u):x=y:=Ud (r.abs.symm.trans q.abs)
theorem Vals.inj:∀ {xs ys:LW} {us:LV},Vals xs us->Vals ys us->xs=ys
 |_,_,_,.nil,.nil=>rfl|_,_,_,.cons r t,.cons r' t'=>by rw[r.inj r',Vals.inj t t']
section
variable{X:Cx}{pa:LA}{σ:St}{H:Hp}{s:Vc}{a:Addr}{xs ys:LW}
theorem SqL.of{K:Vj}(h:H a=yz (.lst xs)):SqL K H a xs:=.inl (.inl h)
theorem SqT.of{K:Vj}(h:H a=yz (.tup xs)):SqT K H a xs:=.inl (.inl h)
theorem Inv.list(I:Inv X pa σ H s)(h:SqL X.K H a xs):∃its:LV,Vals xs its/\PlainL s.heap a its.toArray/\(lf xs)<=V8:=by
 rcases h with h|⟨o,its,n,B,hc,hd,hs,J,r⟩;·obtain⟨z,its,n,r,e⟩:=h.ok I.hok;exact⟨its,r,⟨_,n,e,rfl,rfl,rfl⟩,z⟩
 ·refine⟨its.toList,r,⟨o,n,I.kIn a o B,hc,hd,by simpa using hs⟩,?_⟩;have e:=r.length;simp only[V7]at e;omega
theorem Inv.tuple(I:Inv X pa σ H s)(h:SqT X.K H a xs):∃its:LV,Vals xs its/\Vdr s.heap a its.toArray/\(lf xs)<=V8:=by
 rcases h with h|⟨o,its,n,B,hc,hs,J,r⟩;·obtain⟨z,its,r,p⟩:=h.ok I.hok;exact⟨its,r,p,z⟩
 ·refine⟨its.toList,r,⟨o,I.kIn a o B,hc,n,by simpa using hs⟩,?_⟩;have e:=r.length;simp only[V7]at e;omega
theorem Inv.list_inj(I:Inv X pa σ H s)(h:SqL X.K H a xs)(h':SqL X.K H a ys):xs=ys:=by
 obtain⟨its,r,⟨o,n,e,_,_,d⟩,_⟩:=I.list h;obtain⟨B,U,⟨o',n',L,_,_,J⟩,_⟩:=I.list h';rw[e]at L;cases L;rw[d]at J;injection J with Y _;have:its=B:=by simpa using congrArg Array.toList Y
 subst this;exact r.inj U
theorem Inv.tuple_inj(I:Inv X pa σ H s)(h:SqT X.K H a xs)(h':SqT X.K H a ys):xs=ys:=by
 obtain⟨its,r,⟨o,e,_,n,d⟩,_⟩:=I.tuple h;obtain⟨B,U,⟨o',L,_,n',J⟩,_⟩:=I.tuple h';rw[e]at L;cases L;rw[d]at J;injection J with Y _;have:its=B:=by simpa using congrArg Array.toList Y
 subst this;exact r.inj U
end
noncomputable abbrev Cx.wish(X:Cx)(E:VP):Cx:={ X with xe:=E}
theorem Cx.Ok.wish{X:Cx}(ok:X.Ok)(E:VP):(X.wish E).Ok:=
 ⟨ok.mod,ok.kind,ok.glob,ok.blt,ok.above,ok.inj,ok.has,ok.cab,ok.hd,ok.frames,ok.stk,ok.exf,ok.bs,ok.bsz,ok.noex,ok.exfs,ok.funs,ok.frf⟩
theorem Cx.Ok.unwish{X:Cx}{E:VP}(ok:(X.wish E).Ok):X.Ok:=
 ⟨ok.mod,ok.kind,ok.glob,ok.blt,ok.above,ok.inj,ok.has,ok.cab,ok.hd,ok.frames,ok.stk,ok.exf,ok.bs,ok.bsz,ok.noex,ok.exfs,ok.funs,ok.frf⟩
section
variable{X:Cx}{pa:LA}{σ:St}{H:Hp}{s:Vc}{E:VP}
theorem Inv.wish(I:Inv X pa σ H s)(E:VP):Inv (X.wish E) pa σ H s:=⟨I.ok.wish E,I.os,I.bare,I.base,I.loc,I.cell,I.free,I.freeC,I.pin,I.hok,I.len⟩
theorem Inv.unwish(I:Inv (X.wish E) pa σ H s):Inv X pa σ H s:=⟨I.ok.unwish,I.os,I.bare,I.base,I.loc,I.cell,I.free,I.freeC,I.pin,I.hok,I.len⟩
theorem Inv.quiet{pa:LA}{σ:St}{H:Hp}{s:Vc}(I:Inv X pa σ H s):interactive X.env=false:=by simp[interactive,I.ok.kind]
end
abbrev TG:=V->St->Hp->(St->Hp->Prop)->Prop
abbrev TGs:=LW->St->Hp->(St->Hp->Prop)->Prop
def PG(X:Cx)(B:Expr)(t:TG):Prop:=
 ∀(pa:LA) (s:Vc) (σ:St) (H:Hp) (v:V) (u:Vb) (Q:St->Hp->Prop),Inv X pa σ H s->RelV v u->t v σ H Q ->
  Vg (Vl X.prog X.w) X.A (assign B X.env u) (λ_ s'=>∃ J H',Inv X pa J H' s'/\Q J H') X.xe s
def PGs(X:Cx)(J:LX)(t:TGs):Prop:=
 ∀(pa:LA) (s:Vc) (σ:St) (H:Hp) (vs:LW) (us:LV) (Q:St->Hp->Prop),Inv X pa σ H s->Vals vs us->t vs σ H Q ->
  Vg (Vl X.prog X.w) X.A (assignInOrder ((Vbt J X.env).map (·.2)) us) (λ_ s'=>∃ B H',Inv X pa B H' s'/\Q B H') X.xe s
abbrev Yai:=V->V->V->Hp->(Hp->Prop)->Prop
def Yaj(X:Cx)(t:Yai):Prop:=
 ∀(pa:LA) (s:Vc) (σ:St) (H:Hp) (o i v:V) (J B u:Vb) (Q:Hp->Prop),Inv X pa σ H s->RelV o J->RelV i B->RelV v u->t o i v H Q ->
  Vg (Vl X.prog X.w) X.A (setItem J B u) (λ_ s'=>∃H',Inv X pa σ H' s'/\Q H') X.xe s
section
variable{X:Cx}{pos:Pos}
noncomputable def Xyo(i:Nat):TG:=λv σ H Q=>Q (σ.set i (yz v)) H
theorem Xzs{i:Nat}{x:Str}(hN:X.N.Nodup)(hi:X.N[i]?=yz x)(L:Loc X.env.scope x)(B:X.fn x=yx\/X.env.scope.names.lookup x=yz .local:=by first|exact .inl rfl|exact .inr rfl|assumption):PG X (.Name x pos) (Xyo i):=by intro pa s σ H v u Q I r h;exact Vhj (Xbv I hN hi L r (λs' J=>⟨_,H,J,h⟩) B)
noncomputable def X3e:TGs:=λvs σ H Q=>vs=[]/\Q σ H
noncomputable def Xyp(t:TG)(u:TGs):TGs:=λvs σ H Q=>∃v r,vs=v::r/\t v σ H λB H'=>u r B H' Q
theorem Xzt:PGs X [] X3e:=by intro pa s σ H vs us Q I r h;obtain⟨e,h⟩:=h;subst e;cases r;exact assignInOrder_nil ⟨σ,H,I,h⟩
theorem Xu7{e:Expr}{es:LX}{t:TG}{u:TGs}(h1:PG X e t)(h2:PGs X es u)
  (hs:(Vbt (e::es) X.env).map (·.2)=assign e X.env::(Vbt es X.env).map (·.2):=by rfl):PGs X (e::es) (Xyp t u):=by
 intro pa s σ H vs us Q I r h;obtain⟨v,L,J,h⟩:=h;subst J;cases r with
 |cons r B=>rw[hs];refine Vg9 (thn (h1 pa s σ H _ _ _ I r h) λ_ s1 ⟨σ1,H1,I1,q1⟩=>?_);exact h2 pa s1 σ1 H1 _ _ Q I1 B q1
noncomputable def Yak(K:Vj)(n:Nat)(t:TGs):TG:=λv σ H Q=>∃a xs,v=.ref a/\SqT K H a xs/\(lf xs)=n/\t xs σ H Q
theorem X3f{es:LX}{k:Nat}{t:TGs}{n:Nat}(hc:X.calm=yx)(h:PGs X es t)
  (hn:(Vbt es X.env).length=n:=by rfl) (B:(Vbt es X.env).findIdx? (·.1)=none:=by rfl):PG X (.Tuple es k pos) (Yak X.K n t):=by
 intro pa s σ H v u Q I r hw;obtain⟨a,xs,e1,hq,hl,hw⟩:=hw;subst e1;cases r;obtain⟨its,J,L,hz⟩:=I.tuple hq;refine assign_Tuple_tuple (I.ok.hd hc) L (by simp[hn,<-hl,J.length]) B λh' Y=>?_;have U:Inv X pa σ H {s with heap:=h' }:=I.kept (t':=s.toks) λb o e=>Y b o (Uc (Vw e)) e;exact h pa _ σ H xs _ Q U (by simpa using J) hw
end
structure It where
 go:Nat->Hp->Prop
 yld:Nat->Hp->V->Hp->Prop
 stop:Nat->Hp->Prop
def Xa6(X:Cx)(pa:LA)(H:Hp)(b:Addr):Prop:=
 H b=yy/\b≠X.env.locals/\b ∉ X.fs/\(b∈X.ex\/X.s₀.heap.objs.size<=b)/\(∀x c,X.env.cells.lookup x=yz c->c≠b)/\∀p∈X.pn++pa,p.1≠b
theorem Inv.fpOk{X:Cx}{pa:LA}{σ:St}{H H':Hp}{s:Vc}{b:Addr}(I:Inv X pa σ H s)(B:s.heap.objs.size<=b)(hn:H' b=yy):Xa6 X pa H' b:=by
 refine⟨hn,Vc3 (Ub I.lt B),I.nofs B,.inr (Uv I.sz B),λx c e z=>?_,λp hp z=>?_⟩;·obtain⟨v,q⟩:=I.cell x c e;exact aB0 (Ub q.lt (by rw[z];exact B)) (Vds _)
 ·exact aB0 (Ub (Vw (I.pin p hp).1) (by rw[z];exact B)) (Vds _)
structure Turn(P:V4)(w:Ua)(K:Vj)(tg:Expr)(J:It)(fp:LR)(it:Addr)(tn:Nat->Heap->Prop):Prop where
 mem:it∈fp
 obj:∀i h,tn i h->∀b∈fp,∃o,h.get? b=yz o/\∀v,o.data≠.cell v
 keep:∀i h h',tn i h->(∀b∈fp,∀o,h.get? b=yz o->h'.get? b=yz o)->tn i h'
 item:∀(X:Cx),X.prog=P->X.w=w->X.K=K->X.calm=yx->∀(i:Nat) (pa:LA) (s:Vc) (σ:St) (H:Hp) (E:VP),Inv X pa σ H s->(∀b∈fp,Xa6 X pa H b)->tn i s.heap->J.go i H ->
  Vg (Vl P w) X.A (Vei (.ref it)) (λr s1=>∃u,r=yz u /\
   Vg (Vl P w) X.A (Vej tg (.ref it) u) (λ_ s2=>∃x H',Inv X pa σ H' s2/\RelV x u/\J.yld i H x H'/\tn (i+1) s2.heap/\∀b∈fp,H' b=yy) E s1) E s
 done:∀(X:Cx),X.prog=P->X.w=w->X.K=K->X.calm=yx->∀(i:Nat) (pa:LA) (s:Vc) (σ:St) (H:Hp) (E:VP),Inv X pa σ H s->(∀b∈fp,Xa6 X pa H b)->tn i s.heap->J.stop i H ->
  Vg (Vl P w) X.A (Vei (.ref it)) (λr s1=>r=yy/\Inv X pa σ H s1) E s
 self:∀(A:Uu) (i:Nat) (s:Vc) (Q:VP) (E:VP),tn i s.heap->Q (.ref it) s->Vg (Vl P w) A (pyIter (.ref it)) Q E s
def PIE(X:Cx)(pa:LA)(σ:St)(tg:Expr)(R:It->Hp->Prop)(B:Vb)(U:Vc):Prop:=
 ∃(it:Addr) (fp:LR) (L:Nat->Heap->Prop) (J:It) (H':Hp),B=.ref it/\Inv X pa σ H' U/\Turn X.prog X.w X.K tg J fp it L/\L 0 U.heap/\(∀b∈fp,Xa6 X pa H' b)/\R J H'
theorem Xp6{M:Model}{A:Uu}{E:VP}{s:Vc}{tg:Expr}{it:Addr}{u:Vb}{o:Obj}{n:String}{vs:AV}{Q:Unit->Vc->Prop}(J:s.heap.get? it=yz o)(hc:o.cls=.type n)(hd:o.data=.fields vs)
  (hn:["enumerate","zip","dict_itemiterator","dict_reverseitemiterator","odict_iterator","itertools.zip_longest","itertools.pairwise"].contains n=yw) (B:Q () s):Vg M A (Vej tg (.ref it) u) Q E s:=by
 unfold Vej;cases tg<;>first
  |exact Vd B
  | (cases u<;>first
    |exact Vd B
    | (refine Va (Vfp J ?_)
       rw[hc,hd];show Vg M A (if (["enumerate","zip","dict_itemiterator","dict_reverseitemiterator","odict_iterator","itertools.zip_longest","itertools.pairwise"].contains n&&vs[0]?==yz (Vab _))=yx then _ else _) Q E s;rw[iN0 (by intro h;rw[hn,Vbl]at h;cases h)]
       exact Vd B))
noncomputable def Itl(K:Vj)(a:Addr):It:=
 ⟨λi H=>∃xs x,SqL K H a xs/\xs[i]?=yz x,λi H x H'=>H'=H/\∀xs,SqL K H a xs->xs[i]?=yz x,λi H=>∃xs,SqL K H a xs/\(lf xs)<=i⟩
noncomputable def Itt(K:Vj)(a:Addr):It:=
 ⟨λi H=>∃xs x,SqT K H a xs/\xs[i]?=yz x,λi H x H'=>H'=H/\∀xs,SqT K H a xs->xs[i]?=yz x,λi H=>∃xs,SqT K H a xs/\(lf xs)<=i⟩
noncomputable def Itr(lo:Int)(n:Nat):It:=⟨λi _=>i<n,λi H x H'=>H'=H/\x=.int (lo+i),λi _=>n<=i⟩
theorem Xr8{P:V4}{w:Ua}{K:Vj}{tg:Expr}(a it:Addr):Turn P w K tg (Itl K a) [it] it (λi h=>h.IsListIter it a i) where
 mem:=by simp
 obj:=λi h st b B=>by
  have e:b=it:=by simpa using B
  subst e;obtain⟨o,e,c,d⟩:=st;exact⟨o,e,λv z=>by rw[d]at z;cases z⟩
 keep:=λi h h' st k=>st.at λo e=>k it (by simp) o e
 item:=by intro X hP hw hK hc i pa s σ H E I L st hg;subst hP hw hK;obtain⟨xs,x,U,hx⟩:=hg;obtain⟨its,rv,p,hz⟩:=I.list U;obtain⟨u,hu,ru⟩:=rv.get hx;obtain⟨f0,f1,f2,f3,f4,Y⟩:=L it (by simp);refine wpAny_pyNext_list_item st p.isList (x:=u) (by simpa using hu) λh' J sb=>?_;have I1:Inv X pa σ H {s with heap:=h' }:=I.turned (t':=s.toks) (λb o B e=>(sb.2 b B).trans e) f0 f1 f3 f4 Y;obtain⟨o,e,c,d⟩:=id J;exact⟨u,rfl,Xp6 (s:={s with heap:=h' }) e c d (by decide) ⟨x,H,I1,ru,⟨rfl,λys hy=>by rw[I.list_inj hy U];exact hx⟩,J,λb B=>(L b B).1⟩⟩
 done:=by intro X hP hw hK hc i pa s σ H E I L st hg;subst hP hw hK;obtain⟨xs,U,hx⟩:=hg;obtain⟨its,rv,p,hz⟩:=I.list U;obtain⟨f0,f1,f2,f3,f4,Y⟩:=L it (by simp);have hl:=rv.length;exact wpAny_pyNext_list_end (I.ok.hd hc) st p.isList (by simp;omega) λh' eb=>⟨rfl,I.turned (t':=s.toks) (λb o B e=>eb b o B e) f0 f1 f3 f4 Y⟩
 self:=λ_ _ _ _ _ st h=>wpAny_pyIter_listiter st h
theorem Xp7{P:V4}{w:Ua}{K:Vj}{tg:Expr}(a it:Addr):Turn P w K tg (Itt K a) [it] it (λi h=>h.IsTupleIter it a i) where
 mem:=by simp
 obj:=λi h st b B=>by
  have e:b=it:=by simpa using B
  subst e;obtain⟨o,e,c,d⟩:=st;exact⟨o,e,λv z=>by rw[d]at z;cases z⟩
 keep:=λi h h' st k=>st.at λo e=>k it (by simp) o e
 item:=by intro X hP hw hK hc i pa s σ H E I L st hg;subst hP hw hK;obtain⟨xs,x,U,hx⟩:=hg;obtain⟨its,rv,p,hz⟩:=I.tuple U;obtain⟨u,hu,ru⟩:=rv.get hx;obtain⟨f0,f1,f2,f3,f4,Y⟩:=L it (by simp);refine wpAny_pyNext_tuple_item st (show s.heap.IsTuple a its.toArray from p) (x:=u) (by simpa using hu) λh' J sb=>?_;have I1:Inv X pa σ H {s with heap:=h' }:=I.turned (t':=s.toks) (λb o B e=>(sb.2 b B).trans e) f0 f1 f3 f4 Y;obtain⟨o,e,c,d⟩:=id J;exact⟨u,rfl,Xp6 (s:={s with heap:=h' }) e c d (by decide) ⟨x,H,I1,ru,⟨rfl,λys hy=>by rw[I.tuple_inj hy U];exact hx⟩,J,λb B=>(L b B).1⟩⟩
 done:=by intro X hP hw hK hc i pa s σ H E I L st hg;subst hP hw hK;obtain⟨xs,U,hx⟩:=hg;obtain⟨its,rv,p,hz⟩:=I.tuple U;obtain⟨f0,f1,f2,f3,f4,Y⟩:=L it (by simp);have hl:=rv.length;exact wpAny_pyNext_tuple_end (I.ok.hd hc) st (show s.heap.IsTuple a its.toArray from p) (by simp;omega) λh' eb=>⟨rfl,I.turned (t':=s.toks) (λb o B e=>eb b o B e) f0 f1 f3 f4 Y⟩
 self:=λ_ _ _ _ _ st h=>wpAny_pyIter_tupleiter st h
theorem Xp8{P:V4}{w:Ua}{K:Vj}{tg:Expr}(it:Addr)(lo:Int)(n:Nat):Turn P w K tg (Itr lo n) [it] it (λi h=>IsRangeIter h it (lo+(i:Nat)*1) ((n:Int)-(i:Nat)) 1) where
 mem:=by simp
 obj:=λi h st b B=>by
  have e:b=it:=by simpa using B
  subst e;exact⟨_,st,λv z=>by have z':Data.fields _=Data.cell v:=z;cases z'⟩
 keep:=λi h h' st k=>k it (by simp) _ st
 item:=by intro X hP hw Y hc i pa s σ H E I L st hg;subst hP hw Y;obtain⟨f0,f1,f2,f3,f4,U⟩:=L it (by simp);have W:=Walks.range (prog:=X.prog) (w:=X.w) (I.ok.hd hc) it lo 1 n;refine W.item i s _ _ hg st λv h' tk hv J kk=>?_;obtain⟨t,rfl⟩:=hv;have I1:Inv X pa σ H {s with heap:=h',toks:=tk}:=I.turned (λb o B e=>kk b o (by simpa using B) e) f0 f1 f3 f4 U;refine⟨_,rfl,Xp6 (s:={s with heap:=h',toks:=tk}) (n:="range_iterator") J rfl rfl (by decide) ⟨.int (lo+i),H,I1,⟨t,?_⟩,⟨rfl,rfl⟩,J,λb B=>(L b B).1⟩⟩;rw[Int.mul_one]
 done:=by intro X hP hw Y hc i pa s σ H E I L st hg;subst hP hw Y;obtain⟨f0,f1,f2,f3,f4,U⟩:=L it (by simp);exact wpAny_pyNext_range_end (I.ok.hd hc) st (by have:n<=i:=hg;omega) λh' eb=>⟨rfl,I.turned (t':=s.toks) (λb o B e=>eb b o B e) f0 f1 f3 f4 U⟩
 self:=λ_ _ _ _ _ st h=>wpAny_pyIter_rangeiter st h
end L2
namespace L2
open PySem PySem.Spec PyProof.Rows
section
variable{X:Cx}{tg:Expr}
theorem Xu8{pa:LA}{σ:St}{H:Hp}{s:Vc}{R:It->Hp->Prop}{E:VP}{lo hi:Int}{t u v:Tok}{tk:Nat}(I:Inv X pa σ H s)(h1:-(2^62)<=lo)(h2:lo<2^62)(L:-(2^62)<=hi)(J:hi<2^62)
  (q:R (Itr lo (hi-lo).toNat) H):Vg (Vl X.prog X.w) X.A (pyIter (.ref s.heap.objs.size)) (PIE X pa σ tg R) E {s with heap:=s.heap.push {cls:=.type "range",data:=.fields #[.int lo t,.int hi u,.int 1 v]},toks:=tk}:=by
 refine wpAny_pyIter_range (IsRange.new ..) (small_one h1 h2 L J) ?_;have B:Inv X pa σ H {s with heap:=s.heap.push {cls:=.type "range",data:=.fields #[.int lo t,.int hi u,.int 1 v]},toks:=tk}:=I.kept λb o e=>Vf _ e
 refine⟨(s.heap.push {cls:=.type "range",data:=.fields #[.int lo t,.int hi u,.int 1 v]}).objs.size,[(s.heap.push {cls:=.type "range",data:=.fields #[.int lo t,.int hi u,.int 1 v]}).objs.size],_,_,H,rfl,
  B.kept (t':=tk) λb o e=>Vf _ e,Xp8 _ lo (hi-lo).toNat,?_,λb Y=>?_,q⟩
 ·have e1:lo+((0:Nat):Int)*1=lo:=by simp
  have U:(((hi-lo).toNat:Nat):Int)-((0:Nat):Int)=Vde lo hi 1:=by rw[rangeSize_one];split<;>omega
  show IsRangeIter _ _ (lo+((0:Nat):Int)*1) ((((hi-lo).toNat:Nat):Int)-((0:Nat):Int)) 1;rw[e1,U];exact Vt _ rfl
 ·have e:b=(s.heap.push {cls:=.type "range",data:=.fields #[.int lo t,.int hi u,.int 1 v]}).objs.size:=by simpa using Y
  subst e;exact B.fpOk (Vm _) (B.hok.fresh (Vm _))
noncomputable def Xbe(fp:LR)(h:Heap):LA:=fp.filterMap λb=>(h.get? b).map λo=>(b,o)
theorem Xcf{fp:LR}{h:Heap}{b:Addr}{o:Obj}(B:b∈fp)(e:h.get? b=yz o):(b,o)∈Xbe fp h:=Vek.mpr ⟨b,B,by rw[e];rfl⟩
theorem Xr9{fp:LR}{h:Heap}{p:Addr×Obj}(hp:p∈Xbe fp h):p.1∈fp/\h.get? p.1=yz p.2:=by
 obtain⟨b,J,e⟩:=Vek.mp hp;cases q:h.get? b with
 |none=>rw[q]at e;cases e|some o=>rw[q]at e;have B:(b,o)=p:=Ud e;subst B;exact⟨J,q⟩
theorem Inv.pinned{pa:LA}{σ:St}{H:Hp}{s:Vc}{fp:LR}(I:Inv X pa σ H s)(Y:∀b∈fp,Xa6 X pa H b)(L:∀b∈fp,∃o,s.heap.get? b=yz o/\∀v,o.data≠.cell v):Inv X (pa++Xbe fp s.heap) σ H s:=
 I.pins_of λp hp=>(Uq.mp hp).elim (λz=>I.pin p (Vak _ z)) λz=>by obtain⟨B,e⟩:=Xr9 z;obtain⟨f0,f1,U,_⟩:=Y p.1 B;obtain⟨o,J,d⟩:=L p.1 B;rw[e]at J;cases J;exact⟨e,f0,f1,U,d⟩
theorem Inv.unpinned{pa pl:LA}{σ:St}{H:Hp}{s:Vc}(I:Inv X (pa++pl) σ H s):Inv X pa σ H s:=I.pins_of λp hp=>I.pin p (Vak _ (Vc2 _ hp))
end
end L2
namespace L2
open PySem PySem.Spec PyProof.Rows
abbrev R2:=V->V->Hp->VK->Prop
def OpR(X:Cx)(f:Vb->Vb->Sem Vb)(r:R2):Prop:=
 ∀(pa:LA) (s:Vc) (σ:St) (H:Hp) (x y:V) (v u:Vb) (Q:VK),Inv X pa σ H s->RelV x v->RelV y u->r x y H Q ->
  Vg (Vl X.prog X.w) X.A (f v u) (EP X pa σ Q) X.xe s
def Xfe(X:Cx)(f:Vb)(r:LW->Hp->VK->Prop):Prop:=
 ∀(pa:LA) (s:Vc) (σ:St) (H:Hp) (xs:LW) (us:LV) (Q:VK),Inv X pa σ H s->Vals xs us->r xs H Q ->
  Vg (Vl X.prog X.w) X.A (call f us) (EP X pa σ Q) X.xe s
def Yal(X:Cx)(r:V->Hp->(Bool->Hp->Prop)->Prop):Prop:=
 ∀(pa:LA) (s:Vc) (σ:St) (H:Hp) (x:V) (v:Vb) (Q:Bool->Hp->Prop),Inv X pa σ H s->RelV x v->r x H Q ->
  Vg (Vl X.prog X.w) X.A (truthy v) (TP X pa σ Q) X.xe s
section
variable{X:Cx}{a b:Expr}
def CMul(i j:Int):Prop:=(-(2^64)<i/\i<2^64)\/(-(2^64)<j/\j<2^64)
theorem CMul.ok{i j:Int}(h:CMul i j):IntMulOk i j:=by
 rcases h with⟨h1,h2⟩|⟨h1,h2⟩;·exact .of_left (intBits_le_64 h1 h2)
 ·exact .of_right (intBits_le_64 h1 h2)
noncomputable def X8b:HO->Bool
 |.lst _=>yx|.ins _ _ _=>yx|_=>yw
theorem Xb7{pa:LA}{s:Vc}{σ:St}{H:Hp}{a:Addr}{o:HO}(I:Inv X pa σ H s)(h:H a=yz o)(p:X8b o=yx):∃ob,s.heap.get? a=yz ob/\ob.cls≠.type "tuple":=by
 cases o with
 |lst xs=>obtain⟨_,its,n,_,e⟩:(lf xs)<=V8/\∃(its:LV) (n:Nat),Vals xs its/\s.heap.get? a=yz {cls:=.type "list",data:=.seq its.toArray n}:=I.hok a _ h;exact⟨_,e,(by show Vca "list" ≠ .type "tuple";decide+kernel)⟩|ins C dx fs=>have x:=I.hok a _ h;obtain⟨_,_,_,e,_⟩:=x;exact⟨_,e,(by show Ur C≠.type "tuple";exact λz=>by cases z)⟩|_=>exact aB0 (show yw=yx from p) Us
def X3g(K:Vj)(x:V)(H:Hp)(k:Bool):Prop:=
 match x with
 |.non=>k=yw|.bl b=>k=b|.int i=>k=(i != 0)|.str y=>y.length<=V8/\k=((y.length:Int) != 0)|.byt y=>y.size<=V8/\k=((y.size:Int) != 0)|.ref p=>(∃xs,SqL K H p xs/\k = !xs.isEmpty)\/(∃xs,SqT K H p xs/\k = !xs.isEmpty)\/∃kvs,H p=yz (.dK kvs)/\k = !kvs.isEmpty|_=>False
theorem Xp9{κ:Type}{kvs:List (κ×V)}{vs:List (κ×Vb)}(r:KV kvs vs):(!vs.isEmpty) = !kvs.isEmpty:=by cases r<;>rfl
theorem Xhb{xs:LW}{its:LV}(r:Vals xs its):(!its.toArray.isEmpty) = !xs.isEmpty:=by cases r<;>simp
theorem Xei:(V8:Nat)<2^63:=by rw[Va4];decide
theorem X3h:Yal X (λx H Q=>∃k,X3g X.K x H k/\Q k H):=by
 intro pa s σ H x v Q I L h;obtain⟨k,e,q⟩:=h;have hl:=Xei;have hs:V8=16777216:=Va4;cases x with
 |non=>cases L;have B:k=false:=e;subst B;exact truthy_none ⟨H,I,q⟩|bl b=>cases L;have B:k=b:=e;subst B;exact Vb5 ⟨H,I,q⟩|int i=>obtain⟨t,rfl⟩:=L;have B:k=(i != 0):=e;subst B;exact PySem.P.truthy_int ⟨H,I,q⟩|str y=>obtain⟨t,rfl⟩:=L;obtain⟨hy,B⟩:y.length<=V8/\k=((y.length:Int) != 0):=e;subst B;exact PySem.P.truthy_str (by omega) ⟨H,I.tok _,q⟩|byt y=>obtain⟨t,rfl⟩:=L;obtain⟨hy,B⟩:y.size<=V8/\k=((y.size:Int) != 0):=e;subst B;exact PySem.W.truthy_bytes (by omega) ⟨H,I.tok _,q⟩|ref p=>
  cases L;have B:(∃xs,SqL X.K H p xs/\k = !xs.isEmpty)\/(∃xs,SqT X.K H p xs/\k = !xs.isEmpty)\/∃kvs,H p=yz (.dK kvs)/\k = !kvs.isEmpty:=e;rcases B with⟨xs,hx,B⟩|⟨xs,hx,B⟩|⟨kvs,hx,B⟩;·subst B;obtain⟨its,r,pl,hz⟩:=I.list hx;have J:=r.length;exact wpAny_truthy_list pl.isList (by simp only[Vr];omega) ⟨H,I.tok _,by rw[Xhb r];exact q⟩
  ·subst B;obtain⟨its,r,pl,hz⟩:=I.tuple hx;have J:=r.length;exact truthy_tuple pl (by simp only[Vr];omega) ⟨H,I.tok _,by rw[Xhb r];exact q⟩
  subst B;obtain⟨hz,hS,vs,r,m⟩:(lf kvs)<=V8/\(p==Vcu)=yw/\∃vs,KV kvs vs/\s.heap.DictOf (Xic X.prog X.w) p vs:=I.hok p _ hx;have J:(lf kvs)=lf vs:=Paired.length r;exact wpAny_truthy_dict hS m (by omega) ⟨H,I.tok _,by rw[Xp9 r];exact q⟩|_=>exact(show False from e).elim
theorem Xqa{x:V}{us:LV}(r:Vals [x] us):∃u,us=[u]/\RelV x u:=by
 cases r with
 |cons J B=>cases B;exact⟨_,rfl,J⟩
theorem Xyq{x y:V}{us:LV}(r:Vals [x,y] us):∃u B,us=[u,B]/\RelV x u/\RelV y B:=by
 cases r with
 |cons U J=>
  cases J with
  |cons Y L=>cases L;exact⟨_,_,rfl,U,Y⟩
theorem Xsa(hc:X.calm=yx):Xfe X (.builtin "max") (λxs H Q=>∃i j,xs=[.int i,.int j]/\Q (.int (if j>i then j else i)) H):=by
 intro pa s σ H xs us Q I r h;obtain⟨i,j,rfl,q⟩:=h;obtain⟨u,L,rfl,⟨t,rfl⟩,⟨J,rfl⟩⟩:=Xyq r;refine max_two_ints (I.ok.hd hc) λh' tk k=>⟨_,H,I.kept k,?_,q⟩;by_cases B:j>i;·rw[iP0 B,iP0 B];exact⟨_,rfl⟩
 ·rw[iN0 B,iN0 B];exact⟨_,rfl⟩
theorem Xsb(hc:X.calm=yx):Xfe X (.builtin "min") (λxs H Q=>∃i j,xs=[.int i,.int j]/\Q (.int (if j<i then j else i)) H):=by
 intro pa s σ H xs us Q I r h;obtain⟨i,j,rfl,q⟩:=h;obtain⟨u,L,rfl,⟨t,rfl⟩,⟨J,rfl⟩⟩:=Xyq r;refine min_two_ints (I.ok.hd hc) λh' tk k=>⟨_,H,I.kept k,?_,q⟩;by_cases B:j<i;·rw[iP0 B,iP0 B];exact⟨_,rfl⟩
 ·rw[iN0 B,iN0 B];exact⟨_,rfl⟩
end
end L2
namespace L2
open PySem PySem.Spec PyProof.Rows
end L2
namespace L2
open PySem PySem.Spec PyProof.Rows
structure Room(k:Nat)(A:Uu):Prop where
 gd:A.guards=yz []
 hd:A.handled=yy
 dp:A.depth+3*k+5<recursionLimit
 un:A.units+16*k+200<Vcl
abbrev Sp:=LW->Hp->VK->XK->Prop
abbrev CXT:=List Env->Hp->Vc->XK->Vb->Vc->Prop
structure Env0(P:V4)(w:Ua)(K:Vj)(mg:Str->OV)(base:Heap)(A:Uu)(outer:List Env)(s:Vc)(H:Hp):Prop where
 frames:A.frames=yz outer
 mod:Mod K mg base
 bs:∀b o,base.get? b=yz o->s.heap.get? b=yz o/\H b=yy
 bsz:base.objs.size<=s.heap.objs.size
 funs:s.heap.FunFrames base outer
 frf:∀b∈frs outer,H b=yy
 hok:HOk P w H s.heap
 bare:AllBare s.gens
def CE(outer:List Env)(P:V4)(w:Ua)(H:Hp)(s:Vc)(Q:VK)(u:Vb)(s':Vc):Prop:=
 ∃v H',s'.os=s.os/\AllBare s'.gens/\Un (frs outer) [] H H' s.heap s'.heap/\HOk P w H' s'.heap/\RelV v u/\Q v H'
def CR(CX:CXT)(outer:List Env)(P:V4)(w:Ua)(H:Hp)(s:Vc)(Q:VK)(E:XK)(r:Result)(s':Vc):Prop:=
 match r with
 |.ok (.ret u)=>CE outer P w H s Q u s'|.ok _=>False|.error e=>CX outer H s E e s'
structure FnOk(P:V4)(w:Ua)(K:Vj)(mg:Str->OV)(base:Heap)(CX:CXT)(k:Nat)(f:Addr)(fd:Vdj)(ps:LS)(sp:Sp):Prop where
 len:∀vs H Q E,sp vs H Q E->lf vs=lf ps
 run:∀(A:Uu) (outer:List Env) (s:Vc) (H:Hp) (args:Args) (us:LV) (vs:LW) (Q:VK) (E:XK),Room k A->Env0 P w K mg base A outer s H->BindsTo s fd args (ps.zip us)->Vals vs us->sp vs H Q E ->
  Vcy (Vl P w) A (.call (.ref f) args) (CR CX outer P w H s Q E) s
section
variable{X:Cx}{pa:LA}{σ:St}{H:Hp}{s s':Vc}
theorem Inv.env0(I:Inv X pa σ H s):Env0 X.prog X.w X.K X.mg X.base X.A X.stack s H:=
 ⟨I.ok.frames,I.ok.mod,I.bs,Uv I.ok.bsz I.sz,I.stack,I.stkFree,I.hok,I.bare⟩
theorem Inv.after{Q:VK}{u:Vb}(I:Inv X pa σ H s)(h:CE X.stack X.prog X.w H s Q u s'):EP X pa σ Q u s':=by obtain⟨v,H',os,bare,un,hok,r,q⟩:=h;obtain⟨J,g,d,t,B⟩:=s';obtain rfl:B=s.os:=os;exact⟨v,H',I.call (h':=J) (g':=g) (d':=d) (t':=t) (ch:=[]) un hok bare (λb z=>aB0 z (by simp)),r,q⟩
end
def Binds(K:Vj)(fd:Vdj)(ps:LS)(ds:LV):Prop:=
 ∀(s:Vc) (us:LV),K.In s.heap->(us++ds).length=lf ps->BindsTo s fd ⟨us,[]⟩ (ps.zip (us++ds))
theorem Binds.all{K:Vj}{fd:Vdj}{ps:LS}(h:∀us:LV,lf us=lf ps->bindArgs fd ⟨us,[]⟩=pure (ps.zip us)):Binds K fd ps []:=λs us _ B=>by rw[V3]at B ⊢;exact .of_eq (h us B)
structure FnScope(N P:LS)(sc:U7):Prop where
 kind:sc.kind=.function
 co:sc.isCoroutine=yw
 gen:sc.isGenerator=yw
 nd:N.Nodup
 pre:N.take P.length=P
 par:∀x∈P,sc.names.lookup x=yz .local\/sc.names.lookup x=yz .cell
 nofree:∀y∈sc.names,y.2≠.free
theorem Xjv{Ver:Str->Option Veo}{x:Str}:∀ {binds:List (Str×Vb)} {m:Str->OV},(∀v,(x,v) ∉ binds)->bindL Ver binds m x=m x
 |[],_,_=>rfl| (n,v)::r,m,h=>by
  unfold bindL;rw[Xjv λw hw=>h w (V5 _ hw)];split
  ·have:x≠n:=by rintro rfl;exact h v Vz
   simp[this]
  rfl
theorem Xjw{Ver:Str->Option Veo}{x:Str}:∀ {binds:List (Str×Vb)} {m:Str->OV},(∀v,(x,v) ∉ binds)->bindC Ver binds m x=m x
 |[],_,_=>rfl| (n,v)::r,m,h=>by
  unfold bindC;rw[Xjw λw hw=>h w (V5 _ hw)];split;·rfl
  ·have:x≠n:=by rintro rfl;exact h v Vz
   simp[this]
theorem Xjx{Ver:Str->Option Veo}{x:Str}{v:Vb}:∀ {P:LS} {vs:LV} {i:Nat} {m:Str->OV},P.Nodup->P[i]?=yz x->vs[i]?=yz v->Ver x=yz .local ->
  bindL Ver (P.zip vs) m x=yz v
 |[],_,_,_,_,h,_,_=>by simp at h|_::_,[],_,_,_,_,h,_=>by simp at h|p::P,w::vs,0,m,nd,h1,h2,hk=>by simp at h1 h2;subst h1;subst h2;show bindL Ver ((p,w)::P.zip vs) m p=_;unfold bindL;rw[Xjv λv B=>(Vcm.mp nd).1 (List.of_mem_zip B).1,iP0 hk];simp|p::P,w::vs,i+1,m,nd,h1,h2,hk=>by show bindL Ver ((p,w)::P.zip vs) m x=_;unfold bindL;exact Xjx (i:=i) (Vcm.mp nd).2 (by simpa using h1) (by simpa using h2) hk
theorem Xjy{Ver:Str->Option Veo}{x:Str}{v:Vb}:∀ {P:LS} {vs:LV} {i:Nat} {m:Str->OV},P.Nodup->P[i]?=yz x->vs[i]?=yz v->Ver x≠yz .local ->
  bindC Ver (P.zip vs) m x=yz v
 |[],_,_,_,_,h,_,_=>by simp at h|_::_,[],_,_,_,_,h,_=>by simp at h|p::P,w::vs,0,m,nd,h1,h2,hk=>by simp at h1 h2;subst h1;subst h2;show bindC Ver ((p,w)::P.zip vs) m p=_;unfold bindC;rw[Xjw λv B=>(Vcm.mp nd).1 (List.of_mem_zip B).1,iN0 hk];simp|p::P,w::vs,i+1,m,nd,h1,h2,hk=>by show bindC Ver ((p,w)::P.zip vs) m x=_;unfold bindC;exact Xjy (i:=i) (Vcm.mp nd).2 (by simpa using h1) (by simpa using h2) hk
noncomputable def start(N:LS)(vs:LW):St:=vs.map yz++Vu (N.length-lf vs) yy
noncomputable def Xqb(CX:CXT)(P:V4)(w:Ua)(K:Vj)(mg:Str->OV)(base:Heap)(N:LS)(qual:Str)(scope:U7)(f:Addr)(J:Vb)(A:Uu)(outer:List Env)(s:Vc)(H:Hp)(E:XK):Cx where
 prog:=P
 w:=w
 K:=K
 mg:=mg
 base:=base
 A:=A.deeper (envOfC qual scope s.heap.objs.size f J)
 N:=N
 s₀:=s
 H₀:=H
 env:=envOfC qual scope s.heap.objs.size f J
 outer:=outer
 stack:=envOfC qual scope s.heap.objs.size f J::outer
 ex:=[]
 calm:=yx
 fn:=λ_=>yx
 pn:=[]
 xe:=λe s'=>Vg (Vl P w) (A.deeper (envOfC qual scope s.heap.objs.size f J)) (leaving (envOfC qual scope s.heap.objs.size f J) e) (λ_ B=>CX outer H s E e B) (λL B=>CX outer H s E L B) s'
theorem Xk9{sc:U7}{n:Nat}{x:Str}(h:sc.names.lookup x=yz .cell):∃c,(Vb6 n sc.names []).lookup x=yz c:=by have q:=Vf7 sc.names n [] (.inl h);exact Vc4.mp q
theorem Xsc{CX:CXT}{P:V4}{w:Ua}{K:Vj}{mg:Str->OV}{base:Heap}{N ps:LS}{qual:Str}{scope:U7}{f:Addr}{Y:Vb}{A:Uu}{outer:List Env}{s s1:Vc}{H:Hp}{E:XK}{us:LV}{vs:LW}
  (S:FnScope N ps scope) (hd:A.handled=yy) (B:Env0 P w K mg base A outer s H) (hl:(lf vs)=lf ps) (r:Vals vs us)
  (x:InCallC s s.heap.objs.size (bindL (envOfC qual scope s.heap.objs.size f Y).kindOf (ps.zip us) λ_=>yy) (Vb6 (s.heap.objs.size+1) scope.names []) (bindC (envOfC qual scope s.heap.objs.size f Y).kindOf (ps.zip us) λ_=>yy) s1):
  Inv (Xqb CX P w K mg base N qual scope f Y A outer s H E) [] (start N vs) H s1:=by
 have aa:(lf ps)<=N.length:=by have:=congrArg Vah S.pre;rw[Um]at this;omega
 obtain⟨h1,tk,rfl,hk⟩:=x.done;have L:∀b:Addr,b ∉ (Xqb CX P w K mg base N qual scope f Y A outer s H E).ex:=λb z=>aB0 (show b∈([]:LR) from z) (by simp)
 refine⟨⟨B.mod,S.kind,rfl,rfl,Vm _,λy z c h1 h2=>?_,λy J=>?_,λy c _ h=>?_,λ_=>hd,Around.frames_deeper B.frames,.inr ⟨rfl,rfl⟩,λb z=>aB0 z (L b),B.bs,B.bsz,λb _ _=>L b,λb z=>aB0 z (L b),B.funs,B.frf⟩,
  rfl,B.bare,Un.kept hk,⟨_,x.toInCall.ns,λi y v h1 h2 h3=>?_⟩,λy c h=>⟨_,x.cell y c h⟩,B.hok.fresh (Vm _),λy c h=>?_,λp hp=>aB0 (show p∈([]:LA) from hp) (by simp),B.hok.kept hk,?_⟩
 ·exact name_of_addr x.apart (Vco h1) (Vco h2)
 ·have J:scope.names.lookup y=yz .cell\/scope.names.lookup y=yz .free:=J;rcases J with J|J;·exact Xk9 J
  ·exact aB0 rfl (S.nofree _ (Vco J))
 ·exact Vc1 (x.above y c (Vco h))
 ·have hi:i<lf vs:=by
   unfold start at h2;by_cases hi:i<lf vs;·exact hi
   ·rw[Vaq (by simpa using hi)]at h2;rw[Vdf]at h2;split at h2<;>cases h2
  have ha:vs[i]?=yz v:=by
   unfold start at h2;rw[V1 (by simpa using hi),Vx]at h2;cases e:vs[i]? with
   |none=>rw[e]at h2;cases h2|some a=>rw[e]at h2;cases h2;rfl
  obtain⟨u,hu,rv⟩:=r.get ha;have hp:ps[i]?=yz y:=by rw[<-S.pre,List.getElem?_take_of_lt (by omega)];exact h1
  have U:ps.Nodup:=by rw[<-S.pre];exact S.nd.sublist (List.take_sublist _ _)
  refine⟨u,rv,?_⟩;rcases S.par y (V6 hp) with k|k;·exact .inl ⟨k,Xjx U hp hu k⟩
  ·obtain⟨c,e⟩:=Xk9 (n:=s.heap.objs.size+1) k;refine .inr ⟨.inl k,c,e,?_⟩;have q:=x.cell y c e;rw[Xjy U hp hu (by show scope.names.lookup y≠_;rw[k];decide)]at q;exact q
 ·exact B.hok.fresh (Vc1 (x.above y c (Vco h)))
 ·unfold start;show _=N.length;rw[Vy,Ve,List.length_replicate];omega
end L2
namespace L2
open PySem PySem.Spec PyProof.Rows
end L2
namespace HT
open PySem PyProof.Rows
section
variable{prog:V4}{w:Ua}{A:Uu}{E:VP}{s:Vc}
theorem cat_tup{t b:Addr}{vs B:LV}{Q:VP}(ht:Vdr s.heap t vs.toArray)(hb:Vdr s.heap b B.toArray)(hv:vs≠[])
  (h1:B=[]->Q (.ref t) s) (h2:B≠[]->Q (.ref s.heap.objs.size) {s with heap:=s.heap.push {cls:=.type "tuple",data:=.seq (vs++B).toArray} })
  (ab:(lf vs)+lf B<=V8):Vg (Vl prog w) A (Vep .Add (.ref t) (.ref b)) Q E s:=by
 obtain⟨⟨cls,dd,data,sl⟩,ho,hc,n,hd⟩:=id ht;obtain⟨⟨ac,L,data2,U⟩,J,aa,n2,Y⟩:=id hb;simp only at hc hd aa Y;subst hc hd aa Y;have e:vs.toArray++B.toArray=(vs++B).toArray:=by simp
 by_cases hw:B=[]
 ·exact concat_meets ⟨_,ho,rfl⟩ ⟨_,J,rfl⟩ noFill_tuple_add seq_tuple_add Vf8 Vfx (Vfg _ _)
   (tuple_addW1 t b vs.toArray B.toArray n n2 dd L sl U (by simpa using hv) (by simp[hw])) ⟨ho,J,h1 hw⟩
 ·refine concat_meets ⟨_,ho,rfl⟩ ⟨_,J,rfl⟩ noFill_tuple_add seq_tuple_add Vf8 Vfx (Vfg _ _)
   (tuple_addW2 t b vs.toArray B.toArray n n2 dd L sl U (by simpa using hv) (by simpa using hw) (by rw[Vr,Vr];exact ab)) ⟨ho,J,?_⟩
  rw[e];exact h2 hw
noncomputable def sIx(n d:Nat):Option Int->Nat
 |none=>d|some v=>if v<0 then (v+(n:Int)).toNat else min v.toNat n
theorem X3i(n d:Nat)(hd:d<=n)(o:Option Int):sIx n d o<=n:=by
 cases o with
 |none=>exact hd|some v=>
  show(if v<0 then (v+(n:Int)).toNat else min v.toNat n)<=n;by_cases B:v<0;·rw[iP0 B];omega
  ·rw[iN0 B];exact Nat.min_le_right _ _
theorem Xoc(v:Int)(n d:Nat):(if v<0 then max (v+(n:Int)) 0 else min v (n:Int))=((sIx n d (yz v):Nat):Int):=by
 show(if v<0 then max (v+(n:Int)) 0 else min v (n:Int))=(((if v<0 then (v+(n:Int)).toNat else min v.toNat n):Nat):Int);by_cases B:v<0;·simp only[iP0 B];omega
 ·simp only[iN0 B];omega
theorem Xqc(lo hi:Option Int)(n:Nat):Vfa lo hi 1 (n:Int)=(((sIx n 0 lo:Nat):Int),((sIx n n hi:Nat):Int)):=by
 have h1:¬ ((1:Int)<0):=by omega
 unfold Vfa;simp only[h1,if_false];refine Prod.ext ?_ ?_
 ·cases lo with
  |none=>rfl|some v=>exact Xoc v n 0
 cases hi with
 |none=>rfl|some v=>exact Xoc v n n
theorem Xqd(i j:Nat):Vdz (i:Int) (j:Int) 1=j-i:=by
 unfold Vdz;have h1:(1:Int)>0:=by omega
 simp only[h1,if_true,Int.ediv_one];split<;>omega
theorem slicePart_{v:Vb}{o:Option Int}{Q:Option Int->Vc->Prop}(p:Ves v o)(h:Q o s):Vg (Vl prog w) A (Builtin.Slice.slicePartIndex v) Q E s:=by
 cases p with
 |none=>exact slicePart_none h|int i t=>exact slicePart_int h
theorem sliceApplied_gen{sl:Addr}{U L:Vb}{lo hi:Option Int}{n:Nat}{Q:Int×Int×Nat->Vc->Prop}(hs:s.heap.IsSliceOf sl U L .none)(pl:Ves U lo)(pu:Ves L hi)
  (h:Q (((sIx n 0 lo:Nat):Int),1,sIx n n hi-sIx n 0 lo) s):Vg (Vl prog w) A (Vdt (.ref sl) (pure (n:Int))) Q E s:=by
 obtain⟨os,J,Y,B⟩:=id hs;unfold Vdt Vhq;refine Va (Va (Vam J B (x:=U) rfl (Va (Vam J B (x:=L) rfl (Va (Vam J B (x:=.none) rfl (Vd ?_)))))));refine Va (slicePart_none ?_);show Vg _ _ (if ((1:Int)==0)=yx then _ else _) _ _ s;rw[iN0 (by decide)];refine Va (slicePart_ pl (Va (slicePart_ pu (Va (Vd ?_)))));show Vg _ _ (match Vfa lo hi 1 (n:Int) with|(lo,hi)=>pure (lo,(1:Int),Vdz lo hi 1)) _ _ s;rw[Xqc lo hi n];show Vg _ _ (pure (((sIx n 0 lo:Nat):Int),(1:Int),Vdz ((sIx n 0 lo:Nat):Int) ((sIx n n hi:Nat):Int) 1)) _ _ s;rw[Xqd];exact Vd h
theorem Xu9(xs:AV)(i k:Nat):((Vs k).filterMap λ(m:Nat)=>xs[((i:Int)+(m:Int)*1).toNat]?).toArray=((xs.toList.drop i).take k).toArray:=by
 have e:(λ(m:Nat)=>xs[((i:Int)+(m:Int)*1).toNat]?)=λm=>xs[i+m]?:=by
  funext m;have:((i:Int)+(m:Int)*1).toNat=i+m:=by omega
  rw[this]
 rw[e];have:=pick_run xs i k;rw[List.filterMap_map]at this;have B:((λx=>xs[x]?)∘λx=>i+x)=λm=>xs[i+m]?:=rfl;rw[B]at this;rw[this]
theorem getItem_tuple_cut{t sl:Addr}{items:AV}{vl vu:Vb}{lo hi:Option Int}{Q:VP}(J:Vdr s.heap t items)(hs:s.heap.IsSliceOf sl vl vu .none)(pl:Ves vl lo)(pu:Ves vu hi)
  (hw:¬ (sIx items.size 0 lo=0/\sIx items.size items.size hi=items.size))
  (h:Q (.ref s.heap.objs.size) {s with heap:=s.heap.push {cls:=.type "tuple",data:=.seq ((items.toList.drop (sIx items.size 0 lo)).take (sIx items.size items.size hi-sIx items.size 0 lo)).toArray} })
  (ab:items.size<=V8):Vg (Vl prog w) A (getItem (.ref t) (.ref sl)) Q E s:=by
 have B:sizeOk (.seq ((items.toList.drop (sIx items.size 0 lo)).take (sIx items.size items.size hi-sIx items.size 0 lo)).toArray):=by show((items.toList.drop (sIx items.size 0 lo)).take (sIx items.size items.size hi-sIx items.size 0 lo)).toArray.size<=V8;rw[Vr,Um,Vbf,V7];omega
 have hj:sIx items.size items.size hi<=items.size:=X3i _ _ (Vm _) hi;obtain⟨os,Y,aa,ac⟩:=id hs;have L:s.TypeIs (.ref sl) "slice" := ⟨os,Y,aa⟩;unfold getItem
 try with_reducible refine Uo ?_
 first|refine Va (Vd ?_)|skip
 refine Va (Vhk J.typeIs (by decide) ?_)
 refine Va (Va6 (name:=Vao "__getitem__") J.typeIs Vbk
  (U0 Vbk J.typeIs Vgz ?_ (Vha _ _)))
 show Vg _ _ (Ve3 (.ref t) >>= _) _ _ s;refine Va (tupleItemsOf_ J ?_);refine Va (Vcc L ?_);rw[iP0 (by decide)];refine Va (sliceApplied_gen hs pl pu ?_);have U:¬ ((((sIx items.size 0 lo:Nat):Int)==0&&(1:Int)==1&&(sIx items.size items.size hi-sIx items.size 0 lo)==items.size)=yx):=by intro q;rw[bA0,bA0]at q;have q1:((sIx items.size 0 lo:Nat):Int)=0:=eq_of_beq q.1.1;have q2:sIx items.size items.size hi-sIx items.size 0 lo=items.size:=eq_of_beq q.2;exact hw ⟨by omega,by omega⟩
 show Vg _ _ (if (((sIx items.size 0 lo:Nat):Int)==0&&(1:Int)==1&&(sIx items.size items.size hi-sIx items.size 0 lo)==items.size)=yx then _ else _) _ _ s;rw[iN0 U,Xu9]
 first
  |exact Va (m:=Vbg _) (U8 (Vd ⟨_,rfl,Vd h⟩) B)|exact Va (m:=Vbg _) (U8 (Va (Vd (Vd ⟨_,rfl,Vd h⟩))) B)|exact Va (Va (m:=Vbg _) (U8 (Vd (Vd ⟨_,rfl,Vd h⟩)) B))|exact Va (Va (m:=Vbg _) (U8 (Vd ⟨_,rfl,Vd h⟩) B))
end
end HT
namespace L2
open PySem PySem.Spec PyProof.Rows
section
variable{lo hi:Option Expr}
noncomputable def Xla(xs:LW)(lo hi:Option Int):LW:=(xs.drop (HT.sIx (lf xs) 0 lo)).take (HT.sIx (lf xs) (lf xs) hi-HT.sIx (lf xs) 0 lo)
theorem Xno(xs:LW)(lo hi:Option Int):(Xla xs lo hi).length<=lf xs:=by unfold Xla;rw[Um,Vbf];omega
end
end L2
namespace L2
open PySem PySem.Spec PyProof.Rows
noncomputable def ixN(n:Nat)(i:Int):Option Nat:=if 0<=i then (if i<n then yz i.toNat else yy) else if-(n:Int)<=i then yz (i+n).toNat else yy
noncomputable def atI{α:Type}(xs:List α)(i:Int):Option α:=(ixN (lf xs) i).bind λj=>xs[j]?
theorem Xod{n:Nat}{i:Int}{j:Nat}(h:ixN n i=yz j):seqIndex? i n=yz j/\j<n/\-(n:Int)<=i/\i<n:=by
 unfold ixN at h;by_cases B:0<=i
 ·rw[iP0 B]at h;by_cases h1:i<n;·rw[iP0 h1]at h;have e:i.toNat=j:=Ud h;exact⟨by rw[seqIndex_of B h1,e],by omega,by omega,h1⟩
  ·rw[iN0 h1]at h;cases h
 rw[iN0 B]at h;by_cases h1:-(n:Int)<=i;·rw[iP0 h1]at h;have e:(i+n).toNat=j:=Ud h;exact⟨by rw[seqIndex_neg (by omega) h1,e],by omega,h1,by omega⟩
 ·rw[iN0 h1]at h;cases h
theorem Xoe{α:Type}{xs:List α}{i:Int}{v:α}(h:atI xs i=yz v):∃j,seqIndex? i (lf xs)=yz j/\xs[j]?=yz v/\j<lf xs/\-(lf xs:Int)<=i/\i<lf xs:=by
 unfold atI at h;cases e:ixN (lf xs) i with
 |none=>rw[e]at h;cases h|some j=>rw[e]at h;obtain⟨h1,h2,B,J⟩:=Xod e;exact⟨j,h1,h,h2,B,J⟩
def Xid(b:Expr):Prop:=∀o i,subscripted b yw o i=operate [o,i] (getItem o i)
def IxR(X:Cx)(r:R2):Prop:=
 ∀(value B:Expr) (pa:LA) (s:Vc) (σ:St) (H:Hp) (x y:V) (v u:Vb) (Q:VK),Inv X pa σ H s->RelV x v->RelV y u->r x y H Q ->
  subscripted B yw v u=operate [v,u] (getItem v u)->Vg (Vl X.prog X.w) X.A (Ve4 value B v u) (EP X pa σ Q) X.xe s
section
variable{X:Cx}{a b:Expr}
noncomputable def Yam(K:Vj):R2:=λx y H Q=>∃p xs i v,x=.ref p/\y=.int i/\SqL K H p xs/\atI xs i=yz v/\Q v H
noncomputable def Yan(K:Vj):R2:=λx y H Q=>∃p xs i v,x=.ref p/\y=.int i/\SqT K H p xs/\atI xs i=yz v/\Q v H
theorem Xzu:IxR X (Yam X.K):=by
 intro value J pa s σ H x y v u Q I rx ry h hs;obtain⟨p,xs,i,z,rfl,rfl,hq,he,q⟩:=h;cases rx;obtain⟨t,rfl⟩:=ry;obtain⟨its,r,pl,hz⟩:=I.list hq;obtain⟨j,h1,h2,h3,h4,h5⟩:=Xoe he;obtain⟨w,U,B⟩:=r.get h2;have hl:=r.length;have hn:=Xei;have fin:EP X pa σ Q w s:=⟨z,H,I,B,q⟩;by_cases Y:0<=i
 ·have L:i.toNat=j:=by
   rw[seqIndex_of Y h5]at h1;exact Ud h1
  exact item_listR pl.isList Y (by omega) (by rw[L];simpa using U) fin hs
 have L:(i+(its.toArray.size:Int)).toNat=j:=by rw[seqIndex_neg (by omega) h4]at h1;rw[Vr,<-hl];exact Ud h1
 exact subscriptTail_builtinR (x:=w) pl.isList.typeIs slot_list_getitem.lookup
  (wpAny_getItem_list_neg (Q:=λr s'=>r=w/\EP X pa σ Q r s') pl.isList (by omega) (by rw[Vr]<;>omega) (by omega) (by rw[L];simpa using U) ⟨rfl,fin⟩) hs
theorem X3j:IxR X (Yan X.K):=by
 intro value J pa s σ H x y v u Q I L ry h hs;obtain⟨p,xs,i,z,rfl,rfl,hq,Y,q⟩:=h;cases L;obtain⟨t,rfl⟩:=ry;obtain⟨its,r,pl,hz⟩:=I.tuple hq;obtain⟨j,h1,h2,h3,h4,h5⟩:=Xoe Y;obtain⟨w,U,B⟩:=r.get h2;have hl:=r.length;have hn:=Xei;have fin:EP X pa σ Q w s:=⟨z,H,I,B,q⟩;exact subscriptTail_builtinR (x:=w) pl.typeIs slot_tuple_getitem.lookup
  (getItem_tuple (j:=j) (Q:=λr s'=>r=w/\EP X pa σ Q r s') pl (by omega) (by omega) (by rw[Vr,<-hl];exact h1) (by simpa using U) ⟨rfl,fin⟩) hs
theorem Xqe(its:LV)(n j:Nat)(u:Vb):U5 (·.setIfInBounds j u) {cls:=.type "list",data:=.seq its.toArray n}={cls:=.type "list",data:=.seq (its.set j u).toArray n}:=by simp[U5]
theorem Inv.lst{pa:LA}{σ:St}{H:Hp}{s:Vc}{p:Addr}{xs:LW}(I:Inv X pa σ H s)(h:H p=yz (.lst xs)):
  ∃(its:LV) (n:Nat),Vals xs its/\s.heap.get? p=yz {cls:=.type "list",data:=.seq its.toArray n}/\(lf xs)<=V8:=by
 obtain⟨z,its,n,r,e⟩:=I.hok p _ h;exact⟨its,n,r,e,z⟩
theorem Inv.lstUpd{pa:LA}{σ:St}{H:Hp}{s:Vc}{p:Addr}{xs ys:LW}{its its':LV}{n B:Nat}{f:Obj->Obj}(I:Inv X pa σ H s)(h:H p=yz (.lst xs))
  (L:s.heap.get? p=yz {cls:=.type "list",data:=.seq its.toArray n}) (J:f {cls:=.type "list",data:=.seq its.toArray n}={cls:=.type "list",data:=.seq its'.toArray B }) (r:Vals ys its') (U:(lf ys)<=V8) (t:Nat):
  Inv X pa σ (upd H p (.lst ys)) {s with heap:=s.heap.update p f,toks:=t}:=by
 have e:(s.heap.update p f).get? p=yz {cls:=.type "list",data:=.seq its'.toArray B }:=by rw[Vcz f L (by rw[J]<;>rfl),J]
 refine I.write (x:=p) (e:=p) (by rw[h];trivial) (.inl rfl) (λb u Y q=>(Veq _ _ (Ne.symm Y)).trans q) ⟨_,e⟩ ?_;exact⟨U,its',B,r,e⟩
def X8c:V->V->V->Hp->(Hp->Prop)->Prop:=λo i v H Q=>∃p xs k j,o=.ref p/\i=.int k/\H p=yz (.lst xs)/\ixN (lf xs) k=yz j/\Q (upd H p (.lst (xs.set j v)))
theorem Xva:Yaj X X8c:=by
 intro pa s σ H o i v ov iv u Q I ro ri rv h;obtain⟨p,xs,k,j,rfl,rfl,hp,hj,q⟩:=h;cases ro;obtain⟨t,rfl⟩:=ri;obtain⟨its,n,r,B,hz⟩:=I.lst hp;obtain⟨h1,h2,Y,U⟩:=Xod hj;have L:=r.length;have hn:=Xei;have I':Inv X pa σ (upd H p (.lst (xs.set j v))) {s with heap:=s.heap.update p (U5 (·.setIfInBounds j u))}:=
  I.lstUpd hp B (Xqe its n j u) (r.set rv j) (by rw[List.length_set];exact hz) s.toks
 by_cases h0:0<=k
 ·have J:k.toNat=j:=by
   rw[seqIndex_of h0 U]at h1;exact Ud h1
  exact PySem.W.ki_setAt B h0 (by omega) (by rw[Vr,<-L];exact U) (by rw[J];exact⟨_,I',q⟩)
 have J:(k+(its.toArray.size:Int)).toNat=j:=by rw[seqIndex_neg (by omega) Y]at h1;rw[Vr,<-L];exact Ud h1
 exact PySem.W.ki_setBack B (by omega) (by rw[Vr,<-L];exact Y) (by omega) (by rw[J];exact⟨_,I',q⟩)
theorem Xlb:Xfe X (.builtin "len") (λxs H Q=>∃p ys,xs=[.ref p]/\(SqL X.K H p ys\/SqT X.K H p ys)/\Q (.int (lf ys)) H):=by
 intro pa s σ H xs us Q I r h;obtain⟨p,ys,rfl,J,q⟩:=h;obtain⟨u,rfl,U⟩:=Xqa r;cases U;have hn:=Xei;rcases J with J|J;·obtain⟨its,L,pl,Y⟩:=I.list J;have B:=L.length;exact Calls.call_len_list pl.isList (by simp only[Vr]<;>omega) ⟨.int (lf ys),H,I.tok _,⟨s.toks+1,by rw[Vr,B]⟩,q⟩
 ·obtain⟨its,L,pl,Y⟩:=I.tuple J;have B:=L.length;exact len_tuple pl (by simp only[Vr]<;>omega) ⟨.int (lf ys),H,I.tok _,⟨s.toks+1,by rw[Vr,B]⟩,q⟩
theorem Xlc:Xfe X (.type "list") (λxs H Q=>∃p ys,xs=[.ref p]/\(SqL X.K H p ys\/SqT X.K H p ys)/\∀l,H l=yy->Q (.ref l) (upd H l (.lst ys))):=by
 intro pa s σ H xs us Q I r h;obtain⟨p,ys,rfl,Y,q⟩:=h;obtain⟨u,rfl,rx⟩:=Xqa r;cases rx;have fin:∀(its:LV),Vals ys its->lf ys<=V8->∀(h':Heap) (B:Nat),(∀b o',s.heap.get? b=yz o'->h'.get? b=yz o') ->
   h'.get? s.heap.objs.size=yz {cls:=.type "list",dict:=yy,data:=.seq its.toArray B,slots:=#[]}->EP X pa σ Q (.ref s.heap.objs.size) {s with heap:=h' }:=λits J L h' B kp e=>
  ⟨.ref s.heap.objs.size,_,I.laid (t':=s.toks) kp (Vm _) (show ObjOk X.prog X.w _ h' _ (.lst ys) from⟨L,its,B,J,e⟩),rfl,q _ (I.hok.fresh (Vm _))⟩
 rcases Y with Y|Y;·obtain⟨its,J,pl,L⟩:=I.list Y;have U:=J.length;obtain⟨o,ho,hc,n,hd⟩:=pl.isList;exact call_list_seq p (.inl rfl) ho hc hd (λh' B kp e=>fin its J L h' B kp e) (by simp only[Vr]<;>omega)
 ·obtain⟨its,J,pl,L⟩:=I.tuple Y;have U:=J.length;obtain⟨o,ho,hc,n,hd⟩:=pl;exact call_list_seq p (.inr rfl) ho hc hd (λh' B kp e=>fin its J L h' B kp e) (by simp only[Vr]<;>omega)
theorem Xee:Xfe X (.type "tuple") (λxs H Q=>∃p ys,xs=[.ref p]/\((SqL X.K H p ys/\∀l,H l=yy->Q (.ref l) (upd H l (.tup ys)))\/(SqT X.K H p ys/\Q (.ref p) H))):=by
 intro pa s σ H xs us Q I r h;obtain⟨p,ys,rfl,h⟩:=h;obtain⟨u,rfl,Y⟩:=Xqa r;cases Y;rcases h with⟨hq,q⟩|⟨hq,q⟩
 ·obtain⟨its,B,pl,L⟩:=I.list hq;have U:=B.length;refine call_tuple_list pl.isList (λh' kp=>?_) (by simp only[Vr]<;>omega);have J:Inv X pa σ H {s with heap:=h' }:=I.kept (t':=s.toks) kp;have I2:Inv X pa σ (upd H h'.objs.size (.tup ys)) {s with heap:=h'.push {cls:=.type "tuple",data:=.seq its.toArray} }:=
   J.laid (t':=s.toks) (λb o e=>Vf _ e) (Vm _) (show ObjOk X.prog X.w _ _ _ (.tup ys) from⟨L,its,B,IsTup.new _ _⟩)
  exact⟨.ref h'.objs.size,_,I2,rfl,q _ (J.hok.fresh (Vm _))⟩
 obtain⟨its,B,pl,L⟩:=I.tuple hq;exact call_tuple_same pl ⟨.ref p,H,I,rfl,q⟩
variable{e:Expr}
/- xs.append(e),list.index on a module's tuple .. are MtR facts of 06m -/
end
end L2
namespace L2
open PySem PySem.Spec PyProof.Rows
def MtM(X:Cx)(id:String)(r:V->LW->Hp->VK->Prop):Prop:=
 ∀(pa:LA) (s:Vc) (σ:St) (H:Hp) (x:V) (xs:LW) (v:Vb) (us:LV) (Q:VK),Inv X pa σ H s->RelV x v->Vals xs us->r x xs H Q ->
  Vg (Vl X.prog X.w) X.A (call (.builtin id) (v::us)) (EP X pa σ Q) X.xe s
theorem Vals.one:∀ {x:V} {us:LV},Vals [x] us->∃u,us=[u]/\RelV x u
 |_,_,h=>by cases h with|cons r t=>cases t;exact⟨_,rfl,r⟩
theorem Vals.eraseIdx:∀ {xs:LW} {us:LV} (i:Nat),Vals xs us->Vals (xs.eraseIdx i) (us.eraseIdx i)
 |_,_,_,.nil=>.nil|_,_,0,.cons _ t=>t|_,_,i+1,.cons r t=>.cons r (Vals.eraseIdx i t)
theorem Xjz{α:Type}:∀(l:List α) (i:Nat),(l.eraseIdx i).length<=lf l
 |[],_=>Vm _|_::_,0=>Vdn _|_::r,i+1=>Nat.succ_le_succ (Xjz r i)
section
variable{X:Cx}{pa:LA}{σ:St}{H:Hp}{s:Vc}{l b:Addr}{xs ys zs:LW}
theorem Inv.lset{its its':LV}{n:Nat}{f:AV->AV}{t':Nat}(I:Inv X pa σ H s)(B:H l=yz (.lst xs))
  (e:s.heap.get? l=yz {cls:=.type "list",data:=.seq its.toArray n}) (U:f its.toArray=its'.toArray) (J:Vals ys its') (L:(lf ys)<=V8):
  Inv X pa σ (upd H l (.lst ys)) {s with heap:=s.heap.update l (U5 f),toks:=t' }:=by
 have q:=PySem.IsL.update e f;rw[U]at q;refine I.write (x:=l) (e:=l) (by rw[B];exact trivial) (.inl rfl) (λb' u hb Y=>(Veq s.heap (U5 f) (Ne.symm hb)).trans Y) ⟨_,q⟩ ?_;exact⟨L,its',_,J,q⟩
theorem Inv.lnew{its:LV}{t':Nat}(I:Inv X pa σ H s)(B:Vals ys its)(J:(lf ys)<=V8):
  Inv X pa σ (upd H s.heap.objs.size (.lst ys)) {s with heap:=s.heap.push {cls:=.type "list",data:=.seq its.toArray},toks:=t' }:=
 I.laid (λ_ _ q=>Vf _ q) (Vm _) ⟨J,its,0,B,Vt _ rfl⟩
theorem Inv.fresh(I:Inv X pa σ H s):H s.heap.objs.size=none:=I.hok.fresh (Vm _)
theorem Inv.lstM(I:Inv X pa σ H s)(B:H l=yz (.lst xs)):(lf xs)<=V8/\∃(its:LV) (n:Nat),Vals xs its/\(lf xs)=lf its/\s.heap.get? l=yz {cls:=.type "list",data:=.seq its.toArray n}:=by obtain⟨z,its,n,r,e⟩:=I.hok l _ B;exact⟨z,its,n,r,r.length,e⟩
theorem Xld{n:Nat}(h:n<=V8):Vd7 n=false:=by unfold Vd7;exact decide_eq_false (by omega)
def Xzv:V->LW->Hp->VK->Prop:=λx vs H Q=>∃l xs y,x=.ref l/\vs=[y]/\H l=yz (.lst xs)/\(lf xs)<V8/\Q .non (upd H l (.lst (xs++[y])))
theorem Xj0:MtM X "list.append" Xzv:=by intro pa s σ H x vs v us Q I J L h;obtain⟨l,xs,y,rfl,rfl,B,Y,q⟩:=h;cases J;obtain⟨u,rfl,U⟩:=L.one;obtain⟨z,its,n,r,hl,e⟩:=I.lstM B;refine Vgn F.slot_list_append ⟨_,e,rfl⟩ F.entry_list_append (F.args_list_append_2 _ _) (PySem.list_append l its.toArray n u (by rw[Vr];omega)) ⟨e,?_⟩;refine⟨.non,_,I.lset (its':=its++[u]) B e (by simp) (r.append (.cons U .nil)) ?_,rfl,q⟩;rw[Vy,U2];omega
def Xzw:V->LW->Hp->VK->Prop:=λx vs H Q=>∃l b xs zs,x=.ref l/\vs=[.ref b]/\H l=yz (.lst xs)/\H b=yz (.lst zs)/\(lf xs)+lf zs<=V8/\Q .non (upd H l (.lst (xs++zs)))
theorem Xsd:MtM X "list.extend" Xzw:=by
 intro pa s σ H x vs v us Q I Y rv h;obtain⟨l,b,xs,zs,rfl,rfl,U,hB,hz,q⟩:=h;cases Y;obtain⟨u,rfl,ru⟩:=rv.one;cases ru;obtain⟨z,its,n,r,hl,e⟩:=I.lstM U;obtain⟨z2,B,n2,r2,aa,e2⟩:=I.lstM hB;have L:its.toArray.size+B.toArray.size<=V8:=by rw[Vr,Vr];omega
 have J:¬ (!its.toArray.isEmpty&&Vd7 (its.toArray.size+B.toArray.size))=true:=by rw[Xld L,Vcf];exact Us
 refine Vgn F.slot_list_extend ⟨_,e,rfl⟩ F.entry_list_extend (F.args_list_extend_2 _ _)
  (AutoSeq1.list_extend_list_list_0 l its.toArray n b B.toArray n2 J (by rw[Vr];omega) (by omega)) ⟨e,e2,?_⟩
 refine⟨.non,_,I.lset (its':=its++B) U e (by simp) (r.append r2) ?_,rfl,q⟩;rw[Vy];omega
def X3k:V->LW->Hp->VK->Prop:=λx vs H Q=>∃l xs i k y,x=.ref l/\vs=[.int i]/\H l=yz (.lst xs)/\-(2^63)<=i/\i<2^63/\seqIndex? i (lf xs)=yz k/\xs[k]?=yz y/\Q y (upd H l (.lst (xs.eraseIdx k)))
theorem Xvb:MtM X "list.pop" X3k:=by
 intro pa s σ H x vs v us Q I Y rv h;obtain⟨l,xs,i,k,y,rfl,rfl,J,h1,h2,U,L,q⟩:=h;cases Y;obtain⟨u,rfl,ru⟩:=rv.one;obtain⟨t,rfl⟩:=ru;obtain⟨z,its,n,r,hl,e⟩:=I.lstM J;obtain⟨w,hw,B⟩:=r.get L;refine Vgn F.slot_list_pop ⟨_,e,rfl⟩ F.entry_list_pop (F.args_list_pop_2 _ _)
  (MeetsSeq.list_pop_at l its.toArray n i t k w (fitsIndex_both h1 h2) (by rw[Vr,<-hl];exact U) (by rw[<-Uh];exact hw) (by rw[Vr];omega)) ⟨e,?_⟩
 refine⟨y,_,I.lset (its':=its.eraseIdx k) J e ?_ (r.eraseIdx k) ?_,B,q⟩;·show its.toArray.eraseIdxIfInBounds k=(its.eraseIdx k).toArray;rw[List.eraseIdxIfInBounds_toArray]
 ·have:=Xjz xs k;omega
noncomputable def Yao:R2:=λx y H Q=>∃l b xs zs,x=.ref l/\y=.ref b/\H l=yz (.lst xs)/\H b=yz (.lst zs)/\(lf xs)+lf zs<=V8/\∀p,H p=yy->Q (.ref p) (upd H p (.lst (xs++zs)))
theorem X3l:OpR X (Vep .Add) Yao:=by
 intro pa s σ H x y v u Q I J ry h;obtain⟨l,b,xs,zs,rfl,rfl,U,hB,hz,q⟩:=h;cases J;cases ry;obtain⟨z,its,n,r,hl,e⟩:=I.lstM U;obtain⟨z2,B,n2,L,aa,Y⟩:=I.lstM hB;refine PySem.P.add_list e Y ?_ (by rw[Vr,Vr];omega);have ea:its.toArray++B.toArray=(its++B).toArray:=by simp
 rw[ea];exact⟨.ref _,_,I.lnew (t':=s.toks) (r.append L) (by rw[Vy];omega),rfl,q _ I.fresh⟩
end
end L2
namespace Att
open PySem PySem.W PySem.Calls PyProof.Rows
theorem Xhc{P:Params}{h:Heap}:∀(ns:LI) (vs:LV),WellAll P h vs (ns.map WData.int)->Vb1 vs ns:=by
 intro ns;induction ns with
 |nil=>intro vs w;rw[Vd8]at w;cases w;exact .nil|cons n ns ih=>
  intro vs w;rw[Ux]at w;cases w with
  |cons a b=>cases a;exact .cons _ _ (ih _ b)
theorem Xse{l:OpenLaw}{n:Nat}(hn:l.most=yz n){P:Params}{h:Heap}{args:List WData}{J:LV}
  (B:l.row.toRowW.claim.pre args=yx) (aa:WellAll P h J args):
  ∃a vs ns,J=[Ur a]/\args=[WData.list (ns.map WData.int)]/\h.get? a=yz {cls:=.type "list",data:=.seq vs.toArray}/\Vb1 vs ns/\(lf ns)<=n:=by
 have ab:WShape.hasAll [] args [.list .int]=true:=(pre_splitW B).1;have hc:l.pre.holds [] {args:=args}=true:=(pre_splitW B).2;obtain⟨d,r,rfl,h1,h2⟩:=hasAllW_cons ab;obtain rfl:=hasAllW_nil h2;obtain⟨xs,rfl,h3⟩:=hasW_list h1;obtain⟨ns,rfl⟩:=items_int h3;have U:(lf ns)<=n:=by
  unfold OpenLaw.pre at hc;have Y:(WTm.not (.lt (.lit (.int (n:Int))) (.len (.arg 0)))).holds [] {args:=[.list (ns.map .int)]}=true:=by have Y:=(holds_andW hc).1;rw[hn]at Y;exact Y
  have h5:=condW_of Y (w_not (w_lt w_lit (w_len_list (w_arg rfl))));rw[Ve]at h5;refine Nat.le_of_not_lt λq=>?_;have q':(n:Int)<((lf ns:Nat):Int):=by omega
  first
   | (rw[decide_eq_true q']at h5;exact aB0 h5 (by decide))| (simp at h5;omega)
 cases aa with
 |cons w1 w2=>
  cases w2;cases w1 with
  |list ho L=>exact⟨_,_,ns,rfl,rfl,ho,Xhc ns _ L,U⟩
theorem Xsf(l:OpenLaw)(args:List WData):l.row.toRowW.claim.post args (.bool yx) args=true:=
 postW_of (r:=l.row.toRowW) (X:=(yx==yx))
  (show WShape.has [] (.bool yx) .bool=yx by first|rfl|decide|simp[WShape.has,WShape.arms,WShape.armsAll])
  (show(WTm.eq .res (.lit (.bool yx))).value [] {args:=args,res:=yz (.bool yx),after:=args}=yz (.bool (yx==yx)) from w_eq_bool (w_res rfl) w_lit) rfl
theorem attach_call{l:OpenLaw}{n:Nat}{q:V4}{loose:LS}{XP:(Str->OV)->Heap->Prop}{YP:Ua->Heap->Prop}{d:DefRec}
  (hn:l.most=yz n) (ae:d.params.defaults=[])
  (call:∀(w:Ua) (s₀ B:Vc) (mg mb:Str->OV) (fa:Addr) (o:Obj) (pm cd L:Vb) (a:Addr) (vs:LV) (ns:LI),
   Ground q loose [] XP w s₀ mg mb B.heap->YP w B.heap ->
   B.heap.get? fa=yz o->o.data=.func (docDef d.name d.params d.body d.scope pm cd L)->B.heap.CodeRec cd d.name->mg d.name=yz (.ref fa) ->
   B.heap.get? a=yz {cls:=.type "list",data:=.seq vs.toArray}->Vb1 vs ns->lf ns<=n->B.gens=#[] ->
   Vcy (Vl l.prog w) callerA (.call (.ref fa) ⟨[.ref a],[]⟩) (λr s'=>r=.ok (.ret (.bool yx))/\OldK B.heap s'.heap/\s'.os=B.os/\AllBare s'.gens) B):
  WalkO q loose XP YP l.row.toRowW d [] (λf vs=>PySem.call f vs):=by
 intro w s₀ B mg mb G Y fa o pm cd L dV kV ho hd af hD ag hg ai ah as U aj ak ac al;obtain rfl:dV=.none:=Dflts.none hD ae;obtain rfl:kV=.none:=Dflts.noKw hD;obtain⟨a,vs,ns,rfl,rfl,ab,J,aa⟩:=Xse hn U ac;refine enter_call (Vet (call w s₀ B mg mb fa o pm cd L a vs ns G Y ho (fd_plain hd) af ag ab J aa hg) λr s' hq=>?_);obtain⟨rfl,h2,h3,h4⟩:=hq;exact⟨.inl ⟨.bool yx,.bool yx,[],rfl,λ_=>rfl,.bool yx,Xsf l _,λ_=>⟨Vb7,λ_ hm=>(nomatch hm)⟩⟩,h2,h3,h4⟩
end Att
namespace L2
open PySem PySem.Spec PyProof.Rows
theorem Xb8:∀ {vs:LV} {ns:LI},Vb1 vs ns->Vals (ns.map V.int) vs
 |_,_,.nil=>.nil|_,_,.cons n t h=>.cons ⟨t,rfl⟩ (Xb8 h)
def Xqf(H:Hp):Prop:=∀b,H b=yy\/∃o xs,H b=yz (.frz o (.lst xs))
theorem Xvc{P:V4}{w:Ua}{K:Vj}{mg mb:Str->OV}{CX:CXT}{k:Nat}{fa a:Addr}{fd:Vdj}{x:Str}{sp:Sp}{B:Vc}{vs:LV}{ns:LI}
  (KX:K.In B.heap) (ab:B.heap.Ns Uf mg) (L:B.heap.Ns builtinsNs mb) (ai:∀x:Str,x ≠ "__name__" -> mb x=Vd6 x) (ac:B.heap.NoLimit) (hg:B.gens=#[])
  (ha:B.heap.get? a=yz {cls:=.type "list",data:=.seq vs.toArray}) (hi:Vb1 vs ns) (hl:(lf ns)<=V8) (hr:Room k callerA)
  (F:∀base:Heap,K.In base->base.Ns Uf mg->FnOk P w K mg base CX k fa fd [x] sp) (aa:∀(s:Vc) (u:Vb),BindsTo s fd ⟨[u],[]⟩ [(x,u)])
  (aj:∀H:Hp,Xqf H->SqL K H a (ns.map V.int)->sp [.ref a] H (λv _=>v=.bl yx) λ_ _ _=>False)
  (ah:∀H e s',CX [] H B (λ_ _ _=>False) e s'->False):
  Vcy (Vl P w) callerA (.call (.ref fa) ⟨[.ref a],[]⟩) (λr s'=>r=.ok (.ret (.bool yx))/\OldK B.heap s'.heap/\s'.os=B.os/\AllBare s'.gens) B:=by
 have rv:=Xb8 hi;have ae:=hi.length;have Y:∀H:Hp,Xqf H->SqL K H a (ns.map V.int)->HOk P w H B.heap->(∀b,H b≠yy->b=a)->(H a≠yy->K.lookup a=yy) ->
   Vcy (Vl P w) callerA (.call (.ref fa) ⟨[.ref a],[]⟩) (λr s'=>r=.ok (.ret (.bool yx))/\OldK B.heap s'.heap/\s'.os=B.os/\AllBare s'.gens) B:=by
  intro H hO hS hok hA hK;have J:∀ {b:Addr} {o:Obj},B.heap.get? b=yz o->H b=yy->(Xd2 B.heap H).get? b=yz o:=λe n=>Xu6 e n;have ak:∀ {b:Addr} {o:Obj} {es:Array DictEntry} {ep:Nat},B.heap.get? b=yz o->o.data=.dict es ep->H b=none:=λ{b o es ep} e d=>by
   cases q:H b with
   |none=>rfl|some u=>have e':b=a:=hA b (by rw[q];simp);subst e';rw[ha]at e;cases e;have d':Data.seq vs.toArray _=Data.dict es ep:=d;cases d'
  have U:∀ {b:Addr} {m:Str->OV},B.heap.Ns b m->(Xd2 B.heap H).Ns b m:=λ{b m} ⟨o,es,ep,e,d,r⟩=>⟨o,es,ep,J e (ak e d),d,r⟩
  have af:K.In (Xd2 B.heap H):=λb o e=>J (KX b o e) (by
   cases q:H b with
   |none=>rfl|some u=>
    have e':b=a:=hA b (by rw[q];simp)
    subst e';rw[hK (by rw[q];simp)]at e;cases e)
  have hM:Mod K mg (Xd2 B.heap H):=⟨af,U ab,⟨mb,U L,ai⟩,let ⟨mc,h1,h2⟩:=ac;⟨mc,U h1,h2⟩⟩;have e0:Env0 P w K mg (Xd2 B.heap H) callerA [] B H:=⟨rfl,hM,λb o e=>Xzq e,Nat.le_of_eq (Xr7 _ _),trivial,λb L=>aB0 (show b∈([]:LR) from L) (by simp),hok,.of_eq hg⟩;refine Vet ((F _ af (U ab)).run callerA [] B H ⟨[.ref a],[]⟩ [.ref a] [.ref a] _ _ hr e0 (aa B (.ref a)) (.cons rfl .nil) (aj H hO hS)) λr s' h=>?_;cases r with
  |error e=>exact(ah H e s' h).elim|ok fl=>
   cases fl with
   |next=>exact Vgo h|brk=>exact Vgo h|cont=>exact Vgo h|ret u=>
    obtain⟨v,H',os,bare,un,ag,r',q⟩:=h;have q':v=.bl true:=q;subst q';obtain rfl:u=Vez true:=r';refine⟨rfl,OldK.of_keep λb o e=>?_,os,bare⟩;cases q:H b with
    |none=>exact un.keep b o e q (by intro z;exact aB0 (show b∈([]:LR) from z) (by simp)) (by simp)|some u=>
     rcases hO b with z|⟨ob,xs,z⟩;·rw[q]at z;cases z
     ·have z2:=un.frzs b ob _ z;obtain⟨e1,_⟩:=hok b _ z;obtain⟨e2,_⟩:=ag b _ z2;rw[e]at e1;cases e1;exact e2
 cases hk:K.lookup a with
 |some o=>have e:=KX a o hk;rw[ha]at e;cases e;refine Y (λ_=>yy) (λ_=>.inl rfl) (.inr ⟨_,vs.toArray,_,hk,rfl,rfl,rfl,by rw[Vr,ae];exact hl,by simpa using rv⟩) (λb u z=>by have z':(yy:Option HO)=yz u:=z;cases z') (λb z=>aB0 rfl z) λz=>aB0 rfl z|none=>
  refine Y (λb=>if b=a then yz (.frz {cls:=.type "list",data:=.seq vs.toArray} (.lst (ns.map V.int))) else yy) (λb=>?_) (.inl (.inr ⟨{cls:=.type "list",data:=.seq vs.toArray},iP0 rfl⟩)) (λb u z=>?_) (λb z=>?_) λ_=>hk
  ·by_cases L:b=a;·exact .inr ⟨_,_,iP0 L⟩
   ·exact .inl (iN0 L)
  ·by_cases L:b=a;·have z':=(iP0 L).symm.trans z;cases z';subst L;exact⟨ha,by rw[Ve];exact hl,vs,_,rv,ha⟩
   ·have z':=(iN0 L).symm.trans z;cases z'
  by_cases L:b=a;·exact L
  ·exact aB0 (iN0 L) z
end L2
namespace L2
open PySem PySem.Spec PyProof.Rows
theorem walk_of{l:PySem.W.OpenLaw}{n k:Nat}{q:V4}{loose:LS}{XP:(Str->OV)->Heap->Prop}{YP:Ua->Heap->Prop}{d:DefRec}{K:Params->Vj}{CX:Ua->CXT}{sp:Ua->Sp}{x:Str}
  (hn:l.most=yz n) (ab:n<=V8) (ac:d.params.defaults=[]) (hr:Room k callerA)
  (hY:∀(w:Ua) (h:Heap),YP w h->(K w.params).In h)
  (F:∀(w:Ua) (mg:Str->OV) (fa:Addr) (h:Heap),(K w.params).In h->h.Ns Uf mg->mg d.name=yz (.ref fa) ->
   ∃fd:Vdj,(∀(s:Vc) (u:Vb),BindsTo s fd ⟨[u],[]⟩ [(x,u)]) /\
    ∀base:Heap,(K w.params).In base->base.Ns Uf mg->FnOk l.prog w (K w.params) mg base (CX w) k fa fd [x] (sp w))
  (ae:∀(w:Ua) (H:Hp) (a:Addr) (ns:LI),lf ns<=n->Xqf H->SqL (K w.params) H a (ns.map V.int)->sp w [.ref a] H (λv _=>v=.bl yx) λ_ _ _=>False)
  (aa:∀(w:Ua) (H:Hp) (s:Vc) (e:Vb) (s':Vc),CX w [] H s (λ_ _ _=>False) e s'->False):
  PySem.W.WalkO q loose XP YP l.row.toRowW d [] (λf vs=>PySem.call f vs):=by
 refine Att.attach_call hn ac λw s₀ U mg mb fa o pm cd ah a vs ns G Y ho hd ag af L J B hg=>?_;have KX:=hY w _ Y;obtain⟨fd,hb,hF⟩:=F w mg fa _ KX G.T.g af;exact Xvc KX G.T.g G.T.b G.T.builtins G.T.nolimit hg L J (Uv B ab) hr hF hb (λH hO hS=>ae w H a ns B hO hS) λH e s'=>aa w H U e s'
end L2
/- THE LAST THEOREM (shape;LID,My.* are yours):
   My.Adr: a structure of the addresses that your layer names (classes,functions);My.Txt K t: a structure (Prop) of the equations over K;
   My.txt_mk:{K} {implicit addresses ..} (e1:nsIn K Uf "law"=yz (yz (.ref f))) (e2:K.lookup f=yz ⟨oc,od,.func (fnOf "law" "law" params body scope dV kV doc pm an cdv ct),sl⟩) (e3:codeIn K cdv "law"=yx) ..:∃t,My.Txt K t
set_option maxRecDepth 100000 in
set_option maxHeartbeats 0 in
theorem PySem.Challenge.cw_LID_holds : PySem.Challenge.rw_LID.Holds := by
 w_on;o_law;k_head;(case hw=>w_witness2)
 k_fill
 refine L2.walk_of (l:=PySem.Challenge.rw_LID) (n:=63) (k:=40) (x:="script") (CX:=λw=>..) (sp:=λ_=>My.sp_law) rfl (by decide) rfl ⟨rfl,by decide,by decide⟩ (λw h Y=>PySem.W.kIn_of Y) ?F ?S ?C
 case F =>
  intro w mg fa h KX G hmg;have T:∃t,My.Txt (L2.KOf KX) t:=by
   dsimp only[L2.KOf]                          -- K must stand as «<heap const> w.params» for k_is;refine' My.txt_mk ?e1 ?e2 ?e3 ..
   (case e1=>PySem.W.k_is)                    -- in the order: a name -> its address -> its object -> its parts
   (case e2=>PySem.W.k_is)
   ..
  obtain⟨t,T⟩:=T;have e0:=hmg.symm.trans (Vdu KX G T.law);cases e0                                       -- fa is the law's own address;exact⟨_,λs u=>.of_eq rfl,λbase kb nb=>My.law_fn T kb nb⟩     -- if «.of_eq rfl» comes too early: refine' ⟨_,?b,λbase kb nb=>My.law_fn T kb nb⟩;exact λs u=>.of_eq rfl
 case S=>exact λw H a ns hl hO hS=>..
 case C=>exact ..
(the tactic k_is has no namespace: write k_is) -/
namespace L2
open PySem PySem.Spec PyProof.Rows
noncomputable def Xaw(s:Stmt):Arguments:=match s with
 |.FunctionDef _ a _ _ _ _ _ _ _ _=>a|_=>{posonlyargs:=[],args:=[],vararg:=yy,kwonlyargs:=[],kw_defaults:=[],kwarg:=yy,defaults:=[]}
noncomputable def Yq(s:Stmt):LM:=match s with
 |.FunctionDef _ _ b _ _ _ _ _ _ _=>b|_=>[]
noncomputable def Xz(s:Stmt):U7:=match s with
 |.FunctionDef _ _ _ _ _ _ sc _ _ _=>sc|_=>{kind:=.function,names:=[],isGenerator:=yw,isCoroutine:=yw}
structure Fun(K:Vj)(x qual:Str)(st:Stmt)(f:Addr)(fd:Vdj):Prop where
 ex:∃(oc:Vb) (od:Option Addr) (kV doc pm:Vb) (an:Option Addr) (cdv ct:Vb) (osl:Array OV),
  fd=Vcs x qual (Xaw st) (Yq st) (Xz st) .none kV doc pm an cdv ct/\K.lookup f=yz ⟨oc,od,.func fd,osl⟩/\Vg1 K cdv qual=yx
 kp:Vd4 K (.ref f)=yx
section
variable{K:Vj}
theorem Fun.binds{x qual:Str}{st:Stmt}{f:Addr}{fd:Vdj}{ps:LS}(F:Fun K x qual st f fd)
  (h:∀(kV B L:Vb) (an:Option Addr) (J U:Vb) (us:LV),lf us=lf ps->bindArgs (Vcs x qual (Xaw st) (Yq st) (Xz st) .none kV B L an J U) ⟨us,[]⟩=pure (ps.zip us)):Binds K fd ps []:=by
 obtain⟨oc,od,kV,B,L,an,J,U,Y,rfl,lk,aa⟩:=F.ex;exact .all (h kV B L an J U)
theorem X3m{x qual:Str}{st:Stmt}{f:Addr}{oc:Vb}{od an:Option Addr}{L:Array (OV)}{kV J U B Y:Vb}(l:K.lookup f=yz ⟨oc,od,.func (Vcs x qual (Xaw st) (Yq st) (Xz st) .none kV J U an B Y),L⟩)
  (c:Vg1 K B qual=yx) (k:Vd4 K (.ref f)=yx):Fun K x qual st f (Vcs x qual (Xaw st) (Yq st) (Xz st) .none kV J U an B Y):=⟨⟨oc,od,kV,J,U,an,B,Y,L,rfl,l,c⟩,k⟩
end
end L2
end
section
namespace Z
open PySem PySem.SetTable
theorem Xof{xs:Array Nat}{i a b:Nat}(h:i<xs.size):xs.getD i a=xs.getD i b:=by simp[Vaj,h]
def Ris(xs:Array Nat):Prop:=xs.toList.Pairwise (· < ·)
theorem Ris.lt{xs:Array Nat}(h:Ris xs){i j a:Nat}(B:i<j)(J:j<xs.size):xs.getD i a<xs.getD j a:=by have:=Vfb.mp h i j (by simpa using Veu B J) (by simpa using J) B;simpa [Vaj,J,Veu B J] using this
theorem Xgk{xs:Array Nat}{j:Nat}(L:Ris xs):∀(B lo hi:Nat),hi<=xs.size->lo<=hi->hi-lo<=B->(∀k,k<lo->xs.getD k 0<j)->(∀k,hi<=k->k<xs.size->j<=xs.getD k 0) ->
  below.go xs j B lo hi<=xs.size/\(∀k,k<below.go xs j B lo hi->xs.getD k 0<j)/\∀k,below.go xs j B lo hi<=k->k<xs.size->j<=xs.getD k 0
 |0=>λlo hi h1 h2 h3 J U=>by
  have:lo=hi:=by omega
  subst this;exact⟨h1,J,U⟩|f+1=>λlo hi h1 h2 h3 J U=>by
  unfold below.go;by_cases hl:lo<hi
  ·rw[iP0 hl];dsimp only;have Y:(lo+hi)/2<xs.size:=by omega
   by_cases c:xs.getD ((lo+hi)/2) j<j
   ·rw[iP0 c];refine Xgk L f _ hi h1 (by omega) (by omega) (λk hk=>?_) U;rw[Xof (b:=0) Y]at c;by_cases e:k=(lo+hi)/2;·rw[e];exact c
    ·exact Veu (L.lt (by omega) Y) c
   rw[iN0 c];refine Xgk L f lo _ (by omega) (by omega) (by omega) J λk hk hs=>?_;rw[Xof (b:=0) Y]at c;by_cases e:k=(lo+hi)/2;·rw[e];omega
   ·have:=L.lt (a:=0) (show(lo+hi)/2<k by omega) hs;omega
  rw[iN0 hl];have:lo=hi:=by omega
  subst this;exact⟨h1,J,U⟩
theorem Xbw{xs:Array Nat}(J:Ris xs)(j:Nat):below xs j<=xs.size/\(∀k,k<below xs j->xs.getD k 0<j)/\∀k,below xs j<=k->k<xs.size->j<=xs.getD k 0:=
 Xgk J xs.size 0 xs.size (Vm _) (Ug _) (Vm _) (λk B=>aB0 B (Vcn _)) λk h1 h2=>aB0 h2 (Nat.not_lt.mpr h1)
structure Tb(t:Uj):Prop where
 ris:Ris t.place
 dum:t.dummies=#[]
theorem Xff{t:Uj}(T:Tb t)(j:Nat):(∃i,t.slot j=.live i/\t.place[i]?=yz j)\/(t.slot j=.empty/\∀k,k<t.place.size->t.place.getD k 0≠j):=by
 obtain⟨b1,b2,b3⟩:=Xbw T.ris j;have hs:t.slot j=if t.place[below t.place j]?==yz j then .live (below t.place j) else .empty:=by
  unfold SetTable.slot SetTable.has;rw[T.dum];dsimp only;split;·rfl
  ·simp
 rw[hs];by_cases c:(t.place[below t.place j]?==yz j)=yx;·rw[iP0 c];exact .inl ⟨_,rfl,eq_of_beq c⟩
 ·rw[iN0 c];refine .inr ⟨rfl,λk B e=>c ?_⟩;by_cases q:k<below t.place j;·have:=b2 k q;omega
  ·by_cases J:k=below t.place j
   ·subst J;have:t.place[below t.place j]?=yz j:=by
     rw[Ue B];simp[Vaj,B]at e;rw[e]
    rw[this];exact beq_self_eq_true _
   have h1:=b3 _ (Vm _) (by omega);have h2:=T.ris.lt (a:=0) (show below t.place j<k by omega) B;omega
theorem gap{xs:Array Nat}(J:Ris xs):∀n,n<=xs.size->(∀k,k<n->xs.getD k 0=k)\/∃e,e<n/\∀k,k<xs.size->xs.getD k 0≠e
 |0=>λ_=>.inl λk B=>aB0 B (Vcn _)|n+1=>λh=>by
  rcases gap J n (by omega) with q|⟨e,L,q⟩
  ·by_cases c:xs.getD n 0=n
   ·exact .inl λk B=>by
     by_cases z:k=n;·rw[z,c]
     ·exact q k (by omega)
   refine .inr ⟨n,by omega,λk B=>?_⟩;have hn:n<=xs.getD n 0:=by
    cases n with
    |zero=>exact Ug _|succ m=>have h1:=J.lt (a:=0) (show m<m+1 by omega) (by omega);have h2:=q m (by omega);omega
   rcases Vhl k n with z|z|z;·have:=q k z;omega
   ·rw[z];exact c
   have:=J.lt (a:=0) z B;omega
  exact .inr ⟨e,by omega,q⟩
theorem Xqg{t:Uj}(T:Tb t):∃e,e<=t.place.size/\t.slot e=.empty:=by
 have B:∃e,e<=t.place.size/\∀k,k<t.place.size->t.place.getD k 0≠e:=by
  rcases gap T.ris _ (Vm _) with q|⟨e,J,q⟩;·exact⟨t.place.size,Vm _,λk L z=>by have:=q k L;omega⟩
  ·exact⟨e,by omega,q⟩
 obtain⟨e,J,q⟩:=B;refine⟨e,J,?_⟩;rcases Xff T e with⟨i,_,h⟩|⟨h,_⟩;·obtain⟨hi,U⟩:=U3.mp h;exact aB0 (by simp[Vaj,hi,U]) (q i hi)
 ·exact h
noncomputable def fiv(m x:Nat):Nat:=(x*5+1)%(m+1)
noncomputable def itf(m:Nat):Nat->Nat->Nat
 |0,x=>x|k+1,x=>itf m k (fiv m x)
noncomputable def orM(m:Nat):Nat->Nat->Nat->Nat
 |0,_,a=>a|n+1,x,a=>orM m n (fiv m x) (a ||| (1 <<< x))
theorem Xog(m e:Nat):∀(n x a:Nat),(orM m n x a).testBit e=yx->a.testBit e=yx\/∃k,k<n/\itf m k x=e
 |0=>λx a h=>.inl h|n+1=>λx a h=>by
  rcases Xog m e n _ _ h with q|⟨k,B,q⟩
  ·rw[Nat.testBit_or,Vc5]at q;rcases q with q|q;·exact .inl q
   ·refine .inr ⟨0,by omega,?_⟩;rw[Nat.one_shiftLeft,Nat.testBit_two_pow]at q;simpa [itf] using q
  exact .inr ⟨k+1,by omega,q⟩
noncomputable def rnd(m:Nat):Nat->Nat×Nat->Nat×Nat
 |0,p=>p|r+1,p=>rnd m r (leap m p.1 p.2)
theorem Xoh(m a:Nat):∀(b:Nat) (p:Nat×Nat),rnd m (b+a) p=rnd m a (rnd m b p)
 |0=>λp=>by simp[rnd]|b+1=>λp=>by rw[Vhb];exact Xoh m a b _
theorem Xoi(m:Nat):∀(r:Nat) (p:Nat×Nat),(rnd m r p).2=p.2/32^r
 |0=>λp=>by simp[rnd]|r+1=>λp=>by rw[rnd,Xoi m r];show p.2/32/32^r=_;rw[Nat.div_div_eq_div_mul,Nat.pow_succ,Nat.mul_comm]
theorem Xle(m:Nat):∀(r i:Nat),rnd m r (i,0)=(itf m r i,0)
 |0=>λi=>rfl|r+1=>λi=>by
  have:leap m i 0=(fiv m i,0):=by simp[leap,fiv]
  rw[rnd];show rnd m r (leap m i 0)=_;rw[this];exact Xle m r _
theorem Xsg(m:Nat):∀(r:Nat) (p:Nat×Nat),p.1<m+1->(rnd m r p).1<m+1
 |0=>λp h=>h|r+1=>λp h=>Xsg m r _ (Vfq _ (by omega))
noncomputable def its(t:Uj):Nat->Probe->Probe
 |0,p=>p|n+1,p=>its t n (t.advance p)
theorem Xcj(t:Uj)(a:Nat):∀(b:Nat) (p:Probe),its t (b+a) p=its t a (its t b p)
 |0=>λp=>by simp[its]|b+1=>λp=>by rw[Vhb];exact Xcj t a b _
noncomputable def Xda(t:Uj)(p:Nat×Nat):Probe:={j:=p.1,more:=runEnd t.mask p.1-p.1,i:=p.1,perturb:=p.2,dummy:=yy}
theorem Xej(t:Uj)(i q:Nat):∀(m j:Nat),its t (m+1) {j:=j,more:=m,i:=i,perturb:=q,dummy:=yy}=Xda t (leap t.mask i q)
 |0,j=>by simp[its,advance,Xda]|m+1,j=>by
  rw[its];have:t.advance {j:=j,more:=m+1,i:=i,perturb:=q,dummy:=yy}={j:=j+1,more:=m,i:=i,perturb:=q,dummy:=yy}:=by simp[advance]
  rw[this];exact Xej t i q m (j+1)
theorem X3n(m i:Nat):runEnd m i-i<=9:=by unfold runEnd;split<;>omega
theorem Xlf(t:Uj):∀(r:Nat) (p:Nat×Nat),∃n,n<=10*r/\its t n (Xda t p)=Xda t (rnd t.mask r p)
 |0=>λp=>⟨0,Vm _,rfl⟩|r+1=>λp=>by obtain⟨n,hn,e⟩:=Xlf t r (leap t.mask p.1 p.2);refine⟨(runEnd t.mask p.1-p.1+1)+n,by have:=X3n t.mask p.1;omega,?_⟩;rw[Xcj,Xda,Xej t p.1 p.2];exact e
theorem Xj1(t:Uj)(p:Probe):(t.advance p).dummy=p.dummy:=by
 unfold advance;split;·rfl
 ·rfl
theorem Xoj(h:Int):bits h<2^64:=by unfold bits;omega
theorem Xa7{α:Type}(xs:Array α)(p:Nat)(x:α)(hp:p<=xs.size):(insertAt xs p x).toList=xs.toList.take p++x::xs.toList.drop p:=by unfold insertAt;simp only[Array.toList_append,Vhm,Array.toList_extract,List.extract_eq_take_drop,Vfr,Nat.sub_zero];have:List.take (xs.size-p) (List.drop p xs.toList)=List.drop p xs.toList:=Vct (by simp);rw[this,Vh];rfl
theorem Xzx{xs:Array Nat}(U:Ris xs){j:Nat}(hj:∀k,k<xs.size->xs.getD k 0≠j):Ris (insertAt xs (below xs j) j):=by
 obtain⟨b1,b2,b3⟩:=Xbw U j;unfold Ris;rw[Xa7 _ _ _ b1];have at_:∀k,(B:k<lf xs.toList)->xs.toList[k]=xs.getD k 0:=λk B=>by
  have Y:k<xs.size:=by simpa using B
  simp[Vaj,Y]
 have lo:∀x∈xs.toList.take (below xs j),x<j:=λx L=>by obtain⟨k,B,rfl⟩:=Vb3.mp L;rw[Um]at B;rw[List.getElem_take,at_];exact b2 k (by omega)
 have hi:∀x∈xs.toList.drop (below xs j),j<x:=λx L=>by obtain⟨k,B,rfl⟩:=Vb3.mp L;rw[Vbf,V7]at B;rw[List.getElem_drop,at_];have h1:=b3 (below xs j+k) (by omega) (by omega);have h2:=hj (below xs j+k) (by omega);omega
 refine List.pairwise_append.mpr ⟨List.Pairwise.sublist (List.take_sublist _ _) U,Uy.mpr ⟨hi,List.Pairwise.sublist (List.drop_sublist _ _) U⟩,λa ha b J=>?_⟩;rcases Vn.mp J with rfl|J;·exact lo a ha
 ·exact Veu (lo a ha) (hi b J)
theorem Xax{t:Uj}(T:Tb t):t.fill=t.place.size:=by unfold fill;rw[T.dum];rfl
theorem Xsh{t:Uj}(T:Tb t){j:Nat}(B:t.slot j=.empty):Tb (t.put j).1/\(t.put j).1.place.size=t.place.size+1/\(t.put j).1.mask=t.mask/\(t.put j).1.plain=t.plain/\(t.put j).1.led=t.led/\(t.put j).2<=t.place.size:=by
 have J:∀k,k<t.place.size->t.place.getD k 0≠j:=by
  rcases Xff T j with⟨i,h,_⟩|⟨_,h⟩;·rw[h]at B;cases B
  ·exact h
 obtain⟨b1,_⟩:=Xbw T.ris j;refine⟨⟨Xzx T.ris J,?_⟩,?_,rfl,rfl,rfl,b1⟩;·show(if has t.dummies j=yx then _ else t.dummies)=_;rw[T.dum];simp[has]
 ·show(insertAt t.place (below t.place j) j).size=_;rw[<-V7,Xa7 _ _ _ b1];simp;omega
theorem Xlg(k:Nat):∀(l:List (Option Nat)) (j:Nat),l[j]?=yz yy->((l.set j (yz k)).filterMap id).Perm (k::l.filterMap id)
 |[],j=>λh=>by simp at h|o::l,0=>λh=>by simp only[gZ0,Vv]at h;subst h;exact Vau _|o::l,j+1=>λh=>by
  have ih:=Xlg k l j (by simpa using h);cases o with
  |none=>exact ih|some a=>exact(ih.cons a).trans (Vfs k a _)
theorem Xj2:∀(l:List (Option Nat)),(l.filterMap id).length<lf l->∃j:Nat,l[j]?=yz yy
 |[]=>λh=>by simp at h|o::l=>λh=>by
  cases o with
  |none=>exact⟨0,rfl⟩|some a=>obtain⟨j,B⟩:=Xj2 l (by simpa using h);exact⟨j+1,by simpa using B⟩
theorem Xlh{m:Nat}{ow:Array (Option Nat)}:∀(B r i q:Nat),r<B->ow[(rnd m r (i,q)).1]?=yz yy->∃j,layClean.free m ow B i q=yz j/\ow[j]?=yz yy
 |0=>λr i q L _=>aB0 L (Vcn _)|f+1=>λr i q L h=>by
  unfold layClean.free;cases e:(Vs (runEnd m i+1-i)).find? λk=>(ow.getD (i+k) (yz 0)).isNone with
  |some k=>
   refine⟨i+k,rfl,?_⟩;have z:=List.find?_some e;by_cases J:i+k<ow.size;·rw[Ue J];simp only[Vaj,J,dite_true]at z;simpa using z
   ·simp[Vaj,J]at z|none=>
   dsimp only;cases r with
   |zero=>have z:=List.find?_eq_none.mp e 0 (U6.mpr (by unfold runEnd;split<;>omega));obtain⟨hi,U⟩:=U3.mp (show ow[i]?=yz yy from h);simp[Vaj,hi,U]at z|succ r=>exact Xlh f r _ _ (by omega) h
def Own(m:Nat)(ow:Array (Option Nat))(k:Nat):Prop:=ow.size=m+1/\(ow.toList.filterMap id).Perm (Vs k)
theorem Xli:∀(l:List (Option Nat)) (s:Nat) (g:Nat->Option Nat),(∀i,i<lf l->g (s+i)=l.getD i yy)->((List.range' s l.length).filterMap λj=>(g j).map (j,·)).map (·.2)=l.filterMap id
 |[]=>λs g h=>rfl|o::l=>λs g h=>by
  have B:=h 0 (by simp);have ih:=Xli l (s+1) g λi hi=>by have:=h (i+1) (by simp;omega);rw[show s+1+i=s+(i+1) by omega,this];rfl
  rw[U1,List.range'_succ,Uz];rw[Nat.add_zero]at B;rw[B];cases o with
  |none=>simpa using ih|some a=>simpa using ih
theorem Xlj(g:Nat->Option Nat):∀(l:LN),l.Pairwise (· < ·)->(((l.filterMap λj=>(g j).map (j,·)).map (·.1)).Pairwise (· < ·)/\∀x∈(l.filterMap λj=>(g j).map (j,·)).map (·.1),x∈l)
 |[]=>λ_=>⟨Vb7,λx B=>by simp at B⟩|a::l=>λh=>by
  obtain⟨h1,h2⟩:=Uy.mp h;obtain⟨i1,i2⟩:=Xlj g l h2;rw[Uz];cases e:g a with
  |none=>simp only[Vgp];exact⟨i1,λx B=>V5 _ (i2 x B)⟩|some b=>
   simp only[V2,Ux];refine⟨Uy.mpr ⟨λx B=>h1 x (i2 x B),i1⟩,λx B=>?_⟩;rcases Vn.mp B with rfl|B;·exact Vz
   ·exact V5 _ (i2 x B)
def Cy(m:Nat):Prop:=∀x e,x<m+1->e<m+1->∃k,k<m+1/\itf m k x=e
theorem Xfg(m a:Nat):∀(b x:Nat),itf m (b+a) x=itf m a (itf m b x)
 |0=>λx=>by simp[itf]|b+1=>λx=>by rw[Vhb];exact Xfg m a b _
noncomputable def orb(m:Nat):Bool:=orM m (m+1) 0 0==2^(m+1)-1&&itf m (m+1) 0==0
theorem X8d{m:Nat}(h:orb m=yx):Cy m:=by
 unfold orb at h;rw[bA0]at h;have B:itf m (m+1) 0=0:=eq_of_beq h.2;have all:∀e,e<m+1->∃k,k<m+1/\itf m k 0=e:=λe J=>by
  have z:(orM m (m+1) 0 0).testBit e=true:=by rw[eq_of_beq h.1,Nat.testBit_two_pow_sub_one];exact decide_eq_true J
  rcases Xog m e _ _ _ z with w|w;·simp at w
  ·exact w
 intro x e L J;obtain⟨a,U,rfl⟩:=all x L;obtain⟨b,Y,rfl⟩:=all e J;by_cases c:a<=b;·exact⟨b-a,by omega,by rw[<-Xfg,show a+(b-a)=b by omega]⟩
 ·refine⟨m+1-a+b,by omega,?_⟩;rw[<-Xfg,show a+(m+1-a+b)=m+1+b by omega,Xfg,B]
def Mg(m:Nat):Prop:=m=7\/m=31\/m=127\/m=511\/m=2047\/m=8191
theorem Mg.cy{m:Nat}(h:Mg m):Cy m:=by rcases h with rfl|rfl|rfl|rfl|rfl|rfl<;>exact X8d (by decide+kernel)
theorem Mg.le{m:Nat}(h:Mg m):m<=8191:=by rcases h with rfl|rfl|rfl|rfl|rfl|rfl<;>omega
theorem Xj3{m:Nat}(B:Cy m){i q e:Nat}(hi:i<m+1)(U:q<2^64)(J:e<m+1):∃r,r<m+14/\(rnd m r (i,q)).1=e:=by
 have h1:(rnd m 13 (i,q)).2=0:=by rw[Xoi];exact Nat.div_eq_of_lt (Ub U (by decide))
 have h2:=Xsg m 13 (i,q) hi;obtain⟨k,Y,L⟩:=B _ _ h2 J;refine⟨13+k,by omega,?_⟩;rw[Xoh];have:rnd m 13 (i,q)=((rnd m 13 (i,q)).1,0):=Prod.ext rfl h1;rw[this,Xle];exact L
noncomputable def tm(m:Nat):Uj:={mask:=m,place:=#[],dummies:=#[],finger:=0,led:=yx,moves:=0,plain:=yx}
theorem Xlk(t:Uj):∀(n:Nat) (p:Probe),its t n p=its (tm t.mask) n p
 |0=>λp=>rfl|n+1=>λp=>Xlk t n (t.advance p)
noncomputable def pth(m:Nat)(h:Int)(n:Nat):Nat:=(its (tm m) n ((tm m).probeStart h)).j
theorem Xcq{t:Uj}(T:Tb t)(j:Nat):t.slot j=.empty ↔ j ∉ t.place.toList:=by
 rcases Xff T j with⟨i,h1,h2⟩|⟨h1,h2⟩
 ·rw[h1];rw[<-Uh]at h2;have J:=V6 h2;constructor;·intro z;cases z
  ·intro z;exact aB0 J z
 refine⟨λ_ J=>?_,λ_=>h1⟩;obtain⟨i,hi,e⟩:=Vb3.mp J;have B:i<t.place.size:=by simpa using hi
 exact h2 i B (by simp[Vaj,B];simpa using e)
theorem Xek{t:Uj}(T:Tb t){j:Nat}(h:j∈t.place.toList):∃i,t.slot j=.live i/\t.place[i]?=yz j:=by
 rcases Xff T j with h1|⟨h1,_⟩;·exact h1
 ·exact aB0 h ((Xcq T j).mp h1)
theorem Xok(t:Uj):∀(n:Nat) (p:Probe),(its t n p).dummy=p.dummy
 |0=>λp=>rfl|n+1=>λp=>(Xok t n _).trans (Xj1 t p)
theorem Xqh{t:Uj}(T:Tb t)(f:Nat->Int)(h:Int):∀(d B:Nat) (p:Probe),p.dummy=yy->d<B->(its t d p).j ∉ t.place.toList->(∀k,k<d->(its t k p).j∈t.place.toList) ->
  ((∀k,k<d->∀i,t.slot (its t k p).j=.live i->f i≠h)/\probe.go t f h B p=yz (.empty (its t d p).j yy)) \/
  ∃k i,k<d/\t.slot (its t k p).j=.live i/\f i=h/\(∀J,J<k->∀U,t.slot (its t J p).j=.live U->f U≠h)/\probe.go t f h B p=yz (.candidate (its t k p).j i (its t (k+1) p))
 |0,0=>λp _ hf _ _=>aB0 hf (Vcn _)|d+1,0=>λp _ hf _ _=>aB0 hf (Vcn _)|0,B+1=>λp hd _ he _=>by refine .inl ⟨λk L=>aB0 L (Vcn _),?_⟩;unfold probe.go;rw[(Xcq T _).mpr (show p.j ∉ _ from he),hd];rfl|d+1,B+1=>λp hd hf he hl=>by
  have h0:p.j∈t.place.toList:=hl 0 (by omega);obtain⟨i,Y,s2⟩:=Xek T h0;by_cases c:f i=h;·refine .inr ⟨0,i,by omega,Y,c,λJ L=>aB0 L (Vcn _),?_⟩;unfold probe.go;rw[Y];dsimp only;rw[c,beq_self_eq_true,iP0 rfl];rfl
  ·have hg:probe.go t f h (B+1) p=probe.go t f h B (t.advance p):=by
    conv=>lhs;unfold probe.go
    rw[Y];dsimp only;rw[iN0 (by simpa using c)]
   rw[hg];rcases Xqh T f h d B (t.advance p) (by rw[Xj1];exact hd) (by omega) he (λk L=>hl (k+1) (by omega)) with⟨g1,g2⟩|⟨k,U,g1,g2,g3,g4,g5⟩
   ·refine .inl ⟨λk L U hi=>?_,g2⟩;cases k with
    |zero=>rw[show(its t 0 p).j=p.j from rfl,Y]at hi;cases hi;exact c|succ k=>exact g1 k (by omega) U hi
   refine .inr ⟨k+1,U,by omega,g2,g3,λJ L aa hi=>?_,g5⟩;cases J with
   |zero=>rw[show(its t 0 p).j=p.j from rfl,Y]at hi;cases hi;exact c|succ J=>exact g4 J (by omega) aa hi
theorem Xol{t:Uj}(T:Tb t)(hm:Cy t.mask)(hn:t.place.size<=t.mask)(h:Int):∃N,N<10*turns t.mask/\pth t.mask h N ∉ t.place.toList/\∀k,k<N->pth t.mask h k∈t.place.toList:=by
 obtain⟨e,he,hs⟩:=Xqg T;obtain⟨r,hr,e1⟩:=Xj3 hm (i:=bits h%(t.mask+1)) (q:=bits h) (Vfq _ (by omega)) (Xoj h) (e:=e) (by omega);obtain⟨n,Y,e2⟩:=Xlf (tm t.mask) r (bits h%(t.mask+1),bits h);have st:(tm t.mask).probeStart h=Xda (tm t.mask) (bits h%(t.mask+1),bits h):=rfl;have q:pth t.mask h n=e:=by unfold pth;rw[st,e2];exact e1
 have U:pth t.mask h n ∉ t.place.toList:=by rw[q];exact(Xcq T e).mp hs
 have B:∀n,pth t.mask h n ∉ t.place.toList->∃N,N<=n/\pth t.mask h N ∉ t.place.toList/\∀k,k<N->pth t.mask h k∈t.place.toList:=λn=>by
  induction n using Nat.strongRecOn with
  |ind n ih=>
   intro hn;by_cases c:∀k,k<n->pth t.mask h k∈t.place.toList;·exact⟨n,Vm _,hn,c⟩
   ·obtain⟨k,hk⟩:=Classical.not_forall.mp c;obtain⟨L,J⟩:=Classical.not_imp.mp hk;obtain⟨N,a,b,d⟩:=ih k L J;exact⟨N,by omega,b,d⟩
 obtain⟨N,a,b,d⟩:=B n U;exact⟨N,by unfold turns;omega,b,d⟩
noncomputable def Ats(t:Uj)(es:Array (Int×Vb)):List (Nat×Int×Vb):=t.place.toList.zip es.toList
def Xqi(t:Uj)(es:Array (Int×Vb)):Prop:=∀j h x,(j,h,x)∈Ats t es->∃n,pth t.mask h n=j/\∀k,k<n->pth t.mask h k∈t.place.toList
theorem X3o{t:Uj}{es:Array (Int×Vb)}{i j:Nat}{e:Int×Vb}(h1:t.place[i]?=yz j)(h2:es[i]?=yz e):(j,e)∈Ats t es:=by
 have:(Ats t es)[i]?=yz (j,e):=by unfold Ats;rw[List.getElem?_zip_eq_some];exact⟨by rw[Uh];exact h1,by rw[Uh];exact h2⟩
 exact V6 this
theorem Xom{α:Type}(l:List α)(p:Nat)(a x:α):x∈l.take p++a::l.drop p ↔ x=a\/x∈l:=by
 conv=>rhs;rw[<-Vbx p l]
 simp only[Uq,Vn];constructor
 ·rintro (h|h|h);·exact .inr (.inl h)
  ·exact .inl h
  exact .inr (.inr h)
 rintro (h|h|h);·exact .inr (.inl h)
 ·exact .inl h
 exact .inr (.inr h)
theorem Xon{α β:Type}:∀(xs:List α) (ys:List β) (p:Nat) (a:α) (b:β),lf xs=lf ys->(xs.take p++a::xs.drop p).zip (ys.take p++b::ys.drop p)=(xs.zip ys).take p++(a,b)::(xs.zip ys).drop p
 |xs,ys,0=>λa b _=>by simp|[],[],p+1=>λa b _=>by simp|x::xs,y::ys,p+1=>λa b h=>by have ih:=Xon xs ys p a b (by simpa using h);simp only[List.take_succ_cons,List.drop_succ_cons,Vd9,Vfh];rw[ih]|[],_::_,_+1=>λ_ _ h=>by simp at h|_::_,[],_+1=>λ_ _ h=>by simp at h
theorem Xsi{t:Uj}(T:Tb t)(j:Nat)(x:Nat):x∈(t.put j).1.place.toList ↔ x=j\/x∈t.place.toList:=by obtain⟨b1,_⟩:=Xbw T.ris j;show x∈(insertAt t.place (below t.place j) j).toList ↔ _;rw[Xa7 _ _ _ b1];exact Xom _ _ _ _
theorem Xzy{t:Uj}{es:Array (Int×Vb)}(T:Tb t)(hs:t.place.size=es.size)(j:Nat)(e:Int×Vb)(x:Nat×Int×Vb):x∈Ats (t.put j).1 (insertAt es (t.put j).2 e) ↔ x=(j,e)\/x∈Ats t es:=by obtain⟨b1,_⟩:=Xbw T.ris j;show x∈(insertAt t.place (below t.place j) j).toList.zip (insertAt es (below t.place j) e).toList ↔ _;rw[Xa7 _ _ _ b1,Xa7 _ _ _ (by rw[<-hs];exact b1),Xon _ _ _ _ _ (by simpa using hs)];exact Xom _ _ _ _
theorem Xzz{t:Uj}{es:Array (Int×Vb)}(T:Tb t)(hs:t.place.size=es.size)(O:Xqi t es){h:Int}{x:Vb}{N:Nat}(hN:∀k,k<N->pth t.mask h k∈t.place.toList):
  Xqi (t.put (pth t.mask h N)).1 (insertAt es (t.put (pth t.mask h N)).2 (h,x)):=by
 intro j h' Y B;rw[Xzy T hs]at B;have L:∀y,y∈t.place.toList->y∈(t.put (pth t.mask h N)).1.place.toList:=λy U=>(Xsi T _ y).mpr (.inr U);rcases B with e|B;·cases e;exact⟨N,rfl,λk J=>L _ (hN k J)⟩
 ·obtain⟨n,e,q⟩:=O j h' Y B;exact⟨n,e,λk J=>L _ (q k J)⟩
theorem Xfh(t:Uj)(q:Nat)(i:Nat):∀(k m j:Nat),k<=m->(its t k {j:=j,more:=m,i:=i,perturb:=q,dummy:=yy})={j:=j+k,more:=m-k,i:=i,perturb:=q,dummy:=yy}
 |0,m,j,_=>by simp[its]|k+1,m,j,h=>by
  have e:t.advance {j:=j,more:=m,i:=i,perturb:=q,dummy:=yy}={j:=j+1,more:=m-1,i:=i,perturb:=q,dummy:=yy}:=by
   have:m>0:=by omega
   simp[advance,this]
  rw[its,e,Xfh t q i k (m-1) (j+1) (by omega)];congr 1;·omega
  ·omega
theorem Xll{m i:Nat}(h:i<m+1):runEnd m i<m+1:=by unfold runEnd;split<;>omega
theorem Xlm(m i:Nat):i<=runEnd m i:=by unfold runEnd;split<;>omega
theorem Xln{m:Nat}{ow:Array (Option Nat)}(ho:ow.size=m+1):∀(J i q j:Nat),i<m+1->layClean.free m ow J i q=yz j->ow[j]?=yz yy/\∃n,(its (tm m) n (Xda (tm m) (i,q))).j=j/\∀k,k<n->ow[(its (tm m) k (Xda (tm m) (i,q))).j]?≠yz yy
 |0=>λi q j _ h=>by simp[layClean.free]at h|f+1=>λi q j hi h=>by
  unfold layClean.free at h;have ge:=Xlm m i;have lt:=Xll hi;have B:∀c,c<runEnd m i+1-i->(ow.getD (i+c) (yz 0)).isNone=yw->ow[i+c]?≠yz none:=λc hc hz hn=>by obtain⟨h1,h2⟩:=U3.mp hn;simp[Vaj,h1,h2]at hz
  cases e:(Vs (runEnd m i+1-i)).find? λk=>(ow.getD (i+k) (yz 0)).isNone with
  |some k=>
   rw[e]at h;cases h;have z:=List.find?_some e;have kl:k<runEnd m i+1-i:=U6.mp (List.mem_of_find?_eq_some e);refine⟨?_,k,?_,λc hc=>?_⟩
   ·by_cases U:i+k<ow.size;·rw[Ue U];simp only[Vaj,U,dite_true]at z;simpa using z
    ·simp[Vaj,U]at z
   ·show(its (tm m) k {j:=i,more:=runEnd m i-i,i:=i,perturb:=q,dummy:=yy}).j=_;rw[Xfh _ _ _ k _ _ (by omega)]
   show ow[(its (tm m) c {j:=i,more:=runEnd m i-i,i:=i,perturb:=q,dummy:=yy}).j]?≠_;rw[Xfh _ _ _ c _ _ (by omega)];refine B c (by omega) ?_;have:=(List.find?_range_eq_some.mp e).2.2 c hc;rw[Vav]at this;exact this|none=>
   rw[e]at h;have hn:=List.find?_eq_none.mp e;have L:∀c,c<runEnd m i+1-i->ow[i+c]?≠yz none:=λc hc=>B c hc (by have:=hn c (U6.mpr hc);rw[Bool.not_eq_true]at this;exact this);have hl:(leap m i q).1<m+1:=Vfq _ (by omega);obtain⟨g1,n,g2,g3⟩:=Xln ho f (leap m i q).1 (leap m i q).2 j hl h;have Y:its (tm m) (runEnd m i-i+1) (Xda (tm m) (i,q))=Xda (tm m) (leap m i q):=Xej (tm m) i q (runEnd m i-i) i;refine⟨g1,runEnd m i-i+1+n,?_,λc hc=>?_⟩;·rw[Xcj,Y];exact g2
   ·by_cases q':c<runEnd m i-i+1;·show ow[(its (tm m) c {j:=i,more:=runEnd m i-i,i:=i,perturb:=q,dummy:=yy}).j]?≠_;rw[Xfh _ _ _ c _ _ (by omega)];exact L c (by omega)
    ·have e2:c=runEnd m i-i+1+(c-(runEnd m i-i+1)):=by omega
     rw[e2,Xcj,Y];exact g3 _ (by omega)
theorem Xsj{m:Nat}:∀(n:Nat) (p:Probe),p.j+p.more<m+1->(its (tm m) n p).j+(its (tm m) n p).more<m+1
 |0=>λp h=>h|n+1=>λp h=>by
  refine Xsj n _ ?_;unfold advance;split;·show p.j+1+(p.more-1)<m+1;omega
  ·have B:(leap m p.i p.perturb).1<m+1:=Vfq _ (by omega);show(leap m p.i p.perturb).1+(runEnd m (leap m p.i p.perturb).1-(leap m p.i p.perturb).1)<m+1;have:=Xll B;have:=Xlm m (leap m p.i p.perturb).1;omega
theorem X3p(m:Nat)(h:Int)(n:Nat):pth m h n<m+1:=by have B:bits h%(m+1)<m+1:=Vfq _ (by omega);have:=Xsj (m:=m) n ((tm m).probeStart h) (by show bits h%(m+1)+(runEnd m (bits h%(m+1))-bits h%(m+1))<m+1;have:=Xll B;have:=Xlm m (bits h%(m+1));omega);unfold pth;omega
structure OwnG(m:Nat)(ow:Array (Option Nat))(hs:LI)(k:Nat):Prop where
 own:Own m ow k
 way:∀j c,ow[j]?=yz (yz c)->∃h,hs[c]?=yz h/\∃n,pth m h n=j/\∀i,i<n->ow[pth m h i]?≠yz yy
theorem Xsk{m:Nat}(hm:Cy m){ow:Array (Option Nat)}{hs:LI}{k:Nat}{h:Int}(O:OwnG m ow hs k)(hk:k<m+1)(hh:hs[k]?=yz h):∃j,layClean.free m ow (turns m) (bits h%(m+1)) (bits h)=yz j/\OwnG m (ow.setIfInBounds j (yz k)) hs (k+1):=by
 obtain⟨J,Y⟩:=O.own;obtain⟨e,he⟩:=Xj2 ow.toList (by rw[Y.length_eq,Vap,V7,J];exact hk);have L:e<m+1:=by have:=(Vi.mp he).1;rw[V7,J]at this;exact this
 have B:bits h%(m+1)<m+1:=Vfq _ (by omega);obtain⟨r,hr,e1⟩:=Xj3 hm (i:=bits h%(m+1)) (q:=bits h) B (Xoj h) L;obtain⟨j,f1,U⟩:=Xlh (m:=m) (ow:=ow) (turns m) r (bits h%(m+1)) (bits h) (by unfold turns;omega) (by rw[e1,<-Uh];exact he);obtain⟨_,n,w1,w2⟩:=Xln J (turns m) _ _ j B f1;have up:∀x,ow[x]?≠yz yy->(ow.setIfInBounds j (yz k))[x]?≠yz none:=λx hx=>by
  rw[Array.getElem?_setIfInBounds];split
  ·split;·intro z;cases z
   ·intro z;cases z
  exact hx
 refine⟨j,f1,⟨by rw[Array.size_setIfInBounds,J],?_⟩,λj' c hc=>?_⟩;·rw[Array.toList_setIfInBounds];refine(Xlg k _ j (by rw[Uh];exact U)).trans ((Y.cons k).trans ?_);rw[List.range_succ];exact(List.perm_append_singleton k (Vs k)).symm
 ·by_cases q:j=j';·subst q;have hj:=(U3.mp U).1;rw[Array.getElem?_setIfInBounds_self_of_lt hj]at hc;cases hc;exact⟨h,hh,n,w1,λi hi=>up _ (w2 i hi)⟩
  ·rw[Array.getElem?_setIfInBounds_ne q]at hc;obtain⟨h',g1,n',g2,g3⟩:=O.way j' c hc;exact⟨h',g1,n',g2,λi hi=>up _ (g3 i hi)⟩
theorem Xlo{m:Nat}(J:Cy m)(all:LI):∀(hs:LI) (ow:Array (Option Nat)) (k:Nat),OwnG m ow all k->(∀i,hs[i]?=all[k+i]?)->k+lf hs<m+1->∃B,OwnG m B all (k+lf hs) /\
  hs.foldl (λacc h=>do
   let (owner,k) <- acc
   let j <- layClean.free m owner (turns m) (bits h%(m+1)) (bits h)
   pure (owner.setIfInBounds j (yz k),k+1)) (yz (ow,k))=yz (B,k+lf hs)
 |[]=>λow k O _ _=>⟨ow,O,rfl⟩|h::hs=>λow k O L hl=>by rw[U1]at hl;obtain⟨j,f1,U⟩:=Xsk J O (by omega) (by have:=L 0;simpa using this.symm);obtain⟨B,Y,e⟩:=Xlo J all hs _ (k+1) U (λi=>by have:=L (i+1);rw[gS0]at this;rw[this,show k+(i+1)=k+1+i by omega]) (by omega);refine⟨B,by rw[U1,show k+(lf hs+1)=k+1+lf hs by omega];exact Y,?_⟩;rw[Vel,U1,show k+(lf hs+1)=k+1+lf hs by omega,<-e];congr 1;show(layClean.free m ow (turns m) (bits h%(m+1)) (bits h)).bind _=_;rw[f1];rfl
theorem Xlp{ow:Array (Option Nat)}{m:Nat}(J:ow.size=m+1)(j c:Nat):(j,c)∈(Vs (m+1)).filterMap (λj=>(ow.getD j yy).map (j,·)) ↔ ow[j]?=yz (yz c):=by
 rw[Vek];constructor
 ·rintro ⟨x,hx,e⟩;rw[U6]at hx;have B:x<ow.size:=by omega
  simp only[Vaj,B,dite_true]at e;cases q:ow[x]'B with
  |none=>rw[show ow.getInternal x B=ow[x] from rfl,q]at e;cases e|some y=>rw[show ow.getInternal x B=ow[x] from rfl,q]at e;cases e;rw[Ue B,q]
 intro h;obtain⟨h1,h2⟩:=U3.mp h;refine⟨j,U6.mpr (by omega),?_⟩;simp only[Vaj,h1,dite_true];rw[show ow.getInternal j h1=ow[j] from rfl,h2];rfl
theorem Xyr{m f v:Nat}{led pl:Bool}(hm:Cy m)(es:Array (Int×Vb))(hl:es.size<m+1):∃t B,laid m f v led pl (es.map (·.1))=yz (t,B)/\Tb t/\t.mask=m/\t.plain=pl/\t.led=led/\t.moves=v/\t.place.size=es.size/\(B.filterMap (es[·]?)).size=es.size/\(B.filterMap (es[·]?)).toList.Perm es.toList/\Xqi t (B.filterMap (es[·]?))/\B.toList.Perm (Vs es.size):=by
 have O0:OwnG m (Array.replicate (m+1) yy) (es.map (·.1)).toList 0:=⟨⟨by simp,by
  rw[Array.toList_replicate];have:∀n,(Vu n (yy:Option Nat)).filterMap id=[]:=λn=>by induction n with
   |zero=>rfl|succ n ih=>rw[List.replicate_succ,Uz];exact ih
  rw[this];exact Vau _⟩,λj c hc=>by rw[Array.getElem?_replicate]at hc;split at hc<;>cases hc⟩
 obtain⟨J,O,e⟩:=Xlo hm (es.map (·.1)).toList (es.map (·.1)).toList _ 0 O0 (λi=>by rw[Vfi]) (by simpa using hl);obtain⟨o1,o2⟩:=O.own;rw[Vfi,V7,Array.size_map]at o2 e;have lc:layClean m (es.map (·.1))=yz J:=by unfold layClean;rw[<-Array.foldl_toList];rw[show((es.map (·.1)).toList.foldl _ (yz (Array.replicate (m+1) (yy:Option Nat),0)))=yz (J,es.size) from e];rfl
 have sn:((Vs (m+1)).filterMap λj=>(J.getD j yy).map (j,·)).map (·.2)=J.toList.filterMap id:=by
  have:=Xli J.toList 0 (λj=>J.getD j yy) λi hi=>by
   have aa:i<J.size:=by simpa using hi
   simp[Vaj,aa,U4]
  rw[V7,o1,<-List.range_eq_range']at this;exact this
 have fs:=(Xlj (λj=>J.getD j yy) (Vs (m+1)) List.pairwise_lt_range).1;have op:(((Vs (m+1)).filterMap λj=>(J.getD j yy).map (j,·)).map (·.2)).Perm (Vs es.size):=by rw[sn];exact o2
 have lt:∀p∈(Vs (m+1)).filterMap (λj=>(J.getD j yy).map (j,·)),p.2<es.size:=λp hp=>U6.mp (op.mem_iff.mp (V0.mpr ⟨p,hp,rfl⟩));have fm:∀l:List (Nat×Nat),(∀p∈l,p.2<es.size)->(l.map (·.2)).filterMap (es[·]?)=l.map λp=>es.getD p.2 (0,.none):=λl=>by
  induction l with
  |nil=>intro _;rfl|cons a l ih=>intro h;have Y:=h a Vz;rw[Ux,Ux,Uz,Ue Y];simp only;rw[ih λx hx=>h x (V5 _ hx)];congr 1;simp[Vaj,Y]
 unfold laid;rw[lc];refine⟨_,_,rfl,⟨fs,rfl⟩,rfl,rfl,rfl,rfl,?_,?_,?_,?_,by rw[Vcp];exact op⟩;·show(Uw _ _).toArray.size=_;have h1:=congrArg Vah sn;rw[Ve,o2.length_eq,Vap]at h1;simp only[Vr,Ve];exact h1
 ·rw[<-V7,Vf9,Vcp,fm _ lt,Ve];have:=op.length_eq;rw[Ve,Vap]at this;exact this
 ·rw[Vf9,Vcp];have h1:=op.filterMap (es[·]?);have h2:(Vs es.size).filterMap (es[·]?)=es.toList:=by
   apply List.ext_getElem?;intro i;have q:∀l:LN,(∀x∈l,x<es.size)->l.filterMap (es[·]?)=l.map λx=>es.getD x (0,.none):=λl=>by
    induction l with
    |nil=>intro _;rfl|cons a l ih=>intro h;have Y:=h a Vz;rw[Ux,Uz,Ue Y];simp only;rw[ih λx hx=>h x (V5 _ hx)];congr 1;simp[Vaj,Y]
   rw[q _ λx hx=>U6.mp hx,Vx];by_cases hi:i<es.size;·rw[Vdg hi,Uh,Ue hi];simp[Vaj,hi]
   ·rw[Vad (by simpa using hi),Vad (by simpa using hi)];rfl
  rw[h2]at h1;exact h1
 intro j h x L;unfold Ats at L;rw[Vf9,Vcp,fm _ lt]at L;rw[List.zip_map']at L;obtain⟨⟨j',c⟩,hp,e'⟩:=V0.mp L;have hc:c<es.size:=lt _ hp;obtain⟨h',g1,n,g2,g3⟩:=O.way j' c ((Xlp o1 j' c).mp hp);have e1:j'=j:=congrArg (·.1) e';have e2:es.getD c (0,.none)=(h,x):=congrArg (·.2) e';have eh:h'=h:=by
  rw[Uh,Array.getElem?_map,Ue hc]at g1;have e3:es[c]=(h,x):=by simpa [Vaj,hc] using e2
  rw[e3]at g1;exact(Ud g1).symm
 subst eh e1;refine⟨n,g2,λi hi=>?_⟩;have hz:=g3 i hi;have ab:=X3p m h' i;show pth m h' i∈(Uw (λ(x:Nat×Nat)=>x.1) ((Vs (m+1)).filterMap λj=>(J.getD j yy).map (j,·))).toArray.toList;rw[Vcp];have U:pth m h' i<J.size:=by omega
 rw[Ue U]at hz;cases q:J[pth m h' i] with
 |none=>rw[q]at hz;cases hz rfl|some c'=>exact V0.mpr ⟨(pth m h' i,c'),(Xlp o1 _ _).mpr (by rw[Ue U,q]),rfl⟩
structure Tab(t:Uj)(n:Nat):Prop where
 tb:Tb t
 pl:t.plain=yx
 sz:t.place.size=n
 mg:Mg t.mask
 room:n*5<t.mask*3
 ln:n<1300
theorem Tab.le{t:Uj}{n:Nat}(T:Tab t n):n+1<=t.mask:=by have:=T.room;rcases T.mg with e|e|e|e|e|e<;>omega
theorem Xab{t:Uj}{n:Nat}(T:Tab t n):t.fits n=true:=by have:=T.le;unfold Vgc;rw[Xax T.tb,T.sz];simp;omega
theorem X3q{t:Uj}{es:Array (Int×Vb)}(T:Tab t es.size)(h:Int)(x:Vb):∃J t',layNew t es h x=(J,t',yw,yw)/\Tb t'/\t'.mask=t.mask/\t'.plain=yx/\t'.led=t.led/\t'.place.size=es.size+1/\J.size=es.size+1:=by
 have le:=T.le;obtain⟨N,n1,L,n3⟩:=Xol T.tb T.mg.cy (by rw[T.sz];omega) h;obtain⟨p1,p2,Y,p4,p5,U⟩:=Xsh T.tb ((Xcq T.tb _).mpr L);have f1:t.freeSlot h=yz (pth t.mask h N,yw):=by
  have pt:∀n,(its t n (t.probeStart h)).j=pth t.mask h n:=λn=>by rw[Xlk];rfl
  unfold freeSlot probe;rcases Xqh T.tb (λ_=>h+1) h N _ (t.probeStart h) rfl n1 (by rw[pt];exact L) (λk hk=>by rw[pt];exact n3 k hk) with⟨_,g⟩|⟨_,_,_,_,g,_⟩;·rw[g,pt];rfl
  ·omega
 generalize pth t.mask h N=j at *;rw[T.sz]at p2 U;have B:(insertAt es (t.put j).2 (h,x)).size=es.size+1:=by rw[<-V7,Xa7 _ _ _ U];simp;omega
 have ft:(t.put j).1.fits (insertAt es (t.put j).2 (h,x)).size=true:=by unfold Vgc;rw[Xax p1,p2,B,Y];simp;omega
 refine⟨insertAt es (t.put j).2 (h,x),(t.put j).1,?_,p1,Y,by rw[p4];exact T.pl,p5,p2,B⟩;unfold layNew;rw[f1];show(insertAt es (t.put j).2 (h,x),(t.put j).1.orStandIn (insertAt es (t.put j).2 (h,x)).size,yw,!(t.put j).1.fits (insertAt es (t.put j).2 (h,x)).size)=_;unfold SetTable.orStandIn;generalize t.put j=pj at ft;rw[ft];rfl
theorem Xvd{t:Uj}{es:Array (Int×Vb)}{wanted:Nat}(hp:t.plain=yx)(Y:Mg (sizeAbove wanted-1))(hl:es.size<=sizeAbove wanted-1):∃J t',relayAll t es wanted=(J,t',yw)/\Tb t'/\t'.mask=sizeAbove wanted-1/\t'.plain=yx/\t'.led=t.led/\t'.place.size=es.size/\J.size=es.size:=by
 obtain⟨t',B,e,T,h1,h2,h3,_,L,sz,_,_,h5⟩:=Xyr (f:=t.finger) (v:=t.movedTo (sizeAbove wanted-1)) (led:=t.led) (pl:=t.plain) Y.cy es (by omega);have U:t.relaid (es.map (·.1)) wanted=yz (t',B):=e;have cv:coversAll B es.size=true:=List.isPerm_iff.mpr h5;have ft:t'.fits (B.filterMap (es[·]?)).size=true:=by unfold Vgc;rw[Xax T,L,sz,h1];simp;omega
 refine⟨_,t',?_,T,h1,by rw[h2];exact hp,h3,L,sz⟩;unfold relayAll;rw[U];dsimp only;rw[cv,ft];rfl
theorem Xoo{n m:Nat}(B:Mg m)(J:n*5<m*3)(hn:n<1200)(h1:¬ (n+1)*5<m*3):Mg (sizeAbove (grown (n+1))-1)/\(n+1)*5<(sizeAbove (grown (n+1))-1)*3/\sizeAbove (grown (n+1))<=8192:=by
 rcases B with rfl|rfl|rfl|rfl|rfl|rfl
 ·obtain rfl:n=4:=by omega
  exact⟨.inr (.inl (by decide+kernel)),by decide+kernel,by decide+kernel⟩
 ·obtain rfl:n=18:=by omega
  exact⟨.inr (.inr (.inl (by decide+kernel))),by decide+kernel,by decide+kernel⟩
 ·obtain rfl:n=76:=by omega
  exact⟨.inr (.inr (.inr (.inl (by decide+kernel)))),by decide+kernel,by decide+kernel⟩
 ·obtain rfl:n=306:=by omega
  exact⟨.inr (.inr (.inr (.inr (.inl (by decide+kernel))))),by decide+kernel,by decide+kernel⟩
 ·omega
 omega
end Z
end
section
namespace Z
open PySem PySem.Spec PyProof.Rows L2
noncomputable def Xbx:Vb->Int
 |.int i _=>i|_=>0
def SetI(prog:V4)(w:Ua)(h:Heap)(a:Addr)(ld:Bool)(ks:LI):Prop:=∃o es ep t,h.get? a=yz o/\o.ExactSet/\o.data=.set es ep t/\ElemsOf (Va8 prog w) es.toList/\ks=es.toList.map (λe=>Xbx e.2)/\Tab t es.size/\t.led=ld
theorem SetI.keep{prog:V4}{w:Ua}{h h':Heap}{a:Addr}{ld:Bool}{ks:LI}(S:SetI prog w h a ld ks)(k:∀o,h.get? a=yz o->h'.get? a=yz o):SetI prog w h' a ld ks:=by obtain⟨o,es,ep,t,B,r⟩:=S;exact⟨o,es,ep,t,k _ B,r⟩
section
variable{prog:V4}{w:Ua}{A:Uu}{E:VP}{s:Vc}
theorem Xop{es:List (Int×Vb)}(h:ElemsOf (Va8 prog w) es){e:Int×Vb}(J:e∈es):∃i t,e.2=.int i t:=by obtain⟨⟨k,B,_⟩,_⟩:=h e J;obtain⟨t,q⟩:=Vf0 B;exact⟨k,t,q⟩
theorem Xve{es:List (Int×Vb)}(h:ElemsOf (Va8 prog w) es)(k:Int):(es.findIdx? (λe=>(Va8 prog w).is k e.2)).isSome=decide (k∈es.map λe=>Xbx e.2):=by
 have B:∀e∈es,((Va8 prog w).is k e.2=yx ↔ Xbx e.2=k):=λe J=>by obtain⟨i,t,q⟩:=Xop h J;rw[q,KeyKind.is_eq_decide (intKind_is prog w i t),decide_eq_true_eq];exact eq_comm
 by_cases c:k∈es.map λe=>Xbx e.2
 ·rw[decide_eq_true c];obtain⟨e,J,q⟩:=V0.mp c;cases f:es.findIdx? (λe=>(Va8 prog w).is k e.2) with
  |some _=>rfl|none=>have:=List.findIdx?_eq_none_iff.mp f e J;rw[(B e J).mpr q]at this;cases this
 rw[decide_eq_false c];cases f:es.findIdx? (λe=>(Va8 prog w).is k e.2) with
 |none=>rfl|some j=>obtain⟨L,hp,_⟩:=Vd3.mp f;exact aB0 (V0.mpr ⟨_,Vbh L,(B _ (Vbh L)).mp hp⟩) c
theorem Xoq{a:Addr}{ld:Bool}{ks:LI}{k:Int}{tk:Tok}{Q:Bool->Vc->Prop}(S:SetI prog w s.heap a ld ks)(hn:(lf ks)<60)
  (h:∀h' ah,Va0 a s.heap h'->SetI prog w h' a ld ah->(k∈ks/\ah=ks)\/(k ∉ ks/\ah.Perm (ks++[k]))->Q (decide (k ∉ ks)) {s with heap:=h',toks:=s.toks+1}):
  Vg (Vl prog w) A (setAdd a (.int k tk)) Q E s:=by
 obtain⟨o,es,ep,t,ho,L,hd,U,rfl,T,hl⟩:=S;rw[Ve,V7]at hn;have hb:es.size<scanBound:=Veu hn (by decide);have ft:=Xab T;have fi:=Xve U k;unfold setAdd setAddHashed setAddHashedIn;refine Uo (Va ((Va8 prog w).pyHash (k:=k) (intKind_is prog w k tk) (Uo (Va (Vaw (s:={s with toks:=s.toks+1}) ho hd ft ?_)))));dsimp only;rw[byScan_of (knd:=Va8 prog w) rfl hb U];simp only[if_true];unfold setAddByScan;refine Va (Va (Vd0 (Va (wpAny_setScan_of (knd:=Va8 prog w) (k:=k) (s:={s with toks:=s.toks+1}) (intKind_is prog w k tk) ho hd ft U ?_))));cases f:es.toList.findIdx? (λe=>(Va8 prog w).is k e.2) with
 |some j=>rw[f]at fi;have c:=oD0 fi.symm;have:=h s.heap _ (Vf1 a s.heap) ⟨o,es,ep,t,ho,L,hd,U,rfl,T,hl⟩ (.inl ⟨c,rfl⟩);rw[decide_eq_false (λz=>z c)]at this;exact Vd (Vd this)|none=>
  rw[f]at fi;have c:=of_decide_eq_false fi.symm;obtain⟨B,t1,e1,T1,m1,af,l1,aa,z1⟩:=X3q T ((Va8 prog w).hash k) (.int k tk);have pm:=layNew_perm t es ((Va8 prog w).hash k) (.int k tk);rw[e1,Vhm]at pm;have Y:ElemsOf (Va8 prog w) B.toList:=(U.push (intKind_is prog w k tk) rfl).perm pm;have kp:(B.toList.map λe=>Xbx e.2).Perm ((es.toList.map λe=>Xbx e.2)++[k]):=by have:=pm.map λe=>Xbx e.2;rwa [Vae]at this
  dsimp only;rw[e1];dsimp only;refine Va (Vd ?_);rw[af];simp only[if_true];rw[hashByValue_scannable 8 rfl];refine Va (Vd ?_);simp only[plainKind,if_true];have ak:t1.fits B.size=true:=by unfold Vgc;rw[Xax T1,aa,z1,m1];have:=T.le;simp;omega
  have ab:B.size<=V8:=by rw[z1,Va4];omega
  refine Va (Vf2 ho hd ?_ ab);obtain⟨g1,_⟩:=SetOf_store (knd:=Va8 prog w) (S':=λk'=>B.toList.any λe=>(Va8 prog w).is k' e.2) ho L hd Y (λk'=>Vcv) (by rw[z1];exact Vdp hn (by decide)) ak;have ai:=Vdh s.heap a (Vdo B t1);by_cases c5:(es.size+1)*5<t.mask*3
  ·have q:t1.tooFull=false:=by unfold Vgg;rw[Xax T1,aa,m1];exact decide_eq_false (by omega)
   rw[q];simp only[Vcf,Vp,if_false];have:=h _ _ ai ⟨_,B,ep+1,t1,g1,L,rfl,Y,rfl,by rw[z1];exact⟨T1,af,aa,by rw[m1];exact T.mg,by rw[m1];exact c5,by omega⟩,l1.trans hl⟩ (.inr ⟨c,kp⟩);rw[decide_eq_true c]at this;exact Vd (Vd this)
  have q:t1.tooFull=true:=by unfold Vgg;rw[Xax T1,aa,m1];exact decide_eq_true (by omega)
  obtain⟨mk,rm,_⟩:=Xoo T.mg T.room (by omega) c5;rw[q];simp only[Va1,Vcd,if_true];obtain⟨J,t2,e2,T2,m2,al,l2,aj,z2⟩:=Xvd (t:=t1) (es:=B) (wanted:=SetTable.grown B.size) af (by rw[z1];exact mk) (by rw[z1];omega);have ag:=relayAll_perm t1 B (SetTable.grown B.size);rw[e2]at ag;rw[e2];dsimp only;have ae:J.size<=V8:=by rw[z2];exact ab
  refine Va (Vd (Va (Vf2 g1 rfl ?_ ae)));have ac:ElemsOf (Va8 prog w) J.toList:=Y.perm ag;have TT:Tab t2 J.size:=⟨T2,al,by rw[aj,z2],by rw[m2,z1];exact mk,by rw[m2,z2,z1];exact rm,by omega⟩;obtain⟨g2,_⟩:=SetOf_store (knd:=Va8 prog w) (S':=λk'=>J.toList.any λe=>(Va8 prog w).is k' e.2) g1 L rfl ac (λk'=>Vcv) (by rw[z2,z1];exact Vdp hn (by decide)) (Xab TT);have:=h _ _ (ai.trans (Vdh _ a (Vdo J t2))) ⟨_,J,ep+2,t2,g2,L,rfl,ac,rfl,TT,l2.trans (l1.trans hl)⟩ (.inr ⟨c,(ag.map λe=>Xbx e.2).trans kp⟩);rw[decide_eq_true c]at this;exact Vd (Vd this)
end
theorem slot_si:PySem.Slot "set_iterator" "__next__" "set_iterator.__next__":=
 .of (owner:="set_iterator") (n:="__next__") (by rw[typeLookup_type,builtinLookup_eq_fast];kernel_rfl) (by decide+kernel) (by decide+kernel) (by decide+kernel) (by first|exact .inl (by decide+kernel)|exact .inr (by decide+kernel)) (by rw[isSubtype_type];kernel_rfl)
theorem Xlq:entryFor table "set_iterator.__next__"=yz Vcb.«set_iterator.__next__»:=entryFor_of_tree (by kernel_rfl)
theorem Xor(a:Vb):argsOk "set_iterator.__next__" ⟨[a],[]⟩:=by unfold argsOk;rw[signature?_of (id:="set_iterator.__next__") (n:=['_','_','t','x','e','n','_','_']) (o:=['r','o','t','a','r','e','t','i','_','t','e','s']) (by kernel_rfl) (show Manifest.owners.lookup _=yz Vhr by kernel_rfl)];kernel_rfl
theorem Xlr:entryFor table "set.__iter__"=yz Vcb.«frozenset.__iter__»:=entryFor_alias (id' := "frozenset.__iter__") (by kernel_rfl) rfl (by decide+kernel) (by kernel_rfl)
theorem Xls:PySem.Slot "set_iterator" "__iter__" "set_iterator.__iter__":=
 .of (owner:="set_iterator") (n:="__iter__") (by rw[typeLookup_type,builtinLookup_eq_fast];kernel_rfl) (by decide+kernel) (by decide+kernel) (by decide+kernel) (by first|exact .inl (by decide+kernel)|exact .inr (by decide+kernel)) (by rw[isSubtype_type];kernel_rfl)
theorem Xsl:entryFor table "set_iterator.__iter__"=yz Vcb.«dict_keyiterator.__iter__»:=entryFor_alias (id' := "dict_keyiterator.__iter__") (by kernel_rfl) rfl (by decide+kernel) (by kernel_rfl)
theorem Xvf(a:Vb):argsOk "set_iterator.__iter__" ⟨[a],[]⟩:=by unfold argsOk;rw[signature?_of (id:="set_iterator.__iter__") (n:=['_','_','r','e','t','i','_','_']) (o:=['r','o','t','a','r','e','t','i','_','t','e','s']) (by kernel_rfl) (show Manifest.owners.lookup _=yz Vhr by kernel_rfl)];kernel_rfl
noncomputable def byT(w:Ua):Bool:=w.params.followText "set-order"
theorem Xj4{α:Type}(f:Nat->Nat):∀(n k:Nat) (l:List α) (out:Array α),lf l=n->(pickOrder.go f n k l out).toList.Perm (out.toList++l)
 |0=>λk l out h=>by have:l=[]:=Vgy h;subst this;simp[pickOrder.go]|n+1=>λk l out h=>by
  have B:f k%lf l<lf l:=Vfq _ (by omega);unfold pickOrder.go;rw[Vk B];dsimp only;refine(Xj4 f n (k+1) _ _ (by rw[List.length_eraseIdx_of_lt B];omega)).trans ?_;rw[Vhm,Vh];refine List.Perm.append_left _ ?_;have e:l=l.take (f k%lf l)++l[f k%lf l]::l.drop (f k%lf l+1):=by rw[List.getElem_cons_drop,Vbx]
  rw[List.eraseIdx_eq_take_drop_succ];exact List.Perm.symm (by
   conv=>lhs;rw[e]
   exact List.perm_middle)
noncomputable def Xad(w:Ua)(a ep:Nat)(es:Array (Int×Vb)):List (Int×Vb):=if byT w then (pickOrder (w.params.setOrder a ep) es).toList else es.toList
theorem Xby(w:Ua)(a ep:Nat)(es:Array (Int×Vb)):(Xad w a ep es).Perm es.toList:=by
 unfold Xad;split;·unfold pickOrder;have:=Xj4 (w.params.setOrder a ep) es.size 0 es.toList #[] (by simp);simpa using this
 ·exact Vau _
noncomputable def Xao(w:Ua)(t:Uj)(i:Nat):Nat:=if byT w then 0 else match i with
 |0=>0|i+1=>t.place.getD i 0+1
section
variable{prog:V4}{w:Ua}{A:Uu}{E:VP}{s:Vc}
theorem Xvg{t:Uj}(T:Tb t)(i:Nat)(hi:i<=t.place.size)(B:byT w=yw):Vg2 t.place (Xao w t i)=i:=by
 obtain⟨b1,b2,b3⟩:=Xbw T.ris (Xao w t i);unfold Xao at b1 b2 b3 ⊢;rw[B]at b1 b2 b3 ⊢;simp only[Vp,if_false]at b1 b2 b3 ⊢;cases i with
 |zero=>
  dsimp only at b1 b2 b3 ⊢;rcases Nat.eq_zero_or_pos (Vg2 t.place 0) with h|h;·exact h
  ·exact aB0 (b2 0 h) (Vcn _)|succ i=>
  dsimp only at b1 b2 b3 ⊢;have h1:¬ Vg2 t.place (t.place.getD i 0+1)<=i:=λh=>by have:=b3 i h (by omega);omega
  have h2:¬ i+1<Vg2 t.place (t.place.getD i 0+1):=λh=>by have:=b2 (i+1) h;have:=T.ris.lt (a:=0) (show i<i+1 by omega) (by omega);omega
  omega
theorem Xos{a:Addr}{o:Obj}{es:Array (Int×Vb)}{ep i:Nat}{t:Uj}{Q:Option (Vb×Nat)->Vc->Prop}(ho:s.heap.get? a=yz o)(hd:o.data=.set es ep t)(T:Tab t es.size)(hl:t.led = !byT w)(hi:i<=es.size)
  (h:Q (((Xad w a ep es)[i]?).map λe=>(e.2,Xao w t (i+1))) s):Vg (Vl prog w) A (setNext a (Xao w t i) i ep) Q E s:=by
 have ft:=Xab T;unfold setNext;refine Va (Vaw ho hd ft ?_);dsimp only;unfold setsByText;refine Va (Va (Vdk (Vd ?_)));show Vg _ _ (if byT w=yx then _ else _) _ _ _;cases B:byT w with
 |true=>
  simp only[if_true,bne_self_eq_false,Vp,if_false];unfold setWalk;refine Va (Va (Vaw ho hd ft ?_));dsimp only;unfold setsByText;refine Va (Va (Vdk (Vd ?_)));show Vg _ _ (if byT w=yx then _ else _) _ _ _;rw[B,iP0 rfl];refine Va (Vdk (Vd (Vd ?_)));have Y:Xad w a ep es=(pickOrder (w.params.setOrder a ep) es).toList:=by unfold Xad;rw[iP0 B]
  have J:Xao w t (i+1)=Xao w t i:=by unfold Xao;rw[iP0 B,iP0 B]
  rw[Y,J,Uh]at h;exact h|false=>
  simp only[Vp,if_false];have L:(!t.plain&&decide (es.size>1))=false:=by rw[T.pl];rfl
  have U:(!t.led && !es.isEmpty)=false:=by rw[hl,B];rfl
  show Vg _ _ (if (!t.plain&&decide (es.size>1))=yx then _ else _) _ _ _;rw[L];simp only[Vp,if_false];refine Va ?_;show Vg _ _ (if (!t.led && !es.isEmpty)=yx then _ else _) _ _ _;rw[U];simp only[Vp,if_false];refine Vd ?_;rw[Xvg T.tb i (by rw[T.sz];exact hi) B];have Y:Xad w a ep es=es.toList:=by unfold Xad;rw[iN0 (by rw[B];exact Us)]
  rw[Y,Uh]at h;by_cases c:i<es.size
  ·have c2:i<t.place.size:=by rw[T.sz];exact c
   rw[Ue c]at h;rw[Ue c,Ue c2];have J:Xao w t (i+1)=t.place[i]+1:=by unfold Xao;rw[iN0 (by rw[B];exact Us)];simp[Vaj,c2]
   rw[J]at h;exact Vd h
  rw[Array.getElem?_eq_none (by omega)]at h;rw[Array.getElem?_eq_none (by omega)];exact Vd h
abbrev Xqj(h:Heap)(it a:Addr)(f0 f1 n ep:Nat):Prop:=h.get? it=yz {cls:=.type "set_iterator",dict:=yy,data:=.fields #[Vab f0,Vab f1,.ref a,Vab n,Vab ep],slots:=#[]}
variable{it a:Addr}{o:Obj}{es:Array (Int×Vb)}{ep i:Nat}{t:Uj}
theorem Xz0{Q:OV->Vc->Prop}{e:Int×Vb}(hi:Xqj s.heap it a (Xao w t i) i es.size ep)(B:s.heap.get? a=yz o)(hd:o.data=.set es ep t)(T:Tab t es.size)(hl:t.led = !byT w)(J:(Xad w a ep es)[i]?=yz e)
  (L:∀h',Xqj h' it a (Xao w t (i+1)) (i+1) es.size ep->Va0 it s.heap h'->Q (yz e.2) {s with heap:=h' }):Vg (Vl prog w) A (Vei (.ref it)) Q E s:=by
 have hT:s.TypeIs (.ref it) "set_iterator" := ⟨_,hi,rfl⟩;have hn:i<=es.size:=by have:=(Vi.mp J).1;rw[(Xby w a ep es).length_eq,V7]at this;exact Vc1 this
 unfold Vei;refine Va (Ve5 (Va6 (name:=Vao "__next__") hT slot_si (U0 slot_si hT Xlq ?_ (Xor _))));show Vg _ _ (fieldsOf (.ref it) >>= _) _ _ _;unfold fieldsOf;refine Va (Va (Vfp hi (Vd ?_)));show Vg _ _ (setEntries a >>= _) _ _ _;unfold setEntries;refine Va (Va (Vaw B hd (Xab T) (Vd ?_)));dsimp only;simp only[bne_self_eq_false,Vp,if_false];show Vg _ _ (setNext a (Vfj (Xao w t i:Int)) (Vfj (i:Int)) (Vfj (ep:Int)) >>= _) _ _ _;simp only[Vbu];refine Va (Xos B hd T hl hn ?_);rw[J];dsimp only[V2];refine Va (Vba hi (by simp) λh1 Y c1=>?_);refine Va (Vba Y (by simp) λh2 U c2=>?_);refine Vd ⟨_,rfl,Vd (L h2 ?_ (c1.trans c2))⟩;exact U
theorem Xz1{Q:OV->Vc->Prop}(J:A.handled=yy)(hi:Xqj s.heap it a (Xao w t es.size) es.size es.size ep)(B:s.heap.get? a=yz o)(hd:o.data=.set es ep t)(T:Tab t es.size)(Y:t.led = !byT w)
  (L:∀h',Heap.ExtBut it s.heap h'->Q yy {s with heap:=h' }):Vg (Vl prog w) A (Vei (.ref it)) Q E s:=by
 have hT:s.TypeIs (.ref it) "set_iterator" := ⟨_,hi,rfl⟩;have U:(Xad w a ep es)[es.size]?=none:=Vad (by rw[(Xby w a ep es).length_eq,V7];exact Vm _);unfold Vei;refine Va (Ve5 (Va6 (name:=Vao "__next__") hT slot_si (U0 slot_si hT Xlq ?_ (Xor _))));show Vg _ _ (fieldsOf (.ref it) >>= _) _ _ _;unfold fieldsOf;refine Va (Va (Vfp hi (Vd ?_)));show Vg _ _ (setEntries a >>= _) _ _ _;unfold setEntries;refine Va (Va (Vaw B hd (Xab T) (Vd ?_)));dsimp only;simp only[bne_self_eq_false,Vp,if_false];show Vg _ _ (setNext a (Vfj (Xao w t es.size:Int)) (Vfj (es.size:Int)) (Vfj (ep:Int)) >>= _) _ _ _;simp only[Vbu];refine Va (Xos B hd T Y (Vm _) ?_);rw[U];dsimp only[Vgp];refine Va (Vba hi (by simp) λh1 e1 c1=>?_);show Vg _ _ (newExc (.type "StopIteration") [] >>= _) _ _ _;refine Va ?_;simp only[newExc,newTuple];refine Va (U8 ?_ (by size_fits));refine Va (m:=Vg3 _ _) (Vga (a:=Van) (by first|rfl|(simp only[Vg3];rfl)) ?_);refine U8 ?_ (by size_fits);simp only[raiseNew];refine Va (wpAny_handled ?_)
 first|rw[show A.in1.handled=yy from J]|rw[J]
 refine Va (Vd (wpAny_throw ?_));refine Va (Vgh (T:="StopIteration") (b:=yx) ⟨_,Vt _ rfl,rfl⟩ isSubtype_stop ?_);exact Vd (L _ ((c1.extBut.push _).push _))
def Yap(w:Ua)(it a:Addr)(o:Obj)(es:Array (Int×Vb))(ep:Nat)(t:Uj)(i:Nat)(s:Vc):Prop:=Xqj s.heap it a (Xao w t i) i es.size ep/\s.heap.get? a=yz o
theorem Xz2(hh:A.handled=yy)(Y:it≠a)(hd:o.data=.set es ep t)(T:Tab t es.size)(hl:t.led = !byT w):WalksS prog w A it [it,a] [it] Eq es.size (λi v=>((Xad w a ep es)[i]?).map (·.2)=yz v) (Yap w it a o es ep t) where
 sub:=λb L=>by rw[V9.mp L];exact Vz
 grefl:=λ_=>rfl
 gtrans:=λ_ _ _ x y=>x.trans y
 frame:=λi s h' tk st _ k=>⟨k it Vz _ st.1,k a (V5 _ Vz) _ st.2⟩
 item:=λi s Q E hi st B=>by
  have J:i<(Xad w a ep es).length:=by rw[(Xby w a ep es).length_eq,V7];exact hi
  refine Xz0 st.1 st.2 hd T hl (Vk J) λh' q c=>B _ _ (by rw[Vk J];rfl) ⟨q,(c.2 a (Ne.symm Y)).trans st.2⟩ ⟨λb o' L U=>?_,rfl,rfl,rfl,Vm _⟩;exact(c.2 b (λz=>L (V9.mpr z))).trans U
 done:=λs Q E st B=>Xz1 hh st.1 st.2 hd T hl λh' c=>B _ ⟨λb o' L U=>c b o' (λz=>L (V9.mpr z)) U,rfl,rfl,rfl,Vm _⟩
 self:=λi s Q E st B=>by have hT:s.TypeIs (.ref it) "set_iterator" := ⟨_,st.1,rfl⟩;exact Vhn hT Xls (U0 Xls hT Xsl (show Vg _ _ (ret (.ref it)) _ _ s from Vd ⟨_,rfl,"set_iterator",_,hT,slot_si.lookup,B⟩) (Xvf _))
theorem Xvh{Q:VP}(B:s.heap.get? a=yz o)(L:o.ExactSet)(hd:o.data=.set es ep t)(T:Tab t es.size)
  (Y:Q (.ref s.heap.objs.size) {s with heap:=s.heap.push {cls:=.type "set_iterator",data:=.fields #[Vab 0,Vab 0,.ref a,Vab es.size,Vab ep]} }):Vg (Vl prog w) A (pyIter (.ref a)) Q E s:=by
 have hT:s.TypeIs (.ref a) "set" := ⟨o,B,L.1⟩;have U:=Xab T;refine Vhn hT F.slot_set_iter (U0 F.slot_set_iter hT Xlr ?_ (F.args_set_iter_1 _));show Vg _ _ (Vht a >>= _) _ _ _;unfold Vht setEntries;refine Va (Va (Va (Vaw B hd U (Vd (Vd ?_)))));show Vg _ _ (setDrawn a >>= _) _ _ _;unfold setDrawn setsByText;refine Va (Va (Vaw B hd U (Va (Va (Vdk (Vd (Vd ?_)))))));have J:(!byT w&&(!t.plain&&decide (es.size>1)))=false:=by rw[T.pl];simp
 show Vg _ _ (ite ((!byT w&&(!t.plain&&decide (es.size>1)))=yx) _ _) _ _ _;rw[J,iN0 Us];refine Va (Vd ?_);unfold setEpoch;refine Va (Va (Vaw B hd U (Vd ?_)));exact Va (U8 (Vd ⟨_,rfl,"set_iterator",_,⟨_,Vt _ rfl,rfl⟩,slot_si.lookup,Y⟩))
theorem Xvi{Q:Bool->Vc->Prop}(L:s.heap.get? a=yz o)(B:o.ExactSet)(J:Q yw s):Vg (Vl prog w) A (Vhc (.ref a)) Q E s:=by
 have hT:s.TypeIs (.ref a) "set" := ⟨o,L,B.1⟩;unfold Vhc;refine Va (wpAny_specialOf hT F.slot_set_len.lookup ?_);have U:splitId "set.__len__"=yz ("set","__len__"):=by decide+kernel
 dsimp only;rw[U];dsimp only;refine Va (Vgh hT sub_set_self ?_);simp only[Ut,Vp,if_false];exact Va (Vcc hT (Vd J))
theorem Xf8{Q:LV->Vc->Prop}(hh:A.handled=yy)(ho:s.heap.get? a=yz o)(Y:o.ExactSet)(hd:o.data=.set es ep t)(T:Tab t es.size)(hl:t.led = !byT w)
  (hQ:∀h' tk,(∀b u,s.heap.get? b=yz u->h'.get? b=yz u)->s.heap.objs.size<=h'.objs.size->Q ((Xad w a ep es).map (·.2)) {s with heap:=h',toks:=tk}):Vg (Vl prog w) A (collect (.ref a)) Q E s:=by
 unfold collect;refine Va (Vft (Va2 F.entry_proto_collect ?_));rw[Va9 F.plain_proto_collect _];show Vg _ A.in1 (newList [] >>= λl=>again (.builtin "list.__iadd__" ⟨[l,.ref a],[]⟩)) _ _ s;refine Va (U8 (Vd ⟨Ved Vf3 _,Va2 F.entry_list_iadd ?_⟩));rw[Va9 Vf3 _];obtain⟨hp,g,d,tk,os⟩:=s;replace ho:hp.get? a=yz o:=ho;have la:a<hp.objs.size:=Vw ho;have J:(hp.push {cls:=.type "list",data:=.seq ([]:LV).toArray}).get? a=yz o:=Vf _ ho;show Vg _ A.in1 (Vbj (.ref hp.objs.size) (.ref a) (.ref hp.objs.size)) _ _ ⟨hp.push {cls:=.type "list",data:=.seq ([]:LV).toArray},g,d,tk,os⟩;have n1:(hp.push {cls:=.type "list",data:=.seq ([]:LV).toArray}).get? hp.objs.size=yz {cls:=.type "list",data:=.seq ([]:LV).toArray}:=Vt _ rfl;have k1:∀b u,hp.get? b=yz u->(hp.push {cls:=.type "list",data:=.seq ([]:LV).toArray}).get? b=yz u:=λb u e=>Vf _ e;have z1:(hp.push {cls:=.type "list",data:=.seq ([]:LV).toArray}).objs.size=hp.objs.size+1:=Val ..;generalize hp.push {cls:=.type "list",data:=.seq ([]:LV).toArray}=g1 at J n1 k1 z1;unfold Vbj;refine Va (Vcc (T:="set") ⟨o,J,Y.1⟩ ?_);have hS:Vhu (.ref hp.objs.size) (.ref a)=false:=by simp[Vhu,Vc3 la]
 simp only[hS,show(Vca "set" == Vca "list")=yw by decide,show(Vca "set" == Vca "tuple")=yw by decide,Bool.or_false,Vp,if_false];refine Va (Xvh (s:=⟨g1,g,d,tk,os⟩) J Y hd T ?_);have n2:(g1.push {cls:=.type "set_iterator",data:=.fields #[Vab 0,Vab 0,.ref a,Vab es.size,Vab ep]}).get? hp.objs.size=yz {cls:=.type "list",data:=.seq ([]:LV).toArray}:=Vf _ n1;have i2:(g1.push {cls:=.type "set_iterator",data:=.fields #[Vab 0,Vab 0,.ref a,Vab es.size,Vab ep]}).get? g1.objs.size=yz {cls:=.type "set_iterator",data:=.fields #[Vab 0,Vab 0,.ref a,Vab es.size,Vab ep]}:=Vt _ rfl;have k2:∀b u,g1.get? b=yz u->(g1.push {cls:=.type "set_iterator",data:=.fields #[Vab 0,Vab 0,.ref a,Vab es.size,Vab ep]}).get? b=yz u:=λb u e=>Vf _ e;have z2:(g1.push {cls:=.type "set_iterator",data:=.fields #[Vab 0,Vab 0,.ref a,Vab es.size,Vab ep]}).objs.size=g1.objs.size+1:=Val ..;generalize g1.push {cls:=.type "set_iterator",data:=.fields #[Vab 0,Vab 0,.ref a,Vab es.size,Vab ep]}=g2 at n2 i2 k2 z2;refine Va (Uo (Xvi (s:=⟨g2,g,d,tk,os⟩) (k2 _ _ J) Y ?_));show Vg _ A.in1 (rule "list.extend.makes-room" >>= λ_=>Builtin.List.listTouch (.ref hp.objs.size) >>= λ_=>again (.builtin "list.extend.loop" ⟨[.ref hp.objs.size,.ref g1.objs.size,.ref hp.objs.size],[]⟩)) _ _ _;refine Va (Vd0 (Va ?_));show Vg _ A.in1 (updateSeq hp.objs.size (·.push .none) >>= λ_=>updateSeq hp.objs.size (·.pop)) _ _ _;refine Va (wpAny_updateSeq n2 rfl ?_);have n3:=Vcz (U5 (·.push Van)) n2 rfl;refine wpAny_updateSeq n3 rfl ?_;have n4:=Vcz (U5 (·.pop)) n3 rfl;have U:∀b u,b≠hp.objs.size->g2.get? b=yz u->((g2.update hp.objs.size (U5 (·.push Van))).update hp.objs.size (U5 (·.pop))).get? b=yz u:=λb u hb e=>(Veq _ _ (Ne.symm hb)).trans ((Veq _ _ (Ne.symm hb)).trans e);have z4:((g2.update hp.objs.size (U5 (·.push Van))).update hp.objs.size (U5 (·.pop))).objs.size=g2.objs.size:=by rw[Vgi,Vgi]
 generalize (g2.update hp.objs.size (U5 (·.push Van))).update hp.objs.size (U5 (·.pop))=g4 at n4 U z4;have ah:g1.objs.size≠a:=by rw[z1];exact Vc3 (Vax la)
 have ac:a≠hp.objs.size:=Uc la;have ab:g1.objs.size≠hp.objs.size:=by rw[z1];exact Nat.succ_ne_self _
 have W:=Xz2 (prog:=prog) (w:=w) (A:=A.in1) (it:=g1.objs.size) (a:=a) (o:=o) (es:=es) (ep:=ep) (t:=t) (by simpa using hh) ah hd T hl
 refine Vd ⟨Ved F.plain_extend_loop _,codeAny_extend_loopS W (by have:=T.ln;rw[Va4];omega) hp.objs.size (by
  intro hm;rcases Vn.mp hm with e|hm;·exact ab e.symm
  ·exact ac (V9.mp hm).symm) _ es.size 0 _ _ _ rfl (Ug _) ⟨?_,U _ _ ac (k2 _ _ J)⟩ n4 (ItemsOf.nil _) λs' L c hm ae B=>?_⟩
 ·have e0:Xao w t 0=0:=by unfold Xao;split<;>rfl
  rw[e0];exact U _ _ ab i2
 ·show Vg _ A (load hp.objs.size >>= _) _ _ s';refine Va (Vfp ae (Vd ?_));obtain⟨h',g',d',af,ag⟩:=s';obtain⟨m1,m2,m3,m4,m5⟩:=hm;replace m2:g=g':=m2;replace m3:d'=d:=m3;replace m4:ag=os:=m4;subst m2;subst m3;subst m4;have ea:L.toList=(Xad w a ep es).map (·.2):=by
   refine List.ext_getElem? λi=>?_;have aa:(Xad w a ep es).length=es.size:=by rw[(Xby w a ep es).length_eq,V7]
   by_cases c:i<es.size
   ·have hz:i<L.size:=by rw[B.1];exact c
    have h1:L[i]?=yz L[i]:=Ue hz;rw[Uh,h1,Vx];exact(B.2 i _ h1).symm
   rw[Vad (by rw[V7,B.1];omega),Vad (by rw[Ve,aa];omega)]
  rw[ea];have kk:∀b u,hp.get? b=yz u->h'.get? b=yz u:=λb u e=>by have lb:=Vw e;exact m1 b u (by simp only[Vn,U9,or_false,not_or];exact⟨Uc lb,by rw[z1];exact Uc (Vax lb)⟩) (U b u (Uc lb) (k2 b u (k1 b u e)))
  refine hQ h' af kk ?_;exact Vc1 (Vw ae)
end
inductive D where
 |non|bl (b:Bool)|int (i:Int)|str (x:Str)|tup (xs:List D)|ref (n:Nat)|fro (xs:List D)|fn (f:Nat) (nm:Str)
 deriving Inhabited
abbrev LD:=List D
inductive O where
 |lst (xs:LD)|fdc (kvs:List (LI×D))|dct (kvs:List (LI×D))|exc (c:Nat)
noncomputable abbrev Sto:=List O
noncomputable abbrev En:=List (Option D)
inductive R(α:Type) where
 |ok (a:α) (S:Sto)|ex (n:Nat) (S:Sto)|bad
noncomputable def R.bind{α β:Type}:R α->(α->Sto->R β)->R β
 |.ok a S,f=>f a S|.ex n S,_=>.ex n S|.bad,_=>.bad
@[simp] theorem Rk0{α β:Type}(a:α)(S:Sto)(f:α->Sto->R β):(R.ok a S).bind f=f a S:=rfl
@[simp] theorem R.bind_bad{α β:Type}(f:α->Sto->R β):(R.bad:R α).bind f=.bad:=rfl
noncomputable def big:Nat:=1000000
set_option genInjectivity false
inductive Bo where|add|sub|mul|fdiv|mod|pow
 deriving DecidableEq
inductive Co where|eq|ne|lt|le|gt|ge|isin|notin|is
 deriving DecidableEq
inductive Ty where|int|bool|str|tuple|list|dict|cls(c:Nat)|valueError
 deriving DecidableEq
inductive Bl where
 |len|min|max|mxl|sorted|srt|all|anb|tuple|list|repr
 deriving DecidableEq
inductive Mt where
 |append|xtd|index|count|popi
 deriving DecidableEq
inductive Tg where
 |var (i:Nat)
 |tup (is:LN)
mutual
inductive Ex where
 |nev
 |var (i:Nat)
 |cst (d:D)
 |neg (a:Ex)
 |glb (k:Nat)
 |tup (es:Exs)
 |lst (es:Exs)
 |dct0
 |bin (op:Bo) (a b:Ex)
 |cmp (op:Co) (a b:Ex)
 |chn (o1 o2:Co) (a b c:Ex)
 |and (a b:Ex)
 |or (a b:Ex)
 |not (a:Ex)
 |ite (c a b:Ex)
 |idx (a i:Ex)
 |sli (a:Ex) (lo hi:Op)
 |rev (a:Ex)
 |call (f:Nat) (es:Exs)
 |blt (k:Bl) (es:Exs)
 |mth (k:Mt) (o:Ex) (es:Exs)
 |isi (a:Ex) (ts:List Ty)
 |lrg (t:Bool) (es:Exs)
 |cmr (k:Bool) (n:Nat) (gs:Gens) (elt:Ex)
 |cms (n:Nat) (gs:Gens) (elt:Ex)
 |sst (a:Ex)
inductive Op where
 |none|some (e:Ex)
inductive Exs where
 |nil|cons (e:Ex) (es:Exs)
inductive Gens where
 |nil|cons (t:Tg) (it:It) (ifs:Exs) (gs:Gens)
inductive It where
 |val (e:Ex)|rng (es:Exs)|zpp (es:Exs)
end
mutual
inductive St where
 |nev
 |asg (t:Tg) (e:Ex)
 |par (is:LN) (es:Exs)
 |aset (o i e:Ex)
 |expr (e:Ex)
 |ret (e:Ex)
 |ite (c:Ex) (a b:Sts)
 |for (t:Tg) (it:It) (b:Sts)
 |rse (c:Nat) (e:Ex)
 |try (b:Sts) (c:Nat) (x:Nat) (h:Sts)
 |pass
 |brk
 |cnt
inductive Sts where
 |nil|cons (s:St) (ss:Sts)
end
set_option genInjectivity true
inductive Fl where
 |nx (e:En)|brk (e:En)|cnt (e:En)|rt (d:D)
noncomputable def Xc(S:Sto)(n:Nat):Option (LD):=
 match S[n]? with
 |some (.lst xs)=>yz xs|_=>yy
noncomputable def lstM(S:Sto)(n:Nat):Option (LD):=
 match S[n]? with
 |some (.lst xs)=>yz xs|_=>yy
mutual
noncomputable def X0(look:Nat->Option Vby):D->Option Vby
 |.non=>yz .none|.bl b=>yz (.bool b)|.int i=>yz (.int i)|.str x=>yz (.str x)|.tup xs=>(datFs look xs).map PyData.tuple|.fro _=>yy|.fn _ _=>yy|.ref n=>look n
noncomputable def datFs(look:Nat->Option Vby):LD->Option (List Vby)
 |[]=>yz []|x::xs=>match X0 look x,datFs look xs with
  |some p,yz ps=>yz (p::ps)|_,_=>yy
end
noncomputable def Ye(S:Sto):Nat->Nat->Option Vby
 |0,_=>yy|k+1,n=>match S[n]? with
  |some (.lst xs)=>(datFs (Ye S k) xs).map Vb4|some (.dct [])=>yz (.dict [])|_=>yy
noncomputable def Yc(S:Sto)(d:D):Option Vby:=X0 (Ye S 4) d
noncomputable def Xbf(x y:D):Option Bool:=match x with
 |.str a=>(match y with
  |.str b=>yz (a.cps.toList==b.cps.toList)
  |_=>yy)
 |_=>yy
noncomputable def Xel(S:Sto)(x y:D):Option Bool:=match x with
 |.ref a=>(match y with
  |.ref b=>(match Xc S a,Xc S b with
   |some xs,yz ys=>if (lf xs)=lf ys then yy else yz yw
   |_,_=>yy)
  |_=>yy)
 |_=>yy
noncomputable def eqD(S:Sto)(x y:D):Option Bool:=match Xbf x y with
 |some r=>yz r|none=>match Yc S x,Yc S y with
  |some p,yz q=>if p.canLay0&&q.canLay0&&decide (p.depth<=60) then yz (Vaz p q) else Xel S x y|_,_=>Xel S x y
noncomputable def inD(S:Sto)(x y:D):Option Bool:=match Yc S x,Yc S y with
 |some p,yz (.list qs)=>if p.canLay0&&Vb8 qs&&decide (p.depth<=60) then yz (qs.any λq=>Vaz q p) else yy|some p,yz (.tuple qs)=>if p.canLay0&&Vb8 qs&&decide (p.depth<=60) then yz (qs.any λq=>Vaz q p) else yy|_,_=>yy
noncomputable def Xw(S:Sto):D->Option (LD)
 |.tup xs=>yz xs|.fro xs=>yz xs|.ref n=>Xc S n|_=>yy
noncomputable def Xm:LD->Option (LI)
 |[]=>yz []|.int i::r=>(Xm r).map (i :: ·)|_::_=>yy
noncomputable def Yh:LD->Option (List Bool)
 |[]=>yz []|.bl i::r=>(Yh r).map (i :: ·)|_::_=>yy
noncomputable def ltL:LI->LI->Bool
 |[],[]=>yw|[],_::_=>yx|_::_,[]=>yw|x::xs,y::ys=>if x=y then ltL xs ys else decide (x<y)
noncomputable def ltD:D->D->Option Bool
 |.int i,.int j=>yz (decide (i<j))|.tup xs,.tup ys=>match Xm xs with
  |some a=>match Xm ys with
   |some b=>yz (ltL a b)|none=>yy
  |none=>yy
 |_,_=>yy
noncomputable def Xvj:D->Bool
 |.ref _=>yx|.tup _=>yx|_=>yw
noncomputable def Xgl(x:Int):LI->LI
 |[]=>[x]|y::r=>if x<=y then x::y::r else y::Xgl x r
noncomputable def Yl:LI->LI
 |[]=>[]|x::r=>Xgl x (Yl r)
noncomputable def ddS(acc:LI)(x:Int):LI:=if x∈acc then acc else acc++[x]
noncomputable def ddI(ns:LI):LI:=ns.foldl ddS []
noncomputable def Xdb(acc:LD)(y:D)(S:Sto):R (LD):=match y with
 |.int _=>match Xm acc with
  |some B=>if (ddI B).length<60 then .ok (acc++[y]) S else .bad|none=>.bad
 |_=>.bad
noncomputable def Yg:LD->Option (LL)
 |[]=>yz []|.tup ds::r=>match Xm ds with
  |some k=>(Yg r).map (k :: ·)|none=>yy
 |_::_=>yy
noncomputable def ddR(acc:LL)(k:LI):LL:=if k∈acc then acc else acc++[k]
noncomputable def ddL(ks:LL):LL:=ks.foldl ddR []
noncomputable def Xie(k:LI):LL->LL
 |[]=>[k]|y::r=>if ltL k y then k::y::r else y::Xie k r
noncomputable def Yr:LL->LL
 |[]=>[]|k::r=>Xie k (Yr r)
noncomputable def Xac(acc:LD)(S:Sto):R D:=match Xm acc with
 |some B=>if (ddI B).length<60 then .ok (.ref (lf S)) (S++[.lst ((Yl (ddI B)).map D.int)]) else .bad|none=>match Yg acc with
  |some ks=>if (ddL ks).length<61 then .ok (.ref (lf S)) (S++[.lst ((Yr (ddL ks)).map λk=>.tup (k.map D.int))]) else .bad|none=>.bad
noncomputable def ltK(ks:LL)(i j:Nat):Option Bool:=match ks[i]? with
 |some a=>match ks[j]? with
  |some b=>yz (ltL a b)|none=>yy
 |none=>yy
noncomputable def Xbg{α:Type}(lt:Nat->Nat->Option Bool):PySem.W.KasT α->Option α
 |.ret a=>yz a|.ask i j k=>match lt i j with
  |some b=>Xbg lt (k b)|none=>yy
noncomputable def Xd3(ks:LL):LN->Option (LL)
 |[]=>yz []|i::r=>match ks[i]? with
  |some k=>(Xd3 ks r).map (k :: ·)|none=>yy
noncomputable def Xah(ks:LL):Option (LL):=
 if (lf ks)<2 then yz ks else if (lf ks)<64 then (Xbg (ltK ks) (Vdl (lf ks))).bind λp=>if p.size=lf ks then Xd3 ks p.toList else yy else yy
noncomputable def Xg(S:Sto):D->Option Bool
 |.non=>yz yw|.bl b=>yz b|.int i=>yz (i != 0)|.str x=>if x.length<=big then yz ((x.length:Int) != 0) else yy|.tup xs=>yz (!xs.isEmpty)|.fro xs=>yz (!xs.isEmpty)|.fn _ _=>yy|.ref n=>match S[n]? with
  |some (.lst xs)=>yz (!xs.isEmpty)|_=>yy
noncomputable def Xay(i j:Int):Bool:=(decide (-(18446744073709551616)<i)&&decide (i<18446744073709551616))||(decide (-(18446744073709551616)<j)&&decide (j<18446744073709551616))||(decide (i.natAbs.log2<100000)&&decide (j.natAbs.log2<100000))
noncomputable def Xd4(j:Int):Bool:=decide (0<j)&&decide (j.natAbs.log2<9000)
noncomputable def X7(op:Bo)(x y:D)(S:Sto):R D:=match op with
 |.add=>match x,y with
  |.int i,.int j=>.ok (.int (i+j)) S|.tup x,.tup y=>if (lf x)+lf y<=big then .ok (.tup (x++y)) S else .bad|.ref n,.ref m=>match lstM S n,lstM S m with
   |some x,yz y=>if (lf x)+lf y<=big then .ok (.ref (lf S)) (S++[.lst (x++y)]) else .bad|_,_=>.bad
  |_,_=>.bad
 |.sub=>match x,y with
  |.int i,.int j=>.ok (.int (i-j)) S|_,_=>.bad
 |.mul=>match x,y with
  |.int i,.int j=>if Xay i j then .ok (.int (i*j)) S else .bad|_,_=>.bad
 |.fdiv=>match x,y with
  |.int i,.int j=>if Xd4 j then .ok (.int (i/j)) S else .bad|_,_=>.bad
 |.mod=>match x,y with
  |.int i,.int j=>if 0<j then .ok (.int (i%j)) S else .bad|_,_=>.bad
 |.pow=>match x,y with
  |.int i,.int j=>if 0<=j/\j<=1000/\i.natAbs<2^63 then .ok (.int (i^j.toNat)) S else .bad|_,_=>.bad
noncomputable def X5(op:Co)(x y:D)(S:Sto):Option Bool:=match op with
 |.eq=>eqD S x y|.ne=>(eqD S x y).map (!·)|.lt=>ltD x y|.le=>match x,y with
  |.int i,.int j=>yz (decide (i<=j))|_,_=>yy
 |.gt=>match x,y with
  |.int i,.int j=>yz (decide (j<i))|_,_=>yy
 |.ge=>match x,y with
  |.int i,.int j=>yz (decide (j<=i))|_,_=>yy
 |.isin=>inD S x y|.notin=>(inD S x y).map (!·)|.is=>match y with
  |.non=>yz (match x with|.non=>yx|_=>yw)|_=>yy
noncomputable def ixN(n:Nat)(i:Int):Option Nat:=if 0<=i then (if i<n then yz i.toNat else yy) else if-(n:Int)<=i then yz (i+n).toNat else yy
noncomputable def Xa1(x:D)(i:D)(S:Sto):Option D:=
 match i with
 |.int k=>match x with
  |_=>(Xw S x).bind λxs=>(ixN (lf xs) k).bind λj=>xs[j]?
 |_=>yy
noncomputable def Xh(op:Co)(x y:D)(S:Sto):R D:=match X5 op x y S with
 |some r=>.ok (.bl r) S|none=>.bad
noncomputable def Xa8(x i:D)(S:Sto):R D:=match Xa1 x i S with
 |some d=>.ok d S|none=>.bad
noncomputable def Xr(ifs:En->Sto->R Bool)(body:En->LD->Sto->R LD)(env:En)(acc:LD)(S:Sto):R (LD):=(ifs env S).bind λb S=>if b then body env acc S else .ok acc S
noncomputable def Xdc(n:Nat)(d:Nat):Option Int->Nat
 |none=>d|some i=>if 0<=i then min i.toNat n else (i+n).toNat
noncomputable def cut{α:Type}(xs:List α)(lo hi:Option Int):List α:=
 (xs.drop (Xdc (lf xs) 0 lo)).take (Xdc (lf xs) (lf xs) hi-Xdc (lf xs) 0 lo)
noncomputable def Xbz:Option D->Option (Option Int)
 |none=>yz yy|some (.int i)=>yz (yz i)|_=>yy
noncomputable def Xa9(x:D)(lo hi:Option Int)(S:Sto):R D:=
 match x with
 |.tup xs=>.ok (.tup (cut xs lo hi)) S|_=>.bad
noncomputable def Xqk(x:D)(S:Sto):R D:=
 match x with
 |.tup xs=>.ok (.tup xs.reverse) S|_=>.bad
noncomputable def Xd5(f:Nat)(nm:Str):LD->Bool
 |[]=>yw|.fn g m::r=>(g==f&&decide (m=nm))||Xd5 f nm r|_::r=>Xd5 f nm r
inductive Kd where|non|bool|int|str|tuple|list|dict|exc(c:Nat)
 deriving DecidableEq
noncomputable def kdD(S:Sto):D->Option Kd
 |.non=>yz .non|.bl _=>yz .bool|.int _=>yz .int|.str _=>yz .str|.tup _=>yz .tuple|.fro _=>yz .list|.fn _ _=>yy|.ref n=>match S[n]? with
  |some (.lst _)=>yz .list|some (.dct [])=>yz .dict|some (.exc c)=>yz (.exc c)|_=>yy
noncomputable def tyQ(b i s t l d:Bool):Ty->Option Bool
 |.bool=>yz b|.int=>yz i|.str=>yz s|.tuple=>yz t|.list=>yz l|.dict=>yz d|.cls _=>yy|.valueError=>yy
noncomputable def isT:Kd->Ty->Option Bool
 |.exc c',t=>match t with
  |.cls c=>yz (c==0||c==c')|.valueError=>yz yx|_=>yy
 |.non,t=>tyQ yw yw yw yw yw yw t|.bool,t=>tyQ yx yx yw yw yw yw t|.int,t=>tyQ yw yx yw yw yw yw t|.str,t=>tyQ yw yw yx yw yw yw t|.tuple,t=>tyQ yw yw yw yx yw yw t|.list,t=>tyQ yw yw yw yw yx yw t|.dict,t=>tyQ yw yw yw yw yw yx t
noncomputable def Yb(k:Kd):List Ty->Option Bool
 |[]=>yz yw|t::r=>match isT k t with
  |some yx=>yz yx|some yw=>Yb k r|none=>yy
mutual
noncomputable def szD:Vby->Nat
 |.none=>4|.bool _=>5|.int _=>1921|.str x=>(reprText x).length|.list xs=>szDs xs+2|.tuple xs=>szDs xs+3|.dict _=>2
noncomputable def szDs:List Vby->Nat
 |[]=>0|x::xs=>szD x+2+szDs xs
end
mutual
noncomputable def Xai:Vby->Bool
 |.none=>yx|.bool _=>yx|.int _=>yx|.str _=>yx|.list xs=>dctEs xs|.tuple xs=>dctEs xs|.dict kvs=>kvs.isEmpty
noncomputable def dctEs:List Vby->Bool
 |[]=>yx|x::xs=>Xai x&&dctEs xs
end
noncomputable def Xlt(S:Sto)(x:D):Option Str:=match Yc S x with
 |some p=>if p.showable&&Xai p&&decide (p.depth<=60)&&decide (szD p<=big) then yz p.shown else yy|none=>yy
noncomputable def Xk(k:Bl)(ds:LD)(S:Sto):R D:=match k with
 |.len=>match ds with
  |[x]=>match x with
   |_=>match Xw S x with
    |some xs=>.ok (.int (lf xs)) S|none=>.bad
  |_=>.bad
 |.tuple=>match ds with
  |[x]=>match Xw S x with
   |some xs=>.ok (.tup xs) S|none=>.bad
  |_=>.bad
 |.list=>match ds with
  |[x]=>match Xw S x with
   |some xs=>.ok (.ref (lf S)) (S++[.lst xs])|none=>.bad
  |_=>.bad
 |.all=>match ds with
  |[.ref n]=>match (Xc S n).bind Yh with
   |some bs=>.ok (.bl (bs.all id)) S|none=>.bad
  |_=>.bad
 |.anb=>match ds with
  |[.ref n]=>match (Xc S n).bind Yh with
   |some bs=>.ok (.bl (bs.any id)) S|none=>.bad
  |_=>.bad
 |.max=>match ds with
  |[.int i,.int j]=>.ok (.int (if j>i then j else i)) S|_=>.bad
 |.min=>match ds with
  |[.int i,.int j]=>.ok (.int (if j<i then j else i)) S|_=>.bad
 |.sorted=>match ds with
  |[x]=>match (Xw S x).bind Xm with
   |some B=>if Xvj x&&decide (B.length<64) then .ok (.ref (lf S)) (S++[.lst ((Yl B).map D.int)]) else .bad|none=>.bad
  |_=>.bad
 |.mxl=>match ds with
  |[x]=>match (Xw S x).bind Xm with
   |some B=>match B with
    |n::r=>.ok (.int (r.foldl max n)) S|[]=>.bad
   |none=>.bad
  |_=>.bad
 |.srt=>match ds with
  |[.ref n]=>match (Xc S n).bind Yg with
   |some ks=>match Xah ks with
    |some r=>.ok (.ref (lf S)) (S++[.lst (r.map λk=>.tup (k.map D.int))])|none=>.bad
   |none=>.bad
  |[.tup xs]=>match Yg xs with
   |some ks=>match Xah ks with
    |some r=>.ok (.ref (lf S)) (S++[.lst (r.map λk=>.tup (k.map D.int))])|none=>.bad
   |none=>.bad
  |_=>.bad
 |.repr=>match ds with
  |[x]=>match Xlt S x with
   |some t=>.ok (.str t) S|none=>.bad
  |_=>.bad
noncomputable def Yk(k:Mt)(o:D)(ds:LD)(S:Sto):R D:=match o,ds with
 |.ref n,[x]=>match k with
  |.append=>match lstM S n with
   |some xs=>if (lf xs)<big then .ok .non (S.set n (.lst (xs++[x]))) else .bad|none=>.bad
  |.xtd=>match x with
   |.ref k=>match lstM S n with
    |some xs=>match Xc S k with
     |some ys=>if (lf xs)+lf ys<=big then .ok .non (S.set n (.lst (xs++ys))) else .bad|none=>.bad
    |none=>.bad
   |.tup ys=>match lstM S n with
    |some xs=>if (lf xs)+lf ys<=big then .ok .non (S.set n (.lst (xs++ys))) else .bad|none=>.bad
   |_=>.bad
  |.popi=>match x with
   |.int k=>match lstM S n with
    |some xs=>match ixN (lf xs) k with
     |some j=>match xs[j]? with
      |some y=>if (lf xs)<big then .ok y (S.set n (.lst (xs.eraseIdx j))) else .bad|none=>.bad
     |none=>.bad
    |none=>.bad
   |_=>.bad
  |.index=>match x with
   |.bl b=>match (Xc S n).bind Yh with
    |some bs=>match bs.findIdx? (· == b) with
     |some i=>.ok (.int i) S|none=>.bad
    |none=>.bad
   |.int c=>match (Xc S n).bind Xm with
    |some B=>match B.findIdx? (· == c) with
     |some i=>.ok (.int i) S|none=>.bad
    |none=>.bad
   |_=>.bad
  |.count=>match x with
   |.bl b=>match (Xc S n).bind Yh with
    |some bs=>.ok (.int (bs.countP (· == b):Nat)) S|none=>.bad
   |_=>.bad
 |_,_=>.bad
noncomputable def Y7(k:Mt)(x:D)(S:Sto):Bool:=match x with
 |.ref n=>(Xc S n).isSome|_=>yw
noncomputable def Xcy(o i v:D)(S:Sto):R Unit:=
 match o with
 |.ref n=>match i with
  |.int k=>match lstM S n with
   |some xs=>match ixN (lf xs) k with
    |some j=>.ok () (S.set n (.lst (xs.set j v)))|none=>.bad
   |none=>.bad
  |_=>.bad
 |_=>.bad
noncomputable def X3r(p:LI×D):D:=.tup [.tup (p.1.map D.int),p.2]
inductive Src where
 |con (xs:LD)|ref (n:Nat)|zpp (a b:Src)
noncomputable def Src.get:Src->Sto->Nat->Option (Option D)
 |.con xs,_,i=>yz xs[i]?|.ref n,S,i=>(Xc S n).map λxs=>xs[i]?|.zpp a b,S,i=>match a.get S i,b.get S i with
  |some (yz x),yz (yz y)=>yz (yz (.tup [x,y]))|some _,yz _=>yz yy|_,_=>yy
noncomputable def Src.most:Src->Sto->Nat
 |.con xs,_=>lf xs|.ref n,S=>((Xc S n).getD []).length|.zpp a b,S=>min (a.most S) (b.most S)
noncomputable def Ys(S:Sto):D->Option Src
 |.tup xs=>yz (.con xs)|.ref n=>(Xc S n).map λ_=>.ref n|_=>yy
noncomputable def Yu:LD->Option (LD)
 |[.int j]=>if-(1048576)<j/\j<1048576 then yz ((Vs j.toNat).map λ(k:Nat)=>D.int (k:Int)) else yy|_=>yy
noncomputable def Xu(t:Tg)(d:D)(env:En):Option En:=
 match t with
 |.var i=>yz (env.set i (yz d))|.tup is=>match d with
  |.tup ds=>if (lf is)=lf ds then yz ((is.zip ds).foldl (λe p=>e.set p.1 (yz p.2)) env) else yy|_=>yy
noncomputable def slots:Tg->LN
 |.var i=>[i]|.tup is=>is
noncomputable def Xbh(t:Tg)(env:En):Bool:=(slots t).all λi=>match env[i]? with
 |some (yz _)=>yw|_=>yx
noncomputable def Xp(get:Sto->Nat->Option (Option D))(t:Tg)(body:En->LD->Sto->R LD):Nat->Nat->En->LD->Sto->R (LD)
 |0,_,_,_,_=>.bad|k+1,i,env,acc,S=>match get S i with
  |none=>.bad|some yy=>.ok acc S|some (yz d)=>match Xu t d env with
   |none=>.bad|some B=>match body B acc S with
    |.ok J S'=>Xp get t body k (i+1) B J S'|_=>.bad
noncomputable abbrev Fn:=Nat->LD->Sto->R D
section
variable(F:Fn)(G:LD)
mutual
noncomputable def ev:Ex->En->Sto->R D
 |.nev,_,_=>.bad|.var i,env,S=>match env[i]? with
  |some (yz d)=>.ok d S|_=>.bad
 |.cst d,_,S=>.ok d S|.neg a,env,S=>(ev a env S).bind λx S=>match x with
  |.int i=>.ok (.int (-i)) S|_=>.bad
 |.glb k,_,S=>match G[k]? with
  |some d=>.ok d S|none=>.bad
 |.tup es,env,S=>(evs es env S).bind λxs S=>if (lf xs)<=big then .ok (.tup xs) S else .bad|.lst es,env,S=>(evs es env S).bind λxs S=>if (lf xs)<=big then .ok (.ref (lf S)) (S++[.lst xs]) else .bad|.dct0,_,S=>.ok (.ref (lf S)) (S++[.dct []])|.bin op a b,env,S=>(ev a env S).bind λx S=>(ev b env S).bind λy S=>X7 op x y S|.cmp op a b,env,S=>(ev a env S).bind λx S=>(ev b env S).bind λy S=>Xh op x y S|.chn o1 o2 a b c,env,S=>(ev a env S).bind λx S=>(ev b env S).bind λy S=>match X5 o1 x y S with
  |some yx=>(ev c env S).bind λz S=>Xh o2 y z S|some yw=>.ok (.bl yw) S|none=>.bad
 |.and a b,env,S=>(ev a env S).bind λx S=>match Xg S x with
  |some yx=>ev b env S|some yw=>.ok x S|none=>.bad
 |.or a b,env,S=>(ev a env S).bind λx S=>match Xg S x with
  |some yx=>.ok x S|some yw=>ev b env S|none=>.bad
 |.not a,env,S=>(ev a env S).bind λx S=>match Xg S x with
  |some r=>.ok (.bl (!r)) S|none=>.bad
 |.ite c a b,env,S=>(ev c env S).bind λx S=>match Xg S x with
  |some yx=>ev a env S|some yw=>ev b env S|none=>.bad
 |.idx a i,env,S=>(ev a env S).bind λx S=>(ev i env S).bind λy S=>Xa8 x y S|.sli a lo hi,env,S=>(ev a env S).bind λx S=>(evo lo env S).bind λl S=>(evo hi env S).bind λh S=>match Xbz l,Xbz h with
  |some l,yz h=>Xa9 x l h S|_,_=>.bad
 |.rev a,env,S=>(ev a env S).bind λx S=>Xqk x S|.call f es,env,S=>(evs es env S).bind λxs S=>F f xs S|.blt k es,env,S=>(evs es env S).bind λxs S=>Xk k xs S|.mth k o es,env,S=>(ev o env S).bind λx S=>if Y7 k x S then (evs es env S).bind λxs S=>Yk k x xs S else .bad|.isi a ts,env,S=>(ev a env S).bind λx S=>match (kdD S x).bind λk=>Yb k ts with
  |some r=>.ok (.bl r) S|none=>.bad
 |.lrg t es,env,S=>(evs es env S).bind λxs S=>match Yu xs with
  |some ds=>if t then .ok (.tup ds) S else .ok (.ref (lf S)) (S++[.lst ds])|none=>.bad
 |.cmr k n U elt,env,S=>match U with
  |.nil=>.bad|.cons t it ifs U=>(evit it env S).bind λL S=>
   (Xp (L.get) t (Xr (λenv S=>evts ifs env S) (λenv B S=>
     match U with
     |.nil=>(ev elt env S).bind λy S=>if (lf B)<big then .ok (B++[y]) S else .bad|.cons t2 it2 ifs2 Y=>match Y with
      |.nil=>if Xbh t2 env then (evit it2 env S).bind λJ S=>Xp (J.get) t2 (Xr (λenv S=>evts ifs2 env S) (λenv B S=>(ev elt env S).bind λy S=>if (lf B)<big then .ok (B++[y]) S else .bad)) (J.most S+1) 0 env B S else .bad
      |.cons ..=>.bad)) (L.most S+1) 0 (env++Vu n yy) [] S).bind λB S=>
   if k then .bad else .ok (.ref (lf S)) (S++[.lst B])
 |.cms n U elt,env,S=>match U with
  |.nil=>.bad|.cons t it ifs U=>(evit it env S).bind λL S=>
   (Xp (L.get) t (Xr (λenv S=>evts ifs env S) (λenv B S=>
     match U with
     |.nil=>(ev elt env S).bind λy S=>Xdb B y S|.cons t2 it2 ifs2 Y=>match Y with
      |.nil=>if Xbh t2 env then (evit it2 env S).bind λJ S=>Xp (J.get) t2 (Xr (λenv S=>evts ifs2 env S) (λenv B S=>(ev elt env S).bind λy S=>Xdb B y S)) (J.most S+1) 0 env B S else .bad
      |.cons ..=>.bad)) (L.most S+1) 0 (env++Vu n yy) [] S).bind λB S=>Xac B S
 |.sst a,env,S=>(ev a env S).bind λx S=>match x with
  |.ref n=>match Xc S n with
   |some xs=>Xac xs S|none=>.bad
  |.tup xs=>match Yg xs with
   |some (_::_)=>Xac xs S|_=>.bad
  |_=>.bad
noncomputable def evo:Op->En->Sto->R (Option D)
 |.none,_,S=>.ok yy S|.some e,env,S=>(ev e env S).bind λx S=>.ok (yz x) S
noncomputable def evs:Exs->En->Sto->R (LD)
 |.nil,_,S=>.ok [] S|.cons e es,env,S=>(ev e env S).bind λx S=>(evs es env S).bind λxs S=>.ok (x::xs) S
noncomputable def evts:Exs->En->Sto->R Bool
 |.nil,_,S=>.ok yx S|.cons e es,env,S=>(ev e env S).bind λx S=>match Xg S x with
  |some yx=>evts es env S|some yw=>.ok yw S|none=>.bad
noncomputable def evit:It->En->Sto->R Src
 |.val e,env,S=>(ev e env S).bind λx S=>match Ys S x with
  |some s=>.ok s S|none=>.bad
 |.rng es,env,S=>(evs es env S).bind λxs S=>match Yu xs with
  |some ds=>.ok (.con ds) S|none=>.bad
 |.zpp es,env,S=>(evs es env S).bind λxs S=>match xs with
  |[x,y]=>match Ys S x,Ys S y with
   |some s,yz t=>.ok (.zpp s t) S|_,_=>.bad
  |_=>.bad
end
mutual
noncomputable def X3s:St->Bool
 |.expr _=>yx|.ret _=>yx|.pass=>yx|.ite _ a b=>nasgs a&&nasgs b|.rse _ _=>yx|_=>yw
noncomputable def nasgs:Sts->Bool
 |.nil=>yx|.cons s ss=>X3s s&&nasgs ss
end
noncomputable def X9(get:Sto->Nat->Option (Option D))(t:Tg)(body:En->Sto->R Fl):Nat->Nat->En->Sto->R Fl
 |0,_,_,_=>.bad|k+1,i,env,S=>match get S i with
  |none=>.bad|some yy=>.ok (.nx env) S|some (yz d)=>match Xu t d env with
   |none=>.bad|some B=>match body B S with
    |.ok (.nx e) S'=>X9 get t body k (i+1) e S'|.ok (.cnt e) S'=>X9 get t body k (i+1) e S'|.ok (.brk e) S'=>.ok (.nx e) S'|.ok (.rt d) S'=>.ok (.rt d) S'|.ex n S'=>.ex n S'|.bad=>.bad
mutual
noncomputable def exe:St->En->Sto->R Fl
 |.nev,_,_=>.bad|.asg t e,env,S=>(ev F G e env S).bind λx S=>match Xu t x env with
  |some env=>.ok (.nx env) S|none=>.bad
 |.par is es,env,S=>(evs F G es env S).bind λxs S=>if (lf is)=lf xs then .ok (.nx ((is.zip xs).foldl (λe p=>e.set p.1 (yz p.2)) env)) S else .bad|.aset o i e,env,S=>(ev F G e env S).bind λv S=>(ev F G o env S).bind λx S=>(ev F G i env S).bind λy S=>(Xcy x y v S).bind λ_ S=>.ok (.nx env) S|.expr e,env,S=>(ev F G e env S).bind λ_ S=>.ok (.nx env) S|.ret e,env,S=>(ev F G e env S).bind λx S=>.ok (.rt x) S|.ite c a b,env,S=>(ev F G c env S).bind λx S=>match Xg S x with
  |some yx=>pc a env S|some yw=>pc b env S|none=>.bad
 |.for t it b,env,S=>(evit F G it env S).bind λB S=>X9 B.get t (λenv S=>pc b env S) (B.most S+1) 0 env S|.rse c e,env,S=>(ev F G e env S).bind λ_ S=>.ex (lf S) (S++[.exc c])|.try b c x h,env,S=>if nasgs b then
   match pc b env S with
   |.ex n S'=>match S'[n]? with
    |some (.exc c')=>if c==0||c==c' then
      match pc h (env.set x (yz (.ref n))) S' with
      |.ok (.rt d) S''=>.ok (.rt d) S''|_=>.bad
     else .bad|_=>.bad
   |r=>r
  else .bad|.pass,env,S=>.ok (.nx env) S|.brk,env,S=>.ok (.brk env) S|.cnt,env,S=>.ok (.cnt env) S
noncomputable def pc:Sts->En->Sto->R Fl
 |.nil,env,S=>.ok (.nx env) S|.cons s ss,env,S=>match exe s env S with
  |.ok (.nx e) S'=>pc ss e S'|r=>r
end
structure Df where
 np:Nat
 nl:Nat
 body:Sts
noncomputable def den(d:Df)(ds:LD)(S:Sto):R D:=
 if (lf ds)=d.np then
  match pc F G d.body (ds.map yz++Vu (d.nl-d.np) yy) S with
  |.ok (.rt v) S=>.ok v S|.ok (.nx _) S=>.ok .non S|.ok _ _=>.bad|.ex n S=>.ex n S|.bad=>.bad
 else .bad
end
noncomputable def FT(T:List Df)(G:LD):Nat->Fn
 |0=>λ_ _ _=>.bad|k+1=>λf ds S=>match T[f]? with
  |some d=>den (FT T G k) G d ds S|none=>.bad
def FrL(K:Vj)(H:Hp)(a:Addr)(vs:LW):Prop:=
 (∃o,H a=yz (.frz o (.lst vs))) \/
  ∃(o:Obj) (its:AV) (n:Nat),K.lookup a=yz o/\o.cls=.type "list" /\ o.dict=yy/\o.data=.seq its n/\its.size<=V8/\Vals vs its.toList
theorem FrL.sq{K:Vj}{H:Hp}{a:Addr}{vs:LW}(h:FrL K H a vs):SqL K H a vs:=by
 rcases h with⟨o,h⟩|h;·exact .inl (.inr ⟨o,h⟩)
 ·exact .inr h
mutual
def RD(K:Vj)(ρ:LR)(H:Hp):D->V->Prop
 |.non,v=>v=.non|.bl b,v=>v=.bl b|.int i,v=>v=.int i|.str x,v=>v=.str x|.tup xs,v=>∃a vs,v=.ref a/\SqT K H a vs/\RDs K ρ H xs vs|.fro xs,v=>∃a vs,v=.ref a/\FrL K H a vs/\RDs K ρ H xs vs|.ref n,v=>∃a,v=.ref a/\ρ[n]?=yz a|.fn _ nm,v=>∃a,v=.ref a/\Va7 K Uf nm=yz (yz (.ref a))
def RDs(K:Vj)(ρ:LR)(H:Hp):LD->LW->Prop
 |[],vs=>vs=[]|x::xs,vs=>∃v r,vs=v::r/\RD K ρ H x v/\RDs K ρ H xs r
end
noncomputable def clsNames:LS:=["FaceError","NoNet","NoFace","NoPoint","NotApart","TooMany","NoText","NoRow","NoNumber","NotLevel","NoCrowd","NoWay","NotClosed","NoSwap","NoPlaces","NoDeed","NoLine"]
noncomputable def Xbi(c:Nat):Option Str:=(clsNames[c]?).filter λx=>!decide (x="")
theorem Xlu(h:Xbi c=yz x):c<lf clsNames:=by
 unfold Xbi at h;cases q:clsNames[c]? with
 |none=>rw[q]at h;cases h|some _=>exact(Vi.mp q).1
noncomputable def Y9(K:Vj)(c:Nat):Option Addr:=(Xbi c).bind λnm=>match Va7 K Uf nm with
 |some (yz (.ref C))=>yz C|_=>yy
def ExcO(C a:Addr)(h:Heap):Prop:=∃B vs J,h.get? a=yz B/\B.cls=.ref C/\B.data=.fields vs/\vs[0]?=yz J/\1<vs.size
theorem ExcO.ok(x:ExcO C a h):ObjOk P w H h a (.ext (ExcO C a)):=
 ⟨x,let ⟨oe,_,_,e,_⟩:=x;⟨oe,e⟩,λh1 h2 ⟨oe,vs,a0,e,r⟩ k=>⟨oe,vs,a0,k _ e,r⟩⟩
def X3t(a:Addr)(o:Obj)(xs:List (LI×Addr×V)):Prop:=(a==Vcu)=yw/\(lf xs)<=V8/\o.ExactDict/\∃(ys:List (LI×Addr×Vb)) (es:Array DictEntry) (ep:Nat),
 Paired (λp q=>p.1=q.1/\p.2.1=q.2.1/\RelV p.2.2 q.2.2) xs ys/\o.data=.dict es ep/\(∀P w,es.toList=ys.map (entryOfKey (tupleKind (Va8 P w))))/\(ys.map (·.1)).Nodup
def Yaq(a:Addr)(xs:List (LI×Addr×V))(h:Heap):Prop:=∃o,h.get? a=yz o/\X3t a o xs
abbrev DX(K:Vj)(ρ:LR)(H:Hp):List (LI×D)->List (LI×Addr×V)->Prop:=Paired λp q=>p.1=q.1/\SqT K H q.2.1 (p.1.map V.int)/\RD K ρ H p.2 q.2.2
def OR(K:Vj)(ρ:LR)(H:Hp)(a:Addr):O->Prop
 |.lst xs=>∃vs,H a=yz (.lst vs)/\RDs K ρ H xs vs|.dct kvs=>(kvs=[]/\H a=yz (.dK []))\/(kvs≠[]/\∃xs,H a=yz (.ext (Yaq a xs))/\DX K ρ H kvs xs)|.fdc kvs=>∃o u xs,H a=yz (.frz o u)/\(∀ys,u≠.tup ys)/\(∀ys,u≠.lst ys)/\X3t a o xs/\DX K ρ H kvs xs|.exc c=>∃C,Y9 K c=yz C/\H a=yz (.ext (ExcO C a))
theorem OR.some{K:Vj}{ρ:LR}{H:Hp}{a:Addr}{o:O}(h:OR K ρ H a o):∃u,H a=yz u/\∀xs,u≠.tup xs:=by
 cases o with
 |lst xs=>obtain⟨vs,e,_⟩:=h;exact⟨_,e,λ_ z=>(nomatch z)⟩|dct kvs=>
  rcases h with⟨_,e⟩|⟨_,xs,e,_⟩;·exact⟨_,e,λ_ z=>(nomatch z)⟩
  ·exact⟨_,e,λ_ z=>(nomatch z)⟩|fdc kvs=>obtain⟨o,u,xs,e,_⟩:=h;exact⟨_,e,λ_ z=>(nomatch z)⟩|exc c=>obtain⟨C,_,e⟩:=h;exact⟨_,e,λ_ z=>(nomatch z)⟩
structure SR(K:Vj)(ρ:LR)(S:Sto)(H:Hp):Prop where
 len:(lf ρ)=lf S
 nd:ρ.Nodup
 ob:∀(n:Nat) a o,ρ[n]?=yz a->S[n]?=yz o->OR K ρ H a o
structure Mon(K:Vj)(ρ ρ':LR)(H H':Hp):Prop where
 pre:∀(n:Nat) a,ρ[n]?=yz a->ρ'[n]?=yz a
 tup:∀a xs,SqT K H a xs->SqT K H' a xs
 frz:∀a o u,H a=yz (.frz o u)->H' a=yz (.frz o u)
structure Stp(K:Vj)(ρ ρ':LR)(H H':Hp):Prop extends Mon K ρ ρ' H H' where
 new:∀a∈ρ',a∈ρ\/H a=yy
 keep:∀a o,H a=yz o->a ∉ ρ->H' a=yz o
section
variable{K:Vj}{ρ ρ' ρ'':LR}{H H' H'':Hp}{S:Sto}
theorem Mon.fro(x:Mon K ρ ρ' H H')(a:Addr)(xs:LW)(h:FrL K H a xs):FrL K H' a xs:=by
 rcases h with⟨o,h⟩|h;·exact .inl ⟨o,x.frz _ _ _ h⟩
 ·exact .inr h
theorem Stp.refl:Stp K ρ ρ H H:=⟨⟨λ_ _ h=>h,λ_ _ h=>h,λ_ _ _ h=>h⟩,λ_ h=>.inl h,λ_ _ h _=>h⟩
theorem Stp.trans(x:Stp K ρ ρ' H H')(y:Stp K ρ' ρ'' H' H''):Stp K ρ ρ'' H H'' where
 pre:=λn a h=>y.pre n a (x.pre n a h)
 new:=λa h=>by
  rcases y.new a h with h|h;·exact x.new a h
  ·cases e:H a with
   |none=>exact .inr rfl|some o=>
    by_cases B:a∈ρ;·exact .inl B
    ·rw[x.keep a o e B]at h;cases h
 keep:=λa o h n=>y.keep a o (x.keep a o h n) λB=>by
  rcases x.new a B with z|z;·exact n z
  ·rw[h]at z;cases z
 tup:=λa xs h=>y.tup a xs (x.tup a xs h)
 frz:=λa o u h=>y.frz a o u (x.frz a o u h)
mutual
theorem RD.mono'(x:Mon K ρ ρ' H H'):∀(d:D) (v:V),RD K ρ H d v->RD K ρ' H' d v
 |.non=>λv h=>by simpa only[RD] using h|.bl b=>λv h=>by simpa only[RD] using h|.int i=>λv h=>by simpa only[RD] using h|.str y=>λv h=>by simpa only[RD] using h|.tup xs=>λv h=>by simp only[RD]at h ⊢;obtain⟨a,vs,e,h1,h2⟩:=h;exact⟨a,vs,e,x.tup a vs h1,RDs.mono' x xs vs h2⟩|.fro xs=>λv h=>by simp only[RD]at h ⊢;obtain⟨a,vs,e,h1,h2⟩:=h;exact⟨a,vs,e,x.fro a vs h1,RDs.mono' x xs vs h2⟩|.ref n=>λv h=>by simp only[RD]at h ⊢;obtain⟨a,e,h⟩:=h;exact⟨a,e,x.pre n a h⟩|.fn f nm=>λv h=>by simpa only[RD] using h
theorem RDs.mono'(x:Mon K ρ ρ' H H'):∀(ds:LD) (vs:LW),RDs K ρ H ds vs->RDs K ρ' H' ds vs
 |[]=>λvs h=>by simpa only[RDs] using h|d::ds=>λvs h=>by simp only[RDs]at h ⊢;obtain⟨v,r,e,h1,h2⟩:=h;exact⟨v,r,e,RD.mono' x d v h1,RDs.mono' x ds r h2⟩
end
theorem RD.mono(x:Stp K ρ ρ' H H')(d:D)(v:V)(h:RD K ρ H d v):RD K ρ' H' d v:=RD.mono' x.toMon d v h
theorem RDs.mono(x:Stp K ρ ρ' H H')(ds:LD)(vs:LW)(h:RDs K ρ H ds vs):RDs K ρ' H' ds vs:=RDs.mono' x.toMon ds vs h
theorem RDs.nil:RDs K ρ H [] []:=by simp only[RDs]
theorem RDs.cons(h:RD K ρ H d v)(t:RDs K ρ H ds vs):RDs K ρ H (d::ds) (v::vs):=by simp only[RDs];exact⟨v,vs,rfl,h,t⟩
theorem RDs.length:∀ {ds:LD} {vs:LW},RDs K ρ H ds vs->lf ds=lf vs
 |[],vs,h=>by simp only[RDs]at h;subst h;rfl|d::ds,vs,h=>by simp only[RDs]at h;obtain⟨v,r,rfl,_,h2⟩:=h;simp[RDs.length h2]
theorem RDs.append:∀ {ds es:LD} {vs us:LW},RDs K ρ H ds vs->RDs K ρ H es us->RDs K ρ H (ds++es) (vs++us)
 |[],es,vs,us,h,t=>by simp only[RDs]at h;subst h;exact t|d::ds,es,vs,us,h,t=>by simp only[RDs]at h;obtain⟨v,r,rfl,h1,h2⟩:=h;exact RDs.cons h1 (RDs.append h2 t)
theorem RDs.get:∀ {ds:LD} {vs:LW} {i:Nat} {d:D},RDs K ρ H ds vs->ds[i]?=yz d->∃v,vs[i]?=yz v/\RD K ρ H d v
 |[],vs,i,d,h,e=>by simp at e|x::ds,vs,0,d,h,e=>by simp only[RDs]at h;obtain⟨v,r,rfl,h1,h2⟩:=h;simp at e;subst e;exact⟨v,rfl,h1⟩|x::ds,vs,i+1,d,h,e=>by simp only[RDs]at h;obtain⟨v,r,rfl,h1,h2⟩:=h;obtain⟨J,B,h'⟩:=RDs.get (i:=i) h2 (by simpa using e);exact⟨J,by simpa using B,h'⟩
theorem RDs.none{ds:LD}{vs:LW}{i:Nat}(h:RDs K ρ H ds vs)(e:ds[i]?=yy):vs[i]?=none:=by have:=h.length;rw[Ui]at e ⊢;omega
theorem RDs.set(B:RD K ρ H d v):∀ {ds:LD} {vs:LW} (i:Nat),RDs K ρ H ds vs->RDs K ρ H (ds.set i d) (vs.set i v)
 |[],vs,i,h=>by simp only[RDs]at h;subst h;exact RDs.nil|x::ds,vs,0,h=>by simp only[RDs]at h;obtain⟨w,r,rfl,h1,h2⟩:=h;exact RDs.cons B h2|x::ds,vs,i+1,h=>by simp only[RDs]at h;obtain⟨w,r,rfl,h1,h2⟩:=h;exact RDs.cons h1 (RDs.set B i h2)
theorem RDs.drop:∀ {ds:LD} {vs:LW} (n:Nat),RDs K ρ H ds vs->RDs K ρ H (ds.drop n) (vs.drop n)
 |ds,vs,0,h=>h|[],vs,n+1,h=>by simp only[RDs]at h;subst h;exact RDs.nil|x::ds,vs,n+1,h=>by simp only[RDs]at h;obtain⟨w,r,rfl,h1,h2⟩:=h;exact RDs.drop n h2
theorem RDs.take:∀ {ds:LD} {vs:LW} (n:Nat),RDs K ρ H ds vs->RDs K ρ H (ds.take n) (vs.take n)
 |ds,vs,0,h=>RDs.nil|[],vs,n+1,h=>by simp only[RDs]at h;subst h;exact RDs.nil|x::ds,vs,n+1,h=>by simp only[RDs]at h;obtain⟨w,r,rfl,h1,h2⟩:=h;exact RDs.cons h1 (RDs.take n h2)
theorem RDs.ints:∀(ns:LI),RDs K ρ H (ns.map D.int) (ns.map V.int)
 |[]=>RDs.nil|n::ns=>RDs.cons (by simp only[RD]) (RDs.ints ns)
theorem RDs.ints_of:∀ {ns:LI} {vs:LW},RDs K ρ H (ns.map D.int) vs->vs=ns.map V.int
 |[],vs,h=>by simp only[Uw,RDs]at h;exact h|n::ns,vs,h=>by simp only[Uw,RDs]at h;obtain⟨v,r,rfl,h1,h2⟩:=h;simp only[RD]at h1;subst h1;rw[RDs.ints_of h2];rfl
theorem DX.mono(x:Mon K ρ ρ' H H')(h:DX K ρ H kvs xs):DX K ρ' H' kvs xs:=Paired.mapP h λp q ⟨h1,h2,h3⟩=>⟨h1,x.tup _ _ h2,RD.mono' x _ _ h3⟩
theorem OR.mono'(x:Mon K ρ ρ' H H')(h:OR K ρ H a o)(e:H' a=H a):OR K ρ' H' a o:=by
 cases o with
 |lst xs=>obtain⟨vs,h1,h2⟩:=h;exact⟨vs,e.trans h1,RDs.mono' x xs vs h2⟩|dct kvs=>
  rcases h with⟨h1,h2⟩|⟨h0,xs,h1,h2⟩;·exact .inl ⟨h1,e.trans h2⟩
  ·exact .inr ⟨h0,xs,e.trans h1,h2.mono x⟩|fdc kvs=>obtain⟨o,u,xs,h1,h2,B,J,L⟩:=h;exact⟨o,u,xs,e.trans h1,h2,B,J,L.mono x⟩|exc c=>obtain⟨C,h1,h2⟩:=h;exact⟨C,h1,e.trans h2⟩
theorem OR.mono(x:Stp K ρ ρ' H H')(h:OR K ρ H a o)(e:H' a=H a):OR K ρ' H' a o:=OR.mono' x.toMon h e
theorem SR.at(r:SR K ρ S H){n:Nat}{a:Addr}(h:ρ[n]?=yz a):∃o,S[n]?=yz o/\OR K ρ H a o:=by
 have hn:n<lf S:=by rw[<-r.len];exact(Vi.mp h).1
 exact⟨S[n],by simp[hn],r.ob n a _ h (by simp[hn])⟩
theorem SR.adr(r:SR K ρ S H){n:Nat}(h:S[n]?=yz o):∃a,ρ[n]?=yz a/\OR K ρ H a o:=by
 have hn:n < ρ.length:=by rw[r.len];exact(Vi.mp h).1
 exact⟨ρ[n],by simp[hn],r.ob n _ o (by simp[hn]) h⟩
theorem SR.mem(r:SR K ρ S H){a:Addr}(h:a∈ρ):∃u,H a=yz u/\∀xs,u≠.tup xs:=by obtain⟨n,hn,e⟩:=Vb3.mp h;obtain⟨o,_,q⟩:=r.at (n:=n) (a:=a) (by simp[hn,e]);exact q.some
theorem Stp.upd(hp:H p=yy):Stp K ρ ρ H (L2.upd H p o) where
 pre:=λ_ _ h=>h
 new:=λ_ h=>.inl h
 keep:=λa u h _=>by rw[Xj (Xs h hp)];exact h
 tup:=λa xs h=>by
  rcases h with(h|⟨u,h⟩)|h;·exact .inl (.inl (by rw[Xj (Xs h hp)];exact h))
  ·exact .inl (.inr ⟨u,by rw[Xj (Xs h hp)];exact h⟩)
  exact .inr h
 frz:=λa o u h=>by rw[Xj (Xs h hp)];exact h
theorem SR.upd(r:SR K ρ S H){p:Addr}{o:HO}(hp:H p=yy):SR K ρ S (L2.upd H p o):=
 ⟨r.len,r.nd,λn a ob h1 h2=>by have q:=r.ob n a ob h1 h2;obtain⟨u,B,_⟩:=q.some;exact q.mono (Stp.upd hp) (Xj (Xs B hp))⟩
theorem Stp.new1(hp:H p=yy):Stp K ρ (ρ++[p]) H (L2.upd H p o) where
 pre:=λn a h=>by rw[V1 (Vi.mp h).1];exact h
 new:=λa h=>by
  rcases Uq.mp h with h|h;·exact .inl h
  ·rw[V9.mp h];exact .inr hp
 keep:=(Stp.upd (ρ:=ρ) (K:=K) hp).keep
 tup:=(Stp.upd (ρ:=ρ) (K:=K) hp).tup
 frz:=(Stp.upd (ρ:=ρ) (K:=K) hp).frz
theorem SR.new1(r:SR K ρ S H){p:Addr}{u:HO}{o:O}(hp:H p=yy)(L:OR K (ρ++[p]) (L2.upd H p u) p o):SR K (ρ++[p]) (S++[o]) (L2.upd H p u):=by
 have B:p ∉ ρ:=λh=>by obtain⟨w,hw,_⟩:=r.mem h;rw[hp]at hw;cases hw
 refine⟨by simp[r.len],?_,λn a ob h1 h2=>?_⟩;·rw[Vda];refine⟨r.nd,by simp,λx U y J=>?_⟩;rw[V9.mp J];exact λz=>B (z▸U)
 ·by_cases hn:n < ρ.length;·rw[V1 hn]at h1;rw[V1 (by rw[<-r.len];exact hn)]at h2;have q:=r.ob n a ob h1 h2;obtain⟨w,hw,_⟩:=q.some;exact q.mono (Stp.new1 hp) (Xj (Xs hw hp))
  ·have e:n=lf ρ:=by
    have:=(Vi.mp h1).1;simp at this;omega
   subst e;simp at h1;rw[r.len]at h2;simp at h2;subst h1 h2;exact L
theorem Stp.chg{n:Nat}{a:Addr}{o:O}{u:HO}(r:SR K ρ S H)(L:ρ[n]?=yz a)(J:∀o u,H a≠yz (.frz o u)):Stp K ρ ρ H (L2.upd H a u):=by
 have B:a∈ρ:=V6 L;obtain⟨w,hw,h1⟩:=r.mem B;refine⟨⟨λ_ _ h=>h,λb xs h=>?_,λb o u h=>?_⟩,λ_ h=>.inl h,λb o h U=>?_⟩
 ·rcases h with(h|⟨v,h⟩)|h;·exact .inl (.inl (by rw[Xj (λz=>by subst z;rw[hw]at h;exact h1 _ (Ud h))];exact h))
  ·exact .inl (.inr ⟨v,by rw[Xj (λz=>by subst z;exact J _ _ h)];exact h⟩)
  exact .inr h
 ·rw[Xj (λz=>by subst z;exact J _ _ h)];exact h
 rw[Xj (λz=>U (by rw[z];exact B))];exact h
theorem SR.chg{n:Nat}{a:Addr}{o:O}{u:HO}(r:SR K ρ S H)(B:ρ[n]?=yz a)(L:∀o u,H a≠yz (.frz o u))(J:OR K ρ (L2.upd H a u) a o):SR K ρ (S.set n o) (L2.upd H a u):=by
 refine⟨by simp[r.len],r.nd,λm b ob h1 h2=>?_⟩;have hn:n<lf S:=by rw[<-r.len];exact(Vi.mp B).1
 by_cases e:m=n;·subst e;rw[B]at h1;cases h1;rw[Vcr hn]at h2;cases h2;exact J
 ·rw[Vay (Ne.symm e)]at h2;have q:=r.ob m b ob h1 h2;refine q.mono (Stp.chg (S:=S) (o:=o) r B L) (Xj λz=>e ?_);subst z;obtain⟨h3,U⟩:=Vi.mp h1;obtain⟨h4,Y⟩:=Vi.mp B;exact(List.getElem_inj r.nd).mp (U.trans Y.symm)
theorem Mon.own{D:Addr}{u:HO}{vs:LW}(hd:H D=yz (.lst vs)):Mon K ρ ρ H (L2.upd H D u) where
 pre:=λ_ _ h=>h
 tup:=λa xs h=>by
  rcases h with(h|⟨v,h⟩)|h;·exact .inl (.inl (by rw[Xj (λz=>by subst z;rw[hd]at h;cases h)];exact h))
  ·exact .inl (.inr ⟨v,by rw[Xj (λz=>by subst z;rw[hd]at h;cases h)];exact h⟩)
  exact .inr h
 frz:=λa o u h=>by rw[Xj (λz=>by subst z;rw[hd]at h;cases h)];exact h
theorem SR.own{D:Addr}{u:HO}{vs:LW}(r:SR K ρ S H)(hd:H D=yz (.lst vs))(hn:D ∉ ρ):SR K ρ S (L2.upd H D u):=
 ⟨r.len,r.nd,λn a ob h1 h2=>(r.ob n a ob h1 h2).mono' (Mon.own hd) (Xj λz=>hn (by rw[<-z];exact V6 h1))⟩
theorem Stp.own{D:Addr}{u:HO}{vs:LW}{ρ0:LR}(x:Stp K ρ0 ρ H0 H)(B:H0 D=yy)(hd:H D=yz (.lst vs)):Stp K ρ0 ρ H0 (L2.upd H D u) where
 pre:=x.pre
 tup:=λa xs h=>(Mon.own (ρ:=ρ) hd).tup a xs (x.tup a xs h)
 frz:=λa o u h=>(Mon.own (K:=K) (ρ:=ρ) hd).frz a o u (x.frz a o u h)
 new:=x.new
 keep:=λa o h hn=>by rw[Xj (Xs h B)];exact x.keep a o h hn
end
structure ER(K:Vj)(ρ:LR)(H:Hp)(env:En)(σ:L2.St):Prop where
 len:(lf env)=lf σ
 val:∀(i:Nat) d,env[i]?=yz (yz d)->∃v,σ[i]?=yz (yz v)/\RD K ρ H d v
theorem ER.mono{K:Vj}{ρ ρ':LR}{H H':Hp}{env:En}{σ:L2.St}(r:ER K ρ H env σ)(x:Stp K ρ ρ' H H'):ER K ρ' H' env σ:=
 ⟨r.len,λi d e=>let ⟨v,h1,h2⟩:=r.val i d e;⟨v,h1,h2.mono x⟩⟩
theorem ER.mono'{K:Vj}{ρ ρ':LR}{H H':Hp}{env:En}{σ:L2.St}(r:ER K ρ H env σ)(x:Mon K ρ ρ' H H'):ER K ρ' H' env σ:=
 ⟨r.len,λi d e=>let ⟨v,h1,h2⟩:=r.val i d e;⟨v,h1,RD.mono' x d v h2⟩⟩
theorem ER.set{K:Vj}{ρ:LR}{H:Hp}{env:En}{σ:L2.St}(r:ER K ρ H env σ)(i:Nat){d:D}{v:V}(h:RD K ρ H d v):ER K ρ H (env.set i (yz d)) (σ.set i (yz v)):=
 ⟨by simp[r.len],λj e h1=>by
  by_cases z:j=i
  ·subst z;have B:j<lf env:=by
    have:=(Vi.mp h1).1;simpa using this
   rw[Vcr B]at h1;cases h1;exact⟨v,by rw[Vcr (by rw[<-r.len];exact B)],h⟩
  rw[Vay (Ne.symm z)]at h1
  obtain⟨L,h2,J⟩:=r.val j e h1;exact⟨L,by rw[Vay (Ne.symm z)];exact h2,J⟩⟩
structure S0(X:Cx)(pa:LA)(σ:L2.St)(H:Hp)(s:Vc)(ρ:LR)(S:Sto)(env:En):Prop where
 inv:Inv X pa σ H s
 sr:SR X.K ρ S H
 er:ER X.K ρ H env σ
theorem S0.step(I:S0 X pa σ H s ρ S env)(J:Inv X pa σ H' s')(r:SR X.K ρ' S' H')(x:Stp X.K ρ ρ' H H'):
  S0 X pa σ H' s' ρ' S' env:=⟨J,r,I.er.mono x⟩
def EPd(X:Cx)(pa:LA)(σ:L2.St)(ρ:LR)(H:Hp)(d:D)(S':Sto)(u:Vb)(s':Vc):Prop:=
 ∃v H' ρ',Inv X pa σ H' s'/\RelV v u/\RD X.K ρ' H' d v/\SR X.K ρ' S' H'/\Stp X.K ρ ρ' H H'
def Trc(fl:Vb)(ok:Addr->Prop)(H':Hp)(a:Addr)(h:Heap):Prop:=
 ∃B vs T J L,h.get? a=yz B/\B.data=.fields vs/\vs[1]?=yz (.ref T)/\ok T/\T≠a/\H' T=yy/\h.get? T=yz J/\J.data=.fields L/\L[3]?=yz fl
theorem Trc.imp(x:Trc fl ok H' a h)(k:∀T,ok T->ok' T):Trc fl ok' H' a h:=by obtain⟨Y,vs,T,U,J,h1,h2,L,B,r⟩:=x;exact⟨Y,vs,T,U,J,h1,h2,L,k T B,r⟩
def Xif(X:Cx)(pa:LA)(T:Addr):Prop:=(T∈X.ex\/X.s₀.heap.get? T=yy)/\∀p∈X.pn++pa,p.1≠T
def Fly(X:Cx)(pa:LA)(H':Hp)(a:Addr)(h:Heap):Prop:=
 (∃B vs,h.get? a=yz B/\B.data=.fields vs/\vs[1]?=yz .none)\/∃fl,(fl=.none\/fl=Vab X.env.locals)/\Trc fl (Xif X pa) H' a h
def XPd(X:Cx)(pa:LA)(σ:L2.St)(ρ:LR)(H:Hp)(n:Nat)(S':Sto)(e:Vb)(s':Vc):Prop:=
 ∃H' ρ' a c,Inv X pa σ H' s'/\e=.ref a/\ρ'[n]?=yz a/\S'[n]?=yz (.exc c)/\SR X.K ρ' S' H'/\Stp X.K ρ ρ' H H'/\Fly X pa H' a s'.heap
def OkP(X:Cx)(pa:LA)(σ:L2.St)(ρ:LR)(H:Hp)(r:R D)(u:Vb)(s':Vc):Prop:=∃d S',r=.ok d S'/\EPd X pa σ ρ H d S' u s'
def ExP(X:Cx)(pa:LA)(σ:L2.St)(ρ:LR)(H:Hp){α:Type}(r:R α)(e:Vb)(s':Vc):Prop:=∃n S',r=.ex n S'/\XPd X pa σ ρ H n S' e s'
def DE(X:Cx)(e:Expr)(f:En->Sto->R D):Prop:=
 ∀(pa:LA) (s:Vc) (σ:L2.St) (H:Hp) (ρ:LR) (S:Sto) (env:En),S0 X pa σ H s ρ S env->f env S≠.bad ->
  Vg (Vl X.prog X.w) X.A (eval e X.env) (OkP X pa σ ρ H (f env S)) (ExP X pa σ ρ H (f env S)) s
def DT(X:Cx)(e:Expr)(f:En->Sto->R Bool):Prop:=
 ∀(pa:LA) (s:Vc) (σ:L2.St) (H:Hp) (ρ:LR) (S:Sto) (env:En),S0 X pa σ H s ρ S env->f env S≠.bad ->
  Vg (Vl X.prog X.w) X.A (isTrue e X.env (eval e X.env)) (λb s'=>∃S',f env S=.ok b S'/\∃H' ρ',Inv X pa σ H' s'/\SR X.K ρ' S' H'/\Stp X.K ρ ρ' H H') (ExP X pa σ ρ H (f env S)) s
section
variable{X:Cx}{pa:LA}{σ:L2.St}{H:Hp}{s:Vc}{ρ:LR}{S S':Sto}{env:En}{e:Expr}{f:En->Sto->R D}{g:En->Sto->R Bool}{Q:VP}{E:VP}
theorem DE.ok(h:DE X e f)(I:S0 X pa σ H s ρ S env)(r:f env S=.ok d S')(L:∀u s' v H' ρ',S0 X pa σ H' s' ρ' S' env->RelV v u->RD X.K ρ' H' d v->Stp X.K ρ ρ' H H'->Q u s'):
  Vg (Vl X.prog X.w) X.A (eval e X.env) Q E s:=by
 have Y:f env S≠.bad:=by rw[r];exact λz=>nomatch z
 refine Vo (h pa s σ H ρ S env I Y) (λu s' q=>?_) λx s' q=>?_;·obtain⟨d',S1,B,v,H',ρ',J,U,rd,sr,st⟩:=q;rw[r]at B;cases B;exact L u s' v H' ρ' (I.step J sr st) U rd st
 ·obtain⟨n,S1,B,_⟩:=q;rw[r]at B;cases B
theorem DE.ex(h:DE X e f)(I:S0 X pa σ H s ρ S env)(r:f env S=.ex n S')(J:∀x s',XPd X pa σ ρ H n S' x s'->E x s'):
  Vg (Vl X.prog X.w) X.A (eval e X.env) Q E s:=by
 have L:f env S≠.bad:=by rw[r];exact λz=>nomatch z
 refine Vo (h pa s σ H ρ S env I L) (λu s' q=>?_) λx s' q=>?_;·obtain⟨U,S1,B,_⟩:=q;rw[r]at B;cases B
 ·obtain⟨m,S1,B,q⟩:=q;rw[r]at B;cases B;exact J x s' q
theorem DT.ok{Q:Bool->Vc->Prop}{b:Bool}(h:DT X e g)(I:S0 X pa σ H s ρ S env)(r:g env S=.ok b S')(L:∀s' H' ρ',S0 X pa σ H' s' ρ' S' env->Stp X.K ρ ρ' H H'->Q b s'):
  Vg (Vl X.prog X.w) X.A (isTrue e X.env (eval e X.env)) Q E s:=by
 have U:g env S≠.bad:=by rw[r];exact λz=>nomatch z
 refine Vo (h pa s σ H ρ S env I U) (λu s' q=>?_) λx s' q=>?_;·obtain⟨S1,B,H',ρ',J,sr,st⟩:=q;rw[r]at B;cases B;exact L s' H' ρ' (I.step J sr st) st
 ·obtain⟨n,S1,B,_⟩:=q;rw[r]at B;cases B
theorem DT.ex{Q:Bool->Vc->Prop}{n:Nat}(h:DT X e g)(I:S0 X pa σ H s ρ S env)(r:g env S=.ex n S')(J:∀x s',XPd X pa σ ρ H n S' x s'->E x s'):
  Vg (Vl X.prog X.w) X.A (isTrue e X.env (eval e X.env)) Q E s:=by
 have L:g env S≠.bad:=by rw[r];exact λz=>nomatch z
 refine Vo (h pa s σ H ρ S env I L) (λu s' q=>?_) λx s' q=>?_;·obtain⟨S1,B,_⟩:=q;rw[r]at B;cases B
 ·obtain⟨m,S1,B,q⟩:=q;rw[r]at B;cases B;exact J x s' q
theorem XPd.pre(st:Stp X.K ρ ρ' H H')(h:XPd X pa σ ρ' H' n S' x s'):XPd X pa σ ρ H n S' x s':=by obtain⟨H2,ρ2,a,c,J,e,hn,hc,sr,st2,fl⟩:=h;exact⟨H2,ρ2,a,c,J,e,hn,hc,sr,st.trans st2,fl⟩
theorem ExP.mk{α:Type}(st:Stp X.K ρ ρ' H H')(h:XPd X pa σ ρ' H' n S' x s'):ExP X pa σ ρ H (.ex n S':R α) x s':=⟨n,S',rfl,h.pre st⟩
theorem OkP.mk(st:Stp X.K ρ ρ' H H')(J:Inv X pa σ H' s')(B:RelV v u)(L:RD X.K ρ' H' d v)(sr:SR X.K ρ' S' H'):OkP X pa σ ρ H (.ok d S') u s':=
 ⟨d,S',rfl,v,H',ρ',J,B,L,sr,st⟩
theorem OkP.pre(st:Stp X.K ρ ρ' H H')(h:OkP X pa σ ρ' H' r u s'):OkP X pa σ ρ H r u s':=by obtain⟨d,S1,e,v,H2,L,J,U,Y,sr,B⟩:=h;exact⟨d,S1,e,v,H2,L,J,U,Y,sr,st.trans B⟩
theorem ExP.pre{α:Type}{ρ':LR}{H':Hp}{r:R α}{x:Vb}{s':Vc}(st:Stp X.K ρ ρ' H H')(h:ExP X pa σ ρ' H' r x s'):ExP X pa σ ρ H r x s':=by obtain⟨n,S1,e,q⟩:=h;exact⟨n,S1,e,q.pre st⟩
theorem DE.bind{α:Type}(h:DE X e f)(I:S0 X pa σ H s ρ S env){k:D->Sto->R α}(L:(f env S).bind k≠.bad){r:R α}(B:r=(f env S).bind k)
  (U:∀d S1 u s' v H' ρ',r=k d S1->k d S1≠.bad->S0 X pa σ H' s' ρ' S1 env->RelV v u->RD X.K ρ' H' d v->Stp X.K ρ ρ' H H'->Q u s') (hE:∀x s',ExP X pa σ ρ H r x s'->E x s'):
  Vg (Vl X.prog X.w) X.A (eval e X.env) Q E s:=by
 cases q:f env S with
 |bad=>rw[q]at L;cases L rfl|ex n S1=>rw[q]at B;exact h.ex I q λx s' z=>hE x s' ⟨n,S1,B,z⟩|ok d S1=>rw[q]at B L;exact h.ok I q λu s' v H' ρ' J Y rd st=>U d S1 u s' v H' ρ' B L J Y rd st
end
theorem Xem:big<=V8:=by rw[Va4];decide
theorem Xb0(h:n<=big):n<=V8:=Uv h Xem
noncomputable def tst(r:R D):R Bool:=r.bind λx S=>match Xg S x with
 |some b=>.ok b S|none=>.bad
section
variable{X:Cx}{pa:LA}{σ:L2.St}{H:Hp}{s:Vc}{ρ:LR}{S S':Sto}{env:En}{e a b c:Expr}{f fa fb fc:En->Sto->R D}{Q:VP}{E:VP}{pos:Pos}
theorem opd{f:Vb->Vb->Sem Vb}(L:OpR (X.wish E) f r)(I:Inv X pa σ H s)(Y:RelV x v)(U:RelV y u)(h:r x y H Q')
  (B:∀w s' z H',Inv X pa σ H' s'->RelV z w->Q' z H'->Q w s'):Vg (Vl X.prog X.w) X.A (f v u) Q E s:=
 thn (L pa s σ H x y v u Q' (I.wish E) Y U h) λw s' ⟨z,H',J,rz,q⟩=>B w s' z H' J.unwish rz q
theorem ped(L:PE (X.wish E) e t)(I:Inv X pa σ H s)(h:t σ H Q')(B:∀w s' z H',Inv X pa σ H' s'->RelV z w->Q' z H'->Q w s'):Vg (Vl X.prog X.w) X.A (eval e X.env) Q E s:=
 thn (L pa s σ H Q' (I.wish E) h) λw s' ⟨z,H',J,rz,q⟩=>B w s' z H' J.unwish rz q
theorem Xfi{f:Vb}{r:LW->Hp->VK->Prop}{xs:LW}{us:LV}{Q':VK}(L:Xfe (X.wish E) f r)(I:Inv X pa σ H s)(U:Vals xs us)(h:r xs H Q')
  (B:∀w s' z H',Inv X pa σ H' s'->RelV z w->Q' z H'->Q w s'):Vg (Vl X.prog X.w) X.A (call f us) Q E s:=
 thn (L pa s σ H xs us Q' (I.wish E) U h) λw s' ⟨z,H',J,rz,q⟩=>B w s' z H' J.unwish rz q
theorem mtd{id:String}{r:V->LW->Hp->VK->Prop}{x:V}{xs:LW}{v:Vb}{us:LV}{Q':VK}(L:MtM (X.wish E) id r)(I:Inv X pa σ H s)(U:RelV x v)(rs:Vals xs us)(h:r x xs H Q')
  (B:∀w s' z H',Inv X pa σ H' s'->RelV z w->Q' z H'->Q w s'):Vg (Vl X.prog X.w) X.A (call (.builtin id) (v::us)) Q E s:=
 thn (L pa s σ H x xs v us Q' (I.wish E) U rs h) λw s' ⟨z,H',J,rz,q⟩=>B w s' z H' J.unwish rz q
theorem S0.list(I:S0 X pa σ H s ρ S env)(h:Xc S n=yz xs):∃a vs,ρ[n]?=yz a/\H a=yz (.lst vs)/\RDs X.K ρ H xs vs:=by
 unfold Xc at h;cases e:S[n]? with
 |none=>rw[e]at h;cases h|some o=>
  rw[e]at h;cases o with
  |lst ys=>cases h;obtain⟨a,J,vs,B,L⟩:=I.sr.adr e;exact⟨a,vs,J,B,L⟩|fdc _=>cases h|dct _=>cases h|exc _=>cases h
theorem S0.seq(I:S0 X pa σ H s ρ S env)(h:Xw S d=yz xs)(r:RD X.K ρ H d v):∃a vs,v=.ref a/\(SqL X.K H a vs\/SqT X.K H a vs)/\RDs X.K ρ H xs vs:=by
 cases d with
 |tup ys=>simp only[Xw,Vv]at h;subst h;simp only[RD]at r;obtain⟨a,vs,e,h1,h2⟩:=r;exact⟨a,vs,e,.inr h1,h2⟩|fro ys=>simp only[Xw,Vv]at h;subst h;simp only[RD]at r;obtain⟨a,vs,e,h1,h2⟩:=r;exact⟨a,vs,e,.inl h1.sq,h2⟩|ref n=>simp only[RD]at r;obtain⟨a,e,h1⟩:=r;obtain⟨L,vs,h2,B,J⟩:=I.list (xs:=xs) (n:=n) h;rw[h1]at h2;cases h2;exact⟨a,vs,e,.inl (.of B),J⟩|non=>cases h|bl _=>cases h|int _=>cases h|str _=>cases h|fn _ _=>cases h
theorem Xbj(h:RDs X.K ρ H ds vs):(!vs.isEmpty) = !ds.isEmpty:=by have:=h.length;cases ds<;>cases vs<;>simp_all
theorem Xku(I:S0 X pa σ H s ρ S env){k:Bool}{Q:Bool->Vc->Prop}(h:Xg S d=yz k)(B:RD X.K ρ H d v)(rv:RelV v u)(Y:∀s',Inv X pa σ H s'->Q k s'):
  Vg (Vl X.prog X.w) X.A (truthy u) Q E s:=by
 have U:X3g X.K v H k:=by
  cases d with
  |non=>simp only[RD]at B;subst B;simp only[Xg,Vv]at h;exact h.symm|bl b=>simp only[RD]at B;subst B;simp only[Xg,Vv]at h;exact h.symm|int i=>simp only[RD]at B;subst B;simp only[Xg,Vv]at h;exact h.symm|str x=>
   simp only[RD]at B;subst B;simp only[Xg]at h;split at h;·rename_i hb;exact⟨Xb0 hb,(Ud h).symm⟩
   ·cases h|fn _ _=>cases h|tup xs=>
   simp only[Xg,Vv]at h;obtain⟨a,vs,e,h1,h2⟩:=I.seq (d:=.tup xs) rfl B;subst e;rcases h1 with h1|h1;·exact .inl ⟨vs,h1,by rw[Xbj h2];exact h.symm⟩
   ·exact .inr (.inl ⟨vs,h1,by rw[Xbj h2];exact h.symm⟩)|fro xs=>
   simp only[Xg,Vv]at h;obtain⟨a,vs,e,h1,h2⟩:=I.seq (d:=.fro xs) rfl B;subst e;rcases h1 with h1|h1;·exact .inl ⟨vs,h1,by rw[Xbj h2];exact h.symm⟩
   ·exact .inr (.inl ⟨vs,h1,by rw[Xbj h2];exact h.symm⟩)|ref n=>
   simp only[Xg]at h;cases e:S[n]? with
   |none=>rw[e]at h;cases h|some o=>
    rw[e]at h;cases o with
    |lst ys=>obtain⟨a,vs,h1,h2,h3⟩:=I.list (n:=n) (xs:=ys) (by unfold Xc;rw[e]);simp only[RD]at B;obtain⟨a',e',L⟩:=B;rw[h1]at L;cases L;subst e';exact .inl ⟨vs,.of h2,by rw[Xbj h3];exact(Ud h).symm⟩|fdc _=>cases h|dct _=>cases h|exc _=>cases h
 exact thn (X3h (X:=X.wish E) pa s σ H v u (λk' H'=>k'=k/\H'=H) (I.inv.wish E) rv ⟨k,U,rfl,rfl⟩) λb s' ⟨H',J,e1,e2⟩=>by subst e1 e2;exact Y s' J.unwish
theorem DT.of(h:DE X e f)(L:∀whole,isTrue e X.env whole=(do let v <- whole;standAt e.pos;Vd5 [v] (truthy v))):DT X e (λenv S=>tst (f env S)):=by
 intro pa s σ H ρ S env I B;dsimp only at B ⊢;cases q:f env S with
 |bad=>rw[q]at B;cases B rfl|ex n S1=>exact isTrue_plain (h.ex I q λx s' z=>⟨n,S1,rfl,z⟩) (L _)|ok d S1=>
  rw[q]at B;cases t:Xg S1 d with
  |none=>simp[tst,t]at B|some k=>refine isTrue_plain (h.ok I q λu s' v H' ρ' J U Y st=>?_) (L _);exact Xku J t Y U λs2 J2=>⟨S1,by simp[tst,t],H',ρ',J2,J.sr,st⟩
theorem X8e {i:Nat} (hN:X.N[i]?=yz x) (U:Vis X.env.scope x) (hd:(x==("__debug__" : Str))=yw) (L:(x==("__classdict__" : Str))=yw):
  DE X (.Name x pos) (λenv S=>match env[i]? with|some (yz d)=>.ok d S|_=>.bad):=by
 intro pa s σ H ρ S env I B;dsimp only at B ⊢;cases q:env[i]? with
 |none=>rw[q]at B;cases B rfl|some o=>
  cases o with
  |none=>rw[q]at B;cases B rfl|some d=>obtain⟨v,h1,h2⟩:=I.er.val i d q;exact ped (Q':=λz H'=>z=v/\H'=H) (X3a hN U hd L) I.inv ⟨v,h1,rfl,rfl⟩ λu s' z H' J rz ⟨e1,e2⟩=>by subst e1 e2;exact .mk .refl J rz h2 I.sr
theorem d_int:DE X (.Constant (.int i) j pos) (λ_ S=>.ok (.int i) S):=λpa s σ H ρ S env I _=>ped (Q':=λz H'=>z=.int i/\H'=H) X3b I.inv ⟨rfl,rfl⟩ λu s' z H' J rz ⟨e1,e2⟩=>by subst e1 e2;exact .mk .refl J rz (by simp only[RD]) I.sr
theorem d_bl:DE X (.Constant (.bool i) j pos) (λ_ S=>.ok (.bl i) S):=λpa s σ H ρ S env I _=>ped (Q':=λz H'=>z=.bl i/\H'=H) X8a I.inv ⟨rfl,rfl⟩ λu s' z H' J rz ⟨e1,e2⟩=>by subst e1 e2;exact .mk .refl J rz (by simp only[RD]) I.sr
theorem d_non:DE X (.Constant .none j pos) (λ_ S=>.ok .non S):=λpa s σ H ρ S env I _=>ped (Q':=λz H'=>z=.non/\H'=H) X3c I.inv ⟨rfl,rfl⟩ λu s' z H' J rz ⟨e1,e2⟩=>by subst e1 e2;exact .mk .refl J rz (by simp only[RD]) I.sr
theorem d_str:DE X (.Constant (.str i) j pos) (λ_ S=>.ok (.str i) S):=λpa s σ H ρ S env I _=>ped (Q':=λz H'=>z=.str i/\H'=H) X3d I.inv ⟨rfl,rfl⟩ λu s' z H' J rz ⟨e1,e2⟩=>by subst e1 e2;exact .mk .refl J rz (by simp only[RD]) I.sr
def DA(X:Cx)(es:LX)(f:En->Sto->R LD):Prop:=
 ∀(pos:Pos) (pa:LA) (s:Vc) (σ:L2.St) (H:Hp) (ρ:LR) (S:Sto) (env:En),S0 X pa σ H s ρ S env->f env S≠.bad ->
  Vg (Vl X.prog X.w) X.A (spliced (Vc0 pos (Ul es X.env)))
   (λus s'=>∃ds S' vs H' ρ',f env S=.ok ds S'/\Inv X pa σ H' s'/\Vals vs us/\RDs X.K ρ' H' ds vs/\SR X.K ρ' S' H'/\Stp X.K ρ ρ' H H') (ExP X pa σ ρ H (f env S)) s
theorem DA.ok{es:LX}{g:En->Sto->R (LD)}{Q:LV->Vc->Prop}{ds:LD}(h:DA X es g)(I:S0 X pa σ H s ρ S env)(r:g env S=.ok ds S')
  (L:∀us s' vs H' ρ',S0 X pa σ H' s' ρ' S' env->Vals vs us->RDs X.K ρ' H' ds vs->Stp X.K ρ ρ' H H'->Q us s'):
  Vg (Vl X.prog X.w) X.A (spliced (Vc0 pos (Ul es X.env))) Q E s:=by
 have Y:g env S≠.bad:=by rw[r];exact λz=>nomatch z
 refine Vo (h pos pa s σ H ρ S env I Y) (λu s' q=>?_) λx s' q=>?_;·obtain⟨d',S1,vs,H',ρ',B,J,U,rd,sr,st⟩:=q;rw[r]at B;cases B;exact L u s' vs H' ρ' (I.step J sr st) U rd st
 ·obtain⟨n,S1,B,_⟩:=q;rw[r]at B;cases B
theorem DA.ex{es:LX}{g:En->Sto->R (LD)}{Q:LV->Vc->Prop}{n:Nat}(h:DA X es g)(I:S0 X pa σ H s ρ S env)(r:g env S=.ex n S')(J:∀x s',XPd X pa σ ρ H n S' x s'->E x s'):
  Vg (Vl X.prog X.w) X.A (spliced (Vc0 pos (Ul es X.env))) Q E s:=by
 have L:g env S≠.bad:=by rw[r];exact λz=>nomatch z
 refine Vo (h pos pa s σ H ρ S env I L) (λu s' q=>?_) λx s' q=>?_;·obtain⟨U,S1,_,_,_,B,_⟩:=q;rw[r]at B;cases B
 ·obtain⟨m,S1,B,q⟩:=q;rw[r]at B;cases B;exact J x s' q
theorem DA.bind{α:Type}{es:LX}{g:En->Sto->R (LD)}{Q:LV->Vc->Prop}(h:DA X es g)(I:S0 X pa σ H s ρ S env){k:LD->Sto->R α}(L:(g env S).bind k≠.bad){r:R α}(B:r=(g env S).bind k)
  (U:∀ds S1 us s' vs H' ρ',r=k ds S1->k ds S1≠.bad->S0 X pa σ H' s' ρ' S1 env->Vals vs us->RDs X.K ρ' H' ds vs->Stp X.K ρ ρ' H H'->Q us s') (hE:∀x s',ExP X pa σ ρ H r x s'->E x s'):
  Vg (Vl X.prog X.w) X.A (spliced (Vc0 pos (Ul es X.env))) Q E s:=by
 cases q:g env S with
 |bad=>rw[q]at L;cases L rfl|ex n S1=>rw[q]at B;exact h.ex I q λx s' z=>hE x s' ⟨n,S1,B,z⟩|ok d S1=>rw[q]at B L;exact h.ok I q λu s' v H' ρ' J Y rd st=>U d S1 u s' v H' ρ' B L J Y rd st
theorem X3u:DA X [] (λ_ S=>.ok [] S):=λ_ pa s σ H ρ S env I _=>Vdb ⟨[],S,[],H,ρ,rfl,I.inv,.nil,.nil,I.sr,.refl⟩
theorem Xz3{es:LX}{g:En->Sto->R (LD)}(ha:DE X a fa)(hr:DA X es g)(hs:Ul (a::es) X.env=(yw,eval a X.env)::Ul es X.env):
  DA X (a::es) (λenv S=>(fa env S).bind λx S=>(g env S).bind λxs S=>.ok (x::xs) S):=by
 intro pos pa s σ H ρ S env I nb;dsimp only at nb ⊢;rw[hs];show Vg _ _ (spliced ((yw,eval a X.env)::Vc0 pos (Ul es X.env))) _ _ s;refine Vbb (ha.bind I nb rfl (λd S1 u s1 v H1 ab e1 U I1 rv rd B=>?_) λ_ _ z=>z);rw[e1];exact hr.bind I1 U rfl (λds S2 us s2 vs H2 Y e2 _ I2 L aa J=>⟨d::ds,S2,v::vs,H2,Y,e2,I2.inv,.cons rv L,.cons (rd.mono J) aa,I2.sr,B.trans J⟩) λ_ _ z=>z.pre B
theorem Xck(J:Inv X pa σ (upd H p (.tup vs)) s')(hp:H p=yy)(sr:SR X.K ρ S H)(B:RDs X.K ρ H xs vs):OkP X pa σ ρ H (.ok (.tup xs) S) (.ref p) s':=by refine .mk (v:=.ref p) (Stp.upd hp) J rfl ?_ (sr.upd hp);simp only[RD];exact⟨p,vs,rfl,.of Yi,RDs.mono (Stp.upd hp) xs vs B⟩
theorem Xaz(J:Inv X pa σ (upd H p (.lst vs)) s')(hp:H p=yy)(sr:SR X.K ρ S H)(B:RDs X.K ρ H xs vs):OkP X pa σ ρ H (.ok (.ref (lf S)) (S++[.lst xs])) (.ref p) s':=by refine .mk (v:=.ref p) (ρ':=ρ++[p]) (Stp.new1 hp) J rfl ?_ (sr.new1 hp ⟨vs,Yi,RDs.mono (Stp.new1 hp) xs vs B⟩);simp only[RD];exact⟨p,rfl,by rw[<-sr.len];simp⟩
theorem X8f{es:LX}{x1:Nat}{g:En->Sto->R (LD)}(h:DA X es g):DE X (.Tuple es x1 pos) (λenv S=>(g env S).bind λxs S=>if (lf xs)<=big then .ok (.tup xs) S else .bad):=by
 intro pa s σ H ρ S env I nb;dsimp only at nb ⊢;refine wpAny_Tuple_spliced (h.bind I nb rfl (λds S1 us s1 vs H1 aa e1 B J U rd L=>?_) λ_ _ z=>z);rw[e1];split at B
 ·rename_i Y;have hl:(lf vs)<=V8:=by rw[<-rd.length];exact Xb0 Y
  rw[iP0 Y];refine⟨by rw[<-U.length];exact hl,OkP.pre L (Xck (J.inv.laid (t':=s1.toks) (λb u e=>Vf _ e) (Vm _) ⟨hl,us,U,⟨_,Vt _ rfl,rfl,_,rfl⟩⟩) (J.inv.hok.fresh (Vm _)) J.sr rd)⟩
 cases B rfl
theorem X8g{es:LX}{g:En->Sto->R (LD)}(h:DA X es g):DE X (.List es pos) (λenv S=>(g env S).bind λxs S=>if (lf xs)<=big then .ok (.ref (lf S)) (S++[.lst xs]) else .bad):=by
 intro pa s σ H ρ S env I nb;dsimp only at nb ⊢;refine wpAny_List_spliced (h.bind I nb rfl (λds S1 us s1 vs H1 aa e1 B J U rd L=>?_) λ_ _ z=>z);rw[e1];split at B
 ·rename_i Y;have hl:(lf vs)<=V8:=by rw[<-rd.length];exact Xb0 Y
  rw[iP0 Y];refine⟨by rw[<-U.length];exact hl,OkP.pre L (Xaz (J.inv.laid (t':=s1.toks) (λb u e=>Vf _ e) (Vm _) ⟨hl,us,0,U,Vt _ rfl⟩) (J.inv.hok.fresh (Vm _)) J.sr rd)⟩
 cases B rfl
def Op2(X:Cx)(m:Vb->Vb->Sem Vb)(k:D->D->Sto->R D):Prop:=
 ∀(pa:LA) (s:Vc) (σ:L2.St) (H:Hp) (ρ:LR) (S:Sto) (env:En) (x y:D) (v u:V) (B J:Vb) (E:VP),S0 X pa σ H s ρ S env->k x y S≠.bad ->
  RD X.K ρ H x v->RelV v B->RD X.K ρ H y u->RelV u J->Vg (Vl X.prog X.w) X.A (m B J) (OkP X pa σ ρ H (k x y S)) E s
theorem two(ho:Op2 X m k)(ha:DE X a fa)(hb:DE X b fb)(I:S0 X pa σ H s ρ S env){r:R D}
  (nb:(fa env S).bind (λx S=>(fb env S).bind λy S=>k x y S)≠.bad) (hr:r=(fa env S).bind λx S=>(fb env S).bind λy S=>k x y S):
  Vg (Vl X.prog X.w) X.A (eval a X.env) (λv s₁=>Vg (Vl X.prog X.w) X.A (eval b X.env) (λu s₂=>Vg (Vl X.prog X.w) X.A (m v u)
   (OkP X pa σ ρ H r) (ExP X pa σ ρ H r) s₂) (ExP X pa σ ρ H r) s₁) (ExP X pa σ ρ H r) s:=by
 refine ha.bind I nb hr (λx S1 v' s1 v H1 ab e1 L I1 rv rd B=>?_) λ_ _ z=>z;refine hb.bind I1 L e1 (λy S2 u' s2 u H2 Y e2 aa I2 ru U J=>?_) λ_ _ z=>z.pre B;subst e2;exact Vo (ho pa s2 σ H2 Y S2 env x y v u v' u' (λ_ _=>False) I2 aa (rd.mono J) rv U ru) (λw s3 z=>z.pre (B.trans J)) λ_ _ z=>z.elim
noncomputable def opB:Bo->Operator
 |.add=>.Add|.sub=>.Sub|.mul=>.Mult|.fdiv=>.FloorDiv|.mod=>.Mod|.pow=>.Pow
theorem X8h(B:Op2 X (Vep (opB op)) (X7 op))(L:DE X a fa)(J:DE X b fb):DE X (.BinOp a (opB op) b pos) (λenv S=>(fa env S).bind λx S=>(fb env S).bind λy S=>X7 op x y S):=
 λpa s σ H ρ S env I U=>wpAny_BinOp (two B L J I U rfl)
noncomputable def opC:Co->CmpOp
 |.eq=>.Eq|.ne=>.NotEq|.lt=>.Lt|.le=>.LtE|.gt=>.Gt|.ge=>.GtE|.isin=>.In|.notin=>.NotIn|.is=>.Is
theorem X8i(B:Op2 X (Vbn (opC op)) (Xh op))(J:DE X a fa)(U:DE X b fb)(L:behindInMarks (opC op) b=yw):
  DE X (.Compare a [opC op] [b] pos) (λenv S=>(fa env S).bind λx S=>(fb env S).bind λy S=>Xh op x y S):=
 λpa s σ H ρ S env I Y=>wpAny_Compare1 (two B J U I Y rfl) L
theorem Xcl(h:Xh op x y S≠.bad):∃r,X5 op x y S=yz r/\Xh op x y S=.ok (.bl r) S:=by
 unfold Xh at h ⊢;cases e:X5 op x y S with
 |none=>rw[e]at h;cases h rfl|some r=>exact⟨r,rfl,rfl⟩
theorem Xbk(h:Xg S d=yz r):tst (.ok d S)=.ok r S:=by simp[tst,h]
theorem X3v(ho:Op2 X (Vbn (opC op)) (Xh op))(ha:DE X a fa)(hb:DE X b fb)(hm:behindInMarks (opC op) b=yw):
  DT X (.Compare a [opC op] [b] pos) (λenv S=>tst ((fa env S).bind λx S=>(fb env S).bind λy S=>Xh op x y S)):=by
 intro pa s σ H ρ S env I nb;dsimp only at nb ⊢;have U:((fa env S).bind λx S=>(fb env S).bind λy S=>Xh op x y S)≠.bad:=λz=>nb (by rw[z];rfl);refine wpAny_isTrue_Compare1 (Vo (two ho ha hb I U rfl) (λv s1 h1=>Vo h1 (λu s2 h2=>Vo h2 (λw s3 h3=>?_) λx s' z=>?_) λx s' z=>?_) λx s' z=>?_) hm
 ·obtain⟨d,S1,e,v1,H1,Y,J,rv,rd,sr,st⟩:=h3;have L:∃r,d=.bl r:=by
   cases q:fa env S with
   |bad=>rw[q]at e;cases e|ex n S1=>rw[q]at e;cases e|ok x S1=>
    rw[q]at e;simp only[Rk0]at e;cases B:fb env S1 with
    |bad=>rw[B]at e;cases e|ex n S1=>rw[B]at e;cases e|ok y S2=>rw[B]at e;simp only[Rk0]at e;obtain⟨r,_,e2⟩:=Xcl (op:=op) (x:=x) (y:=y) (S:=S2) (by rw[e];exact λz=>nomatch z);rw[e2]at e;cases e;exact⟨r,rfl⟩
  obtain⟨r,rfl⟩:=L;simp only[RD]at rd;subst rd;cases rv;exact Vb5 ⟨S1,by rw[e];rfl,H1,Y,J,sr,st⟩
 all_goals (obtain⟨n,S1,e,q⟩:=z;exact⟨n,S1,by rw[e];rfl,q⟩)
theorem Xys{Yj:LX}(ha:DE X a fa)(hb:DE X (.BoolOp .And (b::Yj) pos) fb):DE X (.BoolOp .And (a::b::Yj) pos)
  (λenv S=>(fa env S).bind λx S=>match Xg S x with|some yx=>fb env S|some yw=>.ok x S|none=>.bad):=by
 intro pa s σ H ρ S env I nb;dsimp only at nb ⊢;refine BoolOp_and (ha.bind I nb rfl (λx S1 u s1 v H1 U e1 B L Y rd J=>?_) λ_ _ z=>z);rw[e1];cases t:Xg S1 x with
 |none=>rw[t]at B;cases B rfl|some r=>
  rw[t]at B;refine Xku L t rd Y λs2 J2=>?_;cases r with
  |true=>exact Vo (hb pa s2 σ H1 U S1 env ⟨J2,L.sr,L.er⟩ B) (λw s3 z=>z.pre J) λx s' z=>z.pre J|false=>exact .mk J J2 Y rd L.sr
theorem X3w{Yj:LX}(ha:DE X a fa)(hb:DE X (.BoolOp .Or (b::Yj) pos) fb):DE X (.BoolOp .Or (a::b::Yj) pos)
  (λenv S=>(fa env S).bind λx S=>match Xg S x with|some yx=>.ok x S|some yw=>fb env S|none=>.bad):=by
 intro pa s σ H ρ S env I nb;dsimp only at nb ⊢;refine BoolOp_or (ha.bind I nb rfl (λx S1 u s1 v H1 U e1 B L Y rd J=>?_) λ_ _ z=>z);rw[e1];cases t:Xg S1 x with
 |none=>rw[t]at B;cases B rfl|some r=>
  rw[t]at B;refine Xku L t rd Y λs2 J2=>?_;cases r with
  |false=>exact Vo (hb pa s2 σ H1 U S1 env ⟨J2,L.sr,L.er⟩ B) (λw s3 z=>z.pre J) λx s' z=>z.pre J|true=>exact .mk J J2 Y rd L.sr
theorem Xyt(h:DE X a f):DE X (.BoolOp op [a] pos) f:=λpa s σ H ρ S env I B=>BoolOp_one (h pa s σ H ρ S env I B)
theorem X8j(ha:DT X a (λenv S=>tst (fa env S)))(hv:DE X a fa):DE X (.UnaryOp .Not a pos) (λenv S=>(fa env S).bind λx S=>match Xg S x with|some r=>.ok (.bl (!r)) S|none=>.bad):=by
 intro pa s σ H ρ S env I U;dsimp only at U ⊢;refine UnaryOp_ (hv.bind I U rfl (λx S1 u s1 v H1 aa e1 B L Y rd J=>?_) λ_ _ z=>z);rw[e1];cases t:Xg S1 x with
 |none=>rw[t]at B;cases B rfl|some r=>exact not_of (Xku L t rd Y λs2 J2=>.mk (v:=.bl (!r)) J J2 rfl (by simp only[RD]) L.sr)
theorem X3x(U:DT X a (λenv S=>tst (fa env S))):DT X (.UnaryOp .Not a pos) (λenv S=>tst ((fa env S).bind λx S=>match Xg S x with|some r=>.ok (.bl (!r)) S|none=>.bad)):=by
 intro pa s σ H ρ S env I B;dsimp only at B ⊢;cases q:fa env S with
 |bad=>rw[q]at B;cases B rfl|ex n S1=>exact isTrue_not (U.ex I (by simp only[q];rfl) λx s' z=>⟨n,S1,rfl,z⟩)|ok x S1=>
  rw[q]at B;simp only[Rk0]at B ⊢;cases t:Xg S1 x with
  |none=>rw[t]at B;cases B rfl|some r=>exact isTrue_not (U.ok I (by simp only[q];exact Xbk t) λs2 H2 J Y L=>⟨S1,rfl,H2,J,Y.inv,Y.sr,L⟩)
theorem X8k(hc:DT X c (λenv S=>tst (fc env S)))(ha:DE X a fa)(hb:DE X b fb):
  DE X (.IfExp c a b pos) (λenv S=>(fc env S).bind λx S=>match Xg S x with|some yx=>fa env S|some yw=>fb env S|none=>.bad):=by
 intro pa s σ H ρ S env I B;dsimp only at B ⊢;cases q:fc env S with
 |bad=>rw[q]at B;cases B rfl|ex n S1=>exact wpAny_IfExp (hc.ex I (by simp only[q];rfl) λx s' z=>⟨n,S1,rfl,z⟩)|ok x S1=>
  rw[q]at B;simp only[Rk0]at B ⊢;cases t:Xg S1 x with
  |none=>rw[t]at B;cases B rfl|some r=>
   rw[t]at B;refine wpAny_IfExp (hc.ok I (by simp only[q];exact Xbk t) λY H2 L U J=>?_);cases r with
   |true=>exact Vo (ha pa Y σ H2 L S1 env U B) (λw s3 z=>z.pre J) λx s' z=>z.pre J|false=>exact Vo (hb pa Y σ H2 L S1 env U B) (λw s3 z=>z.pre J) λx s' z=>z.pre J
def DW(X:Cx)(e:Expr)(f:En->Sto->R Bool):Prop:=
 ∀(whole:Sem Vb) (pa:LA) (s:Vc) (σ:L2.St) (H:Hp) (ρ:LR) (S:Sto) (env:En),S0 X pa σ H s ρ S env->f env S≠.bad ->
  Vg (Vl X.prog X.w) X.A (isTrue e X.env whole) (λb s'=>∃S',f env S=.ok b S'/\∃H' ρ',Inv X pa σ H' s'/\SR X.K ρ' S' H'/\Stp X.K ρ ρ' H H') (ExP X pa σ ρ H (f env S)) s
theorem DW.dt(h:DW X e g):DT X e g:=h _
theorem Xz4(B:DT X a g):DW X (.BoolOp .And [a] pos) g:=by
 intro wh pa s σ H ρ S env I J;refine isTrue_and (Vo (B pa s σ H ρ S env I J) (λc L z=>?_) λ_ _ z=>z);cases c with
 |true=>exact isTrue_and_nil z|false=>exact z
theorem X3y(B:DT X a g):DW X (.BoolOp .Or [a] pos) g:=by
 intro wh pa s σ H ρ S env I J;refine isTrue_or (Vo (B pa s σ H ρ S env I J) (λc L z=>?_) λ_ _ z=>z);cases c with
 |false=>exact isTrue_or_nil z|true=>exact z
theorem Xsm{Yj:LX}(Y:DT X a (λenv S=>tst (fa env S)))(hb:DW X (.BoolOp .And (b::Yj) pos) (λenv S=>tst (fb env S))):DW X (.BoolOp .And (a::b::Yj) pos)
  (λenv S=>tst ((fa env S).bind λx S=>match Xg S x with|some yx=>fb env S|some yw=>.ok x S|none=>.bad)):=by
 intro wh pa s σ H ρ S env I B;dsimp only at B ⊢;cases q:fa env S with
 |bad=>rw[q]at B;cases B rfl|ex n S1=>exact isTrue_and (Y.ex I (by simp only[q];rfl) λx s' z=>⟨n,S1,rfl,z⟩)|ok x S1=>
  rw[q]at B;simp only[Rk0]at B ⊢;cases t:Xg S1 x with
  |none=>rw[t]at B;cases B rfl|some r=>
   rw[t]at B;refine isTrue_and (Y.ok I (by simp only[q];exact Xbk t) λs2 H2 L U J=>?_);cases r with
   |true=>exact Vo (hb wh pa s2 σ H2 L S1 env U B) (λw s3 ⟨S3,e3,H3,ρ3,J3,sr3,st3⟩=>⟨S3,e3,H3,ρ3,J3,sr3,J.trans st3⟩) λx s' z=>z.pre J|false=>exact⟨S1,Xbk t,H2,L,U.inv,U.sr,J⟩
theorem Xyu{Yj:LX}(Y:DT X a (λenv S=>tst (fa env S)))(hb:DW X (.BoolOp .Or (b::Yj) pos) (λenv S=>tst (fb env S))):DW X (.BoolOp .Or (a::b::Yj) pos)
  (λenv S=>tst ((fa env S).bind λx S=>match Xg S x with|some yx=>.ok x S|some yw=>fb env S|none=>.bad)):=by
 intro wh pa s σ H ρ S env I B;dsimp only at B ⊢;cases q:fa env S with
 |bad=>rw[q]at B;cases B rfl|ex n S1=>exact isTrue_or (Y.ex I (by simp only[q];rfl) λx s' z=>⟨n,S1,rfl,z⟩)|ok x S1=>
  rw[q]at B;simp only[Rk0]at B ⊢;cases t:Xg S1 x with
  |none=>rw[t]at B;cases B rfl|some r=>
   rw[t]at B;refine isTrue_or (Y.ok I (by simp only[q];exact Xbk t) λs2 H2 L U J=>?_);cases r with
   |false=>exact Vo (hb wh pa s2 σ H2 L S1 env U B) (λw s3 ⟨S3,e3,H3,ρ3,J3,sr3,st3⟩=>⟨S3,e3,H3,ρ3,J3,sr3,J.trans st3⟩) λx s' z=>z.pre J|true=>exact⟨S1,Xbk t,H2,L,U.inv,U.sr,J⟩
end
theorem Xag:∀ {ns:LI} {us:LV},Vals (ns.map V.int) us->Vb1 us ns
 |[],_,.nil=>.nil|n::ns,_,.cons r t=>by obtain⟨k,rfl⟩:=r;exact .cons n k (Xag t)
section
variable{prog:V4}{w:Ua}{A:Uu}{E:VP}{s:Vc}{x y:Addr}{us vs:LV}{xs ys:LI}
theorem Xz5:∀(xs ys:LI),xs=[]\/ys=[]->ltL xs ys=decide (lf xs<lf ys)
 |[],[]=>λ_=>rfl|[],_::_=>λ_=>rfl|_::_,[]=>λ_=>rfl|_::_,_::_=>λh=>by rcases h with h|h<;>cases h
theorem Xot{P:PySem.Fin->Vc->Prop}(hx:Vdr s.heap x us.toArray)(hy:Vdr s.heap y vs.toArray)(ix:Vb1 us xs)(iy:Vb1 vs ys)(h:P (.done (.ret (.bool (ltL xs ys)))) s):
  Vg (Vl prog w) A (Vcb.«tuple.__lt__» ⟨[.ref x,.ref y],[]⟩) P E s:=by
 obtain⟨o1,a1,c1,n1,d1⟩:=hx;obtain⟨o2,a2,c2,n2,d2⟩:=hy;show Vg _ _ (isInstance (.ref y) (.type "tuple") >>= _) _ _ s;refine Va (Vgh (T:="tuple") ⟨o2,a2,c2⟩ isSubtype_tuple_tuple ?_);simp only[Ut,Vp,if_false];refine Va (wpAny_tupleItemsOf a1 d1 (Va (wpAny_tupleItemsOf a2 d2 (Va ?_))));refine Vgj _ (λl r s'=>r.1=yy/\s'=s/\∃ps L B J,l=B.zip J/\Vb1 B ps/\Vb1 J L/\ltL ps L=ltL xs ys/\decide (lf B<lf J)=decide (lf us<lf vs)) _ ?_ ?_ _ _ ⟨rfl,rfl,xs,ys,us,vs,rfl,ix,iy,rfl,rfl⟩
 ·rintro ⟨p,q⟩ l r s' ⟨hr,rfl,ps,L,B,J,hz,i1,i2,e1,e2⟩;cases i1 with
  |nil=>simp at hz|cons a t U=>
   cases i2 with
   |nil=>simp at hz|cons b u Y=>
    simp only[Vfh,List.cons.injEq,Vee]at hz;obtain⟨⟨rfl,rfl⟩,rfl⟩:=hz;refine Va (wpAny_eqBool_int ?_);by_cases c:a=b
    ·subst c;simp only[beq_self_eq_true,Ut,Vp,if_false];refine Vd ⟨rfl,rfl,_,_,_,_,rfl,U,Y,?_,?_⟩;·rw[<-e1];simp[ltL]
     ·rw[<-e2];simp
    have:(a==b)=false:=by simpa using c
    rw[this];simp only[Va1,if_true];have e3:ltL xs ys=decide (a<b):=by rw[<-e1];simp[ltL,c]
    rw[e3]at h;exact Va (Vd0 (Va (lt_int (Va (Vd (Vd (Vd h)))))))
 ·rintro ⟨r1,r2⟩ s' ⟨hr,rfl,ps,L,B,J,hz,i1,i2,e1,e2⟩;simp only at hr;subst hr;refine Vd ?_;show P (.done (.ret (.bool (decide (us.toArray.size<vs.toArray.size))))) s';have e3:ps=[]\/L=[]:=by
   cases i1 with
   |nil=>exact .inl rfl|cons a t U=>
    cases i2 with
    |nil=>exact .inr rfl|cons b u Y=>simp at hz
  rw[Vr,Vr,<-e2,i1.length,i2.length,<-Xz5 ps L e3,e1];exact h
theorem Xou{Q:VP}(Y:A.units<Vcl)(L:Vdr s.heap x us.toArray)(B:Vdr s.heap y vs.toArray)(U:Vb1 us xs)(iy:Vb1 vs ys)(h:Q (.bool (ltL xs ys)) s):
  Vg (Vl prog w) A (richCompare .Lt (.ref x) (.ref y)) Q E s:=by
 have J:s.TypeIs (.ref x) "tuple":=let ⟨o,a,c,_⟩:=L;⟨o,a,c⟩
 have t2:s.TypeIs (.ref y) "tuple":=let ⟨o,a,c,_⟩:=B;⟨o,a,c⟩
 exact wpAny_richCompare_same_room (op:=.Lt) J t2 Vgq (U0 Vgq J F.entry_tuple_lt (Xot L B U iy ⟨_,rfl,(λe=>nomatch e),h⟩) (F.args_tuple_lt_2 _ _)) Y
theorem Xd6{b:Bool}{Q:Bool->Vc->Prop}(U:A.units<Vcl)(B:Vdr s.heap x us.toArray)(J:Vdr s.heap y vs.toArray)(L:Vb1 us xs)(iy:Vb1 vs ys)(h:Q (ltL xs ys) s):
  Vg (Vl prog w) A (oneLt' b (.ref x) (.ref y)) Q E s:=by
 have Y:s.TypeIs (.ref x) "tuple":=let ⟨o,a,c,_⟩:=B;⟨o,a,c⟩
 rw[oneLt'_eq];cases b with
 |false=>simp only[Vp,if_false];exact Va (Xou U B J L iy (Vb5 h))|true=>simp only[if_true];refine Va (wpAny_cRoomFor U (Va (wpAny_callSpecialIfBound?_slot Y Vgq (U0 Vgq Y F.entry_tuple_lt (Xot B J L iy ⟨_,rfl,?_⟩) (F.args_tuple_lt_2 _ _)))));exact Vb5 h
end
end Z
end
section
namespace Z
open PySem PySem.Spec PyProof.Rows L2 PySem.SeqAt
open AutoSeq1 (wpAny_loadPart')
end Z
end
section
namespace Z
open PySem PySem.Spec PyProof.Rows L2
section
variable{X:Cx}{pa:LA}{σ:L2.St}{H:Hp}{s:Vc}{ρ:LR}{S:Sto}{env:En}{Q:VP}{E:VP}
mutual
theorem Xov(I:S0 X pa σ H s ρ S env)(L:∀n p a,look n=yz p->ρ[n]?=yz a->∃as,Reads s.heap (.ref a) p as/\∀b∈as,b∈ρ):
  ∀(d:D) (v:V) (u:Vb) (p:Vby),X0 look d=yz p->RD X.K ρ H d v->RelV v u->∃as,Reads s.heap u p as/\∀b∈as,b∈ρ
 |.non=>λv u p h B J=>by simp only[X0,Vv]at h;simp only[RD]at B;subst h B;cases J;exact⟨_,.none,λ_ z=>nomatch z⟩|.bl b=>λv u p h B J=>by simp only[X0,Vv]at h;simp only[RD]at B;subst h B;cases J;exact⟨_,.bool b,λ_ z=>nomatch z⟩|.int i=>λv u p h B J=>by simp only[X0,Vv]at h;simp only[RD]at B;subst h B;obtain⟨t,rfl⟩:=J;exact⟨_,.int i t,λ_ z=>nomatch z⟩|.str i=>λv u p h B J=>by simp only[X0,Vv]at h;simp only[RD]at B;subst h B;obtain⟨t,rfl⟩:=J;exact⟨_,.str i t,λ_ z=>nomatch z⟩|.fro _=>λv u p h B J=>by simp only[X0]at h;cases h|.fn _ _=>λv u p h B J=>by cases h|.tup xs=>λv u p h B J=>by
  simp only[X0]at h;cases e:datFs look xs with
  |none=>rw[e]at h;cases h|some ps=>rw[e]at h;cases h;simp only[RD]at B;obtain⟨a,vs,rfl,Y,hs⟩:=B;cases J;obtain⟨its,r,⟨o,U,hc,n,hd⟩,hz⟩:=I.inv.tuple Y;obtain⟨as,q,qm⟩:=reads_Fs I L xs vs its ps e hs r;exact⟨_,.tuple U hc hd (by simpa using q),qm⟩
 |.ref n=>λv u p h B J=>by simp only[X0]at h;simp only[RD]at B;obtain⟨a,rfl,ha⟩:=B;cases J;exact L n p a h ha
theorem reads_Fs(I:S0 X pa σ H s ρ S env)(hl:∀n p a,look n=yz p->ρ[n]?=yz a->∃as,Reads s.heap (.ref a) p as/\∀b∈as,b∈ρ):
  ∀(ds:LD) (vs:LW) (us:LV) (ps:List Vby),datFs look ds=yz ps->RDs X.K ρ H ds vs->Vals vs us->∃as,ReadsAll s.heap us ps as/\∀b∈as,b∈ρ
 |[]=>λvs us ps h B U=>by simp only[datFs,Vv]at h;simp only[RDs]at B;subst h B;cases U;exact⟨_,.nil,λ_ z=>nomatch z⟩|d::ds=>λvs us ps h B U=>by
  simp only[datFs]at h;simp only[RDs]at B;obtain⟨v,r,rfl,h1,h2⟩:=B;cases J:X0 look d with
  |none=>rw[J]at h;cases h|some p=>
   cases Y:datFs look ds with
   |none=>rw[J,Y]at h;cases h|some ab=>
    rw[J,Y]at h;cases h;cases U with
    |cons ru L=>obtain⟨as,q,qm⟩:=Xov I hl d v _ p J h1 ru;obtain⟨bs,q2,aa⟩:=reads_Fs I hl ds r _ ab Y h2 L;exact⟨_,.cons q q2,λb hb=>(Uq.mp hb).elim (qm b) (aa b)⟩
end
theorem Xow(I:S0 X pa σ H s ρ S env):∀(k n:Nat) (p:Vby) (a:Addr),Ye S k n=yz p->ρ[n]?=yz a->∃as,Reads s.heap (.ref a) p as/\∀b∈as,b∈ρ
 |0=>λn p a h J=>by simp only[Ye]at h;cases h|k+1=>λn p a h J=>by
  simp only[Ye]at h;cases e:S[n]? with
  |none=>rw[e]at h;cases h|some o=>
   rw[e]at h;have q:=I.sr.ob n a o J e;cases o with
   |lst xs=>
    dsimp only at h;cases Y:datFs (Ye S k) xs with
    |none=>rw[Y]at h;cases h|some ps=>rw[Y]at h;cases h;obtain⟨vs,U,hr⟩:=q;obtain⟨_,its,n',r,L⟩:=I.inv.hok a _ U;obtain⟨as,z,zm⟩:=reads_Fs I (Xow I k) xs vs its ps Y hr r;exact⟨_,.list L rfl rfl (by simpa using z),λb hb=>(Vn.mp hb).elim (λq=>q▸V6 J) (zm b)⟩
   |dct kvs=>
    rcases q with⟨rfl,U⟩|⟨h0,_⟩
    case inr=>
     cases kvs with
     |nil=>cases h0 rfl|cons _ _=>cases h
    cases h;obtain⟨_,_,vs,r,ob,es,ep,L,hx,hd,hh⟩:=I.inv.hok a _ U;cases r;have B:es.toList=[]:=by
     have z:=hh.2.1;cases q:es.toList with
     |nil=>rfl|cons x r=>rw[q]at z;cases z
    refine⟨_,.dict (kvs:=[]) (as:=[]) (bs:=[]) L hx.1 hd ?_ ?_,λb hb=>(Vn.mp hb).elim (λq=>q▸V6 J) (λz=>nomatch z)⟩;·rw[B];exact .nil
    ·rw[B];exact .nil|fdc _=>cases h|exc _=>cases h
theorem Xlv(I:S0 X pa σ H s ρ S env)(h:Yc S d=yz p)(J:RD X.K ρ H d v)(B:RelV v u):∃as,Reads s.heap u p as/\∀b∈as,b∈ρ:=
 Xov I (Xow I 4) d v u p h J B
theorem Xam(I:S0 X pa σ H s ρ S env)(h:Yc S d=yz p)(J:RD X.K ρ H d v)(B:RelV v u):∃as,Reads s.heap u p as:=
 let ⟨as,r,_⟩:=Xlv I h J B
 ⟨as,r⟩
theorem Xsn(I:S0 X pa σ H s ρ S env)(B:∃o,X.K.lookup Vcu=yz o)(h:Yc S d=yz p)(rd:RD X.K ρ H d v)(L:RelV v u):∃as,Reads s.heap u p as/\Vcu ∉ as:=by obtain⟨as,r,U⟩:=Xlv I h rd L;refine⟨as,r,λY=>?_⟩;obtain⟨o,J⟩:=B;obtain⟨w,hw,_⟩:=I.sr.mem (U _ Y);have:=(I.inv.bs _ _ (I.inv.mod.kin _ _ J)).2;rw[hw]at this;cases this
theorem Xy(sr:SR X.K ρ S H)(J:Inv X pa σ H s'):OkP X pa σ ρ H (.ok (.bl r) S) (.bool r) s':=.mk (v:=.bl r) .refl J rfl (by simp only[RD]) sr
theorem Xap(sr:SR X.K ρ S H)(J:Inv X pa σ H s'):OkP X pa σ ρ H (.ok (.int i) S) (.int i t) s':=.mk (v:=.int i) .refl J ⟨t,rfl⟩ (by simp only[RD]) sr
theorem Xhd(sr:SR X.K ρ S H)(J:Inv X pa σ H s'):OkP X pa σ ρ H (.ok (.str x) S) (.str x t) s':=.mk (v:=.str x) .refl J ⟨t,rfl⟩ (by simp only[RD]) sr
theorem Xvk(h:(a&&b&&c)=yx):a=yx/\b=yx/\c=true:=by rw[bA0,bA0]at h;exact⟨h.1.1,h.1.2,h.2⟩
theorem Xj5(h:Xbf x y=yz r):∃a b,x=.str a/\y=.str b/\r=(a.cps.toList==b.cps.toList):=by
 cases x with
 |str a=>cases y with
  |str b=>exact⟨a,b,rfl,rfl,(Ud h).symm⟩|_=>cases h
 |_=>cases h
theorem Xso(h:Xel S x y=yz r):∃a b xs ys,x=.ref a/\y=.ref b/\Xc S a=yz xs/\Xc S b=yz ys/\(lf xs)≠lf ys/\r=false:=by
 cases x with
 |ref a=>cases y with
  |ref b=>
   simp only[Xel]at h;cases B:Xc S a with
   |none=>rw[B]at h;cases h|some xs=>
    cases J:Xc S b with
    |none=>rw[B,J]at h;cases h|some ys=>
     rw[B,J]at h;dsimp only at h;split at h;·cases h
     ·cases h;exact⟨a,b,xs,ys,rfl,rfl,B,J,by assumption,rfl⟩
  |_=>cases h
 |_=>cases h
theorem Xlw(U:eqD S x y=yz r)(hn:Xbf x y=yy):(∃p q,Yc S x=yz p/\Yc S y=yz q/\p.canLay0=yx/\q.canLay0=yx/\p.depth<=60/\r=Vaz p q)\/Xel S x y=yz r:=by
 have h:=U;unfold eqD at h;rw[hn]at h;dsimp only at h;cases B:Yc S x with
 |none=>rw[B]at h;exact .inr h|some p=>
  cases J:Yc S y with
  |none=>rw[B,J]at h;exact .inr h|some q=>
   rw[B,J]at h;dsimp only at h;split at h;·rename_i hc;obtain⟨h1,h2,L⟩:=Xvk hc;exact .inl ⟨p,q,rfl,rfl,h1,h2,oD0 L,(Ud h).symm⟩
   ·exact .inr h
theorem S0.lstM(I:S0 X pa σ H s ρ S env)(h:lstM S n=yz xs):∃a vs,ρ[n]?=yz a/\H a=yz (.lst vs)/\RDs X.K ρ H xs vs:=I.list h
theorem S0.lstR(I:S0 X pa σ H s ρ S env)(h:Z.lstM S n=yz xs)(r:RD X.K ρ H (.ref n) v):∃a vs,v=.ref a/\ρ[n]?=yz a/\H a=yz (.lst vs)/\RDs X.K ρ H xs vs:=by simp only[RD]at r;obtain⟨a,e,h1⟩:=r;obtain⟨L,vs,h2,B,J⟩:=I.lstM h;rw[h1]at h2;cases h2;exact⟨a,vs,e,h1,B,J⟩
theorem Xlx(I:S0 X pa σ H s ρ S env)(h:Xel S x y=yz r)(L:RD X.K ρ H x v)(rv:RelV v u)(ry:RD X.K ρ H y v')(ru:RelV v' u'):
  r=yw/\∃a b its its',u=.ref a/\u'=.ref b/\s.heap.IsList a its/\s.heap.IsList b its'/\(its.size != its'.size)=true:=by
 obtain⟨n,m,xs,ys,rfl,rfl,h1,h2,aa,rfl⟩:=Xso h;obtain⟨a,vs,rfl,ha,B,Y⟩:=I.lstR h1 L;obtain⟨b,us,rfl,hb,J,rb⟩:=I.lstR h2 ry;cases rv;cases ru;obtain⟨_,i1,n1,q1,o1⟩:=I.inv.hok a _ B;obtain⟨_,i2,n2,U,o2⟩:=I.inv.hok b _ J;refine⟨rfl,a,b,i1.toArray,i2.toArray,rfl,rfl,⟨_,o1,rfl,_,rfl⟩,⟨_,o2,rfl,_,rfl⟩,?_⟩;have e1:(lf i1)=lf xs:=by rw[Y.length];exact q1.length.symm
 have e2:(lf i2)=lf ys:=by rw[rb.length];exact U.length.symm
 simp only[Vr,bne_iff_ne,ne_eq];omega
theorem Yar(hu:X.A.units+200<Vcl):Op2 X (Vbn .Eq) (Xh .eq):=by
 intro pa s σ H ρ S env x y v u v' u' E I nb B Y J U;obtain⟨r,e,e2⟩:=Xcl nb;rw[e2];cases hn:Xbf x y with
 |some r'=>
  obtain⟨a,b,rfl,rfl,hr⟩:=Xj5 hn;have er:r=r':=by have L:eqD S (.str a) (.str b)=yz r:=e;unfold eqD at L;rw[hn]at L;exact(Ud L).symm
  subst er hr;simp only[RD]at B J;subst B J;obtain⟨t,rfl⟩:=Y;obtain⟨t',rfl⟩:=U;exact PySem.P.eq_str (Xy I.sr I.inv)|none=>
 rcases Xlw e hn with⟨p,q,h1,h2,h3,h4,h5,rfl⟩|hl
 rotate_left
 ·obtain⟨rfl,a,b,i1,i2,rfl,rfl,l1,l2,l3⟩:=Xlx I hl B Y J U;exact SeqAt.RcAt.lists_lengths l1 l2 l3 (by omega) X.prog X.w E _ (Xy I.sr I.inv)
 obtain⟨as,ra⟩:=Xam I h1 B Y;obtain⟨bs,rb⟩:=Xam I h2 J U;exact SeqAt.rcAt_reads ra rb h3 h4 (by omega) X.prog X.w E _ (Xy I.sr I.inv)
theorem Yas(hu:X.A.units+200<Vcl):Op2 X (Vbn .NotEq) (Xh .ne):=by
 intro pa s σ H ρ S env x y v u v' u' E I nb B Y J U;obtain⟨r,e,e2⟩:=Xcl nb;rw[e2];simp only[X5,Vaa]at e;obtain⟨r',e,rfl⟩:=e;cases hn:Xbf x y with
 |some r2=>
  obtain⟨a,b,rfl,rfl,hr⟩:=Xj5 hn;have er:r'=r2:=by have L:eqD S (.str a) (.str b)=yz r':=e;unfold eqD at L;rw[hn]at L;exact(Ud L).symm
  subst er hr;simp only[RD]at B J;subst B J;obtain⟨t,rfl⟩:=Y;obtain⟨t',rfl⟩:=U;exact PySem.P.ne_str (Xy I.sr I.inv)|none=>
 rcases Xlw e hn with⟨p,q,h1,h2,h3,h4,h5,rfl⟩|hl
 rotate_left
 ·obtain⟨rfl,a,b,i1,i2,rfl,rfl,l1,l2,l3⟩:=Xlx I hl B Y J U;exact SeqAt.RcNeAt.lists_lengths l1 l2 l3 (by omega) X.prog X.w E _ (Xy I.sr I.inv)
 obtain⟨as,ra⟩:=Xam I h1 B Y;obtain⟨bs,rb⟩:=Xam I h2 J U;exact SeqAt.rcNeAt_reads ra rb h3 h4 (by omega) X.prog X.w E _ (Xy I.sr I.inv)
theorem Xly(h:inD S x y=yz r):∃p B,Yc S x=yz p/\(Yc S y=yz (.list B)\/Yc S y=yz (.tuple B))/\p.canLay0=yx/\Vb8 B=yx/\p.depth<=60/\r=B.any λq=>Vaz q p:=by
 unfold inD at h;cases L:Yc S x with
 |none=>rw[L]at h;cases h|some p=>
  cases U:Yc S y with
  |none=>rw[L,U]at h;cases h|some q=>
   rw[L,U]at h;cases q with
   |list B=>
    dsimp only at h;split at h;·rename_i hc;obtain⟨h1,h2,J⟩:=Xvk hc;exact⟨p,B,rfl,.inl rfl,h1,h2,oD0 J,(Ud h).symm⟩
    ·cases h|tuple B=>
    dsimp only at h;split at h;·rename_i hc;obtain⟨h1,h2,J⟩:=Xvk hc;exact⟨p,B,rfl,.inr rfl,h1,h2,oD0 J,(Ud h).symm⟩
    ·cases h|none=>cases h|bool _=>cases h|int _=>cases h|str _=>cases h|dict _=>cases h
theorem Yat(hu:X.A.units+200<Vcl):Op2 X (Vbn .In) (Xh .isin):=by
 intro pa s σ H ρ S env x y v u v' u' E I nb rx rv Y U;obtain⟨r,e,e2⟩:=Xcl nb;rw[e2];obtain⟨p,qs,h1,h2,L,J,h5,rfl⟩:=Xly e;obtain⟨as,ra⟩:=Xam I h1 rx rv;rcases h2 with h2|h2;·obtain⟨bs,B⟩:=Xam I h2 Y U;exact SeqAt.in_list_reads B ra J L (by omega) (Xy I.sr I.inv)
 ·obtain⟨bs,B⟩:=Xam I h2 Y U;exact SeqAt.in_tuple_reads B ra J L (by omega) (Xy I.sr I.inv)
theorem Xz6(hu:X.A.units+200<Vcl):Op2 X (Vbn .NotIn) (Xh .notin):=by
 intro pa s σ H ρ S env x y v u v' u' E I nb rx rv Y U;obtain⟨r,e,e2⟩:=Xcl nb;rw[e2];simp only[X5,Vaa]at e;obtain⟨r',e,rfl⟩:=e;obtain⟨p,qs,h1,h2,L,J,h5,rfl⟩:=Xly e;obtain⟨as,ra⟩:=Xam I h1 rx rv;rcases h2 with h2|h2;·obtain⟨bs,B⟩:=Xam I h2 Y U;exact SeqAt.notIn_list_reads B ra J L (by omega) (Xy I.sr I.inv)
 ·obtain⟨bs,B⟩:=Xam I h2 Y U;exact SeqAt.notIn_tuple_reads B ra J L (by omega) (Xy I.sr I.inv)
theorem Yau:Op2 X (Vbn .LtE) (Xh .le):=by
 intro pa s σ H ρ S env x y v u v' u' E I L B U J Y;cases x with
 |int i=>cases y with
  |int j=>simp only[RD]at B J;subst B J;obtain⟨t,rfl⟩:=U;obtain⟨t',rfl⟩:=Y;exact le_int (Xy I.sr I.inv)|_=>cases L rfl
 |_=>cases y<;>cases L rfl
theorem Yav:Op2 X (Vbn .Gt) (Xh .gt):=by
 intro pa s σ H ρ S env x y v u v' u' E I L B U J Y;cases x with
 |int i=>cases y with
  |int j=>simp only[RD]at B J;subst B J;obtain⟨t,rfl⟩:=U;obtain⟨t',rfl⟩:=Y;exact gt_int (Xy I.sr I.inv)|_=>cases L rfl
 |_=>cases y<;>cases L rfl
theorem Yaw:Op2 X (Vbn .GtE) (Xh .ge):=by
 intro pa s σ H ρ S env x y v u v' u' E I L B U J Y;cases x with
 |int i=>cases y with
  |int j=>simp only[RD]at B J;subst B J;obtain⟨t,rfl⟩:=U;obtain⟨t',rfl⟩:=Y;exact ge_int (Xy I.sr I.inv)|_=>cases L rfl
 |_=>cases y<;>cases L rfl
theorem Yw:∀ {xs:LD} {ns:LI},Xm xs=yz ns->xs=ns.map D.int
 |[],ns,h=>by simp only[Xm,Vv]at h;subst h;rfl|.int i::r,ns,h=>by simp only[Xm,Vaa]at h;obtain⟨ms,h1,rfl⟩:=h;rw[Yw h1];rfl|.non::_,_,h=>by simp[Xm]at h|.bl _::_,_,h=>by simp[Xm]at h|.str _::_,_,h=>by simp[Xm]at h|.tup _::_,_,h=>by simp[Xm]at h|.ref _::_,_,h=>by simp[Xm]at h|.fro _::_,_,h=>by simp[Xm]at h
theorem Yax(hu:X.A.units+200<Vcl):Op2 X (Vbn .Lt) (Xh .lt):=by
 intro pa s σ H ρ S env x y v u v' u' E I B J rv L ru;cases x with
 |int i=>cases y with
  |int j=>simp only[RD]at J L;subst J L;obtain⟨t,rfl⟩:=rv;obtain⟨t',rfl⟩:=ru;exact lt_int (Xy I.sr I.inv)|_=>cases B rfl
 |tup xs=>cases y with
  |tup ys=>
   simp only[Xh,X5,ltD]at B ⊢;cases e1:Xm xs with
   |none=>rw[e1]at B;cases B rfl|some a=>
    cases e2:Xm ys with
    |none=>rw[e1,e2]at B;cases B rfl|some b=>have q1:=Yw e1;have q2:=Yw e2;subst q1;subst q2;simp only[RD]at J L;obtain⟨b1,ah,rfl,ac,ae⟩:=J;obtain⟨b2,ai,rfl,U,Y⟩:=L;have ab:=ae.ints_of;have aa:=Y.ints_of;subst ab;subst aa;cases rv;cases ru;obtain⟨af,u1,u2,_⟩:=I.inv.tuple ac;obtain⟨ag,u3,u4,_⟩:=I.inv.tuple U;exact Xou (by omega) u2 u4 (Xag u1) (Xag u3) (Xy I.sr I.inv)
  |_=>cases B rfl
 |_=>cases y<;>cases B rfl
theorem Yay:Op2 X (Vbn .Is) (Xh .is):=by
 intro pa s σ H ρ S env x y v u v' u' E I Y B J L U;cases y with
 |non=>
  simp only[RD]at L;subst L;cases U;cases x with
  |non=>simp only[RD]at B;subst B;cases J;exact Vdm rfl (Xy I.sr I.inv)|bl b=>simp only[RD]at B;subst B;cases J;exact Vdm rfl (Xy I.sr I.inv)|int b=>simp only[RD]at B;subst B;obtain⟨t,rfl⟩:=J;exact Vdm rfl (Xy I.sr I.inv)|str b=>simp only[RD]at B;subst B;obtain⟨t,rfl⟩:=J;exact Vdm rfl (Xy I.sr I.inv)|tup b=>simp only[RD]at B;obtain⟨a,_,rfl,_⟩:=B;cases J;exact Vdm rfl (Xy I.sr I.inv)|fro b=>simp only[RD]at B;obtain⟨a,_,rfl,_⟩:=B;cases J;exact Vdm rfl (Xy I.sr I.inv)|ref b=>simp only[RD]at B;obtain⟨a,rfl,_⟩:=B;cases J;exact Vdm rfl (Xy I.sr I.inv)|fn _ _=>simp only[RD]at B;obtain⟨a,rfl,_⟩:=B;cases J;exact Vdm rfl (Xy I.sr I.inv)
 |_=>cases x<;>cases Y rfl
theorem Xfj(B:X.A.units+200<Vcl):∀op:Co,Op2 X (Vbn (opC op)) (Xh op)
 |.eq=>Yar B|.ne=>Yas B|.lt=>Yax B|.le=>Yau|.gt=>Yav|.ge=>Yaw|.isin=>Yat B|.notin=>Xz6 B|.is=>Yay
theorem Xvl{ws:LV}(ht:Vdr s.heap t #[])(hb:Vdr s.heap b ws.toArray)(h:Q (.ref b) s):Vg (Vl prog w) A (Vep .Add (.ref t) (.ref b)) Q E s:=by
 obtain⟨⟨cls,dd,aa,sl⟩,ho,hc,n,hd⟩:=id ht;obtain⟨⟨ab,U,data2,Y⟩,B,L,n2,J⟩:=id hb;simp only at hc hd L J;subst hc hd L J;exact concat_meets ⟨_,ho,rfl⟩ ⟨_,B,rfl⟩ noFill_tuple_add seq_tuple_add Vf8 Vfx (Vfg _ _)
   (tuple_addW0 t b #[] ws.toArray n n2 dd U sl Y rfl) ⟨ho,B,h⟩
theorem X8l:Op2 X (Vep .Add) (X7 .add):=by
 intro pa s σ H ρ S env x y v u v' u' E I B rx rv ry ru;cases x with
 |int i=>cases y with
  |int j=>simp only[RD]at rx ry;subst rx ry;obtain⟨t,rfl⟩:=rv;obtain⟨t',rfl⟩:=ru;exact add_int (Xap I.sr (I.inv.tok _))|_=>cases B rfl
 |tup xs=>cases y with
  |tup ys=>
   simp only[X7]at B ⊢;split at B
   ·rename_i hz;rw[iP0 hz];have ac:=rx;have ab:=ry;simp only[RD]at rx ry;obtain⟨a,vs,rfl,s1,r1⟩:=rx;obtain⟨b,us,rfl,s2,r2⟩:=ry;cases rv;cases ru;obtain⟨i1,q1,p1,z1⟩:=I.inv.tuple s1;obtain⟨i2,q2,p2,z2⟩:=I.inv.tuple s2;have U:=r1.length;have L:=r2.length;have aa:=q1.length;have Y:=q2.length;by_cases hx:xs=[]
    ·subst hx;have:vs=[]:=by simpa [RDs] using r1
     subst this;cases q1;refine Xvl p1 p2 ?_;exact .mk (v:=.ref b) .refl I.inv rfl ab I.sr
    refine HT.cat_tup p1 p2 (λz=>hx ?_) (λz=>?_) (λz=>?_) ?_;·subst z;simp at aa;rw[aa]at U;simpa using U
    ·have:ys=[]:=by subst z;simp at Y;rw[Y]at L;simpa using L
     subst this;rw[V3];exact .mk (v:=.ref a) .refl I.inv rfl ac I.sr
    ·refine Xck (I.inv.laid (t':=s.toks) (o:=.tup (vs++us)) (λb ob q=>Vf _ q) (Vm _) ?_) (I.inv.hok.fresh (Vm _)) I.sr (r1.append r2);exact⟨by rw[Vy,<-U,<-L];exact Xb0 hz,_,q1.append q2,IsTup.new _ _⟩
    rw[<-aa,<-Y,<-U,<-L];exact Xb0 hz
   cases B rfl|_=>cases B rfl
 |ref n=>cases y with
  |ref m=>
   simp only[X7]at B ⊢;cases h1:Z.lstM S n with
   |none=>rw[h1]at B;cases B rfl|some xs=>
    cases h2:Z.lstM S m with
    |none=>rw[h1,h2]at B;cases B rfl|some ys=>
     rw[h1,h2]at B;dsimp only at B ⊢;split at B
     ·rename_i hz;rw[iP0 hz];obtain⟨a,vs,rfl,ha,ae,ra⟩:=I.lstR h1 rx;obtain⟨b,us,rfl,hb,af,rb⟩:=I.lstR h2 ry;exact opd (Q':=λz H'=>∃p,H p=yy/\z=.ref p/\H'=upd H p (.lst (vs++us))) X3l I.inv rv ru ⟨a,b,vs,us,rfl,rfl,ae,af,by rw[<-ra.length,<-rb.length];exact Xb0 hz,λp hp=>⟨p,hp,rfl,rfl⟩⟩
       λw s' z H' J rz ⟨p,hp,z1,z2⟩=>by subst z1 z2;cases rz;exact Xaz J hp I.sr (ra.append rb)
     cases B rfl
  |_=>cases B rfl
 |_=>cases y<;>cases B rfl
theorem X8m:Op2 X (Vep .Sub) (X7 .sub):=by
 intro pa s σ H ρ S env x y v u v' u' E I L B U J Y;cases x with
 |int i=>cases y with
  |int j=>simp only[RD]at B J;subst B J;obtain⟨t,rfl⟩:=U;obtain⟨t',rfl⟩:=Y;exact sub_int (Xap I.sr (I.inv.tok _))|_=>cases L rfl
 |_=>cases y<;>cases L rfl
theorem Xox(h:i.natAbs.log2<100000):Builtin.Int.intBits i<=2^20:=by
 unfold Builtin.Int.intBits;split;·exact Ug _
 ·omega
theorem Xvm(h:Xay i j=yx):IntMulOk i j:=by
 simp only[Xay,Vc5,bA0,decide_eq_true_eq]at h;rcases h with h|h;·have:CMul i j:=h;exact this.ok
 ·exact IntMulOk.of_bits (Xox h.1) (Xox h.2)
theorem X8n:Op2 X (Vep .Mult) (X7 .mul):=by
 intro pa s σ H ρ S env x y v u v' u' E I B J Y U ru;cases x with
 |int i=>cases y with
  |int j=>
   simp only[RD]at J U;subst J U;obtain⟨t,rfl⟩:=Y;obtain⟨t',rfl⟩:=ru;simp only[X7]at B ⊢;split at B;·rename_i L;rw[iP0 L];exact mul_int (Xap I.sr (I.inv.tok _)) (Xvm L)
   ·cases B rfl|_=>cases B rfl
 |_=>cases y<;>cases B rfl
theorem X3z:Op2 X (Vep .FloorDiv) (X7 .fdiv):=by
 intro pa s σ H ρ S env x y v u v' u' E I B L Y U ru;cases x with
 |int i=>cases y with
  |int j=>
   simp only[RD]at L U;subst L U;obtain⟨t,rfl⟩:=Y;obtain⟨t',rfl⟩:=ru;simp only[X7]at B ⊢;split at B;·rename_i J;rw[iP0 J];simp only[Xd4,bA0,decide_eq_true_eq]at J;have hj:(0:Int)<j:=J.1;exact floordiv_int (by omega) (by rw[Int.fdiv_eq_ediv_of_nonneg i (by omega)];exact Xap I.sr (I.inv.tok _)) (.inl (PyProof.noPylong_of_log2 J.2))
   ·cases B rfl|_=>cases B rfl
 |_=>cases y<;>cases B rfl
theorem X8o:Op2 X (Vep .Mod) (X7 .mod):=by
 intro pa s σ H ρ S env x y v u v' u' E I B J U L Y;cases x with
 |int i=>cases y with
  |int j=>
   simp only[RD]at J L;subst J L;obtain⟨t,rfl⟩:=U;obtain⟨t',rfl⟩:=Y;simp only[X7]at B ⊢;split at B;·rename_i hz;rw[iP0 hz];exact mod_int' (by omega) (by rw[Int.fmod_eq_emod_of_nonneg i (by omega)];exact Xap I.sr (I.inv.tok _))
   ·cases B rfl|_=>cases B rfl
 |_=>cases y<;>cases B rfl
theorem X8p:Op2 X (Vep .Pow) (X7 .pow):=by
 intro pa s σ H ρ S env x y v u v' u' E I B J Y U ru;cases x with
 |int i=>cases y with
  |int j=>
   simp only[RD]at J U;subst J U;obtain⟨t,rfl⟩:=Y;obtain⟨t',rfl⟩:=ru;simp only[X7]at B ⊢;split at B;·rename_i L;rw[iP0 L];exact pow_int_small L.1 (by omega) (by omega) (Xap I.sr (I.inv.tok _))
   ·cases B rfl|_=>cases B rfl
 |_=>cases y<;>cases B rfl
theorem X8q:∀op:Bo,Op2 X (Vep (opB op)) (X7 op)
 |.add=>X8l|.sub=>X8m|.mul=>X8n|.fdiv=>X3z|.mod=>X8o|.pow=>X8p
end
theorem X30(n:Nat)(i:Int):Z.ixN n i=L2.ixN n i:=rfl
section
variable{X:Cx}{pa:LA}{σ:L2.St}{H:Hp}{s:Vc}{ρ:LR}{S S':Sto}{env:En}{Q:VP}{E:VP}{a b c e:Expr}{f fa fb fc:En->Sto->R D}{pos:Pos}
theorem X31(r:RDs X.K ρ H xs vs)(h:((Z.ixN (lf xs) k).bind λj=>xs[j]?)=yz d):∃v,atI vs k=yz v/\RD X.K ρ H d v:=by
 cases e:Z.ixN (lf xs) k with
 |none=>rw[e]at h;cases h|some j=>rw[e]at h;obtain⟨v,h1,h2⟩:=r.get (i:=j) (d:=d) h;refine⟨v,?_,h2⟩;show((L2.ixN (lf vs) k).bind λj=>vs[j]?)=yz v;rw[<-r.length];rw[X30]at e;rw[e];exact h1
theorem X8r(hs:Xid b):Op2 X (Ve4 a b) Xa8:=by
 intro pa s σ H ρ S env x y v u v' u' E I nb rx rv ry ru;unfold Xa8 at nb ⊢;cases e:Xa1 x y S with
 |none=>rw[e]at nb;cases nb rfl|some d=>
  cases y with
  |int k=>
   simp only[RD]at ry;subst ry;have B:∀ {r:R2} (hr:IxR (X.wish E) r) (z:V),r v (.int k) H (λz' H'=>z'=z/\H'=H)->RD X.K ρ H d z->Vg (Vl X.prog X.w) X.A (Ve4 a b v' u') (OkP X pa σ ρ H (.ok d S)) E s:=λ{r} hr z h1 h2=>thn (hr a b pa s σ H v (.int k) v' u' _ (I.inv.wish E) rv ru h1 (hs _ _)) λw s' ⟨z',H',J,Y,L,e2⟩=>by subst L e2;exact .mk .refl J.unwish Y h2 I.sr
   have seq:∀xs,Xw S x=yz xs->((Z.ixN (lf xs) k).bind λj=>xs[j]?)=yz d->Vg (Vl X.prog X.w) X.A (Ve4 a b v' u') (OkP X pa σ ρ H (.ok d S)) E s:=λxs h1 h2=>by
    obtain⟨p,vs,rfl,U,hr⟩:=I.seq h1 rx;obtain⟨z,hz,Y⟩:=X31 hr h2;rcases U with U|U;·exact B Xzu z ⟨p,vs,k,z,rfl,rfl,U,hz,rfl,rfl⟩ Y
    ·exact B X3j z ⟨p,vs,k,z,rfl,rfl,U,hz,rfl,rfl⟩ Y
   cases x with
   |str _=>simp[Xa1,Xw]at e|tup xs=>exact seq xs rfl (by simpa [Xa1,Xw] using e)|fro xs=>exact seq xs rfl (by simpa [Xa1,Xw] using e)|ref n=>
    simp only[Xa1,Xw]at e;cases L:Xc S n with
    |none=>rw[L]at e;cases e|some xs=>rw[L]at e;exact seq xs L e
   |non=>simp[Xa1,Xw]at e|bl _=>simp[Xa1,Xw]at e|int _=>simp[Xa1,Xw]at e|fn _ _=>simp[Xa1,Xw]at e
  |_=>simp[Xa1]at e
theorem X8s(hs:Xid b)(J:DE X a fa)(B:DE X b fb):DE X (.Subscript a b pos) (λenv S=>(fa env S).bind λx S=>(fb env S).bind λy S=>Xa8 x y S):=
 λpa s σ H ρ S env I L=>Subscript_ (two (X8r hs) J B I L rfl)
noncomputable def spD(K:Vj)(n:Nat)(F:LD->Sto->R D):Sp:=λvs H Q E=>∃ds ρ S,lf vs=n/\RDs K ρ H ds vs/\SR K ρ S H/\F ds S≠.bad /\
 (∀d S' v H' ρ',F ds S=.ok d S'->RD K ρ' H' d v->SR K ρ' S' H'->Stp K ρ ρ' H H'->Q v H') /\
 ∀n c S' a H' ρ',F ds S=.ex n S'->ρ'[n]?=yz a->S'[n]?=yz (.exc c)->SR K ρ' S' H'->Stp K ρ ρ' H H'->E (.ref a) yy H'
noncomputable def CXd(P:V4)(w:Ua):CXT:=λouter H s E e s'=>∃H',s'.os=s.os/\AllBare s'.gens/\Un (frs outer) [] H H' s.heap s'.heap/\HOk P w H' s'.heap/\(∃a,e=.ref a/\Trc .none (λT=>s.heap.get? T=yy) H' a s'.heap)/\E e yy H'
structure RoomC(cm:Bool)(k:Nat)(A:Uu):Prop where
 gd:A.guards=yz []
 hd:cm=yx->A.handled=yy
 dp:A.depth+3*k+5<recursionLimit
 un:A.units+16*k+200<Vcl
theorem RoomC.of(r:Room k A):RoomC cm k A:=⟨r.gd,λ_=>r.hd,r.dp,r.un⟩
theorem RoomC.less(r:RoomC cm k A)(h:cm2=yx->cm=yx):RoomC cm2 k A:=⟨r.gd,λz=>r.hd (h z),r.dp,r.un⟩
theorem RoomC.deeper(r:RoomC cm (k+1) A)(env:Vb9):RoomC cm k (A.deeper env):=
 ⟨r.gd,r.hd,by have:=r.dp;show A.depth+1+3*k+5<_;omega,by have:=r.un;show A.units+3+16*k+200<_;omega⟩
theorem RoomC.mark(r:RoomC cm k A):RoomC yw k (A.mark h):=⟨r.gd,(λz=>nomatch z),r.dp,r.un⟩
structure FnD(cm:Bool)(P:V4)(w:Ua)(K:Vj)(mg:Str->OV)(base:Heap)(k:Nat)(f:Addr)(fd:Vdj)(ps:LS)(F:LD->Sto->R D):Prop where
 run:∀(A:Uu) (outer:List Vb9) (s:Vc) (H:Hp) (args:Args) (us:LV) (vs:LW) (Q:VK) (E:XK),RoomC cm k A->Env0 P w K mg base A outer s H->BindsTo s fd args (ps.zip us)->Vals vs us->spD K (lf ps) F vs H Q E ->
  Vcy (Vl P w) A (.call (.ref f) args) (CR (CXd P w) outer P w H s Q E) s
theorem X8t(G:FnD cm X.prog X.w X.K X.mg X.base k g fd ps F)(hr:RoomC cm k X.A)(hb:Binds X.K fd ps [])
  (I:S0 X pa σ H s ρ S env) (rv:Vals vs us) (rd:RDs X.K ρ H ds vs) (hl:(lf ds)=lf ps) (nb:F ds S≠.bad):
  Vg (Vl X.prog X.w) X.A (call (.ref g) us) (OkP X pa σ ρ H (F ds S)) (ExP X pa σ ρ H (F ds S)) s:=by
 have Y:(lf vs)=lf ps:=by rw[<-rd.length];exact hl
 have ab:BindsTo s fd ⟨us,[]⟩ (ps.zip us):=by have:=hb s us I.inv.kIn (by rw[V3,<-rv.length];exact Y);rwa [V3]at this
 have ac:spD X.K (lf ps) F vs H (λv H'=>∃d S' ρ',F ds S=.ok d S'/\RD X.K ρ' H' d v/\SR X.K ρ' S' H'/\Stp X.K ρ ρ' H H')
   (λe _ H'=>∃n c S' a ρ',F ds S=.ex n S'/\e=.ref a/\ρ'[n]?=yz a/\S'[n]?=yz (.exc c)/\SR X.K ρ' S' H'/\Stp X.K ρ ρ' H H'):=
  ⟨ds,ρ,S,Y,rd,I.sr,nb,λd S' v H' ρ' h1 h2 L B=>⟨d,S',ρ',h1,h2,L,B⟩,λn c S' a H' ρ' h1 h2 L B h5=>⟨n,c,S',a,ρ',h1,rfl,h2,L,B,h5⟩⟩
 refine wpAny_call (Vet (G.run X.A X.stack s H ⟨us,[]⟩ us vs _ _ hr I.inv.env0 ab rv ac) λr s' U=>?_);cases r with
 |error e=>
  obtain⟨H',os,bare,un,hok,⟨a',h0,tr⟩,n,c,S',a,ρ',h1,h2,L,B,h5,h6⟩:=U;refine⟨n,S',h1,H',ρ',a,c,I.inv.call' os un hok bare (λb z=>aB0 z (by simp)),h2,L,B,h5,h6,.inr ⟨_,.inl rfl,?_⟩⟩;rw[h2]at h0;cases h0;refine tr.imp λT hT=>⟨?_,λp hp z=>?_⟩
  ·by_cases hx:T∈X.ex;·exact .inl hx
   ·cases q:X.s₀.heap.get? T with
    |none=>exact .inr rfl|some o=>obtain⟨o',e⟩:=I.inv.base.there T o q hx;rw[hT]at e;cases e
  have:=(I.inv.pin p hp).1;rw[z,hT]at this;cases this|ok fl=>
  cases fl with
  |ret u=>obtain⟨v,H',J,aa,d,S',ρ',h1,h2,L,B⟩:=I.inv.after U;exact⟨d,S',h1,v,H',ρ',J,aa,h2,L,B⟩|next=>exact Vgo U|brk=>exact Vgo U|cont=>exact Vgo U
theorem X32(G:FnD cm X.prog X.w X.K X.mg X.base k g fd ps F)(hr:RoomC cm k X.A)(hb:Binds X.K fd ps [])
  (hg:Gl X x) (hm:X.mg x=yz (.ref g)) (Y:Vd4 X.K (.ref g)=yx) (ha:DA X (e::es) ga) (hl:∀env S ds S',ga env S=.ok ds S'->lf ds=lf ps)
  (U:(x==("__debug__" : Str))=yw) (he:Ul (e::es) X.env=(yw,eval e X.env)::Ul es X.env) (J:(Vc0 pos (Ul es X.env)).any (·.1)=yw):
  DE X (.Call (.Name x p) (e::es) [] pos) (λenv S=>(ga env S).bind λxs S=>F xs S):=by
 intro pa s σ H ρ S env I B;dsimp only at B ⊢;refine Var (Xdh I.inv hg hm ?_ U);cases q:ga env S with
 |bad=>rw[q]at B;cases B rfl|ex n S1=>exact PySem.W.callWith_K (h₀:=X.base) I.inv.ok.mod.kin Y (ha.ex I q λx s' z=>⟨n,S1,rfl,z⟩) he J|ok ds S1=>rw[q]at B;simp only[Rk0]at B ⊢;refine PySem.W.callWith_K (h₀:=X.base) I.inv.ok.mod.kin Y (ha.ok I q λus s1 vs H1 aa I1 rv rd L=>⟨I1.inv.kIn,?_⟩) he J;exact Vo (X8t G hr hb I1 rv rd (hl env S ds S1 q) B) (λu s2 z=>z.pre L) λx s2 z=>z.pre L
def FlP(X:Cx)(pa:LA)(σ:L2.St)(ρ:LR)(H:Hp)(na:Bool)(S':Sto)(s':Vc):Fl->Flow->Prop
 |.nx e,fl=>fl=.next/\∃ B H' ρ',S0 X pa B H' s' ρ' S' e/\Stp X.K ρ ρ' H H'/\(na=yx->B=σ)|.brk e,fl=>fl=.brk/\∃ B H' ρ',S0 X pa B H' s' ρ' S' e/\Stp X.K ρ ρ' H H'|.cnt e,fl=>fl=.cont/\∃ B H' ρ',S0 X pa B H' s' ρ' S' e/\Stp X.K ρ ρ' H H'|.rt d,fl=>∃u v B H' ρ',fl=.ret u/\Inv X pa B H' s'/\RelV v u/\RD X.K ρ' H' d v/\SR X.K ρ' S' H'/\Stp X.K ρ ρ' H H'
def OkS(X:Cx)(pa:LA)(σ:L2.St)(ρ:LR)(H:Hp)(na:Bool)(r:R Fl)(fl:Flow)(s':Vc):Prop:=∃x S',r=.ok x S'/\FlP X pa σ ρ H na S' s' x fl
def ExS(X:Cx)(pa:LA)(σ:L2.St)(ρ:LR)(H:Hp)(na:Bool)(r:R Fl)(e:Vb)(s':Vc):Prop:=∃n S' B,r=.ex n S'/\(na=yx->B=σ)/\XPd X pa B ρ H n S' e s'
def DS(X:Cx)(st:Stmt)(na:Bool)(f:En->Sto->R Fl):Prop:=
 ∀(pa:LA) (s:Vc) (σ:L2.St) (H:Hp) (ρ:LR) (S:Sto) (env:En),S0 X pa σ H s ρ S env->f env S≠.bad ->
  Vg (Vl X.prog X.w) X.A (exec st X.env) (OkS X pa σ ρ H na (f env S)) (ExS X pa σ ρ H na (f env S)) s
def DSs(X:Cx)(st:LM)(na:Bool)(f:En->Sto->R Fl):Prop:=
 ∀(pa:LA) (s:Vc) (σ:L2.St) (H:Hp) (ρ:LR) (S:Sto) (env:En),S0 X pa σ H s ρ S env->f env S≠.bad ->
  Vg (Vl X.prog X.w) X.A (execs st X.env) (OkS X pa σ ρ H na (f env S)) (ExS X pa σ ρ H na (f env S)) s
theorem FlP.pre{x:Fl}{fl:Flow}{s':Vc}{U:L2.St}{ρ':LR}{H':Hp}{na na':Bool}(st:Stp X.K ρ ρ' H H')(hn:na'=yx->na=yx/\U=σ)(h:FlP X pa U ρ' H' na S' s' x fl):FlP X pa σ ρ H na' S' s' x fl:=by
 cases x with
 |nx e=>obtain⟨h1,B,H2,J,h2,L,Y⟩:=h;exact⟨h1,B,H2,J,h2,st.trans L,λz=>(Y (hn z).1).trans (hn z).2⟩|brk e=>obtain⟨h1,B,H2,J,h2,L⟩:=h;exact⟨h1,B,H2,J,h2,st.trans L⟩|cnt e=>obtain⟨h1,B,H2,J,h2,L⟩:=h;exact⟨h1,B,H2,J,h2,st.trans L⟩|rt d=>obtain⟨u,v,B,H2,J,h1,h2,L,Y,h5,h6⟩:=h;exact⟨u,v,B,H2,J,h1,h2,L,Y,h5,st.trans h6⟩
theorem OkS.pre{r:R Fl}{fl:Flow}{s':Vc}{B:L2.St}{ρ':LR}{H':Hp}{na na':Bool}(st:Stp X.K ρ ρ' H H')(hn:na'=yx->na=yx/\B=σ)(h:OkS X pa B ρ' H' na r fl s'):OkS X pa σ ρ H na' r fl s':=by obtain⟨x,S1,e,h⟩:=h;exact⟨x,S1,e,h.pre st hn⟩
theorem ExS.of(st:Stp X.K ρ ρ' H H')(h:XPd X pa σ ρ' H' n S' x s')(e:r=.ex n S'):ExS X pa σ ρ H na r x s':=⟨n,S',σ,e,λ_=>rfl,h.pre st⟩
theorem ExS.pre{na na':Bool}{B:L2.St}{r:R Fl}{x:Vb}{s':Vc}{ρ':LR}{H':Hp}(st:Stp X.K ρ ρ' H H')(hn:na'=yx->na=yx/\B=σ)(h:ExS X pa B ρ' H' na r x s'):ExS X pa σ ρ H na' r x s':=by obtain⟨n,S1,J,e,h1,h2⟩:=h;exact⟨n,S1,J,e,λz=>(h1 (hn z).1).trans (hn z).2,h2.pre st⟩
variable{st:Stmt}{Yj sa sb:LM}{g g2:En->Sto->R Fl}{na na2:Bool}
theorem DS.weak(h:DS X st na g)(hn:na2=yx->na=yx):DS X st na2 g:=λpa s σ H ρ S env I B=>Vo (h pa s σ H ρ S env I B) (λ_ _ z=>z.pre .refl λq=>⟨hn q,rfl⟩) λ_ _ z=>z.pre .refl λq=>⟨hn q,rfl⟩
theorem dss_nil:DSs X [] yx (λenv S=>.ok (.nx env) S):=λpa s σ H ρ S env I _=>wpAny_execs_nil ⟨.nx env,S,rfl,rfl,σ,H,ρ,I,.refl,λ_=>rfl⟩
theorem Xvn(h1:DS X st na g)(h2:DSs X Yj na2 g2):DSs X (st::Yj) (na&&na2) (λenv S=>match g env S with | .ok (.nx e) S'=>g2 e S'|r=>r):=by
 intro pa s σ H ρ S env I Y;dsimp only at Y ⊢;refine wpAny_execs_cons ?_;cases q:g env S with
 |bad=>rw[q]at Y;cases Y rfl|ex n S1=>
  refine Vo (h1 pa s σ H ρ S env I (by rw[q];exact λz=>nomatch z)) (λfl s1 z=>?_) λx s1 z=>?_;·obtain⟨x,S2,e,_⟩:=z;rw[q]at e;cases e
  ·rw[q]at z;exact z.pre .refl λw=>⟨by rw[bA0]at w;exact w.1,rfl⟩|ok x S1=>
  rw[q]at Y;refine Vo (h1 pa s σ H ρ S env I (by rw[q];exact λz=>nomatch z)) (λfl s1 z=>?_) λx s1 z=>?_
  ·obtain⟨y,S2,e,z⟩:=z;rw[q]at e;cases e;cases x with
   |nx e=>obtain⟨rfl,J,H1,B,U,L,aa⟩:=z;exact Vo (h2 pa s1 J H1 B S1 e U Y) (λfl s2 z=>z.pre L λw=>by rw[bA0]at w;exact⟨w.2,aa w.1⟩) λx s2 z=>z.pre L λw=>by rw[bA0]at w;exact⟨w.2,aa w.1⟩|brk e=>obtain⟨rfl,J,H1,B,U,L⟩:=z;exact⟨.brk e,S1,rfl,rfl,J,H1,B,U,L⟩|cnt e=>obtain⟨rfl,J,H1,B,U,L⟩:=z;exact⟨.cnt e,S1,rfl,rfl,J,H1,B,U,L⟩|rt d=>obtain⟨u,v,J,H1,B,rfl,r⟩:=z;exact⟨.rt d,S1,rfl,u,v,J,H1,B,rfl,r⟩
  obtain⟨k,S2,ab,e,_⟩:=z;rw[q]at e;cases e
theorem ds_pass:DS X (.Pass pos) yx (λenv S=>.ok (.nx env) S):=λpa s σ H ρ S env I _=>wpAny_Pass ⟨.nx env,S,rfl,rfl,σ,H,ρ,I,.refl,λ_=>rfl⟩
theorem ds_brk:DS X (.Break pos) yw (λenv S=>.ok (.brk env) S):=λpa s σ H ρ S env I _=>wpAny_Break ⟨.brk env,S,rfl,rfl,σ,H,ρ,I,.refl⟩
theorem ds_cnt:DS X (.Continue pos) yw (λenv S=>.ok (.cnt env) S):=λpa s σ H ρ S env I _=>wpAny_Continue ⟨.cnt env,S,rfl,rfl,σ,H,ρ,I,.refl⟩
theorem Xz7(L:DE X e f)(hs:Vfk e yy pos.line X.env=pure yw):DS X (.Expr e pos) yx (λenv S=>(f env S).bind λ_ S=>.ok (.nx env) S):=by
 intro pa s σ H ρ S env I B;dsimp only at B ⊢;cases q:f env S with
 |bad=>rw[q]at B;cases B rfl|ex n S1=>exact wpAny_Expr_any (L.ex I q λx s' z=>.of .refl z rfl) I.inv.quiet hs|ok d S1=>exact wpAny_Expr_any (L.ok I q λu s' v H' ρ' J U Y st=>⟨.nx env,S1,rfl,rfl,σ,H',ρ',J,st,λ_=>rfl⟩) I.inv.quiet hs
theorem X33(L:DE X e f):DS X (.Return (yz e) pos) yx (λenv S=>(f env S).bind λx S=>.ok (.rt x) S):=by
 intro pa s σ H ρ S env I B;dsimp only at B ⊢;cases q:f env S with
 |bad=>rw[q]at B;cases B rfl|ex n S1=>exact wpAny_Return_some (L.ex I q λx s' z=>.of .refl z rfl)|ok d S1=>exact wpAny_Return_some (L.ok I q λu s' v H' ρ' J U Y st=>⟨.rt d,S1,rfl,u,v,σ,H',ρ',rfl,J.inv,U,Y,J.sr,st⟩)
theorem X8u(hc:DT X c (λenv S=>tst (fc env S)))(ha:DSs X sa na g)(hb:DSs X sb na2 g2):
  DS X (.If c sa sb pos) (na&&na2) (λenv S=>(fc env S).bind λx S=>match Xg S x with|some yx=>g env S|some yw=>g2 env S|none=>.bad):=by
 intro pa s σ H ρ S env I B;dsimp only at B ⊢;cases q:fc env S with
 |bad=>rw[q]at B;cases B rfl|ex n S1=>exact wpAny_If (hc.ex I (by simp only[q];rfl) λx s' z=>.of .refl z rfl)|ok x S1=>
  rw[q]at B;simp only[Rk0]at B ⊢;cases t:Xg S1 x with
  |none=>rw[t]at B;cases B rfl|some r=>
   rw[t]at B;refine wpAny_If (hc.ok I (by simp only[q];exact Xbk t) λY H2 L U J=>?_);cases r with
   |true=>exact Vo (ha pa Y σ H2 L S1 env U B) (λw s3 z=>z.pre J λw=>by rw[bA0]at w;exact⟨w.1,rfl⟩) λx s' z=>z.pre J λw=>by rw[bA0]at w;exact⟨w.1,rfl⟩|false=>exact Vo (hb pa Y σ H2 L S1 env U B) (λw s3 z=>z.pre J λw=>by rw[bA0]at w;exact⟨w.2,rfl⟩) λx s' z=>z.pre J λw=>by rw[bA0]at w;exact⟨w.2,rfl⟩
theorem X34(hN:X.N.Nodup)(hi:X.N[i]?=yz x)(hx:Loc X.env.scope x)(Y:X.fn x=yx\/X.env.scope.names.lookup x=yz .local)(L:DE X e f)(hs:Vfk e (yz (.Name x pos')) pos.line X.env=pure yw):
  DS X (.Assign [.Name x pos'] e pos) yw (λenv S=>(f env S).bind λx S=>match Xu (.var i) x env with|some env=>.ok (.nx env) S|none=>.bad):=by
 intro pa s σ H ρ S env I B;dsimp only at B ⊢;cases q:f env S with
 |bad=>rw[q]at B;cases B rfl|ex n S1=>exact wpAny_Assign_Name (L.ex I q λx s' z=>.of .refl z rfl) hs|ok d S1=>refine wpAny_Assign_Name (L.ok I q λu s' v H' ρ' J U rd st=>?_) hs;exact Xbv J.inv hN hi hx U (λs2 I2=>⟨.nx (env.set i (yz d)),S1,rfl,rfl,_,H',ρ',⟨I2,J.sr,J.er.set i rd⟩,st,λz=>nomatch z⟩) Y
theorem Xb7{b:Addr}{u:HO}(x:ObjOk P w H h b u):∃o,h.get? b=yz o:=by
 cases u with
 |lst xs=>obtain⟨_,_,_,_,e⟩:=x;exact⟨_,e⟩|tup xs=>obtain⟨_,_,_,o,e,_⟩:=x;exact⟨_,e⟩|dK kvs=>obtain⟨_,_,_,_,o,_,_,e,_⟩:=x;exact⟨_,e⟩|dT kvs=>obtain⟨_,_,_,_,o,_,_,e,_⟩:=x;exact⟨_,e⟩|set S n=>obtain⟨o,_,_,_,e,_⟩:=x;exact⟨_,e⟩|ins C dx fs=>obtain⟨_,_,_,e,_⟩:=x;exact⟨_,e⟩|own y=>exact x|xd fs=>obtain⟨_,⟨_,_,_,e,_⟩,_⟩:=x;exact⟨_,e⟩|rng lo hi=>obtain⟨_,_,_,e⟩:=x;exact⟨_,e⟩|frz ob u=>obtain⟨e,_⟩:=x;exact⟨_,e⟩|tbl ps=>exact⟨_,(show h.get? b=yz _ from x)⟩|met f y=>exact⟨_,(show h.get? b=yz _ from x)⟩|ext B=>exact x.2.1
theorem Xdd{h g g':Heap}:∀ {l:List Vb9},h.FunFrames g l->(∀b∈frs l,g'.get? b=yy)->h.FunFrames g' l
 |[],_,_=>trivial|env::r,⟨hk,⟨L,o,hf,_,ho,hd⟩,hr⟩,k=>by
  have e:frs (env::r)=L::frs r:=by unfold frs;rw[Uz,hf]
  rw[e]at k;exact⟨hk,⟨L,o,hf,k L (.head _),ho,hd⟩,Xdd hr λb B=>k b (.tail _ B)⟩
structure Hid(X:Cx)(H':Hp)(a:Addr)(h:Heap)(l:LR):Prop where
 er:a∈l
 fr:∀b∈frs X.stack,b∈l
 of:∀b∈l,b=a\/b∈frs X.stack\/(H' b=yy/\∃o vs,h.get? b=yz o/\o.data=.fields vs)
theorem Xoy{pa:LA}{σ:L2.St}{a C:Addr}{l:LR}(I:Inv X pa σ H' s')(J:H' a=yz (.ext (ExcO C a)))(Y:Hid X H' a s'.heap l)
  (keep:∀b o,s'.heap.get? b=yz o->b ∉ l->h'.get? b=yz o) (U:ExcO C a h'):HOk X.prog X.w H' h':=by
 have out:∀b u,b≠a->H' b=yz u->b ∉ l:=λb u B q L=>by
  rcases Y.of b L with z|z|⟨z,_⟩;·exact B z
  ·rw[I.stkFree b z]at q;cases q
  rw[z]at q;cases q
 intro b u q;by_cases B:b=a;·subst B;rw[J]at q;cases q;exact U.ok
 ·refine(I.hok b u q).stay (λc v hc e=>?_) (λ_ z=>z) λ_ _ z=>z;rcases hc with rfl|hc;·exact keep c v e (out c u B q)
  ·exact keep c v e (out c _ (λz=>by rw[z,J]at hc;cases hc) hc)
theorem Inv.fly{X:Cx}{pa:LA}{σ:L2.St}{H:Hp}{s:Vc}{a:Addr}(I:Inv X pa σ H s)(ha:H a=yz (.ext (ExcO C a)))(hl:Hid X H a s.heap l)
  (J:∀b∈l,b≠a->b ∉ frs X.stack->Xif X pa b) (k1:(Vck s.heap l).StaysIn h') (k4:s.heap.UpToSlots h') (he:ExcO C a h'):
  Inv X pa σ H {s with heap:=h' }:=by
 have keep:∀b o,s.heap.get? b=yz o->b ∉ l->h'.get? b=yz o:=λb o e U=>k1 b o (Vea l e U);have ac:∀b∈frs X.stack,∃o,s.heap.get? b=yz o/\∀vs,o.data≠.fields vs:=λb U=>(I.stack.mem U).2;have aa:∀b o,X.s₀.heap.get? b=yz o->b≠X.env.locals:=λb o e=>Uc (Ub (Vw e) I.ok.above);have B:∀x c,X.env.cells.lookup x=yz c->∀v,s.heap.IsCell c v->h'.IsCell c v:=λx c e v ⟨o,ho,hd⟩=>by
  obtain⟨sl,q⟩:=k4 c o ho λvs z=>by rw[hd]at z;cases z
  exact⟨_,q,hd⟩
 refine⟨I.ok,I.os,I.bare,⟨λb o e n U L=>?_,λb o e n U L=>?_,λb o e n L=>I.base.free b o e n L,λb o e L=>?_,I.base.tups,I.base.frzs,I.base.tbls⟩,?_,λx c e=>?_,I.free,I.freeC,λp hp=>?_,Xoy I ha hl keep he,I.len⟩
 ·refine keep b o (I.base.keep b o e n U L) λhm=>?_;have fb:=I.base.free b o e n L;by_cases h1:b=a;·rw[h1,ha]at fb;cases fb
  ·by_cases h2:b∈frs X.stack
   ·rcases Vn.mp (I.stkSub b h2) with z|z;·exact aa b o e z
    ·exact U z
   rcases (J b hm h1 h2).1 with z|z;·exact L z
   ·rw[z]at e;cases e
 ·obtain⟨sl,Y⟩:=I.base.slot b o e n U L;obtain⟨_,o',e',nd⟩:=I.funs.mem U;rw[Y]at e';cases e';obtain⟨ab,e2⟩:=k4 b _ Y nd;exact⟨ab,e2⟩
 ·obtain⟨o',Y⟩:=I.base.there b o e L;by_cases hm:b∈l
  ·by_cases h1:b=a;·subst h1;obtain⟨oe,_,_,q,_⟩:=he;exact⟨_,q⟩
   ·by_cases h2:b∈frs X.stack;·obtain⟨o2,e2,nd⟩:=ac b h2;rw[Y]at e2;cases e2;obtain⟨sl,e3⟩:=k4 b _ Y nd;exact⟨_,e3⟩
    ·rcases (J b hm h1 h2).1 with z|z;·exact aB0 z L
     ·rw[z]at e;cases e
  exact⟨_,keep b o' Y hm⟩
 ·obtain⟨m,hn,ae⟩:=I.loc;refine⟨m,k4.ns hn,λi x v Y e2 e3=>?_⟩;obtain⟨u,r,lk⟩:=ae i x v Y e2 e3;refine⟨u,r,?_⟩;rcases lk with lk|⟨kd,c,e,z⟩;·exact .inl lk
  ·exact .inr ⟨kd,c,e,B x c e _ z⟩
 ·obtain⟨v,z⟩:=I.cell x c e;exact⟨v,B x c e v z⟩
 ·obtain⟨e,n,ne,nf,d⟩:=I.pin p hp;refine⟨keep p.1 p.2 e λhm=>?_,n,ne,nf,d⟩;by_cases h1:p.1=a;·rw[h1,ha]at n;cases n
  ·by_cases h2:p.1∈frs X.stack
   ·rcases Vn.mp (I.stkSub p.1 h2) with z|z;·exact ne z
    ·exact nf z
   exact(J p.1 hm h1 h2).2 p hp rfl
theorem Xgm{X:Cx}{pa:LA}{σ:L2.St}{H':Hp}{s':Vc}{a C:Addr}{Q:Unit->Vc->Prop}{E:VP}(I:Inv X pa σ H' s')(hs:X.stack=X.env::X.outer)(hf:X.env.frame=yz X.env.locals)
  (ha:H' a=yz (.ext (ExcO C a))) (fl:Fly X pa H' a s'.heap)
  (hQ:∀l h2 L,Hid X H' a s'.heap l->(∀b∈l,b≠a->b ∉ frs X.stack->Xif X pa b)->Heap.HeldW (Vck s'.heap l) (X.env::X.outer) a (.ref C) L X.env.locals h2->s'.heap.UpToSlots h2->Q () {s' with heap:=h2}):
  Vg (Vl X.prog X.w) X.A (noteFrame (.ref a) X.env) Q E s':=by
 have hA:X.A.frames=yz (X.env::X.outer):=by rw[<-hs];exact I.ok.frames
 have hI:=I.stack;obtain⟨⟨oa,va,L,U,ca,Y,v0,vz⟩,_,_⟩:=(show ObjOk X.prog X.w H' s'.heap a (.ext (ExcO C a)) from I.hok a _ ha);rcases fl with⟨oe,vs,e1,e2,e3⟩|⟨fl,hfl,oe,vs,T,oT,ts,e1,e2,e3,e4,e6,e7,e8,e9,e10⟩
 ·have hid:Hid X H' a s'.heap (a::frs X.stack):=⟨.head _,λb B=>.tail _ B,λb B=>by
   rcases Vn.mp B with z|z;·exact .inl z
   ·exact .inr (.inl z)⟩
  rw[U]at e1;cases e1;rw[Y]at e2;cases e2;unfold noteFrame;simp only[hf];refine Va (Vam U Y e3 ?_);rw[iN0 (by decide)];refine wpAny_entryW (base:=Vck s'.heap (a::frs X.stack)) hA (by rw[<-hs];exact Xdd hI λb B=>Vb2 _ (.tail _ B)) hf U (λb o e=>Vff _ e) (Vb2 _ (.head _)) Y vz v0 λh2 ⟨k1,k2,k3,k4⟩=>?_
  rw[ca]at k3;exact hQ _ h2 L hid (λb B h1 h2=>by
   rcases Vn.mp B with z|z;·exact aB0 z h1
   ·exact aB0 z h2) ⟨k1,Vb2 _ (.head _),k2,k3⟩ k4
 ·have hid:Hid X H' a s'.heap (a::T::frs X.stack):=⟨.head _,λb B=>.tail _ (.tail _ B),λb B=>by
   rcases Vn.mp B with z|z;·exact .inl z
   ·rcases Vn.mp z with z|z;·subst z;exact .inr (.inr ⟨e7,oT,ts,e8,e9⟩)
    ·exact .inr (.inl z)⟩
  have J:∀b∈a::T::frs X.stack,b≠a->b ∉ frs X.stack->Xif X pa b:=λb B h1 h2=>by
   rcases Vn.mp B with z|z;·exact aB0 z h1
   ·rcases Vn.mp z with z|z;·subst z;exact e4
    ·exact aB0 z h2
  rw[U]at e1;cases e1;rw[Y]at e2;cases e2;have fr:s'.heap.FunFrames (Vck s'.heap (a::T::frs X.stack)) (X.env::X.outer):=by rw[<-hs];exact Xdd hI λb B=>Vb2 _ (.tail _ (.tail _ B))
  have tr:s'.heap.TracedAtW (Vck s'.heap (a::T::frs X.stack)) a (.ref C) L fl:=⟨oa,va,T,oT,ts,U,⟨ca,v0⟩,Y,e3,Vb2 _ (.tail _ (.head _)),e6,e8,e9,e10⟩;rcases hfl with rfl|rfl;·exact wpAny_looks_onW hA hf ⟨λb o e=>Vff _ e,Vb2 _ (.head _),fr,tr⟩ λh2 aa ab=>hQ _ h2 L hid J aa ab
  ·exact wpAny_noteFrame_againW hf tr (hQ _ s'.heap L hid J ⟨λb o e=>Vff _ e,Vb2 _ (.head _),fr,tr⟩ (.refl _))
theorem Xz8{X:Cx}{pa:LA}{σ:L2.St}{H':Hp}{s':Vc}{a C:Addr}{Q:Unit->Vc->Prop}{E:VP}(I:Inv X pa σ H' s')(hs:X.stack=X.env::X.outer)(hf:X.env.frame=yz X.env.locals)(hx:X.ex=[])
  (ha:H' a=yz (.ext (ExcO C a))) (fl:Fly X pa H' a s'.heap)
  (hQ:∀h',Un X.fs [] X.H₀ H' X.s₀.heap h'->HOk X.prog X.w H' h'->Trc .none (λT=>X.s₀.heap.get? T=yy) H' a h'->Q () {s' with heap:=h' }):Vg (Vl X.prog X.w) X.A (leaving X.env (.ref a)) Q E s':=by
 have U:frs X.stack=X.env.locals::X.fs:=by rw[hs];unfold frs;rw[Uz,hf];rfl
 have hA:X.A.frames=yz (X.env::X.outer):=by rw[<-hs];exact I.ok.frames
 have hI:=I.stack;have fin:∀(l:LR) (h':Heap) (a0:Vb),Hid X H' a s'.heap l->(∀b∈l,b≠a->b ∉ frs X.stack->X.s₀.heap.get? b=yy)->Heap.LeftW (Vck s'.heap l) (X.env::X.outer) a (.ref C) a0 s'.heap h'->Q () {s' with heap:=h' }:=by
  intro l h' a0 hl B k0;obtain⟨k1,k2,⟨oe,vs,T,oT,ts,t1,⟨t2,t3⟩,t4,t5,t6,t7,t8,t9,ae⟩,k4⟩:=k0;have keep:∀b o,s'.heap.get? b=yz o->b ∉ l->h'.get? b=yz o:=λb o e J=>k1 b o (Vea l e J);have ab:∀b∈frs X.stack,∃o,s'.heap.get? b=yz o/\∀vs,o.data≠.fields vs:=λb J=>(hI.mem J).2;have aa:∀b∈frs X.stack,∀o,s'.heap.get? b=yz o->∃sl,h'.get? b=yz {o with slots:=sl}:=λb J o e=>by obtain⟨o',e',nd⟩:=ab b J;rw[e]at e';cases e';exact k4 b o e nd
  have ac:∀b o,X.s₀.heap.get? b=yz o->b≠X.env.locals:=λb o e=>Uc (Ub (Vw e) I.ok.above);have nx:∀b:Addr,b ∉ X.ex:=λb z=>by rw[hx]at z;cases z
  have hT:∀o,s'.heap.get? T=yz o->T∈l:=λo e=>by
   by_cases L:T∈l;·exact L
   ·rw[Vea l e L]at t6;cases t6
  have nT:T ∉ frs X.stack:=λL=>by obtain⟨o,e,nd⟩:=ab T L;obtain⟨sl,e'⟩:=aa T L o e;rw[t8]at e';cases e';exact nd ts t9
  refine hQ h' ⟨λb o e n J _=>?_,λb o e n J _=>?_,λb o e n _=>I.base.free b o e n (nx b),λb o e _=>?_,I.base.tups,I.base.frzs,I.base.tbls⟩ (Xoy I ha hl keep ⟨oe,vs,a0,t1,t2,t4,t3,(U3.mp t5).1⟩) ⟨oe,vs,T,oT,ts,t1,t4,t5,?_,t7,?_,t8,t9,ae⟩
  ·refine keep b o (I.base.keep b o e n J (nx b)) λL=>?_;have fb:=I.base.free b o e n (nx b);by_cases h1:b=a;·rw[h1,ha]at fb;cases fb
   ·by_cases h2:b∈frs X.stack
    ·rw[U]at h2;rcases Vn.mp h2 with z|z;·exact ac b o e z
     ·exact J z
    rw[B b L h1 h2]at e;cases e
  ·obtain⟨sl,Y⟩:=I.base.slot b o e n J (nx b);obtain⟨af,e2⟩:=aa b (by rw[U];exact .tail _ J) _ Y;exact⟨af,e2⟩
  ·obtain⟨o',Y⟩:=I.base.there b o e (nx b);by_cases L:b∈l
   ·by_cases h1:b=a;·subst h1;exact⟨_,t1⟩
    ·by_cases h2:b∈frs X.stack;·obtain⟨sl,e2⟩:=aa b h2 o' Y;exact⟨_,e2⟩
     ·rw[B b L h1 h2]at e;cases e
   exact⟨_,keep b o' Y L⟩
  ·cases q:X.s₀.heap.get? T with
   |none=>exact q|some o=>obtain⟨o',Y⟩:=I.base.there T o q (nx T);rw[B T (hT o' Y) t7 nT]at q;cases q
  cases q:H' T with
  |none=>rfl|some u=>
   obtain⟨o',Y⟩:=Xb7 (I.hok T u q);rcases hl.of T (hT o' Y) with z|z|⟨z,_⟩;·exact aB0 z t7
   ·exact aB0 z nT
   rw[z]at q;cases q
 unfold leaving;refine Va (Xgm I hs hf ha fl λl h2 a0 hid B hh up=>?_);refine wpAny_setFlight_noneW hh.1 hh.2.2.1 hh.2.2.2 λh' k1 k2 k3 k4=>?_;refine fin l h' a0 hid (λb J h1 h2=>?_) ⟨k1,k2,k3,λb o e nd=>?_⟩
 ·rcases (B b J h1 h2).1 with z|z;·rw[hx]at z;cases z
  ·exact z
 ·obtain⟨sl,e2⟩:=up b o e nd;exact⟨sl,k4 b _ e2 nd⟩
noncomputable def cxC(cm:Bool)(P:V4)(w:Ua)(K:Vj)(mg:Str->OV)(base:Heap)(N:LS)(qual:Str)(scope:U7)(f:Addr)(B:Vb)(A:Uu)(outer:List Vb9)(s:Vc)(H:Hp)(E:XK):Cx:=
 { Xqb (CXd P w) P w K mg base N qual scope f B A outer s H E with calm:=cm}
theorem X35{cm:Bool}{P:V4}{w:Ua}{K:Vj}{mg:Str->OV}{base:Heap}{k:Nat}{f:Addr}{name qual:Str}{Y:Arguments}{body:LM}{scope:U7}{dV kV ai pm L ct oc:Vb}{an od:Option Addr}
  {ao:Array (OV)} {N ps:LS} {G:En->Sto->R Fl} {na:Bool} (lk:K.lookup f=yz ⟨oc,od,.func (Vcs name qual Y body scope dV kV ai pm an L ct),ao⟩) (al:Vg1 K L qual=yx) (S:FnScope N ps scope)
  (ae:∀(A:Uu) (outer:List Vb9) (s:Vc) (H:Hp) (E:XK),RoomC cm k (A.deeper (envOfC qual scope s.heap.objs.size f L))->DSs (cxC cm P w K mg base N qual scope f L A outer s H E) body na G):
  FnD cm P w K mg base (k+1) f (Vcs name qual Y body scope dV kV ai pm an L ct) ps (λds S=>if (lf ds)=lf ps then
   match G (ds.map yz++Vu (N.length-lf ps) yy) S with
   |.ok (.rt v) S=>.ok v S|.ok (.nx _) S=>.ok .non S|.ok _ _=>.bad|.ex n S=>.ex n S
   |.bad=>.bad else .bad):=by
 refine⟨λA outer s H au us vs Q E hr e0 hb r ar=>?_⟩;obtain⟨ds,ρ,ag,hl,rd,sr,nb,hok,ab⟩:=ar;have ah:(lf ds)=lf ps:=by rw[rd.length];exact hl
 dsimp only at nb hok ab;rw[iP0 ah]at nb;simp only[iP0 ah]at hok ab;have KX:K.In s.heap:=e0.mod.kin.keeps λb o e=>(e0.bs b o e).1;have aq:s.heap.NoLimit:=e0.mod.nolimit.keeps λb o e=>(e0.bs b o e).1;have af:∀y∈ps.zip us,scope.names.lookup y.1=yz .local\/(scope.names.lookup y.1=yz .cell/\((Vb6 (s.heap.objs.size+1) scope.names []).lookup y.1).isSome=yx):=λ⟨n,v⟩ hy=>by
  rcases S.par n (List.of_mem_zip hy).1 with q|q;·exact .inl q
  ·exact .inr ⟨q,Vf7 _ _ _ (.inl q)⟩
 refine codeAny_call_function (by have:=hr.dp;omega) (KX _ _ lk) rfl S.co S.gen rfl (PySem.W.codeRec_of KX al) (hb _ _ _ _ ?_);refine wpAny_newFunctionEnv_cells S.kind af λenv he s1 x=>?_;subst he;refine⟨aq.keeps x.toInCall.keep,codeAny_func ?_⟩;have hD:=ae A outer s H E (hr.deeper _);have ak:Env0 P w K mg base { A with handled:=yy} outer s H:=⟨e0.frames,e0.mod,e0.bs,e0.bsz,e0.funs,e0.frf,e0.hok,e0.bare⟩;have I:Inv (cxC cm P w K mg base N qual scope f L A outer s H E) [] (start N vs) H s1:=by have B:Inv (Xqb (CXd P w) P w K mg base N qual scope f L { A with handled:=yy} outer s H E) [] (start N vs) H s1:=Xsc S rfl ak hl r x;exact⟨⟨B.ok.mod,B.ok.kind,B.ok.glob,B.ok.blt,B.ok.above,B.ok.inj,B.ok.has,B.ok.cab,(λz=>hr.hd z),B.ok.frames,B.ok.stk,B.ok.exf,B.ok.bs,B.ok.bsz,B.ok.noex,B.ok.exfs,B.ok.funs,B.ok.frf⟩,B.os,B.bare,B.base,B.loc,B.cell,B.free,B.freeC,B.pin,B.hok,B.len⟩
 have J:S0 (cxC cm P w K mg base N qual scope f L A outer s H E) [] (start N vs) H s1 ρ ag (ds.map yz++Vu (N.length-lf ps) yy):=by
  refine⟨I,sr,⟨?_,λi d e=>?_⟩⟩;·unfold L2.start;simp[rd.length,hl]
  ·by_cases hi:i<lf ds
   ·rw[V1 (by simpa using hi),Vx]at e;cases q:ds[i]? with
    |none=>rw[q]at e;cases e|some d'=>rw[q]at e;cases e;obtain⟨v,h1,h2⟩:=rd.get q;refine⟨v,?_,h2⟩;unfold L2.start;rw[V1 (by rw[Ve,<-rd.length];exact hi),Vx,h1];rfl
   rw[Vaq (by simpa using hi),Vdf]at e;split at e<;>cases e
 have am:G (ds.map yz++Vu (N.length-lf ps) yy) ag≠.bad:=λz=>nb (by rw[z]);refine Vo (hD [] s1 (start N vs) H ρ ag _ J am) (λfl s' hs=>?_) λe s' hs=>?_
 ·obtain⟨y,S1,e1,hs⟩:=hs;rw[e1]at nb hok;cases y with
  |nx e=>obtain⟨rfl,aj,H',ρ',U,aa,_⟩:=hs;exact⟨.non,H',U.inv.os,U.inv.bare,U.inv.base,U.inv.hok,rfl,hok .non S1 .non H' ρ' rfl (by simp only[RD]) U.sr aa⟩|rt d=>obtain⟨u,v,aj,H',ρ',rfl,U,rv,ap,ac,aa⟩:=hs;exact⟨v,H',U.os,U.bare,U.base,U.hok,rv,hok d S1 v H' ρ' rfl ap ac aa⟩|brk e=>cases nb rfl|cnt e=>cases nb rfl
 ·obtain⟨n,S1,aj,e1,_,H',ρ',a,c,U,rfl,hn,hc,ac,aa,fl⟩:=hs;rw[e1]at ab;obtain⟨C,_,ha⟩:=(show ∃C,Y9 K c=yz C/\H' a=yz (.ext (ExcO C a)) from ac.ob n a _ hn hc);exact Xz8 U rfl rfl rfl ha fl λh' un hok tr=>⟨H',U.os,U.bare,un,hok,⟨a,rfl,tr⟩,ab n c S1 a H' ρ' rfl hn hc ac aa⟩
end
section
variable{X:Cx}{pa:LA}{σ:L2.St}{H:Hp}{s:Vc}
theorem Xhe{P:V4}{w:Ua}:∀ {ks:LI} {us:LV},Vals (ks.map V.int) us->ItemsAre (Va8 P w) ks us
 |[],_,r=>by rw[Vd8]at r;cases r;exact .nil|k::ks,_,r=>by
  rw[Ux]at r;cases r with
  |cons h t=>obtain⟨B,rfl⟩:=h;exact .cons (by simp[Va8,Value.isInt]) (Xhe t)
theorem Xoz(I:Inv X pa σ H s)(h:SqT X.K H b (k.map V.int)):(tupleKind (Va8 X.prog X.w)).is s.heap k b:=by obtain⟨its,r,⟨o,e,c,n,dt⟩,_⟩:=I.tuple h;exact⟨o,its.toArray,n,e,c,dt,by simpa using Xhe r⟩
end
end Z
end
section
namespace Z
open PySem PySem.SetTable PySem.Spec PyProof.Rows
theorem Xsp{t:Uj}{es:Array (Int×Vb)}{f:Nat->Int}{h:Int}{p:Probe}{r:Option Met}{d:Nat}(T:Tb t)(U:∀i,f i=(es[i]?.map (·.1)).getD 0)(hp:p.dummy=yy)(hd:d<10*turns t.mask)(Y:(its t d p).j ∉ t.place.toList)(hl:∀k,k<d->(its t k p).j∈t.place.toList)(e:t.probe f h p=r):
  ((∀k,k<d->∀i,t.slot (its t k p).j=.live i->(es[i]?.map (·.1)).getD 0≠h)/\r=yz (.empty (its t d p).j yy)) \/
  ∃k i,k<d/\t.slot (its t k p).j=.live i/\(es[i]?.map (·.1)).getD 0=h/\(∀J,J<k->∀B,t.slot (its t J p).j=.live B->(es[B]?.map (·.1)).getD 0≠h)/\r=yz (.candidate (its t k p).j i (its t (k+1) p)):=by
 rcases Xqh T f h d (10*turns t.mask) p hp hd Y hl with⟨g1,g2⟩|⟨k,i,g1,g2,g3,g4,g5⟩;·exact .inl ⟨λk L i hi=>by rw[<-U];exact g1 k L i hi,e.symm.trans g2⟩
 ·exact .inr ⟨k,i,g1,g2,by rw[<-U];exact g3,λJ L B hi=>by rw[<-U];exact g4 J L B hi,e.symm.trans g5⟩
noncomputable abbrev Xx(prog:V4)(w:Ua):HeapKind prog w (LI):=tupleKind (Va8 prog w)
noncomputable def Xgn(p:LI×Addr):Int×Vb:=(reduceHash (Builtin.Tuple.tupleHashOf (p.1.map hashInt)),.ref p.2)
structure TabG(t:Uj)(es:Array (Int×Vb)):Prop extends Tab t es.size where
 own:Xqi t es
theorem TabG.odd{t:Uj}{es:Array (Int×Vb)}(T:TabG t es):t.gaveWay=false:=by unfold SetTable.gaveWay;rcases T.mg with e|e|e|e|e|e<;>rw[e]<;>rfl
section
variable{prog:V4}{w:Ua}{A:Uu}{E:VP}{s:Vc}
theorem Xz9(n:Nat){v:Vb}(h:carriedByValue v=yx):Vf4 n v=pure false:=by
 cases v with
 |ref a=>simp[carriedByValue]at h|_=>cases n<;>(unfold Vf4;rfl)
theorem Xsq{k:LI}{a:Addr}{Q:Bool->Vc->Prop}(L:(Xx prog w).is s.heap k a)(h:Q yw s):Vg (Vl prog w) A (Vf4 8 (.ref a)) Q E s:=by
 obtain⟨o,its,m,J,hc,hd,hi⟩:=L;unfold Vf4;refine Va (Vcc (T:="tuple") ⟨o,J,hc⟩ ?_);dsimp only;refine Va (Vd ?_);simp only[Ut,Vp,if_false];refine Va (Vcg J hd ?_);dsimp only;refine Va ?_;show Vg _ _ (forIn its _ _) _ _ s;rw[<-Array.forIn_toList];refine Vgj _ (λYj r s'=>r.1=yy/\s'=s/\∀v∈Yj,carriedByValue v=yx) _ ?_ ?_ _ _ ⟨rfl,rfl,hi.byValue⟩;·rintro v Yj r s' ⟨hr,rfl,hall⟩;rw[Xz9 _ (hall v Vz)];refine Va (Vd ?_);simp only[Vp,if_false];exact Vd ⟨rfl,rfl,λu B=>hall u (V5 _ B)⟩
 ·rintro ⟨r1,r2⟩ s' ⟨hr,rfl,_⟩;simp only at hr;subst hr;exact Vd h
theorem Xvo{ks:LI}{vs:LV}(h:ItemsAre (Va8 prog w) ks vs):∀v∈vs,∃i t,v=.int i t:=by
 induction h with
 |nil=>intro v B;simp at B|@cons k J ks vs h1 _ ih=>
  intro v B;rcases Vn.mp B with rfl|B;·obtain⟨t,q⟩:=Vf0 h1;exact⟨_,t,q⟩
  ·exact ih v B
theorem Xvp{k:LI}{a:Addr}{Q:Bool->Vc->Prop}(L:(Xx prog w).is s.heap k a)(h:Q yx s):Vg (Vl prog w) A (hashByValue 8 (.ref a)) Q E s:=by
 obtain⟨o,its,m,J,hc,hd,hi⟩:=L;unfold hashByValue;refine Va (wpAny_specialOf (T:="tuple") ⟨o,J,hc⟩ F.slot_tuple_hash.lookup ?_);dsimp only;refine Va (Vcg J hd ?_);refine Va ?_;show Vg _ _ (forIn its _ _) _ _ s;rw[<-Array.forIn_toList];refine Vgj _ (λYj r s'=>r.1=yy/\s'=s/\∀v∈Yj,∃i t,v=Veh i t) _ ?_ ?_ _ _ ⟨rfl,rfl,Xvo hi⟩;·rintro v Yj r s' ⟨hr,rfl,hall⟩;obtain⟨i,t,rfl⟩:=hall v Vz;rw[show hashByValue 7 (Veh i t)=pure yx by unfold hashByValue;rfl];refine Va (Vd ?_);simp only[Ut,Vp,if_false];exact Vd ⟨rfl,rfl,λu B=>hall u (V5 _ B)⟩
 ·rintro ⟨r1,r2⟩ s' ⟨hr,rfl,_⟩;simp only at hr;subst hr;exact Vd h
theorem X0a{k:LI}{a:Addr}(J:(Xx prog w).is s.heap k a){Q:Bool->Vc->Prop}(h:Q yw s)(ys:LV)(Y:∀y∈ys,∃B b,y=Ur b/\(Xx prog w).is s.heap B b):Vg (Vl prog w) A (searchCouldBeSeen (.ref a) ys) Q E s:=by
 unfold searchCouldBeSeen;refine Va ?_;refine Vgj _ (λYj r s'=>r.1=yy/\s'=s/\∀y∈Yj,∃B b,y=Ur b/\(Xx prog w).is s.heap B b) _ ?_ ?_ _ _ ⟨rfl,rfl,Y⟩
 ·rintro y Yj r s' ⟨hr,rfl,hall⟩;obtain⟨B,b,rfl,U⟩:=hall y Vz;have L:∀u∈Yj,∃B b,u=Ur b/\(Xx prog w).is s'.heap B b:=λu hu=>hall u (V5 _ hu);dsimp only;split;·exact Vd ⟨rfl,rfl,L⟩
  ·refine Va ((Xx prog w).quiet J ?_);simp only[Ut,Vp,if_false];refine Va ((Xx prog w).quiet U ?_);simp only[Ut,Vp,if_false];refine Va (Xsq J ?_);simp only[Vp,if_false];refine Va (Xsq U ?_);simp only[Vp,if_false];exact Vd ⟨rfl,rfl,L⟩
 rintro ⟨r1,r2⟩ s' ⟨hr,rfl,_⟩;simp only at hr;subst hr;exact Vd h
def Mem(prog:V4)(w:Ua)(h:Heap)(es:Array (Int×Vb))(ps:List (LI×Addr)):Prop:=es.toList=ps.map Xgn/\∀p∈ps,(Xx prog w).is h p.1 p.2
theorem Mem.get{h:Heap}{es:Array (Int×Vb)}{ps:List (LI×Addr)}(m:Mem prog w h es ps){i:Nat}{e:Int×Vb}(B:es[i]?=yz e):∃p,ps[i]?=yz p/\e=Xgn p/\(Xx prog w).is h p.1 p.2:=by
 rw[<-Uh,m.1,Vx]at B;cases hp:ps[i]? with
 |none=>rw[hp]at B;cases B|some p=>rw[hp]at B;exact⟨p,rfl,(Ud B).symm,m.2 p (V6 hp)⟩
theorem Xvq(t:Uj):t.sameMemory t.moves t.mask=yz true:=by unfold SetTable.sameMemory;simp
theorem X36{h:Heap}{t:Uj}{es:Array (Int×Vb)}{ps:List (LI×Addr)}(T:TabG t es)(m:Mem prog w h es ps){k:LI}(hk:k∈ps.map (·.1)){N:Nat}(he:pth t.mask ((Xx prog w).hash k) N ∉ t.place.toList):
  ∃n i p,n<N/\t.slot (pth t.mask ((Xx prog w).hash k) n)=.live i/\ps[i]?=yz p/\p.1=k:=by
 obtain⟨p,hp,rfl⟩:=V0.mp hk;obtain⟨i,hi⟩:=List.mem_iff_getElem?.mp hp;have e1:es[i]?=yz (Xgn p):=by rw[<-Uh,m.1,Vx,hi];rfl
 have B:i<t.place.size:=by rw[T.sz];exact(U3.mp e1).1
 have e2:t.place[i]?=yz t.place[i]:=Ue B;obtain⟨n,hn,hl⟩:=T.own _ _ _ (X3o e2 e1);have J:pth t.mask ((Xx prog w).hash p.1) n=t.place[i]:=hn;have mem:t.place[i]∈t.place.toList:=by simp
 refine⟨n,i,p,?_,?_,hi,rfl⟩
 ·rcases Vhl n N with c|c|c;·exact c
  ·subst c;exact aB0 (J▸mem) he
  exact aB0 (hl N c) he
 ·rw[J];obtain⟨U,s1,s2⟩:=Xek T.tb mem;have:U=i:=by
   obtain⟨L,Y⟩:=U3.mp s2;rcases Vhl U i with c|c|c;·have:=T.tb.ris.lt (a:=0) c B;simp[Vaj,L,B,Y]at this
   ·exact c
   have:=T.tb.ris.lt (a:=0) c L;simp[Vaj,L,B,Y]at this
  rw[s1,this]
theorem X8v{a:Addr}{o:Obj}{es:Array (Int×Vb)}{ep:Nat}{t:Uj}{ps:List (LI×Addr)}{x:Addr}{k:LI}{N:Nat}{Q:SetFound->Vc->Prop}(hu:A.units<Vcl)(ho:s.heap.get? a=yz o)(hd:o.data=.set es ep t)(T:TabG t es)(m:Mem prog w s.heap es ps)(hk:(Xx prog w).is s.heap k x)
  (hN:N<10*turns t.mask) (he:pth t.mask ((Xx prog w).hash k) N ∉ t.place.toList) (hl:∀i,i<N->pth t.mask ((Xx prog w).hash k) i∈t.place.toList)
  (h1:k∈ps.map (·.1)->Q (.there yy) s) (h2:k ∉ ps.map (·.1)->Q (.free (pth t.mask ((Xx prog w).hash k) N) yw) s):
  ∀(d c B:Nat) (J:Option Probe),c+d=N->d<B->J.getD (t.probeStart ((Xx prog w).hash k))=its t c (t.probeStart ((Xx prog w).hash k)) ->
   (∀n i p,n<c->t.slot (pth t.mask ((Xx prog w).hash k) n)=.live i->ps[i]?=yz p->p.1≠k) ->
   Vg (Vl prog w) A (setSearchFrom a (.ref x) ((Xx prog w).hash k) yx B J) Q E s:=by
 have pt:∀n,(its t n (t.probeStart ((Xx prog w).hash k))).j=pth t.mask ((Xx prog w).hash k) n:=λn=>by rw[Xlk];rfl
 have L:∀c n,(its t n (its t c (t.probeStart ((Xx prog w).hash k)))).j=pth t.mask ((Xx prog w).hash k) (c+n):=λc n=>by rw[<-Xcj];exact pt (c+n)
 intro d;induction d using Nat.strongRecOn with
 |_ d ih=>
  intro c B J hc hf hs no;obtain⟨B,rfl⟩:∃f,B=f+1:=⟨B-1,by omega⟩;unfold setSearchFrom;refine Va (Vaw ho hd (Xab T.toTab) ?_);dsimp only;rw[T.odd];simp only[Vp,if_false];rw[hs];have ac:=λr e=>Xsp (t:=t) (es:=es) (h:=(Xx prog w).hash k) (p:=its t c (t.probeStart ((Xx prog w).hash k))) (r:=r) (d:=d) T.tb (λ_=>rfl) (by rw[Xok];rfl) (by omega) (by rw[L,hc];exact he) (λn hn=>by rw[L];exact hl _ (by omega)) e;split
  ·rename_i met ag;rcases ac _ ag with⟨g1,g2⟩|⟨n,i,g1,g2,g3,g4,g5⟩
   ·cases g2;dsimp only;rw[L,hc];refine Vd (h2 λal=>?_);obtain⟨n,i,p,hn,ab,hp,af⟩:=X36 T m al he;by_cases cn:n<c;·exact no n i p cn ab hp af
    ·refine g1 (n-c) (by omega) i (by rw[L,show c+(n-c)=n by omega];exact ab) ?_;have:es[i]?=yz (Xgn p):=by rw[<-Uh,m.1,Vx,hp];rfl
     rw[this,<-af];rfl
   cases g5;have ak:i<es.size:=by obtain⟨_,z⟩:=Xek T.tb (hl (c+n) (by omega));rw[L]at g2;rw[g2]at z;have:=(U3.mp z.2).1;cases z.1;rw[<-T.sz];exact this
   have e1:es[i]?=yz es[i]:=Ue ak;obtain⟨p,hp,ah,aj⟩:=m.get e1;rw[ah]at e1;have Yj:Vg (Vl prog w) A (do
     let yz (_,y):=es[i]?|Ve7 "internal:set-entry"
     let equal <- Vd5 [y] (eqBool y (.ref x))
     let (es',_,t') <- setState a
     if yx&&equal then return .there yy
     let yz same:=t'.sameMemory t.moves t.mask|Ve7 "set.changed-during-lookup:is-the-new-block-at-the-old-address"
     let still <- match (if same then t'.slot (its t n (its t c (t.probeStart ((Xx prog w).hash k)))).j else .empty) with
      |.live Y=>match es'[Y]? with
       |some (_,y')=>do pure (if <- isSame y' y then yz Y else yy)|none=>pure yy
      |_=>pure yy
     match still with
     |none=>rule "set.search.anew";setSearchFrom a (.ref x) ((Xx prog w).hash k) yx B yy
     |some Y=>if equal then return .there (yz Y) else setSearchFrom a (.ref x) ((Xx prog w).hash k) yx B (yz (its t (n+1) (its t c (t.probeStart ((Xx prog w).hash k)))))) Q E s:=by
    rw[e1];refine Va (Uo ((Xx prog w).eqBool hu aj hk ?_));refine Va (Vaw ho hd (Xab T.toTab) ?_);dsimp only;by_cases ce:p.1=k;·simp only[Vbc,decide_eq_true ce,if_true];exact Vd (h1 (V0.mpr ⟨p,V6 hp,ce⟩))
    ·simp only[Vbc,decide_eq_false ce,Vp,if_false];rw[Xvq];simp only[if_true];rw[g2];dsimp only;rw[e1];dsimp only[Xgn];refine Va (wpAny_isSame_ref_self (Va (Vd ?_)));simp only[if_true];refine ih (d-(n+1)) (by omega) (c+(n+1)) B _ (by omega) (by omega) (by rw[Vcw,<-Xcj]) λn' Y p' an aa U=>?_;by_cases q1:n'<c;·exact no n' Y p' q1 aa U
     ·by_cases q2:n'=c+n;·subst q2;rw[L,aa]at g2;cases g2;rw[hp]at U;cases U;exact ce
      ·intro q3;refine g4 (n'-c) (by omega) Y (by rw[L,show c+(n'-c)=n' by omega];exact aa) ?_;have:es[Y]?=yz (Xgn p'):=by rw[<-Uh,m.1,Vx,U];rfl
       rw[this,<-q3];rfl
   dsimp only;cases am:t.led with
   |true=>simp only[Ut,Vp,if_false];exact Yj|false=>
    simp only[Va1,if_true];refine Va (X0a hk ?_ _ λy hy=>?_);·simp only[Vp,if_false];exact Yj
    ·obtain⟨e,ai,rfl⟩:=V0.mp hy;have:e∈es.toList:=by
      have:=(Array.mem_toList_iff.mp ai);exact Array.mem_toList_iff.mpr (Array.mem_filter.mp this).1
     rw[m.1]at this;obtain⟨p',U,rfl⟩:=V0.mp this;exact⟨p'.1,p'.2,rfl,m.2 p' U⟩
  rename_i ae;rcases ac _ rfl with⟨_,g2⟩|⟨n,i,g1,g2,g3,g4,g5⟩;·exact(ae _ g2).elim
  ·exact(ae _ g5).elim
end
theorem Xen{α β:Type}{f:α->β}{l m:List β}(h:l.Perm m):∀ps:List α,m=ps.map f->∃B:List α,B.Perm ps/\l=B.map f:=by
 induction h with
 |nil=>
  intro ps e;cases ps with
  |nil=>exact⟨[],Vau _,rfl⟩|cons _ _=>cases e
 |@cons x l m _ ih=>
  intro ps e;cases ps with
  |nil=>cases e|cons p ps=>injection e with e1 J;obtain⟨B,L,Y⟩:=ih ps J;exact⟨p::B,L.cons p,by rw[Ux,<-Y,e1]⟩
 |swap x y l=>
  intro ps e;rcases ps with _|⟨p,_|⟨q,ps⟩⟩;·cases e
  ·cases e
  injection e with e1 J;injection J with J e3;exact⟨q::p::ps,Vfs _ _ _,by simp[e1,J,e3]⟩|trans _ _ U aa=>intro ps e;obtain⟨p2,L,Y⟩:=aa ps e;obtain⟨p1,q3,q4⟩:=U p2 Y;exact⟨p1,q3.trans L,q4⟩
section
variable{prog:V4}{w:Ua}{A:Uu}{E:VP}{s:Vc}
def SetR(prog:V4)(w:Ua)(h:Heap)(a:Addr)(ld:Bool)(ps:List (LI×Addr)):Prop:=∃o es ep t,h.get? a=yz o/\o.ExactSet/\o.data=.set es ep t/\Mem prog w h es ps/\TabG t es/\t.led=ld
theorem Xvr{h h':Heap}{k:LI}{x a:Addr}{o:Obj}{es:Array (Int×Vb)}{ep:Nat}{t:Uj}(U:(Xx prog w).is h k x)(L:h.get? a=yz o)(hd:o.data=.set es ep t)(sb:Va0 a h h'):(Xx prog w).is h' k x:=by
 obtain⟨o',its,m,J,hc,B,hi⟩:=U;refine⟨o',its,m,?_,hc,B,hi⟩;rw[sb.2 x ?_];·exact J
 ·rintro rfl;rw[L]at J;cases J;rw[hd]at B;cases B
theorem Mem.keep{h h':Heap}{a:Addr}{o:Obj}{es B:Array (Int×Vb)}{ep:Nat}{t:Uj}{ps:List (LI×Addr)}(m:Mem prog w h B ps)(J:h.get? a=yz o)(hd:o.data=.set es ep t)(sb:Va0 a h h'):Mem prog w h' B ps:=
 ⟨m.1,λp hp=>Xvr (m.2 p hp) J hd sb⟩
theorem Mem.len{h:Heap}{es:Array (Int×Vb)}{ps:List (LI×Addr)}(m:Mem prog w h es ps):es.size=lf ps:=by rw[<-V7,m.1,Ve]
theorem reo{es:Array (Int×Vb)}{t:Uj}{B:Array Nat}{Q:Array (Int×Vb)×Uj->Vc->Prop}(J:(B.filterMap (es[·]?)).size=es.size)(h:Q (B.filterMap (es[·]?),t) s):
  Vg (Vl prog w) A (do
   let yz (t,B):=yz (t,B)|Ve7 "internal:set-table-without-room"
   let es':=B.filterMap (es[·]?)
   if es'.size != es.size then Ve7 "internal:set-table-lost-an-element"
   pure (es',t)) Q E s:=by
 dsimp only;rw[J,bne_self_eq_false];simp only[Vp,if_false];exact Vd h
theorem X0b{a:Addr}{ld:Bool}{ps:List (LI×Addr)}{k:LI}{x:Addr}{Q:Bool->Vc->Prop}(hu:A.units<Vcl)(S:SetR prog w s.heap a ld ps)(hk:(Xx prog w).is s.heap k x)(hn:(lf ps)<1200)
  (h:∀h' ag,Va0 a s.heap h'->SetR prog w h' a ld ag->(k∈ps.map (·.1)/\ag=ps)\/(k ∉ ps.map (·.1)/\ag.Perm (ps++[(k,x)]))->Q (decide (k ∉ ps.map (·.1))) {s with heap:=h',toks:=s.toks+(lf k+1)}):
  Vg (Vl prog w) A (setAdd a (.ref x)) Q E s:=by
 obtain⟨o,es,ep,t,ho,ab,hd,m,T,hl⟩:=S;have ln:=m.len;unfold setAdd setAddHashed setAddHashedIn;refine Uo (Va ((Xx prog w).pyHash hu hk (Uo (Va (Vaw (s:={s with toks:=s.toks+(lf k+1)}) ho hd (Xab T.toTab) ?_)))));dsimp only;rw[show byScan (Ur x) es=yw from rfl];simp only[Vp,if_false];obtain⟨N,n1,n2,n3⟩:=Xol T.tb T.mg.cy (by rw[T.sz];have:=T.room;omega) ((Xx prog w).hash k);unfold setSearch;refine Va (X8v (s:={s with toks:=s.toks+(lf k+1)}) hu ho hd T m hk n1 n2 n3 ?_ ?_ N 0 100000 yy (by omega) ?_ rfl (λn _ _ ar=>aB0 ar (Vcn _)));·intro U;have:=h s.heap ps (Vf1 a s.heap) ⟨o,es,ep,t,ho,ab,hd,m,T,hl⟩ (.inl ⟨U,rfl⟩);rw[decide_eq_false (λz=>z U)]at this;exact Vd this
 ·intro U;dsimp only;refine Va (Vaw (s:={s with toks:=s.toks+(lf k+1)}) ho hd (Xab T.toTab) ?_);dsimp only;obtain⟨p1,p2,p3,p4,p5,p6⟩:=Xsh T.tb ((Xcq T.tb _).mpr n2);have own:=Xzz (x:=Ur x) T.tb T.sz T.own n3;have ah:(t.put (pth t.mask ((Xx prog w).hash k) N)).1.moves=t.moves:=rfl;rw[T.sz]at p2 p6;have il:=Xa7 es (t.put (pth t.mask ((Xx prog w).hash k) N)).2 ((Xx prog w).hash k,Ur x) p6;generalize t.put (pth t.mask ((Xx prog w).hash k) N)=pj at p1 p2 p3 p4 p5 p6 own il ah;obtain⟨L,q⟩:=pj;dsimp only at p1 p2 p3 p4 p5 p6 own il ah ⊢;generalize au:insertAt es q ((Xx prog w).hash k,Ur x)=B at own il ⊢;have z1:B.size=es.size+1:=by
   rw[<-V7,il];simp;omega
  rw[p4,T.pl];simp only[if_true];refine Va (Xvp (s:={s with toks:=s.toks+(lf k+1)}) hk ?_);simp only[if_true];have aa:B.size<=V8:=by rw[z1,Va4];omega
  refine Va (Vf2 (s:={s with toks:=s.toks+(lf k+1)}) ho hd ?_ aa);have af:=Vdh s.heap a (Vdo B L);have g1:(s.heap.update a (Vdo B L)).get? a=yz {o with data:=.set B (ep+1) L}:=by have:=Vcz (Vdo B L) ho (by rw[putSet_of B L hd];rfl);rw[putSet_of B L hd]at this;exact this
  have pm:B.toList.Perm ((ps++[(k,x)]).map Xgn):=by
   rw[il,Vae,<-m.1];have:(es.toList.take q++es.toList.drop q++[((Xx prog w).hash k,Ur x)]).Perm (es.toList++[((Xx prog w).hash k,Ur x)]):=by rw[Vbx]
   refine List.Perm.trans ?_ this;rw[Vh];exact List.Perm.append_left _ (List.perm_append_comm (l₁:=[_]))
  obtain⟨ai,ac,ak⟩:=Xen pm _ rfl;have m1:Mem prog w s.heap B ai:=⟨ak,λp hp=>by
   rcases Uq.mp (ac.mem_iff.mp hp) with c|c;·exact m.2 p c
   ·rw[V9]at c;subst c;exact hk⟩
  have an:=m1.keep ho hd af;by_cases c:(es.size+1)*5<t.mask*3
  ·have tf:L.tooFull=false:=by unfold Vgg;rw[Xax p1,p2,p3];exact decide_eq_false (by omega)
   rw[tf];simp only[Vcf,Vp,if_false];have T1:TabG L B:=⟨⟨p1,by rw[p4];exact T.pl,by rw[p2,z1],by rw[p3];exact T.mg,by rw[z1,p3];exact c,by omega⟩,own⟩;have:=h _ ai af ⟨_,B,ep+1,L,g1,ab,rfl,an,T1,p5.trans hl⟩ (.inr ⟨U,ac⟩);rw[decide_eq_true U]at this;exact Vd this
  have tf:L.tooFull=true:=by unfold Vgg;rw[Xax p1,p2,p3];exact decide_eq_true (by omega)
  rw[tf];simp only[Va1,Vcd,if_true];obtain⟨u1,u2,u3⟩:=Xoo T.mg T.room (by omega) c;unfold setRelay;have ap:L.fits B.size=true:=by
   have r:=T.room;have le:es.size+1<=t.mask:=by rcases T.mg with e|e|e|e|e|e<;>rw[e]at r ⊢ <;> omega
   unfold Vgc;rw[Xax p1,p2,z1,p3];simpa using le
  refine Va (Va (Vaw g1 rfl ap ?_));dsimp only;rw[iN0 (by rw[Va4];omega)];obtain⟨t2,Y,e,T2,h1,h2,h3,av,h4,h5,h6,h7,_⟩:=Xyr (f:=L.finger) (v:=L.movedTo (sizeAbove (grown (es.size+1))-1)) (led:=L.led) (pl:=L.plain) u1.cy B (by rw[z1];omega);have rl:L.relaid (B.map (·.1)) (grown (es.size+1))=yz (t2,Y):=e;rw[rl];refine Va (reo h5 ?_);dsimp only;generalize Y.filterMap (B[·]?)=J at h5 h6 h7 ⊢;have ae:J.size<=V8:=by rw[h5];exact aa
  refine Vf2 g1 rfl ?_ ae;have g2:((s.heap.update a (Vdo B L)).update a (Vdo J t2)).get? a=yz {o with data:=.set J (ep+2) t2}:=by have:=Vcz (Vdo J t2) g1 (by rw[putSet_of J t2 rfl];rfl);rw[putSet_of J t2 rfl]at this;exact this
  have al:=Vdh (s.heap.update a (Vdo B L)) a (Vdo J t2);obtain⟨aj,am,aq⟩:=Xen h6 _ ak;have m2:Mem prog w (s.heap.update a (Vdo B L)) J aj:=⟨aq,λp hp=>an.2 p (am.mem_iff.mp hp)⟩;have ao:=m2.keep g1 rfl al;have TT:TabG t2 J:=⟨⟨T2,by rw[h2,p4];exact T.pl,by rw[h4,h5],by rw[h1];exact u1,by rw[h5,z1,h1];exact u2,by omega⟩,h7⟩;have:=h _ aj (af.trans al) ⟨_,J,ep+2,t2,g2,ab,rfl,ao,TT,by rw[h3,p5];exact hl⟩ (.inr ⟨U,am.trans ac⟩);rw[decide_eq_true U]at this;exact Vd this
 ·have:=T.mg.le;rw[show turns t.mask=t.mask+15 from rfl]at n1;omega
end
end Z
end
section
namespace Z
open PySem PySem.Spec PyProof.Rows L2
theorem Xo0{pa:LA}{t':Nat}{fp:LR}(I:Inv X pa σ H s)(B:∀b∈fp,Xa6 X pa H b)
  (k:∀b o,b ∉ fp->s.heap.get? b=yz o->h'.get? b=yz o):Inv X pa σ H {s with heap:=h',toks:=t' }:=by
 have J:∀b u,H b=yz u->b ∉ fp:=λb u e z=>by rw[(B b z).1]at e;cases e
 refine I.step (g':=s.gens) (d':=s.drawn) (ch:=fp) (λb L=>⟨(B b L).2.2.2.1,(B b L).2.1,(B b L).2.2.2.2.1,(B b L).2.2.2.2.2⟩)
  (λb o _ _ hc e _=>k b o hc e) (λb o _ _ hc e _=>⟨o.slots,k b o hc e⟩) (λ_ _ _ _ n=>n)
  (λb o hc e=>⟨o,k b o hc e⟩) (λ_ _ e=>e) (λ_ _ _ e=>e) (λb ps e=>⟨#[],by rw[e];simp⟩) (λm Y=>?_) (λb u e=>?_) I.bare
 ·obtain⟨o,es,ep,U,r⟩:=Y;exact⟨o,es,ep,k _ o (λz=>(B _ z).2.1 rfl) U,r⟩
 ·refine(I.hok b u e).stay (λc v hc q=>k c v ?_ q) (λ_ q=>q) λ_ _ q=>q;rcases hc with z|z;·rw[z];exact J b u e
  ·exact J c _ z
def SqK(k:Bool)(h:Heap)(a:Addr)(xs:AV):Prop:=match k with
 |true=>h.IsList a xs|false=>h.IsTuple a xs
def ItK(k:Bool)(h:Heap)(i a:Addr)(n:Nat):Prop:=match k with
 |true=>h.IsListIter i a n|false=>h.IsTupleIter i a n
def SqH(k:Bool)(K:Vj)(H:Hp)(a:Addr)(vs:LW):Prop:=match k with
 |true=>SqL K H a vs|false=>SqT K H a vs
section
variable{k:Bool}{h h':Heap}{a i:Addr}{n:Nat}{xs:AV}
theorem SqK.at(x:SqK k h a xs)(e:∀o,h.get? a=yz o->h'.get? a=yz o):SqK k h' a xs:=by cases k<;>(obtain⟨o,B,r⟩:=x;exact⟨o,e _ B,r⟩)
theorem ItK.at(x:ItK k h i a n)(e:∀o,h.get? i=yz o->h'.get? i=yz o):ItK k h' i a n:=by cases k<;>(obtain⟨o,B,r⟩:=x;exact⟨o,e _ B,r⟩)
theorem SqK.obj(x:SqK k h a xs):∃o,h.get? a=yz o/\(o.cls=.type "list" \/ o.cls=.type "tuple"):=by
 cases k;·obtain⟨o,e,c,_⟩:=x;exact⟨o,e,.inr c⟩
 ·obtain⟨o,e,c,_⟩:=x;exact⟨o,e,.inl c⟩
theorem ItK.obj(x:ItK k h i a n):∃o,h.get? i=yz o/\(o.cls=.type "list_iterator" \/ o.cls=.type "tuple_iterator")/\∀v,o.data≠.cell v:=by
 cases k;·obtain⟨o,e,c,d⟩:=x;exact⟨o,e,.inr c,λv z=>by rw[d]at z;cases z⟩
 ·obtain⟨o,e,c,d⟩:=x;exact⟨o,e,.inl c,λv z=>by rw[d]at z;cases z⟩
end
theorem Xgo(I:Inv X pa σ H s)(h:SqH k X.K H a vs):∃its:LV,Vals vs its/\SqK k s.heap a its.toArray:=by
 cases k;·obtain⟨its,B,p,_⟩:=I.tuple h;exact⟨its,B,show s.heap.IsTuple a its.toArray from p⟩
 ·obtain⟨its,B,p,_⟩:=I.list h;exact⟨its,B,p.isList⟩
theorem Xlz(I:Inv X pa σ H s)(h:SqH k X.K H a vs)(h':SqH k X.K H a us):vs=us:=by
 cases k;·exact I.tuple_inj h h'
 ·exact I.list_inj h h'
section
variable{prog:V4}{w:Ua}{A:Uu}{E:VP}{s:Vc}
theorem Xvs(B:s.heap.IsTupleIter it t i)(ht:s.heap.IsTuple t items)(hx:items[i]?=yz x)
  (Y:∀h',h'.IsTupleIter it t (i+1)->Va0 it s.heap h'->Q x {s with heap:=h' }):Vg (Vl prog w) A (Up (.ref it)) Q E s:=by
 obtain⟨o,J,hc,hd⟩:=id B;obtain⟨ol,U,_,nl,L⟩:=ht;unfold Up;refine Va (Va6 (name:=Vao "__next__") B.typeIs Vdv (U0 Vdv B.typeIs Vhd ?_ (Vg4 _)));show Vg _ _ (field (.ref it) 0 >>= _) _ _ s;refine Va (Vam J hd (x:=.ref t) rfl ?_);show Vg _ _ (if (Ur t==Van)=yx then _ else _) _ _ s;rw[iN0 (show ¬ ((Ur t==Van)=yx) from Us)];show Vg _ _ (field (.ref it) 1 >>= _) _ _ s;refine Va (Vam J hd (x:=.int i 0) rfl ?_);show Vg _ _ (seqItems? (.ref t) >>= _) _ _ s;refine Va (Vcg U L ?_);simp only[Vbu,hx];refine Va (wpAny_setField J hd (by simp) (Vd ⟨x,rfl,Vd (Y _ ⟨_,Vcz _ J (Obj.isFreed_of_fields (Obj.data_mapFields hd _)),(Obj.cls_mapFields ..).trans hc,by rw[Obj.data_mapFields hd];simp[Vab]⟩ (Vdh ..))⟩))
theorem X0c(Y:A.handled=yy)(B:s.heap.IsTupleIter it t i)(ht:s.heap.IsTuple t items)(hx:items[i]?=yy)
  (hE:∀h' e,Heap.ExtBut it s.heap h'->(∃o,h'.get? e=yz o/\o.cls=.type "StopIteration")->E (.ref e) {s with heap:=h' }):Vg (Vl prog w) A (Up (.ref it)) Q E s:=by
 obtain⟨o,J,hc,hd⟩:=id B;obtain⟨ol,U,_,nl,L⟩:=ht;unfold Up;refine Va (Va6 (name:=Vao "__next__") B.typeIs Vdv (U0 Vdv B.typeIs Vhd ?_ (Vg4 _)));show Vg _ _ (field (.ref it) 0 >>= _) _ _ s;refine Va (Vam J hd (x:=.ref t) rfl ?_);show Vg _ _ (if (Ur t==Van)=yx then _ else _) _ _ s;rw[iN0 (show ¬ ((Ur t==Van)=yx) from Us)];show Vg _ _ (field (.ref it) 1 >>= _) _ _ s;refine Va (Vam J hd (x:=.int i 0) rfl ?_);show Vg _ _ (seqItems? (.ref t) >>= _) _ _ s;refine Va (Vcg U L ?_);simp only[Vbu,hx];refine Va (Vd0 (Va (wpAny_setField J hd (by simp) ?_)));show Vg _ _ (newExc (.type "StopIteration") [] >>= _) _ _ _;refine Va ?_;simp only[newExc,newTuple];refine Va (U8 ?_ (by size_fits));refine Va (m:=Vg3 _ _) (Vga (a:=Van) (by first|rfl|(simp only[Vg3];rfl)) ?_);refine U8 ?_ (by size_fits);simp only[raiseNew];refine Va (wpAny_handled ?_)
 first|rw[show A.in1.handled=yy from Y]|rw[Y]
 exact Va (Vd (wpAny_throw (hE _ _ (((Vdh ..).extBut.push _).push _) ⟨_,Vt _ rfl,rfl⟩)))
theorem nxK(B:ItK k s.heap it t i)(L:SqK k s.heap t items)(U:items[i]?=yz x)
  (J:∀h',ItK k h' it t (i+1)->Va0 it s.heap h'->Q x {s with heap:=h' }):Vg (Vl prog w) A (Up (.ref it)) Q E s:=by
 cases k;·exact Xvs B L U J
 ·exact wpAny_nextOf_list_item B L U J
theorem Xql(L:A.handled=yy)(B:ItK k s.heap it t i)(J:SqK k s.heap t items)(Y:items[i]?=yy)
  (U:∀h' e,Heap.ExtBut it s.heap h'->(∃o,h'.get? e=yz o/\o.cls=.type "StopIteration")->E (.ref e) {s with heap:=h' }):Vg (Vl prog w) A (Up (.ref it)) Q E s:=by
 cases k;·exact X0c L B J Y U
 ·exact wpAny_nextOf_list_end L B J Y U
noncomputable def Xl0(k:Bool):String:=match k with
 |true => "list_iterator"|false => "tuple_iterator"
theorem Xyv(h:SqK k s.heap a xs)(B:Q (.ref s.heap.objs.size) {s with heap:=s.heap.push {cls:=.type (Xl0 k),data:=.fields #[.ref a,.int 0 0]} }):
  Vg (Vl prog w) A (pyIter (.ref a)) Q E s:=by
 cases k;·exact Vfl h B
 ·exact Vf5 h B
theorem Xo1(e:h.get? i=yz {cls:=.type (Xl0 k),data:=.fields #[.ref a,.int 0 0]}):ItK k h i a 0:=by cases k<;>exact⟨_,e,rfl,rfl⟩
end
structure ZAp(z I O i j a b:Addr):Prop where
 Iz:I≠z
 Oz:O≠z
 iz:i≠z
 jz:j≠z
 IO:I≠O
 Ii:I≠i
 Ij:I≠j
 Oi:O≠i
 Oj:O≠j
 ij:i≠j
 a_:a≠z/\a≠O/\a≠i/\a≠j
 b_:b≠z/\b≠O/\b≠i/\b≠j
abbrev IsZ(h:Heap)(z I O:Addr)(f0 f1:Vb):Prop :=
 h.get? z=yz {cls:=.type "zip",dict:=yy,data:=.fields #[f0,f1,.bool yw,.ref I,.ref O],slots:=#[]}
structure ZSa(k1 k2:Bool)(z I O i j a b:Addr)(n m:Nat)(h:Heap):Prop where
 zo:∃f0 f1,IsZ h z I O f0 f1/\(f0=.none\/∃T:Nat,f0=Vab T)
 io:IsPair h I (.ref i) (.ref j)
 oo:∃x y,IsPair h O x y
 i1:ItK k1 h i a n
 i2:ItK k2 h j b m
section
variable(k1 k2:Bool)(h:Heap)(a b:Addr)
noncomputable abbrev zp1:Heap:=h.push {cls:=.type (Xl0 k1),data:=.fields #[.ref a,.int 0 0]}
noncomputable abbrev zp2:Heap:=(zp1 k1 h a).push {cls:=.type (Xl0 k2),data:=.fields #[.ref b,.int 0 0]}
noncomputable abbrev zp3:Heap:=(zp2 k1 k2 h a b).push {cls:=.type "tuple",data:=.seq #[.ref h.objs.size,.ref (zp1 k1 h a).objs.size]}
noncomputable abbrev zp4:Heap:=(zp3 k1 k2 h a b).push {cls:=.type "tuple",data:=.seq #[.none,.none]}
noncomputable abbrev zp5:Heap:=(zp4 k1 k2 h a b).push {cls:=.type "zip",data:=.fields #[.none,.bool yw,.bool yw,.ref (zp2 k1 k2 h a b).objs.size,.ref (zp3 k1 k2 h a b).objs.size]}
end
theorem Xsr(k1 k2:Bool)(a b:Addr)(xs ys:AV):Meets (Vcb.«zip.__new__» ⟨[.type "zip",.ref a,.ref b],[]⟩) (λ_ R s=>SqK k1 s.heap a xs/\SqK k2 s.heap b ys/\R (.ok (.ret (.ref (zp4 k1 k2 s.heap a b).objs.size))) {s with heap:=zp5 k1 k2 s.heap a b}):=
 .of_wp λprog w A R s h=>by obtain⟨hp,g,d,tk,os⟩:=s;obtain⟨h1,h2,h⟩:=h;have B:=sub_zip;have J:SqK k1 (Shared.heap ⟨hp,g,d,tk,os⟩) a xs:=h1;have L2:SqK k2 (Shared.heap ⟨hp.push {cls:=.type (Xl0 k1),data:=.fields #[.ref a,.int 0 0]},g,d,tk,os⟩) b ys:=h2.at λo e=>Vf _ e;wp_walk using Xyv J,Xyv L2;exact⟨_,rfl,h⟩
theorem Xvt(h1:SqK k1 s.heap a xs)(h2:SqK k2 s.heap b ys)
  (h:∀h',ZSa k1 k2 (s.heap.objs.size+4) (s.heap.objs.size+2) (s.heap.objs.size+3) s.heap.objs.size (s.heap.objs.size+1) a b 0 0 h'->(∀c o,s.heap.get? c=yz o->h'.get? c=yz o)->Q (.ref (s.heap.objs.size+4)) {s with heap:=h' }):
  Vg (Vl prog w) A (call (.type "zip") [.ref a,.ref b]) Q E s:=by
 refine callType_new F.called_zip (by decide) (F.typeCall_zip_2 _ _) (F.newCall_zip_2 _ _) (λobj=>F.args_object_init_3 obj _ _) F.entry_zip_new (Xsr k1 k2 a b xs ys) ⟨h1,h2,?_⟩;have B:(zp1 k1 s.heap a).objs.size=s.heap.objs.size+1:=Val ..;have U:(zp2 k1 k2 s.heap a b).objs.size=s.heap.objs.size+2:=by rw[Val,B]
 have J:(zp3 k1 k2 s.heap a b).objs.size=s.heap.objs.size+3:=by rw[Val,U]
 have z4:(zp4 k1 k2 s.heap a b).objs.size=s.heap.objs.size+4:=by rw[Val,J]
 have L:(zp5 k1 k2 s.heap a b).get? (zp4 k1 k2 s.heap a b).objs.size=yz _:=Vt _ rfl;have g4:(zp5 k1 k2 s.heap a b).get? (zp3 k1 k2 s.heap a b).objs.size=yz _:=Vf _ (Vt _ rfl);have Y:(zp5 k1 k2 s.heap a b).get? (zp2 k1 k2 s.heap a b).objs.size=yz _:=Vf _ (Vf _ (Vt _ rfl));have g2:(zp5 k1 k2 s.heap a b).get? (zp1 k1 s.heap a).objs.size=yz _:=Vf _ (Vf _ (Vf _ (Vt _ rfl)));have g1:(zp5 k1 k2 s.heap a b).get? s.heap.objs.size=yz _:=Vf _ (Vf _ (Vf _ (Vf _ (Vt _ rfl))));show _/\_;rw[U,J,z4]at L;rw[B,U]at Y;rw[J]at g4;rw[B]at g2;rw[z4];exact⟨⟨_,L,rfl⟩,h _ ⟨⟨_,_,L,.inl rfl⟩,Y,⟨_,_,g4⟩,Xo1 g1,Xo1 g2⟩ λc o q=>Vf _ (Vf _ (Vf _ (Vf _ (Vf _ q))))⟩
noncomputable def Itz(K:Vj)(k1 k2:Bool)(a b:Addr):L2.It:=
 ⟨λn H=>∃xs x ys y,SqH k1 K H a xs/\xs[n]?=yz x/\SqH k2 K H b ys/\ys[n]?=yz y,
   λn H v H'=>∃T x y,v=.ref T/\H T=yy/\H'=upd H T (.tup [x,y])/\(∀xs,SqH k1 K H a xs->xs[n]?=yz x)/\∀ys,SqH k2 K H b ys->ys[n]?=yz y,
   λn H=>∃xs ys,SqH k1 K H a xs/\SqH k2 K H b ys/\(lf xs<=n\/lf ys<=n)⟩
theorem Xvu{h:Heap}{o u:Obj}{c:Addr}(e:(h.push o).get? c=yz u)(hc:c≠h.objs.size):h.get? c=yz u:=by rw[Heap.get?_push_ne h c o hc]at e;exact e
section
variable{prog:V4}{w:Ua}{A:Uu}{E:VP}{s:Vc}{k1 k2:Bool}{z I O i j a b:Addr}{f0 f1:Vb}{n:Nat}{xs ys:AV}{x y:Vb}
theorem Xss(h:Q (s.heap.get? a) s):Vg M A (loadIfAlive a) Q E s:=λ_ _ _=>h
theorem Xl1(B:IsZ s.heap z I O f0 f1)(J:f0=.none\/∃T:Nat,f0=Vab T)(h1:Q' yx s)(h2:∀h' (T:Nat),IsZ h' z I O (Vab T) (.bool yx)->Va0 z s.heap h'->Q' yw {s with heap:=h' }):Vg (Vl prog w) A (Vch (.ref z)) Q' E s:=by
 unfold Vch;rcases J with rfl|⟨T,rfl⟩;·exact Va (Vam B rfl (x:=.none) rfl (Vd h1))
 ·refine Va (Vam B rfl (x:=Vab T) rfl ?_);show Vg _ _ (loadIfAlive (Vfj (T:Int)) >>= _) _ _ _;refine Va (Xss ?_);cases s.heap.get? (Vfj (T:Int)) with
  |none=>simp only[Option.isNone_none,if_true];exact Vd h1|some o=>
   simp only[Option.isNone_some,Vp,if_false];refine Va (Vam B rfl (x:=f1) rfl ?_);split;·exact Va (Vba B (by simp) λU L Y=>Vd (h2 U T L Y))
   ·rename_i J;have:f1=.bool true:=by simpa using J
    subst this;exact Vd (h2 s.heap T B (Vf1 ..))
theorem X0d{Q:VP}(D:ZAp z I O i j a b)(st:ZSa k1 k2 z I O i j a b n n s.heap)(ha:SqK k1 s.heap a xs)(hb:SqK k2 s.heap b ys)(hx:xs[n]?=yz x)(hy:ys[n]?=yz y)
  (hQ:∀h',h'.objs.size=s.heap.objs.size+1->ZSa k1 k2 z I O i j a b (n+1) (n+1) h'->IsPair h' s.heap.objs.size x y->(∀c o,c≠z->c≠O->c≠i->c≠j->s.heap.get? c=yz o->h'.get? c=yz o)->Q (.ref s.heap.objs.size) {s with heap:=h' }):
  Vg (Vl prog w) A (Vcb.«zip.__next__» ⟨[.ref z],[]⟩) (λfin s'=>∃v,fin=.done (.ret v)/\Q v s') E s:=by
 obtain⟨⟨f0,f1,hz,hf⟩,hI,⟨a0,b0,hO⟩,h1,h2⟩:=st;show Vg _ _ (field (.ref z) 2 >>= _) _ _ _;refine Va (Vam hz rfl (x:=.bool yw) rfl ?_);show Vg _ _ (field (.ref z) 3 >>= _) _ _ _;refine Va (Vam hz rfl (x:=.ref I) rfl (Va (Vcg hI rfl ?_)));show Vg _ _ (Vch (.ref z) >>= _) _ _ _;refine Va (Xl1 hz hf ?_ λg1 T z1 c1=>?_)
 ·simp only[if_true];refine Va (Vd0 (Va (Vam hz rfl (x:=.ref O) rfl (Va (Vba hz (by simp) λg1 z1 c1=>?_)))));replace z1:IsZ g1 z I O .ellipsis f1:=z1;refine Va ?_;simp only[List.zipIdx_cons,List.zipIdx_nil,Vc6,Vfu];refine Va (Va (wpAny_onRaise ?_));show Vg _ _ (Up (.ref i) >>= _) _ _ _;refine Va (nxK (h1.at λo e=>c1.extBut _ _ D.iz e) (ha.at λo e=>c1.extBut _ _ D.a_.1 e) hx λg2 i2 c2=>Vd ?_);have o2:IsPair g2 O a0 b0:=c2.extBut _ _ D.Oi (c1.extBut _ _ D.Oz hO);refine Va (Vcg o2 rfl (Va (Vgr o2 λg3 o3 c3=>?_)));replace o3:IsPair g3 O x b0:=o3;refine Va (wpAny_letGo (Vd (Va (Va (wpAny_onRaise ?_)))));show Vg _ _ (Up (.ref j) >>= _) _ _ _;have u3:∀c o,c≠z->c≠O->c≠i->s.heap.get? c=yz o->g3.get? c=yz o:=λc o B e2 U e=>c3.extBut _ _ e2 (c2.extBut _ _ U (c1.extBut _ _ B e));refine Va (nxK (h2.at λo e=>u3 j o D.jz D.Oj.symm D.ij.symm e) (hb.at λo e=>u3 b o D.b_.1 D.b_.2.1 D.b_.2.2.1 e) hy λY j4 L=>Vd ?_);have o4:IsPair Y O x b0:=L.extBut _ _ D.Oj o3;refine Va (Vcg o4 rfl (Va (Vgr o4 λJ o5 c5=>?_)));replace o5:IsPair J O x y:=o5;refine Va (wpAny_letGo (Vd (Vd (Va (Vcg o5 rfl (Va (wpAny_newTuple ?_)))))));have sz:J.objs.size=s.heap.objs.size:=by rw[c5.1,L.1,c3.1,c2.1,c1.1]
  have z5:IsZ J z I O .ellipsis f1:=c5.extBut _ _ D.Oz.symm (L.extBut _ _ D.jz.symm (c3.extBut _ _ D.Oz.symm (c2.extBut _ _ D.iz.symm z1)));have u5:∀c o,c≠z->c≠O->c≠i->c≠j->s.heap.get? c=yz o->J.get? c=yz o:=λc o B e2 U e4 e=>c5.extBut _ _ e2 (L.extBut _ _ e4 (u3 c o B e2 U e));have i5:ItK k1 J i a (n+1):=i2.at λo e=>c5.extBut _ _ D.Oi.symm (L.extBut _ _ D.ij (c3.extBut _ _ D.Oi.symm e));have j5:ItK k2 J j b (n+1):=j4.at λo e=>c5.extBut _ _ D.Oj.symm e;have aa:z<J.objs.size:=Vw z5;show Vg _ _ (Vfm (.ref z) (.ref J.objs.size) >>= _) _ _ _;refine Va ?_;unfold Vfm;refine Va (Vba (Vf _ z5:IsZ (J.push {cls:=.type "tuple",data:=.seq #[x,y]}) z I O .ellipsis f1) (by simp) λg7 z7 c7=>?_);replace z7:IsZ g7 z I O (Vab J.objs.size) f1:=z7;refine Vba z7 (by simp) λg8 z8 c8=>?_;replace z8:IsZ g8 z I O (Vab J.objs.size) (.bool yw):=z8;have up:∀c o,c≠z->J.get? c=yz o->g8.get? c=yz o:=λc o B e=>c8.extBut _ _ B (c7.extBut _ _ B (Vf _ e));have t8:IsPair g8 J.objs.size x y:=c8.extBut _ _ (Vc3 aa) (c7.extBut _ _ (Vc3 aa) (Vt _ rfl));rw[sz]at z8 t8;refine Vd ⟨_,rfl,?_⟩;show Q (.ref J.objs.size) _;rw[sz];exact hQ g8 (by rw[c8.1,c7.1,Val,sz]) ⟨⟨_,_,z8,.inr ⟨_,rfl⟩⟩,up _ _ D.Iz (u5 _ _ D.Iz D.IO D.Ii D.Ij hI),⟨_,_,up _ _ D.Oz o5⟩,i5.at λo e=>up _ o D.iz e,j5.at λo e=>up _ o D.jz e⟩ t8 λc o B e2 U e4 e=>up c o B (u5 c o B e2 U e4 e)
 ·replace c1:Va0 z s.heap g1:=c1;simp only[Vp,if_false];rw[show(#[Ur i,Ur j]:AV)=[Ur i,Ur j].toArray from rfl];refine Va ?_;simp only[List.forIn_toArray,Vc6,Vfu];refine Va (Va (Uo ?_));show Vg _ _ (Up (.ref i) >>= _) _ _ _;refine Va (nxK (h1.at λo e=>c1.extBut _ _ D.iz e) (ha.at λo e=>c1.extBut _ _ D.a_.1 e) hx λg2 i2 c2=>Vd ?_);replace c2:Va0 i g1 g2:=c2;refine Vd ?_;dsimp only;refine Va (Va (Uo ?_));show Vg _ _ (Up (.ref j) >>= _) _ _ _;have u2:∀c o,c≠z->c≠i->s.heap.get? c=yz o->g2.get? c=yz o:=λc o B U e=>c2.extBut _ _ U (c1.extBut _ _ B e);refine Va (nxK (h2.at λo e=>u2 j o D.jz D.ij.symm e) (hb.at λo e=>u2 b o D.b_.1 D.b_.2.2.1 e) hy λY j4 L=>Vd ?_);replace L:Va0 j g2 Y:=L;refine Vd ?_;dsimp only;refine Vd ?_;dsimp only;show Vg _ _ (newTuple [x,y] >>= _) _ _ _;refine Va (wpAny_newTuple ?_);have sz:Y.objs.size=s.heap.objs.size:=by rw[L.1,c2.1,c1.1]
  have z4:IsZ Y z I O (Vab T) (.bool yx):=L.extBut _ _ D.jz.symm (c2.extBut _ _ D.iz.symm z1);have u4:∀c o,c≠z->c≠i->c≠j->s.heap.get? c=yz o->Y.get? c=yz o:=λc o B U e4 e=>L.extBut _ _ e4 (u2 c o B U e);have i4:ItK k1 Y i a (n+1):=i2.at λo e=>L.extBut _ _ D.ij e;refine Vd ⟨_,rfl,?_⟩;show Q (.ref Y.objs.size) _;rw[sz];refine hQ _ (by rw[Val,sz]) ⟨⟨_,_,Vf _ z4,.inr ⟨T,rfl⟩⟩,Vf _ (u4 _ _ D.Iz D.Ii D.Ij hI),⟨_,_,Vf _ (u4 _ _ D.Oz D.Oi D.Oj hO)⟩,i4.at λo e=>Vf _ e,j4.at λo e=>Vf _ e⟩ ?_ λc o B _ U e4 e=>Vf _ (u4 c o B U e4 e);have:IsPair (Y.push {cls:=.type "tuple",data:=.seq #[x,y]}) Y.objs.size x y:=Vt _ rfl;rw[sz]at this;exact this
theorem Xvv(hh:A.handled=yy)(D:ZAp z I O i j a b)(st:ZSa k1 k2 z I O i j a b n n s.heap)(ha:SqK k1 s.heap a xs)(hb:SqK k2 s.heap b ys)(aa:xs[n]?=yy\/ys[n]?=yy)
  (hE:∀h' e,(∀c o,c≠z->c≠O->c≠i->c≠j->s.heap.get? c=yz o->h'.get? c=yz o)->(∃o,h'.get? e=yz o/\o.cls=.type "StopIteration")->E (.ref e) {s with heap:=h' }):
  Vg (Vl prog w) A (Vcb.«zip.__next__» ⟨[.ref z],[]⟩) Q E s:=by
 obtain⟨⟨f0,f1,hz,hf⟩,hI,⟨a0,b0,hO⟩,h1,h2⟩:=st;show Vg _ _ (field (.ref z) 2 >>= _) _ _ _;refine Va (Vam hz rfl (x:=.bool yw) rfl ?_);show Vg _ _ (field (.ref z) 3 >>= _) _ _ _;refine Va (Vam hz rfl (x:=.ref I) rfl (Va (Vcg hI rfl ?_)));show Vg _ _ (Vch (.ref z) >>= _) _ _ _;refine Va (Xl1 hz hf ?_ λg1 T z1 c1=>?_)
 ·simp only[if_true];refine Va (Vd0 (Va (Vam hz rfl (x:=.ref O) rfl (Va (Vba hz (by simp) λg1 z1 c1=>?_)))));replace z1:IsZ g1 z I O .ellipsis f1:=z1;refine Va ?_;simp only[List.zipIdx_cons,List.zipIdx_nil,Vc6,Vfu];refine Va (Va (wpAny_onRaise ?_));show Vg _ _ (Up (.ref i) >>= _) _ _ _;cases hx:xs[n]? with
  |none=>
   refine Va (Xql hh (h1.at λo e=>c1.extBut _ _ D.iz e) (ha.at λo e=>c1.extBut _ _ D.a_.1 e) hx λg2 e L he=>?_);obtain⟨oe,B,U⟩:=he;have z2:IsZ g2 z I O .ellipsis f1:=L _ _ D.iz.symm z1;have ez:e≠z:=λq=>by subst q;rw[z2]at B;cases B;simp at U
   exact Vba z2 (by simp) λg3 _ c3=>hE g3 e (λc o J _ Y _ q=>c3.extBut _ _ J (L _ _ Y (c1.extBut _ _ J q))) ⟨oe,c3.extBut _ _ ez B,U⟩|some x=>
   have hy:ys[n]?=none:=by rcases aa with q|q;rw[hx]at q;cases q;exact q
   refine Va (nxK (h1.at λo e=>c1.extBut _ _ D.iz e) (ha.at λo e=>c1.extBut _ _ D.a_.1 e) hx λg2 i2 L=>Vd ?_);have o2:IsPair g2 O a0 b0:=L.extBut _ _ D.Oi (c1.extBut _ _ D.Oz hO);refine Va (Vcg o2 rfl (Va (Vgr o2 λg3 o3 c3=>Va (wpAny_letGo (Vd (Va (Va (wpAny_onRaise ?_))))))));show Vg _ _ (Up (.ref j) >>= _) _ _ _;have u3:∀c o,c≠z->c≠O->c≠i->s.heap.get? c=yz o->g3.get? c=yz o:=λc o J e2 Y e=>c3.extBut _ _ e2 (L.extBut _ _ Y (c1.extBut _ _ J e));refine Va (Xql hh (h2.at λo e=>u3 j o D.jz D.Oj.symm D.ij.symm e) (hb.at λo e=>u3 b o D.b_.1 D.b_.2.1 D.b_.2.2.1 e) hy λg4 e c4 he=>?_);obtain⟨oe,B,U⟩:=he;have z4:IsZ g4 z I O .ellipsis f1:=c4 _ _ D.jz.symm (c3.extBut _ _ D.Oz.symm (L.extBut _ _ D.iz.symm z1));have ez:e≠z:=λq=>by subst q;rw[z4]at B;cases B;simp at U
   exact Vba z4 (by simp) λg5 _ c5=>hE g5 e (λc o J e2 Y e4 q=>c5.extBut _ _ J (c4 _ _ e4 (u3 c o J e2 Y q))) ⟨oe,c5.extBut _ _ ez B,U⟩
 ·replace c1:Va0 z s.heap g1:=c1;simp only[Vp,if_false];rw[show(#[Ur i,Ur j]:AV)=[Ur i,Ur j].toArray from rfl];refine Va ?_;simp only[List.forIn_toArray,Vc6,Vfu];refine Va (Va (Uo ?_));show Vg _ _ (Up (.ref i) >>= _) _ _ _;cases hx:xs[n]? with
  |none=>exact Va (Xql hh (h1.at λo e=>c1.extBut _ _ D.iz e) (ha.at λo e=>c1.extBut _ _ D.a_.1 e) hx λg2 e L he=>hE g2 e (λc o J _ Y _ q=>L _ _ Y (c1.extBut _ _ J q)) he)|some x=>
   have hy:ys[n]?=none:=by rcases aa with q|q;rw[hx]at q;cases q;exact q
   refine Va (nxK (h1.at λo e=>c1.extBut _ _ D.iz e) (ha.at λo e=>c1.extBut _ _ D.a_.1 e) hx λg2 i2 L=>Vd ?_);replace L:Va0 i g1 g2:=L;refine Vd ?_;dsimp only;refine Va (Va (Uo ?_));show Vg _ _ (Up (.ref j) >>= _) _ _ _;have u2:∀c o,c≠z->c≠i->s.heap.get? c=yz o->g2.get? c=yz o:=λc o J Y e=>L.extBut _ _ Y (c1.extBut _ _ J e);exact Va (Xql hh (h2.at λo e=>u2 j o D.jz D.ij.symm e) (hb.at λo e=>u2 b o D.b_.1 D.b_.2.2.1 e) hy λg4 e c4 he=>hE g4 e (λc o J _ Y e4 q=>c4 _ _ e4 (u2 c o J Y q)) he)
theorem ZSa.ty(st:ZSa k1 k2 z I O i j a b n n s.heap):s.TypeIs (.ref z) "zip":=let ⟨_,_,q,_⟩:=st.zo;⟨_,q,rfl⟩
theorem Xvw(D:ZAp z I O i j a b)(st:ZSa k1 k2 z I O i j a b n n s.heap)(L:SqK k1 s.heap a xs)(hb:SqK k2 s.heap b ys)(hx:xs[n]?=yz x)(J:ys[n]?=yz y)
  (B:∀h',ZSa k1 k2 z I O i j a b (n+1) (n+1) h'->IsPair h' s.heap.objs.size x y->(∀c o,c≠z->c≠O->c≠i->c≠j->s.heap.get? c=yz o->h'.get? c=yz o)->Q (yz (.ref s.heap.objs.size)) {s with heap:=h' }):
  Vg (Vl prog w) A (Vei (.ref z)) Q E s:=by
 unfold Vei;exact Va (Ve5 (Va6 (name:=Vao "__next__") st.ty Vgs (U0 Vgs st.ty F.entry_zip_next (X0d D st L hb hx J λh' _ Y q2 U=>Vd (B h' Y q2 U)) (F.args_zip_next_1 _))))
theorem Xvx(hh:A.handled=yy)(D:ZAp z I O i j a b)(st:ZSa k1 k2 z I O i j a b n n s.heap)(Y:SqK k1 s.heap a xs)(hb:SqK k2 s.heap b ys)(B:xs[n]?=yy\/ys[n]?=yy)
  (J:∀h',(∀c o,c≠z->c≠O->c≠i->c≠j->s.heap.get? c=yz o->h'.get? c=yz o)->Q yy {s with heap:=h' }):Vg (Vl prog w) A (Vei (.ref z)) Q E s:=by
 unfold Vei;refine Va (Ve5 (Va6 (name:=Vao "__next__") st.ty Vgs (U0 Vgs st.ty F.entry_zip_next (Xvv hh D st Y hb B λh' e U he=>?_) (F.args_zip_next_1 _))));obtain⟨o,L,hc⟩:=he;exact Va (Vgh (T:="StopIteration") (b:=yx) ⟨o,L,hc⟩ isSubtype_stop (Vd (J _ U)))
theorem X37(B:∃f0 f1,IsZ s.heap z I O f0 f1/\(f0=.none\/∃T:Nat,f0=Vab T))(J:∀h',(∃f0 f1,IsZ h' z I O f0 f1/\(f0=.none\/∃T:Nat,f0=Vab T))->Va0 z s.heap h'->Q () {s with heap:=h' }):
  Vg (Vl prog w) A (Vej (.Tuple elts x1 pos) (.ref z) (.ref T)) Q E s:=by
 obtain⟨f0,f1,B,U⟩:=B;unfold Vej;refine Va (Vfp B ?_);show Vg _ _ (if (["enumerate","zip","dict_itemiterator","dict_reverseitemiterator","odict_iterator","itertools.zip_longest","itertools.pairwise"].contains "zip" && (#[f0,f1,.bool yw,.ref I,.ref O]:AV)[0]?==yz (Vab T))=yx then _ else _) Q E s;split;·refine Va (Vd0 ?_);show Vg _ _ (setField (.ref z) 0 .none) Q E s;exact Vba B (by simp) λh' Y L=>J h' ⟨_,_,Y,.inl rfl⟩ L
 ·exact Vd (J s.heap ⟨f0,f1,B,U⟩ (Vf1 ..))
theorem Xl2(B:IsZ s.heap z I O f0 f1)(h:Q (.ref z) s):Vg (Vl prog w) A (pyIter (.ref z)) Q E s:=by have ty:s.TypeIs (.ref z) "zip" := ⟨_,B,rfl⟩;exact Vhn ty F.slot_zip_iter (U0 F.slot_zip_iter ty F.entry_zip_iter (show Vg _ _ (ret (.ref z)) _ _ s from Vd ⟨_,rfl,"zip",_,ty,F.slot_zip_next.lookup,h⟩) (F.args_zip_iter_1 _))
end
theorem ZSa.at{k1 k2:Bool}{z I O i j a b:Addr}{n m:Nat}(x:ZSa k1 k2 z I O i j a b n m h)(k:∀c∈[z,I,O,i,j],∀o,h.get? c=yz o->h'.get? c=yz o):ZSa k1 k2 z I O i j a b n m h':=
 ⟨let ⟨f0,f1,q,r⟩:=x.zo;⟨f0,f1,k z (by simp) _ q,r⟩,k I (by simp) _ x.io,let ⟨p,q,e⟩:=x.oo;⟨p,q,k O (by simp) _ e⟩,x.i1.at λo e=>k i (by simp) o e,x.i2.at λo e=>k j (by simp) o e⟩
theorem ZSa.some{k1 k2:Bool}{z I O i j a b:Addr}{n m:Nat}(x:ZSa k1 k2 z I O i j a b n m h):∀c∈[z,I,O,i,j],∃o,h.get? c=yz o/\∀v,o.data≠.cell v:=λc hc=>by
 simp only[Vn,U9,or_false]at hc;rcases hc with e|e|e|e|e<;>subst e
 ·obtain⟨f0,f1,q,_⟩:=x.zo;exact⟨_,q,λv q=>nomatch q⟩
 ·exact⟨_,x.io,λv q=>nomatch q⟩
 ·obtain⟨p,q,e⟩:=x.oo;exact⟨_,e,λv q=>nomatch q⟩
 ·obtain⟨o,e,_,d⟩:=x.i1.obj;exact⟨o,e,d⟩
 obtain⟨o,e,_,d⟩:=x.i2.obj;exact⟨o,e,d⟩
theorem Xvy{P:V4}{w:Ua}{K:Vj}{es:LX}{x0:Nat}{tp:Pos}{k1 k2:Bool}{z I O i j a b:Addr}(D:ZAp z I O i j a b):
  Turn P w K (.Tuple es x0 tp) (Itz K k1 k2 a b) [z,I,O,i,j] z (λn h=>ZSa k1 k2 z I O i j a b n n h) where
 mem:=by simp
 obj:=λn h st c hc=>st.some c hc
 keep:=λn h h' st k=>st.at k
 item:=by
  intro X hP hw hK hc n pa s σ H E J hf st hg;subst hP hw hK;obtain⟨xs,x,ys,y,q1,hx,q2,hy⟩:=hg;obtain⟨ab,Y,p1⟩:=Xgo J q1;obtain⟨ac,U,p2⟩:=Xgo J q2;obtain⟨u1,ag,ah⟩:=Y.get hx;obtain⟨u2,ae,ai⟩:=U.get hy;have hT:H s.heap.objs.size=none:=J.hok.fresh (Vm _);have af:∀c∈[z,I,O,i,j],c≠s.heap.objs.size:=λc hc=>by obtain⟨o,e,_⟩:=st.some c hc;exact Uc (Vw e)
  refine Xvw D st p1 p2 (x:=u1) (y:=u2) (by simpa using ag) (by simpa using ae) λh' B pr kp=>⟨_,rfl,X37 B.zo λh2 z2 c2=>?_⟩;have J1:Inv X pa σ (upd H s.heap.objs.size (.tup [x,y])) {s with heap:=s.heap.push {cls:=.type "tuple",data:=.seq #[u1,u2]} }:=J.laid (t':=s.toks) (λc o e=>Vf _ e) (Vm _) ⟨by show 2<=V8;decide,[u1,u2],.cons ah (.cons ai .nil),⟨_,Vt _ rfl,rfl,_,rfl⟩⟩;have aa:∀c∈[z,I,O,i,j],Xa6 X pa (upd H s.heap.objs.size (.tup [x,y])) c:=λc hc=>⟨by rw[Xj (af c hc)];exact(hf c hc).1,(hf c hc).2⟩;have J2:Inv X pa σ (upd H s.heap.objs.size (.tup [x,y])) {s with heap:=h2}:=Xo0 (s:={s with heap:=s.heap.push {cls:=.type "tuple",data:=.seq #[u1,u2]} }) (h':=h2) (t':=s.toks) J1 aa λc o hc e=>by
   simp only[Vn,U9,or_false,not_or]at hc;refine c2.extBut _ _ hc.1 ?_;by_cases q:c=s.heap.objs.size;·subst q;have e':=(Vt s.heap (o:={cls:=.type "tuple",data:=.seq #[u1,u2]}) rfl).symm.trans e;rw[<-e'];exact pr
   ·exact kp c o hc.1 hc.2.2.1 hc.2.2.2.1 hc.2.2.2.2 (Xvu e q)
  refine⟨.ref s.heap.objs.size,_,J2,rfl,⟨s.heap.objs.size,x,y,rfl,hT,rfl,λzs hz=>?_,λzs hz=>?_⟩,?_,λc hc=>(aa c hc).1⟩;·rw[Xlz J hz q1];exact hx
  ·rw[Xlz J hz q2];exact hy
  have L:∀c o,c≠z->h'.get? c=yz o->h2.get? c=yz o:=λc o e1 e=>c2.extBut _ _ e1 e;exact⟨z2,L _ _ D.Iz B.io,let ⟨p,q,e⟩:=B.oo;⟨p,q,L _ _ D.Oz e⟩,B.i1.at λo e=>L _ o D.iz e,B.i2.at λo e=>L _ o D.jz e⟩
 done:=by
  intro X hP hw hK hc n pa s σ H E J hf st hg;subst hP hw hK;obtain⟨xs,ys,q1,q2,hl⟩:=hg;obtain⟨ab,Y,p1⟩:=Xgo J q1;obtain⟨ac,U,p2⟩:=Xgo J q2;have l1:=Y.length;have l2:=U.length;refine Xvx (J.ok.hd hc) D st p1 p2 ?_ λh' kp=>⟨rfl,Xo0 (t':=s.toks) J hf λc o hc e=>?_⟩
  ·rcases hl with hl|hl;·exact .inl (by simp;omega)
   ·exact .inr (by simp;omega)
  simp only[Vn,U9,or_false,not_or]at hc;exact kp c o hc.1 hc.2.2.1 hc.2.2.2.1 hc.2.2.2.2 e
 self:=λ_ _ _ _ _ st h=>let ⟨_,_,q,_⟩:=st.zo;Xl2 q h
open AutoSeq1 (wpAny_loadPart')
noncomputable def Itx(a:Addr)(o:Obj)(xs:List (LI×Addr×V)):L2.It:=
 ⟨λi H=>(∃u,H a=yz (.frz o u))/\i<lf xs,
   λi H v H'=>∃T p,xs[i]?=yz p/\v=.ref T/\H T=yy/\H'=upd H T (.tup [.ref p.2.1,p.2.2]),
   λi H=>(∃u,H a=yz (.frz o u))/\(lf xs)<=i⟩
end Z
end
section
namespace Z
open PySem PySem.Spec PyProof.Rows L2
open AutoSeq1 (wpAny_loadPart')
end Z
end
section
namespace Z
open PySem PySem.Spec PyProof.Rows L2
noncomputable def Itd(lo:Int)(n:Nat):L2.It where
 go:=λi _=>i<n
 yld:=λi H x H'=>H'=H/\x=.int (lo-i)
 stop:=λi _=>n<=i
section
variable{X:Cx}{tg:Expr}
variable{pa:LA}{σ:L2.St}{H:Hp}{s:Vc}{ρ:LR}{S S':Sto}{env:En}{Q:VP}{E:VP}{a b c e iter:Expr}{f:En->Sto->R D}{pos:Pos}
def DG(X:Cx)(tg:Expr)(t:Tg):Prop:=
 ∀(pa:LA) (s:Vc) (σ:L2.St) (H:Hp) (ρ:LR) (S:Sto) (env:En) (d:D) (v:V) (u:Vb) (B:En) (Q:Unit->Vc->Prop) (E:VP),S0 X pa σ H s ρ S env->Xu t d env=yz B->RD X.K ρ H d v->RelV v u ->
  (∀s' J,S0 X pa J H s' ρ S B->Q () s')->Vg (Vl X.prog X.w) X.A (assign tg X.env u) Q E s
theorem X0e(hN:X.N.Nodup)(hi:X.N[i]?=yz x)(hx:Loc X.env.scope x)(Y:X.fn x=yx\/X.env.scope.names.lookup x=yz .local):DG X (.Name x pos) (.var i):=by intro pa s σ H ρ S env d v u B Q E I h rd L J;simp only[Xu,Vv]at h;subst h;exact Vhj (Xbv I.inv hN hi hx L (λs' U=>J s' _ ⟨U,I.sr,I.er.set i rd⟩) Y)
noncomputable def gNs:LN->TGs
 |[]=>X3e|i::is=>Xyp (Xyo i) (gNs is)
theorem Xst:∀(is:LN) (vs:LW) (σ:L2.St) (H:Hp) (Q:L2.St->Hp->Prop),lf is=lf vs->Q ((is.zip vs).foldl (λe p=>e.set p.1 (yz p.2)) σ) H->gNs is vs σ H Q
 |[],vs=>fun σ H Q B h=>by
  have:vs=[]:=by simpa using B.symm
  subst this;exact⟨rfl,h⟩|i::is,[]=>fun σ H Q B h=>by simp at B|i::is,v::vs=>fun σ H Q B h=>⟨v,vs,rfl,Xst is vs _ H Q (by simpa using B) h⟩
theorem ER.sets{K:Vj}:∀(is:LN) (ds:LD) (vs:LW) (env:En) (σ:L2.St),RDs K ρ H ds vs->ER K ρ H env σ->ER K ρ H ((is.zip ds).foldl (λe p=>e.set p.1 (yz p.2)) env) ((is.zip vs).foldl (λe p=>e.set p.1 (yz p.2)) σ)
 |[],ds=>λvs env σ r e=>by simpa using e|i::is,[]=>λvs env σ r e=>by simp only[RDs]at r;subst r;simpa using e|i::is,d::ds=>λvs env σ r e=>by simp only[RDs]at r;obtain⟨v,B,rfl,h1,h2⟩:=r;exact ER.sets is ds B _ _ h2 (e.set i h1)
theorem X38(hc:X.calm=yx)(h:∀E,PGs (X.wish E) es (gNs is))(hn:(Vbt es X.env).length=lf is)(U:(Vbt es X.env).findIdx? (·.1)=yy):DG X (.Tuple es k pos) (.tup is):=by
 intro pa s σ H ρ S env d v u aa Q E I hd rd rv hQ;cases d with
 |tup ds=>
  simp only[Xu]at hd;split at hd
  ·rename_i hl;cases hd;simp only[RD]at rd;obtain⟨a,vs,rfl,hs,Y⟩:=rd;have B:(lf is)=lf vs:=by rw[hl,Y.length]
   refine thn (X3f (X:=X.wish E) (n:=lf is) hc (h E) hn U pa s σ H (.ref a) u (λL H'=>H'=H/\L=(is.zip vs).foldl (λe p=>e.set p.1 (yz p.2)) σ) (I.inv.wish E) rv ⟨a,vs,rfl,hs,B.symm,Xst is vs σ H _ B ⟨rfl,rfl⟩⟩) λ_ s' ⟨L,H',J,e1,e2⟩=>?_;subst e1 e2;exact hQ s' _ ⟨J.unwish,I.sr,ER.sets is ds vs env σ Y I.er⟩
  cases hd|_=>cases hd
theorem Xsu:∀(is:LN) (xs:List (Str×Pos)),X.N.Nodup->lf is=lf xs->(∀(j i:Nat) (x:Str×Pos),is[j]?=yz i->xs[j]?=yz x->X.N[i]?=yz x.1/\Loc X.env.scope x.1/\(X.fn x.1=yx\/X.env.scope.names.lookup x.1=yz .local)) ->
  PGs X (xs.map λx=>Expr.Name x.1 x.2) (gNs is)
 |[],xs=>λ_ B _=>by
  have:xs=[]:=by simpa using B.symm
  subst this;exact Xzt|i::is,[]=>λ_ B _=>by simp at B|i::is,x::xs=>λhN B h=>by obtain⟨h1,h2,J⟩:=h 0 i x rfl rfl;exact Xu7 (Xzs hN h1 h2 J) (Xsu is xs hN (by simpa using B) λj L Y e1 U=>h (j+1) L Y (by simpa using e1) (by simpa using U)) rfl
theorem Xhf:∀(xs:List (Str×Pos)) (env:Vb9),(Vbt (xs.map λx=>Expr.Name x.1 x.2) env).length=lf xs/\(Vbt (xs.map λx=>Expr.Name x.1 x.2) env).findIdx? (·.1)=yy
 |[]=>λenv=>⟨rfl,rfl⟩|x::xs=>λenv=>by have h:=Xhf xs env;have e:Vbt ((x::xs).map λx=>Expr.Name x.1 x.2) env=(yw,assign (.Name x.1 x.2) env)::Vbt (xs.map λx=>Expr.Name x.1 x.2) env:=rfl;rw[e];refine⟨by simp[h.1],?_⟩;rw[List.findIdx?_cons];simp[h.2]
def SrcK(K:Vj)(ρ:LR)(H:Hp):Src->Bool->Addr->Prop
 |.con xs,yw,a=>∃vs,SqT K H a vs/\RDs K ρ H xs vs|.ref n,yx,a=>ρ[n]?=yz a|_,_,_=>False
theorem SrcK.mono'{K:Vj}{ρ':LR}{H':Hp}{src:Src}{k:Bool}{a:Addr}(x:Mon K ρ ρ' H H')(h:SrcK K ρ H src k a):SrcK K ρ' H' src k a:=by
 cases src with
 |con xs=>cases k with
  |false=>obtain⟨vs,h1,h2⟩:=h;exact⟨vs,x.tup _ _ h1,RDs.mono' x _ _ h2⟩|true=>exact h.elim
 |ref n=>cases k with
  |false=>exact h.elim|true=>exact x.pre _ _ h
 |zpp _ _=>exact h.elim
theorem SrcK.get{src:Src}{k:Bool}{a:Addr}{i:Nat}{o:Option D}(h:SrcK X.K ρ H src k a)(I:S0 X pa σ H s ρ S env)(g:src.get S i=yz o):∃vs,SqH k X.K H a vs/\match o with
  |some d=>∃v,vs[i]?=yz v/\RD X.K ρ H d v|none=>lf vs<=i:=by
 cases src with
 |con xs=>cases k with
  |false=>
   obtain⟨vs,h1,h2⟩:=h;simp only[Src.get,Vv]at g;refine⟨vs,h1,?_⟩;cases o with
   |some d=>exact h2.get g|none=>have:=h2.none g;rw[Ui]at this;exact this
  |true=>exact h.elim
 |ref n=>cases k with
  |false=>exact h.elim|true=>
   simp only[Src.get,Vaa]at g;obtain⟨xs,g1,g2⟩:=g;obtain⟨J,vs,k1,k2,B⟩:=I.list g1;have h':ρ[n]?=yz a:=h;rw[h']at k1;cases k1;refine⟨vs,.of k2,?_⟩;cases o with
   |some d=>exact B.get g2|none=>have:=B.none g2;rw[Ui]at this;exact this
 |zpp _ _=>exact h.elim
inductive SrcR(K:Vj)(ρ:LR)(H:Hp):Src->L2.It->Prop where
 |tup {a:Addr} {xs:LD} {vs:LW}:SqT K H a vs->RDs K ρ H xs vs->SrcR K ρ H (.con xs) (Itt K a)
 |rng (lo:Int) (n:Nat):SrcR K ρ H (.con ((Vs n).map λ(k:Nat)=>D.int (lo+k))) (Itr lo n)
 |lst {n:Nat} {a:Addr}:ρ[n]?=yz a->SrcR K ρ H (.ref n) (Itl K a)
 |zpp {s1 s2:Src} {k1 k2:Bool} {a b:Addr}:SrcK K ρ H s1 k1 a->SrcK K ρ H s2 k2 b->SrcR K ρ H (.zpp s1 s2) (Itz K k1 k2 a b)
 |dwn (lo:Int) (n:Nat):SrcR K ρ H (.con ((Vs n).map λ(k:Nat)=>D.int (lo-k))) (Itd lo n)
 |dic {a:Addr} {o:Obj} {u:HO} {kvs:List (LI×D)} {xs:List (LI×Addr×V)}:H a=yz (.frz o u)->DX K ρ H kvs xs->SrcR K ρ H (.con (kvs.map X3r)) (Itx a o xs)
theorem Xyw{K:Vj}{ρ:LR}{H:Hp}:∀ {kvs:List (LI×D)} {xs:List (LI×Addr×V)} {i:Nat} {p:LI×D},DX K ρ H kvs xs->kvs[i]?=yz p->∃q,xs[i]?=yz q/\p.1=q.1/\SqT K H q.2.1 (p.1.map V.int)/\RD K ρ H p.2 q.2.2
 |_,_,i,_,.nil,h=>by simp at h|_,_,0,_,.cons r _,h=>by simp at h;subst h;exact⟨_,rfl,r⟩|_,_,i+1,_,.cons _ t,h=>by obtain⟨q,h1,h2⟩:=Xyw (i:=i) t (by simpa using h);exact⟨q,by simpa using h1,h2⟩
theorem SrcR.mono'{K:Vj}{ρ':LR}{H':Hp}{src:Src}{J:L2.It}(x:Mon K ρ ρ' H H')(h:SrcR K ρ H src J):SrcR K ρ' H' src J:=by
 cases h with
 |tup h1 h2=>exact .tup (x.tup _ _ h1) (RDs.mono' x _ _ h2)|rng lo n=>exact .rng lo n|lst h=>exact .lst (x.pre _ _ h)|zpp h1 h2=>exact .zpp (h1.mono' x) (h2.mono' x)|dwn lo n=>exact .dwn lo n|dic h1 h2=>exact .dic (x.frz _ _ _ h1) (h2.mono x)
theorem SrcR.mono{K:Vj}{ρ':LR}{H':Hp}{src:Src}{J:L2.It}(x:Stp K ρ ρ' H H')(h:SrcR K ρ H src J):SrcR K ρ' H' src J:=h.mono' x.toMon
theorem Xo2{Y s2:Src}{i:Nat}{o:Option D}(g:(Src.zpp Y s2).get S i=yz o):∃J B,Y.get S i=yz J/\s2.get S i=yz B/\match o with
  |some d=>∃x y,J=yz x/\B=yz y/\d=.tup [x,y]|none=>J=yy\/B=none:=by
 simp only[Src.get]at g;split at g;·rename_i x y U L;cases g;exact⟨_,_,U,L,x,y,rfl,rfl,rfl⟩
 ·rename_i J B hn U L;cases g;refine⟨J,B,U,L,?_⟩;cases J with
  |none=>exact .inl rfl|some x=>
   cases B with
   |none=>exact .inr rfl|some y=>exact(hn x y rfl rfl).elim
 ·cases g
theorem SrcR.go(h:SrcR X.K ρ H src J)(I:S0 X pa σ H s ρ S env)(g:src.get S i=yz (yz d)):
  J.go i H/\∀x H',J.yld i H x H'->SR X.K ρ S H'/\Stp X.K ρ ρ H H'/\RD X.K ρ H' d x:=by
 cases h with
 |@tup a xs vs h1 h2=>simp only[Src.get,Vv]at g;obtain⟨v,B,L⟩:=h2.get g;refine⟨⟨vs,v,h1,B⟩,λx H' y=>?_⟩;obtain⟨rfl,y⟩:=y;have:=y vs h1;rw[B]at this;cases this;exact⟨I.sr,.refl,L⟩|rng lo n=>
  simp only[Src.get,Vv]at g;rw[Vx]at g;have hi:i<n:=by
   by_cases hi:i<n;·exact hi
   ·rw[Vad (by simpa using hi)]at g;cases g
  rw[Vdg hi]at g;simp only[V2,Vv]at g;subst g;refine⟨hi,λx H' y=>?_⟩;obtain⟨rfl,rfl⟩:=y;exact⟨I.sr,.refl,by simp only[RD]⟩|@lst n a h=>simp only[Src.get,Vaa]at g;obtain⟨xs,g1,g2⟩:=g;obtain⟨a',vs,k1,k2,k3⟩:=I.list g1;rw[h]at k1;cases k1;obtain⟨v,B,L⟩:=k3.get g2;refine⟨⟨vs,v,.of k2,B⟩,λx H' y=>?_⟩;obtain⟨rfl,y⟩:=y;have:=y vs (.of k2);rw[B]at this;cases this;exact⟨I.sr,.refl,L⟩|@zpp s1 s2 k1 k2 a b h1 h2=>obtain⟨o1,o2,g1,g2,x,y,rfl,rfl,rfl⟩:=Xo2 g;obtain⟨vs,q1,v,B,r1⟩:=h1.get I g1;obtain⟨us,q2,u,L,r2⟩:=h2.get I g2;refine⟨⟨vs,v,us,u,q1,B,q2,L⟩,λw H' yd=>?_⟩;obtain⟨T,v',u',rfl,hT,rfl,z1,z2⟩:=yd;have U:=z1 vs q1;have Y:=z2 us q2;rw[B]at U;cases U;rw[L]at Y;cases Y;have st:Stp X.K ρ ρ H (upd H T (.tup [v,u])):=Stp.upd hT;refine⟨I.sr.upd hT,st,?_⟩;simp only[RD];exact⟨T,[v,u],rfl,.of Yi,.cons (r1.mono st) (.cons (r2.mono st) .nil)⟩|dwn lo n=>
  simp only[Src.get,Vv]at g;rw[Vx]at g;have hi:i<n:=by
   by_cases hi:i<n;·exact hi
   ·rw[Vad (by simpa using hi)]at g;cases g
  rw[Vdg hi]at g;simp only[V2,Vv]at g;subst g;refine⟨hi,λx H' y=>?_⟩;obtain⟨rfl,rfl⟩:=y;exact⟨I.sr,.refl,by simp only[RD]⟩|@dic a o u kvs xs h1 h2=>simp only[Src.get,Vv,Vx,Vaa]at g;obtain⟨p,g1,rfl⟩:=g;obtain⟨q,q1,q2,q3,q4⟩:=Xyw h2 g1;refine⟨⟨⟨u,h1⟩,(Vi.mp q1).1⟩,λw H' yd=>?_⟩;obtain⟨T,q',B,rfl,hT,rfl⟩:=yd;rw[q1]at B;cases B;have st:Stp X.K ρ ρ H (upd H T (.tup [.ref q.2.1,q.2.2])):=Stp.upd hT;refine⟨I.sr.upd hT,st,?_⟩;unfold X3r;rw[RD];refine⟨T,_,rfl,.of Yi,.cons ?_ (.cons (q4.mono st) .nil)⟩;rw[RD];exact⟨_,_,rfl,st.tup _ _ q3,.ints _⟩
theorem SrcR.stop(h:SrcR X.K ρ H src J)(I:S0 X pa σ H s ρ S env)(g:src.get S i=yz yy):J.stop i H:=by
 cases h with
 |@tup a xs vs h1 h2=>simp only[Src.get,Vv]at g;exact⟨vs,h1,by have:=h2.none g;rw[Ui]at this;exact this⟩|rng lo n=>simp only[Src.get,Vv]at g;rw[Ui]at g;show n<=i;simpa using g|@lst n a h=>simp only[Src.get,Vaa]at g;obtain⟨xs,g1,g2⟩:=g;obtain⟨a',vs,k1,k2,k3⟩:=I.list g1;rw[h]at k1;cases k1;exact⟨vs,.of k2,by have:=k3.none g2;rw[Ui]at this;exact this⟩|@zpp s1 s2 k1 k2 a b h1 h2=>
  obtain⟨o1,o2,g1,g2,B⟩:=Xo2 g;obtain⟨vs,Y,U⟩:=h1.get I g1;obtain⟨us,q2,L⟩:=h2.get I g2;refine⟨vs,us,Y,q2,?_⟩;rcases B with e|e<;>subst e
  ·exact .inl U
  exact .inr L|dwn lo n=>simp only[Src.get,Vv]at g;rw[Ui]at g;show n<=i;simpa using g|@dic a o u kvs xs h1 h2=>simp only[Src.get,Vv,Vx,Option.map_eq_none_iff,Ui]at g;exact⟨⟨u,h1⟩,by rw[<-Paired.length h2];exact g⟩
def ItP(X:Cx)(pa:LA)(σ:L2.St)(ρ:LR)(H:Hp)(tg:Expr)(r:R Src)(L:Vb)(Y:Vc):Prop:=
 ∃B S' it fp U J H' ρ',r=.ok B S'/\L=.ref it/\Inv X pa σ H' Y/\Turn X.prog X.w X.K tg J fp it U/\U 0 Y.heap/\(∀b∈fp,Xa6 X pa H' b)/\SrcR X.K ρ' H' B J/\SR X.K ρ' S' H'/\Stp X.K ρ ρ' H H'
theorem ItP.pre{L:LR}{H1:Hp}{r:R Src}{B:Vb}{s2:Vc}(h:ItP X pa σ L H1 tg r B s2)(st:Stp X.K ρ L H H1):ItP X pa σ ρ H tg r B s2:=by obtain⟨Y,S2,it,fp,tn,J,H2,U,z1,z2,z3,z4,z5,z6,z7,z8,z9⟩:=h;exact⟨Y,S2,it,fp,tn,J,H2,U,z1,z2,z3,z4,z5,z6,z7,z8,st.trans z9⟩
def DI(X:Cx)(tg iter:Expr)(f:En->Sto->R Src):Prop:=
 ∀(pa:LA) (s:Vc) (σ:L2.St) (H:Hp) (ρ:LR) (S:Sto) (env:En) (E:VP),S0 X pa σ H s ρ S env->f env S≠.bad->(∀x s',ExP X pa σ ρ H (f env S) x s'->E x s') ->
  Vg (Vl X.prog X.w) X.A (eval iter X.env) (λv B=>Vg (Vl X.prog X.w) X.A (pyIter v) (ItP X pa σ ρ H tg (f env S)) E B) E s
theorem X39(he:DE X iter f):DI X tg iter (λenv S=>(f env S).bind λx S=>match Ys S x with|some r=>.ok r S|none=>.bad):=by
 intro pa s σ H ρ S env E I B hE;dsimp only at B hE ⊢;cases q:f env S with
 |bad=>rw[q]at B;cases B rfl|ex n S1=>rw[q]at hE;exact he.ex I q λx s' z=>hE x s' ⟨n,S1,rfl,z⟩|ok d S1=>
  rw[q]at B;simp only[Rk0]at B ⊢;refine he.ok I q λu L v H1 U J rv rd Y=>?_;cases d with
  |tup xs=>
   simp only[RD]at rd;obtain⟨a,vs,rfl,h1,h2⟩:=rd;cases rv;obtain⟨its,aa,p,hz⟩:=J.inv.tuple h1;refine Vfl (show L.heap.IsTuple a its.toArray from p) ?_;refine⟨_,S1,L.heap.objs.size,[L.heap.objs.size],_,_,H1,U,rfl,rfl,J.inv.kept (t':=L.toks) λb o e=>Vf _ e,Xp7 a _,⟨_,Vt _ rfl,rfl,rfl⟩,λb hb=>?_,.tup h1 h2,J.sr,Y⟩;have e:b=L.heap.objs.size:=by simpa using hb
   subst e;exact J.inv.fpOk (Vm _) (J.inv.hok.fresh (Vm _))|ref n=>
   cases e1:Xc S1 n with
   |none=>simp[Ys,e1]at B|some xs=>
    obtain⟨a,vs,k1,k2,k3⟩:=J.list e1;simp only[RD]at rd;obtain⟨a',rfl,k4⟩:=rd;rw[k1]at k4;cases k4;cases rv;obtain⟨its,aa,p,hz⟩:=J.inv.list (.of k2);refine Vf5 p.isList ?_;refine⟨.ref n,S1,L.heap.objs.size,[L.heap.objs.size],_,_,H1,U,by simp[Ys,e1],rfl,J.inv.kept (t':=L.toks) λb o e=>Vf _ e,Xr8 a _,⟨_,Vt _ rfl,rfl,rfl⟩,λb hb=>?_,.lst k1,J.sr,Y⟩;have e:b=L.heap.objs.size:=by simpa using hb
    subst e;exact J.inv.fpOk (Vm _) (J.inv.hok.fresh (Vm _))
  |non=>simp[Ys]at B|bl _=>simp[Ys]at B|int _=>simp[Ys]at B|str _=>simp[Ys]at B|fro _=>simp[Ys]at B|fn _ _=>simp[Ys]at B
theorem Xsv{tk:Nat}{lo hi:Int}{ds:LD}(I:S0 X pa σ H s ρ S env)(h1:-(2^62)<=lo)(h2:lo<2^62)(Y:-(2^62)<=hi)(L:hi<2^62)(B:ds=(Vs (hi-lo).toNat).map λ(k:Nat)=>D.int (lo+k)):
  Vg (Vl X.prog X.w) X.A (pyIter (.ref s.heap.objs.size)) (ItP X pa σ ρ H tg (.ok (.con ds) S)) E {s with heap:=s.heap.push {cls:=.type "range",data:=.fields #[.int lo t,.int hi u,.int 1 v]},toks:=tk}:=by
 refine thn (Xu8 (X:=X.wish E) (tg:=tg) (R:=λJ H'=>J=Itr lo (hi-lo).toNat/\H'=H) (I.inv.wish E) h1 h2 Y L ⟨rfl,rfl⟩) λU s2 z=>?_;obtain⟨it,fp,tn,J,H',e1,J',T,t0,fo,e2,e3⟩:=z;subst e2 e3;exact⟨_,S,it,fp,tn,_,H',ρ,rfl,e1,J'.unwish,T,t0,fo,by rw[B];exact .rng _ _,I.sr,.refl⟩
theorem X4a {es:LX} {g:En->Sto->R (LD)} (hg:Gl X "range") (hm:X.mg "range"=yy) (ha:DA X (a::es) g) (hs:Ul (a::es) X.env=(yw,eval a X.env)::Ul es X.env) (L:(Vc0 pos (Ul es X.env)).any (·.1)=yw):
  DI X tg (.Call (.Name "range" p) (a::es) [] pos) (λenv S=>(g env S).bind λxs S=>match Yu xs with|some ds=>.ok (.con ds) S|none=>.bad):=by
 intro pa s σ H ρ S env E I B Y;dsimp only at B Y ⊢;refine Call_ (Ym I.inv hg hm boot_range (Vaf ?_ hs L));cases q:g env S with
 |bad=>rw[q]at B;cases B rfl|ex n S1=>rw[q]at Y;exact ha.ex I q λx s' z=>Y x s' ⟨n,S1,rfl,z⟩|ok ds S1=>
  rw[q]at B;simp only[Rk0]at B ⊢;refine ha.ok I q λus s1 vs H1 aa I1 rv J U=>?_;have fin:∀ {tk:Nat} {lo hi:Int} {t u v:Tok} {xs:LD},-(2^62)<=lo->lo<2^62->-(2^62)<=hi->hi<2^62->xs=(Vs (hi-lo).toNat).map (λ(k:Nat)=>D.int (lo+k)) ->
    Vg (Vl X.prog X.w) X.A (pyIter (.ref s1.heap.objs.size)) (ItP X pa σ ρ H tg (.ok (.con xs) S1)) E {s1 with heap:=s1.heap.push {cls:=.type "range",data:=.fields #[.int lo t,.int hi u,.int 1 v]},toks:=tk}:=λh1 h2 h3 h4 h5=>
   Vo (Xsv I1 h1 h2 h3 h4 h5) (λ_ _ z=>z.pre U) λ_ _ z=>z
  match ds,J,B with
  |[],J,B=>simp[Yu]at B|[d],J,B=>
   cases d with
   |int j=>
    simp only[Yu]at B ⊢;by_cases hz:-(1048576)<j/\j<1048576
    ·rw[iP0 hz]at B ⊢;simp only[RDs]at J;obtain⟨v,r,rfl,r1,rfl⟩:=J;simp only[RD]at r1;subst r1;cases rv with
     |cons q1 q2=>cases q2;obtain⟨t,rfl⟩:=q1;refine call_range_1 (fin (by omega) (by omega) (by omega) (by omega) ?_);simp
    rw[iN0 hz]at B;cases B rfl|_=>simp[Yu]at B
  |_::_::_,J,B=>simp[Yu]at B
theorem Xyx(I:S0 X pa σ H s ρ S env)(e:Ys S d=yz src)(B:RD X.K ρ H d v)(L:RelV v u):∃k a vs,u=.ref a/\SqH k X.K H a vs/\SrcK X.K ρ H src k a:=by
 cases d with
 |tup xs=>have Y:yz (Src.con xs)=yz src:=e;cases Y;simp only[RD]at B;obtain⟨a,vs,rfl,h1,h2⟩:=B;cases L;exact⟨yw,a,vs,rfl,h1,vs,h1,h2⟩|ref n=>
  cases J:Xc S n with
  |none=>simp[Ys,J]at e|some xs=>simp only[Ys,J,V2,Vv]at e;subst e;obtain⟨a,vs,k1,k2,k3⟩:=I.list J;simp only[RD]at B;obtain⟨a',rfl,U⟩:=B;rw[k1]at U;cases U;cases L;exact⟨yx,a,vs,rfl,.of k2,k1⟩
 |_=>cases e
theorem X0f{n a b:Nat}(h1:a<n)(h2:b<n):ZAp (n+4) (n+2) (n+3) n (n+1) a b:=by constructor<;>(try refine⟨?_,?_,?_,?_⟩)<;>(intro z;first|omega|(have B:(_:Nat)=_:=z;omega))
theorem X4b{n b:Nat}(h:b∈[n+4,n+2,n+3,n,n+1]):n<=b:=by simp only[Vn,U9,or_false]at h;omega
theorem Xo3{k:Bool}{a:Addr}{vs:LW}(I:Inv X pa σ H s)(h:SqH k X.K H a vs):a<s.heap.objs.size:=by obtain⟨its,_,q⟩:=Xgo I h;obtain⟨o,e,_⟩:=q.obj;exact Vw e
theorem X4c {es:LX} {g:En->Sto->R (LD)} {sx sy:Src} (hg:Gl X "zip") (hm:X.mg "zip"=yy) (ha:DA X (a::es) g) (hs:Ul (a::es) X.env=(yw,eval a X.env)::Ul es X.env) (U:(Vc0 pos (Ul es X.env)).any (·.1)=yw) (I:S0 X pa σ H s ρ S env) (q:g env S=.ok [x,y] S1) (e1:Ys S1 x=yz sx) (e2:Ys S1 y=yz sy)
  (hQ:∀B h' H1 J k1 k2 b1 b2,S0 X pa σ H1 B J S1 env->ZAp (B.heap.objs.size+4) (B.heap.objs.size+2) (B.heap.objs.size+3) B.heap.objs.size (B.heap.objs.size+1) b1 b2->ZSa k1 k2 (B.heap.objs.size+4) (B.heap.objs.size+2) (B.heap.objs.size+3) B.heap.objs.size (B.heap.objs.size+1) b1 b2 0 0 h'->SrcK X.K J H1 sx k1 b1->SrcK X.K J H1 sy k2 b2->Stp X.K ρ J H H1->(∀c o,B.heap.get? c=yz o->h'.get? c=yz o)->Q (.ref (B.heap.objs.size+4)) {B with heap:=h' }):
  Vg (Vl X.prog X.w) X.A (eval (.Call (.Name "zip" p) (a::es) [] pos) X.env) Q E s:=by
 refine Call_ (Ym I.inv hg hm (u:=.type "zip") (by decide+kernel) (Vaf (ha.ok I q λus B vs H1 J L rv rd ab=>?_) hs U));simp only[RDs]at rd;obtain⟨v1,r1,rfl,Y,v2,r2,rfl,aa,rfl⟩:=rd;cases rv with
 |cons q1 q2=>
  cases q2 with
  |cons q3 q4=>cases q4;obtain⟨k1,b1,w1,rfl,m1,c1⟩:=Xyx L e1 Y q1;obtain⟨k2,b2,w2,rfl,m2,c2⟩:=Xyx L e2 aa q3;obtain⟨ac,_,p1⟩:=Xgo L.inv m1;obtain⟨ae,_,p2⟩:=Xgo L.inv m2;exact Xvt p1 p2 λh' zs kp=>hQ B h' H1 J k1 k2 b1 b2 L (X0f (Xo3 L.inv m1) (Xo3 L.inv m2)) zs c1 c2 ab kp
theorem X4d {x0:Nat} {ts es:LX} {g:En->Sto->R (LD)} (hg:Gl X "zip") (hm:X.mg "zip"=yy) (ha:DA X (a::es) g) (hs:Ul (a::es) X.env=(yw,eval a X.env)::Ul es X.env) (L:(Vc0 pos (Ul es X.env)).any (·.1)=yw):
  DI X (.Tuple ts x0 tp) (.Call (.Name "zip" p) (a::es) [] pos) (λenv S=>(g env S).bind λxs S=>match xs with
   |[x,y]=>match Ys S x,Ys S y with
    |some s,yz t=>.ok (.zpp s t) S|_,_=>.bad
   |_=>.bad):=by
 intro pa s σ H ρ S env E I B hE;dsimp only at B hE ⊢;cases q:g env S with
 |bad=>rw[q]at B;cases B rfl|ex n S1=>rw[q]at hE;exact Call_ (Ym I.inv hg hm (u:=.type "zip") (by decide+kernel) (Vaf (ha.ex I q λx s' z=>hE x s' ⟨n,S1,rfl,z⟩) hs L))|ok ds S1=>
  rw[q]at B;simp only[Rk0]at B ⊢;match ds,q,B with
  |[],q,B=>cases B rfl|[_],q,B=>cases B rfl|_::_::_::_,q,B=>cases B rfl|[x,y],q,B=>
   cases e1:Ys S1 x with
   |none=>simp only[e1]at B;cases B rfl|some sx=>
    cases e2:Ys S1 y with
    |none=>simp only[e1,e2]at B;cases B rfl|some sy=>
     refine X4c hg hm ha hs L I q e1 e2 λJ h' H1 aa k1 k2 b1 b2 Y za zs c1 c2 ab kp=>let ⟨_,_,zq,_⟩:=zs.zo;Xl2 zq ?_
     refine⟨.zpp sx sy,S1,_,[J.heap.objs.size+4,J.heap.objs.size+2,J.heap.objs.size+3,J.heap.objs.size,J.heap.objs.size+1],_,_,H1,aa,by simp only[e1,e2],rfl,Y.inv.kept (t':=J.toks) kp,Xvy za,zs,λb hb=>?_,.zpp c1 c2,Y.sr,ab⟩;have U:J.heap.objs.size<=b:=X4b hb;exact Y.inv.fpOk U (Y.inv.hok.fresh U)
theorem DSs.ok{st:LM}{na:Bool}{g:En->Sto->R Fl}{Q:Flow->Vc->Prop}(h:DSs X st na g)(I:S0 X pa σ H s ρ S env)(r:g env S=.ok x S')(B:∀fl s',FlP X pa σ ρ H na S' s' x fl->Q fl s'):
  Vg (Vl X.prog X.w) X.A (execs st X.env) Q E s:=by
 refine Vo (h pa s σ H ρ S env I (by rw[r];exact λz=>nomatch z)) (λfl s' z=>?_) λx s' z=>?_;·obtain⟨y,S1,e,z⟩:=z;rw[r]at e;cases e;exact B fl s' z
 ·obtain⟨n,S1,_,e,_⟩:=z;rw[r]at e;cases e
theorem S0.rep(I:S0 X pa σ H s ρ S env)(J:Inv X pl σ H s):S0 X pl σ H s ρ S env:=⟨J,I.sr,I.er⟩
theorem X4e{pl:LA}{σ B:L2.St}{ρ ρ':LR}{H H':Hp}{s:Vc}{x:Vb}{n:Nat}{r:R Fl}(ab:X.stack=X.env::X.outer)(hf:X.env.frame=yz X.env.locals)(st:Stp X.K ρ ρ' H H')(h:XPd X (pa++pl) B ρ' H' n S' x s)(e:r=.ex n S'):
  notedBy (Vl X.prog X.w) X.A X.env (cameBackBy (Vl X.prog X.w) X.A X.env (ExS X pa σ ρ H yw r)) x s:=by
 obtain⟨H2,ac,a,c,J,rfl,hn,hc,sr,ae,fl⟩:=h.pre st;obtain⟨C,_,ha⟩:=(show ∃C,Y9 X.K c=yz C/\H2 a=yz (.ext (ExcO C a)) from sr.ob n a _ hn hc);have Y:Inv X pa B H2 s:=J.pins_of λp hp=>J.pin p (Vak _ (Vc2 _ hp));have aa:Fly X pa H2 a s.heap:=by
  rcases fl with fl|⟨f,hf,tr⟩;·exact .inl fl
  ·exact .inr ⟨f,hf,tr.imp λT ⟨h1,h2⟩=>⟨h1,λp hp=>h2 p (by
    rcases Uq.mp hp with z|z;·exact Vc2 _ z
    ·exact Vak _ (Vc2 _ z))⟩⟩
 refine Xgm Y ab hf ha aa λl h2 a0 hid L hh up=>?_;obtain⟨k1,k2,k3,oe,vs,T,oT,ts,t1,⟨t2,t3⟩,t4,t5,t6,t7,t8,t9,U⟩:=hh;have J2:Inv X pa B H2 {s with heap:=h2}:=Inv.fly Y ha hid L k1 up ⟨oe,vs,a0,t1,t2,t4,t3,(U3.mp t5).1⟩;have nT:T ∉ frs X.stack:=λhm=>by obtain⟨_,o,e,nd⟩:=J2.stack.mem hm;have e':h2.get? T=yz o:=e;rw[t8]at e';cases e';exact nd ts t9
 have hT:∀o,s.heap.get? T=yz o->T∈l:=λo e=>by
  by_cases hm:T∈l;·exact hm
  ·rw[Vea l e hm]at t6;cases t6
 have nw:Xif X pa T:=by
  cases q:s.heap.get? T with
  |some o=>exact L T (hT o q) t7 nT|none=>
   refine⟨?_,λp hp z=>?_⟩
   ·by_cases hx:T∈X.ex;·exact .inl hx
    ·cases w:X.s₀.heap.get? T with
     |none=>exact .inr rfl|some o=>obtain⟨o',e⟩:=Y.base.there T o w hx;rw[q]at e;cases e
   have:=(Y.pin p hp).1;rw[z,q]at this;cases this
 have hH:H2 T=none:=by
  cases q:H2 T with
  |none=>rfl|some u=>
   obtain⟨o',e1⟩:=Xb7 (Y.hok T u q);rcases hid.of T (hT o' e1) with z|z|⟨z,_⟩;·exact aB0 z t7
   ·exact aB0 z nT
   rw[z]at q;cases q
 have fin:ExS X pa σ ρ H yw r (.ref a) {s with heap:=h2}:=
  ⟨n,S',B,e,(λz=>nomatch z),H2,ac,a,c,J2,rfl,hn,hc,sr,ae,.inr ⟨_,.inr rfl,oe,vs,T,oT,ts,t1,t4,t5,nw,t7,hH,t8,t9,U⟩⟩
 show Vg _ _ (do {if (<-field (.ref a) 1) == .none then {Ve7 _};setFlight (.ref a) X.env.frame}) _ _ _;refine Va (Vam (s:={s with heap:=h2}) t1 t4 t5 ?_);rw[iN0 (show ¬ ((Ur T==Van)=yx) from by simp)];have step:Vg (Vl X.prog X.w) X.A (setFlight (.ref a) X.env.frame) (λ_ s2=>ExS X pa σ ρ H yw r (.ref a) s2) (ExS X pa σ ρ H yw r) {s with heap:=h2}:=by rw[hf];unfold setFlight;refine Va (Vam (s:={s with heap:=h2}) t1 t4 t5 ?_);rw[iP0 (show(Ur T != Van)=yx from by simp)];refine wpAny_setField (s:={s with heap:=h2}) t8 t9 (U3.mp U).1 ?_;rw[show((yz X.env.locals).elim Van λf=>Vab f)=Vab X.env.locals from rfl,Heap.update_setField_same h2 T oT ts 3 _ t8 t9 U];exact fin
 first
  |exact Va (Vd step)|exact step
theorem X4f(al:X.stack=X.env::X.outer)(hf:X.env.frame=yz X.env.locals)(hc:X.calm=yx)(hi:DI X tg iter fi)(hg:DG X tg t)(hb:DSs X body na g)(hs:∀x,Vbv iter X.env x=pure x):
  DS X (.For tg iter body [] pos) yw (λenv S=>(fi env S).bind λsrc S=>X9 src.get t g (src.most S+1) 0 env S):=by
 intro pa s σ H ρ S env I nb;dsimp only at nb ⊢;cases q:fi env S with
 |bad=>rw[q]at nb;cases nb rfl|ex n S1=>
  refine wpAny_For (Vo (hi pa s σ H ρ S env _ I (by rw[q];exact λz=>nomatch z) λx s' z=>?_) (λv s1 h1=>Vo h1 (λar s2 h2=>?_) λ_ _ z=>z) λ_ _ z=>z) hs;·rw[q]at z;obtain⟨m,S2,e,z⟩:=z;cases e;exact .of .refl z rfl
  ·obtain⟨src,S2,_,_,_,_,_,_,e,_⟩:=h2;rw[q]at e;cases e|ok src S1=>
  rw[q]at nb;simp only[Rk0]at nb ⊢;refine wpAny_For (Vo (hi pa s σ H ρ S env (ExS X pa σ ρ H yw (X9 src.get t g (src.most S1+1) 0 env S1)) I (by rw[q];exact λz=>nomatch z) λx s' z=>?_) (λv s1 h1=>Vo h1 (λar s2 h2=>?_) λ_ _ z=>z) λ_ _ z=>z) hs;·rw[q]at z;obtain⟨m,S2,e,z⟩:=z;cases e
  ·obtain⟨aw,S2,it,fp,tn,J,H2,an,e1,rfl,I2,T,t0,f2,au,am,ah⟩:=h2;rw[q]at e1;cases e1;have ae:∀ {H':Hp},(∀b∈fp,H' b=yy)->∀b∈fp,Xa6 X pa H' b:=λhn b hb=>⟨hn b hb,(f2 b hb).2⟩;generalize ao:X9 src.get t g (src.most S1+1) 0 env S1=r0;refine codeAny_forLoop_any (λn s'=>∃i ag H' ρ' S' L,S0 X pa ag H' s' ρ' S' L/\tn i s'.heap/\(∀b∈fp,H' b=yy)/\SrcR X.K ρ' H' src J/\Stp X.K ρ ρ' H H'/\X9 src.get t g n i L S'≠.bad/\X9 src.get t g n i L S'=r0)
    ?_ (src.most S1+1) ⟨0,σ,H2,an,S1,env,I.step I2 am ah,t0,λb hb=>(f2 b hb).1,au,ah,nb,ao⟩
   rintro n s3 ⟨i,σ3,H3,ρ3,S3,env3,I3,t3,fr3,sr3,st3,nb3,eq3⟩;cases n with
   |zero=>cases nb3 rfl|succ n=>
    simp only[X9]at nb3;cases g1:src.get S3 i with
    |none=>rw[g1]at nb3;cases nb3 rfl|some o=>
     rw[g1]at nb3;cases o with
     |none=>refine thn (T.done X rfl rfl rfl hc i pa s3 σ3 H3 _ I3.inv (ae fr3) t3 (sr3.stop I3 g1)) λr s4 ⟨hr,I4⟩=>?_;subst hr;exact wpAny_execs_nil ⟨.nx env3,S3,by rw[<-eq3];simp only[X9,g1],rfl,σ3,H3,ρ3,⟨I4,I3.sr,I3.er⟩,st3,λz=>nomatch z⟩|some d=>
      dsimp only at nb3;obtain⟨go,yl⟩:=sr3.go I3 g1;refine thn (T.item X rfl rfl rfl hc i pa s3 σ3 H3 _ I3.inv (ae fr3) t3 go) λr s4 ⟨u,hr,h4⟩=>?_;subst hr;refine thn h4 λ_ s5 ⟨x,H5,I5,r5,y5,t5,fr5⟩=>?_;obtain⟨aj,ac,ap⟩:=yl x H5 y5;have ai:=I5.pinned (ae fr5) (T.obj _ _ t5);cases e6:Xu t d env3 with
      |none=>rw[e6]at nb3;cases nb3 rfl|some af=>
       rw[e6]at nb3;dsimp only at nb3;refine hg (pa++Xbe fp s5.heap) s5 σ3 H5 ρ3 S3 env3 d x u af _ _ ⟨ai,aj,I3.er.mono ac⟩ e6 ap r5 λs6 ax I6=>?_;have B:=eq3;simp only[X9,g1,e6]at B;cases e7:g af S3 with
       |bad=>rw[e7]at nb3;cases nb3 rfl|ex m S7=>
        rw[e7]at B;refine Vo (hb _ _ _ _ _ _ _ I6 (by rw[e7];exact λz=>nomatch z)) (λfl s7 z7=>?_) λx7 s7 z7=>?_;·obtain⟨_,_,e,_⟩:=z7;rw[e7]at e;cases e
        ·obtain⟨m',S8,Y,e,_,z⟩:=z7;rw[e7]at e;cases e;exact X4e al hf (st3.trans ac) z B.symm|ok x7 S7=>
        rw[e7]at nb3 B;refine hb.ok I6 e7 λfl s7 z7=>?_;have again:∀ {Y:L2.St} {H7:Hp} {U:LR} {ab:En},S0 X (pa++Xbe fp s5.heap) Y H7 s7 U S7 ab->Stp X.K ρ3 U H5 H7->X9 src.get t g n (i+1) ab S7≠.bad->X9 src.get t g n (i+1) ab S7=r0 ->
          ∃m,m<n+1/\∃i ag H' ρ' S' L,S0 X pa ag H' s7 ρ' S' L/\tn i s7.heap/\(∀b∈fp,H' b=yy)/\SrcR X.K ρ' H' src J/\Stp X.K ρ ρ' H H'/\X9 src.get t g m i L S'≠.bad/\X9 src.get t g m i L S'=r0:=
         λ{Y H7 U ab} I7 aa nb7 eq7=>by refine⟨n,Ve0 _,i+1,Y,H7,U,S7,ab,I7.rep I7.inv.unpinned,T.keep _ _ _ t5 λb hb o e=>(I7.inv.pin (b,o) (Vak _ (Vak _ (Xcf hb e)))).1,λb hb=>?_,sr3.mono (ac.trans aa),st3.trans (ac.trans aa),nb7,eq7⟩;obtain⟨o,e,_⟩:=T.obj _ _ t5 b hb;exact(I7.inv.pin (b,o) (Vak _ (Vak _ (Xcf hb e)))).2.1
        cases x7 with
        |nx e=>obtain⟨rfl,Y,H7,U,I7,aa,_⟩:=z7;exact again I7 aa nb3 B|cnt e=>obtain⟨rfl,Y,H7,U,I7,aa⟩:=z7;exact again I7 aa nb3 B|brk e=>obtain⟨rfl,Y,H7,U,I7,aa⟩:=z7;exact⟨.nx e,S7,B.symm,rfl,Y,H7,U,I7.rep I7.inv.unpinned,st3.trans (ac.trans aa),λz=>nomatch z⟩|rt d'=>obtain⟨u',v',Y,H7,U,rfl,I7,av,aq,ak,aa⟩:=z7;exact⟨.rt d',S7,B.symm,u',v',Y,H7,U,rfl,I7.unpinned,av,aq,ak,st3.trans (ac.trans aa)⟩
end
theorem Xd7(env:Vb9)(P:Str->Addr->Prop):∀(names:List (Str×Veo)) (L:List (Str×Addr)),(∀x∈names,x.2=.free->∃c,env.cells.lookup x.1=yz c/\P x.1 c)->(∀x c,L.lookup x=yz c->P x c) ->
  ∃U,(forIn names L λ(x:Str×Veo) (r:List (Str×Addr))=>(match x with
   | (name,kind)=>if (kind==Vgd)=yx then do
     let a <- cellOf env name
     pure (Vem ((name,a)::r))
    else pure (Vem r):Sem (ForInStep (List (Str×Addr)))))=(pure U:Sem (List (Str×Addr)))/\(∀x c,U.lookup x=yz c->P x c)/\(∀x c,L.lookup x=yz c->∃c',U.lookup x=yz c')/\∀x∈names,x.2=.free->∃c,U.lookup x.1=yz c
 |[],L,_,hc=>⟨L,rfl,hc,λx c h=>⟨c,h⟩,λ_ h=>nomatch h⟩| (n,k)::r,L,hf,hc=>by
  by_cases hk:k=.free
  ·subst hk
   obtain⟨c,aa,ab⟩:=hf (n,.free) Vz rfl;obtain⟨U,e,h1,h2,h3⟩:=Xd7 env P r ((n,c)::L) (λx B=>hf x (V5 _ B)) (λx d h=>by
    rw[Vbi]at h;by_cases B:x==n;·rw[B]at h;cases h;rw[eq_of_beq B];exact ab
    ·have Y:(x==n)=false:=by simpa using B
     rw[Y]at h;exact hc x d h)
   refine⟨U,?_,h1,λx d h=>?_,λx B J=>?_⟩;·rw[Vc6];simp only[beq_self_eq_true,if_true,cellOf,aa,pure_bind];exact e
   ·by_cases B:x==n;·exact h2 x c (by rw[Vbi,B])
    ·have Y:(x==n)=false:=by simpa using B
     exact h2 x d (by rw[Vbi,Y];exact h)
   rcases Vn.mp B with rfl|B;·exact h2 n c (by rw[Vbi,beq_self_eq_true])
   ·exact h3 x B J
  obtain⟨U,e,h1,h2,h3⟩:=Xd7 env P r L (λx B=>hf x (V5 _ B)) hc;refine⟨U,?_,h1,h2,λx B J=>?_⟩
  ·rw[Vc6];have ac:(k==Vgd)=false:=by simpa using hk
   simp only[ac,Vp,if_false,pure_bind];exact e
  rcases Vn.mp B with rfl|B;·exact aB0 J hk
  ·exact h3 x B J
theorem Xhg(Y:∀x∈scope.names,x.2=.free->∃c,env.cells.lookup x.1=yz c):
  ∃B,closureFor scope env=pure B/\(∀x c,B.lookup x=yz c->env.cells.lookup x=yz c/\(x,.free)∈scope.names)/\∀x∈scope.names,x.2=.free->∃c,B.lookup x.1=yz c:=by
 obtain⟨B,e,h1,_,U⟩:=Xd7 env (λx c=>env.cells.lookup x=yz c/\(x,.free)∈scope.names) scope.names [] (λx L J=>let ⟨c,hc⟩:=Y x L J;⟨c,hc,hc,J▸L⟩) (λx c h=>by simp at h);refine⟨B,?_,h1,U⟩;unfold closureFor;simp only[bind_pure];exact e
noncomputable abbrev Xqm(ifs:LX)(env:Vb9):Sem Bool:=forIn ifs yx λc r=>if r=yx then do let ok <- isTrue c env (eval c env);pure (Vem ok) else pure (Vem r)
noncomputable def cE(k:Bool)(elt:Expr)(gens:List Vbm)(scope:U7)(pos:Pos):Expr:=match k with
 |false=>.ListComp elt gens scope pos|true=>.SetComp elt gens scope pos
noncomputable def aN(k:Bool):String:=match k with
 |false => "list.append"|true => "set.add"
def Xig(k:Bool)(M:Model)(A:Uu)(elt:Expr)(gens:List Vbm)(scope:U7)(pos:Pos)(d:Nat)(acc:Vb)(env:Vb9)(P:Vc->Prop)(s:Vc):Prop:=
 match gens[d+1]? with
 |none=>Vg M A (eval elt env) (λx L=>Vg M A (call (.builtin (aN k)) [acc,x]) (λ_ B=>P B) (λ_ _=>False) L) (λ_ _=>False) s|some U=>U.is_async=0/\(∀x,Vbv U.iter env x=pure x)/\Vg M A (eval U.iter env) (λx L=>Vg M A (pyIter x) (λJ B=>Vcy M A (.compStart (cE k elt gens scope pos) (d+1) J acc env) (λr Y=>match r with|.ok _=>P Y|.error _=>False) B) (λ_ _=>False) L) (λ_ _=>False) s
section
variable{prog:V4}{w:Ua}{A:Uu}{s:Vc}{R:Result->Vc->Prop}
theorem Xsw(hg:gens[d]?=yz ⟨target,iter,ifs,0⟩)(hm:A.mark yy=A)(I:Nat->Vc->Prop)
  (turn:∀n s,I n s->Vg (Vl prog w) A (Vei it) (λr s₁=>match r with
   |none=>R (.ok .next) s₁
   |some v=>Vg (Vl prog w) A (Vej target it v) (λ_ Y=>Vg (Vl prog w) A (assign target env v) (λ_ ae=>Vg (Vl prog w) A (Xqm ifs env) (λok aa=>if ok=yx then Xig k (Vl prog w) A elt gens scope pos d acc env (λU=>∃m,m<n/\I m U) aa else ∃m,m<n/\I m aa) (λ_ _=>False) ae) (λ_ _=>False) Y) (λ_ _=>False) s₁) (λ_ _=>False) s)
  (n:Nat) (h:I n s):Vcy (Vl prog w) A (.compLoop (cE k elt gens scope pos) d it acc env) R s:=by
 cases k
 all_goals
  refine codeAny_loop rfl I (λn s hI=>?_) n h;show Vg _ A ((compTurn _ d it acc env).onRaise (λx=>do noteFrame x env;theTreesLotGoes x)) _ _ s;refine wpAny_noted (Vo (E:=λ_ _=>False) ?_ (λ_ _ z=>z) λ_ _ z=>z.elim);unfold compTurn;simp only[cE,hg,show((0:Nat) != 0)=yw from rfl,Vp,if_false];refine Va (Vef (Va (Vo (turn n s hI) (λr s₁ ab=>?_) λ_ _ z=>z)));cases r with
  |none=>exact Vd ab|some v=>
   refine Va (Vo ab (λ_ Y ag=>Va (Vo ag (λ_ ae ah=>Va (Vo ah (λok aa B=>?_) λ_ _ z=>z)) λ_ _ z=>z)) λ_ _ z=>z);cases ok with
   |false=>rw[iN0 Us]at B;simp only[Vp,if_false];exact Vd ⟨rfl,B⟩|true=>
    rw[iP0 rfl]at B;simp only[if_true];unfold Xig at B;cases hq:gens[d+1]? with
    |none=>
     rw[hq]at B;simp only[bind_assoc,pure_bind]
     first
      |exact Va (Vo B (λx af J=>Va (Vo J (λ_ U L=>Vd ⟨rfl,L⟩) λ_ _ z=>z)) λ_ _ z=>z)
      |exact Va (Vo B (λx af J=>Va (Vef (Va (Vo J (λ_ U L=>Vd ⟨rfl,L⟩) λ_ _ z=>z)))) λ_ _ z=>z)
    |some g'=>
     rw[hq]at B;obtain⟨ha,hf,B⟩:=B;simp only[ha,show((0:Nat) != 0)=yw from rfl,Vp,if_false];refine Va (Vo B (λx af J=>Va (Vef (Va (Vga (hf x) (Va (Uo (Vo J (λaj U L=>?_) λ_ _ z=>z))))))) λ_ _ z=>z);refine Va (wpAny_runOwn ?_);rw[hm];refine Vet L λr ai ac=>?_;cases r with
     |ok f=>exact Vd ⟨rfl,ac⟩|error e=>exact ac.elim
theorem Xqn(hg:gens[d]?=yz ⟨target,iter,ifs,0⟩)
  (B:Vcy (Vl prog w) A (.compLoop (cE k elt gens scope pos) d it acc env) R s)
  (h:Vg (Vl prog w) A (pyIter it) (λit' s'=>Vcy (Vl prog w) A (.compLoop (cE k elt gens scope pos) d it' acc env) R s') (λ_ _=>False) s):
  Vcy (Vl prog w) A (.compStart (cE k elt gens scope pos) d it acc env) R s:=by
 cases k
 all_goals
  refine Vgt ?_;show Vg _ _ ((compStart _ d it acc env).onRaise (λx=>do noteFrame x env;standAt theWindowsPlace)) _ _ s;refine wpAny_notedAt ?_;unfold compStart;simp only[cE,clausesOf,hg,Option.elim,show((0:Nat) != 0)=yw from rfl,Vp,if_false];refine Va (Vdk (wpAny_ite ?_));split
  ·first
    |exact Va (Vd (Vd (And.intro rfl B)))|exact Vd (And.intro rfl B)
  ·refine Va (Vd0 ?_);refine Va (Vef (Va (Vo h (λit' s' h'=>Vd (And.intro rfl h')) λ_ _ x=>x.elim)))
end
section
variable{X:Cx}{pa:LA}{σ:L2.St}{H:Hp}{s:Vc}{ρ:LR}{S S':Sto}{env:En}{Q:VP}{E:VP}
def DTs(X:Cx)(ifs:LX)(f:En->Sto->R Bool):Prop:=
 ∀(pa:LA) (s:Vc) (σ:L2.St) (H:Hp) (ρ:LR) (S:Sto) (env:En) (b:Bool) (S':Sto) (Q:Bool->Vc->Prop) (E:VP),S0 X pa σ H s ρ S env->f env S=.ok b S' ->
  (∀s' H' ρ',S0 X pa σ H' s' ρ' S' env->Stp X.K ρ ρ' H H'->Q b s')->Vg (Vl X.prog X.w) X.A (Xqm ifs X.env) Q E s
theorem Xf9{M:Model}{A:Uu}{env:Vb9}{s:Vc}{Q:Bool->Vc->Prop}{E:VP}(h:Q yw s):∀ifs:LX,
  Vg M A (forIn ifs yw λc r=>if r=yx then do let ok <- isTrue c env (eval c env);pure (Vem ok) else pure (Vem r)) Q E s
 |[]=>Vd h|c::r=>by rw[Vc6];simp only[Vp,if_false];exact Va (Vd (Xf9 h r))
theorem X0g:DTs X [] (λ_ S=>.ok yx S):=by intro pa s σ H ρ S env b S' Q E I h B;cases h;exact Vd (B s H ρ I .refl)
theorem Xvz{U:LX}{fc:En->Sto->R D}{g:En->Sto->R Bool}(hc:DT X c (λenv S=>tst (fc env S)))(hr:DTs X U g):
  DTs X (c::U) (λenv S=>(fc env S).bind λx S=>match Xg S x with|some yx=>g env S|some yw=>.ok yw S|none=>.bad):=by
 intro pa s σ H ρ S env b S' Q E I h hQ;dsimp only at h;cases q:fc env S with
 |bad=>rw[q]at h;cases h|ex n S1=>rw[q]at h;cases h|ok x S1=>
  rw[q]at h;simp only[Rk0]at h;unfold Xqm;rw[Vc6];simp only[if_true];cases t:Xg S1 x with
  |none=>rw[t]at h;cases h|some r=>
   rw[t]at h;refine Va (Va (hc.ok I (by simp only[q];exact Xbk t) λs2 H2 B I2 J=>Vd ?_));cases r with
   |true=>exact hr pa s2 σ H2 B S1 env b S' Q E I2 h λs3 H3 L I3 Y=>hQ s3 H3 L I3 (J.trans Y)|false=>cases h;exact Xf9 (hQ s2 H2 B I2 J) U
theorem Mon.trans{K:Vj}{ρ' ρ'':LR}{H' H'':Hp}(x:Mon K ρ ρ' H H')(y:Mon K ρ' ρ'' H' H''):Mon K ρ ρ'' H H'':=
 ⟨λn a h=>y.pre n a (x.pre n a h),λa xs h=>y.tup a xs (x.tup a xs h),λa o u h=>y.frz a o u (x.frz a o u h)⟩
theorem Xqo:∀(is:LN) (ds:LD) (env:En),i ∉ is->((is.zip ds).foldl (λe p=>e.set p.1 (yz p.2)) env)[i]?=env[i]?:=by
 intro is;induction is with
 |nil=>intro ds env _;simp|cons j B ih=>
  intro ds env hn;cases ds with
  |nil=>simp|cons d ds=>simp only[Vfh,Vel];rw[ih ds _ (λz=>hn (V5 _ z)),Vay (λz=>hn (by simp[z]))]
theorem Xnp{t:Tg}{d:D}{env B:En}(h:Xu t d env=yz B){i:Nat}(hi:i ∉ slots t):B[i]?=env[i]?:=by
 cases t with
 |var j=>simp only[Xu,Vv]at h;subst h;have:j≠i:=λz=>hi (by simp[slots,z]);rw[Vay this]|tup is=>
  cases d with
  |tup ds=>
   simp only[Xu]at h;split at h;·cases h;exact Xqo is ds env hi
   ·cases h|_=>cases h
def Xgp:Type:=LR->Hp->LD->Prop
def Xhh(K:Vj)(Da:Addr)(AR:Xgp):Prop:=∀(ρ ρ':LR) (H H':Hp) (B:LD),AR ρ H B->Da ∉ ρ->Stp K ρ ρ' H H'->Da ∉ ρ'/\AR ρ' H' B
noncomputable def LstA(K:Vj)(Da:Addr):Xgp:=fun ρ H B=>∃vs,H Da=yz (.lst vs)/\RDs K ρ H B vs
def Xb5(k:Bool)(AR:Xgp)(Y:Cx)(Da:Addr)(elt:Expr)(gens:List Vbm)(scope:U7)(cpos:Pos)(d:Nat)(body:En->LD->Sto->R LD):Prop:=
 ∀(pa:LA) (s:Vc) (σ:L2.St) (H:Hp) (ρ:LR) (S S':Sto) (env:En) (J B:LD) (H0:Hp) (ρ0:LR) (P:Vc->Prop),S0 Y pa σ H s ρ S env->Da ∉ ρ->AR ρ H J->H0 Da=yy->Stp Y.K ρ0 ρ H0 H ->
  body env J S=.ok B S'->(∀s' L H' ρ',S0 Y pa L H' s' ρ' S' env->Da ∉ ρ'->AR ρ' H' B->Stp Y.K ρ0 ρ' H0 H'->Mon Y.K ρ ρ' H H'->P s') ->
  Xig k (Vl Y.prog Y.w) Y.A elt gens scope cpos d (.ref Da) Y.env P s
theorem Stp.out{K:Vj}{ρ':LR}{H':Hp}{Da:Addr}{o:HO}(st:Stp K ρ ρ' H H')(B:H Da=yz o)(hn:Da ∉ ρ):Da ∉ ρ'/\H' Da=yz o:=
 ⟨λJ=>(st.new Da J).elim hn (λz=>by rw[B]at z;cases z),st.keep Da o B hn⟩
theorem LstA.ok{K:Vj}{Da:Addr}:Xhh K Da (LstA K Da):=fun ρ ρ' H H' acc ⟨vs,h,r⟩ hn st=>⟨(st.out h hn).1,vs,(st.out h hn).2,r.mono st⟩
theorem Xsx{k:Bool}{AR:Xgp}{Y:Cx}{Da it:Addr}{elt tg iter:Expr}{gens:List Vbm}{ifs:LX}{scope:U7}{cpos:Pos}{d:Nat}{t:Tg}{src:Src}{J:L2.It}{fp:LR}{tn:Nat->Heap->Prop}{tf:En->Sto->R Bool}{body:En->LD->Sto->R (LD)}
  {pa:LA} {σ:L2.St} {H H0:Hp} {s:Vc} {ρ ρ0:LR} {S Sf:Sto} {env:En} {acc ab:LD} {P:Vc->Prop} (hA:Xhh Y.K Da AR) (hc:Y.calm=yx) (hg:gens[d]?=yz ⟨tg,iter,ifs,0⟩)
  (T:Turn Y.prog Y.w Y.K tg J fp it tn) (hG:DG Y tg t) (hT:DTs Y ifs tf) (hB:Xb5 k AR Y Da elt gens scope cpos d body) (h0:H0 Da=yy)
  (I:S0 Y pa σ H s ρ S env) (t0:tn 0 s.heap) (f0:∀b∈fp,Xa6 Y pa H b) (sr:SrcR Y.K ρ H src J) (hn:Da ∉ ρ) (ha:AR ρ H acc) (av:Stp Y.K ρ0 ρ H0 H)
  (hr:Xp src.get t (Xr tf body) (src.most S+1) 0 env acc S=.ok ab Sf)
  (hP:∀s' ah H' ρ' B,S0 Y pa ah H' s' ρ' Sf B->(∀i,i ∉ slots t->B[i]?=env[i]?)->Da ∉ ρ'->AR ρ' H' ab->Stp Y.K ρ0 ρ' H0 H'->Mon Y.K ρ ρ' H H'->P s'):
  Vcy (Vl Y.prog Y.w) Y.A (.compStart (cE k elt gens scope cpos) d (.ref it) (.ref Da) Y.env) (λr s'=>match r with|.ok _=>P s'|.error _=>False) s:=by
 have ai:Vcy (Vl Y.prog Y.w) Y.A (.compLoop (cE k elt gens scope cpos) d (.ref it) (.ref Da) Y.env) (λr s'=>match r with|.ok _=>P s'|.error _=>False) s:=by
  have ae:∀ {H':Hp},(∀b∈fp,H' b=yy)->∀b∈fp,Xa6 Y pa H' b:=λhn b hb=>⟨hn b hb,(f0 b hb).2⟩
  refine Xsw hg rfl (λn s'=>∃i ah H' ρ' S' B U,S0 Y pa ah H' s' ρ' S' B/\tn i s'.heap/\(∀b∈fp,H' b=yy)/\SrcR Y.K ρ' H' src J/\Mon Y.K ρ ρ' H H'/\Stp Y.K ρ0 ρ' H0 H'/\Da ∉ ρ'/\AR ρ' H' U /\
   (∀i,i ∉ slots t->B[i]?=env[i]?)/\Xp src.get t (Xr tf body) n i B U S'=.ok ab Sf) ?_ (src.most S+1) ⟨0,σ,H,ρ,S,env,acc,I,t0,λb hb=>(f0 b hb).1,sr,Stp.refl.toMon,av,hn,ha,λ_ _=>rfl,hr⟩
  rintro n s3 ⟨i,σ3,H3,ρ3,S3,env3,acc3,I3,t3,fr3,sr3,mo3,st3,hn3,ha3,hs3,eq3⟩;cases n with
  |zero=>cases eq3|succ n=>
   simp only[Xp]at eq3;cases g1:src.get S3 i with
   |none=>rw[g1]at eq3;cases eq3|some o=>
    rw[g1]at eq3;cases o with
    |none=>cases eq3;refine thn (T.done Y rfl rfl rfl hc i pa s3 σ3 H3 _ I3.inv (ae fr3) t3 (sr3.stop I3 g1)) λr s4 ⟨hr,I4⟩=>?_;subst hr;exact hP s4 σ3 H3 ρ3 env3 ⟨I4,I3.sr,I3.er⟩ hs3 hn3 ha3 st3 mo3|some dd=>
     dsimp only at eq3;obtain⟨go,yl⟩:=sr3.go I3 g1;refine thn (T.item Y rfl rfl rfl hc i pa s3 σ3 H3 _ I3.inv (ae fr3) t3 go) λr s4 ⟨u,hr,h4⟩=>?_;subst hr;refine thn h4 λ_ s5 ⟨x,H5,I5,r5,y5,t5,fr5⟩=>?_;obtain⟨a0,ac,ay⟩:=yl x H5 y5;have ar:=I5.pinned (ae fr5) (T.obj _ _ t5);cases e6:Xu t dd env3 with
     |none=>rw[e6]at eq3;cases eq3|some L=>
      rw[e6]at eq3;dsimp only at eq3;refine hG (pa++Xbe fp s5.heap) s5 σ3 H5 ρ3 S3 env3 dd x u L _ _ ⟨ar,a0,I3.er.mono ac⟩ e6 ay r5 λs6 aq I6=>?_;obtain⟨_,az⟩:=hA _ _ _ _ _ ha3 hn3 ac;cases e7:Xr tf body L acc3 S3 with
      |bad=>rw[e7]at eq3;cases eq3|ex m S7=>rw[e7]at eq3;cases eq3|ok ag S7=>
       rw[e7]at eq3;dsimp only at eq3;have aw:∀i,i ∉ slots t->L[i]?=env[i]?:=λi hi=>(Xnp e6 hi).trans (hs3 i hi);have again:∀ {s7:Vc} {ak:L2.St} {H7:Hp} {aa:LR},S0 Y (pa++Xbe fp s5.heap) ak H7 s7 aa S7 L->SrcR Y.K aa H7 src J->Mon Y.K ρ aa H H7->Stp Y.K ρ0 aa H0 H7->Da ∉ aa->AR aa H7 ag ->
         ∃m,m<n+1/\∃i ah H' ρ' S' B U,S0 Y pa ah H' s7 ρ' S' B/\tn i s7.heap/\(∀b∈fp,H' b=yy)/\SrcR Y.K ρ' H' src J/\Mon Y.K ρ ρ' H H'/\Stp Y.K ρ0 ρ' H0 H'/\Da ∉ ρ'/\AR ρ' H' U /\
          (∀i,i ∉ slots t->B[i]?=env[i]?)/\Xp src.get t (Xr tf body) m i B U S'=.ok ab Sf:=λ{s7 ak H7 aa} I7 sr7 mo7 st7 hn7 ha7=>by
        refine⟨n,Ve0 _,i+1,ak,H7,aa,S7,L,ag,I7.rep I7.inv.unpinned,T.keep _ _ _ t5 λb hb o e=>(I7.inv.pin (b,o) (Vak _ (Vak _ (Xcf hb e)))).1,λb hb=>?_,sr7,mo7,st7,hn7,ha7,aw,eq3⟩;obtain⟨o,e,_⟩:=T.obj _ _ t5 b hb;exact(I7.inv.pin (b,o) (Vak _ (Vak _ (Xcf hb e)))).2.1
       unfold Xr at e7;cases e8:tf L S3 with
       |bad=>rw[e8]at e7;cases e7|ex m S8=>rw[e8]at e7;cases e7|ok b8 S8=>
        rw[e8]at e7;simp only[Rk0]at e7;refine hT (pa++Xbe fp s5.heap) s6 aq H5 ρ3 S3 L b8 S8 _ _ I6 e8 λs8 H8 al I8 af=>?_;obtain⟨ao,am⟩:=hA _ _ _ _ _ az hn3 af;have aj:=st3.trans (ac.trans af);have ap:SrcR Y.K al H8 src J:=sr3.mono (ac.trans af);cases b8 with
        |false=>rw[iN0 Us]at e7 ⊢;cases e7;exact again I8 ap (mo3.trans (ac.trans af).toMon) aj ao am|true=>rw[iP0 rfl]at e7 ⊢;exact hB (pa++Xbe fp s5.heap) s8 aq H8 al S8 S7 L acc3 ag H0 ρ0 _ I8 ao am h0 aj e7 λs9 a3 H9 a2 I9 au a1 ax an=>again I9 (ap.mono' an) ((mo3.trans (ac.trans af).toMon).trans an) ax au a1
 exact Xqn hg ai (T.self Y.A 0 s _ _ t0 ai)
theorem Xj6(hg:gens[d+1]?=yy)(he:DE Y elt fe):
  Xb5 yw (LstA Y.K Da) Y Da elt gens scope cpos d (λenv acc S=>(fe env S).bind λy S=>if (lf acc)<big then .ok (acc++[y]) S else .bad):=by
 intro pa s σ H ρ S S' env acc ac H0 ρ0 P I hn ⟨vs,hD,ra⟩ h0 st0 hb hP;unfold Xig;rw[hg];dsimp only at hb ⊢;cases q:fe env S with
 |bad=>rw[q]at hb;cases hb|ex n S1=>rw[q]at hb;cases hb|ok y S1=>
  rw[q]at hb;simp only[Rk0]at hb;split at hb
  ·rename_i hz;cases hb;refine he.ok I q λu s1 v H1 U I1 rv rd B=>?_;obtain⟨aa,L⟩:=B.out hD hn;have ab:(lf vs)<V8:=by rw[<-ra.length];exact Ub hz Xem
   refine mtd (X:=Y) (Q':=λz H'=>z=.non/\H'=upd H1 Da (.lst (vs++[v]))) Xj0 I1.inv (show RelV (.ref Da) (.ref Da) from rfl) (.cons rv .nil) ⟨Da,vs,v,rfl,rfl,L,ab,rfl,rfl⟩ λw s2 z H2 J rz ⟨e1,e2⟩=>?_;subst e1 e2;have mo:Mon Y.K U U H1 (upd H1 Da (.lst (vs++[v]))):=Mon.own L;refine hP s2 σ _ U ⟨J,I1.sr.own L aa,I1.er.mono' mo⟩ aa ⟨vs++[v],Yi,(RDs.mono' mo _ _ (ra.mono B)).append (.cons (RD.mono' mo _ _ rd) .nil)⟩ ((st0.trans B).own h0 L) ⟨λn a h=>B.pre n a h,λa xs h=>mo.tup a xs (B.tup a xs h),λa o u h=>mo.frz a o u (B.frz a o u h)⟩
  cases hb
theorem Xj7{k:Bool}{AR:Xgp}(hA:Xhh Y.K Da AR)(hc:Y.calm=yx)
  (hg:gens[d+1]?=yz ⟨tg2,iter2,ifs2,0⟩) (hi:DI Y tg2 iter2 fi) (hs:∀x,Vbv iter2 Y.env x=pure x) (hG:DG Y tg2 t2) (hT:DTs Y ifs2 tf) (hB:Xb5 k AR Y Da elt gens scope cpos (d+1) body):
  Xb5 k AR Y Da elt gens scope cpos d (λenv acc S=>if Xbh t2 env then (fi env S).bind λsrc S=>Xp src.get t2 (Xr tf body) (src.most S+1) 0 env acc S else .bad):=by
 intro pa s σ H ρ S S' env acc an H0 ρ0 P I hn ha h0 aa B hP;unfold Xig;rw[hg];dsimp only at B ⊢;split at B
 ·rename_i ah;refine⟨rfl,hs,?_⟩;cases q:fi env S with
  |bad=>rw[q]at B;cases B|ex n S1=>rw[q]at B;cases B|ok src S1=>
   rw[q]at B;simp only[Rk0]at B;refine Vo (hi pa s σ H ρ S env (λ_ _=>False) I (by rw[q];exact λz=>nomatch z) λx s' z=>?_) (λv s1 h1=>Vo h1 (λar s2 h2=>?_) λ_ _ z=>z) λ_ _ z=>z;·rw[q]at z;obtain⟨m,S2,e,z⟩:=z;cases e
   ·obtain⟨ao,S2,it,fp,tn,J,H2,aq,e1,rfl,I2,T,t0,f2,ak,ae,L⟩:=h2;rw[q]at e1;cases e1;obtain⟨ab,ag⟩:=hA _ _ _ _ _ ha hn L;refine Xsx (ρ0:=ρ0) (H0:=H0) hA hc hg T hG hT hB h0 (I.step I2 ae L) t0 f2 ak ab ag (aa.trans L) B λs' am H' ρ' ap U af aj ac ai al=>?_;refine hP s' am H' ρ' ⟨U.inv,U.sr,⟨?_,λi d e=>?_⟩⟩ aj ac ai (L.toMon.trans al);·have h1:=I.er.len;have h2:=I.inv.len;have h3:=U.inv.len;omega
    ·by_cases hi:i∈slots t2;·have z:=Uk.mp ah i hi;rw[e]at z;cases z
     ·exact U.er.val i d ((af i hi).trans e)
 ·cases B
end
noncomputable def hid(own:LS)(y:Str):Str:=if own.contains y then Vao "0" ++ y else y
noncomputable def Yt(N own:LS):LS:=N.map (hid own)++own
structure ScOk(outer sc:U7)(N own:LS):Prop where
 kind:sc.kind=.function
 okind:outer.kind=.function
 nd:(Yt N own).Nodup
 cel:∀y∈sc.names,y.2=.cell->y.1∈own
 apart:∀y∈sc.names,y.2=.free->y.1 ∉ own
 free:∀y∈sc.names,y.2=.free->outer.names.lookup y.1=yz .cell\/outer.names.lookup y.1=yz .free
 loc:∀y,sc.names.lookup y=yz .local->y∈own
 names:∀x∈sc.names,x.2=.local->sc.names.lookup x.1=yz .local
 hidn:∀y∈N,own.contains y=yx->sc.names.lookup (Vao "0" ++ y)=yy
section
variable{X:Cx}{pa:LA}{σ:L2.St}{H:Hp}{s:Vc}{ρ:LR}{S:Sto}{env:En}{Q:VP}{E:VP}
noncomputable def blk(X:Cx)(pa:LA)(s:Vc)(H:Hp)(sc:U7)(B:List (Str×Addr))(C:Addr)(own:LS)(fp:LR):Cx:=
 { X with N:=Yt X.N own,s₀:=s,H₀:=H,env:=compEnvC sc B C X.env,outer:=X.stack,stack:=X.stack,ex:=fp,fn:=λx=>own.contains x,pn:=X.pn++pa}
theorem Xcg{names:List (Str×Veo)}(h:names.lookup x=yz k):(x,k)∈names:=Vco h
theorem Xnq{B:List (Str×Addr)}(h:B.lookup x=yz c):(x,c)∈B:=Vco h
theorem Xb1(sc:U7)(env:Vb9)(x:Str):(relabel sc env).names.lookup x=(sc.names.lookup x).map λk=>if (k == .free&&env.scope.kind == .function&&env.kindOf x==yz .cell)=yx then .cell else k:=by
 unfold relabel;dsimp only;induction sc.names with
 |nil=>rfl|cons y r ih=>
  obtain⟨n,k⟩:=y;show List.lookup x ((if (k==Vgd&&env.scope.kind == .function&&env.kindOf n==yz .cell)=yx then (n,NameKind.cell) else (n,k))::_)=_;by_cases J:x==n
  ·have e:=eq_of_beq J;subst e;by_cases hc:(k==Vgd&&env.scope.kind == .function&&env.kindOf x==yz .cell)=yx;·rw[iP0 hc,Vbi,beq_self_eq_true,Vbi,beq_self_eq_true];exact congrArg yz (iP0 hc).symm
   ·rw[iN0 hc,Vbi,beq_self_eq_true,Vbi,beq_self_eq_true];exact congrArg yz (iN0 hc).symm
  have B:(x==n)=false:=by simpa using J
  by_cases hc:(k==Vgd&&env.scope.kind == .function&&env.kindOf n==yz .cell)=yx;·rw[iP0 hc,Vbi,B,Vbi,B];exact ih
  ·rw[iN0 hc,Vbi,B,Vbi,B];exact ih
theorem X4g{own:LS}{cl:List (Str×Addr)}{fp:LR}{m:Str->OV}(so:ScOk X.env.scope sc X.N own)(I:Inv X pa σ H s)(hf:∀b∈fp,Xa6 X pa H b)
  (Y:∀x c,cl.lookup x=yz c->(x ∉ own/\X.env.cells.lookup x=yz c)\/(x∈own/\C<c/\s4.heap.IsCell c yy)) (aj:∀x y c,cl.lookup x=yz c->cl.lookup y=yz c->x=y) (ae:∀x,sc.names.lookup x=yz .cell\/sc.names.lookup x=yz .free->∃c,cl.lookup x=yz c)
  (ac:Da=s.heap.objs.size) (hC:C=s.heap.objs.size+1) (ao:s4.os=s.os) (ag:s4.gens=s.gens) (keep:∀b o,s.heap.get? b=yz o->s4.heap.get? b=yz o)
  (al:s4.heap.Ns C m) (ah:ObjOk X.prog X.w (upd H Da u) s4.heap Da u) (ai:∀b∈fp,b<s.heap.objs.size):
  Inv (blk X pa s H sc cl C own fp) [] (σ++Vu (lf own) yy) (upd H Da u) s4:=by
 have hD:H Da=none:=by rw[ac];exact I.hok.fresh (Vm _)
 have an:H C=none:=by rw[hC];exact I.hok.fresh (Vdn _)
 have ap:C≠Da:=by rw[hC,ac];exact Vc3 (Ve0 _)
 have B:∀b,b<s.heap.objs.size->b≠C/\b≠Da:=λb U=>⟨by rw[hC];exact Uc (Vax U),by rw[ac];exact Uc U⟩;have aa:∀x c,X.env.cells.lookup x=yz c->c<s.heap.objs.size:=λx c e=>by obtain⟨v,q⟩:=I.cell x c e;exact q.lt
 refine⟨⟨I.ok.mod,so.kind,I.ok.glob,I.ok.blt,?_,?_,?_,?_,I.ok.hd,I.ok.frames,.inl rfl,?_,I.bs,?_,?_,?_,I.stack,I.stkFree⟩,ao,?_,?_,?_,?_,?_,?_,?_,?_,?_⟩;·show s.heap.objs.size<=C;rw[hC];exact Vdn _
 ·exact aj
 ·intro x hx;have ab:(relabel sc X.env).names.lookup x=yz .cell\/(relabel sc X.env).names.lookup x=yz .free:=hx;rw[Xb1]at ab;cases e:sc.names.lookup x with
  |none=>rw[e]at ab;simp at ab|some k=>
   rw[e]at ab;have hk:k=.cell\/k=.free:=by
    rcases ab with h|h
    ·simp only[V2,Vv]at h;split at h;·rename_i hc;simp only[bA0,beq_iff_eq]at hc;exact .inr hc.1.1
     ·exact .inl h
    simp only[V2,Vv]at h;split at h;·cases h
    ·exact .inr h
   exact ae x (hk.elim (λz=>.inl (z▸e)) λz=>.inr (z▸e))
 ·intro x c h e;have hx:x∈own:=by simpa using (show own.contains x=yx from h)
  rcases Y x c e with⟨z,_⟩|⟨_,z,_⟩;·exact aB0 hx z
  ·show s.heap.objs.size<=c;rw[hC]at z;exact Vc1 (Vf6 z)
 ·intro b U;refine⟨(B b (ai b U)).1,λx c h=>?_⟩;rcases Y x c h with⟨_,z⟩|⟨_,z,_⟩;·exact(hf b U).2.2.2.2.1 x c z
  ·rw[hC]at z;exact Vc3 (Veu (ai b U) (Vf6 z))
 ·exact Uv I.ok.bsz I.sz
 ·intro b o e U;rcases (hf b U).2.2.2.1 with z|z;·exact I.ok.noex b o e z
  ·exact aB0 (Ub (Vw e) (Uv I.ok.bsz z)) (Vds _)
 ·intro b U hm;rcases Vn.mp (I.stkSub b hm) with z|z;·exact(hf b U).2.1 z
  ·exact(hf b U).2.2.1 z
 ·rw[ag];exact I.bare
 ·refine⟨λb o e _ _ _=>keep b o e,λb o e _ _ _=>⟨o.slots,keep b o e⟩,λb o e n _=>?_,λb o e _=>⟨o,keep b o e⟩,λb xs e=>?_,λb o u e=>?_,λb ps e=>⟨#[],?_⟩⟩;·show upd H Da _ b=yy;rw[Xj (B b (Vw e)).2];exact n
  ·rw[Xj (Xs e hD)];exact e
  ·rw[Xj (Xs e hD)];exact e
  rw[Xj (Xs e hD),show H b=yz (.tbl ps) from e];simp
 ·refine⟨m,al,λi x v h1 h2 h3=>?_⟩;have hi:i<X.N.length:=by
   by_cases hi:i < σ.length;·rw[I.len]at hi;exact hi
   ·rw[Vaq (by omega),Vdf]at h2;split at h2<;>cases h2
  have J:(Yt X.N own)[i]?=yz x:=h1;unfold Yt at J;rw[V1 (by simpa using hi),Vx]at J;rw[V1 (by rw[I.len];exact hi)]at h2;cases ey:X.N[i]? with
  |none=>rw[ey]at J;cases J|some y=>
   rw[ey]at J;simp only[V2,Vv]at J;have ar:Vis (relabel sc X.env) x:=h3;have ak:=so.loc;have af:x ∉ own:=λhm=>by have nd:=so.nd;unfold Yt at nd;rw[Vda]at nd;exact nd.2.2 x (V0.mpr ⟨y,V6 ey,J⟩) x hm rfl
   have L:sc.names.lookup x=yz .free:=by
    have:(relabel sc X.env).names.lookup x=yz .local\/(relabel sc X.env).names.lookup x=yz .cell\/(relabel sc X.env).names.lookup x=yz .free:=ar;rw[Xb1]at this;cases e:sc.names.lookup x with
    |none=>rw[e]at this;simp at this|some k=>
     cases k with
     |free=>rfl|«local»=>exact aB0 (ak x e) af|cell=>exact aB0 (so.cel _ (Xcg e) rfl) af|_=>rw[e]at this;simp at this
   have aq:x=y:=by
    unfold hid at J;split at J;·rename_i hc;have z:=so.hidn y (V6 ey) hc;rw[J,L]at z;cases z
    ·exact J.symm
   subst aq;obtain⟨c,hc⟩:=ae x (.inr L);have am:=((Y x c hc).resolve_right λz=>af z.1).2;have kx:=so.free (x,.free) (Xcg L) rfl;obtain⟨m0,au,hl⟩:=I.loc;obtain⟨u,ru,lk⟩:=hl i x v ey h2 (kx.elim (λz=>.inr (.inl z)) λz=>.inr (.inr z));refine⟨u,ru,.inr ⟨?_,c,hc,?_⟩⟩
   ·show(relabel sc X.env).names.lookup x=yz .cell\/(relabel sc X.env).names.lookup x=yz .free;rw[Xb1,L];simp only[V2];split;·exact .inl rfl
    ·exact .inr rfl
   rcases lk with⟨k,_⟩|⟨_,c',hc',hcell⟩;·have k':X.env.scope.names.lookup x=yz .local:=k;rcases kx with z|z<;>(rw[k']at z;cases z)
   ·rw[am]at hc';cases hc';exact⟨_,keep _ _ hcell.choose_spec.1,hcell.choose_spec.2⟩
 ·intro x c h;rcases Y x c h with⟨_,z⟩|⟨_,_,z⟩;·obtain⟨v,o,ho,hd⟩:=I.cell x c z;exact⟨v,o,keep _ _ ho,hd⟩
  ·exact⟨yy,z⟩
 ·show upd H Da _ C=yy;rw[Xj ap];exact an
 ·intro x c h;rcases Y x c h with⟨_,z⟩|⟨_,z,_⟩;·rw[Xj (B c (aa x c z)).2];exact I.freeC x c z
  ·rw[hC]at z;rw[Xj (by rw[ac];exact Vc3 (Vf6 z))];exact I.hok.fresh (Vc1 (Vf6 z))
 ·intro p hp;rw[V3]at hp;obtain⟨e,n,ne,nf,d⟩:=I.pin p hp;refine⟨keep _ _ e,?_,(B _ (Vw e)).1,λhm=>?_,d⟩;·rw[Xj (B _ (Vw e)).2];exact n
  ·rcases Vn.mp (I.stkSub _ hm) with z|z;·exact ne z
   ·exact nf z
 ·intro b o e;by_cases U:b=Da;·subst U;rw[Yi]at e;cases e;exact ah
  ·rw[Xj U]at e;exact(I.hok b o e).stay (λc v _ q=>keep c v q) (λc q=>by rw[Xj (Xs q hD)];exact q) λc xs q=>by rw[Xj (Xs q hD)];exact q
 ·show(σ++Vu (lf own) yy).length=(Yt X.N own).length;unfold Yt;simp[I.len]
theorem X0h(I:Inv X pa σ H s)(B:∀b∈fp,Xa6 X pa H b)(J:Inv (blk X pa s H sc cl C own fp) [] σ' H' s'):
  Inv X pa σ H' s':=
 I.call' J.os J.base J.hok J.bare λb L=>⟨(B b L).2.2.2.1,(B b L).2.1,(B b L).2.2.2.2.1,(B b L).2.2.2.2.2⟩
theorem Xeo:∀(names:List (Str×Veo)) (n:Nat) (acc:List (Str×Addr)),Vb6 n names acc=Vb6 n names []++acc
 |[]=>λ_ _=>rfl| (x,k)::r=>λn acc=>by
  unfold Vb6;split;·rw[Xeo r (n+1) ((x,n)::acc),Xeo r (n+1) [(x,n)],Vh];rfl
  ·exact Xeo r n acc
theorem Xl3:∀(names:List (Str×Veo)) (n:Nat),(x,c)∈Vb6 n names []->(x,.cell)∈names
 |[]=>λ_ h=>nomatch h| (y,k)::r=>λn h=>by
  unfold Vb6 at h;split at h
  ·rename_i B;rw[Xeo]at h;rcases Uq.mp h with h|h;·exact V5 _ (Xl3 r (n+1) h)
   ·have e:=V9.mp h;cases e;rw[eq_of_beq B];exact Vz
  exact V5 _ (Xl3 r n h)
theorem X0i {M:Model} {sc:U7} {g:Addr} {J:List (Str×Addr)} {q:Str} {env:Vb9} {R:Vb9->Vc->Prop} (h:R {scope:=sc,locals:=s.heap.objs.size,globals:=g,cells:=Vb6 (s.heap.objs.size+1) sc.names J,qual:=q,func:=yy,code:=env.code,frame:=env.frame,builtins:=env.builtins} {s with heap:=pushCells (s.heap.push {cls:=.type "dict",data:=.dict #[]}) sc.names}):
  Vg M A (newFunctionEnv sc g J [] q yy .none (yz env)) R E s:=by
 simp only[newFunctionEnv,Option.isSome_some,if_true];refine Va (wpAny_alloc ?_);refine Va (wpAny_layCells _ (λname kind cells=>by cases B:kind==NameKind.cell<;>simp[B]) _ _ _ _ ?_);rw[show({s with heap:=s.heap.push {cls:=.type "dict",data:=.dict #[]} }:Vc).heap.objs.size=s.heap.objs.size+1 from Val ..];exact Va (by rw[Vfu];exact Vd (Vd h))
theorem Xep{k:Bool}{AR:Addr->Xgp}{ap:Sem Vb}{oA:Obj}{uA:Addr->HO}(hA:∀Da,Xhh X.K Da (AR Da))(bf:∀(A:Uu) (E:VP) (s:Vc) (Q:VP),Q (.ref s.heap.objs.size) {s with heap:=s.heap.push oA}->Vg (Vl X.prog X.w) A ap Q E s)(bp:oA.isFreed=yw)
  (bm:∀(H:Hp) (h:Heap) (a:Addr),h.get? a=yz oA->ObjOk X.prog X.w H h a (uA a)) (bj:∀a ρ (H:Hp),H a=yz (uA a)->AR a ρ H [])
  (hc:X.calm=yx) (so:ScOk X.env.scope sc X.N own) (bq:(lf own)=n) (hg:gens=⟨tg,iter,ifs,0⟩::gens.tail) (hi:DI X tg iter fi) (hs:∀x,Vbv iter X.env x=pure x)
  (hG:∀pa s H cl C fp,DG (blk X pa s H sc cl C own fp) tg t) (hT:∀pa s H cl C fp,DTs (blk X pa s H sc cl C own fp) ifs tf) (hB:∀pa s H cl C fp Da,Xb5 k (AR Da) (blk X pa s H sc cl C own fp) Da elt gens sc cpos 0 body)
  (I:S0 X pa σ H s ρ S env) (q:fi env S=.ok src S1) (hr:Xp src.get t (Xr tf body) (src.most S1+1) 0 (env++Vu n yy) [] S1=.ok accf Sf)
  (hQ:∀s' H' ρ' Da C m,S0 X pa σ H' s' ρ' Sf env->Stp X.K ρ ρ' H H'->Da ∉ ρ'->H Da=yy->AR Da ρ' H' accf->s'.heap.Ns C m->(∀x c,X.env.cells.lookup x=yz c->c≠C)->C≠X.env.locals->H' C=yy->(∀ah ag H'' h',Inv X pa ag H'' ah->H'' C=yy->Va0 C ah.heap h'->Inv X pa ag H'' {ah with heap:=h' }) ->
   compPost (Vl X.prog X.w) X.A E use Q (.ref Da) C (.ok .next) s'):
  Vg (Vl X.prog X.w) X.A (comprehension (cE k elt gens sc cpos) sc X.env (firstIterPos gens cpos) ap yw (eval iter X.env) use) Q E s:=by
 have av:∀x∈sc.names,x.2=.free->∃c,X.env.cells.lookup x.1=yz c:=λx hx hf=>by
  rcases so.free x hx hf with z|z;·exact I.inv.ok.has x.1 (.inl z)
  ·exact I.inv.ok.has x.1 (.inr z)
 obtain⟨cl,ax,az,a8⟩:=Xhg av;refine Vhv (g:=⟨tg,iter,ifs,0⟩) (gs:=gens.tail) ((show clausesOf (cE k elt gens sc cpos)=gens by cases k<;>rfl).trans hg) hs ax so.kind so.names ?_;refine Vo (E:=λ_ _=>False) (hi pa s σ H ρ S env (λ_ _=>False) I (by rw[q];exact λz=>nomatch z) λx s' z=>?_) (λv s1 h1=>Vo h1 (λbw L h2=>?_) λ_ _ z=>z.elim) λ_ _ z=>z.elim;·rw[q]at z;obtain⟨k,S2,e,z⟩:=z;cases e
 ·obtain⟨bt,S2,it,fp,tn,J,H2,ak,e1,rfl,I2,T,t0,f2,bn,aw,al⟩:=h2;rw[q]at e1;cases e1;have J2:=I.step I2 aw al;refine bf _ _ _ _ (X0i ?_);dsimp only;generalize au:L.heap.push oA=B;have hC:B.objs.size=L.heap.objs.size+1:=by rw[<-au,Val]
  have below:∀b,b<L.heap.objs.size->b≠B.objs.size:=λb hb=>by rw[hC];exact Uc (Vax hb)
  have aj:=cellsFrom_ok sc.names (B.push {cls:=.type "dict",data:=.dict #[]}) (B.objs.size+1) [] ⟨λ_ _ hm=>(nomatch hm),Vb7⟩ (by rw[Val];exact Vm _);rw[Val]at aj;obtain⟨m1,ac⟩:∃m1,(pushCells (B.push {cls:=.type "dict",data:=.dict #[]}) sc.names).Ns B.objs.size m1:=by obtain⟨o,es,ep,ho,Yj⟩:=(Heap.Ns.new ..:(B.push {cls:=.type "dict",data:=.dict #[]}).Ns B.objs.size _);exact⟨_,o,es,ep,pushCells_keeps _ _ _ _ ho,Yj⟩
  have ay:∀b o,B.get? b=yz o->(pushCells (B.push {cls:=.type "dict",data:=.dict #[]}) sc.names).get? b=yz o:=λb o e=>pushCells_keeps _ _ b o (Vf _ e);generalize pushCells (B.push {cls:=.type "dict",data:=.dict #[]}) sc.names=U at aj ac ay ⊢;have bc:∀b o,L.heap.get? b=yz o->U.get? b=yz o:=λb o e=>ay b o (au▸Vf _ e);have a9:U.get? L.heap.objs.size=yz oA:=ay _ _ (au▸Vt _ bp);have aa:∀x c,(x,c)∈Vb6 (B.objs.size+1) sc.names []->x∈own/\B.objs.size<c/\U.IsCell c none:=λx c hm=>⟨so.cel _ (Xl3 _ _ hm) rfl,(aj.empty x c hm).2,(aj.empty x c hm).1⟩;have two:∀x c,(Vb6 (B.objs.size+1) sc.names cl).lookup x=yz c->(x,c)∈Vb6 (B.objs.size+1) sc.names []\/(x ∉ own/\X.env.cells.lookup x=yz c):=λx c h=>by
   rw[Xeo,List.lookup_append,Option.or_eq_some_iff]at h;rcases h with h|⟨_,h⟩;·exact .inl (Xnq h)
   ·exact .inr ⟨so.apart _ (az x c h).2 rfl,(az x c h).1⟩
  have af:∀x c,(Vb6 (B.objs.size+1) sc.names cl).lookup x=yz c->(x ∉ own/\X.env.cells.lookup x=yz c)\/(x∈own/\B.objs.size<c/\U.IsCell c yy):=λx c h=>(two x c h).elim (λz=>.inr (aa x c z)) .inl;have ab:∀x c,X.env.cells.lookup x=yz c->c<B.objs.size:=λx c e=>by obtain⟨v,z⟩:=I2.cell x c e;rw[hC];exact Vax z.lt
  have aq:∀x y c,(Vb6 (B.objs.size+1) sc.names cl).lookup x=yz c->(Vb6 (B.objs.size+1) sc.names cl).lookup y=yz c->x=y:=λx y c h1 h2=>by
   rcases two x c h1 with a|⟨_,a⟩<;>rcases two y c h2 with b|⟨_,b⟩
   ·exact name_of_addr aj.apart a b
   ·exact aB0 (ab y c b) (Nat.lt_asymm (aa x c a).2.1)
   ·exact aB0 (ab x c a) (Nat.lt_asymm (aa y c b).2.1)
   exact I2.ok.inj x y c a b
  have ai:∀x,sc.names.lookup x=yz .cell\/sc.names.lookup x=yz .free->∃c,(Vb6 (B.objs.size+1) sc.names cl).lookup x=yz c:=λx h=>Vc4.mp (Vf7 sc.names _ cl (h.imp id λz=>by obtain⟨c,hc⟩:=a8 (x,.free) (Xcg z) rfl;exact Vc4.mpr ⟨c,hc⟩));generalize Vb6 (B.objs.size+1) sc.names cl=cl1 at af aq ai two ⊢;have an:∀b∈fp,b<L.heap.objs.size:=λb hb=>by obtain⟨o,e,_⟩:=T.obj _ _ t0 b hb;exact Vw e
  have ae:H2 L.heap.objs.size=none:=I2.hok.fresh (Vm _);have ba:L.heap.objs.size ∉ ak:=λhm=>by obtain⟨w,hw,_⟩:=aw.mem hm;rw[ae]at hw;cases hw
  generalize be:({L with heap:=U}:Vc)=s4;have IY:Inv (blk X pa L H2 sc cl1 B.objs.size own fp) [] (σ++Vu (lf own) yy) (upd H2 L.heap.objs.size (uA L.heap.objs.size)) s4:=by subst be;exact X4g so I2 f2 af aq ai rfl hC rfl rfl bc ac (bm _ _ _ a9) an
  have ar:Stp X.K ak ak H2 (upd H2 L.heap.objs.size (uA L.heap.objs.size)):=Stp.upd ae;have SY:S0 (blk X pa L H2 sc cl1 B.objs.size own fp) [] (σ++Vu (lf own) yy) (upd H2 L.heap.objs.size (uA L.heap.objs.size)) s4 ak S1 (env++Vu n yy):=by
   refine⟨IY,aw.upd ae,⟨by simp[J2.er.len,bq],λi d e=>?_⟩⟩;have hi:i<lf env:=by
    by_cases hi:i<lf env;·exact hi
    ·rw[Vaq (by omega),Vdf]at e;split at e<;>cases e
   rw[V1 hi]at e;obtain⟨v,h1,h2⟩:=J2.er.val i d e;exact⟨v,by rw[V1 (by rw[<-J2.er.len];exact hi)];exact h1,h2.mono ar⟩
  have t4:tn 0 s4.heap:=by subst be;exact T.keep 0 _ _ t0 λb hb o e=>bc b o e
  have fY:∀b∈fp,Xa6 (blk X pa L H2 sc cl1 B.objs.size own fp) [] (upd H2 L.heap.objs.size (uA L.heap.objs.size)) b:=λb hb=>by
   obtain⟨a1,a2,a3,a4,a5,a6⟩:=f2 b hb;refine⟨by rw[Xj (Uc (an b hb))];exact a1,below b (an b hb),λhm=>?_,.inl hb,λx c h=>(af x c h).elim (λz=>a5 x c z.2) (λz=>Vc3 (Veu (by rw[hC];exact Vax (an b hb)) z.2.1)),λp hp=>?_⟩
   ·rcases Vn.mp (I2.stkSub b hm) with z|z;·exact a2 z
    ·exact a3 z
   rw[V3]at hp;exact a6 p hp
  refine Vet (Xsx (hA L.heap.objs.size) (Y:=blk X pa L H2 sc cl1 B.objs.size own fp) (H0:=H2) (ρ0:=ak) (P:=compPost (Vl X.prog X.w) X.A E use Q (.ref L.heap.objs.size) B.objs.size (.ok .next)) hc (by rw[hg];rfl) T (hG _ _ _ _ _ _) (hT _ _ _ _ _ _) (hB _ _ _ _ _ _ _) ae SY t4 fY (bn.mono ar) ba (bj _ _ _ Yi) ar hr
   λs' bv H' ρ' bu I' _ br bg a7 _=>?_) λr s' h=>?_
  ·have JX:=X0h I2 f2 I'.inv;have a0:H' B.objs.size=none:=I'.inv.free;have bb:L.heap.objs.size<=B.objs.size:=by rw[hC];exact Vdn _
   obtain⟨m',bo,_⟩:=I'.inv.loc;have fo:=I2.fpOk (H':=H') bb a0;have bi:H L.heap.objs.size=none:=by
    cases e:H L.heap.objs.size with
    |none=>rfl|some o=>
     by_cases hm:L.heap.objs.size∈ρ;·obtain⟨k,hk,ek⟩:=Vb3.mp hm;exact aB0 (V6 (al.pre k _ (by simp[hk,ek]))) ba
     ·rw[al.keep _ o e hm]at ae;cases ae
   refine hQ s' H' ρ' L.heap.objs.size B.objs.size m' ⟨JX,I'.sr,I.er.mono (al.trans a7)⟩ (al.trans a7) br bi bg bo fo.2.2.2.2.1 (λz=>fo.2.1 z) a0 λah ag H'' h' bh ao bd=>?_;have am:Xa6 X pa H'' B.objs.size:=⟨ao,fo.2⟩;exact bh.turned (t':=ah.toks) (λb o hb e=>(bd.2 b hb).trans e) ao am.2.1 am.2.2.2.1 am.2.2.2.2.1 am.2.2.2.2.2
  cases r with
  |ok f=>cases use<;>exact h|error e=>exact h.elim
end
theorem Xch{get:Sto->Nat->Option (Option D)}{body:En->LD->Sto->R (LD)}:∀(k i:Nat) (env:En) (acc:LD) (S:Sto) (n:Nat) (S':Sto),Xp get t body k i env acc S≠.ex n S'
 |0=>λi env acc S n S'=>λz=>nomatch z|k+1=>λi env acc S n S'=>by
  simp only[Xp];cases get S i with
  |none=>exact λz=>nomatch z|some o=>
   cases o with
   |none=>exact λz=>nomatch z|some d=>
    dsimp only;cases Xu t d env with
    |none=>exact λz=>nomatch z|some B=>
     dsimp only;cases body B acc S with
     |ok a S1=>exact Xch k (i+1) B a S1 n S'|ex _ _=>exact λz=>nomatch z|bad=>exact λz=>nomatch z
section
variable{X:Cx}{pa:LA}{σ:L2.St}{H:Hp}{s:Vc}{ρ:LR}{S:Sto}{env:En}{Q:VP}{E:VP}
theorem SR.adopt{K:Vj}{Da:Addr}{vs:LW}{xs:LD}(r:SR K ρ S H)(hn:Da ∉ ρ)(Y:H Da=yz (.lst vs))(rd:RDs K ρ H xs vs):SR K (ρ++[Da]) (S++[.lst xs]) H:=by
 have J:Mon K ρ (ρ++[Da]) H H:=⟨λn a h=>by rw[V1 (Vi.mp h).1];exact h,λ_ _ h=>h,λ_ _ _ h=>h⟩;refine⟨by simp[r.len],?_,λn a ob h1 h2=>?_⟩;·rw[Vda];refine⟨r.nd,by simp,λx U y L=>?_⟩;rw[V9.mp L];exact λz=>hn (z▸U)
 ·by_cases B:n < ρ.length;·rw[V1 B]at h1;rw[V1 (by rw[<-r.len];exact B)]at h2;exact(r.ob n a ob h1 h2).mono' J rfl
  ·have e:n=lf ρ:=by
    have:=(Vi.mp h1).1;simp at this;omega
   subst e;simp at h1;rw[r.len]at h2;simp at h2;subst h1 h2;exact⟨vs,Y,RDs.mono' J _ _ rd⟩
theorem Stp.adopt{K:Vj}{Da:Addr}{ρ':LR}{H':Hp}(st:Stp K ρ ρ' H H')(B:H Da=yy):Stp K ρ (ρ'++[Da]) H H' where
 pre:=λn a h=>by have z:=st.pre n a h;rw[V1 (Vi.mp z).1];exact z
 tup:=st.tup
 frz:=st.frz
 new:=λa h=>by
  rcases Uq.mp h with h|h;·exact st.new a h
  ·rw[V9.mp h];exact .inr B
 keep:=st.keep
variable{elt:Expr}{gens:List Vbm}{sc:U7}{cpos:Pos}{tg iter:Expr}{ifs:LX}{own:LS}{t:Tg}{n:Nat}{fi:En->Sto->R Src}{tf:En->Sto->R Bool}{body:En->LD->Sto->R (LD)}
noncomputable def Xeq(fi:En->Sto->R Src)(t:Tg)(n:Nat)(tf:En->Sto->R Bool)(body:En->LD->Sto->R LD)(env:En)(S:Sto):R D:=
 (fi env S).bind λB S=>(Xp B.get t (Xr tf body) (B.most S+1) 0 (env++Vu n yy) [] S).bind λJ S=>.ok (.ref (lf S)) (S++[.lst J])
theorem Xih{k:Bool}{L:Sem Vb}{use:Option (Vb->Sem Unit)}{m:Nat}(U:ScOk X.env.scope sc X.N own)(hg:gens=⟨tg,iter,ifs,0⟩::gens.tail)(hi:DI X tg iter fi)(hs:∀x,Vbv iter X.env x=pure x)
  (I:S0 X pa σ H s ρ S env) (q:fi env S=.ex m S1) (hE:∀x s',XPd X pa σ ρ H m S1 x s'->E x s'):
  Vg (Vl X.prog X.w) X.A (comprehension (cE k elt gens sc cpos) sc X.env (firstIterPos gens cpos) L yw (eval iter X.env) use) Q E s:=by
 have J:∀x∈sc.names,x.2=.free->∃c,X.env.cells.lookup x.1=yz c:=λx hx hf=>by
  rcases U.free x hx hf with z|z;·exact I.inv.ok.has x.1 (.inl z)
  ·exact I.inv.ok.has x.1 (.inr z)
 obtain⟨cl,B,ac,aa⟩:=Xhg J;refine Vhv (g:=⟨tg,iter,ifs,0⟩) (gs:=gens.tail) ((show clausesOf (cE k elt gens sc cpos)=gens by cases k<;>rfl).trans hg) hs B U.kind U.names ?_;refine Vo (hi pa s σ H ρ S env E I (by rw[q];exact λz=>nomatch z) λx s' z=>?_) (λv s1 h1=>Vo h1 (λab s2 h2=>?_) λ_ _ z=>z) λ_ _ z=>z;·rw[q]at z;obtain⟨k,S2,e,z⟩:=z;cases e;exact hE x s' z
 ·obtain⟨Y,S2,_,_,_,_,_,_,e1,_⟩:=h2;rw[q]at e1;cases e1
theorem Xo4 (A:Uu) (E:VP) (s:Vc) (Q:VP) (h:Q (.ref s.heap.objs.size) {s with heap:=s.heap.push {cls:=.type "list",dict:=yy,data:=.seq ([]:LV).toArray} }):Vg (Vl X.prog X.w) A (newList []) Q E s:=U8 h
theorem Xsy (H:Hp) (h:Heap) (a:Addr) (e:h.get? a=yz {cls:=.type "list",dict:=yy,data:=.seq ([]:LV).toArray}):ObjOk X.prog X.w H h a (.lst []):=⟨Ug _,[],0,.nil,e⟩
theorem X4h(hc:X.calm=yx)(so:ScOk X.env.scope sc X.N own)(U:(lf own)=n)(hg:gens=⟨tg,iter,ifs,0⟩::gens.tail)(hi:DI X tg iter fi)(hs:∀x,Vbv iter X.env x=pure x)
  (hG:∀pa s H J C fp,DG (blk X pa s H sc J C own fp) tg t) (hT:∀pa s H J C fp,DTs (blk X pa s H sc J C own fp) ifs tf) (hB:∀pa s H J C fp Da,Xb5 yw (LstA X.K Da) (blk X pa s H sc J C own fp) Da elt gens sc cpos 0 body):
  DE X (.ListComp elt gens sc cpos) (Xeq fi t n tf body):=by
 intro pa s σ H ρ S env I B;have aa:firstIter gens X.env=eval iter X.env:=by rw[hg];rfl
 have ab:firstAsync gens=false:=by rw[hg];rfl
 rw[eval_ListComp,aa,ab];unfold Xeq at B ⊢;cases q:fi env S with
 |bad=>rw[q]at B;cases B rfl|ex m S1=>exact Xih (k:=yw) so hg hi hs I q λx s' z=>⟨m,S1,rfl,z⟩|ok L S1=>
  rw[q]at B;simp only[Rk0]at B ⊢;cases q2:Xp L.get t (Xr tf body) (L.most S1+1) 0 (env++Vu n yy) [] S1 with
  |bad=>rw[q2]at B;cases B rfl|ex m S2=>exact aB0 q2 (Xch _ _ _ _ _ _ _)|ok ac Sf=>refine Xep (k:=yw) (AR:=λDa=>LstA X.K Da) (uA:=λ_=>.lst []) (λDa=>LstA.ok) Xo4 rfl Xsy (λa ρ H z=>⟨[],z,.nil⟩) hc so U hg hi hs hG hT hB I q q2 λs' H' ρ' Da C m I' st' hn' h0 ⟨vs,hD',ra'⟩ hns hcells hCl hCn back=>?_;refine⟨m,hns,λh' Y=>?_⟩;refine .mk (v:=.ref Da) (st'.adopt h0) (back s' σ H' h' I'.inv hCn Y) rfl ?_ (I'.sr.adopt hn' hD' ra');simp only[RD];exact⟨Da,rfl,by rw[<-I'.sr.len];simp⟩
theorem X0j{i:Nat}(hN:X.N.Nodup)(ah:X.N[i]?=yz x)(hx:X.env.scope.names.lookup x=yz .local)(aj:Vfk (.ListComp elt gens sc cpos) (yz (.Name x py)) spos.line X.env=pure yx)
  (hc:X.calm=yx) (so:ScOk X.env.scope sc X.N own) (ae:(lf own)=n) (hg:gens=⟨tg,iter,ifs,0⟩::gens.tail) (hi:DI X tg iter fi) (hs:∀x,Vbv iter X.env x=pure x)
  (hG:∀pa s H Y C fp,DG (blk X pa s H sc Y C own fp) tg t) (hT:∀pa s H Y C fp,DTs (blk X pa s H sc Y C own fp) ifs tf) (hB:∀pa s H Y C fp Da,Xb5 yw (LstA X.K Da) (blk X pa s H sc Y C own fp) Da elt gens sc cpos 0 body):
  DS X (.Assign [.Name x py] (.ListComp elt gens sc cpos) spos) yw (λenv S=>(Xeq fi t n tf body env S).bind λd S=>match Xu (.var i) d env with|some env=>.ok (.nx env) S|none=>.bad):=by
 intro pa s σ H ρ S env I B;dsimp only at B ⊢;have ai:firstIter gens X.env=eval iter X.env:=by rw[hg];rfl
 have ac:firstAsync gens=false:=by rw[hg];rfl
 rw[exec_Assign_Name_used _ _ _ _ aj];refine Va (Vef (Va ?_));show Vg _ X.A (do let _ <- comprehension (.ListComp elt gens sc cpos) sc X.env (firstIterPos gens cpos) (newList []) (firstAsync gens) (firstIter gens X.env) (yz (assign (.Name x py) X.env))) _ _ s;rw[ai,ac];refine Va (Vo (Q:=λ_ s'=>OkS X pa σ ρ H yw ((Xeq fi t n tf body env S).bind λd S=>match Xu (.var i) d env with|some env=>.ok (.nx env) S|none=>.bad) .next s') ?_ (λ_ s' hq=>Vd (Vd hq)) λ_ _ z=>z);unfold Xeq at B ⊢;cases q:fi env S with
 |bad=>rw[q]at B;cases B rfl|ex m S1=>exact Xih (k:=yw) so hg hi hs I q λx s' z=>.of .refl z rfl|ok U S1=>
  rw[q]at B;simp only[Rk0]at B ⊢;cases q2:Xp U.get t (Xr tf body) (U.most S1+1) 0 (env++Vu n yy) [] S1 with
  |bad=>rw[q2]at B;cases B rfl|ex m S2=>exact aB0 q2 (Xch _ _ _ _ _ _ _)|ok aa Sf=>
   refine Xep (k:=yw) (AR:=λDa=>LstA X.K Da) (uA:=λ_=>.lst []) (use:=yz (assign (.Name x py) X.env)) (λDa=>LstA.ok) Xo4 rfl Xsy (λa ρ H z=>⟨[],z,.nil⟩) hc so ae hg hi hs hG hT hB I q q2 λs' H' ρ' Da C m I' st' hn' h0 ⟨vs,hD',ra'⟩ hns hcells hCl hCn back=>?_;show Vg _ X.A (assign (.Name x py) X.env (.ref Da)) _ _ s';refine Vhj (Xju I'.inv hN ah (.inl hx) (show RelV (.ref Da) (.ref Da) from rfl) (λs2 I2 L=>?_) (.inr hx));obtain⟨ad,L,af⟩:=L;have ab:ad≠C:=by
    rcases af with z|z;·rw[z];exact Ne.symm hCl
    ·exact hcells x ad z
   refine⟨m,hns.sameBut L (Ne.symm ab),λh' ag=>?_⟩;have J:=back s2 _ H' h' I2 hCn ag;refine⟨.nx (env.set i (yz (.ref Sf.length))),Sf++[.lst aa],rfl,rfl,_,H',ρ'++[Da],⟨J,I'.sr.adopt hn' hD' ra',?_⟩,st'.adopt h0,λz=>nomatch z⟩;have mo:Mon X.K ρ' (ρ'++[Da]) H' H':=⟨λn a h=>by rw[V1 (Vi.mp h).1];exact h,λ_ _ h=>h,λ_ _ _ h=>h⟩;refine(I'.er.mono' mo).set i ?_;simp only[RD];exact⟨Da,rfl,by rw[<-I'.sr.len];simp⟩
end
theorem Xl4:∀(l acc:LI),lf acc<=(l.foldl ddS acc).length
 |[]=>λacc=>Vm _|x::l=>λacc=>by
  refine Uv ?_ (Xl4 l (ddS acc x));unfold ddS;split;·exact Vm _
  ·simp
theorem X0k(ns:LI)(i:Nat)(hi:i<lf ns):ddI (ns.take (i+1))=ddS (ddI (ns.take i)) (ns.getD i 0):=by unfold ddI;rw[Vev,Vk hi,Vdc];simp[Vdq,hi]
theorem X8w(ns:LI)(i:Nat):(ddI (ns.take i)).length<=(ddI ns).length:=by
 have:ns=ns.take i++ns.drop i:=(Vbx i ns).symm;unfold ddI
 conv=>rhs;rw[this,Vdc]
 exact Xl4 _ _
section
variable{prog:V4}{w:Ua}{A:Uu}{R:Result->Vc->Prop}{I:Addr}{fp wr:LR}{G:Array GenState->Array GenState->Prop}{n:Nat}{P:Nat->Vb->Prop}{St:Nat->Vc->Prop}{ld:Bool}
theorem Xv0(W:WalksS prog w A.in1 I fp wr G n P St)(B:Addr)(hf:B ∉ fp)(ns:LI)(hn:(lf ns)=n)(hP:∀i v,P i v->∃t,v=.int (ns.getD i 0) t)(L:(ddI ns).length<60):
  ∀(k i:Nat) (s:Vc) (ks:LI),n-i=k->i<=n->St i s->SetI prog w s.heap B ld ks->ks.Perm (ddI (ns.take i)) ->
   (∀s' J,Moved (B::wr) G s s'->SetI prog w s'.heap B ld J->J.Perm (ddI ns)->R (.ok (.ret .none)) s')->Vcy (Vl prog w) A (.builtin "set.update.loop" ⟨[.ref B,.ref I],[]⟩) R s:=by
 have hw:B ∉ wr:=λh=>hf (W.sub _ h);have sub:∀b∈wr,b∈B::wr:=λb L=>V5 _ L;intro k;induction k with
 |zero=>
  intro i s ks hk hi st S p hR;obtain rfl:i=n:=by omega
  refine Va2 Veb ?_;rw[Va9 Vcj _];show Vg _ A.in1 (Vei (.ref I) >>= _) _ _ s;refine Va (W.done s _ _ st λs' m=>?_);show Vg _ A.in1 (ret Van) _ _ s';refine Vd (hR s' ks (m.mono sub) (S.keep λo e=>m.heap B o hw e) ?_);rwa [<-hn,Vcx]at p|succ k ih=>
  intro i s ks hk hi st S p hR;have lt:i<n:=by omega
  refine Va2 Veb ?_;rw[Va9 Vcj _];show Vg _ A.in1 (Vei (.ref I) >>= _) _ _ s;refine Va (W.item i s _ _ lt st λv s' hv ac m=>?_);obtain⟨t,rfl⟩:=hP i v hv;show Vg _ A.in1 (Vd5 [Veh (ns.getD i 0) t] (setAdd B (.int (ns.getD i 0) t)) >>= _) _ _ s';have le:=X8w ns i;refine Va (Uo (Xoq (S.keep λo e=>m.heap B o hw e) (by rw[p.length_eq];omega) λh' J sb S' q=>?_));refine Vd ⟨Ved Vcj _,ih (i+1) _ J (by omega) lt (W.frame _ s' _ _ ac (Vdn _) λb L o e=>?_) S' ?_ λaa U ae Y ab=>?_⟩;·rw[sb.2 b (λz:b=B=>hf (z▸L))];exact e
  ·rw[X0k ns i (by omega)];unfold ddS;rcases q with⟨q1,rfl⟩|⟨q1,q2⟩;·rw[iP0 (p.mem_iff.mp q1)];exact p
   ·rw[iN0 (λz=>q1 (p.mem_iff.mpr z))];exact q2.trans (p.append_right _)
  refine hR aa U (Moved.trans W.gtrans ((m.mono sub).then_heap (Vdn _) λb o L e=>?_) ae) Y ab;rw[sb.2 b (λz:b=B=>L (z▸Vz))];exact e
variable{E:VP}{s:Vc}
theorem X0l(a:Vb){Q₁:VP}
  (h:Q₁ (.ref s.heap.objs.size) {s with heap:=s.heap.push {cls:=.type "set",dict:=yy,data:=.set #[] 0 (.fresh 0 0 (!byT w))} }):
  Vcy (Vl prog w) A (.call (.builtin "set.__new__") ⟨[.type "set",a],[]⟩) (wants Q₁ E) s:=by
 refine Vgt ?_;show Vg _ A.in1 (do Vgk "set.__new__" ⟨[.type "set",a],[]⟩;again (.builtin "set.__new__" ⟨[.type "set",a],[]⟩)) _ _ s;refine Va (Vga (F.newCall_set_1 a) (Vd ⟨Ved F.plain_set_new _,Va2 F.entry_set_new ?_⟩));rw[Va9 F.plain_set_new _];unfold Vcb.«set.__new__» Builtin.Frozenset.newClass;have B:=sub_set_self;obtain⟨hp,g,d,tk,os⟩:=s;dsimp only;wp_walk;refine Vdk (Vd ?_);dsimp only;simp only[newObj];exact Va (wpAny_alloc (Vd (Vd h)))
theorem Xo5(ld:Bool):Tab (.fresh 0 0 ld) 0:=⟨⟨Vb7,rfl⟩,rfl,rfl,.inl rfl,show 0*5<7*3 by decide,by decide⟩
theorem Xl5 {h:Heap} {ld:Bool} {a:Addr} (e:h.get? a=yz {cls:=.type "set",dict:=yy,data:=.set #[] 0 (.fresh 0 0 ld)}):SetI prog w h a ld []:=
 ⟨_,#[],0,.fresh 0 0 ld,e,⟨rfl,rfl,rfl⟩,rfl,λx B=>by simp at B,rfl,Xo5 ld,rfl⟩
noncomputable abbrev nS(w:Ua):Obj:={cls:=.type "set",dict:=yy,data:=.set #[] 0 (.fresh 0 0 (!byT w))}
noncomputable def itO(b:Bool)(l:Addr):Obj:={cls:=.type (if b then "list_iterator" else "tuple_iterator"),data:=.fields #[.ref l,.int 0 0]}
def Xv1(b:Bool)(h:Heap)(l:Addr)(items:AV):Prop:=if b then h.IsList l items else h.IsTuple l items
set_option maxHeartbeats 3200000 in
theorem Xj8(b:Bool){l:Addr}{items:AV}{R:Vc->Prop}{Q:VP}(hl:Xv1 b s.heap l items)(hR:∀L,R L->Q (.ref s.heap.objs.size) L)
  (hU:∀R':Except Vb Flow->Vc->Prop,(∀s',R s'->R' (.ok (.ret .none)) s')->Vcy (Vl prog w) A.in1.in1 (.builtin "set.update.loop" ⟨[.ref s.heap.objs.size,.ref (s.heap.push (nS w)).objs.size],[]⟩) R' {s with heap:=(s.heap.push (nS w)).push (itO b l)}):
  Vg (Vl prog w) A (call (.type "set") [.ref l]) Q E s:=by
 obtain⟨c,tl,ao⟩:=F.called_set.mro;have an:=F.called_set.made;have ap:=F.called_set.sub;refine wpAny_call (Vgt ?_);show Vg _ _ (callAny (.type "set") _) _ _ _;refine Vd ⟨Vhe _ (by decide+kernel),Va2 F.entry_type_call ?_⟩;rw[Around.under_plain (weight_type_call_type "set" [.ref l] []) rfl];have h1:=F.called_set.notType;have h2:=F.called_set.canCreate;have aq:=F.typeCall_set_1 (.ref l)
 repeat (any_goals (first|assumption|wp_step))
 refine Vet (X0l (.ref l) (E:=E) (Q₁:=λobj ac=>obj=.ref s.heap.objs.size/\ac={s with heap:=s.heap.push (nS w)}) ⟨rfl,rfl⟩) λr ac hr=>?_;cases r with
 |error e=>exact hr|ok fl=>
  cases fl with
  |ret obj=>
   obtain⟨rfl,rfl⟩:=hr;have hT:Shared.TypeIs {s with heap:=s.heap.push (nS w)} (.ref s.heap.objs.size) "set" := ⟨_,Vt _ rfl,rfl⟩;have au:=F.called_set.init.lookup;have ar:=F.called_set.init.bind (.ref s.heap.objs.size)
   repeat (any_goals (first|assumption|wp_step))
   refine Vet (Vgu (R:=wants (λr L=>r=.none/\R L) E) F.called_set.init.plain F.entry_set_init (check_set_init_1 hT ?_)) λal L B=>?_
   ·unfold Vcb.«set.__init__» noKeywords Builtin.Frozenset.updateFrom;cases b with
    |true=>
     obtain⟨⟨aj,U,af,J⟩,ae,aa,nl,Y⟩:=show s.heap.IsList l items from hl;simp only at aa Y;subst aa;subst Y;have ab:(s.heap.push (nS w)).get? l=yz {cls:=.type "list",dict:=U,data:=.seq items nl,slots:=J}:=Vf _ ae;have ak:=F.sub_list_set;have ai:=F.sub_list_frozenset;have am:(Vca "list" == Vca "dict")=false:=by decide
     generalize ag:pyIter=PI;wp_walk;subst ag;exact Vf5 ⟨_,ab,rfl,nl,rfl⟩ (Va (Vft (hU _ λs' h=>Vd (Vd ⟨rfl,h⟩))))|false=>
     obtain⟨⟨aj,U,af,J⟩,ae,aa,nl,Y⟩:=show s.heap.IsTuple l items from hl;simp only at aa Y;subst aa;subst Y;have ab:(s.heap.push (nS w)).get? l=yz {cls:=.type "tuple",dict:=U,data:=.seq items nl,slots:=J}:=Vf _ ae;have ak:=F.sub_tuple_set;have ai:=F.sub_tuple_frozenset;have am:(Vca "tuple" == Vca "dict")=false:=by decide
     generalize ag:pyIter=PI;wp_walk;subst ag;exact Vfl ⟨_,ab,rfl,nl,rfl⟩ (Va (Vft (hU _ λs' h=>Vd (Vd ⟨rfl,h⟩))))
   cases al with
   |error e=>exact B|ok ah=>
    cases ah with
    |ret r=>
     obtain⟨rfl,B⟩:=B
     repeat (any_goals (first|assumption|wp_step))
     exact hR _ B|_=>exact B.elim
  |_=>exact hr.elim
theorem Xo6(b:Bool){l:Addr}{items:AV}(U:A.handled=yy)(B:Xv1 b s.heap l items):
  l<s.heap.objs.size/\∃St:Nat->Vc->Prop,WalksS prog w A.in1.in1.in1 (s.heap.push (nS w)).objs.size [(s.heap.push (nS w)).objs.size,l] [(s.heap.push (nS w)).objs.size] (λa b=>b=a) items.size (λi v=>items[i]?=yz v) St/\St 0 {s with heap:=(s.heap.push (nS w)).push (itO b l)}:=by
 have Y:l<s.heap.objs.size:=by
  cases b with
  |true=>obtain⟨o,L,_⟩:=show s.heap.IsList l items from B;exact Vw L|false=>obtain⟨o,L,_⟩:=show s.heap.IsTuple l items from B;exact Vw L
 have J:l≠(s.heap.push (nS w)).objs.size:=by rw[Val];exact Uc (Vax Y)
 refine⟨Y,?_⟩;cases b with
 |true=>have B:s.heap.IsList l items:=B;exact⟨_,(Walks.list (A:=A.in1.in1.in1) (by simpa using U) _ l J items).toS,⟨⟨_,Vt _ rfl,rfl,rfl⟩,(B.push _).push _⟩⟩|false=>have B:s.heap.IsTuple l items:=B;exact⟨_,(Walks.tuple (A:=A.in1.in1.in1) (by simpa using U) _ l J items).toS,⟨⟨_,Vt _ rfl,rfl,rfl⟩,(B.push _).push _⟩⟩
theorem Xsz{S I:Addr}{h1:Heap}{s':Vc}(m:Moved [S,I] (λa b=>b=a) {s with heap:=h1} s')(hn:∀b o,s.heap.get? b=yz o->b≠S/\b≠I/\h1.get? b=yz o):∃h' tk,s'={s with heap:=h',toks:=tk}/\∀b o,s.heap.get? b=yz o->h'.get? b=yz o:=by obtain⟨h',g',L,J,B⟩:=s';have U:g'=s.gens:=m.gens;have Y:L=s.drawn:=m.drawn;have eo:B=s.os:=m.os;subst U;subst Y;subst eo;refine⟨h',J,rfl,λb o e=>m.heap b o ?_ (hn b o e).2.2⟩;simp only[Vn,U9,or_false,not_or];exact⟨(hn b o e).1,(hn b o e).2.1⟩
theorem Xo7(b:Bool)(l:Addr):∀c o,s.heap.get? c=yz o->c≠s.heap.objs.size/\c≠(s.heap.push (nS w)).objs.size/\((s.heap.push (nS w)).push (itO b l)).get? c=yz o:=λc o e=>by have B:=Vw e;rw[Val];exact⟨Uc B,Uc (Vax B),Vf _ (Vf _ e)⟩
theorem Xs0(b:Bool)(l:Addr):((s.heap.push (nS w)).push (itO b l)).get? s.heap.objs.size=yz (nS w):=Vf _ (Vt _ rfl)
theorem Xo8{l:Addr}(h:l<s.heap.objs.size):s.heap.objs.size ∉ [(s.heap.push (nS w)).objs.size,l]:=by rw[Val];simp only[Vn,U9,or_false,not_or];exact⟨Uc (Ve0 _),Vc3 h⟩
theorem Xs1{l:Addr}{items:AV}{ns:LI}{Q:VP}(U:A.handled=yy)(L:s.heap.IsList l items)(hi:Vb1 items.toList ns)(hb:(ddI ns).length<60)
  (h:∀(h':Heap) (tk:Nat) (ks:LI),SetI prog w h' s.heap.objs.size (!byT w) ks->ks.Perm (ddI ns)->(∀b o,s.heap.get? b=yz o->h'.get? b=yz o)->Q (.ref s.heap.objs.size) {s with heap:=h',toks:=tk}):
  Vg (Vl prog w) A (call (.type "set") [.ref l]) Q E s:=by
 obtain⟨lS,St,W,st⟩:=Xo6 (prog:=prog) (w:=w) yx U L;refine Xj8 yx L (R:=λB=>Q (.ref s.heap.objs.size) B) (λB h=>h) λR' J=>Xv0 W s.heap.objs.size (Xo8 lS) ns (by rw[<-hi.length];simp) (λi v Y=>IntsAre.int_at hi i v (by rw[Uh];exact Y)) hb (items.size-0) 0 _ [] rfl (Ug _) st (Xl5 (Xs0 yx l)) (Vau _) λs' ks m S' p=>J s' ?_;obtain⟨h',tk,rfl,k'⟩:=Xsz m (Xo7 yx l);exact h _ _ ks S' p k'
end
section
variable{X:Cx}{pa:LA}{σ:L2.St}{H:Hp}{s:Vc}{ρ:LR}{S:Sto}{env:En}{Q:VP}{E:VP}
def BlR(X:Cx)(k:Bl)(f:Vb):Prop:=
 ∀(pa:LA) (s:Vc) (σ:L2.St) (H:Hp) (ρ:LR) (S:Sto) (env:En) (ds:LD) (vs:LW) (us:LV) (E:VP),S0 X pa σ H s ρ S env->RDs X.K ρ H ds vs->Vals vs us->Xk k ds S≠.bad ->
  Vg (Vl X.prog X.w) X.A (call f us) (OkP X pa σ ρ H (Xk k ds S)) E s
theorem RDs.one{K:Vj}{d:D}{vs:LW}(h:RDs K ρ H [d] vs):∃v,vs=[v]/\RD K ρ H d v:=by simp only[RDs]at h;obtain⟨v,r,rfl,h1,rfl⟩:=h;exact⟨v,rfl,h1⟩
theorem RDs.two{K:Vj}{d e:D}{vs:LW}(h:RDs K ρ H [d,e] vs):∃v u,vs=[v,u]/\RD K ρ H d v/\RD K ρ H e u:=by simp only[RDs]at h;obtain⟨v,r,rfl,h1,u,B,rfl,h2,rfl⟩:=h;exact⟨v,u,rfl,h1,h2⟩
theorem X8x:BlR X .len (.builtin "len"):=by
 intro pa s σ H ρ S env ds vs us E I L Y B;match ds,L,B with
 |[],_,B=>cases B rfl|_::_::_,_,B=>cases B rfl|[d],L,B=>
  obtain⟨v,rfl,r1⟩:=L.one;have go:∀xs,Xw S d=yz xs->Vg (Vl X.prog X.w) X.A (call (.builtin "len") us) (OkP X pa σ ρ H (.ok (.int (lf xs)) S)) E s:=λxs h=>by obtain⟨a,U,rfl,hq,hr⟩:=I.seq h r1;refine Xfi (Q':=λz H'=>z=.int U.length/\H'=H) Xlb I.inv Y ⟨a,U,rfl,hq,rfl,rfl⟩ λw s' z H' J rz ⟨e1,e2⟩=>?_;subst e1 e2;obtain⟨t,rfl⟩:=rz;rw[<-hr.length];exact Xap I.sr J
  cases d with
  |str _=>cases B rfl|tup xs=>exact go xs rfl|fro xs=>exact go xs rfl|ref n=>
   simp only[Xk,Xw]at B ⊢;cases e:Xc S n with
   |none=>rw[e]at B;cases B rfl|some xs=>exact go xs e
  |non=>cases B rfl|bl _=>cases B rfl|int _=>cases B rfl|fn _ _=>cases B rfl
theorem X0m:BlR X .tuple (.type "tuple"):=by
 intro pa s σ H ρ S env ds vs us E I Y rv B;match ds,Y,B with
 |[],_,B=>cases B rfl|_::_::_,_,B=>cases B rfl|[d],Y,B=>
  obtain⟨v,rfl,r1⟩:=Y.one;simp only[Xk]at B ⊢;cases e:Xw S d with
  |none=>rw[e]at B;cases B rfl|some xs=>
   dsimp only;obtain⟨a,U,rfl,L,hr⟩:=I.seq e r1;rcases L with L|L;·refine Xfi (Q':=λz H'=>∃p,H p=yy/\z=.ref p/\H'=upd H p (.tup U)) Xee I.inv rv ⟨a,U,rfl,.inl ⟨L,λl hl=>⟨l,hl,rfl,rfl⟩⟩⟩ λw s' z H' J rz ⟨p,hp,e1,e2⟩=>?_;subst e1 e2;cases rz;exact Xck J hp I.sr hr
   ·refine Xfi (Q':=λz H'=>z=.ref a/\H'=H) Xee I.inv rv ⟨a,U,rfl,.inr ⟨L,rfl,rfl⟩⟩ λw s' z H' J rz ⟨e1,e2⟩=>?_;subst e1 e2;refine .mk .refl J rz ?_ I.sr;simp only[RD];exact⟨a,U,rfl,L,hr⟩
theorem X4i:BlR X .list (.type "list"):=by
 intro pa s σ H ρ S env ds vs us E I L Y B;match ds,L,B with
 |[],_,B=>cases B rfl|_::_::_,_,B=>cases B rfl|[d],L,B=>
  obtain⟨v,rfl,r1⟩:=L.one;simp only[Xk]at B ⊢;cases e:Xw S d with
  |none=>rw[e]at B;cases B rfl|some xs=>dsimp only;obtain⟨a,U,rfl,hq,hr⟩:=I.seq e r1;refine Xfi (Q':=λz H'=>∃p,H p=yy/\z=.ref p/\H'=upd H p (.lst U)) Xlc I.inv Y ⟨a,U,rfl,hq,λl hl=>⟨l,hl,rfl,rfl⟩⟩ λw s' z H' J rz ⟨p,hp,e1,e2⟩=>?_;subst e1 e2;cases rz;exact Xaz J hp I.sr hr
theorem Xa3:∀ {xs:LD} {bs:List Bool},Yh xs=yz bs->xs=bs.map D.bl
 |[],ns,h=>by simp only[Yh,Vv]at h;subst h;rfl|.bl i::r,ns,h=>by simp only[Yh,Vaa]at h;obtain⟨ms,h1,rfl⟩:=h;rw[Xa3 h1];rfl|.non::_,_,h=>by simp[Yh]at h|.int _::_,_,h=>by simp[Yh]at h|.str _::_,_,h=>by simp[Yh]at h|.tup _::_,_,h=>by simp[Yh]at h|.ref _::_,_,h=>by simp[Yh]at h|.fro _::_,_,h=>by simp[Yh]at h|.fn _ _::_,_,h=>by simp[Yh]at h
theorem Xs2(bs:List Bool)(f:Nat->Bool)(h:∀i,f i=(bs[i]?).getD yw):(Vs (lf bs)).all f=bs.all id:=by
 rw[Vfc,Uk,Uk];constructor;·intro q b J;obtain⟨i,hi,rfl⟩:=Vb3.mp J;have:=q i (by simpa using hi);rw[h i]at this;simpa [hi] using this
 ·intro q i hi;have B:i<lf bs:=by simpa using hi
  rw[h i];simp only[B,getElem?_pos,Vcw];exact q _ (Vbh B)
theorem Xs3(bs:List Bool)(f:Nat->Bool)(h:∀i,f i=(bs[i]?).getD yw):(Vs (lf bs)).any f=bs.any id:=by
 rw[Vfc,Vcv,Vcv];constructor
 ·rintro ⟨i,hi,q⟩;have B:i<lf bs:=by simpa using hi
  rw[h i]at q;simp only[B,getElem?_pos,Vcw]at q;exact⟨_,Vbh B,q⟩
 rintro ⟨b,hb,q⟩;obtain⟨i,hi,rfl⟩:=Vb3.mp hb;refine⟨i,by simpa using hi,?_⟩;rw[h i];simpa [hi] using q
theorem Xqp{K:Vj}:∀ {bs:List Bool} {vs:LW},RDs K ρ H (bs.map D.bl) vs->vs=bs.map V.bl
 |[],vs,h=>by simp only[Uw,RDs]at h;exact h|n::ns,vs,h=>by simp only[Uw,RDs]at h;obtain⟨v,r,rfl,h1,h2⟩:=h;simp only[RD]at h1;subst h1;rw[Xqp h2];rfl
theorem S0.its(I:S0 X pa σ H s ρ S env)(h:Xc S n=yz xs)(U:RD X.K ρ H (.ref n) v)(L:RelV v u):∃a vs its,u=.ref a/\s.heap.IsList a its.toArray/\RDs X.K ρ H xs vs/\Vals vs its/\(lf vs)<=V8:=by obtain⟨a,vs,rfl,h1,h2,B⟩:=I.lstR h U;cases L;obtain⟨its,r,p,J⟩:=I.inv.list (.of h2);exact⟨a,vs,its,rfl,p.isList,B,r,J⟩
theorem Xgq{its:LV}{Q:VP}(hh:A.handled=yy)(J:s.heap.IsList a its.toArray\/s.heap.IsTuple a its.toArray)
  (h:∀I fp wr St B,Walks prog w A I fp wr (lf its) (λi v=>its[i]?=yz v) St->St 0 B.heap->(∀b∈fp,b<B.heap.objs.size) ->
   (∀h' tk,(∀b o,b ∉ wr->B.heap.get? b=yz o->h'.get? b=yz o)->({B with heap:=h',toks:=tk}:Vc)={s with heap:=h',toks:=tk}/\∀b o,s.heap.get? b=yz o->h'.get? b=yz o)->Q (.ref I) B):
  Vg (Vl prog w) A (pyIter (.ref a)) Q E s:=by
 have U:∀ {o:Obj},∀h' tk,(∀b ob,b ∉ [s.heap.objs.size]->({s with heap:=s.heap.push o}:Vc).heap.get? b=yz ob->h'.get? b=yz ob)->({ ({s with heap:=s.heap.push o}:Vc) with heap:=h',toks:=tk}:Vc)={s with heap:=h',toks:=tk}/\∀b ob,s.heap.get? b=yz ob->h'.get? b=yz ob:=
  λ{o} h' tk hk=>⟨rfl,λb ob e=>hk b ob (by simp;exact Uc (Vw e)) (Vf _ e)⟩
 have Y:∀ {o:Obj} (L:a<s.heap.objs.size),∀b∈[s.heap.objs.size,a],b<(s.heap.push o).objs.size:=λ{o} L b hb=>by
  rw[Val];simp at hb;rcases hb with rfl|rfl;·exact Ve0 _
  ·exact Vax L
 rcases J with J|J;·have L:a<s.heap.objs.size:=Vw J.choose_spec.1;refine Vf5 J ?_;have W:=Walks.list (prog:=prog) (w:=w) hh s.heap.objs.size a (Uc L) its.toArray;simp only[Vr,List.getElem?_toArray]at W;exact h _ _ _ _ _ W ⟨⟨_,Vt _ rfl,rfl,rfl⟩,J.at λo e=>Vf _ e⟩ (Y L) U
 ·have L:a<s.heap.objs.size:=Vw J.choose_spec.1;refine Vfl J ?_;have W:=Walks.tuple (prog:=prog) (w:=w) hh s.heap.objs.size a (Uc L) its.toArray;simp only[Vr,List.getElem?_toArray]at W;exact h _ _ _ _ _ W ⟨⟨_,Vt _ rfl,rfl,rfl⟩,J.at λo e=>Vf _ e⟩ (Y L) U
theorem S0.seqI(I:S0 X pa σ H s ρ S env)(h:Xw S d=yz xs)(Y:RD X.K ρ H d v)(U:RelV v u):∃a vs its,u=.ref a/\(s.heap.IsList a its.toArray\/s.heap.IsTuple a its.toArray)/\RDs X.K ρ H xs vs/\Vals vs its/\(lf vs)<=V8:=by
 obtain⟨a,vs,rfl,B,L⟩:=I.seq h Y;cases U;rcases B with B|B;·obtain⟨its,r,p,J⟩:=I.inv.list B;exact⟨a,vs,its,rfl,.inl p.isList,L,r,J⟩
 ·obtain⟨its,r,p,J⟩:=I.inv.tuple B;exact⟨a,vs,its,rfl,.inr p,L,r,J⟩
theorem Xo9{i:Nat}{v:Vb}:∀ {bs:List Bool} {its:LV},Vals (bs.map V.bl) its->its[i]?=yz v->v=.bool ((bs[i]?).getD yw):=λ{bs its} hv e=>by
 have B:i<lf bs:=by have h1:=hv.length;have h2:=(Vi.mp e).1;simp at h1;omega
 obtain⟨u,h1,h2⟩:=hv.get (i:=i) (x:=.bl bs[i]) (by simp[B]);rw[e]at h1;cases h1;simp[B];exact h2
theorem X8y(hc:X.calm=yx):BlR X .all (.builtin "all"):=by
 intro pa s σ H ρ S env ds vs us E I U rv B;match ds,U,B with
 |[],_,B=>cases B rfl|d::_::_,_,B=>cases d<;>cases B rfl|[d],U,B=>
  cases d with
  |ref n=>
   obtain⟨v,rfl,r1⟩:=U.one;simp only[Xk]at B ⊢;cases e:Xc S n with
   |none=>rw[e]at B;cases B rfl|some xs=>
    rw[e]at B;simp only[Vq]at B ⊢;cases Y:Yh xs with
    |none=>rw[Y]at B;cases B rfl|some bs=>
     dsimp only;have q:=Xa3 Y;subst q;cases rv with
     |cons ru rr=>
      cases rr;obtain⟨a,ws,its,rfl,hl,hr,hv,hz⟩:=I.its e r1 ru;have hw:=Xqp hr;subst hw;have J:(lf its)=lf bs:=by rw[<-hv.length];simp
      refine call_all_walk (Xgq (I.inv.ok.hd hc) (.inl hl) λIt fp wr St aa W st hf L=>?_);refine⟨It,fp,wr,_,_,St,λi=>(bs[i]?).getD yw,rfl,W,st,λi v s' Q' E' hP hQ=>?_,λh' tk hk=>?_⟩;·rw[Xo9 hv hP];exact Vb5 hQ
      ·obtain⟨e3,k3⟩:=L h' tk hk;rw[e3,J,Xs2 bs _ λ_=>rfl];exact Xy I.sr (I.inv.kept k3)
  |_=>cases B rfl
theorem X8z(hc:X.calm=yx):BlR X .anb (.builtin "any"):=by
 intro pa s σ H ρ S env ds vs us E I U rv B;match ds,U,B with
 |[],_,B=>cases B rfl|d::_::_,_,B=>cases d<;>cases B rfl|[d],U,B=>
  cases d with
  |ref n=>
   obtain⟨v,rfl,r1⟩:=U.one;simp only[Xk]at B ⊢;cases e:Xc S n with
   |none=>rw[e]at B;cases B rfl|some xs=>
    rw[e]at B;simp only[Vq]at B ⊢;cases Y:Yh xs with
    |none=>rw[Y]at B;cases B rfl|some bs=>
     dsimp only;have q:=Xa3 Y;subst q;cases rv with
     |cons ru rr=>
      cases rr;obtain⟨a,ws,its,rfl,hl,hr,hv,hz⟩:=I.its e r1 ru;have hw:=Xqp hr;subst hw;have J:(lf its)=lf bs:=by rw[<-hv.length];simp
      refine call_any_walk (Xgq (I.inv.ok.hd hc) (.inl hl) λIt fp wr St aa W st hf L=>?_);refine⟨It,fp,wr,_,_,St,λi=>(bs[i]?).getD yw,rfl,W,st,λi v s' Q' E' hP hQ=>?_,λh' tk hk=>?_⟩;·rw[Xo9 hv hP];exact Vb5 hQ
      ·obtain⟨e3,k3⟩:=L h' tk hk;rw[e3,J,Xs3 bs _ λ_=>rfl];exact Xy I.sr (I.inv.kept k3)
  |_=>cases B rfl
theorem Xgr{i:Nat}{v:Vb}{ns:LI}{its:LV}(B:Vals (ns.map V.int) its)(e:its[i]?=yz v):∃t,v=.int ((ns[i]?).getD 0) t:=by
 have J:i<lf ns:=by have h1:=B.length;have h2:=(Vi.mp e).1;simp at h1;omega
 obtain⟨u,h1,h2⟩:=B.get (i:=i) (x:=.int ns[i]) (by simp[J]);rw[e]at h1;cases h1;simp[J];exact h2
theorem X4j(hc:X.calm=yx)(I:S0 X pa σ H s ρ S env)(L:RelV (.int i) v')(B:RelV (.int j) u'):Vg (Vl X.prog X.w) X.A (call (.builtin "max") [v',u']) (OkP X pa σ ρ H (Xk .max [.int i,.int j] S)) E s:=
 Xfi (Q':=λz H'=>z=.int (if j>i then j else i)/\H'=H) (Xsa hc) I.inv (.cons L (.cons B .nil)) ⟨i,j,rfl,rfl,rfl⟩ λw s' z H' J rz ⟨e1,e2⟩=>by subst e1 e2;obtain⟨t,rfl⟩:=rz;exact Xap I.sr J
theorem X4k(hc:X.calm=yx){i j:Int}{B L:Vb}(I:S0 X pa σ H s ρ S env)(Y:RelV (.int i) B)(U:RelV (.int j) L):Vg (Vl X.prog X.w) X.A (call (.builtin "min") [B,L]) (OkP X pa σ ρ H (Xk .min [.int i,.int j] S)) E s:=
 Xfi (Q':=λz H'=>z=.int (if j<i then j else i)/\H'=H) (Xsb hc) I.inv (.cons Y (.cons U .nil)) ⟨i,j,rfl,rfl,rfl⟩ λw s' z H' J rz ⟨e1,e2⟩=>by subst e1 e2;obtain⟨t,rfl⟩:=rz;exact Xap I.sr J
theorem X80(hc:X.calm=yx):BlR X .max (.builtin "max"):=by
 intro pa s σ H ρ S env ds vs us E I J rv B;match ds,J,B with
 |[],_,B=>cases B rfl|[d],J,B=>cases d<;>cases B rfl|[d,e],J,B=>
  obtain⟨v,u,rfl,r1,Y⟩:=J.two;cases d with
  |int i=>cases e with
   |int j=>
    simp only[RD]at r1 Y;subst r1 Y;cases rv with
    |cons ru L=>cases L with
     |cons U L=>cases L;exact X4j hc I ru U
   |_=>cases B rfl
  |_=>cases e<;>cases B rfl
 |d::e::_::_,_,B=>cases d<;>(try cases e)<;>cases B rfl
theorem X81(hc:X.calm=yx):BlR X .min (.builtin "min"):=by
 intro pa s σ H ρ S env ds vs us E I J rv B;match ds,J,B with
 |[],_,B=>cases B rfl|[d],J,B=>cases d<;>cases B rfl|[d,e],J,B=>
  obtain⟨v,u,rfl,r1,Y⟩:=J.two;cases d with
  |int i=>cases e with
   |int j=>
    simp only[RD]at r1 Y;subst r1 Y;cases rv with
    |cons ru L=>cases L with
     |cons U L=>cases L;exact X4k hc I ru U
   |_=>cases B rfl
  |_=>cases e<;>cases B rfl
 |d::e::_::_,_,B=>cases d<;>(try cases e)<;>cases B rfl
theorem Xga(ns:LI):∀k,k<lf ns->(ns[argBest (λi j=>decide ((ns[i]?).getD 0>(ns[j]?).getD 0)) k]?).getD 0=(ns.take (k+1)).tail.foldl max ((ns[0]?).getD 0)
 |0=>λh=>by
  cases ns with
  |nil=>simp at h|cons n r=>simp[argBest]
 |k+1=>λh=>by
  have ih:=Xga ns k (by omega);simp only[argBest];have J:(ns.take (k+1+1)).tail=(ns.take (k+1)).tail++[ns[k+1]]:=by
   rw[List.take_succ_eq_append_getElem h];cases ns with
   |nil=>simp at h|cons n r=>simp
  rw[J,Vdc];simp only[Vel,List.foldl_nil];generalize L:List.foldl max ((ns[0]?).getD 0) (ns.take (k+1)).tail=m at ih ⊢;have h1:(ns[k+1]?).getD 0=ns[k+1]:=by simp[h]
  split;·rename_i hc;have B:=oD0 hc;rw[ih,h1]at B;rw[h1];omega
  ·rename_i hc;have B:¬ ((ns[k+1]?).getD 0>(ns[argBest (λi j=>decide ((ns[i]?).getD 0>(ns[j]?).getD 0)) k]?).getD 0):=λz=>hc (decide_eq_true z);rw[ih,h1]at B;rw[ih];omega
theorem X4l(hc:X.calm=yx){d:D}{v:V}{u:Vb}(I:S0 X pa σ H s ρ S env)(rd:RD X.K ρ H d v)(rv:RelV v u)(L:Xk .mxl [d] S≠.bad):Vg (Vl X.prog X.w) X.A (call (.builtin "max") [u]) (OkP X pa σ ρ H (Xk .mxl [d] S)) E s:=by
 simp only[Xk]at L ⊢;cases e:Xw S d with
 |none=>rw[e]at L;cases L rfl|some xs=>
  rw[e]at L;simp only[Vq]at L ⊢;cases Y:Xm xs with
  |none=>rw[Y]at L;cases L rfl|some J=>
   rw[Y]at L;cases J with
   |nil=>cases L rfl|cons n J=>
    dsimp only;have q:=Yw Y;subst q;obtain⟨a,ws,its,rfl,hl,hr,U,hz⟩:=I.seqI e rd rv;have hw:=hr.ints_of;subst hw;have B:(lf its)=(n::J).length:=by rw[<-U.length];simp
    refine call_max_walk (Xgq (I.inv.ok.hd hc) hl λIt fp wr St ab W st hf aa=>?_);refine⟨It,fp,wr,_,_,St,λi j=>decide (((n::J)[i]?).getD 0>((n::J)[j]?).getD 0),rfl,W,st,hf,by rw[B];simp,λi j vi vj s' Q' E' hi hj hQ=>?_,λv' h' tk hP hk=>?_⟩;·obtain⟨t,rfl⟩:=Xgr U hi;obtain⟨t',rfl⟩:=Xgr U hj;exact gt_int hQ
    ·obtain⟨t,rfl⟩:=Xgr U hP;obtain⟨e3,k3⟩:=aa h' tk hk;rw[e3];have:=Xga (n::J) (lf its-1) (by rw[B];simp);rw[this,B];simp only[U1,Nat.add_sub_cancel,Vct (Vm (n::J).length),List.tail_cons];have e5:List.take (lf J+1) (n::J)=n::J:=by simp
     rw[e5];exact Xap I.sr (I.inv.kept k3)
theorem X82(hc:X.calm=yx):BlR X .mxl (.builtin "max"):=by
 intro pa s σ H ρ S env ds vs us E I J L B;match ds,J,B with
 |[],_,B=>cases B rfl|_::_::_,_,B=>cases B rfl|[d],J,B=>obtain⟨v,rfl,U⟩:=J.one;obtain⟨u,rfl,Y⟩:=L.one;exact X4l hc I U Y B
def MtD(X:Cx)(k:Mt)(id:String):Prop:=
 ∀(pa:LA) (s:Vc) (σ:L2.St) (H:Hp) (ρ:LR) (S:Sto) (env:En) (d:D) (v:V) (u:Vb) (ds:LD) (vs:LW) (us:LV) (E:VP),S0 X pa σ H s ρ S env->RD X.K ρ H d v->RelV v u->RDs X.K ρ H ds vs->Vals vs us->Yk k d ds S≠.bad ->
  Vg (Vl X.prog X.w) X.A (call (.builtin id) (u::us)) (OkP X pa σ ρ H (Yk k d ds S)) E s
theorem Xfk{n:Nat}{a:Addr}{xs:LD}{vs:LW}{s':Vc}{d:D}{v:V}{u:Vb}(I:S0 X pa σ H s ρ S env)(L:ρ[n]?=yz a)(hv:H a=yz (.lst ws))(J:Inv X pa σ (upd H a (.lst vs)) s')(rd:RDs X.K ρ H xs vs)(Y:RelV v u)(B:RD X.K ρ H d v):
  OkP X pa σ ρ H (.ok d (S.set n (.lst xs))) u s':=by
 have U:∀o u,H a≠yz (.frz o u):=λo u z=>by rw[hv]at z;cases z
 have st:Stp X.K ρ ρ H (upd H a (.lst vs)):=Stp.chg (S:=S) (o:=.lst xs) I.sr L U;exact .mk st J Y (B.mono st) (I.sr.chg L U ⟨vs,Yi,rd.mono st⟩)
theorem Xv2:MtD X .append "list.append":=by
 intro pa s σ H ρ S env d v u ds vs us E I Y rv L U B;match d,ds,L,Y,B with
 |.ref n,[x],L,Y,B=>
  obtain⟨y,rfl,r1⟩:=L.one;simp only[Yk]at B ⊢;cases e:Z.lstM S n with
  |none=>rw[e]at B;cases B rfl|some xs=>
   rw[e]at B;dsimp only at B ⊢;split at B;·rename_i hz;rw[iP0 hz];obtain⟨a,ws,rfl,ha,hv,hr⟩:=I.lstR e Y;refine mtd (Q':=λz H'=>z=.non/\H'=upd H a (.lst (ws++[y]))) Xj0 I.inv rv U ⟨a,ws,y,rfl,rfl,hv,by rw[<-hr.length];exact Ub hz Xem,rfl,rfl⟩ λw s' z H' J rz ⟨e1,e2⟩=>?_;subst e1 e2;exact Xfk I ha hv J (hr.append (.cons r1 .nil)) rz (by simp only[RD])
   ·cases B rfl
 |.ref n,[],_,_,B=>cases B rfl|.ref n,_::_::_,_,_,B=>cases B rfl|.non,ds,_,_,B=>cases ds<;>cases B rfl|.bl _,ds,_,_,B=>cases ds<;>cases B rfl|.int _,ds,_,_,B=>cases ds<;>cases B rfl|.str _,ds,_,_,B=>cases ds<;>cases B rfl|.tup _,ds,_,_,B=>cases ds<;>cases B rfl|.fro _,ds,_,_,B=>cases ds<;>cases B rfl
theorem X83:MtD X .xtd "list.extend":=by
 intro pa s σ H ρ S env d v u ds vs us E I rd rv aa ab B;match d,ds,aa,rd,B with
 |.ref n,[x],aa,rd,B=>
  obtain⟨y,rfl,r1⟩:=aa.one;cases x with
  |ref k=>
   simp only[Yk]at B ⊢;cases e:Z.lstM S n with
   |none=>rw[e]at B;cases B rfl|some xs=>
    rw[e]at B;dsimp only at B ⊢;cases U:Xc S k with
    |none=>rw[U]at B;cases B rfl|some ys=>
     rw[U]at B;dsimp only at B ⊢;split at B;·rename_i hz;rw[iP0 hz];obtain⟨a,ws,rfl,ha,hv,hr⟩:=I.lstR e rd;obtain⟨b,zs,rfl,hb,hw,hq⟩:=I.lstR U r1;refine mtd (Q':=λz H'=>z=.non/\H'=upd H a (.lst (ws++zs))) Xsd I.inv rv ab ⟨a,b,ws,zs,rfl,rfl,hv,hw,by rw[<-hr.length,<-hq.length];exact Uv hz Xem,rfl,rfl⟩ λw s' z H' J rz ⟨e1,U⟩=>?_;subst e1 U;exact Xfk I ha hv J (hr.append hq) rz (by simp only[RD])
     ·cases B rfl
  |tup ys=>
   simp only[Yk]at B ⊢;cases e:Z.lstM S n with
   |none=>rw[e]at B;cases B rfl|some xs=>
    rw[e]at B;dsimp only at B ⊢;split at B
    ·rename_i hz;rw[iP0 hz];obtain⟨a,ws,rfl,ha,hv,hr⟩:=I.lstR e rd;simp only[RD]at r1;obtain⟨b,zs,rfl,hs,hq⟩:=r1;cases rv;obtain⟨u2,rfl,ai⟩:=ab.one;cases ai;have af:ws.length+lf zs<=V8:=by rw[<-hr.length,<-hq.length];exact Uv hz Xem
     obtain⟨z,its,c,ag,hl,eo⟩:=I.inv.lstM hv;obtain⟨L,r2,⟨o2,U,ac,n2,ah⟩,aj⟩:=I.inv.tuple hs;have ak:=r2.length;have ae:its.toArray.size+L.toArray.size<=V8:=by rw[Vr,Vr];omega
     have Y:¬ (!its.toArray.isEmpty&&Vd7 (its.toArray.size+L.toArray.size))=true:=by rw[Xld ae,Vcf];exact Us
     refine U0 F.slot_list_extend ⟨_,eo,rfl⟩ F.entry_list_extend ?_ (F.args_list_extend_2 _ _);show Vg _ _ (Vbj (.ref a) (.ref b) .none) _ _ s;unfold Vbj;refine Va (Vcc (T:="tuple") ⟨o2,U,ac⟩ ?_);rw[iP0 (by rw[show(Vca "tuple" == Vca "tuple")=yx from rfl];simp)];refine Va (Vfn U ah (Va (Vfn eo rfl ?_)));rw[iN0 Y];refine Va (Vge eo rfl (Vd ⟨_,rfl,?_⟩) (by rw[Vr];omega) (by rw[Array.size_append];omega));exact Xfk I ha hv (I.inv.lset (its':=its++L) hv eo (by simp) (ag.append r2) (by rw[Vy];exact af)) (hr.append hq) (show RelV .non Van from rfl) (by simp only[RD])
    cases B rfl
  |_=>cases B rfl
 |.ref n,[],_,_,B=>cases B rfl|.ref n,_::_::_,_,_,B=>cases B rfl|.non,ds,_,_,B=>cases ds<;>cases B rfl|.bl _,ds,_,_,B=>cases ds<;>cases B rfl|.int _,ds,_,_,B=>cases ds<;>cases B rfl|.str _,ds,_,_,B=>cases ds<;>cases B rfl|.tup _,ds,_,_,B=>cases ds<;>cases B rfl|.fro _,ds,_,_,B=>cases ds<;>cases B rfl
theorem X84(n:Nat)(i:Int)(k:Nat)(h:Z.ixN n i=yz k):seqIndex? i n=yz k:=by
 unfold Z.ixN at h;unfold seqIndex?;dsimp only;by_cases B:0<=i
 ·rw[iP0 B]at h;split at h;·rename_i J;rw[iN0 (Int.not_lt.mpr B),decide_eq_true B,decide_eq_true J];exact h
  ·cases h
 rw[iN0 B]at h;split at h;·rw[iP0 (Int.not_le.mp B),decide_eq_true (show 0<=i+(n:Int) by omega),decide_eq_true (show i+(n:Int)<n by omega)];exact h
 ·cases h
theorem RDs.erase{K:Vj}{ρ:LR}{H:Hp}:∀ {xs:LD} {vs:LW} (j:Nat),RDs K ρ H xs vs->RDs K ρ H (xs.eraseIdx j) (vs.eraseIdx j)
 |[],vs,j,h=>by simp only[RDs]at h;subst h;simp only[List.eraseIdx_nil,RDs]|x::xs,vs,0,h=>by simp only[RDs]at h;obtain⟨v,B,rfl,_,h2⟩:=h;exact h2|x::xs,vs,j+1,h=>by simp only[RDs]at h;obtain⟨v,B,rfl,h1,h2⟩:=h;simp only[List.eraseIdx_cons_succ,RDs];exact⟨_,_,rfl,h1,RDs.erase j h2⟩
theorem X4m:MtD X .popi "list.pop":=by
 intro pa s σ H ρ S env d v u ds vs us E I rd rv U Y B;match d,ds,U,rd,B with
 |.ref n,[x],U,rd,B=>
  obtain⟨y,rfl,r1⟩:=U.one;cases x with
  |int k=>
   simp only[Yk]at B ⊢;cases e:Z.lstM S n with
   |none=>rw[e]at B;cases B rfl|some xs=>
    rw[e]at B;dsimp only at B ⊢;cases L:Z.ixN (lf xs) k with
    |none=>rw[L]at B;cases B rfl|some j=>
     rw[L]at B;dsimp only at B ⊢;cases e3:xs[j]? with
     |none=>rw[e3]at B;cases B rfl|some z=>
      rw[e3]at B;dsimp only at B ⊢;split at B
      ·rename_i hz;rw[iP0 hz];obtain⟨a,ws,rfl,ha,hv,hr⟩:=I.lstR e rd;simp only[RD]at r1;subst r1;obtain⟨zv,aa,ab⟩:=hr.get e3;have bd:-(2^63:Int)<=k/\k<2^63:=by
        have b1:(lf xs)<1000000:=hz;unfold Z.ixN at L;split at L
        ·split at L;·omega
         ·cases L
        split at L;·omega
        ·cases L
       refine mtd (Q':=λz' H'=>z'=zv/\H'=upd H a (.lst (ws.eraseIdx j))) Xvb I.inv rv Y ⟨a,ws,k,j,zv,rfl,rfl,hv,bd.1,bd.2,by rw[<-hr.length];exact X84 _ _ _ L,aa,rfl,rfl⟩ λw s' z' H' J rz ⟨e4,e5⟩=>?_;subst e4 e5;exact Xfk I ha hv J (hr.erase j) rz ab
      cases B rfl
  |_=>cases B rfl
 |.ref n,[],_,_,B=>cases B rfl|.ref n,_::_::_,_,_,B=>cases B rfl|.non,ds,_,_,B=>cases ds<;>cases B rfl|.bl _,ds,_,_,B=>cases ds<;>cases B rfl|.int _,ds,_,_,B=>cases ds<;>cases B rfl|.str _,ds,_,_,B=>cases ds<;>cases B rfl|.tup _,ds,_,_,B=>cases ds<;>cases B rfl|.fro _,ds,_,_,B=>cases ds<;>cases B rfl
end
section
variable{X:Cx}{pa:LA}{σ:L2.St}{H:Hp}{s:Vc}{ρ:LR}{S S':Sto}{env:En}{a b c e:Expr}{fa fb fc:En->Sto->R D}{pos:Pos}
theorem Xyy(U:DE X a fa):DE X (.UnaryOp .USub a pos) (λenv S=>(fa env S).bind λx S=>match x with | .int i=>.ok (.int (-i)) S|_=>.bad):=by
 intro pa s σ H ρ S env I B;dsimp only at B ⊢;cases q:fa env S with
 |bad=>rw[q]at B;cases B rfl|ex n S1=>exact UnaryOp_ (U.ex I q λx s' z=>⟨n,S1,rfl,z⟩)|ok x S1=>
  rw[q]at B;simp only[Rk0]at B ⊢;refine UnaryOp_ (U.ok I q λu s1 v H1 aa L rv Y J=>?_);cases x with
  |int i=>simp only[RD]at Y;subst Y;obtain⟨t,rfl⟩:=rv;exact neg_int (OkP.pre J (Xap L.sr (L.inv.tok _)))|_=>cases B rfl
theorem X4n(hc:DT X c (λenv S=>tst (fc env S)))(ha:DT X a (λenv S=>tst (fa env S)))(hb:DT X b (λenv S=>tst (fb env S))):
  DT X (.IfExp c a b pos) (λenv S=>tst ((fc env S).bind λx S=>match Xg S x with|some yx=>fa env S|some yw=>fb env S|none=>.bad)):=by
 intro pa s σ H ρ S env I B;dsimp only at B ⊢;show Vg _ _ (do if <- isTrue c X.env (eval c X.env) then isTrue a X.env (eval a X.env) else isTrue b X.env (eval b X.env)) _ _ s;cases q:fc env S with
 |bad=>rw[q]at B;cases B rfl|ex n S1=>exact Va (hc.ex I (by simp only[q];rfl) λx s' z=>⟨n,S1,rfl,z⟩)|ok x S1=>
  rw[q]at B;simp only[Rk0]at B ⊢;cases t:Xg S1 x with
  |none=>rw[t]at B;cases B rfl|some r=>
   rw[t]at B;refine Va (hc.ok I (by simp only[q];exact Xbk t) λY H2 L U J=>?_);cases r with
   |true=>exact Vo (ha pa Y σ H2 L S1 env U B) (λw s3 ⟨S3,e3,H3,ρ3,J3,sr3,st3⟩=>⟨S3,e3,H3,ρ3,J3,sr3,J.trans st3⟩) λx s' z=>z.pre J|false=>exact Vo (hb pa Y σ H2 L S1 env U B) (λw s3 ⟨S3,e3,H3,ρ3,J3,sr3,st3⟩=>⟨S3,e3,H3,ρ3,J3,sr3,J.trans st3⟩) λx s' z=>z.pre J
noncomputable def Y5(B J:Co)(fa fb fc:En->Sto->R D)(env:En)(S:Sto):R D:=(fa env S).bind λx S=>(fb env S).bind λy S=>match X5 B x y S with
  |some yx=>(fc env S).bind λz S=>Xh J y z S|some yw=>.ok (.bl yw) S|none=>.bad
theorem Xl6(af:Op2 X (Vbn (opC o1)) (Xh o1))(ha:DE X a fa)(hb:DE X b fb)(I:S0 X pa σ H s ρ S env)(U:Y5 o1 o2 fa fb fc env S≠.bad)
  {W:Vb->Vb->Bool->Vc->Prop} (hE:∀x s',ExP X pa σ ρ H (Y5 o1 o2 fa fb fc env S) x s'->Ev x s')
  (hF:∀v u J S2 H2 B,Y5 o1 o2 fa fb fc env S=.ok (.bl yw) S2->S0 X pa σ H2 J B S2 env->Stp X.K ρ B H H2->W v u yw J)
  (hT:∀v u J S2 y vy H2 B,Y5 o1 o2 fa fb fc env S=((fc env S2).bind λz S=>Xh o2 y z S)->S0 X pa σ H2 J B S2 env->RelV vy u->RD X.K B H2 y vy->Stp X.K ρ B H H2->W v u yx J):
  Vg (Vl X.prog X.w) X.A (eval a X.env) (λv s1=>Vg (Vl X.prog X.w) X.A (eval b X.env) (λu s2=>Vg (Vl X.prog X.w) X.A (Vbn (opC o1) v u) (λd J=>∃r,d=.bool r/\W v u r J) Ev s2) Ev s1) Ev s:=by
 cases q:fa env S with
 |bad=>rw[Y5,q]at U;cases U rfl|ex n S1=>exact ha.ex I q λx s' z=>hE x s' ⟨n,S1,by rw[Y5,q];rfl,z⟩|ok x S1=>
  refine ha.ok I q λv s1 vx H1 ai I1 rv rd Y=>?_;cases q2:fb env S1 with
  |bad=>rw[Y5,q]at U;simp only[Rk0]at U;rw[q2]at U;cases U rfl|ex n S2=>exact hb.ex I1 q2 λx s' z=>hE x s' ⟨n,S2,by rw[Y5,q];simp only[Rk0];rw[q2];rfl,z.pre Y⟩|ok y S2=>
   refine hb.ok I1 q2 λu s2 vy H2 B I2 ru ae ab=>?_
   have eq:Y5 o1 o2 fa fb fc env S=(match X5 o1 x y S2 with
     |some yx=>(fc env S2).bind λz S=>Xh o2 y z S|some yw=>.ok (.bl yw) S2
     |none=>.bad):=by rw[Y5,q];simp only[Rk0];rw[q2];rfl
   cases q3:X5 o1 x y S2 with
   |none=>rw[eq,q3]at U;cases U rfl|some r=>
    have e3:Xh o1 x y S2=.ok (.bl r) S2:=by unfold Xh;rw[q3]
    refine Vo (af pa s2 σ H2 B S2 env x y vx vy v u (λ_ _=>False) I2 (by rw[e3];exact λz=>nomatch z) (rd.mono ab) rv ae ru) (λd J z=>?_) λ_ _ z=>z.elim;rw[e3]at z;obtain⟨d',S3,e4,w,H3,aa,J3,ah,ac,ag,L⟩:=z;cases e4;simp only[RD]at ac;subst ac;cases ah;refine⟨r,rfl,?_⟩;have I3:S0 X pa σ H3 J aa S2 env:=I2.step J3 ag L;cases r with
    |false=>exact hF v u J S2 H3 aa (by rw[eq,q3]) I3 (Y.trans (ab.trans L))|true=>exact hT v u J S2 y vy H3 aa (by rw[eq,q3]) I3 ru (ae.mono L) (Y.trans (ab.trans L))
theorem Xl7(ab:Op2 X (Vbn (opC o2)) (Xh o2))(hc:DE X c fc)(I:S0 X pa σ H s ρ S env)(ru:RelV vy u)(rd:RD X.K ρ H y vy)(Y:Stp X.K ρ0 ρ H0 H)
  (J:((fc env S).bind λz S=>Xh o2 y z S)≠.bad) (hE:∀x s',ExP X pa σ ρ0 H0 ((fc env S).bind λz S=>Xh o2 y z S) x s'->Ev x s')
  (hW:∀r S3 s3 H3 B,((fc env S).bind λz S=>Xh o2 y z S)=.ok (.bl r) S3->S0 X pa σ H3 s3 B S3 env->Stp X.K ρ0 B H0 H3->W (.bool r) s3):
  Vg (Vl X.prog X.w) X.A (eval c X.env) (λw s1=>Vg (Vl X.prog X.w) X.A (Vbn (opC o2) u w) W Ev s1) Ev s:=by
 cases q:fc env S with
 |bad=>rw[q]at J;cases J rfl|ex n S1=>exact hc.ex I q λx s' z=>hE x s' ⟨n,S1,by rw[q];rfl,z.pre Y⟩|ok z S1=>rw[q]at J;simp only[Rk0]at J;refine hc.ok I q λw s1 vz H1 ag I1 rv ac U=>?_;obtain⟨r,e1,e2⟩:=Xcl J;refine Vo (ab pa s1 σ H1 ag S1 env y z vy vz u w (λ_ _=>False) I1 J (rd.mono U) ru ac rv) (λd s3 zz=>?_) λ_ _ z=>z.elim;rw[e2]at zz;obtain⟨d',S3,e4,w',H3,B,J3,af,L,ae,aa⟩:=zz;cases e4;simp only[RD]at L;subst L;cases af;exact hW r S1 s3 H3 B (by rw[q];exact e2) (I1.step J3 ae aa) (Y.trans (U.trans aa))
theorem X85(aa:Op2 X (Vbn (opC o1)) (Xh o1))(U:Op2 X (Vbn (opC o2)) (Xh o2))(ha:DE X a fa)(hb:DE X b fb)(hc:DE X c fc)(hm:lastMarks [opC o1,opC o2] [b,c]=yw):
  DE X (.Compare a [opC o1,opC o2] [b,c] pos) (Y5 o1 o2 fa fb fc):=by
 intro pa s σ H ρ S env I nb;refine Compare_chain (Vo (Xl6 (W:=λv u r J=>if r=yx then Vg (Vl X.prog X.w) X.A (compareChain pos u [opC o2] [eval c X.env]) (OkP X pa σ ρ H (Y5 o1 o2 fa fb fc env S)) (ExP X pa σ ρ H (Y5 o1 o2 fa fb fc env S)) J else OkP X pa σ ρ H (Y5 o1 o2 fa fb fc env S) (.bool yw) J) aa ha hb I nb (λ_ _ z=>z) ?_ ?_)
  (λv s1 h1=>chain_link (Vo h1 (λu s2 h2=>Vo h2 (λd J ⟨r,e,w⟩=>?_) λ_ _ z=>z) λ_ _ z=>z)) λ_ _ z=>z) hm
 ·intro v u J S2 H2 Y e L B;rw[iN0 Us,e];exact OkP.pre B (Xy L.sr L.inv)
 ·intro v u J S2 y vy H2 Y e L ru rd B;rw[iP0 rfl];refine chain_last (Xl7 U hc L ru rd B (by rw[<-e];exact nb) (λx s' z=>by rw[e];exact z) λr S3 s4 H3 ac e3 I3 ab=>?_);rw[e,e3];exact OkP.pre ab (Xy I3.sr I3.inv)
 ·subst e;refine Vb5 ?_;cases r with
  |true=>rw[iP0 rfl]at w;exact ite_tt w|false=>rw[iN0 Us]at w;exact ite_ff w
theorem X4o(ac:Op2 X (Vbn (opC o1)) (Xh o1))(aa:Op2 X (Vbn (opC o2)) (Xh o2))(ha:DE X a fa)(hb:DE X b fb)(hc:DE X c fc)(hm:lastMarks [opC o1,opC o2] [b,c]=yw):
  DT X (.Compare a [opC o1,opC o2] [b,c] pos) (λenv S=>tst (Y5 o1 o2 fa fb fc env S)):=by
 intro pa s σ H ρ S env I nb;dsimp only at nb ⊢;have U:Y5 o1 o2 fa fb fc env S≠.bad:=λz=>nb (by rw[z];rfl);have ex:∀x s',ExP X pa σ ρ H (Y5 o1 o2 fa fb fc env S) x s'->ExP X pa σ ρ H (tst (Y5 o1 o2 fa fb fc env S)) x s':=λx s' ⟨n,S1,e,z⟩=>⟨n,S1,by rw[e];rfl,z⟩
 refine isTrue_chain (Vo (Xl6 (W:=λv u r J=>if r=yx then Vg (Vl X.prog X.w) X.A (testChain pos u [opC o2] [eval c X.env]) (λb s'=>∃S',tst (Y5 o1 o2 fa fb fc env S)=.ok b S'/\∃H' ρ',Inv X pa σ H' s'/\SR X.K ρ' S' H'/\Stp X.K ρ ρ' H H') (ExP X pa σ ρ H (tst (Y5 o1 o2 fa fb fc env S))) J
   else ∃S',tst (Y5 o1 o2 fa fb fc env S)=.ok yw S'/\∃H' ρ',Inv X pa σ H' J/\SR X.K ρ' S' H'/\Stp X.K ρ ρ' H H') ac ha hb I U ex ?_ ?_)
  (λv s1 h1=>test_link (Vo h1 (λu s2 h2=>Vo h2 (λd J ⟨r,e,w⟩=>?_) λ_ _ z=>z) λ_ _ z=>z)) λ_ _ z=>z) hm
 ·intro v u J S2 H2 L e Y B;rw[iN0 Us,e];exact⟨S2,rfl,H2,L,Y.inv,Y.sr,B⟩
 ·intro v u J S2 y vy H2 L e Y ru rd B;rw[iP0 rfl];refine test_last (Xl7 aa hc Y ru rd B (by rw[<-e];exact U) (λx s' z=>ex x s' (by rw[e];exact z)) λr S3 s4 H3 ab e3 I3 ae=>?_);exact Vb5 ⟨S3,by rw[e,e3];rfl,H3,ab,I3.inv,I3.sr,ae⟩
 ·subst e;refine Vb5 ?_;cases r with
  |true=>rw[iP0 rfl]at w;exact ite_tt w|false=>rw[iN0 Us]at w;exact ite_ff w
variable{x:Str}{p:Pos}{es:LX}{g:En->Sto->R (LD)}{k:Bl}{id T:String}
theorem X4p (hB:BlR X k (.builtin id)) (hg:Gl X x) (hm:X.mg x=yy) (hv:Vd6 x=yz (.builtin id)) (ha:DA X (e::es) g) (hn:x ≠ "__name__") (L:(x==("__debug__" : Str))=yw)
  (he:Ul (e::es) X.env=(yw,eval e X.env)::Ul es X.env) (B:(Vc0 pos (Ul es X.env)).any (·.1)=yw):DE X (.Call (.Name x p) (e::es) [] pos) (λenv S=>(g env S).bind λxs S=>Xk k xs S):=by
 intro pa s σ H ρ S env I J;dsimp only at J ⊢;refine Var (Ym I.inv hg hm hv ?_ hn L);cases q:g env S with
 |bad=>rw[q]at J;cases J rfl|ex n S1=>exact Va3 (ha.ex I q λx s' z=>⟨n,S1,rfl,z⟩) he B|ok ds S1=>rw[q]at J;refine Va3 (ha.ok I q λus s1 vs H1 U I1 rv rd Y=>?_) he B;exact Vo (hB pa s1 σ H1 U S1 env ds vs us (λ_ _=>False) I1 rd rv J) (λw s2 z=>z.pre Y) λ_ _ z=>z.elim
theorem X4q (hB:BlR X k (.type T)) (hg:Gl X x) (hm:X.mg x=yy) (hv:Vd6 x=yz (.type T)) (ha:DA X (e::es) g) (hn:x ≠ "__name__") (L:(x==("__debug__" : Str))=yw)
  (he:Ul (e::es) X.env=(yw,eval e X.env)::Ul es X.env) (B:(Vc0 pos (Ul es X.env)).any (·.1)=yw):DE X (.Call (.Name x p) (e::es) [] pos) (λenv S=>(g env S).bind λxs S=>Xk k xs S):=by
 intro pa s σ H ρ S env I J;dsimp only at J ⊢;refine Var (Ym I.inv hg hm hv ?_ hn L);cases q:g env S with
 |bad=>rw[q]at J;cases J rfl|ex n S1=>exact Vaf (ha.ex I q λx s' z=>⟨n,S1,rfl,z⟩) he B|ok ds S1=>rw[q]at J;refine Vaf (ha.ok I q λus s1 vs H1 U I1 rv rd Y=>?_) he B;exact Vo (hB pa s1 σ H1 U S1 env ds vs us (λ_ _=>False) I1 rd rv J) (λw s2 z=>z.pre Y) λ_ _ z=>z.elim
theorem X86 (hg:Gl X x) (L:X.mg x=yz u) (hd:∀ ρ H,∃v,RelV v u/\RD X.K ρ H d v) (B:(x==("__debug__" : Str))=yw):DE X (.Name x p) (λ_ S=>.ok d S):=by intro pa s σ H ρ S env I Y;obtain⟨v,J,U⟩:=hd ρ H;exact Xdh I.inv hg L (.mk .refl I.inv J U I.sr) B
theorem Xer (slot:Slot "list" name id) (ag:typeOf (.builtin id)=pure (.type "method_descriptor")) (hM:MtD X m id) (hr:∀x S,Y7 m x S=yx->∃n xs,x=.ref n/\Xc S n=yz xs) (ho:DE X o fo) (ha:DA X (e::es) g)
  (L:attributeBase o name X.env (eval o X.env)=eval o X.env)
  (Y:((Vc0 cpos (Ul (e::es) X.env)).all (λx=>!x.1)&&(backToKw cpos (keywordEach [] X.env)).all (λx=>x.1.isSome)&&decide ((e::es).length+([]:List Keyword).length+(if ([]:List Keyword).isEmpty then 0 else 1)<30))=yx)
  (U:(apos.endLine==cpos.line)=yx) (hs:Ul (e::es) X.env=(yw,eval e X.env)::Ul es X.env) (B:(Vc0 cpos (Ul es X.env)).any (·.1)=yw):
  DE X (.Call (.Attribute o name apos) (e::es) [] cpos) (λenv S=>(fo env S).bind λx S=>if Y7 m x S then (g env S).bind λxs S=>Yk m x xs S else .bad):=by
 intro pa s σ H ρ S env I J;dsimp only at J ⊢;cases q:fo env S with
 |bad=>rw[q]at J;cases J rfl|ex n S1=>exact wpAny_Call_method_late L Y U rfl (ho.ex I q λx s' z=>⟨n,S1,rfl,z⟩)|ok x S1=>
  rw[q]at J;simp only[Rk0]at J ⊢;split at J
  ·rename_i hk;rw[iP0 hk];obtain⟨n,xs,rfl,hx⟩:=hr x S1 hk;refine wpAny_Call_method_late L Y U rfl (ho.ok I q λv s1 vx H1 ah I1 rv rd aa=>?_);obtain⟨a,ws,rfl,k1,k2,k3⟩:=I1.lstR hx rd;cases rv;obtain⟨its,_,pl,_⟩:=I1.inv.list (.of k2);refine⟨"list",id,PySem.F.plainAttrs_list,slot,ag,pl.isList.typeIs,λb eb=>?_,?_⟩;·cases eb;obtain⟨ob,n',e1,c1,hd,_⟩:=pl;exact⟨ob,e1,hd⟩
   ·cases q2:g env S1 with
    |bad=>rw[q2]at J;cases J rfl|ex k S2=>have hA:=ha.ex (pos:=cpos) (E:=ExP X pa σ ρ H (.ex k S2:R D)) (Q:=λus s2=>Vg (Vl X.prog X.w) X.A (call (.builtin id) (.ref a::us)) (OkP X pa σ ρ H (.ex k S2)) (ExP X pa σ ρ H (.ex k S2:R D)) s2) I1 q2 λx s' z=>.mk aa z;rw[hs]at hA ⊢;exact Calls.callWith_builtin (by show(yw||(Vc0 cpos (Ul es X.env)).any (·.1))=yw;rw[B];rfl) (Vgv hA)|ok ds S2=>rw[q2]at J;simp only[Rk0]at J ⊢;have hA:=ha.ok (pos:=cpos) (E:=ExP X pa σ ρ H (Yk m (.ref n) ds S2)) (Q:=λus s2=>Vg (Vl X.prog X.w) X.A (call (.builtin id) (.ref a::us)) (OkP X pa σ ρ H (Yk m (.ref n) ds S2)) (ExP X pa σ ρ H (Yk m (.ref n) ds S2)) s2) I1 q2 λus s2 vs H2 ae I2 ac af ab=>Vo (hM pa s2 σ H2 ae S2 env (.ref n) (.ref a) (.ref a) ds vs us (λ_ _=>False) I2 (rd.mono ab) rfl af ac J) (λw s3 z=>z.pre (aa.trans ab)) λ_ _ z=>z.elim;rw[hs]at hA ⊢;exact Calls.callWith_builtin (by show(yw||(Vc0 cpos (Ul es X.env)).any (·.1))=yw;rw[B];rfl) (Vgv hA)
  cases J rfl
end
section
variable{X:Cx}{pa:LA}{σ:L2.St}{H:Hp}{s:Vc}{ρ:LR}{S:Sto}{env:En}
theorem Xl8:∀(B:LS) (k:Nat) (acc:Str),(textFrom k acc B).length<=acc.length+piled B
 |[]=>λk acc=>by simp[textFrom,piled]|t::B=>λk acc=>by
  have ih:=Xl8 B (k+1) (acc++(if k>0 then ", " else "" : String)++t);have e:(Vao (if k>0 then ", " else "")).length<=2:=by split<;>decide
  rw[textFrom,piled_cons];simp only[Vho]at ih;omega
mutual
theorem Xl9:∀p:Vby,p.showable=yx->Xai p=yx->p.shown.length<=szD p
 |.none=>λ_ _=>by simp only[Vew,szD];decide|.bool b=>λ_ _=>by simp only[Vew,szD];cases b<;>decide|.int i=>λh _=>by simp only[Vbd,decide_eq_true_eq]at h;simp only[Vew,szD];have:=int_text_length_le (by decide) h;rw[PySem.ofString_length];omega|.str x=>λ_ _=>by simp only[Vew,szD];exact Vm _|.list xs=>λh h2=>by
  simp only[Vbd]at h;simp only[Xai]at h2;have ih:=shownAll_le xs h h2;simp only[Vew,szD,listText,Vho];have:=Xl8 (Vc7 xs) 0 "[";have L:(Vao "[").length=1:=by decide
  have J:(Vao "]").length=1:=by decide
  omega|.tuple xs=>λh h2=>by
  simp only[Vbd]at h;simp only[Xai]at h2;have ih:=shownAll_le xs h h2;simp only[Vew,szD,tupleText,Vho];have L:(Vao "(").length=1:=by decide
  have J:(Vao (if (Vc7 xs).length==1 then ",)" else ")")).length<=2:=by split<;>decide
  have U:(Str.join ", " (Vc7 xs)).length<=piled (Vc7 xs):=by
   cases e:Vc7 xs with
   |nil=>decide|cons t B=>have:=join_length_add (t::B) (by simp);omega
  omega|.dict kvs=>λ_ h2=>by
  simp only[Xai]at h2;cases kvs with
  |nil=>simp only[Vew,PyData.shownKv,szD];decide|cons x r=>cases h2
theorem shownAll_le:∀ps:List Vby,Vb0 ps=yx->dctEs ps=yx->piled (Vc7 ps)<=szDs ps
 |[]=>λ_ _=>by simp[Vc7,szDs,piled]|p::ps=>λh h2=>by simp only[Vb0,bA0]at h;simp only[dctEs,bA0]at h2;have i1:=Xl9 p h.1 h2.1;have i2:=shownAll_le ps h.2 h2.2;rw[Vc7,piled_cons,szDs];omega
end
theorem X4r(U:∃o,X.K.lookup Vcu=yz o)(hg:X.A.guards=yz [])(hu:X.A.units+200<Vcl):BlR X .repr (.builtin "repr"):=by
 intro pa s σ H ρ S env ds vs us E I Y rv B;match ds,Y,B with
 |[],_,B=>cases B rfl|d::_::_,_,B=>cases d<;>cases B rfl|[d],Y,B=>
  obtain⟨v,rfl,r1⟩:=Y.one;obtain⟨u,rfl,ru⟩:=rv.one;simp only[Xk]at B ⊢;cases e:Xlt S d with
  |none=>rw[e]at B;cases B rfl|some t=>
   dsimp only;unfold Xlt at e;cases e1:Yc S d with
   |none=>rw[e1]at e;cases e|some p=>
    rw[e1]at e;dsimp only at e;split at e
    ·rename_i hz;simp only[bA0,decide_eq_true_eq]at hz;obtain⟨⟨⟨z1,z2⟩,z3⟩,z4⟩:=hz;cases e;obtain⟨as,rr,J⟩:=Xsn I U e1 r1 ru;have L:p.shown.length<=V8:=Xb0 (Uv (Xl9 p z1 z2) z4);have ref:∀a,u=.ref a->Vg (Vl X.prog X.w) X.A (call (.builtin "repr") [u]) (OkP X pa σ ρ H (.ok (.str p.shown) S)) E s:=λa ea=>by
      subst ea;exact repr_of_reads' rr z1 (λ_=>J) hg (by omega) (λ_ _ q=>q) (λh' u tk hk=>Xhd I.sr (I.inv.kept hk)) L
     cases rr with
     |none=>exact PySem.P.repr_of_none (Xhd I.sr (I.inv.tok _))|bool b=>exact PySem.P.repr_of_bool (by cases b<;>exact Xhd I.sr (I.inv.tok _))|int i t=>exact PySem.P.repr_of_int (by simpa only[Vbd,decide_eq_true_eq] using z1) (Xhd I.sr (I.inv.tok _))|str x t=>exact PySem.P.repr_of_str (Xhd I.sr (I.inv.tok _)) L|_=>exact ref _ rfl
    cases e
theorem Xes(x:Int):∀l:LI,(Xgl x l).Perm (x::l)
 |[]=>.refl _|y::r=>by
  simp only[Xgl];split;·exact .refl _
  ·exact(Vg5 y (Xes x r)).trans (Vfs x y r)
theorem Yx:∀l:LI,(Yl l).Perm l
 |[]=>.refl _|x::r=>(Xes x (Yl r)).trans (Vg5 x (Yx r))
theorem Xpa(x:Int):∀l:LI,l.Pairwise (·<=·)->(Xgl x l).Pairwise (·<=·)
 |[]=>λ_=>by simp[Xgl]|y::r=>λh=>by
  have ⟨h1,h2⟩:=Uy.mp h;simp only[Xgl];split
  ·rename_i e;refine Uy.mpr ⟨λz B=>?_,h⟩;rcases Vn.mp B with rfl|B;·exact e
   ·exact Int.le_trans e (h1 z B)
  rename_i e;refine Uy.mpr ⟨λz B=>?_,Xpa x r h2⟩;rcases Vn.mp ((Xes x r).mem_iff.mp B) with rfl|B;·omega
  ·exact h1 z B
theorem Xdi:∀l:LI,(Yl l).Pairwise (·<=·)
 |[]=>Vb7|x::r=>Xpa x _ (Xdi r)
theorem Xcr{K:Vj}{ρ:LR}{H:Hp}:∀ns:LI,RDs K ρ H (ns.map D.int) (ns.map V.int)
 |[]=>by simp only[Uw,RDs]|n::ns=>by simp only[Uw,RDs];exact⟨_,_,rfl,by simp only[RD],Xcr ns⟩
theorem Xgb{prog:V4}{w:Ua}{A:Uu}{E:VP}{s:Vc}{l:Addr}{vs:LV}{Q:LV->Vc->Prop}(Y:Vdr s.heap l vs.toArray)(U:(lf vs)<=V8)
  (h:Q vs {s with heap:=(s.heap.push (Vag "list" #[] 0)).update s.heap.objs.size (U5 (·++vs.toArray))}):Vg (Vl prog w) A (collect (.ref l)) Q E s:=by
 obtain⟨o,J,hc,n,hd⟩:=id Y;unfold collect;refine Va (Vft (Va2 entry_proto_collect' ?_));show Vg _ _ (do again (.builtin "list.__iadd__" ⟨[<-newList [],.ref l],[]⟩)) _ _ s;refine Va (Ve6 (Vd ⟨Vhe _ (by decide+kernel),Va2 entry_list_iadd' ?_⟩));show Vg _ _ (Vbj (.ref s.heap.objs.size) (.ref l) (.ref s.heap.objs.size)) _ _ {s with heap:=s.heap.push (Vag "list" #[] 0)};unfold Vbj;have B:(s.heap.push (Vag "list" #[] 0)).get? l=yz o:=Vf _ J;refine Va (Vcc (T:="tuple") ⟨o,B,hc⟩ ?_);have L:(Vca "tuple" == Vca "tuple")=true:=by rfl
 rw[iP0 (by rw[L];simp)];refine Va (Vfn B hd (Va (Vfn (xs:=#[]) (n:=0) (Vt _ rfl) rfl ?_)));rw[iN0 (by simp)];refine Va (Vge (xs:=#[]) (n:=0) (Vt _ rfl) rfl (Vd ?_) (Ug _) (by show(#[]++vs.toArray).size<=V8+1;simp only[Array.size_append,Vr,Vc8];omega));show Vg (Vl prog w) A (load s.heap.objs.size >>= _) Q E {s with heap:=(s.heap.push (Vag "list" #[] 0)).update s.heap.objs.size (U5 (·++vs.toArray))};refine Va (Vfp (get?_update_seq (Vt _ rfl) _) ?_);show Vg _ _ (pure ((#[]:AV)++vs.toArray).toList) Q E _;rw[show((#[]:AV)++vs.toArray).toList=vs by simp];exact Vd h
theorem Xqq{prog:V4}{w:Ua}{A:Uu}{E:VP}{s:Vc}{l:Addr}{vs:LV}{ns:LI}{Q:VP}(hl:Vdr s.heap l vs.toArray)(Y:Vb1 vs ns)(U:(lf vs)<64)
  (h:∀(out:AV) (B:LI),Vb1 out.toList B->B.Perm ns->B.Pairwise (·<=·)->Q (.ref (s.heap.objs.size+1)) {s with heap:=sortedAll s.heap vs out}):Vg (Vl prog w) A (call (.builtin "sorted") [.ref l]) Q E s:=by
 refine Vd1 kind_sorted plain_sorted entry_sorted (args_sorted1 _) ?_;unfold Vcb.«sorted»;refine Va (m:=checkCount "sorted" 1 1 _) (Vd (Va (Xgb hl (by rw[Va4];omega) (Va (Ve6 ?_ (by rw[Va4];omega))))));have J:((s.heap.push (Vag "list" #[] 0)).update s.heap.objs.size (U5 (·++vs.toArray))).objs.size=s.heap.objs.size+1:=by rw[Vgi,size_push']
 have L:(((s.heap.push (Vag "list" #[] 0)).update s.heap.objs.size (U5 (·++vs.toArray))).push (Vag "list" vs.toArray 0)).get? (s.heap.objs.size+1)=yz (Vag "list" vs.toArray 0):=by rw[<-J];exact Vt _ rfl
 show Vg _ _ _ _ _ {s with heap:=((s.heap.push (Vag "list" #[] 0)).update s.heap.objs.size (U5 (·++vs.toArray))).push (Vag "list" vs.toArray 0)};rw[J];refine Va (Uo (U0 Vg6 ⟨_,L,rfl⟩ Vgw (list_sort_tree L Y U λout B a1 a2 a3=>⟨_,rfl,Vd ⟨_,rfl,h out B a1 a2 a3⟩⟩) (Vg7 _)))
theorem Xv3:BlR X .sorted (.builtin "sorted"):=by
 intro pa s σ H ρ S env ds vs us E I rd rv L;match ds,rd,L with
 |[],_,L=>cases L rfl|d::_::_,_,L=>cases d<;>cases L rfl|[d],rd,L=>
  obtain⟨v,rfl,r1⟩:=rd.one;obtain⟨u,rfl,ru⟩:=rv.one;simp only[Xk]at L ⊢;cases e:Xw S d with
  |none=>rw[e]at L;cases L rfl|some xs=>
   rw[e]at L;simp only[Vq]at L ⊢;cases e2:Xm xs with
   |none=>rw[e2]at L;cases L rfl|some U=>
    rw[e2]at L;dsimp only at L ⊢;split at L
    ·rename_i hz;rw[iP0 hz];simp only[bA0,decide_eq_true_eq]at hz;have q:=Yw e2;subst q;cases d with
     |ref n=>
      obtain⟨a,ws,rfl,ha,hv,hr⟩:=I.lstR e r1;obtain⟨aa,its,k,Y,eo⟩:=(show ObjOk X.prog X.w H s.heap a (.lst ws) from I.inv.hok a _ hv);have hw:=hr.ints_of;subst hw;cases ru;have hI:=Xag Y;have af:(lf its)=lf U:=by rw[<-Y.length];simp
      refine sorted_ints ⟨_,eo,rfl,k,rfl⟩ hI (by omega) λout ae a1 a2 a3=>?_;have ac:ae=Yl U:=PySem.W.ksm_same (a2.trans (Yx U).symm) a3 (Xdi U);subst ac;obtain⟨e3,ab⟩:=sortedAll_at s.heap its out;have B:s.heap.objs.size<=s.heap.objs.size+1:=Vdn _;have J:=I.inv.laid (o:=.lst ((Yl U).map V.int)) (t':=s.toks) (h':=sortedAll s.heap its out) (λb u hb=>sortedAll_old hb) B
       ⟨by rw[Ve,(Yx U).length_eq];simpa using aa,out.toList,e3,Xb8 a1,by simpa [Vag] using ab⟩
      exact Xaz J (I.inv.hok.fresh B) I.sr (Xcr _)|tup ds=>
      cases e;simp only[RD]at r1;obtain⟨b,zs,rfl,hs,hr⟩:=r1;have hw:=hr.ints_of;subst hw;cases ru;obtain⟨its,Y,pt,aa⟩:=I.inv.tuple hs;have hI:=Xag Y;have af:(lf its)=lf U:=by rw[<-Y.length];simp
      refine Xqq pt hI (by omega) λout ae a1 a2 a3=>?_;have ac:ae=Yl U:=PySem.W.ksm_same (a2.trans (Yx U).symm) a3 (Xdi U);subst ac;obtain⟨e3,ab⟩:=sortedAll_at s.heap its out;have B:s.heap.objs.size<=s.heap.objs.size+1:=Vdn _;have J:=I.inv.laid (o:=.lst ((Yl U).map V.int)) (t':=s.toks) (h':=sortedAll s.heap its out) (λb u hb=>sortedAll_old hb) B
       ⟨by rw[Ve,(Yx U).length_eq];simpa using aa,out.toList,e3,Xb8 a1,by simpa [Vag] using ab⟩
      exact Xaz J (I.inv.hok.fresh B) I.sr (Xcr _)|_=>cases hz.1
    cases L rfl
theorem Xma:∀ {bs:List Bool} {us:LV},Vals (bs.map V.bl) us->us=bs.map Vez
 |[],_,.nil=>rfl|b::bs,_,.cons r t=>by cases r;rw[Xma t];rfl
theorem Xpb{K:Vj}{ρ:LR}{H:Hp}:∀ {bs:List Bool} {B:LW},RDs K ρ H (bs.map D.bl) B->B=bs.map V.bl
 |[],B,h=>by simp only[Uw,RDs]at h;exact h|b::bs,B,h=>by simp only[Uw,RDs]at h;obtain⟨v,r,rfl,h1,h2⟩:=h;simp only[RD]at h1;subst h1;rw[Xpb h2];rfl
theorem Xs4(I:S0 X pa σ H s ρ S env){n:Nat}{xs:LD}{bs:List Bool}{v:V}(h:Xc S n=yz xs)(Y:Yh xs=yz bs)(r:RD X.K ρ H (.ref n) v):∃a k,v=.ref a/\s.heap.get? a=yz {cls:=.type "list",data:=.seq (bs.map Vez).toArray k}:=by obtain⟨a,U,rfl,ha,J,hr⟩:=I.lstR h r;obtain⟨_,its,k,B,e⟩:=(show ObjOk X.prog X.w H s.heap a (.lst U) from I.inv.hok a _ J);have e1:=Xa3 Y;subst e1;have L:=Xpb hr;subst L;rw[Xma B]at e;exact⟨a,k,rfl,e⟩
theorem X4s(J:k=.count)(B:Yk k d ds S≠.bad):∃n b,d=.ref n/\ds=[.bl b]:=by
 subst J
 ·(
  cases d with
  |ref n=>
   cases ds with
   |nil=>cases B rfl|cons x r=>
    cases r with
    |nil=>
     cases x with
     |bl b=>exact⟨n,b,rfl,rfl⟩|_=>cases B rfl
    |cons _ _=>cases x<;>cases B rfl
  |_=>cases ds<;>exact aB0 rfl B)
theorem X0n:MtD X .count "list.count":=by
 intro pa s σ H ρ S env d v u ds vs us E I rd rv U J B;obtain⟨n,b,rfl,rfl⟩:=X4s rfl B;obtain⟨y,rfl,r1⟩:=U.one;simp only[RD]at r1;subst r1;obtain⟨w,rfl,Y⟩:=J.one;cases Y;simp only[Yk]at B ⊢;cases e:Xc S n with
 |none=>rw[e]at B;cases B rfl|some xs=>
  rw[e]at B;simp only[Vq]at B ⊢;cases e2:Yh xs with
  |none=>rw[e2]at B;cases B rfl|some bs=>
   dsimp only;obtain⟨a,k,rfl,ha⟩:=Xs4 I e e2 rd;cases rv;refine Vgn PySem.F.slot_list_count ⟨_,ha,rfl⟩ PySem.F.entry_list_count (PySem.F.args_list_count_2 _ _) (SeqAt.list_countAt a _ k yy #[] (.bool b) λy=>match y with|.bool c=>c==b|_=>yw) ⟨ha,λy hy=>?_,?_⟩
   ·have L:y∈bs.map Vez:=by simpa using hy
    obtain⟨c,_,rfl⟩:=V0.mp L;exact SeqAt.EqAt.bool_bool c b
   have ec:(bs.map Vez).countP (λy=>match y with|.bool c=>c==b|_=>yw)=bs.countP (· == b):=by rw[List.countP_map];rfl
   simp only[Vcp]at *;rw[ec];exact Xap I.sr (I.inv.tok _)
theorem X4t(B:Yk .index d ds S≠.bad):∃n x,d=.ref n/\ds=[x]/\((∃b,x=.bl b)\/∃i,x=.int i):=by
 cases d with
 |ref n=>
  cases ds with
  |nil=>cases B rfl|cons x r=>
   cases r with
   |nil=>
    cases x with
    |bl b=>exact⟨n,_,rfl,rfl,.inl ⟨b,rfl⟩⟩|int i=>exact⟨n,_,rfl,rfl,.inr ⟨i,rfl⟩⟩|_=>cases B rfl
   |cons _ _=>cases x<;>cases B rfl
 |_=>cases ds<;>cases B rfl
theorem Xj9:∀ {us:LV} {ns:LI} {i:Nat} {v:Vb},Vb1 us ns->us[i]?=yz v->∃c t,ns[i]?=yz c/\v=.int c t
 |_,_,i,v,.nil,h=>by simp at h|_,_,0,v,.cons n t r,h=>by cases h;exact⟨n,t,rfl,rfl⟩|_,_,i+1,v,.cons n t r,h=>by obtain⟨c,B,h1,h2⟩:=Xj9 (i:=i) r (by simpa using h);exact⟨c,B,by simpa using h1,h2⟩
theorem X0o:MtD X .index "list.index":=by
 intro pa s σ H ρ S env d v u ds vs us E I rd rv ai ag B;obtain⟨n,x,rfl,rfl,hx⟩:=X4t B;rcases hx with⟨b,rfl⟩|⟨i0,rfl⟩
 ·obtain⟨y,rfl,r1⟩:=ai.one;simp only[RD]at r1;subst r1;obtain⟨w,rfl,af⟩:=ag.one;cases af;simp only[Yk]at B ⊢;cases e:Xc S n with
  |none=>rw[e]at B;cases B rfl|some xs=>
   rw[e]at B;simp only[Vq]at B ⊢;cases L:Yh xs with
   |none=>rw[L]at B;cases B rfl|some bs=>
    rw[L]at B;dsimp only at B ⊢;cases e3:bs.findIdx? (· == b) with
    |none=>rw[e3]at B;cases B rfl|some i=>
     dsimp only;obtain⟨a,k,rfl,ha⟩:=Xs4 I e L rd;cases rv;obtain⟨hi,h1,h2⟩:=Vd3.mp e3;have ah:(lf bs)<=V8:=by obtain⟨a',ws,_,_,hv,hr⟩:=I.lstR e rd;obtain⟨z,_⟩:=(show ObjOk X.prog X.w H s.heap a' (.lst ws) from I.inv.hok a' _ hv);rw[<-hr.length,Xa3 L,Ve]at z;exact z
     have ac:(i:Int)<2^63-1:=by
      have:V8<2^62:=by decide
      have al:(2:Int)^63-1=9223372036854775807:=by decide
      have ak:(2:Nat)^62=4611686018427387904:=by decide
      omega
     refine Vgn Vfy ⟨_,ha,rfl⟩ Vhw (Vhs _ _) (SeqAt.list_indexAt a (bs.map Vez).toArray k yy #[] (.bool b) (λy=>match y with|.bool c=>c==b|_=>yw) i (by simpa using hi) ac (by simpa using h1) λm Y aa=>?_) ⟨ha,λy hy=>?_,Xap I.sr (I.inv.tok _)⟩;·have:=h2 m aa;simpa using this
     ·have am:y∈bs.map Vez:=by simpa using hy
      obtain⟨c,_,rfl⟩:=V0.mp am;exact SeqAt.EqAt.bool_bool c b
 obtain⟨y,rfl,r1⟩:=ai.one;simp only[RD]at r1;subst r1;obtain⟨w,rfl,af⟩:=ag.one;obtain⟨tk,rfl⟩:=af;simp only[Yk]at B ⊢;cases e:Xc S n with
 |none=>rw[e]at B;cases B rfl|some xs=>
  rw[e]at B;simp only[Vq]at B ⊢;cases L:Xm xs with
  |none=>rw[L]at B;cases B rfl|some ns=>
   rw[L]at B;dsimp only at B ⊢;cases e3:ns.findIdx? (· == i0) with
   |none=>rw[e3]at B;cases B rfl|some i=>
    dsimp only;obtain⟨a,ws,rfl,_,hv,hr⟩:=I.lstR e rd;obtain⟨ah,its,k,aj,ha⟩:=(show ObjOk X.prog X.w H s.heap a (.lst ws) from I.inv.hok a _ hv);have q:=Yw L;subst q;have ew:=hr.ints_of;subst ew;have hI:=Xag aj;have J:(lf its)=lf ns:=hI.length;rw[Ve]at ah;cases rv;obtain⟨hi,h1,h2⟩:=Vd3.mp e3;have ac:(i:Int)<2^63-1:=by
     have:V8<2^62:=by decide
     have al:(2:Int)^63-1=9223372036854775807:=by decide
     have ak:(2:Nat)^62=4611686018427387904:=by decide
     omega
    have ae:∀m (Y:m<its.toArray.size),∃c t,ns[m]?=yz c/\its.toArray[m]=.int c t:=λm Y=>by
     have ab:m<lf its:=by simpa using Y
     obtain⟨c,t,U,z2⟩:=Xj9 hI (Vk ab);exact⟨c,t,U,by simpa using z2⟩
    refine Vgn Vfy ⟨_,ha,rfl⟩ Vhw (Vhs _ _) (SeqAt.list_indexAt a its.toArray k yy #[] (.int i0 tk) (λy=>match y with|.int c _=>c==i0|_=>yw) i (by rw[Vr,J];exact hi) ac ?_ λm Y aa=>?_) ⟨ha,λy hy=>?_,Xap I.sr (I.inv.tok _)⟩;·obtain⟨c,t,U,z2⟩:=ae i (by rw[Vr,J];exact hi);rw[z2];rw[Vk hi]at U;cases U;exact h1
    ·obtain⟨c,t,U,z2⟩:=ae m Y;rw[z2];have ab:m<lf ns:=by omega
     rw[Vk ab]at U;cases U;have:=h2 m aa;simpa using this
    obtain⟨m,Y,rfl⟩:=Vb3.mp (show y∈its by simpa using hy);obtain⟨c,t,U,z2⟩:=ae m (by simpa using Y);have z3:its[m]=.int c t:=by simpa using z2
    rw[z3];exact SeqAt.EqAt.int_int c t i0 tk
end
theorem Xpc{α:Type}{cmp:Nat->Nat->(Bool->Vc->Prop)->Vc->Prop}{lt:Nat->Nat->Option Bool}{Q:α->Vc->Prop}(hc:∀i j b C,lt i j=yz b->C b s->cmp i j C s):
  ∀(t:PySem.W.KasT α) (r:α),Xbg lt t=yz r->Q r s->t.kasWp cmp Q s
 |.ret a=>λr h q=>by cases h;exact q|.ask i j k=>λr h q=>by
  simp only[Xbg]at h;cases e:lt i j with
  |none=>rw[e]at h;cases h|some b=>rw[e]at h;exact hc i j b _ e (Xpc hc (k b) r h q)
section
variable{prog:V4}{w:Ua}{A:Uu}{E:VP}{s:Vc}
theorem X4u(h:Q (decide (x<y)) s):Vg (Vl prog w) A (oneLt' b (.int x t) (.int y u)) Q E s:=by
 cases b with
 |true=>exact PySem.W.kat_lt_int h|false=>exact PySem.W.kat_one _ _ (lt_int (show PySem.W.BoolBack Q _ s from h))
theorem Xs5(J:Vb1 us xs):∀(ys:LI) (vs:LV) (i:Nat),Vb1 vs ys->Q (ltL xs ys) s->PySem.W.KatLex prog w A yx (decide (lf us<lf vs)) Q (us.zip vs) i s:=by
 induction J with
 |nil=>intro ys vs i B h;cases B<;>exact h|@cons x t us xs J ih=>
  intro ys vs i B h;cases B with
  |nil=>exact h|@cons y u vs ys B=>
   have L:decide (lf us+1<lf vs+1)=decide (lf us<lf vs):=decide_eq_decide.mpr Nat.add_lt_add_iff_right;simp only[U1,Vfh,L];simp only[ltL]at h;refine PySem.W.kat_cons (wpAny_eqBool_int (PySem.W.kat_go (λe=>?_) λe=>?_));·rw[iP0 (eq_of_beq e)]at h;exact PySem.W.kat_yes (ih ys vs (i+1) B h)
   ·rw[iN0 (λz=>by rw[z,beq_self_eq_true]at e;cases e)]at h;exact PySem.W.kat_no (X4u h)
theorem Xs6 {KO:SortKind->Prop} {vs:LV} {n:Nat} {lt:Nat->Nat->Option Bool} {out:AV} {P:PySem.Fin->Vc->Prop} (U:s.heap.get? a=yz (Vag "list" vs.toArray n)) (aa:(lf vs)<64)
  (hk:2<=lf vs->∀h':Heap,(∀b o,b≠a->s.heap.get? b=yz o->h'.get? b=yz o)->∀Q':SortKind->Vc->Prop,(∀ κ,KO κ->Q' κ {s with heap:=h' })->Vg (Vl prog w) A (keyKind' vs.toArray) Q' E {s with heap:=h' })
  (hc:∀ κ,KO κ->∀h':Heap,(∀b o,b≠a->s.heap.get? b=yz o->h'.get? b=yz o)->∀i j b C,lt i j=yz b->C b {s with heap:=h' }->Vgx prog w A κ vs i j C {s with heap:=h' })
  (h1:(lf vs)<2->out=vs.toArray) (h2:2<=lf vs->∃p,Xbg lt (Vdl (lf vs))=yz p/\out=(p.toList.map λi=>vs.getD i Van).toArray)
  (L:out.size=lf vs) (h:P (.done (.ret .none)) {s with heap:=sortedHeap s.heap a vs out}):Vg (Vl prog w) A (Vcb.«list.sort» ⟨[.ref a],[]⟩) P E s:=by
 have J:(lf vs)<=V8:=by rw[Va4];omega
 have ac:a<s.heap.objs.size:=Vw U;obtain⟨e1,o1⟩:∃e1,(s.heap.update a (U5 λ_=>(#[]:AV))).get? a=yz (Vag "list" #[] e1):=⟨_,get?_update_seq U λ_=>#[]⟩;have up:∀b o,(s.heap.update a (U5 λ_=>(#[]:AV))).get? b=yz o->(((s.heap.update a (U5 λ_=>(#[]:AV))).push (Vag "tuple" vs.toArray 0)).push (Vag "list" #[] 0)).get? b=yz o:=λb o q=>Vf _ (Vf _ q);have kp:∀b o,b≠a->s.heap.get? b=yz o->(((s.heap.update a (U5 λ_=>(#[]:AV))).push (Vag "tuple" vs.toArray 0)).push (Vag "list" #[] 0)).get? b=yz o:=λb o hb q=>up b o ((Heap.get?_update_ne _ _ _ _ hb).trans q);have Y:=up a _ o1;rw[list_sort_plain];refine Va (Vfn U rfl (Va (Vge U rfl (Va (seqEpoch_at o1 rfl (Va (wpAny_newTuple (Va (Ve6 (Uo ?_) (Ug _))) (by show (lf vs)<=_;exact J))))) (by rw[Vr];exact J) (Ug _))));change Vg (Vl prog w) A _ P E {s with heap:=((s.heap.update a (U5 λ_=>(#[]:AV))).push (Vag "tuple" vs.toArray 0)).push (Vag "list" #[] 0)};dsimp only;have zz:vs.toArray.size=lf vs:=Vr;by_cases q:(lf vs)<2
 ·have B:vs.toArray.size<2:=by rw[zz];exact q
  have em:(arrOf (SortSt.mk' general' (vs.toArray.zip vs.toArray) #[] 7 yy)).map (·.2)=out:=by rw[h1 q];show(vs.toArray.zip vs.toArray).map (·.2)=_;apply Array.toList_inj.mp;rw[Array.toList_map,Array.toList_zip,List.map_snd_zip (Vm _)]
  rw[iP0 B,iP0 B];refine Va (Vd ?_);rw[StateT.run_pure];refine Va (Vd (Va (seqEpoch_at Y rfl (Va (Vge Y rfl ?_ (Ug _) (by rw[em,L];omega))))));rw[em,bne_self_eq_false];exact Vd h
 ·have B:¬ vs.toArray.size<2:=by rw[zz];exact q
  obtain⟨p,hp,ep⟩:=h2 (by omega)
  rw[iN0 B,iN0 B];refine Va (hk (by omega) _ kp _ fun κ ab=>(Va (Vo (PySem.W.kat_run (ks:=vs) (κ:=κ) (E:=E) (Q:=λst s'=>(arrOf st).map (·.2)=out/\failedOf st=yy/\s'={s with heap:=((s.heap.update a (U5 λ_=>(#[]:AV))).push (Vag "tuple" vs.toArray 0)).push (Vag "list" #[] 0)})
   (G:=λr s'=>r=p/\s'={s with heap:=((s.heap.update a (U5 λ_=>(#[]:AV))).push (Vag "tuple" vs.toArray 0)).push (Vag "list" #[] 0)}) rfl (by omega) aa
   (λr st s' _ k2 k3 ⟨k4,k5⟩=>by subst k4;exact⟨by rw[ep];exact PySem.W.kat_snds rfl k2,k3,k5⟩) (Xpc (hc κ ab _ kp) _ p hp ⟨rfl,rfl⟩)) ?_ λ_ _ z=>z)))
  rintro ⟨⟨⟩,st⟩ s' ⟨k1,k2,rfl⟩;dsimp only at k1 k2 ⊢;refine Va (seqEpoch_at Y rfl (Va (Vge Y rfl ?_ (Ug _) (by rw[k1,L];omega))));rw[k1,k2,bne_self_eq_false];exact Vd h
theorem Xnr{l:Addr}{vs:LV}{Q:LV->Vc->Prop}(J:s.heap.IsList l vs.toArray\/Vdr s.heap l vs.toArray)(B:(lf vs)<=V8)
  (h:Q vs {s with heap:=(s.heap.push (Vag "list" #[] 0)).update s.heap.objs.size (U5 (·++vs.toArray))}):Vg (Vl prog w) A (collect (.ref l)) Q E s:=by
 rcases J with J|J;·exact collect_list J h B
 ·exact Xgb J B h
theorem Xs7{KO:SortKind->Prop}(hl:s.heap.IsList l vs.toArray\/Vdr s.heap l vs.toArray)(U:(lf vs)<64)
  (hk:∀(A:Uu) (E:VP),2<=lf vs->∀h':Heap,(∀b o,s.heap.get? b=yz o->h'.get? b=yz o)->∀Q':SortKind->Vc->Prop,(∀ κ,KO κ->Q' κ {s with heap:=h' })->Vg (Vl prog w) A (keyKind' vs.toArray) Q' E {s with heap:=h' })
  (hc:∀ κ,KO κ->∀(A':Uu),A'.units<=A.units+2->∀(h':Heap),(∀b o,s.heap.get? b=yz o->h'.get? b=yz o)->∀i j b C,lt i j=yz b->C b {s with heap:=h' }->Vgx prog w A' κ vs i j C {s with heap:=h' })
  (h1:(lf vs)<2->out=vs.toArray) (h2:2<=lf vs->∃p,Xbg lt (Vdl (lf vs))=yz p/\out=(p.toList.map λi=>vs.getD i Van).toArray)
  (L:out.size=lf vs) (h:Q (.ref (s.heap.objs.size+1)) {s with heap:=sortedAll s.heap vs out}):Vg (Vl prog w) A (call (.builtin "sorted") [.ref l]) Q E s:=by
 have J:(lf vs)<=V8:=by rw[Va4];omega
 have sz:((s.heap.push (Vag "list" #[] 0)).update s.heap.objs.size (U5 (·++vs.toArray))).objs.size=s.heap.objs.size+1:=by rw[Vgi,size_push']
 have oL:(((s.heap.push (Vag "list" #[] 0)).update s.heap.objs.size (U5 (·++vs.toArray))).push (Vag "list" vs.toArray 0)).get? (s.heap.objs.size+1)=yz (Vag "list" vs.toArray 0):=sz▸Vt _ rfl;have B:∀b o,s.heap.get? b=yz o->b≠s.heap.objs.size+1/\(((s.heap.push (Vag "list" #[] 0)).update s.heap.objs.size (U5 (·++vs.toArray))).push (Vag "list" vs.toArray 0)).get? b=yz o:=λb o q=>by have lt:=Vw q;exact⟨Uc (Vax lt),Vf _ ((Heap.get?_update_ne _ _ _ _ (Uc lt)).trans (Vf _ q))⟩
 refine Vd1 kind_sorted plain_sorted entry_sorted (args_sorted1 _) ?_;unfold Vcb.«sorted»;refine Va (m:=checkCount "sorted" 1 1 _) (Vd (Va (Xnr hl J (Va (Ve6 ?_ (by show (lf vs)<=_;exact J))))));change Vg _ _ _ _ _ {s with heap:=((s.heap.push (Vag "list" #[] 0)).update s.heap.objs.size (U5 (·++vs.toArray))).push (Vag "list" vs.toArray 0)};rw[sz];refine Va (Uo (U0 Vg6 ⟨_,oL,rfl⟩ Vgw (Xs6 (KO:=KO) (lt:=lt) oL U (λg h' kp=>hk _ _ g h' λb o q=>kp b o (B b o q).1 (B b o q).2) (fun κ Y h' kp=>hc κ Y _ (Vm _) h' λb o q=>kp b o (B b o q).1 (B b o q).2) h1 h2 L ⟨_,rfl,?_⟩) (Vg7 _)));exact Vd ⟨_,rfl,h⟩
end
def Row(h:Heap)(k:LI)(u:Vb):Prop:=∃a us,u=.ref a/\Vdr h a us.toArray/\Vb1 us k
theorem Row.keep(r:Row h k u)(kp:∀b o,h.get? b=yz o->h'.get? b=yz o):Row h' k u:=by obtain⟨a,us,e,⟨o,B,hc⟩,hi⟩:=r;exact⟨a,us,e,⟨o,kp _ _ B,hc⟩,hi⟩
theorem Xar:∀ {xs:LD} {ks:LL},Yg xs=yz ks->xs=ks.map λk=>.tup (k.map D.int)
 |[],ks,h=>by cases h;rfl|x::xs,ks,h=>by
  cases x with
  |tup ds=>
   simp only[Yg]at h;cases e:Xm ds with
   |none=>rw[e]at h;cases h|some k=>
    rw[e]at h;dsimp only at h;cases B:Yg xs with
    |none=>rw[B]at h;cases h|some r=>rw[B]at h;cases h;rw[Yw e,Xar B];rfl
  |_=>cases h
theorem Xgs:∀(ks:LL) (its:LV),lf its=lf ks->(∀(i:Nat) (k:LI),ks[i]?=yz k->∃u,its[i]?=yz u/\Row h k u)->ks.all (λk=>!k.isEmpty)=yx->∃fs,PySem.W.KatTups h its fs/\(lf fs)=lf its/\∀v∈fs,∃n t,v=Veh n t
 |[]=>λits J _ _=>by
  cases its with
  |nil=>exact⟨[],.nil,rfl,λv B=>by cases B⟩|cons _ _=>simp at J
 |k::ks=>λits J L hn=>by
  cases its with
  |nil=>simp at J|cons u its=>
   rw[Vbe,bA0]at hn;obtain⟨u',eu,a,us,rfl,⟨o,U,hc,n,hd⟩,hi⟩:=L 0 k rfl;cases eu;obtain⟨fs,f1,f2,f3⟩:=Xgs ks its (by simpa using J) (λi k' Y=>L (i+1) k' Y) hn.2;cases hi with
   |nil=>simp at hn|cons x t aa=>
    refine⟨.int x t::fs,.cons U hc hd rfl f1,by simp[f2],λv B=>?_⟩;rcases Vn.mp B with rfl|B;·exact⟨x,t,rfl⟩
    ·exact f3 v B
inductive RowsV(h:Heap):LL->LV->Prop
 |nil:RowsV h [] []
 |cons {k:LI} {u:Vb} {ks:LL} {vs:LV}:Row h k u->RowsV h ks vs->RowsV h (k::ks) (u::vs)
inductive FsV:LL->List (OV)->Prop
 |nil:FsV [] []
 |non {ks:LL} {fs:List (OV)}:FsV ks fs->FsV ([]::ks) (yy::fs)
 |som {x:Int} {t:Tok} {k:LI} {ks:LL} {fs:List (OV)}:FsV ks fs->FsV ((x::k)::ks) (yz (.int x t)::fs)
theorem RowsV.of{h:Heap}:∀(ks:LL) (its:LV),lf its=lf ks->(∀(i:Nat) (k:LI),ks[i]?=yz k->∃u,its[i]?=yz u/\Row h k u)->RowsV h ks its
 |[]=>λits B _=>by
  cases its with
  |nil=>exact .nil|cons _ _=>simp at B
 |k::ks=>λits B J=>by
  cases its with
  |nil=>simp at B|cons u its=>obtain⟨Y,e,r⟩:=J 0 k rfl;cases e;exact .cons r (RowsV.of ks its (by simpa using B) λi U L=>J (i+1) U L)
theorem FsV.all{ks:LL}{fs:List (OV)}(f:FsV ks fs):(fs.all λx=>x.isSome)=ks.all (λk=>!k.isEmpty):=by
 induction f with
 |nil=>rfl|non _ ih=>simp|som _ ih=>simp[ih]
section
variable{M:Model}{A:Uu}{E:VP}{s:Vc}
theorem Xv4 {k:LI} {u:Vb} (r:Row s.heap k u) {Q:VP} (h:Q (.type "tuple") s):Vg M A (typeOf u) Q E s:=by obtain⟨a,us,rfl,⟨o,B,hc,_⟩,_⟩:=r;exact Vcc (T:="tuple") ⟨o,B,hc⟩ h
theorem Xns{ks:LL}{vs:LV}(r:RowsV s.heap ks vs):∀ {Q:List (OV)->Vc->Prop},(∀fs,FsV ks fs->Q fs s)->Vg M A (vs.mapM firstOfTuple') Q E s:=by
 induction r with
 |nil=>intro Q h;rw[List.mapM_nil];exact Vd (h _ .nil)|cons U _ ih=>
  intro Q h;rw[List.mapM_cons];refine Va ?_;obtain⟨a,us,rfl,⟨o,J,hc,n,hd⟩,hi⟩:=U;rw[PySem.W.kas_first_eq];refine Va (Vcc (T:="tuple") ⟨o,J,hc⟩ ?_);rw[iN0 (by decide)];refine Va (Vfn J hd (Vd ?_));cases hi with
  |nil=>exact Va (ih λfs B=>Vd (h _ (.non B)))|cons x t L=>exact Va (ih λfs B=>Vd (h _ (.som B)))
theorem Xhi{ks:LL}{vs:LV}(r:RowsV s.heap ks vs)(h2:0<lf ks)(L:(ks.all λk=>!k.isEmpty)=yw){Q:SortKind->Vc->Prop}(h1:Q general' s)(h3:Q oneType' s):Vg M A (keyKind' vs.toArray) Q E s:=by
 rw[PyProof.Rows.kat_kind_eq,List.mapM_toArray,map_eq_pure_bind];refine Va (Va (Xns r λfs hf=>Vd ?_));have B:(fs.toArray.all λx=>x.isSome)=false:=by rw[List.all_toArray,hf.all];exact L
 rw[B];simp only[Vp,if_false];split;·exact Vd h1
 ·rw[oneTypeOnly'_eq,List.mapM_toArray,map_eq_pure_bind];have ty:∀v∈vs,∀(U:VP),U (.type "tuple") s->Vg M A (typeOf v) U E s:=by
   clear h1 h3 hf B L;induction r with
   |nil=>intro v J;cases J|cons hr _ ih=>
    intro v J U hq;rcases Vn.mp J with rfl|J;·exact Xv4 hr hq
    ·rename_i Y aa _ _;cases hk:Y with
     |nil=>subst hk;rename_i r';cases r';cases J|cons _ _=>exact ih (by rw[hk];simp) v J U hq
  refine Va (Va (Va (PySem.W.kas_mapM (r:=Vca "tuple") _ ty (Vd ?_))));split
  ·split;·exact Vd (Vd h3)
   ·exact Vd (Vd h1)
  exact Vd (Vd h1)
end
theorem Xdj{α:Type}{l:List α}{i:Nat}{x d:α}(h:l[i]?=yz x):l.getD i d=x:=by rw[U4,h];rfl
section
variable{X:Cx}{pa:LA}{σ:L2.St}{H:Hp}{s:Vc}{ρ:LR}{S:Sto}{env:En}
theorem Xpd{ks:LL}{U:LW}{its:LV}(Y:RDs X.K ρ H (ks.map λk=>.tup (k.map D.int)) U)(L:Vals U its):∀(p:LN) (r:LL),Xd3 ks p=yz r ->
  ∃zs,RDs X.K ρ H (r.map λk=>.tup (k.map D.int)) zs/\Vals zs (p.map λi=>its.getD i Van)/\(lf zs)=lf p
 |[]=>λr h=>by cases h;exact⟨[],.nil,.nil,rfl⟩|i::p=>λr h=>by
  simp only[Xd3]at h;cases e:ks[i]? with
  |none=>rw[e]at h;cases h|some k=>
   rw[e]at h;dsimp only at h;cases J:Xd3 ks p with
   |none=>rw[J]at h;cases h|some r'=>rw[J]at h;cases h;obtain⟨zs,z1,z2,z3⟩:=Xpd Y L p r' J;obtain⟨v,B,hd⟩:=Y.get (i:=i) (d:=.tup (k.map D.int)) (by rw[Vx,e];rfl);obtain⟨u,hu,ru⟩:=L.get B;refine⟨v::zs,.cons hd z1,?_,by simp[z3]⟩;rw[Ux,Xdj hu];exact .cons ru z2
theorem Xmb{E:VP}{l:Addr}{ws:LW}{its:LV}{ks r:LL}(hu:X.A.units+200<Vcl)(I:S0 X pa σ H s ρ S env)(hl:s.heap.IsList l its.toArray\/Vdr s.heap l its.toArray)(hr:RDs X.K ρ H (ks.map λk=>.tup (k.map D.int)) ws)(Y:Vals ws its)(B:Xah ks=yz r):
  Vg (Vl X.prog X.w) X.A (call (.builtin "sorted") [.ref l]) (OkP X pa σ ρ H (.ok (.ref (lf S)) (S++[.lst (r.map λk=>.tup (k.map D.int))]))) E s:=by
 have aa:(lf its)=lf ks:=by rw[<-Y.length,<-hr.length,Ve]
 have L:∀(i:Nat) (k:LI),ks[i]?=yz k->∃u,its[i]?=yz u/\Row s.heap k u:=λi k hk=>by obtain⟨v,ax,hd⟩:=hr.get (i:=i) (d:=.tup (k.map D.int)) (by rw[Vx,hk];rfl);obtain⟨u,hu,ru⟩:=Y.get ax;simp only[RD]at hd;obtain⟨b,zs,rfl,hs,hz⟩:=hd;have ez:=hz.ints_of;subst ez;cases ru;obtain⟨us,h1,h2,_⟩:=I.inv.tuple hs;exact⟨_,hu,b,us,rfl,h2,Xag h1⟩
 have au:(lf ks)<64/\∃(out:AV) (zs:LW),RDs X.K ρ H (r.map λk=>.tup (k.map D.int)) zs/\Vals zs out.toList/\out.size=lf its/\(lf its<2->out=its.toArray)/\(2<=lf its->∃p,Xbg (ltK ks) (Vdl (lf its))=yz p/\out=(p.toList.map λi=>its.getD i Van).toArray):=by
  unfold Xah at B;by_cases h2:(lf ks)<2;·rw[iP0 h2]at B;cases B;exact⟨by omega,its.toArray,ws,hr,Y,by simp,λ_=>rfl,λz=>by omega⟩
  ·rw[iN0 h2]at B;split at B
   ·rename_i hc;cases e4:Xbg (ltK ks) (Vdl (lf ks)) with
    |none=>rw[e4]at B;cases B|some p=>
     rw[e4]at B;simp only[Vq]at B;split at B
     case isFalse=>cases B
     rename_i an;obtain⟨zs,z1,z2,z3⟩:=Xpd hr Y p.toList r B;exact⟨hc,(p.toList.map λi=>its.getD i Van).toArray,zs,z1,z2,by simp[an,aa],λz=>by omega,λ_=>⟨p,by rw[aa];exact e4,rfl⟩⟩
   cases B
 obtain⟨a0,out,zs,z1,z2,z0,z3,z4⟩:=au;have ah:∀(M:Model) (h:Heap) (v:Vb),(∃n t,v=Veh n t)->PySem.W.Looks M h (typeOf v) (.type "int"):=λM h v z=>by obtain⟨n,t,rfl⟩:=z;exact .now
 refine Xs7 (KO:=fun κ=>κ=tuples' yx\/κ=general'\/κ=oneType') (lt:=ltK ks) (out:=out) hl (by omega) (λA E g h' kp Q' hq=>?_) (fun κ aq A' az h' kp i j b C U hC=>?_) z3 z4 z0 ?_
 ·have rk:∀(i:Nat) (k:LI),ks[i]?=yz k->∃u,its[i]?=yz u/\Row h' k u:=λi k hk=>let ⟨u,hu,hr⟩:=L i k hk;⟨u,hu,hr.keep kp⟩
  cases en:(ks.all λk=>!k.isEmpty) with
  |true=>obtain⟨fs,f1,f2,f3⟩:=Xgs (h:=h') ks its aa rk en;exact PySem.W.kat_kind (T:=.type "int") f1 (by omega) (λv hv=>ah _ _ v (f3 v hv)) rfl (hq _ (.inl rfl))|false=>exact Xhi (s:={s with heap:=h' }) (RowsV.of ks its aa rk) (by omega) en (hq _ (.inr (.inl rfl))) (hq _ (.inr (.inr rfl)))
 ·unfold ltK at U;cases e5:ks[i]? with
  |none=>rw[e5]at U;cases U|some k=>
   rw[e5]at U;dsimp only at U;cases e6:ks[j]? with
   |none=>rw[e6]at U;cases U|some k'=>
    rw[e6]at U;cases U;obtain⟨u,aw,ap⟩:=L i k e5;obtain⟨u',av,ar⟩:=L j k' e6;obtain⟨a1,ay,rfl,⟨o1,af,al,n1,aj⟩,ag⟩:=ap.keep kp;obtain⟨a2,ao,rfl,⟨o2,ae,ak,n2,ai⟩,ac⟩:=ar.keep kp;unfold Vgx;rw[Xdj aw,Xdj av];rcases aq with rfl|rfl|rfl;·refine PySem.W.kat_lt af aj ae ai ?_;simp only[Vr];exact Xs5 ag k' ao 0 ac hC
    ·exact Xd6 (b:=yw) (s:={s with heap:=h' }) (by omega) ⟨o1,af,al,n1,aj⟩ ⟨o2,ae,ak,n2,ai⟩ ag ac hC
    exact Xd6 (b:=yx) (s:={s with heap:=h' }) (by omega) ⟨o1,af,al,n1,aj⟩ ⟨o2,ae,ak,n2,ai⟩ ag ac hC
 ·obtain⟨e8,am⟩:=sortedAll_at s.heap its out;have ab:s.heap.objs.size<=s.heap.objs.size+1:=Vdn _;have J:=I.inv.laid (o:=.lst zs) (t':=s.toks) (h':=sortedAll s.heap its out) (λb u U=>sortedAll_old U) ab
   ⟨by rw[z2.length,V7,z0,Va4];omega,out.toList,e8,z2,by simpa [Vag] using am⟩
  exact Xaz J (I.inv.hok.fresh ab) I.sr z1
theorem X87(hu:X.A.units+200<Vcl):BlR X .srt (.builtin "sorted"):=by
 intro pa s σ H ρ S env ds vs us E I rd rv B;match ds,rd,B with
 |[],_,B=>cases B rfl|d::_::_,_,B=>cases d<;>cases B rfl|[d],rd,B=>
  obtain⟨v,rfl,Y⟩:=rd.one;obtain⟨u,rfl,ru⟩:=rv.one;cases d with
  |ref n=>
   simp only[Xk]at B ⊢;cases e:Xc S n with
   |none=>rw[e]at B;cases B rfl|some xs=>
    rw[e]at B;simp only[Vq]at B ⊢;cases J:Yg xs with
    |none=>rw[J]at B;cases B rfl|some ks=>
     rw[J]at B;dsimp only at B ⊢;cases L:Xah ks with
     |none=>rw[L]at B;cases B rfl|some r=>dsimp only;have q:=Xar J;subst q;obtain⟨a,ws,rfl,ha,hv,hr⟩:=I.lstR e Y;obtain⟨ac,its,c,U,eo⟩:=(show ObjOk X.prog X.w H s.heap a (.lst ws) from I.inv.hok a _ hv);cases ru;exact Xmb hu I (.inl ⟨_,eo,rfl,c,rfl⟩) hr U L
  |tup xs=>
   simp only[Xk]at B ⊢;cases J:Yg xs with
   |none=>rw[J]at B;cases B rfl|some ks=>
    rw[J]at B;dsimp only at B ⊢;cases L:Xah ks with
    |none=>rw[L]at B;cases B rfl|some r=>dsimp only;have q:=Xar J;subst q;simp only[RD]at Y;obtain⟨b,zs,rfl,aa,ab⟩:=Y;cases ru;obtain⟨us,u1,u2,_⟩:=I.inv.tuple aa;exact Xmb hu I (.inr u2) ab u1 L
  |_=>cases B rfl
end
end Z
end
section
namespace Z
open PySem PySem.W PyProof.Rows
def GoodK{α:Type}(n:Nat)(P:α->Prop):KasT α->Prop
 |.ret a=>P a|.ask i j k=>i<n/\j<n/\∀b,GoodK n P (k b)
theorem GoodK.run{α:Type}{n:Nat}{P:α->Prop}{lt:Nat->Nat->Option Bool}(B:∀i j,i<n->j<n->∃b,lt i j=yz b):∀t:KasT α,GoodK n P t->∃r,Xbg lt t=yz r/\P r
 |.ret a=>λh=>⟨a,rfl,h⟩|.ask i j k=>λh=>by obtain⟨b,e⟩:=B i j h.1 h.2.1;obtain⟨r,J,p⟩:=GoodK.run B (k b) (h.2.2 b);exact⟨r,by simp only[Xbg,e];exact J,p⟩
theorem GoodK.bind{α β:Type}{n:Nat}{P:α->Prop}{Q:β->Prop}{f:α->KasT β}(B:∀a,P a->GoodK n Q (f a)):∀t:KasT α,GoodK n P t->GoodK n Q (t.bind f)
 |.ret a=>λh=>B a h|.ask i j k=>λh=>⟨h.1,h.2.1,λb=>GoodK.bind B (k b) (h.2.2 b)⟩
def PA(n:Nat)(p:Array Nat):Prop:=p.toList.Perm (Vs n)
theorem PA.lt{n:Nat}{p:Array Nat}(h:PA n p)(hn:0<n)(i:Nat):p.getD i 0<n:=by
 by_cases c:i<p.size
 ·have:p.getD i 0∈p.toList:=by simp[Vaj,c]
  exact U6.mp (h.mem_iff.mp this)
 simp[Vaj,c];exact hn
theorem PA.mir{n:Nat}{p:Array Nat}(h:PA n p)(i j:Nat):PA n (kas_rev p i j):=(Vhh.mp (mirror_perm p i j _)).trans h
theorem PA.bub{n:Nat}{p:Array Nat}(h:PA n p)(i j:Nat):PA n (bubble p i j):=(Vhh.mp (bubble_perm p i j)).trans h
section
variable{n:Nat}(hn:0<n)
include hn
theorem Xqr{p:Array Nat}(h:PA n p):∀f m,GoodK n (λ_=>True) (kas_asc p f m)
 |0=>λm=>trivial
 |f+1=>λm=>⟨h.lt hn _,h.lt hn _,λb=>by
  cases b;·exact Xqr h f (m+1)
  ·exact trivial⟩
theorem Xhj:∀f p m q,PA n p->GoodK n (λr=>PA n r.1) (kas_desc f p m q)
 |0=>λp m q h=>h|f+1=>λp m q h=>by
  refine⟨h.lt hn _,h.lt hn _,λb=>?_⟩;cases b with
  |true=>
   simp only[if_true];split;·exact Xhj f _ _ _ (h.mir _ _)
   ·exact Xhj f _ _ _ h|false=>
   simp only[Vp,if_false];refine⟨h.lt hn _,h.lt hn _,λc=>?_⟩;cases c with
   |true=>exact h|false=>exact Xhj f _ _ _ h
theorem Xs8{p:Array Nat}(h:PA n p)(m r:Nat):GoodK n (λx=>PA n x.2) (kas_tail3 m r p):=by refine GoodK.bind (P:=λ_=>True) (λx _=>?_) _ (Xqr hn (h.mir _ _) _ _);exact PA.mir h _ _
theorem Xpe{p:Array Nat}(h:PA n p)(m r:Nat):GoodK n (λx=>PA n x.2) (kas_descPart m r p):=by
 refine GoodK.bind (P:=λr=>PA n r.1) (λx B=>?_) _ (Xhj hn _ _ _ _ h);split;·exact Xs8 hn (PA.mir B _ _) _ _
 ·exact Xs8 hn B _ _
theorem X0p{p:Array Nat}(h:PA n p)(r:Nat):GoodK n (λx=>PA n x.2) (kas_count r p):=by
 refine GoodK.bind (P:=λ_=>True) (λm _=>?_) _ (Xqr hn h _ _);split;·exact h
 ·split
  ·refine⟨h.lt hn _,h.lt hn _,λb=>?_⟩;cases b;·exact Xpe hn (h.mir _ _) _ _
   ·exact h
  exact Xpe hn h _ _
theorem Xii{p:Array Nat}(h:PA n p)(k:Nat):∀f l r,GoodK n (λ_=>True) (kas_place p k f l r)
 |0=>λl r=>trivial|f+1=>λl r=>by
  unfold kas_place;split;·exact trivial
  ·refine⟨h.lt hn _,h.lt hn _,λb=>?_⟩;cases b;·exact Xii h k f _ _
   ·exact Xii h k f _ _
theorem Xyz:∀f p k,PA n p->GoodK n (PA n) (kas_bin f p k)
 |0=>λp k h=>h|f+1=>λp k h=>GoodK.bind (P:=λ_=>True) (λl _=>Xyz f _ _ (h.bub _ _)) _ (Xii hn h k _ _ _)
theorem Xmc:GoodK n (PA n) (kas_sort n):=by
 refine GoodK.bind (P:=λx=>PA n x.2) (λx B=>?_) _ (X0p hn (show PA n (List.toArray (Vs n)) from Vau _) n);split;·exact Xyz hn _ _ _ B
 ·exact B
end
theorem Xmd{ks:LL}:∀p:LN,(∀i∈p,i<lf ks)->Xd3 ks p=yz (p.map λi=>ks.getD i [])
 |[]=>λ_=>rfl|i::p=>λh=>by have hi:=h i Vz;simp only[Xd3,Vk hi,Xmd p λj B=>h j (V5 _ B),V2,Ux];simp[Vdq,hi]
theorem Xs9:∀ks:LL,(Vs (lf ks)).map (λi=>ks.getD i [])=ks:=λks=>by refine List.ext_getElem (by simp) λi h1 h2=>?_;simp[Vdq]at h1 ⊢;simp[h1]
theorem Xcz(ks:LL)(J:(lf ks)<64):∃r,Xah ks=yz r/\r.Perm ks:=by
 unfold Xah;by_cases h2:(lf ks)<2;·rw[iP0 h2];exact⟨ks,rfl,Vau _⟩
 ·rw[iN0 h2,iP0 J];obtain⟨p,e,hp⟩:=GoodK.run (n:=lf ks) (P:=PA (lf ks)) (lt:=ltK ks) (λi j hi L=>⟨ltL ks[i] ks[j],by simp only[ltK,Vk hi,Vk L]⟩) _ (Xmc (by omega));have B:p.size=lf ks:=by rw[<-V7,hp.length_eq,Vap]
  rw[e,Vq,iP0 B,Xmd _ λi hi=>U6.mp (hp.mem_iff.mp hi)];refine⟨_,rfl,?_⟩;have:=hp.map λi=>ks.getD i [];rwa [Xs9]at this
theorem Xij:∀a:LI,ltL a a=yw
 |[]=>rfl|x::a=>by simp[ltL,Xij a]
theorem Xb9:∀a b c:LI,ltL a b=yx->ltL b c=yx->ltL a c=yx
 |[],[],_=>λh _=>by cases h|[],_::_,[]=>λ_ h=>by cases h|[],_::_,_::_=>λ_ _=>rfl|_::_,[],_=>λh _=>by cases h|_::_,_::_,[]=>λ_ h=>by cases h|x::a,y::b,z::c=>λh1 h2=>by
  simp only[ltL]at h1 h2 ⊢;split at h1
  ·rename_i e;subst e;split at h2;·rename_i e;subst e;rw[iP0 rfl];exact Xb9 a b c h1 h2
   ·rename_i e;rw[iN0 e];exact h2
  rename_i e;split at h2;·rename_i B;subst B;rw[iN0 e];exact h1
  ·rw[decide_eq_true_eq]at h1 h2;rw[iN0 (by omega)];exact decide_eq_true (by omega)
theorem Xdk:∀a b:LI,a≠b->ltL a b=yw->ltL b a=yx
 |[],[]=>λh _=>aB0 rfl h|[],_::_=>λ_ h=>by cases h|_::_,[]=>λ_ _=>rfl|x::a,y::b=>λh h1=>by
  simp only[ltL]at h1 ⊢;split at h1;·rename_i e;subst e;rw[iP0 rfl];exact Xdk a b (λz=>h (by rw[z])) h1
  ·rename_i e;rw[decide_eq_false_iff_not]at h1;rw[iN0 (Ne.symm e)];exact decide_eq_true (by omega)
def Ran{α:Type}(lt:Nat->Nat->Bool)(P:α->Prop):KasT α->Prop
 |.ret a=>P a|.ask i j k=>Ran lt P (k (lt i j))
theorem Ran.bind{α β:Type}{lt:Nat->Nat->Bool}{P:α->Prop}{Q:β->Prop}{f:α->KasT β}(B:∀a,P a->Ran lt Q (f a)):∀t:KasT α,Ran lt P t->Ran lt Q (t.bind f)
 |.ret a=>λh=>B a h|.ask i j k=>λh=>Ran.bind B (k (lt i j)) h
theorem Ran.mono{α:Type}{lt:Nat->Nat->Bool}{P Q:α->Prop}(B:∀a,P a->Q a):∀t:KasT α,Ran lt P t->Ran lt Q t
 |.ret a=>λh=>B a h|.ask i j k=>λh=>Ran.mono B (k (lt i j)) h
theorem Ran.of{α:Type}{n:Nat}{lt:Nat->Nat->Bool}{lt':Nat->Nat->Option Bool}{P Q:α->Prop}(B:∀i j,i<n->j<n->lt' i j=yz (lt i j)):∀(t:KasT α) (r:α),GoodK n P t->Ran lt Q t->Xbg lt' t=yz r->Q r
 |.ret a=>λr _ h e=>by cases e;exact h|.ask i j k=>λr g h e=>by simp only[Xbg,B i j g.1 g.2.1]at e;exact Ran.of B (k (lt i j)) r (g.2.2 _) h e
section
variable{n:Nat}{κ:Nat->LI}
noncomputable def kt(κ:Nat->LI)(i j:Nat):Bool:=ltL (κ i) (κ j)
noncomputable def kf(κ:Nat->LI)(p:Array Nat)(i:Nat):LI:=κ (p.getD i 0)
def UpR(κ:Nat->LI)(p:Array Nat)(m:Nat):Prop:=∀i j,i<j->j<m->ltL (kf κ p i) (kf κ p j)=yx
def Dn(κ:Nat->LI)(p:Array Nat)(m:Nat):Prop:=∀i j,i<j->j<m->ltL (kf κ p j) (kf κ p i)=yx
def Ap(κ:Nat->LI)(n:Nat):Prop:=∀i j,i<n->j<n->i≠j->κ i≠κ j
variable(hA:Ap κ n)
include hA
theorem Xqs{p:Array Nat}(h:PA n p){i j:Nat}(hi:i<n)(Y:j<n)(c:i≠j):kf κ p i≠kf κ p j:=by
 have sz:p.size=n:=by rw[<-V7,h.length_eq,Vap]
 have nd:p.toList.Nodup:=h.nodup_iff.mpr List.nodup_range;have e:∀k,k<n->p.getD k 0=p.toList.getD k 0:=λk L=>by simp[Vaj,Vdq,sz,L]
 refine hA _ _ (h.lt (by omega) i) (h.lt (by omega) j) λz=>c ?_;have B:i<lf p.toList:=by simp[sz,hi]
 have J:j<lf p.toList:=by simp[sz,Y]
 rw[e i hi,e j Y]at z;refine(List.getElem?_inj B nd).mp ?_;rw[Vk B,Vk J];have U:∀k (L:k<lf p.toList),p.toList.getD k 0=p.toList[k]:=λk L=>by rw[U4,Vk L];rfl
 rw[U i B,U j J]at z;rw[z]
theorem X4v{p:Array Nat}{m:Nat}(u:UpR κ p m)(h:m=0\/ltL (kf κ p (m-1)) (kf κ p m)=yx):UpR κ p (m+1):=by
 intro i j B J;by_cases c:j<m;·exact u i j B c
 ·obtain rfl:j=m:=by omega
  rcases h with h|h;·omega
  ·by_cases d:i=j-1;·subst d;exact h
   ·exact Xb9 _ _ _ (u i (j-1) (by omega) (by omega)) h
theorem Xqt{p:Array Nat}(h:PA n p):∀f m,1<=m->m+f=n->UpR κ p m->Ran (kt κ) (λr=>m<=r/\r<=n/\UpR κ p r/\(r<n->ltL (kf κ p r) (kf κ p (r-1))=yx)) (kas_asc p f m)
 |0=>λm h1 J u=>⟨Vm _,by omega,u,λz=>by omega⟩|f+1=>λm h1 J u=>by
  show Ran _ _ (if kt κ (p.getD m 0) (p.getD (m-1) 0)=yx then _ else _);split;·rename_i c;exact⟨Vm _,by omega,u,λ_=>c⟩
  ·rename_i c;have B:ltL (kf κ p m) (kf κ p (m-1))=false:=Vdy.mpr c;have:=Xdk _ _ (Xqs hA h (show m<n by omega) (show m-1<n by omega) (by omega)) B;exact(Xqt h f (m+1) (by omega) (by omega) (X4v hA u (.inr this))).mono λr ⟨a,b⟩=>⟨by omega,b⟩
theorem Xta{p:Array Nat}{m:Nat}(J:m<=p.size){k:Nat}(B:k<m):kf κ (kas_rev p 0 m) k=kf κ p (m-1-k):=by unfold kf kas_rev;have:=getElem?_mirror_all (i:=0) J k;rw[iP0 ⟨Ug _,B⟩]at this;rw[Vey,this,Vey,Vfi]
theorem Xtb{p:Array Nat}(h:PA n p):∀f m,2<=m->m+f=n->Dn κ p m->Ran (kt κ) (λr=>r.1=p/\r.2.2=0/\2<=r.2.1/\r.2.1<=n/\Dn κ p r.2.1) (kas_desc f p m 0)
 |0=>λm h1 L u=>⟨rfl,rfl,h1,by show m<=n;omega,u⟩|f+1=>λm h1 L u=>by
  show Ran _ _ (if kt κ (p.getD m 0) (p.getD (m-1) 0)=yx then (if 0>0 then _ else _) else _);split
  ·rename_i c;rw[iN0 (Vds 0)];refine Xtb h f (m+1) (by omega) (by omega) λi j B U=>?_;by_cases e:j<m;·exact u i j B e
   ·obtain rfl:j=m:=by omega
    by_cases d:i=j-1;·subst d;exact c
    ·exact Xb9 _ _ _ c (u i (j-1) (by omega) (by omega))
  rename_i c;have J:ltL (kf κ p m) (kf κ p (m-1))=false:=Vdy.mpr c;have:=Xdk _ _ (Xqs hA h (show m<n by omega) (show m-1<n by omega) (by omega)) J;show Ran _ _ (if kt κ (p.getD (m-1) 0) (p.getD m 0)=yx then _ else _);rw[iP0 (show kt κ (p.getD (m-1) 0) (p.getD m 0)=yx from this)];exact⟨rfl,rfl,h1,by show m<=n;omega,u⟩
theorem X4w{p:Array Nat}(h:PA n p){m:Nat}(h1:1<=m)(U:m<=n)(u:Dn κ p m):Ran (kt κ) (λx=>PA n x.2/\1<=x.1/\x.1<=n/\UpR κ x.2 x.1) (kas_tail3 m n p):=by
 have sz:p.size=n:=by rw[<-V7,h.length_eq,Vap]
 have B:UpR κ (kas_rev p 0 m) m:=λi j J L=>by rw[Xta hA (by omega) (by omega),Xta hA (by omega) L];exact u _ _ (by omega) (by omega)
 exact Ran.bind (λr ⟨a,b,c,_⟩=>⟨h.mir _ _,by show 1<=r;omega,b,c⟩) _ (Xqt hA (h.mir 0 m) (n-m) m h1 (by omega) B)
theorem X0q{p:Array Nat}(h:PA n p)(hn:2<=n):Ran (kt κ) (λx=>PA n x.2/\1<=x.1/\x.1<=n/\UpR κ x.2 x.1) (kas_count n p):=by
 refine Ran.bind (λm ⟨a,b,c,d⟩=>?_) _ (Xqt hA h (n-1) 1 (Vm _) (by omega) λi j B L=>by omega);split;·exact⟨h,a,b,c⟩
 ·rename_i e;have lt:m<n:=by
   have:m≠n:=by simpa using e
   omega
  split;·rename_i g;show Ran _ _ (if kt κ (p.getD 0 0) (p.getD (m-1) 0)=yx then _ else _);rw[iP0 (show kt κ (p.getD 0 0) (p.getD (m-1) 0)=yx from c 0 (m-1) (by omega) (by omega))];exact⟨h,a,b,c⟩
  ·obtain rfl:m=1:=by omega
   have J:Dn κ p 2:=λi j B L=>by
    obtain rfl:i=0:=by omega
    obtain rfl:j=1:=by omega
    exact d lt
   refine Ran.bind (λr ⟨q1,q2,q3,q4,q5⟩=>?_) _ (Xtb hA h (n-(1+1)) (1+1) (Vm _) (by omega) J);rw[iN0 (by omega)];rw[q1];exact X4w hA h (by omega) q4 q5
theorem Xik{p:Array Nat}(h:PA n p){k:Nat}(L:k<n)(u:UpR κ p k):∀f l r,l<=r->r<=k->r-l<=f->(∀i,i<l->ltL (kf κ p i) (kf κ p k)=yx)->(∀i,r<=i->i<k->ltL (kf κ p k) (kf κ p i)=yx) ->
  Ran (kt κ) (λl=>l<=k/\(∀i,i<l->ltL (kf κ p i) (kf κ p k)=yx)/\∀i,l<=i->i<k->ltL (kf κ p k) (kf κ p i)=yx) (kas_place p k f l r)
 |0=>λl r a1 B a3 b1 b2=>by
  obtain rfl:l=r:=by omega
  exact⟨B,b1,b2⟩|f+1=>λl r a1 B a3 b1 b2=>by
  unfold kas_place;split
  ·rename_i c;obtain rfl:l=r:=by omega
   exact⟨B,b1,b2⟩
  rename_i c;show Ran _ _ (if kt κ (p.getD k 0) (p.getD ((l+r)/2) 0)=yx then _ else _);split
  ·rename_i d;refine Xik h L u f l ((l+r)/2) (by omega) (by omega) (by omega) b1 λi aa J=>?_;by_cases e:i=(l+r)/2;·subst e;exact d
   ·exact Xb9 _ _ _ (show ltL (kf κ p k) (kf κ p ((l+r)/2))=yx from d) (u _ _ (by omega) J)
  rename_i d;have Y:ltL (kf κ p k) (kf κ p ((l+r)/2))=false:=Vdy.mpr d;have U:=Xdk _ _ (Xqs hA h L (show(l+r)/2<n by omega) (by omega)) Y;refine Xik h L u f ((l+r)/2+1) r (by omega) B (by omega) (λi hi=>?_) b2;by_cases e:i=(l+r)/2;·subst e;exact U
  ·exact Xb9 _ _ _ (u _ _ (by omega) (by omega)) U
theorem Xtc{p:Array Nat}{k l:Nat}(B:k<p.size)(J:l<=k)(i:Nat):kf κ (bubble p k (k-l)) i=if i=l then kf κ p k else if l<i/\i<=k then kf κ p (i-1) else kf κ p i:=by
 unfold kf;have:=getElem?_bubble B (k-l) (by omega) i;rw[show k-(k-l)=l by omega]at this;simp only[Vey];rw[this];split;·rfl
 ·split<;>rfl
theorem Xy0:∀f p k,PA n p->k+f=n->UpR κ p k->Ran (kt κ) (λp=>PA n p/\UpR κ p n) (kas_bin f p k)
 |0=>λp k h e u=>⟨h,by rw[show n=k by omega];exact u⟩|f+1=>λp k h e u=>by
  have sz:p.size=n:=by rw[<-V7,h.length_eq,Vap]
  refine Ran.bind (λl ⟨a,b,c⟩=>Xy0 f _ (k+1) (h.bub _ _) (by omega) λi j B U=>?_) _ (Xik hA h (show k<n by omega) u k 0 k (Ug _) (Vm _) (by omega) (λi hi=>by omega) λi h1 h2=>by omega);rw[Xtc hA (by omega) a,Xtc hA (by omega) a];by_cases i1:i=l;·subst i1;rw[iP0 rfl,iN0 (by omega),iP0 (by omega)];exact c _ (by omega) (by omega)
  ·rw[iN0 i1];by_cases J:j=l;·subst J;rw[iP0 rfl,iN0 (by omega)];exact b _ B
   ·rw[iN0 J];by_cases i2:l<i;·rw[iP0 (by omega),iP0 (by omega)];exact u _ _ (by omega) (by omega)
    ·rw[iN0 (by omega)];by_cases L:l<j;·rw[iP0 (by omega)];exact u _ _ (by omega) (by omega)
     ·rw[iN0 (by omega)];exact u _ _ B (by omega)
theorem X4x(hn:2<=n):Ran (kt κ) (λp=>PA n p/\UpR κ p n) (kas_sort n):=by
 refine Ran.bind (λx ⟨a,b,c,d⟩=>?_) _ (X0q hA (show PA n (List.toArray (Vs n)) from Vau _) hn);split;·rw[show max x.1 1=x.1 by omega];exact Xy0 hA _ _ _ a (by omega) d
 ·exact⟨a,by rw[show n=x.1 by omega];exact d⟩
end
end Z
end
section
namespace Z
open PySem PySem.SetTable PySem.Spec PyProof.Rows L2
def PwL(l:LL):Prop:=l.Pairwise λa b=>ltL a b=yx
theorem Xil:∀ {l m:LL},l.Perm m->PwL l->PwL m->l=m
 |[],m,p,_,_=>(List.Perm.nil_eq p)|a::l,[],p,_,_=>aB0 p.length_eq (by simp)|a::l,b::m,p,h1,h2=>by
  unfold PwL at h1 h2;rw[Uy]at h1 h2;have e:a=b:=by
   rcases Vn.mp (p.mem_iff.mp Vz) with e|J;·exact e
   ·rcases Vn.mp (p.mem_iff.mpr Vz) with e|B;·exact e.symm
    ·have:=Xb9 _ _ _ (h1.1 b B) (h2.1 a J);rw[Xij]at this;cases this
  subst e;rw[Xil ((List.perm_cons a).mp p) h1.2 h2.2]
theorem Xet(k:LI):∀l,(Xie k l).Perm (k::l)
 |[]=>Vau _|y::r=>by
  unfold Xie;split;·exact Vau _
  ·exact((Xet k r).cons y).trans (Vfs _ _ _)
theorem Xas:∀l,(Yr l).Perm l
 |[]=>Vau _|k::r=>(Xet k _).trans ((Xas r).cons k)
theorem Xpf(k:LI):∀l,PwL l->(∀y∈l,k≠y)->PwL (Xie k l)
 |[]=>λ_ _=>Vec _ _|y::r=>λh J=>by
  unfold PwL at h;rw[Uy]at h;unfold Xie;split
  ·rename_i c;refine Uy.mpr ⟨λz B=>?_,Uy.mpr h⟩;rcases Vn.mp B with rfl|B;·exact c
   ·exact Xb9 _ _ _ c (h.1 z B)
  rename_i c;refine Uy.mpr ⟨λz B=>?_,Xpf k r h.2 λz B=>J z (V5 _ B)⟩;rcases Vn.mp ((Xet k r).mem_iff.mp B) with rfl|B;·exact Xdk _ _ (J y Vz) (Vdy.mpr c)
  ·exact h.1 z B
theorem Xfl:∀l:LL,l.Nodup->PwL (Yr l)
 |[]=>λ_=>Vb7|k::r=>λh=>by rw[Vcm]at h;exact Xpf k _ (Xfl r h.2) λy B e=>h.1 (e▸(Xas r).mem_iff.mp B)
theorem X4y{acc:LL}{k:LI}(h:acc.Nodup):(ddR acc k).Nodup:=by
 unfold ddR;split;·exact h
 ·rename_i c;rw[Vda];exact⟨h,by simp,λa J b B e=>c (by rw[V9]at B;rw[<-B,<-e];exact J)⟩
theorem Xme(ks:LL):(ddL ks).Nodup:=by
 have:∀(l B:LL),B.Nodup->(l.foldl ddR B).Nodup:=λl=>by
  induction l with
  |nil=>intro B h;exact h|cons k l ih=>intro B h;exact ih _ (X4y h)
 exact this ks [] Vg8
theorem Xpg:∀(l acc:LL),lf acc<=(l.foldl ddR acc).length
 |[]=>λacc=>Vm _|x::l=>λacc=>by
  refine Uv ?_ (Xpg l (ddR acc x));unfold ddR;split;·exact Vm _
  ·simp
theorem Xv5(ks:LL)(i:Nat)(hi:i<lf ks):ddL (ks.take (i+1))=ddR (ddL (ks.take i)) (ks.getD i []):=by unfold ddL;rw[Vev,Vk hi,Vdc];simp[Vdq,hi]
theorem X4z(ks:LL)(i:Nat):(ddL (ks.take i)).length<=(ddL ks).length:=by
 have:ks=ks.take i++ks.drop i:=(Vbx i ks).symm;unfold ddL
 conv=>rhs;rw[this,Vdc]
 exact Xpg _ _
theorem Xdl{prog:V4}{w:Ua}{h h':Heap}{k:LI}{x:Addr}(r:(Xx prog w).is h k x)(e:∀o,h.get? x=yz o->h'.get? x=yz o):(Xx prog w).is h' k x:=by obtain⟨o,its,m,B,r⟩:=r;exact⟨o,its,m,e _ B,r⟩
theorem SetR.mov{prog:V4}{w:Ua}{h h':Heap}{a:Addr}{ld:Bool}{ps:List (LI×Addr)}(S:SetR prog w h a ld ps)(e:∀o,h.get? a=yz o->h'.get? a=yz o)(L:∀p∈ps,∀o,h.get? p.2=yz o->h'.get? p.2=yz o):SetR prog w h' a ld ps:=by obtain⟨o,es,ep,t,J,B,hd,m,r⟩:=S;exact⟨o,es,ep,t,e _ J,B,hd,⟨m.1,λp hp=>Xdl (m.2 p hp) (L p hp)⟩,r⟩
section
variable{prog:V4}{w:Ua}{A:Uu}{R:Result->Vc->Prop}{I:Addr}{fp wr:LR}{G:Array GenState->Array GenState->Prop}{n:Nat}{P:Nat->Vb->Prop}{St:Nat->Vc->Prop}{ld:Bool}
theorem Xv6(W:WalksS prog w A.in1 I fp wr G n P St)(J:Addr)(hf:J ∉ fp)(ks:LL)(xs:LR)(hn:(lf ks)=n)(hP:∀i v,P i v->∃x,v=.ref x/\xs[i]?=yz x)(hx:∀x∈xs,x≠J/\x ∉ wr)(hu:A.units+1<Vcl)(hb:(ddL ks).length<1200):
  ∀(k i:Nat) (s:Vc) (ps:List (LI×Addr)),n-i=k->i<=n->St i s->SetR prog w s.heap J ld ps->(ps.map (·.1)).Perm (ddL (ks.take i))->(∀p∈ps,∃i:Nat,ks[i]?=yz p.1/\xs[i]?=yz p.2)->(∀(i:Nat) (x:Addr),xs[i]?=yz x->(Xx prog w).is s.heap (ks.getD i []) x) ->
   (∀s' L,Moved (J::wr) G s s'->SetR prog w s'.heap J ld L->(L.map (·.1)).Perm (ddL ks)->(∀p∈L,∃i:Nat,ks[i]?=yz p.1/\xs[i]?=yz p.2)->R (.ok (.ret .none)) s')->Vcy (Vl prog w) A (.builtin "set.update.loop" ⟨[.ref J,.ref I],[]⟩) R s:=by
 have hw:J ∉ wr:=λh=>hf (W.sub _ h);have sub:∀b∈wr,b∈J::wr:=λb hb=>V5 _ hb;intro k;induction k with
 |zero=>
  intro i s ps hk hi st S p B hr hR;obtain rfl:i=n:=by omega
  refine Va2 Veb ?_;rw[Va9 Vcj _];show Vg _ A.in1 (Vei (.ref I) >>= _) _ _ s;refine Va (W.done s _ _ st λs' m=>?_);show Vg _ A.in1 (ret Van) _ _ s';refine Vd (hR s' ps (m.mono sub) (S.mov (λo e=>m.heap J o hw e) λp hp o e=>?_) (by rwa [<-hn,Vcx]at p) B);obtain⟨j,_,e2⟩:=B p hp;exact m.heap _ o (hx _ (V6 e2)).2 e|succ k ih=>
  intro i s ps hk hi st S p B hr hR;have lt:i<n:=by omega
  refine Va2 Veb ?_;rw[Va9 Vcj _];show Vg _ A.in1 (Vei (.ref I) >>= _) _ _ s;refine Va (W.item i s _ _ lt st λv s' hv ai m=>?_);obtain⟨x,rfl,ex⟩:=hP i v hv;have U:∀y∈xs,∀o,s.heap.get? y=yz o->s'.heap.get? y=yz o:=λy hy o e=>m.heap y o (hx y hy).2 e;have S1:=S.mov (λo e=>m.heap J o hw e) (λq hq o e=>by obtain⟨j,_,e2⟩:=B q hq;exact U _ (V6 e2) o e);show Vg _ A.in1 (Vd5 [Ur x] (setAdd J (.ref x)) >>= _) _ _ s';have le:=X4z ks i;have pl:(lf ps)=(ddL (ks.take i)).length:=by rw[<-p.length_eq,Ve]
  refine Va (Uo (X0b (show A.in1.units<Vcl from hu) S1 (Xdl (hr i x ex) (U x (V6 ex))) (by omega) λh' L sb S' q=>?_));have aa:∀q∈L,∃i:Nat,ks[i]?=yz q.1/\xs[i]?=yz q.2:=λz Y=>by
   rcases q with⟨_,rfl⟩|⟨_,q2⟩;·exact B z Y
   ·rcases Uq.mp (q2.mem_iff.mp Y) with Y|Y;·exact B z Y
    ·rw[V9]at Y;subst Y;exact⟨i,by simp[Vdq,show i<lf ks by omega],ex⟩
  refine Vd ⟨Ved Vcj _,ih (i+1) _ L (by omega) lt (W.frame _ s' _ _ ai (Nat.le_add_right _ _) λb hb o e=>?_) S' ?_ aa (λj y ey=>Xdl (Xdl (hr j y ey) (U y (V6 ey))) λo e=>?_) λac ab ae ag af ah=>?_⟩;·rw[sb.2 b (λz:b=J=>hf (z▸hb))];exact e
  ·rw[Xv5 ks i (by omega)];unfold ddR;rcases q with⟨q1,rfl⟩|⟨q1,q2⟩;·rw[iP0 (p.mem_iff.mp q1)];exact p
   ·rw[iN0 (λz=>q1 (p.mem_iff.mpr z))];have:=q2.map (·.1);rw[Vae]at this;exact this.trans (p.append_right _)
  ·rw[sb.2 y (hx y (V6 ey)).1];exact e
  refine hR ac ab (Moved.trans W.gtrans ((m.mono sub).then_heap (Nat.le_add_right _ _) λb o hb e=>?_) ae) ag af ah;rw[sb.2 b (λz:b=J=>hb (z▸Vz))];exact e
end
end Z
end
section
namespace Z
open PySem PySem.SetTable PySem.Spec PyProof.Rows
section
variable{prog:V4}{w:Ua}{A:Uu}{E:VP}{s:Vc}
theorem Xv7 {h:Heap} {ld:Bool} {a:Addr} (e:h.get? a=yz {cls:=.type "set",dict:=yy,data:=.set #[] 0 (.fresh 0 0 ld)}):SetR prog w h a ld []:=
 ⟨_,#[],0,.fresh 0 0 ld,e,⟨rfl,rfl,rfl⟩,rfl,⟨rfl,λp hp=>by cases hp⟩,⟨Xo5 ld,λj h x B=>by simp[Ats,SetTable.fresh]at B⟩,rfl⟩
theorem Xka(b:Bool){l:Addr}{items:AV}{rs:LL}{xs:LR}{Q:VP}(hh:A.handled=yy)(hu:A.units+9<Vcl)(hl:Xv1 b s.heap l items)(hi:items.toList=xs.map Ur)(Y:(lf rs)=lf xs)(L:∀(i:Nat) (x:Addr),xs[i]?=yz x->(Xx prog w).is s.heap (rs.getD i []) x)(hb:(ddL rs).length<1200)
  (h:∀(h':Heap) (tk:Nat) (ps:List (LI×Addr)),SetR prog w h' s.heap.objs.size (!byT w) ps->(ps.map (·.1)).Perm (ddL rs)->(∀p∈ps,∃i:Nat,rs[i]?=yz p.1/\xs[i]?=yz p.2)->(∀b o,s.heap.get? b=yz o->h'.get? b=yz o)->Q (.ref s.heap.objs.size) {s with heap:=h',toks:=tk}):
  Vg (Vl prog w) A (call (.type "set") [.ref l]) Q E s:=by
 obtain⟨lS,St,W,st⟩:=Xo6 (prog:=prog) (w:=w) b hh hl;have hz:items.size=lf rs:=by rw[<-V7,hi,Ve,Y]
 have J:∀x∈xs,x<s.heap.objs.size:=λx hx=>by obtain⟨i,e⟩:=List.mem_iff_getElem?.mp hx;obtain⟨o,_,_,ho,_⟩:=L i x e;exact Vw ho
 refine Xj8 b hl (R:=λB=>Q (.ref s.heap.objs.size) B) (λB h=>h) λR' aa=>Xv6 W s.heap.objs.size (Xo8 lS) rs xs hz.symm (λi v U=>?_) (λx hx=>⟨Uc (J x hx),?_⟩) (by simp only[Around.in1_units];omega) hb (items.size-0) 0 _ [] rfl (Ug _) st (Xv7 (Xs0 b l)) (Vau _) (λp hp=>by cases hp) (λi x e=>Xdl (L i x e) λo ho=>Vf _ (Vf _ ho)) λs' ps m S' p ab=>aa s' ?_
 ·rw[<-Uh,hi,Vx]at U;cases e:xs[i]? with
  |none=>rw[e]at U;cases U|some x=>rw[e]at U;cases U;exact⟨x,rfl,rfl⟩
 ·rw[Val];simp only[Vn,U9,or_false];exact Uc (Vax (J x hx))
 obtain⟨h',tk,rfl,k'⟩:=Xsz m (Xo7 b l);exact h _ _ ps S' p ab k'
end
end Z
end
section
namespace Z
open PySem PySem.SetTable PySem.Spec PyProof.Rows L2
theorem Xv8{prog:V4}{w:Ua}{ks:LI}{vs:LV}(h:ItemsAre (Va8 prog w) ks vs):Vb1 vs ks:=by
 induction h with
 |nil=>exact .nil|@cons k v ks vs h1 _ ih=>obtain⟨t,rfl⟩:=Vf0 h1;exact .cons k t ih
theorem X40{prog:V4}{w:Ua}{h:Heap}{k:LI}{x:Addr}(r:(Xx prog w).is h k x):Row h k (.ref x):=by obtain⟨o,its,m,B,hc,hd,hi⟩:=r;exact⟨x,its.toList,rfl,⟨o,B,hc,m,by rw[hd]⟩,Xv8 hi⟩
theorem X0r{α:Type}(d:α)(l:List α):(Vs l.length).map (λi=>l.getD i d)=l:=by refine List.ext_getElem (by simp) λi h1 h2=>?_;simp[Vdq]at h1 ⊢;simp[h1]
section
variable{prog:V4}{w:Ua}{A:Uu}{E:VP}{s:Vc}
theorem Xtd(B:List (LI×Addr))(L:(B.map (·.1)).Nodup)(h2:2<=lf B):∃p,Xbg (ltK (B.map (·.1))) (Vdl B.length)=yz p/\p.size=lf B/\(p.toList.map λi=>B.getD i ([],0)).Perm B/\PwL ((p.toList.map λi=>B.getD i ([],0)).map (·.1))/\∀i∈p.toList,i<lf B:=by
 have el:(B.map (·.1)).length=lf B:=Ve _;obtain⟨p,e,hp⟩:=GoodK.run (n:=B.length) (P:=PA B.length) (lt:=ltK (B.map (·.1))) (λi j hi J=>⟨ltL (B.map (·.1))[i] (B.map (·.1))[j],by simp only[ltK,Vk (show i<(B.map (·.1)).length by omega),Vk (show j<(B.map (·.1)).length by omega)]⟩) _ (Xmc (by omega));have hA:Ap (λi=>(B.map (·.1)).getD i []) B.length:=λi j hi J c z=>by refine c ((List.getElem?_inj (l:=B.map (·.1)) (by omega) L).mp ?_);dsimp only at z;rw[Vk (by omega),Vk (by omega)];rw[U4,U4,Vk (by omega),Vk (by omega)]at z;exact congrArg yz z
 have up:UpR (λi=>(B.map (·.1)).getD i []) p B.length:=(Ran.of (n:=B.length) (lt:=kt (λi=>(B.map (·.1)).getD i [])) (λi j hi J=>by
  unfold ltK kt;rw[Vk (by omega),Vk (by omega)];simp only[U4];rw[Vk (by omega),Vk (by omega)]
  rfl) _ p (Xmc (by omega)) (X4x hA h2) e).2
 have Y:p.size=lf B:=by rw[<-V7,hp.length_eq,Vap]
 refine⟨p,e,Y,?_,?_,λi hi=>U6.mp (hp.mem_iff.mp hi)⟩;·have:=hp.map λi=>B.getD i ([],0);rwa [X0r]at this
 ·unfold PwL;rw[Vai,Vfb];intro i j hi J U;rw[Ve,V7]at hi J;have this:ltL ((B.map (·.1)).getD (p.getD i 0) []) ((B.map (·.1)).getD (p.getD j 0) [])=true:=up i j U (by omega);have kk:∀k (hk:k<p.size),(B.map (·.1)).getD (p.getD k 0) []=(B.getD p[k] ([],0)).1:=λk hk=>by
   simp only[Vaj,hk,dite_true,U4,Vx];cases B[p[k]]?<;>rfl
  rw[kk i hi,kk j J]at this;simpa using this
set_option maxHeartbeats 1600000 in
theorem Xqu{Sa:Addr}{ps:List (LI×Addr)}{Q:VP}(hh:A.handled=yy)(hu:A.units+9<Vcl)(S:SetR prog w s.heap Sa (!byT w) ps)(ay:(ps.map (·.1)).Nodup)(hn:(lf ps)<64)
  (h:∀(B:List (LI×Addr)) (h':Heap) (tk r e:Nat),B.Perm ps->PwL (B.map (·.1))->(∀b o,s.heap.get? b=yz o->h'.get? b=yz o)->s.heap.objs.size<=r->h'.get? r=yz (Vag "list" (B.map λq=>Ur q.2).toArray e)->Q (.ref r) {s with heap:=h',toks:=tk}):
  Vg (Vl prog w) A (call (.builtin "sorted") [.ref Sa]) Q E s:=by
 obtain⟨o,es,ep,t,ho,aq,hd,m,T,hl⟩:=S;have ln:=m.len;refine Vd1 kind_sorted plain_sorted entry_sorted (args_sorted1 _) ?_;unfold Vcb.«sorted»;refine Va (m:=checkCount "sorted" 1 1 _) (Vd (Va (Xf8 (show A.in1.handled=yy from hh) ho aq hd T.toTab hl λh1 tk kp le=>?_)));obtain⟨B,qp,qe⟩:=Xen (Xby w Sa ep es) ps m.1;have ev:(Xad w Sa ep es).map (·.2)=B.map λq=>Ur q.2:=by rw[qe,Vai];rfl
 rw[ev];have lv:(B.map λq=>Ur q.2).length=lf B:=Ve _;have lq:(lf B)<64:=by rw[qp.length_eq];exact hn
 have al:∀q∈B,Row h1 q.1 (.ref q.2):=λq hq=>(X40 (m.2 q (qp.mem_iff.mp hq))).keep kp;have ar:(B.map (·.1)).Nodup:=(qp.map (·.1)).nodup_iff.mpr ay;generalize ac:(B.map λq=>Ur q.2)=vs at lv ⊢;refine Va (Ve6 ?_ (by rw[Va4];omega));obtain⟨hp,g,dr,a5,os⟩:=s;replace kp:∀b u,hp.get? b=yz u->h1.get? b=yz u:=kp;replace le:hp.objs.size<=h1.objs.size:=le;show Vg _ _ _ _ _ ⟨h1.push (Vag "list" vs.toArray 0),g,dr,tk,os⟩;have oL:(h1.push (Vag "list" vs.toArray 0)).get? h1.objs.size=yz (Vag "list" vs.toArray 0):=Vt _ rfl;show Vg _ _ (Vd5 [.ref h1.objs.size] (call (.builtin "list.sort") [.ref h1.objs.size]) >>= _) _ _ _;have L:∀h':Heap,(∀b o,b≠h1.objs.size->(h1.push (Vag "list" vs.toArray 0)).get? b=yz o->h'.get? b=yz o)->∀(i:Nat) (k:LI),(B.map (·.1))[i]?=yz k->∃u,vs[i]?=yz u/\Row h' k u:=λh' kk i k hk=>by
  rw[Vx]at hk;cases e:B[i]? with
  |none=>rw[e]at hk;cases hk|some q=>rw[e]at hk;cases hk;refine⟨.ref q.2,by rw[<-ac,Vx,e];rfl,?_⟩;have r:=al q (V6 e);obtain⟨a,us,ea,⟨o',am,av⟩,hi⟩:=r;cases ea;exact⟨q.2,us,rfl,⟨o',kk _ _ (Uc (Vw am)) (Vf _ am),av⟩,hi⟩
 obtain⟨out,U,z1,z2,z3,z4,z5,z6⟩:∃(out:AV) (U:List (LI×Addr)),U.Perm B/\PwL (U.map (·.1))/\out.toList=U.map (λq=>Ur q.2)/\out.size=lf vs/\(lf vs<2->out=vs.toArray)/\(2<=lf vs->∃p,Xbg (ltK (B.map (·.1))) (Vdl (lf vs))=yz p/\out=(p.toList.map λi=>vs.getD i Van).toArray):=by
  by_cases c:2<=lf B;·obtain⟨p,e,sz,pp,pw,pb⟩:=Xtd B ar c;refine⟨(p.toList.map λi=>vs.getD i Van).toArray,p.toList.map λi=>B.getD i ([],0),pp,pw,?_,by simp[sz,lv],λz=>by omega,λ_=>⟨p,by rw[lv];exact e,rfl⟩⟩;rw[Vcp,Vai];refine Vdi λi hi=>?_;have a3:=pb i hi;simp only[Vdd,<-ac,U4,Vx,Vk a3,V2,Vcw]
  ·refine⟨vs.toArray,B,Vau _,?_,by simp[ac],by simp,λ_=>rfl,λz=>by omega⟩;match B,c with
   |[],_=>exact Vb7|[q],_=>exact Vec _ _|_::_::_,c=>simp at c
 have lk:(B.map (·.1)).length=lf vs:=by rw[Ve,lv]
 have ah:∀(M:Model) (h:Heap) (v:Vb),(∃n t,v=Veh n t)->PySem.W.Looks M h (typeOf v) (.type "int"):=λM h v z=>by obtain⟨n,t,rfl⟩:=z;exact .now
 refine Va (Uo (U0 Vg6 ⟨_,oL,rfl⟩ Vgw (Xs6 (KO:=fun κ=>κ=tuples' yx\/κ=general'\/κ=oneType') (lt:=ltK (B.map (·.1))) (out:=out) oL (by omega) (λg2 h' kk Q' hq=>?_) (fun κ aw h' kk i j b C Y hC=>?_) z5 z6 z4 ⟨_,rfl,?_⟩) (Vg7 _)))
 ·cases en:((B.map (·.1)).all λk=>!k.isEmpty) with
  |true=>obtain⟨fs,f1,f2,f3⟩:=Xgs (h:=h') (B.map (·.1)) vs lk.symm (L h' kk) en;exact PySem.W.kat_kind (T:=.type "int") f1 (by omega) (λv hv=>ah _ _ v (f3 v hv)) rfl (hq _ (.inl rfl))|false=>exact Xhi (s:=⟨h',g,dr,tk,os⟩) (RowsV.of (B.map (·.1)) vs lk.symm (L h' kk)) (by omega) en (hq _ (.inr (.inl rfl))) (hq _ (.inr (.inr rfl)))
 ·unfold ltK at Y;cases e5:(B.map (·.1))[i]? with
  |none=>rw[e5]at Y;cases Y|some k=>
   rw[e5]at Y;dsimp only at Y;cases e6:(B.map (·.1))[j]? with
   |none=>rw[e6]at Y;cases Y|some k'=>
    rw[e6]at Y;cases Y;obtain⟨u,a0,au⟩:=L h' kk i k e5;obtain⟨u',az,ax⟩:=L h' kk j k' e6;obtain⟨a1,a4,rfl,⟨o1,af,an,n1,aj⟩,ag⟩:=au;obtain⟨a2,ap,rfl,⟨o2,ae,ak,n2,ai⟩,ab⟩:=ax;unfold Vgx;rw[Xdj a0,Xdj az];rcases aw with rfl|rfl|rfl;·refine PySem.W.kat_lt af aj ae ai ?_;simp only[Vr];exact Xs5 ag k' ap 0 ab hC
    ·exact Xd6 (b:=yw) (s:=⟨h',g,dr,tk,os⟩) (by simp only[Around.in1_units];omega) ⟨o1,af,an,n1,aj⟩ ⟨o2,ae,ak,n2,ai⟩ ag ab hC
    exact Xd6 (b:=yx) (s:=⟨h',g,dr,tk,os⟩) (by simp only[Around.in1_units];omega) ⟨o1,af,an,n1,aj⟩ ⟨o2,ae,ak,n2,ai⟩ ag ab hC
 ·obtain⟨e3,ao⟩:=sortedHeap_at (out:=out) oL;refine Vd ⟨_,rfl,h U _ tk _ e3 (z1.trans qp) z2 (λb u Y=>?_) le ?_⟩;·have lb:b<h1.objs.size:=Ub (Vw Y) le;rw[sortedHeap_old (Uc lb) (by rw[size_push'];exact Vax lb)];exact Vf _ (kp b u Y)
  ·have eo:out=(U.map λq=>Ur q.2).toArray:=by rw[<-z3]
   rw[<-eo];exact ao
end
end Z
end
section
namespace Z
open PySem PySem.Spec PyProof.Rows L2
section
variable{X:Cx}{pa:LA}{σ:L2.St}{H H0:Hp}{s:Vc}{ρ ρ0:LR}{S S':Sto}{env:En}{K:Vj}{Da:Addr}
theorem Mon.ownE{B:Heap->Prop}{u:HO}(hd:H Da=yz (.ext B)):Mon K ρ ρ H (L2.upd H Da u) where
 pre:=λ_ _ h=>h
 tup:=λa xs h=>by
  rcases h with(h|⟨v,h⟩)|h;·exact .inl (.inl (by rw[Xj (λz=>by subst z;rw[hd]at h;cases h)];exact h))
  ·exact .inl (.inr ⟨v,by rw[Xj (λz=>by subst z;rw[hd]at h;cases h)];exact h⟩)
  exact .inr h
 frz:=λa o u h=>by rw[Xj (λz=>by subst z;rw[hd]at h;cases h)];exact h
theorem SR.ownE{B:Heap->Prop}{u:HO}(r:SR K ρ S H)(hd:H Da=yz (.ext B))(hn:Da ∉ ρ):SR K ρ S (L2.upd H Da u):=
 ⟨r.len,r.nd,λn a ob h1 h2=>(r.ob n a ob h1 h2).mono' (Mon.ownE hd) (Xj λz=>hn (by rw[<-z];exact V6 h1))⟩
theorem Stp.ownE{B:Heap->Prop}{u:HO}(x:Stp K ρ0 ρ H0 H)(J:H0 Da=yy)(hd:H Da=yz (.ext B)):Stp K ρ0 ρ H0 (L2.upd H Da u) where
 pre:=x.pre
 tup:=λa xs h=>(Mon.ownE (ρ:=ρ) hd).tup a xs (x.tup a xs h)
 frz:=λa o u h=>(Mon.ownE (K:=K) (ρ:=ρ) hd).frz a o u (x.frz a o u h)
 new:=x.new
 keep:=λa o h hn=>by rw[Xj (Xs h J)];exact x.keep a o h hn
noncomputable def Xeu(X:Cx)(Da:Addr)(ks:LI):HO:=.ext λh=>SetI X.prog X.w h Da (!byT X.w) ks
theorem Xim{ks:LI}{h:Heap}(S:SetI X.prog X.w h Da (!byT X.w) ks):ObjOk X.prog X.w H h Da (Xeu X Da ks):=
 ⟨S,let ⟨o,_,_,_,ho,_⟩:=S;⟨o,ho⟩,λh1 h2 x k=>SetI.keep x k⟩
noncomputable def SetA(X:Cx)(Da:Addr):Xgp:=λ_ H B=>∃J ks,B=J.map D.int/\ks.Perm (ddI J)/\H Da=yz (Xeu X Da ks)
theorem SetA.ok:Xhh X.K Da (SetA X Da):=fun ρ ρ' H H' acc ⟨ns,ks,e,p,h⟩ hn st=>⟨(st.out h hn).1,ns,ks,e,p,(st.out h hn).2⟩
theorem Xcs:∀l:LI,Xm (l.map D.int)=yz l
 |[]=>rfl|x::l=>by rw[Ux,Xm,Xcs l];rfl
theorem X0s{E:VP}{A:Uu}{prog:V4}{w:Ua}{ld:Bool}{ks:LI}{k:Int}{tk:Tok}{Q:VP}(S:SetI prog w s.heap Da ld ks)(hn:(lf ks)<60)
  (h:∀h' B,Va0 Da s.heap h'->SetI prog w h' Da ld B->(k∈ks/\B=ks)\/(k ∉ ks/\B.Perm (ks++[k]))->Q .none {s with heap:=h',toks:=s.toks+1}):
  Vg (Vl prog w) A (call (.builtin "set.add") [.ref Da,.int k tk]) Q E s:=by
 have hT:s.TypeIs (.ref Da) "set":=by obtain⟨o,_,_,_,L,J,_⟩:=S;exact⟨o,L,J.1⟩
 refine U0 F.slot_set_add hT F.entry_set_add ?_ (F.args_set_add_2 _ _);unfold Vcb.«set.add» Builtin.Frozenset.oneOther;simp only[List.isEmpty_nil,bind_assoc];unfold Builtin.Frozenset.addrOf;refine Va (Vd ?_)
 try dsimp only
 refine Va (Vd ?_)
 try dsimp only
 refine Va (Xoq S hn λh' B sb S' q=>?_);exact Vd ⟨_,rfl,h h' B sb S' q⟩
variable{elt:Expr}{gens:List Vbm}{scope:U7}{cpos:Pos}{fe:En->Sto->R D}{d:Nat}
theorem Xhk{Y:Cx}(hg:gens[d+1]?=yy)(he:DE Y elt fe):Xb5 yx (SetA Y Da) Y Da elt gens scope cpos d (λenv acc S=>(fe env S).bind λy S=>Xdb acc y S):=by
 intro pa s σ H ρ S S' env acc af H0 ρ0 P I hn ⟨ns,ks,ea,p,hD⟩ h0 st0 B hP;subst ea;unfold Xig;rw[hg];dsimp only at B ⊢;cases q:fe env S with
 |bad=>rw[q]at B;cases B|ex n S1=>rw[q]at B;cases B|ok y S1=>
  rw[q]at B;simp only[Rk0]at B;cases y with
  |int i=>
   simp only[Xdb,Xcs]at B;split at B
   ·rename_i hz;cases B;refine he.ok I q λu s1 v H1 ab I1 rv rd L=>?_;simp only[RD]at rd;subst rd;obtain⟨t,rfl⟩:=rv;obtain⟨ac,U⟩:=L.out hD hn;have ae:SetI Y.prog Y.w s1.heap Da (!byT Y.w) ks:=(I1.inv.hok Da _ U).1;refine X0s ae (by rw[p.length_eq];exact hz) λh' aa sb S2 q2=>?_;have J:=I1.inv.write (x:=Da) (e:=Da) (o:=Xeu Y Da aa) (t':=s1.toks+1) (h':=h') (by rw[U];trivial) (.inl rfl) (λb u B e=>(sb.2 b B).trans e) (let ⟨o,_,_,_,ho,_⟩:=S2;⟨o,ho⟩) (Xim S2);have mo:Mon Y.K ab ab H1 (upd H1 Da (Xeu Y Da aa)):=Mon.ownE U;refine hP _ σ _ ab ⟨J,I1.sr.ownE U ac,I1.er.mono' mo⟩ ac ⟨ns++[i],aa,by simp,?_,Yi⟩ ((st0.trans L).ownE h0 U) ⟨λn a h=>L.pre n a h,λa xs h=>mo.tup a xs (L.tup a xs h),λa o u h=>mo.frz a o u (L.frz a o u h)⟩;unfold ddI at p ⊢;rw[Vdc];show aa.Perm (ddS (ns.foldl ddS []) i);unfold ddS at p ⊢;rcases q2 with⟨q1,rfl⟩|⟨q1,q2⟩;·rw[iP0 (p.mem_iff.mp q1)];exact p
    ·rw[iN0 (λz=>q1 (p.mem_iff.mpr z))];exact q2.trans (p.append_right _)
   cases B|_=>cases B
theorem Xmf{prog:V4}{w:Ua}:∀ {es:List (Int×Vb)},ElemsOf (Va8 prog w) es->Vb1 (es.map (·.2)) (es.map λe=>Xbx e.2)
 |[],_=>.nil|e::es,h=>by obtain⟨i,t,q⟩:=Xop h Vz;simp only[Ux,q];exact .cons i t (Xmf h.tail)
theorem Xhl{E:VP}{ns ks:LI}(hh:X.A.handled=yy)(I:S0 X pa σ H s ρ S env)(hD:H Da=yz (Xeu X Da ks))(p:ks.Perm (ddI ns))(hz:(ddI ns).length<60):
  Vg (Vl X.prog X.w) X.A (call (.builtin "sorted") [.ref Da]) (λw s'=>OkP X pa σ ρ H (Xac (ns.map D.int) S) w s') E s:=by
 obtain⟨o,es,ep,t,ho,ab,hd,ae,L,T,hl⟩:=(show SetI X.prog X.w s.heap Da (!byT X.w) ks from(I.inv.hok Da _ hD).1);refine Vd1 kind_sorted plain_sorted entry_sorted (args_sorted1 _) ?_;unfold Vcb.«sorted»;refine Va (m:=checkCount "sorted" 1 1 _) (Vd (Va (Xf8 (show X.A.in1.handled=yy from hh) ho ab hd T hl λh1 tk kp le=>?_)));have op:=Xby X.w Da ep es;have len:(Xad X.w Da ep es).length<60:=by rw[op.length_eq,<-Ve (f:=λe=>Xbx e.2),<-L,p.length_eq];exact hz
 have B:ElemsOf (Va8 X.prog X.w) (Xad X.w Da ep es):=ae.perm op;have Y:=Xmf B;have pk:((Xad X.w Da ep es).map λe=>Xbx e.2).Perm (ddI ns):=(op.map λe=>Xbx e.2).trans (L▸p);generalize (Xad X.w Da ep es).map (·.2)=vs at Y;have lv:(lf vs)<60:=by rw[Y.length,Ve];exact len
 generalize ((Xad X.w Da ep es).map λe=>Xbx e.2)=ms at Y pk;refine Va (Ve6 ?_ (by rw[Va4];omega));obtain⟨hp,g,dr,ag,os⟩:=s;replace kp:∀b u,hp.get? b=yz u->h1.get? b=yz u:=kp;replace le:hp.objs.size<=h1.objs.size:=le;show Vg _ _ _ _ _ ⟨h1.push (Vag "list" vs.toArray 0),g,dr,tk,os⟩;have oL:(h1.push (Vag "list" vs.toArray 0)).get? h1.objs.size=yz (Vag "list" vs.toArray 0):=Vt _ rfl;show Vg _ _ (Vd5 [.ref h1.objs.size] (call (.builtin "list.sort") [.ref h1.objs.size]) >>= _) _ _ _;refine Va (Uo (U0 Vg6 ⟨_,oL,rfl⟩ Vgw (list_sort_tree oL Y (by omega) λout af a1 a2 a3=>⟨_,rfl,Vd ⟨_,rfl,?_⟩⟩) (Vg7 _)))
 have ac:af=Yl (ddI ns):=PySem.W.ksm_same ((a2.trans pk).trans (Yx _).symm) a3 (Xdi _);subst ac;obtain⟨e3,aa⟩:=sortedHeap_at (out:=out) oL;have J:=I.inv.laid (o:=.lst ((Yl (ddI ns)).map V.int)) (t':=tk) (h':=sortedHeap (h1.push (Vag "list" vs.toArray 0)) h1.objs.size vs out) (λb u hb=>by
  have lb:b<h1.objs.size:=Ub (Vw hb) le;rw[sortedHeap_old (Uc lb) (by rw[size_push'];exact Vax lb)]
  exact Vf _ (kp b u hb)) le
  ⟨by rw[Ve,(Yx _).length_eq,Va4];omega,out.toList,e3,Xb8 a1,by simpa [Vag] using aa⟩
 have U:Xac (ns.map D.int) S=.ok (.ref (lf S)) (S++[.lst ((Yl (ddI ns)).map D.int)]):=by simp only[Xac,Xcs,hz,if_true]
 rw[U];exact Xaz J (I.inv.hok.fresh le) I.sr (Xcr _)
theorem Xv9 (A:Uu) (E:VP) (s:Vc) (Q:VP) (h:Q (.ref s.heap.objs.size) {s with heap:=s.heap.push {cls:=.type "set",dict:=yy,data:=.set #[] 0 (.fresh 0 0 (!byT X.w))} }):Vg (Vl X.prog X.w) A (newSet (.type "set")) Q E s:=by unfold newSet setsByText;refine Va (Va (Vdk (Vd ?_)));exact U8 h
variable{sc:U7}{tg iter:Expr}{ifs:LX}{own:LS}{t:Tg}{n:Nat}{fi:En->Sto->R Src}{tf:En->Sto->R Bool}{body:En->LD->Sto->R (LD)}
noncomputable def Xqv(fi:En->Sto->R Src)(t:Tg)(n:Nat)(tf:En->Sto->R Bool)(body:En->LD->Sto->R LD)(env:En)(S:Sto):R D:=
 (fi env S).bind λB S=>(Xp B.get t (Xr tf body) (B.most S+1) 0 (env++Vu n yy) [] S).bind λJ S=>Xac J S
theorem Xy1 {p0 pos:Pos} (ae:Gl X "sorted") (ab:X.mg "sorted"=yy) (hc:X.calm=yx) (so:ScOk X.env.scope sc X.N own) (ai:(lf own)=n) (hg:gens=⟨tg,iter,ifs,0⟩::gens.tail) (hi:DI X tg iter fi) (hs:∀x,Vbv iter X.env x=pure x)
  (hG:∀pa s H U C fp,DG (blk X pa s H sc U C own fp) tg t) (hT:∀pa s H U C fp,DTs (blk X pa s H sc U C own fp) ifs tf) (hB:∀pa s H U C fp Da,Xb5 yx (SetA X Da) (blk X pa s H sc U C own fp) Da elt gens sc cpos 0 body):
  DE X (.Call (.Name "sorted" p0) [.SetComp elt gens sc cpos] [] pos) (Xqv fi t n tf body):=by
 intro pa s σ H ρ S env I B;have al:firstIter gens X.env=eval iter X.env:=by rw[hg];rfl
 have ah:firstAsync gens=false:=by rw[hg];rfl
 refine Var (Ym I.inv ae ab (u:=.builtin "sorted") (by decide+kernel) (Va3 (Vbs ?_ rfl) rfl rfl) (by decide) rfl);rw[arm_eval_SetComp];dsimp only;rw[al,ah];unfold Xqv at B ⊢;cases q:fi env S with
 |bad=>rw[q]at B;cases B rfl|ex m S1=>exact Xih (k:=yx) so hg hi hs I q λx s' z=>⟨m,S1,rfl,z⟩|ok L S1=>
  rw[q]at B;simp only[Rk0]at B ⊢;cases q2:Xp L.get t (Xr tf body) (L.most S1+1) 0 (env++Vu n yy) [] S1 with
  |bad=>rw[q2]at B;cases B rfl|ex m S2=>exact aB0 q2 (Xch _ _ _ _ _ _ _)|ok an Sf=>
   rw[q2]at B;simp only[Rk0]at B ⊢;refine Xep (k:=yx) (AR:=λDa=>SetA X Da) (uA:=λDa=>Xeu X Da []) (λDa=>SetA.ok) Xv9 rfl (λH h a e=>Xim (Xl5 e)) (λa ρ H z=>⟨[],[],rfl,Vau _,z⟩) hc so ai hg hi hs hG hT hB I q q2 λs' H' ρ' Da C m I' am ap h0 af ac aa ao ag Y=>?_;obtain⟨ns,ks,rfl,p,ak⟩:=af;have hz:(ddI ns).length<60:=by
    by_cases c:(ddI ns).length<60;·exact c
    ·simp only[Xac,Xcs,c,if_false]at B;cases B rfl
   refine⟨m,ac,λh' aj=>Vac ?_⟩;have J:=Y s' σ H' h' I'.inv ag aj;exact Vo (Xhl (E:=λ_ _=>False) (I'.inv.ok.hd hc) ⟨J,I'.sr,I'.er⟩ ak p hz) (λw s2 z=>z.pre am) λ_ _ z=>z.elim
theorem Xev{K:Vj}:∀ {ks:LL} {J:LW} {its:LV},RDs K ρ H (ks.map λk=>.tup (k.map D.int)) J->Vals J its->∃B:LR,its=B.map Ur/\(lf ks)=lf B/\∀(i:Nat) (x:Addr),B[i]?=yz x->SqT K H x ((ks.getD i []).map V.int)
 |[],J,its,h,v=>by simp only[Vd8,RDs]at h;subst h;cases v;exact⟨[],rfl,rfl,λi x e=>by simp at e⟩|k::ks,J,its,h,v=>by
  simp only[Ux,RDs]at h;obtain⟨v1,aa,rfl,h1,h2⟩:=h;cases v with
  |cons r L=>
   obtain⟨B,e1,Y,e3⟩:=Xev h2 L;simp only[RD]at h1;obtain⟨b,zs,rfl,hs,U⟩:=h1;have ez:=U.ints_of;subst ez;cases r;refine⟨b::B,by rw[e1];rfl,by simp[Y],λi x e=>?_⟩;cases i with
   |zero=>cases e;exact hs|succ i=>exact e3 i x (by simpa using e)
theorem Xmg{K:Vj}:∀(B:List (LI×Addr)),(∀q∈B,SqT K H q.2 (q.1.map V.int))->RDs K ρ H ((B.map (·.1)).map λk=>.tup (k.map D.int)) (B.map λq=>V.ref q.2)
 |[]=>λ_=>by simp only[Vd8,RDs]|q::B=>λh=>by simp only[Ux,RDs];refine⟨_,_,rfl,?_,Xmg B λz J=>h z (V5 _ J)⟩;simp only[RD];exact⟨q.2,_,rfl,h q Vz,Xcr q.1⟩
theorem Xkb:∀B:List (LI×Addr),Vals (B.map λq=>V.ref q.2) (B.map λq=>Ur q.2)
 |[]=>.nil|q::B=>.cons rfl (Xkb B)
theorem Xgt:∀ks:LL,Yg (ks.map λk=>D.tup (k.map D.int))=yz ks
 |[]=>rfl|k::ks=>by rw[Ux,Yg,Xcs,Xgt ks];rfl
theorem Xmh{E:VP}{h':Heap}{tk:Nat}{ks:LL}{xa:LR}{ps:List (LI×Addr)}(hu:X.A.units+200<Vcl)(hh:X.A.handled=yy)(I:S0 X pa σ H s ρ S env)(hx:∀(i:Nat) (x:Addr),xa[i]?=yz x->SqT X.K H x ((ks.getD i []).map V.int))
  (S2:SetR X.prog X.w h' s.heap.objs.size (!byT X.w) ps) (p:(ps.map (·.1)).Perm (ddL ks)) (Y:∀p∈ps,∃i:Nat,ks[i]?=yz p.1/\xa[i]?=yz p.2) (kp:∀b o,s.heap.get? b=yz o->h'.get? b=yz o) (hz:(ddL ks).length<61) (ab:Xm (ks.map λk=>D.tup (k.map D.int))=yy):
  Vg (Vl X.prog X.w) X.A (call (.builtin "sorted") [.ref s.heap.objs.size]) (λw s'=>OkP X pa σ ρ H (Xac (ks.map λk=>.tup (k.map D.int)) S) w s') E {s with heap:=h',toks:=tk}:=by
 have lp:(lf ps)<64:=by rw[<-Ve (f:=(·.1)),p.length_eq];omega
 have lt:s.heap.objs.size<h'.objs.size:=by obtain⟨o,_,_,_,ho,_⟩:=S2;exact Vw ho
 refine Xqu (s:={s with heap:=h',toks:=tk}) hh (by omega) S2 (p.nodup_iff.mpr (Xme ks)) lp λB h2 aa r e qp pw k2 le he=>?_;have e1:B.map (·.1)=Yr (ddL ks):=Xil (((qp.map (·.1)).trans p).trans (Xas _).symm) pw (Xfl _ (Xme ks));have hq:∀q∈B,SqT X.K H q.2 (q.1.map V.int):=λq hq=>by obtain⟨i,a1,a2⟩:=Y q (qp.mem_iff.mp hq);have:=hx i q.2 a2;rwa [U4,a1]at this
 have U:s.heap.objs.size<=r:=Uv (Vc1 lt) le;have J:=I.inv.laid (o:=.lst (B.map λq=>V.ref q.2)) (t':=aa) (h':=h2) (λb u hb=>k2 b u (kp b u hb)) U
  ⟨by rw[Ve,qp.length_eq,Va4];omega,B.map λq=>Ur q.2,e,Xkb B,by simpa [Vag] using he⟩
 have L:Xac (ks.map λk=>.tup (k.map D.int)) S=.ok (.ref (lf S)) (S++[.lst ((B.map (·.1)).map λk=>.tup (k.map D.int))]):=by simp only[Xac,ab,Xgt,hz,if_true,e1]
 rw[L];exact Xaz J (I.inv.hok.fresh U) I.sr (Xmg B hq)
theorem X88 {a:Expr} {f:En->Sto->R D} {p0 p2 pos af:Pos} (hu:X.A.units+200<Vcl) (hc:X.calm=yx) (ak:Gl X "sorted") (aj:X.mg "sorted"=yy) (an:Gl X "set") (ah:X.mg "set"=yy) (ha:DE X a f) (hs:Ul [a] X.env=(yw,eval a X.env)::Ul [] X.env):
  DE X (.Call (.Name "sorted" p0) [.Call (.Name "set" p2) [a] [] af] [] pos) (λenv S=>(f env S).bind λx S=>match x with
   |.ref n=>match Xc S n with
    |some xs=>Xac xs S|none=>.bad
   |.tup xs=>match Yg xs with
    |some (_::_)=>Xac xs S|_=>.bad
   |_=>.bad):=by
 intro pa s σ H ρ S env I B;dsimp only at B ⊢;refine Var (Ym I.inv ak aj (u:=.builtin "sorted") (by decide+kernel) (Va3 (Vbs ?_ rfl) rfl rfl) (by decide) rfl);refine Var (Ym I.inv an ah (u:=.type "set") (by decide+kernel) (Vaf (Vbs ?_ hs) hs rfl) (by decide) rfl);cases q:f env S with
 |bad=>rw[q]at B;cases B rfl|ex n S1=>exact ha.ex I q λx s' z=>⟨n,S1,rfl,z⟩|ok d S1=>
  rw[q]at B;simp only[Rk0]at B ⊢;cases d with
  |ref k=>
   dsimp only at B ⊢;cases e:Xc S1 k with
   |none=>rw[e]at B;cases B rfl|some xs=>
    rw[e]at B;dsimp only at B ⊢;cases e2:Xm xs with
    |none=>
     cases e3:Yg xs with
     |none=>simp only[Xac,e2,e3]at B;cases B rfl|some ks=>
      have hz:(ddL ks).length<61:=by
       by_cases c:(ddL ks).length<61;·exact c
       ·simp only[Xac,e2,e3,c,if_false]at B;cases B rfl
      have qx:=Xar e3;subst qx;refine ha.ok I q λu Y v H1 aa L rv rd U=>Vac ?_;obtain⟨b,ws,rfl,_,hv,hr⟩:=L.lstR e rd;obtain⟨ag,its,c,ab,eo⟩:=(show ObjOk X.prog X.w H1 Y.heap b (.lst ws) from L.inv.hok b _ hv);obtain⟨xa,x1,x2,x3⟩:=Xev hr ab;cases rv;refine Xka yx (s:=Y) (rs:=ks) (xs:=xa) (show X.A.handled=yy from L.inv.ok.hd hc) (by omega) (show Heap.IsList _ _ _ from⟨_,eo,rfl,c,rfl⟩) (by simpa using x1) x2 (λi x e=>Xoz L.inv (x3 i x e)) (by omega) λh' tk ps S2 p ac kp=>Vac ?_;exact Vo (Xmh (E:=λ_ _=>False) hu (L.inv.ok.hd hc) L x3 S2 p ac kp hz e2) (λw s2 z=>z.pre U) λ_ _ z=>z.elim
    |some ns=>
     have hz:(ddI ns).length<60:=by
      by_cases c:(ddI ns).length<60;·exact c
      ·simp only[Xac,e2,c,if_false]at B;cases B rfl
     have qx:=Yw e2;subst qx;refine ha.ok I q λu Y v H1 aa L rv rd U=>Vac ?_;obtain⟨b,ws,rfl,_,hv,hr⟩:=L.lstR e rd;obtain⟨ag,its,c,ab,eo⟩:=(show ObjOk X.prog X.w H1 Y.heap b (.lst ws) from L.inv.hok b _ hv);have hw:=hr.ints_of;subst hw;cases rv;refine Xs1 (s:=Y) (show X.A.handled=yy from L.inv.ok.hd hc) ⟨_,eo,rfl,c,rfl⟩ (by simpa using Xag ab) hz λh' tk ks S2 p kp=>Vac ?_;have hp:H1 Y.heap.objs.size=none:=L.inv.hok.fresh (Vm _);have J:=L.inv.laid (o:=Xeu X Y.heap.objs.size ks) (t':=tk) kp (Vm _) (Xim S2);have ae:Stp X.K aa aa H1 (upd H1 Y.heap.objs.size (Xeu X Y.heap.objs.size ks)):=Stp.upd hp;exact Vo (Xhl (E:=λ_ _=>False) (L.inv.ok.hd hc) ⟨J,L.sr.upd hp,L.er.mono ae⟩ Yi p hz) (λw s2 z=>z.pre (U.trans ae)) λ_ _ z=>z.elim
  |tup xs=>
   dsimp only at B ⊢;cases e3:Yg xs with
   |none=>rw[e3]at B;cases B rfl|some ks=>
    cases ks with
    |nil=>rw[e3]at B;cases B rfl|cons k0 al=>
     rw[e3]at B;dsimp only at B ⊢;generalize ai:k0::al=ks at *;have qx:=Xar e3;have e2:Xm xs=none:=by rw[qx,<-ai];rfl
     have hz:(ddL ks).length<61:=by
      by_cases c:(ddL ks).length<61;·exact c
      ·simp only[Xac,e2,e3,c,if_false]at B;cases B rfl
     subst qx;refine ha.ok I q λu Y v H1 aa L rv rd U=>Vac ?_;simp only[RD]at rd;obtain⟨b,zs,rfl,am,ao⟩:=rd;cases rv;obtain⟨us,u1,u2,_⟩:=L.inv.tuple am;obtain⟨xa,x1,x2,x3⟩:=Xev ao u1;refine Xka yw (s:=Y) (rs:=ks) (xs:=xa) (show X.A.handled=yy from L.inv.ok.hd hc) (by omega) u2 (by simpa using x1) x2 (λi x e=>Xoz L.inv (x3 i x e)) (by omega) λh' tk ps S2 p ac kp=>Vac ?_;exact Vo (Xmh (E:=λ_ _=>False) hu (L.inv.ok.hd hc) L x3 S2 p ac kp hz e2) (λw s2 z=>z.pre U) λ_ _ z=>z.elim
  |_=>cases B rfl
variable{prog:V4}{w:Ua}{A:Uu}{E:VP}
theorem Xnt{Q:LV->Vc->Prop}{r:Addr}{a b c:Int}{t u v:Tok}{n:Nat}(hh:A.handled=yy)(hr:IsRange s.heap r a b c t u v)(B:Ve8 a b c=yx)(hn:Vde a b c=n)(L:n<=2^24)
  (Y:∀(h':Heap) (tk:Nat) (acc:AV),(∀b o,s.heap.get? b=yz o->h'.get? b=yz o)->ItemsOf (λi v=>∃t,v=.int (a+i*c) t) acc n->Q acc.toList {s with heap:=h',toks:=tk}):Vg (Vl prog w) A (collect (.ref r)) Q E s:=by
 unfold collect;refine Va (Vft (Va2 F.entry_proto_collect ?_));rw[Va9 F.plain_proto_collect _];show Vg _ A.in1 (newList [] >>= λl=>again (.builtin "list.__iadd__" ⟨[l,.ref r],[]⟩)) _ _ s
 refine Va (U8 (Vd ⟨Ved Vf3 _,Va2 F.entry_list_iadd ?_⟩));rw[Va9 Vf3 _];obtain⟨hp,g,d,tk,os⟩:=s;show Vg _ A.in1 (Vbj (.ref hp.objs.size) (.ref r) (.ref hp.objs.size)) _ _ ⟨hp.push {cls:=.type "list",data:=.seq ([]:LV).toArray},g,d,tk,os⟩;refine wpAny_extend_range (R:=λr s'=>match r with
  |.ok (.ret v)=>Vg (Vl prog w) A (match v with
   |.ref a=>do match (<-load a).data with
    |.seq xs _=>pure xs.toList|_=>Ve7 "internal:collect"
   |_=>Ve7 "internal:collect") Q E s'
  |.ok _=>False
  |.error e=>E e s') (s:=⟨hp.push {cls:=.type "list",data:=.seq ([]:LV).toArray},g,d,tk,os⟩) hh (Vf _ hr) B hn L hp.objs.size (.ref hp.objs.size) 0 (Vt _ rfl) λh' U acc c' k hS J=>?_
 show Vg _ A (load hp.objs.size >>= _) _ _ _;refine Va (Vfp hS (Vd (Y h' U acc (λb o e=>k b o (Uc (Vw e)) (Vf _ e)) J)))
theorem Xnu{Q₁:VP}{r:Addr}{a b c:Int}{t u v:Tok}{n:Nat}(hh:A.handled=yy)(hr:IsRange s.heap r a b c t u v)(B:Ve8 a b c=yx)(hn:Vde a b c=n)(L:n<=2^24)
  (h:∀(h':Heap) (tk:Nat) (acc:AV),(∀b o,s.heap.get? b=yz o->h'.get? b=yz o)->ItemsOf (λi v=>∃t,v=.int (a+i*c) t) acc n->Q₁ (.ref h'.objs.size) {s with heap:=h'.push {cls:=.type "tuple",data:=.seq acc},toks:=tk}):
  Vcy (Vl prog w) A (.call (.builtin "tuple.__new__") ⟨[.type "tuple",.ref r],[]⟩) (wants Q₁ E) s:=by
 refine Vgt ?_;show Vg _ A.in1 (do Vgk "tuple.__new__" ⟨[.type "tuple",.ref r],[]⟩;again (.builtin "tuple.__new__" ⟨[.type "tuple",.ref r],[]⟩)) _ _ s;refine Va (Vga (F.newCall_tuple_1 _) (Vd ⟨Ved F.plain_tuple_new _,Va2 F.entry_tuple_new ?_⟩));rw[Va9 F.plain_tuple_new _];have aa:=sub_tuple_self;have U:=init_tuple_lookup;have ab:=madeHere_tuple;have Y:s.TypeIs (.ref r) "range" := ⟨_,hr,rfl⟩;wp_walk using Vcc Y,Xnt (A:=A.in1) hh hr B hn L;intro h' tk acc k J;show Vg _ _ (Vbg acc.toList.toArray >>= λv=>ret v) _ _ _;unfold Vbg;refine Va (U8 ?_ (by show acc.toList.toArray.size<=V8;simp only[Array.toArray_toList];rw[J.1,Va4];omega));refine Vd ?_;have e:acc.toList.toArray=acc:=by simp
 rw[e];exact h h' tk acc k J
theorem Xmi{Q:VP}{r:Addr}{a b c:Int}{t u v:Tok}{n:Nat}(hh:A.handled=yy)(hr:IsRange s.heap r a b c t u v)(L:Ve8 a b c=yx)(hn:Vde a b c=n)(Y:n<=2^24)
  (h:∀(h':Heap) (tk:Nat) (acc:AV),(∀b o,s.heap.get? b=yz o->h'.get? b=yz o)->ItemsOf (λi v=>∃t,v=.int (a+i*c) t) acc n->Q (.ref h'.objs.size) {s with heap:=h'.push {cls:=.type "tuple",data:=.seq acc},toks:=tk}):
  Vg (Vl prog w) A (call (.type "tuple") [.ref r]) Q E s:=by
 refine callType_codes (Q₁:=λobj B=>B.TypeIs obj "tuple" /\ Q obj B) F.called_tuple (F.typeCall_tuple_1 _) F.entry_object_init
  (Xnu hh hr L hn Y λh' tk acc k U=>⟨⟨_,Vt _ rfl,rfl⟩,h h' tk acc k U⟩) λobj B J=>?_
 exact⟨J.1,F.args_object_init_2 obj _,object_init_meets F.called_tuple.init.lookup F.called_tuple.made (by decide) prog w A.in1 _ B ⟨J.1,rfl,J.2⟩⟩
theorem Xhm{acc:AV}{n:Nat}(h:ItemsOf (λi v=>∃t,v=Veh ((0:Int)+i*1) t) acc n):∃us:LV,acc=us.toArray/\Vals ((Vs n).map λ(k:Nat)=>V.int (k:Int)) us:=by
 refine⟨acc.toList,by simp,?_⟩;have B:∀(us:LV) (m:Nat),(∀(i:Nat) (v:Vb),us[i]?=yz v->∃t,v=Veh ((m+i:Nat):Int) t)->Vals ((List.range' m (lf us)).map λ(k:Nat)=>V.int (k:Int)) us:=λus=>by
  induction us with
  |nil=>intro m _;exact .nil|cons u us ih=>intro m J;rw[U1,List.range'_succ,Ux];refine .cons (J 0 u rfl) (ih (m+1) λi v e=>?_);have:=J (i+1) v (by simpa using e);rwa [show m+(i+1)=m+1+i by omega]at this
 have:=B acc.toList 0 λi v e=>by obtain⟨t,q⟩:=h.2 i v (by rw[<-Uh];exact e);exact⟨t,by rw[q];congr 1;simp⟩
 rwa [V7,h.1,<-List.range_eq_range']at this
theorem Xin{K:Vj}{ρ:LR}{H:Hp}:∀l:LN,RDs K ρ H (l.map λ(k:Nat)=>D.int (k:Int)) (l.map λ(k:Nat)=>V.int (k:Int))
 |[]=>by simp only[Uw,RDs]|n::ns=>by simp only[Uw,RDs];exact⟨_,_,rfl,by simp only[RD],Xin ns⟩
noncomputable def lrN(t:Bool):Str:=match t with
 |true => "tuple"|false => "list"
theorem X89 {t:Bool} {a:Expr} {f:En->Sto->R D} {p p2 pos aj:Pos} (hc:X.calm=yx) (ah:Gl X (lrN t)) (ag:X.mg (lrN t)=yy) (ai:Gl X "range") (af:X.mg "range"=yy) (ha:DE X a f) (hs:Ul [a] X.env=(yw,eval a X.env)::Ul [] X.env):
  DE X (.Call (.Name (lrN t) p) [.Call (.Name "range" p2) [a] [] aj] [] pos) (λenv S=>(f env S).bind λx S=>match Yu [x] with
   |some ds=>if t then .ok (.tup ds) S else .ok (.ref (lf S)) (S++[.lst ds])
   |none=>.bad):=by
 intro pa s σ H ρ S env I U;dsimp only at U ⊢;have sm:∀j:Int,-(1048576)<j/\j<1048576->Ve8 0 j 1=true:=λj h=>small_one (by decide) (by decide) (by omega) (by omega);have rs:∀j:Int,-(1048576)<j/\j<1048576->Vde 0 j 1=(j.toNat:Int)/\j.toNat<=2^24:=λj h=>by
  rw[rangeSize_one];constructor;·split<;>omega
  ·omega
 have aa:∀ {d:D} {S1:Sto},(match Yu [d] with
   |some ds=>if t then R.ok (D.tup ds) S1 else R.ok (D.ref (lf S1)) (S1++[O.lst ds])
   |none=>R.bad)≠R.bad->∃j,d=.int j/\(-(1048576)<j/\j<1048576):=λ{d S1} h=>by
  cases d with
  |int j=>
   by_cases c:-(1048576)<j/\j<1048576;·exact⟨j,rfl,c⟩
   ·simp only[Yu,c,if_false]at h;cases h rfl|_=>cases h rfl
 cases t with
 |true=>
  refine Var (Ym I.inv ah ag (u:=.type "tuple") (by decide+kernel) (Vaf (Vbs ?_ rfl) rfl rfl) (by decide) rfl);refine Var (Ym I.inv ai af (u:=.type "range") (by decide+kernel) (Vaf (Vbs ?_ hs) hs rfl) (by decide) rfl);cases q:f env S with
  |bad=>rw[q]at U;cases U rfl|ex n S1=>exact ha.ex I q λx s' z=>⟨n,S1,rfl,z⟩|ok d S1=>
   rw[q]at U;simp only[Rk0]at U ⊢;obtain⟨j,rfl,L⟩:=aa U;refine ha.ok I q λu s1 v H1 al Y rv rd ac=>Vac ?_;simp only[RD]at rd;subst rd;obtain⟨tk,rfl⟩:=rv;refine call_range_1 (Vac (Xmi (Y.inv.ok.hd hc) (IsRange.new ..) (sm j L) (rs j L).1 (rs j L).2 λh' ab ak k J=>?_));obtain⟨us,rfl,B⟩:=Xhm J;have keep:∀b o,s1.heap.get? b=yz o->h'.get? b=yz o:=λb o e=>k b o (Vf _ e);have le:s1.heap.objs.size<=h'.objs.size:=Vc1 (Vw (k _ _ (Vt _ rfl)));have ae:Yu [.int j]=yz ((Vs j.toNat).map λ(k:Nat)=>D.int (k:Int)):=by simp only[Yu,L,and_self,if_true]
   rw[ae];simp only[if_true];refine OkP.pre ac (Xck (Y.inv.laid (t':=ab) (λb u e=>Vf _ (keep b u e)) le ?_) (Y.inv.hok.fresh le) Y.sr (Xin _));exact⟨by rw[Ve,Vap,Va4];have:=(rs j L).2;omega,us,B,⟨_,Vt _ rfl,rfl,_,rfl⟩⟩
 |false=>
  refine Var (Ym I.inv ah ag (u:=.type "list") (by decide+kernel) (Vaf (Vbs ?_ rfl) rfl rfl) (by decide) rfl);refine Var (Ym I.inv ai af (u:=.type "range") (by decide+kernel) (Vaf (Vbs ?_ hs) hs rfl) (by decide) rfl);cases q:f env S with
  |bad=>rw[q]at U;cases U rfl|ex n S1=>exact ha.ex I q λx s' z=>⟨n,S1,rfl,z⟩|ok d S1=>
   rw[q]at U;simp only[Rk0]at U ⊢;obtain⟨j,rfl,L⟩:=aa U;refine ha.ok I q λu s1 v H1 al Y rv rd ac=>Vac ?_;simp only[RD]at rd;subst rd;obtain⟨tk,rfl⟩:=rv;refine call_range_1 (Vac (call_list_range (Y.inv.ok.hd hc) (IsRange.new ..) (sm j L) (rs j L).1 (rs j L).2 λh' ab ak c k hS J=>?_));obtain⟨us,rfl,B⟩:=Xhm J;have keep:∀b o,s1.heap.get? b=yz o->h'.get? b=yz o:=λb o e=>k b o (Vf _ e);have le:s1.heap.objs.size<=(s1.heap.push {cls:=.type "range",data:=.fields #[.int 0 s1.toks,.int j tk,.int 1 (s1.toks+1)]}).objs.size:=by rw[Val];exact Vdn _
   have ae:Yu [.int j]=yz ((Vs j.toNat).map λ(k:Nat)=>D.int (k:Int)):=by simp only[Yu,L,and_self,if_true]
   rw[ae];simp only[Vp,if_false];refine OkP.pre ac (Xaz (Y.inv.laid (t':=ab) keep le ?_) (Y.inv.hok.fresh le) Y.sr (Xin _));exact⟨by rw[Ve,Vap,Va4];have:=(rs j L).2;omega,us,c,B,hS⟩
end
noncomputable def Xqw(sc:U7)(x:Str):Bool:=match sc.names.lookup x with
 |some .local=>yx|some .cell=>yx|some .free=>yx|_=>yw
noncomputable def glB(sc:U7)(x:Str):Bool:=match sc.names.lookup x with
 |some .globalImplicit=>yx|_=>yw
noncomputable def Xmj(top:Str->Bool)(sc:U7)(x:Str):Bool:=match sc.names.lookup x with
 |some .local=>yx|some .cell=>top x|_=>yw
noncomputable def Y6(x:Str):Bool:=!(x==("__debug__" : Str)) && !(x==("__classdict__" : Str)) && !decide (x="__name__")
theorem X0t(h:Xqw sc x=yx):Vis sc x:=by
 unfold Xqw at h;split at h;·exact .inl (by assumption)
 ·exact .inr (.inl (by assumption))
 ·exact .inr (.inr (by assumption))
 cases h
theorem Yz(hs:X.env.scope=sc)(h:glB sc x=yx):Gl X x:=by
 subst hs;unfold glB at h;split at h;·assumption
 ·cases h
theorem Xio{X:Cx}{top:Str->Bool}{sc:U7}{x:Str}(hs:X.env.scope=sc)(B:∀x,top x=yx->X.fn x=yx)(h:Xmj top sc x=yx):Loc X.env.scope x/\(X.fn x=yx\/X.env.scope.names.lookup x=yz .local):=by
 subst hs;unfold Xmj at h;split at h;·exact⟨.inl (by assumption),.inr (by assumption)⟩
 ·exact⟨.inr (by assumption),.inl (B x h)⟩
 cases h
theorem Xan(h:Y6 x=yx):(x==("__debug__" : Str))=yw/\(x==("__classdict__" : Str))=yw/\x ≠ "__name__":=by simp only[Y6,bA0,Vav,decide_eq_false_iff_not]at h;exact⟨h.1.1,h.1.2,h.2⟩
noncomputable def Yn:Expr->Bool
 |.Starred _ _=>yw|_=>yx
theorem Xv(h:Yn e=yx):Ul (e::es) env=(yw,eval e env)::Ul es env:=by cases e<;>first|rfl|cases h
theorem Xaj(h:es.all Yn=yx):(Vc0 pos (Ul es env)).any (·.1)=false:=by
 induction es with
 |nil=>rfl|cons e es ih=>rw[Vbe,bA0]at h;rw[Xv h.1];show(yw||(Vc0 pos (Ul es env)).any (·.1))=yw;rw[ih h.2];rfl
theorem Xwa(h:es.all Yn=yx):(Vc0 pos (Ul es env)).all (λx=>!x.1)=true:=by
 induction es with
 |nil=>rfl|cons e es ih=>rw[Vbe,bA0]at h;rw[Xv h.1];show(yx&&(Vc0 pos (Ul es env)).all (λx=>!x.1))=yx;rw[ih h.2];rfl
noncomputable def Xdm:Expr->Bool
 |.Name _ _=>yx|.Constant _ _ _=>yx|.BinOp _ _ _ _=>yx|.UnaryOp _ _ _=>yx|.Call _ _ _ _=>yx|.Subscript _ _ _=>yx|.IfExp _ _ _ _=>yx|.Compare _ _ _ _=>yx|_=>yw
theorem Xqx(h:Xdm b=yx):Xid b:=by cases b<;>first|(intro o i;rfl)|cases h
noncomputable def Xb6:Expr->Bool
 |.Set _ _ _=>yw|_=>yx
theorem Xba(h:Xb6 e=yx)(x:Vb):Vbv e env x=pure x:=by cases e<;>first|rfl|cases h
noncomputable def Xqy:Expr->Bool
 |.Name _ _=>yx|.Subscript _ _ _=>yx|.Constant _ _ _=>yx|_=>yw
theorem Xdn(h:Xqy o=yx):attributeBase o name env (eval o env)=eval o env:=by cases o<;>first|rfl|cases h
noncomputable def Xqz(c:Co)(o:CmpOp):Bool:=decide (o=opC c)
theorem Xip{c:Co}{o:CmpOp}(h:Xqz c o=yx):o=opC c:=oD0 h
noncomputable def X41(c:Bo)(o:Operator):Bool:=decide (o=opB c)
theorem X0u{c:Bo}{o:Operator}(h:X41 c o=yx):o=opB c:=oD0 h
noncomputable def Xiq:D->Const->Bool
 |.int i,.int j=>i==j|.bl i,.bool j=>i==j|.non,.none=>yx|.str i,.str j=>decide (i=j)|_,_=>yw
noncomputable def Xq0:Bl->Option (Str×Bool×String)
 |.len=>yz ("len",yx,"len")|.tuple=>yz ("tuple",yw,"tuple")|.list=>yz ("list",yw,"list")|.all=>yz ("all",yx,"all")|.anb=>yz ("any",yx,"any")|.max=>yz ("max",yx,"max")|.mxl=>yz ("max",yx,"max")|.min=>yz ("min",yx,"min")|.repr=>yz ("repr",yx,"repr")|.sorted=>yz ("sorted",yx,"sorted")|.srt=>yz ("sorted",yx,"sorted")
noncomputable def Xq1:Bl->Bool
 |.len=>yx|.tuple=>yx|.list=>yx|.repr=>yx|.sorted=>yx|.srt=>yx|_=>yw
noncomputable def X42:Tg->Bool
 |.var _=>yx|_=>yw
noncomputable def tyB(sc:U7)(t:Ty)(nm:Str):Bool:=match t with
 |.cls c=>decide (Xbi c=yz nm)|.int=>decide (nm="int")|.bool=>decide (nm="bool")|.str=>decide (nm="str")|.tuple=>decide (nm="tuple")|.list=>decide (nm="list")|.dict=>decide (nm="dict")|.valueError=>decide (nm="ValueError")
noncomputable def Xmk:Ty->Bool
 |.cls _=>yw|.valueError=>yw|_=>yx
noncomputable def tyM(sc:U7)(B:List Ty)(y:Expr):Bool:=match y with
 |.Name nm _=>glB sc nm&&Y6 nm&&(match B with|[t]=>tyB sc t nm|_=>yw)
 |.Tuple ys _ _=>(match ys with
  |[.Name n1 _,.Name n2 _]=>glB sc n1&&Y6 n1&&glB sc n2&&Y6 n2&&(match B with|[t1,t2]=>Xmk t1&&Xmk t2&&tyB sc t1 n1&&tyB sc t2 n2|_=>yw)
  |_=>yw)
 |_=>yw
noncomputable def Yaz:Mt->Option Str
 |.append=>yz "append"|.xtd=>yz "extend"|.count=>yz "count"|.index=>yz "index"|.popi=>yz "pop"
noncomputable def Xbl(scope sc:U7):U7:={scope with names:=scope.names.map λ(n,k)=>if (k == .free&&sc.kind == .function&&sc.names.lookup n==yz .cell) then (n,.cell) else (n,k)}
noncomputable def X6(scope:U7):LS:=scope.names.filterMap λx=>match x.2 with
 |.local=>yz x.1|.cell=>yz x.1|_=>yy
noncomputable def Xbm(N N2:LS)(x:Str):Bool:=(N2.drop N.length).contains x
theorem Xph(h:Xbm N (Yt N own) x=yx):own.contains x=true:=by unfold Xbm Yt at h;rw[List.drop_left' (by simp)]at h;exact h
noncomputable def Xq2(k:ScopeKind):Bool:=match k with
 |.function=>yx|_=>yw
theorem Xir(h:Xq2 k=yx):k=.function:=by cases k<;>first|rfl|cases h
noncomputable def Xml(k:Option Veo):Bool:=match k with
 |some .cell=>yx|some .free=>yx|_=>yw
noncomputable def Xc0(k:Option Veo):Bool:=match k with
 |some .local=>yx|_=>yw
noncomputable def Xew:LS->Bool
 |[]=>yx|x::r=>!(r.contains x)&&Xew r
theorem Xex:∀ {l:LS},Xew l=yx->l.Nodup
 |[],_=>Vg8|x::r,h=>by simp only[Xew,bA0,Vav,List.contains_eq_mem]at h;exact Vcm.mpr ⟨by simpa using h.1,Xex h.2⟩
noncomputable def scB(outer sc:U7)(N:LS):Bool:=
 Xq2 sc.kind&&Xq2 outer.kind&&Xew (Yt N (X6 sc)) &&
 sc.names.all (λy=>match y.2 with|.free=>Xml (outer.names.lookup y.1) && !(X6 sc).contains y.1|.local=>Xc0 (sc.names.lookup y.1)|_=>yx) &&
 N.all (λy=>!((X6 sc).contains y)||(sc.names.lookup (Vao "0" ++ y)).isNone)
theorem Xmm(h:scB outer sc N=yx):ScOk outer sc N (X6 sc):=by
 simp only[scB,bA0]at h;obtain⟨⟨⟨⟨h1,h2⟩,h3⟩,Y⟩,h6⟩:=h;have L:∀y∈sc.names,y.2=.free->Xml (outer.names.lookup y.1)=yx/\y.1 ∉ X6 sc:=λy B J=>by have:=Uk.mp Y y B;rw[J]at this;simpa using this
 have U:∀y∈sc.names,y.2=.cell->y.1∈X6 sc:=λy B hk=>Vek.mpr ⟨y,B,by rw[hk]⟩;refine⟨Xir h1,Xir h2,Xex h3,U,λy B J=>(L y B J).2,λy B J=>?_,λy B=>?_,λx hx hl=>?_,λy B hc=>?_⟩
 ·have:=(L y B J).1;unfold Xml at this;split at this;·exact .inl (by assumption)
  ·exact .inr (by assumption)
  cases this
 ·exact Vek.mpr ⟨(y,.local),Xcg B,rfl⟩
 ·have:=Uk.mp Y x hx;rw[hl]at this;dsimp only at this;unfold Xc0 at this;split at this;·assumption
  ·cases this
 have:=Uk.mp h6 y B;rw[hc]at this;simp only[Ut,Bool.false_or,Option.isNone_iff_eq_none]at this;exact this
noncomputable def Xq3:It->Bool
 |.zpp _=>yx|_=>yw
noncomputable def Xey(t:Tg)(it:It):Bool:=!Xq3 it || !X42 t
noncomputable def mnC(i:Int)(e:Expr):Bool:=match e with
 |.UnaryOp .USub x _=>(match x with
  |.Constant (.int j) _ _=>i==j
  |_=>yw)
 |_=>yw
noncomputable def Xq4(i:Int)(l:Option Int)(e:Expr):Bool:=match e with
 |.Slice lo yy (yz st) _=>mnC i st&&(match l,lo with
  |none,yy=>yx|some k,yz x=>mnC k x
  |_,_=>yw)
 |_=>yw
theorem Xe{α:Type}{o:Option α}{p:α->Bool}(h:o.any p=yx):∃x,o=yz x/\p x=true:=by
 cases o with
 |none=>cases h|some x=>exact⟨x,rfl,h⟩
noncomputable def vNm(e:Expr):Option Str:=match e with
 |.Name x _=>yz x|_=>yy
theorem Xbn{e:Expr}{x:Str}(h:vNm e=yz x):∃p,e=.Name x p:=by
 unfold vNm at h;split at h;·cases h;exact⟨_,rfl⟩
 ·cases h
noncomputable def Xwb(e:Expr):Option Const:=match e with
 |.Constant c _ _=>yz c|_=>yy
theorem X0v{e:Expr}{x:Const}(h:Xwb e=yz x):∃k p,e=.Constant x k p:=by
 unfold Xwb at h;split at h;·cases h;exact⟨_,_,rfl⟩
 ·cases h
noncomputable def vUn(e:Expr):Option (UnaryOp×Expr):=match e with
 |.UnaryOp o x _=>yz (o,x)|_=>yy
theorem Xte{e:Expr}{z:UnaryOp×Expr}(h:vUn e=yz z):∃p,e=.UnaryOp z.1 z.2 p:=by
 unfold vUn at h;split at h;·cases h;exact⟨_,rfl⟩
 ·cases h
noncomputable def X43(o:UnaryOp):Bool:=decide (o=.USub)
theorem X0w(h:X43 o=yx):o=.USub:=oD0 h
noncomputable def X44(o:UnaryOp):Bool:=decide (o=.Not)
theorem X0x(h:X44 o=yx):o=.Not:=oD0 h
noncomputable def Xis(e:Expr):Option (LX):=match e with
 |.Tuple xs _ _=>yz xs|_=>yy
theorem Xcm{e:Expr}{x:LX}(h:Xis e=yz x):∃k p,e=.Tuple x k p:=by
 unfold Xis at h;split at h;·cases h;exact⟨_,_,rfl⟩
 ·cases h
noncomputable def Xwc(e:Expr):Option (LX):=match e with
 |.List xs _=>yz xs|_=>yy
theorem X0y{e:Expr}{x:LX}(h:Xwc e=yz x):∃p,e=.List x p:=by
 unfold Xwc at h;split at h;·cases h;exact⟨_,rfl⟩
 ·cases h
noncomputable def Xwd(e:Expr):Bool:=match e with
 |.Dict ks vs _=>ks.isEmpty&&vs.isEmpty|_=>yw
theorem X0z{e:Expr}(h:Xwd e=yx):∃p,e=.Dict [] [] p:=by
 unfold Xwd at h;split at h;·simp only[bA0,Va5]at h;obtain⟨rfl,rfl⟩:=h;exact⟨_,rfl⟩
 ·cases h
noncomputable def Xwe(e:Expr):Option (Expr×Operator×Expr):=match e with
 |.BinOp x o y _=>yz (x,o,y)|_=>yy
theorem X00{e:Expr}{z:Expr×Operator×Expr}(h:Xwe e=yz z):∃p,e=.BinOp z.1 z.2.1 z.2.2 p:=by
 unfold Xwe at h;split at h;·cases h;exact⟨_,rfl⟩
 ·cases h
noncomputable def Xde{α:Type}(l:List α):Option α:=match l with
 |[x]=>yz x|_=>yy
theorem Xbb{α:Type}{l:List α}{x:α}(h:Xde l=yz x):l=[x]:=by
 unfold Xde at h;split at h;·cases h;rfl
 ·cases h
noncomputable def Xgu{α:Type}(l:List α):Option (α×α):=match l with
 |[x,y]=>yz (x,y)|_=>yy
theorem Xdo{α:Type}{l:List α}{z:α×α}(h:Xgu l=yz z):l=[z.1,z.2]:=by
 unfold Xgu at h;split at h;·cases h;rfl
 ·cases h
noncomputable def Xq5(e:Expr):Option (Expr×List CmpOp×LX):=match e with
 |.Compare x os ys _=>yz (x,os,ys)|_=>yy
theorem Xpi{e:Expr}{z:Expr×List CmpOp×LX}(h:Xq5 e=yz z):∃p,e=.Compare z.1 z.2.1 z.2.2 p:=by
 unfold Xq5 at h;split at h;·cases h;exact⟨_,rfl⟩
 ·cases h
noncomputable def Xmn(e:Expr):Option (BoolOp×LX×Pos):=match e with
 |.BoolOp o xs p=>yz (o,xs,p)|_=>yy
theorem X01{e:Expr}{z:BoolOp×LX×Pos}(h:Xmn e=yz z):e=.BoolOp z.1 z.2.1 z.2.2:=by
 unfold Xmn at h;split at h;·cases h;rfl
 ·cases h
noncomputable def opA(an:Bool):BoolOp:=if an then .And else .Or
noncomputable def Xq6(an:Bool)(o:BoolOp):Bool:=decide (o=opA an)
theorem X02{an:Bool}{o:BoolOp}(h:Xq6 an o=yx):o=opA an:=oD0 h
noncomputable def Xmo(an:Bool)(p:Pos)(l:LX):Option (Expr×Expr):=match l with
 |[x,y]=>yz (x,y)|x::y::z::r=>yz (x,.BoolOp (opA an) (y::z::r) p)|_=>yy
theorem X03(h:Xmo an p l=yz z):l=[z.1,z.2]\/∃y B r,l=z.1::y::B::r/\z.2=.BoolOp (opA an) (y::B::r) p:=by
 unfold Xmo at h;split at h;·cases h;exact .inl rfl
 ·cases h;exact .inr ⟨_,_,_,rfl,rfl⟩
 cases h
noncomputable def vIf(e:Expr):Option (Expr×Expr×Expr):=match e with
 |.IfExp x y z _=>yz (x,y,z)|_=>yy
theorem X45{e:Expr}{z:Expr×Expr×Expr}(h:vIf e=yz z):∃p,e=.IfExp z.1 z.2.1 z.2.2 p:=by
 unfold vIf at h;split at h;·cases h;exact⟨_,rfl⟩
 ·cases h
noncomputable def Xit(e:Expr):Option (Expr×Expr):=match e with
 |.Subscript x y _=>yz (x,y)|_=>yy
theorem Xfm{e:Expr}{z:Expr×Expr}(h:Xit e=yz z):∃p,e=.Subscript z.1 z.2 p:=by
 unfold Xit at h;split at h;·cases h;exact⟨_,rfl⟩
 ·cases h
noncomputable def Xwf(e:Expr):Option (Option Expr×Option Expr):=match e with
 |.Slice l h yy _=>yz (l,h)|_=>yy
theorem X04(h:Xwf e=yz z):∃p,e=.Slice z.1 z.2 yy p:=by
 unfold Xwf at h;split at h;·cases h;exact⟨_,rfl⟩
 ·cases h
noncomputable def Xa2(e:Expr):Option (Expr×Expr×LX×Pos):=match e with
 |.Call f (y::ys) [] p=>yz (f,y,ys,p)|_=>yy
theorem Xpj{e:Expr}{z:Expr×Expr×LX×Pos}(h:Xa2 e=yz z):e=.Call z.1 (z.2.1::z.2.2.1) [] z.2.2.2:=by
 unfold Xa2 at h;split at h;·cases h;rfl
 ·cases h
noncomputable def Xq7(e:Expr):Option (Expr×Str×Pos):=match e with
 |.Attribute o nm p=>yz (o,nm,p)|_=>yy
theorem X05(h:Xq7 e=yz z):e=.Attribute z.1 z.2.1 z.2.2:=by
 unfold Xq7 at h;split at h;·cases h;rfl
 ·cases h
noncomputable def vLC(e:Expr):Option (Expr×List Vbm×U7):=match e with
 |.ListComp e gens scope _=>yz (e,gens,scope)|_=>yy
noncomputable def vSC(e:Expr):Option (Expr×List Vbm×U7):=match e with
 |.SetComp e gens scope _=>yz (e,gens,scope)|_=>yy
theorem X46{e:Expr}{z:Expr×List Vbm×U7}(h:vSC e=yz z):∃p,e=.SetComp z.1 z.2.1 z.2.2 p:=by
 unfold vSC at h;split at h;·cases h;exact⟨_,rfl⟩
 ·cases h
theorem X47{e:Expr}{z:Expr×List Vbm×U7}(h:vLC e=yz z):∃p,e=.ListComp z.1 z.2.1 z.2.2 p:=by
 unfold vLC at h;split at h;·cases h;exact⟨_,rfl⟩
 ·cases h
section
variable(cm:Bool)(fns:LF)(gns:LS)
noncomputable def mtT(top:Str->Bool)(sc:U7)(N:LS):Tg->Expr->Bool
 |.var i,e=>(vNm e).any λx=>decide (N[i]?=yz x)&&Xmj top sc x|.tup is,e=>(Xis e).any λes=>namesB is es
where namesB:LN->LX->Bool
 |[],[]=>yx
 |i::is,e::es=>((vNm e).any λx=>decide (N[i]?=yz x)&&Xmj top sc x)&&namesB is es
 |_,_=>yw
noncomputable def fnB(f:Nat)(x:Str)(n:Nat):Bool:=match fns[f]? with
 |some (nm,ar,fl)=>decide (nm=x)&&decide (ar=n)&&(cm || !fl)|none=>yw
noncomputable def blB(k:Bl)(x:Str):Bool:=match Xq0 k with
 |some (nm,_,_)=>decide (x=nm)|none=>yw
noncomputable def mtB(k:Mt)(nm:Str):Bool:=match Yaz k with
 |some m=>decide (nm=m)|none=>yw
mutual
noncomputable def mt(sc:U7)(N:LS):Ex->Expr->Bool
 |.nev,_=>yx|.var i,e=>(vNm e).any λx=>decide (N[i]?=yz x)&&Xqw sc x&&Y6 x|.cst d,e=>(Xwb e).any λc=>Xiq d c|.neg a,e=>(vUn e).any λz=>X43 z.1&&mt sc N a z.2|.glb k,e=>(vNm e).any λx=>decide (gns[k]?=yz x)&&glB sc x&&Y6 x|.tup es,e=>(Xis e).any λxs=>mts sc N es xs|.lst es,e=>(Xwc e).any λxs=>mts sc N es xs|.dct0,e=>Xwd e|.isi a ts,e=>(Xa2 e).any λz=>(vNm z.1).any λ(f:Str)=>decide (f="isinstance")&&glB sc f&&Yn z.2.1&&mt sc N a z.2.1&&(Xde z.2.2.1).any λy=>tyM sc ts y|.bin op a b,e=>(Xwe e).any λz=>X41 op z.2.1&&mt sc N a z.1&&mt sc N b z.2.2|.cmp op a b,e=>(Xq5 e).any λz=>(Xde z.2.1).any λo=>(Xde z.2.2).any λy=>Xqz op o && !(behindInMarks (opC op) y)&&mt sc N a z.1&&mt sc N b y|.chn o1 o2 a b c,e=>(Xq5 e).any λz=>(Xgu z.2.1).any λo=>(Xgu z.2.2).any λy=>Xqz o1 o.1&&Xqz o2 o.2 && !(lastMarks [opC o1,opC o2] [y.1,y.2])&&mt sc N a z.1&&mt sc N b y.1&&mt sc N c y.2|.and a b,e=>(Xmn e).any λz=>Xq6 yx z.1&&(Xmo yx z.2.2 z.2.1).any λy=>mt sc N a y.1&&mt sc N b y.2|.or a b,e=>(Xmn e).any λz=>Xq6 yw z.1&&(Xmo yw z.2.2 z.2.1).any λy=>mt sc N a y.1&&mt sc N b y.2|.not a,e=>(vUn e).any λz=>X44 z.1&&mt sc N a z.2|.ite c a b,e=>(vIf e).any λz=>mt sc N c z.1&&mt sc N a z.2.1&&mt sc N b z.2.2|.idx a i,e=>(Xit e).any λz=>Xdm z.2&&mt sc N a z.1&&mt sc N i z.2|.call f es,e=>(Xa2 e).any λz=>(vNm z.1).any λx=>fnB cm fns f x (z.2.1::z.2.2.1).length&&glB sc x&&Y6 x&&mts sc N es (z.2.1::z.2.2.1)|.blt k es,e=>(Xa2 e).any λz=>(vNm z.1).any λx=>blB k x&&(cm||Xq1 k)&&glB sc x&&Y6 x&&mts sc N es (z.2.1::z.2.2.1)|.mth k o es,e=>(Xa2 e).any λz=>(Xq7 z.1).any λx=>mtB k x.2.1&&Xqy x.1&&(x.2.2.endLine==z.2.2.2.line)&&decide ((z.2.1::z.2.2.1).length<29)&&mt sc N o x.1&&mts sc N es (z.2.1::z.2.2.1)|.cmr k n gs elt,e=>(vLC e).any λz=>cm && !k&&decide ((X6 z.2.2).length=n)&&scB sc z.2.2 N&&mtG sc N (Xbl z.2.2 sc) (Yt N (X6 z.2.2)) gs z.2.1&&mt (Xbl z.2.2 sc) (Yt N (X6 z.2.2)) elt z.1|.sli a lo hi,e=>(Xit e).any λz=>(Xwf z.2).any λy=>mt sc N a z.1&&mto sc N lo y.1&&mto sc N hi y.2|.rev a,e=>(Xit e).any λz=>Xq4 1 yy z.2&&mt sc N a z.1|.sst a,e=>(Xa2 e).any λz=>(vNm z.1).any λ(x:Str)=>decide (x="sorted")&&cm&&glB sc x&&z.2.2.1.isEmpty&&(Xa2 z.2.1).any λy=>(vNm y.1).any λ(B:Str)=>decide (B="set")&&glB sc B&&y.2.2.1.isEmpty&&Yn y.2.1&&mt sc N a y.2.1|.cms n gs elt,e=>(Xa2 e).any λy=>(vNm y.1).any λ(x:Str)=>decide (x="sorted")&&glB sc x&&y.2.2.1.isEmpty&&(vSC y.2.1).any λz=>cm&&decide ((X6 z.2.2).length=n)&&scB sc z.2.2 N&&mtG sc N (Xbl z.2.2 sc) (Yt N (X6 z.2.2)) gs z.2.1&&mt (Xbl z.2.2 sc) (Yt N (X6 z.2.2)) elt z.1|.lrg t (.cons a .nil),e=>(Xa2 e).any λz=>(vNm z.1).any λ(x:Str)=>decide (x=lrN t)&&cm&&glB sc x&&z.2.2.1.isEmpty&&(Xa2 z.2.1).any λy=>(vNm y.1).any λ(B:Str)=>decide (B="range")&&glB sc B&&y.2.2.1.isEmpty&&Yn y.2.1&&mt sc N a y.2.1|.lrg _ _,_=>yw
noncomputable def mto(sc:U7)(N:LS):Op->Option Expr->Bool
 |.none,yy=>yx|.some e,yz x=>mt sc N e x|_,_=>yw
noncomputable def mts(sc:U7)(N:LS):Exs->LX->Bool
 |.nil,[]=>yx|.cons e es,x::xs=>Yn x&&mt sc N e x&&mts sc N es xs|_,_=>yw
noncomputable def mtG(sc:U7)(N:LS)(sc2:U7)(N2:LS):Gens->List Vbm->Bool
 |.nil,_=>yw|.cons t it ifs gs,l=>match l with
  |[]=>yw|c::r=>(c.is_async==0)&&Xb6 c.iter&&mtT (Xbm N N2) sc2 N2 t c.target&&mtI sc N it c.iter&&mts sc2 N2 ifs c.ifs&&Xey t it&&match gs with
   |.nil=>r.isEmpty|.cons t2 it2 ifs2 B=>match r with
    |[]=>yw|c2::r2=>(c2.is_async==0)&&Xb6 c2.iter&&mtT (Xbm N N2) sc2 N2 t2 c2.target&&mtI sc2 N2 it2 c2.iter&&mts sc2 N2 ifs2 c2.ifs&&Xey t2 it2&&r2.isEmpty&&match B with
     |.nil=>yx|.cons ..=>yw
noncomputable def mtI(sc:U7)(N:LS):It->Expr->Bool
 |.val e,x=>mt sc N e x|.rng es,e=>(Xa2 e).any λz=>(vNm z.1).any λ(x:Str)=>decide (x="range")&&glB sc x&&mts sc N es (z.2.1::z.2.2.1)|.zpp es,e=>(Xa2 e).any λz=>(vNm z.1).any λ(x:Str)=>decide (x="zip")&&glB sc x&&mts sc N es (z.2.1::z.2.2.1)
end
end
section
variable{cm:Bool}{fns:LF}{gns:LS}{sc sc2:U7}{N N2:LS}{t t2:Tg}{it it2:It}{ifs ifs2:Exs}
theorem X9a(h:mtG cm fns gns sc N sc2 N2 .nil gens=yx):False:=by cases h
theorem X9b(h:mtG cm fns gns sc N sc2 N2 (.cons t it ifs .nil) gens=yx):∃tg iter B,gens=[⟨tg,iter,B,0⟩]/\Xb6 iter=yx/\mtT (Xbm N N2) sc2 N2 t tg=yx/\mtI cm fns gns sc N it iter=yx/\mts cm fns gns sc2 N2 ifs B=yx/\Xey t it=true:=by
 cases gens with
 |nil=>cases h|cons c r=>obtain⟨tg,iter,B,a⟩:=c;simp only[mtG,bA0,beq_iff_eq,Va5]at h;obtain⟨⟨⟨⟨⟨⟨h1,h2⟩,Y⟩,J⟩,h5⟩,L⟩,U⟩:=h;subst h1 U;exact⟨tg,iter,B,rfl,h2,Y,J,h5,L⟩
theorem X9c(h:mtG cm fns gns sc N sc2 N2 (.cons t it ifs (.cons t2 it2 ifs2 .nil)) gens=yx):∃tg iter U J B L,gens=[⟨tg,iter,U,0⟩,⟨J,B,L,0⟩]/\Xb6 iter=yx/\Xb6 B=yx/\mtT (Xbm N N2) sc2 N2 t tg=yx/\mtI cm fns gns sc N it iter=yx/\mts cm fns gns sc2 N2 ifs U=yx/\mtT (Xbm N N2) sc2 N2 t2 J=yx/\mtI cm fns gns sc2 N2 it2 B=yx/\mts cm fns gns sc2 N2 ifs2 L=yx/\Xey t it=yx/\Xey t2 it2=true:=by
 cases gens with
 |nil=>cases h|cons c r=>
  obtain⟨tg,iter,U,a⟩:=c;cases r with
  |nil=>simp only[mtG,Vcf,Vp]at h|cons c2 r=>obtain⟨J,B,L,a2⟩:=c2;simp only[mtG,bA0,beq_iff_eq,Va5]at h;obtain⟨⟨⟨⟨⟨⟨h1,h3⟩,h5⟩,h6⟩,h7⟩,Y⟩,⟨⟨⟨⟨⟨⟨h2,h4⟩,h8⟩,h9⟩,ab⟩,aa⟩,ac⟩,_⟩:=h;subst h1 h2 ac;exact⟨tg,iter,U,J,B,L,rfl,h3,h4,h5,h6,h7,h8,h9,ab,Y,aa⟩
theorem X9d(h:mtG cm fns gns sc N sc2 N2 (.cons t it ifs (.cons t2 it2 ifs2 (.cons t3 it3 ifs3 gs3))) gens=yx):False:=by
 cases gens with
 |nil=>cases h|cons c r=>cases r<;>simp only[mtG,Vcf,Vp]at h
theorem Xa4{e:Expr}{q:Expr×Expr×LX×Pos->Str->Bool}(h:((Xa2 e).any λz=>(vNm z.1).any λx=>q z x)=yx):∃x p y ys B,e=.Call (.Name x p) (y::ys) [] B/\q (.Name x p,y,ys,B) x=true:=by obtain⟨⟨f,y,ys,B⟩,h1,h2⟩:=Xe h;obtain⟨x,U,L⟩:=Xe h2;have e1:=Xpj h1;subst e1;have J:vNm f=yz x:=U;obtain⟨p,Y⟩:=Xbn J;subst Y;exact⟨x,p,y,ys,B,rfl,L⟩
theorem X48{i:Nat}{e:Expr}(h:mt cm fns gns sc N (.var i) e=yx):∃x p,e=.Name x p/\N[i]?=yz x/\Xqw sc x=yx/\Y6 x=true:=by simp only[mt]at h;obtain⟨x,h1,h2⟩:=Xe h;obtain⟨p,rfl⟩:=Xbn h1;simp only[bA0,decide_eq_true_eq]at h2;exact⟨x,p,rfl,h2.1.1,h2.1.2,h2.2⟩
theorem X49{d:D}{e:Expr}(h:mt cm fns gns sc N (.cst d) e=yx):∃c k p,e=.Constant c k p/\Xiq d c=true:=by simp only[mt]at h;obtain⟨c,h1,h2⟩:=Xe h;obtain⟨k,p,rfl⟩:=X0v h1;exact⟨c,k,p,rfl,h2⟩
theorem X5a{a:Ex}{e:Expr}(h:mt cm fns gns sc N (.neg a) e=yx):∃x p,e=.UnaryOp .USub x p/\mt cm fns gns sc N a x=true:=by simp only[mt]at h;obtain⟨⟨o,x⟩,h1,h2⟩:=Xe h;obtain⟨p,rfl⟩:=Xte h1;rw[bA0]at h2;have B:=X0w h2.1;dsimp only at B;subst B;exact⟨x,p,rfl,h2.2⟩
theorem X5b{a:Ex}{e:Expr}(h:mt cm fns gns sc N (.not a) e=yx):∃x p,e=.UnaryOp .Not x p/\mt cm fns gns sc N a x=true:=by simp only[mt]at h;obtain⟨⟨o,x⟩,h1,h2⟩:=Xe h;obtain⟨p,rfl⟩:=Xte h1;rw[bA0]at h2;have B:=X0x h2.1;dsimp only at B;subst B;exact⟨x,p,rfl,h2.2⟩
theorem X5c{k:Nat}{e:Expr}(h:mt cm fns gns sc N (.glb k) e=yx):∃x p,e=.Name x p/\gns[k]?=yz x/\glB sc x=yx/\Y6 x=true:=by simp only[mt]at h;obtain⟨x,h1,h2⟩:=Xe h;obtain⟨p,rfl⟩:=Xbn h1;simp only[bA0,decide_eq_true_eq]at h2;exact⟨x,p,rfl,h2.1.1,h2.1.2,h2.2⟩
theorem X5d{es:Exs}{e:Expr}(h:mt cm fns gns sc N (.tup es) e=yx):∃xs k p,e=.Tuple xs k p/\mts cm fns gns sc N es xs=true:=by simp only[mt]at h;obtain⟨x,h1,h2⟩:=Xe h;obtain⟨k,p,rfl⟩:=Xcm h1;exact⟨x,k,p,rfl,h2⟩
theorem X5e{es:Exs}{e:Expr}(h:mt cm fns gns sc N (.lst es) e=yx):∃xs p,e=.List xs p/\mts cm fns gns sc N es xs=true:=by simp only[mt]at h;obtain⟨x,h1,h2⟩:=Xe h;obtain⟨p,rfl⟩:=X0y h1;exact⟨x,p,rfl,h2⟩
theorem X06(h:mt cm fns gns sc N .dct0 e=yx):∃p,e=.Dict [] [] p:=by simp only[mt]at h;exact X0z h
theorem X5f{op:Bo}{a b:Ex}{e:Expr}(h:mt cm fns gns sc N (.bin op a b) e=yx):∃x y p,e=.BinOp x (opB op) y p/\mt cm fns gns sc N a x=yx/\mt cm fns gns sc N b y=true:=by simp only[mt]at h;obtain⟨⟨x,o,y⟩,h1,h2⟩:=Xe h;obtain⟨p,rfl⟩:=X00 h1;simp only[bA0]at h2;have B:=X0u h2.1.1;subst B;exact⟨x,y,p,rfl,h2.1.2,h2.2⟩
theorem X5g{op:Co}{a b:Ex}{e:Expr}(h:mt cm fns gns sc N (.cmp op a b) e=yx):∃x y p,e=.Compare x [opC op] [y] p/\behindInMarks (opC op) y=yw/\mt cm fns gns sc N a x=yx/\mt cm fns gns sc N b y=true:=by simp only[mt]at h;obtain⟨⟨x,os,ys⟩,h1,h2⟩:=Xe h;obtain⟨o,L,J⟩:=Xe h2;obtain⟨y,h5,B⟩:=Xe J;obtain⟨p,rfl⟩:=Xpi h1;have e1:os=[o]:=Xbb L;have U:ys=[y]:=Xbb h5;subst e1 U;simp only[bA0,Vav]at B;have Y:=Xip B.1.1.1;subst Y;exact⟨x,y,p,rfl,B.1.1.2,B.1.2,B.2⟩
theorem X5h{J B:Co}{a b c:Ex}{e:Expr}(h:mt cm fns gns sc N (.chn J B a b c) e=yx):∃x y z p,e=.Compare x [opC J,opC B] [y,z] p/\lastMarks [opC J,opC B] [y,z]=yw/\mt cm fns gns sc N a x=yx/\mt cm fns gns sc N b y=yx/\mt cm fns gns sc N c z=true:=by simp only[mt]at h;obtain⟨⟨x,os,ys⟩,h1,h2⟩:=Xe h;obtain⟨⟨p1,p2⟩,h3,h4⟩:=Xe h2;obtain⟨⟨y,z⟩,h5,L⟩:=Xe h4;obtain⟨p,rfl⟩:=Xpi h1;have e1:os=[p1,p2]:=Xdo h3;have e2:ys=[y,z]:=Xdo h5;subst e1 e2;rw[bA0,bA0,bA0,bA0,bA0,Vav]at L;obtain⟨⟨⟨⟨⟨k1,k2⟩,k3⟩,k4⟩,k5⟩,k6⟩:=L;have U:=Xip k1;have Y:=Xip k2;dsimp only at U Y;subst U Y;exact⟨x,y,z,p,rfl,k3,k4,k5,k6⟩
theorem Xpk{an:Bool}{a b:Ex}{e:Expr}(h:((Xmn e).any λz=>Xq6 an z.1&&(Xmo an z.2.2 z.2.1).any λy=>mt cm fns gns sc N a y.1&&mt cm fns gns sc N b y.2)=yx):
  (∃x y p,e=.BoolOp (opA an) [x,y] p/\mt cm fns gns sc N a x=yx/\mt cm fns gns sc N b y=yx)\/∃x y z r p,e=.BoolOp (opA an) (x::y::z::r) p/\mt cm fns gns sc N a x=yx/\mt cm fns gns sc N b (.BoolOp (opA an) (y::z::r) p)=true:=by
 obtain⟨⟨o,xs,p⟩,h1,h2⟩:=Xe h;have e1:=X01 h1;subst e1;rw[bA0]at h2;have L:=X02 h2.1;dsimp only at L;subst L;obtain⟨⟨x,y⟩,h3,B⟩:=Xe h2.2;rw[bA0]at B;rcases X03 h3 with J|⟨y1,Y,r,J,U⟩;·dsimp only at J;subst J;exact .inl ⟨x,y,p,rfl,B.1,B.2⟩
 ·dsimp only at J U;subst J U;exact .inr ⟨x,y1,Y,r,p,rfl,B.1,B.2⟩
theorem X5i(h:mt cm fns gns sc N (.and a b) e=yx):(∃x y p,e=.BoolOp .And [x,y] p/\mt cm fns gns sc N a x=yx/\mt cm fns gns sc N b y=yx)\/∃x y z r p,e=.BoolOp .And (x::y::z::r) p/\mt cm fns gns sc N a x=yx/\mt cm fns gns sc N b (.BoolOp .And (y::z::r) p)=true:=by simp only[mt]at h;exact Xpk (an:=yx) h
theorem X9e(h:mt cm fns gns sc N (.or a b) e=yx):(∃x y p,e=.BoolOp .Or [x,y] p/\mt cm fns gns sc N a x=yx/\mt cm fns gns sc N b y=yx)\/∃x y z r p,e=.BoolOp .Or (x::y::z::r) p/\mt cm fns gns sc N a x=yx/\mt cm fns gns sc N b (.BoolOp .Or (y::z::r) p)=true:=by simp only[mt]at h;exact Xpk (an:=yw) h
theorem X5j{c a b:Ex}{e:Expr}(h:mt cm fns gns sc N (.ite c a b) e=yx):∃x y z p,e=.IfExp x y z p/\mt cm fns gns sc N c x=yx/\mt cm fns gns sc N a y=yx/\mt cm fns gns sc N b z=true:=by simp only[mt]at h;obtain⟨⟨x,y,z⟩,h1,h2⟩:=Xe h;obtain⟨p,rfl⟩:=X45 h1;simp only[bA0]at h2;exact⟨x,y,z,p,rfl,h2.1.1,h2.1.2,h2.2⟩
theorem X5k{a i:Ex}{e:Expr}(h:mt cm fns gns sc N (.idx a i) e=yx):∃x y p,e=.Subscript x y p/\Xdm y=yx/\mt cm fns gns sc N a x=yx/\mt cm fns gns sc N i y=true:=by simp only[mt]at h;obtain⟨⟨x,y⟩,h1,h2⟩:=Xe h;obtain⟨p,rfl⟩:=Xfm h1;simp only[bA0]at h2;exact⟨x,y,p,rfl,h2.1.1,h2.1.2,h2.2⟩
theorem Xtf{k:Bool}{n:Nat}{gs:Gens}{elt:Ex}{e:Expr}(h:mt cm fns gns sc N (.cmr k n gs elt) e=yx):∃B gens scope p,e=.ListComp B gens scope p/\cm=yx/\k=yw/\(X6 scope).length=n/\scB sc scope N=yx/\mtG cm fns gns sc N (Xbl scope sc) (Yt N (X6 scope)) gs gens=yx/\mt cm fns gns (Xbl scope sc) (Yt N (X6 scope)) elt B=true:=by simp only[mt]at h;obtain⟨⟨B,gens,scope⟩,h1,h2⟩:=Xe h;obtain⟨p,rfl⟩:=X47 h1;simp only[bA0,decide_eq_true_eq,Vav]at h2;obtain⟨⟨⟨⟨⟨U,h1⟩,h2⟩,L⟩,J⟩,Y⟩:=h2;exact⟨B,gens,scope,p,rfl,U,h1,h2,L,J,Y⟩
theorem X5l{t:Bool}(h:mt cm fns gns sc N (.lrg t (.cons a .nil)) e=yx):∃p p2 x cp B,e=.Call (.Name (lrN t) p) [.Call (.Name "range" p2) [x] [] B] [] cp/\cm=yx/\glB sc (lrN t)=yx/\glB sc "range"=yx/\Yn x=yx/\mt cm fns gns sc N a x=true:=by simp only[mt]at h;obtain⟨x,p,y,ys,cp,rfl,h1⟩:=Xa4 h;rw[bA0,bA0,bA0,bA0]at h1;obtain⟨⟨⟨⟨e1,e2⟩,e3⟩,e4⟩,h2⟩:=h1;obtain⟨x2,p2,y2,aa,B,rfl,h3⟩:=Xa4 h2;rw[bA0,bA0,bA0,bA0]at h3;obtain⟨⟨⟨⟨f1,f2⟩,f3⟩,f4⟩,f5⟩:=h3;have Y:=oD0 e1;have U:=oD0 f1;subst Y U;have L:=Va5.mp e4;have J:=Va5.mp f3;dsimp only at L J;subst L J;exact⟨p,p2,y2,cp,B,rfl,e2,e3,f2,f4,f5⟩
theorem X5m(h:mt cm fns gns sc N (.sst a) e=yx):∃p p2 x cp B,e=.Call (.Name "sorted" p) [.Call (.Name "set" p2) [x] [] B] [] cp/\cm=yx/\glB sc "sorted"=yx/\glB sc "set"=yx/\Yn x=yx/\mt cm fns gns sc N a x=true:=by simp only[mt]at h;obtain⟨x,p,y,ys,cp,rfl,h1⟩:=Xa4 h;rw[bA0,bA0,bA0,bA0]at h1;obtain⟨⟨⟨⟨e1,e2⟩,e3⟩,e4⟩,h2⟩:=h1;obtain⟨x2,p2,y2,aa,B,rfl,h3⟩:=Xa4 h2;rw[bA0,bA0,bA0,bA0]at h3;obtain⟨⟨⟨⟨f1,f2⟩,f3⟩,f4⟩,f5⟩:=h3;have Y:=oD0 e1;have U:=oD0 f1;subst Y U;have L:=Va5.mp e4;have J:=Va5.mp f3;dsimp only at L J;subst L J;exact⟨p,p2,y2,cp,B,rfl,e2,e3,f2,f4,f5⟩
theorem X5n{n:Nat}{gs:Gens}{elt:Ex}{e:Expr}(h:mt cm fns gns sc N (.cms n gs elt) e=yx):∃Y J gens scope p U,e=.Call (.Name "sorted" Y) [.SetComp J gens scope p] [] U/\glB sc "sorted"=yx/\cm=yx/\(X6 scope).length=n/\scB sc scope N=yx/\mtG cm fns gns sc N (Xbl scope sc) (Yt N (X6 scope)) gs gens=yx/\mt cm fns gns (Xbl scope sc) (Yt N (X6 scope)) elt J=true:=by simp only[mt]at h;obtain⟨x,Y,y,ys,U,rfl,h1⟩:=Xa4 h;rw[bA0,bA0,bA0]at h1;obtain⟨⟨⟨e1,e2⟩,e3⟩,h2⟩:=h1;have L:=oD0 e1;subst L;have B:=Va5.mp e3;dsimp only at B;subst B;obtain⟨⟨J,gens,scope⟩,h3,h4⟩:=Xe h2;obtain⟨p,rfl⟩:=X46 h3;simp only[bA0,decide_eq_true_eq]at h4;obtain⟨⟨⟨⟨h5,h6⟩,h7⟩,h8⟩,h9⟩:=h4;exact⟨Y,J,gens,scope,p,U,rfl,e2,h5,h6,h7,h8,h9⟩
theorem X5o(h:mt cm fns gns sc N (.blt k es) e=yx):∃x p y ys B,e=.Call (.Name x p) (y::ys) [] B/\blB k x=yx/\(cm||Xq1 k)=yx/\glB sc x=yx/\Y6 x=yx/\mts cm fns gns sc N es (y::ys)=true:=by simp only[mt]at h;obtain⟨x,p,y,ys,B,rfl,h1⟩:=Xa4 h;rw[bA0,bA0,bA0,bA0]at h1;exact⟨x,p,y,ys,B,rfl,h1.1.1.1.1,h1.1.1.1.2,h1.1.1.2,h1.1.2,h1.2⟩
theorem X07{k:Nat}(h:mt cm fns gns sc N (.call k es) e=yx):∃x p y ys B,e=.Call (.Name x p) (y::ys) [] B/\(∃fl,fns[k]?=yz (x,(y::ys).length,fl)/\(fl=yx->cm=yx))/\glB sc x=yx/\Y6 x=yx/\mts cm fns gns sc N es (y::ys)=true:=by
 simp only[mt]at h;obtain⟨x,p,y,ys,B,rfl,h1⟩:=Xa4 h;rw[bA0,bA0,bA0]at h1;refine⟨x,p,y,ys,B,rfl,?_,h1.1.1.2,h1.1.2,h1.2⟩;have h2:=h1.1.1.1;unfold fnB at h2;split at h2;·rename_i nm J fl e;simp only[bA0,decide_eq_true_eq,Vc5,Vav]at h2;obtain⟨⟨rfl,rfl⟩,h2⟩:=h2;exact⟨fl,e,λz=>by rcases h2 with h2|h2;exact h2;rw[z]at h2;cases h2⟩
 ·cases h2
theorem X5p{k:Mt}{o:Ex}{es:Exs}{e:Expr}(h:mt cm fns gns sc N (.mth k o es) e=yx):∃J nm L y ys U,e=.Call (.Attribute J nm L) (y::ys) [] U/\mtB k nm=yx/\Xqy J=yx/\(L.endLine==U.line)=yx/\(y::ys).length<29/\mt cm fns gns sc N o J=yx/\mts cm fns gns sc N es (y::ys)=true:=by simp only[mt]at h;obtain⟨⟨f,y,ys,U⟩,h1,h2⟩:=Xe h;obtain⟨⟨J,nm,L⟩,h3,B⟩:=Xe h2;have e1:=Xpj h1;subst e1;have Y:Xq7 f=yz (J,nm,L):=h3;have e2:=X05 Y;subst e2;rw[bA0,bA0,bA0,bA0,bA0]at B;exact⟨J,nm,L,y,ys,U,rfl,B.1.1.1.1.1,B.1.1.1.1.2,B.1.1.1.2,oD0 B.1.1.2,B.1.2,B.2⟩
theorem X5q{a:Ex}{L:List Ty}{e:Expr}(h:mt cm fns gns sc N (.isi a L) e=yx):∃p0 x y B,e=.Call (.Name "isinstance" p0) [x,y] [] B/\glB sc "isinstance"=yx/\Yn x=yx/\mt cm fns gns sc N a x=yx/\tyM sc L y=true:=by simp only[mt]at h;obtain⟨f,p,y,ys,B,rfl,h1⟩:=Xa4 h;rw[bA0,bA0,bA0,bA0]at h1;obtain⟨⟨⟨⟨h2,h3⟩,U⟩,h5⟩,Y⟩:=h1;have e1:f="isinstance":=oD0 h2;subst e1;obtain⟨J,h7,h8⟩:=Xe Y;have e2:ys=[J]:=Xbb h7;subst e2;exact⟨p,y,J,B,rfl,h3,U,h5,h8⟩
theorem X5r(h:tyM sc ts y=yx):(∃t nm p,ts=[t]/\y=.Name nm p/\glB sc nm=yx/\Y6 nm=yx/\tyB sc t nm=yx) \/
  ∃Y t2 L J p1 p2 k p,ts=[Y,t2]/\y=.Tuple [.Name L p1,.Name J p2] k p/\glB sc L=yx/\Y6 L=yx/\glB sc J=yx/\Y6 J=yx/\Xmk Y=yx/\Xmk t2=yx/\tyB sc Y L=yx/\tyB sc t2 J=true:=by
 unfold tyM at h;split at h
 ·simp only[bA0]at h;obtain⟨⟨h1,h2⟩,B⟩:=h;split at B;·exact .inl ⟨_,_,_,rfl,rfl,h1,h2,B⟩
  ·cases B
 ·split at h
  ·simp only[bA0]at h;obtain⟨⟨⟨⟨h1,h2⟩,B⟩,h4⟩,U⟩:=h;split at U;·simp only[bA0]at U;obtain⟨⟨⟨h6,h7⟩,h8⟩,h9⟩:=U;exact .inr ⟨_,_,_,_,_,_,_,_,rfl,rfl,h1,h2,B,h4,h6,h7,h8,h9⟩
   ·cases U
  cases h
 ·cases h
theorem X5s{a:Ex}{lo hi:Op}{e:Expr}(h:mt cm fns gns sc N (.sli a lo hi) e=yx):∃x l u p2 p,e=.Subscript x (.Slice l u yy p2) p/\mt cm fns gns sc N a x=yx/\mto cm fns gns sc N lo l=yx/\mto cm fns gns sc N hi u=true:=by simp only[mt]at h;obtain⟨⟨x,y⟩,h1,h2⟩:=Xe h;obtain⟨⟨l,u⟩,L,B⟩:=Xe h2;obtain⟨p,rfl⟩:=Xfm h1;obtain⟨p2,J⟩:=X04 L;dsimp only at J;subst J;simp only[bA0]at B;exact⟨x,l,u,p2,p,rfl,B.1.1,B.1.2,B.2⟩
theorem Xy2{w:Str}{es:Exs}{e:Expr}(h:((Xa2 e).any λz=>(vNm z.1).any λx=>decide (x=w)&&glB sc x&&mts cm fns gns sc N es (z.2.1::z.2.2.1))=yx):∃p y ys B,e=.Call (.Name w p) (y::ys) [] B/\glB sc w=yx/\mts cm fns gns sc N es (y::ys)=true:=by obtain⟨x,p,y,ys,B,rfl,h1⟩:=Xa4 h;rw[bA0,bA0]at h1;have J:x=w:=oD0 h1.1.1;subst J;exact⟨p,y,ys,B,rfl,h1.1.2,h1.2⟩
theorem X08(h:mtI cm fns gns sc N (.zpp es) e=yx):∃p y ys B,e=.Call (.Name "zip" p) (y::ys) [] B/\glB sc "zip"=yx/\mts cm fns gns sc N es (y::ys)=true:=by simp only[mtI]at h;exact Xy2 h
theorem X09(h:mtI cm fns gns sc N (.rng es) e=yx):∃p y ys B,e=.Call (.Name "range" p) (y::ys) [] B/\glB sc "range"=yx/\mts cm fns gns sc N es (y::ys)=true:=by simp only[mtI]at h;exact Xy2 h
theorem X5t{a:Ex}{e:Expr}(h:mt cm fns gns sc N (.rev a) e=yx):∃x y p,e=.Subscript x y p/\Xq4 1 yy y=yx/\mt cm fns gns sc N a x=true:=by simp only[mt]at h;obtain⟨⟨x,y⟩,h1,h2⟩:=Xe h;obtain⟨p,rfl⟩:=Xfm h1;rw[bA0]at h2;exact⟨x,y,p,rfl,h2.1,h2.2⟩
theorem Xhn{top:Str->Bool}{tg:Expr}(h1:Xey t it=yx)(h2:mtT top sc N t tg=yx)(B:Xq3 it=yx):∃es k p,tg=.Tuple es k p:=by
 unfold Xey at h1;rw[B]at h1;cases t with
 |var i=>cases h1|tup is=>simp only[mtT]at h2;obtain⟨es,J,_⟩:=Xe h2;obtain⟨k,p,rfl⟩:=Xcm J;exact⟨es,k,p,rfl⟩
end
noncomputable def blts:LS:=["len","tuple","list","all","any","sum","max","min","range","isinstance","sorted","set","str","repr","zip","enumerate","abs","ValueError","int","bool","dict"]
noncomputable def bmV:LV:=[.type "ValueError",.type "Exception",.type "BaseException",.type "object"]
noncomputable def Xwg:Data->Option ClassData
 |.cls B=>yz B|_=>yy
theorem X1a{d:Data}{B:ClassData}(h:Xwg d=yz B):d=.cls B:=by cases d<;>cases h<;>rfl
noncomputable def Xmp(K:Vj)(C:Addr):Bool:=match K.lookup C with
 |none=>yw|some o=>match Xwg o.data with
  |none=>yw|some B=>o.cls == .type "type" && B.mro == .ref C::B.mro.tail&&o.slots == #[o.slots.getD 0 yy,o.slots.getD 1 yy,o.slots.getD 2 yy,o.slots.getD 3 yy,yz (.builtin "ValueError.__new__"),o.slots.getD 5 yy] && !B.hasDel&&PySem.W.tailIn K bmV B.mro.tail&&PySem.W.nsOkIn K B.ns&&Va7 K B.ns "__init__" == yz yy
noncomputable def Xwh(K:Vj):Bool:=
 (K.lookup Vcu).isSome&&PySem.W.specialIn K (.builtin "object.__class__") "__get__" == yz (yz (.builtin "getset_descriptor.__get__"))&&PySem.W.takesIn K (.builtin "object.__class__")==yz yx &&
 (Vs clsNames.length).all λc=>match Y9 K c with
  |some C=>Xmp K C&&(Vex K (.ref C) "__getattribute__" == yz (yz (.builtin "BaseException.__getattribute__"))&&Vex K (.ref C) "__getattr__" == yz yy&&PySem.W.mroIn K C (.type "BaseException")==yz yx)&&(PySem.W.clsIn K C).isSome&&Vex K (.ref C) "__class__" == yz (yz (.builtin "object.__class__"))&&PySem.W.mroIn K C (.type "object")==yz yx &&
   Vfv K (.ref C) (.type "ValueError")==yz yx&&(Vs clsNames.length).all λc0=>match Y9 K c0 with
    |some B=>Vfv K (.ref C) (.ref B)==yz (c0==0||c0==c)&&(!(c0==0||c0==c)||PySem.W.exmOne K (.ref C) (.ref B)==yz yx)|none=>yx
  |none=>(Xbi c).isNone
structure ErrOk(K:Vj):Prop where
 sm:∃o,K.lookup Vcu=yz o
 gt:PySem.W.specialIn K (.builtin "object.__class__") "__get__"=yz (yz (.builtin "getset_descriptor.__get__"))
 tk:PySem.W.takesIn K (.builtin "object.__class__")=yz yx
 at_:∀c nm,Xbi c=yz nm->∃C,Y9 K c=yz C/\Va7 K Uf nm=yz (yz (.ref C))
 cls:∀c C,Y9 K c=yz C->Xmp K C=yx/\(Vex K (.ref C) "__getattribute__"=yz (yz (.builtin "BaseException.__getattribute__"))/\Vex K (.ref C) "__getattr__"=yz yy/\PySem.W.mroIn K C (.type "BaseException")=yz yx)/\(PySem.W.clsIn K C).isSome=yx/\Vex K (.ref C) "__class__"=yz (yz (.builtin "object.__class__"))/\PySem.W.mroIn K C (.type "object")=yz yx/\Vfv K (.ref C) (.type "ValueError")=yz yx
 sub:∀c C c0 C0,Y9 K c=yz C->Y9 K c0=yz C0->Vfv K (.ref C) (.ref C0)=yz (c0==0||c0==c)/\((c0==0||c0==c)=yx->PySem.W.exmOne K (.ref C) (.ref C0)=yz yx)
theorem Xgv{K:Vj}{c:Nat}{C:Addr}(h:Y9 K c=yz C):c<lf clsNames:=by
 unfold Y9 at h;cases q:Xbi c with
 |none=>rw[q]at h;cases h|some _=>exact Xlu q
theorem X1b{K:Vj}(h:Xwh K=yx):ErrOk K:=by
 simp only[Xwh,bA0,beq_iff_eq,Uk,U6]at h;obtain⟨⟨⟨h0,h1⟩,h2⟩,L⟩:=h;refine⟨Vc4.mp h0,h1,h2,λc nm e=>?_,λc C e=>?_,λc C c0 C0 e Y=>?_⟩
 ·have:=L c (Xlu e);split at this
  ·rename_i C q;refine⟨C,q,?_⟩;unfold Y9 at q;rw[e,Vq]at q;split at q;·rename_i q2;cases q;exact q2
   ·cases q
  rw[e]at this;cases this
 ·have:=L c (Xgv e);rw[e]at this;simp only[bA0,beq_iff_eq]at this;obtain⟨⟨⟨⟨⟨⟨a1,⟨⟨a2,U⟩,B⟩⟩,a3⟩,a4⟩,a5⟩,a6⟩,_⟩:=this;exact⟨a1,⟨a2,U,B⟩,a3,a4,a5,a6⟩
 have:=L c (Xgv e);rw[e]at this;simp only[bA0,beq_iff_eq,Uk,U6]at this;have z:=this.2 c0 (Xgv Y);rw[Y]at z;simp only[bA0,beq_iff_eq,Vc5,Vav]at z;refine⟨z.1,λy=>?_⟩;rcases z.2 with J|J;·rw[y]at J;cases J
 ·exact J
end Z
end
section
namespace Z
open PySem PySem.Spec PySem.Calls PyProof.Rows L2 PySem.W Builtin Builtin.ObjectAttr Builtin.Getset_descriptor
section
variable{prog:V4}{w:Ua}{A:Uu}{E:VP}{K:Frag}{y D:Addr}
theorem Xct(e:ExcO D y h):Looks M h (typeOf (.ref y)) (.ref D):=by obtain⟨ob,_,_,q,B,_⟩:=e;exact B▸(Looks.ld q).andThen .now
theorem X1c {R:Result->Vc->Prop} (B:K.In s.heap) (e:ExcO D y s.heap) (J:mroIn K D (.type "object")=yz yx) (q:R (.ok (.ret (.ref D))) s):
  Vcy (Vl prog w) A (.call (.builtin "getset_descriptor.__get__") ⟨[.builtin "object.__class__",.ref y,tv],[]⟩) R s:=by
 obtain⟨hp,Y,U,tk,os⟩:=s;have L:=Xct (M:=Vl prog w) e;have T1:=looks_mroIn (M:=Vl prog w) B J;refine Vgu KF.slot_gs.plain KF.entry_gs (KF.slot_gs.check _ _ _ _ _ _ _ _ KF.type_class (KF.args_gs _ _ _) ?_);unfold Vcb.«getset_descriptor.__get__» descrGet;rw[dga_obj];refine Va (Vd ?_);unfold descrGetter descrCheckInstance descrNameAndClass isInstance;simp only[KF.owner_class]
 repeat lk
 refine⟨Vhe _ (by decide+kernel),Va2 KF.entry_class ?_⟩;unfold Vcb.«object.__class__» shownTypeOf
 repeat lk
 exact q
theorem Xwi (B:K.In h) (h1:findIn K (.ref D) nm=yz (yz v)) (h2:specialIn K v "__get__"=yz (yz g)) (J:takesIn K v=yz yx):Looks M h (find (.ref y) (.ref D) nm) (.bind g v):=by have L:=looks_findIn (M:=M) B h1;have U:Looks M h (getOf (yz v)) (yz g):=looks_specialIn B h2;have Y:=looks_takesIn (M:=M) B J;exact L.andThen (U.andThen ((show Looks M h (dataDescriptor? (yz v) (yz g)) (yz (g,v)) from Y.andThen .now).andThen (Looks.tag .now)))
theorem Xtg (J:K.In s.heap) (e:ExcO D y s.heap) (h1:findIn K (.ref D) nm=yz (yz v)) (h2:specialIn K v "__get__"=yz (yz g)) (L:takesIn K v=yz yx)
  (z:Vg (Vl prog w) A (call g [v,.ref y,.ref D]) (λr s1=>Q (.done (.ret r)) s1) E s):
  Vg (Vl prog w) A (Vcb.«object.__getattribute__» ⟨[.ref y,.str nm tk],[]⟩) Q E s:=by
 obtain⟨hp,gn,Y,t0,os⟩:=s;have B:=Xct (M:=Vl prog w) e;have U:=Xwi (M:=Vl prog w) (y:=y) J h1 h2 L;unfold Vcb.«object.__getattribute__»;refine Va (Vd ?_);refine Va (Vd ?_);refine Va (B.at (Va (U.at ?_)));show Vg (Vl prog w) A (Vd5 [v] (call g [v,.ref y,.ref D]) >>= ret) _ _ _;exact Va (Uo (Vo z (λr s1 q=>Vd q) λ_ _ q=>q))
theorem Xth (L:K.In s.heap) (e:ExcO D y s.heap) (B:mroIn K D (.type "BaseException")=yz yx) (q:Q () s):
  Vg (Vl prog w) A (Vgk "BaseException.__getattribute__" ⟨[.ref y,nv],[]⟩) Q E s:=by
 obtain⟨hp,gn,dw,t0,os⟩:=s;have J:=Xct (M:=Vl prog w) e;have Y:=looks_mroIn (M:=Vl prog w) L B;have U:builtinKind "BaseException.__getattribute__"=yz .slot:=by decide+kernel
 have sp:splitId "BaseException.__getattribute__"=yz ("BaseException","__getattribute__"):=by decide+kernel
 have ao:=PySem.F.args_bexc_ga (.ref y) nv;simp only[Vgk,U,sp];unfold isInstance;refine Va (Va (J.at (Y.at ?_)));rw[iN0 (by decide)];exact Vga ao q
theorem Xwj (B:K.In s.heap) (e:ExcO D y s.heap) (J:findIn K (.ref D) "__getattribute__"=yz (yz (.builtin "BaseException.__getattribute__"))) (gn:findIn K (.ref D) "__getattr__"=yz yy)
  (U:mroIn K D (.type "BaseException")=yz yx) (h1:findIn K (.ref D) nm=yz (yz v)) (h2:specialIn K v "__get__"=yz (yz g)) (h3:takesIn K v=yz yx) (hh:handedIn (.ref D)=yx)
  (z:∀A':Uu,Vg (Vl prog w) A' (call g [v,.ref y,.ref D]) (λr s1=>r=.ref D/\Q (yz (.ref D)) s1) (λ_ _=>False) {s with toks:=s.toks+1}):
  Vg (Vl prog w) A (getAttr? (.ref y) nm) Q E s:=by
 obtain⟨hp,gs,Y,tk,os⟩:=s;have T0:=Xct (M:=Vl prog w) e;have T1:=looks_findIn (M:=Vl prog w) B J;have T2:=looks_findIn (M:=Vl prog w) B gn;have T3:=looks_mroIn (M:=Vl prog w) B U;unfold getAttr? getAttrBy? getAttrBy;refine Va (wpAny_mkText (Va (Ve5 (Uo (Va (T0.at (Va (T1.at ?_))))))));have L:(onTheHeap (Ur D)&&Value.builtin "BaseException.__getattribute__" == Value.builtin "object.__getattribute__")=false:=by
  have:(Value.builtin "BaseException.__getattribute__" == Value.builtin "object.__getattribute__")=false:=by decide+kernel
  rw[this,Vcf]
 dsimp only;rw[iN0 (by rw[L];exact Us)];unfold getAttrByItsOwn hookBefore;rw[iP0 (by rfl)];refine Va (T2.at (Va (Ve5 (Uo ?_))));unfold callGetattribute boundAndCalled;rw[iN0 (by simp)];have f3:=PySem.F.excAttr_ValueError.ga.bind (.ref y);rw[f3];refine Va (Vd ?_);refine wpAny_call (Vgu PySem.F.excAttr_ValueError.ga.plain PySem.F.entry_bexc_ga (Xth (s:=⟨hp,gs,Y,tk+1,os⟩) B e U ?_));refine Xtg (s:=⟨hp,gs,Y,tk+1,os⟩) B e h1 h2 h3 (Vo (z _) (λr s1 q=>?_) λ_ _ q=>q.elim);obtain⟨rfl,q⟩:=q;exact handed_on hh (Vd q)
theorem Xwk (p1:findIn K (.ref D) "__getattribute__"=yz (yz (.builtin "BaseException.__getattribute__"))) (p0:findIn K (.ref D) "__getattr__"=yz yy) (U:mroIn K D (.type "BaseException")=yz yx) (p2:(clsIn K D).isSome=yx) (p3:findIn K (.ref D) "__class__"=yz (yz (.builtin "object.__class__")))
  (p4:specialIn K (.builtin "object.__class__") "__get__"=yz (yz (.builtin "getset_descriptor.__get__"))) (p5:takesIn K (.builtin "object.__class__")=yz yx) (p6:mroIn K D (.type "object")=yz yx):KitX K (.ref y) (.ref D) (ExcO D y) where
 ty:=λ_ _ _ e=>Xct e
 it:=λ_ _ J _=>by
  unfold clsIn at p2;split at p2;·rename_i L;intro B Q' E' s' k q;unfold isType loadHead;exact Va (wpAny_loadPart (k _ _ (J _ _ L)) (Vd q))
  ·cases p2
 ne:=λhp tp dd its n sl J Y=>by
  refine Vdy.mpr λq=>?_;have q':D=tp:=Value.ref.inj (beq_iff_eq.mp q);subst q';unfold clsIn at p2;split at p2;·rename_i L;cases (J _ _ L).symm.trans Y
  ·cases p2
 ca:=λ{prog w B E' Q' s'} J e k=>Xwj J e p1 p0 U p3 p4 p5 rfl λA'=>wpAny_call (X1c (s:={s' with toks:=s'.toks+1}) J e p6 ⟨rfl,k⟩)
end
end Z
end
section
namespace Z
open PySem PySem.Spec PyProof.Rows L2
noncomputable def Xbo:Ty->Option (Str×String)
 |.int=>yz ("int","int")|.bool=>yz ("bool","bool")|.str=>yz ("str","str")|.tuple=>yz ("tuple","tuple")|.list=>yz ("list","list")|.dict=>yz ("dict","dict")|_=>yy
noncomputable def Xgw:Kd->Option String
 |.non=>yz "NoneType"|.bool=>yz "bool"|.int=>yz "int"|.str=>yz "str"|.tuple=>yz "tuple"|.list=>yz "list"|.dict=>yz "dict"|.exc _=>yy
theorem Xez(h:Xbo t=yz (nm,T)):Vd6 nm=yz (.type T):=by cases t<;>simp only[Xbo,Vv,Vee,reduceCtorEq]at h<;>obtain⟨rfl,rfl⟩:=h<;>decide+kernel
theorem Xgx(h:Xbo t=yz (nm,T)):nm∈blts:=by cases t<;>simp only[Xbo,Vv,Vee,reduceCtorEq]at h<;>obtain⟨rfl,rfl⟩:=h<;>decide
theorem Xiu(B:Xbo t=yz (nm,T))(J:Xgw k=yz U)(h:isT k t=yz b)(K:Vj):Vfv K (.type U) (.type T)=yz b:=by cases k<;>simp only[Xgw,Vv,reduceCtorEq]at J<;>subst J<;>cases t<;>simp only[Xbo,Vv,Vee,reduceCtorEq]at B<;>obtain⟨rfl,rfl⟩:=B<;>simp only[isT,tyQ,Vv]at h<;>subst h<;>kernel_rfl
section
variable{X:Cx}{pa:LA}{σ:L2.St}{H:Hp}{s:Vc}{ρ:LR}{S:Sto}{env:En}{a:Expr}{fa:En->Sto->R D}{pos:Pos}
theorem Xy3(I:S0 X pa σ H s ρ S env)(h:kdD S d=yz k)(J:Xgw k=yz U)(B:RD X.K ρ H d v)(L:RelV v u):
  ∃P:Heap->Prop,PySem.W.KitX X.K u (.type U) P/\P s.heap/\u≠.builtin "__main__.__loader__#opaque":=by
 cases d with
 |non=>cases h;cases J;simp only[RD]at B;subst B;cases L;exact⟨_,PySem.W.kitx_none,trivial,λz=>nomatch z⟩|bl b=>cases h;cases J;simp only[RD]at B;subst B;cases L;exact⟨_,PySem.W.kitx_bool,trivial,λz=>nomatch z⟩|int i=>cases h;cases J;simp only[RD]at B;subst B;obtain⟨t,rfl⟩:=L;exact⟨_,PySem.W.kitx_int,trivial,λz=>nomatch z⟩|str x=>cases h;cases J;simp only[RD]at B;subst B;obtain⟨t,rfl⟩:=L;exact⟨_,PySem.W.kitx_str,trivial,λz=>nomatch z⟩|tup xs=>cases h;cases J;simp only[RD]at B;obtain⟨p,vs,rfl,hq,_⟩:=B;cases L;obtain⟨its,_,pl,_⟩:=I.inv.tuple hq;obtain⟨o,h1,h2,_⟩:=pl;exact⟨_,PySem.W.kitx_tuple,⟨o,h1,h2⟩,λz=>nomatch z⟩|fro xs=>cases h;cases J;simp only[RD]at B;obtain⟨p,vs,rfl,hq,_⟩:=B;cases L;obtain⟨its,_,pl,_⟩:=I.inv.list hq.sq;obtain⟨o,n,h1,h2,_⟩:=pl;exact⟨_,PySem.W.kitx_list,⟨o,h1,h2⟩,λz=>nomatch z⟩|fn _ _=>cases h|ref n=>
  simp only[kdD]at h;simp only[RD]at B;obtain⟨p,rfl,hp⟩:=B;cases L;split at h;·rename_i xs e;cases h;cases J;obtain⟨vs,Y,_⟩:=I.sr.ob n p _ hp e;obtain⟨_,its,n',_,h1⟩:=(show ObjOk X.prog X.w H s.heap p (.lst vs) from I.inv.hok p _ Y);exact⟨_,PySem.W.kitx_list,⟨_,h1,rfl⟩,λz=>nomatch z⟩
  ·rename_i xs e;cases h;cases J;obtain⟨_,Y⟩:=(show(([]:List (LI×D))=[]/\H p=yz (.dK []))\/_ from I.sr.ob n p _ hp e).resolve_right λz=>z.1 rfl;obtain⟨_,_,vs,_,o,es,ep,h1,h2,_⟩:=(show ObjOk X.prog X.w H s.heap p (.dK []) from I.inv.hok p _ Y);exact⟨_,PySem.W.kitx_dict,⟨o,h1,h2.1⟩,λz=>nomatch z⟩
  ·cases h;cases J
  cases h
theorem Xdp (ht:Xbo t=yz (nm,T)) (hb:∀x∈blts,X.mg x=yy) (ab:Gl X "isinstance") (hg:Gl X nm) (hok:Y6 nm=yx) (ha:DE X a fa) (L:Yn a=yx):
  DE X (.Call (.Name "isinstance" p0) [a,.Name nm p1] [] pos) (λenv S=>(fa env S).bind λx S=>match (kdD S x).bind λk=>Yb k [t] with|some r=>.ok (.bl r) S|none=>.bad):=by
 intro pa s σ H ρ S env I nb;dsimp only at nb ⊢;obtain⟨o1,_,o3⟩:=Xan hok;refine Var (Ym I.inv ab (hb _ (by decide)) (u:=.builtin "isinstance") (by decide+kernel) ?_);refine Va3 ?_ (Xv L) rfl;rw[Xv L];generalize hr:((fa env S).bind λx S=>match (kdD S x).bind λk=>Yb k [t] with|some r=>R.ok (D.bl r) S|none=>R.bad)=r at nb ⊢;refine Vbb (ha.bind I (by rw[hr];exact nb) hr.symm (λd S1 u s1 v H1 ac e1 J Y rv rd aa=>?_) λ_ _ z=>z);refine Vbb (Ym Y.inv hg (hb _ (Xgx ht)) (Xez ht) ?_ o3 o1);refine Vdb ?_;cases q:(kdD S1 d).bind λk=>Yb k [t] with
 |none=>rw[q]at J;cases J rfl|some b=>
  obtain⟨k,q1,B⟩:=Vfz.mp q;have q3:isT k t=yz b:=by
   unfold Yb at B;cases e:isT k t with
   |none=>rw[e]at B;cases B|some c=>rw[e]at B;cases c<;>simp[Yb]at B<;>rw[B]
  rw[e1,q];cases hU:Xgw k with
  |none=>cases k<;>simp only[Xgw,reduceCtorEq]at hU;cases t<;>simp only[Xbo,reduceCtorEq]at ht<;>simp only[isT,tyQ,reduceCtorEq]at q3|some U=>obtain⟨P,k1,k2,k3⟩:=Xy3 Y q1 hU rd rv;exact PySem.W.kia_one k1 Y.inv.kIn k2 (Xiu ht hU q3 X.K) k3 λtk=>OkP.pre aa (Xy Y.sr (Y.inv.tok tk))
theorem Xti (er:ErrOk X.K) (ht:(∃c,t=.cls c/\Xbi c=yz nm)\/(t=.valueError/\nm="ValueError")) (hb:∀x∈blts,X.mg x=yy) (ac:Gl X "isinstance") (hg:Gl X nm) (hok:Y6 nm=yx) (ha:DE X a fa) (ab:Yn a=yx):
  DE X (.Call (.Name "isinstance" p0) [a,.Name nm p1] [] pos) (λenv S=>(fa env S).bind λx S=>match (kdD S x).bind λk=>Yb k [t] with|some r=>.ok (.bl r) S|none=>.bad):=by
 intro pa s σ H ρ S env I nb;dsimp only at nb ⊢;obtain⟨o1,_,o3⟩:=Xan hok;refine Var (Ym I.inv ac (hb _ (by decide)) (u:=.builtin "isinstance") (by decide+kernel) ?_);refine Va3 ?_ (Xv ab) rfl;rw[Xv ab];generalize hr:((fa env S).bind λx S=>match (kdD S x).bind λk=>Yb k [t] with|some r=>R.ok (D.bl r) S|none=>R.bad)=r at nb ⊢;refine Vbb (ha.bind I (by rw[hr];exact nb) hr.symm (λd S1 u s1 v H1 ae e1 Y B rv rd aa=>?_) λ_ _ z=>z)
 /- the value is an error -/
 cases q:(kdD S1 d).bind λk=>Yb k [t] with
 |none=>rw[q]at Y;cases Y rfl|some b=>
  rw[e1,q];obtain⟨k,L,U⟩:=Vfz.mp q;have q3:isT k t=yz b:=by
   unfold Yb at U;cases e:isT k t with
   |none=>rw[e]at U;cases U|some c=>rw[e]at U;cases c<;>simp[Yb]at U<;>rw[U]
  obtain⟨J,rfl⟩:∃J,k=.exc J:=by rcases ht with⟨c,rfl,_⟩|⟨rfl,_⟩<;>cases k<;>first|exact⟨_,rfl⟩|(simp only[isT,tyQ,reduceCtorEq]at q3)
  obtain⟨n,rfl,hS⟩:∃n,d=.ref n/\S1[n]?=yz (.exc J):=by
   cases d with
   |ref n=>
    refine⟨n,rfl,?_⟩;simp only[kdD]at L;split at L;·cases L
    ·cases L
    ·rename_i c2 e;cases L;exact e
    cases L|_=>cases L
  simp only[RD]at rd;obtain⟨p,rfl,hp⟩:=rd;cases rv;obtain⟨C,hC,hH⟩:=(show ∃C,Y9 X.K J=yz C/\H1 p=yz (.ext (ExcO C p)) from B.sr.ob n p _ hp hS);obtain⟨_,⟨b1,b2,b3⟩,a3,a4,a5,a6⟩:=er.cls J C hC;have hE:ExcO C p s1.heap:=(show ObjOk X.prog X.w H1 s1.heap p (.ext (ExcO C p)) from B.inv.hok p _ hH).1;have kx:=Xwk (y:=p) b1 b2 b3 a3 a4 er.gt er.tk a5;rcases ht with⟨c,rfl,hc⟩|⟨rfl,rfl⟩
  ·obtain⟨C0,h1,h2⟩:=er.at_ c nm hc;have e3:b=(c==0||c==J):=by simp only[isT,Vv]at q3;exact q3.symm
   subst e3;refine Vbb (Xdh B.inv hg (Vdu B.inv.mod.kin B.inv.mod.glob h2) (Vdb ?_) o1);exact PySem.W.kia_one kx B.inv.kIn hE (er.sub J C c C0 hC h1).1 (λz=>nomatch z) λtk=>OkP.pre aa (Xy B.sr (B.inv.tok tk))
  have e3:b=true:=by simp only[isT,Vv]at q3;exact q3.symm
  subst e3;refine Vbb (Ym B.inv hg (hb _ (by decide)) (u:=.type "ValueError") (by decide+kernel) (Vdb ?_) o3 o1);exact PySem.W.kia_one kx B.inv.kIn hE a6 (λz=>nomatch z) λtk=>OkP.pre aa (Xy B.sr (B.inv.tok tk))
end
theorem Xwl(I:Inv X pa σ H s):Vcu<s.heap.objs.size:=by have B:=(I.mod.glob.keeps I.bk).lt;exact Ub (show Vcu<Uf from by decide) (Vc1 B)
theorem d_dct0:DE X (.Dict [] [] pos) (λ_ S=>.ok (.ref (lf S)) (S++[.dct []])):=by
 intro pa s σ H ρ S env I _;have hp:H s.heap.objs.size=none:=I.inv.hok.fresh (Vm _);have B:=Xwl I.inv;have new:ObjOk X.prog X.w (upd H s.heap.objs.size (.dK [])) (s.heap.push {cls:=.type "dict",data:=.dict #[]}) s.heap.objs.size (.dK []):=
  ⟨Ug _,beq_eq_false_iff_ne.mpr (λz=>by rw[z]at B;exact aB0 B (Vds _)),[],.nil,Heap.DictOf.new s.heap⟩
 have J:=I.inv.laid (t':=s.toks) (λb u e=>Vf _ e) (Vm _) new;refine wpAny_Dict_empty ?_;refine .mk (v:=.ref s.heap.objs.size) (ρ':=ρ++[s.heap.objs.size]) (Stp.new1 hp) J rfl ?_ (I.sr.new1 (o:=.dct []) hp (.inl ⟨rfl,Yi⟩));simp only[RD];exact⟨_,rfl,by rw[<-I.sr.len];simp⟩
theorem Xfn(n d:Nat)(o:Option Int):Xdc n d o=HT.sIx n d o:=by
 cases o with
 |none=>rfl|some i=>
  simp only[Xdc,HT.sIx];by_cases h:i<0;·rw[iP0 h,iN0 (by omega)]
  ·rw[iN0 h,iP0 (by omega)]
theorem X5u{K:Vj}{ρ:LR}{H:Hp}{xs:LD}{vs:LW}(h:RDs K ρ H xs vs)(lo hi:Option Int):RDs K ρ H (cut xs lo hi) (Xla vs lo hi):=by unfold cut Xla;rw[Xfn,Xfn,h.length];exact(h.drop _).take _
section
variable{prog:V4}{w:Ua}{A:Uu}{E:VP}{s:Vc}
theorem Xnv{items:AV}{lo hi:Option Int}{Q:VP}(B:Vdr s.heap t items)(hs:s.heap.IsSliceOf sl vl vu .none)(pl:Ves vl lo)(pu:Ves vu hi)
  (h1:HT.sIx items.size 0 lo=0) (h2:HT.sIx items.size items.size hi=items.size) (h:Q (.ref t) s):Vg (Vl prog w) A (getItem (.ref t) (.ref sl)) Q E s:=by
 obtain⟨os,U,J,Y⟩:=id hs;have L:s.TypeIs (.ref sl) "slice" := ⟨os,U,J⟩;unfold getItem
 try with_reducible refine Uo ?_
 first|refine Va (Vd ?_)|skip
 refine Va (Vhk B.typeIs (by decide) (Va (Va6 (name:=Vao "__getitem__") B.typeIs Vbk (U0 Vbk B.typeIs Vgz ?_ (Vha _ _)))));show Vg _ _ (Ve3 (.ref t) >>= _) _ _ s;refine Va (tupleItemsOf_ B (Va (Vcc L ?_)));rw[iP0 (by decide)];refine Va (HT.sliceApplied_gen hs pl pu ?_);show Vg _ _ (if (((HT.sIx items.size 0 lo:Nat):Int)==0&&(1:Int)==1&&(HT.sIx items.size items.size hi-HT.sIx items.size 0 lo)==items.size)=yx then _ else _) _ _ s;rw[h1,h2,iP0 (by simp)];refine Va ?_;unfold Builtin.Tuple.tupleIsExact;refine Va (Vcc B.typeIs (Vd ?_));rw[iP0 (by decide)];exact Va (Vd0 (Vd ⟨_,rfl,Vd h⟩))
end
def Xkv(K:Vj)(ρ:LR)(H:Hp)(o:Option D)(u:Vb):Prop:=match o with
 |none=>u=.none|some d=>∃v,RelV v u/\RD K ρ H d v
def DO(X:Cx)(e:Option Expr)(f:En->Sto->R (Option D)):Prop:=
 ∀(pa:LA) (s:Vc) (σ:L2.St) (H:Hp) (ρ:LR) (S:Sto) (env:En),S0 X pa σ H s ρ S env->f env S≠.bad ->
  Vg (Vl X.prog X.w) X.A (evalPart e X.env) (λu s'=>∃o S',f env S=.ok o S'/\∃H' ρ',Inv X pa σ H' s'/\SR X.K ρ' S' H'/\Stp X.K ρ ρ' H H'/\Xkv X.K ρ' H' o u) (ExP X pa σ ρ H (f env S)) s
section
variable{X:Cx}{pa:LA}{σ:L2.St}{H:Hp}{s:Vc}{ρ:LR}{S:Sto}{env:En}{a:Expr}{fa:En->Sto->R D}{pos p2:Pos}
theorem Xpl:DO X yy (λ_ S=>.ok yy S):=by intro pa s σ H ρ S env I B;rw[evalPart_none];exact Vd ⟨yy,S,rfl,H,ρ,I.inv,I.sr,.refl,rfl⟩
theorem Xpm(h:DE X a fa):DO X (yz a) (λenv S=>(fa env S).bind λx S=>.ok (yz x) S):=by intro pa s σ H ρ S env I U;dsimp only at U ⊢;rw[evalPart_some];refine h.bind I U rfl (λd S1 u s1 v H1 J e1 aa L Y rd B=>?_) λ_ _ z=>z;exact⟨yz d,S1,e1,H1,J,L.inv,L.sr,B,v,Y,rd⟩
theorem DO.bind{α:Type}{e:Option Expr}{f:En->Sto->R (Option D)}(h:DO X e f)(I:S0 X pa σ H s ρ S env){k:Option D->Sto->R α}{r:R α}{Q:VP}{E:VP}(L:(f env S).bind k≠.bad)(B:r=(f env S).bind k)
  (U:∀o S1 u s' H' ρ',r=k o S1->k o S1≠.bad->S0 X pa σ H' s' ρ' S1 env->Xkv X.K ρ' H' o u->Stp X.K ρ ρ' H H'->Q u s') (Y:∀x s',ExP X pa σ ρ H r x s'->E x s'):Vg (Vl X.prog X.w) X.A (evalPart e X.env) Q E s:=by
 cases q:f env S with
 |bad=>rw[q]at L;cases L rfl|ex n S1=>
  rw[q]at B;refine Vo (h pa s σ H ρ S env I (by rw[q];exact λz=>nomatch z)) (λu s' z=>?_) λx s' z=>?_;·obtain⟨o,S2,e,_⟩:=z;rw[q]at e;cases e
  ·obtain⟨m,S2,e,z⟩:=z;rw[q]at e;cases e;exact Y x s' ⟨n,S1,B,z⟩|ok o S1=>
  rw[q]at B L;refine Vo (h pa s σ H ρ S env I (by rw[q];exact λz=>nomatch z)) (λu s' z=>?_) λx s' z=>?_;·obtain⟨o',S2,e,H',ρ',J,sr,st,pr⟩:=z;rw[q]at e;cases e;exact U o S1 u s' H' ρ' B L (I.step J sr st) pr st
  ·obtain⟨m,S2,e,z⟩:=z;rw[q]at e;cases e
theorem Xfo{K:Vj}{o:Option D}{u:Vb}{B:Option Int}(h:Xkv K ρ H o u)(e:Xbz o=yz B):Ves u B:=by
 cases o with
 |none=>have J:yz yy=yz B:=e;cases J;have h':u=.none:=h;subst h';exact .none|some d=>
  cases d with
  |int i=>have J:yz (yz i)=yz B:=e;cases J;obtain⟨v,U,L⟩:=h;simp only[RD]at L;subst L;obtain⟨t,rfl⟩:=U;exact .int i t|_=>cases e
theorem X9f{lo hi:Option Expr}{fl fh:En->Sto->R (Option D)}(ha:DE X a fa)(hl:DO X lo fl)(hh:DO X hi fh):
  DE X (.Subscript a (.Slice lo hi yy p2) pos) (λenv S=>(fa env S).bind λx S=>(fl env S).bind λl S=>(fh env S).bind λh S=>match Xbz l,Xbz h with
   |some l,yz h=>Xa9 x l h S
   |_,_=>.bad):=by
 intro pa s σ H ρ S env I nb;dsimp only at nb ⊢;refine Subscript_ (ha.bind I nb rfl (λd S1 u s1 v H1 aj e1 ag I1 rv rd aa=>?_) λ_ _ z=>z);rw[e1];refine wpAny_Slice (hl.bind I1 ag rfl (λl S2 vl s2 H2 ai e2 ah I2 pl ab=>?_) λx s' z=>z.pre aa);rw[e2];refine hh.bind I2 ah rfl (λh S3 vu Y H3 af e3 U I3 pu ac=>?_) λx s' z=>(z.pre ab).pre aa;rw[e3];cases q1:Xbz l with
 |none=>rw[q1]at U;cases U rfl|some li=>
  cases q2:Xbz h with
  |none=>rw[q1,q2]at U;cases U rfl|some B=>
   rw[q1,q2]at U;dsimp only at U ⊢;rw[evalPart_none];refine Vd ?_;have P1:=Xfo pl q1;have P2:=Xfo pu q2;have ae:=(rd.mono ab).mono ac;have J:Inv X pa σ H3 {Y with heap:=Y.heap.push {cls:=.type "slice",data:=.fields #[vl,vu,.none]} }:=I3.inv.kept (t':=Y.toks) λb ob q=>Vf _ q;have fin:∀ {T id:String},typeLookup (.type T) "__getitem__"=pure (yz (.builtin id))->({Y with heap:=Y.heap.push {cls:=.type "slice",data:=.fields #[vl,vu,.none]} }:Vc).TypeIs u T ->
     Vg (Vl X.prog X.w) X.A (getItem u (.ref Y.heap.objs.size)) (OkP X pa σ af H3 (Xa9 d li B S3)) (ExP X pa σ af H3 (Xa9 d li B S3)) {Y with heap:=Y.heap.push {cls:=.type "slice",data:=.fields #[vl,vu,.none]} } ->
     Vg (Vl X.prog X.w) X.A (Ve4 a (.Slice lo hi yy p2) u (.ref Y.heap.objs.size)) (OkP X pa σ ρ H (Xa9 d li B S3)) (ExP X pa σ ρ H (Xa9 d li B S3)) {Y with heap:=Y.heap.push {cls:=.type "slice",data:=.fields #[vl,vu,.none]} }:=λt1 t2 g=>
    tail_any (ops:=[.ref Y.heap.objs.size,u]) t2 t1 (Vo g (λ_ _ z=>OkP.pre ((aa.trans ab).trans ac) z) λ_ _ z=>ExP.pre ((aa.trans ab).trans ac) z) (by with_unfolding_all rfl)
   cases d with
   |tup xs=>
    simp only[RD]at ae;obtain⟨p,vs,rfl,hq,hr⟩:=ae;cases rv;obtain⟨its,r,ht,hz⟩:=J.tuple hq;have L:its.toArray.size=lf vs:=by rw[Vr];exact r.length.symm
    refine fin PyProof.Rows.slot_tuple_getitem.lookup ht.typeIs ?_;by_cases hw:HT.sIx (lf vs) 0 li=0/\HT.sIx (lf vs) (lf vs) B=lf vs
    ·refine Xnv ht (Vhf ..) P1 P2 (by rw[L];exact hw.1) (by rw[L];exact hw.2) ?_;have e:cut xs li B=xs:=by
      unfold cut;rw[Xfn,Xfn,hr.length,hw.1,hw.2,Vfr,Nat.sub_zero,<-hr.length,Vcx]
     refine .mk (v:=.ref p) .refl J rfl ?_ I3.sr;rw[e];simp only[RD];exact⟨p,vs,rfl,hq,hr⟩
    refine HT.getItem_tuple_cut ht (Vhf ..) P1 P2 (by rw[L];exact hw) ?_ (by rw[L];exact hz);rw[L];refine Xck (vs:=Xla vs li B) (J.laid (t':=Y.toks) (λb ob q=>Vf _ q) (Vm _) ?_) (J.hok.fresh (Vm _)) I3.sr (X5u hr li B);exact⟨Uv (Xno vs li B) hz,_,(r.drop (HT.sIx (lf vs) 0 li)).take (HT.sIx (lf vs) (lf vs) B-HT.sIx (lf vs) 0 li),⟨_,Vt _ rfl,rfl,_,rfl⟩⟩|_=>cases U rfl
end
theorem X1d{K:Vj}{k:Kd}{J t2:Ty}{n1 n2:Str}{T1 Y U:String}{b:Bool}(h1:Xbo J=yz (n1,T1))(h2:Xbo t2=yz (n2,Y))(hk:Xgw k=yz U)(h:Yb k [J,t2]=yz b):
  PySem.W.kitAny K (.type U) [.type T1,.type Y]=yz b:=by
 simp only[Yb]at h;unfold PySem.W.kitAny;cases L:isT k J with
 |none=>rw[L]at h;cases h|some c1=>
  rw[L]at h;rw[Xiu h1 hk L K];cases c1 with
  |true=>cases h;rfl|false=>
   dsimp only at h ⊢;unfold PySem.W.kitAny;cases B:isT k t2 with
   |none=>rw[B]at h;cases h|some c2=>
    rw[B]at h;rw[Xiu h2 hk B K];cases c2 with
    |true=>cases h;rfl|false=>cases h;rfl
section
variable{X:Cx}{pa:LA}{σ:L2.St}{H:Hp}{s:Vc}{ρ:LR}{S:Sto}{env:En}{a:Expr}{fa:En->Sto->R D}{pos:Pos}
theorem X5v (h1:Xbo t1=yz (n1,T1)) (h2:Xbo t2=yz (n2,T2)) (hb:∀x∈blts,X.mg x=yy) (ab:Gl X "isinstance") (g1:Gl X n1) (g2:Gl X n2) (o1:Y6 n1=yx) (o2:Y6 n2=yx) (ha:DE X a fa) (Y:Yn a=yx):
  DE X (.Call (.Name "isinstance" p0) [a,.Tuple [.Name n1 q1,.Name n2 q2] k3 p3] [] pos) (λenv S=>(fa env S).bind λx S=>match (kdD S x).bind λk=>Yb k [t1,t2] with|some r=>.ok (.bl r) S|none=>.bad):=by
 intro pa s σ H ρ S env I nb;dsimp only at nb ⊢;obtain⟨a1,_,a3⟩:=Xan o1;obtain⟨b1,_,b3⟩:=Xan o2;refine Var (Ym I.inv ab (hb _ (by decide)) (u:=.builtin "isinstance") (by decide+kernel) ?_);refine Va3 ?_ (Xv Y) rfl;rw[Xv Y];generalize hr:((fa env S).bind λx S=>match (kdD S x).bind λk=>Yb k [t1,t2] with|some r=>R.ok (D.bl r) S|none=>R.bad)=r at nb ⊢;refine Vbb (ha.bind I (by rw[hr];exact nb) hr.symm (λd S1 u s1 v H1 ac e1 L B rv rd aa=>?_) λ_ _ z=>z);refine Vbb (wpAny_Tuple_spliced (x1:=k3) (Vbb (Ym B.inv g1 (hb _ (Xgx h1)) (Xez h1) (Vbb (Ym B.inv g2 (hb _ (Xgx h2)) (Xez h2) (Vdb ⟨by show 2<=V8;decide,?_⟩) b3 b1)) a3 a1)));refine Vdb ?_;cases q:(kdD S1 d).bind λk=>Yb k [t1,t2] with
 |none=>rw[q]at L;cases L rfl|some b=>
  obtain⟨k,k1,k2⟩:=Vfz.mp q;rw[e1,q];have J:Inv X pa σ H1 {s1 with heap:=s1.heap.push {cls:=.type "tuple",data:=.seq #[.type T1,.type T2]} }:=B.inv.kept (t':=s1.toks) λb ob q=>Vf _ q;have I2:S0 X pa σ H1 {s1 with heap:=s1.heap.push {cls:=.type "tuple",data:=.seq #[.type T1,.type T2]} } ac S1 env:=⟨J,B.sr,B.er⟩;cases hU:Xgw k with
  |none=>
   cases k with
   |exc c=>
    simp only[Yb]at k2;have z:isT (.exc c) t1=none:=by cases t1<;>simp only[Xbo,reduceCtorEq]at h1<;>rfl
    rw[z]at k2;cases k2|_=>cases hU
  |some U=>obtain⟨P,z1,z2,z3⟩:=Xy3 I2 k1 hU rd rv;exact PySem.W.kia_tup (its:=[.type T1,.type T2]) z1 J.kIn z2 (Vt _ rfl) (X1d h1 h2 hU k2) z3 λtk=>OkP.pre aa (Xy B.sr (J.tok tk))
end
end Z
end
section
namespace Z
open PySem PySem.Spec PyProof.Rows L2
open Builtin.Slice (sliceAdjust slicePlaces)
noncomputable def Xq8{α:Type}(lo c:Int)(n:Nat)(xs:List α):List α:=(Vs n).filterMap λ(k:Nat)=>xs[(lo+(k:Int)*c).toNat]?
noncomputable def Xat{α:Type}(xs:List α)(l:Option Int)(c:Int):List α:=Xq8 (sliceAdjust l yy c (lf xs)).1 c (slicePlaces (sliceAdjust l yy c (lf xs)).1 (sliceAdjust l yy c (lf xs)).2 c) xs
theorem Xq9{K:Vj}{ρ:LR}{H:Hp}{xs:LD}{vs:LW}(h:RDs K ρ H xs vs)(B:Nat->Nat):∀ks:LN,RDs K ρ H (ks.filterMap λk=>xs[B k]?) (ks.filterMap λk=>vs[B k]?)
 |[]=>.nil|k::ks=>by
  cases e:xs[B k]? with
  |none=>have J:=h.none e;simp only[Uz,e,J];exact Xq9 h B ks|some d=>obtain⟨v,J,r⟩:=h.get e;simp only[Uz,e,J];exact .cons r (Xq9 h B ks)
theorem Xiv{xs:LW}{us:LV}(h:Vals xs us)(B:Nat->Nat):∀ks:LN,Vals (ks.filterMap λk=>xs[B k]?) (ks.filterMap λk=>us[B k]?)
 |[]=>.nil|k::ks=>by
  cases e:xs[B k]? with
  |none=>
   have J:us[B k]?=none:=by rw[Ui]at e ⊢;rw[<-h.length];exact e
   simp only[Uz,e,J];exact Xiv h B ks|some d=>obtain⟨v,J,r⟩:=h.get e;simp only[Uz,e,J];exact .cons r (Xiv h B ks)
theorem X5w{K:Vj}{ρ:LR}{H:Hp}{xs:LD}{vs:LW}(h:RDs K ρ H xs vs)(l:Option Int)(c:Int):RDs K ρ H (Xat xs l c) (Xat vs l c):=by unfold Xat;rw[h.length];exact Xq9 h _ _
theorem Xwm(h:Vals xs us)(l:Option Int)(c:Int):Vals (Xat xs l c) (Xat us l c):=by unfold Xat;rw[h.length];exact Xiv h _ _
theorem Xtj{lo hi c:Int}{n:Nat}(hc:c<0)(h1:lo<=(n:Int)-1)(h2:-1<=hi):slicePlaces lo hi c<=n:=by
 unfold slicePlaces;rw[iN0 (by omega)];split;·have:(lo-hi-1)/(-c)<=lo-hi-1:=Int.ediv_le_self _ (by omega);omega
 ·simp
theorem Xtk{l:Option Int}{c:Int}{n:Nat}(hc:c<0):(sliceAdjust l yy c n).1<=(n:Int)-1/\(sliceAdjust l yy c n).2 = -1:=by
 unfold sliceAdjust;simp only[hc,if_true,and_true];cases l with
 |none=>exact Int.le_refl _|some v=>dsimp only;split<;>omega
theorem Xpn{α:Type}(xs:List α){l:Option Int}{c:Int}(hc:c<0):(Xat xs l c).length<=lf xs:=by unfold Xat Xq8;refine Uv (List.length_filterMap_le _ _) ?_;rw[Vap];exact Xtj hc (Xtk hc).1 (by rw[(Xtk hc).2];omega)
section
variable{prog:V4}{w:Ua}{A:Uu}{E:VP}{s:Vc}
theorem Xmq{lo:Option Int}{c:Int}{n:Nat}{Q:Int×Int×Nat->Vc->Prop}(hc:c<0)(hs:s.heap.IsSliceOf sl vl .none vs)(pl:Ves vl lo)(ps:Ves vs (yz c))
  (h:Q ((sliceAdjust lo yy c n).1,c,slicePlaces (sliceAdjust lo yy c n).1 (sliceAdjust lo yy c n).2 c) s):Vg (Vl prog w) A (Vdt (.ref sl) (pure (n:Int))) Q E s:=by
 obtain⟨os,J,L,B⟩:=id hs;unfold Vdt Vhq;refine Va (Va (Vam J B (x:=vl) rfl (Va (Vam J B (x:=.none) rfl (Va (Vam J B (x:=vs) rfl (Vd ?_)))))));refine Va (HT.slicePart_ ps ?_);show Vg _ _ (if (c==0)=yx then _ else _) _ _ s;rw[iN0 (by simp;omega)];refine Va (HT.slicePart_ pl (Va (HT.slicePart_ .none (Va (Vd ?_)))));exact Vd h
theorem Xra{its:LV}{lo:Option Int}{c:Int}{Q:VP}(hc:c<0)(J:Vdr s.heap t its.toArray)(hs:s.heap.IsSliceOf sl vl .none vs)(pl:Ves vl lo)(ps:Ves vs (yz c))
  (h:Q (.ref s.heap.objs.size) {s with heap:=s.heap.push {cls:=.type "tuple",data:=.seq (Xat its lo c).toArray} }) (U:(lf its)<=V8):Vg (Vl prog w) A (getItem (.ref t) (.ref sl)) Q E s:=by
 have B:sizeOk (.seq (Xat its lo c).toArray):=by show(Xat its lo c).toArray.size<=V8;rw[Vr];exact Uv (Xpn its hc) U
 obtain⟨os,Y,aa,ab⟩:=id hs;have L:s.TypeIs (.ref sl) "slice" := ⟨os,Y,aa⟩;unfold getItem
 try with_reducible refine Uo ?_
 first|refine Va (Vd ?_)|skip
 refine Va (Vhk J.typeIs (by decide) (Va (Va6 (name:=Vao "__getitem__") J.typeIs Vbk (U0 Vbk J.typeIs Vgz ?_ (Vha _ _)))));show Vg _ _ (Ve3 (.ref t) >>= _) _ _ s;refine Va (tupleItemsOf_ J (Va (Vcc L ?_)));rw[iP0 (by decide),Vr];refine Va (Xmq hc hs pl ps ?_);show Vg _ _ (if ((sliceAdjust lo yy c (lf its)).1==0&&c==1&&slicePlaces (sliceAdjust lo yy c (lf its)).1 (sliceAdjust lo yy c (lf its)).2 c==lf its)=yx then _ else _) _ _ s;have hn:(c==1)=false:=by simp;omega
 rw[iN0 (by rw[hn];simp)];have e:((Vs (slicePlaces (sliceAdjust lo yy c (lf its)).1 (sliceAdjust lo yy c (lf its)).2 c)).filterMap λ(k:Nat)=>its.toArray[((sliceAdjust lo yy c (lf its)).1+(k:Int)*c).toNat]?)=Xat its lo c:=by unfold Xat Xq8;simp
 rw[e]
 first
  |exact Va (m:=Vbg _) (U8 (Vd ⟨_,rfl,Vd h⟩) B)|exact Va (Va (m:=Vbg _) (U8 (Vd ⟨_,rfl,Vd h⟩) B))
end
theorem Xmr{α β:Type}{f g:α->Option β}:∀ {l:List α},(∀x∈l,f x=g x)->l.filterMap f=l.filterMap g
 |[],_=>rfl|x::l,h=>by rw[Uz,Uz,h x (by simp),Xmr λy B=>h y (by simp[B])]
theorem X1e{α:Type}(xs:List α):Xat xs yy (-1)=xs.reverse:=by
 unfold Xat Xq8;have L:(sliceAdjust yy yy (-1) (lf xs:Int))=((lf xs:Int)-1,-1):=rfl;rw[L];have J:slicePlaces ((lf xs:Int)-1) (-1) (-1)=lf xs:=by
  unfold slicePlaces;rw[iN0 (by decide)];split;·simp
  ·omega
 dsimp only;rw[J];have:∀(n:Nat) (ys:List α),lf ys=n->(Vs n).filterMap (λk=>ys[k]?)=ys:=by
  intro n;induction n with
  |zero=>intro ys h;rw[Vgy h];rfl|succ n ih=>
   intro ys h;cases ys with
   |nil=>cases h|cons y ys=>rw[List.range_succ_eq_map,Uz,List.filterMap_map];simp only[gZ0];congr 1;exact ih ys (by simpa using h)
 rw[<-this (lf xs) xs.reverse (by simp)];refine Xmr λk B=>?_;have B:=U6.mp B;rw[List.getElem?_reverse B];congr 1;omega
noncomputable def Xe0(l:Option Int)(c:Int)(x:D)(S:Sto):R D:=
 match x with
 |.tup xs=>.ok (.tup (Xat xs l c)) S|_=>.bad
theorem Xwn(x:D)(S:Sto):Xe0 yy (-1) x S=Xqk x S:=by cases x<;>simp only[Xe0,Xqk,X1e]<;>rfl
section
variable{X:Cx}{pa:LA}{σ:L2.St}{H:Hp}{s:Vc}{ρ:LR}{S:Sto}{env:En}{a:Expr}{fa:En->Sto->R D}{pos p2:Pos}
theorem X9g{lo:Option Expr}{st:Expr}{l:Option Int}{c:Int}(hc:c<0)(ha:DE X a fa)(hl:DO X lo (λ_ S=>.ok (l.map D.int) S))(hh:DO X (yz st) (λ_ S=>.ok (yz (.int c)) S)):
  DE X (.Subscript a (.Slice lo yy (yz st) p2) pos) (λenv S=>(fa env S).bind λx S=>Xe0 l c x S):=by
 intro pa s σ H ρ S env I nb;dsimp only at nb ⊢;refine Subscript_ (ha.bind I nb rfl (λd S1 u s1 v H1 ag e1 ae I1 rv rd ab=>?_) λ_ _ z=>z);rw[e1];have cst:∀ {e:Option Expr} {o:Option D} {s2:Vc} {H2:Hp} {L:LR} {Q:VP} {E:VP},DO X e (λ_ S=>.ok o S)->S0 X pa σ H2 s2 L S1 env->(∀u s' H' ρ',S0 X pa σ H' s' ρ' S1 env->Xkv X.K ρ' H' o u->Stp X.K L ρ' H2 H'->Q u s') ->
   Vg (Vl X.prog X.w) X.A (evalPart e X.env) Q E s2:=λhe I2 hQ=>by
  refine Vo (he pa _ σ _ _ S1 env I2 (λz=>nomatch z)) (λu s' z=>?_) λx s' z=>?_;·obtain⟨o',S2,e,H',ρ',J,sr,st,pr⟩:=z;cases e;exact hQ u s' H' ρ' (I2.step J sr st) pr st
  ·obtain⟨_,_,e,_⟩:=z;cases e
 refine wpAny_Slice (cst hl I1 λvl s2 H2 L I2 pl U=>?_);rw[evalPart_none];refine Vd ?_;refine cst hh I2 λvs B H3 ac I3 ps Y=>?_;have P1:Ves vl l:=Xfo pl (by cases l<;>rfl);have P2:Ves vs (yz c):=Xfo ps rfl;have aa:=(rd.mono U).mono Y;have J:Inv X pa σ H3 {B with heap:=B.heap.push {cls:=.type "slice",data:=.fields #[vl,.none,vs]} }:=I3.inv.kept (t':=B.toks) λb ob q=>Vf _ q;have fin:∀ {T id:String},typeLookup (.type T) "__getitem__"=pure (yz (.builtin id))->({B with heap:=B.heap.push {cls:=.type "slice",data:=.fields #[vl,.none,vs]} }:Vc).TypeIs u T ->
   Vg (Vl X.prog X.w) X.A (getItem u (.ref B.heap.objs.size)) (OkP X pa σ ac H3 (Xe0 l c d S1)) (ExP X pa σ ac H3 (Xe0 l c d S1)) {B with heap:=B.heap.push {cls:=.type "slice",data:=.fields #[vl,.none,vs]} } ->
   Vg (Vl X.prog X.w) X.A (Ve4 a (.Slice lo yy (yz st) p2) u (.ref B.heap.objs.size)) (OkP X pa σ ρ H (Xe0 l c d S1)) (ExP X pa σ ρ H (Xe0 l c d S1)) {B with heap:=B.heap.push {cls:=.type "slice",data:=.fields #[vl,.none,vs]} }:=λt1 t2 g=>
  tail_any (ops:=[u,.ref B.heap.objs.size]) t2 t1 (Vo g (λ_ _ z=>OkP.pre ((ab.trans U).trans Y) z) λ_ _ z=>ExP.pre ((ab.trans U).trans Y) z) (by with_unfolding_all rfl)
 cases d with
 |tup xs=>simp only[RD]at aa;obtain⟨p,ws,rfl,hq,hr⟩:=aa;cases rv;obtain⟨its,r,ht,hz⟩:=J.tuple hq;have af:=r.length;refine fin PyProof.Rows.slot_tuple_getitem.lookup ht.typeIs ?_;refine Xra hc ht (Vhf ..) P1 P2 ?_ (by omega);refine Xck (vs:=Xat ws l c) (J.laid (t':=B.toks) (λb ob q=>Vf _ q) (Vm _) ?_) (J.hok.fresh (Vm _)) I3.sr (X5w hr l c);exact⟨Uv (Xpn ws hc) hz,_,Xwm r l c,⟨_,Vt _ rfl,rfl,_,rfl⟩⟩|_=>cases ae rfl
theorem Xy4{i:Int}{e:Expr}(h:mnC i e=yx):DO X (yz e) (λ_ S=>.ok (yz (.int (-i))) S):=by
 unfold mnC at h;split at h
 ·rename_i x p;split at h;·rename_i j u q;have:=eq_of_beq h;subst this;exact Xpm (Xyy (fa:=λ_ S=>.ok (.int i) S) d_int)
  ·cases h
 cases h
theorem X5x{i:Int}{l:Option Int}{e:Expr}(hi:0<i)(B:DE X a fa)(h:Xq4 i l e=yx):DE X (.Subscript a e pos) (λenv S=>(fa env S).bind λx S=>Xe0 (l.map (- ·)) (-i) x S):=by
 unfold Xq4 at h;split at h
 ·rename_i lo st p;rw[bA0]at h;refine X9g (by omega) B ?_ (Xy4 h.1);have h2:=h.2;split at h2;·exact Xpl
  ·exact Xy4 h2
  cases h2
 cases h
end
end Z
end
section
namespace Z
open PySem PySem.Spec PyProof.Rows L2
section
variable(cm:Bool)(F:Fn)(G:LD)(fns:LF)(gns:LS)
structure PF(X:Cx):Prop where
 blt:∀x∈blts,X.mg x=yy
 fn:∀(f:Nat) nm ar fl,fns[f]?=yz (nm,ar,fl)->(fl=yx->cm=yx)->∃g fd ps k,FnD fl X.prog X.w X.K X.mg X.base k g fd ps (F f)/\RoomC fl k X.A/\Binds X.K fd ps []/\X.mg nm=yz (.ref g)/\Vd4 X.K (.ref g)=yx/\(lf ps)=ar
 glb:∀(k:Nat) nm,gns[k]?=yz nm->∃u d,X.mg nm=yz u/\G[k]?=yz d/\∀ ρ H,∃v,RelV v u/\RD X.K ρ H d v
 clf:∀(f:Nat) (nm:Str),Xd5 f nm G=yx->∃ar fl,fns[f]?=yz (nm,ar,fl)/\(∀a,Va7 X.K Uf nm=yz (yz (.ref a))->X.mg nm=yz (.ref a))/\∀xs S,F f xs S≠.bad->lf xs=ar
 units:X.A.units+200<Vcl
 gd:X.A.guards=yz []
 calm:cm=yx->X.calm=yx
 err:ErrOk X.K
theorem PF.blk(h:PF cm F G fns gns X)(pa:LA)(s:Vc)(H:Hp)(sc:U7)(B:List (Str×Addr))(C:Addr)(own:LS)(fp:LR):PF cm F G fns gns (blk X pa s H sc B C own fp):=
 ⟨h.blt,h.fn,h.glb,h.clf,h.units,h.gd,h.calm,h.err⟩
variable{X:Cx}{e:Expr}{f g:En->Sto->R D}
theorem DE.congr(h:DE X e f)(q:∀env S,g env S=f env S):DE X e g:=by have:g=f:=funext λenv=>funext λS=>q env S;rw[this];exact h
theorem DT.congr{f g:En->Sto->R Bool}(h:DT X e f)(q:∀env S,g env S=f env S):DT X e g:=by have:g=f:=funext λenv=>funext λS=>q env S;rw[this];exact h
theorem Ya0(L:X.N.Nodup)(ht:∀x,top x=yx->X.fn x=yx)(is:LN)(es:LX)(h:mtT.namesB top X.env.scope X.N is es=yx):(∀E,PGs (X.wish E) es (gNs is))/\(Vbt es X.env).length=lf is/\(Vbt es X.env).findIdx? (·.1)=none:=by
 have U:∀(is:LN) (es:LX),mtT.namesB top X.env.scope X.N is es=yx->∃xs:List (Str×Pos),es=xs.map (λx=>Expr.Name x.1 x.2)/\(lf is)=lf xs/\∀(j i:Nat) (x:Str×Pos),is[j]?=yz i->xs[j]?=yz x->X.N[i]?=yz x.1/\Loc X.env.scope x.1/\(X.fn x.1=yx\/X.env.scope.names.lookup x.1=yz .local):=by
  intro is;induction is with
  |nil=>
   intro es h;cases es with
   |nil=>exact⟨[],rfl,rfl,λj i x B _=>by simp at B⟩|cons _ _=>simp[mtT.namesB]at h
  |cons i is ih=>
   intro es h;cases es with
   |nil=>simp[mtT.namesB]at h|cons e es=>
    simp only[mtT.namesB,bA0]at h;obtain⟨x,h1,h2⟩:=Xe h.1;obtain⟨p,rfl⟩:=Xbn h1;rw[bA0,decide_eq_true_eq]at h2;obtain⟨xs,B,J,e3⟩:=ih es h.2;obtain⟨l1,l2⟩:=Xio rfl ht h2.2;refine⟨(x,p)::xs,by rw[B];rfl,by simp[J],λj i' x' Y q2=>?_⟩;cases j with
    |zero=>simp at Y q2;subst Y q2;exact⟨h2.1,l1,l2⟩|succ j=>exact e3 j i' x' (by simpa using Y) (by simpa using q2)
 obtain⟨xs,B,J,e3⟩:=U is es h;subst B;have nm:=Xhf xs X.env;exact⟨λE=>Xsu (X:=X.wish E) is xs L J e3,by rw[nm.1,J],nm.2⟩
theorem Ya1(B:X.N.Nodup)(J:∀x,top x=yx->X.fn x=yx)(h:mtT top X.env.scope X.N (.tup is) tg=yx):∃es k p,tg=.Tuple es k p/\(∀E,PGs (X.wish E) es (gNs is))/\(Vbt es X.env).length=lf is/\(Vbt es X.env).findIdx? (·.1)=none:=by simp only[mtT]at h;obtain⟨es,h1,h⟩:=Xe h;obtain⟨k,p,rfl⟩:=Xcm h1;exact⟨es,k,p,rfl,Ya0 B J is es h⟩
theorem dgB(hN:X.N=N)(hs:X.env.scope=sc)(B:N.Nodup)(hc:X42 t=yw->X.calm=yx)(J:∀x,top x=yx->X.fn x=yx)(h:mtT top sc N t tg=yx):DG X tg t:=by
 subst hN hs;cases t with
 |var i=>simp only[mtT]at h;obtain⟨x,h1,h2⟩:=Xe h;obtain⟨p,rfl⟩:=Xbn h1;rw[bA0,decide_eq_true_eq]at h2;obtain⟨l1,l2⟩:=Xio rfl J h2.2;exact X0e B h2.1 l1 l2|tup is=>obtain⟨es,k,p,rfl,U,Y,L⟩:=Ya1 B J h;exact X38 (hc rfl) U Y L
end
theorem Xpo:∀(es:Exs) (xs:LX),mts cm fns gns sc N es xs=yx->∀env S ds S',evs F G es env S=.ok ds S'->lf ds=lf xs
 |.nil,[]=>λ_ env S ds S' h=>by simp only[evs]at h;cases h;rfl|.nil,_::_=>λh _ _ _ _ _=>by simp[mts]at h|.cons _ _,[]=>λh _ _ _ _ _=>by simp[mts]at h|.cons e es,x::xs=>λh env S ds S' q=>by
  simp only[mts,bA0]at h;simp only[evs]at q;cases J:ev F G e env S with
  |bad=>rw[J]at q;cases q|ex _ _=>rw[J]at q;cases q|ok d S1=>
   rw[J]at q;simp only[Rk0]at q;cases B:evs F G es env S1 with
   |bad=>rw[B]at q;cases q|ex _ _=>rw[B]at q;cases q|ok L S2=>rw[B]at q;simp only[Rk0]at q;cases q;simp[Xpo es xs h.2 env S1 L _ B]
theorem Xb2:∀(es:Exs) (xs:LX),mts cm fns gns sc N es xs=yx->xs.all Yn=yx
 |.nil,[]=>λ_=>rfl|.nil,_::_=>λh=>by simp[mts]at h|.cons _ _,[]=>λh=>by simp[mts]at h|.cons e es,x::xs=>λh=>by simp only[mts,bA0]at h;rw[Vbe,h.1.1,Xb2 es xs h.2];rfl
theorem X1f{k:Bl}{nm:Str}{b:Bool}{id:String}(h:Xq0 k=yz (nm,b,id))(L:∃o,X.K.lookup Vcu=yz o)(J:X.A.guards=yz [])(B:X.A.units+200<Vcl)(hc:Xq1 k=yw->X.calm=yx):nm∈blts/\(if b then Vd6 nm=yz (.builtin id)/\BlR X k (.builtin id) else Vd6 nm=yz (.type id)/\BlR X k (.type id)):=by
 cases k<;>simp only[Xq0,Vv,Vee,reduceCtorEq]at h<;>obtain⟨rfl,rfl,rfl⟩:=h
 case len=>exact⟨by decide,PySem.boot_len,X8x⟩
 case min=>exact⟨by decide,by decide+kernel,X81 (hc rfl)⟩
 case max=>exact⟨by decide,by decide+kernel,X80 (hc rfl)⟩
 case mxl=>exact⟨by decide,by decide+kernel,X82 (hc rfl)⟩
 case sorted=>exact⟨by decide,by decide+kernel,Xv3⟩
 case srt=>exact⟨by decide,by decide+kernel,X87 B⟩
 case all=>exact⟨by decide,by decide+kernel,X8y (hc rfl)⟩
 case anb=>exact⟨by decide,by decide+kernel,X8z (hc rfl)⟩
 case tuple=>exact⟨by decide,by decide+kernel,X0m⟩
 case list=>exact⟨by decide,by decide+kernel,X4i⟩
 case repr=>exact⟨by decide,by decide+kernel,X4r L J B⟩
section
variable{F:Fn}{G:LD}{cm:Bool}{fns:LF}{gns:LS}
theorem Yo(h:DE X e f)(B:∀whole,isTrue e X.env whole=(do let v <- whole;standAt e.pos;Vd5 [v] (truthy v))):DE X e f/\DT X e (λenv S=>tst (f env S)):=⟨h,.of h B⟩
theorem DW.of(h:DT X (.BoolOp op ys p) g):DW X (.BoolOp op ys p) g:=λ_=>h
def Xwo(F:Fn)(G:LD)(X:Cx)(sc2:U7)(N2:LS)(J:Cx->Prop):Gens->List Vbm->Prop
 |.cons t it ifs .nil,gens=>∃tg iter cs,gens=[⟨tg,iter,cs,0⟩]/\Xb6 iter=yx/\mtT (Xbm X.N N2) sc2 N2 t tg=yx/\DI X tg iter (evit F G it)/\∀Y:Cx,Y.N=N2->Y.env.scope=sc2->J Y->DTs Y cs (evts F G ifs)|.cons t it ifs (.cons t2 it2 ifs2 .nil),gens=>∃tg iter cs L B U,gens=[⟨tg,iter,cs,0⟩,⟨L,B,U,0⟩]/\Xb6 iter=yx/\Xb6 B=yx/\mtT (Xbm X.N N2) sc2 N2 t tg=yx/\mtT (Xbm X.N N2) sc2 N2 t2 L=yx/\DI X tg iter (evit F G it) /\
   (∀Y:Cx,Y.N=N2->Y.env.scope=sc2->J Y->DTs Y cs (evts F G ifs))/\(∀Y:Cx,Y.N=N2->Y.env.scope=sc2->J Y->DI Y L B (evit F G it2))/\∀Y:Cx,Y.N=N2->Y.env.scope=sc2->J Y->DTs Y U (evts F G ifs2)|_,_=>False
structure CompP(X:Cx)(elt:Expr)(gens:List Vbm)(scope:U7)(cpos:Pos)(own:LS)(f:En->Sto->R D) where
 tg:Expr
 iter:Expr
 ifs:LX
 t:Tg
 fi:En->Sto->R Src
 tf:En->Sto->R Bool
 body:En->LD->Sto->R (LD)
 hg:gens=⟨tg,iter,ifs,0⟩::gens.tail
 hi:DI X tg iter fi
 hs:∀x,Vbv iter X.env x=pure x
 hG:∀pa s H cl C fp,DG (blk X pa s H scope cl C own fp) tg t
 hT:∀pa s H cl C fp,DTs (blk X pa s H scope cl C own fp) ifs tf
 hB:∀pa s H cl C fp Da,Xb5 yw (LstA X.K Da) (blk X pa s H scope cl C own fp) Da elt gens scope cpos 0 body
 eq:f=Xeq fi t (lf own) tf body
theorem Xpp(hN:X.N=N)(hs:X.env.scope=sc)(hp:PF cm F G fns gns X)(hc:X.calm=yx)(so:ScOk sc scope N (X6 scope))
  (hg:Xwo F G X (Xbl scope sc) (Yt N (X6 scope)) (PF cm F G fns gns) gs gens) (he:∀Y:Cx,Y.N=Yt N (X6 scope)->Y.env.scope=Xbl scope sc->PF cm F G fns gns Y->DE Y elt (ev F G xe)):
  Nonempty (CompP X elt gens scope p (X6 scope) (ev F G (.cmr yw (X6 scope).length gs xe))):=by
 subst hN hs;have L:∀pa s H B C fp,PF cm F G fns gns (blk X pa s H scope B C (X6 scope) fp):=λpa s H B C fp=>PF.blk cm F G fns gns hp pa s H scope B C (X6 scope) fp;have J:∀ {t:Tg} {tg:Expr},mtT (Xbm X.N (Yt X.N (X6 scope))) (Xbl scope X.env.scope) (Yt X.N (X6 scope)) t tg=yx->∀pa s H B C fp,DG (blk X pa s H scope B C (X6 scope) fp) tg t:=λh pa s H B C fp=>dgB (top:=Xbm X.N (Yt X.N (X6 scope))) rfl rfl so.nd (λ_=>hc) (λ_ z=>Xph z) h;match gs,hg with
 |.cons t it ifs .nil,hg=>obtain⟨tg,iter,cs,rfl,n1,m1,i1,t1⟩:=hg;refine⟨⟨tg,iter,cs,t,evit F G it,evts F G ifs,_,rfl,i1,Xba n1,J m1,λpa s H B C fp=>t1 _ rfl rfl (L pa s H B C fp),λpa s H B C fp Da=>Xj6 rfl (he _ rfl rfl (L pa s H B C fp)),?_⟩⟩;funext env S;simp only[ev,Xeq];rfl|.cons t it ifs (.cons t2 it2 ifs2 .nil),hg=>
  obtain⟨tg,iter,cs,ab,aa,ac,rfl,n1,n2,m1,m2,i1,t1,i2,U⟩:=hg;refine⟨⟨tg,iter,cs,t,evit F G it,evts F G ifs,_,rfl,i1,Xba n1,J m1,λpa s H B C fp=>t1 _ rfl rfl (L pa s H B C fp),
   λpa s H B C fp Da=>Xj7 LstA.ok hc rfl (i2 _ rfl rfl (L pa s H B C fp)) (Xba n2) (J m2 pa s H B C fp) (U _ rfl rfl (L pa s H B C fp)) (Xj6 rfl (he _ rfl rfl (L pa s H B C fp))),?_⟩⟩
  funext env S;simp only[ev,Xeq];rfl
theorem X5y (hN:X.N=N) (hs:X.env.scope=sc) (hp:PF cm F G fns gns X) (hc:X.calm=yx) (so:ScOk sc scope N (X6 scope)) (U:Gl X "sorted") (aa:X.mg "sorted"=yy)
  (hg:Xwo F G X (Xbl scope sc) (Yt N (X6 scope)) (PF cm F G fns gns) gs gens) (he:∀Y:Cx,Y.N=Yt N (X6 scope)->Y.env.scope=Xbl scope sc->PF cm F G fns gns Y->DE Y elt (ev F G xe)):
  DE X (.Call (.Name "sorted" p0) [.SetComp elt gens scope p] [] cp) (ev F G (.cms (X6 scope).length gs xe)):=by
 subst hN hs;have L:∀pa s H B C fp,PF cm F G fns gns (blk X pa s H scope B C (X6 scope) fp):=λpa s H B C fp=>PF.blk cm F G fns gns hp pa s H scope B C (X6 scope) fp;have J:∀ {t:Tg} {tg:Expr},mtT (Xbm X.N (Yt X.N (X6 scope))) (Xbl scope X.env.scope) (Yt X.N (X6 scope)) t tg=yx->∀pa s H B C fp,DG (blk X pa s H scope B C (X6 scope) fp) tg t:=λh pa s H B C fp=>dgB (top:=Xbm X.N (Yt X.N (X6 scope))) rfl rfl so.nd (λ_=>hc) (λ_ z=>Xph z) h;match gs,hg with
 |.cons t it ifs .nil,hg=>
  obtain⟨tg,iter,cs,rfl,n1,m1,i1,t1⟩:=hg;refine(Xy1 (n:=(X6 scope).length) U aa hc so rfl rfl i1 (Xba n1) (J m1) (λpa s H B C fp=>t1 _ rfl rfl (L pa s H B C fp)) λpa s H B C fp Da=>Xhk (Y:=blk X pa s H scope B C (X6 scope) fp) rfl (he _ rfl rfl (L pa s H B C fp))).congr λenv S=>?_;simp only[ev,Xqv]
  all_goals rfl|.cons t it ifs (.cons t2 it2 ifs2 .nil),hg=>
  obtain⟨tg,iter,cs,ae,ac,af,rfl,n1,n2,m1,m2,i1,t1,i2,ab⟩:=hg;refine(Xy1 (n:=(X6 scope).length) U aa hc so rfl rfl i1 (Xba n1) (J m1) (λpa s H B C fp=>t1 _ rfl rfl (L pa s H B C fp)) λpa s H B C fp Da=>Xj7 (SetA.ok (X:=blk X pa s H scope B C (X6 scope) fp)) hc rfl (i2 _ rfl rfl (L pa s H B C fp)) (Xba n2) (J m2 pa s H B C fp) (ab _ rfl rfl (L pa s H B C fp)) (Xhk (Y:=blk X pa s H scope B C (X6 scope) fp) rfl (he _ rfl rfl (L pa s H B C fp)))).congr λenv S=>?_;simp only[ev,Xqv]
  all_goals rfl
theorem Xwp {k:Bl} {es:Exs} {x:Str} {ys:LX} (U:∃o,X.K.lookup Vcu=yz o) (L:X.A.guards=yz []) (Y:X.A.units+200<Vcl) (hg:Gl X x) (hb:∀x∈blts,X.mg x=yy) (hc:Xq1 k=yw->X.calm=yx) (h1:blB k x=yx) (o1:(x==("__debug__" : Str))=yw) (o3:x ≠ "__name__") (ih:DA X (y::ys) (evs F G es))
  (he:Ul (y::ys) X.env=(yw,eval y X.env)::Ul ys X.env) (J:(Vc0 p (Ul ys X.env)).any (·.1)=yw):DE X (.Call (.Name x p0) (y::ys) [] p) (ev F G (.blt k es)):=by
 unfold blB at h1;cases q:Xq0 k with
 |none=>rw[q]at h1;cases h1|some z=>
  obtain⟨nm,b,id⟩:=z;rw[q]at h1;dsimp only at h1;have e1:x=nm:=oD0 h1;subst e1;obtain⟨m1,B⟩:=X1f q U L Y hc;cases b with
  |true=>rw[iP0 rfl]at B;exact(X4p B.2 hg (hb _ m1) B.1 ih o3 o1 he J).congr λenv S=>by simp only[ev]|false=>rw[iN0 Us]at B;exact(X4q B.2 hg (hb _ m1) B.1 ih o3 o1 he J).congr λenv S=>by simp only[ev]
theorem Xwq(h1:mtB k nm=yx)(h2:Xqy ox=yx)(U:(ap.endLine==cp.line)=yx)(Y:(y::ys).length<29)(io:DE X ox (ev F G o))(ih:DA X (y::ys) (evs F G es))(st:(y::ys).all Yn=yx):
  DE X (.Call (.Attribute ox nm ap) (y::ys) [] cp) (ev F G (.mth k o es)):=by
 have B:((Vc0 cp (Ul (y::ys) X.env)).all (λx=>!x.1)&&(backToKw cp (keywordEach [] X.env)).all (λx=>x.1.isSome)&&decide ((y::ys).length+([]:List Keyword).length+(if ([]:List Keyword).isEmpty then 0 else 1)<30))=true:=by
  rw[Xwa st];have:(y::ys).length+([]:List Keyword).length+(if ([]:List Keyword).isEmpty then 0 else 1)<30:=by simp only[Vc8,List.isEmpty_nil,if_true];omega
  rw[decide_eq_true this];rfl
 rw[Vbe,bA0]at st;have J:∀ {m:Mt} (x:D) (S:Sto),Y7 m x S=yx->∃n xs,x=.ref n/\Xc S n=yz xs:=λ{m} x S h=>by
  cases x with
  |ref n=>have h':(Xc S n).isSome=true:=h;obtain⟨xs,e⟩:=Vc4.mp h';exact⟨n,xs,rfl,e⟩|_=>cases h
 cases k with
 |append=>have L:nm="append":=oD0 h1;subst L;exact(Xer (m:=.append) (id:="list.append") PySem.F.slot_list_append PySem.F.type_list_append Xv2 J io ih (Xdn h2) B U (Xv st.1) (Xaj st.2)).congr λenv S=>by simp only[ev]|xtd=>have L:nm="extend":=oD0 h1;subst L;exact(Xer (m:=.xtd) (id:="list.extend") PySem.F.slot_list_extend PySem.F.type_list_extend X83 J io ih (Xdn h2) B U (Xv st.1) (Xaj st.2)).congr λenv S=>by simp only[ev]|popi=>have L:nm="pop":=oD0 h1;subst L;exact(Xer (m:=.popi) (id:="list.pop") PySem.F.slot_list_pop PySem.F.type_list_pop X4m J io ih (Xdn h2) B U (Xv st.1) (Xaj st.2)).congr λenv S=>by simp only[ev]|count=>have L:nm="count":=oD0 h1;subst L;exact(Xer (m:=.count) (id:="list.count") PySem.F.slot_list_count PySem.F.type_list_count X0n J io ih (Xdn h2) B U (Xv st.1) (Xaj st.2)).congr λenv S=>by simp only[ev]|index=>have L:nm="index":=oD0 h1;subst L;exact(Xer (m:=.index) (id:="list.index") Vfy PySem.F.type_list_index X0o J io ih (Xdn h2) B U (Xv st.1) (Xaj st.2)).congr λenv S=>by simp only[ev]
theorem Xwr (er:ErrOk X.K) (Y:∀x∈blts,X.mg x=yy) (J:Gl X "isinstance") (hg:Gl X nm) (hok:Y6 nm=yx) (L:tyB sc t nm=yx) (U:DE X a fa) (B:Yn a=yx):
  DE X (.Call (.Name "isinstance" p0) [a,.Name nm p1] [] pos) (λenv S=>(fa env S).bind λx S=>match (kdD S x).bind λk=>Yb k [t] with|some r=>.ok (.bl r) S|none=>.bad):=by
 cases t with
 |cls c=>exact Xti er (.inl ⟨c,rfl,oD0 L⟩) Y J hg hok U B|valueError=>exact Xti er (.inr ⟨rfl,oD0 L⟩) Y J hg hok U B|int=>have e:=oD0 L;subst e;exact Xdp (t:=.int) rfl Y J hg hok U B|bool=>have e:=oD0 L;subst e;exact Xdp (t:=.bool) rfl Y J hg hok U B|str=>have e:=oD0 L;subst e;exact Xdp (t:=.str) rfl Y J hg hok U B|tuple=>have e:=oD0 L;subst e;exact Xdp (t:=.tuple) rfl Y J hg hok U B|list=>have e:=oD0 L;subst e;exact Xdp (t:=.list) rfl Y J hg hok U B|dict=>have e:=oD0 L;subst e;exact Xdp (t:=.dict) rfl Y J hg hok U B
theorem Xy5(B:Xmk t=yx)(h:tyB sc t nm=yx):∃T,Xbo t=yz (nm,T):=by
 cases t with
 |cls c=>cases B|valueError=>cases B|_=>have e:=oD0 h;subst e;exact⟨_,rfl⟩
theorem X1g (er:ErrOk X.K) (U:∀x∈blts,X.mg x=yy) (hs:X.env.scope=sc) (J:Gl X "isinstance") (Y:tyM sc ts y=yx) (L:DE X a fa) (B:Yn a=yx):
  DE X (.Call (.Name "isinstance" p0) [a,y] [] pos) (λenv S=>(fa env S).bind λx S=>match (kdD S x).bind λk=>Yb k ts with|some r=>.ok (.bl r) S|none=>.bad):=by
 rcases X5r Y with⟨t,nm,p,rfl,rfl,h1,h2,h3⟩|⟨t1,t2,n1,n2,p1,p2,k,p,rfl,rfl,h1,h2,h3,h4,h5,h6,h7,h8⟩;·exact Xwr er U J (Yz hs h1) h2 h3 L B
 ·obtain⟨T1,q1⟩:=Xy5 h5 h7;obtain⟨T2,q2⟩:=Xy5 h6 h8;exact X5v q1 q2 U J (Yz hs h1) (Yz hs h3) h2 h4 L B
set_option maxHeartbeats 0 in
theorem X5z{k:Nat}(h:Xiq d c=yx):DE X (.Constant c k p) (ev F G (.cst d)):=by
 cases d with
 |int i=>cases c with
  |int j=>simp only[Xiq,beq_iff_eq]at h;subst h;exact d_int.congr λenv S=>by simp only[ev]|_=>cases h
 |bl i=>cases c with
  |bool j=>simp only[Xiq,beq_iff_eq]at h;subst h;exact d_bl.congr λenv S=>by simp only[ev]|_=>cases h
 |non=>cases c with
  |none=>exact d_non.congr λenv S=>by simp only[ev]|_=>cases h
 |str i=>cases c with
  |str j=>simp only[Xiq,decide_eq_true_eq]at h;subst h;exact d_str.congr λenv S=>by simp only[ev]|_=>cases h
 |_=>cases h
mutual
theorem snd:∀(x:Ex) (X:Cx) (sc:U7) (N:LS) (e:Expr),X.N=N->X.env.scope=sc->PF cm F G fns gns X->mt cm fns gns sc N x e=yx->DE X e (ev F G x)/\DT X e (λenv S=>tst (ev F G x env S))
 |.nev=>λX sc N e hN hs hp h=>⟨λ_ _ _ _ _ _ _ _ nb=>aB0 (by simp only[ev]) nb,λ_ _ _ _ _ _ _ _ nb=>aB0 (by simp only[ev]<;>rfl) nb⟩|.var i=>λX sc N e hN hs hp h=>by obtain⟨x,p,rfl,h1,h2,B⟩:=X48 h;subst hN hs;obtain⟨o1,o2,_⟩:=Xan B;exact Yo ((X8e h1 (X0t h2) o1 o2).congr λenv S=>by simp only[ev]<;>rfl) λ_=>rfl|.cst d=>λX sc N e hN hs hp h=>by obtain⟨c,k,p,rfl,h⟩:=X49 h;exact Yo (X5z h) λ_=>rfl|.neg a=>λX sc N e hN hs hp h=>by obtain⟨x,p,rfl,h⟩:=X5a h;exact Yo ((Xyy (snd a X sc N x hN hs hp h).1).congr λenv S=>by simp only[ev]<;>rfl) λ_=>rfl|.glb k=>λX sc N e hN hs hp h=>by obtain⟨x,p,rfl,h1,h2,B⟩:=X5c h;obtain⟨o1,o2,_⟩:=Xan B;obtain⟨u,d,q1,q2,q3⟩:=hp.glb k x h1;exact Yo ((X86 (Yz hs h2) q1 q3 o1).congr λenv S=>by simp only[ev,q2]) λ_=>rfl|.tup es=>λX sc N e hN hs hp h=>by obtain⟨xs,k,p,rfl,h⟩:=X5d h;exact Yo ((X8f (snds es X sc N xs hN hs hp h)).congr λenv S=>by simp only[ev]) λ_=>rfl|.lst es=>λX sc N e hN hs hp h=>by obtain⟨xs,p,rfl,h⟩:=X5e h;exact Yo ((X8g (snds es X sc N xs hN hs hp h)).congr λenv S=>by simp only[ev]) λ_=>rfl|.dct0=>λX sc N e hN hs hp h=>by obtain⟨p,rfl⟩:=X06 h;exact Yo (d_dct0.congr λenv S=>by simp only[ev]) λ_=>rfl|.bin op a b=>λX sc N e hN hs hp h=>by obtain⟨x,y,p,rfl,h1,h2⟩:=X5f h;exact Yo ((X8h (X8q op) (snd a X sc N x hN hs hp h1).1 (snd b X sc N y hN hs hp h2).1).congr λenv S=>by simp only[ev]) λ_=>rfl|.cmp op a b=>λX sc N e hN hs hp h=>by obtain⟨x,y,p,rfl,h1,h2,B⟩:=X5g h;have J:=(snd a X sc N x hN hs hp h2).1;have U:=(snd b X sc N y hN hs hp B).1;exact⟨(X8i (Xfj hp.units op) J U h1).congr λenv S=>by simp only[ev],(X3v (Xfj hp.units op) J U h1).congr λenv S=>by simp only[ev]⟩|.chn o1 o2 a b c=>λX sc N e hN hs hp h=>by obtain⟨x,y,z,p,rfl,h1,h2,B,L⟩:=X5h h;have J:=(snd a X sc N x hN hs hp h2).1;have U:=(snd b X sc N y hN hs hp B).1;have hc:=(snd c X sc N z hN hs hp L).1;exact⟨(X85 (Xfj hp.units o1) (Xfj hp.units o2) J U hc h1).congr λenv S=>by simp only[ev,Y5]<;>rfl,(X4o (Xfj hp.units o1) (Xfj hp.units o2) J U hc h1).congr λenv S=>by simp only[ev,Y5]<;>rfl⟩|.and a b=>λX sc N e hN hs hp h=>by
  rcases X5i h with⟨x,y,p,rfl,h1,h2⟩|⟨x,y,z,r,p,rfl,h1,h2⟩;·have J:=snd a X sc N x hN hs hp h1;have U:=snd b X sc N y hN hs hp h2;exact⟨(Xys J.1 (Xyt U.1)).congr λenv S=>by simp only[ev]<;>rfl,((Xsm J.2 (Xz4 U.2)).dt).congr λenv S=>by simp only[ev]<;>rfl⟩
  ·have J:=snd a X sc N x hN hs hp h1;have U:=snd b X sc N (.BoolOp .And (y::z::r) p) hN hs hp h2;exact⟨(Xys J.1 U.1).congr λenv S=>by simp only[ev]<;>rfl,((Xsm J.2 (.of U.2)).dt).congr λenv S=>by simp only[ev]<;>rfl⟩|.or a b=>λX sc N e hN hs hp h=>by
  rcases X9e h with⟨x,y,p,rfl,h1,h2⟩|⟨x,y,z,r,p,rfl,h1,h2⟩;·have J:=snd a X sc N x hN hs hp h1;have U:=snd b X sc N y hN hs hp h2;exact⟨(X3w J.1 (Xyt U.1)).congr λenv S=>by simp only[ev]<;>rfl,((Xyu J.2 (X3y U.2)).dt).congr λenv S=>by simp only[ev]<;>rfl⟩
  ·have J:=snd a X sc N x hN hs hp h1;have U:=snd b X sc N (.BoolOp .Or (y::z::r) p) hN hs hp h2;exact⟨(X3w J.1 U.1).congr λenv S=>by simp only[ev]<;>rfl,((Xyu J.2 (.of U.2)).dt).congr λenv S=>by simp only[ev]<;>rfl⟩|.not a=>λX sc N e hN hs hp h=>by obtain⟨x,p,rfl,h⟩:=X5b h;have J:=snd a X sc N x hN hs hp h;exact⟨(X8j J.2 J.1).congr λenv S=>by simp only[ev]<;>rfl,(X3x J.2).congr λenv S=>by simp only[ev]<;>rfl⟩|.ite c a b=>λX sc N e hN hs hp h=>by obtain⟨x,y,z,p,rfl,h1,h2,B⟩:=X5j h;have hc:=snd c X sc N x hN hs hp h1;have J:=snd a X sc N y hN hs hp h2;have U:=snd b X sc N z hN hs hp B;exact⟨(X8k hc.2 J.1 U.1).congr λenv S=>by simp only[ev]<;>rfl,(X4n hc.2 J.2 U.2).congr λenv S=>by simp only[ev]<;>rfl⟩|.idx a i=>λX sc N e hN hs hp h=>by obtain⟨x,y,p,rfl,h1,h2,B⟩:=X5k h;exact Yo ((X8s (Xqx h1) (snd a X sc N x hN hs hp h2).1 (snd i X sc N y hN hs hp B).1).congr λenv S=>by simp only[ev]) λ_=>rfl|.sli a lo hi=>λX sc N e hN hs hp h=>by obtain⟨x,l,u,p2,p,rfl,h1,h2,B⟩:=X5s h;exact Yo ((X9f (snd a X sc N x hN hs hp h1).1 (sndo lo X sc N l hN hs hp h2) (sndo hi X sc N u hN hs hp B)).congr λenv S=>by simp only[ev]<;>rfl) λ_=>rfl|.rev a=>λX sc N e hN hs hp h=>by obtain⟨x,y,p,rfl,h1,h2⟩:=X5t h;exact Yo ((X5x (by decide) (snd a X sc N x hN hs hp h2).1 h1).congr λenv S=>by simp only[ev];congr 1;funext x S;exact(Xwn x S).symm) λ_=>rfl|.isi a ts=>λX sc N e hN hs hp h=>by obtain⟨p0,x,y,cp,rfl,h1,h2,B,L⟩:=X5q h;have ih:=(snd a X sc N x hN hs hp B).1;exact Yo ((X1g hp.err hp.blt hs (Yz hs h1) L ih h2).congr λenv S=>by simp only[ev]<;>rfl) λ_=>rfl|.lrg t .nil=>λX sc N e hN hs hp h=>by cases h|.lrg t (.cons a .nil)=>λX sc N e hN hs hp h=>by obtain⟨p,p2,x,cp,ab,rfl,h1,h2,B,L,h5⟩:=X5l h;have ih:=(snd a X sc N x hN hs hp h5).1;exact Yo ((X89 (hp.calm h1) (Yz hs h2) (hp.blt _ (by cases t<;>decide)) (Yz hs B) (hp.blt _ (by decide)) ih (Xv L)).congr λenv S=>by simp only[ev,evs];cases ev F G a env S<;>rfl) λ_=>by cases t<;>rfl|.lrg t (.cons _ (.cons _ _))=>λX sc N e hN hs hp h=>by cases h|.call f es=>λX sc N e hN hs hp h=>by obtain⟨x,p0,y,ys,p,rfl,h1,h2,B,L⟩:=X07 h;obtain⟨o1,o2,_⟩:=Xan B;obtain⟨fl,h1,ac⟩:=h1;obtain⟨g,fd,ps,k,c1,c2,c3,c4,c5,c6⟩:=hp.fn f x _ fl h1 ac;have st:=Xb2 es (y::ys) L;rw[Vbe,bA0]at st;exact Yo ((X32 c1 c2 c3 (Yz hs h2) c4 c5 (snds es X sc N (y::ys) hN hs hp L) (λenv S ds S' q=>by rw[c6];exact Xpo es (y::ys) L env S ds S' q) o1 (Xv st.1) (Xaj st.2)).congr λenv S=>by simp only[ev]) λ_=>rfl|.blt k es=>λX sc N e hN hs hp h=>by obtain⟨x,p0,y,ys,p,rfl,h1,hq,h2,B,L⟩:=X5o h;obtain⟨o1,o2,o3⟩:=Xan B;have st:=Xb2 es (y::ys) L;rw[Vbe,bA0]at st;have ih:=snds es X sc N (y::ys) hN hs hp L;exact Yo (Xwp hp.err.sm hp.gd hp.units (Yz hs h2) hp.blt (λz=>hp.calm (by rw[z,Bool.or_false]at hq;exact hq)) h1 o1 o3 ih (Xv st.1) (Xaj st.2)) λ_=>rfl|.mth k o es=>λX sc N e hN hs hp h=>by obtain⟨ox,nm,ap,y,ys,cp,rfl,h1,h2,B,L,h5,h6⟩:=X5p h;have st:=Xb2 es (y::ys) h6;have ih:=snds es X sc N (y::ys) hN hs hp h6;have io:=(snd o X sc N ox hN hs hp h5).1;exact Yo (Xwq h1 h2 B L io ih st) λ_=>rfl|.sst a=>λX sc N e hN hs hp h=>by obtain⟨p,p2,x,cp,ab,rfl,h1,h2,B,L,h5⟩:=X5m h;have ih:=(snd a X sc N x hN hs hp h5).1;exact Yo ((X88 hp.units (hp.calm h1) (Yz hs h2) (hp.blt _ (by decide)) (Yz hs B) (hp.blt _ (by decide)) ih (Xv L)).congr λenv S=>by simp only[ev]<;>rfl) λ_=>rfl|.cms n gs elt=>λX sc N e hN hs hp h=>by obtain⟨p0,ee,gens,scope,p,cp,rfl,e2,h0,h2,B,L,h5⟩:=X5n h;subst h2;exact Yo (X5y hN hs hp (hp.calm h0) (Xmm B) (Yz hs e2) (hp.blt _ (by decide)) (sndg gs X sc N _ _ gens hN hs hp L) (λY y1 y2 y3=>(snd elt Y _ _ ee y1 y2 y3 h5).1)) λ_=>rfl|.cmr k n gs elt=>λX sc N e hN hs hp h=>by obtain⟨ee,gens,scope,p,rfl,h0,h1,h2,B,L,h5⟩:=Xtf h;subst h1 h2;have so:=Xmm B;have aa:=hp.calm h0;obtain⟨c⟩:=Xpp (p:=p) hN hs hp aa so (sndg gs X sc N _ _ gens hN hs hp L) (λY y1 y2 y3=>(snd elt Y _ _ ee y1 y2 y3 h5).1);subst hN hs;refine Yo ?_ λ_=>rfl;rw[c.eq];exact X4h aa so rfl c.hg c.hi c.hs c.hG c.hT c.hB
theorem sndo:∀(o:Op) (X:Cx) (sc:U7) (N:LS) (x:Option Expr),X.N=N->X.env.scope=sc->PF cm F G fns gns X->mto cm fns gns sc N o x=yx->DO X x (evo F G o)
 |.none=>λX sc N x hN hs hp h=>by
  cases x with
  |none=>
   have:evo F G .none=λ_ S=>.ok yy S:=by funext env S;simp only[evo]
   rw[this];exact Xpl|some _=>cases h
 |.some e=>λX sc N x hN hs hp h=>by
  cases x with
  |none=>cases h|some x=>
   have h':mt cm fns gns sc N e x=true:=h;have:evo F G (.some e)=λenv S=>(ev F G e env S).bind λx S=>.ok (yz x) S:=by funext env S;simp only[evo]
   rw[this];exact Xpm (snd e X sc N x hN hs hp h').1
theorem snds:∀(es:Exs) (X:Cx) (sc:U7) (N:LS) (xs:LX),X.N=N->X.env.scope=sc->PF cm F G fns gns X->mts cm fns gns sc N es xs=yx->DA X xs (evs F G es)
 |.nil,X,sc,N,[]=>λhN hs hp h=>by
  have:evs F G .nil=λ_ S=>.ok [] S:=by funext env S;simp only[evs]
  rw[this];exact X3u|.cons e es,X,sc,N,x::xs=>λhN hs hp h=>by
  simp only[mts,bA0]at h;have:evs F G (.cons e es)=λenv S=>(ev F G e env S).bind λx S=>(evs F G es env S).bind λxs S=>.ok (x::xs) S:=by funext env S;simp only[evs]
  rw[this];exact Xz3 (snd e X sc N x hN hs hp h.1.2).1 (snds es X sc N xs hN hs hp h.2) (Xv h.1.1)|.nil,X,sc,N,_::_=>λhN hs hp h=>by simp[mts]at h|.cons _ _,X,sc,N,[]=>λhN hs hp h=>by simp[mts]at h
theorem Xrb:∀(es:Exs) (X:Cx) (sc:U7) (N:LS) (xs:LX),X.N=N->X.env.scope=sc->PF cm F G fns gns X->mts cm fns gns sc N es xs=yx->DTs X xs (evts F G es)
 |.nil,X,sc,N,[]=>λhN hs hp h=>by
  have:evts F G .nil=λ_ S=>.ok yx S:=by funext env S;simp only[evts]
  rw[this];exact X0g|.cons e es,X,sc,N,x::xs=>λhN hs hp h=>by
  simp only[mts,bA0]at h;have:evts F G (.cons e es)=λenv S=>(ev F G e env S).bind λx S=>match Xg S x with|some yx=>evts F G es env S|some yw=>.ok yw S|none=>.bad:=by funext env S;simp only[evts]<;>rfl
  rw[this];exact Xvz (snd e X sc N x hN hs hp h.1.2).2 (Xrb es X sc N xs hN hs hp h.2)|.nil,X,sc,N,_::_=>λhN hs hp h=>by simp[mts]at h|.cons _ _,X,sc,N,[]=>λhN hs hp h=>by simp[mts]at h
theorem Xrc:∀(it:It) (X:Cx) (sc:U7) (N:LS) (tg x:Expr),X.N=N->X.env.scope=sc->PF cm F G fns gns X->(Xq3 it=yx->∃es k p,tg=.Tuple es k p)->mtI cm fns gns sc N it x=yx->DI X tg x (evit F G it)
 |.val e=>λX sc N tg x hN hs hp _ h=>by
  simp only[mtI]at h;have:evit F G (.val e)=λenv S=>(ev F G e env S).bind λx S=>match Ys S x with|some r=>.ok r S|none=>.bad:=by funext env S;simp only[evit]<;>rfl
  rw[this];exact X39 (snd e X sc N x hN hs hp h).1|.rng es=>λX sc N tg x hN hs hp _ h=>by
  obtain⟨L,y,ys,p,rfl,h2,B⟩:=X09 h;have st:=Xb2 es (y::ys) B;rw[Vbe,bA0]at st;have:evit F G (.rng es)=λenv S=>(evs F G es env S).bind λxs S=>match Yu xs with|some ds=>.ok (.con ds) S|none=>.bad:=by funext env S;simp only[evit]<;>rfl
  rw[this];exact X4a (Yz hs h2) (hp.blt _ (by decide)) (snds es X sc N (y::ys) hN hs hp B) (Xv st.1) (Xaj st.2)|.zpp es=>λX sc N tg x hN hs hp J h=>by
  obtain⟨L,y,ys,p,rfl,h2,B⟩:=X08 h;obtain⟨U,k,Y,rfl⟩:=J rfl;have st:=Xb2 es (y::ys) B;rw[Vbe,bA0]at st;have:evit F G (.zpp es)=λenv S=>(evs F G es env S).bind λxs S=>match xs with
   |[x,y]=>match Ys S x,Ys S y with
    |some s,yz t=>.ok (.zpp s t) S|_,_=>.bad
   |_=>.bad:=by funext env S;simp only[evit]<;>rfl
  rw[this];exact X4d (Yz hs h2) (hp.blt _ (by decide)) (snds es X sc N (y::ys) hN hs hp B) (Xv st.1) (Xaj st.2)
theorem sndg:∀(gs:Gens) (X:Cx) (sc:U7) (N:LS) (sc2:U7) (N2:LS) (gens:List Vbm),X.N=N->X.env.scope=sc->PF cm F G fns gns X->mtG cm fns gns sc N sc2 N2 gs gens=yx->Xwo F G X sc2 N2 (PF cm F G fns gns) gs gens
 |.nil=>λX sc N sc2 N2 gens hN hs hp h=>(X9a h).elim|.cons t it ifs .nil=>λX sc N sc2 N2 gens hN hs hp h=>by obtain⟨tg,iter,cs,rfl,h2,h3,h4,h5,h6⟩:=X9b h;exact⟨tg,iter,cs,rfl,h2,hN▸h3,Xrc it X sc N tg iter hN hs hp (Xhn h6 h3) h4,λY U L J=>Xrb ifs Y sc2 N2 cs U L J h5⟩|.cons t it ifs (.cons t2 it2 ifs2 .nil)=>λX sc N sc2 N2 gens hN hs hp h=>by obtain⟨tg,iter,cs,aa,B,ab,rfl,h3,h4,h5,h6,h7,h8,h9,af,ac,ae⟩:=X9c h;exact⟨tg,iter,cs,aa,B,ab,rfl,h3,h4,hN▸h5,hN▸h8,Xrc it X sc N tg iter hN hs hp (Xhn ac h5) h6,λY U L J=>Xrb ifs Y sc2 N2 cs U L J h7,λY U L J=>Xrc it2 Y sc2 N2 aa B U L J (Xhn ae h8) h9,λY U L J=>Xrb ifs2 Y sc2 N2 ab U L J af⟩|.cons t it ifs (.cons t2 it2 ifs2 (.cons _ _ _ _))=>λX sc N sc2 N2 gens hN hs hp h=>(X9d h).elim
end
variable{X:Cx}{pa:LA}{σ:L2.St}{H:Hp}{s:Vc}{ρ:LR}{S S':Sto}{env:En}{a b e tg:Expr}{f:En->Sto->R D}{pos:Pos}
theorem X50(he:DE X e f)(hg:DG X tg t)(hs:Vdw [tg] e pos.line X.env=pure yw)(hw:Vdx [tg] e X.env=pure yy)(h1:(Vbt [tg] X.env).map (·.2)=[assign tg X.env]):
  DS X (.Assign [tg] e pos) yw (λenv S=>(f env S).bind λx S=>match Xu t x env with|some env=>.ok (.nx env) S|none=>.bad):=by
 intro pa s σ H ρ S env I L;dsimp only at L ⊢;cases q:f env S with
 |bad=>rw[q]at L;cases L rfl|ex n S1=>exact Vg0 (he.ex I q λx s' z=>.of .refl z rfl) hs hw|ok d S1=>
  rw[q]at L;simp only[Rk0]at L ⊢;cases Y:Xu t d env with
  |none=>rw[Y]at L;cases L rfl|some B=>refine Vg0 (he.ok I q λu s' v H' ρ' J rv rd st=>?_) hs hw;rw[h1];exact hg pa s' σ H' ρ' S1 env d v u B _ _ J Y rd rv λs2 U I2=>⟨.nx B,S1,rfl,rfl,U,H',ρ',I2,st,λz=>nomatch z⟩
theorem X1h{kt k2 pt2}(hc:X.calm=yx)(hN:X.N.Nodup)(hi:X.N[i]?=yz x)(hj:X.N[j]?=yz y)(ag:i≠j)
  (hx:X.env.scope.names.lookup x=yz .local) (hy:X.env.scope.names.lookup y=yz .local) (ha:DA X [a,b] ga)
  (hw:Vdx [.Tuple [.Name x px,.Name y py] kt pt] (.Tuple [a,b] k2 pt2) X.env=pure (yz [x,y]))
  (hs:Vdw [.Tuple [.Name x px,.Name y py] kt pt] (.Tuple [a,b] k2 pt2) pos.line X.env=pure yw):
  DS X (.Assign [.Tuple [.Name x px,.Name y py] kt pt] (.Tuple [a,b] k2 pt2) pos) yw (λenv S=>(ga env S).bind λxs S=>if [i,j].length=lf xs then .ok (.nx (([i,j].zip xs).foldl (λe p=>e.set p.1 (yz p.2)) env)) S else .bad):=by
 intro pa s σ H ρ S env I B;dsimp only at B ⊢;rw[exec_Assign_arm];refine Va (Vef ?_);rw[hs];refine Va (Vd ?_);rw[iN0 (by decide)];cases q:ga env S with
 |bad=>rw[q]at B;cases B rfl|ex n S1=>exact Va (Tuple_ (ha.ex I q λx s' z=>.of .refl z rfl))|ok ds S1=>
  rw[q]at B;simp only[Rk0]at B ⊢;split at B
  ·rename_i hl;rw[iP0 hl];obtain⟨Y,d2,rfl⟩:∃Y d2,ds=[Y,d2]:=by
    match ds,hl with
    |[Y,d2],_=>exact⟨Y,d2,rfl⟩
   refine Va (Tuple_ (ha.ok I q λus U vs H1 aj I1 aa ah ae=>?_));obtain⟨v,w,rfl,ab,ac⟩:=ah.two;obtain⟨L,J,rfl,rv,ai⟩:∃L J,us=[L,J]/\RelV v L/\RelV w J:=by
    cases aa with
    |cons p q=>
     cases q with
     |cons p' q'=>cases q';exact⟨_,_,rfl,p,p'⟩
   refine U8 ?_ (by show 2<=V8;decide);have I2:Inv X pa σ H1 {U with heap:=U.heap.push {cls:=.type "tuple",data:=.seq [L,J].toArray} }:=I1.inv.kept (t':=U.toks) λb o e=>Vf _ e;rw[hw];refine Va (Vd ?_);show Vg (Vl X.prog X.w) X.A (do rule "assign.swapped-stores";let items <- unpackItems (.ref U.heap.objs.size) 2 yy;assignInOrder [λv=>bindName X.env y v,λv=>bindName X.env x v] items.reverse;pure Flow.next) _ _ _;refine Va (Vd0 (Va (unpackItems_tuple (items:=#[L,J]) (I.inv.ok.hd hc) (IsTup.new U.heap _) λh' af=>?_)));have I3:=I2.kept (h':=h') (t':=U.toks) λb o e=>af b o (Uc (Vw e)) e;show Vg _ _ (assignInOrder [λv=>bindName X.env y v,λv=>bindName X.env x v] [J,L] >>= λ_=>pure Flow.next) _ _ _;refine Va (Vg9 (wpAny_bindName (Xbv I3 hN hj (.inl hy) ai (λs2 I4=>?_) (.inr hy))));refine Vg9 (wpAny_bindName (Xbv I4 hN hi (.inl hx) rv (λs3 I5=>assignInOrder_nil (Vd ?_)) (.inr hx)));rw[List.set_comm _ _ (Ne.symm ag)]at I5;exact⟨.nx ((env.set i (yz Y)).set j (yz d2)),S1,rfl,rfl,_,H1,aj,⟨I5,I1.sr,(I1.er.set i ab).set j ac⟩,ae,λz=>nomatch z⟩
  cases B rfl
theorem X51(hu:X.A.units+1<Vcl)(I:S0 X pa σ H s ρ S env)(B:Xcy x y d S≠.bad)(rx:RD X.K ρ H x vx)(qx:RelV vx ux)(ry:RD X.K ρ H y vy)(qy:RelV vy uy)(rd:RD X.K ρ H d v)(rv:RelV v u)
  (L:∀S' s' H',Xcy x y d S=.ok () S'->S0 X pa σ H' s' ρ S' env->Stp X.K ρ ρ H H'->Q () s'):Vg (Vl X.prog X.w) X.A (setItem ux uy u) Q Ev s:=by
 unfold Xcy at B L;cases x with
 |ref n=>dsimp only at B L;cases y with
  |int k=>
   dsimp only at B L;cases e:Z.lstM S n with
   |none=>rw[e]at B;cases B rfl|some xs=>
    rw[e]at B L;dsimp only at B L;cases Y:Z.ixN (lf xs) k with
    |none=>rw[Y]at B;cases B rfl|some j=>
     rw[Y]at L;obtain⟨a,U,rfl,ha,hv,hr⟩:=I.lstR e rx;simp only[RD]at ry;subst ry;have hl:L2.ixN U.length k=yz j:=by rw[<-hr.length];exact Y
     refine thn (Xva (X:=X.wish Ev) pa s σ H (.ref a) (.int k) v ux uy u (λH'=>H'=upd H a (.lst (U.set j v))) (I.inv.wish Ev) qx qy rv ⟨a,U,k,j,rfl,rfl,hv,hl,rfl⟩) λ_ s' ⟨H',J,e3⟩=>?_;subst e3;have nf:∀o u,H a≠yz (.frz o u):=λo u z=>by rw[hv]at z;cases z
     have st:Stp X.K ρ ρ H (upd H a (.lst (U.set j v))):=Stp.chg (S:=S) (o:=.lst (xs.set j d)) I.sr ha nf;exact L _ s' _ rfl ⟨J.unwish,I.sr.chg ha nf ⟨U.set j v,Yi,(hr.set rd j).mono st⟩,I.er.mono st⟩ st
  |_=>cases B rfl
 |_=>cases B rfl
variable{o i:Expr}{fo fi:En->Sto->R D}{spos:Pos}
theorem X1i(hu:X.A.units+1<Vcl)(he:DE X e f)(ho:DE X o fo)(hi:DE X i fi)(hs:Vdw [.Subscript o i spos] e pos.line X.env=pure yw)(hw:Vdx [.Subscript o i spos] e X.env=pure yy)
  (hA:∀v,assign (.Subscript o i spos) X.env v=(do
   let ov <- Vd5 [v] (eval o X.env)
   let iv <- Vd5 [v,ov] (eval i X.env)
   standAt spos
   Vd5 [v,ov,iv] (setItem ov iv v)
   release [v,ov,iv] [])):
  DS X (.Assign [.Subscript o i spos] e pos) yx (λenv S=>(f env S).bind λv S=>(fo env S).bind λx S=>(fi env S).bind λy S=>(Xcy x y v S).bind λ_ S=>.ok (.nx env) S):=by
 intro pa s σ H ρ S env I nb;dsimp only at nb ⊢;generalize hr:(f env S).bind (λv S=>(fo env S).bind λx S=>(fi env S).bind λy S=>(Xcy x y v S).bind λ_ S=>R.ok (Fl.nx env) S)=r at nb ⊢;have h1:(Vbt [Expr.Subscript o i spos] X.env).map (·.2)=[assign (.Subscript o i spos) X.env]:=rfl;refine Vg0 (he.bind I (by rw[hr];exact nb) hr.symm (λd S1 u s1 v H1 aj e1 Y I1 rv rd B=>?_) λx s' ⟨n,S2,e2,z⟩=>.of .refl z e2) hs hw;rw[h1];show Vg _ _ (assign (.Subscript o i spos) X.env u) _ _ _;rw[hA];refine Va (Uo (ho.bind I1 Y e1 (λx S2 ux s2 vx H2 ai e2 ag I2 U ac J=>?_) λx s' ⟨n,S3,e3,z⟩=>.of B z e3));refine Va (Uo (hi.bind I2 ag e2 (λy S3 uy s3 vy H3 aa e3 af I3 ae ab L=>?_) λx s' ⟨n,S4,e4,z⟩=>.of (B.trans J) z e4));refine Va (Vef (Va (Uo (X51 hu I3 (λz=>af (by rw[z];rfl)) (ac.mono L) U ab ae ((rd.mono J).mono L) rv λS4 s4 H4 e4 I4 ah=>?_))));refine wpAny_release ⟨.nx env,S4,by rw[e3,e4];rfl,rfl,σ,H4,aa,I4,B.trans (J.trans (L.trans ah)),λ_=>rfl⟩
end
def X52(C:Addr)(h:Heap):Prop:=∃tl N nm qn bs hd L sub Y B dd k0 k1 k2 k3 U J,
 h.get? C=yz (excClassObj nm qn C N bs tl hd L sub Y B dd k0 k1 k2 k3 U "ValueError.__new__")/\h.Ns N J/\J "__init__"=yy/\OwnTail h bmV tl
theorem X1j{K:Vj}{h:Heap}{C:Addr}(L:K.In h)(B:Xmp K C=yx):X52 C h:=by
 unfold Xmp at B;cases Y:K.lookup C with
 |none=>rw[Y]at B;cases B|some o=>
  rw[Y]at B;dsimp only at B;cases J:Xwg o.data with
  |none=>rw[J]at B;cases B|some cd=>rw[J]at B;simp only[bA0,beq_iff_eq,Vav]at B;obtain⟨⟨⟨⟨⟨⟨e0,e1⟩,e2⟩,e3⟩,e4⟩,e5⟩,e6⟩:=B;obtain⟨cl,dct,dt,U⟩:=o;obtain⟨nm,bs,aa,ns,qn,hd,sn,sub,ab,ae,ac⟩:=cd;dsimp only at e0 e1 e2 e3 e4 e5 e6 J;obtain rfl:=X1a J;obtain⟨tl,e7⟩:∃tl,aa=.ref C::tl:=⟨_,e1⟩;obtain⟨k0,k1,k2,k3,k5,e8⟩:∃k0 k1 k2 k3 k5,U=#[k0,k1,k2,k3,yz (.builtin "ValueError.__new__"),k5]:=⟨_,_,_,_,_,e2⟩;clear e1 e2;subst e0 e3 e7 e8;exact⟨tl,_,_,_,_,_,_,_,_,_,_,_,_,_,_,_,_,L _ _ Y,.of_isNs (PySem.W.isNs_of_in L e5),PySem.W.nsMap_none_of_in L e5 e6,PySem.W.tail_of_in L e4⟩
theorem _root_.L2.Inv.newX(I:Inv X pa σ H s)(k:∀b u,s.heap.get? b=yz u->h'.get? b=yz u)(hn:s.heap.get? a=yy)
  (new:ObjOk X.prog X.w (upd H a o) h' a o):Inv X pa σ (upd H a o) {s with heap:=h' }/\HOk X.prog X.w (upd H a o) h':=by
 have B:H a=none:=by
  cases z:H a with
  |none=>rfl|some w=>obtain⟨q,e⟩:=Xb7 (I.hok a w z);rw[hn]at e;cases e
 have ne:∀b u,H b=yz u->b≠a:=λb u q=>Xs q B;have hok:HOk X.prog X.w (upd H a o) h':=λb u q=>by
  by_cases J:b=a;·subst J;rw[Yi]at q;cases q;exact new
  ·rw[Xj J]at q;exact(I.hok b u q).stay (λc v _ e=>k c v e) (λc z=>by rw[Xj (ne c _ z)];exact z) λc xs z=>by rw[Xj (ne c _ z)];exact z
 refine⟨I.un (t':=s.toks) ⟨λb u e _ _ _=>k b u e,λb u e _ _ _=>⟨u.slots,k b u e⟩,λb u e n _=>?_,λb u e _=>⟨u,k b u e⟩,λb xs z=>by rw[Xj (ne b _ z)];exact z,λb u xs z=>by rw[Xj (ne b _ z)];exact z,λb ps z=>⟨#[],by rw[Xj (ne b _ z),z];simp⟩⟩ hok,hok⟩;rw[Xj (λz=>by rw[z,hn]at e;cases e)];exact n
section
variable{X:Cx}{pa:LA}{σ:L2.St}{H:Hp}{s:Vc}{ρ:LR}{S:Sto}{env:En}{e:Expr}{f:En->Sto->R D}{pos np cpos:Pos}
theorem X53{c:Nat}{x:Str}{C:Addr}(hc:X.calm=yx)(hx:Xbi c=yz x)(hn:Va7 X.K Uf x=yz (yz (.ref C)))(hq:Xmp X.K C=yx)
  (hg:Gl X x) (ag:(x==("__debug__" : Str))=yw) (he:DE X e f) (Y:Yn e=yx):DS X (.Raise (yz (.Call (.Name x np) [e] [] cpos)) yy pos) yx (λenv S=>(f env S).bind λ_ S=>.ex (lf S) (S++[.exc c])):=by
 intro pa s σ H ρ S env I nb;dsimp only at nb ⊢;have hm:X.mg x=yz (.ref C):=Vdu I.inv.mod.kin I.inv.mod.glob hn;have ac:Y9 X.K c=yz C:=by unfold Y9;rw[hx];simp only[Vq,hn]
 obtain⟨tl,N,nm,qn,bs,hd,sn,sub,ab,aa,dd,k0,k1,k2,k3,k5,mN,hC,hN,af,T⟩:=X1j I.inv.mod.kin hq;refine wpAny_Raise_call_subT (C:=C) (nm:=nm) (q:=qn) (N:=N) (bs:=bs) (bm:=tl) (hdct:=hd) (sn:=sn) (sub:=sub) (ab:=ab) (col:=aa) (dd:=dd) (k0:=k0) (k1:=k1) (k2:=k2) (k3:=k3) (k5:=k5)
  PySem.F.excBase_ValueError (mN:=mN) (T.hasType PySem.F.excBase_ValueError.hasBase) (I.inv.ok.hd hc) (by rw[Xv Y];rfl) af (Xdh I.inv hg hm ⟨rfl,?_⟩ ag)
 rw[Xv Y];refine Vgv ?_;generalize hr:((f env S).bind λ_ S=>(R.ex (lf S) (S++[.exc c]):R Fl))=r at nb ⊢;refine Vbb (he.bind I (by rw[hr];exact nb) hr.symm (λd S1 u s1 v H1 ah e1 ai L rv rd ae=>Vdb ?_) λy s' ⟨n,S2,z1,z2⟩=>⟨n,S2,σ,z1,λ_=>rfl,z2⟩);refine⟨rfl,by simp[V8],L.inv.bk _ _ hC,hN.keeps L.inv.bk,T.keeps L.inv.bk,λh' a B=>?_⟩;obtain⟨t,h1,h2,h3⟩:=B.there;have U:H1 a=none:=by
  cases z:H1 a with
  |none=>rfl|some w=>obtain⟨o,e⟩:=Xb7 (L.inv.hok a w z);rw[B.new]at e;cases e
 have xo:ExcO C a h':=⟨_,_,_,h1,rfl,rfl,rfl,by simp⟩;obtain⟨J,hok⟩:=L.inv.newX B.keeps B.new xo.ok;refine⟨(lf S1),S1++[.exc c],σ,e1,λ_=>rfl,_,ah++[a],a,c,J,rfl,?_,by simp,L.sr.new1 (o:=.exc c) U ⟨C,ac,Yi⟩,ae.trans (Stp.new1 U),.inl ⟨_,_,h1,rfl,rfl⟩⟩;rw[<-L.sr.len];simp
end
noncomputable def inH(X:Cx)(a:Addr):Cx:={ X with A:=X.A.mark (yz (.ref a)),calm:=yw}
section
variable{X:Cx}{pa:LA}{σ:L2.St}{H:Hp}{s:Vc}{a:Addr}
theorem Inv.inH(I:Inv X pa σ H s)(a:Addr):Inv (inH X a) pa σ H s:=
 ⟨⟨I.ok.mod,I.ok.kind,I.ok.glob,I.ok.blt,I.ok.above,I.ok.inj,I.ok.has,I.ok.cab,(λz=>nomatch z),I.ok.frames,I.ok.stk,I.ok.exf,I.ok.bs,I.ok.bsz,I.ok.noex,I.ok.exfs,I.ok.funs,I.ok.frf⟩,I.os,I.bare,I.base,I.loc,I.cell,I.free,I.freeC,I.pin,I.hok,I.len⟩
theorem Inv.outH(I:Inv (Z.inH X a) pa σ H s)(ok:X.Ok):Inv X pa σ H s:=⟨ok,I.os,I.bare,I.base,I.loc,I.cell,I.free,I.freeC,I.pin,I.hok,I.len⟩
theorem Inv.goes(I:Inv X pa σ H s)(hl:X.env.scope.names.lookup n=yz .local)
  (h:∀s',Inv X pa (Vu σ.length yy) H s'->Q () s'):Vg M A (do bindName X.env n .none;unbindBehindTheSuite X.env n p) Q E s:=by
 obtain⟨m,hn,_⟩:=I.loc;refine wpAny_nameGoes hl hn (by rw[I.ok.kind];rfl) λh' m' L sb=>h _ ?_;obtain⟨o,es,ep,ho,r⟩:=id hn;obtain⟨o',ab,aa,ac,r'⟩:=id L;have J:∀b u,X.s₀.heap.get? b=yz u->b≠X.env.locals:=λb u e=>Uc (Ub (Vw e) I.ok.above);have B:∀x c,X.env.cells.lookup x=yz c->∀v,s.heap.IsCell c v->h'.IsCell c v:=λx c e v ⟨u,hu,hd⟩=>⟨u,(sb.2 c (I.cne x c e)).trans hu,hd⟩;refine⟨I.ok,I.os,I.bare,⟨λb u e q hb U=>(sb.2 b (J b u e)).trans (I.base.keep b u e q hb U),λb u e q hb U=>?_,I.base.free,λb u e U=>?_,I.base.tups,I.base.frzs,I.base.tbls⟩,⟨m',L,λi x v _ Y _=>?_⟩,λx c e=>?_,I.free,I.freeC,λp hp=>?_,λb u q=>?_,by rw[List.length_replicate];exact I.len⟩;·obtain⟨sl,z⟩:=I.base.slot b u e q hb U;exact⟨sl,(sb.2 b (J b u e)).trans z⟩
 ·obtain⟨w,z⟩:=I.base.there b u e U;exact⟨w,(sb.2 b (J b u e)).trans z⟩
 ·rw[Vdf]at Y;split at Y<;>cases Y
 ·obtain⟨v,z⟩:=I.cell x c e;exact⟨v,B x c e v z⟩
 ·obtain⟨e,n,ne,r⟩:=I.pin p hp;exact⟨(sb.2 _ ne).trans e,n,ne,r⟩
 ·have ne:∀c v,H c=yz v->c≠X.env.locals:=λc v z=>Xs z I.free;refine(I.hok b u q).stay (λc v hc e=>?_) (λ_ z=>z) λ_ _ z=>z;rcases hc with rfl|hc;·exact(sb.2 _ (ne _ _ q)).trans e
  ·exact(sb.2 _ (ne _ _ hc)).trans e
noncomputable def Xws(c i:Nat)(g B:En->Sto->R Fl)(env:En)(S:Sto):R Fl:=match g env S with
 |.ex m S'=>match S'[m]? with
  |some (.exc c')=>if c==0||c==c' then
    match B (env.set i (yz (.ref m))) S' with
    |.ok (.rt d) S''=>.ok (.rt d) S''|_=>.bad
   else .bad|_=>.bad
 |r=>r
theorem X54(hs:X.stack=X.env::X.outer)(hf:X.env.frame=yz X.env.locals)
  (hN:X.N.Nodup) (hi:X.N[i]?=yz n) (hl:X.env.scope.names.lookup n=yz .local) (hn:Va7 X.K Uf x=yz (yz (.ref C0))) (hg:Gl X x) (an:(x==("__debug__" : Str))=yw)
  (hm:∀c' C,Y9 X.K c'=yz C->(c==0||c==c')=yx->PySem.W.exmOne X.K (.ref C) (.ref C0)=yz yx) (hb:DSs X body yx g) (hh:∀a,DSs (Z.inH X a) (b0::suite) na gh):
  DS X (.Try body [.ExceptHandler (yz (.Name x np)) (yz n) (b0::suite) hp] [] [] pos) yw (Xws c i g gh):=by
 intro pa s σ H ρ S env I B;unfold Xws at B ⊢;refine wpAny_Try_except ?_;cases q:g env S with
 |bad=>rw[q]at B;cases B rfl|ok y S1=>
  refine Vo (hb pa s σ H ρ S env I (by rw[q];exact λz=>nomatch z)) (λfl U z=>?_) λx U z=>?_
  ·rw[q]at z;have z':=z.pre (σ:=σ) (na':=yw) .refl λw=>nomatch w;obtain⟨y',S2,e,z2⟩:=z;cases e;cases y with
   |nx e=>obtain⟨rfl,_⟩:=z2;exact wpAny_execs_nil z'|brk e=>obtain⟨rfl,_⟩:=z2;exact z'|cnt e=>obtain⟨rfl,_⟩:=z2;exact z'|rt d=>obtain⟨u,v,au,H',ρ',rfl,_⟩:=z2;exact z'
  obtain⟨k,S2,aw,e,_⟩:=z;rw[q]at e;cases e|ex m S1=>
  rw[q]at B;dsimp only at B ⊢;refine Vo (hb pa s σ H ρ S env I (by rw[q];exact λz=>nomatch z)) (λfl U z=>?_) λx1 U z=>?_;·obtain⟨y,S2,e,_⟩:=z;rw[q]at e;cases e
  obtain⟨m',S2,au,e,aq,H1,ai,a,c',J,rfl,af,hc,sr,st,fl⟩:=z;rw[q]at e;cases e;cases aq rfl;rw[hc]at B ⊢;dsimp only at B ⊢;have ag:(c==0||c==c')=true:=by
   cases z:(c==0||c==c') with
   |true=>rfl|false=>rw[z]at B;cases B rfl
  rw[iP0 ag]at B ⊢;obtain⟨d,S2,aa⟩:∃d S2,gh (env.set i (yz (.ref m))) S1=.ok (.rt d) S2:=by
   cases z:gh (env.set i (yz (.ref m))) S1 with
   |bad=>rw[z]at B;cases B rfl|ex _ _=>rw[z]at B;cases B rfl|ok y S2=>
    rw[z]at B;cases y with
    |rt d=>exact⟨d,S2,rfl⟩|nx _=>cases B rfl|brk _=>cases B rfl|cnt _=>cases B rfl
  rw[aa];dsimp only;obtain⟨C,hC,ha⟩:=(show ∃C,Y9 X.K c'=yz C/\H1 a=yz (.ext (ExcO C a)) from sr.ob m a _ af hc);have al:=hm c' C hC ag;have aj:∀(l:LR) (a0:Vb),Hid X H1 a U.heap l->(∀b∈l,b≠a->b ∉ frs X.stack->Xif X pa b) ->
    ∀h2,Heap.HeldW (Vck U.heap l) (X.env::X.outer) a (.ref C) a0 X.env.locals h2->U.heap.UpToSlots h2 ->
    Vg (Vl X.prog X.w) X.A (setFlight (.ref a) yy) (λ_ s3=>Vg (Vl X.prog X.w) X.A (handleBy (.ref a) X.env [.ExceptHandler (yz (.Name x np)) (yz n) (b0::suite) hp])
     (OkS X pa σ ρ H yw (.ok (.rt d) S2)) (ExS X pa σ ρ H yw (.ok (.rt d) S2)) s3) (ExS X pa σ ρ H yw (.ok (.rt d) S2)) {U with heap:=h2}:=by
   intro l a0 hid L h2 ac Y;have inv:∀ {h':Heap},Heap.FlyingW (Vck U.heap l) (X.env::X.outer) a (.ref C) a0 h'->U.heap.UpToSlots h'->Inv X pa σ H1 {U with heap:=h' }:=λ{h'} fw up=>by obtain⟨f1,_,_,oe,vs,T,oT,ts,t1,⟨t2,t3⟩,t4,t5,_⟩:=fw;exact Inv.fly J ha hid L f1 up ⟨oe,vs,a0,t1,t2,t4,t3,(U3.mp t5).1⟩
   refine wpAny_landsW ac λh3 ab ah=>?_;have J3:=inv ab (Y.trans ah);obtain⟨ob,ar,ae⟩:=ab.there;refine wpAny_handleBy_cons (codeAny_handlers_test (Xdh (Inv.inH J3 a) hg (Vdu J.mod.kin J.mod.glob hn) ?_ an)) (by intro z;cases z);have LT:PySem.W.Looks (Vl X.prog X.w) h3 (typeOf (.ref a)) (.ref C):=ae▸(PySem.W.Looks.ld ar).andThen .now;refine(PySem.W.exm_one J3.kIn LT al).at ?_;refine codeAny_handlers_suite_as (lands_againW ab λh4 ap ak=>?_);have J4:=inv ap ((Y.trans ah).trans ak);refine Xbv (X:=Z.inH X a) (v:=.ref a) (Inv.inH J4 a) hN hi (.inl hl) rfl (λs5 J5=>?_) (.inr hl);have er:ER X.K ai H1 (env.set i (yz (.ref m))) (σ.set i (yz (.ref a))):=(I.er.mono st).set i (by simp only[RD];exact⟨a,rfl,af⟩);refine Vo (hh a pa s5 (σ.set i (yz (.ref a))) H1 ai S1 (env.set i (yz (.ref m))) ⟨J5,sr,er⟩ (by rw[aa];exact λz=>nomatch z)) (λf6 s6 z=>?_) λy s6 z=>?_;·rw[aa]at z;obtain⟨y,S3,e,z⟩:=z;cases e;obtain⟨u,v,ax,H6,av,rfl,J6,rv,rd,ao,am⟩:=z;exact Inv.goes (Inv.outH J6 J.ok) hl λs7 J7=>⟨.rt d,S2,rfl,u,v,_,H6,av,rfl,J7,rv,rd,ao,st.trans am⟩
   ·rw[aa]at z;obtain⟨_,_,_,e,_⟩:=z;cases e
  exact Xgm J hs hf ha fl λl h2 a0 hid L ac Y=>aj l a0 hid L h2 ac Y
end
noncomputable def Xcc(sc:U7):Vb9:={scope:=sc,locals:=0,globals:=0,cells:=[]}
noncomputable def Xe1(b:Bool):Sem Bool->Bool
 |.pure c=>b==c|_=>yw
noncomputable def Xms(l:Option LS):Sem (Option LS)->Bool
 |.pure m=>decide (l=m)|_=>yw
theorem Xcn(h:Xe1 b m=yx):m=pure b:=by
 cases m<;>first|cases h|skip
 simp only[Xe1,beq_iff_eq]at h;subst h;rfl
theorem Xiw(h:Xms b m=yx):m=pure b:=by
 cases m<;>first|cases h|skip
 simp only[Xms,decide_eq_true_eq]at h;subst h;rfl
theorem Xmt(v:Expr)(t:Option Expr)(l:Nat)(env:Vb9):Vfk v t l env=Vfk v t l (Xcc env.scope):=rfl
theorem Xix(t v:Expr)(l:Nat)(env:Vb9):Vdw [t] v l env=Vdw [t] v l (Xcc env.scope):=rfl
theorem Xiy(B:LX)(v:Expr)(env:Vb9):Vdx B v env=Vdx B v (Xcc env.scope):=rfl
theorem Xmu(h:Xdm i=yx)(v:Vb):assign (.Subscript o i spos) env v=(do
   let ov <- Vd5 [v] (eval o env)
   let iv <- Vd5 [v,ov] (eval i env)
   standAt spos
   Vd5 [v,ov,iv] (setItem ov iv v)
   release [v,ov,iv] []):=by
 cases i<;>first|rfl|cases h
noncomputable def X55:Expr->Bool
 |.ListComp _ _ _ _=>yx|_=>yw
noncomputable def Xiz(s:Stmt):Option (LX×Expr×Pos):=match s with
 |.Assign B v p=>yz (B,v,p)|_=>yy
theorem Xfp(h:Xiz s=yz z):s=.Assign z.1 z.2.1 z.2.2:=by
 unfold Xiz at h;split at h;·cases h;rfl
 ·cases h
noncomputable def Xwt(s:Stmt):Option (Expr×Pos):=match s with
 |.Expr v p=>yz (v,p)|_=>yy
theorem X1k(h:Xwt s=yz z):s=.Expr z.1 z.2:=by
 unfold Xwt at h;split at h;·cases h;rfl
 ·cases h
noncomputable def Xwu(s:Stmt):Option (Option Expr):=match s with
 |.Return v _=>yz v|_=>yy
theorem X1l(h:Xwu s=yz z):∃p,s=.Return z p:=by
 unfold Xwu at h;split at h;·cases h;exact⟨_,rfl⟩
 ·cases h
noncomputable def Xwv(s:Stmt):Option (Expr×LM×LM):=match s with
 |.If c a b _=>yz (c,a,b)|_=>yy
theorem X1m{s:Stmt}{z:Expr×LM×LM}(h:Xwv s=yz z):∃p,s=.If z.1 z.2.1 z.2.2 p:=by
 unfold Xwv at h;split at h;·cases h;exact⟨_,rfl⟩
 ·cases h
noncomputable def Xww(s:Stmt):Option (Expr×Expr×LM×LM):=match s with
 |.For t i b B _=>yz (t,i,b,B)|_=>yy
theorem X1n(h:Xww s=yz z):∃p,s=.For z.1 z.2.1 z.2.2.1 z.2.2.2 p:=by
 unfold Xww at h;split at h;·cases h;exact⟨_,rfl⟩
 ·cases h
noncomputable def Xwx(s:Stmt):Option (Option Expr×Option Expr):=match s with
 |.Raise v w _=>yz (v,w)|_=>yy
theorem X1o(h:Xwx s=yz z):∃p,s=.Raise z.1 z.2 p:=by
 unfold Xwx at h;split at h;·cases h;exact⟨_,rfl⟩
 ·cases h
noncomputable def Xwy(s:Stmt):Option (LM×List ExceptHandler×LM×LM):=match s with
 |.Try b hs B fb _=>yz (b,hs,B,fb)|_=>yy
theorem X1p(h:Xwy s=yz z):∃p,s=.Try z.1 z.2.1 z.2.2.1 z.2.2.2 p:=by
 unfold Xwy at h;split at h;·cases h;exact⟨_,rfl⟩
 ·cases h
noncomputable def Xwz(h:ExceptHandler):Option (Expr×Str×Stmt×LM):=match h with
 |.ExceptHandler (yz e) (yz n) (b::su) _=>yz (e,n,b,su)|_=>yy
theorem X1q(q:Xwz h=yz z):∃p,h=.ExceptHandler (yz z.1) (yz z.2.1) (z.2.2.1::z.2.2.2) p:=by
 unfold Xwz at q;split at q;·cases q;exact⟨_,rfl⟩
 ·cases q
noncomputable def Xgy(s:Stmt):Nat:=match s with
 |.Pass _=>1|.Break _=>2|.Continue _=>3|_=>0
theorem vEnd_ok:(Xgy s=1->∃p,s=.Pass p)/\(Xgy s=2->∃p,s=.Break p)/\(Xgy s=3->∃p,s=.Continue p):=by
 unfold Xgy;split;·exact⟨λ_=>⟨_,rfl⟩,λz=>(nomatch z),λz=>(nomatch z)⟩
 ·exact⟨λz=>(nomatch z),λ_=>⟨_,rfl⟩,λz=>(nomatch z)⟩
 ·exact⟨λz=>(nomatch z),λz=>(nomatch z),λ_=>⟨_,rfl⟩⟩
 exact⟨λz=>(nomatch z),λz=>(nomatch z),λz=>(nomatch z)⟩
section
variable(cm:Bool)(fns:LF)(gns:LS)(sc:U7)(N:LS)
noncomputable def X56(i:Nat)(e:Ex)(v:Expr)(p:Pos)(B:LX):Bool:=(Xde B).any λt=>(vNm t).any λx=>decide (N[i]?=yz x)&&Xmj (λ_=>yx) sc x&&mt cm fns gns sc N e v&&(Xe1 yw (Vfk v (yz t) p.line (Xcc sc))||(X55 v&&Xc0 (sc.names.lookup x)&&Xe1 yx (Vfk v (yz t) p.line (Xcc sc))))
noncomputable def Xy6(is:LN)(e:Ex)(v:Expr)(p:Pos)(B:LX):Bool:=(Xde B).any λt=>cm&&mtT (λ_=>yx) sc N (.tup is) t&&mt cm fns gns sc N e v&&Xe1 yw (Vdw [t] v p.line (Xcc sc))&&Xms yy (Vdx [t] v (Xcc sc))
noncomputable def X9h(es:Exs)(p:Pos)(i j:Nat)(a b x y t v:Expr):Bool:=(vNm x).any λB=>(vNm y).any λJ=>cm&&decide (N[i]?=yz B)&&decide (N[j]?=yz J)&&decide (i≠j)&&Xc0 (sc.names.lookup B)&&Xc0 (sc.names.lookup J)&&mts cm fns gns sc N es [a,b] &&
   Xms (yz [B,J]) (Vdx [t] v (Xcc sc))&&Xe1 yw (Vdw [t] v p.line (Xcc sc))
noncomputable def X57(es:Exs)(p:Pos)(is:LN)(J:LX)(v:Expr):Bool:=(Xde J).any λt=>(Xis t).any λB=>(Xis v).any λvs=>(Xgu is).any λi=>(Xgu B).any λx=>(Xgu vs).any λa=>X9h cm fns gns sc N es p i.1 i.2 a.1 a.2 x.1 x.2 t v
noncomputable def Xy7(o i e:Ex)(v:Expr)(p:Pos)(B:LX):Bool:=(Xde B).any λt=>(Xit t).any λz=>Xdm z.2&&mt cm fns gns sc N o z.1&&mt cm fns gns sc N i z.2&&mt cm fns gns sc N e v&&Xe1 yw (Vdw [t] v p.line (Xcc sc))&&Xms yy (Vdx [t] v (Xcc sc))
noncomputable def Xw0(c:Nat)(e:Ex)(v w:Option Expr):Bool:=w.isNone&&v.any λr=>(Xa2 r).any λz=>(vNm z.1).any λx=>decide (Xbi c=yz x)&&glB sc x&&Y6 x&&Yn z.2.1&&z.2.2.1.isEmpty&&mt cm fns gns sc N e z.2.1
mutual
noncomputable def mtS(cm:Bool):St->Stmt->Bool
 |.nev,_=>yx|.asg (.var i) e,st=>(Xiz st).any λz=>X56 cm fns gns sc N i e z.2.1 z.2.2 z.1|.asg (.tup is) e,st=>(Xiz st).any λz=>Xy6 cm fns gns sc N is e z.2.1 z.2.2 z.1|.par is es,st=>(Xiz st).any λz=>X57 cm fns gns sc N es z.2.2 is z.1 z.2.1|.aset o i e,st=>(Xiz st).any λz=>Xy7 cm fns gns sc N o i e z.2.1 z.2.2 z.1|.expr e,st=>(Xwt st).any λz=>Xe1 yw (Vfk z.1 yy z.2.line (Xcc sc))&&mt cm fns gns sc N e z.1|.ret e,st=>(Xwu st).any λz=>z.any λv=>mt cm fns gns sc N e v|.ite c a b,st=>(Xwv st).any λz=>mt cm fns gns sc N c z.1&&mtSs cm a z.2.1&&mtSs cm b z.2.2|.for t it b,st=>(Xww st).any λz=>cm&&z.2.2.2.isEmpty&&Xb6 z.2.1&&mtT (λ_=>yx) sc N t z.1&&mtI cm fns gns sc N it z.2.1&&mtSs cm b z.2.2.1&&Xey t it|.rse c e,st=>(Xwx st).any λz=>cm&&Xw0 cm fns gns sc N c e z.1 z.2|.try b c i h,st=>(Xwy st).any λz=>(Xde z.2.1).any λy=>(Xwz y).any λq=>(vNm q.1).any λx=>z.2.2.1.isEmpty&&z.2.2.2.isEmpty&&nasgs b&&decide (Xbi c=yz x)&&glB sc x&&Y6 x&&decide (N[i]?=yz q.2.1)&&Xc0 (sc.names.lookup q.2.1)&&mtSs cm b z.1&&mtSs yw h (q.2.2.1::q.2.2.2)|.pass,st=>Xgy st==1|.brk,st=>Xgy st==2|.cnt,st=>Xgy st==3
noncomputable def mtSs(cm:Bool):Sts->LM->Bool
 |.nil,[]=>yx|.cons s ss,x::xs=>mtS cm s x&&mtSs cm ss xs|_,_=>yw
end
end
theorem Xd8(h:Xc0 k=yx):k=yz .local:=by
 unfold Xc0 at h;split at h;·rfl
 ·cases h
section
variable{F:Fn}{G:LD}{cm:Bool}{fns:LF}{gns:LS}{X:Cx}
theorem DS.congr{st:Stmt}{na:Bool}{f g:En->Sto->R Fl}(h:DS X st na f)(q:∀env S,g env S=f env S):DS X st na g:=by have:g=f:=funext λenv=>funext λS=>q env S;rw[this];exact h
theorem DSs.congr{st:LM}{na:Bool}{f g:En->Sto->R Fl}(h:DSs X st na f)(q:∀env S,g env S=f env S):DSs X st na g:=by have:g=f:=funext λenv=>funext λS=>q env S;rw[this];exact h
theorem X58{st:Stmt}{na:Bool}:DS X st na (exe F G .nev):=λ_ _ _ _ _ _ _ _ B=>aB0 (by simp only[exe]) B
structure TopOk(cm:Bool)(F:Fn)(G:LD)(fns:LF)(gns:LS)(X:Cx)(sc:U7)(N:LS):Prop where
 hN:X.N=N
 hs:X.env.scope=sc
 nd:N.Nodup
 fn:∀x,X.fn x=yx
 pf:PF cm F G fns gns X
 stk:X.stack=X.env::X.outer
 frm:X.env.frame=yz X.env.locals
theorem TopOk.inH(T:TopOk cm F G fns gns X sc N)(a:Addr):TopOk yw F G fns gns (Z.inH X a) sc N:=
 ⟨T.hN,T.hs,T.nd,T.fn,⟨T.pf.blt,λf nm L fl h B=>by
  obtain⟨g,fd,ps,k,c1,J,r⟩:=T.pf.fn f nm L fl h (λz=>nomatch (B z));refine⟨g,fd,ps,k,c1,?_,r⟩;cases fl with
  |true=>exact nomatch (B rfl)
  |false=>exact J.mark,T.pf.glb,T.pf.clf,T.pf.units,T.pf.gd,(λz=>nomatch z),T.pf.err⟩,T.stk,T.frm⟩
variable{sc:U7}{N:LS}
noncomputable def isC:Ex->Bool
 |.nev=>yx|.cmr _ _ _ _=>yx|_=>yw
theorem X9i(B:X55 v=yx)(hn:isC e=yw)(h:mt cm fns gns sc N e v=yx):False:=by
 cases v with
 |ListComp J gens scope L=>
  cases e with
  |nev=>cases hn|cmr _ _ _ _=>cases hn|lrg _ es=>
   cases es with
   |nil=>cases h|cons _ es=>cases es<;>cases h
  |_=>cases h
 |_=>cases B
theorem Xw1{i:Nat}{e:Ex}{ts:LX}(T:TopOk cm F G fns gns X sc N)(h:X56 cm fns gns sc N i e v p ts=yx):DS X (.Assign ts v p) yw (exe F G (.asg (.var i) e)):=by
 obtain⟨t,k1,J⟩:=Xe h;obtain⟨x,k2,U⟩:=Xe J;clear h J;have h:=U;clear U;have k3:=Xbb k1;obtain⟨py,k4⟩:=Xbn k2;subst k4 k3
 ·rw[bA0,bA0,bA0,decide_eq_true_eq,Vc5,bA0,bA0]at h;obtain⟨⟨⟨h1,h2⟩,h3⟩,B⟩:=h;obtain⟨l1,l2⟩:=Xio (X:=X) T.hs (λx _=>T.fn x) h2;have aa:=(snd e X sc N v T.hN T.hs T.pf h3).1;have hN:=T.hN;have hs:=T.hs;subst hN hs;rcases B with B|⟨⟨B,h5⟩,h6⟩;·have hw:=Xcn B;rw[<-Xmt]at hw;exact(X34 T.nd h1 l1 l2 aa hw).congr λenv S=>by simp only[exe]<;>rfl
  ·have hw:=Xcn h6;rw[<-Xmt]at hw;cases e with
   |nev=>exact λ_ _ _ _ _ _ _ _ nb=>aB0 (by simp only[exe,ev,R.bind_bad]) nb|cmr k n gs elt=>
    obtain⟨ee,gens,scope,cp,rfl,m0,m1,m2,m3,m4,m5⟩:=Xtf h3;subst m1 m2;have so:=Xmm m3;have L:=T.pf.calm m0;obtain⟨c⟩:=Xpp (p:=cp) rfl rfl T.pf L so (sndg gs X _ _ _ _ gens rfl rfl T.pf m4) (λY y1 y2 y3=>(snd elt Y _ _ ee y1 y2 y3 m5).1);refine(X0j (py:=py) (spos:=p) T.nd h1 (Xd8 h5) hw L so rfl c.hg c.hi c.hs c.hG c.hT c.hB).congr λenv S=>?_;simp only[exe];have:=congrFun (congrFun c.eq env) S;rw[this]
    all_goals rfl|_=>exact(X9i B rfl h3).elim
theorem Xw2{is:LN}{e:Ex}{ts:LX}(T:TopOk cm F G fns gns X sc N)(h:Xy6 cm fns gns sc N is e v p ts=yx):DS X (.Assign ts v p) yw (exe F G (.asg (.tup is) e)):=by obtain⟨t,k1,J⟩:=Xe h;clear h;have h:=J;clear J;have k3:=Xbb k1;subst k3;·rw[bA0,bA0,bA0,bA0]at h;obtain⟨⟨⟨⟨h0,h1⟩,h2⟩,h3⟩,h4⟩:=h;have B:=h1;simp only[mtT]at B;obtain⟨aa,q1,_⟩:=Xe B;obtain⟨ac,ab,q2⟩:=Xcm q1;subst q2;have U:=(snd e X sc N v T.hN T.hs T.pf h2).1;have hg:=dgB (top:=λ_=>yx) T.hN T.hs T.nd (λ_=>T.pf.calm h0) (λx _=>T.fn x) h1;have L:=Xcn h3;have Y:=Xiw h4;rw[<-T.hs]at L Y;rw[<-Xix]at L;rw[<-Xiy]at Y;exact(X50 U hg L Y rfl).congr λenv S=>by simp only[exe]<;>rfl
theorem X1r{is:LN}{es:Exs}{ts:LX}(T:TopOk cm F G fns gns X sc N)(h:X57 cm fns gns sc N es p is ts v=yx):DS X (.Assign ts v p) yw (exe F G (.par is es)):=by
 obtain⟨t,k1,B⟩:=Xe h;clear h;have h:=B;clear B;obtain⟨tn,k2,B⟩:=Xe h;clear h;have h:=B;clear B;obtain⟨vs,k3,B⟩:=Xe h;clear h;have h:=B;clear B;have e1:=Xbb k1;obtain⟨kt,pt,e2⟩:=Xcm k2;obtain⟨kv,pv,e3⟩:=Xcm k3;subst e1 e2 e3;obtain⟨⟨i,j⟩,k4,B⟩:=Xe h;clear h;have h:=B;clear B;obtain⟨⟨x,y⟩,k5,B⟩:=Xe h;clear h;have h:=B;clear B;obtain⟨⟨a,b⟩,k6,B⟩:=Xe h;clear h;have h:=B;clear B;have e4:=Xdo k4;have e5:=Xdo k5;have e6:=Xdo k6;subst e4 e5 e6;obtain⟨xn,k7,B⟩:=Xe h;clear h;have h:=B;clear B;obtain⟨yn,k8,B⟩:=Xe h;clear h;have h:=B;clear B;obtain⟨px,U⟩:=Xbn k7;obtain⟨py,L⟩:=Xbn k8;dsimp only at U L;subst U L
 iterate 8 rw[bA0]at h
 obtain⟨⟨⟨⟨⟨⟨⟨⟨h0,h1⟩,h2⟩,h3⟩,h4⟩,h5⟩,h6⟩,h7⟩,h8⟩:=h;have J:=snds es X sc N _ T.hN T.hs T.pf h6;have hN:=T.hN;have hs:=T.hs;subst hN hs;have Y:=Xcn h8;have w2:=Xiw h7;rw[<-Xix]at Y;rw[<-Xiy]at w2;exact(X1h (T.pf.calm h0) T.nd (oD0 h1) (oD0 h2) (oD0 h3) (Xd8 h4) (Xd8 h5) J w2 Y).congr λenv S=>by simp only[exe]
theorem Xw3{o i e:Ex}{Y:LX}(T:TopOk cm F G fns gns X sc N)(h:Xy7 cm fns gns sc N o i e v p Y=yx):DS X (.Assign Y v p) yw (exe F G (.aset o i e)):=by
 obtain⟨t,k1,B⟩:=Xe h;obtain⟨⟨ox,ix⟩,k2,J⟩:=Xe B;clear h B;have h:=J;clear J;have k3:=Xbb k1;obtain⟨sp,k4⟩:=Xfm k2;dsimp only at k4;subst k4 k3
 ·iterate 5 rw[bA0]at h
  obtain⟨⟨⟨⟨⟨h1,h2⟩,h3⟩,h4⟩,h5⟩,h6⟩:=h;have L:=Xcn h5;have U:=Xiw h6;rw[<-T.hs]at L U;rw[<-Xix]at L;rw[<-Xiy]at U;exact((X1i (by have:=T.pf.units;omega) (snd e X sc N v T.hN T.hs T.pf h4).1 (snd o X sc N _ T.hN T.hs T.pf h2).1 (snd i X sc N _ T.hN T.hs T.pf h3).1 L U (Xmu h1)).weak (na2:=yw) λz=>nomatch z).congr λenv S=>by simp only[exe]
theorem X1s{e:Ex}{v:Option Expr}(T:TopOk cm F G fns gns X sc N)(h:(v.any λv=>mt cm fns gns sc N e v)=yx):DS X (.Return v p) yx (exe F G (.ret e)):=by obtain⟨v,rfl,h⟩:=Xe h;exact(X33 (snd e X sc N v T.hN T.hs T.pf h).1).congr λenv S=>by simp only[exe]
theorem X1t{c:Nat}{e:Ex}{v w:Option Expr}(T:TopOk cm F G fns gns X sc N)(h0:cm=yx)(h:Xw0 cm fns gns sc N c e v w=yx):DS X (.Raise v w p) yx (exe F G (.rse c e)):=by
 unfold Xw0 at h;rw[bA0]at h;obtain⟨hw,h⟩:=h;cases w with
 |some _=>cases hw|none=>
  obtain⟨r,er,U⟩:=Xe h;obtain⟨x,px,y,ys,cp,J,B⟩:=Xa4 U;clear h U;have h:=B;clear B;subst J er
  iterate 5 rw[bA0]at h
  obtain⟨⟨⟨⟨⟨h1,h2⟩,h3⟩,Y⟩,h6⟩,h5⟩:=h;have h1:=oD0 h1;have L:=Va5.mp h6;dsimp only at L;subst L;obtain⟨C,k1,k2⟩:=T.pf.err.at_ c x h1;exact(X53 (T.pf.calm h0) h1 k2 (T.pf.err.cls c C k1).1 (Yz T.hs h2) (Xan h3).1 (snd e X sc N y T.hN T.hs T.pf h5).1 Y).congr λenv S=>by simp only[exe]
mutual
theorem Ya2{cm:Bool}{X:Cx}:∀(x:St) (st:Stmt),TopOk cm F G fns gns X sc N->mtS fns gns sc N cm x st=yx->DS X st (X3s x) (exe F G x)
 |.nev=>λst T h=>X58|.asg (.var i) e=>λst T h=>by simp only[mtS]at h;obtain⟨z,h1,B⟩:=Xe h;clear h;have h:=B;clear B;rw[Xfp h1];exact Xw1 T h|.asg (.tup is) e=>λst T h=>by simp only[mtS]at h;obtain⟨z,h1,B⟩:=Xe h;clear h;have h:=B;clear B;rw[Xfp h1];exact Xw2 T h|.par is es=>λst T h=>by simp only[mtS]at h;obtain⟨z,h1,B⟩:=Xe h;clear h;have h:=B;clear B;rw[Xfp h1];exact X1r T h|.aset o i e=>λst T h=>by simp only[mtS]at h;obtain⟨z,h1,B⟩:=Xe h;clear h;have h:=B;clear B;rw[Xfp h1];exact Xw3 T h|.expr e=>λst T h=>by simp only[mtS]at h;obtain⟨z,h1,B⟩:=Xe h;clear h;have h:=B;clear B;rw[X1k h1];rw[bA0]at h;have w1:=Xcn h.1;rw[<-T.hs,<-Xmt]at w1;exact(Xz7 (snd e X sc N z.1 T.hN T.hs T.pf h.2).1 w1).congr λenv S=>by simp only[exe]|.ret e=>λst T h=>by simp only[mtS]at h;obtain⟨z,h1,B⟩:=Xe h;clear h;have h:=B;clear B;obtain⟨p,rfl⟩:=X1l h1;exact X1s T h|.ite c a b=>λst T h=>by simp only[mtS]at h;obtain⟨z,h1,B⟩:=Xe h;clear h;have h:=B;clear B;obtain⟨p,rfl⟩:=X1m h1;rw[bA0,bA0]at h;exact(X8u (snd c X sc N z.1 T.hN T.hs T.pf h.1.1).2 (sndSs a z.2.1 T h.1.2) (sndSs b z.2.2 T h.2)).congr λenv S=>by simp only[exe]<;>rfl|.for t it b=>λst T h=>by
  simp only[mtS]at h;obtain⟨⟨tg,iter,body,oe⟩,h1,B⟩:=Xe h;clear h;have h:=B;clear B;obtain⟨p,rfl⟩:=X1n h1
  iterate 6 rw[bA0]at h
  obtain⟨⟨⟨⟨⟨⟨h0,h1⟩,h2⟩,Y⟩,U⟩,h5⟩,h6⟩:=h;have J:=Va5.mp h1;dsimp only at J;subst J;have hg:=dgB (top:=λ_=>yx) T.hN T.hs T.nd (λ_=>T.pf.calm h0) (λx _=>T.fn x) Y;exact(X4f T.stk T.frm (T.pf.calm h0) (Xrc it X sc N tg iter T.hN T.hs T.pf (Xhn h6 Y) U) hg (sndSs b body T h5) (Xba h2)).congr λenv S=>by simp only[exe]|.rse c e=>λst T h=>by simp only[mtS]at h;obtain⟨z,h1,B⟩:=Xe h;clear h;have h:=B;clear B;obtain⟨p,rfl⟩:=X1o h1;rw[bA0]at h;exact X1t T h.1 h.2|.try b c i hd=>λst T h=>by
  simp only[mtS]at h;obtain⟨⟨body,hs,oe,fb⟩,k1,B⟩:=Xe h;clear h;have h:=B;clear B;obtain⟨y,k2,B⟩:=Xe h;clear h;have h:=B;clear B;obtain⟨⟨te,n,b0,su⟩,k3,B⟩:=Xe h;clear h;have h:=B;clear B;obtain⟨x,k4,B⟩:=Xe h;clear h;have h:=B;clear B;obtain⟨p,J⟩:=X1p k1;have L:=Xbb k2;obtain⟨hp,e3⟩:=X1q k3;obtain⟨np,e4⟩:=Xbn k4;dsimp only at J L e3 e4;subst e4 e3 L J
  iterate 9 rw[bA0]at h
  obtain⟨⟨⟨⟨⟨⟨⟨⟨⟨h1,h2⟩,Y⟩,U⟩,h5⟩,h6⟩,h7⟩,h8⟩,h9⟩,aa⟩:=h;have J:=Va5.mp h1;have L:=Va5.mp h2;have U:=oD0 U;have h7:=oD0 h7;dsimp only at J L h7;subst J L;have ib:=sndSs b body T h9;rw[Y]at ib;have ih:∀a,DSs (Z.inH X a) (b0::su) (nasgs hd) (pc F G hd):=λa=>sndSs hd (b0::su) (T.inH a) aa;obtain⟨C0,k1,k2⟩:=T.pf.err.at_ c x U;have hN:=T.hN;have hs:=T.hs;subst hN hs;refine(X54 (c:=c) T.stk T.frm T.nd h7 (Xd8 h8) k2 (Yz rfl h5) (Xan h6).1 (λc' C J L=>(T.pf.err.sub c' C c C0 J k1).2 L) ib ih).congr λenv S=>?_;simp only[exe,Y,if_true,Xws]
  all_goals rfl|.pass=>λst T h=>by simp only[mtS,beq_iff_eq]at h;obtain⟨p,rfl⟩:=vEnd_ok.1 h;exact ds_pass.congr λenv S=>by simp only[exe]|.brk=>λst T h=>by simp only[mtS,beq_iff_eq]at h;obtain⟨p,rfl⟩:=vEnd_ok.2.1 h;exact ds_brk.congr λenv S=>by simp only[exe]|.cnt=>λst T h=>by simp only[mtS,beq_iff_eq]at h;obtain⟨p,rfl⟩:=vEnd_ok.2.2 h;exact ds_cnt.congr λenv S=>by simp only[exe]
theorem sndSs{cm:Bool}{X:Cx}:∀(x:Sts) (st:LM),TopOk cm F G fns gns X sc N->mtSs fns gns sc N cm x st=yx->DSs X st (nasgs x) (pc F G x)
 |.nil,[]=>λT h=>dss_nil.congr λenv S=>by simp only[pc]|.cons s ss,x::xs=>λT h=>by have h':(mtS fns gns sc N cm s x&&mtSs fns gns sc N cm ss xs)=true:=h;rw[bA0]at h';exact(Xvn (Ya2 s x T h'.1) (sndSs ss xs T h'.2)).congr λenv S=>by simp only[pc]<;>rfl|.nil,_::_=>λT h=>by cases h|.cons _ _,[]=>λT h=>by cases h
end
end
noncomputable def Xc1(N ps:LS)(sc:U7):Bool:=Xq2 sc.kind && !sc.isCoroutine && !sc.isGenerator&&Xew N&&decide (N.take (lf ps)=ps)&&ps.all (λx=>match sc.names.lookup x with|some .local=>yx|some .cell=>yx|_=>yw)&&sc.names.all (λy=>match y.2 with|.free=>yw|_=>yx)
theorem Xw4(h:Xc1 N ps sc=yx):FnScope N ps sc:=by
 simp only[Xc1,bA0,Vav,decide_eq_true_eq]at h;obtain⟨⟨⟨⟨⟨⟨h1,h2⟩,Y⟩,B⟩,h5⟩,L⟩,U⟩:=h;refine⟨Xir h1,h2,Y,Xex B,h5,λx hx=>?_,λy J e=>?_⟩
 ·have:=Uk.mp L x hx;split at this;·exact .inl (by assumption)
  ·exact .inr (by assumption)
  cases this
 have:=Uk.mp U y J;rw[e]at this;cases this
structure DefOk(K:Vj)(mg:Str->OV)(fns:LF)(gns:LS)(d:Df)(nm:Str)(ar:Nat)(fl:Bool):Prop where
 ex:∃g fd st qual N ps,Fun K nm qual st g fd/\mg nm=yz (.ref g)/\Xc1 N ps (Xz st)=yx/\mtSs fns gns (Xz st) N fl d.body (Yq st)=yx/\d.np=lf ps/\d.nl=N.length/\(lf ps)=ar/\Binds K fd ps []
section
variable{P:V4}{w:Ua}{K:Vj}{mg:Str->OV}{base:Heap}{T:List Df}{G:LD}{fns:LF}{gns:LS}
theorem Xmv(U:∀(f:Nat) (nm:Str),Xd5 f nm G=yx->∃B fl,fns[f]?=yz (nm,B,fl)/\(∀a,Va7 K Uf nm=yz (yz (.ref a))->mg nm=yz (.ref a))/\∀k xs S,FT T G k f xs S≠.bad->lf xs=B)(er:ErrOk K)(hb:∀x∈blts,mg x=yy)(hg:∀(k:Nat) nm,gns[k]?=yz nm->∃u d,mg nm=yz u/\G[k]?=yz d/\∀ ρ H,∃v,RelV v u/\RD K ρ H d v){k:Nat}
  (ih:∀(f:Nat) nm B fl,fns[f]?=yz (nm,B,fl)->∃g fd ps,FnD fl P w K mg base k g fd ps (FT T G k f)/\Binds K fd ps []/\mg nm=yz (.ref g)/\Vd4 K (.ref g)=yx/\(lf ps)=B)
  {f:Nat} {nm qual:Str} {fl:Bool} {d:Df} {g:Addr} {fd:Vdj} {st:Stmt} {N ps:LS} (hT:T[f]?=yz d) (F:Fun K nm qual st g fd) (hS:Xc1 N ps (Xz st)=yx) (hM:mtSs fns gns (Xz st) N fl d.body (Yq st)=yx) (hp:d.np=lf ps) (hn:d.nl=N.length):
  FnD fl P w K mg base (k+1) g fd ps (FT T G (k+1) f):=by
 obtain⟨oc,od,kV,af,pm,an,ac,ct,ae,rfl,lk,Y⟩:=F.ex;have J:=Xw4 hS;have ab:=X35 (cm:=fl) (P:=P) (w:=w) (mg:=mg) (base:=base) (k:=k) (G:=pc (FT T G k) G d.body) (na:=nasgs d.body) lk Y J λA outer s H E hr=>by
  refine sndSs (fns:=fns) (gns:=gns) (sc:=Xz st) (N:=N) d.body (Yq st) ⟨rfl,rfl,J.nd,λ_=>rfl,⟨hb,λf nm B L h aa=>?_,hg,λf nm h=>let ⟨B,fl,h1,h2,h3⟩:=U f nm h;⟨B,fl,h1,h2,h3 k⟩,?_,hr.gd,id,er⟩,rfl,rfl⟩ hM;·obtain⟨g,fd,ps,h1,h2,h3,h4,h5⟩:=ih f nm B L h;exact⟨g,fd,ps,k,h1,hr.less aa,h2,h3,h4,h5⟩
  ·have:=hr.un;show(A.deeper _).units+200<Vcl;omega
 have e:FT T G (k+1) f=(λds S=>if (lf ds)=lf ps then
  match pc (FT T G k) G d.body (ds.map yz++Vu (N.length-lf ps) yy) S with
  |.ok (.rt v) S=>.ok v S|.ok (.nx _) S=>.ok .non S|.ok _ _=>.bad|.ex n S=>.ex n S
  |.bad=>.bad else .bad):=by
  funext ds S;simp only[FT,hT,den,hp,hn]
  all_goals rfl
 rw[e];exact ab
theorem table(Y:∀(f:Nat) (nm:Str),Xd5 f nm G=yx->∃B fl,fns[f]?=yz (nm,B,fl)/\(∀a,Va7 K Uf nm=yz (yz (.ref a))->mg nm=yz (.ref a))/\∀k xs S,FT T G k f xs S≠.bad->lf xs=B)(er:ErrOk K)(hb:∀x∈blts,mg x=yy)(hg:∀(k:Nat) nm,gns[k]?=yz nm->∃u d,mg nm=yz u/\G[k]?=yz d/\∀ ρ H,∃v,RelV v u/\RD K ρ H d v)
  (hd:∀(f:Nat) nm B fl,fns[f]?=yz (nm,B,fl)->∃d,T[f]?=yz d/\DefOk K mg fns gns d nm B fl):
  ∀(k f:Nat) nm B fl,fns[f]?=yz (nm,B,fl)->∃g fd ps,FnD fl P w K mg base k g fd ps (FT T G k f)/\Binds K fd ps []/\mg nm=yz (.ref g)/\Vd4 K (.ref g)=yx/\(lf ps)=B:=by
 intro k;induction k with
 |zero=>intro f nm B fl h;obtain⟨d,_,⟨g,fd,st,J,N,ps,F,L,_,_,_,_,hl,hB⟩⟩:=hd f nm B fl h;refine⟨g,fd,ps,⟨λA outer s H aa us vs Q E _ _ _ _ U=>?_⟩,hB,L,F.kp,hl⟩;obtain⟨ds,ρ,S',_,_,_,nb,_⟩:=U;cases nb rfl|succ k ih=>intro f nm B fl h;obtain⟨d,hT,⟨g,fd,st,J,N,ps,F,L,hS,hM,hp,hn,hl,hB⟩⟩:=hd f nm B fl h;exact⟨g,fd,ps,Xmv Y er hb hg ih hT F hS hM hp hn,hB,L,F.kp,hl⟩
end
structure FunAt(K:Vj)(nm:Str)(st:Stmt):Prop where
 ex:∃g fd,Fun K nm nm st g fd/\Va7 K Uf nm=yz (yz (.ref g))
theorem funAt_mk{K:Vj}{nm:Str}{st:Stmt}{f:Addr}{oc:Vb}{Y an:Option Addr}{L:Array (OV)}{kV J U B ct:Vb}(a:Va7 K Uf nm=yz (yz (.ref f)))
  (l:K.lookup f=yz ⟨oc,Y,.func (Vcs nm nm (Xaw st) (Yq st) (Xz st) .none kV J U an B ct),L⟩) (c:Vg1 K B nm=yx) (k:Vd4 K (.ref f)=yx):FunAt K nm st:=⟨⟨f,_,X3m l c k,a⟩⟩
def Xfq(nm:Str)(st:Stmt)(ps:LS):Prop:=∀(kV B L:Vb) (U:Option Addr) (J Y:Vb) (us:LV),lf us=lf ps->bindArgs (Vcs nm nm (Xaw st) (Yq st) (Xz st) .none kV B L U J Y) ⟨us,[]⟩=pure (ps.zip us)
theorem Xak{nm a:Str}{st:Stmt}(h:∀kV B L an J U u,bindArgs (Vcs nm nm (Xaw st) (Yq st) (Xz st) .none kV B L an J U) ⟨[u],[]⟩=pure [(a,u)]:=by intros;rfl):Xfq nm st [a]:=λkV B L an J U us Y=>by rcases us with _|⟨u,_|_⟩<;>first|exact h .. | cases Y
theorem Xbp{nm a b:Str}{st:Stmt}(h:∀kV B L an J U u v,bindArgs (Vcs nm nm (Xaw st) (Yq st) (Xz st) .none kV B L an J U) ⟨[u,v],[]⟩=pure [(a,u),(b,v)]:=by intros;rfl):Xfq nm st [a,b]:=λkV B L an J U us Y=>by rcases us with _|⟨u,_|⟨v,_|_⟩⟩<;>first|exact h .. | cases Y
theorem Ya3{nm a b c:Str}{st:Stmt}(h:∀kV B L an J U u v x,bindArgs (Vcs nm nm (Xaw st) (Yq st) (Xz st) .none kV B L an J U) ⟨[u,v,x],[]⟩=pure [(a,u),(b,v),(c,x)]:=by intros;rfl):Xfq nm st [a,b,c]:=λkV B L an J U us Y=>by rcases us with _|⟨u,_|⟨v,_|⟨x,_|_⟩⟩⟩<;>first|exact h .. | cases Y
theorem Xw5{K:Vj}{h:Heap}{mg:Str->OV}{fns:LF}{gns:LS}{d:Df}{nm:Str}{B:Nat}{fl:Bool}{st:Stmt}{N ps:LS}(X:K.In h)(J:h.Ns Uf mg)(F:FunAt K nm st)
  (U:Xc1 N ps (Xz st)=yx) (L:mtSs fns gns (Xz st) N fl d.body (Yq st)=yx) (hp:d.np=lf ps) (hn:d.nl=N.length) (Y:(lf ps)=B) (hB:Xfq nm st ps):DefOk K mg fns gns d nm B fl:=by
 obtain⟨g,fd,h1,h2⟩:=F.ex;exact⟨g,fd,st,nm,N,ps,h1,Vdu X J h2,U,L,hp,hn,Y,h1.binds hB⟩
abbrev MD(fns:LF)(gns:LS)(st:Stmt)(N:LS)(fl:Bool)(d:Df):Prop:=(mtSs fns gns (Xz st) N fl d.body (Yq st)&&Xc1 N (N.take d.np) (Xz st))=yx
theorem mm{fns:LF}{gns:LS}{st:Stmt}{N:LS}{fl:Bool}{d:Df}(h:MD fns gns st N fl d):mtSs fns gns (Xz st) N fl d.body (Yq st)=true:=((bA0 _ _).mp h).1
theorem ms{fns:LF}{gns:LS}{st:Stmt}{N:LS}{fl:Bool}{d:Df}(h:MD fns gns st N fl d):Xc1 N (N.take d.np) (Xz st)=true:=((bA0 _ _).mp h).2
theorem dk{K:Vj}{h:Heap}{mg:Str->OV}{fns:LF}{gns:LS}{d:Df}{nm:Str}{B:Nat}{fl:Bool}{st:Stmt}{N:LS}(X:K.In h)(L:h.Ns Uf mg)(F:FunAt K nm st)
  (J:MD fns gns st N fl d) (hB:Xfq nm st (N.take d.np)) (hp:d.np=(N.take d.np).length:=by rfl) (hn:d.nl=N.length:=by rfl) (U:(N.take d.np).length=B:=by rfl):DefOk K mg fns gns d nm B fl:=Xw5 X L F (ms J) (mm J) hp hn U hB
def AllD(K:Vj)(mg:Str->OV)(fns:LF)(gns:LS):LF->List Df->Prop
 |[],[]=>True|x::r,d::ds=>DefOk K mg fns gns d x.1 x.2.1 x.2.2/\AllD K mg fns gns r ds|_,_=>False
theorem AllD.c{K:Vj}{mg:Str->OV}{fns:LF}{gns:LS}{x:Str×Nat×Bool}{r:LF}{d:Df}{ds:List Df}(h:DefOk K mg fns gns d x.1 x.2.1 x.2.2)(t:AllD K mg fns gns r ds):AllD K mg fns gns (x::r) (d::ds):=⟨h,t⟩
theorem AllD.get{K:Vj}{mg:Str->OV}{fns:LF}{gns:LS}:∀ {fs:LF} {ds:List Df},AllD K mg fns gns fs ds->∀(f:Nat) nm ar fl,fs[f]?=yz (nm,ar,fl)->∃d,ds[f]?=yz d/\DefOk K mg fns gns d nm ar fl
 |[],[],_,f,nm,ar,fl,e=>by cases e|x::r,d::ds,h,0,nm,ar,fl,e=>by cases e;exact⟨d,rfl,h.1⟩|x::r,d::ds,h,f+1,nm,ar,fl,e=>AllD.get h.2 f nm ar fl e
noncomputable def X59(K:Vj):Bool:=blts.all λx=>match Va7 K Uf x with
 |some yy=>yx|_=>yw
theorem X1u{K:Vj}{h:Heap}{mg:Str->OV}(X:K.In h)(B:h.Ns Uf mg)(e:X59 K=yx):∀x∈blts,mg x=none:=λx J=>by
 have:=Uk.mp e x J;split at this;·rename_i q;exact PySem.W.mg_none_of X B q
 ·cases this
theorem Xi0{K:Vj}{h:Heap}{mg:Str->OV}{nm:Str}{i:Int}{t:Tok}(X:K.In h)(B:h.Ns Uf mg)(e:Va7 K Uf nm=yz (yz (.int i t))):∃u d,mg nm=yz u/\yz (D.int i)=yz d/\∀ ρ H,∃v,RelV v u/\RD K ρ H d v:=
 ⟨_,_,Vdu X B e,rfl,λ_ _=>⟨.int i,⟨t,rfl⟩,by simp only[RD]⟩⟩
noncomputable def Xi1(fns:LF):LD->Bool
 |[]=>yx|.fn f nm::r=>(match fns[f]? with|some (m,_,_)=>decide (m=nm)|none=>yw)&&Xi1 fns r|_::r=>Xi1 fns r
theorem Xi2:∀ {G:LD},Xi1 fns G=yx->Xd5 f nm G=yx->∃B fl,fns[f]?=yz (nm,B,fl)
 |[],_,h=>by cases h|d::r,hc,h=>by
  cases d with
  |fn g m=>
   simp only[Xi1,bA0]at hc;simp only[Xd5,Vc5,bA0,beq_iff_eq,decide_eq_true_eq]at h;rcases h with⟨rfl,rfl⟩|h
   ·have h1:=hc.1;split at h1;·rename_i J B fl e;have:=oD0 h1;subst this;exact⟨B,fl,e⟩
    ·cases h1
   exact Xi2 hc.2 h|_=>exact Xi2 (by simpa only[Xi1] using hc) (by simpa only[Xd5] using h)
theorem X6a(hT:T[f]?=yz d):∀(k:Nat) (xs:LD) (S:Sto),FT T G k f xs S≠.bad->lf xs=d.np
 |0=>λxs S h=>aB0 rfl h|k+1=>λxs S h=>by
  simp only[FT,hT,den]at h;split at h;·assumption
  ·cases h rfl
theorem law_fn {P:V4} {w:Ua} {K:Vj} {h:Heap} {mg:Str->OV} {T:List Df} {G:LD} {fns:LF} {gns:LS} {fa:Addr} {k f:Nat} {d:Df} {st:Stmt} {N:LS} {x:Str} (X:K.In h) (Gm:h.Ns Uf mg) (Y:mg "law"=yz (.ref fa))
  (er:ErrOk K) (hb:∀x∈blts,mg x=yy) (hg:∀(k:Nat) nm,gns[k]?=yz nm->∃u d,mg nm=yz u/\G[k]?=yz d/\∀ ρ H,∃v,RelV v u/\RD K ρ H d v)
  (hd:∀(f:Nat) nm ar fl,fns[f]?=yz (nm,ar,fl)->∃d,T[f]?=yz d/\DefOk K mg fns gns d nm ar fl)
  (hT:T[f]?=yz d) (F:FunAt K "law" st) (hS:Xc1 N [x] (Xz st)=yx) (hM:mtSs fns gns (Xz st) N yx d.body (Yq st)=yx) (hp:d.np=1) (hn:d.nl=N.length) (hB:Xfq "law" st [x]) (aa:Xi1 fns G=true:=by rfl):
  ∃fd:Vdj,(∀(s:Vc) (u:Vb),BindsTo s fd ⟨[u],[]⟩ [(x,u)])/\∀base:Heap,K.In base->base.Ns Uf mg->FnOk P w K mg base (CXd P w) (k+1) fa fd [x] (spD K 1 (FT T G (k+1) f)):=by
 obtain⟨g,fd,h1,h2⟩:=F.ex;have e:=Y.symm.trans (Vdu X Gm h2);cases e;refine⟨fd,λs u=>?_,λbase _ _=>?_⟩;·obtain⟨oc,od,kV,ab,pm,an,L,ct,ac,rfl,_⟩:=h1.ex;exact .of_eq (hB kV ab pm an L ct [u] rfl)
 ·have B:∀(f:Nat) (nm:Str),Xd5 f nm G=yx->∃ar fl,fns[f]?=yz (nm,ar,fl)/\(∀a,Va7 K Uf nm=yz (yz (.ref a))->mg nm=yz (.ref a))/\∀k xs S,FT T G k f xs S≠.bad->lf xs=ar:=λf nm h=>by
   obtain⟨ar,fl,q⟩:=Xi2 aa h;obtain⟨d',U,⟨_,_,_,_,_,ae,_,_,_,_,e1,_,e2,_⟩⟩:=hd f nm ar fl q;exact⟨ar,fl,q,λa z=>Vdu X Gm z,λk xs S z=>by rw[X6a U k xs S z,e1,e2]⟩
  have:=Xmv (P:=P) (w:=w) (base:=base) B er hb hg (λf nm ar fl q=>table B er hb hg hd k f nm ar fl q) hT h1 hS hM hp hn;exact⟨λvs H Q E z=>let ⟨_,_,_,q,_⟩:=z;q,λA outer s H J us vs Q E hr=>this.run A outer s H J us vs Q E (.of hr)⟩
theorem X6b{K:Vj}{F:LD->Sto->R D}{H:Hp}{a:Addr}{ns:LI}(J:Xqf H)(U:SqL K H a (ns.map V.int))(L:∃S',F [.fro (ns.map D.int)] []=.ok (.bl yx) S'):
  spD K 1 F [.ref a] H (λv _=>v=.bl yx) λ_ _ _=>False:=by
 obtain⟨S',e⟩:=L;have B:FrL K H a (ns.map V.int):=by
  rcases U with(h|⟨o,h⟩)|h
  ·rcases J a with z|⟨o,xs,z⟩;·rw[h]at z;cases z
   ·rw[h]at z;cases z
  ·exact .inl ⟨o,h⟩
  exact .inr h
 refine⟨[.fro (ns.map D.int)],[],[],rfl,.cons ?_ .nil,⟨rfl,Vg8,λn a o q=>by simp at q⟩,(by rw[e];exact λz=>nomatch z),λd S2 v H' ρ' q Y _ _=>?_,λn c S2 a H' ρ' q=>?_⟩;·simp only[RD];exact⟨a,_,rfl,B,RDs.ints ns⟩
 ·rw[e]at q;cases q;simpa only[RD] using Y
 ·rw[e]at q;cases q
theorem X6c(H:Hp)(s:Vc)(e:Vb)(s':Vc)(z:CXd P w [] H s (λ_ _ _=>False) e s'):False:=by obtain⟨_,_,_,_,_,_,q⟩:=z;exact q
theorem walk_z{l:PySem.W.OpenLaw}{loose:LS}{XP:(Str->OV)->Heap->Prop}{YP:Ua->Heap->Prop}{d:DefRec}{K:Params->Vj}{T:List Df}{G:LD}{k f:Nat}{x:Str}(hn:l.most=yz 63)(B:d.params.defaults=[])(Y:Room k callerA)
  (U:∀(w:Ua) (h:Heap),YP w h->(K w.params).In h)
  (F:∀(w:Ua) (mg:Str->OV) (fa:Addr) (h:Heap),(K w.params).In h->h.Ns Uf mg->mg d.name=yz (.ref fa) ->
   ∃fd:Vdj,(∀(s:Vc) (u:Vb),BindsTo s fd ⟨[u],[]⟩ [(x,u)])/\∀base:Heap,(K w.params).In base->base.Ns Uf mg->FnOk l.prog w (K w.params) mg base (CXd l.prog w) k fa fd [x] (spD (K w.params) 1 (FT T G k f)))
  (L:∀ns:LI,lf ns<=63->∃S',FT T G k f [.fro (ns.map D.int)] []=.ok (.bl yx) S'):
  PySem.W.WalkO q loose XP YP l.row.toRowW d [] (λf vs=>PySem.call f vs):=
 L2.walk_of (n:=63) (k:=k) (x:=x) (CX:=λw=>CXd l.prog w) (sp:=λw=>spD (K w.params) 1 (FT T G k f)) hn (by decide) B Y U F (λ_ _ _ ns hl J hS=>X6b J hS (L ns hl)) λ_ H s e s' z=>X6c H s e s' z
section
variable{F:Fn}{G:LD}{s:St}{ss:Sts}{env e:En}{S S1:Sto}
theorem Xd(h:exe F G s env S=.ok (.nx e) S1):pc F G (.cons s ss) env S=pc F G ss e S1:=by simp only[pc,h]
theorem Xi(h:exe F G s env S=.ok (.rt d) S1):pc F G (.cons s ss) env S=.ok (.rt d) S1:=by simp only[pc,h]
theorem Xco(h:exe F G s env S=.ex n S1):pc F G (.cons s ss) env S=.ex n S1:=by simp only[pc,h]
theorem Xbc{get:Sto->Nat->Option (Option D)}{body:En->Sto->R Fl}(xs:LD)(P:Nat->En->Sto->Prop)(J:∀i e S,P i e S->get S i=yz xs[i]?)
  (step:∀i d e S,xs[i]?=yz d->P i e S->∃Y L S2,Xu t d e=yz Y/\body Y S=.ok (.nx L) S2/\P (i+1) L S2):
  ∀(B i:Nat) (e:En) (S:Sto),P i e S->i<=lf xs->lf xs<B+i->∃U S',X9 get t body B i e S=.ok (.nx U) S'/\P (lf xs) U S'
 |0=>λi e S h h1 h2=>by omega|B+1=>λi e S h h1 h2=>by
  cases q:xs[i]? with
  |none=>
   have hi:i=lf xs:=by have:=Ui.mp q;omega
   refine⟨e,S,?_,hi▸h⟩;simp only[X9,J i e S h,q]|some d=>obtain⟨Y,L,S2,a1,a2,a3⟩:=step i d e S q h;have hi:i<lf xs:=(Vi.mp q).1;obtain⟨U,S',b1,b2⟩:=Xbc xs P J step B (i+1) L S2 a3 (by omega) (by omega);refine⟨U,S',?_,b2⟩;simp only[X9,J i e S h,q,a1,a2];exact b1
theorem Xi3{ds xs:LD}(P:Nat->En->Sto->Prop)(h1:evs F G es env S=.ok ds S1)(h2:Yu ds=yz xs)(Y:P 0 env S1)
  (step:∀i d e S,xs[i]?=yz d->P i e S->∃L J S2,Xu t d e=yz L/\pc F G b L S=.ok (.nx J) S2/\P (i+1) J S2):
  ∃B S',exe F G (.for t (.rng es) b) env S=.ok (.nx B) S'/\P (lf xs) B S':=by
 obtain⟨B,S',a,U⟩:=Xbc (get:=(Src.con xs).get) (t:=t) (body:=λenv S=>pc F G b env S) xs P (λ_ _ _ _=>rfl) step (lf xs+1) 0 env S1 Y (Ug _) (by omega);refine⟨B,S',?_,U⟩;simp only[exe,evit,h1,Rk0,h2,Src.most];exact a
end
theorem Xmw(h:Yu [.int m]=yz xs)(q:xs[i]?=yz d):d=.int i/\i<m.toNat:=by
 simp only[Yu]at h;split at h
 ·cases h;rw[Vx]at q;cases z:(Vs m.toNat)[i]? with
  |none=>rw[z]at q;cases q|some j=>rw[z]at q;obtain⟨hi,e⟩:=Vi.mp z;simp at e hi;subst e;simp at q;exact⟨q.symm,by omega⟩
 cases h
theorem Xc2(B:0<=m)(h:m<1048576):∃xs,Yu [.int m]=yz xs/\(lf xs)=m.toNat:=by refine⟨_,by simp only[Yu];rw[iP0 ⟨by omega,h⟩],by simp⟩
noncomputable def C:Nat->Nat->Nat
 |_,0=>1|0,_+1=>0|n+1,k+1=>C n k+C n (k+1)
theorem Xw6(s:String):PyData.strOk (Vao s)=true:=by
 rw[Str.ofString_eq_toList];unfold PyData.strOk;rw[<-Array.all_toList,Uk];intro n hn;have B:n∈s.toList.map Char.toNat:=by simpa using hn
 obtain⟨c,_,rfl⟩:=V0.mp B;refine decide_eq_true ?_;have:=c.valid;rcases this with h|⟨_,h⟩;·have:c.toNat<0xd800:=h;omega
 ·exact h
theorem ne_str(s:String):Xh .ne (.str (Vao s)) (.str (Vao s)) S=.ok (.bl yw) S:=by simp only[Xh,X5,eqD,Xbf,Yc,X0,Vci,Xw6,Vat];simp[Vaz]
theorem Y8(i j:Int)(S:Sto):X7 .add (.int i) (.int j) S=.ok (.int (i+j)) S:=rfl
theorem Xi4(i j:Int)(S:Sto):X7 .sub (.int i) (.int j) S=.ok (.int (i-j)) S:=rfl
theorem Xcp(h:Xay i j=yx)(S:Sto):X7 .mul (.int i) (.int j) S=.ok (.int (i*j)) S:=by simp only[X7,h,if_true]
theorem Xw7(h:Xd4 j=yx)(S:Sto):X7 .fdiv (.int i) (.int j) S=.ok (.int (i/j)) S:=by simp only[X7,h,if_true]
theorem Xdq(h:0<j)(S:Sto):X7 .mod (.int i) (.int j) S=.ok (.int (i%j)) S:=by simp only[X7,h,if_true]
theorem Xfr(h:0<=j/\j<=1000/\i.natAbs<2^63)(S:Sto):X7 .pow (.int i) (.int j) S=.ok (.int (i^j.toNat)) S:=by simp only[X7,h,and_self,if_true]
theorem Xi5(h1:-1000000000000000<j)(h2:j<1000000000000000):Xay i j=true:=by unfold Xay;simp only[Vc5,bA0,decide_eq_true_eq];left;right;constructor<;>omega
theorem Xi6(h1:-1000000000000000<i)(h2:i<1000000000000000):Xay i j=true:=by unfold Xay;simp only[Vc5,bA0,decide_eq_true_eq];left;left;constructor<;>omega
end Z
end
section
namespace Z
open PySem PySem.W
section
variable(tb:String->Option Vcb)(p:V4)(w:Ua)(m:Nat)(ann:OV)
noncomputable def topT:Nat->SharedT->Thread->Option SharedT
 |0,_,_=>yy|n+1,s,t=>match through t with
  |true=>yz s|false=>match stepOk m ann t with
   |false=>yy|true=>match stepT (denote tb) p w s t with
    |some (s',t')=>topT n s' t'|none=>yy
end
theorem Xpq{tb:String->Option Vcb}{p:V4}{w:Ua}{m:Nat}{ann:OV}:∀ {n:Nat} {s s':SharedT} {t:Thread},topT tb p w m ann n s t=yz s'->topRun tb p w m ann n s.abs t=yz s'.abs
 |0,_,_,_,h=>by cases h|n+1,s,s',t,h=>by
  unfold topT at h;unfold topRun;cases J:through t with
  |true=>rw[J]at h;cases h;rfl|false=>
   rw[J]at h;cases B:stepOk m ann t with
   |false=>rw[B]at h;cases h|true=>
    rw[B]at h;cases hs:stepT (denote tb) p w s t with
    |none=>rw[hs]at h;cases h|some r=>obtain⟨a,b⟩:=r;rw[hs]at h;rw[stepT_spec hs];exact Xpq h
noncomputable def Xkw(P:Params):BT:=
 .node (boot_o_0 P) (.node (boot_o_1 P) (.node (boot_o_3 P) (.node (boot_o_7 P) .nil .nil) .nil) (.node (boot_o_5 P) (.node (boot_o_9 P) .nil .nil) .nil))
  (.node (boot_o_2 P) (.node (boot_o_4 P) (.node (boot_o_8 P) .nil .nil) .nil) (.node (boot_o_6 P) (.node (boot_o_10 P) .nil .nil) .nil))
noncomputable def Xkx:Life:={debug:=0,thresholds:=[2000,10,10]}
theorem Xw8(P:Params):absHeap (Xkw P) 11 Xkx=boot_heap P:=by kernel_rfl
theorem Xtl(P:Params):((boot_heap P).isNs Uf&&(Array.mk ([]:List GenState)).size==0,(boot_heap P).objs.size,(boot_heap P).nsMap Uf "__annotations__")=(yx,11,yz (.ref 6)):=by kernel_rfl
noncomputable def Xtm{α:Type}(p q:V4)(loose:LS)(Xt:Vc->Bool)(Yf:Vc->α)(P:Params)(s:Vc):=((staticsOk (Ven p.main.body) (boot_heap P) s.heap&&namesBound p s.heap&&gensDone s&&laidKept (boot_heap P) s.heap),openSeen q loose (Ven p.main.body) Xt yx s,Yf s)
theorem Xtn{p q:V4}{loose:LS}{Xt:Vc->Bool}{α:Type}{Yf:Vc->α}{Ya:Ua->α}{N:Nat}
  (e:opening p=plainProg p.main.scope.names) (hN:Nat.ble 600 N=yx) (f:∀s,fenceModules? p s=yz s)
  (all:∀w os,(topT treeTable p w 11 (yz (.ref 6)) N ⟨Xkw w.params,11,Xkx,Array.mk [],boot_drawn,boot_toks,os⟩ (topStub p)).map (λs=>Xtm p q loose Xt Yf w.params s.abs)=yz (yx,openGood q loose,Ya w)):
  LeftO p q loose Xt Yf Ya N:=λw=>by
 obtain⟨⟨h,gs,d,k,os⟩,e1,Y⟩:=Vaa.mp (boot_open e hN f w);obtain⟨rfl,rfl,rfl,rfl⟩:h=boot_heap w.params/\gs=Array.mk []/\d=boot_drawn/\k=boot_toks:=by simpa using Y
 obtain⟨J,z2,U⟩:_/\_/\_:=by simpa only[Vee] using Xtl w.params
 obtain⟨s,r,l⟩:=Vaa.mp (all w os);have B:=Xpq r;have e0:SharedT.abs ⟨Xkw w.params,11,Xkx,Array.mk [],boot_drawn,boot_toks,os⟩=⟨boot_heap w.params,Array.mk [],boot_drawn,boot_toks,os⟩:=by unfold SharedT.abs;dsimp only;rw[Xw8]
 rw[e0]at B;unfold Xtm at l;obtain⟨l1,l2,L⟩:_/\_/\_:=by simpa only[Vee] using l
 have t:topFrom treeTable p w N ⟨boot_heap w.params,Array.mk [],boot_drawn,boot_toks,os⟩=yz s.abs:=by unfold topFrom;dsimp only;rw[J,z2,U,B];dsimp only[Option.bind];rw[l1]
 unfold openEnds;rw[e1];show(topFrom treeTable p w N _).map _=_;rw[t];exact congrArg yz (Prod.ext l2 L)
abbrev RunT{β:Type}(p:V4)(g:Ua->SharedT->β)(r:Ua->β):Prop:=∀w os,(topT treeTable p w 11 (yz (.ref 6)) 40000 ⟨Xkw w.params,11,Xkx,Array.mk [],boot_drawn,boot_toks,os⟩ (topStub p)).map (g w)=yz (r w)
theorem left_tree3{p q:V4}{loose:LS}{Xt:Vc->Bool}{α:Type}{Yf:Vc->α}{Ya:Ua->α}(e:opening p=plainProg p.main.scope.names)(f:∀s,fenceModules? p s=yz s)
  (U:RunT p (λw s=>staticsOk (Ven p.main.body) (boot_heap w.params) s.abs.heap&&namesBound p s.abs.heap&&gensDone s.abs&&laidKept (boot_heap w.params) s.abs.heap) λ_=>yx)
  (Y:RunT p (λ_ s=>openSeen q loose (Ven p.main.body) Xt yx s.abs) λ_=>openGood q loose) (a3:RunT p (λ_ s=>Yf s.abs) Ya):LeftO p q loose Xt Yf Ya 40000:=Xtn e rfl f λw os=>by
 obtain⟨s,h,L⟩:=Vaa.mp (U w os);have B:=Y w os;have J:=a3 w os;rw[h]at B J ⊢;exact congrArg yz (Prod.ext L (Prod.ext (Ud B) (Ud J)))
end Z
end
section
namespace Z
open PySem PySem.Spec PyProof.Rows L2
theorem Xmx{m:Int}(h:m<1000000):m<1048576:=by omega
theorem Xf:Xc (S++[.lst xs]) (lf S)=yz xs:=by unfold Xc;rw[Vaq (Vm _),Vbo];rfl
theorem Xl(h:Xc S q=yz xs):Xc (S++X) q=yz xs:=by
 unfold Xc at h ⊢;cases e:S[q]? with
 |none=>rw[e]at h;cases h|some o=>rw[V1 (Vi.mp e).1];exact h
theorem Xcu(hp:Xc S p=yz xs):p<lf S:=by
 unfold Xc at hp;cases e:S[p]? with
 |none=>rw[e]at hp;cases hp|some o=>exact(Vi.mp e).1
theorem Xdr{S:Sto}{p:Nat}{x:LD}(h:p<lf S):Xc (S.set p (.lst x)) p=yz x:=by unfold Xc;rw[Vcr h]
theorem Xkc(h:p≠q):Xc (S.set p o) q=Xc S q:=by unfold Xc;rw[Vay h]
theorem Ya4(h:Xc S p=yz [.int v]):Xa8 (.ref p) (.int 0) S=.ok (.int v) S:=by simp only[Xa8,Xa1,Xw,h,Vq,Z.ixN,Vah];rfl
theorem X9j(h:Xc S p=yz [.int v]):Xcy (.ref p) (.int 0) d S=.ok () (S.set p (.lst [d])):=by have h':Z.lstM S p=yz [.int v]:=h;simp only[Xcy,h',Z.ixN,Vah];rfl
section
variable{F:Fn}{G:LD}
noncomputable def Xrd:Sts:=.cons (.ite (.cmp .lt (.var 1) (.blt .len (.cons (.var 0) .nil))) (.cons (.ret (.idx (.var 0) (.var 1))) .nil) .nil) (.cons (.ret (.cst (.int 0))) .nil)
noncomputable def Xho:Df:=⟨2,2,Xrd⟩
theorem Xw9(ns:LI)(j:Nat)(S:Sto):∃c,den F G Xho [.fro (ns.map D.int),.int j] S=.ok (.int c) S:=by
 have B:Xk .len [.fro (ns.map D.int)] S=.ok (.int (lf ns)) S:=by simp only[Xk,Xw,Ve]
 by_cases h:j<lf ns
 ·refine⟨ns[j],?_⟩;have hi:Xa8 (.fro (ns.map D.int)) (.int j) S=.ok (.int ns[j]) S:=by
   simp only[Xa8,Xa1,Xw,Vq,Z.ixN,Ve];rw[iP0 (by omega),iP0 (by omega)];simp[h]
  simp only[den,Xho,Xrd,Vah,if_true,Uw,Vu,Vbo,V3];rw[Xi (d:=.int ns[j]) (S1:=S) (by
   have hc:decide ((j:Int)<(lf ns:Int))=true:=decide_eq_true (by omega)
   simp only[exe,ev,evs,gZ0,gS0,Rk0,B,Xh,X5,ltD,hc,Xg];simp only[pc,exe,ev,gZ0,gS0,Rk0,hi])]
 refine⟨0,?_⟩
 simp only[den,Xho,Xrd,Vah,if_true,Uw,Vu,Vbo,V3];rw[Xd (e:=[yz (.fro (ns.map D.int)),yz (.int j)]) (S1:=S) (by
  have hc:decide ((j:Int)<(lf ns:Int))=false:=decide_eq_false (by omega)
  simp only[exe,ev,evs,gZ0,gS0,Rk0,B,Xh,X5,ltD,hc,Xg];simp only[pc])]
 simp only[pc,exe,ev,Rk0]
noncomputable def Xy8:Sts:=.cons (.asg (.var 2) (.bin .mod (.idx (.var 0) (.cst (.int 0))) (.var 1))) (.cons (.aset (.var 0) (.cst (.int 0)) (.bin .fdiv (.idx (.var 0) (.cst (.int 0))) (.var 1))) (.cons (.ret (.var 2)) .nil))
noncomputable def Xky:Df:=⟨2,3,Xy8⟩
theorem Xxa{p:Nat}{v far:Int}{S:Sto}(h:Xc S p=yz [.int v])(J:0<far)(hd:Xd4 far=yx):den F G Xky [.ref p,.int far] S=.ok (.int (v%far)) (S.set p (.lst [.int (v/far)])):=by have B:=Ya4 h;have L:=X9j (d:=.int (v/far)) h;simp only[den,Xky,Xy8,Vah,if_true,Uw,Vu];rw[Xd (e:=[yz (.ref p),yz (.int far),yz (.int (v%far))]) (S1:=S) (by simp only[exe,ev,Vd9,Vbp,gZ0,gS0,Rk0,B,Xdq J,Xu,Vfo])];rw[Xd (e:=[yz (.ref p),yz (.int far),yz (.int (v%far))]) (S1:=S.set p (.lst [.int (v/far)])) (by simp only[exe,ev,gZ0,gS0,Rk0,B,Xw7 hd,L])];rw[Xi (d:=.int (v%far)) (S1:=S.set p (.lst [.int (v/far)])) (by simp only[exe,ev,gZ0,gS0,Rk0])]
noncomputable def Xhp:Sts:=.cons (.asg (.var 3) (.bin .mod (.bin .mul (.bin .add (.bin .add (.bin .mod (.var 0) (.cst (.int 2147483629))) (.bin .mul (.cst (.int 7919)) (.var 2))) (.cst (.int 1))) (.cst (.int 48271))) (.cst (.int 2147483647))))
  (.cons (.asg (.var 3) (.bin .mod (.bin .add (.bin .add (.bin .mul (.var 3) (.var 3)) (.bin .mul (.cst (.int 69621)) (.var 2))) (.cst (.int 7))) (.cst (.int 2147483587))))
  (.cons (.asg (.var 1) (.bin .add (.bin .mul (.var 1) (.cst (.int 2147483587))) (.var 3)))
  .nil))
noncomputable def Xxb:Sts:=.cons (.ite (.cmp .ge (.var 0) (.bin .pow (.cst (.int 10)) (.cst (.int 18)))) (.cons (.ret (.lst (.cons (.bin .sub (.var 0) (.bin .pow (.cst (.int 10)) (.cst (.int 18)))) .nil))) .nil) .nil)
 (.cons (.asg (.var 1) (.cst (.int 0))) (.cons (.for (.var 2) (.rng (.cons (.cst (.int 64)) .nil)) Xhp) (.cons (.ret (.lst (.cons (.var 1) .nil))) .nil)))
noncomputable def Xgz:Df:=⟨1,4,Xxb⟩
theorem Xxc(c a j:Int)(x:Option D)(S:Sto):∃a' U,pc F G Xhp [yz (.int c),yz (.int a),yz (.int j),x] S=.ok (.nx [yz (.int c),yz (.int a'),yz (.int j),yz (.int U)]) S:=by
 have m1:Xay 7919 j=true:=Xi6 (by decide) (by decide);have m2:∀y,Xay y 48271=true:=λy=>Xi5 (by decide) (by decide);have J:Xay 69621 j=true:=Xi6 (by decide) (by decide);have m4:∀y,Xay y 2147483587=true:=λy=>Xi5 (by decide) (by decide);have Y:(0:Int)<2147483629:=by decide
 have p2:(0:Int)<2147483647:=by decide
 have L:(0:Int)<2147483587:=by decide
 generalize B:((c%2147483629+7919*j+1)*48271)%2147483647=b;have b1:0<=b:=by rw[<-B];exact Int.emod_nonneg _ (by decide)
 have b2:b<2147483647:=by rw[<-B];exact Int.emod_lt_of_pos _ (by decide)
 have m5:Xay b b=true:=Xi5 (by omega) (by omega);refine⟨a*2147483587+(b*b+69621*j+7)%2147483587,(b*b+69621*j+7)%2147483587,?_⟩;unfold Xhp;rw[Xd (e:=[yz (.int c),yz (.int a),yz (.int j),yz (.int b)]) (S1:=S) (by simp only[exe,ev,gZ0,gS0,Rk0,Xdq Y,Xcp m1,Y8,Xcp (m2 _),Xdq p2,Xu,Vfo,B])];rw[Xd (e:=[yz (.int c),yz (.int a),yz (.int j),yz (.int ((b*b+69621*j+7)%2147483587))]) (S1:=S) (by simp only[exe,ev,gZ0,gS0,Rk0,Xcp m5,Xcp J,Y8,Xdq L,Xu,Vfo])];rw[Xd (e:=[yz (.int c),yz (.int (a*2147483587+(b*b+69621*j+7)%2147483587)),yz (.int j),yz (.int ((b*b+69621*j+7)%2147483587))]) (S1:=S) (by simp only[exe,ev,gZ0,gS0,Rk0,Xcp (m4 _),Y8,Xu,Vfo])];simp only[pc]
theorem X1v(c a:Int)(S:Sto)(J:En)(hc:¬ (10:Int)^(18:Int).toNat<=c)(h1:exe F G (.for (.var 2) (.rng (.cons (.cst (.int 64)) .nil)) Xhp) [yz (.int c),yz (.int 0),yy,yy] S=.ok (.nx J) S)(h2:J[1]?=yz (yz (.int a))):
  den F G Xgz [.int c] S=.ok (.ref (lf S)) (S++[.lst [.int a]]):=by
 have hp:X7 .pow (.int 10) (.int 18) S=.ok (.int (10^(18:Int).toNat)) S:=Xfr (by decide+kernel) S;generalize (10:Int)^(18:Int).toNat=w at hp hc;simp only[den,Xgz,Xxb,Vah,if_true,Uw,Vu];rw[Xd (e:=[yz (.int c),yy,yy,yy]) (S1:=S) (by simp only[exe,ev,Vd9,Vbp,gZ0,gS0,Rk0,hp,Xh,X5,Xg,decide_eq_false hc];simp only[pc])];rw[Xd (e:=[yz (.int c),yz (.int 0),yy,yy]) (S1:=S) (by simp only[exe,ev,Rk0,Xu,Vfo])];have B:=Xd (ss:=.cons (.ret (.lst (.cons (.var 1) .nil))) .nil) h1;rw[B];rw[Xi (d:=.ref (lf S)) (S1:=S++[.lst [.int a]]) (by simp only[exe,ev,evs,h2,Rk0,Vah];rfl)]
theorem Xto(c:Int)(S:Sto)(hc:(10:Int)^(18:Int).toNat<=c):∃a,den F G Xgz [.int c] S=.ok (.ref (lf S)) (S++[.lst [.int a]]):=by have hp:X7 .pow (.int 10) (.int 18) S=.ok (.int (10^(18:Int).toNat)) S:=Xfr (by decide+kernel) S;generalize (10:Int)^(18:Int).toNat=w at hp hc;refine⟨c-w,?_⟩;simp only[den,Xgz,Xxb,Vah,if_true,Uw,Vu];rw[Xi (d:=.ref (lf S)) (S1:=S++[.lst [.int (c-w)]]) (by simp only[exe,ev,Vd9,Vbp,gZ0,gS0,Rk0,hp,Xh,X5,Xg,decide_eq_true hc];rw[Xi (d:=.ref (lf S)) (S1:=S++[.lst [.int (c-w)]]) (by simp only[exe,ev,evs,gZ0,Rk0,hp,Xi4,Vah];rfl)])]
theorem X1w(c:Int)(S:Sto):∃a,den F G Xgz [.int c] S=.ok (.ref (lf S)) (S++[.lst [.int a]]):=by
 by_cases hc:(10:Int)^(18:Int).toNat<=c;·exact Xto c S hc
 obtain⟨xs,J,hl⟩:=Xc2 (m:=(64:Int)) (by decide) (Xmx (by decide));have B:=Xi3 (F:=F) (G:=G) (t:=.var 2) (es:=.cons (.cst (.int 64)) .nil) (b:=Xhp)
  (env:=[yz (.int c),yz (.int 0),yy,yy]) (S:=S) (S1:=S) (ds:=[.int 64]) (xs:=xs) (λi e S'=>S'=S/\∃a x y,e=[yz (.int c),yz (.int a),x,y])
  (by simp only[evs,ev,Rk0]) J ⟨rfl,0,yy,yy,rfl⟩ (λi d e S' hd L=>by obtain⟨rfl,a,x,y,rfl⟩:=L;obtain⟨rfl,hi⟩:=Xmw J hd;obtain⟨U,Y,st⟩:=Xxc (F:=F) (G:=G) c a i y S';exact⟨_,_,S',rfl,st,rfl,U,_,_,rfl⟩)
 obtain⟨e',S',h1,rfl,a,x,y,rfl⟩:=B;exact⟨a,X1v c a S' _ hc h1 rfl⟩
noncomputable def wh:D->Bool
 |.int _=>yx|_=>yw
def good(S:Sto)(d:D):Prop:=∃k,kdD S d=yz k/\∀c,k≠.exc c
theorem X1x(h:∀c,k≠.exc c):∃b,Yb k [.int]=yz b/\(b=yx ↔ k=.int\/k=.bool):=by cases k<;>first|exact⟨_,rfl,by simp⟩|exact aB0 rfl (h _)
theorem Xxd(h:∀c,k≠.exc c):∃b,Yb k [.bool]=yz b/\(b=yx ↔ k=.bool):=by cases k<;>first|exact⟨_,rfl,by simp⟩|exact aB0 rfl (h _)
theorem X9k(h:kdD S d=yz k):wh d=yx ↔ k=.int:=by
 cases d with
 |ref n=>simp only[kdD]at h;split at h<;>first|(cases h;simp[wh])|cases h
 |fn _ _=>cases h|_=>cases h;simp[wh]
noncomputable def Xtp:Sts:=.cons (.ret (.and (.isi (.var 0) [.int]) (.not (.isi (.var 0) [.bool])))) .nil
noncomputable def Xe2:Df:=⟨1,1,Xtp⟩
theorem Xtq(h:good S d):den F G Xe2 [d] S=.ok (.bl (wh d)) S:=by
 obtain⟨Y,h1,h2⟩:=h;obtain⟨b1,i1,B⟩:=X1x h2;obtain⟨b2,i2,J⟩:=Xxd h2;have hw:=X9k h1;simp only[den,Xe2,Xtp,Vah,pc,exe,ev,Uw,Vu,if_true,Vbo,V3,gZ0,Rk0,h1,Vq,i1,i2,Xg];cases b1 with
 |false=>
  have e:wh d=false:=by
   cases q:wh d with
   |false=>rfl|true=>exact aB0 (B.mpr (.inl (hw.mp q))) Us
  rw[e];rfl|true=>
  cases b2 with
  |false=>have e:wh d=true:=hw.mpr (by rcases B.mp rfl with z|z;exact z;exact aB0 (J.mpr z) Us);rw[e];rfl|true=>
   have e:wh d=false:=by
    cases q:wh d with
    |false=>rfl|true=>have U:=hw.mp q;have L:=J.mp rfl;rw[U]at L;cases L
   rw[e];rfl
noncomputable def wi(d:D)(lo hi:Int):Bool:=match d with
 |.int i=>decide (lo<=i)&&decide (i<=hi)|_=>yw
noncomputable def Xpr(f:Nat):Sts:=.cons (.ret (.and (.call f (.cons (.var 0) .nil)) (.chn .le .le (.var 1) (.var 0) (.var 2)))) .nil
noncomputable def Xfs(f:Nat):Df:=⟨3,3,Xpr f⟩
theorem Xre{lo hi:Int}(h:F f [d] S=.ok (.bl (wh d)) S):den F G (Xfs f) [d,.int lo,.int hi] S=.ok (.bl (wi d lo hi)) S:=by
 simp only[den,Xfs,Xpr,Vah,pc,exe,ev,evs,Uw,Vu,if_true,Vbo,V3,gZ0,gS0,Rk0,h,Xg];cases d with
 |int i=>simp only[wh,wi,X5,Xh];cases decide (lo<=i)<;>rfl|_=>rfl
theorem Xmy(S:Sto)(i:Int):good S (.int i):=⟨.int,rfl,λc z=>nomatch z⟩
theorem Xcv(h:good S d):good (S++X) d:=by
 obtain⟨k,h1,h2⟩:=h;cases d with
 |ref n=>
  refine⟨k,?_,h2⟩;simp only[kdD]at h1 ⊢;cases e:S[n]? with
  |none=>rw[e]at h1;cases h1|some o=>rw[V1 (Vi.mp e).1,e];rw[e]at h1;exact h1
 |_=>exact⟨k,h1,h2⟩
theorem Xc3(S:Sto)(d:D)(h:∀n,d≠.ref n)(B:∀f m,d≠.fn f m:=by intro _ _ z;cases z):good S d:=by
 cases d with
 |fn f m=>exact aB0 rfl (B f m)|ref n=>exact aB0 rfl (h n)|non=>exact⟨.non,rfl,λ_ z=>nomatch z⟩|bl _=>exact⟨.bool,rfl,λ_ z=>nomatch z⟩|int _=>exact⟨.int,rfl,λ_ z=>nomatch z⟩|str _=>exact⟨.str,rfl,λ_ z=>nomatch z⟩|tup _=>exact⟨.tuple,rfl,λ_ z=>nomatch z⟩|fro _=>exact⟨.list,rfl,λ_ z=>nomatch z⟩
theorem Xq(h:ev F G c env S=.ok (.bl yw) S'):exe F G (.ite c a .nil) env S=.ok (.nx env) S':=by rw[exe,h,Rk0];simp only[Xg,pc]
end
noncomputable def four(c1 B J L:Nat):Ex:=.lst (.cons (.isi (.var 0) [.cls c1]) (.cons (.isi (.var 0) [.cls B]) (.cons (.isi (.var 0) [.cls J]) (.cons (.isi (.var 0) [.cls L]) .nil))))
noncomputable def words1:LD:=[.str "net",.str "face",.str "point",.str "apart",.str "many",.str "text",.str "row",.str "number",.str "level",.str "crowd",.str "way",.str "closed"]
noncomputable def words2:LD:=[.str "swap",.str "places",.str "deed",.str "line"]
noncomputable def Xds:LD->Exs
 |[]=>.nil|d::r=>.cons (.cst d) (Xds r)
noncomputable def Xrf:Sts:=.cons (.asg (.var 1) (four 1 2 3 4)) (.cons (.asg (.var 1) (.bin .add (.var 1) (four 5 6 7 8))) (.cons (.asg (.var 1) (.bin .add (.var 1) (four 9 10 11 12))) (.cons (.asg (.var 1) (.bin .add (.var 1) (four 13 14 15 16)))
  (.cons (.ite (.or (.cmp .ne (.mth .count (.var 1) (.cons (.cst (.bl yx)) .nil)) (.cst (.int 1))) (.not (.isi (.var 0) [.valueError]))) (.cons (.ret (.cst (.str "other"))) .nil) .nil)
  (.cons (.asg (.var 2) (.lst (Xds words1))) (.cons (.ret (.idx (.bin .add (.var 2) (.lst (Xds words2))) (.mth .index (.var 1) (.cons (.cst (.bl yx)) .nil)))) .nil))))))
noncomputable def Xkz:Df:=⟨1,3,Xrf⟩
noncomputable def Xca(c:Nat):D:=(words1++words2).getD (c-1) .non
section
variable{F:Fn}{G:LD}{n c:Nat}{env:En}{S:Sto}
noncomputable def isK(c x:Nat):D:=.bl (x==0||x==c)
theorem Xps(B:env[0]?=yz (yz (.ref n)))(hn:S[n]?=yz (.exc c))(x1 x2 x3 x4:Nat):ev F G (four x1 x2 x3 x4) env S=.ok (.ref (lf S)) (S++[.lst [isK c x1,isK c x2,isK c x3,isK c x4]]):=by
 have q:∀x,ev F G (.isi (.var 0) [.cls x]) env S=.ok (isK c x) S:=λx=>by simp only[ev,B,Rk0,kdD,hn,Vq,Yb,isT,tyQ,isK];cases (x==0||x==c)<;>rfl
 unfold four;rw[ev];simp only[evs,q,Rk0];exact iP0 (show 4<=big by decide)
theorem Xg0{r:Nat}{xs:LD}(h0:env[0]?=yz (yz (.ref n)))(hn:S[n]?=yz (.exc c))(he:1<lf env)(hr:env[1]?=yz (yz (.ref r)))(U:Xc S r=yz xs)(hl:(lf xs)<=12)(x1 x2 x3 x4:Nat):
  ∃q Y,exe F G (.asg (.var 1) (.bin .add (.var 1) (four x1 x2 x3 x4))) env S=.ok (.nx (env.set 1 (yz (.ref q)))) (S++Y)/\Xc (S++Y) q=yz (xs++[isK c x1,isK c x2,isK c x3,isK c x4])/\(S++Y)[n]?=yz (.exc c):=by
 refine⟨(S++[O.lst [isK c x1,isK c x2,isK c x3,isK c x4]]).length,[.lst [isK c x1,isK c x2,isK c x3,isK c x4]]++[.lst (xs++[isK c x1,isK c x2,isK c x3,isK c x4])],?_,?_,?_⟩
 ·have aa:(16:Nat)<=big:=by decide
  have B:(lf xs)+4<=big:=by omega
  have L:lstM (S++[O.lst [isK c x1,isK c x2,isK c x3,isK c x4]]) r=yz xs:=Xl U;have J:lstM (S++[O.lst [isK c x1,isK c x2,isK c x3,isK c x4]]) (lf S)=yz [isK c x1,isK c x2,isK c x3,isK c x4]:=Xf;rw[exe,ev,ev,hr];simp only[Rk0,Xps h0 hn,X7,L,J,U1,Vc8,B,if_true,Xu,Vh]
 ·rw[<-Vh];exact Xf
 ·rw[V1 (Vi.mp hn).1];exact hn
theorem X1y(hn:S[n]?=yz (.exc c))(h1:1<=c)(h2:c<=16):∃X,den F G Xkz [.ref n] S=.ok (Xca c) (S++X):=by
 have s1:exe F G (.asg (.var 1) (four 1 2 3 4)) [yz (.ref n),yy,yy] S=.ok (.nx [yz (.ref n),yz (.ref (lf S)),yy]) (S++[.lst [isK c 1,isK c 2,isK c 3,isK c 4]]):=by rw[exe,Xps rfl hn];rfl
 obtain⟨q2,Y2,s2,l2,n2⟩:=Xg0 (F:=F) (G:=G) (env:=[yz (.ref n),yz (.ref (lf S)),yy]) (S:=S++[.lst [isK c 1,isK c 2,isK c 3,isK c 4]]) (c:=c) (n:=n) rfl (by rw[V1 (Vi.mp hn).1];exact hn) (by simp) rfl Xf (by simp) 5 6 7 8;generalize ah:S++[O.lst [isK c 1,isK c 2,isK c 3,isK c 4]]++Y2=S2 at s2 l2 n2;obtain⟨q3,Y3,s3,l3,n3⟩:=Xg0 (F:=F) (G:=G) (env:=[yz (.ref n),yz (.ref q2),yy]) rfl n2 (by simp) rfl l2 (by simp) 9 10 11 12;generalize ag:S2++Y3=S3 at s3 l3 n3;obtain⟨q4,Y4,s4,l4,n4⟩:=Xg0 (F:=F) (G:=G) (env:=[yz (.ref n),yz (.ref q3),yy]) rfl n3 (by simp) rfl l3 (by simp) 13 14 15 16;generalize ae:S3++Y4=J at s4 l4 n4;simp only[Vd9,Vbp]at l4;have ab:Yh [isK c 1,isK c 2,isK c 3,isK c 4,isK c 5,isK c 6,isK c 7,isK c 8,isK c 9,isK c 10,isK c 11,isK c 12,isK c 13,isK c 14,isK c 15,isK c 16]=yz ([1,2,3,4,5,6,7,8,9,10,11,12,13,14,15,16].map λx=>(x==0||x==c)):=rfl;have af:∀c:Fin 17,1<=c.val->([1,2,3,4,5,6,7,8,9,10,11,12,13,14,15,16].map λx=>(x==0||x==c.val)).countP (· == yx)=1/\([1,2,3,4,5,6,7,8,9,10,11,12,13,14,15,16].map λx=>(x==0||x==c.val)).findIdx? (· == yx)=yz (c.val-1):=by decide+kernel
 obtain⟨k1,k2⟩:=af ⟨c,by omega⟩ h1;generalize [isK c 1,isK c 2,isK c 3,isK c 4,isK c 5,isK c 6,isK c 7,isK c 8,isK c 9,isK c 10,isK c 11,isK c 12,isK c 13,isK c 14,isK c 15,isK c 16]=L at l4 ab;generalize ([1,2,3,4,5,6,7,8,9,10,11,12,13,14,15,16].map λx=>(x==0||x==c))=B at ab k1 k2;have c1:∀Y,Yk .count (.ref q4) [.bl yx] (J++Y)=.ok (.int 1) (J++Y):=λY=>by simp only[Yk,Xl l4,Vq,ab,k1];rfl
 have c2:∀Y,Yk .index (.ref q4) [.bl yx] (J++Y)=.ok (.int (c-1:Nat)) (J++Y):=λY=>by simp only[Yk,Xl l4,Vq,ab,k2]
 have rc:∀k Y,Y7 k (.ref q4) (J++Y)=true:=λk Y=>by simp only[Y7,Xl l4,Veg]
 have s5:exe F G (.ite (.or (.cmp .ne (.mth .count (.var 1) (.cons (.cst (.bl yx)) .nil)) (.cst (.int 1))) (.not (.isi (.var 0) [.valueError]))) (.cons (.ret (.cst (.str "other"))) .nil) .nil) [yz (.ref n),yz (.ref q4),yy] J=.ok (.nx [yz (.ref n),yz (.ref q4),yy]) J:=by have aa:=c1 [];have U:=rc .count [];rw[V3]at aa U;have e1:Xh .ne (.int 1) (.int 1) J=.ok (.bl yw) J:=rfl;refine Xq ?_;simp only[ev,evs,gZ0,gS0,Rk0,U,if_true,aa,e1,Xg,kdD,n4,Vq,Yb,isT,tyQ,Ut]
 have s6:exe F G (.asg (.var 2) (.lst (Xds words1))) [yz (.ref n),yz (.ref q4),yy] J=.ok (.nx [yz (.ref n),yz (.ref q4),yz (.ref J.length)]) (J++[.lst words1]):=by kernel_rfl
 have e7:∀env S,evs F G (Xds words2) env S=.ok words2 S:=λenv S=>by kernel_rfl
 have a5:words2.length<=big:=by decide
 have s7:exe F G (.ret (.idx (.bin .add (.var 2) (.lst (Xds words2))) (.mth .index (.var 1) (.cons (.cst (.bl yx)) .nil)))) [yz (.ref n),yz (.ref q4),yz (.ref J.length)] (J++[O.lst words1])=.ok (.rt (Xca c)) (J++([O.lst words1]++[O.lst words2]++[O.lst (words1++words2)])):=by
  have a1:lstM (J++[O.lst words1]++[O.lst words2]) J.length=yz words1:=Xl Xf;have a2:lstM (J++[O.lst words1]++[O.lst words2]) (J++[O.lst words1]).length=yz words2:=Xf;have a3:words1.length+words2.length<=big:=by decide
  have a4:=Xl (X:=[]) (Xf (S:=J++[O.lst words1]++[O.lst words2]) (xs:=words1++words2));have ac:=c2 ([O.lst words1]++[O.lst words2]++[O.lst (words1++words2)]);have U:=rc .index ([O.lst words1]++[O.lst words2]++[O.lst (words1++words2)]);simp only[<-Vh]at ac U ⊢;have ix:Xa8 (.ref (J++[O.lst words1]++[O.lst words2]).length) (.int (c-1:Nat)) (J++[O.lst words1]++[O.lst words2]++[O.lst (words1++words2)])=.ok (Xca c) (J++[O.lst words1]++[O.lst words2]++[O.lst (words1++words2)]):=by
   rw[V3]at a4;have hl:(words1++words2).length=16:=rfl;have hi:ixN 16 ((c-1:Nat):Int)=yz (c-1):=by unfold ixN;rw[iP0 (by omega),iP0 (by omega),Vbu]
   have hg:(words1++words2)[c-1]?=yz (Xca c):=by
    have:c-1<(words1++words2).length:=by rw[hl];omega
    unfold Xca;rw[Vk this,U4,Vk this];rfl
   simp only[Xa8,Xa1,Xw,a4,Vq,hl,hi,hg]
  rw[exe];simp only[ev,evs,gZ0,gS0,Rk0,e7,a5,X7,a1,a2,a3,if_true,U,ac,ix]
 refine⟨[O.lst [isK c 1,isK c 2,isK c 3,isK c 4]]++(Y2++(Y3++(Y4++([O.lst words1]++([O.lst words2]++[O.lst (words1++words2)]))))),?_⟩;have e:den F G Xkz [.ref n] S=match pc F G Xrf [yz (.ref n),yy,yy] S with
  |.ok (.rt v) S=>.ok v S|.ok (.nx _) S=>.ok .non S|.ok _ _=>.bad|.ex n S=>.ex n S|.bad=>.bad:=rfl
 rw[e];unfold Xrf;rw[Xd s1,Xd s2];dsimp only[Vfo];rw[Xd s3];dsimp only[Vfo];rw[Xd s4];dsimp only[Vfo];rw[Xd s5,Xd s6,Xi s7,<-ae,<-ag,<-ah];simp only[Vh]
theorem X1z{T:List Df}{k f:Nat}(B:T[f]?=yz Xkz)(h1:1<=c)(h2:c<=16)(P:Sto):∃X,FT T G (k+1) f [.ref P.length] (P++[.exc c])=.ok (Xca c) (P++X):=by obtain⟨X,h⟩:=X1y (F:=FT T G k) (G:=G) (n:=P.length) (S:=P++[.exc c]) (by simp) h1 h2;simp only[FT,B];exact⟨_,by rw[h,Vh]⟩
end
def Xal(F:Fn)(f:Nat):Prop:=∀(p:Nat) (v B:Int) (S:Sto),Xc S p=yz [.int v]->0<B->Xd4 B=yx->F f [.ref p,.int B] S=.ok (.int (v%B)) (S.set p (.lst [.int (v/B)]))
theorem Xxe(B:T[f]?=yz Xky)(k:Nat):Xal (FT T G (k+1)) f:=λp v L S h J hd=>by simp only[FT,B];exact Xxa h J hd
theorem turns{G:LD}{ns:LI}(c:Int)(h1:1<=c)(h2:c<1000000)(U:env[0]?=yz (yz (.fro (ns.map D.int)))):
  ∃m:Int,evs F G (.cons (.blt .max (.cons (.cst (.int 1)) (.cons (.blt .min (.cons (.blt .len (.cons (.var 0) .nil)) (.cons (.cst (.int c)) .nil))) .nil))) .nil) env S=.ok [.int m] S/\0<=m/\m<=c:=by
 have J:Xk .len [.fro (ns.map D.int)] S=.ok (.int (lf ns)) S:=by simp only[Xk,Xw,Ve]
 have L:∀i j:Int,Xk .min [.int i,.int j] S=.ok (.int (if j<i then j else i)) S:=λ_ _=>rfl;have B:∀i j:Int,Xk .max [.int i,.int j] S=.ok (.int (if j>i then j else i)) S:=λ_ _=>rfl;refine⟨if (if c<(lf ns:Int) then c else (lf ns:Int))>1 then (if c<(lf ns:Int) then c else (lf ns:Int)) else 1,by simp only[evs,ev,U,Rk0,J,L,B],?_,?_⟩
 ·split;·split<;>omega
  ·omega
 ·split;·split<;>omega
  ·omega
end Z
end
section
namespace Z
noncomputable def Xy9(s:Int)(f:LI):LI:=List.zipWith (λa b=>a+s*b) (f++[0]) (0::f)
noncomputable def stepT(s:Int)(f:LI)(n:Int):LI:=(Xy9 s f).set f.length ((Xy9 s f).getD f.length 0+n)
end Z
end
section
namespace Z
open PySem PySem.Spec PyProof.Rows L2
section
variable{F:Fn}{G:LD}
theorem Xkd{get:Sto->Nat->Option (Option D)}{body:En->LD->Sto->R (LD)}(xs:LD)(y:Nat->D)(P:Nat->En->Sto->Prop)(J:∀i e S,P i e S->get S i=yz xs[i]?)
  (step:∀i d e S,xs[i]?=yz d->P i e S->∃L S2,Xu t d e=yz L/\body L ((Vs i).map y) S=.ok ((Vs (i+1)).map y) S2/\P (i+1) L S2):
  ∀(B i:Nat) (e:En) (S:Sto),P i e S->i<=lf xs->lf xs<B+i->∃U S',Xp get t body B i e ((Vs i).map y) S=.ok ((Vs (lf xs)).map y) S'/\P (lf xs) U S'
 |0=>λi e S h h1 h2=>by omega|B+1=>λi e S h h1 h2=>by
  cases q:xs[i]? with
  |none=>
   have hi:i=lf xs:=by have:=Ui.mp q;omega
   refine⟨e,S,?_,hi▸h⟩;simp only[Xp,J i e S h,q];rw[hi]|some d=>obtain⟨L,S2,a1,Y,a3⟩:=step i d e S q h;have hi:i<lf xs:=(Vi.mp q).1;obtain⟨U,S',b1,b2⟩:=Xkd xs y P J step B (i+1) L S2 a3 (by omega) (by omega);refine⟨U,S',?_,b2⟩;simp only[Xp,J i e S h,q,a1,Y];exact b1
theorem X8(h:n<=1000):n<=big:=Uv h (by decide)
theorem Xe3{n:Nat}(xs:LD)(y:Nat->D)(P:Nat->En->Sto->Prop)(U:evit F G it env S=.ok src S1)(hm:src.most S1=lf xs)(hb:(lf xs)<=big)
  (h0:P 0 (env++Vu n yy) S1) (J:∀i e S,P i e S->src.get S i=yz xs[i]?)
  (step:∀i d e S,xs[i]?=yz d->P i e S->∃L S2,Xu t d e=yz L/\ev F G elt L S=.ok (y i) S2/\P (i+1) L S2):
  ∃Y S',ev F G (.cmr yw n (.cons t it .nil .nil) elt) env S=.ok (.ref (lf S')) (S'++[.lst ((Vs (lf xs)).map y)])/\P (lf xs) Y S':=by
 obtain⟨Y,S',a,b⟩:=Xkd (get:=src.get) (t:=t) (body:=Xr (λenv S=>evts F G .nil env S) (λenv B S=>(ev F G elt env S).bind λy S=>if (lf B)<big then .ok (B++[y]) S else .bad)) xs y P J
  (λi d e S hd hP=>by
   obtain⟨L,S2,a1,a2,a3⟩:=step i d e S hd hP;refine⟨L,S2,a1,?_,a3⟩;have hi:i<lf xs:=(Vi.mp hd).1;simp only[Xr,evts,Rk0,if_true,a2,Ve,Vap];rw[iP0 (by omega),List.range_succ,Vae]
   rfl) (lf xs+1) 0 _ S1 h0 (Ug _) (by omega)
 refine⟨Y,S',?_,b⟩;simp only[ev,U,Rk0,hm];have a':Xp src.get t (Xr (λenv S=>evts F G .nil env S) (λenv B S=>(ev F G elt env S).bind λy S=>if (lf B)<big then .ok (B++[y]) S else .bad)) (lf xs+1) 0 (env++Vu n yy) [] S1=.ok ((Vs (lf xs)).map y) S':=a;rw[a'];simp only[Rk0];rfl
theorem Xtr(h1:evs F G es env S=.ok ds S1)(h2:Yu ds=yz xs):evit F G (.rng es) env S=.ok (.con xs) S1:=by simp only[evit,h1,Rk0,h2]
theorem Yy(h1:ev F G e env S=.ok (.tup xs) S1):evit F G (.val e) env S=.ok (.con xs) S1:=by simp only[evit,h1,Rk0,Ys]
noncomputable def Ybo(B:LI)(p a:Nat):Int:=B.getD a 0*(C (lf B-1-a) (p-a):Int)
theorem Xpt(xs:LD)(S:Sto):Xk .len [.tup xs] S=.ok (.int (lf xs)) S:=rfl
theorem Xdf:∀l:LI,Xm (l.map D.int)=yz l
 |[]=>rfl|x::l=>by simp only[Uw,Xm,Xdf l,V2]
noncomputable def Xa(l:LI):D:=.tup (l.map D.int)
theorem Xg1(B:LI)(S:Sto):Xk .len [Xa B] S=.ok (.int B.length) S:=by unfold Xa;rw[Xpt,Ve]
def Xdt(F:Fn)(i:Nat):Prop:=∀(d:D) (S:Sto),good S d->F i [d] S=.ok (.bl (wh d)) S
theorem Xd9:∀l:List Bool,Yh (l.map D.bl)=yz l
 |[]=>rfl|x::l=>by simp only[Uw,Yh,Xd9 l,V2]
theorem Xbd{l:List Bool}:Xk .all [.ref (lf S)] (S++[.lst (l.map D.bl)])=.ok (.bl (l.all id)) (S++[.lst (l.map D.bl)]):=by simp only[Xk,Xf,Vq,Xd9]
theorem Xhq(h:∀c,k≠.exc c)(hn:k≠.tuple):Yb k [.tuple]=yz false:=by cases k<;>first|rfl|exact aB0 rfl (h _)|cases hn rfl
theorem Xke(B:T[i]?=yz Xe2)(k:Nat):Xdt (FT T G (k+1)) i:=λd S h=>by simp only[FT,B];exact Xtq h
theorem Xts(l:LI)(S:Sto):∀x∈l.map D.int,good S x:=λx B=>by obtain⟨i,_,rfl⟩:=V0.mp B;exact Xmy S i
theorem Xmz{α:Type}(xs:List α)(n:Nat):cut xs yy (yz (n:Int))=xs.take n:=by
 unfold cut Xdc;simp only[Vfr,Nat.sub_zero];rw[iP0 (by omega)];simp only[Vbu];by_cases h:n<=lf xs;·rw[Nat.min_eq_left h]
 ·rw[Nat.min_eq_right (by omega),Vct (by omega),Vct (by omega)]
end
noncomputable def ps(l:LI)(k:Nat):Int:=(l.take k).sum
noncomputable def pre(l:LI)(n:Nat):LI:=(Vs n).map λj=>ps l (j+1)
noncomputable def mir(w:Nat)(h:LI):LI:=h++(h.take (w+1-lf h)).reverse
section
variable{F:Fn}{G:LD}
theorem Xc4(h:ev F G c env S=.ok (.bl yx) S1):exe F G (.ite c (.cons (.rse k (.cst (.str s))) .nil) .nil) env S=.ex (lf S1) (S1++[.exc k]):=by rw[exe,h,Rk0];simp only[Xg,pc,exe,ev,Rk0]
variable{S:Sto}
theorem X6d(i j:Int)(S:Sto):Xh .ne (.int i) (.int j) S=.ok (.bl (!(i==j))) S:=by simp only[Xh,X5,eqD,Xbf,Yc,X0,Vci,Vat,Vaz];rfl
end
section
variable{F:Fn}{G:LD}
theorem Xxf(a:LI)(n:Nat)(S:Sto):Xa9 (Xa a) yy (yz (n:Int)) S=.ok (Xa (a.take n)) S:=by unfold Xa;simp only[Xa9,Xmz,Vgf]
theorem X10(h1:Xc S a=yz x)(h2:Xc S b=yz y)(L:(lf x)+lf y<=1000):X7 .add (.ref a) (.ref b) S=.ok (.ref (lf S)) (S++[.lst (x++y)]):=by have J:lstM S a=yz x:=h1;have B:lstM S b=yz y:=h2;simp only[X7,J,B];exact iP0 (X8 L)
noncomputable def Xg2(is:Nat):Ex:=.blt .all (.cons (.cmr yw 3 (.cons (.tup [3,4]) (.zpp (.cons (.var 0) (.cons (.var 1) .nil))) .nil .nil) (.call is (.cons (.var 3) (.cons (.var 4) .nil)))) .nil)
noncomputable def Xhr(is iw:Nat):Sts:=.cons (.ite (.isi (.var 1) [.list,.tuple]) (.cons (.ite (.or (.cmp .ne (.isi (.var 1) [.list]) (.isi (.var 0) [.list])) (.cmp .ne (.isi (.var 1) [.tuple]) (.isi (.var 0) [.tuple]))) (.cons (.ret (.cst (.bl yw))) .nil) .nil)
  (.cons (.ret (.and (.cmp .eq (.blt .len (.cons (.var 0) .nil)) (.blt .len (.cons (.var 1) .nil))) (Xg2 is))) .nil)) .nil)
  (.cons (.ite (.or (.cmp .is (.var 1) (.cst .non)) (.or (.isi (.var 1) [.bool]) (.isi (.var 1) [.str]))) (.cons (.ret (.and (.cmp .eq (.var 0) (.var 1)) (.cmp .eq (.isi (.var 0) [.bool]) (.isi (.var 1) [.bool])))) .nil) .nil)
  (.cons (.ret (.and (.call iw (.cons (.var 0) .nil)) (.cmp .eq (.var 0) (.var 1)))) .nil))
noncomputable def Xaq(is iw:Nat):Df:=⟨2,2,Xhr is iw⟩
theorem Xm0(i j:Int)(S:Sto):Xh .eq (.int i) (.int j) S=.ok (.bl (i==j)) S:=by simp only[Xh,X5,eqD,Xbf,Yc,X0,Vci,Vat,Vaz];rfl
theorem Xza(a b:Bool)(S:Sto):Xh .ne (.bl a) (.bl b) S=.ok (.bl (!(a==b))) S:=by cases a<;>cases b<;>rfl
theorem Xxg(hw:Xdt F iw)(i j:Int)(S:Sto):den F G (Xaq is iw) [.int i,.int j] S=.ok (.bl (i==j)) S:=by have h:=hw (.int i) S (Xmy S i);have B:kdD S (.int j)=yz .int:=rfl;simp only[den,Xaq,Xhr,Vah,if_true,Uw,Vu,Vbo,V3];rw[Xd (e:=[yz (.int i),yz (.int j)]) (S1:=S) (Xq (by simp only[ev,gZ0,gS0,Rk0,B,Vq,Yb,isT,tyQ]))];rw[Xd (e:=[yz (.int i),yz (.int j)]) (S1:=S) (Xq (by simp only[ev,gZ0,gS0,Rk0,B,Vq,Yb,isT,tyQ,Xh,X5,Xg]))];rw[Xi (d:=.bl (i==j)) (S1:=S) (by simp only[exe,ev,evs,gZ0,gS0,Rk0,h,wh,Xg,Xm0])]
noncomputable def Xi7(a b:D)(u v:Option D):En:=[yz a,yz b,yy,u,v]
theorem Xxh(hs:∀(i j:Int) (S:Sto),F is [.int i,.int j] S=.ok (.bl (i==j)) S)(l:LI)(S:Sto)(hl:(lf l)<=100):
  ∃X,ev F G (Xg2 is) [yz (Xa l),yz (Xa l)] S=.ok (.bl yx) (S++X):=by
 let xs:LD:=l.map λi=>.tup [.int i,.int i];have B:∀S i,(Src.zpp (.con (l.map D.int)) (.con (l.map D.int))).get S i=yz xs[i]?:=λS i=>by simp only[Src.get,Vx,xs];cases l[i]?<;>rfl
 obtain⟨e',S',h2,h3,h4⟩:=Xe3 (F:=F) (G:=G) (t:=.tup [3,4]) (n:=3) (elt:=.call is (.cons (.var 3) (.cons (.var 4) .nil))) (env:=[yz (Xa l),yz (Xa l)]) (S:=S) (S1:=S) (it:=.zpp (.cons (.var 0) (.cons (.var 1) .nil))) (src:=.zpp (.con (l.map D.int)) (.con (l.map D.int))) xs (λ_=>.bl yx)
  (λi e S'=>S'=S/\∃u v,e=Xi7 (Xa l) (Xa l) u v)
  (by simp only[evit,evs,ev,gZ0,gS0,Rk0,Xa,Ys]) (by simp[Src.most,xs]) (X8 (by simp[xs];omega)) ⟨rfl,yy,yy,rfl⟩ (λi e S' hP=>B S' i)
  (λi d e S' hd hP=>by
   obtain⟨rfl,u,v,rfl⟩:=hP;simp only[xs,Vx]at hd;cases U:l[i]? with
   |none=>rw[U]at hd;cases hd|some y=>
    rw[U]at hd;have J:d=.tup [.int y,.int y]:=by simpa using hd.symm
    subst J;refine⟨Xi7 (Xa l) (Xa l) (yz (.int y)) (yz (.int y)),S',rfl,?_,rfl,_,_,rfl⟩;have Y:=hs y y S';rw[beq_self_eq_true]at Y;simp only[ev,evs,Xi7,gZ0,gS0,Rk0,Y])
 have L:S'=S:=h3;subst L;have e1:(Vs (lf xs)).map (λ_=>D.bl yx)=(Vu l.length yx).map D.bl:=by rw[List.map_const',Vap,List.map_replicate];simp[xs]
 rw[e1]at h2;refine⟨[.lst ((Vu l.length yx).map D.bl)],?_⟩;simp only[Xg2,ev,evs]at h2 ⊢;rw[h2];simp only[Rk0];rw[Xbd];congr 2;simp
theorem Xxi(hs:∀(i j:Int) (S:Sto),F is [.int i,.int j] S=.ok (.bl (i==j)) S)(l:LI)(S:Sto)(Y:(lf l)<=100):∃X,den F G (Xaq is iw) [Xa l,Xa l] S=.ok (.bl yx) (S++X):=by
 obtain⟨X,L⟩:=Xxh (G:=G) hs l S Y;refine⟨X,?_⟩;have J:kdD S (Xa l)=yz .tuple:=rfl;have U:∀i,i<2->([yz (Xa l),yz (Xa l)]:En)[i]?=yz (yz (Xa l)):=λi hi=>by
  match i,hi with
  |0,_=>rfl|1,_=>rfl
 simp only[den,Xaq,Xhr,Vah,if_true,Uw,Vu,Vbo,V3];have B:pc F G (.cons (.ite (.or (.cmp .ne (.isi (.var 1) [.list]) (.isi (.var 0) [.list])) (.cmp .ne (.isi (.var 1) [.tuple]) (.isi (.var 0) [.tuple]))) (.cons (.ret (.cst (.bl yw))) .nil) .nil)
  (.cons (.ret (.and (.cmp .eq (.blt .len (.cons (.var 0) .nil)) (.blt .len (.cons (.var 1) .nil))) (Xg2 is))) .nil)) [yz (Xa l),yz (Xa l)] S=.ok (.rt (.bl yx)) (S++X):=by
  rw[Xd (e:=[yz (Xa l),yz (Xa l)]) (S1:=S) (Xq (by simp only[ev,gZ0,gS0,Rk0,J,Vq,Yb,isT,tyQ,Xza,Xg,beq_self_eq_true,Ut]))];rw[Xi (d:=.bl yx) (S1:=S++X) (by rw[exe,ev,ev];simp only[ev,evs,gZ0,gS0,Rk0,Xg1,Xm0,beq_self_eq_true,Xg];rw[L,Rk0])]
 rw[Xi (d:=.bl yx) (S1:=S++X) (by rw[exe];simp only[ev,gZ0,gS0,Rk0,J,Vq,Yb,isT,tyQ,Xg];exact B)]
end
mutual
theorem Xkf(h:∀n p,look n=yz p->look' n=yz p):∀(d:D) (p:Vby),X0 look d=yz p->X0 look' d=yz p
 |.non=>λp e=>by simpa only[X0] using e|.bl b=>λp e=>by simpa only[X0] using e|.int i=>λp e=>by simpa only[X0] using e|.str x=>λp e=>by simpa only[X0] using e|.tup xs=>λp e=>by simp only[X0,Vaa]at e ⊢;obtain⟨ps,J,B⟩:=e;exact⟨ps,datFs_mono h xs ps J,B⟩|.fro _=>λp e=>by simp[X0]at e|.fn _ _=>λp e=>by simp[X0]at e|.ref n=>λp e=>by simp only[X0]at e ⊢;exact h n p e
theorem datFs_mono(h:∀n p,look n=yz p->look' n=yz p):∀(ds:LD) (ps:List Vby),datFs look ds=yz ps->datFs look' ds=yz ps
 |[]=>λps e=>by simpa only[datFs] using e|d::ds=>λps e=>by
  simp only[datFs]at e ⊢;cases B:X0 look d with
  |none=>rw[B]at e;cases e|some q=>
   cases J:datFs look ds with
   |none=>rw[B,J]at e;cases e|some L=>rw[B,J]at e;rw[Xkf h d q B,datFs_mono h ds L J];exact e
end
theorem Xe4:∀(k n:Nat) (p:Vby),Ye S k n=yz p->Ye (S++X) k n=yz p
 |0=>λn p e=>by cases e|k+1=>λn p e=>by
  simp only[Ye]at e ⊢;cases q:S[n]? with
  |none=>rw[q]at e;cases e|some o=>
   rw[V1 (Vi.mp q).1,q];rw[q]at e;cases o with
   |lst xs=>simp only[Vaa]at e ⊢;obtain⟨ps,J,B⟩:=e;exact⟨ps,datFs_mono (Xe4 k) xs ps J,B⟩|dct kvs=>cases kvs<;>exact e|fdc _=>cases e|exc _=>cases e
structure Shw(S:Sto)(ds:LD)(ps:List Vby):Prop where
 dat:datFs (Ye S 3) ds=yz ps
 shw:Vb0 ps=yx
 nod:dctEs ps=yx
 dep:(Vb4 ps).depth<=60
 siz:szD (.list ps)<=big
theorem Shw.app{ds:LD}{ps:List Vby}(h:Shw S ds ps):Shw (S++X) ds ps:=⟨datFs_mono (Xe4 3) ds ps h.dat,h.shw,h.nod,h.dep,h.siz⟩
theorem Shw.rep{ds:LD}{ps:List Vby}(h:Shw S ds ps):Xlt (S++[.lst ds]) (.ref (lf S))=yz (Vb4 ps).shown:=by
 have e:Yc (S++[.lst ds]) (.ref (lf S))=yz (.list ps):=by
  have hd:=(h.app (X:=[.lst ds])).dat;have hg:(S++[O.lst ds])[lf S]?=yz (.lst ds):=by rw[Vaq (Vm _),Vbo];rfl
  show Ye (S++[.lst ds]) 4 (lf S)=_;rw[Ye,hg];dsimp only;rw[hd,V2]
 have h1:(Vb4 ps).showable=true:=by simpa only[Vbd] using h.shw
 have h2:Xai (Vb4 ps)=true:=by simpa only[Xai] using h.nod
 simp only[Xlt,e,h1,h2,decide_eq_true h.dep,decide_eq_true h.siz];rfl
section
theorem eq_str(t:Str)(S:Sto):Xh .eq (.str t) (.str t) S=.ok (.bl yx) S:=by simp only[Xh,X5,eqD,Xbf,beq_self_eq_true]
end
def Sm(S:Sto)(dep siz:Nat)(d:D):Prop:=∃p,X0 (Ye S 3) d=yz p/\p.showable=yx/\Xai p=yx/\p.depth<=dep/\szD p<=siz
theorem Sm.mono(h:Sm S a b d)(h1:a<=a')(h2:b<=b'):Sm S a' b' d:=by obtain⟨p,J,L,B,U,Y⟩:=h;exact⟨p,J,L,B,Uv U h1,Uv Y h2⟩
theorem Sm.app(h:Sm S a b d):Sm (S++X) a b d:=by obtain⟨p,B,q⟩:=h;exact⟨p,Xkf (Xe4 3) d p B,q⟩
theorem sms:∀ds:LD,(∀d∈ds,∃p,X0 look d=yz p/\p.showable=yx/\Xai p=yx/\p.depth<=a/\szD p<=b) ->
  ∃ps,datFs look ds=yz ps/\Vb0 ps=yx/\dctEs ps=yx/\Vbq ps<=a/\szDs ps<=lf ds*(b+2)
 |[]=>λ_=>⟨[],by simp only[datFs],by simp only[Vb0],by simp only[dctEs],by simp only[Vbq];exact Ug _,by simp only[szDs];exact Ug _⟩|d::ds=>λh=>by obtain⟨p,U,p2,L,p4,p5⟩:=h d (by simp);obtain⟨ps,J,Y,B,q4,q5⟩:=sms ds λx hx=>h x (by simp[hx]);refine⟨p::ps,by simp only[datFs,U,J],by simp only[Vb0,p2,Y,Vcd],by simp only[dctEs,L,B,Vcd],by simp only[Vbq];exact Nat.max_le.mpr ⟨p4,q4⟩,?_⟩;simp only[szDs,U1,Nat.succ_mul];omega
theorem X6e(h:∀d∈ds,Sm S a b d):Sm S (a+1) (lf ds*(b+2)+3) (.tup ds):=by obtain⟨ps,J,L,B,U,Y⟩:=sms ds h;refine⟨.tuple ps,by simp only[X0,J,V2],by simp only[Vbd,L],by simp only[Xai,B],by simp only[Vat];omega,by simp only[szD];omega⟩
theorem X6f(h:n<=900000):n<=big:=Uv h (by decide)
def Ext(p:Nat)(S S':Sto):Prop:=∀n o,n≠p->S[n]?=yz o->S'[n]?=yz o
section
variable{p:Nat}{S S' S1 S2 X:Sto}
theorem Ext.refl:Ext p S S:=λ_ _ _ h=>h
theorem Ext.trans(a:Ext p S S1)(b:Ext p S1 S2):Ext p S S2:=λn o h e=>b n o h (a n o h e)
theorem Ext.app:Ext p S (S++X):=λn o _ e=>by rw[V1 (Vi.mp e).1];exact e
theorem Ext.set:Ext p S (S.set p o):=λn o h e=>by rw[Vay (Ne.symm h)];exact e
theorem Xbq(h:Xc S q=yz xs):S[q]?=yz (.lst xs):=by
 unfold Xc at h;split at h;·rename_i ys B;cases h;exact B
 ·cases h
theorem Xtt(h:S[q]?=yz (.lst xs)):Xc S q=yz xs:=by unfold Xc;rw[h]
theorem Ext.lst(x:Ext p S S')(B:q≠p)(h:Xc S q=yz xs):Xc S' q=yz xs:=Xtt (x q _ B (Xbq h))
end
def FSm(dep siz:Nat)(d:D):Prop:=∃p,(∀B,X0 B d=yz p)/\p.showable=yx/\Xai p=yx/\p.depth<=dep/\szD p<=siz
theorem FSm.mono(h:FSm a b d)(h1:a<=a')(h2:b<=b'):FSm a' b' d:=by obtain⟨p,J,L,B,U,Y⟩:=h;exact⟨p,J,L,B,Uv U h1,Uv Y h2⟩
theorem FSm.sm(h:FSm a b d)(S:Sto):Sm S a b d:=by obtain⟨p,B,q⟩:=h;exact⟨p,B _,q⟩
theorem FSm.good(h:FSm a b d)(S:Sto):good S d:=by
 obtain⟨p,B,q⟩:=h;refine Xc3 S d (λn z=>?_) (λf m z=>?_);·subst z;have:=B (λ_=>yy);cases this
 ·subst z;have:=B (λ_=>yy);cases this
theorem Xae(h:i.natAbs.log2<1920):FSm 0 1921 (.int i):=⟨.int i,λ_=>by simp only[X0],by simp only[Vbd,decide_eq_true h],by simp only[Xai],by simp only[Vat];exact Vm _,by simp only[szD];exact Vm _⟩
theorem Xtu:FSm 0 1921 .non:=⟨.none,λ_=>by simp only[X0],by simp only[Vbd],by simp only[Xai],by simp only[Vat];exact Vm _,by simp only[szD];omega⟩
theorem Xhs:FSm 0 1921 (.bl b):=⟨.bool b,λ_=>by simp only[X0],by simp only[Vbd],by simp only[Xai],by simp only[Vat];exact Vm _,by simp only[szD];omega⟩
theorem Xm1(h:(reprText t).length<=1921):FSm 0 1921 (.str t):=⟨.str t,λ_=>by simp only[X0],by simp only[Vbd],by simp only[Xai],by simp only[Vat];exact Vm _,by simp only[szD];exact h⟩
theorem fss:∀ds:LD,(∀d∈ds,FSm a b d) ->
  ∃ps,(∀look,datFs look ds=yz ps)/\Vb0 ps=yx/\dctEs ps=yx/\Vbq ps<=a/\szDs ps<=lf ds*(b+2)
 |[]=>λ_=>⟨[],λ_=>by simp only[datFs],by simp only[Vb0],by simp only[dctEs],by simp only[Vbq];exact Ug _,by simp only[szDs];exact Ug _⟩|d::ds=>λh=>by obtain⟨p,U,p2,L,p4,p5⟩:=h d (by simp);obtain⟨ps,J,Y,B,q4,q5⟩:=fss ds λx hx=>h x (by simp[hx]);refine⟨p::ps,λlook=>by simp only[datFs,U look,J look],by simp only[Vb0,p2,Y,Vcd],by simp only[dctEs,L,B,Vcd],by simp only[Vbq];exact Nat.max_le.mpr ⟨p4,q4⟩,?_⟩;simp only[szDs,U1,Nat.succ_mul];omega
theorem Xtv(h:∀d∈ds,FSm a b d):FSm (a+1) (lf ds*(b+2)+3) (.tup ds):=by obtain⟨ps,L,U,J,Y,q5⟩:=fss ds h;refine⟨.tuple ps,λB=>by simp only[X0,L B,V2],by simp only[Vbd,U],by simp only[Xai,J],by simp only[Vat];omega,by simp only[szD];omega⟩
theorem X6g:FSm 1 3 (.tup []):=Xtv (a:=0) (b:=0) (λd hd=>by cases hd)
theorem X11(hn:Xc S n=yz xs)(h:∀x∈xs,FSm a b x):Sm S (a+1) (lf xs*(b+2)+2) (.ref n):=by obtain⟨ps,J,L,B,U,Y⟩:=fss xs h;refine⟨.list ps,?_,by simp only[Vbd,L],by simp only[Xai,B],by simp only[Vat];omega,by simp only[szD];omega⟩;show Ye S 3 n=_;rw[Ye,Xbq hn];dsimp only;rw[J,V2]
theorem X6h(hn:S[n]?=yz (.dct [])):Sm S 1 2 (.ref n):=by refine⟨.dict [],?_,by simp only[Vbd,PyData.showableKv],by simp only[Xai];rfl,by simp only[Vat,PyData.depthKv];exact Vm _,by simp only[szD];exact Vm _⟩;show Ye S 3 n=_;rw[Ye,hn]
theorem Xxj(hn:S[n]?=yz (.dct [])):good S (.ref n):=⟨.dict,by simp only[kdD];rw[hn],λ_ z=>nomatch z⟩
theorem Xtw(h:Xc S q=yz xs):good S (.ref q):=⟨.list,by simp only[kdD];rw[Xbq h],λ_ z=>nomatch z⟩
def Xb3(l:LI):Prop:=∀x∈l,x.natAbs.log2<1920
theorem X6i(h1:Sm S 20 400000 a)(h2:Sm S 20 400000 b):∃ps,Shw S [a,b] ps:=by
 obtain⟨ps,J,L,B,Y,U⟩:=sms (look:=Ye S 3) (a:=20) (b:=400000) [a,b] λd hd=>by
  simp only[Vn,U9,or_false]at hd;rcases hd with rfl|rfl;·exact h1
  ·exact h2
 exact⟨ps,J,L,B,by simp only[Vat];omega,X6f (by simp only[szD];simp only[Vah]at U;omega)⟩
theorem Xpu:∀ {xs:LD},xs.all wh=yx->∃l:LI,xs=l.map D.int
 |[],_=>⟨[],rfl⟩|x::xs,h=>by
  simp only[Vbe,bA0]at h;obtain⟨l,rfl⟩:=Xpu h.2;cases x with
  |int i=>exact⟨i::l,rfl⟩|_=>cases h.1
theorem X6j(l:LI):(l.map D.int).all wh=true:=by rw[Uk];intro d hd;obtain⟨i,_,rfl⟩:=V0.mp hd;rfl
section
variable{F:Fn}{G:LD}
theorem Xtx{a c:Ex}{n lo hi:Int}{d:D}{env:En}{S S':Sto}(B:env[0]?=yz (yz d))(hn:Xk .len [d] S=.ok (.int n) S)(h1:ev F G a env S=.ok (.int lo) S)(h2:ev F G c env S=.ok (.int hi) S):
  ev F G (.chn .le .le a (.blt .len (.cons (.var 0) .nil)) c) env S=.ok (.bl (decide (lo<=n)&&decide (n<=hi))) S:=by
 rw[ev,h1,Rk0];simp only[ev,evs,B,Rk0,hn,X5,h2,Xh];cases decide (lo<=n)<;>rfl
theorem Xkg:∀ {xs:LD} {ps:List Vby},datFs look xs=yz ps->lf ps=lf xs
 |[],ps,h=>by simp only[datFs,Vv]at h;subst h;rfl|x::xs,ps,h=>by
  simp only[datFs]at h;cases J:X0 look x with
  |none=>rw[J]at h;cases h|some p=>
   cases B:datFs look xs with
   |none=>rw[J,B]at h;cases h|some L=>rw[J,B]at h;cases h;simp[Xkg B]
theorem Xm2(U:Xc S a=yz xs)(Y:Xc S b=yz []):Xh .eq (.ref a) (.ref b) S=.ok (.bl xs.isEmpty) S:=by
 have db:Yc S (.ref b)=yz (.list []):=by show Ye S 4 b=_;rw[Ye,Xbq Y];simp only[datFs,V2]
 have J:eqD S (.ref a) (.ref b)=yz xs.isEmpty:=by
  have L:Xbf (.ref a) (.ref b)=none:=rfl;have B:Yc S (.ref a)=(datFs (Ye S 3) xs).map Vb4:=by show Ye S 4 a=_;rw[Ye,Xbq U]
  cases xs with
  |nil=>simp only[datFs,V2]at B;simp only[eqD,L,B,db];rfl|cons x xs=>
   have ls:Xel S (.ref a) (.ref b)=yz false:=by simp only[Xel,U,Y];rfl
   cases e:datFs (Ye S 3) (x::xs) with
   |none=>rw[e]at B;simp only[eqD,L,B,Vgp,ls,List.isEmpty_cons]|some ps=>
    rw[e]at B;have hp:=Xkg e;have hv:Vaz (.list ps) (.list [])=false:=by
     cases ps with
     |nil=>simp at hp|cons p ps=>simp only[Vaz,Vce]
    simp only[eqD,L,B,db,V2,ls,hv,List.isEmpty_cons];split<;>rfl
 simp only[Xh,X5,J]
theorem X12(h:ev F G c env S=.ok (.bl yx) S'):exe F G (.ite c (.cons (.ret (.cst d)) .nil) .nil) env S=.ok (.rt d) S':=by rw[exe,h,Rk0];simp only[Xg,pc,exe,ev,Rk0]
theorem Ya5(B:env[0]?=yz (yz a))(h1:env[1]?=yz (yz b)):ev F G (.lst (.cons (.var 0) (.cons (.var 1) .nil))) env S=.ok (.ref (lf S)) (S++[.lst [a,b]]):=by simp only[ev,evs,B,h1,Rk0];exact iP0 (X8 (by simp))
noncomputable def Xm3:Ex:=.blt .repr (.cons (.lst (.cons (.var 0) (.cons (.var 1) .nil))) .nil)
theorem Xpv{ps:List Vby}(J:env[0]?=yz (yz a))(h1:env[1]?=yz (yz b))(h:Shw S [a,b] ps):ev F G Xm3 env S=.ok (.str (Vb4 ps).shown) (S++[.lst [a,b]]):=by have L:=h.rep;have B:=Ya5 (F:=F) (G:=G) (S:=S) J h1;simp only[ev,evs]at B;simp only[Xm3,ev,evs]at *;rw[B];simp only[Rk0,Xk,L]
noncomputable def Xe5(ib:Nat):Df:=⟨2,4,.cons (.asg (.var 2) Xm3) (.cons (.asg (.var 3) (.call ib (.cons (.var 0) (.cons (.var 1) .nil)))) (.cons (.ret (.ite (.cmp .eq Xm3 (.var 2)) (.var 3) (.cst (.str "changed")))) .nil))⟩
theorem Xkh{ib:Nat}{ps:List Vby}(h:Shw S [a,b] ps)(J:F ib [a,b] (S++[.lst [a,b]])=.ok r (S++X)):∃Y,den F G (Xe5 ib) [a,b] S=.ok r (S++Y):=by have U:=Xpv (F:=F) (G:=G) (env:=[yz a,yz b,yy,yy]) rfl rfl h;have L:=Xpv (F:=F) (G:=G) (env:=[yz a,yz b,yz (.str (Vb4 ps).shown),yz r]) rfl rfl (h.app (X:=X));refine⟨X++[.lst [a,b]],?_⟩;simp only[den,Xe5,Vah,if_true,Uw,Vu];rw[Xd (e:=[yz a,yz b,yz (.str (Vb4 ps).shown),yy]) (S1:=S++[.lst [a,b]]) (by rw[exe];have B:ev F G Xm3 ([yz a,yz b]++[yy,yy]) S=_:=U;rw[B,Rk0];rfl)];rw[Xd (e:=[yz a,yz b,yz (.str (Vb4 ps).shown),yz r]) (S1:=S++X) (by simp only[exe,ev,evs,gZ0,gS0,Rk0,J,Xu,Vfo])];rw[Xi (d:=r) (S1:=S++(X++[.lst [a,b]])) (by rw[exe,ev,ev,L,Rk0];simp only[ev,gZ0,gS0,Rk0,eq_str,Xg,Vh])]
end
noncomputable def vsq(v m:Int):Nat->Int
 |0=>v|n+1=>vsq v m n/m
noncomputable def drawn(v far:Int)(n:Nat):LI:=(Vs n).map λi=>vsq v (2*far+1) i%(2*far+1)-far
section
variable{F:Fn}{G:LD}
theorem Xft(B:(lf env)=L)(x:Option D)(d:D):Xu (.var (L+1)) d (env++[yy,x])=yz (env++[yy,yz d]):=by simp only[Xu];rw[Vgm _ _ (by omega),B,Nat.add_sub_cancel_left];rfl
theorem Xfu{env X:En}{i:Nat}{d:D}(h:env[i]?=yz (yz d)):(env++X)[i]?=yz (yz d):=by rw[V1 (Vi.mp h).1];exact h
theorem Xi8{env:En}{L:Nat}(B:(lf env)=L)(d:D):(env++[yy,yz d])[L+1]?=yz (yz d):=by rw[Vaq (by omega),B,Nat.add_sub_cancel_left];rfl
theorem Xa0(h:ev F G e env S=.ok d S'):exe F G (.asg (.var i) e) env S=.ok (.nx (env.set i (yz d))) S':=by simp only[exe,h,Rk0,Xu]
theorem Xki(a:LI)(n:Nat)(S:Sto):Xa9 (Xa a) (yz (n:Int)) yy S=.ok (Xa (a.drop n)) S:=by
 have c:cut (a.map D.int) (yz (n:Int)) yy=(a.map D.int).drop n:=by
  unfold cut Xdc;simp only;rw[iP0 (by omega)];simp only[Vbu];by_cases h:n<=(a.map D.int).length;·rw[Nat.min_eq_left h,Vct (by rw[Vbf];omega)]
  ·rw[Nat.min_eq_right (by omega),List.drop_of_length_le (by omega),List.drop_of_length_le (by omega)];simp
 unfold Xa;simp only[Xa9,c,List.map_drop]
theorem Xb4(h:ev F G e env S=.ok d S):ev F G (.tup (.cons e .nil)) env S=.ok (.tup [d]) S:=by simp only[ev,evs,h,Rk0];exact iP0 (X8 (by simp))
theorem Xg3(x y:LD)(S:Sto)(h:(lf x)+lf y<=1000):X7 .add (.tup x) (.tup y) S=.ok (.tup (x++y)) S:=by simp only[X7];exact iP0 (X8 h)
theorem X6k{B U:Nat}{l:LI}{a b:Nat}(Y:env[B]?=yz (yz (Xa l)))(ha:env[U]?=yz (yz (.int a)))(he:ev F G e env S=.ok od S)(hb:ev F G eb env S=.ok (.int b) S)(hl:(lf l)<=100):
  ev F G (.bin .add (.bin .add (.sli (.var B) .none (.some (.var U))) (.tup (.cons e .nil))) (.sli (.var B) (.some eb) .none)) env S=.ok (.tup ((l.take a).map D.int++[od]++(l.drop b).map D.int)) S:=by
 have h1:ev F G (.sli (.var B) .none (.some (.var U))) env S=.ok (Xa (l.take a)) S:=by simp only[ev,evo,Y,ha,Rk0,Xbz,Xxf]
 have h2:=Xb4 he;have h3:ev F G (.sli (.var B) (.some eb) .none) env S=.ok (Xa (l.drop b)) S:=by simp only[ev,evo,Y,hb,Rk0,Xbz];exact Xki l b S
 have h4:=Xg3 ((l.take a).map D.int) [od] S (by simp;omega);have h5:=Xg3 ((l.take a).map D.int++[od]) ((l.drop b).map D.int) S (by simp;omega);have J:X7 .add (Xa (l.take a)) (.tup [od]) S=_:=h4;have L:X7 .add (.tup ((l.take a).map D.int++[od])) (Xa (l.drop b)) S=_:=h5;rw[ev,ev,h1,Rk0,h2,Rk0,J,Rk0,h3,Rk0,L]
noncomputable def tk(it:Nat)(e:Ex):Ex:=.call it (.cons (.var 0) (.cons e .nil))
end
noncomputable def e30:Int:=10^(30:Int).toNat
theorem Ya6(S:Sto):X7 .pow (.int 10) (.int 30) S=.ok (.int e30) S:=Xfr (by decide+kernel) S
noncomputable def Xk0:Exs:=.cons (.cst .non) (.cons (.cst (.bl yx)) (.cons (.cst (.bl yw)) (.cons (.neg (.cst (.int 1))) (.cons (.cst (.int 0)) (.cons (.cst (.int 16)) (.cons (.bin .pow (.cst (.int 10)) (.cst (.int 30))) (.cons (.cst (.str "")) (.cons (.cst (.str "0,1")) (.cons (.tup .nil) (.cons (.tup (.cons (.tup .nil) .nil)) (.cons (.lst (.cons (.tup .nil) .nil)) (.cons (.tup (.cons (.cst (.int 0)) .nil)) (.cons .dct0 (.cons (.tup (.cons (.tup (.cons (.cst (.int 0)) (.cons (.cst (.int 1)) .nil))) (.cons (.lst (.cons (.cst (.int 2)) .nil)) .nil))) (.cons (.tup (.cons (.cst (.bl yx)) .nil)) .nil)))))))))))))))
noncomputable def Xi9(q:Nat):LD:=[.non,.bl yx,.bl yw,.int (-1),.int 0,.int 16,.int e30,.str "",.str "0,1",.tup [],.tup [.tup []],.ref q,.tup [.int 0],.ref (q+1),.tup [.tup [.int 0,.int 1],.ref (q+2)],.tup [.bl yx]]
section
variable{F:Fn}{G:LD}
theorem Xxk(env:En)(S:Sto):evs F G Xk0 env S=.ok (Xi9 (lf S)) (S++[.lst [.tup []]]++[.dct []]++[.lst [.int 2]]):=by
 have h0:([]:LD).length<=big:=by decide
 have h1:([D.tup []]:LD).length<=big:=by decide
 have h2:([D.int 2]:LD).length<=big:=by decide
 have L:([D.int 0]:LD).length<=big:=by decide
 have B:([D.int 0,D.int 1]:LD).length<=big:=by decide
 have h5:([D.bl yx]:LD).length<=big:=by decide
 have J:∀n,([D.tup [.int 0,.int 1],D.ref n]:LD).length<=big:=λn=>(by decide:2<=big);have Y:(S++[O.lst [.tup []]]).length=lf S+1:=by simp
 have U:(S++[O.lst [.tup []]]++[O.dct []]).length=lf S+2:=by simp
 unfold Xk0 Xi9;simp only[evs,ev,Rk0,Ya6,h0,h1,h2,L,B,h5,J,if_true,Y,U]
theorem Xty{S X:Sto}{n:Nat}{o:O}(h:S[n]?=yz o):(S++X)[n]?=yz o:=by rw[V1 (Vi.mp h).1];exact h
theorem X13{S:Sto}{o:O}:(S++[o])[lf S]?=yz o:=by rw[Vaq (Vm _),Vbo];rfl
noncomputable def Xxl(it:Nat):Df:=⟨1,2,.cons (.asg (.var 1) (.lst Xk0)) (.cons (.ret (.idx (.var 1) (tk it (.cst (.int 16))))) .nil)⟩
theorem Xtz(B:kdD S d=yz k)(h1:Yb k [.list,.tuple]=yz yw)(h2:d=.non\/(d≠.non/\(Yb k [.bool]=yz yx\/(Yb k [.bool]=yz yw/\Yb k [.str]=yz yx))))(L:∃b,Yb k [.bool]=yz b)(Y:Xh .eq d d S=.ok (.bl yx) S):
  den F G (Xaq is iw) [d,d] S=.ok (.bl yx) S:=by
 obtain⟨b,L⟩:=L;have J:Xh .eq (.bl b) (.bl b) S=.ok (.bl yx) S:=by cases b<;>rfl
 simp only[den,Xaq,Xhr,Vah,if_true,Uw,Vu,Vbo,V3];rw[Xd (e:=[yz d,yz d]) (S1:=S) (Xq (by simp only[ev,gZ0,gS0,Rk0,B,Vq,h1]))];have hc:ev F G (.or (.cmp .is (.var 1) (.cst .non)) (.or (.isi (.var 1) [.bool]) (.isi (.var 1) [.str]))) [yz d,yz d] S=.ok (.bl yx) S:=by
  rcases h2 with rfl|⟨hn,h2⟩;·simp only[ev,gZ0,gS0,Rk0,Xh,X5,Xg]
  ·have hi:Xh .is d .non S=.ok (.bl yw) S:=by
    cases d with
    |non=>cases hn rfl|_=>rfl
   rcases h2 with h2|⟨h2,U⟩;·simp only[ev,gZ0,gS0,Rk0,hi,Xg,B,Vq,h2]
   ·simp only[ev,gZ0,gS0,Rk0,hi,Xg,B,Vq,h2,U]
 rw[Xi (d:=.bl yx) (S1:=S) (by rw[exe,hc,Rk0];simp only[Xg];rw[Xi (d:=.bl yx) (S1:=S) (by simp only[exe,ev,gZ0,gS0,Rk0,Y,Xg,B,Vq,L,J])])]
theorem Xxm(t:Str)(S:Sto):den F G (Xaq is iw) [.str t,.str t] S=.ok (.bl yx) S:=
 Xtz (k:=.str) rfl rfl (.inr ⟨(λz=>nomatch z),.inr ⟨rfl,rfl⟩⟩) ⟨_,rfl⟩ (eq_str t S)
end
end Z
end
section
namespace Z
end Z
end
section
namespace Z
open PySem PySem.Spec PyProof.Rows L2
theorem Xc5:∀l w:LI,Vce (l.map Vas) (w.map Vas)=decide (l=w)
 |[],[]=>by simp[Vce]|[],_::_=>by simp[Vce]|_::_,[]=>by simp[Vce]|x::l,y::w=>by
  have ih:=Xc5 l w;simp only[Uw,Vce,Vaz,ih];by_cases e:x=y;·subst e;simp
  ·simp[e]
theorem Xja(look:Nat->Option Vby):∀l:LI,datFs look (l.map D.int)=yz (l.map Vas)
 |[]=>by simp only[Uw,datFs]|x::l=>by simp only[Uw,datFs,X0,Xja look l]
theorem Xjb:∀l:LI,Vb8 (l.map Vas)=yx
 |[]=>by simp only[Uw,Vb8]|x::l=>by simp only[Uw,Vb8,Vci,Xjb l,Vcd]
theorem Xrg:∀l:LI,Vbq (l.map Vas)=0
 |[]=>by simp only[Uw,Vbq]|x::l=>by simp only[Uw,Vbq,Vat,Xrg l,Nat.max_self]
theorem X14(l w:LI)(S:Sto):Xh .eq (Xa l) (Xa w) S=.ok (.bl (decide (l=w))) S:=by
 have hd:∀l:LI,Yc S (Xa l)=yz (.tuple (l.map Vas)):=λl=>by simp only[Yc,Xa,X0,Xja,V2]
 have h1:∀l:LI,(PyData.tuple (l.map Vas)).canLay0=true:=λl=>by simp only[Vci,Xjb]
 have h2:(PyData.tuple (l.map Vas)).depth<=60:=by simp only[Vat,Xrg];omega
 have J:Vaz (.tuple (l.map Vas)) (.tuple (w.map Vas))=decide (l=w):=by simp only[Vaz,Xc5]
 have hs:Xbf (Xa l) (Xa w)=none:=rfl;have B:eqD S (Xa l) (Xa w)=yz (decide (l=w)):=by simp only[eqD,hs,hd,h1,J,decide_eq_true h2,Vcd,if_true]
 simp only[Xh,X5,B]
theorem Xpw(l w:LI)(S:Sto):Xh .ne (Xa l) (Xa w) S=.ok (.bl (!decide (l=w))) S:=by
 have h:=X14 l w S;simp only[Xh,X5]at h ⊢;cases e:eqD S (Xa l) (Xa w) with
 |none=>rw[e]at h;cases h|some b=>rw[e]at h;simp only[R.ok.injEq,D.bl.injEq,and_true]at h;subst h;rfl
section
variable{F:Fn}{G:LD}
theorem Xjc(h:Xc S q=yz xs):Xk .len [.ref q] S=.ok (.int (lf xs)) S:=by simp only[Xk,Xw,h]
theorem Yd(B:(lf ds)=d.np)(J:ds.map yz++Vu (d.nl-d.np) yy=env)(h:pc F G d.body env S=.ok (.rt r) S'):den F G d ds S=.ok r S':=by subst J;unfold den;rw[iP0 B,h]
theorem X6l{l:LI}{i:Nat}(h:i<lf l):(l.map D.int)[i]?=yz (.int (l.getD i 0)):=by rw[Vx,U4,Vk h];rfl
noncomputable def gpr(h:LI)(i:Nat):D:=.tup [.int (h.getD i 0),.int (h.getD (i+1) 0)]
theorem X6m(h:LI)(i:Nat)(S:Sto):(Src.zpp (.con (h.map D.int)) (.con ((h.drop 1).map D.int))).get S i=yz ((Vs (lf h-1)).map (gpr h))[i]?:=by
 by_cases hi:i<lf h-1
 ·have L:=X6l (l:=h) (i:=i) (by omega);have B:=X6l (l:=h.drop 1) (i:=i) (by simpa using hi);have J:(h.drop 1).getD i 0=h.getD (i+1) 0:=by simp[Vdq,Nat.add_comm]
  rw[J]at B;simp only[Src.get,L,B];simp[hi,gpr]
 have B:((h.drop 1).map D.int)[i]?=none:=Vad (by simpa using hi);rw[Vad (l:=(Vs (lf h-1)).map (gpr h)) (by simpa using hi)];simp only[Src.get,B];cases (h.map D.int)[i]?<;>rfl
end
end Z
end
section
namespace Z
end Z
end
section
namespace Z
open PySem PySem.Spec PyProof.Rows L2
section
variable{F:Fn}{G:LD}
variable{q:Nat}{S0 S:Sto}{l:LI}
variable{t:Tg}{it:It}{ifs:Exs}{elt:Ex}{env:En}{n:Nat}
theorem Xt0{w:D->LD}{xs:LD}{i:Nat}{d:D}(h:xs[i]?=yz d):((xs.take (i+1)).map w).flatten=((xs.take i).map w).flatten++w d:=by rw[Vev,h];simp
theorem Xfv{get:Sto->Nat->Option (Option D)}{body:En->LD->Sto->R (LD)}(xs:LD)(w:D->LD)(B:LD)(P:En->Prop)(L:∀i,get S i=yz xs[i]?)
  (step:∀i d e,xs[i]?=yz d->P e->∃U,Xu t d e=yz U/\P U/\body U (B++((xs.take i).map w).flatten) S=.ok (B++((xs.take i).map w).flatten++w d) S):
  ∀(J i:Nat) (e:En),P e->i<=lf xs->lf xs<J+i->∃Y,P Y/\Xp get t body J i e (B++((xs.take i).map w).flatten) S=.ok (B++(xs.map w).flatten) S
 |0=>λi e h h1 h2=>by omega|J+1=>λi e h h1 h2=>by
  cases q:xs[i]? with
  |none=>
   have hi:i=lf xs:=by have:=Ui.mp q;omega
   refine⟨e,h,?_⟩;simp only[Xp,L i,q];rw[hi,Vcx]|some d=>obtain⟨U,a1,a2,a3⟩:=step i d e q h;have hi:i<lf xs:=(Vi.mp q).1;obtain⟨Y,b1,b2⟩:=Xfv xs w B P L step J (i+1) U a2 (by omega) (by omega);refine⟨Y,b1,?_⟩;simp only[Xp,L i,q,a1,a3];rw[Xt0 q,<-Vh]at b2;exact b2
theorem Xk1{w:D->LD}(hw:∀d,(w d).length<=1):∀l:LD,((l.map w).flatten).length<=lf l
 |[]=>Vm _|d::l=>by have:=Xk1 hw l;have:=hw d;simp only[Ux,Vbw,Vy,U1];omega
theorem Xcw{src:Src}{S0:Sto}(xs:LD)(b:D->Bool)(y:D->D)(P:En->Prop)(U:evit F G it env S0=.ok src S)(Y:src.most S=lf xs)(J:∀i,src.get S i=yz xs[i]?)(hb:(lf xs)<=big)(h0:P (env++Vu n yy))
  (step:∀d∈xs,∀e,P e->∃L,Xu t d e=yz L/\P L/\evts F G ifs L S=.ok (b d) S/\(b d=yx->ev F G elt L S=.ok (y d) S)):
  ev F G (.cmr yw n (.cons t it ifs .nil) elt) env S0=.ok (.ref (lf S)) (S++[.lst ((xs.filter b).map y)]):=by
 have hw:∀d,(if b d then [y d] else []:LD).length<=1:=λd=>by split<;>simp
 obtain⟨e',_,a⟩:=Xfv (S:=S) (get:=src.get) (t:=t) (body:=Xr (λenv S=>evts F G ifs env S) (λenv B S=>(ev F G elt env S).bind λy S=>if (lf B)<big then .ok (B++[y]) S else .bad)) xs (λd=>if b d then [y d] else []) [] P J
  (λi d e hd hP=>by
   obtain⟨L,a1,a2,a3,a4⟩:=step d (V6 hd) e hP;refine⟨L,a1,a2,?_⟩;have hi:i<lf xs:=(Vi.mp hd).1;have hl:=Xk1 hw (xs.take i);rw[Um]at hl;simp only[Xr,a3,Rk0,Vbp];cases c:b d with
   |false=>simp
   |true=>simp only[if_true,a4 c,Rk0];rw[iP0 (by omega)]) (lf xs+1) 0 _ h0 (Ug _) (by omega)
 simp only[ev,U,Rk0,Y];have a':Xp src.get t (Xr (λenv S=>evts F G ifs env S) (λenv B S=>(ev F G elt env S).bind λy S=>if (lf B)<big then .ok (B++[y]) S else .bad)) (lf xs+1) 0 (env++Vu n yy) [] S=.ok (xs.map λd=>if b d then [y d] else []).flatten S:=a;have e:(xs.map λd=>if b d then [y d] else []).flatten=(xs.filter b).map y:=by
  clear a a' h0 step hb Y J U;induction xs with
  |nil=>rfl|cons d xs ih=>simp only[Ux,Vbw,ih,Vgl];split<;>simp
 rw[a',e];simp only[Rk0];rfl
theorem Xjd(i:Int):∀l:LI,((l.map Vas).any λq=>Vaz q (.int i))=decide (i∈l)
 |[]=>rfl|x::l=>by
  simp only[Ux,List.any_cons,Xjd i l,Vaz];by_cases h:x=i;·subst h;simp
  ·have:¬ i=x:=λz=>h z.symm;simp[h,this]
theorem Xje(i:Int)(l:LI)(S:Sto):inD S (.int i) (Xa l)=yz (decide (i∈l)):=by
 have h1:Yc S (Xa l)=yz (.tuple (l.map Vas)):=by simp only[Yc,Xa,X0,Xja,V2]
 have h2:Yc S (.int i)=yz (.int i):=by simp only[Yc,X0]
 have B:(Vas i).canLay0=true:=by simp only[Vci]
 have J:(Vas i).depth=0:=by simp only[Vat]
 unfold inD;rw[h1,h2];dsimp only;rw[B,J,Xjb,Xjd];rfl
theorem Xpx{n:Nat}(i:Int)(l:LI)(h:Xc S n=yz (l.map D.int)):inD S (.int i) (.ref n)=yz (decide (i∈l)):=by
 have L:S[n]?=yz (.lst (l.map D.int)):=by
  unfold Xc at h;split at h;·rename_i xs e;cases h;exact e
  ·cases h
 have h1:Yc S (.ref n)=yz (.list (l.map Vas)):=by simp only[Yc,X0,Ye,L,Xja,V2]
 have h2:Yc S (.int i)=yz (.int i):=by simp only[Yc,X0]
 have B:(Vas i).canLay0=true:=by simp only[Vci]
 have J:(Vas i).depth=0:=by simp only[Vat]
 unfold inD;rw[h1,h2];dsimp only;rw[B,J,Xjb,Xjd];rfl
noncomputable def lft(a b:LI):LI:=a.filter λx=>!decide (x∈b)
theorem X15{a b:LI}(L:(lf a)<=1000)(S:Sto):ev F G (.cmr yw 2 (.cons (.var 3) (.val (.var 0)) (.cons (.cmp .notin (.var 3) (.var 1)) .nil) .nil) (.var 3)) [yz (Xa a),yz (Xa b)] S=.ok (.ref (lf S)) (S++[.lst ((lft a b).map D.int)]):=by
 have B:=Xcw (F:=F) (G:=G) (n:=2) (t:=.var 3) (it:=.val (.var 0)) (ifs:=.cons (.cmp .notin (.var 3) (.var 1)) .nil) (elt:=.var 3) (env:=[yz (Xa a),yz (Xa b)]) (S0:=S) (S:=S) (src:=.con (a.map D.int)) (a.map D.int) (λd=>match d with|.int i=>!decide (i∈b)|_=>yw) id
  (λe=>∃x y,e=[yz (Xa a),yz (Xa b),x,y]) (Yy (by simp only[ev,gZ0];rfl)) rfl (λi=>rfl) (by rw[Ve];exact X8 L) ⟨yy,yy,rfl⟩
  (λd hd e J=>by
   obtain⟨x,y,rfl⟩:=J;obtain⟨i,hi,rfl⟩:=V0.mp hd;refine⟨[yz (Xa a),yz (Xa b),x,yz (.int i)],rfl,⟨_,_,rfl⟩,?_,λ_=>by simp only[ev,gZ0,gS0,id]⟩
   simp only[evts,ev,gZ0,gS0,Rk0,Xh,X5,Xje,V2,Xg];cases decide (i∈b)<;>rfl)
 rw[B];have e:((a.map D.int).filter λd=>match d with|.int i=>!decide (i∈b)|_=>yw).map id=(lft a b).map D.int:=by unfold lft;rw[List.map_id,Vfd];rfl
 rw[e]
noncomputable def lie(a b:LI):Bool:=a.all λx=>decide (x∈b)
noncomputable def Xbr:Sts:=.cons (.ite (.cmp .notin (.var 2) (.var 1)) (.cons (.ret (.cst (.bl yw))) .nil) .nil) .nil
noncomputable def Xfw:Sts:=.cons (.for (.var 2) (.val (.var 0)) Xbr) (.cons (.ret (.cst (.bl yx))) .nil)
theorem Xkj(A:Option D)(b:LI)(i:Int)(S:Sto):pc F G Xbr [A,yz (Xa b),yz (.int i)] S=if i∈b then .ok (.nx [A,yz (Xa b),yz (.int i)]) S else .ok (.rt (.bl yw)) S:=by
 unfold Xbr;simp only[pc,exe,ev,gZ0,gS0,Rk0,Xh,X5,Xje,V2,Xg];by_cases h:i∈b;·simp only[h,decide_true,Ut,if_true]<;>rfl
 ·simp only[h,decide_false,Va1,if_false]<;>rfl
theorem Xkk(A:Option D)(a b:LI)(S:Sto):∀(B i:Nat) (x:Option D),i<=lf a->lf a<B+i ->
  if lie (a.drop i) b=yx then ∃J,X9 (Src.con (a.map D.int)).get (.var 2) (pc F G Xbr) B i [A,yz (Xa b),x] S=.ok (.nx [A,yz (Xa b),J]) S
  else X9 (Src.con (a.map D.int)).get (.var 2) (pc F G Xbr) B i [A,yz (Xa b),x] S=.ok (.rt (.bl yw)) S
 |0=>λi x h1 h2=>by omega|B+1=>λi x h1 h2=>by
  by_cases c:i<lf a
  ·have hg:(Src.con (a.map D.int)).get S i=yz (yz (.int a[i])):=by simp only[Src.get,Vx,Vk c,V2]
   have hd:a.drop i=a[i]::a.drop (i+1):=Vfe c;have ih:=Xkk A a b S B (i+1) (yz (.int a[i])) (by omega) (by omega);have hs:Xu (.var 2) (.int a[i]) [A,yz (Xa b),x]=yz [A,yz (Xa b),yz (.int a[i])]:=rfl;rw[hd];have el:lie (a[i]::a.drop (i+1)) b=(decide (a[i]∈b)&&lie (a.drop (i+1)) b):=rfl;rw[el];by_cases m:a[i]∈b
   ·simp only[m,decide_true,Vbc];have e:X9 (Src.con (a.map D.int)).get (.var 2) (pc F G Xbr) (B+1) i [A,yz (Xa b),x] S=X9 (Src.con (a.map D.int)).get (.var 2) (pc F G Xbr) B (i+1) [A,yz (Xa b),yz (.int a[i])] S:=by
     conv=>lhs;unfold X9
     simp only[hg,hs,Xkj,m,if_true]
    rw[e];exact ih
   simp only[m,decide_false,Vbl,Vp,if_false]
   conv=>lhs;unfold X9
   simp only[hg,hs,Xkj,m,if_false]
  have hi:i=lf a:=by omega
  have hg:(Src.con (a.map D.int)).get S i=yz none:=by simp only[Src.get,Vx,Vad (Nat.not_lt.mp c),Vgp]
  have hd:a.drop i=[]:=Vgb (by omega);rw[hd,iP0 (show lie [] b=yx from rfl)];exact⟨x,by unfold X9;simp only[hg]⟩
theorem Xxn{a b:LI}(S:Sto):den F G ⟨2,3,Xfw⟩ [Xa a,Xa b] S=.ok (.bl (lie a b)) S:=by
 have lp:=Xkk (F:=F) (G:=G) (yz (Xa a)) a b S (lf a+1) 0 yy (Ug _) (by omega);have ex:exe F G (.for (.var 2) (.val (.var 0)) Xbr) [yz (Xa a),yz (Xa b),yy] S=X9 (Src.con (a.map D.int)).get (.var 2) (pc F G Xbr) (lf a+1) 0 [yz (Xa a),yz (Xa b),yy] S:=by rw[exe,Yy (xs:=a.map D.int) (S1:=S) (by simp only[ev,gZ0];rfl)];simp only[Rk0,Src.most,Ve]<;>rfl
 rw[Vfr]at lp;have run:pc F G Xfw [yz (Xa a),yz (Xa b),yy] S=.ok (.rt (.bl (lie a b))) S:=by
  unfold Xfw;cases h:lie a b with
  |true=>rw[h,iP0 rfl]at lp;obtain⟨B,e⟩:=lp;rw[Xd (ex.trans e)];exact Xi (by simp only[exe,ev,Rk0])|false=>rw[h,iN0 Us]at lp;exact Xi (ex.trans lp)
 simp only[den,Vah,if_true,Uw];show(match pc F G Xfw [yz (Xa a),yz (Xa b),yy] S with|.ok (.rt v) S=>R.ok v S|.ok (.nx _) S=>.ok .non S|.ok _ _=>.bad|.ex n S=>.ex n S|.bad=>.bad)=_;rw[run]
theorem X16(a b:LI):lie a b=(lft a b).isEmpty:=by
 unfold lie lft;induction a with
 |nil=>rfl|cons x a ih=>
  simp only[Vbe,Vgl,ih];by_cases h:x∈b;·simp[h]
  ·simp[h]
noncomputable def bLL:Sts:=.cons (.ret (.cmp .eq (.cmr yw 2 (.cons (.var 3) (.val (.var 0)) (.cons (.cmp .notin (.var 3) (.var 1)) .nil) .nil) (.var 3)) (.lst .nil))) .nil
theorem Xt1{a b:LI}(B:(lf a)<=1000)(S:Sto):den F G ⟨2,2,bLL⟩ [Xa a,Xa b] S=.ok (.bl (lie a b)) (S++[.lst ((lft a b).map D.int)]++[.lst []]):=by
 have h:pc F G bLL [yz (Xa a),yz (Xa b)] S=.ok (.rt (.bl (lie a b))) (S++[.lst ((lft a b).map D.int)]++[.lst []]):=by
  unfold bLL;refine Xi ?_;have e:=Xm2 (S:=S++[.lst ((lft a b).map D.int)]++[.lst []]) (a:=lf S) (b:=(S++[O.lst ((lft a b).map D.int)]).length) (xs:=(lft a b).map D.int) (Xl Xf) Xf;have n0:ev F G (.lst .nil) [yz (Xa a),yz (Xa b)] (S++[O.lst ((lft a b).map D.int)])=.ok (.ref (S++[O.lst ((lft a b).map D.int)]).length) (S++[.lst ((lft a b).map D.int)]++[.lst []]):=by simp only[ev,evs,Rk0];exact iP0 (show 0<=big by decide)
  rw[exe,ev,X15 B S,Rk0,n0,Rk0,e,Rk0,X16,List.isEmpty_map]
 simp only[den,Vah,if_true,Uw,Vbo,Vu,V3];rw[h]
noncomputable def Xb(n:LL):D:=.tup (n.map Xa)
noncomputable def Xa5:D->LD
 |.tup xs=>xs|_=>[]
noncomputable def pts(n:LL):LI:=Yl (ddI n.flatten)
theorem Xaa(l:LI):Xm (l.map D.int)=yz l:=Xdf l
theorem Xt2(l m:LI):(ddI l).length<=(ddI (l++m)).length:=by unfold ddI;rw[Vdc];exact Xl4 m _
theorem X6n{l:LI}{i:Int}(h:(ddI l).length<60):Xdb (l.map D.int) (.int i) S=.ok (l.map D.int++[.int i]) S:=by simp only[Xdb,Xaa,h,if_true]
theorem Xzb(l:LD):(l.map λd=>[d]).flatten=l:=by
 induction l with
 |nil=>rfl|cons x l ih=>simp[ih]
theorem X6o{A:Option D}{l B:LI}(h:(ddI (l++B)).length<60):
  Xp (Src.con (B.map D.int)).get (.var 3) (Xr (λenv S=>evts F G .nil env S) (λenv acc S=>(ev F G (.var 3) env S).bind λy S=>Xdb acc y S)) (lf B+1) 0 [A,yy,yz (Xa B),yy] (l.map D.int) S=.ok ((l++B).map D.int) S:=by
 obtain⟨Y,_,a⟩:=Xfv (S:=S) (get:=(Src.con (B.map D.int)).get) (t:=.var 3) (body:=Xr (λenv S=>evts F G .nil env S) (λenv acc S=>(ev F G (.var 3) env S).bind λy S=>Xdb acc y S)) (B.map D.int) (λd=>[d]) (l.map D.int)
  (λe=>∃x,e=[A,yy,yz (Xa B),x]) (λi=>rfl) (λi d e hd L=>by
   obtain⟨x,rfl⟩:=L;obtain⟨k,U,rfl⟩:=V0.mp (V6 hd);refine⟨[A,yy,yz (Xa B),yz (.int k)],rfl,⟨_,rfl⟩,?_⟩;have J:(ddI (l++B.take i)).length<60:=by have:=Xt2 (l++B.take i) (B.drop i);rw[Vh,Vbx]at this;omega
   have e:l.map D.int++(((B.map D.int).take i).map λd=>[d]).flatten=(l++B.take i).map D.int:=by rw[Xzb,<-Vgf,Vae]
   rw[e];simp only[Xr,evts,Rk0,if_true,ev,gZ0,gS0,X6n J])
  (lf B+1) 0 [A,yy,yz (Xa B),yy] ⟨yy,rfl⟩ (Ug _) (by rw[Ve];omega)
 rw[List.take_zero,Vd8,Ve1,V3,Xzb (B.map D.int),<-Vae]at a;exact a
theorem Xt3{n:LL}(h:(ddI n.flatten).length<60)(S:Sto):
  ev F G (.cms 3 (.cons (.var 2) (.val (.var 0)) .nil (.cons (.var 3) (.val (.var 2)) .nil .nil)) (.var 3)) [yz (Xb n)] S=.ok (.ref (lf S)) (S++[.lst ((pts n).map D.int)]):=by
 have fl:∀m:LL,((m.map Xa).map Xa5).flatten=m.flatten.map D.int:=λm=>by
  induction m with
  |nil=>rfl|cons r m ih=>simp only[Ux,Vbw,ih,Vae];rfl
 obtain⟨e',_,a⟩:=Xfv (S:=S) (get:=(Src.con (n.map Xa)).get) (t:=.var 2) (body:=Xr (λenv S=>evts F G .nil env S) (λenv J S=>if Xbh (.var 3) env then (evit F G (.val (.var 2)) env S).bind λB S=>
   Xp (B.get) (.var 3) (Xr (λenv S=>evts F G .nil env S) (λenv J S=>(ev F G (.var 3) env S).bind λy S=>Xdb J y S)) (B.most S+1) 0 env J S else .bad)) (n.map Xa) Xa5 []
  (λe=>∃x,e=[yz (Xb n),yy,x,yy]) (λi=>rfl) (λi d e hd he=>by
   obtain⟨x,rfl⟩:=he;have hi:i<lf n:=by have:=(Vi.mp hd).1;rwa [Ve]at this
   have aa:d=Xa n[i]:=by rw[Vx,Vk hi]at hd;exact(Ud hd).symm
   subst aa;refine⟨[yz (Xb n),yy,yz (Xa n[i]),yy],rfl,⟨_,rfl⟩,?_⟩;have et:((n.map Xa).take i).map Xa5=((n.take i).map Xa).map Xa5:=by rw[Vgf (f:=Xa)]
   have U:(ddI ((n.take i).flatten++n[i])).length<60:=by
    have:=Xt2 ((n.take i).flatten++n[i]) (n.drop (i+1)).flatten;have e2:(n.take i).flatten++n[i]++(n.drop (i+1)).flatten=n.flatten:=by
     conv=>rhs;rw[<-Vbx i n,Vfe hi]
     rw[Ve9,Vbw,Vh]
    rw[e2]at this;omega
   rw[Vbp,et,fl];have L:evit F G (.val (.var 2)) [yz (Xb n),yy,yz (Xa n[i]),yy] S=.ok (.con (n[i].map D.int)) S:=Yy (by simp only[ev,gZ0,gS0];rfl)
   have Y:Xbh (.var 3) [yz (Xb n),yy,yz (Xa n[i]),yy]=true:=rfl;simp only[Xr,evts,Rk0,if_true,Y,L,Src.most,Ve];have:=X6o (F:=F) (G:=G) (S:=S) (A:=yz (Xb n)) U;rw[Vae]at this;exact this) (lf n+1) 0 [yz (Xb n),yy,yy,yy] ⟨yy,rfl⟩ (Ug _) (by rw[Ve];omega)
 rw[Vbp,fl]at a;have L:evit F G (.val (.var 0)) [yz (Xb n)] S=.ok (.con (n.map Xa)) S:=Yy (by simp only[ev,gZ0];rfl);have a':Xp (Src.con (n.map Xa)).get (.var 2) (Xr (λenv S=>evts F G .nil env S) (λenv J S=>if Xbh (.var 3) env then (evit F G (.val (.var 2)) env S).bind λB S=>Xp (B.get) (.var 3) (Xr (λenv S=>evts F G .nil env S) (λenv J S=>(ev F G (.var 3) env S).bind λy S=>Xdb J y S)) (B.most S+1) 0 env J S else .bad)) (lf n+1) 0 ([yz (Xb n)]++Vu 3 yy) [] S=.ok (n.flatten.map D.int) S:=a;rw[ev,L];simp only[Rk0,Src.most,Ve];rw[a',Rk0];simp only[Xac,Xaa,h,if_true];rfl
noncomputable def dPts:Df:=⟨1,1,.cons (.ret (.cms 3 (.cons (.var 2) (.val (.var 0)) .nil (.cons (.var 3) (.val (.var 2)) .nil .nil)) (.var 3))) .nil⟩
theorem X17{n:LL}(h:(ddI n.flatten).length<60)(S:Sto):den F G dPts [Xb n] S=.ok (.ref (lf S)) (S++[.lst ((pts n).map D.int)]):=by
 have r:pc F G dPts.body [yz (Xb n)] S=.ok (.rt (.ref (lf S))) (S++[.lst ((pts n).map D.int)]):=Xi (by rw[exe,Xt3 h S];rfl);have e:den F G dPts [Xb n] S=match pc F G dPts.body [yz (Xb n)] S with
  |.ok (.rt v) S=>.ok v S|.ok (.nx _) S=>.ok .non S|.ok _ _=>.bad|.ex n S=>.ex n S|.bad=>.bad:=rfl
 rw[e,r]
noncomputable def Xfx:Sts:=.cons (.expr (.mth .xtd (.var 1) (.cons (.var 2) .nil))) .nil
noncomputable def dLPts:Df:=⟨1,3,.cons (.asg (.var 1) (.lst .nil)) (.cons (.for (.var 2) (.val (.var 0)) Xfx) (.cons (.ret (.sst (.var 1))) .nil))⟩
theorem Xt4(S:Sto)(o o':O):(S++[o]).set (lf S) o'=S++[o']:=by rw[Vgm _ _ (Vm _),Vbo];rfl
theorem Xxo{A:Option D}{S:Sto}{l B:LI}(h:(lf l)+lf B<=big):pc F G Xfx [A,yz (.ref (lf S)),yz (Xa B)] (S++[.lst (l.map D.int)])=.ok (.nx [A,yz (.ref (lf S)),yz (Xa B)]) (S++[.lst ((l++B).map D.int)]):=by
 have J:lstM (S++[O.lst (l.map D.int)]) (lf S)=yz (l.map D.int):=Xf;have L:Y7 .xtd (.ref (lf S)) (S++[O.lst (l.map D.int)])=true:=by simp only[Y7,Xf,Veg]
 have m:Yk .xtd (.ref (lf S)) [Xa B] (S++[O.lst (l.map D.int)])=.ok .non (S++[.lst ((l++B).map D.int)]):=by simp only[Yk,Xa,J,Ve,h,if_true];rw[Xt4,Vae]
 unfold Xfx;refine Xd (e:=[A,yz (.ref (lf S)),yz (Xa B)]) (S1:=S++[.lst ((l++B).map D.int)]) ?_;simp only[exe,ev,evs,gZ0,gS0,Rk0,L,if_true,m]
theorem Xxp{n:LL}(h:(ddI n.flatten).length<60)(hl:(lf n.flatten)<=big)(S:Sto):den F G dLPts [Xb n] S=.ok (.ref (lf S+1)) (S++[.lst (n.flatten.map D.int)]++[.lst ((pts n).map D.int)]):=by
 have Y:exe F G (.asg (.var 1) (.lst .nil)) [yz (Xb n),yy,yy] S=.ok (.nx [yz (Xb n),yz (.ref (lf S)),yy]) (S++[.lst []]):=by rw[exe,ev];simp only[evs,Rk0];rw[iP0 (show([]:LD).length<=big by decide)];rfl
 obtain⟨e',S',a,rfl,x,rfl⟩:=Xbc (t:=.var 2) (get:=(Src.con (n.map Xa)).get) (body:=λenv S=>pc F G Xfx env S) (n.map Xa) (λi e S'=>S'=S++[.lst ((n.take i).flatten.map D.int)]/\∃x,e=[yz (Xb n),yz (.ref (lf S)),x]) (λi e S _=>rfl)
  (λi d e S' hd he=>by
   obtain⟨rfl,x,rfl⟩:=he;have hi:i<lf n:=by have:=(Vi.mp hd).1;rwa [Ve]at this
   have B:d=Xa n[i]:=by rw[Vx,Vk hi]at hd;exact(Ud hd).symm
   subst B;have J:(n.take (i+1)).flatten=(n.take i).flatten++n[i]:=by rw[Vev,Vk hi,Ve9];simp only[Option.toList,Vbw,Ve1,V3]
   have L:(n.take (i+1)).flatten++(n.drop (i+1)).flatten=n.flatten:=by rw[<-Ve9,Vbx]
   have hb:(n.take i).flatten.length+n[i].length<=big:=by have:=congrArg Vah L;rw[J]at this;simp only[Vy]at this;omega
   refine⟨[yz (Xb n),yz (.ref (lf S)),yz (Xa n[i])],_,_,rfl,Xxo hb,?_,_,rfl⟩;rw[J])
  (lf n+1) 0 [yz (Xb n),yz (.ref (lf S)),yy] (S++[.lst []]) ⟨rfl,yy,rfl⟩ (Ug _) (by rw[Ve];omega)
 rw[Ve,Vcx]at a;have s2:exe F G (.for (.var 2) (.val (.var 0)) Xfx) [yz (Xb n),yz (.ref (lf S)),yy] (S++[.lst []])=.ok (.nx [yz (Xb n),yz (.ref (lf S)),x]) (S++[.lst (n.flatten.map D.int)]):=by rw[exe,Yy (xs:=n.map Xa) (S1:=S++[.lst []]) (by simp only[ev,gZ0];rfl)];simp only[Rk0,Src.most,Ve];exact a
 have U:exe F G (.ret (.sst (.var 1))) [yz (Xb n),yz (.ref (lf S)),x] (S++[.lst (n.flatten.map D.int)])=.ok (.rt (.ref (lf S+1))) (S++[.lst (n.flatten.map D.int)]++[.lst ((pts n).map D.int)]):=by rw[exe,ev];simp only[ev,gZ0,gS0,Rk0,Xf,Xac,Xaa,h,if_true,Vy,U2];rfl
 have e:den F G dLPts [Xb n] S=match pc F G dLPts.body [yz (Xb n),yy,yy] S with
  |.ok (.rt v) S=>.ok v S|.ok (.nx _) S=>.ok .non S|.ok _ _=>.bad|.ex n S=>.ex n S|.bad=>.bad:=rfl
 rw[e];show(match pc F G (.cons (.asg (.var 1) (.lst .nil)) (.cons (.for (.var 2) (.val (.var 0)) Xfx) (.cons (.ret (.sst (.var 1))) .nil))) [yz (Xb n),yy,yy] S with|.ok (.rt v) S=>R.ok v S|.ok (.nx _) S=>.ok .non S|.ok _ _=>.bad|.ex n S=>.ex n S|.bad=>.bad)=_;rw[Xd Y,Xd s2,Xi U]
end
theorem Xg4:∀(l m:LI),l.Nodup->(∀x∈l,x∈m)->lf l<=lf m
 |[]=>λm _ _=>Ug _|x::l=>λm hn hs=>by obtain⟨h1,h2⟩:=Vcm.mp hn;have J:=hs x Vz;have ih:=Xg4 l (m.erase x) h2 λy B=>(List.mem_erase_of_ne (λ(z:y=x)=>h1 (by rw[<-z];exact B))).mpr (hs y (V5 _ B));rw[List.length_erase_of_mem J]at ih;have:0<lf m:=List.length_pos_of_mem J;rw[U1];omega
noncomputable def X6p:LI:=[0,1,2,3,4,5,6,7,8,9,10,11,12,13,14,15]
section
variable{F:Fn}{G:LD}{S:Sto}
noncomputable def riz(h:LI):Bool:=(Vs (lf h-1)).all λi=>decide (h.getD i 0<h.getD (i+1) 0)
theorem X6q{h:LI}(p:h.Pairwise (· < ·)):riz h=true:=by
 unfold riz;rw[Uk];intro i hi;have hi:=U6.mp hi;have q:=Vfb.mp p i (i+1) (by omega) (by omega) (by omega);have J:h.getD i 0=h[i]:=by simp[Vdq,Vk (show i<lf h by omega)]
 have B:h.getD (i+1) 0=h[i+1]:=by simp[Vdq,Vk (show i+1<lf h by omega)]
 rw[J,B];exact decide_eq_true q
noncomputable def Xht:Ex:=.cmr yw 3 (.cons (.tup [2,3]) (.zpp (.cons (.var 0) (.cons (.sli (.var 0) (.some (.cst (.int 1))) .none) .nil))) .nil .nil) (.cmp .lt (.var 2) (.var 3))
noncomputable def Xm4(h:LI):List Bool:=(Vs (lf h-1)).map λi=>decide (h.getD i 0<h.getD (i+1) 0)
theorem X18{h:LI}(U:(lf h)<=1000)(S:Sto):ev F G Xht [yz (Xa h)] S=.ok (.ref (lf S)) (S++[.lst ((Xm4 h).map D.bl)]):=by
 have h1:Xa9 (Xa h) (yz 1) yy S=.ok (Xa (h.drop 1)) S:=Xki h 1 S;have B:evit F G (.zpp (.cons (.var 0) (.cons (.sli (.var 0) (.some (.cst (.int 1))) .none) .nil))) [yz (Xa h)] S=.ok (.zpp (.con (h.map D.int)) (.con ((h.drop 1).map D.int))) S:=by simp only[evit,evs,ev,evo,gZ0,gS0,Rk0,Xbz,h1];rfl
 obtain⟨L,S',h2,rfl,_⟩:=Xe3 (F:=F) (G:=G) (t:=.tup [2,3]) (n:=3) (elt:=.cmp .lt (.var 2) (.var 3)) ((Vs (lf h-1)).map (gpr h)) (λi=>.bl (decide (h.getD i 0<h.getD (i+1) 0)))
  (λi e S'=>S'=S/\∃x y,e=[yz (Xa h),yy,x,y]) B (by simp[Src.most]) (X8 (by simp;omega)) ⟨rfl,yy,yy,rfl⟩
  (λi e S' J=>by obtain⟨rfl,_⟩:=J;exact X6m h i S')
  (λi d e S' hd J=>by
   obtain⟨rfl,x,y,rfl⟩:=J;have hi:i<lf h-1:=by have:=(Vi.mp hd).1;simpa using this
   simp only[Vx,Vdg hi,V2,Vv]at hd;subst hd;exact⟨[yz (Xa h),yy,yz (.int (h.getD i 0)),yz (.int (h.getD (i+1) 0))],_,rfl,by simp only[ev,gZ0,gS0,Rk0,Xh,X5,ltD],rfl,_,_,rfl⟩)
 unfold Xht Xm4;rw[h2];simp[Vhp]
noncomputable def Xhu:Df:=⟨1,1,.cons (.ret (.blt .all (.cons Xht .nil))) .nil⟩
theorem Xxq{h:LI}(B:(lf h)<=1000)(S:Sto):den F G Xhu [Xa h] S=.ok (.bl (riz h)) (S++[.lst ((Xm4 h).map D.bl)]):=by
 refine Yd (env:=[yz (Xa h)]) rfl rfl ?_;refine Xi ?_;rw[exe,ev,evs,X18 B S];simp only[Rk0,evs,Xbd];have e:(Xm4 h).all id=riz h:=by simp[Xm4,riz,Vc9,Vhp]
 rw[e]
theorem Xjf{l:List Bool}:Xk .anb [.ref (lf S)] (S++[.lst (l.map D.bl)])=.ok (.bl (l.any id)) (S++[.lst (l.map D.bl)]):=by simp only[Xk,Xf,Vq,Xd9]
noncomputable def Xo(d:D):LI:=(Xm (Xa5 d)).getD []
theorem ints_of(l:LI):Xo (Xa l)=l:=by have:Xa5 (Xa l)=l.map D.int:=rfl;unfold Xo;rw[this,Xaa];rfl
noncomputable def Xxr(iw:Nat):Ex:=.cmr yw 2 (.cons (.var 2) (.val (.var 0)) .nil .nil) (.call iw (.cons (.var 2) (.cons (.cst (.int 0)) (.cons (.glb 0) .nil))))
noncomputable def Xrh(iw B:Nat):Df:=⟨1,1,.cons (.ite (.or (.not (.isi (.var 0) [.tuple])) (.cmp .gt (.blt .len (.cons (.var 0) .nil)) (.glb 1))) (.cons (.ret (.cst (.bl yw))) .nil) .nil) (.cons (.ret (.and (.blt .all (.cons (Xxr iw) .nil)) (.call B (.cons (.var 0) .nil)))) .nil)⟩
noncomputable def Xaf(l:LI):Vby:=.tuple (l.map Vas)
theorem X6r(look:Nat->Option Vby):∀n:LL,datFs look (n.map Xa)=yz (n.map Xaf)
 |[]=>by simp only[Uw,datFs]|x::n=>by
  have e:X0 look (Xa x)=yz (Xaf x):=by simp only[Xa,X0,Xja,V2,Xaf]
  simp only[Ux,datFs,e,X6r look n]
theorem X6s:∀n:LL,Vb8 (n.map Xaf)=yx
 |[]=>by simp only[Uw,Vb8]|x::n=>by simp only[Uw,Vb8,Xaf,Vci,Xjb,Vbc];exact X6s n
theorem Xea{L:Nat}{env:En}{e elt:Ex}{xs:LD}(y:D->D)(Y:(lf env)=L)(hc:ev F G e env S=.ok (.tup xs) S)(hm:(lf xs)<=1000)(J:∀d∈xs,∀X,∃B,ev F G elt (env++[yy,yz d]) (S++X)=.ok (y d) (S++B)):
  ∃X,ev F G (.cmr yw 2 (.cons (.var (L+1)) (.val e) .nil .nil) elt) env S=.ok (.ref (S++X).length) (S++X++[.lst (xs.map y)]):=by
 obtain⟨e',S',h2,⟨X,rfl⟩,_⟩:=Xe3 (F:=F) (G:=G) (t:=.var (L+1)) (n:=2) (elt:=elt) (env:=env) (S:=S) (S1:=S) (src:=.con xs) xs (λi=>y (xs.getD i .non))
  (λk e S'=>(∃X,S'=S++X)/\∃x,e=env++[yy,x]) (Yy hc) rfl (X8 (by omega)) ⟨⟨[],by simp⟩,yy,rfl⟩ (λ_ _ _ _=>rfl)
  (λk dd ee S' hd hP=>by
   obtain⟨⟨X,rfl⟩,x,rfl⟩:=hP;obtain⟨B,q⟩:=J dd (V6 hd) X;have e:xs.getD k .non=dd:=by simp[Vdq,hd]
   exact⟨env++[yy,yz dd],_,Xft Y x _,by rw[e];exact q,⟨B,rfl⟩,_,rfl⟩)
 have U:(Vs (lf xs)).map (λi=>y (xs.getD i .non))=xs.map y:=by
  refine List.ext_getElem (by simp) λi h1 h2=>?_;have:i<lf xs:=by simpa using h1
  simp[Vdq,Vk this]
 rw[U]at h2;exact⟨X,h2⟩
theorem X19{l:LI}(h:(lf l)<64)(S:Sto):Xk .sorted [Xa l] S=.ok (.ref (lf S)) (S++[.lst ((Yl l).map D.int)]):=by
 have e:(Xw S (Xa l)).bind Xm=yz l:=by simp only[Xa,Xw,Vq,Xaa]
 have q:Xvj (Xa l)=true:=rfl;simp only[Xk,e,q,Vbc,decide_eq_true h,if_true]
variable{t:Tg}{it:It}{ifs:Exs}{elt:Ex}{env:En}{n:Nat}
theorem Xjg{xs:LD}{get:Sto->Nat->Option (Option D)}{body:En->LD->Sto->R (LD)}(w:D->LD)(B:LD)(P:En->Prop)(L:∀X i,get (S++X) i=yz xs[i]?)
  (step:∀i d e X,xs[i]?=yz d->P e->∃Y U,Xu t d e=yz Y/\P Y/\body Y (B++((xs.take i).map w).flatten) (S++X)=.ok (B++((xs.take i).map w).flatten++w d) (S++U)):
  ∀(J i:Nat) (e:En) (X:Sto),P e->i<=lf xs->lf xs<J+i->∃U,Xp get t body J i e (B++((xs.take i).map w).flatten) (S++X)=.ok (B++(xs.map w).flatten) (S++U)
 |0=>λi e X h h1 h2=>by omega|J+1=>λi e X h h1 h2=>by
  cases q:xs[i]? with
  |none=>
   have hi:i=lf xs:=by have:=Ui.mp q;omega
   refine⟨X,?_⟩;simp only[Xp,L,q];rw[hi,Vcx]|some d=>obtain⟨Y,X1,a1,a2,a3⟩:=step i d e X q h;have hi:i<lf xs:=(Vi.mp q).1;obtain⟨U,b2⟩:=Xjg w B P L step J (i+1) Y X1 a2 (by omega) (by omega);refine⟨U,?_⟩;simp only[Xp,L,q,a1,a3];rw[Xt0 q,<-Vh]at b2;exact b2
theorem Xpy{xs:LD}{body:En->LD->Sto->R (LD)}(w:D->LD)(B:LD)(P:En->Prop)
  (step:∀i d e X,xs[i]?=yz d->P e->∃U L,Xu t d e=yz U/\P U/\body U (B++((xs.take i).map w).flatten) (S++X)=.ok (B++((xs.take i).map w).flatten++w d) (S++L)):
  ∀(J i:Nat) (e:En) (X:Sto),P e->i<=lf xs->lf xs<J+i->∃L,Xp (Src.con xs).get t body J i e (B++((xs.take i).map w).flatten) (S++X)=.ok (B++(xs.map w).flatten) (S++L):=Xjg w B P (λ_ _=>rfl) step
theorem Xpz{src:Src}{xs:LD}(b:D->Bool)(y:D->D)(P:En->Prop)(U:evit F G it env S=.ok src S)(hm:src.most S=lf xs)(J:∀X i,src.get (S++X) i=yz xs[i]?)(hb:(lf xs)<=big)(h0:P (env++Vu n yy))
  (step:∀d∈xs,∀e X,P e->∃L Y,Xu t d e=yz L/\P L/\evts F G ifs L (S++X)=.ok (b d) (S++Y)/\(b d=yx->∃X2,ev F G elt L (S++Y)=.ok (y d) (S++X2))):
  ∃X,ev F G (.cmr yw n (.cons t it ifs .nil) elt) env S=.ok (.ref (S++X).length) (S++X++[.lst ((xs.filter b).map y)]):=by
 have hw:∀d,(if b d then [y d] else []:LD).length<=1:=λd=>by split<;>simp
 obtain⟨X',a⟩:=Xjg (S:=S) (xs:=xs) (t:=t) (get:=src.get) (body:=Xr (λenv S=>evts F G ifs env S) (λenv B S=>(ev F G elt env S).bind λy S=>if (lf B)<big then .ok (B++[y]) S else .bad)) (λd=>if b d then [y d] else []) [] P J
  (λi d e X hd hP=>by
   obtain⟨L,Y,a1,a2,a3,a4⟩:=step d (V6 hd) e X hP;have hi:i<lf xs:=(Vi.mp hd).1;have hl:=Xk1 hw (xs.take i);rw[Um]at hl;cases c:b d with
   |false=>refine⟨L,Y,a1,a2,?_⟩;simp only[Xr,a3,c,Rk0,Vbp];simp
   |true=>obtain⟨X2,a5⟩:=a4 c;refine⟨L,X2,a1,a2,?_⟩;simp only[Xr,a3,c,Rk0,Vbp,if_true,a5];rw[iP0 (by omega)]) (lf xs+1) 0 _ [] h0 (Ug _) (by omega)
 refine⟨X',?_⟩;simp only[ev,U,Rk0,hm];rw[V3]at a;have a':Xp src.get t (Xr (λenv S=>evts F G ifs env S) (λenv B S=>(ev F G elt env S).bind λy S=>if (lf B)<big then .ok (B++[y]) S else .bad)) (lf xs+1) 0 (env++Vu n yy) [] S=.ok (xs.map λd=>if b d then [y d] else []).flatten (S++X'):=a;have e:(xs.map λd=>if b d then [y d] else []).flatten=(xs.filter b).map y:=by
  clear a a' h0 step hb hm U J;induction xs with
  |nil=>rfl|cons d xs ih=>simp only[Ux,Vbw,ih,Vgl];split<;>simp
 rw[a',e];simp only[Rk0];rfl
theorem Xfy{xs:LD}(b:D->Bool)(y:D->D)(P:En->Prop)(J:evit F G it env S=.ok (.con xs) S)(U:(lf xs)<=big)(h0:P (env++Vu n yy))
  (step:∀d∈xs,∀e X,P e->∃B L,Xu t d e=yz B/\P B/\evts F G ifs B (S++X)=.ok (b d) (S++L)/\(b d=yx->∃Y,ev F G elt B (S++L)=.ok (y d) (S++Y))):
  ∃X,ev F G (.cmr yw n (.cons t it ifs .nil) elt) env S=.ok (.ref (S++X).length) (S++X++[.lst ((xs.filter b).map y)]):=Xpz b y P J rfl (λ_ _=>rfl) U h0 step
theorem Xri:∀n:LL,Yg (n.map Xa)=yz n
 |[]=>rfl|x::n=>by show Yg (.tup (x.map D.int)::n.map Xa)=_;simp only[Yg,Xaa,Xri n,V2]
theorem Xjh{q:Nat}{n r:LL}(h:Xc S q=yz (n.map Xa))(B:Xah n=yz r):Xk .srt [.ref q] S=.ok (.ref (lf S)) (S++[.lst (r.map Xa)]):=by simp only[Xk,h,Vq,Xri,B];rfl
end
theorem Xt5{acc:LI}{x:Int}(h:acc.Nodup):(ddS acc x).Nodup:=by
 unfold ddS;split;·exact h
 ·rename_i J;rw[Vda];refine⟨h,by simp,?_⟩;intro a L b B e;rw[V9]at B;subst B;subst e;exact J L
theorem X2a{acc:LI}{x y:Int}:y∈ddS acc x ↔ y∈acc\/y=x:=by
 unfold ddS;split
 ·rename_i B;constructor;·exact Or.inl
  ·rintro (h|rfl);·exact h
   ·exact B
 simp
theorem Xhv:∀(l acc:LI),acc.Nodup->(l.foldl ddS acc).Nodup
 |[]=>λacc h=>h|x::l=>λacc h=>Xhv l _ (Xt5 h)
theorem Xm5:∀(l acc:LI) (y:Int),y∈l.foldl ddS acc ↔ y∈acc\/y∈l
 |[]=>λacc y=>by simp|x::l=>λacc y=>by rw[Vel,Xm5 l,X2a,Vn,or_assoc]
theorem Xxs(l:LI):(ddI l).Nodup:=Xhv l [] Vg8
theorem Xt6(l:LI)(y:Int):y∈ddI l ↔ y∈l:=by unfold ddI;rw[Xm5];simp
theorem pts_mem{n:LL}{x:Int}:x∈pts n ↔ ∃s∈n,x∈s:=by unfold pts;rw[(Yx _).mem_iff,Xt6,List.mem_flatten]
theorem X2b(n:LL):(pts n).length=(ddI n.flatten).length:=(Yx _).length_eq
theorem X6t{l:LI}(h1:l.Pairwise (·<=·))(h2:l.Nodup):l.Pairwise (· < ·):=by refine List.Pairwise.imp₂ ?_ h1 h2;intro a b J B;have B:a≠b:=B;omega
section
variable{F:Fn}{G:LD}{S:Sto}
noncomputable def Xxt(B:Nat):Df:=⟨2,2,.cons (.ret (.blt .anb (.cons (.cmr yw 2 (.cons (.var 3) (.val (.var 1)) .nil .nil) (.and (.call B (.cons (.var 0) (.cons (.var 3) .nil))) (.cmp .ne (.var 0) (.var 3)))) .nil))) .nil⟩
noncomputable def Xxu(B:Nat):Df:=⟨1,1,.cons (.ret (.blt .anb (.cons (.cmr yw 2 (.cons (.var 2) (.val (.var 0)) .nil .nil) (.call B (.cons (.var 2) (.cons (.var 0) .nil)))) .nil))) .nil⟩
noncomputable def X6u:St:=.ite (.or (.not (.isi (.var 0) [.tuple])) (.not (.chn .le .le (.cst (.int 1)) (.blt .len (.cons (.var 0) .nil)) (.glb 2)))) (.cons (.ret (.cst (.bl yw))) .nil) .nil
noncomputable def Xrj(i6:Nat):Ex:=.cmr yw 2 (.cons (.var 2) (.val (.var 0)) .nil .nil) (.call i6 (.cons (.var 2) .nil))
noncomputable def X6v(i6:Nat):St:=.ite (.not (.blt .all (.cons (Xrj i6) .nil))) (.cons (.ret (.cst (.bl yw))) .nil) .nil
noncomputable def Xrk(i6 i2 B:Nat):Df:=⟨1,1,.cons X6u (.cons (X6v i6) (.cons (.ret (.and (.call i2 (.cons (.var 0) .nil)) (.not (.call B (.cons (.var 0) .nil))))) .nil))⟩
noncomputable def X6w:Ex:=.cmr yw 2 (.cons (.var 2) (.val (.var 0)) .nil .nil) (.blt .len (.cons (.var 2) .nil))
noncomputable def Xxv:Df:=⟨1,1,.cons (.ret (.blt .mxl (.cons X6w .nil))) .nil⟩
theorem Xt7{xs:LD}{is:Nat}(hs:∀x∈xs,∀Y,∃X,F is [x,x] (S++Y)=.ok (.bl yx) (S++Y++X))(hl:(lf xs)<=100):
  ∃X,ev F G (Xg2 is) [yz (.tup xs),yz (.tup xs)] S=.ok (.bl yx) (S++X):=by
 let zs:LD:=xs.map λx=>.tup [x,x];obtain⟨e',S',h2,⟨Y,h3⟩,h4⟩:=Xe3 (F:=F) (G:=G) (t:=.tup [3,4]) (n:=3) (elt:=.call is (.cons (.var 3) (.cons (.var 4) .nil))) (env:=[yz (.tup xs),yz (.tup xs)]) (S:=S) (S1:=S) (it:=.zpp (.cons (.var 0) (.cons (.var 1) .nil))) (src:=.zpp (.con xs) (.con xs)) zs (λ_=>.bl yx)
  (λi e S'=>(∃Y,S'=S++Y)/\∃u v,e=Xi7 (.tup xs) (.tup xs) u v)
  (by simp only[evit,evs,ev,gZ0,gS0,Rk0,Ys]) (by simp[Src.most,zs]) (X8 (by simp[zs];omega)) ⟨⟨[],by simp⟩,yy,yy,rfl⟩ (λi e S' U=>by simp only[Src.get,Vx,zs];cases xs[i]?<;>rfl)
  (λi d e S' hd U=>by
   obtain⟨⟨Y,rfl⟩,u,v,rfl⟩:=U;simp only[zs,Vx]at hd;cases B:xs[i]? with
   |none=>rw[B]at hd;cases hd|some y=>
    rw[B]at hd;have J:d=.tup [y,y]:=by simpa using hd.symm
    subst J;obtain⟨X,hX⟩:=hs y (V6 B) Y;refine⟨Xi7 (.tup xs) (.tup xs) (yz y) (yz y),S++Y++X,rfl,?_,⟨Y++X,by simp⟩,_,_,rfl⟩
    simp only[ev,evs,Xi7,gZ0,gS0,Rk0,hX])
 have L:S'=S++Y:=h3;subst L;have e1:(Vs (lf zs)).map (λ_=>D.bl yx)=(Vu (lf xs) yx).map D.bl:=by rw[List.map_const',Vap,List.map_replicate];simp[zs]
 rw[e1]at h2;refine⟨Y++[.lst ((Vu (lf xs) yx).map D.bl)],?_⟩;simp only[Xg2,ev,evs]at h2 ⊢;rw[h2];simp only[Rk0];rw[Xbd,<-Vh];congr 2;simp
theorem Xxw{xs:LD}{is iw:Nat}(hs:∀x∈xs,∀Y,∃X,F is [x,x] (S++Y)=.ok (.bl yx) (S++Y++X))(U:(lf xs)<=100):∃X,den F G (Xaq is iw) [.tup xs,.tup xs] S=.ok (.bl yx) (S++X):=by
 obtain⟨X,L⟩:=Xt7 (G:=G) hs U;refine⟨X,?_⟩;have J:kdD S (.tup xs)=yz .tuple:=rfl;have la:Xk .len [.tup xs] S=.ok (.int (lf xs)) S:=rfl;simp only[den,Xaq,Xhr,Vah,if_true,Uw,Vu,Vbo,V3];have B:pc F G (.cons (.ite (.or (.cmp .ne (.isi (.var 1) [.list]) (.isi (.var 0) [.list])) (.cmp .ne (.isi (.var 1) [.tuple]) (.isi (.var 0) [.tuple]))) (.cons (.ret (.cst (.bl yw))) .nil) .nil)
  (.cons (.ret (.and (.cmp .eq (.blt .len (.cons (.var 0) .nil)) (.blt .len (.cons (.var 1) .nil))) (Xg2 is))) .nil)) [yz (.tup xs),yz (.tup xs)] S=.ok (.rt (.bl yx)) (S++X):=by
  rw[Xd (e:=[yz (.tup xs),yz (.tup xs)]) (S1:=S) (Xq (by simp only[ev,gZ0,gS0,Rk0,J,Vq,Yb,isT,tyQ,Xza,Xg,beq_self_eq_true,Ut]))];rw[Xi (d:=.bl yx) (S1:=S++X) (by rw[exe,ev,ev];simp only[ev,evs,gZ0,gS0,Rk0,la,Xm0,beq_self_eq_true,Xg];rw[L,Rk0])]
 rw[Xi (d:=.bl yx) (S1:=S++X) (by rw[exe];simp only[ev,gZ0,gS0,Rk0,J,Vq,Yb,isT,tyQ,Xg];exact B)]
noncomputable def Xeb(f:Nat):Sts:=.cons (.ret (.call f (.cons (.var 0) (.cons (.var 1) .nil)))) .nil
noncomputable def Xec(f B:Nat):Df:=⟨2,3,.cons (.try (Xeb f) 0 2 (.cons (.ret (.call B (.cons (.var 2) .nil))) .nil)) .nil⟩
theorem Xp0{f:Nat}{a b:D}{x:Option D}:pc F G (Xeb f) [yz a,yz b,x] S=(match F f [a,b] S with
   |.ok r S'=>.ok (.rt r) S'|.ex n S'=>.ex n S'
   |.bad=>.bad):=by
 unfold Xeb;simp only[pc,exe,ev,evs,gZ0,gS0,Rk0];cases F f [a,b] S<;>rfl
theorem X2c{f L:Nat}{a b r:D}{S':Sto}(h:F f [a,b] S=.ok r S'):den F G (Xec f L) [a,b] S=.ok r S':=by have J:=Xp0 (F:=F) (G:=G) (S:=S) (f:=f) (a:=a) (b:=b) (x:=yy);rw[h]at J;have U:nasgs (Xeb f)=true:=rfl;simp only[den,Xec,Vah,if_true,Uw,Vu];rw[Xi (d:=r) (S1:=S') (by rw[exe,iP0 U];have B:pc F G (Xeb f) ([yz a,yz b]++[yy]) S=_:=J;rw[B])]
theorem X2d{f B k:Nat}{a b r:D}{P S':Sto}(h:F f [a,b] S=.ex P.length (P++[.exc k]))(Y:F B [.ref P.length] (P++[.exc k])=.ok r S'):den F G (Xec f B) [a,b] S=.ok r S':=by
 have U:=Xp0 (F:=F) (G:=G) (S:=S) (f:=f) (a:=a) (b:=b) (x:=yy);rw[h]at U;have nz:nasgs (Xeb f)=true:=rfl;have hg:(P++[O.exc k])[P.length]?=yz (.exc k):=by rw[Vaq (Vm _),Vbo];rfl
 have hh:pc F G (.cons (.ret (.call B (.cons (.var 2) .nil))) .nil) [yz a,yz b,yz (.ref P.length)] (P++[.exc k])=.ok (.rt r) S':=by rw[Xi (d:=r) (S1:=S') (by simp only[exe,ev,evs,gZ0,gS0,Rk0,Y])]
 simp only[den,Xec,Vah,if_true,Uw,Vu];rw[Xi (d:=r) (S1:=S') (by rw[exe,iP0 nz];have J:pc F G (Xeb f) ([yz a,yz b]++[yy]) S=_:=U;rw[J];dsimp only;rw[hg];have L:pc F G (.cons (.ret (.call B (.cons (.var 2) .nil))) .nil) (([yz a,yz b]++[yy]).set 2 (yz (.ref P.length))) (P++[.exc k])=_:=hh;simp only[beq_self_eq_true,Bool.true_or,if_true];rw[L])]
end
end Z
end
section
namespace Z
theorem Xm6:∀(l acc:LL),(acc++l).Nodup->l.foldl ddR acc=acc++l
 |[]=>λacc _=>by simp|k::l=>λacc h=>by
  have B:k ∉ acc:=λz=>by rw[Vda]at h;exact h.2.2 k z k Vz rfl
  rw[Vel];have e:ddR acc k=acc++[k]:=by unfold ddR;rw[iN0 B]
  rw[e,Xm6 l (acc++[k]) (by rw[Vh];exact h),Vh];rfl
theorem PwL.nodup{l:LL}(h:PwL l):l.Nodup:=h.imp λ{a b} h e=>by subst e;rw[Xij]at h;cases h
theorem X6x(l:LL):PwL l ↔ Yr (ddL l)=l:=by
 constructor;·intro h;have e:ddL l=l:=Xm6 l [] h.nodup;rw[e];exact Xil (Xas l) (Xfl l h.nodup) h
 ·intro h;rw[<-h];exact Xfl _ (Xme l)
noncomputable def rzL:LL->Bool
 |a::b::r=>ltL a b&&rzL (b::r)|_=>yx
theorem Xt8:∀l:LL,rzL l=yx ↔ PwL l
 |[]=>⟨λ_=>Vb7,λ_=>rfl⟩|[a]=>⟨λ_=>Vec _ _,λ_=>rfl⟩|a::b::r=>by
  rw[rzL,bA0,Xt8 (b::r)];unfold PwL;constructor
  ·rintro ⟨h1,h2⟩;refine Uy.mpr ⟨λz B=>?_,h2⟩;rcases Vn.mp B with rfl|B;·exact h1
   ·exact Xb9 _ _ _ h1 ((Uy.mp h2).1 z B)
  intro h;exact⟨(Uy.mp h).1 b Vz,(Uy.mp h).2⟩
noncomputable def Xed(l:LL):Bool:=l.any λs=>l.any λt=>lie s t && !decide (s=t)
noncomputable def Xrl(l:LL):Bool:=l.all λs=>decide ((l.filter λt=>lie s t).length=1)
theorem Xp1{α:Type}[DecidableEq α]{p:α->Bool}{a:α}:∀ {l:List α},l.Nodup->a∈l->p a=yx->((l.filter p).length=1 ↔ ∀t∈l,p t=yx->t=a)
 |l,nd,ha,hp=>by
  have J:a∈l.filter p:=Vbz.mpr ⟨ha,hp⟩;constructor
  ·intro h t ht L;have B:t∈l.filter p:=Vbz.mpr ⟨ht,L⟩;match e:l.filter p,h with
   |[x],_=>rw[e]at J B;rw[V9]at J B;rw[J,B]
  intro h;have nf:(l.filter p).Nodup:=nd.filter _;match e:l.filter p with
  |[]=>rw[e]at J;cases J|[x]=>rfl|x::y::r=>have Y:=Vbz.mp (show x∈l.filter p by rw[e];exact Vz);have U:=Vbz.mp (show y∈l.filter p by rw[e];exact V5 _ Vz);have:x=y:=(h x Y.1 Y.2).trans (h y U.1 U.2).symm;rw[e]at nf;exact aB0 this λz=>(Vcm.mp nf).1 (z▸Vz)
theorem Xm7(s:LI):lie s s=true:=by unfold lie;exact Uk.mpr λx B=>decide_eq_true B
theorem X2e{l:LL}(nd:l.Nodup):Xrl l = !Xed l:=by
 rw[Vfc];unfold Xrl Xed;rw[Uk,Vav,Vdy,ne_eq,Vcv];constructor;·rintro h ⟨s,hs,h2⟩;obtain⟨t,J,B⟩:=Vcv.mp h2;rw[bA0,Vav,decide_eq_false_iff_not]at B;exact B.2 ((Xp1 nd hs (Xm7 s)).mp (oD0 (h s hs)) t J B.1).symm
 ·intro h s hs;refine decide_eq_true ((Xp1 nd hs (Xm7 s)).mpr λt J h1=>Classical.byContradiction λz=>h ⟨s,hs,Vcv.mpr ⟨t,J,?_⟩⟩);rw[bA0,Vav,decide_eq_false_iff_not];exact⟨h1,λe=>z e.symm⟩
noncomputable def Xg5(l:LI):Bool:=(l.all λx=>decide (0<=x)&&decide (x<=15))&&riz l
theorem Xg6:∀ {l m:LI},l.Pairwise (· < ·)->m.Pairwise (· < ·)->(∀x,x∈l ↔ x∈m)->l=m
 |[],[],_,_,_=>rfl|[],b::m,_,_,h=>aB0 ((h b).mpr Vz) (by simp)|a::l,[],_,_,h=>aB0 ((h a).mp Vz) (by simp)|a::l,b::m,h1,h2,h=>by
  rw[Uy]at h1 h2;have e:a=b:=by
   rcases Vn.mp ((h a).mp Vz) with e|U;·exact e
   ·rcases Vn.mp ((h b).mpr Vz) with e|L;·exact e.symm
    ·have:=h1.1 b L;have:=h2.1 a U;omega
  subst e;rw[Xg6 h1.2 h2.2 λx=>⟨λJ=>?_,λJ=>?_⟩]
  ·rcases Vn.mp ((h x).mp (V5 _ J)) with e|B;·subst e;exact aB0 (h1.1 x J) (by omega)
   ·exact B
  rcases Vn.mp ((h x).mpr (V5 _ J)) with e|B;·subst e;exact aB0 (h2.1 x J) (by omega)
  ·exact B
theorem Xxx{a b:Int}{r:LI}(h:riz (a::b::r)=yx):a<b/\riz (b::r)=true:=by
 unfold riz at h ⊢;rw[Uk]at h;refine⟨?_,Uk.mpr λi hi=>?_⟩;·have:=h 0 (U6.mpr (by simp));simpa using oD0 this
 ·have B:=U6.mp hi;have:=h (i+1) (U6.mpr (by simp at B ⊢;omega));simpa using this
theorem Xt9:∀ {l:LI},riz l=yx->l.Pairwise (· < ·)
 |[],_=>Vb7|[a],_=>Vec _ _|a::b::r,h=>by
  obtain⟨h1,h2⟩:=Xxx h;have ih:=Xt9 h2;refine Uy.mpr ⟨λz B=>?_,ih⟩;rcases Vn.mp B with rfl|B;·exact h1
  ·have:=(Uy.mp ih).1 z B;omega
theorem X2f(l:LI):((Vs 16).map Vbr).filter (λp=>decide (p∈l))=l ↔ Xg5 l=true:=by
 have pw:(((Vs 16).map Vbr).filter λp=>decide (p∈l)).Pairwise (· < ·):=(List.pairwise_map.mpr (List.pairwise_lt_range.imp λh=>Int.ofNat_lt.mpr h)).filter _;have mem:∀x,x∈((Vs 16).map Vbr).filter (λp=>decide (p∈l)) ↔ (0<=x/\x<=15)/\x∈l:=λx=>by
  rw[Vbz,V0,decide_eq_true_eq];constructor;·rintro ⟨⟨n,hn,rfl⟩,h⟩;have:=U6.mp hn;exact⟨⟨Int.natCast_nonneg n,by show(n:Int)<=15;omega⟩,h⟩
  ·rintro ⟨⟨B,h1⟩,h⟩;exact⟨⟨x.toNat,U6.mpr (by omega),by show((x.toNat:Nat):Int)=x;omega⟩,h⟩
 unfold Xg5;rw[bA0,Uk];constructor;·intro e;rw[e]at pw mem;refine⟨λx J=>?_,X6q pw⟩;obtain⟨⟨B,h1⟩,_⟩:=(mem x).mp J;rw[decide_eq_true B,decide_eq_true h1];rfl
 ·rintro ⟨h1,h2⟩;refine Xg6 pw (Xt9 h2) λx=>?_;rw[mem];refine⟨λh=>h.2,λh=>⟨?_,h⟩⟩;have:=h1 x h;rw[bA0,decide_eq_true_eq,decide_eq_true_eq]at this;exact this
end Z
end
section
namespace Z
open PySem PySem.Spec PyProof.Rows L2
noncomputable def X4(d:D):Bool:=match d with
 |.tup xs=>decide (lf xs<=6)&&((xs.all λx=>wi x 0 15)&&riz (Xo (.tup xs)))|_=>yw
theorem Xji:∀ {xs:LD} {lo hi:Int},(xs.all λx=>wi x lo hi)=yx->∃l:LI,xs=l.map D.int/\∀x∈l,lo<=x/\x<=hi
 |[],_,_,_=>⟨[],rfl,λx L=>by cases L⟩|x::xs,lo,hi,h=>by
  rw[Vbe,bA0]at h;obtain⟨l,rfl,J⟩:=Xji h.2;cases x with
  |int i=>
   have:=h.1;simp only[wi,bA0,decide_eq_true_eq]at this;refine⟨i::l,rfl,λy B=>?_⟩;rcases Vn.mp B with rfl|B;·exact this
   ·exact J y B|_=>cases h.1
theorem Xm8(l:LI):X4 (Xa l)=(decide (lf l<=6)&&Xg5 l):=by
 have e:((l.map D.int).all λx=>wi x 0 15)=l.all λx=>decide (0<=x)&&decide (x<=15):=by rw[Vc9];rfl
 have B:Xo (D.tup (l.map D.int))=l:=ints_of l;unfold X4 Xa Xg5;dsimp only;rw[Ve,e,B]
theorem Xkl{d:D}(h:X4 d=yx):∃l,d=Xa l/\(lf l)<=6/\Xg5 l=true:=by
 cases d with
 |tup xs=>have h':=h;simp only[X4,bA0,decide_eq_true_eq]at h;obtain⟨l,rfl,_⟩:=Xji h.2.1;have e:X4 (Xa l)=true:=h';rw[Xm8,bA0,decide_eq_true_eq]at e;exact⟨l,rfl,e⟩|_=>cases h
section
variable{F:Fn}{G:LD}
theorem X2g{iw:Nat}{xs:LD}{S:Sto}(hG:G[0]?=yz (.int 15))(hw:∀d,good S d->F iw [d,.int 0,.int 15] S=.ok (.bl (wi d 0 15)) S)(J:(lf xs)<=1000)(hg:∀x∈xs,good S x):
  ev F G (Xxr iw) [yz (.tup xs)] S=.ok (.ref (lf S)) (S++[.lst ((xs.map λx=>wi x 0 15).map D.bl)]):=by
 have B:=Xcw (F:=F) (G:=G) (n:=2) (t:=.var 2) (it:=.val (.var 0)) (ifs:=.nil) (elt:=.call iw (.cons (.var 2) (.cons (.cst (.int 0)) (.cons (.glb 0) .nil)))) (env:=[yz (.tup xs)]) (S0:=S) (S:=S) (src:=.con xs) xs (λ_=>yx) (λd=>.bl (wi d 0 15))
  (λe=>∃x y,e=[yz (.tup xs),x,y]) (Yy (by simp only[ev,gZ0])) rfl (λi=>rfl) (X8 J) ⟨yy,yy,rfl⟩
  (λd hd e L=>by
   obtain⟨x,y,rfl⟩:=L;refine⟨[yz (.tup xs),x,yz d],rfl,⟨_,_,rfl⟩,rfl,λ_=>?_⟩
   simp only[ev,evs,gZ0,gS0,Rk0,hG,hw d (hg d hd)])
 unfold Xxr;rw[B,Vcq.mpr λ_ _=>rfl,Vai];rfl
theorem X2h{iw Y:Nat}{d:D}{S:Sto}(hG:G[0]?=yz (.int 15))(L:G[1]?=yz (.int 6))(hw:∀S d,good S d->F iw [d,.int 0,.int 15] S=.ok (.bl (wi d 0 15)) S)(hr:∀(l:LI) S,lf l<=6->∃X,F Y [Xa l] S=.ok (.bl (riz l)) (S++X))(gd:good S d)(el:∀xs,d=.tup xs->∀x∈xs,good S x):
  ∃X,den F G (Xrh iw Y) [d] S=.ok (.bl (X4 d)) (S++X):=by
 have no:∀ {c:Ex} {r:Sts},ev F G c [yz d] S=.ok (.bl yx) S->X4 d=yw->∃X,pc F G (.cons (.ite c (.cons (.ret (.cst (.bl yw))) .nil) .nil) r) [yz d] S=.ok (.rt (.bl (X4 d))) (S++X):=λ{c r} h e=>by refine⟨[],?_⟩;rw[e,V3];refine Xi ?_;rw[exe,h,Rk0];simp only[Xg,pc,exe,ev,Rk0]
 have U:∃X,pc F G (Xrh iw Y).body [yz d] S=.ok (.rt (.bl (X4 d))) (S++X):=by
  obtain⟨k,J,hx⟩:=gd;by_cases ht:∃xs,d=.tup xs
  ·obtain⟨xs,rfl⟩:=ht;have k1:kdD S (.tup xs)=yz .tuple:=rfl;have t:Yb .tuple [.tuple]=yz true:=rfl;have B:Xk .len [.tup xs] S=.ok (.int (lf xs)) S:=rfl;by_cases h6:(lf xs)<=6
   ·have n:¬ ((6:Int)<(lf xs:Int)):=by omega
    have s1:exe F G (.ite (.or (.not (.isi (.var 0) [.tuple])) (.cmp .gt (.blt .len (.cons (.var 0) .nil)) (.glb 1))) (.cons (.ret (.cst (.bl yw))) .nil) .nil) [yz (.tup xs)] S=.ok (.nx [yz (.tup xs)]) S:=by simp only[exe,ev,evs,gZ0,Rk0,k1,Vq,t,Xg,Ut,B,L,Xh,X5,n,decide_false,pc]
    have a:=X2g (F:=F) (G:=G) (iw:=iw) (S:=S) hG (hw S) (show (lf xs)<=1000 by omega) (el xs rfl);have b:=Xbd (S:=S) (l:=xs.map λx=>wi x 0 15);cases e:(xs.all λx=>wi x 0 15) with
    |false=>
     have e':(xs.map λx=>wi x 0 15).all id=false:=by rw[Vc9];exact e
     rw[e']at b;have f:X4 (.tup xs)=false:=by simp only[X4,e,Vbl,Vcf]
     refine⟨[.lst ((xs.map λx=>wi x 0 15).map D.bl)],?_⟩;rw[f];refine(Xd s1).trans (Xi ?_);rw[exe,ev,ev,evs,a];simp only[Rk0,evs,b,Xg]|true=>
     have e':(xs.map λx=>wi x 0 15).all id=true:=by rw[Vc9];exact e
     rw[e']at b;obtain⟨l,rfl,_⟩:=Xji e;obtain⟨X,hX⟩:=hr l (S++[.lst (((l.map D.int).map λx=>wi x 0 15).map D.bl)]) (by simpa using h6);have f:X4 (.tup (l.map D.int))=riz l:=by have e2:Xo (D.tup (l.map D.int))=l:=ints_of l;simp only[X4,e,h6,decide_true,Vbc,e2]
     refine⟨[.lst (((l.map D.int).map λx=>wi x 0 15).map D.bl)]++X,?_⟩;rw[f];refine(Xd s1).trans (Xi ?_);rw[exe,ev,ev,evs,a];have aa:F Y [D.tup (l.map D.int)] (S++[.lst (((l.map D.int).map λx=>wi x 0 15).map D.bl)])=.ok (.bl (riz l)) (S++[.lst (((l.map D.int).map λx=>wi x 0 15).map D.bl)]++X):=hX;simp only[Rk0,evs,b,Xg,ev,gZ0,aa];simp only[Vh]
   refine no ?_ (by simp only[X4,decide_eq_false h6,Vbl]);have n:((6:Int)<(lf xs:Int)):=by omega
   simp only[ev,evs,gZ0,Rk0,k1,Vq,t,Xg,Ut,B,L,Xh,X5,n,decide_true]
  have hn:k≠.tuple:=λz=>by
   subst z;cases d with
   |tup xs=>exact ht ⟨xs,rfl⟩|ref m=>simp only[kdD]at J;split at J<;>cases J|_=>cases J
  have t:=Xhq hx hn;refine no ?_ (by cases d with
   |tup xs=>exact aB0 ⟨xs,rfl⟩ ht
   |_=>rfl)
  simp only[ev,gZ0,Rk0,J,Vq,t,Xg,Va1]
 obtain⟨X,h⟩:=U;exact⟨X,Yd (env:=[yz d]) rfl rfl h⟩
variable{S:Sto}
theorem Xm9{α:Type}(xs:List α)(n:Nat):cut xs (yz (n:Int)) yy=xs.drop n:=by
 have h1:Xdc (lf xs) 0 (yz (n:Int))=min n (lf xs):=by simp[Xdc]
 unfold cut;rw[h1];simp only[Xdc];have:xs.drop (min n (lf xs))=xs.drop n:=by
  by_cases c:n<=lf xs;·rw[Nat.min_eq_left c]
  ·rw[Nat.min_eq_right (by omega),List.drop_length,Vgb (by omega)]
 rw[this];exact Vct (by simp;omega)
noncomputable def npr(n:LL)(i:Nat):D:=.tup [Xa (n.getD i []),Xa (n.getD (i+1) [])]
theorem X6y(n:LL)(i:Nat)(S:Sto):(Src.zpp (.con (n.map Xa)) (.con ((n.drop 1).map Xa))).get S i=yz ((Vs (lf n-1)).map (npr n))[i]?:=by
 simp only[Src.get,Vx,List.getElem?_drop];by_cases h:i<lf n-1
 ·have h1:i<lf n:=by omega
  have h2:1+i<lf n:=by omega
  rw[Vdg h,Vk h1,Vk h2];simp only[V2,npr,U4,Vk h1,Nat.add_comm i 1,Vk h2,Vcw]
 have h2:n[1+i]?=none:=Vad (by omega);have B:(Vs (lf n-1))[i]?=none:=Vad (by simp;omega);rw[h2,B];cases n[i]?<;>rfl
noncomputable def rzB(n:LL):List Bool:=(Vs (lf n-1)).map λi=>ltL (n.getD i []) (n.getD (i+1) [])
theorem Xp2:∀n:LL,(rzB n).all id=rzL n
 |[]=>rfl|[a]=>rfl|a::b::r=>by have ih:=Xp2 (b::r);unfold rzB at ih ⊢;rw[rzL,<-ih];simp only[U1,Nat.add_sub_cancel,Vc9];rw[List.range_succ_eq_map,Vbe,Vc9];rfl
theorem Xxy(a b:LI)(S:Sto):Xh .lt (Xa a) (Xa b) S=.ok (.bl (ltL a b)) S:=by unfold Xa;simp only[Xh,X5,ltD,Xdf]
theorem Xxz{n:LL}(U:(lf n)<=1000)(S:Sto):ev F G Xht [yz (Xb n)] S=.ok (.ref (lf S)) (S++[.lst ((rzB n).map D.bl)]):=by
 have h1:Xa9 (Xb n) (yz 1) yy S=.ok (.tup ((n.drop 1).map Xa)) S:=by unfold Xb;simp only[Xa9];rw[show(yz (1:Int))=yz ((1:Nat):Int) from rfl,Xm9,List.map_drop]
 have B:evit F G (.zpp (.cons (.var 0) (.cons (.sli (.var 0) (.some (.cst (.int 1))) .none) .nil))) [yz (Xb n)] S=.ok (.zpp (.con (n.map Xa)) (.con ((n.drop 1).map Xa))) S:=by simp only[evit,evs,ev,evo,gZ0,gS0,Rk0,Xbz,h1];rfl
 obtain⟨L,S',h2,rfl,_⟩:=Xe3 (F:=F) (G:=G) (t:=.tup [2,3]) (n:=3) (elt:=.cmp .lt (.var 2) (.var 3)) ((Vs (lf n-1)).map (npr n)) (λi=>.bl (ltL (n.getD i []) (n.getD (i+1) [])))
  (λi e S'=>S'=S/\∃x y,e=[yz (Xb n),yy,x,y]) B (by simp[Src.most]) (X8 (by simp;omega)) ⟨rfl,yy,yy,rfl⟩
  (λi e S' J=>by obtain⟨rfl,_⟩:=J;exact X6y n i S')
  (λi d e S' hd J=>by
   obtain⟨rfl,x,y,rfl⟩:=J;have hi:i<lf n-1:=by have:=(Vi.mp hd).1;simpa using this
   simp only[Vx,Vdg hi,V2,Vv]at hd;subst hd;exact⟨[yz (Xb n),yy,yz (Xa (n.getD i [])),yz (Xa (n.getD (i+1) []))],_,rfl,by simp only[ev,gZ0,gS0,Rk0,Xxy],rfl,_,_,rfl⟩)
 unfold Xht rzB;rw[h2];simp[Vhp]
theorem Xua{n:LL}(B:(lf n)<=1000)(S:Sto):∃X,den F G Xhu [Xb n] S=.ok (.bl (rzL n)) (S++X):=by refine⟨[.lst ((rzB n).map D.bl)],Yd (env:=[yz (Xb n)]) rfl rfl ?_⟩;refine Xi ?_;rw[exe,ev,evs,Xxz B S];simp only[Rk0,evs,Xbd,Xp2]
theorem Xx0{J:Nat}{n:LL}{f:LI}(L:∀(a b:LI) S,F J [Xa a,Xa b] S=.ok (.bl (lie a b)) S)(hl:(lf n)<=1000)(S:Sto):
  ∃X,den F G (Xxt J) [Xa f,Xb n] S=.ok (.bl (n.any λt=>lie f t && !decide (f=t))) (S++X):=by
 have B:=Xcw (F:=F) (G:=G) (n:=2) (t:=.var 3) (it:=.val (.var 1)) (ifs:=.nil) (elt:=.and (.call J (.cons (.var 0) (.cons (.var 3) .nil))) (.cmp .ne (.var 0) (.var 3))) (env:=[yz (Xa f),yz (Xb n)]) (S0:=S) (S:=S) (src:=.con (n.map Xa)) (n.map Xa) (λ_=>yx) (λd=>.bl (lie f (Xo d) && !decide (f=Xo d)))
  (λe=>∃x y,e=[yz (Xa f),yz (Xb n),x,y]) (Yy (by simp only[ev,gZ0,gS0];rfl)) rfl (λi=>rfl) (by rw[Ve];exact X8 hl) ⟨yy,yy,rfl⟩
  (λd hd e U=>by
   obtain⟨x,y,rfl⟩:=U;obtain⟨s,hs,rfl⟩:=V0.mp hd;refine⟨[yz (Xa f),yz (Xb n),x,yz (Xa s)],rfl,⟨_,_,rfl⟩,rfl,λ_=>?_⟩;simp only[ev,evs,gZ0,gS0,Rk0,L,ints_of,Xg];cases lie f s with
   |false=>rfl
   |true=>simp only[Xpw,Vbc])
 have Y:((n.map Xa).filter λ_=>yx).map (λd=>D.bl (lie f (Xo d) && !decide (f=Xo d)))=(n.map λt=>lie f t && !decide (f=t)).map D.bl:=by rw[Vcq.mpr λ_ _=>rfl,Vai,Vai];exact Vdi λt _=>by simp only[Vdd,ints_of]
 rw[Y]at B;refine⟨[.lst ((n.map λt=>lie f t && !decide (f=t)).map D.bl)],Yd (env:=[yz (Xa f),yz (Xb n)]) rfl rfl (Xi ?_)⟩;rw[exe,ev,evs,B];simp only[Rk0,evs,Xjf,List.any_map];rfl
theorem Xx1{J:Nat}{n:LL}(L:∀(f:LI) S,∃X,F J [Xa f,Xb n] S=.ok (.bl (n.any λt=>lie f t && !decide (f=t))) (S++X))(hl:(lf n)<=1000)(S:Sto):
  ∃X,den F G (Xxu J) [Xb n] S=.ok (.bl (Xed n)) (S++X):=by
 obtain⟨X,B⟩:=Xfy (F:=F) (G:=G) (n:=2) (t:=.var 2) (it:=.val (.var 0)) (ifs:=.nil) (elt:=.call J (.cons (.var 2) (.cons (.var 0) .nil))) (env:=[yz (Xb n)]) (S:=S) (xs:=n.map Xa) (λ_=>yx) (λd=>.bl (n.any λt=>lie (Xo d) t && !decide (Xo d=t)))
  (λe=>∃x y,e=[yz (Xb n),x,y]) (Yy (by simp only[ev,gZ0];rfl)) (by rw[Ve];exact X8 hl) ⟨yy,yy,rfl⟩
  (λd hd e X U=>by
   obtain⟨x,y,rfl⟩:=U;obtain⟨s,hs,rfl⟩:=V0.mp hd;refine⟨[yz (Xb n),x,yz (Xa s)],X,rfl,⟨_,_,rfl⟩,rfl,λ_=>?_⟩
   obtain⟨Y,hY⟩:=L s (S++X);refine⟨X++Y,?_⟩;simp only[ev,evs,gZ0,gS0,Rk0,hY,ints_of,Vh])
 have e1:((n.map Xa).filter λ_=>yx).map (λd=>D.bl (n.any λt=>lie (Xo d) t && !decide (Xo d=t)))=(n.map λs=>n.any λt=>lie s t && !decide (s=t)).map D.bl:=by rw[Vcq.mpr λ_ _=>rfl,Vai,Vai];exact Vdi λt _=>by simp only[Vdd,ints_of]
 rw[e1]at B;refine⟨X++[.lst ((n.map λs=>n.any λt=>lie s t && !decide (s=t)).map D.bl)],Yd (env:=[yz (Xb n)]) rfl rfl (Xi ?_)⟩;rw[exe,ev,evs,B];simp only[Rk0,evs,Xjf,List.any_map];rw[Vh];rfl
end
noncomputable def Xn(d:D):Bool:=match d with
 |.tup xs=>decide (1<=lf xs)&&decide (lf xs<=60)&&(xs.all X4&&(rzL (xs.map Xo) && !Xed (xs.map Xo)))|_=>yw
theorem Xc6:∀ {xs:LD},(xs.all X4)=yx->∃n:LL,xs=n.map Xa/\n=xs.map Xo/\∀s∈n,lf s<=6/\Xg5 s=yx
 |[],_=>⟨[],rfl,rfl,λs hs=>by cases hs⟩|x::xs,h=>by
  rw[Vbe,bA0]at h;obtain⟨n,Y,J,B⟩:=Xc6 h.2;obtain⟨l,rfl,L,U⟩:=Xkl h.1;refine⟨l::n,by rw[Y];rfl,by rw[Ux,ints_of,<-J],λs hs=>?_⟩;rcases Vn.mp hs with rfl|hs;·exact⟨L,U⟩
  ·exact B s hs
section
variable{F:Fn}{G:LD}
theorem Xau{c:Ex}{r:Sts}{env:En}{S S1:Sto}(h:ev F G c env S=.ok (.bl yx) S1):pc F G (.cons (.ite c (.cons (.ret (.cst (.bl yw))) .nil) .nil) r) env S=.ok (.rt (.bl yw)) S1:=by refine Xi ?_;rw[exe,h,Rk0];simp only[Xg,pc,exe,ev,Rk0]
theorem Xna{S:Sto}{d:D}{k:Kd}(B:kdD S d=yz k)(J:¬ ∃xs,d=.tup xs):k≠.tuple:=λz=>by
 subst z;cases d with
 |tup xs=>exact J ⟨xs,rfl⟩|ref m=>simp only[kdD]at B;split at B<;>cases B|_=>cases B
theorem X2i{i6:Nat}{xs:LD}{S:Sto}(hl:(lf xs)<=1000)(L:∀x∈xs,∀X,∃Y,F i6 [x] (S++X)=.ok (.bl (X4 x)) (S++X++Y)):
  ∃X,ev F G (.blt .all (.cons (Xrj i6) .nil)) [yz (.tup xs)] S=.ok (.bl (xs.all X4)) (S++X):=by
 obtain⟨X,B⟩:=Xfy (F:=F) (G:=G) (n:=2) (t:=.var 2) (it:=.val (.var 0)) (ifs:=.nil) (elt:=.call i6 (.cons (.var 2) .nil)) (env:=[yz (.tup xs)]) (S:=S) (xs:=xs) (λ_=>yx) (λd=>.bl (X4 d))
  (λe=>∃x y,e=[yz (.tup xs),x,y]) (Yy (by simp only[ev,gZ0])) (X8 hl) ⟨yy,yy,rfl⟩
  (λd hd e X U=>by
   obtain⟨x,y,rfl⟩:=U;refine⟨[yz (.tup xs),x,yz d],X,rfl,⟨_,_,rfl⟩,rfl,λ_=>?_⟩
   obtain⟨Y,hY⟩:=L d hd X;refine⟨X++Y,?_⟩;simp only[ev,evs,gZ0,gS0,Rk0,hY,Vh])
 have e1:(xs.filter λ_=>yx).map (λd=>D.bl (X4 d))=(xs.map X4).map D.bl:=by rw[Vcq.mpr λ_ _=>rfl,Vai];rfl
 rw[e1]at B;refine⟨X++[.lst ((xs.map X4).map D.bl)],?_⟩;have J:ev F G (Xrj i6) [yz (.tup xs)] S=_:=B;rw[ev,evs,J];simp only[Rk0,evs,Xbd,Vc9];rw[Vh];rfl
theorem X2j{i6 i2 i7:Nat}{d:D}{S:Sto}(hG:G[2]?=yz (.int 60))(gd:good S d)(h6:∀xs,d=.tup xs->∀x∈xs,∀X,∃Y,F i6 [x] (S++X)=.ok (.bl (X4 x)) (S++X++Y))
  (h2:∀(n:LL) S,lf n<=60->∃X,F i2 [Xb n] S=.ok (.bl (rzL n)) (S++X)) (h7:∀(n:LL) S,lf n<=60->∃X,F i7 [Xb n] S=.ok (.bl (Xed n)) (S++X)):
  ∃X,den F G (Xrk i6 i2 i7) [d] S=.ok (.bl (Xn d)) (S++X):=by
 have J:∃X,pc F G (Xrk i6 i2 i7).body [yz d] S=.ok (.rt (.bl (Xn d))) (S++X):=by
  obtain⟨k,hk,hx⟩:=gd;by_cases ht:∃xs,d=.tup xs
  ·obtain⟨xs,rfl⟩:=ht;have k1:kdD S (.tup xs)=yz .tuple:=rfl;have t:Yb .tuple [.tuple]=yz true:=rfl;have c:=Xtx (F:=F) (G:=G) (a:=.cst (.int 1)) (c:=.glb 2) (n:=lf xs) (lo:=1) (hi:=60) (d:=.tup xs) (env:=[yz (.tup xs)]) (S:=S) (S':=S) rfl rfl (by simp only[ev]) (by simp only[ev,hG]);have e1:decide ((1:Int)<=(lf xs:Int))=decide (1<=lf xs):=by congr 1;apply propext;omega
   have e2:decide ((lf xs:Int)<=60)=decide (lf xs<=60):=by congr 1;apply propext;omega
   rw[e1,e2]at c;have c0:ev F G (.or (.not (.isi (.var 0) [.tuple])) (.not (.chn .le .le (.cst (.int 1)) (.blt .len (.cons (.var 0) .nil)) (.glb 2)))) [yz (.tup xs)] S=.ok (.bl (!(decide (1<=lf xs)&&decide (lf xs<=60)))) S:=by
    have a:ev F G (.not (.isi (.var 0) [.tuple])) [yz (.tup xs)] S=.ok (.bl yw) S:=by simp only[ev,gZ0,Rk0,k1,Vq,t,Xg,Ut]
    have b:ev F G (.not (.chn .le .le (.cst (.int 1)) (.blt .len (.cons (.var 0) .nil)) (.glb 2))) [yz (.tup xs)] S=.ok (.bl (!(decide (1<=lf xs)&&decide (lf xs<=60)))) S:=by rw[ev,c,Rk0];simp only[Xg]
    rw[ev,a,Rk0];simp only[Xg];exact b
   cases B:(decide (1<=lf xs)&&decide (lf xs<=60)) with
   |false=>
    rw[B]at c0;have f:Xn (.tup xs)=false:=by simp only[Xn,B,Vbl]
    refine⟨[],?_⟩;rw[f,V3];exact Xau c0|true=>
    rw[B]at c0;have hl:(lf xs)<=60:=by rw[bA0,decide_eq_true_eq,decide_eq_true_eq]at B;exact B.2
    have s1:exe F G X6u [yz (.tup xs)] S=.ok (.nx [yz (.tup xs)]) S:=Xq c0;obtain⟨X,a⟩:=X2i (F:=F) (G:=G) (i6:=i6) (S:=S) (show (lf xs)<=1000 by omega) (h6 xs rfl);have L:ev F G (.not (.blt .all (.cons (Xrj i6) .nil))) [yz (.tup xs)] S=.ok (.bl (!xs.all X4)) (S++X):=by rw[ev,a,Rk0];simp only[Xg]
    cases e:xs.all X4 with
    |false=>
     rw[e]at L;have f:Xn (.tup xs)=false:=by simp only[Xn,e,Vbl,Vcf]
     refine⟨X,?_⟩;rw[f];exact(Xd s1).trans (Xau L)|true=>
     rw[e]at L;obtain⟨n,n1,n2,_⟩:=Xc6 e;have ln:(lf n)<=60:=by rw[n2,Ve];exact hl
     have s2:exe F G (X6v i6) [yz (.tup xs)] S=.ok (.nx [yz (.tup xs)]) (S++X):=Xq L;obtain⟨Y,U⟩:=h2 n (S++X) ln;obtain⟨Z',z1⟩:=h7 n (S++X++Y) ln;have dn:D.tup xs=Xb n:=by rw[n1];rfl
     have f:Xn (.tup xs)=(rzL n && !Xed n):=by simp only[Xn,B,e,Vbc,n2]
     rw[f];cases er:rzL n with
     |false=>refine⟨X++Y,?_⟩;refine(Xd s1).trans ((Xd s2).trans (Xi ?_));rw[er]at U;simp only[exe,ev,evs,gZ0,Rk0,dn,U,Xg,Vh,Vbl]|true=>refine⟨X++Y++Z',?_⟩;refine(Xd s1).trans ((Xd s2).trans (Xi ?_));rw[er]at U;simp only[exe,ev,evs,gZ0,Rk0,dn,U,z1,Xg,Vbc];simp only[Vh]
  have hn:=Xna hk ht;have t:=Xhq hx hn;have f:Xn d=false:=by
   cases d with
   |tup xs=>exact aB0 ⟨xs,rfl⟩ ht|_=>rfl
  refine⟨[],?_⟩;rw[f,V3];refine Xau ?_;simp only[ev,gZ0,Rk0,hk,Vq,t,Xg,Va1]
 obtain⟨X,h⟩:=J;exact⟨X,Yd (env:=[yz d]) rfl rfl h⟩
variable{S:Sto}
theorem Xp3{n:Nat}{l:LI}(h:Xc S n=yz (l.map D.int)):Yc S (.ref n)=yz (.list (l.map Vas)):=by have B:S[n]?=yz (.lst (l.map D.int)):=Xbq h;simp only[Yc,X0,Ye,B,Xja,V2]
theorem X2k{p q:Nat}{l w:LI}(h1:Xc S p=yz (l.map D.int))(h2:Xc S q=yz (w.map D.int)):Xh .eq (.ref p) (.ref q) S=.ok (.bl (decide (l=w))) S:=by
 have J:=Xp3 h1;have L:=Xp3 h2;have b:∀l:LI,(Vb4 (l.map Vas)).canLay0=true:=λl=>by simp only[Vci,Xjb]
 have c:(Vb4 (l.map Vas)).depth<=60:=by simp only[Vat,Xrg];omega
 have e:Vaz (.list (l.map Vas)) (.list (w.map Vas))=decide (l=w):=by simp only[Vaz,Xc5]
 have hs:Xbf (.ref p) (.ref q)=none:=rfl;have B:eqD S (.ref p) (.ref q)=yz (decide (l=w)):=by simp only[eqD,hs,J,L,b,e,decide_eq_true c,Vcd,if_true]
 simp only[Xh,X5,B]
noncomputable def lfA(i15:Nat):Ex:=.blt .all (.cons (.cmr yw 2 (.cons (.var 2) (.val (.var 0)) .nil .nil) (.call i15 (.cons (.var 2) .nil))) .nil)
noncomputable def lfR:Ex:=.cmr yw 2 (.cons (.var 2) (.rng (.cons (.cst (.int 16)) .nil)) (.cons (.cmp .isin (.var 2) (.var 0)) .nil) .nil) (.var 2)
noncomputable def Xhw(i15:Nat):Df:=⟨1,1,.cons (.ite (.or (.not (.isi (.var 0) [.tuple])) (.or (.cmp .gt (.blt .len (.cons (.var 0) .nil)) (.cst (.int 6))) (.not (lfA i15)))) (.cons (.ret (.cst (.bl yw))) .nil) .nil) (.cons (.ret (.cmp .eq lfR (.blt .list (.cons (.var 0) .nil)))) .nil)⟩
theorem X6z{i15:Nat}{xs:LD}(hw:Xdt F i15)(U:(lf xs)<=1000)(hg:∀x∈xs,good S x):ev F G (lfA i15) [yz (.tup xs)] S=.ok (.bl (xs.all wh)) (S++[.lst ((xs.map wh).map D.bl)]):=by
 have B:=Xcw (F:=F) (G:=G) (n:=2) (t:=.var 2) (it:=.val (.var 0)) (ifs:=.nil) (elt:=.call i15 (.cons (.var 2) .nil)) (env:=[yz (.tup xs)]) (S0:=S) (S:=S) (src:=.con xs) xs (λ_=>yx) (λd=>.bl (wh d))
  (λe=>∃x y,e=[yz (.tup xs),x,y]) (Yy (by simp only[ev,gZ0])) rfl (λi=>rfl) (X8 U) ⟨yy,yy,rfl⟩
  (λd hd e J=>by
   obtain⟨x,y,rfl⟩:=J;refine⟨[yz (.tup xs),x,yz d],rfl,⟨_,_,rfl⟩,rfl,λ_=>?_⟩
   simp only[ev,evs,gZ0,gS0,Rk0,hw d S (hg d hd)])
 have L:(xs.filter λ_=>yx).map (λd=>D.bl (wh d))=(xs.map wh).map D.bl:=by rw[Vcq.mpr λ_ _=>rfl,Vai];rfl
 rw[L]at B;unfold lfA;rw[ev,evs,B];simp only[Rk0,evs,Xbd,Vc9];rfl
theorem X60{l:LI}(S:Sto):ev F G lfR [yz (Xa l)] S=.ok (.ref (lf S)) (S++[.lst ((((Vs 16).map Vbr).filter λp=>decide (p∈l)).map D.int)]):=by
 have L:Yu [.int (16:Int)]=yz (((Vs 16).map Vbr).map D.int):=by rfl
 have B:=Xcw (F:=F) (G:=G) (n:=2) (t:=.var 2) (it:=.rng (.cons (.cst (.int 16)) .nil)) (ifs:=.cons (.cmp .isin (.var 2) (.var 0)) .nil) (elt:=.var 2) (env:=[yz (Xa l)]) (S0:=S) (S:=S) (src:=.con (((Vs 16).map Vbr).map D.int)) (((Vs 16).map Vbr).map D.int) (λd=>match d with|.int i=>decide (i∈l)|_=>yw) id
  (λe=>∃x y,e=[yz (Xa l),x,y]) (Xtr (by simp only[evs,ev,Rk0]) L) rfl (λi=>rfl) (X8 (by decide)) ⟨yy,yy,rfl⟩
  (λd hd e J=>by
   obtain⟨x,y,rfl⟩:=J;obtain⟨i,hi,rfl⟩:=V0.mp hd;refine⟨[yz (Xa l),x,yz (.int i)],rfl,⟨_,_,rfl⟩,?_,λ_=>rfl⟩
   simp only[evts,ev,gZ0,gS0,Rk0,Xh,X5,Xje,Xg];cases decide (i∈l)<;>rfl)
 unfold lfR;rw[B,List.map_id,Vfd];rfl
theorem Xub{i15:Nat}{d:D}(hw:Xdt F i15)(gd:good S d)(el:∀xs,d=.tup xs->∀x∈xs,good S x):∃X,den F G (Xhw i15) [d] S=.ok (.bl (X4 d)) (S++X):=by
 have J:∃X,pc F G (Xhw i15).body [yz d] S=.ok (.rt (.bl (X4 d))) (S++X):=by
  obtain⟨k,Y,hx⟩:=gd;by_cases U:∃xs,d=.tup xs
  ·obtain⟨xs,rfl⟩:=U;have k1:kdD S (.tup xs)=yz .tuple:=rfl;have t:Yb .tuple [.tuple]=yz true:=rfl;have B:Xk .len [.tup xs] S=.ok (.int (lf xs)) S:=rfl;have a:ev F G (.not (.isi (.var 0) [.tuple])) [yz (.tup xs)] S=.ok (.bl yw) S:=by
    simp only[ev,gZ0,Rk0,k1,Vq,t,Xg,Ut]
   have g:ev F G (.cmp .gt (.blt .len (.cons (.var 0) .nil)) (.cst (.int 6))) [yz (.tup xs)] S=.ok (.bl (decide ((6:Int)<lf xs))) S:=by simp only[ev,evs,gZ0,Rk0,B,Xh,X5]
   by_cases h6:(lf xs)<=6
   ·rw[decide_eq_false (show ¬ ((6:Int)<(lf xs:Int)) by omega)]at g;have b:=X6z (F:=F) (G:=G) (i15:=i15) (S:=S) hw (show (lf xs)<=1000 by omega) (el xs rfl);have c:ev F G (.or (.not (.isi (.var 0) [.tuple])) (.or (.cmp .gt (.blt .len (.cons (.var 0) .nil)) (.cst (.int 6))) (.not (lfA i15)))) [yz (.tup xs)] S=.ok (.bl (!xs.all wh)) (S++[.lst ((xs.map wh).map D.bl)]):=by
     rw[ev,a,Rk0];simp only[Xg];rw[ev,g,Rk0];simp only[Xg];rw[ev,b,Rk0];simp only[Xg]
    cases e:xs.all wh with
    |false=>
     rw[e]at c;have f:X4 (.tup xs)=false:=by
      cases z:X4 (.tup xs) with
      |false=>rfl|true=>obtain⟨l,q,_⟩:=Xkl z;cases q;rw[X6j]at e;cases e
     refine⟨[.lst ((xs.map wh).map D.bl)],?_⟩;rw[f];exact Xau c|true=>
     rw[e]at c;obtain⟨l,rfl⟩:=Xpu e;have r:=X60 (F:=F) (G:=G) (l:=l) (S++[.lst (((l.map D.int).map wh).map D.bl)]);have f:X4 (.tup (l.map D.int))=decide (((Vs 16).map Vbr).filter (λp=>decide (p∈l))=l):=by have:=Xm8 l;rw[decide_eq_true (by simpa using h6),Vbc]at this;show X4 (Xa l)=_;rw[this,Vfc,decide_eq_true_eq];exact(X2f l).symm
     refine⟨[.lst (((l.map D.int).map wh).map D.bl)]++[.lst ((((Vs 16).map Vbr).filter λp=>decide (p∈l)).map D.int)]++[.lst (l.map D.int)],?_⟩;rw[f];refine(Xd (Xq c)).trans (Xi ?_);have r':ev F G lfR [yz (D.tup (l.map D.int))] (S++[.lst (((l.map D.int).map wh).map D.bl)])=_:=r;rw[exe,ev,r',Rk0];generalize L:S++[O.lst (((l.map D.int).map wh).map D.bl)]=S1;generalize aa:((Vs 16).map Vbr).filter (λp=>decide (p∈l))=w;have b2:ev F G (.blt .list (.cons (.var 0) .nil)) [yz (D.tup (l.map D.int))] (S1++[.lst (w.map D.int)])=.ok (.ref (S1++[O.lst (w.map D.int)]).length) (S1++[.lst (w.map D.int)]++[.lst (l.map D.int)]):=by simp only[ev,evs,gZ0,Rk0,Xk,Xw]
     rw[b2,Rk0,X2k (l:=w) (w:=l) (Xl Xf) Xf];rw[<-L];simp only[Rk0,Vh]
   rw[decide_eq_true (show((6:Int)<(lf xs:Int)) by omega)]at g;have f:X4 (.tup xs)=false:=by simp only[X4,decide_eq_false h6,Vbl]
   refine⟨[],?_⟩;rw[f,V3];refine Xau ?_;rw[ev,a,Rk0];simp only[Xg];rw[ev,g,Rk0];simp only[Xg]
  have t:=Xhq hx (Xna Y U);have f:X4 d=false:=by
   cases d with
   |tup xs=>exact aB0 ⟨xs,rfl⟩ U|_=>rfl
  refine⟨[],?_⟩;rw[f,V3];refine Xau ?_;simp only[ev,gZ0,Rk0,Y,Vq,t,Xg,Va1]
 obtain⟨X,h⟩:=J;exact⟨X,Yd (env:=[yz d]) rfl rfl h⟩
theorem X61:∀n m:LL,Vce (n.map Xaf) (m.map Xaf)=decide (n=m)
 |[],[]=>by simp[Vce]|[],_::_=>by simp[Vce]|_::_,[]=>by simp[Vce]|x::n,y::m=>by
  have ih:=X61 n m;have e:Vaz (Xaf x) (Xaf y)=decide (x=y):=by simp only[Xaf,Vaz,Xc5]
  simp only[Uw,Vce,e,ih];by_cases c:x=y;·simp[c]
  ·simp[c]
theorem Xnb{q:Nat}{n:LL}(h:Xc S q=yz (n.map Xa)):Yc S (.ref q)=yz (.list (n.map Xaf)):=by have B:S[q]?=yz (.lst (n.map Xa)):=Xbq h;simp only[Yc,X0,Ye,B,X6r,V2]
theorem X62:∀n:LL,Vbq (n.map Xaf)<=1
 |[]=>by simp[Vbq]|x::n=>by
  have ih:=X62 n;have e:(Xaf x).depth=1:=by simp only[Xaf,Vat,Xrg]
  simp only[Uw,Vbq,e];omega
theorem Xx2{p q:Nat}{n m:LL}(h1:Xc S p=yz (n.map Xa))(h2:Xc S q=yz (m.map Xa)):Xh .ne (.ref p) (.ref q) S=.ok (.bl (!decide (n=m))) S:=by
 have J:=Xnb h1;have L:=Xnb h2;have b:∀n:LL,(Vb4 (n.map Xaf)).canLay0=true:=λn=>by simp only[Vci];exact X6s n
 have c:(Vb4 (n.map Xaf)).depth<=60:=by have:=X62 n;simp only[Vat];omega
 have e:Vaz (.list (n.map Xaf)) (.list (m.map Xaf))=decide (n=m):=by simp only[Vaz,X61]
 have hs:Xbf (.ref p) (.ref q)=none:=rfl;have B:eqD S (.ref p) (.ref q)=yz (decide (n=m)):=by simp only[eqD,hs,J,L,b,e,decide_eq_true c,Vcd,if_true]
 simp only[Xh,X5,B,V2]
theorem Xcb:∀(l acc:LL),(l.foldl ddR acc).length<=lf acc+lf l
 |[]=>λacc=>Vm _|k::l=>λacc=>by refine Uv (Xcb l (ddR acc k)) ?_;unfold ddR;split<;>simp<;>omega
theorem X2l{n:LL}(Y:n≠[])(hl:(lf n)<=60){env:En}{e:Ex}(U:ev F G e env S=.ok (Xb n) S):ev F G (.sst e) env S=.ok (.ref (lf S)) (S++[.lst ((Yr (ddL n)).map Xa)]):=by
 cases n with
 |nil=>cases Y rfl|cons a r=>
  have B:Yg ((a::r).map Xa)=yz (a::r):=Xgt (a::r);have L:Xm ((a::r).map Xa)=none:=rfl;have J:(ddL (a::r)).length<61:=by have:=Xcb (a::r) [];unfold ddL;simp only[Vc8,Vfi]at this;omega
  rw[ev,U,Rk0];unfold Xb;dsimp only;rw[B];simp only[Xac,L,B,J,if_true];rfl
variable{t:Tg}
theorem Xnc{xs:LD}{body:En->Sto->R Fl}(b:D->Bool)(P:En->Prop)
  (step:∀d∈xs,∀e X,P e->∃L U,Xu t d e=yz L/\P L/\body L (S++X)=.ok (if b d then .nx L else .rt (.bl yw)) (S++U)):
  ∀(B i:Nat) (e:En) (X:Sto),P e->i<=lf xs->lf xs<B+i ->
   ((xs.drop i).all b=yx->∃e' X',P e'/\X9 (Src.con xs).get t body B i e (S++X)=.ok (.nx e') (S++X'))/\((xs.drop i).all b=yw->∃X',X9 (Src.con xs).get t body B i e (S++X)=.ok (.rt (.bl yw)) (S++X'))
 |0=>λi e X h h1 h2=>by omega|B+1=>λi e X h h1 h2=>by
  have J:∀S,(Src.con xs).get S i=yz xs[i]?:=λ_=>rfl;cases q:xs[i]? with
  |none=>have hi:xs.drop i=[]:=Vgb (Ui.mp q);rw[hi];refine⟨λ_=>⟨e,X,h,?_⟩,λz=>by cases z⟩;simp only[X9,J,q]|some d=>
   have hi:i<lf xs:=(Vi.mp q).1;have hd:xs.drop i=d::xs.drop (i+1):=by rw[Vfe hi];rw[Vk hi]at q;cases q;rfl
   obtain⟨L,U,a1,a2,Y⟩:=step d (V6 q) e X h;rw[hd,Vbe];cases c:b d with
   |true=>rw[c]at Y;obtain⟨aa,ab⟩:=Xnc b P step B (i+1) L U a2 (by omega) (by omega);rw[Vbc];simp only[X9,J,q,a1,Y,if_true];exact⟨aa,ab⟩|false=>rw[c]at Y;rw[Vbl];refine⟨(λz=>by cases z),λ_=>⟨U,?_⟩⟩;simp only[X9,J,q,a1,Y,Vp,if_false]
noncomputable def cnE(i17:Nat):Ex:=.cmr yw 2 (.cons (.var 3) (.val (.var 0)) (.cons (.call i17 (.cons (.var 1) (.cons (.var 3) .nil))) .nil) .nil) (.var 3)
noncomputable def lnB(i17:Nat):Sts:=.cons (.ite (.cmp .ne (.blt .len (.cons (cnE i17) .nil)) (.cst (.int 1))) (.cons (.ret (.cst (.bl yw))) .nil) .nil) .nil
theorem X63{i17:Nat}{n:LL}{s:LI}(hl:(lf n)<=60)(J:∀(t:LI) S,∃X,F i17 [Xa s,Xa t] S=.ok (.bl (lie s t)) (S++X))(S:Sto):
  ∃X,ev F G (cnE i17) [yz (Xb n),yz (Xa s)] S=.ok (.ref (S++X).length) (S++X++[.lst ((n.filter λt=>lie s t).map Xa)]):=by
 obtain⟨X,B⟩:=Xfy (F:=F) (G:=G) (n:=2) (t:=.var 3) (it:=.val (.var 0)) (ifs:=.cons (.call i17 (.cons (.var 1) (.cons (.var 3) .nil))) .nil) (elt:=.var 3) (env:=[yz (Xb n),yz (Xa s)]) (S:=S) (xs:=n.map Xa) (λd=>lie s (Xo d)) id
  (λe=>∃x y,e=[yz (Xb n),yz (Xa s),x,y]) (Yy (by simp only[ev,gZ0];rfl)) (by rw[Ve];exact X8 (by omega)) ⟨yy,yy,rfl⟩
  (λd hd e X L=>by
   obtain⟨x,y,rfl⟩:=L;obtain⟨t,ht,rfl⟩:=V0.mp hd;obtain⟨Y,hY⟩:=J t (S++X);refine⟨[yz (Xb n),yz (Xa s),x,yz (Xa t)],X++Y,rfl,⟨_,_,rfl⟩,?_,λ_=>⟨X++Y,rfl⟩⟩
   simp only[evts,ev,evs,gZ0,gS0,Rk0,hY,Xg,ints_of];cases lie s t<;>simp only[Vh]<;>rfl)
 have U:((n.map Xa).filter λd=>lie s (Xo d)).map id=(n.filter λt=>lie s t).map Xa:=by rw[List.map_id,Vfd];congr 1;exact List.filter_congr λt _=>by simp only[Vdd,ints_of]
 rw[U]at B;exact⟨X,B⟩
theorem X64{i17:Nat}{n:LL}{s:LI}(J:(lf n)<=60)(B:∀(t:LI) S,∃X,F i17 [Xa s,Xa t] S=.ok (.bl (lie s t)) (S++X))(S:Sto):
  ∃X,pc F G (lnB i17) [yz (Xb n),yz (Xa s)] S=.ok (if decide ((n.filter λt=>lie s t).length=1) then .nx [yz (Xb n),yz (Xa s)] else .rt (.bl yw)) (S++X):=by
 obtain⟨X,c⟩:=X63 (F:=F) (G:=G) J B S;refine⟨X++[.lst ((n.filter λt=>lie s t).map Xa)],?_⟩;have k:Xk .len [.ref (S++X).length] (S++X++[.lst ((n.filter λt=>lie s t).map Xa)])=.ok (.int ((n.filter λt=>lie s t).length:Nat)) (S++X++[.lst ((n.filter λt=>lie s t).map Xa)]):=by rw[Xjc Xf,Ve]
 have b:ev F G (.cmp .ne (.blt .len (.cons (cnE i17) .nil)) (.cst (.int 1))) [yz (Xb n),yz (Xa s)] S=.ok (.bl (!decide ((n.filter λt=>lie s t).length=1))) (S++X++[.lst ((n.filter λt=>lie s t).map Xa)]):=by
  have e:(!(((n.filter λt=>lie s t).length:Nat):Int)==1) = !decide ((n.filter λt=>lie s t).length=1):=by congr 1;rw[Vfc,beq_iff_eq,decide_eq_true_eq];omega
  rw[ev,ev,evs,c];simp only[Rk0,evs,k,ev,X6d];rw[show(!((((n.filter λt=>lie s t).length:Nat):Int)==1)) = !decide ((n.filter λt=>lie s t).length=1) from e]
 unfold lnB;cases z:decide ((n.filter λt=>lie s t).length=1) with
 |true=>rw[z]at b;rw[<-Vh];refine(Xd (Xq b)).trans ?_;simp only[pc,if_true]|false=>rw[z]at b;rw[<-Vh];simp only[Vp,if_false];exact Xau b
noncomputable def lnA(i20:Nat):Ex:=.blt .all (.cons (.cmr yw 2 (.cons (.var 3) (.val (.var 0)) .nil .nil) (.call i20 (.cons (.var 3) .nil))) .nil)
noncomputable def lnC(i20:Nat):Ex:=.or (.not (.isi (.var 0) [.tuple])) (.or (.not (.chn .le .le (.cst (.int 1)) (.blt .len (.cons (.var 0) .nil)) (.cst (.int 60)))) (.not (lnA i20)))
noncomputable def ln2:St:=.ite (.cmp .ne (.sst (.var 0)) (.blt .list (.cons (.var 0) .nil))) (.cons (.ret (.cst (.bl yw))) .nil) .nil
noncomputable def ln3(i17:Nat):St:=.for (.var 1) (.val (.var 0)) (lnB i17)
noncomputable def Xk2(i20 i17:Nat):Df:=⟨1,2,.cons (.ite (lnC i20) (.cons (.ret (.cst (.bl yw))) .nil) .nil) (.cons ln2 (.cons (ln3 i17) (.cons (.ret (.cst (.bl yx))) .nil)))⟩
theorem X65{i20:Nat}{xs:LD}(hl:(lf xs)<=1000)(J:∀x∈xs,∀X,∃Y,F i20 [x] (S++X)=.ok (.bl (X4 x)) (S++X++Y)):
  ∃X,ev F G (lnA i20) [yz (.tup xs),yy] S=.ok (.bl (xs.all X4)) (S++X):=by
 obtain⟨X,B⟩:=Xfy (F:=F) (G:=G) (n:=2) (t:=.var 3) (it:=.val (.var 0)) (ifs:=.nil) (elt:=.call i20 (.cons (.var 3) .nil)) (env:=[yz (.tup xs),yy]) (S:=S) (xs:=xs) (λ_=>yx) (λd=>.bl (X4 d))
  (λe=>∃x y,e=[yz (.tup xs),yy,x,y]) (Yy (by simp only[ev,gZ0])) (X8 hl) ⟨yy,yy,rfl⟩
  (λd hd e X L=>by
   obtain⟨x,y,rfl⟩:=L;refine⟨[yz (.tup xs),yy,x,yz d],X,rfl,⟨_,_,rfl⟩,rfl,λ_=>?_⟩
   obtain⟨Y,hY⟩:=J d hd X;refine⟨X++Y,?_⟩;simp only[ev,evs,gZ0,gS0,Rk0,hY,Vh])
 have U:(xs.filter λ_=>yx).map (λd=>D.bl (X4 d))=(xs.map X4).map D.bl:=by rw[Vcq.mpr λ_ _=>rfl,Vai];rfl
 rw[U]at B;refine⟨X++[.lst ((xs.map X4).map D.bl)],?_⟩;unfold lnA;rw[ev,evs,B];simp only[Rk0,evs,Xbd,Vc9];rw[Vh];rfl
theorem Xx3{i20 i17:Nat}{d:D}(gd:good S d)(ae:∀xs,d=.tup xs->∀x∈xs,∀X,∃Y,F i20 [x] (S++X)=.ok (.bl (X4 x)) (S++X++Y))(ac:∀(s t:LI) S,lf s<=6->∃X,F i17 [Xa s,Xa t] S=.ok (.bl (lie s t)) (S++X)):
  ∃X,den F G (Xk2 i20 i17) [d] S=.ok (.bl (Xn d)) (S++X):=by
 have aa:∃X,pc F G (Xk2 i20 i17).body [yz d,yy] S=.ok (.rt (.bl (Xn d))) (S++X):=by
  obtain⟨k,hk,hx⟩:=gd;by_cases ht:∃xs,d=.tup xs
  ·obtain⟨xs,rfl⟩:=ht;have k1:kdD S (.tup xs)=yz .tuple:=rfl;have t:Yb .tuple [.tuple]=yz true:=rfl;have c:=Xtx (F:=F) (G:=G) (a:=.cst (.int 1)) (c:=.cst (.int 60)) (n:=lf xs) (lo:=1) (hi:=60) (d:=.tup xs) (env:=[yz (.tup xs),yy]) (S:=S) (S':=S) rfl rfl (by simp only[ev]) (by simp only[ev]);have e1:decide ((1:Int)<=(lf xs:Int))=decide (1<=lf xs):=by congr 1;apply propext;omega
   have e2:decide ((lf xs:Int)<=60)=decide (lf xs<=60):=by congr 1;apply propext;omega
   rw[e1,e2]at c;have a:ev F G (.not (.isi (.var 0) [.tuple])) [yz (.tup xs),yy] S=.ok (.bl yw) S:=by simp only[ev,gZ0,Rk0,k1,Vq,t,Xg,Ut]
   have b:ev F G (.not (.chn .le .le (.cst (.int 1)) (.blt .len (.cons (.var 0) .nil)) (.cst (.int 60)))) [yz (.tup xs),yy] S=.ok (.bl (!(decide (1<=lf xs)&&decide (lf xs<=60)))) S:=by rw[ev,c,Rk0];simp only[Xg]
   cases U:(decide (1<=lf xs)&&decide (lf xs<=60)) with
   |false=>
    rw[U]at b;have f:Xn (.tup xs)=false:=by simp only[Xn,U,Vbl]
    refine⟨[],?_⟩;rw[f,V3];refine Xau ?_;unfold lnC;rw[ev,a,Rk0];simp only[Xg];rw[ev,b,Rk0];simp only[Xg,Va1]|true=>
    rw[U]at b;have hl:1<=lf xs/\(lf xs)<=60:=by rw[bA0,decide_eq_true_eq,decide_eq_true_eq]at U;exact U
    obtain⟨X,q⟩:=X65 (F:=F) (G:=G) (i20:=i20) (S:=S) (show (lf xs)<=1000 by omega) (ae xs rfl);have c0:ev F G (lnC i20) [yz (.tup xs),yy] S=.ok (.bl (!xs.all X4)) (S++X):=by unfold lnC;rw[ev,a,Rk0];simp only[Xg];rw[ev,b,Rk0];simp only[Xg,Ut];rw[ev,q,Rk0];simp only[Xg]
    cases e:xs.all X4 with
    |false=>
     rw[e]at c0;have f:Xn (.tup xs)=false:=by simp only[Xn,e,Vbl,Vcf]
     refine⟨X,?_⟩;rw[f];exact Xau c0|true=>
     rw[e]at c0;obtain⟨n,n1,n2,n3⟩:=Xc6 e;have ln:(lf n)=lf xs:=by rw[n2,Ve]
     have dn:D.tup xs=Xb n:=by rw[n1];rfl
     have f:Xn (.tup xs)=(rzL n && !Xed n):=by simp only[Xn,U,e,Vbc,n2]
     rw[f];rw[dn]at c0 ⊢;have s2:=X2l (F:=F) (G:=G) (S:=S++X) (n:=n) (env:=[yz (Xb n),yy]) (e:=.var 0) (λz=>by rw[z]at ln;simp at ln;omega) (by omega) (by simp only[ev,gZ0]);have J:ev F G (.cmp .ne (.sst (.var 0)) (.blt .list (.cons (.var 0) .nil))) [yz (Xb n),yy] (S++X)=.ok (.bl (!decide (Yr (ddL n)=n))) (S++X++[.lst ((Yr (ddL n)).map Xa)]++[.lst (n.map Xa)]):=by
      have b2:ev F G (.blt .list (.cons (.var 0) .nil)) [yz (Xb n),yy] (S++X++[.lst ((Yr (ddL n)).map Xa)])=.ok (.ref (S++X++[O.lst ((Yr (ddL n)).map Xa)]).length) (S++X++[.lst ((Yr (ddL n)).map Xa)]++[.lst (n.map Xa)]):=by unfold Xb;simp only[ev,evs,gZ0,Rk0,Xk,Xw]
      rw[ev,s2,Rk0,b2,Rk0,Xx2 (Xl Xf) Xf]
     have hp:=X6x n;have hr:=Xt8 n;cases er:rzL n with
     |false=>
      have nd:¬ Yr (ddL n)=n:=λz=>by have:=hr.mpr (hp.mpr z);rw[er]at this;cases this
      rw[decide_eq_false nd]at J;refine⟨X++([.lst ((Yr (ddL n)).map Xa)]++[.lst (n.map Xa)]),?_⟩;refine(Xd (Xq c0)).trans ((Xau J).trans ?_);simp only[Vh,Vbl]|true=>
      have pw:=hr.mp er;rw[decide_eq_true (hp.mp pw)]at J;have B:=X2e pw.nodup;generalize ab:S++X++[O.lst ((Yr (ddL n)).map Xa)]++[O.lst (n.map Xa)]=S2 at J;obtain⟨f1,f2⟩:=Xnc (S:=S2) (t:=.var 1) (xs:=n.map Xa) (body:=λenv S=>pc F G (lnB i17) env S) (λd=>decide ((n.filter λt=>lie (Xo d) t).length=1)) (λe=>∃x,e=[yz (Xb n),x])
       (λd hd e X he=>by
        obtain⟨x,rfl⟩:=he;obtain⟨s,hs,rfl⟩:=V0.mp hd;obtain⟨Y,hY⟩:=X64 (F:=F) (G:=G) (i17:=i17) (n:=n) (s:=s) (by omega) (λt S=>ac s t S (n3 s hs).1) (S2++X)
        refine⟨[yz (Xb n),yz (Xa s)],X++Y,rfl,⟨_,rfl⟩,?_⟩;rw[ints_of,<-Vh];exact hY) ((n.map Xa).length+1) 0 [yz (Xb n),yy] [] ⟨yy,rfl⟩ (Ug _) (by omega)
      have ea:((n.map Xa).drop 0).all (λd=>decide ((n.filter λt=>lie (Xo d) t).length=1))=Xrl n:=by rw[Vfr,Vc9];unfold Xrl;congr 1;funext s;simp only[Vdd,ints_of]
      have it:evit F G (.val (.var 0)) [yz (Xb n),yy] S2=.ok (.con (n.map Xa)) S2:=Yy (by simp only[ev,gZ0];rfl);rw[ea,V3]at f1 f2;cases en:Xed n with
      |true=>
       rw[en]at B;obtain⟨L,g⟩:=f2 B;have s4:exe F G (ln3 i17) [yz (Xb n),yy] S2=.ok (.rt (.bl yw)) (S2++L):=by unfold ln3;rw[exe,it,Rk0];exact g
       refine⟨X++([.lst ((Yr (ddL n)).map Xa)]++[.lst (n.map Xa)]++L),?_⟩;refine(Xd (Xq c0)).trans ((Xd (Xq J)).trans ((Xi s4).trans ?_));rw[<-ab];simp only[Vh,Vbc,Ut]|false=>
       rw[en]at B;obtain⟨e',L,⟨x,rfl⟩,g⟩:=f1 B;have s4:exe F G (ln3 i17) [yz (Xb n),yy] S2=.ok (.nx [yz (Xb n),x]) (S2++L):=by unfold ln3;rw[exe,it,Rk0];exact g
       refine⟨X++([.lst ((Yr (ddL n)).map Xa)]++[.lst (n.map Xa)]++L),?_⟩;refine(Xd (Xq c0)).trans ((Xd (Xq J)).trans ((Xd s4).trans ((Xi (S1:=S2++L) (d:=.bl yx) (by simp only[exe,ev,Rk0])).trans ?_)));rw[<-ab];simp only[Vh,Vbc,Va1]
  have t:=Xhq hx (Xna hk ht);have f:Xn d=false:=by
   cases d with
   |tup xs=>exact aB0 ⟨xs,rfl⟩ ht|_=>rfl
  refine⟨[],?_⟩;rw[f,V3];refine Xau ?_;unfold lnC;have a:ev F G (.not (.isi (.var 0) [.tuple])) [yz d,yy] S=.ok (.bl yx) S:=by simp only[ev,gZ0,Rk0,hk,Vq,t,Xg,Va1]
  rw[ev,a,Rk0];simp only[Xg]
 obtain⟨X,h⟩:=aa;exact⟨X,Yd (env:=[yz d,yy]) rfl rfl h⟩
noncomputable def shr(n m:LL):Bool:=(pts n).any λp=>decide (p∈pts m)
theorem X2m(n m:LL):((pts m).filter λp=>decide (p∈pts n)).isEmpty = !shr n m:=by
 cases h:shr n m with
 |true=>
  unfold shr at h;obtain⟨p,h1,h2⟩:=Vcv.mp h;have B:=oD0 h2;have:p∈(pts m).filter λp=>decide (p∈pts n):=Vbz.mpr ⟨B,decide_eq_true h1⟩;cases e:(pts m).filter λp=>decide (p∈pts n) with
  |nil=>rw[e]at this;cases this|cons a b=>rfl
 |false=>
  unfold shr at h;cases e:(pts m).filter λp=>decide (p∈pts n) with
  |nil=>rfl|cons a b=>
   have J:a∈(pts m).filter λp=>decide (p∈pts n):=by rw[e];exact Vz ..
   obtain⟨L,U⟩:=Vbz.mp J;have:=List.any_eq_false.mp h a (oD0 U);exact aB0 (decide_eq_true L) this
theorem Xx4{x y:D}{b:Bool}(h:Xh .eq x y S=.ok (.bl b) S):Xh .ne x y S=.ok (.bl (!b)) S:=by
 simp only[Xh,X5]at h ⊢;cases e:eqD S x y with
 |none=>rw[e]at h;cases h|some c=>rw[e]at h;injection h with h1;injection h1 with h2;subst h2;rfl
theorem Xe6{e:Ex}{env:En}{S S1:Sto}{q:Nat}{xs:LD}(h:ev F G e env S=.ok (.ref q) S1)(B:Xc S1 q=yz xs):evit F G (.val e) env S=.ok (.ref q) S1:=by simp only[evit,h,Rk0,Ys,B,V2]
noncomputable def Xci:D->Int
 |.int i=>i|_=>0
noncomputable def spE(L iq:Nat)(e:Ex):Ex:=.blt .anb (.cons (.cmr yw 2 (.cons (.var (L+1)) (.val e) .nil .nil) (.cmp .isin (.var (L+1)) (.var iq))) .nil)
theorem X9l{L iq q r:Nat}{e:Ex}{l w:LI}{env:En}{S1:Sto}(Y:(lf env)=L)(h:ev F G e env S=.ok (.ref r) S1)(U:Xc S1 r=yz (l.map D.int))(h2:env[iq]?=yz (yz (.ref q)))(hq:Xc S1 q=yz (w.map D.int))(hl:(lf l)<=1000):
  ev F G (spE L iq e) env S=.ok (.bl (l.any λp=>decide (p∈w))) (S1++[.lst ((l.map λp=>decide (p∈w)).map D.bl)]):=by
 have B:=Xcw (F:=F) (G:=G) (n:=2) (t:=.var (L+1)) (it:=.val e) (ifs:=.nil) (elt:=.cmp .isin (.var (L+1)) (.var iq)) (env:=env) (S0:=S) (S:=S1) (src:=.ref r) (l.map D.int) (λ_=>yx) (λd=>.bl (decide (Xci d∈w)))
  (λe=>∃x,e=env++[yy,x]) (Xe6 h U) (by simp[Src.most,U]) (λi=>by simp only[Src.get,U,V2]) (by rw[Ve];exact X8 hl) ⟨yy,rfl⟩
  (λd hd e J=>by
   obtain⟨x,rfl⟩:=J;obtain⟨i,hi,rfl⟩:=V0.mp hd;have g1:(env++[yy,yz (D.int i)])[iq]?=yz (yz (.ref q)):=Xfu h2;have g2:(env++[yy,yz (D.int i)])[L+1]?=yz (yz (.int i)):=Xi8 Y _;refine⟨env++[yy,yz (.int i)],Xft Y x _,⟨_,rfl⟩,rfl,λ_=>?_⟩
   have z:decide (Xci (D.int i)∈w)=decide (i∈w):=rfl;simp only[ev,g1,g2,Rk0,Xh,X5,Xpx i w hq,z])
 have e1:((l.map D.int).filter λ_=>yx).map (λd=>D.bl (decide (Xci d∈w)))=(l.map λp=>decide (p∈w)).map D.bl:=by rw[Vcq.mpr λ_ _=>rfl,Vai,Vai];rfl
 rw[e1]at B;unfold spE;rw[ev,evs,B];simp only[Rk0,evs,Xjf,List.any_map];rfl
noncomputable def spL(L iq:Nat)(e:Ex):Ex:=.cmp .ne (.cmr yw 2 (.cons (.var (L+1)) (.val e) (.cons (.cmp .isin (.var (L+1)) (.var iq)) .nil) .nil) (.var (L+1))) (.lst .nil)
theorem X66{L iq q r:Nat}{e:Ex}{l w:LI}{env:En}{S1:Sto}(he:(lf env)=L)(h:ev F G e env S=.ok (.ref r) S1)(Y:Xc S1 r=yz (l.map D.int))(h2:env[iq]?=yz (yz (.ref q)))(hq:Xc S1 q=yz (w.map D.int))(hl:(lf l)<=1000):
  ∃X,ev F G (spL L iq e) env S=.ok (.bl (!(l.filter λp=>decide (p∈w)).isEmpty)) (S1++X):=by
 have B:=Xcw (F:=F) (G:=G) (n:=2) (t:=.var (L+1)) (it:=.val e) (ifs:=.cons (.cmp .isin (.var (L+1)) (.var iq)) .nil) (elt:=.var (L+1)) (env:=env) (S0:=S) (S:=S1) (src:=.ref r) (l.map D.int) (λd=>decide (Xci d∈w)) id
  (λe=>∃x,e=env++[yy,x]) (Xe6 h Y) (by simp[Src.most,Y]) (λi=>by simp only[Src.get,Y,V2]) (by rw[Ve];exact X8 hl) ⟨yy,rfl⟩
  (λd hd e U=>by
   obtain⟨x,rfl⟩:=U;obtain⟨i,hi,rfl⟩:=V0.mp hd;have g1:(env++[yy,yz (D.int i)])[iq]?=yz (yz (.ref q)):=Xfu h2;have g2:(env++[yy,yz (D.int i)])[L+1]?=yz (yz (.int i)):=Xi8 he _;refine⟨env++[yy,yz (.int i)],Xft he x _,⟨_,rfl⟩,?_,λ_=>by simp only[ev,g2,id]⟩
   have z:decide (Xci (D.int i)∈w)=decide (i∈w):=rfl;simp only[evts,ev,g1,g2,Rk0,Xh,X5,Xpx i w hq,z,Xg];cases decide (i∈w)<;>rfl)
 have e1:((l.map D.int).filter λd=>decide (Xci d∈w)).map id=(l.filter λp=>decide (p∈w)).map D.int:=by rw[List.map_id,Vfd];rfl
 rw[e1]at B;have hn:ev F G (.lst .nil) env (S1++[.lst ((l.filter λp=>decide (p∈w)).map D.int)])=.ok (.ref (S1++[O.lst ((l.filter λp=>decide (p∈w)).map D.int)]).length) (S1++[.lst ((l.filter λp=>decide (p∈w)).map D.int)]++[.lst []]):=by simp only[ev,evs,Rk0];exact iP0 (X8 (by simp))
 have J:=Xx4 (Xm2 (S:=S1++[.lst ((l.filter λp=>decide (p∈w)).map D.int)]++[.lst []]) (a:=lf S1) (b:=(S1++[O.lst ((l.filter λp=>decide (p∈w)).map D.int)]).length) (Xl Xf) Xf);have e2:((l.filter λp=>decide (p∈w)).map D.int).isEmpty=(l.filter λp=>decide (p∈w)).isEmpty:=by cases l.filter λp=>decide (p∈w)<;>rfl
 rw[e2]at J;refine⟨[.lst ((l.filter λp=>decide (p∈w)).map D.int)]++[.lst []],?_⟩;unfold spL;rw[ev,B,Rk0,hn,Rk0,J,Vh]
noncomputable def Xjj(n:LL):LI:=n.map λs=>(s.length:Int)
noncomputable def wid(n:LL):Int:=match Xjj n with
 |x::r=>r.foldl max x|[]=>0
noncomputable def wdE(L:Nat)(e:Ex):Ex:=.blt .mxl (.cons (.cmr yw 2 (.cons (.var (L+1)) (.val e) .nil .nil) (.blt .len (.cons (.var (L+1)) .nil))) .nil)
theorem Xhx{L:Nat}{env:En}{e:Ex}{n:LL}(J:(lf env)=L)(hc:ev F G e env S=.ok (Xb n) S)(h0:n≠[])(hl:(lf n)<=1000):∃X,ev F G (wdE L e) env S=.ok (.int (wid n)) (S++X):=by
 obtain⟨X,B⟩:=Xea (F:=F) (G:=G) (S:=S) (elt:=.blt .len (.cons (.var (L+1)) .nil)) (λd=>.int ((Xa5 d).length:Int)) J hc (by rw[Ve];omega) (λd hd X=>by obtain⟨s,hs,rfl⟩:=V0.mp hd;refine⟨X,?_⟩;have g2:(env++[yy,yz (Xa s)])[L+1]?=yz (yz (Xa s)):=Xi8 J _;simp only[ev,evs,g2,Rk0,Xg1];simp only[Xa5,Xa,Ve]);have Y:(n.map Xa).map (λd=>D.int ((Xa5 d).length:Int))=(Xjj n).map D.int:=by unfold Xjj;rw[Vai,Vai];refine Vdi λs _=>?_;simp only[Vdd,Xa5,Xa,Ve]
 rw[Y]at B;refine⟨X++[.lst ((Xjj n).map D.int)],?_⟩;have U:Xk .mxl [.ref (S++X).length] (S++X++[.lst ((Xjj n).map D.int)])=.ok (.int (wid n)) (S++X++[.lst ((Xjj n).map D.int)]):=by
  simp only[Xk,Xw,Xf,Vq,Xaa];unfold wid;cases n with
  |nil=>cases h0 rfl|cons a b=>rfl
 unfold wdE;rw[ev,evs,B];simp only[Rk0,evs,U];rw[Vh]
theorem Xx5{n:LL}(B:n≠[])(J:(lf n)<=1000)(S:Sto):∃X,den F G Xxv [Xb n] S=.ok (.int (wid n)) (S++X):=by obtain⟨X,h⟩:=Xhx (F:=F) (G:=G) (S:=S) (L:=1) (env:=[yz (Xb n)]) (e:=.var 0) rfl (by simp only[ev,gZ0]) B J;refine⟨X,Yd (env:=[yz (Xb n)]) rfl rfl (Xi ?_)⟩;have h':ev F G (.blt .mxl (.cons X6w .nil)) [yz (Xb n)] S=_:=h;rw[exe,h'];rfl
noncomputable def tgL(s:LI)(m:LL):LL:=m.map λt=>Yl (s++t)
noncomputable def tog(n m:LL):LL:=(n.map λs=>tgL s m).flatten
noncomputable def tgI(a b:Nat):Ex:=.blt .tuple (.cons (.blt .sorted (.cons (.bin .add (.var a) (.var b)) .nil)) .nil)
theorem Xuc{a b:Nat}{env:En}{s t:LI}(h1:env[a]?=yz (yz (Xa s)))(h2:env[b]?=yz (yz (Xa t)))(hs:(lf s)<=6)(L:(lf t)<=6)(S:Sto):ev F G (tgI a b) env S=.ok (Xa (Yl (s++t))) (S++[.lst ((Yl (s++t)).map D.int)]):=by
 have B:X7 .add (Xa s) (Xa t) S=.ok (Xa (s++t)) S:=by simp only[X7,Xa,Ve,Vae];exact iP0 (X8 (by omega))
 have J:=X19 (l:=s++t) (by rw[Vy];omega) S;unfold tgI;simp only[ev,evs,h1,h2,Rk0,B,J];simp only[Xk,Xw,Xf];rfl
theorem X67{n:Nat}(h:n<=5000):n<=big:=Uv h (by decide)
theorem Xzc{α β:Type}(f:α->β)(l:List α):(l.map λd=>[f d]).flatten=l.map f:=by
 induction l with
 |nil=>rfl|cons x l ih=>simp[ih]
theorem Xud(s:LI)(m:LL):((m.map Xa).map λd=>[Xa (Yl (s++Xo d))]).flatten=(tgL s m).map Xa:=by rw[Xzc,Vai];unfold tgL;rw[Vai];exact Vdi λt _=>by simp only[Vdd,ints_of]
theorem Xnd(m:LL):∀n:LL,((n.map Xa).map λd=>(tgL (Xo d) m).map Xa).flatten=(tog n m).map Xa
 |[]=>rfl|s::n=>by have ih:=Xnd m n;unfold tog at ih ⊢;simp only[Ux,Vbw,Vae,ints_of,ih]
theorem Xjk(n m:LL):(tog n m).length=lf n*lf m:=by
 induction n with
 |nil=>simp[tog]|cons s n ih=>unfold tog at ih ⊢;simp only[Ux,Vbw,Vy,ih,U1,Nat.succ_mul];simp[tgL];omega
theorem Xx6(n m:LL)(i:Nat)(hi:i<lf n):tog (n.take (i+1)) m=tog (n.take i) m++tgL n[i] m:=by unfold tog;rw[Vev,Vk hi,Vae,Ve9];simp only[Option.toList,Ux,Vd8,Vbw,Ve1,V3]
theorem Xzd{a b:Nat}(h1:a<=60)(h2:b<=60):a*b<=3600:=Nat.mul_le_mul h1 h2
noncomputable def tgB(elt:Ex):En->LD->Sto->R (LD):=Xr (λenv S=>evts F G .nil env S) (λenv B S=>(ev F G elt env S).bind λy S=>if (lf B)<big then .ok (B++[y]) S else .bad)
theorem X9m{A B C:Option D}{s:LI}{m:LL}{acc:LD}(hs:(lf s)<=6)(L:∀t∈m,lf t<=6)(hl:(lf acc)+lf m<=4000)(S:Sto):
  ∃X,Xp (Src.con (m.map Xa)).get (.var 5) (tgB (F:=F) (G:=G) (tgI 4 5)) (lf m+1) 0 [A,B,C,yy,yz (Xa s),yy] acc S=.ok (acc++(tgL s m).map Xa) (S++X):=by
 obtain⟨X,a⟩:=Xpy (S:=S) (xs:=m.map Xa) (t:=.var 5) (body:=tgB (F:=F) (G:=G) (tgI 4 5)) (λd=>[Xa (Yl (s++Xo d))]) acc (λe=>∃x,e=[A,B,C,yy,yz (Xa s),x])
  (λi d e X hd Y=>by
   obtain⟨x,rfl⟩:=Y;have hi:i<lf m:=by have:=(Vi.mp hd).1;rwa [Ve]at this
   obtain⟨t,J,rfl⟩:=V0.mp (V6 hd);have q:=Xuc (F:=F) (G:=G) (a:=4) (b:=5) (env:=[A,B,C,yy,yz (Xa s),yz (Xa t)]) rfl rfl hs (L t J) (S++X);refine⟨[A,B,C,yy,yz (Xa s),yz (Xa t)],X++[.lst ((Yl (s++t)).map D.int)],rfl,⟨_,rfl⟩,?_⟩;have U:(acc++(((m.map Xa).take i).map λd=>[Xa (Yl (s++Xo d))]).flatten).length<big:=by have:=Xk1 (w:=λd=>[Xa (Yl (s++Xo d))]) (λ_=>by simp) ((m.map Xa).take i);rw[Um,Ve]at this;rw[Vy];exact Ub (show _<5000 by omega) (by decide)
   simp only[tgB,Xr,evts,Rk0,if_true,q,U,ints_of,Vh])
  (lf m+1) 0 [A,B,C,yy,yz (Xa s),yy] [] ⟨yy,rfl⟩ (Ug _) (by rw[Ve];omega)
 rw[List.take_zero,Vd8,Ve1,V3,V3,Xud]at a;exact⟨X,a⟩
noncomputable def tgE:Ex:=.cmr yw 3 (.cons (.var 4) (.val (.var 0)) .nil (.cons (.var 5) (.val (.var 1)) .nil .nil)) (tgI 4 5)
theorem X68{C:Option D}{n m:LL}(hn:∀s∈n,lf s<=6)(hm:∀t∈m,lf t<=6)(ln:(lf n)<=60)(lm:(lf m)<=60)(S:Sto):
  ∃X,ev F G tgE [yz (Xb n),yz (Xb m),C] S=.ok (.ref (S++X).length) (S++X++[.lst ((tog n m).map Xa)]):=by
 obtain⟨X,a⟩:=Xpy (S:=S) (xs:=n.map Xa) (t:=.var 4) (body:=Xr (λenv S=>evts F G .nil env S) (λenv L S=>if Xbh (.var 5) env then (evit F G (.val (.var 1)) env S).bind λJ S=>
   Xp (J.get) (.var 5) (tgB (F:=F) (G:=G) (tgI 4 5)) (J.most S+1) 0 env L S else .bad)) (λd=>(tgL (Xo d) m).map Xa) [] (λe=>∃x,e=[yz (Xb n),yz (Xb m),C,yy,x,yy])
  (λi d e X hd he=>by
   obtain⟨x,rfl⟩:=he;have hi:i<lf n:=by have:=(Vi.mp hd).1;rwa [Ve]at this
   have ab:d=Xa n[i]:=by rw[Vx,Vk hi]at hd;exact(Ud hd).symm
   subst ab;have Y:((((n.map Xa).take i).map λd=>(tgL (Xo d) m).map Xa).flatten).length+lf m<=4000:=by have e1:=Xnd m (n.take i);rw[Vgf]at e1;rw[e1,Ve,Xjk,Um];have:=Xzd (show min i (lf n)<=60 by omega) lm;omega
   obtain⟨X1,q⟩:=X9m (F:=F) (G:=G) (A:=yz (Xb n)) (B:=yz (Xb m)) (C:=C) (acc:=(((n.map Xa).take i).map λd=>(tgL (Xo d) m).map Xa).flatten) (hn _ (Vbh hi)) hm Y (S++X);refine⟨[yz (Xb n),yz (Xb m),C,yy,yz (Xa n[i]),yy],X++X1,rfl,⟨_,rfl⟩,?_⟩;have U:evit F G (.val (.var 1)) [yz (Xb n),yz (Xb m),C,yy,yz (Xa n[i]),yy] (S++X)=.ok (.con (m.map Xa)) (S++X):=Yy (by simp only[ev,gZ0,gS0];rfl)
   have aa:Xbh (.var 5) [yz (Xb n),yz (Xb m),C,yy,yz (Xa n[i]),yy]=true:=rfl;rw[Vbp];simp only[Xr,evts,Rk0,if_true,aa,U,Src.most,Ve];rw[q,ints_of,Vh])
  (lf n+1) 0 [yz (Xb n),yz (Xb m),C,yy,yy,yy] [] ⟨yy,rfl⟩ (Ug _) (by rw[Ve];omega)
 rw[List.take_zero,Vd8,Ve1,Vbp,V3,Xnd,Vbp]at a;refine⟨X,?_⟩;have U:evit F G (.val (.var 0)) [yz (Xb n),yz (Xb m),C] S=.ok (.con (n.map Xa)) S:=Yy (by simp only[ev,gZ0];rfl);unfold tgE;rw[ev,U];simp only[Rk0,Src.most,Ve];have a':Xp (Src.con (n.map Xa)).get (.var 4) (Xr (λenv S=>evts F G .nil env S) (λenv L S=>if Xbh (.var 5) env then (evit F G (.val (.var 1)) env S).bind λJ S=>Xp (J.get) (.var 5) (Xr (λenv S=>evts F G .nil env S) (λenv L S=>(ev F G (tgI 4 5) env S).bind λy S=>if (lf L)<big then .ok (L++[y]) S else .bad)) (J.most S+1) 0 env L S else .bad)) (lf n+1) 0 ([yz (Xb n),yz (Xb m),C]++Vu 3 yy) [] S=.ok ((tog n m).map Xa) (S++X):=a;rw[a',Rk0];rfl
noncomputable def ltE:Ex:=.cmr yw 2 (.cons (.var 5) (.val (.var 1)) .nil .nil) (tgI 3 5)
noncomputable def ltB:Sts:=.cons (.expr (.mth .xtd (.var 2) (.cons ltE .nil))) .nil
noncomputable def ltR:St:=.ret (.blt .tuple (.cons (.blt .srt (.cons (.var 2) .nil)) .nil))
noncomputable def Xrm:Df:=⟨2,4,.cons (.asg (.var 2) (.lst .nil)) (.cons (.for (.var 3) (.val (.var 0)) ltB) (.cons ltR .nil))⟩
theorem X69{A C:Option D}{s:LI}{m:LL}(hs:(lf s)<=6)(U:∀t∈m,lf t<=6)(lm:(lf m)<=60)(S:Sto):
  ∃X,ev F G ltE [A,yz (Xb m),C,yz (Xa s)] S=.ok (.ref (S++X).length) (S++X++[.lst ((tgL s m).map Xa)]):=by
 obtain⟨X,B⟩:=Xea (F:=F) (G:=G) (S:=S) (L:=4) (env:=[A,yz (Xb m),C,yz (Xa s)]) (e:=.var 1) (elt:=tgI 3 5) (xs:=m.map Xa) (λd=>Xa (Yl (s++Xo d))) rfl (by simp only[ev,gZ0,gS0];rfl) (by rw[Ve];omega) (λd hd X=>by obtain⟨t,J,rfl⟩:=V0.mp hd;have q:=Xuc (F:=F) (G:=G) (a:=3) (b:=5) (env:=[A,yz (Xb m),C,yz (Xa s),yy,yz (Xa t)]) rfl rfl hs (U t J) (S++X);exact⟨X++[.lst ((Yl (s++t)).map D.int)],by rw[ints_of,<-Vh];exact q⟩);have Y:(m.map Xa).map (λd=>Xa (Yl (s++Xo d)))=(tgL s m).map Xa:=by rw[<-Xud,Xzc]
 rw[Y]at B;exact⟨X,B⟩
theorem Xp4{S X:Sto}{o:O}(h:(lf S)<(S++X).length):∃Y,(S++X).set (lf S) o=S++Y:=⟨X.set 0 o,by rw[Vgm _ _ (Vm _),Vbo]⟩
theorem Xx7{n m r:LL}(hn:∀s∈n,lf s<=6)(hm:∀t∈m,lf t<=6)(ln:(lf n)<=60)(lm:(lf m)<=60)(hr:Xah (tog n m)=yz r)(S:Sto):
  ∃X,den F G Xrm [Xb n,Xb m] S=.ok (Xb r) (S++X):=by
 have s1:exe F G (.asg (.var 2) (.lst .nil)) [yz (Xb n),yz (Xb m),yy,yy] S=.ok (.nx [yz (Xb n),yz (Xb m),yz (.ref (lf S)),yy]) (S++[.lst []]):=by rw[exe,ev];simp only[evs,Rk0];rw[iP0 (show([]:LD).length<=big by decide)];rfl
 obtain⟨e',S',a,⟨⟨X,rfl⟩,B⟩,x,rfl⟩:=Xbc (t:=.var 3) (get:=(Src.con (n.map Xa)).get) (body:=λenv S=>pc F G ltB env S) (n.map Xa) (λi e S'=>((∃X,S'=S++X)/\Xc S' (lf S)=yz ((tog (n.take i) m).map Xa))/\∃x,e=[yz (Xb n),yz (Xb m),yz (.ref (lf S)),x]) (λi e S _=>rfl)
  (λi d e S' hd he=>by
   obtain⟨⟨⟨X,rfl⟩,B⟩,x,rfl⟩:=he;have hi:i<lf n:=by have:=(Vi.mp hd).1;rwa [Ve]at this
   have U:d=Xa n[i]:=by rw[Vx,Vk hi]at hd;exact(Ud hd).symm
   subst U;obtain⟨Y,q⟩:=X69 (F:=F) (G:=G) (A:=yz (Xb n)) (C:=yz (.ref (lf S))) (hn _ (Vbh hi)) hm lm (S++X);have rc:Y7 .xtd (.ref (lf S)) (S++X)=true:=by simp only[Y7,B,Veg]
   have aa:lstM (S++X++Y++[O.lst ((tgL n[i] m).map Xa)]) (lf S)=yz ((tog (n.take i) m).map Xa):=Xl (Xl B);have hk:Xc (S++X++Y++[O.lst ((tgL n[i] m).map Xa)]) (S++X++Y).length=yz ((tgL n[i] m).map Xa):=Xf;have hz:((tog (n.take i) m).map Xa).length+((tgL n[i] m).map Xa).length<=big:=by rw[Ve,Ve,Xjk,Um];have h1:=Xzd (show min i (lf n)<=60 by omega) lm;have h2:(tgL n[i] m).length=lf m:=Ve ..;exact X67 (by omega)
   have L:Yk .xtd (.ref (lf S)) [.ref (S++X++Y).length] (S++X++Y++[O.lst ((tgL n[i] m).map Xa)])=.ok .non ((S++X++Y++[O.lst ((tgL n[i] m).map Xa)]).set (lf S) (.lst ((tog (n.take (i+1)) m).map Xa))):=by simp only[Yk,aa,hk,hz,if_true];rw[Xx6 n m i hi,Vae]
   have J:(lf S)<(S++X++Y++[O.lst ((tgL n[i] m).map Xa)]).length:=by simp only[Vy,U2];omega
   refine⟨[yz (Xb n),yz (Xb m),yz (.ref (lf S)),yz (Xa n[i])],[yz (Xb n),yz (Xb m),yz (.ref (lf S)),yz (Xa n[i])],_,rfl,Xd (by simp only[exe,ev,evs,gZ0,gS0,Rk0,rc,if_true,q,L]),⟨?_,Xdr J⟩,_,rfl⟩;have:=Xp4 (S:=S) (X:=X++Y++[O.lst ((tgL n[i] m).map Xa)]) (o:=.lst ((tog (n.take (i+1)) m).map Xa)) (by simp only[Vy,U2];omega)
   simpa only[Vh] using this)
  (lf n+1) 0 [yz (Xb n),yz (Xb m),yz (.ref (lf S)),yy] (S++[.lst []]) ⟨⟨⟨_,rfl⟩,Xf⟩,yy,rfl⟩ (Ug _) (by rw[Ve];omega)
 rw[Ve,Vcx]at B;have s2:exe F G (.for (.var 3) (.val (.var 0)) ltB) [yz (Xb n),yz (Xb m),yz (.ref (lf S)),yy] (S++[.lst []])=.ok (.nx [yz (Xb n),yz (Xb m),yz (.ref (lf S)),x]) (S++X):=by rw[exe,Yy (xs:=n.map Xa) (S1:=S++[.lst []]) (by simp only[ev,gZ0];rfl)];simp only[Rk0,Src.most,Ve];exact a
 have hs:=Xjh B hr;refine⟨X++[.lst (r.map Xa)],Yd (env:=[yz (Xb n),yz (Xb m),yy,yy]) rfl rfl ?_⟩;refine(Xd s1).trans ((Xd s2).trans (Xi ?_));unfold ltR;simp only[exe,ev,evs,gZ0,gS0,Rk0,hs];simp only[Xk,Xw,Xf,Rk0];rw[Vh];rfl
noncomputable def jnR(n m:LL):Option Nat:=if shr n m then yz 4 else if 60<lf n*lf m then yz 5 else if 6<wid n+wid m then yz 5 else yy
noncomputable def c1(f v:Nat):Ex:=.call f (.cons (.var v) .nil)
noncomputable def ln0(v:Nat):Ex:=.blt .len (.cons (.var v) .nil)
theorem Y1{f v:Nat}{d:D}{env:En}(h:env[v]?=yz (yz d)):ev F G (c1 f v) env S=F f [d] S:=by unfold c1;simp only[ev,evs,h,Rk0]
theorem X2n(i j:Int)(h1:i<=60)(h2:0<=i)(S:Sto):X7 .mul (.int i) (.int j) S=.ok (.int (i*j)) S:=Xcp (Xi6 (by omega) (by omega)) S
theorem X7a{i j:Int}{a b:D}{env:En}(J:env[0]?=yz (yz a))(h1:env[1]?=yz (yz b))(B:Xk .len [a] S=.ok (.int i) S)(U:Xk .len [b] S=.ok (.int j) S)(L:X7 .mul (.int i) (.int j) S=.ok (.int (i*j)) S):ev F G (.bin .mul (ln0 0) (ln0 1)) env S=.ok (.int (i*j)) S:=by unfold ln0;simp only[ev,evs,J,h1,Rk0,B,U,L]
theorem Xg7(k:LL)(S:Sto):Xk .len [Xb k] S=.ok (.int (k.length:Int)) S:=by simp only[Xb,Xpt,Ve]
theorem Xue{n m:LL}{env:En}(B:env[0]?=yz (yz (Xb n)))(h1:env[1]?=yz (yz (Xb m)))(ln:(lf n)<=60)(S:Sto):ev F G (.bin .mul (ln0 0) (ln0 1)) env S=.ok (.int ((n.length:Int)*(m.length:Int))) S:=
 X7a B h1 (Xg7 n S) (Xg7 m S) (X2n _ _ (by omega) (by omega) S)
theorem Xuf(a b:Nat):decide ((60:Int)<(a:Int)*(b:Int))=decide (60<a*b):=by rw[<-Int.natCast_mul];congr 1;apply propext;omega
noncomputable def jn1(B v:Nat):St:=.expr (c1 B v)
noncomputable def jn4(B:Nat)(s:Str):St:=.ite (spE 3 2 (c1 B 0)) (.cons (.rse 4 (.cst (.str s))) .nil) .nil
noncomputable def jn5(s:Str):St:=.ite (.cmp .gt (.bin .mul (ln0 0) (ln0 1)) (.glb 2)) (.cons (.rse 5 (.cst (.str s))) .nil) .nil
noncomputable def jn6(B:Nat)(s:Str):St:=.ite (.cmp .gt (.bin .add (c1 B 0) (c1 B 1)) (.glb 1)) (.cons (.rse 5 (.cst (.str s))) .nil) .nil
noncomputable def jn7:St:=.ret (.blt .tuple (.cons (.blt .srt (.cons tgE .nil)) .nil))
noncomputable def dJn(L B J:Nat)(s4 s5 s6:Str):Df:=⟨2,3,.cons (jn1 L 0) (.cons (jn1 L 1) (.cons (.asg (.var 2) (c1 B 1)) (.cons (jn4 B s4) (.cons (jn5 s5) (.cons (jn6 J s6) (.cons jn7 .nil))))))⟩
theorem Xdu{d:Df}{ds:LD}{env:En}{n:Nat}{S':Sto}(B:(lf ds)=d.np)(J:ds.map yz++Vu (d.nl-d.np) yy=env)(h:pc F G d.body env S=.ex n S'):den F G d ds S=.ex n S':=by subst J;unfold den;rw[iP0 B,h]
theorem X7b{L J B k:Nat}{s4 s5 s6:Str}{a b:D}{S1:Sto}(h:F L [a] S=.ex k S1):den F G (dJn L J B s4 s5 s6) [a,b] S=.ex k S1:=by refine Xdu (env:=[yz a,yz b,yy]) rfl rfl (Xco ?_);unfold jn1;rw[exe,Y1 (d:=a) rfl,h];rfl
theorem X7c{L J B k:Nat}{s4 s5 s6:Str}{a b:D}{S1 S2:Sto}(h1:F L [a] S=.ok .non S1)(h:F L [b] S1=.ex k S2):den F G (dJn L J B s4 s5 s6) [a,b] S=.ex k S2:=by
 refine Xdu (env:=[yz a,yz b,yy]) rfl rfl ?_;refine(Xd (e:=[yz a,yz b,yy]) (S1:=S1) ?_).trans (Xco ?_);·unfold jn1;rw[exe,Y1 (d:=a) rfl,h1];rfl
 ·unfold jn1;rw[exe,Y1 (d:=b) rfl,h];rfl
structure Jn(F:Fn)(i5 i10 i11:Nat)(n m:LL):Prop where
 hc:∀k:LL,k=n\/k=m->∀S,∃X,F i5 [Xb k] S=.ok .non (S++X)
 hp:∀k:LL,k=n\/k=m->∀S,F i10 [Xb k] S=.ok (.ref (lf S)) (S++[.lst ((pts k).map D.int)])
 hw:∀k:LL,k=n\/k=m->∀S,∃X,F i11 [Xb k] S=.ok (.int (wid k)) (S++X)
 ln:(lf n)<=60
 lm:(lf m)<=60
 lp:(pts n).length<=1000
theorem Xze{i5 L U:Nat}{s4 s5 s6:Str}{n m:LL}(J:Jn F i5 L U n m)(S:Sto):
  ∃X,Xc (S++X) (S++X).length=yy/\∃q,pc F G (dJn i5 L U s4 s5 s6).body [yz (Xb n),yz (Xb m),yy] S=pc F G (.cons (jn4 L s4) (.cons (jn5 s5) (.cons (jn6 U s6) (.cons jn7 .nil)))) [yz (Xb n),yz (Xb m),yz (.ref q)] (S++X)/\Xc (S++X) q=yz ((pts m).map D.int):=by
 obtain⟨B,e1⟩:=J.hc n (.inl rfl) S;obtain⟨Y,e2⟩:=J.hc m (.inr rfl) (S++B);have e3:=J.hp m (.inr rfl) (S++B++Y);have s1:exe F G (jn1 i5 0) [yz (Xb n),yz (Xb m),yy] S=.ok (.nx [yz (Xb n),yz (Xb m),yy]) (S++B):=by unfold jn1;rw[exe,Y1 (d:=Xb n) rfl,e1];rfl
 have s2:exe F G (jn1 i5 1) [yz (Xb n),yz (Xb m),yy] (S++B)=.ok (.nx [yz (Xb n),yz (Xb m),yy]) (S++B++Y):=by unfold jn1;rw[exe,Y1 (d:=Xb m) rfl,e2];rfl
 have s3:exe F G (.asg (.var 2) (c1 L 1)) [yz (Xb n),yz (Xb m),yy] (S++B++Y)=.ok (.nx [yz (Xb n),yz (Xb m),yz (.ref (S++B++Y).length)]) (S++B++Y++[.lst ((pts m).map D.int)]):=Xa0 (by rw[Y1 (d:=Xb m) rfl,e3]);refine⟨B++Y++[.lst ((pts m).map D.int)],?_,(S++B++Y).length,?_,?_⟩;·unfold Xc;rw[Vad (Vm _)]
 ·simp only[<-Vh];exact(Xd s1).trans ((Xd s2).trans (Xd s3))
 ·simp only[<-Vh];exact Xf
theorem Xug{i5 B U q:Nat}{n m:LL}(J:Jn F i5 B U n m){S:Sto}(Y:Xc S q=yz ((pts m).map D.int)):∃X,ev F G (spE 3 2 (c1 B 0)) [yz (Xb n),yz (Xb m),yz (.ref q)] S=.ok (.bl (shr n m)) (S++X):=by have e:=J.hp n (.inl rfl) S;have h:=X9l (F:=F) (G:=G) (S:=S) (L:=3) (iq:=2) (q:=q) (r:=lf S) (e:=c1 B 0) (l:=pts n) (w:=pts m) (env:=[yz (Xb n),yz (Xb m),yz (.ref q)]) rfl (by rw[Y1 (d:=Xb n) rfl,e]) Xf rfl (Xl Y) J.lp;exact⟨_,by rw[h,Vh];rfl⟩
theorem Xuh{n m:LL}{C:Option D}(hG:G[2]?=yz (.int 60))(ln:(lf n)<=60)(S:Sto):ev F G (.cmp .gt (.bin .mul (ln0 0) (ln0 1)) (.glb 2)) [yz (Xb n),yz (Xb m),C] S=.ok (.bl (decide (60<lf n*lf m))) S:=by rw[ev,Xue rfl rfl ln,Rk0,<-Xuf];generalize (n.length:Int)*(m.length:Int)=i;simp only[ev,hG,Rk0,Xh,X5]
theorem Xui{i5 L B:Nat}{n m:LL}{C:Option D}(hG:G[1]?=yz (.int 6))(J:Jn F i5 L B n m)(S:Sto):∃X,ev F G (.cmp .gt (.bin .add (c1 B 0) (c1 B 1)) (.glb 1)) [yz (Xb n),yz (Xb m),C] S=.ok (.bl (decide (6<wid n+wid m))) (S++X):=by obtain⟨U,e1⟩:=J.hw n (.inl rfl) S;obtain⟨X2,Y⟩:=J.hw m (.inr rfl) (S++U);refine⟨U++X2,?_⟩;rw[ev,ev,Y1 (d:=Xb n) rfl,e1,Rk0,Y1 (d:=Xb m) rfl,Y,Rk0,Y8,Rk0];simp only[ev,hG,Rk0,Xh,X5,Vh]
theorem X9n{i5 B L c:Nat}{s4 s5 s6:Str}{n m:LL}(aa:G[1]?=yz (.int 6))(ac:G[2]?=yz (.int 60))(J:Jn F i5 B L n m)(h:jnR n m=yz c)(S:Sto):∃X,den F G (dJn i5 B L s4 s5 s6) [Xb n,Xb m] S=.ex (S++X).length (S++X++[.exc c]):=by
 obtain⟨X,_,q,g1,g2⟩:=Xze (F:=F) (G:=G) (s4:=s4) (s5:=s5) (s6:=s6) J S;obtain⟨Y,y1⟩:=Xug (F:=F) (G:=G) J g2;unfold jnR at h;cases a:shr n m with
 |true=>rw[a,iP0 rfl]at h;injection h with h;subst h;rw[a]at y1;refine⟨X++Y,Xdu (env:=[yz (Xb n),yz (Xb m),yy]) rfl rfl (g1.trans (Xco ?_))⟩;rw[<-Vh];exact Xc4 y1|false=>
  rw[a]at y1 h;rw[iN0 (by decide)]at h;have U:exe F G (jn4 B s4) [yz (Xb n),yz (Xb m),yz (.ref q)] (S++X)=.ok (.nx [yz (Xb n),yz (Xb m),yz (.ref q)]) (S++X++Y):=Xq y1;have y2:=Xuh (F:=F) (m:=m) (C:=yz (.ref q)) ac J.ln (S++X++Y);by_cases b:60<n.length*m.length;·rw[iP0 b]at h;injection h with h;subst h;rw[decide_eq_true b]at y2;refine⟨X++Y,Xdu (env:=[yz (Xb n),yz (Xb m),yy]) rfl rfl (g1.trans ((Xd U).trans (Xco ?_)))⟩;rw[<-Vh];exact Xc4 y2
  ·rw[iN0 b]at h;rw[decide_eq_false b]at y2;have ab:exe F G (jn5 s5) [yz (Xb n),yz (Xb m),yz (.ref q)] (S++X++Y)=.ok (.nx [yz (Xb n),yz (Xb m),yz (.ref q)]) (S++X++Y):=Xq y2;obtain⟨Z',y3⟩:=Xui (F:=F) (C:=yz (.ref q)) aa J (S++X++Y);by_cases d:6<wid n+wid m;·rw[iP0 d]at h;injection h with h;subst h;rw[decide_eq_true d]at y3;refine⟨X++Y++Z',Xdu (env:=[yz (Xb n),yz (Xb m),yy]) rfl rfl (g1.trans ((Xd U).trans ((Xd ab).trans (Xco ?_))))⟩;rw[<-Vh,<-Vh];exact Xc4 y3
   ·rw[iN0 d]at h;cases h
theorem Xg8{n m:LL}(h:jnR n m=yy):shr n m=yw/\¬ 60<lf n*lf m/\¬ 6<wid n+wid m:=by
 unfold jnR at h;cases a:shr n m with
 |true=>rw[a,iP0 rfl]at h;cases h|false=>
  rw[a,iN0 (by decide)]at h;by_cases b:60<lf n*lf m;·rw[iP0 b]at h;cases h
  ·rw[iN0 b]at h;by_cases d:6<wid n+wid m;·rw[iP0 d]at h;cases h
   ·exact⟨rfl,b,d⟩
theorem X9o{i5 L B:Nat}{s4 s5 s6:Str}{n m r:LL}(aa:G[1]?=yz (.int 6))(ab:G[2]?=yz (.int 60))(J:Jn F i5 L B n m)(hn:∀s∈n,s.length<=6)(hm:∀t∈m,t.length<=6)(h:jnR n m=yy)(hr:Xah (tog n m)=yz r)(S:Sto):
  ∃X,den F G (dJn i5 L B s4 s5 s6) [Xb n,Xb m] S=.ok (Xb r) (S++X):=by
 obtain⟨a,b,d⟩:=Xg8 h;obtain⟨X,_,q,g1,g2⟩:=Xze (F:=F) (G:=G) (s4:=s4) (s5:=s5) (s6:=s6) J S;obtain⟨Y,y1⟩:=Xug (F:=F) (G:=G) J g2;rw[a]at y1;have y2:=Xuh (F:=F) (m:=m) (C:=yz (.ref q)) ab J.ln (S++X++Y);rw[decide_eq_false b]at y2;obtain⟨U,y3⟩:=Xui (F:=F) (C:=yz (.ref q)) aa J (S++X++Y);rw[decide_eq_false d]at y3;obtain⟨W,y4⟩:=X68 (F:=F) (G:=G) (C:=yz (.ref q)) hn hm J.ln J.lm (S++X++Y++U);have hs:=Xjh (S:=S++X++Y++U++W++[O.lst ((tog n m).map Xa)]) (q:=(S++X++Y++U++W).length) Xf hr;refine⟨X++Y++U++W++[.lst ((tog n m).map Xa)]++[.lst (r.map Xa)],Yd (env:=[yz (Xb n),yz (Xb m),yy]) rfl rfl (g1.trans ?_)⟩;refine(Xd (Xq y1)).trans ((Xd (Xq y2)).trans ((Xd (Xq y3)).trans (Xi ?_)));unfold jn7;rw[exe,ev,evs,ev,evs,y4];simp only[Rk0,evs,hs];simp only[Xk,Xw,Xf,Rk0];simp only[Vh];rfl
noncomputable def Xrn:Nat->D
 |4=>.str "apart"|_=>.str "many"
noncomputable def du1(B:Nat):St:=.ite (.or (.not (c1 B 0)) (.not (c1 B 1))) (.cons (.ret (.cst (.str "net"))) .nil) .nil
noncomputable def du3(B:Nat):St:=.ite (spL 4 2 (c1 B 1)) (.cons (.ret (.cst (.str "apart"))) .nil) .nil
noncomputable def du4:Ex:=.bin .add (wdE 4 (.var 0)) (wdE 4 (.var 1))
noncomputable def du5:Ex:=.or (.cmp .gt (.bin .mul (ln0 0) (ln0 1)) (.cst (.int 60))) (.cmp .gt (.var 3) (.cst (.int 6)))
noncomputable def Xdg(J B i23:Nat):Df:=⟨2,4,.cons (du1 J) (.cons (.asg (.var 2) (c1 B 0)) (.cons (du3 B) (.cons (.asg (.var 3) du4) (.cons (.ite du5 (.cons (.ret (.cst (.str "many"))) .nil) .nil) (.cons (.ret (.call i23 (.cons (.var 0) (.cons (.var 1) .nil)))) .nil)))))⟩
theorem Xfz{c:Ex}{d:D}{r:Sts}{env:En}{S S':Sto}(h:ev F G c env S=.ok (.bl yx) S'):pc F G (.cons (.ite c (.cons (.ret (.cst d)) .nil) .nil) r) env S=.ok (.rt d) S':=Xi (X12 h)
theorem X7d{B J i23:Nat}{a b:D}{S1:Sto}(h:F B [a] S=.ok (.bl yw) S1):den F G (Xdg B J i23) [a,b] S=.ok (.str "net") S1:=by refine Yd (env:=[yz a,yz b,yy,yy]) rfl rfl (Xfz ?_);rw[ev,ev,Y1 (d:=a) rfl,h,Rk0];simp only[Xg,Va1,Rk0]
theorem X7e{B J i23:Nat}{a b:D}{S1 S2:Sto}(h1:F B [a] S=.ok (.bl yx) S1)(h:F B [b] S1=.ok (.bl yw) S2):den F G (Xdg B J i23) [a,b] S=.ok (.str "net") S2:=by refine Yd (env:=[yz a,yz b,yy,yy]) rfl rfl (Xfz ?_);rw[ev,ev,Y1 (d:=a) rfl,h1,Rk0];simp only[Xg,Ut,Rk0];rw[ev,Y1 (d:=b) rfl,h,Rk0];simp only[Xg,Va1]
structure Du(F:Fn)(i21 i22:Nat)(n m:LL):Prop where
 hc:∀k:LL,k=n\/k=m->∀S,∃X,F i21 [Xb k] S=.ok (.bl yx) (S++X)
 hp:∀k:LL,k=n\/k=m->∀S,∃X,F i22 [Xb k] S=.ok (.ref (S++X).length) (S++X++[.lst ((pts k).map D.int)])
 ln:(lf n)<=60
 lm:(lf m)<=60
 n0:n≠[]
 m0:m≠[]
 lp:(pts m).length<=1000
theorem Xzf{Y B i23:Nat}{n m:LL}(U:Du F Y B n m)(S:Sto):
  ∃X q,pc F G (Xdg Y B i23).body [yz (Xb n),yz (Xb m),yy,yy] S=pc F G (.cons (du3 B) (.cons (.asg (.var 3) du4) (.cons (.ite du5 (.cons (.ret (.cst (.str "many"))) .nil) .nil) (.cons (.ret (.call i23 (.cons (.var 0) (.cons (.var 1) .nil)))) .nil)))) [yz (Xb n),yz (Xb m),yz (.ref q),yy] (S++X)/\Xc (S++X) q=yz ((pts n).map D.int):=by
 obtain⟨J,e1⟩:=U.hc n (.inl rfl) S;obtain⟨L,e2⟩:=U.hc m (.inr rfl) (S++J);obtain⟨X3,e3⟩:=U.hp n (.inl rfl) (S++J++L);have s1:exe F G (du1 Y) [yz (Xb n),yz (Xb m),yy,yy] S=.ok (.nx [yz (Xb n),yz (Xb m),yy,yy]) (S++J++L):=by unfold du1;refine Xq ?_;rw[ev,ev,Y1 (d:=Xb n) rfl,e1,Rk0];simp only[Xg,Ut,Rk0];rw[ev,Y1 (d:=Xb m) rfl,e2,Rk0];simp only[Xg,Ut]
 have s3:exe F G (.asg (.var 2) (c1 B 0)) [yz (Xb n),yz (Xb m),yy,yy] (S++J++L)=.ok (.nx [yz (Xb n),yz (Xb m),yz (.ref (S++J++L++X3).length),yy]) (S++J++L++X3++[.lst ((pts n).map D.int)]):=Xa0 (by rw[Y1 (d:=Xb n) rfl,e3]);refine⟨J++L++X3++[.lst ((pts n).map D.int)],(S++J++L++X3).length,?_,?_⟩;·simp only[<-Vh];exact(Xd s1).trans (Xd s3)
 ·simp only[<-Vh];exact Xf
theorem Xuj{J B q:Nat}{n m:LL}(U:Du F J B n m){S:Sto}(hq:Xc S q=yz ((pts n).map D.int)):∃X,ev F G (spL 4 2 (c1 B 1)) [yz (Xb n),yz (Xb m),yz (.ref q),yy] S=.ok (.bl (shr n m)) (S++X):=by obtain⟨X,e⟩:=U.hp m (.inr rfl) S;obtain⟨Y,h⟩:=X66 (F:=F) (G:=G) (S:=S) (L:=4) (iq:=2) (q:=q) (r:=(S++X).length) (e:=c1 B 1) (l:=pts m) (w:=pts n) (env:=[yz (Xb n),yz (Xb m),yz (.ref q),yy]) rfl (by rw[Y1 (d:=Xb m) rfl,e]) Xf rfl (Xl (Xl hq)) U.lp;rw[X2m,Bool.not_not]at h;exact⟨X++[.lst ((pts m).map D.int)]++Y,by rw[h];simp only[Vh]⟩
theorem Xuk{B J:Nat}{n m:LL}(U:Du F B J n m){C:Option D}(S:Sto):∃X,ev F G du4 [yz (Xb n),yz (Xb m),C,yy] S=.ok (.int (wid n+wid m)) (S++X):=by obtain⟨X,h1⟩:=Xhx (F:=F) (G:=G) (S:=S) (L:=4) (e:=.var 0) (n:=n) (env:=[yz (Xb n),yz (Xb m),C,yy]) rfl (by simp only[ev,gZ0]) U.n0 (by have:=U.ln;omega);obtain⟨Y,h2⟩:=Xhx (F:=F) (G:=G) (S:=S++X) (L:=4) (e:=.var 1) (n:=m) (env:=[yz (Xb n),yz (Xb m),C,yy]) rfl (by simp only[ev,gZ0,gS0]) U.m0 (by have:=U.lm;omega);refine⟨X++Y,?_⟩;unfold du4;rw[ev,h1,Rk0,h2,Rk0,Y8,Vh]
theorem Xul{n m:LL}{C:Option D}{w:Int}(ln:(lf n)<=60)(S:Sto):ev F G du5 [yz (Xb n),yz (Xb m),C,yz (.int w)] S=.ok (.bl (decide (60<lf n*lf m)||decide (6<w))) S:=by unfold du5;rw[ev,ev,Xue rfl rfl ln,Rk0,<-Xuf];generalize (n.length:Int)*(m.length:Int)=i;simp only[ev,gZ0,gS0,Rk0,Xh,X5,Xg];cases decide (60<i)<;>rfl
theorem X9p{J B i23 c:Nat}{n m:LL}(U:Du F J B n m)(h:jnR n m=yz c)(S:Sto):∃X,den F G (Xdg J B i23) [Xb n,Xb m] S=.ok (Xrn c) (S++X):=by
 obtain⟨X,q,g1,g2⟩:=Xzf (F:=F) (G:=G) (i23:=i23) U S;obtain⟨Y,L⟩:=Xuj (F:=F) (G:=G) U g2;unfold jnR at h;cases a:shr n m with
 |true=>rw[a,iP0 rfl]at h;injection h with h;subst h;rw[a]at L;refine⟨X++Y,Yd (env:=[yz (Xb n),yz (Xb m),yy,yy]) rfl rfl (g1.trans ?_)⟩;rw[<-Vh];exact Xfz L|false=>
  rw[a]at L h;rw[iN0 (by decide)]at h;obtain⟨Z',y2⟩:=Xuk (F:=F) (G:=G) U (C:=yz (.ref q)) (S++X++Y);have y3:=Xul (F:=F) (G:=G) (m:=m) (C:=yz (.ref q)) (w:=wid n+wid m) U.ln (S++X++Y++Z');have hb:(decide (60<lf n*lf m)||decide (6<wid n+wid m))=yx/\c=5:=by
   by_cases b:60<lf n*lf m;·rw[iP0 b]at h;injection h with h;exact⟨by rw[decide_eq_true b,Bool.true_or],h.symm⟩
   ·rw[iN0 b]at h;by_cases d:6<wid n+wid m;·rw[iP0 d]at h;injection h with h;exact⟨by rw[decide_eq_true d,Bool.or_true],h.symm⟩
    ·rw[iN0 d]at h;cases h
  rw[hb.1]at y3;rw[hb.2];refine⟨X++Y++Z',Yd (env:=[yz (Xb n),yz (Xb m),yy,yy]) rfl rfl (g1.trans ?_)⟩;rw[<-Vh,<-Vh];refine(Xd (Xq L)).trans ?_;refine(Xd (Xa0 y2)).trans ?_;exact Xfz y3
theorem X9q{J B i23:Nat}{n m r:LL}(U:Du F J B n m)(h:jnR n m=yy)(hr:∀S,∃X,F i23 [Xb n,Xb m] S=.ok (Xb r) (S++X))(S:Sto):∃X,den F G (Xdg J B i23) [Xb n,Xb m] S=.ok (Xb r) (S++X):=by obtain⟨a,b,d⟩:=Xg8 h;obtain⟨X,q,g1,g2⟩:=Xzf (F:=F) (G:=G) (i23:=i23) U S;obtain⟨Y,y1⟩:=Xuj (F:=F) (G:=G) U g2;rw[a]at y1;obtain⟨L,y2⟩:=Xuk (F:=F) (G:=G) U (C:=yz (.ref q)) (S++X++Y);have y3:=Xul (F:=F) (G:=G) (m:=m) (C:=yz (.ref q)) (w:=wid n+wid m) U.ln (S++X++Y++L);rw[decide_eq_false b,decide_eq_false d,Bool.or_self]at y3;obtain⟨W,y4⟩:=hr (S++X++Y++L);refine⟨X++Y++L++W,Yd (env:=[yz (Xb n),yz (Xb m),yy,yy]) rfl rfl (g1.trans ?_)⟩;refine(Xd (Xq y1)).trans ?_;refine(Xd (Xa0 y2)).trans ?_;refine(Xd (Xq y3)).trans (Xi ?_);simp only[exe,ev,evs,List.set_cons_succ,List.set_cons_zero,gZ0,gS0,Rk0,y4];simp only[Vh]
variable{S' X:Sto}{p:Nat}{d:D}
structure NTh(S:Sto)(a b:Nat)(d:D):Prop where
 sm:Sm S a b d
 gd:good S d
 el:∀xs,d=.tup xs->∀x∈xs,good S x/\∀ys,x=.tup ys->∀y∈ys,good S y
theorem NTh.app{a b:Nat}(h:NTh S a b d):NTh (S++X) a b d:=⟨h.sm.app,Xcv h.gd,λxs z x B=>⟨Xcv (h.el xs z x B).1,λys w y J=>Xcv ((h.el xs z x B).2 ys w y J)⟩⟩
theorem NTh.mono{a b B J:Nat}(h:NTh S a b d)(h1:a<=B)(h2:b<=J):NTh S B J d:=⟨h.sm.mono h1 h2,h.gd,h.el⟩
def Dp(p:Nat)(S:Sto)(a b:Nat)(d:D):Prop:=∀S',Ext p S S'->NTh S' a b d
theorem Dp.mv{a b:Nat}(h:Dp p S a b d)(x:Ext p S S'):Dp p S' a b d:=λS2 y=>h S2 (x.trans y)
theorem Dp.mono{a b B J:Nat}(h:Dp p S a b d)(h1:a<=B)(h2:b<=J):Dp p S B J d:=λS' x=>(h S' x).mono h1 h2
theorem Dp.now{a b:Nat}(h:Dp p S a b d):NTh S a b d:=h S .refl
theorem Xf0{a b:Nat}(h:FSm a b d)(B:∀xs,d≠.tup xs):Dp p S a b d:=λS' _=>⟨h.sm S',h.good S',λxs z=>aB0 z (B xs)⟩
theorem Xe7{i:Int}(h:i.natAbs.log2<1920):Dp p S 0 1921 (.int i):=Xf0 (Xae h) (λ_ z=>nomatch z)
theorem Yp{a b L J:Nat}{xs:LD}(h:∀x∈xs,Dp p S a b x)(U:a+1<=L)(Y:(lf xs)*(b+2)+3<=J):Dp p S L J (.tup xs):=λS' x=>by refine⟨(X6e λy B=>(h y B S' x).sm).mono U Y,Xc3 S' _ (λ_ z=>nomatch z) (λ_ _ z=>nomatch z),λys z y B=>?_⟩;injection z with z;subst z;exact⟨(h y B S' x).gd,λzs w u hu=>((h y B S' x).el zs w u hu).1⟩
theorem Xe8{a b J B q:Nat}{xs:LD}(U:q≠p)(L:Xc S q=yz xs)(h:∀x∈xs,FSm a b x)(Y:a+1<=J)(hb:(lf xs)*(b+2)+2<=B):Dp p S J B (.ref q):=λS' x=>⟨(X11 (x.lst U L) h).mono Y hb,Xtw (x.lst U L),λxs z=>nomatch z⟩
theorem X7f{q:Nat}(B:q≠p)(h:S[q]?=yz (.dct [])):Dp p S 1 2 (.ref q):=λS' x=>⟨X6h (x q _ B h),Xxj (x q _ B h),λxs z=>nomatch z⟩
theorem X7g{l:LI}(h:Xb3 l)(J:(lf l)<=13):FSm 1 26000 (Xa l):=(Xtv (ds:=l.map D.int) (a:=0) (b:=1921) λd hd=>by obtain⟨x,B,rfl⟩:=V0.mp hd;exact Xae (h x B)).mono (Vm _) (by rw[Ve];omega)
theorem Xe9{l:LI}(h:Xb3 l)(J:(lf l)<=13):Dp p S 1 26000 (Xa l):=Yp (a:=0) (b:=1921) (λx B=>by obtain⟨i,hi,rfl⟩:=V0.mp B;exact Xe7 (h i hi)) (by omega) (by rw[Ve];omega)
theorem Xum{n:LL}(h:∀s∈n,Xb3 s/\(lf s)<=13)(J:(lf n)<=13):Dp p S 20 400000 (Xb n):=Yp (a:=1) (b:=26000) (λx B=>by obtain⟨s,hs,rfl⟩:=V0.mp B;exact Xe9 (h s hs).1 (h s hs).2) (by omega) (by rw[Ve];omega)
end
theorem Ya7{l:LI}(h:∀x∈l,0<=x/\x<=15):(ddI l).length<=16:=Xg4 (ddI l) X6p (Xxs l) λx J=>by obtain⟨B,h1⟩:=h x ((Xt6 l x).mp J);obtain⟨n,rfl⟩:=Int.eq_ofNat_of_zero_le B;exact(show ∀n:Nat,n<16->(n:Int)∈X6p by decide) n (by omega)
theorem Xne{k:Nat}:∀ {n:LL},(∀s∈n,lf s<=k)->lf n.flatten<=lf n*k
 |[],_=>by simp|s::n,h=>by have ih:=Xne (n:=n) λt B=>h t (by simp[B]);have:=h s (by simp);simp only[Vbw,Vy,U1,Nat.succ_mul];omega
structure Sid(n:LL):Prop where
 n0:n≠[]
 ln:(lf n)<=60
 l6:∀s∈n,lf s<=6
 r15:∀s∈n,∀x∈s,0<=x/\x<=15
theorem Sid.dd{n:LL}(h:Sid n):(ddI n.flatten).length<=16:=Ya7 λx B=>by obtain⟨s,hs,B⟩:=List.mem_flatten.mp B;exact h.r15 s hs x B
theorem Sid.fl{n:LL}(h:Sid n):(lf n.flatten)<=big:=X67 (by have a:=Xne h.l6;have b:=h.ln;omega)
theorem Sid.pt{n:LL}(h:Sid n):(pts n).length<=16:=by rw[X2b];exact h.dd
theorem Xkm{d:D}(h:Xn d=yx):∃n,d=Xb n/\Sid n:=by
 cases d with
 |tup xs=>
  simp only[Xn,bA0,decide_eq_true_eq]at h;obtain⟨n,U,J,B⟩:=Xc6 h.2.1;have el:(lf n)=lf xs:=by rw[J,Ve]
  refine⟨n,by rw[U];rfl,⟨λz=>?_,by omega,λs hs=>(B s hs).1,λs hs x L=>?_⟩⟩;·rw[z]at el;have:=h.1.1;simp at el;omega
  ·have:=(B s hs).2;simp only[Xg5,bA0,Uk,decide_eq_true_eq]at this;exact this.1 x L|_=>cases h
section
variable{F:Fn}{G:LD}{S:Sto}
noncomputable def Xbs(B:Nat)(s:Str):Df:=⟨1,1,.cons (.ite (.not (c1 B 0)) (.cons (.rse 1 (.cst (.str s))) .nil) .nil) .nil⟩
theorem Xnf{B:Nat}{s:Str}{d:D}{S1:Sto}(h:F B [d] S=.ok (.bl yx) S1):den F G (Xbs B s) [d] S=.ok .non S1:=by
 have r:pc F G (Xbs B s).body [yz d] S=.ok (.nx [yz d]) S1:=by refine(Xd (Xq (S':=S1) ?_)).trans rfl;rw[ev,Y1 (d:=d) rfl,h,Rk0];simp only[Xg,Ut]
 unfold den;rw[iP0 (show([d]:LD).length=(Xbs B s).np from rfl)];have J:pc F G (Xbs B s).body (([d]:LD).map yz++Vu ((Xbs B s).nl-(Xbs B s).np) yy) S=_:=r;rw[J]
theorem X2o{B:Nat}{s:Str}{d:D}{S1:Sto}(h:F B [d] S=.ok (.bl yw) S1):den F G (Xbs B s) [d] S=.ex (lf S1) (S1++[.exc 1]):=by refine Xdu (env:=[yz d]) rfl rfl (Xco (Xc4 ?_));rw[ev,Y1 (d:=d) rfl,h,Rk0];simp only[Xg,Va1]
end
def Pot(p:Nat)(S:Sto):Prop:=∃v,Xc S p=yz [.int v]
theorem Pot.lt{p:Nat}{S:Sto}(h:Pot p S):p<lf S:=by obtain⟨v,h⟩:=h;exact Xcu h
theorem Pot.app{p:Nat}{S X:Sto}(h:Pot p S):Pot p (S++X):=by obtain⟨v,h⟩:=h;exact⟨v,Xl h⟩
theorem Ya8{c:Nat}(B:0<c)(h:c<=99):Xd4 (c:Int)=true:=by
 have:∀j:Fin 100,0<j.val->Xd4 ((j.val:Nat):Int)=true:=by decide+kernel
 exact this ⟨c,by omega⟩ B
section
variable{F:Fn}{G:LD}{S:Sto}{p it:Nat}
theorem tkN{c:Nat}(L:Xal F it)(hp:Pot p S)(U:0<c)(h1:c<=99):∃(a:Nat) (S':Sto),a<c/\F it [.ref p,.int (c:Int)] S=.ok (.int (a:Int)) S'/\Ext p S S'/\Pot p S'/\(lf S')=lf S:=by obtain⟨v,B⟩:=hp;have t:=L p v (c:Int) S B (by omega) (Ya8 U h1);have n0:=Int.emod_nonneg v (show(c:Int)≠0 by omega);have Y:=Int.emod_lt_of_pos v (show(0:Int)<(c:Int) by omega);obtain⟨a,J⟩:∃a:Nat,v%(c:Int)=(a:Int):=⟨(v%(c:Int)).toNat,by omega⟩;rw[J]at t;exact⟨a,_,by omega,t,Ext.set,⟨_,Xdr (Xcu B)⟩,by rw[List.length_set]⟩
theorem tkE{c:Nat}{e:Ex}{env:En}(hF:Xal F it)(h:env[0]?=yz (yz (.ref p)))(U:ev F G e env S=.ok (.int (c:Int)) S)(hp:Pot p S)(Y:0<c)(h1:c<=99):∃(a:Nat) (S':Sto),a<c/\ev F G (tk it e) env S=.ok (.int (a:Int)) S'/\Ext p S S'/\Pot p S'/\(lf S')=lf S:=by obtain⟨a,S',J,L,B⟩:=tkN hF hp Y h1;refine⟨a,S',J,?_,B⟩;unfold tk;simp only[ev,evs,h,Rk0,U,L]
theorem Xf1{q a:Nat}{ds:LD}(h:Xc S q=yz ds)(B:a<lf ds):Xa8 (.ref q) (.int (a:Int)) S=.ok ds[a] S:=by simp only[Xa8,Xa1,Xw,h,Vq,Z.ixN];rw[iP0 (by omega),iP0 (by omega)];simp only[Vq,Vbu,Vk B]
theorem Xdv{d:D}{env:En}:ev F G (.cst d) env S=.ok d S:=by simp only[ev]
theorem Xro{i:Nat}{d:D}{env:En}(h:env[i]?=yz (yz d)):ev F G (.var i) env S=.ok d S:=by simp only[ev,h]
theorem Xbt{e:Ex}{c d:D}{env:En}{S1 S':Sto}(h:env[0]?=yz (yz (.ref p)))(J:ev F G e env S=.ok c S1)(B:F it [.ref p,c] S1=.ok d S'):ev F G (tk it e) env S=.ok d S':=by unfold tk;simp only[ev,evs,h,Rk0,J,B]
theorem Y0{i:Nat}{e:Ex}{d:D}{ss:Sts}{env:En}{S':Sto}(h:ev F G e env S=.ok d S'):pc F G (.cons (.asg (.var i) e) ss) env S=pc F G ss (env.set i (yz d)) S':=Xd (Xa0 h)
theorem Xfa{i j:Nat}{a b:Ex}{x y:D}{ss:Sts}{env:En}{S1 S2:Sto}(h1:ev F G a env S=.ok x S1)(h2:ev F G b env S1=.ok y S2):pc F G (.cons (.par [i,j] (.cons a (.cons b .nil))) ss) env S=pc F G ss ((env.set i (yz x)).set j (yz y)) S2:=Xd (by rw[exe,evs,h1,Rk0,evs,h2];rfl)
theorem Xk3{i c:Nat}{env:En}{b:Bool}(h:env[i]?=yz (yz (.int (c:Int))))(B:decide ((c:Int)<4)=b):ev F G (.cmp .lt (.var i) (.cst (.int 4))) env S=.ok (.bl b) S:=by simp only[ev,h,Rk0,Xh,X5,ltD,B]
theorem Xzg{c:Ex}{e:Ex}{d:D}{ss:Sts}{env:En}{S1:Sto}(hc:ev F G c env S=.ok (.bl yx) S)(B:ev F G e env S=.ok d S1):pc F G (.cons (.ite c (.cons (.ret e) .nil) .nil) ss) env S=.ok (.rt d) S1:=Xi (by rw[exe,hc,Rk0];simp only[Xg];exact Xi (by rw[exe,B];rfl))
theorem Xun{i j c q:Nat}{ds:LD}{env:En}(hi:env[i]?=yz (yz (.ref q)))(J:env[j]?=yz (yz (.int (c:Int))))(B:Xc S q=yz ds)(L:4<=c)(hc:c-4<lf ds):pc F G (.cons (.ret (.idx (.var i) (.bin .sub (.var j) (.cst (.int 4))))) .nil) env S=.ok (.rt ds[c-4]) S:=by
 have hs:(c:Int)-4=((c-4:Nat):Int):=by omega
 refine Xi ?_;simp only[exe,ev,hi,J,Rk0,Xi4,hs,Xf1 B hc]
theorem Xdw{es:Exs}{ds:LD}{env:En}{S1:Sto}(h:evs F G es env S=.ok ds S1)(B:(lf ds)<=99):ev F G (.lst es) env S=.ok (.ref (lf S1)) (S1++[.lst ds]):=by rw[ev,h,Rk0];exact iP0 (X8 (by omega))
theorem Xzh{c:Nat}{ds:LD}{S1:Sto}(hF:Xal F it)(hp:Pot p S1)(hc:(lf ds)=c)(Y:0<c)(h1:c<=99):
  ∃d∈ds,∃S',Ext p S1 S'/\Pot p S'/\∀ {env:En} {S:Sto} {es:Exs},env[0]?=yz (yz (.ref p))->evs F G es env S=.ok ds S1->ev F G (.idx (.lst es) (tk it (.cst (.int (c:Int))))) env S=.ok d S':=by
 obtain⟨a,S',q1,J,B,U,_⟩:=tkN hF (hp.app (X:=[.lst ds])) Y h1;have hl:Xc S' (lf S1)=yz ds:=B.lst (by have:=hp.lt;omega) Xf;refine⟨ds[a],Vbh (by omega),S',Ext.app.trans B,U,λL hs=>?_⟩;rw[ev,Xdw hs (by omega),Rk0,Xbt L Xdv J,Rk0,Xf1 hl (by omega)]
theorem X2p{p:Nat}{S:Sto}(hp:p<lf S):∀d∈Xi9 (lf S),Dp p (S++[.lst [.tup []]]++[.dct []]++[.lst [.int 2]]) 5 30000 d:=by
 intro d hd;have J:Xc (S++[.lst [.tup []]]++[.dct []]++[.lst [.int 2]]) (lf S)=yz [.tup []]:=Xl (Xl Xf);have L:(S++[O.lst [.tup []]]++[.dct []]++[.lst [.int 2]])[lf S+1]?=yz (.dct []):=by refine Xty ?_;have:=X13 (S:=S++[O.lst [.tup []]]) (o:=.dct []);rwa [show(S++[O.lst [.tup []]]).length=lf S+1 by simp]at this
 have U:Xc (S++[.lst [.tup []]]++[.dct []]++[.lst [.int 2]]) (lf S+2)=yz [.int 2]:=by have:=Xf (S:=S++[O.lst [.tup []]]++[O.dct []]) (xs:=[.int 2]);rwa [show(S++[O.lst [.tup []]]++[O.dct []]).length=lf S+2 by simp]at this
 generalize S++[O.lst [.tup []]]++[O.dct []]++[O.lst [.int 2]]=S1 at J L U ⊢;generalize (lf S)=q at hd J L U hp;have one:∀ {x y:D},x∈[y]->x=y:=λh=>V9.mp h;have nt:∀ {d:D} {a b:Nat},FSm a b d->(∀xs,d≠.tup xs)->a<=5->b<=30000->Dp p S1 5 30000 d:=λh t x y=>(Xf0 h t).mono x y;have Y:∀a b,Dp p S1 (a+1) (b+3) (.tup []):=λa b=>Yp (a:=0) (b:=0) (λx B=>by cases B) (by omega) (by simp);unfold Xi9 at hd;simp only[Vn,U9,or_false]at hd;rcases hd with rfl|rfl|rfl|rfl|rfl|rfl|rfl|rfl|rfl|rfl|rfl|rfl|rfl|rfl|rfl|rfl;·exact nt Xtu (λ_ z=>nomatch z) (by omega) (by omega)
 ·exact nt Xhs (λ_ z=>nomatch z) (by omega) (by omega)
 ·exact nt Xhs (λ_ z=>nomatch z) (by omega) (by omega)
 ·exact nt (Xae (by decide)) (λ_ z=>nomatch z) (by omega) (by omega)
 ·exact nt (Xae (by decide)) (λ_ z=>nomatch z) (by omega) (by omega)
 ·exact nt (Xae (by decide)) (λ_ z=>nomatch z) (by omega) (by omega)
 ·exact nt (Xae (by decide+kernel)) (λ_ z=>nomatch z) (by omega) (by omega)
 ·exact nt (Xm1 (by decide+kernel)) (λ_ z=>nomatch z) (by omega) (by omega)
 ·exact nt (Xm1 (by decide+kernel)) (λ_ z=>nomatch z) (by omega) (by omega)
 ·exact(Y 0 0).mono (by omega) (by omega)
 ·exact Yp (a:=1) (b:=3) (λx B=>by rw[one B];exact Y 0 0) (by omega) (by decide)
 ·exact Xe8 (by omega) J (λx B=>by rw[one B];exact X6g) (by omega) (by decide)
 ·exact Yp (λx B=>by rw[one B];exact Xe7 (by decide)) (by omega) (by decide)
 ·exact(X7f (by omega) L).mono (by omega) (by omega)
 ·refine Yp (a:=2) (b:=4000) (λx B=>?_) (by omega) (by show 2*(4000+2)+3<=30000;decide);simp only[Vn,U9,or_false]at B;rcases B with rfl|rfl;·refine Yp (a:=0) (b:=1921) (λx B=>?_) (by omega) (by decide);simp only[Vn,U9,or_false]at B;rcases B with rfl|rfl<;>exact Xe7 (by decide)
  ·exact Xe8 (by omega) U (λx B=>by rw[one B];exact Xae (i:=2) (by decide)) (by omega) (by decide)
 exact Yp (λx B=>by rw[one B];exact Xf0 Xhs (λ_ z=>nomatch z)) (by omega) (by decide)
theorem Xx8(hF:Xal F it)(hp:Pot p S):∃d S',den F G (Xxl it) [.ref p] S=.ok d S'/\Ext p S S'/\Pot p S'/\Dp p S' 5 30000 d:=by
 have Y:=Xxk (F:=F) (G:=G) [yz (.ref p),yy] S;have J:=X2p hp.lt;have x1:Ext p S (S++[.lst [.tup []]]++[.dct []]++[.lst [.int 2]]):=(Ext.app.trans Ext.app).trans .app;have U:Pot p (S++[.lst [.tup []]]++[.dct []]++[.lst [.int 2]]):=hp.app.app.app;have B:(Xi9 (lf S)).length=16:=rfl;generalize S++[O.lst [.tup []]]++[O.dct []]++[O.lst [.int 2]]=S1 at Y J x1 U;generalize Xi9 (lf S)=ds at Y J B;have s1:=Xa0 (i:=1) (F:=F) (G:=G) (e:=.lst Xk0) (env:=[yz (.ref p),yy]) (S:=S) (d:=.ref (lf S1)) (S':=S1++[.lst ds]) (by rw[ev,Y,Rk0];exact iP0 (X8 (by omega)));obtain⟨a,S',q1,q2,L,q4,q5⟩:=tkE (G:=G) (c:=16) (e:=.cst (.int 16)) (env:=[yz (.ref p),yz (.ref (lf S1))]) hF rfl (by simp only[ev];rfl) (U.app (X:=[.lst ds])) (by omega) (by omega);have hl:Xc S' (lf S1)=yz ds:=L.lst (by have:=U.lt;omega) Xf;have ha:a<lf ds:=by omega
 refine⟨ds[a],S',Yd (env:=[yz (.ref p),yy]) rfl rfl ((Xd s1).trans (Xi ?_)),x1.trans (Ext.app.trans L),q4,(J _ (Vbh ha)).mv (Ext.app.trans L)⟩;show exe F G (.ret (.idx (.var 1) (tk it (.cst (.int 16))))) [yz (.ref p),yz (.ref (lf S1))] (S1++[.lst ds])=_;have v1:ev F G (.var 1) [yz (.ref p),yz (.ref (lf S1))] (S1++[.lst ds])=.ok (.ref (lf S1)) (S1++[.lst ds]):=by simp only[ev,gZ0,gS0]
 rw[exe,ev,v1,Rk0,q2,Rk0,Xf1 hl ha,Rk0]
variable{io:Nat}{env:En}
theorem Xf2{i a:Nat}{e:Ex}{xs:LD}(h:env[i]?=yz (yz (.tup xs)))(B:ev F G e env S=.ok (.int (a:Int)) S):ev F G (.sli (.var i) .none (.some e)) env S=.ok (.tup (xs.take a)) S:=by simp only[ev,evo,h,B,Rk0,Xbz,Xa9,Xmz]
theorem Xdx{i a:Nat}{e:Ex}{xs:LD}(h:env[i]?=yz (yz (.tup xs)))(B:ev F G e env S=.ok (.int (a:Int)) S):ev F G (.sli (.var i) (.some e) .none) env S=.ok (.tup (xs.drop a)) S:=by simp only[ev,evo,h,B,Rk0,Xbz,Xa9,Xm9]
theorem Xav{a b:Ex}{x y:LD}(h1:ev F G a env S=.ok (.tup x) S)(h2:ev F G b env S=.ok (.tup y) S)(h:(lf x)+lf y<=1000):ev F G (.bin .add a b) env S=.ok (.tup (x++y)) S:=by rw[ev,h1,Rk0,h2,Rk0,Xg3 x y S h]
noncomputable def e20:Int:=10^(20:Int).toNat
theorem Ya9(S:Sto):X7 .pow (.int 10) (.int 20) S=.ok (.int e20) S:=Xfr (by decide+kernel) S
noncomputable def bfO:Exs:=.cons (.cst (.int 16)) (.cons (.neg (.cst (.int 1))) (.cons (.cst (.bl yx)) (.cons (.cst (.bl yw)) (.cons (.cst .non) (.cons (.cst (.str "1")) (.cons (.tup (.cons (.cst (.int 0)) .nil)) (.cons (.lst (.cons (.cst (.int 1)) .nil)) (.cons (.bin .pow (.cst (.int 10)) (.cst (.int 20))) (.cons (.cst (.int 15)) .nil)))))))))
noncomputable def bfD(q:Nat):LD:=[.int 16,.int (-1),.bl yx,.bl yw,.non,.str "1",.tup [.int 0],.ref q,.int e20,.int 15]
theorem Xuo(env:En)(S:Sto):evs F G bfO env S=.ok (bfD (lf S)) (S++[.lst [.int 1]]):=by
 have h1:([D.int 1]:LD).length<=big:=by decide
 have B:([D.int 0]:LD).length<=big:=by decide
 unfold bfO bfD;simp only[evs,ev,Rk0,Ya9,h1,B,if_true]
theorem X9r{p:Nat}{S:Sto}(hp:p<lf S):∀d∈bfD (lf S),Dp p (S++[.lst [.int 1]]) 2 2000 d:=by
 intro d hd;have J:Xc (S++[.lst [.int 1]]) (lf S)=yz [.int 1]:=Xf;generalize S++[O.lst [.int 1]]=S1 at J ⊢;generalize (lf S)=q at hd J hp;have one:∀ {x y:D},x∈[y]->x=y:=λh=>V9.mp h;have nt:∀ {d:D} {a b:Nat},FSm a b d->(∀xs,d≠.tup xs)->a<=2->b<=2000->Dp p S1 2 2000 d:=λh t x y=>(Xf0 h t).mono x y;unfold bfD at hd;simp only[Vn,U9,or_false]at hd;rcases hd with rfl|rfl|rfl|rfl|rfl|rfl|rfl|rfl|rfl|rfl;·exact nt (Xae (by decide)) (λ_ z=>nomatch z) (by omega) (by omega)
 ·exact nt (Xae (by decide)) (λ_ z=>nomatch z) (by omega) (by omega)
 ·exact nt Xhs (λ_ z=>nomatch z) (by omega) (by omega)
 ·exact nt Xhs (λ_ z=>nomatch z) (by omega) (by omega)
 ·exact nt Xtu (λ_ z=>nomatch z) (by omega) (by omega)
 ·exact nt (Xm1 (by decide+kernel)) (λ_ z=>nomatch z) (by omega) (by omega)
 ·exact Yp (λx B=>by rw[one B];exact Xe7 (by decide)) (by omega) (by decide)
 ·exact Xe8 (by omega) J (λx B=>by rw[one B];exact Xae (i:=1) (by decide)) (by omega) (by decide)
 ·exact nt (Xae (by decide+kernel)) (λ_ z=>nomatch z) (by omega) (by omega)
 exact nt (Xae (by decide)) (λ_ z=>nomatch z) (by omega) (by omega)
noncomputable def bf1(it:Nat):St:=.par [4,5] (.cons (tk it (.cst (.int 10))) (.cons (tk it (.bin .add (.blt .len (.cons (.var 1) .nil)) (.cst (.int 1)))) .nil))
noncomputable def bfB:Ex:=.bin .add (.var 5) (.bin .mod (.var 4) (.cst (.int 2)))
noncomputable def bfM:Ex:=.bin .add (.bin .add (.sli (.var 1) .none (.some (.var 5))) (.tup (.cons (.var 2) .nil))) (.sli (.var 1) (.some bfB) .none)
noncomputable def bfS(io:Nat):Exs:=.cons (.blt .list (.cons (.var 1) .nil)) (.cons (.rev (.var 1)) (.cons (.bin .add (.var 1) (.var 1)) (.cons (.tup (.cons (.var 1) .nil)) (.cons (.call io (.cons (.var 0) .nil)) (.cons (.bin .add (.bin .add (.sli (.var 1) .none (.some (.var 5))) (.sli (.var 1) .none (.some (.cst (.int 1))))) (.sli (.var 1) (.some (.var 5)) .none)) .nil)))))
noncomputable def bf5:St:=.ret (.idx (.var 3) (.bin .sub (.var 4) (.cst (.int 4))))
noncomputable def dBF(it io:Nat):Df:=⟨2,6,.cons (bf1 it) (.cons (.asg (.var 2) (.idx (.lst bfO) (tk it (.cst (.int 10))))) (.cons (.ite (.cmp .lt (.var 4) (.cst (.int 4))) (.cons (.ret bfM) .nil) .nil) (.cons (.asg (.var 3) (.lst (bfS io))) (.cons bf5 .nil))))⟩
theorem X2q{a:Nat}{xs:LD}{J:D}{S1:Sto}(h0:env[0]?=yz (yz (.ref p)))(h1:env[1]?=yz (yz (.tup xs)))(h5:env[5]?=yz (yz (.int (a:Int))))(hl:(lf xs)<=100)(U:F io [.ref p] (S++[.lst xs])=.ok J S1):
  evs F G (bfS io) env S=.ok [.ref (lf S),.tup xs.reverse,.tup (xs++xs),.tup [.tup xs],J,.tup (xs.take a++xs.take 1++xs.drop a)] S1:=by
 have B:∀S,ev F G (.var 1) env S=.ok (.tup xs) S:=λS=>by simp only[ev,h1]
 have L:∀S,ev F G (.var 5) env S=.ok (.int (a:Int)) S:=λS=>by simp only[ev,h5]
 have e1:ev F G (.blt .list (.cons (.var 1) .nil)) env S=.ok (.ref (lf S)) (S++[.lst xs]):=by simp only[ev,evs,h1,Rk0,Xk,Xw]
 have e2:∀S,ev F G (.rev (.var 1)) env S=.ok (.tup xs.reverse) S:=λS=>by simp only[ev,h1,Rk0,Xqk]
 have e3:∀S,ev F G (.bin .add (.var 1) (.var 1)) env S=.ok (.tup (xs++xs)) S:=λS=>Xav (B S) (B S) (by omega);have e4:∀S,ev F G (.tup (.cons (.var 1) .nil)) env S=.ok (.tup [.tup xs]) S:=λS=>Xb4 (B S);have Y:ev F G (.call io (.cons (.var 0) .nil)) env (S++[.lst xs])=.ok J S1:=by simp only[ev,evs,h0,Rk0,U]
 have e6:∀S,ev F G (.bin .add (.bin .add (.sli (.var 1) .none (.some (.var 5))) (.sli (.var 1) .none (.some (.cst (.int 1))))) (.sli (.var 1) (.some (.var 5)) .none)) env S=.ok (.tup (xs.take a++xs.take 1++xs.drop a)) S:=λS=>Xav (Xav (Xf2 h1 (L S)) (Xf2 (a:=1) h1 (by simp only[ev];rfl)) (by simp only[Um];omega)) (Xdx h1 (L S)) (by simp only[Vy,Um,Vbf];omega);unfold bfS;rw[evs,e1,Rk0,evs,e2,Rk0,evs,e3,Rk0,evs,e4,Rk0,evs,Y,Rk0,evs,e6,Rk0,evs];simp only[Rk0]
theorem Xup{i:Nat}{l:LI}(h:env[i]?=yz (yz (Xa l))):ev F G (.bin .add (.blt .len (.cons (.var i) .nil)) (.cst (.int 1))) env S=.ok (.int ((lf l+1:Nat):Int)) S:=by simp only[ev,evs,h,Rk0,Xg1,Y8];rfl
theorem X7h{a c:Nat}(J:env[5]?=yz (yz (.int (a:Int))))(B:env[4]?=yz (yz (.int (c:Int)))):ev F G bfB env S=.ok (.int ((a+c%2:Nat):Int)) S:=by unfold bfB;simp only[ev,J,B,Rk0,Xdq (show(0:Int)<2 by decide),Y8];rfl
theorem X7i{l:LI}(hF:Xal F it)(hO:∀S,Pot p S->∃d S',F io [.ref p] S=.ok d S'/\Ext p S S'/\Pot p S'/\Dp p S' 5 30000 d)(hn:Xb3 l)(hl:(lf l)<=6)(hp:Pot p S):
  ∃d S',den F G (dBF it io) [.ref p,Xa l] S=.ok d S'/\Ext p S S'/\Pot p S'/\Dp p S' 5 30000 d:=by
 obtain⟨c,S1,c1,c2,c3,c4,_⟩:=tkN (c:=10) hF hp (by omega) (by omega);obtain⟨a,S2,a1,a2,a3,a4,_⟩:=tkN (c:=lf l+1) hF c4 (by omega) (by omega);obtain⟨od,m3,J,x3,p3,e3⟩:=Xzh (G:=G) (c:=10) (ds:=bfD (lf S2)) hF (a4.app (X:=[.lst [.int 1]])) rfl (by omega) (by omega);have ko:Dp p J 2 2000 od:=(X9r a4.lt od m3).mv x3;have x0:Ext p S J:=(c3.trans a3).trans (Ext.app.trans x3);have U:∀S x,x∈l.map D.int->Dp p S 2 2000 x:=λS x B=>by obtain⟨i,hi,rfl⟩:=V0.mp B;exact(Xe7 (hn i hi)).mono (by omega) (by omega)
 have ll:(l.map D.int).length=lf l:=Ve ..;rcases Nat.lt_or_ge c 4 with ab|aa
 ·refine⟨.tup ((l.take a).map D.int++[od]++(l.drop (a+c%2)).map D.int),J,Yd rfl rfl ((Xfa (Xbt rfl Xdv c2) (Xbt rfl (Xup rfl) a2)).trans ((Y0 (e3 rfl (Xuo _ S2))).trans (Xzg (Xk3 rfl (decide_eq_true (by omega))) (X6k rfl rfl (Xro rfl) (X7h rfl rfl) (by omega))))),x0,p3,Yp (a:=2) (b:=2000) (λx B=>?_) (by omega) (by simp only[Vy,Ve,Um,Vbf,U2];omega)⟩;rw[Uq,Uq,V9,Vgf,List.map_drop]at B;rcases B with(B|rfl)|B;·exact U J _ (Vd2 B)
  ·exact ko
  exact U J _ (Ve2 B)
 ·obtain⟨d8,Y,h8,x5,p5,k8⟩:=hO (J++[.lst (l.map D.int)]) p3.app;have L:∀d∈[.ref J.length,.tup (l.map D.int).reverse,.tup (l.map D.int++l.map D.int),.tup [.tup (l.map D.int)],d8,.tup ((l.map D.int).take a++(l.map D.int).take 1++(l.map D.int).drop a)],Dp p Y 5 30000 d:=by
   intro d hd;simp only[Vn,U9,or_false]at hd;rcases hd with rfl|rfl|rfl|rfl|rfl|rfl;·exact Xe8 (a:=0) (b:=1921) (by have:=p3.lt;omega) (x5.lst (by have:=p3.lt;omega) Xf) (λx B=>by obtain⟨i,hi,rfl⟩:=V0.mp B;exact Xae (hn i hi)) (by omega) (by omega)
   ·exact Yp (a:=2) (b:=2000) (λx B=>U Y x (List.mem_reverse.mp B)) (by omega) (by rw[List.length_reverse];omega)
   ·exact Yp (a:=2) (b:=2000) (λx B=>U Y x ((Uq.mp B).elim id id)) (by omega) (by rw[Vy];omega)
   ·refine Yp (a:=1) (b:=26000) (λx B=>?_) (by omega) (by show 1*(26000+2)+3<=30000;decide);rw[V9.mp B];exact Xe9 hn (by omega)
   ·exact k8
   refine Yp (a:=2) (b:=2000) (λx B=>U Y x ?_) (by omega) (by simp only[Vy,Um,Vbf];omega);rw[Uq,Uq]at B;exact B.elim (λh=>h.elim Vd2 Vd2) Ve2
  exact⟨_,_,Yd rfl rfl ((Xfa (Xbt rfl Xdv c2) (Xbt rfl (Xup rfl) a2)).trans ((Y0 (e3 rfl (Xuo _ S2))).trans ((Xd (Xq (Xk3 rfl (decide_eq_false (by omega))))).trans ((Y0 (Xdw (X2q rfl rfl rfl (by omega) h8) (by show 6<=99;decide))).trans (Xun rfl rfl Xf aa (by show c-4<6;omega)))))),(x0.trans (Ext.app.trans x5)).trans .app,p5.app,(L _ (Vbh _)).mv .app⟩
variable{ib:Nat}
structure Rws(k:Nat)(n:LL):Prop where
 n0:n≠[]
 ln:(lf n)<=k
 rw6:∀s∈n,Xb3 s/\(lf s)<=6
noncomputable def up1(v:Nat):Ex:=.bin .add (.var v) (.cst (.int 1))
noncomputable def sl0:Ex:=.sli (.var 1) .none (.some (.var 6))
noncomputable def sl1:Ex:=.sli (.var 1) (.some (up1 6)) .none
noncomputable def bnM:Ex:=.bin .add (.bin .add sl0 (.tup (.cons (.var 3) .nil))) sl1
noncomputable def bnT(e:Ex):Ex:=.blt .tuple (.cons (.blt .srt (.cons (.bin .add (.var 1) (.tup (.cons e .nil))) .nil)) .nil)
noncomputable def bnA:Exs:=.cons (.bin .add sl0 sl1) (.cons (.rev (.var 1)) (.cons (.bin .add (.var 1) (.sli (.var 1) .none (.some (.cst (.int 1))))) (.cons (.blt .list (.cons (.var 1) .nil)) (.cons (.tup (.cons (.var 1) .nil)) (.cons (bnT (.sli (.var 2) (.some (.cst (.int 1))) .none)) .nil)))))
noncomputable def bnB(io:Nat):Exs:=.cons (bnT (.bin .add (.var 2) (.tup (.cons (.cst (.int 15)) .nil)))) (.cons (.call io (.cons (.var 0) .nil)) (.cons (.bin .add (.bin .add sl0 (.tup (.cons (.var 2) (.cons (.var 2) .nil)))) sl1) .nil))
noncomputable def bn1(it:Nat):St:=.par [5,6] (.cons (tk it (.cst (.int 13))) (.cons (tk it (.blt .len (.cons (.var 1) .nil))) .nil))
noncomputable def bn7:St:=.ret (.idx (.var 4) (.bin .sub (.var 5) (.cst (.int 4))))
noncomputable def bn3(ib:Nat):Ex:=.call ib (.cons (.var 0) (.cons (.var 2) .nil))
noncomputable def dBN(it io ib:Nat):Df:=⟨2,7,.cons (bn1 it) (.cons (.asg (.var 2) (.idx (.var 1) (.var 6))) (.cons (.asg (.var 3) (bn3 ib)) (.cons (.ite (.cmp .lt (.var 5) (.cst (.int 4))) (.cons (.ret bnM) .nil) .nil) (.cons (.asg (.var 4) (.lst bnA)) (.cons (.asg (.var 4) (.bin .add (.var 4) (.lst (bnB io)))) (.cons bn7 .nil))))))⟩
theorem Xx9{n r:LL}(B:Xah n=yz r)(S:Sto):Xk .srt [Xb n] S=.ok (.ref (lf S)) (S++[.lst (r.map Xa)]):=by unfold Xb;simp only[Xk,Xri,B];rfl
theorem Xuq{e:Ex}{n r:LL}{s:LI}(h1:env[1]?=yz (yz (Xb n)))(J:∀S,ev F G e env S=.ok (Xa s) S)(Y:(lf n)<=60)(U:Xah (n++[s])=yz r)(S:Sto):ev F G (bnT e) env S=.ok (Xb r) (S++[.lst (r.map Xa)]):=by
 have B:ev F G (.var 1) env S=.ok (.tup (n.map Xa)) S:=by simp only[ev,h1];rfl
 have a:=Xav B (Xb4 (J S)) (by rw[Ve,U2];omega);have L:D.tup (n.map Xa++[Xa s])=Xb (n++[s]):=by unfold Xb;rw[Vae];rfl
 rw[L]at a;unfold bnT;rw[ev,evs,ev,evs,a];simp only[Rk0,evs,Xx9 U];simp only[Xk,Xw,Xf];rfl
theorem X2r{a:Nat}{n r:LL}{s:LI}(h1:env[1]?=yz (yz (Xb n)))(h2:env[2]?=yz (yz (Xa s)))(J:env[6]?=yz (yz (.int (a:Int))))(L:(lf n)<=60)(hr:Xah (n++[s.drop 1])=yz r)(S:Sto):
  evs F G bnA env S=.ok [.tup ((n.map Xa).take a++(n.map Xa).drop (a+1)),.tup (n.map Xa).reverse,.tup (n.map Xa++(n.map Xa).take 1),.ref (lf S),.tup [Xb n],Xb r] (S++[.lst (n.map Xa)]++[.lst (r.map Xa)]):=by
 have U:(n.map Xa).length<=60:=by rw[Ve];exact L
 have B:∀S,ev F G (.var 1) env S=.ok (.tup (n.map Xa)) S:=λS=>by simp only[ev,h1];rfl
 have v6:∀S,ev F G (.var 6) env S=.ok (.int (a:Int)) S:=λS=>by simp only[ev,J]
 have u6:∀S,ev F G (up1 6) env S=.ok (.int ((a+1:Nat):Int)) S:=λS=>by unfold up1;simp only[ev,J,Rk0,Y8];rfl
 have e1:∀S,ev F G (.bin .add sl0 sl1) env S=.ok (.tup ((n.map Xa).take a++(n.map Xa).drop (a+1))) S:=λS=>Xav (Xf2 h1 (v6 S)) (Xdx h1 (u6 S)) (by simp only[Um,Vbf];omega);have e2:∀S,ev F G (.rev (.var 1)) env S=.ok (.tup (n.map Xa).reverse) S:=λS=>by rw[ev,B,Rk0];rfl
 have e3:∀S,ev F G (.bin .add (.var 1) (.sli (.var 1) .none (.some (.cst (.int 1))))) env S=.ok (.tup (n.map Xa++(n.map Xa).take 1)) S:=λS=>Xav (B S) (Xf2 (a:=1) h1 (by simp only[ev];rfl)) (by simp only[Um];omega);have e4:∀S,ev F G (.blt .list (.cons (.var 1) .nil)) env S=.ok (.ref (lf S)) (S++[.lst (n.map Xa)]):=λS=>by rw[ev,evs,B];simp only[Rk0,evs,Xk,Xw]
 have Y:∀S,ev F G (.tup (.cons (.var 1) .nil)) env S=.ok (.tup [Xb n]) S:=λS=>Xb4 (B S)
 have e6:=Xuq (F:=F) (G:=G) (e:=.sli (.var 2) (.some (.cst (.int 1))) .none) (s:=s.drop 1) h1 (λS=>by
  have:=Xdx (F:=F) (G:=G) (S:=S) (a:=1) (e:=.cst (.int 1)) (xs:=s.map D.int) h2 (by simp only[ev];rfl)
  rw[this,<-List.map_drop];rfl) L hr (S++[.lst (n.map Xa)])
 unfold bnA;rw[evs,e1,Rk0,evs,e2,Rk0,evs,e3,Rk0,evs,e4,Rk0,evs,Y,Rk0,evs,e6,Rk0,evs];simp only[Rk0]
theorem X2s{a:Nat}{n r:LL}{s:LI}{B:D}{S1:Sto}(h0:env[0]?=yz (yz (.ref p)))(h1:env[1]?=yz (yz (Xb n)))(h2:env[2]?=yz (yz (Xa s)))(J:env[6]?=yz (yz (.int (a:Int))))(L:(lf n)<=60)(ls:(lf s)<=6)(hr:Xah (n++[s++[15]])=yz r)(Y:F io [.ref p] (S++[.lst (r.map Xa)])=.ok B S1):
  evs F G (bnB io) env S=.ok [Xb r,B,.tup ((n.map Xa).take a++[Xa s,Xa s]++(n.map Xa).drop (a+1))] S1:=by
 have U:(n.map Xa).length<=60:=by rw[Ve];exact L
 have v2:∀S,ev F G (.var 2) env S=.ok (Xa s) S:=λS=>by simp only[ev,h2]
 have v6:∀S,ev F G (.var 6) env S=.ok (.int (a:Int)) S:=λS=>by simp only[ev,J]
 have u6:∀S,ev F G (up1 6) env S=.ok (.int ((a+1:Nat):Int)) S:=λS=>by unfold up1;simp only[ev,J,Rk0,Y8];rfl
 have e6:=Xuq (F:=F) (G:=G) (e:=.bin .add (.var 2) (.tup (.cons (.cst (.int 15)) .nil))) (s:=s++[15]) h1 (λS=>by
  have:=Xav (F:=F) (G:=G) (S:=S) (v2 S) (Xb4 (e:=.cst (.int 15)) (d:=.int 15) (by simp only[ev])) (by rw[Ve,U2];omega)
  rw[this];unfold Xa;rw[Vae];rfl) L hr S
 have e7:ev F G (.call io (.cons (.var 0) .nil)) env (S++[.lst (r.map Xa)])=.ok B S1:=by simp only[ev,evs,h0,Rk0,Y]
 have e0:∀S,ev F G (.tup (.cons (.var 2) (.cons (.var 2) .nil))) env S=.ok (.tup [Xa s,Xa s]) S:=λS=>by
  have hb:([Xa s,Xa s]:LD).length<=big:=by show 2<=big;decide
  simp only[ev,evs,h2,Rk0,hb,if_true]
 have e8:∀S,ev F G (.bin .add (.bin .add sl0 (.tup (.cons (.var 2) (.cons (.var 2) .nil)))) sl1) env S=.ok (.tup ((n.map Xa).take a++[Xa s,Xa s]++(n.map Xa).drop (a+1))) S:=λS=>Xav (Xav (Xf2 h1 (v6 S)) (e0 S) (by simp only[Um,U1,Vc8];omega)) (Xdx h1 (u6 S)) (by simp only[Vy,Um,Vbf,U1,Vc8];omega);unfold bnB;rw[evs,e6,Rk0,evs,e7,Rk0,evs,e8,Rk0,evs];simp only[Rk0]
theorem Xya{s:LI}(h:Xb3 s):Xb3 (s++[15]):=λx B=>by
 rcases Uq.mp B with B|B;·exact h x B
 ·rw[V9.mp B];decide
theorem Xur{s:LI}(h:Xb3 s):Xb3 (s.drop 1):=λx B=>h x (Ve2 B)
theorem Xus{n r:LL}{s:LI}(h:Rws 11 n)(hs:Xb3 s)(J:(lf s)<=7)(hp:r.Perm (n++[s])):Dp p S 20 400000 (Xb r):=Xum (λt B=>by
 rcases Uq.mp (hp.mem_iff.mp B) with h1|h1;·exact⟨(h.rw6 t h1).1,by have:=(h.rw6 t h1).2;omega⟩
 ·rw[V9.mp h1];exact⟨hs,by omega⟩) (by have:=hp.length_eq;rw[Vy,U2]at this;have:=h.ln;omega)
theorem Xyb{xs:LD}{a:Nat}(h:a<lf xs)(S:Sto):Xa8 (.tup xs) (.int (a:Int)) S=.ok xs[a] S:=by simp only[Xa8,Xa1,Xw,Vq,Z.ixN];rw[iP0 (by omega),iP0 (by omega)];simp only[Vq,Vbu,Vk h]
theorem X7j{a b:Ex}{x y z:D}{S1 S2 B:Sto}(h1:ev F G a env S=.ok x S1)(h2:ev F G b env S1=.ok y S2)(J:X7 .add x y S2=.ok z B):ev F G (.bin .add a b) env S=.ok z B:=by rw[ev,h1,Rk0,h2,Rk0,J]
theorem X9s{i a:Nat}(h:env[i]?=yz (yz (.int (a:Int)))):ev F G (up1 i) env S=.ok (.int ((a+1:Nat):Int)) S:=by unfold up1;simp only[ev,h,Rk0,Y8];rfl
theorem Xut{i:Nat}{n:LL}(h:env[i]?=yz (yz (Xb n))):ev F G (.blt .len (.cons (.var i) .nil)) env S=.ok (.int (n.length:Int)) S:=by simp only[ev,evs,h,Rk0,Xg7]
theorem X7k{n:LL}(hF:Xal F it)(hO:∀S,Pot p S->∃d S',F io [.ref p] S=.ok d S'/\Ext p S S'/\Pot p S'/\Dp p S' 5 30000 d)(hB:∀(l:LI) S,Xb3 l->lf l<=6->Pot p S->∃d S',F ib [.ref p,Xa l] S=.ok d S'/\Ext p S S'/\Pot p S'/\Dp p S' 5 30000 d)(hn:Rws 11 n)(hp:Pot p S):
  ∃d S',den F G (dBN it io ib) [.ref p,Xb n] S=.ok d S'/\Ext p S S'/\Pot p S'/\Dp p S' 20 400000 d:=by
 have l0:0<lf n:=List.length_pos_iff.mpr hn.n0;have am:=hn.ln;have ll:(n.map Xa).length=lf n:=Ve ..;obtain⟨c,S1,c1,c2,c3,c4,_⟩:=tkN (c:=13) hF hp (by omega) (by omega);obtain⟨a,S2,a1,a2,a3,a4,_⟩:=tkN (c:=n.length) hF c4 (by omega) (by omega);have B:=Xyb (xs:=n.map Xa) (a:=a) (by omega) S2;have hs:=hn.rw6 _ (Vbh a1);rw[List.getElem_map]at B;generalize n[a]=s at hs B;obtain⟨bt,J,b1,b2,b3,kb⟩:=hB s S2 hs.1 hs.2 a4;have x0:Ext p S J:=(c3.trans a3).trans b2;have g2:∀ {env:En},env[1]?=yz (yz (Xb n))->env[6]?=yz (yz (.int (a:Int)))->ev F G (.idx (.var 1) (.var 6)) env S2=.ok (Xa s) S2:=λh1 h6=>by have af:Xa8 (Xb n) (.int (a:Int)) S2=.ok (Xa s) S2:=B;simp only[ev,h1,h6,Rk0,af]
 have g3:∀ {env:En},env[0]?=yz (yz (.ref p))->env[2]?=yz (yz (Xa s))->ev F G (bn3 ib) env S2=.ok bt J:=λh0 h2=>by unfold bn3;simp only[ev,evs,h0,h2,Rk0,b1]
 have dr:∀S x,x∈n.map Xa->Dp p S 5 30000 x:=λS x B=>by obtain⟨t,U,rfl⟩:=V0.mp B;exact(Xe9 (hn.rw6 t U).1 (by have:=(hn.rw6 t U).2;omega)).mono (by omega) (by omega)
 have d3:∀ {S:Sto} {ys:LD},(∀y∈ys,Dp p S 5 30000 y)->lf ys<=2->Dp p S 20 400000 (.tup ((n.map Xa).take a++ys++(n.map Xa).drop (a+1))):=λL hl=>Yp (a:=5) (b:=30000) (λx B=>by rw[Uq,Uq]at B;exact B.elim (λh=>h.elim (λh=>dr _ _ (Vd2 h)) (L x)) λh=>dr _ _ (Ve2 h)) (by omega) (by simp only[Vy,Um,Vbf];omega);rcases Nat.lt_or_ge c 4 with al|aj
 ·exact⟨_,J,Yd rfl rfl ((Xfa (Xbt rfl Xdv c2) (Xbt rfl (Xut rfl) a2)).trans ((Y0 (g2 rfl rfl)).trans ((Y0 (g3 rfl rfl)).trans (Xzg (Xk3 rfl (decide_eq_true (by omega)))
   (Xav (Xav (Xf2 rfl (Xro rfl)) (Xb4 (Xro rfl)) (by simp only[Um,U2];omega)) (Xdx rfl (X9s rfl)) (by simp only[Vy,Um,Vbf,U2];omega)))))),x0,b3,d3 (λy L=>by rw[V9.mp L];exact kb) (by show 1<=2;decide)⟩
 ·obtain⟨r1,ag,ah⟩:=Xcz (n++[s.drop 1]) (by rw[Vy,U2];omega);obtain⟨r2,ai,pr2⟩:=Xcz (n++[s++[15]]) (by rw[Vy,U2];omega);have q3:(lf J)≠p:=by have:=b3.lt;omega
  have kA:∀S',Ext p (J++[.lst (n.map Xa)]++[.lst (r1.map Xa)]) S'->∀d∈[.tup ((n.map Xa).take a++(n.map Xa).drop (a+1)),.tup (n.map Xa).reverse,.tup (n.map Xa++(n.map Xa).take 1),.ref J.length,.tup [Xb n],Xb r1],Dp p S' 20 400000 d:=by
   intro S' xS d hd;simp only[Vn,U9,or_false]at hd;rcases hd with rfl|rfl|rfl|rfl|rfl|rfl;·have:=d3 (S:=S') (ys:=[]) (λy L=>by cases L) (by decide);rwa [V3]at this
   ·exact Yp (a:=5) (b:=30000) (λx B=>dr S' x (List.mem_reverse.mp B)) (by omega) (by rw[List.length_reverse];omega)
   ·exact Yp (a:=5) (b:=30000) (λx B=>dr S' x ((Uq.mp B).elim id Vd2)) (by omega) (by simp only[Vy,Um];omega)
   ·refine Xe8 (a:=1) (b:=26000) q3 (xS.lst q3 (Xl Xf)) (λx B=>?_) (by omega) (by omega);obtain⟨t,U,rfl⟩:=V0.mp B;exact X7g (hn.rw6 t U).1 (by have:=(hn.rw6 t U).2;omega)
   ·refine Yp (a:=2) (b:=390000) (λx B=>?_) (by omega) (by show 1*(390000+2)+3<=400000;decide);rw[V9.mp B];refine Yp (a:=1) (b:=26000) (λx B=>?_) (by omega) (by omega);obtain⟨t,U,rfl⟩:=V0.mp B;exact Xe9 (hn.rw6 t U).1 (by have:=(hn.rw6 t U).2;omega)
   exact Xus hn (Xur hs.1) (by rw[Vbf];omega) ah
  have p4:Pot p (J++[.lst (n.map Xa)]++[.lst (r1.map Xa)]):=b3.app.app;have hA:∀ {env:En},env[1]?=yz (yz (Xb n))->env[2]?=yz (yz (Xa s))->env[6]?=yz (yz (.int (a:Int)))->_:=λ{env} h1 h2 h6=>X2r (F:=F) (G:=G) (env:=env) h1 h2 h6 (by omega) ag J;have x4:Ext p J (J++[.lst (n.map Xa)]++[.lst (r1.map Xa)]):=Ext.app.trans .app;generalize ae:[.tup ((n.map Xa).take a++(n.map Xa).drop (a+1)),.tup (n.map Xa).reverse,.tup (n.map Xa++(n.map Xa).take 1),.ref J.length,.tup [Xb n],Xb r1]=ds at hA kA;have ao:(lf ds)=6:=by rw[<-ae];rfl
  generalize J++[O.lst (n.map Xa)]++[O.lst (r1.map Xa)]=S4 at hA p4 x4 kA;obtain⟨d8,Y,h8,x5,p5,k8⟩:=hO (S4++[.lst ds]++[.lst (r2.map Xa)]) p4.app.app;have ab:Ext p S4 Y:=(Ext.app.trans Ext.app).trans x5;have kB:∀d∈[Xb r2,d8,.tup ((n.map Xa).take a++[Xa s,Xa s]++(n.map Xa).drop (a+1))],Dp p Y 20 400000 d:=by
   intro d hd;simp only[Vn,U9,or_false]at hd;rcases hd with rfl|rfl|rfl;·exact Xus hn (Xya hs.1) (by rw[Vy,U2];omega) pr2
   ·exact k8.mono (by omega) (by omega)
   refine d3 (λy L=>?_) (by show 2<=2;decide);simp only[Vn,U9,or_false,or_self]at L;subst L;exact(Xe9 hs.1 (by omega)).mono (by omega) (by omega)
  have ac:∀ {env:En},env[0]?=yz (yz (.ref p))->env[1]?=yz (yz (Xb n))->env[2]?=yz (yz (Xa s))->env[6]?=yz (yz (.int (a:Int)))->_:=λ{env} h0 h1 h2 h6=>X2s (F:=F) (G:=G) (env:=env) h0 h1 h2 h6 (by omega) hs.2 ai h8;generalize ak:[Xb r2,d8,.tup ((n.map Xa).take a++[Xa s,Xa s]++(n.map Xa).drop (a+1))]=es at ac kB;have an:(lf es)=3:=by rw[<-ak];rfl
  have ha:=X10 (S:=Y++[.lst es]) (a:=S4.length) (b:=Y.length) (x:=ds) (Xl (x5.lst (by have:=p4.lt;omega) (Xl Xf))) Xf (by omega);have aa:c-4<(ds++es).length:=by rw[Vy];omega
  have x6:Ext p Y (Y++[.lst es]++[.lst (ds++es)]):=Ext.app.trans .app;refine⟨(ds++es)[c-4],_,Yd rfl rfl ((Xfa (Xbt rfl Xdv c2) (Xbt rfl (Xut rfl) a2)).trans ((Y0 (g2 rfl rfl)).trans ((Y0 (g3 rfl rfl)).trans ((Xd (Xq (Xk3 rfl (decide_eq_false (by omega))))).trans ((Y0 (Xdw (hA rfl rfl rfl) (by omega))).trans ((Y0 (X7j (Xro rfl) (Xdw (ac rfl rfl rfl rfl) (by omega)) ha)).trans (Xun rfl rfl Xf aj aa))))))),((x0.trans x4).trans ab).trans x6,p5.app.app,?_⟩;rcases Uq.mp (Vbh aa) with h|h;·exact kA _ (ab.trans x6) _ h
  ·exact(kB _ h).mv x6
end
noncomputable def Xbu(ks:LL)(f:LI):Bool:=(ks.filter λo=>!decide (o=f)&&lie f o).isEmpty
noncomputable def grt(ks:LL):LL:=(Yr (ddL ks)).filter (Xbu ks)
theorem X2t{acc:LL}{k y:LI}:y∈ddR acc k ↔ y∈acc\/y=k:=by
 unfold ddR;split
 ·rename_i h;constructor;·exact .inl
  ·rintro (h1|rfl);·exact h1
   ·exact h
 rw[Uq,V9]
theorem Xng:∀(l acc:LL) (y:LI),y∈l.foldl ddR acc ↔ y∈acc\/y∈l
 |[]=>λacc y=>by simp|k::l=>λacc y=>by rw[Vel,Xng l,X2t,Vn,or_assoc]
theorem X2u(l:LL)(y:LI):y∈ddL l ↔ y∈l:=by unfold ddL;rw[Xng];simp
theorem srt_mem{ks:LL}{y:LI}:y∈Yr (ddL ks) ↔ y∈ks:=((Xas _).mem_iff).trans (X2u ks y)
theorem X2v{ks:LL}{y:LI}(h:y∈grt ks):y∈ks:=srt_mem.mp (Vbz.mp h).1
theorem X2w(ks:LL):(grt ks).length<=lf ks:=by refine Uv (List.length_filter_le _ _) ?_;rw[(Xas _).length_eq];have:=Xcb ks [];unfold ddL;simpa using this
theorem X2x{a b:LI}(h:lie a b=yx):∀x∈a,x∈b:=λx B=>oD0 (Uk.mp h x B)
theorem X7l{f o:LI}(J:f.Pairwise (· < ·))(L:o.Pairwise (· < ·))(h:∀x∈f,x∈o)(Y:(lf o)<=lf f):o=f:=by
 have nd:f.Nodup:=J.imp λh=>Int.ne_of_lt h;refine Xg6 L J λx=>⟨λU=>?_,h x⟩;by_cases c:x∈f;·exact c
 ·have:=Xg4 (x::f) o (Vcm.mpr ⟨c,nd⟩) (λy B=>by
   rcases Vn.mp B with rfl|B;·exact U
   ·exact h y B)
  rw[U1]at this;omega
theorem Xuu:∀ {ks:LL},ks≠[]->∃f∈ks,∀o∈ks,lf o<=lf f
 |[],h=>aB0 rfl h|[k],_=>⟨k,by simp,λo B=>by rw[V9.mp B];exact Vm _⟩|k::l::r,_=>by
  obtain⟨f,h1,h2⟩:=Xuu (ks:=l::r) (by simp);by_cases c:(lf k)<=lf f
  ·exact⟨f,V5 _ h1,λo B=>by
    rcases Vn.mp B with rfl|B;·exact c
    ·exact h2 o B⟩
  exact⟨k,Vz ..,λo B=>by
   rcases Vn.mp B with rfl|B;·exact Vm _
   ·have:=h2 o B;omega⟩
theorem X7m{ks:LL}(L:ks≠[])(J:∀s∈ks,s.Pairwise (· < ·)):grt ks≠[]:=by
 obtain⟨f,h1,h2⟩:=Xuu L;have U:Xbu ks f=true:=by unfold Xbu;rw[Va5,List.filter_eq_nil_iff];intro o B z;rw[bA0]at z;have e:=X7l (J f h1) (J o B) (X2x z.2) (h2 o B);rw[e]at z;simp at z
 exact List.ne_nil_of_mem (Vbz.mpr ⟨srt_mem.mpr h1,U⟩)
section
variable{F:Fn}{G:LD}{S:Sto}{t:Tg}{ifs:Exs}{elt:Ex}{env:En}{n:Nat}
theorem X2y{q:Nat}{e:Ex}{xs:LD}(b:D->Bool)(y:D->D)(P:En->Prop)(Y:ev F G e env S=.ok (.ref q) S)(J:Xc S q=yz xs)(U:(lf xs)<=big)(h0:P (env++Vu n yy))
  (step:∀d∈xs,∀e X,P e->∃B L,Xu t d e=yz B/\P B/\evts F G ifs B (S++X)=.ok (b d) (S++L)/\(b d=yx->∃X2,ev F G elt B (S++L)=.ok (y d) (S++X2))):
  ∃X,ev F G (.cmr yw n (.cons t (.val e) ifs .nil) elt) env S=.ok (.ref (S++X).length) (S++X++[.lst ((xs.filter b).map y)]):=Xpz b y P (Xe6 Y J) (by simp only[Src.most,J,Vcw]) (λX i=>by simp only[Src.get,Xl J,V2]) U h0 step
variable{i17:Nat}
noncomputable def grE(i17:Nat):Ex:=.cmr yw 2 (.cons (.var 4) (.val (.var 0)) (.cons (.and (.cmp .ne (.var 4) (.var 2)) (.call i17 (.cons (.var 2) (.cons (.var 4) .nil)))) .nil) .nil) (.var 4)
noncomputable def grB(i17:Nat):Sts:=.cons (.ite (.cmp .eq (grE i17) (.lst .nil)) (.cons (.expr (.mth .append (.var 1) (.cons (.var 2) .nil))) .nil) .nil) .nil
noncomputable def dGr(i17:Nat):Df:=⟨1,3,.cons (.asg (.var 1) (.lst .nil)) (.cons (.for (.var 2) (.val (.sst (.var 0))) (grB i17)) (.cons (.ret (.blt .tuple (.cons (.var 1) .nil))) .nil))⟩
theorem X7n{q:Nat}{ks:LL}{f:LI}{C:Option D}(hq:Xc S q=yz (ks.map Xa))(hl:(lf ks)<=60)(U:∀(o:LI) S,∃X,F i17 [Xa f,Xa o] S=.ok (.bl (lie f o)) (S++X)):
  ∃X,ev F G (.cmp .eq (grE i17) (.lst .nil)) [yz (.ref q),C,yz (Xa f)] S=.ok (.bl (Xbu ks f)) (S++X):=by
 obtain⟨X,B⟩:=X2y (F:=F) (G:=G) (S:=S) (n:=2) (t:=.var 4) (e:=.var 0) (ifs:=.cons (.and (.cmp .ne (.var 4) (.var 2)) (.call i17 (.cons (.var 2) (.cons (.var 4) .nil)))) .nil) (elt:=.var 4) (env:=[yz (.ref q),C,yz (Xa f)]) (xs:=ks.map Xa) (λd=>!decide (Xo d=f)&&lie f (Xo d)) id (λe=>∃x,e=[yz (.ref q),C,yz (Xa f),yy,x])
  (by simp only[ev,gZ0]) hq (by rw[Ve];exact X8 (by omega)) ⟨yy,rfl⟩
  (λd hd e X he=>by
   obtain⟨x,rfl⟩:=he;obtain⟨o,ho,rfl⟩:=V0.mp hd;obtain⟨Y,hY⟩:=U o (S++X);have ne:=Xpw o f (S++X);cases c:decide (o=f) with
   |true=>
    rw[c]at ne;refine⟨[yz (.ref q),C,yz (Xa f),yy,yz (Xa o)],X,rfl,⟨_,rfl⟩,?_,λz=>?_⟩;·simp only[evts,ev,gZ0,gS0,Rk0,ne,Ut,Xg,ints_of,c,Vbl]
    ·rw[ints_of,c]at z;cases z|false=>
    rw[c]at ne;refine⟨[yz (.ref q),C,yz (Xa f),yy,yz (Xa o)],X++Y,rfl,⟨_,rfl⟩,?_,λ_=>⟨X++Y,by simp only[ev,gZ0,gS0,id]⟩⟩
    simp only[evts,ev,evs,gZ0,gS0,Rk0,ne,Va1,Xg,ints_of,c,Vbc,hY];rw[Vh];cases lie f o<;>rfl)
 have e1:((ks.map Xa).filter λd=>!decide (Xo d=f)&&lie f (Xo d)).map id=(ks.filter λo=>!decide (o=f)&&lie f o).map Xa:=by rw[List.map_id,Vfd];congr 1;refine List.filter_congr λs _=>?_;simp only[Vdd,ints_of]
 rw[e1]at B;have J:ev F G (grE i17) [yz (.ref q),C,yz (Xa f)] S=_:=B;have hn:ev F G (.lst .nil) [yz (.ref q),C,yz (Xa f)] (S++X++[.lst ((ks.filter λo=>!decide (o=f)&&lie f o).map Xa)])=.ok (.ref (S++X++[O.lst ((ks.filter λo=>!decide (o=f)&&lie f o).map Xa)]).length) (S++X++[.lst ((ks.filter λo=>!decide (o=f)&&lie f o).map Xa)]++[.lst []]):=by simp only[ev,evs,Rk0];exact iP0 (X8 (by simp))
 have L:=Xm2 (S:=S++X++[.lst ((ks.filter λo=>!decide (o=f)&&lie f o).map Xa)]++[.lst []]) (a:=(S++X).length) (b:=(S++X++[O.lst ((ks.filter λo=>!decide (o=f)&&lie f o).map Xa)]).length) (Xl Xf) Xf;have e2:((ks.filter λo=>!decide (o=f)&&lie f o).map Xa).isEmpty=Xbu ks f:=by unfold Xbu;cases ks.filter λo=>!decide (o=f)&&lie f o<;>rfl
 rw[e2]at L;refine⟨X++[.lst ((ks.filter λo=>!decide (o=f)&&lie f o).map Xa)]++[.lst []],?_⟩;rw[ev,J,Rk0,hn,Rk0,L];simp only[Vh]
theorem X2z{q:Nat}{ks:LL}{env:En}(Y:ks≠[])(hl:(lf ks)<=60)(L:env[0]?=yz (yz (.ref q)))(hq:Xc S q=yz (ks.map Xa)):ev F G (.sst (.var 0)) env S=.ok (.ref (lf S)) (S++[.lst ((Yr (ddL ks)).map Xa)]):=by
 have U:Yg (ks.map Xa)=yz ks:=Xri ks;have J:Xm (ks.map Xa)=none:=by
  cases ks with
  |nil=>cases Y rfl|cons a r=>rfl
 have B:(ddL ks).length<61:=by have:=Xcb ks [];unfold ddL;simp only[Vc8,Vfi]at this;omega
 simp only[ev,L,Rk0,hq,Xac,J,U,B,if_true];rfl
theorem Xyc{α:Type}(b:α->Bool)(l:List α)(i:Nat)(hi:i<lf l):(l.take (i+1)).filter b=(l.take i).filter b++(if b l[i] then [l[i]] else []):=by rw[Vev,Vk hi,List.filter_append];congr 1;simp only[Option.toList,Vgl,List.filter_nil]
theorem X7o{q:Nat}{ks:LL}(h0:ks≠[])(hl:(lf ks)<=60)(hq:Xc S q=yz (ks.map Xa))(ag:∀f∈ks,∀(o:LI) S,∃X,F i17 [Xa f,Xa o] S=.ok (.bl (lie f o)) (S++X)):
  ∃X,den F G (dGr i17) [.ref q] S=.ok (Xb (grt ks)) (S++X):=by
 have ah:q<lf S:=Xcu hq;have s1:exe F G (.asg (.var 1) (.lst .nil)) [yz (.ref q),yy,yy] S=.ok (.nx [yz (.ref q),yz (.ref (lf S)),yy]) (S++[.lst []]):=by rw[exe,ev];simp only[evs,Rk0];rw[iP0 (show([]:LD).length<=big by decide)];rfl
 have s2:=X2z (F:=F) (G:=G) (S:=S++[.lst []]) (env:=[yz (.ref q),yz (.ref (lf S)),yy]) h0 hl rfl (Xl hq);have L:Xc (S++[.lst []]++[.lst ((Yr (ddL ks)).map Xa)]) (S++[O.lst []]).length=yz ((Yr (ddL ks)).map Xa):=Xf;have U:Xc (S++[.lst []]++[.lst ((Yr (ddL ks)).map Xa)]) (lf S)=yz []:=Xl Xf;have ac:(S++[O.lst []]).length≠lf S:=by simp
 have e0:∃X,S++[.lst []]++[.lst ((Yr (ddL ks)).map Xa)]=S++X:=⟨[.lst []]++[.lst ((Yr (ddL ks)).map Xa)],by rw[Vh]⟩;have J:∀f∈Yr (ddL ks),f∈ks:=λf hf=>srt_mem.mp hf;have aa:(Yr (ddL ks)).length<=60:=by rw[(Xas _).length_eq];have:=Xcb ks [];unfold ddL;simp only[Vc8,Vfi]at this;omega
 unfold grt;generalize Yr (ddL ks)=B at s2 L U e0 J aa ⊢;generalize (S++[O.lst []]).length=r at s2 L ac;obtain⟨e',S',a,⟨X,rfl⟩,ai,ae,x,rfl⟩:=Xbc (t:=.var 2) (get:=(Src.ref r).get) (body:=λenv S=>pc F G (grB i17) env S) (B.map Xa) (λi e S'=>(∃X,S'=S++X)/\Xc S' r=yz (B.map Xa)/\Xc S' (lf S)=yz (((B.take i).filter (Xbu ks)).map Xa)/\∃x,e=[yz (.ref q),yz (.ref (lf S)),x])
  (λi e S' h=>by show(Xc S' r).map (λxs=>xs[i]?)=_;rw[h.2.1];rfl)
  (λi d e S' hd he=>by
   obtain⟨⟨X,rfl⟩,L,U,x,rfl⟩:=he;have hi:i<lf B:=by have:=(Vi.mp hd).1;rwa [Ve]at this
   have af:d=Xa B[i]:=by rw[Vx,Vk hi]at hd;exact(Ud hd).symm
   subst af;obtain⟨Y,hY⟩:=X7n (F:=F) (G:=G) (S:=S++X) (C:=yz (.ref (lf S))) (Xl hq) hl (ag B[i] (J _ (Vbh hi)));have ft:=Xyc (Xbu ks) B i hi;cases c:Xbu ks B[i] with
   |false=>rw[c]at hY;refine⟨_,_,_,rfl,Xd (Xq hY),⟨X++Y,by rw[Vh]⟩,Xl L,?_,_,rfl⟩;rw[ft,c,iN0 (by decide),V3];exact Xl U|true=>
    rw[c]at hY;have rc:Y7 .append (.ref (lf S)) (S++X++Y)=true:=by simp only[Y7,Xl U,Veg]
    have lm:lstM (S++X++Y) (lf S)=yz (((B.take i).filter (Xbu ks)).map Xa):=Xl U;have hz:(((B.take i).filter (Xbu ks)).map Xa).length<big:=by have:=List.length_filter_le (Xbu ks) (B.take i);rw[Um]at this;rw[Ve];exact Vdp (show _<=60 by omega) (by decide)
    have hm:Yk .append (.ref (lf S)) [Xa B[i]] (S++X++Y)=.ok .non ((S++X++Y).set (lf S) (.lst (((B.take (i+1)).filter (Xbu ks)).map Xa))):=by simp only[Yk,lm,hz,if_true];rw[ft,c,iP0 rfl,Vae];rfl
    have ab:(lf S)<(S++X++Y).length:=Xcu (Xl (X:=Y) U);refine⟨[yz (.ref q),yz (.ref (lf S)),yz (Xa B[i])],[yz (.ref q),yz (.ref (lf S)),yz (Xa B[i])],_,rfl,Xd (by rw[exe,hY,Rk0];simp only[Xg];refine Xd (e:=[yz (.ref q),yz (.ref (lf S)),yz (Xa B[i])]) ?_;simp only[exe,ev,evs,gZ0,gS0,Rk0,rc,if_true,hm]),?_,?_,Xdr ab,_,rfl⟩;·have:=Xp4 (S:=S) (X:=X++Y) (o:=.lst (((B.take (i+1)).filter (Xbu ks)).map Xa)) (by rw[<-Vh];exact ab);rw[<-Vh]at this;exact this
    ·rw[Xkc (Ne.symm ac)]
     exact Xl L)
  (lf B+1) 0 [yz (.ref q),yz (.ref (lf S)),yy] (S++[.lst []]++[.lst (B.map Xa)]) ⟨e0,L,U,yy,rfl⟩ (Ug _) (by rw[Ve];omega)
 rw[Ve,Vcx]at ae;have s3:exe F G (.for (.var 2) (.val (.sst (.var 0))) (grB i17)) [yz (.ref q),yz (.ref (lf S)),yy] (S++[.lst []])=.ok (.nx [yz (.ref q),yz (.ref (lf S)),x]) (S++X):=by rw[exe,Xe6 s2 L];simp only[Rk0,Src.most,L,Vcw,Ve];exact a
 refine⟨X,Yd (env:=[yz (.ref q),yy,yy]) rfl rfl ((Xd s1).trans ((Xd s3).trans (Xi ?_)))⟩;simp only[exe,ev,evs,gZ0,gS0,Rk0];simp only[Xk,Xw,ae,Rk0];rfl
end
def Ex2(p l:Nat)(S S':Sto):Prop:=∀n o,n≠p->n≠l->S[n]?=yz o->S'[n]?=yz o
section
variable{p l:Nat}{S S0 S1 S2 S':Sto}
theorem Ex2.refl:Ex2 p l S S:=λ_ _ _ _ h=>h
theorem Ex2.trans(a:Ex2 p l S S1)(b:Ex2 p l S1 S2):Ex2 p l S S2:=λn o h1 h2 e=>b n o h1 h2 (a n o h1 h2 e)
theorem Ex2.of(x:Ext p S S1):Ex2 p l S S1:=λn o h _ e=>x n o h e
theorem Ex2.set{o:O}:Ex2 p l S (S.set l o):=λn o _ h e=>by rw[Vay (Ne.symm h)];exact e
theorem Ex2.new(h:Ex2 p l S S1)(x:Ext p S0 S)(B:(lf S0)<=l):Ext p S0 S1:=λn o h1 e=>h n o h1 (by have:=(Vi.mp e).1;omega) (x n o h1 e)
theorem Ex2.lst{q:Nat}{xs:LD}(x:Ex2 p l S S')(h1:q≠p)(h2:q≠l)(h:Xc S q=yz xs):Xc S' q=yz xs:=Xtt (x q _ h1 h2 (Xbq h))
theorem Pot.set(h:Pot p S)(B:l≠p){o:O}:Pot p (S.set l o):=by obtain⟨v,h⟩:=h;exact⟨v,by rw[Xkc B];exact h⟩
variable{F:Fn}{G:LD}{it:Nat}{env:En}
theorem Xuv:∀(l:LI) (a:Nat),(l.map D.int).eraseIdx a=(l.eraseIdx a).map D.int
 |[],_=>rfl|_::_,0=>rfl|x::l,a+1=>congrArg _ (Xuv l a)
theorem Xhy:∀(l:LI) (a:Nat) (h:a<lf l),(l[a]::l.eraseIdx a).Perm l
 |x::l,0,h=>Vau _|x::l,a+1,h=>by have ih:=Xhy l a (by simpa using h);rw[List.eraseIdx_cons_succ,List.getElem_cons_succ];exact(Vfs _ _ _).trans (Vg5 x ih)
noncomputable def lnP(it:Nat):Ex:=.mth .popi (.var 6) (.cons (tk it (.blt .len (.cons (.var 6) .nil))) .nil)
theorem X7p{l:Nat}{L:LI}(hF:Xal F it)(h0:env[0]?=yz (yz (.ref p)))(h6:env[6]?=yz (yz (.ref l)))(Y:Xc S l=yz (L.map D.int))(J:l≠p)(hp:Pot p S)(hn:0<lf L)(hL:(lf L)<=99):
  ∃x L' S',(x::L').Perm L/\ev F G (lnP it) env S=.ok (.int x) S'/\Xc S' l=yz (L'.map D.int)/\Ex2 p l S S'/\Pot p S'/\(lf S')=lf S:=by
 obtain⟨a,S1,a1,a2,a3,a4,a5⟩:=tkE (G:=G) (c:=L.length) (e:=.blt .len (.cons (.var 6) .nil)) hF h0 (by simp only[ev,evs,h6,Rk0,Xjc Y,Ve]) hp hn hL;have B:Xc S1 l=yz (L.map D.int):=a3.lst J Y;have U:lstM S1 l=yz (L.map D.int):=B;have rc:Y7 .popi (.ref l) S=true:=by simp only[Y7,Y,Veg]
 have hx:Z.ixN (L.map D.int).length (a:Int)=yz a:=by unfold Z.ixN;rw[iP0 (by omega),iP0 (by rw[Ve];omega)];simp
 have hg:(L.map D.int)[a]?=yz (.int L[a]):=by rw[Vx,Vk a1];rfl
 have hb:(L.map D.int).length<big:=Vdp (show _<=99 by rw[Ve];exact hL) (by decide);have hm:Yk .popi (.ref l) [.int (a:Int)] S1=.ok (.int L[a]) (S1.set l (.lst ((L.eraseIdx a).map D.int))):=by simp only[Yk,U,hx,hg,hb,if_true];rw[Xuv]
 refine⟨L[a],L.eraseIdx a,S1.set l (.lst ((L.eraseIdx a).map D.int)),Xhy L a a1,?_,Xdr (Xcu B),(Ex2.of a3).trans .set,a4.set J,by rw[List.length_set];exact a5⟩;unfold lnP;rw[ev];simp only[ev,h6,Rk0,rc,if_true,evs,a2,hm]
theorem X7q{l:Nat}{E:En}(hF:Xal F it)(hE:(lf E)=8)(h0:E[0]?=yz (yz (.ref p)))(h6:E[6]?=yz (yz (.ref l)))(Y:l≠p)(xs:LD):
  ∀(B i:Nat) (x:Option D) (acc L:LI) (S:Sto),i<=lf xs->lf xs<B+i->lf acc+(lf xs-i)<=99->Xc S l=yz (L.map D.int)->Pot p S->lf xs-i<=lf L->lf L<=99 ->
   ∃ps L' S',lf ps=lf xs-i/\(ps++L').Perm L/\Xp (Src.con xs).get (.var 9) (tgB (F:=F) (G:=G) (lnP it)) B i (E++[yy,x]) (acc.map D.int) S=.ok ((acc++ps).map D.int) S'/\Ex2 p l S S'/\Pot p S'/\(lf S')=lf S
 |0=>λi x acc L S h1 h2 _ _ _ _ _=>by omega|B+1=>λi x acc L S h1 h2 hc hl hp hk hL=>by
  have J:∀S,(Src.con xs).get S i=yz xs[i]?:=λ_=>rfl;cases q:xs[i]? with
  |none=>
   have hi:i=lf xs:=by have:=Ui.mp q;omega
   refine⟨[],L,S,by simp[hi],Vau _,?_,.refl,hp,rfl⟩;simp only[Xp,J,q,V3]|some d=>
   have hi:i<lf xs:=(Vi.mp q).1;obtain⟨y,L1,S1,b1,b2,b3,b4,b5,b6⟩:=X7p (G:=G) (env:=E++[yy,yz d]) hF (Xfu h0) (Xfu h6) hl Y hp (by omega) hL;have U:=b1.length_eq;rw[U1]at U;obtain⟨ps,L',S',c1,c2,c3,c4,c5,c6⟩:=X7q hF hE h0 h6 Y xs B (i+1) (yz d) (acc++[y]) L1 S1 (by omega) (by omega) (by rw[Vy,U2];omega) b3 b5 (by omega) (by omega);refine⟨y::ps,L',S',by rw[U1];omega,?_,?_,b4.trans c4,c5,c6.trans b6⟩;·rw[Vd9];exact(Vg5 y c2).trans b1
   ·have hb:(acc.map D.int).length<big:=Vdp (show _<=99 by rw[Ve];omega) (by decide);have st:Xu (.var 9) d (E++[yy,x])=yz (E++[yy,yz d]):=Xft hE x d;have bd:tgB (F:=F) (G:=G) (lnP it) (E++[yy,yz d]) (acc.map D.int) S=.ok ((acc++[y]).map D.int) S1:=by
     simp only[tgB,Xr,evts,Rk0,if_true,b2,hb,Vae];rfl
    simp only[Xp,J,q,st,bd];rw[c3,Vh];rfl
noncomputable def lnE(it:Nat):Ex:=.blt .tuple (.cons (.blt .sorted (.cons (.cmr yw 2 (.cons (.var 9) (.rng (.cons (.var 7) .nil)) .nil .nil) (lnP it)) .nil)) .nil)
theorem Xrp{far:Nat}{ps L:LI}(h:(ps++L).Perm ((Vs far).map Vbr)):ps.Nodup/\∀x∈ps,0<=x/\x<far:=by
 have nd:((Vs far).map Vbr).Nodup:=by refine List.Pairwise.map _ (λa b h=>?_) List.nodup_range;intro z;exact h (Int.ofNat.inj z)
 have B:=h.nodup_iff.mpr nd;refine⟨(Vda.mp B).1,λx U=>?_⟩;have J:=h.mem_iff.mp (Vc2 L U);obtain⟨i,hi,rfl⟩:=V0.mp J;have:=U6.mp hi;constructor;·exact Int.natCast_nonneg i
 ·exact Int.ofNat_lt.mpr this
structure Fc(s:LI):Prop where
 pw:s.Pairwise (· < ·)
 l6:(lf s)<=6
 r15:∀x∈s,0<=x/\x<=15
theorem X7r{l far w:Nat}{E:En}(hF:Xal F it)(hE:(lf E)=8)(h0:E[0]?=yz (yz (.ref p)))(h6:E[6]?=yz (yz (.ref l)))(h7:E[7]?=yz (yz (.int (w:Int))))(Y:l≠p)(hl:Xc S l=yz (((Vs far).map Vbr).map D.int))(hp:Pot p S)(hw:w<=far)(ab:w<=6)(hf:far<=16):
  ∃s S',Fc s/\ev F G (lnE it) E S=.ok (Xa s) S'/\Ex2 p l S S'/\Pot p S'/\(lf S)<=lf S':=by
 obtain⟨xs,x1,x2⟩:=Xc2 (m:=(w:Int)) (by omega) (Xmx (by omega));have ac:(lf xs)=w:=by omega
 have aa:((Vs far).map Vbr).length=far:=by simp
 obtain⟨ps,L',S1,a1,a2,a3,a4,a5,a6⟩:=X7q (G:=G) (E:=E) hF hE h0 h6 Y xs (lf xs+1) 0 yy [] ((Vs far).map Vbr) S (Ug _) (by omega) (by simp;omega) hl hp (by omega) (by omega);obtain⟨nd,mm⟩:=Xrp a2;rw[Nat.sub_zero]at a1;have L:evit F G (.rng (.cons (.var 7) .nil)) E S=.ok (.con xs) S:=Xtr (by simp only[evs,ev,h7,Rk0]) x1;have U:ev F G (.cmr yw 2 (.cons (.var 9) (.rng (.cons (.var 7) .nil)) .nil .nil) (lnP it)) E S=.ok (.ref (lf S1)) (S1++[.lst (ps.map D.int)]):=by have hm:(Src.con xs).most S=lf xs:=rfl;simp only[ev,L,Rk0,hm];have J:Xp (Src.con xs).get (.var 9) (Xr (λenv S=>evts F G .nil env S) (λenv B S=>(ev F G (lnP it) env S).bind λy S=>if (lf B)<big then .ok (B++[y]) S else .bad)) (lf xs+1) 0 (E++Vu 2 yy) [] S=.ok (ps.map D.int) S1:=a3;rw[J];rfl
 have hs:Xk .sorted [.ref (lf S1)] (S1++[.lst (ps.map D.int)])=.ok (.ref (S1++[O.lst (ps.map D.int)]).length) (S1++[.lst (ps.map D.int)]++[.lst ((Yl ps).map D.int)]):=by
  have hq:Xvj (.ref (lf S1))=true:=rfl;have hz:(lf ps)<64:=by omega
  simp only[Xk,Xw,Xf,Vq,Xaa,hq,hz,decide_true,Vcd,if_true]
 have pm:=Yx ps;refine⟨Yl ps,S1++[.lst (ps.map D.int)]++[.lst ((Yl ps).map D.int)],⟨X6t (Xdi ps) (pm.nodup_iff.mpr nd),by rw[pm.length_eq];omega,λx hx=>by have:=mm x (pm.mem_iff.mp hx);omega⟩,?_,a4.trans (Ex2.of (Ext.app.trans .app)),a5.app.app,by simp only[Vy];omega⟩;unfold lnE;rw[ev,evs,ev,evs,U];simp only[Rk0,evs,hs];simp only[Xk,Xw,Xf];rfl
theorem Xrq{c k m:Nat}{ds:LN}{es:Exs}(B:Xal F it)(hs:∀env S,evs F G es env S=.ok (ds.map λ(n:Nat)=>D.int (n:Int)) S)(hc:(lf ds)=c)(hp:Pot p S)(h0:0<c)(h1:c<=99)(Y:∀n∈ds,0<n/\n<=m)(hm:m<=99):
  ∃(a:Nat) (S':Sto),a<m/\Ext p S S'/\Pot p S'/\∀ {env:En},env[0]?=yz (yz (.ref p))->ev F G (.bin .add (.cst (.int (k:Int))) (tk it (.idx (.lst es) (tk it (.cst (.int (c:Int))))))) env S=.ok (.int ((k+a:Nat):Int)) S':=by
 obtain⟨d,hd,S1,x1,U,e1⟩:=Xzh (F:=F) (G:=G) (c:=c) (ds:=ds.map λ(n:Nat)=>D.int (n:Int)) B hp (by rw[Ve];exact hc) h0 h1;obtain⟨n,hn,rfl⟩:=V0.mp hd;have L:=Y n hn;obtain⟨a,S2,a1,a2,a3,J,_⟩:=tkN B U L.1 (by omega);refine⟨a,S2,by omega,x1.trans a3,J,λh=>?_⟩;rw[ev,ev,Rk0,Xbt h (e1 h (hs _ S)) a2,Rk0,Y8];rfl
variable{ig:Nat}
noncomputable def Xyd(it:Nat):Ex:=.idx (.lst (.cons (tk it (.cst (.int 7))) (.cons (.var 3) (.cons (.var 3) .nil)))) (.var 1)
noncomputable def lnM(it:Nat):Ex:=.blt .min (.cons (.var 2) (.cons (Xyd it) .nil))
noncomputable def Xye(it:Nat):Sts:=.cons (.asg (.var 6) (.lrg yw (.cons (.var 2) .nil))) (.cons (.asg (.var 7) (lnM it)) (.cons (.expr (.mth .append (.var 4) (.cons (lnE it) .nil))) .nil))
theorem X7s{lv far sz:Nat}(hF:Xal F it)(h0:env[0]?=yz (yz (.ref p)))(h1:env[1]?=yz (yz (.int (lv:Int))))(h2:env[2]?=yz (yz (.int (far:Int))))(Y:env[3]?=yz (yz (.int (sz:Int))))(B:lv<3)(J:sz<=6)(hp:Pot p S):
  ∃(w:Nat) (S':Sto),w<=far/\w<=6/\ev F G (lnM it) env S=.ok (.int (w:Int)) S'/\Ext p S S'/\Pot p S'/\(lf S)<=lf S':=by
 obtain⟨a,S1,a1,a2,a3,a4,a5⟩:=tkE (G:=G) (c:=7) (e:=.cst (.int 7)) hF h0 (by simp only[ev];rfl) hp (by omega) (by omega);have hb:([.int (a:Int),.int (sz:Int),.int (sz:Int)]:LD).length<=big:=by show 3<=big;decide
 have hl:ev F G (.lst (.cons (tk it (.cst (.int 7))) (.cons (.var 3) (.cons (.var 3) .nil)))) env S=.ok (.ref (lf S1)) (S1++[.lst [.int (a:Int),.int (sz:Int),.int (sz:Int)]]):=by rw[ev,evs,a2];simp only[Rk0,evs,ev,Y,hb,if_true]
 have hi:=Xf1 (S:=S1++[O.lst [.int (a:Int),.int (sz:Int),.int (sz:Int)]]) (q:=lf S1) (a:=lv) Xf (by show lv<3;exact B);obtain⟨b,hb6,he⟩:∃b:Nat,b<=6/\([.int (a:Int),.int (sz:Int),.int (sz:Int)]:LD)[lv]'(by show lv<3;exact B)=.int (b:Int):=by
  rcases lv with _|_|_|lv;·exact⟨a,by omega,rfl⟩
  ·exact⟨sz,J,rfl⟩
  ·exact⟨sz,J,rfl⟩
  omega
 rw[he]at hi;have U:ev F G (Xyd it) env S=.ok (.int (b:Int)) (S1++[.lst [.int (a:Int),.int (sz:Int),.int (sz:Int)]]):=by unfold Xyd;rw[ev,hl,Rk0];simp only[ev,h1,Rk0,hi]
 have L:∀S,Xk .min [.int (far:Int),.int (b:Int)] S=.ok (.int ((min far b:Nat):Int)) S:=λS=>by simp only[Xk];congr 2;split<;>omega
 refine⟨min far b,S1++[.lst [.int (a:Int),.int (sz:Int),.int (sz:Int)]],by omega,by omega,?_,a3.trans .app,a4.app,by rw[Vy];omega⟩;unfold lnM;rw[ev,evs];simp only[ev,h2,Rk0,evs,U,L]
theorem X7t{v f:Nat}{e:Ex}{d:D}{acc:LD}{S2 B:Sto}(h:env[v]?=yz (yz (.ref f)))(U:Xc S2 f=yz acc)(he:ev F G e env S2=.ok d B)(Y:Xc B f=yz acc)(hn:(lf acc)<=60):exe F G (.expr (.mth .append (.var v) (.cons e .nil))) env S2=.ok (.nx env) (B.set f (.lst (acc++[d]))):=by
 have J:lstM B f=yz acc:=Y;have rc:Y7 .append (.ref f) S2=true:=by simp only[Y7,U,Veg]
 have hb:(lf acc)<big:=Vdp hn (by decide);have L:Yk .append (.ref f) [d] B=.ok .non (B.set f (.lst (acc++[d]))):=by simp only[Yk,J,hb,if_true]
 rw[exe,ev];simp only[ev,h,Rk0,rc,if_true,evs,he,L]
theorem X20{m:Int}(B:0<=m)(h:m<1048576):Yu [.int m]=yz ((Vs m.toNat).map λ(k:Nat)=>D.int (k:Int)):=by simp only[Yu];rw[iP0 ⟨by omega,h⟩]
theorem X21{far:Nat}(h:far<=99):Yu [.int (far:Int)]=yz (((Vs far).map Vbr).map D.int):=by have e:=X20 (m:=(far:Int)) (by omega) (Xmx (by omega));rw[e,Vai,Vbu];rfl
theorem X22{d:D}{ds:LD}(h2:env[2]?=yz (yz d))(B:Yu [d]=yz ds):ev F G (.lrg yw (.cons (.var 2) .nil)) env S=.ok (.ref (lf S)) (S++[.lst ds]):=by simp only[ev,evs,h2,Rk0,B,Vp,if_false]
theorem X7u{far:Nat}(h2:env[2]?=yz (yz (.int (far:Int))))(h:far<=99):ev F G (.lrg yw (.cons (.var 2) .nil)) env S=.ok (.ref (lf S)) (S++[.lst (((Vs far).map Vbr).map D.int)]):=by exact X22 h2 (X21 h)
theorem X23{lv far sz f:Nat}{acc:LD}{x5 x6 x7:Option D}(hF:Xal F it)(hv:lv<3)(hf:far<=16)(hz:sz<=6)(J:f≠p)(B:Xc S f=yz acc)(hn:(lf acc)<=60)(hp:Pot p S):
  ∃s S' y6 y7,Fc s/\pc F G (Xye it) [yz (.ref p),yz (.int (lv:Int)),yz (.int (far:Int)),yz (.int (sz:Int)),yz (.ref f),x5,x6,x7] S=.ok (.nx [yz (.ref p),yz (.int (lv:Int)),yz (.int (far:Int)),yz (.int (sz:Int)),yz (.ref f),x5,y6,y7]) S'/\Xc S' f=yz (acc++[Xa s])/\Pot p S'/\Ex2 p f S S':=by
 have s1:exe F G (.asg (.var 6) (.lrg yw (.cons (.var 2) .nil))) [yz (.ref p),yz (.int (lv:Int)),yz (.int (far:Int)),yz (.int (sz:Int)),yz (.ref f),x5,x6,x7] S=.ok (.nx [yz (.ref p),yz (.int (lv:Int)),yz (.int (far:Int)),yz (.int (sz:Int)),yz (.ref f),x5,yz (.ref (lf S)),x7]) (S++[.lst (((Vs far).map Vbr).map D.int)]):=Xa0 (X7u rfl (by omega));obtain⟨w,S2,w1,w2,w3,w4,w5,w6⟩:=X7s (G:=G) (S:=S++[.lst (((Vs far).map Vbr).map D.int)]) (lv:=lv) (far:=far) (sz:=sz) (env:=[yz (.ref p),yz (.int (lv:Int)),yz (.int (far:Int)),yz (.int (sz:Int)),yz (.ref f),x5,yz (.ref (lf S)),x7]) hF rfl rfl rfl rfl hv hz hp.app;have s2:=Xa0 (i:=7) w3;have L:(lf S)≠p:=by have:=hp.lt;omega
 have ab:f<lf S:=Xcu B;have l2:Xc S2 (lf S)=yz (((Vs far).map Vbr).map D.int):=w4.lst L Xf;have f2:Xc S2 f=yz acc:=w4.lst J (Xl B);obtain⟨s,U,t1,t2,t3,t4,t5⟩:=X7r (G:=G) (S:=S2) (l:=lf S) (far:=far) (w:=w) (E:=[yz (.ref p),yz (.int (lv:Int)),yz (.int (far:Int)),yz (.int (sz:Int)),yz (.ref f),x5,yz (.ref (lf S)),yz (.int (w:Int))]) hF rfl rfl rfl rfl L l2 w5 w1 w2 hf;have Y:Xc U f=yz acc:=t3.lst J (by omega) f2;have m3:lstM U f=yz acc:=Y;have s3:=X7t (F:=F) (G:=G) (v:=4) (env:=[yz (.ref p),yz (.int (lv:Int)),yz (.int (far:Int)),yz (.int (sz:Int)),yz (.ref f),x5,yz (.ref (lf S)),yz (.int (w:Int))]) rfl f2 t2 Y hn;refine⟨s,U.set f (.lst (acc++[Xa s])),yz (.ref (lf S)),yz (.int (w:Int)),t1,(Xd s1).trans ((Xd s2).trans (Xd ?_)),Xdr (Xcu Y),t4.set J,λn o n1 n2 e=>?_⟩;·exact s3
 ·have aa:n<lf S:=(Vi.mp e).1;rw[Vay (Ne.symm n2)];exact t3 n o n1 (by omega) (w4 n o n1 (Xty e))
noncomputable def nE3(a b c:Int):Exs:=.cons (.cst (.int a)) (.cons (.cst (.int b)) (.cons (.cst (.int c)) .nil))
noncomputable def nE2(a b:Int):Exs:=.cons (.cst (.int a)) (.cons (.cst (.int b)) .nil)
noncomputable def Yba(it:Nat):Ex:=.bin .add (.cst (.int 2)) (tk it (.idx (.lst (nE3 4 9 15)) (tk it (.cst (.int 3)))))
noncomputable def Ybb(it:Nat):Ex:=.bin .add (.cst (.int 1)) (tk it (.idx (.lst (nE3 3 4 6)) (tk it (.cst (.int 3)))))
noncomputable def Xyf(it:Nat):Ex:=.bin .add (.cst (.int 1)) (tk it (.idx (.lst (nE2 4 11)) (tk it (.cst (.int 2)))))
noncomputable def dLN(it ig:Nat):Df:=⟨1,8,.cons (.asg (.var 1) (tk it (.cst (.int 3)))) (.cons (.asg (.var 2) (Yba it)) (.cons (.asg (.var 3) (Ybb it)) (.cons (.asg (.var 4) (.lst .nil)) (.cons (.for (.var 5) (.rng (.cons (Xyf it) .nil)) (Xye it)) (.cons (.ret (.call ig (.cons (.var 4) .nil))) .nil)))))⟩
theorem Xuw(a b c:Nat)(env:En)(S:Sto):evs F G (nE3 a b c) env S=.ok (([a,b,c]:LN).map λ(n:Nat)=>D.int (n:Int)) S:=by unfold nE3;simp only[evs,ev,Rk0];rfl
theorem X7v(a b:Nat)(env:En)(S:Sto):evs F G (nE2 a b) env S=.ok (([a,b]:LN).map λ(n:Nat)=>D.int (n:Int)) S:=by unfold nE2;simp only[evs,ev,Rk0];rfl
theorem X7w(hF:Xal F it)(hg:∀(ks:LL) (q:Nat) S,ks≠[]->lf ks<=60->(∀s∈ks,lf s<=6)->Xc S q=yz (ks.map Xa)->∃X,F ig [.ref q] S=.ok (Xb (grt ks)) (S++X))(hp:Pot p S):
  ∃n S',den F G (dLN it ig) [.ref p] S=.ok (Xb n) S'/\Ext p S S'/\Pot p S'/\n≠[]/\(lf n)<=11/\∀s∈n,Fc s:=by
 obtain⟨lv,S1,a1,a2,a3,a4,_⟩:=tkN (c:=3) hF hp (by omega) (by omega);obtain⟨fa,S2,b1,b3,b4,b2⟩:=Xrq (F:=F) (G:=G) (c:=3) (k:=2) (m:=15) (ds:=[4,9,15]) hF (Xuw 4 9 15) rfl a4 (by omega) (by omega) (by decide) (by omega);obtain⟨sa,B,d1,d3,d4,d2⟩:=Xrq (F:=F) (G:=G) (c:=3) (k:=1) (m:=6) (ds:=[3,4,6]) hF (Xuw 3 4 6) rfl b4 (by omega) (by omega) (by decide) (by omega);obtain⟨ta,S5,e1,e3,e4,e2⟩:=Xrq (F:=F) (G:=G) (S:=B++[.lst []]) (c:=2) (k:=1) (m:=11) (ds:=[4,11]) hF (X7v 4 11) rfl d4.app (by omega) (by omega) (by decide) (by omega);have L:2+fa<=16:=by omega
 have aa:1+sa<=6:=by omega
 generalize 2+fa=J at b2 L;generalize 1+sa=sz at d2 aa;obtain⟨xs,x1,x2⟩:=Xc2 (m:=((1+ta:Nat):Int)) (by omega) (Xmx (by omega));have af:(lf xs)=1+ta:=by omega
 have U:(lf B)≠p:=by have:=d4.lt;omega
 have l5:Xc S5 (lf B)=yz []:=e3.lst U Xf;have ac:Ext p S S5:=((a3.trans b3).trans d3).trans (Ext.app.trans e3);have hS:(lf S)<=lf B:=by
  rcases Nat.lt_or_ge B.length (lf S) with ab|ae;·exfalso;have y:=((a3.trans b3).trans d3) B.length S[B.length] U (Vk ab);have:=(Vi.mp y).1;omega
  ·exact ae
 obtain⟨e',S',q1,ks,k1,k2,k3,k4,k5,x5,Y,x7,rfl⟩:=Xi3 (F:=F) (G:=G) (t:=.var 5) (b:=Xye it) (es:=.cons (Xyf it) .nil) (env:=[yz (.ref p),yz (.int (lv:Int)),yz (.int (J:Int)),yz (.int (sz:Int)),yz (.ref B.length),yy,yy,yy]) (S:=B++[.lst []]) (S1:=S5) (ds:=[.int ((1+ta:Nat):Int)]) (xs:=xs)
  (λi e S'=>∃ks:LL,lf ks=i/\(∀s∈ks,Fc s)/\Xc S' (lf B)=yz (ks.map Xa)/\Pot p S'/\Ext p S S'/\∃x5 Y x7,e=[yz (.ref p),yz (.int (lv:Int)),yz (.int (J:Int)),yz (.int (sz:Int)),yz (.ref B.length),x5,Y,x7])
  (by rw[evs,show ev F G (Xyf it) _ _=_ from e2 rfl];simp only[Rk0,evs]) x1 ⟨[],rfl,(λs hs=>by cases hs),l5,e4,ac,yy,yy,yy,rfl⟩
  (λi d e S' hd he=>by
   obtain⟨ks,k1,k2,k3,k4,k5,x5,Y,x7,rfl⟩:=he;have hi:i<lf xs:=(Vi.mp hd).1;obtain⟨s,S6,y6,y7,t1,t2,t3,t4,t5⟩:=X23 (F:=F) (G:=G) (it:=it) (S:=S') (lv:=lv) (far:=J) (sz:=sz) (f:=B.length) (x5:=yz d) (x6:=Y) (x7:=x7) hF a1 L aa U k3 (by rw[Ve];omega) k4;refine⟨[yz (.ref p),yz (.int (lv:Int)),yz (.int (J:Int)),yz (.int (sz:Int)),yz (.ref B.length),yz d,Y,x7],_,S6,rfl,t2,ks++[s],by rw[Vy,U2,k1],λr hr=>?_,by rw[Vae];exact t3,t4,t5.new k5 hS,_,_,_,rfl⟩;rcases Uq.mp hr with hr|hr;·exact k2 r hr
   ·rw[V9.mp hr];exact t1)
 have h0:ks≠[]:=λz=>by rw[z]at k1;simp at k1;omega
 obtain⟨X,hX⟩:=hg ks B.length S' h0 (by omega) (λs hs=>(k2 s hs).l6) k3;refine⟨grt ks,S'++X,Yd rfl rfl ((Y0 (Xbt rfl Xdv a2)).trans ((Y0 (b2 rfl)).trans ((Y0 (d2 rfl)).trans ((Y0 (Xdw (ds:=[]) rfl (by decide))).trans ((Xd q1).trans (Xi ?_)))))),k5.trans .app,k4.app,X7m h0 (λs hs=>(k2 s hs).pw),by have:=X2w ks;omega,λs hs=>k2 s (X2v hs)⟩;simp only[exe,ev,evs,gZ0,gS0,Rk0,hX]
end
noncomputable def ixw(w:LI)(c:Int):Nat:=(w.findIdx? (· == c)).getD 0
theorem Xjl:∀ {w:LI} {c:Int},c∈w->w.findIdx? (· == c)=yz (ixw w c)/\ixw w c<lf w
 |[],c,h=>by cases h|x::w,c,h=>by
  unfold ixw;rw[List.findIdx?_cons];by_cases e:x==c;·rw[iP0 e];exact⟨rfl,by simp⟩
  ·rw[iN0 e];have hc:c∈w:=by
    rcases Vn.mp h with rfl|h;·simp at e
    ·exact h
   obtain⟨h1,h2⟩:=Xjl hc;rw[h1];exact⟨rfl,by simp;exact h2⟩
noncomputable def mvR(w:LI)(k:Int)(s:LI):LI:=s.map λx=>k+(ixw w x:Int)
noncomputable def mvL(n:LL)(k:Int):LL:=n.map (mvR (pts n) k)
section
variable{F:Fn}{G:LD}{S:Sto}
noncomputable def mvI:Ex:=.bin .add (.var 1) (.mth .index (.var 2) (.cons (.var 6) .nil))
noncomputable def mvF:Ex:=.blt .tuple (.cons (.cmr yw 2 (.cons (.var 6) (.val (.var 4)) .nil .nil) mvI) .nil)
noncomputable def mvE:Ex:=.cmr yw 2 (.cons (.var 4) (.val (.var 0)) .nil .nil) mvF
noncomputable def mvT:St:=.ret (.blt .tuple (.cons (.blt .srt (.cons mvE .nil)) .nil))
noncomputable def dMv(B:Nat):Df:=⟨2,3,.cons (.asg (.var 2) (c1 B 0)) (.cons mvT .nil)⟩
theorem X9t{q:Nat}{w:LI}{c:Int}(h:Xc S q=yz (w.map D.int))(hc:c∈w):Yk .index (.ref q) [.int c] S=.ok (.int (ixw w c:Int)) S:=by simp only[Yk,h,Vq,Xaa,(Xjl hc).1]
theorem X7x{q:Nat}{A:Option D}{k:Int}{w s:LI}(hq:Xc S q=yz (w.map D.int))(hs:∀x∈s,x∈w)(hl:(lf s)<=100):
  ∃X,ev F G mvF [A,yz (.int k),yz (.ref q),yy,yz (Xa s)] S=.ok (Xa (mvR w k s)) (S++X):=by
 obtain⟨X,B⟩:=Xea (F:=F) (G:=G) (S:=S) (L:=5) (env:=[A,yz (.int k),yz (.ref q),yy,yz (Xa s)]) (e:=.var 4) (elt:=mvI) (xs:=s.map D.int) (λd=>.int (k+(ixw w (Xci d):Int))) rfl (by simp only[ev,gZ0,gS0];rfl) (by rw[Ve];omega) (λd hd X=>by
  obtain⟨i,hi,rfl⟩:=V0.mp hd;have h1:=Xl (X:=X) hq;have J:Y7 .index (.ref q) (S++X)=true:=by simp only[Y7,h1,Veg]
  have U:=X9t h1 (hs i hi);have io:Xci (D.int i)=i:=rfl;refine⟨X,?_⟩;show ev F G mvI [A,yz (.int k),yz (.ref q),yy,yz (Xa s),yy,yz (.int i)] (S++X)=_;unfold mvI;simp only[ev,evs,gZ0,gS0,Rk0,J,if_true,U,Y8,io])
 have Y:(s.map D.int).map (λd=>D.int (k+(ixw w (Xci d):Int)))=(mvR w k s).map D.int:=by unfold mvR;rw[Vai,Vai];rfl
 rw[Y]at B;refine⟨X++[.lst ((mvR w k s).map D.int)],?_⟩;unfold mvF;rw[ev,evs,B];simp only[Rk0,evs,Xk,Xw,Xf];rw[Vh];rfl
theorem X7y{J:Nat}{k:Int}{n r:LL}(ab:∀S,∃X,F J [Xb n] S=.ok (.ref (S++X).length) (S++X++[.lst ((pts n).map D.int)]))(hl:(lf n)<=60)(hw:∀s∈n,lf s<=6)(hr:Xah (mvL n k)=yz r)(S:Sto):
  ∃X,den F G (dMv J) [Xb n,.int k] S=.ok (Xb r) (S++X):=by
 obtain⟨B,e1⟩:=ab S;have s1:exe F G (.asg (.var 2) (c1 J 0)) [yz (Xb n),yz (.int k),yy] S=.ok (.nx [yz (Xb n),yz (.int k),yz (.ref (S++B).length)]) (S++B++[.lst ((pts n).map D.int)]):=Xa0 (by rw[Y1 (d:=Xb n) rfl,e1])
 have hq:Xc (S++B++[.lst ((pts n).map D.int)]) (S++B).length=yz ((pts n).map D.int):=Xf;generalize (S++B).length=q at s1 hq;obtain⟨X,U⟩:=Xea (F:=F) (G:=G) (S:=S++B++[.lst ((pts n).map D.int)]) (L:=3) (env:=[yz (Xb n),yz (.int k),yz (.ref q)]) (e:=.var 0) (elt:=mvF) (xs:=n.map Xa) (λd=>Xa (mvR (pts n) k (Xo d))) rfl (by simp only[ev,gZ0];rfl) (by rw[Ve];omega) (λd hd X=>by
  obtain⟨s,hs,rfl⟩:=V0.mp hd;obtain⟨Y,hY⟩:=X7x (F:=F) (G:=G) (A:=yz (Xb n)) (k:=k) (Xl (X:=X) hq) (λx hx=>pts_mem.mpr ⟨s,hs,hx⟩) (by have:=hw s hs;omega)
  exact⟨X++Y,by rw[ints_of,<-Vh];exact hY⟩)
 have e2:(n.map Xa).map (λd=>Xa (mvR (pts n) k (Xo d)))=(mvL n k).map Xa:=by unfold mvL;rw[Vai,Vai];exact Vdi λt _=>by simp only[Vdd,ints_of]
 rw[e2]at U;have hs:=Xjh (S:=S++B++[.lst ((pts n).map D.int)]++X++[.lst ((mvL n k).map Xa)]) (q:=(S++B++[O.lst ((pts n).map D.int)]++X).length) Xf hr;refine⟨B++[.lst ((pts n).map D.int)]++X++[.lst ((mvL n k).map Xa)]++[.lst (r.map Xa)],Yd (env:=[yz (Xb n),yz (.int k),yy]) rfl rfl ((Xd s1).trans (Xi ?_))⟩;have aa:ev F G mvE [yz (Xb n),yz (.int k),yz (.ref q)] (S++B++[.lst ((pts n).map D.int)])=_:=U;unfold mvT;rw[exe,ev,evs,ev,evs,aa];simp only[Rk0,evs,hs];simp only[Xk,Xw,Xf,Rk0];simp only[Vh];rfl
end
theorem Xzi{n r:LL}{k:Int}(h:Sid n)(hp:r.Perm (mvL n k)):(lf r)=lf n/\∀s∈r,lf s<=6/\∀x∈s,k<=x/\x<=k+15:=by refine⟨by rw[hp.length_eq];exact Ve ..,λs hs=>?_⟩;obtain⟨t,B,rfl⟩:=V0.mp (hp.mem_iff.mp hs);refine⟨by unfold mvR;rw[Ve];exact h.l6 t B,λx L=>?_⟩;obtain⟨y,J,rfl⟩:=V0.mp L;have h1:=(Xjl (pts_mem.mpr ⟨t,B,J⟩)).2;have h2:=h.pt;omega
end Z
end
section
namespace K03
open PySem PySem.Spec PyProof.Rows L2 Z
noncomputable def top(i:Nat):Stmt:=PySem.Challenge.pw_facecounts_k03_nets_joined.main.body.getD i (.Pass ⟨0,0,0,0⟩)
noncomputable def gns:LS:=["GREATEST_POINT","GREATEST_SIZE","MOST_SIDES"]
noncomputable def G:LD:=[.int 15,.int 6,.int 60]
noncomputable def fns:LF:=([("is_whole",1,yx),("is_whole_within",3,yx),("is_rising",1,yx),("is_net",1,yx),("joined",2,yx),("check_net",1,yx),("is_any_face",1,yx),("is_nested",1,yx),("lies_in_another",2,yx),("lies_in",2,yx),("points_of",1,yx),("width_of",1,yx),("_law_cell_at",2,yx),("_law_pot",1,yx),("_law_take",2,yx),("_law_whole",1,yx),("_law_same",2,yx),("_law_lies",2,yx),("_law_greatest",1,yx),("_law_net",1,yx)]:LF)++([("_law_is_face",1,yx),("_law_is_net",1,yx),("_law_points",1,yx),("_law_together",2,yx),("_law_odd",1,yx),("_law_bent_face",2,yx),("_law_bent_net",2,yx),("_law_kind_of",1,yw),("_law_told_by",2,yx),("_law_told",2,yx),("_law_moved",2,yx),("_law_due",2,yx),("law",1,yx)]:LF)
noncomputable abbrev Xhz:Df:=Xe2
noncomputable def Xrr:LS:=["thing"]
noncomputable abbrev Xcd:Df:=Xfs 0
noncomputable def Xf4:LS:=["thing","low","high"]
noncomputable abbrev Xgc:Df:=Xhu
noncomputable def Xnw:LS:=["things"]
noncomputable abbrev Xnh:Df:=Xrk 6 2 7
noncomputable def Xyg:LS:=["thing"]
noncomputable abbrev Xni:Df:=dJn 5 10 11 "two nets without a common point are due" "the net would have more than sixty sides" "a side would have more than six points"
noncomputable def Xyh:LS:=["one","other","theirs"]
noncomputable abbrev Xgd:Df:=Xbs 3 "a net is due"
noncomputable def Xnx:LS:=["thing"]
noncomputable abbrev Xef:Df:=Xrh 1 2
noncomputable def Xko:LS:=["thing"]
noncomputable abbrev Xge:Df:=Xxu 8
noncomputable def Xny:LS:=["sides"]
noncomputable abbrev Xce:Df:=Xxt 9
noncomputable def Xf5:LS:=["face","sides"]
noncomputable abbrev Xkn:Df:=⟨2,3,Xfw⟩
noncomputable def Xux:LS:=["inner","outer","point"]
noncomputable abbrev Xgf:Df:=dPts
noncomputable def Xnz:LS:=["net"]
noncomputable abbrev Xh0:Df:=Xxv
noncomputable def Xrs:LS:=["net"]
noncomputable abbrev Xdy:Df:=Xho
noncomputable def Xjm:LS:=["_law_script","_law_k"]
noncomputable abbrev Xh1:Df:=Xgz
noncomputable def Xrt:LS:=["_law_cell","_law_number","_law_j","_law_more"]
noncomputable abbrev Xgg:Df:=Xky
noncomputable def Xn0:LS:=["_law_pot_here","_law_far","_law_found"]
noncomputable abbrev Xfb:Df:=Xe2
noncomputable def Xnj:LS:=["_law_thing"]
noncomputable abbrev Xgh:Df:=Xaq 16 15
noncomputable def Xn1:LS:=["_law_found","_law_due_here"]
noncomputable abbrev Xgi:Df:=⟨2,2,bLL⟩
noncomputable def Xn2:LS:=["_law_one","_law_other"]
noncomputable abbrev Xc7:Df:=dGr 17
noncomputable def Xh2:LS:=["_law_some","_law_found","_law_face"]
noncomputable abbrev Xh3:Df:=dLN 14 18
noncomputable def Xru:LS:=["_law_pot_here","_law_level","_law_far","_law_size","_law_some","_law_turn","_law_left","_law_wide"]
noncomputable abbrev Xdz:Df:=Xhw 15
noncomputable def Xjn:LS:=["_law_thing"]
noncomputable abbrev Xeg:Df:=Xk2 20 17
noncomputable def Xkp:LS:=["_law_thing","_law_side"]
noncomputable abbrev Xeh:Df:=dLPts
noncomputable def Xkq:LS:=["_law_some","_law_found","_law_face"]
noncomputable abbrev Xc8:Df:=Xrm
noncomputable def Xh4:LS:=["_law_one","_law_other","_law_found","_law_side"]
noncomputable abbrev Xh5:Df:=Xxl 14
noncomputable def Xrv:LS:=["_law_pot_here","_law_some"]
noncomputable abbrev Xcx:Df:=dBF 14 24
noncomputable def Xg9:LS:=["_law_pot_here","_law_face","_law_odd_here","_law_some","_law_way","_law_at"]
noncomputable abbrev Xc9:Df:=dBN 14 24 25
noncomputable def Xh6:LS:=["_law_pot_here","_law_net_here","_law_side","_law_bent","_law_some","_law_way","_law_at"]
noncomputable abbrev Xd0:Df:=Xkz
noncomputable def Xjo:LS:=["_law_e","_law_some","_law_words"]
noncomputable abbrev Xd1:Df:=Xec 4 27
noncomputable def Xjp:LS:=["_law_one","_law_other","_law_e"]
noncomputable abbrev Xgj:Df:=Xe5 28
noncomputable def Xn3:LS:=["_law_one","_law_other","_law_kept","_law_found"]
noncomputable abbrev Xfc:Df:=dMv 22
noncomputable def Xnk:LS:=["_law_net_here","_law_first","_law_known"]
noncomputable abbrev Xh7:Df:=Xdg 21 22 23
noncomputable def Xrw:LS:=["_law_one","_law_other","_law_known","_law_wide"]
noncomputable def pB:Sts:=.cons (.ite (.not (.call 16 (.cons (.call 29 (.cons (.var 9) (.cons (.var 10) .nil))) (.cons (.call 31 (.cons (.var 9) (.cons (.var 10) .nil))) .nil)))) (.cons (.ret (.cst (.bl yw))) .nil) .nil) .nil
noncomputable def vv(i j:Nat):Ex:=.tup (.cons (.var i) (.cons (.var j) .nil))
noncomputable def pE:Exs:=.cons (vv 7 8) (.cons (vv 8 7) (.cons (.tup (.cons (.var 7) (.cons (.tup (.cons (.tup .nil) .nil)) .nil))) (.cons (vv 7 7) (.cons (vv 6 8) (.cons (vv 7 6) (.cons (vv 6 6) .nil))))))
noncomputable def cl1(f a:Nat):Ex:=.call f (.cons (.var a) .nil)
noncomputable def cl2(f a b:Nat):Ex:=.call f (.cons (.var a) (.cons (.var b) .nil))
noncomputable def B1:Z.St:=.asg (.var 4) (.call 13 (.cons (cl2 12 0 1) .nil))
noncomputable def B2:Z.St:=.asg (.var 5) (.call 14 (.cons (.var 4) (.cons (.cst (.int 4)) .nil)))
noncomputable def B3:Z.St:=.par [7,8] (.cons (cl1 19 4) (.cons (cl1 19 4) .nil))
noncomputable def B4:Z.St:=.asg (.var 6) (cl2 26 4 8)
noncomputable def lnp(v:Nat):Ex:=.blt .len (.cons (cl1 22 v) .nil)
noncomputable def mnE:Ex:=.blt .min (.cons (lnp 7) (.cons (.bin .sub (.cst (.int 16)) (lnp 8)) .nil))
noncomputable def B5a:Z.St:=.asg (.var 7) (.call 30 (.cons (.var 7) (.cons (.cst (.int 0)) .nil)))
noncomputable def B5b:Z.St:=.asg (.var 8) (.call 30 (.cons (.var 8) (.cons mnE .nil)))
noncomputable def B5:Z.St:=.ite (.cmp .gt (.var 5) (.cst (.int 0))) (.cons B5a (.cons B5b .nil)) .nil
noncomputable def B6:Z.St:=.for (.tup [9,10]) (.val (.lst pE)) pB
noncomputable def Xrx:Sts:=.cons B1 (.cons B2 (.cons B3 (.cons B4 (.cons B5 (.cons B6 .nil)))))
noncomputable def ti1(a:Int):Ex:=.tup (.cons (.cst (.int a)) .nil)
noncomputable def ti2(a b:Int):Ex:=.tup (.cons (.cst (.int a)) (.cons (.cst (.int b)) .nil))
noncomputable def tA(a b:Int):Ex:=.tup (.cons (ti1 a) (.cons (ti1 b) .nil))
noncomputable def tB:Ex:=.tup (.cons (ti2 0 2) (.cons (ti2 0 3) (.cons (ti2 1 2) (.cons (ti2 1 3) .nil))))
noncomputable def t7:Ex:=.tup (.cons (ti1 7) .nil)
noncomputable def t0:Ex:=.tup (.cons (.tup .nil) .nil)
noncomputable def wdS:Z.St:=.asg (.var 2) (.tup (.cons (.lrg yx (.cons (.cst (.int 6)) .nil)) .nil))
noncomputable def lsE:Exs:=.cons (.call 4 (.cons (tA 0 1) (.cons (tA 2 3) .nil))) (.cons (.call 29 (.cons (.var 2) (.cons t7 .nil))) (.cons (.call 29 (.cons (.var 2) (.cons t0 .nil))) .nil))
noncomputable def Xyi:Exs:=.cons tB (.cons (.cst (.str "many")) (.cons (.var 2) .nil))
noncomputable def fin:Sts:=.cons wdS (.cons (.asg (.var 3) (.lst lsE)) (.cons (.ret (.cmp .eq (.var 3) (.lst Xyi))) .nil))
noncomputable abbrev Xk4:Df:=⟨1,11,.cons (.for (.var 1) (.rng (.cons (.blt .max (.cons (.cst (.int 1)) (.cons (.blt .min (.cons (.blt .len (.cons (.var 0) .nil)) (.cons (.cst (.int 10)) .nil))) .nil))) .nil)) Xrx) fin⟩
noncomputable def Xzj:LS:=["_law_script","_law_k","_law_wide","_law_some","_law_pot_here","_law_near","_law_bad","_law_one","_law_other","_law_mine","_law_own"]
noncomputable def T:List Df:=[Xhz,Xcd,Xgc,Xnh,Xni,Xgd,Xef,Xge,Xce,Xkn,Xgf,Xh0,Xdy,Xh1,Xgg,Xfb,Xgh,Xgi,Xc7,Xh3,Xdz,Xeg,Xeh,Xc8,Xh5,Xcx,Xc9,Xd0,Xd1,Xgj,Xfc,Xh7,Xk4]
abbrev MS(p:Nat)(N:LS)(fl:Bool)(d:Df):Prop:=Z.MD fns gns (top p) N fl d
theorem Xry:MS 19 Xrr yx Xhz:=by decide+kernel
theorem Xf6:MS 20 Xf4 yx Xcd:=by decide+kernel
theorem Xn4:MS 21 Xnw yx Xgc:=by decide+kernel
theorem Xyj:MS 26 Xyg yx Xnh:=by decide+kernel
theorem Xyk:MS 27 Xyh yx Xni:=by decide+kernel
theorem Xn5:MS 28 Xnx yx Xgd:=by decide+kernel
theorem Xkr:MS 29 Xko yx Xef:=by decide+kernel
theorem Xn6:MS 30 Xny yx Xge:=by decide+kernel
theorem Xf7:MS 31 Xf5 yx Xce:=by decide+kernel
theorem Xuy:MS 32 Xux yx Xkn:=by decide+kernel
theorem Xn7:MS 33 Xnz yx Xgf:=by decide+kernel
theorem Xrz:MS 34 Xrs yx Xh0:=by decide+kernel
theorem Xjq:MS 36 Xjm yx Xdy:=by decide+kernel
theorem Xr0:MS 37 Xrt yx Xh1:=by decide+kernel
theorem Xn8:MS 38 Xn0 yx Xgg:=by decide+kernel
theorem Xnl:MS 39 Xnj yx Xfb:=by decide+kernel
theorem Xn9:MS 40 Xn1 yx Xgh:=by decide+kernel
theorem Xoa:MS 41 Xn2 yx Xgi:=by decide+kernel
theorem Xh8:MS 42 Xh2 yx Xc7:=by decide+kernel
theorem Xr1:MS 43 Xru yx Xh3:=by decide+kernel
theorem Xjr:MS 44 Xjn yx Xdz:=by decide+kernel
theorem Xks:MS 45 Xkp yx Xeg:=by decide+kernel
theorem Xkt:MS 46 Xkq yx Xeh:=by decide+kernel
theorem Xh9:MS 47 Xh4 yx Xc8:=by decide+kernel
theorem Xr2:MS 48 Xrv yx Xh5:=by decide+kernel
theorem Xha:MS 49 Xg9 yx Xcx:=by decide+kernel
theorem Xia:MS 50 Xh6 yx Xc9:=by decide+kernel
theorem Xjs:MS 51 Xjo yw Xd0:=by decide+kernel
theorem Xjt:MS 52 Xjp yx Xd1:=by decide+kernel
theorem Xob:MS 53 Xn3 yx Xgj:=by decide+kernel
theorem Xnm:MS 54 Xnk yx Xfc:=by decide+kernel
theorem Xr3:MS 55 Xrw yx Xh7:=by decide+kernel
theorem Xr4:MS 56 Xzj yx Xk4:=by decide+kernel
end K03
end
section
namespace K03
open PySem Z
theorem ftx{k f:Nat}{d:Df}{ds:LD}{S:Sto}(h:T[f]?=yz d):FT T G (k+1) f ds S=den (FT T G k) G d ds S:=by simp only[FT,h]
theorem whole(k:Nat):Xdt (FT T G (k+1)) 0:=Xke rfl k
theorem Xuz(k:Nat):Xdt (FT T G (k+1)) 15:=Xke rfl k
theorem X7z(k:Nat){d:D}{lo hi:Int}{S:Sto}(h:good S d):FT T G (k+2) 1 [d,.int lo,.int hi] S=.ok (.bl (wi d lo hi)) S:=by rw[ftx (d:=Xfs 0) rfl];exact Xre (whole k d S h)
theorem X9u(k:Nat)(a b:LI)(S:Sto):FT T G (k+1) 9 [Xa a,Xa b] S=.ok (.bl (lie a b)) S:=by rw[ftx (d:=⟨2,3,Xfw⟩) rfl];exact Xxn S
theorem X9v(k:Nat){f:LI}(h:(lf f)<=6)(S:Sto):∃X,FT T G (k+1) 2 [Xa f] S=.ok (.bl (riz f)) (S++X):=by rw[ftx (d:=Xhu) rfl];exact⟨_,Xxq (by omega) S⟩
theorem X9w(k:Nat){n:LL}(h:(lf n)<=60)(S:Sto):∃X,FT T G (k+1) 2 [Xb n] S=.ok (.bl (rzL n)) (S++X):=by rw[ftx (d:=Xhu) rfl];exact Xua (by omega) S
theorem X9x(k:Nat){d:D}{S:Sto}(gd:good S d)(el:∀xs,d=.tup xs->∀x∈xs,good S x):∃X,FT T G (k+3) 6 [d] S=.ok (.bl (X4 d)) (S++X):=by rw[ftx (d:=Xrh 1 2) rfl];exact X2h rfl rfl (λS d h=>X7z k h) (λl S h=>X9v (k+1) h S) gd el
theorem X9y(k:Nat){n:LL}(h:(lf n)<=60)(S:Sto):∃X,FT T G (k+3) 7 [Xb n] S=.ok (.bl (Xed n)) (S++X):=by rw[ftx (d:=Xxu 8) rfl];refine Xx1 (λf S=>?_) (by omega) S;rw[ftx (d:=Xxt 9) rfl];exact Xx0 (λa b S=>X9u k a b S) (by omega) S
theorem Xyl(k:Nat){d:D}{S:Sto}(gd:good S d)(el:∀xs,d=.tup xs->∀x∈xs,∀X,good (S++X) x/\∀ys,x=.tup ys->∀y∈ys,good (S++X) y):∃X,FT T G (k+4) 3 [d] S=.ok (.bl (Xn d)) (S++X):=by rw[ftx (d:=Xrk 6 2 7) rfl];exact X2j rfl gd (λxs e x B X=>X9x k (el xs e x B X).1 (el xs e x B X).2) (λn S h=>X9w (k+2) h S) (λn S h=>X9y k h S)
theorem Xu0(k:Nat){a b:LI}(h:(lf a)<=6)(S:Sto):∃X,FT T G (k+1) 17 [Xa a,Xa b] S=.ok (.bl (lie a b)) (S++X):=by rw[ftx (d:=⟨2,2,bLL⟩) rfl,Xt1 (by omega) S];exact⟨[.lst ((lft a b).map D.int)]++[.lst []],by rw[Vh]⟩
theorem X70(k:Nat){d:D}{S:Sto}(gd:good S d)(el:∀xs,d=.tup xs->∀x∈xs,good S x):∃X,FT T G (k+2) 20 [d] S=.ok (.bl (X4 d)) (S++X):=by rw[ftx (d:=Xhw 15) rfl];exact Xub (Xuz k) gd el
theorem Xk5(k:Nat){d:D}{S:Sto}(gd:good S d)(el:∀xs,d=.tup xs->∀x∈xs,∀X,good (S++X) x/\∀ys,x=.tup ys->∀y∈ys,good (S++X) y):∃X,FT T G (k+3) 21 [d] S=.ok (.bl (Xn d)) (S++X):=by rw[ftx (d:=Xk2 20 17) rfl];exact Xx3 gd (λxs e x B X=>X70 k (el xs e x B X).1 (el xs e x B X).2) (λs t S h=>Xu0 (k+1) h S)
theorem el2{a b:Nat}{d:D}{S:Sto}(t:NTh S a b d):∀xs,d=.tup xs->∀x∈xs,∀X,good (S++X) x/\∀ys,x=.tup ys->∀y∈ys,good (S++X) y:=λxs z x B X=>⟨Xcv (t.el xs z x B).1,λys w y J=>Xcv ((t.el xs z x B).2 ys w y J)⟩
theorem Ybc(k:Nat){a b:Nat}{d:D}{S:Sto}(t:NTh S a b d)(h:Xn d=yx):∃X,FT T G (k+5) 5 [d] S=.ok .non (S++X):=by obtain⟨X,e⟩:=Xyl k t.gd (el2 t);rw[h]at e;refine⟨X,?_⟩;rw[ftx (d:=Xbs 3 "a net is due") rfl];exact Xnf e
theorem X71(k:Nat){a b:Nat}{d:D}{S:Sto}(t:NTh S a b d)(h:Xn d=yw):∃X,FT T G (k+5) 5 [d] S=.ex (S++X).length (S++X++[.exc 1]):=by obtain⟨X,e⟩:=Xyl k t.gd (el2 t);rw[h]at e;refine⟨X,?_⟩;rw[ftx (d:=Xbs 3 "a net is due") rfl];exact X2o e
theorem Ybd(k:Nat){n:LL}(h:Sid n)(S:Sto):FT T G (k+1) 10 [Xb n] S=.ok (.ref (lf S)) (S++[.lst ((pts n).map D.int)]):=by rw[ftx (d:=dPts) rfl];exact X17 (by have:=h.dd;omega) S
theorem Ybe(k:Nat){n:LL}(h:Sid n)(S:Sto):∃X,FT T G (k+1) 11 [Xb n] S=.ok (.int (wid n)) (S++X):=by rw[ftx (d:=Xxv) rfl];exact Xx5 h.n0 (by have:=h.ln;omega) S
theorem Xr5(S:Sto)(n:LL):good S (Xb n)/\∀xs,Xb n=.tup xs->∀x∈xs,∀X,good (S++X) x/\∀ys,x=.tup ys->∀y∈ys,good (S++X) y:=by refine⟨Xc3 S _ (λ_ z=>nomatch z) (λ_ _ z=>nomatch z),λxs z x J X=>?_⟩;injection z with z;subst z;obtain⟨s,_,rfl⟩:=V0.mp J;refine⟨Xc3 _ _ (λ_ z=>nomatch z) (λ_ _ z=>nomatch z),λys w y B=>?_⟩;injection w with w;subst w;exact Xts s _ y B
theorem X9z(k:Nat){n:LL}(h:Xn (Xb n)=yx)(S:Sto):∃X,FT T G (k+5) 5 [Xb n] S=.ok .non (S++X):=by obtain⟨X,e⟩:=Xyl k (Xr5 S n).1 (Xr5 S n).2;rw[h]at e;refine⟨X,?_⟩;rw[ftx (d:=Xbs 3 "a net is due") rfl];exact Xnf e
theorem jnJ(k:Nat){n m:LL}(hn:Sid n)(B:Sid m)(h1:Xn (Xb n)=yx)(h2:Xn (Xb m)=yx):Jn (FT T G (k+5)) 5 10 11 n m where
 hc:=λl e S=>by rcases e with rfl|rfl<;>exact X9z k (by assumption) S
 hp:=λl e S=>by rcases e with rfl|rfl<;>exact Ybd (k+4) (by assumption) S
 hw:=λl e S=>by rcases e with rfl|rfl<;>exact Ybe (k+4) (by assumption) S
 ln:=hn.ln
 lm:=B.ln
 lp:=by have:=hn.pt;omega
noncomputable abbrev dJ:Df:=dJn 5 10 11 "two nets without a common point are due" "the net would have more than sixty sides" "a side would have more than six points"
theorem jnX(k:Nat){c:Nat}{n m:LL}(hn:Sid n)(B:Sid m)(h1:Xn (Xb n)=yx)(h2:Xn (Xb m)=yx)(h:jnR n m=yz c)(S:Sto):∃X,FT T G (k+6) 4 [Xb n,Xb m] S=.ex (S++X).length (S++X++[.exc c]):=by rw[ftx (d:=dJ) rfl];exact X9n rfl rfl (jnJ k hn B h1 h2) h S
theorem jnO(k:Nat){n m r:LL}(hn:Sid n)(B:Sid m)(h1:Xn (Xb n)=yx)(h2:Xn (Xb m)=yx)(h:jnR n m=yy)(J:Xah (tog n m)=yz r)(S:Sto):∃X,FT T G (k+6) 4 [Xb n,Xb m] S=.ok (Xb r) (S++X):=by rw[ftx (d:=dJ) rfl];exact X9o rfl rfl (jnJ k hn B h1 h2) hn.l6 B.l6 h J S
theorem Ybf(k:Nat){x y:Nat}{a b:D}{S:Sto}(ta:NTh S x y a)(h:Xn a=yw):∃X,FT T G (k+6) 4 [a,b] S=.ex (S++X).length (S++X++[.exc 1]):=by obtain⟨X,e⟩:=X71 k ta h;refine⟨X,?_⟩;rw[ftx (d:=dJ) rfl];exact X7b e
theorem Ybg(k:Nat){x y:Nat}{a b:D}{S:Sto}(ta:NTh S x y a)(tb:NTh S x y b)(h1:Xn a=yx)(h:Xn b=yw):∃X,FT T G (k+6) 4 [a,b] S=.ex (S++X).length (S++X++[.exc 1]):=by obtain⟨X,e⟩:=Ybc k ta h1;obtain⟨Y,B⟩:=X71 k (tb.app (X:=X)) h;refine⟨X++Y,?_⟩;rw[ftx (d:=dJ) rfl,<-Vh];exact X7c e B
theorem Xzk(k:Nat){n:LL}(h:Sid n)(S:Sto):FT T G (k+1) 22 [Xb n] S=.ok (.ref (lf S+1)) (S++[.lst (n.flatten.map D.int)]++[.lst ((pts n).map D.int)]):=by rw[ftx (d:=dLPts) rfl];exact Xxp (by have:=h.dd;omega) h.fl S
theorem duU(k:Nat){n m:LL}(hn:Sid n)(B:Sid m)(h1:Xn (Xb n)=yx)(h2:Xn (Xb m)=yx):Du (FT T G (k+3)) 21 22 n m where
 hc:=λl e S=>by
  have z:Xn (Xb l)=true:=by rcases e with rfl|rfl<;>assumption
  obtain⟨X,q⟩:=Xk5 k (Xr5 S l).1 (Xr5 S l).2;rw[z]at q;exact⟨X,q⟩
 hp:=λl e S=>by
  have z:Sid l:=by rcases e with rfl|rfl<;>assumption
  exact⟨[.lst (l.flatten.map D.int)],by rw[Xzk (k+2) z S,Vy];rfl⟩
 ln:=hn.ln
 lm:=B.ln
 n0:=hn.n0
 m0:=B.n0
 lp:=by have:=B.pt;omega
theorem duX(k:Nat){c:Nat}{n m:LL}(hn:Sid n)(B:Sid m)(h1:Xn (Xb n)=yx)(h2:Xn (Xb m)=yx)(h:jnR n m=yz c)(S:Sto):∃X,FT T G (k+4) 31 [Xb n,Xb m] S=.ok (Xrn c) (S++X):=by rw[ftx (d:=Xdg 21 22 23) rfl];exact X9p (duU k hn B h1 h2) h S
theorem duO(k:Nat){n m r:LL}(hn:Sid n)(B:Sid m)(h1:Xn (Xb n)=yx)(h2:Xn (Xb m)=yx)(h:jnR n m=yy)(J:Xah (tog n m)=yz r)(S:Sto):∃X,FT T G (k+4) 31 [Xb n,Xb m] S=.ok (Xb r) (S++X):=by rw[ftx (d:=Xdg 21 22 23) rfl];refine X9q (duU k hn B h1 h2) h (λS=>?_) S;rw[ftx (d:=Xrm) rfl];exact Xx7 hn.l6 B.l6 hn.ln B.ln J S
theorem Ybh(k:Nat){x y:Nat}{a b:D}{S:Sto}(ta:NTh S x y a)(h:Xn a=yw):∃X,FT T G (k+4) 31 [a,b] S=.ok (.str "net") (S++X):=by obtain⟨X,q⟩:=Xk5 k ta.gd (el2 ta);rw[h]at q;refine⟨X,?_⟩;rw[ftx (d:=Xdg 21 22 23) rfl];exact X7d q
theorem Ybi(k:Nat){x y:Nat}{a b:D}{S:Sto}(ta:NTh S x y a)(tb:NTh S x y b)(h1:Xn a=yx)(h:Xn b=yw):∃X,FT T G (k+4) 31 [a,b] S=.ok (.str "net") (S++X):=by obtain⟨X,q⟩:=Xk5 k ta.gd (el2 ta);rw[h1]at q;have B:=tb.app (X:=X);obtain⟨Y,J⟩:=Xk5 k B.gd (el2 B);rw[h]at J;refine⟨X++Y,?_⟩;rw[ftx (d:=Xdg 21 22 23) rfl,<-Vh];exact X7e q J
theorem X90(k:Nat)(i j:Int)(S:Sto):FT T G (k+2) 16 [.int i,.int j] S=.ok (.bl (i==j)) S:=by rw[ftx (d:=Xaq 16 15) rfl];exact Xxg (Xuz k) i j S
theorem X91(k:Nat){l:LI}(h:(lf l)<=100)(S:Sto):∃X,FT T G (k+3) 16 [Xa l,Xa l] S=.ok (.bl yx) (S++X):=by rw[ftx (d:=Xaq 16 15) rfl];exact Xxi (λi j S=>X90 k i j S) l S h
theorem X92(k:Nat){n:LL}(h:(lf n)<=60)(hw:∀s∈n,lf s<=100)(S:Sto):∃X,FT T G (k+4) 16 [Xb n,Xb n] S=.ok (.bl yx) (S++X):=by rw[ftx (d:=Xaq 16 15) rfl];unfold Xb;refine Xxw (λx B Y=>?_) (by rw[Ve];omega);obtain⟨s,hs,rfl⟩:=V0.mp B;exact X91 k (hw s hs) (S++Y)
theorem Xr6(k:Nat)(t:Str)(S:Sto):∃X,FT T G (k+1) 16 [.str t,.str t] S=.ok (.bl yx) (S++X):=by refine⟨[],?_⟩;rw[ftx (d:=Xaq 16 15) rfl,V3];exact Xxm t S
theorem Xzl{a d r:D}{S:Sto}(B:Sm S 20 400000 a)(hd:Sm S 20 400000 d)(h:∀Y,∃X,FT T G 6 4 [a,d] (S++Y)=.ok r (S++Y++X)):∃X,FT T G 8 29 [a,d] S=.ok r (S++X):=by obtain⟨ps,hs⟩:=X6i B hd;obtain⟨X,e⟩:=h [.lst [a,d]];rw[ftx (d:=Xe5 28) rfl];refine Xkh hs (X:=[.lst [a,d]]++X) ?_;rw[ftx (d:=Xec 4 27) rfl,<-Vh];exact X2c e
theorem Xk6{c:Nat}{a d:D}{S:Sto}(h1:1<=c)(h2:c<=16)(J:Sm S 20 400000 a)(hd:Sm S 20 400000 d)(h:∀Y,∃X,FT T G 6 4 [a,d] (S++Y)=.ex (S++Y++X).length (S++Y++X++[.exc c])):∃X,FT T G 8 29 [a,d] S=.ok (Xca c) (S++X):=by obtain⟨ps,hs⟩:=X6i J hd;obtain⟨X,e⟩:=h [.lst [a,d]];obtain⟨Y,B⟩:=X1z (T:=T) (G:=G) (k:=5) (f:=27) rfl h1 h2 (S++[.lst [a,d]]++X);rw[ftx (d:=Xe5 28) rfl];refine Xkh hs (X:=[.lst [a,d]]++X++Y) ?_;rw[ftx (d:=Xec 4 27) rfl,<-Vh,<-Vh];exact X2d e B
theorem Xym(l:LI):(Yl l).length=lf l:=(Yx l).length_eq
theorem X24{n m r:LL}(hn:Sid n)(J:Sid m)(hp:r.Perm (tog n m)):∀s∈r,lf s<=100:=λs hs=>by have h:=hp.mem_iff.mp hs;unfold tog at h;obtain⟨l,h1,h2⟩:=List.mem_flatten.mp h;obtain⟨u,L,rfl⟩:=V0.mp h1;unfold tgL at h2;obtain⟨t,B,rfl⟩:=V0.mp h2;have U:=hn.l6 u L;have Y:=J.l6 t B;rw[Xym,Vy];omega
theorem X93{a b:D}{S:Sto}(ta:NTh S 20 400000 a)(tb:NTh S 20 400000 b):
  ∃r,(∃X,FT T G 8 29 [a,b] S=.ok r (S++X))/\(∀Y,∃X,FT T G 8 31 [a,b] (S++Y)=.ok r (S++Y++X))/\∀S,∃X,FT T G 8 16 [r,r] S=.ok (.bl yx) (S++X):=by
 cases J:Xn a with
 |false=>refine⟨.str "net",Xk6 (c:=1) (by decide) (by decide) ta.sm tb.sm λY=>?_,λY=>Ybh 4 ta.app J,λS=>Xr6 7 _ S⟩;exact Ybf 0 ta.app J|true=>
  cases L:Xn b with
  |false=>refine⟨.str "net",Xk6 (c:=1) (by decide) (by decide) ta.sm tb.sm λY=>?_,λY=>Ybi 4 ta.app tb.app J L,λS=>Xr6 7 _ S⟩;exact Ybg 0 ta.app tb.app J L|true=>
   obtain⟨n,rfl,hn⟩:=Xkm J;obtain⟨m,rfl,U⟩:=Xkm L;cases B:jnR n m with
   |some c=>
    have hc:c=4\/c=5:=by
     unfold jnR at B;split at B;·injection B with B;exact .inl B.symm
     ·split at B;·injection B with B;exact .inr B.symm
      ·split at B;·injection B with B;exact .inr B.symm
       ·cases B
    have hw:Xca c=Xrn c:=by rcases hc with rfl|rfl<;>rfl
    have ht:=Xk6 (c:=c) (by omega) (by omega) ta.sm tb.sm λY=>jnX 0 hn U J L B (S++Y);rw[hw]at ht;refine⟨Xrn c,ht,λY=>duX 4 hn U J L B (S++Y),λS=>?_⟩;rcases hc with rfl|rfl<;>exact Xr6 7 _ S
   |none=>
    have hl:=(Xg8 B).2.1;have aa:(tog n m).length<=60:=by rw[Xjk];omega
    obtain⟨r,hr,hp⟩:=Xcz (tog n m) (by omega);refine⟨Xb r,Xzl ta.sm tb.sm λY=>jnO 0 hn U J L B hr (S++Y),λY=>duO 4 hn U J L B hr (S++Y),λS=>X92 4 ?_ (X24 hn U hp) S⟩;rw[hp.length_eq];exact aa
theorem Xib(k:Nat):Xal (FT T G (k+1)) 14:=Xxe rfl k
theorem X72(k:Nat){p:Nat}{S:Sto}(hp:Pot p S):∃d S',FT T G (k+2) 24 [.ref p] S=.ok d S'/\Ext p S S'/\Pot p S'/\Dp p S' 5 30000 d:=by rw[ftx (d:=Xxl 14) rfl];exact Xx8 (Xib k) hp
theorem bfF(k:Nat){p:Nat}{l:LI}{S:Sto}(hn:Xb3 l)(B:(lf l)<=6)(hp:Pot p S):∃d S',FT T G (k+3) 25 [.ref p,Xa l] S=.ok d S'/\Ext p S S'/\Pot p S'/\Dp p S' 5 30000 d:=by rw[ftx (d:=dBF 14 24) rfl];exact X7i (Xib (k+1)) (λS h=>X72 k h) hn B hp
theorem bnF(k:Nat){p:Nat}{n:LL}{S:Sto}(hn:Rws 11 n)(hp:Pot p S):∃d S',FT T G (k+4) 26 [.ref p,Xb n] S=.ok d S'/\Ext p S S'/\Pot p S'/\Dp p S' 20 400000 d:=by rw[ftx (d:=dBN 14 24 25) rfl];exact X7k (Xib (k+2)) (λS h=>X72 (k+1) h) (λl S h1 h2 B=>bfF k h1 h2 B) hn hp
theorem grF(k:Nat){q:Nat}{ks:LL}{S:Sto}(L:ks≠[])(U:(lf ks)<=60)(B:∀s∈ks,lf s<=6)(Y:Xc S q=yz (ks.map Xa)):∃X,FT T G (k+2) 18 [.ref q] S=.ok (Xb (grt ks)) (S++X):=by rw[ftx (d:=dGr 17) rfl];exact X7o L U Y λf J o S=>Xu0 k (B f J) S
theorem lnF(k:Nat){p:Nat}{S:Sto}(hp:Pot p S):∃n S',FT T G (k+3) 19 [.ref p] S=.ok (Xb n) S'/\Ext p S S'/\Pot p S'/\n≠[]/\(lf n)<=11/\∀s∈n,Fc s:=by rw[ftx (d:=dLN 14 18) rfl];exact X7w (Xib (k+1)) (λks q S B J L U=>grF k B J L U) hp
theorem Xzm(k:Nat){n:LL}(h:Sid n)(S:Sto):∃X,FT T G (k+1) 22 [Xb n] S=.ok (.ref (S++X).length) (S++X++[.lst ((pts n).map D.int)]):=
 ⟨[.lst (n.flatten.map D.int)],by rw[Xzk k h S,Vy];rfl⟩
theorem Ybj(k:Nat){i:Int}{n r:LL}(h:Sid n)(B:Xah (mvL n i)=yz r)(S:Sto):∃X,FT T G (k+2) 30 [Xb n,.int i] S=.ok (Xb r) (S++X):=by rw[ftx (d:=dMv 22) rfl];exact X7y (λS=>Xzm k h S) h.ln h.l6 B S
theorem mvd(k:Nat){i:Int}{n:LL}(h:Sid n):∃r,r.Perm (mvL n i)/\∀S,∃X,FT T G (k+2) 30 [Xb n,.int i] S=.ok (Xb r) (S++X):=by obtain⟨r,B,hp⟩:=Xcz (mvL n i) (by have:=h.ln;unfold mvL;rw[Ve];omega);exact⟨r,hp,λS=>Ybj k h B S⟩
theorem Xu1{i:Int}(B:0<=i)(h:i<=60):i.natAbs.log2<1920:=by
 have:∀j:Fin 61,((j.val:Int)).natAbs.log2<1920:=by decide+kernel
 have q:=this ⟨i.toNat,by omega⟩;have e:((i.toNat:Nat):Int)=i:=by omega
 simp only[e]at q;exact q
theorem Xp5{s:LI}(h:∀x∈s,0<=x/\x<=60):Xb3 s:=λx B=>Xu1 (h x B).1 (h x B).2
theorem Xu2{n:LL}(B:n≠[])(J:(lf n)<=11)(h:∀s∈n,Fc s):Sid n:=⟨B,by omega,λs hs=>(h s hs).l6,λs hs=>(h s hs).r15⟩
theorem X73{n:LL}(B:n≠[])(J:(lf n)<=11)(h:∀s∈n,Fc s):Rws 11 n:=⟨B,J,λs hs=>⟨Xp5 λx L=>by have:=(h s hs).r15 x L;omega,(h s hs).l6⟩⟩
structure Sn(n:LL):Prop where
 ln:(lf n)<=13
 l6:∀s∈n,lf s<=6
 r60:∀s∈n,∀x∈s,0<=x/\x<=60
theorem Sn.nt{n:LL}(h:Sn n)(S:Sto):NTh S 20 400000 (Xb n):=(Xum (p:=0) (S:=S) (λs hs=>⟨Xp5 (h.r60 s hs),by have:=h.l6 s hs;omega⟩) h.ln).now
theorem Xzn{n:LL}(J:(lf n)<=11)(h:∀s∈n,Fc s):Sn n:=⟨by omega,λs hs=>(h s hs).l6,λs hs x B=>by have:=(h s hs).r15 x B;omega⟩
theorem Xzo{n r:LL}{k:Int}(h:Sid n)(L:(lf n)<=11)(hp:r.Perm (mvL n k))(J:0<=k)(h1:k<=16):Sn r:=by obtain⟨a,b⟩:=Xzi h hp;exact⟨by omega,λs hs=>(b s hs).1,λs hs x B=>by have:=(b s hs).2 x B;omega⟩
theorem X74{n r:LL}(h:Sid n)(hp:r.Perm (mvL n 0)):Sid r:=by obtain⟨a,b⟩:=Xzi h hp;have hn:=List.length_pos_iff.mpr h.n0;refine⟨λz=>by rw[z]at a;simp at a;omega,by have:=h.ln;omega,λs hs=>(b s hs).1,λs hs x B=>by have:=(b s hs).2 x B;omega⟩
theorem X94{F:Fn}{G:LD}{a b r:D}{S S1 S2 J:Sto}{env:En}(L:env[9]?=yz (yz a))(B:env[10]?=yz (yz b))(e1:F 29 [a,b] S=.ok r S1)(U:F 31 [a,b] S1=.ok r S2)(Y:F 16 [r,r] S2=.ok (.bl yx) J):pc F G pB env S=.ok (.nx env) J:=by refine Xd (Xq ?_);simp only[ev,evs,L,B,Rk0,e1,U,Y,Xg,Ut]
noncomputable def pr2(z:D×D):D:=.tup [z.1,z.2]
theorem X95{S:Sto}{q:Nat}{ds:List (D×D)}{x0 x1 x2 x3 x4 x5 x6 x7 x8 u v:Option D}(hq:Xc S q=yz (ds.map pr2))(h:∀z∈ds,NTh S 20 400000 z.1/\NTh S 20 400000 z.2):
  ∃L J S',X9 (Src.ref q).get (.tup [9,10]) (λenv S=>pc (FT T G 8) G pB env S) (lf ds+1) 0 [x0,x1,x2,x3,x4,x5,x6,x7,x8,u,v] S=.ok (.nx [x0,x1,x2,x3,x4,x5,x6,x7,x8,L,J]) S':=by
 obtain⟨e',S',a,⟨X,hX⟩,L,J,rfl⟩:=Xbc (t:=.tup [9,10]) (get:=(Src.ref q).get) (body:=λenv S=>pc (FT T G 8) G pB env S) (ds.map pr2) (λi e S'=>(∃X,S'=S++X)/\∃u v,e=[x0,x1,x2,x3,x4,x5,x6,x7,x8,u,v])
  (λi e S' U=>by
   obtain⟨⟨X,rfl⟩,_⟩:=U;show(Xc (S++X) q).map (λxs=>xs[i]?)=_
   rw[Xl hq];rfl)
  (λi d e S' hd U=>by obtain⟨⟨X,rfl⟩,u,v,rfl⟩:=U;obtain⟨z,Y,rfl⟩:=V0.mp (V6 hd);obtain⟨r,⟨B,e1⟩,h2,h3⟩:=X93 (h z Y).1.app (h z Y).2.app;obtain⟨X2,e2⟩:=h2 B;obtain⟨X3,e3⟩:=h3 (S++X++B++X2);refine⟨[x0,x1,x2,x3,x4,x5,x6,x7,x8,yz z.1,yz z.2],[x0,x1,x2,x3,x4,x5,x6,x7,x8,yz z.1,yz z.2],_,rfl,X94 rfl rfl e1 e2 e3,⟨X++B++X2++X3,by simp only[Vh]⟩,_,_,rfl⟩)
  (lf ds+1) 0 [x0,x1,x2,x3,x4,x5,x6,x7,x8,u,v] S ⟨⟨[],by simp⟩,u,v,rfl⟩ (Ug _) (by rw[Ve];omega)
 exact⟨L,J,S',a⟩
theorem Xf3{F:Fn}{G:LD}{i j:Nat}{a b:D}{env:En}(h1:env[i]?=yz (yz a))(h2:env[j]?=yz (yz b))(S:Sto):ev F G (vv i j) env S=.ok (pr2 (a,b)) S:=by
 have B:([a,b]:LD).length<=big:=by show 2<=big;decide
 unfold vv;simp only[ev,evs,h1,h2,Rk0,B,if_true];rfl
theorem X96{F:Fn}{G:LD}{a b c:D}{env:En}(J:env[6]?=yz (yz c))(B:env[7]?=yz (yz a))(Y:env[8]?=yz (yz b))(S:Sto):evs F G pE env S=.ok (([(a,b),(b,a),(a,Xb [[]]),(a,a),(c,b),(a,c),(c,c)]:List (D×D)).map pr2) S:=by
 have L:([]:LD).length<=big:=by show 0<=big;decide
 have U:([.tup []]:LD).length<=big:=by show 1<=big;decide
 have hb:([a,.tup [.tup []]]:LD).length<=big:=by show 2<=big;decide
 have e3:ev F G (.tup (.cons (.var 7) (.cons (.tup (.cons (.tup .nil) .nil)) .nil))) env S=.ok (pr2 (a,Xb [[]])) S:=by simp only[ev,evs,B,Rk0,L,U,hb,if_true];rfl
 unfold pE;rw[evs,Xf3 B Y,Rk0,evs,Xf3 Y B,Rk0,evs,e3,Rk0,evs,Xf3 B B,Rk0,evs,Xf3 J Y,Rk0,evs,Xf3 B J,Rk0,evs,Xf3 J J,Rk0,evs];rfl
section
variable{F:Fn}{G:LD}{S:Sto}{env:En}
theorem Xnn{f a:Nat}{x:D}(h:env[a]?=yz (yz x)):ev F G (cl1 f a) env S=F f [x] S:=by unfold cl1;simp only[ev,evs,h,Rk0]
theorem Xu3{f a b:Nat}{x y:D}(h1:env[a]?=yz (yz x))(h2:env[b]?=yz (yz y)):ev F G (cl2 f a b) env S=F f [x,y] S:=by unfold cl2;simp only[ev,evs,h1,h2,Rk0]
end
theorem Xu4{v:Nat}{n:LL}{env:En}(J:env[v]?=yz (yz (Xb n)))(h:Sid n)(S:Sto):∃X,ev (FT T G 8) G (lnp v) env S=.ok (.int ((pts n).length:Int)) (S++X):=by obtain⟨X,e⟩:=Xzm 7 h S;refine⟨X++[.lst ((pts n).map D.int)],?_⟩;have B:=Xjc (S:=S++X++[.lst ((pts n).map D.int)]) (q:=(S++X).length) Xf;rw[Ve]at B;unfold lnp;rw[ev,evs,Xnn J,e];simp only[Rk0,evs,B];rw[Vh]
theorem X75(i j:Int)(S:Sto):Xk .min [.int i,.int j] S=.ok (.int (if j<i then j else i)) S:=rfl
theorem X76{n m:LL}{env:En}(L:env[7]?=yz (yz (Xb n)))(h8:env[8]?=yz (yz (Xb m)))(hn:Sid n)(J:Sid m)(S:Sto):∃k X,0<=k/\k<=16/\ev (FT T G 8) G mnE env S=.ok (.int k) (S++X):=by
 obtain⟨X,e1⟩:=Xu4 L hn S;obtain⟨Y,U⟩:=Xu4 h8 J (S++X);have a:=hn.pt;have b:=J.pt;refine⟨if 16-((pts m).length:Int)<((pts n).length:Int) then 16-((pts m).length:Int) else ((pts n).length:Int),X++Y,by split<;>omega,by split<;>omega,?_⟩;have B:ev (FT T G 8) G (.bin .sub (.cst (.int 16)) (lnp 8)) env (S++X)=.ok (.int (16-((pts m).length:Int))) (S++X++Y):=by rw[ev,ev,Rk0,U,Rk0,Xi4]
 unfold mnE;rw[ev,evs,e1,Rk0,evs,B];simp only[Rk0,evs,X75,Vh]
theorem X97{nr:Nat}{n m:LL}{sc x1 x2 x3 x4 x6 x9 x10:Option D}{p:Nat}{S:Sto}(hn:Sid n)(L:Sid m)(ln:(lf n)<=11)(lm:(lf m)<=11)(sn:Sn n)(sm:Sn m):
  ∃n' Y X,Sn n'/\Sn Y/\exe (FT T G 8) G B5 [sc,x1,x2,x3,x4,yz (.int (nr:Int)),x6,yz (Xb n),yz (Xb m),x9,x10] S=.ok (.nx [sc,x1,x2,x3,x4,yz (.int (nr:Int)),x6,yz (Xb n'),yz (Xb Y),x9,x10]) (S++X):=by
 have hc:ev (FT T G 8) G (.cmp .gt (.var 5) (.cst (.int 0))) [sc,x1,x2,x3,x4,yz (.int (nr:Int)),x6,yz (Xb n),yz (Xb m),x9,x10] S=.ok (.bl (decide ((0:Int)<(nr:Int)))) S:=by simp only[ev,gZ0,gS0,Rk0,Xh,X5]
 by_cases h0:(0:Int)<(nr:Int);·rw[decide_eq_true h0]at hc;obtain⟨r,pr,hr⟩:=mvd 6 (i:=0) hn;obtain⟨B,e1⟩:=hr S;have sr:=X74 hn pr;have s1:exe (FT T G 8) G B5a [sc,x1,x2,x3,x4,yz (.int (nr:Int)),x6,yz (Xb n),yz (Xb m),x9,x10] S=.ok (.nx [sc,x1,x2,x3,x4,yz (.int (nr:Int)),x6,yz (Xb r),yz (Xb m),x9,x10]) (S++B):=Xa0 (by simp only[ev,evs,gZ0,gS0,Rk0,e1]);obtain⟨k,J,k0,k1,e2⟩:=X76 (env:=[sc,x1,x2,x3,x4,yz (.int (nr:Int)),x6,yz (Xb r),yz (Xb m),x9,x10]) rfl rfl sr L (S++B);obtain⟨t,pt,ht⟩:=mvd 6 (i:=k) L;obtain⟨U,e3⟩:=ht (S++B++J);have s2:exe (FT T G 8) G B5b [sc,x1,x2,x3,x4,yz (.int (nr:Int)),x6,yz (Xb r),yz (Xb m),x9,x10] (S++B)=.ok (.nx [sc,x1,x2,x3,x4,yz (.int (nr:Int)),x6,yz (Xb r),yz (Xb t),x9,x10]) (S++B++J++U):=Xa0 (by rw[ev,evs];simp only[ev,gZ0,gS0,Rk0,evs,e2,e3]);refine⟨r,t,B++J++U,Xzo hn ln pr (by omega) (by omega),Xzo L lm pt k0 k1,?_⟩;unfold B5;rw[exe,hc,Rk0];simp only[Xg];refine(Xd s1).trans ((Xd s2).trans ?_);rw[pc];simp only[Vh]
 ·rw[decide_eq_false h0]at hc;refine⟨n,m,[],sn,sm,?_⟩;rw[V3];exact Xq hc
theorem turn(ns:LI)(i:Nat)(a2 a3 a4 a5 a6 a7 a8 a9 U:Option D)(S:Sto):
  ∃e S',pc (FT T G 8) G Xrx [yz (.fro (ns.map D.int)),yz (.int i),a2,a3,a4,a5,a6,a7,a8,a9,U] S=.ok (.nx e) S'/\∃b1 b2 b3 b4 b5 b6 b7 b8 b9 ah,e=[yz (.fro (ns.map D.int)),b1,b2,b3,b4,b5,b6,b7,b8,b9,ah]:=by
 obtain⟨c,hc⟩:=Xw9 (F:=FT T G 7) (G:=G) ns i S;obtain⟨v,hv⟩:=X1w (F:=FT T G 7) (G:=G) c S;have aj:FT T G 8 12 [.fro (ns.map D.int),.int i] S=.ok (.int c) S:=by rw[ftx (d:=Xho) rfl];exact hc
 have af:FT T G 8 13 [.int c] S=.ok (.ref (lf S)) (S++[.lst [.int v]]):=by rw[ftx (d:=Xgz) rfl];exact hv
 have ab:∀ {env:En},env[0]?=yz (yz (.fro (ns.map D.int)))->env[1]?=yz (yz (.int i))->ev (FT T G 8) G (.call 13 (.cons (cl2 12 0 1) .nil)) env S=.ok (.ref (lf S)) (S++[.lst [.int v]]):=λh0 h1=>by rw[ev,evs,Xu3 h0 h1,aj];simp only[Rk0,evs];rw[af]
 have p1:Pot (lf S) (S++[O.lst [.int v]]):=⟨v,Xf⟩;generalize S++[O.lst [.int v]]=S1 at ab p1;generalize (lf S)=p at ab p1;obtain⟨nr,S2,_,c2,_,p2,_⟩:=tkN (c:=4) (Xib 7) p1 (by omega) (by omega);have ai:∀ {env:En},env[4]?=yz (yz (.ref p))->ev (FT T G 8) G (.call 14 (.cons (.var 4) (.cons (.cst (.int 4)) .nil))) env S1=.ok (.int (nr:Int)) S2:=λh=>by simp only[ev,evs,h,Rk0];exact c2
 obtain⟨n,S3,d1,d2,p3,n0,ln,fn⟩:=lnF 5 p2;obtain⟨m,S4,f1,f2,p4,m0,lm,fm⟩:=lnF 5 p3;obtain⟨J,L,g1,g2,p5,kb⟩:=bnF 4 (X73 m0 lm fm) p4;generalize ak:yz (D.fro (ns.map D.int))=sc at ab ⊢;obtain⟨B,Y,X,sn,sm,s5⟩:=X97 (nr:=nr) (p:=p) (sc:=sc) (x1:=yz (.int i)) (x2:=a2) (x3:=a3) (x4:=yz (.ref p)) (x6:=yz J) (x9:=a9) (x10:=U) (S:=L) (Xu2 n0 ln fn) (Xu2 m0 lm fm) ln lm (Xzn ln fn) (Xzn lm fm);have ac:NTh (L++X) 20 400000 J:=kb.now.app;have he:=X96 (F:=FT T G 8) (G:=G) (a:=Xb B) (b:=Xb Y) (c:=J) (env:=[sc,yz (.int i),a2,a3,yz (.ref p),yz (.int (nr:Int)),yz J,yz (Xb B),yz (Xb Y),a9,U]) rfl rfl rfl (L++X);have sz:Sn [[]]:=⟨by decide,λs hs=>by rw[V9.mp hs];decide,λs hs x hx=>by rw[V9.mp hs]at hx;cases hx⟩;have aa:∀z∈[(Xb B,Xb Y),(Xb Y,Xb B),(Xb B,Xb [[]]),(Xb B,Xb B),(J,Xb Y),(Xb B,J),(J,J)],NTh (L++X) 20 400000 z.1/\NTh (L++X) 20 400000 z.2:=by
  intro z hz;simp only[Vn,U9,or_false]at hz;rcases hz with rfl|rfl|rfl|rfl|rfl|rfl|rfl;·exact⟨sn.nt _,sm.nt _⟩
  ·exact⟨sm.nt _,sn.nt _⟩
  ·exact⟨sn.nt _,sz.nt _⟩
  ·exact⟨sn.nt _,sn.nt _⟩
  ·exact⟨ac,sm.nt _⟩
  ·exact⟨sn.nt _,ac⟩
  exact⟨ac,ac⟩
 generalize ag:[(Xb B,Xb Y),(Xb Y,Xb B),(Xb B,Xb [[]]),(Xb B,Xb B),(J,Xb Y),(Xb B,J),(J,J)]=ds at he aa;have al:(lf ds)=7:=by rw[<-ag];rfl
 have hb:(ds.map pr2).length<=big:=X8 (by rw[Ve];omega);have ae:ev (FT T G 8) G (.lst pE) [sc,yz (.int i),a2,a3,yz (.ref p),yz (.int (nr:Int)),yz J,yz (Xb B),yz (Xb Y),a9,U] (L++X)=.ok (.ref (L++X).length) (L++X++[.lst (ds.map pr2)]):=by simp only[ev,he,Rk0,hb,if_true]
 have hq:Xc (L++X++[.lst (ds.map pr2)]) (L++X).length=yz (ds.map pr2):=Xf;obtain⟨u',v',S7,w⟩:=X95 (x0:=sc) (x1:=yz (.int i)) (x2:=a2) (x3:=a3) (x4:=yz (.ref p)) (x5:=yz (.int (nr:Int))) (x6:=yz J) (x7:=yz (Xb B)) (x8:=yz (Xb Y)) (u:=a9) (v:=U) hq (λz hz=>⟨(aa z hz).1.app,(aa z hz).2.app⟩);have s6:exe (FT T G 8) G B6 [sc,yz (.int i),a2,a3,yz (.ref p),yz (.int (nr:Int)),yz J,yz (Xb B),yz (Xb Y),a9,U] (L++X)=.ok (.nx [sc,yz (.int i),a2,a3,yz (.ref p),yz (.int (nr:Int)),yz J,yz (Xb B),yz (Xb Y),u',v']) S7:=by
  unfold B6;rw[exe,Xe6 ae hq,Rk0];have hm:(Src.ref (L++X).length).most (L++X++[.lst (ds.map pr2)])=lf ds:=by simp only[Src.most,hq,Vcw,Ve]
  rw[hm];exact w
 exact⟨_,S7,(Y0 (ab rfl rfl)).trans ((Y0 (ai rfl)).trans ((Xfa ((Xnn rfl).trans d1) ((Xnn rfl).trans f1)).trans ((Y0 ((Xu3 rfl rfl).trans g1)).trans ((Xd s5).trans ((Xd s6).trans rfl))))),_,_,_,_,_,_,_,_,_,_,rfl⟩
noncomputable def wide:LL:=[[0,1,2,3,4,5]]
noncomputable def four:LL:=[[0,2],[0,3],[1,2],[1,3]]
section
variable{F:Fn}{G:LD}{S:Sto}{env:En}
theorem b1(x:D):([x]:LD).length<=big:=by show 1<=big;decide
theorem b2(x y:D):([x,y]:LD).length<=big:=by show 2<=big;decide
theorem b3(x y z:D):([x,y,z]:LD).length<=big:=by show 3<=big;decide
theorem b4(x y z w:D):([x,y,z,w]:LD).length<=big:=by show 4<=big;decide
theorem b0:([]:LD).length<=big:=by show 0<=big;decide
theorem Xu5(a:Int)(S:Sto):ev F G (ti1 a) env S=.ok (Xa [a]) S:=by unfold ti1;simp only[ev,evs,Rk0,b1,if_true];rfl
theorem X77(a b:Int)(S:Sto):ev F G (ti2 a b) env S=.ok (Xa [a,b]) S:=by unfold ti2;simp only[ev,evs,Rk0,b2,if_true];rfl
theorem Xzp(a b:Int)(S:Sto):ev F G (tA a b) env S=.ok (Xb [[a],[b]]) S:=by unfold tA;simp only[ev,evs,Rk0,Xu5,b2,if_true];rfl
theorem X98(S:Sto):ev F G tB env S=.ok (Xb four) S:=by unfold tB;simp only[ev,evs,Rk0,X77,b4,if_true];rfl
theorem X99(S:Sto):ev F G t7 env S=.ok (Xb [[7]]) S:=by unfold t7;simp only[ev,evs,Rk0,Xu5,b1,if_true];rfl
theorem Yaa(S:Sto):ev F G t0 env S=.ok (Xb [[]]) S:=by unfold t0;simp only[ev,evs,Rk0,b0,b1,if_true];rfl
theorem Xhx(S:Sto):ev F G (.tup (.cons (.lrg yx (.cons (.cst (.int 6)) .nil)) .nil)) env S=.ok (Xb wide) S:=by
 have B:Yu [.int 6]=yz ([.int 0,.int 1,.int 2,.int 3,.int 4,.int 5]):=by rfl
 have h:ev F G (.lrg yx (.cons (.cst (.int 6)) .nil)) env S=.ok (Xa [0,1,2,3,4,5]) S:=by simp only[ev,evs,Rk0,B,if_true];rfl
 exact Xb4 h
end
theorem Xfd{n:LL}(J:n≠[])(L:(lf n)<=60)(B:(n.all λs=>decide (lf s<=6)&&s.all λx=>decide (0<=x)&&decide (x<=15))=yx):Sid n:=by
 rw[Uk]at B;refine⟨J,L,λs hs=>?_,λs hs x U=>?_⟩;·have:=B s hs;rw[bA0,decide_eq_true_eq]at this;exact this.1
 ·have:=B s hs;rw[bA0,Uk]at this;have:=this.2 x U;rw[bA0,decide_eq_true_eq,decide_eq_true_eq]at this;exact this
theorem Xk7{n:LL}(h:Sid n)(B:(lf n)<=13):Sn n:=⟨B,h.l6,λs hs x J=>by have:=h.r15 s hs x J;omega⟩
theorem Ybk:Sid [[0],[1]]:=Xfd (by decide) (by decide) (by decide)
theorem Ybl:Sid [[2],[3]]:=Xfd (by decide) (by decide) (by decide)
theorem sdw:Sid wide:=Xfd (by decide) (by decide) (by decide)
theorem sd7:Sid [[7]]:=Xfd (by decide) (by decide) (by decide)
theorem sd0:Sid [[]]:=Xfd (by decide) (by decide) (by decide)
theorem Yab(S:Sto):∃X,FT T G 8 4 [Xb [[0],[1]],Xb [[2],[3]]] S=.ok (Xb four) (S++X):=jnO 2 Ybk Ybl (by decide+kernel) (by decide+kernel) (by decide+kernel) (by decide+kernel) S
theorem Yac(S:Sto):∃X,FT T G 8 29 [Xb wide,Xb [[7]]] S=.ok (.str "many") (S++X):=Xk6 (c:=5) (by decide) (by decide) ((Xk7 sdw (by decide)).nt S).sm ((Xk7 sd7 (by decide)).nt S).sm λY=>jnX 0 sdw sd7 (by decide+kernel) (by decide+kernel) (by decide+kernel) (S++Y)
theorem Yad(S:Sto):∃X,FT T G 8 29 [Xb wide,Xb [[]]] S=.ok (Xb wide) (S++X):=Xzl ((Xk7 sdw (by decide)).nt S).sm ((Xk7 sd0 (by decide)).nt S).sm λY=>jnO 0 sdw sd0 (by decide+kernel) (by decide+kernel) (by decide+kernel) (by decide+kernel) (S++Y)
noncomputable def ds3:LD:=[Xb four,.str "many",Xb wide]
noncomputable def P3:Vby:=.list [.tuple (four.map Xaf),.str "many",.tuple (wide.map Xaf)]
theorem X78{S:Sto}{q:Nat}(h:Xc S q=yz ds3):Yc S (.ref q)=yz P3:=by show Ye S 4 q=_;rw[Ye,Xbq h];rfl
theorem Ybm:(if (P3.canLay0&&P3.canLay0&&decide (P3.depth<=60))=yx then yz (Vaz P3 P3) else yy)=yz true:=by decide+kernel
theorem Ybn{S:Sto}{a b:Nat}(h1:Xc S a=yz ds3)(h2:Xc S b=yz ds3):Xh .eq (.ref a) (.ref b) S=.ok (.bl yx) S:=by
 have B:=X78 h1;have J:=X78 h2;have z:eqD S (.ref a) (.ref b)=yz true:=by
  unfold eqD;simp only[Xbf];rw[B,J];have y:=Ybm;by_cases c:(P3.canLay0&&P3.canLay0&&decide (P3.depth<=60))=yx;·rw[iP0 c]at y;dsimp only;rw[iP0 c];exact y
  ·rw[iN0 c]at y;cases y
 simp only[Xh,X5,z]
theorem X79{x0 x1 x2 x3 x4 x5 x6 x7 x8 x9 x10:Option D}(S:Sto):∃S',pc (FT T G 8) G fin [x0,x1,x2,x3,x4,x5,x6,x7,x8,x9,x10] S=.ok (.rt (.bl yx)) S':=by
 obtain⟨B,c1⟩:=Yab S;obtain⟨J,c2⟩:=Yac (S++B);obtain⟨L,c3⟩:=Yad (S++B++J);have s1:exe (FT T G 8) G wdS [x0,x1,x2,x3,x4,x5,x6,x7,x8,x9,x10] S=.ok (.nx [x0,x1,yz (Xb wide),x3,x4,x5,x6,x7,x8,x9,x10]) S:=Xa0 (Xhx S);have e1:∀env,ev (FT T G 8) G (.call 4 (.cons (tA 0 1) (.cons (tA 2 3) .nil))) env S=.ok (Xb four) (S++B):=λenv=>by rw[ev,evs,Xzp,Rk0,evs,Xzp];simp only[Rk0,evs,c1]
 have e2:ev (FT T G 8) G (.call 29 (.cons (.var 2) (.cons t7 .nil))) [x0,x1,yz (Xb wide),x3,x4,x5,x6,x7,x8,x9,x10] (S++B)=.ok (.str "many") (S++B++J):=by rw[ev,evs];simp only[ev,gZ0,gS0,Rk0,evs,X99,c2]
 have e3:ev (FT T G 8) G (.call 29 (.cons (.var 2) (.cons t0 .nil))) [x0,x1,yz (Xb wide),x3,x4,x5,x6,x7,x8,x9,x10] (S++B++J)=.ok (Xb wide) (S++B++J++L):=by rw[ev,evs];simp only[ev,gZ0,gS0,Rk0,evs,Yaa,c3]
 have hl:ev (FT T G 8) G (.lst lsE) [x0,x1,yz (Xb wide),x3,x4,x5,x6,x7,x8,x9,x10] S=.ok (.ref (S++B++J++L).length) (S++B++J++L++[.lst ds3]):=by unfold lsE;rw[ev,evs,e1,Rk0,evs,e2,Rk0,evs,e3];simp only[Rk0,evs,b3,if_true];rfl
 have Y:exe (FT T G 8) G (.asg (.var 3) (.lst lsE)) [x0,x1,yz (Xb wide),x3,x4,x5,x6,x7,x8,x9,x10] S=.ok (.nx [x0,x1,yz (Xb wide),yz (.ref (S++B++J++L).length),x4,x5,x6,x7,x8,x9,x10]) (S++B++J++L++[.lst ds3]):=Xa0 hl;have k1:Xc (S++B++J++L++[.lst ds3]) (S++B++J++L).length=yz ds3:=Xf;generalize (S++B++J++L).length=q at Y k1;generalize S++B++J++L++[O.lst ds3]=U at Y k1;have hd:ev (FT T G 8) G (.lst Xyi) [x0,x1,yz (Xb wide),yz (.ref q),x4,x5,x6,x7,x8,x9,x10] U=.ok (.ref U.length) (U++[.lst ds3]):=by unfold Xyi;rw[ev,evs,X98,Rk0];simp only[evs,ev,gZ0,gS0,Rk0,b3,if_true];rfl
 have he:=Ybn (S:=U++[.lst ds3]) (a:=q) (b:=U.length) (Xl k1) Xf;refine⟨U++[.lst ds3],?_⟩;unfold fin;refine(Xd s1).trans ((Xd Y).trans (Xi ?_));have v3:ev (FT T G 8) G (.var 3) [x0,x1,yz (Xb wide),yz (.ref q),x4,x5,x6,x7,x8,x9,x10] U=.ok (.ref q) U:=by simp only[ev,gZ0,gS0]
 rw[exe,ev,v3,Rk0,hd,Rk0,he,Rk0]
theorem law_true(ns:LI)(h:(lf ns)<=63):∃S',FT T G 9 32 [.fro (ns.map D.int)] []=.ok (.bl yx) S':=by
 rw[ftx (d:=Xk4) rfl];obtain⟨m,hm,m0,m1⟩:=Z.turns (F:=FT T G 8) (G:=G) (env:=[yz (.fro (ns.map D.int)),yy,yy,yy,yy,yy,yy,yy,yy,yy,yy]) (S:=[]) (ns:=ns) 10 (by decide) (by decide) rfl;obtain⟨xs,hx,hl⟩:=Xc2 (m:=m) m0 (Xmx (by omega));obtain⟨e',S',f2,b1,b2,b3,b4,Y,b6,U,L,J,B,rfl⟩:=Xi3 (F:=FT T G 8) (G:=G) (t:=.var 1) (b:=Xrx) (xs:=xs)
  (λi e S'=>∃b1 b2 b3 b4 Y b6 U L J B,e=[yz (.fro (ns.map D.int)),b1,b2,b3,b4,Y,b6,U,L,J,B]) hm hx ⟨yy,yy,yy,yy,yy,yy,yy,yy,yy,yy,rfl⟩ (λi d e S' hd hP=>by obtain⟨b1,b2,b3,b4,Y,b6,U,L,J,B,rfl⟩:=hP;obtain⟨rfl,hi⟩:=Xmw hx hd;obtain⟨e2,S2,t1,t2⟩:=turn ns i b2 b3 b4 Y b6 U L J B S';exact⟨_,e2,S2,rfl,t1,t2⟩)
 obtain⟨S4,f4⟩:=X79 (x0:=yz (.fro (ns.map D.int))) (x1:=b1) (x2:=b2) (x3:=b3) (x4:=b4) (x5:=Y) (x6:=b6) (x7:=U) (x8:=L) (x9:=J) (x10:=B) S';refine⟨S4,Yd (env:=[yz (.fro (ns.map D.int)),yy,yy,yy,yy,yy,yy,yy,yy,yy,yy]) rfl rfl ?_⟩;exact(Xd f2).trans f4
end K03
end
section
namespace K03
open PySem PySem.Spec PyProof.Rows L2 Z
set_option maxHeartbeats 0 in
theorem all_mk {P:V4} {w:Ua} {K:Vj} {h:Heap} {mg:Str->OV} {fa:Addr} {t0 t1 t2:Tok} (X:K.In h) (B:h.Ns Uf mg) (am:mg "law"=yz (.ref fa))
  (er:Xwh K=yx) (bl:X59 K=yx) (g0:Va7 K Uf "GREATEST_POINT"=yz (yz (.int 15 t0))) (g1:Va7 K Uf "GREATEST_SIZE"=yz (yz (.int 6 t1))) (g2:Va7 K Uf "MOST_SIDES"=yz (yz (.int 60 t2)))
  (f0:FunAt K "is_whole" (top 19)) (f1:FunAt K "is_whole_within" (top 20)) (f2:FunAt K "is_rising" (top 21)) (f3:FunAt K "is_net" (top 26)) (f4:FunAt K "joined" (top 27)) (f5:FunAt K "check_net" (top 28)) (f6:FunAt K "is_any_face" (top 29)) (f7:FunAt K "is_nested" (top 30)) (f8:FunAt K "lies_in_another" (top 31)) (f9:FunAt K "lies_in" (top 32)) (av:FunAt K "points_of" (top 33)) (ai:FunAt K "width_of" (top 34)) (aw:FunAt K "_law_cell_at" (top 36)) (aq:FunAt K "_law_pot" (top 37)) (ap:FunAt K "_law_take" (top 38)) (ah:FunAt K "_law_whole" (top 39)) (L:FunAt K "_law_same" (top 40)) (al:FunAt K "_law_lies" (top 41)) (ak:FunAt K "_law_greatest" (top 42)) (aj:FunAt K "_law_net" (top 43)) (af:FunAt K "_law_is_face" (top 44)) (ab:FunAt K "_law_is_net" (top 45)) (ac:FunAt K "_law_points" (top 46)) (au:FunAt K "_law_together" (top 47)) (an:FunAt K "_law_odd" (top 48)) (ax:FunAt K "_law_bent_face" (top 49)) (ar:FunAt K "_law_bent_net" (top 50)) (ae:FunAt K "_law_kind_of" (top 51)) (ay:FunAt K "_law_told_by" (top 52)) (ag:FunAt K "_law_told" (top 53)) (U:FunAt K "_law_moved" (top 54)) (ao:FunAt K "_law_due" (top 55)) (J:FunAt K "law" (top 56)):
  ∃fd:Vdj,(∀(s:Vc) (u:Vb),BindsTo s fd ⟨[u],[]⟩ [("_law_script",u)])/\∀base:Heap,K.In base->base.Ns Uf mg->FnOk P w K mg base (CXd P w) 9 fa fd ["_law_script"] (spD K 1 (FT T G 9 32)):=by
 have Y:=X1b er;have aa:=X1u X B bl;have hg:∀(k:Nat) nm,gns[k]?=yz nm->∃u d,mg nm=yz u/\G[k]?=yz d/\∀ ρ H,∃v,RelV v u/\RD K ρ H d v:=λk nm e=>by
  match k,e with
  |0,e=>cases e;exact Xi0 X B g0|1,e=>cases e;exact Xi0 X B g1|2,e=>cases e;exact Xi0 X B g2|k+3,e=>cases e
 have hD:AllD K mg fns gns fns T:=AllD.c (dk X B f0 Xry Xak) <| AllD.c (dk X B f1 Xf6 Ya3) <| AllD.c (dk X B f2 Xn4 Xak) <| AllD.c (dk X B f3 Xyj Xak) <| AllD.c (dk X B f4 Xyk Xbp) <| AllD.c (dk X B f5 Xn5 Xak) <| AllD.c (dk X B f6 Xkr Xak) <| AllD.c (dk X B f7 Xn6 Xak) <| AllD.c (dk X B f8 Xf7 Xbp) <| AllD.c (dk X B f9 Xuy Xbp) <| AllD.c (dk X B av Xn7 Xak) <| AllD.c (dk X B ai Xrz Xak) <| AllD.c (dk X B aw Xjq Xbp) <| AllD.c (dk X B aq Xr0 Xak) <| AllD.c (dk X B ap Xn8 Xbp) <| AllD.c (dk X B ah Xnl Xak) <| AllD.c (dk X B L Xn9 Xbp) <| AllD.c (dk X B al Xoa Xbp) <| AllD.c (dk X B ak Xh8 Xak) <| AllD.c (dk X B aj Xr1 Xak) <| AllD.c (dk X B af Xjr Xak) <| AllD.c (dk X B ab Xks Xak) <| AllD.c (dk X B ac Xkt Xak) <| AllD.c (dk X B au Xh9 Xbp) <| AllD.c (dk X B an Xr2 Xak) <| AllD.c (dk X B ax Xha Xbp) <| AllD.c (dk X B ar Xia Xbp) <| AllD.c (dk X B ae Xjs Xak) <| AllD.c (dk X B ay Xjt Xbp) <| AllD.c (dk X B ag Xob Xbp) <| AllD.c (dk X B U Xnm Xbp) <| AllD.c (dk X B ao Xr3 Xbp) <| AllD.c (dk X B J Xr4 Xak) <| True.intro;exact law_fn (k:=8) (d:=Xk4) (st:=top 56) (N:=Xzj) X B am Y aa hg hD.get rfl J (ms Xr4) (mm Xr4) rfl rfl Xak
noncomputable def kept:LM:=[top 1,top 2,top 3,top 4,top 5,top 6,top 7,top 8,top 9,top 10,top 11,top 12,top 13,top 14,top 15,top 16,top 17,top 19,top 20,top 21,top 23,top 24,top 25,top 26,top 27,top 28,top 29,top 30,top 31,top 32,top 33,top 34,top 36,top 37,top 38,top 39,top 40,top 41,top 42,top 43,top 44,top 45,top 46,top 47,top 48,top 49,top 50,top 51,top 52,top 53,top 54,top 55,top 56]
noncomputable def Q:V4:={ PySem.Challenge.pw_facecounts_k03_nets_joined with main:={ PySem.Challenge.pw_facecounts_k03_nets_joined.main with body:=kept} }
end K03
open PySem PySem.W PyProof.Rows
noncomputable def PySem.W.Fast.tw12380124334896191704:PySem.Program:=PySem.Challenge.pw_facecounts_k03_nets_joined
theorem PySem.W.Fast.te12380124334896191704:PySem.Challenge.pw_facecounts_k03_nets_joined=PySem.W.Fast.tw12380124334896191704:=rfl
lay_quick Z.topT PySem.W.topStub
set_option maxRecDepth 100000 in
set_option maxHeartbeats 0 in
theorem K03.st_ok:Z.RunT PySem.Challenge.pw_facecounts_k03_nets_joined (λw s=>staticsOk (Ven PySem.Challenge.pw_facecounts_k03_nets_joined.main.body) (boot_heap w.params) s.abs.heap&&namesBound PySem.Challenge.pw_facecounts_k03_nets_joined s.abs.heap&&gensDone s.abs&&laidKept (boot_heap w.params) s.abs.heap) λ_=>true:=by intro w os;rw[PySem.W.Fast.te15842407815417585275,PySem.W.Fast.te2530740449226627131,Vfw];kernel_rfl
set_option maxRecDepth 100000 in
set_option maxHeartbeats 0 in
theorem K03.seen_ok:Z.RunT PySem.Challenge.pw_facecounts_k03_nets_joined (λ_ s=>openSeen K03.Q [] (Ven PySem.Challenge.pw_facecounts_k03_nets_joined.main.body) (λs=>PySem.W.xlAt K03.Q [] s&&PySem.W.recOk [] s) yx s.abs) λ_=>openGood K03.Q []:=by intro w os;unfold K03.Q K03.kept K03.top;rw[PySem.W.Fast.te4187177175401517315,PySem.W.Fast.te15842407815417585275,PySem.W.Fast.te2530740449226627131,Vfw];kernel_rfl
local macro_rules | `(tactic| o_head $H)=>`(tactic|
 refine PySem.W.holds_open (q:=K03.Q) (loose:=[]) (Xt:=λs=>PySem.W.xlAt K03.Q [] s&&PySem.W.recOk [] s)
  (XP:=PySem.W.XL K03.Q []) (Yf:=PySem.W.Hook.obs $H) (Ya:=PySem.W.Hook.val $H)
  (YP:=PySem.W.Hook.says $H) (N:=40000) ?hl (PySem.W.Hook.of $H) (PySem.W.Hook.keeps $H)
  (λs e=>PySem.W.xl_of s (Bool.and_eq_true_iff.mp e).1) PySem.W.XL.keeps
  (by rfl) (by rfl) (by rfl)
  (λs e=>PySem.W.recFacts_of (Bool.and_eq_true_iff.mp e).2)
  (by rfl) (by first|assumption|decide+kernel) (by decide+kernel)
  ⟨rfl,rfl,rfl,rfl,rfl,by decide+kernel⟩ ?hw ?hc)
set_option maxRecDepth 100000 in
set_option maxHeartbeats 0 in
theorem PySem.Challenge.cw_facecounts_k03_nets_joined_holds : PySem.Challenge.rw_facecounts_k03_nets_joined.Holds := by
 w_on;o_law;x_head
 (case hl =>
  refine Z.left_tree3 (p:=PySem.Challenge.pw_facecounts_k03_nets_joined) (by kernel_rfl) (λs=>by kernel_rfl) K03.st_ok K03.seen_ok ?_
  intro w os;dsimp only[PySem.W.kHook];rw[PySem.W.Fast.te15842407815417585275,PySem.W.Fast.te2530740449226627131,PySem.W.Fast.te14364793385576792824]
  kernel_rfl)
 (case hw=>w_witness2)
 k_fill
 refine Z.walk_z (l:=PySem.Challenge.rw_facecounts_k03_nets_joined) (T:=K03.T) (G:=K03.G) (k:=9) (f:=32) (x:="_law_script") rfl rfl ⟨rfl,rfl,by decide,by decide⟩ (λw h Y=>PySem.W.kIn_of Y) ?F K03.law_true
 case F =>
  as_aux_lemma =>
   intro w mg fa h KX G hmg;refine' K03.all_mk KX G hmg ?er ?bl ?g0 ?g1 ?g2 ?f0 ?f1 ?f2 ?f3 ?f4 ?f5 ?f6 ?f7 ?f8 ?f9 ?f10 ?f11 ?f12 ?f13 ?f14 ?f15 ?f16 ?f17 ?f18 ?f19 ?f20 ?f21 ?f22 ?f23 ?f24 ?f25 ?f26 ?f27 ?f28 ?f29 ?f30 ?f31 ?f32
   (case g0=>k_is)
   (case g1=>k_is)
   (case g2=>k_is)
   (case er=>kernel_rfl)
   (case bl=>kernel_rfl)
   all_goals (refine' Z.funAt_mk ?a ?l ?c ?k;(case a=>k_is);(case l=>k_is);(case c=>k_is);(case k=>k_is))
end
