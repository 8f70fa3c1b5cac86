import PyProof.Rows.All
import Wide.All
import OpenK.AllK
import Wide.FinOn
import Lean
import PyProof.EqAt
import PyProof.EqKinds
import PyProof.TupleCall
import PySem.Challenge.RW_facecounts_k33_above_and_below
set_option Elab.async false
set_option linter.all false
set_option maxRecDepth 100000
set_option exponentiation.threshold 3000
set_option genSizeOf false
set_option bootstrap.genMatcherCode false
set_option genSizeOfSpec false
universe u
open List renaming length→la
open Option renaming some→yz,none→yy
open Bool renaming true→yx,false→yw
open PySem renaming wpAny_bind→Va,Value→Vb,Shared→Vc,wpAny_pure→Vd,wpAny→Vf,model→Vj,wpAny_mono→Vo,sizeLine→Vu,Program→Vy,starEach→V7,World→V9,mainGlobals→Ub,Scope→Ue,SetTable→Um,Around→Uq,wpAny_holding→Uw,wpAny_field→Vac,wpAny_Call_Name_kw→Vai,compareOp→Van,wpAny_call_entry→Vaq,Env→Vax,assignEach→Va1,wpAny_newObj_type→Va2,codeAny_builtin→Va8,cellsFrom→Va9,wpAny_callSpecial?_slot→Vba,Builtin→Vbb,cLine→Vbe,Comprehension→Vbg,foldedSetIterable→Vbh,wpAny_typeOf→Vbm,sizeLine_eq→Vbp,sysModules→Vbq,backTo→Vbu,wpAny_truthy_bool→Vbv,wpAny_loadPart'→Vby,codeAny→Vbz,mem_of_lookup→Vb0,rawInt→Vb2,wpAny_setField_rec→Vcd,binaryOp→Vcr,call_meets→Vct,FuncData→Vc3,wpAny_standAt→Vc6,swapsWithSole→Vc7,swappedStores→Vc8,PyData→Vc9,wpAny_rule→Vde,bootBuiltins→Vdg,codeAny_mono→Vdj,holding→Vdo,behindInMarks→Vdp,letOwnedTupleGo→Vds,Arguments→Vdt,importedModules→Vd1,NameKind→Vd2,wpAny_setState_of→Vd5,wpAny_pyIter_list→Vd6,pyIter→Vd8,IsPart→Vea,builtinLookup_eq_fast→Vec,wpAny_seqItems→Ved,plainId_quiet→Veo,intKind→Ver,GenState→Vex,bindArgs→Vey,swapsWith→Ve5,wpAny_pyIter_tuple→Ve6,builtinsNs→Vfa,ofAClassStatement→Vfk,wpAny_attempt→Vfp,wpAny_newList→Vfs,wpAny_forIn_list→Vfu,tupleKind→Vfx,typeLookup_type→Vf7,wpAny_execs_nil→Vf8,codeAny_call_builtin→Vga,wpAny_updateSeq→Vgd,wpAny_Assign_stores→Vgi,recursionLimit→Vgk,wpAny_newFunctionEnv_cells→Vgx,wpAny_assign_Name→Vgz,wpAny_sequenceKey→Vg0,wpAny_binaryOp_repeat_ref→Vg7,wpAny_comprehension_free→Vha
open PySem.W renaming Frag→Ve,nsIn→Vaa,hideAll_none→Vbd,kas_sort→Vbf,hideAll→Vbw,fnOf→Vb4,mg_of→Vcl,keepIn→Vcs,hideAll_get→Vdm,cellsFrom_some→Vd3,findIn→Veg,of_hideAll→Vew,callWith_K→Ve4,codeIn→Vfb,kitOne→Vfd,kas_ask→Vgc,methodObj→Vgy
open PySem.Heap renaming get?_push_of_some→Vg,get?_push_size→Vq,lt_size→Vr,SameBut→Vap,get?_update_self→Va5,size_push→Vbs,get?_update_other→Vb3,get?_update_ne→Vcq,get?_none_of_le→Vf1
open List renaming getElem?_eq_some_iff→Vh,replicate→Vi,size_toArray→Vk,range→Vm,length_map→Vn,getElem?_append_left→Vs,mem_cons→Vt,getElem?_map→Vx,append_assoc→V2,mem_of_getElem?→V6,length→V8,mem_cons_of_mem→Ua,append_nil→Ud,all_eq_true→Uf,map_cons→Uh,filterMap_cons→Uj,map→Uk,length_append→Ur,length_range→Us,getElem?_eq_none_iff→Uu,getElem?_eq_getElem→Uv,getD_eq_getElem?_getD→Ux,nil_append→Uz,mem_append_right→U1,not_mem_nil→U3,mem_singleton→U4,length_cons→U6,lookup_cons→U7,mem_cons_self→U9,getElem?_set_ne→Vab,replicate_succ→Vae,mem_range→Vaf,length_take→Vag,cons_append→Vah,getElem?_append_right→Val,mem_append→Vao,isEmpty_iff→Var,set→Vaw,getElem?_set_self→Va0,flatten_cons→Va3,mem_map→Va6,mem_iff_getElem→Vbr,foldl_cons→Vbx,getElem?_range→Vb1,all_cons→Vb7,take_length→Vca,getElem?_eq_none→Vcc,map_append→Vci,getElem?_replicate→Vcn,toList_toArray→Vco,take_of_length_le→Vcu,mem_filterMap→Vcx,mem_append_left→Vdc,take_succ→Vdf,map_nil→Vdi,map_map→Vdl,length_nil→Vdz,length_drop→Vei,getElem_mem→Vej,mem_of_mem_take→Vek,any_eq_true→Vel,nodup_cons→Vet,zip_cons_cons→Ve2,nodup_nil→Vfc,findIdx?_eq_some_iff_getElem→Vfn,range_succ_eq_map→Vfo,take_append_drop→Vfy,set_getElem_self→Vfz,set_append_right→Vf0,foldl→Vf2,reverse→Vf5,forIn_cons→Vf9,eq_nil_of_length_eq_zero→Vgf,map_congr_left→Vgj,pairwise_cons→Vgr,getElem_range→Vgu,nodup_append→Vg2,foldl_append→Vg4
open Nat renaming le_refl→Vl,ne_of_lt→Vz,lt_of_lt_of_le→V0,zero_le→Ug,le_trans→Ul,lt_succ_of_lt→Vau,sub_self→Va7,zero_add→Vbo,lt_irrefl→Vb5,lt_succ_self→Vb9,not_lt_zero→Vch,le_of_lt→Vcv,ne_of_gt→Vcw,lt_trans→Vcy,lt_of_le_of_lt→Vcz,mul_comm→Vdh,le_succ→Vd4,lt_of_succ_lt→Vd7,mul_assoc→Vep,pow_succ→Ve0,add_zero→Ve1,le_add_right→Vfv,mod_lt→Vf3,sub_zero→Vf4,pow_le_pow_right→Vge,add_right_comm→Vgq,lt_trichotomy→Vg1
open Option.some renaming injEq→Vp,inj→Uc
open Bool renaming false_eq_true→Vv,false_ne_true→Ui,not_eq_true'→Vat,not_true→Va4,or_eq_true→Vbi,and_self→Vdr,and_false→Veb,not_false→Vgm
open PySem.Obj renaming mapSeq→Vw,putSet→Vdw
open Option renaming bind_some→V1,map_some→V4,map_eq_some_iff→V5,bind_eq_some_iff→U0,getD_some→Vb8,isSome_iff_exists→Vcf,isSome_some→Vdy,isNone_iff_eq_none→Vg9
open PyProof.Rows renaming seqObj→V3,callWith_type1→Vaj,slot_tuple_getitem→Vav,callWith_builtin1→Vay,spliced_more→Vbk,spliced_none→Vbl,IntsAre→Vcb,listUpdate_at→Vcm,IsTup→Vc0,listItems_at→Vdk,get?_update_seq→Vd0,kindOf→Vd9,subscriptTail→Ven,entry_tuple_getitem→Vgg,assignInOrder_cons→Vgo,args_tuple_getitem→Vgp
open Array renaming getElem?_eq_some_iff→Uo,getElem?_eq_getElem→Ut,length_toList→Uy,getElem?_toList→U2,getD→Vak,toList_filterMap→Vfm,toList_append→Vgh
open PySem.Str renaming ofString→U5,length_append→Vg5
open PySem.Value renaming ref→U8,none→Vad,type→Vbc,bool→Veh,builtin→Vfr,int→Vfw
open PySem.Calls renaming spliced_cons→Vam,spliced_nil→Vck,evalArgs_plain→Vgb,Name_function_global→Vgv
open PySem.Builtin.List renaming listExtendWith→Vas,listTooLong→Vcg,listSameRef→Vhc
open PySem.PyData renaming int→Vaz,eqv→Vb6,shownAll→Vcj,canLayAll0→Vda,shown→Vef,showable→Vev,depth→Ve9,canLay0→Vfe,eqvAll→Vft
open PySem.Builtin.SmallTypes renaming nextOf→Vbj,ownedTupleIsFree→Vc1,ownedTupleHandOut→Ve7
open PySem.Builtin.Tuple renaming tupleExact→Vbn,tupleItemsOf→Vem,tupleTooMany→Vgw
open PySem.Around renaming under_plainId→Vbt
open Int renaming emod_lt_of_pos→Vce,emod_nonneg→Vc2,toNat_natCast→Vdb,natCast_mul→Vdu
open PySem.Heap.SameBut renaming update→Vcp,refl→Vg3
open PySem.Builtin.Slice renaming sliceApplied→Vc4,slicePlaces→Vdd,sliceAdjust→Veu,sliceFields→Vg6
open PySem.F renaming slot_tuple_iterator_next→Vc5,slot_enumerate_next→Vee,plain_extend_loop→Ves,args_tuple_add_2→Vez,entry_tuple_add→Vfg,slot_list_index→Vfh,slot_tuple_add→Vfl,slot_tuple_lt→Vf6,args_tuple_iterator_next_1→Vgn,entry_tuple_iterator_next→Vgs,args_list_index_2→Vg8,entry_list_index→Vhb
open PySem.Builtin.Range renaming rangeSize→Vdn
open Prod.mk renaming injEq→Vdq
open False renaming elim→Vdv
open ForInStep renaming yield→Vdx
open Function renaming comp→Veq
open PySem.AutoSeq1 renaming sub_tuple_tuple→Ve3
open PySem.Heap.IsSliceOf renaming new→Ve8
open PySem.W.Fast renaming te14364793385576792824→Vff
open PyProof.Rows.F renaming plain_set_update_loop→Vfi
open List.Pairwise renaming nil→Vfj
open PySem.NameKind renaming free→Vfq
open List.Perm renaming refl→Vgl
open PySem.Code renaming quiet_builtin→Vgt
abbrev LV:=List PySem.Value
abbrev LS:=List PySem.Str
abbrev LX:=List PySem.Expr
abbrev LM:=List PySem.Stmt
abbrev LF:=List (PySem.Str×Nat×Bool)
abbrev LN:=List Nat
abbrev AV:=Array PySem.Value
abbrev OV:=Option PySem.Value
abbrev LL:=List (List Int)
abbrev LI:=List Int
abbrev LA:=List (PySem.Addr×PySem.Obj)
abbrev LR:=List PySem.Addr
abbrev VP:=PySem.Value->PySem.Shared->Prop
theorem oD0{p:Prop}[Decidable p](h:decide p=yx):p:=of_decide_eq_true h
theorem aB0{a b:Prop}(h:a)(k:¬a):b:=(k h).elim
theorem iP0{c:Prop}{i:Decidable c}(h:c){α:Sort u}{t e:α}:(ite c t e)=t:=if_pos h
theorem iN0{c:Prop}{i:Decidable c}(h:¬c){α:Sort u}{t e:α}:(ite c t e)=e:=if_neg h
theorem gZ0{α:Type u}{a:α}{l:List α}:(a::l)[0]?=yz a:=rfl
theorem gS0{α:Type u}{a:α}{i:Nat}{l:List α}:(a::l)[i+1]?=l[i]?:=rfl
theorem bA0(a b:Bool):((a&&b)=yx)=(a=yx∧b=yx):=Bool.and_eq_true a b
section
namespace L2
open PySem PySem.Spec PyProof.Rows
noncomputable abbrev Key:=Sum Int Str
noncomputable def Xv0:Key->Vb->Bool
 |.inl k,v=>Value.isInt k v|.inr x,v=>Value.isStrOf x v
noncomputable def X6r(w:V9):Key->Int
 |.inl k=>hashInt k|.inr x=>hashStr w x
theorem Yk:∀ {k:Key} {v:Vb},Xv0 k v=yx->(∃i t,k=Sum.inl i/\v=Vfw i t)\/(∃x t,k=Sum.inr x/\v=Value.str x t)
 |.inl i,v,h=>by obtain⟨t,e⟩:=Value.isInt_shape (k:=i) (v:=v) h;exact .inl ⟨i,t,rfl,e⟩|.inr x,v,h=>by obtain⟨t,e⟩:=Value.isStrOf_shape (x:=x) (v:=v) h;exact .inr ⟨x,t,rfl,e⟩
theorem X0j(a b:Int):decide ((Sum.inl a:Key)=Sum.inl b)=(a==b):=by
 by_cases e:a=b;·subst e;simp
 ·have h:¬ (Sum.inl a:Key)=Sum.inl b:=λq=>e (Sum.inl.inj q);rw[decide_eq_false h];exact(beq_eq_false_iff_ne.mpr e).symm
theorem X0k(a b:Str):decide ((Sum.inr a:Key)=Sum.inr b)=decide (a=b):=by
 by_cases e:a=b;·subst e;simp
 ·have h:¬ (Sum.inr a:Key)=Sum.inr b:=λq=>e (Sum.inr.inj q);rw[decide_eq_false h,decide_eq_false e]
theorem X0l(a:Int)(b:Str):decide ((Sum.inl a:Key)=Sum.inr b)=false:=decide_eq_false (λq=>nomatch q)
theorem X0m(a:Str)(b:Int):decide ((Sum.inr a:Key)=Sum.inl b)=false:=decide_eq_false (λq=>nomatch q)
noncomputable def Xhf(prog:Vy)(w:V9):PySem.KeyKind prog w Key where
 is:=Xv0
 hash:=X6r w
 inj:=λv a b L J=>by
  rcases Yk L with⟨i,t,rfl,rfl⟩|⟨x,t,rfl,rfl⟩
  ·rcases Yk J with⟨j,u,rfl,e⟩|⟨y,u,rfl,e⟩;·injection e with B _;rw[B]
   ·exact nomatch e
  rcases Yk J with⟨j,u,rfl,e⟩|⟨y,u,rfl,e⟩;·exact nomatch e
  ·injection e with B _;rw[B]
 byValue:=λk v h=>by rcases Yk h with⟨i,t,rfl,rfl⟩|⟨x,t,rfl,rfl⟩<;>rfl
 pyHash:=λhv h=>by
  rcases Yk hv with⟨i,t,rfl,rfl⟩|⟨x,t,rfl,rfl⟩;·exact wpAny_pyHash_int h
  ·exact wpAny_pyHash_str h
 eqBool:=λU hv h=>by
  rcases Yk U with⟨i,t,rfl,rfl⟩|⟨x,t,rfl,rfl⟩
  ·rcases Yk hv with⟨j,u,rfl,rfl⟩|⟨y,u,rfl,rfl⟩;·rw[X0j]at h;exact wpAny_eqBool_int h
   ·rw[X0l]at h;exact SeqAt.EqAt.int_str i t y u _ _ _ _ h
  rcases Yk hv with⟨j,u,rfl,rfl⟩|⟨y,u,rfl,rfl⟩;·rw[X0m]at h;exact SeqAt.EqAt.str_int x t j u _ _ _ _ h
  ·rw[X0k]at h;exact wpAny_eqBool_str h
 «strs»:=λk x t v h=>by
  rcases Yk h with⟨i,u,rfl,e⟩|⟨y,u,rfl,e⟩;·exact nomatch e
  ·injection e with B _;subst B;cases v<;>rfl
end L2
namespace L2
open PySem PySem.Spec PyProof.Rows
inductive V where
 |non|bl (b:Bool)|int (i:Int)|str (x:Str)|byt (b:Array UInt8)|flt (b:UInt64)|ref (a:Addr)|ty (n:String)
 deriving DecidableEq
abbrev LW:=List V
def RelV:V->Vb->Prop
 |.non,u=>u=Vad|.bl b,u=>u=Veh b|.int i,u=>∃t,u=Vfw i t|.str x,u=>∃t,u=Value.str x t|.byt b,u=>∃t,u=Value.bytes b t|.flt b,u=>∃t,u=Value.float b t|.ref a,u=>u=U8 a|.ty n,u=>u=Vbc n
abbrev Vals:LW->LV->Prop:=Paired RelV
theorem Vals.length{xs:LW}{us:LV}(r:Vals xs us):(la xs)=la us:=Paired.length r
theorem Vals.get:∀ {xs:LW} {us:LV} {i:Nat} {x:V},Vals xs us->xs[i]?=yz x->∃u,us[i]?=yz u/\RelV x u
 |_,_,_,_,.nil,e=>by simp at e|_,_,0,_,.cons r _,e=>by simp at e;subst e;exact⟨_,rfl,r⟩|_,_,i+1,x,.cons _ t,e=>by obtain⟨u,h1,h2⟩:=Vals.get (i:=i) (x:=x) t (by simpa using e);exact⟨u,by simpa using h1,h2⟩
theorem Vals.set{x:V}{u:Vb}(r:RelV x u):∀ {xs:LW} {us:LV} (i:Nat),Vals xs us->Vals (xs.set i x) (us.set i u)
 |_,_,_,.nil=>.nil|_,_,0,.cons _ t=>.cons r t|_,_,i+1,.cons q t=>.cons q (Vals.set r i t)
theorem Vals.append:∀ {xs ys:LW} {us B:LV},Vals xs us->Vals ys B->Vals (xs++ys) (us++B)
 |_,_,_,_,.nil,s=>s|_,_,_,_,.cons r t,s=>.cons r (Vals.append t s)
theorem Vals.take:∀ {xs:LW} {us:LV} (n:Nat),Vals xs us->Vals (xs.take n) (us.take n)
 |_,_,0,_=>.nil|_,_,_+1,.nil=>.nil|_,_,n+1,.cons r t=>.cons r (Vals.take n t)
theorem Vals.drop:∀ {xs:LW} {us:LV} (n:Nat),Vals xs us->Vals (xs.drop n) (us.drop n)
 |_,_,0,r=>r|_,_,_+1,.nil=>.nil|_,_,n+1,.cons _ t=>Vals.drop n t
def X0n:Option V->OV->Prop
 |some v,yz u=>RelV v u|none,yy=>True|_,_=>False
def KV{κ:Type}:List (κ×V)->List (κ×Vb)->Prop:=Paired λ(p:κ×V) (q:κ×Vb)=>p.1=q.1/\RelV p.2 q.2
noncomputable def kV:Key->V
 |.inl i=>.int i|.inr x=>.str x
inductive HO where
 |lst (xs:LW)
 |tup (xs:LW)
 |dK (kvs:List (Key×V))|dT (kvs:List (List Key×V))
 |set (S:Int->Bool) (n:Nat)
 |ins (C dx:Addr) (fs:List (Str×V))
 |own (x:Addr)
 |xd (fs:List (Str×V))
 |met (f x:Addr)
 |rng (lo hi:Int)
 |frz (o:Obj) (u:HO)
 |tbl (q:Str)
 |ext (φ:Heap->Prop)
noncomputable abbrev Hp:=Addr->Option HO
noncomputable def upd(H:Hp)(a:Addr)(o:HO):Hp:=λb=>if b=a then yz o else H b
theorem Xm{H:Hp}{a:Addr}{o:HO}:upd H a o a=yz o:=by unfold upd;rw[iP0 rfl]
theorem Xe{H:Hp}{a b:Addr}{o:HO}(h:b≠a):upd H a o b=H b:=by unfold upd;rw[iN0 h]
theorem Xwy{H:Hp}{a:Addr}{o u:HO}:upd (upd H a o) a u=upd H a u:=by funext b;unfold upd;split<;>rfl
theorem Xk{H:Hp}{a b:Addr}{o:HO}(h:H a=yz o)(h':H b=yy):a≠b:=by intro e;subst e;rw[h]at h';cases h'
section
variable(P:Vy)(w:V9)
def ObjOk(H:Hp)(h:Heap)(a:Addr):HO->Prop
 |.lst xs=>la xs<=Vu/\∃(its:LV) (n:Nat),Vals xs its/\h.get? a=yz {cls:=.type "list",data:=.seq its.toArray n}|.tup xs=>la xs<=Vu/\∃its:LV,Vals xs its/\Vc0 h a its.toArray|.dK kvs=>la kvs<=Vu/\(a==Vbq)=yw/\∃vs,KV kvs vs/\h.DictOf (Xhf P w) a vs|.dT kvs=>la kvs<=Vu/\(a==Vbq)=yw/\∃xs:List (List Key×Addr×Vb),
   Paired (λ(p:List Key×V) (q:List Key×Addr×Vb)=>p.1=q.1/\H q.2.1=yz (.tup (p.1.map kV))/\RelV p.2 q.2.2) kvs xs /\
   ∃o es ep,h.get? a=yz o/\o.ExactDict/\o.data=.dict es ep/\es.toList=xs.map (entryOfKey (Vfx (Xhf P w)))/\(xs.map (·.1)).Nodup|.set S n=>h.SetOf (Ver P w) a S n|.ins C dx fs=>H dx=yz (.own a)/\(la fs)<=1000/\dx≠a/\h.get? a=yz (PySem.W.instObj C dx) /\
   ∃mA,h.Ns1 dx mA/\(∀f,X0n (fs.lookup f) (mA f))/\PySem.Within mA (fs.map (·.1))|.own _=>∃o,h.get? a=yz o|.xd fs=>∃mA,h.Ns1 a mA/\∀f,X0n (fs.lookup f) (mA f)|.rng lo hi=>∃t u v,h.get? a=yz {cls:=.type "range",data:=.fields #[.int lo t,.int hi u,.int 1 v]}|.frz o u=>h.get? a=yz o/\ObjOk H h a u|.tbl q=>∃ps,h.get? a=yz {cls:=.none,data:=.fields ps}/\TriplesOk ps.toList/\∀pos J,codeAmong pos ps.toList=yz J->∃c o u vs t,J=.ref c/\H c=yz (.frz o u)/\o.data=.fields vs/\vs[1]?=yz (.str q t)|.met f x=>h.get? a=yz (Vgy (.ref f) (.ref x))|.ext B=>B h/\(∃o,h.get? a=yz o)/\∀h1 h2:Heap,B h1->(∀o,h1.get? a=yz o->h2.get? a=yz o)->B h2
def Fix:HO->Prop
 |.tup _=>True|.frz _ _=>True|_=>False
def HOk(H:Hp)(h:Heap):Prop:=∀a o,H a=yz o->ObjOk P w H h a o
end
section
variable{P:Vy}{w:V9}{H H':Hp}{h h':Heap}{a:Addr}{o:HO}
theorem ObjOk.lt(x:ObjOk P w H h a o):a<h.objs.size:=by
 cases o with
 |lst xs=>obtain⟨_,_,_,_,e⟩:=x;exact Vr e|tup xs=>obtain⟨_,_,_,p⟩:=x;exact p.lt|dK kvs=>obtain⟨_,_,_,_,o,_,_,e,_⟩:=x;exact Vr e|dT kvs=>obtain⟨_,_,_,_,o,_,_,e,_⟩:=x;exact Vr e|set S n=>obtain⟨o,_,_,_,e,_⟩:=x;exact Vr e|ins C dx fs=>obtain⟨_,_,_,e,_⟩:=x;exact Vr e|own y=>obtain⟨_,e⟩:=x;exact Vr e|xd fs=>obtain⟨_,⟨_,_,_,e,_⟩,_⟩:=x;exact Vr e|rng lo hi=>obtain⟨_,_,_,e⟩:=x;exact Vr e|frz ob u=>obtain⟨e,_⟩:=x;exact Vr e|tbl q=>obtain⟨_,e,_⟩:=x;exact Vr e|met f y=>exact Vr (show h.get? a=yz _ from x)|ext B=>obtain⟨_,⟨_,e⟩,_⟩:=x;exact Vr e
theorem Paired.mapP{α β:Type}{F G:α->β->Prop}:∀ {l₁:List α} {B:List β},Paired F l₁ B->(∀a b,F a b->G a b)->Paired G l₁ B
 |_,_,.nil,_=>.nil|_,_,.cons r t,f=>.cons (f _ _ r) (Paired.mapP t f)
theorem ObjOk.stay(x:ObjOk P w H h a o)(k:∀b u,(b=a\/H b=yz (.own a))->h.get? b=yz u->h'.get? b=yz u)
  (U:∀b,H b=yz (.own a)->H' b=yz (.own a)) (L:∀b u,Fix u->H b=yz u->H' b=yz u):ObjOk P w H' h' a o:=by
 induction o with
 |lst xs=>obtain⟨z,its,n,r,e⟩:=x;exact⟨z,its,n,r,k _ _ (.inl rfl) e⟩|tup xs=>obtain⟨z,its,r,ob,e,c⟩:=x;exact⟨z,its,r,ob,k _ _ (.inl rfl) e,c⟩|dK kvs=>obtain⟨z,y,vs,r,ob,es,ep,e,c⟩:=x;exact⟨z,y,vs,r,ob,es,ep,k _ _ (.inl rfl) e,c⟩|dT kvs=>obtain⟨z,y,xs,r,ob,es,ep,e,c⟩:=x;exact⟨z,y,xs,Paired.mapP r λp q z=>⟨z.1,L _ _ trivial z.2.1,z.2.2⟩,ob,es,ep,k _ _ (.inl rfl) e,c⟩|set S n=>obtain⟨ob,es,ep,t,e,c⟩:=x;exact⟨ob,es,ep,t,k _ _ (.inl rfl) e,c⟩|ins C dx fs=>obtain⟨d,z,ne,e,mA,⟨J,es,ep,B,c⟩,r⟩:=x;exact⟨U _ d,z,ne,k _ _ (.inl rfl) e,mA,⟨J,es,ep,k _ _ (.inr d) B,c⟩,r⟩|own y=>obtain⟨ob,e⟩:=x;exact⟨ob,k _ _ (.inl rfl) e⟩|xd fs=>obtain⟨mA,⟨J,es,ep,e,c⟩,r⟩:=x;exact⟨mA,⟨J,es,ep,k _ _ (.inl rfl) e,c⟩,r⟩|rng lo hi=>obtain⟨t,u,v,e⟩:=x;exact⟨t,u,v,k _ _ (.inl rfl) e⟩|frz ob u ih=>obtain⟨e,q⟩:=x;exact⟨k _ _ (.inl rfl) e,ih q⟩|tbl q=>obtain⟨ps,e,t,n⟩:=x;exact⟨ps,k _ _ (.inl rfl) e,t,λpos Y z=>let ⟨c,o,u,vs,t,e1,B,r⟩:=n pos Y z;⟨c,o,u,vs,t,e1,L _ _ trivial B,r⟩⟩|met f y=>have e:h.get? a=yz (Vgy (.ref f) (.ref y)):=x;show h'.get? a=yz (Vgy (.ref f) (.ref y));exact k a _ (.inl rfl) e|ext φ=>obtain⟨p,⟨o,e⟩,st⟩:=x;exact⟨st _ _ p λo q=>k _ _ (.inl rfl) q,⟨o,k _ _ (.inl rfl) e⟩,st⟩
theorem HOk.lt(x:HOk P w H h)(e:H a=yz o):a<h.objs.size:=(x a o e).lt
theorem HOk.fresh(x:HOk P w H h)(e:h.objs.size<=a):H a=none:=by
 cases q:H a with
 |none=>rfl|some u=>exact aB0 (V0 (x.lt q) e) (Vb5 _)
theorem HOk.kept(x:HOk P w H h)(k:∀b u,h.get? b=yz u->h'.get? b=yz u):HOk P w H h':=λa o e=>(x a o e).stay (λb u _ q=>k b u q) (λ_ q=>q) λ_ _ _ q=>q
theorem HOk.laid(x:HOk P w H h)(k:∀b u,h.get? b=yz u->h'.get? b=yz u)(hp:h.objs.size<=a)(new:ObjOk P w (upd H a o) h' a o):HOk P w (upd H a o) h':=λb u e=>by
 have hn:=x.fresh hp;by_cases B:b=a;·subst B;rw[Xm]at e;cases e;exact new
 ·rw[Xe B]at e;exact(x b u e).stay (λc v _ q=>k c v q) (λc q=>by rw[Xe (Xk q hn)];exact q) λc xs _ q=>by rw[Xe (Xk q hn)];exact q
end
def Rd(H:Hp)(a:Addr)(u:HO):Prop:=H a=yz u\/∃o,H a=yz (.frz o u)
theorem Rd.ok{P:Vy}{w:V9}{H:Hp}{h:Heap}{a:Addr}{u:HO}(r:Rd H a u)(x:HOk P w H h):ObjOk P w H h a u:=by
 rcases r with r|⟨o,r⟩;·exact x a u r
 ·obtain⟨_,q⟩:=x a _ r;exact q
def Mut:Option HO->Prop
 |some (.lst _)=>True|some (.dK _)=>True|some (.dT _)=>True|some (.set _ _)=>True|some (.ins _ _ _)=>True|some (.ext _)=>True|_=>False
section
variable{P:Vy}{w:V9}{H:Hp}{h h':Heap}{x e:Addr}{o':HO}
theorem HOk.write(ok:HOk P w H h)(Y:Mut (H x))(he:e=x\/H e=yz (.own x))(k:∀b u,b≠e->h.get? b=yz u->h'.get? b=yz u)(aa:∃u,h'.get? e=yz u)
  (new:ObjOk P w (upd H x o') h' x o'):HOk P w (upd H x o') h':=λb u q=>by
 have J:∀c y,H c=yz (.own y)->c≠x:=λc y r z=>by subst z;rw[r]at Y;exact Y
 have L:∀c u,Fix u->H c=yz u->c≠x:=λc u f r z=>by subst z;rw[r]at Y;cases u<;>first|exact Y|exact f
 by_cases hb:b=x;·subst hb;rw[Xm]at q;cases q;exact new
 ·rw[Xe hb]at q;by_cases B:b=e
  ·have q':H b=yz (.own x):=by
    rcases he with z|z;·exact aB0 (B.trans z) hb
    ·rw[B];exact z
   rw[q]at q';cases q';obtain⟨v,hv⟩:=aa;exact⟨v,by rw[B];exact hv⟩
  refine(ok b u q).stay (λc v U r=>k c v ?_ r) (λc r=>by rw[Xe (J c b r)];exact r) λc xs f r=>by rw[Xe (L c xs f r)];exact r
  rcases U with rfl|U;·exact B
  ·rintro rfl;rcases he with z|z;·exact J c b U z
   ·rw[U]at z;cases z;exact hb rfl
end
structure Un(fs ex:LR)(H H':Hp)(h h':Heap):Prop where
 keep:∀b o,h.get? b=yz o->H b=yy->b ∉ fs->b ∉ ex->h'.get? b=yz o
 slot:∀b o,h.get? b=yz o->H b=yy->b∈fs->b ∉ ex->∃sl,h'.get? b=yz {o with slots:=sl}
 free:∀b o,h.get? b=yz o->H b=yy->b ∉ ex->H' b=yy
 there:∀b o,h.get? b=yz o->b ∉ ex->∃o',h'.get? b=yz o'
 tups:∀b xs,H b=yz (.tup xs)->H' b=yz (.tup xs)
 frzs:∀b o u,H b=yz (.frz o u)->H' b=yz (.frz o u)
 tbls:∀b ps,H b=yz (.tbl ps)->H' b=yz (.tbl ps)
section
variable{fs ex:LR}{H H1:Hp}{h h1 h':Heap}{a x e:Addr}{o:HO}
theorem Un.any(u:Un fs ex H H1 h h1){b:Addr}{ob:Obj}(q:h.get? b=yz ob)(n:H b=yy)(B:b ∉ ex):∃sl,h1.get? b=yz {ob with slots:=sl}:=by
 by_cases J:b∈fs;·exact u.slot b ob q n J B
 ·exact⟨ob.slots,u.keep b ob q n J B⟩
theorem Un.kept(k:∀b u,h.get? b=yz u->h'.get? b=yz u):Un fs ex H H h h':=
 ⟨λb ob q _ _ _=>k b ob q,λb ob q _ _ _=>⟨ob.slots,k b ob q⟩,λ_ _ _ n _=>n,λb ob q _=>⟨ob,k b ob q⟩,λ_ _ q=>q,λ_ _ _ q=>q,λ_ _ q=>q⟩
theorem Un.refl:Un fs ex H H h h:=Un.kept λ_ _ q=>q
theorem Un.laid(k:∀b u,h.get? b=yz u->h'.get? b=yz u)(hp:h.objs.size<=a)(hn:H a=yy):Un fs ex H (upd H a o) h h' where
 keep:=λb u q _ _ _=>k b u q
 slot:=λb u q _ _ _=>⟨u.slots,k b u q⟩
 free:=λb u q n _=>by rw[Xe (Vz (V0 (Vr q) hp))];exact n
 there:=λb u q _=>⟨u,k b u q⟩
 tups:=λb xs q=>by rw[Xe (Xk q hn)];exact q
 frzs:=λb u xs q=>by rw[Xe (Xk q hn)];exact q
 tbls:=λb ps q=>by rw[Xe (Xk q hn)];exact q
theorem Un.write(J:Mut (H x))(he:e=x\/H e=yz (.own x))(k:∀b u,b≠e->h.get? b=yz u->h'.get? b=yz u)(L:∃u,h'.get? e=yz u):Un fs ex H (upd H x o) h h':=by
 have Y:∀b,H b=yy->b≠x:=λb n z=>by subst z;rw[n]at J;exact J
 have hb:∀b,H b=yy->b≠e:=λb n z=>by
  subst z;rcases he with r|r;·exact Y b n r
  ·rw[n]at r;cases r
 have U:∀b u,H b=yz u->¬ Mut (yz u)->b≠x:=λb u q nm z=>by subst z;rw[q]at J;exact nm J
 refine⟨λb u q n _ _=>k b u (hb b n) q,λb u q n _ _=>⟨u.slots,k b u (hb b n) q⟩,λb u q n _=>by rw[Xe (Y b n)];exact n,λb u q _=>?_,
  λb xs q=>by rw[Xe (U b _ q λz=>z)];exact q,λb u xs q=>by rw[Xe (U b _ q λz=>z)];exact q,λb ps q=>by rw[Xe (U b _ q λz=>z)];exact q⟩
 by_cases B:b=e;·subst B;exact L
 ·exact⟨u,k b u B q⟩
end
noncomputable def trk(h:Heap)(H:Hp):LR:=(Vm h.objs.size).filter λa=>(H a).isSome
noncomputable def Xc5(h:Heap)(H:Hp):Heap:=Vbw h (trk h H)
theorem Xqg(h:Heap)(H:Hp):(Xc5 h H).objs.size=h.objs.size:=PySem.W.hideAll_size _ _
theorem Xfs{h:Heap}{H:Hp}{b:Addr}{o:Obj}(e:h.get? b=yz o)(n:H b=yy):(Xc5 h H).get? b=yz o:=
 Vdm _ e λB=>by have q:(H b).isSome=true:=(List.mem_filter.mp B).2;rw[n]at q;simp at q
theorem Xwz{h:Heap}{H:Hp}{b:Addr}{o:Obj}(e:(Xc5 h H).get? b=yz o):h.get? b=yz o/\H b=none:=by
 have B:h.get? b=yz o:=Vew (trk h H) e;refine⟨B,?_⟩;cases q:H b with
 |none=>rfl|some x=>have J:b∈trk h H:=List.mem_filter.mpr ⟨Vaf.mpr (Vr B),by simp[q]⟩;have z:(Xc5 h H).get? b=none:=Vbd (trk h H) J;rw[z]at e;cases e
noncomputable def Xw0(g h:Heap)(L:Addr):LA:=(Vm h.objs.size).filterMap λa=>if a=L\/(g.get? a).isSome=yx then yy else (h.get? a).map λo=>(a,o)
noncomputable def X3(g h:Heap)(L d:Addr):LA:=(Xw0 g h L).filter λp=>decide (p.1≠d)
end L2
namespace L2
open PySem PySem.Spec PyProof.Rows
structure Mod(K:Ve)(mg:Str->OV)(base:Heap):Prop where
 kin:K.In base
 glob:base.Ns Ub mg
 blt:∃mb,base.Ns Vfa mb/\∀x:Str,x ≠ "__name__" -> mb x=Vdg x
 nolimit:base.NoLimit
structure Cx where
 prog:Vy
 w:V9
 K:Ve
 mg:Str->OV
 base:Heap
 A:Uq
 N:LS
 s₀:Vc
 H₀:Hp
 env:Env
 outer:List Env
 stack:List Env
 ex:LR
 fn:Str->Bool
 calm:Bool
 pn:LA
 xe:VP
noncomputable def frs(l:List Env):LR:=l.filterMap (·.frame)
noncomputable abbrev Cx.fs(X:Cx):LR:=frs X.outer
def Vis(sc:Ue)(x:Str):Prop:=sc.names.lookup x=yz .local\/sc.names.lookup x=yz .cell\/sc.names.lookup x=yz .free
def Loc(sc:Ue)(x:Str):Prop:=sc.names.lookup x=yz .local\/sc.names.lookup x=yz .cell
def X6s(env:Env)(h:Heap)(m:Str->OV)(x:Str)(u:Vb):Prop:=
 (env.kindOf x=yz .local/\m x=yz u)\/((env.kindOf x=yz .cell\/env.kindOf x=yz .free)/\∃c,env.cells.lookup x=yz c/\h.IsCell c (yz u))
structure Cx.Ok(X:Cx):Prop where
 mod:Mod X.K X.mg X.base
 kind:X.env.scope.kind=.function
 glob:X.env.globals=Ub
 blt:X.env.builtins=Vfa
 above:X.s₀.heap.objs.size<=X.env.locals
 inj:∀x y c,X.env.cells.lookup x=yz c->X.env.cells.lookup y=yz c->x=y
 has:∀x,(X.env.kindOf x=yz .cell\/X.env.kindOf x=yz .free)->∃c,X.env.cells.lookup x=yz c
 cab:∀x c,X.fn x=yx->X.env.cells.lookup x=yz c->X.s₀.heap.objs.size<=c
 hd:X.calm=yx->X.A.handled=yy
 frames:X.A.frames=yz X.stack
 stk:X.stack=X.outer\/(X.stack=X.env::X.outer/\X.env.frame=yz X.env.locals)
 exf:∀b∈X.ex,b≠X.env.locals/\∀x c,X.env.cells.lookup x=yz c->c≠b
 bs:∀b o,X.base.get? b=yz o->X.s₀.heap.get? b=yz o/\X.H₀ b=yy
 bsz:X.base.objs.size<=X.s₀.heap.objs.size
 noex:∀b o,X.base.get? b=yz o->b ∉ X.ex
 exfs:∀b∈X.ex,b ∉ X.fs
 funs:X.s₀.heap.FunFrames X.base X.outer
 frf:∀b∈X.fs,X.H₀ b=yy
structure Inv(X:Cx)(pa:LA)(σ:List (Option V))(H:Hp)(s:Vc):Prop where
 ok:X.Ok
 os:s.os=X.s₀.os
 bare:AllBare s.gens
 base:Un X.fs X.ex X.H₀ H X.s₀.heap s.heap
 loc:∃m,s.heap.Ns X.env.locals m/\∀(i:Nat) (x:Str) (v:V),X.N[i]?=yz x->σ[i]?=yz (yz v)->Vis X.env.scope x->∃u,RelV v u/\X6s X.env s.heap m x u
 cell:∀x c,X.env.cells.lookup x=yz c->∃v,s.heap.IsCell c v
 free:H X.env.locals=yy
 freeC:∀x c,X.env.cells.lookup x=yz c->H c=yy
 pin:∀p∈X.pn++pa,s.heap.get? p.1=yz p.2/\H p.1=yy/\p.1≠X.env.locals/\p.1 ∉ X.fs/\∀v,p.2.data≠.cell v
 hok:HOk X.prog X.w H s.heap
 len:σ.length=X.N.length
section
variable{X:Cx}{pa:LA}{σ:List (Option V)}{H H':Hp}{s:Vc}{h':Heap}
theorem Cx.Ok.nofr(ok:X.Ok){b:Addr}{o:Obj}(e:X.base.get? b=yz o):b ∉ X.fs:=λB=>by have:=(ok.funs.mem B).1;rw[e]at this;cases this
theorem Inv.bs(I:Inv X pa σ H s):∀b o,X.base.get? b=yz o->s.heap.get? b=yz o/\H b=none:=λb o e=>⟨I.base.keep b o (I.ok.bs b o e).1 (I.ok.bs b o e).2 (I.ok.nofr e) (I.ok.noex b o e),I.base.free b o (I.ok.bs b o e).1 (I.ok.bs b o e).2 (I.ok.noex b o e)⟩
theorem Inv.bk(I:Inv X pa σ H s):∀b o,X.base.get? b=yz o->s.heap.get? b=yz o:=λb o e=>(I.bs b o e).1
theorem Inv.mod(I:Inv X pa σ H s):Mod X.K X.mg X.base:=I.ok.mod
theorem Inv.kIn(I:Inv X pa σ H s):X.K.In s.heap:=I.ok.mod.kin.keeps I.bk
theorem Inv.nolimit(I:Inv X pa σ H s):s.heap.NoLimit:=I.ok.mod.nolimit.keeps I.bk
theorem Inv.lt(I:Inv X pa σ H s):X.env.locals<s.heap.objs.size:=let ⟨_,hn,_⟩:=I.loc;hn.lt
theorem Inv.sz(I:Inv X pa σ H s):X.s₀.heap.objs.size<=s.heap.objs.size:=Ul I.ok.above (Vcv I.lt)
theorem Inv.nofs(I:Inv X pa σ H s){a:Addr}(h:s.heap.objs.size<=a):a ∉ X.fs:=λJ=>by obtain⟨_,o,B,_⟩:=I.ok.funs.mem J;exact aB0 (V0 (Vr B) (Ul I.sz h)) (Vb5 _)
theorem Inv.cne(I:Inv X pa σ H s):∀x c,X.env.cells.lookup x=yz c->c≠X.env.locals:=λx c e z=>by obtain⟨v,o,L,hd⟩:=I.cell x c e;obtain⟨m,⟨o',es,ep,B,J,_⟩,_⟩:=I.loc;rw[z,B]at L;cases L;rw[J]at hd;cases hd
theorem Inv.funs(I:Inv X pa σ H s):s.heap.FunFrames X.base X.outer:=by
 have all:∀(l:List Env),(∀b∈frs l,b∈X.fs)->X.s₀.heap.FunFrames X.base l->s.heap.FunFrames X.base l:=by
  intro l;induction l with
  |nil=>intro _ _;trivial|cons env r ih=>intro hs hl;obtain⟨hk,⟨L,o,J,hn,ho,hd⟩,Y⟩:=hl;have B:L∈X.fs:=hs L (by unfold frs;rw[Uj,J];exact U9);obtain⟨sl,e⟩:=I.base.slot L o ho (I.ok.frf L B) B λz=>I.ok.exfs L z B;exact⟨hk,⟨L,_,J,hn,e,hd⟩,ih (λb U=>hs b (by unfold frs;rw[Uj,J];exact Ua _ U)) Y⟩
 exact all X.outer (λ_ U=>U) I.ok.funs
theorem Inv.stack(I:Inv X pa σ H s):s.heap.FunFrames X.base X.stack:=by
 rcases I.ok.stk with e|⟨e,B⟩;·rw[e];exact I.funs
 ·rw[e];obtain⟨m,hn,_⟩:=I.loc;refine .cons (by rw[I.ok.kind];decide) B hn ?_ I.funs;exact Vf1 (Ul I.ok.bsz I.ok.above)
theorem Inv.stkSub(I:Inv X pa σ H s):∀b∈frs X.stack,b∈X.env.locals::X.fs:=λb B=>by
 rcases I.ok.stk with e|⟨e,J⟩;·rw[e]at B;exact Ua _ B
 ·rw[e]at B;unfold frs at B;rw[Uj,J]at B;exact B
theorem Inv.stkFree(I:Inv X pa σ H s):∀b∈frs X.stack,H b=none:=λb B=>by
 rcases Vt.mp (I.stkSub b B) with e|B;·rw[e];exact I.free
 ·obtain⟨_,o,J,_⟩:=I.ok.funs.mem B;exact I.base.free b o J (I.ok.frf b B) λz=>I.ok.exfs b z B
theorem Inv.step{g':Array Vex}{t':Nat}{d':Drawn}{ch:LR}(I:Inv X pa σ H s)
  (hch:∀b∈ch,(b∈X.ex\/X.s₀.heap.objs.size<=b)/\b≠X.env.locals/\(∀x c,X.env.cells.lookup x=yz c->c≠b)/\∀p∈X.pn++pa,p.1≠b)
  (keep:∀b o,b≠X.env.locals->b ∉ X.fs->b ∉ ch->s.heap.get? b=yz o->H b=yy->h'.get? b=yz o)
  (slot:∀b o,b≠X.env.locals->b∈X.fs->b ∉ ch->s.heap.get? b=yz o->H b=yy->∃sl,h'.get? b=yz {o with slots:=sl}) (free:∀b o,b ∉ ch->s.heap.get? b=yz o->H b=yy->H' b=yy)
  (there:∀b o,b ∉ ch->s.heap.get? b=yz o->∃o',h'.get? b=yz o')
  (tups:∀b xs,H b=yz (.tup xs)->H' b=yz (.tup xs)) (frzs:∀b o u,H b=yz (.frz o u)->H' b=yz (.frz o u)) (tbls:∀b ps,H b=yz (.tbl ps)->H' b=yz (.tbl ps))
  (ns:∀m,s.heap.Ns X.env.locals m->h'.Ns X.env.locals m) (hok:HOk X.prog X.w H' h') (hg:AllBare g'):
  Inv X pa σ H' {s with heap:=h',gens:=g',drawn:=d',toks:=t' }:=by
 have aa:∀b o,X.s₀.heap.get? b=yz o->b≠X.env.locals:=λb o e=>Vz (V0 (Vr e) I.ok.above);have U:∀b o,X.s₀.heap.get? b=yz o->b ∉ X.ex->b ∉ ch:=λb o e B hb=>by
  rcases (hch b hb).1 with z|z;·exact B z
  ·exact aB0 (V0 (Vr e) z) (Vb5 _)
 have L:∀x c,X.env.cells.lookup x=yz c->∀v,s.heap.IsCell c v->h'.IsCell c v:=λx c e v ⟨o,ho,hd⟩=>by
  have J:c ∉ ch:=λz=>(hch c z).2.2.1 x c e rfl;by_cases hc:c∈X.fs;·obtain⟨sl,q⟩:=slot c o (I.cne x c e) hc J ho (I.freeC x c e);exact⟨_,q,hd⟩
  ·exact⟨o,keep c o (I.cne x c e) hc J ho (I.freeC x c e),hd⟩
 refine⟨I.ok,I.os,hg,⟨λb o e n hb B=>?_,λb o e n hb B=>?_,λb o e n B=>?_,λb o e B=>?_,λb xs e=>tups b xs (I.base.tups b xs e),λb o xs e=>frzs b o xs (I.base.frzs b o xs e),λb ps e=>tbls b ps (I.base.tbls b ps e)⟩,?_,λx c e=>?_,?_,λx c e=>?_,λp hp=>?_,hok,I.len⟩;·exact keep b o (aa b o e) hb (U b o e B) (I.base.keep b o e n hb B) (I.base.free b o e n B)
 ·obtain⟨sl,Y⟩:=I.base.slot b o e n hb B;obtain⟨ab,e2⟩:=slot b _ (aa b o e) hb (U b o e B) Y (I.base.free b o e n B);exact⟨ab,e2⟩
 ·obtain⟨o',Y⟩:=I.base.there b o e B;exact free b o' (U b o e B) Y (I.base.free b o e n B)
 ·obtain⟨o',Y⟩:=I.base.there b o e B;exact there b o' (U b o e B) Y
 ·obtain⟨m,hn,hl⟩:=I.loc;refine⟨m,ns m hn,λi x v Y e2 e3=>?_⟩;obtain⟨u,r,l⟩:=hl i x v Y e2 e3;refine⟨u,r,?_⟩;rcases l with l|⟨k,c,e,z⟩;·exact .inl l
  ·exact .inr ⟨k,c,e,L x c e _ z⟩
 ·obtain⟨v,z⟩:=I.cell x c e;exact⟨v,L x c e v z⟩
 ·obtain⟨m,⟨o,_,_,ho,_⟩,_⟩:=I.loc;exact free _ o (λz=>(hch _ z).2.1 rfl) ho I.free
 ·obtain⟨v,o,ho,hd⟩:=I.cell x c e;exact free c o (λz=>(hch c z).2.2.1 x c e rfl) ho (I.freeC x c e)
 ·obtain⟨e,n,ne,nf,d⟩:=I.pin p hp;have J:p.1 ∉ ch:=λz=>(hch p.1 z).2.2.2 p hp rfl;exact⟨keep p.1 p.2 ne nf J e n,free p.1 p.2 J e n,ne,nf,d⟩
theorem Inv.un{t':Nat}(I:Inv X pa σ H s)(u:Un X.fs [] H H' s.heap h')(hok:HOk X.prog X.w H' h'):Inv X pa σ H' {s with heap:=h',toks:=t' }:=by obtain⟨m,⟨o,es,ep,Y,r⟩,_⟩:=id I.loc;obtain⟨sl,hL⟩:=u.any Y I.free (by simp);exact I.step (g':=s.gens) (d':=s.drawn) (ch:=[]) (λ_ z=>nomatch z) (λb o _ U _ e n=>u.keep b o e n U (by simp)) (λb o _ U _ e n=>u.slot b o e n U (by simp)) (λb o _ e n=>u.free b o e n (by simp)) (λb o _ e=>u.there b o e (by simp)) u.tups u.frzs u.tbls (λm' hm=>by obtain⟨o',J,L,B,r'⟩:=hm;rw[Y]at B;cases B;exact⟨_,J,L,hL,r'⟩) hok I.bare
theorem Inv.call{g':Array Vex}{t':Nat}{d':Drawn}{ch:LR}(I:Inv X pa σ H s)(u:Un (frs X.stack) ch H H' s.heap h')(hok:HOk X.prog X.w H' h')(hg:AllBare g')
  (hch:∀b∈ch,(b∈X.ex\/X.s₀.heap.objs.size<=b)/\b≠X.env.locals/\(∀x c,X.env.cells.lookup x=yz c->c≠b)/\∀p∈X.pn++pa,p.1≠b):
  Inv X pa σ H' {s with heap:=h',gens:=g',drawn:=d',toks:=t' }:=by
 obtain⟨m,⟨o,es,ep,ho,r⟩,_⟩:=id I.loc;obtain⟨sl,U⟩:=u.any ho I.free λz=>(hch _ z).2.1 rfl;exact I.step (ch:=ch) hch (λb o U hb B e n=>u.keep b o e n (λz=>(Vt.mp (I.stkSub b z)).elim U hb) B) (λb o _ _ B e n=>u.any e n B) (λb o B e n=>u.free b o e n B) (λb o B e=>u.there b o e B) u.tups u.frzs u.tbls (λm' hm=>by obtain⟨o',L,Y,J,r'⟩:=hm;rw[ho]at J;cases J;exact⟨_,L,Y,U,r'⟩) hok hg
theorem Inv.turned{t':Nat}{it:Addr}(I:Inv X pa σ H s)(k:∀b o,b≠it->s.heap.get? b=yz o->h'.get? b=yz o)(hn:H it=yy)(L:it≠X.env.locals)
  (h1:it∈X.ex\/X.s₀.heap.objs.size<=it) (h2:∀x c,X.env.cells.lookup x=yz c->c≠it) (h3:∀p∈X.pn++pa,p.1≠it):Inv X pa σ H {s with heap:=h',toks:=t' }:=by
 have J:∀b u,H b=yz u->b≠it:=λb u e z=>by rw[z,hn]at e;cases e
 refine I.step (g':=s.gens) (d':=s.drawn) (ch:=[it]) (λb hb=>?_) (λb o _ _ B e _=>k b o (λz=>B (by simp[z])) e) (λb o _ _ B e _=>⟨o.slots,k b o (λz=>B (by simp[z])) e⟩) (λ_ _ _ _ n=>n)
  (λb o B e=>⟨o,k b o (λz=>B (by simp[z])) e⟩) (λ_ _ e=>e) (λ_ _ _ e=>e) (λ_ _ e=>e) (λm U=>?_) (λb u e=>?_) I.bare
 ·have e:b=it:=by simpa using hb
  subst e;exact⟨h1,L,h2,h3⟩
 ·obtain⟨o,es,ep,Y,r⟩:=U;exact⟨o,es,ep,k _ o (Ne.symm L) Y,r⟩
 ·refine(I.hok b u e).stay (λc v B q=>k c v ?_ q) (λ_ q=>q) λ_ _ _ q=>q;rcases B with z|z;·rw[z];exact J b u e
  ·exact J c _ z
theorem Inv.tok(I:Inv X pa σ H s)(t:Nat):Inv X pa σ H {s with toks:=t}:=I.un (h':=s.heap) (t':=t) Un.refl I.hok
theorem Inv.kept{t':Nat}(I:Inv X pa σ H s)(k:∀b u,s.heap.get? b=yz u->h'.get? b=yz u):Inv X pa σ H {s with heap:=h',toks:=t' }:=I.un (Un.kept k) (I.hok.kept k)
theorem Inv.laid{a:Addr}{o:HO}{t':Nat}(I:Inv X pa σ H s)(k:∀b u,s.heap.get? b=yz u->h'.get? b=yz u)(hp:s.heap.objs.size<=a)(new:ObjOk X.prog X.w (upd H a o) h' a o):
  Inv X pa σ (upd H a o) {s with heap:=h',toks:=t' }:=I.un (Un.laid k hp (I.hok.fresh hp)) (I.hok.laid k hp new)
theorem Inv.write{x e:Addr}{o:HO}{t':Nat}(I:Inv X pa σ H s)(L:Mut (H x))(J:e=x\/H e=yz (.own x))(k:∀b u,b≠e->s.heap.get? b=yz u->h'.get? b=yz u)(B:∃u,h'.get? e=yz u)
  (new:ObjOk X.prog X.w (upd H x o) h' x o):Inv X pa σ (upd H x o) {s with heap:=h',toks:=t' }:=I.un (Un.write L J k B) (I.hok.write L J k B new)
theorem Inv.pins_of{B:LA}(I:Inv X pa σ H s)(h:∀p∈B,s.heap.get? p.1=yz p.2/\H p.1=yy/\p.1≠X.env.locals/\p.1 ∉ X.fs/\∀v,p.2.data≠.cell v):Inv X B σ H s:=
 ⟨I.ok,I.os,I.bare,I.base,I.loc,I.cell,I.free,I.freeC,λp J=>(Vao.mp J).elim (λz=>I.pin p (Vdc _ z)) (h p),I.hok,I.len⟩
theorem Xkc{N:LS}(hN:N.Nodup){i j:Nat}{x:Str}(a:N[i]?=yz x)(b:N[j]?=yz x):i=j:=by obtain⟨h1,B⟩:=Vh.mp a;obtain⟨h2,J⟩:=Vh.mp b;exact(List.getElem_inj hN).mp (B.trans J.symm)
theorem Xiu{M:Model}{A:Uq}{E:VP}{i:Nat}{x:Str}{v:V}{u:Vb}{Q:Unit->Vc->Prop}(I:Inv X pa σ H s)(hN:X.N.Nodup)(hi:X.N[i]?=yz x)(U:Loc X.env.scope x)(r:RelV v u)
  (h:∀s',Inv X pa (σ.set i (yz v)) H s'->(∃a,Vap a s.heap s'.heap/\(a=X.env.locals\/X.env.cells.lookup x=yz a))->Q () s') (hf:X.fn x=yx\/X.env.scope.names.lookup x=yz .local:=by first|exact .inl rfl|exact .inr rfl|assumption):Vf M A (storeName X.env x u) Q E s:=by
 obtain⟨m,hn,hl⟩:=id I.loc;have ac:(X.env.scope.kind == .class||(X.env.scope.kind == .module&&X.env.locals != X.env.globals))=false:=by rw[I.ok.kind];rfl
 have aa:i < σ.length:=by rw[I.len];exact(Vh.mp hi).1
 have cne:=I.cne;have J:∀ {a:Addr} {h':Heap},(∃o,s.heap.get? a=yz o/\H a=yy)->Vap a s.heap h'->HOk X.prog X.w H h':=λ{a h'} ha hs b ob e=>by
  obtain⟨_,_,Y⟩:=ha;refine(I.hok b ob e).stay (λc w' L q=>(hs.2 c ?_).trans q) (λ_ q=>q) λ_ _ _ q=>q;rintro rfl;rcases L with rfl|L;·rw[Y]at e;cases e
  ·rw[Y]at L;cases L
 rcases U with hk|hk
 ·refine wpAny_storeName_local hk hn (λh' aj hs=>?_) ac;obtain⟨oL,_,_,ak,_⟩:=id hn;refine h _ ⟨I.ok,I.os,I.bare,⟨λb o e n hb U=>?_,λb o e n hb U=>?_,I.base.free,λb o e U=>?_,I.base.tups,I.base.frzs,I.base.tbls⟩,⟨_,aj,λj y v' B e2 e3=>?_⟩,λy c e=>?_,I.free,I.freeC,λp hp=>?_,J ⟨oL,ak,I.free⟩ hs,by simpa using I.len⟩ ⟨_,hs,.inl rfl⟩;·exact(hs.2 b (Vz (V0 (Vr e) I.ok.above))).trans (I.base.keep b o e n hb U)
  ·obtain⟨sl,B⟩:=I.base.slot b o e n hb U;exact⟨sl,(hs.2 b (Vz (V0 (Vr e) I.ok.above))).trans B⟩
  ·obtain⟨o',B⟩:=I.base.there b o e U;exact⟨o',(hs.2 b (Vz (V0 (Vr e) I.ok.above))).trans B⟩
  ·by_cases hj:j=i;·subst hj;rw[hi]at B;cases B;rw[Va0 aa]at e2;cases e2;exact⟨u,r,.inl ⟨hk,by simp⟩⟩
   ·rw[Vab (Ne.symm hj)]at e2;obtain⟨u',r',q⟩:=hl j y v' B e2 e3;refine⟨u',r',?_⟩;rcases q with⟨k,e⟩|⟨k,c,e,z⟩;·refine .inl ⟨k,?_⟩;have:y≠x:=λe=>hj (Xkc hN B (e▸hi));simp[this,e]
    ·exact .inr ⟨k,c,e,z.sameBut hs (cne y c e)⟩
  ·obtain⟨w',z⟩:=I.cell y c e;exact⟨w',z.sameBut hs (cne y c e)⟩
  obtain⟨e,n,ne,nf,d⟩:=I.pin p hp;exact⟨(hs.2 p.1 ne).trans e,n,ne,nf,d⟩
 ·have ab:X.fn x=true:=by
   rcases hf with z|z;·exact z
   ·rw[z]at hk;cases hk
  obtain⟨c,L⟩:=I.ok.has x (.inl hk);obtain⟨w',z⟩:=I.cell x c L;refine wpAny_storeName_cell I.ok.kind hk L z (λh' af hs=>?_);obtain⟨oc,ae,ah⟩:=id z;refine h {s with heap:=h' } ⟨I.ok,I.os,I.bare,⟨λb o e n hb U=>?_,λb o e n hb U=>?_,I.base.free,λb o e U=>?_,I.base.tups,I.base.frzs,I.base.tbls⟩,⟨m,hn.sameBut hs (Ne.symm (cne x c L)),λj y v' B e2 e3=>?_⟩,λy c' e=>?_,I.free,I.freeC,λp hp=>?_,J ⟨oc,ae,I.freeC x c L⟩ hs,by simpa using I.len⟩ ⟨c,hs,.inr L⟩;·exact(hs.2 b (Vz (V0 (Vr e) (I.ok.cab x c ab L)))).trans (I.base.keep b o e n hb U)
  ·obtain⟨sl,B⟩:=I.base.slot b o e n hb U;exact⟨sl,(hs.2 b (Vz (V0 (Vr e) (I.ok.cab x c ab L)))).trans B⟩
  ·obtain⟨o',B⟩:=I.base.there b o e U;exact⟨o',(hs.2 b (Vz (V0 (Vr e) (I.ok.cab x c ab L)))).trans B⟩
  ·by_cases hj:j=i;·subst hj;rw[hi]at B;cases B;rw[Va0 aa]at e2;cases e2;exact⟨u,r,.inr ⟨.inl hk,c,L,af⟩⟩
   ·rw[Vab (Ne.symm hj)]at e2;obtain⟨u',r',q⟩:=hl j y v' B e2 e3;refine⟨u',r',?_⟩;rcases q with q|⟨k,c',e,z'⟩;·exact .inl q
    ·refine .inr ⟨k,c',e,z'.sameBut hs ?_⟩;rintro rfl;exact hj (Xkc hN B (I.ok.inj _ _ _ e L▸hi))
  ·by_cases ai:c'=c;·subst ai;exact⟨_,af⟩
   ·obtain⟨w2,z2⟩:=I.cell y c' e;exact⟨w2,z2.sameBut hs ai⟩
  obtain⟨e,n,ne,nf,d⟩:=I.pin p hp;refine⟨(hs.2 p.1 ?_).trans e,n,ne,nf,d⟩;intro q;rw[q,ae]at e;have q':oc=p.2:=Uc e;exact d w' (by rw[<-q'];exact ah)
theorem Xa5{M:Model}{A:Uq}{E:VP}{i:Nat}{x:Str}{v:V}{u:Vb}{Q:Unit->Vc->Prop}(I:Inv X pa σ H s)(hN:X.N.Nodup)(hi:X.N[i]?=yz x)(J:Loc X.env.scope x)(r:RelV v u)
  (h:∀s',Inv X pa (σ.set i (yz v)) H s'->Q () s') (L:X.fn x=yx\/X.env.scope.names.lookup x=yz .local:=by first|exact .inl rfl|exact .inr rfl|assumption):Vf M A (storeName X.env x u) Q E s:=
 Xiu I hN hi J r (λs' B _=>h s' B) L
theorem Inv.call'{s':Vc}{ch:LR}(I:Inv X pa σ H s)(U:s'.os=s.os)(u:Un (frs X.stack) ch H H' s.heap s'.heap)(hok:HOk X.prog X.w H' s'.heap)(hg:AllBare s'.gens)
  (hch:∀b∈ch,(b∈X.ex\/X.s₀.heap.objs.size<=b)/\b≠X.env.locals/\(∀x c,X.env.cells.lookup x=yz c->c≠b)/\∀p∈X.pn++pa,p.1≠b):Inv X pa σ H' s':=by
 obtain⟨h',B,J,L,o'⟩:=s';have e:o'=s.os:=U;subst e;exact I.call (g':=B) (t':=L) (d':=J) u hok hg hch
end
abbrev XK:=Vb->Option Addr->Hp->Prop
noncomputable abbrev St:=List (Option V)
abbrev VK:=V->Hp->Prop
abbrev TE:=St->Hp->VK->Prop
def EP(X:Cx)(pa:LA)(σ:St)(Q:VK)(u:Vb)(s':Vc):Prop:=∃v H',Inv X pa σ H' s'/\RelV v u/\Q v H'
def TP(X:Cx)(pa:LA)(σ:St)(Q:Bool->Hp->Prop)(b:Bool)(s':Vc):Prop:=∃H',Inv X pa σ H' s'/\Q b H'
def PE(X:Cx)(e:Expr)(t:TE):Prop:=
 ∀(pa:LA) (s:Vc) (σ:St) (H:Hp) (Q:VK),Inv X pa σ H s->t σ H Q->Vf (Vj X.prog X.w) X.A (eval e X.env) (EP X pa σ Q) X.xe s
theorem thn{α:Type}{t:Sem α}{Q Q':α->Vc->Prop}{M:Model}{A:Uq}{E:VP}{s:Vc}(h:Vf M A t Q E s)(B:∀a s,Q a s->Q' a s):Vf M A t Q' E s:=Vo h B λ_ _ x=>x
end L2
namespace L2
open PySem PySem.Spec PyProof.Rows
section
variable{X:Cx}
theorem bin{a b:Expr}{ta tb:TE}(L:PE X a ta)(J:PE X b tb){pa:LA}{s:Vc}{σ:St}{H:Hp}{R:V->V->Hp->Prop}(I:Inv X pa σ H s)(h:ta σ H λx H1=>tb σ H1 λy H2=>R x y H2)
  {α:Type} {Q:α->Vc->Prop} {f:Vb->Vb->Sem α}
  (U:∀v u B x y H2,Inv X pa σ H2 B->RelV x v->RelV y u->R x y H2->Vf (Vj X.prog X.w) X.A (f v u) Q X.xe B):
  Vf (Vj X.prog X.w) X.A (eval a X.env) (λv s₁=>Vf (Vj X.prog X.w) X.A (eval b X.env) (λu s₂=>Vf (Vj X.prog X.w) X.A (f v u) Q X.xe s₂) X.xe s₁) X.xe s:=by
 refine thn (L pa s σ H _ I h) λv s1 ⟨x,H1,I1,r1,q1⟩=>?_;refine thn (J pa s1 σ H1 _ I1 q1) λu B ⟨y,H2,I2,r2,q2⟩=>?_;exact U v u B x y H2 I2 r1 r2 q2
noncomputable def X6t(i:Nat):TE:=fun σ H Q=>∃v,σ[i]?=yz (yz v)/\Q v H
noncomputable def tC(v:V):TE:=λ_ H Q=>Q v H
theorem X0o {i:Nat} {x:Str} {pos:Pos} (hN:X.N[i]?=yz x) (hv:Vis X.env.scope x) (hd:(x==("__debug__" : Str))=false:=by decide) (L:(x==("__classdict__" : Str))=false:=by decide):PE X (.Name x pos) (X6t i):=by
 intro pa s σ H Q I h;obtain⟨v,e,h⟩:=h;obtain⟨m,hn,U⟩:=I.loc;obtain⟨u,r,l⟩:=U i x v hN e hv;have J:EP X pa σ Q u s:=⟨v,H,I,r,h⟩;rcases l with⟨B,hm⟩|⟨B,c,hc,hcell⟩;·exact wpAny_Name (wpAny_loadName_local I.ok.kind B hn hm J) hd
 ·rcases B with B|B;·exact wpAny_Name (wpAny_loadName_cell I.ok.kind B hc hcell J) hd
  ·exact wpAny_Name (wpAny_loadName_free I.ok.kind B hc hcell J L) hd
theorem X0p{i j pos}:PE X (.Constant (.int i) j pos) (tC (.int i)):=λ_ _ _ H _ I h=>wpAny_Constant_int ⟨.int i,H,I.tok _,⟨_,rfl⟩,h⟩
theorem X4v{b j pos}:PE X (.Constant (.bool b) j pos) (tC (.bl b)):=λ_ _ _ H _ I h=>Constant_bool ⟨.bl b,H,I,rfl,h⟩
theorem X0q{j pos}:PE X (.Constant .none j pos) (tC .non):=λ_ _ _ H _ I h=>Constant_none ⟨.non,H,I,rfl,h⟩
theorem X0r{x j pos}:PE X (.Constant (.str x) j pos) (tC (.str x)):=λ_ _ _ H _ I h=>Calls.Constant_str ⟨.str x,H,I.tok _,⟨_,rfl⟩,h⟩
def Gl(X:Cx)(x:Str):Prop:=X.env.kindOf x=yz .globalImplicit
theorem Xda{E:VP}{pa:LA}{s:Vc}{σ:St}{H:Hp}{x:Str}{u:Vb}{pos:Pos}{Q:VP}(I:Inv X pa σ H s)(hg:Gl X x)(B:X.mg x=yz u)(h:Q u s)
  (hd:(x==("__debug__" : Str))=false:=by decide):Vf (Vj X.prog X.w) X.A (eval (.Name x pos) X.env) Q E s:=
 Vgv I.ok.kind hg (Calls.loadGlobal_global (by rw[I.ok.glob];exact I.mod.glob.keeps I.bk) B h) hd
theorem Yn{E:VP}{pa:LA}{s:Vc}{σ:St}{H:Hp}{x:Str}{u:Vb}{pos:Pos}{Q:VP}(I:Inv X pa σ H s)(hg:Gl X x)(B:X.mg x=yy)(hv:Vdg x=yz u)(h:Q u s)
  (hn:x ≠ "__name__":=by decide) (hd:(x==("__debug__" : Str))=false:=by decide):Vf (Vj X.prog X.w) X.A (eval (.Name x pos) X.env) Q E s:=by
 obtain⟨J,h1,h2⟩:=I.mod.blt;exact Vgv I.ok.kind hg (Calls.loadGlobal_builtin (by rw[I.ok.glob];exact I.mod.glob.keeps I.bk) B (by rw[I.ok.blt];exact h1.keeps I.bk) ((h2 x hn).trans hv) h) hd
end
end L2
namespace L2
open PySem PySem.Spec PyProof.Rows
def SqL(K:Ve)(H:Hp)(a:Addr)(xs:LW):Prop:=
 Rd H a (.lst xs) \/
  ∃(o:Obj) (its:AV) (n:Nat),K.lookup a=yz o/\o.cls=.type "list" /\ o.dict=yy/\o.data=.seq its n/\its.size<=Vu/\Vals xs its.toList
def SqT(K:Ve)(H:Hp)(a:Addr)(xs:LW):Prop:=
 Rd H a (.tup xs) \/
  ∃(o:Obj) (its:AV) (n:Nat),K.lookup a=yz o/\o.cls=.type "tuple" /\ o.data=.seq its n/\its.size<=Vu/\Vals xs its.toList
noncomputable def X6u:Vb->Option V
 |.none=>yz .non|.bool b=>yz (.bl b)|.int i _=>yz (.int i)|.str x _=>yz (.str x)|.bytes b _=>yz (.byt b)|.float b _=>yz (.flt b)|.ref a=>yz (.ref a)|.type n=>yz (.ty n)|_=>yy
theorem RelV.abs{x:V}{u:Vb}(r:RelV x u):X6u u=yz x:=by
 cases x with
 |non=>cases r;rfl|bl _=>cases r;rfl|int _=>obtain⟨t,rfl⟩:=r;rfl|str _=>obtain⟨t,rfl⟩:=r;rfl|byt _=>obtain⟨t,rfl⟩:=r;rfl|flt _=>obtain⟨t,rfl⟩:=r;rfl|ref _=>cases r;rfl|ty _=>cases r;rfl
theorem RelV.inj{x y:V}{u:Vb}(r:RelV x u)(q:RelV y u):x=y:=Uc (r.abs.symm.trans q.abs)
theorem Vals.inj:∀ {xs ys:LW} {us:LV},Vals xs us->Vals ys us->xs=ys
 |_,_,_,.nil,.nil=>rfl|_,_,_,.cons r t,.cons r' t'=>by rw[r.inj r',Vals.inj t t']
section
variable{X:Cx}{pa:LA}{σ:St}{H:Hp}{s:Vc}{a:Addr}{xs ys:LW}
theorem SqL.of{K:Ve}(h:H a=yz (.lst xs)):SqL K H a xs:=.inl (.inl h)
theorem SqT.of{K:Ve}(h:H a=yz (.tup xs)):SqT K H a xs:=.inl (.inl h)
theorem Inv.list(I:Inv X pa σ H s)(h:SqL X.K H a xs):∃its:LV,Vals xs its/\PlainL s.heap a its.toArray/\(la xs)<=Vu:=by
 rcases h with h|⟨o,its,n,B,J,hd,hs,L,r⟩;·obtain⟨z,its,n,r,e⟩:=h.ok I.hok;exact⟨its,r,⟨_,n,e,rfl,rfl,rfl⟩,z⟩
 ·refine⟨its.toList,r,⟨o,n,I.kIn a o B,J,hd,by simpa using hs⟩,?_⟩;have e:=r.length;simp only[Uy]at e;omega
theorem Inv.tuple(I:Inv X pa σ H s)(h:SqT X.K H a xs):∃its:LV,Vals xs its/\Vc0 s.heap a its.toArray/\(la xs)<=Vu:=by
 rcases h with h|⟨o,its,n,B,J,hs,L,r⟩;·obtain⟨z,its,r,p⟩:=h.ok I.hok;exact⟨its,r,p,z⟩
 ·refine⟨its.toList,r,⟨o,I.kIn a o B,J,n,by simpa using hs⟩,?_⟩;have e:=r.length;simp only[Uy]at e;omega
theorem Inv.list_inj(I:Inv X pa σ H s)(h:SqL X.K H a xs)(h':SqL X.K H a ys):xs=ys:=by
 obtain⟨its,r,⟨o,n,e,_,_,d⟩,_⟩:=I.list h;obtain⟨B,Y,⟨o',n',L,_,_,J⟩,_⟩:=I.list h';rw[e]at L;cases L;rw[d]at J;injection J with U _;have:its=B:=by simpa using congrArg Array.toList U
 subst this;exact r.inj Y
theorem Inv.tuple_inj(I:Inv X pa σ H s)(h:SqT X.K H a xs)(h':SqT X.K H a ys):xs=ys:=by
 obtain⟨its,r,⟨o,e,_,n,d⟩,_⟩:=I.tuple h;obtain⟨B,Y,⟨o',L,_,n',J⟩,_⟩:=I.tuple h';rw[e]at L;cases L;rw[d]at J;injection J with U _;have:its=B:=by simpa using congrArg Array.toList U
 subst this;exact r.inj Y
end
noncomputable abbrev Cx.wish(X:Cx)(E:VP):Cx:={ X with xe:=E}
theorem Cx.Ok.wish{X:Cx}(ok:X.Ok)(E:VP):(X.wish E).Ok:=
 ⟨ok.mod,ok.kind,ok.glob,ok.blt,ok.above,ok.inj,ok.has,ok.cab,ok.hd,ok.frames,ok.stk,ok.exf,ok.bs,ok.bsz,ok.noex,ok.exfs,ok.funs,ok.frf⟩
theorem Cx.Ok.unwish{X:Cx}{E:VP}(ok:(X.wish E).Ok):X.Ok:=
 ⟨ok.mod,ok.kind,ok.glob,ok.blt,ok.above,ok.inj,ok.has,ok.cab,ok.hd,ok.frames,ok.stk,ok.exf,ok.bs,ok.bsz,ok.noex,ok.exfs,ok.funs,ok.frf⟩
section
variable{X:Cx}{pa:LA}{σ:St}{H:Hp}{s:Vc}{E:VP}
theorem Inv.wish(I:Inv X pa σ H s)(E:VP):Inv (X.wish E) pa σ H s:=⟨I.ok.wish E,I.os,I.bare,I.base,I.loc,I.cell,I.free,I.freeC,I.pin,I.hok,I.len⟩
theorem Inv.unwish(I:Inv (X.wish E) pa σ H s):Inv X pa σ H s:=⟨I.ok.unwish,I.os,I.bare,I.base,I.loc,I.cell,I.free,I.freeC,I.pin,I.hok,I.len⟩
theorem Inv.quiet{pa:LA}{σ:St}{H:Hp}{s:Vc}(I:Inv X pa σ H s):interactive X.env=false:=by simp[interactive,I.ok.kind]
end
abbrev TG:=V->St->Hp->(St->Hp->Prop)->Prop
abbrev TGs:=LW->St->Hp->(St->Hp->Prop)->Prop
def PG(X:Cx)(B:Expr)(t:TG):Prop:=
 ∀(pa:LA) (s:Vc) (σ:St) (H:Hp) (v:V) (u:Vb) (Q:St->Hp->Prop),Inv X pa σ H s->RelV v u->t v σ H Q ->
  Vf (Vj X.prog X.w) X.A (assign B X.env u) (λ_ s'=>∃ J H',Inv X pa J H' s'/\Q J H') X.xe s
def PGs(X:Cx)(ts:LX)(t:TGs):Prop:=
 ∀(pa:LA) (s:Vc) (σ:St) (H:Hp) (vs:LW) (us:LV) (Q:St->Hp->Prop),Inv X pa σ H s->Vals vs us->t vs σ H Q ->
  Vf (Vj X.prog X.w) X.A (assignInOrder ((Va1 ts X.env).map (·.2)) us) (λ_ s'=>∃ B H',Inv X pa B H' s'/\Q B H') X.xe s
abbrev X6v:=V->V->V->Hp->(Hp->Prop)->Prop
def X6w(X:Cx)(t:X6v):Prop:=
 ∀(pa:LA) (s:Vc) (σ:St) (H:Hp) (o i v:V) (B J u:Vb) (Q:Hp->Prop),Inv X pa σ H s->RelV o B->RelV i J->RelV v u->t o i v H Q ->
  Vf (Vj X.prog X.w) X.A (setItem B J u) (λ_ s'=>∃H',Inv X pa σ H' s'/\Q H') X.xe s
section
variable{X:Cx}{pos:Pos}
noncomputable def Xv1(i:Nat):TG:=λv σ H Q=>Q (σ.set i (yz v)) H
theorem Xw1{i:Nat}{x:Str}(hN:X.N.Nodup)(hi:X.N[i]?=yz x)(J:Loc X.env.scope x)(L:X.fn x=yx\/X.env.scope.names.lookup x=yz .local:=by first|exact .inl rfl|exact .inr rfl|assumption):PG X (.Name x pos) (Xv1 i):=by intro pa s σ H v u Q I r h;exact Vgz (Xa5 I hN hi J r (λs' B=>⟨_,H,B,h⟩) L)
noncomputable def X0s:TGs:=λvs σ H Q=>vs=[]/\Q σ H
noncomputable def Xv2(t:TG)(u:TGs):TGs:=λvs σ H Q=>∃v r,vs=v::r/\t v σ H λB H'=>u r B H' Q
theorem Xw2:PGs X [] X0s:=by intro pa s σ H vs us Q I r h;obtain⟨e,h⟩:=h;subst e;cases r;exact assignInOrder_nil ⟨σ,H,I,h⟩
theorem Xs3{e:Expr}{es:LX}{t:TG}{u:TGs}(h1:PG X e t)(h2:PGs X es u)
  (hs:(Va1 (e::es) X.env).map (·.2)=assign e X.env::(Va1 es X.env).map (·.2):=by rfl):PGs X (e::es) (Xv2 t u):=by
 intro pa s σ H vs us Q I r h;obtain⟨v,L,B,h⟩:=h;subst B;cases r with
 |cons r J=>rw[hs];refine Vgo (thn (h1 pa s σ H _ _ _ I r h) λ_ s1 ⟨σ1,H1,I1,q1⟩=>?_);exact h2 pa s1 σ1 H1 _ _ Q I1 J q1
noncomputable def X6x(K:Ve)(n:Nat)(t:TGs):TG:=λv σ H Q=>∃a xs,v=.ref a/\SqT K H a xs/\(la xs)=n/\t xs σ H Q
theorem X0t{es:LX}{k:Nat}{t:TGs}{n:Nat}(hc:X.calm=yx)(h:PGs X es t)
  (hn:(Va1 es X.env).length=n:=by rfl) (B:(Va1 es X.env).findIdx? (·.1)=none:=by rfl):PG X (.Tuple es k pos) (X6x X.K n t):=by
 intro pa s σ H v u Q I r J;obtain⟨a,xs,e1,hq,hl,J⟩:=J;subst e1;cases r;obtain⟨its,L,Y,hz⟩:=I.tuple hq;refine assign_Tuple_tuple (I.ok.hd hc) Y (by simp[hn,<-hl,L.length]) B λh' U=>?_;have I1:Inv X pa σ H {s with heap:=h' }:=I.kept (t':=s.toks) λb o e=>U b o (Vz (Vr e)) e;exact h pa _ σ H xs _ Q I1 (by simpa using L) J
end
structure It where
 go:Nat->Hp->Prop
 yld:Nat->Hp->V->Hp->Prop
 stop:Nat->Hp->Prop
def Xab(X:Cx)(pa:LA)(H:Hp)(b:Addr):Prop:=
 H b=yy/\b≠X.env.locals/\b ∉ X.fs/\(b∈X.ex\/X.s₀.heap.objs.size<=b)/\(∀x c,X.env.cells.lookup x=yz c->c≠b)/\∀p∈X.pn++pa,p.1≠b
theorem Inv.fpOk{X:Cx}{pa:LA}{σ:St}{H H':Hp}{s:Vc}{b:Addr}(I:Inv X pa σ H s)(B:s.heap.objs.size<=b)(hn:H' b=yy):Xab X pa H' b:=by
 refine⟨hn,Vcw (V0 I.lt B),I.nofs B,.inr (Ul I.sz B),λx c e z=>?_,λp J z=>?_⟩;·obtain⟨v,q⟩:=I.cell x c e;exact aB0 (V0 q.lt (by rw[z];exact B)) (Vb5 _)
 ·exact aB0 (V0 (Vr (I.pin p J).1) (by rw[z];exact B)) (Vb5 _)
structure Turn(P:Vy)(w:V9)(K:Ve)(tg:Expr)(J:It)(fp:LR)(it:Addr)(tn:Nat->Heap->Prop):Prop where
 mem:it∈fp
 obj:∀i h,tn i h->∀b∈fp,∃o,h.get? b=yz o/\∀v,o.data≠.cell v
 keep:∀i h h',tn i h->(∀b∈fp,∀o,h.get? b=yz o->h'.get? b=yz o)->tn i h'
 item:∀(X:Cx),X.prog=P->X.w=w->X.K=K->X.calm=yx->∀(i:Nat) (pa:LA) (s:Vc) (σ:St) (H:Hp) (E:VP),Inv X pa σ H s->(∀b∈fp,Xab X pa H b)->tn i s.heap->J.go i H ->
  Vf (Vj P w) X.A (pyNext (.ref it)) (λr s1=>∃u,r=yz u /\
   Vf (Vj P w) X.A (Vds tg (.ref it) u) (λ_ s2=>∃x H',Inv X pa σ H' s2/\RelV x u/\J.yld i H x H'/\tn (i+1) s2.heap/\∀b∈fp,H' b=yy) E s1) E s
 done:∀(X:Cx),X.prog=P->X.w=w->X.K=K->X.calm=yx->∀(i:Nat) (pa:LA) (s:Vc) (σ:St) (H:Hp) (E:VP),Inv X pa σ H s->(∀b∈fp,Xab X pa H b)->tn i s.heap->J.stop i H ->
  Vf (Vj P w) X.A (pyNext (.ref it)) (λr s1=>r=yy/\Inv X pa σ H s1) E s
 self:∀(A:Uq) (i:Nat) (s:Vc) (Q:VP) (E:VP),tn i s.heap->Q (.ref it) s->Vf (Vj P w) A (Vd8 (.ref it)) Q E s
def PIE(X:Cx)(pa:LA)(σ:St)(tg:Expr)(R:It->Hp->Prop)(B:Vb)(L:Vc):Prop:=
 ∃(it:Addr) (fp:LR) (U:Nat->Heap->Prop) (J:It) (H':Hp),B=.ref it/\Inv X pa σ H' L/\Turn X.prog X.w X.K tg J fp it U/\U 0 L.heap/\(∀b∈fp,Xab X pa H' b)/\R J H'
theorem Xjv{M:Model}{A:Uq}{E:VP}{s:Vc}{tg:Expr}{it:Addr}{u:Vb}{o:Obj}{n:String}{vs:AV}{Q:Unit->Vc->Prop}(J:s.heap.get? it=yz o)(L:o.cls=.type n)(hd:o.data=.fields vs)
  (hn:["enumerate","zip","dict_itemiterator","dict_reverseitemiterator","odict_iterator","itertools.zip_longest","itertools.pairwise"].contains n=yw) (B:Q () s):Vf M A (Vds tg (.ref it) u) Q E s:=by
 unfold Vds;cases tg<;>first
  |exact Vd B
  | (cases u<;>first
    |exact Vd B
    | (refine Va (wpAny_load J ?_)
       rw[L,hd];show Vf M A (if (["enumerate","zip","dict_itemiterator","dict_reverseitemiterator","odict_iterator","itertools.zip_longest","itertools.pairwise"].contains n&&vs[0]?==yz (Vb2 _))=yx then _ else _) Q E s;rw[iN0 (by intro h;rw[hn,Bool.false_and]at h;cases h)]
       exact Vd B))
noncomputable def Itl(K:Ve)(a:Addr):It:=
 ⟨λi H=>∃xs x,SqL K H a xs/\xs[i]?=yz x,λi H x H'=>H'=H/\∀xs,SqL K H a xs->xs[i]?=yz x,λi H=>∃xs,SqL K H a xs/\(la xs)<=i⟩
noncomputable def Itt(K:Ve)(a:Addr):It:=
 ⟨λi H=>∃xs x,SqT K H a xs/\xs[i]?=yz x,λi H x H'=>H'=H/\∀xs,SqT K H a xs->xs[i]?=yz x,λi H=>∃xs,SqT K H a xs/\(la xs)<=i⟩
noncomputable def Itr(lo:Int)(n:Nat):It:=⟨λi _=>i<n,λi H x H'=>H'=H/\x=.int (lo+i),λi _=>n<=i⟩
theorem Xqh{P:Vy}{w:V9}{K:Ve}{tg:Expr}(a it:Addr):Turn P w K tg (Itl K a) [it] it (λi h=>h.IsListIter it a i) where
 mem:=by simp
 obj:=λi h st b B=>by
  have e:b=it:=by simpa using B
  subst e;obtain⟨o,e,c,d⟩:=st;exact⟨o,e,λv z=>by rw[d]at z;cases z⟩
 keep:=λi h h' st k=>st.at λo e=>k it (by simp) o e
 item:=by intro X hP hw hK hc i pa s σ H E I U st hg;subst hP hw hK;obtain⟨xs,x,L,Y⟩:=hg;obtain⟨its,rv,p,hz⟩:=I.list L;obtain⟨u,hu,ru⟩:=rv.get Y;obtain⟨f0,f1,f2,f3,f4,f5⟩:=U it (by simp);refine wpAny_pyNext_list_item st p.isList (x:=u) (by simpa using hu) λh' J sb=>?_;have I1:Inv X pa σ H {s with heap:=h' }:=I.turned (t':=s.toks) (λb o B e=>(sb.2 b B).trans e) f0 f1 f3 f4 f5;obtain⟨o,e,c,d⟩:=id J;exact⟨u,rfl,Xjv (s:={s with heap:=h' }) e c d (by decide) ⟨x,H,I1,ru,⟨rfl,λys hy=>by rw[I.list_inj hy L];exact Y⟩,J,λb B=>(U b B).1⟩⟩
 done:=by intro X hP hw hK hc i pa s σ H E I U st hg;subst hP hw hK;obtain⟨xs,L,Y⟩:=hg;obtain⟨its,rv,p,hz⟩:=I.list L;obtain⟨f0,f1,f2,f3,f4,f5⟩:=U it (by simp);have hl:=rv.length;exact wpAny_pyNext_list_end (I.ok.hd hc) st p.isList (by simp;omega) λh' eb=>⟨rfl,I.turned (t':=s.toks) (λb o B e=>eb b o B e) f0 f1 f3 f4 f5⟩
 self:=λ_ _ _ _ _ st h=>wpAny_pyIter_listiter st h
theorem Xor{P:Vy}{w:V9}{K:Ve}{tg:Expr}(a it:Addr):Turn P w K tg (Itt K a) [it] it (λi h=>h.IsTupleIter it a i) where
 mem:=by simp
 obj:=λi h st b B=>by
  have e:b=it:=by simpa using B
  subst e;obtain⟨o,e,c,d⟩:=st;exact⟨o,e,λv z=>by rw[d]at z;cases z⟩
 keep:=λi h h' st k=>st.at λo e=>k it (by simp) o e
 item:=by intro X hP hw hK hc i pa s σ H E I U st hg;subst hP hw hK;obtain⟨xs,x,L,Y⟩:=hg;obtain⟨its,rv,p,hz⟩:=I.tuple L;obtain⟨u,hu,ru⟩:=rv.get Y;obtain⟨f0,f1,f2,f3,f4,f5⟩:=U it (by simp);refine wpAny_pyNext_tuple_item st (show s.heap.IsTuple a its.toArray from p) (x:=u) (by simpa using hu) λh' J sb=>?_;have I1:Inv X pa σ H {s with heap:=h' }:=I.turned (t':=s.toks) (λb o B e=>(sb.2 b B).trans e) f0 f1 f3 f4 f5;obtain⟨o,e,c,d⟩:=id J;exact⟨u,rfl,Xjv (s:={s with heap:=h' }) e c d (by decide) ⟨x,H,I1,ru,⟨rfl,λys hy=>by rw[I.tuple_inj hy L];exact Y⟩,J,λb B=>(U b B).1⟩⟩
 done:=by intro X hP hw hK hc i pa s σ H E I U st hg;subst hP hw hK;obtain⟨xs,L,Y⟩:=hg;obtain⟨its,rv,p,hz⟩:=I.tuple L;obtain⟨f0,f1,f2,f3,f4,f5⟩:=U it (by simp);have hl:=rv.length;exact wpAny_pyNext_tuple_end (I.ok.hd hc) st (show s.heap.IsTuple a its.toArray from p) (by simp;omega) λh' eb=>⟨rfl,I.turned (t':=s.toks) (λb o B e=>eb b o B e) f0 f1 f3 f4 f5⟩
 self:=λ_ _ _ _ _ st h=>wpAny_pyIter_tupleiter st h
theorem Xos{P:Vy}{w:V9}{K:Ve}{tg:Expr}(it:Addr)(lo:Int)(n:Nat):Turn P w K tg (Itr lo n) [it] it (λi h=>IsRangeIter h it (lo+(i:Nat)*1) ((n:Int)-(i:Nat)) 1) where
 mem:=by simp
 obj:=λi h st b B=>by
  have e:b=it:=by simpa using B
  subst e;exact⟨_,st,λv z=>by have z':Data.fields _=Data.cell v:=z;cases z'⟩
 keep:=λi h h' st k=>k it (by simp) _ st
 item:=by intro X hP hw Y hc i pa s σ H E I L st hg;subst hP hw Y;obtain⟨f0,f1,f2,f3,f4,U⟩:=L it (by simp);have W:=Walks.range (prog:=X.prog) (w:=X.w) (I.ok.hd hc) it lo 1 n;refine W.item i s _ _ hg st λv h' tk hv J kk=>?_;obtain⟨t,rfl⟩:=hv;have I1:Inv X pa σ H {s with heap:=h',toks:=tk}:=I.turned (λb o B e=>kk b o (by simpa using B) e) f0 f1 f3 f4 U;refine⟨_,rfl,Xjv (s:={s with heap:=h',toks:=tk}) (n:="range_iterator") J rfl rfl (by decide) ⟨.int (lo+i),H,I1,⟨t,?_⟩,⟨rfl,rfl⟩,J,λb B=>(L b B).1⟩⟩;rw[Int.mul_one]
 done:=by intro X hP hw Y hc i pa s σ H E I L st hg;subst hP hw Y;obtain⟨f0,f1,f2,f3,f4,U⟩:=L it (by simp);exact wpAny_pyNext_range_end (I.ok.hd hc) st (by have:n<=i:=hg;omega) λh' eb=>⟨rfl,I.turned (t':=s.toks) (λb o B e=>eb b o B e) f0 f1 f3 f4 U⟩
 self:=λ_ _ _ _ _ st h=>wpAny_pyIter_rangeiter st h
end L2
namespace L2
open PySem PySem.Spec PyProof.Rows
section
variable{X:Cx}{tg:Expr}
theorem Xs4{pa:LA}{σ:St}{H:Hp}{s:Vc}{R:It->Hp->Prop}{E:VP}{lo hi:Int}{t u v:Tok}{tk:Nat}(I:Inv X pa σ H s)(h1:-(2^62)<=lo)(h2:lo<2^62)(Y:-(2^62)<=hi)(U:hi<2^62)
  (q:R (Itr lo (hi-lo).toNat) H):Vf (Vj X.prog X.w) X.A (Vd8 (.ref s.heap.objs.size)) (PIE X pa σ tg R) E {s with heap:=s.heap.push {cls:=.type "range",data:=.fields #[.int lo t,.int hi u,.int 1 v]},toks:=tk}:=by
 refine wpAny_pyIter_range (IsRange.new ..) (small_one h1 h2 Y U) ?_;have B:Inv X pa σ H {s with heap:=s.heap.push {cls:=.type "range",data:=.fields #[.int lo t,.int hi u,.int 1 v]},toks:=tk}:=I.kept λb o e=>Vg _ e
 refine⟨(s.heap.push {cls:=.type "range",data:=.fields #[.int lo t,.int hi u,.int 1 v]}).objs.size,[(s.heap.push {cls:=.type "range",data:=.fields #[.int lo t,.int hi u,.int 1 v]}).objs.size],_,_,H,rfl,
  B.kept (t':=tk) λb o e=>Vg _ e,Xos _ lo (hi-lo).toNat,?_,λb hb=>?_,q⟩
 ·have L:lo+((0:Nat):Int)*1=lo:=by simp
  have J:(((hi-lo).toNat:Nat):Int)-((0:Nat):Int)=Vdn lo hi 1:=by rw[rangeSize_one];split<;>omega
  show IsRangeIter _ _ (lo+((0:Nat):Int)*1) ((((hi-lo).toNat:Nat):Int)-((0:Nat):Int)) 1;rw[L,J];exact Vq _ rfl
 ·have e:b=(s.heap.push {cls:=.type "range",data:=.fields #[.int lo t,.int hi u,.int 1 v]}).objs.size:=by simpa using hb
  subst e;exact B.fpOk (Vl _) (B.hok.fresh (Vl _))
noncomputable def Xbd(fp:LR)(h:Heap):LA:=fp.filterMap λb=>(h.get? b).map λo=>(b,o)
theorem Xb7{fp:LR}{h:Heap}{b:Addr}{o:Obj}(B:b∈fp)(e:h.get? b=yz o):(b,o)∈Xbd fp h:=Vcx.mpr ⟨b,B,by rw[e];rfl⟩
theorem Xqi{fp:LR}{h:Heap}{p:Addr×Obj}(hp:p∈Xbd fp h):p.1∈fp/\h.get? p.1=yz p.2:=by
 obtain⟨b,J,e⟩:=Vcx.mp hp;cases q:h.get? b with
 |none=>rw[q]at e;cases e|some o=>rw[q]at e;have B:(b,o)=p:=Uc e;subst B;exact⟨J,q⟩
theorem Inv.pinned{pa:LA}{σ:St}{H:Hp}{s:Vc}{fp:LR}(I:Inv X pa σ H s)(L:∀b∈fp,Xab X pa H b)(Y:∀b∈fp,∃o,s.heap.get? b=yz o/\∀v,o.data≠.cell v):Inv X (pa++Xbd fp s.heap) σ H s:=
 I.pins_of λp U=>(Vao.mp U).elim (λz=>I.pin p (U1 _ z)) λz=>by obtain⟨J,e⟩:=Xqi z;obtain⟨f0,f1,f2,_⟩:=L p.1 J;obtain⟨o,B,d⟩:=Y p.1 J;rw[e]at B;cases B;exact⟨e,f0,f1,f2,d⟩
theorem Inv.unpinned{pa pl:LA}{σ:St}{H:Hp}{s:Vc}(I:Inv X (pa++pl) σ H s):Inv X pa σ H s:=I.pins_of λp B=>I.pin p (U1 _ (Vdc _ B))
end
end L2
namespace L2
open PySem PySem.Spec PyProof.Rows
abbrev R2:=V->V->Hp->VK->Prop
def OpR(X:Cx)(f:Vb->Vb->Sem Vb)(r:R2):Prop:=
 ∀(pa:LA) (s:Vc) (σ:St) (H:Hp) (x y:V) (v u:Vb) (Q:VK),Inv X pa σ H s->RelV x v->RelV y u->r x y H Q ->
  Vf (Vj X.prog X.w) X.A (f v u) (EP X pa σ Q) X.xe s
def Xeu(X:Cx)(f:Vb)(r:LW->Hp->VK->Prop):Prop:=
 ∀(pa:LA) (s:Vc) (σ:St) (H:Hp) (xs:LW) (us:LV) (Q:VK),Inv X pa σ H s->Vals xs us->r xs H Q ->
  Vf (Vj X.prog X.w) X.A (call f us) (EP X pa σ Q) X.xe s
def X6y(X:Cx)(r:V->Hp->(Bool->Hp->Prop)->Prop):Prop:=
 ∀(pa:LA) (s:Vc) (σ:St) (H:Hp) (x:V) (v:Vb) (Q:Bool->Hp->Prop),Inv X pa σ H s->RelV x v->r x H Q ->
  Vf (Vj X.prog X.w) X.A (truthy v) (TP X pa σ Q) X.xe s
section
variable{X:Cx}{a b:Expr}
def CMul(i j:Int):Prop:=(-(2^64)<i/\i<2^64)\/(-(2^64)<j/\j<2^64)
theorem CMul.ok{i j:Int}(h:CMul i j):IntMulOk i j:=by
 rcases h with⟨h1,h2⟩|⟨h1,h2⟩;·exact .of_left (intBits_le_64 h1 h2)
 ·exact .of_right (intBits_le_64 h1 h2)
noncomputable def X4w:HO->Bool
 |.lst _=>yx|.ins _ _ _=>yx|_=>yw
theorem Xbw{pa:LA}{s:Vc}{σ:St}{H:Hp}{a:Addr}{o:HO}(I:Inv X pa σ H s)(h:H a=yz o)(p:X4w o=yx):∃ob,s.heap.get? a=yz ob/\ob.cls≠.type "tuple":=by
 cases o with
 |lst xs=>obtain⟨_,its,n,_,e⟩:(la xs)<=Vu/\∃(its:LV) (n:Nat),Vals xs its/\s.heap.get? a=yz {cls:=.type "list",data:=.seq its.toArray n}:=I.hok a _ h;exact⟨_,e,(by show Vbc "list" ≠ .type "tuple";decide+kernel)⟩|ins C dx fs=>have x:=I.hok a _ h;obtain⟨_,_,_,e,_⟩:=x;exact⟨_,e,(by show U8 C≠.type "tuple";exact λz=>by cases z)⟩|_=>exact aB0 (show yw=yx from p) Ui
def X0u(K:Ve)(x:V)(H:Hp)(k:Bool):Prop:=
 match x with
 |.non=>k=yw|.bl b=>k=b|.int i=>k=(i != 0)|.str y=>y.length<=Vu/\k=((y.length:Int) != 0)|.byt y=>y.size<=Vu/\k=((y.size:Int) != 0)|.ref p=>(∃xs,SqL K H p xs/\k = !xs.isEmpty)\/(∃xs,SqT K H p xs/\k = !xs.isEmpty)\/∃kvs,H p=yz (.dK kvs)/\k = !kvs.isEmpty|_=>False
theorem Xot{κ:Type}{kvs:List (κ×V)}{vs:List (κ×Vb)}(r:KV kvs vs):(!vs.isEmpty) = !kvs.isEmpty:=by cases r<;>rfl
theorem Xgm{xs:LW}{its:LV}(r:Vals xs its):(!its.toArray.isEmpty) = !xs.isEmpty:=by cases r<;>simp
theorem Xd7:(Vu:Nat)<2^63:=by rw[Vbp];decide
theorem X0v:X6y X (λx H Q=>∃k,X0u X.K x H k/\Q k H):=by
 intro pa s σ H x v Q I L h;obtain⟨k,e,q⟩:=h;have hl:=Xd7;have hs:Vu=16777216:=Vbp;cases x with
 |non=>cases L;have B:k=false:=e;subst B;exact truthy_none ⟨H,I,q⟩|bl b=>cases L;have B:k=b:=e;subst B;exact Vbv ⟨H,I,q⟩|int i=>obtain⟨t,rfl⟩:=L;have B:k=(i != 0):=e;subst B;exact PySem.P.truthy_int ⟨H,I,q⟩|str y=>obtain⟨t,rfl⟩:=L;obtain⟨hy,B⟩:y.length<=Vu/\k=((y.length:Int) != 0):=e;subst B;exact PySem.P.truthy_str (by omega) ⟨H,I.tok _,q⟩|byt y=>obtain⟨t,rfl⟩:=L;obtain⟨hy,B⟩:y.size<=Vu/\k=((y.size:Int) != 0):=e;subst B;exact PySem.W.truthy_bytes (by omega) ⟨H,I.tok _,q⟩|ref p=>
  cases L;have B:(∃xs,SqL X.K H p xs/\k = !xs.isEmpty)\/(∃xs,SqT X.K H p xs/\k = !xs.isEmpty)\/∃kvs,H p=yz (.dK kvs)/\k = !kvs.isEmpty:=e;rcases B with⟨xs,hx,B⟩|⟨xs,hx,B⟩|⟨kvs,hx,B⟩;·subst B;obtain⟨its,r,pl,Y⟩:=I.list hx;have J:=r.length;exact wpAny_truthy_list pl.isList (by simp only[Vk];omega) ⟨H,I.tok _,by rw[Xgm r];exact q⟩
  ·subst B;obtain⟨its,r,pl,Y⟩:=I.tuple hx;have J:=r.length;exact truthy_tuple pl (by simp only[Vk];omega) ⟨H,I.tok _,by rw[Xgm r];exact q⟩
  subst B;obtain⟨Y,hS,vs,r,m⟩:(la kvs)<=Vu/\(p==Vbq)=yw/\∃vs,KV kvs vs/\s.heap.DictOf (Xhf X.prog X.w) p vs:=I.hok p _ hx;have J:(la kvs)=la vs:=Paired.length r;exact wpAny_truthy_dict hS m (by omega) ⟨H,I.tok _,by rw[Xot r];exact q⟩|_=>exact(show False from e).elim
theorem Xou{x:V}{us:LV}(r:Vals [x] us):∃u,us=[u]/\RelV x u:=by
 cases r with
 |cons B J=>cases J;exact⟨_,rfl,B⟩
theorem Xv3{x y:V}{us:LV}(r:Vals [x,y] us):∃u B,us=[u,B]/\RelV x u/\RelV y B:=by
 cases r with
 |cons L Y=>
  cases Y with
  |cons U J=>cases J;exact⟨_,_,rfl,L,U⟩
theorem Xqj(J:X.calm=yx):Xeu X (.builtin "max") (λxs H Q=>∃i j,xs=[.int i,.int j]/\Q (.int (if j>i then j else i)) H):=by
 intro pa s σ H xs us Q I r h;obtain⟨i,j,rfl,q⟩:=h;obtain⟨u,U,rfl,⟨t,rfl⟩,⟨L,rfl⟩⟩:=Xv3 r;refine max_two_ints (I.ok.hd J) λh' tk k=>⟨_,H,I.kept k,?_,q⟩;by_cases B:j>i;·rw[iP0 B,iP0 B];exact⟨_,rfl⟩
 ·rw[iN0 B,iN0 B];exact⟨_,rfl⟩
theorem Xqk(J:X.calm=yx):Xeu X (.builtin "min") (λxs H Q=>∃i j,xs=[.int i,.int j]/\Q (.int (if j<i then j else i)) H):=by
 intro pa s σ H xs us Q I r h;obtain⟨i,j,rfl,q⟩:=h;obtain⟨u,U,rfl,⟨t,rfl⟩,⟨L,rfl⟩⟩:=Xv3 r;refine min_two_ints (I.ok.hd J) λh' tk k=>⟨_,H,I.kept k,?_,q⟩;by_cases B:j<i;·rw[iP0 B,iP0 B];exact⟨_,rfl⟩
 ·rw[iN0 B,iN0 B];exact⟨_,rfl⟩
end
end L2
namespace L2
open PySem PySem.Spec PyProof.Rows
end L2
namespace L2
open PySem PySem.Spec PyProof.Rows
structure Room(k:Nat)(A:Uq):Prop where
 gd:A.guards=yz []
 hd:A.handled=yy
 dp:A.depth+3*k+5<Vgk
 un:A.units+16*k+200<Vbe
abbrev Sp:=LW->Hp->VK->XK->Prop
abbrev CXT:=List Env->Hp->Vc->XK->Vb->Vc->Prop
structure Env0(P:Vy)(w:V9)(K:Ve)(mg:Str->OV)(base:Heap)(A:Uq)(outer:List Env)(s:Vc)(H:Hp):Prop where
 frames:A.frames=yz outer
 mod:Mod K mg base
 bs:∀b o,base.get? b=yz o->s.heap.get? b=yz o/\H b=yy
 bsz:base.objs.size<=s.heap.objs.size
 funs:s.heap.FunFrames base outer
 frf:∀b∈frs outer,H b=yy
 hok:HOk P w H s.heap
 bare:AllBare s.gens
def CE(outer:List Env)(P:Vy)(w:V9)(H:Hp)(s:Vc)(Q:VK)(u:Vb)(s':Vc):Prop:=
 ∃v H',s'.os=s.os/\AllBare s'.gens/\Un (frs outer) [] H H' s.heap s'.heap/\HOk P w H' s'.heap/\RelV v u/\Q v H'
def CR(CX:CXT)(outer:List Env)(P:Vy)(w:V9)(H:Hp)(s:Vc)(Q:VK)(E:XK)(r:Result)(s':Vc):Prop:=
 match r with
 |.ok (.ret u)=>CE outer P w H s Q u s'|.ok _=>False|.error e=>CX outer H s E e s'
structure FnOk(P:Vy)(w:V9)(K:Ve)(mg:Str->OV)(base:Heap)(CX:CXT)(k:Nat)(f:Addr)(fd:Vc3)(ps:LS)(sp:Sp):Prop where
 len:∀vs H Q E,sp vs H Q E->la vs=la ps
 run:∀(A:Uq) (outer:List Env) (s:Vc) (H:Hp) (args:Args) (us:LV) (vs:LW) (Q:VK) (E:XK),Room k A->Env0 P w K mg base A outer s H->BindsTo s fd args (ps.zip us)->Vals vs us->sp vs H Q E ->
  Vbz (Vj P w) A (.call (.ref f) args) (CR CX outer P w H s Q E) s
section
variable{X:Cx}{pa:LA}{σ:St}{H:Hp}{s s':Vc}
theorem Inv.env0(I:Inv X pa σ H s):Env0 X.prog X.w X.K X.mg X.base X.A X.stack s H:=
 ⟨I.ok.frames,I.ok.mod,I.bs,Ul I.ok.bsz I.sz,I.stack,I.stkFree,I.hok,I.bare⟩
theorem Inv.after{Q:VK}{u:Vb}(I:Inv X pa σ H s)(h:CE X.stack X.prog X.w H s Q u s'):EP X pa σ Q u s':=by obtain⟨v,H',os,bare,un,hok,r,q⟩:=h;obtain⟨J,g,d,t,B⟩:=s';obtain rfl:B=s.os:=os;exact⟨v,H',I.call (h':=J) (g':=g) (d':=d) (t':=t) (ch:=[]) un hok bare (λb z=>aB0 z (by simp)),r,q⟩
end
def Binds(K:Ve)(fd:Vc3)(ps:LS)(ds:LV):Prop:=
 ∀(s:Vc) (us:LV),K.In s.heap->(us++ds).length=la ps->BindsTo s fd ⟨us,[]⟩ (ps.zip (us++ds))
theorem Binds.all{K:Ve}{fd:Vc3}{ps:LS}(h:∀us:LV,la us=la ps->Vey fd ⟨us,[]⟩=pure (ps.zip us)):Binds K fd ps []:=λs us _ B=>by rw[Ud]at B ⊢;exact .of_eq (h us B)
structure FnScope(N P:LS)(sc:Ue):Prop where
 kind:sc.kind=.function
 co:sc.isCoroutine=yw
 gen:sc.isGenerator=yw
 nd:N.Nodup
 pre:N.take P.length=P
 par:∀x∈P,sc.names.lookup x=yz .local\/sc.names.lookup x=yz .cell
 nofree:∀y∈sc.names,y.2≠.free
theorem Xiv{Vd9:Str->Option Vd2}{x:Str}:∀ {binds:List (Str×Vb)} {m:Str->OV},(∀v,(x,v) ∉ binds)->bindL Vd9 binds m x=m x
 |[],_,_=>rfl| (n,v)::r,m,h=>by
  unfold bindL;rw[Xiv λw B=>h w (Ua _ B)];split
  ·have:x≠n:=by rintro rfl;exact h v U9
   simp[this]
  rfl
theorem Xiw{Vd9:Str->Option Vd2}{x:Str}:∀ {binds:List (Str×Vb)} {m:Str->OV},(∀v,(x,v) ∉ binds)->bindC Vd9 binds m x=m x
 |[],_,_=>rfl| (n,v)::r,m,h=>by
  unfold bindC;rw[Xiw λw B=>h w (Ua _ B)];split;·rfl
  ·have:x≠n:=by rintro rfl;exact h v U9
   simp[this]
theorem Xix{Vd9:Str->Option Vd2}{x:Str}{v:Vb}:∀ {P:LS} {vs:LV} {i:Nat} {m:Str->OV},P.Nodup->P[i]?=yz x->vs[i]?=yz v->Vd9 x=yz .local ->
  bindL Vd9 (P.zip vs) m x=yz v
 |[],_,_,_,_,h,_,_=>by simp at h|_::_,[],_,_,_,_,h,_=>by simp at h|p::P,w::vs,0,m,nd,h1,h2,hk=>by simp at h1 h2;subst h1;subst h2;show bindL Vd9 ((p,w)::P.zip vs) m p=_;unfold bindL;rw[Xiv λv hv=>(Vet.mp nd).1 (List.of_mem_zip hv).1,iP0 hk];simp|p::P,w::vs,i+1,m,nd,h1,h2,hk=>by show bindL Vd9 ((p,w)::P.zip vs) m x=_;unfold bindL;exact Xix (i:=i) (Vet.mp nd).2 (by simpa using h1) (by simpa using h2) hk
theorem Xiy{Vd9:Str->Option Vd2}{x:Str}{v:Vb}:∀ {P:LS} {vs:LV} {i:Nat} {m:Str->OV},P.Nodup->P[i]?=yz x->vs[i]?=yz v->Vd9 x≠yz .local ->
  bindC Vd9 (P.zip vs) m x=yz v
 |[],_,_,_,_,h,_,_=>by simp at h|_::_,[],_,_,_,_,h,_=>by simp at h|p::P,w::vs,0,m,nd,h1,h2,hk=>by simp at h1 h2;subst h1;subst h2;show bindC Vd9 ((p,w)::P.zip vs) m p=_;unfold bindC;rw[Xiw λv hv=>(Vet.mp nd).1 (List.of_mem_zip hv).1,iN0 hk];simp|p::P,w::vs,i+1,m,nd,h1,h2,hk=>by show bindC Vd9 ((p,w)::P.zip vs) m x=_;unfold bindC;exact Xiy (i:=i) (Vet.mp nd).2 (by simpa using h1) (by simpa using h2) hk
noncomputable def start(N:LS)(vs:LW):St:=vs.map yz++Vi (N.length-la vs) yy
noncomputable def Xov(CX:CXT)(P:Vy)(w:V9)(K:Ve)(mg:Str->OV)(base:Heap)(N:LS)(qual:Str)(scope:Ue)(f:Addr)(cd:Vb)(A:Uq)(outer:List Env)(s:Vc)(H:Hp)(E:XK):Cx where
 prog:=P
 w:=w
 K:=K
 mg:=mg
 base:=base
 A:=A.deeper (envOfC qual scope s.heap.objs.size f cd)
 N:=N
 s₀:=s
 H₀:=H
 env:=envOfC qual scope s.heap.objs.size f cd
 outer:=outer
 stack:=envOfC qual scope s.heap.objs.size f cd::outer
 ex:=[]
 calm:=yx
 fn:=λ_=>yx
 pn:=[]
 xe:=λe s'=>Vf (Vj P w) (A.deeper (envOfC qual scope s.heap.objs.size f cd)) (leaving (envOfC qual scope s.heap.objs.size f cd) e) (λ_ B=>CX outer H s E e B) (λJ B=>CX outer H s E J B) s'
theorem Xkd{sc:Ue}{n:Nat}{x:Str}(h:sc.names.lookup x=yz .cell):∃c,(Va9 n sc.names []).lookup x=yz c:=by have q:=Vd3 sc.names n [] (.inl h);exact Vcf.mp q
theorem Xiz{CX:CXT}{P:Vy}{w:V9}{K:Ve}{mg:Str->OV}{base:Heap}{N ps:LS}{qual:Str}{scope:Ue}{f:Addr}{cd:Vb}{A:Uq}{outer:List Env}{s Y:Vc}{H:Hp}{E:XK}{us:LV}{vs:LW}
  (S:FnScope N ps scope) (hd:A.handled=yy) (e0:Env0 P w K mg base A outer s H) (hl:(la vs)=la ps) (r:Vals vs us)
  (x:InCallC s s.heap.objs.size (bindL (envOfC qual scope s.heap.objs.size f cd).kindOf (ps.zip us) λ_=>yy) (Va9 (s.heap.objs.size+1) scope.names []) (bindC (envOfC qual scope s.heap.objs.size f cd).kindOf (ps.zip us) λ_=>yy) Y):
  Inv (Xov CX P w K mg base N qual scope f cd A outer s H E) [] (start N vs) H Y:=by
 have aa:(la ps)<=N.length:=by have:=congrArg V8 S.pre;rw[Vag]at this;omega
 obtain⟨h1,tk,rfl,hk⟩:=x.done;have J:∀b:Addr,b ∉ (Xov CX P w K mg base N qual scope f cd A outer s H E).ex:=λb z=>aB0 (show b∈([]:LR) from z) (by simp)
 refine⟨⟨e0.mod,S.kind,rfl,rfl,Vl _,λy z c h1 h2=>?_,λy B=>?_,λy c _ h=>?_,λ_=>hd,Around.frames_deeper e0.frames,.inr ⟨rfl,rfl⟩,λb z=>aB0 z (J b),e0.bs,e0.bsz,λb _ _=>J b,λb z=>aB0 z (J b),e0.funs,e0.frf⟩,
  rfl,e0.bare,Un.kept hk,⟨_,x.toInCall.ns,λi y v h1 h2 h3=>?_⟩,λy c h=>⟨_,x.cell y c h⟩,e0.hok.fresh (Vl _),λy c h=>?_,λp L=>aB0 (show p∈([]:LA) from L) (by simp),e0.hok.kept hk,?_⟩
 ·exact name_of_addr x.apart (Vb0 h1) (Vb0 h2)
 ·have B:scope.names.lookup y=yz .cell\/scope.names.lookup y=yz .free:=B;rcases B with B|B;·exact Xkd B
  ·exact aB0 rfl (S.nofree _ (Vb0 B))
 ·exact Vcv (x.above y c (Vb0 h))
 ·have hi:i<la vs:=by
   unfold start at h2;by_cases hi:i<la vs;·exact hi
   ·rw[Val (by simpa using hi)]at h2;rw[Vcn]at h2;split at h2<;>cases h2
  have ha:vs[i]?=yz v:=by
   unfold start at h2;rw[Vs (by simpa using hi),Vx]at h2;cases e:vs[i]? with
   |none=>rw[e]at h2;cases h2|some a=>rw[e]at h2;cases h2;rfl
  obtain⟨u,hu,rv⟩:=r.get ha;have L:ps[i]?=yz y:=by rw[<-S.pre,List.getElem?_take_of_lt (by omega)];exact h1
  have U:ps.Nodup:=by rw[<-S.pre];exact S.nd.sublist (List.take_sublist _ _)
  refine⟨u,rv,?_⟩;rcases S.par y (V6 L) with k|k;·exact .inl ⟨k,Xix U L hu k⟩
  ·obtain⟨c,e⟩:=Xkd (n:=s.heap.objs.size+1) k;refine .inr ⟨.inl k,c,e,?_⟩;have q:=x.cell y c e;rw[Xiy U L hu (by show scope.names.lookup y≠_;rw[k];decide)]at q;exact q
 ·exact e0.hok.fresh (Vcv (x.above y c (Vb0 h)))
 ·unfold start;show _=N.length;rw[Ur,Vn,List.length_replicate];omega
end L2
namespace L2
open PySem PySem.Spec PyProof.Rows
end L2
namespace HT
open PySem PyProof.Rows
section
variable{prog:Vy}{w:V9}{A:Uq}{E:VP}{s:Vc}
theorem cat_tup{t b:Addr}{vs B:LV}{Q:VP}(ht:Vc0 s.heap t vs.toArray)(hb:Vc0 s.heap b B.toArray)(hv:vs≠[])
  (h1:B=[]->Q (.ref t) s) (h2:B≠[]->Q (.ref s.heap.objs.size) {s with heap:=s.heap.push {cls:=.type "tuple",data:=.seq (vs++B).toArray} })
  (hsz:(la vs)+la B<=Vu):Vf (Vj prog w) A (Vcr .Add (.ref t) (.ref b)) Q E s:=by
 obtain⟨⟨cls,dd,data,sl⟩,ho,hc,n,hd⟩:=id ht;obtain⟨⟨ab,L,data2,U⟩,J,Y,n2,aa⟩:=id hb;simp only at hc hd Y aa;subst hc hd Y aa;have e:vs.toArray++B.toArray=(vs++B).toArray:=by simp
 by_cases hw:B=[]
 ·exact concat_meets ⟨_,ho,rfl⟩ ⟨_,J,rfl⟩ noFill_tuple_add seq_tuple_add Vfl Vfg (Vez _ _)
   (tuple_addW1 t b vs.toArray B.toArray n n2 dd L sl U (by simpa using hv) (by simp[hw])) ⟨ho,J,h1 hw⟩
 ·refine concat_meets ⟨_,ho,rfl⟩ ⟨_,J,rfl⟩ noFill_tuple_add seq_tuple_add Vfl Vfg (Vez _ _)
   (tuple_addW2 t b vs.toArray B.toArray n n2 dd L sl U (by simpa using hv) (by simpa using hw) (by rw[Vk,Vk];exact hsz)) ⟨ho,J,?_⟩
  rw[e];exact h2 hw
noncomputable def sIx(n d:Nat):Option Int->Nat
 |none=>d|some v=>if v<0 then (v+(n:Int)).toNat else min v.toNat n
theorem X0w(n d:Nat)(hd:d<=n)(o:Option Int):sIx n d o<=n:=by
 cases o with
 |none=>exact hd|some v=>
  show(if v<0 then (v+(n:Int)).toNat else min v.toNat n)<=n;by_cases hv:v<0;·rw[iP0 hv];omega
  ·rw[iN0 hv];exact Nat.min_le_right _ _
theorem Xm0(v:Int)(n d:Nat):(if v<0 then max (v+(n:Int)) 0 else min v (n:Int))=((sIx n d (yz v):Nat):Int):=by
 show(if v<0 then max (v+(n:Int)) 0 else min v (n:Int))=(((if v<0 then (v+(n:Int)).toNat else min v.toNat n):Nat):Int);by_cases hv:v<0;·simp only[iP0 hv];omega
 ·simp only[iN0 hv];omega
theorem Xow(lo hi:Option Int)(n:Nat):Veu lo hi 1 (n:Int)=(((sIx n 0 lo:Nat):Int),((sIx n n hi:Nat):Int)):=by
 have h1:¬ ((1:Int)<0):=by omega
 unfold Veu;simp only[h1,if_false];refine Prod.ext ?_ ?_
 ·cases lo with
  |none=>rfl|some v=>exact Xm0 v n 0
 cases hi with
 |none=>rfl|some v=>exact Xm0 v n n
theorem Xox(i j:Nat):Vdd (i:Int) (j:Int) 1=j-i:=by
 unfold Vdd;have h1:(1:Int)>0:=by omega
 simp only[h1,if_true,Int.ediv_one];split<;>omega
theorem slicePart_{v:Vb}{o:Option Int}{Q:Option Int->Vc->Prop}(p:Vea v o)(h:Q o s):Vf (Vj prog w) A (Builtin.Slice.slicePartIndex v) Q E s:=by
 cases p with
 |none=>exact slicePart_none h|int i t=>exact slicePart_int h
theorem sliceApplied_gen{sl:Addr}{L U:Vb}{lo hi:Option Int}{n:Nat}{Q:Int×Int×Nat->Vc->Prop}(hs:s.heap.IsSliceOf sl L U .none)(pl:Vea L lo)(Y:Vea U hi)
  (h:Q (((sIx n 0 lo:Nat):Int),1,sIx n n hi-sIx n 0 lo) s):Vf (Vj prog w) A (Vc4 (.ref sl) (pure (n:Int))) Q E s:=by
 obtain⟨os,J,aa,B⟩:=id hs;unfold Vc4 Vg6;refine Va (Va (Vac J B (x:=L) rfl (Va (Vac J B (x:=U) rfl (Va (Vac J B (x:=.none) rfl (Vd ?_)))))));refine Va (slicePart_none ?_);show Vf _ _ (if ((1:Int)==0)=yx then _ else _) _ _ s;rw[iN0 (by decide)];refine Va (slicePart_ pl (Va (slicePart_ Y (Va (Vd ?_)))));show Vf _ _ (match Veu lo hi 1 (n:Int) with|(lo,hi)=>pure (lo,(1:Int),Vdd lo hi 1)) _ _ s;rw[Xow lo hi n];show Vf _ _ (pure (((sIx n 0 lo:Nat):Int),(1:Int),Vdd ((sIx n 0 lo:Nat):Int) ((sIx n n hi:Nat):Int) 1)) _ _ s;rw[Xox];exact Vd h
theorem Xs5(xs:AV)(i k:Nat):((Vm k).filterMap λ(m:Nat)=>xs[((i:Int)+(m:Int)*1).toNat]?).toArray=((xs.toList.drop i).take k).toArray:=by
 have e:(λ(m:Nat)=>xs[((i:Int)+(m:Int)*1).toNat]?)=λm=>xs[i+m]?:=by
  funext m;have:((i:Int)+(m:Int)*1).toNat=i+m:=by omega
  rw[this]
 rw[e];have:=pick_run xs i k;rw[List.filterMap_map]at this;have B:((λx=>xs[x]?)∘λx=>i+x)=λm=>xs[i+m]?:=rfl;rw[B]at this;rw[this]
theorem getItem_tuple_cut{t sl:Addr}{items:AV}{vl vu:Vb}{lo hi:Option Int}{Q:VP}(J:Vc0 s.heap t items)(hs:s.heap.IsSliceOf sl vl vu .none)(pl:Vea vl lo)(pu:Vea vu hi)
  (hw:¬ (sIx items.size 0 lo=0/\sIx items.size items.size hi=items.size))
  (h:Q (.ref s.heap.objs.size) {s with heap:=s.heap.push {cls:=.type "tuple",data:=.seq ((items.toList.drop (sIx items.size 0 lo)).take (sIx items.size items.size hi-sIx items.size 0 lo)).toArray} })
  (hsz:items.size<=Vu):Vf (Vj prog w) A (getItem (.ref t) (.ref sl)) Q E s:=by
 have B:sizeOk (.seq ((items.toList.drop (sIx items.size 0 lo)).take (sIx items.size items.size hi-sIx items.size 0 lo)).toArray):=by show((items.toList.drop (sIx items.size 0 lo)).take (sIx items.size items.size hi-sIx items.size 0 lo)).toArray.size<=Vu;rw[Vk,Vag,Vei,Uy];omega
 have hj:sIx items.size items.size hi<=items.size:=X0w _ _ (Vl _) hi;obtain⟨os,Y,U,aa⟩:=id hs;have L:s.TypeIs (.ref sl) "slice" := ⟨os,Y,U⟩;unfold getItem
 try with_reducible refine Uw ?_
 first|refine Va (Vd ?_)|skip
 refine Va (Vg0 J.typeIs (by decide) ?_)
 refine Va (Vba (name:=U5 "__getitem__") J.typeIs Vav
  (Vaq Vav J.typeIs Vgg ?_ (Vgp _ _)))
 show Vf _ _ (Vem (.ref t) >>= _) _ _ s;refine Va (tupleItemsOf_ J ?_);refine Va (Vbm L ?_);rw[iP0 (by decide)];refine Va (sliceApplied_gen hs pl pu ?_);have hno:¬ ((((sIx items.size 0 lo:Nat):Int)==0&&(1:Int)==1&&(sIx items.size items.size hi-sIx items.size 0 lo)==items.size)=yx):=by intro q;rw[bA0,bA0]at q;have q1:((sIx items.size 0 lo:Nat):Int)=0:=eq_of_beq q.1.1;have q2:sIx items.size items.size hi-sIx items.size 0 lo=items.size:=eq_of_beq q.2;exact hw ⟨by omega,by omega⟩
 show Vf _ _ (if (((sIx items.size 0 lo:Nat):Int)==0&&(1:Int)==1&&(sIx items.size items.size hi-sIx items.size 0 lo)==items.size)=yx then _ else _) _ _ s;rw[iN0 hno,Xs5]
 first
  |exact Va (m:=Vbn _) (Va2 (Vd ⟨_,rfl,Vd h⟩) B)|exact Va (m:=Vbn _) (Va2 (Va (Vd (Vd ⟨_,rfl,Vd h⟩))) B)|exact Va (Va (m:=Vbn _) (Va2 (Vd (Vd ⟨_,rfl,Vd h⟩)) B))|exact Va (Va (m:=Vbn _) (Va2 (Vd ⟨_,rfl,Vd h⟩) B))
end
end HT
namespace L2
open PySem PySem.Spec PyProof.Rows
section
variable{lo hi:Option Expr}
noncomputable def Xhg(xs:LW)(lo hi:Option Int):LW:=(xs.drop (HT.sIx (la xs) 0 lo)).take (HT.sIx (la xs) (la xs) hi-HT.sIx (la xs) 0 lo)
theorem Xfl(xs:LW)(lo hi:Option Int):(Xhg xs lo hi).length<=la xs:=by unfold Xhg;rw[Vag,Vei];omega
end
end L2
namespace L2
open PySem PySem.Spec PyProof.Rows
noncomputable def ixN(n:Nat)(i:Int):Option Nat:=if 0<=i then (if i<n then yz i.toNat else yy) else if-(n:Int)<=i then yz (i+n).toNat else yy
noncomputable def atI{α:Type}(xs:List α)(i:Int):Option α:=(ixN (la xs) i).bind λj=>xs[j]?
theorem Xm1{n:Nat}{i:Int}{j:Nat}(h:ixN n i=yz j):seqIndex? i n=yz j/\j<n/\-(n:Int)<=i/\i<n:=by
 unfold ixN at h;by_cases h0:0<=i
 ·rw[iP0 h0]at h;by_cases h1:i<n;·rw[iP0 h1]at h;have e:i.toNat=j:=Uc h;exact⟨by rw[seqIndex_of h0 h1,e],by omega,by omega,h1⟩
  ·rw[iN0 h1]at h;cases h
 rw[iN0 h0]at h;by_cases h1:-(n:Int)<=i;·rw[iP0 h1]at h;have e:(i+n).toNat=j:=Uc h;exact⟨by rw[seqIndex_neg (by omega) h1,e],by omega,h1,by omega⟩
 ·rw[iN0 h1]at h;cases h
theorem Xm2{α:Type}{xs:List α}{i:Int}{v:α}(h:atI xs i=yz v):∃j,seqIndex? i (la xs)=yz j/\xs[j]?=yz v/\j<la xs/\-(la xs:Int)<=i/\i<la xs:=by
 unfold atI at h;cases e:ixN (la xs) i with
 |none=>rw[e]at h;cases h|some j=>rw[e]at h;obtain⟨h1,h2,J,B⟩:=Xm1 e;exact⟨j,h1,h,h2,J,B⟩
def Xhh(b:Expr):Prop:=∀o i,subscripted b yw o i=operate [o,i] (getItem o i)
def IxR(X:Cx)(r:R2):Prop:=
 ∀(value B:Expr) (pa:LA) (s:Vc) (σ:St) (H:Hp) (x y:V) (v u:Vb) (Q:VK),Inv X pa σ H s->RelV x v->RelV y u->r x y H Q ->
  subscripted B yw v u=operate [v,u] (getItem v u)->Vf (Vj X.prog X.w) X.A (Ven value B v u) (EP X pa σ Q) X.xe s
section
variable{X:Cx}{a b:Expr}
noncomputable def X6z(K:Ve):R2:=λx y H Q=>∃p xs i v,x=.ref p/\y=.int i/\SqL K H p xs/\atI xs i=yz v/\Q v H
noncomputable def X60(K:Ve):R2:=λx y H Q=>∃p xs i v,x=.ref p/\y=.int i/\SqT K H p xs/\atI xs i=yz v/\Q v H
theorem Xw3:IxR X (X6z X.K):=by
 intro value U pa s σ H x y v u Q I rx ry h hs;obtain⟨p,xs,i,z,rfl,rfl,hq,he,q⟩:=h;cases rx;obtain⟨t,rfl⟩:=ry;obtain⟨its,r,pl,hz⟩:=I.list hq;obtain⟨j,h1,h2,h3,h4,h5⟩:=Xm2 he;obtain⟨w,Y,J⟩:=r.get h2;have hl:=r.length;have hn:=Xd7;have B:EP X pa σ Q w s:=⟨z,H,I,J,q⟩;by_cases h0:0<=i
 ·have L:i.toNat=j:=by
   rw[seqIndex_of h0 h5]at h1;exact Uc h1
  exact item_listR pl.isList h0 (by omega) (by rw[L];simpa using Y) B hs
 have L:(i+(its.toArray.size:Int)).toNat=j:=by rw[seqIndex_neg (by omega) h4]at h1;rw[Vk,<-hl];exact Uc h1
 exact subscriptTail_builtinR (x:=w) pl.isList.typeIs slot_list_getitem.lookup
  (wpAny_getItem_list_neg (Q:=λr s'=>r=w/\EP X pa σ Q r s') pl.isList (by omega) (by rw[Vk]<;>omega) (by omega) (by rw[L];simpa using Y) ⟨rfl,B⟩) hs
theorem X0x:IxR X (X60 X.K):=by
 intro value L pa s σ H x y v u Q I U ry h hs;obtain⟨p,xs,i,z,rfl,rfl,Y,he,q⟩:=h;cases U;obtain⟨t,rfl⟩:=ry;obtain⟨its,r,pl,hz⟩:=I.tuple Y;obtain⟨j,h1,h2,h3,h4,h5⟩:=Xm2 he;obtain⟨w,ew,B⟩:=r.get h2;have hl:=r.length;have hn:=Xd7;have J:EP X pa σ Q w s:=⟨z,H,I,B,q⟩;exact subscriptTail_builtinR (x:=w) pl.typeIs slot_tuple_getitem.lookup
  (getItem_tuple (j:=j) (Q:=λr s'=>r=w/\EP X pa σ Q r s') pl (by omega) (by omega) (by rw[Vk,<-hl];exact h1) (by simpa using ew) ⟨rfl,J⟩) hs
theorem Xoy(its:LV)(n j:Nat)(u:Vb):Vw (·.setIfInBounds j u) {cls:=.type "list",data:=.seq its.toArray n}={cls:=.type "list",data:=.seq (its.set j u).toArray n}:=by simp[Vw]
theorem Inv.lst{pa:LA}{σ:St}{H:Hp}{s:Vc}{p:Addr}{xs:LW}(I:Inv X pa σ H s)(h:H p=yz (.lst xs)):
  ∃(its:LV) (n:Nat),Vals xs its/\s.heap.get? p=yz {cls:=.type "list",data:=.seq its.toArray n}/\(la xs)<=Vu:=by
 obtain⟨z,its,n,r,e⟩:=I.hok p _ h;exact⟨its,n,r,e,z⟩
theorem Inv.lstUpd{pa:LA}{σ:St}{H:Hp}{s:Vc}{p:Addr}{xs ys:LW}{its its':LV}{n B:Nat}{f:Obj->Obj}(I:Inv X pa σ H s)(h:H p=yz (.lst xs))
  (U:s.heap.get? p=yz {cls:=.type "list",data:=.seq its.toArray n}) (J:f {cls:=.type "list",data:=.seq its.toArray n}={cls:=.type "list",data:=.seq its'.toArray B }) (r:Vals ys its') (hz:(la ys)<=Vu) (t:Nat):
  Inv X pa σ (upd H p (.lst ys)) {s with heap:=s.heap.update p f,toks:=t}:=by
 have e:(s.heap.update p f).get? p=yz {cls:=.type "list",data:=.seq its'.toArray B }:=by rw[Va5 f U (by rw[J]<;>rfl),J]
 refine I.write (x:=p) (e:=p) (by rw[h];trivial) (.inl rfl) (λb u L q=>(Vb3 _ _ (Ne.symm L)).trans q) ⟨_,e⟩ ?_;exact⟨hz,its',B,r,e⟩
def X4x:V->V->V->Hp->(Hp->Prop)->Prop:=λo i v H Q=>∃p xs k j,o=.ref p/\i=.int k/\H p=yz (.lst xs)/\ixN (la xs) k=yz j/\Q (upd H p (.lst (xs.set j v)))
theorem Xs6:X6w X X4x:=by
 intro pa s σ H o i v ov iv u Q I ro ri rv h;obtain⟨p,xs,k,j,rfl,rfl,Y,hj,q⟩:=h;cases ro;obtain⟨t,rfl⟩:=ri;obtain⟨its,n,r,J,hz⟩:=I.lst Y;obtain⟨h1,h2,h3,h4⟩:=Xm1 hj;have L:=r.length;have hn:=Xd7;have U:Inv X pa σ (upd H p (.lst (xs.set j v))) {s with heap:=s.heap.update p (Vw (·.setIfInBounds j u))}:=
  I.lstUpd Y J (Xoy its n j u) (r.set rv j) (by rw[List.length_set];exact hz) s.toks
 by_cases h0:0<=k
 ·have B:k.toNat=j:=by
   rw[seqIndex_of h0 h4]at h1;exact Uc h1
  exact PySem.W.ki_setAt J h0 (by omega) (by rw[Vk,<-L];exact h4) (by rw[B];exact⟨_,U,q⟩)
 have B:(k+(its.toArray.size:Int)).toNat=j:=by rw[seqIndex_neg (by omega) h3]at h1;rw[Vk,<-L];exact Uc h1
 exact PySem.W.ki_setBack J (by omega) (by rw[Vk,<-L];exact h3) (by omega) (by rw[B];exact⟨_,U,q⟩)
theorem Xv4(i:Int)(n d:Nat):max 0 (min (if i<0 then i+(n:Int) else i) n)=((HT.sIx n d (yz i):Nat):Int):=by
 show _=(((if i<0 then (i+(n:Int)).toNat else min i.toNat n):Nat):Int);by_cases h:i<0;·rw[iP0 h,iP0 h,Int.min_eq_left (by omega),Int.max_comm,<-Int.toNat_eq_max]
 ·rw[iN0 h,iN0 h];omega
theorem Xke(lo hi:Option Int)(n:Nat):(sliceBounds lo hi yy n).1=((HT.sIx n 0 lo:Nat):Int)/\(sliceBounds lo hi yy n).2.1=((HT.sIx n n hi:Nat):Int)/\(sliceBounds lo hi yy n).2.2=1:=by
 refine⟨?_,?_,rfl⟩
 ·cases lo with
  |none=>simp[sliceBounds,HT.sIx]|some i=>exact Xv4 i n _
 cases hi with
 |none=>simp[sliceBounds,HT.sIx]|some i=>exact Xv4 i n _
theorem Xjn(its:LV)(lo hi:Option Int):slicePick its.toArray lo hi yy=((its.drop (HT.sIx (la its) 0 lo)).take (HT.sIx (la its) (la its) hi-HT.sIx (la its) 0 lo)).toArray:=by obtain⟨h1,h2,B⟩:=Xke lo hi its.toArray.size;unfold slicePick;rw[h1,h2,B];simp only[sliceRange_one,pick_run,Vk]<;>rfl
theorem Xkf:Xeu X (.builtin "len") (λxs H Q=>∃p ys,xs=[.ref p]/\(SqL X.K H p ys\/SqT X.K H p ys)/\Q (.int (la ys)) H):=by
 intro pa s σ H xs us Q I r h;obtain⟨p,ys,rfl,J,q⟩:=h;obtain⟨u,rfl,U⟩:=Xou r;cases U;have hn:=Xd7;rcases J with J|J;·obtain⟨its,L,pl,Y⟩:=I.list J;have B:=L.length;exact Calls.call_len_list pl.isList (by simp only[Vk]<;>omega) ⟨.int (la ys),H,I.tok _,⟨s.toks+1,by rw[Vk,B]⟩,q⟩
 ·obtain⟨its,L,pl,Y⟩:=I.tuple J;have B:=L.length;exact len_tuple pl (by simp only[Vk]<;>omega) ⟨.int (la ys),H,I.tok _,⟨s.toks+1,by rw[Vk,B]⟩,q⟩
theorem Xkg:Xeu X (.type "list") (λxs H Q=>∃p ys,xs=[.ref p]/\(SqL X.K H p ys\/SqT X.K H p ys)/\∀l,H l=yy->Q (.ref l) (upd H l (.lst ys))):=by
 intro pa s σ H xs us Q I r h;obtain⟨p,ys,rfl,L,q⟩:=h;obtain⟨u,rfl,rx⟩:=Xou r;cases rx;have U:∀(its:LV),Vals ys its->la ys<=Vu->∀(h':Heap) (J:Nat),(∀b o',s.heap.get? b=yz o'->h'.get? b=yz o') ->
   h'.get? s.heap.objs.size=yz {cls:=.type "list",dict:=yy,data:=.seq its.toArray J,slots:=#[]}->EP X pa σ Q (.ref s.heap.objs.size) {s with heap:=h' }:=λits B hz h' J kp e=>
  ⟨.ref s.heap.objs.size,_,I.laid (t':=s.toks) kp (Vl _) (show ObjOk X.prog X.w _ h' _ (.lst ys) from⟨hz,its,J,B,e⟩),rfl,q _ (I.hok.fresh (Vl _))⟩
 rcases L with L|L;·obtain⟨its,B,pl,hz⟩:=I.list L;have Y:=B.length;obtain⟨o,ho,hc,n,hd⟩:=pl.isList;exact call_list_seq p (.inl rfl) ho hc hd (λh' J kp e=>U its B hz h' J kp e) (by simp only[Vk]<;>omega)
 ·obtain⟨its,B,pl,hz⟩:=I.tuple L;have Y:=B.length;obtain⟨o,ho,hc,n,hd⟩:=pl;exact call_list_seq p (.inr rfl) ho hc hd (λh' J kp e=>U its B hz h' J kp e) (by simp only[Vk]<;>omega)
theorem Xd4:Xeu X (.type "tuple") (λxs H Q=>∃p ys,xs=[.ref p]/\((SqL X.K H p ys/\∀l,H l=yy->Q (.ref l) (upd H l (.tup ys)))\/(SqT X.K H p ys/\Q (.ref p) H))):=by
 intro pa s σ H xs us Q I r h;obtain⟨p,ys,rfl,h⟩:=h;obtain⟨u,rfl,Y⟩:=Xou r;cases Y;rcases h with⟨hq,q⟩|⟨hq,q⟩
 ·obtain⟨its,B,pl,U⟩:=I.list hq;have J:=B.length;refine call_tuple_list pl.isList (λh' kp=>?_) (by simp only[Vk]<;>omega);have L:Inv X pa σ H {s with heap:=h' }:=I.kept (t':=s.toks) kp;have I2:Inv X pa σ (upd H h'.objs.size (.tup ys)) {s with heap:=h'.push {cls:=.type "tuple",data:=.seq its.toArray} }:=
   L.laid (t':=s.toks) (λb o e=>Vg _ e) (Vl _) (show ObjOk X.prog X.w _ _ _ (.tup ys) from⟨U,its,B,IsTup.new _ _⟩)
  exact⟨.ref h'.objs.size,_,I2,rfl,q _ (L.hok.fresh (Vl _))⟩
 obtain⟨its,B,pl,U⟩:=I.tuple hq;exact call_tuple_same pl ⟨.ref p,H,I,rfl,q⟩
variable{e:Expr}
/- xs.append(e),list.index on a module's tuple .. are MtR facts of 06m -/
end
end L2
namespace L2
open PySem PySem.Spec PyProof.Rows
def MtM(X:Cx)(id:String)(r:V->LW->Hp->VK->Prop):Prop:=
 ∀(pa:LA) (s:Vc) (σ:St) (H:Hp) (x:V) (xs:LW) (v:Vb) (us:LV) (Q:VK),Inv X pa σ H s->RelV x v->Vals xs us->r x xs H Q ->
  Vf (Vj X.prog X.w) X.A (call (.builtin id) (v::us)) (EP X pa σ Q) X.xe s
theorem Vals.one:∀ {x:V} {us:LV},Vals [x] us->∃u,us=[u]/\RelV x u
 |_,_,h=>by cases h with|cons r t=>cases t;exact⟨_,rfl,r⟩
theorem Vals.eraseIdx:∀ {xs:LW} {us:LV} (i:Nat),Vals xs us->Vals (xs.eraseIdx i) (us.eraseIdx i)
 |_,_,_,.nil=>.nil|_,_,0,.cons _ t=>t|_,_,i+1,.cons r t=>.cons r (Vals.eraseIdx i t)
theorem Vals.rep{xs:LW}{us:LV}(h:Vals xs us):∀k:Nat,Vals (Vi k xs).flatten (Vi k us).flatten
 |0=>.nil|k+1=>by rw[Vae,Vae,Va3,Va3];exact Vals.append h (Vals.rep h k)
theorem Xi0{α:Type}:∀(l:List α) (i:Nat),(l.eraseIdx i).length<=la l
 |[],_=>Vl _|_::_,0=>Vd4 _|_::r,i+1=>Nat.succ_le_succ (Xi0 r i)
theorem Xi1(its:LV):∀(k:Nat) (acc:LV),
  Vf2 (λx1 x2=>x1++x2) acc.toArray (Vi k its.toArray)=(acc++(Vi k its).flatten).toArray
 |0=>λacc=>by simp|k+1=>λacc=>by
  have e:acc.toArray++its.toArray=(acc++its).toArray:=by simp
  have B:(acc++its)++(Vi k its).flatten=acc++(Vi (k+1) its).flatten:=by rw[Vae,Va3,V2]
  rw[<-B,<-Xi1 its k (acc++its),<-e,Vae,Vbx]
section
variable{X:Cx}{pa:LA}{σ:St}{H:Hp}{s:Vc}{l b:Addr}{xs ys zs:LW}
theorem Inv.lset{its its':LV}{n:Nat}{f:AV->AV}{t':Nat}(I:Inv X pa σ H s)(L:H l=yz (.lst xs))
  (e:s.heap.get? l=yz {cls:=.type "list",data:=.seq its.toArray n}) (J:f its.toArray=its'.toArray) (hv:Vals ys its') (hz:(la ys)<=Vu):
  Inv X pa σ (upd H l (.lst ys)) {s with heap:=s.heap.update l (Vw f),toks:=t' }:=by
 have q:=PySem.IsL.update e f;rw[J]at q;refine I.write (x:=l) (e:=l) (by rw[L];exact trivial) (.inl rfl) (λY u U B=>(Vb3 s.heap (Vw f) (Ne.symm U)).trans B) ⟨_,q⟩ ?_;exact⟨hz,its',_,hv,q⟩
theorem Inv.lnew{its:LV}{t':Nat}(I:Inv X pa σ H s)(hv:Vals ys its)(hz:(la ys)<=Vu):
  Inv X pa σ (upd H s.heap.objs.size (.lst ys)) {s with heap:=s.heap.push {cls:=.type "list",data:=.seq its.toArray},toks:=t' }:=
 I.laid (λ_ _ q=>Vg _ q) (Vl _) ⟨hz,its,0,hv,Vq _ rfl⟩
theorem Inv.fresh(I:Inv X pa σ H s):H s.heap.objs.size=none:=I.hok.fresh (Vl _)
theorem Inv.lstM(I:Inv X pa σ H s)(B:H l=yz (.lst xs)):(la xs)<=Vu/\∃(its:LV) (n:Nat),Vals xs its/\(la xs)=la its/\s.heap.get? l=yz {cls:=.type "list",data:=.seq its.toArray n}:=by obtain⟨z,its,n,r,e⟩:=I.hok l _ B;exact⟨z,its,n,r,r.length,e⟩
theorem Xft{n:Nat}(h:n<=Vu):Vcg n=false:=by unfold Vcg;exact decide_eq_false (by omega)
def Xw4:V->LW->Hp->VK->Prop:=λx vs H Q=>∃l xs y,x=.ref l/\vs=[y]/\H l=yz (.lst xs)/\(la xs)<Vu/\Q .non (upd H l (.lst (xs++[y])))
theorem Xi2:MtM X "list.append" Xw4:=by intro pa s σ H x vs v us Q I J L h;obtain⟨l,xs,y,rfl,rfl,B,Y,q⟩:=h;cases J;obtain⟨u,rfl,U⟩:=L.one;obtain⟨z,its,n,r,hl,e⟩:=I.lstM B;refine Vct F.slot_list_append ⟨_,e,rfl⟩ F.entry_list_append (F.args_list_append_2 _ _) (PySem.list_append l its.toArray n u (by rw[Vk];omega)) ⟨e,?_⟩;refine⟨.non,_,I.lset (its':=its++[u]) B e (by simp) (r.append (.cons U .nil)) ?_,rfl,q⟩;rw[Ur,List.length_singleton];omega
def Xw5:V->LW->Hp->VK->Prop:=λx vs H Q=>∃l b xs zs,x=.ref l/\vs=[.ref b]/\H l=yz (.lst xs)/\H b=yz (.lst zs)/\(la xs)+la zs<=Vu/\Q .non (upd H l (.lst (xs++zs)))
theorem Xql:MtM X "list.extend" Xw5:=by
 intro pa s σ H x vs v us Q I Y rv h;obtain⟨l,b,xs,zs,rfl,rfl,U,hB,hz,q⟩:=h;cases Y;obtain⟨u,rfl,ru⟩:=rv.one;cases ru;obtain⟨z,its,n,r,hl,e⟩:=I.lstM U;obtain⟨z2,B,n2,r2,aa,e2⟩:=I.lstM hB;have L:its.toArray.size+B.toArray.size<=Vu:=by rw[Vk,Vk];omega
 have J:¬ (!its.toArray.isEmpty&&Vcg (its.toArray.size+B.toArray.size))=true:=by rw[Xft L,Veb];exact Ui
 refine Vct F.slot_list_extend ⟨_,e,rfl⟩ F.entry_list_extend (F.args_list_extend_2 _ _)
  (AutoSeq1.list_extend_list_list_0 l its.toArray n b B.toArray n2 J (by rw[Vk];omega) (by omega)) ⟨e,e2,?_⟩
 refine⟨.non,_,I.lset (its':=its++B) U e (by simp) (r.append r2) ?_,rfl,q⟩;rw[Ur];omega
def X0y:V->LW->Hp->VK->Prop:=λx vs H Q=>∃l xs i k y,x=.ref l/\vs=[.int i]/\H l=yz (.lst xs)/\-(2^63)<=i/\i<2^63/\seqIndex? i (la xs)=yz k/\xs[k]?=yz y/\Q y (upd H l (.lst (xs.eraseIdx k)))
theorem X61:MtM X "list.pop" X0y:=by
 intro pa s σ H x vs v us Q I U Y h;obtain⟨l,xs,i,k,y,rfl,rfl,J,h1,h2,hk,L,q⟩:=h;cases U;obtain⟨u,rfl,ru⟩:=Y.one;obtain⟨t,rfl⟩:=ru;obtain⟨z,its,n,r,hl,e⟩:=I.lstM J;obtain⟨w,hw,B⟩:=r.get L;refine Vct F.slot_list_pop ⟨_,e,rfl⟩ F.entry_list_pop (F.args_list_pop_2 _ _)
  (MeetsSeq.list_pop_at l its.toArray n i t k w (fitsIndex_both h1 h2) (by rw[Vk,<-hl];exact hk) (by rw[<-U2];exact hw) (by rw[Vk];omega)) ⟨e,?_⟩
 refine⟨y,_,I.lset (its':=its.eraseIdx k) J e ?_ (r.eraseIdx k) ?_,B,q⟩;·show its.toArray.eraseIdxIfInBounds k=(its.eraseIdx k).toArray;rw[List.eraseIdxIfInBounds_toArray]
 ·have:=Xi0 xs k;omega
noncomputable def X62:R2:=λx y H Q=>∃l b xs zs,x=.ref l/\y=.ref b/\H l=yz (.lst xs)/\H b=yz (.lst zs)/\(la xs)+la zs<=Vu/\∀p,H p=yy->Q (.ref p) (upd H p (.lst (xs++zs)))
theorem X0z:OpR X (Vcr .Add) X62:=by
 intro pa s σ H x y v u Q I L ry h;obtain⟨l,b,xs,zs,rfl,rfl,hH,hB,hz,q⟩:=h;cases L;cases ry;obtain⟨z,its,n,r,hl,e⟩:=I.lstM hH;obtain⟨z2,B,n2,r2,U,Y⟩:=I.lstM hB;refine PySem.P.add_list e Y ?_ (by rw[Vk,Vk];omega);have J:its.toArray++B.toArray=(its++B).toArray:=by simp
 rw[J];exact⟨.ref _,_,I.lnew (t':=s.toks) (r.append r2) (by rw[Ur];omega),rfl,q _ I.fresh⟩
noncomputable def X63:R2:=λx y H Q=>∃l k xs,x=.ref l/\y=.int k/\H l=yz (.lst xs)/\-(2^63)<=k/\k<2^63/\(la xs)*k.toNat<=Vu /\
 ∀p,H p=yy->Q (.ref p) (upd H p (.lst (Vi k.toNat xs).flatten))
theorem Xhi{α:Type}(xs:List α)(k:Nat):(Vi k xs).flatten.length=k*la xs:=by
 induction k with
 |zero=>simp|succ k ih=>rw[Vae,Va3,Ur,ih,Nat.succ_mul,Nat.add_comm]
theorem X00:OpR X (Vcr .Mult) X63:=by
 intro pa s σ H x y v u Q I rx ry h;obtain⟨l,k,xs,rfl,rfl,hH,h1,h2,hz,q⟩:=h;cases rx;obtain⟨t,rfl⟩:=ry;obtain⟨z,its,n,r,hl,e⟩:=I.lstM hH;have aa:its.toArray.size*k.toNat<=Vu:=by rw[Vk,<-hl];exact hz
 have Y:¬ its.toArray.size*k.toNat>(2^63-1)/8:=by
  have:(Vu:Nat)<=(2^63-1)/8:=by decide
  omega
 have L:¬ (!Builtin.List.listFitsIndex k)=true:=by rw[fitsIndex_both h1 h2];exact Ui
 have B:¬ Vcg (its.toArray.size*k.toNat)=true:=by rw[Xft aa];exact Ui
 have J:Vf2 (λx1 x2=>x1++x2) #[] (Vi (if its.toArray.isEmpty=yx then 0 else k.toNat) its.toArray)=(Vi k.toNat its).flatten.toArray:=by
  have f0:∀m:Nat,Vf2 (λx1 x2=>x1++x2) #[] (Vi m its.toArray)=(Vi m its).flatten.toArray:=λm=>by have:=Xi1 its m [];rw[Uz]at this;exact this
  rw[f0];cases its with
  |nil=>simp|cons a r'=>rw[iN0 (by simp)]
 refine Vg7 (T:="list") (U:="int") (by decide) ⟨_,e,rfl⟩ (λs'=>typeIs_int s' k t) noFill_list_mul F.fills_int_mul F.slot_int_rmul repeat_list F.slot_int_index.lookup
  (Vct F.slot_int_rmul (typeIs_int s k t) F.entry_int_rmul (F.args_int_rmul_2 _ _) (int___rmul___int_list k t l its.toArray n)
   ⟨e,rfl,⟨_,e,rfl⟩,Vct F.slot_list_mul ⟨_,e,rfl⟩ F.entry_list_mul (F.args_list_mul_2 _ _) (AutoListH.list___mul___list_int_3 l its.toArray n k t L Y B) ⟨e,?_⟩⟩)
 rw[J];exact⟨.ref _,_,I.lnew (t':=s.toks) (r.rep k.toNat) (by rw[Xhi,Vdh];exact hz),rfl,q _ I.fresh⟩
end
end L2
namespace Att
open PySem PySem.W PySem.Calls PyProof.Rows
theorem Xgn{P:Params}{h:Heap}:∀(ns:LI) (vs:LV),WellAll P h vs (ns.map WData.int)->Vcb vs ns:=by
 intro ns;induction ns with
 |nil=>intro vs w;rw[Vdi]at w;cases w;exact .nil|cons n ns ih=>
  intro vs w;rw[Uh]at w;cases w with
  |cons a b=>cases a;exact .cons _ _ (ih _ b)
theorem Xqm{l:OpenLaw}{n:Nat}(hn:l.most=yz n){P:Params}{h:Heap}{args:List WData}{B:LV}
  (J:l.row.toRowW.claim.pre args=yx) (ab:WellAll P h B args):
  ∃a vs ns,B=[U8 a]/\args=[WData.list (ns.map WData.int)]/\h.get? a=yz {cls:=.type "list",data:=.seq vs.toArray}/\Vcb vs ns/\(la ns)<=n:=by
 have aa:WShape.hasAll [] args [.list .int]=true:=(pre_splitW J).1;have hc:l.pre.holds [] {args:=args}=true:=(pre_splitW J).2;obtain⟨d,r,rfl,h1,h2⟩:=hasAllW_cons aa;obtain rfl:=hasAllW_nil h2;obtain⟨xs,rfl,h3⟩:=hasW_list h1;obtain⟨ns,rfl⟩:=items_int h3;have U:(la ns)<=n:=by
  unfold OpenLaw.pre at hc;have Y:(WTm.not (.lt (.lit (.int (n:Int))) (.len (.arg 0)))).holds [] {args:=[.list (ns.map .int)]}=true:=by have Y:=(holds_andW hc).1;rw[hn]at Y;exact Y
  have h5:=condW_of Y (w_not (w_lt w_lit (w_len_list (w_arg rfl))));rw[Vn]at h5;refine Nat.le_of_not_lt λq=>?_;have q':(n:Int)<((la ns:Nat):Int):=by omega
  first
   | (rw[decide_eq_true q']at h5;exact aB0 h5 (by decide))| (simp at h5;omega)
 cases ab with
 |cons w1 w2=>
  cases w2;cases w1 with
  |list ho L=>exact⟨_,_,ns,rfl,rfl,ho,Xgn ns _ L,U⟩
theorem Xqn(l:OpenLaw)(args:List WData):l.row.toRowW.claim.post args (.bool yx) args=true:=
 postW_of (r:=l.row.toRowW) (X:=(yx==yx))
  (show WShape.has [] (.bool yx) .bool=yx by first|rfl|decide|simp[WShape.has,WShape.arms,WShape.armsAll])
  (show(WTm.eq .res (.lit (.bool yx))).value [] {args:=args,res:=yz (.bool yx),after:=args}=yz (.bool (yx==yx)) from w_eq_bool (w_res rfl) w_lit) rfl
theorem attach_call{l:OpenLaw}{n:Nat}{q:Vy}{loose:LS}{XP:(Str->OV)->Heap->Prop}{YP:V9->Heap->Prop}{d:DefRec}
  (hn:l.most=yz n) (ae:d.params.defaults=[])
  (call:∀(w:V9) (s₀ B:Vc) (mg mb:Str->OV) (fa:Addr) (o:Obj) (pm cd J:Vb) (a:Addr) (vs:LV) (ns:LI),
   Ground q loose [] XP w s₀ mg mb B.heap->YP w B.heap ->
   B.heap.get? fa=yz o->o.data=.func (docDef d.name d.params d.body d.scope pm cd J)->B.heap.CodeRec cd d.name->mg d.name=yz (.ref fa) ->
   B.heap.get? a=yz {cls:=.type "list",data:=.seq vs.toArray}->Vcb vs ns->la ns<=n->B.gens=#[] ->
   Vbz (Vj l.prog w) callerA (.call (.ref fa) ⟨[.ref a],[]⟩) (λr s'=>r=.ok (.ret (.bool yx))/\OldK B.heap s'.heap/\s'.os=B.os/\AllBare s'.gens) B):
  WalkO q loose XP YP l.row.toRowW d [] (λf vs=>PySem.call f vs):=by
 intro w s₀ B mg mb G Y fa o pm cd J dV kV ho hd ac hD ah hg ak ai as aa aj al af am;obtain rfl:dV=.none:=Dflts.none hD ae;obtain rfl:kV=.none:=Dflts.noKw hD;obtain⟨a,vs,ns,rfl,rfl,U,L,ab⟩:=Xqm hn aa af;refine enter_call (Vdj (call w s₀ B mg mb fa o pm cd J a vs ns G Y ho (fd_plain hd) ac ah U L ab hg) λr s' hq=>?_);obtain⟨rfl,h2,h3,h4⟩:=hq;exact⟨.inl ⟨.bool yx,.bool yx,[],rfl,λ_=>rfl,.bool yx,Xqn l _,λ_=>⟨Vfj,λ_ hm=>(nomatch hm)⟩⟩,h2,h3,h4⟩
end Att
namespace L2
open PySem PySem.Spec PyProof.Rows
theorem Xi3:∀ {vs:LV} {ns:LI},Vcb vs ns->Vals (ns.map V.int) vs
 |_,_,.nil=>.nil|_,_,.cons n t h=>.cons ⟨t,rfl⟩ (Xi3 h)
end L2
namespace L2
open PySem PySem.Spec PyProof.Rows
end L2
/- THE LAST THEOREM (shape;LID,My.* are yours):
   My.Adr: a structure of the addresses that your layer names (classes,functions);My.Txt K t: a structure (Prop) of the equations over K;
   My.txt_mk:{K} {implicit addresses ..} (e1:nsIn K Ub "law"=yz (yz (.ref f))) (e2:K.lookup f=yz ⟨oc,od,.func (fnOf "law" "law" params body scope dV kV doc pm an cdv ct),sl⟩) (e3:codeIn K cdv "law"=yx) ..:∃t,My.Txt K t
set_option maxRecDepth 100000 in
set_option maxHeartbeats 0 in
theorem PySem.Challenge.cw_LID_holds : PySem.Challenge.rw_LID.Holds := by
 w_on;o_law;k_head;(case hw=>w_witness2)
 k_fill
 refine L2.walk_of (l:=PySem.Challenge.rw_LID) (n:=63) (k:=40) (x:="script") (CX:=λw=>..) (sp:=λ_=>My.sp_law) rfl (by decide) rfl ⟨rfl,by decide,by decide⟩ (λw h Y=>PySem.W.kIn_of Y) ?F ?S ?C
 case F =>
  intro w mg fa h KX G hmg;have T:∃t,My.Txt (L2.KOf KX) t:=by
   dsimp only[L2.KOf]                          -- K must stand as «<heap const> w.params» for k_is;refine' My.txt_mk ?e1 ?e2 ?e3 ..
   (case e1=>PySem.W.k_is)                    -- in the order: a name -> its address -> its object -> its parts
   (case e2=>PySem.W.k_is)
   ..
  obtain⟨t,T⟩:=T;have e0:=hmg.symm.trans (Vcl KX G T.law);cases e0                                       -- fa is the law's own address;exact⟨_,λs u=>.of_eq rfl,λbase kb nb=>My.law_fn T kb nb⟩     -- if «.of_eq rfl» comes too early: refine' ⟨_,?b,λbase kb nb=>My.law_fn T kb nb⟩;exact λs u=>.of_eq rfl
 case S=>exact λw H a ns hl hO hS=>..
 case C=>exact ..
(the tactic k_is has no namespace: write k_is) -/
namespace L2
open PySem PySem.Spec PyProof.Rows
noncomputable def Xaz(s:Stmt):Vdt:=match s with
 |.FunctionDef _ a _ _ _ _ _ _ _ _=>a|_=>{posonlyargs:=[],args:=[],vararg:=yy,kwonlyargs:=[],kw_defaults:=[],kwarg:=yy,defaults:=[]}
noncomputable def Yh(s:Stmt):LM:=match s with
 |.FunctionDef _ _ b _ _ _ _ _ _ _=>b|_=>[]
noncomputable def Xq(s:Stmt):Ue:=match s with
 |.FunctionDef _ _ _ _ _ _ sc _ _ _=>sc|_=>{kind:=.function,names:=[],isGenerator:=yw,isCoroutine:=yw}
structure Fun(K:Ve)(x qual:Str)(st:Stmt)(f:Addr)(fd:Vc3):Prop where
 ex:∃(oc:Vb) (od:Option Addr) (kV doc pm:Vb) (an:Option Addr) (cdv ct:Vb) (osl:Array OV),
  fd=Vb4 x qual (Xaz st) (Yh st) (Xq st) .none kV doc pm an cdv ct/\K.lookup f=yz ⟨oc,od,.func fd,osl⟩/\Vfb K cdv qual=yx
 kp:Vcs K (.ref f)=yx
section
variable{K:Ve}
theorem Fun.binds{x qual:Str}{st:Stmt}{f:Addr}{fd:Vc3}{ps:LS}(F:Fun K x qual st f fd)
  (h:∀(kV J L:Vb) (an:Option Addr) (B U:Vb) (us:LV),la us=la ps->Vey (Vb4 x qual (Xaz st) (Yh st) (Xq st) .none kV J L an B U) ⟨us,[]⟩=pure (ps.zip us)):Binds K fd ps []:=by
 obtain⟨oc,od,kV,J,L,an,B,U,aa,rfl,lk,Y⟩:=F.ex;exact .all (h kV J L an B U)
theorem X01{x qual:Str}{st:Stmt}{f:Addr}{oc:Vb}{od an:Option Addr}{L:Array (OV)}{kV J U B Y:Vb}(l:K.lookup f=yz ⟨oc,od,.func (Vb4 x qual (Xaz st) (Yh st) (Xq st) .none kV J U an B Y),L⟩)
  (c:Vfb K B qual=yx) (k:Vcs K (.ref f)=yx):Fun K x qual st f (Vb4 x qual (Xaz st) (Yh st) (Xq st) .none kV J U an B Y):=⟨⟨oc,od,kV,J,U,an,B,Y,L,rfl,l,c⟩,k⟩
end
end L2
end
section
namespace Z
open PySem PySem.SetTable
theorem Xm3{xs:Array Nat}{i a b:Nat}(h:i<xs.size):xs.getD i a=xs.getD i b:=by simp[Vak,h]
def Ris(xs:Array Nat):Prop:=xs.toList.Pairwise (· < ·)
theorem Ris.lt{xs:Array Nat}(h:Ris xs){i j a:Nat}(B:i<j)(J:j<xs.size):xs.getD i a<xs.getD j a:=by have:=List.pairwise_iff_getElem.mp h i j (by simpa using Vcy B J) (by simpa using J) B;simpa [Vak,J,Vcy B J] using this
theorem Xfu{xs:Array Nat}{j:Nat}(J:Ris xs):∀(B lo hi:Nat),hi<=xs.size->lo<=hi->hi-lo<=B->(∀k,k<lo->xs.getD k 0<j)->(∀k,hi<=k->k<xs.size->j<=xs.getD k 0) ->
  below.go xs j B lo hi<=xs.size/\(∀k,k<below.go xs j B lo hi->xs.getD k 0<j)/\∀k,below.go xs j B lo hi<=k->k<xs.size->j<=xs.getD k 0
 |0=>λlo hi h1 h2 h3 L U=>by
  have:lo=hi:=by omega
  subst this;exact⟨h1,L,U⟩|f+1=>λlo hi h1 h2 h3 L U=>by
  unfold below.go;by_cases hl:lo<hi
  ·rw[iP0 hl];dsimp only;have Y:(lo+hi)/2<xs.size:=by omega
   by_cases c:xs.getD ((lo+hi)/2) j<j
   ·rw[iP0 c];refine Xfu J f _ hi h1 (by omega) (by omega) (λk hk=>?_) U;rw[Xm3 (b:=0) Y]at c;by_cases e:k=(lo+hi)/2;·rw[e];exact c
    ·exact Vcy (J.lt (by omega) Y) c
   rw[iN0 c];refine Xfu J f lo _ (by omega) (by omega) (by omega) L λk hk hs=>?_;rw[Xm3 (b:=0) Y]at c;by_cases e:k=(lo+hi)/2;·rw[e];omega
   ·have:=J.lt (a:=0) (show(lo+hi)/2<k by omega) hs;omega
  rw[iN0 hl];have:lo=hi:=by omega
  subst this;exact⟨h1,L,U⟩
theorem Xcl{xs:Array Nat}(J:Ris xs)(j:Nat):below xs j<=xs.size/\(∀k,k<below xs j->xs.getD k 0<j)/\∀k,below xs j<=k->k<xs.size->j<=xs.getD k 0:=
 Xfu J xs.size 0 xs.size (Vl _) (Ug _) (Vl _) (λk B=>aB0 B (Vch _)) λk h1 h2=>aB0 h2 (Nat.not_lt.mpr h1)
structure Tb(t:Um):Prop where
 ris:Ris t.place
 dum:t.dummies=#[]
theorem Xev{t:Um}(T:Tb t)(j:Nat):(∃i,t.slot j=.live i/\t.place[i]?=yz j)\/(t.slot j=.empty/\∀k,k<t.place.size->t.place.getD k 0≠j):=by
 obtain⟨Y,L,U⟩:=Xcl T.ris j;have hs:t.slot j=if t.place[below t.place j]?==yz j then .live (below t.place j) else .empty:=by
  unfold SetTable.slot SetTable.has;rw[T.dum];dsimp only;split;·rfl
  ·simp
 rw[hs];by_cases c:(t.place[below t.place j]?==yz j)=yx;·rw[iP0 c];exact .inl ⟨_,rfl,eq_of_beq c⟩
 ·rw[iN0 c];refine .inr ⟨rfl,λk B e=>c ?_⟩;by_cases q:k<below t.place j;·have:=L k q;omega
  ·by_cases J:k=below t.place j
   ·subst J;have:t.place[below t.place j]?=yz j:=by
     rw[Ut B];simp[Vak,B]at e;rw[e]
    rw[this];exact beq_self_eq_true _
   have h1:=U _ (Vl _) (by omega);have h2:=T.ris.lt (a:=0) (show below t.place j<k by omega) B;omega
theorem gap{xs:Array Nat}(J:Ris xs):∀n,n<=xs.size->(∀k,k<n->xs.getD k 0=k)\/∃e,e<n/\∀k,k<xs.size->xs.getD k 0≠e
 |0=>λ_=>.inl λk B=>aB0 B (Vch _)|n+1=>λh=>by
  rcases gap J n (by omega) with q|⟨e,L,q⟩
  ·by_cases c:xs.getD n 0=n
   ·exact .inl λk B=>by
     by_cases z:k=n;·rw[z,c]
     ·exact q k (by omega)
   refine .inr ⟨n,by omega,λk B=>?_⟩;have hn:n<=xs.getD n 0:=by
    cases n with
    |zero=>exact Ug _|succ m=>have h1:=J.lt (a:=0) (show m<m+1 by omega) (by omega);have h2:=q m (by omega);omega
   rcases Vg1 k n with z|z|z;·have:=q k z;omega
   ·rw[z];exact c
   have:=J.lt (a:=0) z B;omega
  exact .inr ⟨e,by omega,q⟩
theorem Xoz{t:Um}(T:Tb t):∃e,e<=t.place.size/\t.slot e=.empty:=by
 have B:∃e,e<=t.place.size/\∀k,k<t.place.size->t.place.getD k 0≠e:=by
  rcases gap T.ris _ (Vl _) with q|⟨e,J,q⟩;·exact⟨t.place.size,Vl _,λk U z=>by have:=q k U;omega⟩
  ·exact⟨e,by omega,q⟩
 obtain⟨e,J,q⟩:=B;refine⟨e,J,?_⟩;rcases Xev T e with⟨i,_,h⟩|⟨h,_⟩;·obtain⟨hi,L⟩:=Uo.mp h;exact aB0 (by simp[Vak,hi,L]) (q i hi)
 ·exact h
noncomputable def fiv(m x:Nat):Nat:=(x*5+1)%(m+1)
noncomputable def itf(m:Nat):Nat->Nat->Nat
 |0,x=>x|k+1,x=>itf m k (fiv m x)
noncomputable def orM(m:Nat):Nat->Nat->Nat->Nat
 |0,_,a=>a|n+1,x,a=>orM m n (fiv m x) (a ||| (1 <<< x))
theorem Xm4(m e:Nat):∀(n x a:Nat),(orM m n x a).testBit e=yx->a.testBit e=yx\/∃k,k<n/\itf m k x=e
 |0=>λx a h=>.inl h|n+1=>λx a h=>by
  rcases Xm4 m e n _ _ h with q|⟨k,B,q⟩
  ·rw[Nat.testBit_or,Vbi]at q;rcases q with q|q;·exact .inl q
   ·refine .inr ⟨0,by omega,?_⟩;rw[Nat.one_shiftLeft,Nat.testBit_two_pow]at q;simpa [itf] using q
  exact .inr ⟨k+1,by omega,q⟩
noncomputable def rnd(m:Nat):Nat->Nat×Nat->Nat×Nat
 |0,p=>p|r+1,p=>rnd m r (leap m p.1 p.2)
theorem Xm5(m a:Nat):∀(b:Nat) (p:Nat×Nat),rnd m (b+a) p=rnd m a (rnd m b p)
 |0=>λp=>by simp[rnd]|b+1=>λp=>by rw[Vgq];exact Xm5 m a b _
theorem Xm6(m:Nat):∀(r:Nat) (p:Nat×Nat),(rnd m r p).2=p.2/32^r
 |0=>λp=>by simp[rnd]|r+1=>λp=>by rw[rnd,Xm6 m r];show p.2/32/32^r=_;rw[Nat.div_div_eq_div_mul,Ve0,Vdh]
theorem Xkh(m:Nat):∀(r i:Nat),rnd m r (i,0)=(itf m r i,0)
 |0=>λi=>rfl|r+1=>λi=>by
  have:leap m i 0=(fiv m i,0):=by simp[leap,fiv]
  rw[rnd];show rnd m r (leap m i 0)=_;rw[this];exact Xkh m r _
theorem Xqo(m:Nat):∀(r:Nat) (p:Nat×Nat),p.1<m+1->(rnd m r p).1<m+1
 |0=>λp h=>h|r+1=>λp h=>Xqo m r _ (Vf3 _ (by omega))
noncomputable def its(t:Um):Nat->Probe->Probe
 |0,p=>p|n+1,p=>its t n (t.advance p)
theorem Xcb(t:Um)(a:Nat):∀(b:Nat) (p:Probe),its t (b+a) p=its t a (its t b p)
 |0=>λp=>by simp[its]|b+1=>λp=>by rw[Vgq];exact Xcb t a b _
noncomputable def Xc6(t:Um)(p:Nat×Nat):Probe:={j:=p.1,more:=runEnd t.mask p.1-p.1,i:=p.1,perturb:=p.2,dummy:=yy}
theorem Xd8(t:Um)(i q:Nat):∀(m j:Nat),its t (m+1) {j:=j,more:=m,i:=i,perturb:=q,dummy:=yy}=Xc6 t (leap t.mask i q)
 |0,j=>by simp[its,advance,Xc6]|m+1,j=>by
  rw[its];have:t.advance {j:=j,more:=m+1,i:=i,perturb:=q,dummy:=yy}={j:=j+1,more:=m,i:=i,perturb:=q,dummy:=yy}:=by simp[advance]
  rw[this];exact Xd8 t i q m (j+1)
theorem X02(m i:Nat):runEnd m i-i<=9:=by unfold runEnd;split<;>omega
theorem Xki(t:Um):∀(r:Nat) (p:Nat×Nat),∃n,n<=10*r/\its t n (Xc6 t p)=Xc6 t (rnd t.mask r p)
 |0=>λp=>⟨0,Vl _,rfl⟩|r+1=>λp=>by obtain⟨n,hn,e⟩:=Xki t r (leap t.mask p.1 p.2);refine⟨(runEnd t.mask p.1-p.1+1)+n,by have:=X02 t.mask p.1;omega,?_⟩;rw[Xcb,Xc6,Xd8 t p.1 p.2];exact e
theorem Xi4(t:Um)(p:Probe):(t.advance p).dummy=p.dummy:=by
 unfold advance;split;·rfl
 ·rfl
theorem Xm7(h:Int):bits h<2^64:=by unfold bits;omega
theorem Xbk{α:Type}(xs:Array α)(p:Nat)(x:α)(hp:p<=xs.size):(insertAt xs p x).toList=xs.toList.take p++x::xs.toList.drop p:=by unfold insertAt;simp only[Vgh,Array.toList_push,Array.toList_extract,List.extract_eq_take_drop,List.drop_zero,Vf4];have:List.take (xs.size-p) (List.drop p xs.toList)=List.drop p xs.toList:=Vcu (by simp);rw[this,V2];rfl
theorem Xw6{xs:Array Nat}(U:Ris xs){j:Nat}(hj:∀k,k<xs.size->xs.getD k 0≠j):Ris (insertAt xs (below xs j) j):=by
 obtain⟨b1,b2,b3⟩:=Xcl U j;unfold Ris;rw[Xbk _ _ _ b1];have at_:∀k,(B:k<la xs.toList)->xs.toList[k]=xs.getD k 0:=λk B=>by
  have J:k<xs.size:=by simpa using B
  simp[Vak,J]
 have lo:∀x∈xs.toList.take (below xs j),x<j:=λx L=>by obtain⟨k,B,rfl⟩:=Vbr.mp L;rw[Vag]at B;rw[List.getElem_take,at_];exact b2 k (by omega)
 have hi:∀x∈xs.toList.drop (below xs j),j<x:=λx L=>by obtain⟨k,B,rfl⟩:=Vbr.mp L;rw[Vei,Uy]at B;rw[List.getElem_drop,at_];have h1:=b3 (below xs j+k) (by omega) (by omega);have h2:=hj (below xs j+k) (by omega);omega
 refine List.pairwise_append.mpr ⟨List.Pairwise.sublist (List.take_sublist _ _) U,Vgr.mpr ⟨hi,List.Pairwise.sublist (List.drop_sublist _ _) U⟩,λa ha b Y=>?_⟩;rcases Vt.mp Y with rfl|Y;·exact lo a ha
 ·exact Vcy (lo a ha) (hi b Y)
theorem Xew{t:Um}(T:Tb t):t.fill=t.place.size:=by unfold fill;rw[T.dum];rfl
theorem X03{t:Um}(T:Tb t){j:Nat}(B:t.slot j=.empty):Tb (t.put j).1/\(t.put j).1.place.size=t.place.size+1/\(t.put j).1.mask=t.mask/\(t.put j).1.plain=t.plain/\(t.put j).1.led=t.led/\(t.put j).2<=t.place.size:=by
 have L:∀k,k<t.place.size->t.place.getD k 0≠j:=by
  rcases Xev T j with⟨i,h,_⟩|⟨_,h⟩;·rw[h]at B;cases B
  ·exact h
 obtain⟨J,_⟩:=Xcl T.ris j;refine⟨⟨Xw6 T.ris L,?_⟩,?_,rfl,rfl,rfl,J⟩;·show(if has t.dummies j=yx then _ else t.dummies)=_;rw[T.dum];simp[has]
 ·show(insertAt t.place (below t.place j) j).size=_;rw[<-Uy,Xbk _ _ _ J];simp;omega
theorem Xkj(k:Nat):∀(l:List (Option Nat)) (j:Nat),l[j]?=yz yy->((l.set j (yz k)).filterMap id).Perm (k::l.filterMap id)
 |[],j=>λh=>by simp at h|o::l,0=>λh=>by simp only[gZ0,Vp]at h;subst h;exact Vgl _|o::l,j+1=>λh=>by
  have ih:=Xkj k l j (by simpa using h);cases o with
  |none=>exact ih|some a=>exact(ih.cons a).trans (List.Perm.swap k a _)
theorem Xi5:∀(l:List (Option Nat)),(l.filterMap id).length<la l->∃j:Nat,l[j]?=yz yy
 |[]=>λh=>by simp at h|o::l=>λh=>by
  cases o with
  |none=>exact⟨0,rfl⟩|some a=>obtain⟨j,B⟩:=Xi5 l (by simpa using h);exact⟨j+1,by simpa using B⟩
theorem Xkk{m:Nat}{ow:Array (Option Nat)}:∀(B r i q:Nat),r<B->ow[(rnd m r (i,q)).1]?=yz yy->∃j,layClean.free m ow B i q=yz j/\ow[j]?=yz yy
 |0=>λr i q L _=>aB0 L (Vch _)|f+1=>λr i q L h=>by
  unfold layClean.free;cases e:(Vm (runEnd m i+1-i)).find? λk=>(ow.getD (i+k) (yz 0)).isNone with
  |some k=>
   refine⟨i+k,rfl,?_⟩;have z:=List.find?_some e;by_cases J:i+k<ow.size;·rw[Ut J];simp only[Vak,J,dite_true]at z;simpa using z
   ·simp[Vak,J]at z|none=>
   dsimp only;cases r with
   |zero=>have z:=List.find?_eq_none.mp e 0 (Vaf.mpr (by unfold runEnd;split<;>omega));obtain⟨hi,U⟩:=Uo.mp (show ow[i]?=yz yy from h);simp[Vak,hi,U]at z|succ r=>exact Xkk f r _ _ (by omega) h
def Own(m:Nat)(ow:Array (Option Nat))(k:Nat):Prop:=ow.size=m+1/\(ow.toList.filterMap id).Perm (Vm k)
theorem Xkl:∀(l:List (Option Nat)) (s:Nat) (g:Nat->Option Nat),(∀i,i<la l->g (s+i)=l.getD i yy)->((List.range' s l.length).filterMap λj=>(g j).map (j,·)).map (·.2)=l.filterMap id
 |[]=>λs g h=>rfl|o::l=>λs g h=>by
  have h0:=h 0 (by simp);have ih:=Xkl l (s+1) g λi hi=>by have:=h (i+1) (by simp;omega);rw[show s+1+i=s+(i+1) by omega,this];rfl
  rw[U6,List.range'_succ,Uj];rw[Ve1]at h0;rw[h0];cases o with
  |none=>simpa using ih|some a=>simpa using ih
theorem Xkm(g:Nat->Option Nat):∀(l:LN),l.Pairwise (· < ·)->(((l.filterMap λj=>(g j).map (j,·)).map (·.1)).Pairwise (· < ·)/\∀x∈(l.filterMap λj=>(g j).map (j,·)).map (·.1),x∈l)
 |[]=>λ_=>⟨Vfj,λx B=>by simp at B⟩|a::l=>λh=>by
  obtain⟨h1,h2⟩:=Vgr.mp h;obtain⟨i1,i2⟩:=Xkm g l h2;rw[Uj];cases e:g a with
  |none=>simp only[Option.map_none];exact⟨i1,λx B=>Ua _ (i2 x B)⟩|some b=>
   simp only[V4,Uh];refine⟨Vgr.mpr ⟨λx B=>h1 x (i2 x B),i1⟩,λx B=>?_⟩;rcases Vt.mp B with rfl|B;·exact U9
   ·exact Ua _ (i2 x B)
def Cy(m:Nat):Prop:=∀x e,x<m+1->e<m+1->∃k,k<m+1/\itf m k x=e
theorem Xex(m a:Nat):∀(b x:Nat),itf m (b+a) x=itf m a (itf m b x)
 |0=>λx=>by simp[itf]|b+1=>λx=>by rw[Vgq];exact Xex m a b _
noncomputable def orb(m:Nat):Bool:=orM m (m+1) 0 0==2^(m+1)-1&&itf m (m+1) 0==0
theorem X4y{m:Nat}(h:orb m=yx):Cy m:=by
 unfold orb at h;rw[bA0]at h;have J:itf m (m+1) 0=0:=eq_of_beq h.2;have all:∀e,e<m+1->∃k,k<m+1/\itf m k 0=e:=λe B=>by
  have z:(orM m (m+1) 0 0).testBit e=true:=by rw[eq_of_beq h.1,Nat.testBit_two_pow_sub_one];exact decide_eq_true B
  rcases Xm4 m e _ _ _ z with w|w;·simp at w
  ·exact w
 intro x e L B;obtain⟨a,Y,rfl⟩:=all x L;obtain⟨b,U,rfl⟩:=all e B;by_cases c:a<=b;·exact⟨b-a,by omega,by rw[<-Xex,show a+(b-a)=b by omega]⟩
 ·refine⟨m+1-a+b,by omega,?_⟩;rw[<-Xex,show a+(m+1-a+b)=m+1+b by omega,Xex,J]
def Mg(m:Nat):Prop:=m=7\/m=31\/m=127\/m=511\/m=2047\/m=8191
theorem Mg.cy{m:Nat}(h:Mg m):Cy m:=by rcases h with rfl|rfl|rfl|rfl|rfl|rfl<;>exact X4y (by decide+kernel)
theorem Mg.le{m:Nat}(h:Mg m):m<=8191:=by rcases h with rfl|rfl|rfl|rfl|rfl|rfl<;>omega
theorem Xi6{m:Nat}(U:Cy m){i q e:Nat}(hi:i<m+1)(B:q<2^64)(L:e<m+1):∃r,r<m+14/\(rnd m r (i,q)).1=e:=by
 have h1:(rnd m 13 (i,q)).2=0:=by rw[Xm6];exact Nat.div_eq_of_lt (V0 B (by decide))
 have h2:=Xqo m 13 (i,q) hi;obtain⟨k,Y,J⟩:=U _ _ h2 L;refine⟨13+k,by omega,?_⟩;rw[Xm5];have:rnd m 13 (i,q)=((rnd m 13 (i,q)).1,0):=Prod.ext rfl h1;rw[this,Xkh];exact J
noncomputable def tm(m:Nat):Um:={mask:=m,place:=#[],dummies:=#[],finger:=0,led:=yx,moves:=0,plain:=yx}
theorem Xqp(t:Um):∀(n:Nat) (p:Probe),its t n p=its (tm t.mask) n p
 |0=>λp=>rfl|n+1=>λp=>Xqp t n (t.advance p)
noncomputable def pth(m:Nat)(h:Int)(n:Nat):Nat:=(its (tm m) n ((tm m).probeStart h)).j
theorem Xdr{t:Um}(T:Tb t)(j:Nat):t.slot j=.empty ↔ j ∉ t.place.toList:=by
 rcases Xev T j with⟨i,h1,h2⟩|⟨h1,h2⟩
 ·rw[h1];rw[<-U2]at h2;have J:=V6 h2;constructor;·intro z;cases z
  ·intro z;exact aB0 J z
 refine⟨λ_ J=>?_,λ_=>h1⟩;obtain⟨i,hi,e⟩:=Vbr.mp J;have B:i<t.place.size:=by simpa using hi
 exact h2 i B (by simp[Vak,B];simpa using e)
theorem Xd9{t:Um}(T:Tb t){j:Nat}(h:j∈t.place.toList):∃i,t.slot j=.live i/\t.place[i]?=yz j:=by
 rcases Xev T j with h1|⟨h1,_⟩;·exact h1
 ·exact aB0 h ((Xdr T j).mp h1)
theorem Xm8(t:Um):∀(n:Nat) (p:Probe),(its t n p).dummy=p.dummy
 |0=>λp=>rfl|n+1=>λp=>(Xm8 t n _).trans (Xi4 t p)
theorem Xv5{t:Um}(T:Tb t)(f:Nat->Int)(h:Int):∀(d B:Nat) (p:Probe),p.dummy=yy->d<B->(its t d p).j ∉ t.place.toList->(∀k,k<d->(its t k p).j∈t.place.toList) ->
  ((∀k,k<d->∀i,t.slot (its t k p).j=.live i->f i≠h)/\probe.go t f h B p=yz (.empty (its t d p).j yy)) \/
  ∃k i,k<d/\t.slot (its t k p).j=.live i/\f i=h/\(∀J,J<k->∀L,t.slot (its t J p).j=.live L->f L≠h)/\probe.go t f h B p=yz (.candidate (its t k p).j i (its t (k+1) p))
 |0,0=>λp _ hf _ _=>aB0 hf (Vch _)|d+1,0=>λp _ hf _ _=>aB0 hf (Vch _)|0,B+1=>λp hd _ he _=>by refine .inl ⟨λk U=>aB0 U (Vch _),?_⟩;unfold probe.go;rw[(Xdr T _).mpr (show p.j ∉ _ from he),hd];rfl|d+1,B+1=>λp hd hf he hl=>by
  have h0:p.j∈t.place.toList:=hl 0 (by omega);obtain⟨i,Y,s2⟩:=Xd9 T h0;by_cases c:f i=h;·refine .inr ⟨0,i,by omega,Y,c,λJ U=>aB0 U (Vch _),?_⟩;unfold probe.go;rw[Y];dsimp only;rw[c,beq_self_eq_true,iP0 rfl];rfl
  ·have hg:probe.go t f h (B+1) p=probe.go t f h B (t.advance p):=by
    conv=>lhs;unfold probe.go
    rw[Y];dsimp only;rw[iN0 (by simpa using c)]
   rw[hg];rcases Xv5 T f h d B (t.advance p) (by rw[Xi4];exact hd) (by omega) he (λk U=>hl (k+1) (by omega)) with⟨g1,g2⟩|⟨k,L,g1,g2,g3,g4,g5⟩
   ·refine .inl ⟨λk U L hi=>?_,g2⟩;cases k with
    |zero=>rw[show(its t 0 p).j=p.j from rfl,Y]at hi;cases hi;exact c|succ k=>exact g1 k (by omega) L hi
   refine .inr ⟨k+1,L,by omega,g2,g3,λJ U aa hi=>?_,g5⟩;cases J with
   |zero=>rw[show(its t 0 p).j=p.j from rfl,Y]at hi;cases hi;exact c|succ J=>exact g4 J (by omega) aa hi
theorem Xw7{t:Um}(T:Tb t)(hm:Cy t.mask)(hn:t.place.size<=t.mask)(h:Int):∃N,N<10*turns t.mask/\pth t.mask h N ∉ t.place.toList/\∀k,k<N->pth t.mask h k∈t.place.toList:=by
 obtain⟨e,he,hs⟩:=Xoz T;obtain⟨r,hr,e1⟩:=Xi6 hm (i:=bits h%(t.mask+1)) (q:=bits h) (Vf3 _ (by omega)) (Xm7 h) (e:=e) (by omega);obtain⟨n,aa,Y⟩:=Xki (tm t.mask) r (bits h%(t.mask+1),bits h);have st:(tm t.mask).probeStart h=Xc6 (tm t.mask) (bits h%(t.mask+1),bits h):=rfl;have q:pth t.mask h n=e:=by unfold pth;rw[st,Y];exact e1
 have L:pth t.mask h n ∉ t.place.toList:=by rw[q];exact(Xdr T e).mp hs
 have U:∀n,pth t.mask h n ∉ t.place.toList->∃N,N<=n/\pth t.mask h N ∉ t.place.toList/\∀k,k<N->pth t.mask h k∈t.place.toList:=λn=>by
  induction n using Nat.strongRecOn with
  |ind n ih=>
   intro hn;by_cases c:∀k,k<n->pth t.mask h k∈t.place.toList;·exact⟨n,Vl _,hn,c⟩
   ·obtain⟨k,hk⟩:=Classical.not_forall.mp c;obtain⟨J,B⟩:=Classical.not_imp.mp hk;obtain⟨N,a,b,d⟩:=ih k J B;exact⟨N,by omega,b,d⟩
 obtain⟨N,a,b,d⟩:=U n L;exact⟨N,by unfold turns;omega,b,d⟩
noncomputable def Ats(t:Um)(es:Array (Int×Vb)):List (Nat×Int×Vb):=t.place.toList.zip es.toList
def Xo0(t:Um)(es:Array (Int×Vb)):Prop:=∀j h x,(j,h,x)∈Ats t es->∃n,pth t.mask h n=j/\∀k,k<n->pth t.mask h k∈t.place.toList
theorem X04{t:Um}{es:Array (Int×Vb)}{i j:Nat}{e:Int×Vb}(h1:t.place[i]?=yz j)(h2:es[i]?=yz e):(j,e)∈Ats t es:=by
 have:(Ats t es)[i]?=yz (j,e):=by unfold Ats;rw[List.getElem?_zip_eq_some];exact⟨by rw[U2];exact h1,by rw[U2];exact h2⟩
 exact V6 this
theorem Xm9{α:Type}(l:List α)(p:Nat)(a x:α):x∈l.take p++a::l.drop p ↔ x=a\/x∈l:=by
 conv=>rhs;rw[<-Vfy p l]
 simp only[Vao,Vt];constructor
 ·rintro (h|h|h);·exact .inr (.inl h)
  ·exact .inl h
  exact .inr (.inr h)
 rintro (h|h|h);·exact .inr (.inl h)
 ·exact .inl h
 exact .inr (.inr h)
theorem Xna{α β:Type}:∀(xs:List α) (ys:List β) (p:Nat) (a:α) (b:β),la xs=la ys->(xs.take p++a::xs.drop p).zip (ys.take p++b::ys.drop p)=(xs.zip ys).take p++(a,b)::(xs.zip ys).drop p
 |xs,ys,0=>λa b _=>by simp|[],[],p+1=>λa b _=>by simp|x::xs,y::ys,p+1=>λa b h=>by have ih:=Xna xs ys p a b (by simpa using h);simp only[List.take_succ_cons,List.drop_succ_cons,Vah,Ve2];rw[ih]|[],_::_,_+1=>λ_ _ h=>by simp at h|_::_,[],_+1=>λ_ _ h=>by simp at h
theorem Xqq{t:Um}(T:Tb t)(j:Nat)(x:Nat):x∈(t.put j).1.place.toList ↔ x=j\/x∈t.place.toList:=by obtain⟨B,_⟩:=Xcl T.ris j;show x∈(insertAt t.place (below t.place j) j).toList ↔ _;rw[Xbk _ _ _ B];exact Xm9 _ _ _ _
theorem Xw8{t:Um}{es:Array (Int×Vb)}(T:Tb t)(hs:t.place.size=es.size)(j:Nat)(e:Int×Vb)(x:Nat×Int×Vb):x∈Ats (t.put j).1 (insertAt es (t.put j).2 e) ↔ x=(j,e)\/x∈Ats t es:=by obtain⟨B,_⟩:=Xcl T.ris j;show x∈(insertAt t.place (below t.place j) j).toList.zip (insertAt es (below t.place j) e).toList ↔ _;rw[Xbk _ _ _ B,Xbk _ _ _ (by rw[<-hs];exact B),Xna _ _ _ _ _ (by simpa using hs)];exact Xm9 _ _ _ _
theorem Xw9{t:Um}{es:Array (Int×Vb)}(T:Tb t)(hs:t.place.size=es.size)(O:Xo0 t es){h:Int}{x:Vb}{N:Nat}(hN:∀k,k<N->pth t.mask h k∈t.place.toList):
  Xo0 (t.put (pth t.mask h N)).1 (insertAt es (t.put (pth t.mask h N)).2 (h,x)):=by
 intro j h' Y B;rw[Xw8 T hs]at B;have L:∀y,y∈t.place.toList->y∈(t.put (pth t.mask h N)).1.place.toList:=λy U=>(Xqq T _ y).mpr (.inr U);rcases B with e|B;·cases e;exact⟨N,rfl,λk J=>L _ (hN k J)⟩
 ·obtain⟨n,e,q⟩:=O j h' Y B;exact⟨n,e,λk J=>L _ (q k J)⟩
theorem Xey(t:Um)(q:Nat)(i:Nat):∀(k m j:Nat),k<=m->(its t k {j:=j,more:=m,i:=i,perturb:=q,dummy:=yy})={j:=j+k,more:=m-k,i:=i,perturb:=q,dummy:=yy}
 |0,m,j,_=>by simp[its]|k+1,m,j,h=>by
  have e:t.advance {j:=j,more:=m,i:=i,perturb:=q,dummy:=yy}={j:=j+1,more:=m-1,i:=i,perturb:=q,dummy:=yy}:=by
   have:m>0:=by omega
   simp[advance,this]
  rw[its,e,Xey t q i k (m-1) (j+1) (by omega)];congr 1;·omega
  ·omega
theorem Xkn{m i:Nat}(h:i<m+1):runEnd m i<m+1:=by unfold runEnd;split<;>omega
theorem Xko(m i:Nat):i<=runEnd m i:=by unfold runEnd;split<;>omega
theorem Xkp{m:Nat}{ow:Array (Option Nat)}(ho:ow.size=m+1):∀(U i q j:Nat),i<m+1->layClean.free m ow U i q=yz j->ow[j]?=yz yy/\∃n,(its (tm m) n (Xc6 (tm m) (i,q))).j=j/\∀k,k<n->ow[(its (tm m) k (Xc6 (tm m) (i,q))).j]?≠yz yy
 |0=>λi q j _ h=>by simp[layClean.free]at h|f+1=>λi q j hi h=>by
  unfold layClean.free at h;have ge:=Xko m i;have lt:=Xkn hi;have B:∀c,c<runEnd m i+1-i->(ow.getD (i+c) (yz 0)).isNone=yw->ow[i+c]?≠yz none:=λc J hz hn=>by obtain⟨h1,h2⟩:=Uo.mp hn;simp[Vak,h1,h2]at hz
  cases e:(Vm (runEnd m i+1-i)).find? λk=>(ow.getD (i+k) (yz 0)).isNone with
  |some k=>
   rw[e]at h;cases h;have z:=List.find?_some e;have kl:k<runEnd m i+1-i:=Vaf.mp (List.mem_of_find?_eq_some e);refine⟨?_,k,?_,λc J=>?_⟩
   ·by_cases Y:i+k<ow.size;·rw[Ut Y];simp only[Vak,Y,dite_true]at z;simpa using z
    ·simp[Vak,Y]at z
   ·show(its (tm m) k {j:=i,more:=runEnd m i-i,i:=i,perturb:=q,dummy:=yy}).j=_;rw[Xey _ _ _ k _ _ (by omega)]
   show ow[(its (tm m) c {j:=i,more:=runEnd m i-i,i:=i,perturb:=q,dummy:=yy}).j]?≠_;rw[Xey _ _ _ c _ _ (by omega)];refine B c (by omega) ?_;have:=(List.find?_range_eq_some.mp e).2.2 c J;rw[Vat]at this;exact this|none=>
   rw[e]at h;have hn:=List.find?_eq_none.mp e;have L:∀c,c<runEnd m i+1-i->ow[i+c]?≠yz none:=λc J=>B c J (by have:=hn c (Vaf.mpr J);rw[Bool.not_eq_true]at this;exact this);have hl:(leap m i q).1<m+1:=Vf3 _ (by omega);obtain⟨g1,n,g2,g3⟩:=Xkp ho f (leap m i q).1 (leap m i q).2 j hl h;have re:its (tm m) (runEnd m i-i+1) (Xc6 (tm m) (i,q))=Xc6 (tm m) (leap m i q):=Xd8 (tm m) i q (runEnd m i-i) i;refine⟨g1,runEnd m i-i+1+n,?_,λc J=>?_⟩;·rw[Xcb,re];exact g2
   ·by_cases q':c<runEnd m i-i+1;·show ow[(its (tm m) c {j:=i,more:=runEnd m i-i,i:=i,perturb:=q,dummy:=yy}).j]?≠_;rw[Xey _ _ _ c _ _ (by omega)];exact L c (by omega)
    ·have e2:c=runEnd m i-i+1+(c-(runEnd m i-i+1)):=by omega
     rw[e2,Xcb,re];exact g3 _ (by omega)
theorem Xqr{m:Nat}:∀(n:Nat) (p:Probe),p.j+p.more<m+1->(its (tm m) n p).j+(its (tm m) n p).more<m+1
 |0=>λp h=>h|n+1=>λp h=>by
  refine Xqr n _ ?_;unfold advance;split;·show p.j+1+(p.more-1)<m+1;omega
  ·have B:(leap m p.i p.perturb).1<m+1:=Vf3 _ (by omega);show(leap m p.i p.perturb).1+(runEnd m (leap m p.i p.perturb).1-(leap m p.i p.perturb).1)<m+1;have:=Xkn B;have:=Xko m (leap m p.i p.perturb).1;omega
theorem X05(m:Nat)(h:Int)(n:Nat):pth m h n<m+1:=by have h0:bits h%(m+1)<m+1:=Vf3 _ (by omega);have:=Xqr (m:=m) n ((tm m).probeStart h) (by show bits h%(m+1)+(runEnd m (bits h%(m+1))-bits h%(m+1))<m+1;have:=Xkn h0;have:=Xko m (bits h%(m+1));omega);unfold pth;omega
structure OwnG(m:Nat)(ow:Array (Option Nat))(hs:LI)(k:Nat):Prop where
 own:Own m ow k
 way:∀j c,ow[j]?=yz (yz c)->∃h,hs[c]?=yz h/\∃n,pth m h n=j/\∀i,i<n->ow[pth m h i]?≠yz yy
theorem Xqs{m:Nat}(hm:Cy m){ow:Array (Option Nat)}{hs:LI}{k:Nat}{h:Int}(O:OwnG m ow hs k)(hk:k<m+1)(hh:hs[k]?=yz h):∃j,layClean.free m ow (turns m) (bits h%(m+1)) (bits h)=yz j/\OwnG m (ow.setIfInBounds j (yz k)) hs (k+1):=by
 obtain⟨L,o2⟩:=O.own;obtain⟨e,he⟩:=Xi5 ow.toList (by rw[o2.length_eq,Us,Uy,L];exact hk);have U:e<m+1:=by have:=(Vh.mp he).1;rw[Uy,L]at this;exact this
 have B:bits h%(m+1)<m+1:=Vf3 _ (by omega);obtain⟨r,hr,e1⟩:=Xi6 hm (i:=bits h%(m+1)) (q:=bits h) B (Xm7 h) U;obtain⟨j,f1,f2⟩:=Xkk (m:=m) (ow:=ow) (turns m) r (bits h%(m+1)) (bits h) (by unfold turns;omega) (by rw[e1,<-U2];exact he);obtain⟨_,n,w1,w2⟩:=Xkp L (turns m) _ _ j B f1;have up:∀x,ow[x]?≠yz yy->(ow.setIfInBounds j (yz k))[x]?≠yz none:=λx hx=>by
  rw[Array.getElem?_setIfInBounds];split
  ·split;·intro z;cases z
   ·intro z;cases z
  exact hx
 refine⟨j,f1,⟨by rw[Array.size_setIfInBounds,L],?_⟩,λY c J=>?_⟩;·rw[Array.toList_setIfInBounds];refine(Xkj k _ j (by rw[U2];exact f2)).trans ((o2.cons k).trans ?_);rw[List.range_succ];exact(List.perm_append_singleton k (Vm k)).symm
 ·by_cases q:j=Y;·subst q;have hj:=(Uo.mp f2).1;rw[Array.getElem?_setIfInBounds_self_of_lt hj]at J;cases J;exact⟨h,hh,n,w1,λi hi=>up _ (w2 i hi)⟩
  ·rw[Array.getElem?_setIfInBounds_ne q]at J;obtain⟨h',g1,n',g2,g3⟩:=O.way Y c J;exact⟨h',g1,n',g2,λi hi=>up _ (g3 i hi)⟩
theorem Xkq{m:Nat}(L:Cy m)(all:LI):∀(hs:LI) (ow:Array (Option Nat)) (k:Nat),OwnG m ow all k->(∀i,hs[i]?=all[k+i]?)->k+la hs<m+1->∃B,OwnG m B all (k+la hs) /\
  hs.foldl (λacc h=>do
   let (owner,k) <- acc
   let j <- layClean.free m owner (turns m) (bits h%(m+1)) (bits h)
   pure (owner.setIfInBounds j (yz k),k+1)) (yz (ow,k))=yz (B,k+la hs)
 |[]=>λow k O _ _=>⟨ow,O,rfl⟩|h::hs=>λow k O J Y=>by rw[U6]at Y;obtain⟨j,f1,f2⟩:=Xqs L O (by omega) (by have:=J 0;simpa using this.symm);obtain⟨B,U,e⟩:=Xkq L all hs _ (k+1) f2 (λi=>by have:=J (i+1);rw[gS0]at this;rw[this,show k+(i+1)=k+1+i by omega]) (by omega);refine⟨B,by rw[U6,show k+(la hs+1)=k+1+la hs by omega];exact U,?_⟩;rw[Vbx,U6,show k+(la hs+1)=k+1+la hs by omega,<-e];congr 1;show(layClean.free m ow (turns m) (bits h%(m+1)) (bits h)).bind _=_;rw[f1];rfl
theorem Xkr{ow:Array (Option Nat)}{m:Nat}(J:ow.size=m+1)(j c:Nat):(j,c)∈(Vm (m+1)).filterMap (λj=>(ow.getD j yy).map (j,·)) ↔ ow[j]?=yz (yz c):=by
 rw[Vcx];constructor
 ·rintro ⟨x,hx,e⟩;rw[Vaf]at hx;have B:x<ow.size:=by omega
  simp only[Vak,B,dite_true]at e;cases q:ow[x]'B with
  |none=>rw[show ow.getInternal x B=ow[x] from rfl,q]at e;cases e|some y=>rw[show ow.getInternal x B=ow[x] from rfl,q]at e;cases e;rw[Ut B,q]
 intro h;obtain⟨h1,h2⟩:=Uo.mp h;refine⟨j,Vaf.mpr (by omega),?_⟩;simp only[Vak,h1,dite_true];rw[show ow.getInternal j h1=ow[j] from rfl,h2];rfl
theorem X4z{m f v:Nat}{led pl:Bool}(hm:Cy m)(es:Array (Int×Vb))(hl:es.size<m+1):∃t B,laid m f v led pl (es.map (·.1))=yz (t,B)/\Tb t/\t.mask=m/\t.plain=pl/\t.led=led/\t.moves=v/\t.place.size=es.size/\(B.filterMap (es[·]?)).size=es.size/\(B.filterMap (es[·]?)).toList.Perm es.toList/\Xo0 t (B.filterMap (es[·]?))/\B.toList.Perm (Vm es.size):=by
 have O0:OwnG m (Array.replicate (m+1) yy) (es.map (·.1)).toList 0:=⟨⟨by simp,by
  rw[Array.toList_replicate];have:∀n,(Vi n (yy:Option Nat)).filterMap id=[]:=λn=>by induction n with
   |zero=>rfl|succ n ih=>rw[Vae,Uj];exact ih
  rw[this];exact Vgl _⟩,λj c Y=>by rw[Array.getElem?_replicate]at Y;split at Y<;>cases Y⟩
 obtain⟨J,O,e⟩:=Xkq hm (es.map (·.1)).toList (es.map (·.1)).toList _ 0 O0 (λi=>by rw[Vbo]) (by simpa using hl);obtain⟨o1,o2⟩:=O.own;rw[Vbo,Uy,Array.size_map]at o2 e;have lc:layClean m (es.map (·.1))=yz J:=by unfold layClean;rw[<-Array.foldl_toList];rw[show((es.map (·.1)).toList.foldl _ (yz (Array.replicate (m+1) (yy:Option Nat),0)))=yz (J,es.size) from e];rfl
 have sn:((Vm (m+1)).filterMap λj=>(J.getD j yy).map (j,·)).map (·.2)=J.toList.filterMap id:=by
  have:=Xkl J.toList 0 (λj=>J.getD j yy) λi hi=>by
   have aa:i<J.size:=by simpa using hi
   simp[Vak,aa,Ux]
  rw[Uy,o1,<-List.range_eq_range']at this;exact this
 have fs:=(Xkm (λj=>J.getD j yy) (Vm (m+1)) List.pairwise_lt_range).1;have op:(((Vm (m+1)).filterMap λj=>(J.getD j yy).map (j,·)).map (·.2)).Perm (Vm es.size):=by rw[sn];exact o2
 have lt:∀p∈(Vm (m+1)).filterMap (λj=>(J.getD j yy).map (j,·)),p.2<es.size:=λp hp=>Vaf.mp (op.mem_iff.mp (Va6.mpr ⟨p,hp,rfl⟩));have fm:∀l:List (Nat×Nat),(∀p∈l,p.2<es.size)->(l.map (·.2)).filterMap (es[·]?)=l.map λp=>es.getD p.2 (0,.none):=λl=>by
  induction l with
  |nil=>intro _;rfl|cons a l ih=>intro h;have ha:=h a U9;rw[Uh,Uh,Uj,Ut ha];simp only;rw[ih λx hx=>h x (Ua _ hx)];congr 1;simp[Vak,ha]
 unfold laid;rw[lc];refine⟨_,_,rfl,⟨fs,rfl⟩,rfl,rfl,rfl,rfl,?_,?_,?_,?_,by rw[Vco];exact op⟩;·show(Uk _ _).toArray.size=_;have h1:=congrArg V8 sn;rw[Vn,o2.length_eq,Us]at h1;simp only[Vk,Vn];exact h1
 ·rw[<-Uy,Vfm,Vco,fm _ lt,Vn];have:=op.length_eq;rw[Vn,Us]at this;exact this
 ·rw[Vfm,Vco];have h1:=op.filterMap (es[·]?);have h2:(Vm es.size).filterMap (es[·]?)=es.toList:=by
   apply List.ext_getElem?;intro i;have q:∀l:LN,(∀x∈l,x<es.size)->l.filterMap (es[·]?)=l.map λx=>es.getD x (0,.none):=λl=>by
    induction l with
    |nil=>intro _;rfl|cons a l ih=>intro h;have ha:=h a U9;rw[Uh,Uj,Ut ha];simp only;rw[ih λx hx=>h x (Ua _ hx)];congr 1;simp[Vak,ha]
   rw[q _ λx hx=>Vaf.mp hx,Vx];by_cases hi:i<es.size;·rw[Vb1 hi,U2,Ut hi];simp[Vak,hi]
   ·rw[Vcc (by simpa using hi),Vcc (by simpa using hi)];rfl
  rw[h2]at h1;exact h1
 intro j h x L;unfold Ats at L;rw[Vfm,Vco,fm _ lt]at L;rw[List.zip_map']at L;obtain⟨⟨j',c⟩,hp,e'⟩:=Va6.mp L;have Y:c<es.size:=lt _ hp;obtain⟨h',g1,n,g2,g3⟩:=O.way j' c ((Xkr o1 j' c).mp hp);have e1:j'=j:=congrArg (·.1) e';have e2:es.getD c (0,.none)=(h,x):=congrArg (·.2) e';have eh:h'=h:=by
  rw[U2,Array.getElem?_map,Ut Y]at g1;have e3:es[c]=(h,x):=by simpa [Vak,Y] using e2
  rw[e3]at g1;exact(Uc g1).symm
 subst eh e1;refine⟨n,g2,λi hi=>?_⟩;have hz:=g3 i hi;have ab:=X05 m h' i;show pth m h' i∈(Uk (λ(x:Nat×Nat)=>x.1) ((Vm (m+1)).filterMap λj=>(J.getD j yy).map (j,·))).toArray.toList;rw[Vco];have U:pth m h' i<J.size:=by omega
 rw[Ut U]at hz;cases q:J[pth m h' i] with
 |none=>rw[q]at hz;cases hz rfl|some c'=>exact Va6.mpr ⟨(pth m h' i,c'),(Xkr o1 _ _).mpr (by rw[Ut U,q]),rfl⟩
structure Tab(t:Um)(n:Nat):Prop where
 tb:Tb t
 pl:t.plain=yx
 sz:t.place.size=n
 mg:Mg t.mask
 room:n*5<t.mask*3
 ln:n<1300
theorem Tab.le{t:Um}{n:Nat}(T:Tab t n):n+1<=t.mask:=by have:=T.room;rcases T.mg with e|e|e|e|e|e<;>omega
theorem Xcm{t:Um}{n:Nat}(T:Tab t n):t.fits n=true:=by have:=T.le;unfold SetTable.fits;rw[Xew T.tb,T.sz];simp;omega
theorem Xxa{n m:Nat}(B:Mg m)(h0:n*5<m*3)(hn:n<1200)(h1:¬ (n+1)*5<m*3):Mg (sizeAbove (grown (n+1))-1)/\(n+1)*5<(sizeAbove (grown (n+1))-1)*3/\sizeAbove (grown (n+1))<=8192:=by
 rcases B with rfl|rfl|rfl|rfl|rfl|rfl
 ·obtain rfl:n=4:=by omega
  exact⟨.inr (.inl (by decide+kernel)),by decide+kernel,by decide+kernel⟩
 ·obtain rfl:n=18:=by omega
  exact⟨.inr (.inr (.inl (by decide+kernel))),by decide+kernel,by decide+kernel⟩
 ·obtain rfl:n=76:=by omega
  exact⟨.inr (.inr (.inr (.inl (by decide+kernel)))),by decide+kernel,by decide+kernel⟩
 ·obtain rfl:n=306:=by omega
  exact⟨.inr (.inr (.inr (.inr (.inl (by decide+kernel))))),by decide+kernel,by decide+kernel⟩
 ·omega
 omega
end Z
end
section
namespace Z
open PySem PySem.Spec PyProof.Rows L2
noncomputable def X64:Vb->Int
 |.int i _=>i|_=>0
def X65(prog:Vy)(w:V9)(h:Heap)(a:Addr)(ld:Bool)(ks:LI):Prop:=∃o es ep t,h.get? a=yz o/\o.ExactSet/\o.data=.set es ep t/\ElemsOf (Ver prog w) es.toList/\ks=es.toList.map (λe=>X64 e.2)/\Tab t es.size/\t.led=ld
noncomputable def byT(w:V9):Bool:=w.params.followText "set-order"
inductive D where
 |non|bl (b:Bool)|int (i:Int)|str (x:Str)|tup (xs:List D)|ref (n:Nat)|fro (xs:List D)|fn (f:Nat) (nm:Str)
 deriving Inhabited
abbrev LD:=List D
inductive O where
 |lst (xs:LD)|fdc (kvs:List (LI×D))|dct (kvs:List (LI×D))|exc (c:Nat)
noncomputable abbrev Sto:=List O
noncomputable abbrev En:=List (Option D)
inductive R(α:Type) where
 |ok (a:α) (S:Sto)|ex (n:Nat) (S:Sto)|bad
noncomputable def R.bind{α β:Type}:R α->(α->Sto->R β)->R β
 |.ok a S,f=>f a S|.ex n S,_=>.ex n S|.bad,_=>.bad
@[simp] theorem Rk0{α β:Type}(a:α)(S:Sto)(f:α->Sto->R β):(R.ok a S).bind f=f a S:=rfl
@[simp] theorem R.bind_ex{α β:Type}(n:Nat)(S:Sto)(f:α->Sto->R β):(R.ex n S).bind f=.ex n S:=rfl
@[simp] theorem R.bind_bad{α β:Type}(f:α->Sto->R β):(R.bad:R α).bind f=.bad:=rfl
noncomputable def big:Nat:=1000000
set_option genInjectivity false
inductive Bo where|add|sub|mul|fdiv|mod|pow
 deriving DecidableEq
inductive Co where|eq|ne|lt|le|gt|ge|isin|notin
 deriving DecidableEq
inductive Ty where|int|bool|str|tuple|list|dict|cls(c:Nat)|valueError
 deriving DecidableEq
inductive Bl where
 |len|min|max|smB|all|tuple|list|repr|itB
 deriving DecidableEq
inductive Mt where
 |append|xtd|index|count
 deriving DecidableEq
inductive Tg where
 |var (i:Nat)
 |tup (is:LN)
mutual
inductive Ex where
 |nev
 |var (i:Nat)
 |cst (d:D)
 |neg (a:Ex)
 |glb (k:Nat)
 |tup (es:Exs)
 |lst (es:Exs)
 |bin (op:Bo) (a b:Ex)
 |cmp (op:Co) (a b:Ex)
 |chn (o1 o2:Co) (a b c:Ex)
 |and (a b:Ex)
 |or (a b:Ex)
 |not (a:Ex)
 |ite (c a b:Ex)
 |idx (a i:Ex)
 |sli (a:Ex) (lo hi:Op)
 |rev (a:Ex)
 |call (f:Nat) (es:Exs)
 |cal (e:Ex) (es:Exs)
 |lenm (a:Ex)
 |blt (k:Bl) (es:Exs)
 |mth (k:Mt) (o:Ex) (es:Exs)
 |isi (a:Ex) (ts:List Ty)
 |cmr (k:Bool) (n:Nat) (gs:Gens) (elt:Ex)
 |lns (a:Ex)
 |dcl (a:Ex)
 |idc (a b:Ex)
inductive Op where
 |none|some (e:Ex)
inductive Exs where
 |nil|cons (e:Ex) (es:Exs)
inductive Gens where
 |nil|cons (t:Tg) (it:It) (ifs:Exs) (gs:Gens)
inductive It where
 |val (e:Ex)|rng (es:Exs)|enm (es:Exs)
end
mutual
inductive St where
 |nev
 |asg (t:Tg) (e:Ex)
 |par (is:LN) (es:Exs)
 |aset (o i e:Ex)
 |aug (i:Nat) (op:Bo) (e:Ex)
 |expr (e:Ex)
 |ret (e:Ex)
 |ite (c:Ex) (a b:Sts)
 |for (t:Tg) (it:It) (b:Sts)
 |whl (c:Ex) (b:Sts)
 |rsk (e m:Ex)
 |rse (c:Nat) (e:Ex)
 |try (b:Sts) (c:Nat) (x:Nat) (h:Sts)
 |pass
 |brk
 |cnt
inductive Sts where
 |nil|cons (s:St) (ss:Sts)
end
set_option genInjectivity true
inductive Fl where
 |nx (e:En)|brk (e:En)|cnt (e:En)|rt (d:D)
noncomputable def Xa(S:Sto)(n:Nat):Option (LD):=
 match S[n]? with
 |some (.lst xs)=>yz xs|_=>yy
noncomputable def lstM(S:Sto)(n:Nat):Option (LD):=
 match S[n]? with
 |some (.lst xs)=>yz xs|_=>yy
noncomputable def i2(b:Bool):Int:=if b then 1 else 0
mutual
noncomputable def Xav(B:Nat->Option Vc9):D->Option Vc9
 |.non=>yz .none|.bl b=>yz (.bool b)|.int i=>yz (.int i)|.str x=>yz (.str x)|.tup xs=>(datFs B xs).map PyData.tuple|.fro _=>yy|.fn _ _=>yy|.ref n=>B n
noncomputable def datFs(B:Nat->Option Vc9):LD->Option (List Vc9)
 |[]=>yz []|x::xs=>match Xav B x,datFs B xs with
  |some p,yz ps=>yz (p::ps)|_,_=>yy
end
noncomputable def Xbq(S:Sto):Nat->Nat->Option Vc9
 |0,_=>yy|k+1,n=>match S[n]? with
  |some (.lst xs)=>(datFs (Xbq S k) xs).map PyData.list|some (.dct [])=>yz (.dict [])|_=>yy
noncomputable def Yq(S:Sto)(d:D):Option Vc9:=Xav (Xbq S 4) d
noncomputable def Xb1(x y:D):Option Bool:=match x with
 |.str a=>(match y with
  |.str b=>yz (a.cps.toList==b.cps.toList)
  |_=>yy)
 |_=>yy
noncomputable def Xhj(S:Sto)(x y:D):Option Bool:=match x with
 |.ref a=>(match y with
  |.ref b=>(match Xa S a,Xa S b with
   |some xs,yz ys=>if (la xs)=la ys then yy else yz yw
   |_,_=>yy)
  |_=>yy)
 |_=>yy
noncomputable def eqD(S:Sto)(x y:D):Option Bool:=match Xb1 x y with
 |some r=>yz r|none=>match Yq S x,Yq S y with
  |some p,yz q=>if p.canLay0&&q.canLay0&&decide (p.depth<=60) then yz (Vb6 p q) else Xhj S x y|_,_=>Xhj S x y
noncomputable def inD(S:Sto)(x y:D):Option Bool:=match Yq S x,Yq S y with
 |some p,yz (.list qs)=>if p.canLay0&&Vda qs&&decide (p.depth<=60) then yz (qs.any λq=>Vb6 q p) else yy|some p,yz (.tuple qs)=>if p.canLay0&&Vda qs&&decide (p.depth<=60) then yz (qs.any λq=>Vb6 q p) else yy|_,_=>yy
noncomputable def Xs(S:Sto):D->Option (LD)
 |.tup xs=>yz xs|.fro xs=>yz xs|.ref n=>Xa S n|_=>yy
noncomputable def Xi:LD->Option (LI)
 |[]=>yz []|.int i::r=>(Xi r).map (i :: ·)|_::_=>yy
noncomputable def X6:LD->Option (List Bool)
 |[]=>yz []|.bl i::r=>(X6 r).map (i :: ·)|_::_=>yy
noncomputable def ltL:LI->LI->Bool
 |[],[]=>yw|[],_::_=>yx|_::_,[]=>yw|x::xs,y::ys=>if x=y then ltL xs ys else decide (x<y)
noncomputable def ltD:D->D->Option Bool
 |.int i,.int j=>yz (decide (i<j))|.tup xs,.tup ys=>match Xi xs with
  |some a=>match Xi ys with
   |some b=>yz (ltL a b)|none=>yy
  |none=>yy
 |_,_=>yy
noncomputable def Xaq:LD->Option (LL)
 |[]=>yz []|.tup ds::r=>match Xi ds with
  |some k=>(Xaq r).map (k :: ·)|none=>yy
 |_::_=>yy
noncomputable def ddR(acc:LL)(k:LI):LL:=if k∈acc then acc else acc++[k]
noncomputable def ddL(ks:LL):LL:=ks.foldl ddR []
noncomputable def ltK(ks:LL)(i j:Nat):Option Bool:=match ks[i]? with
 |some a=>match ks[j]? with
  |some b=>yz (ltL a b)|none=>yy
 |none=>yy
noncomputable def Xbl{α:Type}(lt:Nat->Nat->Option Bool):PySem.W.KasT α->Option α
 |.ret a=>yz a|.ask i j k=>match lt i j with
  |some b=>Xbl lt (k b)|none=>yy
noncomputable def Xb8(ks:LL):LN->Option (LL)
 |[]=>yz []|i::r=>match ks[i]? with
  |some k=>(Xb8 ks r).map (k :: ·)|none=>yy
noncomputable def X06(ks:LL):Option (LL):=
 if (la ks)<2 then yz ks else if (la ks)<64 then (Xbl (ltK ks) (Vbf (la ks))).bind λp=>if p.size=la ks then Xb8 ks p.toList else yy else yy
noncomputable def Xb2(ks:LL):Option (LL):=
 if (la ks)<2 then yz ks else if (la ks)<64 then (Xbl (ltK (ks.map Vf5)) (Vbf (la ks))).bind λp=>if p.size=la ks then Xb8 ks p.toList else yy else yy
noncomputable def Xks(x:D)(S:Sto):R D:=match x with
 |.ref n=>match (Xa S n).bind Xaq with
  |some ks=>match Xb2 ks with
   |some r=>.ok (.ref (la S)) (S++[.lst (r.map λk=>.tup (k.map D.int))])|none=>.bad
  |none=>.bad
 |_=>.bad
noncomputable def Xds(x:D)(S:Sto):R D:=
 match x with
 |.ref n=>match Xa S n with
  |some xs=>match Xaq xs with
   |some ks=>if (ddL ks).length<1000 then .ok (.int (ddL ks).length) S else .bad|none=>.bad
  |none=>.bad
 |_=>.bad
noncomputable def Xh(S:Sto):D->Option Bool
 |.non=>yz yw|.bl b=>yz b|.int i=>yz (i != 0)|.str x=>if x.length<=big then yz ((x.length:Int) != 0) else yy|.tup xs=>yz (!xs.isEmpty)|.fro xs=>yz (!xs.isEmpty)|.fn _ _=>yy|.ref n=>match S[n]? with
  |some (.lst xs)=>yz (!xs.isEmpty)|_=>yy
noncomputable def Yl(i j:Int):Bool:=(decide (-(18446744073709551616)<i)&&decide (i<18446744073709551616))||(decide (-(18446744073709551616)<j)&&decide (j<18446744073709551616))||(decide (i.natAbs.log2<100000)&&decide (j.natAbs.log2<100000))
noncomputable def Y6(j:Int):Bool:=decide (0<j)&&decide (j.natAbs.log2<9000)
noncomputable def Xw(op:Bo)(x y:D)(S:Sto):R D:=match op with
 |.add=>match x,y with
  |.int i,.int j=>.ok (.int (i+j)) S|.tup x,.tup y=>if (la x)+la y<=big then .ok (.tup (x++y)) S else .bad|.ref n,.ref m=>match lstM S n,lstM S m with
   |some x,yz y=>if (la x)+la y<=big then .ok (.ref (la S)) (S++[.lst (x++y)]) else .bad|_,_=>.bad
  |_,_=>.bad
 |.sub=>match x,y with
  |.int i,.int j=>.ok (.int (i-j)) S|_,_=>.bad
 |.mul=>match x,y with
  |.int i,.int j=>if Yl i j then .ok (.int (i*j)) S else .bad|.tup x,.int k=>if k<1048576/\(la x)*k.toNat<=big/\-(1048576)<k/\x.isEmpty=yw then .ok (.tup (Vi k.toNat x).flatten) S else .bad|.ref n,.int k=>match lstM S n with
   |some x=>if k<1048576/\(la x)*k.toNat<=big/\-(1048576)<k then .ok (.ref (la S)) (S++[.lst (Vi k.toNat x).flatten]) else .bad|none=>.bad
  |_,_=>.bad
 |.fdiv=>match x,y with
  |.int i,.int j=>if Y6 j then .ok (.int (i/j)) S else .bad|_,_=>.bad
 |.mod=>match x,y with
  |.int i,.int j=>if 0<j then .ok (.int (i%j)) S else .bad|_,_=>.bad
 |.pow=>match x,y with
  |.int i,.int j=>if 0<=j/\j<=1000/\i.natAbs<2^63 then .ok (.int (i^j.toNat)) S else .bad|_,_=>.bad
noncomputable def Xfv:Bo->D->D->Sto->R D
 |.add,.int i,.int j,S=>.ok (.int (i+j)) S|.sub,.int i,.int j,S=>.ok (.int (i-j)) S|.mul,.int i,.int j,S=>if Yl i j then .ok (.int (i*j)) S else .bad|_,_,_,_=>.bad
noncomputable def X7(op:Co)(x y:D)(S:Sto):Option Bool:=match op with
 |.eq=>eqD S x y|.ne=>(eqD S x y).map (!·)|.lt=>ltD x y|.le=>match x,y with
  |.int i,.int j=>yz (decide (i<=j))|_,_=>yy
 |.gt=>match x,y with
  |.int i,.int j=>yz (decide (j<i))|_,_=>yy
 |.ge=>match x,y with
  |.int i,.int j=>yz (decide (j<=i))|_,_=>yy
 |.isin=>inD S x y|.notin=>(inD S x y).map (!·)
noncomputable def ixN(n:Nat)(i:Int):Option Nat:=if 0<=i then (if i<n then yz i.toNat else yy) else if-(n:Int)<=i then yz (i+n).toNat else yy
noncomputable def Xat(x:D)(i:D)(S:Sto):Option D:=
 match i with
 |.int k=>match x with
  |_=>(Xs S x).bind λxs=>(ixN (la xs) k).bind λj=>xs[j]?
 |_=>yy
noncomputable def Xj(op:Co)(x y:D)(S:Sto):R D:=match X7 op x y S with
 |some r=>.ok (.bl r) S|none=>.bad
noncomputable def Xah(x i:D)(S:Sto):R D:=match Xat x i S with
 |some d=>.ok d S|none=>.bad
noncomputable def Yu(ifs:En->Sto->R Bool)(body:En->LD->Sto->R LD)(env:En)(acc:LD)(S:Sto):R (LD):=(ifs env S).bind λb S=>if b then body env acc S else .ok acc S
noncomputable def Xfw(n:Nat)(d:Nat):Option Int->Nat
 |none=>d|some i=>if 0<=i then min i.toNat n else (i+n).toNat
noncomputable def cut{α:Type}(xs:List α)(lo hi:Option Int):List α:=
 (xs.drop (Xfw (la xs) 0 lo)).take (Xfw (la xs) (la xs) hi-Xfw (la xs) 0 lo)
noncomputable def Xcn:Option D->Option (Option Int)
 |none=>yz yy|some (.int i)=>yz (yz i)|_=>yy
noncomputable def Xbm(x:D)(lo hi:Option Int)(S:Sto):R D:=
 match x with
 |.tup xs=>.ok (.tup (cut xs lo hi)) S|.ref n=>match Xa S n with
  |some xs=>.ok (.ref (la S)) (S++[.lst (cut xs lo hi)])|none=>.bad
 |_=>.bad
noncomputable def Xs7(x:D)(S:Sto):R D:=
 match x with
 |.tup xs=>.ok (.tup xs.reverse) S|_=>.bad
noncomputable def Xa6(f:Nat)(nm:Str):LD->Bool
 |[]=>yw|.fn g m::r=>(g==f&&decide (m=nm))||Xa6 f nm r|_::r=>Xa6 f nm r
noncomputable def Yd(n:Nat):LD->LD
 |[]=>[]|x::r=>.tup [.int n,x]::Yd (n+1) r
inductive Kd where|non|bool|int|str|tuple|list|dict|exc(c:Nat)
 deriving DecidableEq
noncomputable def kdD(S:Sto):D->Option Kd
 |.non=>yz .non|.bl _=>yz .bool|.int _=>yz .int|.str _=>yz .str|.tup _=>yz .tuple|.fro _=>yz .list|.fn _ _=>yy|.ref n=>match S[n]? with
  |some (.lst _)=>yz .list|some (.dct [])=>yz .dict|some (.exc c)=>yz (.exc c)|_=>yy
noncomputable def tyQ(b i s t l d:Bool):Ty->Option Bool
 |.bool=>yz b|.int=>yz i|.str=>yz s|.tuple=>yz t|.list=>yz l|.dict=>yz d|.cls _=>yy|.valueError=>yy
noncomputable def isT:Kd->Ty->Option Bool
 |.exc c',t=>match t with
  |.cls c=>yz (c==0||c==c')|.valueError=>yz yx|_=>yy
 |.non,t=>tyQ yw yw yw yw yw yw t|.bool,t=>tyQ yx yx yw yw yw yw t|.int,t=>tyQ yw yx yw yw yw yw t|.str,t=>tyQ yw yw yx yw yw yw t|.tuple,t=>tyQ yw yw yw yx yw yw t|.list,t=>tyQ yw yw yw yw yx yw t|.dict,t=>tyQ yw yw yw yw yw yx t
noncomputable def Yv(k:Kd):List Ty->Option Bool
 |[]=>yz yw|t::r=>match isT k t with
  |some yx=>yz yx|some yw=>Yv k r|none=>yy
mutual
noncomputable def szD:Vc9->Nat
 |.none=>4|.bool _=>5|.int _=>1921|.str x=>(reprText x).length|.list xs=>szDs xs+2|.tuple xs=>szDs xs+3|.dict _=>2
noncomputable def szDs:List Vc9->Nat
 |[]=>0|x::xs=>szD x+2+szDs xs
end
mutual
noncomputable def Xfx:Vc9->Bool
 |.none=>yx|.bool _=>yx|.int _=>yx|.str _=>yx|.list xs=>dctEs xs|.tuple xs=>dctEs xs|.dict kvs=>kvs.isEmpty
noncomputable def dctEs:List Vc9->Bool
 |[]=>yx|x::xs=>Xfx x&&dctEs xs
end
noncomputable def Xkt(S:Sto)(x:D):Option Str:=match Yq S x with
 |some p=>if p.showable&&Xfx p&&decide (p.depth<=60)&&decide (szD p<=big) then yz p.shown else yy|none=>yy
noncomputable def Xx(k:Bl)(ds:LD)(S:Sto):R D:=match k with
 |.len=>match ds with
  |[x]=>match x with
   |_=>match Xs S x with
    |some xs=>.ok (.int (la xs)) S|none=>.bad
  |_=>.bad
 |.tuple=>match ds with
  |[x]=>match Xs S x with
   |some xs=>.ok (.tup xs) S|none=>.bad
  |_=>.bad
 |.list=>match ds with
  |[x]=>match Xs S x with
   |some xs=>.ok (.ref (la S)) (S++[.lst xs])|none=>.bad
  |_=>.bad
 |.all=>match ds with
  |[.ref n]=>match (Xa S n).bind X6 with
   |some bs=>.ok (.bl (bs.all id)) S|none=>.bad
  |_=>.bad
 |.smB=>match ds with
  |[x]=>match (Xs S x).bind Xi with
   |some B=>.ok (.int B.sum) S|none=>.bad
  |_=>.bad
 |.max=>match ds with
  |[.int i,.int j]=>.ok (.int (if j>i then j else i)) S|_=>.bad
 |.min=>match ds with
  |[.int i,.int j]=>.ok (.int (if j<i then j else i)) S|_=>.bad
 |.itB=>match ds with
  |[.bl b]=>.ok (.int (i2 b)) S|_=>.bad
 |.repr=>match ds with
  |[x]=>match Xkt S x with
   |some t=>.ok (.str t) S|none=>.bad
  |_=>.bad
noncomputable def Yr(k:Mt)(o:D)(ds:LD)(S:Sto):R D:=match o,ds with
 |.ref n,[x]=>match k with
  |.append=>match lstM S n with
   |some xs=>if (la xs)<big then .ok .non (S.set n (.lst (xs++[x]))) else .bad|none=>.bad
  |.xtd=>match x with
   |.ref k=>match lstM S n with
    |some xs=>match Xa S k with
     |some ys=>if (la xs)+la ys<=big then .ok .non (S.set n (.lst (xs++ys))) else .bad|none=>.bad
    |none=>.bad
   |.tup ys=>match lstM S n with
    |some xs=>if (la xs)+la ys<=big then .ok .non (S.set n (.lst (xs++ys))) else .bad|none=>.bad
   |_=>.bad
  |.index=>match x with
   |.bl b=>match (Xa S n).bind X6 with
    |some bs=>match bs.findIdx? (· == b) with
     |some i=>.ok (.int i) S|none=>.bad
    |none=>.bad
   |.int c=>match (Xa S n).bind Xi with
    |some B=>match B.findIdx? (· == c) with
     |some i=>.ok (.int i) S|none=>.bad
    |none=>.bad
   |_=>.bad
  |.count=>match x with
   |.bl b=>match (Xa S n).bind X6 with
    |some bs=>.ok (.int (bs.countP (· == b):Nat)) S|none=>.bad
   |_=>.bad
 |_,_=>.bad
noncomputable def Xa4(k:Mt)(x:D)(S:Sto):Bool:=match x with
 |.ref n=>(Xa S n).isSome|_=>yw
noncomputable def X5(kvs:List (LI×D))(k:LI):Option D:=(kvs.find? λp=>decide (p.1=k)).map (·.2)
noncomputable def Xai(kvs:List (LI×D))(k:LI)(v:D):List (LI×D):=if (X5 kvs k).isSome then kvs.map (λp=>if p.1=k then (p.1,v) else p) else kvs++[(k,v)]
noncomputable def X07(S:Sto)(n:Nat):Option (List (LI×D)):=match S[n]? with
 |some (.dct kvs)=>yz kvs|_=>yy
noncomputable def Xbr(S:Sto)(n:Nat):Option (List (LI×D)):=match S[n]? with
 |some (.dct kvs)=>yz kvs|some (.fdc kvs)=>yz kvs|_=>yy
noncomputable def Xcy(o i v:D)(S:Sto):R Unit:=
 match o with
 |.ref n=>match i with
  |.int k=>match lstM S n with
   |some xs=>match ixN (la xs) k with
    |some j=>.ok () (S.set n (.lst (xs.set j v)))|none=>.bad
   |none=>.bad
  |_=>.bad
 |_=>.bad
noncomputable def Xea:LD->Option (List (LI×D))
 |[]=>yz []|.tup [.tup ks,v]::r=>match Xi ks with
  |some k=>(Xea r).map ((k,v) :: ·)|none=>yy
 |_::_=>yy
noncomputable def Xku(x:D)(S:Sto):R D:=match x with
 |.ref n=>match (Xa S n).bind Xea with
  |some ps=>if (la ps)<1000 then .ok (.ref (la S)) (S++[.dct (ps.foldl (λkvs p=>Xai kvs p.1 p.2) [])]) else .bad|none=>.bad
 |_=>.bad
noncomputable def Xhk(x y:D)(S:Sto):R D:=match y with
 |.ref n=>match x with
  |.tup ks=>match Xbr S n with
   |some kvs=>match Xi ks with
    |some r=>.ok (.bl (X5 kvs r).isSome) S|none=>.bad
   |none=>.bad
  |_=>.bad
 |_=>.bad
noncomputable def X08(p:LI×D):D:=.tup [.tup (p.1.map D.int),p.2]
inductive Src where
 |con (xs:LD)|ref (n:Nat)|enm (a:Src)
noncomputable def Src.get:Src->Sto->Nat->Option (Option D)
 |.con xs,_,i=>yz xs[i]?|.ref n,S,i=>(Xa S n).map λxs=>xs[i]?|.enm a,S,i=>match a.get S i with
  |some (yz x)=>yz (yz (.tup [.int i,x]))|r=>r
noncomputable def Src.most:Src->Sto->Nat
 |.con xs,_=>la xs|.ref n,S=>((Xa S n).getD []).length|.enm a,S=>a.most S
noncomputable def Yw(S:Sto):D->Option Src
 |.tup xs=>yz (.con xs)|.ref n=>(Xa S n).map λ_=>.ref n|_=>yy
noncomputable def Ys:LD->Option (LD)
 |[.int j]=>if-(1048576)<j/\j<1048576 then yz ((Vm j.toNat).map λ(k:Nat)=>D.int (k:Int)) else yy|[.int i,.int j]=>if-(1048576)<i/\i<1048576/\-(1048576)<j/\j<1048576 then yz ((Vm (j-i).toNat).map λ(k:Nat)=>D.int (i+k)) else yy|[.int i,.int j,.int s]=>if s = -1/\-(1048576)<i/\i<1048576/\-(1048576)<j/\j<1048576 then yz ((Vm (i-j).toNat).map λ(k:Nat)=>D.int (i-k)) else yy|_=>yy
noncomputable def Xn(t:Tg)(d:D)(env:En):Option En:=
 match t with
 |.var i=>yz (env.set i (yz d))|.tup B=>match d with
  |.tup ds=>if (la B)=la ds then yz ((B.zip ds).foldl (λe p=>e.set p.1 (yz p.2)) env) else yy|_=>yy
noncomputable def slots:Tg->LN
 |.var i=>[i]|.tup B=>B
noncomputable def Xqt(t:Tg)(env:En):Bool:=(slots t).all λi=>match env[i]? with
 |some (yz _)=>yw|_=>yx
noncomputable def Yi(get:Sto->Nat->Option (Option D))(t:Tg)(body:En->LD->Sto->R LD):Nat->Nat->En->LD->Sto->R (LD)
 |0,_,_,_,_=>.bad|k+1,i,env,acc,S=>match get S i with
  |none=>.bad|some yy=>.ok acc S|some (yz d)=>match Xn t d env with
   |none=>.bad|some B=>match body B acc S with
    |.ok J S'=>Yi get t body k (i+1) B J S'|_=>.bad
noncomputable abbrev Fn:=Nat->LD->Sto->R D
section
variable(F:Fn)(G:LD)
mutual
noncomputable def ev:Ex->En->Sto->R D
 |.nev,_,_=>.bad|.var i,env,S=>match env[i]? with
  |some (yz d)=>.ok d S|_=>.bad
 |.cst d,_,S=>.ok d S|.neg a,env,S=>(ev a env S).bind λx S=>match x with
  |.int i=>.ok (.int (-i)) S|_=>.bad
 |.glb k,_,S=>match G[k]? with
  |some d=>.ok d S|none=>.bad
 |.tup es,env,S=>(evs es env S).bind λxs S=>if (la xs)<=big then .ok (.tup xs) S else .bad|.lst es,env,S=>(evs es env S).bind λxs S=>if (la xs)<=big then .ok (.ref (la S)) (S++[.lst xs]) else .bad|.bin op a b,env,S=>(ev a env S).bind λx S=>(ev b env S).bind λy S=>Xw op x y S|.cmp op a b,env,S=>(ev a env S).bind λx S=>(ev b env S).bind λy S=>Xj op x y S|.chn o1 o2 a b c,env,S=>(ev a env S).bind λx S=>(ev b env S).bind λy S=>match X7 o1 x y S with
  |some yx=>(ev c env S).bind λz S=>Xj o2 y z S|some yw=>.ok (.bl yw) S|none=>.bad
 |.and a b,env,S=>(ev a env S).bind λx S=>match Xh S x with
  |some yx=>ev b env S|some yw=>.ok x S|none=>.bad
 |.or a b,env,S=>(ev a env S).bind λx S=>match Xh S x with
  |some yx=>.ok x S|some yw=>ev b env S|none=>.bad
 |.not a,env,S=>(ev a env S).bind λx S=>match Xh S x with
  |some r=>.ok (.bl (!r)) S|none=>.bad
 |.ite c a b,env,S=>(ev c env S).bind λx S=>match Xh S x with
  |some yx=>ev a env S|some yw=>ev b env S|none=>.bad
 |.idx a i,env,S=>(ev a env S).bind λx S=>(ev i env S).bind λy S=>Xah x y S|.sli a lo hi,env,S=>(ev a env S).bind λx S=>(evo lo env S).bind λl S=>(evo hi env S).bind λh S=>match Xcn l,Xcn h with
  |some l,yz h=>Xbm x l h S|_,_=>.bad
 |.rev a,env,S=>(ev a env S).bind λx S=>Xs7 x S|.call f es,env,S=>(evs es env S).bind λxs S=>F f xs S|.cal e es,env,S=>(ev e env S).bind λx S=>match x with
  |.fn f nm=>if Xa6 f nm G then (evs es env S).bind λxs S=>F f xs S else .bad|_=>.bad
 |.lenm a,env,S=>(ev a env S).bind λx S=>match Xs S x with
  |some xs=>.ok (.ref (la S)) (S++[.lst (Yd 0 xs)])|none=>.bad
 |.blt k es,env,S=>(evs es env S).bind λxs S=>Xx k xs S|.mth k o es,env,S=>(ev o env S).bind λx S=>if Xa4 k x S then (evs es env S).bind λxs S=>Yr k x xs S else .bad|.isi a ts,env,S=>(ev a env S).bind λx S=>match (kdD S x).bind λk=>Yv k ts with
  |some r=>.ok (.bl r) S|none=>.bad
 |.cmr k n Y elt,env,S=>match Y with
  |.nil=>.bad|.cons t it ifs Y=>(evit it env S).bind λL S=>
   (Yi (L.get) t (Yu (λenv S=>evts ifs env S) (λenv B S=>
     match Y with
     |.nil=>(ev elt env S).bind λy S=>if (la B)<big then .ok (B++[y]) S else .bad|.cons t2 it2 ifs2 U=>match U with
      |.nil=>if Xqt t2 env then (evit it2 env S).bind λJ S=>Yi (J.get) t2 (Yu (λenv S=>evts ifs2 env S) (λenv B S=>(ev elt env S).bind λy S=>if (la B)<big then .ok (B++[y]) S else .bad)) (J.most S+1) 0 env B S else .bad
      |.cons ..=>.bad)) (L.most S+1) 0 (env++Vi n yy) [] S).bind λB S=>
   if k then .bad else .ok (.ref (la S)) (S++[.lst B])
 |.lns a,env,S=>(ev a env S).bind λx S=>Xds x S|.dcl a,env,S=>(ev a env S).bind λx S=>Xku x S|.idc a b,env,S=>(ev a env S).bind λx S=>(ev b env S).bind λy S=>Xhk x y S
noncomputable def evo:Op->En->Sto->R (Option D)
 |.none,_,S=>.ok yy S|.some e,env,S=>(ev e env S).bind λx S=>.ok (yz x) S
noncomputable def evs:Exs->En->Sto->R (LD)
 |.nil,_,S=>.ok [] S|.cons e es,env,S=>(ev e env S).bind λx S=>(evs es env S).bind λxs S=>.ok (x::xs) S
noncomputable def evts:Exs->En->Sto->R Bool
 |.nil,_,S=>.ok yx S|.cons e es,env,S=>(ev e env S).bind λx S=>match Xh S x with
  |some yx=>evts es env S|some yw=>.ok yw S|none=>.bad
noncomputable def evit:It->En->Sto->R Src
 |.val e,env,S=>(ev e env S).bind λx S=>match Yw S x with
  |some s=>.ok s S|none=>.bad
 |.rng es,env,S=>(evs es env S).bind λxs S=>match Ys xs with
  |some ds=>.ok (.con ds) S|none=>.bad
 |.enm es,env,S=>(evs es env S).bind λxs S=>match xs with
  |[x]=>match Yw S x with
   |some s=>.ok (.enm s) S|none=>.bad
  |_=>.bad
end
mutual
noncomputable def X09:St->Bool
 |.expr _=>yx|.ret _=>yx|.pass=>yx|.ite _ a b=>nasgs a&&nasgs b|.rse _ _=>yx|_=>yw
noncomputable def nasgs:Sts->Bool
 |.nil=>yx|.cons s ss=>X09 s&&nasgs ss
end
noncomputable def Ye(get:Sto->Nat->Option (Option D))(t:Tg)(body:En->Sto->R Fl):Nat->Nat->En->Sto->R Fl
 |0,_,_,_=>.bad|k+1,i,env,S=>match get S i with
  |none=>.bad|some yy=>.ok (.nx env) S|some (yz d)=>match Xn t d env with
   |none=>.bad|some B=>match body B S with
    |.ok (.nx e) S'=>Ye get t body k (i+1) e S'|.ok (.cnt e) S'=>Ye get t body k (i+1) e S'|.ok (.brk e) S'=>.ok (.nx e) S'|.ok (.rt d) S'=>.ok (.rt d) S'|.ex n S'=>.ex n S'|.bad=>.bad
noncomputable def Yj(B:En->Sto->R Bool)(body:En->Sto->R Fl):Nat->En->Sto->R Fl
 |0,_,_=>.bad|k+1,env,S=>match B env S with
  |.ok yw S'=>.ok (.nx env) S'|.ok yx S'=>match body env S' with
   |.ok (.nx e) S'=>Yj B body k e S'|.ok (.cnt e) S'=>Yj B body k e S'|.ok (.brk e) S'=>.ok (.nx e) S'|.ok (.rt d) S'=>.ok (.rt d) S'|_=>.bad
  |_=>.bad
mutual
noncomputable def exe:St->En->Sto->R Fl
 |.nev,_,_=>.bad|.asg t e,env,S=>(ev F G e env S).bind λx S=>match Xn t x env with
  |some env=>.ok (.nx env) S|none=>.bad
 |.par is es,env,S=>(evs F G es env S).bind λxs S=>if (la is)=la xs then .ok (.nx ((is.zip xs).foldl (λe p=>e.set p.1 (yz p.2)) env)) S else .bad|.aset o i e,env,S=>(ev F G e env S).bind λv S=>(ev F G o env S).bind λx S=>(ev F G i env S).bind λy S=>(Xcy x y v S).bind λ_ S=>.ok (.nx env) S|.aug i op e,env,S=>match env[i]? with
  |some (yz x)=>(ev F G e env S).bind λy S=>(Xfv op x y S).bind λz S=>.ok (.nx (env.set i (yz z))) S|_=>.bad
 |.expr e,env,S=>(ev F G e env S).bind λ_ S=>.ok (.nx env) S|.ret e,env,S=>(ev F G e env S).bind λx S=>.ok (.rt x) S|.ite c a b,env,S=>(ev F G c env S).bind λx S=>match Xh S x with
  |some yx=>pb a env S|some yw=>pb b env S|none=>.bad
 |.for t it b,env,S=>(evit F G it env S).bind λB S=>Ye B.get t (λenv S=>pb b env S) (B.most S+1) 0 env S
 |.whl c b,env,S=>Yj (λenv S=>(ev F G c env S).bind λx S=>match Xh S x with
   |some r=>.ok r S
   |none=>.bad) (λenv S=>pb b env S) 100000 env S
 |.rsk e m,env,S=>(((ev F G e env S).bind λx S=>Xks x S).bind λx S=>(evo F G .none env S).bind λl S=>(evo F G (.some m) env S).bind λh S=>match Xcn l,Xcn h with
  |some l,yz h=>Xbm x l h S
  |_,_=>.bad).bind λx S=>.ok (.rt x) S
 |.rse c e,env,S=>(ev F G e env S).bind λ_ S=>.ex (la S) (S++[.exc c])|.try b c x h,env,S=>if nasgs b then
   match pb b env S with
   |.ex n S'=>match S'[n]? with
    |some (.exc c')=>if c==0||c==c' then
      match pb h (env.set x (yz (.ref n))) S' with
      |.ok (.rt d) S''=>.ok (.rt d) S''|_=>.bad
     else .bad|_=>.bad
   |r=>r
  else .bad|.pass,env,S=>.ok (.nx env) S|.brk,env,S=>.ok (.brk env) S|.cnt,env,S=>.ok (.cnt env) S
noncomputable def pb:Sts->En->Sto->R Fl
 |.nil,env,S=>.ok (.nx env) S|.cons s ss,env,S=>match exe s env S with
  |.ok (.nx e) S'=>pb ss e S'|r=>r
end
structure Df where
 np:Nat
 nl:Nat
 body:Sts
noncomputable def den(d:Df)(ds:LD)(S:Sto):R D:=
 if (la ds)=d.np then
  match pb F G d.body (ds.map yz++Vi (d.nl-d.np) yy) S with
  |.ok (.rt v) S=>.ok v S|.ok (.nx _) S=>.ok .non S|.ok _ _=>.bad|.ex n S=>.ex n S|.bad=>.bad
 else .bad
end
noncomputable def FT(T:List Df)(G:LD):Nat->Fn
 |0=>λ_ _ _=>.bad|k+1=>λf ds S=>match T[f]? with
  |some d=>den (FT T G k) G d ds S|none=>.bad
def FrL(K:Ve)(H:Hp)(a:Addr)(vs:LW):Prop:=
 (∃o,H a=yz (.frz o (.lst vs))) \/
  ∃(o:Obj) (its:AV) (n:Nat),K.lookup a=yz o/\o.cls=.type "list" /\ o.dict=yy/\o.data=.seq its n/\its.size<=Vu/\Vals vs its.toList
theorem FrL.sq{K:Ve}{H:Hp}{a:Addr}{vs:LW}(h:FrL K H a vs):SqL K H a vs:=by
 rcases h with⟨o,h⟩|h;·exact .inl (.inr ⟨o,h⟩)
 ·exact .inr h
mutual
def RD(K:Ve)(ρ:LR)(H:Hp):D->V->Prop
 |.non,v=>v=.non|.bl b,v=>v=.bl b|.int i,v=>v=.int i|.str x,v=>v=.str x|.tup xs,v=>∃a vs,v=.ref a/\SqT K H a vs/\RDs K ρ H xs vs|.fro xs,v=>∃a vs,v=.ref a/\FrL K H a vs/\RDs K ρ H xs vs|.ref n,v=>∃a,v=.ref a/\ρ[n]?=yz a|.fn _ nm,v=>∃a,v=.ref a/\Vaa K Ub nm=yz (yz (.ref a))
def RDs(K:Ve)(ρ:LR)(H:Hp):LD->LW->Prop
 |[],vs=>vs=[]|x::xs,vs=>∃v r,vs=v::r/\RD K ρ H x v/\RDs K ρ H xs r
end
noncomputable def clsNames:LS:=["FaceError","NoNet","NoFace","NoPoint","NotApart","TooMany","NoText","NoRow","NoNumber","NotLevel","NoCrowd","NoWay","NotClosed","NoSwap","NoPlaces","NoDeed","NoLine"]
noncomputable def Xbe(c:Nat):Option Str:=(clsNames[c]?).filter λx=>!decide (x="")
theorem Xkv(h:Xbe c=yz x):c<la clsNames:=by
 unfold Xbe at h;cases q:clsNames[c]? with
 |none=>rw[q]at h;cases h|some _=>exact(Vh.mp q).1
noncomputable def Y9(K:Ve)(c:Nat):Option Addr:=(Xbe c).bind λnm=>match Vaa K Ub nm with
 |some (yz (.ref C))=>yz C|_=>yy
def ExcO(C a:Addr)(h:Heap):Prop:=∃B vs J,h.get? a=yz B/\B.cls=.ref C/\B.data=.fields vs/\vs[0]?=yz J/\1<vs.size
theorem ExcO.ok(x:ExcO C a h):ObjOk P w H h a (.ext (ExcO C a)):=
 ⟨x,let ⟨oe,_,_,e,_⟩:=x;⟨oe,e⟩,λh1 h2 ⟨oe,vs,a0,e,r⟩ k=>⟨oe,vs,a0,k _ e,r⟩⟩
def Xo1(a:Addr)(o:Obj)(xs:List (LI×Addr×V)):Prop:=(a==Vbq)=yw/\(la xs)<=Vu/\o.ExactDict/\∃(ys:List (LI×Addr×Vb)) (es:Array DictEntry) (ep:Nat),
 Paired (λp q=>p.1=q.1/\p.2.1=q.2.1/\RelV p.2.2 q.2.2) xs ys/\o.data=.dict es ep/\(∀P w,es.toList=ys.map (entryOfKey (Vfx (Ver P w))))/\(ys.map (·.1)).Nodup
def DicO(a:Addr)(xs:List (LI×Addr×V))(h:Heap):Prop:=∃o,h.get? a=yz o/\Xo1 a o xs
theorem DicO.ok(x:DicO a xs h):ObjOk P w H h a (.ext (DicO a xs)):=
 ⟨x,let ⟨o,e,_⟩:=x;⟨o,e⟩,λh1 h2 ⟨o,e,r⟩ k=>⟨o,k _ e,r⟩⟩
abbrev DX(K:Ve)(ρ:LR)(H:Hp):List (LI×D)->List (LI×Addr×V)->Prop:=Paired λp q=>p.1=q.1/\SqT K H q.2.1 (p.1.map V.int)/\RD K ρ H p.2 q.2.2
def OR(K:Ve)(ρ:LR)(H:Hp)(a:Addr):O->Prop
 |.lst xs=>∃vs,H a=yz (.lst vs)/\RDs K ρ H xs vs|.dct kvs=>(kvs=[]/\H a=yz (.dK []))\/(kvs≠[]/\∃xs,H a=yz (.ext (DicO a xs))/\DX K ρ H kvs xs)|.fdc kvs=>∃o u xs,H a=yz (.frz o u)/\(∀ys,u≠.tup ys)/\(∀ys,u≠.lst ys)/\Xo1 a o xs/\DX K ρ H kvs xs|.exc c=>∃C,Y9 K c=yz C/\H a=yz (.ext (ExcO C a))
theorem OR.some{K:Ve}{ρ:LR}{H:Hp}{a:Addr}{o:O}(h:OR K ρ H a o):∃u,H a=yz u/\∀xs,u≠.tup xs:=by
 cases o with
 |lst xs=>obtain⟨vs,e,_⟩:=h;exact⟨_,e,λ_ z=>(nomatch z)⟩|dct kvs=>
  rcases h with⟨_,e⟩|⟨_,xs,e,_⟩;·exact⟨_,e,λ_ z=>(nomatch z)⟩
  ·exact⟨_,e,λ_ z=>(nomatch z)⟩|fdc kvs=>obtain⟨o,u,xs,e,_⟩:=h;exact⟨_,e,λ_ z=>(nomatch z)⟩|exc c=>obtain⟨C,_,e⟩:=h;exact⟨_,e,λ_ z=>(nomatch z)⟩
theorem OR.nt{K:Ve}{ρ:LR}{H:Hp}{a:Addr}{o:O}{q:Str}(h:OR K ρ H a o):H a≠Option.some (HO.tbl q):=λz=>by
 cases o with
 |lst xs=>obtain⟨vs,e,_⟩:=h;rw[z]at e;cases e|dct kvs=>rcases h with⟨_,e⟩|⟨_,xs,e,_⟩<;>(rw[z]at e;cases e)
 |fdc kvs=>obtain⟨o,u,xs,e,_⟩:=h;rw[z]at e;cases e|exc c=>obtain⟨C,_,e⟩:=h;rw[z]at e;cases e
noncomputable def mks:LS:=["_law_first_ones","first_wrong"]
noncomputable def Xaj(nm:Str):Str:=nm ++ ".<locals>." ++ "<lambda>"
noncomputable def Xco(K:Ve):List (Addr×Str):=mks.filterMap λnm=>(PySem.W.tabIn K nm).map λp=>(p.2,Xaj nm)
def TabH(K:Ve)(H:Hp):Prop:=∀P q,(Xco K).lookup P=yz q->H P=yz (.tbl q)
theorem TabH.upd{K:Ve}{H:Hp}{p:Addr}{u:HO}(t:TabH K H)(h:∀q,H p≠yz (.tbl q)):TabH K (L2.upd H p u):=λP q e=>by rw[Xe λz=>h q (by rw[<-z];exact t P q e)];exact t P q e
structure SR(K:Ve)(ρ:LR)(S:Sto)(H:Hp):Prop where
 tab:TabH K H
 len:(la ρ)=la S
 nd:ρ.Nodup
 ob:∀(n:Nat) a o,ρ[n]?=yz a->S[n]?=yz o->OR K ρ H a o
structure Mon(K:Ve)(ρ ρ':LR)(H H':Hp):Prop where
 pre:∀(n:Nat) a,ρ[n]?=yz a->ρ'[n]?=yz a
 tup:∀a xs,SqT K H a xs->SqT K H' a xs
 frz:∀a o u,H a=yz (.frz o u)->H' a=yz (.frz o u)
structure Stp(K:Ve)(ρ ρ':LR)(H H':Hp):Prop extends Mon K ρ ρ' H H' where
 new:∀a∈ρ',a∈ρ\/H a=yy
 keep:∀a o,H a=yz o->a ∉ ρ->H' a=yz o
section
variable{K:Ve}{ρ ρ' ρ'':LR}{H H' H'':Hp}{S:Sto}
theorem Mon.fro(x:Mon K ρ ρ' H H')(a:Addr)(xs:LW)(h:FrL K H a xs):FrL K H' a xs:=by
 rcases h with⟨o,h⟩|h;·exact .inl ⟨o,x.frz _ _ _ h⟩
 ·exact .inr h
theorem Stp.refl:Stp K ρ ρ H H:=⟨⟨λ_ _ h=>h,λ_ _ h=>h,λ_ _ _ h=>h⟩,λ_ h=>.inl h,λ_ _ h _=>h⟩
theorem Stp.trans(x:Stp K ρ ρ' H H')(y:Stp K ρ' ρ'' H' H''):Stp K ρ ρ'' H H'' where
 pre:=λn a h=>y.pre n a (x.pre n a h)
 new:=λa h=>by
  rcases y.new a h with h|h;·exact x.new a h
  ·cases e:H a with
   |none=>exact .inr rfl|some o=>
    by_cases B:a∈ρ;·exact .inl B
    ·rw[x.keep a o e B]at h;cases h
 keep:=λa o h n=>y.keep a o (x.keep a o h n) λB=>by
  rcases x.new a B with z|z;·exact n z
  ·rw[h]at z;cases z
 tup:=λa xs h=>y.tup a xs (x.tup a xs h)
 frz:=λa o u h=>y.frz a o u (x.frz a o u h)
mutual
theorem RD.mono'(x:Mon K ρ ρ' H H'):∀(d:D) (v:V),RD K ρ H d v->RD K ρ' H' d v
 |.non=>λv h=>by simpa only[RD] using h|.bl b=>λv h=>by simpa only[RD] using h|.int i=>λv h=>by simpa only[RD] using h|.str y=>λv h=>by simpa only[RD] using h|.tup xs=>λv h=>by simp only[RD]at h ⊢;obtain⟨a,vs,e,h1,h2⟩:=h;exact⟨a,vs,e,x.tup a vs h1,RDs.mono' x xs vs h2⟩|.fro xs=>λv h=>by simp only[RD]at h ⊢;obtain⟨a,vs,e,h1,h2⟩:=h;exact⟨a,vs,e,x.fro a vs h1,RDs.mono' x xs vs h2⟩|.ref n=>λv h=>by simp only[RD]at h ⊢;obtain⟨a,e,h⟩:=h;exact⟨a,e,x.pre n a h⟩|.fn f nm=>λv h=>by simpa only[RD] using h
theorem RDs.mono'(x:Mon K ρ ρ' H H'):∀(ds:LD) (vs:LW),RDs K ρ H ds vs->RDs K ρ' H' ds vs
 |[]=>λvs h=>by simpa only[RDs] using h|d::ds=>λvs h=>by simp only[RDs]at h ⊢;obtain⟨v,r,e,h1,h2⟩:=h;exact⟨v,r,e,RD.mono' x d v h1,RDs.mono' x ds r h2⟩
end
theorem RD.mono(x:Stp K ρ ρ' H H')(d:D)(v:V)(h:RD K ρ H d v):RD K ρ' H' d v:=RD.mono' x.toMon d v h
theorem RDs.mono(x:Stp K ρ ρ' H H')(ds:LD)(vs:LW)(h:RDs K ρ H ds vs):RDs K ρ' H' ds vs:=RDs.mono' x.toMon ds vs h
theorem RDs.nil:RDs K ρ H [] []:=by simp only[RDs]
theorem RDs.cons(h:RD K ρ H d v)(t:RDs K ρ H ds vs):RDs K ρ H (d::ds) (v::vs):=by simp only[RDs];exact⟨v,vs,rfl,h,t⟩
theorem RDs.length:∀ {ds:LD} {vs:LW},RDs K ρ H ds vs->la ds=la vs
 |[],vs,h=>by simp only[RDs]at h;subst h;rfl|d::ds,vs,h=>by simp only[RDs]at h;obtain⟨v,r,rfl,_,h2⟩:=h;simp[RDs.length h2]
theorem RDs.append:∀ {ds es:LD} {vs us:LW},RDs K ρ H ds vs->RDs K ρ H es us->RDs K ρ H (ds++es) (vs++us)
 |[],es,vs,us,h,t=>by simp only[RDs]at h;subst h;exact t|d::ds,es,vs,us,h,t=>by simp only[RDs]at h;obtain⟨v,r,rfl,h1,h2⟩:=h;exact RDs.cons h1 (RDs.append h2 t)
theorem RDs.get:∀ {ds:LD} {vs:LW} {i:Nat} {d:D},RDs K ρ H ds vs->ds[i]?=yz d->∃v,vs[i]?=yz v/\RD K ρ H d v
 |[],vs,i,d,h,e=>by simp at e|x::ds,vs,0,d,h,e=>by simp only[RDs]at h;obtain⟨v,r,rfl,h1,h2⟩:=h;simp at e;subst e;exact⟨v,rfl,h1⟩|x::ds,vs,i+1,d,h,e=>by simp only[RDs]at h;obtain⟨v,r,rfl,h1,h2⟩:=h;obtain⟨J,B,h'⟩:=RDs.get (i:=i) h2 (by simpa using e);exact⟨J,by simpa using B,h'⟩
theorem RDs.none{ds:LD}{vs:LW}{i:Nat}(h:RDs K ρ H ds vs)(e:ds[i]?=yy):vs[i]?=none:=by have:=h.length;rw[Uu]at e ⊢;omega
theorem RDs.set(hv:RD K ρ H d v):∀ {ds:LD} {vs:LW} (i:Nat),RDs K ρ H ds vs->RDs K ρ H (ds.set i d) (vs.set i v)
 |[],vs,i,h=>by simp only[RDs]at h;subst h;exact RDs.nil|x::ds,vs,0,h=>by simp only[RDs]at h;obtain⟨w,r,rfl,h1,h2⟩:=h;exact RDs.cons hv h2|x::ds,vs,i+1,h=>by simp only[RDs]at h;obtain⟨w,r,rfl,h1,h2⟩:=h;exact RDs.cons h1 (RDs.set hv i h2)
theorem RDs.drop:∀ {ds:LD} {vs:LW} (n:Nat),RDs K ρ H ds vs->RDs K ρ H (ds.drop n) (vs.drop n)
 |ds,vs,0,h=>h|[],vs,n+1,h=>by simp only[RDs]at h;subst h;exact RDs.nil|x::ds,vs,n+1,h=>by simp only[RDs]at h;obtain⟨w,r,rfl,h1,h2⟩:=h;exact RDs.drop n h2
theorem RDs.take:∀ {ds:LD} {vs:LW} (n:Nat),RDs K ρ H ds vs->RDs K ρ H (ds.take n) (vs.take n)
 |ds,vs,0,h=>RDs.nil|[],vs,n+1,h=>by simp only[RDs]at h;subst h;exact RDs.nil|x::ds,vs,n+1,h=>by simp only[RDs]at h;obtain⟨w,r,rfl,h1,h2⟩:=h;exact RDs.cons h1 (RDs.take n h2)
theorem RDs.ints:∀(ns:LI),RDs K ρ H (ns.map D.int) (ns.map V.int)
 |[]=>RDs.nil|n::ns=>RDs.cons (by simp only[RD]) (RDs.ints ns)
theorem RDs.ints_of:∀ {ns:LI} {vs:LW},RDs K ρ H (ns.map D.int) vs->vs=ns.map V.int
 |[],vs,h=>by simp only[Uk,RDs]at h;exact h|n::ns,vs,h=>by simp only[Uk,RDs]at h;obtain⟨v,r,rfl,h1,h2⟩:=h;simp only[RD]at h1;subst h1;rw[RDs.ints_of h2];rfl
theorem DX.mono(x:Mon K ρ ρ' H H')(h:DX K ρ H kvs xs):DX K ρ' H' kvs xs:=Paired.mapP h λp q ⟨h1,h2,h3⟩=>⟨h1,x.tup _ _ h2,RD.mono' x _ _ h3⟩
theorem OR.mono'(x:Mon K ρ ρ' H H')(h:OR K ρ H a o)(e:H' a=H a):OR K ρ' H' a o:=by
 cases o with
 |lst xs=>obtain⟨vs,h1,h2⟩:=h;exact⟨vs,e.trans h1,RDs.mono' x xs vs h2⟩|dct kvs=>
  rcases h with⟨h1,h2⟩|⟨h0,xs,h1,h2⟩;·exact .inl ⟨h1,e.trans h2⟩
  ·exact .inr ⟨h0,xs,e.trans h1,h2.mono x⟩|fdc kvs=>obtain⟨o,u,xs,h1,h2,J,B,L⟩:=h;exact⟨o,u,xs,e.trans h1,h2,J,B,L.mono x⟩|exc c=>obtain⟨C,h1,h2⟩:=h;exact⟨C,h1,e.trans h2⟩
theorem OR.mono(x:Stp K ρ ρ' H H')(h:OR K ρ H a o)(e:H' a=H a):OR K ρ' H' a o:=OR.mono' x.toMon h e
theorem SR.at(r:SR K ρ S H){n:Nat}{a:Addr}(h:ρ[n]?=yz a):∃o,S[n]?=yz o/\OR K ρ H a o:=by
 have hn:n<la S:=by rw[<-r.len];exact(Vh.mp h).1
 exact⟨S[n],by simp[hn],r.ob n a _ h (by simp[hn])⟩
theorem SR.adr(r:SR K ρ S H){n:Nat}(h:S[n]?=yz o):∃a,ρ[n]?=yz a/\OR K ρ H a o:=by
 have hn:n < ρ.length:=by rw[r.len];exact(Vh.mp h).1
 exact⟨ρ[n],by simp[hn],r.ob n _ o (by simp[hn]) h⟩
theorem SR.mem(r:SR K ρ S H){a:Addr}(h:a∈ρ):∃u,H a=yz u/\∀xs,u≠.tup xs:=by obtain⟨n,hn,e⟩:=Vbr.mp h;obtain⟨o,_,q⟩:=r.at (n:=n) (a:=a) (by simp[hn,e]);exact q.some
theorem Stp.upd(hp:H p=yy):Stp K ρ ρ H (L2.upd H p o) where
 pre:=λ_ _ h=>h
 new:=λ_ h=>.inl h
 keep:=λa u h _=>by rw[Xe (Xk h hp)];exact h
 tup:=λa xs h=>by
  rcases h with(h|⟨u,h⟩)|h;·exact .inl (.inl (by rw[Xe (Xk h hp)];exact h))
  ·exact .inl (.inr ⟨u,by rw[Xe (Xk h hp)];exact h⟩)
  exact .inr h
 frz:=λa o u h=>by rw[Xe (Xk h hp)];exact h
theorem SR.upd(r:SR K ρ S H){p:Addr}{o:HO}(hp:H p=yy):SR K ρ S (L2.upd H p o):=
 ⟨r.tab.upd λq=>(by rw[hp];exact λz=>nomatch z),r.len,r.nd,λn a ob h1 h2=>by have q:=r.ob n a ob h1 h2;obtain⟨u,B,_⟩:=q.some;exact q.mono (Stp.upd hp) (Xe (Xk B hp))⟩
theorem Stp.new1(hp:H p=yy):Stp K ρ (ρ++[p]) H (L2.upd H p o) where
 pre:=λn a h=>by rw[Vs (Vh.mp h).1];exact h
 new:=λa h=>by
  rcases Vao.mp h with h|h;·exact .inl h
  ·rw[U4.mp h];exact .inr hp
 keep:=(Stp.upd (ρ:=ρ) (K:=K) hp).keep
 tup:=(Stp.upd (ρ:=ρ) (K:=K) hp).tup
 frz:=(Stp.upd (ρ:=ρ) (K:=K) hp).frz
theorem SR.new1(r:SR K ρ S H){p:Addr}{u:HO}{o:O}(hp:H p=yy)(Y:OR K (ρ++[p]) (L2.upd H p u) p o):SR K (ρ++[p]) (S++[o]) (L2.upd H p u):=by
 have J:p ∉ ρ:=λh=>by obtain⟨w,B,_⟩:=r.mem h;rw[hp]at B;cases B
 refine⟨r.tab.upd λq=>(by rw[hp];exact λz=>nomatch z),by simp[r.len],?_,λn a ob h1 h2=>?_⟩;·rw[Vg2];refine⟨r.nd,by simp,λx U y L=>?_⟩;rw[U4.mp L];exact λz=>J (z▸U)
 ·by_cases hn:n < ρ.length;·rw[Vs hn]at h1;rw[Vs (by rw[<-r.len];exact hn)]at h2;have q:=r.ob n a ob h1 h2;obtain⟨w,B,_⟩:=q.some;exact q.mono (Stp.new1 hp) (Xe (Xk B hp))
  ·have e:n=la ρ:=by
    have:=(Vh.mp h1).1;simp at this;omega
   subst e;simp at h1;rw[r.len]at h2;simp at h2;subst h1 h2;exact Y
theorem Stp.chg{n:Nat}{a:Addr}{o:O}{u:HO}(r:SR K ρ S H)(J:ρ[n]?=yz a)(hz:∀o u,H a≠yz (.frz o u)):Stp K ρ ρ H (L2.upd H a u):=by
 have B:a∈ρ:=V6 J;obtain⟨w,L,h1⟩:=r.mem B;refine⟨⟨λ_ _ h=>h,λb xs h=>?_,λb o u h=>?_⟩,λ_ h=>.inl h,λb o h U=>?_⟩
 ·rcases h with(h|⟨v,h⟩)|h;·exact .inl (.inl (by rw[Xe (λz=>by subst z;rw[L]at h;exact h1 _ (Uc h))];exact h))
  ·exact .inl (.inr ⟨v,by rw[Xe (λz=>by subst z;exact hz _ _ h)];exact h⟩)
  exact .inr h
 ·rw[Xe (λz=>by subst z;exact hz _ _ h)];exact h
 rw[Xe (λz=>U (by rw[z];exact B))];exact h
theorem SR.chg{n:Nat}{a:Addr}{o:O}{u:HO}(r:SR K ρ S H)(B:ρ[n]?=yz a)(hz:∀o u,H a≠yz (.frz o u))(L:OR K ρ (L2.upd H a u) a o):SR K ρ (S.set n o) (L2.upd H a u):=by
 refine⟨r.tab.upd λq=>let ⟨_,_,h⟩:=r.at B;h.nt,by simp[r.len],r.nd,λm b ob h1 h2=>?_⟩;have hn:n<la S:=by rw[<-r.len];exact(Vh.mp B).1
 by_cases e:m=n;·subst e;rw[B]at h1;cases h1;rw[Va0 hn]at h2;cases h2;exact L
 ·rw[Vab (Ne.symm e)]at h2;have q:=r.ob m b ob h1 h2;refine q.mono (Stp.chg (S:=S) (o:=o) r B hz) (Xe λz=>e ?_);subst z;obtain⟨h3,J⟩:=Vh.mp h1;obtain⟨Y,U⟩:=Vh.mp B;exact(List.getElem_inj r.nd).mp (J.trans U.symm)
theorem Mon.own{D:Addr}{u:HO}{vs:LW}(hd:H D=yz (.lst vs)):Mon K ρ ρ H (L2.upd H D u) where
 pre:=λ_ _ h=>h
 tup:=λa xs h=>by
  rcases h with(h|⟨v,h⟩)|h;·exact .inl (.inl (by rw[Xe (λz=>by subst z;rw[hd]at h;cases h)];exact h))
  ·exact .inl (.inr ⟨v,by rw[Xe (λz=>by subst z;rw[hd]at h;cases h)];exact h⟩)
  exact .inr h
 frz:=λa o u h=>by rw[Xe (λz=>by subst z;rw[hd]at h;cases h)];exact h
theorem SR.own{D:Addr}{u:HO}{vs:LW}(r:SR K ρ S H)(hd:H D=yz (.lst vs))(hn:D ∉ ρ):SR K ρ S (L2.upd H D u):=
 ⟨r.tab.upd λq=>(by rw[hd];exact λz=>nomatch z),r.len,r.nd,λn a ob h1 h2=>(r.ob n a ob h1 h2).mono' (Mon.own hd) (Xe λz=>hn (by rw[<-z];exact V6 h1))⟩
theorem Stp.own{D:Addr}{u:HO}{vs:LW}{ρ0:LR}(x:Stp K ρ0 ρ H0 H)(h0:H0 D=yy)(hd:H D=yz (.lst vs)):Stp K ρ0 ρ H0 (L2.upd H D u) where
 pre:=x.pre
 tup:=λa xs h=>(Mon.own (ρ:=ρ) hd).tup a xs (x.tup a xs h)
 frz:=λa o u h=>(Mon.own (K:=K) (ρ:=ρ) hd).frz a o u (x.frz a o u h)
 new:=x.new
 keep:=λa o h hn=>by rw[Xe (Xk h h0)];exact x.keep a o h hn
end
structure ER(K:Ve)(ρ:LR)(H:Hp)(env:En)(σ:L2.St):Prop where
 len:(la env)=la σ
 val:∀(i:Nat) d,env[i]?=yz (yz d)->∃v,σ[i]?=yz (yz v)/\RD K ρ H d v
theorem ER.mono{K:Ve}{ρ ρ':LR}{H H':Hp}{env:En}{σ:L2.St}(r:ER K ρ H env σ)(x:Stp K ρ ρ' H H'):ER K ρ' H' env σ:=
 ⟨r.len,λi d e=>let ⟨v,h1,h2⟩:=r.val i d e;⟨v,h1,h2.mono x⟩⟩
theorem ER.mono'{K:Ve}{ρ ρ':LR}{H H':Hp}{env:En}{σ:L2.St}(r:ER K ρ H env σ)(x:Mon K ρ ρ' H H'):ER K ρ' H' env σ:=
 ⟨r.len,λi d e=>let ⟨v,h1,h2⟩:=r.val i d e;⟨v,h1,RD.mono' x d v h2⟩⟩
theorem ER.set{K:Ve}{ρ:LR}{H:Hp}{env:En}{σ:L2.St}(r:ER K ρ H env σ)(i:Nat){d:D}{v:V}(h:RD K ρ H d v):ER K ρ H (env.set i (yz d)) (σ.set i (yz v)):=
 ⟨by simp[r.len],λj e h1=>by
  by_cases z:j=i
  ·subst z;have B:j<la env:=by
    have:=(Vh.mp h1).1;simpa using this
   rw[Va0 B]at h1;cases h1;exact⟨v,by rw[Va0 (by rw[<-r.len];exact B)],h⟩
  rw[Vab (Ne.symm z)]at h1
  obtain⟨J,h2,L⟩:=r.val j e h1;exact⟨J,by rw[Vab (Ne.symm z)];exact h2,L⟩⟩
structure S0(X:Cx)(pa:LA)(σ:L2.St)(H:Hp)(s:Vc)(ρ:LR)(S:Sto)(env:En):Prop where
 inv:Inv X pa σ H s
 sr:SR X.K ρ S H
 er:ER X.K ρ H env σ
theorem S0.step(I:S0 X pa σ H s ρ S env)(J:Inv X pa σ H' s')(r:SR X.K ρ' S' H')(x:Stp X.K ρ ρ' H H'):
  S0 X pa σ H' s' ρ' S' env:=⟨J,r,I.er.mono x⟩
def EPd(X:Cx)(pa:LA)(σ:L2.St)(ρ:LR)(H:Hp)(d:D)(S':Sto)(u:Vb)(s':Vc):Prop:=
 ∃v H' ρ',Inv X pa σ H' s'/\RelV v u/\RD X.K ρ' H' d v/\SR X.K ρ' S' H'/\Stp X.K ρ ρ' H H'
def Trc(L:Vb)(ok:Addr->Prop)(H':Hp)(a:Addr)(h:Heap):Prop:=
 ∃J vs T B ts,h.get? a=yz J/\J.data=.fields vs/\vs[1]?=yz (.ref T)/\ok T/\T≠a/\H' T=yy/\h.get? T=yz B/\B.data=.fields ts/\ts[3]?=yz L
theorem Trc.imp(x:Trc fl ok H' a h)(k:∀T,ok T->ok' T):Trc fl ok' H' a h:=by obtain⟨U,vs,T,B,ts,h1,h2,L,J,r⟩:=x;exact⟨U,vs,T,B,ts,h1,h2,L,k T J,r⟩
def Xhl(X:Cx)(pa:LA)(T:Addr):Prop:=(T∈X.ex\/X.s₀.heap.get? T=yy)/\∀p∈X.pn++pa,p.1≠T
def Fly(X:Cx)(pa:LA)(H':Hp)(a:Addr)(h:Heap):Prop:=
 (∃J vs,h.get? a=yz J/\J.data=.fields vs/\vs[1]?=yz .none)\/∃B,(B=.none\/B=Vb2 X.env.locals)/\Trc B (Xhl X pa) H' a h
def XPd(X:Cx)(pa:LA)(σ:L2.St)(ρ:LR)(H:Hp)(n:Nat)(S':Sto)(e:Vb)(s':Vc):Prop:=
 ∃H' ρ' a c,Inv X pa σ H' s'/\e=.ref a/\ρ'[n]?=yz a/\S'[n]?=yz (.exc c)/\SR X.K ρ' S' H'/\Stp X.K ρ ρ' H H'/\Fly X pa H' a s'.heap
def OkP(X:Cx)(pa:LA)(σ:L2.St)(ρ:LR)(H:Hp)(r:R D)(u:Vb)(s':Vc):Prop:=∃d S',r=.ok d S'/\EPd X pa σ ρ H d S' u s'
def ExP(X:Cx)(pa:LA)(σ:L2.St)(ρ:LR)(H:Hp){α:Type}(r:R α)(e:Vb)(s':Vc):Prop:=∃n S',r=.ex n S'/\XPd X pa σ ρ H n S' e s'
def DE(X:Cx)(e:Expr)(f:En->Sto->R D):Prop:=
 ∀(pa:LA) (s:Vc) (σ:L2.St) (H:Hp) (ρ:LR) (S:Sto) (env:En),S0 X pa σ H s ρ S env->f env S≠.bad ->
  Vf (Vj X.prog X.w) X.A (eval e X.env) (OkP X pa σ ρ H (f env S)) (ExP X pa σ ρ H (f env S)) s
def DT(X:Cx)(e:Expr)(f:En->Sto->R Bool):Prop:=
 ∀(pa:LA) (s:Vc) (σ:L2.St) (H:Hp) (ρ:LR) (S:Sto) (env:En),S0 X pa σ H s ρ S env->f env S≠.bad ->
  Vf (Vj X.prog X.w) X.A (isTrue e X.env (eval e X.env)) (λb s'=>∃S',f env S=.ok b S'/\∃H' ρ',Inv X pa σ H' s'/\SR X.K ρ' S' H'/\Stp X.K ρ ρ' H H') (ExP X pa σ ρ H (f env S)) s
section
variable{X:Cx}{pa:LA}{σ:L2.St}{H:Hp}{s:Vc}{ρ:LR}{S S':Sto}{env:En}{e:Expr}{f:En->Sto->R D}{g:En->Sto->R Bool}{Q:VP}{E:VP}
theorem DE.ok(h:DE X e f)(I:S0 X pa σ H s ρ S env)(r:f env S=.ok d S')(Y:∀u s' v H' ρ',S0 X pa σ H' s' ρ' S' env->RelV v u->RD X.K ρ' H' d v->Stp X.K ρ ρ' H H'->Q u s'):
  Vf (Vj X.prog X.w) X.A (eval e X.env) Q E s:=by
 have U:f env S≠.bad:=by rw[r];exact λz=>nomatch z
 refine Vo (h pa s σ H ρ S env I U) (λu s' q=>?_) λx s' q=>?_;·obtain⟨d',S1,B,v,H',ρ',J,L,rd,sr,st⟩:=q;rw[r]at B;cases B;exact Y u s' v H' ρ' (I.step J sr st) L rd st
 ·obtain⟨n,S1,B,_⟩:=q;rw[r]at B;cases B
theorem DE.ex(h:DE X e f)(I:S0 X pa σ H s ρ S env)(r:f env S=.ex n S')(J:∀x s',XPd X pa σ ρ H n S' x s'->E x s'):
  Vf (Vj X.prog X.w) X.A (eval e X.env) Q E s:=by
 have L:f env S≠.bad:=by rw[r];exact λz=>nomatch z
 refine Vo (h pa s σ H ρ S env I L) (λu s' q=>?_) λx s' q=>?_;·obtain⟨U,S1,B,_⟩:=q;rw[r]at B;cases B
 ·obtain⟨m,S1,B,q⟩:=q;rw[r]at B;cases B;exact J x s' q
theorem DT.ok{Q:Bool->Vc->Prop}{b:Bool}(h:DT X e g)(I:S0 X pa σ H s ρ S env)(r:g env S=.ok b S')(U:∀s' H' ρ',S0 X pa σ H' s' ρ' S' env->Stp X.K ρ ρ' H H'->Q b s'):
  Vf (Vj X.prog X.w) X.A (isTrue e X.env (eval e X.env)) Q E s:=by
 have L:g env S≠.bad:=by rw[r];exact λz=>nomatch z
 refine Vo (h pa s σ H ρ S env I L) (λu s' q=>?_) λx s' q=>?_;·obtain⟨S1,B,H',ρ',J,sr,st⟩:=q;rw[r]at B;cases B;exact U s' H' ρ' (I.step J sr st) st
 ·obtain⟨n,S1,B,_⟩:=q;rw[r]at B;cases B
theorem DT.ex{Q:Bool->Vc->Prop}{n:Nat}(h:DT X e g)(I:S0 X pa σ H s ρ S env)(r:g env S=.ex n S')(L:∀x s',XPd X pa σ ρ H n S' x s'->E x s'):
  Vf (Vj X.prog X.w) X.A (isTrue e X.env (eval e X.env)) Q E s:=by
 have J:g env S≠.bad:=by rw[r];exact λz=>nomatch z
 refine Vo (h pa s σ H ρ S env I J) (λu s' q=>?_) λx s' q=>?_;·obtain⟨S1,B,_⟩:=q;rw[r]at B;cases B
 ·obtain⟨m,S1,B,q⟩:=q;rw[r]at B;cases B;exact L x s' q
theorem XPd.pre(st:Stp X.K ρ ρ' H H')(h:XPd X pa σ ρ' H' n S' x s'):XPd X pa σ ρ H n S' x s':=by obtain⟨H2,ρ2,a,c,J,e,hn,hc,sr,st2,fl⟩:=h;exact⟨H2,ρ2,a,c,J,e,hn,hc,sr,st.trans st2,fl⟩
theorem ExP.mk{α:Type}(st:Stp X.K ρ ρ' H H')(h:XPd X pa σ ρ' H' n S' x s'):ExP X pa σ ρ H (.ex n S':R α) x s':=⟨n,S',rfl,h.pre st⟩
theorem OkP.mk(st:Stp X.K ρ ρ' H H')(J:Inv X pa σ H' s')(B:RelV v u)(rd:RD X.K ρ' H' d v)(sr:SR X.K ρ' S' H'):OkP X pa σ ρ H (.ok d S') u s':=
 ⟨d,S',rfl,v,H',ρ',J,B,rd,sr,st⟩
theorem OkP.pre(st:Stp X.K ρ ρ' H H')(h:OkP X pa σ ρ' H' r u s'):OkP X pa σ ρ H r u s':=by obtain⟨d,S1,e,v,H2,L,J,U,rd,sr,B⟩:=h;exact⟨d,S1,e,v,H2,L,J,U,rd,sr,st.trans B⟩
theorem ExP.pre{α:Type}{ρ':LR}{H':Hp}{r:R α}{x:Vb}{s':Vc}(st:Stp X.K ρ ρ' H H')(h:ExP X pa σ ρ' H' r x s'):ExP X pa σ ρ H r x s':=by obtain⟨n,S1,e,q⟩:=h;exact⟨n,S1,e,q.pre st⟩
theorem DE.bind{α:Type}(h:DE X e f)(I:S0 X pa σ H s ρ S env){k:D->Sto->R α}(L:(f env S).bind k≠.bad){r:R α}(B:r=(f env S).bind k)
  (hQ:∀d S1 u s' v H' ρ',r=k d S1->k d S1≠.bad->S0 X pa σ H' s' ρ' S1 env->RelV v u->RD X.K ρ' H' d v->Stp X.K ρ ρ' H H'->Q u s') (Y:∀x s',ExP X pa σ ρ H r x s'->E x s'):
  Vf (Vj X.prog X.w) X.A (eval e X.env) Q E s:=by
 cases q:f env S with
 |bad=>rw[q]at L;cases L rfl|ex n S1=>rw[q]at B;exact h.ex I q λx s' z=>Y x s' ⟨n,S1,B,z⟩|ok d S1=>rw[q]at B L;exact h.ok I q λu s' v H' ρ' J U rd st=>hQ d S1 u s' v H' ρ' B L J U rd st
end
theorem Xeb:big<=Vu:=by rw[Vbp];decide
theorem Xa0(h:n<=big):n<=Vu:=Ul h Xeb
noncomputable def tst(r:R D):R Bool:=r.bind λx S=>match Xh S x with
 |some b=>.ok b S|none=>.bad
section
variable{X:Cx}{pa:LA}{σ:L2.St}{H:Hp}{s:Vc}{ρ:LR}{S S':Sto}{env:En}{e a b c:Expr}{f fa fb fc:En->Sto->R D}{Q:VP}{E:VP}{pos:Pos}
theorem opd{f:Vb->Vb->Sem Vb}(L:OpR (X.wish E) f r)(I:Inv X pa σ H s)(U:RelV x v)(B:RelV y u)(h:r x y H Q')
  (Y:∀w s' z H',Inv X pa σ H' s'->RelV z w->Q' z H'->Q w s'):Vf (Vj X.prog X.w) X.A (f v u) Q E s:=
 thn (L pa s σ H x y v u Q' (I.wish E) U B h) λw s' ⟨z,H',J,rz,q⟩=>Y w s' z H' J.unwish rz q
theorem ped(B:PE (X.wish E) e t)(I:Inv X pa σ H s)(h:t σ H Q')(L:∀w s' z H',Inv X pa σ H' s'->RelV z w->Q' z H'->Q w s'):Vf (Vj X.prog X.w) X.A (eval e X.env) Q E s:=
 thn (B pa s σ H Q' (I.wish E) h) λw s' ⟨z,H',J,rz,q⟩=>L w s' z H' J.unwish rz q
theorem Xez{f:Vb}{r:LW->Hp->VK->Prop}{xs:LW}{us:LV}{Q':VK}(B:Xeu (X.wish E) f r)(I:Inv X pa σ H s)(L:Vals xs us)(h:r xs H Q')
  (U:∀w s' z H',Inv X pa σ H' s'->RelV z w->Q' z H'->Q w s'):Vf (Vj X.prog X.w) X.A (call f us) Q E s:=
 thn (B pa s σ H xs us Q' (I.wish E) L h) λw s' ⟨z,H',J,rz,q⟩=>U w s' z H' J.unwish rz q
theorem mtd{id:String}{r:V->LW->Hp->VK->Prop}{x:V}{xs:LW}{v:Vb}{us:LV}{Q':VK}(B:MtM (X.wish E) id r)(I:Inv X pa σ H s)(L:RelV x v)(rs:Vals xs us)(h:r x xs H Q')
  (U:∀w s' z H',Inv X pa σ H' s'->RelV z w->Q' z H'->Q w s'):Vf (Vj X.prog X.w) X.A (call (.builtin id) (v::us)) Q E s:=
 thn (B pa s σ H x xs v us Q' (I.wish E) L rs h) λw s' ⟨z,H',J,rz,q⟩=>U w s' z H' J.unwish rz q
theorem S0.list(I:S0 X pa σ H s ρ S env)(h:Xa S n=yz xs):∃a vs,ρ[n]?=yz a/\H a=yz (.lst vs)/\RDs X.K ρ H xs vs:=by
 unfold Xa at h;cases e:S[n]? with
 |none=>rw[e]at h;cases h|some o=>
  rw[e]at h;cases o with
  |lst ys=>cases h;obtain⟨a,B,vs,hv,J⟩:=I.sr.adr e;exact⟨a,vs,B,hv,J⟩|fdc _=>cases h|dct _=>cases h|exc _=>cases h
theorem S0.seq(I:S0 X pa σ H s ρ S env)(h:Xs S d=yz xs)(r:RD X.K ρ H d v):∃a vs,v=.ref a/\(SqL X.K H a vs\/SqT X.K H a vs)/\RDs X.K ρ H xs vs:=by
 cases d with
 |tup ys=>simp only[Xs,Vp]at h;subst h;simp only[RD]at r;obtain⟨a,vs,e,h1,h2⟩:=r;exact⟨a,vs,e,.inr h1,h2⟩|fro ys=>simp only[Xs,Vp]at h;subst h;simp only[RD]at r;obtain⟨a,vs,e,h1,h2⟩:=r;exact⟨a,vs,e,.inl h1.sq,h2⟩|ref n=>simp only[RD]at r;obtain⟨a,e,h1⟩:=r;obtain⟨L,vs,h2,J,B⟩:=I.list (xs:=xs) (n:=n) h;rw[h1]at h2;cases h2;exact⟨a,vs,e,.inl (.of J),B⟩|non=>cases h|bl _=>cases h|int _=>cases h|str _=>cases h|fn _ _=>cases h
theorem Xbf(h:RDs X.K ρ H ds vs):(!vs.isEmpty) = !ds.isEmpty:=by have:=h.length;cases ds<;>cases vs<;>simp_all
theorem Xjw(I:S0 X pa σ H s ρ S env){k:Bool}{Q:Bool->Vc->Prop}(h:Xh S d=yz k)(rd:RD X.K ρ H d v)(Y:RelV v u)(hQ:∀s',Inv X pa σ H s'->Q k s'):
  Vf (Vj X.prog X.w) X.A (truthy u) Q E s:=by
 have L:X0u X.K v H k:=by
  cases d with
  |non=>simp only[RD]at rd;subst rd;simp only[Xh,Vp]at h;exact h.symm|bl b=>simp only[RD]at rd;subst rd;simp only[Xh,Vp]at h;exact h.symm|int i=>simp only[RD]at rd;subst rd;simp only[Xh,Vp]at h;exact h.symm|str x=>
   simp only[RD]at rd;subst rd;simp only[Xh]at h;split at h;·rename_i U;exact⟨Xa0 U,(Uc h).symm⟩
   ·cases h|fn _ _=>cases h|tup xs=>
   simp only[Xh,Vp]at h;obtain⟨a,vs,e,h1,h2⟩:=I.seq (d:=.tup xs) rfl rd;subst e;rcases h1 with h1|h1;·exact .inl ⟨vs,h1,by rw[Xbf h2];exact h.symm⟩
   ·exact .inr (.inl ⟨vs,h1,by rw[Xbf h2];exact h.symm⟩)|fro xs=>
   simp only[Xh,Vp]at h;obtain⟨a,vs,e,h1,h2⟩:=I.seq (d:=.fro xs) rfl rd;subst e;rcases h1 with h1|h1;·exact .inl ⟨vs,h1,by rw[Xbf h2];exact h.symm⟩
   ·exact .inr (.inl ⟨vs,h1,by rw[Xbf h2];exact h.symm⟩)|ref n=>
   simp only[Xh]at h;cases e:S[n]? with
   |none=>rw[e]at h;cases h|some o=>
    rw[e]at h;cases o with
    |lst ys=>obtain⟨a,vs,h1,h2,h3⟩:=I.list (n:=n) (xs:=ys) (by unfold Xa;rw[e]);simp only[RD]at rd;obtain⟨a',e',B⟩:=rd;rw[h1]at B;cases B;subst e';exact .inl ⟨vs,.of h2,by rw[Xbf h3];exact(Uc h).symm⟩|fdc _=>cases h|dct _=>cases h|exc _=>cases h
 exact thn (X0v (X:=X.wish E) pa s σ H v u (λk' H'=>k'=k/\H'=H) (I.inv.wish E) Y ⟨k,L,rfl,rfl⟩) λb s' ⟨H',J,e1,e2⟩=>by subst e1 e2;exact hQ s' J.unwish
theorem DT.of(h:DE X e f)(L:∀whole,isTrue e X.env whole=(do let v <- whole;standAt e.pos;Vdo [v] (truthy v))):DT X e (λenv S=>tst (f env S)):=by
 intro pa s σ H ρ S env I B;dsimp only at B ⊢;cases q:f env S with
 |bad=>rw[q]at B;cases B rfl|ex n S1=>exact isTrue_plain (h.ex I q λx s' z=>⟨n,S1,rfl,z⟩) (L _)|ok d S1=>
  rw[q]at B;cases t:Xh S1 d with
  |none=>simp[tst,t]at B|some k=>refine isTrue_plain (h.ok I q λu s' v H' ρ' J Y rd st=>?_) (L _);exact Xjw J t rd Y λs2 U=>⟨S1,by simp[tst,t],H',ρ',U,J.sr,st⟩
theorem Xv6 {i:Nat} (hN:X.N[i]?=yz x) (hv:Vis X.env.scope x) (hd:(x==("__debug__" : Str))=yw) (L:(x==("__classdict__" : Str))=yw):
  DE X (.Name x pos) (λenv S=>match env[i]? with|some (yz d)=>.ok d S|_=>.bad):=by
 intro pa s σ H ρ S env I B;dsimp only at B ⊢;cases q:env[i]? with
 |none=>rw[q]at B;cases B rfl|some o=>
  cases o with
  |none=>rw[q]at B;cases B rfl|some d=>obtain⟨v,h1,h2⟩:=I.er.val i d q;exact ped (Q':=λz H'=>z=v/\H'=H) (X0o hN hv hd L) I.inv ⟨v,h1,rfl,rfl⟩ λu s' z H' J rz ⟨e1,e2⟩=>by subst e1 e2;exact .mk .refl J rz h2 I.sr
theorem d_int:DE X (.Constant (.int i) j pos) (λ_ S=>.ok (.int i) S):=λpa s σ H ρ S env I _=>ped (Q':=λz H'=>z=.int i/\H'=H) X0p I.inv ⟨rfl,rfl⟩ λu s' z H' J rz ⟨e1,e2⟩=>by subst e1 e2;exact .mk .refl J rz (by simp only[RD]) I.sr
theorem d_bl:DE X (.Constant (.bool i) j pos) (λ_ S=>.ok (.bl i) S):=λpa s σ H ρ S env I _=>ped (Q':=λz H'=>z=.bl i/\H'=H) X4v I.inv ⟨rfl,rfl⟩ λu s' z H' J rz ⟨e1,e2⟩=>by subst e1 e2;exact .mk .refl J rz (by simp only[RD]) I.sr
theorem d_non:DE X (.Constant .none j pos) (λ_ S=>.ok .non S):=λpa s σ H ρ S env I _=>ped (Q':=λz H'=>z=.non/\H'=H) X0q I.inv ⟨rfl,rfl⟩ λu s' z H' J rz ⟨e1,e2⟩=>by subst e1 e2;exact .mk .refl J rz (by simp only[RD]) I.sr
theorem d_str:DE X (.Constant (.str i) j pos) (λ_ S=>.ok (.str i) S):=λpa s σ H ρ S env I _=>ped (Q':=λz H'=>z=.str i/\H'=H) X0r I.inv ⟨rfl,rfl⟩ λu s' z H' J rz ⟨e1,e2⟩=>by subst e1 e2;exact .mk .refl J rz (by simp only[RD]) I.sr
def DA(X:Cx)(es:LX)(f:En->Sto->R LD):Prop:=
 ∀(pos:Pos) (pa:LA) (s:Vc) (σ:L2.St) (H:Hp) (ρ:LR) (S:Sto) (env:En),S0 X pa σ H s ρ S env->f env S≠.bad ->
  Vf (Vj X.prog X.w) X.A (spliced (Vbu pos (V7 es X.env)))
   (λus s'=>∃ds S' vs H' ρ',f env S=.ok ds S'/\Inv X pa σ H' s'/\Vals vs us/\RDs X.K ρ' H' ds vs/\SR X.K ρ' S' H'/\Stp X.K ρ ρ' H H') (ExP X pa σ ρ H (f env S)) s
theorem DA.ok{es:LX}{g:En->Sto->R (LD)}{Q:LV->Vc->Prop}{ds:LD}(h:DA X es g)(I:S0 X pa σ H s ρ S env)(r:g env S=.ok ds S')
  (Y:∀us s' vs H' ρ',S0 X pa σ H' s' ρ' S' env->Vals vs us->RDs X.K ρ' H' ds vs->Stp X.K ρ ρ' H H'->Q us s'):
  Vf (Vj X.prog X.w) X.A (spliced (Vbu pos (V7 es X.env))) Q E s:=by
 have U:g env S≠.bad:=by rw[r];exact λz=>nomatch z
 refine Vo (h pos pa s σ H ρ S env I U) (λu s' q=>?_) λx s' q=>?_;·obtain⟨d',S1,vs,H',ρ',B,J,L,rd,sr,st⟩:=q;rw[r]at B;cases B;exact Y u s' vs H' ρ' (I.step J sr st) L rd st
 ·obtain⟨n,S1,B,_⟩:=q;rw[r]at B;cases B
theorem DA.ex{es:LX}{g:En->Sto->R (LD)}{Q:LV->Vc->Prop}{n:Nat}(h:DA X es g)(I:S0 X pa σ H s ρ S env)(r:g env S=.ex n S')(J:∀x s',XPd X pa σ ρ H n S' x s'->E x s'):
  Vf (Vj X.prog X.w) X.A (spliced (Vbu pos (V7 es X.env))) Q E s:=by
 have L:g env S≠.bad:=by rw[r];exact λz=>nomatch z
 refine Vo (h pos pa s σ H ρ S env I L) (λu s' q=>?_) λx s' q=>?_;·obtain⟨U,S1,_,_,_,B,_⟩:=q;rw[r]at B;cases B
 ·obtain⟨m,S1,B,q⟩:=q;rw[r]at B;cases B;exact J x s' q
theorem DA.bind{α:Type}{es:LX}{g:En->Sto->R (LD)}{Q:LV->Vc->Prop}(h:DA X es g)(I:S0 X pa σ H s ρ S env){k:LD->Sto->R α}(L:(g env S).bind k≠.bad){r:R α}(B:r=(g env S).bind k)
  (hQ:∀ds S1 us s' vs H' ρ',r=k ds S1->k ds S1≠.bad->S0 X pa σ H' s' ρ' S1 env->Vals vs us->RDs X.K ρ' H' ds vs->Stp X.K ρ ρ' H H'->Q us s') (Y:∀x s',ExP X pa σ ρ H r x s'->E x s'):
  Vf (Vj X.prog X.w) X.A (spliced (Vbu pos (V7 es X.env))) Q E s:=by
 cases q:g env S with
 |bad=>rw[q]at L;cases L rfl|ex n S1=>rw[q]at B;exact h.ex I q λx s' z=>Y x s' ⟨n,S1,B,z⟩|ok d S1=>rw[q]at B L;exact h.ok I q λu s' v H' ρ' J U rd st=>hQ d S1 u s' v H' ρ' B L J U rd st
theorem X1a:DA X [] (λ_ S=>.ok [] S):=λ_ pa s σ H ρ S env I _=>Vck ⟨[],S,[],H,ρ,rfl,I.inv,.nil,.nil,I.sr,.refl⟩
theorem Xxb{es:LX}{g:En->Sto->R (LD)}(ha:DE X a fa)(hr:DA X es g)(hs:V7 (a::es) X.env=(yw,eval a X.env)::V7 es X.env):
  DA X (a::es) (λenv S=>(fa env S).bind λx S=>(g env S).bind λxs S=>.ok (x::xs) S):=by
 intro pos pa s σ H ρ S env I nb;dsimp only at nb ⊢;rw[hs];show Vf _ _ (spliced ((yw,eval a X.env)::Vbu pos (V7 es X.env))) _ _ s;refine Vam (ha.bind I nb rfl (λd S1 u s1 v H1 ab e1 aa I1 rv rd J=>?_) λ_ _ z=>z);rw[e1];exact hr.bind I1 aa rfl (λds S2 us s2 vs H2 U e2 _ I2 L Y B=>⟨d::ds,S2,v::vs,H2,U,e2,I2.inv,.cons rv L,.cons (rd.mono B) Y,I2.sr,J.trans B⟩) λ_ _ z=>z.pre J
theorem Xcc(J:Inv X pa σ (upd H p (.tup vs)) s')(hp:H p=yy)(sr:SR X.K ρ S H)(rd:RDs X.K ρ H xs vs):OkP X pa σ ρ H (.ok (.tup xs) S) (.ref p) s':=by refine .mk (v:=.ref p) (Stp.upd hp) J rfl ?_ (sr.upd hp);simp only[RD];exact⟨p,vs,rfl,.of Xm,RDs.mono (Stp.upd hp) xs vs rd⟩
theorem Xba(J:Inv X pa σ (upd H p (.lst vs)) s')(hp:H p=yy)(sr:SR X.K ρ S H)(rd:RDs X.K ρ H xs vs):OkP X pa σ ρ H (.ok (.ref (la S)) (S++[.lst xs])) (.ref p) s':=by refine .mk (v:=.ref p) (ρ':=ρ++[p]) (Stp.new1 hp) J rfl ?_ (sr.new1 hp ⟨vs,Xm,RDs.mono (Stp.new1 hp) xs vs rd⟩);simp only[RD];exact⟨p,rfl,by rw[<-sr.len];simp⟩
theorem X40{es:LX}{x1:Nat}{g:En->Sto->R (LD)}(h:DA X es g):DE X (.Tuple es x1 pos) (λenv S=>(g env S).bind λxs S=>if (la xs)<=big then .ok (.tup xs) S else .bad):=by
 intro pa s σ H ρ S env I Y;dsimp only at Y ⊢;refine wpAny_Tuple_spliced (h.bind I Y rfl (λds S1 us s1 vs H1 aa e1 B J U rd L=>?_) λ_ _ z=>z);rw[e1];split at B
 ·rename_i hz;have hl:(la vs)<=Vu:=by rw[<-rd.length];exact Xa0 hz
  rw[iP0 hz];refine⟨by rw[<-U.length];exact hl,OkP.pre L (Xcc (J.inv.laid (t':=s1.toks) (λb u e=>Vg _ e) (Vl _) ⟨hl,us,U,⟨_,Vq _ rfl,rfl,_,rfl⟩⟩) (J.inv.hok.fresh (Vl _)) J.sr rd)⟩
 cases B rfl
theorem X41{es:LX}{g:En->Sto->R (LD)}(h:DA X es g):DE X (.List es pos) (λenv S=>(g env S).bind λxs S=>if (la xs)<=big then .ok (.ref (la S)) (S++[.lst xs]) else .bad):=by
 intro pa s σ H ρ S env I Y;dsimp only at Y ⊢;refine wpAny_List_spliced (h.bind I Y rfl (λds S1 us s1 vs H1 aa e1 B J U rd L=>?_) λ_ _ z=>z);rw[e1];split at B
 ·rename_i hz;have hl:(la vs)<=Vu:=by rw[<-rd.length];exact Xa0 hz
  rw[iP0 hz];refine⟨by rw[<-U.length];exact hl,OkP.pre L (Xba (J.inv.laid (t':=s1.toks) (λb u e=>Vg _ e) (Vl _) ⟨hl,us,0,U,Vq _ rfl⟩) (J.inv.hok.fresh (Vl _)) J.sr rd)⟩
 cases B rfl
def Op2(X:Cx)(m:Vb->Vb->Sem Vb)(k:D->D->Sto->R D):Prop:=
 ∀(pa:LA) (s:Vc) (σ:L2.St) (H:Hp) (ρ:LR) (S:Sto) (env:En) (x y:D) (v u:V) (B J:Vb) (E:VP),S0 X pa σ H s ρ S env->k x y S≠.bad ->
  RD X.K ρ H x v->RelV v B->RD X.K ρ H y u->RelV u J->Vf (Vj X.prog X.w) X.A (m B J) (OkP X pa σ ρ H (k x y S)) E s
theorem two(ho:Op2 X m k)(ha:DE X a fa)(hb:DE X b fb)(I:S0 X pa σ H s ρ S env){r:R D}
  (nb:(fa env S).bind (λx S=>(fb env S).bind λy S=>k x y S)≠.bad) (hr:r=(fa env S).bind λx S=>(fb env S).bind λy S=>k x y S):
  Vf (Vj X.prog X.w) X.A (eval a X.env) (λv s₁=>Vf (Vj X.prog X.w) X.A (eval b X.env) (λu s₂=>Vf (Vj X.prog X.w) X.A (m v u)
   (OkP X pa σ ρ H r) (ExP X pa σ ρ H r) s₂) (ExP X pa σ ρ H r) s₁) (ExP X pa σ ρ H r) s:=by
 refine ha.bind I nb hr (λx S1 v' s1 v H1 ab e1 aa I1 rv rd J=>?_) λ_ _ z=>z;refine hb.bind I1 aa e1 (λy S2 u' s2 u H2 Y e2 U I2 ru L B=>?_) λ_ _ z=>z.pre J;subst e2;exact Vo (ho pa s2 σ H2 Y S2 env x y v u v' u' (λ_ _=>False) I2 U (rd.mono B) rv L ru) (λw s3 z=>z.pre (J.trans B)) λ_ _ z=>z.elim
noncomputable def opB:Bo->Operator
 |.add=>.Add|.sub=>.Sub|.mul=>.Mult|.fdiv=>.FloorDiv|.mod=>.Mod|.pow=>.Pow
theorem X42(J:Op2 X (Vcr (opB op)) (Xw op))(L:DE X a fa)(U:DE X b fb):DE X (.BinOp a (opB op) b pos) (λenv S=>(fa env S).bind λx S=>(fb env S).bind λy S=>Xw op x y S):=
 λpa s σ H ρ S env I B=>wpAny_BinOp (two J L U I B rfl)
noncomputable def opC:Co->CmpOp
 |.eq=>.Eq|.ne=>.NotEq|.lt=>.Lt|.le=>.LtE|.gt=>.Gt|.ge=>.GtE|.isin=>.In|.notin=>.NotIn
theorem X43(L:Op2 X (Van (opC op)) (Xj op))(B:DE X a fa)(Y:DE X b fb)(J:Vdp (opC op) b=yw):
  DE X (.Compare a [opC op] [b] pos) (λenv S=>(fa env S).bind λx S=>(fb env S).bind λy S=>Xj op x y S):=
 λpa s σ H ρ S env I U=>wpAny_Compare1 (two L B Y I U rfl) J
theorem Xcd(h:Xj op x y S≠.bad):∃r,X7 op x y S=yz r/\Xj op x y S=.ok (.bl r) S:=by
 unfold Xj at h ⊢;cases e:X7 op x y S with
 |none=>rw[e]at h;cases h rfl|some r=>exact⟨r,rfl,rfl⟩
theorem Xbg(h:Xh S d=yz r):tst (.ok d S)=.ok r S:=by simp[tst,h]
theorem Xnb{op:CmpOp}{k:D->D->Sto->R D}(hk:∀x y S d S',k x y S=.ok d S'->∃r,d=.bl r)(ho:Op2 X (Van op) k)(ha:DE X a fa)(hb:DE X b fb)(hm:Vdp op b=yw):
  DT X (.Compare a [op] [b] pos) (λenv S=>tst ((fa env S).bind λx S=>(fb env S).bind λy S=>k x y S)):=by
 intro pa s σ H ρ S env I nb;dsimp only at nb ⊢;have L:((fa env S).bind λx S=>(fb env S).bind λy S=>k x y S)≠.bad:=λz=>nb (by rw[z];rfl);refine wpAny_isTrue_Compare1 (Vo (two ho ha hb I L rfl) (λv s1 h1=>Vo h1 (λu s2 h2=>Vo h2 (λw s3 h3=>?_) λx s' z=>?_) λx s' z=>?_) λx s' z=>?_) hm
 ·obtain⟨d,S1,e,v1,H1,Y,J,rv,rd,sr,st⟩:=h3;have B:∃r,d=.bl r:=by
   cases q:fa env S with
   |bad=>rw[q]at e;cases e|ex n S1=>rw[q]at e;cases e|ok x S1=>
    rw[q]at e;simp only[Rk0]at e;cases U:fb env S1 with
    |bad=>rw[U]at e;cases e|ex n S1=>rw[U]at e;cases e|ok y S2=>rw[U]at e;exact hk x y S2 d _ e
  obtain⟨r,rfl⟩:=B;simp only[RD]at rd;subst rd;cases rv;exact Vbv ⟨S1,by rw[e];rfl,H1,Y,J,sr,st⟩
 all_goals (obtain⟨n,S1,e,q⟩:=z;exact⟨n,S1,by rw[e];rfl,q⟩)
theorem X1b(U:Op2 X (Van (opC op)) (Xj op))(J:DE X a fa)(Y:DE X b fb)(L:Vdp (opC op) b=yw):
  DT X (.Compare a [opC op] [b] pos) (λenv S=>tst ((fa env S).bind λx S=>(fb env S).bind λy S=>Xj op x y S)):=Xnb (λx y S d S' e=>by
 obtain⟨r,_,B⟩:=Xcd (op:=op) (x:=x) (y:=y) (S:=S) (by rw[e];exact λz=>nomatch z)
 rw[B]at e;cases e;exact⟨r,rfl⟩) U J Y L
theorem Xv7{X3:LX}(ha:DE X a fa)(hb:DE X (.BoolOp .And (b::X3) pos) fb):DE X (.BoolOp .And (a::b::X3) pos)
  (λenv S=>(fa env S).bind λx S=>match Xh S x with|some yx=>fb env S|some yw=>.ok x S|none=>.bad):=by
 intro pa s σ H ρ S env I nb;dsimp only at nb ⊢;refine BoolOp_and (ha.bind I nb rfl (λx S1 u s1 v H1 U e1 B L rv rd J=>?_) λ_ _ z=>z);rw[e1];cases t:Xh S1 x with
 |none=>rw[t]at B;cases B rfl|some r=>
  rw[t]at B;refine Xjw L t rd rv λs2 Y=>?_;cases r with
  |true=>exact Vo (hb pa s2 σ H1 U S1 env ⟨Y,L.sr,L.er⟩ B) (λw s3 z=>z.pre J) λx s' z=>z.pre J|false=>exact .mk J Y rv rd L.sr
theorem X1c{X3:LX}(ha:DE X a fa)(hb:DE X (.BoolOp .Or (b::X3) pos) fb):DE X (.BoolOp .Or (a::b::X3) pos)
  (λenv S=>(fa env S).bind λx S=>match Xh S x with|some yx=>.ok x S|some yw=>fb env S|none=>.bad):=by
 intro pa s σ H ρ S env I nb;dsimp only at nb ⊢;refine BoolOp_or (ha.bind I nb rfl (λx S1 u s1 v H1 U e1 B L rv rd J=>?_) λ_ _ z=>z);rw[e1];cases t:Xh S1 x with
 |none=>rw[t]at B;cases B rfl|some r=>
  rw[t]at B;refine Xjw L t rd rv λs2 Y=>?_;cases r with
  |false=>exact Vo (hb pa s2 σ H1 U S1 env ⟨Y,L.sr,L.er⟩ B) (λw s3 z=>z.pre J) λx s' z=>z.pre J|true=>exact .mk J Y rv rd L.sr
theorem Xv8(h:DE X a f):DE X (.BoolOp op [a] pos) f:=λpa s σ H ρ S env I B=>BoolOp_one (h pa s σ H ρ S env I B)
theorem X44(ha:DT X a (λenv S=>tst (fa env S)))(hv:DE X a fa):DE X (.UnaryOp .Not a pos) (λenv S=>(fa env S).bind λx S=>match Xh S x with|some r=>.ok (.bl (!r)) S|none=>.bad):=by
 intro pa s σ H ρ S env I L;dsimp only at L ⊢;refine UnaryOp_ (hv.bind I L rfl (λx S1 u s1 v H1 aa e1 B U rv rd J=>?_) λ_ _ z=>z);rw[e1];cases t:Xh S1 x with
 |none=>rw[t]at B;cases B rfl|some r=>exact not_of (Xjw U t rd rv λs2 Y=>.mk (v:=.bl (!r)) J Y rfl (by simp only[RD]) U.sr)
theorem X1d(U:DT X a (λenv S=>tst (fa env S))):DT X (.UnaryOp .Not a pos) (λenv S=>tst ((fa env S).bind λx S=>match Xh S x with|some r=>.ok (.bl (!r)) S|none=>.bad)):=by
 intro pa s σ H ρ S env I B;dsimp only at B ⊢;cases q:fa env S with
 |bad=>rw[q]at B;cases B rfl|ex n S1=>exact isTrue_not (U.ex I (by simp only[q];rfl) λx s' z=>⟨n,S1,rfl,z⟩)|ok x S1=>
  rw[q]at B;simp only[Rk0]at B ⊢;cases t:Xh S1 x with
  |none=>rw[t]at B;cases B rfl|some r=>exact isTrue_not (U.ok I (by simp only[q];exact Xbg t) λs2 H2 J Y L=>⟨S1,rfl,H2,J,Y.inv,Y.sr,L⟩)
theorem X45(hc:DT X c (λenv S=>tst (fc env S)))(ha:DE X a fa)(hb:DE X b fb):
  DE X (.IfExp c a b pos) (λenv S=>(fc env S).bind λx S=>match Xh S x with|some yx=>fa env S|some yw=>fb env S|none=>.bad):=by
 intro pa s σ H ρ S env I B;dsimp only at B ⊢;cases q:fc env S with
 |bad=>rw[q]at B;cases B rfl|ex n S1=>exact wpAny_IfExp (hc.ex I (by simp only[q];rfl) λx s' z=>⟨n,S1,rfl,z⟩)|ok x S1=>
  rw[q]at B;simp only[Rk0]at B ⊢;cases t:Xh S1 x with
  |none=>rw[t]at B;cases B rfl|some r=>
   rw[t]at B;refine wpAny_IfExp (hc.ok I (by simp only[q];exact Xbg t) λU H2 L Y J=>?_);cases r with
   |true=>exact Vo (ha pa U σ H2 L S1 env Y B) (λw s3 z=>z.pre J) λx s' z=>z.pre J|false=>exact Vo (hb pa U σ H2 L S1 env Y B) (λw s3 z=>z.pre J) λx s' z=>z.pre J
def DW(X:Cx)(e:Expr)(f:En->Sto->R Bool):Prop:=
 ∀(whole:Sem Vb) (pa:LA) (s:Vc) (σ:L2.St) (H:Hp) (ρ:LR) (S:Sto) (env:En),S0 X pa σ H s ρ S env->f env S≠.bad ->
  Vf (Vj X.prog X.w) X.A (isTrue e X.env whole) (λb s'=>∃S',f env S=.ok b S'/\∃H' ρ',Inv X pa σ H' s'/\SR X.K ρ' S' H'/\Stp X.K ρ ρ' H H') (ExP X pa σ ρ H (f env S)) s
theorem DW.dt(h:DW X e g):DT X e g:=h _
theorem Xxc(J:DT X a g):DW X (.BoolOp .And [a] pos) g:=by
 intro wh pa s σ H ρ S env I B;refine isTrue_and (Vo (J pa s σ H ρ S env I B) (λc L z=>?_) λ_ _ z=>z);cases c with
 |true=>exact isTrue_and_nil z|false=>exact z
theorem X1e(J:DT X a g):DW X (.BoolOp .Or [a] pos) g:=by
 intro wh pa s σ H ρ S env I B;refine isTrue_or (Vo (J pa s σ H ρ S env I B) (λc L z=>?_) λ_ _ z=>z);cases c with
 |false=>exact isTrue_or_nil z|true=>exact z
theorem Xqu{X3:LX}(Y:DT X a (λenv S=>tst (fa env S)))(hb:DW X (.BoolOp .And (b::X3) pos) (λenv S=>tst (fb env S))):DW X (.BoolOp .And (a::b::X3) pos)
  (λenv S=>tst ((fa env S).bind λx S=>match Xh S x with|some yx=>fb env S|some yw=>.ok x S|none=>.bad)):=by
 intro wh pa s σ H ρ S env I B;dsimp only at B ⊢;cases q:fa env S with
 |bad=>rw[q]at B;cases B rfl|ex n S1=>exact isTrue_and (Y.ex I (by simp only[q];rfl) λx s' z=>⟨n,S1,rfl,z⟩)|ok x S1=>
  rw[q]at B;simp only[Rk0]at B ⊢;cases t:Xh S1 x with
  |none=>rw[t]at B;cases B rfl|some r=>
   rw[t]at B;refine isTrue_and (Y.ok I (by simp only[q];exact Xbg t) λs2 H2 L U J=>?_);cases r with
   |true=>exact Vo (hb wh pa s2 σ H2 L S1 env U B) (λw s3 ⟨S3,e3,H3,ρ3,J3,sr3,st3⟩=>⟨S3,e3,H3,ρ3,J3,sr3,J.trans st3⟩) λx s' z=>z.pre J|false=>exact⟨S1,Xbg t,H2,L,U.inv,U.sr,J⟩
theorem Xv9{X3:LX}(Y:DT X a (λenv S=>tst (fa env S)))(hb:DW X (.BoolOp .Or (b::X3) pos) (λenv S=>tst (fb env S))):DW X (.BoolOp .Or (a::b::X3) pos)
  (λenv S=>tst ((fa env S).bind λx S=>match Xh S x with|some yx=>.ok x S|some yw=>fb env S|none=>.bad)):=by
 intro wh pa s σ H ρ S env I B;dsimp only at B ⊢;cases q:fa env S with
 |bad=>rw[q]at B;cases B rfl|ex n S1=>exact isTrue_or (Y.ex I (by simp only[q];rfl) λx s' z=>⟨n,S1,rfl,z⟩)|ok x S1=>
  rw[q]at B;simp only[Rk0]at B ⊢;cases t:Xh S1 x with
  |none=>rw[t]at B;cases B rfl|some r=>
   rw[t]at B;refine isTrue_or (Y.ok I (by simp only[q];exact Xbg t) λs2 H2 L U J=>?_);cases r with
   |false=>exact Vo (hb wh pa s2 σ H2 L S1 env U B) (λw s3 ⟨S3,e3,H3,ρ3,J3,sr3,st3⟩=>⟨S3,e3,H3,ρ3,J3,sr3,J.trans st3⟩) λx s' z=>z.pre J|true=>exact⟨S1,Xbg t,H2,L,U.inv,U.sr,J⟩
end
theorem Xbb:∀ {ns:LI} {us:LV},Vals (ns.map V.int) us->Vcb us ns
 |[],_,.nil=>.nil|n::ns,_,.cons r t=>by obtain⟨k,rfl⟩:=r;exact .cons n k (Xbb t)
section
variable{prog:Vy}{w:V9}{A:Uq}{E:VP}{s:Vc}{x y:Addr}{us vs:LV}{xs ys:LI}
theorem Xxd:∀(xs ys:LI),xs=[]\/ys=[]->ltL xs ys=decide (la xs<la ys)
 |[],[]=>λ_=>rfl|[],_::_=>λ_=>rfl|_::_,[]=>λ_=>rfl|_::_,_::_=>λh=>by rcases h with h|h<;>cases h
theorem Xnc{P:PySem.Fin->Vc->Prop}(hx:Vc0 s.heap x us.toArray)(hy:Vc0 s.heap y vs.toArray)(ix:Vcb us xs)(iy:Vcb vs ys)(h:P (.done (.ret (.bool (ltL xs ys)))) s):
  Vf (Vj prog w) A (Vbb.«tuple.__lt__» ⟨[.ref x,.ref y],[]⟩) P E s:=by
 obtain⟨o1,a1,c1,n1,d1⟩:=hx;obtain⟨o2,a2,c2,n2,d2⟩:=hy;show Vf _ _ (isInstance (.ref y) (.type "tuple") >>= _) _ _ s;refine Va (wpAny_isInstance (T:="tuple") ⟨o2,a2,c2⟩ isSubtype_tuple_tuple ?_);simp only[Va4,Vv,if_false];refine Va (wpAny_tupleItemsOf a1 d1 (Va (wpAny_tupleItemsOf a2 d2 (Va ?_))));refine Vfu _ (λl r s'=>r.1=yy/\s'=s/\∃ps qs J B,l=J.zip B/\Vcb J ps/\Vcb B qs/\ltL ps qs=ltL xs ys/\decide (la J<la B)=decide (la us<la vs)) _ ?_ ?_ _ _ ⟨rfl,rfl,xs,ys,us,vs,rfl,ix,iy,rfl,rfl⟩
 ·rintro ⟨p,q⟩ l r s' ⟨hr,rfl,ps,qs,J,B,hz,i1,i2,e1,e2⟩;cases i1 with
  |nil=>simp at hz|cons a t L=>
   cases i2 with
   |nil=>simp at hz|cons b u U=>
    simp only[Ve2,List.cons.injEq,Vdq]at hz;obtain⟨⟨rfl,rfl⟩,rfl⟩:=hz;refine Va (wpAny_eqBool_int ?_);by_cases c:a=b
    ·subst c;simp only[beq_self_eq_true,Va4,Vv,if_false];refine Vd ⟨rfl,rfl,_,_,_,_,rfl,L,U,?_,?_⟩;·rw[<-e1];simp[ltL]
     ·rw[<-e2];simp
    have:(a==b)=false:=by simpa using c
    rw[this];simp only[Vgm,if_true];have Y:ltL xs ys=decide (a<b):=by rw[<-e1];simp[ltL,c]
    rw[Y]at h;exact Va (Vde (Va (lt_int (Va (Vd (Vd (Vd h)))))))
 ·rintro ⟨r1,r2⟩ s' ⟨hr,rfl,ps,qs,J,B,hz,i1,i2,e1,e2⟩;simp only at hr;subst hr;refine Vd ?_;show P (.done (.ret (.bool (decide (us.toArray.size<vs.toArray.size))))) s';have Y:ps=[]\/qs=[]:=by
   cases i1 with
   |nil=>exact .inl rfl|cons a t L=>
    cases i2 with
    |nil=>exact .inr rfl|cons b u U=>simp at hz
  rw[Vk,Vk,<-e2,i1.length,i2.length,<-Xxd ps qs Y,e1];exact h
theorem Xnd{Q:VP}(U:A.units<Vbe)(J:Vc0 s.heap x us.toArray)(B:Vc0 s.heap y vs.toArray)(L:Vcb us xs)(Y:Vcb vs ys)(h:Q (.bool (ltL xs ys)) s):
  Vf (Vj prog w) A (richCompare .Lt (.ref x) (.ref y)) Q E s:=by
 have t1:s.TypeIs (.ref x) "tuple":=let ⟨o,a,c,_⟩:=J;⟨o,a,c⟩
 have t2:s.TypeIs (.ref y) "tuple":=let ⟨o,a,c,_⟩:=B;⟨o,a,c⟩
 exact wpAny_richCompare_same_room (op:=.Lt) t1 t2 Vf6 (Vaq Vf6 t1 F.entry_tuple_lt (Xnc J B L Y ⟨_,rfl,(λe=>nomatch e),h⟩) (F.args_tuple_lt_2 _ _)) U
theorem Xdt{b:Bool}{Q:Bool->Vc->Prop}(U:A.units<Vbe)(B:Vc0 s.heap x us.toArray)(J:Vc0 s.heap y vs.toArray)(L:Vcb us xs)(Y:Vcb vs ys)(h:Q (ltL xs ys) s):
  Vf (Vj prog w) A (oneLt' b (.ref x) (.ref y)) Q E s:=by
 have t1:s.TypeIs (.ref x) "tuple":=let ⟨o,a,c,_⟩:=B;⟨o,a,c⟩
 rw[oneLt'_eq];cases b with
 |false=>simp only[Vv,if_false];exact Va (Xnd U B J L Y (Vbv h))|true=>simp only[if_true];refine Va (wpAny_cRoomFor U (Va (wpAny_callSpecialIfBound?_slot t1 Vf6 (Vaq Vf6 t1 F.entry_tuple_lt (Xnc B J L Y ⟨_,rfl,?_⟩) (F.args_tuple_lt_2 _ _)))));exact Vbv h
end
end Z
end
section
namespace Z
open PySem PySem.Spec PyProof.Rows L2 PySem.SeqAt
open AutoSeq1 (wpAny_loadPart')
theorem X66:fillsNumberSlot (.type "tuple") "mul"=pure false:=
 PySem.fillsNumberSlot_seq (r:=yz (.builtin "tuple.__rmul__")) PySem.F.slot_tuple_mul.lookup (by decide+kernel) (by rw[Vf7,Vec];kernel_rfl) (by decide+kernel)
theorem X67:seqRepeat? (.type "tuple")=pure (yz (.builtin "tuple.__mul__")):=by unfold seqRepeat?;rw[PySem.seqSlot_of (T:="tuple") (name:="__mul__") (id:="tuple.__mul__") PySem.F.slot_tuple_mul.lookup (by decide+kernel),PySem.seqSlot_of (T:="tuple") (name:="__rmul__") (id:="tuple.__rmul__") (by rw[Vf7,Vec];kernel_rfl) (by decide+kernel)];rfl
noncomputable abbrev Xo2(items:AV)(n:Nat)(dd:Option Addr)(sl:Array OV):Obj:={cls:=.type "tuple",dict:=dd,data:=.seq items n,slots:=sl}
theorem Xqv(a:Int)(t:Tok)(l:Addr)(items:AV)(n:Nat)(dd:Option Addr)(sl:Array OV):
  Meets (Vbb.«int.__rmul__» ⟨[.int a t,.ref l],[]⟩) (λ_ R s=>s.heap.get? l=yz (Xo2 items n dd sl)/\R (.ok (.ret Value.notImplemented)) s):=
 .of_wp λprog w A R s ⟨hl,h⟩=>by obtain⟨B,g,d,tk,os⟩:=s;wp_walk;exact⟨_,rfl,h⟩
section
variable(l:Addr)(items:AV)(n:Nat)(dd:Option Addr)(sl:Array OV)(k:Int)(u:Tok)
theorem X46:
  Meets (Vbb.«tuple.__mul__» ⟨[.ref l,.int 1 u],[]⟩) (λ_ R s=>s.heap.get? l=yz (Xo2 items n dd sl)/\R (.ok (.ret (.ref l))) s):=
 .of_wp λprog w A R s ⟨hl,h⟩=>by obtain⟨B,g,d,tk,os⟩:=s;have f1:=AutoSeq1.idx_int;have J:=Ve3;wp_walk using Vby hl;exact⟨_,rfl,h⟩
theorem X47(h0:¬ (decide (k < -2^63)||decide (k ≥ 2^63))=yx)(h1:¬ (items.isEmpty||k==1)=yx)(h2:(decide (k<=0)||items.isEmpty)=yx):
  Meets (Vbb.«tuple.__mul__» ⟨[.ref l,.int k u],[]⟩) (λ_ R s=>s.heap.get? l=yz (Xo2 items n dd sl)/\R (.ok (.ret (.ref s.heap.objs.size))) {s with heap:=s.heap.push {cls:=.type "tuple",data:=.seq #[]} }):=
 .of_wp λprog w A R s ⟨hl,h⟩=>by obtain⟨B,g,d,tk,os⟩:=s;have f1:=AutoSeq1.idx_int;have J:=Ve3;wp_walk using Vby hl;refine wpAny_ite_false (decide_eq_false h0) ?_;wp_walk using Vby hl;exact⟨_,rfl,h⟩
theorem X48(h0:¬ (decide (k < -2^63)||decide (k ≥ 2^63))=yx)(h1:¬ (items.isEmpty||k==1)=yx)(h2:¬ (decide (k<=0)||items.isEmpty)=yx)(B:¬ (items.size:Int)*k>(2^63-1)/8)
  (J:¬ Vgw (items.size*k)=yx) (Y:(Vf2 (λx1 x2=>x1++x2) #[] (Vi k.toNat items)).size<=Vu):
  Meets (Vbb.«tuple.__mul__» ⟨[.ref l,.int k u],[]⟩) (λ_ R s=>s.heap.get? l=yz (Xo2 items n dd sl)/\R (.ok (.ret (.ref s.heap.objs.size))) {s with heap:=s.heap.push {cls:=.type "tuple",data:=.seq (Vf2 (λx1 x2=>x1++x2) #[] (Vi k.toNat items))} }):=
 .of_wp λprog w A R s ⟨hl,h⟩=>by obtain⟨L,g,d,tk,os⟩:=s;have f1:=AutoSeq1.idx_int;have U:=Ve3;wp_walk using Vby hl;refine wpAny_ite_false (decide_eq_false h0) ?_;wp_walk using Vby hl;refine wpAny_ite_false (decide_eq_false B) ?_;wp_walk using Vby hl;exact⟨_,rfl,h⟩
end
section
variable{E:VP}{s:Vc}
theorem Xi7(its:LV):∀(m:Nat) (acc:LV),Vf2 (λx1 x2=>x1++x2) acc.toArray (Vi m its.toArray)=(acc++(Vi m its).flatten).toArray
 |0=>λacc=>by simp|m+1=>λacc=>by rw[Vae,Vbx,List.append_toArray,Xi7 its m];simp[Vae]
theorem Xxe(ht:Vc0 s.heap t vs.toArray)(hv:vs≠[])(hk:-(1048576)<k)(ab:k<1048576)(hz:(la vs)*k.toNat<=1000000)
  (h1:k=1->Q (.ref t) s) (h2:k≠1->Q (.ref s.heap.objs.size) {s with heap:=s.heap.push {cls:=.type "tuple",data:=.seq (Vi k.toNat vs).flatten.toArray} }):
  Vf (Vj prog w) A (Vcr .Mult (.ref t) (.int k u)) Q E s:=by
 obtain⟨⟨cls,dd,data,sl⟩,B,hc,n,hd⟩:=id ht;simp only at hc hd;subst hc hd;have ez:(vs.toArray.isEmpty)=false:=by cases vs with|nil=>exact aB0 rfl hv|cons _ _=>rfl
 have h0:¬ (decide (k < -2^63)||decide (k ≥ 2^63))=true:=by simp;omega
 have go:∀ {S:PySem.Spec},Meets (Vbb.«tuple.__mul__» ⟨[.ref t,.int k u],[]⟩) S->S A (wants Q E) s->Vf (Vj prog w) A (Vcr .Mult (.ref t) (.int k u)) Q E s:=λg hS=>
  Vg7 (T:="tuple") (U:="int") (by decide) ⟨_,B,rfl⟩ (λs'=>typeIs_int s' k u) X66 PySem.F.fills_int_mul PySem.F.slot_int_rmul X67 PySem.F.slot_int_index.lookup
   (Vct PySem.F.slot_int_rmul (typeIs_int s k u) PySem.F.entry_int_rmul (PySem.F.args_int_rmul_2 _ _) (Xqv k u t vs.toArray n dd sl)
    ⟨B,rfl,⟨_,B,rfl⟩,Vct PySem.F.slot_tuple_mul ⟨_,B,rfl⟩ PySem.F.entry_tuple_mul (PySem.F.args_tuple_mul_2 _ _) g hS⟩)
 by_cases L:k=1;·subst L;exact go (X46 t vs.toArray n dd sl u) ⟨B,h1 rfl⟩
 ·have J:¬ (vs.toArray.isEmpty||k==1)=true:=by rw[ez];simpa using L
  by_cases e0:k<=0
  ·refine go (X47 t vs.toArray n dd sl k u h0 J (by simp[e0])) ⟨B,?_⟩;have:=h2 L;have e2:k.toNat=0:=by omega
   rw[e2]at this;exact this
  have ef:=Xi7 vs k.toNat [];rw[Uz]at ef;have hl:(Vi k.toNat vs).flatten.length=k.toNat*la vs:=Xhi vs k.toNat;have aa:(la vs)*k.toNat<=Vu:=Ul hz (by decide);have ac:(la vs:Int)*k<=1000000:=by
   have Y:(k.toNat:Int)=k:=by omega
   rw[<-Y,<-Vdu];exact Int.ofNat_le.mpr hz
  refine go (X48 t vs.toArray n dd sl k u h0 J (by rw[ez];simpa using e0) ?_ ?_ ?_) ⟨B,?_⟩;·rw[Vk];omega
  ·rw[Vk];unfold Vgw;have:(1000000:Int)<=(Vu:Int):=by decide
   intro hh;have hh:=oD0 hh;omega
  ·rw[show(#[]:AV)=([]:LV).toArray from rfl,ef,Vk,hl,Vdh];exact aa
  rw[show(#[]:AV)=([]:LV).toArray from rfl,ef];exact h2 L
end
end Z
end
section
namespace Z
open PySem PySem.Spec PyProof.Rows L2
section
variable{X:Cx}{pa:LA}{σ:L2.St}{H:Hp}{s:Vc}{ρ:LR}{S:Sto}{env:En}{Q:VP}{E:VP}
mutual
theorem Xne(I:S0 X pa σ H s ρ S env)(J:∀n p a,look n=yz p->ρ[n]?=yz a->∃as,Reads s.heap (.ref a) p as/\∀b∈as,b∈ρ):
  ∀(d:D) (v:V) (u:Vb) (p:Vc9),Xav look d=yz p->RD X.K ρ H d v->RelV v u->∃as,Reads s.heap u p as/\∀b∈as,b∈ρ
 |.non=>λv u p h rd B=>by simp only[Xav,Vp]at h;simp only[RD]at rd;subst h rd;cases B;exact⟨_,.none,λ_ z=>nomatch z⟩|.bl b=>λv u p h rd B=>by simp only[Xav,Vp]at h;simp only[RD]at rd;subst h rd;cases B;exact⟨_,.bool b,λ_ z=>nomatch z⟩|.int i=>λv u p h rd B=>by simp only[Xav,Vp]at h;simp only[RD]at rd;subst h rd;obtain⟨t,rfl⟩:=B;exact⟨_,.int i t,λ_ z=>nomatch z⟩|.str i=>λv u p h rd B=>by simp only[Xav,Vp]at h;simp only[RD]at rd;subst h rd;obtain⟨t,rfl⟩:=B;exact⟨_,.str i t,λ_ z=>nomatch z⟩|.fro _=>λv u p h rd B=>by simp only[Xav]at h;cases h|.fn _ _=>λv u p h rd B=>by cases h|.tup xs=>λv u p h rd B=>by
  simp only[Xav]at h;cases e:datFs look xs with
  |none=>rw[e]at h;cases h|some ps=>rw[e]at h;cases h;simp only[RD]at rd;obtain⟨a,vs,rfl,L,hs⟩:=rd;cases B;obtain⟨its,r,⟨o,Y,hc,n,hd⟩,hz⟩:=I.inv.tuple L;obtain⟨as,q,qm⟩:=reads_Fs I J xs vs its ps e hs r;exact⟨_,.tuple Y hc hd (by simpa using q),qm⟩
 |.ref n=>λv u p h rd B=>by simp only[Xav]at h;simp only[RD]at rd;obtain⟨a,rfl,U⟩:=rd;cases B;exact J n p a h U
theorem reads_Fs(I:S0 X pa σ H s ρ S env)(hl:∀n p a,look n=yz p->ρ[n]?=yz a->∃as,Reads s.heap (.ref a) p as/\∀b∈as,b∈ρ):
  ∀(ds:LD) (vs:LW) (us:LV) (ps:List Vc9),datFs look ds=yz ps->RDs X.K ρ H ds vs->Vals vs us->∃as,ReadsAll s.heap us ps as/\∀b∈as,b∈ρ
 |[]=>λvs us ps h rd U=>by simp only[datFs,Vp]at h;simp only[RDs]at rd;subst h rd;cases U;exact⟨_,.nil,λ_ z=>nomatch z⟩|d::ds=>λvs us ps h rd U=>by
  simp only[datFs]at h;simp only[RDs]at rd;obtain⟨v,r,rfl,h1,h2⟩:=rd;cases B:Xav look d with
  |none=>rw[B]at h;cases h|some p=>
   cases L:datFs look ds with
   |none=>rw[B,L]at h;cases h|some Y=>
    rw[B,L]at h;cases h;cases U with
    |cons ru J=>obtain⟨as,q,qm⟩:=Xne I hl d v _ p B h1 ru;obtain⟨bs,q2,aa⟩:=reads_Fs I hl ds r _ Y L h2 J;exact⟨_,.cons q q2,λb hb=>(Vao.mp hb).elim (qm b) (aa b)⟩
end
theorem Xnf(I:S0 X pa σ H s ρ S env):∀(k n:Nat) (p:Vc9) (a:Addr),Xbq S k n=yz p->ρ[n]?=yz a->∃as,Reads s.heap (.ref a) p as/\∀b∈as,b∈ρ
 |0=>λn p a h J=>by simp only[Xbq]at h;cases h|k+1=>λn p a h J=>by
  simp only[Xbq]at h;cases e:S[n]? with
  |none=>rw[e]at h;cases h|some o=>
   rw[e]at h;have q:=I.sr.ob n a o J e;cases o with
   |lst xs=>
    dsimp only at h;cases L:datFs (Xbq S k) xs with
    |none=>rw[L]at h;cases h|some ps=>rw[L]at h;cases h;obtain⟨vs,hv,hr⟩:=q;obtain⟨_,its,n',r,U⟩:=I.inv.hok a _ hv;obtain⟨as,z,zm⟩:=reads_Fs I (Xnf I k) xs vs its ps L hr r;exact⟨_,.list U rfl rfl (by simpa using z),λb Y=>(Vt.mp Y).elim (λq=>q▸V6 J) (zm b)⟩
   |dct kvs=>
    rcases q with⟨rfl,hv⟩|⟨h0,_⟩
    case inr=>
     cases kvs with
     |nil=>cases h0 rfl|cons _ _=>cases h
    cases h;obtain⟨_,_,vs,r,ob,es,ep,U,hx,hd,hh⟩:=I.inv.hok a _ hv;cases r;have B:es.toList=[]:=by
     have z:=hh.2.1;cases q:es.toList with
     |nil=>rfl|cons x r=>rw[q]at z;cases z
    refine⟨_,.dict (kvs:=[]) (as:=[]) (bs:=[]) U hx.1 hd ?_ ?_,λb Y=>(Vt.mp Y).elim (λq=>q▸V6 J) (λz=>nomatch z)⟩;·rw[B];exact .nil
    ·rw[B];exact .nil|fdc _=>cases h|exc _=>cases h
theorem Xkw(I:S0 X pa σ H s ρ S env)(h:Yq S d=yz p)(rd:RD X.K ρ H d v)(B:RelV v u):∃as,Reads s.heap u p as/\∀b∈as,b∈ρ:=
 Xne I (Xnf I 4) d v u p h rd B
theorem Xar(I:S0 X pa σ H s ρ S env)(h:Yq S d=yz p)(rd:RD X.K ρ H d v)(B:RelV v u):∃as,Reads s.heap u p as:=
 let ⟨as,r,_⟩:=Xkw I h rd B
 ⟨as,r⟩
theorem Xqw(I:S0 X pa σ H s ρ S env)(B:∃o,X.K.lookup Vbq=yz o)(h:Yq S d=yz p)(rd:RD X.K ρ H d v)(J:RelV v u):∃as,Reads s.heap u p as/\Vbq ∉ as:=by obtain⟨as,r,L⟩:=Xkw I h rd J;refine⟨as,r,λhb=>?_⟩;obtain⟨o,U⟩:=B;obtain⟨w,Y,_⟩:=I.sr.mem (L _ hb);have:=(I.inv.bs _ _ (I.inv.mod.kin _ _ U)).2;rw[Y]at this;cases this
theorem X0(sr:SR X.K ρ S H)(J:Inv X pa σ H s'):OkP X pa σ ρ H (.ok (.bl r) S) (.bool r) s':=.mk (v:=.bl r) .refl J rfl (by simp only[RD]) sr
theorem Yx(sr:SR X.K ρ S H)(J:Inv X pa σ H s'):OkP X pa σ ρ H (.ok (.int i) S) (.int i t) s':=.mk (v:=.int i) .refl J ⟨t,rfl⟩ (by simp only[RD]) sr
theorem Xgo(sr:SR X.K ρ S H)(J:Inv X pa σ H s'):OkP X pa σ ρ H (.ok (.str x) S) (.str x t) s':=.mk (v:=.str x) .refl J ⟨t,rfl⟩ (by simp only[RD]) sr
theorem Xs8(h:(a&&b&&c)=yx):a=yx/\b=yx/\c=true:=by rw[bA0,bA0]at h;exact⟨h.1.1,h.1.2,h.2⟩
theorem Xi8(h:Xb1 x y=yz r):∃a b,x=.str a/\y=.str b/\r=(a.cps.toList==b.cps.toList):=by
 cases x with
 |str a=>cases y with
  |str b=>exact⟨a,b,rfl,rfl,(Uc h).symm⟩|_=>cases h
 |_=>cases h
theorem Xqx(h:Xhj S x y=yz r):∃a b xs ys,x=.ref a/\y=.ref b/\Xa S a=yz xs/\Xa S b=yz ys/\(la xs)≠la ys/\r=false:=by
 cases x with
 |ref a=>cases y with
  |ref b=>
   simp only[Xhj]at h;cases B:Xa S a with
   |none=>rw[B]at h;cases h|some xs=>
    cases J:Xa S b with
    |none=>rw[B,J]at h;cases h|some ys=>
     rw[B,J]at h;dsimp only at h;split at h;·cases h
     ·cases h;exact⟨a,b,xs,ys,rfl,rfl,B,J,by assumption,rfl⟩
  |_=>cases h
 |_=>cases h
theorem Xkx(h0:eqD S x y=yz r)(hn:Xb1 x y=yy):(∃p q,Yq S x=yz p/\Yq S y=yz q/\p.canLay0=yx/\q.canLay0=yx/\p.depth<=60/\r=Vb6 p q)\/Xhj S x y=yz r:=by
 have h:=h0;unfold eqD at h;rw[hn]at h;dsimp only at h;cases B:Yq S x with
 |none=>rw[B]at h;exact .inr h|some p=>
  cases J:Yq S y with
  |none=>rw[B,J]at h;exact .inr h|some q=>
   rw[B,J]at h;dsimp only at h;split at h;·rename_i U;obtain⟨h1,h2,L⟩:=Xs8 U;exact .inl ⟨p,q,rfl,rfl,h1,h2,oD0 L,(Uc h).symm⟩
   ·exact .inr h
theorem S0.lstM(I:S0 X pa σ H s ρ S env)(h:lstM S n=yz xs):∃a vs,ρ[n]?=yz a/\H a=yz (.lst vs)/\RDs X.K ρ H xs vs:=I.list h
theorem S0.lstR(I:S0 X pa σ H s ρ S env)(h:Z.lstM S n=yz xs)(r:RD X.K ρ H (.ref n) v):∃a vs,v=.ref a/\ρ[n]?=yz a/\H a=yz (.lst vs)/\RDs X.K ρ H xs vs:=by simp only[RD]at r;obtain⟨a,e,h1⟩:=r;obtain⟨L,vs,h2,J,B⟩:=I.lstM h;rw[h1]at h2;cases h2;exact⟨a,vs,e,h1,J,B⟩
theorem Xky(I:S0 X pa σ H s ρ S env)(h:Xhj S x y=yz r)(L:RD X.K ρ H x v)(Y:RelV v u)(ry:RD X.K ρ H y v')(ru:RelV v' u'):
  r=yw/\∃a b its its',u=.ref a/\u'=.ref b/\s.heap.IsList a its/\s.heap.IsList b its'/\(its.size != its'.size)=true:=by
 obtain⟨n,m,xs,ys,rfl,rfl,h1,h2,aa,rfl⟩:=Xqx h;obtain⟨a,vs,rfl,ha,B,ra⟩:=I.lstR h1 L;obtain⟨b,us,rfl,hb,J,rb⟩:=I.lstR h2 ry;cases Y;cases ru;obtain⟨_,i1,n1,q1,o1⟩:=I.inv.hok a _ B;obtain⟨_,i2,n2,U,o2⟩:=I.inv.hok b _ J;refine⟨rfl,a,b,i1.toArray,i2.toArray,rfl,rfl,⟨_,o1,rfl,_,rfl⟩,⟨_,o2,rfl,_,rfl⟩,?_⟩;have e1:(la i1)=la xs:=by rw[ra.length];exact q1.length.symm
 have e2:(la i2)=la ys:=by rw[rb.length];exact U.length.symm
 simp only[Vk,bne_iff_ne,ne_eq];omega
theorem X68(hu:X.A.units+200<Vbe):Op2 X (Van .Eq) (Xj .eq):=by
 intro pa s σ H ρ S env x y v u v' u' E I nb B L J Y;obtain⟨r,e,e2⟩:=Xcd nb;rw[e2];cases hn:Xb1 x y with
 |some r'=>
  obtain⟨a,b,rfl,rfl,hr⟩:=Xi8 hn;have er:r=r':=by have U:eqD S (.str a) (.str b)=yz r:=e;unfold eqD at U;rw[hn]at U;exact(Uc U).symm
  subst er hr;simp only[RD]at B J;subst B J;obtain⟨t,rfl⟩:=L;obtain⟨t',rfl⟩:=Y;exact PySem.P.eq_str (X0 I.sr I.inv)|none=>
 rcases Xkx e hn with⟨p,q,h1,h2,h3,h4,h5,rfl⟩|hl
 rotate_left
 ·obtain⟨rfl,a,b,i1,i2,rfl,rfl,l1,l2,l3⟩:=Xky I hl B L J Y;exact SeqAt.RcAt.lists_lengths l1 l2 l3 (by omega) X.prog X.w E _ (X0 I.sr I.inv)
 obtain⟨as,ra⟩:=Xar I h1 B L;obtain⟨bs,rb⟩:=Xar I h2 J Y;exact SeqAt.rcAt_reads ra rb h3 h4 (by omega) X.prog X.w E _ (X0 I.sr I.inv)
theorem X69(hu:X.A.units+200<Vbe):Op2 X (Van .NotEq) (Xj .ne):=by
 intro pa s σ H ρ S env x y v u v' u' E I nb B L J Y;obtain⟨r,e,e2⟩:=Xcd nb;rw[e2];simp only[X7,V5]at e;obtain⟨r',e,rfl⟩:=e;cases hn:Xb1 x y with
 |some r2=>
  obtain⟨a,b,rfl,rfl,hr⟩:=Xi8 hn;have er:r'=r2:=by have U:eqD S (.str a) (.str b)=yz r':=e;unfold eqD at U;rw[hn]at U;exact(Uc U).symm
  subst er hr;simp only[RD]at B J;subst B J;obtain⟨t,rfl⟩:=L;obtain⟨t',rfl⟩:=Y;exact PySem.P.ne_str (X0 I.sr I.inv)|none=>
 rcases Xkx e hn with⟨p,q,h1,h2,h3,h4,h5,rfl⟩|hl
 rotate_left
 ·obtain⟨rfl,a,b,i1,i2,rfl,rfl,l1,l2,l3⟩:=Xky I hl B L J Y;exact SeqAt.RcNeAt.lists_lengths l1 l2 l3 (by omega) X.prog X.w E _ (X0 I.sr I.inv)
 obtain⟨as,ra⟩:=Xar I h1 B L;obtain⟨bs,rb⟩:=Xar I h2 J Y;exact SeqAt.rcNeAt_reads ra rb h3 h4 (by omega) X.prog X.w E _ (X0 I.sr I.inv)
theorem Xkz(h:inD S x y=yz r):∃p qs,Yq S x=yz p/\(Yq S y=yz (.list qs)\/Yq S y=yz (.tuple qs))/\p.canLay0=yx/\Vda qs=yx/\p.depth<=60/\r=qs.any λq=>Vb6 q p:=by
 unfold inD at h;cases B:Yq S x with
 |none=>rw[B]at h;cases h|some p=>
  cases U:Yq S y with
  |none=>rw[B,U]at h;cases h|some q=>
   rw[B,U]at h;cases q with
   |list qs=>
    dsimp only at h;split at h;·rename_i J;obtain⟨h1,h2,L⟩:=Xs8 J;exact⟨p,qs,rfl,.inl rfl,h1,h2,oD0 L,(Uc h).symm⟩
    ·cases h|tuple qs=>
    dsimp only at h;split at h;·rename_i J;obtain⟨h1,h2,L⟩:=Xs8 J;exact⟨p,qs,rfl,.inr rfl,h1,h2,oD0 L,(Uc h).symm⟩
    ·cases h|none=>cases h|bool _=>cases h|int _=>cases h|str _=>cases h|dict _=>cases h
theorem X7a(hu:X.A.units+200<Vbe):Op2 X (Van .In) (Xj .isin):=by
 intro pa s σ H ρ S env x y v u v' u' E I nb rx rv J L;obtain⟨r,e,e2⟩:=Xcd nb;rw[e2];obtain⟨p,qs,h1,h2,h3,U,h5,rfl⟩:=Xkz e;obtain⟨as,Y⟩:=Xar I h1 rx rv;rcases h2 with h2|h2;·obtain⟨bs,B⟩:=Xar I h2 J L;exact SeqAt.in_list_reads B Y U h3 (by omega) (X0 I.sr I.inv)
 ·obtain⟨bs,B⟩:=Xar I h2 J L;exact SeqAt.in_tuple_reads B Y U h3 (by omega) (X0 I.sr I.inv)
theorem Xxf(hu:X.A.units+200<Vbe):Op2 X (Van .NotIn) (Xj .notin):=by
 intro pa s σ H ρ S env x y v u v' u' E I nb rx rv J L;obtain⟨r,e,e2⟩:=Xcd nb;rw[e2];simp only[X7,V5]at e;obtain⟨r',e,rfl⟩:=e;obtain⟨p,qs,h1,h2,h3,U,h5,rfl⟩:=Xkz e;obtain⟨as,Y⟩:=Xar I h1 rx rv;rcases h2 with h2|h2;·obtain⟨bs,B⟩:=Xar I h2 J L;exact SeqAt.notIn_list_reads B Y U h3 (by omega) (X0 I.sr I.inv)
 ·obtain⟨bs,B⟩:=Xar I h2 J L;exact SeqAt.notIn_tuple_reads B Y U h3 (by omega) (X0 I.sr I.inv)
theorem X7b:Op2 X (Van .LtE) (Xj .le):=by
 intro pa s σ H ρ S env x y v u v' u' E I L B U J Y;cases x with
 |int i=>cases y with
  |int j=>simp only[RD]at B J;subst B J;obtain⟨t,rfl⟩:=U;obtain⟨t',rfl⟩:=Y;exact le_int (X0 I.sr I.inv)|_=>cases L rfl
 |_=>cases y<;>cases L rfl
theorem X7c:Op2 X (Van .Gt) (Xj .gt):=by
 intro pa s σ H ρ S env x y v u v' u' E I L B U J Y;cases x with
 |int i=>cases y with
  |int j=>simp only[RD]at B J;subst B J;obtain⟨t,rfl⟩:=U;obtain⟨t',rfl⟩:=Y;exact gt_int (X0 I.sr I.inv)|_=>cases L rfl
 |_=>cases y<;>cases L rfl
theorem X7d:Op2 X (Van .GtE) (Xj .ge):=by
 intro pa s σ H ρ S env x y v u v' u' E I L B U J Y;cases x with
 |int i=>cases y with
  |int j=>simp only[RD]at B J;subst B J;obtain⟨t,rfl⟩:=U;obtain⟨t',rfl⟩:=Y;exact ge_int (X0 I.sr I.inv)|_=>cases L rfl
 |_=>cases y<;>cases L rfl
theorem Xac:∀ {xs:LD} {ns:LI},Xi xs=yz ns->xs=ns.map D.int
 |[],ns,h=>by simp only[Xi,Vp]at h;subst h;rfl|.int i::r,ns,h=>by simp only[Xi,V5]at h;obtain⟨ms,h1,rfl⟩:=h;rw[Xac h1];rfl|.non::_,_,h=>by simp[Xi]at h|.bl _::_,_,h=>by simp[Xi]at h|.str _::_,_,h=>by simp[Xi]at h|.tup _::_,_,h=>by simp[Xi]at h|.ref _::_,_,h=>by simp[Xi]at h|.fro _::_,_,h=>by simp[Xi]at h
theorem X7e(hu:X.A.units+200<Vbe):Op2 X (Van .Lt) (Xj .lt):=by
 intro pa s σ H ρ S env x y v u v' u' E I B J rv L ru;cases x with
 |int i=>cases y with
  |int j=>simp only[RD]at J L;subst J L;obtain⟨t,rfl⟩:=rv;obtain⟨t',rfl⟩:=ru;exact lt_int (X0 I.sr I.inv)|_=>cases B rfl
 |tup xs=>cases y with
  |tup ys=>
   simp only[Xj,X7,ltD]at B ⊢;cases e1:Xi xs with
   |none=>rw[e1]at B;cases B rfl|some a=>
    cases e2:Xi ys with
    |none=>rw[e1,e2]at B;cases B rfl|some b=>have q1:=Xac e1;have q2:=Xac e2;subst q1;subst q2;simp only[RD]at J L;obtain⟨b1,ai,rfl,aa,ac⟩:=J;obtain⟨b2,aj,rfl,Y,ae⟩:=L;have U:=ac.ints_of;have ab:=ae.ints_of;subst U;subst ab;cases rv;cases ru;obtain⟨af,u1,u2,_⟩:=I.inv.tuple aa;obtain⟨ah,u3,u4,_⟩:=I.inv.tuple Y;exact Xnd (by omega) u2 u4 (Xbb u1) (Xbb u3) (X0 I.sr I.inv)
  |_=>cases B rfl
 |_=>cases y<;>cases B rfl
theorem Xe0(B:X.A.units+200<Vbe):∀op:Co,Op2 X (Van (opC op)) (Xj op)
 |.eq=>X68 B|.ne=>X69 B|.lt=>X7e B|.le=>X7b|.gt=>X7c|.ge=>X7d|.isin=>X7a B|.notin=>Xxf B
theorem Xs9{ws:LV}(ht:Vc0 s.heap t #[])(hb:Vc0 s.heap b ws.toArray)(h:Q (.ref b) s):Vf (Vj prog w) A (Vcr .Add (.ref t) (.ref b)) Q E s:=by
 obtain⟨⟨cls,dd,ab,sl⟩,ho,hc,n,hd⟩:=id ht;obtain⟨⟨aa,U,data2,Y⟩,B,J,n2,L⟩:=id hb;simp only at hc hd J L;subst hc hd J L;exact concat_meets ⟨_,ho,rfl⟩ ⟨_,B,rfl⟩ noFill_tuple_add seq_tuple_add Vfl Vfg (Vez _ _)
   (tuple_addW0 t b #[] ws.toArray n n2 dd U sl Y rfl) ⟨ho,B,h⟩
theorem X49:Op2 X (Vcr .Add) (Xw .add):=by
 intro pa s σ H ρ S env x y v u v' u' E I B rx rv ry ru;cases x with
 |int i=>cases y with
  |int j=>simp only[RD]at rx ry;subst rx ry;obtain⟨t,rfl⟩:=rv;obtain⟨t',rfl⟩:=ru;exact add_int (Yx I.sr (I.inv.tok _))|_=>cases B rfl
 |tup xs=>cases y with
  |tup ys=>
   simp only[Xw]at B ⊢;split at B
   ·rename_i hz;rw[iP0 hz];have ae:=rx;have af:=ry;simp only[RD]at rx ry;obtain⟨a,vs,rfl,s1,r1⟩:=rx;obtain⟨b,us,rfl,s2,r2⟩:=ry;cases rv;cases ru;obtain⟨i1,q1,p1,z1⟩:=I.inv.tuple s1;obtain⟨i2,q2,p2,z2⟩:=I.inv.tuple s2;have U:=r1.length;have L:=r2.length;have aa:=q1.length;have Y:=q2.length;by_cases hx:xs=[]
    ·subst hx;have:vs=[]:=by simpa [RDs] using r1
     subst this;cases q1;refine Xs9 p1 p2 ?_;exact .mk (v:=.ref b) .refl I.inv rfl af I.sr
    refine HT.cat_tup p1 p2 (λz=>hx ?_) (λz=>?_) (λz=>?_) ?_;·subst z;simp at aa;rw[aa]at U;simpa using U
    ·have:ys=[]:=by subst z;simp at Y;rw[Y]at L;simpa using L
     subst this;rw[Ud];exact .mk (v:=.ref a) .refl I.inv rfl ae I.sr
    ·refine Xcc (I.inv.laid (t':=s.toks) (o:=.tup (vs++us)) (λb ob q=>Vg _ q) (Vl _) ?_) (I.inv.hok.fresh (Vl _)) I.sr (r1.append r2);exact⟨by rw[Ur,<-U,<-L];exact Xa0 hz,_,q1.append q2,IsTup.new _ _⟩
    rw[<-aa,<-Y,<-U,<-L];exact Xa0 hz
   cases B rfl|_=>cases B rfl
 |ref n=>cases y with
  |ref m=>
   simp only[Xw]at B ⊢;cases h1:Z.lstM S n with
   |none=>rw[h1]at B;cases B rfl|some xs=>
    cases h2:Z.lstM S m with
    |none=>rw[h1,h2]at B;cases B rfl|some ys=>
     rw[h1,h2]at B;dsimp only at B ⊢;split at B
     ·rename_i hz;rw[iP0 hz];obtain⟨a,vs,rfl,ha,ab,ra⟩:=I.lstR h1 rx;obtain⟨b,us,rfl,hb,ac,rb⟩:=I.lstR h2 ry;exact opd (Q':=λz H'=>∃p,H p=yy/\z=.ref p/\H'=upd H p (.lst (vs++us))) X0z I.inv rv ru ⟨a,b,vs,us,rfl,rfl,ab,ac,by rw[<-ra.length,<-rb.length];exact Xa0 hz,λp hp=>⟨p,hp,rfl,rfl⟩⟩
       λw s' z H' J rz ⟨p,hp,z1,z2⟩=>by subst z1 z2;cases rz;exact Xba J hp I.sr (ra.append rb)
     cases B rfl
  |_=>cases B rfl
 |_=>cases y<;>cases B rfl
theorem X5a:Op2 X (Vcr .Sub) (Xw .sub):=by
 intro pa s σ H ρ S env x y v u v' u' E I L B U J Y;cases x with
 |int i=>cases y with
  |int j=>simp only[RD]at B J;subst B J;obtain⟨t,rfl⟩:=U;obtain⟨t',rfl⟩:=Y;exact sub_int (Yx I.sr (I.inv.tok _))|_=>cases L rfl
 |_=>cases y<;>cases L rfl
theorem Xng(h:i.natAbs.log2<100000):Builtin.Int.intBits i<=2^20:=by
 unfold Builtin.Int.intBits;split;·exact Ug _
 ·omega
theorem Xk0(h:Yl i j=yx):IntMulOk i j:=by
 simp only[Yl,Vbi,bA0,decide_eq_true_eq]at h;rcases h with h|h;·have:CMul i j:=h;exact this.ok
 ·exact IntMulOk.of_bits (Xng h.1) (Xng h.2)
theorem X5b:Op2 X (Vcr .Mult) (Xw .mul):=by
 intro pa s σ H ρ S env x y v u v' u' E I B Y rv ry ru;cases x with
 |int i=>cases y with
  |int j=>
   simp only[RD]at Y ry;subst Y ry;obtain⟨t,rfl⟩:=rv;obtain⟨t',rfl⟩:=ru;simp only[Xw]at B ⊢;split at B;·rename_i L;rw[iP0 L];exact mul_int (Yx I.sr (I.inv.tok _)) (Xk0 L)
   ·cases B rfl|_=>cases B rfl
 |tup xs=>cases y with
  |int k=>
   simp only[Xw]at B ⊢;split at B
   ·rename_i L;rw[iP0 L];have ac:=Y;simp only[RD]at Y ry;subst ry;obtain⟨a,vs,rfl,s1,r1⟩:=Y;cases rv;obtain⟨t',rfl⟩:=ru;obtain⟨i1,q1,p1,z1⟩:=I.inv.tuple s1;have U:=r1.length;have aa:=q1.length;have ae:i1≠[]:=λz=>by
     subst z;have:xs=[]:=Vgf (by rw[U,aa];rfl);subst this;exact aB0 L.2.2.2 (by simp)
    refine Xxe p1 ae L.2.2.1 L.1 (by rw[<-aa,<-U];exact L.2.1) (λe=>?_) (λe=>?_)
    ·subst e;have e1:(Vi (1:Int).toNat xs).flatten=xs:=by simp
     rw[e1];exact .mk (v:=.ref a) .refl I.inv rfl ac I.sr
    have hr:∀m:Nat,RDs X.K ρ H (Vi m xs).flatten (Vi m vs).flatten:=λm=>by
     induction m with
     |zero=>simpa using RDs.nil|succ m ih=>rw[Vae,Vae,Va3,Va3];exact r1.append ih
    refine Xcc (I.inv.laid (t':=s.toks) (o:=.tup (Vi k.toNat vs).flatten) (λb ob q=>Vg _ q) (Vl _) ?_) (I.inv.hok.fresh (Vl _)) I.sr (hr _);exact⟨by rw[Xhi,<-U,Vdh];exact Xa0 L.2.1,_,q1.rep _,IsTup.new _ _⟩
   cases B rfl|_=>cases B rfl
 |ref n=>cases y with
  |int k=>
   simp only[Xw]at B ⊢;cases h1:Z.lstM S n with
   |none=>rw[h1]at B;cases B rfl|some xs=>
    rw[h1]at B;dsimp only at B ⊢;split at B
    ·rename_i L;rw[iP0 L];obtain⟨a,vs,rfl,ha,ab,ra⟩:=I.lstR h1 Y;simp only[RD]at ry;subst ry;have hr:RDs X.K ρ H (Vi k.toNat xs).flatten (Vi k.toNat vs).flatten:=by
      induction k.toNat with
      |zero=>simpa using RDs.nil|succ m ih=>rw[Vae,Vae,Va3,Va3];exact ra.append ih
     exact opd (Q':=λz H'=>∃p,H p=yy/\z=.ref p/\H'=upd H p (.lst (Vi k.toNat vs).flatten)) X00 I.inv rv ru
      ⟨a,k,vs,rfl,rfl,ab,by omega,by omega,by rw[<-ra.length];exact Xa0 L.2.1,λp hp=>⟨p,hp,rfl,rfl⟩⟩
      λw s' z H' J rz ⟨p,hp,z1,z2⟩=>by subst z1 z2;cases rz;exact Xba J hp I.sr hr
    cases B rfl
  |_=>cases B rfl
 |_=>cases y<;>cases B rfl
theorem X1f:Op2 X (Vcr .FloorDiv) (Xw .fdiv):=by
 intro pa s σ H ρ S env x y v u v' u' E I B L Y U ru;cases x with
 |int i=>cases y with
  |int j=>
   simp only[RD]at L U;subst L U;obtain⟨t,rfl⟩:=Y;obtain⟨t',rfl⟩:=ru;simp only[Xw]at B ⊢;split at B;·rename_i J;rw[iP0 J];simp only[Y6,bA0,decide_eq_true_eq]at J;have hj:(0:Int)<j:=J.1;exact floordiv_int (by omega) (by rw[Int.fdiv_eq_ediv_of_nonneg i (by omega)];exact Yx I.sr (I.inv.tok _)) (.inl (PyProof.noPylong_of_log2 J.2))
   ·cases B rfl|_=>cases B rfl
 |_=>cases y<;>cases B rfl
theorem X5c:Op2 X (Vcr .Mod) (Xw .mod):=by
 intro pa s σ H ρ S env x y v u v' u' E I B J U L Y;cases x with
 |int i=>cases y with
  |int j=>
   simp only[RD]at J L;subst J L;obtain⟨t,rfl⟩:=U;obtain⟨t',rfl⟩:=Y;simp only[Xw]at B ⊢;split at B;·rename_i hz;rw[iP0 hz];exact mod_int' (by omega) (by rw[Int.fmod_eq_emod_of_nonneg i (by omega)];exact Yx I.sr (I.inv.tok _))
   ·cases B rfl|_=>cases B rfl
 |_=>cases y<;>cases B rfl
theorem X5d:Op2 X (Vcr .Pow) (Xw .pow):=by
 intro pa s σ H ρ S env x y v u v' u' E I B J Y L ru;cases x with
 |int i=>cases y with
  |int j=>
   simp only[RD]at J L;subst J L;obtain⟨t,rfl⟩:=Y;obtain⟨t',rfl⟩:=ru;simp only[Xw]at B ⊢;split at B;·rename_i U;rw[iP0 U];exact pow_int_small U.1 (by omega) (by omega) (Yx I.sr (I.inv.tok _))
   ·cases B rfl|_=>cases B rfl
 |_=>cases y<;>cases B rfl
theorem X5e:∀op:Bo,Op2 X (Vcr (opB op)) (Xw op)
 |.add=>X49|.sub=>X5a|.mul=>X5b|.fdiv=>X1f|.mod=>X5c|.pow=>X5d
end
theorem X1g(n:Nat)(i:Int):Z.ixN n i=L2.ixN n i:=rfl
section
variable{X:Cx}{pa:LA}{σ:L2.St}{H:Hp}{s:Vc}{ρ:LR}{S S':Sto}{env:En}{Q:VP}{E:VP}{a b c e:Expr}{f fa fb fc:En->Sto->R D}{pos:Pos}
theorem X1h(r:RDs X.K ρ H xs vs)(h:((Z.ixN (la xs) k).bind λj=>xs[j]?)=yz d):∃v,atI vs k=yz v/\RD X.K ρ H d v:=by
 cases e:Z.ixN (la xs) k with
 |none=>rw[e]at h;cases h|some j=>rw[e]at h;obtain⟨v,h1,h2⟩:=r.get (i:=j) (d:=d) h;refine⟨v,?_,h2⟩;show((L2.ixN (la vs) k).bind λj=>vs[j]?)=yz v;rw[<-r.length];rw[X1g]at e;rw[e];exact h1
theorem X5f(hs:Xhh b):Op2 X (Ven a b) Xah:=by
 intro pa s σ H ρ S env x y v u v' u' E I nb rx rv ry ru;unfold Xah at nb ⊢;cases e:Xat x y S with
 |none=>rw[e]at nb;cases nb rfl|some d=>
  cases y with
  |int k=>
   simp only[RD]at ry;subst ry;have U:∀ {r:R2} (hr:IxR (X.wish E) r) (z:V),r v (.int k) H (λz' H'=>z'=z/\H'=H)->RD X.K ρ H d z->Vf (Vj X.prog X.w) X.A (Ven a b v' u') (OkP X pa σ ρ H (.ok d S)) E s:=λ{r} hr z h1 h2=>thn (hr a b pa s σ H v (.int k) v' u' _ (I.inv.wish E) rv ru h1 (hs _ _)) λw s' ⟨z',H',J,Y,L,e2⟩=>by subst L e2;exact .mk .refl J.unwish Y h2 I.sr
   have seq:∀xs,Xs S x=yz xs->((Z.ixN (la xs) k).bind λj=>xs[j]?)=yz d->Vf (Vj X.prog X.w) X.A (Ven a b v' u') (OkP X pa σ ρ H (.ok d S)) E s:=λxs h1 h2=>by
    obtain⟨p,vs,rfl,B,hr⟩:=I.seq h1 rx;obtain⟨z,hz,Y⟩:=X1h hr h2;rcases B with B|B;·exact U Xw3 z ⟨p,vs,k,z,rfl,rfl,B,hz,rfl,rfl⟩ Y
    ·exact U X0x z ⟨p,vs,k,z,rfl,rfl,B,hz,rfl,rfl⟩ Y
   cases x with
   |str _=>simp[Xat,Xs]at e|tup xs=>exact seq xs rfl (by simpa [Xat,Xs] using e)|fro xs=>exact seq xs rfl (by simpa [Xat,Xs] using e)|ref n=>
    simp only[Xat,Xs]at e;cases L:Xa S n with
    |none=>rw[L]at e;cases e|some xs=>rw[L]at e;exact seq xs L e
   |non=>simp[Xat,Xs]at e|bl _=>simp[Xat,Xs]at e|int _=>simp[Xat,Xs]at e|fn _ _=>simp[Xat,Xs]at e
  |_=>simp[Xat]at e
theorem X5g(hs:Xhh b)(J:DE X a fa)(L:DE X b fb):DE X (.Subscript a b pos) (λenv S=>(fa env S).bind λx S=>(fb env S).bind λy S=>Xah x y S):=
 λpa s σ H ρ S env I B=>Subscript_ (two (X5f hs) J L I B rfl)
noncomputable def spD(K:Ve)(n:Nat)(F:LD->Sto->R D):Sp:=λvs H Q E=>∃ds ρ S,la vs=n/\RDs K ρ H ds vs/\SR K ρ S H/\F ds S≠.bad /\
 (∀d S' v H' ρ',F ds S=.ok d S'->RD K ρ' H' d v->SR K ρ' S' H'->Stp K ρ ρ' H H'->Q v H') /\
 ∀n c S' a H' ρ',F ds S=.ex n S'->ρ'[n]?=yz a->S'[n]?=yz (.exc c)->SR K ρ' S' H'->Stp K ρ ρ' H H'->E (.ref a) yy H'
noncomputable def CXd(P:Vy)(w:V9):CXT:=λouter H s E e s'=>∃H',s'.os=s.os/\AllBare s'.gens/\Un (frs outer) [] H H' s.heap s'.heap/\HOk P w H' s'.heap/\(∃a,e=.ref a/\Trc .none (λT=>s.heap.get? T=yy) H' a s'.heap)/\E e yy H'
structure RoomC(cm:Bool)(k:Nat)(A:Uq):Prop where
 gd:A.guards=yz []
 hd:cm=yx->A.handled=yy
 dp:A.depth+3*k+5<Vgk
 un:A.units+16*k+200<Vbe
theorem RoomC.of(r:Room k A):RoomC cm k A:=⟨r.gd,λ_=>r.hd,r.dp,r.un⟩
theorem RoomC.less(r:RoomC cm k A)(h:cm2=yx->cm=yx):RoomC cm2 k A:=⟨r.gd,λz=>r.hd (h z),r.dp,r.un⟩
theorem RoomC.deeper(r:RoomC cm (k+1) A)(env:Vax):RoomC cm k (A.deeper env):=
 ⟨r.gd,r.hd,by have:=r.dp;show A.depth+1+3*k+5<_;omega,by have:=r.un;show A.units+3+16*k+200<_;omega⟩
theorem RoomC.mark(r:RoomC cm k A):RoomC yw k (A.mark h):=⟨r.gd,(λz=>nomatch z),r.dp,r.un⟩
structure FnD(cm:Bool)(P:Vy)(w:V9)(K:Ve)(mg:Str->OV)(base:Heap)(k:Nat)(f:Addr)(fd:Vc3)(ps:LS)(F:LD->Sto->R D):Prop where
 run:∀(A:Uq) (outer:List Vax) (s:Vc) (H:Hp) (args:Args) (us:LV) (vs:LW) (Q:VK) (E:XK),RoomC cm k A->Env0 P w K mg base A outer s H->BindsTo s fd args (ps.zip us)->Vals vs us->spD K (la ps) F vs H Q E ->
  Vbz (Vj P w) A (.call (.ref f) args) (CR (CXd P w) outer P w H s Q E) s
theorem Xwa(G:FnD cm X.prog X.w X.K X.mg X.base k g fd ps F)(hr:RoomC cm k X.A)(hb:Binds X.K fd ps [])
  (I:S0 X pa σ H s ρ S env) (rv:Vals vs us) (rd:RDs X.K ρ H ds vs) (hl:(la ds)=la ps) (nb:F ds S≠.bad):
  Vf (Vj X.prog X.w) X.A (call (.ref g) us) (OkP X pa σ ρ H (F ds S)) (ExP X pa σ ρ H (F ds S)) s:=by
 have Y:(la vs)=la ps:=by rw[<-rd.length];exact hl
 have aa:BindsTo s fd ⟨us,[]⟩ (ps.zip us):=by have:=hb s us I.inv.kIn (by rw[Ud,<-rv.length];exact Y);rwa [Ud]at this
 have ac:spD X.K (la ps) F vs H (λv H'=>∃d S' ρ',F ds S=.ok d S'/\RD X.K ρ' H' d v/\SR X.K ρ' S' H'/\Stp X.K ρ ρ' H H')
   (λe _ H'=>∃n c S' a ρ',F ds S=.ex n S'/\e=.ref a/\ρ'[n]?=yz a/\S'[n]?=yz (.exc c)/\SR X.K ρ' S' H'/\Stp X.K ρ ρ' H H'):=
  ⟨ds,ρ,S,Y,rd,I.sr,nb,λd S' v H' ρ' h1 h2 B L=>⟨d,S',ρ',h1,h2,B,L⟩,λn c S' a H' ρ' h1 h2 B L h5=>⟨n,c,S',a,ρ',h1,rfl,h2,B,L,h5⟩⟩
 refine wpAny_call (Vdj (G.run X.A X.stack s H ⟨us,[]⟩ us vs _ _ hr I.inv.env0 aa rv ac) λr s' U=>?_);cases r with
 |error e=>
  obtain⟨H',os,bare,un,hok,⟨a',h0,tr⟩,n,c,S',a,ρ',h1,h2,B,L,h5,h6⟩:=U;refine⟨n,S',h1,H',ρ',a,c,I.inv.call' os un hok bare (λb z=>aB0 z (by simp)),h2,B,L,h5,h6,.inr ⟨_,.inl rfl,?_⟩⟩;rw[h2]at h0;cases h0;refine tr.imp λT hT=>⟨?_,λp hp z=>?_⟩
  ·by_cases hx:T∈X.ex;·exact .inl hx
   ·cases q:X.s₀.heap.get? T with
    |none=>exact .inr rfl|some o=>obtain⟨o',e⟩:=I.inv.base.there T o q hx;rw[hT]at e;cases e
  have:=(I.inv.pin p hp).1;rw[z,hT]at this;cases this|ok fl=>
  cases fl with
  |ret u=>obtain⟨v,H',J,ab,d,S',ρ',h1,h2,B,L⟩:=I.inv.after U;exact⟨d,S',h1,v,H',ρ',J,ab,h2,B,L⟩|next=>exact Vdv U|brk=>exact Vdv U|cont=>exact Vdv U
theorem X1i(G:FnD cm X.prog X.w X.K X.mg X.base k g fd ps F)(hr:RoomC cm k X.A)(hb:Binds X.K fd ps [])
  (hg:Gl X x) (hm:X.mg x=yz (.ref g)) (hk:Vcs X.K (.ref g)=yx) (Y:DA X (e::es) ga) (hl:∀env S ds S',ga env S=.ok ds S'->la ds=la ps)
  (U:(x==("__debug__" : Str))=yw) (he:V7 (e::es) X.env=(yw,eval e X.env)::V7 es X.env) (J:(Vbu pos (V7 es X.env)).any (·.1)=yw):
  DE X (.Call (.Name x p) (e::es) [] pos) (λenv S=>(ga env S).bind λxs S=>F xs S):=by
 intro pa s σ H ρ S env I B;dsimp only at B ⊢;refine Vai (Xda I.inv hg hm ?_ U);cases q:ga env S with
 |bad=>rw[q]at B;cases B rfl|ex n S1=>exact Ve4 (h₀:=X.base) I.inv.ok.mod.kin hk (Y.ex I q λx s' z=>⟨n,S1,rfl,z⟩) he J|ok ds S1=>rw[q]at B;simp only[Rk0]at B ⊢;refine Ve4 (h₀:=X.base) I.inv.ok.mod.kin hk (Y.ok I q λus s1 vs H1 aa I1 rv rd L=>⟨I1.inv.kIn,?_⟩) he J;exact Vo (Xwa G hr hb I1 rv rd (hl env S ds S1 q) B) (λu s2 z=>z.pre L) λx s2 z=>z.pre L
def FlP(X:Cx)(pa:LA)(σ:L2.St)(ρ:LR)(H:Hp)(na:Bool)(S':Sto)(s':Vc):Fl->Flow->Prop
 |.nx e,fl=>fl=.next/\∃ B H' ρ',S0 X pa B H' s' ρ' S' e/\Stp X.K ρ ρ' H H'/\(na=yx->B=σ)|.brk e,fl=>fl=.brk/\∃ B H' ρ',S0 X pa B H' s' ρ' S' e/\Stp X.K ρ ρ' H H'|.cnt e,fl=>fl=.cont/\∃ B H' ρ',S0 X pa B H' s' ρ' S' e/\Stp X.K ρ ρ' H H'|.rt d,fl=>∃u v B H' ρ',fl=.ret u/\Inv X pa B H' s'/\RelV v u/\RD X.K ρ' H' d v/\SR X.K ρ' S' H'/\Stp X.K ρ ρ' H H'
def OkS(X:Cx)(pa:LA)(σ:L2.St)(ρ:LR)(H:Hp)(na:Bool)(r:R Fl)(B:Flow)(s':Vc):Prop:=∃x S',r=.ok x S'/\FlP X pa σ ρ H na S' s' x B
def ExS(X:Cx)(pa:LA)(σ:L2.St)(ρ:LR)(H:Hp)(na:Bool)(r:R Fl)(e:Vb)(s':Vc):Prop:=∃n S' B,r=.ex n S'/\(na=yx->B=σ)/\XPd X pa B ρ H n S' e s'
def DS(X:Cx)(st:Stmt)(na:Bool)(f:En->Sto->R Fl):Prop:=
 ∀(pa:LA) (s:Vc) (σ:L2.St) (H:Hp) (ρ:LR) (S:Sto) (env:En),S0 X pa σ H s ρ S env->f env S≠.bad ->
  Vf (Vj X.prog X.w) X.A (exec st X.env) (OkS X pa σ ρ H na (f env S)) (ExS X pa σ ρ H na (f env S)) s
def DSs(X:Cx)(st:LM)(na:Bool)(f:En->Sto->R Fl):Prop:=
 ∀(pa:LA) (s:Vc) (σ:L2.St) (H:Hp) (ρ:LR) (S:Sto) (env:En),S0 X pa σ H s ρ S env->f env S≠.bad ->
  Vf (Vj X.prog X.w) X.A (execs st X.env) (OkS X pa σ ρ H na (f env S)) (ExS X pa σ ρ H na (f env S)) s
theorem FlP.pre{x:Fl}{fl:Flow}{s':Vc}{U:L2.St}{ρ':LR}{H':Hp}{na na':Bool}(st:Stp X.K ρ ρ' H H')(hn:na'=yx->na=yx/\U=σ)(h:FlP X pa U ρ' H' na S' s' x fl):FlP X pa σ ρ H na' S' s' x fl:=by
 cases x with
 |nx e=>obtain⟨h1,J,H2,B,h2,L,Y⟩:=h;exact⟨h1,J,H2,B,h2,st.trans L,λz=>(Y (hn z).1).trans (hn z).2⟩|brk e=>obtain⟨h1,J,H2,B,h2,L⟩:=h;exact⟨h1,J,H2,B,h2,st.trans L⟩|cnt e=>obtain⟨h1,J,H2,B,h2,L⟩:=h;exact⟨h1,J,H2,B,h2,st.trans L⟩|rt d=>obtain⟨u,v,J,H2,B,h1,h2,L,Y,h5,h6⟩:=h;exact⟨u,v,J,H2,B,h1,h2,L,Y,h5,st.trans h6⟩
theorem OkS.pre{r:R Fl}{J:Flow}{s':Vc}{B:L2.St}{ρ':LR}{H':Hp}{na na':Bool}(st:Stp X.K ρ ρ' H H')(hn:na'=yx->na=yx/\B=σ)(h:OkS X pa B ρ' H' na r J s'):OkS X pa σ ρ H na' r J s':=by obtain⟨x,S1,e,h⟩:=h;exact⟨x,S1,e,h.pre st hn⟩
theorem ExS.of(st:Stp X.K ρ ρ' H H')(h:XPd X pa σ ρ' H' n S' x s')(e:r=.ex n S'):ExS X pa σ ρ H na r x s':=⟨n,S',σ,e,λ_=>rfl,h.pre st⟩
theorem ExS.pre{na na':Bool}{B:L2.St}{r:R Fl}{x:Vb}{s':Vc}{ρ':LR}{H':Hp}(st:Stp X.K ρ ρ' H H')(hn:na'=yx->na=yx/\B=σ)(h:ExS X pa B ρ' H' na r x s'):ExS X pa σ ρ H na' r x s':=by obtain⟨n,S1,J,e,h1,h2⟩:=h;exact⟨n,S1,J,e,λz=>(h1 (hn z).1).trans (hn z).2,h2.pre st⟩
variable{st:Stmt}{X3 sa sb:LM}{g g2:En->Sto->R Fl}{na na2:Bool}
theorem DS.weak(h:DS X st na g)(hn:na2=yx->na=yx):DS X st na2 g:=λpa s σ H ρ S env I B=>Vo (h pa s σ H ρ S env I B) (λ_ _ z=>z.pre .refl λq=>⟨hn q,rfl⟩) λ_ _ z=>z.pre .refl λq=>⟨hn q,rfl⟩
theorem dss_nil:DSs X [] yx (λenv S=>.ok (.nx env) S):=λpa s σ H ρ S env I _=>Vf8 ⟨.nx env,S,rfl,rfl,σ,H,ρ,I,.refl,λ_=>rfl⟩
theorem Xta(h1:DS X st na g)(h2:DSs X X3 na2 g2):DSs X (st::X3) (na&&na2) (λenv S=>match g env S with | .ok (.nx e) S'=>g2 e S'|r=>r):=by
 intro pa s σ H ρ S env I nb;dsimp only at nb ⊢;refine wpAny_execs_cons ?_;cases q:g env S with
 |bad=>rw[q]at nb;cases nb rfl|ex n S1=>
  refine Vo (h1 pa s σ H ρ S env I (by rw[q];exact λz=>nomatch z)) (λfl s1 z=>?_) λx s1 z=>?_;·obtain⟨x,S2,e,_⟩:=z;rw[q]at e;cases e
  ·rw[q]at z;exact z.pre .refl λw=>⟨by rw[bA0]at w;exact w.1,rfl⟩|ok x S1=>
  rw[q]at nb;refine Vo (h1 pa s σ H ρ S env I (by rw[q];exact λz=>nomatch z)) (λfl s1 z=>?_) λx s1 z=>?_
  ·obtain⟨y,S2,e,z⟩:=z;rw[q]at e;cases e;cases x with
   |nx e=>obtain⟨rfl,B,H1,J,Y,L,U⟩:=z;exact Vo (h2 pa s1 B H1 J S1 e Y nb) (λfl s2 z=>z.pre L λw=>by rw[bA0]at w;exact⟨w.2,U w.1⟩) λx s2 z=>z.pre L λw=>by rw[bA0]at w;exact⟨w.2,U w.1⟩|brk e=>obtain⟨rfl,B,H1,J,Y,L⟩:=z;exact⟨.brk e,S1,rfl,rfl,B,H1,J,Y,L⟩|cnt e=>obtain⟨rfl,B,H1,J,Y,L⟩:=z;exact⟨.cnt e,S1,rfl,rfl,B,H1,J,Y,L⟩|rt d=>obtain⟨u,v,B,H1,J,rfl,r⟩:=z;exact⟨.rt d,S1,rfl,u,v,B,H1,J,rfl,r⟩
  obtain⟨k,S2,aa,e,_⟩:=z;rw[q]at e;cases e
theorem ds_pass:DS X (.Pass pos) yx (λenv S=>.ok (.nx env) S):=λpa s σ H ρ S env I _=>wpAny_Pass ⟨.nx env,S,rfl,rfl,σ,H,ρ,I,.refl,λ_=>rfl⟩
theorem ds_brk:DS X (.Break pos) yw (λenv S=>.ok (.brk env) S):=λpa s σ H ρ S env I _=>wpAny_Break ⟨.brk env,S,rfl,rfl,σ,H,ρ,I,.refl⟩
theorem ds_cnt:DS X (.Continue pos) yw (λenv S=>.ok (.cnt env) S):=λpa s σ H ρ S env I _=>wpAny_Continue ⟨.cnt env,S,rfl,rfl,σ,H,ρ,I,.refl⟩
theorem Xxg(L:DE X e f)(hs:Ve5 e yy pos.line X.env=pure yw):DS X (.Expr e pos) yx (λenv S=>(f env S).bind λ_ S=>.ok (.nx env) S):=by
 intro pa s σ H ρ S env I B;dsimp only at B ⊢;cases q:f env S with
 |bad=>rw[q]at B;cases B rfl|ex n S1=>exact wpAny_Expr_any (L.ex I q λx s' z=>.of .refl z rfl) I.inv.quiet hs|ok d S1=>exact wpAny_Expr_any (L.ok I q λu s' v H' ρ' J U rd st=>⟨.nx env,S1,rfl,rfl,σ,H',ρ',J,st,λ_=>rfl⟩) I.inv.quiet hs
theorem Xqy(L:DE X e f):DS X (.Return (yz e) pos) yx (λenv S=>(f env S).bind λx S=>.ok (.rt x) S):=by
 intro pa s σ H ρ S env I B;dsimp only at B ⊢;cases q:f env S with
 |bad=>rw[q]at B;cases B rfl|ex n S1=>exact wpAny_Return_some (L.ex I q λx s' z=>.of .refl z rfl)|ok d S1=>exact wpAny_Return_some (L.ok I q λu s' v H' ρ' J U rd st=>⟨.rt d,S1,rfl,u,v,σ,H',ρ',rfl,J.inv,U,rd,J.sr,st⟩)
theorem X5h(hc:DT X c (λenv S=>tst (fc env S)))(ha:DSs X sa na g)(hb:DSs X sb na2 g2):
  DS X (.If c sa sb pos) (na&&na2) (λenv S=>(fc env S).bind λx S=>match Xh S x with|some yx=>g env S|some yw=>g2 env S|none=>.bad):=by
 intro pa s σ H ρ S env I B;dsimp only at B ⊢;cases q:fc env S with
 |bad=>rw[q]at B;cases B rfl|ex n S1=>exact wpAny_If (hc.ex I (by simp only[q];rfl) λx s' z=>.of .refl z rfl)|ok x S1=>
  rw[q]at B;simp only[Rk0]at B ⊢;cases t:Xh S1 x with
  |none=>rw[t]at B;cases B rfl|some r=>
   rw[t]at B;refine wpAny_If (hc.ok I (by simp only[q];exact Xbg t) λU H2 L Y J=>?_);cases r with
   |true=>exact Vo (ha pa U σ H2 L S1 env Y B) (λw s3 z=>z.pre J λw=>by rw[bA0]at w;exact⟨w.1,rfl⟩) λx s' z=>z.pre J λw=>by rw[bA0]at w;exact⟨w.1,rfl⟩|false=>exact Vo (hb pa U σ H2 L S1 env Y B) (λw s3 z=>z.pre J λw=>by rw[bA0]at w;exact⟨w.2,rfl⟩) λx s' z=>z.pre J λw=>by rw[bA0]at w;exact⟨w.2,rfl⟩
theorem X1j(hN:X.N.Nodup)(hi:X.N[i]?=yz x)(U:Loc X.env.scope x)(hf:X.fn x=yx\/X.env.scope.names.lookup x=yz .local)(L:DE X e f)(hs:Ve5 e (yz (.Name x pos')) pos.line X.env=pure yw):
  DS X (.Assign [.Name x pos'] e pos) yw (λenv S=>(f env S).bind λx S=>match Xn (.var i) x env with|some env=>.ok (.nx env) S|none=>.bad):=by
 intro pa s σ H ρ S env I B;dsimp only at B ⊢;cases q:f env S with
 |bad=>rw[q]at B;cases B rfl|ex n S1=>exact wpAny_Assign_Name (L.ex I q λx s' z=>.of .refl z rfl) hs|ok d S1=>refine wpAny_Assign_Name (L.ok I q λu s' v H' ρ' J Y rd st=>?_) hs;exact Xa5 J.inv hN hi U Y (λs2 I2=>⟨.nx (env.set i (yz d)),S1,rfl,rfl,_,H',ρ',⟨I2,J.sr,J.er.set i rd⟩,st,λz=>nomatch z⟩) hf
theorem Xbw{b:Addr}{u:HO}(x:ObjOk P w H h b u):∃o,h.get? b=yz o:=by
 cases u with
 |lst xs=>obtain⟨_,_,_,_,e⟩:=x;exact⟨_,e⟩|tup xs=>obtain⟨_,_,_,o,e,_⟩:=x;exact⟨_,e⟩|dK kvs=>obtain⟨_,_,_,_,o,_,_,e,_⟩:=x;exact⟨_,e⟩|dT kvs=>obtain⟨_,_,_,_,o,_,_,e,_⟩:=x;exact⟨_,e⟩|set S n=>obtain⟨o,_,_,_,e,_⟩:=x;exact⟨_,e⟩|ins C dx fs=>obtain⟨_,_,_,e,_⟩:=x;exact⟨_,e⟩|own y=>exact x|xd fs=>obtain⟨_,⟨_,_,_,e,_⟩,_⟩:=x;exact⟨_,e⟩|rng lo hi=>obtain⟨_,_,_,e⟩:=x;exact⟨_,e⟩|frz ob u=>obtain⟨e,_⟩:=x;exact⟨_,e⟩|tbl ps=>obtain⟨_,e,_⟩:=x;exact⟨_,e⟩|met f y=>exact⟨_,(show h.get? b=yz _ from x)⟩|ext B=>exact x.2.1
theorem Xc7{h g g':Heap}:∀ {l:List Vax},h.FunFrames g l->(∀b∈frs l,g'.get? b=yy)->h.FunFrames g' l
 |[],_,_=>trivial|env::r,⟨hk,⟨L,o,hf,_,ho,hd⟩,hr⟩,k=>by
  have e:frs (env::r)=L::frs r:=by unfold frs;rw[Uj,hf]
  rw[e]at k;exact⟨hk,⟨L,o,hf,k L (.head _),ho,hd⟩,Xc7 hr λb B=>k b (.tail _ B)⟩
structure Hid(X:Cx)(H':Hp)(a:Addr)(h:Heap)(l:LR):Prop where
 er:a∈l
 fr:∀b∈frs X.stack,b∈l
 of:∀b∈l,b=a\/b∈frs X.stack\/(H' b=yy/\∃o vs,h.get? b=yz o/\o.data=.fields vs)
theorem Xnh{pa:LA}{σ:L2.St}{a C:Addr}{l:LR}(I:Inv X pa σ H' s')(L:H' a=yz (.ext (ExcO C a)))(hl:Hid X H' a s'.heap l)
  (keep:∀b o,s'.heap.get? b=yz o->b ∉ l->h'.get? b=yz o) (U:ExcO C a h'):HOk X.prog X.w H' h':=by
 have out:∀b u,b≠a->H' b=yz u->b ∉ l:=λb u J q Y=>by
  rcases hl.of b Y with z|z|⟨z,_⟩;·exact J z
  ·rw[I.stkFree b z]at q;cases q
  rw[z]at q;cases q
 intro b u q;by_cases J:b=a;·subst J;rw[L]at q;cases q;exact U.ok
 ·refine(I.hok b u q).stay (λc v B e=>?_) (λ_ z=>z) λ_ _ _ z=>z;rcases B with rfl|B;·exact keep c v e (out c u J q)
  ·exact keep c v e (out c _ (λz=>by rw[z,L]at B;cases B) B)
theorem Inv.fly{X:Cx}{pa:LA}{σ:L2.St}{H:Hp}{s:Vc}{a:Addr}(I:Inv X pa σ H s)(ha:H a=yz (.ext (ExcO C a)))(hl:Hid X H a s.heap l)
  (J:∀b∈l,b≠a->b ∉ frs X.stack->Xhl X pa b) (k1:(Vbw s.heap l).StaysIn h') (k4:s.heap.UpToSlots h') (he:ExcO C a h'):
  Inv X pa σ H {s with heap:=h' }:=by
 have keep:∀b o,s.heap.get? b=yz o->b ∉ l->h'.get? b=yz o:=λb o e U=>k1 b o (Vdm l e U);have ab:∀b∈frs X.stack,∃o,s.heap.get? b=yz o/\∀vs,o.data≠.fields vs:=λb U=>(I.stack.mem U).2;have aa:∀b o,X.s₀.heap.get? b=yz o->b≠X.env.locals:=λb o e=>Vz (V0 (Vr e) I.ok.above);have B:∀x c,X.env.cells.lookup x=yz c->∀v,s.heap.IsCell c v->h'.IsCell c v:=λx c e v ⟨o,ho,hd⟩=>by
  obtain⟨sl,q⟩:=k4 c o ho λvs z=>by rw[hd]at z;cases z
  exact⟨_,q,hd⟩
 refine⟨I.ok,I.os,I.bare,⟨λb o e n U L=>?_,λb o e n U L=>?_,λb o e n L=>I.base.free b o e n L,λb o e L=>?_,I.base.tups,I.base.frzs,I.base.tbls⟩,?_,λx c e=>?_,I.free,I.freeC,λp hp=>?_,Xnh I ha hl keep he,I.len⟩
 ·refine keep b o (I.base.keep b o e n U L) λhm=>?_;have fb:=I.base.free b o e n L;by_cases h1:b=a;·rw[h1,ha]at fb;cases fb
  ·by_cases h2:b∈frs X.stack
   ·rcases Vt.mp (I.stkSub b h2) with z|z;·exact aa b o e z
    ·exact U z
   rcases (J b hm h1 h2).1 with z|z;·exact L z
   ·rw[z]at e;cases e
 ·obtain⟨sl,Y⟩:=I.base.slot b o e n U L;obtain⟨_,o',e',nd⟩:=I.funs.mem U;rw[Y]at e';cases e';obtain⟨ac,e2⟩:=k4 b _ Y nd;exact⟨ac,e2⟩
 ·obtain⟨o',Y⟩:=I.base.there b o e L;by_cases hm:b∈l
  ·by_cases h1:b=a;·subst h1;obtain⟨oe,_,_,q,_⟩:=he;exact⟨_,q⟩
   ·by_cases h2:b∈frs X.stack;·obtain⟨o2,e2,nd⟩:=ab b h2;rw[Y]at e2;cases e2;obtain⟨sl,e3⟩:=k4 b _ Y nd;exact⟨_,e3⟩
    ·rcases (J b hm h1 h2).1 with z|z;·exact aB0 z L
     ·rw[z]at e;cases e
  exact⟨_,keep b o' Y hm⟩
 ·obtain⟨m,hn,ae⟩:=I.loc;refine⟨m,k4.ns hn,λi x v Y e2 e3=>?_⟩;obtain⟨u,r,lk⟩:=ae i x v Y e2 e3;refine⟨u,r,?_⟩;rcases lk with lk|⟨kd,c,e,z⟩;·exact .inl lk
  ·exact .inr ⟨kd,c,e,B x c e _ z⟩
 ·obtain⟨v,z⟩:=I.cell x c e;exact⟨v,B x c e v z⟩
 ·obtain⟨e,n,ne,nf,d⟩:=I.pin p hp;refine⟨keep p.1 p.2 e λhm=>?_,n,ne,nf,d⟩;by_cases h1:p.1=a;·rw[h1,ha]at n;cases n
  ·by_cases h2:p.1∈frs X.stack
   ·rcases Vt.mp (I.stkSub p.1 h2) with z|z;·exact ne z
    ·exact nf z
   exact(J p.1 hm h1 h2).2 p hp rfl
theorem Xfy{X:Cx}{pa:LA}{σ:L2.St}{H':Hp}{s':Vc}{a C:Addr}{Q:Unit->Vc->Prop}{E:VP}(I:Inv X pa σ H' s')(hs:X.stack=X.env::X.outer)(Y:X.env.frame=yz X.env.locals)
  (ha:H' a=yz (.ext (ExcO C a))) (fl:Fly X pa H' a s'.heap)
  (hQ:∀l h2 a0,Hid X H' a s'.heap l->(∀b∈l,b≠a->b ∉ frs X.stack->Xhl X pa b)->Heap.HeldW (Vbw s'.heap l) (X.env::X.outer) a (.ref C) a0 X.env.locals h2->s'.heap.UpToSlots h2->Q () {s' with heap:=h2}):
  Vf (Vj X.prog X.w) X.A (noteFrame (.ref a) X.env) Q E s':=by
 have hA:X.A.frames=yz (X.env::X.outer):=by rw[<-hs];exact I.ok.frames
 have hI:=I.stack;obtain⟨⟨oa,va,a0,U,ca,L,v0,vz⟩,_,_⟩:=(show ObjOk X.prog X.w H' s'.heap a (.ext (ExcO C a)) from I.hok a _ ha);rcases fl with⟨oe,vs,e1,e2,e3⟩|⟨fl,hfl,oe,vs,T,oT,ts,e1,e2,e3,e4,e6,e7,e8,e9,e10⟩
 ·have hid:Hid X H' a s'.heap (a::frs X.stack):=⟨.head _,λb B=>.tail _ B,λb B=>by
   rcases Vt.mp B with z|z;·exact .inl z
   ·exact .inr (.inl z)⟩
  rw[U]at e1;cases e1;rw[L]at e2;cases e2;unfold noteFrame;simp only[Y];refine Va (Vac U L e3 ?_);rw[iN0 (by decide)];refine wpAny_entryW (base:=Vbw s'.heap (a::frs X.stack)) hA (by rw[<-hs];exact Xc7 hI λb B=>Vbd _ (.tail _ B)) Y U (λb o e=>Vew _ e) (Vbd _ (.head _)) L vz v0 λh2 ⟨k1,k2,k3,k4⟩=>?_
  rw[ca]at k3;exact hQ _ h2 a0 hid (λb B h1 h2=>by
   rcases Vt.mp B with z|z;·exact aB0 z h1
   ·exact aB0 z h2) ⟨k1,Vbd _ (.head _),k2,k3⟩ k4
 ·have hid:Hid X H' a s'.heap (a::T::frs X.stack):=⟨.head _,λb B=>.tail _ (.tail _ B),λb B=>by
   rcases Vt.mp B with z|z;·exact .inl z
   ·rcases Vt.mp z with z|z;·subst z;exact .inr (.inr ⟨e7,oT,ts,e8,e9⟩)
    ·exact .inr (.inl z)⟩
  have J:∀b∈a::T::frs X.stack,b≠a->b ∉ frs X.stack->Xhl X pa b:=λb B h1 h2=>by
   rcases Vt.mp B with z|z;·exact aB0 z h1
   ·rcases Vt.mp z with z|z;·subst z;exact e4
    ·exact aB0 z h2
  rw[U]at e1;cases e1;rw[L]at e2;cases e2;have fr:s'.heap.FunFrames (Vbw s'.heap (a::T::frs X.stack)) (X.env::X.outer):=by rw[<-hs];exact Xc7 hI λb B=>Vbd _ (.tail _ (.tail _ B))
  have tr:s'.heap.TracedAtW (Vbw s'.heap (a::T::frs X.stack)) a (.ref C) a0 fl:=⟨oa,va,T,oT,ts,U,⟨ca,v0⟩,L,e3,Vbd _ (.tail _ (.head _)),e6,e8,e9,e10⟩;rcases hfl with rfl|rfl;·exact wpAny_looks_onW hA Y ⟨λb o e=>Vew _ e,Vbd _ (.head _),fr,tr⟩ λh2 ab aa=>hQ _ h2 a0 hid J ab aa
  ·exact wpAny_noteFrame_againW Y tr (hQ _ s'.heap a0 hid J ⟨λb o e=>Vew _ e,Vbd _ (.head _),fr,tr⟩ (.refl _))
theorem Xxh{X:Cx}{pa:LA}{σ:L2.St}{H':Hp}{s':Vc}{a C:Addr}{Q:Unit->Vc->Prop}{E:VP}(I:Inv X pa σ H' s')(hs:X.stack=X.env::X.outer)(hf:X.env.frame=yz X.env.locals)(hx:X.ex=[])
  (ha:H' a=yz (.ext (ExcO C a))) (fl:Fly X pa H' a s'.heap)
  (hQ:∀h',Un X.fs [] X.H₀ H' X.s₀.heap h'->HOk X.prog X.w H' h'->Trc .none (λT=>X.s₀.heap.get? T=yy) H' a h'->Q () {s' with heap:=h' }):Vf (Vj X.prog X.w) X.A (leaving X.env (.ref a)) Q E s':=by
 have U:frs X.stack=X.env.locals::X.fs:=by rw[hs];unfold frs;rw[Uj,hf];rfl
 have hA:X.A.frames=yz (X.env::X.outer):=by rw[<-hs];exact I.ok.frames
 have hI:=I.stack;have ac:∀(l:LR) (h':Heap) (a0:Vb),Hid X H' a s'.heap l->(∀b∈l,b≠a->b ∉ frs X.stack->X.s₀.heap.get? b=yy)->Heap.LeftW (Vbw s'.heap l) (X.env::X.outer) a (.ref C) a0 s'.heap h'->Q () {s' with heap:=h' }:=by
  intro l h' a0 hl B k0;obtain⟨k1,k2,⟨oe,vs,T,oT,ts,t1,⟨t2,t3⟩,t4,t5,t6,t7,t8,t9,t10⟩,k4⟩:=k0;have keep:∀b o,s'.heap.get? b=yz o->b ∉ l->h'.get? b=yz o:=λb o e J=>k1 b o (Vdm l e J);have ab:∀b∈frs X.stack,∃o,s'.heap.get? b=yz o/\∀vs,o.data≠.fields vs:=λb J=>(hI.mem J).2;have aa:∀b∈frs X.stack,∀o,s'.heap.get? b=yz o->∃sl,h'.get? b=yz {o with slots:=sl}:=λb J o e=>by obtain⟨o',e',nd⟩:=ab b J;rw[e]at e';cases e';exact k4 b o e nd
  have ae:∀b o,X.s₀.heap.get? b=yz o->b≠X.env.locals:=λb o e=>Vz (V0 (Vr e) I.ok.above);have nx:∀b:Addr,b ∉ X.ex:=λb z=>by rw[hx]at z;cases z
  have hT:∀o,s'.heap.get? T=yz o->T∈l:=λo e=>by
   by_cases L:T∈l;·exact L
   ·rw[Vdm l e L]at t6;cases t6
  have nT:T ∉ frs X.stack:=λL=>by obtain⟨o,e,nd⟩:=ab T L;obtain⟨sl,e'⟩:=aa T L o e;rw[t8]at e';cases e';exact nd ts t9
  refine hQ h' ⟨λb o e n J _=>?_,λb o e n J _=>?_,λb o e n _=>I.base.free b o e n (nx b),λb o e _=>?_,I.base.tups,I.base.frzs,I.base.tbls⟩ (Xnh I ha hl keep ⟨oe,vs,a0,t1,t2,t4,t3,(Uo.mp t5).1⟩) ⟨oe,vs,T,oT,ts,t1,t4,t5,?_,t7,?_,t8,t9,t10⟩
  ·refine keep b o (I.base.keep b o e n J (nx b)) λL=>?_;have fb:=I.base.free b o e n (nx b);by_cases h1:b=a;·rw[h1,ha]at fb;cases fb
   ·by_cases h2:b∈frs X.stack
    ·rw[U]at h2;rcases Vt.mp h2 with z|z;·exact ae b o e z
     ·exact J z
    rw[B b L h1 h2]at e;cases e
  ·obtain⟨sl,Y⟩:=I.base.slot b o e n J (nx b);obtain⟨af,e2⟩:=aa b (by rw[U];exact .tail _ J) _ Y;exact⟨af,e2⟩
  ·obtain⟨o',Y⟩:=I.base.there b o e (nx b);by_cases L:b∈l
   ·by_cases h1:b=a;·subst h1;exact⟨_,t1⟩
    ·by_cases h2:b∈frs X.stack;·obtain⟨sl,e2⟩:=aa b h2 o' Y;exact⟨_,e2⟩
     ·rw[B b L h1 h2]at e;cases e
   exact⟨_,keep b o' Y L⟩
  ·cases q:X.s₀.heap.get? T with
   |none=>exact q|some o=>obtain⟨o',Y⟩:=I.base.there T o q (nx T);rw[B T (hT o' Y) t7 nT]at q;cases q
  cases q:H' T with
  |none=>rfl|some u=>
   obtain⟨o',Y⟩:=Xbw (I.hok T u q);rcases hl.of T (hT o' Y) with z|z|⟨z,_⟩;·exact aB0 z t7
   ·exact aB0 z nT
   rw[z]at q;cases q
 unfold leaving;refine Va (Xfy I hs hf ha fl λl h2 a0 hid B hh up=>?_);refine wpAny_setFlight_noneW hh.1 hh.2.2.1 hh.2.2.2 λh' k1 k2 k3 k4=>?_;refine ac l h' a0 hid (λb J h1 h2=>?_) ⟨k1,k2,k3,λb o e nd=>?_⟩
 ·rcases (B b J h1 h2).1 with z|z;·rw[hx]at z;cases z
  ·exact z
 ·obtain⟨sl,e2⟩:=up b o e nd;exact⟨sl,k4 b _ e2 nd⟩
noncomputable def cxC(cm:Bool)(P:Vy)(w:V9)(K:Ve)(mg:Str->OV)(base:Heap)(N:LS)(qual:Str)(scope:Ue)(f:Addr)(cd:Vb)(A:Uq)(outer:List Vax)(s:Vc)(H:Hp)(E:XK):Cx:=
 { Xov (CXd P w) P w K mg base N qual scope f cd A outer s H E with calm:=cm}
theorem X1k{cm:Bool}{P:Vy}{w:V9}{K:Ve}{mg:Str->OV}{base:Heap}{k:Nat}{f:Addr}{name qual:Str}{params:Vdt}{body:LM}{scope:Ue}{dV kV ai pm L ct oc:Vb}{an od:Option Addr}
  {au:Array (OV)} {N ps:LS} {G:En->Sto->R Fl} {na:Bool} (lk:K.lookup f=yz ⟨oc,od,.func (Vb4 name qual params body scope dV kV ai pm an L ct),au⟩) (al:Vfb K L qual=yx) (S:FnScope N ps scope)
  (ah:∀(A:Uq) (outer:List Vax) (s:Vc) (H:Hp) (E:XK),RoomC cm k (A.deeper (envOfC qual scope s.heap.objs.size f L))->DSs (cxC cm P w K mg base N qual scope f L A outer s H E) body na G):
  FnD cm P w K mg base (k+1) f (Vb4 name qual params body scope dV kV ai pm an L ct) ps (λds S=>if (la ds)=la ps then
   match G (ds.map yz++Vi (N.length-la ps) yy) S with
   |.ok (.rt v) S=>.ok v S|.ok (.nx _) S=>.ok .non S|.ok _ _=>.bad|.ex n S=>.ex n S
   |.bad=>.bad else .bad):=by
 refine⟨λA outer s H av us vs Q E hr Y hb r ar=>?_⟩;obtain⟨ds,ρ,af,hl,rd,sr,nb,hok,ac⟩:=ar;have aj:(la ds)=la ps:=by rw[rd.length];exact hl
 dsimp only at nb hok ac;rw[iP0 aj]at nb;simp only[iP0 aj]at hok ac;have KX:K.In s.heap:=Y.mod.kin.keeps λb o e=>(Y.bs b o e).1;have aq:s.heap.NoLimit:=Y.mod.nolimit.keeps λb o e=>(Y.bs b o e).1;have ae:∀y∈ps.zip us,scope.names.lookup y.1=yz .local\/(scope.names.lookup y.1=yz .cell/\((Va9 (s.heap.objs.size+1) scope.names []).lookup y.1).isSome=yx):=λ⟨n,v⟩ hy=>by
  rcases S.par n (List.of_mem_zip hy).1 with q|q;·exact .inl q
  ·exact .inr ⟨q,Vd3 _ _ _ (.inl q)⟩
 refine codeAny_call_function (by have:=hr.dp;omega) (KX _ _ lk) rfl S.co S.gen rfl (PySem.W.codeRec_of KX al) (hb _ _ _ _ ?_);refine Vgx S.kind ae λenv he s1 x=>?_;subst he;refine⟨aq.keeps x.toInCall.keep,codeAny_func ?_⟩;have hD:=ah A outer s H E (hr.deeper _);have ap:Env0 P w K mg base { A with handled:=yy} outer s H:=⟨Y.frames,Y.mod,Y.bs,Y.bsz,Y.funs,Y.frf,Y.hok,Y.bare⟩;have I:Inv (cxC cm P w K mg base N qual scope f L A outer s H E) [] (start N vs) H s1:=by have B:Inv (Xov (CXd P w) P w K mg base N qual scope f L { A with handled:=yy} outer s H E) [] (start N vs) H s1:=Xiz S rfl ap hl r x;exact⟨⟨B.ok.mod,B.ok.kind,B.ok.glob,B.ok.blt,B.ok.above,B.ok.inj,B.ok.has,B.ok.cab,(λz=>hr.hd z),B.ok.frames,B.ok.stk,B.ok.exf,B.ok.bs,B.ok.bsz,B.ok.noex,B.ok.exfs,B.ok.funs,B.ok.frf⟩,B.os,B.bare,B.base,B.loc,B.cell,B.free,B.freeC,B.pin,B.hok,B.len⟩
 have J:S0 (cxC cm P w K mg base N qual scope f L A outer s H E) [] (start N vs) H s1 ρ af (ds.map yz++Vi (N.length-la ps) yy):=by
  refine⟨I,sr,⟨?_,λi d e=>?_⟩⟩;·unfold L2.start;simp[rd.length,hl]
  ·by_cases hi:i<la ds
   ·rw[Vs (by simpa using hi),Vx]at e;cases q:ds[i]? with
    |none=>rw[q]at e;cases e|some d'=>rw[q]at e;cases e;obtain⟨v,h1,h2⟩:=rd.get q;refine⟨v,?_,h2⟩;unfold L2.start;rw[Vs (by rw[Vn,<-rd.length];exact hi),Vx,h1];rfl
   rw[Val (by simpa using hi),Vcn]at e;split at e<;>cases e
 have am:G (ds.map yz++Vi (N.length-la ps) yy) af≠.bad:=λz=>nb (by rw[z]);refine Vo (hD [] s1 (start N vs) H ρ af _ J am) (λfl s' hs=>?_) λe s' hs=>?_
 ·obtain⟨y,S1,e1,hs⟩:=hs;rw[e1]at nb hok;cases y with
  |nx e=>obtain⟨rfl,ak,H',ρ',U,aa,_⟩:=hs;exact⟨.non,H',U.inv.os,U.inv.bare,U.inv.base,U.inv.hok,rfl,hok .non S1 .non H' ρ' rfl (by simp only[RD]) U.sr aa⟩|rt d=>obtain⟨u,v,ak,H',ρ',rfl,U,rv,ao,ab,aa⟩:=hs;exact⟨v,H',U.os,U.bare,U.base,U.hok,rv,hok d S1 v H' ρ' rfl ao ab aa⟩|brk e=>cases nb rfl|cnt e=>cases nb rfl
 ·obtain⟨n,S1,ak,e1,_,H',ρ',a,c,U,rfl,hn,hc,ab,aa,fl⟩:=hs;rw[e1]at ac;obtain⟨C,_,ha⟩:=(show ∃C,Y9 K c=yz C/\H' a=yz (.ext (ExcO C a)) from ab.ob n a _ hn hc);exact Xxh U rfl rfl rfl ha fl λh' un hok tr=>⟨H',U.os,U.bare,un,hok,⟨a,rfl,tr⟩,ac n c S1 a H' ρ' rfl hn hc ab aa⟩
end
abbrev RX:List (LI×Addr×V)->List (LI×Addr×Vb)->Prop:=Paired λp q=>p.1=q.1/\p.2.1=q.2.1/\RelV p.2.2 q.2.2
noncomputable def Xec(xs:List (LI×Addr×V))(k:LI)(b:Addr)(v:V):List (LI×Addr×V):=
 if xs.any (λp=>decide (p.1=k)) then xs.map (λp=>if p.1=k then (p.1,p.2.1,v) else p) else xs++[(k,b,v)]
section
variable{K:Ve}{ρ:LR}{H:Hp}{kvs:List (LI×D)}{xs:List (LI×Addr×V)}{ys:List (LI×Addr×Vb)}{k:LI}{b:Addr}{d:D}{v:V}{u:Vb}
theorem X1l(r:DX K ρ H kvs xs)(q:RX xs ys):match X5 kvs k with
  |none=>atKey ys k=yy|some d=>∃c v u,atKey ys k=yz (c,u)/\RelV v u/\RD K ρ H d v:=by
 induction r generalizing ys with
 |nil=>cases q;rfl|@cons p x ps qs h t ih=>
  cases q with
  |@cons _ y _ zs h2 t2=>
   have:=ih t2;obtain⟨L,e2,Y⟩:=h;obtain⟨f1,f2,U⟩:=h2;by_cases e:p.1=k
   ·have J:X5 (p::ps) k=yz p.2:=by simp[X5,e]
    have B:atKey (y::zs) k=yz y.2:=by simp[atKey,<-f1,<-L,e]
    rw[J];exact⟨_,_,_,B,U,Y⟩
   have J:X5 (p::ps) k=X5 ps k:=by simp[X5,e]
   have B:atKey (y::zs) k=atKey zs k:=by simp[atKey,<-f1,<-L,e]
   rw[J,B];exact this
theorem Xxi(r:DX K ρ H kvs xs)(k:LI):xs.any (λp=>decide (p.1=k))=(X5 kvs k).isSome:=by
 induction r with
 |nil=>rfl|@cons p x ps qs h t ih=>
  by_cases e:p.1=k;·simp[X5,<-h.1,e]
  ·have B:X5 (p::ps) k=X5 ps k:=by simp[X5,e]
   rw[B,List.any_cons,ih,<-h.1];simp[e]
theorem X1m(r:DX K ρ H kvs xs)(B:SqT K H b (k.map V.int))(hd:RD K ρ H d v):DX K ρ H (Xai kvs k d) (Xec xs k b v):=by
 unfold Xai Xec;rw[Xxi r k];split
 ·rename_i J;clear B J;induction r with
  |nil=>exact .nil|@cons p x ps qs h t ih=>
   rw[Uh,Uh];refine .cons ?_ ih;obtain⟨h1,h2,L⟩:=h;by_cases e:p.1=k;·rw[iP0 e,iP0 (h1.symm.trans e)];exact⟨h1,h2,hd⟩
   ·rw[iN0 e,iN0 (λz=>e (h1.trans z))];exact⟨h1,h2,L⟩
 exact Paired.snoc r ⟨rfl,B,hd⟩
theorem Xxj(r:RX xs ys)(k:LI):xs.any (λp=>decide (p.1=k))=(atKey ys k).isSome:=by
 induction r with
 |nil=>rfl|@cons p x ps qs h t ih=>
  by_cases e:p.1=k;·simp[atKey,<-h.1,e]
  ·have B:atKey (x::qs) k=atKey qs k:=by simp[atKey,<-h.1,e]
   rw[B,List.any_cons,ih];simp[e]
theorem X1n(r:RX xs ys)(B:RelV v u):RX (Xec xs k b v) (storedH ys k b u):=by
 unfold Xec storedH;rw[Xxj r k];split
 ·rename_i J;clear J;induction r with
  |nil=>exact .nil|@cons p x ps qs h t ih=>
   rw[Uh,Uh];refine .cons ?_ ih;obtain⟨h1,h2,L⟩:=h;unfold putAt;by_cases e:p.1=k;·rw[iP0 e,iP0 (h1.symm.trans e)];exact⟨h1,h2,B⟩
   ·rw[iN0 e,iN0 (λz=>e (h1.trans z))];exact⟨h1,h2,L⟩
 exact Paired.snoc r ⟨rfl,rfl,B⟩
theorem Xtb:Xai kvs k d≠[]:=by
 unfold Xai;split
 ·rename_i h;cases kvs with
  |nil=>cases h|cons p r=>exact λz=>by cases z
 simp
end
section
variable{X:Cx}{pa:LA}{σ:L2.St}{H:Hp}{s:Vc}{ρ:LR}{S:Sto}{env:En}
theorem Xgp{P:Vy}{w:V9}:∀ {ks:LI} {us:LV},Vals (ks.map V.int) us->ItemsAre (Ver P w) ks us
 |[],_,r=>by rw[Vdi]at r;cases r;exact .nil|k::ks,_,r=>by
  rw[Uh]at r;cases r with
  |cons h t=>obtain⟨B,rfl⟩:=h;exact .cons (by simp[Ver,Value.isInt]) (Xgp t)
theorem Xe1(I:Inv X pa σ H s)(h:SqT X.K H b (k.map V.int)):(Vfx (Ver X.prog X.w)).is s.heap k b:=by obtain⟨its,r,⟨o,e,c,n,dt⟩,_⟩:=I.tuple h;exact⟨o,its.toArray,n,e,c,dt,by simpa using Xgp r⟩
theorem S0.dic(I:S0 X pa σ H s ρ S env)(h:Xbr S n=yz kvs):∃a o xs,ρ[n]?=yz a/\s.heap.get? a=yz o/\Xo1 a o xs/\DX X.K ρ H kvs xs/\(X07 S n=yz kvs->Mut (H a)/\∀o u,H a≠yz (.frz o u)):=by
 unfold Xbr at h;unfold X07;cases e:S[n]? with
 |none=>rw[e]at h;cases h|some ob=>
  rw[e]at h;obtain⟨a,J,q⟩:=I.sr.adr e;cases ob with
  |lst _=>cases h|exc _=>cases h|fdc Y=>cases h;obtain⟨o,u,xs,h1,_,_,h2,h3⟩:=q;obtain⟨L,_⟩:=(show ObjOk X.prog X.w H s.heap a (.frz o u) from I.inv.hok a _ h1);exact⟨a,o,xs,J,L,h2,h3,λz=>by simp at z⟩|dct Y=>
   cases h;rcases q with⟨rfl,hv⟩|⟨_,xs,hv,B⟩
   ·obtain⟨_,hm,vs,r,ob,es,ep,ho,B,hd,hh⟩:=I.inv.hok a _ hv;cases r;have U:es.toList=[]:=by
     have z:=hh.2.1;cases q:es.toList with
     |nil=>rfl|cons x r=>rw[q]at z;cases z
    exact⟨a,ob,[],J,ho,⟨hm,Ug _,B,[],es,ep,.nil,hd,λ_ _=>U,Vfc⟩,.nil,λ_=>⟨by rw[hv];trivial,λo u z=>by rw[hv]at z;cases z⟩⟩
   obtain⟨⟨o,L,h2⟩,_,_⟩:=(show ObjOk X.prog X.w H s.heap a (.ext (DicO a xs)) from I.inv.hok a _ hv);exact⟨a,o,xs,J,L,h2,B,λ_=>⟨by rw[hv];trivial,λo u z=>by rw[hv]at z;cases z⟩⟩
theorem X5i(I:Inv X pa σ H s)(U:s.heap.get? a=yz o)(f:Xo1 a o xs)(r:DX X.K ρ H kvs xs):∃ys,RX xs ys/\s.heap.DictOfH (Vfx (Ver X.prog X.w)) a ys:=by
 obtain⟨f1,Y,L,ys,es,ep,q,hd,J,nd⟩:=f;refine⟨ys,q,o,es,ep,U,L,hd,J _ _,?_,nd⟩;clear J nd Y;induction r generalizing ys with
 |nil=>cases q;exact λ_ z=>nomatch z|@cons p x ps qs h t ih=>
  cases q with
  |@cons _ y _ zs h2 t2=>
   intro z B;rcases Vt.mp B with e|B;·subst e;rw[<-h2.1,<-h2.2.1,<-h.1];exact Xe1 I h.2.1
   ·exact ih zs t2 z B
theorem Xo3:∀ {ds:LD} {ks:LI},Xi ds=yz ks->ds=ks.map D.int
 |[],ks,h=>by cases h;rfl|.int i::r,ks,h=>by simp only[Xi,V5]at h;obtain⟨B,h1,rfl⟩:=h;rw[Xo3 h1];rfl|.non::r,ks,h=>by cases h|.bl _::r,ks,h=>by cases h|.str _::r,ks,h=>by cases h|.tup _::r,ks,h=>by cases h|.ref _::r,ks,h=>by cases h|.fro _::r,ks,h=>by cases h|.fn _ _::r,ks,h=>by cases h
theorem X1o{K:Ve}(h:Xi ds=yz ks)(r:RD K ρ H (.tup ds) v):∃b,v=.ref b/\SqT K H b (ks.map V.int):=by simp only[RD]at r;obtain⟨b,vs,rfl,h1,h2⟩:=r;rw[Xo3 h]at h2;rw[RDs.ints_of h2]at h1;exact⟨b,rfl,h1⟩
end
end Z
end
section
namespace Z
open PySem PySem.SetTable PySem.Spec PyProof.Rows
theorem Xqz{t:Um}{es:Array (Int×Vb)}{f:Nat->Int}{h:Int}{p:Probe}{r:Option Met}{d:Nat}(T:Tb t)(L:∀i,f i=(es[i]?.map (·.1)).getD 0)(hp:p.dummy=yy)(hd:d<10*turns t.mask)(Y:(its t d p).j ∉ t.place.toList)(hl:∀k,k<d->(its t k p).j∈t.place.toList)(e:t.probe f h p=r):
  ((∀k,k<d->∀i,t.slot (its t k p).j=.live i->(es[i]?.map (·.1)).getD 0≠h)/\r=yz (.empty (its t d p).j yy)) \/
  ∃k i,k<d/\t.slot (its t k p).j=.live i/\(es[i]?.map (·.1)).getD 0=h/\(∀J,J<k->∀B,t.slot (its t J p).j=.live B->(es[B]?.map (·.1)).getD 0≠h)/\r=yz (.candidate (its t k p).j i (its t (k+1) p)):=by
 rcases Xv5 T f h d (10*turns t.mask) p hp hd Y hl with⟨g1,g2⟩|⟨k,i,g1,g2,g3,g4,g5⟩;·exact .inl ⟨λk U i hi=>by rw[<-L];exact g1 k U i hi,e.symm.trans g2⟩
 ·exact .inr ⟨k,i,g1,g2,by rw[<-L];exact g3,λJ U B hi=>by rw[<-L];exact g4 J U B hi,e.symm.trans g5⟩
noncomputable abbrev Xo(prog:Vy)(w:V9):HeapKind prog w (LI):=Vfx (Ver prog w)
noncomputable def Xfz(p:LI×Addr):Int×Vb:=(reduceHash (Builtin.Tuple.tupleHashOf (p.1.map hashInt)),.ref p.2)
structure TabG(t:Um)(es:Array (Int×Vb)):Prop extends Tab t es.size where
 own:Xo0 t es
theorem TabG.odd{t:Um}{es:Array (Int×Vb)}(T:TabG t es):t.gaveWay=false:=by unfold SetTable.gaveWay;rcases T.mg with e|e|e|e|e|e<;>rw[e]<;>rfl
section
variable{prog:Vy}{w:V9}{A:Uq}{E:VP}{s:Vc}
theorem Xxk(n:Nat){v:Vb}(h:carriedByValue v=yx):Vfk n v=pure false:=by
 cases v with
 |ref a=>simp[carriedByValue]at h|_=>cases n<;>(unfold Vfk;rfl)
theorem Xq0{k:LI}{a:Addr}{Q:Bool->Vc->Prop}(U:(Xo prog w).is s.heap k a)(h:Q yw s):Vf (Vj prog w) A (Vfk 8 (.ref a)) Q E s:=by
 obtain⟨o,its,m,J,L,hd,hi⟩:=U;unfold Vfk;refine Va (Vbm (T:="tuple") ⟨o,J,L⟩ ?_);dsimp only;refine Va (Vd ?_);simp only[Va4,Vv,if_false];refine Va (Ved J hd ?_);dsimp only;refine Va ?_;show Vf _ _ (forIn its _ _) _ _ s;rw[<-Array.forIn_toList];refine Vfu _ (λX3 r s'=>r.1=yy/\s'=s/\∀v∈X3,carriedByValue v=yx) _ ?_ ?_ _ _ ⟨rfl,rfl,hi.byValue⟩;·rintro v X3 r s' ⟨hr,rfl,hall⟩;rw[Xxk _ (hall v U9)];refine Va (Vd ?_);simp only[Vv,if_false];exact Vd ⟨rfl,rfl,λu B=>hall u (Ua _ B)⟩
 ·rintro ⟨r1,r2⟩ s' ⟨hr,rfl,_⟩;simp only at hr;subst hr;exact Vd h
theorem Xtc{ks:LI}{vs:LV}(h:ItemsAre (Ver prog w) ks vs):∀v∈vs,∃i t,v=.int i t:=by
 induction h with
 |nil=>intro v hv;simp at hv|@cons k B ks vs h1 _ ih=>
  intro v hv;rcases Vt.mp hv with rfl|hv;·obtain⟨t,q⟩:=Value.isInt_shape h1;exact⟨_,t,q⟩
  ·exact ih v hv
theorem Xtd{k:LI}{a:Addr}{Q:Bool->Vc->Prop}(U:(Xo prog w).is s.heap k a)(h:Q yx s):Vf (Vj prog w) A (hashByValue 8 (.ref a)) Q E s:=by
 obtain⟨o,its,m,J,L,hd,hi⟩:=U;unfold hashByValue;refine Va (wpAny_specialOf (T:="tuple") ⟨o,J,L⟩ F.slot_tuple_hash.lookup ?_);dsimp only;refine Va (Ved J hd ?_);refine Va ?_;show Vf _ _ (forIn its _ _) _ _ s;rw[<-Array.forIn_toList];refine Vfu _ (λX3 r s'=>r.1=yy/\s'=s/\∀v∈X3,∃i t,v=Vfw i t) _ ?_ ?_ _ _ ⟨rfl,rfl,Xtc hi⟩;·rintro v X3 r s' ⟨hr,rfl,hall⟩;obtain⟨i,t,rfl⟩:=hall v U9;rw[show hashByValue 7 (Vfw i t)=pure yx by unfold hashByValue;rfl];refine Va (Vd ?_);simp only[Va4,Vv,if_false];exact Vd ⟨rfl,rfl,λu B=>hall u (Ua _ B)⟩
 ·rintro ⟨r1,r2⟩ s' ⟨hr,rfl,_⟩;simp only at hr;subst hr;exact Vd h
theorem Xxl{k:LI}{a:Addr}(J:(Xo prog w).is s.heap k a){Q:Bool->Vc->Prop}(h:Q yw s)(ys:LV)(U:∀y∈ys,∃B b,y=U8 b/\(Xo prog w).is s.heap B b):Vf (Vj prog w) A (searchCouldBeSeen (.ref a) ys) Q E s:=by
 unfold searchCouldBeSeen;refine Va ?_;refine Vfu _ (λX3 r s'=>r.1=yy/\s'=s/\∀y∈X3,∃B b,y=U8 b/\(Xo prog w).is s.heap B b) _ ?_ ?_ _ _ ⟨rfl,rfl,U⟩
 ·rintro y X3 r s' ⟨hr,rfl,hall⟩;obtain⟨B,b,rfl,L⟩:=hall y U9;have on:∀u∈X3,∃B b,u=U8 b/\(Xo prog w).is s'.heap B b:=λu Y=>hall u (Ua _ Y);dsimp only;split;·exact Vd ⟨rfl,rfl,on⟩
  ·refine Va ((Xo prog w).quiet J ?_);simp only[Va4,Vv,if_false];refine Va ((Xo prog w).quiet L ?_);simp only[Va4,Vv,if_false];refine Va (Xq0 J ?_);simp only[Vv,if_false];refine Va (Xq0 L ?_);simp only[Vv,if_false];exact Vd ⟨rfl,rfl,on⟩
 rintro ⟨r1,r2⟩ s' ⟨hr,rfl,_⟩;simp only at hr;subst hr;exact Vd h
def Mem(prog:Vy)(w:V9)(h:Heap)(es:Array (Int×Vb))(ps:List (LI×Addr)):Prop:=es.toList=ps.map Xfz/\∀p∈ps,(Xo prog w).is h p.1 p.2
theorem Mem.get{h:Heap}{es:Array (Int×Vb)}{ps:List (LI×Addr)}(m:Mem prog w h es ps){i:Nat}{e:Int×Vb}(B:es[i]?=yz e):∃p,ps[i]?=yz p/\e=Xfz p/\(Xo prog w).is h p.1 p.2:=by
 rw[<-U2,m.1,Vx]at B;cases J:ps[i]? with
 |none=>rw[J]at B;cases B|some p=>rw[J]at B;exact⟨p,rfl,(Uc B).symm,m.2 p (V6 J)⟩
theorem Xte(t:Um):t.sameMemory t.moves t.mask=yz true:=by unfold SetTable.sameMemory;simp
theorem X1p{h:Heap}{t:Um}{es:Array (Int×Vb)}{ps:List (LI×Addr)}(T:TabG t es)(m:Mem prog w h es ps){k:LI}(hk:k∈ps.map (·.1)){N:Nat}(he:pth t.mask ((Xo prog w).hash k) N ∉ t.place.toList):
  ∃n i p,n<N/\t.slot (pth t.mask ((Xo prog w).hash k) n)=.live i/\ps[i]?=yz p/\p.1=k:=by
 obtain⟨p,hp,rfl⟩:=Va6.mp hk;obtain⟨i,hi⟩:=List.mem_iff_getElem?.mp hp;have Y:es[i]?=yz (Xfz p):=by rw[<-U2,m.1,Vx,hi];rfl
 have B:i<t.place.size:=by rw[T.sz];exact(Uo.mp Y).1
 have e2:t.place[i]?=yz t.place[i]:=Ut B;obtain⟨n,hn,hl⟩:=T.own _ _ _ (X04 e2 Y);have J:pth t.mask ((Xo prog w).hash p.1) n=t.place[i]:=hn;have mem:t.place[i]∈t.place.toList:=by simp
 refine⟨n,i,p,?_,?_,hi,rfl⟩
 ·rcases Vg1 n N with c|c|c;·exact c
  ·subst c;exact aB0 (J▸mem) he
  exact aB0 (hl N c) he
 ·rw[J];obtain⟨U,s1,s2⟩:=Xd9 T.tb mem;have:U=i:=by
   obtain⟨L,v1⟩:=Uo.mp s2;rcases Vg1 U i with c|c|c;·have:=T.tb.ris.lt (a:=0) c B;simp[Vak,L,B,v1]at this
   ·exact c
   have:=T.tb.ris.lt (a:=0) c L;simp[Vak,L,B,v1]at this
  rw[s1,this]
theorem X5j{a:Addr}{o:Obj}{es:Array (Int×Vb)}{ep:Nat}{t:Um}{ps:List (LI×Addr)}{x:Addr}{k:LI}{N:Nat}{Q:SetFound->Vc->Prop}(hu:A.units<Vbe)(ho:s.heap.get? a=yz o)(hd:o.data=.set es ep t)(T:TabG t es)(m:Mem prog w s.heap es ps)(hk:(Xo prog w).is s.heap k x)
  (hN:N<10*turns t.mask) (he:pth t.mask ((Xo prog w).hash k) N ∉ t.place.toList) (hl:∀i,i<N->pth t.mask ((Xo prog w).hash k) i∈t.place.toList)
  (h1:k∈ps.map (·.1)->Q (.there yy) s) (h2:k ∉ ps.map (·.1)->Q (.free (pth t.mask ((Xo prog w).hash k) N) yw) s):
  ∀(d c B:Nat) (L:Option Probe),c+d=N->d<B->L.getD (t.probeStart ((Xo prog w).hash k))=its t c (t.probeStart ((Xo prog w).hash k)) ->
   (∀n i p,n<c->t.slot (pth t.mask ((Xo prog w).hash k) n)=.live i->ps[i]?=yz p->p.1≠k) ->
   Vf (Vj prog w) A (setSearchFrom a (.ref x) ((Xo prog w).hash k) yx B L) Q E s:=by
 have pt:∀n,(its t n (t.probeStart ((Xo prog w).hash k))).j=pth t.mask ((Xo prog w).hash k) n:=λn=>by rw[Xqp];rfl
 have J:∀c n,(its t n (its t c (t.probeStart ((Xo prog w).hash k)))).j=pth t.mask ((Xo prog w).hash k) (c+n):=λc n=>by rw[<-Xcb];exact pt (c+n)
 intro d;induction d using Nat.strongRecOn with
 |_ d ih=>
  intro c B L hc hf hs no;obtain⟨B,rfl⟩:∃f,B=f+1:=⟨B-1,by omega⟩;unfold setSearchFrom;refine Va (Vd5 ho hd (Xcm T.toTab) ?_);dsimp only;rw[T.odd];simp only[Vv,if_false];rw[hs];have ac:=λr e=>Xqz (t:=t) (es:=es) (h:=(Xo prog w).hash k) (p:=its t c (t.probeStart ((Xo prog w).hash k))) (r:=r) (d:=d) T.tb (λ_=>rfl) (by rw[Xm8];rfl) (by omega) (by rw[J,hc];exact he) (λn hn=>by rw[J];exact hl _ (by omega)) e;split
  ·rename_i met ab;rcases ac _ ab with⟨g1,g2⟩|⟨n,i,g1,g2,g3,g4,g5⟩
   ·cases g2;dsimp only;rw[J,hc];refine Vd (h2 λai=>?_);obtain⟨n,i,p,hn,ae,hp,af⟩:=X1p T m ai he;by_cases cn:n<c;·exact no n i p cn ae hp af
    ·refine g1 (n-c) (by omega) i (by rw[J,show c+(n-c)=n by omega];exact ae) ?_;have:es[i]?=yz (Xfz p):=by rw[<-U2,m.1,Vx,hp];rfl
     rw[this,<-af];rfl
   cases g5;have ah:i<es.size:=by obtain⟨_,z⟩:=Xd9 T.tb (hl (c+n) (by omega));rw[J]at g2;rw[g2]at z;have:=(Uo.mp z.2).1;cases z.1;rw[<-T.sz];exact this
   have e1:es[i]?=yz es[i]:=Ut ah;obtain⟨p,hp,al,aj⟩:=m.get e1;rw[al]at e1;have X3:Vf (Vj prog w) A (do
     let yz (_,y):=es[i]?|unsupported "internal:set-entry"
     let equal <- Vdo [y] (eqBool y (.ref x))
     let (es',_,t') <- setState a
     if yx&&equal then return .there yy
     let yz same:=t'.sameMemory t.moves t.mask|unsupported "set.changed-during-lookup:is-the-new-block-at-the-old-address"
     let still <- match (if same then t'.slot (its t n (its t c (t.probeStart ((Xo prog w).hash k)))).j else .empty) with
      |.live Y=>match es'[Y]? with
       |some (_,y')=>do pure (if <- isSame y' y then yz Y else yy)|none=>pure yy
      |_=>pure yy
     match still with
     |none=>rule "set.search.anew";setSearchFrom a (.ref x) ((Xo prog w).hash k) yx B yy
     |some Y=>if equal then return .there (yz Y) else setSearchFrom a (.ref x) ((Xo prog w).hash k) yx B (yz (its t (n+1) (its t c (t.probeStart ((Xo prog w).hash k)))))) Q E s:=by
    rw[e1];refine Va (Uw ((Xo prog w).eqBool hu aj hk ?_));refine Va (Vd5 ho hd (Xcm T.toTab) ?_);dsimp only;by_cases ce:p.1=k;·simp only[Bool.true_and,decide_eq_true ce,if_true];exact Vd (h1 (Va6.mpr ⟨p,V6 hp,ce⟩))
    ·simp only[Bool.true_and,decide_eq_false ce,Vv,if_false];rw[Xte];simp only[if_true];rw[g2];dsimp only;rw[e1];dsimp only[Xfz];refine Va (wpAny_isSame_ref_self (Va (Vd ?_)));simp only[if_true];refine ih (d-(n+1)) (by omega) (c+(n+1)) B _ (by omega) (by omega) (by rw[Vb8,<-Xcb]) λn' Y p' an aa U=>?_;by_cases q1:n'<c;·exact no n' Y p' q1 aa U
     ·by_cases q2:n'=c+n;·subst q2;rw[J,aa]at g2;cases g2;rw[hp]at U;cases U;exact ce
      ·intro q3;refine g4 (n'-c) (by omega) Y (by rw[J,show c+(n'-c)=n' by omega];exact aa) ?_;have:es[Y]?=yz (Xfz p'):=by rw[<-U2,m.1,Vx,U];rfl
       rw[this,<-q3];rfl
   dsimp only;cases am:t.led with
   |true=>simp only[Va4,Vv,if_false];exact X3|false=>
    simp only[Vgm,if_true];refine Va (Xxl hk ?_ _ λy hy=>?_);·simp only[Vv,if_false];exact X3
    ·obtain⟨e,ak,rfl⟩:=Va6.mp hy;have:e∈es.toList:=by
      have:=(Array.mem_toList_iff.mp ak);exact Array.mem_toList_iff.mpr (Array.mem_filter.mp this).1
     rw[m.1]at this;obtain⟨p',U,rfl⟩:=Va6.mp this;exact⟨p'.1,p'.2,rfl,m.2 p' U⟩
  rename_i hno;rcases ac _ rfl with⟨_,g2⟩|⟨n,i,g1,g2,g3,g4,g5⟩;·exact(hno _ g2).elim
  ·exact(hno _ g5).elim
end
theorem Xi9{α β:Type}{f:α->β}{l m:List β}(h:l.Perm m):∀ps:List α,m=ps.map f->∃B:List α,B.Perm ps/\l=B.map f:=by
 induction h with
 |nil=>
  intro ps e;cases ps with
  |nil=>exact⟨[],Vgl _,rfl⟩|cons _ _=>cases e
 |@cons x l m _ ih=>
  intro ps e;cases ps with
  |nil=>cases e|cons p ps=>injection e with L J;obtain⟨B,Y,q2⟩:=ih ps J;exact⟨p::B,Y.cons p,by rw[Uh,<-q2,L]⟩
 |swap x y l=>
  intro ps e;rcases ps with _|⟨p,_|⟨q,ps⟩⟩;·cases e
  ·cases e
  injection e with L J;injection J with J e3;exact⟨q::p::ps,List.Perm.swap _ _ _,by simp[L,J,e3]⟩|trans _ _ U aa=>intro ps e;obtain⟨p2,Y,q2⟩:=aa ps e;obtain⟨p1,q3,q4⟩:=U p2 q2;exact⟨p1,q3.trans Y,q4⟩
section
variable{prog:Vy}{w:V9}{A:Uq}{E:VP}{s:Vc}
def SetR(prog:Vy)(w:V9)(h:Heap)(a:Addr)(ld:Bool)(ps:List (LI×Addr)):Prop:=∃o es ep t,h.get? a=yz o/\o.ExactSet/\o.data=.set es ep t/\Mem prog w h es ps/\TabG t es/\t.led=ld
theorem Xtf{h h':Heap}{k:LI}{x a:Addr}{o:Obj}{es:Array (Int×Vb)}{ep:Nat}{t:Um}(L:(Xo prog w).is h k x)(U:h.get? a=yz o)(hd:o.data=.set es ep t)(sb:Vap a h h'):(Xo prog w).is h' k x:=by
 obtain⟨o',its,m,B,Y,J,hi⟩:=L;refine⟨o',its,m,?_,Y,J,hi⟩;rw[sb.2 x ?_];·exact B
 ·rintro rfl;rw[U]at B;cases B;rw[hd]at J;cases J
theorem Mem.keep{h h':Heap}{a:Addr}{o:Obj}{es B:Array (Int×Vb)}{ep:Nat}{t:Um}{ps:List (LI×Addr)}(m:Mem prog w h B ps)(L:h.get? a=yz o)(hd:o.data=.set es ep t)(sb:Vap a h h'):Mem prog w h' B ps:=
 ⟨m.1,λp J=>Xtf (m.2 p J) L hd sb⟩
theorem Mem.len{h:Heap}{es:Array (Int×Vb)}{ps:List (LI×Addr)}(m:Mem prog w h es ps):es.size=la ps:=by rw[<-Uy,m.1,Vn]
theorem reo{es:Array (Int×Vb)}{t:Um}{B:Array Nat}{Q:Array (Int×Vb)×Um->Vc->Prop}(hz:(B.filterMap (es[·]?)).size=es.size)(h:Q (B.filterMap (es[·]?),t) s):
  Vf (Vj prog w) A (do
   let yz (t,B):=yz (t,B)|unsupported "internal:set-table-without-room"
   let es':=B.filterMap (es[·]?)
   if es'.size != es.size then unsupported "internal:set-table-lost-an-element"
   pure (es',t)) Q E s:=by
 dsimp only;rw[hz,bne_self_eq_false];simp only[Vv,if_false];exact Vd h
theorem Xxm{a:Addr}{ld:Bool}{ps:List (LI×Addr)}{k:LI}{x:Addr}{Q:Bool->Vc->Prop}(hu:A.units<Vbe)(S:SetR prog w s.heap a ld ps)(hk:(Xo prog w).is s.heap k x)(hn:(la ps)<1200)
  (h:∀h' aa,Vap a s.heap h'->SetR prog w h' a ld aa->(k∈ps.map (·.1)/\aa=ps)\/(k ∉ ps.map (·.1)/\aa.Perm (ps++[(k,x)]))->Q (decide (k ∉ ps.map (·.1))) {s with heap:=h',toks:=s.toks+(la k+1)}):
  Vf (Vj prog w) A (setAdd a (.ref x)) Q E s:=by
 obtain⟨o,es,ep,t,ho,ae,hd,m,T,hl⟩:=S;have ln:=m.len;unfold setAdd setAddHashed setAddHashedIn;refine Uw (Va ((Xo prog w).pyHash hu hk (Uw (Va (Vd5 (s:={s with toks:=s.toks+(la k+1)}) ho hd (Xcm T.toTab) ?_)))));dsimp only;rw[show byScan (U8 x) es=yw from rfl];simp only[Vv,if_false];obtain⟨N,n1,n2,n3⟩:=Xw7 T.tb T.mg.cy (by rw[T.sz];have:=T.room;omega) ((Xo prog w).hash k);unfold setSearch;refine Va (X5j (s:={s with toks:=s.toks+(la k+1)}) hu ho hd T m hk n1 n2 n3 ?_ ?_ N 0 100000 yy (by omega) ?_ rfl (λn _ _ ao=>aB0 ao (Vch _)));·intro L;have:=h s.heap ps (Vg3 a s.heap) ⟨o,es,ep,t,ho,ae,hd,m,T,hl⟩ (.inl ⟨L,rfl⟩);rw[decide_eq_false (λz=>z L)]at this;exact Vd this
 ·intro L;dsimp only;refine Va (Vd5 (s:={s with toks:=s.toks+(la k+1)}) ho hd (Xcm T.toTab) ?_);dsimp only;obtain⟨p1,p2,p3,p4,p5,p6⟩:=X03 T.tb ((Xdr T.tb _).mpr n2);have own:=Xw9 (x:=U8 x) T.tb T.sz T.own n3;have aj:(t.put (pth t.mask ((Xo prog w).hash k) N)).1.moves=t.moves:=rfl;rw[T.sz]at p2 p6;have il:=Xbk es (t.put (pth t.mask ((Xo prog w).hash k) N)).2 ((Xo prog w).hash k,U8 x) p6;generalize t.put (pth t.mask ((Xo prog w).hash k) N)=pj at p1 p2 p3 p4 p5 p6 own il aj;obtain⟨t1,q⟩:=pj;dsimp only at p1 p2 p3 p4 p5 p6 own il aj ⊢;generalize au:insertAt es q ((Xo prog w).hash k,U8 x)=B at own il ⊢;have z1:B.size=es.size+1:=by
   rw[<-Uy,il];simp;omega
  rw[p4,T.pl];simp only[if_true];refine Va (Xtd (s:={s with toks:=s.toks+(la k+1)}) hk ?_);simp only[if_true];have Y:B.size<=Vu:=by rw[z1,Vbp];omega
  refine Va (wpAny_storeSet_of (s:={s with toks:=s.toks+(la k+1)}) ho hd ?_ Y);have ac:=Vcp s.heap a (Vdw B t1);have g1:(s.heap.update a (Vdw B t1)).get? a=yz {o with data:=.set B (ep+1) t1}:=by have:=Va5 (Vdw B t1) ho (by rw[putSet_of B t1 hd];rfl);rw[putSet_of B t1 hd]at this;exact this
  have pm:B.toList.Perm ((ps++[(k,x)]).map Xfz):=by
   rw[il,Vci,<-m.1];have:(es.toList.take q++es.toList.drop q++[((Xo prog w).hash k,U8 x)]).Perm (es.toList++[((Xo prog w).hash k,U8 x)]):=by rw[Vfy]
   refine List.Perm.trans ?_ this;rw[V2];exact List.Perm.append_left _ (List.perm_append_comm (l₁:=[_]))
  obtain⟨an,ab,am⟩:=Xi9 pm _ rfl;have m1:Mem prog w s.heap B an:=⟨am,λp hp=>by
   rcases Vao.mp (ab.mem_iff.mp hp) with c|c;·exact m.2 p c
   ·rw[U4]at c;subst c;exact hk⟩
  have al:=m1.keep ho hd ac;by_cases c:(es.size+1)*5<t.mask*3
  ·have tf:t1.tooFull=false:=by unfold SetTable.tooFull;rw[Xew p1,p2,p3];exact decide_eq_false (by omega)
   rw[tf];simp only[Veb,Vv,if_false];have T1:TabG t1 B:=⟨⟨p1,by rw[p4];exact T.pl,by rw[p2,z1],by rw[p3];exact T.mg,by rw[z1,p3];exact c,by omega⟩,own⟩;have:=h _ an ac ⟨_,B,ep+1,t1,g1,ae,rfl,al,T1,p5.trans hl⟩ (.inr ⟨L,ab⟩);rw[decide_eq_true L]at this;exact Vd this
  have tf:t1.tooFull=true:=by unfold SetTable.tooFull;rw[Xew p1,p2,p3];exact decide_eq_true (by omega)
  rw[tf];simp only[Vgm,Vdr,if_true];obtain⟨u1,u2,u3⟩:=Xxa T.mg T.room (by omega) c;unfold setRelay;have ap:t1.fits B.size=true:=by
   have r:=T.room;have le:es.size+1<=t.mask:=by rcases T.mg with e|e|e|e|e|e<;>rw[e]at r ⊢ <;> omega
   unfold SetTable.fits;rw[Xew p1,p2,z1,p3];simpa using le
  refine Va (Va (Vd5 g1 rfl ap ?_));dsimp only;rw[iN0 (by rw[Vbp];omega)];obtain⟨t2,U,e,T2,h1,h2,h3,av,h4,h5,h6,h7,_⟩:=X4z (f:=t1.finger) (v:=t1.movedTo (sizeAbove (grown (es.size+1))-1)) (led:=t1.led) (pl:=t1.plain) u1.cy B (by rw[z1];omega);have rl:t1.relaid (B.map (·.1)) (grown (es.size+1))=yz (t2,U):=e;rw[rl];refine Va (reo h5 ?_);dsimp only;generalize U.filterMap (B[·]?)=J at h5 h6 h7 ⊢;have af:J.size<=Vu:=by rw[h5];exact Y
  refine wpAny_storeSet_of g1 rfl ?_ af;have g2:((s.heap.update a (Vdw B t1)).update a (Vdw J t2)).get? a=yz {o with data:=.set J (ep+2) t2}:=by have:=Va5 (Vdw J t2) g1 (by rw[putSet_of J t2 rfl];rfl);rw[putSet_of J t2 rfl]at this;exact this
  have ak:=Vcp (s.heap.update a (Vdw B t1)) a (Vdw J t2);obtain⟨ai,ah,ar⟩:=Xi9 h6 _ am;have m2:Mem prog w (s.heap.update a (Vdw B t1)) J ai:=⟨ar,λp hp=>al.2 p (ah.mem_iff.mp hp)⟩;have aq:=m2.keep g1 rfl ak;have TT:TabG t2 J:=⟨⟨T2,by rw[h2,p4];exact T.pl,by rw[h4,h5],by rw[h1];exact u1,by rw[h5,z1,h1];exact u2,by omega⟩,h7⟩;have:=h _ ai (ac.trans ak) ⟨_,J,ep+2,t2,g2,ae,rfl,aq,TT,by rw[h3,p5];exact hl⟩ (.inr ⟨L,ah.trans ab⟩);rw[decide_eq_true L]at this;exact Vd this
 ·have:=T.mg.le;rw[show turns t.mask=t.mask+15 from rfl]at n1;omega
end
end Z
end
section
namespace Z
open PySem PySem.Spec PyProof.Rows L2
theorem Xe2{pa:LA}{t':Nat}{fp:LR}(I:Inv X pa σ H s)(J:∀b∈fp,Xab X pa H b)
  (k:∀b o,b ∉ fp->s.heap.get? b=yz o->h'.get? b=yz o):Inv X pa σ H {s with heap:=h',toks:=t' }:=by
 have L:∀b u,H b=yz u->b ∉ fp:=λb u e z=>by rw[(J b z).1]at e;cases e
 refine I.step (g':=s.gens) (d':=s.drawn) (ch:=fp) (λb U=>⟨(J b U).2.2.2.1,(J b U).2.1,(J b U).2.2.2.2.1,(J b U).2.2.2.2.2⟩)
  (λb o _ _ B e _=>k b o B e) (λb o _ _ B e _=>⟨o.slots,k b o B e⟩) (λ_ _ _ _ n=>n)
  (λb o B e=>⟨o,k b o B e⟩) (λ_ _ e=>e) (λ_ _ _ e=>e) (λ_ _ e=>e) (λm Y=>?_) (λb u e=>?_) I.bare
 ·obtain⟨o,es,ep,ho,r⟩:=Y;exact⟨o,es,ep,k _ o (λz=>(J _ z).2.1 rfl) ho,r⟩
 ·refine(I.hok b u e).stay (λc v B q=>k c v ?_ q) (λ_ q=>q) λ_ _ _ q=>q;rcases B with z|z;·rw[z];exact L b u e
  ·exact L c _ z
def SqK(k:Bool)(h:Heap)(a:Addr)(xs:AV):Prop:=match k with
 |true=>h.IsList a xs|false=>h.IsTuple a xs
def ItK(k:Bool)(h:Heap)(i a:Addr)(n:Nat):Prop:=match k with
 |true=>h.IsListIter i a n|false=>h.IsTupleIter i a n
def SqH(k:Bool)(K:Ve)(H:Hp)(a:Addr)(vs:LW):Prop:=match k with
 |true=>SqL K H a vs|false=>SqT K H a vs
section
variable{k:Bool}{h h':Heap}{a i:Addr}{n:Nat}
theorem ItK.at(x:ItK k h i a n)(e:∀o,h.get? i=yz o->h'.get? i=yz o):ItK k h' i a n:=by cases k<;>(obtain⟨o,B,r⟩:=x;exact⟨o,e _ B,r⟩)
theorem ItK.obj(x:ItK k h i a n):∃o,h.get? i=yz o/\(o.cls=.type "list_iterator" \/ o.cls=.type "tuple_iterator")/\∀v,o.data≠.cell v:=by
 cases k;·obtain⟨o,e,c,d⟩:=x;exact⟨o,e,.inr c,λv z=>by rw[d]at z;cases z⟩
 ·obtain⟨o,e,c,d⟩:=x;exact⟨o,e,.inl c,λv z=>by rw[d]at z;cases z⟩
end
theorem Xhm(I:Inv X pa σ H s)(h:SqH k X.K H a vs):∃its:LV,Vals vs its/\SqK k s.heap a its.toArray:=by
 cases k;·obtain⟨its,B,p,_⟩:=I.tuple h;exact⟨its,B,show s.heap.IsTuple a its.toArray from p⟩
 ·obtain⟨its,B,p,_⟩:=I.list h;exact⟨its,B,p.isList⟩
theorem Xtg(I:Inv X pa σ H s)(h:SqH k X.K H a vs)(h':SqH k X.K H a us):vs=us:=by
 cases k;·exact I.tuple_inj h h'
 ·exact I.list_inj h h'
section
variable{prog:Vy}{w:V9}{A:Uq}{E:VP}{s:Vc}
theorem Xth(B:s.heap.IsTupleIter it t i)(Y:s.heap.IsTuple t items)(hx:items[i]?=yz x)
  (hQ:∀h',h'.IsTupleIter it t (i+1)->Vap it s.heap h'->Q x {s with heap:=h' }):Vf (Vj prog w) A (Vbj (.ref it)) Q E s:=by
 obtain⟨o,J,hc,hd⟩:=id B;obtain⟨ol,U,_,nl,L⟩:=Y;unfold Vbj;refine Va (Vba (name:=U5 "__next__") B.typeIs Vc5 (Vaq Vc5 B.typeIs Vgs ?_ (Vgn _)));show Vf _ _ (field (.ref it) 0 >>= _) _ _ s;refine Va (Vac J hd (x:=.ref t) rfl ?_);show Vf _ _ (if (U8 t==Vad)=yx then _ else _) _ _ s;rw[iN0 (show ¬ ((U8 t==Vad)=yx) from Ui)];show Vf _ _ (field (.ref it) 1 >>= _) _ _ s;refine Va (Vac J hd (x:=.int i 0) rfl ?_);show Vf _ _ (seqItems? (.ref t) >>= _) _ _ s;refine Va (Ved U L ?_);simp only[Vdb,hx];refine Va (wpAny_setField J hd (by simp) (Vd ⟨x,rfl,Vd (hQ _ ⟨_,Va5 _ J (Obj.isFreed_of_fields (Obj.data_mapFields hd _)),(Obj.cls_mapFields ..).trans hc,by rw[Obj.data_mapFields hd];simp[Vb2]⟩ (Vcp ..))⟩))
theorem Xxn(Y:A.handled=yy)(B:s.heap.IsTupleIter it t i)(ht:s.heap.IsTuple t items)(hx:items[i]?=yy)
  (hE:∀h' e,Heap.ExtBut it s.heap h'->(∃o,h'.get? e=yz o/\o.cls=.type "StopIteration")->E (.ref e) {s with heap:=h' }):Vf (Vj prog w) A (Vbj (.ref it)) Q E s:=by
 obtain⟨o,U,hc,hd⟩:=id B;obtain⟨ol,L,_,nl,J⟩:=ht;unfold Vbj;refine Va (Vba (name:=U5 "__next__") B.typeIs Vc5 (Vaq Vc5 B.typeIs Vgs ?_ (Vgn _)));show Vf _ _ (field (.ref it) 0 >>= _) _ _ s;refine Va (Vac U hd (x:=.ref t) rfl ?_);show Vf _ _ (if (U8 t==Vad)=yx then _ else _) _ _ s;rw[iN0 (show ¬ ((U8 t==Vad)=yx) from Ui)];show Vf _ _ (field (.ref it) 1 >>= _) _ _ s;refine Va (Vac U hd (x:=.int i 0) rfl ?_);show Vf _ _ (seqItems? (.ref t) >>= _) _ _ s;refine Va (Ved L J ?_);simp only[Vdb,hx];refine Va (Vde (Va (wpAny_setField U hd (by simp) ?_)));show Vf _ _ (newExc (.type "StopIteration") [] >>= _) _ _ _;refine Va ?_;simp only[newExc,newTuple];refine Va (Va2 ?_ (by size_fits));refine Va (m:=firstArgMember _ _) (wpAny_of_eq (a:=Vad) (by first|rfl|(simp only[firstArgMember];rfl)) ?_);refine Va2 ?_ (by size_fits);simp only[raiseNew];refine Va (wpAny_handled ?_)
 first|rw[show A.in1.handled=yy from Y]|rw[Y]
 exact Va (Vd (wpAny_throw (hE _ _ (((Vcp ..).extBut.push _).push _) ⟨_,Vq _ rfl,rfl⟩)))
theorem nxK(B:ItK k s.heap it t i)(L:SqK k s.heap t items)(U:items[i]?=yz x)
  (J:∀h',ItK k h' it t (i+1)->Vap it s.heap h'->Q x {s with heap:=h' }):Vf (Vj prog w) A (Vbj (.ref it)) Q E s:=by
 cases k;·exact Xth B L U J
 ·exact wpAny_nextOf_list_item B L U J
theorem X7f(U:A.handled=yy)(B:ItK k s.heap it t i)(J:SqK k s.heap t items)(L:items[i]?=yy)
  (Y:∀h' e,Heap.ExtBut it s.heap h'->(∃o,h'.get? e=yz o/\o.cls=.type "StopIteration")->E (.ref e) {s with heap:=h' }):Vf (Vj prog w) A (Vbj (.ref it)) Q E s:=by
 cases k;·exact Xxn U B J L Y
 ·exact wpAny_nextOf_list_end U B J L Y
noncomputable def Xf0(k:Bool):String:=match k with
 |true => "list_iterator"|false => "tuple_iterator"
theorem Xwb(h:SqK k s.heap a xs)(B:Q (.ref s.heap.objs.size) {s with heap:=s.heap.push {cls:=.type (Xf0 k),data:=.fields #[.ref a,.int 0 0]} }):
  Vf (Vj prog w) A (Vd8 (.ref a)) Q E s:=by
 cases k;·exact Ve6 h B
 ·exact Vd6 h B
theorem Xxo(e:h.get? i=yz {cls:=.type (Xf0 k),data:=.fields #[.ref a,.int 0 0]}):ItK k h i a 0:=by cases k<;>exact⟨_,e,rfl,rfl⟩
end
theorem Xk1{h:Heap}{o u:Obj}{c:Addr}(e:(h.push o).get? c=yz u)(B:c≠h.objs.size):h.get? c=yz u:=by rw[Heap.get?_push_ne h c o B]at e;exact e
section
variable{A:Uq}{E:VP}{s:Vc}{a:Addr}
theorem Xq1(h:Q (s.heap.get? a) s):Vf M A (loadIfAlive a) Q E s:=λ_ _ _=>h
end
abbrev Xcp(h:Heap)(e it:Addr)(i:Int)(f0 f1 B:Vb):Prop :=
 h.get? e=yz {cls:=.type "enumerate",dict:=yy,data:=.fields #[f0,f1,.ref it,Vb2 i,.none,B],slots:=#[]}
def EnA(h:Heap)(e it:Addr)(i:Int):Prop:=∃f0 f1 B,Xcp h e it i f0 f1 B/\(f0=.none\/∃a:Nat,f0=Vb2 a)
structure NSt(k:Bool)(e it a:Addr)(n:Nat)(h:Heap):Prop where
 eo:EnA h e it n
 io:ItK k h it a n
section
variable{prog:Vy}{w:V9}{A:Uq}{E:VP}{s:Vc}{k:Bool}{e it a:Addr}{n:Nat}{xs:AV}{x:Vb}
theorem X1q{i:Int}{f0 f1 B:Vb}{Q':Bool->Vc->Prop}(hz:Xcp s.heap e it i f0 f1 B)(Y:f0=.none\/∃a:Nat,f0=Vb2 a)(h1:Q' yx s)(h2:∀h' (f:Vb),EnA h' e it i->Vap e s.heap h'->Q' yw {s with heap:=h' }):Vf (Vj prog w) A (Vc1 (.ref e)) Q' E s:=by
 unfold Vc1;rcases Y with rfl|⟨T,rfl⟩;·exact Va (Vac hz rfl (x:=.none) rfl (Vd h1))
 ·refine Va (Vac hz rfl (x:=Vb2 T) rfl ?_);show Vf _ _ (loadIfAlive (Int.toNat (T:Int)) >>= _) _ _ _;refine Va (Xq1 ?_);cases s.heap.get? (Int.toNat (T:Int)) with
  |none=>simp only[Option.isNone_none,if_true];exact Vd h1|some o=>
   simp only[Option.isNone_some,Vv,if_false];refine Va (Vac hz rfl (x:=f1) rfl ?_);split;·exact Va (Vcd hz (by simp) λL J U=>Vd (h2 L f1 ⟨_,_,_,J,.inr ⟨T,rfl⟩⟩ U))
   ·exact Vd (h2 s.heap f1 ⟨_,_,_,hz,.inr ⟨T,rfl⟩⟩ (Vg3 ..))
theorem Xxp{hp L:Heap}{g d tk os}{i:Int}{f0 f1 B:Vb}{T:Addr}{Q:Fin->Vc->Prop}(e4:Xcp L e it i f0 f1 B)
  (hQ:∀J,EnA J e it i->(∀b o,b≠e->L.get? b=yz o->J.get? b=yz o)->Q (.done (.ret (.ref T))) ⟨J,g,d,tk,os⟩):
  Vf (Vj prog w) A (do
   rule "enumerate.__next__.owned-tuple-again"
   let B <- field (.ref e) 5
   setField (.ref e) 5 x
   Ve7 (.ref e) (.ref T)
   letGo [B] [.ref T]
   ret (.ref T)) Q E ⟨L,g,d,tk,os⟩:=by
 refine Va (Vde (Va (Vac e4 rfl (x:=B) rfl (Va (Vcd e4 (by simp) λg5 U c5=>?_)))));replace c5:Vap e L g5:=c5;replace U:Xcp g5 e it i f0 f1 x:=U;refine Va ?_;unfold Ve7;refine Va (Vcd U (by simp) λg6 e6 Y=>?_);replace Y:Vap e g5 g6:=Y;replace e6:Xcp g6 e it i (Vb2 T) f1 x:=e6;refine Vcd e6 (by simp) λJ e7 c7=>?_;replace c7:Vap e g6 J:=c7;replace e7:Xcp J e it i (Vb2 T) (.bool yw) x:=e7;exact Va (wpAny_letGo (Vd (hQ J ⟨_,_,_,e7,.inr ⟨T,rfl⟩⟩ λb o h1 q=>c7.extBut b o h1 (Y.extBut b o h1 (c5.extBut b o h1 q)))))
theorem Xti{Q:VP}(J:e≠it)(he:EnA s.heap e it n)(hi:ItK k s.heap it a n)(ha:SqK k s.heap a xs)(hx:xs[n]?=yz x)
  (hQ:∀h',EnA h' e it ((n:Int)+1)->ItK k h' it a (n+1)->h'.get? s.heap.objs.size=yz {cls:=.type "tuple",data:=.seq #[.int n s.toks,x]} ->
   (∀b o,b≠e->b≠it->s.heap.get? b=yz o->h'.get? b=yz o)->Q (.ref s.heap.objs.size) {s with heap:=h',toks:=s.toks+1}):
  Vf (Vj prog w) A (Vbb.«enumerate.__next__» ⟨[.ref e],[]⟩) (λfin s'=>∃v,fin=.done (.ret v)/\Q v s') E s:=by
 obtain⟨f0,f1,B,he,hf⟩:=he;obtain⟨L,g,d,tk,os⟩:=s;show Vf _ _ (field (.ref e) 2 >>= _) _ _ _;refine Va (Vac he rfl (x:=.ref it) rfl (Va (nxK hi ha hx λg1 i1 Y=>?_)));replace Y:Vap it L g1:=Y;have e1:Xcp g1 e it n f0 f1 B:=(Y.2 e J).trans he;show Vf _ _ (field (.ref e) 3 >>= _) _ _ ⟨g1,g,d,tk,os⟩;refine Va (Vac e1 rfl (x:=Vb2 n) rfl ?_);show Vf _ _ (field (.ref e) 4 >>= _) _ _ ⟨g1,g,d,tk,os⟩;refine Va (Vac e1 rfl (x:=.none) rfl ?_);show Vf _ _ (mkInt n >>= _) _ _ ⟨g1,g,d,tk,os⟩;refine Va (wpAny_mkInt ?_);show Vf _ _ (setField (.ref e) 3 (Vb2 ((n:Int)+1)) >>= _) _ _ ⟨g1,g,d,tk+1,os⟩;refine Va (Vcd e1 (by simp) λg2 e2 c2=>?_);replace c2:Vap e g1 g2:=c2;replace e2:Xcp g2 e it ((n:Int)+1) f0 f1 B:=e2;show Vf _ _ (setField (.ref e) 4 .none >>= _) _ _ ⟨g2,g,d,tk+1,os⟩;refine Va (Vcd e2 (by simp) λU e3 c3=>?_);replace c3:Vap e g2 U:=c3;replace e3:Xcp U e it ((n:Int)+1) f0 f1 B:=e3;show Vf _ _ (newTuple [.int n tk,x] >>= _) _ _ ⟨U,g,d,tk+1,os⟩;refine Va (wpAny_newTuple ?_);have e4:Xcp (U.push {cls:=.type "tuple",data:=.seq #[.int n tk,x]}) e it ((n:Int)+1) f0 f1 B:=Vg _ e3;generalize q4:U.push {cls:=.type "tuple",data:=.seq #[.int n tk,x]}=g4 at e4;have sz:U.objs.size=L.objs.size:=by rw[c3.1,c2.1,Y.1]
 have el:e<L.objs.size:=Vr he;have t4:g4.get? L.objs.size=yz {cls:=.type "tuple",data:=.seq #[.int n tk,x]}:=by rw[<-q4,<-sz];exact Vq _ rfl
 have k4:∀b o,b≠e->b≠it->L.get? b=yz o->g4.get? b=yz o:=λb o h1 h2 hb=>by rw[<-q4];exact Vg _ (c3.extBut b o h1 (c2.extBut b o h1 (Y.extBut b o h2 hb)))
 have i4:ItK k g4 it a (n+1):=i1.at λo q=>by rw[<-q4];exact Vg _ (c3.extBut _ _ (Ne.symm J) (c2.extBut _ _ (Ne.symm J) q))
 show Vf _ _ (Vc1 (.ref e) >>= _) _ _ ⟨g4,g,d,tk+1,os⟩;rw[sz];clear q4 e3 c3 e2 c2 e1 Y i1 sz U g2 g1;have fin:∀g7,EnA g7 e it ((n:Int)+1)->(∀b o,b≠e->g4.get? b=yz o->g7.get? b=yz o)->∃v,(Fin.done (.ret (.ref L.objs.size)))=.done (.ret v)/\Q v ⟨g7,g,d,tk+1,os⟩:=λg7 e7 up=>⟨_,rfl,hQ g7 e7 (i4.at λo q=>up _ o (Ne.symm J) q) (up _ _ (Vcw el) t4) λb o h1 h2 hb=>up b o h1 (k4 b o h1 h2 hb)⟩;refine Va (X1q e4 hf ?_ λg5 f5 e5 c5=>?_);·simp only[if_true];exact Xxp (hp:=L) e4 fin
 ·simp only[Vv,if_false];exact Vd (fin g5 e5 λb o h1 q=>c5.extBut b o h1 q)
theorem Xk2(J:e≠it)(B:EnA s.heap e it n)(hi:ItK k s.heap it a n)(U:SqK k s.heap a xs)(L:xs[n]?=yz x)
  (hQ:∀h',EnA h' e it ((n:Int)+1)->ItK k h' it a (n+1)->h'.get? s.heap.objs.size=yz {cls:=.type "tuple",data:=.seq #[.int n s.toks,x]} ->
   (∀b o,b≠e->b≠it->s.heap.get? b=yz o->h'.get? b=yz o)->Q (yz (.ref s.heap.objs.size)) {s with heap:=h',toks:=s.toks+1}):Vf (Vj prog w) A (pyNext (.ref e)) Q E s:=by
 have hT:s.TypeIs (.ref e) "enumerate":=by obtain⟨f0,f1,aa,B,_⟩:=B;exact⟨_,B,rfl⟩
 unfold pyNext;exact Va (Vfp (Vba (name:=U5 "__next__") hT Vee (Vaq Vee hT F.entry_enumerate_next (Xti J B hi U L λh' Y q2 q3 q4=>Vd (hQ h' Y q2 q3 q4)) (F.args_enumerate_next_1 _))))
theorem Xk3(hh:A.handled=yy)(B:EnA s.heap e it n)(hi:ItK k s.heap it a n)(Y:SqK k s.heap a xs)(U:xs[n]?=yy)
  (hQ:∀h',Heap.ExtBut it s.heap h'->Q yy {s with heap:=h' }):Vf (Vj prog w) A (pyNext (.ref e)) Q E s:=by
 obtain⟨f0,f1,aa,B,_⟩:=B;have hT:s.TypeIs (.ref e) "enumerate" := ⟨_,B,rfl⟩;unfold pyNext;refine Va (Vfp (Vba (name:=U5 "__next__") hT Vee (Vaq Vee hT F.entry_enumerate_next ?_ (F.args_enumerate_next_1 _))));show Vf _ _ (field (.ref e) 2 >>= _) _ _ _;refine Va (Vac B rfl (x:=.ref it) rfl (Va (X7f hh hi Y U λh' x L J=>?_)));obtain⟨o,ho,hc⟩:=J;exact Va (wpAny_isInstance (T:="StopIteration") (b:=yx) ⟨o,ho,hc⟩ isSubtype_stop (Vd (hQ _ L)))
theorem X1r(hz:EnA s.heap e it i)(J:∀h',EnA h' e it i->Vap e s.heap h'->Q () {s with heap:=h' }):
  Vf (Vj prog w) A (Vds (.Tuple elts x1 pos) (.ref e) (.ref T)) Q E s:=by
 obtain⟨f0,f1,B,hz,U⟩:=hz;unfold Vds;refine Va (wpAny_load hz ?_);show Vf _ _ (if (["enumerate","zip","dict_itemiterator","dict_reverseitemiterator","odict_iterator","itertools.zip_longest","itertools.pairwise"].contains "enumerate" && (#[f0,f1,.ref it,Vb2 i,.none,B]:AV)[0]?==yz (Vb2 T))=yx then _ else _) Q E s;split;·refine Va (Vde ?_);show Vf _ _ (setField (.ref e) 0 .none) Q E s;exact Vcd hz (by simp) λh' L Y=>J h' ⟨_,_,_,L,.inl rfl⟩ Y
 ·exact Vd (J s.heap ⟨f0,f1,B,hz,U⟩ (Vg3 ..))
end
theorem Xf1(B:EnA s.heap e it i)(h:Q (.ref e) s):Vf (Vj prog w) A (Vd8 (.ref e)) Q E s:=by obtain⟨f0,f1,J,q,_⟩:=B;have ty:s.TypeIs (.ref e) "enumerate" := ⟨_,q,rfl⟩;exact wpAny_pyIter_slot ty F.slot_enumerate_iter (Vaq F.slot_enumerate_iter ty F.entry_enumerate_iter (show Vf _ _ (ret (.ref e)) _ _ s from Vd ⟨_,rfl,"enumerate",_,ty,F.slot_enumerate_next.lookup,h⟩) (F.args_enumerate_iter_1 _))
open AutoSeq1 (wpAny_loadPart')
noncomputable def X1s(k:Bool):String:=match k with
 |true => "list"|false => "tuple"
theorem Xtj(k:Bool)(a:Addr)(xs:AV)(n:Nat)(dct:Option Addr)(sl:Array OV):Meets (Vbb.«enumerate.__new__» ⟨[.type "enumerate",.ref a],[]⟩) (λ_ R s=>s.heap.get? a=yz {cls:=.type (X1s k),dict:=dct,data:=.seq xs n,slots:=sl} /\
   R (.ok (.ret (.ref (s.heap.push {cls:=.type (Xf0 k),data:=.fields #[.ref a,.int 0 0]}).objs.size))) {s with heap:=(s.heap.push {cls:=.type (Xf0 k),data:=.fields #[.ref a,.int 0 0]}).push {cls:=.type "enumerate",data:=.fields #[.none,.bool yw,.ref s.heap.objs.size,Vb2 0,.none,.none]} }):=
 .of_wp λprog w A R s h=>by
  obtain⟨U,g,d,tk,os⟩:=s;obtain⟨B,h⟩:=h;have J:=sub_enumerate;have L:SqK k (Shared.heap ⟨U,g,d,tk,os⟩) a xs:=by cases k<;>exact⟨_,B,rfl,n,rfl⟩
  wp_walk using Vby B;refine wpAny_stack_any λst=>Vd ?_;split;·rename_i c _ _ _ _ _;cases (c==Vbc "enumerate")<;>(wp_walk using Vby B,Xwb L;exact⟨_,rfl,h⟩)
  ·wp_walk using Vby B,Xwb L;exact⟨_,rfl,h⟩
theorem Xni(U:SqK k s.heap a xs)
  (h:∀h',NSt k (s.heap.objs.size+1) s.heap.objs.size a 0 h'->(∀b o,s.heap.get? b=yz o->h'.get? b=yz o)->Q (.ref (s.heap.objs.size+1)) {s with heap:=h' }):
  Vf (Vj prog w) A (call (.type "enumerate") [.ref a]) Q E s:=by
 obtain⟨n,dct,sl,B⟩:∃n dct sl,s.heap.get? a=yz {cls:=.type (X1s k),dict:=dct,data:=.seq xs n,slots:=sl}:=by cases k<;>(obtain⟨⟨c,dct,dt,sl⟩,B,Y,n,hd⟩:=U;cases Y;cases hd;exact⟨n,dct,sl,B⟩)
 refine callType_new F.called_enumerate (by decide) (F.typeCall_enumerate_1 _) (F.newCall_enumerate_1 _) (λobj=>F.args_object_init_2 obj _) F.entry_enumerate_new (Xtj k a xs n dct sl) ⟨B,?_⟩;have L:(s.heap.push {cls:=.type (Xf0 k),data:=.fields #[.ref a,.int 0 0]}).objs.size=s.heap.objs.size+1:=Vbs ..;show _/\_;rw[L];have J:Xcp ((s.heap.push {cls:=.type (Xf0 k),data:=.fields #[.ref a,.int 0 0]}).push {cls:=.type "enumerate",data:=.fields #[.none,.bool yw,.ref s.heap.objs.size,Vb2 0,.none,.none]}) (s.heap.objs.size+1) s.heap.objs.size 0 .none (.bool yw) .none:=by have:=Vq (s.heap.push {cls:=.type (Xf0 k),data:=.fields #[.ref a,.int 0 0]}) (o:={cls:=.type "enumerate",data:=.fields #[.none,.bool yw,.ref s.heap.objs.size,Vb2 0,.none,.none]}) rfl;rw[L]at this;exact this
 exact⟨⟨_,J,rfl⟩,h _ ⟨⟨_,_,_,J,.inl rfl⟩,Xxo (Vg _ (Vq _ rfl))⟩ λb o q=>Vg _ (Vg _ q)⟩
noncomputable def Ite(K:Ve)(k:Bool)(a:Addr):L2.It:=
 ⟨λn H=>∃xs x,SqH k K H a xs/\xs[n]?=yz x,
   λn H v H'=>∃T x,v=.ref T/\H T=yy/\H'=upd H T (.tup [.int n,x])/\∀xs,SqH k K H a xs->xs[n]?=yz x,
   λn H=>∃xs,SqH k K H a xs/\(la xs)<=n⟩
theorem NSt.at(x:NSt k e it a n h)(q:∀c∈[e,it],∀o,h.get? c=yz o->h'.get? c=yz o):NSt k e it a n h':=
 ⟨let ⟨f0,f1,old,z,r⟩:=x.eo;⟨f0,f1,old,q e (by simp) _ z,r⟩,x.io.at λo z=>q it (by simp) o z⟩
theorem NSt.some(x:NSt k e it a n h):∀c∈[e,it],∃o,h.get? c=yz o/\∀v,o.data≠.cell v:=λc B=>by
 simp only[Vt,U3,or_false]at B;rcases B with z|z<;>subst z
 ·obtain⟨f0,f1,J,z,_⟩:=x.eo;exact⟨_,z,λv q=>nomatch q⟩
 obtain⟨o,z,_,d⟩:=x.io.obj;exact⟨o,z,d⟩
theorem Xxq{P:Vy}{w:V9}{K:Ve}{es:LX}{x0:Nat}{tp:Pos}{k:Bool}{e it a:Addr}(L:e≠it):
  Turn P w K (.Tuple es x0 tp) (Ite K k a) [e,it] e (λn h=>NSt k e it a n h) where
 mem:=by simp
 obj:=λn h st c B=>st.some c B
 keep:=λn h h' st q=>st.at q
 item:=by
  intro X hP hw hK B n pa s σ H E J hf st hg;subst hP hw hK;obtain⟨xs,x,q1,hx⟩:=hg;obtain⟨its,rv,p⟩:=Xhm J q1;obtain⟨u,hu,ru⟩:=rv.get hx;have hT:H s.heap.objs.size=none:=J.hok.fresh (Vl _);have Y:∀c∈[e,it],c≠s.heap.objs.size:=λc B=>by obtain⟨o,z,_⟩:=st.some c B;exact Vz (Vr z)
  refine Xk2 L st.eo st.io p (x:=u) (by simpa using hu) λh' ab aa pr kp=>⟨_,rfl,X1r ab λh2 e2 c2=>?_⟩;have J1:Inv X pa σ (upd H s.heap.objs.size (.tup [.int n,x])) {s with heap:=s.heap.push {cls:=.type "tuple",data:=.seq #[.int n s.toks,u]} }:=J.laid (t':=s.toks) (λc o z=>Vg _ z) (Vl _) ⟨by show 2<=Vu;decide,[.int n s.toks,u],.cons ⟨_,rfl⟩ (.cons ru .nil),⟨_,Vq _ rfl,rfl,_,rfl⟩⟩;have U:∀c∈[e,it],Xab X pa (upd H s.heap.objs.size (.tup [.int n,x])) c:=λc B=>⟨by rw[Xe (Y c B)];exact(hf c B).1,(hf c B).2⟩;have J2:Inv X pa σ (upd H s.heap.objs.size (.tup [.int n,x])) {s with heap:=h2,toks:=s.toks+1}:=Xe2 (s:={s with heap:=s.heap.push {cls:=.type "tuple",data:=.seq #[.int n s.toks,u]} }) (h':=h2) (t':=s.toks+1) J1 U λc o B z=>by
   simp only[Vt,U3,or_false,not_or]at B;refine c2.extBut _ _ B.1 ?_;by_cases q:c=s.heap.objs.size;·subst q;have z':=(Vq s.heap (o:={cls:=.type "tuple",data:=.seq #[.int n s.toks,u]}) rfl).symm.trans z;rw[<-z'];exact pr
   ·exact kp c o B.1 B.2 (Xk1 z q)
  refine⟨.ref s.heap.objs.size,_,J2,rfl,⟨s.heap.objs.size,x,rfl,hT,rfl,λzs hz=>?_⟩,?_,λc B=>(U c B).1⟩;·rw[Xtg J hz q1];exact hx
  ·exact⟨e2,aa.at λo z=>c2.extBut _ _ (Ne.symm L) z⟩
 done:=by intro X hP hw hK B n pa s σ H E J hf st hg;subst hP hw hK;obtain⟨xs,q1,hl⟩:=hg;obtain⟨its,rv,p⟩:=Xhm J q1;have l1:=rv.length;refine Xk3 (J.ok.hd B) st.eo st.io p (by simp;omega) λh' kp=>⟨rfl,Xe2 (t':=s.toks) J hf λc o B z=>?_⟩;simp only[Vt,U3,or_false,not_or]at B;exact kp c o B.2 z
 self:=λ_ _ _ _ _ st h=>Xf1 st.eo h
noncomputable def Itx(a:Addr)(o:Obj)(xs:List (LI×Addr×V)):L2.It:=
 ⟨λi H=>(∃u,H a=yz (.frz o u))/\i<la xs,
   λi H v H'=>∃T p,xs[i]?=yz p/\v=.ref T/\H T=yy/\H'=upd H T (.tup [.ref p.2.1,p.2.2]),
   λi H=>(∃u,H a=yz (.frz o u))/\(la xs)<=i⟩
theorem Xja(a b:Int):Vdn a b (-1)=if a>b then a-b else 0:=by unfold Vdn;rw[iN0 (by decide)];split<;>simp<;>omega
theorem Xo4(L:-(2^62)<=a)(J:a<2^62)(U:-(2^62)<=b)(B:b<2^62):Builtin.Range.small a b (-1)=true:=by unfold Builtin.Range.small;rw[Xja];simp only[Builtin.Range.rangeFitsLong,bA0,Vbi,decide_eq_true_eq,beq_iff_eq,show ¬ (-1:Int)>0 by decide,if_false];split<;>omega
noncomputable def Itd(lo:Int)(n:Nat):L2.It where
 go:=λi _=>i<n
 yld:=λi H x H'=>H'=H/\x=.int (lo-i)
 stop:=λi _=>n<=i
theorem Xq2{P:Vy}{w:V9}{K:Ve}{tg:Expr}(it:Addr)(lo:Int)(n:Nat):Turn P w K tg (Itd lo n) [it] it (λi h=>IsRangeIter h it (lo+(i:Nat)*(-1)) ((n:Int)-(i:Nat)) (-1)) where
 mem:=by simp
 obj:=λi h st b B=>by
  obtain rfl:b=it:=by simpa using B
  exact⟨_,st,λv z=>nomatch z⟩
 keep:=λi h h' st k=>k it (by simp) _ st
 item:=by
  intro X hP hw Y hc i pa s σ H E I L st hg;subst hP hw Y;obtain⟨f0,f1,f2,f3,f4,U⟩:=L it (by simp);refine(Walks.range (prog:=X.prog) (w:=X.w) (I.ok.hd hc) it lo (-1) n).item i s _ _ hg st λv h' tk hv J kk=>?_;obtain⟨t,rfl⟩:=hv;have I1:Inv X pa σ H {s with heap:=h',toks:=tk}:=I.turned (λb o B e=>kk b o (by simpa using B) e) f0 f1 f3 f4 U;refine⟨_,rfl,Xjv (s:={s with heap:=h',toks:=tk}) (n:="range_iterator") J rfl rfl (by decide) ⟨.int (lo-i),H,I1,⟨t,?_⟩,⟨rfl,rfl⟩,J,λb B=>(L b B).1⟩⟩;have e:lo+(i:Int)*(-1)=lo-i:=by omega
  rw[e]
 done:=by intro X hP hw Y hc i pa s σ H E I L st hg;subst hP hw Y;obtain⟨f0,f1,f2,f3,f4,U⟩:=L it (by simp);have hn:n<=i:=hg;exact wpAny_pyNext_range_end (I.ok.hd hc) st (by omega) λh' eb=>⟨rfl,I.turned (t':=s.toks) (λb o B e=>eb b o B e) f0 f1 f3 f4 U⟩
 self:=λ_ _ _ _ _ st h=>wpAny_pyIter_rangeiter st h
section
variable{X:Cx}{tg:Expr}
theorem Xxr{pa:LA}{R:L2.It->Hp->Prop}{E:VP}{lo hi:Int}{tk:Nat}(I:Inv X pa σ H s)(h1:-(2^62)<=lo)(h2:lo<2^62)(h3:-(2^62)<=hi)(Y:hi<2^62)
  (q:R (Itd lo (lo-hi).toNat) H):Vf (Vj X.prog X.w) X.A (Vd8 (.ref s.heap.objs.size)) (PIE X pa σ tg R) E {s with heap:=s.heap.push {cls:=.type "range",data:=.fields #[.int lo t,.int hi u,.int (-1) v]},toks:=tk}:=by
 refine wpAny_pyIter_range (IsRange.new ..) (Xo4 h1 h2 h3 Y) ?_;generalize hR:({cls:=.type "range",data:=.fields #[.int lo t,.int hi u,.int (-1) v]}:Obj)=B;have J:Inv X pa σ H {s with heap:=s.heap.push B,toks:=tk}:=I.kept λb o e=>Vg _ e;refine⟨(s.heap.push B).objs.size,[(s.heap.push B).objs.size],_,_,H,rfl,J.kept (t':=tk) λb o e=>Vg _ e,Xq2 _ lo (lo-hi).toNat,?_,λb hb=>?_,q⟩
 ·have U:lo+((0:Nat):Int)*(-1)=lo:=by simp
  have L:(((lo-hi).toNat:Nat):Int)-((0:Nat):Int)=Vdn lo hi (-1):=by rw[Xja];split<;>omega
  show IsRangeIter _ _ (lo+((0:Nat):Int)*(-1)) ((((lo-hi).toNat:Nat):Int)-((0:Nat):Int)) (-1);rw[U,L];exact Vq _ rfl
 ·obtain rfl:b=(s.heap.push B).objs.size:=by simpa using hb
  exact J.fpOk (Vl _) (J.hok.fresh (Vl _))
variable{pa:LA}{σ:L2.St}{H:Hp}{s:Vc}{ρ:LR}{S S':Sto}{env:En}{Q:VP}{E:VP}{a b c e iter:Expr}{f:En->Sto->R D}{pos:Pos}
def DG(X:Cx)(tg:Expr)(t:Tg):Prop:=
 ∀(pa:LA) (s:Vc) (σ:L2.St) (H:Hp) (ρ:LR) (S:Sto) (env:En) (d:D) (v:V) (u:Vb) (B:En) (Q:Unit->Vc->Prop) (E:VP),S0 X pa σ H s ρ S env->Xn t d env=yz B->RD X.K ρ H d v->RelV v u ->
  (∀s' J,S0 X pa J H s' ρ S B->Q () s')->Vf (Vj X.prog X.w) X.A (assign tg X.env u) Q E s
theorem Xxs(hN:X.N.Nodup)(hi:X.N[i]?=yz x)(J:Loc X.env.scope x)(U:X.fn x=yx\/X.env.scope.names.lookup x=yz .local):DG X (.Name x pos) (.var i):=by intro pa s σ H ρ S env d v u B Q E I h rd L hQ;simp only[Xn,Vp]at h;subst h;exact Vgz (Xa5 I.inv hN hi J L (λs' Y=>hQ s' _ ⟨Y,I.sr,I.er.set i rd⟩) U)
noncomputable def gNs:LN->TGs
 |[]=>X0s|i::is=>Xv2 (Xv1 i) (gNs is)
theorem Xq3:∀(B:LN) (vs:LW) (σ:L2.St) (H:Hp) (Q:L2.St->Hp->Prop),la B=la vs->Q ((B.zip vs).foldl (λe p=>e.set p.1 (yz p.2)) σ) H->gNs B vs σ H Q
 |[],vs=>fun σ H Q J h=>by
  have:vs=[]:=by simpa using J.symm
  subst this;exact⟨rfl,h⟩|i::B,[]=>fun σ H Q J h=>by simp at J|i::B,v::vs=>fun σ H Q J h=>⟨v,vs,rfl,Xq3 B vs _ H Q (by simpa using J) h⟩
theorem ER.sets{K:Ve}:∀(B:LN) (ds:LD) (vs:LW) (env:En) (σ:L2.St),RDs K ρ H ds vs->ER K ρ H env σ->ER K ρ H ((B.zip ds).foldl (λe p=>e.set p.1 (yz p.2)) env) ((B.zip vs).foldl (λe p=>e.set p.1 (yz p.2)) σ)
 |[],ds=>λvs env σ r e=>by simpa using e|i::B,[]=>λvs env σ r e=>by simp only[RDs]at r;subst r;simpa using e|i::B,d::ds=>λvs env σ r e=>by simp only[RDs]at r;obtain⟨v,J,rfl,h1,h2⟩:=r;exact ER.sets B ds J _ _ h2 (e.set i h1)
theorem X1t(hc:X.calm=yx)(h:∀E,PGs (X.wish E) es (gNs is))(hn:(Va1 es X.env).length=la is)(U:(Va1 es X.env).findIdx? (·.1)=yy):DG X (.Tuple es k pos) (.tup is):=by
 intro pa s σ H ρ S env d v u aa Q E I hd rd rv hQ;cases d with
 |tup ds=>
  simp only[Xn]at hd;split at hd
  ·rename_i hl;cases hd;simp only[RD]at rd;obtain⟨a,vs,rfl,hs,Y⟩:=rd;have B:(la is)=la vs:=by rw[hl,Y.length]
   refine thn (X0t (X:=X.wish E) (n:=la is) hc (h E) hn U pa s σ H (.ref a) u (λL H'=>H'=H/\L=(is.zip vs).foldl (λe p=>e.set p.1 (yz p.2)) σ) (I.inv.wish E) rv ⟨a,vs,rfl,hs,B.symm,Xq3 is vs σ H _ B ⟨rfl,rfl⟩⟩) λ_ s' ⟨L,H',J,e1,e2⟩=>?_;subst e1 e2;exact hQ s' _ ⟨J.unwish,I.sr,ER.sets is ds vs env σ Y I.er⟩
  cases hd|_=>cases hd
theorem Xq4:∀(B:LN) (xs:List (Str×Pos)),X.N.Nodup->B.length=la xs->(∀(j i:Nat) (x:Str×Pos),B[j]?=yz i->xs[j]?=yz x->X.N[i]?=yz x.1/\Loc X.env.scope x.1/\(X.fn x.1=yx\/X.env.scope.names.lookup x.1=yz .local)) ->
  PGs X (xs.map λx=>Expr.Name x.1 x.2) (gNs B)
 |[],xs=>λ_ J _=>by
  have:xs=[]:=by simpa using J.symm
  subst this;exact Xw2|i::B,[]=>λ_ J _=>by simp at J|i::B,x::xs=>λhN J h=>by obtain⟨h1,h2,h3⟩:=h 0 i x rfl rfl;exact Xs3 (Xw1 hN h1 h2 h3) (Xq4 B xs hN (by simpa using J) λj U L e1 Y=>h (j+1) U L (by simpa using e1) (by simpa using Y)) rfl
theorem Xgq:∀(xs:List (Str×Pos)) (env:Vax),(Va1 (xs.map λx=>Expr.Name x.1 x.2) env).length=la xs/\(Va1 (xs.map λx=>Expr.Name x.1 x.2) env).findIdx? (·.1)=yy
 |[]=>λenv=>⟨rfl,rfl⟩|x::xs=>λenv=>by have h:=Xgq xs env;have e:Va1 ((x::xs).map λx=>Expr.Name x.1 x.2) env=(yw,assign (.Name x.1 x.2) env)::Va1 (xs.map λx=>Expr.Name x.1 x.2) env:=rfl;rw[e];refine⟨by simp[h.1],?_⟩;rw[List.findIdx?_cons];simp[h.2]
def SrcK(K:Ve)(ρ:LR)(H:Hp):Src->Bool->Addr->Prop
 |.con xs,yw,a=>∃vs,SqT K H a vs/\RDs K ρ H xs vs|.ref n,yx,a=>ρ[n]?=yz a|_,_,_=>False
theorem SrcK.mono'{K:Ve}{ρ':LR}{H':Hp}{src:Src}{k:Bool}{a:Addr}(x:Mon K ρ ρ' H H')(h:SrcK K ρ H src k a):SrcK K ρ' H' src k a:=by
 cases src with
 |con xs=>cases k with
  |false=>obtain⟨vs,h1,h2⟩:=h;exact⟨vs,x.tup _ _ h1,RDs.mono' x _ _ h2⟩|true=>exact h.elim
 |ref n=>cases k with
  |false=>exact h.elim|true=>exact x.pre _ _ h
 |enm _=>exact h.elim
theorem SrcK.get{src:Src}{k:Bool}{a:Addr}{i:Nat}{o:Option D}(h:SrcK X.K ρ H src k a)(I:S0 X pa σ H s ρ S env)(g:src.get S i=yz o):∃vs,SqH k X.K H a vs/\match o with
  |some d=>∃v,vs[i]?=yz v/\RD X.K ρ H d v|none=>la vs<=i:=by
 cases src with
 |con xs=>cases k with
  |false=>
   obtain⟨vs,h1,h2⟩:=h;simp only[Src.get,Vp]at g;refine⟨vs,h1,?_⟩;cases o with
   |some d=>exact h2.get g|none=>have:=h2.none g;rw[Uu]at this;exact this
  |true=>exact h.elim
 |ref n=>cases k with
  |false=>exact h.elim|true=>
   simp only[Src.get,V5]at g;obtain⟨xs,g1,g2⟩:=g;obtain⟨J,vs,k1,k2,B⟩:=I.list g1;have h':ρ[n]?=yz a:=h;rw[h']at k1;cases k1;refine⟨vs,.of k2,?_⟩;cases o with
   |some d=>exact B.get g2|none=>have:=B.none g2;rw[Uu]at this;exact this
 |enm _=>exact h.elim
inductive SrcR(K:Ve)(ρ:LR)(H:Hp):Src->L2.It->Prop where
 |tup {a:Addr} {xs:LD} {vs:LW}:SqT K H a vs->RDs K ρ H xs vs->SrcR K ρ H (.con xs) (Itt K a)
 |rng (lo:Int) (n:Nat):SrcR K ρ H (.con ((Vm n).map λ(k:Nat)=>D.int (lo+k))) (Itr lo n)
 |lst {n:Nat} {a:Addr}:ρ[n]?=yz a->SrcR K ρ H (.ref n) (Itl K a)
 |dwn (lo:Int) (n:Nat):SrcR K ρ H (.con ((Vm n).map λ(k:Nat)=>D.int (lo-k))) (Itd lo n)
 |enm {s1:Src} {k:Bool} {a:Addr}:SrcK K ρ H s1 k a->SrcR K ρ H (.enm s1) (Ite K k a)
 |dic {a:Addr} {o:Obj} {u:HO} {kvs:List (LI×D)} {xs:List (LI×Addr×V)}:H a=yz (.frz o u)->DX K ρ H kvs xs->SrcR K ρ H (.con (kvs.map X08)) (Itx a o xs)
theorem Xwc{K:Ve}{ρ:LR}{H:Hp}:∀ {kvs:List (LI×D)} {xs:List (LI×Addr×V)} {i:Nat} {p:LI×D},DX K ρ H kvs xs->kvs[i]?=yz p->∃q,xs[i]?=yz q/\p.1=q.1/\SqT K H q.2.1 (p.1.map V.int)/\RD K ρ H p.2 q.2.2
 |_,_,i,_,.nil,h=>by simp at h|_,_,0,_,.cons r _,h=>by simp at h;subst h;exact⟨_,rfl,r⟩|_,_,i+1,_,.cons _ t,h=>by obtain⟨q,h1,h2⟩:=Xwc (i:=i) t (by simpa using h);exact⟨q,by simpa using h1,h2⟩
theorem SrcR.mono'{K:Ve}{ρ':LR}{H':Hp}{src:Src}{J:L2.It}(x:Mon K ρ ρ' H H')(h:SrcR K ρ H src J):SrcR K ρ' H' src J:=by
 cases h with
 |tup h1 h2=>exact .tup (x.tup _ _ h1) (RDs.mono' x _ _ h2)|rng lo n=>exact .rng lo n|lst h=>exact .lst (x.pre _ _ h)|dwn lo n=>exact .dwn lo n|enm h1=>exact .enm (h1.mono' x)|dic h1 h2=>exact .dic (x.frz _ _ _ h1) (h2.mono x)
theorem SrcR.mono{K:Ve}{ρ':LR}{H':Hp}{src:Src}{J:L2.It}(x:Stp K ρ ρ' H H')(h:SrcR K ρ H src J):SrcR K ρ' H' src J:=h.mono' x.toMon
theorem Xnj(g:(Src.enm s1).get S i=yz o):∃B,s1.get S i=yz B/\match o with
  |some d=>∃x,B=yz x/\d=.tup [.int i,x]|none=>B=none:=by
 simp only[Src.get]at g;split at g;·rename_i x J;cases g;exact⟨_,J,x,rfl,rfl⟩
 ·rename_i hn;refine⟨o,g,?_⟩;cases o with
  |none=>rfl|some x=>exact(hn x g).elim
theorem SrcR.go(h:SrcR X.K ρ H src J)(I:S0 X pa σ H s ρ S env)(g:src.get S i=yz (yz d)):
  J.go i H/\∀x H',J.yld i H x H'->SR X.K ρ S H'/\Stp X.K ρ ρ H H'/\RD X.K ρ H' d x:=by
 cases h with
 |@tup a xs vs h1 h2=>simp only[Src.get,Vp]at g;obtain⟨v,B,Y⟩:=h2.get g;refine⟨⟨vs,v,h1,B⟩,λx H' y=>?_⟩;obtain⟨rfl,y⟩:=y;have:=y vs h1;rw[B]at this;cases this;exact⟨I.sr,.refl,Y⟩|rng lo n=>
  simp only[Src.get,Vp]at g;rw[Vx]at g;have hi:i<n:=by
   by_cases hi:i<n;·exact hi
   ·rw[Vcc (by simpa using hi)]at g;cases g
  rw[Vb1 hi]at g;simp only[V4,Vp]at g;subst g;refine⟨hi,λx H' y=>?_⟩;obtain⟨rfl,rfl⟩:=y;exact⟨I.sr,.refl,by simp only[RD]⟩|@lst n a h=>simp only[Src.get,V5]at g;obtain⟨xs,g1,g2⟩:=g;obtain⟨a',vs,k1,k2,k3⟩:=I.list g1;rw[h]at k1;cases k1;obtain⟨v,B,Y⟩:=k3.get g2;refine⟨⟨vs,v,.of k2,B⟩,λx H' y=>?_⟩;obtain⟨rfl,y⟩:=y;have:=y vs (.of k2);rw[B]at this;cases this;exact⟨I.sr,.refl,Y⟩|dwn lo n=>
  simp only[Src.get,Vp]at g;rw[Vx]at g;have hi:i<n:=by
   by_cases hi:i<n;·exact hi
   ·rw[Vcc (by simpa using hi)]at g;cases g
  rw[Vb1 hi]at g;simp only[V4,Vp]at g;subst g;refine⟨hi,λx H' y=>?_⟩;obtain⟨rfl,rfl⟩:=y;exact⟨I.sr,.refl,by simp only[RD]⟩|@enm s1 k a h1=>obtain⟨o1,g1,x,rfl,rfl⟩:=Xnj g;obtain⟨vs,L,v,B,r1⟩:=h1.get I g1;refine⟨⟨vs,v,L,B⟩,λw H' yd=>?_⟩;obtain⟨T,v',rfl,hT,rfl,z1⟩:=yd;have U:=z1 vs L;rw[B]at U;cases U;have st:Stp X.K ρ ρ H (upd H T (.tup [.int i,v])):=Stp.upd hT;refine⟨I.sr.upd hT,st,?_⟩;simp only[RD];exact⟨T,[.int i,v],rfl,.of Xm,.cons (by simp only[RD]) (.cons (r1.mono st) .nil)⟩|@dic a o u kvs xs h1 h2=>simp only[Src.get,Vp,Vx,V5]at g;obtain⟨p,g1,rfl⟩:=g;obtain⟨q,L,q2,q3,q4⟩:=Xwc h2 g1;refine⟨⟨⟨u,h1⟩,(Vh.mp L).1⟩,λw H' yd=>?_⟩;obtain⟨T,q',B,rfl,hT,rfl⟩:=yd;rw[L]at B;cases B;have st:Stp X.K ρ ρ H (upd H T (.tup [.ref q.2.1,q.2.2])):=Stp.upd hT;refine⟨I.sr.upd hT,st,?_⟩;unfold X08;rw[RD];refine⟨T,_,rfl,.of Xm,.cons ?_ (.cons (q4.mono st) .nil)⟩;rw[RD];exact⟨_,_,rfl,st.tup _ _ q3,.ints _⟩
theorem SrcR.stop(h:SrcR X.K ρ H src J)(I:S0 X pa σ H s ρ S env)(g:src.get S i=yz yy):J.stop i H:=by
 cases h with
 |@tup a xs vs h1 h2=>simp only[Src.get,Vp]at g;exact⟨vs,h1,by have:=h2.none g;rw[Uu]at this;exact this⟩|rng lo n=>simp only[Src.get,Vp]at g;rw[Uu]at g;show n<=i;simpa using g|@lst n a h=>simp only[Src.get,V5]at g;obtain⟨xs,g1,g2⟩:=g;obtain⟨a',vs,k1,k2,L⟩:=I.list g1;rw[h]at k1;cases k1;exact⟨vs,.of k2,by have:=L.none g2;rw[Uu]at this;exact this⟩|dwn lo n=>simp only[Src.get,Vp]at g;rw[Uu]at g;show n<=i;simpa using g|@enm s1 k a h1=>obtain⟨o1,g1,Y⟩:=Xnj g;obtain⟨vs,U,B⟩:=h1.get I g1;cases Y;exact⟨vs,U,B⟩|@dic a o u kvs xs h1 h2=>simp only[Src.get,Vp,Vx,Option.map_eq_none_iff,Uu]at g;exact⟨⟨u,h1⟩,by rw[<-Paired.length h2];exact g⟩
def ItP(X:Cx)(pa:LA)(σ:L2.St)(ρ:LR)(H:Hp)(tg:Expr)(r:R Src)(L:Vb)(U:Vc):Prop:=
 ∃B S' it fp Y J H' ρ',r=.ok B S'/\L=.ref it/\Inv X pa σ H' U/\Turn X.prog X.w X.K tg J fp it Y/\Y 0 U.heap/\(∀b∈fp,Xab X pa H' b)/\SrcR X.K ρ' H' B J/\SR X.K ρ' S' H'/\Stp X.K ρ ρ' H H'
theorem ItP.pre{L:LR}{H1:Hp}{r:R Src}{B:Vb}{s2:Vc}(h:ItP X pa σ L H1 tg r B s2)(st:Stp X.K ρ L H H1):ItP X pa σ ρ H tg r B s2:=by obtain⟨Y,S2,it,fp,tn,J,H2,U,z1,z2,z3,z4,z5,z6,z7,z8,z9⟩:=h;exact⟨Y,S2,it,fp,tn,J,H2,U,z1,z2,z3,z4,z5,z6,z7,z8,st.trans z9⟩
def DI(X:Cx)(tg iter:Expr)(f:En->Sto->R Src):Prop:=
 ∀(pa:LA) (s:Vc) (σ:L2.St) (H:Hp) (ρ:LR) (S:Sto) (env:En) (E:VP),S0 X pa σ H s ρ S env->f env S≠.bad->(∀x s',ExP X pa σ ρ H (f env S) x s'->E x s') ->
  Vf (Vj X.prog X.w) X.A (eval iter X.env) (λv B=>Vf (Vj X.prog X.w) X.A (Vd8 v) (ItP X pa σ ρ H tg (f env S)) E B) E s
theorem X1u(he:DE X iter f):DI X tg iter (λenv S=>(f env S).bind λx S=>match Yw S x with|some r=>.ok r S|none=>.bad):=by
 intro pa s σ H ρ S env E I B hE;dsimp only at B hE ⊢;cases q:f env S with
 |bad=>rw[q]at B;cases B rfl|ex n S1=>rw[q]at hE;exact he.ex I q λx s' z=>hE x s' ⟨n,S1,rfl,z⟩|ok d S1=>
  rw[q]at B;simp only[Rk0]at B ⊢;refine he.ok I q λu L v H1 U J rv rd Y=>?_;cases d with
  |tup xs=>
   simp only[RD]at rd;obtain⟨a,vs,rfl,h1,h2⟩:=rd;cases rv;obtain⟨its,aa,p,hz⟩:=J.inv.tuple h1;refine Ve6 (show L.heap.IsTuple a its.toArray from p) ?_;refine⟨_,S1,L.heap.objs.size,[L.heap.objs.size],_,_,H1,U,rfl,rfl,J.inv.kept (t':=L.toks) λb o e=>Vg _ e,Xor a _,⟨_,Vq _ rfl,rfl,rfl⟩,λb hb=>?_,.tup h1 h2,J.sr,Y⟩;have e:b=L.heap.objs.size:=by simpa using hb
   subst e;exact J.inv.fpOk (Vl _) (J.inv.hok.fresh (Vl _))|ref n=>
   cases e1:Xa S1 n with
   |none=>simp[Yw,e1]at B|some xs=>
    obtain⟨a,vs,k1,k2,k3⟩:=J.list e1;simp only[RD]at rd;obtain⟨a',rfl,k4⟩:=rd;rw[k1]at k4;cases k4;cases rv;obtain⟨its,aa,p,hz⟩:=J.inv.list (.of k2);refine Vd6 p.isList ?_;refine⟨.ref n,S1,L.heap.objs.size,[L.heap.objs.size],_,_,H1,U,by simp[Yw,e1],rfl,J.inv.kept (t':=L.toks) λb o e=>Vg _ e,Xqh a _,⟨_,Vq _ rfl,rfl,rfl⟩,λb hb=>?_,.lst k1,J.sr,Y⟩;have e:b=L.heap.objs.size:=by simpa using hb
    subst e;exact J.inv.fpOk (Vl _) (J.inv.hok.fresh (Vl _))
  |non=>simp[Yw]at B|bl _=>simp[Yw]at B|int _=>simp[Yw]at B|str _=>simp[Yw]at B|fro _=>simp[Yw]at B|fn _ _=>simp[Yw]at B
theorem Xq5{tk:Nat}{lo hi:Int}{ds:LD}(I:S0 X pa σ H s ρ S env)(h1:-(2^62)<=lo)(h2:lo<2^62)(h3:-(2^62)<=hi)(h4:hi<2^62)(B:ds=(Vm (hi-lo).toNat).map λ(k:Nat)=>D.int (lo+k)):
  Vf (Vj X.prog X.w) X.A (Vd8 (.ref s.heap.objs.size)) (ItP X pa σ ρ H tg (.ok (.con ds) S)) E {s with heap:=s.heap.push {cls:=.type "range",data:=.fields #[.int lo t,.int hi u,.int 1 v]},toks:=tk}:=by
 refine thn (Xs4 (X:=X.wish E) (tg:=tg) (R:=λJ H'=>J=Itr lo (hi-lo).toNat/\H'=H) (I.inv.wish E) h1 h2 h3 h4 ⟨rfl,rfl⟩) λL s2 z=>?_;obtain⟨it,fp,tn,J,H',Y,J',T,t0,fo,U,e3⟩:=z;subst U e3;exact⟨_,S,it,fp,tn,_,H',ρ,rfl,Y,J'.unwish,T,t0,fo,by rw[B];exact .rng _ _,I.sr,.refl⟩
theorem Xtk{tk:Nat}{lo hi:Int}(I:S0 X pa σ H s ρ S env)(h1:-(2^62)<=lo)(h2:lo<2^62)(L:-(2^62)<=hi)(B:hi<2^62):
  Vf (Vj X.prog X.w) X.A (Vd8 (.ref s.heap.objs.size)) (ItP X pa σ ρ H tg (.ok (.con ((Vm (lo-hi).toNat).map λ(k:Nat)=>D.int (lo-k))) S)) E {s with heap:=s.heap.push {cls:=.type "range",data:=.fields #[.int lo t,.int hi u,.int (-1) v]},toks:=tk}:=by
 refine thn (Xxr (X:=X.wish E) (tg:=tg) (R:=λJ H'=>J=Itd lo (lo-hi).toNat/\H'=H) (I.inv.wish E) h1 h2 L B ⟨rfl,rfl⟩) λitv s2 ⟨it,fp,tn,J,H',e1,J',T,t0,fo,e2,e3⟩=>?_;subst e2 e3;exact⟨_,S,it,fp,tn,_,H',ρ,rfl,e1,J'.unwish,T,t0,fo,.dwn _ _,I.sr,.refl⟩
theorem X1v {es:LX} {g:En->Sto->R (LD)} (hg:Gl X "range") (hm:X.mg "range"=yy) (ha:DA X (a::es) g) (hs:V7 (a::es) X.env=(yw,eval a X.env)::V7 es X.env) (ab:(Vbu pos (V7 es X.env)).any (·.1)=yw):
  DI X tg (.Call (.Name "range" p) (a::es) [] pos) (λenv S=>(g env S).bind λxs S=>match Ys xs with|some ds=>.ok (.con ds) S|none=>.bad):=by
 intro pa s σ H ρ S env E I B hE;dsimp only at B hE ⊢;refine Call_ (Yn I.inv hg hm boot_range (Vaj ?_ hs ab));cases q:g env S with
 |bad=>rw[q]at B;cases B rfl|ex n S1=>rw[q]at hE;exact ha.ex I q λx s' z=>hE x s' ⟨n,S1,rfl,z⟩|ok ds S1=>
  rw[q]at B;simp only[Rk0]at B ⊢;refine ha.ok I q λus s1 vs H1 ac I1 rv rd aa=>?_;have U:∀ {tk:Nat} {lo hi:Int} {t u v:Tok} {xs:LD},-(2^62)<=lo->lo<2^62->-(2^62)<=hi->hi<2^62->xs=(Vm (hi-lo).toNat).map (λ(k:Nat)=>D.int (lo+k)) ->
    Vf (Vj X.prog X.w) X.A (Vd8 (.ref s1.heap.objs.size)) (ItP X pa σ ρ H tg (.ok (.con xs) S1)) E {s1 with heap:=s1.heap.push {cls:=.type "range",data:=.fields #[.int lo t,.int hi u,.int 1 v]},toks:=tk}:=λh1 h2 h3 h4 h5=>
   Vo (Xq5 I1 h1 h2 h3 h4 h5) (λ_ _ z=>z.pre aa) λ_ _ z=>z
  match ds,rd,B with
  |[],rd,B=>simp[Ys]at B|[d],rd,B=>
   cases d with
   |int j=>
    simp only[Ys]at B ⊢;by_cases J:-(1048576)<j/\j<1048576
    ·rw[iP0 J]at B ⊢;simp only[RDs]at rd;obtain⟨v,r,rfl,L,rfl⟩:=rd;simp only[RD]at L;subst L;cases rv with
     |cons q1 Y=>cases Y;obtain⟨t,rfl⟩:=q1;refine call_range_1 (U (by omega) (by omega) (by omega) (by omega) ?_);simp
    rw[iN0 J]at B;cases B rfl|_=>simp[Ys]at B
  |[d1,d2],rd,B=>
   cases d1 with
   |int i=>cases d2 with
    |int j=>
     simp only[Ys]at B ⊢;by_cases J:-(1048576)<i/\i<1048576/\-(1048576)<j/\j<1048576
     ·rw[iP0 J]at B ⊢;simp only[RDs]at rd;obtain⟨v,r,rfl,L,v2,r2,rfl,r3,rfl⟩:=rd;simp only[RD]at L r3;subst L r3;cases rv with
      |cons q1 Y=>
       cases Y with
       |cons q3 q4=>cases q4;obtain⟨t,rfl⟩:=q1;obtain⟨t',rfl⟩:=q3;exact call_range_2 (U (by omega) (by omega) (by omega) (by omega) rfl)
     rw[iN0 J]at B;cases B rfl|_=>simp[Ys]at B
   |_=>simp[Ys]at B
  |[d1,d2,d3],rd,B=>
   cases d1 with
   |int i=>cases d2 with
    |int j=>cases d3 with
     |int c=>
      simp only[Ys]at B ⊢;by_cases J:c = -1/\-(1048576)<i/\i<1048576/\-(1048576)<j/\j<1048576
      ·rw[iP0 J]at B ⊢;simp only[RDs]at rd;obtain⟨v,r,rfl,L,v2,r2,rfl,r3,v3,r4,rfl,r5,rfl⟩:=rd;simp only[RD]at L r3 r5;subst L r3 r5;obtain⟨rfl,J⟩:=J;cases rv with
       |cons q1 Y=>
        cases Y with
        |cons q3 q4=>
         cases q4 with
         |cons q5 q6=>cases q6;obtain⟨t,rfl⟩:=q1;obtain⟨t',rfl⟩:=q3;obtain⟨ae,rfl⟩:=q5;exact call_range_3 (by decide) (Vo (Xtk I1 (by omega) (by omega) (by omega) (by omega)) (λ_ _ z=>z.pre aa) λ_ _ z=>z)
      rw[iN0 J]at B;cases B rfl|_=>simp[Ys]at B
    |_=>simp[Ys]at B
   |_=>simp[Ys]at B
  |_::_::_::_::_,rd,B=>simp[Ys]at B
theorem X5k(I:S0 X pa σ H s ρ S env)(e:Yw S d=yz src)(rd:RD X.K ρ H d v)(J:RelV v u):∃k a vs,u=.ref a/\SqH k X.K H a vs/\SrcK X.K ρ H src k a:=by
 cases d with
 |tup xs=>have U:yz (Src.con xs)=yz src:=e;cases U;simp only[RD]at rd;obtain⟨a,vs,rfl,h1,h2⟩:=rd;cases J;exact⟨yw,a,vs,rfl,h1,vs,h1,h2⟩|ref n=>
  cases B:Xa S n with
  |none=>simp[Yw,B]at e|some xs=>simp only[Yw,B,V4,Vp]at e;subst e;obtain⟨a,vs,k1,k2,Y⟩:=I.list B;simp only[RD]at rd;obtain⟨a',rfl,L⟩:=rd;rw[k1]at L;cases L;cases J;exact⟨yx,a,vs,rfl,.of k2,k1⟩
 |_=>cases e
theorem X1w (hg:Gl X "enumerate") (hm:X.mg "enumerate"=yy) (ha:DA X (a::es) g) (hs:V7 (a::es) X.env=(yw,eval a X.env)::V7 es X.env) (ab:(Vbu pos (V7 es X.env)).any (·.1)=yw):
  DI X (.Tuple ts x0 tp) (.Call (.Name "enumerate" p) (a::es) [] pos) (λenv S=>(g env S).bind λxs S=>match xs with
   |[x]=>match Yw S x with
    |some s=>.ok (.enm s) S|none=>.bad
   |_=>.bad):=by
 intro pa s σ H ρ S env E I B hE;dsimp only at B hE ⊢;refine Call_ (Yn I.inv hg hm (u:=.type "enumerate") (by decide+kernel) (Vaj ?_ hs ab));cases q:g env S with
 |bad=>rw[q]at B;cases B rfl|ex n S1=>rw[q]at hE;exact ha.ex I q λx s' z=>hE x s' ⟨n,S1,rfl,z⟩|ok ds S1=>
  rw[q]at B;simp only[Rk0]at B ⊢;refine ha.ok I q λus U vs H1 ac L rv rd ae=>?_;match ds,rd,B with
  |[],rd,B=>cases B rfl|_::_::_,rd,B=>cases B rfl|[x],rd,B=>
   cases e1:Yw S1 x with
   |none=>simp only[e1]at B;cases B rfl|some sx=>
    simp only[RDs]at rd;obtain⟨v1,r1,rfl,aa,rfl⟩:=rd;cases rv with
    |cons q1 q2=>
     cases q2;obtain⟨k1,b1,w1,rfl,m1,c1⟩:=X5k L e1 aa q1;obtain⟨af,_,p1⟩:=Xhm L.inv m1;refine Xni p1 λh' ns kp=>by
      refine Xf1 ns.eo ?_;have J:Inv X pa σ H1 {U with heap:=h' }:=L.inv.kept (t':=U.toks) kp;refine⟨.enm sx,S1,_,[U.heap.objs.size+1,U.heap.objs.size],_,_,H1,ac,by simp only[e1],rfl,J,Xxq (λz=>by have z':(_:Nat)=_:=z;omega),ns,λb hb=>?_,.enm c1,L.sr,ae⟩;have Y:U.heap.objs.size<=b:=by simp only[Vt,U3,or_false]at hb;rcases hb with z|z<;>(have z':(_:Nat)=_:=z;omega)
      exact L.inv.fpOk Y (L.inv.hok.fresh Y)
theorem DSs.ok{st:LM}{na:Bool}{g:En->Sto->R Fl}{Q:Flow->Vc->Prop}(h:DSs X st na g)(I:S0 X pa σ H s ρ S env)(r:g env S=.ok x S')(J:∀B s',FlP X pa σ ρ H na S' s' x B->Q B s'):
  Vf (Vj X.prog X.w) X.A (execs st X.env) Q E s:=by
 refine Vo (h pa s σ H ρ S env I (by rw[r];exact λz=>nomatch z)) (λB s' z=>?_) λx s' z=>?_;·obtain⟨y,S1,e,z⟩:=z;rw[r]at e;cases e;exact J B s' z
 ·obtain⟨n,S1,_,e,_⟩:=z;rw[r]at e;cases e
theorem S0.rep(I:S0 X pa σ H s ρ S env)(J:Inv X pl σ H s):S0 X pl σ H s ρ S env:=⟨J,I.sr,I.er⟩
theorem X1x{pl:LA}{σ B:L2.St}{ρ ρ':LR}{H H':Hp}{s:Vc}{x:Vb}{n:Nat}{r:R Fl}(ac:X.stack=X.env::X.outer)(hf:X.env.frame=yz X.env.locals)(st:Stp X.K ρ ρ' H H')(h:XPd X (pa++pl) B ρ' H' n S' x s)(e:r=.ex n S'):
  notedBy (Vj X.prog X.w) X.A X.env (cameBackBy (Vj X.prog X.w) X.A X.env (ExS X pa σ ρ H yw r)) x s:=by
 obtain⟨H2,ae,a,c,J,rfl,hn,hc,sr,ab,fl⟩:=h.pre st;obtain⟨C,_,ha⟩:=(show ∃C,Y9 X.K c=yz C/\H2 a=yz (.ext (ExcO C a)) from sr.ob n a _ hn hc);have Y:Inv X pa B H2 s:=J.pins_of λp U=>J.pin p (U1 _ (Vdc _ U));have af:Fly X pa H2 a s.heap:=by
  rcases fl with fl|⟨f,hf,tr⟩;·exact .inl fl
  ·exact .inr ⟨f,hf,tr.imp λT ⟨h1,h2⟩=>⟨h1,λp U=>h2 p (by
    rcases Vao.mp U with z|z;·exact Vdc _ z
    ·exact U1 _ (Vdc _ z))⟩⟩
 refine Xfy Y ac hf ha af λl h2 a0 hid L hh up=>?_;obtain⟨k1,k2,k3,oe,vs,T,oT,ts,t1,⟨t2,t3⟩,t4,t5,t6,t7,t8,t9,t10⟩:=hh;have J2:Inv X pa B H2 {s with heap:=h2}:=Inv.fly Y ha hid L k1 up ⟨oe,vs,a0,t1,t2,t4,t3,(Uo.mp t5).1⟩;have nT:T ∉ frs X.stack:=λhm=>by obtain⟨_,o,e,nd⟩:=J2.stack.mem hm;have e':h2.get? T=yz o:=e;rw[t8]at e';cases e';exact nd ts t9
 have hT:∀o,s.heap.get? T=yz o->T∈l:=λo e=>by
  by_cases hm:T∈l;·exact hm
  ·rw[Vdm l e hm]at t6;cases t6
 have nw:Xhl X pa T:=by
  cases q:s.heap.get? T with
  |some o=>exact L T (hT o q) t7 nT|none=>
   refine⟨?_,λp U z=>?_⟩
   ·by_cases hx:T∈X.ex;·exact .inl hx
    ·cases w:X.s₀.heap.get? T with
     |none=>exact .inr rfl|some o=>obtain⟨o',e⟩:=Y.base.there T o w hx;rw[q]at e;cases e
   have:=(Y.pin p U).1;rw[z,q]at this;cases this
 have hH:H2 T=none:=by
  cases q:H2 T with
  |none=>rfl|some u=>
   obtain⟨o',e1⟩:=Xbw (Y.hok T u q);rcases hid.of T (hT o' e1) with z|z|⟨z,_⟩;·exact aB0 z t7
   ·exact aB0 z nT
   rw[z]at q;cases q
 have aa:ExS X pa σ ρ H yw r (.ref a) {s with heap:=h2}:=
  ⟨n,S',B,e,(λz=>nomatch z),H2,ae,a,c,J2,rfl,hn,hc,sr,ab,.inr ⟨_,.inr rfl,oe,vs,T,oT,ts,t1,t4,t5,nw,t7,hH,t8,t9,t10⟩⟩
 show Vf _ _ (do {if (<-field (.ref a) 1) == .none then {unsupported _};setFlight (.ref a) X.env.frame}) _ _ _;refine Va (Vac (s:={s with heap:=h2}) t1 t4 t5 ?_);rw[iN0 (show ¬ ((U8 T==Vad)=yx) from by simp)];have step:Vf (Vj X.prog X.w) X.A (setFlight (.ref a) X.env.frame) (λ_ s2=>ExS X pa σ ρ H yw r (.ref a) s2) (ExS X pa σ ρ H yw r) {s with heap:=h2}:=by rw[hf];unfold setFlight;refine Va (Vac (s:={s with heap:=h2}) t1 t4 t5 ?_);rw[iP0 (show(U8 T != Vad)=yx from by simp)];refine wpAny_setField (s:={s with heap:=h2}) t8 t9 (Uo.mp t10).1 ?_;rw[show((yz X.env.locals).elim Vad λf=>Vb2 f)=Vb2 X.env.locals from rfl,Heap.update_setField_same h2 T oT ts 3 _ t8 t9 t10];exact aa
 first
  |exact Va (Vd step)|exact step
theorem X1y(ap:X.stack=X.env::X.outer)(hf:X.env.frame=yz X.env.locals)(hc:X.calm=yx)(hi:DI X tg iter fi)(hg:DG X tg t)(hb:DSs X body na g)(hs:∀x,Vbh iter X.env x=pure x):
  DS X (.For tg iter body [] pos) yw (λenv S=>(fi env S).bind λsrc S=>Ye src.get t g (src.most S+1) 0 env S):=by
 intro pa s σ H ρ S env I nb;dsimp only at nb ⊢;cases q:fi env S with
 |bad=>rw[q]at nb;cases nb rfl|ex n S1=>
  refine wpAny_For (Vo (hi pa s σ H ρ S env _ I (by rw[q];exact λz=>nomatch z) λx s' z=>?_) (λv s1 h1=>Vo h1 (λak s2 h2=>?_) λ_ _ z=>z) λ_ _ z=>z) hs;·rw[q]at z;obtain⟨m,S2,e,z⟩:=z;cases e;exact .of .refl z rfl
  ·obtain⟨src,S2,_,_,_,_,_,_,e,_⟩:=h2;rw[q]at e;cases e|ok src S1=>
  rw[q]at nb;simp only[Rk0]at nb ⊢;refine wpAny_For (Vo (hi pa s σ H ρ S env (ExS X pa σ ρ H yw (Ye src.get t g (src.most S1+1) 0 env S1)) I (by rw[q];exact λz=>nomatch z) λx s' z=>?_) (λv s1 h1=>Vo h1 (λak s2 h2=>?_) λ_ _ z=>z) λ_ _ z=>z) hs;·rw[q]at z;obtain⟨m,S2,e,z⟩:=z;cases e
  ·obtain⟨ax,S2,it,fp,tn,J,H2,aq,e1,rfl,I2,T,t0,f2,av,an,ai⟩:=h2;rw[q]at e1;cases e1;have ae:∀ {H':Hp},(∀b∈fp,H' b=yy)->∀b∈fp,Xab X pa H' b:=λhn b hb=>⟨hn b hb,(f2 b hb).2⟩;generalize ar:Ye src.get t g (src.most S1+1) 0 env S1=r0;refine codeAny_forLoop_any (λn s'=>∃i ah H' ρ' S' L,S0 X pa ah H' s' ρ' S' L/\tn i s'.heap/\(∀b∈fp,H' b=yy)/\SrcR X.K ρ' H' src J/\Stp X.K ρ ρ' H H'/\Ye src.get t g n i L S'≠.bad/\Ye src.get t g n i L S'=r0)
    ?_ (src.most S1+1) ⟨0,σ,H2,aq,S1,env,I.step I2 an ai,t0,λb hb=>(f2 b hb).1,av,ai,nb,ar⟩
   rintro n s3 ⟨i,σ3,H3,ρ3,S3,env3,I3,t3,fr3,sr3,st3,nb3,eq3⟩;cases n with
   |zero=>cases nb3 rfl|succ n=>
    simp only[Ye]at nb3;cases g1:src.get S3 i with
    |none=>rw[g1]at nb3;cases nb3 rfl|some o=>
     rw[g1]at nb3;cases o with
     |none=>refine thn (T.done X rfl rfl rfl hc i pa s3 σ3 H3 _ I3.inv (ae fr3) t3 (sr3.stop I3 g1)) λr s4 ⟨hr,I4⟩=>?_;subst hr;exact Vf8 ⟨.nx env3,S3,by rw[<-eq3];simp only[Ye,g1],rfl,σ3,H3,ρ3,⟨I4,I3.sr,I3.er⟩,st3,λz=>nomatch z⟩|some d=>
      dsimp only at nb3;obtain⟨go,yl⟩:=sr3.go I3 g1;refine thn (T.item X rfl rfl rfl hc i pa s3 σ3 H3 _ I3.inv (ae fr3) t3 go) λr s4 ⟨u,hr,h4⟩=>?_;subst hr;refine thn h4 λ_ s5 ⟨x,H5,I5,r5,y5,t5,fr5⟩=>?_;obtain⟨aj,ac,au⟩:=yl x H5 y5;have ao:=I5.pinned (ae fr5) (T.obj _ _ t5);cases e6:Xn t d env3 with
      |none=>rw[e6]at nb3;cases nb3 rfl|some af=>
       rw[e6]at nb3;dsimp only at nb3;refine hg (pa++Xbd fp s5.heap) s5 σ3 H5 ρ3 S3 env3 d x u af _ _ ⟨ao,aj,I3.er.mono ac⟩ e6 au r5 λs6 ay I6=>?_;have B:=eq3;simp only[Ye,g1,e6]at B;cases e7:g af S3 with
       |bad=>rw[e7]at nb3;cases nb3 rfl|ex m S7=>
        rw[e7]at B;refine Vo (hb _ _ _ _ _ _ _ I6 (by rw[e7];exact λz=>nomatch z)) (λfl s7 z7=>?_) λx7 s7 z7=>?_;·obtain⟨_,_,e,_⟩:=z7;rw[e7]at e;cases e
        ·obtain⟨m',S8,Y,e,_,z⟩:=z7;rw[e7]at e;cases e;exact X1x ap hf (st3.trans ac) z B.symm|ok x7 S7=>
        rw[e7]at nb3 B;refine hb.ok I6 e7 λfl s7 z7=>?_;have again:∀ {Y:L2.St} {H7:Hp} {aa:LR} {ab:En},S0 X (pa++Xbd fp s5.heap) Y H7 s7 aa S7 ab->Stp X.K ρ3 aa H5 H7->Ye src.get t g n (i+1) ab S7≠.bad->Ye src.get t g n (i+1) ab S7=r0 ->
          ∃m,m<n+1/\∃i ah H' ρ' S' L,S0 X pa ah H' s7 ρ' S' L/\tn i s7.heap/\(∀b∈fp,H' b=yy)/\SrcR X.K ρ' H' src J/\Stp X.K ρ ρ' H H'/\Ye src.get t g m i L S'≠.bad/\Ye src.get t g m i L S'=r0:=
         λ{Y H7 aa ab} I7 U nb7 eq7=>by refine⟨n,Vb9 _,i+1,Y,H7,aa,S7,ab,I7.rep I7.inv.unpinned,T.keep _ _ _ t5 λb hb o e=>(I7.inv.pin (b,o) (U1 _ (U1 _ (Xb7 hb e)))).1,λb hb=>?_,sr3.mono (ac.trans U),st3.trans (ac.trans U),nb7,eq7⟩;obtain⟨o,e,_⟩:=T.obj _ _ t5 b hb;exact(I7.inv.pin (b,o) (U1 _ (U1 _ (Xb7 hb e)))).2.1
        cases x7 with
        |nx e=>obtain⟨rfl,Y,H7,aa,I7,U,_⟩:=z7;exact again I7 U nb3 B|cnt e=>obtain⟨rfl,Y,H7,aa,I7,U⟩:=z7;exact again I7 U nb3 B|brk e=>obtain⟨rfl,Y,H7,aa,I7,U⟩:=z7;exact⟨.nx e,S7,B.symm,rfl,Y,H7,aa,I7.rep I7.inv.unpinned,st3.trans (ac.trans U),λz=>nomatch z⟩|rt d'=>obtain⟨u',v',Y,H7,aa,rfl,I7,aw,am,al,U⟩:=z7;exact⟨.rt d',S7,B.symm,u',v',Y,H7,aa,rfl,I7.unpinned,aw,am,al,st3.trans (ac.trans U)⟩
end
theorem Xdu(env:Vax)(P:Str->Addr->Prop):∀(names:List (Str×Vd2)) (U:List (Str×Addr)),(∀x∈names,x.2=.free->∃c,env.cells.lookup x.1=yz c/\P x.1 c)->(∀x c,U.lookup x=yz c->P x c) ->
  ∃L,(forIn names U λ(x:Str×Vd2) (r:List (Str×Addr))=>(match x with
   | (name,kind)=>if (kind==Vfq)=yx then do
     let a <- cellOf env name
     pure (Vdx ((name,a)::r))
    else pure (Vdx r):Sem (ForInStep (List (Str×Addr)))))=(pure L:Sem (List (Str×Addr)))/\(∀x c,L.lookup x=yz c->P x c)/\(∀x c,U.lookup x=yz c->∃c',L.lookup x=yz c')/\∀x∈names,x.2=.free->∃c,L.lookup x.1=yz c
 |[],U,_,hc=>⟨U,rfl,hc,λx c h=>⟨c,h⟩,λ_ h=>nomatch h⟩| (n,k)::r,U,hf,hc=>by
  by_cases hk:k=.free
  ·subst hk
   obtain⟨c,aa,ac⟩:=hf (n,.free) U9 rfl;obtain⟨L,e,h1,h2,h3⟩:=Xdu env P r ((n,c)::U) (λx B=>hf x (Ua _ B)) (λx d h=>by
    rw[U7]at h;by_cases B:x==n;·rw[B]at h;cases h;rw[eq_of_beq B];exact ac
    ·have Y:(x==n)=false:=by simpa using B
     rw[Y]at h;exact hc x d h)
   refine⟨L,?_,h1,λx d h=>?_,λx B J=>?_⟩;·rw[Vf9];simp only[beq_self_eq_true,if_true,cellOf,aa,pure_bind];exact e
   ·by_cases B:x==n;·exact h2 x c (by rw[U7,B])
    ·have Y:(x==n)=false:=by simpa using B
     exact h2 x d (by rw[U7,Y];exact h)
   rcases Vt.mp B with rfl|B;·exact h2 n c (by rw[U7,beq_self_eq_true])
   ·exact h3 x B J
  obtain⟨L,e,h1,h2,h3⟩:=Xdu env P r U (λx B=>hf x (Ua _ B)) hc;refine⟨L,?_,h1,h2,λx B J=>?_⟩
  ·rw[Vf9];have ab:(k==Vfq)=false:=by simpa using hk
   simp only[ab,Vv,if_false,pure_bind];exact e
  rcases Vt.mp B with rfl|B;·exact aB0 J hk
  ·exact h3 x B J
theorem Xgr(U:∀x∈scope.names,x.2=.free->∃c,env.cells.lookup x.1=yz c):
  ∃B,closureFor scope env=pure B/\(∀x c,B.lookup x=yz c->env.cells.lookup x=yz c/\(x,.free)∈scope.names)/\∀x∈scope.names,x.2=.free->∃c,B.lookup x.1=yz c:=by
 obtain⟨B,e,h1,_,Y⟩:=Xdu env (λx c=>env.cells.lookup x=yz c/\(x,.free)∈scope.names) scope.names [] (λx J L=>let ⟨c,hc⟩:=U x J L;⟨c,hc,hc,L▸J⟩) (λx c h=>by simp at h);refine⟨B,?_,h1,Y⟩;unfold closureFor;simp only[bind_pure];exact e
noncomputable abbrev Xo5(ifs:LX)(env:Vax):Sem Bool:=forIn ifs yx λc r=>if r=yx then do let ok <- isTrue c env (eval c env);pure (Vdx ok) else pure (Vdx r)
noncomputable def cE(k:Bool)(elt:Expr)(gens:List Vbg)(scope:Ue)(pos:Pos):Expr:=match k with
 |false=>.ListComp elt gens scope pos|true=>.SetComp elt gens scope pos
noncomputable def aN(k:Bool):String:=match k with
 |false => "list.append"|true => "set.add"
def Xk4(k:Bool)(M:Model)(A:Uq)(elt:Expr)(gens:List Vbg)(scope:Ue)(pos:Pos)(d:Nat)(acc:Vb)(env:Vax)(P:Vc->Prop)(s:Vc):Prop:=
 match gens[d+1]? with
 |none=>Vf M A (eval elt env) (λx J=>Vf M A (call (.builtin (aN k)) [acc,x]) (λ_ U=>P U) (λ_ _=>False) J) (λ_ _=>False) s|some B=>B.is_async=0/\(∀x,Vbh B.iter env x=pure x)/\Vf M A (eval B.iter env) (λx J=>Vf M A (Vd8 x) (λL U=>Vbz M A (.compStart (cE k elt gens scope pos) (d+1) L acc env) (λr Y=>match r with|.ok _=>P Y|.error _=>False) U) (λ_ _=>False) J) (λ_ _=>False) s
section
variable{prog:Vy}{w:V9}{A:Uq}{s:Vc}{R:Result->Vc->Prop}
theorem Xq6(hg:gens[d]?=yz ⟨target,iter,ifs,0⟩)(hm:A.mark yy=A)(I:Nat->Vc->Prop)
  (turn:∀n s,I n s->Vf (Vj prog w) A (pyNext it) (λr s₁=>match r with
   |none=>R (.ok .next) s₁
   |some v=>Vf (Vj prog w) A (Vds target it v) (λ_ aa=>Vf (Vj prog w) A (assign target env v) (λ_ ab=>Vf (Vj prog w) A (Xo5 ifs env) (λok Y=>if ok=yx then Xk4 k (Vj prog w) A elt gens scope pos d acc env (λU=>∃m,m<n/\I m U) Y else ∃m,m<n/\I m Y) (λ_ _=>False) ab) (λ_ _=>False) aa) (λ_ _=>False) s₁) (λ_ _=>False) s)
  (n:Nat) (h:I n s):Vbz (Vj prog w) A (.compLoop (cE k elt gens scope pos) d it acc env) R s:=by
 cases k
 all_goals
  refine codeAny_loop rfl I (λn s hI=>?_) n h;show Vf _ A ((compTurn _ d it acc env).onRaise (λx=>do noteFrame x env;theTreesLotGoes x)) _ _ s;refine wpAny_noted (Vo (E:=λ_ _=>False) ?_ (λ_ _ z=>z) λ_ _ z=>z.elim);unfold compTurn;simp only[cE,hg,show((0:Nat) != 0)=yw from rfl,Vv,if_false];refine Va (Vc6 (Va (Vo (turn n s hI) (λr s₁ ae=>?_) λ_ _ z=>z)));cases r with
  |none=>exact Vd ae|some v=>
   refine Va (Vo ae (λ_ aa ah=>Va (Vo ah (λ_ ab ai=>Va (Vo ai (λok Y B=>?_) λ_ _ z=>z)) λ_ _ z=>z)) λ_ _ z=>z);cases ok with
   |false=>rw[iN0 Ui]at B;simp only[Vv,if_false];exact Vd ⟨rfl,B⟩|true=>
    rw[iP0 rfl]at B;simp only[if_true];unfold Xk4 at B;cases hq:gens[d+1]? with
    |none=>
     rw[hq]at B;simp only[bind_assoc,pure_bind]
     first
      |exact Va (Vo B (λx ac L=>Va (Vo L (λ_ U J=>Vd ⟨rfl,J⟩) λ_ _ z=>z)) λ_ _ z=>z)
      |exact Va (Vo B (λx ac L=>Va (Vc6 (Va (Vo L (λ_ U J=>Vd ⟨rfl,J⟩) λ_ _ z=>z)))) λ_ _ z=>z)
    |some g'=>
     rw[hq]at B;obtain⟨ha,hf,B⟩:=B;simp only[ha,show((0:Nat) != 0)=yw from rfl,Vv,if_false];refine Va (Vo B (λx ac L=>Va (Vc6 (Va (wpAny_of_eq (hf x) (Va (Uw (Vo L (λak U J=>?_) λ_ _ z=>z))))))) λ_ _ z=>z);refine Va (wpAny_runOwn ?_);rw[hm];refine Vdj J λr aj af=>?_;cases r with
     |ok f=>exact Vd ⟨rfl,af⟩|error e=>exact af.elim
theorem Xo6(hg:gens[d]?=yz ⟨target,iter,ifs,0⟩)
  (h0:Vbz (Vj prog w) A (.compLoop (cE k elt gens scope pos) d it acc env) R s)
  (h:Vf (Vj prog w) A (Vd8 it) (λit' s'=>Vbz (Vj prog w) A (.compLoop (cE k elt gens scope pos) d it' acc env) R s') (λ_ _=>False) s):
  Vbz (Vj prog w) A (.compStart (cE k elt gens scope pos) d it acc env) R s:=by
 cases k
 all_goals
  refine codeAny_of_tree ?_;show Vf _ _ ((compStart _ d it acc env).onRaise (λx=>do noteFrame x env;standAt theWindowsPlace)) _ _ s;refine wpAny_notedAt ?_;unfold compStart;simp only[cE,clausesOf,hg,Option.elim,show((0:Nat) != 0)=yw from rfl,Vv,if_false];refine Va (wpAny_askSetting (wpAny_ite ?_));split
  ·first
    |exact Va (Vd (Vd (And.intro rfl h0)))|exact Vd (And.intro rfl h0)
  ·refine Va (Vde ?_);refine Va (Vc6 (Va (Vo h (λit' s' h'=>Vd (And.intro rfl h')) λ_ _ x=>x.elim)))
end
section
variable{X:Cx}{pa:LA}{σ:L2.St}{H:Hp}{s:Vc}{ρ:LR}{S S':Sto}{env:En}{Q:VP}{E:VP}
def DTs(X:Cx)(ifs:LX)(f:En->Sto->R Bool):Prop:=
 ∀(pa:LA) (s:Vc) (σ:L2.St) (H:Hp) (ρ:LR) (S:Sto) (env:En) (b:Bool) (S':Sto) (Q:Bool->Vc->Prop) (E:VP),S0 X pa σ H s ρ S env->f env S=.ok b S' ->
  (∀s' H' ρ',S0 X pa σ H' s' ρ' S' env->Stp X.K ρ ρ' H H'->Q b s')->Vf (Vj X.prog X.w) X.A (Xo5 ifs X.env) Q E s
theorem Xfm{M:Model}{A:Uq}{env:Vax}{s:Vc}{Q:Bool->Vc->Prop}{E:VP}(h:Q yw s):∀ifs:LX,
  Vf M A (forIn ifs yw λc r=>if r=yx then do let ok <- isTrue c env (eval c env);pure (Vdx ok) else pure (Vdx r)) Q E s
 |[]=>Vd h|c::r=>by rw[Vf9];simp only[Vv,if_false];exact Va (Vd (Xfm h r))
theorem Xxt:DTs X [] (λ_ S=>.ok yx S):=by intro pa s σ H ρ S env b S' Q E I h B;cases h;exact Vd (B s H ρ I .refl)
theorem Xtl{U:LX}{fc:En->Sto->R D}{g:En->Sto->R Bool}(hc:DT X c (λenv S=>tst (fc env S)))(hr:DTs X U g):
  DTs X (c::U) (λenv S=>(fc env S).bind λx S=>match Xh S x with|some yx=>g env S|some yw=>.ok yw S|none=>.bad):=by
 intro pa s σ H ρ S env b S' Q E I h hQ;dsimp only at h;cases q:fc env S with
 |bad=>rw[q]at h;cases h|ex n S1=>rw[q]at h;cases h|ok x S1=>
  rw[q]at h;simp only[Rk0]at h;unfold Xo5;rw[Vf9];simp only[if_true];cases t:Xh S1 x with
  |none=>rw[t]at h;cases h|some r=>
   rw[t]at h;refine Va (Va (hc.ok I (by simp only[q];exact Xbg t) λs2 H2 B I2 J=>Vd ?_));cases r with
   |true=>exact hr pa s2 σ H2 B S1 env b S' Q E I2 h λs3 H3 Y I3 L=>hQ s3 H3 Y I3 (J.trans L)|false=>cases h;exact Xfm (hQ s2 H2 B I2 J) U
theorem Mon.trans{K:Ve}{ρ' ρ'':LR}{H' H'':Hp}(x:Mon K ρ ρ' H H')(y:Mon K ρ' ρ'' H' H''):Mon K ρ ρ'' H H'':=
 ⟨λn a h=>y.pre n a (x.pre n a h),λa xs h=>y.tup a xs (x.tup a xs h),λa o u h=>y.frz a o u (x.frz a o u h)⟩
theorem Xo7:∀(B:LN) (ds:LD) (env:En),i ∉ B->((B.zip ds).foldl (λe p=>e.set p.1 (yz p.2)) env)[i]?=env[i]?:=by
 intro B;induction B with
 |nil=>intro ds env _;simp|cons j J ih=>
  intro ds env hn;cases ds with
  |nil=>simp|cons d ds=>simp only[Ve2,Vbx];rw[ih ds _ (λz=>hn (Ua _ z)),Vab (λz=>hn (by simp[z]))]
theorem Xmi{t:Tg}{d:D}{env B:En}(h:Xn t d env=yz B){i:Nat}(hi:i ∉ slots t):B[i]?=env[i]?:=by
 cases t with
 |var j=>simp only[Xn,Vp]at h;subst h;have:j≠i:=λz=>hi (by simp[slots,z]);rw[Vab this]|tup J=>
  cases d with
  |tup ds=>
   simp only[Xn]at h;split at h;·cases h;exact Xo7 J ds env hi
   ·cases h|_=>cases h
def Xhn:Type:=LR->Hp->LD->Prop
def Xjx(K:Ve)(Da:Addr)(AR:Xhn):Prop:=∀(ρ ρ':LR) (H H':Hp) (B:LD),AR ρ H B->Da ∉ ρ->Stp K ρ ρ' H H'->Da ∉ ρ'/\AR ρ' H' B
noncomputable def LstA(K:Ve)(Da:Addr):Xhn:=fun ρ H B=>∃vs,H Da=yz (.lst vs)/\RDs K ρ H B vs
def Xcz(k:Bool)(AR:Xhn)(Y:Cx)(Da:Addr)(elt:Expr)(gens:List Vbg)(scope:Ue)(cpos:Pos)(d:Nat)(body:En->LD->Sto->R LD):Prop:=
 ∀(pa:LA) (s:Vc) (σ:L2.St) (H:Hp) (ρ:LR) (S S':Sto) (env:En) (J B:LD) (H0:Hp) (ρ0:LR) (P:Vc->Prop),S0 Y pa σ H s ρ S env->Da ∉ ρ->AR ρ H J->H0 Da=yy->Stp Y.K ρ0 ρ H0 H ->
  body env J S=.ok B S'->(∀s' L H' ρ',S0 Y pa L H' s' ρ' S' env->Da ∉ ρ'->AR ρ' H' B->Stp Y.K ρ0 ρ' H0 H'->Mon Y.K ρ ρ' H H'->P s') ->
  Xk4 k (Vj Y.prog Y.w) Y.A elt gens scope cpos d (.ref Da) Y.env P s
theorem Stp.out{K:Ve}{ρ':LR}{H':Hp}{Da:Addr}{o:HO}(st:Stp K ρ ρ' H H')(B:H Da=yz o)(hn:Da ∉ ρ):Da ∉ ρ'/\H' Da=yz o:=
 ⟨λJ=>(st.new Da J).elim hn (λz=>by rw[B]at z;cases z),st.keep Da o B hn⟩
theorem LstA.ok{K:Ve}{Da:Addr}:Xjx K Da (LstA K Da):=fun ρ ρ' H H' acc ⟨vs,h,r⟩ hn st=>⟨(st.out h hn).1,vs,(st.out h hn).2,r.mono st⟩
theorem Xq7{k:Bool}{AR:Xhn}{Y:Cx}{Da it:Addr}{elt tg iter:Expr}{gens:List Vbg}{ifs:LX}{scope:Ue}{cpos:Pos}{d:Nat}{t:Tg}{src:Src}{J:L2.It}{fp:LR}{tn:Nat->Heap->Prop}{tf:En->Sto->R Bool}{body:En->LD->Sto->R (LD)}
  {pa:LA} {σ:L2.St} {H H0:Hp} {s:Vc} {ρ ρ0:LR} {S Sf:Sto} {env:En} {acc ab:LD} {P:Vc->Prop} (hA:Xjx Y.K Da AR) (hc:Y.calm=yx) (hg:gens[d]?=yz ⟨tg,iter,ifs,0⟩)
  (T:Turn Y.prog Y.w Y.K tg J fp it tn) (hG:DG Y tg t) (hT:DTs Y ifs tf) (hB:Xcz k AR Y Da elt gens scope cpos d body) (h0:H0 Da=yy)
  (I:S0 Y pa σ H s ρ S env) (t0:tn 0 s.heap) (f0:∀b∈fp,Xab Y pa H b) (sr:SrcR Y.K ρ H src J) (hn:Da ∉ ρ) (ha:AR ρ H acc) (av:Stp Y.K ρ0 ρ H0 H)
  (hr:Yi src.get t (Yu tf body) (src.most S+1) 0 env acc S=.ok ab Sf)
  (hP:∀s' af H' ρ' B,S0 Y pa af H' s' ρ' Sf B->(∀i,i ∉ slots t->B[i]?=env[i]?)->Da ∉ ρ'->AR ρ' H' ab->Stp Y.K ρ0 ρ' H0 H'->Mon Y.K ρ ρ' H H'->P s'):
  Vbz (Vj Y.prog Y.w) Y.A (.compStart (cE k elt gens scope cpos) d (.ref it) (.ref Da) Y.env) (λr s'=>match r with|.ok _=>P s'|.error _=>False) s:=by
 have ak:Vbz (Vj Y.prog Y.w) Y.A (.compLoop (cE k elt gens scope cpos) d (.ref it) (.ref Da) Y.env) (λr s'=>match r with|.ok _=>P s'|.error _=>False) s:=by
  have ae:∀ {H':Hp},(∀b∈fp,H' b=yy)->∀b∈fp,Xab Y pa H' b:=λhn b hb=>⟨hn b hb,(f0 b hb).2⟩
  refine Xq6 hg rfl (λn s'=>∃i af H' ρ' S' B U,S0 Y pa af H' s' ρ' S' B/\tn i s'.heap/\(∀b∈fp,H' b=yy)/\SrcR Y.K ρ' H' src J/\Mon Y.K ρ ρ' H H'/\Stp Y.K ρ0 ρ' H0 H'/\Da ∉ ρ'/\AR ρ' H' U /\
   (∀i,i ∉ slots t->B[i]?=env[i]?)/\Yi src.get t (Yu tf body) n i B U S'=.ok ab Sf) ?_ (src.most S+1) ⟨0,σ,H,ρ,S,env,acc,I,t0,λb hb=>(f0 b hb).1,sr,Stp.refl.toMon,av,hn,ha,λ_ _=>rfl,hr⟩
  rintro n s3 ⟨i,σ3,H3,ρ3,S3,env3,acc3,I3,t3,fr3,sr3,mo3,st3,hn3,ha3,hs3,eq3⟩;cases n with
  |zero=>cases eq3|succ n=>
   simp only[Yi]at eq3;cases g1:src.get S3 i with
   |none=>rw[g1]at eq3;cases eq3|some o=>
    rw[g1]at eq3;cases o with
    |none=>cases eq3;refine thn (T.done Y rfl rfl rfl hc i pa s3 σ3 H3 _ I3.inv (ae fr3) t3 (sr3.stop I3 g1)) λr s4 ⟨hr,I4⟩=>?_;subst hr;exact hP s4 σ3 H3 ρ3 env3 ⟨I4,I3.sr,I3.er⟩ hs3 hn3 ha3 st3 mo3|some dd=>
     dsimp only at eq3;obtain⟨go,yl⟩:=sr3.go I3 g1;refine thn (T.item Y rfl rfl rfl hc i pa s3 σ3 H3 _ I3.inv (ae fr3) t3 go) λr s4 ⟨u,hr,h4⟩=>?_;subst hr;refine thn h4 λ_ s5 ⟨x,H5,I5,r5,y5,t5,fr5⟩=>?_;obtain⟨au,ac,az⟩:=yl x H5 y5;have ax:=I5.pinned (ae fr5) (T.obj _ _ t5);cases e6:Xn t dd env3 with
     |none=>rw[e6]at eq3;cases eq3|some L=>
      rw[e6]at eq3;dsimp only at eq3;refine hG (pa++Xbd fp s5.heap) s5 σ3 H5 ρ3 S3 env3 dd x u L _ _ ⟨ax,au,I3.er.mono ac⟩ e6 az r5 λs6 am I6=>?_;obtain⟨_,ay⟩:=hA _ _ _ _ _ ha3 hn3 ac;cases e7:Yu tf body L acc3 S3 with
      |bad=>rw[e7]at eq3;cases eq3|ex m S7=>rw[e7]at eq3;cases eq3|ok ai S7=>
       rw[e7]at eq3;dsimp only at eq3;have aw:∀i,i ∉ slots t->L[i]?=env[i]?:=λi hi=>(Xmi e6 hi).trans (hs3 i hi);have again:∀ {s7:Vc} {al:L2.St} {H7:Hp} {aa:LR},S0 Y (pa++Xbd fp s5.heap) al H7 s7 aa S7 L->SrcR Y.K aa H7 src J->Mon Y.K ρ aa H H7->Stp Y.K ρ0 aa H0 H7->Da ∉ aa->AR aa H7 ai ->
         ∃m,m<n+1/\∃i af H' ρ' S' B U,S0 Y pa af H' s7 ρ' S' B/\tn i s7.heap/\(∀b∈fp,H' b=yy)/\SrcR Y.K ρ' H' src J/\Mon Y.K ρ ρ' H H'/\Stp Y.K ρ0 ρ' H0 H'/\Da ∉ ρ'/\AR ρ' H' U /\
          (∀i,i ∉ slots t->B[i]?=env[i]?)/\Yi src.get t (Yu tf body) m i B U S'=.ok ab Sf:=λ{s7 al H7 aa} I7 sr7 mo7 st7 hn7 ha7=>by
        refine⟨n,Vb9 _,i+1,al,H7,aa,S7,L,ai,I7.rep I7.inv.unpinned,T.keep _ _ _ t5 λb hb o e=>(I7.inv.pin (b,o) (U1 _ (U1 _ (Xb7 hb e)))).1,λb hb=>?_,sr7,mo7,st7,hn7,ha7,aw,eq3⟩;obtain⟨o,e,_⟩:=T.obj _ _ t5 b hb;exact(I7.inv.pin (b,o) (U1 _ (U1 _ (Xb7 hb e)))).2.1
       unfold Yu at e7;cases e8:tf L S3 with
       |bad=>rw[e8]at e7;cases e7|ex m S8=>rw[e8]at e7;cases e7|ok b8 S8=>
        rw[e8]at e7;simp only[Rk0]at e7;refine hT (pa++Xbd fp s5.heap) s6 am H5 ρ3 S3 L b8 S8 _ _ I6 e8 λs8 H8 ar I8 ah=>?_;obtain⟨an,ao⟩:=hA _ _ _ _ _ ay hn3 ah;have aj:=st3.trans (ac.trans ah);have aq:SrcR Y.K ar H8 src J:=sr3.mono (ac.trans ah);cases b8 with
        |false=>rw[iN0 Ui]at e7 ⊢;cases e7;exact again I8 aq (mo3.trans (ac.trans ah).toMon) aj an ao|true=>rw[iP0 rfl]at e7 ⊢;exact hB (pa++Xbd fp s5.heap) s8 am H8 ar S8 S7 L acc3 ai H0 ρ0 _ I8 an ao h0 aj e7 λs9 a3 H9 a4 I9 a1 a0 a2 ap=>again I9 (aq.mono' ap) ((mo3.trans (ac.trans ah).toMon).trans ap) a2 a1 a0
 exact Xo6 hg ak (T.self Y.A 0 s _ _ t0 ak)
theorem Xjb(hg:gens[d+1]?=yy)(he:DE Y elt fe):
  Xcz yw (LstA Y.K Da) Y Da elt gens scope cpos d (λenv acc S=>(fe env S).bind λy S=>if (la acc)<big then .ok (acc++[y]) S else .bad):=by
 intro pa s σ H ρ S S' env acc ac H0 ρ0 P I hn ⟨vs,hD,ra⟩ h0 st0 hb hP;unfold Xk4;rw[hg];dsimp only at hb ⊢;cases q:fe env S with
 |bad=>rw[q]at hb;cases hb|ex n S1=>rw[q]at hb;cases hb|ok y S1=>
  rw[q]at hb;simp only[Rk0]at hb;split at hb
  ·rename_i hz;cases hb;refine he.ok I q λu s1 v H1 U I1 rv rd B=>?_;obtain⟨aa,L⟩:=B.out hD hn;have ab:(la vs)<Vu:=by rw[<-ra.length];exact V0 hz Xeb
   refine mtd (X:=Y) (Q':=λz H'=>z=.non/\H'=upd H1 Da (.lst (vs++[v]))) Xi2 I1.inv (show RelV (.ref Da) (.ref Da) from rfl) (.cons rv .nil) ⟨Da,vs,v,rfl,rfl,L,ab,rfl,rfl⟩ λw s2 z H2 J rz ⟨e1,e2⟩=>?_;subst e1 e2;have mo:Mon Y.K U U H1 (upd H1 Da (.lst (vs++[v]))):=Mon.own L;refine hP s2 σ _ U ⟨J,I1.sr.own L aa,I1.er.mono' mo⟩ aa ⟨vs++[v],Xm,(RDs.mono' mo _ _ (ra.mono B)).append (.cons (RD.mono' mo _ _ rd) .nil)⟩ ((st0.trans B).own h0 L) ⟨λn a h=>B.pre n a h,λa xs h=>mo.tup a xs (B.tup a xs h),λa o u h=>mo.frz a o u (B.frz a o u h)⟩
  cases hb
theorem Xq8{k:Bool}{AR:Xhn}(hA:Xjx Y.K Da AR)(hc:Y.calm=yx)
  (hg:gens[d+1]?=yz ⟨tg2,iter2,ifs2,0⟩) (hi:DI Y tg2 iter2 fi) (hs:∀x,Vbh iter2 Y.env x=pure x) (hG:DG Y tg2 t2) (hT:DTs Y ifs2 tf) (hB:Xcz k AR Y Da elt gens scope cpos (d+1) body):
  Xcz k AR Y Da elt gens scope cpos d (λenv acc S=>if Xqt t2 env then (fi env S).bind λsrc S=>Yi src.get t2 (Yu tf body) (src.most S+1) 0 env acc S else .bad):=by
 intro pa s σ H ρ S S' env acc ap H0 ρ0 P I hn ha h0 aa B hP;unfold Xk4;rw[hg];dsimp only at B ⊢;split at B
 ·rename_i hno;refine⟨rfl,hs,?_⟩;cases q:fi env S with
  |bad=>rw[q]at B;cases B|ex n S1=>rw[q]at B;cases B|ok src S1=>
   rw[q]at B;simp only[Rk0]at B;refine Vo (hi pa s σ H ρ S env (λ_ _=>False) I (by rw[q];exact λz=>nomatch z) λx s' z=>?_) (λv s1 h1=>Vo h1 (λaq s2 h2=>?_) λ_ _ z=>z) λ_ _ z=>z;·rw[q]at z;obtain⟨m,S2,e,z⟩:=z;cases e
   ·obtain⟨an,S2,it,fp,tn,J,H2,ar,e1,rfl,I2,T,t0,f2,al,ab,L⟩:=h2;rw[q]at e1;cases e1;obtain⟨ah,ai⟩:=hA _ _ _ _ _ ha hn L;refine Xq7 (ρ0:=ρ0) (H0:=H0) hA hc hg T hG hT hB h0 (I.step I2 ab L) t0 f2 al ah ai (aa.trans L) B λs' am H' ρ' ao U ak ac ae aj af=>?_;refine hP s' am H' ρ' ⟨U.inv,U.sr,⟨?_,λi d e=>?_⟩⟩ ac ae aj (L.toMon.trans af);·have h1:=I.er.len;have h2:=I.inv.len;have h3:=U.inv.len;omega
    ·by_cases hi:i∈slots t2;·have z:=Uf.mp hno i hi;rw[e]at z;cases z
     ·exact U.er.val i d ((ak i hi).trans e)
 ·cases B
end
noncomputable def hid(own:LS)(y:Str):Str:=if own.contains y then U5 "0" ++ y else y
noncomputable def Xak(N own:LS):LS:=N.map (hid own)++own
structure ScOk(outer sc:Ue)(N own:LS):Prop where
 kind:sc.kind=.function
 okind:outer.kind=.function
 nd:(Xak N own).Nodup
 cel:∀y∈sc.names,y.2=.cell->y.1∈own
 apart:∀y∈sc.names,y.2=.free->y.1 ∉ own
 free:∀y∈sc.names,y.2=.free->outer.names.lookup y.1=yz .cell\/outer.names.lookup y.1=yz .free
 loc:∀y,sc.names.lookup y=yz .local->y∈own
 names:∀x∈sc.names,x.2=.local->sc.names.lookup x.1=yz .local
 hidn:∀y∈N,own.contains y=yx->sc.names.lookup (U5 "0" ++ y)=yy
section
variable{X:Cx}{pa:LA}{σ:L2.St}{H:Hp}{s:Vc}{ρ:LR}{S:Sto}{env:En}{Q:VP}{E:VP}
noncomputable def blk(X:Cx)(pa:LA)(s:Vc)(H:Hp)(sc:Ue)(B:List (Str×Addr))(C:Addr)(own:LS)(fp:LR):Cx:=
 { X with N:=Xak X.N own,s₀:=s,H₀:=H,env:=compEnvC sc B C X.env,outer:=X.stack,stack:=X.stack,ex:=fp,fn:=λx=>own.contains x,pn:=X.pn++pa}
theorem Xb9{names:List (Str×Vd2)}(h:names.lookup x=yz k):(x,k)∈names:=Vb0 h
theorem Xmj{B:List (Str×Addr)}(h:B.lookup x=yz c):(x,c)∈B:=Vb0 h
theorem Xbn(sc:Ue)(env:Vax)(x:Str):(relabel sc env).names.lookup x=(sc.names.lookup x).map λk=>if (k == .free&&env.scope.kind == .function&&env.kindOf x==yz .cell)=yx then .cell else k:=by
 unfold relabel;dsimp only;induction sc.names with
 |nil=>rfl|cons y r ih=>
  obtain⟨n,k⟩:=y;show List.lookup x ((if (k==Vfq&&env.scope.kind == .function&&env.kindOf n==yz .cell)=yx then (n,NameKind.cell) else (n,k))::_)=_;by_cases L:x==n
  ·have e:=eq_of_beq L;subst e;by_cases J:(k==Vfq&&env.scope.kind == .function&&env.kindOf x==yz .cell)=yx;·rw[iP0 J,U7,beq_self_eq_true,U7,beq_self_eq_true];exact congrArg yz (iP0 J).symm
   ·rw[iN0 J,U7,beq_self_eq_true,U7,beq_self_eq_true];exact congrArg yz (iN0 J).symm
  have B:(x==n)=false:=by simpa using L
  by_cases J:(k==Vfq&&env.scope.kind == .function&&env.kindOf n==yz .cell)=yx;·rw[iP0 J,U7,B,U7,B];exact ih
  ·rw[iN0 J,U7,B,U7,B];exact ih
theorem X1z{own:LS}{cl:List (Str×Addr)}{fp:LR}{m:Str->OV}(so:ScOk X.env.scope sc X.N own)(I:Inv X pa σ H s)(hf:∀b∈fp,Xab X pa H b)
  (ab:∀x c,cl.lookup x=yz c->(x ∉ own/\X.env.cells.lookup x=yz c)\/(x∈own/\C<c/\s4.heap.IsCell c yy)) (al:∀x y c,cl.lookup x=yz c->cl.lookup y=yz c->x=y) (ae:∀x,sc.names.lookup x=yz .cell\/sc.names.lookup x=yz .free->∃c,cl.lookup x=yz c)
  (ac:Da=s.heap.objs.size) (hC:C=s.heap.objs.size+1) (au:s4.os=s.os) (af:s4.gens=s.gens) (keep:∀b o,s.heap.get? b=yz o->s4.heap.get? b=yz o)
  (an:s4.heap.Ns C m) (aj:ObjOk X.prog X.w (upd H Da u) s4.heap Da u) (ai:∀b∈fp,b<s.heap.objs.size):
  Inv (blk X pa s H sc cl C own fp) [] (σ++Vi (la own) yy) (upd H Da u) s4:=by
 have hD:H Da=none:=by rw[ac];exact I.hok.fresh (Vl _)
 have ao:H C=none:=by rw[hC];exact I.hok.fresh (Vd4 _)
 have am:C≠Da:=by rw[hC,ac];exact Vcw (Vb9 _)
 have J:∀b,b<s.heap.objs.size->b≠C/\b≠Da:=λb U=>⟨by rw[hC];exact Vz (Vau U),by rw[ac];exact Vz U⟩;have aa:∀x c,X.env.cells.lookup x=yz c->c<s.heap.objs.size:=λx c e=>by obtain⟨v,q⟩:=I.cell x c e;exact q.lt
 refine⟨⟨I.ok.mod,so.kind,I.ok.glob,I.ok.blt,?_,?_,?_,?_,I.ok.hd,I.ok.frames,.inl rfl,?_,I.bs,?_,?_,?_,I.stack,I.stkFree⟩,au,?_,?_,?_,?_,?_,?_,?_,?_,?_⟩;·show s.heap.objs.size<=C;rw[hC];exact Vd4 _
 ·exact al
 ·intro x hx;have Y:(relabel sc X.env).names.lookup x=yz .cell\/(relabel sc X.env).names.lookup x=yz .free:=hx;rw[Xbn]at Y;cases e:sc.names.lookup x with
  |none=>rw[e]at Y;simp at Y|some k=>
   rw[e]at Y;have hk:k=.cell\/k=.free:=by
    rcases Y with h|h
    ·simp only[V4,Vp]at h;split at h;·rename_i hc;simp only[bA0,beq_iff_eq]at hc;exact .inr hc.1.1
     ·exact .inl h
    simp only[V4,Vp]at h;split at h;·cases h
    ·exact .inr h
   exact ae x (hk.elim (λz=>.inl (z▸e)) λz=>.inr (z▸e))
 ·intro x c h e;have hx:x∈own:=by simpa using (show own.contains x=yx from h)
  rcases ab x c e with⟨z,_⟩|⟨_,z,_⟩;·exact aB0 hx z
  ·show s.heap.objs.size<=c;rw[hC]at z;exact Vcv (Vd7 z)
 ·intro b U;refine⟨(J b (ai b U)).1,λx c h=>?_⟩;rcases ab x c h with⟨_,z⟩|⟨_,z,_⟩;·exact(hf b U).2.2.2.2.1 x c z
  ·rw[hC]at z;exact Vcw (Vcy (ai b U) (Vd7 z))
 ·exact Ul I.ok.bsz I.sz
 ·intro b o e U;rcases (hf b U).2.2.2.1 with z|z;·exact I.ok.noex b o e z
  ·exact aB0 (V0 (Vr e) (Ul I.ok.bsz z)) (Vb5 _)
 ·intro b U hm;rcases Vt.mp (I.stkSub b hm) with z|z;·exact(hf b U).2.1 z
  ·exact(hf b U).2.2.1 z
 ·rw[af];exact I.bare
 ·refine⟨λb o e _ _ _=>keep b o e,λb o e _ _ _=>⟨o.slots,keep b o e⟩,λb o e n _=>?_,λb o e _=>⟨o,keep b o e⟩,λb xs e=>?_,λb o u e=>?_,λb ps e=>?_⟩;·show upd H Da _ b=yy;rw[Xe (J b (Vr e)).2];exact n
  ·rw[Xe (Xk e hD)];exact e
  ·rw[Xe (Xk e hD)];exact e
  rw[Xe (Xk e hD)];exact e
 ·refine⟨m,an,λi x v h1 h2 h3=>?_⟩;have hi:i<X.N.length:=by
   by_cases hi:i < σ.length;·rw[I.len]at hi;exact hi
   ·rw[Val (by omega),Vcn]at h2;split at h2<;>cases h2
  have B:(Xak X.N own)[i]?=yz x:=h1;unfold Xak at B;rw[Vs (by simpa using hi),Vx]at B;rw[Vs (by rw[I.len];exact hi)]at h2;cases ey:X.N[i]? with
  |none=>rw[ey]at B;cases B|some y=>
   rw[ey]at B;simp only[V4,Vp]at B;have aq:Vis (relabel sc X.env) x:=h3;have ak:=so.loc;have ah:x ∉ own:=λhm=>by have nd:=so.nd;unfold Xak at nd;rw[Vg2]at nd;exact nd.2.2 x (Va6.mpr ⟨y,V6 ey,B⟩) x hm rfl
   have L:sc.names.lookup x=yz .free:=by
    have:(relabel sc X.env).names.lookup x=yz .local\/(relabel sc X.env).names.lookup x=yz .cell\/(relabel sc X.env).names.lookup x=yz .free:=aq;rw[Xbn]at this;cases e:sc.names.lookup x with
    |none=>rw[e]at this;simp at this|some k=>
     cases k with
     |free=>rfl|«local»=>exact aB0 (ak x e) ah|cell=>exact aB0 (so.cel _ (Xb9 e) rfl) ah|_=>rw[e]at this;simp at this
   have ar:x=y:=by
    unfold hid at B;split at B;·rename_i hc;have z:=so.hidn y (V6 ey) hc;rw[B,L]at z;cases z
    ·exact B.symm
   subst ar;obtain⟨c,hc⟩:=ae x (.inr L);have ap:=((ab x c hc).resolve_right λz=>ah z.1).2;have kx:=so.free (x,.free) (Xb9 L) rfl;obtain⟨m0,av,hl⟩:=I.loc;obtain⟨u,ru,lk⟩:=hl i x v ey h2 (kx.elim (λz=>.inr (.inl z)) λz=>.inr (.inr z));refine⟨u,ru,.inr ⟨?_,c,hc,?_⟩⟩
   ·show(relabel sc X.env).names.lookup x=yz .cell\/(relabel sc X.env).names.lookup x=yz .free;rw[Xbn,L];simp only[V4];split;·exact .inl rfl
    ·exact .inr rfl
   rcases lk with⟨k,_⟩|⟨_,c',hc',hcell⟩;·have k':X.env.scope.names.lookup x=yz .local:=k;rcases kx with z|z<;>(rw[k']at z;cases z)
   ·rw[ap]at hc';cases hc';exact⟨_,keep _ _ hcell.choose_spec.1,hcell.choose_spec.2⟩
 ·intro x c h;rcases ab x c h with⟨_,z⟩|⟨_,_,z⟩;·obtain⟨v,o,ho,hd⟩:=I.cell x c z;exact⟨v,o,keep _ _ ho,hd⟩
  ·exact⟨yy,z⟩
 ·show upd H Da _ C=yy;rw[Xe am];exact ao
 ·intro x c h;rcases ab x c h with⟨_,z⟩|⟨_,z,_⟩;·rw[Xe (J c (aa x c z)).2];exact I.freeC x c z
  ·rw[hC]at z;rw[Xe (by rw[ac];exact Vcw (Vd7 z))];exact I.hok.fresh (Vcv (Vd7 z))
 ·intro p hp;rw[Ud]at hp;obtain⟨e,n,ne,nf,d⟩:=I.pin p hp;refine⟨keep _ _ e,?_,(J _ (Vr e)).1,λhm=>?_,d⟩;·rw[Xe (J _ (Vr e)).2];exact n
  ·rcases Vt.mp (I.stkSub _ hm) with z|z;·exact ne z
   ·exact nf z
 ·intro b o e;by_cases U:b=Da;·subst U;rw[Xm]at e;cases e;exact aj
  ·rw[Xe U]at e;exact(I.hok b o e).stay (λc v _ q=>keep c v q) (λc q=>by rw[Xe (Xk q hD)];exact q) λc xs _ q=>by rw[Xe (Xk q hD)];exact q
 ·show(σ++Vi (la own) yy).length=(Xak X.N own).length;unfold Xak;simp[I.len]
theorem Xxu(I:Inv X pa σ H s)(B:∀b∈fp,Xab X pa H b)(J:Inv (blk X pa s H sc cl C own fp) [] σ' H' s'):
  Inv X pa σ H' s':=
 I.call' J.os J.base J.hok J.bare λb L=>⟨(B b L).2.2.2.1,(B b L).2.1,(B b L).2.2.2.2.1,(B b L).2.2.2.2.2⟩
theorem Xed:∀(names:List (Str×Vd2)) (n:Nat) (acc:List (Str×Addr)),Va9 n names acc=Va9 n names []++acc
 |[]=>λ_ _=>rfl| (x,k)::r=>λn acc=>by
  unfold Va9;split;·rw[Xed r (n+1) ((x,n)::acc),Xed r (n+1) [(x,n)],V2];rfl
  ·exact Xed r n acc
theorem Xk5:∀(names:List (Str×Vd2)) (n:Nat),(x,c)∈Va9 n names []->(x,.cell)∈names
 |[]=>λ_ h=>nomatch h| (y,k)::r=>λn h=>by
  unfold Va9 at h;split at h
  ·rename_i B;rw[Xed]at h;rcases Vao.mp h with h|h;·exact Ua _ (Xk5 r (n+1) h)
   ·have e:=U4.mp h;cases e;rw[eq_of_beq B];exact U9
  exact Ua _ (Xk5 r n h)
theorem Xxv {M:Model} {sc:Ue} {g:Addr} {J:List (Str×Addr)} {q:Str} {env:Vax} {R:Vax->Vc->Prop} (h:R {scope:=sc,locals:=s.heap.objs.size,globals:=g,cells:=Va9 (s.heap.objs.size+1) sc.names J,qual:=q,func:=yy,code:=env.code,frame:=env.frame,builtins:=env.builtins} {s with heap:=pushCells (s.heap.push {cls:=.type "dict",data:=.dict #[]}) sc.names}):
  Vf M A (newFunctionEnv sc g J [] q yy .none (yz env)) R E s:=by
 simp only[newFunctionEnv,Vdy,if_true];refine Va (wpAny_alloc ?_);refine Va (wpAny_layCells _ (λname kind cells=>by cases B:kind==NameKind.cell<;>simp[B]) _ _ _ _ ?_);rw[show({s with heap:=s.heap.push {cls:=.type "dict",data:=.dict #[]} }:Vc).heap.objs.size=s.heap.objs.size+1 from Vbs ..];exact Va (by rw[List.forIn_nil];exact Vd (Vd h))
theorem Xjc{k:Bool}{AR:Addr->Xhn}{ar:Sem Vb}{oA:Obj}{uA:Addr->HO}(hA:∀Da,Xjx X.K Da (AR Da))(bj:∀(A:Uq) (E:VP) (s:Vc) (Q:VP),Q (.ref s.heap.objs.size) {s with heap:=s.heap.push oA}->Vf (Vj X.prog X.w) A ar Q E s)(bo:oA.isFreed=yw)
  (hno:∀(H:Hp) (h:Heap) (a:Addr),h.get? a=yz oA->ObjOk X.prog X.w H h a (uA a)) (bi:∀a ρ (H:Hp),H a=yz (uA a)->AR a ρ H [])
  (hc:X.calm=yx) (so:ScOk X.env.scope sc X.N own) (hon:(la own)=n) (hg:gens=⟨tg,iter,ifs,0⟩::gens.tail) (hi:DI X tg iter fi) (hs:∀x,Vbh iter X.env x=pure x)
  (hG:∀pa s H cl C fp,DG (blk X pa s H sc cl C own fp) tg t) (hT:∀pa s H cl C fp,DTs (blk X pa s H sc cl C own fp) ifs tf) (hB:∀pa s H cl C fp Da,Xcz k (AR Da) (blk X pa s H sc cl C own fp) Da elt gens sc cpos 0 body)
  (I:S0 X pa σ H s ρ S env) (q:fi env S=.ok src S1) (hr:Yi src.get t (Yu tf body) (src.most S1+1) 0 (env++Vi n yy) [] S1=.ok accf Sf)
  (hQ:∀s' H' ρ' Da C m,S0 X pa σ H' s' ρ' Sf env->Stp X.K ρ ρ' H H'->Da ∉ ρ'->H Da=yy->AR Da ρ' H' accf->s'.heap.Ns C m->(∀x c,X.env.cells.lookup x=yz c->c≠C)->C≠X.env.locals->H' C=yy->(∀ah ai H'' h',Inv X pa ai H'' ah->H'' C=yy->Vap C ah.heap h'->Inv X pa ai H'' {ah with heap:=h' }) ->
   compPost (Vj X.prog X.w) X.A E use Q (.ref Da) C (.ok .next) s'):
  Vf (Vj X.prog X.w) X.A (comprehension (cE k elt gens sc cpos) sc X.env (firstIterPos gens cpos) ar yw (eval iter X.env) use) Q E s:=by
 have aw:∀x∈sc.names,x.2=.free->∃c,X.env.cells.lookup x.1=yz c:=λx hx hf=>by
  rcases so.free x hx hf with z|z;·exact I.inv.ok.has x.1 (.inl z)
  ·exact I.inv.ok.has x.1 (.inr z)
 obtain⟨cl,ay,bf,ba⟩:=Xgr aw;refine Vha (g:=⟨tg,iter,ifs,0⟩) (gs:=gens.tail) ((show clausesOf (cE k elt gens sc cpos)=gens by cases k<;>rfl).trans hg) hs ay so.kind so.names ?_;refine Vo (E:=λ_ _=>False) (hi pa s σ H ρ S env (λ_ _=>False) I (by rw[q];exact λz=>nomatch z) λx s' z=>?_) (λv s1 h1=>Vo h1 (λbw L h2=>?_) λ_ _ z=>z.elim) λ_ _ z=>z.elim;·rw[q]at z;obtain⟨k,S2,e,z⟩:=z;cases e
 ·obtain⟨bu,S2,it,fp,tn,J,H2,am,e1,rfl,I2,T,t0,f2,bp,av,af⟩:=h2;rw[q]at e1;cases e1;have J2:=I.step I2 av af;refine bj _ _ _ _ (Xxv ?_);dsimp only;generalize ax:L.heap.push oA=B;have hC:B.objs.size=L.heap.objs.size+1:=by rw[<-ax,Vbs]
  have below:∀b,b<L.heap.objs.size->b≠B.objs.size:=λb hb=>by rw[hC];exact Vz (Vau hb)
  have al:=cellsFrom_ok sc.names (B.push {cls:=.type "dict",data:=.dict #[]}) (B.objs.size+1) [] ⟨λ_ _ hm=>(nomatch hm),Vfj⟩ (by rw[Vbs];exact Vl _);rw[Vbs]at al;obtain⟨m1,ac⟩:∃m1,(pushCells (B.push {cls:=.type "dict",data:=.dict #[]}) sc.names).Ns B.objs.size m1:=by obtain⟨o,es,ep,ho,X3⟩:=(Heap.Ns.new ..:(B.push {cls:=.type "dict",data:=.dict #[]}).Ns B.objs.size _);exact⟨_,o,es,ep,pushCells_keeps _ _ _ _ ho,X3⟩
  have a0:∀b o,B.get? b=yz o->(pushCells (B.push {cls:=.type "dict",data:=.dict #[]}) sc.names).get? b=yz o:=λb o e=>pushCells_keeps _ _ b o (Vg _ e);generalize pushCells (B.push {cls:=.type "dict",data:=.dict #[]}) sc.names=U at al ac a0 ⊢;have a9:∀b o,L.heap.get? b=yz o->U.get? b=yz o:=λb o e=>a0 b o (ax▸Vg _ e);have be:U.get? L.heap.objs.size=yz oA:=a0 _ _ (ax▸Vq _ bo);have aa:∀x c,(x,c)∈Va9 (B.objs.size+1) sc.names []->x∈own/\B.objs.size<c/\U.IsCell c none:=λx c hm=>⟨so.cel _ (Xk5 _ _ hm) rfl,(al.empty x c hm).2,(al.empty x c hm).1⟩;have two:∀x c,(Va9 (B.objs.size+1) sc.names cl).lookup x=yz c->(x,c)∈Va9 (B.objs.size+1) sc.names []\/(x ∉ own/\X.env.cells.lookup x=yz c):=λx c h=>by
   rw[Xed,List.lookup_append,Option.or_eq_some_iff]at h;rcases h with h|⟨_,h⟩;·exact .inl (Xmj h)
   ·exact .inr ⟨so.apart _ (bf x c h).2 rfl,(bf x c h).1⟩
  have ak:∀x c,(Va9 (B.objs.size+1) sc.names cl).lookup x=yz c->(x ∉ own/\X.env.cells.lookup x=yz c)\/(x∈own/\B.objs.size<c/\U.IsCell c yy):=λx c h=>(two x c h).elim (λz=>.inr (aa x c z)) .inl;have ab:∀x c,X.env.cells.lookup x=yz c->c<B.objs.size:=λx c e=>by obtain⟨v,z⟩:=I2.cell x c e;rw[hC];exact Vau z.lt
  have au:∀x y c,(Va9 (B.objs.size+1) sc.names cl).lookup x=yz c->(Va9 (B.objs.size+1) sc.names cl).lookup y=yz c->x=y:=λx y c h1 h2=>by
   rcases two x c h1 with a|⟨_,a⟩<;>rcases two y c h2 with b|⟨_,b⟩
   ·exact name_of_addr al.apart a b
   ·exact aB0 (ab y c b) (Nat.lt_asymm (aa x c a).2.1)
   ·exact aB0 (ab x c a) (Nat.lt_asymm (aa y c b).2.1)
   exact I2.ok.inj x y c a b
  have aj:∀x,sc.names.lookup x=yz .cell\/sc.names.lookup x=yz .free->∃c,(Va9 (B.objs.size+1) sc.names cl).lookup x=yz c:=λx h=>Vcf.mp (Vd3 sc.names _ cl (h.imp id λz=>by obtain⟨c,hc⟩:=ba (x,.free) (Xb9 z) rfl;exact Vcf.mpr ⟨c,hc⟩));generalize Va9 (B.objs.size+1) sc.names cl=ao at ak au aj two ⊢;have ap:∀b∈fp,b<L.heap.objs.size:=λb hb=>by obtain⟨o,e,_⟩:=T.obj _ _ t0 b hb;exact Vr e
  have ae:H2 L.heap.objs.size=none:=I2.hok.fresh (Vl _);have bb:L.heap.objs.size ∉ am:=λhm=>by obtain⟨w,hw,_⟩:=av.mem hm;rw[ae]at hw;cases hw
  generalize a8:({L with heap:=U}:Vc)=s4;have IY:Inv (blk X pa L H2 sc ao B.objs.size own fp) [] (σ++Vi (la own) yy) (upd H2 L.heap.objs.size (uA L.heap.objs.size)) s4:=by subst a8;exact X1z so I2 f2 ak au aj rfl hC rfl rfl a9 ac (hno _ _ _ be) ap
  have az:Stp X.K am am H2 (upd H2 L.heap.objs.size (uA L.heap.objs.size)):=Stp.upd ae;have SY:S0 (blk X pa L H2 sc ao B.objs.size own fp) [] (σ++Vi (la own) yy) (upd H2 L.heap.objs.size (uA L.heap.objs.size)) s4 am S1 (env++Vi n yy):=by
   refine⟨IY,av.upd ae,⟨by simp[J2.er.len,hon],λi d e=>?_⟩⟩;have hi:i<la env:=by
    by_cases hi:i<la env;·exact hi
    ·rw[Val (by omega),Vcn]at e;split at e<;>cases e
   rw[Vs hi]at e;obtain⟨v,h1,h2⟩:=J2.er.val i d e;exact⟨v,by rw[Vs (by rw[<-J2.er.len];exact hi)];exact h1,h2.mono az⟩
  have t4:tn 0 s4.heap:=by subst a8;exact T.keep 0 _ _ t0 λb hb o e=>a9 b o e
  have fY:∀b∈fp,Xab (blk X pa L H2 sc ao B.objs.size own fp) [] (upd H2 L.heap.objs.size (uA L.heap.objs.size)) b:=λb hb=>by
   obtain⟨a1,a2,a3,a4,a5,a6⟩:=f2 b hb;refine⟨by rw[Xe (Vz (ap b hb))];exact a1,below b (ap b hb),λhm=>?_,.inl hb,λx c h=>(ak x c h).elim (λz=>a5 x c z.2) (λz=>Vcw (Vcy (by rw[hC];exact Vau (ap b hb)) z.2.1)),λp hp=>?_⟩
   ·rcases Vt.mp (I2.stkSub b hm) with z|z;·exact a2 z
    ·exact a3 z
   rw[Ud]at hp;exact a6 p hp
  refine Vdj (Xq7 (hA L.heap.objs.size) (Y:=blk X pa L H2 sc ao B.objs.size own fp) (H0:=H2) (ρ0:=am) (P:=compPost (Vj X.prog X.w) X.A E use Q (.ref L.heap.objs.size) B.objs.size (.ok .next)) hc (by rw[hg];rfl) T (hG _ _ _ _ _ _) (hT _ _ _ _ _ _) (hB _ _ _ _ _ _ _) ae SY t4 fY (bp.mono az) bb (bi _ _ _ Xm) az hr
   λs' bv H' ρ' bt I' _ bq bh bg _=>?_) λr s' h=>?_
  ·have JX:=Xxu I2 f2 I'.inv;have bc:H' B.objs.size=none:=I'.inv.free;have bd:L.heap.objs.size<=B.objs.size:=by rw[hC];exact Vd4 _
   obtain⟨m',br,_⟩:=I'.inv.loc;have fo:=I2.fpOk (H':=H') bd bc;have bm:H L.heap.objs.size=none:=by
    cases e:H L.heap.objs.size with
    |none=>rfl|some o=>
     by_cases hm:L.heap.objs.size∈ρ;·obtain⟨k,hk,ek⟩:=Vbr.mp hm;exact aB0 (V6 (af.pre k _ (by simp[hk,ek]))) bb
     ·rw[af.keep _ o e hm]at ae;cases ae
   refine hQ s' H' ρ' L.heap.objs.size B.objs.size m' ⟨JX,I'.sr,I.er.mono (af.trans bg)⟩ (af.trans bg) bq bm bh br fo.2.2.2.2.1 (λz=>fo.2.1 z) bc λah ai H'' h' bn aq a7=>?_;have an:Xab X pa H'' B.objs.size:=⟨aq,fo.2⟩;exact bn.turned (t':=ah.toks) (λb o hb e=>(a7.2 b hb).trans e) aq an.2.1 an.2.2.2.1 an.2.2.2.2.1 an.2.2.2.2.2
  cases r with
  |ok f=>cases use<;>exact h|error e=>exact h.elim
end
theorem Xdv{get:Sto->Nat->Option (Option D)}{body:En->LD->Sto->R (LD)}:∀(k i:Nat) (env:En) (acc:LD) (S:Sto) (n:Nat) (S':Sto),Yi get t body k i env acc S≠.ex n S'
 |0=>λi env acc S n S'=>λz=>nomatch z|k+1=>λi env acc S n S'=>by
  simp only[Yi];cases get S i with
  |none=>exact λz=>nomatch z|some o=>
   cases o with
   |none=>exact λz=>nomatch z|some d=>
    dsimp only;cases Xn t d env with
    |none=>exact λz=>nomatch z|some B=>
     dsimp only;cases body B acc S with
     |ok a S1=>exact Xdv k (i+1) B a S1 n S'|ex _ _=>exact λz=>nomatch z|bad=>exact λz=>nomatch z
section
variable{X:Cx}{pa:LA}{σ:L2.St}{H:Hp}{s:Vc}{ρ:LR}{S:Sto}{env:En}{Q:VP}{E:VP}
theorem SR.adopt{K:Ve}{Da:Addr}{vs:LW}{xs:LD}(r:SR K ρ S H)(hn:Da ∉ ρ)(Y:H Da=yz (.lst vs))(rd:RDs K ρ H xs vs):SR K (ρ++[Da]) (S++[.lst xs]) H:=by
 have B:Mon K ρ (ρ++[Da]) H H:=⟨λn a h=>by rw[Vs (Vh.mp h).1];exact h,λ_ _ h=>h,λ_ _ _ h=>h⟩;refine⟨r.tab,by simp[r.len],?_,λn a ob h1 h2=>?_⟩;·rw[Vg2];refine⟨r.nd,by simp,λx L y U=>?_⟩;rw[U4.mp U];exact λz=>hn (z▸L)
 ·by_cases J:n < ρ.length;·rw[Vs J]at h1;rw[Vs (by rw[<-r.len];exact J)]at h2;exact(r.ob n a ob h1 h2).mono' B rfl
  ·have e:n=la ρ:=by
    have:=(Vh.mp h1).1;simp at this;omega
   subst e;simp at h1;rw[r.len]at h2;simp at h2;subst h1 h2;exact⟨vs,Y,RDs.mono' B _ _ rd⟩
theorem Stp.adopt{K:Ve}{Da:Addr}{ρ':LR}{H':Hp}(st:Stp K ρ ρ' H H')(h0:H Da=yy):Stp K ρ (ρ'++[Da]) H H' where
 pre:=λn a h=>by have z:=st.pre n a h;rw[Vs (Vh.mp z).1];exact z
 tup:=st.tup
 frz:=st.frz
 new:=λa h=>by
  rcases Vao.mp h with h|h;·exact st.new a h
  ·rw[U4.mp h];exact .inr h0
 keep:=st.keep
variable{elt:Expr}{gens:List Vbg}{sc:Ue}{cpos:Pos}{tg iter:Expr}{ifs:LX}{own:LS}{t:Tg}{n:Nat}{fi:En->Sto->R Src}{tf:En->Sto->R Bool}{body:En->LD->Sto->R (LD)}
noncomputable def Xee(fi:En->Sto->R Src)(t:Tg)(n:Nat)(tf:En->Sto->R Bool)(body:En->LD->Sto->R LD)(env:En)(S:Sto):R D:=
 (fi env S).bind λB S=>(Yi B.get t (Yu tf body) (B.most S+1) 0 (env++Vi n yy) [] S).bind λJ S=>.ok (.ref (la S)) (S++[.lst J])
theorem Xnk{k:Bool}{L:Sem Vb}{use:Option (Vb->Sem Unit)}{m:Nat}(U:ScOk X.env.scope sc X.N own)(hg:gens=⟨tg,iter,ifs,0⟩::gens.tail)(hi:DI X tg iter fi)(hs:∀x,Vbh iter X.env x=pure x)
  (I:S0 X pa σ H s ρ S env) (q:fi env S=.ex m S1) (hE:∀x s',XPd X pa σ ρ H m S1 x s'->E x s'):
  Vf (Vj X.prog X.w) X.A (comprehension (cE k elt gens sc cpos) sc X.env (firstIterPos gens cpos) L yw (eval iter X.env) use) Q E s:=by
 have J:∀x∈sc.names,x.2=.free->∃c,X.env.cells.lookup x.1=yz c:=λx hx hf=>by
  rcases U.free x hx hf with z|z;·exact I.inv.ok.has x.1 (.inl z)
  ·exact I.inv.ok.has x.1 (.inr z)
 obtain⟨cl,B,ac,aa⟩:=Xgr J;refine Vha (g:=⟨tg,iter,ifs,0⟩) (gs:=gens.tail) ((show clausesOf (cE k elt gens sc cpos)=gens by cases k<;>rfl).trans hg) hs B U.kind U.names ?_;refine Vo (hi pa s σ H ρ S env E I (by rw[q];exact λz=>nomatch z) λx s' z=>?_) (λv s1 h1=>Vo h1 (λab s2 h2=>?_) λ_ _ z=>z) λ_ _ z=>z;·rw[q]at z;obtain⟨k,S2,e,z⟩:=z;cases e;exact hE x s' z
 ·obtain⟨Y,S2,_,_,_,_,_,_,e1,_⟩:=h2;rw[q]at e1;cases e1
theorem Xnl (A:Uq) (E:VP) (s:Vc) (Q:VP) (h:Q (.ref s.heap.objs.size) {s with heap:=s.heap.push {cls:=.type "list",dict:=yy,data:=.seq ([]:LV).toArray} }):Vf (Vj X.prog X.w) A (newList []) Q E s:=Va2 h
theorem Xq9 (H:Hp) (h:Heap) (a:Addr) (e:h.get? a=yz {cls:=.type "list",dict:=yy,data:=.seq ([]:LV).toArray}):ObjOk X.prog X.w H h a (.lst []):=⟨Ug _,[],0,.nil,e⟩
theorem X10(hc:X.calm=yx)(so:ScOk X.env.scope sc X.N own)(hon:(la own)=n)(hg:gens=⟨tg,iter,ifs,0⟩::gens.tail)(hi:DI X tg iter fi)(hs:∀x,Vbh iter X.env x=pure x)
  (hG:∀pa s H J C fp,DG (blk X pa s H sc J C own fp) tg t) (hT:∀pa s H J C fp,DTs (blk X pa s H sc J C own fp) ifs tf) (hB:∀pa s H J C fp Da,Xcz yw (LstA X.K Da) (blk X pa s H sc J C own fp) Da elt gens sc cpos 0 body):
  DE X (.ListComp elt gens sc cpos) (Xee fi t n tf body):=by
 intro pa s σ H ρ S env I B;have Y:firstIter gens X.env=eval iter X.env:=by rw[hg];rfl
 have aa:firstAsync gens=false:=by rw[hg];rfl
 rw[eval_ListComp,Y,aa];unfold Xee at B ⊢;cases q:fi env S with
 |bad=>rw[q]at B;cases B rfl|ex m S1=>exact Xnk (k:=yw) so hg hi hs I q λx s' z=>⟨m,S1,rfl,z⟩|ok L S1=>
  rw[q]at B;simp only[Rk0]at B ⊢;cases q2:Yi L.get t (Yu tf body) (L.most S1+1) 0 (env++Vi n yy) [] S1 with
  |bad=>rw[q2]at B;cases B rfl|ex m S2=>exact aB0 q2 (Xdv _ _ _ _ _ _ _)|ok ab Sf=>refine Xjc (k:=yw) (AR:=λDa=>LstA X.K Da) (uA:=λ_=>.lst []) (λDa=>LstA.ok) Xnl rfl Xq9 (λa ρ H z=>⟨[],z,.nil⟩) hc so hon hg hi hs hG hT hB I q q2 λs' H' ρ' Da C m I' st' hn' h0 ⟨vs,hD',ra'⟩ hns hcells hCl hCn back=>?_;refine⟨m,hns,λh' U=>?_⟩;refine .mk (v:=.ref Da) (st'.adopt h0) (back s' σ H' h' I'.inv hCn U) rfl ?_ (I'.sr.adopt hn' hD' ra');simp only[RD];exact⟨Da,rfl,by rw[<-I'.sr.len];simp⟩
theorem Xxw{i:Nat}(hN:X.N.Nodup)(af:X.N[i]?=yz x)(hx:X.env.scope.names.lookup x=yz .local)(ai:Ve5 (.ListComp elt gens sc cpos) (yz (.Name x py)) spos.line X.env=pure yx)
  (hc:X.calm=yx) (so:ScOk X.env.scope sc X.N own) (hon:(la own)=n) (hg:gens=⟨tg,iter,ifs,0⟩::gens.tail) (hi:DI X tg iter fi) (hs:∀x,Vbh iter X.env x=pure x)
  (hG:∀pa s H Y C fp,DG (blk X pa s H sc Y C own fp) tg t) (hT:∀pa s H Y C fp,DTs (blk X pa s H sc Y C own fp) ifs tf) (hB:∀pa s H Y C fp Da,Xcz yw (LstA X.K Da) (blk X pa s H sc Y C own fp) Da elt gens sc cpos 0 body):
  DS X (.Assign [.Name x py] (.ListComp elt gens sc cpos) spos) yw (λenv S=>(Xee fi t n tf body env S).bind λd S=>match Xn (.var i) d env with|some env=>.ok (.nx env) S|none=>.bad):=by
 intro pa s σ H ρ S env I B;dsimp only at B ⊢;have ab:firstIter gens X.env=eval iter X.env:=by rw[hg];rfl
 have aj:firstAsync gens=false:=by rw[hg];rfl
 rw[exec_Assign_Name_used _ _ _ _ ai];refine Va (Vc6 (Va ?_));show Vf _ X.A (do let _ <- comprehension (.ListComp elt gens sc cpos) sc X.env (firstIterPos gens cpos) (newList []) (firstAsync gens) (firstIter gens X.env) (yz (assign (.Name x py) X.env))) _ _ s;rw[ab,aj];refine Va (Vo (Q:=λ_ s'=>OkS X pa σ ρ H yw ((Xee fi t n tf body env S).bind λd S=>match Xn (.var i) d env with|some env=>.ok (.nx env) S|none=>.bad) .next s') ?_ (λ_ s' hq=>Vd (Vd hq)) λ_ _ z=>z);unfold Xee at B ⊢;cases q:fi env S with
 |bad=>rw[q]at B;cases B rfl|ex m S1=>exact Xnk (k:=yw) so hg hi hs I q λx s' z=>.of .refl z rfl|ok U S1=>
  rw[q]at B;simp only[Rk0]at B ⊢;cases q2:Yi U.get t (Yu tf body) (U.most S1+1) 0 (env++Vi n yy) [] S1 with
  |bad=>rw[q2]at B;cases B rfl|ex m S2=>exact aB0 q2 (Xdv _ _ _ _ _ _ _)|ok aa Sf=>
   refine Xjc (k:=yw) (AR:=λDa=>LstA X.K Da) (uA:=λ_=>.lst []) (use:=yz (assign (.Name x py) X.env)) (λDa=>LstA.ok) Xnl rfl Xq9 (λa ρ H z=>⟨[],z,.nil⟩) hc so hon hg hi hs hG hT hB I q q2 λs' H' ρ' Da C m I' st' hn' h0 ⟨vs,hD',ra'⟩ hns hcells hCl hCn back=>?_;show Vf _ X.A (assign (.Name x py) X.env (.ref Da)) _ _ s';refine Vgz (Xiu I'.inv hN af (.inl hx) (show RelV (.ref Da) (.ref Da) from rfl) (λs2 I2 L=>?_) (.inr hx));obtain⟨ad,L,ac⟩:=L;have ae:ad≠C:=by
    rcases ac with z|z;·rw[z];exact Ne.symm hCl
    ·exact hcells x ad z
   refine⟨m,hns.sameBut L (Ne.symm ae),λh' ah=>?_⟩;have J:=back s2 _ H' h' I2 hCn ah;refine⟨.nx (env.set i (yz (.ref Sf.length))),Sf++[.lst aa],rfl,rfl,_,H',ρ'++[Da],⟨J,I'.sr.adopt hn' hD' ra',?_⟩,st'.adopt h0,λz=>nomatch z⟩;have mo:Mon X.K ρ' (ρ'++[Da]) H' H':=⟨λn a h=>by rw[Vs (Vh.mp h).1];exact h,λ_ _ h=>h,λ_ _ _ h=>h⟩;refine(I'.er.mono' mo).set i ?_;simp only[RD];exact⟨Da,rfl,by rw[<-I'.sr.len];simp⟩
variable{prog:Vy}{w:V9}{A:Uq}{R:Result->Vc->Prop}{I:Addr}{St:Nat->Vc->Prop}{ld:Bool}
theorem Xxx(a:Vb){Q₁:VP}
  (h:Q₁ (.ref s.heap.objs.size) {s with heap:=s.heap.push {cls:=.type "set",dict:=yy,data:=.set #[] 0 (.fresh 0 0 (!byT w))} }):
  Vbz (Vj prog w) A (.call (.builtin "set.__new__") ⟨[.type "set",a],[]⟩) (wants Q₁ E) s:=by
 refine codeAny_of_tree ?_;show Vf _ A.in1 (do checkBuiltinCall "set.__new__" ⟨[.type "set",a],[]⟩;again (.builtin "set.__new__" ⟨[.type "set",a],[]⟩)) _ _ s;refine Va (wpAny_of_eq (F.newCall_set_1 a) (Vd ⟨Veo F.plain_set_new _,Va8 F.entry_set_new ?_⟩));rw[Vbt F.plain_set_new _];unfold Vbb.«set.__new__» Builtin.Frozenset.newClass;have B:=sub_set_self;obtain⟨J,g,d,tk,os⟩:=s;dsimp only;wp_walk;refine wpAny_askSetting (Vd ?_);dsimp only;simp only[newObj];exact Va (wpAny_alloc (Vd (Vd h)))
theorem Xxy(ld:Bool):Tab (.fresh 0 0 ld) 0:=⟨⟨Vfj,rfl⟩,rfl,rfl,.inl rfl,show 0*5<7*3 by decide,by decide⟩
noncomputable abbrev nS(w:V9):Obj:={cls:=.type "set",dict:=yy,data:=.set #[] 0 (.fresh 0 0 (!byT w))}
noncomputable def itO(b:Bool)(l:Addr):Obj:={cls:=.type (if b then "list_iterator" else "tuple_iterator"),data:=.fields #[.ref l,.int 0 0]}
def Xtm(b:Bool)(h:Heap)(l:Addr)(items:AV):Prop:=if b then h.IsList l items else h.IsTuple l items
set_option maxHeartbeats 3200000 in
theorem Xra(b:Bool){l:Addr}{items:AV}{R:Vc->Prop}{Q:VP}(hl:Xtm b s.heap l items)(hR:∀L,R L->Q (.ref s.heap.objs.size) L)
  (hU:∀R':Except Vb Flow->Vc->Prop,(∀s',R s'->R' (.ok (.ret .none)) s')->Vbz (Vj prog w) A.in1.in1 (.builtin "set.update.loop" ⟨[.ref s.heap.objs.size,.ref (s.heap.push (nS w)).objs.size],[]⟩) R' {s with heap:=(s.heap.push (nS w)).push (itO b l)}):
  Vf (Vj prog w) A (call (.type "set") [.ref l]) Q E s:=by
 obtain⟨c,tl,aq⟩:=F.called_set.mro;have an:=F.called_set.made;have ap:=F.called_set.sub;refine wpAny_call (codeAny_of_tree ?_);show Vf _ _ (callAny (.type "set") _) _ _ _;refine Vd ⟨Vgt _ (by decide+kernel),Va8 F.entry_type_call ?_⟩;rw[Around.under_plain (weight_type_call_type "set" [.ref l] []) rfl];have h1:=F.called_set.notType;have h2:=F.called_set.canCreate;have au:=F.typeCall_set_1 (.ref l)
 repeat (any_goals (first|assumption|wp_step))
 refine Vdj (Xxx (.ref l) (E:=E) (Q₁:=λobj ac=>obj=.ref s.heap.objs.size/\ac={s with heap:=s.heap.push (nS w)}) ⟨rfl,rfl⟩) λr ac hr=>?_;cases r with
 |error e=>exact hr|ok fl=>
  cases fl with
  |ret obj=>
   obtain⟨rfl,rfl⟩:=hr;have hT:Shared.TypeIs {s with heap:=s.heap.push (nS w)} (.ref s.heap.objs.size) "set" := ⟨_,Vq _ rfl,rfl⟩;have av:=F.called_set.init.lookup;have ar:=F.called_set.init.bind (.ref s.heap.objs.size)
   repeat (any_goals (first|assumption|wp_step))
   refine Vdj (Vga (R:=wants (λr L=>r=.none/\R L) E) F.called_set.init.plain F.entry_set_init (check_set_init_1 hT ?_)) λak L B=>?_
   ·unfold Vbb.«set.__init__» noKeywords Builtin.Frozenset.updateFrom;cases b with
    |true=>
     obtain⟨⟨aj,U,af,J⟩,ae,ab,nl,aa⟩:=show s.heap.IsList l items from hl;simp only at ab aa;subst ab;subst aa;have Y:(s.heap.push (nS w)).get? l=yz {cls:=.type "list",dict:=U,data:=.seq items nl,slots:=J}:=Vg _ ae;have al:=F.sub_list_set;have am:=F.sub_list_frozenset;have ao:(Vbc "list" == Vbc "dict")=false:=by decide
     generalize ai:Vd8=PI;wp_walk;subst ai;exact Vd6 ⟨_,Y,rfl,nl,rfl⟩ (Va (wpAny_runValue (hU _ λs' h=>Vd (Vd ⟨rfl,h⟩))))|false=>
     obtain⟨⟨aj,U,af,J⟩,ae,ab,nl,aa⟩:=show s.heap.IsTuple l items from hl;simp only at ab aa;subst ab;subst aa;have Y:(s.heap.push (nS w)).get? l=yz {cls:=.type "tuple",dict:=U,data:=.seq items nl,slots:=J}:=Vg _ ae;have al:=F.sub_tuple_set;have am:=F.sub_tuple_frozenset;have ao:(Vbc "tuple" == Vbc "dict")=false:=by decide
     generalize ai:Vd8=PI;wp_walk;subst ai;exact Ve6 ⟨_,Y,rfl,nl,rfl⟩ (Va (wpAny_runValue (hU _ λs' h=>Vd (Vd ⟨rfl,h⟩))))
   cases ak with
   |error e=>exact B|ok ah=>
    cases ah with
    |ret r=>
     obtain⟨rfl,B⟩:=B
     repeat (any_goals (first|assumption|wp_step))
     exact hR _ B|_=>exact B.elim
  |_=>exact hr.elim
theorem Xxz(b:Bool){l:Addr}{items:AV}(Y:A.handled=yy)(B:Xtm b s.heap l items):
  l<s.heap.objs.size/\∃St:Nat->Vc->Prop,WalksS prog w A.in1.in1.in1 (s.heap.push (nS w)).objs.size [(s.heap.push (nS w)).objs.size,l] [(s.heap.push (nS w)).objs.size] (λa b=>b=a) items.size (λi v=>items[i]?=yz v) St/\St 0 {s with heap:=(s.heap.push (nS w)).push (itO b l)}:=by
 have U:l<s.heap.objs.size:=by
  cases b with
  |true=>obtain⟨o,L,_⟩:=show s.heap.IsList l items from B;exact Vr L|false=>obtain⟨o,L,_⟩:=show s.heap.IsTuple l items from B;exact Vr L
 have J:l≠(s.heap.push (nS w)).objs.size:=by rw[Vbs];exact Vz (Vau U)
 refine⟨U,?_⟩;cases b with
 |true=>have B:s.heap.IsList l items:=B;exact⟨_,(Walks.list (A:=A.in1.in1.in1) (by simpa using Y) _ l J items).toS,⟨⟨_,Vq _ rfl,rfl,rfl⟩,(B.push _).push _⟩⟩|false=>have B:s.heap.IsTuple l items:=B;exact⟨_,(Walks.tuple (A:=A.in1.in1.in1) (by simpa using Y) _ l J items).toS,⟨⟨_,Vq _ rfl,rfl,rfl⟩,(B.push _).push _⟩⟩
theorem X11{S I:Addr}{h1:Heap}{s':Vc}(m:Moved [S,I] (λa b=>b=a) {s with heap:=h1} s')(hn:∀b o,s.heap.get? b=yz o->b≠S/\b≠I/\h1.get? b=yz o):∃h' tk,s'={s with heap:=h',toks:=tk}/\∀b o,s.heap.get? b=yz o->h'.get? b=yz o:=by obtain⟨h',U,L,B,J⟩:=s';have eg:U=s.gens:=m.gens;have Y:L=s.drawn:=m.drawn;have eo:J=s.os:=m.os;subst eg;subst Y;subst eo;refine⟨h',B,rfl,λb o e=>m.heap b o ?_ (hn b o e).2.2⟩;simp only[Vt,U3,or_false,not_or];exact⟨(hn b o e).1,(hn b o e).2.1⟩
theorem Xx0(b:Bool)(l:Addr):∀c o,s.heap.get? c=yz o->c≠s.heap.objs.size/\c≠(s.heap.push (nS w)).objs.size/\((s.heap.push (nS w)).push (itO b l)).get? c=yz o:=λc o e=>by have B:=Vr e;rw[Vbs];exact⟨Vz B,Vz (Vau B),Vg _ (Vg _ e)⟩
theorem X12(b:Bool)(l:Addr):((s.heap.push (nS w)).push (itO b l)).get? s.heap.objs.size=yz (nS w):=Vg _ (Vq _ rfl)
theorem Xx1{l:Addr}(h:l<s.heap.objs.size):s.heap.objs.size ∉ [(s.heap.push (nS w)).objs.size,l]:=by rw[Vbs];simp only[Vt,U3,or_false,not_or];exact⟨Vz (Vb9 _),Vcw h⟩
end
section
variable{X:Cx}{pa:LA}{σ:L2.St}{H:Hp}{s:Vc}{ρ:LR}{S:Sto}{env:En}{Q:VP}{E:VP}
def BlR(X:Cx)(k:Bl)(f:Vb):Prop:=
 ∀(pa:LA) (s:Vc) (σ:L2.St) (H:Hp) (ρ:LR) (S:Sto) (env:En) (ds:LD) (vs:LW) (us:LV) (E:VP),S0 X pa σ H s ρ S env->RDs X.K ρ H ds vs->Vals vs us->Xx k ds S≠.bad ->
  Vf (Vj X.prog X.w) X.A (call f us) (OkP X pa σ ρ H (Xx k ds S)) E s
theorem RDs.one{K:Ve}{d:D}{vs:LW}(h:RDs K ρ H [d] vs):∃v,vs=[v]/\RD K ρ H d v:=by simp only[RDs]at h;obtain⟨v,r,rfl,h1,rfl⟩:=h;exact⟨v,rfl,h1⟩
theorem RDs.two{K:Ve}{d e:D}{vs:LW}(h:RDs K ρ H [d,e] vs):∃v u,vs=[v,u]/\RD K ρ H d v/\RD K ρ H e u:=by simp only[RDs]at h;obtain⟨v,r,rfl,h1,u,B,rfl,h2,rfl⟩:=h;exact⟨v,u,rfl,h1,h2⟩
theorem X5l:BlR X .len (.builtin "len"):=by
 intro pa s σ H ρ S env ds vs us E I rd rv B;match ds,rd,B with
 |[],_,B=>cases B rfl|_::_::_,_,B=>cases B rfl|[d],rd,B=>
  obtain⟨v,rfl,Y⟩:=rd.one;have go:∀xs,Xs S d=yz xs->Vf (Vj X.prog X.w) X.A (call (.builtin "len") us) (OkP X pa σ ρ H (.ok (.int (la xs)) S)) E s:=λxs h=>by obtain⟨a,L,rfl,U,hr⟩:=I.seq h Y;refine Xez (Q':=λz H'=>z=.int L.length/\H'=H) Xkf I.inv rv ⟨a,L,rfl,U,rfl,rfl⟩ λw s' z H' J rz ⟨e1,e2⟩=>?_;subst e1 e2;obtain⟨t,rfl⟩:=rz;rw[<-hr.length];exact Yx I.sr J
  cases d with
  |str _=>cases B rfl|tup xs=>exact go xs rfl|fro xs=>exact go xs rfl|ref n=>
   simp only[Xx,Xs]at B ⊢;cases e:Xa S n with
   |none=>rw[e]at B;cases B rfl|some xs=>exact go xs e
  |non=>cases B rfl|bl _=>cases B rfl|int _=>cases B rfl|fn _ _=>cases B rfl
theorem Xx2:BlR X .tuple (.type "tuple"):=by
 intro pa s σ H ρ S env ds vs us E I rd Y B;match ds,rd,B with
 |[],_,B=>cases B rfl|_::_::_,_,B=>cases B rfl|[d],rd,B=>
  obtain⟨v,rfl,r1⟩:=rd.one;simp only[Xx]at B ⊢;cases e:Xs S d with
  |none=>rw[e]at B;cases B rfl|some xs=>
   dsimp only;obtain⟨a,U,rfl,L,hr⟩:=I.seq e r1;rcases L with L|L;·refine Xez (Q':=λz H'=>∃p,H p=yy/\z=.ref p/\H'=upd H p (.tup U)) Xd4 I.inv Y ⟨a,U,rfl,.inl ⟨L,λl hl=>⟨l,hl,rfl,rfl⟩⟩⟩ λw s' z H' J rz ⟨p,hp,e1,e2⟩=>?_;subst e1 e2;cases rz;exact Xcc J hp I.sr hr
   ·refine Xez (Q':=λz H'=>z=.ref a/\H'=H) Xd4 I.inv Y ⟨a,U,rfl,.inr ⟨L,rfl,rfl⟩⟩ λw s' z H' J rz ⟨e1,e2⟩=>?_;subst e1 e2;refine .mk .refl J rz ?_ I.sr;simp only[RD];exact⟨a,U,rfl,L,hr⟩
theorem X13:BlR X .list (.type "list"):=by
 intro pa s σ H ρ S env ds vs us E I rd rv B;match ds,rd,B with
 |[],_,B=>cases B rfl|_::_::_,_,B=>cases B rfl|[d],rd,B=>
  obtain⟨v,rfl,Y⟩:=rd.one;simp only[Xx]at B ⊢;cases e:Xs S d with
  |none=>rw[e]at B;cases B rfl|some xs=>dsimp only;obtain⟨a,L,rfl,U,hr⟩:=I.seq e Y;refine Xez (Q':=λz H'=>∃p,H p=yy/\z=.ref p/\H'=upd H p (.lst L)) Xkg I.inv rv ⟨a,L,rfl,U,λl hl=>⟨l,hl,rfl,rfl⟩⟩ λw s' z H' J rz ⟨p,hp,e1,e2⟩=>?_;subst e1 e2;cases rz;exact Xba J hp I.sr hr
theorem Xbs:∀ {xs:LD} {bs:List Bool},X6 xs=yz bs->xs=bs.map D.bl
 |[],ns,h=>by simp only[X6,Vp]at h;subst h;rfl|.bl i::r,ns,h=>by simp only[X6,V5]at h;obtain⟨ms,h1,rfl⟩:=h;rw[Xbs h1];rfl|.non::_,_,h=>by simp[X6]at h|.int _::_,_,h=>by simp[X6]at h|.str _::_,_,h=>by simp[X6]at h|.tup _::_,_,h=>by simp[X6]at h|.ref _::_,_,h=>by simp[X6]at h|.fro _::_,_,h=>by simp[X6]at h|.fn _ _::_,_,h=>by simp[X6]at h
theorem Xrb(bs:List Bool)(f:Nat->Bool)(h:∀i,f i=(bs[i]?).getD yw):(Vm (la bs)).all f=bs.all id:=by
 rw[Bool.eq_iff_iff,Uf,Uf];constructor;·intro q b J;obtain⟨i,hi,rfl⟩:=Vbr.mp J;have:=q i (by simpa using hi);rw[h i]at this;simpa [hi] using this
 ·intro q i hi;have B:i<la bs:=by simpa using hi
  rw[h i];simp only[B,getElem?_pos,Vb8];exact q _ (Vej B)
theorem Xwd{K:Ve}:∀ {bs:List Bool} {vs:LW},RDs K ρ H (bs.map D.bl) vs->vs=bs.map V.bl
 |[],vs,h=>by simp only[Uk,RDs]at h;exact h|n::ns,vs,h=>by simp only[Uk,RDs]at h;obtain⟨v,r,rfl,h1,h2⟩:=h;simp only[RD]at h1;subst h1;rw[Xwd h2];rfl
theorem S0.its(I:S0 X pa σ H s ρ S env)(h:Xa S n=yz xs)(rd:RD X.K ρ H (.ref n) v)(J:RelV v u):∃a vs its,u=.ref a/\s.heap.IsList a its.toArray/\RDs X.K ρ H xs vs/\Vals vs its/\(la vs)<=Vu:=by obtain⟨a,vs,rfl,h1,h2,L⟩:=I.lstR h rd;cases J;obtain⟨its,r,p,B⟩:=I.inv.list (.of h2);exact⟨a,vs,its,rfl,p.isList,L,r,B⟩
theorem Xk6{its:LV}{Q:VP}(hh:A.handled=yy)(J:s.heap.IsList a its.toArray\/s.heap.IsTuple a its.toArray)
  (h:∀I fp wr St B,Walks prog w A I fp wr (la its) (λi v=>its[i]?=yz v) St->St 0 B.heap->(∀b∈fp,b<B.heap.objs.size) ->
   (∀h' tk,(∀b o,b ∉ wr->B.heap.get? b=yz o->h'.get? b=yz o)->({B with heap:=h',toks:=tk}:Vc)={s with heap:=h',toks:=tk}/\∀b o,s.heap.get? b=yz o->h'.get? b=yz o)->Q (.ref I) B):
  Vf (Vj prog w) A (Vd8 (.ref a)) Q E s:=by
 have Y:∀ {o:Obj},∀h' tk,(∀b ob,b ∉ [s.heap.objs.size]->({s with heap:=s.heap.push o}:Vc).heap.get? b=yz ob->h'.get? b=yz ob)->({ ({s with heap:=s.heap.push o}:Vc) with heap:=h',toks:=tk}:Vc)={s with heap:=h',toks:=tk}/\∀b ob,s.heap.get? b=yz ob->h'.get? b=yz ob:=
  λ{o} h' tk hk=>⟨rfl,λb ob e=>hk b ob (by simp;exact Vz (Vr e)) (Vg _ e)⟩
 have U:∀ {o:Obj} (L:a<s.heap.objs.size),∀b∈[s.heap.objs.size,a],b<(s.heap.push o).objs.size:=λ{o} L b hb=>by
  rw[Vbs];simp at hb;rcases hb with rfl|rfl;·exact Vb9 _
  ·exact Vau L
 rcases J with J|J;·have L:a<s.heap.objs.size:=Vr J.choose_spec.1;refine Vd6 J ?_;have W:=Walks.list (prog:=prog) (w:=w) hh s.heap.objs.size a (Vz L) its.toArray;simp only[Vk,List.getElem?_toArray]at W;exact h _ _ _ _ _ W ⟨⟨_,Vq _ rfl,rfl,rfl⟩,J.at λo e=>Vg _ e⟩ (U L) Y
 ·have L:a<s.heap.objs.size:=Vr J.choose_spec.1;refine Ve6 J ?_;have W:=Walks.tuple (prog:=prog) (w:=w) hh s.heap.objs.size a (Vz L) its.toArray;simp only[Vk,List.getElem?_toArray]at W;exact h _ _ _ _ _ W ⟨⟨_,Vq _ rfl,rfl,rfl⟩,J.at λo e=>Vg _ e⟩ (U L) Y
theorem S0.seqI(I:S0 X pa σ H s ρ S env)(h:Xs S d=yz xs)(rd:RD X.K ρ H d v)(U:RelV v u):∃a vs its,u=.ref a/\(s.heap.IsList a its.toArray\/s.heap.IsTuple a its.toArray)/\RDs X.K ρ H xs vs/\Vals vs its/\(la vs)<=Vu:=by
 obtain⟨a,vs,rfl,B,L⟩:=I.seq h rd;cases U;rcases B with B|B;·obtain⟨its,r,p,J⟩:=I.inv.list B;exact⟨a,vs,its,rfl,.inl p.isList,L,r,J⟩
 ·obtain⟨its,r,p,J⟩:=I.inv.tuple B;exact⟨a,vs,its,rfl,.inr p,L,r,J⟩
theorem Xx3{i:Nat}{v:Vb}:∀ {bs:List Bool} {its:LV},Vals (bs.map V.bl) its->its[i]?=yz v->v=.bool ((bs[i]?).getD yw):=λ{bs its} hv e=>by
 have B:i<la bs:=by have h1:=hv.length;have h2:=(Vh.mp e).1;simp at h1;omega
 obtain⟨u,h1,h2⟩:=hv.get (i:=i) (x:=.bl bs[i]) (by simp[B]);rw[e]at h1;cases h1;simp[B];exact h2
theorem X5m(hc:X.calm=yx):BlR X .all (.builtin "all"):=by
 intro pa s σ H ρ S env ds vs us E I rd rv B;match ds,rd,B with
 |[],_,B=>cases B rfl|d::_::_,_,B=>cases d<;>cases B rfl|[d],rd,B=>
  cases d with
  |ref n=>
   obtain⟨v,rfl,r1⟩:=rd.one;simp only[Xx]at B ⊢;cases e:Xa S n with
   |none=>rw[e]at B;cases B rfl|some xs=>
    rw[e]at B;simp only[V1]at B ⊢;cases Y:X6 xs with
    |none=>rw[Y]at B;cases B rfl|some bs=>
     dsimp only;have q:=Xbs Y;subst q;cases rv with
     |cons ru rr=>
      cases rr;obtain⟨a,ws,its,rfl,hl,hr,hv,hz⟩:=I.its e r1 ru;have hw:=Xwd hr;subst hw;have J:(la its)=la bs:=by rw[<-hv.length];simp
      refine call_all_walk (Xk6 (I.inv.ok.hd hc) (.inl hl) λIt fp wr St U W st hf L=>?_);refine⟨It,fp,wr,_,_,St,λi=>(bs[i]?).getD yw,rfl,W,st,λi v s' Q' E' hP hQ=>?_,λh' tk hk=>?_⟩;·rw[Xx3 hv hP];exact Vbv hQ
      ·obtain⟨e3,k3⟩:=L h' tk hk;rw[e3,J,Xrb bs _ λ_=>rfl];exact X0 I.sr (I.inv.kept k3)
  |_=>cases B rfl
theorem Xtn{i:Nat}{v:Vb}{ns:LI}{its:LV}(hv:Vals (ns.map V.int) its)(e:its[i]?=yz v):∃t,v=.int ((ns[i]?).getD 0) t:=by
 have B:i<la ns:=by have h1:=hv.length;have h2:=(Vh.mp e).1;simp at h1;omega
 obtain⟨u,h1,h2⟩:=hv.get (i:=i) (x:=.int ns[i]) (by simp[B]);rw[e]at h1;cases h1;simp[B];exact h2
theorem Xfn(ns:LI):∀k,k<=la ns->preSum (λi=>(ns[i]?).getD 0) k=(ns.take k).sum
 |0=>λ_=>by simp[preSum]|k+1=>λh=>by
  have B:k<la ns:=by omega
  rw[preSum,Xfn ns k (by omega),List.take_succ_eq_append_getElem B,List.sum_append];simp[B]
theorem X5n(hc:X.calm=yx):BlR X .smB (.builtin "sum"):=by
 intro pa s σ H ρ S env ds vs us E I rd rv B;match ds,rd,B with
 |[],_,B=>cases B rfl|_::_::_,_,B=>cases B rfl|[d],rd,B=>
  obtain⟨v,rfl,r1⟩:=rd.one;simp only[Xx]at B ⊢;cases e:Xs S d with
  |none=>rw[e]at B;cases B rfl|some xs=>
   rw[e]at B;simp only[V1]at B ⊢;cases e2:Xi xs with
   |none=>rw[e2]at B;cases B rfl|some Y=>
    dsimp only;have q:=Xac e2;subst q;cases rv with
    |cons ru rr=>
     cases rr;obtain⟨a,ws,its,rfl,hl,hr,hv,hz⟩:=I.seqI e r1 ru;have hw:=hr.ints_of;subst hw;have L:(la its)=la Y:=by rw[<-hv.length];simp
     refine call_sum_walkAnyS (Xk6 (I.inv.ok.hd hc) hl λIt fp wr St J W st hf U=>?_);refine⟨It,fp,wr,_,_,_,_,λi=>(Y[i]?).getD 0,rfl,W.toS,st,hf,λi v hP=>Xtn hv hP,λs' t' hm=>?_⟩;obtain⟨h1,h2,h3,h4,h5⟩:=hm;obtain⟨e3,k3⟩:=U s'.heap s'.toks h1;have e4:s'={J with heap:=s'.heap,toks:=s'.toks}:=by cases s';cases J;simp only at h2 h3 h4;subst h2 h3 h4;rfl
     rw[e4,e3,L,Xfn Y _ (Vl _),Vca];exact Yx I.sr (I.inv.kept k3)
theorem X14(U:X.calm=yx)(I:S0 X pa σ H s ρ S env)(B:RelV (.int i) v')(L:RelV (.int j) u'):Vf (Vj X.prog X.w) X.A (call (.builtin "max") [v',u']) (OkP X pa σ ρ H (Xx .max [.int i,.int j] S)) E s:=
 Xez (Q':=λz H'=>z=.int (if j>i then j else i)/\H'=H) (Xqj U) I.inv (.cons B (.cons L .nil)) ⟨i,j,rfl,rfl,rfl⟩ λw s' z H' J rz ⟨e1,e2⟩=>by subst e1 e2;obtain⟨t,rfl⟩:=rz;exact Yx I.sr J
theorem X15(hc:X.calm=yx){i j:Int}{B L:Vb}(I:S0 X pa σ H s ρ S env)(U:RelV (.int i) B)(Y:RelV (.int j) L):Vf (Vj X.prog X.w) X.A (call (.builtin "min") [B,L]) (OkP X pa σ ρ H (Xx .min [.int i,.int j] S)) E s:=
 Xez (Q':=λz H'=>z=.int (if j<i then j else i)/\H'=H) (Xqk hc) I.inv (.cons U (.cons Y .nil)) ⟨i,j,rfl,rfl,rfl⟩ λw s' z H' J rz ⟨e1,e2⟩=>by subst e1 e2;obtain⟨t,rfl⟩:=rz;exact Yx I.sr J
theorem X5o(hc:X.calm=yx):BlR X .max (.builtin "max"):=by
 intro pa s σ H ρ S env ds vs us E I rd rv B;match ds,rd,B with
 |[],_,B=>cases B rfl|[d],rd,B=>cases d<;>cases B rfl|[d,e],rd,B=>
  obtain⟨v,u,rfl,U,Y⟩:=rd.two;cases d with
  |int i=>cases e with
   |int j=>
    simp only[RD]at U Y;subst U Y;cases rv with
    |cons ru L=>cases L with
     |cons J L=>cases L;exact X14 hc I ru J
   |_=>cases B rfl
  |_=>cases e<;>cases B rfl
 |d::e::_::_,_,B=>cases d<;>(try cases e)<;>cases B rfl
theorem X5p(hc:X.calm=yx):BlR X .min (.builtin "min"):=by
 intro pa s σ H ρ S env ds vs us E I rd rv B;match ds,rd,B with
 |[],_,B=>cases B rfl|[d],rd,B=>cases d<;>cases B rfl|[d,e],rd,B=>
  obtain⟨v,u,rfl,U,Y⟩:=rd.two;cases d with
  |int i=>cases e with
   |int j=>
    simp only[RD]at U Y;subst U Y;cases rv with
    |cons ru L=>cases L with
     |cons J L=>cases L;exact X15 hc I ru J
   |_=>cases B rfl
  |_=>cases e<;>cases B rfl
 |d::e::_::_,_,B=>cases d<;>(try cases e)<;>cases B rfl
def MtD(X:Cx)(k:Mt)(id:String):Prop:=
 ∀(pa:LA) (s:Vc) (σ:L2.St) (H:Hp) (ρ:LR) (S:Sto) (env:En) (d:D) (v:V) (u:Vb) (ds:LD) (vs:LW) (us:LV) (E:VP),S0 X pa σ H s ρ S env->RD X.K ρ H d v->RelV v u->RDs X.K ρ H ds vs->Vals vs us->Yr k d ds S≠.bad ->
  Vf (Vj X.prog X.w) X.A (call (.builtin id) (u::us)) (OkP X pa σ ρ H (Yr k d ds S)) E s
theorem Xho{n:Nat}{a:Addr}{xs:LD}{vs:LW}{s':Vc}{d:D}{v:V}{u:Vb}(I:S0 X pa σ H s ρ S env)(L:ρ[n]?=yz a)(hv:H a=yz (.lst ws))(J:Inv X pa σ (upd H a (.lst vs)) s')(rd:RDs X.K ρ H xs vs)(Y:RelV v u)(B:RD X.K ρ H d v):
  OkP X pa σ ρ H (.ok d (S.set n (.lst xs))) u s':=by
 have U:∀o u,H a≠yz (.frz o u):=λo u z=>by rw[hv]at z;cases z
 have st:Stp X.K ρ ρ H (upd H a (.lst vs)):=Stp.chg (S:=S) (o:=.lst xs) I.sr L U;exact .mk st J Y (B.mono st) (I.sr.chg L U ⟨vs,Xm,rd.mono st⟩)
theorem Xto:MtD X .append "list.append":=by
 intro pa s σ H ρ S env d v u ds vs us E I rd rv L U B;match d,ds,L,rd,B with
 |.ref n,[x],L,rd,B=>
  obtain⟨y,rfl,r1⟩:=L.one;simp only[Yr]at B ⊢;cases e:Z.lstM S n with
  |none=>rw[e]at B;cases B rfl|some xs=>
   rw[e]at B;dsimp only at B ⊢;split at B;·rename_i hz;rw[iP0 hz];obtain⟨a,ws,rfl,ha,hv,Y⟩:=I.lstR e rd;refine mtd (Q':=λz H'=>z=.non/\H'=upd H a (.lst (ws++[y]))) Xi2 I.inv rv U ⟨a,ws,y,rfl,rfl,hv,by rw[<-Y.length];exact V0 hz Xeb,rfl,rfl⟩ λw s' z H' J rz ⟨e1,e2⟩=>?_;subst e1 e2;exact Xho I ha hv J (Y.append (.cons r1 .nil)) rz (by simp only[RD])
   ·cases B rfl
 |.ref n,[],_,_,B=>cases B rfl|.ref n,_::_::_,_,_,B=>cases B rfl|.non,ds,_,_,B=>cases ds<;>cases B rfl|.bl _,ds,_,_,B=>cases ds<;>cases B rfl|.int _,ds,_,_,B=>cases ds<;>cases B rfl|.str _,ds,_,_,B=>cases ds<;>cases B rfl|.tup _,ds,_,_,B=>cases ds<;>cases B rfl|.fro _,ds,_,_,B=>cases ds<;>cases B rfl
theorem X5q:MtD X .xtd "list.extend":=by
 intro pa s σ H ρ S env d v u ds vs us E I rd rv Y ab B;match d,ds,Y,rd,B with
 |.ref n,[x],Y,rd,B=>
  obtain⟨y,rfl,r1⟩:=Y.one;cases x with
  |ref k=>
   simp only[Yr]at B ⊢;cases e:Z.lstM S n with
   |none=>rw[e]at B;cases B rfl|some xs=>
    rw[e]at B;dsimp only at B ⊢;cases U:Xa S k with
    |none=>rw[U]at B;cases B rfl|some ys=>
     rw[U]at B;dsimp only at B ⊢;split at B;·rename_i hz;rw[iP0 hz];obtain⟨a,ws,rfl,ha,hv,hr⟩:=I.lstR e rd;obtain⟨b,zs,rfl,hb,hw,hq⟩:=I.lstR U r1;refine mtd (Q':=λz H'=>z=.non/\H'=upd H a (.lst (ws++zs))) Xql I.inv rv ab ⟨a,b,ws,zs,rfl,rfl,hv,hw,by rw[<-hr.length,<-hq.length];exact Ul hz Xeb,rfl,rfl⟩ λw s' z H' J rz ⟨e1,U⟩=>?_;subst e1 U;exact Xho I ha hv J (hr.append hq) rz (by simp only[RD])
     ·cases B rfl
  |tup ys=>
   simp only[Yr]at B ⊢;cases e:Z.lstM S n with
   |none=>rw[e]at B;cases B rfl|some xs=>
    rw[e]at B;dsimp only at B ⊢;split at B
    ·rename_i hz;rw[iP0 hz];obtain⟨a,ws,rfl,ha,hv,hr⟩:=I.lstR e rd;simp only[RD]at r1;obtain⟨b,zs,rfl,hs,hq⟩:=r1;cases rv;obtain⟨u2,rfl,ai⟩:=ab.one;cases ai;have af:ws.length+la zs<=Vu:=by rw[<-hr.length,<-hq.length];exact Ul hz Xeb
     obtain⟨z,its,c,ah,hl,eo⟩:=I.inv.lstM hv;obtain⟨L,r2,⟨o2,U,ac,n2,ae⟩,al⟩:=I.inv.tuple hs;have ak:=r2.length;have aj:its.toArray.size+L.toArray.size<=Vu:=by rw[Vk,Vk];omega
     have aa:¬ (!its.toArray.isEmpty&&Vcg (its.toArray.size+L.toArray.size))=true:=by rw[Xft aj,Veb];exact Ui
     refine Vaq F.slot_list_extend ⟨_,eo,rfl⟩ F.entry_list_extend ?_ (F.args_list_extend_2 _ _);show Vf _ _ (Vas (.ref a) (.ref b) .none) _ _ s;unfold Vas;refine Va (Vbm (T:="tuple") ⟨o2,U,ac⟩ ?_);rw[iP0 (by rw[show(Vbc "tuple" == Vbc "tuple")=yx from rfl];simp)];refine Va (Vdk U ae (Va (Vdk eo rfl ?_)));rw[iN0 aa];refine Va (Vcm eo rfl (Vd ⟨_,rfl,?_⟩) (by rw[Vk];omega) (by rw[Array.size_append];omega));exact Xho I ha hv (I.inv.lset (its':=its++L) hv eo (by simp) (ah.append r2) (by rw[Ur];exact af)) (hr.append hq) (show RelV .non Vad from rfl) (by simp only[RD])
    cases B rfl
  |_=>cases B rfl
 |.ref n,[],_,_,B=>cases B rfl|.ref n,_::_::_,_,_,B=>cases B rfl|.non,ds,_,_,B=>cases ds<;>cases B rfl|.bl _,ds,_,_,B=>cases ds<;>cases B rfl|.int _,ds,_,_,B=>cases ds<;>cases B rfl|.str _,ds,_,_,B=>cases ds<;>cases B rfl|.tup _,ds,_,_,B=>cases ds<;>cases B rfl|.fro _,ds,_,_,B=>cases ds<;>cases B rfl
theorem X7w(n:Nat)(i:Int)(k:Nat)(h:Z.ixN n i=yz k):seqIndex? i n=yz k:=by
 unfold Z.ixN at h;unfold seqIndex?;dsimp only;by_cases h0:0<=i
 ·rw[iP0 h0]at h;split at h;·rename_i B;rw[iN0 (Int.not_lt.mpr h0),decide_eq_true h0,decide_eq_true B];exact h
  ·cases h
 rw[iN0 h0]at h;split at h;·rw[iP0 (Int.not_le.mp h0),decide_eq_true (show 0<=i+(n:Int) by omega),decide_eq_true (show i+(n:Int)<n by omega)];exact h
 ·cases h
theorem RDs.erase{K:Ve}{ρ:LR}{H:Hp}:∀ {xs:LD} {vs:LW} (j:Nat),RDs K ρ H xs vs->RDs K ρ H (xs.eraseIdx j) (vs.eraseIdx j)
 |[],vs,j,h=>by simp only[RDs]at h;subst h;simp only[List.eraseIdx_nil,RDs]|x::xs,vs,0,h=>by simp only[RDs]at h;obtain⟨v,B,rfl,_,h2⟩:=h;exact h2|x::xs,vs,j+1,h=>by simp only[RDs]at h;obtain⟨v,B,rfl,h1,h2⟩:=h;simp only[List.eraseIdx_cons_succ,RDs];exact⟨_,_,rfl,h1,RDs.erase j h2⟩
end
section
variable{X:Cx}{pa:LA}{σ:L2.St}{H:Hp}{s:Vc}{ρ:LR}{S S':Sto}{env:En}{a b c e:Expr}{f fa fb fc:En->Sto->R D}{pos:Pos}
theorem Xwe(L:DE X a fa):DE X (.UnaryOp .USub a pos) (λenv S=>(fa env S).bind λx S=>match x with | .int i=>.ok (.int (-i)) S|_=>.bad):=by
 intro pa s σ H ρ S env I B;dsimp only at B ⊢;cases q:fa env S with
 |bad=>rw[q]at B;cases B rfl|ex n S1=>exact UnaryOp_ (L.ex I q λx s' z=>⟨n,S1,rfl,z⟩)|ok x S1=>
  rw[q]at B;simp only[Rk0]at B ⊢;refine UnaryOp_ (L.ok I q λu s1 v H1 aa U Y rd J=>?_);cases x with
  |int i=>simp only[RD]at rd;subst rd;obtain⟨t,rfl⟩:=Y;exact neg_int (OkP.pre J (Yx U.sr (U.inv.tok _)))|_=>cases B rfl
theorem X16(hc:DT X c (λenv S=>tst (fc env S)))(ha:DT X a (λenv S=>tst (fa env S)))(hb:DT X b (λenv S=>tst (fb env S))):
  DT X (.IfExp c a b pos) (λenv S=>tst ((fc env S).bind λx S=>match Xh S x with|some yx=>fa env S|some yw=>fb env S|none=>.bad)):=by
 intro pa s σ H ρ S env I B;dsimp only at B ⊢;show Vf _ _ (do if <- isTrue c X.env (eval c X.env) then isTrue a X.env (eval a X.env) else isTrue b X.env (eval b X.env)) _ _ s;cases q:fc env S with
 |bad=>rw[q]at B;cases B rfl|ex n S1=>exact Va (hc.ex I (by simp only[q];rfl) λx s' z=>⟨n,S1,rfl,z⟩)|ok x S1=>
  rw[q]at B;simp only[Rk0]at B ⊢;cases t:Xh S1 x with
  |none=>rw[t]at B;cases B rfl|some r=>
   rw[t]at B;refine Va (hc.ok I (by simp only[q];exact Xbg t) λU H2 L Y J=>?_);cases r with
   |true=>exact Vo (ha pa U σ H2 L S1 env Y B) (λw s3 ⟨S3,e3,H3,ρ3,J3,sr3,st3⟩=>⟨S3,e3,H3,ρ3,J3,sr3,J.trans st3⟩) λx s' z=>z.pre J|false=>exact Vo (hb pa U σ H2 L S1 env Y B) (λw s3 ⟨S3,e3,H3,ρ3,J3,sr3,st3⟩=>⟨S3,e3,H3,ρ3,J3,sr3,J.trans st3⟩) λx s' z=>z.pre J
noncomputable def Yz(J B:Co)(fa fb fc:En->Sto->R D)(env:En)(S:Sto):R D:=(fa env S).bind λx S=>(fb env S).bind λy S=>match X7 J x y S with
  |some yx=>(fc env S).bind λz S=>Xj B y z S|some yw=>.ok (.bl yw) S|none=>.bad
theorem Xk7(af:Op2 X (Van (opC o1)) (Xj o1))(ha:DE X a fa)(hb:DE X b fb)(I:S0 X pa σ H s ρ S env)(U:Yz o1 o2 fa fb fc env S≠.bad)
  {W:Vb->Vb->Bool->Vc->Prop} (hE:∀x s',ExP X pa σ ρ H (Yz o1 o2 fa fb fc env S) x s'->Ev x s')
  (hF:∀v u J S2 H2 B,Yz o1 o2 fa fb fc env S=.ok (.bl yw) S2->S0 X pa σ H2 J B S2 env->Stp X.K ρ B H H2->W v u yw J)
  (hT:∀v u J S2 y vy H2 B,Yz o1 o2 fa fb fc env S=((fc env S2).bind λz S=>Xj o2 y z S)->S0 X pa σ H2 J B S2 env->RelV vy u->RD X.K B H2 y vy->Stp X.K ρ B H H2->W v u yx J):
  Vf (Vj X.prog X.w) X.A (eval a X.env) (λv s1=>Vf (Vj X.prog X.w) X.A (eval b X.env) (λu s2=>Vf (Vj X.prog X.w) X.A (Van (opC o1) v u) (λd J=>∃r,d=.bool r/\W v u r J) Ev s2) Ev s1) Ev s:=by
 cases q:fa env S with
 |bad=>rw[Yz,q]at U;cases U rfl|ex n S1=>exact ha.ex I q λx s' z=>hE x s' ⟨n,S1,by rw[Yz,q];rfl,z⟩|ok x S1=>
  refine ha.ok I q λv s1 vx H1 aj I1 rv rd aa=>?_;cases q2:fb env S1 with
  |bad=>rw[Yz,q]at U;simp only[Rk0]at U;rw[q2]at U;cases U rfl|ex n S2=>exact hb.ex I1 q2 λx s' z=>hE x s' ⟨n,S2,by rw[Yz,q];simp only[Rk0];rw[q2];rfl,z.pre aa⟩|ok y S2=>
   refine hb.ok I1 q2 λu s2 vy H2 B I2 ru ac Y=>?_
   have eq:Yz o1 o2 fa fb fc env S=(match X7 o1 x y S2 with
     |some yx=>(fc env S2).bind λz S=>Xj o2 y z S|some yw=>.ok (.bl yw) S2
     |none=>.bad):=by rw[Yz,q];simp only[Rk0];rw[q2];rfl
   cases q3:X7 o1 x y S2 with
   |none=>rw[eq,q3]at U;cases U rfl|some r=>
    have e3:Xj o1 x y S2=.ok (.bl r) S2:=by unfold Xj;rw[q3]
    refine Vo (af pa s2 σ H2 B S2 env x y vx vy v u (λ_ _=>False) I2 (by rw[e3];exact λz=>nomatch z) (rd.mono Y) rv ac ru) (λd J z=>?_) λ_ _ z=>z.elim;rw[e3]at z;obtain⟨d',S3,e4,w,H3,ab,J3,ai,ae,ah,L⟩:=z;cases e4;simp only[RD]at ae;subst ae;cases ai;refine⟨r,rfl,?_⟩;have I3:S0 X pa σ H3 J ab S2 env:=I2.step J3 ah L;cases r with
    |false=>exact hF v u J S2 H3 ab (by rw[eq,q3]) I3 (aa.trans (Y.trans L))|true=>exact hT v u J S2 y vy H3 ab (by rw[eq,q3]) I3 ru (ac.mono L) (aa.trans (Y.trans L))
theorem Xk8(ae:Op2 X (Van (opC o2)) (Xj o2))(hc:DE X c fc)(I:S0 X pa σ H s ρ S env)(ru:RelV vy u)(rd:RD X.K ρ H y vy)(L:Stp X.K ρ0 ρ H0 H)
  (J:((fc env S).bind λz S=>Xj o2 y z S)≠.bad) (hE:∀x s',ExP X pa σ ρ0 H0 ((fc env S).bind λz S=>Xj o2 y z S) x s'->Ev x s')
  (hW:∀r S3 s3 H3 B,((fc env S).bind λz S=>Xj o2 y z S)=.ok (.bl r) S3->S0 X pa σ H3 s3 B S3 env->Stp X.K ρ0 B H0 H3->W (.bool r) s3):
  Vf (Vj X.prog X.w) X.A (eval c X.env) (λw s1=>Vf (Vj X.prog X.w) X.A (Van (opC o2) u w) W Ev s1) Ev s:=by
 cases q:fc env S with
 |bad=>rw[q]at J;cases J rfl|ex n S1=>exact hc.ex I q λx s' z=>hE x s' ⟨n,S1,by rw[q];rfl,z.pre L⟩|ok z S1=>rw[q]at J;simp only[Rk0]at J;refine hc.ok I q λw s1 vz H1 af I1 rv ah aa=>?_;obtain⟨r,e1,e2⟩:=Xcd J;refine Vo (ae pa s1 σ H1 af S1 env y z vy vz u w (λ_ _=>False) I1 J (rd.mono aa) ru ah rv) (λd s3 zz=>?_) λ_ _ z=>z.elim;rw[e2]at zz;obtain⟨d',S3,e4,w',H3,B,J3,ac,Y,ab,U⟩:=zz;cases e4;simp only[RD]at Y;subst Y;cases ac;exact hW r S1 s3 H3 B (by rw[q];exact e2) (I1.step J3 ab U) (L.trans (aa.trans U))
theorem X5r(Y:Op2 X (Van (opC o1)) (Xj o1))(aa:Op2 X (Van (opC o2)) (Xj o2))(ha:DE X a fa)(hb:DE X b fb)(hc:DE X c fc)(hm:lastMarks [opC o1,opC o2] [b,c]=yw):
  DE X (.Compare a [opC o1,opC o2] [b,c] pos) (Yz o1 o2 fa fb fc):=by
 intro pa s σ H ρ S env I nb;refine Compare_chain (Vo (Xk7 (W:=λv u r J=>if r=yx then Vf (Vj X.prog X.w) X.A (compareChain pos u [opC o2] [eval c X.env]) (OkP X pa σ ρ H (Yz o1 o2 fa fb fc env S)) (ExP X pa σ ρ H (Yz o1 o2 fa fb fc env S)) J else OkP X pa σ ρ H (Yz o1 o2 fa fb fc env S) (.bool yw) J) Y ha hb I nb (λ_ _ z=>z) ?_ ?_)
  (λv s1 h1=>chain_link (Vo h1 (λu s2 h2=>Vo h2 (λd J ⟨r,e,w⟩=>?_) λ_ _ z=>z) λ_ _ z=>z)) λ_ _ z=>z) hm
 ·intro v u J S2 H2 ab e L B;rw[iN0 Ui,e];exact OkP.pre B (X0 L.sr L.inv)
 ·intro v u J S2 y vy H2 ab e L ru rd B;rw[iP0 rfl];refine chain_last (Xk8 aa hc L ru rd B (by rw[<-e];exact nb) (λx s' z=>by rw[e];exact z) λr S3 s4 H3 ac e3 I3 U=>?_);rw[e,e3];exact OkP.pre U (X0 I3.sr I3.inv)
 ·subst e;refine Vbv ?_;cases r with
  |true=>rw[iP0 rfl]at w;exact ite_tt w|false=>rw[iN0 Ui]at w;exact ite_ff w
theorem X17(aa:Op2 X (Van (opC o1)) (Xj o1))(ac:Op2 X (Van (opC o2)) (Xj o2))(ha:DE X a fa)(hb:DE X b fb)(hc:DE X c fc)(hm:lastMarks [opC o1,opC o2] [b,c]=yw):
  DT X (.Compare a [opC o1,opC o2] [b,c] pos) (λenv S=>tst (Yz o1 o2 fa fb fc env S)):=by
 intro pa s σ H ρ S env I nb;dsimp only at nb ⊢;have J:Yz o1 o2 fa fb fc env S≠.bad:=λz=>nb (by rw[z];rfl);have ex:∀x s',ExP X pa σ ρ H (Yz o1 o2 fa fb fc env S) x s'->ExP X pa σ ρ H (tst (Yz o1 o2 fa fb fc env S)) x s':=λx s' ⟨n,S1,e,z⟩=>⟨n,S1,by rw[e];rfl,z⟩
 refine isTrue_chain (Vo (Xk7 (W:=λv u r L=>if r=yx then Vf (Vj X.prog X.w) X.A (testChain pos u [opC o2] [eval c X.env]) (λb s'=>∃S',tst (Yz o1 o2 fa fb fc env S)=.ok b S'/\∃H' ρ',Inv X pa σ H' s'/\SR X.K ρ' S' H'/\Stp X.K ρ ρ' H H') (ExP X pa σ ρ H (tst (Yz o1 o2 fa fb fc env S))) L
   else ∃S',tst (Yz o1 o2 fa fb fc env S)=.ok yw S'/\∃H' ρ',Inv X pa σ H' L/\SR X.K ρ' S' H'/\Stp X.K ρ ρ' H H') aa ha hb I J ex ?_ ?_)
  (λv s1 h1=>test_link (Vo h1 (λu s2 h2=>Vo h2 (λd L ⟨r,e,w⟩=>?_) λ_ _ z=>z) λ_ _ z=>z)) λ_ _ z=>z) hm
 ·intro v u L S2 H2 U e Y B;rw[iN0 Ui,e];exact⟨S2,rfl,H2,U,Y.inv,Y.sr,B⟩
 ·intro v u L S2 y vy H2 U e Y ru rd B;rw[iP0 rfl];refine test_last (Xk8 ac hc Y ru rd B (by rw[<-e];exact J) (λx s' z=>ex x s' (by rw[e];exact z)) λr S3 s4 H3 ae e3 I3 ab=>?_);exact Vbv ⟨S3,by rw[e,e3];rfl,H3,ae,I3.inv,I3.sr,ab⟩
 ·subst e;refine Vbv ?_;cases r with
  |true=>rw[iP0 rfl]at w;exact ite_tt w|false=>rw[iN0 Ui]at w;exact ite_ff w
variable{x:Str}{p:Pos}{es:LX}{g:En->Sto->R (LD)}{k:Bl}{id T:String}
theorem X18 (hB:BlR X k (.builtin id)) (hg:Gl X x) (hm:X.mg x=yy) (hv:Vdg x=yz (.builtin id)) (ha:DA X (e::es) g) (hn:x ≠ "__name__") (U:(x==("__debug__" : Str))=yw)
  (he:V7 (e::es) X.env=(yw,eval e X.env)::V7 es X.env) (B:(Vbu pos (V7 es X.env)).any (·.1)=yw):DE X (.Call (.Name x p) (e::es) [] pos) (λenv S=>(g env S).bind λxs S=>Xx k xs S):=by
 intro pa s σ H ρ S env I J;dsimp only at J ⊢;refine Vai (Yn I.inv hg hm hv ?_ hn U);cases q:g env S with
 |bad=>rw[q]at J;cases J rfl|ex n S1=>exact Vay (ha.ex I q λx s' z=>⟨n,S1,rfl,z⟩) he B|ok ds S1=>rw[q]at J;refine Vay (ha.ok I q λus s1 vs H1 L I1 rv rd Y=>?_) he B;exact Vo (hB pa s1 σ H1 L S1 env ds vs us (λ_ _=>False) I1 rd rv J) (λw s2 z=>z.pre Y) λ_ _ z=>z.elim
theorem X19 (hB:BlR X k (.type T)) (hg:Gl X x) (hm:X.mg x=yy) (hv:Vdg x=yz (.type T)) (ha:DA X (e::es) g) (hn:x ≠ "__name__") (U:(x==("__debug__" : Str))=yw)
  (he:V7 (e::es) X.env=(yw,eval e X.env)::V7 es X.env) (B:(Vbu pos (V7 es X.env)).any (·.1)=yw):DE X (.Call (.Name x p) (e::es) [] pos) (λenv S=>(g env S).bind λxs S=>Xx k xs S):=by
 intro pa s σ H ρ S env I J;dsimp only at J ⊢;refine Vai (Yn I.inv hg hm hv ?_ hn U);cases q:g env S with
 |bad=>rw[q]at J;cases J rfl|ex n S1=>exact Vaj (ha.ex I q λx s' z=>⟨n,S1,rfl,z⟩) he B|ok ds S1=>rw[q]at J;refine Vaj (ha.ok I q λus s1 vs H1 L I1 rv rd Y=>?_) he B;exact Vo (hB pa s1 σ H1 L S1 env ds vs us (λ_ _=>False) I1 rd rv J) (λw s2 z=>z.pre Y) λ_ _ z=>z.elim
theorem X5s (hg:Gl X x) (L:X.mg x=yz u) (hd:∀ ρ H,∃v,RelV v u/\RD X.K ρ H d v) (B:(x==("__debug__" : Str))=yw):DE X (.Name x p) (λ_ S=>.ok d S):=by intro pa s σ H ρ S env I U;obtain⟨v,J,rd⟩:=hd ρ H;exact Xda I.inv hg L (.mk .refl I.inv J rd I.sr) B
theorem Xgs (slot:Slot "list" name id) (ah:typeOf (.builtin id)=pure (.type "method_descriptor")) (hM:MtD X m id) (hr:∀x S,Xa4 m x S=yx->∃n xs,x=.ref n/\Xa S n=yz xs) (ho:DE X o fo) (ha:DA X (e::es) g)
  (L:attributeBase o name X.env (eval o X.env)=eval o X.env)
  (Y:((Vbu cpos (V7 (e::es) X.env)).all (λx=>!x.1)&&(backToKw cpos (keywordEach [] X.env)).all (λx=>x.1.isSome)&&decide ((e::es).length+([]:List Keyword).length+(if ([]:List Keyword).isEmpty then 0 else 1)<30))=yx)
  (U:(apos.endLine==cpos.line)=yx) (hs:V7 (e::es) X.env=(yw,eval e X.env)::V7 es X.env) (B:(Vbu cpos (V7 es X.env)).any (·.1)=yw):
  DE X (.Call (.Attribute o name apos) (e::es) [] cpos) (λenv S=>(fo env S).bind λx S=>if Xa4 m x S then (g env S).bind λxs S=>Yr m x xs S else .bad):=by
 intro pa s σ H ρ S env I J;dsimp only at J ⊢;cases q:fo env S with
 |bad=>rw[q]at J;cases J rfl|ex n S1=>exact wpAny_Call_method_late L Y U rfl (ho.ex I q λx s' z=>⟨n,S1,rfl,z⟩)|ok x S1=>
  rw[q]at J;simp only[Rk0]at J ⊢;split at J
  ·rename_i hk;rw[iP0 hk];obtain⟨n,xs,rfl,hx⟩:=hr x S1 hk;refine wpAny_Call_method_late L Y U rfl (ho.ok I q λv s1 vx H1 ai I1 rv rd ab=>?_);obtain⟨a,ws,rfl,k1,k2,k3⟩:=I1.lstR hx rd;cases rv;obtain⟨its,_,pl,_⟩:=I1.inv.list (.of k2);refine⟨"list",id,PySem.F.plainAttrs_list,slot,ah,pl.isList.typeIs,λb eb=>?_,?_⟩;·cases eb;obtain⟨ob,n',e1,c1,hd,_⟩:=pl;exact⟨ob,e1,hd⟩
   ·cases q2:g env S1 with
    |bad=>rw[q2]at J;cases J rfl|ex k S2=>have hA:=ha.ex (pos:=cpos) (E:=ExP X pa σ ρ H (.ex k S2:R D)) (Q:=λus s2=>Vf (Vj X.prog X.w) X.A (call (.builtin id) (.ref a::us)) (OkP X pa σ ρ H (.ex k S2)) (ExP X pa σ ρ H (.ex k S2:R D)) s2) I1 q2 λx s' z=>.mk ab z;rw[hs]at hA ⊢;exact Calls.callWith_builtin (by show(yw||(Vbu cpos (V7 es X.env)).any (·.1))=yw;rw[B];rfl) (Vgb hA)|ok ds S2=>rw[q2]at J;simp only[Rk0]at J ⊢;have hA:=ha.ok (pos:=cpos) (E:=ExP X pa σ ρ H (Yr m (.ref n) ds S2)) (Q:=λus s2=>Vf (Vj X.prog X.w) X.A (call (.builtin id) (.ref a::us)) (OkP X pa σ ρ H (Yr m (.ref n) ds S2)) (ExP X pa σ ρ H (Yr m (.ref n) ds S2)) s2) I1 q2 λus s2 vs H2 af I2 ae ac aa=>Vo (hM pa s2 σ H2 af S2 env (.ref n) (.ref a) (.ref a) ds vs us (λ_ _=>False) I2 (rd.mono aa) rfl ac ae J) (λw s3 z=>z.pre (ab.trans aa)) λ_ _ z=>z.elim;rw[hs]at hA ⊢;exact Calls.callWith_builtin (by show(yw||(Vbu cpos (V7 es X.env)).any (·.1))=yw;rw[B];rfl) (Vgb hA)
  cases J rfl
variable{E:VP}
theorem X2a(hu:X.A.units+1<Vbe)(I:S0 X pa σ H s ρ S env)(e1:Xbr S n=yz kvs)(e2:Xi ks=yz r)(Y:RD X.K ρ H (.tup ks) vx)(qx:RelV vx ux)(L:RD X.K ρ H (.ref n) vy)(qy:RelV vy uy):
  Vf (Vj X.prog X.w) X.A (Van .In ux uy) (OkP X pa σ ρ H (.ok (.bl (X5 kvs r).isSome) S)) E s:=by
 obtain⟨a,o,xs,ha,ho,f,J,_⟩:=I.dic e1;obtain⟨ys,q,dd⟩:=X5i I.inv ho f J;rw[RD]at L;obtain⟨a',rfl,B⟩:=L;rw[ha]at B;cases B;cases qy;obtain⟨b,rfl,hb⟩:=X1o e2 Y;cases qx;refine wpAny_in_heap (knd:=Vfx (Ver X.prog X.w)) (k:=r) (tupleKind_room_in1 hu) (Xe1 I.inv hb) f.1 dd ?_;have g:=X1l (k:=r) J q;have z:(atKey ys r).isSome=(X5 kvs r).isSome:=by
  cases U:X5 kvs r with
  |none=>rw[U]at g;rw[g];rfl|some d'=>rw[U]at g;obtain⟨c,v,u,g1,g2,g3⟩:=g;rw[g1];rfl
 rw[z];exact .mk (v:=.bl (X5 kvs r).isSome) .refl (I.inv.tok _) rfl (by simp only[RD]) I.sr
end
section
variable{prog:Vy}{w:V9}{A:Uq}{E:VP}{s:Vc}
theorem Xrc:typeLookup (.type "list") "keys"=pure none:=am_miss_of_fast (by kernel_rfl)
theorem Xrd {a:Addr} {xs:AV} {k:Nat} {Q:OV->Vc->Prop} (L:s.heap.get? a=yz (V3 "list" xs k)) (Y:A.handled=yy)
  (h:∀h' tk,(∀b o,s.heap.get? b=yz o->h'.get? b=yz o)->Q yy {s with heap:=h',toks:=tk}):Vf (Vj prog w) A (getAttr? (.ref a) "keys") Q E s:=by
 obtain⟨U,g,d,tk,os⟩:=s;have hT:∀J,(⟨U,g,d,J,os⟩:Vc).TypeIs (.ref a) "list":=λ_=>⟨_,L,rfl⟩;have f1:=sub_AttributeError;have f3:=PySem.F.slot_list_getattribute.lookup;have f4:=PySem.F.slot_list_getattribute.bind (.ref a);have f5:=am_list_getattr_none;unfold getAttr? getAttrBy? getAttrBy
 repeat (any_goals (first|assumption|exact hT _|((with_reducible show Vf _ _ (call (Vfr "list.__getattribute__") _ _) _ _ _);refine Vct PySem.F.slot_list_getattribute (hT _) am_entry_list_getattribute (PySem.F.args_list_getattribute_2 _ _) (meets_getattribute_miss_list a xs k #[] "keys" _ Xrc (by decide+kernel) (by size_fits)) ⟨L,Y,λh' J e B=>?_⟩)|wp_step))
 obtain⟨t',u',he⟩:=B.there;show Vf _ _ (getattributeRaised _ _ _ _ _ _ _) _ _ _;unfold getattributeRaised
 repeat (any_goals (first|assumption|wp_step))
 exact h h' _ B.of.keeps
theorem Xjd:entryFor table "dict.update.loop"=yz Vbb.«dict.update.loop»:=entryFor_of_tree (by kernel_rfl)
theorem Xc0:plainId "dict.update.loop"=true:=by decide+kernel
noncomputable abbrev tkd(prog:Vy)(w:V9):=Vfx (Ver prog w)
noncomputable abbrev Xa7(ys:List (LI×Addr×Vb))(p:LI×Addr×Vb):=storedH ys p.1 p.2.1 p.2.2
theorem Xf2:∀(l ys:List (LI×Addr×Vb)),(l.foldl Xa7 ys).length<=la ys+la l
 |[]=>λys=>Vl _|p::l=>λys=>by
  refine Ul (Xf2 l (Xa7 ys p)) ?_;have:(Xa7 ys p).length<=la ys+1:=by
   unfold Xa7 storedH;split;·rw[Vn];omega
   ·rw[Ur];exact Vl _
  rw[U6];omega
theorem Xnm{h h':Heap}{k:LI}{a:Addr}(x:(tkd prog w).is h k a)(kp:∀b o,h.get? b=yz o->h'.get? b=yz o):(tkd prog w).is h' k a:=by obtain⟨o,its,n,e,r⟩:=x;exact⟨o,its,n,kp _ _ e,r⟩
theorem Xnn{h:Heap}:∀(l ys:List (LI×Addr×Vb)),(∀x∈ys,(tkd prog w).is h x.1 x.2.1)->(∀x∈l,(tkd prog w).is h x.1 x.2.1)->∀x∈l.foldl Xa7 ys,(tkd prog w).is h x.1 x.2.1
 |[]=>λys h1 _=>h1|p::l=>λys h1 h2=>by
  refine Xnn l (Xa7 ys p) (λx B=>?_) λx B=>h2 x (.tail _ B);unfold Xa7 storedH at B;split at B
  ·obtain⟨y,J,rfl⟩:=Va6.mp B;have:=h1 y J;unfold putAt;split;·exact this
   ·exact this
  rcases Vao.mp B with z|z;·exact h1 x z
  ·rw[U4.mp z];exact h2 p (.head _)
def DicR(h:Heap)(Da:Addr)(ys:List (LI×Addr×Vb)):Prop:=∃o es ep,h.get? Da=yz o/\o.ExactDict/\o.data=.dict es ep/\(∀P w,es.toList=ys.map (entryOfKey (tkd P w)))/\(ys.map (·.1)).Nodup
theorem DicR.keep{h h':Heap}{Da:Addr}{ys:List (LI×Addr×Vb)}(x:DicR h Da ys)(k:∀o,h.get? Da=yz o->h'.get? Da=yz o):DicR h' Da ys:=by obtain⟨o,es,ep,e,r⟩:=x;exact⟨o,es,ep,k _ e,r⟩
section
variable{R:Result->Vc->Prop}{I Da:Addr}{fp wr:LR}{G:Array Vex->Array Vex->Prop}{n:Nat}{P:Nat->Vb->Prop}{St:Nat->Vc->Prop}{h0:Heap}
theorem Xtp(hu:A.units+4<Vbe)(W:WalksS prog w A.in1 I fp wr G n P St)(hf:Da ∉ fp)(raw:List (LI×Addr×Vb))(hn:(la raw)=n)(hsz:n<1000)(Y:∀x∈raw,(tkd prog w).is h0 x.1 x.2.1)
  (hP:∀i v,P i v->∀p,raw[i]?=yz p->∃b,v=.ref b/\h0.IsTuple b #[.ref p.2.1,p.2.2]) (ae:h0.get? Da=yy) (an:∀b∈wr,h0.get? b=yy):
  ∀(k i:Nat) (t:Tok) (s:Vc),n-i=k->i<=n->St i s->DicR s.heap Da ((raw.take i).foldl Xa7 [])->(∀b o,h0.get? b=yz o->s.heap.get? b=yz o) ->
   (∀s',Moved (Da::wr) G s s'->DicR s'.heap Da (raw.foldl Xa7 [])->R (.ok (.ret .none)) s')->Vbz (Vj prog w) A (.builtin "dict.update.loop" ⟨[.ref Da,.ref I,.int i t,.none],[]⟩) R s:=by
 have hw:Da ∉ wr:=λh=>hf (W.sub _ h);have sub:∀b∈wr,b∈Da::wr:=λb L=>Ua _ L;intro k;induction k with
 |zero=>
  intro i t s hk hi st D kp hR;obtain rfl:i=n:=by omega
  refine Va8 Xjd ?_;rw[Vbt Xc0 _];show Vf _ A.in1 (pyNext (.ref I) >>= _) _ _ s;refine Va (W.done s _ _ st λs' m=>?_);show Vf _ A.in1 (Builtin.Dict.addKeywords Da [] >>= _) _ _ s';refine Va (Vd (Vd (hR s' (m.mono sub) ?_)));rw[<-hn,Vca]at D;exact D.keep λo e=>m.heap Da o hw e|succ k ih=>
  intro i t s hk hi st D kp hR;have lt:i<n:=by omega
  refine Va8 Xjd ?_;rw[Vbt Xc0 _];show Vf _ A.in1 (pyNext (.ref I) >>= _) _ _ s;refine Va (W.item i s _ _ lt st λv s' hv aq m=>?_);have hp:raw[i]?=yz raw[i]:=by simp[hn,lt]
  obtain⟨b,rfl,L⟩:=hP i v hv _ hp;have B:∀b o,h0.get? b=yz o->s'.heap.get? b=yz o:=λb o e=>m.heap b o (λz=>by rw[an b z]at e;cases e) (kp b o e);obtain⟨ob,au,ac,nb,al⟩:=L;have J:=B _ _ au;have hT:s'.TypeIs (.ref b) "tuple" := ⟨ob,J,ac⟩;obtain⟨o,es,ep,ho,U,hd,he,av⟩:=D.keep (h':=s'.heap) λo e=>m.heap Da o hw e;have pre:=Xnn (prog:=prog) (w:=w) (h:=h0) (raw.take i) [] (λ_ z=>nomatch z) λx U=>Y x (Vek U);have DH:s'.heap.DictOfH (tkd prog w) Da ((raw.take i).foldl Xa7 []):=⟨o,es,ep,ho,U,hd,he _ _,λx U=>Xnm (pre x U) B,av⟩;have am:=Xnm (Y raw[i] (Vej _)) B;have ln:=Xf2 (raw.take i) [];rw[Vag,Vdz]at ln;show Vf _ A.in1 (Vdo [U8 b] _ >>= _) _ _ s';refine Va (Uw (Va (wpAny_tryCatch ?_)));unfold Builtin.Dict.pairItems;refine Va (Vbm hT ?_);rw[iP0 (by decide)];refine Va (Ved J al (Vd ?_));dsimp only[Option.getD];refine Uw (wpAny_dictSet_heap (knd:=tkd prog w) (hsz:=by rw[Vbp];omega) (tupleKind_room_in1 (by omega)) am DH λh' dd hs=>?_);have e1:(raw.take (i+1)).foldl Xa7 []=storedH ((raw.take i).foldl Xa7 []) raw[i].1 raw[i].2.1 raw[i].2.2:=by rw[Vdf,hp,Vg4];rfl
  rw[<-e1]at dd;obtain⟨o2,ah,ar,ai,ap,af,aw,_,aa⟩:=dd;have ab:∀b o,h0.get? b=yz o->b≠Da:=λb o e z=>by rw[z,ae]at e;cases e
  have ii:((i:Int)+1)=((i+1:Nat):Int):=by omega
  show Vf _ A.in1 (again (.builtin "dict.update.loop" ⟨[.ref Da,.ref I,Vb2 ((i:Int)+1),.none],[]⟩)) _ _ _;rw[ii];refine Vd ⟨Veo Xc0 _,ih (i+1) _ _ (by omega) lt (W.frame _ s' _ _ aq (Vfv _ _) λb L o e=>?_) ⟨o2,ah,ar,ai,ap,af,λ_ _=>aw,aa⟩ (λb o e=>(hs.2 b (ab b o e)).trans (B b o e)) λak aj ao=>?_⟩;·rw[hs.2 b (λz:b=Da=>hf (z▸L))];exact e
  ·refine hR ak (Moved.trans W.gtrans ((m.mono sub).then_heap (Vfv _ _) λb o L e=>?_) aj) ao;rw[hs.2 b (λz:b=Da=>L (z▸U9))];exact e
end
theorem Xo8 {l:Addr} {items:AV} {n0:Nat} {raw:List (LI×Addr×Vb)} {Q:VP} (hu:A.units+10<Vbe) (hh:A.handled=yy) (hl:s.heap.get? l=yz (V3 "list" items n0)) (hn:(la raw)=items.size) (hsz:items.size<1000)
  (ab:∀x∈raw,(tkd prog w).is s.heap x.1 x.2.1) (hP:∀(i:Nat) p,raw[i]?=yz p->∃b,items[i]?=yz (.ref b)/\s.heap.IsTuple b #[.ref p.2.1,p.2.2])
  (h:∀h' tk,DicR h' s.heap.objs.size (raw.foldl Xa7 [])->(∀b o,s.heap.get? b=yz o->h'.get? b=yz o)->Q (.ref s.heap.objs.size) {s with heap:=h',toks:=tk}):
  Vf (Vj prog w) A (call (.type "dict") [.ref l]) Q E s:=by
 refine callType_codes (Q₁:=λobj B=>obj=.ref s.heap.objs.size/\B={s with heap:=s.heap.push {cls:=.type "dict",data:=.dict #[]} }) PySem.F.kt_called_dict (PySem.F.kt_typeCall_dict_1 _) PySem.F.entry_dict_init (kt_code_dict_new _ ⟨rfl,rfl⟩) ?_;rintro obj B ⟨rfl,rfl⟩;have J:(s.heap.push {cls:=.type "dict",data:=.dict #[]}).DictOfH (tkd prog w) s.heap.objs.size []:=Heap.DictOfH.new s.heap;have L:(s.heap.push {cls:=.type "dict",data:=.dict #[]}).get? l=yz (V3 "list" items n0):=Vg _ hl;refine⟨J.typeIs,PySem.F.args_dict_init_2 _ _,?_⟩;unfold Vbb.«dict.__init__»;refine Va ?_;unfold Builtin.Dict.selfAndRest;refine Va (wpAny_notOrdered_dict J.typeIs ?_);show Vf _ _ (pure (s.heap.objs.size,[U8 l])) _ _ _;refine Vd ?_;show Vf _ _ (Builtin.Dict.updateFrom "dict.__init__" s.heap.objs.size (.ref l) [] .none) _ _ _;unfold Builtin.Dict.updateFrom;refine Va (Vbm (T:="list") ⟨_,L,rfl⟩ ?_);rw[iP0 (by decide)];refine Va (Xrd L (by simpa using hh) λh1 ah k1=>?_);simp only[Option.isNone_none,if_true];refine Va (Vde ?_);have Y:h1.get? l=yz (V3 "list" items n0):=k1 _ _ L;refine Va (Vd6 ⟨_,Y,rfl,n0,rfl⟩ ?_);have lS:l<s.heap.objs.size:=Vr hl;have k0:∀b o,s.heap.get? b=yz o->h1.get? b=yz o:=λb o e=>k1 b o (Vg _ e)
 have U:h1.get? s.heap.objs.size=yz {cls:=.type "dict",data:=.dict #[]}:=k1 _ _ (Vq _ rfl);have lI:s.heap.objs.size<h1.objs.size:=Vr U;have af:l≠h1.objs.size:=Vz (Vcy lS lI);refine Vd ⟨Veo Xc0 _,Xtp (h0:=s.heap) (n:=items.size) (by show A.units+1+4<_;omega) ((Walks.list (A:=A.in1.in1) (by simpa using hh) h1.objs.size l af items).toS) ?_ raw hn hsz ab (λi v hv p hp=>?_) (Vf1 (Vl _)) (λb hb=>?_) (items.size-0) 0 0 _ rfl (Ug _)
  ⟨⟨_,Vq _ rfl,rfl,rfl⟩,_,Vg _ Y,rfl,n0,rfl⟩ ⟨_,#[],0,Vg _ U,⟨rfl,rfl,rfl⟩,rfl,λ_ _=>rfl,Vfc⟩ (λb o e=>Vg _ (k0 b o e)) λs' m D=>?_⟩
 ·simp only[Vt,U3,or_false,not_or];exact⟨Vz lI,Vcw lS⟩
 ·obtain⟨b,e1,e2⟩:=hP i p hp;have aa:items[i]?=yz v:=hv;rw[e1]at aa;cases aa;exact⟨b,rfl,e2⟩
 ·rw[U4.mp hb];exact Vf1 (Vcv lI)
 ·obtain⟨h',g',d',ae,ac⟩:=s';have eg:g'=s.gens:=m.gens;have ed:d'=s.drawn:=m.drawn;have eo:ac=s.os:=m.os;subst eg;subst ed;subst eo;refine⟨rfl,h h' ae D λb o e=>m.heap b o ?_ (Vg _ (k0 b o e))⟩;have lb:=Vr e;simp only[Vt,U3,or_false,not_or];exact⟨Vz lb,Vz (Vcy lb lI)⟩
variable{X:Cx}{pa:LA}{σ:L2.St}{H:Hp}{ρ:LR}{S:Sto}{env:En}
theorem Xk9:∀(ts:LS) (k:Nat) (acc:Str),(textFrom k acc ts).length<=acc.length+piled ts
 |[]=>λk acc=>by simp[textFrom,piled]|t::ts=>λk acc=>by
  have ih:=Xk9 ts (k+1) (acc++(if k>0 then ", " else "" : String)++t);have e:(U5 (if k>0 then ", " else "")).length<=2:=by split<;>decide
  rw[textFrom,piled_cons];simp only[Vg5]at ih;omega
mutual
theorem Xla:∀p:Vc9,p.showable=yx->Xfx p=yx->p.shown.length<=szD p
 |.none=>λ_ _=>by simp only[Vef,szD];decide|.bool b=>λ_ _=>by simp only[Vef,szD];cases b<;>decide|.int i=>λh _=>by simp only[Vev,decide_eq_true_eq]at h;simp only[Vef,szD];have:=int_text_length_le (by decide) h;rw[PySem.ofString_length];omega|.str x=>λ_ _=>by simp only[Vef,szD];exact Vl _|.list xs=>λh h2=>by
  simp only[Vev]at h;simp only[Xfx]at h2;have ih:=shownAll_le xs h h2;simp only[Vef,szD,listText,Vg5];have:=Xk9 (Vcj xs) 0 "[";have B:(U5 "[").length=1:=by decide
  have J:(U5 "]").length=1:=by decide
  omega|.tuple xs=>λh h2=>by
  simp only[Vev]at h;simp only[Xfx]at h2;have ih:=shownAll_le xs h h2;simp only[Vef,szD,tupleText,Vg5];have B:(U5 "(").length=1:=by decide
  have J:(U5 (if (Vcj xs).length==1 then ",)" else ")")).length<=2:=by split<;>decide
  have L:(Str.join ", " (Vcj xs)).length<=piled (Vcj xs):=by
   cases e:Vcj xs with
   |nil=>decide|cons t ts=>have:=join_length_add (t::ts) (by simp);omega
  omega|.dict kvs=>λ_ h2=>by
  simp only[Xfx]at h2;cases kvs with
  |nil=>simp only[Vef,PyData.shownKv,szD];decide|cons x r=>cases h2
theorem shownAll_le:∀ps:List Vc9,PyData.showableAll ps=yx->dctEs ps=yx->piled (Vcj ps)<=szDs ps
 |[]=>λ_ _=>by simp[Vcj,szDs,piled]|p::ps=>λh h2=>by simp only[PyData.showableAll,bA0]at h;simp only[dctEs,bA0]at h2;have i1:=Xla p h.1 h2.1;have i2:=shownAll_le ps h.2 h2.2;rw[Vcj,piled_cons,szDs];omega
end
theorem X2b(aa:∃o,X.K.lookup Vbq=yz o)(hg:X.A.guards=yz [])(hu:X.A.units+200<Vbe):BlR X .repr (.builtin "repr"):=by
 intro pa s σ H ρ S env ds vs us E I rd rv B;match ds,rd,B with
 |[],_,B=>cases B rfl|d::_::_,_,B=>cases d<;>cases B rfl|[d],rd,B=>
  obtain⟨v,rfl,r1⟩:=rd.one;obtain⟨u,rfl,ru⟩:=rv.one;simp only[Xx]at B ⊢;cases e:Xkt S d with
  |none=>rw[e]at B;cases B rfl|some t=>
   dsimp only;unfold Xkt at e;cases Y:Yq S d with
   |none=>rw[Y]at e;cases e|some p=>
    rw[Y]at e;dsimp only at e;split at e
    ·rename_i hz;simp only[bA0,decide_eq_true_eq]at hz;obtain⟨⟨⟨U,z2⟩,z3⟩,z4⟩:=hz;cases e;obtain⟨as,rr,J⟩:=Xqw I aa Y r1 ru;have L:p.shown.length<=Vu:=Xa0 (Ul (Xla p U z2) z4);have ref:∀a,u=.ref a->Vf (Vj X.prog X.w) X.A (call (.builtin "repr") [u]) (OkP X pa σ ρ H (.ok (.str p.shown) S)) E s:=λa ea=>by
      subst ea;exact repr_of_reads' rr U (λ_=>J) hg (by omega) (λ_ _ q=>q) (λh' u tk hk=>Xgo I.sr (I.inv.kept hk)) L
     cases rr with
     |none=>exact PySem.P.repr_of_none (Xgo I.sr (I.inv.tok _))|bool b=>exact PySem.P.repr_of_bool (by cases b<;>exact Xgo I.sr (I.inv.tok _))|int i t=>exact PySem.P.repr_of_int (by simpa only[Vev,decide_eq_true_eq] using U) (Xgo I.sr (I.inv.tok _))|str x t=>exact PySem.P.repr_of_str (Xgo I.sr (I.inv.tok _)) L|_=>exact ref _ rfl
    cases e
theorem X5t:BlR X .itB (.type "int"):=by
 intro pa s σ H ρ S env ds vs us E I rd L B;match ds,rd,B with
 |[],_,B=>cases B rfl|d::_::_,_,B=>cases d<;>cases B rfl|[d],rd,B=>
  obtain⟨v,rfl,J⟩:=rd.one;obtain⟨u,rfl,U⟩:=L.one;cases d with
  |bl b=>simp only[RD]at J;subst J;cases U;simp only[Xx];refine call_int_bool ?_;cases b<;>exact Yx I.sr (I.inv.tok _)|_=>cases B rfl
theorem Xmk{prog:Vy}{w:V9}{A:Uq}{E:VP}{s:Vc}{l:Addr}{vs:LV}{Q:LV->Vc->Prop}(Y:Vc0 s.heap l vs.toArray)(hsz:(la vs)<=Vu)
  (h:Q vs {s with heap:=(s.heap.push (V3 "list" #[] 0)).update s.heap.objs.size (Vw (·++vs.toArray))}):Vf (Vj prog w) A (collect (.ref l)) Q E s:=by
 obtain⟨o,L,U,n,hd⟩:=id Y;unfold collect;refine Va (wpAny_runValue (Va8 entry_proto_collect' ?_));show Vf _ _ (do again (.builtin "list.__iadd__" ⟨[<-newList [],.ref l],[]⟩)) _ _ s;refine Va (Vfs (Vd ⟨Vgt _ (by decide+kernel),Va8 entry_list_iadd' ?_⟩));show Vf _ _ (Vas (.ref s.heap.objs.size) (.ref l) (.ref s.heap.objs.size)) _ _ {s with heap:=s.heap.push (V3 "list" #[] 0)};unfold Vas;have B:(s.heap.push (V3 "list" #[] 0)).get? l=yz o:=Vg _ L;refine Va (Vbm (T:="tuple") ⟨o,B,U⟩ ?_);have J:(Vbc "tuple" == Vbc "tuple")=true:=by rfl
 rw[iP0 (by rw[J];simp)];refine Va (Vdk B hd (Va (Vdk (xs:=#[]) (n:=0) (Vq _ rfl) rfl ?_)));rw[iN0 (by simp)];refine Va (Vcm (xs:=#[]) (n:=0) (Vq _ rfl) rfl (Vd ?_) (Ug _) (by show(#[]++vs.toArray).size<=Vu+1;simp only[Array.size_append,Vk,Vdz];omega));show Vf (Vj prog w) A (load s.heap.objs.size >>= _) Q E {s with heap:=(s.heap.push (V3 "list" #[] 0)).update s.heap.objs.size (Vw (·++vs.toArray))};refine Va (wpAny_load (Vd0 (Vq _ rfl) _) ?_);show Vf _ _ (pure ((#[]:AV)++vs.toArray).toList) Q E _;rw[show((#[]:AV)++vs.toArray).toList=vs by simp];exact Vd h
theorem Xlb:∀ {bs:List Bool} {us:LV},Vals (bs.map V.bl) us->us=bs.map Veh
 |[],_,.nil=>rfl|b::bs,_,.cons r t=>by cases r;rw[Xlb t];rfl
theorem Xno{K:Ve}{ρ:LR}{H:Hp}:∀ {bs:List Bool} {B:LW},RDs K ρ H (bs.map D.bl) B->B=bs.map V.bl
 |[],B,h=>by simp only[Uk,RDs]at h;exact h|b::bs,B,h=>by simp only[Uk,RDs]at h;obtain⟨v,r,rfl,h1,h2⟩:=h;simp only[RD]at h1;subst h1;rw[Xno h2];rfl
theorem Xre(I:S0 X pa σ H s ρ S env){n:Nat}{xs:LD}{bs:List Bool}{v:V}(h:Xa S n=yz xs)(hb:X6 xs=yz bs)(r:RD X.K ρ H (.ref n) v):∃a k,v=.ref a/\s.heap.get? a=yz {cls:=.type "list",data:=.seq (bs.map Veh).toArray k}:=by obtain⟨a,Y,rfl,ha,hv,U⟩:=I.lstR h r;obtain⟨_,its,k,L,e⟩:=(show ObjOk X.prog X.w H s.heap a (.lst Y) from I.inv.hok a _ hv);have J:=Xbs hb;subst J;have B:=Xno U;subst B;rw[Xlb L]at e;exact⟨a,k,rfl,e⟩
theorem X2c(J:k=.count)(B:Yr k d ds S≠.bad):∃n b,d=.ref n/\ds=[.bl b]:=by
 subst J
 ·(
  cases d with
  |ref n=>
   cases ds with
   |nil=>cases B rfl|cons x r=>
    cases r with
    |nil=>
     cases x with
     |bl b=>exact⟨n,b,rfl,rfl⟩|_=>cases B rfl
    |cons _ _=>cases x<;>cases B rfl
  |_=>cases ds<;>exact aB0 rfl B)
theorem Xx4:MtD X .count "list.count":=by
 intro pa s σ H ρ S env d v u ds vs us E I rd rv U J B;obtain⟨n,b,rfl,rfl⟩:=X2c rfl B;obtain⟨y,rfl,r1⟩:=U.one;simp only[RD]at r1;subst r1;obtain⟨w,rfl,Y⟩:=J.one;cases Y;simp only[Yr]at B ⊢;cases e:Xa S n with
 |none=>rw[e]at B;cases B rfl|some xs=>
  rw[e]at B;simp only[V1]at B ⊢;cases e2:X6 xs with
  |none=>rw[e2]at B;cases B rfl|some bs=>
   dsimp only;obtain⟨a,k,rfl,ha⟩:=Xre I e e2 rd;cases rv;refine Vct PySem.F.slot_list_count ⟨_,ha,rfl⟩ PySem.F.entry_list_count (PySem.F.args_list_count_2 _ _) (SeqAt.list_countAt a _ k yy #[] (.bool b) λy=>match y with|.bool c=>c==b|_=>yw) ⟨ha,λy hy=>?_,?_⟩
   ·have L:y∈bs.map Veh:=by simpa using hy
    obtain⟨c,_,rfl⟩:=Va6.mp L;exact SeqAt.EqAt.bool_bool c b
   have ec:(bs.map Veh).countP (λy=>match y with|.bool c=>c==b|_=>yw)=bs.countP (· == b):=by rw[List.countP_map];rfl
   simp only[Vco]at *;rw[ec];exact Yx I.sr (I.inv.tok _)
theorem X2d(B:Yr .index d ds S≠.bad):∃n x,d=.ref n/\ds=[x]/\((∃b,x=.bl b)\/∃i,x=.int i):=by
 cases d with
 |ref n=>
  cases ds with
  |nil=>cases B rfl|cons x r=>
   cases r with
   |nil=>
    cases x with
    |bl b=>exact⟨n,_,rfl,rfl,.inl ⟨b,rfl⟩⟩|int i=>exact⟨n,_,rfl,rfl,.inr ⟨i,rfl⟩⟩|_=>cases B rfl
   |cons _ _=>cases x<;>cases B rfl
 |_=>cases ds<;>cases B rfl
theorem Xje:∀ {us:LV} {ns:LI} {i:Nat} {v:Vb},Vcb us ns->us[i]?=yz v->∃c t,ns[i]?=yz c/\v=.int c t
 |_,_,i,v,.nil,h=>by simp at h|_,_,0,v,.cons n t r,h=>by cases h;exact⟨n,t,rfl,rfl⟩|_,_,i+1,v,.cons n t r,h=>by obtain⟨c,B,h1,h2⟩:=Xje (i:=i) r (by simpa using h);exact⟨c,B,by simpa using h1,h2⟩
theorem Xx5:MtD X .index "list.index":=by
 intro pa s σ H ρ S env d v u ds vs us E I rd rv af ah B;obtain⟨n,x,rfl,rfl,hx⟩:=X2d B;rcases hx with⟨b,rfl⟩|⟨i0,rfl⟩
 ·obtain⟨y,rfl,r1⟩:=af.one;simp only[RD]at r1;subst r1;obtain⟨w,rfl,ab⟩:=ah.one;cases ab;simp only[Yr]at B ⊢;cases e:Xa S n with
  |none=>rw[e]at B;cases B rfl|some xs=>
   rw[e]at B;simp only[V1]at B ⊢;cases L:X6 xs with
   |none=>rw[L]at B;cases B rfl|some bs=>
    rw[L]at B;dsimp only at B ⊢;cases e3:bs.findIdx? (· == b) with
    |none=>rw[e3]at B;cases B rfl|some i=>
     dsimp only;obtain⟨a,k,rfl,ha⟩:=Xre I e L rd;cases rv;obtain⟨hi,h1,h2⟩:=Vfn.mp e3;have ai:(la bs)<=Vu:=by obtain⟨a',ws,_,_,hv,hr⟩:=I.lstR e rd;obtain⟨z,_⟩:=(show ObjOk X.prog X.w H s.heap a' (.lst ws) from I.inv.hok a' _ hv);rw[<-hr.length,Xbs L,Vn]at z;exact z
     have aa:(i:Int)<2^63-1:=by
      have:Vu<2^62:=by decide
      have am:(2:Int)^63-1=9223372036854775807:=by decide
      have ak:(2:Nat)^62=4611686018427387904:=by decide
      omega
     refine Vct Vfh ⟨_,ha,rfl⟩ Vhb (Vg8 _ _) (SeqAt.list_indexAt a (bs.map Veh).toArray k yy #[] (.bool b) (λy=>match y with|.bool c=>c==b|_=>yw) i (by simpa using hi) aa (by simpa using h1) λm hm Y=>?_) ⟨ha,λy hy=>?_,Yx I.sr (I.inv.tok _)⟩;·have:=h2 m Y;simpa using this
     ·have al:y∈bs.map Veh:=by simpa using hy
      obtain⟨c,_,rfl⟩:=Va6.mp al;exact SeqAt.EqAt.bool_bool c b
 obtain⟨y,rfl,r1⟩:=af.one;simp only[RD]at r1;subst r1;obtain⟨w,rfl,ab⟩:=ah.one;obtain⟨tk,rfl⟩:=ab;simp only[Yr]at B ⊢;cases e:Xa S n with
 |none=>rw[e]at B;cases B rfl|some xs=>
  rw[e]at B;simp only[V1]at B ⊢;cases L:Xi xs with
  |none=>rw[L]at B;cases B rfl|some ns=>
   rw[L]at B;dsimp only at B ⊢;cases e3:ns.findIdx? (· == i0) with
   |none=>rw[e3]at B;cases B rfl|some i=>
    dsimp only;obtain⟨a,ws,rfl,_,hv,hr⟩:=I.lstR e rd;obtain⟨ai,its,k,aj,ha⟩:=(show ObjOk X.prog X.w H s.heap a (.lst ws) from I.inv.hok a _ hv);have q:=Xac L;subst q;have ew:=hr.ints_of;subst ew;have hI:=Xbb aj;have U:(la its)=la ns:=hI.length;rw[Vn]at ai;cases rv;obtain⟨hi,h1,h2⟩:=Vfn.mp e3;have aa:(i:Int)<2^63-1:=by
     have:Vu<2^62:=by decide
     have am:(2:Int)^63-1=9223372036854775807:=by decide
     have ak:(2:Nat)^62=4611686018427387904:=by decide
     omega
    have ae:∀m (hm:m<its.toArray.size),∃c t,ns[m]?=yz c/\its.toArray[m]=.int c t:=λm hm=>by
     have ac:m<la its:=by simpa using hm
     obtain⟨c,t,J,z2⟩:=Xje hI (Uv ac);exact⟨c,t,J,by simpa using z2⟩
    refine Vct Vfh ⟨_,ha,rfl⟩ Vhb (Vg8 _ _) (SeqAt.list_indexAt a its.toArray k yy #[] (.int i0 tk) (λy=>match y with|.int c _=>c==i0|_=>yw) i (by rw[Vk,U];exact hi) aa ?_ λm hm Y=>?_) ⟨ha,λy hy=>?_,Yx I.sr (I.inv.tok _)⟩;·obtain⟨c,t,J,z2⟩:=ae i (by rw[Vk,U];exact hi);rw[z2];rw[Uv hi]at J;cases J;exact h1
    ·obtain⟨c,t,J,z2⟩:=ae m hm;rw[z2];have ac:m<la ns:=by omega
     rw[Uv ac]at J;cases J;have:=h2 m Y;simpa using this
    obtain⟨m,hm,rfl⟩:=Vbr.mp (show y∈its by simpa using hy);obtain⟨c,t,J,z2⟩:=ae m (by simpa using hm);have z3:its[m]=.int c t:=by simpa using z2
    rw[z3];exact SeqAt.EqAt.int_int c t i0 tk
end
theorem Xhp{α:Type}{cmp:Nat->Nat->(Bool->Vc->Prop)->Vc->Prop}{lt:Nat->Nat->Option Bool}{Q:α->Vc->Prop}(B:∀i j b C,lt i j=yz b->C b s->cmp i j C s):
  ∀(t:PySem.W.KasT α) (r:α),Xbl lt t=yz r->Q r s->t.kasWp cmp Q s
 |.ret a=>λr h q=>by cases h;exact q|.ask i j k=>λr h q=>by
  simp only[Xbl]at h;cases e:lt i j with
  |none=>rw[e]at h;cases h|some b=>rw[e]at h;exact B i j b _ e (Xhp B (k b) r h q)
section
variable{prog:Vy}{w:V9}{A:Uq}{E:VP}{s:Vc}
theorem X2e(h:Q (decide (x<y)) s):Vf (Vj prog w) A (oneLt' b (.int x t) (.int y u)) Q E s:=by
 cases b with
 |true=>exact PySem.W.kat_lt_int h|false=>exact PySem.W.kat_one _ _ (lt_int (show PySem.W.BoolBack Q _ s from h))
theorem Xrf(J:Vcb us xs):∀(ys:LI) (vs:LV) (i:Nat),Vcb vs ys->Q (ltL xs ys) s->PySem.W.KatLex prog w A yx (decide (la us<la vs)) Q (us.zip vs) i s:=by
 induction J with
 |nil=>intro ys vs i B h;cases B<;>exact h|@cons x t us xs J ih=>
  intro ys vs i B h;cases B with
  |nil=>exact h|@cons y u vs ys B=>
   have L:decide (la us+1<la vs+1)=decide (la us<la vs):=decide_eq_decide.mpr Nat.add_lt_add_iff_right;simp only[U6,Ve2,L];simp only[ltL]at h;refine PySem.W.kat_cons (wpAny_eqBool_int (PySem.W.kat_go (λe=>?_) λe=>?_));·rw[iP0 (eq_of_beq e)]at h;exact PySem.W.kat_yes (ih ys vs (i+1) B h)
   ·rw[iN0 (λz=>by rw[z,beq_self_eq_true]at e;cases e)]at h;exact PySem.W.kat_no (X2e h)
theorem X2f {KO:SortKind->Prop} {vs:LV} {n:Nat} {lt:Nat->Nat->Option Bool} {out:AV} {P:PySem.Fin->Vc->Prop} (U:s.heap.get? a=yz (V3 "list" vs.toArray n)) (Y:(la vs)<64)
  (hk:2<=la vs->∀h':Heap,(∀b o,b≠a->s.heap.get? b=yz o->h'.get? b=yz o)->∀Q':SortKind->Vc->Prop,(∀ κ,KO κ->Q' κ {s with heap:=h' })->Vf (Vj prog w) A (keyKind' vs.toArray) Q' E {s with heap:=h' })
  (hc:∀ κ,KO κ->∀h':Heap,(∀b o,b≠a->s.heap.get? b=yz o->h'.get? b=yz o)->∀i j b C,lt i j=yz b->C b {s with heap:=h' }->Vgc prog w A κ vs i j C {s with heap:=h' })
  (h1:(la vs)<2->out=vs.toArray) (h2:2<=la vs->∃p,Xbl lt (Vbf (la vs))=yz p/\out=(p.toList.map λi=>vs.getD i Vad).toArray)
  (hsz:out.size=la vs) (h:P (.done (.ret .none)) {s with heap:=sortedHeap s.heap a vs out}):Vf (Vj prog w) A (Vbb.«list.sort» ⟨[.ref a],[]⟩) P E s:=by
 have B:(la vs)<=Vu:=by rw[Vbp];omega
 have ab:a<s.heap.objs.size:=Vr U;obtain⟨e1,o1⟩:∃e1,(s.heap.update a (Vw λ_=>(#[]:AV))).get? a=yz (V3 "list" #[] e1):=⟨_,Vd0 U λ_=>#[]⟩;have up:∀b o,(s.heap.update a (Vw λ_=>(#[]:AV))).get? b=yz o->(((s.heap.update a (Vw λ_=>(#[]:AV))).push (V3 "tuple" vs.toArray 0)).push (V3 "list" #[] 0)).get? b=yz o:=λb o q=>Vg _ (Vg _ q);have kp:∀b o,b≠a->s.heap.get? b=yz o->(((s.heap.update a (Vw λ_=>(#[]:AV))).push (V3 "tuple" vs.toArray 0)).push (V3 "list" #[] 0)).get? b=yz o:=λb o hb q=>up b o ((Vcq _ _ _ _ hb).trans q);have L:=up a _ o1;rw[list_sort_plain];refine Va (Vdk U rfl (Va (Vcm U rfl (Va (seqEpoch_at o1 rfl (Va (wpAny_newTuple (Va (Vfs (Uw ?_) (Ug _))) (by show (la vs)<=_;exact B))))) (by rw[Vk];exact B) (Ug _))));change Vf (Vj prog w) A _ P E {s with heap:=((s.heap.update a (Vw λ_=>(#[]:AV))).push (V3 "tuple" vs.toArray 0)).push (V3 "list" #[] 0)};dsimp only;have zz:vs.toArray.size=la vs:=Vk;by_cases q:(la vs)<2
 ·have J:vs.toArray.size<2:=by rw[zz];exact q
  have em:(arrOf (SortSt.mk' general' (vs.toArray.zip vs.toArray) #[] 7 yy)).map (·.2)=out:=by rw[h1 q];show(vs.toArray.zip vs.toArray).map (·.2)=_;apply Array.toList_inj.mp;rw[Array.toList_map,Array.toList_zip,List.map_snd_zip (Vl _)]
  rw[iP0 J,iP0 J];refine Va (Vd ?_);rw[StateT.run_pure];refine Va (Vd (Va (seqEpoch_at L rfl (Va (Vcm L rfl ?_ (Ug _) (by rw[em,hsz];omega))))));rw[em,bne_self_eq_false];exact Vd h
 ·have J:¬ vs.toArray.size<2:=by rw[zz];exact q
  obtain⟨p,hp,ep⟩:=h2 (by omega)
  rw[iN0 J,iN0 J];refine Va (hk (by omega) _ kp _ fun κ aa=>(Va (Vo (PySem.W.kat_run (ks:=vs) (κ:=κ) (E:=E) (Q:=λst s'=>(arrOf st).map (·.2)=out/\failedOf st=yy/\s'={s with heap:=((s.heap.update a (Vw λ_=>(#[]:AV))).push (V3 "tuple" vs.toArray 0)).push (V3 "list" #[] 0)})
   (G:=λr s'=>r=p/\s'={s with heap:=((s.heap.update a (Vw λ_=>(#[]:AV))).push (V3 "tuple" vs.toArray 0)).push (V3 "list" #[] 0)}) rfl (by omega) Y
   (λr st s' _ k2 k3 ⟨k4,k5⟩=>by subst k4;exact⟨by rw[ep];exact PySem.W.kat_snds rfl k2,k3,k5⟩) (Xhp (hc κ aa _ kp) _ p hp ⟨rfl,rfl⟩)) ?_ λ_ _ z=>z)))
  rintro ⟨⟨⟩,st⟩ s' ⟨k1,k2,rfl⟩;dsimp only at k1 k2 ⊢;refine Va (seqEpoch_at L rfl (Va (Vcm L rfl ?_ (Ug _) (by rw[k1,hsz];omega))));rw[k1,k2,bne_self_eq_false];exact Vd h
theorem Xml{l:Addr}{vs:LV}{Q:LV->Vc->Prop}(B:s.heap.IsList l vs.toArray\/Vc0 s.heap l vs.toArray)(J:(la vs)<=Vu)
  (h:Q vs {s with heap:=(s.heap.push (V3 "list" #[] 0)).update s.heap.objs.size (Vw (·++vs.toArray))}):Vf (Vj prog w) A (collect (.ref l)) Q E s:=by
 rcases B with B|B;·exact collect_list B h J
 ·exact Xmk B J h
theorem Xrg{KO:SortKind->Prop}(hl:s.heap.IsList l vs.toArray\/Vc0 s.heap l vs.toArray)(L:(la vs)<64)
  (hk:∀(A:Uq) (E:VP),2<=la vs->∀h':Heap,(∀b o,s.heap.get? b=yz o->h'.get? b=yz o)->∀Q':SortKind->Vc->Prop,(∀ κ,KO κ->Q' κ {s with heap:=h' })->Vf (Vj prog w) A (keyKind' vs.toArray) Q' E {s with heap:=h' })
  (hc:∀ κ,KO κ->∀(Y:Uq),Y.units<=A.units+2->∀(h':Heap),(∀b o,s.heap.get? b=yz o->h'.get? b=yz o)->∀i j b C,lt i j=yz b->C b {s with heap:=h' }->Vgc prog w Y κ vs i j C {s with heap:=h' })
  (h1:(la vs)<2->out=vs.toArray) (h2:2<=la vs->∃p,Xbl lt (Vbf (la vs))=yz p/\out=(p.toList.map λi=>vs.getD i Vad).toArray)
  (hsz:out.size=la vs) (h:Q (.ref (s.heap.objs.size+1)) {s with heap:=sortedAll s.heap vs out}):Vf (Vj prog w) A (call (.builtin "sorted") [.ref l]) Q E s:=by
 have J:(la vs)<=Vu:=by rw[Vbp];omega
 have sz:((s.heap.push (V3 "list" #[] 0)).update s.heap.objs.size (Vw (·++vs.toArray))).objs.size=s.heap.objs.size+1:=by rw[Heap.size_update,size_push']
 have oL:(((s.heap.push (V3 "list" #[] 0)).update s.heap.objs.size (Vw (·++vs.toArray))).push (V3 "list" vs.toArray 0)).get? (s.heap.objs.size+1)=yz (V3 "list" vs.toArray 0):=sz▸Vq _ rfl;have B:∀b o,s.heap.get? b=yz o->b≠s.heap.objs.size+1/\(((s.heap.push (V3 "list" #[] 0)).update s.heap.objs.size (Vw (·++vs.toArray))).push (V3 "list" vs.toArray 0)).get? b=yz o:=λb o q=>by have lt:=Vr q;exact⟨Vz (Vau lt),Vg _ ((Vcq _ _ _ _ (Vz lt)).trans (Vg _ q))⟩
 refine Calls.call_function_entry kind_sorted plain_sorted entry_sorted (args_sorted1 _) ?_;unfold Vbb.«sorted»;refine Va (m:=checkCount "sorted" 1 1 _) (Vd (Va (Xml hl J (Va (Vfs ?_ (by show (la vs)<=_;exact J))))));change Vf _ _ _ _ _ {s with heap:=((s.heap.push (V3 "list" #[] 0)).update s.heap.objs.size (Vw (·++vs.toArray))).push (V3 "list" vs.toArray 0)};rw[sz];refine Va (Uw (Vaq slot_list_sort ⟨_,oL,rfl⟩ entry_list_sort (X2f (KO:=KO) (lt:=lt) oL L (λg h' kp=>hk _ _ g h' λb o q=>kp b o (B b o q).1 (B b o q).2) (fun κ U h' kp=>hc κ U _ (Vl _) h' λb o q=>kp b o (B b o q).1 (B b o q).2) h1 h2 hsz ⟨_,rfl,?_⟩) (args_list_sort _)));exact Vd ⟨_,rfl,h⟩
end
def Row(h:Heap)(k:LI)(u:Vb):Prop:=∃a us,u=.ref a/\Vc0 h a us.toArray/\Vcb us k
theorem Row.keep(r:Row h k u)(kp:∀b o,h.get? b=yz o->h'.get? b=yz o):Row h' k u:=by obtain⟨a,us,e,⟨o,B,J⟩,hi⟩:=r;exact⟨a,us,e,⟨o,kp _ _ B,J⟩,hi⟩
theorem Xcq:∀ {xs:LD} {ks:LL},Xaq xs=yz ks->xs=ks.map λk=>.tup (k.map D.int)
 |[],ks,h=>by cases h;rfl|x::xs,ks,h=>by
  cases x with
  |tup ds=>
   simp only[Xaq]at h;cases e:Xi ds with
   |none=>rw[e]at h;cases h|some k=>
    rw[e]at h;dsimp only at h;cases B:Xaq xs with
    |none=>rw[B]at h;cases h|some r=>rw[B]at h;cases h;rw[Xac e,Xcq B];rfl
  |_=>cases h
theorem Xf3:∀(ks:LL) (its:LV),la its=la ks->(∀(i:Nat) (k:LI),ks[i]?=yz k->∃u,its[i]?=yz u/\Row h k u)->ks.all (λk=>!k.isEmpty)=yx->∃fs,PySem.W.KatTups h its fs/\(la fs)=la its/\∀v∈fs,∃n t,v=Vfw n t
 |[]=>λits B _ _=>by
  cases its with
  |nil=>exact⟨[],.nil,rfl,λv hv=>by cases hv⟩|cons _ _=>simp at B
 |k::ks=>λits B J hn=>by
  cases its with
  |nil=>simp at B|cons u its=>
   rw[Vb7,bA0]at hn;obtain⟨u',eu,a,us,rfl,⟨o,ho,hc,n,hd⟩,hi⟩:=J 0 k rfl;cases eu;obtain⟨fs,f1,f2,U⟩:=Xf3 ks its (by simpa using B) (λi k' Y=>J (i+1) k' Y) hn.2;cases hi with
   |nil=>simp at hn|cons x t L=>
    refine⟨.int x t::fs,.cons ho hc hd rfl f1,by simp[f2],λv hv=>?_⟩;rcases Vt.mp hv with rfl|hv;·exact⟨x,t,rfl⟩
    ·exact U v hv
inductive RowsV(h:Heap):LL->LV->Prop
 |nil:RowsV h [] []
 |cons {k:LI} {u:Vb} {ks:LL} {vs:LV}:Row h k u->RowsV h ks vs->RowsV h (k::ks) (u::vs)
inductive FsV:LL->List (OV)->Prop
 |nil:FsV [] []
 |non {ks:LL} {fs:List (OV)}:FsV ks fs->FsV ([]::ks) (yy::fs)
 |som {x:Int} {t:Tok} {k:LI} {ks:LL} {fs:List (OV)}:FsV ks fs->FsV ((x::k)::ks) (yz (.int x t)::fs)
theorem RowsV.of{h:Heap}:∀(ks:LL) (its:LV),la its=la ks->(∀(i:Nat) (k:LI),ks[i]?=yz k->∃u,its[i]?=yz u/\Row h k u)->RowsV h ks its
 |[]=>λits B _=>by
  cases its with
  |nil=>exact .nil|cons _ _=>simp at B
 |k::ks=>λits B J=>by
  cases its with
  |nil=>simp at B|cons u its=>obtain⟨Y,e,r⟩:=J 0 k rfl;cases e;exact .cons r (RowsV.of ks its (by simpa using B) λi U L=>J (i+1) U L)
theorem FsV.all{ks:LL}{fs:List (OV)}(f:FsV ks fs):(fs.all λx=>x.isSome)=ks.all (λk=>!k.isEmpty):=by
 induction f with
 |nil=>rfl|non _ ih=>simp|som _ ih=>simp[ih]
section
variable{M:Model}{A:Uq}{E:VP}{s:Vc}
theorem Xtq {k:LI} {u:Vb} (r:Row s.heap k u) {Q:VP} (h:Q (.type "tuple") s):Vf M A (typeOf u) Q E s:=by obtain⟨a,us,rfl,⟨o,B,J,_⟩,_⟩:=r;exact Vbm (T:="tuple") ⟨o,B,J⟩ h
theorem Xmm{ks:LL}{vs:LV}(r:RowsV s.heap ks vs):∀ {Q:List (OV)->Vc->Prop},(∀fs,FsV ks fs->Q fs s)->Vf M A (vs.mapM firstOfTuple') Q E s:=by
 induction r with
 |nil=>intro Q h;rw[List.mapM_nil];exact Vd (h _ .nil)|cons U _ ih=>
  intro Q h;rw[List.mapM_cons];refine Va ?_;obtain⟨a,us,rfl,⟨o,J,Y,n,hd⟩,hi⟩:=U;rw[PySem.W.kas_first_eq];refine Va (Vbm (T:="tuple") ⟨o,J,Y⟩ ?_);rw[iN0 (by decide)];refine Va (Vdk J hd (Vd ?_));cases hi with
  |nil=>exact Va (ih λfs B=>Vd (h _ (.non B)))|cons x t L=>exact Va (ih λfs B=>Vd (h _ (.som B)))
theorem Xgt{ks:LL}{vs:LV}(r:RowsV s.heap ks vs)(h2:0<la ks)(J:(ks.all λk=>!k.isEmpty)=yw){Q:SortKind->Vc->Prop}(h1:Q general' s)(h3:Q oneType' s):Vf M A (keyKind' vs.toArray) Q E s:=by
 rw[PyProof.Rows.kat_kind_eq,List.mapM_toArray,map_eq_pure_bind];refine Va (Va (Xmm r λfs hf=>Vd ?_));have B:(fs.toArray.all λx=>x.isSome)=false:=by rw[List.all_toArray,hf.all];exact J
 rw[B];simp only[Vv,if_false];split;·exact Vd h1
 ·rw[oneTypeOnly'_eq,List.mapM_toArray,map_eq_pure_bind];have ty:∀v∈vs,∀(L:VP),L (.type "tuple") s->Vf M A (typeOf v) L E s:=by
   clear h1 h3 hf B J;induction r with
   |nil=>intro v hv;cases hv|cons hr _ ih=>
    intro v hv L Y;rcases Vt.mp hv with rfl|hv;·exact Xtq hr Y
    ·rename_i U aa _ _;cases hk:U with
     |nil=>subst hk;rename_i r';cases r';cases hv|cons _ _=>exact ih (by rw[hk];simp) v hv L Y
  refine Va (Va (Va (PySem.W.kas_mapM (r:=Vbc "tuple") _ ty (Vd ?_))));split
  ·split;·exact Vd (Vd h3)
   ·exact Vd (Vd h1)
  exact Vd (Vd h1)
end
theorem Xdb{α:Type}{l:List α}{i:Nat}{x d:α}(h:l[i]?=yz x):l.getD i d=x:=by rw[Ux,h];rfl
section
variable{X:Cx}{pa:LA}{σ:L2.St}{H:Hp}{s:Vc}{ρ:LR}{S:Sto}{env:En}
theorem Xhq{ks:LL}{U:LW}{its:LV}(L:RDs X.K ρ H (ks.map λk=>.tup (k.map D.int)) U)(hv:Vals U its):∀(p:LN) (r:LL),Xb8 ks p=yz r ->
  ∃zs,RDs X.K ρ H (r.map λk=>.tup (k.map D.int)) zs/\Vals zs (p.map λi=>its.getD i Vad)/\(la zs)=la p
 |[]=>λr h=>by cases h;exact⟨[],.nil,.nil,rfl⟩|i::p=>λr h=>by
  simp only[Xb8]at h;cases e:ks[i]? with
  |none=>rw[e]at h;cases h|some k=>
   rw[e]at h;dsimp only at h;cases B:Xb8 ks p with
   |none=>rw[B]at h;cases h|some r'=>rw[B]at h;cases h;obtain⟨zs,z1,z2,z3⟩:=Xhq L hv p r' B;obtain⟨v,J,hd⟩:=L.get (i:=i) (d:=.tup (k.map D.int)) (by rw[Vx,e];rfl);obtain⟨u,Y,ru⟩:=hv.get J;refine⟨v::zs,.cons hd z1,?_,by simp[z3]⟩;rw[Uh,Xdb Y];exact .cons ru z2
theorem X7g{E:VP}{l:Addr}{ws:LW}{its:LV}{ks r:LL}(hu:X.A.units+200<Vbe)(I:S0 X pa σ H s ρ S env)(hl:s.heap.IsList l its.toArray\/Vc0 s.heap l its.toArray)(hr:RDs X.K ρ H (ks.map λk=>.tup (k.map D.int)) ws)(aa:Vals ws its)(B:X06 ks=yz r):
  Vf (Vj X.prog X.w) X.A (call (.builtin "sorted") [.ref l]) (OkP X pa σ ρ H (.ok (.ref (la S)) (S++[.lst (r.map λk=>.tup (k.map D.int))]))) E s:=by
 have Y:(la its)=la ks:=by rw[<-aa.length,<-hr.length,Vn]
 have L:∀(i:Nat) (k:LI),ks[i]?=yz k->∃u,its[i]?=yz u/\Row s.heap k u:=λi k hk=>by obtain⟨v,au,hd⟩:=hr.get (i:=i) (d:=.tup (k.map D.int)) (by rw[Vx,hk];rfl);obtain⟨u,hu,ru⟩:=aa.get au;simp only[RD]at hd;obtain⟨b,zs,rfl,hs,hz⟩:=hd;have ez:=hz.ints_of;subst ez;cases ru;obtain⟨us,h1,h2,_⟩:=I.inv.tuple hs;exact⟨_,hu,b,us,rfl,h2,Xbb h1⟩
 have aq:(la ks)<64/\∃(out:AV) (zs:LW),RDs X.K ρ H (r.map λk=>.tup (k.map D.int)) zs/\Vals zs out.toList/\out.size=la its/\(la its<2->out=its.toArray)/\(2<=la its->∃p,Xbl (ltK ks) (Vbf (la its))=yz p/\out=(p.toList.map λi=>its.getD i Vad).toArray):=by
  unfold X06 at B;by_cases h2:(la ks)<2;·rw[iP0 h2]at B;cases B;exact⟨by omega,its.toArray,ws,hr,aa,by simp,λ_=>rfl,λz=>by omega⟩
  ·rw[iN0 h2]at B;split at B
   ·rename_i hc;cases e4:Xbl (ltK ks) (Vbf (la ks)) with
    |none=>rw[e4]at B;cases B|some p=>
     rw[e4]at B;simp only[V1]at B;split at B
     case isFalse=>cases B
     rename_i ay;obtain⟨zs,z1,z2,z3⟩:=Xhq hr aa p.toList r B;exact⟨hc,(p.toList.map λi=>its.getD i Vad).toArray,zs,z1,z2,by simp[ay,Y],λz=>by omega,λ_=>⟨p,by rw[Y];exact e4,rfl⟩⟩
   cases B
 obtain⟨a0,out,zs,z1,z2,z0,z3,z4⟩:=aq;have ai:∀(M:Model) (h:Heap) (v:Vb),(∃n t,v=Vfw n t)->PySem.W.Looks M h (typeOf v) (.type "int"):=λM h v z=>by obtain⟨n,t,rfl⟩:=z;exact .now
 refine Xrg (KO:=fun κ=>κ=tuples' yx\/κ=general'\/κ=oneType') (lt:=ltK ks) (out:=out) hl (by omega) (λA E g h' kp Q' hq=>?_) (fun κ ao A' a3 h' kp i j b C U hC=>?_) z3 z4 z0 ?_
 ·have rk:∀(i:Nat) (k:LI),ks[i]?=yz k->∃u,its[i]?=yz u/\Row h' k u:=λi k hk=>let ⟨u,hu,hr⟩:=L i k hk;⟨u,hu,hr.keep kp⟩
  cases en:(ks.all λk=>!k.isEmpty) with
  |true=>obtain⟨fs,f1,f2,f3⟩:=Xf3 (h:=h') ks its Y rk en;exact PySem.W.kat_kind (T:=.type "int") f1 (by omega) (λv hv=>ai _ _ v (f3 v hv)) rfl (hq _ (.inl rfl))|false=>exact Xgt (s:={s with heap:=h' }) (RowsV.of ks its Y rk) (by omega) en (hq _ (.inr (.inl rfl))) (hq _ (.inr (.inr rfl)))
 ·unfold ltK at U;cases e5:ks[i]? with
  |none=>rw[e5]at U;cases U|some k=>
   rw[e5]at U;dsimp only at U;cases e6:ks[j]? with
   |none=>rw[e6]at U;cases U|some k'=>
    rw[e6]at U;cases U;obtain⟨u,ap,aw⟩:=L i k e5;obtain⟨u',an,av⟩:=L j k' e6;obtain⟨a1,az,rfl,⟨o1,ac,al,n1,ae⟩,aj⟩:=aw.keep kp;obtain⟨a2,ar,rfl,⟨o2,ah,am,n2,af⟩,ak⟩:=av.keep kp;unfold Vgc;rw[Xdb ap,Xdb an];rcases ao with rfl|rfl|rfl;·refine PySem.W.kat_lt ac ae ah af ?_;simp only[Vk];exact Xrf aj k' ar 0 ak hC
    ·exact Xdt (b:=yw) (s:={s with heap:=h' }) (by omega) ⟨o1,ac,al,n1,ae⟩ ⟨o2,ah,am,n2,af⟩ aj ak hC
    exact Xdt (b:=yx) (s:={s with heap:=h' }) (by omega) ⟨o1,ac,al,n1,ae⟩ ⟨o2,ah,am,n2,af⟩ aj ak hC
 ·obtain⟨e8,ax⟩:=sortedAll_at s.heap its out;have ab:s.heap.objs.size<=s.heap.objs.size+1:=Vd4 _;have J:=I.inv.laid (o:=.lst zs) (t':=s.toks) (h':=sortedAll s.heap its out) (λb u U=>sortedAll_old U) ab
   ⟨by rw[z2.length,Uy,z0,Vbp];omega,out.toList,e8,z2,by simpa [V3] using ax⟩
  exact Xba J (I.inv.hok.fresh ab) I.sr z1
end
end Z
end
section
namespace Z
open PySem PySem.SetTable PySem.Spec PyProof.Rows L2
theorem Xnp:∀(l acc:LL),la acc<=(l.foldl ddR acc).length
 |[]=>λacc=>Vl _|x::l=>λacc=>by
  refine Ul ?_ (Xnp l (ddR acc x));unfold ddR;split;·exact Vl _
  ·simp
theorem Xtr(ks:LL)(i:Nat)(hi:i<la ks):ddL (ks.take (i+1))=ddR (ddL (ks.take i)) (ks.getD i []):=by unfold ddL;rw[Vdf,Uv hi,Vg4];simp[List.getD,hi]
theorem X2g(ks:LL)(i:Nat):(ddL (ks.take i)).length<=(ddL ks).length:=by
 have:ks=ks.take i++ks.drop i:=(Vfy i ks).symm;unfold ddL
 conv=>rhs;rw[this,Vg4]
 exact Xnp _ _
theorem Xdc{prog:Vy}{w:V9}{h h':Heap}{k:LI}{x:Addr}(r:(Xo prog w).is h k x)(e:∀o,h.get? x=yz o->h'.get? x=yz o):(Xo prog w).is h' k x:=by obtain⟨o,its,m,B,r⟩:=r;exact⟨o,its,m,e _ B,r⟩
theorem SetR.mov{prog:Vy}{w:V9}{h h':Heap}{a:Addr}{ld:Bool}{ps:List (LI×Addr)}(S:SetR prog w h a ld ps)(e:∀o,h.get? a=yz o->h'.get? a=yz o)(U:∀p∈ps,∀o,h.get? p.2=yz o->h'.get? p.2=yz o):SetR prog w h' a ld ps:=by obtain⟨o,es,ep,t,L,B,hd,m,r⟩:=S;exact⟨o,es,ep,t,e _ L,B,hd,⟨m.1,λp J=>Xdc (m.2 p J) (U p J)⟩,r⟩
section
variable{prog:Vy}{w:V9}{A:Uq}{R:Result->Vc->Prop}{I:Addr}{fp wr:LR}{G:Array Vex->Array Vex->Prop}{n:Nat}{P:Nat->Vb->Prop}{St:Nat->Vc->Prop}{ld:Bool}
theorem Xts(W:WalksS prog w A.in1 I fp wr G n P St)(L:Addr)(hf:L ∉ fp)(ks:LL)(xs:LR)(hn:(la ks)=n)(hP:∀i v,P i v->∃x,v=.ref x/\xs[i]?=yz x)(hx:∀x∈xs,x≠L/\x ∉ wr)(hu:A.units+1<Vbe)(hb:(ddL ks).length<1200):
  ∀(k i:Nat) (s:Vc) (ps:List (LI×Addr)),n-i=k->i<=n->St i s->SetR prog w s.heap L ld ps->(ps.map (·.1)).Perm (ddL (ks.take i))->(∀p∈ps,∃i:Nat,ks[i]?=yz p.1/\xs[i]?=yz p.2)->(∀(i:Nat) (x:Addr),xs[i]?=yz x->(Xo prog w).is s.heap (ks.getD i []) x) ->
   (∀s' B,Moved (L::wr) G s s'->SetR prog w s'.heap L ld B->(B.map (·.1)).Perm (ddL ks)->(∀p∈B,∃i:Nat,ks[i]?=yz p.1/\xs[i]?=yz p.2)->R (.ok (.ret .none)) s')->Vbz (Vj prog w) A (.builtin "set.update.loop" ⟨[.ref L,.ref I],[]⟩) R s:=by
 have hw:L ∉ wr:=λh=>hf (W.sub _ h);have sub:∀b∈wr,b∈L::wr:=λb hb=>Ua _ hb;intro k;induction k with
 |zero=>
  intro i s ps hk hi st S p J hr hR;obtain rfl:i=n:=by omega
  refine Va8 F.entry_set_update_loop ?_;rw[Vbt Vfi _];show Vf _ A.in1 (pyNext (.ref I) >>= _) _ _ s;refine Va (W.done s _ _ st λs' m=>?_);show Vf _ A.in1 (ret Vad) _ _ s';refine Vd (hR s' ps (m.mono sub) (S.mov (λo e=>m.heap L o hw e) λp hp o e=>?_) (by rwa [<-hn,Vca]at p) J);obtain⟨j,_,e2⟩:=J p hp;exact m.heap _ o (hx _ (V6 e2)).2 e|succ k ih=>
  intro i s ps hk hi st S p J hr hR;have lt:i<n:=by omega
  refine Va8 F.entry_set_update_loop ?_;rw[Vbt Vfi _];show Vf _ A.in1 (pyNext (.ref I) >>= _) _ _ s;refine Va (W.item i s _ _ lt st λv s' hv ai m=>?_);obtain⟨x,rfl,ex⟩:=hP i v hv;have Y:∀y∈xs,∀o,s.heap.get? y=yz o->s'.heap.get? y=yz o:=λy hy o e=>m.heap y o (hx y hy).2 e;have S1:=S.mov (λo e=>m.heap L o hw e) (λq hq o e=>by obtain⟨j,_,e2⟩:=J q hq;exact Y _ (V6 e2) o e);show Vf _ A.in1 (Vdo [U8 x] (setAdd L (.ref x)) >>= _) _ _ s';have le:=X2g ks i;have pl:(la ps)=(ddL (ks.take i)).length:=by rw[<-p.length_eq,Vn]
  refine Va (Uw (Xxm (show A.in1.units<Vbe from hu) S1 (Xdc (hr i x ex) (Y x (V6 ex))) (by omega) λh' B sb S' q=>?_));have ab:∀q∈B,∃i:Nat,ks[i]?=yz q.1/\xs[i]?=yz q.2:=λz U=>by
   rcases q with⟨_,rfl⟩|⟨_,q2⟩;·exact J z U
   ·rcases Vao.mp (q2.mem_iff.mp U) with U|U;·exact J z U
    ·rw[U4]at U;subst U;exact⟨i,by simp[List.getD,show i<la ks by omega],ex⟩
  refine Vd ⟨Veo Vfi _,ih (i+1) _ B (by omega) lt (W.frame _ s' _ _ ai (Vfv _ _) λb hb o e=>?_) S' ?_ ab (λj y ey=>Xdc (Xdc (hr j y ey) (Y y (V6 ey))) λo e=>?_) λaf aa ae ah aj ac=>?_⟩;·rw[sb.2 b (λz:b=L=>hf (z▸hb))];exact e
  ·rw[Xtr ks i (by omega)];unfold ddR;rcases q with⟨q1,rfl⟩|⟨q1,q2⟩;·rw[iP0 (p.mem_iff.mp q1)];exact p
   ·rw[iN0 (λz=>q1 (p.mem_iff.mpr z))];have:=q2.map (·.1);rw[Vci]at this;exact this.trans (p.append_right _)
  ·rw[sb.2 y (hx y (V6 ey)).1];exact e
  refine hR af aa (Moved.trans W.gtrans ((m.mono sub).then_heap (Vfv _ _) λb o hb e=>?_) ae) ah aj ac;rw[sb.2 b (λz:b=L=>hb (z▸U9))];exact e
end
end Z
end
section
namespace Z
open PySem PySem.SetTable PySem.Spec PyProof.Rows
section
variable{prog:Vy}{w:V9}{A:Uq}{E:VP}{s:Vc}
theorem Xtt {h:Heap} {ld:Bool} {a:Addr} (e:h.get? a=yz {cls:=.type "set",dict:=yy,data:=.set #[] 0 (.fresh 0 0 ld)}):SetR prog w h a ld []:=
 ⟨_,#[],0,.fresh 0 0 ld,e,⟨rfl,rfl,rfl⟩,rfl,⟨rfl,λp B=>by cases B⟩,⟨Xxy ld,λj h x J=>by simp[Ats,SetTable.fresh]at J⟩,rfl⟩
theorem Xrh(b:Bool){l:Addr}{items:AV}{rs:LL}{xs:LR}{Q:VP}(hh:A.handled=yy)(hu:A.units+9<Vbe)(hl:Xtm b s.heap l items)(hi:items.toList=xs.map U8)(U:(la rs)=la xs)(J:∀(i:Nat) (x:Addr),xs[i]?=yz x->(Xo prog w).is s.heap (rs.getD i []) x)(hb:(ddL rs).length<1200)
  (h:∀(h':Heap) (tk:Nat) (ps:List (LI×Addr)),SetR prog w h' s.heap.objs.size (!byT w) ps->(ps.map (·.1)).Perm (ddL rs)->(∀p∈ps,∃i:Nat,rs[i]?=yz p.1/\xs[i]?=yz p.2)->(∀b o,s.heap.get? b=yz o->h'.get? b=yz o)->Q (.ref s.heap.objs.size) {s with heap:=h',toks:=tk}):
  Vf (Vj prog w) A (call (.type "set") [.ref l]) Q E s:=by
 obtain⟨lS,St,W,st⟩:=Xxz (prog:=prog) (w:=w) b hh hl;have hz:items.size=la rs:=by rw[<-Uy,hi,Vn,U]
 have L:∀x∈xs,x<s.heap.objs.size:=λx Y=>by obtain⟨i,e⟩:=List.mem_iff_getElem?.mp Y;obtain⟨o,_,_,ho,_⟩:=J i x e;exact Vr ho
 refine Xra b hl (R:=λB=>Q (.ref s.heap.objs.size) B) (λB h=>h) λR' ab=>Xts W s.heap.objs.size (Xx1 lS) rs xs hz.symm (λi v hv=>?_) (λx Y=>⟨Vz (L x Y),?_⟩) (by simp only[Around.in1_units];omega) hb (items.size-0) 0 _ [] rfl (Ug _) st (Xtt (X12 b l)) (Vgl _) (λp hp=>by cases hp) (λi x e=>Xdc (J i x e) λo ho=>Vg _ (Vg _ ho)) λs' ps m S' p aa=>ab s' ?_
 ·rw[<-U2,hi,Vx]at hv;cases e:xs[i]? with
  |none=>rw[e]at hv;cases hv|some x=>rw[e]at hv;cases hv;exact⟨x,rfl,rfl⟩
 ·rw[Vbs];simp only[Vt,U3,or_false];exact Vz (Vau (L x Y))
 obtain⟨h',tk,rfl,k'⟩:=X11 m (Xx0 b l);exact h _ _ ps S' p aa k'
end
end Z
end
section
namespace Z
open PySem PySem.Spec PyProof.Rows L2
theorem Xlc:∀(n:Nat) (l:LD) (x:D),Yd n (l++[x])=Yd n l++[.tup [.int (n+la l:Nat),x]]
 |n,[]=>λx=>by simp only[Uz,Yd,Vdz,Ve1]|n,y::l=>λx=>by
  have ih:=Xlc (n+1) l x;simp only[Vah,Yd,ih,U6];have e:n+1+la l=n+(la l+1):=by omega
  rw[e]
theorem Xtu(h:a≠b):upd (upd H a o) b u=upd (upd H b u) a o:=by
 funext c;unfold upd;by_cases h1:c=a;·subst h1;simp[h]
 ·by_cases h2:c=b;·subst h2;simp[h1]
  ·simp[h1,h2]
section
variable{X:Cx}{pa:LA}{σ:L2.St}{ρ:LR}{S:Sto}
theorem Xri(h:Rd H a u)(hp:H p=yy):Rd (upd H p o) a u:=by
 rcases h with h|⟨ob,h⟩;·exact .inl ((Xe (Xk h hp)).trans h)
 ·exact .inr ⟨ob,(Xe (Xk h hp)).trans h⟩
theorem Xhr{k:Bool}{K:Ve}{H:Hp}{a p:Addr}{vs:LW}{o:HO}(h:SqH k K H a vs)(hp:H p=yy):SqH k K (upd H p o) a vs:=by
 cases k
 ·rcases h with h|h;·exact .inl (Xri h hp)
  ·exact .inr h
 rcases h with h|h;·exact .inl (Xri h hp)
 ·exact .inr h
theorem Xld(h:Xab X pa H b)(B:b≠p):Xab X pa (upd H p o) b:=⟨(Xe B).trans h.1,h.2⟩
theorem Xjf{R:Result->Vc->Prop}{k:Bool}{xs:LD}{ws:LW}(hA:A.in1.handled=yy)(ak:e≠it)(hz:(la ws)<=Vu):
  ∀(m i:Nat) (s:Vc) (B:Hp) (rs:LW),i+m=la ws->Inv X pa σ (upd B L (.lst rs)) s->(∀b∈[e,it],Xab X pa (upd B L (.lst rs)) b)->EnA s.heap e it i->ItK k s.heap it a i->SqH k X.K B a ws->B L=yy->SR X.K ρ S B->RDs X.K ρ B xs ws->RDs X.K ρ B (Yd 0 (xs.take i)) rs ->
  (∀s' U aa,Inv X pa σ (upd U L (.lst aa)) s'->U L=yy->Stp X.K ρ ρ B U->SR X.K ρ S U->RDs X.K ρ U (Yd 0 xs) aa->R (.ok (.ret res)) s') ->
  Vbz (Vj X.prog X.w) A (.builtin "list.extend.loop" ⟨[.ref L,.ref e,res],[]⟩) R s
 |0=>λi s B rs hm J hf en io ac hL sr rd rn hR=>by
  have ao:(la xs)=la ws:=rd.length;obtain⟨its,rv,p⟩:=Xhm J (Xhr ac hL);have hl:=rv.length;refine Va8 F.entry_extend_loop ?_;rw[Vbt Ves _];show Vf _ A.in1 (pyNext (.ref e) >>= _) _ _ s;refine Va (Xk3 hA en io p (by simp;omega) λh' kp=>?_);have J':Inv X pa σ (upd B L (.lst rs)) {s with heap:=h',toks:=s.toks}:=Xe2 (t':=s.toks) J hf λc o Y z=>by simp only[Vt,U3,or_false,not_or]at Y;exact kp c o Y.2 z
  have e1:xs.take i=xs:=Vcu (by omega);rw[e1]at rn;exact Vd (hR _ B rs J' hL .refl sr rn)|m+1=>λi s B rs hm J hf en io ac hL sr rd rn hR=>by
  have ao:(la xs)=la ws:=rd.length;obtain⟨its,rv,p⟩:=Xhm J (Xhr ac hL);have hl:=rv.length;obtain⟨v,hv⟩:∃v,ws[i]?=yz v:=⟨ws[i]'(by omega),Uv _⟩;obtain⟨x,hx⟩:∃x,xs[i]?=yz x:=⟨xs[i]'(by omega),Uv _⟩;obtain⟨u,hu,ru⟩:=rv.get hv;have hT:upd B L (.lst rs) s.heap.objs.size=none:=J.hok.fresh (Vl _);have ab:L≠s.heap.objs.size:=λz=>by rw[<-z,Xm]at hT;cases hT
  have ae:B s.heap.objs.size=none:=by rw[<-Xe (H:=B) (o:=.lst rs) (Ne.symm ab)];exact hT
  have hle:∀b∈[e,it],b≠L:=λb hb z=>by have:=(hf b hb).1;rw[z,Xm]at this;cases this
  obtain⟨au,ai,c,ra,eo⟩:=(show ObjOk X.prog X.w (upd B L (.lst rs)) s.heap L (.lst rs) from J.hok L _ Xm);have ar:=ra.length;have av:(la rs)=i:=by
   have:=rn.length;have q:∀(n:Nat) (l:LD),(Yd n l).length=la l:=λn l=>by
    induction l generalizing n with
    |nil=>rfl|cons y l ih=>simp only[Yd,U6,ih]
   rw[q,Vag]at this;omega
  refine Va8 F.entry_extend_loop ?_;rw[Vbt Ves _];show Vf _ A.in1 (pyNext (.ref e) >>= _) _ _ s;refine Va (Xk2 ak en io p (x:=u) (by simpa using hu) λh' aq an pr kp=>?_);have al:h'.get? L=yz {cls:=.type "list",data:=.seq ai.toArray c}:=kp L _ (Ne.symm (hle e (by simp))) (Ne.symm (hle it (by simp))) eo;show Vf _ A.in1 (updateSeq L (·.push (.ref s.heap.objs.size)) >>= _) _ _ _;refine Va ?_;have J1:Inv X pa σ (upd (upd B L (.lst rs)) s.heap.objs.size (.tup [.int i,v])) {s with heap:=s.heap.push {cls:=.type "tuple",data:=.seq #[.int i s.toks,u]} }:=J.laid (t':=s.toks) (λc o z=>Vg _ z) (Vl _) ⟨by show 2<=Vu;decide,[.int i s.toks,u],.cons ⟨_,rfl⟩ (.cons ru .nil),⟨_,Vq _ rfl,rfl,_,rfl⟩⟩;have aj:∀c∈[e,it],c≠s.heap.objs.size:=λc Y=>by
   simp only[Vt,U3,or_false]at Y;rcases Y with rfl|rfl;·obtain⟨f0,f1,o,q,_⟩:=en;exact Vz (Vr q)
   ·obtain⟨o,z,_⟩:=io.obj;exact Vz (Vr z)
  have ap:∀c∈[e,it],Xab X pa (upd (upd B L (.lst rs)) s.heap.objs.size (.tup [.int i,v])) c:=λc Y=>Xld (hf c Y) (aj c Y);have J2:Inv X pa σ (upd (upd B L (.lst rs)) s.heap.objs.size (.tup [.int i,v])) {s with heap:=h',toks:=s.toks+1}:=Xe2 (s:={s with heap:=s.heap.push {cls:=.type "tuple",data:=.seq #[.int i s.toks,u]} }) (h':=h') (t':=s.toks+1) J1 ap λc o Y z=>by
   simp only[Vt,U3,or_false,not_or]at Y;by_cases q:c=s.heap.objs.size;·subst q;have z':=(Vq s.heap (o:={cls:=.type "tuple",data:=.seq #[.int i s.toks,u]}) rfl).symm.trans z;rw[<-z'];exact pr
   ·exact kp c o Y.1 Y.2 (Xk1 z q)
  have ah:Mut (upd (upd B L (.lst rs)) s.heap.objs.size (.tup [.int i,v]) L):=by rw[Xe ab,Xm];exact trivial
  have eS:=Va5 (Vw (·.push (U8 s.heap.objs.size))) al rfl;have af:∀b o,b≠L->h'.get? b=yz o->(h'.update L (Vw (·.push (U8 s.heap.objs.size)))).get? b=yz o:=λb o hb q=>(Vb3 _ _ (Ne.symm hb)).trans q;have J3:=J2.write (x:=L) (e:=L) (o:=.lst (rs++[.ref s.heap.objs.size])) (t':=s.toks+1) (h':=h'.update L (Vw (·.push (U8 s.heap.objs.size)))) ah (.inl rfl) (λb o hb q=>af b o hb q) ⟨_,eS⟩
   ⟨by rw[Ur];simp only[U6,Vdz];omega,ai++[.ref s.heap.objs.size],_,ra.append (.cons (show L2.RelV (.ref s.heap.objs.size) (.ref s.heap.objs.size) from rfl) .nil),by rw[eS];simp[Vw];rfl⟩
  have eH:upd (upd (upd B L (.lst rs)) s.heap.objs.size (.tup [.int i,v])) L (.lst (rs++[.ref s.heap.objs.size]))=upd (upd B s.heap.objs.size (.tup [.int i,v])) L (.lst (rs++[.ref s.heap.objs.size])):=by rw[Xtu ab,Xwy]
  rw[eH]at J3;have st:Stp X.K ρ ρ B (upd B s.heap.objs.size (.tup [.int i,v])):=Stp.upd ae;have xd:RD X.K ρ B x v:=by have:=rd.get hx;obtain⟨v',h1,h2⟩:=this;rw[hv]at h1;cases h1;exact h2
  refine Vgd al rfl (Vd ⟨Veo Ves _,Xjf hA ak hz m (i+1) _ (upd B s.heap.objs.size (.tup [.int i,v])) (rs++[.ref s.heap.objs.size]) (by omega) J3 (λb hb=>?_) ?_ ?_ (Xhr ac ae) ((Xe ab).trans hL) (sr.upd ae) (RDs.mono st _ _ rd) ?_ λs' U aa q1 q2 q3 q4 q5=>hR s' U aa q1 q2 (st.trans q3) q4 q5⟩) (by simp;omega) (by simp;omega);·exact Xld ⟨(Xe (aj b hb)).trans (by have:=(hf b hb).1;rwa [Xe (hle b hb)]at this),(hf b hb).2⟩ (hle b hb)
  ·obtain⟨f0,f1,o,q,q2⟩:=aq;exact⟨f0,f1,o,by push_cast;exact af _ _ (hle e (by simp)) q,q2⟩
  ·exact an.at λo q=>af _ _ (hle it (by simp)) q
  have et:xs.take (i+1)=xs.take i++[x]:=by rw[Vdf,hx];rfl
  have am:0+(xs.take i).length=i:=by rw[Vag];omega
  rw[et,Xlc,am];refine RDs.append (RDs.mono st _ _ rn) ?_;simp only[RDs];refine⟨_,_,rfl,?_,rfl⟩;simp only[RD];refine⟨s.heap.objs.size,[.int i,v],rfl,.of Xm,?_⟩;simp only[RDs];exact⟨_,_,rfl,rfl,_,_,rfl,xd.mono st,rfl⟩
theorem Xrj:typeLookup (.type "enumerate") "__len__"=pure none:=by rw[Vf7,Vec];kernel_rfl
theorem Xo9:typeLookup (.type "enumerate") "__length_hint__"=pure none:=by rw[Vf7,Vec];kernel_rfl
structure Lnm(X:Cx)(pa:LA)(σ:L2.St)(ρ:LR)(S:Sto)(H:Hp)(s:Vc)(k:Bool)(e it a:Addr)(xs:LD)(ws:LW):Prop where
 inv:Inv X pa σ H s
 fp:∀b∈[e,it],Xab X pa H b
 en:EnA s.heap e it 0
 io:ItK k s.heap it a 0
 sq:SqH k X.K H a ws
 sr:SR X.K ρ S H
 rd:RDs X.K ρ H xs ws
 ln:(la ws)<=Vu
 ne:e≠it
theorem Xrk{R:Result->Vc->Prop}{k:Bool}{xs:LD}{ws:LW}(hA:A.in1.handled=yy)(q:Lnm X pa σ ρ S H s k e it a xs ws)
  (hR:∀s' aa ah,Inv X pa σ (upd aa s.heap.objs.size (.lst ah)) s'->aa s.heap.objs.size=yy->Stp X.K ρ ρ H aa->SR X.K ρ S aa->RDs X.K ρ aa (Yd 0 xs) ah->R (.ok (.ret .none)) s'):
  Vf (Vj X.prog X.w) A.in1 (Vbb.«list.__init__» ⟨[.ref s.heap.objs.size,.ref e],[]⟩)
   (λfin s'=>match fin with | .done f=>R (.ok f) s' | .again c'=>c'.quiet=yx/\Vbz (Vj X.prog X.w) A c' R s') (λe s'=>R (.error e) s') {s with heap:=s.heap.push {cls:=.type "list",data:=.seq #[]} }:=by
 obtain⟨f0,f1,ab,eo,ef⟩:=q.en;have hL:H s.heap.objs.size=none:=q.inv.hok.fresh (Vl _);have hS:(s.heap.push {cls:=.type "list",data:=.seq #[]}).get? s.heap.objs.size=yz {cls:=.type "list",data:=.seq #[]}:=Vq _ rfl;generalize B:s.heap.objs.size=L at hS hL hR;have he:e≠L:=by rw[<-B];exact Vz (Vr eo)
 have hi:it≠L:=by obtain⟨o,z,_⟩:=q.io.obj;rw[<-B];exact Vz (Vr z)
 show Vf _ A.in1 (do let ab <- Builtin.List.listItems (.ref L);Builtin.List.listUpdate (.ref L) (λ_=>#[]);letGo ab.toList.reverse;Vas (.ref L) (.ref e) .none) _ _ _;refine Va ?_;unfold Builtin.List.listItems;refine Va (Ved hS rfl (Vd ?_));show Vf _ A.in1 (updateSeq L (λ_=>#[]) >>= λ_=>letGo (#[]:AV).toList.reverse >>= λ_=>Vas (.ref L) (.ref e) .none) _ _ _;refine Va (Vgd hS rfl ?_);have ae:=Va5 (Vw (λ_=>(#[]:AV))) hS rfl;have ac:∀b o,s.heap.get? b=yz o->((s.heap.push {cls:=.type "list",data:=.seq #[]}).update L (Vw (λ_=>(#[]:AV)))).get? b=yz o:=
  λb o z=>(Vb3 _ _ (λh:L=b=>by rw[<-h,<-B]at z;exact Vb5 _ (Vr z))).trans (Vg _ z)
 refine Va (wpAny_letGo ?_);obtain⟨c2,U⟩:∃c2,((s.heap.push {cls:=.type "list",data:=.seq #[]}).update L (Vw (λ_=>(#[]:AV)))).get? L=yz {cls:=.type "list",data:=.seq #[] c2}:=⟨_,ae⟩;clear ae;generalize (s.heap.push {cls:=.type "list",data:=.seq #[]}).update L (Vw (λ_=>(#[]:AV)))=h1 at U ac;have ai:=ac _ _ eo;have hT:Shared.TypeIs {s with heap:=h1} (.ref e) "enumerate" := ⟨_,ai,rfl⟩;unfold Vas;refine Va (Vbm hT ?_);have b1:Vhc (.ref L) (.ref e)=false:=by simp[Vhc,Ne.symm he]
 have b2:(Vbc "enumerate" == Vbc "list")=false:=by decide
 have b3:(Vbc "enumerate" == Vbc "tuple")=false:=by decide
 simp only[b1,b2,b3,Bool.or_false,Vv,if_false];refine Va (Xf1 ⟨f0,f1,ab,ai,ef⟩ ?_);refine Va (Uw ?_);unfold Builtin.List.listLengthHint;refine Va (wpAny_specialOf hT Xrj ?_);show Vf _ A.in1 (specialOf (U8 e) (U5 "__length_hint__") >>= _) _ _ _;refine Va (wpAny_specialOf hT Xo9 ?_);refine Vd ?_;show Vf _ A.in1 (rule "list.extend.makes-room" >>= λ_=>Builtin.List.listTouch (.ref L) >>= λ_=>again (.builtin "list.extend.loop" ⟨[.ref L,.ref e,.none],[]⟩)) _ _ _;refine Va (Vde ?_);refine Va ?_;show Vf _ A.in1 (updateSeq L (·.push .none) >>= λ_=>updateSeq L (·.pop)) _ _ _;refine Va (Vgd U rfl ?_);have af:=Va5 (Vw (·.push Vad)) U rfl;refine Vgd (hz:=by seq_fits) af rfl ?_;have aj:=Va5 (Vw (·.pop)) af rfl;have Y:∀b o,s.heap.get? b=yz o->((h1.update L (Vw (·.push Vad))).update L (Vw (·.pop))).get? b=yz o:=λb o z=>by
  have hb:L≠b:=λh=>by rw[<-h,<-B]at z;exact Vb5 _ (Vr z)
  exact(Vb3 _ _ hb).trans ((Vb3 _ _ hb).trans (ac b o z))
 have J:=q.inv.laid (o:=.lst []) (t':=s.toks) (h':=(h1.update L (Vw (·.push Vad))).update L (Vw (·.pop))) Y (Nat.le_of_eq B) ⟨Ug _,[],_,.nil,aj⟩;have ak:=Y _ _ eo;refine Vd ⟨Veo Ves _,Xjf hA q.ne q.ln ws.length 0 _ H [] (Vbo _) J (λb hb=>Xld (q.fp b hb) ?_) ⟨_,_,_,ak,ef⟩ (q.io.at λo z=>Y _ _ z) q.sq hL q.sr q.rd ?_ hR⟩
 ·simp only[Vt,U3,or_false]at hb;rcases hb with rfl|rfl;·exact he
  ·exact hi
 ·simp only[List.take_zero,Yd,RDs]
theorem Xrl{k:Bool}{xs:LD}{ws:LW}{E:VP}(hh:X.A.handled=yy)(q:Lnm X pa σ ρ S H s k e it a xs ws):
  Vf (Vj X.prog X.w) X.A (call (.type "list") [.ref e]) (OkP X pa σ ρ H (.ok (.ref (la S)) (S++[.lst (Yd 0 xs)]))) E s:=by
 refine callType_codes (Q₁:=λobj B=>obj=.ref s.heap.objs.size/\B={s with heap:=s.heap.push {cls:=.type "list",data:=.seq #[]} }) F.called_list (F.typeCall_list_1 _) F.entry_list_init
  (code_list_new _ ⟨rfl,rfl⟩) λobj B L=>?_
 obtain⟨rfl,rfl⟩:=L;have Y:(s.heap.push {cls:=.type "list",data:=.seq #[]}).get? s.heap.objs.size=yz {cls:=.type "list",data:=.seq #[]}:=Vq _ rfl;refine⟨⟨_,Y,rfl⟩,F.args_list_init_2 _ _,Xrk (show X.A.in1.in1.handled=yy from hh) q λs' Hb rs J U st sr rd=>?_⟩;exact⟨rfl,(Xba J U sr rd).pre st⟩
theorem Xtv(I:Inv X pa σ H s)(h:SqH k X.K H a vs):(la vs)<=Vu:=by
 cases k;·obtain⟨its,B,p,z⟩:=I.tuple h;exact z
 ·obtain⟨its,B,p,z⟩:=I.list h;exact z
theorem X2h (hc:X.calm=yx) (ai:Gl X "list") (af:X.mg "list"=yy) (ac:Gl X "enumerate") (ab:X.mg "enumerate"=yy) (ha:DE X a f) (hs:V7 [a] X.env=(yw,eval a X.env)::V7 [] X.env):
  DE X (.Call (.Name "list" p) [.Call (.Name "enumerate" p2) [a] [] pos2] [] pos) (λenv S=>(f env S).bind λx S=>match Xs S x with|some xs=>.ok (.ref (la S)) (S++[.lst (Yd 0 xs)])|none=>.bad):=by
 intro pa s σ H ρ S env I U;dsimp only at U ⊢;refine Vai (Yn I.inv ai af (u:=.type "list") (by decide+kernel) (Vaj (Vbk ?_ rfl) rfl rfl) (by decide) rfl);refine Vai (Yn I.inv ac ab (u:=.type "enumerate") (by decide+kernel) (Vaj (Vbk ?_ hs) hs rfl) (by decide) rfl);cases q:f env S with
 |bad=>rw[q]at U;cases U rfl|ex n S1=>exact ha.ex I q λx s' z=>⟨n,S1,rfl,z⟩|ok d S1=>
  rw[q]at U;simp only[Rk0]at U ⊢;cases e:Xs S1 d with
  |none=>rw[e]at U;cases U rfl|some xs=>
   dsimp only;refine ha.ok I q λu Y v H1 ae B rv rd ah=>Vbl ?_;obtain⟨b,ws,rfl,hq,hr⟩:=B.seq e rd;cases rv;obtain⟨k,hk⟩:∃k,SqH k X.K H1 b ws:=by
    rcases hq with hq|hq;·exact⟨yx,hq⟩
    ·exact⟨yw,hq⟩
   obtain⟨its,aj,pk⟩:=Xhm B.inv hk;refine Xni pk λh' st kp=>Vbl ?_;have J:Inv X pa σ H1 {Y with heap:=h' }:=B.inv.kept (t':=Y.toks) kp
   have L:Lnm X pa σ ae S1 H1 {Y with heap:=h' } k (Y.heap.objs.size+1) Y.heap.objs.size b xs ws:=⟨J,λc hb=>by
    have aa:Y.heap.objs.size<=c:=by
     simp only[Vt,U3,or_false]at hb;rcases hb with rfl|rfl;·exact Vd4 _
     ·exact Vl _
    exact B.inv.fpOk aa (B.inv.hok.fresh aa),st.eo,st.io,hk,B.sr,hr,Xtv B.inv hk,Nat.succ_ne_self _⟩
   exact Vo (Xrl (E:=λ_ _=>False) (B.inv.ok.hd hc) L) (λw s2 z=>z.pre ah) λ_ _ z=>z.elim
variable{H:Hp}{s:Vc}{env:En}{K:Ve}{Da:Addr}
noncomputable def X7x(X:Cx)(Da:Addr)(ks:LI):HO:=.ext λh=>X65 X.prog X.w h Da (!byT X.w) ks
variable{d:Nat}
variable{t:Tg}{n:Nat}
theorem Xjg{K:Ve}:∀ {ks:LL} {J:LW} {its:LV},RDs K ρ H (ks.map λk=>.tup (k.map D.int)) J->Vals J its->∃B:LR,its=B.map U8/\(la ks)=la B/\∀(i:Nat) (x:Addr),B[i]?=yz x->SqT K H x ((ks.getD i []).map V.int)
 |[],J,its,h,v=>by simp only[Vdi,RDs]at h;subst h;cases v;exact⟨[],rfl,rfl,λi x e=>by simp at e⟩|k::ks,J,its,h,v=>by
  simp only[Uh,RDs]at h;obtain⟨v1,aa,rfl,h1,h2⟩:=h;cases v with
  |cons r L=>
   obtain⟨B,Y,U,e3⟩:=Xjg h2 L;simp only[RD]at h1;obtain⟨b,zs,rfl,hs,hz⟩:=h1;have ez:=hz.ints_of;subst ez;cases r;refine⟨b::B,by rw[Y];rfl,by simp[U],λi x e=>?_⟩;cases i with
   |zero=>cases e;exact hs|succ i=>exact e3 i x (by simpa using e)
theorem X5u {a:Expr} {f:En->Sto->R D} {p0 p2 pos L:Pos} (hu:X.A.units+200<Vbe) (hc:X.calm=yx) (aj:Gl X "len") (af:X.mg "len"=yy) (ab:Gl X "set") (aa:X.mg "set"=yy) (ha:DE X a f) (hs:V7 [a] X.env=(yw,eval a X.env)::V7 [] X.env):
  DE X (.Call (.Name "len" p0) [.Call (.Name "set" p2) [a] [] L] [] pos) (λenv S=>(f env S).bind λx S=>Xds x S):=by
 intro pa s σ H ρ S env I nb;dsimp only at nb ⊢;refine Vai (Yn I.inv aj af (u:=.builtin "len") (by decide+kernel) (Vay (Vbk ?_ rfl) rfl rfl) (by decide) rfl);refine Vai (Yn I.inv ab aa (u:=.type "set") (by decide+kernel) (Vaj (Vbk ?_ hs) hs rfl) (by decide) rfl);refine ha.bind I nb rfl (λd S1 u Y v H1 ak e1 B J rv rd ah=>Vbl ?_) λ_ _ z=>z;rw[e1];cases d with
 |ref k=>
  cases e:Xa S1 k with
  |none=>simp only[Xds,e]at B;cases B rfl|some xs=>
   cases U:Xaq xs with
   |none=>simp only[Xds,e,U]at B;cases B rfl|some ks=>
    by_cases c:(ddL ks).length<1000
    ·have ai:Xds (.ref k) S1=.ok (.int (ddL ks).length) S1:=by simp only[Xds,e,U,c,if_true]
     rw[ai];have qx:=Xcq U;subst qx;obtain⟨b,ws,rfl,_,hv,hr⟩:=J.lstR e rd;obtain⟨hle,its,n,ac,eo⟩:=(show ObjOk X.prog X.w H1 Y.heap b (.lst ws) from J.inv.hok b _ hv);obtain⟨xa,x1,x2,x3⟩:=Xjg hr ac;cases rv;refine Xrh yx (s:=Y) (rs:=ks) (xs:=xa) (show X.A.handled=yy from J.inv.ok.hd hc) (by omega) (show Heap.IsList _ _ _ from⟨_,eo,rfl,n,rfl⟩) (by simpa using x1) x2 (λi x e=>Xe1 J.inv (x3 i x e)) (by omega) λh' tk ps S2 p al kp=>Vbl ?_;obtain⟨o,es,ep,t,ho,ae,hd,m,T,hl⟩:=S2;have ln:es.size=(ddL ks).length:=by rw[m.len,<-p.length_eq,Vn]
     refine call_len_set (s:={Y with heap:=h',toks:=tk}) ho ae hd (Xcm T.toTab) (by rw[ln];omega) ?_;rw[ln];exact OkP.pre ah (Yx J.sr (J.inv.kept (t':=tk+1+1) kp))
    simp only[Xds,e,U,c,if_false]at B;cases B rfl
 |_=>cases B rfl
end
end Z
end
section
namespace Z
open PySem PySem.Spec PyProof.Rows L2
open PySem.W (CodeHd kla_obj kla_fn kla_eval kla_makeFunction kla_makeFunctionHit kla_callFunE kla_codeExpr tabObj)
structure LamAt(X:Cx)(nm:Str):Prop where
 qual:X.env.qual ++ "<lambda>"=Xaj nm
 dep:X.A.depth+5<Vgk
 cod:∃c P,X.env.code=.ref c/\CodeHd X.base c P/\(Xco X.K).lookup P=yz (Xaj nm)
 blt:∃bm ob,X.mg "__builtins__"=yz (.ref bm)/\bm≠Vfa/\X.base.get? bm=yz ob/\ob.cls=.type "module" /\ ob.dict=yz Vfa/\ob.data=.plain
theorem Xrm{pos:Pos}{B:Vb}{a b:Int}{c:Vb}:∀(l:LV),TriplesOk l->codeAmong pos (l++[Vb2 a,Vb2 b,c])=yz B->codeAmong pos l=yz B\/B=c:=by
 intro l h e
 fun_induction TriplesOk l with
 |case1=>
  simp only[Uz,Vb2,codeAmong]at e;split at e;·cases e;exact .inr rfl
  ·cases e|case2 U t L u x X3 ih=>
  simp only[Vah,codeAmong]at e ⊢;split at e;·rename_i J;cases e;rw[iP0 J];exact .inl rfl
  ·rename_i J;rw[iN0 J];exact ih h e|case3 l h1 h2=>exact h.elim
noncomputable def Xgu(sc:Ue):Bool:=sc.names.all λy=>match y.2 with|.free=>yw|_=>yx
theorem Xle{env:Vax}(h:Xgu sc=yx):closureFor sc env=pure []:=by simp only[closureFor];rw[forIn_yield_id [] (λx B c=>by have:=Uf.mp h x B;obtain⟨n,k⟩:=x;cases k<;>first|rfl|cases this)];rfl
section
variable{X:Cx}{pa:LA}{σ:L2.St}{H:Hp}{s:Vc}{ρ:LR}{S S':Sto}{env:En}{Q:VP}{E:VP}{nm:Str}
def LamH(X:Cx)(nm:Str)(params:Vdt)(body:Expr)(scope:Ue)(H:Hp)(f:Addr):Prop:=
 ∃J c B u,H f=yz (.frz (kla_obj "<lambda>" (Xaj nm) params body scope [] J c B) (.own u))/\∃o v vs t,H c=yz (.frz o v)/\o.data=.fields vs/\vs[1]?=yz (.str (Xaj nm) t)
theorem Xtw{params:Vdt}{body:Expr}{scope:Ue}{Y:Pos}(hL:LamAt X nm)(ae:Xgu scope=yx)(aj:defaultsOf params X.env=([],[]))(I:S0 X pa σ H s ρ S env)
  (hQ:∀f s' H',S0 X pa σ H' s' ρ S env->Stp X.K ρ ρ H H'->LamH X nm params body scope H' f->Q (.ref f) s'):
  Vf (Vj X.prog X.w) X.A (eval (.Lambda params body scope Y) X.env) Q E s:=by
 obtain⟨c,P,U,C,hP⟩:=hL.cod;obtain⟨bm,ob,b1,b2,b3,b4,b5,b6⟩:=hL.blt;have hT:=I.sr.tab P _ hP;obtain⟨ps,e0,t0,n0⟩:=(show ObjOk X.prog X.w H s.heap P (.tbl (Xaj nm)) from I.inv.hok P _ hT);have hg:=I.inv.ok.mod.glob.keeps I.inv.bk;have bP:∀b o,X.base.get? b=yz o->b≠P:=λb o e z=>by have:=(I.inv.bs b o e).2;rw[z,hT]at this;cases this
 have ak:Ub≠P:=by obtain⟨o,es,ep,e,_⟩:=I.inv.ok.mod.glob;exact bP _ _ e
 have al:bm≠Ub:=λq=>by obtain⟨o,es,ep,e,hd,_⟩:=I.inv.ok.mod.glob;rw[q,e]at b3;cases b3;rw[hd]at b6;cases b6
 have hB:s.heap.BuiltinsAt X.mg P:=⟨bm,ob,b1,b2,al,bP _ _ b3,I.inv.bk _ _ b3,b4,b5,b6⟩;refine kla_eval aj ?_;rw[hL.qual];have ah:∀ {H1:Hp} {h':Heap} {tk:Nat} {B:Addr} {L:Vb},Inv X pa σ H1 {s with heap:=h',toks:=tk}->SR X.K ρ S H1->Stp X.K ρ ρ H H1->(∃o v vs t,H1 B=yz (.frz o v)/\o.data=.fields vs/\vs[1]?=yz (.str (Xaj nm) t)) ->
   Q (.ref h'.objs.size) {s with heap:=h'.push (kla_obj "<lambda>" (Xaj nm) params body scope [] ((X.mg "__name__").getD .none) B L),toks:=tk}:=λ{H1 h' tk B L} J sr st hc=>by
  have hn:H1 h'.objs.size=none:=J.hok.fresh (Vl _);have J2:=J.laid (a:=h'.objs.size) (t':=tk) (o:=.frz (kla_obj "<lambda>" (Xaj nm) params body scope [] ((X.mg "__name__").getD .none) B L) (.own 0)) (h':=h'.push _) (λb u e=>Vg _ e) (Vl _) ⟨Vq _ rfl,_,Vq _ rfl⟩;refine hQ _ _ _ ⟨J2,sr.upd hn,I.er.mono (st.trans (Stp.upd hn))⟩ (st.trans (Stp.upd hn)) ⟨_,B,L,0,Xm,?_⟩;obtain⟨o,v,vs,t,e1,r⟩:=hc;exact⟨o,v,vs,t,by rw[Xe (Xk e1 hn)];exact e1,r⟩
 cases q:codeAmong Y ps.toList with
 |some cv=>obtain⟨B,o,u,vs,t,rfl,e2,r⟩:=n0 Y cv q;refine kla_makeFunctionHit (mg:=X.mg) (Xle ae) I.inv.ok.glob hg U (C.keeps I.inv.bk) e0 t0 q hB λL h' tk k ao=>?_;exact ah (I.inv.kept (t':=tk) k) I.sr .refl ⟨o,u,vs,t,e2,r⟩|none=>
  refine kla_makeFunction (mg:=X.mg) (Xle ae) I.inv.ok.glob hg U (C.keeps I.inv.bk) e0 t0 q ak hB λB L h' tk hx ab an aa ai=>?_;obtain⟨c2,oc,vs,t,e2,af,hd,hv⟩:=aa;cases e2;have hn:H B=none:=I.inv.hok.fresh ab;have cP:P≠B:=λz=>by rw[z]at hT;rw[hn]at hT;cases hT
  have nP:∀b u,H b=yz u->b≠B:=λb u e=>Xk e hn;have hok:HOk X.prog X.w (upd H B (.frz oc (.own 0))) h':=λb u e=>by
   by_cases hb:b=B;·subst hb;rw[Xm]at e;cases e;exact⟨af,_,af⟩
   ·rw[Xe hb]at e;by_cases ac:b=P
    ·subst ac;rw[hT]at e;cases e;refine⟨_,ai,by rw[Vgh];exact TriplesOk_snoc _ _ _ _ t0,λpos cv z=>?_⟩;rw[Vgh]at z;rcases Xrm _ t0 z with z|z;·obtain⟨c3,o3,u3,am,t3,e3,e4,r⟩:=n0 pos cv z;exact⟨c3,o3,u3,am,t3,e3,by rw[Xe (nP _ _ e4)];exact e4,r⟩
     ·exact⟨B,oc,_,vs,t,z,Xm,hd,hv⟩
    refine(I.inv.hok b u e).stay (λd w hd e3=>hx d w ?_ e3) (λd z=>by rw[Xe (nP _ _ z)];exact z) λd w _ z=>by rw[Xe (nP _ _ z)];exact z
    rcases hd with rfl|hd;·exact ac
    ·exact λz=>by rw[z,hT]at hd;cases hd
  have J:Inv X pa σ (upd H B (.frz oc (.own 0))) {s with heap:=h',toks:=tk}:=by
   refine I.inv.un (t':=tk) ⟨λb o e n _ _=>hx b o (λz=>by rw[z,hT]at n;cases n) e,λb o e n _ _=>⟨o.slots,hx b o (λz=>by rw[z,hT]at n;cases n) e⟩,λb o e n _=>by rw[Xe (Vz (V0 (Vr e) ab))];exact n,λb o e _=>?_,
    λb xs z=>by rw[Xe (nP _ _ z)];exact z,λb o u z=>by rw[Xe (nP _ _ z)];exact z,λb p z=>by rw[Xe (nP _ _ z)];exact z⟩ hok
   by_cases hb:b=P;·subst hb;exact⟨_,ai⟩
   ·exact⟨o,hx b o hb e⟩
  exact ah J (I.sr.upd hn) (Stp.upd hn) ⟨oc,_,vs,t,Xm,hd,hv⟩
theorem Xtx{params:Vdt}{body:Expr}{scope:Ue}{f:Addr}{x:Str}{A:Uq}{fb:En->Sto->R D}{u:Vb}{v:V}{d d':D}(al:A.depth<Vgk)(hh:A.handled=yy)(hA:A.frames=yz X.stack)(Y:FnScope [x] [x] scope)
  (aa:∀(pm ct:Vb) (c:Addr) (u:Vb),Vey (kla_fn "<lambda>" (Xaj nm) params body scope [] pm (.ref c) ct) ⟨[u],[]⟩=pure [(x,u)])
  (hb:∀(ab:Vb) (s:Vc) (H:Hp),DE (cxC yx X.prog X.w X.K X.mg X.base [x] (Xaj nm) scope f ab A X.stack s H (λ_ _ _=>False)) body fb) (hL:LamH X nm params body scope H f)
  (I:S0 X pa σ H s ρ S env) (rv:RelV v u) (rd:RD X.K ρ H d v) (hF:fb [yz d] S=.ok d' S'):
  Vf (Vj X.prog X.w) A (call (.ref f) [u]) (OkP X pa σ ρ H (.ok d' S')) (λ_ _=>False) s:=by
 obtain⟨pm,c,an,y,hf,o,w,vs,t,hc,hd,hv⟩:=hL;obtain⟨ef,_⟩:=(show ObjOk X.prog X.w H s.heap f (.frz _ _) from I.inv.hok f _ hf);obtain⟨ec,_⟩:=(show ObjOk X.prog X.w H s.heap c (.frz _ _) from I.inv.hok c _ hc);have e0:Env0 X.prog X.w X.K X.mg X.base A X.stack s H:=let e:=I.inv.env0;⟨hA,e.mod,e.bs,e.bsz,e.funs,e.frf,e.hok,e.bare⟩
 have aj:=I.inv.nolimit;have L:∀y∈[(x,u)],scope.names.lookup y.1=yz .local\/(scope.names.lookup y.1=yz .cell/\((Va9 (s.heap.objs.size+1) scope.names []).lookup y.1).isSome=yx):=λy hy=>by
  rw[U4.mp hy];rcases Y.par x (.head _) with q|q;·exact .inl q
  ·exact .inr ⟨q,Vd3 _ _ _ (.inl q)⟩
 refine wpAny_call (Vdj (R:=CR (CXd X.prog X.w) X.stack X.prog X.w H s (λv H'=>∃ ρ',RD X.K ρ' H' d' v/\SR X.K ρ' S' H'/\Stp X.K ρ ρ' H H') (λ_ _ _=>False)) (kla_callFunE al ef rfl Y.co Y.gen rfl ⟨c,o,vs,t,rfl,ec,hd,hv⟩ ?_) λr s' U=>?_)
 ·rw[aa];refine Vd (Vgx Y.kind L λam he s1 z=>?_);subst he;refine⟨aj.keeps z.toInCall.keep,kla_codeExpr ?_⟩;have ae:Vals [v] [u]:=.cons rv .nil;have I1:Inv (cxC yx X.prog X.w X.K X.mg X.base [x] (Xaj nm) scope f (.ref c) A X.stack s H (λ_ _ _=>False)) [] (start [x] [v]) H s1:=by
   have B:=Xiz (CX:=CXd X.prog X.w) (E:=λ_ _ _=>False) (f:=f) (cd:=.ref c) (qual:=Xaj nm) Y hh e0 rfl ae z;exact⟨⟨B.ok.mod,B.ok.kind,B.ok.glob,B.ok.blt,B.ok.above,B.ok.inj,B.ok.has,B.ok.cab,(λ_=>hh),B.ok.frames,B.ok.stk,B.ok.exf,B.ok.bs,B.ok.bsz,B.ok.noex,B.ok.exfs,B.ok.funs,B.ok.frf⟩,B.os,B.bare,B.base,B.loc,B.cell,B.free,B.freeC,B.pin,B.hok,B.len⟩
  refine(hb (.ref c) s H).ok (env:=[yz d]) ⟨I1,I.sr,rfl,λi d1 e=>?_⟩ hF λu2 s2 v2 H2 ak J ac ai af=>⟨v2,H2,J.inv.os,J.inv.bare,J.inv.base,J.inv.hok,ac,ak,ai,J.sr,af⟩;cases i with
  |zero=>cases e;exact⟨v,rfl,rd⟩|succ i=>simp at e
 ·cases r with
  |error e=>obtain⟨_,_,_,_,_,_,z⟩:=U;exact z.elim|ok fl=>
   cases fl with
   |ret u1=>obtain⟨v1,H1,J,r1,ah,q1,q2,q3⟩:=I.inv.after U;exact⟨d',S',rfl,v1,H1,ah,J,r1,q1,q2,q3⟩|next=>exact Vdv U|brk=>exact Vdv U|cont=>exact Vdv U
end
end Z
end
section
namespace Z
open PySem PySem.Spec PyProof.Rows L2
section
variable{X:Cx}{pa:LA}{σ:L2.St}{H:Hp}{s:Vc}{ρ:LR}{S:Sto}{env:En}{E:VP}{nm:Str}
theorem Inv.own1{Da:Addr}{o:Obj}{u:HO}{h':Heap}{t':Nat}(I:Inv X (pa++[(Da,o)]) σ H s)(J:X.s₀.heap.objs.size<=Da)(U:∀p∈X.pn++pa,p.1≠Da)(k:∀b u,b≠Da->s.heap.get? b=yz u->h'.get? b=yz u)(ht:∃u,h'.get? Da=yz u)
  (new:ObjOk X.prog X.w (upd H Da u) h' Da u):Inv X pa σ (upd H Da u) {s with heap:=h',toks:=t' }:=by
 obtain⟨e,hn,hL,_,hd⟩:=I.pin (Da,o) (by simp);have ne:∀b w,H b=yz w->b≠Da:=λb w e=>Xk e hn;refine I.unpinned.step (g':=s.gens) (d':=s.drawn) (ch:=[Da]) (λb L=>?_) (λb o _ _ B e _=>k b o (λz=>B (by simp[z])) e) (λb o _ _ B e _=>⟨o.slots,k b o (λz=>B (by simp[z])) e⟩) (λb o B _ n=>by rw[Xe (λz=>B (by simp[z]))];exact n)
  (λb o B e=>⟨o,k b o (λz=>B (by simp[z])) e⟩) (λb xs z=>by rw[Xe (ne _ _ z)];exact z) (λb o u z=>by rw[Xe (ne _ _ z)];exact z) (λb q z=>by rw[Xe (ne _ _ z)];exact z) (λm hm=>?_) (λb w e=>?_) I.bare
 ·rw[U4.mp L];refine⟨.inr J,hL,λx c q z=>?_,U⟩;obtain⟨v,o',e',Y⟩:=I.cell x c q;rw[z,e]at e';cases e';exact hd v Y
 ·obtain⟨o',es,ep,ho,r⟩:=hm;exact⟨o',es,ep,k _ _ hL.symm ho,r⟩
 ·by_cases L:b=Da;·subst L;rw[Xm]at e;cases e;exact new
  ·rw[Xe L]at e;refine(I.hok b w e).stay (λc v B q=>k c v ?_ q) (λc z=>by rw[Xe (ne _ _ z)];exact z) λc v _ z=>by rw[Xe (ne _ _ z)];exact z
   rcases B with rfl|B;·exact L
   ·exact ne c _ B
noncomputable abbrev Xa8(k:LI):D:=.tup (k.map D.int)
theorem Xnq{ks:LL}{U:LW}{its:LV}(I:Inv X pa σ H s)(L:RDs X.K ρ H (ks.map Xa8) U)(B:Vals U its):(la its)=la ks/\∀(i:Nat) (k:LI),ks[i]?=yz k->∃u,its[i]?=yz u/\Row s.heap k u:=by refine⟨by rw[<-B.length,<-L.length,Vn],λi k hk=>?_⟩;obtain⟨v,J,hd⟩:=L.get (i:=i) (d:=Xa8 k) (by rw[Vx,hk];rfl);obtain⟨u,Y,ru⟩:=B.get J;simp only[RD]at hd;obtain⟨b,zs,rfl,hs,hz⟩:=hd;have ez:=hz.ints_of;subst ez;cases ru;obtain⟨us,h1,h2,_⟩:=I.tuple hs;exact⟨_,Y,b,us,rfl,h2,Xbb h1⟩
theorem Xty{ks r:LL}{ws:LW}{its:LV}(Y:RDs X.K ρ H (ks.map Xa8) ws)(J:Vals ws its)(B:Xb2 ks=yz r):(la ks)<64/\∃(out:AV) (zs:LW),RDs X.K ρ H (r.map Xa8) zs/\Vals zs out.toList/\out.size=la its /\
  (la its<2->out=its.toArray)/\(2<=la its->∃p,Xbl (ltK (ks.map Vf5)) (Vbf (la its))=yz p/\out=(p.toList.map λi=>its.getD i Vad).toArray):=by
 have L:(la its)=la ks:=by rw[<-J.length,<-Y.length,Vn]
 unfold Xb2 at B;by_cases h2:(la ks)<2;·rw[iP0 h2]at B;cases B;exact⟨by omega,its.toArray,ws,Y,J,by simp,λ_=>rfl,λz=>by omega⟩
 ·rw[iN0 h2]at B;split at B
  ·rename_i hc;cases e4:Xbl (ltK (ks.map Vf5)) (Vbf (la ks)) with
   |none=>rw[e4]at B;cases B|some p=>
    rw[e4]at B;simp only[V1]at B;split at B
    case isFalse=>cases B
    rename_i U;obtain⟨zs,z1,z2,z3⟩:=Xhq Y J p.toList r B;exact⟨hc,(p.toList.map λi=>its.getD i Vad).toArray,zs,z1,z2,by simp[U,L],λz=>by omega,λ_=>⟨p,by rw[L];exact e4,rfl⟩⟩
  cases B
theorem Xx6 {prog:Vy} {w:V9} {A:Uq} {Da kS:Addr} {its B:LV} {e1 n1:Nat} {L:LL} {out:AV} {P:PySem.Fin->Vc->Prop} (hu:A.units+100<Vbe) (hl:(la B)=la its) (ar:(la its)<64) (hk:s.heap.get? kS=yz (V3 "list" B.toArray n1)) (hD:s.heap.get? Da=yz (V3 "list" #[] e1)) (av:kS≠Da)
  (al:(la B)=la L) (J:∀(i:Nat) (k:LI),L[i]?=yz k->∃u,B[i]?=yz u/\Row s.heap k u) (hsz:out.size=la its)
  (h1:(la its)<2->out=its.toArray) (h2:2<=la its->∃p,Xbl (ltK L) (Vbf (la its))=yz p/\out=(p.toList.map λi=>its.getD i Vad).toArray)
  (h:P (.done (.ret .none)) {s with heap:=(s.heap.update kS (Vw λ_=>#[])).update Da (Vw λ_=>out)}):Vf (Vj prog w) A (ksk_end Da yw its.toArray e1 (.ref kS) B.toArray) P E s:=by
 have ay:(la its)<=Vu:=by rw[Vbp];omega
 have Y:∀st:SortSt,(arrOf st).map (·.2)=out->failedOf st=yy->Vf (Vj prog w) A (ksk_tail Da yw e1 (.ref kS) st) P E s:=λst q1 q2=>by
  have am:(s.heap.update kS (Vw λ_=>(#[]:AV))).get? Da=yz (V3 "list" #[] e1):=(Vcq _ _ _ _ av.symm).trans hD;unfold ksk_tail;dsimp only;refine Va (Vcm hk rfl (Va (wpAny_letGo (Va (seqEpoch_at am rfl (Va (Vcm am rfl ?_ (Ug _) ?_)))))) (by rw[Vk];omega) (Ug _));·rw[q1,q2,bne_self_eq_false];exact Vd h
  ·simp only[Vv,if_false];rw[q1,hsz];omega
 unfold ksk_end;dsimp only;simp only[Vv,if_false];have zz:its.toArray.size=la its:=Vk;by_cases q:(la its)<2
 ·have q':its.toArray.size<2:=by rw[zz];exact q
  rw[iP0 q',iP0 q'];refine Va (Vd ?_);rw[StateT.run_pure];refine Va (Vd (Y _ ?_ rfl));rw[h1 q];show(B.toArray.zip its.toArray).map (·.2)=_;apply Array.toList_inj.mp;rw[Array.toList_map,Array.toList_zip,List.map_snd_zip (by simp[hl])]
 ·have q':¬ its.toArray.size<2:=by rw[zz];exact q
  obtain⟨p,hp,ep⟩:=h2 (by omega);rw[iN0 q',iN0 q'];have af:∀(M:Model) (h:Heap) (v:Vb),(∃n t,v=Vfw n t)->PySem.W.Looks M h (typeOf v) (.type "int"):=λM h v z=>by obtain⟨n,t,rfl⟩:=z;exact .now
  have run:∀ κ,(κ=tuples' yx\/κ=general'\/κ=oneType')->Vf (Vj prog w) A (do let ((),s) <- (sortRuns').run (SortSt.mk' κ (B.toArray.zip its.toArray) #[] 7 yy);ksk_tail Da yw e1 (.ref kS) s) P E s:=fun κ ao=>by
   refine Va (Vo (PySem.W.kat_run (ks:=B) (vs:=its) (κ:=κ) (E:=E) (Q:=λst s'=>(arrOf st).map (·.2)=out/\failedOf st=yy/\s'=s) (G:=λr s'=>r=p/\s'=s) hl (by omega) ar
    (λr st s' _ k2 k3 ⟨k4,k5⟩=>by subst k4;exact⟨by rw[ep];exact PySem.W.kat_snds hl k2,k3,k5⟩) (Xhp (lt:=ltK L) (λi j b C U hC=>?_) _ p hp ⟨rfl,rfl⟩)) ?_ λ_ _ z=>z)
   ·unfold ltK at U;cases e5:L[i]? with
    |none=>rw[e5]at U;cases U|some k=>
     rw[e5]at U;dsimp only at U;cases e6:L[j]? with
     |none=>rw[e6]at U;cases U|some k'=>
      rw[e6]at U;cases U;obtain⟨u,ap,aw⟩:=J i k e5;obtain⟨u',an,au⟩:=J j k' e6;obtain⟨a1,ax,rfl,⟨o1,aa,aj,n1,ab⟩,ah⟩:=aw;obtain⟨a2,aq,rfl,⟨o2,ae,ak,n2,ac⟩,ai⟩:=au;unfold Vgc;rw[Xdb ap,Xdb an];rcases ao with rfl|rfl|rfl;·refine PySem.W.kat_lt aa ab ae ac ?_;simp only[Vk];exact Xrf ah k' aq 0 ai hC
      ·exact Xdt (b:=yw) (by omega) ⟨o1,aa,aj,n1,ab⟩ ⟨o2,ae,ak,n2,ac⟩ ah ai hC
      exact Xdt (b:=yx) (by omega) ⟨o1,aa,aj,n1,ab⟩ ⟨o2,ae,ak,n2,ac⟩ ah ai hC
   rintro ⟨⟨⟩,st⟩ s' ⟨k1,k2,rfl⟩;exact Y st k1 k2
  cases en:(L.all λk=>!k.isEmpty) with
  |true=>obtain⟨fs,f1,f2,f3⟩:=Xf3 (h:=s.heap) L B al J en;exact Va (PySem.W.kat_kind (T:=.type "int") f1 (by omega) (λv hv=>af _ _ v (f3 v hv)) rfl (run _ (.inl rfl)))|false=>exact Va (Xgt (RowsV.of L B al J) (by omega) en (run _ (.inr (.inl rfl))) (run _ (.inr (.inr rfl))))
variable{params:Vdt}{body:Expr}{scope:Ue}
theorem LamH.mono{f:Addr}{H':Hp}(h:LamH X nm params body scope H f)(m:Mon X.K ρ ρ' H H'):LamH X nm params body scope H' f:=by obtain⟨J,c,B,y,L,o,w,vs,t,U,r⟩:=h;exact⟨J,c,B,y,m.frz _ _ _ L,o,w,vs,t,m.frz _ _ _ U,r⟩
theorem Xjo(ks:LL)(j:Nat)(k:LI)(h:ks[j]?=yz k):(ks.take (j+1)).map (λk=>Xa8 k.reverse)=(ks.take j).map (λk=>Xa8 k.reverse)++[Xa8 k.reverse]:=by rw[Vdf,h,Vci];rfl
theorem Xtz(h:Heap)(vs:LV)(b:Addr)(o:Obj)(e:h.get? b=yz o):
  ((((((h.push (V3 "list" #[] 0)).update h.objs.size (Vw (·++vs.toArray))).push (V3 "list" vs.toArray 0)).update (h.objs.size+1) (Vw λ_=>(#[]:AV))).push (V3 "tuple" vs.toArray 0)).push (V3 "list" #[] 0)).get? b=yz o:=by
 have lt:=Vr e;refine Vg _ (Vg _ ?_);rw[Vcq _ _ _ _ (Vz (Vau lt))];exact Vg _ ((Vcq _ _ _ _ (Vz lt)).trans (Vg _ e))
theorem Xt0{f l:Addr}{ws:LW}{its:LV}{ks r:LL}(hu:X.A.units+200<Vbe)(I:S0 X pa σ H s ρ S env)(hL:LamH X nm params body scope H f)
  (am:∀(pa:LA) (s:Vc) (H:Hp) (ρ:LR) (k:LI) (v:V) (u:Vb),S0 X pa σ H s ρ S env->LamH X nm params body scope H f->RelV v u->RD X.K ρ H (Xa8 k) v ->
   Vf (Vj X.prog X.w) X.A.in1.in1 (call (.ref f) [u]) (OkP X pa σ ρ H (.ok (Xa8 k.reverse) S)) (λ_ _=>False) s)
  (hl:s.heap.IsList l its.toArray) (hr:RDs X.K ρ H (ks.map Xa8) ws) (ak:Vals ws its) (e3:Xb2 ks=yz r):
  Vf (Vj X.prog X.w) X.A (call (.builtin "sorted") [.ref l] [(U5 "key",.ref f)]) (OkP X pa σ ρ H (.ok (.ref (la S)) (S++[.lst (r.map Xa8)]))) E s:=by
 obtain⟨bf,out,zs,z1,z2,z0,z3,z4⟩:=Xty hr ak e3;obtain⟨an,_⟩:=Xnq I.inv hr ak;have ah:(la its)<=Vu:=by rw[Vbp];omega
 have sz:((s.heap.push (V3 "list" #[] 0)).update s.heap.objs.size (Vw (·++its.toArray))).objs.size=s.heap.objs.size+1:=by rw[Heap.size_update,size_push']
 have oL:(((s.heap.push (V3 "list" #[] 0)).update s.heap.objs.size (Vw (·++its.toArray))).push (V3 "list" its.toArray 0)).get? (s.heap.objs.size+1)=yz (V3 "list" its.toArray 0):=sz▸Vq _ rfl;obtain⟨e1,o1⟩:∃e1,((((s.heap.push (V3 "list" #[] 0)).update s.heap.objs.size (Vw (·++its.toArray))).push (V3 "list" its.toArray 0)).update (s.heap.objs.size+1) (Vw λ_=>(#[]:AV))).get? (s.heap.objs.size+1)=yz (V3 "list" #[] e1):=⟨_,Vd0 oL λ_=>#[]⟩;have ap:(((((s.heap.push (V3 "list" #[] 0)).update s.heap.objs.size (Vw (·++its.toArray))).push (V3 "list" its.toArray 0)).update (s.heap.objs.size+1) (Vw λ_=>(#[]:AV))).push (V3 "tuple" its.toArray 0)).objs.size=s.heap.objs.size+3:=by rw[size_push',Heap.size_update,size_push',sz]
 refine call_function_entry_kw kind_sorted plain_sorted entry_sorted (ksk_s1 _ _) ?_;unfold Vbb.«sorted»;refine Va (m:=checkCount "sorted" 1 1 _) (Vd (Va (collect_list hl (Va (Vfs ?_ (by show (la its)<=_;exact ah))) ah)));change Vf _ _ _ _ _ {s with heap:=((s.heap.push (V3 "list" #[] 0)).update s.heap.objs.size (Vw (·++its.toArray))).push (V3 "list" its.toArray 0)};rw[sz];refine Va (Uw (wpAny_call_entry_kw slot_list_sort ⟨_,oL,rfl⟩ entry_list_sort ?_ (ksk_l1 _ _)));show Vf (Vj X.prog X.w) X.A.in1.in1 (Vbb.«list.sort» ⟨[.ref (s.heap.objs.size+1)],[(U5 "key",.ref f)]⟩) _ _ _;rw[ksk_t1];unfold ksk_tree;refine Va (Vdk oL rfl (Va (Vcm oL rfl (Va (seqEpoch_at o1 rfl (Va (wpAny_newTuple (Va (Vfs (Uw ?_) (Ug _))) (by show (la its)<=_;exact ah))))) (by rw[Vk];exact ah) (Ug _))));have kp:=Xtz s.heap its;have o4:=Vg (V3 "list" #[] 0) (Vg (V3 "tuple" its.toArray 0) o1);have k4:(((((((s.heap.push (V3 "list" #[] 0)).update s.heap.objs.size (Vw (·++its.toArray))).push (V3 "list" its.toArray 0)).update (s.heap.objs.size+1) (Vw λ_=>(#[]:AV))).push (V3 "tuple" its.toArray 0)).push (V3 "list" #[] 0)).get? (s.heap.objs.size+3))=yz (V3 "list" #[] 0):=ap▸Vq _ rfl;change Vf (Vj X.prog X.w) X.A.in1.in1 (ksk_rest (s.heap.objs.size+1) (.ref f) yw its.toArray e1 (.ref ((((((s.heap.push (V3 "list" #[] 0)).update s.heap.objs.size (Vw (·++its.toArray))).push (V3 "list" its.toArray 0)).update (s.heap.objs.size+1) (Vw λ_=>(#[]:AV))).push (V3 "tuple" its.toArray 0)).objs.size))) _ _
  {s with heap:=(((((s.heap.push (V3 "list" #[] 0)).update s.heap.objs.size (Vw (·++its.toArray))).push (V3 "list" its.toArray 0)).update (s.heap.objs.size+1) (Vw λ_=>(#[]:AV))).push (V3 "tuple" its.toArray 0)).push (V3 "list" #[] 0)}
 rw[ap];generalize (((((s.heap.push (V3 "list" #[] 0)).update s.heap.objs.size (Vw (·++its.toArray))).push (V3 "list" its.toArray 0)).update (s.heap.objs.size+1) (Vw λ_=>(#[]:AV))).push (V3 "tuple" its.toArray 0)).push (V3 "list" #[] 0)=h4 at kp o4 k4 ⊢;clear ap o1 oL sz;have a2:H (s.heap.objs.size+1)=none:=I.inv.hok.fresh (Vd4 _);have ac:H (s.heap.objs.size+3)=none:=I.inv.hok.fresh (by omega);have bd:=I.inv.sz;have aw:=I.inv.lt;have ne:s.heap.objs.size+3≠s.heap.objs.size+1:=by omega
 have J0:Inv X pa σ (upd H (s.heap.objs.size+3) (.lst [])) {s with heap:=h4}:=I.inv.laid (t':=s.toks) kp (by omega) ⟨Ug _,[],0,.nil,k4⟩;have J1:Inv X (pa++[(s.heap.objs.size+1,V3 "list" #[] e1)]) σ (upd H (s.heap.objs.size+3) (.lst [])) {s with heap:=h4}:=J0.pins_of λp hp=>by
  rcases Vao.mp hp with z|z;·exact J0.pin p (U1 _ z)
  ·rw[U4.mp z];exact⟨o4,by rw[Xe ne.symm];exact a2,Vcw (Vau aw),I.inv.nofs (Vd4 _),λv z=>by cases z⟩
 have a3:∀p∈X.pn++pa,p.1≠s.heap.objs.size+1:=λp hp z=>by have:=Vr (I.inv.pin p hp).1;rw[z]at this;exact aB0 (Vd7 this) (Vb5 _)
 have a7:s.heap.objs.size+3 ∉ ρ:=λhm=>by obtain⟨u,e,_⟩:=I.sr.mem hm;rw[ac]at e;cases e
 unfold ksk_rest;refine Va (Vde ?_);rw[List.forIn_toArray];refine Va (ksk_fold (λi s'=>∃H' ρ' vs,S0 X (pa++[(s.heap.objs.size+1,V3 "list" #[] e1)]) σ H' s' ρ' S env/\Stp X.K ρ ρ' H H'/\s.heap.objs.size+3 ∉ ρ'/\H' (s.heap.objs.size+3)=yz (.lst vs)/\RDs X.K ρ' H' ((ks.take i).map λk=>Xa8 k.reverse) vs) its 0 _
  ⟨_,ρ,[],⟨J1,I.sr.upd ac,I.er.mono (Stp.upd ac)⟩,Stp.upd ac,a7,Xm,by rw[List.take_zero];exact RDs.nil⟩ (λj x s1 hx hI=>?_) λs1 hI=>?_)
 ·obtain⟨H1,aq,vs,I1,aj,al,aa,ab⟩:=hI;rw[Vbo]at ab ⊢;have hj:j<la ks:=by rw[<-an];exact(Vh.mp hx).1
  obtain⟨v,hv,rv⟩:∃v,ws[j]?=yz v/\RelV v x:=by
   have ax:j<la ws:=by rw[ak.length];exact(Vh.mp hx).1
   obtain⟨u,hu,ru⟩:=ak.get (i:=j) (x:=ws[j]) (by simp[ax]);rw[hx]at hu;cases hu;exact⟨_,by simp[ax],ru⟩
  have hk:ks[j]?=yz ks[j]:=by simp[hj]
  obtain⟨v',az,rd⟩:=hr.get (i:=j) (d:=Xa8 ks[j]) (by rw[Vx,hk];rfl);rw[hv]at az;cases az;refine Va (Vfp (Vo (am _ s1 H1 aq ks[j] v x I1 (hL.mono aj.toMon) rv (rd.mono aj)) (λu s2 hq=>?_) λ_ _ z=>z.elim));obtain⟨d,S2,e2,v2,H2,ar,J2,a5,a6,a8,ao⟩:=hq;cases e2;obtain⟨a0,ae⟩:=ao.out aa al;obtain⟨a4,L,nk,af,ek⟩:=(show ObjOk X.prog X.w H2 s2.heap (s.heap.objs.size+3) (.lst vs) from J2.hok _ _ ae);have Y:s2.heap.get? (s.heap.objs.size+3)=yz (V3 "list" L.toArray nk):=ek;have bc:(la L)=j:=by rw[<-af.length,<-ab.length,Vn,Vag];omega
  have be:j<64:=by omega
  have ea:L.toArray.push u=(L++[u]).toArray:=by simp
  have sb:=Vcp s2.heap (s.heap.objs.size+3) (Vw (·.push u));obtain⟨c2,av⟩:∃c2,(s2.heap.update (s.heap.objs.size+3) (Vw (·.push u))).get? (s.heap.objs.size+3)=yz (V3 "list" (L++[u]).toArray c2):=⟨_,by rw[<-ea];exact Vd0 Y (·.push u)⟩;dsimp only;have bb:Vu=_:=Vbp;refine Va (Vcm Y rfl (Vd ⟨rfl,?_⟩) (by rw[Vk];omega) (by rw[Array.size_push,Vk];omega));have J3:=J2.write (x:=s.heap.objs.size+3) (e:=s.heap.objs.size+3) (o:=.lst (vs++[v2])) (t':=s2.toks) (by rw[ae];trivial) (.inl rfl) (λb w hb q=>(sb.2 b hb).trans q) ⟨_,av⟩ ⟨by rw[Ur,af.length];show (la L)+1<=_;omega,L++[u],c2,af.append (.cons a5 .nil),av⟩;have mo:Mon X.K ar ar H2 (upd H2 (s.heap.objs.size+3) (.lst (vs++[v2]))):=Mon.own ae;have ai:=(aj.trans ao).own (u:=.lst (vs++[v2])) ac ae;refine⟨_,ar,vs++[v2],⟨J3,a8.own ae a0,I.er.mono ai⟩,ai,a0,Xm,?_⟩;rw[Xjo ks j _ hk];exact(RDs.mono' mo _ _ (ab.mono ao)).append (.cons (RD.mono' mo _ _ a6) .nil)
 ·obtain⟨H1,aq,vs,I1,aj,al,aa,ab⟩:=hI;rw[Vbo,an,Vca]at ab;obtain⟨a4,L,nk,af,ek⟩:=(show ObjOk X.prog X.w H1 s1.heap (s.heap.objs.size+3) (.lst vs) from I1.inv.hok _ _ aa);have Y:s1.heap.get? (s.heap.objs.size+3)=yz (V3 "list" L.toArray nk):=ek;have a1:RDs X.K aq H1 ((ks.map Vf5).map Xa8) vs:=by rw[Vdl];exact ab
  obtain⟨au,ay⟩:=Xnq I1.inv a1 af;have a9:(la L)=la its:=by rw[au,an,Vn]
  have oD:=(I1.inv.pin (s.heap.objs.size+1,V3 "list" #[] e1) (by simp)).1;refine Va (Vdk Y rfl (Xx6 (by show X.A.units+1+1+100<_;omega) a9 (by omega) Y oD ne au ay z0 z3 z4 ⟨_,rfl,Vd ⟨_,rfl,?_⟩⟩));have sb:=Vcp s1.heap (s.heap.objs.size+3) (Vw λ_=>(#[]:AV));have k5:=Vd0 Y λ_=>#[];have J2:=I1.inv.write (x:=s.heap.objs.size+3) (e:=s.heap.objs.size+3) (o:=.lst []) (t':=s1.toks) (by rw[aa];trivial) (.inl rfl) (λb w hb q=>(sb.2 b hb).trans q) ⟨_,k5⟩ ⟨Ug _,[],_,.nil,k5⟩;have ba:=(J2.pin (s.heap.objs.size+1,V3 "list" #[] e1) (by simp)).1;have d5:=Vd0 ba λ_=>out;have J3:=Inv.own1 (u:=.lst zs) (t':=s1.toks) J2 (by omega) a3 (λb w hb q=>(Vcq _ _ _ _ hb).trans q) ⟨_,d5⟩ ⟨by rw[z2.length,Uy,z0];exact ah,out.toList,_,z2,by simpa [V3] using d5⟩;have ai:=aj.own (u:=.lst []) ac aa;exact OkP.pre ai (Xba J3 (by rw[Xe ne.symm];exact(I1.inv.pin (s.heap.objs.size+1,V3 "list" #[] e1) (by simp)).2.1) (I1.sr.own aa al) (z1.mono ai))
end
noncomputable def Xlf(sc:Ue)(x:Str):Bool:=match sc.names.lookup x with
 |some .local=>yx|some .cell=>yx|some .free=>yx|_=>yw
noncomputable def glB(sc:Ue)(x:Str):Bool:=match sc.names.lookup x with
 |some .globalImplicit=>yx|_=>yw
noncomputable def Xhs(top:Str->Bool)(sc:Ue)(x:Str):Bool:=match sc.names.lookup x with
 |some .local=>yx|some .cell=>top x|_=>yw
noncomputable def Yy(x:Str):Bool:=!(x==("__debug__" : Str)) && !(x==("__classdict__" : Str)) && !decide (x="__name__")
theorem Xnr(h:Xlf sc x=yx):Vis sc x:=by
 unfold Xlf at h;split at h;·exact .inl (by assumption)
 ·exact .inr (.inl (by assumption))
 ·exact .inr (.inr (by assumption))
 cases h
theorem Yo(hs:X.env.scope=sc)(h:glB sc x=yx):Gl X x:=by
 subst hs;unfold glB at h;split at h;·assumption
 ·cases h
theorem Xe3{X:Cx}{top:Str->Bool}{sc:Ue}{x:Str}(hs:X.env.scope=sc)(B:∀x,top x=yx->X.fn x=yx)(h:Xhs top sc x=yx):Loc X.env.scope x/\(X.fn x=yx\/X.env.scope.names.lookup x=yz .local):=by
 subst hs;unfold Xhs at h;split at h;·exact⟨.inl (by assumption),.inr (by assumption)⟩
 ·exact⟨.inr (by assumption),.inl (B x h)⟩
 cases h
theorem Xad(h:Yy x=yx):(x==("__debug__" : Str))=yw/\(x==("__classdict__" : Str))=yw/\x ≠ "__name__":=by simp only[Yy,bA0,Vat,decide_eq_false_iff_not]at h;exact⟨h.1.1,h.1.2,h.2⟩
noncomputable def Xy:Expr->Bool
 |.Starred _ _=>yw|_=>yx
theorem Xl(h:Xy e=yx):V7 (e::es) env=(yw,eval e env)::V7 es env:=by cases e<;>first|rfl|cases h
theorem Xal(h:es.all Xy=yx):(Vbu pos (V7 es env)).any (·.1)=false:=by
 induction es with
 |nil=>rfl|cons e es ih=>rw[Vb7,bA0]at h;rw[Xl h.1];show(yw||(Vbu pos (V7 es env)).any (·.1))=yw;rw[ih h.2];rfl
theorem Xt1(h:es.all Xy=yx):(Vbu pos (V7 es env)).all (λx=>!x.1)=true:=by
 induction es with
 |nil=>rfl|cons e es ih=>rw[Vb7,bA0]at h;rw[Xl h.1];show(yx&&(Vbu pos (V7 es env)).all (λx=>!x.1))=yx;rw[ih h.2];rfl
noncomputable def Xdd:Expr->Bool
 |.Name _ _=>yx|.Constant _ _ _=>yx|.BinOp _ _ _ _=>yx|.UnaryOp _ _ _=>yx|.Call _ _ _ _=>yx|.Subscript _ _ _=>yx|.IfExp _ _ _ _=>yx|.Compare _ _ _ _=>yx|_=>yw
theorem Xpa(h:Xdd b=yx):Xhh b:=by cases b<;>first|(intro o i;rfl)|cases h
noncomputable def Xbt:Expr->Bool
 |.Set _ _ _=>yw|_=>yx
theorem Xdw(h:Xbt e=yx)(x:Vb):Vbh e env x=pure x:=by cases e<;>first|rfl|cases h
noncomputable def Xpb:Expr->Bool
 |.Name _ _=>yx|.Subscript _ _ _=>yx|.Constant _ _ _=>yx|_=>yw
theorem Xe4(h:Xpb o=yx):attributeBase o name env (eval o env)=eval o env:=by cases o<;>first|rfl|cases h
noncomputable def Xlg(c:Co)(o:CmpOp):Bool:=decide (o=opC c)
theorem Xht{c:Co}{o:CmpOp}(h:Xlg c o=yx):o=opC c:=oD0 h
noncomputable def Xpc(c:Bo)(o:Operator):Bool:=decide (o=opB c)
theorem Xns{c:Bo}{o:Operator}(h:Xpc c o=yx):o=opB c:=oD0 h
noncomputable def Xhu:D->Const->Bool
 |.int i,.int j=>i==j|.bl i,.bool j=>i==j|.non,.none=>yx|.str i,.str j=>decide (i=j)|_,_=>yw
noncomputable def Xpd:Bl->Option (Str×Bool×String)
 |.len=>yz ("len",yx,"len")|.tuple=>yz ("tuple",yw,"tuple")|.list=>yz ("list",yw,"list")|.all=>yz ("all",yx,"all")|.smB=>yz ("sum",yx,"sum")|.max=>yz ("max",yx,"max")|.min=>yz ("min",yx,"min")|.repr=>yz ("repr",yx,"repr")|.itB=>yz ("int",yw,"int")
noncomputable def Xpe:Bl->Bool
 |.len=>yx|.tuple=>yx|.list=>yx|.repr=>yx|.itB=>yx|_=>yw
noncomputable def X2i:Tg->Bool
 |.var _=>yx|_=>yw
noncomputable def tyB(sc:Ue)(t:Ty)(nm:Str):Bool:=match t with
 |.cls c=>decide (Xbe c=yz nm)|.int=>decide (nm="int")|.bool=>decide (nm="bool")|.str=>decide (nm="str")|.tuple=>decide (nm="tuple")|.list=>decide (nm="list")|.dict=>decide (nm="dict")|.valueError=>decide (nm="ValueError")
noncomputable def Xlh:Ty->Bool
 |.cls _=>yw|.valueError=>yw|_=>yx
noncomputable def tyM(sc:Ue)(ts:List Ty)(y:Expr):Bool:=match y with
 |.Name nm _=>glB sc nm&&Yy nm&&(match ts with|[t]=>tyB sc t nm|_=>yw)
 |.Tuple ys _ _=>(match ys with
  |[.Name n1 _,.Name n2 _]=>glB sc n1&&Yy n1&&glB sc n2&&Yy n2&&(match ts with|[t1,t2]=>Xlh t1&&Xlh t2&&tyB sc t1 n1&&tyB sc t2 n2|_=>yw)
  |_=>yw)
 |_=>yw
noncomputable def X7h:Mt->Option Str
 |.append=>yz "append"|.xtd=>yz "extend"|.count=>yz "count"|.index=>yz "index"
noncomputable def Xf4(scope sc:Ue):Ue:={scope with names:=scope.names.map λ(n,k)=>if (k == .free&&sc.kind == .function&&sc.names.lookup n==yz .cell) then (n,.cell) else (n,k)}
noncomputable def Y0(scope:Ue):LS:=scope.names.filterMap λx=>match x.2 with
 |.local=>yz x.1|.cell=>yz x.1|_=>yy
noncomputable def Xb3(N N2:LS)(x:Str):Bool:=(N2.drop N.length).contains x
theorem Xx7(h:Xb3 N (Xak N own) x=yx):own.contains x=true:=by unfold Xb3 Xak at h;rw[List.drop_left' (by simp)]at h;exact h
noncomputable def Xpf(k:ScopeKind):Bool:=match k with
 |.function=>yx|_=>yw
theorem Xhv(h:Xpf k=yx):k=.function:=by cases k<;>first|rfl|cases h
noncomputable def Xli(k:Option Vd2):Bool:=match k with
 |some .cell=>yx|some .free=>yx|_=>yw
noncomputable def Xc1(k:Option Vd2):Bool:=match k with
 |some .local=>yx|_=>yw
noncomputable def Xef:LS->Bool
 |[]=>yx|x::r=>!(r.contains x)&&Xef r
theorem Xeg:∀ {l:LS},Xef l=yx->l.Nodup
 |[],_=>Vfc|x::r,h=>by simp only[Xef,bA0,Vat,List.contains_eq_mem]at h;exact Vet.mpr ⟨by simpa using h.1,Xeg h.2⟩
noncomputable def scB(outer sc:Ue)(N:LS):Bool:=
 Xpf sc.kind&&Xpf outer.kind&&Xef (Xak N (Y0 sc)) &&
 sc.names.all (λy=>match y.2 with|.free=>Xli (outer.names.lookup y.1) && !(Y0 sc).contains y.1|.local=>Xc1 (sc.names.lookup y.1)|_=>yx) &&
 N.all (λy=>!((Y0 sc).contains y)||(sc.names.lookup (U5 "0" ++ y)).isNone)
theorem Xrn(h:scB outer sc N=yx):ScOk outer sc N (Y0 sc):=by
 simp only[scB,bA0]at h;obtain⟨⟨⟨⟨h1,h2⟩,h3⟩,Y⟩,h6⟩:=h;have L:∀y∈sc.names,y.2=.free->Xli (outer.names.lookup y.1)=yx/\y.1 ∉ Y0 sc:=λy B J=>by have:=Uf.mp Y y B;rw[J]at this;simpa using this
 have U:∀y∈sc.names,y.2=.cell->y.1∈Y0 sc:=λy B hk=>Vcx.mpr ⟨y,B,by rw[hk]⟩;refine⟨Xhv h1,Xhv h2,Xeg h3,U,λy B J=>(L y B J).2,λy B J=>?_,λy B=>?_,λx hx hl=>?_,λy B hc=>?_⟩
 ·have:=(L y B J).1;unfold Xli at this;split at this;·exact .inl (by assumption)
  ·exact .inr (by assumption)
  cases this
 ·exact Vcx.mpr ⟨(y,.local),Xb9 B,rfl⟩
 ·have:=Uf.mp Y x hx;rw[hl]at this;dsimp only at this;unfold Xc1 at this;split at this;·assumption
  ·cases this
 have:=Uf.mp h6 y B;rw[hc]at this;simp only[Va4,Bool.false_or,Vg9]at this;exact this
noncomputable def Xpg:It->Bool
 |.enm _=>yx|_=>yw
noncomputable def Xeh(t:Tg)(it:It):Bool:=!Xpg it || !X2i t
noncomputable def Xt2:Expr->Bool
 |.Name _ _=>yx|.Subscript _ _ _=>yx|_=>yw
noncomputable def mnC(i:Int)(e:Expr):Bool:=match e with
 |.UnaryOp .USub x _=>(match x with
  |.Constant (.int j) _ _=>i==j
  |_=>yw)
 |_=>yw
noncomputable def Xhw(i:Int)(l:Option Int)(e:Expr):Bool:=match e with
 |.Slice lo yy (yz st) _=>mnC i st&&(match l,lo with
  |none,yy=>yx|some k,yz x=>mnC k x
  |_,_=>yw)
 |_=>yw
theorem Xd{α:Type}{o:Option α}{p:α->Bool}(h:o.any p=yx):∃x,o=yz x/\p x=true:=by
 cases o with
 |none=>cases h|some x=>exact⟨x,rfl,h⟩
noncomputable def vNm(e:Expr):Option Str:=match e with
 |.Name x _=>yz x|_=>yy
theorem Xao{e:Expr}{x:Str}(h:vNm e=yz x):∃p,e=.Name x p:=by
 unfold vNm at h;split at h;·cases h;exact⟨_,rfl⟩
 ·cases h
noncomputable def Xt3(e:Expr):Option Const:=match e with
 |.Constant c _ _=>yz c|_=>yy
theorem Xx8{e:Expr}{x:Const}(h:Xt3 e=yz x):∃k p,e=.Constant x k p:=by
 unfold Xt3 at h;split at h;·cases h;exact⟨_,_,rfl⟩
 ·cases h
noncomputable def vUn(e:Expr):Option (UnaryOp×Expr):=match e with
 |.UnaryOp o x _=>yz (o,x)|_=>yy
theorem Xro{e:Expr}{z:UnaryOp×Expr}(h:vUn e=yz z):∃p,e=.UnaryOp z.1 z.2 p:=by
 unfold vUn at h;split at h;·cases h;exact⟨_,rfl⟩
 ·cases h
noncomputable def X2j(o:UnaryOp):Bool:=decide (o=.USub)
theorem Xx9(h:X2j o=yx):o=.USub:=oD0 h
noncomputable def X2k(o:UnaryOp):Bool:=decide (o=.Not)
theorem Xya(h:X2k o=yx):o=.Not:=oD0 h
noncomputable def Xhx(e:Expr):Option (LX):=match e with
 |.Tuple xs _ _=>yz xs|_=>yy
theorem Xce{e:Expr}{x:LX}(h:Xhx e=yz x):∃k p,e=.Tuple x k p:=by
 unfold Xhx at h;split at h;·cases h;exact⟨_,_,rfl⟩
 ·cases h
noncomputable def Xt4(e:Expr):Option (LX):=match e with
 |.List xs _=>yz xs|_=>yy
theorem Xyb{e:Expr}{x:LX}(h:Xt4 e=yz x):∃p,e=.List x p:=by
 unfold Xt4 at h;split at h;·cases h;exact⟨_,rfl⟩
 ·cases h
noncomputable def X2l(e:Expr):Bool:=match e with
 |.Dict ks vs _=>ks.isEmpty&&vs.isEmpty|_=>yw
theorem X7v{e:Expr}(h:X2l e=yx):∃p,e=.Dict [] [] p:=by
 unfold X2l at h;split at h;·simp only[bA0,Var]at h;obtain⟨rfl,rfl⟩:=h;exact⟨_,rfl⟩
 ·cases h
noncomputable def Xt5(e:Expr):Option (Expr×Operator×Expr):=match e with
 |.BinOp x o y _=>yz (x,o,y)|_=>yy
theorem Xyc{e:Expr}{z:Expr×Operator×Expr}(h:Xt5 e=yz z):∃p,e=.BinOp z.1 z.2.1 z.2.2 p:=by
 unfold Xt5 at h;split at h;·cases h;exact⟨_,rfl⟩
 ·cases h
noncomputable def Xb4{α:Type}(l:List α):Option α:=match l with
 |[x]=>yz x|_=>yy
theorem Xbc{α:Type}{l:List α}{x:α}(h:Xb4 l=yz x):l=[x]:=by
 unfold Xb4 at h;split at h;·cases h;rfl
 ·cases h
noncomputable def Xf5{α:Type}(l:List α):Option (α×α):=match l with
 |[x,y]=>yz (x,y)|_=>yy
theorem Xde{α:Type}{l:List α}{z:α×α}(h:Xf5 l=yz z):l=[z.1,z.2]:=by
 unfold Xf5 at h;split at h;·cases h;rfl
 ·cases h
noncomputable def Xlj(e:Expr):Option (Expr×List CmpOp×LX):=match e with
 |.Compare x os ys _=>yz (x,os,ys)|_=>yy
theorem Xnt{e:Expr}{z:Expr×List CmpOp×LX}(h:Xlj e=yz z):∃p,e=.Compare z.1 z.2.1 z.2.2 p:=by
 unfold Xlj at h;split at h;·cases h;exact⟨_,rfl⟩
 ·cases h
noncomputable def Xlk(e:Expr):Option (BoolOp×LX×Pos):=match e with
 |.BoolOp o xs p=>yz (o,xs,p)|_=>yy
theorem Xyd{e:Expr}{z:BoolOp×LX×Pos}(h:Xlk e=yz z):e=.BoolOp z.1 z.2.1 z.2.2:=by
 unfold Xlk at h;split at h;·cases h;rfl
 ·cases h
noncomputable def opA(an:Bool):BoolOp:=if an then .And else .Or
noncomputable def Xph(an:Bool)(o:BoolOp):Bool:=decide (o=opA an)
theorem Xye{an:Bool}{o:BoolOp}(h:Xph an o=yx):o=opA an:=oD0 h
noncomputable def Xll(an:Bool)(p:Pos)(l:LX):Option (Expr×Expr):=match l with
 |[x,y]=>yz (x,y)|x::y::z::r=>yz (x,.BoolOp (opA an) (y::z::r) p)|_=>yy
theorem Xyf(h:Xll an p l=yz z):l=[z.1,z.2]\/∃y B r,l=z.1::y::B::r/\z.2=.BoolOp (opA an) (y::B::r) p:=by
 unfold Xll at h;split at h;·cases h;exact .inl rfl
 ·cases h;exact .inr ⟨_,_,_,rfl,rfl⟩
 cases h
noncomputable def vIf(e:Expr):Option (Expr×Expr×Expr):=match e with
 |.IfExp x y z _=>yz (x,y,z)|_=>yy
theorem X2m{e:Expr}{z:Expr×Expr×Expr}(h:vIf e=yz z):∃p,e=.IfExp z.1 z.2.1 z.2.2 p:=by
 unfold vIf at h;split at h;·cases h;exact⟨_,rfl⟩
 ·cases h
noncomputable def Xdx(e:Expr):Option (Expr×Expr):=match e with
 |.Subscript x y _=>yz (x,y)|_=>yy
theorem Xcf{e:Expr}{z:Expr×Expr}(h:Xdx e=yz z):∃p,e=.Subscript z.1 z.2 p:=by
 unfold Xdx at h;split at h;·cases h;exact⟨_,rfl⟩
 ·cases h
noncomputable def Xlm(e:Expr):Option (Option Expr×Option Expr):=match e with
 |.Slice l h yy _=>yz (l,h)|_=>yy
theorem Xnu(h:Xlm e=yz z):∃p,e=.Slice z.1 z.2 yy p:=by
 unfold Xlm at h;split at h;·cases h;exact⟨_,rfl⟩
 ·cases h
noncomputable def Xam(e:Expr):Option (Expr×Expr×LX×Pos):=match e with
 |.Call f (y::ys) [] p=>yz (f,y,ys,p)|_=>yy
theorem Xhy{e:Expr}{z:Expr×Expr×LX×Pos}(h:Xam e=yz z):e=.Call z.1 (z.2.1::z.2.2.1) [] z.2.2.2:=by
 unfold Xam at h;split at h;·cases h;rfl
 ·cases h
noncomputable def Xpi(e:Expr):Option (Expr×Str×Pos):=match e with
 |.Attribute o nm p=>yz (o,nm,p)|_=>yy
theorem Xyg(h:Xpi e=yz z):e=.Attribute z.1 z.2.1 z.2.2:=by
 unfold Xpi at h;split at h;·cases h;rfl
 ·cases h
noncomputable def vLC(e:Expr):Option (Expr×List Vbg×Ue):=match e with
 |.ListComp e gens scope _=>yz (e,gens,scope)|_=>yy
theorem X2n{e:Expr}{z:Expr×List Vbg×Ue}(h:vLC e=yz z):∃p,e=.ListComp z.1 z.2.1 z.2.2 p:=by
 unfold vLC at h;split at h;·cases h;exact⟨_,rfl⟩
 ·cases h
section
variable(cm:Bool)(fns:LF)(gns:LS)
noncomputable def mtT(top:Str->Bool)(sc:Ue)(N:LS):Tg->Expr->Bool
 |.var i,e=>(vNm e).any λx=>decide (N[i]?=yz x)&&Xhs top sc x|.tup is,e=>(Xhx e).any λes=>namesB is es
where namesB:LN->LX->Bool
 |[],[]=>yx
 |i::is,e::es=>((vNm e).any λx=>decide (N[i]?=yz x)&&Xhs top sc x)&&namesB is es
 |_,_=>yw
noncomputable def fnB(f:Nat)(x:Str)(n:Nat):Bool:=match fns[f]? with
 |some (nm,ar,fl)=>decide (nm=x)&&decide (ar=n)&&(cm || !fl)|none=>yw
noncomputable def blB(k:Bl)(x:Str):Bool:=match Xpd k with
 |some (nm,_,_)=>decide (x=nm)|none=>yw
noncomputable def mtB(k:Mt)(nm:Str):Bool:=match X7h k with
 |some m=>decide (nm=m)|none=>yw
mutual
noncomputable def mt(sc:Ue)(N:LS):Ex->Expr->Bool
 |.nev,_=>yx|.var i,e=>(vNm e).any λx=>decide (N[i]?=yz x)&&Xlf sc x&&Yy x|.cst d,e=>(Xt3 e).any λc=>Xhu d c|.neg a,e=>(vUn e).any λz=>X2j z.1&&mt sc N a z.2|.glb k,e=>(vNm e).any λx=>decide (gns[k]?=yz x)&&glB sc x&&Yy x|.tup es,e=>(Xhx e).any λxs=>mts sc N es xs|.lst es,e=>(Xt4 e).any λxs=>mts sc N es xs|.isi a ts,e=>(Xam e).any λz=>(vNm z.1).any λ(f:Str)=>decide (f="isinstance")&&glB sc f&&Xy z.2.1&&mt sc N a z.2.1&&(Xb4 z.2.2.1).any λy=>tyM sc ts y|.bin op a b,e=>(Xt5 e).any λz=>Xpc op z.2.1&&mt sc N a z.1&&mt sc N b z.2.2|.cmp op a b,e=>(Xlj e).any λz=>(Xb4 z.2.1).any λo=>(Xb4 z.2.2).any λy=>Xlg op o && !(Vdp (opC op) y)&&mt sc N a z.1&&mt sc N b y|.chn o1 o2 a b c,e=>(Xlj e).any λz=>(Xf5 z.2.1).any λo=>(Xf5 z.2.2).any λy=>Xlg o1 o.1&&Xlg o2 o.2 && !(lastMarks [opC o1,opC o2] [y.1,y.2])&&mt sc N a z.1&&mt sc N b y.1&&mt sc N c y.2|.and a b,e=>(Xlk e).any λz=>Xph yx z.1&&(Xll yx z.2.2 z.2.1).any λy=>mt sc N a y.1&&mt sc N b y.2|.or a b,e=>(Xlk e).any λz=>Xph yw z.1&&(Xll yw z.2.2 z.2.1).any λy=>mt sc N a y.1&&mt sc N b y.2|.not a,e=>(vUn e).any λz=>X2k z.1&&mt sc N a z.2|.ite c a b,e=>(vIf e).any λz=>mt sc N c z.1&&mt sc N a z.2.1&&mt sc N b z.2.2|.idx a i,e=>(Xdx e).any λz=>Xdd z.2&&mt sc N a z.1&&mt sc N i z.2|.call f es,e=>(Xam e).any λz=>(vNm z.1).any λx=>fnB cm fns f x (z.2.1::z.2.2.1).length&&glB sc x&&Yy x&&mts sc N es (z.2.1::z.2.2.1)|.blt k es,e=>(Xam e).any λz=>(vNm z.1).any λx=>blB k x&&(cm||Xpe k)&&glB sc x&&Yy x&&mts sc N es (z.2.1::z.2.2.1)|.mth k o es,e=>(Xam e).any λz=>(Xpi z.1).any λx=>mtB k x.2.1&&Xpb x.1&&(x.2.2.endLine==z.2.2.2.line)&&decide ((z.2.1::z.2.2.1).length<29)&&mt sc N o x.1&&mts sc N es (z.2.1::z.2.2.1)|.cmr k n gs elt,e=>(vLC e).any λz=>cm && !k&&decide ((Y0 z.2.2).length=n)&&scB sc z.2.2 N&&mtG sc N (Xf4 z.2.2 sc) (Xak N (Y0 z.2.2)) gs z.2.1&&mt (Xf4 z.2.2 sc) (Xak N (Y0 z.2.2)) elt z.1|.sli a lo hi,e=>(Xdx e).any λz=>(Xlm z.2).any λy=>mt sc N a z.1&&mto sc N lo y.1&&mto sc N hi y.2|.cal f es,e=>(Xam e).any λz=>cm&&Xt2 z.1&&mt sc N f z.1&&mts sc N es (z.2.1::z.2.2.1)|.rev a,e=>(Xdx e).any λz=>Xhw 1 yy z.2&&mt sc N a z.1|.lenm a,e=>(Xam e).any λz=>(vNm z.1).any λ(x:Str)=>decide (x="list")&&cm&&glB sc x&&z.2.2.1.isEmpty&&(Xam z.2.1).any λy=>(vNm y.1).any λ(x2:Str)=>decide (x2="enumerate")&&glB sc x2&&y.2.2.1.isEmpty&&Xy y.2.1&&mt sc N a y.2.1|.lns a,e=>(Xam e).any λz=>(vNm z.1).any λ(x:Str)=>decide (x="len")&&cm&&glB sc x&&z.2.2.1.isEmpty&&(Xam z.2.1).any λy=>(vNm y.1).any λ(x2:Str)=>decide (x2="set")&&glB sc x2&&y.2.2.1.isEmpty&&Xy y.2.1&&mt sc N a y.2.1|.dcl a,e=>(Xam e).any λz=>(vNm z.1).any λ(x:Str)=>decide (x="dict")&&cm&&glB sc x&&z.2.2.1.isEmpty&&Xy z.2.1&&mt sc N a z.2.1|.idc a b,e=>(Xlj e).any λz=>(Xb4 z.2.1).any λo=>(Xb4 z.2.2).any λy=>Xlg .isin o && !(Vdp (opC .isin) y)&&mt sc N a z.1&&mt sc N b y
noncomputable def mto(sc:Ue)(N:LS):Op->Option Expr->Bool
 |.none,yy=>yx|.some e,yz x=>mt sc N e x|_,_=>yw
noncomputable def mts(sc:Ue)(N:LS):Exs->LX->Bool
 |.nil,[]=>yx|.cons e es,x::xs=>Xy x&&mt sc N e x&&mts sc N es xs|_,_=>yw
noncomputable def mtG(sc:Ue)(N:LS)(sc2:Ue)(N2:LS):Gens->List Vbg->Bool
 |.nil,_=>yw|.cons t it ifs gs,l=>match l with
  |[]=>yw|c::r=>(c.is_async==0)&&Xbt c.iter&&mtT (Xb3 N N2) sc2 N2 t c.target&&mtI sc N it c.iter&&mts sc2 N2 ifs c.ifs&&Xeh t it&&match gs with
   |.nil=>r.isEmpty|.cons t2 it2 ifs2 B=>match r with
    |[]=>yw|c2::r2=>(c2.is_async==0)&&Xbt c2.iter&&mtT (Xb3 N N2) sc2 N2 t2 c2.target&&mtI sc2 N2 it2 c2.iter&&mts sc2 N2 ifs2 c2.ifs&&Xeh t2 it2&&r2.isEmpty&&match B with
     |.nil=>yx|.cons ..=>yw
noncomputable def mtI(sc:Ue)(N:LS):It->Expr->Bool
 |.val e,x=>mt sc N e x|.rng es,e=>(Xam e).any λz=>(vNm z.1).any λ(x:Str)=>decide (x="range")&&glB sc x&&mts sc N es (z.2.1::z.2.2.1)|.enm es,e=>(Xam e).any λz=>(vNm z.1).any λ(x:Str)=>decide (x="enumerate")&&glB sc x&&mts sc N es (z.2.1::z.2.2.1)
end
end
section
variable{cm:Bool}{fns:LF}{gns:LS}{sc sc2:Ue}{N N2:LS}{t t2:Tg}{it it2:It}{ifs ifs2:Exs}
theorem X5v(h:mtG cm fns gns sc N sc2 N2 .nil gens=yx):False:=by cases h
theorem X5w(h:mtG cm fns gns sc N sc2 N2 (.cons t it ifs .nil) gens=yx):∃tg iter B,gens=[⟨tg,iter,B,0⟩]/\Xbt iter=yx/\mtT (Xb3 N N2) sc2 N2 t tg=yx/\mtI cm fns gns sc N it iter=yx/\mts cm fns gns sc2 N2 ifs B=yx/\Xeh t it=true:=by
 cases gens with
 |nil=>cases h|cons c r=>obtain⟨tg,iter,B,a⟩:=c;simp only[mtG,bA0,beq_iff_eq,Var]at h;obtain⟨⟨⟨⟨⟨⟨h1,h2⟩,Y⟩,L⟩,h5⟩,J⟩,U⟩:=h;subst h1 U;exact⟨tg,iter,B,rfl,h2,Y,L,h5,J⟩
theorem X5x(h:mtG cm fns gns sc N sc2 N2 (.cons t it ifs (.cons t2 it2 ifs2 .nil)) gens=yx):∃tg iter U L B J,gens=[⟨tg,iter,U,0⟩,⟨L,B,J,0⟩]/\Xbt iter=yx/\Xbt B=yx/\mtT (Xb3 N N2) sc2 N2 t tg=yx/\mtI cm fns gns sc N it iter=yx/\mts cm fns gns sc2 N2 ifs U=yx/\mtT (Xb3 N N2) sc2 N2 t2 L=yx/\mtI cm fns gns sc2 N2 it2 B=yx/\mts cm fns gns sc2 N2 ifs2 J=yx/\Xeh t it=yx/\Xeh t2 it2=true:=by
 cases gens with
 |nil=>cases h|cons c r=>
  obtain⟨tg,iter,U,a⟩:=c;cases r with
  |nil=>simp only[mtG,Veb,Vv]at h|cons c2 r=>obtain⟨L,B,J,a2⟩:=c2;simp only[mtG,bA0,beq_iff_eq,Var]at h;obtain⟨⟨⟨⟨⟨⟨h1,h3⟩,h5⟩,h6⟩,h7⟩,Y⟩,⟨⟨⟨⟨⟨⟨h2,h4⟩,h8⟩,h9⟩,ab⟩,ac⟩,aa⟩,_⟩:=h;subst h1 h2 aa;exact⟨tg,iter,U,L,B,J,rfl,h3,h4,h5,h6,h7,h8,h9,ab,Y,ac⟩
theorem X5y(h:mtG cm fns gns sc N sc2 N2 (.cons t it ifs (.cons t2 it2 ifs2 (.cons t3 it3 ifs3 gs3))) gens=yx):False:=by
 cases gens with
 |nil=>cases h|cons c r=>cases r<;>simp only[mtG,Veb,Vv]at h
theorem Xbx{e:Expr}{q:Expr×Expr×LX×Pos->Str->Bool}(h:((Xam e).any λz=>(vNm z.1).any λx=>q z x)=yx):∃x p y ys B,e=.Call (.Name x p) (y::ys) [] B/\q (.Name x p,y,ys,B) x=true:=by obtain⟨⟨f,y,ys,B⟩,h1,h2⟩:=Xd h;obtain⟨x,h3,Y⟩:=Xd h2;have U:=Xhy h1;subst U;have J:vNm f=yz x:=h3;obtain⟨p,L⟩:=Xao J;subst L;exact⟨x,p,y,ys,B,rfl,Y⟩
theorem X2o{i:Nat}{e:Expr}(h:mt cm fns gns sc N (.var i) e=yx):∃x p,e=.Name x p/\N[i]?=yz x/\Xlf sc x=yx/\Yy x=true:=by simp only[mt]at h;obtain⟨x,h1,h2⟩:=Xd h;obtain⟨p,rfl⟩:=Xao h1;simp only[bA0,decide_eq_true_eq]at h2;exact⟨x,p,rfl,h2.1.1,h2.1.2,h2.2⟩
theorem X2p{d:D}{e:Expr}(h:mt cm fns gns sc N (.cst d) e=yx):∃c k p,e=.Constant c k p/\Xhu d c=true:=by simp only[mt]at h;obtain⟨c,h1,h2⟩:=Xd h;obtain⟨k,p,rfl⟩:=Xx8 h1;exact⟨c,k,p,rfl,h2⟩
theorem X2q{a:Ex}{e:Expr}(h:mt cm fns gns sc N (.neg a) e=yx):∃x p,e=.UnaryOp .USub x p/\mt cm fns gns sc N a x=true:=by simp only[mt]at h;obtain⟨⟨o,x⟩,h1,h2⟩:=Xd h;obtain⟨p,rfl⟩:=Xro h1;rw[bA0]at h2;have B:=Xx9 h2.1;dsimp only at B;subst B;exact⟨x,p,rfl,h2.2⟩
theorem X2r{a:Ex}{e:Expr}(h:mt cm fns gns sc N (.not a) e=yx):∃x p,e=.UnaryOp .Not x p/\mt cm fns gns sc N a x=true:=by simp only[mt]at h;obtain⟨⟨o,x⟩,h1,h2⟩:=Xd h;obtain⟨p,rfl⟩:=Xro h1;rw[bA0]at h2;have B:=Xya h2.1;dsimp only at B;subst B;exact⟨x,p,rfl,h2.2⟩
theorem X2s{k:Nat}{e:Expr}(h:mt cm fns gns sc N (.glb k) e=yx):∃x p,e=.Name x p/\gns[k]?=yz x/\glB sc x=yx/\Yy x=true:=by simp only[mt]at h;obtain⟨x,h1,h2⟩:=Xd h;obtain⟨p,rfl⟩:=Xao h1;simp only[bA0,decide_eq_true_eq]at h2;exact⟨x,p,rfl,h2.1.1,h2.1.2,h2.2⟩
theorem X2t{es:Exs}{e:Expr}(h:mt cm fns gns sc N (.tup es) e=yx):∃xs k p,e=.Tuple xs k p/\mts cm fns gns sc N es xs=true:=by simp only[mt]at h;obtain⟨x,h1,h2⟩:=Xd h;obtain⟨k,p,rfl⟩:=Xce h1;exact⟨x,k,p,rfl,h2⟩
theorem X2u{es:Exs}{e:Expr}(h:mt cm fns gns sc N (.lst es) e=yx):∃xs p,e=.List xs p/\mts cm fns gns sc N es xs=true:=by simp only[mt]at h;obtain⟨x,h1,h2⟩:=Xd h;obtain⟨p,rfl⟩:=Xyb h1;exact⟨x,p,rfl,h2⟩
theorem X2v{op:Bo}{a b:Ex}{e:Expr}(h:mt cm fns gns sc N (.bin op a b) e=yx):∃x y p,e=.BinOp x (opB op) y p/\mt cm fns gns sc N a x=yx/\mt cm fns gns sc N b y=true:=by simp only[mt]at h;obtain⟨⟨x,o,y⟩,h1,h2⟩:=Xd h;obtain⟨p,rfl⟩:=Xyc h1;simp only[bA0]at h2;have B:=Xns h2.1.1;subst B;exact⟨x,y,p,rfl,h2.1.2,h2.2⟩
theorem Xrp{op:Co}{a b:Ex}{e:Expr}(h:mt cm fns gns sc N (.cmp op a b) e=yx):∃x y p,e=.Compare x [opC op] [y] p/\Vdp (opC op) y=yw/\mt cm fns gns sc N a x=yx/\mt cm fns gns sc N b y=true:=by simp only[mt]at h;obtain⟨⟨x,os,ys⟩,h1,h2⟩:=Xd h;obtain⟨o,h3,Y⟩:=Xd h2;obtain⟨y,h5,B⟩:=Xd Y;obtain⟨p,rfl⟩:=Xnt h1;have L:os=[o]:=Xbc h3;have J:ys=[y]:=Xbc h5;subst L J;simp only[bA0,Vat]at B;have U:=Xht B.1.1.1;subst U;exact⟨x,y,p,rfl,B.1.1.2,B.1.2,B.2⟩
theorem X2w{B J:Co}{a b c:Ex}{e:Expr}(h:mt cm fns gns sc N (.chn B J a b c) e=yx):∃x y z p,e=.Compare x [opC B,opC J] [y,z] p/\lastMarks [opC B,opC J] [y,z]=yw/\mt cm fns gns sc N a x=yx/\mt cm fns gns sc N b y=yx/\mt cm fns gns sc N c z=true:=by simp only[mt]at h;obtain⟨⟨x,os,ys⟩,h1,h2⟩:=Xd h;obtain⟨⟨p1,p2⟩,h3,h4⟩:=Xd h2;obtain⟨⟨y,z⟩,h5,L⟩:=Xd h4;obtain⟨p,rfl⟩:=Xnt h1;have e1:os=[p1,p2]:=Xde h3;have e2:ys=[y,z]:=Xde h5;subst e1 e2;rw[bA0,bA0,bA0,bA0,bA0,Vat]at L;obtain⟨⟨⟨⟨⟨k1,k2⟩,k3⟩,k4⟩,k5⟩,k6⟩:=L;have U:=Xht k1;have Y:=Xht k2;dsimp only at U Y;subst U Y;exact⟨x,y,z,p,rfl,k3,k4,k5,k6⟩
theorem Xnv{an:Bool}{a b:Ex}{e:Expr}(h:((Xlk e).any λz=>Xph an z.1&&(Xll an z.2.2 z.2.1).any λy=>mt cm fns gns sc N a y.1&&mt cm fns gns sc N b y.2)=yx):
  (∃x y p,e=.BoolOp (opA an) [x,y] p/\mt cm fns gns sc N a x=yx/\mt cm fns gns sc N b y=yx)\/∃x y z r p,e=.BoolOp (opA an) (x::y::z::r) p/\mt cm fns gns sc N a x=yx/\mt cm fns gns sc N b (.BoolOp (opA an) (y::z::r) p)=true:=by
 obtain⟨⟨o,xs,p⟩,h1,h2⟩:=Xd h;have Y:=Xyd h1;subst Y;rw[bA0]at h2;have L:=Xye h2.1;dsimp only at L;subst L;obtain⟨⟨x,y⟩,h3,J⟩:=Xd h2.2;rw[bA0]at J;rcases Xyf h3 with B|⟨y1,y2,r,B,U⟩;·dsimp only at B;subst B;exact .inl ⟨x,y,p,rfl,J.1,J.2⟩
 ·dsimp only at B U;subst B U;exact .inr ⟨x,y1,y2,r,p,rfl,J.1,J.2⟩
theorem X2x(h:mt cm fns gns sc N (.and a b) e=yx):(∃x y p,e=.BoolOp .And [x,y] p/\mt cm fns gns sc N a x=yx/\mt cm fns gns sc N b y=yx)\/∃x y z r p,e=.BoolOp .And (x::y::z::r) p/\mt cm fns gns sc N a x=yx/\mt cm fns gns sc N b (.BoolOp .And (y::z::r) p)=true:=by simp only[mt]at h;exact Xnv (an:=yx) h
theorem X5z(h:mt cm fns gns sc N (.or a b) e=yx):(∃x y p,e=.BoolOp .Or [x,y] p/\mt cm fns gns sc N a x=yx/\mt cm fns gns sc N b y=yx)\/∃x y z r p,e=.BoolOp .Or (x::y::z::r) p/\mt cm fns gns sc N a x=yx/\mt cm fns gns sc N b (.BoolOp .Or (y::z::r) p)=true:=by simp only[mt]at h;exact Xnv (an:=yw) h
theorem X2y{c a b:Ex}{e:Expr}(h:mt cm fns gns sc N (.ite c a b) e=yx):∃x y z p,e=.IfExp x y z p/\mt cm fns gns sc N c x=yx/\mt cm fns gns sc N a y=yx/\mt cm fns gns sc N b z=true:=by simp only[mt]at h;obtain⟨⟨x,y,z⟩,h1,h2⟩:=Xd h;obtain⟨p,rfl⟩:=X2m h1;simp only[bA0]at h2;exact⟨x,y,z,p,rfl,h2.1.1,h2.1.2,h2.2⟩
theorem X2z{a i:Ex}{e:Expr}(h:mt cm fns gns sc N (.idx a i) e=yx):∃x y p,e=.Subscript x y p/\Xdd y=yx/\mt cm fns gns sc N a x=yx/\mt cm fns gns sc N i y=true:=by simp only[mt]at h;obtain⟨⟨x,y⟩,h1,h2⟩:=Xd h;obtain⟨p,rfl⟩:=Xcf h1;simp only[bA0]at h2;exact⟨x,y,p,rfl,h2.1.1,h2.1.2,h2.2⟩
theorem Xrq{k:Bool}{n:Nat}{gs:Gens}{elt:Ex}{e:Expr}(h:mt cm fns gns sc N (.cmr k n gs elt) e=yx):∃B gens scope p,e=.ListComp B gens scope p/\cm=yx/\k=yw/\(Y0 scope).length=n/\scB sc scope N=yx/\mtG cm fns gns sc N (Xf4 scope sc) (Xak N (Y0 scope)) gs gens=yx/\mt cm fns gns (Xf4 scope sc) (Xak N (Y0 scope)) elt B=true:=by simp only[mt]at h;obtain⟨⟨B,gens,scope⟩,h1,h2⟩:=Xd h;obtain⟨p,rfl⟩:=X2n h1;simp only[bA0,decide_eq_true_eq,Vat]at h2;obtain⟨⟨⟨⟨⟨h0,h1⟩,h2⟩,L⟩,J⟩,U⟩:=h2;exact⟨B,gens,scope,p,rfl,h0,h1,h2,L,J,U⟩
theorem Xwf{U n2:Str}{cm:Bool}{M:Expr->Bool}(h:((Xam e).any λz=>(vNm z.1).any λ(x:Str)=>decide (x=U)&&cm&&glB sc x&&z.2.2.1.isEmpty&&(Xam z.2.1).any λy=>(vNm y.1).any λ(x2:Str)=>decide (x2=n2)&&glB sc x2&&y.2.2.1.isEmpty&&Xy y.2.1&&M y.2.1)=yx):
  ∃p p2 x Y B,e=.Call (.Name U p) [.Call (.Name n2 p2) [x] [] B] [] Y/\cm=yx/\glB sc U=yx/\glB sc n2=yx/\Xy x=yx/\M x=true:=by
 obtain⟨x,p,y,ys,Y,rfl,h1⟩:=Xbx h;rw[bA0,bA0,bA0,bA0]at h1;obtain⟨⟨⟨⟨e1,e2⟩,e3⟩,e4⟩,h2⟩:=h1;obtain⟨x2,p2,y2,ac,B,rfl,h3⟩:=Xbx h2;rw[bA0,bA0,bA0,bA0]at h3;obtain⟨⟨⟨⟨f1,f2⟩,f3⟩,f4⟩,f5⟩:=h3;have aa:=oD0 e1;have ab:=oD0 f1;subst aa ab;have L:=Var.mp e4;have J:=Var.mp f3;dsimp only at L J;subst L J;exact⟨p,p2,y2,Y,B,rfl,e2,e3,f2,f4,f5⟩
theorem Xyh(h:mt cm fns gns sc N (.lenm a) e=yx):∃p p2 x J B,e=.Call (.Name "list" p) [.Call (.Name "enumerate" p2) [x] [] B] [] J/\cm=yx/\glB sc "list"=yx/\glB sc "enumerate"=yx/\Xy x=yx/\mt cm fns gns sc N a x=true:=by simp only[mt]at h;exact Xwf h
theorem X20(h:mt cm fns gns sc N (.lns a) e=yx):∃p p2 x J B,e=.Call (.Name "len" p) [.Call (.Name "set" p2) [x] [] B] [] J/\cm=yx/\glB sc "len"=yx/\glB sc "set"=yx/\Xy x=yx/\mt cm fns gns sc N a x=true:=by simp only[mt]at h;exact Xwf h
theorem X21(h:mt cm fns gns sc N (.dcl a) e=yx):∃p x J,e=.Call (.Name "dict" p) [x] [] J/\cm=yx/\glB sc "dict"=yx/\Xy x=yx/\mt cm fns gns sc N a x=true:=by simp only[mt]at h;obtain⟨x,p,y,ys,J,rfl,h1⟩:=Xbx h;rw[bA0,bA0,bA0,bA0,bA0]at h1;obtain⟨⟨⟨⟨⟨e1,Y⟩,e3⟩,e4⟩,U⟩,h2⟩:=h1;have L:=oD0 e1;have B:=Var.mp e4;dsimp only at B;subst L B;exact⟨p,y,J,rfl,Y,e3,U,h2⟩
theorem X22{a b:Ex}{e:Expr}(h:mt cm fns gns sc N (.idc a b) e=yx):∃x y p,e=.Compare x [opC .isin] [y] p/\Vdp (opC .isin) y=yw/\mt cm fns gns sc N a x=yx/\mt cm fns gns sc N b y=true:=
 Xrp (op:=.isin) (by simp only[mt]at h ⊢;exact h)
theorem X23(h:mt cm fns gns sc N (.blt k es) e=yx):∃x p y ys B,e=.Call (.Name x p) (y::ys) [] B/\blB k x=yx/\(cm||Xpe k)=yx/\glB sc x=yx/\Yy x=yx/\mts cm fns gns sc N es (y::ys)=true:=by simp only[mt]at h;obtain⟨x,p,y,ys,B,rfl,h1⟩:=Xbx h;rw[bA0,bA0,bA0,bA0]at h1;exact⟨x,p,y,ys,B,rfl,h1.1.1.1.1,h1.1.1.1.2,h1.1.1.2,h1.1.2,h1.2⟩
theorem Xyi{k:Nat}(h:mt cm fns gns sc N (.call k es) e=yx):∃x p y ys J,e=.Call (.Name x p) (y::ys) [] J/\(∃B,fns[k]?=yz (x,(y::ys).length,B)/\(B=yx->cm=yx))/\glB sc x=yx/\Yy x=yx/\mts cm fns gns sc N es (y::ys)=true:=by
 simp only[mt]at h;obtain⟨x,p,y,ys,J,rfl,h1⟩:=Xbx h;rw[bA0,bA0,bA0]at h1;refine⟨x,p,y,ys,J,rfl,?_,h1.1.1.2,h1.1.2,h1.2⟩;have h2:=h1.1.1.1;unfold fnB at h2;split at h2;·rename_i nm L B e;simp only[bA0,decide_eq_true_eq,Vbi,Vat]at h2;obtain⟨⟨rfl,rfl⟩,h2⟩:=h2;exact⟨B,e,λz=>by rcases h2 with h2|h2;exact h2;rw[z]at h2;cases h2⟩
 ·cases h2
theorem X24{k:Mt}{o:Ex}{es:Exs}{e:Expr}(h:mt cm fns gns sc N (.mth k o es) e=yx):∃J nm L y ys U,e=.Call (.Attribute J nm L) (y::ys) [] U/\mtB k nm=yx/\Xpb J=yx/\(L.endLine==U.line)=yx/\(y::ys).length<29/\mt cm fns gns sc N o J=yx/\mts cm fns gns sc N es (y::ys)=true:=by simp only[mt]at h;obtain⟨⟨f,y,ys,U⟩,h1,h2⟩:=Xd h;obtain⟨⟨J,nm,L⟩,h3,B⟩:=Xd h2;have e1:=Xhy h1;subst e1;have Y:Xpi f=yz (J,nm,L):=h3;have e2:=Xyg Y;subst e2;rw[bA0,bA0,bA0,bA0,bA0]at B;exact⟨J,nm,L,y,ys,U,rfl,B.1.1.1.1.1,B.1.1.1.1.2,B.1.1.1.2,oD0 B.1.1.2,B.1.2,B.2⟩
theorem X25{a:Ex}{ts:List Ty}{e:Expr}(h:mt cm fns gns sc N (.isi a ts) e=yx):∃p0 x y B,e=.Call (.Name "isinstance" p0) [x,y] [] B/\glB sc "isinstance"=yx/\Xy x=yx/\mt cm fns gns sc N a x=yx/\tyM sc ts y=true:=by simp only[mt]at h;obtain⟨f,p,y,ys,B,rfl,h1⟩:=Xbx h;rw[bA0,bA0,bA0,bA0]at h1;obtain⟨⟨⟨⟨h2,h3⟩,h4⟩,h5⟩,L⟩:=h1;have e1:f="isinstance":=oD0 h2;subst e1;obtain⟨J,h7,Y⟩:=Xd L;have U:ys=[J]:=Xbc h7;subst U;exact⟨p,y,J,B,rfl,h3,h4,h5,Y⟩
theorem X26(h:tyM sc ts y=yx):(∃t nm p,ts=[t]/\y=.Name nm p/\glB sc nm=yx/\Yy nm=yx/\tyB sc t nm=yx) \/
  ∃t1 t2 L J Y p2 k p,ts=[t1,t2]/\y=.Tuple [.Name L Y,.Name J p2] k p/\glB sc L=yx/\Yy L=yx/\glB sc J=yx/\Yy J=yx/\Xlh t1=yx/\Xlh t2=yx/\tyB sc t1 L=yx/\tyB sc t2 J=true:=by
 unfold tyM at h;split at h
 ·simp only[bA0]at h;obtain⟨⟨h1,h2⟩,B⟩:=h;split at B;·exact .inl ⟨_,_,_,rfl,rfl,h1,h2,B⟩
  ·cases B
 ·split at h
  ·simp only[bA0]at h;obtain⟨⟨⟨⟨h1,h2⟩,B⟩,h4⟩,U⟩:=h;split at U;·simp only[bA0]at U;obtain⟨⟨⟨h6,h7⟩,h8⟩,h9⟩:=U;exact .inr ⟨_,_,_,_,_,_,_,_,rfl,rfl,h1,h2,B,h4,h6,h7,h8,h9⟩
   ·cases U
  cases h
 ·cases h
theorem X27{a:Ex}{lo hi:Op}{e:Expr}(h:mt cm fns gns sc N (.sli a lo hi) e=yx):∃x l u p2 p,e=.Subscript x (.Slice l u yy p2) p/\mt cm fns gns sc N a x=yx/\mto cm fns gns sc N lo l=yx/\mto cm fns gns sc N hi u=true:=by simp only[mt]at h;obtain⟨⟨x,y⟩,h1,h2⟩:=Xd h;obtain⟨⟨l,u⟩,L,B⟩:=Xd h2;obtain⟨p,rfl⟩:=Xcf h1;obtain⟨p2,J⟩:=Xnu L;dsimp only at J;subst J;simp only[bA0]at B;exact⟨x,l,u,p2,p,rfl,B.1.1,B.1.2,B.2⟩
theorem Xwg{w:Str}{es:Exs}{e:Expr}(h:((Xam e).any λz=>(vNm z.1).any λx=>decide (x=w)&&glB sc x&&mts cm fns gns sc N es (z.2.1::z.2.2.1))=yx):∃p y ys B,e=.Call (.Name w p) (y::ys) [] B/\glB sc w=yx/\mts cm fns gns sc N es (y::ys)=true:=by obtain⟨x,p,y,ys,B,rfl,h1⟩:=Xbx h;rw[bA0,bA0]at h1;have J:x=w:=oD0 h1.1.1;subst J;exact⟨p,y,ys,B,rfl,h1.1.2,h1.2⟩
theorem Xyj(h:mtI cm fns gns sc N (.enm es) e=yx):∃p y ys B,e=.Call (.Name "enumerate" p) (y::ys) [] B/\glB sc "enumerate"=yx/\mts cm fns gns sc N es (y::ys)=true:=by simp only[mtI]at h;exact Xwg h
theorem Xyk(h:mtI cm fns gns sc N (.rng es) e=yx):∃p y ys B,e=.Call (.Name "range" p) (y::ys) [] B/\glB sc "range"=yx/\mts cm fns gns sc N es (y::ys)=true:=by simp only[mtI]at h;exact Xwg h
theorem X28{f:Ex}{es:Exs}{e:Expr}(h:mt cm fns gns sc N (.cal f es) e=yx):∃B y ys J,e=.Call B (y::ys) [] J/\cm=yx/\Xt2 B=yx/\mt cm fns gns sc N f B=yx/\mts cm fns gns sc N es (y::ys)=true:=by simp only[mt]at h;obtain⟨⟨B,y,ys,J⟩,h1,h2⟩:=Xd h;have L:=Xhy h1;subst L;rw[bA0,bA0,bA0]at h2;exact⟨B,y,ys,J,rfl,h2.1.1.1,h2.1.1.2,h2.1.2,h2.2⟩
theorem X29{a:Ex}{e:Expr}(h:mt cm fns gns sc N (.rev a) e=yx):∃x y p,e=.Subscript x y p/\Xhw 1 yy y=yx/\mt cm fns gns sc N a x=true:=by simp only[mt]at h;obtain⟨⟨x,y⟩,h1,h2⟩:=Xd h;obtain⟨p,rfl⟩:=Xcf h1;rw[bA0]at h2;exact⟨x,y,p,rfl,h2.1,h2.2⟩
theorem Xgv{top:Str->Bool}{tg:Expr}(h1:Xeh t it=yx)(h2:mtT top sc N t tg=yx)(J:Xpg it=yx):∃es k p,tg=.Tuple es k p:=by
 unfold Xeh at h1;rw[J]at h1;cases t with
 |var i=>cases h1|tup L=>simp only[mtT]at h2;obtain⟨es,B,_⟩:=Xd h2;obtain⟨k,p,rfl⟩:=Xce B;exact⟨es,k,p,rfl⟩
end
noncomputable def blts:LS:=["len","tuple","list","all","any","sum","max","min","range","isinstance","sorted","set","str","repr","zip","enumerate","abs","ValueError","int","bool","dict"]
noncomputable def bmV:LV:=[.type "ValueError",.type "Exception",.type "BaseException",.type "object"]
noncomputable def Xt6:Data->Option ClassData
 |.cls B=>yz B|_=>yy
theorem Xyl{d:Data}{cd:ClassData}(h:Xt6 d=yz cd):d=.cls cd:=by cases d<;>cases h<;>rfl
noncomputable def Xln(K:Ve)(C:Addr):Bool:=match K.lookup C with
 |none=>yw|some o=>match Xt6 o.data with
  |none=>yw|some B=>o.cls == .type "type" && B.mro == .ref C::B.mro.tail&&o.slots == #[o.slots.getD 0 yy,o.slots.getD 1 yy,o.slots.getD 2 yy,o.slots.getD 3 yy,yz (.builtin "ValueError.__new__"),o.slots.getD 5 yy] && !B.hasDel&&PySem.W.tailIn K bmV B.mro.tail&&PySem.W.nsOkIn K B.ns&&Vaa K B.ns "__init__" == yz yy
noncomputable def Xt7(K:Ve):Bool:=
 (K.lookup Vbq).isSome&&PySem.W.specialIn K (.builtin "object.__class__") "__get__" == yz (yz (.builtin "getset_descriptor.__get__"))&&PySem.W.takesIn K (.builtin "object.__class__")==yz yx &&
 (Vm clsNames.length).all λc=>match Y9 K c with
  |some C=>Xln K C&&(Veg K (.ref C) "__getattribute__" == yz (yz (.builtin "BaseException.__getattribute__"))&&Veg K (.ref C) "__getattr__" == yz yy&&PySem.W.mroIn K C (.type "BaseException")==yz yx)&&(PySem.W.clsIn K C).isSome&&Veg K (.ref C) "__class__" == yz (yz (.builtin "object.__class__"))&&PySem.W.mroIn K C (.type "object")==yz yx &&
   Vfd K (.ref C) (.type "ValueError")==yz yx&&(Vm clsNames.length).all λc0=>match Y9 K c0 with
    |some B=>Vfd K (.ref C) (.ref B)==yz (c0==0||c0==c)&&(!(c0==0||c0==c)||PySem.W.exmOne K (.ref C) (.ref B)==yz yx)|none=>yx
  |none=>(Xbe c).isNone
structure ErrOk(K:Ve):Prop where
 sm:∃o,K.lookup Vbq=yz o
 gt:PySem.W.specialIn K (.builtin "object.__class__") "__get__"=yz (yz (.builtin "getset_descriptor.__get__"))
 tk:PySem.W.takesIn K (.builtin "object.__class__")=yz yx
 at_:∀c nm,Xbe c=yz nm->∃C,Y9 K c=yz C/\Vaa K Ub nm=yz (yz (.ref C))
 cls:∀c C,Y9 K c=yz C->Xln K C=yx/\(Veg K (.ref C) "__getattribute__"=yz (yz (.builtin "BaseException.__getattribute__"))/\Veg K (.ref C) "__getattr__"=yz yy/\PySem.W.mroIn K C (.type "BaseException")=yz yx)/\(PySem.W.clsIn K C).isSome=yx/\Veg K (.ref C) "__class__"=yz (yz (.builtin "object.__class__"))/\PySem.W.mroIn K C (.type "object")=yz yx/\Vfd K (.ref C) (.type "ValueError")=yz yx
 sub:∀c C c0 C0,Y9 K c=yz C->Y9 K c0=yz C0->Vfd K (.ref C) (.ref C0)=yz (c0==0||c0==c)/\((c0==0||c0==c)=yx->PySem.W.exmOne K (.ref C) (.ref C0)=yz yx)
theorem Xf6{K:Ve}{c:Nat}{C:Addr}(h:Y9 K c=yz C):c<la clsNames:=by
 unfold Y9 at h;cases q:Xbe c with
 |none=>rw[q]at h;cases h|some _=>exact Xkv q
theorem Xym{K:Ve}(h:Xt7 K=yx):ErrOk K:=by
 simp only[Xt7,bA0,beq_iff_eq,Uf,Vaf]at h;obtain⟨⟨⟨h0,h1⟩,h2⟩,U⟩:=h;refine⟨Vcf.mp h0,h1,h2,λc nm e=>?_,λc C e=>?_,λc C c0 C0 e Y=>?_⟩
 ·have:=U c (Xkv e);split at this
  ·rename_i C q;refine⟨C,q,?_⟩;unfold Y9 at q;rw[e,V1]at q;split at q;·rename_i q2;cases q;exact q2
   ·cases q
  rw[e]at this;cases this
 ·have:=U c (Xf6 e);rw[e]at this;simp only[bA0,beq_iff_eq]at this;obtain⟨⟨⟨⟨⟨⟨a1,⟨⟨a2,L⟩,B⟩⟩,a3⟩,a4⟩,a5⟩,a6⟩,_⟩:=this;exact⟨a1,⟨a2,L,B⟩,a3,a4,a5,a6⟩
 have:=U c (Xf6 e);rw[e]at this;simp only[bA0,beq_iff_eq,Uf,Vaf]at this;have z:=this.2 c0 (Xf6 Y);rw[Y]at z;simp only[bA0,beq_iff_eq,Vbi,Vat]at z;refine⟨z.1,λy=>?_⟩;rcases z.2 with J|J;·rw[y]at J;cases J
 ·exact J
end Z
end
section
namespace Z
open PySem PySem.Spec PySem.Calls PyProof.Rows L2 PySem.W Builtin Builtin.ObjectAttr Builtin.Getset_descriptor
section
variable{prog:Vy}{w:V9}{A:Uq}{E:VP}{K:Frag}{y D:Addr}
theorem Xcr(e:ExcO D y h):Looks M h (typeOf (.ref y)) (.ref D):=by obtain⟨ob,_,_,q,B,_⟩:=e;exact B▸(Looks.ld q).andThen .now
theorem Xyn {R:Result->Vc->Prop} (J:K.In s.heap) (e:ExcO D y s.heap) (B:mroIn K D (.type "object")=yz yx) (q:R (.ok (.ret (.ref D))) s):
  Vbz (Vj prog w) A (.call (.builtin "getset_descriptor.__get__") ⟨[.builtin "object.__class__",.ref y,tv],[]⟩) R s:=by
 obtain⟨Y,gn,dw,tk,os⟩:=s;have U:=Xcr (M:=Vj prog w) e;have L:=looks_mroIn (M:=Vj prog w) J B;refine Vga KF.slot_gs.plain KF.entry_gs (KF.slot_gs.check _ _ _ _ _ _ _ _ KF.type_class (KF.args_gs _ _ _) ?_);unfold Vbb.«getset_descriptor.__get__» descrGet;rw[dga_obj];refine Va (Vd ?_);unfold descrGetter descrCheckInstance descrNameAndClass isInstance;simp only[KF.owner_class]
 repeat lk
 refine⟨Vgt _ (by decide+kernel),Va8 KF.entry_class ?_⟩;unfold Vbb.«object.__class__» shownTypeOf
 repeat lk
 exact q
theorem Xt8 (B:K.In h) (h1:findIn K (.ref D) nm=yz (yz v)) (h2:specialIn K v "__get__"=yz (yz g)) (U:takesIn K v=yz yx):Looks M h (find (.ref y) (.ref D) nm) (.bind g v):=by have Y:=looks_findIn (M:=M) B h1;have J:Looks M h (getOf (yz v)) (yz g):=looks_specialIn B h2;have L:=looks_takesIn (M:=M) B U;exact Y.andThen (J.andThen ((show Looks M h (dataDescriptor? (yz v) (yz g)) (yz (g,v)) from L.andThen .now).andThen (Looks.tag .now)))
theorem Xrr (J:K.In s.heap) (e:ExcO D y s.heap) (h1:findIn K (.ref D) nm=yz (yz v)) (h2:specialIn K v "__get__"=yz (yz g)) (U:takesIn K v=yz yx)
  (z:Vf (Vj prog w) A (call g [v,.ref y,.ref D]) (λr s1=>Q (.done (.ret r)) s1) E s):
  Vf (Vj prog w) A (Vbb.«object.__getattribute__» ⟨[.ref y,.str nm tk],[]⟩) Q E s:=by
 obtain⟨Y,gn,dw,t0,os⟩:=s;have L:=Xcr (M:=Vj prog w) e;have B:=Xt8 (M:=Vj prog w) (y:=y) J h1 h2 U;unfold Vbb.«object.__getattribute__»;refine Va (Vd ?_);refine Va (Vd ?_);refine Va (L.at (Va (B.at ?_)));show Vf (Vj prog w) A (Vdo [v] (call g [v,.ref y,.ref D]) >>= ret) _ _ _;exact Va (Uw (Vo z (λr s1 q=>Vd q) λ_ _ q=>q))
theorem Xrs (B:K.In s.heap) (e:ExcO D y s.heap) (U:mroIn K D (.type "BaseException")=yz yx) (q:Q () s):
  Vf (Vj prog w) A (checkBuiltinCall "BaseException.__getattribute__" ⟨[.ref y,nv],[]⟩) Q E s:=by
 obtain⟨hp,gn,dw,t0,os⟩:=s;have J:=Xcr (M:=Vj prog w) e;have T3:=looks_mroIn (M:=Vj prog w) B U;have Y:builtinKind "BaseException.__getattribute__"=yz .slot:=by decide+kernel
 have sp:splitId "BaseException.__getattribute__"=yz ("BaseException","__getattribute__"):=by decide+kernel
 have L:=PySem.F.args_bexc_ga (.ref y) nv;simp only[checkBuiltinCall,Y,sp];unfold isInstance;refine Va (Va (J.at (T3.at ?_)));rw[iN0 (by decide)];exact wpAny_of_eq L q
theorem Xt9 (B:K.In s.heap) (e:ExcO D y s.heap) (J:findIn K (.ref D) "__getattribute__"=yz (yz (.builtin "BaseException.__getattribute__"))) (gn:findIn K (.ref D) "__getattr__"=yz yy)
  (L:mroIn K D (.type "BaseException")=yz yx) (h1:findIn K (.ref D) nm=yz (yz v)) (h2:specialIn K v "__get__"=yz (yz g)) (h3:takesIn K v=yz yx) (hh:handedIn (.ref D)=yx)
  (z:∀A':Uq,Vf (Vj prog w) A' (call g [v,.ref y,.ref D]) (λr s1=>r=.ref D/\Q (yz (.ref D)) s1) (λ_ _=>False) {s with toks:=s.toks+1}):
  Vf (Vj prog w) A (getAttr? (.ref y) nm) Q E s:=by
 obtain⟨U,gs,Y,tk,os⟩:=s;have T0:=Xcr (M:=Vj prog w) e;have T1:=looks_findIn (M:=Vj prog w) B J;have T2:=looks_findIn (M:=Vj prog w) B gn;have T3:=looks_mroIn (M:=Vj prog w) B L;unfold getAttr? getAttrBy? getAttrBy;refine Va (wpAny_mkText (Va (Vfp (Uw (Va (T0.at (Va (T1.at ?_))))))));have hno:(onTheHeap (U8 D)&&Vfr "BaseException.__getattribute__" == Vfr "object.__getattribute__")=false:=by
  have:(Vfr "BaseException.__getattribute__" == Vfr "object.__getattribute__")=false:=by decide+kernel
  rw[this,Veb]
 dsimp only;rw[iN0 (by rw[hno];exact Ui)];unfold getAttrByItsOwn hookBefore;rw[iP0 (by rfl)];refine Va (T2.at (Va (Vfp (Uw ?_))));unfold callGetattribute boundAndCalled;rw[iN0 (by simp)];have f3:=PySem.F.excAttr_ValueError.ga.bind (.ref y);rw[f3];refine Va (Vd ?_);refine wpAny_call (Vga PySem.F.excAttr_ValueError.ga.plain PySem.F.entry_bexc_ga (Xrs (s:=⟨U,gs,Y,tk+1,os⟩) B e L ?_));refine Xrr (s:=⟨U,gs,Y,tk+1,os⟩) B e h1 h2 h3 (Vo (z _) (λr s1 q=>?_) λ_ _ q=>q.elim);obtain⟨rfl,q⟩:=q;exact handed_on hh (Vd q)
theorem Xua (U:findIn K (.ref D) "__getattribute__"=yz (yz (.builtin "BaseException.__getattribute__"))) (p0:findIn K (.ref D) "__getattr__"=yz yy) (p7:mroIn K D (.type "BaseException")=yz yx) (p2:(clsIn K D).isSome=yx) (p3:findIn K (.ref D) "__class__"=yz (yz (.builtin "object.__class__")))
  (p4:specialIn K (.builtin "object.__class__") "__get__"=yz (yz (.builtin "getset_descriptor.__get__"))) (p5:takesIn K (.builtin "object.__class__")=yz yx) (p6:mroIn K D (.type "object")=yz yx):KitX K (.ref y) (.ref D) (ExcO D y) where
 ty:=λ_ _ _ e=>Xcr e
 it:=λ_ _ J _=>by
  unfold clsIn at p2;split at p2;·rename_i L;intro B Q' E' s' k q;unfold isType loadHead;exact Va (wpAny_loadPart (k _ _ (J _ _ L)) (Vd q))
  ·cases p2
 ne:=λhp tp dd its n sl J Y=>by
  refine Bool.eq_false_iff.mpr λq=>?_;have q':D=tp:=Value.ref.inj (beq_iff_eq.mp q);subst q';unfold clsIn at p2;split at p2;·rename_i L;cases (J _ _ L).symm.trans Y
  ·cases p2
 ca:=λ{prog w B E' Q' s'} J e k=>Xt9 J e U p0 p7 p3 p4 p5 rfl λA'=>wpAny_call (Xyn (s:={s' with toks:=s'.toks+1}) J e p6 ⟨rfl,k⟩)
end
end Z
end
section
namespace Z
open PySem PySem.Spec PyProof.Rows L2
noncomputable def Xbh:Ty->Option (Str×String)
 |.int=>yz ("int","int")|.bool=>yz ("bool","bool")|.str=>yz ("str","str")|.tuple=>yz ("tuple","tuple")|.list=>yz ("list","list")|.dict=>yz ("dict","dict")|_=>yy
noncomputable def Xf7:Kd->Option String
 |.non=>yz "NoneType"|.bool=>yz "bool"|.int=>yz "int"|.str=>yz "str"|.tuple=>yz "tuple"|.list=>yz "list"|.dict=>yz "dict"|.exc _=>yy
theorem Xei(h:Xbh t=yz (nm,T)):Vdg nm=yz (.type T):=by cases t<;>simp only[Xbh,Vp,Vdq,reduceCtorEq]at h<;>obtain⟨rfl,rfl⟩:=h<;>decide+kernel
theorem Xf8(h:Xbh t=yz (nm,T)):nm∈blts:=by cases t<;>simp only[Xbh,Vp,Vdq,reduceCtorEq]at h<;>obtain⟨rfl,rfl⟩:=h<;>decide
theorem Xhz(B:Xbh t=yz (nm,T))(J:Xf7 k=yz U)(h:isT k t=yz b)(K:Ve):Vfd K (.type U) (.type T)=yz b:=by cases k<;>simp only[Xf7,Vp,reduceCtorEq]at J<;>subst J<;>cases t<;>simp only[Xbh,Vp,Vdq,reduceCtorEq]at B<;>obtain⟨rfl,rfl⟩:=B<;>simp only[isT,tyQ,Vp]at h<;>subst h<;>kernel_rfl
section
variable{X:Cx}{pa:LA}{σ:L2.St}{H:Hp}{s:Vc}{ρ:LR}{S:Sto}{env:En}{a:Expr}{fa:En->Sto->R D}{pos:Pos}
theorem Xwh(I:S0 X pa σ H s ρ S env)(h:kdD S d=yz k)(B:Xf7 k=yz U)(rd:RD X.K ρ H d v)(J:RelV v u):
  ∃P:Heap->Prop,PySem.W.KitX X.K u (.type U) P/\P s.heap/\u≠.builtin "__main__.__loader__#opaque":=by
 cases d with
 |non=>cases h;cases B;simp only[RD]at rd;subst rd;cases J;exact⟨_,PySem.W.kitx_none,trivial,λz=>nomatch z⟩|bl b=>cases h;cases B;simp only[RD]at rd;subst rd;cases J;exact⟨_,PySem.W.kitx_bool,trivial,λz=>nomatch z⟩|int i=>cases h;cases B;simp only[RD]at rd;subst rd;obtain⟨t,rfl⟩:=J;exact⟨_,PySem.W.kitx_int,trivial,λz=>nomatch z⟩|str x=>cases h;cases B;simp only[RD]at rd;subst rd;obtain⟨t,rfl⟩:=J;exact⟨_,PySem.W.kitx_str,trivial,λz=>nomatch z⟩|tup xs=>cases h;cases B;simp only[RD]at rd;obtain⟨p,vs,rfl,L,_⟩:=rd;cases J;obtain⟨its,_,pl,_⟩:=I.inv.tuple L;obtain⟨o,h1,h2,_⟩:=pl;exact⟨_,PySem.W.kitx_tuple,⟨o,h1,h2⟩,λz=>nomatch z⟩|fro xs=>cases h;cases B;simp only[RD]at rd;obtain⟨p,vs,rfl,L,_⟩:=rd;cases J;obtain⟨its,_,pl,_⟩:=I.inv.list L.sq;obtain⟨o,n,h1,h2,_⟩:=pl;exact⟨_,PySem.W.kitx_list,⟨o,h1,h2⟩,λz=>nomatch z⟩|fn _ _=>cases h|ref n=>
  simp only[kdD]at h;simp only[RD]at rd;obtain⟨p,rfl,Y⟩:=rd;cases J;split at h;·rename_i xs e;cases h;cases B;obtain⟨vs,hv,_⟩:=I.sr.ob n p _ Y e;obtain⟨_,its,n',_,h1⟩:=(show ObjOk X.prog X.w H s.heap p (.lst vs) from I.inv.hok p _ hv);exact⟨_,PySem.W.kitx_list,⟨_,h1,rfl⟩,λz=>nomatch z⟩
  ·rename_i xs e;cases h;cases B;obtain⟨_,hv⟩:=(show(([]:List (LI×D))=[]/\H p=yz (.dK []))\/_ from I.sr.ob n p _ Y e).resolve_right λz=>z.1 rfl;obtain⟨_,_,vs,_,o,es,ep,h1,h2,_⟩:=(show ObjOk X.prog X.w H s.heap p (.dK []) from I.inv.hok p _ hv);exact⟨_,PySem.W.kitx_dict,⟨o,h1,h2.1⟩,λz=>nomatch z⟩
  ·cases h;cases B
  cases h
theorem Xdf (ht:Xbh t=yz (nm,T)) (hb:∀x∈blts,X.mg x=yy) (aa:Gl X "isinstance") (hg:Gl X nm) (hok:Yy nm=yx) (ha:DE X a fa) (J:Xy a=yx):
  DE X (.Call (.Name "isinstance" p0) [a,.Name nm p1] [] pos) (λenv S=>(fa env S).bind λx S=>match (kdD S x).bind λk=>Yv k [t] with|some r=>.ok (.bl r) S|none=>.bad):=by
 intro pa s σ H ρ S env I nb;dsimp only at nb ⊢;obtain⟨o1,_,o3⟩:=Xad hok;refine Vai (Yn I.inv aa (hb _ (by decide)) (u:=.builtin "isinstance") (by decide+kernel) ?_);refine Vay ?_ (Xl J) rfl;rw[Xl J];generalize hr:((fa env S).bind λx S=>match (kdD S x).bind λk=>Yv k [t] with|some r=>R.ok (D.bl r) S|none=>R.bad)=r at nb ⊢;refine Vam (ha.bind I (by rw[hr];exact nb) hr.symm (λd S1 u s1 v H1 ac e1 Y L rv rd ab=>?_) λ_ _ z=>z);refine Vam (Yn L.inv hg (hb _ (Xf8 ht)) (Xei ht) ?_ o3 o1);refine Vck ?_;cases q:(kdD S1 d).bind λk=>Yv k [t] with
 |none=>rw[q]at Y;cases Y rfl|some b=>
  obtain⟨k,q1,B⟩:=U0.mp q;have q3:isT k t=yz b:=by
   unfold Yv at B;cases e:isT k t with
   |none=>rw[e]at B;cases B|some c=>rw[e]at B;cases c<;>simp[Yv]at B<;>rw[B]
  rw[e1,q];cases hU:Xf7 k with
  |none=>cases k<;>simp only[Xf7,reduceCtorEq]at hU;cases t<;>simp only[Xbh,reduceCtorEq]at ht<;>simp only[isT,tyQ,reduceCtorEq]at q3|some U=>obtain⟨P,k1,k2,k3⟩:=Xwh L q1 hU rd rv;exact PySem.W.kia_one k1 L.inv.kIn k2 (Xhz ht hU q3 X.K) k3 λtk=>OkP.pre ab (X0 L.sr (L.inv.tok tk))
theorem Xrt (er:ErrOk X.K) (ht:(∃c,t=.cls c/\Xbe c=yz nm)\/(t=.valueError/\nm="ValueError")) (hb:∀x∈blts,X.mg x=yy) (ac:Gl X "isinstance") (hg:Gl X nm) (hok:Yy nm=yx) (ha:DE X a fa) (Y:Xy a=yx):
  DE X (.Call (.Name "isinstance" p0) [a,.Name nm p1] [] pos) (λenv S=>(fa env S).bind λx S=>match (kdD S x).bind λk=>Yv k [t] with|some r=>.ok (.bl r) S|none=>.bad):=by
 intro pa s σ H ρ S env I nb;dsimp only at nb ⊢;obtain⟨o1,_,o3⟩:=Xad hok;refine Vai (Yn I.inv ac (hb _ (by decide)) (u:=.builtin "isinstance") (by decide+kernel) ?_);refine Vay ?_ (Xl Y) rfl;rw[Xl Y];generalize hr:((fa env S).bind λx S=>match (kdD S x).bind λk=>Yv k [t] with|some r=>R.ok (D.bl r) S|none=>R.bad)=r at nb ⊢;refine Vam (ha.bind I (by rw[hr];exact nb) hr.symm (λd S1 u s1 v H1 ae e1 ab B rv rd aa=>?_) λ_ _ z=>z)
 /- the value is an error -/
 cases q:(kdD S1 d).bind λk=>Yv k [t] with
 |none=>rw[q]at ab;cases ab rfl|some b=>
  rw[e1,q];obtain⟨k,L,U⟩:=U0.mp q;have q3:isT k t=yz b:=by
   unfold Yv at U;cases e:isT k t with
   |none=>rw[e]at U;cases U|some c=>rw[e]at U;cases c<;>simp[Yv]at U<;>rw[U]
  obtain⟨J,rfl⟩:∃J,k=.exc J:=by rcases ht with⟨c,rfl,_⟩|⟨rfl,_⟩<;>cases k<;>first|exact⟨_,rfl⟩|(simp only[isT,tyQ,reduceCtorEq]at q3)
  obtain⟨n,rfl,hS⟩:∃n,d=.ref n/\S1[n]?=yz (.exc J):=by
   cases d with
   |ref n=>
    refine⟨n,rfl,?_⟩;simp only[kdD]at L;split at L;·cases L
    ·cases L
    ·rename_i c2 e;cases L;exact e
    cases L|_=>cases L
  simp only[RD]at rd;obtain⟨p,rfl,hp⟩:=rd;cases rv;obtain⟨C,hC,hH⟩:=(show ∃C,Y9 X.K J=yz C/\H1 p=yz (.ext (ExcO C p)) from B.sr.ob n p _ hp hS);obtain⟨_,⟨b1,b2,b3⟩,a3,a4,a5,a6⟩:=er.cls J C hC;have hE:ExcO C p s1.heap:=(show ObjOk X.prog X.w H1 s1.heap p (.ext (ExcO C p)) from B.inv.hok p _ hH).1;have kx:=Xua (y:=p) b1 b2 b3 a3 a4 er.gt er.tk a5;rcases ht with⟨c,rfl,hc⟩|⟨rfl,rfl⟩
  ·obtain⟨C0,h1,h2⟩:=er.at_ c nm hc;have e3:b=(c==0||c==J):=by simp only[isT,Vp]at q3;exact q3.symm
   subst e3;refine Vam (Xda B.inv hg (Vcl B.inv.mod.kin B.inv.mod.glob h2) (Vck ?_) o1);exact PySem.W.kia_one kx B.inv.kIn hE (er.sub J C c C0 hC h1).1 (λz=>nomatch z) λtk=>OkP.pre aa (X0 B.sr (B.inv.tok tk))
  have e3:b=true:=by simp only[isT,Vp]at q3;exact q3.symm
  subst e3;refine Vam (Yn B.inv hg (hb _ (by decide)) (u:=.type "ValueError") (by decide+kernel) (Vck ?_) o3 o1);exact PySem.W.kia_one kx B.inv.kIn hE a6 (λz=>nomatch z) λtk=>OkP.pre aa (X0 B.sr (B.inv.tok tk))
end
theorem Xub(I:Inv X pa σ H s):Vbq<s.heap.objs.size:=by have B:=(I.mod.glob.keeps I.bk).lt;exact V0 (show Vbq<Ub from by decide) (Vcv B)
noncomputable def prD(p:LI×D):D:=.tup [.tup (p.1.map D.int),p.2]
theorem Xjh:∀ {xs:LD} {ps:List (LI×D)},Xea xs=yz ps->xs=ps.map prD
 |[],_,h=>by cases h;rfl|x::xs,ps,h=>by
  unfold Xea at h;split at h;·rename_i e;cases e
  ·rename_i ks v r e;cases e;cases B:Xi ks with
   |none=>rw[B]at h;cases h|some k=>rw[B]at h;simp only[V5]at h;obtain⟨qs,h1,rfl⟩:=h;rw[Xjh h1,Xo3 B];rfl
  cases h
section
variable{X:Cx}{pa:LA}{σ:L2.St}{H:Hp}{s:Vc}{ρ:LR}{S S':Sto}{env:En}{E:VP}
theorem Xnw(I:Inv X pa σ H s):∀ {ps:List (LI×D)} {vs:LW} {its:LV},RDs X.K ρ H (ps.map prD) vs->Vals vs its->∃(B:List (LI×Addr×V)) (raw:List (LI×Addr×Vb)),RX B raw/\DX X.K ρ H ps B/\(la raw)=la its /\
  (∀x∈raw,(tkd X.prog X.w).is s.heap x.1 x.2.1)/\∀(i:Nat) p,raw[i]?=yz p->∃b,its[i]?=yz (.ref b)/\s.heap.IsTuple b #[.ref p.2.1,p.2.2]
 |[],vs,its,r,q=>by simp only[Vdi,RDs]at r;subst r;cases q;exact⟨[],[],.nil,.nil,rfl,λ_ z=>(nomatch z),λi p e=>by simp at e⟩|p::ps,vs,its,r,q=>by
  simp only[Uh,RDs]at r;obtain⟨v,r',rfl,r1,r2⟩:=r;cases q with
  |@cons _ u _ us q1 q2=>
   obtain⟨B,raw,h1,h2,h3,h4,h5⟩:=Xnw I r2 q2;simp only[prD,RD]at r1;obtain⟨b,ws,rfl,hs,Y⟩:=r1;cases q1;obtain⟨zs,z1,z2,_⟩:=I.tuple hs;simp only[RDs,RD]at Y;obtain⟨v1,t1,rfl,⟨kb,ks,rfl,U,L⟩,v2,t2,rfl,rd,rfl⟩:=Y;rw[L.ints_of]at U;cases z1 with
   |@cons _ u1 _ aa y1 y2=>
    cases y2 with
    |@cons _ u2 _ ab y3 y4=>
     cases y4;cases y1;refine⟨(p.1,kb,v2)::B,(p.1,kb,u2)::raw,.cons ⟨rfl,rfl,y3⟩ h1,.cons ⟨rfl,U,rd⟩ h2,by simp[h3],λx J=>?_,λi pp e=>?_⟩
     ·rcases Vt.mp J with z|J;·rw[z];exact Xe1 I U
      ·exact h4 x J
     cases i with
     |zero=>cases e;exact⟨b,rfl,z2⟩|succ i=>exact h5 i pp (by simpa using e)
theorem Xnx:∀ {ps:List (LI×D)} {B:List (LI×Addr×V)} {kvs:List (LI×D)} {a:List (LI×Addr×V)},DX X.K ρ H ps B->DX X.K ρ H kvs a->DX X.K ρ H (ps.foldl (λkvs p=>Xai kvs p.1 p.2) kvs) (B.foldl (λa q=>Xec a q.1 q.2.1 q.2.2) a)
 |_,_,_,_,.nil,h=>h|_,_,_,_,.cons (a:=p) (b:=q) r t,h=>by rw[Vbx,Vbx];have z:=X1m h r.2.1 r.2.2;rw[r.1]at z ⊢;exact Xnx t z
theorem Xny:∀ {B:List (LI×Addr×V)} {raw:List (LI×Addr×Vb)} {a:List (LI×Addr×V)} {b:List (LI×Addr×Vb)},RX B raw->RX a b->RX (B.foldl (λa q=>Xec a q.1 q.2.1 q.2.2) a) (raw.foldl Xa7 b)
 |_,_,_,_,.nil,h=>h|_,_,_,_,.cons (a:=p) (b:=q) r t,h=>by rw[Vbx,Vbx];have z:=X1n (k:=p.1) (b:=p.2.1) h r.2.2;refine Xny t ?_;unfold Xa7;rw[<-r.1,<-r.2.1];exact z
theorem Xru:∀(ps kvs:List (LI×D)),ps≠[]\/kvs≠[]->ps.foldl (λkvs p=>Xai kvs p.1 p.2) kvs≠[]
 |[],kvs,h=>by rcases h with h|h;cases h rfl;exact h
 |p::ps,kvs,_=>Xru ps _ (.inr Xtb)
theorem X50 {a:Expr} {f:En->Sto->R D} {p0 pos:Pos} (hu:X.A.units+200<Vbe) (hc:X.calm=yx) (hg:Gl X "dict") (hm:X.mg "dict"=yy) (ha:DE X a f) (hs:V7 [a] X.env=(yw,eval a X.env)::V7 [] X.env):
  DE X (.Call (.Name "dict" p0) [a] [] pos) (λenv S=>(f env S).bind λx S=>Xku x S):=by
 intro pa s σ H ρ S env I nb;dsimp only at nb ⊢;refine Vai (Yn I.inv hg hm (u:=.type "dict") (by decide+kernel) (Vaj (Vbk ?_ hs) hs rfl) (by decide) rfl);refine ha.bind I nb rfl (λd S1 u L v H1 Y e1 B U rv rd ah=>Vbl ?_) λ_ _ z=>z;rw[e1];cases d with
 |ref n=>
  simp only[Xku]at B ⊢;cases e:Xa S1 n with
  |none=>rw[e]at B;cases B rfl|some xs=>
   rw[e]at B;simp only[V1]at B ⊢;cases e2:Xea xs with
   |none=>rw[e2]at B;cases B rfl|some ps=>
    rw[e2]at B;dsimp only at B ⊢;split at B
    ·rename_i hz;rw[iP0 hz];have q:=Xjh e2;subst q;obtain⟨b,ws,rfl,_,hv,hr⟩:=U.lstR e rd;obtain⟨hle,its,c,ac,eo⟩:=(show ObjOk X.prog X.w H1 L.heap b (.lst ws) from U.inv.hok b _ hv);cases rv;obtain⟨xv,aa,h1,h2,h3,h4,h5⟩:=Xnw U.inv hr ac;have ln:(la its)=la ps:=by rw[<-ac.length,<-hr.length,Vn]
     refine Xo8 (s:=L) (items:=its.toArray) (raw:=aa) (by omega) (U.inv.ok.hd hc) eo (by simpa using h3) (by rw[Vk,ln];exact hz) h4 (λi p hp=>by obtain⟨b,z1,z2⟩:=h5 i p hp;exact⟨b,by simpa using z1,z2⟩) λh' tk D kp=>OkP.pre ah ?_;have hp:H1 L.heap.objs.size=none:=U.inv.hok.fresh (Vl _);have hb:=Xub U.inv;have nm:(L.heap.objs.size==Vbq)=false:=beq_eq_false_iff_ne.mpr (λz=>by rw[z]at hb;exact aB0 hb (Vb5 _));obtain⟨o,es,ep,ho,hx,hd,he,ai⟩:=D;have ab:∀u:HO,ObjOk X.prog X.w (upd H1 L.heap.objs.size u) h' L.heap.objs.size u->OR X.K (Y++[L.heap.objs.size]) (upd H1 L.heap.objs.size u) L.heap.objs.size (.dct (ps.foldl (λkvs p=>Xai kvs p.1 p.2) [])) ->
       OkP X pa σ Y H1 (.ok (.ref (la S1)) (S1++[.dct (ps.foldl (λkvs p=>Xai kvs p.1 p.2) [])])) (.ref L.heap.objs.size) {L with heap:=h',toks:=tk}:=λu new ae=>by
      have J:=U.inv.laid (t':=tk) kp (Vl _) new;refine .mk (v:=.ref L.heap.objs.size) (ρ':=Y++[L.heap.objs.size]) (Stp.new1 hp) J rfl ?_ (U.sr.new1 hp ae);simp only[RD];exact⟨_,rfl,by rw[<-U.sr.len];simp⟩
     have rx:=Xny h1 (a:=[]) (b:=[]) .nil;have dx:=Xnx (kvs:=[]) (a:=[]) h2 .nil;cases ps with
     |nil=>cases h2;cases h1;refine ab (.dK []) ⟨Ug _,nm,[],.nil,o,es,ep,ho,hx,hd,?_⟩ (.inl ⟨rfl,Xm⟩);have af:es=#[]:=Array.toList_inj.mp (he X.prog X.w);subst af;exact⟨λx hx=>by simp at hx,.nil,Vfc⟩|cons p ps=>
      have lx:(xv.foldl (λa q=>Xec a q.1 q.2.1 q.2.2) []).length<=Vu:=by rw[Paired.length rx];refine Ul (Xf2 aa []) ?_;rw[h3,ln,Vbp];show 0+_<=_;omega
      refine ab (.ext (DicO L.heap.objs.size (xv.foldl (λa q=>Xec a q.1 q.2.1 q.2.2) []))) (DicO.ok ⟨o,ho,nm,lx,hx,_,es,ep,rx,hd,λP w=>he P w,ai⟩) (.inr ⟨Xru _ _ (.inl (by simp)),_,Xm,dx.mono (Stp.new1 hp).toMon⟩)
    cases B rfl
 |_=>cases B rfl
theorem X51(Y:X.A.units+1<Vbe):Op2 X (Van (opC .isin)) Xhk:=by
 intro pa s σ H ρ S env x y v u v' u' E I B U rv ry ru;unfold Xhk at B ⊢;cases y with
 |ref n=>
  cases x with
  |tup ks=>
   dsimp only at B ⊢;cases J:Xbr S n with
   |none=>rw[J]at B;cases B rfl|some kvs=>
    rw[J]at B;dsimp only at B ⊢;cases L:Xi ks with
    |none=>rw[L]at B;cases B rfl|some r=>exact X2a Y I J L U rv ry ru
  |_=>cases B rfl
 |_=>cases B rfl
theorem X3a(x y:D)(S:Sto)(d:D)(S':Sto)(h:Xhk x y S=.ok d S'):∃r,d=.bl r:=by
 unfold Xhk at h
 repeat' split at h
 all_goals first|(cases h;exact⟨_,rfl⟩)|cases h
end
theorem Xe5(n d:Nat)(o:Option Int):Xfw n d o=HT.sIx n d o:=by
 cases o with
 |none=>rfl|some i=>
  simp only[Xfw,HT.sIx];by_cases h:i<0;·rw[iP0 h,iN0 (by omega)]
  ·rw[iN0 h,iP0 (by omega)]
theorem Xrv{K:Ve}{ρ:LR}{H:Hp}{xs:LD}{vs:LW}(h:RDs K ρ H xs vs)(lo hi:Option Int):RDs K ρ H (cut xs lo hi) (Xhg vs lo hi):=by unfold cut Xhg;rw[Xe5,Xe5,h.length];exact(h.drop _).take _
section
variable{prog:Vy}{w:V9}{A:Uq}{E:VP}{s:Vc}
theorem Xmn{items:AV}{lo hi:Option Int}{Q:VP}(B:Vc0 s.heap t items)(hs:s.heap.IsSliceOf sl vl vu .none)(pl:Vea vl lo)(pu:Vea vu hi)
  (h1:HT.sIx items.size 0 lo=0) (h2:HT.sIx items.size items.size hi=items.size) (h:Q (.ref t) s):Vf (Vj prog w) A (getItem (.ref t) (.ref sl)) Q E s:=by
 obtain⟨os,U,L,Y⟩:=id hs;have J:s.TypeIs (.ref sl) "slice" := ⟨os,U,L⟩;unfold getItem
 try with_reducible refine Uw ?_
 first|refine Va (Vd ?_)|skip
 refine Va (Vg0 B.typeIs (by decide) (Va (Vba (name:=U5 "__getitem__") B.typeIs Vav (Vaq Vav B.typeIs Vgg ?_ (Vgp _ _)))));show Vf _ _ (Vem (.ref t) >>= _) _ _ s;refine Va (tupleItemsOf_ B (Va (Vbm J ?_)));rw[iP0 (by decide)];refine Va (HT.sliceApplied_gen hs pl pu ?_);show Vf _ _ (if (((HT.sIx items.size 0 lo:Nat):Int)==0&&(1:Int)==1&&(HT.sIx items.size items.size hi-HT.sIx items.size 0 lo)==items.size)=yx then _ else _) _ _ s;rw[h1,h2,iP0 (by simp)];refine Va ?_;unfold Builtin.Tuple.tupleIsExact;refine Va (Vbm B.typeIs (Vd ?_));rw[iP0 (by decide)];exact Va (Vde (Vd ⟨_,rfl,Vd h⟩))
end
def Xjy(K:Ve)(ρ:LR)(H:Hp)(o:Option D)(u:Vb):Prop:=match o with
 |none=>u=.none|some d=>∃v,RelV v u/\RD K ρ H d v
def DO(X:Cx)(e:Option Expr)(f:En->Sto->R (Option D)):Prop:=
 ∀(pa:LA) (s:Vc) (σ:L2.St) (H:Hp) (ρ:LR) (S:Sto) (env:En),S0 X pa σ H s ρ S env->f env S≠.bad ->
  Vf (Vj X.prog X.w) X.A (evalPart e X.env) (λu s'=>∃o S',f env S=.ok o S'/\∃H' ρ',Inv X pa σ H' s'/\SR X.K ρ' S' H'/\Stp X.K ρ ρ' H H'/\Xjy X.K ρ' H' o u) (ExP X pa σ ρ H (f env S)) s
section
variable{X:Cx}{pa:LA}{σ:L2.St}{H:Hp}{s:Vc}{ρ:LR}{S:Sto}{env:En}{a:Expr}{fa:En->Sto->R D}{pos p2:Pos}
theorem Xnz:DO X yy (λ_ S=>.ok yy S):=by intro pa s σ H ρ S env I B;rw[evalPart_none];exact Vd ⟨yy,S,rfl,H,ρ,I.inv,I.sr,.refl,rfl⟩
theorem Xn0(h:DE X a fa):DO X (yz a) (λenv S=>(fa env S).bind λx S=>.ok (yz x) S):=by intro pa s σ H ρ S env I L;dsimp only at L ⊢;rw[evalPart_some];refine h.bind I L rfl (λd S1 u s1 v H1 B Y aa U rv rd J=>?_) λ_ _ z=>z;exact⟨yz d,S1,Y,H1,B,U.inv,U.sr,J,v,rv,rd⟩
theorem DO.bind{α:Type}{e:Option Expr}{f:En->Sto->R (Option D)}(h:DO X e f)(I:S0 X pa σ H s ρ S env){k:Option D->Sto->R α}{r:R α}{Q:VP}{E:VP}(L:(f env S).bind k≠.bad)(B:r=(f env S).bind k)
  (hQ:∀o S1 u s' H' ρ',r=k o S1->k o S1≠.bad->S0 X pa σ H' s' ρ' S1 env->Xjy X.K ρ' H' o u->Stp X.K ρ ρ' H H'->Q u s') (Y:∀x s',ExP X pa σ ρ H r x s'->E x s'):Vf (Vj X.prog X.w) X.A (evalPart e X.env) Q E s:=by
 cases q:f env S with
 |bad=>rw[q]at L;cases L rfl|ex n S1=>
  rw[q]at B;refine Vo (h pa s σ H ρ S env I (by rw[q];exact λz=>nomatch z)) (λu s' z=>?_) λx s' z=>?_;·obtain⟨o,S2,e,_⟩:=z;rw[q]at e;cases e
  ·obtain⟨m,S2,e,z⟩:=z;rw[q]at e;cases e;exact Y x s' ⟨n,S1,B,z⟩|ok o S1=>
  rw[q]at B L;refine Vo (h pa s σ H ρ S env I (by rw[q];exact λz=>nomatch z)) (λu s' z=>?_) λx s' z=>?_;·obtain⟨o',S2,e,H',ρ',J,sr,st,U⟩:=z;rw[q]at e;cases e;exact hQ o S1 u s' H' ρ' B L (I.step J sr st) U st
  ·obtain⟨m,S2,e,z⟩:=z;rw[q]at e;cases e
theorem Xe6{K:Ve}{o:Option D}{u:Vb}{B:Option Int}(h:Xjy K ρ H o u)(e:Xcn o=yz B):Vea u B:=by
 cases o with
 |none=>have J:yz yy=yz B:=e;cases J;have h':u=.none:=h;subst h';exact .none|some d=>
  cases d with
  |int i=>have J:yz (yz i)=yz B:=e;cases J;obtain⟨v,L,rd⟩:=h;simp only[RD]at rd;subst rd;obtain⟨t,rfl⟩:=L;exact .int i t|_=>cases e
theorem Xwi{lo hi:Option Expr}{fl fh:En->Sto->R (Option D)}(ha:DE X a fa)(hl:DO X lo fl)(hh:DO X hi fh):
  DE X (.Subscript a (.Slice lo hi yy p2) pos) (λenv S=>(fa env S).bind λx S=>(fl env S).bind λl S=>(fh env S).bind λh S=>match Xcn l,Xcn h with
   |some l,yz h=>Xbm x l h S
   |_,_=>.bad):=by
 intro pa s σ H ρ S env I nb;dsimp only at nb ⊢;refine Subscript_ (ha.bind I nb rfl (λd S1 u s1 v H1 ak e1 aj I1 rv rd ac=>?_) λ_ _ z=>z);rw[e1];refine wpAny_Slice (hl.bind I1 aj rfl (λl S2 vl s2 H2 al e2 ai I2 pl aa=>?_) λx s' z=>z.pre ac);rw[e2];refine hh.bind I2 ai rfl (λh S3 vu s3 H3 ah e3 Y I3 pu ae=>?_) λx s' z=>(z.pre aa).pre ac;rw[e3];cases q1:Xcn l with
 |none=>rw[q1]at Y;cases Y rfl|some U=>
  cases q2:Xcn h with
  |none=>rw[q1,q2]at Y;cases Y rfl|some B=>
   rw[q1,q2]at Y;dsimp only at Y ⊢;rw[evalPart_none];refine Vd ?_;have P1:=Xe6 pl q1;have P2:=Xe6 pu q2;have ab:=(rd.mono aa).mono ae;have J:Inv X pa σ H3 {s3 with heap:=s3.heap.push {cls:=.type "slice",data:=.fields #[vl,vu,.none]} }:=I3.inv.kept (t':=s3.toks) λb ob q=>Vg _ q;have af:∀ {T id:String},typeLookup (.type T) "__getitem__"=pure (yz (.builtin id))->({s3 with heap:=s3.heap.push {cls:=.type "slice",data:=.fields #[vl,vu,.none]} }:Vc).TypeIs u T ->
     Vf (Vj X.prog X.w) X.A (getItem u (.ref s3.heap.objs.size)) (OkP X pa σ ah H3 (Xbm d U B S3)) (ExP X pa σ ah H3 (Xbm d U B S3)) {s3 with heap:=s3.heap.push {cls:=.type "slice",data:=.fields #[vl,vu,.none]} } ->
     Vf (Vj X.prog X.w) X.A (Ven a (.Slice lo hi yy p2) u (.ref s3.heap.objs.size)) (OkP X pa σ ρ H (Xbm d U B S3)) (ExP X pa σ ρ H (Xbm d U B S3)) {s3 with heap:=s3.heap.push {cls:=.type "slice",data:=.fields #[vl,vu,.none]} }:=λt1 t2 g=>
    tail_any (ops:=[.ref s3.heap.objs.size,u]) t2 t1 (Vo g (λ_ _ z=>OkP.pre ((ac.trans aa).trans ae) z) λ_ _ z=>ExP.pre ((ac.trans aa).trans ae) z) (by with_unfolding_all rfl)
   cases d with
   |tup xs=>
    simp only[RD]at ab;obtain⟨p,vs,rfl,hq,hr⟩:=ab;cases rv;obtain⟨its,r,ht,hz⟩:=J.tuple hq;have L:its.toArray.size=la vs:=by rw[Vk];exact r.length.symm
    refine af PyProof.Rows.slot_tuple_getitem.lookup ht.typeIs ?_;by_cases hw:HT.sIx (la vs) 0 U=0/\HT.sIx (la vs) (la vs) B=la vs
    ·refine Xmn ht (Ve8 ..) P1 P2 (by rw[L];exact hw.1) (by rw[L];exact hw.2) ?_;have e:cut xs U B=xs:=by
      unfold cut;rw[Xe5,Xe5,hr.length,hw.1,hw.2,List.drop_zero,Vf4,<-hr.length,Vca]
     refine .mk (v:=.ref p) .refl J rfl ?_ I3.sr;rw[e];simp only[RD];exact⟨p,vs,rfl,hq,hr⟩
    refine HT.getItem_tuple_cut ht (Ve8 ..) P1 P2 (by rw[L];exact hw) ?_ (by rw[L];exact hz);rw[L];refine Xcc (vs:=Xhg vs U B) (J.laid (t':=s3.toks) (λb ob q=>Vg _ q) (Vl _) ?_) (J.hok.fresh (Vl _)) I3.sr (Xrv hr U B);exact⟨Ul (Xfl vs U B) hz,_,(r.drop (HT.sIx (la vs) 0 U)).take (HT.sIx (la vs) (la vs) B-HT.sIx (la vs) 0 U),⟨_,Vq _ rfl,rfl,_,rfl⟩⟩|ref n=>
    cases e4:Xa S3 n with
    |none=>simp[Xbm,e4]at Y|some xs=>
     obtain⟨b,vs,k1,k2,k3⟩:=I3.list e4;simp only[RD]at ab;obtain⟨b',rfl,k4⟩:=ab;rw[k1]at k4;cases k4;cases rv;obtain⟨its,r,ht,hz⟩:=J.list (.of k2);have L:=r.length;refine af slot_list_getitem.lookup ht.isList.typeIs ?_;refine wpAny_getItem_list_slice ht.isList (Ve8 ..) P1 P2 .none (by simp) ?_ (by rw[Vk]<;>omega);rw[Xjn,<-L];have e5:Xbm (.ref n) U B S3=.ok (.ref S3.length) (S3++[.lst (cut xs U B)]):=by simp only[Xbm,e4]
     rw[e5];refine Xba (vs:=Xhg vs U B) (J.laid (t':=s3.toks) (λb ob q=>Vg _ q) (Vl _) ?_) (J.hok.fresh (Vl _)) I3.sr (Xrv k3 U B);exact⟨Ul (Xfl vs U B) hz,_,0,(r.drop (HT.sIx (la vs) 0 U)).take (HT.sIx (la vs) (la vs) B-HT.sIx (la vs) 0 U),Vq _ rfl⟩
   |_=>cases Y rfl
end
theorem Xyo{K:Ve}{k:Kd}{t1 t2:Ty}{n1 n2:Str}{L Y U:String}{b:Bool}(h1:Xbh t1=yz (n1,L))(h2:Xbh t2=yz (n2,Y))(hk:Xf7 k=yz U)(h:Yv k [t1,t2]=yz b):
  PySem.W.kitAny K (.type U) [.type L,.type Y]=yz b:=by
 simp only[Yv]at h;unfold PySem.W.kitAny;cases J:isT k t1 with
 |none=>rw[J]at h;cases h|some c1=>
  rw[J]at h;rw[Xhz h1 hk J K];cases c1 with
  |true=>cases h;rfl|false=>
   dsimp only at h ⊢;unfold PySem.W.kitAny;cases B:isT k t2 with
   |none=>rw[B]at h;cases h|some c2=>
    rw[B]at h;rw[Xhz h2 hk B K];cases c2 with
    |true=>cases h;rfl|false=>cases h;rfl
section
variable{X:Cx}{pa:LA}{σ:L2.St}{H:Hp}{s:Vc}{ρ:LR}{S:Sto}{env:En}{a:Expr}{fa:En->Sto->R D}{pos:Pos}
theorem X3b (h1:Xbh t1=yz (n1,T1)) (h2:Xbh t2=yz (n2,T2)) (hb:∀x∈blts,X.mg x=yy) (ab:Gl X "isinstance") (g1:Gl X n1) (g2:Gl X n2) (o1:Yy n1=yx) (o2:Yy n2=yx) (ha:DE X a fa) (Y:Xy a=yx):
  DE X (.Call (.Name "isinstance" p0) [a,.Tuple [.Name n1 q1,.Name n2 q2] k3 p3] [] pos) (λenv S=>(fa env S).bind λx S=>match (kdD S x).bind λk=>Yv k [t1,t2] with|some r=>.ok (.bl r) S|none=>.bad):=by
 intro pa s σ H ρ S env I nb;dsimp only at nb ⊢;obtain⟨a1,_,a3⟩:=Xad o1;obtain⟨b1,_,b3⟩:=Xad o2;refine Vai (Yn I.inv ab (hb _ (by decide)) (u:=.builtin "isinstance") (by decide+kernel) ?_);refine Vay ?_ (Xl Y) rfl;rw[Xl Y];generalize hr:((fa env S).bind λx S=>match (kdD S x).bind λk=>Yv k [t1,t2] with|some r=>R.ok (D.bl r) S|none=>R.bad)=r at nb ⊢;refine Vam (ha.bind I (by rw[hr];exact nb) hr.symm (λd S1 u L v H1 ac e1 aa B rv rd ae=>?_) λ_ _ z=>z);refine Vam (wpAny_Tuple_spliced (x1:=k3) (Vam (Yn B.inv g1 (hb _ (Xf8 h1)) (Xei h1) (Vam (Yn B.inv g2 (hb _ (Xf8 h2)) (Xei h2) (Vck ⟨by show 2<=Vu;decide,?_⟩) b3 b1)) a3 a1)));refine Vck ?_;cases q:(kdD S1 d).bind λk=>Yv k [t1,t2] with
 |none=>rw[q]at aa;cases aa rfl|some b=>
  obtain⟨k,k1,k2⟩:=U0.mp q;rw[e1,q];have J:Inv X pa σ H1 {L with heap:=L.heap.push {cls:=.type "tuple",data:=.seq #[.type T1,.type T2]} }:=B.inv.kept (t':=L.toks) λb ob q=>Vg _ q;have I2:S0 X pa σ H1 {L with heap:=L.heap.push {cls:=.type "tuple",data:=.seq #[.type T1,.type T2]} } ac S1 env:=⟨J,B.sr,B.er⟩;cases hU:Xf7 k with
  |none=>
   cases k with
   |exc c=>
    simp only[Yv]at k2;have z:isT (.exc c) t1=none:=by cases t1<;>simp only[Xbh,reduceCtorEq]at h1<;>rfl
    rw[z]at k2;cases k2|_=>cases hU
  |some U=>obtain⟨P,z1,z2,z3⟩:=Xwh I2 k1 hU rd rv;exact PySem.W.kia_tup (its:=[.type T1,.type T2]) z1 J.kIn z2 (Vq _ rfl) (Xyo h1 h2 hU k2) z3 λtk=>OkP.pre ae (X0 B.sr (J.tok tk))
end
end Z
end
section
namespace Z
open PySem PySem.Spec PyProof.Rows L2
open Builtin.Slice (sliceAdjust slicePlaces)
noncomputable def Xpj{α:Type}(lo c:Int)(n:Nat)(xs:List α):List α:=(Vm n).filterMap λ(k:Nat)=>xs[(lo+(k:Int)*c).toNat]?
noncomputable def Xaw{α:Type}(xs:List α)(l:Option Int)(c:Int):List α:=Xpj (sliceAdjust l yy c (la xs)).1 c (slicePlaces (sliceAdjust l yy c (la xs)).1 (sliceAdjust l yy c (la xs)).2 c) xs
theorem Xpk{K:Ve}{ρ:LR}{H:Hp}{xs:LD}{vs:LW}(h:RDs K ρ H xs vs)(B:Nat->Nat):∀ks:LN,RDs K ρ H (ks.filterMap λk=>xs[B k]?) (ks.filterMap λk=>vs[B k]?)
 |[]=>.nil|k::ks=>by
  cases e:xs[B k]? with
  |none=>have J:=h.none e;simp only[Uj,e,J];exact Xpk h B ks|some d=>obtain⟨v,J,r⟩:=h.get e;simp only[Uj,e,J];exact .cons r (Xpk h B ks)
theorem Xh0{xs:LW}{us:LV}(h:Vals xs us)(B:Nat->Nat):∀ks:LN,Vals (ks.filterMap λk=>xs[B k]?) (ks.filterMap λk=>us[B k]?)
 |[]=>.nil|k::ks=>by
  cases e:xs[B k]? with
  |none=>
   have J:us[B k]?=none:=by rw[Uu]at e ⊢;rw[<-h.length];exact e
   simp only[Uj,e,J];exact Xh0 h B ks|some d=>obtain⟨v,J,r⟩:=h.get e;simp only[Uj,e,J];exact .cons r (Xh0 h B ks)
theorem X3c{K:Ve}{ρ:LR}{H:Hp}{xs:LD}{vs:LW}(h:RDs K ρ H xs vs)(l:Option Int)(c:Int):RDs K ρ H (Xaw xs l c) (Xaw vs l c):=by unfold Xaw;rw[h.length];exact Xpk h _ _
theorem Xuc(h:Vals xs us)(l:Option Int)(c:Int):Vals (Xaw xs l c) (Xaw us l c):=by unfold Xaw;rw[h.length];exact Xh0 h _ _
theorem Xrw{lo hi c:Int}{n:Nat}(B:c<0)(h1:lo<=(n:Int)-1)(h2:-1<=hi):slicePlaces lo hi c<=n:=by
 unfold slicePlaces;rw[iN0 (by omega)];split;·have:(lo-hi-1)/(-c)<=lo-hi-1:=Int.ediv_le_self _ (by omega);omega
 ·simp
theorem Xrx{l:Option Int}{c:Int}{n:Nat}(B:c<0):(sliceAdjust l yy c n).1<=(n:Int)-1/\(sliceAdjust l yy c n).2 = -1:=by
 unfold sliceAdjust;simp only[B,if_true,and_true];cases l with
 |none=>exact Int.le_refl _|some v=>dsimp only;split<;>omega
theorem Xn1{α:Type}(xs:List α){l:Option Int}{c:Int}(B:c<0):(Xaw xs l c).length<=la xs:=by unfold Xaw Xpj;refine Ul (List.length_filterMap_le _ _) ?_;rw[Us];exact Xrw B (Xrx B).1 (by rw[(Xrx B).2];omega)
section
variable{prog:Vy}{w:V9}{A:Uq}{E:VP}{s:Vc}
theorem Xlo{lo:Option Int}{c:Int}{n:Nat}{Q:Int×Int×Nat->Vc->Prop}(U:c<0)(hs:s.heap.IsSliceOf sl vl .none vs)(pl:Vea vl lo)(ps:Vea vs (yz c))
  (h:Q ((sliceAdjust lo yy c n).1,c,slicePlaces (sliceAdjust lo yy c n).1 (sliceAdjust lo yy c n).2 c) s):Vf (Vj prog w) A (Vc4 (.ref sl) (pure (n:Int))) Q E s:=by
 obtain⟨os,B,L,J⟩:=id hs;unfold Vc4 Vg6;refine Va (Va (Vac B J (x:=vl) rfl (Va (Vac B J (x:=.none) rfl (Va (Vac B J (x:=vs) rfl (Vd ?_)))))));refine Va (HT.slicePart_ ps ?_);show Vf _ _ (if (c==0)=yx then _ else _) _ _ s;rw[iN0 (by simp;omega)];refine Va (HT.slicePart_ pl (Va (HT.slicePart_ .none (Va (Vd ?_)))));exact Vd h
theorem Xpl{its:LV}{lo:Option Int}{c:Int}{Q:VP}(hc:c<0)(J:Vc0 s.heap t its.toArray)(hs:s.heap.IsSliceOf sl vl .none vs)(pl:Vea vl lo)(ps:Vea vs (yz c))
  (h:Q (.ref s.heap.objs.size) {s with heap:=s.heap.push {cls:=.type "tuple",data:=.seq (Xaw its lo c).toArray} }) (hsz:(la its)<=Vu):Vf (Vj prog w) A (getItem (.ref t) (.ref sl)) Q E s:=by
 have B:sizeOk (.seq (Xaw its lo c).toArray):=by show(Xaw its lo c).toArray.size<=Vu;rw[Vk];exact Ul (Xn1 its hc) hsz
 obtain⟨os,Y,U,aa⟩:=id hs;have L:s.TypeIs (.ref sl) "slice" := ⟨os,Y,U⟩;unfold getItem
 try with_reducible refine Uw ?_
 first|refine Va (Vd ?_)|skip
 refine Va (Vg0 J.typeIs (by decide) (Va (Vba (name:=U5 "__getitem__") J.typeIs Vav (Vaq Vav J.typeIs Vgg ?_ (Vgp _ _)))));show Vf _ _ (Vem (.ref t) >>= _) _ _ s;refine Va (tupleItemsOf_ J (Va (Vbm L ?_)));rw[iP0 (by decide),Vk];refine Va (Xlo hc hs pl ps ?_);show Vf _ _ (if ((sliceAdjust lo yy c (la its)).1==0&&c==1&&slicePlaces (sliceAdjust lo yy c (la its)).1 (sliceAdjust lo yy c (la its)).2 c==la its)=yx then _ else _) _ _ s;have hn:(c==1)=false:=by simp;omega
 rw[iN0 (by rw[hn];simp)];have e:((Vm (slicePlaces (sliceAdjust lo yy c (la its)).1 (sliceAdjust lo yy c (la its)).2 c)).filterMap λ(k:Nat)=>its.toArray[((sliceAdjust lo yy c (la its)).1+(k:Int)*c).toNat]?)=Xaw its lo c:=by unfold Xaw Xpj;simp
 rw[e]
 first
  |exact Va (m:=Vbn _) (Va2 (Vd ⟨_,rfl,Vd h⟩) B)|exact Va (Va (m:=Vbn _) (Va2 (Vd ⟨_,rfl,Vd h⟩) B))
end
theorem Xlp{α β:Type}{f g:α->Option β}:∀ {l:List α},(∀x∈l,f x=g x)->l.filterMap f=l.filterMap g
 |[],_=>rfl|x::l,h=>by rw[Uj,Uj,h x (by simp),Xlp λy B=>h y (by simp[B])]
theorem Xyp{α:Type}(xs:List α):Xaw xs yy (-1)=xs.reverse:=by
 unfold Xaw Xpj;have J:(sliceAdjust yy yy (-1) (la xs:Int))=((la xs:Int)-1,-1):=rfl;rw[J];have L:slicePlaces ((la xs:Int)-1) (-1) (-1)=la xs:=by
  unfold slicePlaces;rw[iN0 (by decide)];split;·simp
  ·omega
 dsimp only;rw[L];have:∀(n:Nat) (ys:List α),la ys=n->(Vm n).filterMap (λk=>ys[k]?)=ys:=by
  intro n;induction n with
  |zero=>intro ys h;rw[Vgf h];rfl|succ n ih=>
   intro ys h;cases ys with
   |nil=>cases h|cons y ys=>rw[Vfo,Uj,List.filterMap_map];simp only[gZ0];congr 1;exact ih ys (by simpa using h)
 rw[<-this (la xs) xs.reverse (by simp)];refine Xlp λk B=>?_;have B:=Vaf.mp B;rw[List.getElem?_reverse B];congr 1;omega
noncomputable def Xc8(l:Option Int)(c:Int)(x:D)(S:Sto):R D:=
 match x with
 |.tup xs=>.ok (.tup (Xaw xs l c)) S|_=>.bad
theorem Xlq(x:D)(S:Sto):Xc8 yy (-1) x S=Xs7 x S:=by cases x<;>simp only[Xc8,Xs7,Xyp]<;>rfl
section
variable{X:Cx}{pa:LA}{σ:L2.St}{H:Hp}{s:Vc}{ρ:LR}{S:Sto}{env:En}{a:Expr}{fa:En->Sto->R D}{pos p2:Pos}
theorem X52{lo:Option Expr}{st:Expr}{l:Option Int}{c:Int}(hc:c<0)(ha:DE X a fa)(hl:DO X lo (λ_ S=>.ok (l.map D.int) S))(hh:DO X (yz st) (λ_ S=>.ok (yz (.int c)) S)):
  DE X (.Subscript a (.Slice lo yy (yz st) p2) pos) (λenv S=>(fa env S).bind λx S=>Xc8 l c x S):=by
 intro pa s σ H ρ S env I nb;dsimp only at nb ⊢;refine Subscript_ (ha.bind I nb rfl (λd S1 u s1 v H1 ai e1 af I1 rv rd ab=>?_) λ_ _ z=>z);rw[e1];have cst:∀ {e:Option Expr} {o:Option D} {s2:Vc} {H2:Hp} {Y:LR} {Q:VP} {E:VP},DO X e (λ_ S=>.ok o S)->S0 X pa σ H2 s2 Y S1 env->(∀u s' H' ρ',S0 X pa σ H' s' ρ' S1 env->Xjy X.K ρ' H' o u->Stp X.K Y ρ' H2 H'->Q u s') ->
   Vf (Vj X.prog X.w) X.A (evalPart e X.env) Q E s2:=λhe I2 hQ=>by
  refine Vo (he pa _ σ _ _ S1 env I2 (λz=>nomatch z)) (λu s' z=>?_) λx s' z=>?_;·obtain⟨o',S2,e,H',ρ',J,sr,st,pr⟩:=z;cases e;exact hQ u s' H' ρ' (I2.step J sr st) pr st
  ·obtain⟨_,_,e,_⟩:=z;cases e
 refine wpAny_Slice (cst hl I1 λvl s2 H2 Y I2 pl U=>?_);rw[evalPart_none];refine Vd ?_;refine cst hh I2 λvs B H3 ac I3 ps L=>?_;have P1:Vea vl l:=Xe6 pl (by cases l<;>rfl);have P2:Vea vs (yz c):=Xe6 ps rfl;have aa:=(rd.mono U).mono L;have J:Inv X pa σ H3 {B with heap:=B.heap.push {cls:=.type "slice",data:=.fields #[vl,.none,vs]} }:=I3.inv.kept (t':=B.toks) λb ob q=>Vg _ q;have ae:∀ {T id:String},typeLookup (.type T) "__getitem__"=pure (yz (.builtin id))->({B with heap:=B.heap.push {cls:=.type "slice",data:=.fields #[vl,.none,vs]} }:Vc).TypeIs u T ->
   Vf (Vj X.prog X.w) X.A (getItem u (.ref B.heap.objs.size)) (OkP X pa σ ac H3 (Xc8 l c d S1)) (ExP X pa σ ac H3 (Xc8 l c d S1)) {B with heap:=B.heap.push {cls:=.type "slice",data:=.fields #[vl,.none,vs]} } ->
   Vf (Vj X.prog X.w) X.A (Ven a (.Slice lo yy (yz st) p2) u (.ref B.heap.objs.size)) (OkP X pa σ ρ H (Xc8 l c d S1)) (ExP X pa σ ρ H (Xc8 l c d S1)) {B with heap:=B.heap.push {cls:=.type "slice",data:=.fields #[vl,.none,vs]} }:=λt1 t2 g=>
  tail_any (ops:=[u,.ref B.heap.objs.size]) t2 t1 (Vo g (λ_ _ z=>OkP.pre ((ab.trans U).trans L) z) λ_ _ z=>ExP.pre ((ab.trans U).trans L) z) (by with_unfolding_all rfl)
 cases d with
 |tup xs=>simp only[RD]at aa;obtain⟨p,ws,rfl,hq,hr⟩:=aa;cases rv;obtain⟨its,r,ht,hz⟩:=J.tuple hq;have ah:=r.length;refine ae PyProof.Rows.slot_tuple_getitem.lookup ht.typeIs ?_;refine Xpl hc ht (Ve8 ..) P1 P2 ?_ (by omega);refine Xcc (vs:=Xaw ws l c) (J.laid (t':=B.toks) (λb ob q=>Vg _ q) (Vl _) ?_) (J.hok.fresh (Vl _)) I3.sr (X3c hr l c);exact⟨Ul (Xn1 ws hc) hz,_,Xuc r l c,⟨_,Vq _ rfl,rfl,_,rfl⟩⟩|_=>cases af rfl
theorem Xwj{i:Int}{e:Expr}(h:mnC i e=yx):DO X (yz e) (λ_ S=>.ok (yz (.int (-i))) S):=by
 unfold mnC at h;split at h
 ·rename_i x p;split at h;·rename_i j u q;have:=eq_of_beq h;subst this;exact Xn0 (Xwe (fa:=λ_ S=>.ok (.int i) S) d_int)
  ·cases h
 cases h
theorem Xry{i:Int}{l:Option Int}{e:Expr}(hi:0<i)(B:DE X a fa)(h:Xhw i l e=yx):DE X (.Subscript a e pos) (λenv S=>(fa env S).bind λx S=>Xc8 (l.map (- ·)) (-i) x S):=by
 unfold Xhw at h;split at h
 ·rename_i lo st p;rw[bA0]at h;refine X52 (by omega) B ?_ (Xwj h.1);have h2:=h.2;split at h2;·exact Xnz
  ·exact Xwj h2
  cases h2
 cases h
end
end Z
end
section
namespace Z
open PySem PySem.Spec PyProof.Rows L2
open PySem.W (kla_fn)
theorem Xud{x:Str}{an:Option Expr}{p:Pos}{n q:Str}{body:Expr}{scope:Ue}{J B:Vb}{c:Addr}{u:Vb}:
  Vey (kla_fn n q ⟨[],[⟨x,an,p⟩],yy,[],[],yy,[]⟩ body scope [] J (.ref c) B) ⟨[u],[]⟩=pure [(x,u)]:=by
 have s:seqItems? Vad=pure none:=rfl;unfold Vey;simp[s,List.lookup]
section
variable{X:Cx}{nm:Str}
theorem X53 {a e:Expr} {fa:En->Sto->R D} {p0 pos p1 p2 p3 J kp:Pos} {x:Str} {an:Option Expr} {scope:Ue} (hu:X.A.units+200<Vbe) (hc:X.calm=yx) (hL:LamAt X nm) (ah:Gl X "sorted") (ac:X.mg "sorted"=yy) (ha:DE X a fa) (L:V7 [a] X.env=(yw,eval a X.env)::V7 [] X.env)
  (hS:FnScope [x] [x] scope) (af:Xgu scope=yx) (hv:Vis scope x) (hd:(x==("__debug__" : Str))=yw) (Y:(x==("__classdict__" : Str))=yw) (hr:Xhw 1 yy e=yx):
  DE X (.Call (.Name "sorted" p0) [a] [⟨yz "key",.Lambda ⟨[],[⟨x,an,p1⟩],yy,[],[],yy,[]⟩ (.Subscript (.Name x p2) e p3) scope J,kp⟩] pos) (λenv S=>(fa env S).bind λx S=>Xks x S):=by
 intro pa s σ H ρ S env I nb;dsimp only at nb ⊢;refine Vai (Yn I.inv ah ac (u:=.builtin "sorted") (by decide+kernel) (callWith_kw (Vbk ?_ L) (by rw[L];rfl) (by rw[L];rfl) rfl rfl) (by decide) rfl);refine ha.bind I nb rfl (λd S1 u s1 v H1 aj e1 B I1 rv rd ae=>Vbl ?_) λ_ _ z=>z;rw[e1];show Vf _ _ (do let v <- (do let v <- eval (.Lambda ⟨[],[⟨x,an,p1⟩],yy,[],[],yy,[]⟩ (.Subscript (.Name x p2) e p3) scope J) X.env;standAt pos;pure v);return v::(<-Vdo [v] (evalAll []))) _ _ s1;refine Va (Va (Xtw hL af rfl I1 λf s2 H2 I2 U lm=>Va (Vc6 (Vd (Va (Uw (Vd (Vd ?_))))))));show Vf _ _ (call (.builtin "sorted") [u] [(U5 "key",.ref f)]) _ _ s2;unfold Xks at B ⊢;cases d with
 |ref n=>
  dsimp only at B ⊢;cases q1:Xa S1 n with
  |none=>rw[q1]at B;cases B rfl|some xs=>
   rw[q1]at B;simp only[V1]at B ⊢;cases q2:Xaq xs with
   |none=>rw[q2]at B;cases B rfl|some ks=>
    rw[q2]at B;dsimp only at B ⊢;cases q3:Xb2 ks with
    |none=>rw[q3]at B;cases B rfl|some r=>have q:=Xcq q2;subst q;obtain⟨b,ws,rfl,_,hw,aa⟩:=I2.lstR q1 (rd.mono U);obtain⟨hle,its,c,ab,eo⟩:=(show ObjOk X.prog X.w H2 s2.heap b (.lst ws) from I2.inv.hok b _ hw);cases rv;refine Vo (Xt0 (E:=λ_ _=>False) hu I2 lm (λpa s H ρ k v u I hl rv rd=>?_) ⟨_,eo,rfl,c,rfl⟩ aa ab q3) (λw s3 z=>(z.pre U).pre ae) λ_ _ z=>z.elim;refine Xtx (A:=X.A.in1.in1) (x:=x) (fb:=λenv S=>(match env[0]? with|some (yz d)=>.ok d S|_=>.bad:R D).bind λx S=>Xc8 yy (-1) x S) (show X.A.depth<_ from by have:=hL.dep;omega) (show X.A.handled=yy from I.inv.ok.hd hc) I.inv.ok.frames hS (λ_ _ _ _=>Xud) (λai s H=>Xry (l:=yy) (by decide) (Xv6 (i:=0) rfl hv hd Y) hr) hl I rv rd ?_;show Xc8 yy (-1) (Xa8 k) S1=_;rw[Xlq];show R.ok (D.tup (k.map D.int).reverse) S1=.ok (D.tup (k.reverse.map D.int)) S1;rw[List.map_reverse]
 |_=>cases B rfl
end
end Z
end
section
namespace Z
open PySem PySem.Spec PyProof.Rows L2
section
variable(cm:Bool)(F:Fn)(G:LD)(fns:LF)(gns:LS)
structure PF(X:Cx):Prop where
 blt:∀x∈blts,X.mg x=yy
 fn:∀(f:Nat) nm ar fl,fns[f]?=yz (nm,ar,fl)->(fl=yx->cm=yx)->∃g fd ps k,FnD fl X.prog X.w X.K X.mg X.base k g fd ps (F f)/\RoomC fl k X.A/\Binds X.K fd ps []/\X.mg nm=yz (.ref g)/\Vcs X.K (.ref g)=yx/\(la ps)=ar
 glb:∀(k:Nat) nm,gns[k]?=yz nm->∃u d,X.mg nm=yz u/\G[k]?=yz d/\∀ ρ H,∃v,RelV v u/\RD X.K ρ H d v
 clf:∀(f:Nat) (nm:Str),Xa6 f nm G=yx->∃ar fl,fns[f]?=yz (nm,ar,fl)/\(∀a,Vaa X.K Ub nm=yz (yz (.ref a))->X.mg nm=yz (.ref a))/\∀xs S,F f xs S≠.bad->la xs=ar
 units:X.A.units+200<Vbe
 gd:X.A.guards=yz []
 calm:cm=yx->X.calm=yx
 err:ErrOk X.K
theorem PF.blk(h:PF cm F G fns gns X)(pa:LA)(s:Vc)(H:Hp)(sc:Ue)(B:List (Str×Addr))(C:Addr)(own:LS)(fp:LR):PF cm F G fns gns (blk X pa s H sc B C own fp):=
 ⟨h.blt,h.fn,h.glb,h.clf,h.units,h.gd,h.calm,h.err⟩
variable{X:Cx}{e:Expr}{f g:En->Sto->R D}
theorem DE.congr(h:DE X e f)(q:∀env S,g env S=f env S):DE X e g:=by have:g=f:=funext λenv=>funext λS=>q env S;rw[this];exact h
theorem DT.congr{f g:En->Sto->R Bool}(h:DT X e f)(q:∀env S,g env S=f env S):DT X e g:=by have:g=f:=funext λenv=>funext λS=>q env S;rw[this];exact h
theorem X7i(aa:X.N.Nodup)(ht:∀x,top x=yx->X.fn x=yx)(B:LN)(es:LX)(h:mtT.namesB top X.env.scope X.N B es=yx):(∀E,PGs (X.wish E) es (gNs B))/\(Va1 es X.env).length=B.length/\(Va1 es X.env).findIdx? (·.1)=none:=by
 have ab:∀(B:LN) (es:LX),mtT.namesB top X.env.scope X.N B es=yx->∃xs:List (Str×Pos),es=xs.map (λx=>Expr.Name x.1 x.2)/\B.length=la xs/\∀(j i:Nat) (x:Str×Pos),B[j]?=yz i->xs[j]?=yz x->X.N[i]?=yz x.1/\Loc X.env.scope x.1/\(X.fn x.1=yx\/X.env.scope.names.lookup x.1=yz .local):=by
  intro B;induction B with
  |nil=>
   intro es h;cases es with
   |nil=>exact⟨[],rfl,rfl,λj i x J _=>by simp at J⟩|cons _ _=>simp[mtT.namesB]at h
  |cons i B ih=>
   intro es h;cases es with
   |nil=>simp[mtT.namesB]at h|cons e es=>
    simp only[mtT.namesB,bA0]at h;obtain⟨x,h1,h2⟩:=Xd h.1;obtain⟨p,rfl⟩:=Xao h1;rw[bA0,decide_eq_true_eq]at h2;obtain⟨xs,J,L,Y⟩:=ih es h.2;obtain⟨l1,l2⟩:=Xe3 rfl ht h2.2;refine⟨(x,p)::xs,by rw[J];rfl,by simp[L],λj i' x' U q2=>?_⟩;cases j with
    |zero=>simp at U q2;subst U q2;exact⟨h2.1,l1,l2⟩|succ j=>exact Y j i' x' (by simpa using U) (by simpa using q2)
 obtain⟨xs,J,L,Y⟩:=ab B es h;subst J;have nm:=Xgq xs X.env;exact⟨λE=>Xq4 (X:=X.wish E) B xs aa L Y,by rw[nm.1,L],nm.2⟩
theorem X7j(B:X.N.Nodup)(J:∀x,top x=yx->X.fn x=yx)(h:mtT top X.env.scope X.N (.tup is) tg=yx):∃es k p,tg=.Tuple es k p/\(∀E,PGs (X.wish E) es (gNs is))/\(Va1 es X.env).length=la is/\(Va1 es X.env).findIdx? (·.1)=none:=by simp only[mtT]at h;obtain⟨es,h1,h⟩:=Xd h;obtain⟨k,p,rfl⟩:=Xce h1;exact⟨es,k,p,rfl,X7i B J is es h⟩
theorem dgB(hN:X.N=N)(hs:X.env.scope=sc)(B:N.Nodup)(hc:X2i t=yw->X.calm=yx)(J:∀x,top x=yx->X.fn x=yx)(h:mtT top sc N t tg=yx):DG X tg t:=by
 subst hN hs;cases t with
 |var i=>simp only[mtT]at h;obtain⟨x,h1,h2⟩:=Xd h;obtain⟨p,rfl⟩:=Xao h1;rw[bA0,decide_eq_true_eq]at h2;obtain⟨U,l2⟩:=Xe3 rfl J h2.2;exact Xxs B h2.1 U l2|tup is=>obtain⟨es,k,p,rfl,L,Y,q3⟩:=X7j B J h;exact X1t (hc rfl) L Y q3
end
theorem Xn2:∀(es:Exs) (xs:LX),mts cm fns gns sc N es xs=yx->∀env S ds S',evs F G es env S=.ok ds S'->la ds=la xs
 |.nil,[]=>λ_ env S ds S' h=>by simp only[evs]at h;cases h;rfl|.nil,_::_=>λh _ _ _ _ _=>by simp[mts]at h|.cons _ _,[]=>λh _ _ _ _ _=>by simp[mts]at h|.cons e es,x::xs=>λh env S ds S' q=>by
  simp only[mts,bA0]at h;simp only[evs]at q;cases L:ev F G e env S with
  |bad=>rw[L]at q;cases q|ex _ _=>rw[L]at q;cases q|ok d S1=>
   rw[L]at q;simp only[Rk0]at q;cases B:evs F G es env S1 with
   |bad=>rw[B]at q;cases q|ex _ _=>rw[B]at q;cases q|ok J S2=>rw[B]at q;simp only[Rk0]at q;cases q;simp[Xn2 es xs h.2 env S1 J _ B]
theorem Xa9:∀(es:Exs) (xs:LX),mts cm fns gns sc N es xs=yx->xs.all Xy=yx
 |.nil,[]=>λ_=>rfl|.nil,_::_=>λh=>by simp[mts]at h|.cons _ _,[]=>λh=>by simp[mts]at h|.cons e es,x::xs=>λh=>by simp only[mts,bA0]at h;rw[Vb7,h.1.1,Xa9 es xs h.2];rfl
theorem Xyq{k:Bl}{nm:Str}{b:Bool}{id:String}(h:Xpd k=yz (nm,b,id))(U:∃o,X.K.lookup Vbq=yz o)(J:X.A.guards=yz [])(L:X.A.units+200<Vbe)(B:Xpe k=yw->X.calm=yx):nm∈blts/\(if b then Vdg nm=yz (.builtin id)/\BlR X k (.builtin id) else Vdg nm=yz (.type id)/\BlR X k (.type id)):=by
 cases k<;>simp only[Xpd,Vp,Vdq,reduceCtorEq]at h<;>obtain⟨rfl,rfl,rfl⟩:=h
 case len=>exact⟨by decide,PySem.boot_len,X5l⟩
 case min=>exact⟨by decide,by decide+kernel,X5p (B rfl)⟩
 case max=>exact⟨by decide,by decide+kernel,X5o (B rfl)⟩
 case smB=>exact⟨by decide,by decide+kernel,X5n (B rfl)⟩
 case all=>exact⟨by decide,by decide+kernel,X5m (B rfl)⟩
 case tuple=>exact⟨by decide,by decide+kernel,Xx2⟩
 case list=>exact⟨by decide,by decide+kernel,X13⟩
 case repr=>exact⟨by decide,by decide+kernel,X2b U J L⟩
 case itB=>exact⟨by decide,by decide+kernel,X5t⟩
section
variable{F:Fn}{G:LD}{cm:Bool}{fns:LF}{gns:LS}
theorem Xyr(h:Xt2 fx=yx)(args:LX)(pos:Pos)(env:Vax):eval (.Call fx args [] pos) env=(do callWith pos (<-eval fx env) [] (Vbu pos (V7 args env)) (backToKw pos (keywordEach [] env))):=by cases fx<;>first|rfl|cases h
theorem X54(hp:PF cm F G fns gns X)(hc:cm=yx)(hx:∀(args:LX) (pos:Pos) (env:Vax),eval (.Call fx args [] pos) env=(do callWith pos (<-eval fx env) [] (Vbu pos (V7 args env)) (backToKw pos (keywordEach [] env))))
  (hf:DE X fx f) (ha:DA X (e::es) ga) (he:V7 (e::es) X.env=(yw,eval e X.env)::V7 es X.env) (L:(Vbu pos (V7 es X.env)).any (·.1)=yw):
  DE X (.Call fx (e::es) [] pos) (λenv S=>(f env S).bind λx S=>match x with
   |.fn k nm=>if Xa6 k nm G then (ga env S).bind λxs S=>F k xs S else .bad
   |_=>.bad):=by
 intro pa s σ H ρ S env I nb;dsimp only at nb ⊢;rw[hx];refine Va (hf.bind I nb rfl (λd S1 u s1 v H1 ac e1 B Y rv rd J=>?_) λ_ _ z=>z);rw[e1];cases d with
 |fn k nm=>
  dsimp only at B ⊢;by_cases hi:Xa6 k nm G=yx
  ·rw[iP0 hi]at B ⊢;obtain⟨ar,fl,q1,q2,q3⟩:=hp.clf k nm hi;obtain⟨g,fd,ps,kk,c1,c2,c3,c4,c5,c6⟩:=hp.fn k nm ar fl q1 λ_=>hc;simp only[RD]at rd;obtain⟨a,rfl,hn⟩:=rd;have:=(q2 a hn).symm.trans c4;cases this;cases rv;cases q:ga env S1 with
   |bad=>rw[q]at B;cases B rfl|ex n S2=>exact Ve4 (h₀:=X.base) Y.inv.ok.mod.kin c5 (ha.ex Y q λx s' z=>⟨n,S2,rfl,z.pre J⟩) he L|ok ds S2=>rw[q]at B;simp only[Rk0]at B ⊢;refine Ve4 (h₀:=X.base) Y.inv.ok.mod.kin c5 (ha.ok Y q λus s2 vs H2 ae I2 aa ab U=>⟨I2.inv.kIn,?_⟩) he L;exact Vo (Xwa c1 c2 c3 I2 aa ab (by rw[c6];exact q3 _ _ B) B) (λu s2 z=>(z.pre U).pre J) λx s2 z=>(z.pre U).pre J
  rw[iN0 hi]at B;cases B rfl|_=>cases B rfl
theorem Yg(h:DE X e f)(B:∀whole,isTrue e X.env whole=(do let v <- whole;standAt e.pos;Vdo [v] (truthy v))):DE X e f/\DT X e (λenv S=>tst (f env S)):=⟨h,.of h B⟩
theorem DW.of(h:DT X (.BoolOp op ys p) g):DW X (.BoolOp op ys p) g:=λ_=>h
def X3d(F:Fn)(G:LD)(X:Cx)(sc2:Ue)(N2:LS)(J:Cx->Prop):Gens->List Vbg->Prop
 |.cons t it ifs .nil,gens=>∃tg iter cs,gens=[⟨tg,iter,cs,0⟩]/\Xbt iter=yx/\mtT (Xb3 X.N N2) sc2 N2 t tg=yx/\DI X tg iter (evit F G it)/\∀Y:Cx,Y.N=N2->Y.env.scope=sc2->J Y->DTs Y cs (evts F G ifs)|.cons t it ifs (.cons t2 it2 ifs2 .nil),gens=>∃tg iter cs L B U,gens=[⟨tg,iter,cs,0⟩,⟨L,B,U,0⟩]/\Xbt iter=yx/\Xbt B=yx/\mtT (Xb3 X.N N2) sc2 N2 t tg=yx/\mtT (Xb3 X.N N2) sc2 N2 t2 L=yx/\DI X tg iter (evit F G it) /\
   (∀Y:Cx,Y.N=N2->Y.env.scope=sc2->J Y->DTs Y cs (evts F G ifs))/\(∀Y:Cx,Y.N=N2->Y.env.scope=sc2->J Y->DI Y L B (evit F G it2))/\∀Y:Cx,Y.N=N2->Y.env.scope=sc2->J Y->DTs Y U (evts F G ifs2)|_,_=>False
structure CompP(X:Cx)(elt:Expr)(gens:List Vbg)(scope:Ue)(cpos:Pos)(own:LS)(f:En->Sto->R D) where
 tg:Expr
 iter:Expr
 ifs:LX
 t:Tg
 fi:En->Sto->R Src
 tf:En->Sto->R Bool
 body:En->LD->Sto->R (LD)
 hg:gens=⟨tg,iter,ifs,0⟩::gens.tail
 hi:DI X tg iter fi
 hs:∀x,Vbh iter X.env x=pure x
 hG:∀pa s H cl C fp,DG (blk X pa s H scope cl C own fp) tg t
 hT:∀pa s H cl C fp,DTs (blk X pa s H scope cl C own fp) ifs tf
 hB:∀pa s H cl C fp Da,Xcz yw (LstA X.K Da) (blk X pa s H scope cl C own fp) Da elt gens scope cpos 0 body
 eq:f=Xee fi t (la own) tf body
theorem Xn3(hN:X.N=N)(hs:X.env.scope=sc)(hp:PF cm F G fns gns X)(hc:X.calm=yx)(so:ScOk sc scope N (Y0 scope))
  (hg:X3d F G X (Xf4 scope sc) (Xak N (Y0 scope)) (PF cm F G fns gns) gs gens) (he:∀Y:Cx,Y.N=Xak N (Y0 scope)->Y.env.scope=Xf4 scope sc->PF cm F G fns gns Y->DE Y elt (ev F G xe)):
  Nonempty (CompP X elt gens scope p (Y0 scope) (ev F G (.cmr yw (Y0 scope).length gs xe))):=by
 subst hN hs;have L:∀pa s H B C fp,PF cm F G fns gns (blk X pa s H scope B C (Y0 scope) fp):=λpa s H B C fp=>PF.blk cm F G fns gns hp pa s H scope B C (Y0 scope) fp;have J:∀ {t:Tg} {tg:Expr},mtT (Xb3 X.N (Xak X.N (Y0 scope))) (Xf4 scope X.env.scope) (Xak X.N (Y0 scope)) t tg=yx->∀pa s H B C fp,DG (blk X pa s H scope B C (Y0 scope) fp) tg t:=λh pa s H B C fp=>dgB (top:=Xb3 X.N (Xak X.N (Y0 scope))) rfl rfl so.nd (λ_=>hc) (λ_ z=>Xx7 z) h;match gs,hg with
 |.cons t it ifs .nil,hg=>obtain⟨tg,iter,U,rfl,n1,m1,i1,t1⟩:=hg;refine⟨⟨tg,iter,U,t,evit F G it,evts F G ifs,_,rfl,i1,Xdw n1,J m1,λpa s H B C fp=>t1 _ rfl rfl (L pa s H B C fp),λpa s H B C fp Da=>Xjb rfl (he _ rfl rfl (L pa s H B C fp)),?_⟩⟩;funext env S;simp only[ev,Xee];rfl|.cons t it ifs (.cons t2 it2 ifs2 .nil),hg=>
  obtain⟨tg,iter,U,ae,aa,ac,rfl,n1,n2,m1,m2,i1,t1,i2,ab⟩:=hg;refine⟨⟨tg,iter,U,t,evit F G it,evts F G ifs,_,rfl,i1,Xdw n1,J m1,λpa s H B C fp=>t1 _ rfl rfl (L pa s H B C fp),
   λpa s H B C fp Da=>Xq8 LstA.ok hc rfl (i2 _ rfl rfl (L pa s H B C fp)) (Xdw n2) (J m2 pa s H B C fp) (ab _ rfl rfl (L pa s H B C fp)) (Xjb rfl (he _ rfl rfl (L pa s H B C fp))),?_⟩⟩
  funext env S;simp only[ev,Xee];rfl
theorem Xue {k:Bl} {es:Exs} {x:Str} {ys:LX} (U:∃o,X.K.lookup Vbq=yz o) (Y:X.A.guards=yz []) (L:X.A.units+200<Vbe) (hg:Gl X x) (hb:∀x∈blts,X.mg x=yy) (hc:Xpe k=yw->X.calm=yx) (h1:blB k x=yx) (o1:(x==("__debug__" : Str))=yw) (o3:x ≠ "__name__") (ih:DA X (y::ys) (evs F G es))
  (he:V7 (y::ys) X.env=(yw,eval y X.env)::V7 ys X.env) (J:(Vbu p (V7 ys X.env)).any (·.1)=yw):DE X (.Call (.Name x p0) (y::ys) [] p) (ev F G (.blt k es)):=by
 unfold blB at h1;cases q:Xpd k with
 |none=>rw[q]at h1;cases h1|some z=>
  obtain⟨nm,b,id⟩:=z;rw[q]at h1;dsimp only at h1;have e1:x=nm:=oD0 h1;subst e1;obtain⟨m1,B⟩:=Xyq q U Y L hc;cases b with
  |true=>rw[iP0 rfl]at B;exact(X18 B.2 hg (hb _ m1) B.1 ih o3 o1 he J).congr λenv S=>by simp only[ev]|false=>rw[iN0 Ui]at B;exact(X19 B.2 hg (hb _ m1) B.1 ih o3 o1 he J).congr λenv S=>by simp only[ev]
theorem Xuf(h1:mtB k nm=yx)(h2:Xpb ox=yx)(U:(ap.endLine==cp.line)=yx)(Y:(y::ys).length<29)(io:DE X ox (ev F G o))(ih:DA X (y::ys) (evs F G es))(st:(y::ys).all Xy=yx):
  DE X (.Call (.Attribute ox nm ap) (y::ys) [] cp) (ev F G (.mth k o es)):=by
 have B:((Vbu cp (V7 (y::ys) X.env)).all (λx=>!x.1)&&(backToKw cp (keywordEach [] X.env)).all (λx=>x.1.isSome)&&decide ((y::ys).length+([]:List Keyword).length+(if ([]:List Keyword).isEmpty then 0 else 1)<30))=true:=by
  rw[Xt1 st];have:(y::ys).length+([]:List Keyword).length+(if ([]:List Keyword).isEmpty then 0 else 1)<30:=by simp only[Vdz,List.isEmpty_nil,if_true];omega
  rw[decide_eq_true this];rfl
 rw[Vb7,bA0]at st;have J:∀ {m:Mt} (x:D) (S:Sto),Xa4 m x S=yx->∃n xs,x=.ref n/\Xa S n=yz xs:=λ{m} x S h=>by
  cases x with
  |ref n=>have h':(Xa S n).isSome=true:=h;obtain⟨xs,e⟩:=Vcf.mp h';exact⟨n,xs,rfl,e⟩|_=>cases h
 cases k with
 |append=>have L:nm="append":=oD0 h1;subst L;exact(Xgs (m:=.append) (id:="list.append") PySem.F.slot_list_append PySem.F.type_list_append Xto J io ih (Xe4 h2) B U (Xl st.1) (Xal st.2)).congr λenv S=>by simp only[ev]|xtd=>have L:nm="extend":=oD0 h1;subst L;exact(Xgs (m:=.xtd) (id:="list.extend") PySem.F.slot_list_extend PySem.F.type_list_extend X5q J io ih (Xe4 h2) B U (Xl st.1) (Xal st.2)).congr λenv S=>by simp only[ev]|count=>have L:nm="count":=oD0 h1;subst L;exact(Xgs (m:=.count) (id:="list.count") PySem.F.slot_list_count PySem.F.type_list_count Xx4 J io ih (Xe4 h2) B U (Xl st.1) (Xal st.2)).congr λenv S=>by simp only[ev]|index=>have L:nm="index":=oD0 h1;subst L;exact(Xgs (m:=.index) (id:="list.index") Vfh PySem.F.type_list_index Xx5 J io ih (Xe4 h2) B U (Xl st.1) (Xal st.2)).congr λenv S=>by simp only[ev]
theorem Xug (er:ErrOk X.K) (Y:∀x∈blts,X.mg x=yy) (J:Gl X "isinstance") (hg:Gl X nm) (hok:Yy nm=yx) (L:tyB sc t nm=yx) (U:DE X a fa) (B:Xy a=yx):
  DE X (.Call (.Name "isinstance" p0) [a,.Name nm p1] [] pos) (λenv S=>(fa env S).bind λx S=>match (kdD S x).bind λk=>Yv k [t] with|some r=>.ok (.bl r) S|none=>.bad):=by
 cases t with
 |cls c=>exact Xrt er (.inl ⟨c,rfl,oD0 L⟩) Y J hg hok U B|valueError=>exact Xrt er (.inr ⟨rfl,oD0 L⟩) Y J hg hok U B|int=>have e:=oD0 L;subst e;exact Xdf (t:=.int) rfl Y J hg hok U B|bool=>have e:=oD0 L;subst e;exact Xdf (t:=.bool) rfl Y J hg hok U B|str=>have e:=oD0 L;subst e;exact Xdf (t:=.str) rfl Y J hg hok U B|tuple=>have e:=oD0 L;subst e;exact Xdf (t:=.tuple) rfl Y J hg hok U B|list=>have e:=oD0 L;subst e;exact Xdf (t:=.list) rfl Y J hg hok U B|dict=>have e:=oD0 L;subst e;exact Xdf (t:=.dict) rfl Y J hg hok U B
theorem Xwk(B:Xlh t=yx)(h:tyB sc t nm=yx):∃T,Xbh t=yz (nm,T):=by
 cases t with
 |cls c=>cases B|valueError=>cases B|_=>have e:=oD0 h;subst e;exact⟨_,rfl⟩
theorem Xys (er:ErrOk X.K) (U:∀x∈blts,X.mg x=yy) (hs:X.env.scope=sc) (J:Gl X "isinstance") (Y:tyM sc ts y=yx) (L:DE X a fa) (B:Xy a=yx):
  DE X (.Call (.Name "isinstance" p0) [a,y] [] pos) (λenv S=>(fa env S).bind λx S=>match (kdD S x).bind λk=>Yv k ts with|some r=>.ok (.bl r) S|none=>.bad):=by
 rcases X26 Y with⟨t,nm,p,rfl,rfl,h1,h2,h3⟩|⟨t1,t2,n1,n2,p1,p2,k,p,rfl,rfl,h1,h2,h3,h4,h5,h6,h7,h8⟩;·exact Xug er U J (Yo hs h1) h2 h3 L B
 ·obtain⟨T1,q1⟩:=Xwk h5 h7;obtain⟨T2,q2⟩:=Xwk h6 h8;exact X3b q1 q2 U J (Yo hs h1) (Yo hs h3) h2 h4 L B
set_option maxHeartbeats 0 in
theorem X3e{k:Nat}(h:Xhu d c=yx):DE X (.Constant c k p) (ev F G (.cst d)):=by
 cases d with
 |int i=>cases c with
  |int j=>simp only[Xhu,beq_iff_eq]at h;subst h;exact d_int.congr λenv S=>by simp only[ev]|_=>cases h
 |bl i=>cases c with
  |bool j=>simp only[Xhu,beq_iff_eq]at h;subst h;exact d_bl.congr λenv S=>by simp only[ev]|_=>cases h
 |non=>cases c with
  |none=>exact d_non.congr λenv S=>by simp only[ev]|_=>cases h
 |str i=>cases c with
  |str j=>simp only[Xhu,decide_eq_true_eq]at h;subst h;exact d_str.congr λenv S=>by simp only[ev]|_=>cases h
 |_=>cases h
mutual
theorem snd:∀(x:Ex) (X:Cx) (sc:Ue) (N:LS) (e:Expr),X.N=N->X.env.scope=sc->PF cm F G fns gns X->mt cm fns gns sc N x e=yx->DE X e (ev F G x)/\DT X e (λenv S=>tst (ev F G x env S))
 |.nev=>λX sc N e hN hs B h=>⟨λ_ _ _ _ _ _ _ _ nb=>aB0 (by simp only[ev]) nb,λ_ _ _ _ _ _ _ _ nb=>aB0 (by simp only[ev]<;>rfl) nb⟩|.var i=>λX sc N e hN hs B h=>by obtain⟨x,p,rfl,h1,h2,J⟩:=X2o h;subst hN hs;obtain⟨o1,o2,_⟩:=Xad J;exact Yg ((Xv6 h1 (Xnr h2) o1 o2).congr λenv S=>by simp only[ev]<;>rfl) λ_=>rfl|.cst d=>λX sc N e hN hs B h=>by obtain⟨c,k,p,rfl,h⟩:=X2p h;exact Yg (X3e h) λ_=>rfl|.neg a=>λX sc N e hN hs B h=>by obtain⟨x,p,rfl,h⟩:=X2q h;exact Yg ((Xwe (snd a X sc N x hN hs B h).1).congr λenv S=>by simp only[ev]<;>rfl) λ_=>rfl|.glb k=>λX sc N e hN hs B h=>by obtain⟨x,p,rfl,h1,h2,J⟩:=X2s h;obtain⟨o1,o2,_⟩:=Xad J;obtain⟨u,d,q1,q2,q3⟩:=B.glb k x h1;exact Yg ((X5s (Yo hs h2) q1 q3 o1).congr λenv S=>by simp only[ev,q2]) λ_=>rfl|.tup es=>λX sc N e hN hs B h=>by obtain⟨xs,k,p,rfl,h⟩:=X2t h;exact Yg ((X40 (snds es X sc N xs hN hs B h)).congr λenv S=>by simp only[ev]) λ_=>rfl|.lst es=>λX sc N e hN hs B h=>by obtain⟨xs,p,rfl,h⟩:=X2u h;exact Yg ((X41 (snds es X sc N xs hN hs B h)).congr λenv S=>by simp only[ev]) λ_=>rfl|.bin op a b=>λX sc N e hN hs B h=>by obtain⟨x,y,p,rfl,h1,h2⟩:=X2v h;exact Yg ((X42 (X5e op) (snd a X sc N x hN hs B h1).1 (snd b X sc N y hN hs B h2).1).congr λenv S=>by simp only[ev]) λ_=>rfl|.cmp op a b=>λX sc N e hN hs B h=>by obtain⟨x,y,p,rfl,h1,h2,J⟩:=Xrp h;have L:=(snd a X sc N x hN hs B h2).1;have hb:=(snd b X sc N y hN hs B J).1;exact⟨(X43 (Xe0 B.units op) L hb h1).congr λenv S=>by simp only[ev],(X1b (Xe0 B.units op) L hb h1).congr λenv S=>by simp only[ev]⟩|.chn o1 o2 a b c=>λX sc N e hN hs B h=>by obtain⟨x,y,z,p,rfl,h1,h2,J,U⟩:=X2w h;have L:=(snd a X sc N x hN hs B h2).1;have hb:=(snd b X sc N y hN hs B J).1;have hc:=(snd c X sc N z hN hs B U).1;exact⟨(X5r (Xe0 B.units o1) (Xe0 B.units o2) L hb hc h1).congr λenv S=>by simp only[ev,Yz]<;>rfl,(X17 (Xe0 B.units o1) (Xe0 B.units o2) L hb hc h1).congr λenv S=>by simp only[ev,Yz]<;>rfl⟩|.and a b=>λX sc N e hN hs B h=>by
  rcases X2x h with⟨x,y,p,rfl,h1,h2⟩|⟨x,y,z,r,p,rfl,h1,h2⟩;·have L:=snd a X sc N x hN hs B h1;have hb:=snd b X sc N y hN hs B h2;exact⟨(Xv7 L.1 (Xv8 hb.1)).congr λenv S=>by simp only[ev]<;>rfl,((Xqu L.2 (Xxc hb.2)).dt).congr λenv S=>by simp only[ev]<;>rfl⟩
  ·have L:=snd a X sc N x hN hs B h1;have hb:=snd b X sc N (.BoolOp .And (y::z::r) p) hN hs B h2;exact⟨(Xv7 L.1 hb.1).congr λenv S=>by simp only[ev]<;>rfl,((Xqu L.2 (.of hb.2)).dt).congr λenv S=>by simp only[ev]<;>rfl⟩|.or a b=>λX sc N e hN hs B h=>by
  rcases X5z h with⟨x,y,p,rfl,h1,h2⟩|⟨x,y,z,r,p,rfl,h1,h2⟩;·have L:=snd a X sc N x hN hs B h1;have hb:=snd b X sc N y hN hs B h2;exact⟨(X1c L.1 (Xv8 hb.1)).congr λenv S=>by simp only[ev]<;>rfl,((Xv9 L.2 (X1e hb.2)).dt).congr λenv S=>by simp only[ev]<;>rfl⟩
  ·have L:=snd a X sc N x hN hs B h1;have hb:=snd b X sc N (.BoolOp .Or (y::z::r) p) hN hs B h2;exact⟨(X1c L.1 hb.1).congr λenv S=>by simp only[ev]<;>rfl,((Xv9 L.2 (.of hb.2)).dt).congr λenv S=>by simp only[ev]<;>rfl⟩|.not a=>λX sc N e hN hs B h=>by obtain⟨x,p,rfl,h⟩:=X2r h;have L:=snd a X sc N x hN hs B h;exact⟨(X44 L.2 L.1).congr λenv S=>by simp only[ev]<;>rfl,(X1d L.2).congr λenv S=>by simp only[ev]<;>rfl⟩|.ite c a b=>λX sc N e hN hs B h=>by obtain⟨x,y,z,p,rfl,h1,h2,J⟩:=X2y h;have hc:=snd c X sc N x hN hs B h1;have L:=snd a X sc N y hN hs B h2;have hb:=snd b X sc N z hN hs B J;exact⟨(X45 hc.2 L.1 hb.1).congr λenv S=>by simp only[ev]<;>rfl,(X16 hc.2 L.2 hb.2).congr λenv S=>by simp only[ev]<;>rfl⟩|.idx a i=>λX sc N e hN hs B h=>by obtain⟨x,y,p,rfl,h1,h2,J⟩:=X2z h;exact Yg ((X5g (Xpa h1) (snd a X sc N x hN hs B h2).1 (snd i X sc N y hN hs B J).1).congr λenv S=>by simp only[ev]) λ_=>rfl|.sli a lo hi=>λX sc N e hN hs B h=>by obtain⟨x,l,u,p2,p,rfl,h1,h2,J⟩:=X27 h;exact Yg ((Xwi (snd a X sc N x hN hs B h1).1 (sndo lo X sc N l hN hs B h2) (sndo hi X sc N u hN hs B J)).congr λenv S=>by simp only[ev]<;>rfl) λ_=>rfl|.rev a=>λX sc N e hN hs B h=>by obtain⟨x,y,p,rfl,h1,h2⟩:=X29 h;exact Yg ((Xry (by decide) (snd a X sc N x hN hs B h2).1 h1).congr λenv S=>by simp only[ev];congr 1;funext x S;exact(Xlq x S).symm) λ_=>rfl|.cal f es=>λX sc N e hN hs B h=>by obtain⟨fx,y,ys,p,rfl,h1,h2,J,U⟩:=X28 h;have st:=Xa9 es (y::ys) U;rw[Vb7,bA0]at st;exact Yg ((X54 B h1 (Xyr h2) (snd f X sc N fx hN hs B J).1 (snds es X sc N (y::ys) hN hs B U) (Xl st.1) (Xal st.2)).congr λenv S=>by simp only[ev]<;>rfl) λ_=>rfl|.lenm a=>λX sc N e hN hs B h=>by obtain⟨p,p2,x,cp,ab,rfl,h1,h2,J,U,h5⟩:=Xyh h;have ih:=(snd a X sc N x hN hs B h5).1;exact Yg ((X2h (B.calm h1) (Yo hs h2) (B.blt _ (by decide)) (Yo hs J) (B.blt _ (by decide)) ih (Xl U)).congr λenv S=>by simp only[ev]<;>rfl) λ_=>rfl|.isi a ts=>λX sc N e hN hs B h=>by obtain⟨p0,x,y,cp,rfl,h1,h2,J,U⟩:=X25 h;have ih:=(snd a X sc N x hN hs B J).1;exact Yg ((Xys B.err B.blt hs (Yo hs h1) U ih h2).congr λenv S=>by simp only[ev]<;>rfl) λ_=>rfl|.call f es=>λX sc N e hN hs B h=>by obtain⟨x,p0,y,ys,p,rfl,h1,h2,J,U⟩:=Xyi h;obtain⟨o1,o2,_⟩:=Xad J;obtain⟨fl,h1,ac⟩:=h1;obtain⟨g,fd,ps,k,c1,c2,c3,c4,c5,c6⟩:=B.fn f x _ fl h1 ac;have st:=Xa9 es (y::ys) U;rw[Vb7,bA0]at st;exact Yg ((X1i c1 c2 c3 (Yo hs h2) c4 c5 (snds es X sc N (y::ys) hN hs B U) (λenv S ds S' q=>by rw[c6];exact Xn2 es (y::ys) U env S ds S' q) o1 (Xl st.1) (Xal st.2)).congr λenv S=>by simp only[ev]) λ_=>rfl|.blt k es=>λX sc N e hN hs B h=>by obtain⟨x,p0,y,ys,p,rfl,h1,hq,h2,J,U⟩:=X23 h;obtain⟨o1,o2,o3⟩:=Xad J;have st:=Xa9 es (y::ys) U;rw[Vb7,bA0]at st;have ih:=snds es X sc N (y::ys) hN hs B U;exact Yg (Xue B.err.sm B.gd B.units (Yo hs h2) B.blt (λz=>B.calm (by rw[z,Bool.or_false]at hq;exact hq)) h1 o1 o3 ih (Xl st.1) (Xal st.2)) λ_=>rfl|.mth k o es=>λX sc N e hN hs B h=>by obtain⟨ox,nm,ap,y,ys,cp,rfl,h1,h2,J,U,h5,h6⟩:=X24 h;have st:=Xa9 es (y::ys) h6;have ih:=snds es X sc N (y::ys) hN hs B h6;have io:=(snd o X sc N ox hN hs B h5).1;exact Yg (Xuf h1 h2 J U io ih st) λ_=>rfl|.lns a=>λX sc N e hN hs B h=>by obtain⟨p,p2,x,cp,ab,rfl,h1,h2,J,U,h5⟩:=X20 h;have ih:=(snd a X sc N x hN hs B h5).1;exact Yg ((X5u B.units (B.calm h1) (Yo hs h2) (B.blt _ (by decide)) (Yo hs J) (B.blt _ (by decide)) ih (Xl U)).congr λenv S=>by simp only[ev]<;>rfl) λ_=>rfl|.dcl a=>λX sc N e hN hs B h=>by obtain⟨p,x,cp,rfl,h1,h2,J,U⟩:=X21 h;have ih:=(snd a X sc N x hN hs B U).1;exact Yg ((X50 B.units (B.calm h1) (Yo hs h2) (B.blt _ (by decide)) ih (Xl J)).congr λenv S=>by simp only[ev]<;>rfl) λ_=>rfl|.idc a b=>λX sc N e hN hs B h=>by obtain⟨x,y,p,rfl,h1,h2,J⟩:=X22 h;have L:=(snd a X sc N x hN hs B h2).1;have hb:=(snd b X sc N y hN hs B J).1;have ho:=X51 (X:=X) (by have:=B.units;omega);exact⟨DE.congr (λpa s σ H ρ S env I nb=>wpAny_Compare1 (two ho L hb I nb rfl) h1) λenv S=>by simp only[ev]<;>rfl,(Xnb X3a ho L hb h1).congr λenv S=>by simp only[ev]<;>rfl⟩|.cmr k n gs elt=>λX sc N e hN hs B h=>by obtain⟨ee,gens,scope,p,rfl,h0,h1,h2,J,U,h5⟩:=Xrq h;subst h1 h2;have so:=Xrn J;have aa:=B.calm h0;obtain⟨c⟩:=Xn3 (p:=p) hN hs B aa so (sndg gs X sc N _ _ gens hN hs B U) (λY y1 y2 y3=>(snd elt Y _ _ ee y1 y2 y3 h5).1);subst hN hs;refine Yg ?_ λ_=>rfl;rw[c.eq];exact X10 aa so rfl c.hg c.hi c.hs c.hG c.hT c.hB
theorem sndo:∀(o:Op) (X:Cx) (sc:Ue) (N:LS) (x:Option Expr),X.N=N->X.env.scope=sc->PF cm F G fns gns X->mto cm fns gns sc N o x=yx->DO X x (evo F G o)
 |.none=>λX sc N x hN hs B h=>by
  cases x with
  |none=>
   have:evo F G .none=λ_ S=>.ok yy S:=by funext env S;simp only[evo]
   rw[this];exact Xnz|some _=>cases h
 |.some e=>λX sc N x hN hs B h=>by
  cases x with
  |none=>cases h|some x=>
   have h':mt cm fns gns sc N e x=true:=h;have:evo F G (.some e)=λenv S=>(ev F G e env S).bind λx S=>.ok (yz x) S:=by funext env S;simp only[evo]
   rw[this];exact Xn0 (snd e X sc N x hN hs B h').1
theorem snds:∀(es:Exs) (X:Cx) (sc:Ue) (N:LS) (xs:LX),X.N=N->X.env.scope=sc->PF cm F G fns gns X->mts cm fns gns sc N es xs=yx->DA X xs (evs F G es)
 |.nil,X,sc,N,[]=>λhN hs B h=>by
  have:evs F G .nil=λ_ S=>.ok [] S:=by funext env S;simp only[evs]
  rw[this];exact X1a|.cons e es,X,sc,N,x::xs=>λhN hs B h=>by
  simp only[mts,bA0]at h;have:evs F G (.cons e es)=λenv S=>(ev F G e env S).bind λx S=>(evs F G es env S).bind λxs S=>.ok (x::xs) S:=by funext env S;simp only[evs]
  rw[this];exact Xxb (snd e X sc N x hN hs B h.1.2).1 (snds es X sc N xs hN hs B h.2) (Xl h.1.1)|.nil,X,sc,N,_::_=>λhN hs B h=>by simp[mts]at h|.cons _ _,X,sc,N,[]=>λhN hs B h=>by simp[mts]at h
theorem Xpm:∀(es:Exs) (X:Cx) (sc:Ue) (N:LS) (xs:LX),X.N=N->X.env.scope=sc->PF cm F G fns gns X->mts cm fns gns sc N es xs=yx->DTs X xs (evts F G es)
 |.nil,X,sc,N,[]=>λhN hs B h=>by
  have:evts F G .nil=λ_ S=>.ok yx S:=by funext env S;simp only[evts]
  rw[this];exact Xxt|.cons e es,X,sc,N,x::xs=>λhN hs B h=>by
  simp only[mts,bA0]at h;have:evts F G (.cons e es)=λenv S=>(ev F G e env S).bind λx S=>match Xh S x with|some yx=>evts F G es env S|some yw=>.ok yw S|none=>.bad:=by funext env S;simp only[evts]<;>rfl
  rw[this];exact Xtl (snd e X sc N x hN hs B h.1.2).2 (Xpm es X sc N xs hN hs B h.2)|.nil,X,sc,N,_::_=>λhN hs B h=>by simp[mts]at h|.cons _ _,X,sc,N,[]=>λhN hs B h=>by simp[mts]at h
theorem Xpn:∀(it:It) (X:Cx) (sc:Ue) (N:LS) (tg x:Expr),X.N=N->X.env.scope=sc->PF cm F G fns gns X->(Xpg it=yx->∃es k p,tg=.Tuple es k p)->mtI cm fns gns sc N it x=yx->DI X tg x (evit F G it)
 |.val e=>λX sc N tg x hN hs B _ h=>by
  simp only[mtI]at h;have:evit F G (.val e)=λenv S=>(ev F G e env S).bind λx S=>match Yw S x with|some r=>.ok r S|none=>.bad:=by funext env S;simp only[evit]<;>rfl
  rw[this];exact X1u (snd e X sc N x hN hs B h).1|.rng es=>λX sc N tg x hN hs B _ h=>by
  obtain⟨U,y,ys,p,rfl,h2,J⟩:=Xyk h;have st:=Xa9 es (y::ys) J;rw[Vb7,bA0]at st;have:evit F G (.rng es)=λenv S=>(evs F G es env S).bind λxs S=>match Ys xs with|some ds=>.ok (.con ds) S|none=>.bad:=by funext env S;simp only[evit]<;>rfl
  rw[this];exact X1v (Yo hs h2) (B.blt _ (by decide)) (snds es X sc N (y::ys) hN hs B J) (Xl st.1) (Xal st.2)|.enm es=>λX sc N tg x hN hs B L h=>by
  obtain⟨U,y,ys,p,rfl,h2,J⟩:=Xyj h;obtain⟨ts,k,Y,rfl⟩:=L rfl;have st:=Xa9 es (y::ys) J;rw[Vb7,bA0]at st;have:evit F G (.enm es)=λenv S=>(evs F G es env S).bind λxs S=>match xs with
   |[x]=>match Yw S x with
    |some s=>.ok (.enm s) S|none=>.bad
   |_=>.bad:=by funext env S;simp only[evit]<;>rfl
  rw[this];exact X1w (Yo hs h2) (B.blt _ (by decide)) (snds es X sc N (y::ys) hN hs B J) (Xl st.1) (Xal st.2)
theorem sndg:∀(gs:Gens) (X:Cx) (sc:Ue) (N:LS) (sc2:Ue) (N2:LS) (gens:List Vbg),X.N=N->X.env.scope=sc->PF cm F G fns gns X->mtG cm fns gns sc N sc2 N2 gs gens=yx->X3d F G X sc2 N2 (PF cm F G fns gns) gs gens
 |.nil=>λX sc N sc2 N2 gens hN hs hp h=>(X5v h).elim|.cons t it ifs .nil=>λX sc N sc2 N2 gens hN hs hp h=>by obtain⟨tg,iter,cs,rfl,h2,h3,h4,h5,h6⟩:=X5w h;exact⟨tg,iter,cs,rfl,h2,hN▸h3,Xpn it X sc N tg iter hN hs hp (Xgv h6 h3) h4,λY J U L=>Xpm ifs Y sc2 N2 cs J U L h5⟩|.cons t it ifs (.cons t2 it2 ifs2 .nil)=>λX sc N sc2 N2 gens hN hs hp h=>by obtain⟨tg,iter,cs,ab,B,aa,rfl,h3,h4,h5,h6,h7,h8,h9,ae,ac,af⟩:=X5x h;exact⟨tg,iter,cs,ab,B,aa,rfl,h3,h4,hN▸h5,hN▸h8,Xpn it X sc N tg iter hN hs hp (Xgv ac h5) h6,λY J U L=>Xpm ifs Y sc2 N2 cs J U L h7,λY J U L=>Xpn it2 Y sc2 N2 ab B J U L (Xgv af h8) h9,λY J U L=>Xpm ifs2 Y sc2 N2 aa J U L ae⟩|.cons t it ifs (.cons t2 it2 ifs2 (.cons _ _ _ _))=>λX sc N sc2 N2 gens hN hs hp h=>(X5y h).elim
end
variable{X:Cx}{pa:LA}{σ:L2.St}{H:Hp}{s:Vc}{ρ:LR}{S S':Sto}{env:En}{a b c e tg:Expr}{f fc:En->Sto->R D}{pos:Pos}
theorem X3f(Y:DE X e f)(hg:DG X tg t)(hs:Vc7 [tg] e pos.line X.env=pure yw)(hw:Vc8 [tg] e X.env=pure yy)(h1:(Va1 [tg] X.env).map (·.2)=[assign tg X.env]):
  DS X (.Assign [tg] e pos) yw (λenv S=>(f env S).bind λx S=>match Xn t x env with|some env=>.ok (.nx env) S|none=>.bad):=by
 intro pa s σ H ρ S env I L;dsimp only at L ⊢;cases q:f env S with
 |bad=>rw[q]at L;cases L rfl|ex n S1=>exact Vgi (Y.ex I q λx s' z=>.of .refl z rfl) hs hw|ok d S1=>
  rw[q]at L;simp only[Rk0]at L ⊢;cases q2:Xn t d env with
  |none=>rw[q2]at L;cases L rfl|some B=>refine Vgi (Y.ok I q λu s' v H' ρ' J rv rd st=>?_) hs hw;rw[h1];exact hg pa s' σ H' ρ' S1 env d v u B _ _ J q2 rd rv λs2 U I2=>⟨.nx B,S1,rfl,rfl,U,H',ρ',I2,st,λz=>nomatch z⟩
theorem Xyt{kt k2 pt2}(hc:X.calm=yx)(hN:X.N.Nodup)(hi:X.N[i]?=yz x)(hj:X.N[j]?=yz y)(aa:i≠j)
  (hx:X.env.scope.names.lookup x=yz .local) (hy:X.env.scope.names.lookup y=yz .local) (ha:DA X [a,b] ga)
  (hw:Vc8 [.Tuple [.Name x px,.Name y py] kt pt] (.Tuple [a,b] k2 pt2) X.env=pure (yz [x,y]))
  (hs:Vc7 [.Tuple [.Name x px,.Name y py] kt pt] (.Tuple [a,b] k2 pt2) pos.line X.env=pure yw):
  DS X (.Assign [.Tuple [.Name x px,.Name y py] kt pt] (.Tuple [a,b] k2 pt2) pos) yw (λenv S=>(ga env S).bind λxs S=>if [i,j].length=la xs then .ok (.nx (([i,j].zip xs).foldl (λe p=>e.set p.1 (yz p.2)) env)) S else .bad):=by
 intro pa s σ H ρ S env I B;dsimp only at B ⊢;rw[exec_Assign_arm];refine Va (Vc6 ?_);rw[hs];refine Va (Vd ?_);rw[iN0 (by decide)];cases q:ga env S with
 |bad=>rw[q]at B;cases B rfl|ex n S1=>exact Va (Tuple_ (ha.ex I q λx s' z=>.of .refl z rfl))|ok ds S1=>
  rw[q]at B;simp only[Rk0]at B ⊢;split at B
  ·rename_i hl;rw[iP0 hl];obtain⟨Y,d2,rfl⟩:∃Y d2,ds=[Y,d2]:=by
    match ds,hl with
    |[Y,d2],_=>exact⟨Y,d2,rfl⟩
   refine Va (Tuple_ (ha.ok I q λus J vs H1 ah I1 ae ab aj=>?_));obtain⟨v,w,rfl,ac,ai⟩:=ab.two;obtain⟨U,L,rfl,rv,af⟩:∃U L,us=[U,L]/\RelV v U/\RelV w L:=by
    cases ae with
    |cons p q=>
     cases q with
     |cons p' q'=>cases q';exact⟨_,_,rfl,p,p'⟩
   refine Va2 ?_ (by show 2<=Vu;decide);have I2:Inv X pa σ H1 {J with heap:=J.heap.push {cls:=.type "tuple",data:=.seq [U,L].toArray} }:=I1.inv.kept (t':=J.toks) λb o e=>Vg _ e;rw[hw];refine Va (Vd ?_);show Vf (Vj X.prog X.w) X.A (do rule "assign.swapped-stores";let items <- unpackItems (.ref J.heap.objs.size) 2 yy;assignInOrder [λv=>bindName X.env y v,λv=>bindName X.env x v] items.reverse;pure Flow.next) _ _ _;refine Va (Vde (Va (unpackItems_tuple (items:=#[U,L]) (I.inv.ok.hd hc) (IsTup.new J.heap _) λh' ak=>?_)));have I3:=I2.kept (h':=h') (t':=J.toks) λb o e=>ak b o (Vz (Vr e)) e;show Vf _ _ (assignInOrder [λv=>bindName X.env y v,λv=>bindName X.env x v] [L,U] >>= λ_=>pure Flow.next) _ _ _;refine Va (Vgo (wpAny_bindName (Xa5 I3 hN hj (.inl hy) af (λs2 I4=>?_) (.inr hy))));refine Vgo (wpAny_bindName (Xa5 I4 hN hi (.inl hx) rv (λs3 I5=>assignInOrder_nil (Vd ?_)) (.inr hx)));rw[List.set_comm _ _ (Ne.symm aa)]at I5;exact⟨.nx ((env.set i (yz Y)).set j (yz d2)),S1,rfl,rfl,_,H1,ah,⟨I5,I1.sr,(I1.er.set i ac).set j ai⟩,aj,λz=>nomatch z⟩
  cases B rfl
theorem X3g(hu:X.A.units+1<Vbe)(I:S0 X pa σ H s ρ S env)(B:Xcy x y d S≠.bad)(rx:RD X.K ρ H x vx)(qx:RelV vx ux)(ry:RD X.K ρ H y vy)(qy:RelV vy uy)(rd:RD X.K ρ H d v)(rv:RelV v u)
  (L:∀S' s' H',Xcy x y d S=.ok () S'->S0 X pa σ H' s' ρ S' env->Stp X.K ρ ρ H H'->Q () s'):Vf (Vj X.prog X.w) X.A (setItem ux uy u) Q Ev s:=by
 unfold Xcy at B L;cases x with
 |ref n=>dsimp only at B L;cases y with
  |int k=>
   dsimp only at B L;cases e:Z.lstM S n with
   |none=>rw[e]at B;cases B rfl|some xs=>
    rw[e]at B L;dsimp only at B L;cases Y:Z.ixN (la xs) k with
    |none=>rw[Y]at B;cases B rfl|some j=>
     rw[Y]at L;obtain⟨a,U,rfl,ha,hv,hr⟩:=I.lstR e rx;simp only[RD]at ry;subst ry;have hl:L2.ixN U.length k=yz j:=by rw[<-hr.length];exact Y
     refine thn (Xs6 (X:=X.wish Ev) pa s σ H (.ref a) (.int k) v ux uy u (λH'=>H'=upd H a (.lst (U.set j v))) (I.inv.wish Ev) qx qy rv ⟨a,U,k,j,rfl,rfl,hv,hl,rfl⟩) λ_ s' ⟨H',J,e3⟩=>?_;subst e3;have nf:∀o u,H a≠yz (.frz o u):=λo u z=>by rw[hv]at z;cases z
     have st:Stp X.K ρ ρ H (upd H a (.lst (U.set j v))):=Stp.chg (S:=S) (o:=.lst (xs.set j d)) I.sr ha nf;exact L _ s' _ rfl ⟨J.unwish,I.sr.chg ha nf ⟨U.set j v,Xm,(hr.set rd j).mono st⟩,I.er.mono st⟩ st
  |_=>cases B rfl
 |_=>cases B rfl
variable{o i:Expr}{fo fi:En->Sto->R D}{spos:Pos}
theorem Xyu(hu:X.A.units+1<Vbe)(he:DE X e f)(ho:DE X o fo)(hi:DE X i fi)(hs:Vc7 [.Subscript o i spos] e pos.line X.env=pure yw)(hw:Vc8 [.Subscript o i spos] e X.env=pure yy)
  (hA:∀v,assign (.Subscript o i spos) X.env v=(do
   let ov <- Vdo [v] (eval o X.env)
   let iv <- Vdo [v,ov] (eval i X.env)
   standAt spos
   Vdo [v,ov,iv] (setItem ov iv v)
   release [v,ov,iv] [])):
  DS X (.Assign [.Subscript o i spos] e pos) yx (λenv S=>(f env S).bind λv S=>(fo env S).bind λx S=>(fi env S).bind λy S=>(Xcy x y v S).bind λ_ S=>.ok (.nx env) S):=by
 intro pa s σ H ρ S env I Y;dsimp only at Y ⊢;generalize hr:(f env S).bind (λv S=>(fo env S).bind λx S=>(fi env S).bind λy S=>(Xcy x y v S).bind λ_ S=>R.ok (Fl.nx env) S)=r at Y ⊢;have h1:(Va1 [Expr.Subscript o i spos] X.env).map (·.2)=[assign (.Subscript o i spos) X.env]:=rfl;refine Vgi (he.bind I (by rw[hr];exact Y) hr.symm (λd S1 u s1 v H1 ak e1 ae I1 rv rd L=>?_) λx s' ⟨n,S2,e2,z⟩=>.of .refl z e2) hs hw;rw[h1];show Vf _ _ (assign (.Subscript o i spos) X.env u) _ _ _;rw[hA];refine Va (Uw (ho.bind I1 ae e1 (λx S2 ux s2 vx H2 al e2 ab I2 U ah J=>?_) λx s' ⟨n,S3,e3,z⟩=>.of L z e3));refine Va (Uw (hi.bind I2 ab e2 (λy S3 uy s3 vy H3 aj e3 ai I3 ac af B=>?_) λx s' ⟨n,S4,e4,z⟩=>.of (L.trans J) z e4));refine Va (Vc6 (Va (Uw (X3g hu I3 (λz=>ai (by rw[z];rfl)) (ah.mono B) U af ac ((rd.mono J).mono B) rv λS4 s4 H4 e4 I4 aa=>?_))));refine wpAny_release ⟨.nx env,S4,by rw[e3,e4];rfl,rfl,σ,H4,aj,I4,L.trans (J.trans (B.trans aa)),λ_=>rfl⟩
theorem X55(I:S0 X pa σ H s ρ S env)(L:Xfv op x y S≠.bad)(B:RD X.K ρ H x vx)(Y:RelV vx ux)(J:RD X.K ρ H y vy)(U:RelV vy uy):
  Vf (Vj X.prog X.w) X.A (inplaceOp (opB op) ux uy) (OkP X pa σ ρ H (Xfv op x y S)) Ev s:=by
 unfold Xfv at L ⊢;split at L;·simp only[RD]at B J;subst B J;obtain⟨t,rfl⟩:=Y;obtain⟨t',rfl⟩:=U;exact iadd_int (Yx I.sr (I.inv.tok _))
 ·simp only[RD]at B J;subst B J;obtain⟨t,rfl⟩:=Y;obtain⟨t',rfl⟩:=U;exact isub_int (Yx I.sr (I.inv.tok _))
 ·simp only[RD]at B J;subst B J;obtain⟨t,rfl⟩:=Y;obtain⟨t',rfl⟩:=U;split at L;·rename_i hm;rw[iP0 hm];exact imul_int (Yx I.sr (I.inv.tok _)) (Xk0 hm)
  ·cases L rfl
 ·cases L rfl
theorem X3h(hN:X.N.Nodup)(hi:X.N[k]?=yz x)(hx:Loc X.env.scope x)(hf:X.fn x=yx\/X.env.scope.names.lookup x=yz .local)(he:DE X e f):
  DS X (.AugAssign (.Name x spos) (opB op) e pos) yw (λenv S=>match env[k]? with
   |some (yz x)=>(f env S).bind λy S=>(Xfv op x y S).bind λz S=>.ok (.nx (env.set k (yz z))) S
   |_=>.bad):=by
 intro pa s σ H ρ S env I U;dsimp only at U ⊢;split at U
 ·rename_i d hd;obtain⟨v,e1,rd⟩:=I.er.2 k d hd;generalize hr:((f env S).bind λy S=>(Xfv op d y S).bind λz S=>R.ok (Fl.nx (env.set k (yz z))) S)=r at U ⊢;obtain⟨m,hn,hl⟩:=I.inv.loc;have aj:Vis X.env.scope x:=by rcases hx with k|k;exact .inl k;exact .inr (.inl k)
  obtain⟨u,rv,l⟩:=hl k x v hi e1 aj;refine wpAny_AugAssign_Name ?_;have go:Vf (Vj X.prog X.w) X.A (eval e X.env) (λw Y=>Vf (Vj X.prog X.w) X.A (inplaceOp (opB op) u w) (λz L=>Vf (Vj X.prog X.w) X.A (storeName X.env x z) (λ_=>OkS X pa σ ρ H yw r .next) (ExS X pa σ ρ H yw r) L) (ExS X pa σ ρ H yw r) Y) (ExS X pa σ ρ H yw r) s:=by refine he.bind I (by rw[hr];exact U) hr.symm (λd2 S1 w s1 v2 H1 al e2 af I1 ae ah aa=>?_) λx s' ⟨n,S2,e2,z⟩=>.of .refl z e2;refine Vo (X55 (Ev:=λ_ _=>False) I1 (λz=>af (by rw[z];rfl)) (rd.mono aa) rv ah ae) (λz s3 hz=>?_) λ_ _ z=>z.elim;obtain⟨d3,S3,e3,v3,H3,ak,J3,ab,ai,ac,J⟩:=hz;exact Xa5 J3 hN hi hx ab (λs4 I4=>⟨.nx (env.set k (yz d3)),S3,by rw[e2,e3];rfl,rfl,_,H3,ak,⟨I4,ac,(I1.er.mono J).set k ai⟩,aa.trans J,λz=>nomatch z⟩) hf
  rcases l with⟨B,hm⟩|⟨B,c,hc,hcell⟩;·exact wpAny_loadName_local I.inv.ok.kind B hn hm go
  ·rcases B with B|B;·exact wpAny_loadName_cell I.inv.ok.kind B hc hcell go
   ·rcases hx with k|k;·have:X.env.scope.names.lookup x=yz .free:=B;rw[k]at this;cases this
    ·have:X.env.scope.names.lookup x=yz .free:=B;rw[k]at this;cases this
 ·cases U rfl
theorem X3i(hc:DT X c (λenv S=>tst (fc env S)))(hb:DSs X body na g):
  DS X (.While c body [] pos) yw (λenv S=>Yj (λenv S=>tst (fc env S)) g 100000 env S):=by
 intro pa s σ H ρ S env I nb;dsimp only at nb ⊢;have hp:PassesOwn (Vj X.prog X.w) X.A X.env (λ_ _=>False):=PassesOwn.never;generalize hn:100000=n0 at nb ⊢;generalize aa:Yj (λenv S=>tst (fc env S)) g n0 env S=r0 at nb ⊢;refine Vo (E:=λ_ _=>False) (wpAny_While (codeAny_whileLoop (λn s'=>∃ ah H' ρ' S' Y,S0 X pa ah H' s' ρ' S' Y/\Stp X.K ρ ρ' H H'/\Yj (λenv S=>tst (fc env S)) g n Y S'≠.bad/\Yj (λenv S=>tst (fc env S)) g n Y S'=r0) ?_ n0 ⟨σ,H,ρ,S,env,I,.refl,by rw[aa];exact nb,aa⟩)) (λ_ _ z=>z) λ_ _ z=>z.elim;rintro n s3 ⟨σ3,H3,ρ3,S3,env3,I3,st3,nb3,eq3⟩;cases n with
 |zero=>cases nb3 rfl|succ n=>
  simp only[Yj]at nb3 eq3;cases e4:tst (fc env3 S3) with
  |bad=>rw[e4]at nb3;cases nb3 rfl|ex m S4=>rw[e4]at nb3;cases nb3 rfl|ok t S4=>
   refine wpAny_passesOwn hp (hc.ok I3 e4 λs4 H4 ae I4 U=>?_);rw[e4]at nb3 eq3;cases t with
   |false=>rw[iN0 Ui];exact Vf8 ⟨.nx env3,S4,eq3.symm,rfl,σ3,H4,ae,I4,st3.trans U,λz=>nomatch z⟩|true=>
    rw[iP0 rfl];dsimp only at nb3 eq3;cases e5:g env3 S4 with
    |bad=>rw[e5]at nb3;cases nb3 rfl|ex m S5=>rw[e5]at nb3;cases nb3 rfl|ok x5 S5=>
     rw[e5]at nb3 eq3;refine wpAny_passesOwn hp (hb.ok I4 e5 λfl s5 z5=>?_);cases x5 with
     |nx e=>obtain⟨rfl,J,H5,B,I5,L,_⟩:=z5;exact⟨n,Vb9 _,J,H5,B,S5,e,I5,st3.trans (U.trans L),nb3,eq3⟩|cnt e=>obtain⟨rfl,J,H5,B,I5,L⟩:=z5;exact⟨n,Vb9 _,J,H5,B,S5,e,I5,st3.trans (U.trans L),nb3,eq3⟩|brk e=>obtain⟨rfl,J,H5,B,I5,L⟩:=z5;exact⟨.nx e,S5,eq3.symm,rfl,J,H5,B,I5,st3.trans (U.trans L),λz=>nomatch z⟩|rt d=>obtain⟨u,v,J,H5,B,rfl,J5,af,ac,ab,L⟩:=z5;exact⟨.rt d,S5,eq3.symm,u,v,J,H5,B,rfl,J5,af,ac,ab,st3.trans (U.trans L)⟩
end
def X3j(C:Addr)(h:Heap):Prop:=∃tl N nm qn bs hd L sub ab B dd U k1 k2 Y k5 J,
 h.get? C=yz (excClassObj nm qn C N bs tl hd L sub ab B dd U k1 k2 Y k5 "ValueError.__new__")/\h.Ns N J/\J "__init__"=yy/\OwnTail h bmV tl
theorem Xyv{K:Ve}{h:Heap}{C:Addr}(L:K.In h)(B:Xln K C=yx):X3j C h:=by
 unfold Xln at B;cases lk:K.lookup C with
 |none=>rw[lk]at B;cases B|some o=>
  rw[lk]at B;dsimp only at B;cases J:Xt6 o.data with
  |none=>rw[J]at B;cases B|some cd=>rw[J]at B;simp only[bA0,beq_iff_eq,Vat]at B;obtain⟨⟨⟨⟨⟨⟨e0,e1⟩,Y⟩,e3⟩,e4⟩,U⟩,e6⟩:=B;obtain⟨cl,dct,dt,aa⟩:=o;obtain⟨nm,bs,ac,ns,qn,hd,sn,sub,ab,ae,af⟩:=cd;dsimp only at e0 e1 Y e3 e4 U e6 J;obtain rfl:=Xyl J;obtain⟨tl,e7⟩:∃tl,ac=.ref C::tl:=⟨_,e1⟩;obtain⟨k0,k1,k2,k3,k5,e8⟩:∃k0 k1 k2 k3 k5,aa=#[k0,k1,k2,k3,yz (.builtin "ValueError.__new__"),k5]:=⟨_,_,_,_,_,Y⟩;clear e1 Y;subst e0 e3 e7 e8;exact⟨tl,_,_,_,_,_,_,_,_,_,_,_,_,_,_,_,_,L _ _ lk,.of_isNs (PySem.W.isNs_of_in L U),PySem.W.nsMap_none_of_in L U e6,PySem.W.tail_of_in L e4⟩
theorem _root_.L2.Inv.newX(I:Inv X pa σ H s)(k:∀b u,s.heap.get? b=yz u->h'.get? b=yz u)(hn:s.heap.get? a=yy)
  (new:ObjOk X.prog X.w (upd H a o) h' a o):Inv X pa σ (upd H a o) {s with heap:=h' }/\HOk X.prog X.w (upd H a o) h':=by
 have B:H a=none:=by
  cases z:H a with
  |none=>rfl|some w=>obtain⟨q,e⟩:=Xbw (I.hok a w z);rw[hn]at e;cases e
 have ne:∀b u,H b=yz u->b≠a:=λb u q=>Xk q B;have hok:HOk X.prog X.w (upd H a o) h':=λb u q=>by
  by_cases J:b=a;·subst J;rw[Xm]at q;cases q;exact new
  ·rw[Xe J]at q;exact(I.hok b u q).stay (λc v _ e=>k c v e) (λc z=>by rw[Xe (ne c _ z)];exact z) λc xs _ z=>by rw[Xe (ne c _ z)];exact z
 refine⟨I.un (t':=s.toks) ⟨λb u e _ _ _=>k b u e,λb u e _ _ _=>⟨u.slots,k b u e⟩,λb u e n _=>?_,λb u e _=>⟨u,k b u e⟩,λb xs z=>by rw[Xe (ne b _ z)];exact z,λb u xs z=>by rw[Xe (ne b _ z)];exact z,λb ps z=>by rw[Xe (ne b _ z)];exact z⟩ hok,hok⟩;rw[Xe (λz=>by rw[z,hn]at e;cases e)];exact n
section
variable{X:Cx}{pa:LA}{σ:L2.St}{H:Hp}{s:Vc}{ρ:LR}{S:Sto}{env:En}{e:Expr}{f:En->Sto->R D}{pos np cpos:Pos}
theorem X3k{c:Nat}{x:Str}{C:Addr}(hc:X.calm=yx)(hx:Xbe c=yz x)(hn:Vaa X.K Ub x=yz (yz (.ref C)))(hq:Xln X.K C=yx)
  (hg:Gl X x) (af:(x==("__debug__" : Str))=yw) (he:DE X e f) (Y:Xy e=yx):DS X (.Raise (yz (.Call (.Name x np) [e] [] cpos)) yy pos) yx (λenv S=>(f env S).bind λ_ S=>.ex (la S) (S++[.exc c])):=by
 intro pa s σ H ρ S env I nb;dsimp only at nb ⊢;have hm:X.mg x=yz (.ref C):=Vcl I.inv.mod.kin I.inv.mod.glob hn;have ah:Y9 X.K c=yz C:=by unfold Y9;rw[hx];simp only[V1,hn]
 obtain⟨tl,N,nm,qn,bs,hd,sn,sub,ab,U,dd,k0,k1,k2,k3,k5,mN,hC,hN,ac,T⟩:=Xyv I.inv.mod.kin hq;refine wpAny_Raise_call_subT (C:=C) (nm:=nm) (q:=qn) (N:=N) (bs:=bs) (bm:=tl) (hdct:=hd) (sn:=sn) (sub:=sub) (ab:=ab) (col:=U) (dd:=dd) (k0:=k0) (k1:=k1) (k2:=k2) (k3:=k3) (k5:=k5)
  PySem.F.excBase_ValueError (mN:=mN) (T.hasType PySem.F.excBase_ValueError.hasBase) (I.inv.ok.hd hc) (by rw[Xl Y];rfl) ac (Xda I.inv hg hm ⟨rfl,?_⟩ af)
 rw[Xl Y];refine Vgb ?_;generalize hr:((f env S).bind λ_ S=>(R.ex (la S) (S++[.exc c]):R Fl))=r at nb ⊢;refine Vam (he.bind I (by rw[hr];exact nb) hr.symm (λd S1 u s1 v H1 ae e1 aj L rv rd ai=>Vck ?_) λy s' ⟨n,S2,z1,z2⟩=>⟨n,S2,σ,z1,λ_=>rfl,z2⟩);refine⟨rfl,by simp[Vu],L.inv.bk _ _ hC,hN.keeps L.inv.bk,T.keeps L.inv.bk,λh' a B=>?_⟩;obtain⟨t,h1,h2,h3⟩:=B.there;have aa:H1 a=none:=by
  cases z:H1 a with
  |none=>rfl|some w=>obtain⟨o,e⟩:=Xbw (L.inv.hok a w z);rw[B.new]at e;cases e
 have xo:ExcO C a h':=⟨_,_,_,h1,rfl,rfl,rfl,by simp⟩;obtain⟨J,hok⟩:=L.inv.newX B.keeps B.new xo.ok;refine⟨(la S1),S1++[.exc c],σ,e1,λ_=>rfl,_,ae++[a],a,c,J,rfl,?_,by simp,L.sr.new1 (o:=.exc c) aa ⟨C,ah,Xm⟩,ai.trans (Stp.new1 aa),.inl ⟨_,_,h1,rfl,rfl⟩⟩;rw[<-L.sr.len];simp
end
noncomputable def inH(X:Cx)(a:Addr):Cx:={ X with A:=X.A.mark (yz (.ref a)),calm:=yw}
section
variable{X:Cx}{pa:LA}{σ:L2.St}{H:Hp}{s:Vc}{a:Addr}
theorem Inv.inH(I:Inv X pa σ H s)(a:Addr):Inv (inH X a) pa σ H s:=
 ⟨⟨I.ok.mod,I.ok.kind,I.ok.glob,I.ok.blt,I.ok.above,I.ok.inj,I.ok.has,I.ok.cab,(λz=>nomatch z),I.ok.frames,I.ok.stk,I.ok.exf,I.ok.bs,I.ok.bsz,I.ok.noex,I.ok.exfs,I.ok.funs,I.ok.frf⟩,I.os,I.bare,I.base,I.loc,I.cell,I.free,I.freeC,I.pin,I.hok,I.len⟩
theorem Inv.outH(I:Inv (Z.inH X a) pa σ H s)(ok:X.Ok):Inv X pa σ H s:=⟨ok,I.os,I.bare,I.base,I.loc,I.cell,I.free,I.freeC,I.pin,I.hok,I.len⟩
theorem Inv.goes(I:Inv X pa σ H s)(hl:X.env.scope.names.lookup n=yz .local)
  (h:∀s',Inv X pa (Vi σ.length yy) H s'->Q () s'):Vf M A (do bindName X.env n .none;unbindBehindTheSuite X.env n p) Q E s:=by
 obtain⟨m,hn,_⟩:=I.loc;refine wpAny_nameGoes hl hn (by rw[I.ok.kind];rfl) λh' m' U sb=>h _ ?_;obtain⟨o,es,ep,ho,r⟩:=id hn;obtain⟨o',aa,ac,ab,r'⟩:=id U;have B:∀b u,X.s₀.heap.get? b=yz u->b≠X.env.locals:=λb u e=>Vz (V0 (Vr e) I.ok.above);have J:∀x c,X.env.cells.lookup x=yz c->∀v,s.heap.IsCell c v->h'.IsCell c v:=λx c e v ⟨u,hu,hd⟩=>⟨u,(sb.2 c (I.cne x c e)).trans hu,hd⟩;refine⟨I.ok,I.os,I.bare,⟨λb u e q hb L=>(sb.2 b (B b u e)).trans (I.base.keep b u e q hb L),λb u e q hb L=>?_,I.base.free,λb u e L=>?_,I.base.tups,I.base.frzs,I.base.tbls⟩,⟨m',U,λi x v _ Y _=>?_⟩,λx c e=>?_,I.free,I.freeC,λp hp=>?_,λb u q=>?_,by rw[List.length_replicate];exact I.len⟩;·obtain⟨sl,z⟩:=I.base.slot b u e q hb L;exact⟨sl,(sb.2 b (B b u e)).trans z⟩
 ·obtain⟨w,z⟩:=I.base.there b u e L;exact⟨w,(sb.2 b (B b u e)).trans z⟩
 ·rw[Vcn]at Y;split at Y<;>cases Y
 ·obtain⟨v,z⟩:=I.cell x c e;exact⟨v,J x c e v z⟩
 ·obtain⟨e,n,ne,r⟩:=I.pin p hp;exact⟨(sb.2 _ ne).trans e,n,ne,r⟩
 ·have ne:∀c v,H c=yz v->c≠X.env.locals:=λc v z=>Xk z I.free;refine(I.hok b u q).stay (λc v hc e=>?_) (λ_ z=>z) λ_ _ _ z=>z;rcases hc with rfl|hc;·exact(sb.2 _ (ne _ _ q)).trans e
  ·exact(sb.2 _ (ne _ _ hc)).trans e
noncomputable def Xuh(c i:Nat)(g B:En->Sto->R Fl)(env:En)(S:Sto):R Fl:=match g env S with
 |.ex m S'=>match S'[m]? with
  |some (.exc c')=>if c==0||c==c' then
    match B (env.set i (yz (.ref m))) S' with
    |.ok (.rt d) S''=>.ok (.rt d) S''|_=>.bad
   else .bad|_=>.bad
 |r=>r
theorem X3l(hs:X.stack=X.env::X.outer)(hf:X.env.frame=yz X.env.locals)
  (hN:X.N.Nodup) (hi:X.N[i]?=yz n) (hl:X.env.scope.names.lookup n=yz .local) (hn:Vaa X.K Ub x=yz (yz (.ref C0))) (hg:Gl X x) (an:(x==("__debug__" : Str))=yw)
  (hm:∀c' C,Y9 X.K c'=yz C->(c==0||c==c')=yx->PySem.W.exmOne X.K (.ref C) (.ref C0)=yz yx) (hb:DSs X body yx g) (hh:∀a,DSs (Z.inH X a) (b0::suite) na gh):
  DS X (.Try body [.ExceptHandler (yz (.Name x np)) (yz n) (b0::suite) hp] [] [] pos) yw (Xuh c i g gh):=by
 intro pa s σ H ρ S env I B;unfold Xuh at B ⊢;refine wpAny_Try_except ?_;cases q:g env S with
 |bad=>rw[q]at B;cases B rfl|ok y S1=>
  refine Vo (hb pa s σ H ρ S env I (by rw[q];exact λz=>nomatch z)) (λfl U z=>?_) λx U z=>?_
  ·rw[q]at z;have z':=z.pre (σ:=σ) (na':=yw) .refl λw=>nomatch w;obtain⟨y',S2,e,z2⟩:=z;cases e;cases y with
   |nx e=>obtain⟨rfl,_⟩:=z2;exact Vf8 z'|brk e=>obtain⟨rfl,_⟩:=z2;exact z'|cnt e=>obtain⟨rfl,_⟩:=z2;exact z'|rt d=>obtain⟨u,v,aw,H',ρ',rfl,_⟩:=z2;exact z'
  obtain⟨k,S2,ay,e,_⟩:=z;rw[q]at e;cases e|ex m S1=>
  rw[q]at B;dsimp only at B ⊢;refine Vo (hb pa s σ H ρ S env I (by rw[q];exact λz=>nomatch z)) (λfl U z=>?_) λx1 U z=>?_;·obtain⟨y,S2,e,_⟩:=z;rw[q]at e;cases e
  obtain⟨m',S2,aw,e,al,H1,ai,a,c',J,rfl,ah,hc,sr,st,fl⟩:=z;rw[q]at e;cases e;cases al rfl;rw[hc]at B ⊢;dsimp only at B ⊢;have ak:(c==0||c==c')=true:=by
   cases z:(c==0||c==c') with
   |true=>rfl|false=>rw[z]at B;cases B rfl
  rw[iP0 ak]at B ⊢;obtain⟨d,S2,aa⟩:∃d S2,gh (env.set i (yz (.ref m))) S1=.ok (.rt d) S2:=by
   cases z:gh (env.set i (yz (.ref m))) S1 with
   |bad=>rw[z]at B;cases B rfl|ex _ _=>rw[z]at B;cases B rfl|ok y S2=>
    rw[z]at B;cases y with
    |rt d=>exact⟨d,S2,rfl⟩|nx _=>cases B rfl|brk _=>cases B rfl|cnt _=>cases B rfl
  rw[aa];dsimp only;obtain⟨C,hC,ha⟩:=(show ∃C,Y9 X.K c'=yz C/\H1 a=yz (.ext (ExcO C a)) from sr.ob m a _ ah hc);have aq:=hm c' C hC ak;have aj:∀(l:LR) (a0:Vb),Hid X H1 a U.heap l->(∀b∈l,b≠a->b ∉ frs X.stack->Xhl X pa b) ->
    ∀h2,Heap.HeldW (Vbw U.heap l) (X.env::X.outer) a (.ref C) a0 X.env.locals h2->U.heap.UpToSlots h2 ->
    Vf (Vj X.prog X.w) X.A (setFlight (.ref a) yy) (λ_ s3=>Vf (Vj X.prog X.w) X.A (handleBy (.ref a) X.env [.ExceptHandler (yz (.Name x np)) (yz n) (b0::suite) hp])
     (OkS X pa σ ρ H yw (.ok (.rt d) S2)) (ExS X pa σ ρ H yw (.ok (.rt d) S2)) s3) (ExS X pa σ ρ H yw (.ok (.rt d) S2)) {U with heap:=h2}:=by
   intro l a0 hid L h2 ac Y;have inv:∀ {h':Heap},Heap.FlyingW (Vbw U.heap l) (X.env::X.outer) a (.ref C) a0 h'->U.heap.UpToSlots h'->Inv X pa σ H1 {U with heap:=h' }:=λ{h'} fw up=>by obtain⟨f1,_,_,oe,vs,T,oT,ts,t1,⟨t2,t3⟩,t4,t5,_⟩:=fw;exact Inv.fly J ha hid L f1 up ⟨oe,vs,a0,t1,t2,t4,t3,(Uo.mp t5).1⟩
   refine wpAny_landsW ac λh3 ab af=>?_;have J3:=inv ab (Y.trans af);obtain⟨ob,av,ae⟩:=ab.there;refine wpAny_handleBy_cons (codeAny_handlers_test (Xda (Inv.inH J3 a) hg (Vcl J.mod.kin J.mod.glob hn) ?_ an)) (by intro z;cases z);have LT:PySem.W.Looks (Vj X.prog X.w) h3 (typeOf (.ref a)) (.ref C):=ae▸(PySem.W.Looks.ld av).andThen .now;refine(PySem.W.exm_one J3.kIn LT aq).at ?_;refine codeAny_handlers_suite_as (lands_againW ab λh4 am ar=>?_);have J4:=inv am ((Y.trans af).trans ar);refine Xa5 (X:=Z.inH X a) (v:=.ref a) (Inv.inH J4 a) hN hi (.inl hl) rfl (λs5 J5=>?_) (.inr hl);have er:ER X.K ai H1 (env.set i (yz (.ref m))) (σ.set i (yz (.ref a))):=(I.er.mono st).set i (by simp only[RD];exact⟨a,rfl,ah⟩);refine Vo (hh a pa s5 (σ.set i (yz (.ref a))) H1 ai S1 (env.set i (yz (.ref m))) ⟨J5,sr,er⟩ (by rw[aa];exact λz=>nomatch z)) (λf6 s6 z=>?_) λy s6 z=>?_;·rw[aa]at z;obtain⟨y,S3,e,z⟩:=z;cases e;obtain⟨u,v,ax,H6,ao,rfl,J6,rv,rd,ap,au⟩:=z;exact Inv.goes (Inv.outH J6 J.ok) hl λs7 J7=>⟨.rt d,S2,rfl,u,v,_,H6,ao,rfl,J7,rv,rd,ap,st.trans au⟩
   ·rw[aa]at z;obtain⟨_,_,_,e,_⟩:=z;cases e
  exact Xfy J hs hf ha fl λl h2 a0 hid L ac Y=>aj l a0 hid L h2 ac Y
end
noncomputable def Xb5(sc:Ue):Vax:={scope:=sc,locals:=0,globals:=0,cells:=[]}
noncomputable def Xej(b:Bool):Sem Bool->Bool
 |.pure c=>b==c|_=>yw
noncomputable def Xlr(l:Option LS):Sem (Option LS)->Bool
 |.pure m=>decide (l=m)|_=>yw
theorem Xcg(h:Xej b m=yx):m=pure b:=by
 cases m<;>first|cases h|skip
 simp only[Xej,beq_iff_eq]at h;subst h;rfl
theorem Xh1(h:Xlr b m=yx):m=pure b:=by
 cases m<;>first|cases h|skip
 simp only[Xlr,decide_eq_true_eq]at h;subst h;rfl
theorem Xls(v:Expr)(t:Option Expr)(l:Nat)(env:Vax):Ve5 v t l env=Ve5 v t l (Xb5 env.scope):=rfl
theorem Xh2(t v:Expr)(l:Nat)(env:Vax):Vc7 [t] v l env=Vc7 [t] v l (Xb5 env.scope):=rfl
theorem Xh3(ts:LX)(v:Expr)(env:Vax):Vc8 ts v env=Vc8 ts v (Xb5 env.scope):=rfl
theorem Xlt(h:Xdd i=yx)(v:Vb):assign (.Subscript o i spos) env v=(do
   let ov <- Vdo [v] (eval o env)
   let iv <- Vdo [v,ov] (eval i env)
   standAt spos
   Vdo [v,ov,iv] (setItem ov iv v)
   release [v,ov,iv] []):=by
 cases i<;>first|rfl|cases h
noncomputable def X3m:Expr->Bool
 |.ListComp _ _ _ _=>yx|_=>yw
noncomputable def Xca(N ps:LS)(sc:Ue):Bool:=Xpf sc.kind && !sc.isCoroutine && !sc.isGenerator&&Xef N&&decide (N.take (la ps)=ps)&&ps.all (λx=>match sc.names.lookup x with|some .local=>yx|some .cell=>yx|_=>yw)&&sc.names.all (λy=>match y.2 with|.free=>yw|_=>yx)
theorem Xlu(h:Xca N ps sc=yx):FnScope N ps sc:=by
 simp only[Xca,bA0,Vat,decide_eq_true_eq]at h;obtain⟨⟨⟨⟨⟨⟨h1,h2⟩,h3⟩,U⟩,h5⟩,J⟩,Y⟩:=h;refine⟨Xhv h1,h2,h3,Xeg U,h5,λx B=>?_,λy L e=>?_⟩
 ·have:=Uf.mp J x B;split at this;·exact .inl (by assumption)
  ·exact .inr (by assumption)
  cases this
 have:=Uf.mp Y y L;rw[e]at this;cases this
noncomputable def Xh4(s:Stmt):Option (LX×Expr×Pos):=match s with
 |.Assign ts v p=>yz (ts,v,p)|_=>yy
theorem Xe7(h:Xh4 s=yz z):s=.Assign z.1 z.2.1 z.2.2:=by
 unfold Xh4 at h;split at h;·cases h;rfl
 ·cases h
noncomputable def Xui(s:Stmt):Option (Expr×Operator×Expr×Pos):=match s with
 |.AugAssign t o v p=>yz (t,o,v,p)|_=>yy
theorem Xyw(h:Xui s=yz z):s=.AugAssign z.1 z.2.1 z.2.2.1 z.2.2.2:=by
 unfold Xui at h;split at h;·cases h;rfl
 ·cases h
noncomputable def Xuj(s:Stmt):Option (Expr×Pos):=match s with
 |.Expr v p=>yz (v,p)|_=>yy
theorem Xyx(h:Xuj s=yz z):s=.Expr z.1 z.2:=by
 unfold Xuj at h;split at h;·cases h;rfl
 ·cases h
noncomputable def Xpo(s:Stmt):Option (Option Expr):=match s with
 |.Return v _=>yz v|_=>yy
theorem Xn4(h:Xpo s=yz z):∃p,s=.Return z p:=by
 unfold Xpo at h;split at h;·cases h;exact⟨_,rfl⟩
 ·cases h
noncomputable def Xpp{α:Type}(l:List α):Option α:=match l with
 |[x]=>yz x|_=>yy
theorem Xlv{α:Type}{l:List α}{x:α}(h:Xpp l=yz x):l=[x]:=by
 match l with
 |[]=>cases h|[y]=>cases h;rfl|_::_::_=>cases h
noncomputable def vCk(e:Expr):Option (Expr×LX×List Keyword):=match e with
 |.Call f a k _=>yz (f,a,k)|_=>yy
theorem X3n{e:Expr}{z:Expr×LX×List Keyword}(h:vCk e=yz z):∃p,e=.Call z.1 z.2.1 z.2.2 p:=by
 unfold vCk at h;split at h;·cases h;exact⟨_,rfl⟩
 ·cases h
noncomputable def Xuk(e:Expr):Option (Vdt×Expr×Ue):=match e with
 |.Lambda a b sc _=>yz (a,b,sc)|_=>yy
theorem Xyy{e:Expr}{z:Vdt×Expr×Ue}(h:Xuk e=yz z):∃p,e=.Lambda z.1 z.2.1 z.2.2 p:=by
 unfold Xuk at h;split at h;·cases h;exact⟨_,rfl⟩
 ·cases h
noncomputable def Xul(a:Vdt):Option Arg:=if a.posonlyargs.isEmpty&&a.vararg.isNone&&a.kwonlyargs.isEmpty&&a.kw_defaults.isEmpty&&a.kwarg.isNone&&a.defaults.isEmpty then Xpp a.args else yy
theorem Xyz{a:Vdt}{z:Arg}(h:Xul a=yz z):a=⟨[],[z],yy,[],[],yy,[]⟩:=by
 obtain⟨p,q,r,s,t,u,v⟩:=a;unfold Xul at h;by_cases c:(p.isEmpty&&r.isNone&&s.isEmpty&&t.isEmpty&&u.isNone&&v.isEmpty)=yx;·rw[iP0 c]at h;simp only[bA0,Var,Vg9]at c;obtain⟨⟨⟨⟨⟨rfl,rfl⟩,rfl⟩,rfl⟩,rfl⟩,rfl⟩:=c;rw[Xlv (l:=q) h]
 ·rw[iN0 c]at h;cases h
noncomputable def Xum(e:Expr):Option (Str×Expr×Str×Str×Str×Expr×Ue):=(vCk e).bind λc=>(vNm c.1).bind λf=>(Xpp c.2.1).bind λa=>(Xpp c.2.2).bind λw=>w.arg.bind λk=>(Xuk w.value).bind λl=>(Xul l.1).bind λz=>(Xdx l.2.1).bind λy=>(vNm y.1).bind λn=>yz (f,a,k,z.arg,n,y.2,l.2.2)
theorem Xy0{e:Expr}{f k x y:Str}{a i:Expr}{sc:Ue}(h:Xum e=yz (f,a,k,x,y,i,sc)):∃Y an p1 p2 p3 B kp U,e=.Call (.Name f Y) [a] [⟨yz k,.Lambda ⟨[],[⟨x,an,p1⟩],yy,[],[],yy,[]⟩ (.Subscript (.Name y p2) i p3) sc B,kp⟩] U:=by obtain⟨c,e1,h⟩:=U0.mp h;obtain⟨f',e2,h⟩:=U0.mp h;obtain⟨a',e3,h⟩:=U0.mp h;obtain⟨w,e4,h⟩:=U0.mp h;obtain⟨k',J,h⟩:=U0.mp h;obtain⟨l,e6,h⟩:=U0.mp h;obtain⟨z,e7,h⟩:=U0.mp h;obtain⟨u,e8,h⟩:=U0.mp h;obtain⟨n',e9,h⟩:=U0.mp h;have h:=Uc h;have d1:f'=f:=congrArg (·.1) h;have d2:a'=a:=congrArg (·.2.1) h;have d3:k'=k:=congrArg (·.2.2.1) h;have L:z.arg=x:=congrArg (·.2.2.2.1) h;have d5:n'=y:=congrArg (·.2.2.2.2.1) h;have d6:u.2=i:=congrArg (·.2.2.2.2.2.1) h;have d7:l.2.2=sc:=congrArg (·.2.2.2.2.2.2) h;obtain⟨U,g1⟩:=X3n e1;obtain⟨Y,g2⟩:=Xao e2;obtain⟨B,g3⟩:=Xyy e6;obtain⟨p3,g5⟩:=Xcf e8;obtain⟨p2,g6⟩:=Xao e9;obtain⟨wk,wv,kp⟩:=w;obtain⟨z1,z2,z3⟩:=z;have J:wk=yz k':=J;have g3:wv=.Lambda l.1 l.2.1 l.2.2 B:=g3;have L:z1=x:=L;refine⟨Y,z2,z3,p2,p3,B,kp,U,?_⟩;rw[g1,g2,Xlv e3,Xlv e4,J,g3,Xyz e7,g5,g6,d1,d2,d3,L,d5,d6,d7]
noncomputable def Xun(s:Stmt):Option (Expr×LM×LM):=match s with
 |.If c a b _=>yz (c,a,b)|_=>yy
theorem Xy1{s:Stmt}{z:Expr×LM×LM}(h:Xun s=yz z):∃p,s=.If z.1 z.2.1 z.2.2 p:=by
 unfold Xun at h;split at h;·cases h;exact⟨_,rfl⟩
 ·cases h
noncomputable def Xuo(s:Stmt):Option (Expr×Expr×LM×LM):=match s with
 |.For t i b B _=>yz (t,i,b,B)|_=>yy
theorem Xy2(h:Xuo s=yz z):∃p,s=.For z.1 z.2.1 z.2.2.1 z.2.2.2 p:=by
 unfold Xuo at h;split at h;·cases h;exact⟨_,rfl⟩
 ·cases h
noncomputable def Xup(s:Stmt):Option (Expr×LM×LM):=match s with
 |.While c b B _=>yz (c,b,B)|_=>yy
theorem Xy3(h:Xup s=yz z):∃p,s=.While z.1 z.2.1 z.2.2 p:=by
 unfold Xup at h;split at h;·cases h;exact⟨_,rfl⟩
 ·cases h
noncomputable def Xuq(s:Stmt):Option (Option Expr×Option Expr):=match s with
 |.Raise v w _=>yz (v,w)|_=>yy
theorem Xy4(h:Xuq s=yz z):∃p,s=.Raise z.1 z.2 p:=by
 unfold Xuq at h;split at h;·cases h;exact⟨_,rfl⟩
 ·cases h
noncomputable def Xur(s:Stmt):Option (LM×List ExceptHandler×LM×LM):=match s with
 |.Try b hs B fb _=>yz (b,hs,B,fb)|_=>yy
theorem Xy5(h:Xur s=yz z):∃p,s=.Try z.1 z.2.1 z.2.2.1 z.2.2.2 p:=by
 unfold Xur at h;split at h;·cases h;exact⟨_,rfl⟩
 ·cases h
noncomputable def Xus(h:ExceptHandler):Option (Expr×Str×Stmt×LM):=match h with
 |.ExceptHandler (yz e) (yz n) (b::su) _=>yz (e,n,b,su)|_=>yy
theorem Xy6(q:Xus h=yz z):∃p,h=.ExceptHandler (yz z.1) (yz z.2.1) (z.2.2.1::z.2.2.2) p:=by
 unfold Xus at q;split at q;·cases q;exact⟨_,rfl⟩
 ·cases q
noncomputable def Xf9(s:Stmt):Nat:=match s with
 |.Pass _=>1|.Break _=>2|.Continue _=>3|_=>0
theorem vEnd_ok:(Xf9 s=1->∃p,s=.Pass p)/\(Xf9 s=2->∃p,s=.Break p)/\(Xf9 s=3->∃p,s=.Continue p):=by
 unfold Xf9;split;·exact⟨λ_=>⟨_,rfl⟩,λz=>(nomatch z),λz=>(nomatch z)⟩
 ·exact⟨λz=>(nomatch z),λ_=>⟨_,rfl⟩,λz=>(nomatch z)⟩
 ·exact⟨λz=>(nomatch z),λz=>(nomatch z),λ_=>⟨_,rfl⟩⟩
 exact⟨λz=>(nomatch z),λz=>(nomatch z),λz=>(nomatch z)⟩
section
variable(cm:Bool)(fns:LF)(gns:LS)(sc:Ue)(N:LS)
noncomputable def X3o(i:Nat)(e:Ex)(v:Expr)(p:Pos)(ts:LX):Bool:=(Xb4 ts).any λt=>(vNm t).any λx=>decide (N[i]?=yz x)&&Xhs (λ_=>yx) sc x&&mt cm fns gns sc N e v&&(Xej yw (Ve5 v (yz t) p.line (Xb5 sc))||(X3m v&&Xc1 (sc.names.lookup x)&&Xej yx (Ve5 v (yz t) p.line (Xb5 sc))))
noncomputable def Xwl(B:LN)(e:Ex)(v:Expr)(p:Pos)(ts:LX):Bool:=(Xb4 ts).any λt=>cm&&mtT (λ_=>yx) sc N (.tup B) t&&mt cm fns gns sc N e v&&Xej yw (Vc7 [t] v p.line (Xb5 sc))&&Xlr yy (Vc8 [t] v (Xb5 sc))
noncomputable def X56(es:Exs)(p:Pos)(i j:Nat)(a b x y t v:Expr):Bool:=(vNm x).any λJ=>(vNm y).any λB=>cm&&decide (N[i]?=yz J)&&decide (N[j]?=yz B)&&decide (i≠j)&&Xc1 (sc.names.lookup J)&&Xc1 (sc.names.lookup B)&&mts cm fns gns sc N es [a,b] &&
   Xlr (yz [J,B]) (Vc8 [t] v (Xb5 sc))&&Xej yw (Vc7 [t] v p.line (Xb5 sc))
noncomputable def X3p(es:Exs)(p:Pos)(B:LN)(ts:LX)(v:Expr):Bool:=(Xb4 ts).any λt=>(Xhx t).any λJ=>(Xhx v).any λvs=>(Xf5 B).any λi=>(Xf5 J).any λx=>(Xf5 vs).any λa=>X56 cm fns gns sc N es p i.1 i.2 a.1 a.2 x.1 x.2 t v
noncomputable def Xwm(o i e:Ex)(v:Expr)(p:Pos)(ts:LX):Bool:=(Xb4 ts).any λt=>(Xdx t).any λz=>Xdd z.2&&mt cm fns gns sc N o z.1&&mt cm fns gns sc N i z.2&&mt cm fns gns sc N e v&&Xej yw (Vc7 [t] v p.line (Xb5 sc))&&Xlr yy (Vc8 [t] v (Xb5 sc))
noncomputable def X3q(i:Nat)(t:Expr):Bool:=(vNm t).any λx=>decide (N[i]?=yz x)&&Xhs (λ_=>yx) sc x
noncomputable def Xut(e:Ex)(w:Str×Expr×Str×Str×Str×Expr×Ue):Bool:=cm&&decide (w.1="sorted")&&glB sc w.1&&decide (w.2.2.1="key")&&Xy w.2.1&&mt cm fns gns sc N e w.2.1&&decide (w.2.2.2.2.1=w.2.2.2.1)&&Yy w.2.2.2.1&&Xlf w.2.2.2.2.2.2 w.2.2.2.1&&Xca [w.2.2.2.1] [w.2.2.2.1] w.2.2.2.2.2.2&&Xgu w.2.2.2.2.2.2&&Xhw 1 yy w.2.2.2.2.2.1&&mks.any λm=>decide (N.getLast?=yz (Xaj m))
noncomputable def Xuu(c:Nat)(e:Ex)(v w:Option Expr):Bool:=w.isNone&&v.any λr=>(Xam r).any λz=>(vNm z.1).any λx=>decide (Xbe c=yz x)&&glB sc x&&Yy x&&Xy z.2.1&&z.2.2.1.isEmpty&&mt cm fns gns sc N e z.2.1
mutual
noncomputable def mtS(cm:Bool):St->Stmt->Bool
 |.nev,_=>yx|.asg (.var i) e,st=>(Xh4 st).any λz=>X3o cm fns gns sc N i e z.2.1 z.2.2 z.1|.asg (.tup is) e,st=>(Xh4 st).any λz=>Xwl cm fns gns sc N is e z.2.1 z.2.2 z.1|.par is es,st=>(Xh4 st).any λz=>X3p cm fns gns sc N es z.2.2 is z.1 z.2.1|.aset o i e,st=>(Xh4 st).any λz=>Xwm cm fns gns sc N o i e z.2.1 z.2.2 z.1|.aug i op e,st=>(Xui st).any λz=>X3q sc N i z.1&&Xpc op z.2.1&&mt cm fns gns sc N e z.2.2.1|.expr e,st=>(Xuj st).any λz=>Xej yw (Ve5 z.1 yy z.2.line (Xb5 sc))&&mt cm fns gns sc N e z.1|.ret e,st=>(Xpo st).any λz=>z.any λv=>mt cm fns gns sc N e v|.rsk e m,st=>(Xpo st).any λz=>z.any λv=>(Xdx v).any λy=>(Xlm y.2).any λq=>mto cm fns gns sc N .none q.1&&mto cm fns gns sc N (.some m) q.2&&(Xum y.1).any λw=>Xut cm fns gns sc N e w|.ite c a b,st=>(Xun st).any λz=>mt cm fns gns sc N c z.1&&mtSs cm a z.2.1&&mtSs cm b z.2.2|.for t it b,st=>(Xuo st).any λz=>cm&&z.2.2.2.isEmpty&&Xbt z.2.1&&mtT (λ_=>yx) sc N t z.1&&mtI cm fns gns sc N it z.2.1&&mtSs cm b z.2.2.1&&Xeh t it|.whl c b,st=>(Xup st).any λz=>z.2.2.isEmpty&&mt cm fns gns sc N c z.1&&mtSs cm b z.2.1|.rse c e,st=>(Xuq st).any λz=>cm&&Xuu cm fns gns sc N c e z.1 z.2|.try b c i h,st=>(Xur st).any λz=>(Xb4 z.2.1).any λy=>(Xus y).any λq=>(vNm q.1).any λx=>z.2.2.1.isEmpty&&z.2.2.2.isEmpty&&nasgs b&&decide (Xbe c=yz x)&&glB sc x&&Yy x&&decide (N[i]?=yz q.2.1)&&Xc1 (sc.names.lookup q.2.1)&&mtSs cm b z.1&&mtSs yw h (q.2.2.1::q.2.2.2)|.pass,st=>Xf9 st==1|.brk,st=>Xf9 st==2|.cnt,st=>Xf9 st==3
noncomputable def mtSs(cm:Bool):Sts->LM->Bool
 |.nil,[]=>yx|.cons s ss,x::xs=>mtS cm s x&&mtSs cm ss xs|_,_=>yw
end
end
theorem Xdy(h:Xc1 k=yx):k=yz .local:=by
 unfold Xc1 at h;split at h;·rfl
 ·cases h
section
variable{F:Fn}{G:LD}{cm:Bool}{fns:LF}{gns:LS}{X:Cx}
theorem DS.congr{st:Stmt}{na:Bool}{f g:En->Sto->R Fl}(h:DS X st na f)(q:∀env S,g env S=f env S):DS X st na g:=by have:g=f:=funext λenv=>funext λS=>q env S;rw[this];exact h
theorem DSs.congr{st:LM}{na:Bool}{f g:En->Sto->R Fl}(h:DSs X st na f)(q:∀env S,g env S=f env S):DSs X st na g:=by have:g=f:=funext λenv=>funext λS=>q env S;rw[this];exact h
theorem X3r{st:Stmt}{na:Bool}:DS X st na (exe F G .nev):=λ_ _ _ _ _ _ _ _ B=>aB0 (by simp only[exe]) B
structure TopOk(cm:Bool)(F:Fn)(G:LD)(fns:LF)(gns:LS)(X:Cx)(sc:Ue)(N:LS):Prop where
 hN:X.N=N
 hs:X.env.scope=sc
 nd:N.Nodup
 fn:∀x,X.fn x=yx
 pf:PF cm F G fns gns X
 stk:X.stack=X.env::X.outer
 frm:X.env.frame=yz X.env.locals
 lam:∀m∈mks,N.getLast?=yz (Xaj m)->LamAt X m
theorem TopOk.inH(T:TopOk cm F G fns gns X sc N)(a:Addr):TopOk yw F G fns gns (Z.inH X a) sc N:=
 ⟨T.hN,T.hs,T.nd,T.fn,⟨T.pf.blt,λf nm L J h B=>by
  obtain⟨g,fd,ps,k,Y,c2,r⟩:=T.pf.fn f nm L J h (λz=>nomatch (B z));refine⟨g,fd,ps,k,Y,?_,r⟩;cases J with
  |true=>exact nomatch (B rfl)
  |false=>exact c2.mark,T.pf.glb,T.pf.clf,T.pf.units,T.pf.gd,(λz=>nomatch z),T.pf.err⟩,T.stk,T.frm,λm U h=>let l:=T.lam m U h;⟨l.qual,l.dep,l.cod,l.blt⟩⟩
variable{sc:Ue}{N:LS}
noncomputable def isC:Ex->Bool
 |.nev=>yx|.cmr _ _ _ _=>yx|_=>yw
theorem X57(B:X3m v=yx)(hn:isC e=yw)(h:mt cm fns gns sc N e v=yx):False:=by
 cases v with
 |ListComp L gens scope J=>
  cases e with
  |nev=>cases hn|cmr _ _ _ _=>cases hn|_=>cases h
 |_=>cases B
theorem Xuv{i:Nat}{e:Ex}{ts:LX}(T:TopOk cm F G fns gns X sc N)(h:X3o cm fns gns sc N i e v p ts=yx):DS X (.Assign ts v p) yw (exe F G (.asg (.var i) e)):=by
 obtain⟨t,k1,B⟩:=Xd h;obtain⟨x,k2,J⟩:=Xd B;clear h B;have h:=J;clear J;have k3:=Xbc k1;obtain⟨py,k4⟩:=Xao k2;subst k4 k3
 ·rw[bA0,bA0,bA0,decide_eq_true_eq,Vbi,bA0,bA0]at h;obtain⟨⟨⟨h1,h2⟩,h3⟩,U⟩:=h;obtain⟨l1,l2⟩:=Xe3 (X:=X) T.hs (λx _=>T.fn x) h2;have ab:=(snd e X sc N v T.hN T.hs T.pf h3).1;have hN:=T.hN;have hs:=T.hs;subst hN hs;rcases U with U|⟨⟨U,h5⟩,h6⟩;·have L:=Xcg U;rw[<-Xls]at L;exact(X1j T.nd h1 l1 l2 ab L).congr λenv S=>by simp only[exe]<;>rfl
  ·have L:=Xcg h6;rw[<-Xls]at L;cases e with
   |nev=>exact λ_ _ _ _ _ _ _ _ nb=>aB0 (by simp only[exe,ev,R.bind_bad]) nb|cmr k n gs elt=>
    obtain⟨ee,gens,scope,cp,rfl,m0,m1,m2,m3,m4,m5⟩:=Xrq h3;subst m1 m2;have so:=Xrn m3;have aa:=T.pf.calm m0;obtain⟨c⟩:=Xn3 (p:=cp) rfl rfl T.pf aa so (sndg gs X _ _ _ _ gens rfl rfl T.pf m4) (λY y1 y2 y3=>(snd elt Y _ _ ee y1 y2 y3 m5).1);refine(Xxw (py:=py) (spos:=p) T.nd h1 (Xdy h5) L aa so rfl c.hg c.hi c.hs c.hG c.hT c.hB).congr λenv S=>?_;simp only[exe];have:=congrFun (congrFun c.eq env) S;rw[this]
    all_goals rfl|_=>exact(X57 U rfl h3).elim
theorem Xuw{U:LN}{e:Ex}{ts:LX}(T:TopOk cm F G fns gns X sc N)(h:Xwl cm fns gns sc N U e v p ts=yx):DS X (.Assign ts v p) yw (exe F G (.asg (.tup U) e)):=by obtain⟨t,k1,B⟩:=Xd h;clear h;have h:=B;clear B;have Y:=Xbc k1;subst Y;·rw[bA0,bA0,bA0,bA0]at h;obtain⟨⟨⟨⟨h0,h1⟩,h2⟩,h3⟩,h4⟩:=h;have J:=h1;simp only[mtT]at J;obtain⟨aa,q1,_⟩:=Xd J;obtain⟨ab,ac,q2⟩:=Xce q1;subst q2;have L:=(snd e X sc N v T.hN T.hs T.pf h2).1;have hg:=dgB (top:=λ_=>yx) T.hN T.hs T.nd (λ_=>T.pf.calm h0) (λx _=>T.fn x) h1;have w1:=Xcg h3;have w2:=Xh1 h4;rw[<-T.hs]at w1 w2;rw[<-Xh2]at w1;rw[<-Xh3]at w2;exact(X3f L hg w1 w2 rfl).congr λenv S=>by simp only[exe]<;>rfl
theorem Xy7{L:LN}{es:Exs}{ts:LX}(T:TopOk cm F G fns gns X sc N)(h:X3p cm fns gns sc N es p L ts v=yx):DS X (.Assign ts v p) yw (exe F G (.par L es)):=by
 obtain⟨t,k1,B⟩:=Xd h;clear h;have h:=B;clear B;obtain⟨tn,k2,B⟩:=Xd h;clear h;have h:=B;clear B;obtain⟨vs,k3,B⟩:=Xd h;clear h;have h:=B;clear B;have e1:=Xbc k1;obtain⟨kt,pt,e2⟩:=Xce k2;obtain⟨kv,pv,e3⟩:=Xce k3;subst e1 e2 e3;obtain⟨⟨i,j⟩,k4,B⟩:=Xd h;clear h;have h:=B;clear B;obtain⟨⟨x,y⟩,k5,B⟩:=Xd h;clear h;have h:=B;clear B;obtain⟨⟨a,b⟩,k6,B⟩:=Xd h;clear h;have h:=B;clear B;have e4:=Xde k4;have e5:=Xde k5;have e6:=Xde k6;subst e4 e5 e6;obtain⟨xn,k7,B⟩:=Xd h;clear h;have h:=B;clear B;obtain⟨yn,k8,B⟩:=Xd h;clear h;have h:=B;clear B;obtain⟨px,U⟩:=Xao k7;obtain⟨py,Y⟩:=Xao k8;dsimp only at U Y;subst U Y
 iterate 8 rw[bA0]at h
 obtain⟨⟨⟨⟨⟨⟨⟨⟨h0,h1⟩,h2⟩,h3⟩,h4⟩,h5⟩,h6⟩,h7⟩,h8⟩:=h;have J:=snds es X sc N _ T.hN T.hs T.pf h6;have hN:=T.hN;have hs:=T.hs;subst hN hs;have w1:=Xcg h8;have w2:=Xh1 h7;rw[<-Xh2]at w1;rw[<-Xh3]at w2;exact(Xyt (T.pf.calm h0) T.nd (oD0 h1) (oD0 h2) (oD0 h3) (Xdy h4) (Xdy h5) J w2 w1).congr λenv S=>by simp only[exe]
theorem Xux{o i e:Ex}{ts:LX}(T:TopOk cm F G fns gns X sc N)(h:Xwm cm fns gns sc N o i e v p ts=yx):DS X (.Assign ts v p) yw (exe F G (.aset o i e)):=by
 obtain⟨t,k1,B⟩:=Xd h;obtain⟨⟨ox,ix⟩,k2,J⟩:=Xd B;clear h B;have h:=J;clear J;have Y:=Xbc k1;obtain⟨sp,L⟩:=Xcf k2;dsimp only at L;subst L Y
 ·iterate 5 rw[bA0]at h
  obtain⟨⟨⟨⟨⟨h1,h2⟩,h3⟩,h4⟩,h5⟩,U⟩:=h;have w1:=Xcg h5;have w2:=Xh1 U;rw[<-T.hs]at w1 w2;rw[<-Xh2]at w1;rw[<-Xh3]at w2;exact((Xyu (by have:=T.pf.units;omega) (snd e X sc N v T.hN T.hs T.pf h4).1 (snd o X sc N _ T.hN T.hs T.pf h2).1 (snd i X sc N _ T.hN T.hs T.pf h3).1 w1 w2 (Xlt h1)).weak (na2:=yw) λz=>nomatch z).congr λenv S=>by simp only[exe]
theorem Xy8{i:Nat}{op:Bo}{e:Ex}{o:Operator}(T:TopOk cm F G fns gns X sc N)(h:(X3q sc N i t&&Xpc op o&&mt cm fns gns sc N e v)=yx):DS X (.AugAssign t o v p) yw (exe F G (.aug i op e)):=by simp only[bA0]at h;obtain⟨⟨h1,h2⟩,Y⟩:=h;obtain⟨x,k1,J⟩:=Xd h1;clear h1;have h1:=J;clear J;obtain⟨px,k2⟩:=Xao k1;subst k2;have L:=Xns h2;subst L;·rw[bA0,decide_eq_true_eq]at h1;obtain⟨U,l2⟩:=Xe3 (X:=X) T.hs (λx _=>T.fn x) h1.2;have B:=(snd e X sc N v T.hN T.hs T.pf Y).1;have hN:=T.hN;have hs:=T.hs;subst hN hs;exact(X3h T.nd h1.1 U l2 B).congr λenv S=>by simp only[exe]<;>rfl
theorem Xy9{e:Ex}{v:Option Expr}(T:TopOk cm F G fns gns X sc N)(h:(v.any λv=>mt cm fns gns sc N e v)=yx):DS X (.Return v p) yx (exe F G (.ret e)):=by obtain⟨v,rfl,h⟩:=Xd h;exact(Xqy (snd e X sc N v T.hN T.hs T.pf h).1).congr λenv S=>by simp only[exe]
theorem Xza{e m:Ex}{v:Option Expr}(T:TopOk cm F G fns gns X sc N)(h:(v.any λv=>(Xdx v).any λy=>(Xlm y.2).any λq=>mto cm fns gns sc N .none q.1&&mto cm fns gns sc N (.some m) q.2&&(Xum y.1).any λw=>Xut cm fns gns sc N e w)=yx):DS X (.Return v p) yx (exe F G (.rsk e m)):=by
 obtain⟨v,rfl,g1⟩:=Xd h;clear h;obtain⟨y,h1,g2⟩:=Xd g1;obtain⟨q,h2,g3⟩:=Xd g2;clear g1 g2;rw[bA0,bA0]at g3;obtain⟨⟨h3,h4⟩,Y⟩:=g3;obtain⟨⟨f,a,k,x,z,i,aa⟩,h5,h⟩:=Xd Y;clear Y;unfold Xut at h;dsimp only at h
 iterate 12 rw[bA0]at h
 obtain⟨⟨⟨⟨⟨⟨⟨⟨⟨⟨⟨⟨m1,m2⟩,m3⟩,m4⟩,m5⟩,m6⟩,m7⟩,m8⟩,m9⟩,L⟩,J⟩,U⟩,B⟩:=h;have n2:=oD0 m2;have n4:=oD0 m4;have n7:=oD0 m7;subst n2 n4 n7;obtain⟨p1,e1⟩:=Xcf h1;obtain⟨p2,e2⟩:=Xnu h2;obtain⟨p0,an,q1,q2,q3,lp,kp,cp,e3⟩:=Xy0 h5;obtain⟨o1,o2,_⟩:=Xad m8;obtain⟨nm,hm,hn⟩:=Vel.mp B;have hl:=T.lam nm hm (oD0 hn);rw[e1,e2,e3];exact(Xqy (Xwi (X53 T.pf.units (T.pf.calm m1) hl (Yo T.hs m3) (T.pf.blt _ (by decide)) (snd e X sc N a T.hN T.hs T.pf m6).1 (Xl m5) (Xlu L) J (Xnr m9) o1 o2 U) (sndo .none X sc N _ T.hN T.hs T.pf h3) (sndo (.some m) X sc N _ T.hN T.hs T.pf h4))).congr λenv S=>by simp only[exe]<;>rfl
theorem Xzb{c:Nat}{e:Ex}{v w:Option Expr}(T:TopOk cm F G fns gns X sc N)(h0:cm=yx)(h:Xuu cm fns gns sc N c e v w=yx):DS X (.Raise v w p) yx (exe F G (.rse c e)):=by
 unfold Xuu at h;rw[bA0]at h;obtain⟨hw,h⟩:=h;cases w with
 |some _=>cases hw|none=>
  obtain⟨r,er,L⟩:=Xd h;obtain⟨x,px,y,ys,cp,J,B⟩:=Xbx L;clear h L;have h:=B;clear B;subst J er
  iterate 5 rw[bA0]at h
  obtain⟨⟨⟨⟨⟨h1,h2⟩,h3⟩,h4⟩,Y⟩,h5⟩:=h;have h1:=oD0 h1;have U:=Var.mp Y;dsimp only at U;subst U;obtain⟨C,k1,k2⟩:=T.pf.err.at_ c x h1;exact(X3k (T.pf.calm h0) h1 k2 (T.pf.err.cls c C k1).1 (Yo T.hs h2) (Xad h3).1 (snd e X sc N y T.hN T.hs T.pf h5).1 h4).congr λenv S=>by simp only[exe]
mutual
theorem X7k{cm:Bool}{X:Cx}:∀(x:St) (st:Stmt),TopOk cm F G fns gns X sc N->mtS fns gns sc N cm x st=yx->DS X st (X09 x) (exe F G x)
 |.nev=>λst T h=>X3r|.asg (.var i) e=>λst T h=>by simp only[mtS]at h;obtain⟨z,h1,B⟩:=Xd h;clear h;have h:=B;clear B;rw[Xe7 h1];exact Xuv T h|.asg (.tup is) e=>λst T h=>by simp only[mtS]at h;obtain⟨z,h1,B⟩:=Xd h;clear h;have h:=B;clear B;rw[Xe7 h1];exact Xuw T h|.par is es=>λst T h=>by simp only[mtS]at h;obtain⟨z,h1,B⟩:=Xd h;clear h;have h:=B;clear B;rw[Xe7 h1];exact Xy7 T h|.aset o i e=>λst T h=>by simp only[mtS]at h;obtain⟨z,h1,B⟩:=Xd h;clear h;have h:=B;clear B;rw[Xe7 h1];exact Xux T h|.aug i op e=>λst T h=>by simp only[mtS]at h;obtain⟨z,h1,B⟩:=Xd h;clear h;have h:=B;clear B;rw[Xyw h1];exact Xy8 T h|.expr e=>λst T h=>by simp only[mtS]at h;obtain⟨z,h1,B⟩:=Xd h;clear h;have h:=B;clear B;rw[Xyx h1];rw[bA0]at h;have w1:=Xcg h.1;rw[<-T.hs,<-Xls]at w1;exact(Xxg (snd e X sc N z.1 T.hN T.hs T.pf h.2).1 w1).congr λenv S=>by simp only[exe]|.ret e=>λst T h=>by simp only[mtS]at h;obtain⟨z,h1,B⟩:=Xd h;clear h;have h:=B;clear B;obtain⟨p,rfl⟩:=Xn4 h1;exact Xy9 T h|.rsk e m=>λst T h=>by simp only[mtS]at h;obtain⟨z,h1,B⟩:=Xd h;obtain⟨p,rfl⟩:=Xn4 h1;exact(Xza T B).weak λz=>nomatch z|.ite c a b=>λst T h=>by simp only[mtS]at h;obtain⟨z,h1,B⟩:=Xd h;clear h;have h:=B;clear B;obtain⟨p,rfl⟩:=Xy1 h1;rw[bA0,bA0]at h;exact(X5h (snd c X sc N z.1 T.hN T.hs T.pf h.1.1).2 (sndSs a z.2.1 T h.1.2) (sndSs b z.2.2 T h.2)).congr λenv S=>by simp only[exe]<;>rfl|.for t it b=>λst T h=>by
  simp only[mtS]at h;obtain⟨⟨tg,iter,body,oe⟩,h1,B⟩:=Xd h;clear h;have h:=B;clear B;obtain⟨p,rfl⟩:=Xy2 h1
  iterate 6 rw[bA0]at h
  obtain⟨⟨⟨⟨⟨⟨h0,h1⟩,h2⟩,U⟩,Y⟩,h5⟩,h6⟩:=h;have J:=Var.mp h1;dsimp only at J;subst J;have hg:=dgB (top:=λ_=>yx) T.hN T.hs T.nd (λ_=>T.pf.calm h0) (λx _=>T.fn x) U;exact(X1y T.stk T.frm (T.pf.calm h0) (Xpn it X sc N tg iter T.hN T.hs T.pf (Xgv h6 U) Y) hg (sndSs b body T h5) (Xdw h2)).congr λenv S=>by simp only[exe]|.whl c b=>λst T h=>by simp only[mtS]at h;obtain⟨⟨cx,body,oe⟩,h1,B⟩:=Xd h;clear h;have h:=B;clear B;obtain⟨p,rfl⟩:=Xy3 h1;rw[bA0,bA0]at h;obtain⟨⟨h1,h2⟩,U⟩:=h;have J:=Var.mp h1;dsimp only at J;subst J;exact(X3i (snd c X sc N cx T.hN T.hs T.pf h2).2 (sndSs b body T U)).congr λenv S=>by simp only[exe]<;>rfl|.rse c e=>λst T h=>by simp only[mtS]at h;obtain⟨z,h1,B⟩:=Xd h;clear h;have h:=B;clear B;obtain⟨p,rfl⟩:=Xy4 h1;rw[bA0]at h;exact Xzb T h.1 h.2|.try b c i hd=>λst T h=>by
  simp only[mtS]at h;obtain⟨⟨body,hs,oe,fb⟩,k1,B⟩:=Xd h;clear h;have h:=B;clear B;obtain⟨y,k2,B⟩:=Xd h;clear h;have h:=B;clear B;obtain⟨⟨te,n,b0,su⟩,k3,B⟩:=Xd h;clear h;have h:=B;clear B;obtain⟨x,k4,B⟩:=Xd h;clear h;have h:=B;clear B;obtain⟨p,J⟩:=Xy5 k1;have L:=Xbc k2;obtain⟨hp,e3⟩:=Xy6 k3;obtain⟨np,e4⟩:=Xao k4;dsimp only at J L e3 e4;subst e4 e3 L J
  iterate 9 rw[bA0]at h
  obtain⟨⟨⟨⟨⟨⟨⟨⟨⟨h1,h2⟩,U⟩,Y⟩,h5⟩,h6⟩,h7⟩,h8⟩,h9⟩,aa⟩:=h;have J:=Var.mp h1;have L:=Var.mp h2;have Y:=oD0 Y;have h7:=oD0 h7;dsimp only at J L h7;subst J L;have ib:=sndSs b body T h9;rw[U]at ib;have ih:∀a,DSs (Z.inH X a) (b0::su) (nasgs hd) (pb F G hd):=λa=>sndSs hd (b0::su) (T.inH a) aa;obtain⟨C0,k1,k2⟩:=T.pf.err.at_ c x Y;have hN:=T.hN;have hs:=T.hs;subst hN hs;refine(X3l (c:=c) T.stk T.frm T.nd h7 (Xdy h8) k2 (Yo rfl h5) (Xad h6).1 (λc' C J L=>(T.pf.err.sub c' C c C0 J k1).2 L) ib ih).congr λenv S=>?_;simp only[exe,U,if_true,Xuh]
  all_goals rfl|.pass=>λst T h=>by simp only[mtS,beq_iff_eq]at h;obtain⟨p,rfl⟩:=vEnd_ok.1 h;exact ds_pass.congr λenv S=>by simp only[exe]|.brk=>λst T h=>by simp only[mtS,beq_iff_eq]at h;obtain⟨p,rfl⟩:=vEnd_ok.2.1 h;exact ds_brk.congr λenv S=>by simp only[exe]|.cnt=>λst T h=>by simp only[mtS,beq_iff_eq]at h;obtain⟨p,rfl⟩:=vEnd_ok.2.2 h;exact ds_cnt.congr λenv S=>by simp only[exe]
theorem sndSs{cm:Bool}{X:Cx}:∀(x:Sts) (st:LM),TopOk cm F G fns gns X sc N->mtSs fns gns sc N cm x st=yx->DSs X st (nasgs x) (pb F G x)
 |.nil,[]=>λT h=>dss_nil.congr λenv S=>by simp only[pb]|.cons s ss,x::xs=>λT h=>by have h':(mtS fns gns sc N cm s x&&mtSs fns gns sc N cm ss xs)=true:=h;rw[bA0]at h';exact(Xta (X7k s x T h'.1) (sndSs ss xs T h'.2)).congr λenv S=>by simp only[pb]<;>rfl|.nil,_::_=>λT h=>by cases h|.cons _ _,[]=>λT h=>by cases h
end
end
def BM(mg:Str->OV)(base:Heap):Prop:=∃B ob,mg "__builtins__"=yz (.ref B)/\B≠Vfa/\base.get? B=yz ob/\ob.cls=.type "module" /\ ob.dict=yz Vfa/\ob.data=.plain
noncomputable def Xc9(K:Ve)(nm:Str):Bool:=match PySem.W.tabIn K nm with
 |some (c,P)=>PySem.W.codeHdIn K c P&&decide ((Xco K).lookup P=yz (Xaj nm))|none=>yw
def Xga(K:Ve)(N:LS)(nm:Str):Prop:=∀m∈mks,N.getLast?=yz (Xaj m)->m=nm/\Xc9 K m=yx
structure DefOk(K:Ve)(mg:Str->OV)(fns:LF)(gns:LS)(d:Df)(nm:Str)(ar:Nat)(fl:Bool):Prop where
 ex:∃g fd st N ps,Fun K nm nm st g fd/\Vaa K Ub nm=yz (yz (.ref g))/\Xga K N nm/\mg nm=yz (.ref g)/\Xca N ps (Xq st)=yx/\mtSs fns gns (Xq st) N fl d.body (Yh st)=yx/\d.np=la ps/\d.nl=N.length/\(la ps)=ar/\Binds K fd ps []
section
variable{P:Vy}{w:V9}{K:Ve}{mg:Str->OV}{base:Heap}{T:List Df}{G:LD}{fns:LF}{gns:LS}
theorem Xlw(ai:∀(f:Nat) (nm:Str),Xa6 f nm G=yx->∃J B,fns[f]?=yz (nm,J,B)/\(∀a,Vaa K Ub nm=yz (yz (.ref a))->mg nm=yz (.ref a))/\∀k xs S,FT T G k f xs S≠.bad->la xs=J)(er:ErrOk K)(hb:∀x∈blts,mg x=yy)(hg:∀(k:Nat) nm,gns[k]?=yz nm->∃u d,mg nm=yz u/\G[k]?=yz d/\∀ ρ H,∃v,RelV v u/\RD K ρ H d v){k:Nat}
  (ih:∀(f:Nat) nm J B,fns[f]?=yz (nm,J,B)->∃g fd ps,FnD B P w K mg base k g fd ps (FT T G k f)/\Binds K fd ps []/\mg nm=yz (.ref g)/\Vcs K (.ref g)=yx/\(la ps)=J)
  {f:Nat} {nm:Str} {B:Bool} {d:Df} {g:Addr} {fd:Vc3} {st:Stmt} {N ps:LS} (ab:(∃m∈mks,Xc9 K m=yx)->K.In base/\BM mg base) (ae:Vaa K Ub nm=yz (yz (.ref g))) (aj:Xga K N nm) (hT:T[f]?=yz d) (F:Fun K nm nm st g fd) (hS:Xca N ps (Xq st)=yx) (hM:mtSs fns gns (Xq st) N B d.body (Yh st)=yx) (hp:d.np=la ps) (hn:d.nl=N.length):
  FnD B P w K mg base (k+1) g fd ps (FT T G (k+1) f):=by
 obtain⟨oc,od,kV,al,pm,an,ak,ct,am,rfl,lk,aa⟩:=F.ex;have Y:=Xlu hS;have af:=X1k (cm:=B) (P:=P) (w:=w) (mg:=mg) (base:=base) (k:=k) (G:=pb (FT T G k) G d.body) (na:=nasgs d.body) lk aa Y λA outer s H E hr=>by
  refine sndSs (fns:=fns) (gns:=gns) (sc:=Xq st) (N:=N) d.body (Yh st) ⟨rfl,rfl,Y.nd,λ_=>rfl,⟨hb,λf nm J ah h ac=>?_,hg,λf nm h=>let ⟨J,B,h1,h2,h3⟩:=ai f nm h;⟨J,B,h1,h2,h3 k⟩,?_,hr.gd,id,er⟩,rfl,rfl,?lam⟩ hM
  case lam=>
   intro m hm hN;obtain⟨rfl,U⟩:=aj m hm hN;have hb:=ab ⟨m,hm,U⟩;unfold Xc9 at U;split at U
   ·rename_i c P L;rw[bA0,decide_eq_true_eq]at U;refine⟨rfl,by have:=hr.dp;show(A.deeper _).depth+5<_;omega,⟨c,P,?_,PySem.W.codeHd_of_K hb.1 U.1,U.2⟩,hb.2⟩;simp only[PySem.W.tabIn,ae,lk]at L;split at L
    ·split at L
     ·split at L;·cases L;rfl
      ·cases L
     cases L
    cases L
   cases U
  ·obtain⟨g,fd,ps,h1,h2,h3,h4,h5⟩:=ih f nm J ah h;exact⟨g,fd,ps,k,h1,hr.less ac,h2,h3,h4,h5⟩
  have:=hr.un;show(A.deeper _).units+200<Vbe;omega
 have e:FT T G (k+1) f=(λds S=>if (la ds)=la ps then
  match pb (FT T G k) G d.body (ds.map yz++Vi (N.length-la ps) yy) S with
  |.ok (.rt v) S=>.ok v S|.ok (.nx _) S=>.ok .non S|.ok _ _=>.bad|.ex n S=>.ex n S
  |.bad=>.bad else .bad):=by
  funext ds S;simp only[FT,hT,den,hp,hn]
  all_goals rfl
 rw[e];exact af
theorem table(ab:∀(f:Nat) (nm:Str),Xa6 f nm G=yx->∃B J,fns[f]?=yz (nm,B,J)/\(∀a,Vaa K Ub nm=yz (yz (.ref a))->mg nm=yz (.ref a))/\∀k xs S,FT T G k f xs S≠.bad->la xs=B)(er:ErrOk K)(hb:∀x∈blts,mg x=yy)(hg:∀(k:Nat) nm,gns[k]?=yz nm->∃u d,mg nm=yz u/\G[k]?=yz d/\∀ ρ H,∃v,RelV v u/\RD K ρ H d v)
  (L:(∃m∈mks,Xc9 K m=yx)->K.In base/\BM mg base) (hd:∀(f:Nat) nm B J,fns[f]?=yz (nm,B,J)->∃d,T[f]?=yz d/\DefOk K mg fns gns d nm B J):
  ∀(k f:Nat) nm B J,fns[f]?=yz (nm,B,J)->∃g fd ps,FnD J P w K mg base k g fd ps (FT T G k f)/\Binds K fd ps []/\mg nm=yz (.ref g)/\Vcs K (.ref g)=yx/\(la ps)=B:=by
 intro k;induction k with
 |zero=>intro f nm B J h;obtain⟨d,_,⟨g,fd,st,N,ps,F,_,_,Y,_,_,_,_,hl,hB⟩⟩:=hd f nm B J h;refine⟨g,fd,ps,⟨λA outer s H ae us vs Q E _ _ _ _ aa=>?_⟩,hB,Y,F.kp,hl⟩;obtain⟨ds,ρ,S',_,_,_,nb,_⟩:=aa;cases nb rfl|succ k ih=>intro f nm B J h;obtain⟨d,hT,⟨g,fd,st,N,ps,F,U,ac,Y,hS,hM,hp,hn,hl,hB⟩⟩:=hd f nm B J h;exact⟨g,fd,ps,Xlw ab er hb hg ih L U ac hT F hS hM hp hn,hB,Y,F.kp,hl⟩
end
structure FunAt(K:Ve)(nm:Str)(st:Stmt):Prop where
 ex:∃g fd,Fun K nm nm st g fd/\Vaa K Ub nm=yz (yz (.ref g))
theorem funAt_mk{K:Ve}{nm:Str}{st:Stmt}{f:Addr}{oc:Vb}{Y an:Option Addr}{J:Array (OV)}{kV L U B ct:Vb}(a:Vaa K Ub nm=yz (yz (.ref f)))
  (l:K.lookup f=yz ⟨oc,Y,.func (Vb4 nm nm (Xaz st) (Yh st) (Xq st) .none kV L U an B ct),J⟩) (c:Vfb K B nm=yx) (k:Vcs K (.ref f)=yx):FunAt K nm st:=⟨⟨f,_,X01 l c k,a⟩⟩
def Xe8(nm:Str)(st:Stmt)(ps:LS):Prop:=∀(kV J U:Vb) (L:Option Addr) (B Y:Vb) (us:LV),la us=la ps->Vey (Vb4 nm nm (Xaz st) (Yh st) (Xq st) .none kV J U L B Y) ⟨us,[]⟩=pure (ps.zip us)
theorem Xgb{nm a:Str}{st:Stmt}(h:∀kV J L an B U u,Vey (Vb4 nm nm (Xaz st) (Yh st) (Xq st) .none kV J L an B U) ⟨[u],[]⟩=pure [(a,u)]:=by intros;rfl):Xe8 nm st [a]:=λkV J L an B U us Y=>by rcases us with _|⟨u,_|_⟩<;>first|exact h .. | cases Y
theorem Xbo{nm a b:Str}{st:Stmt}(h:∀kV J L an B U u v,Vey (Vb4 nm nm (Xaz st) (Yh st) (Xq st) .none kV J L an B U) ⟨[u,v],[]⟩=pure [(a,u),(b,v)]:=by intros;rfl):Xe8 nm st [a,b]:=λkV J L an B U us Y=>by rcases us with _|⟨u,_|⟨v,_|_⟩⟩<;>first|exact h .. | cases Y
theorem Xlx{nm a b c:Str}{st:Stmt}(h:∀kV J L an B U u v x,Vey (Vb4 nm nm (Xaz st) (Yh st) (Xq st) .none kV J L an B U) ⟨[u,v,x],[]⟩=pure [(a,u),(b,v),(c,x)]:=by intros;rfl):Xe8 nm st [a,b,c]:=λkV J L an B U us Y=>by rcases us with _|⟨u,_|⟨v,_|⟨x,_|_⟩⟩⟩<;>first|exact h .. | cases Y
theorem Xwn{K:Ve}{N:LS}{nm:Str}(h:(mks.all λm=>!decide (N.getLast?=yz (Xaj m)))=yx):Xga K N nm:=λm B e=>by have:=Uf.mp h m B;rw[decide_eq_true e]at this;cases this
theorem X58{K:Ve}{N:LS}{nm:Str}(J:Xc9 K nm=yx)(h:(mks.all λm=>!decide (N.getLast?=yz (Xaj m))||decide (m=nm))=yx):Xga K N nm:=λm B e=>by have:=Uf.mp h m B;rw[decide_eq_true e,Va4,Bool.false_or,decide_eq_true_eq]at this;exact⟨this,this▸J⟩
theorem Xuy{K:Ve}{h:Heap}{mg:Str->OV}{fns:LF}{gns:LS}{d:Df}{nm:Str}{J:Nat}{L:Bool}{st:Stmt}{N ps:LS}(X:K.In h)(Gm:h.Ns Ub mg)(F:FunAt K nm st)
  (U:Xca N ps (Xq st)=yx) (Y:mtSs fns gns (Xq st) N L d.body (Yh st)=yx) (hp:d.np=la ps) (hn:d.nl=N.length) (hl:(la ps)=J) (hB:Xe8 nm st ps) (B:Xga K N nm):DefOk K mg fns gns d nm J L:=by
 obtain⟨g,fd,h1,h2⟩:=F.ex;exact⟨g,fd,st,N,ps,h1,h2,B,Vcl X Gm h2,U,Y,hp,hn,hl,h1.binds hB⟩
abbrev MD(fns:LF)(gns:LS)(st:Stmt)(N:LS)(B:Bool)(d:Df):Prop:=(mtSs fns gns (Xq st) N B d.body (Yh st)&&Xca N (N.take d.np) (Xq st))=yx
theorem mm{fns:LF}{gns:LS}{st:Stmt}{N:LS}{B:Bool}{d:Df}(h:MD fns gns st N B d):mtSs fns gns (Xq st) N B d.body (Yh st)=true:=((bA0 _ _).mp h).1
theorem ms{fns:LF}{gns:LS}{st:Stmt}{N:LS}{B:Bool}{d:Df}(h:MD fns gns st N B d):Xca N (N.take d.np) (Xq st)=true:=((bA0 _ _).mp h).2
theorem dk{K:Ve}{h:Heap}{mg:Str->OV}{fns:LF}{gns:LS}{d:Df}{nm:Str}{J:Nat}{U:Bool}{st:Stmt}{N:LS}(X:K.In h)(Y:h.Ns Ub mg)(F:FunAt K nm st)
  (L:MD fns gns st N U d) (hB:Xe8 nm st (N.take d.np)) (B:Xga K N nm:=by exact Xwn (by decide+kernel)) (hp:d.np=(N.take d.np).length:=by rfl) (hn:d.nl=N.length:=by rfl) (hl:(N.take d.np).length=J:=by rfl):DefOk K mg fns gns d nm J U:=Xuy X Y F (ms L) (mm L) hp hn hl hB B
def AllD(K:Ve)(mg:Str->OV)(fns:LF)(gns:LS):LF->List Df->Prop
 |[],[]=>True|x::r,d::ds=>DefOk K mg fns gns d x.1 x.2.1 x.2.2/\AllD K mg fns gns r ds|_,_=>False
theorem AllD.c{K:Ve}{mg:Str->OV}{fns:LF}{gns:LS}{x:Str×Nat×Bool}{r:LF}{d:Df}{ds:List Df}(h:DefOk K mg fns gns d x.1 x.2.1 x.2.2)(t:AllD K mg fns gns r ds):AllD K mg fns gns (x::r) (d::ds):=⟨h,t⟩
theorem AllD.get{K:Ve}{mg:Str->OV}{fns:LF}{gns:LS}:∀ {fs:LF} {ds:List Df},AllD K mg fns gns fs ds->∀(f:Nat) nm ar fl,fs[f]?=yz (nm,ar,fl)->∃d,ds[f]?=yz d/\DefOk K mg fns gns d nm ar fl
 |[],[],_,f,nm,ar,fl,e=>by cases e|x::r,d::ds,h,0,nm,ar,fl,e=>by cases e;exact⟨d,rfl,h.1⟩|x::r,d::ds,h,f+1,nm,ar,fl,e=>AllD.get h.2 f nm ar fl e
noncomputable def X3s(K:Ve):Bool:=blts.all λx=>match Vaa K Ub x with
 |some yy=>yx|_=>yw
theorem Xzc{K:Ve}{h:Heap}{mg:Str->OV}(X:K.In h)(J:h.Ns Ub mg)(e:X3s K=yx):∀x∈blts,mg x=none:=λx B=>by
 have:=Uf.mp e x B;split at this;·rename_i q;exact PySem.W.mg_none_of X J q
 ·cases this
theorem Xn5{K:Ve}{h:Heap}{mg:Str->OV}{nm:Str}{i:Int}{t:Tok}(X:K.In h)(B:h.Ns Ub mg)(e:Vaa K Ub nm=yz (yz (.int i t))):∃u d,mg nm=yz u/\yz (D.int i)=yz d/\∀ ρ H,∃v,RelV v u/\RD K ρ H d v:=
 ⟨_,_,Vcl X B e,rfl,λ_ _=>⟨.int i,⟨t,rfl⟩,by simp only[RD]⟩⟩
theorem Xly{K:Ve}{h:Heap}{mg:Str->OV}{nm:Str}{st:Stmt}{f:Nat}(X:K.In h)(B:h.Ns Ub mg)(F:FunAt K nm st):∃u d,mg nm=yz u/\yz (D.fn f nm)=yz d/\∀ ρ H,∃v,RelV v u/\RD K ρ H d v:=by obtain⟨g,fd,_,h2⟩:=F.ex;exact⟨_,_,Vcl X B h2,rfl,λ_ _=>⟨.ref g,rfl,by simp only[RD];exact⟨g,rfl,h2⟩⟩⟩
noncomputable def Xh5(fns:LF):LD->Bool
 |[]=>yx|.fn f nm::r=>(match fns[f]? with|some (m,_,_)=>decide (m=nm)|none=>yw)&&Xh5 fns r|_::r=>Xh5 fns r
theorem Xh6:∀ {G:LD},Xh5 fns G=yx->Xa6 f nm G=yx->∃J B,fns[f]?=yz (nm,J,B)
 |[],_,h=>by cases h|d::r,hc,h=>by
  cases d with
  |fn g m=>
   simp only[Xh5,bA0]at hc;simp only[Xa6,Vbi,bA0,beq_iff_eq,decide_eq_true_eq]at h;rcases h with⟨rfl,rfl⟩|h
   ·have h1:=hc.1;split at h1;·rename_i L J B e;have:=oD0 h1;subst this;exact⟨J,B,e⟩
    ·cases h1
   exact Xh6 hc.2 h|_=>exact Xh6 (by simpa only[Xh5] using hc) (by simpa only[Xa6] using h)
theorem X3t(hT:T[f]?=yz d):∀(k:Nat) (xs:LD) (S:Sto),FT T G k f xs S≠.bad->la xs=d.np
 |0=>λxs S h=>aB0 rfl h|k+1=>λxs S h=>by
  simp only[FT,hT,den]at h;split at h;·assumption
  ·cases h rfl
theorem law_fn {P:Vy} {w:V9} {K:Ve} {h:Heap} {mg:Str->OV} {T:List Df} {G:LD} {fns:LF} {gns:LS} {fa:Addr} {k f:Nat} {d:Df} {st:Stmt} {N:LS} {x:Str} (X:K.In h) (Gm:h.Ns Ub mg) (ac:mg "law"=yz (.ref fa))
  (er:ErrOk K) (hb:∀x∈blts,mg x=yy) (hg:∀(k:Nat) nm,gns[k]?=yz nm->∃u d,mg nm=yz u/\G[k]?=yz d/\∀ ρ H,∃v,RelV v u/\RD K ρ H d v)
  (hd:∀(f:Nat) nm ar fl,fns[f]?=yz (nm,ar,fl)->∃d,T[f]?=yz d/\DefOk K mg fns gns d nm ar fl)
  (hT:T[f]?=yz d) (F:FunAt K "law" st) (hS:Xca N [x] (Xq st)=yx) (hM:mtSs fns gns (Xq st) N yx d.body (Yh st)=yx) (hp:d.np=1) (hn:d.nl=N.length) (hB:Xe8 "law" st [x]) (Y:Xh5 fns G=true:=by rfl) (ae:Xga K N "law":=by exact Xwn (by decide+kernel)):
  ∃fd:Vc3,(∀(s:Vc) (u:Vb),BindsTo s fd ⟨[u],[]⟩ [(x,u)])/\∀base:Heap,K.In base->((∃m∈mks,Xc9 K m=yx)->BM mg base)->FnOk P w K mg base (CXd P w) (k+1) fa fd [x] (spD K 1 (FT T G (k+1) f)):=by
 obtain⟨g,fd,h1,h2⟩:=F.ex;have e:=ac.symm.trans (Vcl X Gm h2);cases e;refine⟨fd,λs u=>?_,λbase kb bm=>?_⟩;·obtain⟨oc,od,kV,aa,pm,an,U,ct,ah,rfl,_⟩:=h1.ex;exact .of_eq (hB kV aa pm an U ct [u] rfl)
 ·have L:∀(f:Nat) (nm:Str),Xa6 f nm G=yx->∃ar fl,fns[f]?=yz (nm,ar,fl)/\(∀a,Vaa K Ub nm=yz (yz (.ref a))->mg nm=yz (.ref a))/\∀k xs S,FT T G k f xs S≠.bad->la xs=ar:=λf nm h=>by
   obtain⟨ar,fl,q⟩:=Xh6 Y h;obtain⟨d',ab,⟨_,_,_,_,af,_,_,_,_,_,_,e1,_,e2,_⟩⟩:=hd f nm ar fl q;exact⟨ar,fl,q,λa z=>Vcl X Gm z,λk xs S z=>by rw[X3t ab k xs S z,e1,e2]⟩
  have B:(∃m∈mks,Xc9 K m=yx)->K.In base/\BM mg base:=λz=>⟨kb,bm z⟩;have:=Xlw (P:=P) (w:=w) (base:=base) L er hb hg (λf nm ar fl q=>table L er hb hg B hd k f nm ar fl q) B h2 ae hT h1 hS hM hp hn;exact⟨λvs H Q E z=>let ⟨_,_,_,q,_⟩:=z;q,λA outer s H J us vs Q E hr=>this.run A outer s H J us vs Q E (.of hr)⟩
theorem X3u{K:Ve}{F:LD->Sto->R D}{H:Hp}{a:Addr}{ns:LI}(J:∀xs,H a≠yz (.lst xs))(hT:TabH K H)(U:SqL K H a (ns.map V.int))(L:∃S',F [.fro (ns.map D.int)] []=.ok (.bl yx) S'):
  spD K 1 F [.ref a] H (λv _=>v=.bl yx) λ_ _ _=>False:=by
 obtain⟨S',e⟩:=L;have B:FrL K H a (ns.map V.int):=by
  rcases U with(h|⟨o,h⟩)|h;·exact aB0 h (J _)
  ·exact .inl ⟨o,h⟩
  exact .inr h
 refine⟨[.fro (ns.map D.int)],[],[],rfl,.cons ?_ .nil,⟨hT,rfl,Vfc,λn a o q=>by simp at q⟩,(by rw[e];exact λz=>nomatch z),λd S2 v H' ρ' q rd _ _=>?_,λn c S2 a H' ρ' q=>?_⟩;·simp only[RD];exact⟨a,_,rfl,B,RDs.ints ns⟩
 ·rw[e]at q;cases q;simpa only[RD] using rd
 ·rw[e]at q;cases q
theorem X3v(H:Hp)(s:Vc)(e:Vb)(s':Vc)(z:CXd P w [] H s (λ_ _ _=>False) e s'):False:=by obtain⟨_,_,_,_,_,_,q⟩:=z;exact q
end Z
end
section
namespace Z
open PySem PySem.Spec PyProof.Rows L2
open PySem.W (tabIn codeHdIn codeHd_of_K tabObj)
noncomputable def X3w(K:Ve)(ts:LR):Bool:=mks.all λm=>match tabIn K m with
 |some (c,P)=>codeHdIn K c P&&ts.contains P&&(K.lookup P).isNone|none=>yx
theorem Xrz{P:Addr}{q:Str}:∀ {l:List (Addr×Str)},l.lookup P=yz q->(P,q)∈l
 |[],e=>by cases e| (b,x)::r,e=>by
  rw[U7]at e;cases B:P==b with
  |true=>rw[B]at e;cases e;rw[eq_of_beq B];exact .head _|false=>rw[B]at e;exact .tail _ (Xrz e)
theorem X3x{K:Ve}{h:Heap}{ts:LR}(KX:K.In h)(hb:X3w K ts=yx)(ht:∀P∈ts,h.get? P=yz (tabObj #[])){P:Addr}{q:Str}(e:(Xco K).lookup P=yz q):h.get? P=yz (tabObj #[])/\isCodeTable h P/\K.lookup P=none:=by have hm:=Xrz e;unfold Xco at hm;obtain⟨m,J,B⟩:=Vcx.mp hm;rw[V5]at B;obtain⟨⟨c,P'⟩,U,L⟩:=B;cases L;have:=Uf.mp hb m J;rw[U]at this;simp only[bA0]at this;obtain⟨⟨h1,h2⟩,h3⟩:=this;have Y:=ht P' (by simpa using h2);exact⟨Y,((codeHd_of_K KX h1).tab Y).isCodeTable,by simpa using h3⟩
theorem Xr0{P:Vy}{w:V9}{K:Ve}{mg mb:Str->OV}{CX:CXT}{k:Nat}{fa a:Addr}{fd:Vc3}{x:Str}{sp:Sp}{B:Vc}{vs:LV}{ns:LI}
  (KX:K.In B.heap) (an:B.heap.Ns Ub mg) (hb:B.heap.Ns Vfa mb) (ak:∀x:Str,x ≠ "__name__" -> mb x=Vdg x) (ai:B.heap.NoLimit) (hg:B.gens=#[])
  (J:∀P q,(Xco K).lookup P=yz q->B.heap.get? P=yz (tabObj #[])/\isCodeTable B.heap P/\K.lookup P=yy) (al:BM mg B.heap)
  (ha:B.heap.get? a=yz {cls:=.type "list",data:=.seq vs.toArray}) (hi:Vcb vs ns) (hl:(la ns)<=Vu) (hr:Room k callerA)
  (F:∀base:Heap,K.In base->BM mg base->FnOk P w K mg base CX k fa fd [x] sp) (ab:∀(s:Vc) (u:Vb),BindsTo s fd ⟨[u],[]⟩ [(x,u)])
  (ao:∀H:Hp,(∀xs,H a≠yz (.lst xs))->TabH K H->SqL K H a (ns.map V.int)->sp [.ref a] H (λv _=>v=.bl yx) λ_ _ _=>False)
  (aq:∀H e s',CX [] H B (λ_ _ _=>False) e s'->False):
  Vbz (Vj P w) callerA (.call (.ref fa) ⟨[.ref a],[]⟩) (λr s'=>r=.ok (.ret (.bool yx))/\OldK B.heap s'.heap/\s'.os=B.os/\AllBare s'.gens) B:=by
 have rv:=Xi3 hi;have af:=hi.length;have ap:∀q,(Xco K).lookup a≠yz q:=λq e=>by have:=(J a q e).1;rw[ha]at this;cases this
 have Y:∀o:Option HO,(∀u,o=yz u->u=.frz {cls:=.type "list",data:=.seq vs.toArray} (.lst (ns.map V.int))/\K.lookup a=yy)->SqL K (λb=>if b=a then o else ((Xco K).lookup b).map .tbl) a (ns.map V.int) ->
   Vbz (Vj P w) callerA (.call (.ref fa) ⟨[.ref a],[]⟩) (λr s'=>r=.ok (.ret (.bool yx))/\OldK B.heap s'.heap/\s'.os=B.os/\AllBare s'.gens) B:=by
  intro o hO hS;generalize eH:(λb=>if b=a then o else ((Xco K).lookup b).map HO.tbl)=H at hS;have am:H a=o:=by rw[<-eH];exact iP0 rfl
  have aj:∀b,b≠a->H b=((Xco K).lookup b).map HO.tbl:=λb z=>by rw[<-eH];exact iN0 z
  have trk:∀b u,H b=yz u->(b=a/\u=.frz {cls:=.type "list",data:=.seq vs.toArray} (.lst (ns.map V.int))/\K.lookup a=yy)\/∃q,u=.tbl q/\(Xco K).lookup b=yz q:=λb u e=>by
   by_cases hb:b=a;·subst hb;rw[am]at e;exact .inl ⟨rfl,hO u e⟩
   ·rw[aj b hb,V5]at e;obtain⟨q,e1,L⟩:=e;exact .inr ⟨q,L.symm,e1⟩
  have hT:TabH K H:=λP q e=>by rw[aj P λz=>ap q (z▸e),e];rfl
  have hok:HOk P w H B.heap:=λb u e=>by
   rcases trk b u e with⟨rfl,rfl,_⟩|⟨q,rfl,L⟩;·exact⟨ha,by rw[Vn];exact hl,vs,_,rv,ha⟩
   ·exact⟨#[],(J b q L).1,trivial,λpos cv z=>by cases z⟩
  have U:∀ {b:Addr} {o:Obj},B.heap.get? b=yz o->o.cls≠.type "list" -> o≠tabObj #[]->(Xc5 B.heap H).get? b=yz o:=λ{b o} e n1 n2=>Xfs e (by
   cases q:H b with
   |none=>rfl|some u=>
    rcases trk b u q with⟨rfl,_⟩|⟨q,_,L⟩;·rw[ha]at e;cases e;cases n1 rfl
    ·rw[(J b q L).1]at e;cases e;exact aB0 rfl n2)
  have ac:∀ {b:Addr} {m:Str->OV},B.heap.Ns b m->(Xc5 B.heap H).Ns b m:=λ{b m} ⟨o,es,ep,e,d,r⟩=>by
   refine⟨o,es,ep,Xfs e ?_,d,r⟩;cases q:H b with
   |none=>rfl|some u=>
    rcases trk b u q with⟨rfl,_⟩|⟨q,_,L⟩;·rw[ha]at e;cases e;cases d
    ·rw[(J b q L).1]at e;cases e;cases d
  have ah:K.In (Xc5 B.heap H):=λb o e=>Xfs (KX b o e) (by
   cases q:H b with
   |none=>rfl|some u=>
    rcases trk b u q with⟨rfl,_,z⟩|⟨q,_,L⟩;·rw[z]at e;cases e
    ·rw[(J b q L).2.2]at e;cases e)
  have hM:Mod K mg (Xc5 B.heap H):=⟨ah,ac an,⟨mb,ac hb,ak⟩,let ⟨mc,h1,h2⟩:=ai;⟨mc,ac h1,h2⟩⟩;have hB:BM mg (Xc5 B.heap H):=by obtain⟨bm,ob,b1,b2,b3,b4,r⟩:=al;exact⟨bm,ob,b1,b2,U b3 (by rw[b4];nofun) (λz=>by rw[z]at b4;cases b4),b4,r⟩
  have e0:Env0 P w K mg (Xc5 B.heap H) callerA [] B H:=⟨rfl,hM,λb o e=>Xwz e,Nat.le_of_eq (Xqg _ _),trivial,λb hb=>aB0 (show b∈([]:LR) from hb) (by simp),hok,.of_eq hg⟩;refine Vdj ((F _ ah hB).run callerA [] B H ⟨[.ref a],[]⟩ [.ref a] [.ref a] _ _ hr e0 (ab B (.ref a)) (.cons rfl .nil) (ao H (λxs z=>by rcases trk a _ z with⟨_,z,_⟩|⟨_,z,_⟩<;>cases z) hT hS)) λr s' h=>?_;cases r with
  |error e=>exact(aq H e s' h).elim|ok fl=>
   cases fl with
   |next=>exact Vdv h|brk=>exact Vdv h|cont=>exact Vdv h|ret u=>
    obtain⟨v,H',os,bare,un,aa,r',q⟩:=h;have q':v=.bl true:=q;subst q';obtain rfl:u=Veh true:=r';have ae:∀b o,B.heap.get? b=yz o->s'.heap.get? b=yz o\/(isCodeTable B.heap b/\o=tabObj #[]/\∃ps,s'.heap.get? b=yz (tabObj ps)):=λb o e=>by
     cases q:H b with
     |none=>exact .inl (un.keep b o e q (by intro z;exact aB0 (show b∈([]:LR) from z) (by simp)) (by simp))|some u=>
      rcases trk b u q with⟨rfl,rfl,_⟩|⟨q2,rfl,L⟩;·obtain⟨e3,_⟩:=aa _ _ (un.frzs _ _ _ q);rw[ha]at e;cases e;exact .inl e3
      ·obtain⟨ps,e3,_⟩:=aa _ _ (un.tbls _ _ q);obtain⟨t1,t2,_⟩:=J b q2 L;rw[t1]at e;cases e;exact .inr ⟨t2,rfl,ps,e3⟩
    refine⟨rfl,⟨λb o e=>?_,λb o e=>?_⟩,os,bare⟩
    ·rcases ae b o e with z|⟨t,rfl,ps,z⟩;·exact .inl z
     ·exact .inr (.inl ⟨t,rfl,#[],ps,rfl,by rw[z,Array.empty_append]⟩)
    rcases ae b o e with z|⟨_,_,ps,z⟩;·exact⟨_,z⟩
    ·exact⟨_,z⟩
 cases hk:K.lookup a with
 |some o=>have e:=KX a o hk;rw[ha]at e;cases e;exact Y yy (λ_ z=>nomatch z) (.inr ⟨_,vs.toArray,_,hk,rfl,rfl,rfl,by rw[Vk,af];exact hl,by simpa using rv⟩)|none=>exact Y (yz (.frz {cls:=.type "list",data:=.seq vs.toArray} (.lst (ns.map V.int)))) (λu z=>by cases z;exact⟨rfl,hk⟩) (.inl (.inr ⟨{cls:=.type "list",data:=.seq vs.toArray},iP0 rfl⟩))
noncomputable def dr(ts:LR)(K:Ve):Ve:=K.filter λp=>!ts.contains p.1
noncomputable def Xe9(ts:LR)(K:Ve):Bool:=ts.all λP=>match K.lookup P with
 |some ⟨.none,yy,.fields ⟨[]⟩,⟨[]⟩⟩=>yx|_=>yw
section
variable{ts:LR}{K:Ve}{h:Heap}
theorem Xpq{a:Addr}:∀ {K:Ve},(dr ts K).lookup a=if a∈ts then yy else K.lookup a
 |[]=>by show yy=_;split<;>rfl| (b,x)::r=>by
  have ih:=Xpq (a:=a) (K:=r);unfold dr at ih ⊢;rw[List.filter_cons,U7];cases J:a==b with
  |true=>
   have e:=eq_of_beq J;subst e;by_cases B:a∈ts;·rw[iN0 (by simpa using B),ih];simp only[B,if_true]
   ·rw[iP0 (by simpa using B),U7,J,iN0 B]|false=>
   split;·rw[U7,J];exact ih
   ·exact ih
theorem X59(X:K.In h):(dr ts K).In h:=λa o e=>by
 rw[Xpq]at e;split at e;·cases e
 ·exact X a o e
theorem Xn6(B:Xe9 ts K=yx){P:Addr}(J:P∈ts):K.lookup P=yz (tabObj #[]):=by
 have:=Uf.mp B P J;split at this;·assumption
 ·cases this
theorem Xh7(L:Xe9 ts K=yx){a:Addr}{o:Obj}(e:K.lookup a=yz o)(J:o≠tabObj #[]):(dr ts K).lookup a=yz o:=by
 rw[Xpq,iN0];·exact e
 ·intro B;rw[Xn6 L B]at e;exact J (Uc e).symm
theorem ns_dr(B:Xe9 ts K=yx){x:Str}{r:OV}(e:Vaa K a x=yz r):Vaa (dr ts K) a x=yz r:=by
 unfold Vaa at e ⊢;split at e;·rename_i q;rw[Xh7 B q λz=>by cases z];exact e
 ·cases e
theorem fun_dr(hb:Xe9 ts K=yx){nm:Str}{st:Stmt}(F:FunAt K nm st):FunAt (dr ts K) nm st:=by
 obtain⟨g,fd,⟨⟨oc,od,kV,Y,pm,an,U,ct,L,rfl,lk,B⟩,hk⟩,hn⟩:=F.ex;have J:=Xh7 hb lk λz=>by cases z
 refine⟨g,_,⟨⟨oc,od,kV,Y,pm,an,U,ct,L,rfl,J,?_⟩,?_⟩,ns_dr hb hn⟩
 ·unfold Vfb at B ⊢;split at B
  ·split at B;·rename_i q;rw[Xh7 hb q λz=>by cases z;cases B];exact B
   ·cases B
  cases B
 unfold Vcs;simp only[J]
end
theorem walk_zT{l:PySem.W.OpenLaw}{loose:LS}{XP:(Str->OV)->Heap->Prop}{YP:V9->Heap->Prop}{d:DefRec}{K:Params->Ve}{T:List Df}{G:LD}{k f:Nat}{x:Str}(ts:LR)(hn:l.most=yz 63)(ab:d.params.defaults=[])(hr:Room k callerA)
  (hY:∀(w:V9) (h:Heap),YP w h->(K w.params).In h) (hT:∀w:V9,Xe9 ts (K w.params)=yx) (hN:∀w:V9,X3w (dr ts (K w.params)) ts=yx)
  (F:∀(w:V9) (mg:Str->OV) (fa:Addr) (h:Heap),Xe9 ts (K w.params)=yx->(dr ts (K w.params)).In h->h.Ns Ub mg->mg d.name=yz (.ref fa) ->
   ∃fd:Vc3,(∀(s:Vc) (u:Vb),BindsTo s fd ⟨[u],[]⟩ [(x,u)])/\∀base:Heap,(dr ts (K w.params)).In base->((∃m∈mks,Xc9 (dr ts (K w.params)) m=yx)->BM mg base)->FnOk l.prog w (dr ts (K w.params)) mg base (CXd l.prog w) k fa fd [x] (spD (dr ts (K w.params)) 1 (FT T G k f)))
  (hL:∀ns:LI,la ns<=63->∃S',FT T G k f [.fro (ns.map D.int)] []=.ok (.bl yx) S'):
  PySem.W.WalkO q loose XP YP l.row.toRowW d [] (λf vs=>PySem.call f vs):=by
 refine Att.attach_call hn ab λw s₀ aa mg mb fa o pm cd af a vs ns G Y ho hd ae ac U L B hg=>?_;have KX:=hY w _ Y;have J:=X59 (ts:=ts) KX;obtain⟨fd,hb,hF⟩:=F w mg fa _ (hT w) J G.T.g ac;exact Xr0 J G.T.g G.T.b G.T.builtins G.T.nolimit hg (λP q e=>X3x J (hN w) (λP hP=>KX P _ (Xn6 (hT w) hP)) e) G.T.bmain U L (Ul B (by decide)) hr (λbase kb bm=>hF base kb λ_=>bm) hb (λH hO hT hS=>X3u hO hT hS (hL ns B)) λH e s'=>X3v H aa e s'
end Z
end
section
namespace Z
open PySem PySem.Spec PyProof.Rows L2
section
variable{F:Fn}{G:LD}{s:St}{ss:Sts}{env e:En}{S S1:Sto}
theorem Xc(h:exe F G s env S=.ok (.nx e) S1):pb F G (.cons s ss) env S=pb F G ss e S1:=by simp only[pb,h]
theorem Xp(h:exe F G s env S=.ok (.rt d) S1):pb F G (.cons s ss) env S=.ok (.rt d) S1:=by simp only[pb,h]
theorem Xch(h:exe F G s env S=.ex n S1):pb F G (.cons s ss) env S=.ex n S1:=by simp only[pb,h]
theorem Xek{get:Sto->Nat->Option (Option D)}{body:En->Sto->R Fl}(xs:LD)(P:Nat->En->Sto->Prop)(J:∀i e S,P i e S->get S i=yz xs[i]?)
  (step:∀i d e S,xs[i]?=yz d->P i e S->∃Y U S2,Xn t d e=yz Y/\body Y S=.ok (.nx U) S2/\P (i+1) U S2):
  ∀(B i:Nat) (e:En) (S:Sto),P i e S->i<=la xs->la xs<B+i->∃L S',Ye get t body B i e S=.ok (.nx L) S'/\P (la xs) L S'
 |0=>λi e S h h1 h2=>by omega|B+1=>λi e S h h1 h2=>by
  cases q:xs[i]? with
  |none=>
   have hi:i=la xs:=by have:=Uu.mp q;omega
   refine⟨e,S,?_,hi▸h⟩;simp only[Ye,J i e S h,q]|some d=>obtain⟨Y,U,S2,a1,a2,a3⟩:=step i d e S q h;have hi:i<la xs:=(Vh.mp q).1;obtain⟨L,S',b1,b2⟩:=Xek xs P J step B (i+1) U S2 a3 (by omega) (by omega);refine⟨L,S',?_,b2⟩;simp only[Ye,J i e S h,q,a1,a2];exact b1
theorem Xci{ds xs:LD}(P:Nat->En->Sto->Prop)(h1:evs F G es env S=.ok ds S1)(h2:Ys ds=yz xs)(h0:P 0 env S1)
  (step:∀i d e S,xs[i]?=yz d->P i e S->∃L J S2,Xn t d e=yz L/\pb F G b L S=.ok (.nx J) S2/\P (i+1) J S2):
  ∃B S',exe F G (.for t (.rng es) b) env S=.ok (.nx B) S'/\P (la xs) B S':=by
 obtain⟨B,S',a,U⟩:=Xek (get:=(Src.con xs).get) (t:=t) (body:=λenv S=>pb F G b env S) xs P (λ_ _ _ _=>rfl) step (la xs+1) 0 env S1 h0 (Ug _) (by omega);refine⟨B,S',?_,U⟩;simp only[exe,evit,h1,Rk0,h2,Src.most];exact a
end
theorem Xax(h:Ys [.int m]=yz xs)(q:xs[i]?=yz d):d=.int i/\i<m.toNat:=by
 simp only[Ys]at h;split at h
 ·cases h;rw[Vx]at q;cases z:(Vm m.toNat)[i]? with
  |none=>rw[z]at q;cases q|some j=>rw[z]at q;obtain⟨hi,e⟩:=Vh.mp z;simp at e hi;subst e;simp at q;exact⟨q.symm,by omega⟩
 cases h
theorem Xag(h0:0<=m)(h:m<1048576):∃xs,Ys [.int m]=yz xs/\(la xs)=m.toNat:=by refine⟨_,by simp only[Ys];rw[iP0 ⟨by omega,h⟩],by simp⟩
noncomputable def C:Nat->Nat->Nat
 |_,0=>1|0,_+1=>0|n+1,k+1=>C n k+C n (k+1)
theorem Xbi(n:Nat):C n 0=1:=by cases n<;>rfl
theorem Xdz:∀(n k:Nat),n<k->C n k=0
 |0,k+1,_=>rfl|n+1,k+1,h=>by simp only[C];rw[Xdz n k (by omega),Xdz n (k+1) (by omega)]
theorem Xcs:∀(n k:Nat),C n (k+1)*(k+1)=C n k*(n-k)
 |0,k=>by simp[C]|n+1,0=>by have:=Xcs n 0;simp only[Xbi,Vf4,Nat.one_mul,Nat.mul_one,Vbo]at this ⊢;simp only[C,Xbi];rw[this];omega|n+1,k+1=>by
  have h1:=Xcs n (k+1);have h2:=Xcs n k;have e:n+1-(k+1)=n-k:=by omega
  rw[e];simp only[C];by_cases L:k+1<=n
  ·obtain⟨d,rfl⟩:∃d,n=k+1+d:=⟨n-(k+1),by omega⟩;have B:k+1+d-(k+1)=d:=by omega
   have J:k+1+d-k=d+1:=by omega
   rw[B]at h1;rw[J]at h2 ⊢;rw[Nat.add_mul,Nat.add_mul,h1,<-h2,<-Nat.mul_add,<-Nat.mul_add];congr 1;omega
  rw[Xdz n (k+1) (by omega),Xdz n (k+1+1) (by omega),Ve1,Ve1,Nat.zero_mul];have:n-k=0:=by omega
  rw[this,Nat.mul_zero]
theorem X6a(n k:Nat):(C n k:Int)*((n:Int)-k)=(C n (k+1):Int)*((k:Int)+1):=by
 by_cases h:k<=n
 ·have:=Xcs n k;have e:((n-k:Nat):Int)=(n:Int)-k:=by omega
  rw[<-e];have B:((k:Int)+1)=((k+1:Nat):Int):=by omega
  rw[B,<-Vdu,<-Vdu,this]
 rw[Xdz n k (by omega),Xdz n (k+1) (by omega)];simp
theorem X6b(n k:Nat):((C n k:Int)*((n:Int)-k))/((k:Int)+1)=C n (k+1):=by rw[X6a,Int.mul_ediv_cancel _ (by omega)]
theorem X3y:∀(n k:Nat),C n k<=n^k
 |n,0=>by rw[Xbi];simp|n,k+1=>by have h1:=Xcs n k;have h2:=X3y n k;have B:C n (k+1)<=C n (k+1)*(k+1):=Nat.le_mul_of_pos_right _ (by omega);rw[h1]at B;have J:C n k*(n-k)<=n^k*n:=Nat.mul_le_mul h2 (Nat.sub_le _ _);rw[Ve0];omega
noncomputable def fac:Nat->Nat
 |0=>1|n+1=>fac n*(n+1)
theorem Xn7:∀n,0<fac n
 |0=>by decide|n+1=>Nat.mul_pos (Xn7 n) (by omega)
theorem Xuz(s:String):PyData.strOk (U5 s)=true:=by
 rw[Str.ofString_eq_toList];unfold PyData.strOk;rw[<-Array.all_toList,Uf];intro n hn;have B:n∈s.toList.map Char.toNat:=by simpa using hn
 obtain⟨c,_,rfl⟩:=Va6.mp B;refine decide_eq_true ?_;have:=c.valid;rcases this with h|⟨_,h⟩;·have:c.toNat<0xd800:=h;omega
 ·exact h
theorem ne_str(s:String):Xj .ne (.str (U5 s)) (.str (U5 s)) S=.ok (.bl yw) S:=by simp only[Xj,X7,eqD,Xb1,Yq,Xav,Vfe,Xuz,Ve9];simp[Vb6]
theorem Xu(i j:Int)(S:Sto):Xw .add (.int i) (.int j) S=.ok (.int (i+j)) S:=rfl
theorem Yp(i j:Int)(S:Sto):Xw .sub (.int i) (.int j) S=.ok (.int (i-j)) S:=rfl
theorem Xa1(h:Yl i j=yx)(S:Sto):Xw .mul (.int i) (.int j) S=.ok (.int (i*j)) S:=by simp only[Xw,h,if_true]
theorem Xct(h:Y6 j=yx)(S:Sto):Xw .fdiv (.int i) (.int j) S=.ok (.int (i/j)) S:=by simp only[Xw,h,if_true]
theorem Xfa(h:0<j)(S:Sto):Xw .mod (.int i) (.int j) S=.ok (.int (i%j)) S:=by simp only[Xw,h,if_true]
theorem Xcj(h:0<=j/\j<=1000/\i.natAbs<2^63)(S:Sto):Xw .pow (.int i) (.int j) S=.ok (.int (i^j.toNat)) S:=by simp only[Xw,h,and_self,if_true]
theorem Xck(h1:-1000000000000000<j)(h2:j<1000000000000000):Yl i j=true:=by unfold Yl;simp only[Vbi,bA0,decide_eq_true_eq];left;right;constructor<;>omega
theorem Xn8(h1:-1000000000000000<i)(h2:i<1000000000000000):Yl i j=true:=by unfold Yl;simp only[Vbi,bA0,decide_eq_true_eq];left;left;constructor<;>omega
theorem Xzd(h1:i.natAbs.log2<100000)(h2:j.natAbs.log2<100000):Yl i j=true:=by unfold Yl;simp only[Vbi,bA0,decide_eq_true_eq];right;exact⟨h1,h2⟩
end Z
end
section
namespace Z
open PySem PySem.W
section
variable(tb:String->Option Vbb)(p:Vy)(w:V9)(m:Nat)(ann:OV)
noncomputable def topT:Nat->SharedT->Thread->Option SharedT
 |0,_,_=>yy|n+1,s,t=>match through t with
  |true=>yz s|false=>match stepOk m ann t with
   |false=>yy|true=>match stepT (denote tb) p w s t with
    |some (s',t')=>topT n s' t'|none=>yy
end
theorem Xn9{tb:String->Option Vbb}{p:Vy}{w:V9}{m:Nat}{ann:OV}:∀ {n:Nat} {s s':SharedT} {t:Thread},topT tb p w m ann n s t=yz s'->topRun tb p w m ann n s.abs t=yz s'.abs
 |0,_,_,_,h=>by cases h|n+1,s,s',t,h=>by
  unfold topT at h;unfold topRun;cases B:through t with
  |true=>rw[B]at h;cases h;rfl|false=>
   rw[B]at h;cases J:stepOk m ann t with
   |false=>rw[J]at h;cases h|true=>
    rw[J]at h;cases hs:stepT (denote tb) p w s t with
    |none=>rw[hs]at h;cases h|some r=>obtain⟨a,b⟩:=r;rw[hs]at h;rw[stepT_spec hs];exact Xn9 h
noncomputable def Xjz(P:Params):BT:=
 .node (boot_o_0 P) (.node (boot_o_1 P) (.node (boot_o_3 P) (.node (boot_o_7 P) .nil .nil) .nil) (.node (boot_o_5 P) (.node (boot_o_9 P) .nil .nil) .nil))
  (.node (boot_o_2 P) (.node (boot_o_4 P) (.node (boot_o_8 P) .nil .nil) .nil) (.node (boot_o_6 P) (.node (boot_o_10 P) .nil .nil) .nil))
noncomputable def Xj0:Life:={debug:=0,thresholds:=[2000,10,10]}
theorem Xu0(P:Params):absHeap (Xjz P) 11 Xj0=boot_heap P:=by kernel_rfl
theorem Xr1(P:Params):((boot_heap P).isNs Ub&&(Array.mk ([]:List Vex)).size==0,(boot_heap P).objs.size,(boot_heap P).nsMap Ub "__annotations__")=(yx,11,yz (.ref 6)):=by kernel_rfl
noncomputable def Xr2{α:Type}(p q:Vy)(loose:LS)(Xt:Vc->Bool)(Yf:Vc->α)(P:Params)(s:Vc):=((staticsOk (Vd1 p.main.body) (boot_heap P) s.heap&&namesBound p s.heap&&gensDone s&&laidKept (boot_heap P) s.heap),openSeen q loose (Vd1 p.main.body) Xt yx s,Yf s)
theorem Xr3{p q:Vy}{loose:LS}{Xt:Vc->Bool}{α:Type}{Yf:Vc->α}{Ya:V9->α}{N:Nat}
  (e:opening p=plainProg p.main.scope.names) (hN:Nat.ble 600 N=yx) (f:∀s,fenceModules? p s=yz s)
  (all:∀w os,(topT treeTable p w 11 (yz (.ref 6)) N ⟨Xjz w.params,11,Xj0,Array.mk [],boot_drawn,boot_toks,os⟩ (topStub p)).map (λs=>Xr2 p q loose Xt Yf w.params s.abs)=yz (yx,openGood q loose,Ya w)):
  LeftO p q loose Xt Yf Ya N:=λw=>by
 obtain⟨⟨h,U,d,k,os⟩,Y,L⟩:=V5.mp (boot_open e hN f w);obtain⟨rfl,rfl,rfl,rfl⟩:h=boot_heap w.params/\U=Array.mk []/\d=boot_drawn/\k=boot_toks:=by simpa using L
 obtain⟨z1,z2,z3⟩:_/\_/\_:=by simpa only[Vdq] using Xr1 w.params
 obtain⟨s,r,l⟩:=V5.mp (all w os);have B:=Xn9 r;have J:SharedT.abs ⟨Xjz w.params,11,Xj0,Array.mk [],boot_drawn,boot_toks,os⟩=⟨boot_heap w.params,Array.mk [],boot_drawn,boot_toks,os⟩:=by unfold SharedT.abs;dsimp only;rw[Xu0]
 rw[J]at B;unfold Xr2 at l;obtain⟨l1,l2,l3⟩:_/\_/\_:=by simpa only[Vdq] using l
 have t:topFrom treeTable p w N ⟨boot_heap w.params,Array.mk [],boot_drawn,boot_toks,os⟩=yz s.abs:=by unfold topFrom;dsimp only;rw[z1,z2,z3,B];dsimp only[Option.bind];rw[l1]
 unfold openEnds;rw[Y];show(topFrom treeTable p w N _).map _=_;rw[t];exact congrArg yz (Prod.ext l2 l3)
abbrev RunT{β:Type}(p:Vy)(g:V9->SharedT->β)(r:V9->β):Prop:=∀w os,(topT treeTable p w 11 (yz (.ref 6)) 40000 ⟨Xjz w.params,11,Xj0,Array.mk [],boot_drawn,boot_toks,os⟩ (topStub p)).map (g w)=yz (r w)
theorem left_tree3{p q:Vy}{loose:LS}{Xt:Vc->Bool}{α:Type}{Yf:Vc->α}{Ya:V9->α}(e:opening p=plainProg p.main.scope.names)(f:∀s,fenceModules? p s=yz s)
  (a1:RunT p (λw s=>staticsOk (Vd1 p.main.body) (boot_heap w.params) s.abs.heap&&namesBound p s.abs.heap&&gensDone s.abs&&laidKept (boot_heap w.params) s.abs.heap) λ_=>yx)
  (a2:RunT p (λ_ s=>openSeen q loose (Vd1 p.main.body) Xt yx s.abs) λ_=>openGood q loose) (a3:RunT p (λ_ s=>Yf s.abs) Ya):LeftO p q loose Xt Yf Ya 40000:=Xr3 e rfl f λw os=>by
 obtain⟨s,h,x1⟩:=V5.mp (a1 w os);have x2:=a2 w os;have B:=a3 w os;rw[h]at x2 B ⊢;exact congrArg yz (Prod.ext x1 (Prod.ext (Uc x2) (Uc B)))
end Z
end
section
namespace Z
open PySem PySem.Spec PyProof.Rows L2
theorem Xpr{m:Int}(h:m<1000000):m<1048576:=by omega
theorem Xf:Xa (S++[.lst xs]) (la S)=yz xs:=by unfold Xa;rw[Val (Vl _),Va7];rfl
theorem Xv(h:Xa S q=yz xs):Xa (S++X) q=yz xs:=by
 unfold Xa at h ⊢;cases e:S[q]? with
 |none=>rw[e]at h;cases h|some o=>rw[Vs (Vh.mp e).1];exact h
theorem Xay(hp:Xa S p=yz xs):p<la S:=by
 unfold Xa at hp;cases e:S[p]? with
 |none=>rw[e]at hp;cases hp|some o=>exact(Vh.mp e).1
theorem Xa2{S:Sto}{p:Nat}{x:LD}(h:p<la S):Xa (S.set p (.lst x)) p=yz x:=by unfold Xa;rw[Va0 h]
theorem Xji(h:p≠q):Xa (S.set p o) q=Xa S q:=by unfold Xa;rw[Vab h]
theorem X7l(h:Xa S p=yz [.int v]):Xah (.ref p) (.int 0) S=.ok (.int v) S:=by simp only[Xah,Xat,Xs,h,V1,Z.ixN,V8];rfl
theorem X6c(h:Xa S p=yz [.int v]):Xcy (.ref p) (.int 0) d S=.ok () (S.set p (.lst [d])):=by have h':Z.lstM S p=yz [.int v]:=h;simp only[Xcy,h',Z.ixN,V8];rfl
section
variable{F:Fn}{G:LD}
noncomputable def Xps:Sts:=.cons (.ite (.cmp .lt (.var 1) (.blt .len (.cons (.var 0) .nil))) (.cons (.ret (.idx (.var 0) (.var 1))) .nil) .nil) (.cons (.ret (.cst (.int 0))) .nil)
noncomputable def Xj1:Df:=⟨2,2,Xps⟩
theorem Xu1(ns:LI)(j:Nat)(S:Sto):∃c,den F G Xj1 [.fro (ns.map D.int),.int j] S=.ok (.int c) S:=by
 have B:Xx .len [.fro (ns.map D.int)] S=.ok (.int (la ns)) S:=by simp only[Xx,Xs,Vn]
 by_cases h:j<la ns
 ·refine⟨ns[j],?_⟩;have hi:Xah (.fro (ns.map D.int)) (.int j) S=.ok (.int ns[j]) S:=by
   simp only[Xah,Xat,Xs,V1,Z.ixN,Vn];rw[iP0 (by omega),iP0 (by omega)];simp[h]
  simp only[den,Xj1,Xps,V8,if_true,Uk,Vi,Va7,Ud];rw[Xp (d:=.int ns[j]) (S1:=S) (by
   have J:decide ((j:Int)<(la ns:Int))=true:=decide_eq_true (by omega)
   simp only[exe,ev,evs,gZ0,gS0,Rk0,B,Xj,X7,ltD,J,Xh];simp only[pb,exe,ev,gZ0,gS0,Rk0,hi])]
 refine⟨0,?_⟩
 simp only[den,Xj1,Xps,V8,if_true,Uk,Vi,Va7,Ud];rw[Xc (e:=[yz (.fro (ns.map D.int)),yz (.int j)]) (S1:=S) (by
  have J:decide ((j:Int)<(la ns:Int))=false:=decide_eq_false (by omega)
  simp only[exe,ev,evs,gZ0,gS0,Rk0,B,Xj,X7,ltD,J,Xh];simp only[pb])]
 simp only[pb,exe,ev,Rk0]
noncomputable def Xwo:Sts:=.cons (.asg (.var 2) (.bin .mod (.idx (.var 0) (.cst (.int 0))) (.var 1))) (.cons (.aset (.var 0) (.cst (.int 0)) (.bin .fdiv (.idx (.var 0) (.cst (.int 0))) (.var 1))) (.cons (.ret (.var 2)) .nil))
noncomputable def Xj2:Df:=⟨2,3,Xwo⟩
theorem Xu2{p:Nat}{v far:Int}{S:Sto}(h:Xa S p=yz [.int v])(h0:0<far)(hd:Y6 far=yx):den F G Xj2 [.ref p,.int far] S=.ok (.int (v%far)) (S.set p (.lst [.int (v/far)])):=by have B:=X7l h;have J:=X6c (d:=.int (v/far)) h;simp only[den,Xj2,Xwo,V8,if_true,Uk,Vi];rw[Xc (e:=[yz (.ref p),yz (.int far),yz (.int (v%far))]) (S1:=S) (by simp only[exe,ev,Vah,Uz,gZ0,gS0,Rk0,B,Xfa h0,Xn,Vaw])];rw[Xc (e:=[yz (.ref p),yz (.int far),yz (.int (v%far))]) (S1:=S.set p (.lst [.int (v/far)])) (by simp only[exe,ev,gZ0,gS0,Rk0,B,Xct hd,J])];rw[Xp (d:=.int (v%far)) (S1:=S.set p (.lst [.int (v/far)])) (by simp only[exe,ev,gZ0,gS0,Rk0])]
noncomputable def Xgw:Sts:=.cons (.asg (.var 3) (.bin .mod (.bin .mul (.bin .add (.bin .add (.bin .mod (.var 0) (.cst (.int 2147483629))) (.bin .mul (.cst (.int 7919)) (.var 2))) (.cst (.int 1))) (.cst (.int 48271))) (.cst (.int 2147483647))))
  (.cons (.asg (.var 3) (.bin .mod (.bin .add (.bin .add (.bin .mul (.var 3) (.var 3)) (.bin .mul (.cst (.int 69621)) (.var 2))) (.cst (.int 7))) (.cst (.int 2147483587))))
  (.cons (.asg (.var 1) (.bin .add (.bin .mul (.var 1) (.cst (.int 2147483587))) (.var 3)))
  .nil))
noncomputable def Xu3:Sts:=.cons (.ite (.cmp .ge (.var 0) (.bin .pow (.cst (.int 10)) (.cst (.int 18)))) (.cons (.ret (.lst (.cons (.bin .sub (.var 0) (.bin .pow (.cst (.int 10)) (.cst (.int 18)))) .nil))) .nil) .nil)
 (.cons (.asg (.var 1) (.cst (.int 0))) (.cons (.for (.var 2) (.rng (.cons (.cst (.int 64)) .nil)) Xgw) (.cons (.ret (.lst (.cons (.var 1) .nil))) .nil)))
noncomputable def Xh8:Df:=⟨1,4,Xu3⟩
theorem Xu4(c a j:Int)(x:Option D)(S:Sto):∃a' U,pb F G Xgw [yz (.int c),yz (.int a),yz (.int j),x] S=.ok (.nx [yz (.int c),yz (.int a'),yz (.int j),yz (.int U)]) S:=by
 have Y:Yl 7919 j=true:=Xn8 (by decide) (by decide);have L:∀y,Yl y 48271=true:=λy=>Xck (by decide) (by decide);have m3:Yl 69621 j=true:=Xn8 (by decide) (by decide);have m4:∀y,Yl y 2147483587=true:=λy=>Xck (by decide) (by decide);have J:(0:Int)<2147483629:=by decide
 have p2:(0:Int)<2147483647:=by decide
 have p3:(0:Int)<2147483587:=by decide
 generalize B:((c%2147483629+7919*j+1)*48271)%2147483647=b;have b1:0<=b:=by rw[<-B];exact Vc2 _ (by decide)
 have b2:b<2147483647:=by rw[<-B];exact Vce _ (by decide)
 have m5:Yl b b=true:=Xck (by omega) (by omega);refine⟨a*2147483587+(b*b+69621*j+7)%2147483587,(b*b+69621*j+7)%2147483587,?_⟩;unfold Xgw;rw[Xc (e:=[yz (.int c),yz (.int a),yz (.int j),yz (.int b)]) (S1:=S) (by simp only[exe,ev,gZ0,gS0,Rk0,Xfa J,Xa1 Y,Xu,Xa1 (L _),Xfa p2,Xn,Vaw,B])];rw[Xc (e:=[yz (.int c),yz (.int a),yz (.int j),yz (.int ((b*b+69621*j+7)%2147483587))]) (S1:=S) (by simp only[exe,ev,gZ0,gS0,Rk0,Xa1 m5,Xa1 m3,Xu,Xfa p3,Xn,Vaw])];rw[Xc (e:=[yz (.int c),yz (.int (a*2147483587+(b*b+69621*j+7)%2147483587)),yz (.int j),yz (.int ((b*b+69621*j+7)%2147483587))]) (S1:=S) (by simp only[exe,ev,gZ0,gS0,Rk0,Xa1 (m4 _),Xu,Xn,Vaw])];simp only[pb]
theorem Xze(c a:Int)(S:Sto)(J:En)(U:¬ (10:Int)^(18:Int).toNat<=c)(h1:exe F G (.for (.var 2) (.rng (.cons (.cst (.int 64)) .nil)) Xgw) [yz (.int c),yz (.int 0),yy,yy] S=.ok (.nx J) S)(h2:J[1]?=yz (yz (.int a))):
  den F G Xh8 [.int c] S=.ok (.ref (la S)) (S++[.lst [.int a]]):=by
 have L:Xw .pow (.int 10) (.int 18) S=.ok (.int (10^(18:Int).toNat)) S:=Xcj (by decide+kernel) S;generalize (10:Int)^(18:Int).toNat=w at L U;simp only[den,Xh8,Xu3,V8,if_true,Uk,Vi];rw[Xc (e:=[yz (.int c),yy,yy,yy]) (S1:=S) (by simp only[exe,ev,Vah,Uz,gZ0,gS0,Rk0,L,Xj,X7,Xh,decide_eq_false U];simp only[pb])];rw[Xc (e:=[yz (.int c),yz (.int 0),yy,yy]) (S1:=S) (by simp only[exe,ev,Rk0,Xn,Vaw])];have B:=Xc (ss:=.cons (.ret (.lst (.cons (.var 1) .nil))) .nil) h1;rw[B];rw[Xp (d:=.ref (la S)) (S1:=S++[.lst [.int a]]) (by simp only[exe,ev,evs,h2,Rk0,V8];rfl)]
theorem Xr4(c:Int)(S:Sto)(J:(10:Int)^(18:Int).toNat<=c):∃a,den F G Xh8 [.int c] S=.ok (.ref (la S)) (S++[.lst [.int a]]):=by have B:Xw .pow (.int 10) (.int 18) S=.ok (.int (10^(18:Int).toNat)) S:=Xcj (by decide+kernel) S;generalize (10:Int)^(18:Int).toNat=w at B J;refine⟨c-w,?_⟩;simp only[den,Xh8,Xu3,V8,if_true,Uk,Vi];rw[Xp (d:=.ref (la S)) (S1:=S++[.lst [.int (c-w)]]) (by simp only[exe,ev,Vah,Uz,gZ0,gS0,Rk0,B,Xj,X7,Xh,decide_eq_true J];rw[Xp (d:=.ref (la S)) (S1:=S++[.lst [.int (c-w)]]) (by simp only[exe,ev,evs,gZ0,Rk0,B,Yp,V8];rfl)])]
theorem Xzf(c:Int)(S:Sto):∃a,den F G Xh8 [.int c] S=.ok (.ref (la S)) (S++[.lst [.int a]]):=by
 by_cases L:(10:Int)^(18:Int).toNat<=c;·exact Xr4 c S L
 obtain⟨xs,J,hl⟩:=Xag (m:=(64:Int)) (by decide) (Xpr (by decide));have B:=Xci (F:=F) (G:=G) (t:=.var 2) (es:=.cons (.cst (.int 64)) .nil) (b:=Xgw)
  (env:=[yz (.int c),yz (.int 0),yy,yy]) (S:=S) (S1:=S) (ds:=[.int 64]) (xs:=xs) (λi e S'=>S'=S/\∃a x y,e=[yz (.int c),yz (.int a),x,y])
  (by simp only[evs,ev,Rk0]) J ⟨rfl,0,yy,yy,rfl⟩ (λi d e S' hd Y=>by obtain⟨rfl,a,x,y,rfl⟩:=Y;obtain⟨rfl,hi⟩:=Xax J hd;obtain⟨U,b',st⟩:=Xu4 (F:=F) (G:=G) c a i y S';exact⟨_,_,S',rfl,st,rfl,U,_,_,rfl⟩)
 obtain⟨e',S',h1,rfl,a,x,y,rfl⟩:=B;exact⟨a,Xze c a S' _ L h1 rfl⟩
noncomputable def wh:D->Bool
 |.int _=>yx|_=>yw
def Xae(S:Sto)(d:D):Prop:=∃k,kdD S d=yz k/\∀c,k≠.exc c
theorem Xzg(h:∀c,k≠.exc c):∃b,Yv k [.int]=yz b/\(b=yx ↔ k=.int\/k=.bool):=by cases k<;>first|exact⟨_,rfl,by simp⟩|exact aB0 rfl (h _)
theorem Xu5(h:∀c,k≠.exc c):∃b,Yv k [.bool]=yz b/\(b=yx ↔ k=.bool):=by cases k<;>first|exact⟨_,rfl,by simp⟩|exact aB0 rfl (h _)
theorem X6d(h:kdD S d=yz k):wh d=yx ↔ k=.int:=by
 cases d with
 |ref n=>simp only[kdD]at h;split at h<;>first|(cases h;simp[wh])|cases h
 |fn _ _=>cases h|_=>cases h;simp[wh]
noncomputable def Xr5:Sts:=.cons (.ret (.and (.isi (.var 0) [.int]) (.not (.isi (.var 0) [.bool])))) .nil
noncomputable def Xgx:Df:=⟨1,1,Xr5⟩
theorem Xr6(h:Xae S d):den F G Xgx [d] S=.ok (.bl (wh d)) S:=by
 obtain⟨kd,h1,h2⟩:=h;obtain⟨b1,i1,J⟩:=Xzg h2;obtain⟨b2,i2,U⟩:=Xu5 h2;have B:=X6d h1;simp only[den,Xgx,Xr5,V8,pb,exe,ev,Uk,Vi,if_true,Va7,Ud,gZ0,Rk0,h1,V1,i1,i2,Xh];cases b1 with
 |false=>
  have e:wh d=false:=by
   cases q:wh d with
   |false=>rfl|true=>exact aB0 (J.mpr (.inl (B.mp q))) Ui
  rw[e];rfl|true=>
  cases b2 with
  |false=>have e:wh d=true:=B.mpr (by rcases J.mp rfl with z|z;exact z;exact aB0 (U.mpr z) Ui);rw[e];rfl|true=>
   have e:wh d=false:=by
    cases q:wh d with
    |false=>rfl|true=>have Y:=B.mp q;have L:=U.mp rfl;rw[Y]at L;cases L
   rw[e];rfl
noncomputable def wi(d:D)(lw hi:Int):Bool:=match d with
 |.int i=>decide (lw<=i)&&decide (i<=hi)|_=>yw
noncomputable def Xoa(f:Nat):Sts:=.cons (.ret (.and (.call f (.cons (.var 0) .nil)) (.chn .le .le (.var 1) (.var 0) (.var 2)))) .nil
noncomputable def Xh9(f:Nat):Df:=⟨3,3,Xoa f⟩
theorem Xpt{lw hi:Int}(h:F f [d] S=.ok (.bl (wh d)) S):den F G (Xh9 f) [d,.int lw,.int hi] S=.ok (.bl (wi d lw hi)) S:=by
 simp only[den,Xh9,Xoa,V8,pb,exe,ev,evs,Uk,Vi,if_true,Va7,Ud,gZ0,gS0,Rk0,h,Xh];cases d with
 |int i=>simp only[wh,wi,X7,Xj];cases decide (lw<=i)<;>rfl|_=>rfl
theorem Xr7(h1:lw<=i)(h2:i<=hi):wi (.int i) lw hi=true:=by simp only[wi,decide_eq_true h1,decide_eq_true h2,Vdr]
theorem Xan(S:Sto)(i:Int):Xae S (.int i):=⟨.int,rfl,λc z=>nomatch z⟩
theorem Yc(h:Xae S d):Xae (S++X) d:=by
 obtain⟨k,h1,h2⟩:=h;cases d with
 |ref n=>
  refine⟨k,?_,h2⟩;simp only[kdD]at h1 ⊢;cases e:S[n]? with
  |none=>rw[e]at h1;cases h1|some o=>rw[Vs (Vh.mp e).1,e];rw[e]at h1;exact h1
 |_=>exact⟨k,h1,h2⟩
theorem Xgc(h:Xae S d):Xae (S.set p (.lst xs)) d:=by
 obtain⟨k,h1,h2⟩:=h;cases d with
 |ref n=>
  by_cases e:p=n
  ·subst e;have B:p<la S:=by
    simp only[kdD]at h1;cases e:S[p]? with
    |none=>rw[e]at h1;cases h1|some o=>exact(Vh.mp e).1
   exact⟨.list,by simp only[kdD,Va0 B],λc z=>nomatch z⟩
  refine⟨k,?_,h2⟩;simp only[kdD,Vab e]at h1 ⊢;exact h1|_=>exact⟨k,h1,h2⟩
theorem Xaa(S:Sto)(d:D)(h:∀n,d≠.ref n)(B:∀f m,d≠.fn f m:=by intro _ _ z;cases z):Xae S d:=by
 cases d with
 |fn f m=>exact aB0 rfl (B f m)|ref n=>exact aB0 rfl (h n)|non=>exact⟨.non,rfl,λ_ z=>nomatch z⟩|bl _=>exact⟨.bool,rfl,λ_ z=>nomatch z⟩|int _=>exact⟨.int,rfl,λ_ z=>nomatch z⟩|str _=>exact⟨.str,rfl,λ_ z=>nomatch z⟩|tup _=>exact⟨.tuple,rfl,λ_ z=>nomatch z⟩|fro _=>exact⟨.list,rfl,λ_ z=>nomatch z⟩
theorem Xas(h:ev F G c env S=.ok (.bl yw) S'):exe F G (.ite c a .nil) env S=.ok (.nx env) S':=by rw[exe,h,Rk0];simp only[Xh,pb]
end
noncomputable def Xel(L B J U:Nat):Ex:=.lst (.cons (.isi (.var 0) [.cls L]) (.cons (.isi (.var 0) [.cls B]) (.cons (.isi (.var 0) [.cls J]) (.cons (.isi (.var 0) [.cls U]) .nil))))
noncomputable def words1:LD:=[.str "net",.str "face",.str "point",.str "apart",.str "many",.str "text",.str "row",.str "number",.str "level",.str "crowd",.str "way",.str "closed"]
noncomputable def words2:LD:=[.str "swap",.str "places",.str "deed",.str "line"]
noncomputable def Xdg:LD->Exs
 |[]=>.nil|d::r=>.cons (.cst d) (Xdg r)
noncomputable def Xpu:Sts:=.cons (.asg (.var 1) (Xel 1 2 3 4)) (.cons (.asg (.var 1) (.bin .add (.var 1) (Xel 5 6 7 8))) (.cons (.asg (.var 1) (.bin .add (.var 1) (Xel 9 10 11 12))) (.cons (.asg (.var 1) (.bin .add (.var 1) (Xel 13 14 15 16)))
  (.cons (.ite (.or (.cmp .ne (.mth .count (.var 1) (.cons (.cst (.bl yx)) .nil)) (.cst (.int 1))) (.not (.isi (.var 0) [.valueError]))) (.cons (.ret (.cst (.str "other"))) .nil) .nil)
  (.cons (.asg (.var 2) (.lst (Xdg words1))) (.cons (.ret (.idx (.bin .add (.var 2) (.lst (Xdg words2))) (.mth .index (.var 1) (.cons (.cst (.bl yx)) .nil)))) .nil))))))
noncomputable def Xj3:Df:=⟨1,3,Xpu⟩
noncomputable def Xdh(c:Nat):D:=(words1++words2).getD (c-1) .non
section
variable{F:Fn}{G:LD}{n c:Nat}{env:En}{S:Sto}
noncomputable def isK(c x:Nat):D:=.bl (x==0||x==c)
theorem Xob(h0:env[0]?=yz (yz (.ref n)))(hn:S[n]?=yz (.exc c))(x1 x2 x3 x4:Nat):ev F G (Xel x1 x2 x3 x4) env S=.ok (.ref (la S)) (S++[.lst [isK c x1,isK c x2,isK c x3,isK c x4]]):=by
 have q:∀x,ev F G (.isi (.var 0) [.cls x]) env S=.ok (isK c x) S:=λx=>by simp only[ev,h0,Rk0,kdD,hn,V1,Yv,isT,tyQ,isK];cases (x==0||x==c)<;>rfl
 unfold Xel;rw[ev];simp only[evs,q,Rk0];exact iP0 (show 4<=big by decide)
theorem Xgd{r:Nat}{xs:LD}(h0:env[0]?=yz (yz (.ref n)))(hn:S[n]?=yz (.exc c))(he:1<la env)(J:env[1]?=yz (yz (.ref r)))(B:Xa S r=yz xs)(hl:(la xs)<=12)(x1 x2 x3 x4:Nat):
  ∃q Y,exe F G (.asg (.var 1) (.bin .add (.var 1) (Xel x1 x2 x3 x4))) env S=.ok (.nx (env.set 1 (yz (.ref q)))) (S++Y)/\Xa (S++Y) q=yz (xs++[isK c x1,isK c x2,isK c x3,isK c x4])/\(S++Y)[n]?=yz (.exc c):=by
 refine⟨(S++[O.lst [isK c x1,isK c x2,isK c x3,isK c x4]]).length,[.lst [isK c x1,isK c x2,isK c x3,isK c x4]]++[.lst (xs++[isK c x1,isK c x2,isK c x3,isK c x4])],?_,?_,?_⟩
 ·have aa:(16:Nat)<=big:=by decide
  have U:(la xs)+4<=big:=by omega
  have L:lstM (S++[O.lst [isK c x1,isK c x2,isK c x3,isK c x4]]) r=yz xs:=Xv B;have l2:lstM (S++[O.lst [isK c x1,isK c x2,isK c x3,isK c x4]]) (la S)=yz [isK c x1,isK c x2,isK c x3,isK c x4]:=Xf;rw[exe,ev,ev,J];simp only[Rk0,Xob h0 hn,Xw,L,l2,U6,Vdz,U,if_true,Xn,V2]
 ·rw[<-V2];exact Xf
 ·rw[Vs (Vh.mp hn).1];exact hn
theorem Xzh(hn:S[n]?=yz (.exc c))(h1:1<=c)(h2:c<=16):∃X,den F G Xj3 [.ref n] S=.ok (Xdh c) (S++X):=by
 have s1:exe F G (.asg (.var 1) (Xel 1 2 3 4)) [yz (.ref n),yy,yy] S=.ok (.nx [yz (.ref n),yz (.ref (la S)),yy]) (S++[.lst [isK c 1,isK c 2,isK c 3,isK c 4]]):=by rw[exe,Xob rfl hn];rfl
 obtain⟨q2,Y2,s2,l2,n2⟩:=Xgd (F:=F) (G:=G) (env:=[yz (.ref n),yz (.ref (la S)),yy]) (S:=S++[.lst [isK c 1,isK c 2,isK c 3,isK c 4]]) (c:=c) (n:=n) rfl (by rw[Vs (Vh.mp hn).1];exact hn) (by simp) rfl Xf (by simp) 5 6 7 8;generalize af:S++[O.lst [isK c 1,isK c 2,isK c 3,isK c 4]]++Y2=S2 at s2 l2 n2;obtain⟨q3,Y3,s3,l3,n3⟩:=Xgd (F:=F) (G:=G) (env:=[yz (.ref n),yz (.ref q2),yy]) rfl n2 (by simp) rfl l2 (by simp) 9 10 11 12;generalize ah:S2++Y3=S3 at s3 l3 n3;obtain⟨q4,Y4,s4,l4,n4⟩:=Xgd (F:=F) (G:=G) (env:=[yz (.ref n),yz (.ref q3),yy]) rfl n3 (by simp) rfl l3 (by simp) 13 14 15 16;generalize ae:S3++Y4=J at s4 l4 n4;simp only[Vah,Uz]at l4;have ab:X6 [isK c 1,isK c 2,isK c 3,isK c 4,isK c 5,isK c 6,isK c 7,isK c 8,isK c 9,isK c 10,isK c 11,isK c 12,isK c 13,isK c 14,isK c 15,isK c 16]=yz ([1,2,3,4,5,6,7,8,9,10,11,12,13,14,15,16].map λx=>(x==0||x==c)):=rfl;have ai:∀c:Fin 17,1<=c.val->([1,2,3,4,5,6,7,8,9,10,11,12,13,14,15,16].map λx=>(x==0||x==c.val)).countP (· == yx)=1/\([1,2,3,4,5,6,7,8,9,10,11,12,13,14,15,16].map λx=>(x==0||x==c.val)).findIdx? (· == yx)=yz (c.val-1):=by decide+kernel
 obtain⟨k1,k2⟩:=ai ⟨c,by omega⟩ h1;generalize [isK c 1,isK c 2,isK c 3,isK c 4,isK c 5,isK c 6,isK c 7,isK c 8,isK c 9,isK c 10,isK c 11,isK c 12,isK c 13,isK c 14,isK c 15,isK c 16]=L at l4 ab;generalize ([1,2,3,4,5,6,7,8,9,10,11,12,13,14,15,16].map λx=>(x==0||x==c))=B at ab k1 k2;have c1:∀Y,Yr .count (.ref q4) [.bl yx] (J++Y)=.ok (.int 1) (J++Y):=λY=>by simp only[Yr,Xv l4,V1,ab,k1];rfl
 have c2:∀Y,Yr .index (.ref q4) [.bl yx] (J++Y)=.ok (.int (c-1:Nat)) (J++Y):=λY=>by simp only[Yr,Xv l4,V1,ab,k2]
 have rc:∀k Y,Xa4 k (.ref q4) (J++Y)=true:=λk Y=>by simp only[Xa4,Xv l4,Option.isSome]
 have s5:exe F G (.ite (.or (.cmp .ne (.mth .count (.var 1) (.cons (.cst (.bl yx)) .nil)) (.cst (.int 1))) (.not (.isi (.var 0) [.valueError]))) (.cons (.ret (.cst (.str "other"))) .nil) .nil) [yz (.ref n),yz (.ref q4),yy] J=.ok (.nx [yz (.ref n),yz (.ref q4),yy]) J:=by have ac:=c1 [];have U:=rc .count [];rw[Ud]at ac U;have e1:Xj .ne (.int 1) (.int 1) J=.ok (.bl yw) J:=rfl;refine Xas ?_;simp only[ev,evs,gZ0,gS0,Rk0,U,if_true,ac,e1,Xh,kdD,n4,V1,Yv,isT,tyQ,Va4]
 have s6:exe F G (.asg (.var 2) (.lst (Xdg words1))) [yz (.ref n),yz (.ref q4),yy] J=.ok (.nx [yz (.ref n),yz (.ref q4),yz (.ref J.length)]) (J++[.lst words1]):=by kernel_rfl
 have e7:∀env S,evs F G (Xdg words2) env S=.ok words2 S:=λenv S=>by kernel_rfl
 have a5:words2.length<=big:=by decide
 have s7:exe F G (.ret (.idx (.bin .add (.var 2) (.lst (Xdg words2))) (.mth .index (.var 1) (.cons (.cst (.bl yx)) .nil)))) [yz (.ref n),yz (.ref q4),yz (.ref J.length)] (J++[O.lst words1])=.ok (.rt (Xdh c)) (J++([O.lst words1]++[O.lst words2]++[O.lst (words1++words2)])):=by
  have a1:lstM (J++[O.lst words1]++[O.lst words2]) J.length=yz words1:=Xv Xf;have a2:lstM (J++[O.lst words1]++[O.lst words2]) (J++[O.lst words1]).length=yz words2:=Xf;have a3:words1.length+words2.length<=big:=by decide
  have a4:=Xv (X:=[]) (Xf (S:=J++[O.lst words1]++[O.lst words2]) (xs:=words1++words2));have aa:=c2 ([O.lst words1]++[O.lst words2]++[O.lst (words1++words2)]);have U:=rc .index ([O.lst words1]++[O.lst words2]++[O.lst (words1++words2)]);simp only[<-V2]at aa U ⊢;have ix:Xah (.ref (J++[O.lst words1]++[O.lst words2]).length) (.int (c-1:Nat)) (J++[O.lst words1]++[O.lst words2]++[O.lst (words1++words2)])=.ok (Xdh c) (J++[O.lst words1]++[O.lst words2]++[O.lst (words1++words2)]):=by
   rw[Ud]at a4;have hl:(words1++words2).length=16:=rfl;have hi:ixN 16 ((c-1:Nat):Int)=yz (c-1):=by unfold ixN;rw[iP0 (by omega),iP0 (by omega),Vdb]
   have hg:(words1++words2)[c-1]?=yz (Xdh c):=by
    have:c-1<(words1++words2).length:=by rw[hl];omega
    unfold Xdh;rw[Uv this,Ux,Uv this];rfl
   simp only[Xah,Xat,Xs,a4,V1,hl,hi,hg]
  rw[exe];simp only[ev,evs,gZ0,gS0,Rk0,e7,a5,Xw,a1,a2,a3,if_true,U,aa,ix]
 refine⟨[O.lst [isK c 1,isK c 2,isK c 3,isK c 4]]++(Y2++(Y3++(Y4++([O.lst words1]++([O.lst words2]++[O.lst (words1++words2)]))))),?_⟩;have e:den F G Xj3 [.ref n] S=match pb F G Xpu [yz (.ref n),yy,yy] S with
  |.ok (.rt v) S=>.ok v S|.ok (.nx _) S=>.ok .non S|.ok _ _=>.bad|.ex n S=>.ex n S|.bad=>.bad:=rfl
 rw[e];unfold Xpu;rw[Xc s1,Xc s2];dsimp only[Vaw];rw[Xc s3];dsimp only[Vaw];rw[Xc s4];dsimp only[Vaw];rw[Xc s5,Xc s6,Xp s7,<-ae,<-ah,<-af];simp only[V2]
theorem Xzi{T:List Df}{k f:Nat}(B:T[f]?=yz Xj3)(h1:1<=c)(h2:c<=16)(P:Sto):∃X,FT T G (k+1) f [.ref P.length] (P++[.exc c])=.ok (Xdh c) (P++X):=by obtain⟨X,h⟩:=Xzh (F:=FT T G k) (G:=G) (n:=P.length) (S:=P++[.exc c]) (by simp) h1 h2;simp only[FT,B];exact⟨_,by rw[h,V2]⟩
end
def Xj4(F:Fn)(f:Nat):Prop:=∀(p:Nat) (v far:Int) (S:Sto),Xa S p=yz [.int v]->0<far->Y6 far=yx->F f [.ref p,.int far] S=.ok (.int (v%far)) (S.set p (.lst [.int (v/far)]))
theorem Xlz(B:T[f]?=yz Xj2)(k:Nat):Xj4 (FT T G (k+1)) f:=λp v far S h h0 hd=>by simp only[FT,B];exact Xu2 h h0 hd
theorem Xu6(U:Xj4 F f)(Y:evs F G es env S=.ok ds S')(hc:(la ds:Int)=c)(h0:0<c)(hz:(la ds)<=big)(hd:Y6 c=yx)(h5:env[q]?=yz (yz (.ref p)))(hp:Xa S' p=yz [.int v]):
  ∃d∈ds,ev F G (.idx (.lst es) (.call f (.cons (.var q) (.cons (.cst (.int c)) .nil)))) env S=.ok d ((S'++[O.lst ds]).set p (.lst [.int (v/c)])):=by
 have tk:=U p v c (S'++[.lst ds]) (Xv hp) h0 hd;have J:=Vc2 v (Int.ne_of_gt h0);have r1:=Vce v h0;have B:(v%c).toNat<la ds:=by omega
 have L:=Xay hp;have hl:Xa ((S'++[O.lst ds]).set p (.lst [.int (v/c)])) (la S')=yz ds:=by rw[Xji (by omega)];exact Xf
 refine⟨ds[(v%c).toNat],Vej B,?_⟩;have hi:Xah (.ref (la S')) (.int (v%c)) ((S'++[O.lst ds]).set p (.lst [.int (v/c)]))=.ok ds[(v%c).toNat] ((S'++[O.lst ds]).set p (.lst [.int (v/c)])):=by simp only[Xah,Xat,Xs,hl,V1,Z.ixN];rw[iP0 J,iP0 (by omega)];simp only[V1,Uv B]
 simp only[ev,Y,evs,h5,Rk0,hz,if_true,tk,hi]
theorem Xem(hp:Xa S' p=yz [.int v]):Xa ((S'++[O.lst ds]).set p (.lst [.int (v/c)])) p=yz [.int (v/c)]:=by refine Xa2 ?_;have:=Xay hp;simp;omega
theorem turns{G:LD}{ns:LI}(c:Int)(h1:1<=c)(h2:c<1000000)(h0:env[0]?=yz (yz (.fro (ns.map D.int)))):
  ∃m:Int,evs F G (.cons (.blt .max (.cons (.cst (.int 1)) (.cons (.blt .min (.cons (.blt .len (.cons (.var 0) .nil)) (.cons (.cst (.int c)) .nil))) .nil))) .nil) env S=.ok [.int m] S/\0<=m/\m<=c:=by
 have L:Xx .len [.fro (ns.map D.int)] S=.ok (.int (la ns)) S:=by simp only[Xx,Xs,Vn]
 have B:∀i j:Int,Xx .min [.int i,.int j] S=.ok (.int (if j<i then j else i)) S:=λ_ _=>rfl;have J:∀i j:Int,Xx .max [.int i,.int j] S=.ok (.int (if j>i then j else i)) S:=λ_ _=>rfl;refine⟨if (if c<(la ns:Int) then c else (la ns:Int))>1 then (if c<(la ns:Int) then c else (la ns:Int)) else 1,by simp only[evs,ev,h0,Rk0,L,B,J],?_,?_⟩
 ·split;·split<;>omega
  ·omega
 ·split;·split<;>omega
  ·omega
end Z
end
section
namespace Z
noncomputable def Xwp(s:Int)(f:LI):LI:=List.zipWith (λa b=>a+s*b) (f++[0]) (0::f)
noncomputable def stepT(s:Int)(f:LI)(n:Int):LI:=(Xwp s f).set f.length ((Xwp s f).getD f.length 0+n)
theorem Xzj{u v:LI}(B:(la u)=la v)(h:∀p,u.getD p 0=v.getD p 0):u=v:=by refine List.ext_getElem B λi h1 h2=>?_;have:=h i;simpa [Ux,h1,h2] using this
end Z
end
section
namespace Z
open PySem PySem.Spec PyProof.Rows L2
section
variable{F:Fn}{G:LD}
theorem Xjj{get:Sto->Nat->Option (Option D)}{body:En->LD->Sto->R (LD)}(xs:LD)(y:Nat->D)(P:Nat->En->Sto->Prop)(J:∀i e S,P i e S->get S i=yz xs[i]?)
  (step:∀i d e S,xs[i]?=yz d->P i e S->∃L S2,Xn t d e=yz L/\body L ((Vm i).map y) S=.ok ((Vm (i+1)).map y) S2/\P (i+1) L S2):
  ∀(B i:Nat) (e:En) (S:Sto),P i e S->i<=la xs->la xs<B+i->∃U S',Yi get t body B i e ((Vm i).map y) S=.ok ((Vm (la xs)).map y) S'/\P (la xs) U S'
 |0=>λi e S h h1 h2=>by omega|B+1=>λi e S h h1 h2=>by
  cases q:xs[i]? with
  |none=>
   have hi:i=la xs:=by have:=Uu.mp q;omega
   refine⟨e,S,?_,hi▸h⟩;simp only[Yi,J i e S h,q];rw[hi]|some d=>obtain⟨L,S2,a1,Y,a3⟩:=step i d e S q h;have hi:i<la xs:=(Vh.mp q).1;obtain⟨U,S',b1,b2⟩:=Xjj xs y P J step B (i+1) L S2 a3 (by omega) (by omega);refine⟨U,S',?_,b2⟩;simp only[Yi,J i e S h,q,a1,Y];exact b1
theorem Xap(h:n<=1000):n<=big:=Ul h (by decide)
theorem Xby{n:Nat}(xs:LD)(y:Nat->D)(P:Nat->En->Sto->Prop)(U:evit F G it env S=.ok src S1)(hm:src.most S1=la xs)(hb:(la xs)<=big)
  (h0:P 0 (env++Vi n yy) S1) (L:∀i e S,P i e S->src.get S i=yz xs[i]?)
  (step:∀i d e S,xs[i]?=yz d->P i e S->∃J S2,Xn t d e=yz J/\ev F G elt J S=.ok (y i) S2/\P (i+1) J S2):
  ∃Y S',ev F G (.cmr yw n (.cons t it .nil .nil) elt) env S=.ok (.ref (la S')) (S'++[.lst ((Vm (la xs)).map y)])/\P (la xs) Y S':=by
 obtain⟨Y,S',a,b⟩:=Xjj (get:=src.get) (t:=t) (body:=Yu (λenv S=>evts F G .nil env S) (λenv B S=>(ev F G elt env S).bind λy S=>if (la B)<big then .ok (B++[y]) S else .bad)) xs y P L
  (λi d e S hd hP=>by
   obtain⟨J,S2,a1,a2,a3⟩:=step i d e S hd hP;refine⟨J,S2,a1,?_,a3⟩;have hi:i<la xs:=(Vh.mp hd).1;simp only[Yu,evts,Rk0,if_true,a2,Vn,Us];rw[iP0 (by omega),List.range_succ,Vci]
   rfl) (la xs+1) 0 _ S1 h0 (Ug _) (by omega)
 refine⟨Y,S',?_,b⟩;simp only[ev,U,Rk0,hm];have a':Yi src.get t (Yu (λenv S=>evts F G .nil env S) (λenv B S=>(ev F G elt env S).bind λy S=>if (la B)<big then .ok (B++[y]) S else .bad)) (la xs+1) 0 (env++Vi n yy) [] S1=.ok ((Vm (la xs)).map y) S':=a;rw[a'];simp only[Rk0];rfl
theorem Xl0(h1:evs F G es env S=.ok ds S1)(h2:Ys ds=yz xs):evit F G (.rng es) env S=.ok (.con xs) S1:=by simp only[evit,h1,Rk0,h2]
noncomputable def Xdi:Sts:=.cons (.asg (.var 2) (.bin .fdiv (.bin .mul (.var 2) (.bin .sub (.var 0) (.var 3))) (.bin .add (.var 3) (.cst (.int 1))))) .nil
noncomputable def Xgy:Df:=⟨2,4,.cons (.asg (.var 2) (.cst (.int 1))) (.cons (.for (.var 3) (.rng (.cons (.var 1) .nil)) Xdi) (.cons (.ret (.var 2)) .nil))⟩
theorem X6e{i:Nat}(h:i<13):Y6 ((i:Int)+1)=true:=by
 have:∀j:Fin 13,Y6 ((j.val:Int)+1)=true:=by decide+kernel
 exact this ⟨i,h⟩
theorem Xu7(n m t i:Int)(S:Sto)(B:Yl t (n-i)=yx)(J:Y6 (i+1)=yx):pb F G Xdi [yz (.int n),yz (.int m),yz (.int t),yz (.int i)] S=.ok (.nx [yz (.int n),yz (.int m),yz (.int (t*(n-i)/(i+1))),yz (.int i)]) S:=by unfold Xdi;refine Xc (e:=[yz (.int n),yz (.int m),yz (.int (t*(n-i)/(i+1))),yz (.int i)]) (S1:=S) ?_;simp only[exe,ev,gZ0,gS0,Rk0,Yp,Xa1 B,Xu,Xct J,Xn,Vaw]
theorem Xu8(n m t:Int)(S:Sto)(B:En)(S':Sto)(h1:exe F G (.for (.var 3) (.rng (.cons (.var 1) .nil)) Xdi) [yz (.int n),yz (.int m),yz (.int 1),yy] S=.ok (.nx B) S')(h2:B[2]?=yz (yz (.int t))):
  den F G Xgy [.int n,.int m] S=.ok (.int t) S':=by
 simp only[den,Xgy,V8,if_true,Uk,Vi];rw[Xc (e:=[yz (.int n),yz (.int m),yz (.int 1),yy]) (S1:=S) (by simp only[exe,ev,Rk0,Xn];rfl)];rw[Xc (ss:=.cons (.ret (.var 2)) .nil) h1];rw[Xp (d:=.int t) (S1:=S') (by simp only[exe,ev,h2,Rk0])]
noncomputable def X7y(B:LI)(p a:Nat):Int:=B.getD a 0*(C (la B-1-a) (p-a):Int)
theorem Xfo:∀l:LI,Xi (l.map D.int)=yz l
 |[]=>rfl|x::l=>by simp only[Uk,Xi,Xfo l,V4]
noncomputable def Xb(l:LI):D:=.tup (l.map D.int)
def Xr8(F:Fn)(i:Nat):Prop:=∀(d:D) (S:Sto),Xae S d->F i [d] S=.ok (.bl (wh d)) S
theorem Xr9(B:T[i]?=yz Xgx)(k:Nat):Xr8 (FT T G (k+1)) i:=λd S h=>by simp only[FT,B];exact Xr6 h
theorem Xl1{α:Type}(xs:List α)(n:Nat):cut xs yy (yz (n:Int))=xs.take n:=by
 unfold cut Xfw;simp only[List.drop_zero,Vf4];rw[iP0 (by omega)];simp only[Vdb];by_cases h:n<=la xs;·rw[Nat.min_eq_left h]
 ·rw[Nat.min_eq_right (by omega),Vcu (by omega),Vcu (by omega)]
end
noncomputable def ps(l:LI)(k:Nat):Int:=(l.take k).sum
noncomputable def pre(l:LI)(n:Nat):LI:=(Vm n).map λj=>ps l (j+1)
noncomputable def mir(w:Nat)(h:LI):LI:=h++(h.take (w+1-la h)).reverse
theorem Xoc(B:(la h)=w/2+1):(mir w h).length=w+1:=by simp only[mir,Ur,List.length_reverse,Vag];omega
theorem Xzk(J:(la h)=w/2+1)(hp:p<=w):(mir w h).getD p 0=h.getD (min p (w-p)) 0:=by
 simp only[mir,Ux,List.getElem?_append];by_cases h1:p<la h;·rw[iP0 h1,Nat.min_eq_left (by omega)]
 ·rw[iN0 h1];have B:(h.take (w+1-la h)).length=w+1-la h:=by rw[Vag];omega
  rw[List.getElem?_reverse (by rw[B];omega),B,List.getElem?_take,iP0 (by omega)];congr 2;omega
theorem Xl2(U:(la l)=w/2+1):(Vm (w+1)).map (λp=>ps l (min p (w-p)+1))=mir w (pre l (w/2+1)):=by
 have B:(pre l (w/2+1)).length=w/2+1:=by simp[pre]
 refine Xzj (by rw[Xoc B];simp) λp=>?_;by_cases h:p<=w
 ·rw[Xzk B h];have h2:min p (w-p)<w/2+1:=by omega
  have J:p<w+1:=by omega
  simp[Ux,pre,h2,J]
 have L:(mir w (pre l (w/2+1))).length=w+1:=Xoc B;simp only[Ux];rw[Vcc (by simp;omega),Vcc (by omega)]
section
variable{F:Fn}{G:LD}
theorem Xjk(h:ev F G c env S=.ok (.bl yx) S1):exe F G (.ite c (.cons (.rse k (.cst (.str s))) .nil) .nil) env S=.ex (la S1) (S1++[.exc k]):=by rw[exe,h,Rk0];simp only[Xh,pb,exe,ev,Rk0]
end
section
variable{F:Fn}{G:LD}
theorem Xod(h:Xa S q=yz xs)(B:(la xs)<1000):Yr .append (.ref q) [x] S=.ok .non (S.set q (.lst (xs++[x]))):=by have h':lstM S q=yz xs:=h;simp only[Yr,h'];rw[iP0 (V0 B (by decide))]
theorem Xoe(P:Nat->En->Sto->Prop)(h1:ev F G e0 env S=.ok (.ref r) S1)(U:Xa S1 r=yz xs)(hk:∀i e S',P i e S'->Xa S' r=yz xs)(h0:P 0 env S1)
  (step:∀i d e S,xs[i]?=yz d->P i e S->∃L J S2,Xn t d e=yz L/\pb F G b L S=.ok (.nx J) S2/\P (i+1) J S2):
  ∃B S',exe F G (.for t (.val e0) b) env S=.ok (.nx B) S'/\P (la xs) B S':=by
 obtain⟨B,S',a,Y⟩:=Xek (get:=(Src.ref r).get) (t:=t) (body:=λenv S=>pb F G b env S) xs P (λi e S' hP=>by simp only[Src.get,hk i e S' hP,V4]) step (la xs+1) 0 env S1 h0 (Ug _) (by omega);refine⟨B,S',?_,Y⟩;have hs:Yw S1 (.ref r)=yz (.ref r):=by simp only[Yw,U,V4]
 simp only[exe,evit,h1,Rk0,hs,Src.most,U,Vb8];exact a
theorem Xcu(i j:Int)(S:Sto):Xj .eq (.int i) (.int j) S=.ok (.bl (i==j)) S:=by simp only[Xj,X7,eqD,Xb1,Yq,Xav,Vfe,Ve9,Vb6];rfl
theorem eq_str(t:Str)(S:Sto):Xj .eq (.str t) (.str t) S=.ok (.bl yx) S:=by simp only[Xj,X7,eqD,Xb1,beq_self_eq_true]
noncomputable def X3z(g1 g2:Nat):Sts:=.cons (.ret (.cal (.idx (.lst (.cons (.glb g1) (.cons (.glb g2) .nil))) (.var 0)) (.cons (.var 1) (.cons (.var 2) .nil)))) .nil
theorem X6f(h1:G[g1]?=yz a)(h2:G[g2]?=yz b):ev F G (.lst (.cons (.glb g1) (.cons (.glb g2) .nil))) env S=.ok (.ref (la S)) (S++[.lst [a,b]]):=by simp only[ev,evs,h1,h2,Rk0];exact iP0 (Xap (by simp))
theorem Xzl{w:Nat}(B:w<2):Xah (.ref (la S)) (.int w) (S++[.lst [a,b]])=.ok ([a,b].getD w .non) (S++[.lst [a,b]]):=by
 simp only[Xah,Xat,Xs,Xf,V1];match w,B with
 |0,_=>rfl|1,_=>rfl
theorem Xsa{g1 g2 w f:Nat}{x:Option D}(h1:G[g1]?=yz a)(h2:G[g2]?=yz b)(Y:w<2)(J:[a,b].getD w .non=.fn f nm)(hi:Xa6 f nm G=yx):
  pb F G (X3z g1 g2) [yz (.int w),yz c,yz d,x] S=(match F f [c,d] (S++[.lst [a,b]]) with
   |.ok r S'=>.ok (.rt r) S'|.ex n S'=>.ex n S'
   |.bad=>.bad):=by
 have hl:=X6f (F:=F) (S:=S) (env:=[yz (.int w),yz c,yz d,x]) h1 h2;have B:=Xzl (S:=S) (a:=a) (b:=b) Y;rw[J]at B;have L:ev F G (.idx (.lst (.cons (.glb g1) (.cons (.glb g2) .nil))) (.var 0)) [yz (.int w),yz c,yz d,x] S=.ok (.fn f nm) (S++[.lst [a,b]]):=by rw[ev,hl,Rk0];simp only[ev,gZ0,Rk0,B]
 have U:ev F G (.cal (.idx (.lst (.cons (.glb g1) (.cons (.glb g2) .nil))) (.var 0)) (.cons (.var 1) (.cons (.var 2) .nil))) [yz (.int w),yz c,yz d,x] S=F f [c,d] (S++[.lst [a,b]]):=by rw[ev,L,Rk0];simp only[hi,if_true,evs,ev,gZ0,gS0,Rk0]
 unfold X3z;simp only[pb,exe];rw[U];cases F f [c,d] (S++[.lst [a,b]])<;>rfl
variable{S:Sto}
theorem Xcv(h:Xa S q=yz xs):S[q]?=yz (.lst xs):=by
 unfold Xa at h;split at h;·rename_i ys B;cases h;exact B
 ·cases h
theorem X30(h:S[q]?=yz (.lst xs)):Xa S q=yz xs:=by unfold Xa;rw[h]
end
def X7m(l:LI):Prop:=∀x∈l,x.natAbs.log2<1920
section
variable{F:Fn}{G:LD}
theorem Xzm(h:ev F G c env S=.ok (.bl yx) S'):exe F G (.ite c (.cons (.ret (.cst d)) .nil) .nil) env S=.ok (.rt d) S':=by rw[exe,h,Rk0];simp only[Xh,pb,exe,ev,Rk0]
end
def Bd(B:Nat)(l:LI):Prop:=∀x∈l,x.natAbs<=B
theorem Xzn(h:Bd B l)(hB:B<2^1000):X7m l:=λx J=>by
 by_cases h0:x.natAbs=0;·rw[h0];decide
 ·exact V0 ((Nat.log2_lt h0).mpr (Vcz (h x J) hB)) (by decide)
noncomputable def vsq(v m:Int):Nat->Int
 |0=>v|n+1=>vsq v m n/m
noncomputable def drawn(v far:Int)(n:Nat):LI:=(Vm n).map λi=>vsq v (2*far+1) i%(2*far+1)-far
section
variable{F:Fn}{G:LD}
theorem Xz(h:ev F G e env S=.ok d S'):exe F G (.asg (.var i) e) env S=.ok (.nx (env.set i (yz d))) S':=by simp only[exe,h,Rk0,Xn]
theorem d2:Y6 2=true:=by decide+kernel
end
theorem Xof(t:Str)(S:Sto):Xj .ne (.str t) (.str t) S=.ok (.bl yw) S:=by simp only[Xj,X7,eqD,Xb1,beq_self_eq_true,V4,Va4]
end Z
end
section
namespace Z
theorem Xdj:∀ {m n:Nat},m<=n->C m k<=C n k:=by
 have st:∀n,C n k<=C (n+1) k:=λn=>by
  cases k with
  |zero=>rw[Xbi,Xbi];exact Vl _|succ k=>simp only[C];omega
 intro m n h;induction n with
 |zero=>
  have:m=0:=by omega
  subst this;exact Vl _|succ n ih=>
  by_cases e:m=n+1;·subst e;exact Vl _
  ·exact Ul (ih (by omega)) (st n)
theorem Xdk:∀k:Nat,C k k=1
 |0=>rfl|k+1=>by simp only[C];rw[Xdk k,Xdz k (k+1) (by omega)]
theorem Xj5(n:Nat):C n 1=n:=by
 induction n with
 |zero=>rfl|succ n ih=>show C n 0+C n 1=n+1;rw[Xbi,ih];omega
theorem Xia(k:Nat):∀j:Nat,j+1<=C (k+1+j) (k+1)
 |0=>by rw[Ve1,Xdk];exact Vl _|j+1=>by
  have ih:=Xia k j;have h1:1<=C (k+1+j) k:=by have:=Xdj (k:=k) (show k<=k+1+j by omega);rw[Xdk]at this;exact this
  have e:k+1+(j+1)=(k+1+j)+1:=by omega
  rw[e];simp only[C];omega
theorem Xwq(h:k<=m):1<=C m k:=by have:=Xdj (k:=k) h;rw[Xdk]at this;exact this
def Most(n k m:Nat):Prop:=k<=m/\C m k<=n/\n<C (m+1) k
theorem Most.uniq(h:Most n k m)(h':Most n k m'):m=m':=by
 obtain⟨_,Y,J⟩:=h;obtain⟨_,L,U⟩:=h';by_cases e:m<m';·have:=Xdj (k:=k) (show m+1<=m' by omega);omega
 ·by_cases B:m'<m;·have:=Xdj (k:=k) (show m'+1<=m by omega);omega
  ·omega
def Wr:Nat->Nat->LI->Prop
 |0,n,l=>n=0/\l=[]|k+1,n,l=>(n=0/\l=[])\/∃(m:Nat) (r:LI),l=(m:Int)::r/\0<n/\Most n (k+1) m/\Wr k (n-C m (k+1)) r
theorem Wr.zero(h:Wr k 0 l):l=[]:=by
 cases k with
 |zero=>exact h.2|succ k=>rcases h with h|⟨m,r,e,h,_⟩;exact h.2;omega
theorem Wr.uniq:∀ {k n:Nat} {l B:LI},Wr k n l->Wr k n B->l=B
 |0,n,l,B,h,h'=>by rw[h.2,h'.2]|k+1,n,l,B,h,h'=>by
  rcases h with⟨h0,rfl⟩|⟨m,r,rfl,h0,h1,h2⟩
  ·rcases h' with⟨_,rfl⟩|⟨m',r',rfl,h0',_⟩;·rfl
   ·omega
  rcases h' with⟨h0',rfl⟩|⟨m',r',rfl,h0',h1',h2'⟩;·omega
  ·have e:=h1.uniq h1';subst e;rw[h2.uniq h2']
noncomputable def wok:Nat->Option Int->LI->Bool
 |_,_,[]=>yx|0,_,_::_=>yw|k+1,pv,x::r=>decide (((k+1:Nat):Int)<=x)&&(pv.all λy=>decide (x<y))&&wok k (yz x) r
noncomputable def Xbp:Nat->LI->Int
 |_,[]=>0|0,_::_=>0|k+1,x::r=>C x.toNat (k+1)+Xbp k r
theorem Xog:∀(k:Nat) (l:LI),0<=Xbp k l
 |_,[]=>by cases ‹Nat› <;> exact Int.le_refl _|0,_::_=>Int.le_refl _|k+1,x::r=>by have:=Xog k r;simp only[Xbp];omega
theorem Xoh:∀(k:Nat) (pv:Option Int) (x:Int) (r:LI),wok k pv (x::r)=yx->Xbp k (x::r)<C (x.toNat+1) k
 |0=>λ_ _ _ h=>by cases h|k+1=>λpv x r h=>by
  simp only[wok,bA0,decide_eq_true_eq]at h;obtain⟨⟨h1,_⟩,h2⟩:=h;simp only[Xbp,C];cases r with
  |nil=>
   have:Xbp k []=0:=by cases k<;>rfl
   rw[this];have:=Xwq (k:=k) (m:=x.toNat) (by omega);omega|cons y r=>
   have ih:=Xoh k (yz x) y r h2;have B:y<x/\(k:Int)<=y:=by
    cases k with
    |zero=>cases h2|succ k=>simp only[wok,bA0,decide_eq_true_eq,Option.all_some]at h2;exact⟨h2.1.2,h2.1.1⟩
   have:=Xdj (k:=k) (show y.toNat+1<=x.toNat by omega);omega
theorem Xwr:∀ {k n:Nat} {l:LI} {pv:Option Int},Wr k n l->(∀y,pv=yz y->(n:Int)<C y.toNat k/\0<=y)->la l<=k/\wok k pv l=yx/\Xbp k l=n
 |0,n,l,pv,h,_=>by obtain⟨rfl,rfl⟩:=h;exact⟨Vl _,rfl,rfl⟩|k+1,n,l,pv,h,hp=>by
  rcases h with⟨rfl,rfl⟩|⟨m,r,rfl,h0,⟨m1,m2,m3⟩,h2⟩;·exact⟨Ug _,rfl,rfl⟩
  ·have U:n<C m k+C m (k+1):=m3;obtain⟨L,B,q3⟩:=Xwr (pv:=yz (m:Int)) h2 λy e=>by
    cases e;refine⟨?_,by omega⟩;rw[Vdb];omega
   refine⟨by simp;omega,?_,?_⟩
   ·simp only[wok,bA0,decide_eq_true_eq];refine⟨⟨by omega,?_⟩,B⟩;cases pv with
    |none=>rfl|some y=>
     obtain⟨J,p2⟩:=hp y rfl;simp only[Option.all_some,decide_eq_true_eq];by_cases e:(m:Int)<y;·exact e
     ·have:=Xdj (k:=k+1) (show y.toNat<=m by omega);omega
   simp only[Xbp,Vdb,q3];omega
theorem Xws:∀ {k n:Nat} {l:LI} {pv:Option Int},la l<=k->wok k pv l=yx->Xbp k l=n->Wr k n l
 |0,n,l,pv,h1,h2,h3=>by
  cases l with
  |nil=>exact⟨by have:Xbp 0 []=0:=rfl;omega,rfl⟩|cons _ _=>simp at h1
 |k+1,n,l,pv,h1,h2,h3=>by
  cases l with
  |nil=>exact .inl ⟨by have:Xbp (k+1) []=0:=rfl;omega,rfl⟩|cons x r=>
   have Y:=Xoh (k+1) pv x r h2;simp only[wok,bA0,decide_eq_true_eq]at h2;obtain⟨⟨a1,_⟩,U⟩:=h2;have B:=h3;simp only[Xbp]at B;have J:=Xog k r;have L:x=(x.toNat:Int):=by omega
   have hp:=Xwq (k:=k+1) (m:=x.toNat) (by omega);refine .inr ⟨x.toNat,r,by rw[<-L],by omega,⟨by omega,by omega,by omega⟩,?_⟩;exact Xws (pv:=yz x) (by simpa using h1) U (by omega)
theorem Xj6:∀ {k n:Nat} {l:LI},Wr k n l->∀x∈l,0<=x/\x<=(n:Int)+k
 |0,n,l,h,x,B=>by rw[h.2]at B;cases B|k+1,n,l,h,x,B=>by
  rcases h with⟨_,rfl⟩|⟨m,r,rfl,h0,⟨m1,m2,m3⟩,h2⟩;·cases B
  ·have J:m<=n+k:=by
    obtain⟨j,rfl⟩:∃j,m=k+1+j:=⟨m-(k+1),by omega⟩;have:=Xia k j;omega
   rcases Vt.mp B with rfl|B;·omega
   ·have:=Xj6 h2 x B;omega
theorem Xsb(h:Wr k n l):(la l)<=k:=(Xwr (pv:=yy) h λy e=>by cases e).1
end Z
end
section
namespace Z
open PySem PySem.Spec PyProof.Rows L2
section
variable{F:Fn}{G:LD}
theorem Xpv(n m i:Nat)(S:Sto)(hn:n<=100000000000000)(hi:i<13):pb F G Xdi [yz (.int n),yz (.int m),yz (.int (C n i)),yz (.int i)] S=.ok (.nx [yz (.int n),yz (.int m),yz (.int (C n (i+1))),yz (.int i)]) S:=by have h:=Xu7 (F:=F) (G:=G) n m (C n i) i S (Xck (by omega) (by omega)) (X6e (by omega));rw[X6b]at h;exact h
theorem Xsc(n m:Nat)(S:Sto)(hn:n<=100000000000000)(L:m<=13):den F G Xgy [.int n,.int m] S=.ok (.int (C n m)) S:=by
 obtain⟨xs,B,Y⟩:=Xag (m:=(m:Int)) (by omega) (Xpr (by omega));obtain⟨U,S',h1,rfl,x,rfl⟩:=Xci (F:=F) (G:=G) (t:=.var 3) (es:=.cons (.var 1) .nil) (b:=Xdi) (env:=[yz (.int n),yz (.int m),yz (.int 1),yy]) (S:=S) (S1:=S) (ds:=[.int m]) (xs:=xs)
  (λi e S'=>S'=S/\∃x,e=[yz (.int n),yz (.int m),yz (.int (C n i)),x]) (by simp only[evs,ev,gZ0,gS0,Rk0]) B ⟨rfl,yy,by rw[Xbi];rfl⟩ (λi d e S' hd J=>by obtain⟨rfl,x,rfl⟩:=J;obtain⟨rfl,hi⟩:=Xax B hd;exact⟨_,_,S',rfl,Xpv n m i S' hn (by omega),rfl,_,rfl⟩)
 have e:(la xs)=m:=by omega
 rw[e]at h1;exact Xu8 n m (C n m) S' _ S' h1 rfl
noncomputable def Xgz:Ex:=.cmp .gt (.bin .sub (.var 3) (.var 2)) (.cst (.int 1))
noncomputable def Xfb(iw:Nat):Sts:=.cons (.asg (.var 4) (.bin .fdiv (.bin .add (.var 2) (.var 3)) (.cst (.int 2)))) (.cons (.ite (.cmp .le (.call iw (.cons (.var 4) (.cons (.var 1) .nil))) (.var 0)) (.cons (.asg (.var 2) (.var 4)) .nil) (.cons (.asg (.var 3) (.var 4)) .nil)) .nil)
noncomputable def Xj7(iw:Nat):Df:=⟨2,5,.cons (.asg (.var 2) (.var 1)) (.cons (.asg (.var 3) (.bin .add (.var 1) (.var 0))) (.cons (.whl Xgz (Xfb iw)) (.cons (.ret (.var 2)) .nil)))⟩
def Ym(F:Fn)(iw:Nat):Prop:=∀(n m:Nat) (S:Sto),n<=10000000000000->m<=13->F iw [.int n,.int m] S=.ok (.int (C n m)) S
theorem Xcw(h:T[iw]?=yz Xgy)(k:Nat):Ym (FT T G (k+1)) iw:=λn m S hn B=>by simp only[FT,h];exact Xsc n m S (by omega) B
noncomputable def Xib(F:Fn)(G:LD):En->Sto->R Bool:=λenv S=>(ev F G Xgz env S).bind λx S=>match Xh S x with
 |some r=>.ok r S|none=>.bad
theorem Xl3:Xib F G [yz (.int n),yz (.int k),yz (.int lw),yz (.int hi),x] S=.ok (decide (1<hi-lw)) S:=by unfold Xib;simp only[Xgz,ev,gZ0,gS0,Rk0,Yp,Xj,X7,Xh]
theorem Xsd{iw:Nat}(U:Ym F iw){n k lw hi:Nat}{x:Option D}(Y:k<=12)(h:(lw+hi)/2<=10000000000000):
  pb F G (Xfb iw) [yz (.int n),yz (.int k),yz (.int lw),yz (.int hi),x] S=.ok (.nx (if C ((lw+hi)/2) k<=n then [yz (.int n),yz (.int k),yz (.int ((lw+hi)/2:Nat)),yz (.int hi),yz (.int ((lw+hi)/2:Nat))] else [yz (.int n),yz (.int k),yz (.int lw),yz (.int ((lw+hi)/2:Nat)),yz (.int ((lw+hi)/2:Nat))])) S:=by
 have e:((lw:Int)+hi)/2=((lw+hi)/2:Nat):=by omega
 have J:=Xz (i:=4) (F:=F) (G:=G) (e:=.bin .fdiv (.bin .add (.var 2) (.var 3)) (.cst (.int 2))) (env:=[yz (.int n),yz (.int k),yz (.int lw),yz (.int hi),x]) (S:=S) (d:=.int ((lw+hi)/2:Nat)) (S':=S) (by simp only[ev,gZ0,gS0,Rk0,Xu,Xct d2,e]);generalize (lw+hi)/2=m at J h;have L:=U m k S h (by omega);have B:ev F G (.cmp .le (.call iw (.cons (.var 4) (.cons (.var 1) .nil))) (.var 0)) [yz (.int n),yz (.int k),yz (.int lw),yz (.int hi),yz (.int m)] S=.ok (.bl (decide ((C m k:Int)<=n))) S:=by simp only[ev,evs,gZ0,gS0,Rk0,L,Xj,X7]
 unfold Xfb;rw[Xc J];by_cases q:C m k<=n;·have hd:decide ((C m k:Int)<=n)=true:=decide_eq_true (by omega);rw[hd]at B;rw[iP0 q];rw[Xc (e:=[yz (.int n),yz (.int k),yz (.int m),yz (.int hi),yz (.int m)]) (S1:=S) (by show exe F G _ [yz (.int n),yz (.int k),yz (.int lw),yz (.int hi),yz (.int m)] S=_;rw[exe,B,Rk0];simp only[Xh,pb,exe,ev,gZ0,gS0,Rk0,Xn,Vaw])];rw[pb]
 ·have hd:decide ((C m k:Int)<=n)=false:=decide_eq_false (by omega);rw[hd]at B;rw[iN0 q];rw[Xc (e:=[yz (.int n),yz (.int k),yz (.int lw),yz (.int m),yz (.int m)]) (S1:=S) (by show exe F G _ [yz (.int n),yz (.int k),yz (.int lw),yz (.int hi),yz (.int m)] S=_;rw[exe,B,Rk0];simp only[Xh,pb,exe,ev,gZ0,gS0,Rk0,Xn,Vaw])];rw[pb]
theorem Xen{iw:Nat}(hw:Ym F iw){n k:Nat}(hk:k<=12):∀(j B lw hi:Nat) (x:Option D),hi-lw<=2^j->j<B->lw<hi->k<=lw->hi<=5000000000000->C lw k<=n->n<C hi k ->
  ∃m h L,Yj (Xib F G) (λenv S=>pb F G (Xfb iw) env S) B [yz (.int n),yz (.int k),yz (.int lw),yz (.int hi),x] S=.ok (.nx [yz (.int n),yz (.int k),yz (.int (m:Nat)),h,L]) S/\Most n k m
 |j,0=>λlw hi x h1 h2 h3 h4 h5 Y h7=>by omega|j,B+1=>λlw hi x h1 h2 h3 h4 h5 Y h7=>by
  by_cases q:hi=lw+1;·subst q;have J:=Xl3 (F:=F) (G:=G) (n:=n) (k:=k) (lw:=lw) (hi:=(lw+1:Nat)) (x:=x) (S:=S);have hd:decide ((1:Int)<((lw+1:Nat):Int)-lw)=false:=decide_eq_false (by omega);rw[hd]at J;refine⟨lw,yz (.int (lw+1:Nat)),x,?_,h4,Y,h7⟩;simp only[Yj,J]
  ·have J:=Xl3 (F:=F) (G:=G) (n:=n) (k:=k) (lw:=lw) (hi:=hi) (x:=x) (S:=S);have hd:decide ((1:Int)<(hi:Int)-lw)=true:=decide_eq_true (by omega);rw[hd]at J;have U:=Xsd (G:=G) hw (n:=n) (k:=k) (lw:=lw) (hi:=hi) (x:=x) (S:=S) hk (by omega);obtain⟨j,rfl⟩:∃i,j=i+1:=by
    cases j with
    |zero=>simp at h1;omega|succ j=>exact⟨j,rfl⟩
   rw[Ve0]at h1;by_cases c:C ((lw+hi)/2) k<=n;·rw[iP0 c]at U;obtain⟨m,h,L,r1,r2⟩:=Xen hw hk j B ((lw+hi)/2) hi (yz (.int ((lw+hi)/2:Nat))) (by omega) (by omega) (by omega) (by omega) h5 c h7;exact⟨m,h,L,by simp only[Yj,J,U];exact r1,r2⟩
   ·rw[iN0 c]at U;obtain⟨m,h,L,r1,r2⟩:=Xen hw hk j B lw ((lw+hi)/2) (yz (.int ((lw+hi)/2:Nat))) (by omega) (by omega) (by omega) h4 (by omega) Y (by omega);exact⟨m,h,L,by simp only[Yj,J,U];exact r1,r2⟩
theorem Xu9{iw:Nat}(hw:Ym F iw){n k:Nat}(aa:1<=k)(hk:k<=12)(B:1<=n)(hn:n<=1000000000000):∃m,den F G (Xj7 iw) [.int n,.int k] S=.ok (.int (m:Nat)) S/\Most n k m:=by
 have J:n<C (k+n) k:=by obtain⟨L,rfl⟩:∃L,k=L+1:=⟨k-1,by omega⟩;have:=Xia L n;omega
 obtain⟨m,h,U,r1,r2⟩:=Xen (G:=G) hw (n:=n) (k:=k) (S:=S) hk 41 100000 k (k+n) yy (by have ab:(2:Nat)^41=2199023255552:=(by decide);omega) (by omega) (by omega) (Vl _) (by omega) (by rw[Xdk];exact B) J;refine⟨m,?_,r2⟩;have s1:=Xz (i:=2) (F:=F) (G:=G) (e:=.var 1) (env:=[yz (.int n),yz (.int k),yy,yy,yy]) (S:=S) (d:=.int k) (S':=S) (by simp only[ev,gZ0,gS0]);have s2:=Xz (i:=3) (F:=F) (G:=G) (e:=.bin .add (.var 1) (.var 0)) (env:=[yz (.int n),yz (.int k),yz (.int k),yy,yy]) (S:=S) (d:=.int ((k+n:Nat):Int)) (S':=S) (by simp only[ev,gZ0,gS0,Rk0,Xu];rw[Int.natCast_add]);have s3:exe F G (.whl Xgz (Xfb iw)) [yz (.int n),yz (.int k),yz (.int k),yz (.int ((k+n:Nat):Int)),yy] S=.ok (.nx [yz (.int n),yz (.int k),yz (.int m),h,U]) S:=by rw[exe];exact r1
 have Y:exe F G (.ret (.var 2)) [yz (.int n),yz (.int k),yz (.int m),h,U] S=.ok (.rt (.int m)) S:=by simp only[exe,ev,gZ0,gS0,Rk0]
 simp only[den,Xj7,V8,if_true,Uk,Vi];have q:pb F G (.cons (.asg (.var 2) (.var 1)) (.cons (.asg (.var 3) (.bin .add (.var 1) (.var 0))) (.cons (.whl Xgz (Xfb iw)) (.cons (.ret (.var 2)) .nil)))) ([yz (.int n),yz (.int k)]++[yy,yy,yy]) S=.ok (.rt (.int m)) S:=
  (Xc s1).trans ((Xc s2).trans ((Xc s3).trans (Xp Y)))
 rw[q]
noncomputable def Xbu(im iw:Nat):Sts:=.cons (.ite (.cmp .eq (.var 3) (.cst (.int 0))) (.cons .brk .nil) .nil) (.cons (.asg (.var 5) (.call im (.cons (.var 3) (.cons (.var 4) .nil)))) (.cons (.expr (.mth .append (.var 2) (.cons (.var 5) .nil))) (.cons (.aug 3 .sub (.call iw (.cons (.var 5) (.cons (.var 4) .nil)))) .nil)))
noncomputable def Xfc(B im iw:Nat):Df:=⟨2,6,.cons (.expr (.call B (.cons (.var 0) (.cons (.var 1) .nil)))) (.cons (.asg (.var 2) (.lst .nil)) (.cons (.asg (.var 3) (.var 0)) (.cons (.for (.var 4) (.rng (.cons (.var 1) (.cons (.cst (.int 0)) (.cons (.neg (.cst (.int 1))) .nil)))) (Xbu im iw)) (.cons (.ret (.blt .tuple (.cons (.var 2) .nil))) .nil))))⟩
def Xj8(F:Fn)(im:Nat):Prop:=∀(n k:Nat) (S:Sto),1<=k->k<=12->1<=n->n<=1000000000000->∃m,F im [.int n,.int k] S=.ok (.int (m:Nat)) S/\Most n k m
theorem Xva{T:List Df}{im iw:Nat}(h:T[im]?=yz (Xj7 iw)){k:Nat}(U:Ym (FT T G k) iw):Xj8 (FT T G (k+1)) im:=λn k' S h1 h2 Y J=>by obtain⟨m,B,L⟩:=Xu9 (G:=G) U (S:=S) h1 h2 Y J;exact⟨m,by simp only[FT,h];exact B,L⟩
theorem Xse:pb F G (Xbu im iw) [yz (.int n),yz (.int s),yz (.ref q),yz (.int 0),yz (.int k),x5] S=.ok (.brk [yz (.int n),yz (.int s),yz (.ref q),yz (.int 0),yz (.int k),x5]) S:=by
 have h:exe F G (.ite (.cmp .eq (.var 3) (.cst (.int 0))) (.cons .brk .nil) .nil) [yz (.int n),yz (.int s),yz (.ref q),yz (.int 0),yz (.int k),x5] S=.ok (.brk [yz (.int n),yz (.int s),yz (.ref q),yz (.int 0),yz (.int k),x5]) S:=by rw[exe];simp only[ev,gZ0,gS0,Rk0,Xcu,beq_self_eq_true,Xh,pb,exe]
 unfold Xbu;simp only[pb,h]
theorem Xvb(hw:Ym F iw)(hm:Xj8 F im)(aa:1<=k)(hk:k<=12)(U:1<=r)(hr:r<=1000000000000)(hq:Xa S q=yz acc)(hl:(la acc)<100):
  ∃m,Most r k m/\pb F G (Xbu im iw) [yz (.int n),yz (.int s),yz (.ref q),yz (.int r),yz (.int k),x5] S=.ok (.nx [yz (.int n),yz (.int s),yz (.ref q),yz (.int ((r-C m k:Nat):Int)),yz (.int k),yz (.int m)]) (S.set q (.lst (acc++[.int m]))):=by
 obtain⟨m,h1,h2⟩:=hm r k S aa hk U hr;refine⟨m,h2,?_⟩;have Y:m<=10000000000000:=by obtain⟨a1,a2,a3⟩:=h2;obtain⟨B,rfl⟩:∃B,k=B+1:=⟨k-1,by omega⟩;obtain⟨j,rfl⟩:∃j,m=B+1+j:=⟨m-(B+1),by omega⟩;have:=Xia B j;omega
 have hb:((r:Int)==0)=false:=by simp;omega
 have s0:exe F G (.ite (.cmp .eq (.var 3) (.cst (.int 0))) (.cons .brk .nil) .nil) [yz (.int n),yz (.int s),yz (.ref q),yz (.int r),yz (.int k),x5] S=.ok (.nx [yz (.int n),yz (.int s),yz (.ref q),yz (.int r),yz (.int k),x5]) S:=by rw[exe];simp only[ev,gZ0,gS0,Rk0,Xcu,hb,Xh,pb]
 have s1:=Xz (i:=5) (F:=F) (G:=G) (e:=.call im (.cons (.var 3) (.cons (.var 4) .nil))) (env:=[yz (.int n),yz (.int s),yz (.ref q),yz (.int r),yz (.int k),x5]) (S:=S) (d:=.int m) (S':=S) (by simp only[ev,evs,gZ0,gS0,Rk0,h1]);have J:=Xod (x:=.int m) hq (by omega);have ab:Xa4 .append (.ref q) S=true:=by simp only[Xa4,hq,Vdy]
 have s2:exe F G (.expr (.mth .append (.var 2) (.cons (.var 5) .nil))) [yz (.int n),yz (.int s),yz (.ref q),yz (.int r),yz (.int k),yz (.int m)] S=.ok (.nx [yz (.int n),yz (.int s),yz (.ref q),yz (.int r),yz (.int k),yz (.int m)]) (S.set q (.lst (acc++[.int m]))):=by simp only[exe,ev,evs,gZ0,gS0,Rk0,ab,if_true,J]
 have L:=hw m k (S.set q (.lst (acc++[.int m]))) Y (by omega);have s3:exe F G (.aug 3 .sub (.call iw (.cons (.var 5) (.cons (.var 4) .nil)))) [yz (.int n),yz (.int s),yz (.ref q),yz (.int r),yz (.int k),yz (.int m)] (S.set q (.lst (acc++[.int m])))=.ok (.nx [yz (.int n),yz (.int s),yz (.ref q),yz (.int ((r-C m k:Nat):Int)),yz (.int k),yz (.int m)]) (S.set q (.lst (acc++[.int m]))):=by
  have e:(r:Int)-(C m k:Int)=((r-C m k:Nat):Int):=by have:=h2.2.1;omega
  simp only[exe,ev,evs,gZ0,gS0,Rk0,L,Xfv,e,Vaw]
 unfold Xbu;exact(Xc s0).trans ((Xc s1).trans ((Xc s2).trans ((Xc s3).trans (by simp only[pb]))))
theorem Xjl(hw:Ym F iw)(hm:Xj8 F im)(hx:xs=(Vm s).map λ(j:Nat)=>D.int ((s:Int)-j))(hs:s<=12):∀(k B i r:Nat) (x4 x5:Option D) (S:Sto) (acc:LD),i+k=s->k<B->r<=1000000000000->Xa S q=yz acc->la acc<=50+i->(k=0->r=0) ->
  ∃w e,Ye (Src.con xs).get (.var 4) (λenv S=>pb F G (Xbu im iw) env S) B i [yz (.int n),yz (.int s),yz (.ref q),yz (.int r),x4,x5] S=.ok (.nx e) (S.set q (.lst (acc++w.map D.int)))/\Wr k r w/\e[2]?=yz (yz (.ref q))
 |k,0=>λi r x4 x5 S acc h1 h2 h3 U h5 h6=>by omega|0,B+1=>λi r x4 x5 S acc h1 h2 h3 U h5 h6=>by
  have hi:xs[i]?=none:=by rw[hx];simp;omega
  refine⟨[],[yz (.int n),yz (.int s),yz (.ref q),yz (.int r),x4,x5],?_,⟨h6 rfl,rfl⟩,rfl⟩;have e:S.set q (.lst (acc++([]:LI).map D.int))=S:=by obtain⟨J,hv⟩:=Vh.mp (Xcv U);rw[Vdi,Ud,<-hv];exact Vfz J
  rw[e];simp only[Ye,Src.get,hi]|k+1,B+1=>λi r x4 x5 S acc h1 h2 h3 U h5 h6=>by
  have hi:xs[i]?=yz (.int ((k+1:Nat):Int)):=by rw[hx,Vx,Vb1 (by omega),V4];congr 2;omega
  by_cases hr:r=0
  ·subst hr;refine⟨[],[yz (.int n),yz (.int s),yz (.ref q),yz (.int 0),yz (.int ((k+1:Nat):Int)),x5],?_,.inl ⟨rfl,rfl⟩,rfl⟩;have e:S.set q (.lst (acc++([]:LI).map D.int))=S:=by
    obtain⟨J,hv⟩:=Vh.mp (Xcv U);rw[Vdi,Ud,<-hv];exact Vfz J
   rw[e];have hz:=Xse (F:=F) (G:=G) (im:=im) (iw:=iw) (n:=n) (s:=s) (k:=((k+1:Nat):Int)) (q:=q) (x5:=x5) (S:=S);simp only[Ye,Src.get,hi,Xn,Vaw];have Y:pb F G (Xbu im iw) [yz (.int n),yz (.int s),yz (.ref q),yz (.int ((0:Nat):Int)),yz (.int ((k+1:Nat):Int)),x5] S=_:=hz;rw[Y]
  obtain⟨m,m1,m2⟩:=Xvb (G:=G) hw hm (n:=n) (s:=s) (r:=r) (k:=k+1) (q:=q) (x5:=x5) (S:=S) (acc:=acc) (by omega) (by omega) (by omega) h3 U (by omega);have L:k=0->r-C m (k+1)=0:=λz=>by subst z;obtain⟨a1,a2,a3⟩:=m1;rw[Vbo,Xj5]at a2 ⊢;rw[Vbo,Xj5]at a3;omega
  obtain⟨w,e,r1,r2,r3⟩:=Xjl hw hm hx hs k B (i+1) (r-C m (k+1)) (yz (.int ((k+1:Nat):Int))) (yz (.int m)) (S.set q (.lst (acc++[.int m]))) (acc++[.int m]) (by omega) (by omega) (by omega) (Xa2 (Xay U)) (by simp;omega) L;refine⟨(m:Int)::w,e,?_,.inr ⟨m,w,rfl,by omega,m1,r2⟩,r3⟩;rw[List.set_set,V2]at r1;simp only[Ye,Src.get,hi,Xn,Vaw];rw[m2];exact r1
theorem Xvc{s:Nat}(hs:s<=12):Ys [.int s,.int 0,.int (-1)]=yz ((Vm s).map λ(j:Nat)=>D.int ((s:Int)-j)):=by
 have h:∀j:Fin 13,(-(1048576:Int)<(j.val:Int)/\(j.val:Int)<1048576):=by decide
 obtain⟨h1,h2⟩:=h ⟨s,by omega⟩;unfold Ys;dsimp only;rw[iP0 ⟨rfl,h1,h2,by decide,by decide⟩,show((s:Int)-0).toNat=s by omega]
theorem Xvd(hc:F ic [n,s] S=.ok .non S)(hr:Ys [s,.int 0,.int (-1)]=yz xs)
  (U:Ye (Src.con xs).get (.var 4) (λenv S=>pb F G (Xbu im iw) env S) (la xs+1) 0 [yz n,yz s,yz (.ref (la S)),yz n,yy,yy] (S++[.lst []])=.ok (.nx e) (S++[.lst (w.map D.int)])) (r3:e[2]?=yz (yz (.ref (la S)))):
  den F G (Xfc ic im iw) [n,s] S=.ok (Xb w) (S++[.lst (w.map D.int)]):=by
 have s0:exe F G (.expr (.call ic (.cons (.var 0) (.cons (.var 1) .nil)))) [yz n,yz s,yy,yy,yy,yy] S=.ok (.nx [yz n,yz s,yy,yy,yy,yy]) S:=by simp only[exe,ev,evs,gZ0,gS0,Rk0,hc]
 have J:=Xz (i:=2) (F:=F) (G:=G) (e:=.lst .nil) (env:=[yz n,yz s,yy,yy,yy,yy]) (S:=S) (d:=.ref (la S)) (S':=S++[.lst []]) (by simp only[ev,evs,Rk0];exact iP0 (by decide));have L:=Xz (i:=3) (F:=F) (G:=G) (e:=.var 0) (env:=[yz n,yz s,yz (.ref (la S)),yy,yy,yy]) (S:=S++[.lst []]) (d:=n) (S':=S++[.lst []]) (by simp only[ev,gZ0]);have Y:exe F G (.for (.var 4) (.rng (.cons (.var 1) (.cons (.cst (.int 0)) (.cons (.neg (.cst (.int 1))) .nil)))) (Xbu im iw)) [yz n,yz s,yz (.ref (la S)),yz n,yy,yy] (S++[.lst []])=.ok (.nx e) (S++[.lst (w.map D.int)]):=by simp only[exe,evit,evs,ev,gZ0,gS0,Rk0,hr,Src.most];exact U
 have B:exe F G (.ret (.blt .tuple (.cons (.var 2) .nil))) e (S++[.lst (w.map D.int)])=.ok (.rt (Xb w)) (S++[.lst (w.map D.int)]):=by simp only[exe,ev,evs,r3,Rk0,Xx,Xs,Xf,Xb]
 simp only[den,Xfc,V8,if_true,Uk,Vi];have q:pb F G (.cons (.expr (.call ic (.cons (.var 0) (.cons (.var 1) .nil)))) (.cons (.asg (.var 2) (.lst .nil)) (.cons (.asg (.var 3) (.var 0)) (.cons (.for (.var 4) (.rng (.cons (.var 1) (.cons (.cst (.int 0)) (.cons (.neg (.cst (.int 1))) .nil)))) (Xbu im iw)) (.cons (.ret (.blt .tuple (.cons (.var 2) .nil))) .nil))))) ([yz n,yz s]++[yy,yy,yy,yy]) S=.ok (.rt (Xb w)) (S++[.lst (w.map D.int)]):=
  (Xc s0).trans ((Xc J).trans ((Xc L).trans ((Xc Y).trans (Xp B))))
 rw[q]
theorem Xve{J im iw n s:Nat}(hw:Ym F iw)(hm:Xj8 F im)(hc:F J [.int n,.int s] S=.ok .non S)(aa:1<=s)(hs:s<=12)(hn:n<=1000000000000):∃w,den F G (Xfc J im iw) [.int n,.int s] S=.ok (Xb w) (S++[.lst (w.map D.int)])/\Wr s n w:=by
 obtain⟨w,e,B,Y,U⟩:=Xjl (G:=G) hw hm (n:=n) (s:=s) (q:=la S) rfl hs s (s+1) 0 n yy yy (S++[.lst []]) [] (Vbo s) (Vb9 s) hn Xf (Ug _) (λz=>aB0 z (by omega));have L:(S++[O.lst []]).set (la S) (.lst ([]++w.map D.int))=S++[.lst (w.map D.int)]:=by rw[Vf0 _ _ (Vl _),Va7,Uz];rfl
 rw[L]at B;refine⟨w,Xvd hc (Xvc hs) ?_ U,Y⟩;rw[Vn,Us];exact B
end
theorem Xsf(n i:Nat)(h:i<=n):((C n i*fac i:Nat):Int)*((n:Int)-i)=((C n (i+1)*fac (i+1):Nat):Int):=by
 have e:(n:Int)-i=((n-i:Nat):Int):=by omega
 rw[e,<-Vdu];congr 1;have:=Xcs n i;simp only[fac]
 calc C n i*fac i*(n-i)=C n i*(n-i)*fac i:=by rw[Vep,Vdh (fac i),<-Vep]
  _=C n (i+1)*(i+1)*fac i:=by rw[this]
  _=C n (i+1)*(fac i*(i+1)):=by rw[Vep,Vdh (i+1)]
theorem Xoi(n:Nat):∀i,C n i*fac i<=n^i
 |0=>by rw[Xbi];simp[fac]|i+1=>by
  by_cases h:i<=n
  ·have:=Xcs n i;have ih:=Xoi n i;have e:C n (i+1)*fac (i+1)=C n i*fac i*(n-i):=by
    simp only[fac]
    calc C n (i+1)*(fac i*(i+1))=C n (i+1)*(i+1)*fac i:=by rw[Vep,Vdh (i+1)]
     _=C n i*(n-i)*fac i:=by rw[this]
     _=C n i*fac i*(n-i):=by rw[Vep,Vdh (n-i),<-Vep]
   rw[e,Ve0];exact Nat.mul_le_mul ih (Nat.sub_le _ _)
  rw[Xdz n (i+1) (by omega),Nat.zero_mul];exact Ug _
theorem Xl4(h:n<2^k)(B:0<k):n.log2<k:=by
 by_cases h0:n=0;·subst h0;exact B
 ·exact(Nat.log2_lt h0).mpr h
theorem Xvf(hn:n<2^300)(hi:i<=13):((C n i*fac i:Nat):Int).natAbs.log2<100000:=by rw[Int.natAbs_natCast];refine Xl4 (Vcz (Xoi n i) ?_) (by decide);refine Vcz (Nat.pow_le_pow_left (Vcv hn) i) ?_;rw[<-Nat.pow_mul];exact Nat.pow_lt_pow_right (by decide) (by omega)
section
variable{F:Fn}{G:LD}
noncomputable def lwB:Sts:=.cons (.asg (.var 3) (.bin .mul (.var 3) (.bin .sub (.var 0) (.var 2)))) (.cons (.asg (.var 4) (.bin .mul (.var 4) (.bin .add (.var 2) (.cst (.int 1))))) .nil)
noncomputable def Xcx:Df:=⟨2,5,.cons (.ite (.cmp .gt (.var 1) (.var 0)) (.cons (.ret (.cst (.int 0))) .nil) .nil) (.cons (.asg (.tup [3,4]) (.tup (.cons (.cst (.int 1)) (.cons (.cst (.int 1)) .nil)))) (.cons (.for (.var 2) (.rng (.cons (.var 1) .nil)) lwB) (.cons (.ret (.bin .fdiv (.var 3) (.var 4))) .nil)))⟩
theorem X31(h1:Yl t (n-i)=yx)(h2:Yl b (i+1)=yx):pb F G lwB [yz (.int n),yz (.int m),yz (.int i),yz (.int t),yz (.int b)] S=.ok (.nx [yz (.int n),yz (.int m),yz (.int i),yz (.int (t*(n-i))),yz (.int (b*(i+1)))]) S:=by have B:=Xz (i:=3) (F:=F) (G:=G) (e:=.bin .mul (.var 3) (.bin .sub (.var 0) (.var 2))) (env:=[yz (.int n),yz (.int m),yz (.int i),yz (.int t),yz (.int b)]) (S:=S) (d:=.int (t*(n-i))) (S':=S) (by simp only[ev,gZ0,gS0,Rk0,Yp,Xa1 h1]);have J:=Xz (i:=4) (F:=F) (G:=G) (e:=.bin .mul (.var 4) (.bin .add (.var 2) (.cst (.int 1)))) (env:=[yz (.int n),yz (.int m),yz (.int i),yz (.int (t*(n-i))),yz (.int b)]) (S:=S) (d:=.int (b*(i+1))) (S':=S) (by simp only[ev,gZ0,gS0,Rk0,Xu,Xa1 h2]);unfold lwB;exact(Xc B).trans ((Xc J).trans (by simp only[pb,Vaw]))
theorem X32(h0:decide (n<m)=yw)(h1:exe F G (.for (.var 2) (.rng (.cons (.var 1) .nil)) lwB) [yz (.int n),yz (.int m),yy,yz (.int 1),yz (.int 1)] S=.ok (.nx e') S)(J:e'[3]?=yz (yz (.int t)))(B:e'[4]?=yz (yz (.int b)))(hd:Y6 b=yx)(L:t/b=r):den F G Xcx [.int n,.int m] S=.ok (.int r) S:=by simp only[den,Xcx,V8,if_true,Uk,Vi,Vah,Uz];rw[Xc (e:=[yz (.int n),yz (.int m),yy,yy,yy]) (S1:=S) (Xas (by simp only[ev,Vah,Uz,gZ0,gS0,Rk0,Xj,X7,h0]))];rw[Xc (e:=[yz (.int n),yz (.int m),yy,yz (.int 1),yz (.int 1)]) (S1:=S) (by simp only[exe,ev,evs,Rk0];rfl)];rw[Xc h1];rw[Xp (d:=.int r) (S1:=S) (by simp only[exe,ev,J,B,Rk0,Xct hd,L])]
theorem Xzo(h0:decide (n<m)=yx):den F G Xcx [.int n,.int m] S=.ok (.int 0) S:=by simp only[den,Xcx,V8,if_true,Uk,Vi,Vah,Uz];rw[Xp (d:=.int 0) (S1:=S) (Xzm (by simp only[ev,Vah,Uz,gZ0,gS0,Rk0,Xj,X7,h0]))]
theorem Xzp(h:i<=13):Y6 (fac i:Int)=true:=by
 have:∀j:Fin 14,Y6 (fac j.val:Int)=true:=by decide+kernel
 exact this ⟨i,by omega⟩
theorem Xzq(h:i<13):Yl (fac i:Int) ((i:Int)+1)=true:=Xck (by omega) (by omega)
theorem Xzr{n i:Nat}(hn:n<2^300)(hi:i<=n):((n:Int)-i).natAbs.log2<100000:=by
 have e:((n:Int)-i).natAbs=n-i:=by omega
 rw[e];exact Xl4 (Vcz (Nat.sub_le n i) (V0 hn (Vge (by decide) (by decide)))) (by decide)
theorem Xzs{n m i:Nat}(hn:n<2^300)(hi:i<13)(B:i<=n):pb F G lwB [yz (.int n),yz (.int m),yz (.int i),yz (.int ((C n i*fac i:Nat):Int)),yz (.int (fac i))] S=.ok (.nx [yz (.int n),yz (.int m),yz (.int i),yz (.int ((C n (i+1)*fac (i+1):Nat):Int)),yz (.int (fac (i+1)))]) S:=by
 have h:=X31 (F:=F) (G:=G) (n:=n) (m:=m) (t:=((C n i*fac i:Nat):Int)) (b:=(fac i:Int)) (i:=i) (S:=S) (Xzd (Xvf hn (Vcv hi)) (Xzr hn B)) (Xzq hi);rw[Xsf n i B]at h;have e:(fac i:Int)*((i:Int)+1)=(fac (i+1):Int):=by simp only[fac];rw[Vdu];rfl
 rw[e]at h;exact h
theorem Xsg{n m:Nat}(hn:n<2^300)(L:m<=13):den F G Xcx [.int n,.int m] S=.ok (.int (C n m)) S:=by
 by_cases h:n<m;·rw[Xdz n m h];exact Xzo (decide_eq_true (by omega))
 ·obtain⟨xs,J,hl⟩:=Xag (m:=(m:Int)) (by omega) (Xpr (by omega));have B:(la xs)=m:=by omega
  obtain⟨Y,S',h1,rfl,x,rfl⟩:=Xci (F:=F) (G:=G) (t:=.var 2) (es:=.cons (.var 1) .nil) (b:=lwB) (env:=[yz (.int n),yz (.int m),yy,yz (.int 1),yz (.int 1)]) (S:=S) (S1:=S) (ds:=[.int m]) (xs:=xs)
   (λi e S'=>S'=S/\∃x,e=[yz (.int n),yz (.int m),x,yz (.int ((C n i*fac i:Nat):Int)),yz (.int (fac i))]) (by simp only[evs,ev,gZ0,gS0,Rk0]) J ⟨rfl,yy,by rw[Xbi];rfl⟩ (λi d e S' hd U=>by obtain⟨rfl,x,rfl⟩:=U;obtain⟨rfl,hi⟩:=Xax J hd;exact⟨_,_,S',rfl,Xzs hn (by omega) (by omega),rfl,_,rfl⟩)
  rw[B]at h1;refine X32 (decide_eq_false (by omega)) h1 rfl rfl (Xzp L) ?_;rw[Vdu,Int.mul_ediv_cancel _ (by have:=Xn7 m;omega)]
def LWaysF(F:Fn)(il:Nat):Prop:=∀(n m:Nat) (S:Sto),n<2^300->m<=13->F il [.int n,.int m] S=.ok (.int (C n m)) S
theorem Xeo{T:List Df}{il:Nat}(h:T[il]?=yz Xcx)(k:Nat):LWaysF (FT T G (k+1)) il:=λn m S hn B=>by simp only[FT,h];exact Xsg hn B
theorem X33{l:LI}{i:Nat}:(Src.enm (.con (l.map D.int))).get S i=yz ((l[i]?).map λx=>D.tup [.int i,.int x]):=by simp only[Src.get,Vx];cases l[i]?<;>rfl
end
theorem Xep:∀l w:LI,Vft (l.map Vaz) (w.map Vaz)=decide (l=w)
 |[],[]=>by simp[Vft]|[],_::_=>by simp[Vft]|_::_,[]=>by simp[Vft]|x::l,y::w=>by
  have ih:=Xep l w;simp only[Uk,Vft,Vb6,ih];by_cases e:x=y;·subst e;simp
  ·simp[e]
theorem Xvg(B:Nat->Option Vc9):∀l:LI,datFs B (l.map D.int)=yz (l.map Vaz)
 |[]=>by simp only[Uk,datFs]|x::l=>by simp only[Uk,datFs,Xav,Xvg B l]
theorem Xvh:∀l:LI,Vda (l.map Vaz)=yx
 |[]=>by simp only[Uk,Vda]|x::l=>by simp only[Uk,Vda,Vfe,Xvh l,Vdr]
theorem Xvi:∀l:LI,PyData.depthAll (l.map Vaz)=0
 |[]=>by simp only[Uk,PyData.depthAll]|x::l=>by simp only[Uk,PyData.depthAll,Ve9,Xvi l,Nat.max_self]
theorem Xzt(l w:LI)(S:Sto):Xj .eq (Xb l) (Xb w) S=.ok (.bl (decide (l=w))) S:=by
 have hd:∀l:LI,Yq S (Xb l)=yz (.tuple (l.map Vaz)):=λl=>by simp only[Yq,Xb,Xav,Xvg,V4]
 have h1:∀l:LI,(PyData.tuple (l.map Vaz)).canLay0=true:=λl=>by simp only[Vfe,Xvh]
 have h2:(PyData.tuple (l.map Vaz)).depth<=60:=by simp only[Ve9,Xvi];omega
 have J:Vb6 (.tuple (l.map Vaz)) (.tuple (w.map Vaz))=decide (l=w):=by simp only[Vb6,Xep]
 have hs:Xb1 (Xb l) (Xb w)=none:=rfl;have B:eqD S (Xb l) (Xb w)=yz (decide (l=w)):=by simp only[eqD,hs,hd,h1,J,decide_eq_true h2,Vdr,if_true]
 simp only[Xj,X7,B]
theorem Xzu(l w:LI)(S:Sto):Xj .ne (Xb l) (Xb w) S=.ok (.bl (!decide (l=w))) S:=by
 have h:=Xzt l w S;simp only[Xj,X7]at h ⊢;cases e:eqD S (Xb l) (Xb w) with
 |none=>rw[e]at h;cases h|some b=>rw[e]at h;simp only[R.ok.injEq,D.bl.injEq,and_true]at h;subst h;rfl
section
variable{F:Fn}{G:LD}
noncomputable def Xd0(i1:Nat)(a b:Str):Df:=⟨2,2,.cons (.ite (.not (.call i1 (.cons (.var 0) (.cons (.cst (.int 0)) (.cons (.glb 0) .nil))))) (.cons (.rse 8 (.cst (.str a))) .nil) .nil) (.cons (.ite (.not (.call i1 (.cons (.var 1) (.cons (.cst (.int 1)) (.cons (.glb 1) .nil))))) (.cons (.rse 8 (.cst (.str b))) .nil) .nil) .nil)⟩
variable{i1:Nat}{d e:D}{x y:Str}{g1 g2:Int}{S:Sto}
theorem X34(h0:G[0]?=yz (.int g1))(h:F i1 [d,.int 0,.int g1] S=.ok (.bl yw) S):den F G (Xd0 i1 x y) [d,e] S=.ex (la S) (S++[.exc 8]):=by simp only[den,Xd0,V8,if_true,Uk,Vi,Va7,Ud];rw[Xch (n:=la S) (S1:=S++[.exc 8]) (Xjk (by simp only[ev,evs,gZ0,Rk0,h0,h,Xh];rfl))]
theorem X35(h0:G[0]?=yz (.int g1))(h1:G[1]?=yz (.int g2))(h:F i1 [d,.int 0,.int g1] S=.ok (.bl yx) S)(h':F i1 [e,.int 1,.int g2] S=.ok (.bl yw) S):den F G (Xd0 i1 x y) [d,e] S=.ex (la S) (S++[.exc 8]):=by simp only[den,Xd0,V8,if_true,Uk,Vi,Va7,Ud];rw[Xc (e:=[yz d,yz e]) (S1:=S) (Xas (by simp only[ev,evs,gZ0,Rk0,h0,h,Xh];rfl))];rw[Xch (n:=la S) (S1:=S++[.exc 8]) (Xjk (by simp only[ev,evs,gZ0,gS0,Rk0,h1,h',Xh];rfl))]
theorem Xzv(h0:G[0]?=yz (.int g1))(h1:G[1]?=yz (.int g2))(h:F i1 [d,.int 0,.int g1] S=.ok (.bl yx) S)(h':F i1 [e,.int 1,.int g2] S=.ok (.bl yx) S):den F G (Xd0 i1 x y) [d,e] S=.ok .non S:=by simp only[den,Xd0,V8,if_true,Uk,Vi,Va7,Ud];rw[Xc (e:=[yz d,yz e]) (S1:=S) (Xas (by simp only[ev,evs,gZ0,Rk0,h0,h,Xh];rfl))];rw[Xc (e:=[yz d,yz e]) (S1:=S) (Xas (by simp only[ev,evs,gZ0,gS0,Rk0,h1,h',Xh];rfl))];simp only[pb]
theorem Xzw(h:F ic [d,e] S=.ex n S1):den F G (Xfc ic im iw) [d,e] S=.ex n S1:=by simp only[den,Xfc,V8,if_true,Uk,Vi];rw[Xch (n:=n) (S1:=S1) (by simp only[exe,ev,evs,Vah,Uz,gZ0,gS0,Rk0,h,R.bind_ex])]
end
noncomputable def Xr(g:Nat->Nat->Nat):Nat->LI->Nat
 |_,[]=>0|0,_::_=>0|k+1,x::r=>g x.toNat (k+1)+Xr g k r
noncomputable def gU(a k:Nat):Nat:=C a (k+1)
noncomputable def gL(a k:Nat):Nat:=C a (k-1)
noncomputable def gB(a k:Nat):Nat:=C (a+1) (k+1)
section
variable{F:Fn}{G:LD}
noncomputable def Xdl(iw:Nat):Df:=⟨2,2,.cons (.ret (.cmr yw 3 (.cons (.tup [3,4]) (.enm (.cons (.call iw (.cons (.var 0) (.cons (.var 1) .nil))) .nil)) .nil .nil) (.tup (.cons (.var 4) (.cons (.bin .sub (.var 1) (.var 3)) .nil))))) .nil⟩
noncomputable def Y7(w:LI)(s:Int)(i:Nat):D:=.tup [.int (w.getD i 0),.int (s-i)]
theorem Xzx(x y:D)(S:Sto):(if [x,y].length<=big then R.ok (D.tup [x,y]) S else R.bad)=R.ok (D.tup [x,y]) S:=iP0 (by show 2<=big;decide)
theorem Xpw(h:F iw [.int n,.int s] S=.ok (Xb w) S1)(Y:(la w)<=12):
  den F G (Xdl iw) [.int n,.int s] S=.ok (.ref (la S1)) (S1++[.lst ((Vm w.length).map (Y7 w s))]):=by
 have B:evit F G (.enm (.cons (.call iw (.cons (.var 0) (.cons (.var 1) .nil))) .nil)) [yz (.int n),yz (.int s)] S=.ok (.enm (.con (w.map D.int))) S1:=by simp only[evit,evs,ev,gZ0,gS0,Rk0,h,Xb,Yw]
 obtain⟨U,S',a,b⟩:=Xby (n:=3) (elt:=.tup (.cons (.var 4) (.cons (.bin .sub (.var 1) (.var 3)) .nil))) (t:=.tup [3,4]) ((Vm w.length).map λ(i:Nat)=>D.tup [.int (i:Int),.int (w.getD i 0)]) (Y7 w s) (λi e S=>S=S1/\∃p q r,e=[yz (.int n),yz (.int s),p,q,r]) B
  (by simp[Src.most]) (by rw[Vn,Us];exact Xap (by omega)) ⟨rfl,yy,yy,yy,rfl⟩
  (λi e S L=>by
   rw[X33];congr 1;simp only[Vx,List.getElem?_range'];by_cases q:i<la w;·simp[q,List.getD]
   ·simp[q])
  (λi d e S hd L=>by
   obtain⟨rfl,p,q,r,rfl⟩:=L;have hi:i<la w:=by have:=(Vh.mp hd).1;simpa using this
   have J:d=D.tup [.int (i:Int),.int (w.getD i 0)]:=by simp only[Vx,Vb1 hi,V4,Vp]at hd;exact hd.symm
   subst J;refine⟨[yz (.int n),yz (.int s),p,yz (.int i),yz (.int (w.getD i 0))],S,rfl,?_,rfl,p,_,_,rfl⟩;simp only[ev,evs,gZ0,gS0,Rk0,Yp,Xzx,Y7])
 obtain⟨rfl,_⟩:=b;simp only[den,Xdl,V8,if_true,Uk,Vi,Va7,Ud];simp only[Vn,Us]at a;rw[Xp (d:=.ref (la S')) (S1:=S'++[.lst ((Vm w.length).map (Y7 w s))]) (by simp only[exe,a,Rk0])]
noncomputable def Xc2(B:Nat)(elt:Ex):Df:=⟨2,2,.cons (.ret (.blt .smB (.cons (.cmr yw 3 (.cons (.tup [3,4]) (.val (.call B (.cons (.var 0) (.cons (.var 1) .nil)))) .nil .nil) elt) .nil))) .nil⟩
theorem Xoj{q:Nat}{l:LI}(h:Xa S q=yz (l.map D.int)):Xx .smB [.ref q] S=.ok (.int l.sum) S:=by
 have:∀l:LI,Xi (l.map D.int)=yz l:=λl=>by
  induction l with
  |nil=>rfl|cons x r ih=>simp only[Uk,Xi,ih,V4]
 simp only[Xx,Xs,h,V1,this]
theorem Xd1(g:Nat->Nat->Nat):∀(s:Nat) (w:LI),la w<=s->(((Vm w.length).map λi=>((g (w.getD i 0).toNat (s-i):Nat):Int)).sum)=(Xr g s w:Nat)
 |s,[]=>λ_=>by
  have e:Xr g s []=0:=by cases s<;>rfl
  rw[e];rfl|0,_::_=>λh=>by simp at h|s+1,x::r=>λh=>by
  have ih:=Xd1 g s r (by simp only[U6]at h;omega);rw[U6,Vfo,Uh,List.sum_cons,Vdl];simp only[Xr];have e:(Vm r.length).map ((λi=>((g ((x::r).getD i 0).toNat (s+1-i):Nat):Int))∘Nat.succ)=(Vm r.length).map λi=>((g (r.getD i 0).toNat (s-i):Nat):Int):=by
   refine Vgj λi _=>?_;simp only[Veq,List.getD_cons_succ];have:s+1-i.succ=s-i:=by omega
   rw[this]
  rw[e,ih];simp only[List.getD_cons_zero,Vf4];omega
theorem Xvj{B:Nat}{g:Nat->Nat->Nat}{n s:Nat}{w:LI}(h:F B [.int n,.int s] S=.ok (.ref (la S1)) (S1++[.lst ((Vm w.length).map (Y7 w s))]))(hl:(la w)<=s)(hs:s<=12)
  (he:∀(x c:Nat) (a b d:Option D) (S:Sto),(x:Int)∈w->1<=c->c<=s->ev F G elt [a,b,d,yz (.int x),yz (.int c)] S=.ok (.int (g x c:Nat)) S) (hw:∀x∈w,0<=x):
  ∃X,den F G (Xc2 B elt) [.int n,.int s] S=.ok (.int (Xr g s w:Nat)) (S1++X):=by
 have J:evit F G (.val (.call B (.cons (.var 0) (.cons (.var 1) .nil)))) [yz (.int n),yz (.int s)] S=.ok (.ref (la S1)) (S1++[.lst ((Vm w.length).map (Y7 w s))]):=by simp only[evit,evs,ev,gZ0,gS0,Rk0,h,Yw,Xf,V4]
 obtain⟨e',S',a,b⟩:=Xby (n:=3) (elt:=elt) (t:=.tup [3,4]) ((Vm w.length).map (Y7 w s)) (λi=>.int ((g (w.getD i 0).toNat (s-i):Nat):Int)) (λi e S=>S=S1++[.lst ((Vm w.length).map (Y7 w s))]/\∃p q r,e=[yz (.int n),yz (.int s),p,q,r]) J
  (by simp only[Src.most,Xf,Vb8]) (by rw[Vn,Us];exact Xap (by omega)) ⟨rfl,yy,yy,yy,rfl⟩
  (λi e S U=>by obtain⟨rfl,_⟩:=U;simp only[Src.get,Xf,V4])
  (λi d e S hd U=>by
   obtain⟨rfl,p,q,r,rfl⟩:=U;have hi:i<la w:=by have:=(Vh.mp hd).1;simpa using this
   have L:d=Y7 w s i:=by simp only[Vx,Vb1 hi,V4,Vp]at hd;exact hd.symm
   subst L;refine⟨[yz (.int n),yz (.int s),p,yz (.int (w.getD i 0)),yz (.int ((s:Int)-i))],_,rfl,?_,rfl,p,_,_,rfl⟩;have hm:w.getD i 0∈w:=by
    have:w.getD i 0=w[i]:=by simp[List.getD,hi]
    rw[this];exact Vej hi
   have hx:=hw _ hm;have Y:((w.getD i 0).toNat:Int)=w.getD i 0:=by omega
   have e2:(s:Int)-i=((s-i:Nat):Int):=by omega
   have q1:=he (w.getD i 0).toNat (s-i) (yz (.int n)) (yz (.int s)) p (S1++[.lst ((Vm w.length).map (Y7 w s))]) (by rw[Y];exact hm) (by omega) (by omega)
   rw[Y]at q1;rw[e2];exact q1)
 obtain⟨rfl,_⟩:=b;refine⟨[.lst ((Vm w.length).map (Y7 w s))]++[.lst ((Vm ((Vm w.length).map (Y7 w s)).length).map λi=>D.int ((g (w.getD i 0).toNat (s-i):Nat):Int))],?_⟩;simp only[den,Xc2,V8,if_true,Uk,Vi,Va7,Ud];rw[<-V2];have q:=Xoj (S:=S1++[.lst ((Vm w.length).map (Y7 w s))]++[.lst ((Vm ((Vm w.length).map (Y7 w s)).length).map λi=>D.int ((g (w.getD i 0).toNat (s-i):Nat):Int))]) (q:=(S1++[O.lst ((Vm w.length).map (Y7 w s))]).length) (l:=(Vm w.length).map λi=>((g (w.getD i 0).toNat (s-i):Nat):Int)) (by rw[Xf,Vn,Us,Vdl];rfl);rw[Xd1 g s w hl]at q;rw[Xp (d:=.int (Xr g s w:Nat)) (S1:=S1++[.lst ((Vm w.length).map (Y7 w s))]++[.lst ((Vm ((Vm w.length).map (Y7 w s)).length).map λi=>D.int ((g (w.getD i 0).toNat (s-i):Nat):Int))]) (by rw[exe,ev,evs,a,Rk0,evs,Rk0,Rk0,q,Rk0])]
theorem X6g{iw:Nat}(J:Ym F iw){x c:Nat}{a b d:Option D}(B:x<=10000000000000)(L:c<=12):ev F G (.call iw (.cons (.var 3) (.cons (.bin .add (.var 4) (.cst (.int 1))) .nil))) [a,b,d,yz (.int x),yz (.int c)] S=.ok (.int (gU x c:Nat)) S:=by
 have e:(c:Int)+1=((c+1:Nat):Int):=by omega
 simp only[ev,evs,gZ0,gS0,Rk0,Xu,e,J x (c+1) S B (by omega),gU]
theorem X6h{iw:Nat}(L:Ym F iw){x c:Nat}{a b d:Option D}(B:x<=10000000000000)(J:1<=c)(U:c<=12):ev F G (.call iw (.cons (.var 3) (.cons (.bin .sub (.var 4) (.cst (.int 1))) .nil))) [a,b,d,yz (.int x),yz (.int c)] S=.ok (.int (gL x c:Nat)) S:=by
 have e:(c:Int)-1=((c-1:Nat):Int):=by omega
 simp only[ev,evs,gZ0,gS0,Rk0,Yp,e,L x (c-1) S B (by omega),gL]
theorem X6i{iw:Nat}(L:Ym F iw){x c:Nat}{a b d:Option D}(J:x+1<=10000000000000)(U:c<=12):ev F G (.call iw (.cons (.bin .add (.var 3) (.cst (.int 1))) (.cons (.bin .add (.var 4) (.cst (.int 1))) .nil))) [a,b,d,yz (.int x),yz (.int c)] S=.ok (.int (gB x c:Nat)) S:=by
 have e:(c:Int)+1=((c+1:Nat):Int):=by omega
 have B:(x:Int)+1=((x+1:Nat):Int):=by omega
 simp only[ev,evs,gZ0,gS0,Rk0,Xu,e,B,L (x+1) (c+1) S J (by omega),gB]
theorem Xzy{p q:Nat}{l:LI}(h1:Xa S p=yz (l.map D.int))(h2:Xa S q=yz (l.map D.int)):Xj .ne (.ref p) (.ref q) S=.ok (.bl yw) S:=by
 have B:∀n,Xa S n=yz (l.map D.int)->Yq S (.ref n)=yz (.list (l.map Vaz)):=λn hn=>by show Xbq S 4 n=_;rw[Xbq,Xcv hn];dsimp only;rw[Xvg,V4]
 have U:(PyData.list (l.map Vaz)).canLay0=true:=by simp only[Vfe,Xvh]
 have J:(PyData.list (l.map Vaz)).depth<=60:=by simp only[Ve9,Xvi];omega
 have L:Vb6 (.list (l.map Vaz)) (.list (l.map Vaz))=true:=by simp only[Vb6,Xep,decide_true]
 have hs:Xb1 (.ref p) (.ref q)=none:=rfl;simp only[Xj,X7,eqD,hs,B p h1,B q h2,U,L,decide_eq_true J,Vdr,if_true,V4,Va4]
theorem LWaysF.ways(h:LWaysF F il):Ym F il:=λn m S hn B=>h n m S (Vcz hn (by decide)) B
noncomputable def lrT:Ex:=.cmp .gt (.bin .sub (.var 6) (.var 5)) (.cst (.int 1))
noncomputable def lrB(iw:Nat):Sts:=.cons (.asg (.var 7) (.bin .fdiv (.bin .add (.var 5) (.var 6)) (.cst (.int 2)))) (.cons (.ite (.cmp .le (.call iw (.cons (.var 7) (.cons (.var 4) .nil))) (.var 3)) (.cons (.asg (.var 5) (.var 7)) .nil) (.cons (.asg (.var 6) (.var 7)) .nil)) .nil)
noncomputable def Xd2(F:Fn)(G:LD)(c:Ex):En->Sto->R Bool:=λenv S=>(ev F G c env S).bind λx S=>match Xh S x with
 |some r=>.ok r S|none=>.bad
theorem Xsh:Xd2 F G lrT [a0,a1,a2,a3,a4,yz (.int lw),yz (.int hi),x] S=.ok (decide (1<hi-lw)) S:=by unfold Xd2;simp only[lrT,ev,gZ0,gS0,Rk0,Yp,Xj,X7,Xh]
theorem Xzz{iw:Nat}(U:Ym F iw){a0 a1 a2 x:Option D}{n k lw hi:Nat}(Y:k<=12)(h:(lw+hi)/2<=10000000000000):
  pb F G (lrB iw) [a0,a1,a2,yz (.int n),yz (.int k),yz (.int lw),yz (.int hi),x] S=.ok (.nx (if C ((lw+hi)/2) k<=n then [a0,a1,a2,yz (.int n),yz (.int k),yz (.int ((lw+hi)/2:Nat)),yz (.int hi),yz (.int ((lw+hi)/2:Nat))] else [a0,a1,a2,yz (.int n),yz (.int k),yz (.int lw),yz (.int ((lw+hi)/2:Nat)),yz (.int ((lw+hi)/2:Nat))])) S:=by
 have e:((lw:Int)+hi)/2=((lw+hi)/2:Nat):=by omega
 have J:=Xz (i:=7) (F:=F) (G:=G) (e:=.bin .fdiv (.bin .add (.var 5) (.var 6)) (.cst (.int 2))) (env:=[a0,a1,a2,yz (.int n),yz (.int k),yz (.int lw),yz (.int hi),x]) (S:=S) (d:=.int ((lw+hi)/2:Nat)) (S':=S) (by simp only[ev,gZ0,gS0,Rk0,Xu,Xct d2,e]);generalize (lw+hi)/2=m at J h;have L:=U m k S h (by omega);have B:ev F G (.cmp .le (.call iw (.cons (.var 7) (.cons (.var 4) .nil))) (.var 3)) [a0,a1,a2,yz (.int n),yz (.int k),yz (.int lw),yz (.int hi),yz (.int m)] S=.ok (.bl (decide ((C m k:Int)<=n))) S:=by simp only[ev,evs,gZ0,gS0,Rk0,L,Xj,X7]
 unfold lrB;rw[Xc J];by_cases q:C m k<=n;·have hd:decide ((C m k:Int)<=n)=true:=decide_eq_true (by omega);rw[hd]at B;rw[iP0 q];rw[Xc (e:=[a0,a1,a2,yz (.int n),yz (.int k),yz (.int m),yz (.int hi),yz (.int m)]) (S1:=S) (by show exe F G _ [a0,a1,a2,yz (.int n),yz (.int k),yz (.int lw),yz (.int hi),yz (.int m)] S=_;rw[exe,B,Rk0];simp only[Xh,pb,exe,ev,gZ0,gS0,Rk0,Xn,Vaw])];rw[pb]
 ·have hd:decide ((C m k:Int)<=n)=false:=decide_eq_false (by omega);rw[hd]at B;rw[iN0 q];rw[Xc (e:=[a0,a1,a2,yz (.int n),yz (.int k),yz (.int lw),yz (.int m),yz (.int m)]) (S1:=S) (by show exe F G _ [a0,a1,a2,yz (.int n),yz (.int k),yz (.int lw),yz (.int hi),yz (.int m)] S=_;rw[exe,B,Rk0];simp only[Xh,pb,exe,ev,gZ0,gS0,Rk0,Xn,Vaw])];rw[pb]
theorem Xic{iw:Nat}(hw:Ym F iw){a0 a1 a2:Option D}{n k:Nat}(hk:k<=12):∀(j B lw hi:Nat) (x:Option D),hi-lw<=2^j->j<B->lw<hi->k<=lw->hi<=5000000000000->C lw k<=n->n<C hi k ->
  ∃m h L,Yj (Xd2 F G lrT) (λenv S=>pb F G (lrB iw) env S) B [a0,a1,a2,yz (.int n),yz (.int k),yz (.int lw),yz (.int hi),x] S=.ok (.nx [a0,a1,a2,yz (.int n),yz (.int k),yz (.int (m:Nat)),h,L]) S/\Most n k m
 |j,0=>λlw hi x h1 h2 h3 h4 h5 Y h7=>by omega|j,B+1=>λlw hi x h1 h2 h3 h4 h5 Y h7=>by
  by_cases q:hi=lw+1;·subst q;have J:=Xsh (F:=F) (G:=G) (a0:=a0) (a1:=a1) (a2:=a2) (a3:=yz (.int n)) (a4:=yz (.int k)) (lw:=lw) (hi:=(lw+1:Nat)) (x:=x) (S:=S);have hd:decide ((1:Int)<((lw+1:Nat):Int)-lw)=false:=decide_eq_false (by omega);rw[hd]at J;refine⟨lw,yz (.int (lw+1:Nat)),x,?_,h4,Y,h7⟩;simp only[Yj,J]
  ·have J:=Xsh (F:=F) (G:=G) (a0:=a0) (a1:=a1) (a2:=a2) (a3:=yz (.int n)) (a4:=yz (.int k)) (lw:=lw) (hi:=hi) (x:=x) (S:=S);have hd:decide ((1:Int)<(hi:Int)-lw)=true:=decide_eq_true (by omega);rw[hd]at J;have U:=Xzz (G:=G) hw (a0:=a0) (a1:=a1) (a2:=a2) (n:=n) (k:=k) (lw:=lw) (hi:=hi) (x:=x) (S:=S) hk (by omega);obtain⟨j,rfl⟩:∃i,j=i+1:=by
    cases j with
    |zero=>simp at h1;omega|succ j=>exact⟨j,rfl⟩
   rw[Ve0]at h1;by_cases c:C ((lw+hi)/2) k<=n;·rw[iP0 c]at U;obtain⟨m,h,L,r1,r2⟩:=Xic hw hk j B ((lw+hi)/2) hi (yz (.int ((lw+hi)/2:Nat))) (by omega) (by omega) (by omega) (by omega) h5 c h7;exact⟨m,h,L,by simp only[Yj,J,U];exact r1,r2⟩
   ·rw[iN0 c]at U;obtain⟨m,h,L,r1,r2⟩:=Xic hw hk j B lw ((lw+hi)/2) (yz (.int ((lw+hi)/2:Nat))) (by omega) (by omega) (by omega) h4 (by omega) Y (by omega);exact⟨m,h,L,by simp only[Yj,J,U];exact r1,r2⟩
theorem Xvk{iw:Nat}(hw:Ym F iw){a0 a1 a2 x:Option D}{n k:Nat}(aa:1<=k)(hk:k<=12)(B:1<=n)(hn:n<=1000000000000):
  ∃m h J,exe F G (.whl lrT (lrB iw)) [a0,a1,a2,yz (.int n),yz (.int k),yz (.int k),yz (.int (k+n:Nat)),x] S=.ok (.nx [a0,a1,a2,yz (.int n),yz (.int k),yz (.int (m:Nat)),h,J]) S/\Most n k m:=by
 have L:n<C (k+n) k:=by obtain⟨U,rfl⟩:∃U,k=U+1:=⟨k-1,by omega⟩;have:=Xia U n;omega
 obtain⟨m,h,J,Y,r2⟩:=Xic (G:=G) hw (a0:=a0) (a1:=a1) (a2:=a2) (n:=n) (k:=k) (S:=S) hk 41 100000 k (k+n) x (by have ab:(2:Nat)^41=2199023255552:=(by decide);omega) (by omega) (by omega) (Vl _) (by omega) (by rw[Xdk];exact B) L;exact⟨m,h,J,by rw[exe];exact Y,r2⟩
noncomputable def lrO:Ex:=.cmp .gt (.var 3) (.cst (.int 0))
noncomputable def lrW(iw:Nat):Sts:=.cons (.asg (.var 4) (.bin .sub (.var 1) (.blt .len (.cons (.var 2) .nil)))) (.cons (.par [5,6] (.cons (.var 4) (.cons (.bin .add (.var 4) (.var 3)) .nil))) (.cons (.whl lrT (lrB iw)) (.cons (.expr (.mth .append (.var 2) (.cons (.var 5) .nil))) (.cons (.asg (.var 3) (.bin .sub (.var 3) (.call iw (.cons (.var 5) (.cons (.var 4) .nil))))) .nil))))
noncomputable def Xl5(iw:Nat):Df:=⟨2,8,.cons (.par [2,3] (.cons (.lst .nil) (.cons (.var 0) .nil))) (.cons (.whl lrO (lrW iw)) (.cons (.ret (.blt .tuple (.cons (.var 2) .nil))) .nil))⟩
theorem Xz0:Xd2 F G lrO [a0,a1,a2,yz (.int r),a4,a5,a6,a7] S=.ok (decide (0<r)) S:=by unfold Xd2;simp only[lrO,ev,gZ0,gS0,Rk0,Xj,X7,Xh]
theorem Xfd(h:Xa S q=yz xs):Xx .len [.ref q] S=.ok (.int (la xs)) S:=by simp only[Xx,Xs,h]
theorem Xz1{iw:Nat}(hw:Ym F iw){a0 a4 a5 a6 a7:Option D}{r k q s:Nat}{acc:LD}(ac:1<=k)(hk:k<=12)(aa:1<=r)(hr:r<=1000000000000)(U:Xa S q=yz acc)(hs:s=k+la acc)(hl:(la acc)<100):
  ∃m h B,Most r k m/\pb F G (lrW iw) [a0,yz (.int s),yz (.ref q),yz (.int r),a4,a5,a6,a7] S=.ok (.nx [a0,yz (.int s),yz (.ref q),yz (.int ((r-C m k:Nat):Int)),yz (.int k),yz (.int m),h,B]) (S.set q (.lst (acc++[.int m]))):=by
 have s1:exe F G (.asg (.var 4) (.bin .sub (.var 1) (.blt .len (.cons (.var 2) .nil)))) [a0,yz (.int s),yz (.ref q),yz (.int r),a4,a5,a6,a7] S=.ok (.nx [a0,yz (.int s),yz (.ref q),yz (.int r),yz (.int k),a5,a6,a7]) S:=Xz (by
  have e:(s:Int)-(la acc:Int)=(k:Int):=by omega
  simp only[ev,evs,gZ0,gS0,Rk0,Xfd U,Yp,e])
 have s2:exe F G (.par [5,6] (.cons (.var 4) (.cons (.bin .add (.var 4) (.var 3)) .nil))) [a0,yz (.int s),yz (.ref q),yz (.int r),yz (.int k),a5,a6,a7] S=.ok (.nx [a0,yz (.int s),yz (.ref q),yz (.int r),yz (.int k),yz (.int k),yz (.int (k+r:Nat)),a7]) S:=by
  have e:(k:Int)+(r:Int)=((k+r:Nat):Int):=by omega
  rw[exe];simp only[evs,ev,gZ0,gS0,Rk0,Xu,e];rfl
 obtain⟨m,h,B,s3,h2⟩:=Xvk (F:=F) (G:=G) hw (a0:=a0) (a1:=yz (.int s)) (a2:=yz (.ref q)) (x:=a7) (n:=r) (k:=k) (S:=S) ac hk aa hr;refine⟨m,h,B,h2,?_⟩;have ab:m<=10000000000000:=by obtain⟨a1,a2,a3⟩:=h2;obtain⟨J,rfl⟩:∃J,k=J+1:=⟨k-1,by omega⟩;obtain⟨j,rfl⟩:∃j,m=J+1+j:=⟨m-(J+1),by omega⟩;have:=Xia J j;omega
 have L:=Xod (x:=.int m) U (by omega);have ae:Xa4 .append (.ref q) S=true:=by simp only[Xa4,U,Vdy]
 have s4:exe F G (.expr (.mth .append (.var 2) (.cons (.var 5) .nil))) [a0,yz (.int s),yz (.ref q),yz (.int r),yz (.int k),yz (.int m),h,B] S=.ok (.nx [a0,yz (.int s),yz (.ref q),yz (.int r),yz (.int k),yz (.int m),h,B]) (S.set q (.lst (acc++[.int m]))):=by simp only[exe,ev,evs,gZ0,gS0,Rk0,ae,if_true,L]
 have Y:=hw m k (S.set q (.lst (acc++[.int m]))) ab (by omega)
 have s5:exe F G (.asg (.var 3) (.bin .sub (.var 3) (.call iw (.cons (.var 5) (.cons (.var 4) .nil))))) [a0,yz (.int s),yz (.ref q),yz (.int r),yz (.int k),yz (.int m),h,B] (S.set q (.lst (acc++[.int m])))=.ok (.nx [a0,yz (.int s),yz (.ref q),yz (.int ((r-C m k:Nat):Int)),yz (.int k),yz (.int m),h,B]) (S.set q (.lst (acc++[.int m]))):=Xz (by
  have e:(r:Int)-(C m k:Int)=((r-C m k:Nat):Int):=by have:=h2.2.1;omega
  simp only[ev,evs,gZ0,gS0,Rk0,Y,Yp,e])
 unfold lrW;exact(Xc s1).trans ((Xc s2).trans ((Xc s3).trans ((Xc s4).trans ((Xc s5).trans (by simp only[pb])))))
theorem Xl6(hw:Ym F iw)(hs:s<=12):∀(k B r:Nat) (x4 x5 x6 x7:Option D) (S:Sto) (acc:LD),s=k+la acc->k<B->r<=1000000000000->Xa S q=yz acc->(k=0->r=0) ->
  ∃w e,Yj (Xd2 F G lrO) (λenv S=>pb F G (lrW iw) env S) B [a0,yz (.int s),yz (.ref q),yz (.int r),x4,x5,x6,x7] S=.ok (.nx e) (S.set q (.lst (acc++w.map D.int)))/\Wr k r w/\e[2]?=yz (yz (.ref q))
 |k,0=>λr x4 x5 x6 x7 S acc h1 h2 h3 U h6=>by omega|k,B+1=>λr x4 x5 x6 x7 S acc h1 h2 h3 U h6=>by
  have L:=Xz0 (F:=F) (G:=G) (a0:=a0) (a1:=yz (.int s)) (a2:=yz (.ref q)) (a4:=x4) (a5:=x5) (a6:=x6) (a7:=x7) (r:=r) (S:=S);by_cases hr:r=0
  ·subst hr;have hd:decide ((0:Int)<((0:Nat):Int))=false:=by decide
   rw[hd]at L;refine⟨[],[a0,yz (.int s),yz (.ref q),yz (.int ((0:Nat):Int)),x4,x5,x6,x7],?_,?_,rfl⟩
   ·have e:S.set q (.lst (acc++([]:LI).map D.int))=S:=by
     obtain⟨Y,hv⟩:=Vh.mp (Xcv U);rw[Vdi,Ud,<-hv];exact Vfz Y
    rw[e];simp only[Yj,L]
   cases k with
   |zero=>exact⟨rfl,rfl⟩|succ k=>exact .inl ⟨rfl,rfl⟩
  obtain⟨k,rfl⟩:∃k',k=k'+1:=⟨k-1,by
   cases k with
   |zero=>exact aB0 (h6 rfl) hr
   |succ k=>omega⟩
  have hd:decide ((0:Int)<(r:Int))=true:=decide_eq_true (by omega);rw[hd]at L;obtain⟨m,h,x',m1,m2⟩:=Xz1 (G:=G) hw (a0:=a0) (a4:=x4) (a5:=x5) (a6:=x6) (a7:=x7) (r:=r) (k:=k+1) (q:=q) (s:=s) (S:=S) (acc:=acc) (by omega) (by omega) (by omega) h3 U h1 (by omega);have J:k=0->r-C m (k+1)=0:=λz=>by subst z;obtain⟨a1,a2,a3⟩:=m1;rw[Vbo,Xj5]at a2 ⊢;rw[Vbo,Xj5]at a3;omega
  obtain⟨w,e,r1,r2,r3⟩:=Xl6 hw hs k B (r-C m (k+1)) (yz (.int ((k+1:Nat):Int))) (yz (.int m)) h x' (S.set q (.lst (acc++[.int m]))) (acc++[.int m]) (by simp;omega) (by omega) (by omega) (Xa2 (Xay U)) J;refine⟨(m:Int)::w,e,?_,.inr ⟨m,w,rfl,by omega,m1,r2⟩,r3⟩;rw[List.set_set,V2]at r1;simp only[Yj,L,m2];exact r1
theorem Xsi{iw n s:Nat}(hw:Ym F iw)(aa:1<=s)(hs:s<=12)(hn:n<=1000000000000):∃w,den F G (Xl5 iw) [.int n,.int s] S=.ok (Xb w) (S++[.lst (w.map D.int)])/\Wr s n w:=by
 obtain⟨w,e,B,r2,r3⟩:=Xl6 (F:=F) (G:=G) hw (a0:=yz (.int n)) (s:=s) (q:=la S) hs s 100000 n yy yy yy yy (S++[.lst []]) [] (by simp) (by omega) hn Xf (λz=>by omega);have L:(S++[O.lst []]).set (la S) (.lst ([]++w.map D.int))=S++[.lst (w.map D.int)]:=by rw[Vf0 _ _ (Vl _),Va7,Uz];rfl
 rw[L]at B;refine⟨w,?_,r2⟩;have nb:ev F G (.lst .nil) [yz (.int n),yz (.int s),yy,yy,yy,yy,yy,yy] S=.ok (.ref (la S)) (S++[.lst []]):=by simp only[ev,evs,Rk0];exact iP0 (by decide)
 have J:exe F G (.par [2,3] (.cons (.lst .nil) (.cons (.var 0) .nil))) [yz (.int n),yz (.int s),yy,yy,yy,yy,yy,yy] S=.ok (.nx [yz (.int n),yz (.int s),yz (.ref (la S)),yz (.int n),yy,yy,yy,yy]) (S++[.lst []]):=by rw[exe,evs,nb,Rk0];simp only[evs,ev,gZ0,Rk0];rfl
 have U:exe F G (.whl lrO (lrW iw)) [yz (.int n),yz (.int s),yz (.ref (la S)),yz (.int n),yy,yy,yy,yy] (S++[.lst []])=.ok (.nx e) (S++[.lst (w.map D.int)]):=by rw[exe];exact B
 have Y:exe F G (.ret (.blt .tuple (.cons (.var 2) .nil))) e (S++[.lst (w.map D.int)])=.ok (.rt (Xb w)) (S++[.lst (w.map D.int)]):=by simp only[exe,ev,evs,r3,Rk0,Xx,Xs,Xf,Xb]
 simp only[den,Xl5,V8,if_true,Uk,Vi];have q:pb F G (.cons (.par [2,3] (.cons (.lst .nil) (.cons (.var 0) .nil))) (.cons (.whl lrO (lrW iw)) (.cons (.ret (.blt .tuple (.cons (.var 2) .nil))) .nil))) ([yz (.int n),yz (.int s)]++[yy,yy,yy,yy,yy,yy]) S=.ok (.rt (Xb w)) (S++[.lst (w.map D.int)]):=
  (Xc J).trans ((Xc U).trans (Xp Y))
 rw[q]
noncomputable def Xg0(w:LI)(i:Nat):D:=.tup [.int i,.int (w.getD i 0)]
theorem Xg1:∀(w:LI) (n:Nat),Yd n (w.map D.int)=(Vm w.length).map λi=>D.tup [.int (n+i:Nat),.int (w.getD i 0)]
 |[]=>λn=>rfl|x::r=>λn=>by
  rw[Uh,Yd,Xg1 r (n+1),U6,Vfo,Uh,Vdl];simp only[Ve1,List.getD_cons_zero];congr 1;refine Vgj λi _=>?_;simp only[Veq,List.getD_cons_succ];have:n+1+i=n+i.succ:=by omega
  rw[this]
theorem Xsj(w:LI):Yd 0 (w.map D.int)=(Vm w.length).map (Xg0 w):=by rw[Xg1];refine Vgj λi _=>?_;rw[Vbo];rfl
theorem Xok(B:Xa S q=yz (Yd 0 (w.map D.int)))(hl:(la w)<=s)(hs:s<=12)
  (he:∀(x i:Nat) (p:Option D),(x:Int)∈w->i<s->ev F G elt [a0,a1,a2,yz (.ref q),p,yz (.int i),yz (.int x)] S=.ok (.int (g x (s-i):Nat)) S) (hw:∀x∈w,0<=x):
  ∃X,ev F G (.blt .smB (.cons (.cmr yw 3 (.cons (.tup [5,6]) (.val (.var 3)) .nil .nil) elt) .nil)) [a0,a1,a2,yz (.ref q)] S=.ok (.int (Xr g s w:Nat)) (S++X):=by
 rw[Xsj]at B;have J:evit F G (.val (.var 3)) [a0,a1,a2,yz (.ref q)] S=.ok (.ref q) S:=by simp only[evit,ev,gZ0,gS0,Rk0,Yw,B,V4]
 obtain⟨e',S',a,b⟩:=Xby (n:=3) (elt:=elt) (t:=.tup [5,6]) ((Vm w.length).map (Xg0 w)) (λi=>.int ((g (w.getD i 0).toNat (s-i):Nat):Int)) (λi e S'=>S'=S/\∃p x y,e=[a0,a1,a2,yz (.ref q),p,x,y]) J
  (by simp only[Src.most,B,Vb8]) (by rw[Vn,Us];exact Xap (by omega)) ⟨rfl,yy,yy,yy,rfl⟩
  (λi e S U=>by obtain⟨rfl,_⟩:=U;simp only[Src.get,B,V4])
  (λi d e S hd U=>by
   obtain⟨rfl,p,x,y,rfl⟩:=U;have hi:i<la w:=by have:=(Vh.mp hd).1;simpa using this
   have L:d=Xg0 w i:=by simp only[Vx,Vb1 hi,V4,Vp]at hd;exact hd.symm
   subst L;refine⟨[a0,a1,a2,yz (.ref q),p,yz (.int i),yz (.int (w.getD i 0))],S,rfl,?_,rfl,p,_,_,rfl⟩;have hm:w.getD i 0∈w:=by
    have:w.getD i 0=w[i]:=by simp[List.getD,hi]
    rw[this];exact Vej hi
   have hx:=hw _ hm;have Y:((w.getD i 0).toNat:Int)=w.getD i 0:=by omega
   have q1:=he (w.getD i 0).toNat i p (by rw[Y];exact hm) (by omega)
   rw[Y]at q1;exact q1)
 obtain⟨rfl,_⟩:=b;refine⟨[.lst ((Vm ((Vm w.length).map (Xg0 w)).length).map λi=>D.int ((g (w.getD i 0).toNat (s-i):Nat):Int))],?_⟩;have qs:=Xoj (S:=S'++[.lst ((Vm ((Vm w.length).map (Xg0 w)).length).map λi=>D.int ((g (w.getD i 0).toNat (s-i):Nat):Int))]) (q:=la S') (l:=(Vm w.length).map λi=>((g (w.getD i 0).toNat (s-i):Nat):Int)) (by rw[Xf,Vn,Us,Vdl];rfl);rw[Xd1 g s w hl]at qs;rw[ev,evs,a,Rk0,evs,Rk0,Rk0,qs]
noncomputable def Xid(il:Nat):Ex:=.call il (.cons (.var 6) (.cons (.bin .sub (.bin .sub (.var 2) (.var 5)) (.cst (.int 1))) .nil))
noncomputable def Xge(il:Nat):Ex:=.call il (.cons (.bin .add (.var 6) (.blt .itB (.cons (.cmp .eq (.var 0) (.cst (.int 2))) .nil))) (.cons (.bin .add (.bin .sub (.var 2) (.var 5)) (.cst (.int 1))) .nil))
noncomputable def nxS(e:Ex):Ex:=.blt .smB (.cons (.cmr yw 3 (.cons (.tup [5,6]) (.val (.var 3)) .nil .nil) e) .nil)
noncomputable def Xj9(il iw:Nat):Df:=⟨3,4,.cons (.asg (.var 3) (.lenm (.call iw (.cons (.var 1) (.cons (.var 2) .nil))))) (.cons (.ite (.cmp .eq (.var 0) (.cst (.int 1))) (.cons (.ret (nxS (Xid il))) .nil) .nil) (.cons (.ret (nxS (Xge il))) .nil))⟩
noncomputable def gK(kd:Nat):Nat->Nat->Nat:=if kd=1 then gL else if kd=2 then gB else gU
theorem X36{il kd:Nat}(U:Ym F il)(Y:kd=0\/kd=2){a1 p a3:Option D}{x i s:Nat}(hx:x<=9000000000000)(hi:i<s)(hs:s<=12):
  ev F G (Xge il) [yz (.int kd),a1,yz (.int s),a3,p,yz (.int i),yz (.int x)] S=.ok (.int (gK kd x (s-i):Nat)) S:=by
 have L:(s:Int)-(i:Int)+1=((s-i+1:Nat):Int):=by omega
 rcases Y with rfl|rfl
 ·have B:(x:Int)+0=((x:Nat):Int):=by omega
  have J:(((0:Nat):Int)==2)=false:=by decide
  simp only[Xge,ev,evs,gZ0,gS0,Rk0,Xcu,J,Xx,i2,Vv,if_false,Xu,Yp,L,B,U x (s-i+1) S (by omega) (by omega)];rfl
 ·have B:(x:Int)+1=((x+1:Nat):Int):=by omega
  have J:(((2:Nat):Int)==2)=true:=by decide
  simp only[Xge,ev,evs,gZ0,gS0,Rk0,Xcu,J,Xx,i2,if_true,Xu,Yp,L,B,U (x+1) (s-i+1) S (by omega) (by omega)];rfl
theorem X37{il:Nat}(J:Ym F il){a0 a1 p a3:Option D}{x i s:Nat}(L:x<=9000000000000)(hi:i<s)(hs:s<=12):
  ev F G (Xid il) [a0,a1,yz (.int s),a3,p,yz (.int i),yz (.int x)] S=.ok (.int (gK 1 x (s-i):Nat)) S:=by
 have B:(s:Int)-(i:Int)-1=((s-i-1:Nat):Int):=by omega
 simp only[Xid,ev,evs,gZ0,gS0,Rk0,Yp,B,J x (s-i-1) S (by omega) (by omega)];rfl
theorem Xz2(h:F iw [.int n,.int s] S=.ok (Xb w) S1):ev F G (.lenm (.call iw (.cons (.var 1) (.cons (.var 2) .nil)))) [yz a0,yz (.int n),yz (.int s),a3] S=.ok (.ref (la S1)) (S1++[.lst (Yd 0 (w.map D.int))]):=by simp only[ev,evs,gZ0,gS0,Rk0,h,Xb,Xs]
theorem Xvl{il iw kd n s:Nat}{w:LI}(hw:Ym F il)(h:F iw [.int n,.int s] S=.ok (Xb w) S1)(J:Wr s n w)(hn:n<=1000000000000)(hk:kd<=2)(hs:s<=12):
  ∃X,den F G (Xj9 il iw) [.int kd,.int n,.int s] S=.ok (.int (Xr (gK kd) s w:Nat)) (S1++X):=by
 have hl:=Xsb J;have hb:=Xj6 J;have B:∀x:Nat,(x:Int)∈w->x<=9000000000000:=λx B=>by have:=(hb _ B).2;omega
 have s1:exe F G (.asg (.var 3) (.lenm (.call iw (.cons (.var 1) (.cons (.var 2) .nil))))) [yz (.int kd),yz (.int n),yz (.int s),yy] S=.ok (.nx [yz (.int kd),yz (.int n),yz (.int s),yz (.ref (la S1))]) (S1++[.lst (Yd 0 (w.map D.int))]):=Xz (Xz2 h);have hq:Xa (S1++[O.lst (Yd 0 (w.map D.int))]) (la S1)=yz (Yd 0 (w.map D.int)):=Xf;by_cases c:kd=1
 ·subst c;obtain⟨X,e⟩:=Xok (F:=F) (G:=G) (elt:=Xid il) (g:=gK 1) (a0:=yz (.int ((1:Nat):Int))) (a1:=yz (.int n)) (a2:=yz (.int s)) hq hl hs (λx i p U hi=>X37 hw (B x U) hi hs) λx B=>(hb x B).1;have L:ev F G (.cmp .eq (.var 0) (.cst (.int 1))) [yz (.int ((1:Nat):Int)),yz (.int n),yz (.int s),yz (.ref (la S1))] (S1++[.lst (Yd 0 (w.map D.int))])=.ok (.bl yx) (S1++[.lst (Yd 0 (w.map D.int))]):=by
   simp only[ev,gZ0,Rk0,Xcu];rfl
  refine⟨[.lst (Yd 0 (w.map D.int))]++X,?_⟩;simp only[den,Xj9,V8,if_true,Uk,Vi];have q:pb F G (.cons (.asg (.var 3) (.lenm (.call iw (.cons (.var 1) (.cons (.var 2) .nil))))) (.cons (.ite (.cmp .eq (.var 0) (.cst (.int 1))) (.cons (.ret (nxS (Xid il))) .nil) .nil) (.cons (.ret (nxS (Xge il))) .nil))) ([yz (.int ((1:Nat):Int)),yz (.int n),yz (.int s)]++[yy]) S=.ok (.rt (.int (Xr (gK 1) s w:Nat))) (S1++[.lst (Yd 0 (w.map D.int))]++X):=
   (Xc s1).trans (Xp (by rw[exe,L,Rk0];simp only[Xh,pb,exe,nxS];rw[e];rfl))
  rw[q,V2]
 ·have c2:kd=0\/kd=2:=by omega
  obtain⟨X,e⟩:=Xok (F:=F) (G:=G) (elt:=Xge il) (g:=gK kd) (a0:=yz (.int kd)) (a1:=yz (.int n)) (a2:=yz (.int s)) hq hl hs (λx i p U hi=>X36 hw c2 (B x U) hi hs) λx B=>(hb x B).1;have Y:((kd:Int)==1)=false:=by
   have:(kd:Int)≠1:=by omega
   simpa using this
  have L:ev F G (.cmp .eq (.var 0) (.cst (.int 1))) [yz (.int kd),yz (.int n),yz (.int s),yz (.ref (la S1))] (S1++[.lst (Yd 0 (w.map D.int))])=.ok (.bl yw) (S1++[.lst (Yd 0 (w.map D.int))]):=by simp only[ev,gZ0,Rk0,Xcu,Y]
  refine⟨[.lst (Yd 0 (w.map D.int))]++X,?_⟩;simp only[den,Xj9,V8,if_true,Uk,Vi];have q:pb F G (.cons (.asg (.var 3) (.lenm (.call iw (.cons (.var 1) (.cons (.var 2) .nil))))) (.cons (.ite (.cmp .eq (.var 0) (.cst (.int 1))) (.cons (.ret (nxS (Xid il))) .nil) .nil) (.cons (.ret (nxS (Xge il))) .nil))) ([yz (.int kd),yz (.int n),yz (.int s)]++[yy]) S=.ok (.rt (.int (Xr (gK kd) s w:Nat))) (S1++[.lst (Yd 0 (w.map D.int))]++X):=
   (Xc s1).trans ((Xc (Xas L)).trans (Xp (by rw[exe];unfold nxS;rw[e];rfl)))
  rw[q,V2]
end
noncomputable def wri(s n:Nat):LI:=open Classical in if h:∃w,Wr s n w then h.choose else []
noncomputable def abv(g:Nat->Nat->Nat)(s n:Nat):Nat:=Xr g s (wri s n)
section
variable{F:Fn}{G:LD}
def Xka(F:Fn)(f kd:Nat):Prop:=∀(n s:Nat) (S:Sto),n<=1000000000000->1<=s->s<=11->∃X,F f [.int kd,.int n,.int s] S=.ok (.int (abv (gK kd) s n:Nat)) (S++X)
theorem Xbz(h0:(la ds)=d.np)(B:ds.map yz++Vi (d.nl-d.np) yy=env)(h:pb F G d.body env S=.ok (.rt r) S'):den F G d ds S=.ok r S':=by subst B;unfold den;rw[iP0 h0,h]
noncomputable def e12:Int:=10^(12:Int).toNat
theorem Xvm(S:Sto):Xw .pow (.int 10) (.int 12) S=.ok (.int e12) S:=Xcj (by decide+kernel) S
end
theorem Xol:∀(k:Nat) (l:LI),(∀x∈l,∀j≤k,g x.toNat j<=B)->Xr g k l<=k*B
 |k,[]=>λ_=>by
  have e:Xr g k []=0:=by cases k<;>rfl
  rw[e];exact Ug _|0,_::_=>λ_=>Ug _|k+1,x::r=>λh=>by have ih:=Xol k r (λy J j L=>h y (Ua _ J) j (by omega));have h1:=h x (U9 ..) (k+1) (Vl _);simp only[Xr];rw[Nat.succ_mul];omega
section
variable{q:Nat}{S X:Sto}{l:LI}
variable{F:Fn}{G:LD}
variable{t:Tg}{it:It}{ifs:Exs}{elt:Ex}{env:En}{n:Nat}
theorem X38{w:D->LD}{xs:LD}{i:Nat}{d:D}(h:xs[i]?=yz d):((xs.take (i+1)).map w).flatten=((xs.take i).map w).flatten++w d:=by rw[Vdf,h];simp
theorem Xwt{w:D->LD}(B:∀d,(w d).length<=1):∀l:LD,((l.map w).flatten).length<=la l
 |[]=>Vl _|d::l=>by have:=Xwt B l;have:=B d;simp only[Uh,Va3,Ur,U6];omega
noncomputable def Xsk:D->LD
 |.tup xs=>xs|_=>[]
theorem Xsl(l:LI):Xi (l.map D.int)=yz l:=Xfo l
noncomputable def Xsm(d:D):LI:=(Xi (Xsk d)).getD []
theorem ints_of(l:LI):Xsm (Xb l)=l:=by have:Xsk (Xb l)=l.map D.int:=rfl;unfold Xsm;rw[this,Xsl];rfl
theorem Xom{xs:LD}{get:Sto->Nat->Option (Option D)}{body:En->LD->Sto->R (LD)}(w:D->LD)(B:LD)(P:En->Prop)(L:∀X i,get (S++X) i=yz xs[i]?)
  (step:∀i d e X,xs[i]?=yz d->P e->∃Y U,Xn t d e=yz Y/\P Y/\body Y (B++((xs.take i).map w).flatten) (S++X)=.ok (B++((xs.take i).map w).flatten++w d) (S++U)):
  ∀(J i:Nat) (e:En) (X:Sto),P e->i<=la xs->la xs<J+i->∃U,Yi get t body J i e (B++((xs.take i).map w).flatten) (S++X)=.ok (B++(xs.map w).flatten) (S++U)
 |0=>λi e X h h1 h2=>by omega|J+1=>λi e X h h1 h2=>by
  cases q:xs[i]? with
  |none=>
   have hi:i=la xs:=by have:=Uu.mp q;omega
   refine⟨X,?_⟩;simp only[Yi,L,q];rw[hi,Vca]|some d=>obtain⟨Y,X1,a1,a2,a3⟩:=step i d e X q h;have hi:i<la xs:=(Vh.mp q).1;obtain⟨U,b2⟩:=Xom w B P L step J (i+1) Y X1 a2 (by omega) (by omega);refine⟨U,?_⟩;simp only[Yi,L,q,a1,a3];rw[X38 q,<-V2]at b2;exact b2
theorem Xz3{src:Src}{xs:LD}(b:D->Bool)(y:D->D)(P:En->Prop)(U:evit F G it env S=.ok src S)(hm:src.most S=la xs)(J:∀X i,src.get (S++X) i=yz xs[i]?)(hb:(la xs)<=big)(h0:P (env++Vi n yy))
  (step:∀d∈xs,∀e X,P e->∃L Y,Xn t d e=yz L/\P L/\evts F G ifs L (S++X)=.ok (b d) (S++Y)/\(b d=yx->∃X2,ev F G elt L (S++Y)=.ok (y d) (S++X2))):
  ∃X,ev F G (.cmr yw n (.cons t it ifs .nil) elt) env S=.ok (.ref (S++X).length) (S++X++[.lst ((xs.filter b).map y)]):=by
 have hw:∀d,(if b d then [y d] else []:LD).length<=1:=λd=>by split<;>simp
 obtain⟨X',a⟩:=Xom (S:=S) (xs:=xs) (t:=t) (get:=src.get) (body:=Yu (λenv S=>evts F G ifs env S) (λenv B S=>(ev F G elt env S).bind λy S=>if (la B)<big then .ok (B++[y]) S else .bad)) (λd=>if b d then [y d] else []) [] P J
  (λi d e X hd hP=>by
   obtain⟨L,Y,a1,a2,a3,a4⟩:=step d (V6 hd) e X hP;have hi:i<la xs:=(Vh.mp hd).1;have hl:=Xwt hw (xs.take i);rw[Vag]at hl;cases c:b d with
   |false=>refine⟨L,Y,a1,a2,?_⟩;simp only[Yu,a3,c,Rk0,Uz];simp
   |true=>obtain⟨X2,a5⟩:=a4 c;refine⟨L,X2,a1,a2,?_⟩;simp only[Yu,a3,c,Rk0,Uz,if_true,a5];rw[iP0 (by omega)]) (la xs+1) 0 _ [] h0 (Ug _) (by omega)
 refine⟨X',?_⟩;simp only[ev,U,Rk0,hm];rw[Ud]at a;have a':Yi src.get t (Yu (λenv S=>evts F G ifs env S) (λenv B S=>(ev F G elt env S).bind λy S=>if (la B)<big then .ok (B++[y]) S else .bad)) (la xs+1) 0 (env++Vi n yy) [] S=.ok (xs.map λd=>if b d then [y d] else []).flatten (S++X'):=a;have e:(xs.map λd=>if b d then [y d] else []).flatten=(xs.filter b).map y:=by
  clear a a' h0 step hb hm U J;induction xs with
  |nil=>rfl|cons d xs ih=>simp only[Uh,Va3,ih,List.filter_cons];split<;>simp
 rw[a',e];simp only[Rk0];rfl
end
end Z
end
section
namespace K33
open PySem PySem.Spec PyProof.Rows L2 Z
noncomputable def top(i:Nat):Stmt:=PySem.Challenge.pw_facecounts_k33_above_and_below.main.body.getD i (.Pass ⟨0,0,0,0⟩)
noncomputable def gns:LS:=["GREATEST_NUMBER","MOST_CHOSEN","most_above","least_below","bags_above"]
noncomputable def G:LD:=[.int 1000000000000,.int 12,.fn 3 "most_above",.fn 4 "least_below",.fn 5 "bags_above"]
noncomputable def fns:LF:=[("is_whole",1,yx),("is_whole_within",3,yx),("writing",2,yx),("most_above",2,yx),("least_below",2,yx),("bags_above",2,yx),("check_written",2,yx),("ways",2,yx),("most_things",2,yx),("written_parts",2,yx),("_law_cell_at",2,yx),("_law_pot",1,yx),("_law_take",2,yx),("_law_word",1,yw),("_law_ways",2,yx),("_law_writing",2,yx),("_law_next_by",3,yx),("_law_choices",3,yx),("_law_first_ones",3,yx),("_law_less_one",1,yx),("_law_said",3,yx),("_law_on",2,yx),("_law_few_right",1,yx),("law",1,yx)]
noncomputable def Xpx:Sts:=(.cons (.ret (.and (.isi (.var 0) [.int]) (.not (.isi (.var 0) [.bool]))))
  .nil)
noncomputable def Xg2:Df:=⟨1,1,Xpx⟩
noncomputable def Xpy:LS:=["thing"]
noncomputable def Xff:Sts:=(.cons (.ret (.and (.call 0 (.cons (.var 0) .nil)) (.chn .le .le (.var 1) (.var 0) (.var 2))))
  .nil)
noncomputable def Xb6:Df:=⟨3,3,Xff⟩
noncomputable def Xfg:LS:=["thing","low","high"]
noncomputable def Xsn:Sts:=(.cons (.expr (.call 6 (.cons (.var 0) (.cons (.var 1) .nil))))
  (.cons (.asg (.var 2) (.lst .nil))
  (.cons (.asg (.var 3) (.var 0))
  (.cons (.for (.var 4) (.rng (.cons (.var 1) (.cons (.cst (.int 0)) (.cons (.neg (.cst (.int 1))) .nil)))) (.cons (.ite (.cmp .eq (.var 3) (.cst (.int 0))) (.cons .brk
  .nil) .nil)
  (.cons (.asg (.var 5) (.call 8 (.cons (.var 3) (.cons (.var 4) .nil))))
  (.cons (.expr (.mth .append (.var 2) (.cons (.var 5) .nil)))
  (.cons (.aug 3 .sub (.call 7 (.cons (.var 5) (.cons (.var 4) .nil))))
  .nil)))))
  (.cons (.ret (.blt .tuple (.cons (.var 2) .nil)))
  .nil)))))
noncomputable def Xjm:Df:=⟨2,6,Xsn⟩
noncomputable def Xso:LS:=["number","size","told","rest","chosen","things"]
noncomputable def Xl7:Sts:=(.cons (.ret (.blt .smB (.cons (.cmr yw 3 (.cons (.tup [3,4]) (.val (.call 9 (.cons (.var 0) (.cons (.var 1) .nil)))) .nil .nil) (.call 7 (.cons (.var 3) (.cons (.bin .add (.var 4) (.cst (.int 1))) .nil)))) .nil)))
  .nil)
noncomputable def Xeq:Df:=⟨2,2,Xl7⟩
noncomputable def Xl8:LS:=["number","size"]
noncomputable def Xjp:Sts:=(.cons (.ret (.blt .smB (.cons (.cmr yw 3 (.cons (.tup [3,4]) (.val (.call 9 (.cons (.var 0) (.cons (.var 1) .nil)))) .nil .nil) (.call 7 (.cons (.var 3) (.cons (.bin .sub (.var 4) (.cst (.int 1))) .nil)))) .nil)))
  .nil)
noncomputable def Xd5:Df:=⟨2,2,Xjp⟩
noncomputable def Xjq:LS:=["number","size"]
noncomputable def Xl9:Sts:=(.cons (.ret (.blt .smB (.cons (.cmr yw 3 (.cons (.tup [3,4]) (.val (.call 9 (.cons (.var 0) (.cons (.var 1) .nil)))) .nil .nil) (.call 7 (.cons (.bin .add (.var 3) (.cst (.int 1))) (.cons (.bin .add (.var 4) (.cst (.int 1))) .nil)))) .nil)))
  .nil)
noncomputable def Xer:Df:=⟨2,2,Xl9⟩
noncomputable def Xma:LS:=["number","size"]
noncomputable def Xg3:Sts:=(.cons (.ite (.not (.call 1 (.cons (.var 0) (.cons (.cst (.int 0)) (.cons (.glb 0) .nil))))) (.cons (.rse 8 (.cst (.str "a number from 0 to 10 ** 12 is due")))
  .nil) .nil)
  (.cons (.ite (.not (.call 1 (.cons (.var 1) (.cons (.cst (.int 1)) (.cons (.glb 1) .nil))))) (.cons (.rse 8 (.cst (.str "a size from 1 to 12 is due")))
  .nil) .nil)
  .nil))
noncomputable def Xc3:Df:=⟨2,2,Xg3⟩
noncomputable def Xg4:LS:=["number","size"]
noncomputable def X39:Sts:=(.cons (.asg (.var 2) (.cst (.int 1)))
  (.cons (.for (.var 3) (.rng (.cons (.var 1) .nil)) (.cons (.asg (.var 2) (.bin .fdiv (.bin .mul (.var 2) (.bin .sub (.var 0) (.var 3))) (.bin .add (.var 3) (.cst (.int 1)))))
  .nil))
  (.cons (.ret (.var 2))
  .nil)))
noncomputable def Xsp:Df:=⟨2,4,X39⟩
noncomputable def X4a:LS:=["things","number","told","at"]
noncomputable def Xjr:Sts:=(.cons (.asg (.var 2) (.var 1))
  (.cons (.asg (.var 3) (.bin .add (.var 1) (.var 0)))
  (.cons (.whl (.cmp .gt (.bin .sub (.var 3) (.var 2)) (.cst (.int 1))) (.cons (.asg (.var 4) (.bin .fdiv (.bin .add (.var 2) (.var 3)) (.cst (.int 2))))
  (.cons (.ite (.cmp .le (.call 7 (.cons (.var 4) (.cons (.var 1) .nil))) (.var 0)) (.cons (.asg (.var 2) (.var 4))
  .nil) (.cons (.asg (.var 3) (.var 4))
  .nil))
  .nil)))
  (.cons (.ret (.var 2))
  .nil))))
noncomputable def Xd6:Df:=⟨2,5,Xjr⟩
noncomputable def Xjs:LS:=["number","chosen","low","high","middle"]
noncomputable def Xg5:Sts:=(.cons (.ret (.cmr yw 3 (.cons (.tup [3,4]) (.enm (.cons (.call 2 (.cons (.var 0) (.cons (.var 1) .nil))) .nil)) .nil .nil) (.tup (.cons (.var 4) (.cons (.bin .sub (.var 1) (.var 3)) .nil)))))
  .nil)
noncomputable def Xc4:Df:=⟨2,2,Xg5⟩
noncomputable def Xg6:LS:=["number","size"]
noncomputable def Xie:Sts:=(.cons (.ite (.cmp .lt (.var 1) (.blt .len (.cons (.var 0) .nil))) (.cons (.ret (.idx (.var 0) (.var 1)))
  .nil) .nil)
  (.cons (.ret (.cst (.int 0)))
  .nil))
noncomputable def Xdm:Df:=⟨2,2,Xie⟩
noncomputable def Xif:LS:=["_law_script","_law_k"]
noncomputable def Xpz:Sts:=(.cons (.ite (.cmp .ge (.var 0) (.bin .pow (.cst (.int 10)) (.cst (.int 18)))) (.cons (.ret (.lst (.cons (.bin .sub (.var 0) (.bin .pow (.cst (.int 10)) (.cst (.int 18)))) .nil)))
  .nil) .nil)
  (.cons (.asg (.var 1) (.cst (.int 0)))
  (.cons (.for (.var 2) (.rng (.cons (.cst (.int 64)) .nil)) (.cons (.asg (.var 3) (.bin .mod (.bin .mul (.bin .add (.bin .add (.bin .mod (.var 0) (.cst (.int 2147483629))) (.bin .mul (.cst (.int 7919)) (.var 2))) (.cst (.int 1))) (.cst (.int 48271))) (.cst (.int 2147483647))))
  (.cons (.asg (.var 3) (.bin .mod (.bin .add (.bin .add (.bin .mul (.var 3) (.var 3)) (.bin .mul (.cst (.int 69621)) (.var 2))) (.cst (.int 7))) (.cst (.int 2147483587))))
  (.cons (.asg (.var 1) (.bin .add (.bin .mul (.var 1) (.cst (.int 2147483587))) (.var 3)))
  .nil))))
  (.cons (.ret (.lst (.cons (.var 1) .nil)))
  .nil))))
noncomputable def Xg7:Df:=⟨1,4,Xpz⟩
noncomputable def Xp0:LS:=["_law_cell","_law_number","_law_j","_law_more"]
noncomputable def Xmo:Sts:=(.cons (.asg (.var 2) (.bin .mod (.idx (.var 0) (.cst (.int 0))) (.var 1)))
  (.cons (.aset (.var 0) (.cst (.int 0)) (.bin .fdiv (.idx (.var 0) (.cst (.int 0))) (.var 1)))
  (.cons (.ret (.var 2))
  .nil)))
noncomputable def Xfp:Df:=⟨2,3,Xmo⟩
noncomputable def Xmp:LS:=["_law_pot_here","_law_far","_law_found"]
noncomputable def Xmq:Sts:=(.cons (.asg (.var 1) (.lst (.cons (.isi (.var 0) [.cls 1]) (.cons (.isi (.var 0) [.cls 2]) (.cons (.isi (.var 0) [.cls 3]) (.cons (.isi (.var 0) [.cls 4]) .nil))))))
  (.cons (.asg (.var 1) (.bin .add (.var 1) (.lst (.cons (.isi (.var 0) [.cls 5]) (.cons (.isi (.var 0) [.cls 6]) (.cons (.isi (.var 0) [.cls 7]) (.cons (.isi (.var 0) [.cls 8]) .nil)))))))
  (.cons (.asg (.var 1) (.bin .add (.var 1) (.lst (.cons (.isi (.var 0) [.cls 9]) (.cons (.isi (.var 0) [.cls 10]) (.cons (.isi (.var 0) [.cls 11]) (.cons (.isi (.var 0) [.cls 12]) .nil)))))))
  (.cons (.asg (.var 1) (.bin .add (.var 1) (.lst (.cons (.isi (.var 0) [.cls 13]) (.cons (.isi (.var 0) [.cls 14]) (.cons (.isi (.var 0) [.cls 15]) (.cons (.isi (.var 0) [.cls 16]) .nil)))))))
  (.cons (.ite (.or (.cmp .ne (.mth .count (.var 1) (.cons (.cst (.bl yx)) .nil)) (.cst (.int 1))) (.not (.isi (.var 0) [.valueError]))) (.cons (.ret (.cst (.str "other")))
  .nil) .nil)
  (.cons (.asg (.var 2) (.lst (.cons (.cst (.str "net")) (.cons (.cst (.str "face")) (.cons (.cst (.str "point")) (.cons (.cst (.str "apart")) (.cons (.cst (.str "many")) (.cons (.cst (.str "text")) (.cons (.cst (.str "row")) (.cons (.cst (.str "number")) (.cons (.cst (.str "level")) (.cons (.cst (.str "crowd")) (.cons (.cst (.str "way")) (.cons (.cst (.str "closed")) .nil))))))))))))))
  (.cons (.ret (.idx (.bin .add (.var 2) (.lst (.cons (.cst (.str "swap")) (.cons (.cst (.str "places")) (.cons (.cst (.str "deed")) (.cons (.cst (.str "line")) .nil)))))) (.mth .index (.var 1) (.cons (.cst (.bl yx)) .nil))))
  .nil)))))))
noncomputable def Xfq:Df:=⟨1,3,Xmq⟩
noncomputable def Xmr:LS:=["_law_e","_law_some","_law_words"]
noncomputable def Xms:Sts:=(.cons (.ite (.cmp .gt (.var 1) (.var 0)) (.cons (.ret (.cst (.int 0)))
  .nil) .nil)
  (.cons (.asg (.tup [3,4]) (.tup (.cons (.cst (.int 1)) (.cons (.cst (.int 1)) .nil))))
  (.cons (.for (.var 2) (.rng (.cons (.var 1) .nil)) (.cons (.asg (.var 3) (.bin .mul (.var 3) (.bin .sub (.var 0) (.var 2))))
  (.cons (.asg (.var 4) (.bin .mul (.var 4) (.bin .add (.var 2) (.cst (.int 1)))))
  .nil)))
  (.cons (.ret (.bin .fdiv (.var 3) (.var 4)))
  .nil))))
noncomputable def Xfr:Df:=⟨2,5,Xms⟩
noncomputable def Xmt:LS:=["_law_things","_law_number","_law_at","_law_top","_law_bottom"]
noncomputable def Xig:Sts:=(.cons (.par [2,3] (.cons (.lst .nil) (.cons (.var 0) .nil)))
  (.cons (.whl (.cmp .gt (.var 3) (.cst (.int 0))) (.cons (.asg (.var 4) (.bin .sub (.var 1) (.blt .len (.cons (.var 2) .nil))))
  (.cons (.par [5,6] (.cons (.var 4) (.cons (.bin .add (.var 4) (.var 3)) .nil)))
  (.cons (.whl (.cmp .gt (.bin .sub (.var 6) (.var 5)) (.cst (.int 1))) (.cons (.asg (.var 7) (.bin .fdiv (.bin .add (.var 5) (.var 6)) (.cst (.int 2))))
  (.cons (.ite (.cmp .le (.call 14 (.cons (.var 7) (.cons (.var 4) .nil))) (.var 3)) (.cons (.asg (.var 5) (.var 7))
  .nil) (.cons (.asg (.var 6) (.var 7))
  .nil))
  .nil)))
  (.cons (.expr (.mth .append (.var 2) (.cons (.var 5) .nil)))
  (.cons (.asg (.var 3) (.bin .sub (.var 3) (.call 14 (.cons (.var 5) (.cons (.var 4) .nil)))))
  .nil))))))
  (.cons (.ret (.blt .tuple (.cons (.var 2) .nil)))
  .nil)))
noncomputable def Xdn:Df:=⟨2,8,Xig⟩
noncomputable def Xih:LS:=["_law_number","_law_size","_law_found","_law_left","_law_at","_law_low","_law_high","_law_middle"]
noncomputable def Xii:Sts:=(.cons (.asg (.var 3) (.lenm (.call 15 (.cons (.var 1) (.cons (.var 2) .nil)))))
  (.cons (.ite (.cmp .eq (.var 0) (.cst (.int 1))) (.cons (.ret (.blt .smB (.cons (.cmr yw 3 (.cons (.tup [5,6]) (.val (.var 3)) .nil .nil) (.call 14 (.cons (.var 6) (.cons (.bin .sub (.bin .sub (.var 2) (.var 5)) (.cst (.int 1))) .nil)))) .nil)))
  .nil) .nil)
  (.cons (.ret (.blt .smB (.cons (.cmr yw 3 (.cons (.tup [5,6]) (.val (.var 3)) .nil .nil) (.call 14 (.cons (.bin .add (.var 6) (.blt .itB (.cons (.cmp .eq (.var 0) (.cst (.int 2))) .nil))) (.cons (.bin .add (.bin .sub (.var 2) (.var 5)) (.cst (.int 1))) .nil)))) .nil)))
  .nil)))
noncomputable def Xdo:Df:=⟨3,4,Xii⟩
noncomputable def Xij:LS:=["_law_kind","_law_number","_law_size","_law_some"]
noncomputable def Xik:Sts:=(.cons (.asg (.var 3) (.lst (.cons (.tup .nil) .nil)))
  (.cons (.for (.var 4) (.rng (.cons (.var 1) .nil)) (.cons (.asg (.var 5) (.lst .nil))
  (.cons (.for (.var 6) (.val (.var 3)) (.cons (.asg (.var 7) (.ite (.cmp .ne (.var 6) (.tup .nil)) (.bin .sub (.bin .add (.idx (.var 6) (.neg (.cst (.int 1)))) (.cst (.int 1))) (.var 2)) (.cst (.int 0))))
  (.cons (.expr (.mth .xtd (.var 5) (.cons (.cmr yw 2 (.cons (.var 9) (.rng (.cons (.var 7) (.cons (.var 0) .nil))) .nil .nil) (.bin .add (.var 6) (.tup (.cons (.var 9) .nil)))) .nil)))
  .nil)))
  (.cons (.asg (.var 3) (.var 5))
  .nil))))
  (.cons (.ret (.var 3))
  .nil)))
noncomputable def Xaf:Df:=⟨3,8,Xik⟩
noncomputable def Xil:LS:=["_law_far","_law_size","_law_again","_law_found","_law_turn","_law_longer","_law_one","_law_least"]
noncomputable def Xfh:Sts:=(.cons (.asg (.var 3) (.cst (.int 0)))
  (.cons (.whl (.and (.cmp .gt (.var 1) (.cst (.int 0))) (.cmp .lt (.call 14 (.cons (.bin .add (.var 3) (.bin .mul (.bin .sub (.var 1) (.cst (.int 1))) (.var 2))) (.cons (.var 1) .nil))) (.var 0))) (.cons (.asg (.var 3) (.bin .add (.var 3) (.cst (.int 1))))
  .nil))
  (.cons (.rsk (.call 17 (.cons (.var 3) (.cons (.var 1) (.cons (.var 2) .nil)))) (.var 0))
  .nil)))
noncomputable def Yt:Df:=⟨3,5,Xfh⟩
noncomputable def Xfi:LS:=["_law_many","_law_size","_law_again","_law_far","_law_first_ones.<locals>.<lambda>"]
noncomputable def Xg8:Sts:=(.cons (.ret (.cmr yw 2 (.cons (.var 2) (.rng (.cons (.blt .len (.cons (.var 0) .nil)) .nil)) .nil .nil) (.bin .add (.sli (.var 0) .none (.some (.var 2))) (.sli (.var 0) (.some (.bin .add (.var 2) (.cst (.int 1)))) .none))))
  .nil)
noncomputable def Xbj:Df:=⟨1,1,Xg8⟩
noncomputable def Xg9:LS:=["_law_one"]
noncomputable def Xmu:Sts:=(.cons (.try (.cons (.ret (.cal (.idx (.lst (.cons (.glb 2) (.cons (.glb 3) (.cons (.glb 4) .nil)))) (.var 0)) (.cons (.var 1) (.cons (.var 2) .nil))))
  .nil) 0 3 (.cons (.ret (.call 13 (.cons (.var 3) .nil)))
  .nil))
  .nil)
noncomputable def Xbv:Df:=⟨3,4,Xmu⟩
noncomputable def Xmv:LS:=["_law_way","_law_number","_law_size","_law_e"]
noncomputable def Xsq:Sts:=(.cons (.asg (.var 2) (.dcl (.cmr yw 2 (.cons (.var 4) (.val (.var 0)) .nil .nil) (.tup (.cons (.var 4) (.cons (.cst (.bl yx)) .nil))))))
  (.cons (.ret (.cmr yw 2 (.cons (.var 4) (.val (.var 1)) (.cons (.blt .all (.cons (.cmr yw 2 (.cons (.var 6) (.val (.call 19 (.cons (.var 4) .nil))) .nil .nil) (.idc (.var 6) (.var 2))) .nil)) .nil) .nil) (.var 4)))
  .nil))
noncomputable def Xb0:Df:=⟨2,3,Xsq⟩
noncomputable def Xsr:LS:=["_law_some","_law_greater","_law_known"]
noncomputable def Xgf:Sts:=(.cons (.asg (.var 1) (.bin .add (.cst (.int 1)) (.call 12 (.cons (.var 0) (.cons (.cst (.int 3)) .nil)))))
  (.cons (.par [6,7] (.cons (.call 17 (.cons (.cst (.int 7)) (.cons (.var 1) (.cons (.cst (.int 0)) .nil)))) (.cons (.call 17 (.cons (.cst (.int 4)) (.cons (.var 1) (.cons (.cst (.int 1)) .nil)))) .nil)))
  (.cons (.asg (.tup [8,9]) (.tup (.cons (.call 12 (.cons (.var 0) (.cons (.bin .add (.blt .len (.cons (.var 6) .nil)) (.cst (.int 1))) .nil))) (.cons (.call 12 (.cons (.var 0) (.cons (.bin .add (.blt .len (.cons (.var 7) .nil)) (.cst (.int 1))) .nil))) .nil))))
  (.cons (.asg (.var 2) (.call 18 (.cons (.var 8) (.cons (.var 1) (.cons (.cst (.int 0)) .nil)))))
  (.cons (.asg (.var 3) (.lst .nil))
  (.cons (.for (.var 4) (.val (.var 2)) (.cons (.expr (.mth .xtd (.var 3) (.cons (.call 19 (.cons (.var 4) .nil)) .nil)))
  .nil))
  (.cons (.asg (.var 5) (.lst (.cons (.blt .len (.cons (.call 21 (.cons (.var 2) (.cons (.call 17 (.cons (.cst (.int 7)) (.cons (.bin .add (.var 1) (.cst (.int 1))) (.cons (.cst (.int 0)) .nil)))) .nil))) .nil)) (.cons (.lns (.var 3)) .nil))))
  (.cons (.ite (.cmp .ne (.cmr yw 2 (.cons (.var 11) (.rng (.cons (.cst (.int 2)) .nil)) .nil .nil) (.call 20 (.cons (.var 11) (.cons (.var 8) (.cons (.var 1) .nil))))) (.var 5)) (.cons (.ret (.cst (.bl yw)))
  .nil) .nil)
  (.cons (.asg (.var 2) (.call 18 (.cons (.var 9) (.cons (.var 1) (.cons (.cst (.int 1)) .nil)))))
  (.cons (.ret (.cmp .eq (.call 20 (.cons (.cst (.int 2)) (.cons (.var 9) (.cons (.var 1) .nil)))) (.blt .len (.cons (.call 21 (.cons (.var 2) (.cons (.call 17 (.cons (.cst (.int 4)) (.cons (.bin .add (.var 1) (.cst (.int 1))) (.cons (.cst (.int 1)) .nil)))) .nil))) .nil))))
  .nil))))))))))
noncomputable def Y5:Df:=⟨1,10,Xgf⟩
noncomputable def Xgg:LS:=["_law_pot_here","_law_size","_law_first","_law_below","_law_one","_law_due","_law_sets","_law_bags","_law_many","_law_more"]
noncomputable def Xp1:Sts:=(.cons (.for (.var 1) (.rng (.cons (.blt .max (.cons (.cst (.int 1)) (.cons (.blt .min (.cons (.blt .len (.cons (.var 0) .nil)) (.cons (.cst (.int 5)) .nil))) .nil))) .nil)) (.cons (.asg (.var 2) (.call 11 (.cons (.call 10 (.cons (.var 0) (.cons (.var 1) .nil))) .nil)))
  (.cons (.asg (.var 3) (.call 12 (.cons (.var 2) (.cons (.idx (.lst (.cons (.cst (.int 10)) (.cons (.cst (.int 1001)) (.cons (.bin .pow (.cst (.int 10)) (.cst (.int 6))) (.cons (.bin .add (.bin .pow (.cst (.int 10)) (.cst (.int 12))) (.cst (.int 1))) .nil))))) (.call 12 (.cons (.var 2) (.cons (.cst (.int 4)) .nil)))) .nil))))
  (.cons (.asg (.var 4) (.bin .add (.cst (.int 1)) (.call 12 (.cons (.var 2) (.cons (.cst (.int 12)) .nil)))))
  (.cons (.asg (.var 5) (.idx (.lst (.cons (.neg (.cst (.int 1))) (.cons (.bin .add (.bin .pow (.cst (.int 10)) (.cst (.int 12))) (.cst (.int 1))) (.cons (.cst (.bl yx)) (.cons (.cst .non) (.cons (.cst (.str "1")) (.cons (.tup (.cons (.cst (.int 1)) .nil)) (.cons (.lst (.cons (.cst (.int 1)) .nil)) (.cons (.bin .pow (.cst (.int 10)) (.cst (.int 59))) .nil))))))))) (.call 12 (.cons (.var 2) (.cons (.cst (.int 8)) .nil)))))
  (.cons (.asg (.var 6) (.idx (.lst (.cons (.cst (.int 0)) (.cons (.cst (.int 13)) (.cons (.neg (.cst (.int 1))) (.cons (.cst (.bl yw)) (.cons (.cst (.bl yx)) (.cons (.cst .non) (.cons (.cst (.str "1")) (.cons (.tup (.cons (.cst (.int 1)) .nil)) (.cons (.lst (.cons (.cst (.int 1)) .nil)) .nil)))))))))) (.call 12 (.cons (.var 2) (.cons (.cst (.int 9)) .nil)))))
  (.cons (.for (.var 7) (.rng (.cons (.cst (.int 3)) .nil)) (.cons (.ite (.cmp .ne (.blt .repr (.cons (.call 20 (.cons (.var 7) (.cons (.var 3) (.cons (.var 4) .nil)))) .nil)) (.blt .repr (.cons (.call 16 (.cons (.var 7) (.cons (.var 3) (.cons (.var 4) .nil)))) .nil))) (.cons (.ret (.cst (.bl yw)))
  .nil) .nil)
  (.cons (.asg (.var 8) (.lst (.cons (.call 20 (.cons (.var 7) (.cons (.var 5) (.cons (.var 4) .nil)))) (.cons (.call 20 (.cons (.var 7) (.cons (.var 3) (.cons (.var 6) .nil)))) (.cons (.call 20 (.cons (.var 7) (.cons (.var 5) (.cons (.var 6) .nil)))) .nil)))))
  (.cons (.ite (.or (.cmp .ne (.var 8) (.bin .mul (.lst (.cons (.cst (.str "number")) .nil)) (.cst (.int 3)))) (.cmp .ne (.blt .repr (.cons (.call 20 (.cons (.var 7) (.cons (.cst (.int 0)) (.cons (.var 4) .nil)))) .nil)) (.cst (.str "0")))) (.cons (.ret (.cst (.bl yw)))
  .nil) .nil)
  .nil))))
  (.cons (.ite (.not (.call 22 (.cons (.var 2) .nil))) (.cons (.ret (.cst (.bl yw)))
  .nil) .nil)
  .nil))))))))
  (.cons (.ret (.cst (.bl yx)))
  .nil))
noncomputable def Xha:Df:=⟨1,9,Xp1⟩
noncomputable def Xwu:LS:=["_law_script","_law_k","_law_pot_here","_law_number","_law_size","_law_odd","_law_low","_law_way","_law_told"]
noncomputable def T:List Df:=[Xg2,Xb6,Xjm,Xeq,Xd5,Xer,Xc3,Xsp,Xd6,Xc4,Xdm,Xg7,Xfp,Xfq,Xfr,Xdn,Xdo,Xaf,Yt,Xbj,Xbv,Xb0,Y5,Xha]
abbrev MS(p:Nat)(N:LS)(B:Bool)(d:Df):Prop:=Z.MD fns gns (top p) N B d
theorem Xp2:MS 19 Xpy yx Xg2:=by decide+kernel
theorem Xfj:MS 20 Xfg yx Xb6:=by decide+kernel
theorem Xss:MS 24 Xso yx Xjm:=by decide+kernel
theorem Xmb:MS 25 Xl8 yx Xeq:=by decide+kernel
theorem Xjt:MS 26 Xjq yx Xd5:=by decide+kernel
theorem Xmc:MS 27 Xma yx Xer:=by decide+kernel
theorem Xhb:MS 28 Xg4 yx Xc3:=by decide+kernel
theorem X4b:MS 29 X4a yx Xsp:=by decide+kernel
theorem Xju:MS 30 Xjs yx Xd6:=by decide+kernel
theorem Xhc:MS 31 Xg6 yx Xc4:=by decide+kernel
theorem Xim:MS 33 Xif yx Xdm:=by decide+kernel
theorem Xp3:MS 34 Xp0 yx Xg7:=by decide+kernel
theorem Xmw:MS 35 Xmp yx Xfp:=by decide+kernel
theorem Xmx:MS 36 Xmr yw Xfq:=by decide+kernel
theorem Xmy:MS 37 Xmt yx Xfr:=by decide+kernel
theorem Xin:MS 38 Xih yx Xdn:=by decide+kernel
theorem Xio:MS 39 Xij yx Xdo:=by decide+kernel
theorem Xip:MS 40 Xil yx Xaf:=by decide+kernel
theorem Xfk:MS 41 Xfi yx Yt:=by decide+kernel
theorem Xhd:MS 42 Xg9 yx Xbj:=by decide+kernel
theorem Xmz:MS 43 Xmv yx Xbv:=by decide+kernel
theorem Xst:MS 44 Xsr yx Xb0:=by decide+kernel
theorem Xgh:MS 45 Xgg yx Y5:=by decide+kernel
theorem Xp4:MS 46 Xwu yx Xha:=by decide+kernel
end K33
end
section
namespace K33
open PySem Z
theorem t0:T[0]?=yz Xgx:=rfl
theorem t1:T[1]?=yz (Xh9 0):=rfl
theorem t2:T[2]?=yz (Xfc 6 8 7):=rfl
theorem t3:T[3]?=yz (Xc2 9 (.call 7 (.cons (.var 3) (.cons (.bin .add (.var 4) (.cst (.int 1))) .nil)))):=rfl
theorem t4:T[4]?=yz (Xc2 9 (.call 7 (.cons (.var 3) (.cons (.bin .sub (.var 4) (.cst (.int 1))) .nil)))):=rfl
theorem t5:T[5]?=yz (Xc2 9 (.call 7 (.cons (.bin .add (.var 3) (.cst (.int 1))) (.cons (.bin .add (.var 4) (.cst (.int 1))) .nil)))):=rfl
theorem t6:T[6]?=yz (Xd0 1 "a number from 0 to 10 ** 12 is due" "a size from 1 to 12 is due"):=rfl
theorem t7:T[7]?=yz Xgy:=rfl
theorem t8:T[8]?=yz (Xj7 7):=rfl
theorem t9:T[9]?=yz (Xdl 2):=rfl
theorem t10:T[10]?=yz Xj1:=rfl
theorem t11:T[11]?=yz Xh8:=rfl
theorem t12:T[12]?=yz Xj2:=rfl
theorem t13:T[13]?=yz Xj3:=rfl
theorem t14:T[14]?=yz Xcx:=rfl
theorem t15:T[15]?=yz (Xl5 14):=rfl
theorem t16:T[16]?=yz (Xj9 14 15):=rfl
theorem g0:G[0]?=yz (.int 1000000000000):=rfl
theorem g1:G[1]?=yz (.int 12):=rfl
theorem ftx{k f:Nat}{d:Df}{ds:LD}{S:Sto}(h:T[f]?=yz d):FT T G (k+1) f ds S=den (FT T G k) G d ds S:=by simp only[FT,h]
theorem whole(k:Nat):Xr8 (FT T G (k+1)) 0:=Xr9 t0 k
theorem Xes(k:Nat)(d:D)(lo hi:Int)(S:Sto)(h:Xae S d):FT T G (k+2) 1 [d,.int lo,.int hi] S=.ok (.bl (wi d lo hi)) S:=by rw[ftx t1];exact Xpt (whole k d S h)
theorem X4c(k n s:Nat)(S:Sto)(hn:n<=1000000000000)(B:1<=s)(hs:s<=12):FT T G (k+3) 6 [.int n,.int s] S=.ok .non S:=by have h1:=Xes k (.int n) 0 1000000000000 S (Xan S n);have h2:=Xes k (.int s) 1 12 S (Xan S s);rw[Xr7 (by omega) (by omega)]at h1 h2;rw[ftx t6];exact Xzv g0 g1 h1 h2
theorem Xz4(k n s:Nat)(S:Sto)(hn:n<=1000000000000)(B:1<=s)(hs:s<=12):∃w,FT T G (k+4) 2 [.int n,.int s] S=.ok (Xb w) (S++[.lst (w.map D.int)])/\Wr s n w:=by rw[ftx t2];exact Xve (Xcw t7 (k+2)) (Xva t8 (Xcw t7 (k+1))) (X4c k n s S hn B hs) B hs hn
def X4d(F:Fn)(f:Nat)(g:Nat->Nat->Nat):Prop:=∀(n s:Nat) (S:Sto),n<=1000000000000->1<=s->s<=12->∃w X,Wr s n w/\F f [.int n,.int s] S=.ok (.int (Xr g s w:Nat)) (S++X)
theorem Xgi(k:Nat){f:Nat}{g:Nat->Nat->Nat}{elt:Ex}(hf:T[f]?=yz (Xc2 9 elt))
  (he:∀(x c:Nat) (a b d:Option D) (S:Sto),x<=9000000000000->1<=c->c<=12->ev (FT T G (k+5)) G elt [a,b,d,yz (.int x),yz (.int c)] S=.ok (.int (g x c:Nat)) S):X4d (FT T G (k+6)) f g:=by
 intro n s S hn h1 hs;obtain⟨w,e1,L⟩:=Xz4 k n s S hn h1 (by omega);have hl:=Xsb L;have U:=Xj6 L;have Y:FT T G (k+5) 9 [.int n,.int s] S=.ok (.ref (S++[O.lst (w.map D.int)]).length) (S++[.lst (w.map D.int)]++[.lst ((Vm w.length).map (Y7 w s))]):=by rw[ftx t9];exact Xpw e1 (by omega)
 obtain⟨X,e3⟩:=Xvj (G:=G) (elt:=elt) (g:=g) Y hl (by omega) (λx c a b d S B J hc=>he x c a b d S (by have:=(U _ B).2;omega) J (by omega)) λx B=>(U x B).1;refine⟨w,[.lst (w.map D.int)]++X,L,?_⟩;rw[ftx hf,e3,V2]
theorem X7n(k v:Nat)(hv:v<3):X4d (FT T G (k+6)) (3+v) (gK v):=by
 match v,hv with
 |0,_=>exact Xgi k t3 λx c a b d S J _ B=>X6g (Xcw t7 (k+4)) (by omega) B|1,_=>exact Xgi k t4 λx c a b d S J h1 B=>X6h (Xcw t7 (k+4)) (by omega) h1 B|2,_=>exact Xgi k t5 λx c a b d S J _ B=>X6i (Xcw t7 (k+4)) (by omega) B
theorem next(k v n s:Nat)(S:Sto)(hv:v<3)(hn:n<=1000000000000)(h1:1<=s)(hs:s<=12):∃w X,Wr s n w/\FT T G (k+3) 16 [.int v,.int n,.int s] S=.ok (.int (Xr (gK v) s w:Nat)) (S++X):=by obtain⟨w,B,J⟩:=Xsi (F:=FT T G (k+1)) (G:=G) (S:=S) (Xeo t14 k).ways h1 hs hn;rw[<-ftx t15]at B;obtain⟨X,e⟩:=Xvl (G:=G) (il:=14) (kd:=v) (Xeo t14 (k+1)).ways B J hn (by omega) hs;exact⟨w,[.lst (w.map D.int)]++X,J,by rw[ftx t16,e,V2]⟩
theorem X7o{S:Sto}{q i:Nat}{xs:LD}{d:D}(h:Xa S q=yz xs)(hd:xs[i]?=yz d):Xah (.ref q) (.int i) S=.ok d S:=by
 have hi:=(Vh.mp hd).1;have e:ixN (la xs) (i:Int)=yz i:=by unfold ixN;rw[iP0 (by omega),iP0 (by omega)];rfl
 simp only[Xah,Xat,Xs,h,V1,e,hd]
noncomputable def Xfe:Exs:=.cons (.glb 2) (.cons (.glb 3) (.cons (.glb 4) .nil))
noncomputable def Xd3:Sts:=.cons (.ret (.cal (.idx (.lst Xfe) (.var 0)) (.cons (.var 1) (.cons (.var 2) .nil)))) .nil
noncomputable def Yb:LD:=[.fn 3 "most_above",.fn 4 "least_below",.fn 5 "bags_above"]
theorem Xon:Xbv=⟨3,4,.cons (.try Xd3 0 3 (.cons (.ret (.call 13 (.cons (.var 3) .nil))) .nil)) .nil⟩:=rfl
theorem t20:T[20]?=yz Xbv:=rfl
theorem Xvn(v:Nat)(hv:v<3):∃nm,Yb[v]?=yz (.fn (3+v) nm)/\Xa6 (3+v) nm G=true:=by
 match v,hv with
 |0,_=>exact⟨"most_above",rfl,rfl⟩|1,_=>exact⟨"least_below",rfl,rfl⟩|2,_=>exact⟨"bags_above",rfl,rfl⟩
section
variable{F:Fn}{v:Nat}(hv:v<3){c d:D}{S S':Sto}
include hv
theorem Xsa:∃nm,Xa6 (3+v) nm G=yx/\ev F G (.idx (.lst Xfe) (.var 0)) [yz (.int v),yz c,yz d,yy] S=.ok (.fn (3+v) nm) (S++[.lst Yb]):=by
 obtain⟨nm,U,hi⟩:=Xvn v hv;have B:evs F G Xfe [yz (.int v),yz c,yz d,yy] S=.ok Yb S:=by simp only[Xfe,evs,ev,G,gZ0,gS0,Rk0,Yb]
 have J:ev F G (.lst Xfe) [yz (.int v),yz c,yz d,yy] S=.ok (.ref (la S)) (S++[.lst Yb]):=by rw[ev,B,Rk0];exact iP0 (by show 3<=big;decide)
 have L:Xah (.ref (la S)) (.int v) (S++[.lst Yb])=.ok (.fn (3+v) nm) (S++[.lst Yb]):=X7o Xf U;refine⟨nm,hi,?_⟩;rw[ev,J,Rk0];simp only[ev,gZ0,Rk0,L]
theorem Xsu:ev F G (.cal (.idx (.lst Xfe) (.var 0)) (.cons (.var 1) (.cons (.var 2) .nil))) [yz (.int v),yz c,yz d,yy] S=F (3+v) [c,d] (S++[.lst Yb]):=by obtain⟨nm,hi,B⟩:=Xsa (F:=F) hv (c:=c) (d:=d) (S:=S);rw[ev,B,Rk0];simp only[hi,if_true,evs,ev,gZ0,gS0,Rk0]
theorem Xz5{k:Nat}{r:D}(h:FT T G k (3+v) [c,d] (S++[.lst Yb])=.ok r S'):FT T G (k+1) 20 [.int v,c,d] S=.ok r S':=by
 have B:pb (FT T G k) G Xd3 [yz (.int v),yz c,yz d,yy] S=.ok (.rt r) S':=by unfold Xd3;exact Xp (by rw[exe,Xsu hv,h,Rk0])
 rw[ftx t20,Xon];refine Xbz (env:=[yz (.int v),yz c,yz d,yy]) rfl rfl (Xp ?_);rw[exe,iP0 (show nasgs Xd3=yx from rfl),B]
theorem Xz6{k:Nat}(h:FT T G (k+1) (3+v) [c,d] (S++[.lst Yb])=.ex (S++[O.lst Yb]).length (S++[.lst Yb]++[.exc 8])):∃X,FT T G (k+2) 20 [.int v,c,d] S=.ok (.str "number") (S++X):=by
 obtain⟨Y,U⟩:=Xzi (G:=G) (k:=k) t13 (c:=8) (by omega) (by omega) (S++[.lst Yb]);have J:pb (FT T G (k+1)) G Xd3 [yz (.int v),yz c,yz d,yy] S=.ex (S++[O.lst Yb]).length (S++[.lst Yb]++[.exc 8]):=by unfold Xd3;exact Xch (by rw[exe,Xsu hv,h,R.bind_ex])
 have hg:(S++[O.lst Yb]++[O.exc 8])[(S++[O.lst Yb]).length]?=yz (.exc 8):=by rw[Val (Vl _),Va7];rfl
 have L:pb (FT T G (k+1)) G (.cons (.ret (.call 13 (.cons (.var 3) .nil))) .nil) [yz (.int v),yz c,yz d,yz (.ref (S++[O.lst Yb]).length)] (S++[.lst Yb]++[.exc 8])=.ok (.rt (.str "number")) (S++([.lst Yb]++Y)):=by refine Xp ?_;simp only[exe,ev,evs,gZ0,gS0,Rk0,U];rw[V2];rfl
 refine⟨[.lst Yb]++Y,?_⟩;rw[ftx t20,Xon];refine Xbz (env:=[yz (.int v),yz c,yz d,yy]) rfl rfl (Xp ?_);rw[exe,iP0 (show nasgs Xd3=yx from rfl),J];dsimp only;rw[hg];dsimp only;rw[iP0 (by rfl)];have B:pb (FT T G (k+1)) G (.cons (.ret (.call 13 (.cons (.var 3) .nil))) .nil) (([yz (D.int v),yz c,yz d,yy]:En).set 3 (yz (.ref (S++[O.lst Yb]).length))) (S++[.lst Yb]++[.exc 8])=_:=L;rw[B]
theorem X7p(k n s:Nat)(P:Sto)(hn:n<=1000000000000)(h1:1<=s)(hs:s<=12):∃w X,Wr s n w/\FT T G (k+7) 20 [.int v,.int n,.int s] P=.ok (.int (Xr (gK v) s w:Nat)) (P++X):=by obtain⟨w,X,B,e⟩:=X7n k v hv n s (P++[.lst Yb]) hn h1 hs;exact⟨w,[.lst Yb]++X,B,by rw[<-V2];exact Xz5 hv e⟩
end
def Bad(S:Sto)(a b:D):Prop:=(Xae S a/\wi a 0 1000000000000=yw)\/(Xae S a/\wi a 0 1000000000000=yx/\Xae S b/\wi b 1 12=yw)
theorem Bad.app{S X:Sto}{a b:D}(h:Bad S a b):Bad (S++X) a b:=by
 rcases h with⟨h1,h2⟩|⟨h1,h2,h3,h4⟩;·exact .inl ⟨Yc h1,h2⟩
 ·exact .inr ⟨Yc h1,h2,Yc h3,h4⟩
theorem X4e(k:Nat){a b:D}{S:Sto}(h:Bad S a b):FT T G (k+3) 6 [a,b] S=.ex (la S) (S++[.exc 8]):=by
 rw[ftx t6];rcases h with⟨h1,h2⟩|⟨h1,h2,h3,h4⟩;·have w:=Xes k a 0 1000000000000 S h1;rw[h2]at w;exact X34 g0 w
 ·have w:=Xes k a 0 1000000000000 S h1;have w2:=Xes k b 1 12 S h3;rw[h2]at w;rw[h4]at w2;exact X35 g0 g1 w w2
def Up(S S':Sto):Prop:=∀(n:Nat) o,S[n]?=yz o->S'[n]?=yz o
section
variable{S S' S2 X:Sto}
theorem Up.trans(a:Up S S')(b:Up S' S2):Up S S2:=λn o h=>b n o (a n o h)
theorem Up.app:Up S (S++X):=λn o h=>by rw[Vs (Vh.mp h).1];exact h
theorem Up.set{q:Nat}{o:O}(a:Up S S')(B:(la S)<=q):Up S (S'.set q o):=λn u h=>by rw[Vab (λz=>by have:=(Vh.mp h).1;omega)];exact a n u h
theorem Up.lst{q:Nat}{xs:LD}(a:Up S S')(h:Xa S q=yz xs):Xa S' q=yz xs:=X30 (a q _ (Xcv h))
theorem Up.len(a:Up S S'):(la S)<=la S':=by
 cases h:(la S) with
 |zero=>omega|succ n=>have:=(Vh.mp (a n _ (Uv (show n<la S by omega)))).1;omega
end
noncomputable def leI(ag:Int)(one:LI):Int:=match one.getLast? with
 |none=>0|some x=>x+1-ag
noncomputable def Y8(far ag:Int)(one:LI):LL:=(Vm (far-leI ag one).toNat).map λ(k:Nat)=>one++[leI ag one+k]
noncomputable def chs(far ag:Int):Nat->LL
 |0=>[[]]|k+1=>(chs far ag k).flatMap (Y8 far ag)
def Sml(k:Nat)(one:LI):Prop:=la one=k/\∀x∈one,0<=x/\x<100
theorem Xmd{ag:Int}{one:LI}{k:Nat}(h:Sml k one)(h0:0<=ag)(h1:ag<=1):0<=leI ag one/\leI ag one<=100:=by
 unfold leI;cases e:one.getLast? with
 |none=>simp|some x=>have:=h.2 x (List.mem_of_getLast? e);dsimp only;omega
theorem Xvo{far ag:Int}{one:LI}{k:Nat}(h:Sml k one)(h0:0<=ag)(h1:ag<=1)(U:far<=100):∀y∈Y8 far ag one,Sml (k+1) y:=λy J=>by
 obtain⟨j,B,rfl⟩:=Va6.mp J;have B:=Vaf.mp B;have:=Xmd h h0 h1;refine⟨by simp[h.1],λx L=>?_⟩;rcases Vao.mp L with z|z;·exact h.2 x z
 ·rw[U4.mp z];omega
theorem Xdp{far ag:Int}(h0:0<=ag)(h1:ag<=1)(J:far<=100):∀(k:Nat),∀y∈chs far ag k,Sml k y
 |0=>λy B=>by rw[U4.mp (show y∈[[]] from B)];exact⟨rfl,λx z=>nomatch z⟩|k+1=>λy B=>by obtain⟨one,L,B⟩:=List.mem_flatMap.mp (show y∈(chs far ag k).flatMap (Y8 far ag) from B);exact Xvo (Xdp h0 h1 J k one L) h0 h1 J y B
theorem Xme{far ag:Int}{one:LI}{k:Nat}(h:Sml k one)(h0:0<=ag)(h1:ag<=1)(B:far<=7):(Y8 far ag one).length<=7:=by have:=Xmd h h0 h1;simp only[Y8,Vn,Us];omega
theorem Xgj{far ag:Int}{k:Nat}(h0:0<=ag)(h1:ag<=1)(B:far<=7):∀l:LL,(∀y∈l,Sml k y)->(l.flatMap (Y8 far ag)).length<=7*la l
 |[]=>λ_=>by simp|y::l=>λh=>by have:=Xgj h0 h1 B l λz J=>h z (.tail _ J);have:=Xme (h y (.head _)) h0 h1 B;simp only[List.flatMap_cons,Ur,U6];omega
theorem Xoo{far ag:Int}(h0:0<=ag)(h1:ag<=1)(B:far<=7):∀k:Nat,(chs far ag k).length<=7^k
 |0=>by simp[chs]|k+1=>by have a:=Xgj h0 h1 B (chs far ag k) (Xdp h0 h1 (by omega) k);have b:=Xoo h0 h1 B k;show((chs far ag k).flatMap (Y8 far ag)).length<=_;rw[Ve0];omega
noncomputable def leE:Ex:=.ite (.cmp .ne (.var 6) (.tup .nil)) (.bin .sub (.bin .add (.idx (.var 6) (.neg (.cst (.int 1)))) (.cst (.int 1))) (.var 2)) (.cst (.int 0))
noncomputable def xtE:Ex:=.cmr yw 2 (.cons (.var 9) (.rng (.cons (.var 7) (.cons (.var 0) .nil))) .nil .nil) (.bin .add (.var 6) (.tup (.cons (.var 9) .nil)))
noncomputable def Xp5:Sts:=.cons (.asg (.var 7) leE) (.cons (.expr (.mth .xtd (.var 5) (.cons xtE .nil))) .nil)
noncomputable def Xp6:Sts:=.cons (.asg (.var 5) (.lst .nil)) (.cons (.for (.var 6) (.val (.var 3)) Xp5) (.cons (.asg (.var 3) (.var 5)) .nil))
theorem Xp7:Xaf=⟨3,8,.cons (.asg (.var 3) (.lst (.cons (.tup .nil) .nil))) (.cons (.for (.var 4) (.rng (.cons (.var 1) .nil)) Xp6) (.cons (.ret (.var 3)) .nil))⟩:=rfl
theorem t17:T[17]?=yz Xaf:=rfl
section
variable{F:Fn}{S S':Sto}{far ag size:Int}{one:LI}{k q3 q5:Nat}{x4 x6 x7:Option D}
theorem X6j(h:Sml k one):ev F G leE [yz (.int far),yz (.int size),yz (.int ag),yz (.ref q3),x4,yz (.ref q5),yz (Xb one),x7] S=.ok (.int (leI ag one)) S:=by
 have B:ev F G (.cmp .ne (.var 6) (.tup .nil)) [yz (.int far),yz (.int size),yz (.int ag),yz (.ref q3),x4,yz (.ref q5),yz (Xb one),x7] S=.ok (.bl (!decide (one=[]))) S:=by simp only[ev,evs,gZ0,gS0,Rk0,V8];rw[iP0 (by decide),Rk0];exact Xzu one [] S
 unfold leE;rw[ev,B,Rk0];cases e:one.getLast? with
 |none=>have z:=List.getLast?_eq_none_iff.mp e;subst z;rfl|some x=>
  have L:one≠[]:=λz=>by rw[z]at e;cases e
  have Y:0<la one:=List.length_pos_iff.mpr L;have U:one[la one-1]?=yz x:=by rw[<-List.getLast?_eq_getElem?];exact e
  have hi:ixN (one.map D.int).length (-1)=yz (la one-1):=by rw[Vn];unfold ixN;rw[iN0 (by omega),iP0 (by omega)];congr 1;omega
  have J:Xah (Xb one) (.int (-1)) S=.ok (.int x) S:=by
   have:(one.map D.int)[la one-1]?=yz (.int x):=by rw[Vx,U];rfl
   simp only[Xb,Xah,Xat,Xs,V1,hi,this]
  rw[decide_eq_false L];simp only[Vgm,Xh,ev,gZ0,gS0,Rk0,J,Xu,Yp];rw[show leI ag one=x+1-ag by simp only[leI,e]]
theorem X6k(h:Sml k one)(hk:k<=100)(h0:0<=ag)(h1:ag<=1)(aa:0<=far)(hf:far<=7):ev F G xtE [yz (.int far),yz (.int size),yz (.int ag),yz (.ref q3),x4,yz (.ref q5),yz (Xb one),yz (.int (leI ag one))] S=.ok (.ref (la S)) (S++[.lst ((Y8 far ag one).map Xb)]):=by
 have bd:=Xmd h h0 h1;have Y:Ys [.int (leI ag one),.int far]=yz ((Vm (far-leI ag one).toNat).map λ(k:Nat)=>D.int (leI ag one+k)):=by simp only[Ys];exact iP0 ⟨by omega,by omega,by omega,by omega⟩
 have J:evs F G (.cons (.var 7) (.cons (.var 0) .nil)) [yz (.int far),yz (.int size),yz (.int ag),yz (.ref q3),x4,yz (.ref q5),yz (Xb one),yz (.int (leI ag one))] S=.ok [.int (leI ag one),.int far] S:=by simp only[evs,ev,gZ0,gS0,Rk0]
 obtain⟨e',S1,h2,rfl,_⟩:=Xby (F:=F) (G:=G) (t:=.var 9) (n:=2) (elt:=.bin .add (.var 6) (.tup (.cons (.var 9) .nil))) (env:=[yz (.int far),yz (.int size),yz (.int ag),yz (.ref q3),x4,yz (.ref q5),yz (Xb one),yz (.int (leI ag one))]) (S:=S) (S1:=S) (src:=.con ((Vm (far-leI ag one).toNat).map λ(k:Nat)=>D.int (leI ag one+k)))
  ((Vm (far-leI ag one).toNat).map λ(k:Nat)=>D.int (leI ag one+k)) (λi=>Xb (one++[leI ag one+(i:Int)]))
  (λ_ e S1=>S1=S/\∃x,e=[yz (.int far),yz (.int size),yz (.int ag),yz (.ref q3),x4,yz (.ref q5),yz (Xb one),yz (.int (leI ag one)),yy,x]) (Xl0 J Y) rfl (by rw[Vn,Us];exact Xap (by omega)) ⟨rfl,yy,rfl⟩ (λ_ _ _ _=>rfl)
  (λi d e S1 hd hP=>by
   obtain⟨rfl,x,rfl⟩:=hP;rw[Vx,V5]at hd;obtain⟨j,hj,rfl⟩:=hd;obtain⟨U,B⟩:=Vh.mp hj;rw[Vgu]at B;subst B;refine⟨_,S1,rfl,?_,rfl,_,rfl⟩;have L:(one.map D.int).length+[D.int (leI ag one+(i:Int))].length<=big:=by rw[Vn,h.1];exact Xap (by simp;omega)
   simp only[ev,evs,Vaw,gZ0,gS0,Rk0,V8];rw[iP0 (by decide),Rk0]
   simp only[Xb,Xw,L,if_true,Vci,Uh,Vdi])
 rw[Vn,Us]at h2;have em:(Vm (far-leI ag one).toNat).map (λ(i:Nat)=>Xb (one++[leI ag one+(i:Int)]))=(Y8 far ag one).map Xb:=by unfold Y8;rw[Vdl];rfl
 rw[em]at h2;exact h2
theorem X6l(h:Sml k one)(hk:k<=100)(h0:0<=ag)(h1:ag<=1)(L:0<=far)(Y:far<=7){acc:LD}(U:Xa S q5=yz acc)(hl:(la acc)<=900000):
  pb F G Xp5 [yz (.int far),yz (.int size),yz (.int ag),yz (.ref q3),x4,yz (.ref q5),yz (Xb one),x7] S=.ok (.nx [yz (.int far),yz (.int size),yz (.int ag),yz (.ref q3),x4,yz (.ref q5),yz (Xb one),yz (.int (leI ag one))]) ((S++[O.lst ((Y8 far ag one).map Xb)]).set q5 (O.lst (acc++(Y8 far ag one).map Xb))):=by
 have s1:exe F G (.asg (.var 7) leE) [yz (.int far),yz (.int size),yz (.int ag),yz (.ref q3),x4,yz (.ref q5),yz (Xb one),x7] S=.ok (.nx [yz (.int far),yz (.int size),yz (.int ag),yz (.ref q3),x4,yz (.ref q5),yz (Xb one),yz (.int (leI ag one))]) S:=Xz (X6j h);have x:=X6k (F:=F) (S:=S) (size:=size) (q3:=q3) (x4:=x4) (q5:=q5) h hk h0 h1 L Y;have el:=Xme h h0 h1 Y;have B:Xa (S++[O.lst ((Y8 far ag one).map Xb)]) q5=yz acc:=Xv U;have J:Xa (S++[O.lst ((Y8 far ag one).map Xb)]) (la S)=yz ((Y8 far ag one).map Xb):=Xf;unfold Xp5;rw[Xc s1,pb];have hm:Yr .xtd (.ref q5) [.ref (la S)] (S++[O.lst ((Y8 far ag one).map Xb)])=.ok .non ((S++[O.lst ((Y8 far ag one).map Xb)]).set q5 (O.lst (acc++(Y8 far ag one).map Xb))):=by
  have:(la acc)+((Y8 far ag one).map Xb).length<=big:=by rw[Vn];unfold big;omega
  simp only[Yr,show lstM (S++[O.lst ((Y8 far ag one).map Xb)]) q5=yz acc from B,J,this,if_true]
 simp only[exe,ev,evs,gZ0,gS0,Rk0,Xa4,U,Vdy,if_true,x,hm,pb]
theorem X6m{size:Int}{k q3:Nat}{B:LL}{x4 x5 x6 x7:Option D}(hk:k<=100)(h0:0<=ag)(h1:ag<=1)(aa:0<=far)(hf:far<=7)(hs:∀y∈B,Sml k y)(hl:(la B)<=3000)(hq:Xa S q3=yz (B.map Xb)):
  ∃S' q U L,pb F G Xp6 [yz (.int far),yz (.int size),yz (.int ag),yz (.ref q3),x4,x5,x6,x7] S=.ok (.nx [yz (.int far),yz (.int size),yz (.int ag),yz (.ref q),x4,yz (.ref q),U,L]) S'/\Up S S'/\Xa S' q=yz ((B.flatMap (Y8 far ag)).map Xb)/\(la S)<=q:=by
 have s1:exe F G (.asg (.var 5) (.lst .nil)) [yz (.int far),yz (.int size),yz (.int ag),yz (.ref q3),x4,x5,x6,x7] S=.ok (.nx [yz (.int far),yz (.int size),yz (.int ag),yz (.ref q3),x4,yz (.ref (la S)),x6,x7]) (S++[.lst []]):=Xz (by simp only[ev,evs,Rk0];rfl);obtain⟨e',S',h2,U,L,rfl,u,J⟩:=Xoe (F:=F) (G:=G) (t:=.var 6) (e0:=.var 3) (b:=Xp5) (env:=[yz (.int far),yz (.int size),yz (.int ag),yz (.ref q3),x4,yz (.ref (la S)),x6,x7]) (S:=S++[.lst []]) (S1:=S++[.lst []]) (r:=q3) (xs:=B.map Xb)
  (λi e S'=>∃U L,e=[yz (.int far),yz (.int size),yz (.int ag),yz (.ref q3),x4,yz (.ref (la S)),U,L]/\Up S S'/\Xa S' (la S)=yz (((B.take i).flatMap (Y8 far ag)).map Xb))
  (by simp only[ev,gZ0,gS0]) (Xv hq) (λi e S' ⟨_,_,_,u,_⟩=>u.lst hq) ⟨x6,x7,rfl,.app,Xf⟩
  (λi d e S' hd ⟨U,L,he,u,J⟩=>by
   subst he;rw[Vx,V5]at hd;obtain⟨one,Y,rfl⟩:=hd;have hi:=(Vh.mp Y).1;have sm:=hs one (V6 Y);have tl:=Xgj h0 h1 hf (B.take i) λy hy=>hs y (Vek hy);rw[Vag]at tl;have b:=X6l (F:=F) (size:=size) (q3:=q3) (x4:=x4) (x7:=L) sm hk h0 h1 aa hf J (by rw[Vn];omega);refine⟨_,_,_,rfl,b,_,_,rfl,(u.trans .app).set (Vl _),?_⟩;rw[Xa2 (by rw[Ur];have:=Xay J;omega),Vdf,Y,List.flatMap_append,Vci]
   simp)
 rw[Vn,Vca]at J;refine⟨S',la S,U,L,?_,u,J,Vl _⟩;unfold Xp6;rw[Xc s1,Xc h2];simp only[pb,exe,ev,gZ0,gS0,Rk0,Xn,Vaw]
theorem Xp8{size:Nat}(hs:size<=4)(h0:0<=ag)(h1:ag<=1)(aa:0<=far)(hf:far<=7):∃S' q,den F G Xaf [.int far,.int size,.int ag] S=.ok (.ref q) S'/\Up S S'/\Xa S' q=yz ((chs far ag size).map Xb)/\(la S)<=q:=by
 have s1:exe F G (.asg (.var 3) (.lst (.cons (.tup .nil) .nil))) [yz (.int far),yz (.int size),yz (.int ag),yy,yy,yy,yy,yy] S=.ok (.nx [yz (.int far),yz (.int size),yz (.int ag),yz (.ref (la S)),yy,yy,yy,yy]) (S++[.lst [.tup []]]):=Xz (by simp only[ev,evs,Rk0,V8];rfl);obtain⟨xs,hx,ab⟩:=Xag (m:=(size:Int)) (by omega) (by omega);obtain⟨e',S',h2,q,x4,B,x6,x7,rfl,u,J,hl⟩:=Xci (F:=F) (G:=G) (t:=.var 4) (es:=.cons (.var 1) .nil) (b:=Xp6) (env:=[yz (.int far),yz (.int size),yz (.int ag),yz (.ref (la S)),yy,yy,yy,yy]) (S:=S++[.lst [.tup []]]) (S1:=S++[.lst [.tup []]]) (ds:=[.int size]) (xs:=xs)
  (λi e S'=>∃q x4 B x6 x7,e=[yz (.int far),yz (.int size),yz (.int ag),yz (.ref q),x4,B,x6,x7]/\Up S S'/\Xa S' q=yz ((chs far ag i).map Xb)/\(la S)<=q)
  (by simp only[evs,ev,gZ0,gS0,Rk0]) hx ⟨(la S),yy,yy,yy,yy,rfl,.app,Xf,Vl _⟩
  (λi d e S' hd ⟨q,x4,B,x6,x7,he,u,J,hl⟩=>by
   subst he;obtain⟨rfl,hi⟩:=Xax hx hd;have cl:=Xoo h0 h1 hf i;have p4:7^i<=7^4:=Vge (by decide) (by omega);obtain⟨S2,q2,y6,y7,b,u2,Y,L⟩:=X6m (F:=F) (S:=S') (size:=size) (q3:=q) (x4:=yz (.int i)) (x5:=B) (x6:=x6) (x7:=x7) (k:=i) (by omega) h0 h1 aa hf (Xdp h0 h1 (by omega) i) (by omega) J
   exact⟨_,_,S2,rfl,b,q2,_,_,y6,y7,rfl,u.trans u2,Y,Ul u.len L⟩)
 have U:(la xs)=size:=by omega
 rw[U]at J;refine⟨S',q,?_,u,J,hl⟩;rw[Xp7];refine Xbz (env:=[yz (.int far),yz (.int size),yz (.int ag),yy,yy,yy,yy,yy]) rfl rfl ?_;rw[Xc s1,Xc h2];exact Xp (by simp only[exe,ev,gZ0,gS0,Rk0])
end
theorem Xz7(k:Nat){far ag:Int}{size:Nat}(S:Sto)(hs:size<=4)(h0:0<=ag)(h1:ag<=1)(B:0<=far)(J:far<=7):∃S' q,FT T G (k+1) 17 [.int far,.int size,.int ag] S=.ok (.ref q) S'/\Up S S'/\Xa S' q=yz ((chs far ag size).map Xb)/\(la S)<=q:=by rw[ftx t17];exact Xp8 hs h0 h1 B J
noncomputable def Xg(one:LI):LL:=(Vm one.length).map λi=>one.take i++one.drop (i+1)
theorem t19:T[19]?=yz Xbj:=rfl
theorem Xvp{α:Type}(xs:List α)(n:Nat):cut xs (yz (n:Int)) yy=xs.drop n:=by
 simp only[cut,Xfw,iP0 (show(0:Int)<=(n:Int) by omega)];rw[show(n:Int).toNat=n by omega];by_cases h:n<=la xs;·rw[Nat.min_eq_left h,Vcu (by rw[Vei];omega)]
 ·rw[Nat.min_eq_right (by omega),List.drop_of_length_le (Vl _),List.drop_of_length_le (by omega)];simp
theorem less(k:Nat)(one:LI)(S:Sto)(hl:(la one)<=100):FT T G (k+1) 19 [Xb one] S=.ok (.ref (la S)) (S++[.lst ((Xg one).map Xb)]):=by
 obtain⟨xs,L,Y⟩:=Xag (m:=(one.length:Int)) (by omega) (by omega);have B:(la xs)=la one:=by omega
 have J:Xx .len [Xb one] S=.ok (.int one.length) S:=by simp only[Xb,Xx,Xs,Vn]
 obtain⟨e',S1,h2,rfl,_⟩:=Xby (F:=FT T G k) (G:=G) (t:=.var 2) (n:=2) (it:=.rng (.cons (.blt .len (.cons (.var 0) .nil)) .nil)) (elt:=.bin .add (.sli (.var 0) .none (.some (.var 2))) (.sli (.var 0) (.some (.bin .add (.var 2) (.cst (.int 1)))) .none)) (env:=[yz (Xb one)]) (S:=S) (S1:=S) (src:=.con xs)
  xs (λi=>Xb (one.take i++one.drop (i+1))) (λ_ e S1=>S1=S/\∃x,e=[yz (Xb one),yy,x]) (Xl0 (ds:=[.int one.length]) (by simp only[evs,ev,gZ0,Rk0,J]) L) rfl (Xap (by omega)) ⟨rfl,yy,rfl⟩ (λ_ _ _ _=>rfl)
  (λi d e S1 hd hP=>by
   obtain⟨rfl,x,rfl⟩:=hP;obtain⟨rfl,hi⟩:=Xax L hd;refine⟨_,S1,rfl,?_,rfl,_,rfl⟩;have c1:=Xl1 (one.map D.int) i;have U:=Xvp (one.map D.int) (i+1);have ci:((i+1:Nat):Int)=(i:Int)+1:=by omega
   rw[ci]at U;have lb:((one.map D.int).take i).length+((one.map D.int).drop (i+1)).length<=big:=by simp only[Vag,Vei,Vn];exact Xap (by omega)
   simp only[ev,evo,Vaw,gZ0,gS0,Rk0,Xu,Xcn,Xbm,Xb,c1,U,Xw,lb,if_true,Vci,List.map_take,List.map_drop])
 rw[B]at h2;rw[ftx t19];refine Xbz (env:=[yz (Xb one)]) rfl rfl (Xp ?_);rw[exe];have em:(Vm one.length).map (λi=>Xb (one.take i++one.drop (i+1)))=(Xg one).map Xb:=by unfold Xg;rw[Vdl];rfl
 rw[em]at h2;rw[h2,Rk0]
theorem ints_of:∀l:LI,Xi (l.map D.int)=yz l
 |[]=>rfl|x::l=>by rw[Uh,Xi,ints_of l];rfl
theorem Xiq:∀ks:LL,Xaq (ks.map Xb)=yz ks
 |[]=>rfl|k::ks=>by rw[Uh];simp only[Xb,Xaq,ints_of];rw[Xiq ks];rfl
noncomputable def Xa3(many size ag:Nat):Nat->Nat->Nat
 |0,far=>far|f+1,far=>if C (far+(size-1)*ag) size<many then Xa3 many size ag f (far+1) else far
noncomputable def frT:Ex:=.and (.cmp .gt (.var 1) (.cst (.int 0))) (.cmp .lt (.call 14 (.cons (.bin .add (.var 3) (.bin .mul (.bin .sub (.var 1) (.cst (.int 1))) (.var 2))) (.cons (.var 1) .nil))) (.var 0))
noncomputable def frB:Sts:=.cons (.asg (.var 3) (.bin .add (.var 3) (.cst (.int 1)))) .nil
theorem Xl2:Yt=⟨3,5,.cons (.asg (.var 3) (.cst (.int 0))) (.cons (.whl frT frB) (.cons (.rsk (.call 17 (.cons (.var 3) (.cons (.var 1) (.cons (.var 2) .nil)))) (.var 0)) .nil))⟩:=rfl
theorem t18:T[18]?=yz Yt:=rfl
section
variable{F:Fn}{S:Sto}{many size ag:Nat}
theorem Xsv(Y:LWaysF F 14)(h1:1<=size)(hs:size<=3)(B:ag<=1){far:Nat}(hf:far<=1000){x:Option D}:
  Xd2 F G frT [yz (.int many),yz (.int size),yz (.int ag),yz (.int far),x] S=.ok (decide (C (far+(size-1)*ag) size<many)) S:=by
 have J:((far:Int)+((size:Int)-1)*(ag:Int))=((far+(size-1)*ag:Nat):Int):=by rw[show((size:Int)-1)=((size-1:Nat):Int) by omega];simp
 have L:Yl ((size:Int)-1) (ag:Int)=true:=Xck (by omega) (by omega);have b:(size-1)*ag<=2:=Ul (Nat.mul_le_mul (show size-1<=2 by omega) B) (by decide);have U:=Y (far+(size-1)*ag) size S (Vcz (show far+(size-1)*ag<=1002 by omega) (by decide)) (by omega);have g1:Xj .gt (.int size) (.int 0) S=.ok (.bl yx) S:=by have:decide ((0:Int)<size)=true:=decide_eq_true (by omega);simp only[Xj,X7,this]
 have g2:Xj .lt (.int (C (far+(size-1)*ag) size)) (.int many) S=.ok (.bl (decide (C (far+(size-1)*ag) size<many))) S:=by simp only[Xj,X7,ltD,Int.ofNat_lt]
 simp only[Xd2,frT,ev,evs,gZ0,gS0,Rk0,g1,Xh,Yp,Xa1 L,Xu,J,U,g2]
theorem Xop(L:LWaysF F 14)(h1:1<=size)(hs:size<=3)(J:ag<=1){x:Option D}:∀(f far B:Nat),f<B->far+f<=1000->¬ C (Xa3 many size ag f far+(size-1)*ag) size<many ->
  Yj (Xd2 F G frT) (λenv S=>pb F G frB env S) B [yz (.int many),yz (.int size),yz (.int ag),yz (.int far),x] S=.ok (.nx [yz (.int many),yz (.int size),yz (.int ag),yz (.int (Xa3 many size ag f far)),x]) S
 |f,far,0=>λh _ _=>by omega|0,far,B+1=>λ_ Y h=>by simp only[Xa3]at h;rw[Yj,Xsv L h1 hs J (by omega),decide_eq_false h];rfl|f+1,far,B+1=>λhf Y h=>by
  rw[Yj,Xsv L h1 hs J (by omega)];by_cases c:C (far+(size-1)*ag) size<many
  ·simp only[Xa3,iP0 c]at h ⊢;rw[decide_eq_true c];have U:pb F G frB [yz (.int many),yz (.int size),yz (.int ag),yz (.int far),x] S=.ok (.nx [yz (.int many),yz (.int size),yz (.int ag),yz (.int ((far+1:Nat):Int)),x]) S:=by
    simp only[frB,pb,exe,ev,gZ0,gS0,Rk0,Xu,Xn,Vaw];rfl
   dsimp only;rw[U];exact Xop L h1 hs J f (far+1) B (by omega) (by omega) h
  simp only[Xa3,iN0 c]at h ⊢;rw[decide_eq_false c]
end
def ChF(F:Fn):Prop:=∀(far ag:Int) (size:Nat) (S:Sto),size<=4->0<=ag->ag<=1->0<=far->far<=7->∃S' q,F 17 [.int far,.int size,.int ag] S=.ok (.ref q) S'/\Up S S'/\Xa S' q=yz ((chs far ag size).map Xb)/\(la S)<=q
theorem chF(k:Nat):ChF (FT T G (k+1)):=λfar ag size S a b c d e=>Xz7 k S a b c d e
theorem Xsw{F:Fn}(hw:LWaysF F 14)(hch:ChF F){many size ag far:Nat}{r:LL}(S:Sto)(h1:1<=size)(hs:size<=3)(U:ag<=1)(B:Xa3 many size ag 10 0=far)(hf:¬ C (far+(size-1)*ag) size<many)(h7:far<=7)(hr:Xb2 (chs far ag size)=yz r):
  ∃S' q,den F G Yt [.int many,.int size,.int ag] S=.ok (.ref q) S'/\Up S S'/\Xa S' q=yz ((r.take many).map Xb)/\(la S)<=q:=by
 obtain⟨S1,Y,c1,L,l1,g1⟩:=hch far ag size S (by omega) (by omega) (by omega) (by omega) (by omega);have hl:exe F G (.whl frT frB) [yz (.int many),yz (.int size),yz (.int ag),yz (.int 0),yy] S=.ok (.nx [yz (.int many),yz (.int size),yz (.int ag),yz (.int far),yy]) S:=by have:=Xop (F:=F) (S:=S) (x:=yy) hw h1 hs U 10 0 100000 (by omega) (by omega) (by rw[B];exact hf);rw[B]at this;rw[exe];exact this
 have hk:Xks (.ref Y) S1=.ok (.ref (la S1)) (S1++[.lst (r.map Xb)]):=by simp only[Xks,l1,V1,Xiq,hr];rfl
 have hc:cut (r.map Xb) yy (yz (many:Int))=(r.take many).map Xb:=by rw[Xl1,List.map_take]
 have J:Xbm (.ref (la S1)) yy (yz (many:Int)) (S1++[.lst (r.map Xb)])=.ok (.ref (S1++[O.lst (r.map Xb)]).length) (S1++[.lst (r.map Xb)]++[.lst ((r.take many).map Xb)]):=by simp only[Xbm,show Xa (S1++[O.lst (r.map Xb)]) (la S1)=yz (r.map Xb) from Xf,hc]
 refine⟨S1++[.lst (r.map Xb)]++[.lst ((r.take many).map Xb)],(S1++[O.lst (r.map Xb)]).length,?_,(L.trans .app).trans .app,Xf,by have:=L.len;rw[Ur];omega⟩;rw[Xl2];refine Xbz (env:=[yz (.int many),yz (.int size),yz (.int ag),yy,yy]) rfl rfl ?_;have s0:exe F G (.asg (.var 3) (.cst (.int 0))) [yz (.int many),yz (.int size),yz (.int ag),yy,yy] S=.ok (.nx [yz (.int many),yz (.int size),yz (.int ag),yz (.int 0),yy]) S:=Xz (by simp only[ev]);rw[Xc s0,Xc hl];refine Xp ?_;rw[exe];simp only[ev,evs,evo,gZ0,gS0,Rk0,c1,hk,Xcn,J]
theorem first(k:Nat){many size ag far:Nat}{r:LL}(S:Sto)(h1:1<=size)(hs:size<=3)(J:ag<=1)(B:Xa3 many size ag 10 0=far)(U:¬ C (far+(size-1)*ag) size<many)(Y:far<=7)(L:Xb2 (chs far ag size)=yz r):
  ∃S' q,FT T G (k+2) 18 [.int many,.int size,.int ag] S=.ok (.ref q) S'/\Up S S'/\Xa S' q=yz ((r.take many).map Xb)/\(la S)<=q:=by
 rw[ftx t18];exact Xsw (Xeo t14 k) (chF k) S h1 hs J B U Y L
theorem X4f(kvs:List (LI×D))(k:LI)(v:D)(r:LI):(X5 (Xai kvs k v) r).isSome=((X5 kvs r).isSome||decide (r=k)):=by
 have B:∀l:List (LI×D),(X5 l r).isSome=l.any λp=>decide (p.1=r):=λl=>by unfold X5;rw[Option.isSome_map,Bool.eq_iff_iff,List.find?_isSome,Vel]
 rw[B,B];unfold Xai;split
 ·rename_i h;have h':(kvs.any λp=>decide (p.1=k))=true:=by
   unfold X5 at h;rw[Option.isSome_map,List.find?_isSome]at h;exact Vel.mpr h
  rw[List.any_map];by_cases c:r=k;·subst c;rw[decide_eq_true rfl,Bool.or_true];obtain⟨p,L,J⟩:=Vel.mp h';exact Vel.mpr ⟨p,L,by simp only[Veq];split<;>exact J⟩
  ·rw[decide_eq_false c,Bool.or_false];congr 1;funext p;simp only[Veq];split<;>rfl
 rw[List.any_append];simp only[List.any_cons,List.any_nil,Bool.or_false];congr 1;exact decide_eq_decide.mpr eq_comm
theorem Xoq(v:D)(r:LI):∀(ks:LL) (kvs:List (LI×D)),(X5 ((ks.map λk=>(k,v)).foldl (λkvs p=>Xai kvs p.1 p.2) kvs) r).isSome=((X5 kvs r).isSome||decide (r∈ks))
 |[]=>λkvs=>by simp|k::ks=>λkvs=>by rw[Uh,Vbx,Xoq v r ks,X4f,Bool.or_assoc];congr 1;rw[Bool.eq_iff_iff];simp
theorem Xsx(v:D):∀ks:LL,Xea (ks.map λk=>D.tup [Xb k,v])=yz (ks.map λk=>(k,v))
 |[]=>rfl|k::ks=>by rw[Uh];show Xea (D.tup [D.tup (k.map D.int),v]::_)=_;rw[Xea,ints_of,Xsx v ks];rfl
noncomputable def onF(yz B:LL):LL:=B.filter λone=>(Xg one).all λl=>decide (l∈yz)
theorem t21:T[21]?=yz Xb0:=rfl
noncomputable def onT:Ex:=.blt .all (.cons (.cmr yw 2 (.cons (.var 6) (.val (.call 19 (.cons (.var 4) .nil))) .nil .nil) (.idc (.var 6) (.var 2))) .nil)
noncomputable def onD:Ex:=.cmr yw 2 (.cons (.var 4) (.val (.var 0)) .nil .nil) (.tup (.cons (.var 4) (.cons (.cst (.bl yx)) .nil)))
theorem X6n:Xb0=⟨2,3,.cons (.asg (.var 2) (.dcl onD)) (.cons (.ret (.cmr yw 2 (.cons (.var 4) (.val (.var 1)) (.cons onT .nil) .nil) (.var 4))) .nil)⟩:=rfl
theorem Xsy:∀bs:List Bool,X6 (bs.map D.bl)=yz bs
 |[]=>rfl|b::bs=>by rw[Uh,X6,Xsy bs];rfl
theorem Xmf{F:Fn}{e:Ex}{env:En}{S S1:Sto}{q:Nat}{xs:LD}(h:ev F G e env S=.ok (.ref q) S1)(B:Xa S1 q=yz xs):evit F G (.val e) env S=.ok (.ref q) S1:=by simp only[evit,h,Rk0,Yw,B,V4]
section
variable{F:Fn}{S:Sto}{qs qg qk:Nat}{ks:LL}{kvs:List (LI×D)}(h19:∀(one:LI) (S:Sto),la one<=100->F 19 [Xb one] S=.ok (.ref (la S)) (S++[.lst ((Xg one).map Xb)]))
include h19
theorem X4g{one:LI}{x3:Option D}(J:Xbr S qk=yz kvs)(hm:∀r,(X5 kvs r).isSome=decide (r∈ks))(hl:(la one)<=100):
  ∃X,ev F G onT [yz (.ref qs),yz (.ref qg),yz (.ref qk),x3,yz (Xb one)] S=.ok (.bl ((Xg one).all λl=>decide (l∈ks))) (S++X):=by
 have h19:=h19 one S hl;have hd:Xbr (S++[O.lst ((Xg one).map Xb)]) qk=yz kvs:=by
  unfold Xbr at J ⊢;have:qk<la S:=by
   cases e:S[qk]? with
   |none=>rw[e]at J;cases J|some _=>exact(Vh.mp e).1
  rw[Vs this];exact J
 have lo:(Xg one).length=la one:=by unfold Xg;rw[Vn,Us]
 obtain⟨e',S1,h2,rfl,_⟩:=Xby (F:=F) (G:=G) (t:=.var 6) (n:=2) (it:=.val (.call 19 (.cons (.var 4) .nil))) (elt:=.idc (.var 6) (.var 2)) (env:=[yz (.ref qs),yz (.ref qg),yz (.ref qk),x3,yz (Xb one)]) (S:=S) (S1:=S++[.lst ((Xg one).map Xb)]) (src:=.ref (la S))
  ((Xg one).map Xb) (λi=>.bl (decide ((Xg one).getD i []∈ks))) (λ_ e S1=>S1=S++[.lst ((Xg one).map Xb)]/\∃x,e=[yz (.ref qs),yz (.ref qg),yz (.ref qk),x3,yz (Xb one),yy,x])
  (Xmf (by simp only[ev,evs,gZ0,gS0,Rk0,h19]) Xf) (by simp only[Src.most,show Xa (S++[O.lst ((Xg one).map Xb)]) (la S)=yz ((Xg one).map Xb) from Xf,Vb8]) (by rw[Vn,lo];exact Xap (by omega)) ⟨rfl,yy,rfl⟩
  (λi e S1 ⟨h,_⟩=>by rw[h];simp only[Src.get,show Xa (S++[O.lst ((Xg one).map Xb)]) (la S)=yz ((Xg one).map Xb) from Xf,V4])
  (λi d e S1 B U=>by
   obtain⟨rfl,x,rfl⟩:=U;rw[Vx,V5]at B;obtain⟨l,L,rfl⟩:=B;refine⟨_,_,rfl,?_,rfl,_,rfl⟩;have:(Xg one).getD i []=l:=by rw[Ux,L];rfl
   rw[this];simp only[ev,Vaw,gZ0,gS0,Rk0,Xb,Xhk,hd,ints_of,hm])
 rw[Vn]at h2;have Y:(Vm (Xg one).length).map (λi=>D.bl (decide ((Xg one).getD i []∈ks)))=((Xg one).map λl=>decide (l∈ks)).map D.bl:=by rw[Vdl];apply List.ext_getElem (by simp);intro i h1 h2;simp only[List.getElem_map,Vgu,Veq];congr 2;rw[Ux,Uv (by simpa using h1)];rfl
 rw[Y]at h2;refine⟨[.lst ((Xg one).map Xb)]++[.lst (((Xg one).map λl=>decide (l∈ks)).map D.bl)],?_⟩;rw[<-V2];have hb:Xx .all [.ref (S++[O.lst ((Xg one).map Xb)]).length] (S++[.lst ((Xg one).map Xb)]++[.lst (((Xg one).map λl=>decide (l∈ks)).map D.bl)])=.ok (.bl ((Xg one).all λl=>decide (l∈ks))) (S++[.lst ((Xg one).map Xb)]++[.lst (((Xg one).map λl=>decide (l∈ks)).map D.bl)]):=by have:Xa (S++[O.lst ((Xg one).map Xb)]++[O.lst (((Xg one).map λl=>decide (l∈ks)).map D.bl)]) (S++[O.lst ((Xg one).map Xb)]).length=yz (((Xg one).map λl=>decide (l∈ks)).map D.bl):=Xf;simp only[Xx,this,V1,Xsy];rw[List.all_map];rfl
 unfold onT;rw[ev,evs,h2,Rk0,evs,Rk0,Rk0];exact hb
theorem X6o(S:Sto){gs:LL}(h1:Xa S qs=yz (ks.map Xb))(h2:Xa S qg=yz (gs.map Xb))(hl:(la ks)<=900)(hg:(la gs)<=900)(ho:∀y∈gs,la y<=100):
  ∃S' q,den F G Xb0 [.ref qs,.ref qg] S=.ok (.ref q) S'/\Up S S'/\Xa S' q=yz ((onF ks gs).map Xb):=by
 obtain⟨e',S1,c1,hS,_⟩:=Xby (F:=F) (G:=G) (t:=.var 4) (n:=2) (it:=.val (.var 0)) (elt:=.tup (.cons (.var 4) (.cons (.cst (.bl yx)) .nil))) (env:=[yz (.ref qs),yz (.ref qg),yy]) (S:=S) (S1:=S) (src:=.ref qs)
  (ks.map Xb) (λi=>.tup [Xb (ks.getD i []),.bl yx]) (λ_ e S1=>S1=S/\∃x,e=[yz (.ref qs),yz (.ref qg),yy,yy,x]) (Xmf (by simp only[ev,gZ0]) h1) (by simp only[Src.most,h1,Vb8]) (by rw[Vn];exact Xap (by omega)) ⟨rfl,yy,rfl⟩
  (λi e S1 ⟨h,_⟩=>by rw[h];simp only[Src.get,h1,V4])
  (λi d e S1 J hP=>by
   obtain⟨rfl,x,rfl⟩:=hP;rw[Vx,V5]at J;obtain⟨l,ac,rfl⟩:=J;refine⟨_,_,rfl,?_,rfl,_,rfl⟩;have:ks.getD i []=l:=by rw[Ux,ac];rfl
   rw[this];simp only[ev,evs,Vaw,gZ0,gS0,Rk0,V8];exact iP0 (by decide))
 rw[hS,Vn]at c1;clear hS S1;have em:(Vm (la ks)).map (λi=>D.tup [Xb (ks.getD i []),.bl yx])=ks.map λk=>D.tup [Xb k,.bl yx]:=by apply List.ext_getElem (by simp);intro i h1 h2;simp only[List.getElem_map,Vgu];congr 3;rw[Ux,Uv (by simpa using h1)];rfl
 rw[em]at c1;generalize U:S++[O.lst (ks.map λk=>D.tup [Xb k,.bl yx])]=S1 at c1;have l1:Xa S1 (la S)=yz (ks.map λk=>D.tup [Xb k,.bl yx]):=by rw[<-U];exact Xf
 have hd:Xku (.ref (la S)) S1=.ok (.ref (la S1)) (S1++[.dct ((ks.map λk=>(k,D.bl yx)).foldl (λkvs p=>Xai kvs p.1 p.2) [])]):=by simp only[Xku,l1,V1,Xsx];exact iP0 (by rw[Vn];omega)
 have s1:exe F G (.asg (.var 2) (.dcl onD)) [yz (.ref qs),yz (.ref qg),yy] S=.ok (.nx [yz (.ref qs),yz (.ref qg),yz (.ref (la S1))]) (S1++[.dct ((ks.map λk=>(k,D.bl yx)).foldl (λkvs p=>Xai kvs p.1 p.2) [])]):=Xz (by unfold onD;rw[ev,c1,Rk0];exact hd);have u1:Up S S1:=by rw[<-U];exact .app
 generalize ab:(ks.map λk=>(k,D.bl yx)).foldl (λkvs p=>Xai kvs p.1 p.2) []=kvs at s1 hd;have hm:∀r,(X5 kvs r).isSome=decide (r∈ks):=λr=>by rw[<-ab,Xoq];rfl
 generalize B:S1++[O.dct kvs]=S2 at s1;have u2:Up S S2:=by rw[<-B];exact u1.trans .app
 have dk:∀X,Xbr (S2++X) (la S1)=yz kvs:=λX=>by unfold Xbr;rw[Vs (by rw[<-B];simp),<-B,Val (Vl _),Va7];rfl
 have g2:=u2.lst h2;obtain⟨X,aa⟩:=Xz3 (F:=F) (G:=G) (S:=S2) (n:=2) (t:=.var 4) (it:=.val (.var 1)) (ifs:=.cons onT .nil) (elt:=.var 4) (env:=[yz (.ref qs),yz (.ref qg),yz (.ref (la S1))]) (src:=.ref qg) (xs:=gs.map Xb)
  (λd=>match d with|.tup xs=>(match Xi xs with|some one=>(Xg one).all λl=>decide (l∈ks)|none=>yw)|_=>yw) id (λe=>∃x,e=[yz (.ref qs),yz (.ref qg),yz (.ref (la S1)),yy,x])
  (Xmf (by simp only[ev,gZ0,gS0]) g2) (by simp only[Src.most,g2,Vb8]) (λX i=>by simp only[Src.get,Xv g2,V4]) (by rw[Vn];exact Xap (by omega)) ⟨yy,rfl⟩
  (λd hd e X he=>by
   obtain⟨x,rfl⟩:=he;obtain⟨one,L,rfl⟩:=Va6.mp hd;obtain⟨Y,hy⟩:=X4g h19 (S:=S2++X) (qs:=qs) (qg:=qg) (qk:=la S1) (x3:=yy) (one:=one) (dk X) hm (ho one L);refine⟨[yz (.ref qs),yz (.ref qg),yz (.ref (la S1)),yy,yz (Xb one)],X++Y,rfl,⟨_,rfl⟩,?_,λ_=>⟨X++Y,by simp only[ev,gZ0,gS0,id]⟩⟩
   rw[evts,hy,Rk0];simp only[Xb,ints_of,Xh];rw[<-V2];cases (Xg one).all λl=>decide (l∈ks)<;>simp only[evts])
 have ef:((gs.map Xb).filter (λd=>match d with|.tup xs=>(match Xi xs with|some one=>(Xg one).all λl=>decide (l∈ks)|none=>yw)|_=>yw)).map id=(onF ks gs).map Xb:=by rw[List.map_id,List.filter_map];unfold onF;congr 1;apply List.filter_congr;intro one _;simp only[Veq,Xb,ints_of]
 rw[ef]at aa;refine⟨S2++X++[.lst ((onF ks gs).map Xb)],(S2++X).length,?_,(u2.trans .app).trans .app,Xf⟩;rw[X6n];refine Xbz (env:=[yz (.ref qs),yz (.ref qg),yy]) rfl rfl ?_;rw[Xc s1];refine Xp ?_;rw[exe,aa,Rk0]
end
theorem on(k:Nat){qs qg:Nat}(S:Sto){ks gs:LL}(h1:Xa S qs=yz (ks.map Xb))(h2:Xa S qg=yz (gs.map Xb))(J:(la ks)<=900)(hg:(la gs)<=900)(B:∀y∈gs,la y<=100):
  ∃S' q,FT T G (k+2) 21 [.ref qs,.ref qg] S=.ok (.ref q) S'/\Up S S'/\Xa S' q=yz ((onF ks gs).map Xb):=by
 rw[ftx t21];exact X6o (λone S h=>less k one S h) S h1 h2 J hg B
noncomputable def Xp9(n k:Nat):Nat->Nat->Nat
 |0,t=>t|f+1,t=>if C (t+1) k<=n then Xp9 n k f (t+1) else t
noncomputable def Xau:Nat->Nat->LI
 |0,_=>[]|k+1,n=>if n=0 then [] else (Xp9 n (k+1) 40 k:Int)::Xau k (n-C (Xp9 n (k+1) 40 k) (k+1))
noncomputable def wrB(s n:Nat):Bool:=decide ((Xau s n).length<=s)&&wok s yy (Xau s n)&&decide (Xbp s (Xau s n)=n)
theorem X4h(h:wrB s n=yx):Wr s n (Xau s n):=by simp only[wrB,bA0,decide_eq_true_eq]at h;exact Xws h.1.1 h.1.2 h.2
noncomputable def Xgk(s n ag:Nat)(q:LL->Bool):Bool:=wrB s n&&decide (Xa3 n s ag 10 0<=7) && !decide (C (Xa3 n s ag 10 0+(s-1)*ag) s<n)&&(Xb2 (chs (Xa3 n s ag 10 0) ag s)).any λr=>decide ((r.take n).length<=900)&&q (r.take n)
theorem Xz8{q:LL->Bool}(h:Xgk s n ag q=yx):Wr s n (Xau s n)/\Xa3 n s ag 10 0<=7/\¬ C (Xa3 n s ag 10 0+(s-1)*ag) s<n/\∃r,Xb2 (chs (Xa3 n s ag 10 0) ag s)=yz r/\(r.take n).length<=900/\q (r.take n)=true:=by simp only[Xgk,bA0,decide_eq_true_eq,Vat,decide_eq_false_iff_not]at h;obtain⟨⟨⟨h1,h2⟩,L⟩,J⟩:=h;obtain⟨r,U,B⟩:=Xd J;rw[bA0,decide_eq_true_eq]at B;exact⟨X4h h1,h2,L,r,U,B.1,B.2⟩
noncomputable def Xvq(s n:Nat)(f:LL):Bool:=(onF f (chs 7 0 (s+1))).length==Xr gU s (Xau s n)&&((ddL (f.flatMap Xg)).length==Xr gL s (Xau s n)&&decide ((ddL (f.flatMap Xg)).length<1000)&&decide ((f.flatMap Xg).length<=9000))
noncomputable def Xvr(s n:Nat)(f:LL):Bool:=(onF f (chs 4 1 (s+1))).length==Xr gB s (Xau s n)
theorem Xvs:((Vm 3).all λs=>(Vm ((chs 7 0 (s+1)).length+1)).all λn=>Xgk (s+1) n 0 (Xvq (s+1) n))=true:=by decide+kernel
theorem Xvt:((Vm 3).all λs=>(Vm ((chs 4 1 (s+1)).length+1)).all λn=>Xgk (s+1) n 1 (Xvr (s+1) n))=true:=by decide+kernel
def X4i(F:Fn):Prop:=∀(many size ag far:Nat) (r:LL) (S:Sto),1<=size->size<=3->ag<=1->Xa3 many size ag 10 0=far->¬ C (far+(size-1)*ag) size<many->far<=7->Xb2 (chs far ag size)=yz r ->
 ∃S' q,F 18 [.int many,.int size,.int ag] S=.ok (.ref q) S'/\Up S S'/\Xa S' q=yz ((r.take many).map Xb)/\(la S)<=q
def X4j(F:Fn):Prop:=∀(one:LI) (S:Sto),la one<=100->F 19 [Xb one] S=.ok (.ref (la S)) (S++[.lst ((Xg one).map Xb)])
def OnF(F:Fn):Prop:=∀(qs qg:Nat) (S:Sto) (ks B:LL),Xa S qs=yz (ks.map Xb)->Xa S qg=yz (B.map Xb)->la ks<=900->la B<=900->(∀y∈B,la y<=100) ->
 ∃S' q,F 21 [.ref qs,.ref qg] S=.ok (.ref q) S'/\Up S S'/\Xa S' q=yz ((onF ks B).map Xb)
def Xhe(F:Fn):Prop:=∀(v n s:Nat) (S:Sto),v<3->n<=1000000000000->1<=s->s<=12->∃w X,Wr s n w/\F 20 [.int v,.int n,.int s] S=.ok (.int (Xr (gK v) s w:Nat)) (S++X)
theorem dsm{j:Int}(h0:0<j)(h:j<1000):Y6 j=true:=by have:j.natAbs.log2<9000:=Vcy (Xl4 (k:=10) (by omega) (by omega)) (by decide);simp only[Y6,decide_eq_true h0,decide_eq_true this,Vdr]
noncomputable def tkp(e:Ex):Ex:=.call 12 (.cons (.var 0) (.cons e .nil))
noncomputable def fr1:St:=.asg (.var 1) (.bin .add (.cst (.int 1)) (tkp (.cst (.int 3))))
noncomputable def chE(far:Int)(e:Ex)(ag:Int):Ex:=.call 17 (.cons (.cst (.int far)) (.cons e (.cons (.cst (.int ag)) .nil)))
noncomputable def fr2:St:=.par [6,7] (.cons (chE 7 (.var 1) 0) (.cons (chE 4 (.var 1) 1) .nil))
noncomputable def lnE(i:Nat):Ex:=.bin .add (.blt .len (.cons (.var i) .nil)) (.cst (.int 1))
noncomputable def fr3:St:=.asg (.tup [8,9]) (.tup (.cons (tkp (lnE 6)) (.cons (tkp (lnE 7)) .nil)))
noncomputable def fr4(i:Nat)(ag:Int):St:=.asg (.var 2) (.call 18 (.cons (.var i) (.cons (.var 1) (.cons (.cst (.int ag)) .nil))))
noncomputable def fr5:St:=.asg (.var 3) (.lst .nil)
noncomputable def Xqa:Sts:=.cons (.expr (.mth .xtd (.var 3) (.cons (.call 19 (.cons (.var 4) .nil)) .nil))) .nil
noncomputable def fr6:St:=.for (.var 4) (.val (.var 2)) Xqa
noncomputable def onE(far ag:Int):Ex:=.blt .len (.cons (.call 21 (.cons (.var 2) (.cons (chE far (.bin .add (.var 1) (.cst (.int 1))) ag) .nil))) .nil)
noncomputable def fr7:St:=.asg (.var 5) (.lst (.cons (onE 7 0) (.cons (.lns (.var 3)) .nil)))
noncomputable def X4k:Ex:=.cmr yw 2 (.cons (.var 11) (.rng (.cons (.cst (.int 2)) .nil)) .nil .nil) (.call 20 (.cons (.var 11) (.cons (.var 8) (.cons (.var 1) .nil))))
noncomputable def fr8:St:=.ite (.cmp .ne X4k (.var 5)) (.cons (.ret (.cst (.bl yw))) .nil) .nil
noncomputable def Xvu:St:=.ret (.cmp .eq (.call 20 (.cons (.cst (.int 2)) (.cons (.var 9) (.cons (.var 1) .nil)))) (onE 4 1))
theorem X4l:Y5=⟨1,10,.cons fr1 (.cons fr2 (.cons fr3 (.cons (fr4 8 0) (.cons fr5 (.cons fr6 (.cons fr7 (.cons fr8 (.cons (fr4 9 1) (.cons Xvu .nil)))))))))⟩:=rfl
section
variable{F:Fn}(hch:ChF F)(hle:X4j F)(hon:OnF F)(hsd:Xhe F)
include hch hon in
theorem Xsz{far ag:Int}{s q2:Nat}{f:LL}{env:En}{S:Sto}(h0:0<=ag)(h1:ag<=1)(B:0<=far)(hf:far<=7)(hs:s<=3)(e1:env[1]?=yz (yz (.int s)))(e2:env[2]?=yz (yz (.ref q2)))(Y:Xa S q2=yz (f.map Xb))(hl:(la f)<=900)(hg:(chs far ag (s+1)).length<=900):
  ∃S',ev F G (onE far ag) env S=.ok (.int (onF f (chs far ag (s+1))).length) S'/\Up S S':=by
 obtain⟨S1,q1,c1,J,l1,_⟩:=hch far ag (s+1) S (by omega) h0 h1 B hf;obtain⟨S2,q,c2,U,l2⟩:=hon q2 q1 S1 f _ (J.lst Y) l1 hl hg λy L=>by have:=(Xdp h0 h1 (by omega) (s+1) y L).1;omega
 have es:((s:Int)+1)=((s+1:Nat):Int):=by omega
 refine⟨S2,?_,J.trans U⟩;have lb:Xx .len [.ref q] S2=.ok (.int (onF f (chs far ag (s+1))).length) S2:=by rw[Xfd l2,Vn]
 simp only[onE,chE,ev,evs,e1,e2,Rk0,Xu,es,c1,c2,lb]
include hle in
theorem X4m{f:LL}{q2:Nat}{a0 a1 a4 a5 a6 a7 a8 a9:Option D}{S:Sto}(U:Xa S q2=yz (f.map Xb))(J:∀y∈f,la y<=100)(hb:(la f)<=900):
  ∃S' x,exe F G fr6 [a0,a1,yz (.ref q2),yz (.ref (la S)),a4,a5,a6,a7,a8,a9] (S++[.lst []])=.ok (.nx [a0,a1,yz (.ref q2),yz (.ref (la S)),x,a5,a6,a7,a8,a9]) S'/\Up S S'/\Xa S' (la S)=yz ((f.flatMap Xg).map Xb):=by
 have ll:∀(g:LL),(∀y∈g,la y<=100)->(g.flatMap Xg).length<=100*la g:=λg=>by
  induction g with
  |nil=>intro _;simp|cons y g ih=>intro h;have a:=ih λz hz=>h z (.tail _ hz);have b:=h y (.head _);simp only[List.flatMap_cons,Ur,U6,Xg,Vn,Us]at a ⊢;omega
 obtain⟨e',S',h2,x,rfl,u,B⟩:=Xoe (F:=F) (G:=G) (t:=.var 4) (e0:=.var 2) (b:=Xqa) (env:=[a0,a1,yz (.ref q2),yz (.ref (la S)),a4,a5,a6,a7,a8,a9]) (S:=S++[.lst []]) (S1:=S++[.lst []]) (r:=q2) (xs:=f.map Xb)
  (λi e S'=>∃x,e=[a0,a1,yz (.ref q2),yz (.ref (la S)),x,a5,a6,a7,a8,a9]/\Up S S'/\Xa S' (la S)=yz (((f.take i).flatMap Xg).map Xb))
  (by simp only[ev,gZ0,gS0]) (Xv U) (λi e S' ⟨_,_,u,_⟩=>u.lst U) ⟨a4,rfl,.app,Xf⟩
  (λi d e S' hd ⟨x,he,u,B⟩=>by
   subst he;rw[Vx,V5]at hd;obtain⟨one,ho,rfl⟩:=hd;have Y:=V6 ho;have h19:=hle one S' (J one Y);have tl:=ll (f.take i) λy hy=>J y (Vek hy);rw[Vag]at tl;have lo:((Xg one).map Xb).length<=100:=by rw[Vn];unfold Xg;rw[Vn,Us];exact J one Y
   have L:Yr .xtd (.ref (la S)) [.ref (la S')] (S'++[O.lst ((Xg one).map Xb)])=.ok .non ((S'++[O.lst ((Xg one).map Xb)]).set (la S) (O.lst (((f.take i).flatMap Xg).map Xb++(Xg one).map Xb))):=by
    have z1:lstM (S'++[O.lst ((Xg one).map Xb)]) (la S)=yz (((f.take i).flatMap Xg).map Xb):=Xv B;have z2:Xa (S'++[O.lst ((Xg one).map Xb)]) (la S')=yz ((Xg one).map Xb):=Xf;have z3:(((f.take i).flatMap Xg).map Xb).length+((Xg one).map Xb).length<=big:=by rw[Vn];unfold big;omega
    simp only[Yr,z1,z2,z3,if_true]
   have b:pb F G Xqa [a0,a1,yz (.ref q2),yz (.ref (la S)),yz (Xb one),a5,a6,a7,a8,a9] S'=.ok (.nx [a0,a1,yz (.ref q2),yz (.ref (la S)),yz (Xb one),a5,a6,a7,a8,a9]) ((S'++[O.lst ((Xg one).map Xb)]).set (la S) (O.lst (((f.take i).flatMap Xg).map Xb++(Xg one).map Xb))):=by simp only[Xqa,pb,exe,ev,evs,gZ0,gS0,Rk0,Xa4,B,Vdy,if_true,h19,L]
   refine⟨_,_,_,rfl,b,_,rfl,(u.trans .app).set (Vl _),?_⟩
   ·rw[Xa2 (by rw[Ur];have:=Xay B;omega),Vdf,ho,List.flatMap_append,Vci]
    simp)
 rw[Vn,Vca]at B;exact⟨S',x,h2,u,B⟩
theorem X4n{a b q3:Nat}{f:LL}{env:En}{S S1:Sto}(h:ev F G (onE 7 0) env S=.ok (.int a) S1)(B:env[3]?=yz (yz (.ref q3)))(J:Xa S1 q3=yz (f.map Xb))(U:(ddL f).length=b)(L:b<1000):
  exe F G fr7 env S=.ok (.nx (env.set 5 (yz (.ref (la S1))))) (S1++[.lst [.int a,.int b]]):=by
 have hn:Xds (.ref q3) S1=.ok (.int b) S1:=by subst U;simp only[Xds,J,Xiq,L,if_true]
 refine Xz ?_;rw[ev,evs,h,Rk0,evs,ev];simp only[ev,B,Rk0,hn,evs,V8];rfl
include hsd in
theorem X4o{m s q5:Nat}{w:LI}{env:En}{S:Sto}(he:(la env)=10)(e1:env[1]?=yz (yz (.int s)))(e8:env[8]?=yz (yz (.int m)))(e5:env[5]?=yz (yz (.ref q5)))(hm:m<=1000000000000)(h1:1<=s)(hs:s<=12)(hw:Wr s m w)
  (hq:Xa S q5=yz [.int (Xr gU s w:Nat),.int (Xr gL s w:Nat)]):∃X,exe F G fr8 env S=.ok (.nx env) (S++X):=by
 obtain⟨xs,U,aa⟩:=Xag (m:=2) (by omega) (by omega);have B:(la xs)=2:=by omega
 obtain⟨e',S',h2,⟨X,rfl⟩,_⟩:=Xby (F:=F) (G:=G) (t:=.var 11) (n:=2) (it:=.rng (.cons (.cst (.int 2)) .nil)) (elt:=.call 20 (.cons (.var 11) (.cons (.var 8) (.cons (.var 1) .nil)))) (env:=env) (S:=S) (S1:=S) (src:=.con xs) xs (λi=>.int (Xr (gK i) s w:Nat))
  (λ_ e S'=>(∃X,S'=S++X)/\∃x,e=env++[yy,x]) (Xl0 (ds:=[.int 2]) (by simp only[evs,ev,Rk0]) U) rfl (by rw[B];exact Xap (by omega)) ⟨⟨[],by simp⟩,yy,rfl⟩ (λ_ _ _ _=>rfl)
  (λi d e S' hd hP=>by
   obtain⟨⟨X,rfl⟩,x,rfl⟩:=hP;obtain⟨rfl,hi⟩:=Xax U hd;obtain⟨w',Y,L,h⟩:=hsd i m s (S++X) (by omega) hm h1 hs;obtain rfl:=L.uniq hw;have g8:(env++[yy,yz (D.int i)])[8]?=yz (yz (.int m)):=by rw[Vs (by omega)];exact e8
   have g1:(env++[yy,yz (D.int i)])[1]?=yz (yz (.int s)):=by rw[Vs (by omega)];exact e1
   have J:(env++[yy,yz (D.int i)])[11]?=yz (yz (.int i)):=by rw[Val (by omega),he];rfl
   refine⟨env++[yy,yz (.int i)],S++X++Y,?_,?_,⟨X++Y,by rw[V2]⟩,_,rfl⟩;·simp only[Xn];rw[Vf0 _ _ (by omega),he];rfl
   ·simp only[ev,evs,g1,g8,J,Rk0]
    exact h)
 rw[B]at h2;have em:(Vm 2).map (λi=>D.int (Xr (gK i) s w:Nat))=([(Xr gU s w:Int),(Xr gL s w:Int)]:LI).map D.int:=rfl;rw[em]at h2;refine⟨X++[.lst (([(Xr gU s w:Int),(Xr gL s w:Int)]:LI).map D.int)],?_⟩;rw[<-V2];refine Xas ?_;rw[ev];unfold X4k;rw[h2,Rk0,ev,e5];dsimp only;rw[Rk0];exact Xzy (l:=[(Xr gU s w:Int),(Xr gL s w:Int)]) Xf (Xv (Xv hq))
end
theorem Xs0{x n:Int}(h0:0<=x)(h:x<n):∃m:Nat,x=m/\(m:Int)<n:=⟨x.toNat,by omega,by omega⟩
theorem X7q:(chs 7 0 1).length<=900/\(chs 7 0 2).length<=900/\(chs 7 0 3).length<=900/\(chs 7 0 4).length<=900/\(chs 4 1 1).length<=900/\(chs 4 1 2).length<=900/\(chs 4 1 3).length<=900/\(chs 4 1 4).length<=900:=by decide+kernel
theorem Xdq{s:Nat}(h:s<=3):(chs 7 0 (s+1)).length<=900/\(chs 4 1 (s+1)).length<=900:=by
 obtain⟨Y,l2,l3,J,L,B,m3,U⟩:=X7q;match s,h with
 |0,_=>exact⟨Y,L⟩|1,_=>exact⟨l2,B⟩|2,_=>exact⟨l3,m3⟩|3,_=>exact⟨J,U⟩
theorem Xz9{s n:Nat}(hs:s<3)(hn:n<(chs 7 0 (s+1)).length+1):Xgk (s+1) n 0 (Xvq (s+1) n)=true:=
 Uf.mp (Uf.mp Xvs s (Vaf.mpr hs)) n (Vaf.mpr hn)
theorem X0a{s n:Nat}(hs:s<3)(hn:n<(chs 4 1 (s+1)).length+1):Xgk (s+1) n 1 (Xvr (s+1) n)=true:=
 Uf.mp (Uf.mp Xvt s (Vaf.mpr hs)) n (Vaf.mpr hn)
theorem Xmg{ks:LL}:∀ {p:LN} {r:LL},Xb8 ks p=yz r->∀y∈r,y∈ks
 |[],r,h=>by cases h;exact λy z=>nomatch z|i::p,r,h=>by
  simp only[Xb8]at h;cases e:ks[i]? with
  |none=>rw[e]at h;cases h|some k=>
   rw[e]at h;dsimp only at h;cases J:Xb8 ks p with
   |none=>rw[J]at h;cases h|some L=>
    rw[J]at h;cases h;intro y B;rcases Vt.mp B with rfl|B;·exact V6 e
    ·exact Xmg J y B
theorem Xvv{ks r:LL}(h:Xb2 ks=yz r):∀y∈r,y∈ks:=by
 unfold Xb2 at h;split at h;·cases h;exact λ_ z=>z
 ·split at h
  ·cases e:Xbl (ltK (ks.map Vf5)) (Vbf (la ks)) with
   |none=>rw[e]at h;cases h|some p=>
    rw[e]at h;simp only[V1]at h;split at h;·exact Xmg h
    ·cases h
  cases h
section
variable{F:Fn}(htk:Xj4 F 12)(hch:ChF F)(hfs:X4i F)(hle:X4j F)(hon:OnF F)(hsd:Xhe F)
include htk in
theorem X4p{p U L B J:Nat}{v:Int}{a1 a2 a3 a4 a5 a8 a9:Option D}{xs ys:LD}{S:Sto}(hp:Xa S p=yz [.int v])(h6:Xa S U=yz xs)(h7:Xa S L=yz ys)(l6:(la xs)=B)(l7:(la ys)=J)(b6:B<=900)(b7:J<=900)(Y:p≠L):
  ∃m b:Nat,m<B+1/\b<J+1/\∃S',exe F G fr3 [yz (.ref p),a1,a2,a3,a4,a5,yz (.ref U),yz (.ref L),a8,a9] S=.ok (.nx [yz (.ref p),a1,a2,a3,a4,a5,yz (.ref U),yz (.ref L),yz (.int m),yz (.int b)]) S':=by
 have d6:Y6 ((B:Int)+1)=true:=dsm (by omega) (by omega);have d7:Y6 ((J:Int)+1)=true:=dsm (by omega) (by omega);have t1:=htk p v ((B:Int)+1) S hp (by omega) d6;have p2:Xa (S.set p (.lst [.int (v/((B:Int)+1))])) p=yz [.int (v/((B:Int)+1))]:=Xa2 (Xay hp);have t2:=htk p (v/((B:Int)+1)) ((J:Int)+1) _ p2 (by omega) d7;obtain⟨m,em,hm⟩:=Xs0 (Vc2 v (show((B:Int)+1)≠0 by omega)) (Vce v (show(0:Int)<(B:Int)+1 by omega));obtain⟨b,eb,hb⟩:=Xs0 (Vc2 (v/((B:Int)+1)) (show((J:Int)+1)≠0 by omega)) (Vce (v/((B:Int)+1)) (show(0:Int)<(J:Int)+1 by omega));rw[em]at t1;rw[eb]at t2;have g6:Xx .len [.ref U] S=.ok (.int B) S:=by rw[Xfd h6,l6]
 have g7:Xx .len [.ref L] (S.set p (.lst [.int (v/((B:Int)+1))]))=.ok (.int J) (S.set p (.lst [.int (v/((B:Int)+1))])):=by rw[Xfd (by rw[Xji Y];exact h7),l7]
 refine⟨m,b,by omega,by omega,(S.set p (.lst [.int (v/((B:Int)+1))])).set p (.lst [.int (v/((B:Int)+1)/((J:Int)+1))]),?_⟩;have he:ev F G (.tup (.cons (tkp (lnE 6)) (.cons (tkp (lnE 7)) .nil))) [yz (.ref p),a1,a2,a3,a4,a5,yz (.ref U),yz (.ref L),a8,a9] S=.ok (.tup [.int m,.int b]) ((S.set p (.lst [.int (v/((B:Int)+1))])).set p (.lst [.int (v/((B:Int)+1)/((J:Int)+1))])):=by simp only[tkp,lnE,ev,evs,gZ0,gS0,Rk0,g6,Xu,t1,g7,t2,V8];exact iP0 (by decide)
 unfold fr3;rw[exe,he,Rk0];rfl
include hfs in
theorem Xs1{n s ag i:Nat}{env:En}{S:Sto}{q:LL->Bool}(h1:1<=s)(hs:s<=3)(U:ag<=1)(h:Xgk s n ag q=yx)(Y:env[1]?=yz (yz (.int s)))(ei:env[i]?=yz (yz (.int n))):
  Wr s n (Xau s n)/\∃f S' q2,exe F G (fr4 i ag) env S=.ok (.nx (env.set 2 (yz (.ref q2)))) S'/\Up S S'/\Xa S' q2=yz (f.map Xb)/\(la f)<=900/\(∀y∈f,la y<=100)/\q f=true:=by
 obtain⟨hw,h7,hf,r,B,hl,L⟩:=Xz8 h;obtain⟨S',q2,c,u,l,_⟩:=hfs n s ag _ r S h1 hs U rfl hf h7 B;refine⟨hw,r.take n,S',q2,?_,u,l,hl,λy J=>?_,L⟩;·refine Xz ?_;simp only[ev,evs,Y,ei,Rk0];exact c
 ·have:=(Xdp (far:=(Xa3 n s ag 10 0:Nat)) (ag:=(ag:Nat)) (by omega) (by omega) (by omega) s y (Xvv B y (Vek J))).1;omega
include htk hch hfs hle hon hsd in
theorem X0b{p:Nat}{v:Int}{S:Sto}(hp:Xa S p=yz [.int v]):∃S',den F G Y5 [.ref p] S=.ok (.bl yx) S':=by
 have t1:=htk p v 3 S hp (by omega) (dsm (by omega) (by omega));have n0:=Vc2 v (show(3:Int)≠0 by omega);have n1:=Vce v (show(0:Int)<3 by omega);obtain⟨B,es,ac⟩:∃B:Nat,1+v%3=((B+1:Nat):Int)/\B<3:=⟨(v%3).toNat,by omega,by omega⟩;have p1:Xa (S.set p (.lst [.int (v/3)])) p=yz [.int (v/3)]:=Xa2 (Xay hp);have s1:exe F G fr1 [yz (.ref p),yy,yy,yy,yy,yy,yy,yy,yy,yy] S=.ok (.nx [yz (.ref p),yz (.int ((B+1:Nat):Int)),yy,yy,yy,yy,yy,yy,yy,yy]) (S.set p (.lst [.int (v/3)])):=by refine Xz ?_;simp only[tkp,ev,evs,gZ0,Rk0,t1,Xu,es]
 generalize S.set p (.lst [.int (v/3)])=S1 at s1 p1;obtain⟨S2,J,c6,u2,l6,g6⟩:=hch 7 0 (B+1) S1 (by omega) (by omega) (by omega) (by omega) (by omega);obtain⟨S3,L,c7,u3,l7,g7⟩:=hch 4 1 (B+1) S2 (by omega) (by omega) (by omega) (by omega) (by omega);have s2:exe F G fr2 [yz (.ref p),yz (.int ((B+1:Nat):Int)),yy,yy,yy,yy,yy,yy,yy,yy] S1=.ok (.nx [yz (.ref p),yz (.int ((B+1:Nat):Int)),yy,yy,yy,yy,yz (.ref J),yz (.ref L),yy,yy]) S3:=by simp only[fr2,chE,exe,evs,ev,gZ0,gS0,Rk0,c6,c7,V8,if_true];rfl
 have lp:=Xay p1;have ar:=u2.len;obtain⟨m,b,hm,hb,S4,s3⟩:=X4p htk (a1:=yz (.int ((B+1:Nat):Int))) (a2:=yy) (a3:=yy) (a4:=yy) (a5:=yy) (a8:=yy) (a9:=yy) (u3.lst (u2.lst p1)) (u3.lst l6) l7 (Vn _) (Vn _) (Xdq (by omega)).1 (Xdq (by omega)).2 (λz=>by omega);obtain⟨hw,f,U,Y,s4,u5,l2,fl,fs,hq⟩:=Xs1 hfs (S:=S4) (i:=8) (env:=[yz (.ref p),yz (.int ((B+1:Nat):Int)),yy,yy,yy,yy,yz (.ref J),yz (.ref L),yz (.int m),yz (.int b)]) (by omega) (by omega) (by omega) (Xz9 ac hm) rfl rfl;simp only[Xvq,bA0,beq_iff_eq,decide_eq_true_eq]at hq;obtain⟨af,⟨ai,au⟩,ao⟩:=hq;have s5:exe F G fr5 [yz (.ref p),yz (.int ((B+1:Nat):Int)),yz (.ref Y),yy,yy,yy,yz (.ref J),yz (.ref L),yz (.int m),yz (.int b)] U=.ok (.nx [yz (.ref p),yz (.int ((B+1:Nat):Int)),yz (.ref Y),yz (.ref U.length),yy,yy,yz (.ref J),yz (.ref L),yz (.int m),yz (.int b)]) (U++[.lst []]):=Xz (by simp only[ev,evs,Rk0];rfl);obtain⟨S6,x4,s6,u6,l3⟩:=X4m hle (a0:=yz (.ref p)) (a1:=yz (.int ((B+1:Nat):Int))) (a4:=yy) (a5:=yy) (a6:=yz (.ref J)) (a7:=yz (.ref L)) (a8:=yz (.int m)) (a9:=yz (.int b)) l2 fs fl;obtain⟨S7,c8,u7⟩:=Xsz hch hon (far:=7) (ag:=0) (s:=B+1) (q2:=Y) (f:=f) (S:=S6) (env:=[yz (.ref p),yz (.int ((B+1:Nat):Int)),yz (.ref Y),yz (.ref U.length),x4,yy,yz (.ref J),yz (.ref L),yz (.int m),yz (.int b)]) (by omega) (by omega) (by omega) (by omega) (by omega) rfl rfl (u6.lst l2) fl (Xdq (by omega)).1;rw[af]at c8;have s7:=X4n (q3:=U.length) c8 rfl (u7.lst l3) ai (by omega);have l5:Xa (S7++[O.lst [.int (Xr gU (B+1) (Xau (B+1) m):Nat),.int (Xr gL (B+1) (Xau (B+1) m):Nat)]]) (la S7)=yz [.int (Xr gU (B+1) (Xau (B+1) m):Nat),.int (Xr gL (B+1) (Xau (B+1) m):Nat)]:=Xf;have am:=(Xdq (s:=B) (by omega)).1;have an:=(Xdq (s:=B) (by omega)).2;obtain⟨X8,s8⟩:=X4o hsd (m:=m) (s:=B+1) (q5:=S7.length) (w:=Xau (B+1) m) (env:=[yz (.ref p),yz (.int ((B+1:Nat):Int)),yz (.ref Y),yz (.ref U.length),x4,yz (.ref S7.length),yz (.ref J),yz (.ref L),yz (.int m),yz (.int b)]) rfl rfl rfl rfl (by omega) (by omega) (by omega) hw l5;generalize S7++[O.lst [.int (Xr gU (B+1) (Xau (B+1) m):Nat),.int (Xr gL (B+1) (Xau (B+1) m):Nat)]]=S8 at s7 s8 l5;obtain⟨al,f9,S9,q9,s9,u9,l9,aj,ap,aa⟩:=Xs1 hfs (S:=S8++X8) (i:=9) (env:=[yz (.ref p),yz (.int ((B+1:Nat):Int)),yz (.ref Y),yz (.ref U.length),x4,yz (.ref S7.length),yz (.ref J),yz (.ref L),yz (.int m),yz (.int b)]) (by omega) (by omega) (by omega) (X0a ac hb) rfl rfl;simp only[Xvr,beq_iff_eq]at aa;obtain⟨w,X9,ak,c9⟩:=hsd 2 b (B+1) S9 (by omega) (by omega) (by omega) (by omega);obtain rfl:=ak.uniq al;obtain⟨ae,ab,aq⟩:=Xsz hch hon (far:=4) (ag:=1) (s:=B+1) (q2:=q9) (f:=f9) (S:=S9++X9) (env:=[yz (.ref p),yz (.int ((B+1:Nat):Int)),yz (.ref q9),yz (.ref U.length),x4,yz (.ref S7.length),yz (.ref J),yz (.ref L),yz (.int m),yz (.int b)]) (by omega) (by omega) (by omega) (by omega) (by omega) rfl rfl (Xv l9) aj (Xdq (by omega)).2;rw[aa]at ab;refine⟨ae,?_⟩;rw[X4l];refine Xbz (env:=[yz (.ref p),yy,yy,yy,yy,yy,yy,yy,yy,yy]) rfl rfl ?_;have ah:exe F G Xvu [yz (.ref p),yz (.int ((B+1:Nat):Int)),yz (.ref q9),yz (.ref U.length),x4,yz (.ref S7.length),yz (.ref J),yz (.ref L),yz (.int m),yz (.int b)] S9=.ok (.rt (.bl yx)) ae:=by
  have e2:((2:Nat):Int)=2:=rfl;rw[e2]at c9;have g:gK 2=gB:=rfl;rw[g]at c9;have hh:ev F G (.call 20 (.cons (.cst (.int 2)) (.cons (.var 9) (.cons (.var 1) .nil)))) [yz (.ref p),yz (.int ((B+1:Nat):Int)),yz (.ref q9),yz (.ref U.length),x4,yz (.ref S7.length),yz (.ref J),yz (.ref L),yz (.int m),yz (.int b)] S9=.ok (.int (Xr gB (B+1) (Xau (B+1) b):Nat)) (S9++X9):=by simp only[ev,evs,gZ0,gS0,Rk0];exact c9
  unfold Xvu;rw[exe,ev,hh,Rk0,ab,Rk0,Xcu,beq_self_eq_true,Rk0]
 rw[show fr4 8 ((0:Nat):Int)=fr4 8 0 from rfl]at s4;rw[show fr4 9 ((1:Nat):Int)=fr4 9 1 from rfl]at s9;rw[Xc s1,Xc s2,Xc s3,Xc s4];show pb _ _ _ [yz (.ref p),yz (.int ((B+1:Nat):Int)),yz (.ref Y),yy,yy,yy,yz (.ref J),yz (.ref L),yz (.int m),yz (.int b)] U=_;rw[Xc s5,Xc s6,Xc s7];show pb _ _ _ [yz (.ref p),yz (.int ((B+1:Nat):Int)),yz (.ref Y),yz (.ref U.length),x4,yz (.ref S7.length),yz (.ref J),yz (.ref L),yz (.int m),yz (.int b)] S8=_;rw[Xc s8,Xc s9];exact Xp ah
variable{a b:D}{S S1:Sto}{n:Nat}
theorem Xs2{iw:Nat}(h:F iw [a,b] S=.ex n S1):den F G (Xdl iw) [a,b] S=.ex n S1:=by simp only[den,Xdl,V8,if_true,Uk,Vi];rw[Xch (n:=n) (S1:=S1) (by simp only[exe,ev,evs,evit,Vah,Uz,Ud,gZ0,gS0,Rk0,h,R.bind_ex])]
theorem Xir{B:Nat}{elt:Ex}(h:F B [a,b] S=.ex n S1):den F G (Xc2 B elt) [a,b] S=.ex n S1:=by simp only[den,Xc2,V8,if_true,Uk,Vi];rw[Xch (n:=n) (S1:=S1) (by simp only[exe,ev,evs,evit,Vah,Uz,Ud,gZ0,gS0,Rk0,h,R.bind_ex])]
end
theorem X0c(k v:Nat)(hv:v<3){a b:D}{S:Sto}(h:Bad S a b):FT T G (k+6) (3+v) [a,b] S=.ex (la S) (S++[.exc 8]):=by
 have J:=X4e k h;have L:FT T G (k+4) 2 [a,b] S=.ex (la S) (S++[.exc 8]):=by rw[ftx t2];exact Xzw J
 have B:FT T G (k+5) 9 [a,b] S=.ex (la S) (S++[.exc 8]):=by rw[ftx t9];exact Xs2 L
 match v,hv with
 |0,_=>rw[show 3+0=3 from rfl,ftx t3];exact Xir B|1,_=>rw[show 3+1=4 from rfl,ftx t4];exact Xir B|2,_=>rw[show 3+2=5 from rfl,ftx t5];exact Xir B
def NoF(F:Fn):Prop:=∀(v:Nat) (a b:D) (S:Sto),v<3->Bad S a b->∃X,F 20 [.int v,a,b] S=.ok (.str "number") (S++X)
theorem noF(k:Nat):NoF (FT T G (k+7)):=λv a b S hv h=>Xz6 hv (X0c k v hv h.app)
def Xka(F:Fn):Prop:=∀(v n s:Nat) (S:Sto),v<3->n<=1000000000000->1<=s->s<=12->∃w X,Wr s n w/\F 16 [.int v,.int n,.int s] S=.ok (.int (Xr (gK v) s w:Nat)) (S++X)
def Xwv(F:Fn):Prop:=∀(B:LI) (i:Nat) (S:Sto),∃c,F 10 [.fro (B.map D.int),.int i] S=.ok (.int c) S
def X4q(F:Fn):Prop:=∀(c:Int) (S:Sto),∃v,F 11 [.int c] S=.ok (.ref (la S)) (S++[.lst [.int v]])
def X4r(F:Fn):Prop:=∀(p:Nat) (v:Int) (S:Sto),Xa S p=yz [.int v]->∃S',F 22 [.ref p] S=.ok (.bl yx) S'
theorem Xww(k:Nat):Xhe (FT T G (k+7)):=λv n s S hv hn h1 hs=>X7p hv k n s S hn h1 hs
theorem X6p(k:Nat):Xka (FT T G (k+3)):=λv n s S hv hn h1 hs=>next k v n s S hv hn h1 hs
theorem X6q(k:Nat):Xwv (FT T G (k+1)):=λB i S=>by obtain⟨c,h⟩:=Xu1 (F:=FT T G k) (G:=G) B i S;exact⟨c,by rw[ftx t10];exact h⟩
theorem X7r(k:Nat):X4q (FT T G (k+1)):=λc S=>by obtain⟨v,h⟩:=Xzf (F:=FT T G k) (G:=G) c S;exact⟨v,by rw[ftx t11];exact h⟩
theorem t22:T[22]?=yz Y5:=rfl
theorem X7s(k:Nat):X4r (FT T G (k+8)):=λp v S Y=>by
 obtain⟨S',h⟩:=X0b (F:=FT T G (k+7)) (Xlz t12 (k+6)) (chF (k+6)) (λmany size ag far r S h1 hs B ef U h7 L=>first (k+5) S h1 hs B ef U h7 L) (λone S h=>less (k+6) one S h)
  (λqs qg S ks gs h1 h2 J hg ho=>on (k+5) S h1 h2 J hg ho) (Xww k) Y
 exact⟨S',by rw[ftx t22];exact h⟩
theorem Xis{i:Int}(h:i.natAbs.log2<1920)(S:Sto):Xx .repr [.int i] S=.ok (.str (Vaz i).shown) S:=by
 have e:Xkt S (.int i)=yz (Vaz i).shown:=by
  have B:(1921:Nat)<=big:=by decide
  simp only[Xkt,Yq,Xav,Vev,decide_eq_true h,Xfx,Ve9,szD,Vdr,Ug,decide_true];exact iP0 (by rw[Bool.true_and];exact @decide_eq_true (szD (Vaz i)<=big) _ B)
 simp only[Xx,e]
theorem Xqb:∀ {n k:Nat},n<=2^41->k<=13->C n k<=2^533:=λ{n k} hn hk=>by
 calc C n k<=n^k:=X3y n k
  _<=(2^41)^k:=Nat.pow_le_pow_left hn k
  _=2^(41*k):=by rw[<-Nat.pow_mul]
  _<=2^533:=Vge (by decide) (by omega)
theorem X4s{kd a j:Nat}(J:a<2^41)(B:j<=12):gK kd a j<=2^533:=by
 unfold gK;split;·exact Xqb (by omega) (by omega)
 ·split;·exact Xqb (by omega) (by omega)
  ·exact Xqb (by omega) (by omega)
theorem Xvw{kd s n:Nat}{w:LI}(h:Wr s n w)(hn:n<=1000000000000)(hs:s<=12):((Xr (gK kd) s w:Nat):Int).natAbs.log2<1920:=by
 have hb:=Xj6 h;have Y:(2:Nat)^41=2199023255552:=by decide
 have h1:Xr (gK kd) s w<=s*2^533:=Xol s w λx J j hj=>X4s (by have:=hb x J;omega) (by omega);have h2:s*2^533<=12*2^533:=Nat.mul_le_mul_right _ hs;have U:12*2^533<2^1000:=by decide+kernel
 exact Xzn (B:=12*2^533) (l:=[((Xr (gK kd) s w:Nat):Int)]) (λy L=>by rw[U4.mp L,Int.natAbs_natCast];exact Ul h1 h2) U _ (by simp)
noncomputable def no:Sts:=.cons (.ret (.cst (.bl yw))) .nil
noncomputable def sd(a b:Ex):Ex:=.call 20 (.cons (.var 7) (.cons a (.cons b .nil)))
noncomputable def w1:St:=.ite (.cmp .ne (.blt .repr (.cons (sd (.var 3) (.var 4)) .nil)) (.blt .repr (.cons (.call 16 (.cons (.var 7) (.cons (.var 3) (.cons (.var 4) .nil)))) .nil))) no .nil
noncomputable def w2:St:=.asg (.var 8) (.lst (.cons (sd (.var 5) (.var 4)) (.cons (sd (.var 3) (.var 6)) (.cons (sd (.var 5) (.var 6)) .nil))))
noncomputable def Xqc:Ex:=.bin .mul (.lst (.cons (.cst (.str "number")) .nil)) (.cst (.int 3))
noncomputable def zeE:Ex:=.cmp .ne (.blt .repr (.cons (sd (.cst (.int 0)) (.var 4)) .nil)) (.cst (.str "0"))
noncomputable def w3:St:=.ite (.or (.cmp .ne (.var 8) Xqc) zeE) no .nil
noncomputable def Xqd:Sts:=.cons w1 (.cons w2 (.cons w3 .nil))
noncomputable def pn:Vc9:=.list [.str "number",.str "number",.str "number"]
theorem X7t {S:Sto} {a b:Nat} (J:Xa S a=yz [.str "number",.str "number",.str "number"]) (Y:Xa S b=yz [.str "number",.str "number",.str "number"]):Xj .ne (.ref a) (.ref b) S=.ok (.bl yw) S:=by
 have dd:∀a:Nat,Xa S a=yz [.str "number",.str "number",.str "number"]->Yq S (.ref a)=yz pn:=λa h=>by show Xbq S 4 a=_;rw[Xbq,Xcv h];simp only[datFs,Xav,V4];rfl
 have L:(pn.canLay0&&pn.canLay0&&decide (pn.depth<=60))=true:=by decide+kernel
 have U:Vb6 pn pn=true:=by decide+kernel
 have ts:Xb1 (.ref a) (.ref b)=none:=rfl;have B:eqD S (.ref a) (.ref b)=yz true:=by simp only[eqD,ts,dd a J,dd b Y,L,U,if_true]
 simp only[Xj,X7,B,V4,Va4]
section
variable{F:Fn}(hsd:Xhe F)(hnx:Xka F)(hno:NoF F){v n s:Nat}{a b:D}{S:Sto}(hv:v<3)(hn:n<=1000000000000)(h1:1<=s)(hs:s<=12)
include hsd hv in
theorem Xwx{ea eb:Ex}{m t:Nat}{env:En}(J:env[7]?=yz (yz (.int v)))(B:∀S,ev F G ea env S=.ok (.int m) S)(Y:∀S,ev F G eb env S=.ok (.int t) S)(L:m<=1000000000000)(h1:1<=t)(hs:t<=12)(S:Sto):
  ∃w X,Wr t m w/\ev F G (sd ea eb) env S=.ok (.int (Xr (gK v) t w:Nat)) (S++X):=by
 obtain⟨w,X,U,h⟩:=hsd v m t S hv L h1 hs;exact⟨w,X,U,by simp only[sd,ev,evs,J,B,Y,Rk0,h]⟩
include hno hv in
theorem Xqe{ea eb:Ex}{c d:D}{env:En}(B:env[7]?=yz (yz (.int v)))(J:∀S,ev F G ea env S=.ok c S)(L:∀S,ev F G eb env S=.ok d S){S:Sto}(h:Bad S c d):
  ∃X,ev F G (sd ea eb) env S=.ok (.str "number") (S++X):=by
 obtain⟨X,h⟩:=hno v c d S hv h;exact⟨X,by simp only[sd,ev,evs,B,J,L,Rk0,h]⟩
include hsd hnx hno hv hn h1 hs in
theorem X4t{env:En}(he:(la env)=9)(e3:env[3]?=yz (yz (.int n)))(e4:env[4]?=yz (yz (.int s)))(e5:env[5]?=yz (yz a))(e6:env[6]?=yz (yz b))(L:env[7]?=yz (yz (.int v)))
  (ga:Xae S a) (wa:wi a 0 1000000000000=yw) (gb:Xae S b) (wb:wi b 1 12=yw):∃q X,pb F G Xqd env S=.ok (.nx (env.set 8 (yz (.ref q)))) (S++X):=by
 have v3:∀S,ev F G (.var 3) env S=.ok (.int n) S:=λS=>by simp only[ev,e3]
 have v4:∀S,ev F G (.var 4) env S=.ok (.int s) S:=λS=>by simp only[ev,e4]
 have v5:∀S,ev F G (.var 5) env S=.ok a S:=λS=>by simp only[ev,e5]
 have v6:∀S,ev F G (.var 6) env S=.ok b S:=λS=>by simp only[ev,e6]
 have wn:wi (.int n) 0 1000000000000=true:=Xr7 (by omega) (by omega);obtain⟨w,X1,hw,f1⟩:=Xwx hsd hv L v3 v4 hn h1 hs S;obtain⟨w',X2,ae,f2⟩:=hnx v n s (S++X1) hv hn h1 hs;obtain rfl:=ae.uniq hw;have lg:=Xvw (kd:=v) hw hn hs;have c1:ev F G (.cmp .ne (.blt .repr (.cons (sd (.var 3) (.var 4)) .nil)) (.blt .repr (.cons (.call 16 (.cons (.var 7) (.cons (.var 3) (.cons (.var 4) .nil)))) .nil))) env S=.ok (.bl yw) (S++X1++X2):=by rw[ev,ev,evs,f1,Rk0,evs,Rk0,Rk0,Xis lg,Rk0];simp only[ev,evs,L,e3,e4,Rk0,f2,Xis lg,Xof]
 have s1:exe F G w1 env S=.ok (.nx env) (S++X1++X2):=Xas c1;rw[V2]at s1;generalize X1++X2=X at s1;have b1:Bad (S++X) a (.int s):=.inl ⟨Yc ga,wa⟩;obtain⟨B,y1⟩:=Xqe hno hv L v5 v4 b1;have b2:Bad (S++X++B) (.int n) b:=.inr ⟨Xan _ _,wn,Yc (Yc gb),wb⟩;obtain⟨J,y2⟩:=Xqe hno hv L v3 v6 b2;have b3:Bad (S++X++B++J) a b:=.inl ⟨Yc (Yc (Yc ga)),wa⟩;obtain⟨U,y3⟩:=Xqe hno hv L v5 v6 b3;have Y:exe F G w2 env (S++X)=.ok (.nx (env.set 8 (yz (.ref (S++X++B++J++U).length)))) (S++X++B++J++U++[.lst [.str "number",.str "number",.str "number"]]):=Xz (by rw[ev,evs,y1,Rk0,evs,y2,Rk0,evs,y3,Rk0,evs,Rk0,Rk0,Rk0,Rk0];exact iP0 (by show 3<=big;decide));have q1:Xa (S++X++B++J++U++[O.lst [.str "number",.str "number",.str "number"]]) (S++X++B++J++U).length=yz [.str "number",.str "number",.str "number"]:=Xf;generalize (S++X++B++J++U).length=q at Y q1;simp only[V2]at Y q1;generalize X++(B++(J++(U++[O.lst [.str "number",.str "number",.str "number"]])))=Z at Y q1;generalize hE:env.set 8 (yz (.ref q))=E at Y;have g8:E[8]?=yz (yz (.ref q)):=by rw[<-hE];exact Va0 (by omega)
 have g7:E[7]?=yz (yz (.int v)):=by rw[<-hE,Vab (by omega)];exact L
 have g4:E[4]?=yz (yz (.int s)):=by rw[<-hE,Vab (by omega)];exact e4
 have aa:lstM (S++Z++[O.lst [.str "number"]]) (S++Z).length=yz [.str "number"]:=Xf;have t:ev F G Xqc E (S++Z)=.ok (.ref (S++Z++[O.lst [.str "number"]]).length) (S++Z++[.lst [.str "number"]]++[.lst [.str "number",.str "number",.str "number"]]):=by simp only[Xqc,ev,evs,Rk0];rw[iP0 (show([D.str "number"]:LD).length<=big by decide),Rk0];simp only[Xw,aa];rw[iP0 ⟨by decide,by decide,by decide⟩];rfl
 have ab:=X7t (S:=S++Z++[.lst [.str "number"]]++[.lst [.str "number",.str "number",.str "number"]]) (Xv (Xv q1)) (Xf (S:=S++Z++[O.lst [.str "number"]]));have c3:ev F G (.cmp .ne (.var 8) Xqc) E (S++Z)=.ok (.bl yw) (S++Z++[.lst [.str "number"]]++[.lst [.str "number",.str "number",.str "number"]]):=by rw[ev,ev,g8];simp only[Rk0,t];exact ab
 obtain⟨w0,X4,ac,f4⟩:=Xwx hsd hv g7 (ea:=.cst (.int 0)) (eb:=.var 4) (m:=0) (t:=s) (λS=>by simp only[ev];rfl) (λS=>by simp only[ev,g4]) (by omega) h1 hs (S++Z++[.lst [.str "number"]]++[.lst [.str "number",.str "number",.str "number"]]);obtain rfl:=ac.zero;have g0:Xr (gK v) s []=0:=by cases s<;>rfl
 rw[g0]at f4;have r0:∀S,Xx .repr [.int ((0:Nat):Int)] S=.ok (.str "0") S:=λS=>by rw[Xis (by decide)];congr 2
 have c4:ev F G zeE E (S++Z++[.lst [.str "number"]]++[.lst [.str "number",.str "number",.str "number"]])=.ok (.bl yw) (S++Z++[.lst [.str "number"]]++[.lst [.str "number",.str "number",.str "number"]]++X4):=by unfold zeE;rw[ev,ev,evs,f4,Rk0,evs,Rk0,Rk0,r0,Rk0,ev,Rk0,Xof]
 have s3:exe F G w3 E (S++Z)=.ok (.nx E) (S++Z++[.lst [.str "number"]]++[.lst [.str "number",.str "number",.str "number"]]++X4):=Xas (by rw[ev,c3,Rk0];simp only[Xh];exact c4);refine⟨q,Z++[.lst [.str "number"]]++[.lst [.str "number",.str "number",.str "number"]]++X4,?_⟩;unfold Xqd;rw[Xc s1,Xc Y,Xc s3,pb,hE];simp only[V2]
end
noncomputable def tk(e:Ex):Ex:=.call 12 (.cons (.var 2) (.cons e .nil))
noncomputable def p10(i:Int):Ex:=.bin .pow (.cst (.int 10)) (.cst (.int i))
noncomputable def Xqf:Exs:=.cons (.cst (.int 10)) (.cons (.cst (.int 1001)) (.cons (p10 6) (.cons (.bin .add (p10 12) (.cst (.int 1))) .nil)))
noncomputable def Xvx:Exs:=.cons (.neg (.cst (.int 1))) (.cons (.bin .add (p10 12) (.cst (.int 1))) (.cons (.cst (.bl yx)) (.cons (.cst .non) (.cons (.cst (.str "1")) (.cons (.tup (.cons (.cst (.int 1)) .nil)) (.cons (.lst (.cons (.cst (.int 1)) .nil)) (.cons (p10 59) .nil)))))))
noncomputable def Xvy:Exs:=.cons (.cst (.int 0)) (.cons (.cst (.int 13)) (.cons (.neg (.cst (.int 1))) (.cons (.cst (.bl yw)) (.cons (.cst (.bl yx)) (.cons (.cst .non) (.cons (.cst (.str "1")) (.cons (.tup (.cons (.cst (.int 1)) .nil)) (.cons (.lst (.cons (.cst (.int 1)) .nil)) .nil))))))))
noncomputable def M1:St:=.asg (.var 2) (.call 11 (.cons (.call 10 (.cons (.var 0) (.cons (.var 1) .nil))) .nil))
noncomputable def M2:St:=.asg (.var 3) (tk (.idx (.lst Xqf) (tk (.cst (.int 4)))))
noncomputable def M3:St:=.asg (.var 4) (.bin .add (.cst (.int 1)) (tk (.cst (.int 12))))
noncomputable def M4:St:=.asg (.var 5) (.idx (.lst Xvx) (tk (.cst (.int 8))))
noncomputable def M5:St:=.asg (.var 6) (.idx (.lst Xvy) (tk (.cst (.int 9))))
noncomputable def M6:St:=.for (.var 7) (.rng (.cons (.cst (.int 3)) .nil)) Xqd
noncomputable def M7:St:=.ite (.not (.call 22 (.cons (.var 2) .nil))) no .nil
noncomputable def Xkb:Sts:=.cons M1 (.cons M2 (.cons M3 (.cons M4 (.cons M5 (.cons M6 (.cons M7 .nil))))))
theorem Xvz:Xp1=.cons (.for (.var 1) (.rng (.cons (.blt .max (.cons (.cst (.int 1)) (.cons (.blt .min (.cons (.blt .len (.cons (.var 0) .nil)) (.cons (.cst (.int 5)) .nil))) .nil))) .nil)) Xkb) (.cons (.ret (.cst (.bl yx))) .nil):=rfl
noncomputable def e59:Int:=10^(59:Int).toNat
theorem pw6(S:Sto):Xw .pow (.int 10) (.int 6) S=.ok (.int 1000000) S:=Xcj (by decide+kernel) S
theorem Xvm(S:Sto):Xw .pow (.int 10) (.int 12) S=.ok (.int 1000000000000) S:=Xcj (by decide+kernel) S
theorem X7u(S:Sto):Xw .pow (.int 10) (.int 59) S=.ok (.int e59) S:=Xcj (by decide+kernel) S
noncomputable def Xit:LD:=[.int 10,.int 1001,.int 1000000,.int (1000000000000+1)]
noncomputable def Xgl(q:Nat):LD:=[.int (-1),.int (1000000000000+1),.bl yx,.non,.str "1",.tup [.int 1],.ref q,.int e59]
noncomputable def Xet(q:Nat):LD:=[.int 0,.int 13,.int (-1),.bl yw,.bl yx,.non,.str "1",.tup [.int 1],.ref q]
section
variable{F:Fn}
theorem X0d(env:En)(S:Sto):evs F G Xqf env S=.ok Xit S:=by simp only[Xqf,Xit,p10,evs,ev,Rk0,pw6,Xvm,Xu]
theorem X0e(env:En)(S:Sto):evs F G Xvx env S=.ok (Xgl (la S)) (S++[.lst [.int 1]]):=by
 have h1:([D.int 1]:LD).length<=big:=by decide
 simp only[Xvx,Xgl,p10,evs,ev,Rk0,Xvm,X7u,Xu,h1,if_true]
theorem X0f(env:En)(S:Sto):evs F G Xvy env S=.ok (Xet (la S)) (S++[.lst [.int 1]]):=by
 have h1:([D.int 1]:LD).length<=big:=by decide
 simp only[Xvy,Xet,evs,ev,Rk0,h1,if_true]
end
theorem Xmh{S:Sto}{q:Nat}{xs:LD}(h:Xa S q=yz xs):Xae S (.ref q):=⟨.list,by simp only[kdD,Xcv h],λc z=>nomatch z⟩
theorem X4u{d:D}(h:d∈Xit):∃i:Int,d=.int i/\0<i/\i<=1000000000001/\Y6 i=true:=by
 unfold Xit at h;simp only[Vt,U3,or_false]at h;rcases h with rfl|rfl|rfl|rfl;·exact⟨_,rfl,by decide,by decide,by decide+kernel⟩
 ·exact⟨_,rfl,by decide,by decide,by decide+kernel⟩
 ·exact⟨_,rfl,by decide,by decide,by decide+kernel⟩
 exact⟨_,rfl,by decide,by decide,by decide+kernel⟩
theorem X0g{d:D}{S:Sto}(h:d∈Xgl (la S)):Xae (S++[.lst [.int 1]]) d/\wi d 0 1000000000000=false:=by
 have e:wi (.int e59) 0 1000000000000=false:=by decide+kernel
 unfold Xgl at h;simp only[Vt,U3,or_false]at h;rcases h with rfl|rfl|rfl|rfl|rfl|rfl|rfl|rfl;·exact⟨Xan _ _,rfl⟩
 ·exact⟨Xan _ _,rfl⟩
 ·exact⟨Xaa _ _ (λ_ z=>nomatch z) (λ_ _ z=>nomatch z),rfl⟩
 ·exact⟨Xaa _ _ (λ_ z=>nomatch z) (λ_ _ z=>nomatch z),rfl⟩
 ·exact⟨Xaa _ _ (λ_ z=>nomatch z) (λ_ _ z=>nomatch z),rfl⟩
 ·exact⟨Xaa _ _ (λ_ z=>nomatch z) (λ_ _ z=>nomatch z),rfl⟩
 ·exact⟨Xmh Xf,rfl⟩
 exact⟨Xan _ _,e⟩
theorem X0h{d:D}{S:Sto}(h:d∈Xet (la S)):Xae (S++[.lst [.int 1]]) d/\wi d 1 12=false:=by
 unfold Xet at h;simp only[Vt,U3,or_false]at h;rcases h with rfl|rfl|rfl|rfl|rfl|rfl|rfl|rfl|rfl;·exact⟨Xan _ _,rfl⟩
 ·exact⟨Xan _ _,rfl⟩
 ·exact⟨Xan _ _,rfl⟩
 ·exact⟨Xaa _ _ (λ_ z=>nomatch z) (λ_ _ z=>nomatch z),rfl⟩
 ·exact⟨Xaa _ _ (λ_ z=>nomatch z) (λ_ _ z=>nomatch z),rfl⟩
 ·exact⟨Xaa _ _ (λ_ z=>nomatch z) (λ_ _ z=>nomatch z),rfl⟩
 ·exact⟨Xaa _ _ (λ_ z=>nomatch z) (λ_ _ z=>nomatch z),rfl⟩
 ·exact⟨Xaa _ _ (λ_ z=>nomatch z) (λ_ _ z=>nomatch z),rfl⟩
 exact⟨Xmh Xf,rfl⟩
section
variable{F:Fn}(hce:Xwv F)(hpo:X4q F)(htk:Xj4 F 12)(hsd:Xhe F)(hnx:Xka F)(hno:NoF F)(hfw:X4r F)
include hce hpo htk hsd hnx hno hfw
theorem turn{ns:LI}{i:Nat}{x2 x3 x4 x5 x6 x7 x8:Option D}{S:Sto}:
  ∃y2 y3 y4 y5 y6 U J S',pb F G Xkb [yz (.fro (ns.map D.int)),yz (.int i),x2,x3,x4,x5,x6,x7,x8] S=.ok (.nx [yz (.fro (ns.map D.int)),yz (.int i),y2,y3,y4,y5,y6,U,J]) S':=by
 obtain⟨c,hc⟩:=hce ns i S;obtain⟨v,hv⟩:=hpo c S;generalize D.fro (ns.map D.int)=sc at hc;have s1:exe F G M1 [yz sc,yz (.int i),x2,x3,x4,x5,x6,x7,x8] S=.ok (.nx [yz sc,yz (.int i),yz (.ref (la S)),x3,x4,x5,x6,x7,x8]) (S++[.lst [.int v]]):=Xz (by simp only[ev,evs,gZ0,gS0,Rk0,hc,hv]);have p1:Xa (S++[O.lst [.int v]]) (la S)=yz [.int v]:=Xf;generalize S++[O.lst [.int v]]=S1 at s1 p1;generalize (la S)=p at s1 p1;obtain⟨f,hf,e2⟩:=Xu6 (F:=F) (G:=G) htk (q:=2) (c:=4) (p:=p) (v:=v) (env:=[yz sc,yz (.int i),yz (.ref p),x3,x4,x5,x6,x7,x8]) (X0d _ S1) rfl (by decide) (by show 4<=big;decide) (dsm (by omega) (by omega)) rfl p1;obtain⟨j,rfl,j0,j1,jd⟩:=X4u hf;have p2:=Xem (ds:=Xit) (c:=4) p1;have t2:=htk p (v/4) j _ p2 j0 jd;have r0:=Vc2 (v/4) (Int.ne_of_gt j0);have r1:=Vce (v/4) j0;have p3:=Xa2 (x:=[.int (v/4/j)]) (Xay p2);obtain⟨n,hn⟩:∃n:Nat,v/4%j=n:=⟨(v/4%j).toNat,by omega⟩;rw[hn]at t2;have s2:exe F G M2 [yz sc,yz (.int i),yz (.ref p),x3,x4,x5,x6,x7,x8] S1=.ok (.nx [yz sc,yz (.int i),yz (.ref p),yz (.int n),x4,x5,x6,x7,x8]) _:=Xz (by rw[tk,ev,evs,ev];simp only[gZ0,gS0,Rk0];rw[evs];rw[show(Ex.idx (.lst Xqf) (tk (.cst (.int 4))))=_ from rfl,tk,e2];simp only[Rk0,evs];exact t2);generalize ((S1++[O.lst Xit]).set p (.lst [.int (v/4)])).set p (.lst [.int (v/4/j)])=S2 at s2 p3;generalize v/4/j=L at p3;have t3:=htk p L 12 S2 p3 (by omega) (dsm (by omega) (by omega));have p4:=Xa2 (x:=[.int (L/12)]) (Xay p3);have u0:=Vc2 L (show(12:Int)≠0 by omega);have u1:=Vce L (show(0:Int)<12 by omega);obtain⟨s,hs⟩:∃s:Nat,1+L%12=s:=⟨(1+L%12).toNat,by omega⟩;have s3:exe F G M3 [yz sc,yz (.int i),yz (.ref p),yz (.int n),x4,x5,x6,x7,x8] S2=.ok (.nx [yz sc,yz (.int i),yz (.ref p),yz (.int n),yz (.int s),x5,x6,x7,x8]) (S2.set p (.lst [.int (L/12)])):=Xz (by simp only[tk,ev,evs,gZ0,gS0,Rk0,t3,Xu,hs]);generalize S2.set p (.lst [.int (L/12)])=S3 at s3 p4;generalize L/12=v3 at p4;obtain⟨a,ha,e4⟩:=Xu6 (F:=F) (G:=G) htk (q:=2) (c:=8) (p:=p) (v:=v3) (env:=[yz sc,yz (.int i),yz (.ref p),yz (.int n),yz (.int s),x5,x6,x7,x8]) (X0e _ S3) rfl (by decide) (by show 8<=big;decide) (dsm (by omega) (by omega)) rfl (Xv p4);obtain⟨ga,wa⟩:=X0g ha;have p5:=Xem (ds:=Xgl S3.length) (c:=8) (Xv (X:=[.lst [.int 1]]) p4);have ac:Xae ((S3++[O.lst [.int 1]]++[O.lst (Xgl S3.length)]).set p (.lst [.int (v3/8)])) a:=Xgc (Yc ga);have s4:exe F G M4 [yz sc,yz (.int i),yz (.ref p),yz (.int n),yz (.int s),x5,x6,x7,x8] S3=.ok (.nx [yz sc,yz (.int i),yz (.ref p),yz (.int n),yz (.int s),yz a,x6,x7,x8]) _:=Xz e4;generalize (S3++[O.lst [.int 1]]++[O.lst (Xgl S3.length)]).set p (.lst [.int (v3/8)])=B at s4 p5 ac;generalize v3/8=v4 at p5;obtain⟨b,hb,e5⟩:=Xu6 (F:=F) (G:=G) htk (q:=2) (c:=9) (p:=p) (v:=v4) (env:=[yz sc,yz (.int i),yz (.ref p),yz (.int n),yz (.int s),yz a,x6,x7,x8]) (X0f _ B) rfl (by decide) (by show 9<=big;decide) (dsm (by omega) (by omega)) rfl (Xv p5);obtain⟨gb,wb⟩:=X0h hb;have p6:=Xem (ds:=Xet B.length) (c:=9) (Xv (X:=[.lst [.int 1]]) p5);have aa:Xae ((B++[O.lst [.int 1]]++[O.lst (Xet B.length)]).set p (.lst [.int (v4/9)])) b:=Xgc (Yc gb);have ab:Xae ((B++[O.lst [.int 1]]++[O.lst (Xet B.length)]).set p (.lst [.int (v4/9)])) a:=Xgc (Yc (Yc ac));have s5:exe F G M5 [yz sc,yz (.int i),yz (.ref p),yz (.int n),yz (.int s),yz a,x6,x7,x8] B=.ok (.nx [yz sc,yz (.int i),yz (.ref p),yz (.int n),yz (.int s),yz a,yz b,x7,x8]) _:=Xz e5;generalize (B++[O.lst [.int 1]]++[O.lst (Xet B.length)]).set p (.lst [.int (v4/9)])=S5 at s5 p6 aa ab;generalize v4/9=v5 at p6;obtain⟨xs,hx,hl⟩:=Xag (m:=3) (by omega) (by omega);obtain⟨e',S',f6,⟨U,J,rfl⟩,X,rfl⟩:=Xci (F:=F) (G:=G) (t:=.var 7) (b:=Xqd) (xs:=xs) (es:=.cons (.cst (.int 3)) .nil) (env:=[yz sc,yz (.int i),yz (.ref p),yz (.int n),yz (.int s),yz a,yz b,x7,x8]) (S:=S5) (S1:=S5) (ds:=[.int 3])
  (λ_ e S'=>(∃U J,e=[yz sc,yz (.int i),yz (.ref p),yz (.int n),yz (.int s),yz a,yz b,U,J])/\∃X,S'=S5++X) (by simp only[evs,ev,Rk0]) hx ⟨⟨_,_,rfl⟩,[],by simp⟩ (λk d e S' hd hP=>by
   obtain⟨⟨U,J,rfl⟩,X,rfl⟩:=hP;obtain⟨rfl,hk⟩:=Xax hx hd;obtain⟨q,Y,hy⟩:=X4t hsd hnx hno (v:=k) (n:=n) (s:=s) (a:=a) (b:=b) (S:=S5++X) (by omega) (by omega) (by omega) (by omega) (env:=[yz sc,yz (.int i),yz (.ref p),yz (.int n),yz (.int s),yz a,yz b,yz (.int k),J]) rfl rfl rfl rfl rfl rfl (Yc ab) wa (Yc aa) wb
   exact⟨_,_,_,rfl,hy,⟨_,_,rfl⟩,X++Y,by rw[V2]⟩)
 obtain⟨S7,h7⟩:=hfw p v5 (S5++X) (Xv p6);have s7:exe F G M7 [yz sc,yz (.int i),yz (.ref p),yz (.int n),yz (.int s),yz a,yz b,U,J] (S5++X)=.ok (.nx [yz sc,yz (.int i),yz (.ref p),yz (.int n),yz (.int s),yz a,yz b,U,J]) S7:=Xas (by simp only[ev,evs,gZ0,gS0,Rk0,h7,Xh];rfl);have s6:exe F G M6 [yz sc,yz (.int i),yz (.ref p),yz (.int n),yz (.int s),yz a,yz b,x7,x8] S5=_:=f6;refine⟨yz (.ref p),yz (.int n),yz (.int s),yz a,yz b,U,J,S7,?_⟩;unfold Xkb;rw[Xc s1,Xc s2,Xc s3,Xc s4,Xc s5,Xc s6,Xc s7,pb]
theorem X0i{ns:LI}:∃S',den F G Xha [.fro (ns.map D.int)] []=.ok (.bl yx) S':=by
 obtain⟨m,hm,m0,m1⟩:=Z.turns (F:=F) (G:=G) (env:=[yz (D.fro (ns.map D.int)),yy,yy,yy,yy,yy,yy,yy,yy]) (S:=[]) (ns:=ns) 5 (by decide) (by decide) rfl;obtain⟨xs,hx,hl⟩:=Xag (m:=m) m0 (Xpr (by omega));obtain⟨e',S',f2,_⟩:=Xci (F:=F) (G:=G) (t:=.var 1) (b:=Xkb) (xs:=xs)
  (λi e S'=>∃y1 y2 Y L U B J y8,e=[yz (.fro (ns.map D.int)),y1,y2,Y,L,U,B,J,y8]) hm hx ⟨_,_,_,_,_,_,_,_,rfl⟩ (λi d e S' hd hP=>by obtain⟨y1,y2,Y,L,U,B,J,y8,rfl⟩:=hP;obtain⟨rfl,hi⟩:=Xax hx hd;obtain⟨z2,z3,z4,z5,z6,z7,z8,S2,t1⟩:=turn hce hpo htk hsd hnx hno hfw (ns:=ns) (i:=i) (x2:=y2) (x3:=Y) (x4:=L) (x5:=U) (x6:=B) (x7:=J) (x8:=y8) (S:=S');exact⟨_,_,S2,rfl,t1,_,_,_,_,_,_,_,_,rfl⟩)
 refine⟨S',Xbz (env:=[yz (D.fro (ns.map D.int)),yy,yy,yy,yy,yy,yy,yy,yy]) rfl rfl ?_⟩;show pb F G Xp1 _ _=_;rw[Xvz,Xc f2];exact Xp (by simp only[exe,ev,Rk0])
end
theorem t23:T[23]?=yz Xha:=rfl
theorem law_true(ns:LI)(h:(la ns)<=63):∃S',FT T G 14 23 [.fro (ns.map D.int)] []=.ok (.bl yx) S':=by obtain⟨S',h⟩:=X0i (F:=FT T G 13) (X6q 12) (X7r 12) (Xlz t12 12) (Xww 6) (X6p 10) (noF 6) (X7s 5) (ns:=ns);exact⟨S',by rw[ftx t23];exact h⟩
end K33
end
section
namespace K33
open PySem PySem.Spec PyProof.Rows L2 Z
set_option maxHeartbeats 0 in
theorem all_mk {P:Vy} {w:V9} {K:Ve} {h:Heap} {mg:Str->OV} {fa:Addr} {t0 t1:Tok} (X:K.In h) (B:h.Ns Ub mg) (ao:mg "law"=yz (.ref fa))
  (er:Xt7 K=yx) (bl:X3s K=yx) (lm:Xc9 K "_law_first_ones"=yx) (g0:Vaa K Ub "GREATEST_NUMBER"=yz (yz (.int 1000000000000 t0))) (g1:Vaa K Ub "MOST_CHOSEN"=yz (yz (.int 12 t1)))
  (f0:FunAt K "is_whole" (top 19)) (f1:FunAt K "is_whole_within" (top 20)) (f2:FunAt K "writing" (top 24)) (f3:FunAt K "most_above" (top 25)) (f4:FunAt K "least_below" (top 26)) (f5:FunAt K "bags_above" (top 27)) (f6:FunAt K "check_written" (top 28)) (f7:FunAt K "ways" (top 29)) (f8:FunAt K "most_things" (top 30)) (f9:FunAt K "written_parts" (top 31)) (am:FunAt K "_law_cell_at" (top 33)) (ak:FunAt K "_law_pot" (top 34)) (ab:FunAt K "_law_take" (top 35)) (af:FunAt K "_law_word" (top 36)) (L:FunAt K "_law_ways" (top 37)) (ah:FunAt K "_law_writing" (top 38)) (aj:FunAt K "_law_next_by" (top 39)) (an:FunAt K "_law_choices" (top 40)) (Y:FunAt K "_law_first_ones" (top 41)) (aa:FunAt K "_law_less_one" (top 42)) (al:FunAt K "_law_said" (top 43)) (U:FunAt K "_law_on" (top 44)) (ae:FunAt K "_law_few_right" (top 45)) (J:FunAt K "law" (top 46)):
  ∃fd:Vc3,(∀(s:Vc) (u:Vb),BindsTo s fd ⟨[u],[]⟩ [("_law_script",u)])/\∀base:Heap,K.In base->((∃m∈mks,Xc9 K m=yx)->BM mg base)->FnOk P w K mg base (CXd P w) 14 fa fd ["_law_script"] (spD K 1 (FT T G 14 23)):=by
 have ac:=Xym er;have ai:=Xzc X B bl;have hg:∀(k:Nat) nm,gns[k]?=yz nm->∃u d,mg nm=yz u/\G[k]?=yz d/\∀ ρ H,∃v,RelV v u/\RD K ρ H d v:=λk nm e=>by
  match k,e with
  |0,e=>cases e;exact Xn5 X B g0|1,e=>cases e;exact Xn5 X B g1|2,e=>cases e;exact Xly X B f3|3,e=>cases e;exact Xly X B f4|4,e=>cases e;exact Xly X B f5|k+5,e=>cases e
 have hD:AllD K mg fns gns fns T:=AllD.c (dk X B f0 Xp2 Xgb) <| AllD.c (dk X B f1 Xfj Xlx) <| AllD.c (dk X B f2 Xss Xbo) <| AllD.c (dk X B f3 Xmb Xbo) <| AllD.c (dk X B f4 Xjt Xbo) <| AllD.c (dk X B f5 Xmc Xbo) <| AllD.c (dk X B f6 Xhb Xbo) <| AllD.c (dk X B f7 X4b Xbo) <| AllD.c (dk X B f8 Xju Xbo) <| AllD.c (dk X B f9 Xhc Xbo) <| AllD.c (dk X B am Xim Xbo) <| AllD.c (dk X B ak Xp3 Xgb) <| AllD.c (dk X B ab Xmw Xbo) <| AllD.c (dk X B af Xmx Xgb) <| AllD.c (dk X B L Xmy Xbo) <| AllD.c (dk X B ah Xin Xbo) <| AllD.c (dk X B aj Xio Xlx) <| AllD.c (dk X B an Xip Xlx) <| AllD.c (dk X B Y Xfk Xlx (X58 lm (by decide+kernel))) <| AllD.c (dk X B aa Xhd Xgb) <| AllD.c (dk X B al Xmz Xlx) <| AllD.c (dk X B U Xst Xbo) <| AllD.c (dk X B ae Xgh Xgb) <| AllD.c (dk X B J Xp4 Xgb) <| True.intro
 exact law_fn (k:=13) (d:=Xha) (st:=top 46) (N:=Xwu) X B ao ac ai hg hD.get rfl J (ms Xp4) (mm Xp4) rfl rfl Xgb
noncomputable def kept:LM:=[top 1,top 2,top 3,top 4,top 5,top 6,top 7,top 8,top 9,top 10,top 11,top 12,top 13,top 14,top 15,top 16,top 17,top 19,top 20,top 22,top 23,top 24,top 25,top 26,top 27,top 28,top 29,top 30,top 31,top 33,top 34,top 35,top 36,top 37,top 38,top 39,top 40,top 41,top 42,top 43,top 44,top 45,top 46]
noncomputable def Q:Vy:={ PySem.Challenge.pw_facecounts_k33_above_and_below with main:={ PySem.Challenge.pw_facecounts_k33_above_and_below.main with body:=kept} }
end K33
open PySem PySem.W PyProof.Rows
noncomputable def PySem.W.Fast.tw6467166062016730824:PySem.Program:=PySem.Challenge.pw_facecounts_k33_above_and_below
theorem PySem.W.Fast.te6467166062016730824:PySem.Challenge.pw_facecounts_k33_above_and_below=PySem.W.Fast.tw6467166062016730824:=rfl
lay_quick Z.topT PySem.W.topStub
set_option maxRecDepth 100000 in
set_option maxHeartbeats 0 in
theorem K33.st_ok:Z.RunT PySem.Challenge.pw_facecounts_k33_above_and_below (λw s=>staticsOk (Vd1 PySem.Challenge.pw_facecounts_k33_above_and_below.main.body) (boot_heap w.params) s.abs.heap&&namesBound PySem.Challenge.pw_facecounts_k33_above_and_below s.abs.heap&&gensDone s.abs&&laidKept (boot_heap w.params) s.abs.heap) λ_=>true:=by intro w os;rw[PySem.W.Fast.te15842407815417585275,PySem.W.Fast.te2530740449226627131,Vff];kernel_rfl
set_option maxRecDepth 100000 in
set_option maxHeartbeats 0 in
theorem K33.seen_ok:Z.RunT PySem.Challenge.pw_facecounts_k33_above_and_below (λ_ s=>openSeen K33.Q [] (Vd1 PySem.Challenge.pw_facecounts_k33_above_and_below.main.body) (λs=>PySem.W.xlAt K33.Q [] s&&PySem.W.recOk [] s) yx s.abs) λ_=>openGood K33.Q []:=by intro w os;unfold K33.Q K33.kept K33.top;rw[PySem.W.Fast.te4187177175401517315,PySem.W.Fast.te15842407815417585275,PySem.W.Fast.te2530740449226627131,Vff];kernel_rfl
local macro_rules | `(tactic| o_head $H)=>`(tactic|
 refine PySem.W.holds_open (q:=K33.Q) (loose:=[]) (Xt:=λs=>PySem.W.xlAt K33.Q [] s&&PySem.W.recOk [] s)
  (XP:=PySem.W.XL K33.Q []) (Yf:=PySem.W.Hook.obs $H) (Ya:=PySem.W.Hook.val $H)
  (YP:=PySem.W.Hook.says $H) (N:=40000) ?hl (PySem.W.Hook.of $H) (PySem.W.Hook.keeps $H)
  (λs e=>PySem.W.xl_of s (Bool.and_eq_true_iff.mp e).1) PySem.W.XL.keeps
  (by rfl) (by rfl) (by rfl)
  (λs e=>PySem.W.recFacts_of (Bool.and_eq_true_iff.mp e).2)
  (by rfl) (by first|assumption|decide+kernel) (by decide+kernel)
  ⟨rfl,rfl,rfl,rfl,rfl,by decide+kernel⟩ ?hw ?hc)
set_option maxRecDepth 100000 in
set_option maxHeartbeats 0 in
theorem PySem.Challenge.cw_facecounts_k33_above_and_below_holds : PySem.Challenge.rw_facecounts_k33_above_and_below.Holds := by
 w_on;o_law;x_head
 (case hl =>
  refine Z.left_tree3 (p:=PySem.Challenge.pw_facecounts_k33_above_and_below) (by kernel_rfl) (λs=>by kernel_rfl) K33.st_ok K33.seen_ok ?_
  intro w os;dsimp only[PySem.W.kHook];rw[PySem.W.Fast.te15842407815417585275,PySem.W.Fast.te2530740449226627131,PySem.W.Fast.te14364793385576792824]
  kernel_rfl)
 (case hw=>w_witness2)
 k_fill
 refine Z.walk_zT [335] (l:=PySem.Challenge.rw_facecounts_k33_above_and_below) (T:=K33.T) (G:=K33.G) (k:=14) (f:=23) (x:="_law_script") rfl rfl ⟨rfl,rfl,by decide,by decide⟩ (λw h Y=>PySem.W.kIn_of Y) (λw=>by kernel_rfl) (λw=>by kernel_rfl) ?F K33.law_true
 case F =>
  as_aux_lemma =>
   intro w mg fa h hb KX G hmg;refine' K33.all_mk KX G hmg ?er ?bl ?lm ?g0 ?g1 ?f0 ?f1 ?f2 ?f3 ?f4 ?f5 ?f6 ?f7 ?f8 ?f9 ?f10 ?f11 ?f12 ?f13 ?f14 ?f15 ?f16 ?f17 ?f18 ?f19 ?f20 ?f21 ?f22 ?f23
   (case g0=>refine Z.ns_dr hb ?_;k_is)
   (case g1=>refine Z.ns_dr hb ?_;k_is)
   (case er=>kernel_rfl)
   (case bl=>kernel_rfl)
   (case lm=>kernel_rfl)
   all_goals (refine Z.fun_dr hb ?_;refine' Z.funAt_mk ?a ?l ?c ?k;(case a=>k_is);(case l=>k_is);(case c=>k_is);(case k=>k_is))
end
