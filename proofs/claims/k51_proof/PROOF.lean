import PyProof.Rows.All
import Wide.All
import OpenK.AllK
import Wide.FinOn
import Lean
import PyProof.EqAt
import PyProof.EqKinds
import PyProof.TupleCall
import PySem.Challenge.RW_facecounts_k51_what_bars_a_row
set_option Elab.async false
set_option linter.all false
set_option maxRecDepth 100000
set_option exponentiation.threshold 3000
set_option genSizeOf false
set_option genSizeOfSpec false
universe u
open PySem renaming wpAny_bind→Va,wpAny_pure→Vg,wpAny_mono→Vj,sizeLine→Vt,starEach→Vx,mainGlobals→Vz,wpAny_field→V3,wpAny_setField_rec→Ua,wpAny_callSpecial?_slot→Uc,wpAny_isNot_plain→Uk,wpAny_call_entry→Uq,wpAny_is_plain→U1,wpAny_holding→U5,assignEach→U8,compareOp→Vaa,wpAny_loadPart'→Vaf,Env→Vah,wpAny_newObj_type→Vai,cellsFrom→Vao,foldedSetIterable→Vaq,wpAny_Call_Name_kw→Vau,mem_of_lookup→Va3,sliceBounds→Va6,Comprehension→Va9,wpAny_seqItems→Vbf,letOwnedTupleGo→Vbl,binaryOp→Vbm,FuncData→Vbv,wpAny_passesOwn→Vby,wpAny_attempt→Vb3,swapsWithSole→Vb4,swappedStores→Vb5,wpAny_truthy_bool→Vb6,sysModules→Vb7,wpAny_rule→Vca,bootBuiltins→Vcd,importedModules→Vcr,NameKind→Vct,builtinLookup_eq_fast→Vcy,wpAny_standAt→Vdb,swapsWith→Vdr,call_meets→Vdt,wpAny_typeOf→Veb,codeAny_mono→Vee,typeLookup_type→Veh,wpAny_execs_nil→Vei,wpAny_updateSeq_pair→Vej,wpAny_updateSeq→Ven,wpAny_Tuple_spliced→Vet,wpAny_Assign_stores→Vev,wpAny_newTuple→Vez,wpAny_pyIter_tuple→Ve3,wpAny_assign_Name→Vfa,wpAny_sequenceKey→Vfb,wpAny_pyIter_list→Vfe,wpAny_binaryOp_repeat_ref→Vfi,wpAny_comprehension_free→Vfm,wpAny_getItem_list_slice→Vfo
open PySem.Heap renaming get?_push_of_some→Vb,get?_push_size→Vk,lt_size→Vm,SameBut→Ui,size_push→Vad,get?_update_other→Va5,get?_update_self→Vbe
open List renaming range→Vc,replicate→Vd,getElem?_eq_some_iff→Ve,mem_cons→Vl,size_toArray→Vn,append_assoc→Vo,append_nil→Vp,getElem?_append_left→Vq,length_map→Vr,length→V0,getElem?_map→V1,map→V2,not_mem_nil→V4,getElem?_eq_none_iff→V7,length_cons→Ug,nil_append→Uj,filterMap_cons→Ul,replicate_succ→Um,cons_append→Ur,mem_singleton→Us,getElem?_range→Uu,all_eq_true→Uv,mem_cons_of_mem→Uw,getElem?_set_ne→Ux,getElem?_eq_getElem→Uy,mem_append→Uz,mem_append_right→U0,length_range→U3,mem_of_getElem?→U4,lookup_cons→U7,getElem?_append_right→Vac,mem_map→Vag,set→Vak,all_cons→Val,getD_eq_getElem?_getD→Van,flatten_cons→Vap,map_append→Va2,getElem?_set_self→Va4,range_succ_eq_map→Va8,length_take→Vba,isEmpty_iff→Vbc,mem_range→Vbd,getElem?_eq_none→Vbg,forIn_cons→Vbo,getElem?_replicate→Vbu,mem_cons_self→Vbw,length_append→Vbx,set_append_right→Vbz,getElem_mem→Vcf,map_congr_left→Vch,take_of_length_le→Vcv,map_map→Vc1,set_getElem_self→Vc2,length_drop→Vc6,map_cons→Vda,getD_cons_succ→Vdh,nodup_cons→Vdi,range_succ→Vdk,mem_filterMap→Vdl,filterMap_map→Vdn,getD→Vds,forIn_nil→Vdu,sum_cons→Vd7,getElem?_toArray→Vd9,getElem?_reverse→Vea,foldl→Vec,mem_iff_getElem→Veg,length_nil→Vel,mem_of_mem_take→Vep,eq_nil_of_length_eq_zero→Veq,length_reverse→Veu,map_replicate→Ve5,nodup_append→Vfd,mem_of_find?_eq_some→Vfl
open PySem.W renaming Frag→Vf,hideAll_none→Up,nsIn→U6,hideAll→Vaz,fnOf→Va7,mg_of→Vbt,keepIn→Vcc,of_hideAll→Vcn,findIn→Vc0,hideAll_get→Vdf,callWith_K→Vdq,kitOne→Vdv,cellsFrom_some→Vd2,excIn→Vd6,codeIn→Vex,methodObj→Ve9
open Nat renaming le_refl→Vh,lt_of_lt_of_le→Vu,le_trans→Vy,ne_of_lt→V5,sub_self→Ue,zero_le→Uo,lt_succ_self→Vbb,lt_of_le_of_lt→Vbj,ne_of_gt→Vbk,lt_succ_of_lt→Vbr,lt_irrefl→Vb0,zero_add→Vcg,mul_assoc→Vcl,le_of_lt→Vcw,mul_comm→Vcx,pow_le_pow_right→Vc7,lt_of_succ_lt→Vd1,succ_mul→Ved,add_zero→Vem,pow_succ→Veo,mul_le_mul_left→Vew
open Option.some renaming injEq→Vi,inj→V6
open Option renaming map_some→Vs,bind_some→Vv,map_eq_some_iff→V8,isSome_some→Vbh,isSome_iff_exists→Vbn,getD_some→Vce,bind_eq_some_iff→Vdy
open PySem.Builtin.SmallTypes renaming nextOf→Vw,ownedTupleIsFree→Uf,ownedTupleHandOut→Vav
open Bool renaming false_ne_true→V9,false_eq_true→Ud,not_eq_true'→Var,or_eq_true→Va0,false_and→Vcb,and_self→Vck,true_and→Vde,or_false→Vd4
open PySem.Str renaming ofString→Ub,length_append→Vff
open PyProof.Rows renaming callWith_type1→Uh,slot_tuple_getitem→Vab,callWith_builtin1→Vas,subscriptTail→Vc9,entry_tuple_getitem→Ves,assignInOrder_cons→Ve0,args_tuple_getitem→Ve1,spliced_more→Vfj,spliced_none→Vfk
open PySem.Calls renaming spliced_cons→Ut,spliced_nil→Vax,evalArgs_plain→Vek,Name_function_global→Ve6
open PySem.PyData renaming showable→U2,depth→Vam,showableAll→Vaw,shownAll→Vbq,eqv→Vb9,depthAll→Vcs,shown→Vcz,canLayAll0→Vfc
open PySem.Obj renaming mapSeq→U9
open PySem.Value renaming ref→Vae,none→Vcm,bool→Vc4,type→Vc5
open PySem.F renaming slot_enumerate_next→Vaj,slot_zip_next→Vbp,slot_tuple_iterator_next→Vb2,args_enumerate_next_1→Vcj,entry_enumerate_next→Vcu,plain_extend_loop→Vdg,args_tuple_add_2→Vdm,entry_tuple_add→Vdx,args_zip_next_1→Vd0,slot_tuple_add→Vd3,entry_zip_next→Vd8,args_tuple_iterator_next_1→Vey,entry_tuple_iterator_next→Ve2
open PySem.Builtin.Tuple renaming tupleExact→Vat,tupleItemsOf→Vc8,tupleTooMany→Ve7
open Int renaming toNat_natCast→Vay,emod_nonneg→Va1,emod_lt_of_pos→Vbi,natCast_mul→Vco,natAbs_natCast→Ve4,natAbs_add_le→Vfg
open Function renaming comp_def→Vbs,comp→Vdd
open PySem.Builtin.Slice renaming sliceApplied→Vb1,slicePlaces→Vb8,sliceAdjust→Vdj,sliceFields→Vfh
open PySem.Builtin.Range renaming rangeSize→Vci
open ForInStep renaming yield→Vcp
open PySem.Heap.IsSliceOf renaming new→Vcq
open PySem.Builtin.List renaming listExtendWith→Vc3,listTooLong→Vdo,listSameRef→Vfn
open Prod.mk renaming injEq→Vdc
open PySem.AutoSeq1 renaming sub_tuple_tuple→Vdp
open PySem.W.Fast renaming te14364793385576792824→Vdw
open PySem.Heap.SameBut renaming refl→Vdz
open PySem.NameKind renaming free→Vd5
open False renaming elim→Vef
open Array renaming length_toList→Ver,getElem?_eq_some_iff→Ve8
theorem gZ0{α:Type u}{a:α}{l:List α}:(a::l)[0]?=some a:=rfl
theorem gS0{α:Type u}{a:α}{i:Nat}{l:List α}:(a::l)[i+1]?=l[i]?:=rfl
theorem bA0(a b:Bool):((a&&b)=true)=(a=true∧b=true):=Bool.and_eq_true a b
section
namespace L2
open PySem PySem.Spec PyProof.Rows
noncomputable abbrev Key:=Sum Int Str
noncomputable def Xxb:Key->Value->Bool
 | .inl k,v=>Value.isInt k v
 | .inr x,v=>Value.isStrOf x v
noncomputable def X7l(w:World):Key->Int
 | .inl k=>hashInt k
 | .inr x=>hashStr w x
theorem Yr:∀ {k:Key} {v:Value},Xxb k v=true->(∃ i t,k=Sum.inl i/\v=Value.int i t)\/(∃ x t,k=Sum.inr x/\v=Value.str x t)
 | .inl i,v,h=>by
  obtain⟨t,e⟩:=Value.isInt_shape (k:=i) (v:=v) h;exact .inl ⟨i,t,rfl,e⟩
 | .inr x,v,h=>by
  obtain⟨t,e⟩:=Value.isStrOf_shape (x:=x) (v:=v) h;exact .inr ⟨x,t,rfl,e⟩
theorem X1g(a b:Int):decide ((Sum.inl a:Key)=Sum.inl b)=(a==b):=by
 by_cases e:a=b
 ·subst e;simp
 ·have h:¬ (Sum.inl a:Key)=Sum.inl b:=fun q=>e (Sum.inl.inj q)
  rw[decide_eq_false h];exact(beq_eq_false_iff_ne.mpr e).symm
theorem X1h(a b:Str):decide ((Sum.inr a:Key)=Sum.inr b)=decide (a=b):=by
 by_cases e:a=b
 ·subst e;simp
 ·have h:¬ (Sum.inr a:Key)=Sum.inr b:=fun q=>e (Sum.inr.inj q)
  rw[decide_eq_false h,decide_eq_false e]
theorem X1i(a:Int)(b:Str):decide ((Sum.inl a:Key)=Sum.inr b)=false:=decide_eq_false (fun q=>nomatch q)
theorem X1j(a:Str)(b:Int):decide ((Sum.inr a:Key)=Sum.inl b)=false:=decide_eq_false (fun q=>nomatch q)
noncomputable def Xhg(prog:Program)(w:World):PySem.KeyKind prog w Key where
 is:=Xxb
 hash:=X7l w
 inj:=fun v a b ha hb=>by
  rcases Yr ha with⟨i,t,rfl,rfl⟩|⟨x,t,rfl,rfl⟩
  ·rcases Yr hb with⟨j,u,rfl,e⟩|⟨y,u,rfl,e⟩
   ·injection e with e1 _;rw[e1]
   ·exact nomatch e
  ·rcases Yr hb with⟨j,u,rfl,e⟩|⟨y,u,rfl,e⟩
   ·exact nomatch e
   ·injection e with e1 _;rw[e1]
 byValue:=fun k v h=>by
  rcases Yr h with⟨i,t,rfl,rfl⟩|⟨x,t,rfl,rfl⟩<;>rfl
 pyHash:=fun hv h=>by
  rcases Yr hv with⟨i,t,rfl,rfl⟩|⟨x,t,rfl,rfl⟩
  ·exact wpAny_pyHash_int h
  ·exact wpAny_pyHash_str h
 eqBool:=fun hu hv h=>by
  rcases Yr hu with⟨i,t,rfl,rfl⟩|⟨x,t,rfl,rfl⟩
  ·rcases Yr hv with⟨j,u,rfl,rfl⟩|⟨y,u,rfl,rfl⟩
   ·rw[X1g] at h;exact wpAny_eqBool_int h
   ·rw[X1i] at h;exact SeqAt.EqAt.int_str i t y u _ _ _ _ h
  ·rcases Yr hv with⟨j,u,rfl,rfl⟩|⟨y,u,rfl,rfl⟩
   ·rw[X1j] at h;exact SeqAt.EqAt.str_int x t j u _ _ _ _ h
   ·rw[X1h] at h;exact wpAny_eqBool_str h
 «strs»:=fun k x t v h=>by
  rcases Yr h with⟨i,u,rfl,e⟩|⟨y,u,rfl,e⟩
  ·exact nomatch e
  ·injection e with e1 _
   subst e1;cases v<;>rfl
end L2
namespace L2
open PySem PySem.Spec PyProof.Rows
inductive V where
 | non|bl (b:Bool)|int (i:Int)|str (x:Str)|byt (b:Array UInt8)|flt (b:UInt64)|ref (a:Addr)|ty (n:String)
 deriving DecidableEq
def RelV:V->Value->Prop
 | .non,u=>u=Vcm
 | .bl b,u=>u=Vc4 b
 | .int i,u=>∃ t,u=Value.int i t
 | .str x,u=>∃ t,u=Value.str x t
 | .byt b,u=>∃ t,u=Value.bytes b t
 | .flt b,u=>∃ t,u=Value.float b t
 | .ref a,u=>u=Vae a
 | .ty n,u=>u=Vc5 n
abbrev Vals:List V->List Value->Prop:=Paired RelV
theorem Vals.length{xs:List V}{us:List Value}(r:Vals xs us):xs.length=us.length:=Paired.length r
theorem Vals.get:∀ {xs:List V} {us:List Value} {i:Nat} {x:V},Vals xs us->xs[i]?=some x->∃ u,us[i]?=some u/\RelV x u
 | _,_,_,_,.nil,e=>by simp at e
 | _,_,0,_,.cons r _,e=>by simp at e;subst e;exact⟨_,rfl,r⟩
 | _,_,i+1,x,.cons _ t,e=>by
  obtain⟨u,h1,h2⟩:=Vals.get (i:=i) (x:=x) t (by simpa using e)
  exact⟨u,by simpa using h1,h2⟩
theorem Vals.set{x:V}{u:Value}(r:RelV x u):∀ {xs:List V} {us:List Value} (i:Nat),Vals xs us->Vals (xs.set i x) (us.set i u)
 | _,_,_,.nil=>.nil
 | _,_,0,.cons _ t=>.cons r t
 | _,_,i+1,.cons q t=>.cons q (Vals.set r i t)
theorem Vals.append:∀ {xs ys:List V} {us ws:List Value},Vals xs us->Vals ys ws->Vals (xs++ys) (us++ws)
 | _,_,_,_,.nil,s=>s
 | _,_,_,_,.cons r t,s=>.cons r (Vals.append t s)
theorem Vals.take:∀ {xs:List V} {us:List Value} (n:Nat),Vals xs us->Vals (xs.take n) (us.take n)
 | _,_,0,_=>.nil
 | _,_,_+1,.nil=>.nil
 | _,_,n+1,.cons r t=>.cons r (Vals.take n t)
theorem Vals.drop:∀ {xs:List V} {us:List Value} (n:Nat),Vals xs us->Vals (xs.drop n) (us.drop n)
 | _,_,0,r=>r
 | _,_,_+1,.nil=>.nil
 | _,_,n+1,.cons _ t=>Vals.drop n t
def X1k:Option V->Option Value->Prop
 | some v,some u=>RelV v u
 | none,none=>True
 | _,_=>False
def KV{κ:Type}:List (κ×V)->List (κ×Value)->Prop:=Paired fun(p:κ×V) (q:κ×Value)=>p.1=q.1/\RelV p.2 q.2
noncomputable def kV:Key->V
 | .inl i=>.int i
 | .inr x=>.str x
inductive HO where
 | lst (xs:List V)
 | tup (xs:List V)
 | dK (kvs:List (Key×V))|dT (kvs:List (List Key×V))
 | set (S:Int->Bool) (n:Nat)
 | ins (C dx:Addr) (fs:List (Str×V))
 | own (x:Addr)
 | xd (fs:List (Str×V))
 | met (f x:Addr)
 | rng (lo hi:Int)
 | frz (o:Obj) (u:HO)
 | tbl (ps:Array Value)
 | ext (φ:Heap->Prop)
noncomputable abbrev Hp:=Addr->Option HO
noncomputable def upd(H:Hp)(a:Addr)(o:HO):Hp:=fun b=>if b=a then some o else H b
theorem Xz{H:Hp}{a:Addr}{o:HO}:upd H a o a=some o:=by unfold upd;rw[if_pos rfl]
theorem Xh{H:Hp}{a b:Addr}{o:HO}(h:b≠a):upd H a o b=H b:=by unfold upd;rw[if_neg h]
theorem Xx4{H:Hp}{a:Addr}{o u:HO}:upd (upd H a o) a u=upd H a u:=by
 funext b;unfold upd;split<;>rfl
theorem Xxc{H:Hp}{a b:Addr}{o u:HO}(h:H a=some o)(h':H b=some u)(d:o≠u):a≠b:=by
 intro e;subst e;rw[h] at h';exact d (V6 h')
theorem Xn{H:Hp}{a b:Addr}{o:HO}(h:H a=some o)(h':H b=none):a≠b:=by
 intro e;subst e;rw[h] at h';cases h'
section
variable(P:Program)(w:World)
def ObjOk(H:Hp)(h:Heap)(a:Addr):HO->Prop
 | .lst xs=>xs.length<=Vt/\∃ (its:List Value) (n:Nat),Vals xs its/\h.get? a=some { cls:=.type "list",data:=.seq its.toArray n }
 | .tup xs=>xs.length<=Vt/\∃ its:List Value,Vals xs its/\IsTup h a its.toArray
 | .dK kvs=>kvs.length<=Vt/\(a==Vb7)=false/\∃ vs,KV kvs vs/\h.DictOf (Xhg P w) a vs
 | .dT kvs=>kvs.length<=Vt/\(a==Vb7)=false/\∃ xs:List (List Key×Addr×Value),
   Paired (fun(p:List Key×V) (q:List Key×Addr×Value)=>p.1=q.1/\H q.2.1=some (.tup (p.1.map kV))/\RelV p.2 q.2.2) kvs xs /\
   ∃ o es ep,h.get? a=some o/\o.ExactDict/\o.data=.dict es ep/\es.toList=xs.map (entryOfKey (tupleKind (Xhg P w)))/\(xs.map (·.1)).Nodup
 | .set S n=>h.SetOf (intKind P w) a S n
 | .ins C dx fs=>H dx=some (.own a)/\fs.length<=1000/\dx≠a/\h.get? a=some (PySem.W.instObj C dx) /\
   ∃ mA,h.Ns1 dx mA/\(∀ f,X1k (fs.lookup f) (mA f))/\PySem.Within mA (fs.map (·.1))
 | .own _=>∃ o,h.get? a=some o
 | .xd fs=>∃ mA,h.Ns1 a mA/\∀ f,X1k (fs.lookup f) (mA f)
 | .rng lo hi=>∃ t u v,h.get? a=some { cls:=.type "range",data:=.fields #[.int lo t,.int hi u,.int 1 v] }
 | .frz o u=>h.get? a=some o/\ObjOk H h a u
 | .tbl ps=>h.get? a=some { cls:=.none,data:=.fields ps }
 | .met f x=>h.get? a=some (Ve9 (.ref f) (.ref x))
 | .ext φ=>φ h/\(∃ o,h.get? a=some o)/\∀ h1 h2:Heap,φ h1->(∀ o,h1.get? a=some o->h2.get? a=some o)->φ h2
def HOk(H:Hp)(h:Heap):Prop:=∀ a o,H a=some o->ObjOk P w H h a o
end
section
variable{P:Program}{w:World}{H H':Hp}{h h':Heap}{a:Addr}{o:HO}
theorem ObjOk.lt(x:ObjOk P w H h a o):a<h.objs.size:=by
 cases o with
 | lst xs=>obtain⟨_,_,_,_,e⟩:=x;exact Vm e
 | tup xs=>obtain⟨_,_,_,p⟩:=x;exact p.lt
 | dK kvs=>obtain⟨_,_,_,_,o,_,_,e,_⟩:=x;exact Vm e
 | dT kvs=>obtain⟨_,_,_,_,o,_,_,e,_⟩:=x;exact Vm e
 | set S n=>obtain⟨o,_,_,_,e,_⟩:=x;exact Vm e
 | ins C dx fs=>obtain⟨_,_,_,e,_⟩:=x;exact Vm e
 | own y=>obtain⟨_,e⟩:=x;exact Vm e
 | xd fs=>obtain⟨_,⟨_,_,_,e,_⟩,_⟩:=x;exact Vm e
 | rng lo hi=>obtain⟨_,_,_,e⟩:=x;exact Vm e
 | frz ob u=>obtain⟨e,_⟩:=x;exact Vm e
 | tbl ps=>exact Vm (show h.get? a=some _ from x)
 | met f y=>exact Vm (show h.get? a=some _ from x)
 | ext φ=>obtain⟨_,⟨_,e⟩,_⟩:=x;exact Vm e
theorem Paired.mapP{α β:Type}{F G:α->β->Prop}:∀ {l₁:List α} {l₂:List β},Paired F l₁ l₂->(∀ a b,F a b->G a b)->Paired G l₁ l₂
 | _,_,.nil,_=>.nil
 | _,_,.cons r t,f=>.cons (f _ _ r) (Paired.mapP t f)
theorem ObjOk.stay(x:ObjOk P w H h a o)(k:∀ b u,(b=a\/H b=some (.own a))->h.get? b=some u->h'.get? b=some u)
  (ho:∀ b,H b=some (.own a)->H' b=some (.own a)) (ht:∀ b xs,H b=some (.tup xs)->H' b=some (.tup xs)):ObjOk P w H' h' a o:=by
 induction o with
 | lst xs=>obtain⟨z,its,n,r,e⟩:=x;exact⟨z,its,n,r,k _ _ (.inl rfl) e⟩
 | tup xs=>obtain⟨z,its,r,ob,e,c⟩:=x;exact⟨z,its,r,ob,k _ _ (.inl rfl) e,c⟩
 | dK kvs=>obtain⟨z,y,vs,r,ob,es,ep,e,c⟩:=x;exact⟨z,y,vs,r,ob,es,ep,k _ _ (.inl rfl) e,c⟩
 | dT kvs =>
  obtain⟨z,y,xs,r,ob,es,ep,e,c⟩:=x;exact⟨z,y,xs,Paired.mapP r fun p q z=>⟨z.1,ht _ _ z.2.1,z.2.2⟩,ob,es,ep,k _ _ (.inl rfl) e,c⟩
 | set S n=>obtain⟨ob,es,ep,t,e,c⟩:=x;exact⟨ob,es,ep,t,k _ _ (.inl rfl) e,c⟩
 | ins C dx fs =>
  obtain⟨d,z,ne,e,mA,⟨od,es,ep,e2,c⟩,r⟩:=x;exact⟨ho _ d,z,ne,k _ _ (.inl rfl) e,mA,⟨od,es,ep,k _ _ (.inr d) e2,c⟩,r⟩
 | own y=>obtain⟨ob,e⟩:=x;exact⟨ob,k _ _ (.inl rfl) e⟩
 | xd fs=>obtain⟨mA,⟨od,es,ep,e,c⟩,r⟩:=x;exact⟨mA,⟨od,es,ep,k _ _ (.inl rfl) e,c⟩,r⟩
 | rng lo hi=>obtain⟨t,u,v,e⟩:=x;exact⟨t,u,v,k _ _ (.inl rfl) e⟩
 | frz ob u ih=>obtain⟨e,q⟩:=x;exact⟨k _ _ (.inl rfl) e,ih q⟩
 | tbl ps =>
  have e:h.get? a=some { cls:=.none,data:=.fields ps }:=x;show h'.get? a=some { cls:=.none,data:=.fields ps };exact k a _ (.inl rfl) e
 | met f y =>
  have e:h.get? a=some (Ve9 (.ref f) (.ref y)):=x;show h'.get? a=some (Ve9 (.ref f) (.ref y));exact k a _ (.inl rfl) e
 | ext φ=>obtain⟨p,⟨o,e⟩,st⟩:=x;exact⟨st _ _ p fun o q=>k _ _ (.inl rfl) q,⟨o,k _ _ (.inl rfl) e⟩,st⟩
theorem HOk.lt(x:HOk P w H h)(e:H a=some o):a<h.objs.size:=(x a o e).lt
theorem HOk.fresh(x:HOk P w H h)(e:h.objs.size<=a):H a=none:=by
 cases q:H a with
 | none=>rfl
 | some u=>exact absurd (Vu (x.lt q) e) (Vb0 _)
theorem HOk.kept(x:HOk P w H h)(k:∀ b u,h.get? b=some u->h'.get? b=some u):HOk P w H h':=fun a o e =>
 (x a o e).stay (fun b u _ q=>k b u q) (fun _ q=>q) fun _ _ q=>q
theorem HOk.laid(x:HOk P w H h)(k:∀ b u,h.get? b=some u->h'.get? b=some u)(hp:h.objs.size<=a)(new:ObjOk P w (upd H a o) h' a o):HOk P w (upd H a o) h':=fun b u e=>by
 have hn:=x.fresh hp
 by_cases hb:b=a
 ·subst hb;rw[Xz] at e;cases e;exact new
 ·rw[Xh hb] at e
  exact(x b u e).stay (fun c v _ q=>k c v q) (fun c q=>by rw[Xh (Xn q hn)];exact q) fun c xs q=>by rw[Xh (Xn q hn)];exact q
end
def Rd(H:Hp)(a:Addr)(u:HO):Prop:=H a=some u\/∃ o,H a=some (.frz o u)
theorem Rd.ok{P:Program}{w:World}{H:Hp}{h:Heap}{a:Addr}{u:HO}(r:Rd H a u)(x:HOk P w H h):ObjOk P w H h a u:=by
 rcases r with r|⟨o,r⟩
 ·exact x a u r
 ·obtain⟨_,q⟩:=x a _ r
  exact q
def Mut:Option HO->Prop
 | some (.lst _)=>True
 | some (.dK _)=>True
 | some (.dT _)=>True
 | some (.set _ _)=>True
 | some (.ins _ _ _)=>True
 | some (.ext _)=>True
 | _=>False
section
variable{P:Program}{w:World}{H:Hp}{h h':Heap}{x e:Addr}{o':HO}
theorem HOk.write(ok:HOk P w H h)(mu:Mut (H x))(he:e=x\/H e=some (.own x))(k:∀ b u,b≠e->h.get? b=some u->h'.get? b=some u)(heo:∃ u,h'.get? e=some u)
  (new:ObjOk P w (upd H x o') h' x o'):HOk P w (upd H x o') h':=fun b u q=>by
 have nown:∀ c y,H c=some (.own y)->c≠x:=fun c y r z=>by subst z;rw[r] at mu;exact mu
 have ntup:∀ c xs,H c=some (.tup xs)->c≠x:=fun c xs r z=>by subst z;rw[r] at mu;exact mu
 by_cases hb:b=x
 ·subst hb;rw[Xz] at q;cases q;exact new
 ·rw[Xh hb] at q
  by_cases hbe:b=e
  ·have q':H b=some (.own x):=by
    rcases he with z|z
    ·exact absurd (hbe.trans z) hb
    ·rw[hbe];exact z
   rw[q] at q';cases q';obtain⟨v,hv⟩:=heo;exact⟨v,by rw[hbe];exact hv⟩
  ·refine(ok b u q).stay (fun c v hc r=>k c v ?_ r) (fun c r=>by rw[Xh (nown c b r)];exact r) fun c xs r=>by rw[Xh (ntup c xs r)];exact r
   rcases hc with rfl|hc
   ·exact hbe
   ·rintro rfl
    rcases he with z|z
    ·exact nown c b hc z
    ·rw[hc] at z;cases z;exact hb rfl
end
structure Un(fs ex:List Addr)(H H':Hp)(h h':Heap):Prop where
 keep:∀ b o,h.get? b=some o->H b=none->b ∉ fs->b ∉ ex->h'.get? b=some o
 slot:∀ b o,h.get? b=some o->H b=none->b∈fs->b ∉ ex->∃ sl,h'.get? b=some { o with slots:=sl }
 free:∀ b o,h.get? b=some o->H b=none->b ∉ ex->H' b=none
 there:∀ b o,h.get? b=some o->b ∉ ex->∃ o',h'.get? b=some o'
 tups:∀ b xs,H b=some (.tup xs)->H' b=some (.tup xs)
 frzs:∀ b o u,H b=some (.frz o u)->H' b=some (.frz o u)
 tbls:∀ b ps,H b=some (.tbl ps)->∃ more,H' b=some (.tbl (ps++more))
section
variable{fs fs' ex ex':List Addr}{H H1 H2:Hp}{h h1 h2 h':Heap}{a x e:Addr}{o:HO}
theorem Un.any(u:Un fs ex H H1 h h1){b:Addr}{ob:Obj}(q:h.get? b=some ob)(n:H b=none)(hx:b ∉ ex):∃ sl,h1.get? b=some { ob with slots:=sl }:=by
 by_cases hb:b∈fs
 ·exact u.slot b ob q n hb hx
 ·exact⟨ob.slots,u.keep b ob q n hb hx⟩
theorem Un.kept(k:∀ b u,h.get? b=some u->h'.get? b=some u):Un fs ex H H h h' :=
 ⟨fun b ob q _ _ _=>k b ob q,fun b ob q _ _ _=>⟨ob.slots,k b ob q⟩,fun _ _ _ n _=>n,fun b ob q _=>⟨ob,k b ob q⟩,fun _ _ q=>q,fun _ _ _ q=>q,fun _ ps q=>⟨#[],by rw[q];simp⟩⟩
theorem Un.refl:Un fs ex H H h h:=Un.kept fun _ _ q=>q
theorem Un.laid(k:∀ b u,h.get? b=some u->h'.get? b=some u)(hp:h.objs.size<=a)(hn:H a=none):Un fs ex H (upd H a o) h h' where
 keep:=fun b u q _ _ _=>k b u q
 slot:=fun b u q _ _ _=>⟨u.slots,k b u q⟩
 free:=fun b u q n _=>by rw[Xh (V5 (Vu (Vm q) hp))];exact n
 there:=fun b u q _=>⟨u,k b u q⟩
 tups:=fun b xs q=>by rw[Xh (Xn q hn)];exact q
 frzs:=fun b u xs q=>by rw[Xh (Xn q hn)];exact q
 tbls:=fun b ps q=>⟨#[],by rw[Xh (Xn q hn),q];simp⟩
theorem Un.write(mu:Mut (H x))(he:e=x\/H e=some (.own x))(k:∀ b u,b≠e->h.get? b=some u->h'.get? b=some u)(heo:∃ u,h'.get? e=some u):Un fs ex H (upd H x o) h h':=by
 have hx:∀ b,H b=none->b≠x:=fun b n z=>by subst z;rw[n] at mu;exact mu
 have hb:∀ b,H b=none->b≠e:=fun b n z=>by
  subst z;rcases he with r|r
  ·exact hx b n r
  ·rw[n] at r;cases r
 have hm:∀ b u,H b=some u->¬ Mut (some u)->b≠x:=fun b u q nm z=>by subst z;rw[q] at mu;exact nm mu
 refine⟨fun b u q n _ _=>k b u (hb b n) q,fun b u q n _ _=>⟨u.slots,k b u (hb b n) q⟩,fun b u q n _=>by rw[Xh (hx b n)];exact n,fun b u q _=>?_,
  fun b xs q=>by rw[Xh (hm b _ q fun z=>z)];exact q,fun b u xs q=>by rw[Xh (hm b _ q fun z=>z)];exact q,fun b ps q=>⟨#[],by rw[Xh (hm b _ q fun z=>z),q];simp⟩⟩
 by_cases hbe:b=e
 ·subst hbe;exact heo
 ·exact⟨u,k b u hbe q⟩
end
noncomputable def trk(h:Heap)(H:Hp):List Addr:=(Vc h.objs.size).filter fun a=>(H a).isSome
noncomputable def Xds(h:Heap)(H:Hp):Heap:=Vaz h (trk h H)
theorem Xqy(h:Heap)(H:Hp):(Xds h H).objs.size=h.objs.size:=PySem.W.hideAll_size _ _
theorem Xtv{h:Heap}{H:Hp}{b:Addr}{o:Obj}(e:h.get? b=some o)(n:H b=none):(Xds h H).get? b=some o :=
 Vdf _ e fun hm=>by
  have q:(H b).isSome=true:=(List.mem_filter.mp hm).2;rw[n] at q;simp at q
theorem Xx5{h:Heap}{H:Hp}{b:Addr}{o:Obj}(e:(Xds h H).get? b=some o):h.get? b=some o/\H b=none:=by
 have e':h.get? b=some o:=Vcn (trk h H) e;refine⟨e',?_⟩;cases q:H b with
 | none=>rfl
 | some x =>
  have hm:b∈trk h H:=List.mem_filter.mpr ⟨Vbd.mpr (Vm e'),by simp[q]⟩
  have z:(Xds h H).get? b=none:=Up (trk h H) hm;rw[z] at e;cases e
noncomputable def Xx6(g h:Heap)(L:Addr):List (Addr×Obj):=(Vc h.objs.size).filterMap fun a=>if a=L\/(g.get? a).isSome=true then none else (h.get? a).map fun o=>(a,o)
noncomputable def Xam(g h:Heap)(L d:Addr):List (Addr×Obj):=(Xx6 g h L).filter fun p=>decide (p.1≠d)
end L2
namespace L2
open PySem PySem.Spec PyProof.Rows
structure Mod(K:Vf)(mg:Str->Option Value)(base:Heap):Prop where
 kin:K.In base
 glob:base.Ns Vz mg
 blt:∃ mb,base.Ns builtinsNs mb/\∀ x:Str,x ≠ "__name__" -> mb x=Vcd x
 nolimit:base.NoLimit
structure Cx where
 prog:Program
 w:World
 K:Vf
 mg:Str->Option Value
 base:Heap
 A:Around
 N:List Str
 s₀:Shared
 H₀:Hp
 env:Env
 outer:List Env
 stack:List Env
 ex:List Addr
 fn:Str->Bool
 calm:Bool
 pn:List (Addr×Obj)
 xe:Value->Shared->Prop
noncomputable def frs(l:List Env):List Addr:=l.filterMap (·.frame)
noncomputable abbrev Cx.fs(X:Cx):List Addr:=frs X.outer
def Vis(sc:Scope)(x:Str):Prop:=sc.names.lookup x=some .local\/sc.names.lookup x=some .cell\/sc.names.lookup x=some .free
def Loc(sc:Scope)(x:Str):Prop:=sc.names.lookup x=some .local\/sc.names.lookup x=some .cell
def X7m(env:Env)(h:Heap)(m:Str->Option Value)(x:Str)(u:Value):Prop :=
 (env.kindOf x=some .local/\m x=some u)\/((env.kindOf x=some .cell\/env.kindOf x=some .free)/\∃ c,env.cells.lookup x=some c/\h.IsCell c (some u))
structure Cx.Ok(X:Cx):Prop where
 mod:Mod X.K X.mg X.base
 kind:X.env.scope.kind=.function
 glob:X.env.globals=Vz
 blt:X.env.builtins=builtinsNs
 above:X.s₀.heap.objs.size<=X.env.locals
 inj:∀ x y c,X.env.cells.lookup x=some c->X.env.cells.lookup y=some c->x=y
 has:∀ x,(X.env.kindOf x=some .cell\/X.env.kindOf x=some .free)->∃ c,X.env.cells.lookup x=some c
 cab:∀ x c,X.fn x=true->X.env.cells.lookup x=some c->X.s₀.heap.objs.size<=c
 hd:X.calm=true->X.A.handled=none
 frames:X.A.frames=some X.stack
 stk:X.stack=X.outer\/(X.stack=X.env::X.outer/\X.env.frame=some X.env.locals)
 exf:∀ b∈X.ex,b≠X.env.locals/\∀ x c,X.env.cells.lookup x=some c->c≠b
 bs:∀ b o,X.base.get? b=some o->X.s₀.heap.get? b=some o/\X.H₀ b=none
 bsz:X.base.objs.size<=X.s₀.heap.objs.size
 noex:∀ b o,X.base.get? b=some o->b ∉ X.ex
 exfs:∀ b∈X.ex,b ∉ X.fs
 funs:X.s₀.heap.FunFrames X.base X.outer
 frf:∀ b∈X.fs,X.H₀ b=none
structure Inv(X:Cx)(pins:List (Addr×Obj))(σ:List (Option V))(H:Hp)(s:Shared):Prop where
 ok:X.Ok
 os:s.os=X.s₀.os
 bare:AllBare s.gens
 base:Un X.fs X.ex X.H₀ H X.s₀.heap s.heap
 loc:∃ m,s.heap.Ns X.env.locals m/\∀ (i:Nat) (x:Str) (v:V),X.N[i]?=some x->σ[i]?=some (some v)->Vis X.env.scope x->∃ u,RelV v u/\X7m X.env s.heap m x u
 cell:∀ x c,X.env.cells.lookup x=some c->∃ v,s.heap.IsCell c v
 free:H X.env.locals=none
 freeC:∀ x c,X.env.cells.lookup x=some c->H c=none
 pin:∀ p∈X.pn++pins,s.heap.get? p.1=some p.2/\H p.1=none/\p.1≠X.env.locals/\p.1 ∉ X.fs/\∀ v,p.2.data≠.cell v
 hok:HOk X.prog X.w H s.heap
 len:σ.length=X.N.length
section
variable{X:Cx}{pins:List (Addr×Obj)}{σ:List (Option V)}{H H':Hp}{s:Shared}{h':Heap}
theorem Cx.Ok.nofr(ok:X.Ok){b:Addr}{o:Obj}(e:X.base.get? b=some o):b ∉ X.fs:=fun hb=>by
 have:=(ok.funs.mem hb).1;rw[e] at this;cases this
theorem Inv.bs(I:Inv X pins σ H s):∀ b o,X.base.get? b=some o->s.heap.get? b=some o/\H b=none:=fun b o e =>
 ⟨I.base.keep b o (I.ok.bs b o e).1 (I.ok.bs b o e).2 (I.ok.nofr e) (I.ok.noex b o e),I.base.free b o (I.ok.bs b o e).1 (I.ok.bs b o e).2 (I.ok.noex b o e)⟩
theorem Inv.bk(I:Inv X pins σ H s):∀ b o,X.base.get? b=some o->s.heap.get? b=some o:=fun b o e=>(I.bs b o e).1
theorem Inv.mod(I:Inv X pins σ H s):Mod X.K X.mg X.base:=I.ok.mod
theorem Inv.kIn(I:Inv X pins σ H s):X.K.In s.heap:=I.ok.mod.kin.keeps I.bk
theorem Inv.lt(I:Inv X pins σ H s):X.env.locals<s.heap.objs.size:=let ⟨_,hn,_⟩:=I.loc;hn.lt
theorem Inv.sz(I:Inv X pins σ H s):X.s₀.heap.objs.size<=s.heap.objs.size:=Vy I.ok.above (Vcw I.lt)
theorem Inv.nofs(I:Inv X pins σ H s){a:Addr}(h:s.heap.objs.size<=a):a ∉ X.fs:=fun hb=>by
 obtain⟨_,o,ho,_⟩:=I.ok.funs.mem hb;exact absurd (Vu (Vm ho) (Vy I.sz h)) (Vb0 _)
theorem Inv.cne(I:Inv X pins σ H s):∀ x c,X.env.cells.lookup x=some c->c≠X.env.locals:=fun x c e z=>by
 obtain⟨v,o,ho,hd⟩:=I.cell x c e;obtain⟨m,⟨o',es,ep,ho',hd',_⟩,_⟩:=I.loc;rw[z,ho'] at ho;cases ho;rw[hd'] at hd;cases hd
theorem Inv.funs(I:Inv X pins σ H s):s.heap.FunFrames X.base X.outer:=by
 have all:∀ (l:List Env),(∀ b∈frs l,b∈X.fs)->X.s₀.heap.FunFrames X.base l->s.heap.FunFrames X.base l:=by
  intro l
  induction l with
  | nil=>intro _ _;trivial
  | cons env r ih =>
   intro hs hl;obtain⟨hk,⟨L,o,hf,hn,ho,hd⟩,hr⟩:=hl;have hL:L∈X.fs:=hs L (by unfold frs;rw[Ul,hf];exact Vbw)
   obtain⟨sl,e⟩:=I.base.slot L o ho (I.ok.frf L hL) hL fun z=>I.ok.exfs L z hL
   exact⟨hk,⟨L,_,hf,hn,e,hd⟩,ih (fun b hb=>hs b (by unfold frs;rw[Ul,hf];exact Uw _ hb)) hr⟩
 exact all X.outer (fun _ hb=>hb) I.ok.funs
theorem Inv.stack(I:Inv X pins σ H s):s.heap.FunFrames X.base X.stack:=by
 rcases I.ok.stk with e|⟨e,hf⟩
 ·rw[e];exact I.funs
 ·rw[e]
  obtain⟨m,hn,_⟩:=I.loc;refine .cons (by rw[I.ok.kind];decide) hf hn ?_ I.funs
  exact Heap.get?_none_of_le (Vy I.ok.bsz I.ok.above)
theorem Inv.stkSub(I:Inv X pins σ H s):∀ b∈frs X.stack,b∈X.env.locals::X.fs:=fun b hb=>by
 rcases I.ok.stk with e|⟨e,hf⟩
 ·rw[e] at hb;exact Uw _ hb
 ·rw[e] at hb
  unfold frs at hb;rw[Ul,hf] at hb;exact hb
theorem Inv.stkFree(I:Inv X pins σ H s):∀ b∈frs X.stack,H b=none:=fun b hb=>by
 rcases Vl.mp (I.stkSub b hb) with e|hb
 ·rw[e];exact I.free
 ·obtain⟨_,o,ho,_⟩:=I.ok.funs.mem hb
  exact I.base.free b o ho (I.ok.frf b hb) fun z=>I.ok.exfs b z hb
theorem Inv.step{g':Array GenState}{t':Nat}{d':Drawn}{ch:List Addr}(I:Inv X pins σ H s)
  (hch:∀ b∈ch,(b∈X.ex\/X.s₀.heap.objs.size<=b)/\b≠X.env.locals/\(∀ x c,X.env.cells.lookup x=some c->c≠b)/\∀ p∈X.pn++pins,p.1≠b)
  (keep:∀ b o,b≠X.env.locals->b ∉ X.fs->b ∉ ch->s.heap.get? b=some o->H b=none->h'.get? b=some o)
  (slot:∀ b o,b≠X.env.locals->b∈X.fs->b ∉ ch->s.heap.get? b=some o->H b=none->∃ sl,h'.get? b=some { o with slots:=sl }) (free:∀ b o,b ∉ ch->s.heap.get? b=some o->H b=none->H' b=none)
  (there:∀ b o,b ∉ ch->s.heap.get? b=some o->∃ o',h'.get? b=some o')
  (tups:∀ b xs,H b=some (.tup xs)->H' b=some (.tup xs)) (frzs:∀ b o u,H b=some (.frz o u)->H' b=some (.frz o u)) (tbls:∀ b ps,H b=some (.tbl ps)->∃ more,H' b=some (.tbl (ps++more)))
  (ns:∀ m,s.heap.Ns X.env.locals m->h'.Ns X.env.locals m) (hok:HOk X.prog X.w H' h') (hg:AllBare g') :
  Inv X pins σ H' { s with heap:=h',gens:=g',drawn:=d',toks:=t' }:=by
 have neL:∀ b o,X.s₀.heap.get? b=some o->b≠X.env.locals:=fun b o e=>V5 (Vu (Vm e) I.ok.above)
 have neC:∀ b o,X.s₀.heap.get? b=some o->b ∉ X.ex->b ∉ ch:=fun b o e hx hb=>by
  rcases (hch b hb).1 with z|z
  ·exact hx z
  ·exact absurd (Vu (Vm e) z) (Vb0 _)
 have cellK:∀ x c,X.env.cells.lookup x=some c->∀ v,s.heap.IsCell c v->h'.IsCell c v:=fun x c e v ⟨o,ho,hd⟩=>by
  have nch:c ∉ ch:=fun z=>(hch c z).2.2.1 x c e rfl
  by_cases hc:c∈X.fs
  ·obtain⟨sl,q⟩:=slot c o (I.cne x c e) hc nch ho (I.freeC x c e)
   exact⟨_,q,hd⟩
  ·exact⟨o,keep c o (I.cne x c e) hc nch ho (I.freeC x c e),hd⟩
 refine⟨I.ok,I.os,hg,⟨fun b o e n hb hx=>?_,fun b o e n hb hx=>?_,fun b o e n hx=>?_,fun b o e hx=>?_,fun b xs e=>tups b xs (I.base.tups b xs e),fun b o xs e=>frzs b o xs (I.base.frzs b o xs e),fun b ps e=>?_⟩,?_,fun x c e=>?_,?_,fun x c e=>?_,fun p hp=>?_,hok,I.len⟩
 ·exact keep b o (neL b o e) hb (neC b o e hx) (I.base.keep b o e n hb hx) (I.base.free b o e n hx)
 ·obtain⟨sl,e1⟩:=I.base.slot b o e n hb hx
  obtain⟨sl',e2⟩:=slot b _ (neL b o e) hb (neC b o e hx) e1 (I.base.free b o e n hx);exact⟨sl',e2⟩
 ·obtain⟨o',e1⟩:=I.base.there b o e hx
  exact free b o' (neC b o e hx) e1 (I.base.free b o e n hx)
 ·obtain⟨o',e1⟩:=I.base.there b o e hx
  exact there b o' (neC b o e hx) e1
 ·obtain⟨m1,e1⟩:=I.base.tbls b ps e
  obtain⟨m2,e2⟩:=tbls b _ e1;exact⟨m1++m2,by rw[e2,Array.append_assoc]⟩
 ·obtain⟨m,hn,hl⟩:=I.loc
  refine⟨m,ns m hn,fun i x v e1 e2 e3=>?_⟩
  obtain⟨u,r,l⟩:=hl i x v e1 e2 e3;refine⟨u,r,?_⟩;rcases l with l|⟨k,c,e,z⟩
  ·exact .inl l
  ·exact .inr ⟨k,c,e,cellK x c e _ z⟩
 ·obtain⟨v,z⟩:=I.cell x c e
  exact⟨v,cellK x c e v z⟩
 ·obtain⟨m,⟨o,_,_,ho,_⟩,_⟩:=I.loc
  exact free _ o (fun z=>(hch _ z).2.1 rfl) ho I.free
 ·obtain⟨v,o,ho,hd⟩:=I.cell x c e
  exact free c o (fun z=>(hch c z).2.2.1 x c e rfl) ho (I.freeC x c e)
 ·obtain⟨e,n,ne,nf,d⟩:=I.pin p hp
  have nch:p.1 ∉ ch:=fun z=>(hch p.1 z).2.2.2 p hp rfl
  exact⟨keep p.1 p.2 ne nf nch e n,free p.1 p.2 nch e n,ne,nf,d⟩
theorem Inv.un{t':Nat}(I:Inv X pins σ H s)(u:Un X.fs [] H H' s.heap h')(hok:HOk X.prog X.w H' h'):Inv X pins σ H' { s with heap:=h',toks:=t' }:=by
 obtain⟨m,⟨o,es,ep,ho,r⟩,_⟩:=id I.loc;obtain⟨sl,hL⟩:=u.any ho I.free (by simp)
 exact I.step (g':=s.gens) (d':=s.drawn) (ch:=[]) (fun _ z=>nomatch z) (fun b o _ hb _ e n=>u.keep b o e n hb (by simp)) (fun b o _ hb _ e n=>u.slot b o e n hb (by simp)) (fun b o _ e n=>u.free b o e n (by simp)) (fun b o _ e=>u.there b o e (by simp)) u.tups u.frzs u.tbls (fun m' hm=>by
  obtain⟨o',es',ep',ho',r'⟩:=hm;rw[ho] at ho';cases ho';exact⟨_,es',ep',hL,r'⟩) hok I.bare
theorem Inv.call{g':Array GenState}{t':Nat}{d':Drawn}{ch:List Addr}(I:Inv X pins σ H s)(u:Un (frs X.stack) ch H H' s.heap h')(hok:HOk X.prog X.w H' h')(hg:AllBare g')
  (hch:∀ b∈ch,(b∈X.ex\/X.s₀.heap.objs.size<=b)/\b≠X.env.locals/\(∀ x c,X.env.cells.lookup x=some c->c≠b)/\∀ p∈X.pn++pins,p.1≠b) :
  Inv X pins σ H' { s with heap:=h',gens:=g',drawn:=d',toks:=t' }:=by
 obtain⟨m,⟨o,es,ep,ho,r⟩,_⟩:=id I.loc;obtain⟨sl,hL⟩:=u.any ho I.free fun z=>(hch _ z).2.1 rfl
 exact I.step (ch:=ch) hch (fun b o hL hb hc e n=>u.keep b o e n (fun z=>(Vl.mp (I.stkSub b z)).elim hL hb) hc) (fun b o _ _ hc e n=>u.any e n hc) (fun b o hc e n=>u.free b o e n hc) (fun b o hc e=>u.there b o e hc) u.tups u.frzs u.tbls (fun m' hm=>by
  obtain⟨o',es',ep',ho',r'⟩:=hm;rw[ho] at ho';cases ho';exact⟨_,es',ep',hL,r'⟩) hok hg
theorem Inv.turned{t':Nat}{it:Addr}(I:Inv X pins σ H s)(k:∀ b o,b≠it->s.heap.get? b=some o->h'.get? b=some o)(hn:H it=none)(hL:it≠X.env.locals)
  (h1:it∈X.ex\/X.s₀.heap.objs.size<=it) (h2:∀ x c,X.env.cells.lookup x=some c->c≠it) (h3:∀ p∈X.pn++pins,p.1≠it):Inv X pins σ H { s with heap:=h',toks:=t' }:=by
 have nit:∀ b u,H b=some u->b≠it:=fun b u e z=>by rw[z,hn] at e;cases e
 refine I.step (g':=s.gens) (d':=s.drawn) (ch:=[it]) (fun b hb=>?_) (fun b o _ _ hc e _=>k b o (fun z=>hc (by simp[z])) e) (fun b o _ _ hc e _=>⟨o.slots,k b o (fun z=>hc (by simp[z])) e⟩) (fun _ _ _ _ n=>n)
  (fun b o hc e=>⟨o,k b o (fun z=>hc (by simp[z])) e⟩) (fun _ _ e=>e) (fun _ _ _ e=>e) (fun b ps e=>⟨#[],by rw[e];simp⟩) (fun m hm=>?_) (fun b u e=>?_) I.bare
 ·have e:b=it:=by simpa using hb
  subst e;exact⟨h1,hL,h2,h3⟩
 ·obtain⟨o,es,ep,ho,r⟩:=hm
  exact⟨o,es,ep,k _ o (Ne.symm hL) ho,r⟩
 ·refine(I.hok b u e).stay (fun c v hc q=>k c v ?_ q) (fun _ q=>q) fun _ _ q=>q
  rcases hc with z|z
  ·rw[z];exact nit b u e
  ·exact nit c _ z
theorem Inv.tok(I:Inv X pins σ H s)(t:Nat):Inv X pins σ H { s with toks:=t }:=I.un (h':=s.heap) (t':=t) Un.refl I.hok
theorem Inv.kept{t':Nat}(I:Inv X pins σ H s)(k:∀ b u,s.heap.get? b=some u->h'.get? b=some u):Inv X pins σ H { s with heap:=h',toks:=t' }:=I.un (Un.kept k) (I.hok.kept k)
theorem Inv.laid{a:Addr}{o:HO}{t':Nat}(I:Inv X pins σ H s)(k:∀ b u,s.heap.get? b=some u->h'.get? b=some u)(hp:s.heap.objs.size<=a)(new:ObjOk X.prog X.w (upd H a o) h' a o) :
  Inv X pins σ (upd H a o) { s with heap:=h',toks:=t' }:=I.un (Un.laid k hp (I.hok.fresh hp)) (I.hok.laid k hp new)
theorem Inv.write{x e:Addr}{o:HO}{t':Nat}(I:Inv X pins σ H s)(mu:Mut (H x))(he:e=x\/H e=some (.own x))(k:∀ b u,b≠e->s.heap.get? b=some u->h'.get? b=some u)(heo:∃ u,h'.get? e=some u)
  (new:ObjOk X.prog X.w (upd H x o) h' x o):Inv X pins σ (upd H x o) { s with heap:=h',toks:=t' }:=I.un (Un.write mu he k heo) (I.hok.write mu he k heo new)
theorem Inv.pins_of{pins':List (Addr×Obj)}(I:Inv X pins σ H s)(h:∀ p∈pins',s.heap.get? p.1=some p.2/\H p.1=none/\p.1≠X.env.locals/\p.1 ∉ X.fs/\∀ v,p.2.data≠.cell v):Inv X pins' σ H s :=
 ⟨I.ok,I.os,I.bare,I.base,I.loc,I.cell,I.free,I.freeC,fun p hp=>(Uz.mp hp).elim (fun z=>I.pin p (List.mem_append_left _ z)) (h p),I.hok,I.len⟩
theorem Xkw{N:List Str}(hN:N.Nodup){i j:Nat}{x:Str}(a:N[i]?=some x)(b:N[j]?=some x):i=j:=by
 obtain⟨h1,e1⟩:=Ve.mp a;obtain⟨h2,e2⟩:=Ve.mp b;exact(List.getElem_inj hN).mp (e1.trans e2.symm)
theorem Xjf{M:Model}{A:Around}{E:Value->Shared->Prop}{i:Nat}{x:Str}{v:V}{u:Value}{Q:Unit->Shared->Prop}(I:Inv X pins σ H s)(hN:X.N.Nodup)(hi:X.N[i]?=some x)(hx:Loc X.env.scope x)(r:RelV v u)
  (h:∀ s',Inv X pins (σ.set i (some v)) H s'->(∃ a,Ui a s.heap s'.heap/\(a=X.env.locals\/X.env.cells.lookup x=some a))->Q () s') (hf:X.fn x=true\/X.env.scope.names.lookup x=some .local:=by first|exact .inl rfl|exact .inr rfl|assumption):wpAny M A (storeName X.env x u) Q E s:=by
 obtain⟨m,hn,hl⟩:=id I.loc;have hcls:(X.env.scope.kind == .class||(X.env.scope.kind == .module&&X.env.locals != X.env.globals))=false:=by rw[I.ok.kind];rfl
 have hiσ:i < σ.length:=by rw[I.len];exact(Ve.mp hi).1
 have cne:=I.cne;have tracked:∀ {a:Addr} {h':Heap},(∃ o,s.heap.get? a=some o/\H a=none)->Ui a s.heap h'->HOk X.prog X.w H h':=fun {a h'} ha hs b ob e=>by
  obtain⟨_,_,hfree⟩:=ha;refine(I.hok b ob e).stay (fun c w' hc q=>(hs.2 c ?_).trans q) (fun _ q=>q) fun _ _ q=>q
  rintro rfl
  rcases hc with rfl|hc
  ·rw[hfree] at e;cases e
  ·rw[hfree] at hc;cases hc
 rcases hx with hk|hk
 ·refine wpAny_storeName_local hk hn (fun h' hn' hs=>?_) hcls
  obtain⟨oL,_,_,hoL,_⟩:=id hn;refine h _ ⟨I.ok,I.os,I.bare,⟨fun b o e n hb hx=>?_,fun b o e n hb hx=>?_,I.base.free,fun b o e hx=>?_,I.base.tups,I.base.frzs,I.base.tbls⟩,⟨_,hn',fun j y v' e1 e2 e3=>?_⟩,fun y c e=>?_,I.free,I.freeC,fun p hp=>?_,tracked ⟨oL,hoL,I.free⟩ hs,by simpa using I.len⟩ ⟨_,hs,.inl rfl⟩
  ·exact(hs.2 b (V5 (Vu (Vm e) I.ok.above))).trans (I.base.keep b o e n hb hx)
  ·obtain⟨sl,e1⟩:=I.base.slot b o e n hb hx
   exact⟨sl,(hs.2 b (V5 (Vu (Vm e) I.ok.above))).trans e1⟩
  ·obtain⟨o',e1⟩:=I.base.there b o e hx
   exact⟨o',(hs.2 b (V5 (Vu (Vm e) I.ok.above))).trans e1⟩
  ·by_cases hj:j=i
   ·subst hj
    rw[hi] at e1;cases e1;rw[Va4 hiσ] at e2;cases e2;exact⟨u,r,.inl ⟨hk,by simp⟩⟩
   ·rw[Ux (Ne.symm hj)] at e2
    obtain⟨u',r',q⟩:=hl j y v' e1 e2 e3;refine⟨u',r',?_⟩;rcases q with⟨k,e⟩|⟨k,c,e,z⟩
    ·refine .inl ⟨k,?_⟩
     have:y≠x:=fun e=>hj (Xkw hN e1 (e▸hi))
     simp[this,e]
    ·exact .inr ⟨k,c,e,z.sameBut hs (cne y c e)⟩
  ·obtain⟨w',z⟩:=I.cell y c e
   exact⟨w',z.sameBut hs (cne y c e)⟩
  ·obtain⟨e,n,ne,nf,d⟩:=I.pin p hp
   exact⟨(hs.2 p.1 ne).trans e,n,ne,nf,d⟩
 ·have hfn:X.fn x=true:=by
   rcases hf with z|z
   ·exact z
   ·rw[z] at hk;cases hk
  obtain⟨c,hc⟩:=I.ok.has x (.inl hk);obtain⟨w',z⟩:=I.cell x c hc;refine wpAny_storeName_cell I.ok.kind hk hc z (fun h' hc' hs=>?_)
  obtain⟨oc,hoc,hocd⟩:=id z;refine h { s with heap:=h' } ⟨I.ok,I.os,I.bare,⟨fun b o e n hb hx=>?_,fun b o e n hb hx=>?_,I.base.free,fun b o e hx=>?_,I.base.tups,I.base.frzs,I.base.tbls⟩,⟨m,hn.sameBut hs (Ne.symm (cne x c hc)),fun j y v' e1 e2 e3=>?_⟩,fun y c' e=>?_,I.free,I.freeC,fun p hp=>?_,tracked ⟨oc,hoc,I.freeC x c hc⟩ hs,by simpa using I.len⟩ ⟨c,hs,.inr hc⟩
  ·exact(hs.2 b (V5 (Vu (Vm e) (I.ok.cab x c hfn hc)))).trans (I.base.keep b o e n hb hx)
  ·obtain⟨sl,e1⟩:=I.base.slot b o e n hb hx
   exact⟨sl,(hs.2 b (V5 (Vu (Vm e) (I.ok.cab x c hfn hc)))).trans e1⟩
  ·obtain⟨o',e1⟩:=I.base.there b o e hx
   exact⟨o',(hs.2 b (V5 (Vu (Vm e) (I.ok.cab x c hfn hc)))).trans e1⟩
  ·by_cases hj:j=i
   ·subst hj
    rw[hi] at e1;cases e1;rw[Va4 hiσ] at e2;cases e2;exact⟨u,r,.inr ⟨.inl hk,c,hc,hc'⟩⟩
   ·rw[Ux (Ne.symm hj)] at e2
    obtain⟨u',r',q⟩:=hl j y v' e1 e2 e3;refine⟨u',r',?_⟩;rcases q with q|⟨k,c',e,z'⟩
    ·exact .inl q
    ·refine .inr ⟨k,c',e,z'.sameBut hs ?_⟩
     rintro rfl
     exact hj (Xkw hN e1 (I.ok.inj _ _ _ e hc▸hi))
  ·by_cases hcc:c'=c
   ·subst hcc;exact⟨_,hc'⟩
   ·obtain⟨w2,z2⟩:=I.cell y c' e
    exact⟨w2,z2.sameBut hs hcc⟩
  ·obtain⟨e,n,ne,nf,d⟩:=I.pin p hp
   refine⟨(hs.2 p.1 ?_).trans e,n,ne,nf,d⟩;intro q;rw[q,hoc] at e;have q':oc=p.2:=V6 e;exact d w' (by rw[<- q'];exact hocd)
theorem Xba{M:Model}{A:Around}{E:Value->Shared->Prop}{i:Nat}{x:Str}{v:V}{u:Value}{Q:Unit->Shared->Prop}(I:Inv X pins σ H s)(hN:X.N.Nodup)(hi:X.N[i]?=some x)(hx:Loc X.env.scope x)(r:RelV v u)
  (h:∀ s',Inv X pins (σ.set i (some v)) H s'->Q () s') (hf:X.fn x=true\/X.env.scope.names.lookup x=some .local:=by first|exact .inl rfl|exact .inr rfl|assumption):wpAny M A (storeName X.env x u) Q E s :=
 Xjf I hN hi hx r (fun s' I' _=>h s' I') hf
theorem Inv.call'{s':Shared}{ch:List Addr}(I:Inv X pins σ H s)(ho:s'.os=s.os)(u:Un (frs X.stack) ch H H' s.heap s'.heap)(hok:HOk X.prog X.w H' s'.heap)(hg:AllBare s'.gens)
  (hch:∀ b∈ch,(b∈X.ex\/X.s₀.heap.objs.size<=b)/\b≠X.env.locals/\(∀ x c,X.env.cells.lookup x=some c->c≠b)/\∀ p∈X.pn++pins,p.1≠b):Inv X pins σ H' s':=by
 obtain⟨h',g',d',t',o'⟩:=s';have e:o'=s.os:=ho;subst e;exact I.call (g':=g') (t':=t') (d':=d') u hok hg hch
end
abbrev XK:=Value->Option Addr->Hp->Prop
noncomputable abbrev St:=List (Option V)
abbrev VK:=V->Hp->Prop
abbrev TE:=St->Hp->VK->Prop
def EP(X:Cx)(pins:List (Addr×Obj))(σ:St)(Q:VK)(u:Value)(s':Shared):Prop:=∃ v H',Inv X pins σ H' s'/\RelV v u/\Q v H'
def TP(X:Cx)(pins:List (Addr×Obj))(σ:St)(Q:Bool->Hp->Prop)(b:Bool)(s':Shared):Prop:=∃ H',Inv X pins σ H' s'/\Q b H'
def PE(X:Cx)(e:Expr)(t:TE):Prop :=
 ∀ (pins:List (Addr×Obj)) (s:Shared) (σ:St) (H:Hp) (Q:VK),Inv X pins σ H s->t σ H Q->wpAny (model X.prog X.w) X.A (eval e X.env) (EP X pins σ Q) X.xe s
theorem thn{α:Type}{t:Sem α}{Q Q':α->Shared->Prop}{M:Model}{A:Around}{E:Value->Shared->Prop}{s:Shared}(h:wpAny M A t Q E s)(hQ:∀ a s,Q a s->Q' a s):wpAny M A t Q' E s:=Vj h hQ fun _ _ x=>x
end L2
namespace L2
open PySem PySem.Spec PyProof.Rows
section
variable{X:Cx}
theorem bin{a b:Expr}{ta tb:TE}(ha:PE X a ta)(hb:PE X b tb){pins:List (Addr×Obj)}{s:Shared}{σ:St}{H:Hp}{R:V->V->Hp->Prop}(I:Inv X pins σ H s)(h:ta σ H fun x H1=>tb σ H1 fun y H2=>R x y H2)
  {α:Type} {Q:α->Shared->Prop} {f:Value->Value->Sem α}
  (hf:∀ v u s2 x y H2,Inv X pins σ H2 s2->RelV x v->RelV y u->R x y H2->wpAny (model X.prog X.w) X.A (f v u) Q X.xe s2) :
  wpAny (model X.prog X.w) X.A (eval a X.env) (fun v s₁=>wpAny (model X.prog X.w) X.A (eval b X.env) (fun u s₂=>wpAny (model X.prog X.w) X.A (f v u) Q X.xe s₂) X.xe s₁) X.xe s:=by
 refine thn (ha pins s σ H _ I h) fun v s1 ⟨x,H1,I1,r1,q1⟩=>?_
 refine thn (hb pins s1 σ H1 _ I1 q1) fun u s2 ⟨y,H2,I2,r2,q2⟩=>?_
 exact hf v u s2 x y H2 I2 r1 r2 q2
noncomputable def X7n(i:Nat):TE:=fun σ H Q=>∃ v,σ[i]?=some (some v)/\Q v H
noncomputable def tC(v:V):TE:=fun _ H Q=>Q v H
theorem X1l {i:Nat} {x:Str} {pos:Pos} (hN:X.N[i]?=some x) (hv:Vis X.env.scope x) (hd:(x==("__debug__" : Str))=false:=by decide) (hcd:(x==("__classdict__" : Str))=false:=by decide):PE X (.Name x pos) (X7n i):=by
 intro pins s σ H Q I h;obtain⟨v,e,h⟩:=h;obtain⟨m,hn,hl⟩:=I.loc;obtain⟨u,r,l⟩:=hl i x v hN e hv;have fin:EP X pins σ Q u s:=⟨v,H,I,r,h⟩;rcases l with⟨hk,hm⟩|⟨hk,c,hc,hcell⟩
 ·exact wpAny_Name (wpAny_loadName_local I.ok.kind hk hn hm fin) hd
 ·rcases hk with hk|hk
  ·exact wpAny_Name (wpAny_loadName_cell I.ok.kind hk hc hcell fin) hd
  ·exact wpAny_Name (wpAny_loadName_free I.ok.kind hk hc hcell fin hcd) hd
theorem X1m{i j pos}:PE X (.Constant (.int i) j pos) (tC (.int i)):=fun _ _ _ H _ I h=>wpAny_Constant_int ⟨.int i,H,I.tok _,⟨_,rfl⟩,h⟩
theorem X5o{b j pos}:PE X (.Constant (.bool b) j pos) (tC (.bl b)):=fun _ _ _ H _ I h=>Constant_bool ⟨.bl b,H,I,rfl,h⟩
theorem X1n{j pos}:PE X (.Constant .none j pos) (tC .non):=fun _ _ _ H _ I h=>Constant_none ⟨.non,H,I,rfl,h⟩
theorem X1o{x j pos}:PE X (.Constant (.str x) j pos) (tC (.str x)):=fun _ _ _ H _ I h=>Calls.Constant_str ⟨.str x,H,I.tok _,⟨_,rfl⟩,h⟩
def Gl(X:Cx)(x:Str):Prop:=X.env.kindOf x=some .globalImplicit
theorem Xc5{E:Value->Shared->Prop}{pins:List (Addr×Obj)}{s:Shared}{σ:St}{H:Hp}{x:Str}{u:Value}{pos:Pos}{Q:Value->Shared->Prop}(I:Inv X pins σ H s)(hg:Gl X x)(hm:X.mg x=some u)(h:Q u s)
  (hd:(x==("__debug__" : Str))=false:=by decide):wpAny (model X.prog X.w) X.A (eval (.Name x pos) X.env) Q E s :=
 Ve6 I.ok.kind hg (Calls.loadGlobal_global (by rw[I.ok.glob];exact I.mod.glob.keeps I.bk) hm h) hd
theorem Yt{E:Value->Shared->Prop}{pins:List (Addr×Obj)}{s:Shared}{σ:St}{H:Hp}{x:Str}{u:Value}{pos:Pos}{Q:Value->Shared->Prop}(I:Inv X pins σ H s)(hg:Gl X x)(hm:X.mg x=none)(hv:Vcd x=some u)(h:Q u s)
  (hn:x ≠ "__name__" := by decide) (hd:(x==("__debug__" : Str))=false:=by decide):wpAny (model X.prog X.w) X.A (eval (.Name x pos) X.env) Q E s:=by
 obtain⟨mb,h1,h2⟩:=I.mod.blt;exact Ve6 I.ok.kind hg (Calls.loadGlobal_builtin (by rw[I.ok.glob];exact I.mod.glob.keeps I.bk) hm (by rw[I.ok.blt];exact h1.keeps I.bk) ((h2 x hn).trans hv) h) hd
variable{a b:Expr}{ta tb:TE}{pos:Pos}
variable{tA tB':TT}{Xam:List Expr}
end
end L2
namespace L2
open PySem PySem.Spec PyProof.Rows
def SqL(K:Vf)(H:Hp)(a:Addr)(xs:List V):Prop :=
 Rd H a (.lst xs) \/
  ∃ (o:Obj) (its:Array Value) (n:Nat),K.lookup a=some o/\o.cls=.type "list" /\ o.dict=none/\o.data=.seq its n/\its.size<=Vt/\Vals xs its.toList
def SqT(K:Vf)(H:Hp)(a:Addr)(xs:List V):Prop :=
 Rd H a (.tup xs) \/
  ∃ (o:Obj) (its:Array Value) (n:Nat),K.lookup a=some o/\o.cls=.type "tuple" /\ o.data=.seq its n/\its.size<=Vt/\Vals xs its.toList
noncomputable def X7o:Value->Option V
 | .none=>some .non
 | .bool b=>some (.bl b)
 | .int i _=>some (.int i)
 | .str x _=>some (.str x)
 | .bytes b _=>some (.byt b)
 | .float b _=>some (.flt b)
 | .ref a=>some (.ref a)
 | .type n=>some (.ty n)
 | _=>none
theorem RelV.abs{x:V}{u:Value}(r:RelV x u):X7o u=some x:=by
 cases x with
 | non=>cases r;rfl
 | bl _=>cases r;rfl
 | int _=>obtain⟨t,rfl⟩:=r;rfl
 | str _=>obtain⟨t,rfl⟩:=r;rfl
 | byt _=>obtain⟨t,rfl⟩:=r;rfl
 | flt _=>obtain⟨t,rfl⟩:=r;rfl
 | ref _=>cases r;rfl
 | ty _=>cases r;rfl
theorem RelV.inj{x y:V}{u:Value}(r:RelV x u)(q:RelV y u):x=y:=V6 (r.abs.symm.trans q.abs)
theorem Vals.inj:∀ {xs ys:List V} {us:List Value},Vals xs us->Vals ys us->xs=ys
 | _,_,_,.nil,.nil=>rfl
 | _,_,_,.cons r t,.cons r' t'=>by rw[r.inj r',Vals.inj t t']
section
variable{X:Cx}{pins:List (Addr×Obj)}{σ:St}{H:Hp}{s:Shared}{a:Addr}{xs ys:List V}
theorem SqL.of{K:Vf}(h:H a=some (.lst xs)):SqL K H a xs:=.inl (.inl h)
theorem SqT.of{K:Vf}(h:H a=some (.tup xs)):SqT K H a xs:=.inl (.inl h)
theorem Inv.list(I:Inv X pins σ H s)(h:SqL X.K H a xs):∃ its:List Value,Vals xs its/\PlainL s.heap a its.toArray/\xs.length<=Vt:=by
 rcases h with h|⟨o,its,n,hk,hc,hd,hs,hz,r⟩
 ·obtain⟨z,its,n,r,e⟩:=h.ok I.hok
  exact⟨its,r,⟨_,n,e,rfl,rfl,rfl⟩,z⟩
 ·refine⟨its.toList,r,⟨o,n,I.kIn a o hk,hc,hd,by simpa using hs⟩,?_⟩
  have e:=r.length;simp only[Ver] at e;omega
theorem Inv.tuple(I:Inv X pins σ H s)(h:SqT X.K H a xs):∃ its:List Value,Vals xs its/\IsTup s.heap a its.toArray/\xs.length<=Vt:=by
 rcases h with h|⟨o,its,n,hk,hc,hs,hz,r⟩
 ·obtain⟨z,its,r,p⟩:=h.ok I.hok
  exact⟨its,r,p,z⟩
 ·refine⟨its.toList,r,⟨o,I.kIn a o hk,hc,n,by simpa using hs⟩,?_⟩
  have e:=r.length;simp only[Ver] at e;omega
theorem Inv.list_inj(I:Inv X pins σ H s)(h:SqL X.K H a xs)(h':SqL X.K H a ys):xs=ys:=by
 obtain⟨its,r,⟨o,n,e,_,_,d⟩,_⟩:=I.list h;obtain⟨its',r',⟨o',n',e',_,_,d'⟩,_⟩:=I.list h';rw[e] at e';cases e';rw[d] at d';injection d' with d1 _
 have:its=its':=by simpa using congrArg Array.toList d1
 subst this;exact r.inj r'
theorem Inv.tuple_inj(I:Inv X pins σ H s)(h:SqT X.K H a xs)(h':SqT X.K H a ys):xs=ys:=by
 obtain⟨its,r,⟨o,e,_,n,d⟩,_⟩:=I.tuple h;obtain⟨its',r',⟨o',e',_,n',d'⟩,_⟩:=I.tuple h';rw[e] at e';cases e';rw[d] at d';injection d' with d1 _
 have:its=its':=by simpa using congrArg Array.toList d1
 subst this;exact r.inj r'
end
noncomputable abbrev Cx.wish(X:Cx)(E:Value->Shared->Prop):Cx:={ X with xe:=E }
theorem Cx.Ok.wish{X:Cx}(ok:X.Ok)(E:Value->Shared->Prop):(X.wish E).Ok :=
 ⟨ok.mod,ok.kind,ok.glob,ok.blt,ok.above,ok.inj,ok.has,ok.cab,ok.hd,ok.frames,ok.stk,ok.exf,ok.bs,ok.bsz,ok.noex,ok.exfs,ok.funs,ok.frf⟩
theorem Cx.Ok.unwish{X:Cx}{E:Value->Shared->Prop}(ok:(X.wish E).Ok):X.Ok :=
 ⟨ok.mod,ok.kind,ok.glob,ok.blt,ok.above,ok.inj,ok.has,ok.cab,ok.hd,ok.frames,ok.stk,ok.exf,ok.bs,ok.bsz,ok.noex,ok.exfs,ok.funs,ok.frf⟩
section
variable{X:Cx}{pins:List (Addr×Obj)}{σ:St}{H:Hp}{s:Shared}{E:Value->Shared->Prop}
theorem Inv.wish(I:Inv X pins σ H s)(E:Value->Shared->Prop):Inv (X.wish E) pins σ H s:=⟨I.ok.wish E,I.os,I.bare,I.base,I.loc,I.cell,I.free,I.freeC,I.pin,I.hok,I.len⟩
theorem Inv.unwish(I:Inv (X.wish E) pins σ H s):Inv X pins σ H s:=⟨I.ok.unwish,I.os,I.bare,I.base,I.loc,I.cell,I.free,I.freeC,I.pin,I.hok,I.len⟩
end
section
variable{X:Cx}{st:Stmt}{Xam:List Stmt}{t u:TS}{e:Expr}{te:TE}{pos:Pos}
theorem Inv.quiet{pins:List (Addr×Obj)}{σ:St}{H:Hp}{s:Shared}(I:Inv X pins σ H s):interactive X.env=false:=by simp[interactive,I.ok.kind]
end
abbrev TG:=V->St->Hp->(St->Hp->Prop)->Prop
abbrev TGs:=List V->St->Hp->(St->Hp->Prop)->Prop
def PG(X:Cx)(target:Expr)(t:TG):Prop :=
 ∀ (pins:List (Addr×Obj)) (s:Shared) (σ:St) (H:Hp) (v:V) (u:Value) (Q:St->Hp->Prop),Inv X pins σ H s->RelV v u->t v σ H Q ->
  wpAny (model X.prog X.w) X.A (assign target X.env u) (fun _ s'=>∃ σ' H',Inv X pins σ' H' s'/\Q σ' H') X.xe s
def PGs(X:Cx)(ts:List Expr)(t:TGs):Prop :=
 ∀ (pins:List (Addr×Obj)) (s:Shared) (σ:St) (H:Hp) (vs:List V) (us:List Value) (Q:St->Hp->Prop),Inv X pins σ H s->Vals vs us->t vs σ H Q ->
  wpAny (model X.prog X.w) X.A (assignInOrder ((U8 ts X.env).map (·.2)) us) (fun _ s'=>∃ σ' H',Inv X pins σ' H' s'/\Q σ' H') X.xe s
abbrev X7p:=V->V->V->Hp->(Hp->Prop)->Prop
def X7q(X:Cx)(t:X7p):Prop :=
 ∀ (pins:List (Addr×Obj)) (s:Shared) (σ:St) (H:Hp) (o i v:V) (ov iv u:Value) (Q:Hp->Prop),Inv X pins σ H s->RelV o ov->RelV i iv->RelV v u->t o i v H Q ->
  wpAny (model X.prog X.w) X.A (setItem ov iv u) (fun _ s'=>∃ H',Inv X pins σ H' s'/\Q H') X.xe s
section
variable{X:Cx}{pos:Pos}
noncomputable def Xow(i:Nat):TG:=fun v σ H Q=>Q (σ.set i (some v)) H
theorem Xnr{i:Nat}{x:Str}(hN:X.N.Nodup)(hi:X.N[i]?=some x)(hx:Loc X.env.scope x)(hf:X.fn x=true\/X.env.scope.names.lookup x=some .local:=by first|exact .inl rfl|exact .inr rfl|assumption):PG X (.Name x pos) (Xow i):=by
 intro pins s σ H v u Q I r h;exact Vfa (Xba I hN hi hx r (fun s' I'=>⟨_,H,I',h⟩) hf)
noncomputable def X1p:TGs:=fun vs σ H Q=>vs=[]/\Q σ H
noncomputable def Xxd(t:TG)(u:TGs):TGs:=fun vs σ H Q=>∃ v r,vs=v::r/\t v σ H fun σ' H'=>u r σ' H' Q
theorem Xns:PGs X [] X1p:=by
 intro pins s σ H vs us Q I r h;obtain⟨e,h⟩:=h;subst e;cases r;exact assignInOrder_nil ⟨σ,H,I,h⟩
theorem Xfo{e:Expr}{es:List Expr}{t:TG}{u:TGs}(h1:PG X e t)(h2:PGs X es u)
  (hs:(U8 (e::es) X.env).map (·.2)=assign e X.env::(U8 es X.env).map (·.2):=by rfl):PGs X (e::es) (Xxd t u):=by
 intro pins s σ H vs us Q I r h;obtain⟨v,vr,e1,h⟩:=h;subst e1;cases r with
 | cons r rr =>
  rw[hs];refine Ve0 (thn (h1 pins s σ H _ _ _ I r h) fun _ s1 ⟨σ1,H1,I1,q1⟩=>?_)
  exact h2 pins s1 σ1 H1 _ _ Q I1 rr q1
noncomputable def X7r(K:Vf)(n:Nat)(t:TGs):TG:=fun v σ H Q=>∃ a xs,v=.ref a/\SqT K H a xs/\xs.length=n/\t xs σ H Q
theorem Xkx{es:List Expr}{k:Nat}{t:TGs}{n:Nat}(hc:X.calm=true)(h:PGs X es t)
  (hn:(U8 es X.env).length=n:=by rfl) (hst:(U8 es X.env).findIdx? (·.1)=none:=by rfl):PG X (.Tuple es k pos) (X7r X.K n t):=by
 intro pins s σ H v u Q I r hw;obtain⟨a,xs,e1,hq,hl,hw⟩:=hw;subst e1;cases r;obtain⟨its,rv,ht,hz⟩:=I.tuple hq;refine assign_Tuple_tuple (I.ok.hd hc) ht (by simp[hn,<- hl,rv.length]) hst fun h' hx=>?_
 have I1:Inv X pins σ H { s with heap:=h' }:=I.kept (t':=s.toks) fun b o e=>hx b o (V5 (Vm e)) e
 exact h pins _ σ H xs _ Q I1 (by simpa using rv) hw
end
structure It where
 go:Nat->Hp->Prop
 yld:Nat->Hp->V->Hp->Prop
 stop:Nat->Hp->Prop
def Xaf(X:Cx)(pins:List (Addr×Obj))(H:Hp)(b:Addr):Prop :=
 H b=none/\b≠X.env.locals/\b ∉ X.fs/\(b∈X.ex\/X.s₀.heap.objs.size<=b)/\(∀ x c,X.env.cells.lookup x=some c->c≠b)/\∀ p∈X.pn++pins,p.1≠b
theorem Inv.fpOk{X:Cx}{pins:List (Addr×Obj)}{σ:St}{H H':Hp}{s:Shared}{b:Addr}(I:Inv X pins σ H s)(hb:s.heap.objs.size<=b)(hn:H' b=none):Xaf X pins H' b:=by
 refine⟨hn,Vbk (Vu I.lt hb),I.nofs hb,.inr (Vy I.sz hb),fun x c e z=>?_,fun p hp z=>?_⟩
 ·obtain⟨v,q⟩:=I.cell x c e
  exact absurd (Vu q.lt (by rw[z];exact hb)) (Vb0 _)
 ·exact absurd (Vu (Vm (I.pin p hp).1) (by rw[z];exact hb)) (Vb0 _)
structure Turn(P:Program)(w:World)(K:Vf)(tg:Expr)(J:It)(fp:List Addr)(it:Addr)(tn:Nat->Heap->Prop):Prop where
 mem:it∈fp
 obj:∀ i h,tn i h->∀ b∈fp,∃ o,h.get? b=some o/\∀ v,o.data≠.cell v
 keep:∀ i h h',tn i h->(∀ b∈fp,∀ o,h.get? b=some o->h'.get? b=some o)->tn i h'
 item:∀ (X:Cx),X.prog=P->X.w=w->X.K=K->X.calm=true->∀ (i:Nat) (pins:List (Addr×Obj)) (s:Shared) (σ:St) (H:Hp) (E:Value->Shared->Prop),Inv X pins σ H s->(∀ b∈fp,Xaf X pins H b)->tn i s.heap->J.go i H ->
  wpAny (model P w) X.A (pyNext (.ref it)) (fun r s1=>∃ u,r=some u /\
   wpAny (model P w) X.A (Vbl tg (.ref it) u) (fun _ s2=>∃ x H',Inv X pins σ H' s2/\RelV x u/\J.yld i H x H'/\tn (i+1) s2.heap/\∀ b∈fp,H' b=none) E s1) E s
 done:∀ (X:Cx),X.prog=P->X.w=w->X.K=K->X.calm=true->∀ (i:Nat) (pins:List (Addr×Obj)) (s:Shared) (σ:St) (H:Hp) (E:Value->Shared->Prop),Inv X pins σ H s->(∀ b∈fp,Xaf X pins H b)->tn i s.heap->J.stop i H ->
  wpAny (model P w) X.A (pyNext (.ref it)) (fun r s1=>r=none/\Inv X pins σ H s1) E s
 self:∀ (A:Around) (i:Nat) (s:Shared) (Q:Value->Shared->Prop) (E:Value->Shared->Prop),tn i s.heap->Q (.ref it) s->wpAny (model P w) A (pyIter (.ref it)) Q E s
def PIE(X:Cx)(pins:List (Addr×Obj))(σ:St)(tg:Expr)(R:It->Hp->Prop)(itv:Value)(s2:Shared):Prop :=
 ∃ (it:Addr) (fp:List Addr) (tn:Nat->Heap->Prop) (J:It) (H':Hp),itv=.ref it/\Inv X pins σ H' s2/\Turn X.prog X.w X.K tg J fp it tn/\tn 0 s2.heap/\(∀ b∈fp,Xaf X pins H' b)/\R J H'
theorem Xkb{M:Model}{A:Around}{E:Value->Shared->Prop}{s:Shared}{tg:Expr}{it:Addr}{u:Value}{o:Obj}{n:String}{vs:Array Value}{Q:Unit->Shared->Prop}(ho:s.heap.get? it=some o)(hc:o.cls=.type n)(hd:o.data=.fields vs)
  (hn:["enumerate","zip","dict_itemiterator","dict_reverseitemiterator","odict_iterator","itertools.zip_longest","itertools.pairwise"].contains n=false) (hQ:Q () s):wpAny M A (Vbl tg (.ref it) u) Q E s:=by
 unfold Vbl;cases tg<;>first
  | exact Vg hQ
  | (cases u<;>first
    | exact Vg hQ
    | (refine Va (wpAny_load ho ?_)
       rw[hc,hd];show wpAny M A (if (["enumerate","zip","dict_itemiterator","dict_reverseitemiterator","odict_iterator","itertools.zip_longest","itertools.pairwise"].contains n&&vs[0]?==some (rawInt _))=true then _ else _) Q E s
       rw[if_neg (by intro h;rw[hn,Vcb] at h;cases h)]
       exact Vg hQ))
noncomputable def Itl(K:Vf)(a:Addr):It :=
 ⟨fun i H=>∃ xs x,SqL K H a xs/\xs[i]?=some x,fun i H x H'=>H'=H/\∀ xs,SqL K H a xs->xs[i]?=some x,fun i H=>∃ xs,SqL K H a xs/\xs.length<=i⟩
noncomputable def Itt(K:Vf)(a:Addr):It :=
 ⟨fun i H=>∃ xs x,SqT K H a xs/\xs[i]?=some x,fun i H x H'=>H'=H/\∀ xs,SqT K H a xs->xs[i]?=some x,fun i H=>∃ xs,SqT K H a xs/\xs.length<=i⟩
noncomputable def Itr(lo:Int)(n:Nat):It:=⟨fun i _=>i<n,fun i H x H'=>H'=H/\x=.int (lo+i),fun i _=>n<=i⟩
theorem Xqz{P:Program}{w:World}{K:Vf}{tg:Expr}(a it:Addr):Turn P w K tg (Itl K a) [it] it (fun i h=>h.IsListIter it a i) where
 mem:=by simp
 obj:=fun i h st b hb=>by
  have e:b=it:=by simpa using hb
  subst e;obtain⟨o,e,c,d⟩:=st;exact⟨o,e,fun v z=>by rw[d] at z;cases z⟩
 keep:=fun i h h' st k=>st.at fun o e=>k it (by simp) o e
 item:=by
  intro X hP hw hK hc i pins s σ H E I hf st hg;subst hP hw hK;obtain⟨xs,x,hq,hx⟩:=hg;obtain⟨its,rv,p,hz⟩:=I.list hq;obtain⟨u,hu,ru⟩:=rv.get hx;obtain⟨f0,f1,f2,f3,f4,f5⟩:=hf it (by simp)
  refine wpAny_pyNext_list_item st p.isList (x:=u) (by simpa using hu) fun h' st' sb=>?_
  have I1:Inv X pins σ H { s with heap:=h' }:=I.turned (t':=s.toks) (fun b o hb e=>(sb.2 b hb).trans e) f0 f1 f3 f4 f5
  obtain⟨o,e,c,d⟩:=id st';exact⟨u,rfl,Xkb (s:={ s with heap:=h' }) e c d (by decide) ⟨x,H,I1,ru,⟨rfl,fun ys hy=>by rw[I.list_inj hy hq];exact hx⟩,st',fun b hb=>(hf b hb).1⟩⟩
 done:=by
  intro X hP hw hK hc i pins s σ H E I hf st hg;subst hP hw hK;obtain⟨xs,hq,hx⟩:=hg;obtain⟨its,rv,p,hz⟩:=I.list hq;obtain⟨f0,f1,f2,f3,f4,f5⟩:=hf it (by simp)
  have hl:=rv.length;exact wpAny_pyNext_list_end (I.ok.hd hc) st p.isList (by simp;omega) fun h' eb=>⟨rfl,I.turned (t':=s.toks) (fun b o hb e=>eb b o hb e) f0 f1 f3 f4 f5⟩
 self:=fun _ _ _ _ _ st h=>wpAny_pyIter_listiter st h
theorem Xox{P:Program}{w:World}{K:Vf}{tg:Expr}(a it:Addr):Turn P w K tg (Itt K a) [it] it (fun i h=>h.IsTupleIter it a i) where
 mem:=by simp
 obj:=fun i h st b hb=>by
  have e:b=it:=by simpa using hb
  subst e;obtain⟨o,e,c,d⟩:=st;exact⟨o,e,fun v z=>by rw[d] at z;cases z⟩
 keep:=fun i h h' st k=>st.at fun o e=>k it (by simp) o e
 item:=by
  intro X hP hw hK hc i pins s σ H E I hf st hg;subst hP hw hK;obtain⟨xs,x,hq,hx⟩:=hg;obtain⟨its,rv,p,hz⟩:=I.tuple hq;obtain⟨u,hu,ru⟩:=rv.get hx;obtain⟨f0,f1,f2,f3,f4,f5⟩:=hf it (by simp)
  refine wpAny_pyNext_tuple_item st (show s.heap.IsTuple a its.toArray from p) (x:=u) (by simpa using hu) fun h' st' sb=>?_
  have I1:Inv X pins σ H { s with heap:=h' }:=I.turned (t':=s.toks) (fun b o hb e=>(sb.2 b hb).trans e) f0 f1 f3 f4 f5
  obtain⟨o,e,c,d⟩:=id st';exact⟨u,rfl,Xkb (s:={ s with heap:=h' }) e c d (by decide) ⟨x,H,I1,ru,⟨rfl,fun ys hy=>by rw[I.tuple_inj hy hq];exact hx⟩,st',fun b hb=>(hf b hb).1⟩⟩
 done:=by
  intro X hP hw hK hc i pins s σ H E I hf st hg;subst hP hw hK;obtain⟨xs,hq,hx⟩:=hg;obtain⟨its,rv,p,hz⟩:=I.tuple hq;obtain⟨f0,f1,f2,f3,f4,f5⟩:=hf it (by simp)
  have hl:=rv.length;exact wpAny_pyNext_tuple_end (I.ok.hd hc) st (show s.heap.IsTuple a its.toArray from p) (by simp;omega) fun h' eb=>⟨rfl,I.turned (t':=s.toks) (fun b o hb e=>eb b o hb e) f0 f1 f3 f4 f5⟩
 self:=fun _ _ _ _ _ st h=>wpAny_pyIter_tupleiter st h
theorem Xoy{P:Program}{w:World}{K:Vf}{tg:Expr}(it:Addr)(lo:Int)(n:Nat):Turn P w K tg (Itr lo n) [it] it (fun i h=>IsRangeIter h it (lo+(i:Nat)*1) ((n:Int)-(i:Nat)) 1) where
 mem:=by simp
 obj:=fun i h st b hb=>by
  have e:b=it:=by simpa using hb
  subst e;exact⟨_,st,fun v z=>by
   have z':Data.fields _=Data.cell v:=z;cases z'⟩
 keep:=fun i h h' st k=>k it (by simp) _ st
 item:=by
  intro X hP hw hK hc i pins s σ H E I hf st hg;subst hP hw hK;obtain⟨f0,f1,f2,f3,f4,f5⟩:=hf it (by simp)
  have W:=Walks.range (prog:=X.prog) (w:=X.w) (I.ok.hd hc) it lo 1 n;refine W.item i s _ _ hg st fun v h' tk hv st' kk=>?_
  obtain⟨t,rfl⟩:=hv;have I1:Inv X pins σ H { s with heap:=h',toks:=tk }:=I.turned (fun b o hb e=>kk b o (by simpa using hb) e) f0 f1 f3 f4 f5
  refine⟨_,rfl,Xkb (s:={ s with heap:=h',toks:=tk }) (n := "range_iterator") st' rfl rfl (by decide) ⟨.int (lo+i),H,I1,⟨t,?_⟩,⟨rfl,rfl⟩,st',fun b hb=>(hf b hb).1⟩⟩
  rw[Int.mul_one]
 done:=by
  intro X hP hw hK hc i pins s σ H E I hf st hg;subst hP hw hK;obtain⟨f0,f1,f2,f3,f4,f5⟩:=hf it (by simp)
  exact wpAny_pyNext_range_end (I.ok.hd hc) st (by have:n<=i:=hg;omega) fun h' eb=>⟨rfl,I.turned (t':=s.toks) (fun b o hb e=>eb b o hb e) f0 f1 f3 f4 f5⟩
 self:=fun _ _ _ _ _ st h=>wpAny_pyIter_rangeiter st h
end L2
namespace L2
open PySem PySem.Spec PyProof.Rows
section
variable{X:Cx}{tg:Expr}
theorem Xtw{pins:List (Addr×Obj)}{σ:St}{H:Hp}{s:Shared}{R:It->Hp->Prop}{E:Value->Shared->Prop}{lo hi:Int}{t u v:Tok}{tk:Nat}(I:Inv X pins σ H s)(h1:-(2^62)<=lo)(h2:lo<2^62)(h3:-(2^62)<=hi)(h4:hi<2^62)
  (q:R (Itr lo (hi-lo).toNat) H):wpAny (model X.prog X.w) X.A (pyIter (.ref s.heap.objs.size)) (PIE X pins σ tg R) E { s with heap:=s.heap.push { cls:=.type "range",data:=.fields #[.int lo t,.int hi u,.int 1 v] },toks:=tk }:=by
 refine wpAny_pyIter_range (IsRange.new ..) (small_one h1 h2 h3 h4) ?_;have I1:Inv X pins σ H { s with heap:=s.heap.push { cls:=.type "range",data:=.fields #[.int lo t,.int hi u,.int 1 v] },toks:=tk }:=I.kept fun b o e=>Vb _ e
 refine⟨(s.heap.push { cls:=.type "range",data:=.fields #[.int lo t,.int hi u,.int 1 v] }).objs.size,[(s.heap.push { cls:=.type "range",data:=.fields #[.int lo t,.int hi u,.int 1 v] }).objs.size],_,_,H,rfl,
  I1.kept (t':=tk) fun b o e=>Vb _ e,Xoy _ lo (hi-lo).toNat,?_,fun b hb=>?_,q⟩
 ·have e1:lo+((0:Nat):Int)*1=lo:=by simp
  have e2:(((hi-lo).toNat:Nat):Int)-((0:Nat):Int)=Vci lo hi 1:=by rw[rangeSize_one];split<;>omega
  show IsRangeIter _ _ (lo+((0:Nat):Int)*1) ((((hi-lo).toNat:Nat):Int)-((0:Nat):Int)) 1;rw[e1,e2];exact Vk _ rfl
 ·have e:b=(s.heap.push { cls:=.type "range",data:=.fields #[.int lo t,.int hi u,.int 1 v] }).objs.size:=by simpa using hb
  subst e;exact I1.fpOk (Vh _) (I1.hok.fresh (Vh _))
noncomputable def Xbh(fp:List Addr)(h:Heap):List (Addr×Obj):=fp.filterMap fun b=>(h.get? b).map fun o=>(b,o)
theorem Xb9{fp:List Addr}{h:Heap}{b:Addr}{o:Obj}(hb:b∈fp)(e:h.get? b=some o):(b,o)∈Xbh fp h:=Vdl.mpr ⟨b,hb,by rw[e];rfl⟩
theorem Xq0{fp:List Addr}{h:Heap}{p:Addr×Obj}(hp:p∈Xbh fp h):p.1∈fp/\h.get? p.1=some p.2:=by
 obtain⟨b,hb,e⟩:=Vdl.mp hp;cases q:h.get? b with
 | none=>rw[q] at e;cases e
 | some o =>
  rw[q] at e;have e':(b,o)=p:=V6 e;subst e';exact⟨hb,q⟩
theorem Inv.pinned{pins:List (Addr×Obj)}{σ:St}{H:Hp}{s:Shared}{fp:List Addr}(I:Inv X pins σ H s)(hf:∀ b∈fp,Xaf X pins H b)(ho:∀ b∈fp,∃ o,s.heap.get? b=some o/\∀ v,o.data≠.cell v):Inv X (pins++Xbh fp s.heap) σ H s :=
 I.pins_of fun p hp=>(Uz.mp hp).elim (fun z=>I.pin p (U0 _ z)) fun z=>by
  obtain⟨hb,e⟩:=Xq0 z;obtain⟨f0,f1,f2,_⟩:=hf p.1 hb;obtain⟨o,e',d⟩:=ho p.1 hb;rw[e] at e';cases e';exact⟨e,f0,f1,f2,d⟩
theorem Inv.unpinned{pins pl:List (Addr×Obj)}{σ:St}{H:Hp}{s:Shared}(I:Inv X (pins++pl) σ H s):Inv X pins σ H s:=I.pins_of fun p hp=>I.pin p (U0 _ (List.mem_append_left _ hp))
end
end L2
namespace L2
open PySem PySem.Spec PyProof.Rows
abbrev R2:=V->V->Hp->VK->Prop
def OpR(X:Cx)(f:Value->Value->Sem Value)(r:R2):Prop :=
 ∀ (pins:List (Addr×Obj)) (s:Shared) (σ:St) (H:Hp) (x y:V) (v u:Value) (Q:VK),Inv X pins σ H s->RelV x v->RelV y u->r x y H Q ->
  wpAny (model X.prog X.w) X.A (f v u) (EP X pins σ Q) X.xe s
def Xdt(X:Cx)(f:Value)(r:List V->Hp->VK->Prop):Prop :=
 ∀ (pins:List (Addr×Obj)) (s:Shared) (σ:St) (H:Hp) (xs:List V) (us:List Value) (Q:VK),Inv X pins σ H s->Vals xs us->r xs H Q ->
  wpAny (model X.prog X.w) X.A (call f us) (EP X pins σ Q) X.xe s
def X7s(X:Cx)(r:V->Hp->(Bool->Hp->Prop)->Prop):Prop :=
 ∀ (pins:List (Addr×Obj)) (s:Shared) (σ:St) (H:Hp) (x:V) (v:Value) (Q:Bool->Hp->Prop),Inv X pins σ H s->RelV x v->r x H Q ->
  wpAny (model X.prog X.w) X.A (truthy v) (TP X pins σ Q) X.xe s
section
variable{X:Cx}{a b c:Expr}{ta tb tc:TE}{pos:Pos}
def CMul(i j:Int):Prop:=(-(2^64)<i/\i<2^64)\/(-(2^64)<j/\j<2^64)
theorem CMul.ok{i j:Int}(h:CMul i j):IntMulOk i j:=by
 rcases h with⟨h1,h2⟩|⟨h1,h2⟩
 ·exact .of_left (intBits_le_64 h1 h2)
 ·exact .of_right (intBits_le_64 h1 h2)
noncomputable def X5p:HO->Bool
 | .lst _=>true
 | .ins _ _ _=>true
 | _=>false
theorem Xct{pins:List (Addr×Obj)}{s:Shared}{σ:St}{H:Hp}{a:Addr}{o:HO}(I:Inv X pins σ H s)(h:H a=some o)(p:X5p o=true):∃ ob,s.heap.get? a=some ob/\ob.cls≠.type "tuple" := by
 cases o with
 | lst xs =>
  obtain⟨_,its,n,_,e⟩:xs.length<=Vt/\∃ (its:List Value) (n:Nat),Vals xs its/\s.heap.get? a=some { cls:=.type "list",data:=.seq its.toArray n }:=I.hok a _ h;exact⟨_,e,(by show Vc5 "list" ≠ .type "tuple";decide+kernel)⟩
 | ins C dx fs =>
  have x:=I.hok a _ h;obtain⟨_,_,_,e,_⟩:=x;exact⟨_,e,(by show Vae C≠.type "tuple";exact fun z=>by cases z)⟩
 | _=>exact absurd (show false=true from p) V9
def X1q(K:Vf)(x:V)(H:Hp)(k:Bool):Prop :=
 match x with
 | .non=>k=false
 | .bl b=>k=b
 | .int i=>k=(i != 0)
 | .str y=>y.length<=Vt/\k=((y.length:Int) != 0)
 | .byt y=>y.size<=Vt/\k=((y.size:Int) != 0)
 | .ref p=>(∃ xs,SqL K H p xs/\k = !xs.isEmpty)\/(∃ xs,SqT K H p xs/\k = !xs.isEmpty)\/∃ kvs,H p=some (.dK kvs)/\k = !kvs.isEmpty
 | _=>False
theorem Xoz{κ:Type}{kvs:List (κ×V)}{vs:List (κ×Value)}(r:KV kvs vs):(!vs.isEmpty) = !kvs.isEmpty:=by
 cases r<;>rfl
theorem Xgh{xs:List V}{its:List Value}(r:Vals xs its):(!its.toArray.isEmpty) = !xs.isEmpty:=by
 cases r<;>simp
theorem Xcg:(Vt:Nat)<2^63:=by rw[sizeLine_eq];decide
theorem X1r:X7s X (fun x H Q=>∃ k,X1q X.K x H k/\Q k H):=by
 intro pins s σ H x v Q I rx h;obtain⟨k,e,q⟩:=h;have hl:=Xcg;have hs:Vt=16777216:=sizeLine_eq;cases x with
 | non =>
  cases rx;have e':k=false:=e;subst e';exact truthy_none ⟨H,I,q⟩
 | bl b =>
  cases rx;have e':k=b:=e;subst e';exact Vb6 ⟨H,I,q⟩
 | int i =>
  obtain⟨t,rfl⟩:=rx;have e':k=(i != 0):=e;subst e';exact PySem.P.truthy_int ⟨H,I,q⟩
 | str y =>
  obtain⟨t,rfl⟩:=rx;obtain⟨hy,e'⟩:y.length<=Vt/\k=((y.length:Int) != 0):=e;subst e';exact PySem.P.truthy_str (by omega) ⟨H,I.tok _,q⟩
 | byt y =>
  obtain⟨t,rfl⟩:=rx;obtain⟨hy,e'⟩:y.size<=Vt/\k=((y.size:Int) != 0):=e;subst e';exact PySem.W.truthy_bytes (by omega) ⟨H,I.tok _,q⟩
 | ref p =>
  cases rx;have e':(∃ xs,SqL X.K H p xs/\k = !xs.isEmpty)\/(∃ xs,SqT X.K H p xs/\k = !xs.isEmpty)\/∃ kvs,H p=some (.dK kvs)/\k = !kvs.isEmpty:=e;rcases e' with⟨xs,hx,e'⟩|⟨xs,hx,e'⟩|⟨kvs,hx,e'⟩
  ·subst e'
   obtain⟨its,r,pl,hz⟩:=I.list hx;have hlen:=r.length;exact wpAny_truthy_list pl.isList (by simp only[Vn];omega) ⟨H,I.tok _,by rw[Xgh r];exact q⟩
  ·subst e'
   obtain⟨its,r,pl,hz⟩:=I.tuple hx;have hlen:=r.length;exact truthy_tuple pl (by simp only[Vn];omega) ⟨H,I.tok _,by rw[Xgh r];exact q⟩
  ·subst e'
   obtain⟨hz,hS,vs,r,m⟩:kvs.length<=Vt/\(p==Vb7)=false/\∃ vs,KV kvs vs/\s.heap.DictOf (Xhg X.prog X.w) p vs:=I.hok p _ hx;have hlen:kvs.length=vs.length:=Paired.length r;exact wpAny_truthy_dict hS m (by omega) ⟨H,I.tok _,by rw[Xoz r];exact q⟩
 | _=>exact(show False from e).elim
theorem Xo0:OpR X (Vbm .Add) (fun x y H Q=>∃ i j,x=.str i/\y=.str j/\i.length+j.length<=Vt/\Q (.str (i++j)) H):=by
 intro pins s σ H x y v u Q I rx ry h;obtain⟨i,j,rfl,rfl,hz,q⟩:=h;obtain⟨t,rfl⟩:=rx;obtain⟨t',rfl⟩:=ry;exact add_str (fun t' tk=>⟨.str (i++j),H,I.tok _,⟨_,rfl⟩,q⟩) hz
theorem Xkc{x:V}{us:List Value}(r:Vals [x] us):∃ u,us=[u]/\RelV x u:=by
 cases r with
 | cons r1 r2=>cases r2;exact⟨_,rfl,r1⟩
theorem Xxe{x y:V}{us:List Value}(r:Vals [x,y] us):∃ u w',us=[u,w']/\RelV x u/\RelV y w':=by
 cases r with
 | cons r1 r2 =>
  cases r2 with
  | cons r3 r4=>cases r4;exact⟨_,_,rfl,r1,r3⟩
theorem Xq1(hc:X.calm=true):Xdt X (.builtin "max") (fun xs H Q=>∃ i j,xs=[.int i,.int j]/\Q (.int (if j>i then j else i)) H):=by
 intro pins s σ H xs us Q I r h;obtain⟨i,j,rfl,q⟩:=h;obtain⟨u,w',rfl,⟨t,rfl⟩,⟨t',rfl⟩⟩:=Xxe r;refine max_two_ints (I.ok.hd hc) fun h' tk k=>⟨_,H,I.kept k,?_,q⟩
 by_cases hj:j>i
 ·rw[if_pos hj,if_pos hj];exact⟨_,rfl⟩
 ·rw[if_neg hj,if_neg hj];exact⟨_,rfl⟩
theorem Xq2(hc:X.calm=true):Xdt X (.builtin "min") (fun xs H Q=>∃ i j,xs=[.int i,.int j]/\Q (.int (if j<i then j else i)) H):=by
 intro pins s σ H xs us Q I r h;obtain⟨i,j,rfl,q⟩:=h;obtain⟨u,w',rfl,⟨t,rfl⟩,⟨t',rfl⟩⟩:=Xxe r;refine min_two_ints (I.ok.hd hc) fun h' tk k=>⟨_,H,I.kept k,?_,q⟩
 by_cases hj:j<i
 ·rw[if_pos hj,if_pos hj];exact⟨_,rfl⟩
 ·rw[if_neg hj,if_neg hj];exact⟨_,rfl⟩
end
end L2
namespace L2
open PySem PySem.Spec PyProof.Rows
section
variable{prog:Program}{w:World}{A:Around}{E:Value->Shared->Prop}{s:Shared}{K:Vf}{x dx C f:Addr}{mA:Str->Option Value}{name:Str}{v:Value}
end
section
variable{P:Program}{w:World}{H H':Hp}{h h':Heap}{a C dx:Addr}{fs fs':List (Str×V)}
end
section
variable{X:Cx}{pins:List (Addr×Obj)}{σ:St}{H:Hp}{s:Shared}{a C dx:Addr}{fs:List (Str×V)}{f:Str}{v:V}{A:Around}{E:Value->Shared->Prop}
end
section
variable{X:Cx}{o e value:Expr}{f:Str}{pos pos' tpos:Pos}{ta tv:TE}
end
section
variable{X:Cx}{pins:List (Addr×Obj)}{σ:St}{H:Hp}{s:Shared}{A:Around}{E:Value->Shared->Prop}{Q:Value->Shared->Prop}{c:Value}{b:Bool}
end
end L2
namespace L2
open PySem PySem.Spec PyProof.Rows
structure Room(k:Nat)(A:Around):Prop where
 gd:A.guards=some []
 hd:A.handled=none
 dp:A.depth+3*k+5<recursionLimit
 un:A.units+16*k+200<cLine
section
variable{X:Cx}{e:Expr}{es:List Expr}{te:TE}{t:TA}{pos:Pos}
end
abbrev Sp:=List V->Hp->VK->XK->Prop
abbrev CXT:=List Env->Hp->Shared->XK->Value->Shared->Prop
structure Env0(P:Program)(w:World)(K:Vf)(mg:Str->Option Value)(base:Heap)(A:Around)(outer:List Env)(s:Shared)(H:Hp):Prop where
 frames:A.frames=some outer
 mod:Mod K mg base
 bs:∀ b o,base.get? b=some o->s.heap.get? b=some o/\H b=none
 bsz:base.objs.size<=s.heap.objs.size
 funs:s.heap.FunFrames base outer
 frf:∀ b∈frs outer,H b=none
 hok:HOk P w H s.heap
 bare:AllBare s.gens
def CE(outer:List Env)(P:Program)(w:World)(H:Hp)(s:Shared)(Q:VK)(u:Value)(s':Shared):Prop :=
 ∃ v H',s'.os=s.os/\AllBare s'.gens/\Un (frs outer) [] H H' s.heap s'.heap/\HOk P w H' s'.heap/\RelV v u/\Q v H'
def CR(CX:CXT)(outer:List Env)(P:Program)(w:World)(H:Hp)(s:Shared)(Q:VK)(E:XK)(r:Result)(s':Shared):Prop :=
 match r with
 | .ok (.ret u)=>CE outer P w H s Q u s'
 | .ok _=>False
 | .error e=>CX outer H s E e s'
structure FnOk(P:Program)(w:World)(K:Vf)(mg:Str->Option Value)(base:Heap)(CX:CXT)(k:Nat)(f:Addr)(fd:Vbv)(ps:List Str)(sp:Sp):Prop where
 len:∀ vs H Q E,sp vs H Q E->vs.length=ps.length
 run:∀ (A:Around) (outer:List Env) (s:Shared) (H:Hp) (args:Args) (us:List Value) (vs:List V) (Q:VK) (E:XK),Room k A->Env0 P w K mg base A outer s H->BindsTo s fd args (ps.zip us)->Vals vs us->sp vs H Q E ->
  codeAny (model P w) A (.call (.ref f) args) (CR CX outer P w H s Q E) s
section
variable{X:Cx}{pins:List (Addr×Obj)}{σ:St}{H:Hp}{s s':Shared}
theorem Inv.env0(I:Inv X pins σ H s):Env0 X.prog X.w X.K X.mg X.base X.A X.stack s H :=
 ⟨I.ok.frames,I.ok.mod,I.bs,Vy I.ok.bsz I.sz,I.stack,I.stkFree,I.hok,I.bare⟩
theorem Inv.after{Q:VK}{u:Value}(I:Inv X pins σ H s)(h:CE X.stack X.prog X.w H s Q u s'):EP X pins σ Q u s':=by
 obtain⟨v,H',os,bare,un,hok,r,q⟩:=h;obtain⟨hh,g,d,t,os'⟩:=s';obtain rfl:os'=s.os:=os;exact⟨v,H',I.call (h':=hh) (g':=g) (d':=d) (t':=t) (ch:=[]) un hok bare (fun b z=>absurd z (by simp)),r,q⟩
end
def Binds(K:Vf)(fd:Vbv)(ps:List Str)(ds:List Value):Prop :=
 ∀ (s:Shared) (us:List Value),K.In s.heap->(us++ds).length=ps.length->BindsTo s fd ⟨us,[]⟩ (ps.zip (us++ds))
theorem Binds.all{K:Vf}{fd:Vbv}{ps:List Str}(h:∀ us:List Value,us.length=ps.length->bindArgs fd ⟨us,[]⟩=pure (ps.zip us)):Binds K fd ps []:=fun s us _ hl=>by
 rw[Vp] at hl ⊢;exact .of_eq (h us hl)
section
variable{X:Cx}{CX:CXT}{k:Nat}{f C:Addr}{fd:Vbv}{ps:List Str}{sp:Sp}{dvs:List V}{ds:List Value}{E:XK}{x m:Str}{p pos apos:Pos}{e o:Expr}{es:List Expr}{ta:TE}{t:TA}
end
section
variable{X:Cx}{CX:CXT}{k:Nat}{f C:Addr}{fd:Vbv}{ps ks:List Str}{sp:Sp}{E:XK}{x m:Str}{p pos apos kpos:Pos}{e o:Expr}{es:List Expr}{kws:List Keyword}{te ta:TE}{t tk:TA}{nm:Option Str}
variable{g:List Value->List Value->List Value}{gV:List V->List V->List V}
end
structure FnScope(N P:List Str)(sc:Scope):Prop where
 kind:sc.kind=.function
 co:sc.isCoroutine=false
 gen:sc.isGenerator=false
 nd:N.Nodup
 pre:N.take P.length=P
 par:∀ x∈P,sc.names.lookup x=some .local\/sc.names.lookup x=some .cell
 nofree:∀ y∈sc.names,y.2≠.free
theorem Xjg{kindOf:Str->Option Vct}{x:Str}:∀ {binds:List (Str×Value)} {m:Str->Option Value},(∀ v,(x,v) ∉ binds)->bindL kindOf binds m x=m x
 | [],_,_=>rfl
 | (n,v)::r,m,h=>by
  unfold bindL;rw[Xjg fun w hw=>h w (Uw _ hw)]
  split
  ·have:x≠n:=by rintro rfl;exact h v Vbw
   simp[this]
  ·rfl
theorem Xjh{kindOf:Str->Option Vct}{x:Str}:∀ {binds:List (Str×Value)} {m:Str->Option Value},(∀ v,(x,v) ∉ binds)->bindC kindOf binds m x=m x
 | [],_,_=>rfl
 | (n,v)::r,m,h=>by
  unfold bindC;rw[Xjh fun w hw=>h w (Uw _ hw)]
  split
  ·rfl
  ·have:x≠n:=by rintro rfl;exact h v Vbw
   simp[this]
theorem Xji{kindOf:Str->Option Vct}{x:Str}{v:Value}:∀ {P:List Str} {vs:List Value} {i:Nat} {m:Str->Option Value},P.Nodup->P[i]?=some x->vs[i]?=some v->kindOf x=some .local ->
  bindL kindOf (P.zip vs) m x=some v
 | [],_,_,_,_,h,_,_=>by simp at h
 | _::_,[],_,_,_,_,h,_=>by simp at h
 | p::P,w::vs,0,m,nd,h1,h2,hk=>by
  simp at h1 h2;subst h1;subst h2;show bindL kindOf ((p,w)::P.zip vs) m p=_;unfold bindL;rw[Xjg fun v hv=>(Vdi.mp nd).1 (List.of_mem_zip hv).1,if_pos hk]
  simp
 | p::P,w::vs,i+1,m,nd,h1,h2,hk=>by
  show bindL kindOf ((p,w)::P.zip vs) m x=_;unfold bindL;exact Xji (i:=i) (Vdi.mp nd).2 (by simpa using h1) (by simpa using h2) hk
theorem Xjj{kindOf:Str->Option Vct}{x:Str}{v:Value}:∀ {P:List Str} {vs:List Value} {i:Nat} {m:Str->Option Value},P.Nodup->P[i]?=some x->vs[i]?=some v->kindOf x≠some .local ->
  bindC kindOf (P.zip vs) m x=some v
 | [],_,_,_,_,h,_,_=>by simp at h
 | _::_,[],_,_,_,_,h,_=>by simp at h
 | p::P,w::vs,0,m,nd,h1,h2,hk=>by
  simp at h1 h2;subst h1;subst h2;show bindC kindOf ((p,w)::P.zip vs) m p=_;unfold bindC;rw[Xjh fun v hv=>(Vdi.mp nd).1 (List.of_mem_zip hv).1,if_neg hk]
  simp
 | p::P,w::vs,i+1,m,nd,h1,h2,hk=>by
  show bindC kindOf ((p,w)::P.zip vs) m x=_;unfold bindC;exact Xjj (i:=i) (Vdi.mp nd).2 (by simpa using h1) (by simpa using h2) hk
noncomputable def start(N:List Str)(vs:List V):St:=vs.map some++Vd (N.length-vs.length) none
noncomputable def Xo1(CX:CXT)(P:Program)(w:World)(K:Vf)(mg:Str->Option Value)(base:Heap)(N:List Str)(qual:Str)(scope:Scope)(f:Addr)(cd:Value)(A:Around)(outer:List Env)(s:Shared)(H:Hp)(E:XK):Cx where
 prog:=P
 w:=w
 K:=K
 mg:=mg
 base:=base
 A:=A.deeper (envOfC qual scope s.heap.objs.size f cd)
 N:=N
 s₀:=s
 H₀:=H
 env:=envOfC qual scope s.heap.objs.size f cd
 outer:=outer
 stack:=envOfC qual scope s.heap.objs.size f cd::outer
 ex:=[]
 calm:=true
 fn:=fun _=>true
 pn:=[]
 xe:=fun e s'=>wpAny (model P w) (A.deeper (envOfC qual scope s.heap.objs.size f cd)) (leaving (envOfC qual scope s.heap.objs.size f cd) e) (fun _ s''=>CX outer H s E e s'') (fun e' s''=>CX outer H s E e' s'') s'
theorem Xky{sc:Scope}{n:Nat}{x:Str}(h:sc.names.lookup x=some .cell):∃ c,(Vao n sc.names []).lookup x=some c:=by
 have q:=Vd2 sc.names n [] (.inl h);exact Vbn.mp q
theorem Xq3{CX:CXT}{P:Program}{w:World}{K:Vf}{mg:Str->Option Value}{base:Heap}{N ps:List Str}{qual:Str}{scope:Scope}{f:Addr}{cd:Value}{A:Around}{outer:List Env}{s s1:Shared}{H:Hp}{E:XK}{us:List Value}{vs:List V}
  (S:FnScope N ps scope) (hd:A.handled=none) (e0:Env0 P w K mg base A outer s H) (hl:vs.length=ps.length) (r:Vals vs us)
  (x:InCallC s s.heap.objs.size (bindL (envOfC qual scope s.heap.objs.size f cd).kindOf (ps.zip us) fun _=>none) (Vao (s.heap.objs.size+1) scope.names []) (bindC (envOfC qual scope s.heap.objs.size f cd).kindOf (ps.zip us) fun _=>none) s1) :
  Inv (Xo1 CX P w K mg base N qual scope f cd A outer s H E) [] (start N vs) H s1:=by
 have hpl:ps.length<=N.length:=by have:=congrArg V0 S.pre;rw[Vba] at this;omega
 obtain⟨h1,tk,rfl,hk⟩:=x.done;have noA:∀ b:Addr,b ∉ (Xo1 CX P w K mg base N qual scope f cd A outer s H E).ex:=fun b z=>absurd (show b∈([]:List Addr) from z) (by simp)
 refine⟨⟨e0.mod,S.kind,rfl,rfl,Vh _,fun y z c h1 h2=>?_,fun y hy=>?_,fun y c _ h=>?_,fun _=>hd,Around.frames_deeper e0.frames,.inr ⟨rfl,rfl⟩,fun b z=>absurd z (noA b),e0.bs,e0.bsz,fun b _ _=>noA b,fun b z=>absurd z (noA b),e0.funs,e0.frf⟩,
  rfl,e0.bare,Un.kept hk,⟨_,x.toInCall.ns,fun i y v h1 h2 h3=>?_⟩,fun y c h=>⟨_,x.cell y c h⟩,e0.hok.fresh (Vh _),fun y c h=>?_,fun p hp=>absurd (show p∈([]:List (Addr×Obj)) from hp) (by simp),e0.hok.kept hk,?_⟩
 ·exact name_of_addr x.apart (Va3 h1) (Va3 h2)
 ·have hy:scope.names.lookup y=some .cell\/scope.names.lookup y=some .free:=hy
  rcases hy with hy|hy
  ·exact Xky hy
  ·exact absurd rfl (S.nofree _ (Va3 hy))
 ·exact Vcw (x.above y c (Va3 h))
 ·have hi:i<vs.length:=by
   unfold start at h2
   by_cases hi:i<vs.length
   ·exact hi
   ·rw[Vac (by simpa using hi)] at h2
    rw[Vbu] at h2;split at h2<;>cases h2
  have ha:vs[i]?=some v:=by
   unfold start at h2;rw[Vq (by simpa using hi),V1] at h2
   cases e:vs[i]? with
   | none=>rw[e] at h2;cases h2
   | some a=>rw[e] at h2;cases h2;rfl
  obtain⟨u,hu,rv⟩:=r.get ha;have hp:ps[i]?=some y:=by
   rw[<- S.pre,List.getElem?_take_of_lt (by omega)];exact h1
  have ndP:ps.Nodup:=by rw[<- S.pre];exact S.nd.sublist (List.take_sublist _ _)
  refine⟨u,rv,?_⟩;rcases S.par y (U4 hp) with k|k
  ·exact .inl ⟨k,Xji ndP hp hu k⟩
  ·obtain⟨c,e⟩:=Xky (n:=s.heap.objs.size+1) k
   refine .inr ⟨.inl k,c,e,?_⟩;have q:=x.cell y c e;rw[Xjj ndP hp hu (by show scope.names.lookup y≠_;rw[k];decide)] at q
   exact q
 ·exact e0.hok.fresh (Vcw (x.above y c (Va3 h)))
 ·unfold start
  show _=N.length;rw[Vbx,Vr,List.length_replicate];omega
end L2
namespace L2
open PySem PySem.Spec PyProof.Rows
section
variable{X:Cx}{x:Str}{p pos:Pos}{e:Expr}{es:List Expr}{t:TA}{id T:String}{r:List V->Hp->VK->Prop}
end
end L2
namespace HT
open PySem PyProof.Rows
section
open PySem.SeqAt
open PySem.AutoSeq1 (wpAny_loadPart')
open PySem.MeetsSeq PySem.MeetsSeq2 PySem.MeetsSeq3
end
section
variable{prog:Program}{w:World}{A:Around}{E:Value->Shared->Prop}{s:Shared}
theorem cat_tup{t b:Addr}{vs ws:List Value}{Q:Value->Shared->Prop}(ht:IsTup s.heap t vs.toArray)(hb:IsTup s.heap b ws.toArray)(hv:vs≠[])
  (h1:ws=[]->Q (.ref t) s) (h2:ws≠[]->Q (.ref s.heap.objs.size) { s with heap:=s.heap.push { cls:=.type "tuple",data:=.seq (vs++ws).toArray } })
  (hsz:vs.length+ws.length<=Vt):wpAny (model prog w) A (Vbm .Add (.ref t) (.ref b)) Q E s:=by
 obtain⟨⟨cls,dd,data,sl⟩,ho,hc,n,hd⟩:=id ht;obtain⟨⟨cls2,dd2,data2,sl2⟩,ho2,hc2,n2,hd2⟩:=id hb;simp only at hc hd hc2 hd2;subst hc hd hc2 hd2;have e:vs.toArray++ws.toArray=(vs++ws).toArray:=by simp
 by_cases hw:ws=[]
 ·exact concat_meets ⟨_,ho,rfl⟩ ⟨_,ho2,rfl⟩ noFill_tuple_add seq_tuple_add Vd3 Vdx (Vdm _ _)
   (tuple_addW1 t b vs.toArray ws.toArray n n2 dd dd2 sl sl2 (by simpa using hv) (by simp[hw])) ⟨ho,ho2,h1 hw⟩
 ·refine concat_meets ⟨_,ho,rfl⟩ ⟨_,ho2,rfl⟩ noFill_tuple_add seq_tuple_add Vd3 Vdx (Vdm _ _)
   (tuple_addW2 t b vs.toArray ws.toArray n n2 dd dd2 sl sl2 (by simpa using hv) (by simpa using hw) (by rw[Vn,Vn];exact hsz)) ⟨ho,ho2,?_⟩
  rw[e];exact h2 hw
noncomputable def sIx(n d:Nat):Option Int->Nat
 | none=>d
 | some v=>if v<0 then (v+(n:Int)).toNat else min v.toNat n
theorem X1s(n d:Nat)(hd:d<=n)(o:Option Int):sIx n d o<=n:=by
 cases o with
 | none=>exact hd
 | some v =>
  show(if v<0 then (v+(n:Int)).toNat else min v.toNat n)<=n
  by_cases hv:v<0
  ·rw[if_pos hv];omega
  ·rw[if_neg hv];exact Nat.min_le_right _ _
theorem Xnt(v:Int)(n d:Nat):(if v<0 then max (v+(n:Int)) 0 else min v (n:Int))=((sIx n d (some v):Nat):Int):=by
 show(if v<0 then max (v+(n:Int)) 0 else min v (n:Int))=(((if v<0 then (v+(n:Int)).toNat else min v.toNat n):Nat):Int)
 by_cases hv:v<0
 ·simp only[if_pos hv];omega
 ·simp only[if_neg hv];omega
theorem Xo2(lo hi:Option Int)(n:Nat):Vdj lo hi 1 (n:Int)=(((sIx n 0 lo:Nat):Int),((sIx n n hi:Nat):Int)):=by
 have h1:¬ ((1:Int)<0):=by omega
 unfold Vdj;simp only[h1,if_false];refine Prod.ext ?_ ?_
 ·cases lo with
  | none=>rfl
  | some v=>exact Xnt v n 0
 ·cases hi with
  | none=>rfl
  | some v=>exact Xnt v n n
theorem Xo3(i j:Nat):Vb8 (i:Int) (j:Int) 1=j-i:=by
 unfold Vb8;have h1:(1:Int)>0:=by omega
 simp only[h1,if_true,Int.ediv_one];split<;>omega
theorem slicePart_{v:Value}{o:Option Int}{Q:Option Int->Shared->Prop}(p:IsPart v o)(h:Q o s):wpAny (model prog w) A (Builtin.Slice.slicePartIndex v) Q E s:=by
 cases p with
 | none=>exact slicePart_none h
 | int i t=>exact slicePart_int h
theorem sliceApplied_gen{sl:Addr}{vl vu:Value}{lo hi:Option Int}{n:Nat}{Q:Int×Int×Nat->Shared->Prop}(hs:s.heap.IsSliceOf sl vl vu .none)(pl:IsPart vl lo)(pu:IsPart vu hi)
  (h:Q (((sIx n 0 lo:Nat):Int),1,sIx n n hi-sIx n 0 lo) s):wpAny (model prog w) A (Vb1 (.ref sl) (pure (n:Int))) Q E s:=by
 obtain⟨os,hos,hcs,hds⟩:=id hs;unfold Vb1 Vfh;refine Va (Va (V3 hos hds (x:=vl) rfl (Va (V3 hos hds (x:=vu) rfl (Va (V3 hos hds (x:=.none) rfl (Vg ?_)))))));refine Va (slicePart_none ?_);show wpAny _ _ (if ((1:Int)==0)=true then _ else _) _ _ s
 rw[if_neg (by decide)]
 refine Va (slicePart_ pl (Va (slicePart_ pu (Va (Vg ?_)))));show wpAny _ _ (match Vdj lo hi 1 (n:Int) with|(lo,hi)=>pure (lo,(1:Int),Vb8 lo hi 1)) _ _ s
 rw[Xo2 lo hi n];show wpAny _ _ (pure (((sIx n 0 lo:Nat):Int),(1:Int),Vb8 ((sIx n 0 lo:Nat):Int) ((sIx n n hi:Nat):Int) 1)) _ _ s;rw[Xo3];exact Vg h
theorem Xtx(xs:Array Value)(i k:Nat):((Vc k).filterMap fun(m:Nat)=>xs[((i:Int)+(m:Int)*1).toNat]?).toArray=((xs.toList.drop i).take k).toArray:=by
 have e:(fun(m:Nat)=>xs[((i:Int)+(m:Int)*1).toNat]?)=fun m=>xs[i+m]?:=by
  funext m
  have:((i:Int)+(m:Int)*1).toNat=i+m:=by omega
  rw[this]
 rw[e];have:=pick_run xs i k;rw[Vdn] at this;have e2:((fun x=>xs[x]?)∘fun x=>i+x)=fun m=>xs[i+m]?:=rfl
 rw[e2] at this;rw[this]
theorem getItem_tuple_cut{t sl:Addr}{items:Array Value}{vl vu:Value}{lo hi:Option Int}{Q:Value->Shared->Prop}(ht:IsTup s.heap t items)(hs:s.heap.IsSliceOf sl vl vu .none)(pl:IsPart vl lo)(pu:IsPart vu hi)
  (hw:¬ (sIx items.size 0 lo=0/\sIx items.size items.size hi=items.size))
  (h:Q (.ref s.heap.objs.size) { s with heap:=s.heap.push { cls:=.type "tuple",data:=.seq ((items.toList.drop (sIx items.size 0 lo)).take (sIx items.size items.size hi-sIx items.size 0 lo)).toArray } })
  (hsz:items.size<=Vt):wpAny (model prog w) A (getItem (.ref t) (.ref sl)) Q E s:=by
 have htake:sizeOk (.seq ((items.toList.drop (sIx items.size 0 lo)).take (sIx items.size items.size hi-sIx items.size 0 lo)).toArray):=by
  show((items.toList.drop (sIx items.size 0 lo)).take (sIx items.size items.size hi-sIx items.size 0 lo)).toArray.size<=Vt;rw[Vn,Vba,Vc6,Ver];omega
 have hj:sIx items.size items.size hi<=items.size:=X1s _ _ (Vh _) hi;obtain⟨os,hos,hcs,hds⟩:=id hs;have hTs:s.TypeIs (.ref sl) "slice" := ⟨os,hos,hcs⟩;unfold getItem
 try with_reducible refine U5 ?_
 first|refine Va (Vg ?_)|skip
 refine Va (Vfb ht.typeIs (by decide) ?_)
 refine Va (Uc (name:=Ub "__getitem__") ht.typeIs Vab
  (Uq Vab ht.typeIs Ves ?_ (Ve1 _ _)))
 show wpAny _ _ (Vc8 (.ref t) >>= _) _ _ s;refine Va (tupleItemsOf_ ht ?_);refine Va (Veb hTs ?_);rw[if_pos (by decide)]
 refine Va (sliceApplied_gen hs pl pu ?_);have hno:¬ ((((sIx items.size 0 lo:Nat):Int)==0&&(1:Int)==1&&(sIx items.size items.size hi-sIx items.size 0 lo)==items.size)=true):=by
  intro q;rw[bA0,bA0] at q;have q1:((sIx items.size 0 lo:Nat):Int)=0:=eq_of_beq q.1.1;have q2:sIx items.size items.size hi-sIx items.size 0 lo=items.size:=eq_of_beq q.2;exact hw ⟨by omega,by omega⟩
 show wpAny _ _ (if (((sIx items.size 0 lo:Nat):Int)==0&&(1:Int)==1&&(sIx items.size items.size hi-sIx items.size 0 lo)==items.size)=true then _ else _) _ _ s
 rw[if_neg hno,Xtx]
 first
  | exact Va (m:=Vat _) (Vai (Vg ⟨_,rfl,Vg h⟩) htake)
  | exact Va (m:=Vat _) (Vai (Va (Vg (Vg ⟨_,rfl,Vg h⟩))) htake)
  | exact Va (Va (m:=Vat _) (Vai (Vg (Vg ⟨_,rfl,Vg h⟩)) htake))
  | exact Va (Va (m:=Vat _) (Vai (Vg ⟨_,rfl,Vg h⟩) htake))
end
end HT
namespace L2
open PySem PySem.Spec PyProof.Rows
section
variable{X:Cx}{e:Expr}{te:TE}{lo hi:Option Expr}{tl th:TO}{pos p2:Pos}
noncomputable def Xhh(xs:List V)(lo hi:Option Int):List V:=(xs.drop (HT.sIx xs.length 0 lo)).take (HT.sIx xs.length xs.length hi-HT.sIx xs.length 0 lo)
theorem Xff(xs:List V)(lo hi:Option Int):(Xhh xs lo hi).length<=xs.length:=by
 unfold Xhh;rw[Vba,Vc6];omega
end
end L2
namespace L2
open PySem PySem.Spec PyProof.Rows
noncomputable def ixN(n:Nat)(i:Int):Option Nat:=if 0<=i then (if i<n then some i.toNat else none) else if-(n:Int)<=i then some (i+n).toNat else none
noncomputable def atI{α:Type}(xs:List α)(i:Int):Option α:=(ixN xs.length i).bind fun j=>xs[j]?
theorem Xnu{n:Nat}{i:Int}{j:Nat}(h:ixN n i=some j):seqIndex? i n=some j/\j<n/\-(n:Int)<=i/\i<n:=by
 unfold ixN at h
 by_cases h0:0<=i
 ·rw[if_pos h0] at h
  by_cases h1:i<n
  ·rw[if_pos h1] at h
   have e:i.toNat=j:=V6 h;exact⟨by rw[seqIndex_of h0 h1,e],by omega,by omega,h1⟩
  ·rw[if_neg h1] at h;cases h
 ·rw[if_neg h0] at h
  by_cases h1:-(n:Int)<=i
  ·rw[if_pos h1] at h
   have e:(i+n).toNat=j:=V6 h;exact⟨by rw[seqIndex_neg (by omega) h1,e],by omega,h1,by omega⟩
  ·rw[if_neg h1] at h;cases h
theorem Xhi{α:Type}{xs:List α}{i:Int}{v:α}(h:atI xs i=some v):∃ j,seqIndex? i xs.length=some j/\xs[j]?=some v/\j<xs.length/\-(xs.length:Int)<=i/\i<xs.length:=by
 unfold atI at h;cases e:ixN xs.length i with
 | none=>rw[e] at h;cases h
 | some j =>
  rw[e] at h;obtain⟨h1,h2,h3,h4⟩:=Xnu e;exact⟨j,h1,h,h2,h3,h4⟩
def Xhj(b:Expr):Prop:=∀ o i,subscripted b false o i=operate [o,i] (getItem o i)
def IxR(X:Cx)(r:R2):Prop :=
 ∀ (value slice:Expr) (pins:List (Addr×Obj)) (s:Shared) (σ:St) (H:Hp) (x y:V) (v u:Value) (Q:VK),Inv X pins σ H s->RelV x v->RelV y u->r x y H Q ->
  subscripted slice false v u=operate [v,u] (getItem v u)->wpAny (model X.prog X.w) X.A (Vc9 value slice v u) (EP X pins σ Q) X.xe s
section
variable{X:Cx}{a b:Expr}{ta tb:TE}{pos:Pos}
noncomputable def X7t(K:Vf):R2:=fun x y H Q=>∃ p xs i v,x=.ref p/\y=.int i/\SqL K H p xs/\atI xs i=some v/\Q v H
noncomputable def X7u(K:Vf):R2:=fun x y H Q=>∃ p xs i v,x=.ref p/\y=.int i/\SqT K H p xs/\atI xs i=some v/\Q v H
noncomputable def X7v:R2:=fun x y H Q=>∃ z i c,x=.str z/\y=.int i/\z.length<=Vt/\atI z.cps.toList i=some c/\Q (.str ⟨#[c]⟩) H
theorem Xx7:IxR X (X7t X.K):=by
 intro value slice pins s σ H x y v u Q I rx ry h hs;obtain⟨p,xs,i,z,rfl,rfl,hq,he,q⟩:=h;cases rx;obtain⟨t,rfl⟩:=ry;obtain⟨its,r,pl,hz⟩:=I.list hq;obtain⟨j,h1,h2,h3,h4,h5⟩:=Xhi he;obtain⟨w,ew,rw'⟩:=r.get h2;have hl:=r.length;have hn:=Xcg;have fin:EP X pins σ Q w s:=⟨z,H,I,rw',q⟩
 by_cases h0:0<=i
 ·have hj:i.toNat=j:=by
   rw[seqIndex_of h0 h5] at h1;exact V6 h1
  exact item_listR pl.isList h0 (by omega) (by rw[hj];simpa using ew) fin hs
 ·have hj:(i+(its.toArray.size:Int)).toNat=j:=by
   rw[seqIndex_neg (by omega) h4] at h1
   rw[Vn,<- hl];exact V6 h1
  exact subscriptTail_builtinR (x:=w) pl.isList.typeIs slot_list_getitem.lookup
   (wpAny_getItem_list_neg (Q:=fun r s'=>r=w/\EP X pins σ Q r s') pl.isList (by omega) (by rw[Vn]<;>omega) (by omega) (by rw[hj];simpa using ew) ⟨rfl,fin⟩) hs
theorem X1t:IxR X (X7u X.K):=by
 intro value slice pins s σ H x y v u Q I rx ry h hs;obtain⟨p,xs,i,z,rfl,rfl,hq,he,q⟩:=h;cases rx;obtain⟨t,rfl⟩:=ry;obtain⟨its,r,pl,hz⟩:=I.tuple hq;obtain⟨j,h1,h2,h3,h4,h5⟩:=Xhi he;obtain⟨w,ew,rw'⟩:=r.get h2;have hl:=r.length;have hn:=Xcg;have fin:EP X pins σ Q w s:=⟨z,H,I,rw',q⟩;exact subscriptTail_builtinR (x:=w) pl.typeIs slot_tuple_getitem.lookup
  (getItem_tuple (j:=j) (Q:=fun r s'=>r=w/\EP X pins σ Q r s') pl (by omega) (by omega) (by rw[Vn,<- hl];exact h1) (by simpa using ew) ⟨rfl,fin⟩) hs
theorem X1u:IxR X X7v:=by
 intro value slice pins s σ H x y v u Q I rx ry h hs;obtain⟨z,i,c,rfl,rfl,hz,he,q⟩:=h;obtain⟨t,rfl⟩:=rx;obtain⟨t',rfl⟩:=ry;obtain⟨j,h1,h2,h3,h4,h5⟩:=Xhi he;have hl:z.cps.toList.length=z.length:=by simp[Str.length]
 rw[hl] at h1 h4 h5;have hn:=Xcg;exact tail_any (typeIs_str s z t) slot_str_getitem.lookup (getItem_str (c:=c) (by
  have e1:decide (i < -(2^63:Int))=false:=decide_eq_false (by omega)
  have e2:decide (i ≥ 2^63)=false:=decide_eq_false (by omega)
  rw[e1,e2,Vd4]) (by rw[h1];simpa using h2) ⟨.str ⟨#[c]⟩,H,I.tok _,⟨_,rfl⟩,q⟩) hs
theorem Xo4(its:List Value)(n j:Nat)(u:Value):U9 (·.setIfInBounds j u) { cls:=.type "list",data:=.seq its.toArray n }={ cls:=.type "list",data:=.seq (its.set j u).toArray n }:=by
 simp[U9]
theorem Inv.lst{pins:List (Addr×Obj)}{σ:St}{H:Hp}{s:Shared}{p:Addr}{xs:List V}(I:Inv X pins σ H s)(h:H p=some (.lst xs)) :
  ∃ (its:List Value) (n:Nat),Vals xs its/\s.heap.get? p=some { cls:=.type "list",data:=.seq its.toArray n }/\xs.length<=Vt:=by
 obtain⟨z,its,n,r,e⟩:=I.hok p _ h;exact⟨its,n,r,e,z⟩
theorem Inv.lstUpd{pins:List (Addr×Obj)}{σ:St}{H:Hp}{s:Shared}{p:Addr}{xs ys:List V}{its its':List Value}{n n':Nat}{f:Obj->Obj}(I:Inv X pins σ H s)(h:H p=some (.lst xs))
  (ho:s.heap.get? p=some { cls:=.type "list",data:=.seq its.toArray n }) (hf:f { cls:=.type "list",data:=.seq its.toArray n }={ cls:=.type "list",data:=.seq its'.toArray n' }) (r:Vals ys its') (hz:ys.length<=Vt) (t:Nat) :
  Inv X pins σ (upd H p (.lst ys)) { s with heap:=s.heap.update p f,toks:=t }:=by
 have e:(s.heap.update p f).get? p=some { cls:=.type "list",data:=.seq its'.toArray n' }:=by
  rw[Vbe f ho (by rw[hf]<;>rfl),hf]
 refine I.write (x:=p) (e:=p) (by rw[h];trivial) (.inl rfl) (fun b u hb q=>(Va5 _ _ (Ne.symm hb)).trans q) ⟨_,e⟩ ?_
 exact⟨hz,its',n',r,e⟩
def X5q:V->V->V->Hp->(Hp->Prop)->Prop:=fun o i v H Q=>∃ p xs k j,o=.ref p/\i=.int k/\H p=some (.lst xs)/\ixN xs.length k=some j/\Q (upd H p (.lst (xs.set j v)))
theorem Xty:X7q X X5q:=by
 intro pins s σ H o i v ov iv u Q I ro ri rv h;obtain⟨p,xs,k,j,rfl,rfl,hp,hj,q⟩:=h;cases ro;obtain⟨t,rfl⟩:=ri;obtain⟨its,n,r,ho,hz⟩:=I.lst hp;obtain⟨h1,h2,h3,h4⟩:=Xnu hj;have hl:=r.length;have hn:=Xcg;have I':Inv X pins σ (upd H p (.lst (xs.set j v))) { s with heap:=s.heap.update p (U9 (·.setIfInBounds j u)) } :=
  I.lstUpd hp ho (Xo4 its n j u) (r.set rv j) (by rw[List.length_set];exact hz) s.toks
 by_cases h0:0<=k
 ·have hk:k.toNat=j:=by
   rw[seqIndex_of h0 h4] at h1;exact V6 h1
  exact PySem.W.ki_setAt ho h0 (by omega) (by rw[Vn,<- hl];exact h4) (by rw[hk];exact⟨_,I',q⟩)
 ·have hk:(k+(its.toArray.size:Int)).toNat=j:=by
   rw[seqIndex_neg (by omega) h3] at h1
   rw[Vn,<- hl];exact V6 h1
  exact PySem.W.ki_setBack ho (by omega) (by rw[Vn,<- hl];exact h3) (by omega) (by rw[hk];exact⟨_,I',q⟩)
theorem Xkz(lo hi:Option Int)(n:Nat):(Va6 lo hi none n).1=((HT.sIx n 0 lo:Nat):Int)/\(Va6 lo hi none n).2.1=((HT.sIx n n hi:Nat):Int)/\(Va6 lo hi none n).2.2=1:=by
 refine⟨?_,?_,rfl⟩
 ·cases lo with
  | none=>simp[Va6,HT.sIx]
  | some i =>
   simp only[Va6,HT.sIx,Option.getD_none,show(1:Int)>0 by decide,if_true]
   by_cases h:i<0
   ·simp only[h,if_true]<;>omega
   ·simp only[h,if_false]<;>omega
 ·cases hi with
  | none=>simp[Va6,HT.sIx]
  | some i =>
   simp only[Va6,HT.sIx,Option.getD_none,show(1:Int)>0 by decide,if_true]
   by_cases h:i<0
   ·simp only[h,if_true]<;>omega
   ·simp only[h,if_false]<;>omega
theorem Xj1(its:List Value)(lo hi:Option Int):slicePick its.toArray lo hi none=((its.drop (HT.sIx its.length 0 lo)).take (HT.sIx its.length its.length hi-HT.sIx its.length 0 lo)).toArray:=by
 obtain⟨h1,h2,h3⟩:=Xkz lo hi its.toArray.size;unfold slicePick;rw[h1,h2,h3];simp only[sliceRange_one,pick_run,Vn]<;>rfl
theorem Xk0:Xdt X (.builtin "len") (fun xs H Q=>∃ p ys,xs=[.ref p]/\(SqL X.K H p ys\/SqT X.K H p ys)/\Q (.int ys.length) H):=by
 intro pins s σ H xs us Q I r h;obtain⟨p,ys,rfl,hq,q⟩:=h;obtain⟨u,rfl,rx⟩:=Xkc r;cases rx;have hn:=Xcg;rcases hq with hq|hq
 ·obtain⟨its,r',pl,hz⟩:=I.list hq
  have hlen:=r'.length;exact Calls.call_len_list pl.isList (by simp only[Vn]<;>omega) ⟨.int ys.length,H,I.tok _,⟨s.toks+1,by rw[Vn,hlen]⟩,q⟩
 ·obtain⟨its,r',pl,hz⟩:=I.tuple hq
  have hlen:=r'.length;exact len_tuple pl (by simp only[Vn]<;>omega) ⟨.int ys.length,H,I.tok _,⟨s.toks+1,by rw[Vn,hlen]⟩,q⟩
theorem Xk1:Xdt X (.builtin "len") (fun xs H Q=>∃ z,xs=[.str z]/\z.length<=Vt/\Q (.int z.length) H):=by
 intro pins s σ H xs us Q I r h;obtain⟨z,rfl,hz,q⟩:=h;obtain⟨u,rfl,t,rfl⟩:=Xkc r;have hn:=Xcg;exact len_str (by omega) ⟨.int z.length,H,I.tok _,⟨_,rfl⟩,q⟩
theorem Xk2:Xdt X (.type "list") (fun xs H Q=>∃ p ys,xs=[.ref p]/\(SqL X.K H p ys\/SqT X.K H p ys)/\∀ l,H l=none->Q (.ref l) (upd H l (.lst ys))):=by
 intro pins s σ H xs us Q I r h;obtain⟨p,ys,rfl,hq,q⟩:=h;obtain⟨u,rfl,rx⟩:=Xkc r;cases rx;have fin:∀ (its:List Value),Vals ys its->ys.length<=Vt->∀ (h':Heap) (c':Nat),(∀ b o',s.heap.get? b=some o'->h'.get? b=some o') ->
   h'.get? s.heap.objs.size=some { cls:=.type "list",dict:=none,data:=.seq its.toArray c',slots:=#[] }->EP X pins σ Q (.ref s.heap.objs.size) { s with heap:=h' }:=fun its r' hz h' c' kp e =>
  ⟨.ref s.heap.objs.size,_,I.laid (t':=s.toks) kp (Vh _) (show ObjOk X.prog X.w _ h' _ (.lst ys) from⟨hz,its,c',r',e⟩),rfl,q _ (I.hok.fresh (Vh _))⟩
 rcases hq with hq|hq
 ·obtain⟨its,r',pl,hz⟩:=I.list hq
  have hlen:=r'.length;obtain⟨o,ho,hc,n,hd⟩:=pl.isList;exact call_list_seq p (.inl rfl) ho hc hd (fun h' c' kp e=>fin its r' hz h' c' kp e) (by simp only[Vn]<;>omega)
 ·obtain⟨its,r',pl,hz⟩:=I.tuple hq
  have hlen:=r'.length;obtain⟨o,ho,hc,n,hd⟩:=pl;exact call_list_seq p (.inr rfl) ho hc hd (fun h' c' kp e=>fin its r' hz h' c' kp e) (by simp only[Vn]<;>omega)
theorem Xd6:Xdt X (.type "tuple") (fun xs H Q=>∃ p ys,xs=[.ref p]/\((SqL X.K H p ys/\∀ l,H l=none->Q (.ref l) (upd H l (.tup ys)))\/(SqT X.K H p ys/\Q (.ref p) H))):=by
 intro pins s σ H xs us Q I r h;obtain⟨p,ys,rfl,h⟩:=h;obtain⟨u,rfl,rx⟩:=Xkc r;cases rx;rcases h with⟨hq,q⟩|⟨hq,q⟩
 ·obtain⟨its,r',pl,hz⟩:=I.list hq
  have hlen:=r'.length;refine call_tuple_list pl.isList (fun h' kp=>?_) (by simp only[Vn]<;>omega)
  have I1:Inv X pins σ H { s with heap:=h' }:=I.kept (t':=s.toks) kp
  have I2:Inv X pins σ (upd H h'.objs.size (.tup ys)) { s with heap:=h'.push { cls:=.type "tuple",data:=.seq its.toArray } } :=
   I1.laid (t':=s.toks) (fun b o e=>Vb _ e) (Vh _) (show ObjOk X.prog X.w _ _ _ (.tup ys) from⟨hz,its,r',IsTup.new _ _⟩)
  exact⟨.ref h'.objs.size,_,I2,rfl,q _ (I1.hok.fresh (Vh _))⟩
 ·obtain⟨its,r',pl,hz⟩:=I.tuple hq
  exact call_tuple_same pl ⟨.ref p,H,I,rfl,q⟩
variable{o e:Expr}{es:List Expr}{to:TE}{t:TA}{name:Str}{apos cpos:Pos}{T id:String}{r:V->List V->Hp->VK->Prop}
/- xs.append(e),list.index on a module's tuple .. are MtR facts of 06m -/
end
end L2
namespace L2
open PySem PySem.Spec PyProof.Rows
def MtM(X:Cx)(id:String)(r:V->List V->Hp->VK->Prop):Prop :=
 ∀ (pins:List (Addr×Obj)) (s:Shared) (σ:St) (H:Hp) (x:V) (xs:List V) (v:Value) (us:List Value) (Q:VK),Inv X pins σ H s->RelV x v->Vals xs us->r x xs H Q ->
  wpAny (model X.prog X.w) X.A (call (.builtin id) (v::us)) (EP X pins σ Q) X.xe s
theorem Vals.one:∀ {x:V} {us:List Value},Vals [x] us->∃ u,us=[u]/\RelV x u
 | _,_,h=>by cases h with|cons r t=>cases t;exact⟨_,rfl,r⟩
theorem Vals.rep{xs:List V}{us:List Value}(h:Vals xs us):∀ k:Nat,Vals (Vd k xs).flatten (Vd k us).flatten
 | 0=>.nil
 | k+1=>by
  rw[Um,Um,Vap,Vap];exact Vals.append h (Vals.rep h k)
theorem Xjk(its:List Value):∀ (k:Nat) (acc:List Value),
  Vec (fun x1 x2=>x1++x2) acc.toArray (Vd k its.toArray)=(acc++(Vd k its).flatten).toArray
 | 0,acc=>by simp
 | k+1,acc=>by
  have e:acc.toArray++its.toArray=(acc++its).toArray:=by simp
  have e2:(acc++its)++(Vd k its).flatten=acc++(Vd (k+1) its).flatten:=by
   rw[Um,Vap,Vo]
  rw[<- e2,<- Xjk its k (acc++its),<- e,Um,List.foldl_cons]
section
variable{X:Cx}{pins:List (Addr×Obj)}{σ:St}{H:Hp}{s:Shared}{l b:Addr}{xs ys zs:List V}
theorem Inv.lset{its its':List Value}{n:Nat}{f:Array Value->Array Value}{t':Nat}(I:Inv X pins σ H s)(hH:H l=some (.lst xs))
  (e:s.heap.get? l=some { cls:=.type "list",data:=.seq its.toArray n }) (hf:f its.toArray=its'.toArray) (hv:Vals ys its') (hz:ys.length<=Vt) :
  Inv X pins σ (upd H l (.lst ys)) { s with heap:=s.heap.update l (U9 f),toks:=t' }:=by
 have q:=PySem.IsL.update e f;rw[hf] at q;refine I.write (x:=l) (e:=l) (by rw[hH];exact trivial) (.inl rfl) (fun b' u hb hu=>(Va5 s.heap (U9 f) (Ne.symm hb)).trans hu) ⟨_,q⟩ ?_
 exact⟨hz,its',_,hv,q⟩
theorem Inv.lnew{its:List Value}{t':Nat}(I:Inv X pins σ H s)(hv:Vals ys its)(hz:ys.length<=Vt) :
  Inv X pins σ (upd H s.heap.objs.size (.lst ys)) { s with heap:=s.heap.push { cls:=.type "list",data:=.seq its.toArray },toks:=t' } :=
 I.laid (fun _ _ q=>Vb _ q) (Vh _) ⟨hz,its,0,hv,Vk _ rfl⟩
theorem Inv.fresh(I:Inv X pins σ H s):H s.heap.objs.size=none:=I.hok.fresh (Vh _)
theorem Inv.lstM(I:Inv X pins σ H s)(hH:H l=some (.lst xs)):xs.length<=Vt/\∃ (its:List Value) (n:Nat),Vals xs its/\xs.length=its.length/\s.heap.get? l=some { cls:=.type "list",data:=.seq its.toArray n }:=by
 obtain⟨z,its,n,r,e⟩:=I.hok l _ hH;exact⟨z,its,n,r,r.length,e⟩
theorem Xtz{n:Nat}(h:n<=Vt):Vdo n=false:=by
 unfold Vdo;exact decide_eq_false (by omega)
end
section
variable{X:Cx}
def Xx8:V->List V->Hp->VK->Prop:=fun x vs H Q=>∃ l xs y,x=.ref l/\vs=[y]/\H l=some (.lst xs)/\xs.length<Vt/\Q .non (upd H l (.lst (xs++[y])))
theorem Xjl:MtM X "list.append" Xx8:=by
 intro pins s σ H x vs v us Q I rx rv h;obtain⟨l,xs,y,rfl,rfl,hH,hz,q⟩:=h;cases rx;obtain⟨u,rfl,ru⟩:=rv.one;obtain⟨z,its,n,r,hl,e⟩:=I.lstM hH;refine Vdt F.slot_list_append ⟨_,e,rfl⟩ F.entry_list_append (F.args_list_append_2 _ _) (PySem.list_append l its.toArray n u (by rw[Vn];omega)) ⟨e,?_⟩
 refine⟨.non,_,I.lset (its':=its++[u]) hH e (by simp) (r.append (.cons ru .nil)) ?_,rfl,q⟩
 rw[Vbx,List.length_singleton];omega
noncomputable def X7w:R2:=fun x y H Q=>∃ l b xs zs,x=.ref l/\y=.ref b/\H l=some (.lst xs)/\H b=some (.lst zs)/\xs.length+zs.length<=Vt/\∀ p,H p=none->Q (.ref p) (upd H p (.lst (xs++zs)))
theorem X1v:OpR X (Vbm .Add) X7w:=by
 intro pins s σ H x y v u Q I rx ry h;obtain⟨l,b,xs,zs,rfl,rfl,hH,hB,hz,q⟩:=h;cases rx;cases ry;obtain⟨z,its,n,r,hl,e⟩:=I.lstM hH;obtain⟨z2,its2,n2,r2,hl2,e2⟩:=I.lstM hB;refine PySem.P.add_list e e2 ?_ (by rw[Vn,Vn];omega)
 have ea:its.toArray++its2.toArray=(its++its2).toArray:=by simp
 rw[ea];exact⟨.ref _,_,I.lnew (t':=s.toks) (r.append r2) (by rw[Vbx];omega),rfl,q _ I.fresh⟩
noncomputable def X7x:R2:=fun x y H Q=>∃ l k xs,x=.ref l/\y=.int k/\H l=some (.lst xs)/\-(2^63)<=k/\k<2^63/\xs.length*k.toNat<=Vt /\
 ∀ p,H p=none->Q (.ref p) (upd H p (.lst (Vd k.toNat xs).flatten))
theorem Xhk{α:Type}(xs:List α)(k:Nat):(Vd k xs).flatten.length=k*xs.length:=by
 induction k with
 | zero=>simp
 | succ k ih=>rw[Um,Vap,Vbx,ih,Ved,Nat.add_comm]
theorem X1w:OpR X (Vbm .Mult) X7x:=by
 intro pins s σ H x y v u Q I rx ry h;obtain⟨l,k,xs,rfl,rfl,hH,h1,h2,hz,q⟩:=h;cases rx;obtain⟨t,rfl⟩:=ry;obtain⟨z,its,n,r,hl,e⟩:=I.lstM hH;have hlen:its.toArray.size*k.toNat<=Vt:=by rw[Vn,<- hl];exact hz
 have hcap:¬ its.toArray.size*k.toNat>(2^63-1)/8:=by
  have:(Vt:Nat)<=(2^63-1)/8:=by decide
  omega
 have hfit:¬ (!Builtin.List.listFitsIndex k)=true:=by
  rw[fitsIndex_both h1 h2];exact V9
 have hlong:¬ Vdo (its.toArray.size*k.toNat)=true:=by
  rw[Xtz hlen];exact V9
 have hnew:Vec (fun x1 x2=>x1++x2) #[] (Vd (if its.toArray.isEmpty=true then 0 else k.toNat) its.toArray)=(Vd k.toNat its).flatten.toArray:=by
  have f0:∀ m:Nat,Vec (fun x1 x2=>x1++x2) #[] (Vd m its.toArray)=(Vd m its).flatten.toArray:=fun m=>by
   have:=Xjk its m [];rw[Uj] at this;exact this
  rw[f0];cases its with
  | nil=>simp
  | cons a r'=>rw[if_neg (by simp)]
 refine Vfi (T := "list") (U := "int") (by decide) ⟨_,e,rfl⟩ (fun s'=>typeIs_int s' k t) noFill_list_mul F.fills_int_mul F.slot_int_rmul repeat_list F.slot_int_index.lookup
  (Vdt F.slot_int_rmul (typeIs_int s k t) F.entry_int_rmul (F.args_int_rmul_2 _ _) (int___rmul___int_list k t l its.toArray n)
   ⟨e,rfl,⟨_,e,rfl⟩,Vdt F.slot_list_mul ⟨_,e,rfl⟩ F.entry_list_mul (F.args_list_mul_2 _ _) (AutoListH.list___mul___list_int_3 l its.toArray n k t hfit hcap hlong) ⟨e,?_⟩⟩)
 rw[hnew];exact⟨.ref _,_,I.lnew (t':=s.toks) (r.rep k.toNat) (by rw[Xhk,Vcx];exact hz),rfl,q _ I.fresh⟩
end
section
variable{prog:Program}{w:World}{A:Around}{E:Value->Shared->Prop}{s:Shared}
end
section
variable{X:Cx}
end
end L2
namespace Att
open PySem PySem.W PySem.Calls PyProof.Rows
theorem Xgi{P:Params}{h:Heap}:∀ (ns:List Int) (vs:List Value),WellAll P h vs (ns.map WData.int)->IntsAre vs ns:=by
 intro ns
 induction ns with
 | nil =>
  intro vs w;rw[List.map_nil] at w;cases w;exact .nil
 | cons n ns ih =>
  intro vs w;rw[Vda] at w;cases w with
  | cons a b =>
   cases a;exact .cons _ _ (ih _ b)
theorem Xq4{l:OpenLaw}{n:Nat}(hn:l.most=some n){P:Params}{h:Heap}{args:List WData}{vals:List Value}
  (hpre:l.row.toRowW.claim.pre args=true) (hwl:WellAll P h vals args) :
  ∃ a vs ns,vals=[Vae a]/\args=[WData.list (ns.map WData.int)]/\h.get? a=some { cls:=.type "list",data:=.seq vs.toArray }/\IntsAre vs ns/\ns.length<=n:=by
 have hsh:WShape.hasAll [] args [.list .int]=true:=(pre_splitW hpre).1;have hc:l.pre.holds [] { args:=args }=true:=(pre_splitW hpre).2;obtain⟨d,r,rfl,h1,h2⟩:=hasAllW_cons hsh;obtain rfl:=hasAllW_nil h2;obtain⟨xs,rfl,h3⟩:=hasW_list h1;obtain⟨ns,rfl⟩:=items_int h3;have hlen:ns.length<=n:=by
  unfold OpenLaw.pre at hc;have h4:(WTm.not (.lt (.lit (.int (n:Int))) (.len (.arg 0)))).holds [] { args:=[.list (ns.map .int)] }=true:=by
   have h4:=(holds_andW hc).1;rw[hn] at h4;exact h4
  have h5:=condW_of h4 (w_not (w_lt w_lit (w_len_list (w_arg rfl))));rw[Vr] at h5;refine Nat.le_of_not_lt fun q=>?_
  have q':(n:Int)<((ns.length:Nat):Int):=by omega
  first
   | (rw[decide_eq_true q'] at h5;exact absurd h5 (by decide))
   | (simp at h5;omega)
 cases hwl with
 | cons w1 w2 =>
  cases w2;cases w1 with
  | list ho hall=>exact⟨_,_,ns,rfl,rfl,ho,Xgi ns _ hall,hlen⟩
theorem Xq5(l:OpenLaw)(args:List WData):l.row.toRowW.claim.post args (.bool true) args=true :=
 postW_of (r:=l.row.toRowW) (X:=(true==true))
  (show WShape.has [] (.bool true) .bool=true by first|rfl|decide|simp[WShape.has,WShape.arms,WShape.armsAll])
  (show(WTm.eq .res (.lit (.bool true))).value [] { args:=args,res:=some (.bool true),after:=args }=some (.bool (true==true)) from w_eq_bool (w_res rfl) w_lit) rfl
theorem attach_call{l:OpenLaw}{n:Nat}{q:Program}{loose:List Str}{XP:(Str->Option Value)->Heap->Prop}{YP:World->Heap->Prop}{d:DefRec}
  (hn:l.most=some n) (hdf:d.params.defaults=[])
  (call:∀ (w:World) (s₀ s₁:Shared) (mg mb:Str->Option Value) (fa:Addr) (o:Obj) (pm cd doc:Value) (a:Addr) (vs:List Value) (ns:List Int),
   Ground q loose [] XP w s₀ mg mb s₁.heap->YP w s₁.heap ->
   s₁.heap.get? fa=some o->o.data=.func (docDef d.name d.params d.body d.scope pm cd doc)->s₁.heap.CodeRec cd d.name->mg d.name=some (.ref fa) ->
   s₁.heap.get? a=some { cls:=.type "list",data:=.seq vs.toArray }->IntsAre vs ns->ns.length<=n->s₁.gens=#[] ->
   codeAny (model l.prog w) callerA (.call (.ref fa) ⟨[.ref a],[]⟩) (fun r s'=>r=.ok (.ret (.bool true))/\OldK s₁.heap s'.heap/\s'.os=s₁.os/\AllBare s'.gens) s₁) :
  WalkO q loose XP YP l.row.toRowW d [] (fun f vs=>PySem.call f vs):=by
 intro w s₀ s₁ mg mb G Y fa o pm cd doc dV kV ho hd hcd hD hmg hg args vals as hpre hlay hrd hwl hlo;obtain rfl:dV=.none:=Dflts.none hD hdf;obtain rfl:kV=.none:=Dflts.noKw hD;obtain⟨a,vs,ns,rfl,rfl,hobj,hints,hlen⟩:=Xq4 hn hpre hwl;refine enter_call (Vee (call w s₀ s₁ mg mb fa o pm cd doc a vs ns G Y ho (fd_plain hd) hcd hmg hobj hints hlen hg) fun r s' hq=>?_)
 obtain⟨rfl,h2,h3,h4⟩:=hq;exact⟨.inl ⟨.bool true,.bool true,[],rfl,fun _=>rfl,.bool true,Xq5 l _,fun _=>⟨List.Pairwise.nil,fun _ hm=>(nomatch hm)⟩⟩,h2,h3,h4⟩
section
variable{prog:Program}{w:World}{A:Around}{E:Value->Shared->Prop}{s:Shared}{K:Frag}
end
end Att
namespace L2
open PySem PySem.Spec PyProof.Rows
theorem Xcu:∀ {vs:List Value} {ns:List Int},IntsAre vs ns->Vals (ns.map V.int) vs
 | _,_,.nil=>.nil
 | _,_,.cons n t h=>.cons ⟨t,rfl⟩ (Xcu h)
def Xo5(H:Hp):Prop:=∀ b,H b=none\/∃ o xs,H b=some (.frz o (.lst xs))
theorem Xt0{P:Program}{w:World}{K:Vf}{mg mb:Str->Option Value}{CX:CXT}{k:Nat}{fa a:Addr}{fd:Vbv}{x:Str}{sp:Sp}{s₁:Shared}{vs:List Value}{ns:List Int}
  (KX:K.In s₁.heap) (hns:s₁.heap.Ns Vz mg) (hb:s₁.heap.Ns builtinsNs mb) (hbb:∀ x:Str,x ≠ "__name__" -> mb x=Vcd x) (hlim:s₁.heap.NoLimit) (hg:s₁.gens=#[])
  (ha:s₁.heap.get? a=some { cls:=.type "list",data:=.seq vs.toArray }) (hi:IntsAre vs ns) (hl:ns.length<=Vt) (hr:Room k callerA)
  (F:∀ base:Heap,K.In base->base.Ns Vz mg->FnOk P w K mg base CX k fa fd [x] sp) (hbind:∀ (s:Shared) (u:Value),BindsTo s fd ⟨[u],[]⟩ [(x,u)])
  (hsp:∀ H:Hp,Xo5 H->SqL K H a (ns.map V.int)->sp [.ref a] H (fun v _=>v=.bl true) fun _ _ _=>False)
  (hCX:∀ H e s',CX [] H s₁ (fun _ _ _=>False) e s'->False) :
  codeAny (model P w) callerA (.call (.ref fa) ⟨[.ref a],[]⟩) (fun r s'=>r=.ok (.ret (.bool true))/\OldK s₁.heap s'.heap/\s'.os=s₁.os/\AllBare s'.gens) s₁:=by
 have rv:=Xcu hi;have lenV:=hi.length;have core:∀ H:Hp,Xo5 H->SqL K H a (ns.map V.int)->HOk P w H s₁.heap->(∀ b,H b≠none->b=a)->(H a≠none->K.lookup a=none) ->
   codeAny (model P w) callerA (.call (.ref fa) ⟨[.ref a],[]⟩) (fun r s'=>r=.ok (.ret (.bool true))/\OldK s₁.heap s'.heap/\s'.os=s₁.os/\AllBare s'.gens) s₁:=by
  intro H hO hS hok hA hK;have base_of:∀ {b:Addr} {o:Obj},s₁.heap.get? b=some o->H b=none->(Xds s₁.heap H).get? b=some o:=fun e n=>Xtv e n
  have noA:∀ {b:Addr} {o:Obj} {es:Array DictEntry} {ep:Nat},s₁.heap.get? b=some o->o.data=.dict es ep->H b=none:=fun {b o es ep} e d=>by
   cases q:H b with
   | none=>rfl
   | some u =>
    have e':b=a:=hA b (by rw[q];simp)
    subst e';rw[ha] at e;cases e;have d':Data.seq vs.toArray _=Data.dict es ep:=d;cases d'
  have nsK:∀ {b:Addr} {m:Str->Option Value},s₁.heap.Ns b m->(Xds s₁.heap H).Ns b m:=fun {b m} ⟨o,es,ep,e,d,r⟩=>⟨o,es,ep,base_of e (noA e d),d,r⟩
  have hKb:K.In (Xds s₁.heap H):=fun b o e=>base_of (KX b o e) (by
   cases q:H b with
   | none=>rfl
   | some u =>
    have e':b=a:=hA b (by rw[q];simp)
    subst e';rw[hK (by rw[q];simp)] at e;cases e)
  have hM:Mod K mg (Xds s₁.heap H):=⟨hKb,nsK hns,⟨mb,nsK hb,hbb⟩,let ⟨mc,h1,h2⟩:=hlim;⟨mc,nsK h1,h2⟩⟩
  have e0:Env0 P w K mg (Xds s₁.heap H) callerA [] s₁ H:=⟨rfl,hM,fun b o e=>Xx5 e,Nat.le_of_eq (Xqy _ _),trivial,fun b hb=>absurd (show b∈([]:List Addr) from hb) (by simp),hok,.of_eq hg⟩
  refine Vee ((F _ hKb (nsK hns)).run callerA [] s₁ H ⟨[.ref a],[]⟩ [.ref a] [.ref a] _ _ hr e0 (hbind s₁ (.ref a)) (.cons rfl .nil) (hsp H hO hS)) fun r s' h=>?_
  cases r with
  | error e=>exact(hCX H e s' h).elim
  | ok fl =>
   cases fl with
   | next=>exact Vef h
   | brk=>exact Vef h
   | cont=>exact Vef h
   | ret u =>
    obtain⟨v,H',os,bare,un,hok',r',q⟩:=h;have q':v=.bl true:=q;subst q';obtain rfl:u=Vc4 true:=r';refine⟨rfl,OldK.of_keep fun b o e=>?_,os,bare⟩
    cases q:H b with
    | none=>exact un.keep b o e q (by intro z;exact absurd (show b∈([]:List Addr) from z) (by simp)) (by simp)
    | some u =>
     rcases hO b with z|⟨ob,xs,z⟩
     ·rw[q] at z;cases z
     ·have z2:=un.frzs b ob _ z
      obtain⟨e1,_⟩:=hok b _ z;obtain⟨e2,_⟩:=hok' b _ z2;rw[e] at e1;cases e1;exact e2
 cases hk:K.lookup a with
 | some o =>
  have e:=KX a o hk;rw[ha] at e;cases e;refine core (fun _=>none) (fun _=>.inl rfl) (.inr ⟨_,vs.toArray,_,hk,rfl,rfl,rfl,by rw[Vn,lenV];exact hl,by simpa using rv⟩) (fun b u z=>by have z':(none:Option HO)=some u:=z;cases z') (fun b z=>absurd rfl z) fun z=>absurd rfl z
 | none =>
  refine core (fun b=>if b=a then some (.frz { cls:=.type "list",data:=.seq vs.toArray } (.lst (ns.map V.int))) else none) (fun b=>?_) (.inl (.inr ⟨{ cls:=.type "list",data:=.seq vs.toArray },if_pos rfl⟩)) (fun b u z=>?_) (fun b z=>?_) fun _=>hk
  ·by_cases hb:b=a
   ·exact .inr ⟨_,_,if_pos hb⟩
   ·exact .inl (if_neg hb)
  ·by_cases hb:b=a
   ·have z':=(if_pos hb).symm.trans z
    cases z';subst hb;exact⟨ha,by rw[Vr];exact hl,vs,_,rv,ha⟩
   ·have z':=(if_neg hb).symm.trans z
    cases z'
  ·by_cases hb:b=a
   ·exact hb
   ·exact absurd (if_neg hb) z
end L2
namespace L2
open PySem PySem.Spec PyProof.Rows
theorem walk_of{l:PySem.W.OpenLaw}{n k:Nat}{q:Program}{loose:List Str}{XP:(Str->Option Value)->Heap->Prop}{YP:World->Heap->Prop}{d:DefRec}{K:Params->Vf}{CX:World->CXT}{sp:World->Sp}{x:Str}
  (hn:l.most=some n) (hn2:n<=Vt) (hdf:d.params.defaults=[]) (hr:Room k callerA)
  (hY:∀ (w:World) (h:Heap),YP w h->(K w.params).In h)
  (F:∀ (w:World) (mg:Str->Option Value) (fa:Addr) (h:Heap),(K w.params).In h->h.Ns Vz mg->mg d.name=some (.ref fa) ->
   ∃ fd:Vbv,(∀ (s:Shared) (u:Value),BindsTo s fd ⟨[u],[]⟩ [(x,u)]) /\
    ∀ base:Heap,(K w.params).In base->base.Ns Vz mg->FnOk l.prog w (K w.params) mg base (CX w) k fa fd [x] (sp w))
  (hsp:∀ (w:World) (H:Hp) (a:Addr) (ns:List Int),ns.length<=n->Xo5 H->SqL (K w.params) H a (ns.map V.int)->sp w [.ref a] H (fun v _=>v=.bl true) fun _ _ _=>False)
  (hCX:∀ (w:World) (H:Hp) (s:Shared) (e:Value) (s':Shared),CX w [] H s (fun _ _ _=>False) e s'->False) :
  PySem.W.WalkO q loose XP YP l.row.toRowW d [] (fun f vs=>PySem.call f vs):=by
 refine Att.attach_call hn hdf fun w s₀ s₁ mg mb fa o pm cd doc a vs ns G Y ho hd hcd hmg hobj hints hlen hg=>?_
 have KX:=hY w _ Y;obtain⟨fd,hb,hF⟩:=F w mg fa _ KX G.T.g hmg;exact Xt0 KX G.T.g G.T.b G.T.builtins G.T.nolimit hg hobj hints (Vy hlen hn2) hr hF hb (fun H hO hS=>hsp w H a ns hlen hO hS) fun H e s'=>hCX w H s₁ e s'
end L2
/- THE LAST THEOREM (shape;LID,My.* are yours):
   My.Adr: a structure of the addresses that your layer names (classes,functions);My.Txt K t: a structure (Prop) of the equations over K;
   My.txt_mk:{K} {implicit addresses ..} (e1:nsIn K Vz "law" = some (some (.ref f))) (e2:K.lookup f=some ⟨oc,od,.func (fnOf "law" "law" params body scope dV kV doc pm an cdv ct),sl⟩) (e3:codeIn K cdv "law" = true) ..:∃ t,My.Txt K t
set_option maxRecDepth 100000 in
set_option maxHeartbeats 0 in
theorem PySem.Challenge.cw_LID_holds : PySem.Challenge.rw_LID.Holds := by
 w_on;o_law;k_head;(case hw=>w_witness2)
 k_fill
 refine L2.walk_of (l:=PySem.Challenge.rw_LID) (n:=63) (k:=40) (x := "script") (CX:=fun w=>..) (sp:=fun _=>My.sp_law) rfl (by decide) rfl ⟨rfl,by decide,by decide⟩ (fun w h Y=>PySem.W.kIn_of Y) ?F ?S ?C
 case F =>
  intro w mg fa h KX G hmg;have T:∃ t,My.Txt (L2.KOf KX) t:=by
   dsimp only[L2.KOf]                          -- K must stand as «<heap const> w.params» for k_is;refine' My.txt_mk ?e1 ?e2 ?e3 ..
   (case e1=>PySem.W.k_is)                    -- in the order: a name -> its address -> its object -> its parts
   (case e2=>PySem.W.k_is)
   ..
  obtain⟨t,T⟩:=T;have e0:=hmg.symm.trans (Vbt KX G T.law);cases e0                                       -- fa is the law's own address;exact⟨_,fun s u=>.of_eq rfl,fun base kb nb=>My.law_fn T kb nb⟩     -- if «.of_eq rfl» comes too early: refine' ⟨_,?b,fun base kb nb=>My.law_fn T kb nb⟩;exact fun s u=>.of_eq rfl
 case S=>exact fun w H a ns hl hO hS=>..
 case C=>exact ..
(the tactic k_is has no namespace: write k_is) -/
namespace L2
open PySem PySem.Spec PyProof.Rows
noncomputable def Xa2(s:Stmt):Arguments:=match s with
 | .FunctionDef _ a _ _ _ _ _ _ _ _=>a
 | _=>{ posonlyargs:=[],args:=[],vararg:=none,kwonlyargs:=[],kw_defaults:=[],kwarg:=none,defaults:=[] }
noncomputable def Yl(s:Stmt):List Stmt:=match s with
 | .FunctionDef _ _ b _ _ _ _ _ _ _=>b
 | _=>[]
noncomputable def Xw(s:Stmt):Scope:=match s with
 | .FunctionDef _ _ _ _ _ _ sc _ _ _=>sc
 | _=>{ kind:=.function,names:=[],isGenerator:=false,isCoroutine:=false }
structure Fun(K:Vf)(x qual:Str)(st:Stmt)(f:Addr)(fd:Vbv):Prop where
 ex:∃ (oc:Value) (od:Option Addr) (kV doc pm:Value) (an:Option Addr) (cdv ct:Value) (osl:Array (Option Value)),
  fd=Va7 x qual (Xa2 st) (Yl st) (Xw st) .none kV doc pm an cdv ct/\K.lookup f=some ⟨oc,od,.func fd,osl⟩/\Vex K cdv qual=true
 kp:Vcc K (.ref f)=true
section
variable{P:Program}{w:World}{K:Vf}{mg:Str->Option Value}{base:Heap}
theorem Fun.binds{x qual:Str}{st:Stmt}{f:Addr}{fd:Vbv}{ps:List Str}(F:Fun K x qual st f fd)
  (h:∀ (kV doc pm:Value) (an:Option Addr) (cdv ct:Value) (us:List Value),us.length=ps.length->bindArgs (Va7 x qual (Xa2 st) (Yl st) (Xw st) .none kV doc pm an cdv ct) ⟨us,[]⟩=pure (ps.zip us)):Binds K fd ps []:=by
 obtain⟨oc,od,kV,doc,pm,an,cdv,ct,osl,rfl,lk,hcd⟩:=F.ex;exact .all (h kV doc pm an cdv ct)
theorem X1x{x qual:Str}{st:Stmt}{f:Addr}{oc:Value}{od an:Option Addr}{osl:Array (Option Value)}{kV doc pm cdv ct:Value}(l:K.lookup f=some ⟨oc,od,.func (Va7 x qual (Xa2 st) (Yl st) (Xw st) .none kV doc pm an cdv ct),osl⟩)
  (c:Vex K cdv qual=true) (k:Vcc K (.ref f)=true):Fun K x qual st f (Va7 x qual (Xa2 st) (Yl st) (Xw st) .none kV doc pm an cdv ct):=⟨⟨oc,od,kV,doc,pm,an,cdv,ct,osl,rfl,l,c⟩,k⟩
end
section
variable{X:Cx}
end
end L2
end
section
namespace Z
open PySem PyProof.Rows
inductive D where
 | non|bl (b:Bool)|int (i:Int)|str (x:Str)|tup (xs:List D)|ref (n:Nat)|fro (xs:List D)|fn (f:Nat) (nm:Str)
 deriving Inhabited
inductive O where
 | lst (xs:List D)|set (xs:List D)|dct (kvs:List (D×D))|exc (c:Nat)
noncomputable abbrev Sto:=List O
noncomputable abbrev En:=List (Option D)
inductive R(α:Type) where
 | ok (a:α) (S:Sto)|ex (n:Nat) (S:Sto)|bad
noncomputable def R.bind{α β:Type}:R α->(α->Sto->R β)->R β
 | .ok a S,f=>f a S
 | .ex n S,_=>.ex n S
 | .bad,_=>.bad
@[simp] theorem Rk0{α β:Type}(a:α)(S:Sto)(f:α->Sto->R β):(R.ok a S).bind f=f a S:=rfl
@[simp] theorem R.bind_ex{α β:Type}(n:Nat)(S:Sto)(f:α->Sto->R β):(R.ex n S).bind f=.ex n S:=rfl
@[simp] theorem R.bind_bad{α β:Type}(f:α->Sto->R β):(R.bad:R α).bind f=.bad:=rfl
noncomputable def big:Nat:=1000000
set_option genInjectivity false
inductive Bo where|add|sub|mul|fdiv|mod|pow
 deriving DecidableEq
inductive Co where|eq|ne|lt|le|gt|ge|isin|notin|is|isnot
 deriving DecidableEq
inductive Ty where|int|bool|str|tuple|list|dict|cls(c:Nat)|valueError
 deriving DecidableEq
inductive Bl where
 | len|min|max|sum|all|tuple|list|repr|int
 deriving DecidableEq
inductive Mt where
 | append|index|count
 deriving DecidableEq
inductive Tg where
 | var (i:Nat)
 | tup (is:List Nat)
 | nst (i:Nat) (is:List Nat)
mutual
inductive Ex where
 | nev
 | var (i:Nat)
 | cst (d:D)
 | neg (a:Ex)
 | glb (k:Nat)
 | tup (es:Exs)
 | lst (es:Exs)
 | bin (op:Bo) (a b:Ex)
 | cmp (op:Co) (a b:Ex)
 | chn (o1 o2:Co) (a b c:Ex)
 | and (a b:Ex)
 | or (a b:Ex)
 | not (a:Ex)
 | ite (c a b:Ex)
 | idx (a i:Ex)
 | sli (a:Ex) (lo hi:Op)
 | rev (a:Ex)
 | call (f:Nat) (es:Exs)
 | cal (e:Ex) (es:Exs)
 | rv2 (k:Bool) (a:Ex)
 | lenm (a:Ex)
 | blt (k:Bl) (es:Exs)
 | mth (k:Mt) (o:Ex) (es:Exs)
 | isi (a:Ex) (ts:List Ty)
 | cmr (k:Bool) (n:Nat) (gs:Gens) (elt:Ex)
inductive Op where
 | none|some (e:Ex)
inductive Exs where
 | nil|cons (e:Ex) (es:Exs)
inductive Gens where
 | nil|cons (t:Tg) (it:It) (ifs:Exs) (gs:Gens)
inductive It where
 | val (e:Ex)|rng (es:Exs)|zpp (es:Exs)|enm (es:Exs)|ezp (es:Exs)
end
mutual
inductive St where
 | nev
 | asg (t:Tg) (e:Ex)
 | par (is:List Nat) (es:Exs)
 | aset (o i e:Ex)
 | aug (i:Nat) (op:Bo) (e:Ex)
 | expr (e:Ex)
 | ret (e:Ex)
 | ite (c:Ex) (a b:Sts)
 | for (t:Tg) (it:It) (b:Sts)
 | whl (c:Ex) (b:Sts)
 | rse (c:Nat) (e:Ex)
 | try (b:Sts) (c:Nat) (x:Nat) (h:Sts)
 | pass
 | brk
 | cnt
inductive Sts where
 | nil|cons (s:St) (ss:Sts)
end
set_option genInjectivity true
inductive Fl where
 | nx (e:En)|brk (e:En)|cnt (e:En)|rt (d:D)
noncomputable def Xc(S:Sto)(n:Nat):Option (List D) :=
 match S[n]? with
 | some (.lst xs)=>some xs
 | _=>none
noncomputable def lstM(S:Sto)(n:Nat):Option (List D) :=
 match S[n]? with
 | some (.lst xs)=>some xs
 | _=>none
noncomputable def i2(b:Bool):Int:=if b then 1 else 0
mutual
noncomputable def X2(look:Nat->Option PyData):D->Option PyData
 | .non=>some .none
 | .bl b=>some (.bool b)
 | .int i=>some (.int i)
 | .str x=>some (.str x)
 | .tup xs=>(datFs look xs).map PyData.tuple
 | .fro _=>none
 | .fn _ _=>none
 | .ref n=>look n
noncomputable def datFs(look:Nat->Option PyData):List D->Option (List PyData)
 | []=>some []
 | x::xs=>match X2 look x,datFs look xs with
  | some p,some ps=>some (p::ps)
  | _,_=>none
end
noncomputable def Ys(S:Sto):Nat->Nat->Option PyData
 | 0,_=>none
 | k+1,n=>match S[n]? with
  | some (.lst xs)=>(datFs (Ys S k) xs).map PyData.list
  | some (.dct [])=>some (.dict [])
  | _=>none
noncomputable def Y5(S:Sto)(d:D):Option PyData:=X2 (Ys S 4) d
noncomputable def Xch(x y:D):Option Bool:=match x with
 | .str a=>(match y with
  | .str b=>some (a.cps.toList==b.cps.toList)
  | _=>none)
 | _=>none
noncomputable def Xd9(S:Sto)(x y:D):Option Bool:=match x with
 | .ref a=>(match y with
  | .ref b=>(match Xc S a,Xc S b with
   | some xs,some ys=>if xs.length=ys.length then none else some false
   | _,_=>none)
  | _=>none)
 | _=>none
noncomputable def eqD(S:Sto)(x y:D):Option Bool:=match Xch x y with
 | some r=>some r
 | none=>match Y5 S x,Y5 S y with
  | some p,some q=>if p.canLay0&&q.canLay0&&decide (p.depth<=60) then some (Vb9 p q) else Xd9 S x y
  | _,_=>Xd9 S x y
noncomputable def inD(S:Sto)(x y:D):Option Bool:=match Y5 S x,Y5 S y with
 | some p,some (.list qs)=>if p.canLay0&&Vfc qs&&decide (p.depth<=60) then some (qs.any fun q=>Vb9 q p) else none
 | some p,some (.tuple qs)=>if p.canLay0&&Vfc qs&&decide (p.depth<=60) then some (qs.any fun q=>Vb9 q p) else none
 | _,_=>none
noncomputable def Xq(S:Sto):D->Option (List D)
 | .tup xs=>some xs
 | .fro xs=>some xs
 | .ref n=>Xc S n
 | _=>none
noncomputable def Ym:List D->Option (List Int)
 | []=>some []
 | .int i::r=>(Ym r).map (i :: ·)
 | _::_=>none
noncomputable def Yh:List D->Option (List Bool)
 | []=>some []
 | .bl i::r=>(Yh r).map (i :: ·)
 | _::_=>none
noncomputable def ltD:D->D->Option Bool
 | .int i,.int j=>some (decide (i<j))
 | _,_=>none
noncomputable def Xg(S:Sto):D->Option Bool
 | .non=>some false
 | .bl b=>some b
 | .int i=>some (i != 0)
 | .str x=>if x.length<=big then some ((x.length:Int) != 0) else none
 | .tup xs=>some (!xs.isEmpty)
 | .fro xs=>some (!xs.isEmpty)
 | .fn _ _=>none
 | .ref n=>match S[n]? with
  | some (.lst xs)=>some (!xs.isEmpty)
  | _=>none
noncomputable def Yc(i j:Int):Bool:=(decide (-(18446744073709551616)<i)&&decide (i<18446744073709551616))||(decide (-(18446744073709551616)<j)&&decide (j<18446744073709551616))||(decide (i.natAbs.log2<100000)&&decide (j.natAbs.log2<100000))
noncomputable def Yd(j:Int):Bool:=decide (0<j)&&decide (j.natAbs.log2<9000)
noncomputable def Xs(op:Bo)(x y:D)(S:Sto):R D:=match op with
 | .add=>match x,y with
  | .int i,.int j=>.ok (.int (i+j)) S
  | .tup x,.tup y=>if x.length+y.length<=big then .ok (.tup (x++y)) S else .bad
  | .str x,.str y=>if x.length+y.length<=big then .ok (.str (x++y)) S else .bad
  | .ref n,.ref m=>match lstM S n,lstM S m with
   | some x,some y=>if x.length+y.length<=big then .ok (.ref S.length) (S++[.lst (x++y)]) else .bad
   | _,_=>.bad
  | _,_=>.bad
 | .sub=>match x,y with
  | .int i,.int j=>.ok (.int (i-j)) S
  | _,_=>.bad
 | .mul=>match x,y with
  | .int i,.int j=>if Yc i j then .ok (.int (i*j)) S else .bad
  | .tup x,.int k=>if k<1048576/\x.length*k.toNat<=big/\-(1048576)<k/\x.isEmpty=false then .ok (.tup (Vd k.toNat x).flatten) S else .bad
  | .ref n,.int k=>match lstM S n with
   | some x=>if k<1048576/\x.length*k.toNat<=big/\-(1048576)<k then .ok (.ref S.length) (S++[.lst (Vd k.toNat x).flatten]) else .bad
   | none=>.bad
  | _,_=>.bad
 | .fdiv=>match x,y with
  | .int i,.int j=>if Yd j then .ok (.int (i/j)) S else .bad
  | _,_=>.bad
 | .mod=>match x,y with
  | .int i,.int j=>if 0<j then .ok (.int (i%j)) S else .bad
  | _,_=>.bad
 | .pow=>match x,y with
  | .int i,.int j=>if 0<=j/\j<=1000/\i.natAbs<2^63 then .ok (.int (i^j.toNat)) S else .bad
  | _,_=>.bad
noncomputable def Xfp:Bo->D->D->Sto->R D
 | .add,.int i,.int j,S=>.ok (.int (i+j)) S
 | .sub,.int i,.int j,S=>.ok (.int (i-j)) S
 | .mul,.int i,.int j,S=>if Yc i j then .ok (.int (i*j)) S else .bad
 | _,_,_,_=>.bad
noncomputable def X0(op:Co)(x y:D)(S:Sto):Option Bool:=match op with
 | .eq=>eqD S x y
 | .ne=>(eqD S x y).map (!·)
 | .lt=>ltD x y
 | .le=>match x,y with
  | .int i,.int j=>some (decide (i<=j))
  | _,_=>none
 | .gt=>match x,y with
  | .int i,.int j=>some (decide (j<i))
  | _,_=>none
 | .ge=>match x,y with
  | .int i,.int j=>some (decide (j<=i))
  | _,_=>none
 | .isin=>inD S x y
 | .notin=>(inD S x y).map (!·)
 | .is=>match y with
  | .non=>some (match x with | .non=>true|_=>false)
  | .bl b=>some (match x with | .bl c=>b==c|_=>false)
  | _=>none
 | .isnot=>match y with
  | .non=>some (match x with | .non=>false|_=>true)
  | .bl b=>some (match x with | .bl c=>b != c|_=>true)
  | _=>none
noncomputable def ixN(n:Nat)(i:Int):Option Nat:=if 0<=i then (if i<n then some i.toNat else none) else if-(n:Int)<=i then some (i+n).toNat else none
noncomputable def Xal(x:D)(i:D)(S:Sto):Option D :=
 match i with
 | .int k=>match x with
  | .str z=>if z.length<=big then (ixN z.length k).bind fun j=>z.cps.toList[j]?.map fun c=>.str ⟨#[c]⟩ else none
  | _=>(Xq S x).bind fun xs=>(ixN xs.length k).bind fun j=>xs[j]?
 | _=>none
noncomputable def Xj(op:Co)(x y:D)(S:Sto):R D:=match X0 op x y S with
 | some r=>.ok (.bl r) S
 | none=>.bad
noncomputable def Yb(x i:D)(S:Sto):R D:=match Xal x i S with
 | some d=>.ok d S
 | none=>.bad
noncomputable def Xab(ifs:En->Sto->R Bool)(body:En->List D->Sto->R (List D))(env:En)(acc:List D)(S:Sto):R (List D):=(ifs env S).bind fun b S=>if b then body env acc S else .ok acc S
noncomputable def Xfq(n:Nat)(d:Nat):Option Int->Nat
 | none=>d
 | some i=>if 0<=i then min i.toNat n else (i+n).toNat
noncomputable def cut{α:Type}(xs:List α)(lo hi:Option Int):List α :=
 (xs.drop (Xfq xs.length 0 lo)).take (Xfq xs.length xs.length hi-Xfq xs.length 0 lo)
noncomputable def Xa6:Option D->Option (Option Int)
 | none=>some none
 | some (.int i)=>some (some i)
 | _=>none
noncomputable def Xaw(x:D)(lo hi:Option Int)(S:Sto):R D :=
 match x with
 | .tup xs=>.ok (.tup (cut xs lo hi)) S
 | .ref n=>match Xc S n with
  | some xs=>.ok (.ref S.length) (S++[.lst (cut xs lo hi)])
  | none=>.bad
 | _=>.bad
noncomputable def Xk3(x:D)(S:Sto):R D :=
 match x with
 | .tup xs=>.ok (.tup xs.reverse) S
 | .ref n=>match Xc S n with
  | some xs=>.ok (.ref S.length) (S++[.lst xs.reverse])
  | none=>.bad
 | _=>.bad
noncomputable def alt{α:Type}:List α->List α
 | []=>[]
 | [x]=>[x]
 | x::_::r=>x::alt r
noncomputable def Xfr(k:Bool)(x:D)(S:Sto):R D :=
 match x with
 | .tup xs=>.ok (.tup (alt (xs.reverse.drop (if k then 1 else 0)))) S
 | .ref n=>match Xc S n with
  | some xs=>.ok (.ref S.length) (S++[.lst (alt (xs.reverse.drop (if k then 1 else 0)))])
  | none=>.bad
 | _=>.bad
noncomputable def Xbb(f:Nat)(nm:Str):List D->Bool
 | []=>false
 | .fn g m::r=>(g==f&&decide (m=nm))||Xbb f nm r
 | _::r=>Xbb f nm r
noncomputable def Yk(n:Nat):List D->List D
 | []=>[]
 | x::r=>.tup [.int n,x]::Yk (n+1) r
inductive Kd where|non|bool|int|str|tuple|list|dict|exc(c:Nat)
 deriving DecidableEq
noncomputable def kdD(S:Sto):D->Option Kd
 | .non=>some .non
 | .bl _=>some .bool
 | .int _=>some .int
 | .str _=>some .str
 | .tup _=>some .tuple
 | .fro _=>some .list
 | .fn _ _=>none
 | .ref n=>match S[n]? with
  | some (.lst _)=>some .list
  | some (.dct _)=>some .dict
  | some (.exc c)=>some (.exc c)
  | _=>none
noncomputable def isT:Kd->Ty->Option Bool
 | .exc c',.cls c=>some (c==0||c==c')
 | .exc _,.valueError=>some true
 | .exc _,_=>none
 | _,.cls _=>none
 | _,.valueError=>none
 | .bool,.int=>some true
 | .int,.int=>some true
 | .bool,.bool=>some true
 | .str,.str=>some true
 | .tuple,.tuple=>some true
 | .list,.list=>some true
 | .dict,.dict=>some true
 | _,_=>some false
noncomputable def Yq(k:Kd):List Ty->Option Bool
 | []=>some false
 | t::r=>match isT k t with
  | some true=>some true
  | some false=>Yq k r
  | none=>none
mutual
noncomputable def szD:PyData->Nat
 | .none=>4
 | .bool _=>5
 | .int _=>1921
 | .str x=>(reprText x).length
 | .list xs=>szDs xs+2
 | .tuple xs=>szDs xs+3
 | .dict _=>2
noncomputable def szDs:List PyData->Nat
 | []=>0
 | x::xs=>szD x+2+szDs xs
end
mutual
noncomputable def Xan:PyData->Bool
 | .none=>true
 | .bool _=>true
 | .int _=>true
 | .str _=>true
 | .list xs=>dctEs xs
 | .tuple xs=>dctEs xs
 | .dict kvs=>kvs.isEmpty
noncomputable def dctEs:List PyData->Bool
 | []=>true
 | x::xs=>Xan x&&dctEs xs
end
noncomputable def Xfs(S:Sto)(x:D):Option Str:=match Y5 S x with
 | some p=>if p.showable&&Xan p&&decide (p.depth<=60)&&decide (szD p<=big) then some p.shown else none
 | none=>none
noncomputable def Xk(k:Bl)(ds:List D)(S:Sto):R D:=match k with
 | .len=>match ds with
  | [x]=>match x with
   | .str z=>if z.length<=big then .ok (.int z.length) S else .bad
   | _=>match Xq S x with
    | some xs=>.ok (.int xs.length) S
    | none=>.bad
  | _=>.bad
 | .tuple=>match ds with
  | [x]=>match Xq S x with
   | some xs=>.ok (.tup xs) S
   | none=>.bad
  | _=>.bad
 | .list=>match ds with
  | [x]=>match Xq S x with
   | some xs=>.ok (.ref S.length) (S++[.lst xs])
   | none=>.bad
  | _=>.bad
 | .all=>match ds with
  | [.ref n]=>match (Xc S n).bind Yh with
   | some bs=>.ok (.bl (bs.all id)) S
   | none=>.bad
  | _=>.bad
 | .sum=>match ds with
  | [x]=>match (Xq S x).bind Ym with
   | some ns=>.ok (.int ns.sum) S
   | none=>.bad
  | _=>.bad
 | .max=>match ds with
  | [.int i,.int j]=>.ok (.int (if j>i then j else i)) S
  | _=>.bad
 | .min=>match ds with
  | [.int i,.int j]=>.ok (.int (if j<i then j else i)) S
  | _=>.bad
 | .int=>match ds with
  | [.bl b]=>.ok (.int (i2 b)) S
  | _=>.bad
 | .repr=>match ds with
  | [x]=>match Xfs S x with
   | some t=>.ok (.str t) S
   | none=>.bad
  | _=>.bad
noncomputable def Xag(k:Mt)(o:D)(ds:List D)(S:Sto):R D:=match o,ds with
 | .ref n,[x]=>match k with
  | .append=>match lstM S n with
   | some xs=>if xs.length<big then .ok .non (S.set n (.lst (xs++[x]))) else .bad
   | none=>.bad
  | .index=>match x with
   | .bl b=>match (Xc S n).bind Yh with
    | some bs=>match bs.findIdx? (· == b) with
     | some i=>.ok (.int i) S
     | none=>.bad
    | none=>.bad
   | _=>.bad
  | .count=>match x with
   | .bl b=>match (Xc S n).bind Yh with
    | some bs=>.ok (.int (bs.countP (· == b):Nat)) S
    | none=>.bad
   | _=>.bad
 | _,_=>.bad
noncomputable def Xac(k:Mt)(x:D)(S:Sto):Bool:=match x with
 | .ref n=>(Xc S n).isSome
 | _=>false
noncomputable def Xbx(o i v:D)(S:Sto):R Unit :=
 match o,i with
 | .ref n,.int k=>match lstM S n with
  | some xs=>match ixN xs.length k with
   | some j=>.ok () (S.set n (.lst (xs.set j v)))
   | none=>.bad
  | none=>.bad
 | _,_=>.bad
inductive Src where
 | con (xs:List D)|ref (n:Nat)|zpp (a b:Src)|enm (a:Src)
noncomputable def Src.get:Src->Sto->Nat->Option (Option D)
 | .con xs,_,i=>some xs[i]?
 | .ref n,S,i=>(Xc S n).map fun xs=>xs[i]?
 | .zpp a b,S,i=>match a.get S i,b.get S i with
  | some (some x),some (some y)=>some (some (.tup [x,y]))
  | some _,some _=>some none
  | _,_=>none
 | .enm a,S,i=>match a.get S i with
  | some (some x)=>some (some (.tup [.int i,x]))
  | r=>r
noncomputable def Src.most:Src->Sto->Nat
 | .con xs,_=>xs.length
 | .ref n,S=>((Xc S n).getD []).length
 | .zpp a b,S=>min (a.most S) (b.most S)
 | .enm a,S=>a.most S
noncomputable def Xy(S:Sto):D->Option Src
 | .tup xs=>some (.con xs)
 | .ref n=>(Xc S n).map fun _=>.ref n
 | _=>none
noncomputable def Yy:List D->Option (List D)
 | [.int j]=>if-(1048576)<j/\j<1048576 then some ((Vc j.toNat).map fun(k:Nat)=>D.int (k:Int)) else none
 | [.int i,.int j]=>if-(1048576)<i/\i<1048576/\-(1048576)<j/\j<1048576 then some ((Vc (j-i).toNat).map fun(k:Nat)=>D.int (i+k)) else none
 | [.int i,.int j,.int s]=>if s = -1/\-(1048576)<i/\i<1048576/\-(1048576)<j/\j<1048576 then some ((Vc (i-j).toNat).map fun(k:Nat)=>D.int (i-k)) else none
 | _=>none
noncomputable def Xl(t:Tg)(d:D)(env:En):Option En :=
 match t with
 | .var i=>some (env.set i (some d))
 | .tup is=>match d with
  | .tup ds=>if is.length=ds.length then some ((is.zip ds).foldl (fun e p=>e.set p.1 (some p.2)) env) else none
  | _=>none
 | .nst i is=>match d with
  | .tup [d,.tup ds]=>if is.length=ds.length then some ((is.zip ds).foldl (fun e p=>e.set p.1 (some p.2)) (env.set i (some d))) else none
  | _=>none
noncomputable def slots:Tg->List Nat
 | .var i=>[i]
 | .tup is=>is
 | .nst i is=>i::is
noncomputable def Xq6(t:Tg)(env:En):Bool:=(slots t).all fun i=>match env[i]? with
 | some (some _)=>false
 | _=>true
noncomputable def Yo(get:Sto->Nat->Option (Option D))(t:Tg)(body:En->List D->Sto->R (List D)):Nat->Nat->En->List D->Sto->R (List D)
 | 0,_,_,_,_=>.bad
 | k+1,i,env,acc,S=>match get S i with
  | none=>.bad
  | some none=>.ok acc S
  | some (some d)=>match Xl t d env with
   | none=>.bad
   | some env'=>match body env' acc S with
    | .ok acc' S'=>Yo get t body k (i+1) env' acc' S'
    | _=>.bad
noncomputable abbrev Fn:=Nat->List D->Sto->R D
section
variable(F:Fn)(G:List D)
mutual
noncomputable def ev:Ex->En->Sto->R D
 | .nev,_,_=>.bad
 | .var i,env,S=>match env[i]? with
  | some (some d)=>.ok d S
  | _=>.bad
 | .cst d,_,S=>.ok d S
 | .neg a,env,S=>(ev a env S).bind fun x S=>match x with
  | .int i=>.ok (.int (-i)) S
  | _=>.bad
 | .glb k,_,S=>match G[k]? with
  | some d=>.ok d S
  | none=>.bad
 | .tup es,env,S=>(evs es env S).bind fun xs S=>if xs.length<=big then .ok (.tup xs) S else .bad
 | .lst es,env,S=>(evs es env S).bind fun xs S=>if xs.length<=big then .ok (.ref S.length) (S++[.lst xs]) else .bad
 | .bin op a b,env,S=>(ev a env S).bind fun x S=>(ev b env S).bind fun y S=>Xs op x y S
 | .cmp op a b,env,S=>(ev a env S).bind fun x S=>(ev b env S).bind fun y S=>Xj op x y S
 | .chn o1 o2 a b c,env,S=>(ev a env S).bind fun x S=>(ev b env S).bind fun y S=>match X0 o1 x y S with
  | some true=>(ev c env S).bind fun z S=>Xj o2 y z S
  | some false=>.ok (.bl false) S
  | none=>.bad
 | .and a b,env,S=>(ev a env S).bind fun x S=>match Xg S x with
  | some true=>ev b env S
  | some false=>.ok x S
  | none=>.bad
 | .or a b,env,S=>(ev a env S).bind fun x S=>match Xg S x with
  | some true=>.ok x S
  | some false=>ev b env S
  | none=>.bad
 | .not a,env,S=>(ev a env S).bind fun x S=>match Xg S x with
  | some r=>.ok (.bl (!r)) S
  | none=>.bad
 | .ite c a b,env,S=>(ev c env S).bind fun x S=>match Xg S x with
  | some true=>ev a env S
  | some false=>ev b env S
  | none=>.bad
 | .idx a i,env,S=>(ev a env S).bind fun x S=>(ev i env S).bind fun y S=>Yb x y S
 | .sli a lo hi,env,S=>(ev a env S).bind fun x S=>(evo lo env S).bind fun l S=>(evo hi env S).bind fun h S=>match Xa6 l,Xa6 h with
  | some l,some h=>Xaw x l h S
  | _,_=>.bad
 | .rev a,env,S=>(ev a env S).bind fun x S=>Xk3 x S
 | .call f es,env,S=>(evs es env S).bind fun xs S=>F f xs S
 | .cal e es,env,S=>(ev e env S).bind fun x S=>match x with
  | .fn f nm=>if Xbb f nm G then (evs es env S).bind fun xs S=>F f xs S else .bad
  | _=>.bad
 | .rv2 k a,env,S=>(ev a env S).bind fun x S=>Xfr k x S
 | .lenm a,env,S=>(ev a env S).bind fun x S=>match Xq S x with
  | some xs=>.ok (.ref S.length) (S++[.lst (Yk 0 xs)])
  | none=>.bad
 | .blt k es,env,S=>(evs es env S).bind fun xs S=>Xk k xs S
 | .mth k o es,env,S=>(ev o env S).bind fun x S=>if Xac k x S then (evs es env S).bind fun xs S=>Xag k x xs S else .bad
 | .isi a ts,env,S=>(ev a env S).bind fun x S=>match (kdD S x).bind fun k=>Yq k ts with
  | some r=>.ok (.bl r) S
  | none=>.bad
 | .cmr k n gs elt,env,S=>match gs with
  | .nil=>.bad
  | .cons t it ifs gs=>(evit it env S).bind fun src S =>
   (Yo (src.get) t (Xab (fun env S=>evts ifs env S) (fun env acc S =>
     match gs with
     | .nil=>(ev elt env S).bind fun y S=>if acc.length<big then .ok (acc++[y]) S else .bad
     | .cons t2 it2 ifs2 gs2=>match gs2 with
      | .nil=>if Xq6 t2 env then (evit it2 env S).bind fun src2 S =>
       Yo (src2.get) t2 (Xab (fun env S=>evts ifs2 env S) (fun env acc S =>
        (ev elt env S).bind fun y S=>if acc.length<big then .ok (acc++[y]) S else .bad)) (src2.most S+1) 0 env acc S else .bad
      | .cons ..=>.bad)) (src.most S+1) 0 (env++Vd n none) [] S).bind fun acc S =>
   if k then .bad else .ok (.ref S.length) (S++[.lst acc])
noncomputable def evo:Op->En->Sto->R (Option D)
 | .none,_,S=>.ok none S
 | .some e,env,S=>(ev e env S).bind fun x S=>.ok (some x) S
noncomputable def evs:Exs->En->Sto->R (List D)
 | .nil,_,S=>.ok [] S
 | .cons e es,env,S=>(ev e env S).bind fun x S=>(evs es env S).bind fun xs S=>.ok (x::xs) S
noncomputable def evts:Exs->En->Sto->R Bool
 | .nil,_,S=>.ok true S
 | .cons e es,env,S=>(ev e env S).bind fun x S=>match Xg S x with
  | some true=>evts es env S
  | some false=>.ok false S
  | none=>.bad
noncomputable def evit:It->En->Sto->R Src
 | .val e,env,S=>(ev e env S).bind fun x S=>match Xy S x with
  | some s=>.ok s S
  | none=>.bad
 | .rng es,env,S=>(evs es env S).bind fun xs S=>match Yy xs with
  | some ds=>.ok (.con ds) S
  | none=>.bad
 | .zpp es,env,S=>(evs es env S).bind fun xs S=>match xs with
  | [x,y]=>match Xy S x,Xy S y with
   | some s,some t=>.ok (.zpp s t) S
   | _,_=>.bad
  | _=>.bad
 | .enm es,env,S=>(evs es env S).bind fun xs S=>match xs with
  | [x]=>match Xy S x with
   | some s=>.ok (.enm s) S
   | none=>.bad
  | _=>.bad
 | .ezp es,env,S=>(evs es env S).bind fun xs S=>match xs with
  | [x,y]=>match Xy S x,Xy S y with
   | some s,some t=>.ok (.enm (.zpp s t)) S
   | _,_=>.bad
  | _=>.bad
end
mutual
noncomputable def X1y:St->Bool
 | .expr _=>true
 | .ret _=>true
 | .pass=>true
 | .ite _ a b=>nasgs a&&nasgs b
 | .rse _ _=>true
 | _=>false
noncomputable def nasgs:Sts->Bool
 | .nil=>true
 | .cons s ss=>X1y s&&nasgs ss
end
noncomputable def Xv(get:Sto->Nat->Option (Option D))(t:Tg)(body:En->Sto->R Fl):Nat->Nat->En->Sto->R Fl
 | 0,_,_,_=>.bad
 | k+1,i,env,S=>match get S i with
  | none=>.bad
  | some none=>.ok (.nx env) S
  | some (some d)=>match Xl t d env with
   | none=>.bad
   | some env'=>match body env' S with
    | .ok (.nx e) S'=>Xv get t body k (i+1) e S'
    | .ok (.cnt e) S'=>Xv get t body k (i+1) e S'
    | .ok (.brk e) S'=>.ok (.nx e) S'
    | .ok (.rt d) S'=>.ok (.rt d) S'
    | _=>.bad
noncomputable def Y6(test:En->Sto->R Bool)(body:En->Sto->R Fl):Nat->En->Sto->R Fl
 | 0,_,_=>.bad
 | k+1,env,S=>match test env S with
  | .ok false S'=>.ok (.nx env) S'
  | .ok true S'=>match body env S' with
   | .ok (.nx e) S'=>Y6 test body k e S'
   | .ok (.cnt e) S'=>Y6 test body k e S'
   | .ok (.brk e) S'=>.ok (.nx e) S'
   | .ok (.rt d) S'=>.ok (.rt d) S'
   | _=>.bad
  | _=>.bad
mutual
noncomputable def exe:St->En->Sto->R Fl
 | .nev,_,_=>.bad
 | .asg t e,env,S=>(ev F G e env S).bind fun x S=>match Xl t x env with
  | some env=>.ok (.nx env) S
  | none=>.bad
 | .par is es,env,S=>(evs F G es env S).bind fun xs S=>if is.length=xs.length then .ok (.nx ((is.zip xs).foldl (fun e p=>e.set p.1 (some p.2)) env)) S else .bad
 | .aset o i e,env,S=>(ev F G e env S).bind fun v S=>(ev F G o env S).bind fun x S=>(ev F G i env S).bind fun y S=>(Xbx x y v S).bind fun _ S=>.ok (.nx env) S
 | .aug i op e,env,S=>match env[i]? with
  | some (some x)=>(ev F G e env S).bind fun y S=>(Xfp op x y S).bind fun z S=>.ok (.nx (env.set i (some z))) S
  | _=>.bad
 | .expr e,env,S=>(ev F G e env S).bind fun _ S=>.ok (.nx env) S
 | .ret e,env,S=>(ev F G e env S).bind fun x S=>.ok (.rt x) S
 | .ite c a b,env,S=>(ev F G c env S).bind fun x S=>match Xg S x with
  | some true=>exes a env S
  | some false=>exes b env S
  | none=>.bad
 | .for t it b,env,S=>(evit F G it env S).bind fun src S=>Xv src.get t (fun env S=>exes b env S) (src.most S+1) 0 env S
 | .whl c b,env,S=>Y6 (fun env S=>(ev F G c env S).bind fun x S=>match Xg S x with
   | some r=>.ok r S
   | none=>.bad) (fun env S=>exes b env S) 100000 env S
 | .rse c e,env,S=>(ev F G e env S).bind fun _ S=>.ex S.length (S++[.exc c])
 | .try b c x h,env,S=>if nasgs b then
   match exes b env S with
   | .ex n S'=>match S'[n]? with
    | some (.exc c')=>if c==0||c==c' then
      match exes h (env.set x (some (.ref n))) S' with
      | .ok (.rt d) S''=>.ok (.rt d) S''
      | _=>.bad
     else .bad
    | _=>.bad
   | r=>r
  else .bad
 | .pass,env,S=>.ok (.nx env) S
 | .brk,env,S=>.ok (.brk env) S
 | .cnt,env,S=>.ok (.cnt env) S
noncomputable def exes:Sts->En->Sto->R Fl
 | .nil,env,S=>.ok (.nx env) S
 | .cons s ss,env,S=>match exe s env S with
  | .ok (.nx e) S'=>exes ss e S'
  | r=>r
end
structure Df where
 np:Nat
 nl:Nat
 body:Sts
noncomputable def den(d:Df)(ds:List D)(S:Sto):R D :=
 if ds.length=d.np then
  match exes F G d.body (ds.map some++Vd (d.nl-d.np) none) S with
  | .ok (.rt v) S=>.ok v S
  | .ok (.nx _) S=>.ok .non S
  | .ok _ _=>.bad
  | .ex n S=>.ex n S
  | .bad=>.bad
 else .bad
end
noncomputable def FT(T:List Df)(G:List D):Nat->Fn
 | 0=>fun _ _ _=>.bad
 | k+1=>fun f ds S=>match T[f]? with
  | some d=>den (FT T G k) G d ds S
  | none=>.bad
end Z
end
section
namespace Z
open PySem PySem.Spec PyProof.Rows L2
def FrL(K:Vf)(H:Hp)(a:Addr)(vs:List V):Prop :=
 (∃ o,H a=some (.frz o (.lst vs))) \/
  ∃ (o:Obj) (its:Array Value) (n:Nat),K.lookup a=some o/\o.cls=.type "list" /\ o.dict=none/\o.data=.seq its n/\its.size<=Vt/\Vals vs its.toList
theorem FrL.sq{K:Vf}{H:Hp}{a:Addr}{vs:List V}(h:FrL K H a vs):SqL K H a vs:=by
 rcases h with⟨o,h⟩|h
 ·exact .inl (.inr ⟨o,h⟩)
 ·exact .inr h
mutual
def RD(K:Vf)(ρ:List Addr)(H:Hp):D->V->Prop
 | .non,v=>v=.non
 | .bl b,v=>v=.bl b
 | .int i,v=>v=.int i
 | .str x,v=>v=.str x
 | .tup xs,v=>∃ a vs,v=.ref a/\SqT K H a vs/\RDs K ρ H xs vs
 | .fro xs,v=>∃ a vs,v=.ref a/\FrL K H a vs/\RDs K ρ H xs vs
 | .ref n,v=>∃ a,v=.ref a/\ρ[n]?=some a
 | .fn _ nm,v=>∃ a,v=.ref a/\U6 K Vz nm=some (some (.ref a))
def RDs(K:Vf)(ρ:List Addr)(H:Hp):List D->List V->Prop
 | [],vs=>vs=[]
 | x::xs,vs=>∃ v r,vs=v::r/\RD K ρ H x v/\RDs K ρ H xs r
end
noncomputable def clsNames:List Str:=["FaceError","NoNet","NoFace","NoPoint","NotApart","TooMany","NoText","NoRow","NoNumber","NotLevel","NoCrowd","NoWay","NotClosed","NoSwap","NoPlaces","NoDeed","NoLine"]
noncomputable def Xbi(c:Nat):Option Str:=(clsNames[c]?).filter fun x=>!decide (x = "")
theorem Xk4(h:Xbi c=some x):c<clsNames.length:=by
 unfold Xbi at h;cases q:clsNames[c]? with
 | none=>rw[q] at h;cases h
 | some _=>exact(Ve.mp q).1
noncomputable def Xak(K:Vf)(c:Nat):Option Addr:=(Xbi c).bind fun nm=>match U6 K Vz nm with
 | some (some (.ref C))=>some C
 | _=>none
def ExcO(C a:Addr)(h:Heap):Prop:=∃ oe vs a0,h.get? a=some oe/\oe.cls=.ref C/\oe.data=.fields vs/\vs[0]?=some a0/\1<vs.size
theorem ExcO.ok(x:ExcO C a h):ObjOk P w H h a (.ext (ExcO C a)) :=
 ⟨x,let ⟨oe,_,_,e,_⟩:=x;⟨oe,e⟩,fun h1 h2 ⟨oe,vs,a0,e,r⟩ k=>⟨oe,vs,a0,k _ e,r⟩⟩
def OR(K:Vf)(ρ:List Addr)(H:Hp)(a:Addr):O->Prop
 | .lst xs=>∃ vs,H a=some (.lst vs)/\RDs K ρ H xs vs
 | .dct kvs=>kvs=[]/\H a=some (.dK [])
 | .set _=>False
 | .exc c=>∃ C,Xak K c=some C/\H a=some (.ext (ExcO C a))
theorem OR.some{K:Vf}{ρ:List Addr}{H:Hp}{a:Addr}{o:O}(h:OR K ρ H a o):∃ u,H a=some u/\(∀ xs,u≠.tup xs)/\∀ o' u',u≠.frz o' u':=by
 cases o with
 | lst xs=>obtain⟨vs,e,_⟩:=h;exact⟨_,e,fun _ z=>(nomatch z),fun _ _ z=>(nomatch z)⟩
 | dct kvs=>obtain⟨_,e⟩:=h;exact⟨_,e,fun _ z=>(nomatch z),fun _ _ z=>(nomatch z)⟩
 | set _=>exact h.elim
 | exc c=>obtain⟨C,_,e⟩:=h;exact⟨_,e,fun _ z=>(nomatch z),fun _ _ z=>(nomatch z)⟩
structure SR(K:Vf)(ρ:List Addr)(S:Sto)(H:Hp):Prop where
 len:ρ.length=S.length
 nd:ρ.Nodup
 ob:∀ (n:Nat) a o,ρ[n]?=some a->S[n]?=some o->OR K ρ H a o
structure Mon(K:Vf)(ρ ρ':List Addr)(H H':Hp):Prop where
 pre:∀ (n:Nat) a,ρ[n]?=some a->ρ'[n]?=some a
 tup:∀ a xs,SqT K H a xs->SqT K H' a xs
 fro:∀ a xs,FrL K H a xs->FrL K H' a xs
structure Stp(K:Vf)(ρ ρ':List Addr)(H H':Hp):Prop extends Mon K ρ ρ' H H' where
 new:∀ a∈ρ',a∈ρ\/H a=none
 keep:∀ a o,H a=some o->a ∉ ρ->H' a=some o
section
variable{K:Vf}{ρ ρ' ρ'':List Addr}{H H' H'':Hp}{S S':Sto}
theorem Stp.refl:Stp K ρ ρ H H:=⟨⟨fun _ _ h=>h,fun _ _ h=>h,fun _ _ h=>h⟩,fun _ h=>.inl h,fun _ _ h _=>h⟩
theorem Stp.trans(x:Stp K ρ ρ' H H')(y:Stp K ρ' ρ'' H' H''):Stp K ρ ρ'' H H'' where
 pre:=fun n a h=>y.pre n a (x.pre n a h)
 new:=fun a h=>by
  rcases y.new a h with h|h
  ·exact x.new a h
  ·cases e:H a with
   | none=>exact .inr rfl
   | some o =>
    by_cases hm:a∈ρ
    ·exact .inl hm
    ·rw[x.keep a o e hm] at h;cases h
 keep:=fun a o h n=>y.keep a o (x.keep a o h n) fun hm=>by
  rcases x.new a hm with z|z
  ·exact n z
  ·rw[h] at z;cases z
 tup:=fun a xs h=>y.tup a xs (x.tup a xs h)
 fro:=fun a xs h=>y.fro a xs (x.fro a xs h)
mutual
theorem RD.mono'(x:Mon K ρ ρ' H H'):∀ (d:D) (v:V),RD K ρ H d v->RD K ρ' H' d v
 | .non,v,h=>by simpa only[RD] using h
 | .bl b,v,h=>by simpa only[RD] using h
 | .int i,v,h=>by simpa only[RD] using h
 | .str y,v,h=>by simpa only[RD] using h
 | .tup xs,v,h=>by
  simp only[RD] at h ⊢;obtain⟨a,vs,e,h1,h2⟩:=h;exact⟨a,vs,e,x.tup a vs h1,RDs.mono' x xs vs h2⟩
 | .fro xs,v,h=>by
  simp only[RD] at h ⊢;obtain⟨a,vs,e,h1,h2⟩:=h;exact⟨a,vs,e,x.fro a vs h1,RDs.mono' x xs vs h2⟩
 | .ref n,v,h=>by
  simp only[RD] at h ⊢;obtain⟨a,e,h⟩:=h;exact⟨a,e,x.pre n a h⟩
 | .fn f nm,v,h=>by simpa only[RD] using h
theorem RDs.mono'(x:Mon K ρ ρ' H H'):∀ (ds:List D) (vs:List V),RDs K ρ H ds vs->RDs K ρ' H' ds vs
 | [],vs,h=>by simpa only[RDs] using h
 | d::ds,vs,h=>by
  simp only[RDs] at h ⊢;obtain⟨v,r,e,h1,h2⟩:=h;exact⟨v,r,e,RD.mono' x d v h1,RDs.mono' x ds r h2⟩
end
theorem RD.mono(x:Stp K ρ ρ' H H')(d:D)(v:V)(h:RD K ρ H d v):RD K ρ' H' d v:=RD.mono' x.toMon d v h
theorem RDs.mono(x:Stp K ρ ρ' H H')(ds:List D)(vs:List V)(h:RDs K ρ H ds vs):RDs K ρ' H' ds vs:=RDs.mono' x.toMon ds vs h
theorem RDs.nil:RDs K ρ H [] []:=by simp only[RDs]
theorem RDs.cons(h:RD K ρ H d v)(t:RDs K ρ H ds vs):RDs K ρ H (d::ds) (v::vs):=by
 simp only[RDs];exact⟨v,vs,rfl,h,t⟩
theorem RDs.length:∀ {ds:List D} {vs:List V},RDs K ρ H ds vs->ds.length=vs.length
 | [],vs,h=>by simp only[RDs] at h;subst h;rfl
 | d::ds,vs,h=>by
  simp only[RDs] at h;obtain⟨v,r,rfl,_,h2⟩:=h;simp[RDs.length h2]
theorem RDs.append:∀ {ds es:List D} {vs us:List V},RDs K ρ H ds vs->RDs K ρ H es us->RDs K ρ H (ds++es) (vs++us)
 | [],es,vs,us,h,t=>by simp only[RDs] at h;subst h;exact t
 | d::ds,es,vs,us,h,t=>by
  simp only[RDs] at h;obtain⟨v,r,rfl,h1,h2⟩:=h;exact RDs.cons h1 (RDs.append h2 t)
theorem RDs.get:∀ {ds:List D} {vs:List V} {i:Nat} {d:D},RDs K ρ H ds vs->ds[i]?=some d->∃ v,vs[i]?=some v/\RD K ρ H d v
 | [],vs,i,d,h,e=>by simp at e
 | x::ds,vs,0,d,h,e=>by
  simp only[RDs] at h;obtain⟨v,r,rfl,h1,h2⟩:=h;simp at e;subst e;exact⟨v,rfl,h1⟩
 | x::ds,vs,i+1,d,h,e=>by
  simp only[RDs] at h;obtain⟨v,r,rfl,h1,h2⟩:=h;obtain⟨v',e',h'⟩:=RDs.get (i:=i) h2 (by simpa using e)
  exact⟨v',by simpa using e',h'⟩
theorem RDs.none{ds:List D}{vs:List V}{i:Nat}(h:RDs K ρ H ds vs)(e:ds[i]?=none):vs[i]?=none:=by
 have:=h.length;rw[V7] at e ⊢;omega
theorem RDs.set(hv:RD K ρ H d v):∀ {ds:List D} {vs:List V} (i:Nat),RDs K ρ H ds vs->RDs K ρ H (ds.set i d) (vs.set i v)
 | [],vs,i,h=>by simp only[RDs] at h;subst h;exact RDs.nil
 | x::ds,vs,0,h=>by
  simp only[RDs] at h;obtain⟨w,r,rfl,h1,h2⟩:=h;exact RDs.cons hv h2
 | x::ds,vs,i+1,h=>by
  simp only[RDs] at h;obtain⟨w,r,rfl,h1,h2⟩:=h;exact RDs.cons h1 (RDs.set hv i h2)
theorem RDs.drop:∀ {ds:List D} {vs:List V} (n:Nat),RDs K ρ H ds vs->RDs K ρ H (ds.drop n) (vs.drop n)
 | ds,vs,0,h=>h
 | [],vs,n+1,h=>by simp only[RDs] at h;subst h;exact RDs.nil
 | x::ds,vs,n+1,h=>by
  simp only[RDs] at h;obtain⟨w,r,rfl,h1,h2⟩:=h;exact RDs.drop n h2
theorem RDs.take:∀ {ds:List D} {vs:List V} (n:Nat),RDs K ρ H ds vs->RDs K ρ H (ds.take n) (vs.take n)
 | ds,vs,0,h=>RDs.nil
 | [],vs,n+1,h=>by simp only[RDs] at h;subst h;exact RDs.nil
 | x::ds,vs,n+1,h=>by
  simp only[RDs] at h;obtain⟨w,r,rfl,h1,h2⟩:=h;exact RDs.cons h1 (RDs.take n h2)
theorem RDs.ints:∀ (ns:List Int),RDs K ρ H (ns.map D.int) (ns.map V.int)
 | []=>RDs.nil
 | n::ns=>RDs.cons (by simp only[RD]) (RDs.ints ns)
theorem RDs.ints_of:∀ {ns:List Int} {vs:List V},RDs K ρ H (ns.map D.int) vs->vs=ns.map V.int
 | [],vs,h=>by simp only[V2,RDs] at h;exact h
 | n::ns,vs,h=>by
  simp only[V2,RDs] at h;obtain⟨v,r,rfl,h1,h2⟩:=h;simp only[RD] at h1;subst h1;rw[RDs.ints_of h2];rfl
theorem OR.mono'(x:Mon K ρ ρ' H H')(h:OR K ρ H a o)(e:H' a=H a):OR K ρ' H' a o:=by
 cases o with
 | lst xs=>obtain⟨vs,h1,h2⟩:=h;exact⟨vs,e.trans h1,RDs.mono' x xs vs h2⟩
 | dct kvs=>obtain⟨h1,h2⟩:=h;exact⟨h1,e.trans h2⟩
 | set _=>exact h.elim
 | exc c=>obtain⟨C,h1,h2⟩:=h;exact⟨C,h1,e.trans h2⟩
theorem OR.mono(x:Stp K ρ ρ' H H')(h:OR K ρ H a o)(e:H' a=H a):OR K ρ' H' a o:=OR.mono' x.toMon h e
theorem SR.at(r:SR K ρ S H){n:Nat}{a:Addr}(h:ρ[n]?=some a):∃ o,S[n]?=some o/\OR K ρ H a o:=by
 have hn:n<S.length:=by rw[<- r.len];exact(Ve.mp h).1
 exact⟨S[n],by simp[hn],r.ob n a _ h (by simp[hn])⟩
theorem SR.adr(r:SR K ρ S H){n:Nat}(h:S[n]?=some o):∃ a,ρ[n]?=some a/\OR K ρ H a o:=by
 have hn:n < ρ.length:=by rw[r.len];exact(Ve.mp h).1
 exact⟨ρ[n],by simp[hn],r.ob n _ o (by simp[hn]) h⟩
theorem SR.mem(r:SR K ρ S H){a:Addr}(h:a∈ρ):∃ u,H a=some u/\(∀ xs,u≠.tup xs)/\∀ o' u',u≠.frz o' u':=by
 obtain⟨n,hn,e⟩:=Veg.mp h;obtain⟨o,_,q⟩:=r.at (n:=n) (a:=a) (by simp[hn,e])
 exact q.some
theorem Stp.upd(hp:H p=none):Stp K ρ ρ H (L2.upd H p o) where
 pre:=fun _ _ h=>h
 new:=fun _ h=>.inl h
 keep:=fun a u h _=>by rw[Xh (Xn h hp)];exact h
 tup:=fun a xs h=>by
  rcases h with(h|⟨u,h⟩)|h
  ·exact .inl (.inl (by rw[Xh (Xn h hp)];exact h))
  ·exact .inl (.inr ⟨u,by rw[Xh (Xn h hp)];exact h⟩)
  ·exact .inr h
 fro:=fun a xs h=>by
  rcases h with⟨u,h⟩|h
  ·exact .inl ⟨u,by rw[Xh (Xn h hp)];exact h⟩
  ·exact .inr h
theorem SR.upd(r:SR K ρ S H){p:Addr}{o:HO}(hp:H p=none):SR K ρ S (L2.upd H p o) :=
 ⟨r.len,r.nd,fun n a ob h1 h2=>by
  have q:=r.ob n a ob h1 h2;obtain⟨u,hu,_⟩:=q.some;exact q.mono (Stp.upd hp) (Xh (Xn hu hp))⟩
theorem Stp.new1(hp:H p=none):Stp K ρ (ρ++[p]) H (L2.upd H p o) where
 pre:=fun n a h=>by rw[Vq (Ve.mp h).1];exact h
 new:=fun a h=>by
  rcases Uz.mp h with h|h
  ·exact .inl h
  ·rw[Us.mp h];exact .inr hp
 keep:=(Stp.upd (ρ:=ρ) (K:=K) hp).keep
 tup:=(Stp.upd (ρ:=ρ) (K:=K) hp).tup
 fro:=(Stp.upd (ρ:=ρ) (K:=K) hp).fro
theorem SR.new1(r:SR K ρ S H){p:Addr}{u:HO}{o:O}(hp:H p=none)(ho:OR K (ρ++[p]) (L2.upd H p u) p o):SR K (ρ++[p]) (S++[o]) (L2.upd H p u):=by
 have hpm:p ∉ ρ:=fun h=>by obtain⟨w,hw,_⟩:=r.mem h;rw[hp] at hw;cases hw
 refine⟨by simp[r.len],?_,fun n a ob h1 h2=>?_⟩
 ·rw[Vfd]
  refine⟨r.nd,by simp,fun x hx y hy=>?_⟩
  rw[Us.mp hy];exact fun z=>hpm (z▸hx)
 ·by_cases hn:n < ρ.length
  ·rw[Vq hn] at h1
   rw[Vq (by rw[<- r.len];exact hn)] at h2
   have q:=r.ob n a ob h1 h2;obtain⟨w,hw,_⟩:=q.some;exact q.mono (Stp.new1 hp) (Xh (Xn hw hp))
  ·have e:n=ρ.length:=by
    have:=(Ve.mp h1).1;simp at this;omega
   subst e;simp at h1;rw[r.len] at h2;simp at h2;subst h1 h2;exact ho
theorem Stp.chg{n:Nat}{a:Addr}{o:O}{u:HO}(r:SR K ρ S H)(ha:ρ[n]?=some a):Stp K ρ ρ H (L2.upd H a u):=by
 have hm:a∈ρ:=U4 ha;obtain⟨w,hw,h1,h2⟩:=r.mem hm;refine⟨⟨fun _ _ h=>h,fun b xs h=>?_,fun b xs h=>?_⟩,fun _ h=>.inl h,fun b o h hb=>?_⟩
 ·rcases h with(h|⟨v,h⟩)|h
  ·exact .inl (.inl (by rw[Xh (fun z=>by subst z;rw[hw] at h;exact h1 _ (V6 h))];exact h))
  ·exact .inl (.inr ⟨v,by rw[Xh (fun z=>by subst z;rw[hw] at h;exact h2 _ _ (V6 h))];exact h⟩)
  ·exact .inr h
 ·rcases h with⟨v,h⟩|h
  ·exact .inl ⟨v,by rw[Xh (fun z=>by subst z;rw[hw] at h;exact h2 _ _ (V6 h))];exact h⟩
  ·exact .inr h
 ·rw[Xh (fun z=>hb (by rw[z];exact hm))];exact h
theorem SR.chg{n:Nat}{a:Addr}{o:O}{u:HO}(r:SR K ρ S H)(ha:ρ[n]?=some a)(ho:OR K ρ (L2.upd H a u) a o):SR K ρ (S.set n o) (L2.upd H a u):=by
 refine⟨by simp[r.len],r.nd,fun m b ob h1 h2=>?_⟩
 have hn:n<S.length:=by rw[<- r.len];exact(Ve.mp ha).1
 by_cases e:m=n
 ·subst e
  rw[ha] at h1;cases h1;rw[Va4 hn] at h2;cases h2;exact ho
 ·rw[Ux (Ne.symm e)] at h2
  have q:=r.ob m b ob h1 h2;refine q.mono (Stp.chg (S:=S) (o:=o) r ha) (Xh fun z=>e ?_)
  subst z;obtain⟨h3,e3⟩:=Ve.mp h1;obtain⟨h4,e4⟩:=Ve.mp ha;exact(List.getElem_inj r.nd).mp (e3.trans e4.symm)
end
section
variable{K:Vf}{ρ ρ':List Addr}{H H':Hp}{S S':Sto}
theorem Mon.own{D:Addr}{u:HO}{vs:List V}(hd:H D=some (.lst vs)):Mon K ρ ρ H (L2.upd H D u) where
 pre:=fun _ _ h=>h
 tup:=fun a xs h=>by
  rcases h with(h|⟨v,h⟩)|h
  ·exact .inl (.inl (by rw[Xh (fun z=>by subst z;rw[hd] at h;cases h)];exact h))
  ·exact .inl (.inr ⟨v,by rw[Xh (fun z=>by subst z;rw[hd] at h;cases h)];exact h⟩)
  ·exact .inr h
 fro:=fun a xs h=>by
  rcases h with⟨v,h⟩|h
  ·exact .inl ⟨v,by rw[Xh (fun z=>by subst z;rw[hd] at h;cases h)];exact h⟩
  ·exact .inr h
theorem SR.own{D:Addr}{u:HO}{vs:List V}(r:SR K ρ S H)(hd:H D=some (.lst vs))(hn:D ∉ ρ):SR K ρ S (L2.upd H D u) :=
 ⟨r.len,r.nd,fun n a ob h1 h2=>(r.ob n a ob h1 h2).mono' (Mon.own hd) (Xh fun z=>hn (by rw[<- z];exact U4 h1))⟩
theorem Stp.own{D:Addr}{u:HO}{vs:List V}{ρ0:List Addr}(x:Stp K ρ0 ρ H0 H)(h0:H0 D=none)(hd:H D=some (.lst vs)):Stp K ρ0 ρ H0 (L2.upd H D u) where
 pre:=x.pre
 tup:=fun a xs h=>(Mon.own (ρ:=ρ) hd).tup a xs (x.tup a xs h)
 fro:=fun a xs h=>(Mon.own (ρ:=ρ) hd).fro a xs (x.fro a xs h)
 new:=x.new
 keep:=fun a o h hn=>by rw[Xh (Xn h h0)];exact x.keep a o h hn
end
structure ER(K:Vf)(ρ:List Addr)(H:Hp)(env:En)(σ:L2.St):Prop where
 len:env.length=σ.length
 val:∀ (i:Nat) d,env[i]?=some (some d)->∃ v,σ[i]?=some (some v)/\RD K ρ H d v
theorem ER.mono{K:Vf}{ρ ρ':List Addr}{H H':Hp}{env:En}{σ:L2.St}(r:ER K ρ H env σ)(x:Stp K ρ ρ' H H'):ER K ρ' H' env σ :=
 ⟨r.len,fun i d e=>let ⟨v,h1,h2⟩:=r.val i d e;⟨v,h1,h2.mono x⟩⟩
theorem ER.mono'{K:Vf}{ρ ρ':List Addr}{H H':Hp}{env:En}{σ:L2.St}(r:ER K ρ H env σ)(x:Mon K ρ ρ' H H'):ER K ρ' H' env σ :=
 ⟨r.len,fun i d e=>let ⟨v,h1,h2⟩:=r.val i d e;⟨v,h1,RD.mono' x d v h2⟩⟩
theorem ER.set{K:Vf}{ρ:List Addr}{H:Hp}{env:En}{σ:L2.St}(r:ER K ρ H env σ)(i:Nat){d:D}{v:V}(h:RD K ρ H d v):ER K ρ H (env.set i (some d)) (σ.set i (some v)) :=
 ⟨by simp[r.len],fun j e h1=>by
  by_cases z:j=i
  ·subst z
   have hj:j<env.length:=by
    have:=(Ve.mp h1).1
    simpa using this
   rw[Va4 hj] at h1;cases h1;exact⟨v,by rw[Va4 (by rw[<- r.len];exact hj)],h⟩
  ·rw[Ux (Ne.symm z)] at h1
   obtain⟨v',h2,h3⟩:=r.val j e h1;exact⟨v',by rw[Ux (Ne.symm z)];exact h2,h3⟩⟩
structure S0(X:Cx)(pins:List (Addr×Obj))(σ:L2.St)(H:Hp)(s:Shared)(ρ:List Addr)(S:Sto)(env:En):Prop where
 inv:Inv X pins σ H s
 sr:SR X.K ρ S H
 er:ER X.K ρ H env σ
theorem S0.step(I:S0 X pins σ H s ρ S env)(J:Inv X pins σ H' s')(r:SR X.K ρ' S' H')(x:Stp X.K ρ ρ' H H') :
  S0 X pins σ H' s' ρ' S' env:=⟨J,r,I.er.mono x⟩
def EPd(X:Cx)(pins:List (Addr×Obj))(σ:L2.St)(ρ:List Addr)(H:Hp)(d:D)(S':Sto)(u:Value)(s':Shared):Prop :=
 ∃ v H' ρ',Inv X pins σ H' s'/\RelV v u/\RD X.K ρ' H' d v/\SR X.K ρ' S' H'/\Stp X.K ρ ρ' H H'
def Trc(ok:Addr->Prop)(H':Hp)(a:Addr)(h:Heap):Prop :=
 ∃ oe vs T oT ts,h.get? a=some oe/\oe.data=.fields vs/\vs[1]?=some (.ref T)/\ok T/\T≠a/\H' T=none/\h.get? T=some oT/\oT.data=.fields ts/\ts[3]?=some .none
theorem Trc.imp(x:Trc ok H' a h)(k:∀ T,ok T->ok' T):Trc ok' H' a h:=by
 obtain⟨oe,vs,T,oT,ts,h1,h2,h3,h4,r⟩:=x;exact⟨oe,vs,T,oT,ts,h1,h2,h3,k T h4,r⟩
def Fly(X:Cx)(pins:List (Addr×Obj))(H':Hp)(a:Addr)(h:Heap):Prop :=
 (∃ oe vs,h.get? a=some oe/\oe.data=.fields vs/\vs[1]?=some .none)\/Trc (fun T=>(T∈X.ex\/X.s₀.heap.get? T=none)/\∀ p∈X.pn++pins,p.1≠T) H' a h
def XPd(X:Cx)(pins:List (Addr×Obj))(σ:L2.St)(ρ:List Addr)(H:Hp)(n:Nat)(S':Sto)(e:Value)(s':Shared):Prop :=
 ∃ H' ρ' a c,Inv X pins σ H' s'/\e=.ref a/\ρ'[n]?=some a/\S'[n]?=some (.exc c)/\SR X.K ρ' S' H'/\Stp X.K ρ ρ' H H'/\Fly X pins H' a s'.heap
def OkP(X:Cx)(pins:List (Addr×Obj))(σ:L2.St)(ρ:List Addr)(H:Hp)(r:R D)(u:Value)(s':Shared):Prop:=∃ d S',r=.ok d S'/\EPd X pins σ ρ H d S' u s'
def ExP(X:Cx)(pins:List (Addr×Obj))(σ:L2.St)(ρ:List Addr)(H:Hp){α:Type}(r:R α)(e:Value)(s':Shared):Prop:=∃ n S',r=.ex n S'/\XPd X pins σ ρ H n S' e s'
def DE(X:Cx)(e:Expr)(f:En->Sto->R D):Prop :=
 ∀ (pins:List (Addr×Obj)) (s:Shared) (σ:L2.St) (H:Hp) (ρ:List Addr) (S:Sto) (env:En),S0 X pins σ H s ρ S env->f env S≠.bad ->
  wpAny (model X.prog X.w) X.A (eval e X.env) (OkP X pins σ ρ H (f env S)) (ExP X pins σ ρ H (f env S)) s
def DT(X:Cx)(e:Expr)(f:En->Sto->R Bool):Prop :=
 ∀ (pins:List (Addr×Obj)) (s:Shared) (σ:L2.St) (H:Hp) (ρ:List Addr) (S:Sto) (env:En),S0 X pins σ H s ρ S env->f env S≠.bad ->
  wpAny (model X.prog X.w) X.A (isTrue e X.env (eval e X.env)) (fun b s'=>∃ S',f env S=.ok b S'/\∃ H' ρ',Inv X pins σ H' s'/\SR X.K ρ' S' H'/\Stp X.K ρ ρ' H H') (ExP X pins σ ρ H (f env S)) s
section
variable{X:Cx}{pins:List (Addr×Obj)}{σ:L2.St}{H:Hp}{s:Shared}{ρ:List Addr}{S S':Sto}{env:En}{e:Expr}{f:En->Sto->R D}{g:En->Sto->R Bool}{Q:Value->Shared->Prop}{E:Value->Shared->Prop}
theorem DE.ok(h:DE X e f)(I:S0 X pins σ H s ρ S env)(r:f env S=.ok d S')(hQ:∀ u s' v H' ρ',S0 X pins σ H' s' ρ' S' env->RelV v u->RD X.K ρ' H' d v->Stp X.K ρ ρ' H H'->Q u s') :
  wpAny (model X.prog X.w) X.A (eval e X.env) Q E s:=by
 have nb:f env S≠.bad:=by rw[r];exact fun z=>nomatch z
 refine Vj (h pins s σ H ρ S env I nb) (fun u s' q=>?_) fun x s' q=>?_
 ·obtain⟨d',S1,e1,v,H',ρ',J,rv,rd,sr,st⟩:=q
  rw[r] at e1;cases e1;exact hQ u s' v H' ρ' (I.step J sr st) rv rd st
 ·obtain⟨n,S1,e1,_⟩:=q
  rw[r] at e1;cases e1
theorem DE.ex(h:DE X e f)(I:S0 X pins σ H s ρ S env)(r:f env S=.ex n S')(hE:∀ x s',XPd X pins σ ρ H n S' x s'->E x s') :
  wpAny (model X.prog X.w) X.A (eval e X.env) Q E s:=by
 have nb:f env S≠.bad:=by rw[r];exact fun z=>nomatch z
 refine Vj (h pins s σ H ρ S env I nb) (fun u s' q=>?_) fun x s' q=>?_
 ·obtain⟨d',S1,e1,_⟩:=q
  rw[r] at e1;cases e1
 ·obtain⟨m,S1,e1,q⟩:=q
  rw[r] at e1;cases e1;exact hE x s' q
theorem DT.ok{Q:Bool->Shared->Prop}{b:Bool}(h:DT X e g)(I:S0 X pins σ H s ρ S env)(r:g env S=.ok b S')(hQ:∀ s' H' ρ',S0 X pins σ H' s' ρ' S' env->Stp X.K ρ ρ' H H'->Q b s') :
  wpAny (model X.prog X.w) X.A (isTrue e X.env (eval e X.env)) Q E s:=by
 have nb:g env S≠.bad:=by rw[r];exact fun z=>nomatch z
 refine Vj (h pins s σ H ρ S env I nb) (fun u s' q=>?_) fun x s' q=>?_
 ·obtain⟨S1,e1,H',ρ',J,sr,st⟩:=q
  rw[r] at e1;cases e1;exact hQ s' H' ρ' (I.step J sr st) st
 ·obtain⟨n,S1,e1,_⟩:=q
  rw[r] at e1;cases e1
theorem DT.ex{Q:Bool->Shared->Prop}{n:Nat}(h:DT X e g)(I:S0 X pins σ H s ρ S env)(r:g env S=.ex n S')(hE:∀ x s',XPd X pins σ ρ H n S' x s'->E x s') :
  wpAny (model X.prog X.w) X.A (isTrue e X.env (eval e X.env)) Q E s:=by
 have nb:g env S≠.bad:=by rw[r];exact fun z=>nomatch z
 refine Vj (h pins s σ H ρ S env I nb) (fun u s' q=>?_) fun x s' q=>?_
 ·obtain⟨S1,e1,_⟩:=q
  rw[r] at e1;cases e1
 ·obtain⟨m,S1,e1,q⟩:=q
  rw[r] at e1;cases e1;exact hE x s' q
theorem XPd.pre(st:Stp X.K ρ ρ' H H')(h:XPd X pins σ ρ' H' n S' x s'):XPd X pins σ ρ H n S' x s':=by
 obtain⟨H2,ρ2,a,c,J,e,hn,hc,sr,st2,fl⟩:=h;exact⟨H2,ρ2,a,c,J,e,hn,hc,sr,st.trans st2,fl⟩
theorem ExP.mk{α:Type}(st:Stp X.K ρ ρ' H H')(h:XPd X pins σ ρ' H' n S' x s'):ExP X pins σ ρ H (.ex n S':R α) x s':=⟨n,S',rfl,h.pre st⟩
theorem OkP.mk(st:Stp X.K ρ ρ' H H')(J:Inv X pins σ H' s')(rv:RelV v u)(rd:RD X.K ρ' H' d v)(sr:SR X.K ρ' S' H'):OkP X pins σ ρ H (.ok d S') u s' :=
 ⟨d,S',rfl,v,H',ρ',J,rv,rd,sr,st⟩
theorem OkP.pre(st:Stp X.K ρ ρ' H H')(h:OkP X pins σ ρ' H' r u s'):OkP X pins σ ρ H r u s':=by
 obtain⟨d,S1,e,v,H2,ρ2,J,rv,rd,sr,st2⟩:=h;exact⟨d,S1,e,v,H2,ρ2,J,rv,rd,sr,st.trans st2⟩
theorem ExP.pre{α:Type}{ρ':List Addr}{H':Hp}{r:R α}{x:Value}{s':Shared}(st:Stp X.K ρ ρ' H H')(h:ExP X pins σ ρ' H' r x s'):ExP X pins σ ρ H r x s':=by
 obtain⟨n,S1,e,q⟩:=h;exact⟨n,S1,e,q.pre st⟩
theorem DE.bind{α:Type}(h:DE X e f)(I:S0 X pins σ H s ρ S env){k:D->Sto->R α}(nb:(f env S).bind k≠.bad){r:R α}(hr:r=(f env S).bind k)
  (hQ:∀ d S1 u s' v H' ρ',r=k d S1->k d S1≠.bad->S0 X pins σ H' s' ρ' S1 env->RelV v u->RD X.K ρ' H' d v->Stp X.K ρ ρ' H H'->Q u s') (hE:∀ x s',ExP X pins σ ρ H r x s'->E x s') :
  wpAny (model X.prog X.w) X.A (eval e X.env) Q E s:=by
 cases q:f env S with
 | bad=>rw[q] at nb;exact absurd rfl nb
 | ex n S1 =>
  rw[q] at hr;exact h.ex I q fun x s' z=>hE x s' ⟨n,S1,hr,z⟩
 | ok d S1 =>
  rw[q] at hr nb;exact h.ok I q fun u s' v H' ρ' J rv rd st=>hQ d S1 u s' v H' ρ' hr nb J rv rd st
end
theorem Xk5:big<=Vt:=by rw[sizeLine_eq];decide
theorem Yw(h:n<=big):n<=Vt:=Vy h Xk5
noncomputable def tst(r:R D):R Bool:=r.bind fun x S=>match Xg S x with
 | some b=>.ok b S
 | none=>.bad
section
variable{X:Cx}{pins:List (Addr×Obj)}{σ:L2.St}{H:Hp}{s:Shared}{ρ:List Addr}{S S':Sto}{env:En}{e a b c:Expr}{f fa fb fc:En->Sto->R D}{Q:Value->Shared->Prop}{E:Value->Shared->Prop}{pos:Pos}
theorem opd{f:Value->Value->Sem Value}(ho:OpR (X.wish E) f r)(I:Inv X pins σ H s)(rx:RelV x v)(ry:RelV y u)(h:r x y H Q')
  (hQ:∀ w s' z H',Inv X pins σ H' s'->RelV z w->Q' z H'->Q w s'):wpAny (model X.prog X.w) X.A (f v u) Q E s :=
 thn (ho pins s σ H x y v u Q' (I.wish E) rx ry h) fun w s' ⟨z,H',J,rz,q⟩=>hQ w s' z H' J.unwish rz q
theorem ped(ho:PE (X.wish E) e t)(I:Inv X pins σ H s)(h:t σ H Q')(hQ:∀ w s' z H',Inv X pins σ H' s'->RelV z w->Q' z H'->Q w s'):wpAny (model X.prog X.w) X.A (eval e X.env) Q E s :=
 thn (ho pins s σ H Q' (I.wish E) h) fun w s' ⟨z,H',J,rz,q⟩=>hQ w s' z H' J.unwish rz q
theorem Xdu{f:Value}{r:List V->Hp->VK->Prop}{xs:List V}{us:List Value}{Q':VK}(ho:Xdt (X.wish E) f r)(I:Inv X pins σ H s)(rx:Vals xs us)(h:r xs H Q')
  (hQ:∀ w s' z H',Inv X pins σ H' s'->RelV z w->Q' z H'->Q w s'):wpAny (model X.prog X.w) X.A (call f us) Q E s :=
 thn (ho pins s σ H xs us Q' (I.wish E) rx h) fun w s' ⟨z,H',J,rz,q⟩=>hQ w s' z H' J.unwish rz q
theorem mtd{id:String}{r:V->List V->Hp->VK->Prop}{x:V}{xs:List V}{v:Value}{us:List Value}{Q':VK}(ho:MtM (X.wish E) id r)(I:Inv X pins σ H s)(rx:RelV x v)(rs:Vals xs us)(h:r x xs H Q')
  (hQ:∀ w s' z H',Inv X pins σ H' s'->RelV z w->Q' z H'->Q w s'):wpAny (model X.prog X.w) X.A (call (.builtin id) (v::us)) Q E s :=
 thn (ho pins s σ H x xs v us Q' (I.wish E) rx rs h) fun w s' ⟨z,H',J,rz,q⟩=>hQ w s' z H' J.unwish rz q
theorem S0.list(I:S0 X pins σ H s ρ S env)(h:Xc S n=some xs):∃ a vs,ρ[n]?=some a/\H a=some (.lst vs)/\RDs X.K ρ H xs vs:=by
 unfold Xc at h;cases e:S[n]? with
 | none=>rw[e] at h;cases h
 | some o =>
  rw[e] at h;cases o with
  | lst ys =>
   cases h;obtain⟨a,ha,vs,hv,hr⟩:=I.sr.adr e;exact⟨a,vs,ha,hv,hr⟩
  | set _=>cases h
  | dct _=>cases h
  | exc _=>cases h
theorem S0.seq(I:S0 X pins σ H s ρ S env)(h:Xq S d=some xs)(r:RD X.K ρ H d v):∃ a vs,v=.ref a/\(SqL X.K H a vs\/SqT X.K H a vs)/\RDs X.K ρ H xs vs:=by
 cases d with
 | tup ys =>
  simp only[Xq,Vi] at h;subst h;simp only[RD] at r;obtain⟨a,vs,e,h1,h2⟩:=r;exact⟨a,vs,e,.inr h1,h2⟩
 | fro ys =>
  simp only[Xq,Vi] at h;subst h;simp only[RD] at r;obtain⟨a,vs,e,h1,h2⟩:=r;exact⟨a,vs,e,.inl h1.sq,h2⟩
 | ref n =>
  simp only[RD] at r;obtain⟨a,e,h1⟩:=r;obtain⟨a',vs,h2,h3,h4⟩:=I.list (xs:=xs) (n:=n) h;rw[h1] at h2;cases h2;exact⟨a,vs,e,.inl (.of h3),h4⟩
 | non=>cases h
 | bl _=>cases h
 | int _=>cases h
 | str _=>cases h
 | fn _ _=>cases h
theorem Xbj(h:RDs X.K ρ H ds vs):(!vs.isEmpty) = !ds.isEmpty:=by
 have:=h.length;cases ds<;>cases vs<;>simp_all
theorem Xkd(I:S0 X pins σ H s ρ S env){k:Bool}{Q:Bool->Shared->Prop}(h:Xg S d=some k)(rd:RD X.K ρ H d v)(rv:RelV v u)(hQ:∀ s',Inv X pins σ H s'->Q k s') :
  wpAny (model X.prog X.w) X.A (truthy u) Q E s:=by
 have key:X1q X.K v H k:=by
  cases d with
  | non=>simp only[RD] at rd;subst rd;simp only[Xg,Vi] at h;exact h.symm
  | bl b=>simp only[RD] at rd;subst rd;simp only[Xg,Vi] at h;exact h.symm
  | int i=>simp only[RD] at rd;subst rd;simp only[Xg,Vi] at h;exact h.symm
  | str x =>
   simp only[RD] at rd;subst rd;simp only[Xg] at h;split at h
   ·rename_i hb
    exact⟨Yw hb,(V6 h).symm⟩
   ·cases h
  | fn _ _=>cases h
  | tup xs =>
   simp only[Xg,Vi] at h;obtain⟨a,vs,e,h1,h2⟩:=I.seq (d:=.tup xs) rfl rd;subst e;rcases h1 with h1|h1
   ·exact .inl ⟨vs,h1,by rw[Xbj h2];exact h.symm⟩
   ·exact .inr (.inl ⟨vs,h1,by rw[Xbj h2];exact h.symm⟩)
  | fro xs =>
   simp only[Xg,Vi] at h;obtain⟨a,vs,e,h1,h2⟩:=I.seq (d:=.fro xs) rfl rd;subst e;rcases h1 with h1|h1
   ·exact .inl ⟨vs,h1,by rw[Xbj h2];exact h.symm⟩
   ·exact .inr (.inl ⟨vs,h1,by rw[Xbj h2];exact h.symm⟩)
  | ref n =>
   simp only[Xg] at h;cases e:S[n]? with
   | none=>rw[e] at h;cases h
   | some o =>
    rw[e] at h;cases o with
    | lst ys =>
     obtain⟨a,vs,h1,h2,h3⟩:=I.list (n:=n) (xs:=ys) (by unfold Xc;rw[e])
     simp only[RD] at rd;obtain⟨a',e',h1'⟩:=rd;rw[h1] at h1';cases h1';subst e';exact .inl ⟨vs,.of h2,by rw[Xbj h3];exact(V6 h).symm⟩
    | set _=>cases h
    | dct _=>cases h
    | exc _=>cases h
 exact thn (X1r (X:=X.wish E) pins s σ H v u (fun k' H'=>k'=k/\H'=H) (I.inv.wish E) rv ⟨k,key,rfl,rfl⟩) fun b s' ⟨H',J,e1,e2⟩=>by subst e1 e2;exact hQ s' J.unwish
theorem DT.of(h:DE X e f)(he:∀ whole,isTrue e X.env whole=(do let v <- whole;standAt e.pos;holding [v] (truthy v))):DT X e (fun env S=>tst (f env S)):=by
 intro pins s σ H ρ S env I nb;dsimp only at nb ⊢;cases q:f env S with
 | bad=>rw[q] at nb;exact absurd rfl nb
 | ex n S1=>exact isTrue_plain (h.ex I q fun x s' z=>⟨n,S1,rfl,z⟩) (he _)
 | ok d S1 =>
  rw[q] at nb;cases t:Xg S1 d with
  | none=>simp[tst,t] at nb
  | some k =>
   refine isTrue_plain (h.ok I q fun u s' v H' ρ' J rv rd st=>?_) (he _)
   exact Xkd J t rd rv fun s2 J2=>⟨S1,by simp[tst,t],H',ρ',J2,J.sr,st⟩
theorem X5r {i:Nat} (hN:X.N[i]?=some x) (hv:Vis X.env.scope x) (hd:(x==("__debug__" : Str))=false) (hcd:(x==("__classdict__" : Str))=false) :
  DE X (.Name x pos) (fun env S=>match env[i]? with|some (some d)=>.ok d S|_=>.bad):=by
 intro pins s σ H ρ S env I nb;dsimp only at nb ⊢;cases q:env[i]? with
 | none=>rw[q] at nb;exact absurd rfl nb
 | some o =>
  cases o with
  | none=>rw[q] at nb;exact absurd rfl nb
  | some d =>
   obtain⟨v,h1,h2⟩:=I.er.val i d q;exact ped (Q':=fun z H'=>z=v/\H'=H) (X1l hN hv hd hcd) I.inv ⟨v,h1,rfl,rfl⟩ fun u s' z H' J rz ⟨e1,e2⟩=>by
    subst e1 e2;exact .mk .refl J rz h2 I.sr
theorem d_int:DE X (.Constant (.int i) j pos) (fun _ S=>.ok (.int i) S):=fun pins s σ H ρ S env I _ =>
 ped (Q':=fun z H'=>z=.int i/\H'=H) X1m I.inv ⟨rfl,rfl⟩ fun u s' z H' J rz ⟨e1,e2⟩=>by
  subst e1 e2;exact .mk .refl J rz (by simp only[RD]) I.sr
theorem d_bl:DE X (.Constant (.bool i) j pos) (fun _ S=>.ok (.bl i) S):=fun pins s σ H ρ S env I _ =>
 ped (Q':=fun z H'=>z=.bl i/\H'=H) X5o I.inv ⟨rfl,rfl⟩ fun u s' z H' J rz ⟨e1,e2⟩=>by
  subst e1 e2;exact .mk .refl J rz (by simp only[RD]) I.sr
theorem d_non:DE X (.Constant .none j pos) (fun _ S=>.ok .non S):=fun pins s σ H ρ S env I _ =>
 ped (Q':=fun z H'=>z=.non/\H'=H) X1n I.inv ⟨rfl,rfl⟩ fun u s' z H' J rz ⟨e1,e2⟩=>by
  subst e1 e2;exact .mk .refl J rz (by simp only[RD]) I.sr
theorem d_str:DE X (.Constant (.str i) j pos) (fun _ S=>.ok (.str i) S):=fun pins s σ H ρ S env I _ =>
 ped (Q':=fun z H'=>z=.str i/\H'=H) X1o I.inv ⟨rfl,rfl⟩ fun u s' z H' J rz ⟨e1,e2⟩=>by
  subst e1 e2;exact .mk .refl J rz (by simp only[RD]) I.sr
def DA(X:Cx)(es:List Expr)(f:En->Sto->R (List D)):Prop :=
 ∀ (pos:Pos) (pins:List (Addr×Obj)) (s:Shared) (σ:L2.St) (H:Hp) (ρ:List Addr) (S:Sto) (env:En),S0 X pins σ H s ρ S env->f env S≠.bad ->
  wpAny (model X.prog X.w) X.A (spliced (backTo pos (Vx es X.env)))
   (fun us s'=>∃ ds S' vs H' ρ',f env S=.ok ds S'/\Inv X pins σ H' s'/\Vals vs us/\RDs X.K ρ' H' ds vs/\SR X.K ρ' S' H'/\Stp X.K ρ ρ' H H') (ExP X pins σ ρ H (f env S)) s
theorem DA.ok{es:List Expr}{g:En->Sto->R (List D)}{Q:List Value->Shared->Prop}{ds:List D}(h:DA X es g)(I:S0 X pins σ H s ρ S env)(r:g env S=.ok ds S')
  (hQ:∀ us s' vs H' ρ',S0 X pins σ H' s' ρ' S' env->Vals vs us->RDs X.K ρ' H' ds vs->Stp X.K ρ ρ' H H'->Q us s') :
  wpAny (model X.prog X.w) X.A (spliced (backTo pos (Vx es X.env))) Q E s:=by
 have nb:g env S≠.bad:=by rw[r];exact fun z=>nomatch z
 refine Vj (h pos pins s σ H ρ S env I nb) (fun u s' q=>?_) fun x s' q=>?_
 ·obtain⟨d',S1,vs,H',ρ',e1,J,rv,rd,sr,st⟩:=q
  rw[r] at e1;cases e1;exact hQ u s' vs H' ρ' (I.step J sr st) rv rd st
 ·obtain⟨n,S1,e1,_⟩:=q
  rw[r] at e1;cases e1
theorem DA.ex{es:List Expr}{g:En->Sto->R (List D)}{Q:List Value->Shared->Prop}{n:Nat}(h:DA X es g)(I:S0 X pins σ H s ρ S env)(r:g env S=.ex n S')(hE:∀ x s',XPd X pins σ ρ H n S' x s'->E x s') :
  wpAny (model X.prog X.w) X.A (spliced (backTo pos (Vx es X.env))) Q E s:=by
 have nb:g env S≠.bad:=by rw[r];exact fun z=>nomatch z
 refine Vj (h pos pins s σ H ρ S env I nb) (fun u s' q=>?_) fun x s' q=>?_
 ·obtain⟨d',S1,_,_,_,e1,_⟩:=q
  rw[r] at e1;cases e1
 ·obtain⟨m,S1,e1,q⟩:=q
  rw[r] at e1;cases e1;exact hE x s' q
theorem X1z:DA X [] (fun _ S=>.ok [] S):=fun _ pins s σ H ρ S env I _=>Vax ⟨[],S,[],H,ρ,rfl,I.inv,.nil,.nil,I.sr,.refl⟩
theorem Xx9{es:List Expr}{g:En->Sto->R (List D)}(ha:DE X a fa)(hr:DA X es g)(hs:Vx (a::es) X.env=(false,eval a X.env)::Vx es X.env) :
  DA X (a::es) (fun env S=>(fa env S).bind fun x S=>(g env S).bind fun xs S=>.ok (x::xs) S):=by
 intro pos pins s σ H ρ S env I nb;dsimp only at nb ⊢;rw[hs];show wpAny _ _ (spliced ((false,eval a X.env)::backTo pos (Vx es X.env))) _ _ s;cases q:fa env S with
 | bad=>rw[q] at nb;exact absurd rfl nb
 | ex n S1=>exact Ut (ha.ex I q fun x s' z=>⟨n,S1,rfl,z⟩)
 | ok d S1 =>
  rw[q] at nb;simp only[Rk0] at nb ⊢;refine Ut (ha.ok I q fun u s1 v H1 ρ1 I1 rv rd st1=>?_)
  cases q2:g env S1 with
  | bad=>rw[q2] at nb;exact absurd rfl nb
  | ex n S2=>exact hr.ex I1 q2 fun x s' z=>.mk st1 z
  | ok ds S2 =>
   refine hr.ok I1 q2 fun us s2 vs H2 ρ2 I2 rvs rds st2=>?_
   exact⟨d::ds,S2,v::vs,H2,ρ2,rfl,I2.inv,.cons rv rvs,.cons (rd.mono st2) rds,I2.sr,st1.trans st2⟩
theorem Xcd(J:Inv X pins σ (upd H p (.tup vs)) s')(hp:H p=none)(sr:SR X.K ρ S H)(rd:RDs X.K ρ H xs vs):OkP X pins σ ρ H (.ok (.tup xs) S) (.ref p) s':=by
 refine .mk (v:=.ref p) (Stp.upd hp) J rfl ?_ (sr.upd hp);simp only[RD];exact⟨p,vs,rfl,.of Xz,RDs.mono (Stp.upd hp) xs vs rd⟩
theorem Xbr(J:Inv X pins σ (upd H p (.lst vs)) s')(hp:H p=none)(sr:SR X.K ρ S H)(rd:RDs X.K ρ H xs vs):OkP X pins σ ρ H (.ok (.ref S.length) (S++[.lst xs])) (.ref p) s':=by
 refine .mk (v:=.ref p) (ρ':=ρ++[p]) (Stp.new1 hp) J rfl ?_ (sr.new1 hp ⟨vs,Xz,RDs.mono (Stp.new1 hp) xs vs rd⟩);simp only[RD];exact⟨p,rfl,by rw[<- sr.len];simp⟩
theorem X5s{es:List Expr}{x1:Nat}{g:En->Sto->R (List D)}(h:DA X es g):DE X (.Tuple es x1 pos) (fun env S=>(g env S).bind fun xs S=>if xs.length<=big then .ok (.tup xs) S else .bad):=by
 intro pins s σ H ρ S env I nb;dsimp only at nb ⊢;cases q:g env S with
 | bad=>rw[q] at nb;exact absurd rfl nb
 | ex n S1=>exact Vet (h.ex I q fun x s' z=>⟨n,S1,rfl,z⟩)
 | ok ds S1 =>
  rw[q] at nb;simp only[Rk0] at nb ⊢;split at nb
  ·rename_i hz
   rw[if_pos hz];refine Vet (h.ok I q fun us s1 vs H1 ρ1 I1 rv rd st1=>⟨by rw[<- rv.length,<- rd.length];exact Yw hz,?_⟩)
   have hf:H1 s1.heap.objs.size=none:=I1.inv.hok.fresh (Vh _);refine OkP.pre st1 (Xcd (I1.inv.laid (t':=s1.toks) (fun b u e=>Vb _ e) (Vh _) ?_) hf I1.sr rd)
   exact⟨by rw[<- rd.length];exact Yw hz,us,rv,⟨_,Vk _ rfl,rfl,_,rfl⟩⟩
  ·exact absurd rfl nb
theorem X5t{es:List Expr}{g:En->Sto->R (List D)}(h:DA X es g):DE X (.List es pos) (fun env S=>(g env S).bind fun xs S=>if xs.length<=big then .ok (.ref S.length) (S++[.lst xs]) else .bad):=by
 intro pins s σ H ρ S env I nb;dsimp only at nb ⊢;cases q:g env S with
 | bad=>rw[q] at nb;exact absurd rfl nb
 | ex n S1=>exact wpAny_List_spliced (h.ex I q fun x s' z=>⟨n,S1,rfl,z⟩)
 | ok ds S1 =>
  rw[q] at nb;simp only[Rk0] at nb ⊢;split at nb
  ·rename_i hz
   rw[if_pos hz];refine wpAny_List_spliced (h.ok I q fun us s1 vs H1 ρ1 I1 rv rd st1=>⟨by rw[<- rv.length,<- rd.length];exact Yw hz,?_⟩)
   have hf:H1 s1.heap.objs.size=none:=I1.inv.hok.fresh (Vh _);refine OkP.pre st1 (Xbr (I1.inv.laid (t':=s1.toks) (fun b u e=>Vb _ e) (Vh _) ?_) hf I1.sr rd)
   exact⟨by rw[<- rd.length];exact Yw hz,us,0,rv,Vk _ rfl⟩
  ·exact absurd rfl nb
def Op2(X:Cx)(m:Value->Value->Sem Value)(k:D->D->Sto->R D):Prop :=
 ∀ (pins:List (Addr×Obj)) (s:Shared) (σ:L2.St) (H:Hp) (ρ:List Addr) (S:Sto) (env:En) (x y:D) (v u:V) (v' u':Value) (E:Value->Shared->Prop),S0 X pins σ H s ρ S env->k x y S≠.bad ->
  RD X.K ρ H x v->RelV v v'->RD X.K ρ H y u->RelV u u'->wpAny (model X.prog X.w) X.A (m v' u') (OkP X pins σ ρ H (k x y S)) E s
theorem two(ho:Op2 X m k)(ha:DE X a fa)(hb:DE X b fb)(I:S0 X pins σ H s ρ S env)
  (nb:(fa env S).bind (fun x S=>(fb env S).bind fun y S=>k x y S)≠.bad) :
  wpAny (model X.prog X.w) X.A (eval a X.env) (fun v s₁=>wpAny (model X.prog X.w) X.A (eval b X.env) (fun u s₂=>wpAny (model X.prog X.w) X.A (m v u)
   (OkP X pins σ ρ H ((fa env S).bind fun x S=>(fb env S).bind fun y S=>k x y S)) (ExP X pins σ ρ H ((fa env S).bind fun x S=>(fb env S).bind fun y S=>k x y S)) s₂)
   (ExP X pins σ ρ H ((fa env S).bind fun x S=>(fb env S).bind fun y S=>k x y S)) s₁) (ExP X pins σ ρ H ((fa env S).bind fun x S=>(fb env S).bind fun y S=>k x y S)) s:=by
 cases q:fa env S with
 | bad=>rw[q] at nb;exact absurd rfl nb
 | ex n S1=>exact ha.ex I q fun x s' z=>⟨n,S1,rfl,z⟩
 | ok x S1 =>
  rw[q] at nb;simp only[Rk0] at nb ⊢;refine ha.ok I q fun v' s1 v H1 ρ1 I1 rv rd st1=>?_
  cases q2:fb env S1 with
  | bad=>rw[q2] at nb;exact absurd rfl nb
  | ex n S2=>exact hb.ex I1 q2 fun x s' z=>.mk st1 z
  | ok y S2 =>
   rw[q2] at nb;simp only[Rk0] at nb ⊢;refine hb.ok I1 q2 fun u' s2 u H2 ρ2 I2 ru rdu st2=>?_
   exact Vj (ho pins s2 σ H2 ρ2 S2 env x y v u v' u' (fun _ _=>False) I2 nb (rd.mono st2) rv rdu ru) (fun w s3 z=>z.pre (st1.trans st2)) fun _ _ z=>z.elim
noncomputable def opB:Bo->Operator
 | .add=>.Add | .sub=>.Sub | .mul=>.Mult | .fdiv=>.FloorDiv | .mod=>.Mod | .pow=>.Pow
theorem X5u(ho:Op2 X (Vbm (opB op)) (Xs op))(ha:DE X a fa)(hb:DE X b fb):DE X (.BinOp a (opB op) b pos) (fun env S=>(fa env S).bind fun x S=>(fb env S).bind fun y S=>Xs op x y S) :=
 fun pins s σ H ρ S env I nb=>wpAny_BinOp (two ho ha hb I nb)
noncomputable def opC:Co->CmpOp
 | .eq=>.Eq | .ne=>.NotEq | .lt=>.Lt | .le=>.LtE | .gt=>.Gt | .ge=>.GtE | .isin=>.In | .notin=>.NotIn | .is=>.Is | .isnot=>.IsNot
theorem X5v(ho:Op2 X (Vaa (opC op)) (Xj op))(ha:DE X a fa)(hb:DE X b fb)(hm:behindInMarks (opC op) b=false) :
  DE X (.Compare a [opC op] [b] pos) (fun env S=>(fa env S).bind fun x S=>(fb env S).bind fun y S=>Xj op x y S) :=
 fun pins s σ H ρ S env I nb=>wpAny_Compare1 (two ho ha hb I nb) hm
theorem Xce(h:Xj op x y S≠.bad):∃ r,X0 op x y S=some r/\Xj op x y S=.ok (.bl r) S:=by
 unfold Xj at h ⊢;cases e:X0 op x y S with
 | none=>rw[e] at h;exact absurd rfl h
 | some r=>exact⟨r,rfl,rfl⟩
theorem Xbk(h:Xg S d=some r):tst (.ok d S)=.ok r S:=by simp[tst,h]
theorem X10(ho:Op2 X (Vaa (opC op)) (Xj op))(ha:DE X a fa)(hb:DE X b fb)(hm:behindInMarks (opC op) b=false) :
  DT X (.Compare a [opC op] [b] pos) (fun env S=>tst ((fa env S).bind fun x S=>(fb env S).bind fun y S=>Xj op x y S)):=by
 intro pins s σ H ρ S env I nb;dsimp only at nb ⊢;have nb':((fa env S).bind fun x S=>(fb env S).bind fun y S=>Xj op x y S)≠.bad:=fun z=>nb (by rw[z];rfl)
 refine wpAny_isTrue_Compare1 (Vj (two ho ha hb I nb') (fun v s1 h1=>Vj h1 (fun u s2 h2=>Vj h2 (fun w s3 h3=>?_) fun x s' z=>?_) fun x s' z=>?_) fun x s' z=>?_) hm
 ·obtain⟨d,S1,e,v1,H1,ρ1,J,rv,rd,sr,st⟩:=h3
  have hb':∃ r,d=.bl r:=by
   cases q:fa env S with
   | bad=>rw[q] at e;cases e
   | ex n S1=>rw[q] at e;cases e
   | ok x S1 =>
    rw[q] at e;simp only[Rk0] at e;cases q2:fb env S1 with
    | bad=>rw[q2] at e;cases e
    | ex n S1=>rw[q2] at e;cases e
    | ok y S2 =>
     rw[q2] at e;simp only[Rk0] at e;obtain⟨r,_,e2⟩:=Xce (op:=op) (x:=x) (y:=y) (S:=S2) (by rw[e];exact fun z=>nomatch z)
     rw[e2] at e;cases e;exact⟨r,rfl⟩
  obtain⟨r,rfl⟩:=hb';simp only[RD] at rd;subst rd;cases rv;exact Vb6 ⟨S1,by rw[e];rfl,H1,ρ1,J,sr,st⟩
 all_goals (obtain⟨n,S1,e,q⟩:=z;exact⟨n,S1,by rw[e];rfl,q⟩)
theorem Xxf{Xam:List Expr}(ha:DE X a fa)(hb:DE X (.BoolOp .And (b::Xam) pos) fb):DE X (.BoolOp .And (a::b::Xam) pos)
  (fun env S=>(fa env S).bind fun x S=>match Xg S x with|some true=>fb env S|some false=>.ok x S|none=>.bad):=by
 intro pins s σ H ρ S env I nb;dsimp only at nb ⊢;cases q:fa env S with
 | bad=>rw[q] at nb;exact absurd rfl nb
 | ex n S1=>exact BoolOp_and (ha.ex I q fun x s' z=>⟨n,S1,rfl,z⟩)
 | ok x S1 =>
  rw[q] at nb;simp only[Rk0] at nb ⊢;refine BoolOp_and (ha.ok I q fun u s1 v H1 ρ1 I1 rv rd st1=>?_)
  cases t:Xg S1 x with
  | none=>rw[t] at nb;exact absurd rfl nb
  | some r =>
   rw[t] at nb;refine Xkd I1 t rd rv fun s2 J2=>?_
   cases r with
   | true=>exact Vj (hb pins s2 σ H1 ρ1 S1 env ⟨J2,I1.sr,I1.er⟩ nb) (fun w s3 z=>z.pre st1) fun x s' z=>z.pre st1
   | false=>exact .mk st1 J2 rv rd I1.sr
theorem X11{Xam:List Expr}(ha:DE X a fa)(hb:DE X (.BoolOp .Or (b::Xam) pos) fb):DE X (.BoolOp .Or (a::b::Xam) pos)
  (fun env S=>(fa env S).bind fun x S=>match Xg S x with|some true=>.ok x S|some false=>fb env S|none=>.bad):=by
 intro pins s σ H ρ S env I nb;dsimp only at nb ⊢;cases q:fa env S with
 | bad=>rw[q] at nb;exact absurd rfl nb
 | ex n S1=>exact BoolOp_or (ha.ex I q fun x s' z=>⟨n,S1,rfl,z⟩)
 | ok x S1 =>
  rw[q] at nb;simp only[Rk0] at nb ⊢;refine BoolOp_or (ha.ok I q fun u s1 v H1 ρ1 I1 rv rd st1=>?_)
  cases t:Xg S1 x with
  | none=>rw[t] at nb;exact absurd rfl nb
  | some r =>
   rw[t] at nb;refine Xkd I1 t rd rv fun s2 J2=>?_
   cases r with
   | false=>exact Vj (hb pins s2 σ H1 ρ1 S1 env ⟨J2,I1.sr,I1.er⟩ nb) (fun w s3 z=>z.pre st1) fun x s' z=>z.pre st1
   | true=>exact .mk st1 J2 rv rd I1.sr
theorem Xxg(h:DE X a f):DE X (.BoolOp op [a] pos) f:=fun pins s σ H ρ S env I nb=>BoolOp_one (h pins s σ H ρ S env I nb)
theorem X5w(ha:DT X a (fun env S=>tst (fa env S)))(hv:DE X a fa):DE X (.UnaryOp .Not a pos) (fun env S=>(fa env S).bind fun x S=>match Xg S x with|some r=>.ok (.bl (!r)) S|none=>.bad):=by
 intro pins s σ H ρ S env I nb;dsimp only at nb ⊢;cases q:fa env S with
 | bad=>rw[q] at nb;exact absurd rfl nb
 | ex n S1=>exact UnaryOp_ (hv.ex I q fun x s' z=>⟨n,S1,rfl,z⟩)
 | ok x S1 =>
  rw[q] at nb;simp only[Rk0] at nb ⊢;refine UnaryOp_ (hv.ok I q fun u s1 v H1 ρ1 I1 rv rd st1=>?_)
  cases t:Xg S1 x with
  | none=>rw[t] at nb;exact absurd rfl nb
  | some r=>exact not_of (Xkd I1 t rd rv fun s2 J2=>.mk (v:=.bl (!r)) st1 J2 rfl (by simp only[RD]) I1.sr)
theorem X12(ha:DT X a (fun env S=>tst (fa env S))):DT X (.UnaryOp .Not a pos) (fun env S=>tst ((fa env S).bind fun x S=>match Xg S x with|some r=>.ok (.bl (!r)) S|none=>.bad)):=by
 intro pins s σ H ρ S env I nb;dsimp only at nb ⊢;cases q:fa env S with
 | bad=>rw[q] at nb;exact absurd rfl nb
 | ex n S1=>exact isTrue_not (ha.ex I (by simp only[q];rfl) fun x s' z=>⟨n,S1,rfl,z⟩)
 | ok x S1 =>
  rw[q] at nb;simp only[Rk0] at nb ⊢;cases t:Xg S1 x with
  | none=>rw[t] at nb;exact absurd rfl nb
  | some r=>exact isTrue_not (ha.ok I (by simp only[q];exact Xbk t) fun s2 H2 ρ2 I2 st2=>⟨S1,rfl,H2,ρ2,I2.inv,I2.sr,st2⟩)
theorem X5x(hc:DT X c (fun env S=>tst (fc env S)))(ha:DE X a fa)(hb:DE X b fb) :
  DE X (.IfExp c a b pos) (fun env S=>(fc env S).bind fun x S=>match Xg S x with|some true=>fa env S|some false=>fb env S|none=>.bad):=by
 intro pins s σ H ρ S env I nb;dsimp only at nb ⊢;cases q:fc env S with
 | bad=>rw[q] at nb;exact absurd rfl nb
 | ex n S1=>exact wpAny_IfExp (hc.ex I (by simp only[q];rfl) fun x s' z=>⟨n,S1,rfl,z⟩)
 | ok x S1 =>
  rw[q] at nb;simp only[Rk0] at nb ⊢;cases t:Xg S1 x with
  | none=>rw[t] at nb;exact absurd rfl nb
  | some r =>
   rw[t] at nb;refine wpAny_IfExp (hc.ok I (by simp only[q];exact Xbk t) fun s2 H2 ρ2 I2 st2=>?_)
   cases r with
   | true=>exact Vj (ha pins s2 σ H2 ρ2 S1 env I2 nb) (fun w s3 z=>z.pre st2) fun x s' z=>z.pre st2
   | false=>exact Vj (hb pins s2 σ H2 ρ2 S1 env I2 nb) (fun w s3 z=>z.pre st2) fun x s' z=>z.pre st2
def DW(X:Cx)(e:Expr)(f:En->Sto->R Bool):Prop :=
 ∀ (whole:Sem Value) (pins:List (Addr×Obj)) (s:Shared) (σ:L2.St) (H:Hp) (ρ:List Addr) (S:Sto) (env:En),S0 X pins σ H s ρ S env->f env S≠.bad ->
  wpAny (model X.prog X.w) X.A (isTrue e X.env whole) (fun b s'=>∃ S',f env S=.ok b S'/\∃ H' ρ',Inv X pins σ H' s'/\SR X.K ρ' S' H'/\Stp X.K ρ ρ' H H') (ExP X pins σ ρ H (f env S)) s
theorem DW.dt(h:DW X e g):DT X e g:=h _
theorem Xya(ha:DT X a g):DW X (.BoolOp .And [a] pos) g:=by
 intro wh pins s σ H ρ S env I nb;refine isTrue_and (Vj (ha pins s σ H ρ S env I nb) (fun c s1 z=>?_) fun _ _ z=>z)
 cases c with
 | true=>exact isTrue_and_nil z
 | false=>exact z
theorem X13(ha:DT X a g):DW X (.BoolOp .Or [a] pos) g:=by
 intro wh pins s σ H ρ S env I nb;refine isTrue_or (Vj (ha pins s σ H ρ S env I nb) (fun c s1 z=>?_) fun _ _ z=>z)
 cases c with
 | false=>exact isTrue_or_nil z
 | true=>exact z
theorem Xq7{Xam:List Expr}(ha:DT X a (fun env S=>tst (fa env S)))(hb:DW X (.BoolOp .And (b::Xam) pos) (fun env S=>tst (fb env S))):DW X (.BoolOp .And (a::b::Xam) pos)
  (fun env S=>tst ((fa env S).bind fun x S=>match Xg S x with|some true=>fb env S|some false=>.ok x S|none=>.bad)):=by
 intro wh pins s σ H ρ S env I nb;dsimp only at nb ⊢;cases q:fa env S with
 | bad=>rw[q] at nb;exact absurd rfl nb
 | ex n S1=>exact isTrue_and (ha.ex I (by simp only[q];rfl) fun x s' z=>⟨n,S1,rfl,z⟩)
 | ok x S1 =>
  rw[q] at nb;simp only[Rk0] at nb ⊢;cases t:Xg S1 x with
  | none=>rw[t] at nb;exact absurd rfl nb
  | some r =>
   rw[t] at nb;refine isTrue_and (ha.ok I (by simp only[q];exact Xbk t) fun s2 H2 ρ2 I2 st2=>?_)
   cases r with
   | true=>exact Vj (hb wh pins s2 σ H2 ρ2 S1 env I2 nb) (fun w s3 ⟨S3,e3,H3,ρ3,J3,sr3,st3⟩=>⟨S3,e3,H3,ρ3,J3,sr3,st2.trans st3⟩) fun x s' z=>z.pre st2
   | false=>exact⟨S1,Xbk t,H2,ρ2,I2.inv,I2.sr,st2⟩
theorem Xxh{Xam:List Expr}(ha:DT X a (fun env S=>tst (fa env S)))(hb:DW X (.BoolOp .Or (b::Xam) pos) (fun env S=>tst (fb env S))):DW X (.BoolOp .Or (a::b::Xam) pos)
  (fun env S=>tst ((fa env S).bind fun x S=>match Xg S x with|some true=>.ok x S|some false=>fb env S|none=>.bad)):=by
 intro wh pins s σ H ρ S env I nb;dsimp only at nb ⊢;cases q:fa env S with
 | bad=>rw[q] at nb;exact absurd rfl nb
 | ex n S1=>exact isTrue_or (ha.ex I (by simp only[q];rfl) fun x s' z=>⟨n,S1,rfl,z⟩)
 | ok x S1 =>
  rw[q] at nb;simp only[Rk0] at nb ⊢;cases t:Xg S1 x with
  | none=>rw[t] at nb;exact absurd rfl nb
  | some r =>
   rw[t] at nb;refine isTrue_or (ha.ok I (by simp only[q];exact Xbk t) fun s2 H2 ρ2 I2 st2=>?_)
   cases r with
   | false=>exact Vj (hb wh pins s2 σ H2 ρ2 S1 env I2 nb) (fun w s3 ⟨S3,e3,H3,ρ3,J3,sr3,st3⟩=>⟨S3,e3,H3,ρ3,J3,sr3,st2.trans st3⟩) fun x s' z=>z.pre st2
   | true=>exact⟨S1,Xbk t,H2,ρ2,I2.inv,I2.sr,st2⟩
end
end Z
end
section
namespace Z
open PySem PySem.Spec PyProof.Rows L2 PySem.SeqAt
open AutoSeq1 (wpAny_loadPart')
theorem X7y:fillsNumberSlot (.type "tuple") "mul" = pure false :=
 PySem.fillsNumberSlot_seq (r:=some (.builtin "tuple.__rmul__")) PySem.F.slot_tuple_mul.lookup (by decide+kernel) (by rw[Veh,Vcy];kernel_rfl) (by decide+kernel)
theorem X7z:seqRepeat? (.type "tuple")=pure (some (.builtin "tuple.__mul__")):=by
 unfold seqRepeat?;rw[PySem.seqSlot_of (T := "tuple") (name := "__mul__") (id := "tuple.__mul__") PySem.F.slot_tuple_mul.lookup (by decide+kernel),PySem.seqSlot_of (T := "tuple") (name := "__rmul__") (id := "tuple.__rmul__") (by rw[Veh,Vcy];kernel_rfl) (by decide+kernel)]
 rfl
noncomputable abbrev Xo6(items:Array Value)(n:Nat)(dd:Option Addr)(sl:Array (Option Value)):Obj:={ cls:=.type "tuple",dict:=dd,data:=.seq items n,slots:=sl }
theorem Xq8(a:Int)(t:Tok)(l:Addr)(items:Array Value)(n:Nat)(dd:Option Addr)(sl:Array (Option Value)) :
  Meets (Builtin.«int.__rmul__» ⟨[.int a t,.ref l],[]⟩) (fun _ R s=>s.heap.get? l=some (Xo6 items n dd sl)/\R (.ok (.ret Value.notImplemented)) s) :=
 .of_wp fun prog w A R s ⟨hl,h⟩=>by
  obtain⟨hp,g,d,tk,os⟩:=s
  wp_walk
  exact⟨_,rfl,h⟩
section
variable(l:Addr)(items:Array Value)(n:Nat)(dd:Option Addr)(sl:Array (Option Value))(k:Int)(u:Tok)
theorem X5y :
  Meets (Builtin.«tuple.__mul__» ⟨[.ref l,.int 1 u],[]⟩) (fun _ R s=>s.heap.get? l=some (Xo6 items n dd sl)/\R (.ok (.ret (.ref l))) s) :=
 .of_wp fun prog w A R s ⟨hl,h⟩=>by
  obtain⟨hp,g,d,tk,os⟩:=s;have f1:=AutoSeq1.idx_int;have f2:=Vdp
  wp_walk using Vaf hl
  exact⟨_,rfl,h⟩
theorem X5z(h0:¬ (decide (k < -2^63)||decide (k ≥ 2^63))=true)(h1:¬ (items.isEmpty||k==1)=true)(h2:(decide (k<=0)||items.isEmpty)=true) :
  Meets (Builtin.«tuple.__mul__» ⟨[.ref l,.int k u],[]⟩) (fun _ R s=>s.heap.get? l=some (Xo6 items n dd sl)/\R (.ok (.ret (.ref s.heap.objs.size))) { s with heap:=s.heap.push { cls:=.type "tuple",data:=.seq #[] } }) :=
 .of_wp fun prog w A R s ⟨hl,h⟩=>by
  obtain⟨hp,g,d,tk,os⟩:=s;have f1:=AutoSeq1.idx_int;have f2:=Vdp
  wp_walk using Vaf hl
  refine wpAny_ite_false (decide_eq_false h0) ?_
  wp_walk using Vaf hl
  exact⟨_,rfl,h⟩
theorem X50(h0:¬ (decide (k < -2^63)||decide (k ≥ 2^63))=true)(h1:¬ (items.isEmpty||k==1)=true)(h2:¬ (decide (k<=0)||items.isEmpty)=true)(h3:¬ (items.size:Int)*k>(2^63-1)/8)
  (h4:¬ Ve7 (items.size*k)=true) (h5:(Vec (fun x1 x2=>x1++x2) #[] (Vd k.toNat items)).size<=Vt) :
  Meets (Builtin.«tuple.__mul__» ⟨[.ref l,.int k u],[]⟩) (fun _ R s=>s.heap.get? l=some (Xo6 items n dd sl)/\R (.ok (.ret (.ref s.heap.objs.size))) { s with heap:=s.heap.push { cls:=.type "tuple",data:=.seq (Vec (fun x1 x2=>x1++x2) #[] (Vd k.toNat items)) } }) :=
 .of_wp fun prog w A R s ⟨hl,h⟩=>by
  obtain⟨hp,g,d,tk,os⟩:=s;have f1:=AutoSeq1.idx_int;have f2:=Vdp
  wp_walk using Vaf hl
  refine wpAny_ite_false (decide_eq_false h0) ?_
  wp_walk using Vaf hl
  refine wpAny_ite_false (decide_eq_false h3) ?_
  wp_walk using Vaf hl
  exact⟨_,rfl,h⟩
end
section
variable{X:Cx}{E:Value->Shared->Prop}{s:Shared}
theorem Xjm(its:List Value):∀ (m:Nat) (acc:List Value),Vec (fun x1 x2=>x1++x2) acc.toArray (Vd m its.toArray)=(acc++(Vd m its).flatten).toArray
 | 0,acc=>by simp
 | m+1,acc=>by
  rw[Um,List.foldl_cons,List.append_toArray,Xjm its m];simp[Um]
theorem Xyb(ht:IsTup s.heap t vs.toArray)(hv:vs≠[])(hk:-(1048576)<k)(hk':k<1048576)(hz:vs.length*k.toNat<=1000000)
  (h1:k=1->Q (.ref t) s) (h2:k≠1->Q (.ref s.heap.objs.size) { s with heap:=s.heap.push { cls:=.type "tuple",data:=.seq (Vd k.toNat vs).flatten.toArray } }) :
  wpAny (model prog w) A (Vbm .Mult (.ref t) (.int k u)) Q E s:=by
 obtain⟨⟨cls,dd,data,sl⟩,ho,hc,n,hd⟩:=id ht;simp only at hc hd;subst hc hd;have ez:(vs.toArray.isEmpty)=false:=by cases vs with|nil=>exact absurd rfl hv|cons _ _=>rfl
 have h0:¬ (decide (k < -2^63)||decide (k ≥ 2^63))=true:=by simp;omega
 have go:∀ {S:PySem.Spec},Meets (Builtin.«tuple.__mul__» ⟨[.ref t,.int k u],[]⟩) S->S A (wants Q E) s->wpAny (model prog w) A (Vbm .Mult (.ref t) (.int k u)) Q E s:=fun g hS =>
  Vfi (T := "tuple") (U := "int") (by decide) ⟨_,ho,rfl⟩ (fun s'=>typeIs_int s' k u) X7y PySem.F.fills_int_mul PySem.F.slot_int_rmul X7z PySem.F.slot_int_index.lookup
   (Vdt PySem.F.slot_int_rmul (typeIs_int s k u) PySem.F.entry_int_rmul (PySem.F.args_int_rmul_2 _ _) (Xq8 k u t vs.toArray n dd sl)
    ⟨ho,rfl,⟨_,ho,rfl⟩,Vdt PySem.F.slot_tuple_mul ⟨_,ho,rfl⟩ PySem.F.entry_tuple_mul (PySem.F.args_tuple_mul_2 _ _) g hS⟩)
 by_cases e1:k=1
 ·subst e1
  exact go (X5y t vs.toArray n dd sl u) ⟨ho,h1 rfl⟩
 ·have hn1:¬ (vs.toArray.isEmpty||k==1)=true:=by rw[ez];simpa using e1
  by_cases e0:k<=0
  ·refine go (X5z t vs.toArray n dd sl k u h0 hn1 (by simp[e0])) ⟨ho,?_⟩
   have:=h2 e1;have e2:k.toNat=0:=by omega
   rw[e2] at this;exact this
  ·have ef:=Xjm vs k.toNat []
   rw[Uj] at ef;have hl:(Vd k.toNat vs).flatten.length=k.toNat*vs.length:=Xhk vs k.toNat;have hz':vs.length*k.toNat<=Vt:=Vy hz (by decide)
   have hzi:(vs.length:Int)*k<=1000000:=by
    have hkk:(k.toNat:Int)=k:=by omega
    rw[<- hkk,<- Vco];exact Int.ofNat_le.mpr hz
   refine go (X50 t vs.toArray n dd sl k u h0 hn1 (by rw[ez];simpa using e0) ?_ ?_ ?_) ⟨ho,?_⟩
   ·rw[Vn];omega
   ·rw[Vn]
    unfold Ve7;have:(1000000:Int)<=(Vt:Int):=by decide
    intro hh;have hh:=of_decide_eq_true hh;omega
   ·rw[show(#[]:Array Value)=([]:List Value).toArray from rfl,ef,Vn,hl,Vcx];exact hz'
   ·rw[show(#[]:Array Value)=([]:List Value).toArray from rfl,ef];exact h2 e1
end
end Z
end
section
namespace Z
open PySem PySem.Spec PyProof.Rows L2
section
variable{X:Cx}{pins:List (Addr×Obj)}{σ:L2.St}{H:Hp}{s:Shared}{ρ:List Addr}{S S':Sto}{env:En}{Q:Value->Shared->Prop}{E:Value->Shared->Prop}
mutual
theorem Xnv(I:S0 X pins σ H s ρ S env)(hl:∀ n p a,look n=some p->ρ[n]?=some a->∃ as,Reads s.heap (.ref a) p as/\∀ b∈as,b∈ρ) :
  ∀ (d:D) (v:V) (u:Value) (p:PyData),X2 look d=some p->RD X.K ρ H d v->RelV v u->∃ as,Reads s.heap u p as/\∀ b∈as,b∈ρ
 | .non,v,u,p,h,rd,rv=>by
  simp only[X2,Vi] at h;simp only[RD] at rd;subst h rd;cases rv;exact⟨_,.none,fun _ z=>nomatch z⟩
 | .bl b,v,u,p,h,rd,rv=>by
  simp only[X2,Vi] at h;simp only[RD] at rd;subst h rd;cases rv;exact⟨_,.bool b,fun _ z=>nomatch z⟩
 | .int i,v,u,p,h,rd,rv=>by
  simp only[X2,Vi] at h;simp only[RD] at rd;subst h rd;obtain⟨t,rfl⟩:=rv;exact⟨_,.int i t,fun _ z=>nomatch z⟩
 | .str i,v,u,p,h,rd,rv=>by
  simp only[X2,Vi] at h;simp only[RD] at rd;subst h rd;obtain⟨t,rfl⟩:=rv;exact⟨_,.str i t,fun _ z=>nomatch z⟩
 | .fro _,v,u,p,h,rd,rv=>by simp only[X2] at h;cases h
 | .tup xs,v,u,p,h,rd,rv=>by
  simp only[X2] at h;cases e:datFs look xs with
  | none=>rw[e] at h;cases h
  | some ps =>
   rw[e] at h;cases h;simp only[RD] at rd;obtain⟨a,vs,rfl,ht,hs⟩:=rd;cases rv;obtain⟨its,r,⟨o,ho,hc,n,hd⟩,hz⟩:=I.inv.tuple ht;obtain⟨as,q,qm⟩:=reads_Fs I hl xs vs its ps e hs r;exact⟨_,.tuple ho hc hd (by simpa using q),qm⟩
 | .ref n,v,u,p,h,rd,rv=>by
  simp only[X2] at h;simp only[RD] at rd;obtain⟨a,rfl,ha⟩:=rd;cases rv;exact hl n p a h ha
theorem reads_Fs(I:S0 X pins σ H s ρ S env)(hl:∀ n p a,look n=some p->ρ[n]?=some a->∃ as,Reads s.heap (.ref a) p as/\∀ b∈as,b∈ρ) :
  ∀ (ds:List D) (vs:List V) (us:List Value) (ps:List PyData),datFs look ds=some ps->RDs X.K ρ H ds vs->Vals vs us->∃ as,ReadsAll s.heap us ps as/\∀ b∈as,b∈ρ
 | [],vs,us,ps,h,rd,rv=>by
  simp only[datFs,Vi] at h;simp only[RDs] at rd;subst h rd;cases rv;exact⟨_,.nil,fun _ z=>nomatch z⟩
 | d::ds,vs,us,ps,h,rd,rv=>by
  simp only[datFs] at h;simp only[RDs] at rd;obtain⟨v,r,rfl,h1,h2⟩:=rd;cases e1:X2 look d with
  | none=>rw[e1] at h;cases h
  | some p =>
   cases e2:datFs look ds with
   | none=>rw[e1,e2] at h;cases h
   | some ps' =>
    rw[e1,e2] at h;cases h;cases rv with
    | cons ru rus =>
     obtain⟨as,q,qm⟩:=Xnv I hl d v _ p e1 h1 ru;obtain⟨bs,q2,qm2⟩:=reads_Fs I hl ds r _ ps' e2 h2 rus;exact⟨_,.cons q q2,fun b hb=>(Uz.mp hb).elim (qm b) (qm2 b)⟩
end
theorem Xnw(I:S0 X pins σ H s ρ S env):∀ (k n:Nat) (p:PyData) (a:Addr),Ys S k n=some p->ρ[n]?=some a->∃ as,Reads s.heap (.ref a) p as/\∀ b∈as,b∈ρ
 | 0,n,p,a,h,ha=>by simp only[Ys] at h;cases h
 | k+1,n,p,a,h,ha=>by
  simp only[Ys] at h;cases e:S[n]? with
  | none=>rw[e] at h;cases h
  | some o =>
   rw[e] at h;have q:=I.sr.ob n a o ha e;cases o with
   | lst xs =>
    dsimp only at h;cases e2:datFs (Ys S k) xs with
    | none=>rw[e2] at h;cases h
    | some ps =>
     rw[e2] at h;cases h;obtain⟨vs,hv,hr⟩:=q;obtain⟨_,its,n',r,ho⟩:=I.inv.hok a _ hv;obtain⟨as,z,zm⟩:=reads_Fs I (Xnw I k) xs vs its ps e2 hr r;exact⟨_,.list ho rfl rfl (by simpa using z),fun b hb=>(Vl.mp hb).elim (fun q=>q▸U4 ha) (zm b)⟩
   | dct kvs =>
    obtain⟨rfl,hv⟩:=q;cases h;obtain⟨_,_,vs,r,ob,es,ep,ho,hx,hd,hh⟩:=I.inv.hok a _ hv;cases r;have hes:es.toList=[]:=by
     have z:=hh.2.1;cases q:es.toList with
     | nil=>rfl
     | cons x r=>rw[q] at z;cases z
    refine⟨_,.dict (kvs:=[]) (as:=[]) (bs:=[]) ho hx.1 hd ?_ ?_,fun b hb=>(Vl.mp hb).elim (fun q=>q▸U4 ha) (fun z=>nomatch z)⟩
    ·rw[hes];exact .nil
    ·rw[hes];exact .nil
   | set _=>cases h
   | exc _=>cases h
theorem Xk6(I:S0 X pins σ H s ρ S env)(h:Y5 S d=some p)(rd:RD X.K ρ H d v)(rv:RelV v u):∃ as,Reads s.heap u p as/\∀ b∈as,b∈ρ :=
 Xnv I (Xnw I 4) d v u p h rd rv
theorem Xas(I:S0 X pins σ H s ρ S env)(h:Y5 S d=some p)(rd:RD X.K ρ H d v)(rv:RelV v u):∃ as,Reads s.heap u p as :=
 let ⟨as,r,_⟩:=Xk6 I h rd rv
 ⟨as,r⟩
theorem Xq9(I:S0 X pins σ H s ρ S env)(hsm:∃ o,X.K.lookup Vb7=some o)(h:Y5 S d=some p)(rd:RD X.K ρ H d v)(rv:RelV v u):∃ as,Reads s.heap u p as/\Vb7 ∉ as:=by
 obtain⟨as,r,hm⟩:=Xk6 I h rd rv;refine⟨as,r,fun hb=>?_⟩
 obtain⟨o,ho⟩:=hsm;obtain⟨w,hw,_⟩:=I.sr.mem (hm _ hb);have:=(I.inv.bs _ _ (I.inv.mod.kin _ _ ho)).2;rw[hw] at this;cases this
theorem Xi(sr:SR X.K ρ S H)(J:Inv X pins σ H s'):OkP X pins σ ρ H (.ok (.bl r) S) (.bool r) s':=.mk (v:=.bl r) .refl J rfl (by simp only[RD]) sr
theorem Xad(sr:SR X.K ρ S H)(J:Inv X pins σ H s'):OkP X pins σ ρ H (.ok (.int i) S) (.int i t) s':=.mk (v:=.int i) .refl J ⟨t,rfl⟩ (by simp only[RD]) sr
theorem Xex(sr:SR X.K ρ S H)(J:Inv X pins σ H s'):OkP X pins σ ρ H (.ok (.str x) S) (.str x t) s':=.mk (v:=.str x) .refl J ⟨t,rfl⟩ (by simp only[RD]) sr
theorem Xt1(h:(a&&b&&c)=true):a=true/\b=true/\c=true:=by
 rw[bA0,bA0] at h;exact⟨h.1.1,h.1.2,h.2⟩
theorem Xjn(h:Xch x y=some r):∃ a b,x=.str a/\y=.str b/\r=(a.cps.toList==b.cps.toList):=by
 cases x with
 | str a=>cases y with
  | str b=>exact⟨a,b,rfl,rfl,(V6 h).symm⟩
  | _=>cases h
 | _=>cases h
theorem Xra(h:Xd9 S x y=some r):∃ a b xs ys,x=.ref a/\y=.ref b/\Xc S a=some xs/\Xc S b=some ys/\xs.length≠ys.length/\r=false:=by
 cases x with
 | ref a=>cases y with
  | ref b =>
   simp only[Xd9] at h;cases e1:Xc S a with
   | none=>rw[e1] at h;cases h
   | some xs =>
    cases e2:Xc S b with
    | none=>rw[e1,e2] at h;cases h
    | some ys =>
     rw[e1,e2] at h;dsimp only at h;split at h
     ·cases h
     ·cases h;exact⟨a,b,xs,ys,rfl,rfl,e1,e2,by assumption,rfl⟩
  | _=>cases h
 | _=>cases h
theorem Xk7(h0:eqD S x y=some r)(hn:Xch x y=none):(∃ p q,Y5 S x=some p/\Y5 S y=some q/\p.canLay0=true/\q.canLay0=true/\p.depth<=60/\r=Vb9 p q)\/Xd9 S x y=some r:=by
 have h:=h0;unfold eqD at h;rw[hn] at h;dsimp only at h;cases e1:Y5 S x with
 | none=>rw[e1] at h;exact .inr h
 | some p =>
  cases e2:Y5 S y with
  | none=>rw[e1,e2] at h;exact .inr h
  | some q =>
   rw[e1,e2] at h;dsimp only at h;split at h
   ·rename_i hc
    obtain⟨h1,h2,h3⟩:=Xt1 hc;exact .inl ⟨p,q,rfl,rfl,h1,h2,of_decide_eq_true h3,(V6 h).symm⟩
   ·exact .inr h
theorem S0.lstM(I:S0 X pins σ H s ρ S env)(h:lstM S n=some xs):∃ a vs,ρ[n]?=some a/\H a=some (.lst vs)/\RDs X.K ρ H xs vs:=I.list h
theorem S0.lstR(I:S0 X pins σ H s ρ S env)(h:Z.lstM S n=some xs)(r:RD X.K ρ H (.ref n) v):∃ a vs,v=.ref a/\ρ[n]?=some a/\H a=some (.lst vs)/\RDs X.K ρ H xs vs:=by
 simp only[RD] at r;obtain⟨a,e,h1⟩:=r;obtain⟨a',vs,h2,h3,h4⟩:=I.lstM h;rw[h1] at h2;cases h2;exact⟨a,vs,e,h1,h3,h4⟩
theorem Xk8(I:S0 X pins σ H s ρ S env)(h:Xd9 S x y=some r)(rx:RD X.K ρ H x v)(rv:RelV v u)(ry:RD X.K ρ H y v')(ru:RelV v' u') :
  r=false/\∃ a b its its',u=.ref a/\u'=.ref b/\s.heap.IsList a its/\s.heap.IsList b its'/\(its.size != its'.size)=true:=by
 obtain⟨n,m,xs,ys,rfl,rfl,h1,h2,hne,rfl⟩:=Xra h;obtain⟨a,vs,rfl,ha,hva,ra⟩:=I.lstR h1 rx;obtain⟨b,us,rfl,hb,hvb,rb⟩:=I.lstR h2 ry;cases rv;cases ru;obtain⟨_,i1,n1,q1,o1⟩:=I.inv.hok a _ hva;obtain⟨_,i2,n2,q2,o2⟩:=I.inv.hok b _ hvb;refine⟨rfl,a,b,i1.toArray,i2.toArray,rfl,rfl,⟨_,o1,rfl,_,rfl⟩,⟨_,o2,rfl,_,rfl⟩,?_⟩;have e1:i1.length=xs.length:=by rw[ra.length];exact q1.length.symm
 have e2:i2.length=ys.length:=by rw[rb.length];exact q2.length.symm
 simp only[Vn,bne_iff_ne,ne_eq];omega
theorem X70(hu:X.A.units+200<cLine):Op2 X (Vaa .Eq) (Xj .eq):=by
 intro pins s σ H ρ S env x y v u v' u' E I nb rx rv ry ru;obtain⟨r,e,e2⟩:=Xce nb;rw[e2];cases hn:Xch x y with
 | some r' =>
  obtain⟨a,b,rfl,rfl,hr⟩:=Xjn hn;have er:r=r':=by
   have e':eqD S (.str a) (.str b)=some r:=e;unfold eqD at e';rw[hn] at e';exact(V6 e').symm
  subst er hr;simp only[RD] at rx ry;subst rx ry;obtain⟨t,rfl⟩:=rv;obtain⟨t',rfl⟩:=ru;exact PySem.P.eq_str (Xi I.sr I.inv)
 | none =>
 rcases Xk7 e hn with⟨p,q,h1,h2,h3,h4,h5,rfl⟩|hl
 rotate_left
 ·obtain⟨rfl,a,b,i1,i2,rfl,rfl,l1,l2,l3⟩:=Xk8 I hl rx rv ry ru
  exact SeqAt.RcAt.lists_lengths l1 l2 l3 (by omega) X.prog X.w E _ (Xi I.sr I.inv)
 obtain⟨as,ra⟩:=Xas I h1 rx rv;obtain⟨bs,rb⟩:=Xas I h2 ry ru;exact SeqAt.rcAt_reads ra rb h3 h4 (by omega) X.prog X.w E _ (Xi I.sr I.inv)
theorem X71(hu:X.A.units+200<cLine):Op2 X (Vaa .NotEq) (Xj .ne):=by
 intro pins s σ H ρ S env x y v u v' u' E I nb rx rv ry ru;obtain⟨r,e,e2⟩:=Xce nb;rw[e2];simp only[X0,V8] at e;obtain⟨r',e,rfl⟩:=e;cases hn:Xch x y with
 | some r2 =>
  obtain⟨a,b,rfl,rfl,hr⟩:=Xjn hn;have er:r'=r2:=by
   have e':eqD S (.str a) (.str b)=some r':=e;unfold eqD at e';rw[hn] at e';exact(V6 e').symm
  subst er hr;simp only[RD] at rx ry;subst rx ry;obtain⟨t,rfl⟩:=rv;obtain⟨t',rfl⟩:=ru;exact PySem.P.ne_str (Xi I.sr I.inv)
 | none =>
 rcases Xk7 e hn with⟨p,q,h1,h2,h3,h4,h5,rfl⟩|hl
 rotate_left
 ·obtain⟨rfl,a,b,i1,i2,rfl,rfl,l1,l2,l3⟩:=Xk8 I hl rx rv ry ru
  exact SeqAt.RcNeAt.lists_lengths l1 l2 l3 (by omega) X.prog X.w E _ (Xi I.sr I.inv)
 obtain⟨as,ra⟩:=Xas I h1 rx rv;obtain⟨bs,rb⟩:=Xas I h2 ry ru;exact SeqAt.rcNeAt_reads ra rb h3 h4 (by omega) X.prog X.w E _ (Xi I.sr I.inv)
theorem Xk9(h:inD S x y=some r):∃ p qs,Y5 S x=some p/\(Y5 S y=some (.list qs)\/Y5 S y=some (.tuple qs))/\p.canLay0=true/\Vfc qs=true/\p.depth<=60/\r=qs.any fun q=>Vb9 q p:=by
 unfold inD at h;cases e1:Y5 S x with
 | none=>rw[e1] at h;cases h
 | some p =>
  cases e2:Y5 S y with
  | none=>rw[e1,e2] at h;cases h
  | some q =>
   rw[e1,e2] at h;cases q with
   | list qs =>
    dsimp only at h;split at h
    ·rename_i hc
     obtain⟨h1,h2,h3⟩:=Xt1 hc;exact⟨p,qs,rfl,.inl rfl,h1,h2,of_decide_eq_true h3,(V6 h).symm⟩
    ·cases h
   | tuple qs =>
    dsimp only at h;split at h
    ·rename_i hc
     obtain⟨h1,h2,h3⟩:=Xt1 hc;exact⟨p,qs,rfl,.inr rfl,h1,h2,of_decide_eq_true h3,(V6 h).symm⟩
    ·cases h
   | none=>cases h
   | bool _=>cases h
   | int _=>cases h
   | str _=>cases h
   | dict _=>cases h
theorem X72(hu:X.A.units+200<cLine):Op2 X (Vaa .In) (Xj .isin):=by
 intro pins s σ H ρ S env x y v u v' u' E I nb rx rv ry ru;obtain⟨r,e,e2⟩:=Xce nb;rw[e2];obtain⟨p,qs,h1,h2,h3,h4,h5,rfl⟩:=Xk9 e;obtain⟨as,ra⟩:=Xas I h1 rx rv;rcases h2 with h2|h2
 ·obtain⟨bs,rb⟩:=Xas I h2 ry ru
  exact SeqAt.in_list_reads rb ra h4 h3 (by omega) (Xi I.sr I.inv)
 ·obtain⟨bs,rb⟩:=Xas I h2 ry ru
  exact SeqAt.in_tuple_reads rb ra h4 h3 (by omega) (Xi I.sr I.inv)
theorem Xyc(hu:X.A.units+200<cLine):Op2 X (Vaa .NotIn) (Xj .notin):=by
 intro pins s σ H ρ S env x y v u v' u' E I nb rx rv ry ru;obtain⟨r,e,e2⟩:=Xce nb;rw[e2];simp only[X0,V8] at e;obtain⟨r',e,rfl⟩:=e;obtain⟨p,qs,h1,h2,h3,h4,h5,rfl⟩:=Xk9 e;obtain⟨as,ra⟩:=Xas I h1 rx rv;rcases h2 with h2|h2
 ·obtain⟨bs,rb⟩:=Xas I h2 ry ru
  exact SeqAt.notIn_list_reads rb ra h4 h3 (by omega) (Xi I.sr I.inv)
 ·obtain⟨bs,rb⟩:=Xas I h2 ry ru
  exact SeqAt.notIn_tuple_reads rb ra h4 h3 (by omega) (Xi I.sr I.inv)
theorem X73:Op2 X (Vaa .LtE) (Xj .le):=by
 intro pins s σ H ρ S env x y v u v' u' E I nb rx rv ry ru;cases x with
 | int i=>cases y with
  | int j =>
   simp only[RD] at rx ry;subst rx ry;obtain⟨t,rfl⟩:=rv;obtain⟨t',rfl⟩:=ru;exact le_int (Xi I.sr I.inv)
  | _=>exact absurd rfl nb
 | _=>cases y<;>exact absurd rfl nb
theorem X74:Op2 X (Vaa .Gt) (Xj .gt):=by
 intro pins s σ H ρ S env x y v u v' u' E I nb rx rv ry ru;cases x with
 | int i=>cases y with
  | int j =>
   simp only[RD] at rx ry;subst rx ry;obtain⟨t,rfl⟩:=rv;obtain⟨t',rfl⟩:=ru;exact gt_int (Xi I.sr I.inv)
  | _=>exact absurd rfl nb
 | _=>cases y<;>exact absurd rfl nb
theorem X75:Op2 X (Vaa .GtE) (Xj .ge):=by
 intro pins s σ H ρ S env x y v u v' u' E I nb rx rv ry ru;cases x with
 | int i=>cases y with
  | int j =>
   simp only[RD] at rx ry;subst rx ry;obtain⟨t,rfl⟩:=rv;obtain⟨t',rfl⟩:=ru;exact ge_int (Xi I.sr I.inv)
  | _=>exact absurd rfl nb
 | _=>cases y<;>exact absurd rfl nb
theorem Xea:∀ {xs:List D} {ns:List Int},Ym xs=some ns->xs=ns.map D.int
 | [],ns,h=>by simp only[Ym,Vi] at h;subst h;rfl
 | .int i::r,ns,h=>by
  simp only[Ym,V8] at h;obtain⟨ms,h1,rfl⟩:=h;rw[Xea h1];rfl
 | .non::_,_,h=>by simp[Ym] at h
 | .bl _::_,_,h=>by simp[Ym] at h
 | .str _::_,_,h=>by simp[Ym] at h
 | .tup _::_,_,h=>by simp[Ym] at h
 | .ref _::_,_,h=>by simp[Ym] at h
 | .fro _::_,_,h=>by simp[Ym] at h
theorem X76(hu:X.A.units+200<cLine):Op2 X (Vaa .Lt) (Xj .lt):=by
 intro pins s σ H ρ S env x y v u v' u' E I nb rx rv ry ru;cases x with
 | int i=>cases y with
  | int j =>
   simp only[RD] at rx ry;subst rx ry;obtain⟨t,rfl⟩:=rv;obtain⟨t',rfl⟩:=ru;exact lt_int (Xi I.sr I.inv)
  | _=>exact absurd rfl nb
 | _=>cases y<;>exact absurd rfl nb
theorem X77:Op2 X (Vaa .Is) (Xj .is):=by
 intro pins s σ H ρ S env x y v u v' u' E I nb rx rv ry ru;cases y with
 | non =>
  simp only[RD] at ry;subst ry;cases ru;cases x with
  | non=>simp only[RD] at rx;subst rx;cases rv;exact U1 rfl (Xi I.sr I.inv)
  | bl b=>simp only[RD] at rx;subst rx;cases rv;exact U1 rfl (Xi I.sr I.inv)
  | int b=>simp only[RD] at rx;subst rx;obtain⟨t,rfl⟩:=rv;exact U1 rfl (Xi I.sr I.inv)
  | str b=>simp only[RD] at rx;subst rx;obtain⟨t,rfl⟩:=rv;exact U1 rfl (Xi I.sr I.inv)
  | tup b=>simp only[RD] at rx;obtain⟨a,_,rfl,_⟩:=rx;cases rv;exact U1 rfl (Xi I.sr I.inv)
  | fro b=>simp only[RD] at rx;obtain⟨a,_,rfl,_⟩:=rx;cases rv;exact U1 rfl (Xi I.sr I.inv)
  | ref b=>simp only[RD] at rx;obtain⟨a,rfl,_⟩:=rx;cases rv;exact U1 rfl (Xi I.sr I.inv)
  | fn _ _=>simp only[RD] at rx;obtain⟨a,rfl,_⟩:=rx;cases rv;exact U1 rfl (Xi I.sr I.inv)
 | bl c =>
  simp only[RD] at ry;subst ry;cases ru;cases x with
  | non=>simp only[RD] at rx;subst rx;cases rv;exact U1 rfl (Xi I.sr I.inv)
  | bl b =>
   simp only[RD] at rx;subst rx;cases rv;refine is_bool ?_;have e:(b==c)=(c==b):=by cases b<;>cases c<;>rfl
   rw[e];exact Xi I.sr I.inv
  | int b=>simp only[RD] at rx;subst rx;obtain⟨t,rfl⟩:=rv;exact U1 rfl (Xi I.sr I.inv)
  | str b=>simp only[RD] at rx;subst rx;obtain⟨t,rfl⟩:=rv;exact U1 rfl (Xi I.sr I.inv)
  | tup b=>simp only[RD] at rx;obtain⟨a,_,rfl,_⟩:=rx;cases rv;exact U1 rfl (Xi I.sr I.inv)
  | fro b=>simp only[RD] at rx;obtain⟨a,_,rfl,_⟩:=rx;cases rv;exact U1 rfl (Xi I.sr I.inv)
  | ref b=>simp only[RD] at rx;obtain⟨a,rfl,_⟩:=rx;cases rv;exact U1 rfl (Xi I.sr I.inv)
  | fn _ _=>simp only[RD] at rx;obtain⟨a,rfl,_⟩:=rx;cases rv;exact U1 rfl (Xi I.sr I.inv)
 | _=>cases x<;>exact absurd rfl nb
theorem Xyd:Op2 X (Vaa .IsNot) (Xj .isnot):=by
 intro pins s σ H ρ S env x y v u v' u' E I nb rx rv ry ru;cases y with
 | non =>
  simp only[RD] at ry;subst ry;cases ru;cases x with
  | non=>simp only[RD] at rx;subst rx;cases rv;exact Uk rfl (Xi I.sr I.inv)
  | bl b=>simp only[RD] at rx;subst rx;cases rv;exact Uk rfl (Xi I.sr I.inv)
  | int b=>simp only[RD] at rx;subst rx;obtain⟨t,rfl⟩:=rv;exact Uk rfl (Xi I.sr I.inv)
  | str b=>simp only[RD] at rx;subst rx;obtain⟨t,rfl⟩:=rv;exact Uk rfl (Xi I.sr I.inv)
  | tup b=>simp only[RD] at rx;obtain⟨a,_,rfl,_⟩:=rx;cases rv;exact Uk rfl (Xi I.sr I.inv)
  | fro b=>simp only[RD] at rx;obtain⟨a,_,rfl,_⟩:=rx;cases rv;exact Uk rfl (Xi I.sr I.inv)
  | ref b=>simp only[RD] at rx;obtain⟨a,rfl,_⟩:=rx;cases rv;exact Uk rfl (Xi I.sr I.inv)
  | fn _ _=>simp only[RD] at rx;obtain⟨a,rfl,_⟩:=rx;cases rv;exact Uk rfl (Xi I.sr I.inv)
 | bl c =>
  simp only[RD] at ry;subst ry;cases ru;cases x with
  | non=>simp only[RD] at rx;subst rx;cases rv;exact Uk rfl (Xi I.sr I.inv)
  | bl b =>
   simp only[RD] at rx;subst rx;cases rv;refine isnot_bool ?_;have e:(b != c)=(c != b):=by cases b<;>cases c<;>rfl
   rw[e];exact Xi I.sr I.inv
  | int b=>simp only[RD] at rx;subst rx;obtain⟨t,rfl⟩:=rv;exact Uk rfl (Xi I.sr I.inv)
  | str b=>simp only[RD] at rx;subst rx;obtain⟨t,rfl⟩:=rv;exact Uk rfl (Xi I.sr I.inv)
  | tup b=>simp only[RD] at rx;obtain⟨a,_,rfl,_⟩:=rx;cases rv;exact Uk rfl (Xi I.sr I.inv)
  | fro b=>simp only[RD] at rx;obtain⟨a,_,rfl,_⟩:=rx;cases rv;exact Uk rfl (Xi I.sr I.inv)
  | ref b=>simp only[RD] at rx;obtain⟨a,rfl,_⟩:=rx;cases rv;exact Uk rfl (Xi I.sr I.inv)
  | fn _ _=>simp only[RD] at rx;obtain⟨a,rfl,_⟩:=rx;cases rv;exact Uk rfl (Xi I.sr I.inv)
 | _=>cases x<;>exact absurd rfl nb
theorem Xey(hu:X.A.units+200<cLine):∀ op:Co,Op2 X (Vaa (opC op)) (Xj op)
 | .eq=>X70 hu | .ne=>X71 hu | .lt=>X76 hu | .le=>X73 | .gt=>X74 | .ge=>X75 | .isin=>X72 hu | .notin=>Xyc hu | .is=>X77 | .isnot=>Xyd
theorem Xt2{ws:List Value}(ht:IsTup s.heap t #[])(hb:IsTup s.heap b ws.toArray)(h:Q (.ref b) s):wpAny (model prog w) A (Vbm .Add (.ref t) (.ref b)) Q E s:=by
 obtain⟨⟨cls,dd,data,sl⟩,ho,hc,n,hd⟩:=id ht;obtain⟨⟨cls2,dd2,data2,sl2⟩,ho2,hc2,n2,hd2⟩:=id hb;simp only at hc hd hc2 hd2;subst hc hd hc2 hd2;exact concat_meets ⟨_,ho,rfl⟩ ⟨_,ho2,rfl⟩ noFill_tuple_add seq_tuple_add Vd3 Vdx (Vdm _ _)
   (tuple_addW0 t b #[] ws.toArray n n2 dd dd2 sl sl2 rfl) ⟨ho,ho2,h⟩
theorem X51:Op2 X (Vbm .Add) (Xs .add):=by
 intro pins s σ H ρ S env x y v u v' u' E I nb rx rv ry ru;cases x with
 | int i=>cases y with
  | int j =>
   simp only[RD] at rx ry;subst rx ry;obtain⟨t,rfl⟩:=rv;obtain⟨t',rfl⟩:=ru;exact add_int (Xad I.sr (I.inv.tok _))
  | _=>exact absurd rfl nb
 | str i=>cases y with
  | str j =>
   simp only[RD] at rx ry;subst rx ry;simp only[Xs] at nb ⊢;split at nb
   ·rename_i hz
    rw[if_pos hz];exact opd (Q':=fun z H'=>z=.str (i++j)/\H'=H) Xo0 I.inv rv ru ⟨i,j,rfl,rfl,Yw hz,rfl,rfl⟩ fun w s' z H' J rz ⟨z1,z2⟩=>by
     subst z1 z2;obtain⟨t,rfl⟩:=rz;exact Xex I.sr J
   ·exact absurd rfl nb
  | _=>exact absurd rfl nb
 | tup xs=>cases y with
  | tup ys =>
   simp only[Xs] at nb ⊢;split at nb
   ·rename_i hz
    rw[if_pos hz];have rx':=rx;have ry':=ry;simp only[RD] at rx ry;obtain⟨a,vs,rfl,s1,r1⟩:=rx;obtain⟨b,us,rfl,s2,r2⟩:=ry;cases rv;cases ru;obtain⟨i1,q1,p1,z1⟩:=I.inv.tuple s1;obtain⟨i2,q2,p2,z2⟩:=I.inv.tuple s2;have hl1:=r1.length;have hl2:=r2.length;have hk1:=q1.length;have hk2:=q2.length
    by_cases hx:xs=[]
    ·subst hx
     have:vs=[]:=by simpa [RDs] using r1
     subst this;cases q1;refine Xt2 p1 p2 ?_;exact .mk (v:=.ref b) .refl I.inv rfl ry' I.sr
    ·refine HT.cat_tup p1 p2 (fun z=>hx ?_) (fun z=>?_) (fun z=>?_) ?_
     ·subst z;simp at hk1;rw[hk1] at hl1;simpa using hl1
     ·have:ys=[]:=by subst z;simp at hk2;rw[hk2] at hl2;simpa using hl2
      subst this;rw[Vp];exact .mk (v:=.ref a) .refl I.inv rfl rx' I.sr
     ·refine Xcd (I.inv.laid (t':=s.toks) (o:=.tup (vs++us)) (fun b ob q=>Vb _ q) (Vh _) ?_) (I.inv.hok.fresh (Vh _)) I.sr (r1.append r2)
      exact⟨by rw[Vbx,<- hl1,<- hl2];exact Yw hz,_,q1.append q2,IsTup.new _ _⟩
     ·rw[<- hk1,<- hk2,<- hl1,<- hl2];exact Yw hz
   ·exact absurd rfl nb
  | _=>exact absurd rfl nb
 | ref n=>cases y with
  | ref m =>
   simp only[Xs] at nb ⊢;cases h1:Z.lstM S n with
   | none=>rw[h1] at nb;exact absurd rfl nb
   | some xs =>
    cases h2:Z.lstM S m with
    | none=>rw[h1,h2] at nb;exact absurd rfl nb
    | some ys =>
     rw[h1,h2] at nb;dsimp only at nb ⊢;split at nb
     ·rename_i hz
      rw[if_pos hz];obtain⟨a,vs,rfl,ha,hva,ra⟩:=I.lstR h1 rx;obtain⟨b,us,rfl,hb,hvb,rb⟩:=I.lstR h2 ry;exact opd (Q':=fun z H'=>∃ p,H p=none/\z=.ref p/\H'=upd H p (.lst (vs++us))) X1v I.inv rv ru ⟨a,b,vs,us,rfl,rfl,hva,hvb,by rw[<- ra.length,<- rb.length];exact Yw hz,fun p hp=>⟨p,hp,rfl,rfl⟩⟩
       fun w s' z H' J rz ⟨p,hp,z1,z2⟩=>by subst z1 z2;cases rz;exact Xbr J hp I.sr (ra.append rb)
     ·exact absurd rfl nb
  | _=>exact absurd rfl nb
 | _=>cases y<;>exact absurd rfl nb
theorem X52:Op2 X (Vbm .Sub) (Xs .sub):=by
 intro pins s σ H ρ S env x y v u v' u' E I nb rx rv ry ru;cases x with
 | int i=>cases y with
  | int j =>
   simp only[RD] at rx ry;subst rx ry;obtain⟨t,rfl⟩:=rv;obtain⟨t',rfl⟩:=ru;exact sub_int (Xad I.sr (I.inv.tok _))
  | _=>exact absurd rfl nb
 | _=>cases y<;>exact absurd rfl nb
theorem Xnx(h:i.natAbs.log2<100000):Builtin.Int.intBits i<=2^20:=by
 unfold Builtin.Int.intBits;split
 ·exact Uo _
 ·omega
theorem Xla(h:Yc i j=true):IntMulOk i j:=by
 simp only[Yc,Va0,bA0,decide_eq_true_eq] at h;rcases h with h|h
 ·have:CMul i j:=h
  exact this.ok
 ·exact IntMulOk.of_bits (Xnx h.1) (Xnx h.2)
theorem X53:Op2 X (Vbm .Mult) (Xs .mul):=by
 intro pins s σ H ρ S env x y v u v' u' E I nb rx rv ry ru;cases x with
 | int i=>cases y with
  | int j =>
   simp only[RD] at rx ry;subst rx ry;obtain⟨t,rfl⟩:=rv;obtain⟨t',rfl⟩:=ru;simp only[Xs] at nb ⊢;split at nb
   ·rename_i hz
    rw[if_pos hz];exact mul_int (Xad I.sr (I.inv.tok _)) (Xla hz)
   ·exact absurd rfl nb
  | _=>exact absurd rfl nb
 | tup xs=>cases y with
  | int k =>
   simp only[Xs] at nb ⊢;split at nb
   ·rename_i hz
    rw[if_pos hz];have rx':=rx;simp only[RD] at rx ry;subst ry;obtain⟨a,vs,rfl,s1,r1⟩:=rx;cases rv;obtain⟨t',rfl⟩:=ru;obtain⟨i1,q1,p1,z1⟩:=I.inv.tuple s1;have hl1:=r1.length;have hk1:=q1.length;have hne:i1≠[]:=fun z=>by
     subst z;have:xs=[]:=Veq (by rw[hl1,hk1];rfl)
     subst this;exact absurd hz.2.2.2 (by simp)
    refine Xyb p1 hne hz.2.2.1 hz.1 (by rw[<- hk1,<- hl1];exact hz.2.1) (fun e=>?_) (fun e=>?_)
    ·subst e
     have e1:(Vd (1:Int).toNat xs).flatten=xs:=by simp
     rw[e1];exact .mk (v:=.ref a) .refl I.inv rfl rx' I.sr
    ·have hr:∀ m:Nat,RDs X.K ρ H (Vd m xs).flatten (Vd m vs).flatten:=fun m=>by
      induction m with
      | zero=>simpa using RDs.nil
      | succ m ih=>rw[Um,Um,Vap,Vap];exact r1.append ih
     refine Xcd (I.inv.laid (t':=s.toks) (o:=.tup (Vd k.toNat vs).flatten) (fun b ob q=>Vb _ q) (Vh _) ?_) (I.inv.hok.fresh (Vh _)) I.sr (hr _)
     exact⟨by rw[Xhk,<- hl1,Vcx];exact Yw hz.2.1,_,q1.rep _,IsTup.new _ _⟩
   ·exact absurd rfl nb
  | _=>exact absurd rfl nb
 | ref n=>cases y with
  | int k =>
   simp only[Xs] at nb ⊢;cases h1:Z.lstM S n with
   | none=>rw[h1] at nb;exact absurd rfl nb
   | some xs =>
    rw[h1] at nb;dsimp only at nb ⊢;split at nb
    ·rename_i hz
     rw[if_pos hz];obtain⟨a,vs,rfl,ha,hva,ra⟩:=I.lstR h1 rx;simp only[RD] at ry;subst ry;have hr:RDs X.K ρ H (Vd k.toNat xs).flatten (Vd k.toNat vs).flatten:=by
      induction k.toNat with
      | zero=>simpa using RDs.nil
      | succ m ih=>rw[Um,Um,Vap,Vap];exact ra.append ih
     exact opd (Q':=fun z H'=>∃ p,H p=none/\z=.ref p/\H'=upd H p (.lst (Vd k.toNat vs).flatten)) X1w I.inv rv ru
      ⟨a,k,vs,rfl,rfl,hva,by omega,by omega,by rw[<- ra.length];exact Yw hz.2.1,fun p hp=>⟨p,hp,rfl,rfl⟩⟩
      fun w s' z H' J rz ⟨p,hp,z1,z2⟩=>by subst z1 z2;cases rz;exact Xbr J hp I.sr hr
    ·exact absurd rfl nb
  | _=>exact absurd rfl nb
 | _=>cases y<;>exact absurd rfl nb
theorem X14:Op2 X (Vbm .FloorDiv) (Xs .fdiv):=by
 intro pins s σ H ρ S env x y v u v' u' E I nb rx rv ry ru;cases x with
 | int i=>cases y with
  | int j =>
   simp only[RD] at rx ry;subst rx ry;obtain⟨t,rfl⟩:=rv;obtain⟨t',rfl⟩:=ru;simp only[Xs] at nb ⊢;split at nb
   ·rename_i hz
    rw[if_pos hz];simp only[Yd,bA0,decide_eq_true_eq] at hz;have hj:(0:Int)<j:=hz.1;exact floordiv_int (by omega) (by rw[Int.fdiv_eq_ediv_of_nonneg i (by omega)];exact Xad I.sr (I.inv.tok _)) (.inl (PyProof.noPylong_of_log2 hz.2))
   ·exact absurd rfl nb
  | _=>exact absurd rfl nb
 | _=>cases y<;>exact absurd rfl nb
theorem X54:Op2 X (Vbm .Mod) (Xs .mod):=by
 intro pins s σ H ρ S env x y v u v' u' E I nb rx rv ry ru;cases x with
 | int i=>cases y with
  | int j =>
   simp only[RD] at rx ry;subst rx ry;obtain⟨t,rfl⟩:=rv;obtain⟨t',rfl⟩:=ru;simp only[Xs] at nb ⊢;split at nb
   ·rename_i hz
    rw[if_pos hz];exact mod_int' (by omega) (by rw[Int.fmod_eq_emod_of_nonneg i (by omega)];exact Xad I.sr (I.inv.tok _))
   ·exact absurd rfl nb
  | _=>exact absurd rfl nb
 | _=>cases y<;>exact absurd rfl nb
theorem X55:Op2 X (Vbm .Pow) (Xs .pow):=by
 intro pins s σ H ρ S env x y v u v' u' E I nb rx rv ry ru;cases x with
 | int i=>cases y with
  | int j =>
   simp only[RD] at rx ry;subst rx ry;obtain⟨t,rfl⟩:=rv;obtain⟨t',rfl⟩:=ru;simp only[Xs] at nb ⊢;split at nb
   ·rename_i hz
    rw[if_pos hz];exact pow_int_small hz.1 (by omega) (by omega) (Xad I.sr (I.inv.tok _))
   ·exact absurd rfl nb
  | _=>exact absurd rfl nb
 | _=>cases y<;>exact absurd rfl nb
theorem X56:∀ op:Bo,Op2 X (Vbm (opB op)) (Xs op)
 | .add=>X51 | .sub=>X52 | .mul=>X53 | .fdiv=>X14 | .mod=>X54 | .pow=>X55
end
theorem Xrb(n:Nat)(i:Int):Z.ixN n i=L2.ixN n i:=rfl
section
variable{X:Cx}{pins:List (Addr×Obj)}{σ:L2.St}{H:Hp}{s:Shared}{ρ:List Addr}{S S':Sto}{env:En}{Q:Value->Shared->Prop}{E:Value->Shared->Prop}{a b c e:Expr}{f fa fb fc:En->Sto->R D}{pos:Pos}
theorem X15(r:RDs X.K ρ H xs vs)(h:((Z.ixN xs.length k).bind fun j=>xs[j]?)=some d):∃ v,atI vs k=some v/\RD X.K ρ H d v:=by
 cases e:Z.ixN xs.length k with
 | none=>rw[e] at h;cases h
 | some j =>
  rw[e] at h;obtain⟨v,h1,h2⟩:=r.get (i:=j) (d:=d) h;refine⟨v,?_,h2⟩;show((L2.ixN vs.length k).bind fun j=>vs[j]?)=some v
  rw[<- r.length];rw[Xrb] at e;rw[e];exact h1
theorem X57(hs:Xhj b):Op2 X (Vc9 a b) Yb:=by
 intro pins s σ H ρ S env x y v u v' u' E I nb rx rv ry ru;unfold Yb at nb ⊢;cases e:Xal x y S with
 | none=>rw[e] at nb;exact absurd rfl nb
 | some d =>
  cases y with
  | int k =>
   simp only[RD] at ry;subst ry;have ixr:∀ {r:R2} (hr:IxR (X.wish E) r) (z:V),r v (.int k) H (fun z' H'=>z'=z/\H'=H)->RD X.K ρ H d z->wpAny (model X.prog X.w) X.A (Vc9 a b v' u') (OkP X pins σ ρ H (.ok d S)) E s:=fun {r} hr z h1 h2 =>
    thn (hr a b pins s σ H v (.int k) v' u' _ (I.inv.wish E) rv ru h1 (hs _ _)) fun w s' ⟨z',H',J,rz,e1,e2⟩=>by subst e1 e2;exact .mk .refl J.unwish rz h2 I.sr
   have seq:∀ xs,Xq S x=some xs->((Z.ixN xs.length k).bind fun j=>xs[j]?)=some d->wpAny (model X.prog X.w) X.A (Vc9 a b v' u') (OkP X pins σ ρ H (.ok d S)) E s:=fun xs h1 h2=>by
    obtain⟨p,vs,rfl,hq,hr⟩:=I.seq h1 rx;obtain⟨z,hz,rz⟩:=X15 hr h2;rcases hq with hq|hq
    ·exact ixr Xx7 z ⟨p,vs,k,z,rfl,rfl,hq,hz,rfl,rfl⟩ rz
    ·exact ixr X1t z ⟨p,vs,k,z,rfl,rfl,hq,hz,rfl,rfl⟩ rz
   cases x with
   | str z =>
    simp only[Xal] at e;simp only[RD] at rx;subst rx;split at e
    ·rename_i hz
     cases e1:Z.ixN z.length k with
     | none=>rw[e1] at e;cases e
     | some j =>
      rw[e1] at e;simp only[Vv,V8] at e;obtain⟨c,hc,rfl⟩:=e;refine ixr X1u (.str ⟨#[c]⟩) ⟨z,k,c,rfl,rfl,Yw hz,?_,rfl,rfl⟩ (by simp only[RD])
      show((L2.ixN z.cps.toList.length k).bind fun j=>z.cps.toList[j]?)=some c
      have:z.cps.toList.length=z.length:=by simp[Str.length]
      rw[this,<- Xrb,e1];exact hc
    ·cases e
   | tup xs=>exact seq xs rfl (by simpa [Xal,Xq] using e)
   | fro xs=>exact seq xs rfl (by simpa [Xal,Xq] using e)
   | ref n =>
    simp only[Xal,Xq] at e;cases e1:Xc S n with
    | none=>rw[e1] at e;cases e
    | some xs=>rw[e1] at e;exact seq xs e1 e
   | non=>simp[Xal,Xq] at e
   | bl _=>simp[Xal,Xq] at e
   | int _=>simp[Xal,Xq] at e
   | fn _ _=>simp[Xal,Xq] at e
  | _=>simp[Xal] at e
theorem X58(hs:Xhj b)(ha:DE X a fa)(hb:DE X b fb):DE X (.Subscript a b pos) (fun env S=>(fa env S).bind fun x S=>(fb env S).bind fun y S=>Yb x y S) :=
 fun pins s σ H ρ S env I nb=>Subscript_ (two (X57 hs) ha hb I nb)
noncomputable def spD(K:Vf)(n:Nat)(F:List D->Sto->R D):Sp:=fun vs H Q E=>∃ ds ρ S,vs.length=n/\RDs K ρ H ds vs/\SR K ρ S H/\F ds S≠.bad /\
 (∀ d S' v H' ρ',F ds S=.ok d S'->RD K ρ' H' d v->SR K ρ' S' H'->Stp K ρ ρ' H H'->Q v H') /\
 ∀ n c S' a H' ρ',F ds S=.ex n S'->ρ'[n]?=some a->S'[n]?=some (.exc c)->SR K ρ' S' H'->Stp K ρ ρ' H H'->E (.ref a) none H'
noncomputable def CXd(P:Program)(w:World):CXT:=fun outer H s E e s'=>∃ H',s'.os=s.os/\AllBare s'.gens/\Un (frs outer) [] H H' s.heap s'.heap/\HOk P w H' s'.heap/\(∃ a,e=.ref a/\Trc (fun T=>s.heap.get? T=none) H' a s'.heap)/\E e none H'
structure RoomC(cm:Bool)(k:Nat)(A:Around):Prop where
 gd:A.guards=some []
 hd:cm=true->A.handled=none
 dp:A.depth+3*k+5<recursionLimit
 un:A.units+16*k+200<cLine
theorem RoomC.of(r:Room k A):RoomC cm k A:=⟨r.gd,fun _=>r.hd,r.dp,r.un⟩
theorem RoomC.less(r:RoomC cm k A)(h:cm2=true->cm=true):RoomC cm2 k A:=⟨r.gd,fun z=>r.hd (h z),r.dp,r.un⟩
theorem RoomC.deeper(r:RoomC cm (k+1) A)(env:Vah):RoomC cm k (A.deeper env) :=
 ⟨r.gd,r.hd,by have:=r.dp;show A.depth+1+3*k+5<_;omega,by have:=r.un;show A.units+3+16*k+200<_;omega⟩
theorem RoomC.mark(r:RoomC cm k A):RoomC false k (A.mark h):=⟨r.gd,(fun z=>nomatch z),r.dp,r.un⟩
structure FnD(cm:Bool)(P:Program)(w:World)(K:Vf)(mg:Str->Option Value)(base:Heap)(k:Nat)(f:Addr)(fd:Vbv)(ps:List Str)(F:List D->Sto->R D):Prop where
 run:∀ (A:Around) (outer:List Vah) (s:Shared) (H:Hp) (args:Args) (us:List Value) (vs:List V) (Q:VK) (E:XK),RoomC cm k A->Env0 P w K mg base A outer s H->BindsTo s fd args (ps.zip us)->Vals vs us->spD K ps.length F vs H Q E ->
  codeAny (model P w) A (.call (.ref f) args) (CR (CXd P w) outer P w H s Q E) s
theorem Xxi(G:FnD cm X.prog X.w X.K X.mg X.base k g fd ps F)(hr:RoomC cm k X.A)(hb:Binds X.K fd ps [])
  (I:S0 X pins σ H s ρ S env) (rv:Vals vs us) (rd:RDs X.K ρ H ds vs) (hl:ds.length=ps.length) (nb:F ds S≠.bad) :
  wpAny (model X.prog X.w) X.A (call (.ref g) us) (OkP X pins σ ρ H (F ds S)) (ExP X pins σ ρ H (F ds S)) s:=by
 have hlv:vs.length=ps.length:=by rw[<- rd.length];exact hl
 have hb':BindsTo s fd ⟨us,[]⟩ (ps.zip us):=by
  have:=hb s us I.inv.kIn (by rw[Vp,<- rv.length];exact hlv)
  rwa [Vp] at this
 have hsp:spD X.K ps.length F vs H (fun v H'=>∃ d S' ρ',F ds S=.ok d S'/\RD X.K ρ' H' d v/\SR X.K ρ' S' H'/\Stp X.K ρ ρ' H H')
   (fun e _ H'=>∃ n c S' a ρ',F ds S=.ex n S'/\e=.ref a/\ρ'[n]?=some a/\S'[n]?=some (.exc c)/\SR X.K ρ' S' H'/\Stp X.K ρ ρ' H H') :=
  ⟨ds,ρ,S,hlv,rd,I.sr,nb,fun d S' v H' ρ' h1 h2 h3 h4=>⟨d,S',ρ',h1,h2,h3,h4⟩,fun n c S' a H' ρ' h1 h2 h3 h4 h5=>⟨n,c,S',a,ρ',h1,rfl,h2,h3,h4,h5⟩⟩
 refine wpAny_call (Vee (G.run X.A X.stack s H ⟨us,[]⟩ us vs _ _ hr I.inv.env0 hb' rv hsp) fun r s' hq=>?_)
 cases r with
 | error e =>
  obtain⟨H',os,bare,un,hok,⟨a',h0,tr⟩,n,c,S',a,ρ',h1,h2,h3,h4,h5,h6⟩:=hq;refine⟨n,S',h1,H',ρ',a,c,I.inv.call' os un hok bare (fun b z=>absurd z (by simp)),h2,h3,h4,h5,h6,.inr ?_⟩
  rw[h2] at h0;cases h0;refine tr.imp fun T hT=>⟨?_,fun p hp z=>?_⟩
  ·by_cases hx:T∈X.ex
   ·exact .inl hx
   ·cases q:X.s₀.heap.get? T with
    | none=>exact .inr rfl
    | some o=>obtain⟨o',e⟩:=I.inv.base.there T o q hx;rw[hT] at e;cases e
  ·have:=(I.inv.pin p hp).1
   rw[z,hT] at this;cases this
 | ok fl =>
  cases fl with
  | ret u =>
   obtain⟨v,H',J,rv',d,S',ρ',h1,h2,h3,h4⟩:=I.inv.after hq;exact⟨d,S',h1,v,H',ρ',J,rv',h2,h3,h4⟩
  | next=>exact Vef hq
  | brk=>exact Vef hq
  | cont=>exact Vef hq
theorem X16(G:FnD cm X.prog X.w X.K X.mg X.base k g fd ps F)(hr:RoomC cm k X.A)(hb:Binds X.K fd ps [])
  (hg:Gl X x) (hm:X.mg x=some (.ref g)) (hk:Vcc X.K (.ref g)=true) (ha:DA X (e::es) ga) (hl:∀ env S ds S',ga env S=.ok ds S'->ds.length=ps.length)
  (hdb:(x==("__debug__" : Str))=false) (he:Vx (e::es) X.env=(false,eval e X.env)::Vx es X.env) (hpl:(backTo pos (Vx es X.env)).any (·.1)=false) :
  DE X (.Call (.Name x p) (e::es) [] pos) (fun env S=>(ga env S).bind fun xs S=>F xs S):=by
 intro pins s σ H ρ S env I nb;dsimp only at nb ⊢;refine Vau (Xc5 I.inv hg hm ?_ hdb);cases q:ga env S with
 | bad=>rw[q] at nb;exact absurd rfl nb
 | ex n S1=>exact Vdq (h₀:=X.base) I.inv.ok.mod.kin hk (ha.ex I q fun x s' z=>⟨n,S1,rfl,z⟩) he hpl
 | ok ds S1 =>
  rw[q] at nb;simp only[Rk0] at nb ⊢;refine Vdq (h₀:=X.base) I.inv.ok.mod.kin hk (ha.ok I q fun us s1 vs H1 ρ1 I1 rv rd st1=>⟨I1.inv.kIn,?_⟩) he hpl
  exact Vj (Xxi G hr hb I1 rv rd (hl env S ds S1 q) nb) (fun u s2 z=>z.pre st1) fun x s2 z=>z.pre st1
def FlP(X:Cx)(pins:List (Addr×Obj))(σ:L2.St)(ρ:List Addr)(H:Hp)(na:Bool)(S':Sto)(s':Shared):Fl->Flow->Prop
 | .nx e,fl=>fl=.next/\∃ σ' H' ρ',S0 X pins σ' H' s' ρ' S' e/\Stp X.K ρ ρ' H H'/\(na=true->σ'=σ)
 | .brk e,fl=>fl=.brk/\∃ σ' H' ρ',S0 X pins σ' H' s' ρ' S' e/\Stp X.K ρ ρ' H H'
 | .cnt e,fl=>fl=.cont/\∃ σ' H' ρ',S0 X pins σ' H' s' ρ' S' e/\Stp X.K ρ ρ' H H'
 | .rt d,fl=>∃ u v σ' H' ρ',fl=.ret u/\Inv X pins σ' H' s'/\RelV v u/\RD X.K ρ' H' d v/\SR X.K ρ' S' H'/\Stp X.K ρ ρ' H H'
def OkS(X:Cx)(pins:List (Addr×Obj))(σ:L2.St)(ρ:List Addr)(H:Hp)(na:Bool)(r:R Fl)(fl:Flow)(s':Shared):Prop:=∃ x S',r=.ok x S'/\FlP X pins σ ρ H na S' s' x fl
def ExS(X:Cx)(pins:List (Addr×Obj))(σ:L2.St)(ρ:List Addr)(H:Hp)(na:Bool)(r:R Fl)(e:Value)(s':Shared):Prop:=∃ n S' σ',r=.ex n S'/\(na=true->σ'=σ)/\XPd X pins σ' ρ H n S' e s'
def DS(X:Cx)(st:Stmt)(na:Bool)(f:En->Sto->R Fl):Prop :=
 ∀ (pins:List (Addr×Obj)) (s:Shared) (σ:L2.St) (H:Hp) (ρ:List Addr) (S:Sto) (env:En),S0 X pins σ H s ρ S env->f env S≠.bad ->
  wpAny (model X.prog X.w) X.A (exec st X.env) (OkS X pins σ ρ H na (f env S)) (ExS X pins σ ρ H na (f env S)) s
def DSs(X:Cx)(st:List Stmt)(na:Bool)(f:En->Sto->R Fl):Prop :=
 ∀ (pins:List (Addr×Obj)) (s:Shared) (σ:L2.St) (H:Hp) (ρ:List Addr) (S:Sto) (env:En),S0 X pins σ H s ρ S env->f env S≠.bad ->
  wpAny (model X.prog X.w) X.A (execs st X.env) (OkS X pins σ ρ H na (f env S)) (ExS X pins σ ρ H na (f env S)) s
theorem FlP.pre{x:Fl}{fl:Flow}{s':Shared}{σ':L2.St}{ρ':List Addr}{H':Hp}{na na':Bool}(st:Stp X.K ρ ρ' H H')(hn:na'=true->na=true/\σ'=σ)(h:FlP X pins σ' ρ' H' na S' s' x fl):FlP X pins σ ρ H na' S' s' x fl:=by
 cases x with
 | nx e=>obtain⟨h1,σ2,H2,ρ2,h2,h3,h4⟩:=h;exact⟨h1,σ2,H2,ρ2,h2,st.trans h3,fun z=>(h4 (hn z).1).trans (hn z).2⟩
 | brk e=>obtain⟨h1,σ2,H2,ρ2,h2,h3⟩:=h;exact⟨h1,σ2,H2,ρ2,h2,st.trans h3⟩
 | cnt e=>obtain⟨h1,σ2,H2,ρ2,h2,h3⟩:=h;exact⟨h1,σ2,H2,ρ2,h2,st.trans h3⟩
 | rt d=>obtain⟨u,v,σ2,H2,ρ2,h1,h2,h3,h4,h5,h6⟩:=h;exact⟨u,v,σ2,H2,ρ2,h1,h2,h3,h4,h5,st.trans h6⟩
theorem OkS.pre{r:R Fl}{fl:Flow}{s':Shared}{σ':L2.St}{ρ':List Addr}{H':Hp}{na na':Bool}(st:Stp X.K ρ ρ' H H')(hn:na'=true->na=true/\σ'=σ)(h:OkS X pins σ' ρ' H' na r fl s'):OkS X pins σ ρ H na' r fl s':=by
 obtain⟨x,S1,e,h⟩:=h;exact⟨x,S1,e,h.pre st hn⟩
theorem ExS.of(st:Stp X.K ρ ρ' H H')(h:XPd X pins σ ρ' H' n S' x s')(e:r=.ex n S'):ExS X pins σ ρ H na r x s':=⟨n,S',σ,e,fun _=>rfl,h.pre st⟩
theorem ExS.pre{na na':Bool}{σ':L2.St}{r:R Fl}{x:Value}{s':Shared}{ρ':List Addr}{H':Hp}(st:Stp X.K ρ ρ' H H')(hn:na'=true->na=true/\σ'=σ)(h:ExS X pins σ' ρ' H' na r x s'):ExS X pins σ ρ H na' r x s':=by
 obtain⟨n,S1,σ2,e,h1,h2⟩:=h;exact⟨n,S1,σ2,e,fun z=>(h1 (hn z).1).trans (hn z).2,h2.pre st⟩
variable{st:Stmt}{Xam sa sb:List Stmt}{g g2:En->Sto->R Fl}{na na2:Bool}
theorem DS.weak(h:DS X st na g)(hn:na2=true->na=true):DS X st na2 g:=fun pins s σ H ρ S env I nb =>
 Vj (h pins s σ H ρ S env I nb) (fun _ _ z=>z.pre .refl fun q=>⟨hn q,rfl⟩) fun _ _ z=>z.pre .refl fun q=>⟨hn q,rfl⟩
theorem dss_nil:DSs X [] true (fun env S=>.ok (.nx env) S):=fun pins s σ H ρ S env I _=>Vei ⟨.nx env,S,rfl,rfl,σ,H,ρ,I,.refl,fun _=>rfl⟩
theorem Xt3(h1:DS X st na g)(h2:DSs X Xam na2 g2):DSs X (st::Xam) (na&&na2) (fun env S=>match g env S with | .ok (.nx e) S'=>g2 e S'|r=>r):=by
 intro pins s σ H ρ S env I nb;dsimp only at nb ⊢;refine wpAny_execs_cons ?_;cases q:g env S with
 | bad=>rw[q] at nb;exact absurd rfl nb
 | ex n S1 =>
  refine Vj (h1 pins s σ H ρ S env I (by rw[q];exact fun z=>nomatch z)) (fun fl s1 z=>?_) fun x s1 z=>?_
  ·obtain⟨x,S2,e,_⟩:=z;rw[q] at e;cases e
  ·rw[q] at z
   exact z.pre .refl fun w=>⟨by rw[bA0] at w;exact w.1,rfl⟩
 | ok x S1 =>
  rw[q] at nb;refine Vj (h1 pins s σ H ρ S env I (by rw[q];exact fun z=>nomatch z)) (fun fl s1 z=>?_) fun x s1 z=>?_
  ·obtain⟨y,S2,e,z⟩:=z
   rw[q] at e;cases e;cases x with
   | nx e =>
    obtain⟨rfl,σ1,H1,ρ1,I1,st1,hσ⟩:=z;exact Vj (h2 pins s1 σ1 H1 ρ1 S1 e I1 nb) (fun fl s2 z=>z.pre st1 fun w=>by rw[bA0] at w;exact⟨w.2,hσ w.1⟩) fun x s2 z=>z.pre st1 fun w=>by rw[bA0] at w;exact⟨w.2,hσ w.1⟩
   | brk e=>obtain⟨rfl,σ1,H1,ρ1,I1,st1⟩:=z;exact⟨.brk e,S1,rfl,rfl,σ1,H1,ρ1,I1,st1⟩
   | cnt e=>obtain⟨rfl,σ1,H1,ρ1,I1,st1⟩:=z;exact⟨.cnt e,S1,rfl,rfl,σ1,H1,ρ1,I1,st1⟩
   | rt d=>obtain⟨u,v,σ1,H1,ρ1,rfl,r⟩:=z;exact⟨.rt d,S1,rfl,u,v,σ1,H1,ρ1,rfl,r⟩
  ·obtain⟨k,S2,σ2,e,_⟩:=z
   rw[q] at e;cases e
theorem ds_pass:DS X (.Pass pos) true (fun env S=>.ok (.nx env) S):=fun pins s σ H ρ S env I _=>wpAny_Pass ⟨.nx env,S,rfl,rfl,σ,H,ρ,I,.refl,fun _=>rfl⟩
theorem ds_brk:DS X (.Break pos) false (fun env S=>.ok (.brk env) S):=fun pins s σ H ρ S env I _=>wpAny_Break ⟨.brk env,S,rfl,rfl,σ,H,ρ,I,.refl⟩
theorem ds_cnt:DS X (.Continue pos) false (fun env S=>.ok (.cnt env) S):=fun pins s σ H ρ S env I _=>wpAny_Continue ⟨.cnt env,S,rfl,rfl,σ,H,ρ,I,.refl⟩
theorem Xye(he:DE X e f)(hs:Vdr e none pos.line X.env=pure false):DS X (.Expr e pos) true (fun env S=>(f env S).bind fun _ S=>.ok (.nx env) S):=by
 intro pins s σ H ρ S env I nb;dsimp only at nb ⊢;cases q:f env S with
 | bad=>rw[q] at nb;exact absurd rfl nb
 | ex n S1=>exact wpAny_Expr_any (he.ex I q fun x s' z=>.of .refl z rfl) I.inv.quiet hs
 | ok d S1=>exact wpAny_Expr_any (he.ok I q fun u s' v H' ρ' J rv rd st=>⟨.nx env,S1,rfl,rfl,σ,H',ρ',J,st,fun _=>rfl⟩) I.inv.quiet hs
theorem X17(he:DE X e f):DS X (.Return (some e) pos) true (fun env S=>(f env S).bind fun x S=>.ok (.rt x) S):=by
 intro pins s σ H ρ S env I nb;dsimp only at nb ⊢;cases q:f env S with
 | bad=>rw[q] at nb;exact absurd rfl nb
 | ex n S1=>exact wpAny_Return_some (he.ex I q fun x s' z=>.of .refl z rfl)
 | ok d S1=>exact wpAny_Return_some (he.ok I q fun u s' v H' ρ' J rv rd st=>⟨.rt d,S1,rfl,u,v,σ,H',ρ',rfl,J.inv,rv,rd,J.sr,st⟩)
theorem X59(hc:DT X c (fun env S=>tst (fc env S)))(ha:DSs X sa na g)(hb:DSs X sb na2 g2) :
  DS X (.If c sa sb pos) (na&&na2) (fun env S=>(fc env S).bind fun x S=>match Xg S x with|some true=>g env S|some false=>g2 env S|none=>.bad):=by
 intro pins s σ H ρ S env I nb;dsimp only at nb ⊢;cases q:fc env S with
 | bad=>rw[q] at nb;exact absurd rfl nb
 | ex n S1=>exact wpAny_If (hc.ex I (by simp only[q];rfl) fun x s' z=>.of .refl z rfl)
 | ok x S1 =>
  rw[q] at nb;simp only[Rk0] at nb ⊢;cases t:Xg S1 x with
  | none=>rw[t] at nb;exact absurd rfl nb
  | some r =>
   rw[t] at nb;refine wpAny_If (hc.ok I (by simp only[q];exact Xbk t) fun s2 H2 ρ2 I2 st2=>?_)
   cases r with
   | true=>exact Vj (ha pins s2 σ H2 ρ2 S1 env I2 nb) (fun w s3 z=>z.pre st2 fun w=>by rw[bA0] at w;exact⟨w.1,rfl⟩) fun x s' z=>z.pre st2 fun w=>by rw[bA0] at w;exact⟨w.1,rfl⟩
   | false=>exact Vj (hb pins s2 σ H2 ρ2 S1 env I2 nb) (fun w s3 z=>z.pre st2 fun w=>by rw[bA0] at w;exact⟨w.2,rfl⟩) fun x s' z=>z.pre st2 fun w=>by rw[bA0] at w;exact⟨w.2,rfl⟩
theorem X18(hN:X.N.Nodup)(hi:X.N[i]?=some x)(hx:Loc X.env.scope x)(hf:X.fn x=true\/X.env.scope.names.lookup x=some .local)(he:DE X e f)(hs:Vdr e (some (.Name x pos')) pos.line X.env=pure false) :
  DS X (.Assign [.Name x pos'] e pos) false (fun env S=>(f env S).bind fun x S=>match Xl (.var i) x env with|some env=>.ok (.nx env) S|none=>.bad):=by
 intro pins s σ H ρ S env I nb;dsimp only at nb ⊢;cases q:f env S with
 | bad=>rw[q] at nb;exact absurd rfl nb
 | ex n S1=>exact wpAny_Assign_Name (he.ex I q fun x s' z=>.of .refl z rfl) hs
 | ok d S1 =>
  refine wpAny_Assign_Name (he.ok I q fun u s' v H' ρ' J rv rd st=>?_) hs
  exact Xba J.inv hN hi hx rv (fun s2 I2=>⟨.nx (env.set i (some d)),S1,rfl,rfl,_,H',ρ',⟨I2,J.sr,J.er.set i rd⟩,st,fun z=>nomatch z⟩) hf
theorem Xct{b:Addr}{u:HO}(x:ObjOk P w H h b u):∃ o,h.get? b=some o:=by
 cases u with
 | lst xs=>obtain⟨_,_,_,_,e⟩:=x;exact⟨_,e⟩
 | tup xs=>obtain⟨_,_,_,o,e,_⟩:=x;exact⟨_,e⟩
 | dK kvs=>obtain⟨_,_,_,_,o,_,_,e,_⟩:=x;exact⟨_,e⟩
 | dT kvs=>obtain⟨_,_,_,_,o,_,_,e,_⟩:=x;exact⟨_,e⟩
 | set S n=>obtain⟨o,_,_,_,e,_⟩:=x;exact⟨_,e⟩
 | ins C dx fs=>obtain⟨_,_,_,e,_⟩:=x;exact⟨_,e⟩
 | own y=>exact x
 | xd fs=>obtain⟨_,⟨_,_,_,e,_⟩,_⟩:=x;exact⟨_,e⟩
 | rng lo hi=>obtain⟨_,_,_,e⟩:=x;exact⟨_,e⟩
 | frz ob u=>obtain⟨e,_⟩:=x;exact⟨_,e⟩
 | tbl ps=>exact⟨_,(show h.get? b=some _ from x)⟩
 | met f y=>exact⟨_,(show h.get? b=some _ from x)⟩
 | ext φ=>exact x.2.1
theorem Xa8{h g g':Heap}:∀ {l:List Vah},h.FunFrames g l->(∀ b∈frs l,g'.get? b=none)->h.FunFrames g' l
 | [],_,_=>trivial
 | env::r,⟨hk,⟨L,o,hf,_,ho,hd⟩,hr⟩,k=>by
  have e:frs (env::r)=L::frs r:=by unfold frs;rw[Ul,hf]
  rw[e] at k;exact⟨hk,⟨L,o,hf,k L (.head _),ho,hd⟩,Xa8 hr fun b hb=>k b (.tail _ hb)⟩
structure Hid(X:Cx)(H':Hp)(a:Addr)(h:Heap)(l:List Addr):Prop where
 er:a∈l
 fr:∀ b∈frs X.stack,b∈l
 of:∀ b∈l,b=a\/b∈frs X.stack\/(H' b=none/\∃ o vs,h.get? b=some o/\o.data=.fields vs)
theorem Xny{pins:List (Addr×Obj)}{σ:L2.St}{a C:Addr}{l:List Addr}(I:Inv X pins σ H' s')(ha:H' a=some (.ext (ExcO C a)))(hl:Hid X H' a s'.heap l)
  (keep:∀ b o,s'.heap.get? b=some o->b ∉ l->h'.get? b=some o) (he:ExcO C a h'):HOk X.prog X.w H' h':=by
 have out:∀ b u,b≠a->H' b=some u->b ∉ l:=fun b u hb q hm=>by
  rcases hl.of b hm with z|z|⟨z,_⟩
  ·exact hb z
  ·rw[I.stkFree b z] at q;cases q
  ·rw[z] at q;cases q
 intro b u q
 by_cases hb:b=a
 ·subst hb;rw[ha] at q;cases q;exact he.ok
 ·refine(I.hok b u q).stay (fun c v hc e=>?_) (fun _ z=>z) fun _ _ z=>z
  rcases hc with rfl|hc
  ·exact keep c v e (out c u hb q)
  ·exact keep c v e (out c _ (fun z=>by rw[z,ha] at hc;cases hc) hc)
theorem Xyf{X:Cx}{pins:List (Addr×Obj)}{σ:L2.St}{H':Hp}{s':Shared}{a C:Addr}{Q:Unit->Shared->Prop}{E:Value->Shared->Prop}(I:Inv X pins σ H' s')(hs:X.stack=X.env::X.outer)(hf:X.env.frame=some X.env.locals)(hx:X.ex=[])
  (ha:H' a=some (.ext (ExcO C a))) (fl:Fly X pins H' a s'.heap)
  (hQ:∀ h',Un X.fs [] X.H₀ H' X.s₀.heap h'->HOk X.prog X.w H' h'->Trc (fun T=>X.s₀.heap.get? T=none) H' a h'->Q () { s' with heap:=h' }):wpAny (model X.prog X.w) X.A (leaving X.env (.ref a)) Q E s':=by
 have hfrs:frs X.stack=X.env.locals::X.fs:=by rw[hs];unfold frs;rw[Ul,hf];rfl
 have hA:X.A.frames=some (X.env::X.outer):=by rw[<- hs];exact I.ok.frames
 have hI:=I.stack;obtain⟨⟨oa,va,a0,ea,ca,da,v0,vz⟩,_,_⟩:=(show ObjOk X.prog X.w H' s'.heap a (.ext (ExcO C a)) from I.hok a _ ha);have fin:∀ (l:List Addr) (h':Heap),Hid X H' a s'.heap l->(∀ b∈l,b≠a->b ∉ frs X.stack->X.s₀.heap.get? b=none)->Heap.LeftW (Vaz s'.heap l) (X.env::X.outer) a (.ref C) a0 s'.heap h'->Q () { s' with heap:=h' }:=by
  intro l h' hl hnew ⟨k1,k2,⟨oe,vs,T,oT,ts,t1,⟨t2,t3⟩,t4,t5,t6,t7,t8,t9,t10⟩,k4⟩;have keep:∀ b o,s'.heap.get? b=some o->b ∉ l->h'.get? b=some o:=fun b o e hb=>k1 b o (Vdf l e hb)
  have nfr:∀ b∈frs X.stack,∃ o,s'.heap.get? b=some o/\∀ vs,o.data≠.fields vs:=fun b hb=>(hI.mem hb).2
  have frk:∀ b∈frs X.stack,∀ o,s'.heap.get? b=some o->∃ sl,h'.get? b=some { o with slots:=sl }:=fun b hb o e=>by
   obtain⟨o',e',nd⟩:=nfr b hb;rw[e] at e';cases e';exact k4 b o e nd
  have old:∀ b o,X.s₀.heap.get? b=some o->b≠X.env.locals:=fun b o e=>V5 (Vu (Vm e) I.ok.above)
  have nx:∀ b:Addr,b ∉ X.ex:=fun b z=>by rw[hx] at z;cases z
  have hT:∀ o,s'.heap.get? T=some o->T∈l:=fun o e=>by
   by_cases hm:T∈l
   ·exact hm
   ·rw[Vdf l e hm] at t6;cases t6
  have nT:T ∉ frs X.stack:=fun hm=>by
   obtain⟨o,e,nd⟩:=nfr T hm;obtain⟨sl,e'⟩:=frk T hm o e;rw[t8] at e';cases e';exact nd ts t9
  refine hQ h' ⟨fun b o e n hb _=>?_,fun b o e n hb _=>?_,fun b o e n _=>I.base.free b o e n (nx b),fun b o e _=>?_,I.base.tups,I.base.frzs,I.base.tbls⟩ (Xny I ha hl keep ⟨oe,vs,a0,t1,t2,t4,t3,(Ve8.mp t5).1⟩) ⟨oe,vs,T,oT,ts,t1,t4,t5,?_,t7,?_,t8,t9,t10⟩
  ·refine keep b o (I.base.keep b o e n hb (nx b)) fun hm=>?_
   have fb:=I.base.free b o e n (nx b)
   by_cases h1:b=a
   ·rw[h1,ha] at fb;cases fb
   ·by_cases h2:b∈frs X.stack
    ·rw[hfrs] at h2
     rcases Vl.mp h2 with z|z
     ·exact old b o e z
     ·exact hb z
    ·rw[hnew b hm h1 h2] at e;cases e
  ·obtain⟨sl,e1⟩:=I.base.slot b o e n hb (nx b)
   obtain⟨sl',e2⟩:=frk b (by rw[hfrs];exact .tail _ hb) _ e1
   exact⟨sl',e2⟩
  ·obtain⟨o',e1⟩:=I.base.there b o e (nx b)
   by_cases hm:b∈l
   ·by_cases h1:b=a
    ·subst h1;exact⟨_,t1⟩
    ·by_cases h2:b∈frs X.stack
     ·obtain⟨sl,e2⟩:=frk b h2 o' e1;exact⟨_,e2⟩
     ·rw[hnew b hm h1 h2] at e;cases e
   ·exact⟨_,keep b o' e1 hm⟩
  ·cases q:X.s₀.heap.get? T with
   | none=>exact q
   | some o =>
    obtain⟨o',e1⟩:=I.base.there T o q (nx T);rw[hnew T (hT o' e1) t7 nT] at q;cases q
  ·cases q:H' T with
   | none=>rfl
   | some u =>
    obtain⟨o',e1⟩:=Xct (I.hok T u q);rcases hl.of T (hT o' e1) with z|z|⟨z,_⟩
    ·exact absurd z t7
    ·exact absurd z nT
    ·rw[z] at q;cases q
 rcases fl with⟨oe,vs,e1,e2,e3⟩|⟨oe,vs,T,oT,ts,e1,e2,e3,⟨e4,e5⟩,e6,e7,e8,e9,e10⟩
 ·have hl:Hid X H' a s'.heap (a::frs X.stack):=⟨.head _,fun b hb=>.tail _ hb,fun b hb=>by
   rcases Vl.mp hb with z|z
   ·exact .inl z
   ·exact .inr (.inl z)⟩
  rw[ea] at e1;cases e1;rw[da] at e2;cases e2;refine wpAny_leaving_firstW (base:=Vaz s'.heap (a::frs X.stack)) (a0:=a0) hA (by rw[<- hs];exact Xa8 hI fun b hb=>Up _ (.tail _ hb)) hf ea (fun b o e=>Vcn _ e) (Up _ (.head _)) da e3 v0 fun h' hL=>?_
  rw[ca] at hL;exact fin _ h' hl (fun b hb h1 h2=>by
   rcases Vl.mp hb with z|z
   ·exact absurd z h1
   ·exact absurd z h2) hL
 ·have hl:Hid X H' a s'.heap (a::T::frs X.stack):=⟨.head _,fun b hb=>.tail _ (.tail _ hb),fun b hb=>by
   rcases Vl.mp hb with z|z
   ·exact .inl z
   ·rcases Vl.mp z with z|z
    ·subst z;exact .inr (.inr ⟨e7,oT,ts,e8,e9⟩)
    ·exact .inr (.inl z)⟩
  rw[ea] at e1;cases e1;rw[da] at e2;cases e2;refine wpAny_leaving_nextW (base:=Vaz s'.heap (a::T::frs X.stack)) (cls:=.ref C) (a0:=a0) hA (by rw[<- hs];exact Xa8 hI fun b hb=>Up _ (.tail _ (.tail _ hb))) hf ⟨oa,va,T,oT,ts,ea,⟨ca,v0⟩,da,e3,Up _ (.tail _ (.head _)),e6,e8,e9,e10⟩ (fun b o e=>Vcn _ e) (Up _ (.head _)) fun h' hL=>?_
  exact fin _ h' hl (fun b hb h1 h2=>by
   rcases Vl.mp hb with z|z
   ·exact absurd z h1
   ·rcases Vl.mp z with z|z
    ·subst z
     rcases e4 with e4|e4
     ·rw[hx] at e4;cases e4
     ·exact e4
    ·exact absurd z h2) hL
noncomputable def cxC(cm:Bool)(P:Program)(w:World)(K:Vf)(mg:Str->Option Value)(base:Heap)(N:List Str)(qual:Str)(scope:Scope)(f:Addr)(cd:Value)(A:Around)(outer:List Vah)(s:Shared)(H:Hp)(E:XK):Cx :=
 { Xo1 (CXd P w) P w K mg base N qual scope f cd A outer s H E with calm:=cm }
theorem X19{cm:Bool}{P:Program}{w:World}{K:Vf}{mg:Str->Option Value}{base:Heap}{k:Nat}{f:Addr}{name qual:Str}{params:Arguments}{body:List Stmt}{scope:Scope}{dV kV doc pm cdv ct oc:Value}{an od:Option Addr}
  {osl:Array (Option Value)} {N ps:List Str} {G:En->Sto->R Fl} {na:Bool} (lk:K.lookup f=some ⟨oc,od,.func (Va7 name qual params body scope dV kV doc pm an cdv ct),osl⟩) (hcd:Vex K cdv qual=true) (S:FnScope N ps scope)
  (hbody:∀ (A:Around) (outer:List Vah) (s:Shared) (H:Hp) (E:XK),RoomC cm k (A.deeper (envOfC qual scope s.heap.objs.size f cdv))->DSs (cxC cm P w K mg base N qual scope f cdv A outer s H E) body na G) :
  FnD cm P w K mg base (k+1) f (Va7 name qual params body scope dV kV doc pm an cdv ct) ps (fun ds S=>if ds.length=ps.length then
   match G (ds.map some++Vd (N.length-ps.length) none) S with
   | .ok (.rt v) S=>.ok v S
   | .ok (.nx _) S=>.ok .non S
   | .ok _ _=>.bad
   | .ex n S=>.ex n S
   | .bad=>.bad else .bad):=by
 refine⟨fun A outer s H args us vs Q E hr e0 hb r hsp=>?_⟩
 obtain⟨ds,ρ,S0',hl,rd,sr,nb,hok,hex⟩:=hsp;have hl':ds.length=ps.length:=by rw[rd.length];exact hl
 dsimp only at nb hok hex;rw[if_pos hl'] at nb;simp only[if_pos hl'] at hok hex;have KX:K.In s.heap:=e0.mod.kin.keeps fun b o e=>(e0.bs b o e).1
 have lim:s.heap.NoLimit:=e0.mod.nolimit.keeps fun b o e=>(e0.bs b o e).1
 have hkind:∀ y∈ps.zip us,scope.names.lookup y.1=some .local\/(scope.names.lookup y.1=some .cell/\((Vao (s.heap.objs.size+1) scope.names []).lookup y.1).isSome=true):=fun⟨n,v⟩ hy=>by
  rcases S.par n (List.of_mem_zip hy).1 with q|q
  ·exact .inl q
  ·exact .inr ⟨q,Vd2 _ _ _ (.inl q)⟩
 refine codeAny_call_function (by have:=hr.dp;omega) (KX _ _ lk) rfl S.co S.gen rfl (PySem.W.codeRec_of KX hcd) (hb _ _ _ _ ?_)
 refine wpAny_newFunctionEnv_cells S.kind hkind fun env he s1 x=>?_
 subst he;refine⟨lim.keeps x.toInCall.keep,codeAny_func ?_⟩;have hD:=hbody A outer s H E (hr.deeper _);have e0':Env0 P w K mg base { A with handled:=none } outer s H:=⟨e0.frames,e0.mod,e0.bs,e0.bsz,e0.funs,e0.frf,e0.hok,e0.bare⟩
 have I:Inv (cxC cm P w K mg base N qual scope f cdv A outer s H E) [] (start N vs) H s1:=by
  have I0:Inv (Xo1 (CXd P w) P w K mg base N qual scope f cdv { A with handled:=none } outer s H E) [] (start N vs) H s1:=Xq3 S rfl e0' hl r x
  exact⟨⟨I0.ok.mod,I0.ok.kind,I0.ok.glob,I0.ok.blt,I0.ok.above,I0.ok.inj,I0.ok.has,I0.ok.cab,(fun z=>hr.hd z),I0.ok.frames,I0.ok.stk,I0.ok.exf,I0.ok.bs,I0.ok.bsz,I0.ok.noex,I0.ok.exfs,I0.ok.funs,I0.ok.frf⟩,I0.os,I0.bare,I0.base,I0.loc,I0.cell,I0.free,I0.freeC,I0.pin,I0.hok,I0.len⟩
 have J:S0 (cxC cm P w K mg base N qual scope f cdv A outer s H E) [] (start N vs) H s1 ρ S0' (ds.map some++Vd (N.length-ps.length) none):=by
  refine⟨I,sr,⟨?_,fun i d e=>?_⟩⟩
  ·unfold L2.start;simp[rd.length,hl]
  ·by_cases hi:i<ds.length
   ·rw[Vq (by simpa using hi),V1] at e
    cases q:ds[i]? with
    | none=>rw[q] at e;cases e
    | some d' =>
     rw[q] at e;cases e;obtain⟨v,h1,h2⟩:=rd.get q;refine⟨v,?_,h2⟩;unfold L2.start;rw[Vq (by rw[Vr,<- rd.length];exact hi),V1,h1];rfl
   ·rw[Vac (by simpa using hi),Vbu] at e
    split at e<;>cases e
 have nb':G (ds.map some++Vd (N.length-ps.length) none) S0'≠.bad:=fun z=>nb (by rw[z])
 refine Vj (hD [] s1 (start N vs) H ρ S0' _ J nb') (fun fl s' hs=>?_) fun e s' hs=>?_
 ·obtain⟨y,S1,e1,hs⟩:=hs
  rw[e1] at nb hok;cases y with
  | nx e =>
   obtain⟨rfl,σ',H',ρ',J',st',_⟩:=hs;exact⟨.non,H',J'.inv.os,J'.inv.bare,J'.inv.base,J'.inv.hok,rfl,hok .non S1 .non H' ρ' rfl (by simp only[RD]) J'.sr st'⟩
  | rt d =>
   obtain⟨u,v,σ',H',ρ',rfl,J',rv,rd',sr',st'⟩:=hs;exact⟨v,H',J'.os,J'.bare,J'.base,J'.hok,rv,hok d S1 v H' ρ' rfl rd' sr' st'⟩
  | brk e=>exact absurd rfl nb
  | cnt e=>exact absurd rfl nb
 ·obtain⟨n,S1,σ',e1,_,H',ρ',a,c,J',rfl,hn,hc,sr',st',fl⟩:=hs
  rw[e1] at hex;obtain⟨C,_,ha⟩:=(show ∃ C,Xak K c=some C/\H' a=some (.ext (ExcO C a)) from sr'.ob n a _ hn hc);exact Xyf J' rfl rfl rfl ha fl fun h' un hok tr=>⟨H',J'.os,J'.bare,un,hok,⟨a,rfl,tr⟩,hex n c S1 a H' ρ' rfl hn hc sr' st'⟩
end
theorem Xbe{pins:List (Addr×Obj)}{t':Nat}{fp:List Addr}(I:Inv X pins σ H s)(hf:∀ b∈fp,Xaf X pins H b)
  (k:∀ b o,b ∉ fp->s.heap.get? b=some o->h'.get? b=some o):Inv X pins σ H { s with heap:=h',toks:=t' }:=by
 have nit:∀ b u,H b=some u->b ∉ fp:=fun b u e z=>by rw[(hf b z).1] at e;cases e
 refine I.step (g':=s.gens) (d':=s.drawn) (ch:=fp) (fun b hb=>⟨(hf b hb).2.2.2.1,(hf b hb).2.1,(hf b hb).2.2.2.2.1,(hf b hb).2.2.2.2.2⟩)
  (fun b o _ _ hc e _=>k b o hc e) (fun b o _ _ hc e _=>⟨o.slots,k b o hc e⟩) (fun _ _ _ _ n=>n)
  (fun b o hc e=>⟨o,k b o hc e⟩) (fun _ _ e=>e) (fun _ _ _ e=>e) (fun b ps e=>⟨#[],by rw[e];simp⟩) (fun m hm=>?_) (fun b u e=>?_) I.bare
 ·obtain⟨o,es,ep,ho,r⟩:=hm
  exact⟨o,es,ep,k _ o (fun z=>(hf _ z).2.1 rfl) ho,r⟩
 ·refine(I.hok b u e).stay (fun c v hc q=>k c v ?_ q) (fun _ q=>q) fun _ _ q=>q
  rcases hc with z|z
  ·rw[z];exact nit b u e
  ·exact nit c _ z
def SqK(k:Bool)(h:Heap)(a:Addr)(xs:Array Value):Prop:=match k with
 | true=>h.IsList a xs
 | false=>h.IsTuple a xs
def ItK(k:Bool)(h:Heap)(i a:Addr)(n:Nat):Prop:=match k with
 | true=>h.IsListIter i a n
 | false=>h.IsTupleIter i a n
def SqH(k:Bool)(K:Vf)(H:Hp)(a:Addr)(vs:List V):Prop:=match k with
 | true=>SqL K H a vs
 | false=>SqT K H a vs
section
variable{k:Bool}{h h':Heap}{a b i:Addr}{n:Nat}{xs:Array Value}
theorem SqK.at(x:SqK k h a xs)(e:∀ o,h.get? a=some o->h'.get? a=some o):SqK k h' a xs:=by
 cases k<;>(obtain⟨o,ho,r⟩:=x;exact⟨o,e _ ho,r⟩)
theorem ItK.at(x:ItK k h i a n)(e:∀ o,h.get? i=some o->h'.get? i=some o):ItK k h' i a n:=by
 cases k<;>(obtain⟨o,ho,r⟩:=x;exact⟨o,e _ ho,r⟩)
theorem SqK.obj(x:SqK k h a xs):∃ o,h.get? a=some o/\(o.cls=.type "list" \/ o.cls=.type "tuple"):=by
 cases k
 ·obtain⟨o,e,c,_⟩:=x;exact⟨o,e,.inr c⟩
 ·obtain⟨o,e,c,_⟩:=x;exact⟨o,e,.inl c⟩
theorem ItK.obj(x:ItK k h i a n):∃ o,h.get? i=some o/\(o.cls=.type "list_iterator" \/ o.cls=.type "tuple_iterator")/\∀ v,o.data≠.cell v:=by
 cases k
 ·obtain⟨o,e,c,d⟩:=x;exact⟨o,e,.inr c,fun v z=>by rw[d] at z;cases z⟩
 ·obtain⟨o,e,c,d⟩:=x;exact⟨o,e,.inl c,fun v z=>by rw[d] at z;cases z⟩
end
theorem Xax(I:Inv X pins σ H s)(h:SqH k X.K H a vs):∃ its:List Value,Vals vs its/\SqK k s.heap a its.toArray:=by
 cases k
 ·obtain⟨its,rv,p,_⟩:=I.tuple h;exact⟨its,rv,show s.heap.IsTuple a its.toArray from p⟩
 ·obtain⟨its,rv,p,_⟩:=I.list h;exact⟨its,rv,p.isList⟩
theorem Xci(I:Inv X pins σ H s)(h:SqH k X.K H a vs)(h':SqH k X.K H a us):vs=us:=by
 cases k
 ·exact I.tuple_inj h h'
 ·exact I.list_inj h h'
section
variable{prog:Program}{w:World}{A:Around}{E:Value->Shared->Prop}{s:Shared}
theorem Xt4(hit:s.heap.IsTupleIter it t i)(ht:s.heap.IsTuple t items)(hx:items[i]?=some x)
  (hQ:∀ h',h'.IsTupleIter it t (i+1)->Ui it s.heap h'->Q x { s with heap:=h' }):wpAny (model prog w) A (Vw (.ref it)) Q E s:=by
 obtain⟨o,ho,hc,hd⟩:=id hit;obtain⟨ol,hol,_,nl,hdl⟩:=ht;unfold Vw;refine Va (Uc (name:=Ub "__next__") hit.typeIs Vb2 (Uq Vb2 hit.typeIs Ve2 ?_ (Vey _)));show wpAny _ _ (field (.ref it) 0 >>= _) _ _ s;refine Va (V3 ho hd (x:=.ref t) rfl ?_);show wpAny _ _ (if (Vae t==Vcm)=true then _ else _) _ _ s;rw[if_neg (show ¬ ((Vae t==Vcm)=true) from V9)]
 show wpAny _ _ (field (.ref it) 1 >>= _) _ _ s;refine Va (V3 ho hd (x:=.int i 0) rfl ?_);show wpAny _ _ (seqItems? (.ref t) >>= _) _ _ s;refine Va (Vbf hol hdl ?_);simp only[Vay,hx];refine Va (wpAny_setField ho hd (by simp) (Vg ⟨x,rfl,Vg (hQ _ ⟨_,Vbe _ ho (Obj.isFreed_of_fields (Obj.data_mapFields hd _)),(Obj.cls_mapFields ..).trans hc,by rw[Obj.data_mapFields hd];simp[rawInt]⟩ (Heap.SameBut.update ..))⟩))
theorem Xyg(hh:A.handled=none)(hit:s.heap.IsTupleIter it t i)(ht:s.heap.IsTuple t items)(hx:items[i]?=none)
  (hE:∀ h' e,Heap.ExtBut it s.heap h'->(∃ o,h'.get? e=some o/\o.cls=.type "StopIteration")->E (.ref e) { s with heap:=h' }):wpAny (model prog w) A (Vw (.ref it)) Q E s:=by
 obtain⟨o,ho,hc,hd⟩:=id hit;obtain⟨ol,hol,_,nl,hdl⟩:=ht;unfold Vw;refine Va (Uc (name:=Ub "__next__") hit.typeIs Vb2 (Uq Vb2 hit.typeIs Ve2 ?_ (Vey _)));show wpAny _ _ (field (.ref it) 0 >>= _) _ _ s;refine Va (V3 ho hd (x:=.ref t) rfl ?_);show wpAny _ _ (if (Vae t==Vcm)=true then _ else _) _ _ s;rw[if_neg (show ¬ ((Vae t==Vcm)=true) from V9)]
 show wpAny _ _ (field (.ref it) 1 >>= _) _ _ s;refine Va (V3 ho hd (x:=.int i 0) rfl ?_);show wpAny _ _ (seqItems? (.ref t) >>= _) _ _ s;refine Va (Vbf hol hdl ?_);simp only[Vay,hx];refine Va (Vca (Va (wpAny_setField ho hd (by simp) ?_)))
 show wpAny _ _ (newExc (.type "StopIteration") [] >>= _) _ _ _;refine Va ?_;simp only[newExc,newTuple];refine Va (Vai ?_ (by size_fits));refine Va (m:=firstArgMember _ _) (wpAny_of_eq (a:=Vcm) (by first|rfl|(simp only[firstArgMember];rfl)) ?_)
 refine Vai ?_ (by size_fits);simp only[raiseNew];refine Va (wpAny_handled ?_)
 first|rw[show A.in1.handled=none from hh]|rw[hh]
 exact Va (Vg (wpAny_throw (hE _ _ (((Heap.SameBut.update ..).extBut.push _).push _) ⟨_,Vk _ rfl,rfl⟩)))
theorem nxK(hit:ItK k s.heap it t i)(ht:SqK k s.heap t items)(hx:items[i]?=some x)
  (hQ:∀ h',ItK k h' it t (i+1)->Ui it s.heap h'->Q x { s with heap:=h' }):wpAny (model prog w) A (Vw (.ref it)) Q E s:=by
 cases k
 ·exact Xt4 hit ht hx hQ
 ·exact wpAny_nextOf_list_item hit ht hx hQ
theorem Xlb(hh:A.handled=none)(hit:ItK k s.heap it t i)(ht:SqK k s.heap t items)(hx:items[i]?=none)
  (hE:∀ h' e,Heap.ExtBut it s.heap h'->(∃ o,h'.get? e=some o/\o.cls=.type "StopIteration")->E (.ref e) { s with heap:=h' }):wpAny (model prog w) A (Vw (.ref it)) Q E s:=by
 cases k
 ·exact Xyg hh hit ht hx hE
 ·exact wpAny_nextOf_list_end hh hit ht hx hE
noncomputable def Xc2(k:Bool):String:=match k with
 | true => "list_iterator"
 | false => "tuple_iterator"
theorem Xke(h:SqK k s.heap a xs)(hQ:Q (.ref s.heap.objs.size) { s with heap:=s.heap.push { cls:=.type (Xc2 k),data:=.fields #[.ref a,.int 0 0] } }) :
  wpAny (model prog w) A (pyIter (.ref a)) Q E s:=by
 cases k
 ·exact Ve3 h hQ
 ·exact Vfe h hQ
theorem Xhl(e:h.get? i=some { cls:=.type (Xc2 k),data:=.fields #[.ref a,.int 0 0] }):ItK k h i a 0:=by
 cases k<;>exact⟨_,e,rfl,rfl⟩
end
structure ZAp(z I O i j a b:Addr):Prop where
 Iz:I≠z
 Oz:O≠z
 iz:i≠z
 jz:j≠z
 IO:I≠O
 Ii:I≠i
 Ij:I≠j
 Oi:O≠i
 Oj:O≠j
 ij:i≠j
 a_:a≠z/\a≠O/\a≠i/\a≠j
 b_:b≠z/\b≠O/\b≠i/\b≠j
abbrev IsZ(h:Heap)(z I O:Addr)(f0 f1:Value):Prop :=
 h.get? z=some { cls:=.type "zip",dict:=none,data:=.fields #[f0,f1,.bool false,.ref I,.ref O],slots:=#[] }
structure ZSa(k1 k2:Bool)(z I O i j a b:Addr)(n m:Nat)(h:Heap):Prop where
 zo:∃ f0 f1,IsZ h z I O f0 f1/\(f0=.none\/∃ T:Nat,f0=rawInt T)
 io:IsPair h I (.ref i) (.ref j)
 oo:∃ x y,IsPair h O x y
 i1:ItK k1 h i a n
 i2:ItK k2 h j b m
section
variable(k1 k2:Bool)(h:Heap)(a b:Addr)
noncomputable abbrev zp1:Heap:=h.push { cls:=.type (Xc2 k1),data:=.fields #[.ref a,.int 0 0] }
noncomputable abbrev zp2:Heap:=(zp1 k1 h a).push { cls:=.type (Xc2 k2),data:=.fields #[.ref b,.int 0 0] }
noncomputable abbrev zp3:Heap:=(zp2 k1 k2 h a b).push { cls:=.type "tuple",data:=.seq #[.ref h.objs.size,.ref (zp1 k1 h a).objs.size] }
noncomputable abbrev zp4:Heap:=(zp3 k1 k2 h a b).push { cls:=.type "tuple",data:=.seq #[.none,.none] }
noncomputable abbrev zp5:Heap:=(zp4 k1 k2 h a b).push { cls:=.type "zip",data:=.fields #[.none,.bool false,.bool false,.ref (zp2 k1 k2 h a b).objs.size,.ref (zp3 k1 k2 h a b).objs.size] }
end
theorem Xrc(k1 k2:Bool)(a b:Addr)(xs ys:Array Value):Meets (Builtin.«zip.__new__» ⟨[.type "zip",.ref a,.ref b],[]⟩) (fun _ R s=>SqK k1 s.heap a xs/\SqK k2 s.heap b ys/\R (.ok (.ret (.ref (zp4 k1 k2 s.heap a b).objs.size))) { s with heap:=zp5 k1 k2 s.heap a b }) :=
 .of_wp fun prog w A R s h=>by
  obtain⟨hp,g,d,tk,os⟩:=s;obtain⟨h1,h2,h⟩:=h;have hsub:=sub_zip;have L1:SqK k1 (Shared.heap ⟨hp,g,d,tk,os⟩) a xs:=h1;have L2:SqK k2 (Shared.heap ⟨hp.push { cls:=.type (Xc2 k1),data:=.fields #[.ref a,.int 0 0] },g,d,tk,os⟩) b ys:=h2.at fun o e=>Vb _ e
  wp_walk using Xke L1,Xke L2
  exact⟨_,rfl,h⟩
theorem Xt5(h1:SqK k1 s.heap a xs)(h2:SqK k2 s.heap b ys)
  (h:∀ h',ZSa k1 k2 (s.heap.objs.size+4) (s.heap.objs.size+2) (s.heap.objs.size+3) s.heap.objs.size (s.heap.objs.size+1) a b 0 0 h'->(∀ c o,s.heap.get? c=some o->h'.get? c=some o)->Q (.ref (s.heap.objs.size+4)) { s with heap:=h' }) :
  wpAny (model prog w) A (call (.type "zip") [.ref a,.ref b]) Q E s:=by
 refine callType_new F.called_zip (by decide) (F.typeCall_zip_2 _ _) (F.newCall_zip_2 _ _) (fun obj=>F.args_object_init_3 obj _ _) F.entry_zip_new (Xrc k1 k2 a b xs ys) ⟨h1,h2,?_⟩
 have z1:(zp1 k1 s.heap a).objs.size=s.heap.objs.size+1:=Vad ..;have z2:(zp2 k1 k2 s.heap a b).objs.size=s.heap.objs.size+2:=by rw[Vad,z1]
 have z3:(zp3 k1 k2 s.heap a b).objs.size=s.heap.objs.size+3:=by rw[Vad,z2]
 have z4:(zp4 k1 k2 s.heap a b).objs.size=s.heap.objs.size+4:=by rw[Vad,z3]
 have g5:(zp5 k1 k2 s.heap a b).get? (zp4 k1 k2 s.heap a b).objs.size=some _:=Vk _ rfl;have g4:(zp5 k1 k2 s.heap a b).get? (zp3 k1 k2 s.heap a b).objs.size=some _:=Vb _ (Vk _ rfl);have g3:(zp5 k1 k2 s.heap a b).get? (zp2 k1 k2 s.heap a b).objs.size=some _:=Vb _ (Vb _ (Vk _ rfl));have g2:(zp5 k1 k2 s.heap a b).get? (zp1 k1 s.heap a).objs.size=some _:=Vb _ (Vb _ (Vb _ (Vk _ rfl)));have g1:(zp5 k1 k2 s.heap a b).get? s.heap.objs.size=some _:=Vb _ (Vb _ (Vb _ (Vb _ (Vk _ rfl))));show _/\_;rw[z2,z3,z4] at g5;rw[z1,z2] at g3;rw[z3] at g4;rw[z1] at g2;rw[z4];exact⟨⟨_,g5,rfl⟩,h _ ⟨⟨_,_,g5,.inl rfl⟩,g3,⟨_,_,g4⟩,Xhl g1,Xhl g2⟩ fun c o q=>Vb _ (Vb _ (Vb _ (Vb _ (Vb _ q))))⟩
noncomputable def Itz(K:Vf)(k1 k2:Bool)(a b:Addr):L2.It :=
 ⟨fun n H=>∃ xs x ys y,SqH k1 K H a xs/\xs[n]?=some x/\SqH k2 K H b ys/\ys[n]?=some y,
   fun n H v H'=>∃ T x y,v=.ref T/\H T=none/\H'=upd H T (.tup [x,y])/\(∀ xs,SqH k1 K H a xs->xs[n]?=some x)/\∀ ys,SqH k2 K H b ys->ys[n]?=some y,
   fun n H=>∃ xs ys,SqH k1 K H a xs/\SqH k2 K H b ys/\(xs.length<=n\/ys.length<=n)⟩
theorem Xcj{h:Heap}{o u:Obj}{c:Addr}(e:(h.push o).get? c=some u)(hc:c≠h.objs.size):h.get? c=some u:=by
 rw[Heap.get?_push_ne h c o hc] at e;exact e
section
variable{prog:Program}{w:World}{A:Around}{E:Value->Shared->Prop}{s:Shared}{k1 k2:Bool}{z I O i j a b:Addr}{f0 f1:Value}{n:Nat}{xs ys:Array Value}{x y:Value}
theorem Xjo(h:Q (s.heap.get? a) s):wpAny M A (loadIfAlive a) Q E s:=fun _ _ _=>h
theorem Xlc(hz:IsZ s.heap z I O f0 f1)(hf:f0=.none\/∃ T:Nat,f0=rawInt T)(h1:Q' true s)(h2:∀ h' (T:Nat),IsZ h' z I O (rawInt T) (.bool true)->Ui z s.heap h'->Q' false { s with heap:=h' }):wpAny (model prog w) A (Uf (.ref z)) Q' E s:=by
 unfold Uf;rcases hf with rfl|⟨T,rfl⟩
 ·exact Va (V3 hz rfl (x:=.none) rfl (Vg h1))
 ·refine Va (V3 hz rfl (x:=rawInt T) rfl ?_)
  show wpAny _ _ (loadIfAlive (Int.toNat (T:Int)) >>= _) _ _ _;refine Va (Xjo ?_);cases s.heap.get? (Int.toNat (T:Int)) with
  | none =>
   simp only[Option.isNone_none,if_true];exact Vg h1
  | some o =>
   simp only[Option.isNone_some,Ud,if_false];refine Va (V3 hz rfl (x:=f1) rfl ?_);split
   ·exact Va (Ua hz (by simp) fun g5 e5 c5=>Vg (h2 g5 T e5 c5))
   ·rename_i hf
    have:f1=.bool true:=by simpa using hf
    subst this;exact Vg (h2 s.heap T hz (Vdz ..))
theorem Xnz{Q:Value->Shared->Prop}(D:ZAp z I O i j a b)(st:ZSa k1 k2 z I O i j a b n n s.heap)(ha:SqK k1 s.heap a xs)(hb:SqK k2 s.heap b ys)(hx:xs[n]?=some x)(hy:ys[n]?=some y)
  (hQ:∀ h',h'.objs.size=s.heap.objs.size+1->ZSa k1 k2 z I O i j a b (n+1) (n+1) h'->IsPair h' s.heap.objs.size x y->(∀ c o,c≠z->c≠O->c≠i->c≠j->s.heap.get? c=some o->h'.get? c=some o)->Q (.ref s.heap.objs.size) { s with heap:=h' }) :
  wpAny (model prog w) A (Builtin.«zip.__next__» ⟨[.ref z],[]⟩) (fun fin s'=>∃ v,fin=.done (.ret v)/\Q v s') E s:=by
 obtain⟨⟨f0,f1,hz,hf⟩,hI,⟨a0,b0,hO⟩,h1,h2⟩:=st;show wpAny _ _ (field (.ref z) 2 >>= _) _ _ _;refine Va (V3 hz rfl (x:=.bool false) rfl ?_);show wpAny _ _ (field (.ref z) 3 >>= _) _ _ _;refine Va (V3 hz rfl (x:=.ref I) rfl (Va (Vbf hI rfl ?_)));show wpAny _ _ (Uf (.ref z) >>= _) _ _ _;refine Va (Xlc hz hf ?_ fun g1 T z1 c1=>?_)
 ·simp only[if_true]
  refine Va (Vca (Va (V3 hz rfl (x:=.ref O) rfl (Va (Ua hz (by simp) fun g1 z1 c1=>?_)))))
  replace z1:IsZ g1 z I O .ellipsis f1:=z1
  refine Va ?_;simp only[List.zipIdx_cons,List.zipIdx_nil,Vbo,Vdu];refine Va (Va (wpAny_onRaise ?_));show wpAny _ _ (Vw (.ref i) >>= _) _ _ _;refine Va (nxK (h1.at fun o e=>c1.extBut _ _ D.iz e) (ha.at fun o e=>c1.extBut _ _ D.a_.1 e) hx fun g2 i2 c2=>Vg ?_)
  have o2:IsPair g2 O a0 b0:=c2.extBut _ _ D.Oi (c1.extBut _ _ D.Oz hO);refine Va (Vbf o2 rfl (Va (Vej o2 fun g3 o3 c3=>?_)))
  replace o3:IsPair g3 O x b0:=o3
  refine Va (wpAny_letGo (Vg (Va (Va (wpAny_onRaise ?_)))));show wpAny _ _ (Vw (.ref j) >>= _) _ _ _;have u3:∀ c o,c≠z->c≠O->c≠i->s.heap.get? c=some o->g3.get? c=some o:=fun c o e1 e2 e3 e=>c3.extBut _ _ e2 (c2.extBut _ _ e3 (c1.extBut _ _ e1 e))
  refine Va (nxK (h2.at fun o e=>u3 j o D.jz D.Oj.symm D.ij.symm e) (hb.at fun o e=>u3 b o D.b_.1 D.b_.2.1 D.b_.2.2.1 e) hy fun g4 j4 c4=>Vg ?_)
  have o4:IsPair g4 O x b0:=c4.extBut _ _ D.Oj o3;refine Va (Vbf o4 rfl (Va (Vej o4 fun g5 o5 c5=>?_)))
  replace o5:IsPair g5 O x y:=o5
  refine Va (wpAny_letGo (Vg (Vg (Va (Vbf o5 rfl (Va (Vez ?_)))))));have sz:g5.objs.size=s.heap.objs.size:=by rw[c5.1,c4.1,c3.1,c2.1,c1.1]
  have z5:IsZ g5 z I O .ellipsis f1:=c5.extBut _ _ D.Oz.symm (c4.extBut _ _ D.jz.symm (c3.extBut _ _ D.Oz.symm (c2.extBut _ _ D.iz.symm z1)));have u5:∀ c o,c≠z->c≠O->c≠i->c≠j->s.heap.get? c=some o->g5.get? c=some o:=fun c o e1 e2 e3 e4 e=>c5.extBut _ _ e2 (c4.extBut _ _ e4 (u3 c o e1 e2 e3 e))
  have i5:ItK k1 g5 i a (n+1):=i2.at fun o e=>c5.extBut _ _ D.Oi.symm (c4.extBut _ _ D.ij (c3.extBut _ _ D.Oi.symm e))
  have j5:ItK k2 g5 j b (n+1):=j4.at fun o e=>c5.extBut _ _ D.Oj.symm e
  have zlt:z<g5.objs.size:=Vm z5;show wpAny _ _ (Vav (.ref z) (.ref g5.objs.size) >>= _) _ _ _;refine Va ?_;unfold Vav;refine Va (Ua (Vb _ z5:IsZ (g5.push { cls:=.type "tuple",data:=.seq #[x,y] }) z I O .ellipsis f1) (by simp) fun g7 z7 c7=>?_)
  replace z7:IsZ g7 z I O (rawInt g5.objs.size) f1:=z7
  refine Ua z7 (by simp) fun g8 z8 c8=>?_
  replace z8:IsZ g8 z I O (rawInt g5.objs.size) (.bool false):=z8
  have up:∀ c o,c≠z->g5.get? c=some o->g8.get? c=some o:=fun c o e1 e=>c8.extBut _ _ e1 (c7.extBut _ _ e1 (Vb _ e))
  have t8:IsPair g8 g5.objs.size x y:=c8.extBut _ _ (Vbk zlt) (c7.extBut _ _ (Vbk zlt) (Vk _ rfl));rw[sz] at z8 t8;refine Vg ⟨_,rfl,?_⟩;show Q (.ref g5.objs.size) _;rw[sz];exact hQ g8 (by rw[c8.1,c7.1,Vad,sz]) ⟨⟨_,_,z8,.inr ⟨_,rfl⟩⟩,up _ _ D.Iz (u5 _ _ D.Iz D.IO D.Ii D.Ij hI),⟨_,_,up _ _ D.Oz o5⟩,i5.at fun o e=>up _ o D.iz e,j5.at fun o e=>up _ o D.jz e⟩ t8 fun c o e1 e2 e3 e4 e=>up c o e1 (u5 c o e1 e2 e3 e4 e)
 ·replace c1:Ui z s.heap g1:=c1
  simp only[Ud,if_false];rw[show(#[Vae i,Vae j]:Array Value)=[Vae i,Vae j].toArray from rfl];refine Va ?_;simp only[List.forIn_toArray,Vbo,Vdu];refine Va (Va (U5 ?_));show wpAny _ _ (Vw (.ref i) >>= _) _ _ _;refine Va (nxK (h1.at fun o e=>c1.extBut _ _ D.iz e) (ha.at fun o e=>c1.extBut _ _ D.a_.1 e) hx fun g2 i2 c2=>Vg ?_)
  replace c2:Ui i g1 g2:=c2
  refine Vg ?_;dsimp only;refine Va (Va (U5 ?_));show wpAny _ _ (Vw (.ref j) >>= _) _ _ _;have u2:∀ c o,c≠z->c≠i->s.heap.get? c=some o->g2.get? c=some o:=fun c o e1 e3 e=>c2.extBut _ _ e3 (c1.extBut _ _ e1 e)
  refine Va (nxK (h2.at fun o e=>u2 j o D.jz D.ij.symm e) (hb.at fun o e=>u2 b o D.b_.1 D.b_.2.2.1 e) hy fun g4 j4 c4=>Vg ?_)
  replace c4:Ui j g2 g4:=c4
  refine Vg ?_;dsimp only;refine Vg ?_;dsimp only;show wpAny _ _ (newTuple [x,y] >>= _) _ _ _;refine Va (Vez ?_);have sz:g4.objs.size=s.heap.objs.size:=by rw[c4.1,c2.1,c1.1]
  have z4:IsZ g4 z I O (rawInt T) (.bool true):=c4.extBut _ _ D.jz.symm (c2.extBut _ _ D.iz.symm z1);have u4:∀ c o,c≠z->c≠i->c≠j->s.heap.get? c=some o->g4.get? c=some o:=fun c o e1 e3 e4 e=>c4.extBut _ _ e4 (u2 c o e1 e3 e)
  have i4:ItK k1 g4 i a (n+1):=i2.at fun o e=>c4.extBut _ _ D.ij e
  refine Vg ⟨_,rfl,?_⟩;show Q (.ref g4.objs.size) _;rw[sz];refine hQ _ (by rw[Vad,sz]) ⟨⟨_,_,Vb _ z4,.inr ⟨T,rfl⟩⟩,Vb _ (u4 _ _ D.Iz D.Ii D.Ij hI),⟨_,_,Vb _ (u4 _ _ D.Oz D.Oi D.Oj hO)⟩,i4.at fun o e=>Vb _ e,j4.at fun o e=>Vb _ e⟩ ?_ fun c o e1 _ e3 e4 e=>Vb _ (u4 c o e1 e3 e4 e)
  have:IsPair (g4.push { cls:=.type "tuple",data:=.seq #[x,y] }) g4.objs.size x y:=Vk _ rfl;rw[sz] at this;exact this
theorem Xld(hh:A.handled=none)(D:ZAp z I O i j a b)(st:ZSa k1 k2 z I O i j a b n n s.heap)(ha:SqK k1 s.heap a xs)(hb:SqK k2 s.heap b ys)(hend:xs[n]?=none\/ys[n]?=none)
  (hE:∀ h' e,(∀ c o,c≠z->c≠O->c≠i->c≠j->s.heap.get? c=some o->h'.get? c=some o)->(∃ o,h'.get? e=some o/\o.cls=.type "StopIteration")->E (.ref e) { s with heap:=h' }) :
  wpAny (model prog w) A (Builtin.«zip.__next__» ⟨[.ref z],[]⟩) Q E s:=by
 obtain⟨⟨f0,f1,hz,hf⟩,hI,⟨a0,b0,hO⟩,h1,h2⟩:=st;show wpAny _ _ (field (.ref z) 2 >>= _) _ _ _;refine Va (V3 hz rfl (x:=.bool false) rfl ?_);show wpAny _ _ (field (.ref z) 3 >>= _) _ _ _;refine Va (V3 hz rfl (x:=.ref I) rfl (Va (Vbf hI rfl ?_)));show wpAny _ _ (Uf (.ref z) >>= _) _ _ _;refine Va (Xlc hz hf ?_ fun g1 T z1 c1=>?_)
 ·simp only[if_true]
  refine Va (Vca (Va (V3 hz rfl (x:=.ref O) rfl (Va (Ua hz (by simp) fun g1 z1 c1=>?_)))))
  replace z1:IsZ g1 z I O .ellipsis f1:=z1
  refine Va ?_;simp only[List.zipIdx_cons,List.zipIdx_nil,Vbo,Vdu];refine Va (Va (wpAny_onRaise ?_));show wpAny _ _ (Vw (.ref i) >>= _) _ _ _;cases hx:xs[n]? with
  | none =>
   refine Va (Xlb hh (h1.at fun o e=>c1.extBut _ _ D.iz e) (ha.at fun o e=>c1.extBut _ _ D.a_.1 e) hx fun g2 e c2 he=>?_)
   obtain⟨oe,hoe,hce⟩:=he;have z2:IsZ g2 z I O .ellipsis f1:=c2 _ _ D.iz.symm z1;have ez:e≠z:=fun q=>by subst q;rw[z2] at hoe;cases hoe;simp at hce
   exact Ua z2 (by simp) fun g3 _ c3=>hE g3 e (fun c o e1 _ e3 _ q=>c3.extBut _ _ e1 (c2 _ _ e3 (c1.extBut _ _ e1 q))) ⟨oe,c3.extBut _ _ ez hoe,hce⟩
  | some x =>
   have hy:ys[n]?=none:=by rcases hend with q|q;rw[hx] at q;cases q;exact q
   refine Va (nxK (h1.at fun o e=>c1.extBut _ _ D.iz e) (ha.at fun o e=>c1.extBut _ _ D.a_.1 e) hx fun g2 i2 c2=>Vg ?_)
   have o2:IsPair g2 O a0 b0:=c2.extBut _ _ D.Oi (c1.extBut _ _ D.Oz hO);refine Va (Vbf o2 rfl (Va (Vej o2 fun g3 o3 c3=>Va (wpAny_letGo (Vg (Va (Va (wpAny_onRaise ?_))))))))
   show wpAny _ _ (Vw (.ref j) >>= _) _ _ _;have u3:∀ c o,c≠z->c≠O->c≠i->s.heap.get? c=some o->g3.get? c=some o:=fun c o e1 e2 e3 e=>c3.extBut _ _ e2 (c2.extBut _ _ e3 (c1.extBut _ _ e1 e))
   refine Va (Xlb hh (h2.at fun o e=>u3 j o D.jz D.Oj.symm D.ij.symm e) (hb.at fun o e=>u3 b o D.b_.1 D.b_.2.1 D.b_.2.2.1 e) hy fun g4 e c4 he=>?_)
   obtain⟨oe,hoe,hce⟩:=he;have z4:IsZ g4 z I O .ellipsis f1:=c4 _ _ D.jz.symm (c3.extBut _ _ D.Oz.symm (c2.extBut _ _ D.iz.symm z1));have ez:e≠z:=fun q=>by subst q;rw[z4] at hoe;cases hoe;simp at hce
   exact Ua z4 (by simp) fun g5 _ c5=>hE g5 e (fun c o e1 e2 e3 e4 q=>c5.extBut _ _ e1 (c4 _ _ e4 (u3 c o e1 e2 e3 q))) ⟨oe,c5.extBut _ _ ez hoe,hce⟩
 ·replace c1:Ui z s.heap g1:=c1
  simp only[Ud,if_false];rw[show(#[Vae i,Vae j]:Array Value)=[Vae i,Vae j].toArray from rfl];refine Va ?_;simp only[List.forIn_toArray,Vbo,Vdu];refine Va (Va (U5 ?_));show wpAny _ _ (Vw (.ref i) >>= _) _ _ _;cases hx:xs[n]? with
  | none =>
   exact Va (Xlb hh (h1.at fun o e=>c1.extBut _ _ D.iz e) (ha.at fun o e=>c1.extBut _ _ D.a_.1 e) hx fun g2 e c2 he=>hE g2 e (fun c o e1 _ e3 _ q=>c2 _ _ e3 (c1.extBut _ _ e1 q)) he)
  | some x =>
   have hy:ys[n]?=none:=by rcases hend with q|q;rw[hx] at q;cases q;exact q
   refine Va (nxK (h1.at fun o e=>c1.extBut _ _ D.iz e) (ha.at fun o e=>c1.extBut _ _ D.a_.1 e) hx fun g2 i2 c2=>Vg ?_)
   replace c2:Ui i g1 g2:=c2
   refine Vg ?_;dsimp only;refine Va (Va (U5 ?_));show wpAny _ _ (Vw (.ref j) >>= _) _ _ _;have u2:∀ c o,c≠z->c≠i->s.heap.get? c=some o->g2.get? c=some o:=fun c o e1 e3 e=>c2.extBut _ _ e3 (c1.extBut _ _ e1 e)
   exact Va (Xlb hh (h2.at fun o e=>u2 j o D.jz D.ij.symm e) (hb.at fun o e=>u2 b o D.b_.1 D.b_.2.2.1 e) hy fun g4 e c4 he=>hE g4 e (fun c o e1 _ e3 e4 q=>c4 _ _ e4 (u2 c o e1 e3 q)) he)
theorem ZSa.ty(st:ZSa k1 k2 z I O i j a b n n s.heap):s.TypeIs (.ref z) "zip" := let ⟨_,_,q,_⟩:=st.zo;⟨_,q,rfl⟩
theorem Xt6(D:ZAp z I O i j a b)(st:ZSa k1 k2 z I O i j a b n n s.heap)(ha:SqK k1 s.heap a xs)(hb:SqK k2 s.heap b ys)(hx:xs[n]?=some x)(hy:ys[n]?=some y)
  (hQ:∀ h',ZSa k1 k2 z I O i j a b (n+1) (n+1) h'->IsPair h' s.heap.objs.size x y->(∀ c o,c≠z->c≠O->c≠i->c≠j->s.heap.get? c=some o->h'.get? c=some o)->Q (some (.ref s.heap.objs.size)) { s with heap:=h' }) :
  wpAny (model prog w) A (pyNext (.ref z)) Q E s:=by
 unfold pyNext;exact Va (Vb3 (Uc (name:=Ub "__next__") st.ty Vbp (Uq Vbp st.ty Vd8 (Xnz D st ha hb hx hy fun h' _ q1 q2 q3=>Vg (hQ h' q1 q2 q3)) (Vd0 _))))
theorem Xt7(hh:A.handled=none)(D:ZAp z I O i j a b)(st:ZSa k1 k2 z I O i j a b n n s.heap)(ha:SqK k1 s.heap a xs)(hb:SqK k2 s.heap b ys)(hend:xs[n]?=none\/ys[n]?=none)
  (hQ:∀ h',(∀ c o,c≠z->c≠O->c≠i->c≠j->s.heap.get? c=some o->h'.get? c=some o)->Q none { s with heap:=h' }):wpAny (model prog w) A (pyNext (.ref z)) Q E s:=by
 unfold pyNext;refine Va (Vb3 (Uc (name:=Ub "__next__") st.ty Vbp (Uq Vbp st.ty Vd8 (Xld hh D st ha hb hend fun h' e hk he=>?_) (Vd0 _))))
 obtain⟨o,ho,hc⟩:=he;exact Va (wpAny_isInstance (T := "StopIteration") (b:=true) ⟨o,ho,hc⟩ isSubtype_stop (Vg (hQ _ hk)))
theorem X2a(hz:∃ f0 f1,IsZ s.heap z I O f0 f1/\(f0=.none\/∃ T:Nat,f0=rawInt T))(hQ:∀ h',(∃ f0 f1,IsZ h' z I O f0 f1/\(f0=.none\/∃ T:Nat,f0=rawInt T))->Ui z s.heap h'->Q () { s with heap:=h' }) :
  wpAny (model prog w) A (Vbl (.Tuple elts x1 pos) (.ref z) (.ref T)) Q E s:=by
 obtain⟨f0,f1,hz,hf⟩:=hz;unfold Vbl;refine Va (wpAny_load hz ?_);show wpAny _ _ (if (["enumerate","zip","dict_itemiterator","dict_reverseitemiterator","odict_iterator","itertools.zip_longest","itertools.pairwise"].contains "zip" && (#[f0,f1,.bool false,.ref I,.ref O]:Array Value)[0]?==some (rawInt T))=true then _ else _) Q E s
 split
 ·refine Va (Vca ?_)
  show wpAny _ _ (setField (.ref z) 0 .none) Q E s;exact Ua hz (by simp) fun h' z' c'=>hQ h' ⟨_,_,z',.inl rfl⟩ c'
 ·exact Vg (hQ s.heap ⟨f0,f1,hz,hf⟩ (Vdz ..))
theorem Xdv(hz:IsZ s.heap z I O f0 f1)(h:Q (.ref z) s):wpAny (model prog w) A (pyIter (.ref z)) Q E s:=by
 have ty:s.TypeIs (.ref z) "zip" := ⟨_,hz,rfl⟩;exact wpAny_pyIter_slot ty F.slot_zip_iter (Uq F.slot_zip_iter ty F.entry_zip_iter (show wpAny _ _ (ret (.ref z)) _ _ s from Vg ⟨_,rfl,"zip",_,ty,F.slot_zip_next.lookup,h⟩) (F.args_zip_iter_1 _))
end
theorem ZSa.at{k1 k2:Bool}{z I O i j a b:Addr}{n m:Nat}(x:ZSa k1 k2 z I O i j a b n m h)(k:∀ c∈[z,I,O,i,j],∀ o,h.get? c=some o->h'.get? c=some o):ZSa k1 k2 z I O i j a b n m h' :=
 ⟨let ⟨f0,f1,q,r⟩:=x.zo;⟨f0,f1,k z (by simp) _ q,r⟩,k I (by simp) _ x.io,let ⟨p,q,e⟩:=x.oo;⟨p,q,k O (by simp) _ e⟩,x.i1.at fun o e=>k i (by simp) o e,x.i2.at fun o e=>k j (by simp) o e⟩
theorem ZSa.some{k1 k2:Bool}{z I O i j a b:Addr}{n m:Nat}(x:ZSa k1 k2 z I O i j a b n m h):∀ c∈[z,I,O,i,j],∃ o,h.get? c=some o/\∀ v,o.data≠.cell v:=fun c hc=>by
 simp only[Vl,V4,or_false] at hc;rcases hc with e|e|e|e|e<;>subst e
 ·obtain⟨f0,f1,q,_⟩:=x.zo;exact⟨_,q,fun v q=>nomatch q⟩
 ·exact⟨_,x.io,fun v q=>nomatch q⟩
 ·obtain⟨p,q,e⟩:=x.oo;exact⟨_,e,fun v q=>nomatch q⟩
 ·obtain⟨o,e,_,d⟩:=x.i1.obj;exact⟨o,e,d⟩
 ·obtain⟨o,e,_,d⟩:=x.i2.obj;exact⟨o,e,d⟩
theorem Xt8{P:Program}{w:World}{K:Vf}{es:List Expr}{x0:Nat}{tp:Pos}{k1 k2:Bool}{z I O i j a b:Addr}(D:ZAp z I O i j a b) :
  Turn P w K (.Tuple es x0 tp) (Itz K k1 k2 a b) [z,I,O,i,j] z (fun n h=>ZSa k1 k2 z I O i j a b n n h) where
 mem:=by simp
 obj:=fun n h st c hc=>st.some c hc
 keep:=fun n h h' st k=>st.at k
 item:=by
  intro X hP hw hK hc n pins s σ H E J hf st hg;subst hP hw hK;obtain⟨xs,x,ys,y,q1,hx,q2,hy⟩:=hg;obtain⟨its1,rv1,p1⟩:=Xax J q1;obtain⟨its2,rv2,p2⟩:=Xax J q2;obtain⟨u1,hu1,ru1⟩:=rv1.get hx;obtain⟨u2,hu2,ru2⟩:=rv2.get hy;have hT:H s.heap.objs.size=none:=J.hok.fresh (Vh _);have old:∀ c∈[z,I,O,i,j],c≠s.heap.objs.size:=fun c hc=>by obtain⟨o,e,_⟩:=st.some c hc;exact V5 (Vm e)
  refine Xt6 D st p1 p2 (x:=u1) (y:=u2) (by simpa using hu1) (by simpa using hu2) fun h' st' pr kp=>⟨_,rfl,X2a st'.zo fun h2 z2 c2=>?_⟩
  have J1:Inv X pins σ (upd H s.heap.objs.size (.tup [x,y])) { s with heap:=s.heap.push { cls:=.type "tuple",data:=.seq #[u1,u2] } }:=J.laid (t':=s.toks) (fun c o e=>Vb _ e) (Vh _) ⟨by show 2<=Vt;decide,[u1,u2],.cons ru1 (.cons ru2 .nil),⟨_,Vk _ rfl,rfl,_,rfl⟩⟩
  have hf1:∀ c∈[z,I,O,i,j],Xaf X pins (upd H s.heap.objs.size (.tup [x,y])) c:=fun c hc=>⟨by rw[Xh (old c hc)];exact(hf c hc).1,(hf c hc).2⟩
  have J2:Inv X pins σ (upd H s.heap.objs.size (.tup [x,y])) { s with heap:=h2 }:=Xbe (s:={ s with heap:=s.heap.push { cls:=.type "tuple",data:=.seq #[u1,u2] } }) (h':=h2) (t':=s.toks) J1 hf1 fun c o hc e=>by
   simp only[Vl,V4,or_false,not_or] at hc;refine c2.extBut _ _ hc.1 ?_
   by_cases q:c=s.heap.objs.size
   ·subst q
    have e':=(Vk s.heap (o:={ cls:=.type "tuple",data:=.seq #[u1,u2] }) rfl).symm.trans e;rw[<- e'];exact pr
   ·exact kp c o hc.1 hc.2.2.1 hc.2.2.2.1 hc.2.2.2.2 (Xcj e q)
  refine⟨.ref s.heap.objs.size,_,J2,rfl,⟨s.heap.objs.size,x,y,rfl,hT,rfl,fun zs hz=>?_,fun zs hz=>?_⟩,?_,fun c hc=>(hf1 c hc).1⟩
  ·rw[Xci J hz q1];exact hx
  ·rw[Xci J hz q2];exact hy
  ·have k2':∀ c o,c≠z->h'.get? c=some o->h2.get? c=some o:=fun c o e1 e=>c2.extBut _ _ e1 e
   exact⟨z2,k2' _ _ D.Iz st'.io,let ⟨p,q,e⟩:=st'.oo;⟨p,q,k2' _ _ D.Oz e⟩,st'.i1.at fun o e=>k2' _ o D.iz e,st'.i2.at fun o e=>k2' _ o D.jz e⟩
 done:=by
  intro X hP hw hK hc n pins s σ H E J hf st hg;subst hP hw hK;obtain⟨xs,ys,q1,q2,hl⟩:=hg;obtain⟨its1,rv1,p1⟩:=Xax J q1;obtain⟨its2,rv2,p2⟩:=Xax J q2;have l1:=rv1.length;have l2:=rv2.length;refine Xt7 (J.ok.hd hc) D st p1 p2 ?_ fun h' kp=>⟨rfl,Xbe (t':=s.toks) J hf fun c o hc e=>?_⟩
  ·rcases hl with hl|hl
   ·exact .inl (by simp;omega)
   ·exact .inr (by simp;omega)
  ·simp only[Vl,V4,or_false,not_or] at hc
   exact kp c o hc.1 hc.2.2.1 hc.2.2.2.1 hc.2.2.2.2 e
 self:=fun _ _ _ _ _ st h=>let ⟨_,_,q,_⟩:=st.zo;Xdv q h
abbrev Xbc(h:Heap)(e it:Addr)(i:Int)(f0 f1 old:Value):Prop :=
 h.get? e=some { cls:=.type "enumerate",dict:=none,data:=.fields #[f0,f1,.ref it,rawInt i,.none,old],slots:=#[] }
def EnA(h:Heap)(e it:Addr)(i:Int):Prop:=∃ f0 f1 old,Xbc h e it i f0 f1 old/\(f0=.none\/∃ a:Nat,f0=rawInt a)
structure NSt(k:Bool)(e it a:Addr)(n:Nat)(h:Heap):Prop where
 eo:EnA h e it n
 io:ItK k h it a n
section
variable{prog:Program}{w:World}{A:Around}{E:Value->Shared->Prop}{s:Shared}{k:Bool}{e it a:Addr}{n:Nat}{xs:Array Value}{x:Value}
theorem Xrd{i:Int}{f0 f1 old:Value}{Q':Bool->Shared->Prop}(hz:Xbc s.heap e it i f0 f1 old)(hf:f0=.none\/∃ a:Nat,f0=rawInt a)(h1:Q' true s)(h2:∀ h' (f:Value),EnA h' e it i->Ui e s.heap h'->Q' false { s with heap:=h' }):wpAny (model prog w) A (Uf (.ref e)) Q' E s:=by
 unfold Uf;rcases hf with rfl|⟨T,rfl⟩
 ·exact Va (V3 hz rfl (x:=.none) rfl (Vg h1))
 ·refine Va (V3 hz rfl (x:=rawInt T) rfl ?_)
  show wpAny _ _ (loadIfAlive (Int.toNat (T:Int)) >>= _) _ _ _;refine Va (Xjo ?_);cases s.heap.get? (Int.toNat (T:Int)) with
  | none =>
   simp only[Option.isNone_none,if_true];exact Vg h1
  | some o =>
   simp only[Option.isNone_some,Ud,if_false];refine Va (V3 hz rfl (x:=f1) rfl ?_);split
   ·exact Va (Ua hz (by simp) fun g5 e5 c5=>Vg (h2 g5 f1 ⟨_,_,_,e5,.inr ⟨T,rfl⟩⟩ c5))
   ·exact Vg (h2 s.heap f1 ⟨_,_,_,hz,.inr ⟨T,rfl⟩⟩ (Vdz ..))
theorem Xn0{hp g4:Heap}{g d tk os}{i:Int}{f0 f1 old:Value}{T:Addr}{Q:Fin->Shared->Prop}(e4:Xbc g4 e it i f0 f1 old)
  (hQ:∀ g7,EnA g7 e it i->(∀ b o,b≠e->g4.get? b=some o->g7.get? b=some o)->Q (.done (.ret (.ref T))) ⟨g7,g,d,tk,os⟩) :
  wpAny (model prog w) A (do
   rule "enumerate.__next__.owned-tuple-again"
   let old <- field (.ref e) 5
   setField (.ref e) 5 x
   Vav (.ref e) (.ref T)
   letGo [old] [.ref T]
   ret (.ref T)) Q E ⟨g4,g,d,tk,os⟩:=by
 refine Va (Vca (Va (V3 e4 rfl (x:=old) rfl (Va (Ua e4 (by simp) fun g5 e5 c5=>?_)))))
 replace c5:Ui e g4 g5:=c5;replace e5:Xbc g5 e it i f0 f1 x:=e5
 refine Va ?_;unfold Vav;refine Va (Ua e5 (by simp) fun g6 e6 c6=>?_);replace c6:Ui e g5 g6:=c6;replace e6:Xbc g6 e it i (rawInt T) f1 x:=e6
 refine Ua e6 (by simp) fun g7 e7 c7=>?_;replace c7:Ui e g6 g7:=c7;replace e7:Xbc g7 e it i (rawInt T) (.bool false) x:=e7
 exact Va (wpAny_letGo (Vg (hQ g7 ⟨_,_,_,e7,.inr ⟨T,rfl⟩⟩ fun b o h1 q=>c7.extBut b o h1 (c6.extBut b o h1 (c5.extBut b o h1 q)))))
theorem Xt9{Q:Value->Shared->Prop}(hne:e≠it)(he:EnA s.heap e it n)(hi:ItK k s.heap it a n)(ha:SqK k s.heap a xs)(hx:xs[n]?=some x)
  (hQ:∀ h',EnA h' e it ((n:Int)+1)->ItK k h' it a (n+1)->h'.get? s.heap.objs.size=some { cls:=.type "tuple",data:=.seq #[.int n s.toks,x] } ->
   (∀ b o,b≠e->b≠it->s.heap.get? b=some o->h'.get? b=some o)->Q (.ref s.heap.objs.size) { s with heap:=h',toks:=s.toks+1 }) :
  wpAny (model prog w) A (Builtin.«enumerate.__next__» ⟨[.ref e],[]⟩) (fun fin s'=>∃ v,fin=.done (.ret v)/\Q v s') E s:=by
 obtain⟨f0,f1,old,he,hf⟩:=he;obtain⟨hp,g,d,tk,os⟩:=s;show wpAny _ _ (field (.ref e) 2 >>= _) _ _ _;refine Va (V3 he rfl (x:=.ref it) rfl (Va (nxK hi ha hx fun g1 i1 c1=>?_)))
 replace c1:Ui it hp g1:=c1;have e1:Xbc g1 e it n f0 f1 old:=(c1.2 e hne).trans he
 show wpAny _ _ (field (.ref e) 3 >>= _) _ _ ⟨g1,g,d,tk,os⟩;refine Va (V3 e1 rfl (x:=rawInt n) rfl ?_);show wpAny _ _ (field (.ref e) 4 >>= _) _ _ ⟨g1,g,d,tk,os⟩;refine Va (V3 e1 rfl (x:=.none) rfl ?_);show wpAny _ _ (mkInt n >>= _) _ _ ⟨g1,g,d,tk,os⟩;refine Va (wpAny_mkInt ?_);show wpAny _ _ (setField (.ref e) 3 (rawInt ((n:Int)+1)) >>= _) _ _ ⟨g1,g,d,tk+1,os⟩;refine Va (Ua e1 (by simp) fun g2 e2 c2=>?_);replace c2:Ui e g1 g2:=c2;replace e2:Xbc g2 e it ((n:Int)+1) f0 f1 old:=e2
 show wpAny _ _ (setField (.ref e) 4 .none >>= _) _ _ ⟨g2,g,d,tk+1,os⟩;refine Va (Ua e2 (by simp) fun g3 e3 c3=>?_);replace c3:Ui e g2 g3:=c3;replace e3:Xbc g3 e it ((n:Int)+1) f0 f1 old:=e3
 show wpAny _ _ (newTuple [.int n tk,x] >>= _) _ _ ⟨g3,g,d,tk+1,os⟩;refine Va (Vez ?_);have e4:Xbc (g3.push { cls:=.type "tuple",data:=.seq #[.int n tk,x] }) e it ((n:Int)+1) f0 f1 old:=Vb _ e3;generalize q4:g3.push { cls:=.type "tuple",data:=.seq #[.int n tk,x] }=g4 at e4;have sz:g3.objs.size=hp.objs.size:=by rw[c3.1,c2.1,c1.1]
 have el:e<hp.objs.size:=Vm he;have t4:g4.get? hp.objs.size=some { cls:=.type "tuple",data:=.seq #[.int n tk,x] }:=by rw[<- q4,<- sz];exact Vk _ rfl
 have k4:∀ b o,b≠e->b≠it->hp.get? b=some o->g4.get? b=some o:=fun b o h1 h2 hb=>by rw[<- q4];exact Vb _ (c3.extBut b o h1 (c2.extBut b o h1 (c1.extBut b o h2 hb)))
 have i4:ItK k g4 it a (n+1):=i1.at fun o q=>by rw[<- q4];exact Vb _ (c3.extBut _ _ (Ne.symm hne) (c2.extBut _ _ (Ne.symm hne) q))
 show wpAny _ _ (Uf (.ref e) >>= _) _ _ ⟨g4,g,d,tk+1,os⟩;rw[sz];clear q4 e3 c3 e2 c2 e1 c1 i1 sz g3 g2 g1;have fin:∀ g7,EnA g7 e it ((n:Int)+1)->(∀ b o,b≠e->g4.get? b=some o->g7.get? b=some o)->∃ v,(Fin.done (.ret (.ref hp.objs.size)))=.done (.ret v)/\Q v ⟨g7,g,d,tk+1,os⟩:=fun g7 e7 up =>
  ⟨_,rfl,hQ g7 e7 (i4.at fun o q=>up _ o (Ne.symm hne) q) (up _ _ (Vbk el) t4) fun b o h1 h2 hb=>up b o h1 (k4 b o h1 h2 hb)⟩
 refine Va (Xrd e4 hf ?_ fun g5 f5 e5 c5=>?_)
 ·simp only[if_true]
  exact Xn0 (hp:=hp) e4 fin
 ·simp only[Ud,if_false]
  exact Vg (fin g5 e5 fun b o h1 q=>c5.extBut b o h1 q)
theorem Xle(hne:e≠it)(he:EnA s.heap e it n)(hi:ItK k s.heap it a n)(ha:SqK k s.heap a xs)(hx:xs[n]?=some x)
  (hQ:∀ h',EnA h' e it ((n:Int)+1)->ItK k h' it a (n+1)->h'.get? s.heap.objs.size=some { cls:=.type "tuple",data:=.seq #[.int n s.toks,x] } ->
   (∀ b o,b≠e->b≠it->s.heap.get? b=some o->h'.get? b=some o)->Q (some (.ref s.heap.objs.size)) { s with heap:=h',toks:=s.toks+1 }):wpAny (model prog w) A (pyNext (.ref e)) Q E s:=by
 have hT:s.TypeIs (.ref e) "enumerate" := by obtain⟨f0,f1,old,he,_⟩:=he;exact⟨_,he,rfl⟩
 unfold pyNext;exact Va (Vb3 (Uc (name:=Ub "__next__") hT Vaj (Uq Vaj hT Vcu (Xt9 hne he hi ha hx fun h' q1 q2 q3 q4=>Vg (hQ h' q1 q2 q3 q4)) (Vcj _))))
theorem Xlf(hh:A.handled=none)(he:EnA s.heap e it n)(hi:ItK k s.heap it a n)(ha:SqK k s.heap a xs)(hx:xs[n]?=none)
  (hQ:∀ h',Heap.ExtBut it s.heap h'->Q none { s with heap:=h' }):wpAny (model prog w) A (pyNext (.ref e)) Q E s:=by
 obtain⟨f0,f1,old,he,_⟩:=he;have hT:s.TypeIs (.ref e) "enumerate" := ⟨_,he,rfl⟩;unfold pyNext;refine Va (Vb3 (Uc (name:=Ub "__next__") hT Vaj (Uq Vaj hT Vcu ?_ (Vcj _))));show wpAny _ _ (field (.ref e) 2 >>= _) _ _ _;refine Va (V3 he rfl (x:=.ref it) rfl (Va (Xlb hh hi ha hx fun h' x he' hx'=>?_)))
 obtain⟨o,ho,hc⟩:=hx';exact Va (wpAny_isInstance (T := "StopIteration") (b:=true) ⟨o,ho,hc⟩ isSubtype_stop (Vg (hQ _ he')))
theorem Xre(hz:EnA s.heap e it i)(hQ:∀ h',EnA h' e it i->Ui e s.heap h'->Q () { s with heap:=h' }) :
  wpAny (model prog w) A (Vbl (.Tuple elts x1 pos) (.ref e) (.ref T)) Q E s:=by
 obtain⟨f0,f1,old,hz,hf⟩:=hz;unfold Vbl;refine Va (wpAny_load hz ?_);show wpAny _ _ (if (["enumerate","zip","dict_itemiterator","dict_reverseitemiterator","odict_iterator","itertools.zip_longest","itertools.pairwise"].contains "enumerate" && (#[f0,f1,.ref it,rawInt i,.none,old]:Array Value)[0]?==some (rawInt T))=true then _ else _) Q E s
 split
 ·refine Va (Vca ?_)
  show wpAny _ _ (setField (.ref e) 0 .none) Q E s;exact Ua hz (by simp) fun h' z' c'=>hQ h' ⟨_,_,_,z',.inl rfl⟩ c'
 ·exact Vg (hQ s.heap ⟨f0,f1,old,hz,hf⟩ (Vdz ..))
end
theorem Xck(he:EnA s.heap e it i)(h:Q (.ref e) s):wpAny (model prog w) A (pyIter (.ref e)) Q E s:=by
 obtain⟨f0,f1,old,q,_⟩:=he;have ty:s.TypeIs (.ref e) "enumerate" := ⟨_,q,rfl⟩;exact wpAny_pyIter_slot ty F.slot_enumerate_iter (Uq F.slot_enumerate_iter ty F.entry_enumerate_iter (show wpAny _ _ (ret (.ref e)) _ _ s from Vg ⟨_,rfl,"enumerate",_,ty,F.slot_enumerate_next.lookup,h⟩) (F.args_enumerate_iter_1 _))
open AutoSeq1 (wpAny_loadPart')
noncomputable def X2b(k:Bool):String:=match k with
 | true => "list"
 | false => "tuple"
theorem Xua(k:Bool)(a:Addr)(xs:Array Value)(n:Nat)(dct:Option Addr)(sl:Array (Option Value)):Meets (Builtin.«enumerate.__new__» ⟨[.type "enumerate",.ref a],[]⟩) (fun _ R s=>s.heap.get? a=some { cls:=.type (X2b k),dict:=dct,data:=.seq xs n,slots:=sl } /\
   R (.ok (.ret (.ref (s.heap.push { cls:=.type (Xc2 k),data:=.fields #[.ref a,.int 0 0] }).objs.size))) { s with heap:=(s.heap.push { cls:=.type (Xc2 k),data:=.fields #[.ref a,.int 0 0] }).push { cls:=.type "enumerate",data:=.fields #[.none,.bool false,.ref s.heap.objs.size,rawInt 0,.none,.none] } }) :=
 .of_wp fun prog w A R s h=>by
  obtain⟨hp,g,d,tk,os⟩:=s;obtain⟨hl,h⟩:=h;have hsub:=sub_enumerate;have L:SqK k (Shared.heap ⟨hp,g,d,tk,os⟩) a xs:=by cases k<;>exact⟨_,hl,rfl,n,rfl⟩
  wp_walk using Vaf hl
  refine wpAny_stack_any fun st=>Vg ?_
  split
  ·rename_i c _ _ _ _ _
   cases (c==Vc5 "enumerate")<;>(wp_walk using Vaf hl,Xke L;exact⟨_,rfl,h⟩)
  ·wp_walk using Vaf hl,Xke L
   exact⟨_,rfl,h⟩
theorem Xn1(hL:SqK k s.heap a xs)
  (h:∀ h',NSt k (s.heap.objs.size+1) s.heap.objs.size a 0 h'->(∀ b o,s.heap.get? b=some o->h'.get? b=some o)->Q (.ref (s.heap.objs.size+1)) { s with heap:=h' }) :
  wpAny (model prog w) A (call (.type "enumerate") [.ref a]) Q E s:=by
 obtain⟨n,dct,sl,hl⟩:∃ n dct sl,s.heap.get? a=some { cls:=.type (X2b k),dict:=dct,data:=.seq xs n,slots:=sl }:=by
  cases k<;>(obtain⟨⟨c,dct,dt,sl⟩,hl,hc,n,hd⟩:=hL;cases hc;cases hd;exact⟨n,dct,sl,hl⟩)
 refine callType_new F.called_enumerate (by decide) (F.typeCall_enumerate_1 _) (F.newCall_enumerate_1 _) (fun obj=>F.args_object_init_2 obj _) F.entry_enumerate_new (Xua k a xs n dct sl) ⟨hl,?_⟩
 have hz:(s.heap.push { cls:=.type (Xc2 k),data:=.fields #[.ref a,.int 0 0] }).objs.size=s.heap.objs.size+1:=Vad ..;show _/\_;rw[hz];have he:Xbc ((s.heap.push { cls:=.type (Xc2 k),data:=.fields #[.ref a,.int 0 0] }).push { cls:=.type "enumerate",data:=.fields #[.none,.bool false,.ref s.heap.objs.size,rawInt 0,.none,.none] }) (s.heap.objs.size+1) s.heap.objs.size 0 .none (.bool false) .none:=by
  have:=Vk (s.heap.push { cls:=.type (Xc2 k),data:=.fields #[.ref a,.int 0 0] }) (o:={ cls:=.type "enumerate",data:=.fields #[.none,.bool false,.ref s.heap.objs.size,rawInt 0,.none,.none] }) rfl;rw[hz] at this;exact this
 exact⟨⟨_,he,rfl⟩,h _ ⟨⟨_,_,_,he,.inl rfl⟩,Xhl (Vb _ (Vk _ rfl))⟩ fun b o q=>Vb _ (Vb _ q)⟩
noncomputable def Ite(K:Vf)(k:Bool)(a:Addr):L2.It :=
 ⟨fun n H=>∃ xs x,SqH k K H a xs/\xs[n]?=some x,
   fun n H v H'=>∃ T x,v=.ref T/\H T=none/\H'=upd H T (.tup [.int n,x])/\∀ xs,SqH k K H a xs->xs[n]?=some x,
   fun n H=>∃ xs,SqH k K H a xs/\xs.length<=n⟩
theorem NSt.at(x:NSt k e it a n h)(q:∀ c∈[e,it],∀ o,h.get? c=some o->h'.get? c=some o):NSt k e it a n h' :=
 ⟨let ⟨f0,f1,old,z,r⟩:=x.eo;⟨f0,f1,old,q e (by simp) _ z,r⟩,x.io.at fun o z=>q it (by simp) o z⟩
theorem NSt.some(x:NSt k e it a n h):∀ c∈[e,it],∃ o,h.get? c=some o/\∀ v,o.data≠.cell v:=fun c hc=>by
 simp only[Vl,V4,or_false] at hc;rcases hc with z|z<;>subst z
 ·obtain⟨f0,f1,old,z,_⟩:=x.eo;exact⟨_,z,fun v q=>nomatch q⟩
 ·obtain⟨o,z,_,d⟩:=x.io.obj;exact⟨o,z,d⟩
theorem Xyh{P:Program}{w:World}{K:Vf}{es:List Expr}{x0:Nat}{tp:Pos}{k:Bool}{e it a:Addr}(hne:e≠it) :
  Turn P w K (.Tuple es x0 tp) (Ite K k a) [e,it] e (fun n h=>NSt k e it a n h) where
 mem:=by simp
 obj:=fun n h st c hc=>st.some c hc
 keep:=fun n h h' st q=>st.at q
 item:=by
  intro X hP hw hK hc n pins s σ H E J hf st hg;subst hP hw hK;obtain⟨xs,x,q1,hx⟩:=hg;obtain⟨its,rv,p⟩:=Xax J q1;obtain⟨u,hu,ru⟩:=rv.get hx;have hT:H s.heap.objs.size=none:=J.hok.fresh (Vh _);have old':∀ c∈[e,it],c≠s.heap.objs.size:=fun c hc=>by obtain⟨o,z,_⟩:=st.some c hc;exact V5 (Vm z)
  refine Xle hne st.eo st.io p (x:=u) (by simpa using hu) fun h' eo' io' pr kp=>⟨_,rfl,Xre eo' fun h2 e2 c2=>?_⟩
  have J1:Inv X pins σ (upd H s.heap.objs.size (.tup [.int n,x])) { s with heap:=s.heap.push { cls:=.type "tuple",data:=.seq #[.int n s.toks,u] } }:=J.laid (t':=s.toks) (fun c o z=>Vb _ z) (Vh _) ⟨by show 2<=Vt;decide,[.int n s.toks,u],.cons ⟨_,rfl⟩ (.cons ru .nil),⟨_,Vk _ rfl,rfl,_,rfl⟩⟩
  have hf1:∀ c∈[e,it],Xaf X pins (upd H s.heap.objs.size (.tup [.int n,x])) c:=fun c hc=>⟨by rw[Xh (old' c hc)];exact(hf c hc).1,(hf c hc).2⟩
  have J2:Inv X pins σ (upd H s.heap.objs.size (.tup [.int n,x])) { s with heap:=h2,toks:=s.toks+1 }:=Xbe (s:={ s with heap:=s.heap.push { cls:=.type "tuple",data:=.seq #[.int n s.toks,u] } }) (h':=h2) (t':=s.toks+1) J1 hf1 fun c o hc z=>by
   simp only[Vl,V4,or_false,not_or] at hc;refine c2.extBut _ _ hc.1 ?_
   by_cases q:c=s.heap.objs.size
   ·subst q
    have z':=(Vk s.heap (o:={ cls:=.type "tuple",data:=.seq #[.int n s.toks,u] }) rfl).symm.trans z;rw[<- z'];exact pr
   ·exact kp c o hc.1 hc.2 (Xcj z q)
  refine⟨.ref s.heap.objs.size,_,J2,rfl,⟨s.heap.objs.size,x,rfl,hT,rfl,fun zs hz=>?_⟩,?_,fun c hc=>(hf1 c hc).1⟩
  ·rw[Xci J hz q1];exact hx
  ·exact⟨e2,io'.at fun o z=>c2.extBut _ _ (Ne.symm hne) z⟩
 done:=by
  intro X hP hw hK hc n pins s σ H E J hf st hg;subst hP hw hK;obtain⟨xs,q1,hl⟩:=hg;obtain⟨its,rv,p⟩:=Xax J q1;have l1:=rv.length;refine Xlf (J.ok.hd hc) st.eo st.io p (by simp;omega) fun h' kp=>⟨rfl,Xbe (t':=s.toks) J hf fun c o hc z=>?_⟩
  simp only[Vl,V4,or_false,not_or] at hc;exact kp c o hc.2 z
 self:=fun _ _ _ _ _ st h=>Xck st.eo h
section
variable{prog:Program}{w:World}{A:Around}{E:Value->Shared->Prop}{s:Shared}{k1 k2:Bool}{e z I O i j a b:Addr}{n:Nat}{xs ys:Array Value}{x y:Value}
theorem nxZ(D:ZAp z I O i j a b)(st:ZSa k1 k2 z I O i j a b n n s.heap)(ha:SqK k1 s.heap a xs)(hb:SqK k2 s.heap b ys)(hx:xs[n]?=some x)(hy:ys[n]?=some y)
  (hQ:∀ h',h'.objs.size=s.heap.objs.size+1->ZSa k1 k2 z I O i j a b (n+1) (n+1) h'->IsPair h' s.heap.objs.size x y->(∀ c o,c≠z->c≠O->c≠i->c≠j->s.heap.get? c=some o->h'.get? c=some o)->Q (.ref s.heap.objs.size) { s with heap:=h' }) :
  wpAny (model prog w) A (Vw (.ref z)) Q E s:=by
 unfold Vw;exact Va (Uc (name:=Ub "__next__") st.ty Vbp (Uq Vbp st.ty Vd8 (Xnz D st ha hb hx hy fun h' q0 q1 q2 q3=>Vg (hQ h' q0 q1 q2 q3)) (Vd0 _)))
theorem X78(hh:A.handled=none)(D:ZAp z I O i j a b)(st:ZSa k1 k2 z I O i j a b n n s.heap)(ha:SqK k1 s.heap a xs)(hb:SqK k2 s.heap b ys)(hend:xs[n]?=none\/ys[n]?=none)
  (hE:∀ h' e,(∀ c o,c≠z->c≠O->c≠i->c≠j->s.heap.get? c=some o->h'.get? c=some o)->(∃ o,h'.get? e=some o/\o.cls=.type "StopIteration")->E (.ref e) { s with heap:=h' }) :
  wpAny (model prog w) A (Vw (.ref z)) Q E s:=by
 unfold Vw;exact Va (Uc (name:=Ub "__next__") st.ty Vbp (Uq Vbp st.ty Vd8 (Xld hh D st ha hb hend hE) (Vd0 _)))
structure Eap(e z I O i j:Addr):Prop where
 z_:e≠z
 I_:e≠I
 O_:e≠O
 i_:e≠i
 j_:e≠j
theorem Xub{Q:Value->Shared->Prop}(De:Eap e z I O i j)(D:ZAp z I O i j a b)(he:EnA s.heap e z n)(st:ZSa k1 k2 z I O i j a b n n s.heap)(ha:SqK k1 s.heap a xs)(hb:SqK k2 s.heap b ys)(hx:xs[n]?=some x)(hy:ys[n]?=some y)
  (hQ:∀ h' T,EnA h' e z ((n:Int)+1)->ZSa k1 k2 z I O i j a b (n+1) (n+1) h'->IsPair h' s.heap.objs.size x y->T=s.heap.objs.size+1->h'.get? T=some { cls:=.type "tuple",data:=.seq #[.int n s.toks,.ref s.heap.objs.size] } ->
   (∀ c o,c≠e->c≠z->c≠O->c≠i->c≠j->s.heap.get? c=some o->h'.get? c=some o)->Q (.ref T) { s with heap:=h',toks:=s.toks+1 }) :
  wpAny (model prog w) A (Builtin.«enumerate.__next__» ⟨[.ref e],[]⟩) (fun fin s'=>∃ v,fin=.done (.ret v)/\Q v s') E s:=by
 obtain⟨f0,f1,old,he,hf⟩:=he;obtain⟨hp,g,d,tk,os⟩:=s;show wpAny _ _ (field (.ref e) 2 >>= _) _ _ _;refine Va (V3 he rfl (x:=.ref z) rfl (Va (nxZ D st ha hb hx hy fun g1 w1 z1 t1 c1=>?_)))
 replace c1:∀ c o,c≠z->c≠O->c≠i->c≠j->hp.get? c=some o->g1.get? c=some o:=c1
 replace t1:IsPair g1 hp.objs.size x y:=t1
 have e1:Xbc g1 e z n f0 f1 old:=c1 _ _ De.z_ De.O_ De.i_ De.j_ he;show wpAny _ _ (field (.ref e) 3 >>= _) _ _ ⟨g1,g,d,tk,os⟩;refine Va (V3 e1 rfl (x:=rawInt n) rfl ?_);show wpAny _ _ (field (.ref e) 4 >>= _) _ _ ⟨g1,g,d,tk,os⟩;refine Va (V3 e1 rfl (x:=.none) rfl ?_);show wpAny _ _ (mkInt n >>= _) _ _ ⟨g1,g,d,tk,os⟩;refine Va (wpAny_mkInt ?_);show wpAny _ _ (setField (.ref e) 3 (rawInt ((n:Int)+1)) >>= _) _ _ ⟨g1,g,d,tk+1,os⟩;refine Va (Ua e1 (by simp) fun g2 e2 c2=>?_);replace c2:Ui e g1 g2:=c2;replace e2:Xbc g2 e z ((n:Int)+1) f0 f1 old:=e2
 show wpAny _ _ (setField (.ref e) 4 .none >>= _) _ _ ⟨g2,g,d,tk+1,os⟩;refine Va (Ua e2 (by simp) fun g3 e3 c3=>?_);replace c3:Ui e g2 g3:=c3;replace e3:Xbc g3 e z ((n:Int)+1) f0 f1 old:=e3
 show wpAny _ _ (newTuple [.int n tk,.ref hp.objs.size] >>= _) _ _ ⟨g3,g,d,tk+1,os⟩;refine Va (Vez ?_);have e4:Xbc (g3.push { cls:=.type "tuple",data:=.seq #[.int n tk,.ref hp.objs.size] }) e z ((n:Int)+1) f0 f1 old:=Vb _ e3;have el:e<hp.objs.size:=Vm he
 replace w1:g1.objs.size=hp.objs.size+1:=w1
 have hT:g3.objs.size=hp.objs.size+1:=by rw[c3.1,c2.1];exact w1
 have t4:(g3.push { cls:=.type "tuple",data:=.seq #[.int n tk,.ref hp.objs.size] }).get? g3.objs.size=some { cls:=.type "tuple",data:=.seq #[.int n tk,.ref hp.objs.size] }:=Vk _ rfl;have k14:∀ c o,c≠e->g1.get? c=some o->(g3.push { cls:=.type "tuple",data:=.seq #[.int n tk,.ref hp.objs.size] }).get? c=some o:=fun c o h1 hb=>Vb _ (c3.extBut c o h1 (c2.extBut c o h1 hb))
 show wpAny _ _ (Uf (.ref e) >>= _) _ _ ⟨g3.push { cls:=.type "tuple",data:=.seq #[.int n tk,.ref hp.objs.size] },g,d,tk+1,os⟩;generalize g3.push { cls:=.type "tuple",data:=.seq #[.int n tk,.ref hp.objs.size] }=g4 at e4 t4 k14 ⊢;dsimp only;generalize g3.objs.size=T at hT t4 ⊢;clear e3 c3 e2 c2 g3 g2;have fin:∀ g7,EnA g7 e z ((n:Int)+1)->(∀ b o,b≠e->g4.get? b=some o->g7.get? b=some o)->∃ v,(Fin.done (.ret (.ref T)))=.done (.ret v)/\Q v ⟨g7,g,d,tk+1,os⟩:=fun g7 e7 up=>by
  have u:∀ c o,c≠e->g1.get? c=some o->g7.get? c=some o:=fun c o h q=>up c o h (k14 c o h q)
  refine⟨_,rfl,hQ g7 T e7 ⟨?_,u _ _ De.I_.symm z1.io,?_,z1.i1.at fun o q=>u _ o De.i_.symm q,z1.i2.at fun o q=>u _ o De.j_.symm q⟩ (u _ _ (Vbk el) t1) hT (up _ _ (by rw[hT];exact Vbk (Vbr el)) t4) fun c o h1 h2 h3 h4 h5 q=>u c o h1 (c1 c o h2 h3 h4 h5 q)⟩
  ·obtain⟨f0,f1,q,q2⟩:=z1.zo;exact⟨f0,f1,u _ _ De.z_.symm q,q2⟩
  ·obtain⟨u1,u2,q⟩:=z1.oo;exact⟨u1,u2,u _ _ De.O_.symm q⟩
 refine Va (Xrd e4 hf ?_ fun g5 f5 e5 c5=>?_)
 ·simp only[if_true]
  exact Xn0 (hp:=hp) e4 fin
 ·simp only[Ud,if_false]
  exact Vg (fin g5 e5 fun b o h1 q=>c5.extBut b o h1 q)
theorem Xuc(De:Eap e z I O i j)(D:ZAp z I O i j a b)(he:EnA s.heap e z n)(st:ZSa k1 k2 z I O i j a b n n s.heap)(ha:SqK k1 s.heap a xs)(hb:SqK k2 s.heap b ys)(hx:xs[n]?=some x)(hy:ys[n]?=some y)
  (hQ:∀ h' T,EnA h' e z ((n:Int)+1)->ZSa k1 k2 z I O i j a b (n+1) (n+1) h'->IsPair h' s.heap.objs.size x y->T=s.heap.objs.size+1->h'.get? T=some { cls:=.type "tuple",data:=.seq #[.int n s.toks,.ref s.heap.objs.size] } ->
   (∀ c o,c≠e->c≠z->c≠O->c≠i->c≠j->s.heap.get? c=some o->h'.get? c=some o)->Q (some (.ref T)) { s with heap:=h',toks:=s.toks+1 }) :
  wpAny (model prog w) A (pyNext (.ref e)) Q E s:=by
 have hT:s.TypeIs (.ref e) "enumerate" := by obtain⟨f0,f1,old,he,_⟩:=he;exact⟨_,he,rfl⟩
 unfold pyNext;exact Va (Vb3 (Uc (name:=Ub "__next__") hT Vaj (Uq Vaj hT Vcu (Xub De D he st ha hb hx hy fun h' T q1 q2 q3 q4 q5 q6=>Vg (hQ h' T q1 q2 q3 q4 q5 q6)) (Vcj _))))
theorem Xud(hh:A.handled=none)(De:Eap e z I O i j)(D:ZAp z I O i j a b)(he:EnA s.heap e z n)(st:ZSa k1 k2 z I O i j a b n n s.heap)(ha:SqK k1 s.heap a xs)(hb:SqK k2 s.heap b ys)(hend:xs[n]?=none\/ys[n]?=none)
  (hQ:∀ h',(∀ c o,c≠z->c≠O->c≠i->c≠j->s.heap.get? c=some o->h'.get? c=some o)->Q none { s with heap:=h' }):wpAny (model prog w) A (pyNext (.ref e)) Q E s:=by
 obtain⟨f0,f1,old,he,_⟩:=he;have hT:s.TypeIs (.ref e) "enumerate" := ⟨_,he,rfl⟩;unfold pyNext;refine Va (Vb3 (Uc (name:=Ub "__next__") hT Vaj (Uq Vaj hT Vcu ?_ (Vcj _))));show wpAny _ _ (field (.ref e) 2 >>= _) _ _ _;refine Va (V3 he rfl (x:=.ref z) rfl (Va (X78 hh D st ha hb hend fun h' x he' hx'=>?_)))
 obtain⟨o,ho,hc⟩:=hx';exact Va (wpAny_isInstance (T := "StopIteration") (b:=true) ⟨o,ho,hc⟩ isSubtype_stop (Vg (hQ _ he')))
end
noncomputable def Itn(K:Vf)(k1 k2:Bool)(a b:Addr):L2.It :=
 ⟨fun n H=>∃ xs x ys y,SqH k1 K H a xs/\xs[n]?=some x/\SqH k2 K H b ys/\ys[n]?=some y,
   fun n H v H'=>∃ T U x y,v=.ref U/\H T=none/\H U=none/\T≠U/\H'=upd (upd H T (.tup [x,y])) U (.tup [.int n,.ref T])/\(∀ xs,SqH k1 K H a xs->xs[n]?=some x)/\∀ ys,SqH k2 K H b ys->ys[n]?=some y,
   fun n H=>∃ xs ys,SqH k1 K H a xs/\SqH k2 K H b ys/\(xs.length<=n\/ys.length<=n)⟩
structure EZ(k1 k2:Bool)(e z I O i j a b:Addr)(n:Nat)(h:Heap):Prop where
 eo:EnA h e z n
 zo:ZSa k1 k2 z I O i j a b n n h
theorem EZ.at{k1 k2:Bool}{e z I O i j a b:Addr}{n:Nat}(x:EZ k1 k2 e z I O i j a b n h)(k:∀ c∈[e,z,I,O,i,j],∀ o,h.get? c=some o->h'.get? c=some o):EZ k1 k2 e z I O i j a b n h':=by
 obtain⟨⟨f0,f1,old,q1,q2⟩,⟨⟨g0,g1,r1,r2⟩,io,⟨p,q,oo⟩,i1,i2⟩⟩:=x;exact⟨⟨f0,f1,old,k e (by simp) _ q1,q2⟩,⟨⟨g0,g1,k z (by simp) _ r1,r2⟩,k I (by simp) _ io,⟨p,q,k O (by simp) _ oo⟩,i1.at fun o u=>k i (by simp) o u,i2.at fun o u=>k j (by simp) o u⟩⟩
theorem EZ.some{k1 k2:Bool}{e z I O i j a b:Addr}{n:Nat}(x:EZ k1 k2 e z I O i j a b n h):∀ c∈[e,z,I,O,i,j],∃ o,h.get? c=some o/\∀ v,o.data≠.cell v:=fun c hc=>by
 obtain⟨⟨f0,f1,old,q1,q2⟩,⟨⟨g0,g1,r1,r2⟩,io,⟨p,q,oo⟩,i1,i2⟩⟩:=x;simp only[Vl,V4,or_false] at hc;rcases hc with u|u|u|u|u|u<;>subst u
 ·exact⟨_,q1,fun v q=>nomatch q⟩
 ·exact⟨_,r1,fun v q=>nomatch q⟩
 ·exact⟨_,io,fun v q=>nomatch q⟩
 ·exact⟨_,oo,fun v q=>nomatch q⟩
 ·obtain⟨o,u,_,d⟩:=i1.obj;exact⟨o,u,d⟩
 ·obtain⟨o,u,_,d⟩:=i2.obj;exact⟨o,u,d⟩
theorem Xue{P:Program}{w:World}{K:Vf}{es:List Expr}{x0:Nat}{tp:Pos}{k1 k2:Bool}{e z I O i j a b:Addr}(De:Eap e z I O i j)(D:ZAp z I O i j a b)
  (hself:∀ (A:Around) (n:Nat) (s:Shared) (Q:Value->Shared->Prop) (E:Value->Shared->Prop),EZ k1 k2 e z I O i j a b n s.heap->Q (.ref e) s->wpAny (model P w) A (pyIter (.ref e)) Q E s) :
  Turn P w K (.Tuple es x0 tp) (Itn K k1 k2 a b) [e,z,I,O,i,j] e (fun n h=>EZ k1 k2 e z I O i j a b n h) where
 mem:=by simp
 obj:=fun n h st c hc=>st.some c hc
 keep:=fun n h h' st k=>st.at k
 item:=by
  intro X hP hw hK hc n pins s σ H E J hf st hg;subst hP hw hK;obtain⟨xs,x,ys,y,q1,hx,q2,hy⟩:=hg;obtain⟨its1,rv1,p1⟩:=Xax J q1;obtain⟨its2,rv2,p2⟩:=Xax J q2;obtain⟨u1,hu1,ru1⟩:=rv1.get hx;obtain⟨u2,hu2,ru2⟩:=rv2.get hy;have hT:H s.heap.objs.size=none:=J.hok.fresh (Vh _);have hU:H (s.heap.objs.size+1)=none:=J.hok.fresh (Nat.le_succ _);have old:∀ c∈[e,z,I,O,i,j],c<s.heap.objs.size:=fun c hc=>by obtain⟨o,u,_⟩:=st.some c hc;exact Vm u
  refine Xuc De D st.eo st.zo p1 p2 (x:=u1) (y:=u2) (by simpa using hu1) (by simpa using hu2) fun h' T eo' zo' pr hTe tu kp=>⟨_,rfl,Xre eo' fun h2 e2 c2=>?_⟩
  subst hTe;have J1:Inv X pins σ (upd H s.heap.objs.size (.tup [x,y])) { s with heap:=s.heap.push { cls:=.type "tuple",data:=.seq #[u1,u2] } }:=J.laid (t':=s.toks) (fun c o u=>Vb _ u) (Vh _) ⟨by show 2<=Vt;decide,[u1,u2],.cons ru1 (.cons ru2 .nil),⟨_,Vk _ rfl,rfl,_,rfl⟩⟩
  have sz1:(s.heap.push { cls:=.type "tuple",data:=.seq #[u1,u2] }).objs.size=s.heap.objs.size+1:=Vad ..;have J2:Inv X pins σ (upd (upd H s.heap.objs.size (.tup [x,y])) (s.heap.objs.size+1) (.tup [.int n,.ref s.heap.objs.size])) { s with heap:=(s.heap.push { cls:=.type "tuple",data:=.seq #[u1,u2] }).push { cls:=.type "tuple",data:=.seq #[.int n s.toks,.ref s.heap.objs.size] } } :=
   J1.laid (t':=s.toks) (fun c o u=>Vb _ u) (by rw[sz1];exact Vh _) ⟨by show 2<=Vt;decide,[.int n s.toks,.ref s.heap.objs.size],.cons ⟨_,rfl⟩ (.cons rfl .nil),⟨_,by rw[<- sz1];exact Vk _ rfl,rfl,_,rfl⟩⟩
  have hf1:∀ c∈[e,z,I,O,i,j],Xaf X pins (upd (upd H s.heap.objs.size (.tup [x,y])) (s.heap.objs.size+1) (.tup [.int n,.ref s.heap.objs.size])) c:=fun c hc=>by
   have:=old c hc;exact⟨by rw[Xh (V5 (Vbr this)),Xh (V5 this)];exact(hf c hc).1,(hf c hc).2⟩
  have J3:Inv X pins σ (upd (upd H s.heap.objs.size (.tup [x,y])) (s.heap.objs.size+1) (.tup [.int n,.ref s.heap.objs.size])) { s with heap:=h2,toks:=s.toks+1 }:=Xbe (s:={ s with heap:=(s.heap.push { cls:=.type "tuple",data:=.seq #[u1,u2] }).push { cls:=.type "tuple",data:=.seq #[.int n s.toks,.ref s.heap.objs.size] } }) (h':=h2) (t':=s.toks+1) J2 hf1 fun c o hc u=>by
   simp only[Vl,V4,or_false,not_or] at hc;refine c2.extBut _ _ hc.1 ?_
   by_cases r2:c=s.heap.objs.size+1
   ·subst r2
    have u':some _=some o:=(by rw[<- sz1];exact(Vk (s.heap.push { cls:=.type "tuple",data:=.seq #[u1,u2] }) (o:={ cls:=.type "tuple",data:=.seq #[.int n s.toks,.ref s.heap.objs.size] }) rfl):((s.heap.push { cls:=.type "tuple",data:=.seq #[u1,u2] }).push { cls:=.type "tuple",data:=.seq #[.int n s.toks,.ref s.heap.objs.size] }).get? (s.heap.objs.size+1)=_).symm.trans u
    rw[<- u'];exact tu
   ·have u2':=Xcj u (by rw[sz1];exact r2)
    by_cases r:c=s.heap.objs.size
    ·subst r
     have u':=(Vk s.heap (o:={ cls:=.type "tuple",data:=.seq #[u1,u2] }) rfl).symm.trans u2';rw[<- u'];exact pr
    ·exact kp c o hc.1 hc.2.1 hc.2.2.2.1 hc.2.2.2.2.1 hc.2.2.2.2.2 (Xcj u2' r)
  refine⟨.ref (s.heap.objs.size+1),_,J3,rfl,⟨s.heap.objs.size,s.heap.objs.size+1,x,y,rfl,hT,hU,V5 (Vbb _),rfl,fun zs hz=>?_,fun zs hz=>?_⟩,?_,fun c hc=>(hf1 c hc).1⟩
  ·rw[Xci J hz q1];exact hx
  ·rw[Xci J hz q2];exact hy
  ·refine⟨e2,?_⟩
   obtain⟨⟨g0,g1,r1,r2⟩,io,⟨p,q,oo⟩,i1,i2⟩:=zo';have k2':∀ c o,c≠e->h'.get? c=some o->h2.get? c=some o:=fun c o e1 u=>c2.extBut _ _ e1 u
   exact⟨⟨g0,g1,k2' _ _ De.z_.symm r1,r2⟩,k2' _ _ De.I_.symm io,⟨p,q,k2' _ _ De.O_.symm oo⟩,i1.at fun o u=>k2' _ o De.i_.symm u,i2.at fun o u=>k2' _ o De.j_.symm u⟩
 done:=by
  intro X hP hw hK hc n pins s σ H E J hf st hg;subst hP hw hK;obtain⟨xs,ys,q1,q2,hl⟩:=hg;obtain⟨its1,rv1,p1⟩:=Xax J q1;obtain⟨its2,rv2,p2⟩:=Xax J q2;have l1:=rv1.length;have l2:=rv2.length;refine Xud (J.ok.hd hc) De D st.eo st.zo p1 p2 ?_ fun h' kp=>⟨rfl,Xbe (t':=s.toks) J hf fun c o hc u=>?_⟩
  ·rcases hl with hl|hl
   ·exact .inl (by simp;omega)
   ·exact .inr (by simp;omega)
  ·simp only[Vl,V4,or_false,not_or] at hc
   exact kp c o hc.2.1 hc.2.2.2.1 hc.2.2.2.2.1 hc.2.2.2.2.2 u
 self:=hself
end Z
end
section
namespace Z
open PySem PySem.Spec PyProof.Rows L2
open AutoSeq1 (wpAny_loadPart')
theorem Xrf(z I O:Addr)(f0 f1:Value):Meets (Builtin.«enumerate.__new__» ⟨[.type "enumerate",.ref z],[]⟩) (fun _ R s=>IsZ s.heap z I O f0 f1 /\
   R (.ok (.ret (.ref s.heap.objs.size))) { s with heap:=s.heap.push { cls:=.type "enumerate",data:=.fields #[.none,.bool false,.ref z,rawInt 0,.none,.none] } }) :=
 .of_wp fun prog w A R s h=>by
  obtain⟨hp,g,d,tk,os⟩:=s;obtain⟨hl,h⟩:=h;have hsub:=sub_enumerate;have L:IsZ (Shared.heap ⟨hp,g,d,tk,os⟩) z I O f0 f1:=hl
  wp_walk using Vaf hl
  refine wpAny_stack_any fun st=>Vg ?_
  split
  ·rename_i c _ _ _ _ _
   cases (c==Vc5 "enumerate")<;>(wp_walk using Vaf hl,Xdv L;exact⟨_,rfl,h⟩)
  ·wp_walk using Vaf hl,Xdv L
   exact⟨_,rfl,h⟩
theorem Xuf{E:Value->Shared->Prop}{k1 k2:Bool}{z I O i j a b:Addr}{Q:Value->Shared->Prop}(st:ZSa k1 k2 z I O i j a b 0 0 s.heap)
  (h:∀ h',EZ k1 k2 s.heap.objs.size z I O i j a b 0 h'->(∀ c o,s.heap.get? c=some o->h'.get? c=some o)->Q (.ref s.heap.objs.size) { s with heap:=h' }) :
  wpAny (model prog w) A (call (.type "enumerate") [.ref z]) Q E s:=by
 obtain⟨⟨f0,f1,z1,zf⟩,z2,⟨x,y,z3⟩,z4,z5⟩:=st;refine callType_new F.called_enumerate (by decide) (F.typeCall_enumerate_1 _) (F.newCall_enumerate_1 _) (fun obj=>F.args_object_init_2 obj _) F.entry_enumerate_new (Xrf z I O f0 f1) ⟨z1,?_⟩
 have he:=Vk s.heap (o:={ cls:=.type "enumerate",data:=.fields #[.none,.bool false,.ref z,rawInt 0,.none,.none] }) rfl;exact⟨⟨_,he,rfl⟩,h _ ⟨⟨_,_,_,he,.inl rfl⟩,⟨⟨_,_,Vb _ z1,zf⟩,Vb _ z2,⟨_,_,Vb _ z3⟩,z4.at fun o q=>Vb _ q,z5.at fun o q=>Vb _ q⟩⟩ fun c o q=>Vb _ q⟩
end Z
end
section
namespace Z
open PySem PySem.Spec PyProof.Rows L2
theorem Xjp(a b:Int):Vci a b (-1)=if a>b then a-b else 0:=by
 unfold Vci;rw[if_neg (by decide)]
 split<;>simp<;>omega
theorem Xo7(ha:-(2^62)<=a)(ha':a<2^62)(hb:-(2^62)<=b)(hb':b<2^62):Builtin.Range.small a b (-1)=true:=by
 unfold Builtin.Range.small;rw[Xjp];simp only[Builtin.Range.rangeFitsLong,bA0,Va0,decide_eq_true_eq,beq_iff_eq,show ¬ (-1:Int)>0 by decide,if_false]
 split<;>omega
noncomputable def Itd(lo:Int)(n:Nat):L2.It where
 go:=fun i _=>i<n
 yld:=fun i H x H'=>H'=H/\x=.int (lo-i)
 stop:=fun i _=>n<=i
theorem Xrg{P:Program}{w:World}{K:Vf}{tg:Expr}(it:Addr)(lo:Int)(n:Nat):Turn P w K tg (Itd lo n) [it] it (fun i h=>IsRangeIter h it (lo+(i:Nat)*(-1)) ((n:Int)-(i:Nat)) (-1)) where
 mem:=by simp
 obj:=fun i h st b hb=>by
  obtain rfl:b=it:=by simpa using hb
  exact⟨_,st,fun v z=>nomatch z⟩
 keep:=fun i h h' st k=>k it (by simp) _ st
 item:=by
  intro X hP hw hK hc i pins s σ H E I hf st hg;subst hP hw hK;obtain⟨f0,f1,f2,f3,f4,f5⟩:=hf it (by simp)
  refine(Walks.range (prog:=X.prog) (w:=X.w) (I.ok.hd hc) it lo (-1) n).item i s _ _ hg st fun v h' tk hv st' kk=>?_
  obtain⟨t,rfl⟩:=hv;have I1:Inv X pins σ H { s with heap:=h',toks:=tk }:=I.turned (fun b o hb e=>kk b o (by simpa using hb) e) f0 f1 f3 f4 f5
  refine⟨_,rfl,Xkb (s:={ s with heap:=h',toks:=tk }) (n := "range_iterator") st' rfl rfl (by decide) ⟨.int (lo-i),H,I1,⟨t,?_⟩,⟨rfl,rfl⟩,st',fun b hb=>(hf b hb).1⟩⟩
  have e:lo+(i:Int)*(-1)=lo-i:=by omega
  rw[e]
 done:=by
  intro X hP hw hK hc i pins s σ H E I hf st hg;subst hP hw hK;obtain⟨f0,f1,f2,f3,f4,f5⟩:=hf it (by simp)
  have hn:n<=i:=hg;exact wpAny_pyNext_range_end (I.ok.hd hc) st (by omega) fun h' eb=>⟨rfl,I.turned (t':=s.toks) (fun b o hb e=>eb b o hb e) f0 f1 f3 f4 f5⟩
 self:=fun _ _ _ _ _ st h=>wpAny_pyIter_rangeiter st h
section
variable{X:Cx}{tg:Expr}
theorem Xyi{pins:List (Addr×Obj)}{R:L2.It->Hp->Prop}{E:Value->Shared->Prop}{lo hi:Int}{tk:Nat}(I:Inv X pins σ H s)(h1:-(2^62)<=lo)(h2:lo<2^62)(h3:-(2^62)<=hi)(h4:hi<2^62)
  (q:R (Itd lo (lo-hi).toNat) H):wpAny (model X.prog X.w) X.A (pyIter (.ref s.heap.objs.size)) (PIE X pins σ tg R) E { s with heap:=s.heap.push { cls:=.type "range",data:=.fields #[.int lo t,.int hi u,.int (-1) v] },toks:=tk }:=by
 refine wpAny_pyIter_range (IsRange.new ..) (Xo7 h1 h2 h3 h4) ?_;generalize hR:({ cls:=.type "range",data:=.fields #[.int lo t,.int hi u,.int (-1) v] }:Obj)=ro;have I1:Inv X pins σ H { s with heap:=s.heap.push ro,toks:=tk }:=I.kept fun b o e=>Vb _ e
 refine⟨(s.heap.push ro).objs.size,[(s.heap.push ro).objs.size],_,_,H,rfl,I1.kept (t':=tk) fun b o e=>Vb _ e,Xrg _ lo (lo-hi).toNat,?_,fun b hb=>?_,q⟩
 ·have e1:lo+((0:Nat):Int)*(-1)=lo:=by simp
  have e2:(((lo-hi).toNat:Nat):Int)-((0:Nat):Int)=Vci lo hi (-1):=by rw[Xjp];split<;>omega
  show IsRangeIter _ _ (lo+((0:Nat):Int)*(-1)) ((((lo-hi).toNat:Nat):Int)-((0:Nat):Int)) (-1);rw[e1,e2];exact Vk _ rfl
 ·obtain rfl:b=(s.heap.push ro).objs.size:=by simpa using hb
  exact I1.fpOk (Vh _) (I1.hok.fresh (Vh _))
end
section
variable{X:Cx}{pins:List (Addr×Obj)}{σ:L2.St}{H:Hp}{s:Shared}{ρ:List Addr}{S S':Sto}{env:En}{Q:Value->Shared->Prop}{E:Value->Shared->Prop}{a b c e tg iter:Expr}{f fa fb fc:En->Sto->R D}{pos:Pos}
def DG(X:Cx)(tg:Expr)(t:Tg):Prop :=
 ∀ (pins:List (Addr×Obj)) (s:Shared) (σ:L2.St) (H:Hp) (ρ:List Addr) (S:Sto) (env:En) (d:D) (v:V) (u:Value) (env':En) (Q:Unit->Shared->Prop) (E:Value->Shared->Prop),S0 X pins σ H s ρ S env->Xl t d env=some env'->RD X.K ρ H d v->RelV v u ->
  (∀ s' σ',S0 X pins σ' H s' ρ S env'->Q () s')->wpAny (model X.prog X.w) X.A (assign tg X.env u) Q E s
theorem Xyj(hN:X.N.Nodup)(hi:X.N[i]?=some x)(hx:Loc X.env.scope x)(hf:X.fn x=true\/X.env.scope.names.lookup x=some .local):DG X (.Name x pos) (.var i):=by
 intro pins s σ H ρ S env d v u env' Q E I h rd rv hQ;simp only[Xl,Vi] at h;subst h;exact Vfa (Xba I.inv hN hi hx rv (fun s' I'=>hQ s' _ ⟨I',I.sr,I.er.set i rd⟩) hf)
noncomputable def gNs:List Nat->TGs
 | []=>X1p
 | i::is=>Xxd (Xow i) (gNs is)
theorem Xlg:∀ (is:List Nat) (vs:List V) (σ:L2.St) (H:Hp) (Q:L2.St->Hp->Prop),is.length=vs.length->Q ((is.zip vs).foldl (fun e p=>e.set p.1 (some p.2)) σ) H->gNs is vs σ H Q
 | [],vs,σ,H,Q,hl,h=>by
  have:vs=[]:=by simpa using hl.symm
  subst this;exact⟨rfl,h⟩
 | i::is,[],σ,H,Q,hl,h=>by simp at hl
 | i::is,v::vs,σ,H,Q,hl,h=>⟨v,vs,rfl,Xlg is vs _ H Q (by simpa using hl) h⟩
theorem ER.sets{K:Vf}:∀ (is:List Nat) (ds:List D) (vs:List V) (env:En) (σ:L2.St),RDs K ρ H ds vs->ER K ρ H env σ->ER K ρ H ((is.zip ds).foldl (fun e p=>e.set p.1 (some p.2)) env) ((is.zip vs).foldl (fun e p=>e.set p.1 (some p.2)) σ)
 | [],ds,vs,env,σ,r,e=>by simpa using e
 | i::is,[],vs,env,σ,r,e=>by simp only[RDs] at r;subst r;simpa using e
 | i::is,d::ds,vs,env,σ,r,e=>by
  simp only[RDs] at r;obtain⟨v,vs',rfl,h1,h2⟩:=r;exact ER.sets is ds vs' _ _ h2 (e.set i h1)
theorem X2c(hc:X.calm=true)(h:∀ E,PGs (X.wish E) es (gNs is))(hn:(U8 es X.env).length=is.length)(hst:(U8 es X.env).findIdx? (·.1)=none):DG X (.Tuple es k pos) (.tup is):=by
 intro pins s σ H ρ S env d v u env' Q E I hd rd rv hQ;cases d with
 | tup ds =>
  simp only[Xl] at hd;split at hd
  ·rename_i hl
   cases hd;simp only[RD] at rd;obtain⟨a,vs,rfl,hs,hr⟩:=rd;have hlv:is.length=vs.length:=by rw[hl,hr.length]
   refine thn (Xkx (X:=X.wish E) (n:=is.length) hc (h E) hn hst pins s σ H (.ref a) u (fun σ' H'=>H'=H/\σ'=(is.zip vs).foldl (fun e p=>e.set p.1 (some p.2)) σ) (I.inv.wish E) rv ⟨a,vs,rfl,hs,hlv.symm,Xlg is vs σ H _ hlv ⟨rfl,rfl⟩⟩) fun _ s' ⟨σ',H',J,e1,e2⟩=>?_
   subst e1 e2;exact hQ s' _ ⟨J.unwish,I.sr,ER.sets is ds vs env σ hr I.er⟩
  ·cases hd
 | _=>cases hd
theorem X2d(hc:X.calm=true)(h0:∀ E,PG (X.wish E) (.Name x p0) (Xow i))(h:∀ E,PGs (X.wish E) es (gNs is))(hn:(U8 es X.env).length=is.length)(hst:(U8 es X.env).findIdx? (·.1)=none):DG X (.Tuple [.Name x p0,.Tuple es k2 p2] k pos) (.nst i is):=by
 intro pins s σ H ρ S env d v u env' Q E I hd rd rv hQ
 match d,hd,rd with
 | .tup [d0,.tup ds],hd,rd =>
  simp only[Xl] at hd;split at hd
  ·rename_i hl
   cases hd;simp only[RD,RDs] at rd;obtain⟨a,vs,rfl,hs,v0,r0,rfl,rd0,v1,r1,rfl,⟨a1,vs1,rfl,hs1,hr1⟩,rfl⟩:=rd;have hlv:is.length=vs1.length:=by rw[hl,hr1.length]
   refine thn (Xkx (X:=X.wish E) (n:=2) hc (Xfo (h0 E) (Xfo (Xkx (X:=X.wish E) (n:=is.length) hc (h E) hn hst) Xns)) rfl rfl pins s σ H (.ref a) u (fun σ' H'=>H'=H/\σ'=(is.zip vs1).foldl (fun e p=>e.set p.1 (some p.2)) (σ.set i (some v0))) (I.inv.wish E) rv
    ⟨a,_,rfl,hs,rfl,v0,_,rfl,_,_,rfl,a1,vs1,rfl,hs1,hlv.symm,Xlg is vs1 _ H _ hlv ⟨rfl,rfl,rfl⟩⟩) fun _ s' ⟨σ',H',J,e1,e2⟩=>?_
   subst e1 e2;exact hQ s' _ ⟨J.unwish,I.sr,ER.sets is ds vs1 _ _ hr1 (I.er.set i rd0)⟩
  ·cases hd
theorem Xrh:∀ (is:List Nat) (xs:List (Str×Pos)),X.N.Nodup->is.length=xs.length->(∀ (j i:Nat) (x:Str×Pos),is[j]?=some i->xs[j]?=some x->X.N[i]?=some x.1/\Loc X.env.scope x.1/\(X.fn x.1=true\/X.env.scope.names.lookup x.1=some .local)) ->
  PGs X (xs.map fun x=>Expr.Name x.1 x.2) (gNs is)
 | [],xs,_,hl,_=>by
  have:xs=[]:=by simpa using hl.symm
  subst this;exact Xns
 | i::is,[],_,hl,_=>by simp at hl
 | i::is,x::xs,hN,hl,h=>by
  obtain⟨h1,h2,h3⟩:=h 0 i x rfl rfl;exact Xfo (Xnr hN h1 h2 h3) (Xrh is xs hN (by simpa using hl) fun j i' x' e1 e2=>h (j+1) i' x' (by simpa using e1) (by simpa using e2)) rfl
theorem Xgj:∀ (xs:List (Str×Pos)) (env:Vah),(U8 (xs.map fun x=>Expr.Name x.1 x.2) env).length=xs.length/\(U8 (xs.map fun x=>Expr.Name x.1 x.2) env).findIdx? (·.1)=none
 | [],env=>⟨rfl,rfl⟩
 | x::xs,env=>by
  have h:=Xgj xs env;have e:U8 ((x::xs).map fun x=>Expr.Name x.1 x.2) env=(false,assign (.Name x.1 x.2) env)::U8 (xs.map fun x=>Expr.Name x.1 x.2) env:=rfl
  rw[e];refine⟨by simp[h.1],?_⟩
  rw[List.findIdx?_cons];simp[h.2]
def SrcK(K:Vf)(ρ:List Addr)(H:Hp):Src->Bool->Addr->Prop
 | .con xs,false,a=>∃ vs,SqT K H a vs/\RDs K ρ H xs vs
 | .ref n,true,a=>ρ[n]?=some a
 | _,_,_=>False
theorem SrcK.mono'{K:Vf}{ρ':List Addr}{H':Hp}{src:Src}{k:Bool}{a:Addr}(x:Mon K ρ ρ' H H')(h:SrcK K ρ H src k a):SrcK K ρ' H' src k a:=by
 cases src with
 | con xs=>cases k with
  | false=>obtain⟨vs,h1,h2⟩:=h;exact⟨vs,x.tup _ _ h1,RDs.mono' x _ _ h2⟩
  | true=>exact h.elim
 | ref n=>cases k with
  | false=>exact h.elim
  | true=>exact x.pre _ _ h
 | zpp _ _=>exact h.elim
 | enm _=>exact h.elim
theorem SrcK.get{src:Src}{k:Bool}{a:Addr}{i:Nat}{o:Option D}(h:SrcK X.K ρ H src k a)(I:S0 X pins σ H s ρ S env)(g:src.get S i=some o):∃ vs,SqH k X.K H a vs/\match o with
  | some d=>∃ v,vs[i]?=some v/\RD X.K ρ H d v
  | none=>vs.length<=i:=by
 cases src with
 | con xs=>cases k with
  | false =>
   obtain⟨vs,h1,h2⟩:=h;simp only[Src.get,Vi] at g;refine⟨vs,h1,?_⟩;cases o with
   | some d=>exact h2.get g
   | none=>have:=h2.none g;rw[V7] at this;exact this
  | true=>exact h.elim
 | ref n=>cases k with
  | false=>exact h.elim
  | true =>
   simp only[Src.get,V8] at g;obtain⟨xs,g1,g2⟩:=g;obtain⟨a',vs,k1,k2,k3⟩:=I.list g1;have h':ρ[n]?=some a:=h;rw[h'] at k1;cases k1;refine⟨vs,.of k2,?_⟩;cases o with
   | some d=>exact k3.get g2
   | none=>have:=k3.none g2;rw[V7] at this;exact this
 | zpp _ _=>exact h.elim
 | enm _=>exact h.elim
inductive SrcR(K:Vf)(ρ:List Addr)(H:Hp):Src->L2.It->Prop where
 | tup {a:Addr} {xs:List D} {vs:List V}:SqT K H a vs->RDs K ρ H xs vs->SrcR K ρ H (.con xs) (Itt K a)
 | rng (lo:Int) (n:Nat):SrcR K ρ H (.con ((Vc n).map fun(k:Nat)=>D.int (lo+k))) (Itr lo n)
 | lst {n:Nat} {a:Addr}:ρ[n]?=some a->SrcR K ρ H (.ref n) (Itl K a)
 | zpp {s1 s2:Src} {k1 k2:Bool} {a b:Addr}:SrcK K ρ H s1 k1 a->SrcK K ρ H s2 k2 b->SrcR K ρ H (.zpp s1 s2) (Itz K k1 k2 a b)
 | dwn (lo:Int) (n:Nat):SrcR K ρ H (.con ((Vc n).map fun(k:Nat)=>D.int (lo-k))) (Itd lo n)
 | enm {s1:Src} {k:Bool} {a:Addr}:SrcK K ρ H s1 k a->SrcR K ρ H (.enm s1) (Ite K k a)
 | ezp {s1 s2:Src} {k1 k2:Bool} {a b:Addr}:SrcK K ρ H s1 k1 a->SrcK K ρ H s2 k2 b->SrcR K ρ H (.enm (.zpp s1 s2)) (Itn K k1 k2 a b)
theorem SrcR.mono'{K:Vf}{ρ':List Addr}{H':Hp}{src:Src}{J:L2.It}(x:Mon K ρ ρ' H H')(h:SrcR K ρ H src J):SrcR K ρ' H' src J:=by
 cases h with
 | tup h1 h2=>exact .tup (x.tup _ _ h1) (RDs.mono' x _ _ h2)
 | rng lo n=>exact .rng lo n
 | lst h=>exact .lst (x.pre _ _ h)
 | zpp h1 h2=>exact .zpp (h1.mono' x) (h2.mono' x)
 | dwn lo n=>exact .dwn lo n
 | enm h1=>exact .enm (h1.mono' x)
 | ezp h1 h2=>exact .ezp (h1.mono' x) (h2.mono' x)
theorem SrcR.mono{K:Vf}{ρ':List Addr}{H':Hp}{src:Src}{J:L2.It}(x:Stp K ρ ρ' H H')(h:SrcR K ρ H src J):SrcR K ρ' H' src J:=h.mono' x.toMon
theorem Xez{s1 s2:Src}{i:Nat}{o:Option D}(g:(Src.zpp s1 s2).get S i=some o):∃ o1 o2,s1.get S i=some o1/\s2.get S i=some o2/\match o with
  | some d=>∃ x y,o1=some x/\o2=some y/\d=.tup [x,y]
  | none=>o1=none\/o2=none:=by
 simp only[Src.get] at g;split at g
 ·rename_i x y e1 e2;cases g;exact⟨_,_,e1,e2,x,y,rfl,rfl,rfl⟩
 ·rename_i o1 o2 hn e1 e2
  cases g;refine⟨o1,o2,e1,e2,?_⟩;cases o1 with
  | none=>exact .inl rfl
  | some x =>
   cases o2 with
   | none=>exact .inr rfl
   | some y=>exact(hn x y rfl rfl).elim
 ·cases g
theorem Xe0(g:(Src.enm s1).get S i=some o):∃ o1,s1.get S i=some o1/\match o with
  | some d=>∃ x,o1=some x/\d=.tup [.int i,x]
  | none=>o1=none:=by
 simp only[Src.get] at g;split at g
 ·rename_i x e1;cases g;exact⟨_,e1,x,rfl,rfl⟩
 ·rename_i hn
  refine⟨o,g,?_⟩;cases o with
  | none=>rfl
  | some x=>exact(hn x g).elim
theorem SrcR.go(h:SrcR X.K ρ H src J)(I:S0 X pins σ H s ρ S env)(g:src.get S i=some (some d)) :
  J.go i H/\∀ x H',J.yld i H x H'->SR X.K ρ S H'/\Stp X.K ρ ρ H H'/\RD X.K ρ H' d x:=by
 cases h with
 | @tup a xs vs h1 h2 =>
  simp only[Src.get,Vi] at g;obtain⟨v,e1,e2⟩:=h2.get g;refine⟨⟨vs,v,h1,e1⟩,fun x H' y=>?_⟩
  obtain⟨rfl,y⟩:=y;have:=y vs h1;rw[e1] at this;cases this;exact⟨I.sr,.refl,e2⟩
 | rng lo n =>
  simp only[Src.get,Vi] at g;rw[V1] at g;have hi:i<n:=by
   by_cases hi:i<n
   ·exact hi
   ·rw[Vbg (by simpa using hi)] at g;cases g
  rw[Uu hi] at g;simp only[Vs,Vi] at g;subst g;refine⟨hi,fun x H' y=>?_⟩
  obtain⟨rfl,rfl⟩:=y;exact⟨I.sr,.refl,by simp only[RD]⟩
 | @lst n a h =>
  simp only[Src.get,V8] at g;obtain⟨xs,g1,g2⟩:=g;obtain⟨a',vs,k1,k2,k3⟩:=I.list g1;rw[h] at k1;cases k1;obtain⟨v,e1,e2⟩:=k3.get g2;refine⟨⟨vs,v,.of k2,e1⟩,fun x H' y=>?_⟩
  obtain⟨rfl,y⟩:=y;have:=y vs (.of k2);rw[e1] at this;cases this;exact⟨I.sr,.refl,e2⟩
 | @zpp s1 s2 k1 k2 a b h1 h2 =>
  obtain⟨o1,o2,g1,g2,x,y,rfl,rfl,rfl⟩:=Xez g;obtain⟨vs,q1,v,e1,r1⟩:=h1.get I g1;obtain⟨us,q2,u,e2,r2⟩:=h2.get I g2;refine⟨⟨vs,v,us,u,q1,e1,q2,e2⟩,fun w H' yd=>?_⟩
  obtain⟨T,v',u',rfl,hT,rfl,z1,z2⟩:=yd;have z1':=z1 vs q1;have z2':=z2 us q2;rw[e1] at z1';cases z1';rw[e2] at z2';cases z2';have st:Stp X.K ρ ρ H (upd H T (.tup [v,u])):=Stp.upd hT;refine⟨I.sr.upd hT,st,?_⟩;simp only[RD];exact⟨T,[v,u],rfl,.of Xz,.cons (r1.mono st) (.cons (r2.mono st) .nil)⟩
 | dwn lo n =>
  simp only[Src.get,Vi] at g;rw[V1] at g;have hi:i<n:=by
   by_cases hi:i<n
   ·exact hi
   ·rw[Vbg (by simpa using hi)] at g;cases g
  rw[Uu hi] at g;simp only[Vs,Vi] at g;subst g;refine⟨hi,fun x H' y=>?_⟩
  obtain⟨rfl,rfl⟩:=y;exact⟨I.sr,.refl,by simp only[RD]⟩
 | @enm s1 k a h1 =>
  obtain⟨o1,g1,x,rfl,rfl⟩:=Xe0 g;obtain⟨vs,q1,v,e1,r1⟩:=h1.get I g1;refine⟨⟨vs,v,q1,e1⟩,fun w H' yd=>?_⟩
  obtain⟨T,v',rfl,hT,rfl,z1⟩:=yd;have z1':=z1 vs q1;rw[e1] at z1';cases z1';have st:Stp X.K ρ ρ H (upd H T (.tup [.int i,v])):=Stp.upd hT;refine⟨I.sr.upd hT,st,?_⟩;simp only[RD];exact⟨T,[.int i,v],rfl,.of Xz,.cons (by simp only[RD]) (.cons (r1.mono st) .nil)⟩
 | @ezp s1 s2 k1 k2 a b h1 h2 =>
  obtain⟨o,g0,x0,rfl,rfl⟩:=Xe0 g;obtain⟨o1,o2,g1,g2,x,y,rfl,rfl,rfl⟩:=Xez g0;obtain⟨vs,q1,v,e1,r1⟩:=h1.get I g1;obtain⟨us,q2,u,e2,r2⟩:=h2.get I g2;refine⟨⟨vs,v,us,u,q1,e1,q2,e2⟩,fun w H' yd=>?_⟩
  obtain⟨T,U,v',u',rfl,hT,hU,hTU,rfl,z1,z2⟩:=yd;have z1':=z1 vs q1;have z2':=z2 us q2;rw[e1] at z1';cases z1';rw[e2] at z2';cases z2';have st1:Stp X.K ρ ρ H (upd H T (.tup [v,u])):=Stp.upd hT;have hU':upd H T (.tup [v,u]) U=none:=by rw[Xh hTU.symm];exact hU
  have st2:Stp X.K ρ ρ _ (upd (upd H T (.tup [v,u])) U (.tup [.int i,.ref T])):=Stp.upd hU';have rt:RD X.K ρ (upd H T (.tup [v,u])) (.tup [x,y]) (.ref T):=by simp only[RD];exact⟨T,[v,u],rfl,.of Xz,.cons (r1.mono st1) (.cons (r2.mono st1) .nil)⟩
  refine⟨(I.sr.upd hT).upd hU',st1.trans st2,?_⟩;rw[RD];exact⟨U,[.int i,.ref T],rfl,.of Xz,.cons (by simp only[RD]) (.cons (rt.mono st2) .nil)⟩
theorem SrcR.stop(h:SrcR X.K ρ H src J)(I:S0 X pins σ H s ρ S env)(g:src.get S i=some none):J.stop i H:=by
 cases h with
 | @tup a xs vs h1 h2 =>
  simp only[Src.get,Vi] at g;exact⟨vs,h1,by have:=h2.none g;rw[V7] at this;exact this⟩
 | rng lo n =>
  simp only[Src.get,Vi] at g;rw[V7] at g;show n<=i
  simpa using g
 | @lst n a h =>
  simp only[Src.get,V8] at g;obtain⟨xs,g1,g2⟩:=g;obtain⟨a',vs,k1,k2,k3⟩:=I.list g1;rw[h] at k1;cases k1;exact⟨vs,.of k2,by have:=k3.none g2;rw[V7] at this;exact this⟩
 | @zpp s1 s2 k1 k2 a b h1 h2 =>
  obtain⟨o1,o2,g1,g2,ho⟩:=Xez g;obtain⟨vs,q1,r1⟩:=h1.get I g1;obtain⟨us,q2,r2⟩:=h2.get I g2;refine⟨vs,us,q1,q2,?_⟩;rcases ho with e|e<;>subst e
  ·exact .inl r1
  ·exact .inr r2
 | dwn lo n =>
  simp only[Src.get,Vi] at g;rw[V7] at g;show n<=i
  simpa using g
 | @enm s1 k a h1 =>
  obtain⟨o1,g1,ho⟩:=Xe0 g;obtain⟨vs,q1,r1⟩:=h1.get I g1;cases ho;exact⟨vs,q1,r1⟩
 | @ezp s1 s2 k1 k2 a b h1 h2 =>
  obtain⟨o,g0,hn⟩:=Xe0 g;cases hn;obtain⟨o1,o2,g1,g2,ho⟩:=Xez g0;obtain⟨vs,q1,r1⟩:=h1.get I g1;obtain⟨us,q2,r2⟩:=h2.get I g2;refine⟨vs,us,q1,q2,?_⟩;rcases ho with e|e<;>subst e
  ·exact .inl r1
  ·exact .inr r2
def ItP(X:Cx)(pins:List (Addr×Obj))(σ:L2.St)(ρ:List Addr)(H:Hp)(tg:Expr)(r:R Src)(itv:Value)(s2:Shared):Prop :=
 ∃ src S' it fp tn J H' ρ',r=.ok src S'/\itv=.ref it/\Inv X pins σ H' s2/\Turn X.prog X.w X.K tg J fp it tn/\tn 0 s2.heap/\(∀ b∈fp,Xaf X pins H' b)/\SrcR X.K ρ' H' src J/\SR X.K ρ' S' H'/\Stp X.K ρ ρ' H H'
def DI(X:Cx)(tg iter:Expr)(f:En->Sto->R Src):Prop :=
 ∀ (pins:List (Addr×Obj)) (s:Shared) (σ:L2.St) (H:Hp) (ρ:List Addr) (S:Sto) (env:En) (E:Value->Shared->Prop),S0 X pins σ H s ρ S env->f env S≠.bad->(∀ x s',ExP X pins σ ρ H (f env S) x s'->E x s') ->
  wpAny (model X.prog X.w) X.A (eval iter X.env) (fun v s1=>wpAny (model X.prog X.w) X.A (pyIter v) (ItP X pins σ ρ H tg (f env S)) E s1) E s
theorem X2e(he:DE X iter f):DI X tg iter (fun env S=>(f env S).bind fun x S=>match Xy S x with|some r=>.ok r S|none=>.bad):=by
 intro pins s σ H ρ S env E I nb hE;dsimp only at nb hE ⊢;cases q:f env S with
 | bad=>rw[q] at nb;exact absurd rfl nb
 | ex n S1=>rw[q] at hE;exact he.ex I q fun x s' z=>hE x s' ⟨n,S1,rfl,z⟩
 | ok d S1 =>
  rw[q] at nb;simp only[Rk0] at nb ⊢;refine he.ok I q fun u s1 v H1 ρ1 I1 rv rd st1=>?_
  cases d with
  | tup xs =>
   simp only[RD] at rd;obtain⟨a,vs,rfl,h1,h2⟩:=rd;cases rv;obtain⟨its,rvs,p,hz⟩:=I1.inv.tuple h1;refine Ve3 (show s1.heap.IsTuple a its.toArray from p) ?_;refine⟨_,S1,s1.heap.objs.size,[s1.heap.objs.size],_,_,H1,ρ1,rfl,rfl,I1.inv.kept (t':=s1.toks) fun b o e=>Vb _ e,Xox a _,⟨_,Vk _ rfl,rfl,rfl⟩,fun b hb=>?_,.tup h1 h2,I1.sr,st1⟩
   have e:b=s1.heap.objs.size:=by simpa using hb
   subst e;exact I1.inv.fpOk (Vh _) (I1.inv.hok.fresh (Vh _))
  | ref n =>
   cases e1:Xc S1 n with
   | none=>simp[Xy,e1] at nb
   | some xs =>
    obtain⟨a,vs,k1,k2,k3⟩:=I1.list e1;simp only[RD] at rd;obtain⟨a',rfl,k4⟩:=rd;rw[k1] at k4;cases k4;cases rv;obtain⟨its,rvs,p,hz⟩:=I1.inv.list (.of k2);refine Vfe p.isList ?_;refine⟨.ref n,S1,s1.heap.objs.size,[s1.heap.objs.size],_,_,H1,ρ1,by simp[Xy,e1],rfl,I1.inv.kept (t':=s1.toks) fun b o e=>Vb _ e,Xqz a _,⟨_,Vk _ rfl,rfl,rfl⟩,fun b hb=>?_,.lst k1,I1.sr,st1⟩
    have e:b=s1.heap.objs.size:=by simpa using hb
    subst e;exact I1.inv.fpOk (Vh _) (I1.inv.hok.fresh (Vh _))
  | non=>simp[Xy] at nb
  | bl _=>simp[Xy] at nb
  | int _=>simp[Xy] at nb
  | str _=>simp[Xy] at nb
  | fro _=>simp[Xy] at nb
  | fn _ _=>simp[Xy] at nb
theorem Xri{tk:Nat}{lo hi:Int}{ds:List D}(I:S0 X pins σ H s ρ S env)(h1:-(2^62)<=lo)(h2:lo<2^62)(h3:-(2^62)<=hi)(h4:hi<2^62)(hds:ds=(Vc (hi-lo).toNat).map fun(k:Nat)=>D.int (lo+k)) :
  wpAny (model X.prog X.w) X.A (pyIter (.ref s.heap.objs.size)) (ItP X pins σ ρ H tg (.ok (.con ds) S)) E { s with heap:=s.heap.push { cls:=.type "range",data:=.fields #[.int lo t,.int hi u,.int 1 v] },toks:=tk }:=by
 refine thn (Xtw (X:=X.wish E) (tg:=tg) (R:=fun J H'=>J=Itr lo (hi-lo).toNat/\H'=H) (I.inv.wish E) h1 h2 h3 h4 ⟨rfl,rfl⟩) fun itv s2 ⟨it,fp,tn,J,H',e1,J',T,t0,fo,e2,e3⟩=>?_
 subst e2 e3;exact⟨_,S,it,fp,tn,_,H',ρ,rfl,e1,J'.unwish,T,t0,fo,by rw[hds];exact .rng _ _,I.sr,.refl⟩
theorem Xug{tk:Nat}{lo hi:Int}(I:S0 X pins σ H s ρ S env)(h1:-(2^62)<=lo)(h2:lo<2^62)(h3:-(2^62)<=hi)(h4:hi<2^62) :
  wpAny (model X.prog X.w) X.A (pyIter (.ref s.heap.objs.size)) (ItP X pins σ ρ H tg (.ok (.con ((Vc (lo-hi).toNat).map fun(k:Nat)=>D.int (lo-k))) S)) E { s with heap:=s.heap.push { cls:=.type "range",data:=.fields #[.int lo t,.int hi u,.int (-1) v] },toks:=tk }:=by
 refine thn (Xyi (X:=X.wish E) (tg:=tg) (R:=fun J H'=>J=Itd lo (lo-hi).toNat/\H'=H) (I.inv.wish E) h1 h2 h3 h4 ⟨rfl,rfl⟩) fun itv s2 ⟨it,fp,tn,J,H',e1,J',T,t0,fo,e2,e3⟩=>?_
 subst e2 e3;exact⟨_,S,it,fp,tn,_,H',ρ,rfl,e1,J'.unwish,T,t0,fo,.dwn _ _,I.sr,.refl⟩
theorem X2f {es:List Expr} {g:En->Sto->R (List D)} (hg:Gl X "range") (hm:X.mg "range" = none) (ha:DA X (a::es) g) (hs:Vx (a::es) X.env=(false,eval a X.env)::Vx es X.env) (hpl:(backTo pos (Vx es X.env)).any (·.1)=false) :
  DI X tg (.Call (.Name "range" p) (a::es) [] pos) (fun env S=>(g env S).bind fun xs S=>match Yy xs with|some ds=>.ok (.con ds) S|none=>.bad):=by
 intro pins s σ H ρ S env E I nb hE;dsimp only at nb hE ⊢;refine Call_ (Yt I.inv hg hm boot_range (Uh ?_ hs hpl));cases q:g env S with
 | bad=>rw[q] at nb;exact absurd rfl nb
 | ex n S1=>rw[q] at hE;exact ha.ex I q fun x s' z=>hE x s' ⟨n,S1,rfl,z⟩
 | ok ds S1 =>
  rw[q] at nb;simp only[Rk0] at nb ⊢;refine ha.ok I q fun us s1 vs H1 ρ1 I1 rv rd st1=>?_
  have fin:∀ {tk:Nat} {lo hi:Int} {t u v:Tok} {xs:List D},-(2^62)<=lo->lo<2^62->-(2^62)<=hi->hi<2^62->xs=(Vc (hi-lo).toNat).map (fun(k:Nat)=>D.int (lo+k)) ->
    wpAny (model X.prog X.w) X.A (pyIter (.ref s1.heap.objs.size)) (ItP X pins σ ρ H tg (.ok (.con xs) S1)) E { s1 with heap:=s1.heap.push { cls:=.type "range",data:=.fields #[.int lo t,.int hi u,.int 1 v] },toks:=tk }:=fun h1 h2 h3 h4 h5 =>
   Vj (Xri I1 h1 h2 h3 h4 h5) (fun itv s2 ⟨src,S2,it,fp,tn,J,H2,ρ2,z1,z2,z3,z4,z5,z6,z7,z8,z9⟩=>⟨src,S2,it,fp,tn,J,H2,ρ2,z1,z2,z3,z4,z5,z6,z7,z8,st1.trans z9⟩) fun _ _ z=>z
  match ds,rd,nb with
  | [],rd,nb=>simp[Yy] at nb
  | [d],rd,nb =>
   cases d with
   | int j =>
    simp only[Yy] at nb ⊢
    by_cases hz:-(1048576)<j/\j<1048576
    ·rw[if_pos hz] at nb ⊢
     simp only[RDs] at rd;obtain⟨v,r,rfl,r1,rfl⟩:=rd;simp only[RD] at r1;subst r1;cases rv with
     | cons q1 q2 =>
      cases q2;obtain⟨t,rfl⟩:=q1;refine call_range_1 (fin (by omega) (by omega) (by omega) (by omega) ?_)
      simp
    ·rw[if_neg hz] at nb;exact absurd rfl nb
   | _=>simp[Yy] at nb
  | [d1,d2],rd,nb =>
   cases d1 with
   | int i=>cases d2 with
    | int j =>
     simp only[Yy] at nb ⊢
     by_cases hz:-(1048576)<i/\i<1048576/\-(1048576)<j/\j<1048576
     ·rw[if_pos hz] at nb ⊢
      simp only[RDs] at rd;obtain⟨v,r,rfl,r1,v2,r2,rfl,r3,rfl⟩:=rd;simp only[RD] at r1 r3;subst r1 r3;cases rv with
      | cons q1 q2 =>
       cases q2 with
       | cons q3 q4 =>
        cases q4;obtain⟨t,rfl⟩:=q1;obtain⟨t',rfl⟩:=q3;exact call_range_2 (fin (by omega) (by omega) (by omega) (by omega) rfl)
     ·rw[if_neg hz] at nb;exact absurd rfl nb
    | _=>simp[Yy] at nb
   | _=>simp[Yy] at nb
  | [d1,d2,d3],rd,nb =>
   cases d1 with
   | int i=>cases d2 with
    | int j=>cases d3 with
     | int c =>
      simp only[Yy] at nb ⊢
      by_cases hz:c = -1/\-(1048576)<i/\i<1048576/\-(1048576)<j/\j<1048576
      ·rw[if_pos hz] at nb ⊢
       simp only[RDs] at rd;obtain⟨v,r,rfl,r1,v2,r2,rfl,r3,v3,r4,rfl,r5,rfl⟩:=rd;simp only[RD] at r1 r3 r5;subst r1 r3 r5;obtain⟨rfl,hz⟩:=hz;cases rv with
       | cons q1 q2 =>
        cases q2 with
        | cons q3 q4 =>
         cases q4 with
         | cons q5 q6 =>
          cases q6;obtain⟨t,rfl⟩:=q1;obtain⟨t',rfl⟩:=q3;obtain⟨t'',rfl⟩:=q5;exact call_range_3 (by decide) (Vj (Xug I1 (by omega) (by omega) (by omega) (by omega)) (fun itv s2 ⟨src,S2,it,fp,tn,J,H2,ρ2,z1,z2,z3,z4,z5,z6,z7,z8,z9⟩=>⟨src,S2,it,fp,tn,J,H2,ρ2,z1,z2,z3,z4,z5,z6,z7,z8,st1.trans z9⟩) fun _ _ z=>z)
      ·rw[if_neg hz] at nb;exact absurd rfl nb
     | _=>simp[Yy] at nb
    | _=>simp[Yy] at nb
   | _=>simp[Yy] at nb
  | _::_::_::_::_,rd,nb=>simp[Yy] at nb
theorem Xo8(I:S0 X pins σ H s ρ S env)(e:Xy S d=some src)(rd:RD X.K ρ H d v)(rv:RelV v u):∃ k a vs,u=.ref a/\SqH k X.K H a vs/\SrcK X.K ρ H src k a:=by
 cases d with
 | tup xs =>
  have e':some (Src.con xs)=some src:=e;cases e';simp only[RD] at rd;obtain⟨a,vs,rfl,h1,h2⟩:=rd;cases rv;exact⟨false,a,vs,rfl,h1,vs,h1,h2⟩
 | ref n =>
  cases e1:Xc S n with
  | none=>simp[Xy,e1] at e
  | some xs =>
   simp only[Xy,e1,Vs,Vi] at e;subst e;obtain⟨a,vs,k1,k2,k3⟩:=I.list e1;simp only[RD] at rd;obtain⟨a',rfl,k4⟩:=rd;rw[k1] at k4;cases k4;cases rv;exact⟨true,a,vs,rfl,.of k2,k1⟩
 | _=>cases e
theorem Xyk{n a b:Nat}(h1:a<n)(h2:b<n):ZAp (n+4) (n+2) (n+3) n (n+1) a b:=by
 constructor<;>(try refine⟨?_,?_,?_,?_⟩)<;>(intro z;first|omega|(have z':(_:Nat)=_:=z;omega))
theorem Xrj{n b:Nat}(h:b∈[n+4,n+2,n+3,n,n+1]):n<=b:=by
 simp only[Vl,V4,or_false] at h;omega
theorem Xn2{k:Bool}{a:Addr}{vs:List V}(I:Inv X pins σ H s)(h:SqH k X.K H a vs):a<s.heap.objs.size:=by
 obtain⟨its,_,q⟩:=Xax I h;obtain⟨o,e,_⟩:=q.obj;exact Vm e
theorem Xrk {es:List Expr} {g:En->Sto->R (List D)} {sx sy:Src} (hg:Gl X "zip") (hm:X.mg "zip" = none) (ha:DA X (a::es) g) (hs:Vx (a::es) X.env=(false,eval a X.env)::Vx es X.env) (hpl:(backTo pos (Vx es X.env)).any (·.1)=false) (I:S0 X pins σ H s ρ S env) (q:g env S=.ok [x,y] S1) (e1:Xy S1 x=some sx) (e2:Xy S1 y=some sy)
  (hQ:∀ s1 h' H1 ρ1 k1 k2 b1 b2,S0 X pins σ H1 s1 ρ1 S1 env->ZAp (s1.heap.objs.size+4) (s1.heap.objs.size+2) (s1.heap.objs.size+3) s1.heap.objs.size (s1.heap.objs.size+1) b1 b2->ZSa k1 k2 (s1.heap.objs.size+4) (s1.heap.objs.size+2) (s1.heap.objs.size+3) s1.heap.objs.size (s1.heap.objs.size+1) b1 b2 0 0 h'->SrcK X.K ρ1 H1 sx k1 b1->SrcK X.K ρ1 H1 sy k2 b2->Stp X.K ρ ρ1 H H1->(∀ c o,s1.heap.get? c=some o->h'.get? c=some o)->Q (.ref (s1.heap.objs.size+4)) { s1 with heap:=h' }) :
  wpAny (model X.prog X.w) X.A (eval (.Call (.Name "zip" p) (a::es) [] pos) X.env) Q E s:=by
 refine Call_ (Yt I.inv hg hm (u:=.type "zip") (by decide+kernel) (Uh (ha.ok I q fun us s1 vs H1 ρ1 I1 rv rd st1=>?_) hs hpl))
 simp only[RDs] at rd;obtain⟨v1,r1,rfl,rd1,v2,r2,rfl,rd2,rfl⟩:=rd;cases rv with
 | cons q1 q2 =>
  cases q2 with
  | cons q3 q4 =>
   cases q4;obtain⟨k1,b1,w1,rfl,m1,c1⟩:=Xo8 I1 e1 rd1 q1;obtain⟨k2,b2,w2,rfl,m2,c2⟩:=Xo8 I1 e2 rd2 q3;obtain⟨its1,_,p1⟩:=Xax I1.inv m1;obtain⟨its2,_,p2⟩:=Xax I1.inv m2;exact Xt5 p1 p2 fun h' zs kp=>hQ s1 h' H1 ρ1 k1 k2 b1 b2 I1 (Xyk (Xn2 I1.inv m1) (Xn2 I1.inv m2)) zs c1 c2 st1 kp
theorem X2g {x0:Nat} {ts es:List Expr} {g:En->Sto->R (List D)} (hg:Gl X "zip") (hm:X.mg "zip" = none) (ha:DA X (a::es) g) (hs:Vx (a::es) X.env=(false,eval a X.env)::Vx es X.env) (hpl:(backTo pos (Vx es X.env)).any (·.1)=false) :
  DI X (.Tuple ts x0 tp) (.Call (.Name "zip" p) (a::es) [] pos) (fun env S=>(g env S).bind fun xs S=>match xs with
   | [x,y]=>match Xy S x,Xy S y with
    | some s,some t=>.ok (.zpp s t) S
    | _,_=>.bad
   | _=>.bad):=by
 intro pins s σ H ρ S env E I nb hE;dsimp only at nb hE ⊢;cases q:g env S with
 | bad=>rw[q] at nb;exact absurd rfl nb
 | ex n S1=>rw[q] at hE;exact Call_ (Yt I.inv hg hm (u:=.type "zip") (by decide+kernel) (Uh (ha.ex I q fun x s' z=>hE x s' ⟨n,S1,rfl,z⟩) hs hpl))
 | ok ds S1 =>
  rw[q] at nb;simp only[Rk0] at nb ⊢
  match ds,q,nb with
  | [],q,nb=>exact absurd rfl nb
  | [_],q,nb=>exact absurd rfl nb
  | _::_::_::_,q,nb=>exact absurd rfl nb
  | [x,y],q,nb =>
   cases e1:Xy S1 x with
   | none=>simp only[e1] at nb;exact absurd rfl nb
   | some sx =>
    cases e2:Xy S1 y with
    | none=>simp only[e1,e2] at nb;exact absurd rfl nb
    | some sy =>
     refine Xrk hg hm ha hs hpl I q e1 e2 fun s1 h' H1 ρ1 k1 k2 b1 b2 I1 za zs c1 c2 st1 kp=>let ⟨_,_,zq,_⟩:=zs.zo;Xdv zq ?_
     refine⟨.zpp sx sy,S1,_,[s1.heap.objs.size+4,s1.heap.objs.size+2,s1.heap.objs.size+3,s1.heap.objs.size,s1.heap.objs.size+1],_,_,H1,ρ1,by simp only[e1,e2],rfl,I1.inv.kept (t':=s1.toks) kp,Xt8 za,zs,fun b hb=>?_,.zpp c1 c2,I1.sr,st1⟩
     have hb':s1.heap.objs.size<=b:=Xrj hb;exact I1.inv.fpOk hb' (I1.inv.hok.fresh hb')
theorem X2h {x0:Nat} {ts es:List Expr} {g:En->Sto->R (List D)} (hg0:Gl X "enumerate") (hm0:X.mg "enumerate" = none) (hg:Gl X "zip") (hm:X.mg "zip" = none) (ha:DA X (a::es) g) (hs:Vx (a::es) X.env=(false,eval a X.env)::Vx es X.env) (hpl:(backTo pos (Vx es X.env)).any (·.1)=false) :
  DI X (.Tuple ts x0 tp) (.Call (.Name "enumerate" p') [.Call (.Name "zip" p) (a::es) [] pos] [] pos') (fun env S=>(g env S).bind fun xs S=>match xs with
   | [x,y]=>match Xy S x,Xy S y with
    | some s,some t=>.ok (.enm (.zpp s t)) S
    | _,_=>.bad
   | _=>.bad):=by
 intro pins s σ H ρ S env E I nb hE;dsimp only at nb hE ⊢;refine Call_ (Yt I.inv hg0 hm0 (u:=.type "enumerate") (by decide+kernel) (Uh ?_ rfl rfl))
 show wpAny _ _ (spliced ((false,eval (.Call (.Name "zip" p) (a::es) [] pos) X.env)::backTo pos' (Vx [] X.env))) _ _ s;refine Ut ?_;cases q:g env S with
 | bad=>rw[q] at nb;exact absurd rfl nb
 | ex n S1=>rw[q] at hE;exact Call_ (Yt I.inv hg hm (u:=.type "zip") (by decide+kernel) (Uh (ha.ex I q fun x s' z=>hE x s' ⟨n,S1,rfl,z⟩) hs hpl))
 | ok ds S1 =>
  rw[q] at nb;simp only[Rk0] at nb ⊢
  match ds,q,nb with
  | [],q,nb=>exact absurd rfl nb
  | [_],q,nb=>exact absurd rfl nb
  | _::_::_::_,q,nb=>exact absurd rfl nb
  | [x,y],q,nb =>
   cases e1:Xy S1 x with
   | none=>simp only[e1] at nb;exact absurd rfl nb
   | some sx =>
    cases e2:Xy S1 y with
    | none=>simp only[e1,e2] at nb;exact absurd rfl nb
    | some sy =>
     refine Xrk hg hm ha hs hpl I q e1 e2 fun s1 h' H1 ρ1 k1 k2 b1 b2 I1 za zs c1 c2 st1 kp=>Vax (Xuf (s:={ s1 with heap:=h' }) zs fun h2 ez kp2=>Xck ez.eo ?_)
     have lt:s1.heap.objs.size+4<h'.objs.size:=let ⟨_,_,zq,_⟩:=zs.zo;Vm zq
     have nn:∀ {m:Nat},m<=4->h'.objs.size≠s1.heap.objs.size+m:=fun hm z=>by have z':(_:Nat)=_:=z;omega
     refine⟨.enm (.zpp sx sy),S1,_,[h'.objs.size,s1.heap.objs.size+4,s1.heap.objs.size+2,s1.heap.objs.size+3,s1.heap.objs.size,s1.heap.objs.size+1],_,_,H1,ρ1,by simp only[e1,e2],rfl,I1.inv.kept (t':=s1.toks) fun c o u=>kp2 c o (kp c o u),
      Xue ⟨nn (by omega),nn (by omega),nn (by omega),nn (m:=0) (by omega),nn (by omega)⟩ za (fun _ _ _ _ _ st h=>Xck st.eo h),ez,fun b hb=>?_,.ezp c1 c2,I1.sr,st1⟩
     have hb':s1.heap.objs.size<=b:=by
      rcases Vl.mp hb with z|z
      ·subst z;have lt':(_:Nat)<_:=lt;show(_:Nat)<=_;omega
      ·exact Xrj z
     exact I1.inv.fpOk hb' (I1.inv.hok.fresh hb')
theorem X2i (hg:Gl X "enumerate") (hm:X.mg "enumerate" = none) (ha:DA X (a::es) g) (hs:Vx (a::es) X.env=(false,eval a X.env)::Vx es X.env) (hpl:(backTo pos (Vx es X.env)).any (·.1)=false) :
  DI X (.Tuple ts x0 tp) (.Call (.Name "enumerate" p) (a::es) [] pos) (fun env S=>(g env S).bind fun xs S=>match xs with
   | [x]=>match Xy S x with
    | some s=>.ok (.enm s) S
    | none=>.bad
   | _=>.bad):=by
 intro pins s σ H ρ S env E I nb hE;dsimp only at nb hE ⊢;refine Call_ (Yt I.inv hg hm (u:=.type "enumerate") (by decide+kernel) (Uh ?_ hs hpl))
 cases q:g env S with
 | bad=>rw[q] at nb;exact absurd rfl nb
 | ex n S1=>rw[q] at hE;exact ha.ex I q fun x s' z=>hE x s' ⟨n,S1,rfl,z⟩
 | ok ds S1 =>
  rw[q] at nb;simp only[Rk0] at nb ⊢;refine ha.ok I q fun us s1 vs H1 ρ1 I1 rv rd st1=>?_
  match ds,rd,nb with
  | [],rd,nb=>exact absurd rfl nb
  | _::_::_,rd,nb=>exact absurd rfl nb
  | [x],rd,nb =>
   cases e1:Xy S1 x with
   | none=>simp only[e1] at nb;exact absurd rfl nb
   | some sx =>
    simp only[RDs] at rd;obtain⟨v1,r1,rfl,rd1,rfl⟩:=rd;cases rv with
    | cons q1 q2 =>
     cases q2;obtain⟨k1,b1,w1,rfl,m1,c1⟩:=Xo8 I1 e1 rd1 q1;obtain⟨its1,_,p1⟩:=Xax I1.inv m1;refine Xn1 p1 fun h' ns kp=>by
      refine Xck ns.eo ?_;have J:Inv X pins σ H1 { s1 with heap:=h' }:=I1.inv.kept (t':=s1.toks) kp
      refine⟨.enm sx,S1,_,[s1.heap.objs.size+1,s1.heap.objs.size],_,_,H1,ρ1,by simp only[e1],rfl,J,Xyh (fun z=>by have z':(_:Nat)=_:=z;omega),ns,fun b hb=>?_,.enm c1,I1.sr,st1⟩
      have hb':s1.heap.objs.size<=b:=by
       simp only[Vl,V4,or_false] at hb;rcases hb with z|z<;>(have z':(_:Nat)=_:=z;omega)
      exact I1.inv.fpOk hb' (I1.inv.hok.fresh hb')
theorem DSs.ok{st:List Stmt}{na:Bool}{g:En->Sto->R Fl}{Q:Flow->Shared->Prop}(h:DSs X st na g)(I:S0 X pins σ H s ρ S env)(r:g env S=.ok x S')(hQ:∀ fl s',FlP X pins σ ρ H na S' s' x fl->Q fl s') :
  wpAny (model X.prog X.w) X.A (execs st X.env) Q E s:=by
 refine Vj (h pins s σ H ρ S env I (by rw[r];exact fun z=>nomatch z)) (fun fl s' z=>?_) fun x s' z=>?_
 ·obtain⟨y,S1,e,z⟩:=z
  rw[r] at e;cases e;exact hQ fl s' z
 ·obtain⟨n,S1,_,e,_⟩:=z
  rw[r] at e;cases e
theorem S0.rep(I:S0 X pins σ H s ρ S env)(J:Inv X pl σ H s):S0 X pl σ H s ρ S env:=⟨J,I.sr,I.er⟩
theorem X2j(hc:X.calm=true)(hi:DI X tg iter fi)(hg:DG X tg t)(hb:DSs X body na g)(hs:∀ x,Vaq iter X.env x=pure x) :
  DS X (.For tg iter body [] pos) false (fun env S=>(fi env S).bind fun src S=>Xv src.get t g (src.most S+1) 0 env S):=by
 intro pins s σ H ρ S env I nb;dsimp only at nb ⊢;cases q:fi env S with
 | bad=>rw[q] at nb;exact absurd rfl nb
 | ex n S1 =>
  refine wpAny_For (Vj (hi pins s σ H ρ S env _ I (by rw[q];exact fun z=>nomatch z) fun x s' z=>?_) (fun v s1 h1=>Vj h1 (fun itv s2 h2=>?_) fun _ _ z=>z) fun _ _ z=>z) hs
  ·rw[q] at z;obtain⟨m,S2,e,z⟩:=z;cases e;exact .of .refl z rfl
  ·obtain⟨src,S2,_,_,_,_,_,_,e,_⟩:=h2
   rw[q] at e;cases e
 | ok src S1 =>
  rw[q] at nb;simp only[Rk0] at nb ⊢;refine Vj (E:=fun _ _=>False) (wpAny_For (Vj (hi pins s σ H ρ S env (fun _ _=>False) I (by rw[q];exact fun z=>nomatch z) fun x s' z=>?_) (fun v s1 h1=>Vj h1 (fun itv s2 h2=>?_) fun _ _ z=>z) fun _ _ z=>z) hs) (fun _ _ z=>z) fun _ _ z=>z.elim
  ·rw[q] at z;obtain⟨m,S2,e,z⟩:=z;cases e
  ·obtain⟨src',S2,it,fp,tn,J,H2,ρ2,e1,rfl,I2,T,t0,f2,sr2,srr,st2⟩:=h2
   rw[q] at e1;cases e1;have hp:PassesOwn (model X.prog X.w) X.A X.env (fun _ _=>False):=PassesOwn.never
   have stat:∀ {H':Hp},(∀ b∈fp,H' b=none)->∀ b∈fp,Xaf X pins H' b:=fun hn b hb=>⟨hn b hb,(f2 b hb).2⟩
   generalize hr0:Xv src.get t g (src.most S1+1) 0 env S1=r0;refine codeAny_forLoop_any (fun n s'=>∃ i σ' H' ρ' S' env',S0 X pins σ' H' s' ρ' S' env'/\tn i s'.heap/\(∀ b∈fp,H' b=none)/\SrcR X.K ρ' H' src J/\Stp X.K ρ ρ' H H'/\Xv src.get t g n i env' S'≠.bad/\Xv src.get t g n i env' S'=r0)
    ?_ (src.most S1+1) ⟨0,σ,H2,ρ2,S1,env,I.step I2 srr st2,t0,fun b hb=>(f2 b hb).1,sr2,st2,nb,hr0⟩
   rintro n s3 ⟨i,σ3,H3,ρ3,S3,env3,I3,t3,fr3,sr3,st3,nb3,eq3⟩
   cases n with
   | zero=>exact absurd rfl nb3
   | succ n =>
    simp only[Xv] at nb3;cases g1:src.get S3 i with
    | none=>rw[g1] at nb3;exact absurd rfl nb3
    | some o =>
     rw[g1] at nb3;cases o with
     | none =>
      refine Vby hp (thn (T.done X rfl rfl rfl hc i pins s3 σ3 H3 _ I3.inv (stat fr3) t3 (sr3.stop I3 g1)) fun r s4 ⟨hr,I4⟩=>?_)
      subst hr;exact Vei ⟨.nx env3,S3,by rw[<- eq3];simp only[Xv,g1],rfl,σ3,H3,ρ3,⟨I4,I3.sr,I3.er⟩,st3,fun z=>nomatch z⟩
     | some d =>
      dsimp only at nb3;obtain⟨go,yl⟩:=sr3.go I3 g1;refine Vby hp (thn (T.item X rfl rfl rfl hc i pins s3 σ3 H3 _ I3.inv (stat fr3) t3 go) fun r s4 ⟨u,hr,h4⟩=>?_)
      subst hr;refine Vby hp (thn h4 fun _ s5 ⟨x,H5,I5,r5,y5,t5,fr5⟩=>?_)
      obtain⟨sr5,st5,rd5⟩:=yl x H5 y5;have I5':=I5.pinned (stat fr5) (T.obj _ _ t5);cases e6:Xl t d env3 with
      | none=>rw[e6] at nb3;exact absurd rfl nb3
      | some env6 =>
       rw[e6] at nb3;dsimp only at nb3;refine Vby hp (hg (pins++Xbh fp s5.heap) s5 σ3 H5 ρ3 S3 env3 d x u env6 _ _ ⟨I5',sr5,I3.er.mono st5⟩ e6 rd5 r5 fun s6 σ6 I6=>?_)
       cases e7:g env6 S3 with
       | bad=>rw[e7] at nb3;exact absurd rfl nb3
       | ex m S7=>rw[e7] at nb3;exact absurd rfl nb3
       | ok x7 S7 =>
        rw[e7] at nb3;refine Vby hp (hb.ok I6 e7 fun fl s7 z7=>?_)
        have again:∀ {σ7:L2.St} {H7:Hp} {ρ7:List Addr} {env7:En},S0 X (pins++Xbh fp s5.heap) σ7 H7 s7 ρ7 S7 env7->Stp X.K ρ3 ρ7 H5 H7->Xv src.get t g n (i+1) env7 S7≠.bad->Xv src.get t g n (i+1) env7 S7=r0 ->
          ∃ m,m<n+1/\∃ i σ' H' ρ' S' env',S0 X pins σ' H' s7 ρ' S' env'/\tn i s7.heap/\(∀ b∈fp,H' b=none)/\SrcR X.K ρ' H' src J/\Stp X.K ρ ρ' H H'/\Xv src.get t g m i env' S'≠.bad/\Xv src.get t g m i env' S'=r0 :=
         fun {σ7 H7 ρ7 env7} I7 st7 nb7 eq7=>by
          refine⟨n,Vbb _,i+1,σ7,H7,ρ7,S7,env7,I7.rep I7.inv.unpinned,T.keep _ _ _ t5 fun b hb o e=>(I7.inv.pin (b,o) (U0 _ (U0 _ (Xb9 hb e)))).1,fun b hb=>?_,sr3.mono (st5.trans st7),st3.trans (st5.trans st7),nb7,eq7⟩
          obtain⟨o,e,_⟩:=T.obj _ _ t5 b hb;exact(I7.inv.pin (b,o) (U0 _ (U0 _ (Xb9 hb e)))).2.1
        have eq3':=eq3;simp only[Xv,g1,e6,e7] at eq3';cases x7 with
        | nx e =>
         obtain⟨rfl,σ7,H7,ρ7,I7,st7,_⟩:=z7;exact again I7 st7 nb3 eq3'
        | cnt e =>
         obtain⟨rfl,σ7,H7,ρ7,I7,st7⟩:=z7;exact again I7 st7 nb3 eq3'
        | brk e =>
         obtain⟨rfl,σ7,H7,ρ7,I7,st7⟩:=z7;exact⟨.nx e,S7,eq3'.symm,rfl,σ7,H7,ρ7,I7.rep I7.inv.unpinned,st3.trans (st5.trans st7),fun z=>nomatch z⟩
        | rt d' =>
         obtain⟨u',v',σ7,H7,ρ7,rfl,I7,rv7,rd7,sr7,st7⟩:=z7;exact⟨.rt d',S7,eq3'.symm,u',v',σ7,H7,ρ7,rfl,I7.unpinned,rv7,rd7,sr7,st3.trans (st5.trans st7)⟩
end
theorem Xdw(env:Vah)(P:Str->Addr->Prop):∀ (names:List (Str×Vct)) (cs:List (Str×Addr)),(∀ x∈names,x.2=.free->∃ c,env.cells.lookup x.1=some c/\P x.1 c)->(∀ x c,cs.lookup x=some c->P x c) ->
  ∃ cl,(forIn names cs fun(x:Str×Vct) (r:List (Str×Addr))=>(match x with
   | (name,kind)=>if (kind==Vd5)=true then do
     let a <- cellOf env name
     pure (Vcp ((name,a)::r))
    else pure (Vcp r):Sem (ForInStep (List (Str×Addr)))))=(pure cl:Sem (List (Str×Addr)))/\(∀ x c,cl.lookup x=some c->P x c)/\(∀ x c,cs.lookup x=some c->∃ c',cl.lookup x=some c')/\∀ x∈names,x.2=.free->∃ c,cl.lookup x.1=some c
 | [],cs,_,hc=>⟨cs,rfl,hc,fun x c h=>⟨c,h⟩,fun _ h=>nomatch h⟩
 | (n,k)::r,cs,hf,hc=>by
  by_cases hk:k=.free
  ·subst hk
   obtain⟨c,hcell,hpc⟩:=hf (n,.free) Vbw rfl;obtain⟨cl,e,h1,h2,h3⟩:=Xdw env P r ((n,c)::cs) (fun x hx=>hf x (Uw _ hx)) (fun x d h=>by
    rw[U7] at h
    by_cases hx:x==n
    ·rw[hx] at h;cases h;rw[eq_of_beq hx];exact hpc
    ·have hx':(x==n)=false:=by simpa using hx
     rw[hx'] at h;exact hc x d h)
   refine⟨cl,?_,h1,fun x d h=>?_,fun x hx hx2=>?_⟩
   ·rw[Vbo]
    simp only[beq_self_eq_true,if_true,cellOf,hcell,pure_bind];exact e
   ·by_cases hx:x==n
    ·exact h2 x c (by rw[U7,hx])
    ·have hx':(x==n)=false:=by simpa using hx
     exact h2 x d (by rw[U7,hx'];exact h)
   ·rcases Vl.mp hx with rfl|hx
    ·exact h2 n c (by rw[U7,beq_self_eq_true])
    ·exact h3 x hx hx2
  ·obtain⟨cl,e,h1,h2,h3⟩:=Xdw env P r cs (fun x hx=>hf x (Uw _ hx)) hc
   refine⟨cl,?_,h1,h2,fun x hx hx2=>?_⟩
   ·rw[Vbo]
    have hk':(k==Vd5)=false:=by simpa using hk
    simp only[hk',Ud,if_false,pure_bind];exact e
   ·rcases Vl.mp hx with rfl|hx
    ·exact absurd hx2 hk
    ·exact h3 x hx hx2
theorem Xgk(hf:∀ x∈scope.names,x.2=.free->∃ c,env.cells.lookup x.1=some c) :
  ∃ cl,closureFor scope env=pure cl/\(∀ x c,cl.lookup x=some c->env.cells.lookup x=some c/\(x,.free)∈scope.names)/\∀ x∈scope.names,x.2=.free->∃ c,cl.lookup x.1=some c:=by
 obtain⟨cl,e,h1,_,h3⟩:=Xdw env (fun x c=>env.cells.lookup x=some c/\(x,.free)∈scope.names) scope.names [] (fun x hx hk=>let ⟨c,hc⟩:=hf x hx hk;⟨c,hc,hc,hk▸hx⟩) (fun x c h=>by simp at h)
 refine⟨cl,?_,h1,h3⟩;unfold closureFor;simp only[bind_pure];exact e
noncomputable abbrev Xo9(ifs:List Expr)(env:Vah):Sem Bool:=forIn ifs true fun c r=>if r=true then do let ok <- isTrue c env (eval c env);pure (Vcp ok) else pure (Vcp r)
def Xlh(M:Model)(A:Around)(elt:Expr)(gens:List Va9)(scope:Scope)(pos:Pos)(d:Nat)(acc:Value)(env:Vah)(P:Shared->Prop)(s:Shared):Prop :=
 match gens[d+1]? with
 | none=>wpAny M A (eval elt env) (fun x s4=>wpAny M A (call (.builtin "list.append") [acc,x]) (fun _ s5=>P s5) (fun _ _=>False) s4) (fun _ _=>False) s
 | some g'=>g'.is_async=0/\(∀ x,Vaq g'.iter env x=pure x)/\wpAny M A (eval g'.iter env) (fun x s4=>wpAny M A (pyIter x) (fun it' s5 =>
   codeAny M A (.compStart (.ListComp elt gens scope pos) (d+1) it' acc env) (fun r s6=>match r with | .ok _=>P s6 | .error _=>False) s5) (fun _ _=>False) s4) (fun _ _=>False) s
section
variable{prog:Program}{w:World}{A:Around}{s:Shared}{R:Result->Shared->Prop}
theorem Xrl(hg:gens[d]?=some ⟨target,iter,ifs,0⟩)(hm:A.mark none=A)(I:Nat->Shared->Prop)
  (turn:∀ n s,I n s->wpAny (model prog w) A (pyNext it) (fun r s₁=>match r with
   | none=>R (.ok .next) s₁
   | some v=>wpAny (model prog w) A (Vbl target it v) (fun _ s₁'=>wpAny (model prog w) A (assign target env v) (fun _ s₂ =>
     wpAny (model prog w) A (Xo9 ifs env) (fun ok s₃=>if ok=true then Xlh (model prog w) A elt gens scope pos d acc env (fun s₅=>∃ m,m<n/\I m s₅) s₃ else ∃ m,m<n/\I m s₃) (fun _ _=>False) s₂) (fun _ _=>False) s₁') (fun _ _=>False) s₁) (fun _ _=>False) s)
  (n:Nat) (h:I n s):codeAny (model prog w) A (.compLoop (.ListComp elt gens scope pos) d it acc env) R s:=by
 refine codeAny_loop rfl I (fun n s hI=>?_) n h
 show wpAny _ A ((compTurn (.ListComp elt gens scope pos) d it acc env).onRaise (fun x=>do noteFrame x env;theTreesLotGoes x)) _ _ s
 refine wpAny_noted (Vj (E:=fun _ _=>False) ?_ (fun _ _ z=>z) fun _ _ z=>z.elim)
 unfold compTurn;simp only[hg,show((0:Nat) != 0)=false from rfl,Ud,if_false];refine Va (Vdb (Va (Vj (turn n s hI) (fun r s₁ h₁=>?_) fun _ _ z=>z)))
 cases r with
 | none=>exact Vg h₁
 | some v =>
  refine Va (Vj h₁ (fun _ s₁' h₁'=>Va (Vj h₁' (fun _ s₂ h₂=>Va (Vj h₂ (fun ok s₃ h₃=>?_) fun _ _ z=>z)) fun _ _ z=>z)) fun _ _ z=>z)
  cases ok with
  | false =>
   rw[if_neg V9] at h₃;simp only[Ud,if_false];exact Vg ⟨rfl,h₃⟩
  | true =>
   rw[if_pos rfl] at h₃;simp only[if_true];unfold Xlh at h₃;cases hq:gens[d+1]? with
   | none =>
    rw[hq] at h₃;simp only[bind_assoc,pure_bind];exact Va (Vj h₃ (fun x s₄ h₄=>Va (Vj h₄ (fun _ s₅ h₅=>Vg ⟨rfl,h₅⟩) fun _ _ z=>z)) fun _ _ z=>z)
   | some g' =>
    rw[hq] at h₃;obtain⟨ha,hf,h₃⟩:=h₃;simp only[ha,show((0:Nat) != 0)=false from rfl,Ud,if_false];refine Va (Vj h₃ (fun x s₄ h₄=>Va (Vdb (Va (wpAny_of_eq (hf x) (Va (U5 (Vj h₄ (fun it' s₅ h₅=>?_) fun _ _ z=>z))))))) fun _ _ z=>z)
    refine Va (wpAny_runOwn ?_);rw[hm];refine Vee h₅ fun r s₆ h₆=>?_
    cases r with
    | ok f=>exact Vg ⟨rfl,h₆⟩
    | error e=>exact h₆.elim
theorem Xpa(hg:gens[d]?=some ⟨target,iter,ifs,0⟩)
  (h0:codeAny (model prog w) A (.compLoop (.ListComp elt gens scope pos) d it acc env) R s)
  (h:wpAny (model prog w) A (pyIter it) (fun it' s'=>codeAny (model prog w) A (.compLoop (.ListComp elt gens scope pos) d it' acc env) R s') (fun _ _=>False) s) :
  codeAny (model prog w) A (.compStart (.ListComp elt gens scope pos) d it acc env) R s:=by
 refine codeAny_of_tree ?_;show wpAny _ _ ((compStart (.ListComp elt gens scope pos) d it acc env).onRaise (fun x=>do noteFrame x env;standAt theWindowsPlace)) _ _ s
 refine wpAny_notedAt ?_;unfold compStart;have hcl:clausesOf (.ListComp elt gens scope pos)=gens:=rfl;simp only[hcl,hg,Option.elim,show((0:Nat) != 0)=false from rfl,Ud,if_false];refine Va (wpAny_askSetting (wpAny_ite ?_));split
 ·first
   | exact Va (Vg (Vg (And.intro rfl h0)))
   | exact Vg (And.intro rfl h0)
 ·refine Va (Vca ?_)
  refine Va (Vdb (Va (Vj h (fun it' s' h'=>Vg (And.intro rfl h')) fun _ _ x=>x.elim)))
end
section
variable{X:Cx}{pins:List (Addr×Obj)}{σ:L2.St}{H:Hp}{s:Shared}{ρ:List Addr}{S S':Sto}{env:En}{Q:Value->Shared->Prop}{E:Value->Shared->Prop}
def DTs(X:Cx)(ifs:List Expr)(f:En->Sto->R Bool):Prop :=
 ∀ (pins:List (Addr×Obj)) (s:Shared) (σ:L2.St) (H:Hp) (ρ:List Addr) (S:Sto) (env:En) (b:Bool) (S':Sto) (Q:Bool->Shared->Prop) (E:Value->Shared->Prop),S0 X pins σ H s ρ S env->f env S=.ok b S' ->
  (∀ s' H' ρ',S0 X pins σ H' s' ρ' S' env->Stp X.K ρ ρ' H H'->Q b s')->wpAny (model X.prog X.w) X.A (Xo9 ifs X.env) Q E s
theorem Xfg{M:Model}{A:Around}{env:Vah}{s:Shared}{Q:Bool->Shared->Prop}{E:Value->Shared->Prop}(h:Q false s):∀ ifs:List Expr,
  wpAny M A (forIn ifs false fun c r=>if r=true then do let ok <- isTrue c env (eval c env);pure (Vcp ok) else pure (Vcp r)) Q E s
 | []=>Vg h
 | c::r=>by
  rw[Vbo];simp only[Ud,if_false];exact Va (Vg (Xfg h r))
theorem Xyl:DTs X [] (fun _ S=>.ok true S):=by
 intro pins s σ H ρ S env b S' Q E I h hQ;cases h;exact Vg (hQ s H ρ I .refl)
theorem Xuh{cs:List Expr}{fc:En->Sto->R D}{g:En->Sto->R Bool}(hc:DT X c (fun env S=>tst (fc env S)))(hr:DTs X cs g) :
  DTs X (c::cs) (fun env S=>(fc env S).bind fun x S=>match Xg S x with|some true=>g env S|some false=>.ok false S|none=>.bad):=by
 intro pins s σ H ρ S env b S' Q E I h hQ;dsimp only at h;cases q:fc env S with
 | bad=>rw[q] at h;cases h
 | ex n S1=>rw[q] at h;cases h
 | ok x S1 =>
  rw[q] at h;simp only[Rk0] at h;unfold Xo9;rw[Vbo];simp only[if_true];cases t:Xg S1 x with
  | none=>rw[t] at h;cases h
  | some r =>
   rw[t] at h;refine Va (Va (hc.ok I (by simp only[q];exact Xbk t) fun s2 H2 ρ2 I2 st2=>Vg ?_))
   cases r with
   | true=>exact hr pins s2 σ H2 ρ2 S1 env b S' Q E I2 h fun s3 H3 ρ3 I3 st3=>hQ s3 H3 ρ3 I3 (st2.trans st3)
   | false=>cases h;exact Xfg (hQ s2 H2 ρ2 I2 st2) cs
theorem Mon.trans{K:Vf}{ρ' ρ'':List Addr}{H' H'':Hp}(x:Mon K ρ ρ' H H')(y:Mon K ρ' ρ'' H' H''):Mon K ρ ρ'' H H'' :=
 ⟨fun n a h=>y.pre n a (x.pre n a h),fun a xs h=>y.tup a xs (x.tup a xs h),fun a xs h=>y.fro a xs (x.fro a xs h)⟩
theorem Xgl:∀ (is:List Nat) (ds:List D) (env:En),i ∉ is->((is.zip ds).foldl (fun e p=>e.set p.1 (some p.2)) env)[i]?=env[i]?:=by
 intro is
 induction is with
 | nil=>intro ds env _;simp
 | cons j js ih =>
  intro ds env hn;cases ds with
  | nil=>simp
  | cons d ds =>
   simp only[List.zip_cons_cons,List.foldl_cons];rw[ih ds _ (fun z=>hn (Uw _ z)),Ux (fun z=>hn (by simp[z]))]
theorem Xm5{t:Tg}{d:D}{env env':En}(h:Xl t d env=some env'){i:Nat}(hi:i ∉ slots t):env'[i]?=env[i]?:=by
 cases t with
 | var j =>
  simp only[Xl,Vi] at h;subst h;have:j≠i:=fun z=>hi (by simp[slots,z])
  rw[Ux this]
 | tup is =>
  cases d with
  | tup ds =>
   simp only[Xl] at h;split at h
   ·cases h
    exact Xgl is ds env hi
   ·cases h
  | _=>cases h
 | nst j is =>
  simp only[Xl] at h;split at h
  ·split at h
   ·cases h
    have hi':¬ (i=j\/i∈is):=fun z=>hi (Vl.mpr z)
    rw[Xgl is _ _ fun z=>hi' (.inr z),Ux fun z=>hi' (.inl z.symm)]
   ·cases h
  ·cases h
def Xcv(Y:Cx)(Da:Addr)(elt:Expr)(gens:List Va9)(scope:Scope)(cpos:Pos)(d:Nat)(body:En->List D->Sto->R (List D)):Prop :=
 ∀ (pins:List (Addr×Obj)) (s:Shared) (σ:L2.St) (H:Hp) (ρ:List Addr) (S S':Sto) (env:En) (acc acc':List D) (vs:List V) (H0:Hp) (ρ0:List Addr) (P:Shared->Prop),S0 Y pins σ H s ρ S env->Da ∉ ρ->H Da=some (.lst vs)->RDs Y.K ρ H acc vs->H0 Da=none->Stp Y.K ρ0 ρ H0 H ->
  body env acc S=.ok acc' S'->(∀ s' σ' H' ρ' vs',S0 Y pins σ' H' s' ρ' S' env->Da ∉ ρ'->H' Da=some (.lst vs')->RDs Y.K ρ' H' acc' vs'->Stp Y.K ρ0 ρ' H0 H'->Mon Y.K ρ ρ' H H'->P s') ->
  Xlh (model Y.prog Y.w) Y.A elt gens scope cpos d (.ref Da) Y.env P s
theorem Stp.out{K:Vf}{ρ':List Addr}{H':Hp}{Da:Addr}{o:HO}(st:Stp K ρ ρ' H H')(hD:H Da=some o)(hn:Da ∉ ρ):Da ∉ ρ'/\H' Da=some o :=
 ⟨fun hm=>(st.new Da hm).elim hn (fun z=>by rw[hD] at z;cases z),st.keep Da o hD hn⟩
theorem Xrm{Y:Cx}{Da it:Addr}{elt tg iter:Expr}{gens:List Va9}{ifs:List Expr}{scope:Scope}{cpos:Pos}{d:Nat}{t:Tg}{src:Src}{J:L2.It}{fp:List Addr}{tn:Nat->Heap->Prop}{tf:En->Sto->R Bool}{body:En->List D->Sto->R (List D)}
  {pins:List (Addr×Obj)} {σ:L2.St} {H H0:Hp} {s:Shared} {ρ ρ0:List Addr} {S Sf:Sto} {env:En} {acc accf:List D} {vs:List V} {P:Shared->Prop} (hc:Y.calm=true) (hg:gens[d]?=some ⟨tg,iter,ifs,0⟩)
  (T:Turn Y.prog Y.w Y.K tg J fp it tn) (hG:DG Y tg t) (hT:DTs Y ifs tf) (hB:Xcv Y Da elt gens scope cpos d body) (h0:H0 Da=none)
  (I:S0 Y pins σ H s ρ S env) (t0:tn 0 s.heap) (f0:∀ b∈fp,Xaf Y pins H b) (sr:SrcR Y.K ρ H src J) (hn:Da ∉ ρ) (hD:H Da=some (.lst vs)) (ra:RDs Y.K ρ H acc vs) (st0:Stp Y.K ρ0 ρ H0 H)
  (hr:Yo src.get t (Xab tf body) (src.most S+1) 0 env acc S=.ok accf Sf)
  (hP:∀ s' σ' H' ρ' vs' env',S0 Y pins σ' H' s' ρ' Sf env'->(∀ i,i ∉ slots t->env'[i]?=env[i]?)->Da ∉ ρ'->H' Da=some (.lst vs')->RDs Y.K ρ' H' accf vs'->Stp Y.K ρ0 ρ' H0 H'->Mon Y.K ρ ρ' H H'->P s') :
  codeAny (model Y.prog Y.w) Y.A (.compStart (.ListComp elt gens scope cpos) d (.ref it) (.ref Da) Y.env) (fun r s'=>match r with | .ok _=>P s' | .error _=>False) s:=by
 have loop:codeAny (model Y.prog Y.w) Y.A (.compLoop (.ListComp elt gens scope cpos) d (.ref it) (.ref Da) Y.env) (fun r s'=>match r with | .ok _=>P s' | .error _=>False) s:=by
  have stat:∀ {H':Hp},(∀ b∈fp,H' b=none)->∀ b∈fp,Xaf Y pins H' b:=fun hn b hb=>⟨hn b hb,(f0 b hb).2⟩
  refine Xrl hg rfl (fun n s'=>∃ i σ' H' ρ' S' env' acc' vs',S0 Y pins σ' H' s' ρ' S' env'/\tn i s'.heap/\(∀ b∈fp,H' b=none)/\SrcR Y.K ρ' H' src J/\Mon Y.K ρ ρ' H H'/\Stp Y.K ρ0 ρ' H0 H'/\Da ∉ ρ'/\H' Da=some (.lst vs')/\RDs Y.K ρ' H' acc' vs' /\
   (∀ i,i ∉ slots t->env'[i]?=env[i]?)/\Yo src.get t (Xab tf body) n i env' acc' S'=.ok accf Sf) ?_ (src.most S+1) ⟨0,σ,H,ρ,S,env,acc,vs,I,t0,fun b hb=>(f0 b hb).1,sr,Stp.refl.toMon,st0,hn,hD,ra,fun _ _=>rfl,hr⟩
  rintro n s3 ⟨i,σ3,H3,ρ3,S3,env3,acc3,vs3,I3,t3,fr3,sr3,mo3,st3,hn3,hD3,ra3,hs3,eq3⟩
  cases n with
  | zero=>cases eq3
  | succ n =>
   simp only[Yo] at eq3;cases g1:src.get S3 i with
   | none=>rw[g1] at eq3;cases eq3
   | some o =>
    rw[g1] at eq3;cases o with
    | none =>
     cases eq3;refine thn (T.done Y rfl rfl rfl hc i pins s3 σ3 H3 _ I3.inv (stat fr3) t3 (sr3.stop I3 g1)) fun r s4 ⟨hr,I4⟩=>?_
     subst hr;exact hP s4 σ3 H3 ρ3 vs3 env3 ⟨I4,I3.sr,I3.er⟩ hs3 hn3 hD3 ra3 st3 mo3
    | some dd =>
     dsimp only at eq3;obtain⟨go,yl⟩:=sr3.go I3 g1;refine thn (T.item Y rfl rfl rfl hc i pins s3 σ3 H3 _ I3.inv (stat fr3) t3 go) fun r s4 ⟨u,hr,h4⟩=>?_
     subst hr;refine thn h4 fun _ s5 ⟨x,H5,I5,r5,y5,t5,fr5⟩=>?_
     obtain⟨sr5,st5,rd5⟩:=yl x H5 y5;have I5':=I5.pinned (stat fr5) (T.obj _ _ t5);cases e6:Xl t dd env3 with
     | none=>rw[e6] at eq3;cases eq3
     | some env6 =>
      rw[e6] at eq3;dsimp only at eq3;refine hG (pins++Xbh fp s5.heap) s5 σ3 H5 ρ3 S3 env3 dd x u env6 _ _ ⟨I5',sr5,I3.er.mono st5⟩ e6 rd5 r5 fun s6 σ6 I6=>?_
      obtain⟨_,hD6⟩:=st5.out hD3 hn3;have ra6:=ra3.mono st5;cases e7:Xab tf body env6 acc3 S3 with
      | bad=>rw[e7] at eq3;cases eq3
      | ex m S7=>rw[e7] at eq3;cases eq3
      | ok acc7 S7 =>
       rw[e7] at eq3;dsimp only at eq3;have hs6:∀ i,i ∉ slots t->env6[i]?=env[i]?:=fun i hi=>(Xm5 e6 hi).trans (hs3 i hi)
       have again:∀ {s7:Shared} {σ7:L2.St} {H7:Hp} {ρ7:List Addr} {vs7:List V},S0 Y (pins++Xbh fp s5.heap) σ7 H7 s7 ρ7 S7 env6->SrcR Y.K ρ7 H7 src J->Mon Y.K ρ ρ7 H H7->Stp Y.K ρ0 ρ7 H0 H7->Da ∉ ρ7->H7 Da=some (.lst vs7)->RDs Y.K ρ7 H7 acc7 vs7 ->
         ∃ m,m<n+1/\∃ i σ' H' ρ' S' env' acc' vs',S0 Y pins σ' H' s7 ρ' S' env'/\tn i s7.heap/\(∀ b∈fp,H' b=none)/\SrcR Y.K ρ' H' src J/\Mon Y.K ρ ρ' H H'/\Stp Y.K ρ0 ρ' H0 H'/\Da ∉ ρ'/\H' Da=some (.lst vs')/\RDs Y.K ρ' H' acc' vs' /\
          (∀ i,i ∉ slots t->env'[i]?=env[i]?)/\Yo src.get t (Xab tf body) m i env' acc' S'=.ok accf Sf:=fun {s7 σ7 H7 ρ7 vs7} I7 sr7 mo7 st7 hn7 hD7 ra7=>by
        refine⟨n,Vbb _,i+1,σ7,H7,ρ7,S7,env6,acc7,vs7,I7.rep I7.inv.unpinned,T.keep _ _ _ t5 fun b hb o e=>(I7.inv.pin (b,o) (U0 _ (U0 _ (Xb9 hb e)))).1,fun b hb=>?_,sr7,mo7,st7,hn7,hD7,ra7,hs6,eq3⟩
        obtain⟨o,e,_⟩:=T.obj _ _ t5 b hb;exact(I7.inv.pin (b,o) (U0 _ (U0 _ (Xb9 hb e)))).2.1
       unfold Xab at e7;cases e8:tf env6 S3 with
       | bad=>rw[e8] at e7;cases e7
       | ex m S8=>rw[e8] at e7;cases e7
       | ok b8 S8 =>
        rw[e8] at e7;simp only[Rk0] at e7;refine hT (pins++Xbh fp s5.heap) s6 σ6 H5 ρ3 S3 env6 b8 S8 _ _ I6 e8 fun s8 H8 ρ8 I8 st8=>?_
        obtain⟨hn8,hD8⟩:=st8.out hD6 hn3;have ra8:=ra6.mono st8;have st08:=st3.trans (st5.trans st8);have sr8:SrcR Y.K ρ8 H8 src J:=sr3.mono (st5.trans st8);cases b8 with
        | false =>
         rw[if_neg V9] at e7 ⊢;cases e7;exact again I8 sr8 (mo3.trans (st5.trans st8).toMon) st08 hn8 hD8 ra8
        | true =>
         rw[if_pos rfl] at e7 ⊢;exact hB (pins++Xbh fp s5.heap) s8 σ6 H8 ρ8 S8 S7 env6 acc3 acc7 vs3 H0 ρ0 _ I8 hn8 hD8 ra8 h0 st08 e7 fun s9 σ9 H9 ρ9 vs9 I9 hn9 hD9 ra9 st9 mo9=>again I9 (sr8.mono' mo9) ((mo3.trans (st5.trans st8).toMon).trans mo9) st9 hn9 hD9 ra9
 exact Xpa hg loop (T.self Y.A 0 s _ _ t0 loop)
theorem Xjq(hg:gens[d+1]?=none)(he:DE Y elt fe) :
  Xcv Y Da elt gens scope cpos d (fun env acc S=>(fe env S).bind fun y S=>if acc.length<big then .ok (acc++[y]) S else .bad):=by
 intro pins s σ H ρ S S' env acc acc' vs H0 ρ0 P I hn hD ra h0 st0 hb hP;unfold Xlh;rw[hg];dsimp only at hb ⊢;cases q:fe env S with
 | bad=>rw[q] at hb;cases hb
 | ex n S1=>rw[q] at hb;cases hb
 | ok y S1 =>
  rw[q] at hb;simp only[Rk0] at hb;split at hb
  ·rename_i hz
   cases hb;refine he.ok I q fun u s1 v H1 ρ1 I1 rv rd st1=>?_
   obtain⟨hn1,hD1⟩:=st1.out hD hn;have hlen:vs.length<Vt:=by rw[<- ra.length];exact Vu hz Xk5
   refine mtd (X:=Y) (Q':=fun z H'=>z=.non/\H'=upd H1 Da (.lst (vs++[v]))) Xjl I1.inv (show RelV (.ref Da) (.ref Da) from rfl) (.cons rv .nil) ⟨Da,vs,v,rfl,rfl,hD1,hlen,rfl,rfl⟩ fun w s2 z H2 J rz ⟨e1,e2⟩=>?_
   subst e1 e2;have mo:Mon Y.K ρ1 ρ1 H1 (upd H1 Da (.lst (vs++[v]))):=Mon.own hD1;refine hP s2 σ _ ρ1 (vs++[v]) ⟨J,I1.sr.own hD1 hn1,I1.er.mono' mo⟩ hn1 Xz ((RDs.mono' mo _ _ (ra.mono st1)).append (.cons (RD.mono' mo _ _ rd) .nil)) ((st0.trans st1).own h0 hD1) ⟨fun n a h=>st1.pre n a h,fun a xs h=>mo.tup a xs (st1.tup a xs h),fun a xs h=>mo.fro a xs (st1.fro a xs h)⟩
  ·cases hb
theorem Xrn(hc:Y.calm=true)
  (hg:gens[d+1]?=some ⟨tg2,iter2,ifs2,0⟩) (hi:DI Y tg2 iter2 fi) (hs:∀ x,Vaq iter2 Y.env x=pure x) (hG:DG Y tg2 t2) (hT:DTs Y ifs2 tf) (hB:Xcv Y Da elt gens scope cpos (d+1) body) :
  Xcv Y Da elt gens scope cpos d (fun env acc S=>if Xq6 t2 env then (fi env S).bind fun src S=>Yo src.get t2 (Xab tf body) (src.most S+1) 0 env acc S else .bad):=by
 intro pins s σ H ρ S S' env acc acc' vs H0 ρ0 P I hn hD ra h0 st0 hb hP;unfold Xlh;rw[hg];dsimp only at hb ⊢;split at hb
 ·rename_i hno
  refine⟨rfl,hs,?_⟩;cases q:fi env S with
  | bad=>rw[q] at hb;cases hb
  | ex n S1=>rw[q] at hb;cases hb
  | ok src S1 =>
   rw[q] at hb;simp only[Rk0] at hb;refine Vj (hi pins s σ H ρ S env (fun _ _=>False) I (by rw[q];exact fun z=>nomatch z) fun x s' z=>?_) (fun v s1 h1=>Vj h1 (fun itv s2 h2=>?_) fun _ _ z=>z) fun _ _ z=>z
   ·rw[q] at z;obtain⟨m,S2,e,z⟩:=z;cases e
   ·obtain⟨src',S2,it,fp,tn,J,H2,ρ2,e1,rfl,I2,T,t0,f2,sr2,srr,st2⟩:=h2
    rw[q] at e1;cases e1;obtain⟨hn2,hD2⟩:=st2.out hD hn;refine Xrm (ρ0:=ρ0) (H0:=H0) hc hg T hG hT hB h0 (I.step I2 srr st2) t0 f2 sr2 hn2 hD2 (ra.mono st2) (st0.trans st2) hb fun s' σ' H' ρ' vs' env' I' hs' hn' hD' ra' st' mo'=>?_
    refine hP s' σ' H' ρ' vs' ⟨I'.inv,I'.sr,⟨?_,fun i d e=>?_⟩⟩ hn' hD' ra' st' (st2.toMon.trans mo')
    ·have h1:=I.er.len
     have h2:=I.inv.len;have h3:=I'.inv.len;omega
    ·by_cases hi:i∈slots t2
     ·have z:=Uv.mp hno i hi
      rw[e] at z;cases z
     ·exact I'.er.val i d ((hs' i hi).trans e)
 ·cases hb
end
noncomputable def hid(own:List Str)(y:Str):Str:=if own.contains y then Ub "0" ++ y else y
noncomputable def Xao(N own:List Str):List Str:=N.map (hid own)++own
structure ScOk(outer sc:Scope)(N own:List Str):Prop where
 kind:sc.kind=.function
 okind:outer.kind=.function
 nd:(Xao N own).Nodup
 cel:∀ y∈sc.names,y.2=.cell->y.1∈own
 apart:∀ y∈sc.names,y.2=.free->y.1 ∉ own
 free:∀ y∈sc.names,y.2=.free->outer.names.lookup y.1=some .cell\/outer.names.lookup y.1=some .free
 loc:∀ y,sc.names.lookup y=some .local->y∈own
 names:∀ x∈sc.names,x.2=.local->sc.names.lookup x.1=some .local
 hidn:∀ y∈N,own.contains y=true->sc.names.lookup (Ub "0" ++ y)=none
section
variable{X:Cx}{pins:List (Addr×Obj)}{σ:L2.St}{H:Hp}{s:Shared}{ρ:List Addr}{S S':Sto}{env:En}{Q:Value->Shared->Prop}{E:Value->Shared->Prop}
noncomputable def blk(X:Cx)(pins:List (Addr×Obj))(s:Shared)(H:Hp)(sc:Scope)(cl:List (Str×Addr))(C:Addr)(own:List Str)(fp:List Addr):Cx :=
 { X with N:=Xao X.N own,s₀:=s,H₀:=H,env:=compEnvC sc cl C X.env,outer:=X.stack,stack:=X.stack,ex:=fp,fn:=fun x=>own.contains x,pn:=X.pn++pins }
theorem Xca{names:List (Str×Vct)}(h:names.lookup x=some k):(x,k)∈names:=Va3 h
theorem Xm6{cs:List (Str×Addr)}(h:cs.lookup x=some c):(x,c)∈cs:=Va3 h
theorem Xbs(sc:Scope)(env:Vah)(x:Str):(relabel sc env).names.lookup x=(sc.names.lookup x).map fun k=>if (k == .free&&env.scope.kind == .function&&env.kindOf x==some .cell)=true then .cell else k:=by
 unfold relabel;dsimp only
 induction sc.names with
 | nil=>rfl
 | cons y r ih =>
  obtain⟨n,k⟩:=y;show List.lookup x ((if (k==Vd5&&env.scope.kind == .function&&env.kindOf n==some .cell)=true then (n,NameKind.cell) else (n,k))::_)=_
  by_cases hx:x==n
  ·have e:=eq_of_beq hx
   subst e
   by_cases hc:(k==Vd5&&env.scope.kind == .function&&env.kindOf x==some .cell)=true
   ·rw[if_pos hc,U7,beq_self_eq_true,U7,beq_self_eq_true];exact congrArg some (if_pos hc).symm
   ·rw[if_neg hc,U7,beq_self_eq_true,U7,beq_self_eq_true];exact congrArg some (if_neg hc).symm
  ·have hx':(x==n)=false:=by simpa using hx
   by_cases hc:(k==Vd5&&env.scope.kind == .function&&env.kindOf n==some .cell)=true
   ·rw[if_pos hc,U7,hx',U7,hx'];exact ih
   ·rw[if_neg hc,U7,hx',U7,hx'];exact ih
theorem X2k{own:List Str}{cl:List (Str×Addr)}{fp:List Addr}{m:Str->Option Value}(so:ScOk X.env.scope sc X.N own)(I:Inv X pins σ H s)(hf:∀ b∈fp,Xaf X pins H b)
  (hcl:∀ x c,cl.lookup x=some c->(x ∉ own/\X.env.cells.lookup x=some c)\/(x∈own/\C<c/\s4.heap.IsCell c none)) (hinj:∀ x y c,cl.lookup x=some c->cl.lookup y=some c->x=y) (hclf:∀ x,sc.names.lookup x=some .cell\/sc.names.lookup x=some .free->∃ c,cl.lookup x=some c)
  (hDa:Da=s.heap.objs.size) (hC:C=s.heap.objs.size+1) (hos:s4.os=s.os) (hgens:s4.gens=s.gens) (keep:∀ b o,s.heap.get? b=some o->s4.heap.get? b=some o)
  (hns:s4.heap.Ns C m) (hacc:∃ n,s4.heap.get? Da=some { cls:=.type "list",data:=.seq #[] n }) (hfp:∀ b∈fp,b<s.heap.objs.size) :
  Inv (blk X pins s H sc cl C own fp) [] (σ++Vd own.length none) (upd H Da (.lst [])) s4:=by
 have hD:H Da=none:=by rw[hDa];exact I.hok.fresh (Vh _)
 have hCn:H C=none:=by rw[hC];exact I.hok.fresh (Nat.le_succ _)
 have hCD:C≠Da:=by rw[hC,hDa];exact Vbk (Vbb _)
 have lt_ne:∀ b,b<s.heap.objs.size->b≠C/\b≠Da:=fun b hb=>⟨by rw[hC];exact V5 (Vbr hb),by rw[hDa];exact V5 hb⟩
 have cell_lt:∀ x c,X.env.cells.lookup x=some c->c<s.heap.objs.size:=fun x c e=>by obtain⟨v,q⟩:=I.cell x c e;exact q.lt
 refine⟨⟨I.ok.mod,so.kind,I.ok.glob,I.ok.blt,?_,?_,?_,?_,I.ok.hd,I.ok.frames,.inl rfl,?_,I.bs,?_,?_,?_,I.stack,I.stkFree⟩,hos,?_,?_,?_,?_,?_,?_,?_,?_,?_⟩
 ·show s.heap.objs.size<=C;rw[hC];exact Nat.le_succ _
 ·exact hinj
 ·intro x hx
  have hx':(relabel sc X.env).names.lookup x=some .cell\/(relabel sc X.env).names.lookup x=some .free:=hx;rw[Xbs] at hx';cases e:sc.names.lookup x with
  | none=>rw[e] at hx';simp at hx'
  | some k =>
   rw[e] at hx';have hk:k=.cell\/k=.free:=by
    rcases hx' with h|h
    ·simp only[Vs,Vi] at h
     split at h
     ·rename_i hc
      simp only[bA0,beq_iff_eq] at hc;exact .inr hc.1.1
     ·exact .inl h
    ·simp only[Vs,Vi] at h
     split at h
     ·cases h
     ·exact .inr h
   exact hclf x (hk.elim (fun z=>.inl (z▸e)) fun z=>.inr (z▸e))
 ·intro x c h e
  have hx:x∈own:=by simpa using (show own.contains x=true from h)
  rcases hcl x c e with⟨z,_⟩|⟨_,z,_⟩
  ·exact absurd hx z
  ·show s.heap.objs.size<=c;rw[hC] at z;exact Vcw (Vd1 z)
 ·intro b hb
  refine⟨(lt_ne b (hfp b hb)).1,fun x c h=>?_⟩
  rcases hcl x c h with⟨_,z⟩|⟨_,z,_⟩
  ·exact(hf b hb).2.2.2.2.1 x c z
  ·rw[hC] at z
   exact Vbk (Nat.lt_trans (hfp b hb) (Vd1 z))
 ·exact Vy I.ok.bsz I.sz
 ·intro b o e hb
  rcases (hf b hb).2.2.2.1 with z|z
  ·exact I.ok.noex b o e z
  ·exact absurd (Vu (Vm e) (Vy I.ok.bsz z)) (Vb0 _)
 ·intro b hb hm
  rcases Vl.mp (I.stkSub b hm) with z|z
  ·exact(hf b hb).2.1 z
  ·exact(hf b hb).2.2.1 z
 ·rw[hgens];exact I.bare
 ·refine⟨fun b o e _ _ _=>keep b o e,fun b o e _ _ _=>⟨o.slots,keep b o e⟩,fun b o e n _=>?_,fun b o e _=>⟨o,keep b o e⟩,fun b xs e=>?_,fun b o u e=>?_,fun b ps e=>⟨#[],?_⟩⟩
  ·show upd H Da _ b=none
   rw[Xh (lt_ne b (Vm e)).2];exact n
  ·rw[Xh (Xn e hD)];exact e
  ·rw[Xh (Xn e hD)];exact e
  ·rw[Xh (Xn e hD),show H b=some (.tbl ps) from e];simp
 ·refine⟨m,hns,fun i x v h1 h2 h3=>?_⟩
  have hi:i<X.N.length:=by
   by_cases hi:i < σ.length
   ·rw[I.len] at hi;exact hi
   ·rw[Vac (by omega),Vbu] at h2
    split at h2<;>cases h2
  have h1':(Xao X.N own)[i]?=some x:=h1;unfold Xao at h1';rw[Vq (by simpa using hi),V1] at h1'
  rw[Vq (by rw[I.len];exact hi)] at h2
  cases ey:X.N[i]? with
  | none=>rw[ey] at h1';cases h1'
  | some y =>
   rw[ey] at h1';simp only[Vs,Vi] at h1';have h3':Vis (relabel sc X.env) x:=h3;have nloc:=so.loc;have hxo:x ∉ own:=fun hm=>by
    have nd:=so.nd;unfold Xao at nd;rw[Vfd] at nd;exact nd.2.2 x (Vag.mpr ⟨y,U4 ey,h1'⟩) x hm rfl
   have hfree:sc.names.lookup x=some .free:=by
    have:(relabel sc X.env).names.lookup x=some .local\/(relabel sc X.env).names.lookup x=some .cell\/(relabel sc X.env).names.lookup x=some .free:=h3';rw[Xbs] at this;cases e:sc.names.lookup x with
    | none=>rw[e] at this;simp at this
    | some k =>
     cases k with
     | free=>rfl
     | «local»=>exact absurd (nloc x e) hxo
     | cell=>exact absurd (so.cel _ (Xca e) rfl) hxo
     | _=>rw[e] at this;simp at this
   have hxy:x=y:=by
    unfold hid at h1';split at h1'
    ·rename_i hc
     have z:=so.hidn y (U4 ey) hc;rw[h1',hfree] at z;cases z
    ·exact h1'.symm
   subst hxy;obtain⟨c,hc⟩:=hclf x (.inr hfree);have hcX:=((hcl x c hc).resolve_right fun z=>hxo z.1).2
   have kx:=so.free (x,.free) (Xca hfree) rfl;obtain⟨m0,hn0,hl⟩:=I.loc;obtain⟨u,ru,lk⟩:=hl i x v ey h2 (kx.elim (fun z=>.inr (.inl z)) fun z=>.inr (.inr z))
   refine⟨u,ru,.inr ⟨?_,c,hc,?_⟩⟩
   ·show(relabel sc X.env).names.lookup x=some .cell\/(relabel sc X.env).names.lookup x=some .free
    rw[Xbs,hfree];simp only[Vs];split
    ·exact .inl rfl
    ·exact .inr rfl
   ·rcases lk with⟨k,_⟩|⟨_,c',hc',hcell⟩
    ·have k':X.env.scope.names.lookup x=some .local:=k
     rcases kx with z|z<;>(rw[k'] at z;cases z)
    ·rw[hcX] at hc';cases hc'
     exact⟨_,keep _ _ hcell.choose_spec.1,hcell.choose_spec.2⟩
 ·intro x c h
  rcases hcl x c h with⟨_,z⟩|⟨_,_,z⟩
  ·obtain⟨v,o,ho,hd⟩:=I.cell x c z
   exact⟨v,o,keep _ _ ho,hd⟩
  ·exact⟨none,z⟩
 ·show upd H Da _ C=none
  rw[Xh hCD];exact hCn
 ·intro x c h
  rcases hcl x c h with⟨_,z⟩|⟨_,z,_⟩
  ·rw[Xh (lt_ne c (cell_lt x c z)).2]
   exact I.freeC x c z
  ·rw[hC] at z
   rw[Xh (by rw[hDa];exact Vbk (Vd1 z))]
   exact I.hok.fresh (Vcw (Vd1 z))
 ·intro p hp
  rw[Vp] at hp;obtain⟨e,n,ne,nf,d⟩:=I.pin p hp;refine⟨keep _ _ e,?_,(lt_ne _ (Vm e)).1,fun hm=>?_,d⟩
  ·rw[Xh (lt_ne _ (Vm e)).2];exact n
  ·rcases Vl.mp (I.stkSub _ hm) with z|z
   ·exact ne z
   ·exact nf z
 ·intro b o e
  by_cases hb:b=Da
  ·subst hb
   rw[Xz] at e;cases e;obtain⟨n,hn⟩:=hacc;exact⟨Uo _,[],n,.nil,hn⟩
  ·rw[Xh hb] at e
   exact(I.hok b o e).stay (fun c v _ q=>keep c v q) (fun c q=>by rw[Xh (Xn q hD)];exact q) fun c xs q=>by rw[Xh (Xn q hD)];exact q
 ·show(σ++Vd own.length none).length=(Xao X.N own).length
  unfold Xao;simp[I.len]
theorem Xym(I:Inv X pins σ H s)(hf:∀ b∈fp,Xaf X pins H b)(J:Inv (blk X pins s H sc cl C own fp) [] σ' H' s') :
  Inv X pins σ H' s' :=
 I.call' J.os J.base J.hok J.bare fun b hb=>⟨(hf b hb).2.2.2.1,(hf b hb).2.1,(hf b hb).2.2.2.2.1,(hf b hb).2.2.2.2.2⟩
theorem Xeb:∀ (names:List (Str×Vct)) (n:Nat) (acc:List (Str×Addr)),Vao n names acc=Vao n names []++acc
 | [],_,_=>rfl
 | (x,k)::r,n,acc=>by
  unfold Vao;split
  ·rw[Xeb r (n+1) ((x,n)::acc),Xeb r (n+1) [(x,n)],Vo];rfl
  ·exact Xeb r n acc
theorem Xli:∀ (names:List (Str×Vct)) (n:Nat),(x,c)∈Vao n names []->(x,.cell)∈names
 | [],_,h=>nomatch h
 | (y,k)::r,n,h=>by
  unfold Vao at h;split at h
  ·rename_i hk
   rw[Xeb] at h;rcases Uz.mp h with h|h
   ·exact Uw _ (Xli r (n+1) h)
   ·have e:=Us.mp h
    cases e;rw[eq_of_beq hk];exact Vbw
  ·exact Uw _ (Xli r n h)
theorem Xyn {M:Model} {sc:Scope} {g:Addr} {cl:List (Str×Addr)} {q:Str} {env:Vah} {R:Vah->Shared->Prop} (h:R { scope:=sc,locals:=s.heap.objs.size,globals:=g,cells:=Vao (s.heap.objs.size+1) sc.names cl,qual:=q,func:=none,code:=env.code,frame:=env.frame,builtins:=env.builtins } { s with heap:=pushCells (s.heap.push { cls:=.type "dict",data:=.dict #[] }) sc.names }) :
  wpAny M A (newFunctionEnv sc g cl [] q none .none (some env)) R E s:=by
 simp only[newFunctionEnv,Vbh,if_true];refine Va (wpAny_alloc ?_);refine Va (wpAny_layCells _ (fun name kind cells=>by cases hkc:kind==NameKind.cell<;>simp[hkc]) _ _ _ _ ?_)
 rw[show({ s with heap:=s.heap.push { cls:=.type "dict",data:=.dict #[] } }:Shared).heap.objs.size=s.heap.objs.size+1 from Vad ..]
 exact Va (by rw[Vdu];exact Vg (Vg h))
theorem Xjr
  (hc:X.calm=true) (so:ScOk X.env.scope sc X.N own) (hon:own.length=n) (hg:gens=⟨tg,iter,ifs,0⟩::gens.tail) (hi:DI X tg iter fi) (hs:∀ x,Vaq iter X.env x=pure x)
  (hG:∀ pins s H cl C fp,DG (blk X pins s H sc cl C own fp) tg t) (hT:∀ pins s H cl C fp,DTs (blk X pins s H sc cl C own fp) ifs tf) (hB:∀ pins s H cl C fp Da,Xcv (blk X pins s H sc cl C own fp) Da elt gens sc cpos 0 body)
  (I:S0 X pins σ H s ρ S env) (q:fi env S=.ok src S1) (hr:Yo src.get t (Xab tf body) (src.most S1+1) 0 (env++Vd n none) [] S1=.ok accf Sf)
  (hQ:∀ s' H' ρ' Da vs C m,S0 X pins σ H' s' ρ' Sf env->Stp X.K ρ ρ' H H'->Da ∉ ρ'->H Da=none->H' Da=some (.lst vs)->RDs X.K ρ' H' accf vs->s'.heap.Ns C m->(∀ x c,X.env.cells.lookup x=some c->c≠C)->C≠X.env.locals->H' C=none->(∀ s'' σ'' H'' h',Inv X pins σ'' H'' s''->H'' C=none->Ui C s''.heap h'->Inv X pins σ'' H'' { s'' with heap:=h' }) ->
   compPost (model X.prog X.w) X.A E use Q (.ref Da) C (.ok .next) s') :
  wpAny (model X.prog X.w) X.A (comprehension (.ListComp elt gens sc cpos) sc X.env (firstIterPos gens cpos) (newList []) false (eval iter X.env) use) Q E s:=by
 have hfree:∀ x∈sc.names,x.2=.free->∃ c,X.env.cells.lookup x.1=some c:=fun x hx hf=>by
  rcases so.free x hx hf with z|z
  ·exact I.inv.ok.has x.1 (.inl z)
  ·exact I.inv.ok.has x.1 (.inr z)
 obtain⟨cl,hclos,hcl,hclf⟩:=Xgk hfree;refine Vfm (g:=⟨tg,iter,ifs,0⟩) (gs:=gens.tail) hg hs hclos so.kind so.names ?_;refine Vj (E:=fun _ _=>False) (hi pins s σ H ρ S env (fun _ _=>False) I (by rw[q];exact fun z=>nomatch z) fun x s' z=>?_) (fun v s1 h1=>Vj h1 (fun itv s2 h2=>?_) fun _ _ z=>z.elim) fun _ _ z=>z.elim
 ·rw[q] at z;obtain⟨k,S2,e,z⟩:=z;cases e
 ·obtain⟨src',S2,it,fp,tn,J,H2,ρ2,e1,rfl,I2,T,t0,f2,sr2,srr,st2⟩:=h2
  rw[q] at e1;cases e1;have J2:=I.step I2 srr st2;refine Vai (Xyn ?_);dsimp only;generalize hH2:s2.heap.push { cls:=.type "list",dict:=none,data:=.seq ([]:List Value).toArray }=G2;have hC:G2.objs.size=s2.heap.objs.size+1:=by rw[<- hH2,Vad]
  have below:∀ b,b<s2.heap.objs.size->b≠G2.objs.size:=fun b hb=>by rw[hC];exact V5 (Vbr hb)
  have cok:=cellsFrom_ok sc.names (G2.push { cls:=.type "dict",data:=.dict #[] }) (G2.objs.size+1) [] ⟨fun _ _ hm=>(nomatch hm),List.Pairwise.nil⟩ (by rw[Vad];exact Vh _)
  rw[Vad] at cok;obtain⟨m1,hns₁⟩:∃ m1,(pushCells (G2.push { cls:=.type "dict",data:=.dict #[] }) sc.names).Ns G2.objs.size m1:=by
   obtain⟨o,es,ep,ho,Xam⟩:=(Heap.Ns.new ..:(G2.push { cls:=.type "dict",data:=.dict #[] }).Ns G2.objs.size _);exact⟨_,o,es,ep,pushCells_keeps _ _ _ _ ho,Xam⟩
  have ok0:∀ b o,G2.get? b=some o->(pushCells (G2.push { cls:=.type "dict",data:=.dict #[] }) sc.names).get? b=some o:=fun b o e=>pushCells_keeps _ _ b o (Vb _ e)
  generalize pushCells (G2.push { cls:=.type "dict",data:=.dict #[] }) sc.names=h₁ at cok hns₁ ok0 ⊢;have old:∀ b o,s2.heap.get? b=some o->h₁.get? b=some o:=fun b o e=>ok0 b o (hH2▸Vb _ e)
  have hacc:h₁.get? s2.heap.objs.size=some { cls:=.type "list",data:=.seq #[] 0 }:=ok0 _ _ (hH2▸Vk _ rfl);have ofnew:∀ x c,(x,c)∈Vao (G2.objs.size+1) sc.names []->x∈own/\G2.objs.size<c/\h₁.IsCell c none:=fun x c hm=>⟨so.cel _ (Xli _ _ hm) rfl,(cok.empty x c hm).2,(cok.empty x c hm).1⟩
  have two:∀ x c,(Vao (G2.objs.size+1) sc.names cl).lookup x=some c->(x,c)∈Vao (G2.objs.size+1) sc.names []\/(x ∉ own/\X.env.cells.lookup x=some c):=fun x c h=>by
   rw[Xeb,List.lookup_append,Option.or_eq_some_iff] at h;rcases h with h|⟨_,h⟩
   ·exact .inl (Xm6 h)
   ·exact .inr ⟨so.apart _ (hcl x c h).2 rfl,(hcl x c h).1⟩
  have hclN:∀ x c,(Vao (G2.objs.size+1) sc.names cl).lookup x=some c->(x ∉ own/\X.env.cells.lookup x=some c)\/(x∈own/\G2.objs.size<c/\h₁.IsCell c none):=fun x c h=>(two x c h).elim (fun z=>.inr (ofnew x c z)) .inl
  have old_lt:∀ x c,X.env.cells.lookup x=some c->c<G2.objs.size:=fun x c e=>by obtain⟨v,z⟩:=I2.cell x c e;rw[hC];exact Vbr z.lt
  have hinj:∀ x y c,(Vao (G2.objs.size+1) sc.names cl).lookup x=some c->(Vao (G2.objs.size+1) sc.names cl).lookup y=some c->x=y:=fun x y c h1 h2=>by
   rcases two x c h1 with a|⟨_,a⟩<;>rcases two y c h2 with b|⟨_,b⟩
   ·exact name_of_addr cok.apart a b
   ·exact absurd (old_lt y c b) (Nat.lt_asymm (ofnew x c a).2.1)
   ·exact absurd (old_lt x c a) (Nat.lt_asymm (ofnew y c b).2.1)
   ·exact I2.ok.inj x y c a b
  have hclfN:∀ x,sc.names.lookup x=some .cell\/sc.names.lookup x=some .free->∃ c,(Vao (G2.objs.size+1) sc.names cl).lookup x=some c:=fun x h=>Vbn.mp (Vd2 sc.names _ cl (h.imp id fun z=>by
   obtain⟨c,hc⟩:=hclf (x,.free) (Xca z) rfl;exact Vbn.mpr ⟨c,hc⟩))
  generalize Vao (G2.objs.size+1) sc.names cl=cl1 at hclN hinj hclfN two ⊢;have hfp:∀ b∈fp,b<s2.heap.objs.size:=fun b hb=>by obtain⟨o,e,_⟩:=T.obj _ _ t0 b hb;exact Vm e
  have hD0:H2 s2.heap.objs.size=none:=I2.hok.fresh (Vh _);have hDn:s2.heap.objs.size ∉ ρ2:=fun hm=>by obtain⟨w,hw,_⟩:=srr.mem hm;rw[hD0] at hw;cases hw
  generalize hs4:({ s2 with heap:=h₁ }:Shared)=s4
  have IY:Inv (blk X pins s2 H2 sc cl1 G2.objs.size own fp) [] (σ++Vd own.length none) (upd H2 s2.heap.objs.size (.lst [])) s4:=by
   subst hs4;exact X2k so I2 f2 hclN hinj hclfN rfl hC rfl rfl old hns₁ ⟨0,hacc⟩ hfp
  have stD:Stp X.K ρ2 ρ2 H2 (upd H2 s2.heap.objs.size (.lst [])):=Stp.upd hD0;have SY:S0 (blk X pins s2 H2 sc cl1 G2.objs.size own fp) [] (σ++Vd own.length none) (upd H2 s2.heap.objs.size (.lst [])) s4 ρ2 S1 (env++Vd n none):=by
   refine⟨IY,srr.upd hD0,⟨by simp[J2.er.len,hon],fun i d e=>?_⟩⟩
   have hi:i<env.length:=by
    by_cases hi:i<env.length
    ·exact hi
    ·rw[Vac (by omega),Vbu] at e
     split at e<;>cases e
   rw[Vq hi] at e;obtain⟨v,h1,h2⟩:=J2.er.val i d e;exact⟨v,by rw[Vq (by rw[<- J2.er.len];exact hi)];exact h1,h2.mono stD⟩
  have t4:tn 0 s4.heap:=by
   subst hs4;exact T.keep 0 _ _ t0 fun b hb o e=>old b o e
  have fY:∀ b∈fp,Xaf (blk X pins s2 H2 sc cl1 G2.objs.size own fp) [] (upd H2 s2.heap.objs.size (.lst [])) b:=fun b hb=>by
   obtain⟨a1,a2,a3,a4,a5,a6⟩:=f2 b hb;refine⟨by rw[Xh (V5 (hfp b hb))];exact a1,below b (hfp b hb),fun hm=>?_,.inl hb,fun x c h=>(hclN x c h).elim (fun z=>a5 x c z.2) (fun z=>Vbk (Nat.lt_trans (by rw[hC];exact Vbr (hfp b hb)) z.2.1)),fun p hp=>?_⟩
   ·rcases Vl.mp (I2.stkSub b hm) with z|z
    ·exact a2 z
    ·exact a3 z
   ·rw[Vp] at hp;exact a6 p hp
  refine Vee (Xrm (Y:=blk X pins s2 H2 sc cl1 G2.objs.size own fp) (H0:=H2) (ρ0:=ρ2) (P:=compPost (model X.prog X.w) X.A E use Q (.ref s2.heap.objs.size) G2.objs.size (.ok .next)) hc (by rw[hg];rfl) T (hG _ _ _ _ _ _) (hT _ _ _ _ _ _) (hB _ _ _ _ _ _ _) hD0 SY t4 fY (sr2.mono stD) hDn Xz RDs.nil stD hr
   fun s' σ' H' ρ' vs' env' I' _ hn' hD' ra' st' _=>?_) fun r s' h=>?_
  ·have JX:=Xym I2 f2 I'.inv
   have hCn:H' G2.objs.size=none:=I'.inv.free;have hCle:s2.heap.objs.size<=G2.objs.size:=by rw[hC];exact Nat.le_succ _
   obtain⟨m',hm',_⟩:=I'.inv.loc;have fo:=I2.fpOk (H':=H') hCle hCn;have hDX:H s2.heap.objs.size=none:=by
    cases e:H s2.heap.objs.size with
    | none=>rfl
    | some o =>
     by_cases hm:s2.heap.objs.size∈ρ
     ·obtain⟨k,hk,ek⟩:=Veg.mp hm
      exact absurd (U4 (st2.pre k _ (by simp[hk,ek]))) hDn
     ·rw[st2.keep _ o e hm] at hD0;cases hD0
   refine hQ s' H' ρ' s2.heap.objs.size vs' G2.objs.size m' ⟨JX,I'.sr,I.er.mono (st2.trans st')⟩ (st2.trans st') hn' hDX hD' ra' hm' fo.2.2.2.2.1 (fun z=>fo.2.1 z) hCn fun s'' σ'' H'' h' J'' hn'' hs''=>?_
   have q'':Xaf X pins H'' G2.objs.size:=⟨hn'',fo.2⟩;exact J''.turned (t':=s''.toks) (fun b o hb e=>(hs''.2 b hb).trans e) hn'' q''.2.1 q''.2.2.2.1 q''.2.2.2.2.1 q''.2.2.2.2.2
  ·cases r with
   | ok f=>cases use<;>exact h
   | error e=>exact h.elim
end
theorem Xdx{get:Sto->Nat->Option (Option D)}{body:En->List D->Sto->R (List D)}:∀ (k i:Nat) (env:En) (acc:List D) (S:Sto) (n:Nat) (S':Sto),Yo get t body k i env acc S≠.ex n S'
 | 0,i,env,acc,S,n,S'=>fun z=>nomatch z
 | k+1,i,env,acc,S,n,S'=>by
  simp only[Yo];cases get S i with
  | none=>exact fun z=>nomatch z
  | some o =>
   cases o with
   | none=>exact fun z=>nomatch z
   | some d =>
    dsimp only;cases Xl t d env with
    | none=>exact fun z=>nomatch z
    | some env' =>
     dsimp only;cases body env' acc S with
     | ok a S1=>exact Xdx k (i+1) env' a S1 n S'
     | ex _ _=>exact fun z=>nomatch z
     | bad=>exact fun z=>nomatch z
section
variable{X:Cx}{pins:List (Addr×Obj)}{σ:L2.St}{H:Hp}{s:Shared}{ρ:List Addr}{S S':Sto}{env:En}{Q:Value->Shared->Prop}{E:Value->Shared->Prop}
theorem SR.adopt{K:Vf}{Da:Addr}{vs:List V}{xs:List D}(r:SR K ρ S H)(hn:Da ∉ ρ)(hD:H Da=some (.lst vs))(rd:RDs K ρ H xs vs):SR K (ρ++[Da]) (S++[.lst xs]) H:=by
 have mo:Mon K ρ (ρ++[Da]) H H:=⟨fun n a h=>by rw[Vq (Ve.mp h).1];exact h,fun _ _ h=>h,fun _ _ h=>h⟩
 refine⟨by simp[r.len],?_,fun n a ob h1 h2=>?_⟩
 ·rw[Vfd]
  refine⟨r.nd,by simp,fun x hx y hy=>?_⟩
  rw[Us.mp hy];exact fun z=>hn (z▸hx)
 ·by_cases hk:n < ρ.length
  ·rw[Vq hk] at h1
   rw[Vq (by rw[<- r.len];exact hk)] at h2
   exact(r.ob n a ob h1 h2).mono' mo rfl
  ·have e:n=ρ.length:=by
    have:=(Ve.mp h1).1;simp at this;omega
   subst e;simp at h1;rw[r.len] at h2;simp at h2;subst h1 h2;exact⟨vs,hD,RDs.mono' mo _ _ rd⟩
theorem Stp.adopt{K:Vf}{Da:Addr}{ρ':List Addr}{H':Hp}(st:Stp K ρ ρ' H H')(h0:H Da=none):Stp K ρ (ρ'++[Da]) H H' where
 pre:=fun n a h=>by have z:=st.pre n a h;rw[Vq (Ve.mp z).1];exact z
 tup:=st.tup
 fro:=st.fro
 new:=fun a h=>by
  rcases Uz.mp h with h|h
  ·exact st.new a h
  ·rw[Us.mp h];exact .inr h0
 keep:=st.keep
variable{elt:Expr}{gens:List Va9}{sc:Scope}{cpos:Pos}{tg iter:Expr}{ifs:List Expr}{own:List Str}{t:Tg}{n:Nat}{fi:En->Sto->R Src}{tf:En->Sto->R Bool}{body:En->List D->Sto->R (List D)}
noncomputable def Xec(fi:En->Sto->R Src)(t:Tg)(n:Nat)(tf:En->Sto->R Bool)(body:En->List D->Sto->R (List D))(env:En)(S:Sto):R D :=
 (fi env S).bind fun src S=>(Yo src.get t (Xab tf body) (src.most S+1) 0 (env++Vd n none) [] S).bind fun acc S=>.ok (.ref S.length) (S++[.lst acc])
theorem Xn3{use:Option (Value->Sem Unit)}{m:Nat}(so:ScOk X.env.scope sc X.N own)(hg:gens=⟨tg,iter,ifs,0⟩::gens.tail)(hi:DI X tg iter fi)(hs:∀ x,Vaq iter X.env x=pure x)
  (I:S0 X pins σ H s ρ S env) (q:fi env S=.ex m S1) (hE:∀ x s',XPd X pins σ ρ H m S1 x s'->E x s') :
  wpAny (model X.prog X.w) X.A (comprehension (.ListComp elt gens sc cpos) sc X.env (firstIterPos gens cpos) (newList []) false (eval iter X.env) use) Q E s:=by
 have hfree:∀ x∈sc.names,x.2=.free->∃ c,X.env.cells.lookup x.1=some c:=fun x hx hf=>by
  rcases so.free x hx hf with z|z
  ·exact I.inv.ok.has x.1 (.inl z)
  ·exact I.inv.ok.has x.1 (.inr z)
 obtain⟨cl,hclos,hcl,hclf⟩:=Xgk hfree;refine Vfm (g:=⟨tg,iter,ifs,0⟩) (gs:=gens.tail) hg hs hclos so.kind so.names ?_;refine Vj (hi pins s σ H ρ S env E I (by rw[q];exact fun z=>nomatch z) fun x s' z=>?_) (fun v s1 h1=>Vj h1 (fun itv s2 h2=>?_) fun _ _ z=>z) fun _ _ z=>z
 ·rw[q] at z;obtain⟨k,S2,e,z⟩:=z;cases e;exact hE x s' z
 ·obtain⟨src',S2,_,_,_,_,_,_,e1,_⟩:=h2
  rw[q] at e1;cases e1
theorem X2l(hc:X.calm=true)(so:ScOk X.env.scope sc X.N own)(hon:own.length=n)(hg:gens=⟨tg,iter,ifs,0⟩::gens.tail)(hi:DI X tg iter fi)(hs:∀ x,Vaq iter X.env x=pure x)
  (hG:∀ pins s H cl C fp,DG (blk X pins s H sc cl C own fp) tg t) (hT:∀ pins s H cl C fp,DTs (blk X pins s H sc cl C own fp) ifs tf) (hB:∀ pins s H cl C fp Da,Xcv (blk X pins s H sc cl C own fp) Da elt gens sc cpos 0 body) :
  DE X (.ListComp elt gens sc cpos) (Xec fi t n tf body):=by
 intro pins s σ H ρ S env I nb;have hfi:firstIter gens X.env=eval iter X.env:=by rw[hg];rfl
 have hfa:firstAsync gens=false:=by rw[hg];rfl
 rw[eval_ListComp,hfi,hfa];unfold Xec at nb ⊢;cases q:fi env S with
 | bad=>rw[q] at nb;exact absurd rfl nb
 | ex m S1=>exact Xn3 so hg hi hs I q fun x s' z=>⟨m,S1,rfl,z⟩
 | ok src S1 =>
  rw[q] at nb;simp only[Rk0] at nb ⊢;cases q2:Yo src.get t (Xab tf body) (src.most S1+1) 0 (env++Vd n none) [] S1 with
  | bad=>rw[q2] at nb;exact absurd rfl nb
  | ex m S2=>exact absurd q2 (Xdx _ _ _ _ _ _ _)
  | ok accf Sf =>
   refine Xjr hc so hon hg hi hs hG hT hB I q q2 fun s' H' ρ' Da vs C m I' st' hn' h0 hD' ra' hns hcells hCl hCn back=>?_
   refine⟨m,hns,fun h' hs'=>?_⟩
   refine .mk (v:=.ref Da) (st'.adopt h0) (back s' σ H' h' I'.inv hCn hs') rfl ?_ (I'.sr.adopt hn' hD' ra');simp only[RD];exact⟨Da,rfl,by rw[<- I'.sr.len];simp⟩
theorem Xyo{i:Nat}(hN:X.N.Nodup)(hi':X.N[i]?=some x)(hx:X.env.scope.names.lookup x=some .local)(hsw:Vdr (.ListComp elt gens sc cpos) (some (.Name x py)) spos.line X.env=pure true)
  (hc:X.calm=true) (so:ScOk X.env.scope sc X.N own) (hon:own.length=n) (hg:gens=⟨tg,iter,ifs,0⟩::gens.tail) (hi:DI X tg iter fi) (hs:∀ x,Vaq iter X.env x=pure x)
  (hG:∀ pins s H cl C fp,DG (blk X pins s H sc cl C own fp) tg t) (hT:∀ pins s H cl C fp,DTs (blk X pins s H sc cl C own fp) ifs tf) (hB:∀ pins s H cl C fp Da,Xcv (blk X pins s H sc cl C own fp) Da elt gens sc cpos 0 body) :
  DS X (.Assign [.Name x py] (.ListComp elt gens sc cpos) spos) false (fun env S=>(Xec fi t n tf body env S).bind fun d S=>match Xl (.var i) d env with|some env=>.ok (.nx env) S|none=>.bad):=by
 intro pins s σ H ρ S env I nb;dsimp only at nb ⊢;have hfi:firstIter gens X.env=eval iter X.env:=by rw[hg];rfl
 have hfa:firstAsync gens=false:=by rw[hg];rfl
 rw[exec_Assign_Name_used _ _ _ _ hsw];refine Va (Vdb (Va ?_));show wpAny _ X.A (do let _ <- comprehension (.ListComp elt gens sc cpos) sc X.env (firstIterPos gens cpos) (newList []) (firstAsync gens) (firstIter gens X.env) (some (assign (.Name x py) X.env))) _ _ s
 rw[hfi,hfa];refine Va (Vj (Q:=fun _ s'=>OkS X pins σ ρ H false ((Xec fi t n tf body env S).bind fun d S=>match Xl (.var i) d env with|some env=>.ok (.nx env) S|none=>.bad) .next s') ?_ (fun _ s' hq=>Vg (Vg hq)) fun _ _ z=>z)
 unfold Xec at nb ⊢;cases q:fi env S with
 | bad=>rw[q] at nb;exact absurd rfl nb
 | ex m S1=>exact Xn3 so hg hi hs I q fun x s' z=>.of .refl z rfl
 | ok src S1 =>
  rw[q] at nb;simp only[Rk0] at nb ⊢;cases q2:Yo src.get t (Xab tf body) (src.most S1+1) 0 (env++Vd n none) [] S1 with
  | bad=>rw[q2] at nb;exact absurd rfl nb
  | ex m S2=>exact absurd q2 (Xdx _ _ _ _ _ _ _)
  | ok accf Sf =>
   refine Xjr (use:=some (assign (.Name x py) X.env)) hc so hon hg hi hs hG hT hB I q q2 fun s' H' ρ' Da vs C m I' st' hn' h0 hD' ra' hns hcells hCl hCn back=>?_
   show wpAny _ X.A (assign (.Name x py) X.env (.ref Da)) _ _ s';refine Vfa (Xjf I'.inv hN hi' (.inl hx) (show RelV (.ref Da) (.ref Da) from rfl) (fun s2 I2 hsb=>?_) (.inr hx))
   obtain⟨ad,hsb,had⟩:=hsb;have hne:ad≠C:=by
    rcases had with z|z
    ·rw[z];exact Ne.symm hCl
    ·exact hcells x ad z
   refine⟨m,hns.sameBut hsb (Ne.symm hne),fun h' hs'=>?_⟩
   have J:=back s2 _ H' h' I2 hCn hs';refine⟨.nx (env.set i (some (.ref Sf.length))),Sf++[.lst accf],rfl,rfl,_,H',ρ'++[Da],⟨J,I'.sr.adopt hn' hD' ra',?_⟩,st'.adopt h0,fun z=>nomatch z⟩
   have mo:Mon X.K ρ' (ρ'++[Da]) H' H':=⟨fun n a h=>by rw[Vq (Ve.mp h).1];exact h,fun _ _ h=>h,fun _ _ h=>h⟩
   refine(I'.er.mono' mo).set i ?_;simp only[RD];exact⟨Da,rfl,by rw[<- I'.sr.len];simp⟩
def BlR(X:Cx)(k:Bl)(f:Value):Prop :=
 ∀ (pins:List (Addr×Obj)) (s:Shared) (σ:L2.St) (H:Hp) (ρ:List Addr) (S:Sto) (env:En) (ds:List D) (vs:List V) (us:List Value) (E:Value->Shared->Prop),S0 X pins σ H s ρ S env->RDs X.K ρ H ds vs->Vals vs us->Xk k ds S≠.bad ->
  wpAny (model X.prog X.w) X.A (call f us) (OkP X pins σ ρ H (Xk k ds S)) E s
theorem RDs.one{K:Vf}{d:D}{vs:List V}(h:RDs K ρ H [d] vs):∃ v,vs=[v]/\RD K ρ H d v:=by
 simp only[RDs] at h;obtain⟨v,r,rfl,h1,rfl⟩:=h;exact⟨v,rfl,h1⟩
theorem RDs.two{K:Vf}{d e:D}{vs:List V}(h:RDs K ρ H [d,e] vs):∃ v u,vs=[v,u]/\RD K ρ H d v/\RD K ρ H e u:=by
 simp only[RDs] at h;obtain⟨v,r,rfl,h1,u,r',rfl,h2,rfl⟩:=h;exact⟨v,u,rfl,h1,h2⟩
theorem X6a:BlR X .len (.builtin "len"):=by
 intro pins s σ H ρ S env ds vs us E I rd rv nb
 match ds,rd,nb with
 | [],_,nb=>exact absurd rfl nb
 | _::_::_,_,nb=>exact absurd rfl nb
 | [d],rd,nb =>
  obtain⟨v,rfl,r1⟩:=rd.one;have go:∀ xs,Xq S d=some xs->wpAny (model X.prog X.w) X.A (call (.builtin "len") us) (OkP X pins σ ρ H (.ok (.int xs.length) S)) E s:=fun xs h=>by
   obtain⟨a,ws,rfl,hq,hr⟩:=I.seq h r1;refine Xdu (Q':=fun z H'=>z=.int ws.length/\H'=H) Xk0 I.inv rv ⟨a,ws,rfl,hq,rfl,rfl⟩ fun w s' z H' J rz ⟨e1,e2⟩=>?_
   subst e1 e2;obtain⟨t,rfl⟩:=rz;rw[<- hr.length];exact Xad I.sr J
  cases d with
  | str z =>
   simp only[Xk] at nb ⊢;split at nb
   ·rename_i hz
    rw[if_pos hz];simp only[RD] at r1;subst r1;refine Xdu (Q':=fun y H'=>y=.int z.length/\H'=H) Xk1 I.inv rv ⟨z,rfl,Yw hz,rfl,rfl⟩ fun w s' y H' J rz ⟨e1,e2⟩=>?_
    subst e1 e2;obtain⟨t,rfl⟩:=rz;exact Xad I.sr J
   ·exact absurd rfl nb
  | tup xs=>exact go xs rfl
  | fro xs=>exact go xs rfl
  | ref n =>
   simp only[Xk,Xq] at nb ⊢;cases e:Xc S n with
   | none=>rw[e] at nb;exact absurd rfl nb
   | some xs=>exact go xs e
  | non=>exact absurd rfl nb
  | bl _=>exact absurd rfl nb
  | int _=>exact absurd rfl nb
  | fn _ _=>exact absurd rfl nb
theorem Xyp:BlR X .tuple (.type "tuple"):=by
 intro pins s σ H ρ S env ds vs us E I rd rv nb
 match ds,rd,nb with
 | [],_,nb=>exact absurd rfl nb
 | _::_::_,_,nb=>exact absurd rfl nb
 | [d],rd,nb =>
  obtain⟨v,rfl,r1⟩:=rd.one;simp only[Xk] at nb ⊢;cases e:Xq S d with
  | none=>rw[e] at nb;exact absurd rfl nb
  | some xs =>
   dsimp only;obtain⟨a,ws,rfl,hq,hr⟩:=I.seq e r1;rcases hq with hq|hq
   ·refine Xdu (Q':=fun z H'=>∃ p,H p=none/\z=.ref p/\H'=upd H p (.tup ws)) Xd6 I.inv rv ⟨a,ws,rfl,.inl ⟨hq,fun l hl=>⟨l,hl,rfl,rfl⟩⟩⟩ fun w s' z H' J rz ⟨p,hp,e1,e2⟩=>?_
    subst e1 e2;cases rz;exact Xcd J hp I.sr hr
   ·refine Xdu (Q':=fun z H'=>z=.ref a/\H'=H) Xd6 I.inv rv ⟨a,ws,rfl,.inr ⟨hq,rfl,rfl⟩⟩ fun w s' z H' J rz ⟨e1,e2⟩=>?_
    subst e1 e2;refine .mk .refl J rz ?_ I.sr;simp only[RD];exact⟨a,ws,rfl,hq,hr⟩
theorem X2m:BlR X .list (.type "list"):=by
 intro pins s σ H ρ S env ds vs us E I rd rv nb
 match ds,rd,nb with
 | [],_,nb=>exact absurd rfl nb
 | _::_::_,_,nb=>exact absurd rfl nb
 | [d],rd,nb =>
  obtain⟨v,rfl,r1⟩:=rd.one;simp only[Xk] at nb ⊢;cases e:Xq S d with
  | none=>rw[e] at nb;exact absurd rfl nb
  | some xs =>
   dsimp only;obtain⟨a,ws,rfl,hq,hr⟩:=I.seq e r1;refine Xdu (Q':=fun z H'=>∃ p,H p=none/\z=.ref p/\H'=upd H p (.lst ws)) Xk2 I.inv rv ⟨a,ws,rfl,hq,fun l hl=>⟨l,hl,rfl,rfl⟩⟩ fun w s' z H' J rz ⟨p,hp,e1,e2⟩=>?_
   subst e1 e2;cases rz;exact Xbr J hp I.sr hr
theorem Xby:∀ {xs:List D} {bs:List Bool},Yh xs=some bs->xs=bs.map D.bl
 | [],ns,h=>by simp only[Yh,Vi] at h;subst h;rfl
 | .bl i::r,ns,h=>by
  simp only[Yh,V8] at h;obtain⟨ms,h1,rfl⟩:=h;rw[Xby h1];rfl
 | .non::_,_,h=>by simp[Yh] at h
 | .int _::_,_,h=>by simp[Yh] at h
 | .str _::_,_,h=>by simp[Yh] at h
 | .tup _::_,_,h=>by simp[Yh] at h
 | .ref _::_,_,h=>by simp[Yh] at h
 | .fro _::_,_,h=>by simp[Yh] at h
 | .fn _ _::_,_,h=>by simp[Yh] at h
theorem Xro(bs:List Bool)(f:Nat->Bool)(h:∀ i,f i=(bs[i]?).getD false):(Vc bs.length).all f=bs.all id:=by
 rw[Bool.eq_iff_iff,Uv,Uv];constructor
 ·intro q b hb
  obtain⟨i,hi,rfl⟩:=Veg.mp hb;have:=q i (by simpa using hi)
  rw[h i] at this
  simpa [hi] using this
 ·intro q i hi
  have hi':i<bs.length:=by simpa using hi
  rw[h i];simp only[hi',getElem?_pos,Vce];exact q _ (Vcf hi')
theorem Xxj{K:Vf}:∀ {bs:List Bool} {vs:List V},RDs K ρ H (bs.map D.bl) vs->vs=bs.map V.bl
 | [],vs,h=>by simp only[V2,RDs] at h;exact h
 | n::ns,vs,h=>by
  simp only[V2,RDs] at h;obtain⟨v,r,rfl,h1,h2⟩:=h;simp only[RD] at h1;subst h1;rw[Xxj h2];rfl
theorem S0.its(I:S0 X pins σ H s ρ S env)(h:Xc S n=some xs)(rd:RD X.K ρ H (.ref n) v)(rv:RelV v u):∃ a vs its,u=.ref a/\s.heap.IsList a its.toArray/\RDs X.K ρ H xs vs/\Vals vs its/\vs.length<=Vt:=by
 obtain⟨a,vs,rfl,h1,h2,h3⟩:=I.lstR h rd;cases rv;obtain⟨its,r,p,hz⟩:=I.inv.list (.of h2);exact⟨a,vs,its,rfl,p.isList,h3,r,hz⟩
theorem Xlj{its:List Value}{Q:Value->Shared->Prop}(hh:A.handled=none)(hq:s.heap.IsList a its.toArray\/s.heap.IsTuple a its.toArray)
  (h:∀ I fp wr St s₂,Walks prog w A I fp wr its.length (fun i v=>its[i]?=some v) St->St 0 s₂.heap->(∀ b∈fp,b<s₂.heap.objs.size) ->
   (∀ h' tk,(∀ b o,b ∉ wr->s₂.heap.get? b=some o->h'.get? b=some o)->({ s₂ with heap:=h',toks:=tk }:Shared)={ s with heap:=h',toks:=tk }/\∀ b o,s.heap.get? b=some o->h'.get? b=some o)->Q (.ref I) s₂) :
  wpAny (model prog w) A (pyIter (.ref a)) Q E s:=by
 have key:∀ {o:Obj},∀ h' tk,(∀ b ob,b ∉ [s.heap.objs.size]->({ s with heap:=s.heap.push o }:Shared).heap.get? b=some ob->h'.get? b=some ob)->({ ({ s with heap:=s.heap.push o }:Shared) with heap:=h',toks:=tk }:Shared)={ s with heap:=h',toks:=tk }/\∀ b ob,s.heap.get? b=some ob->h'.get? b=some ob :=
  fun {o} h' tk hk=>⟨rfl,fun b ob e=>hk b ob (by simp;exact V5 (Vm e)) (Vb _ e)⟩
 have fpk:∀ {o:Obj} (ha:a<s.heap.objs.size),∀ b∈[s.heap.objs.size,a],b<(s.heap.push o).objs.size:=fun {o} ha b hb=>by
  rw[Vad];simp at hb;rcases hb with rfl|rfl
  ·exact Vbb _
  ·exact Vbr ha
 rcases hq with hq|hq
 ·have ha:a<s.heap.objs.size:=Vm hq.choose_spec.1
  refine Vfe hq ?_;have W:=Walks.list (prog:=prog) (w:=w) hh s.heap.objs.size a (V5 ha) its.toArray;simp only[Vn,Vd9] at W;exact h _ _ _ _ _ W ⟨⟨_,Vk _ rfl,rfl,rfl⟩,hq.at fun o e=>Vb _ e⟩ (fpk ha) key
 ·have ha:a<s.heap.objs.size:=Vm hq.choose_spec.1
  refine Ve3 hq ?_;have W:=Walks.tuple (prog:=prog) (w:=w) hh s.heap.objs.size a (V5 ha) its.toArray;simp only[Vn,Vd9] at W;exact h _ _ _ _ _ W ⟨⟨_,Vk _ rfl,rfl,rfl⟩,hq.at fun o e=>Vb _ e⟩ (fpk ha) key
theorem S0.seqI(I:S0 X pins σ H s ρ S env)(h:Xq S d=some xs)(rd:RD X.K ρ H d v)(rv:RelV v u):∃ a vs its,u=.ref a/\(s.heap.IsList a its.toArray\/s.heap.IsTuple a its.toArray)/\RDs X.K ρ H xs vs/\Vals vs its/\vs.length<=Vt:=by
 obtain⟨a,vs,rfl,hq,hr⟩:=I.seq h rd;cases rv;rcases hq with hq|hq
 ·obtain⟨its,r,p,hz⟩:=I.inv.list hq
  exact⟨a,vs,its,rfl,.inl p.isList,hr,r,hz⟩
 ·obtain⟨its,r,p,hz⟩:=I.inv.tuple hq
  exact⟨a,vs,its,rfl,.inr p,hr,r,hz⟩
theorem Xyq{i:Nat}{v:Value}:∀ {bs:List Bool} {its:List Value},Vals (bs.map V.bl) its->its[i]?=some v->v=.bool ((bs[i]?).getD false):=fun {bs its} hv e=>by
 have hl:i<bs.length:=by
  have h1:=hv.length;have h2:=(Ve.mp e).1;simp at h1;omega
 obtain⟨u,h1,h2⟩:=hv.get (i:=i) (x:=.bl bs[i]) (by simp[hl])
 rw[e] at h1;cases h1;simp[hl];exact h2
theorem X6b(hc:X.calm=true):BlR X .all (.builtin "all"):=by
 intro pins s σ H ρ S env ds vs us E I rd rv nb
 match ds,rd,nb with
 | [],_,nb=>exact absurd rfl nb
 | d::_::_,_,nb=>cases d<;>exact absurd rfl nb
 | [d],rd,nb =>
  cases d with
  | ref n =>
   obtain⟨v,rfl,r1⟩:=rd.one;simp only[Xk] at nb ⊢;cases e:Xc S n with
   | none=>rw[e] at nb;exact absurd rfl nb
   | some xs =>
    rw[e] at nb;simp only[Vv] at nb ⊢;cases e2:Yh xs with
    | none=>rw[e2] at nb;exact absurd rfl nb
    | some bs =>
     dsimp only;have q:=Xby e2;subst q;cases rv with
     | cons ru rr =>
      cases rr;obtain⟨a,ws,its,rfl,hl,hr,hv,hz⟩:=I.its e r1 ru;have hw:=Xxj hr;subst hw;have hlen:its.length=bs.length:=by rw[<- hv.length];simp
      refine call_all_walk (Xlj (I.inv.ok.hd hc) (.inl hl) fun It fp wr St s₂ W st hf key=>?_)
      refine⟨It,fp,wr,_,_,St,fun i=>(bs[i]?).getD false,rfl,W,st,fun i v s' Q' E' hP hQ=>?_,fun h' tk hk=>?_⟩
      ·rw[Xyq hv hP];exact Vb6 hQ
      ·obtain⟨e3,k3⟩:=key h' tk hk
       rw[e3,hlen,Xro bs _ fun _=>rfl]
       exact Xi I.sr (I.inv.kept k3)
  | _=>exact absurd rfl nb
theorem Xui{i:Nat}{v:Value}{ns:List Int}{its:List Value}(hv:Vals (ns.map V.int) its)(e:its[i]?=some v):∃ t,v=.int ((ns[i]?).getD 0) t:=by
 have hl:i<ns.length:=by
  have h1:=hv.length;have h2:=(Ve.mp e).1;simp at h1;omega
 obtain⟨u,h1,h2⟩:=hv.get (i:=i) (x:=.int ns[i]) (by simp[hl])
 rw[e] at h1;cases h1;simp[hl];exact h2
theorem Xfh(ns:List Int):∀ k,k<=ns.length->preSum (fun i=>(ns[i]?).getD 0) k=(ns.take k).sum
 | 0,_=>by simp[preSum]
 | k+1,h=>by
  have hk:k<ns.length:=by omega
  rw[preSum,Xfh ns k (by omega),List.take_succ_eq_append_getElem hk,List.sum_append]
  simp[hk]
theorem X6c(hc:X.calm=true):BlR X .sum (.builtin "sum"):=by
 intro pins s σ H ρ S env ds vs us E I rd rv nb
 match ds,rd,nb with
 | [],_,nb=>exact absurd rfl nb
 | _::_::_,_,nb=>exact absurd rfl nb
 | [d],rd,nb =>
  obtain⟨v,rfl,r1⟩:=rd.one;simp only[Xk] at nb ⊢;cases e:Xq S d with
  | none=>rw[e] at nb;exact absurd rfl nb
  | some xs =>
   rw[e] at nb;simp only[Vv] at nb ⊢;cases e2:Ym xs with
   | none=>rw[e2] at nb;exact absurd rfl nb
   | some ns =>
    dsimp only;have q:=Xea e2;subst q;cases rv with
    | cons ru rr =>
     cases rr;obtain⟨a,ws,its,rfl,hl,hr,hv,hz⟩:=I.seqI e r1 ru;have hw:=hr.ints_of;subst hw;have hlen:its.length=ns.length:=by rw[<- hv.length];simp
     refine call_sum_walkAnyS (Xlj (I.inv.ok.hd hc) hl fun It fp wr St s₂ W st hf key=>?_)
     refine⟨It,fp,wr,_,_,_,_,fun i=>(ns[i]?).getD 0,rfl,W.toS,st,hf,fun i v hP=>Xui hv hP,fun s' t' hm=>?_⟩
     obtain⟨h1,h2,h3,h4,h5⟩:=hm;obtain⟨e3,k3⟩:=key s'.heap s'.toks h1;have e4:s'={ s₂ with heap:=s'.heap,toks:=s'.toks }:=by
      cases s';cases s₂;simp only at h2 h3 h4;subst h2 h3 h4;rfl
     rw[e4,e3,hlen,Xfh ns _ (Vh _),List.take_length];exact Xad I.sr (I.inv.kept k3)
theorem X2n(hc:X.calm=true)(I:S0 X pins σ H s ρ S env)(rv:RelV (.int i) v')(ru:RelV (.int j) u'):wpAny (model X.prog X.w) X.A (call (.builtin "max") [v',u']) (OkP X pins σ ρ H (Xk .max [.int i,.int j] S)) E s :=
 Xdu (Q':=fun z H'=>z=.int (if j>i then j else i)/\H'=H) (Xq1 hc) I.inv (.cons rv (.cons ru .nil)) ⟨i,j,rfl,rfl,rfl⟩ fun w s' z H' J rz ⟨e1,e2⟩=>by
  subst e1 e2;obtain⟨t,rfl⟩:=rz;exact Xad I.sr J
theorem X2o(hc:X.calm=true){i j:Int}{v' u':Value}(I:S0 X pins σ H s ρ S env)(rv:RelV (.int i) v')(ru:RelV (.int j) u'):wpAny (model X.prog X.w) X.A (call (.builtin "min") [v',u']) (OkP X pins σ ρ H (Xk .min [.int i,.int j] S)) E s :=
 Xdu (Q':=fun z H'=>z=.int (if j<i then j else i)/\H'=H) (Xq2 hc) I.inv (.cons rv (.cons ru .nil)) ⟨i,j,rfl,rfl,rfl⟩ fun w s' z H' J rz ⟨e1,e2⟩=>by
  subst e1 e2;obtain⟨t,rfl⟩:=rz;exact Xad I.sr J
theorem X6d(hc:X.calm=true):BlR X .max (.builtin "max"):=by
 intro pins s σ H ρ S env ds vs us E I rd rv nb
 match ds,rd,nb with
 | [],_,nb=>exact absurd rfl nb
 | [d],rd,nb=>cases d<;>exact absurd rfl nb
 | [d,e],rd,nb =>
  obtain⟨v,u,rfl,r1,r2⟩:=rd.two;cases d with
  | int i=>cases e with
   | int j =>
    simp only[RD] at r1 r2;subst r1 r2;cases rv with
    | cons ru rr=>cases rr with
     | cons rw' rr=>cases rr;exact X2n hc I ru rw'
   | _=>exact absurd rfl nb
  | _=>cases e<;>exact absurd rfl nb
 | d::e::_::_,_,nb=>cases d<;>(try cases e)<;>exact absurd rfl nb
theorem X6e(hc:X.calm=true):BlR X .min (.builtin "min"):=by
 intro pins s σ H ρ S env ds vs us E I rd rv nb
 match ds,rd,nb with
 | [],_,nb=>exact absurd rfl nb
 | [d],rd,nb=>cases d<;>exact absurd rfl nb
 | [d,e],rd,nb =>
  obtain⟨v,u,rfl,r1,r2⟩:=rd.two;cases d with
  | int i=>cases e with
   | int j =>
    simp only[RD] at r1 r2;subst r1 r2;cases rv with
    | cons ru rr=>cases rr with
     | cons rw' rr=>cases rr;exact X2o hc I ru rw'
   | _=>exact absurd rfl nb
  | _=>cases e<;>exact absurd rfl nb
 | d::e::_::_,_,nb=>cases d<;>(try cases e)<;>exact absurd rfl nb
def MtD(X:Cx)(k:Mt)(id:String):Prop :=
 ∀ (pins:List (Addr×Obj)) (s:Shared) (σ:L2.St) (H:Hp) (ρ:List Addr) (S:Sto) (env:En) (d:D) (v:V) (u:Value) (ds:List D) (vs:List V) (us:List Value) (E:Value->Shared->Prop),S0 X pins σ H s ρ S env->RD X.K ρ H d v->RelV v u->RDs X.K ρ H ds vs->Vals vs us->Xag k d ds S≠.bad ->
  wpAny (model X.prog X.w) X.A (call (.builtin id) (u::us)) (OkP X pins σ ρ H (Xag k d ds S)) E s
theorem Xyr{n:Nat}{a:Addr}{xs:List D}{vs:List V}{s':Shared}{d:D}{v:V}{u:Value}(I:S0 X pins σ H s ρ S env)(ha:ρ[n]?=some a)(J:Inv X pins σ (upd H a (.lst vs)) s')(rd:RDs X.K ρ H xs vs)(rv:RelV v u)(rdv:RD X.K ρ H d v) :
  OkP X pins σ ρ H (.ok d (S.set n (.lst xs))) u s':=by
 have st:Stp X.K ρ ρ H (upd H a (.lst vs)):=Stp.chg (S:=S) (o:=.lst xs) I.sr ha;exact .mk st J rv (rdv.mono st) (I.sr.chg ha ⟨vs,Xz,rd.mono st⟩)
theorem Xuj:MtD X .append "list.append" := by
 intro pins s σ H ρ S env d v u ds vs us E I rd rv rds rvs nb
 match d,ds,rds,rd,nb with
 | .ref n,[x],rds,rd,nb =>
  obtain⟨y,rfl,r1⟩:=rds.one;simp only[Xag] at nb ⊢;cases e:Z.lstM S n with
  | none=>rw[e] at nb;exact absurd rfl nb
  | some xs =>
   rw[e] at nb;dsimp only at nb ⊢;split at nb
   ·rename_i hz
    rw[if_pos hz];obtain⟨a,ws,rfl,ha,hv,hr⟩:=I.lstR e rd;refine mtd (Q':=fun z H'=>z=.non/\H'=upd H a (.lst (ws++[y]))) Xjl I.inv rv rvs ⟨a,ws,y,rfl,rfl,hv,by rw[<- hr.length];exact Vu hz Xk5,rfl,rfl⟩ fun w s' z H' J rz ⟨e1,e2⟩=>?_
    subst e1 e2;exact Xyr I ha J (hr.append (.cons r1 .nil)) rz (by simp only[RD])
   ·exact absurd rfl nb
 | .ref n,[],_,_,nb=>exact absurd rfl nb
 | .ref n,_::_::_,_,_,nb=>exact absurd rfl nb
 | .non,ds,_,_,nb=>cases ds<;>exact absurd rfl nb
 | .bl _,ds,_,_,nb=>cases ds<;>exact absurd rfl nb
 | .int _,ds,_,_,nb=>cases ds<;>exact absurd rfl nb
 | .str _,ds,_,_,nb=>cases ds<;>exact absurd rfl nb
 | .tup _,ds,_,_,nb=>cases ds<;>exact absurd rfl nb
 | .fro _,ds,_,_,nb=>cases ds<;>exact absurd rfl nb
end
section
variable{X:Cx}{pins:List (Addr×Obj)}{σ:L2.St}{H:Hp}{s:Shared}{ρ:List Addr}{S S':Sto}{env:En}{a b c e:Expr}{f fa fb fc:En->Sto->R D}{pos:Pos}
theorem Xxk(ha:DE X a fa):DE X (.UnaryOp .USub a pos) (fun env S=>(fa env S).bind fun x S=>match x with | .int i=>.ok (.int (-i)) S|_=>.bad):=by
 intro pins s σ H ρ S env I nb;dsimp only at nb ⊢;cases q:fa env S with
 | bad=>rw[q] at nb;exact absurd rfl nb
 | ex n S1=>exact UnaryOp_ (ha.ex I q fun x s' z=>⟨n,S1,rfl,z⟩)
 | ok x S1 =>
  rw[q] at nb;simp only[Rk0] at nb ⊢;refine UnaryOp_ (ha.ok I q fun u s1 v H1 ρ1 I1 rv rd st1=>?_)
  cases x with
  | int i =>
   simp only[RD] at rd;subst rd;obtain⟨t,rfl⟩:=rv;exact neg_int (OkP.pre st1 (Xad I1.sr (I1.inv.tok _)))
  | _=>exact absurd rfl nb
theorem X2p(hc:DT X c (fun env S=>tst (fc env S)))(ha:DT X a (fun env S=>tst (fa env S)))(hb:DT X b (fun env S=>tst (fb env S))) :
  DT X (.IfExp c a b pos) (fun env S=>tst ((fc env S).bind fun x S=>match Xg S x with|some true=>fa env S|some false=>fb env S|none=>.bad)):=by
 intro pins s σ H ρ S env I nb;dsimp only at nb ⊢;show wpAny _ _ (do if <- isTrue c X.env (eval c X.env) then isTrue a X.env (eval a X.env) else isTrue b X.env (eval b X.env)) _ _ s
 cases q:fc env S with
 | bad=>rw[q] at nb;exact absurd rfl nb
 | ex n S1=>exact Va (hc.ex I (by simp only[q];rfl) fun x s' z=>⟨n,S1,rfl,z⟩)
 | ok x S1 =>
  rw[q] at nb;simp only[Rk0] at nb ⊢;cases t:Xg S1 x with
  | none=>rw[t] at nb;exact absurd rfl nb
  | some r =>
   rw[t] at nb;refine Va (hc.ok I (by simp only[q];exact Xbk t) fun s2 H2 ρ2 I2 st2=>?_)
   cases r with
   | true=>exact Vj (ha pins s2 σ H2 ρ2 S1 env I2 nb) (fun w s3 ⟨S3,e3,H3,ρ3,J3,sr3,st3⟩=>⟨S3,e3,H3,ρ3,J3,sr3,st2.trans st3⟩) fun x s' z=>z.pre st2
   | false=>exact Vj (hb pins s2 σ H2 ρ2 S1 env I2 nb) (fun w s3 ⟨S3,e3,H3,ρ3,J3,sr3,st3⟩=>⟨S3,e3,H3,ρ3,J3,sr3,st2.trans st3⟩) fun x s' z=>z.pre st2
noncomputable def Y8(o1 o2:Co)(fa fb fc:En->Sto->R D)(env:En)(S:Sto):R D:=(fa env S).bind fun x S=>(fb env S).bind fun y S=>match X0 o1 x y S with
  | some true=>(fc env S).bind fun z S=>Xj o2 y z S
  | some false=>.ok (.bl false) S
  | none=>.bad
theorem Xlk(ho1:Op2 X (Vaa (opC o1)) (Xj o1))(ha:DE X a fa)(hb:DE X b fb)(I:S0 X pins σ H s ρ S env)(nb:Y8 o1 o2 fa fb fc env S≠.bad)
  {W:Value->Value->Bool->Shared->Prop} (hE:∀ x s',ExP X pins σ ρ H (Y8 o1 o2 fa fb fc env S) x s'->Ev x s')
  (hF:∀ v u s3 S2 H2 ρ2,Y8 o1 o2 fa fb fc env S=.ok (.bl false) S2->S0 X pins σ H2 s3 ρ2 S2 env->Stp X.K ρ ρ2 H H2->W v u false s3)
  (hT:∀ v u s3 S2 y vy H2 ρ2,Y8 o1 o2 fa fb fc env S=((fc env S2).bind fun z S=>Xj o2 y z S)->S0 X pins σ H2 s3 ρ2 S2 env->RelV vy u->RD X.K ρ2 H2 y vy->Stp X.K ρ ρ2 H H2->W v u true s3) :
  wpAny (model X.prog X.w) X.A (eval a X.env) (fun v s1=>wpAny (model X.prog X.w) X.A (eval b X.env) (fun u s2=>wpAny (model X.prog X.w) X.A (Vaa (opC o1) v u) (fun d s3=>∃ r,d=.bool r/\W v u r s3) Ev s2) Ev s1) Ev s:=by
 cases q:fa env S with
 | bad=>rw[Y8,q] at nb;exact absurd rfl nb
 | ex n S1=>exact ha.ex I q fun x s' z=>hE x s' ⟨n,S1,by rw[Y8,q];rfl,z⟩
 | ok x S1 =>
  refine ha.ok I q fun v s1 vx H1 ρ1 I1 rv rd st1=>?_
  cases q2:fb env S1 with
  | bad=>rw[Y8,q] at nb;simp only[Rk0] at nb;rw[q2] at nb;exact absurd rfl nb
  | ex n S2=>exact hb.ex I1 q2 fun x s' z=>hE x s' ⟨n,S2,by rw[Y8,q];simp only[Rk0];rw[q2];rfl,z.pre st1⟩
  | ok y S2 =>
   refine hb.ok I1 q2 fun u s2 vy H2 ρ2 I2 ru rdu st2=>?_
   have eq:Y8 o1 o2 fa fb fc env S=(match X0 o1 x y S2 with
     | some true=>(fc env S2).bind fun z S=>Xj o2 y z S
     | some false=>.ok (.bl false) S2
     | none=>.bad):=by rw[Y8,q];simp only[Rk0];rw[q2];rfl
   cases q3:X0 o1 x y S2 with
   | none=>rw[eq,q3] at nb;exact absurd rfl nb
   | some r =>
    have e3:Xj o1 x y S2=.ok (.bl r) S2:=by unfold Xj;rw[q3]
    refine Vj (ho1 pins s2 σ H2 ρ2 S2 env x y vx vy v u (fun _ _=>False) I2 (by rw[e3];exact fun z=>nomatch z) (rd.mono st2) rv rdu ru) (fun d s3 z=>?_) fun _ _ z=>z.elim
    rw[e3] at z;obtain⟨d',S3,e4,w,H3,ρ3,J3,rw3,rd3,sr3,st3⟩:=z;cases e4;simp only[RD] at rd3;subst rd3;cases rw3;refine⟨r,rfl,?_⟩;have I3:S0 X pins σ H3 s3 ρ3 S2 env:=I2.step J3 sr3 st3;cases r with
    | false=>exact hF v u s3 S2 H3 ρ3 (by rw[eq,q3]) I3 (st1.trans (st2.trans st3))
    | true=>exact hT v u s3 S2 y vy H3 ρ3 (by rw[eq,q3]) I3 ru (rdu.mono st3) (st1.trans (st2.trans st3))
theorem Xll(ho2:Op2 X (Vaa (opC o2)) (Xj o2))(hc:DE X c fc)(I:S0 X pins σ H s ρ S env)(ru:RelV vy u)(rd:RD X.K ρ H y vy)(st0:Stp X.K ρ0 ρ H0 H)
  (nb:((fc env S).bind fun z S=>Xj o2 y z S)≠.bad) (hE:∀ x s',ExP X pins σ ρ0 H0 ((fc env S).bind fun z S=>Xj o2 y z S) x s'->Ev x s')
  (hW:∀ r S3 s3 H3 ρ3,((fc env S).bind fun z S=>Xj o2 y z S)=.ok (.bl r) S3->S0 X pins σ H3 s3 ρ3 S3 env->Stp X.K ρ0 ρ3 H0 H3->W (.bool r) s3) :
  wpAny (model X.prog X.w) X.A (eval c X.env) (fun w s1=>wpAny (model X.prog X.w) X.A (Vaa (opC o2) u w) W Ev s1) Ev s:=by
 cases q:fc env S with
 | bad=>rw[q] at nb;exact absurd rfl nb
 | ex n S1=>exact hc.ex I q fun x s' z=>hE x s' ⟨n,S1,by rw[q];rfl,z.pre st0⟩
 | ok z S1 =>
  rw[q] at nb;simp only[Rk0] at nb;refine hc.ok I q fun w s1 vz H1 ρ1 I1 rv rdz st1=>?_
  obtain⟨r,e1,e2⟩:=Xce nb;refine Vj (ho2 pins s1 σ H1 ρ1 S1 env y z vy vz u w (fun _ _=>False) I1 nb (rd.mono st1) ru rdz rv) (fun d s3 zz=>?_) fun _ _ z=>z.elim
  rw[e2] at zz;obtain⟨d',S3,e4,w',H3,ρ3,J3,rw3,rd3,sr3,st3⟩:=zz;cases e4;simp only[RD] at rd3;subst rd3;cases rw3;exact hW r S1 s3 H3 ρ3 (by rw[q];exact e2) (I1.step J3 sr3 st3) (st0.trans (st1.trans st3))
theorem X6f(ho1:Op2 X (Vaa (opC o1)) (Xj o1))(ho2:Op2 X (Vaa (opC o2)) (Xj o2))(ha:DE X a fa)(hb:DE X b fb)(hc:DE X c fc)(hm:lastMarks [opC o1,opC o2] [b,c]=false) :
  DE X (.Compare a [opC o1,opC o2] [b,c] pos) (Y8 o1 o2 fa fb fc):=by
 intro pins s σ H ρ S env I nb;refine Compare_chain (Vj (Xlk (W:=fun v u r s3=>if r=true then wpAny (model X.prog X.w) X.A (compareChain pos u [opC o2] [eval c X.env]) (OkP X pins σ ρ H (Y8 o1 o2 fa fb fc env S)) (ExP X pins σ ρ H (Y8 o1 o2 fa fb fc env S)) s3 else OkP X pins σ ρ H (Y8 o1 o2 fa fb fc env S) (.bool false) s3) ho1 ha hb I nb (fun _ _ z=>z) ?_ ?_)
  (fun v s1 h1=>chain_link (Vj h1 (fun u s2 h2=>Vj h2 (fun d s3 ⟨r,e,w⟩=>?_) fun _ _ z=>z) fun _ _ z=>z)) fun _ _ z=>z) hm
 ·intro v u s3 S2 H2 ρ2 e I2 st2
  rw[if_neg V9,e];exact OkP.pre st2 (Xi I2.sr I2.inv)
 ·intro v u s3 S2 y vy H2 ρ2 e I2 ru rd st2
  rw[if_pos rfl];refine chain_last (Xll ho2 hc I2 ru rd st2 (by rw[<- e];exact nb) (fun x s' z=>by rw[e];exact z) fun r S3 s4 H3 ρ3 e3 I3 st3=>?_)
  rw[e,e3];exact OkP.pre st3 (Xi I3.sr I3.inv)
 ·subst e
  refine Vb6 ?_;cases r with
  | true=>rw[if_pos rfl] at w;exact ite_tt w
  | false=>rw[if_neg V9] at w;exact ite_ff w
theorem X2q(ho1:Op2 X (Vaa (opC o1)) (Xj o1))(ho2:Op2 X (Vaa (opC o2)) (Xj o2))(ha:DE X a fa)(hb:DE X b fb)(hc:DE X c fc)(hm:lastMarks [opC o1,opC o2] [b,c]=false) :
  DT X (.Compare a [opC o1,opC o2] [b,c] pos) (fun env S=>tst (Y8 o1 o2 fa fb fc env S)):=by
 intro pins s σ H ρ S env I nb;dsimp only at nb ⊢;have nb':Y8 o1 o2 fa fb fc env S≠.bad:=fun z=>nb (by rw[z];rfl)
 have ex:∀ x s',ExP X pins σ ρ H (Y8 o1 o2 fa fb fc env S) x s'->ExP X pins σ ρ H (tst (Y8 o1 o2 fa fb fc env S)) x s':=fun x s' ⟨n,S1,e,z⟩=>⟨n,S1,by rw[e];rfl,z⟩
 refine isTrue_chain (Vj (Xlk (W:=fun v u r s3=>if r=true then wpAny (model X.prog X.w) X.A (testChain pos u [opC o2] [eval c X.env]) (fun b s'=>∃ S',tst (Y8 o1 o2 fa fb fc env S)=.ok b S'/\∃ H' ρ',Inv X pins σ H' s'/\SR X.K ρ' S' H'/\Stp X.K ρ ρ' H H') (ExP X pins σ ρ H (tst (Y8 o1 o2 fa fb fc env S))) s3
   else ∃ S',tst (Y8 o1 o2 fa fb fc env S)=.ok false S'/\∃ H' ρ',Inv X pins σ H' s3/\SR X.K ρ' S' H'/\Stp X.K ρ ρ' H H') ho1 ha hb I nb' ex ?_ ?_)
  (fun v s1 h1=>test_link (Vj h1 (fun u s2 h2=>Vj h2 (fun d s3 ⟨r,e,w⟩=>?_) fun _ _ z=>z) fun _ _ z=>z)) fun _ _ z=>z) hm
 ·intro v u s3 S2 H2 ρ2 e I2 st2
  rw[if_neg V9,e];exact⟨S2,rfl,H2,ρ2,I2.inv,I2.sr,st2⟩
 ·intro v u s3 S2 y vy H2 ρ2 e I2 ru rd st2
  rw[if_pos rfl];refine test_last (Xll ho2 hc I2 ru rd st2 (by rw[<- e];exact nb') (fun x s' z=>ex x s' (by rw[e];exact z)) fun r S3 s4 H3 ρ3 e3 I3 st3=>?_)
  exact Vb6 ⟨S3,by rw[e,e3];rfl,H3,ρ3,I3.inv,I3.sr,st3⟩
 ·subst e
  refine Vb6 ?_;cases r with
  | true=>rw[if_pos rfl] at w;exact ite_tt w
  | false=>rw[if_neg V9] at w;exact ite_ff w
variable{x:Str}{p:Pos}{es:List Expr}{g:En->Sto->R (List D)}{k:Bl}{id T:String}
theorem X2r (hB:BlR X k (.builtin id)) (hg:Gl X x) (hm:X.mg x=none) (hv:Vcd x=some (.builtin id)) (ha:DA X (e::es) g) (hn:x ≠ "__name__") (hdb:(x==("__debug__" : Str))=false)
  (he:Vx (e::es) X.env=(false,eval e X.env)::Vx es X.env) (hpl:(backTo pos (Vx es X.env)).any (·.1)=false):DE X (.Call (.Name x p) (e::es) [] pos) (fun env S=>(g env S).bind fun xs S=>Xk k xs S):=by
 intro pins s σ H ρ S env I nb;dsimp only at nb ⊢;refine Vau (Yt I.inv hg hm hv ?_ hn hdb);cases q:g env S with
 | bad=>rw[q] at nb;exact absurd rfl nb
 | ex n S1=>exact Vas (ha.ex I q fun x s' z=>⟨n,S1,rfl,z⟩) he hpl
 | ok ds S1 =>
  rw[q] at nb;refine Vas (ha.ok I q fun us s1 vs H1 ρ1 I1 rv rd st1=>?_) he hpl
  exact Vj (hB pins s1 σ H1 ρ1 S1 env ds vs us (fun _ _=>False) I1 rd rv nb) (fun w s2 z=>z.pre st1) fun _ _ z=>z.elim
theorem X2s (hB:BlR X k (.type T)) (hg:Gl X x) (hm:X.mg x=none) (hv:Vcd x=some (.type T)) (ha:DA X (e::es) g) (hn:x ≠ "__name__") (hdb:(x==("__debug__" : Str))=false)
  (he:Vx (e::es) X.env=(false,eval e X.env)::Vx es X.env) (hpl:(backTo pos (Vx es X.env)).any (·.1)=false):DE X (.Call (.Name x p) (e::es) [] pos) (fun env S=>(g env S).bind fun xs S=>Xk k xs S):=by
 intro pins s σ H ρ S env I nb;dsimp only at nb ⊢;refine Vau (Yt I.inv hg hm hv ?_ hn hdb);cases q:g env S with
 | bad=>rw[q] at nb;exact absurd rfl nb
 | ex n S1=>exact Uh (ha.ex I q fun x s' z=>⟨n,S1,rfl,z⟩) he hpl
 | ok ds S1 =>
  rw[q] at nb;refine Uh (ha.ok I q fun us s1 vs H1 ρ1 I1 rv rd st1=>?_) he hpl
  exact Vj (hB pins s1 σ H1 ρ1 S1 env ds vs us (fun _ _=>False) I1 rd rv nb) (fun w s2 z=>z.pre st1) fun _ _ z=>z.elim
theorem X6g (hg:Gl X x) (hm:X.mg x=some u) (hd:∀ ρ H,∃ v,RelV v u/\RD X.K ρ H d v) (hdb:(x==("__debug__" : Str))=false):DE X (.Name x p) (fun _ S=>.ok d S):=by
 intro pins s σ H ρ S env I nb;obtain⟨v,rv,rd⟩:=hd ρ H;exact Xc5 I.inv hg hm (.mk .refl I.inv rv rd I.sr) hdb
theorem Xlm (slot:Slot "list" name id) (hty:typeOf (.builtin id)=pure (.type "method_descriptor")) (hM:MtD X m id) (hr:∀ x S,Xac m x S=true->∃ n xs,x=.ref n/\Xc S n=some xs) (ho:DE X o fo) (ha:DA X (e::es) g)
  (hbase:attributeBase o name X.env (eval o X.env)=eval o X.env)
  (hfew:((backTo cpos (Vx (e::es) X.env)).all (fun x=>!x.1)&&(backToKw cpos (keywordEach [] X.env)).all (fun x=>x.1.isSome)&&decide ((e::es).length+([]:List Keyword).length+(if ([]:List Keyword).isEmpty then 0 else 1)<30))=true)
  (hline:(apos.endLine==cpos.line)=true) (hs:Vx (e::es) X.env=(false,eval e X.env)::Vx es X.env) (hplain:(backTo cpos (Vx es X.env)).any (·.1)=false) :
  DE X (.Call (.Attribute o name apos) (e::es) [] cpos) (fun env S=>(fo env S).bind fun x S=>if Xac m x S then (g env S).bind fun xs S=>Xag m x xs S else .bad):=by
 intro pins s σ H ρ S env I nb;dsimp only at nb ⊢;cases q:fo env S with
 | bad=>rw[q] at nb;exact absurd rfl nb
 | ex n S1=>exact wpAny_Call_method_late hbase hfew hline rfl (ho.ex I q fun x s' z=>⟨n,S1,rfl,z⟩)
 | ok x S1 =>
  rw[q] at nb;simp only[Rk0] at nb ⊢;split at nb
  ·rename_i hk
   rw[if_pos hk];obtain⟨n,xs,rfl,hx⟩:=hr x S1 hk;refine wpAny_Call_method_late hbase hfew hline rfl (ho.ok I q fun v s1 vx H1 ρ1 I1 rv rd st1=>?_)
   obtain⟨a,ws,rfl,k1,k2,k3⟩:=I1.lstR hx rd;cases rv;obtain⟨its,_,pl,_⟩:=I1.inv.list (.of k2);refine⟨"list",id,PySem.F.plainAttrs_list,slot,hty,pl.isList.typeIs,fun b eb=>?_,?_⟩
   ·cases eb
    obtain⟨ob,n',e1,c1,hd,_⟩:=pl;exact⟨ob,e1,hd⟩
   ·cases q2:g env S1 with
    | bad=>rw[q2] at nb;exact absurd rfl nb
    | ex k S2 =>
     have hA:=ha.ex (pos:=cpos) (E:=ExP X pins σ ρ H (.ex k S2:R D)) (Q:=fun us s2=>wpAny (model X.prog X.w) X.A (call (.builtin id) (.ref a::us)) (OkP X pins σ ρ H (.ex k S2)) (ExP X pins σ ρ H (.ex k S2:R D)) s2) I1 q2 fun x s' z=>.mk st1 z
     rw[hs] at hA ⊢;exact Calls.callWith_builtin (by show(false||(backTo cpos (Vx es X.env)).any (·.1))=false;rw[hplain];rfl) (Vek hA)
    | ok ds S2 =>
     rw[q2] at nb;simp only[Rk0] at nb ⊢;have hA:=ha.ok (pos:=cpos) (E:=ExP X pins σ ρ H (Xag m (.ref n) ds S2)) (Q:=fun us s2=>wpAny (model X.prog X.w) X.A (call (.builtin id) (.ref a::us)) (OkP X pins σ ρ H (Xag m (.ref n) ds S2)) (ExP X pins σ ρ H (Xag m (.ref n) ds S2)) s2) I1 q2 fun us s2 vs H2 ρ2 I2 rvs rds st2 =>
      Vj (hM pins s2 σ H2 ρ2 S2 env (.ref n) (.ref a) (.ref a) ds vs us (fun _ _=>False) I2 (rd.mono st2) rfl rds rvs nb) (fun w s3 z=>z.pre (st1.trans st2)) fun _ _ z=>z.elim
     rw[hs] at hA ⊢;exact Calls.callWith_builtin (by show(false||(backTo cpos (Vx es X.env)).any (·.1))=false;rw[hplain];rfl) (Vek hA)
  ·exact absurd rfl nb
end
section
variable{X:Cx}{pins:List (Addr×Obj)}{σ:L2.St}{H:Hp}{s:Shared}{ρ:List Addr}{S S':Sto}{env:En}
theorem Xln:∀ (ts:List Str) (k:Nat) (acc:Str),(textFrom k acc ts).length<=acc.length+piled ts
 | [],k,acc=>by simp[textFrom,piled]
 | t::ts,k,acc=>by
  have ih:=Xln ts (k+1) (acc++(if k>0 then ", " else "" : String)++t)
  have e:(Ub (if k>0 then ", " else "")).length<=2:=by split<;>decide
  rw[textFrom,piled_cons];simp only[Vff] at ih;omega
mutual
theorem Xlo:∀ p:PyData,p.showable=true->Xan p=true->p.shown.length<=szD p
 | .none,_,_=>by simp only[Vcz,szD];decide
 | .bool b,_,_=>by simp only[Vcz,szD];cases b<;>decide
 | .int i,h,_=>by
  simp only[U2,decide_eq_true_eq] at h;simp only[Vcz,szD];have:=int_text_length_le (by decide) h
  rw[PySem.ofString_length];omega
 | .str x,_,_=>by simp only[Vcz,szD];exact Vh _
 | .list xs,h,h2=>by
  simp only[U2] at h;simp only[Xan] at h2;have ih:=shownAll_le xs h h2;simp only[Vcz,szD,listText,Vff];have:=Xln (Vbq xs) 0 "[";have e1:(Ub "[").length=1:=by decide
  have e2:(Ub "]").length=1:=by decide
  omega
 | .tuple xs,h,h2=>by
  simp only[U2] at h;simp only[Xan] at h2;have ih:=shownAll_le xs h h2;simp only[Vcz,szD,tupleText,Vff];have e1:(Ub "(").length=1:=by decide
  have e2:(Ub (if (Vbq xs).length==1 then ",)" else ")")).length<=2:=by split<;>decide
  have e3:(Str.join ", " (Vbq xs)).length<=piled (Vbq xs):=by
   cases e:Vbq xs with
   | nil=>decide
   | cons t ts=>have:=join_length_add (t::ts) (by simp);omega
  omega
 | .dict kvs,_,h2=>by
  simp only[Xan] at h2;cases kvs with
  | nil=>simp only[Vcz,PyData.shownKv,szD];decide
  | cons x r=>cases h2
theorem shownAll_le:∀ ps:List PyData,Vaw ps=true->dctEs ps=true->piled (Vbq ps)<=szDs ps
 | [],_,_=>by simp[Vbq,szDs,piled]
 | p::ps,h,h2=>by
  simp only[Vaw,bA0] at h;simp only[dctEs,bA0] at h2;have i1:=Xlo p h.1 h2.1;have i2:=shownAll_le ps h.2 h2.2;rw[Vbq,piled_cons,szDs];omega
end
theorem X2t(hsm:∃ o,X.K.lookup Vb7=some o)(hg:X.A.guards=some [])(hu:X.A.units+200<cLine):BlR X .repr (.builtin "repr"):=by
 intro pins s σ H ρ S env ds vs us E I rd rv nb
 match ds,rd,nb with
 | [],_,nb=>exact absurd rfl nb
 | d::_::_,_,nb=>cases d<;>exact absurd rfl nb
 | [d],rd,nb =>
  obtain⟨v,rfl,r1⟩:=rd.one;obtain⟨u,rfl,ru⟩:=rv.one;simp only[Xk] at nb ⊢;cases e:Xfs S d with
  | none=>rw[e] at nb;exact absurd rfl nb
  | some t =>
   dsimp only;unfold Xfs at e;cases e1:Y5 S d with
   | none=>rw[e1] at e;cases e
   | some p =>
    rw[e1] at e;dsimp only at e;split at e
    ·rename_i hz
     simp only[bA0,decide_eq_true_eq] at hz;obtain⟨⟨⟨z1,z2⟩,z3⟩,z4⟩:=hz;cases e;obtain⟨as,rr,hoff⟩:=Xq9 I hsm e1 r1 ru;have hsz:p.shown.length<=Vt:=Yw (Vy (Xlo p z1 z2) z4);have ref:∀ a,u=.ref a->wpAny (model X.prog X.w) X.A (call (.builtin "repr") [u]) (OkP X pins σ ρ H (.ok (.str p.shown) S)) E s:=fun a ea=>by
      subst ea;exact repr_of_reads' rr z1 (fun _=>hoff) hg (by omega) (fun _ _ q=>q) (fun h' u tk hk=>Xex I.sr (I.inv.kept hk)) hsz
     cases rr with
     | none=>exact PySem.P.repr_of_none (Xex I.sr (I.inv.tok _))
     | bool b=>exact PySem.P.repr_of_bool (by cases b<;>exact Xex I.sr (I.inv.tok _))
     | int i t=>exact PySem.P.repr_of_int (by simpa only[U2,decide_eq_true_eq] using z1) (Xex I.sr (I.inv.tok _))
     | str x t=>exact PySem.P.repr_of_str (Xex I.sr (I.inv.tok _)) hsz
     | _=>exact ref _ rfl
    ·cases e
theorem X6h:BlR X .int (.type "int"):=by
 intro pins s σ H ρ S env ds vs us E I rd rv nb
 match ds,rd,nb with
 | [],_,nb=>exact absurd rfl nb
 | d::_::_,_,nb=>cases d<;>exact absurd rfl nb
 | [d],rd,nb =>
  obtain⟨v,rfl,r1⟩:=rd.one;obtain⟨u,rfl,ru⟩:=rv.one;cases d with
  | bl b =>
   simp only[RD] at r1;subst r1;cases ru;simp only[Xk];refine call_int_bool ?_;cases b<;>exact Xad I.sr (I.inv.tok _)
  | _=>exact absurd rfl nb
theorem Xcu:∀ {ns:List Int} {us:List Value},IntsAre us ns->Vals (ns.map V.int) us
 | [],_,.nil=>.nil
 | _::ns,_,.cons n k t=>.cons ⟨_,rfl⟩ (Xcu t)
theorem Xlp:∀ {bs:List Bool} {us:List Value},Vals (bs.map V.bl) us->us=bs.map Vc4
 | [],_,.nil=>rfl
 | b::bs,_,.cons r t=>by cases r;rw[Xlp t];rfl
theorem Xn4{K:Vf}{ρ:List Addr}{H:Hp}:∀ {bs:List Bool} {ws:List V},RDs K ρ H (bs.map D.bl) ws->ws=bs.map V.bl
 | [],ws,h=>by simp only[V2,RDs] at h;exact h
 | b::bs,ws,h=>by
  simp only[V2,RDs] at h;obtain⟨v,r,rfl,h1,h2⟩:=h;simp only[RD] at h1;subst h1;rw[Xn4 h2];rfl
theorem Xrp(I:S0 X pins σ H s ρ S env){n:Nat}{xs:List D}{bs:List Bool}{v:V}(h:Xc S n=some xs)(hb:Yh xs=some bs)(r:RD X.K ρ H (.ref n) v):∃ a k,v=.ref a/\s.heap.get? a=some { cls:=.type "list",data:=.seq (bs.map Vc4).toArray k }:=by
 obtain⟨a,ws,rfl,ha,hv,hr⟩:=I.lstR h r;obtain⟨_,its,k,rv,e⟩:=(show ObjOk X.prog X.w H s.heap a (.lst ws) from I.inv.hok a _ hv);have e1:=Xby hb;subst e1;have e2:=Xn4 hr;subst e2;rw[Xlp rv] at e;exact⟨a,k,rfl,e⟩
theorem Xrq(hk:k=.count\/k=.index)(nb:Xag k d ds S≠.bad):∃ n b,d=.ref n/\ds=[.bl b]:=by
 rcases hk with rfl|rfl<;>(
  cases d with
  | ref n =>
   cases ds with
   | nil=>exact absurd rfl nb
   | cons x r =>
    cases r with
    | nil =>
     cases x with
     | bl b=>exact⟨n,b,rfl,rfl⟩
     | _=>exact absurd rfl nb
    | cons _ _=>cases x<;>exact absurd rfl nb
  | _=>cases ds<;>exact absurd rfl nb)
theorem Xys:MtD X .count "list.count" := by
 intro pins s σ H ρ S env d v u ds vs us E I rd rv rds rvs nb;obtain⟨n,b,rfl,rfl⟩:=Xrq (.inl rfl) nb;obtain⟨y,rfl,r1⟩:=rds.one;simp only[RD] at r1;subst r1;obtain⟨w,rfl,rw1⟩:=rvs.one;cases rw1;simp only[Xag] at nb ⊢;cases e:Xc S n with
 | none=>rw[e] at nb;exact absurd rfl nb
 | some xs =>
  rw[e] at nb;simp only[Vv] at nb ⊢;cases e2:Yh xs with
  | none=>rw[e2] at nb;exact absurd rfl nb
  | some bs =>
   dsimp only;obtain⟨a,k,rfl,ha⟩:=Xrp I e e2 rd;cases rv;refine Vdt PySem.F.slot_list_count ⟨_,ha,rfl⟩ PySem.F.entry_list_count (PySem.F.args_list_count_2 _ _) (SeqAt.list_countAt a _ k none #[] (.bool b) fun y=>match y with | .bool c=>c==b|_=>false) ⟨ha,fun y hy=>?_,?_⟩
   ·have hy':y∈bs.map Vc4:=by simpa using hy
    obtain⟨c,_,rfl⟩:=Vag.mp hy';exact SeqAt.EqAt.bool_bool c b
   ·have ec:(bs.map Vc4).countP (fun y=>match y with | .bool c=>c==b|_=>false)=bs.countP (· == b):=by rw[List.countP_map];rfl
    simp only[List.toList_toArray] at *;rw[ec];exact Xad I.sr (I.inv.tok _)
theorem Xyt:MtD X .index "list.index" := by
 intro pins s σ H ρ S env d v u ds vs us E I rd rv rds rvs nb;obtain⟨n,b,rfl,rfl⟩:=Xrq (.inr rfl) nb;obtain⟨y,rfl,r1⟩:=rds.one;simp only[RD] at r1;subst r1;obtain⟨w,rfl,rw1⟩:=rvs.one;cases rw1;simp only[Xag] at nb ⊢;cases e:Xc S n with
 | none=>rw[e] at nb;exact absurd rfl nb
 | some xs =>
  rw[e] at nb;simp only[Vv] at nb ⊢;cases e2:Yh xs with
  | none=>rw[e2] at nb;exact absurd rfl nb
  | some bs =>
   rw[e2] at nb;dsimp only at nb ⊢;cases e3:bs.findIdx? (· == b) with
   | none=>rw[e3] at nb;exact absurd rfl nb
   | some i =>
    dsimp only;obtain⟨a,k,rfl,ha⟩:=Xrp I e e2 rd;cases rv;obtain⟨hi,h1,h2⟩:=List.findIdx?_eq_some_iff_getElem.mp e3;have hsz:bs.length<=Vt:=by
     obtain⟨a',ws,_,_,hv,hr⟩:=I.lstR e rd;obtain⟨z,_⟩:=(show ObjOk X.prog X.w H s.heap a' (.lst ws) from I.inv.hok a' _ hv);rw[<- hr.length,Xby e2,Vr] at z;exact z
    have hsm:(i:Int)<2^63-1:=by
     have:Vt<2^62:=by decide
     have e62:(2:Int)^63-1=9223372036854775807:=by decide
     have e63:(2:Nat)^62=4611686018427387904:=by decide
     omega
    refine Vdt PySem.F.slot_list_index ⟨_,ha,rfl⟩ PySem.F.entry_list_index (PySem.F.args_list_index_2 _ _) (SeqAt.list_indexAt a (bs.map Vc4).toArray k none #[] (.bool b) (fun y=>match y with | .bool c=>c==b|_=>false) i (by simpa using hi) hsm (by simpa using h1) fun m hm hlt=>?_) ⟨ha,fun y hy=>?_,Xad I.sr (I.inv.tok _)⟩
    ·have:=h2 m hlt
     simpa using this
    ·have hy':y∈bs.map Vc4:=by simpa using hy
     obtain⟨c,_,rfl⟩:=Vag.mp hy';exact SeqAt.EqAt.bool_bool c b
end
section
variable{prog:Program}{w:World}{A:Around}{E:Value->Shared->Prop}{s:Shared}
end
section
variable{X:Cx}{pins:List (Addr×Obj)}{σ:L2.St}{H:Hp}{s:Shared}{ρ:List Addr}{S S':Sto}{env:En}
end
theorem Xlq:∀ (n:Nat) (l:List D) (x:D),Yk n (l++[x])=Yk n l++[.tup [.int (n+l.length:Nat),x]]
 | n,[],x=>by simp only[Uj,Yk,Vel,Vem]
 | n,y::l,x=>by
  have ih:=Xlq (n+1) l x;simp only[Ur,Yk,ih,Ug];have e:n+1+l.length=n+(l.length+1):=by omega
  rw[e]
theorem Xuk(h:a≠b):upd (upd H a o) b u=upd (upd H b u) a o:=by
 funext c
 unfold upd
 by_cases h1:c=a
 ·subst h1;simp[h]
 ·by_cases h2:c=b
  ·subst h2;simp[h1]
  ·simp[h1,h2]
section
variable{prog:Program}{w:World}{A:Around}{E:Value->Shared->Prop}{s:Shared}{k:Bool}{e it a:Addr}{n:Nat}{xs:Array Value}{x:Value}
end
section
variable{X:Cx}{pins:List (Addr×Obj)}{σ:L2.St}{ρ:List Addr}{S:Sto}
theorem Xrr(h:Rd H a u)(hp:H p=none):Rd (upd H p o) a u:=by
 rcases h with h|⟨ob,h⟩
 ·exact .inl ((Xh (Xn h hp)).trans h)
 ·exact .inr ⟨ob,(Xh (Xn h hp)).trans h⟩
theorem Xhm{k:Bool}{K:Vf}{H:Hp}{a p:Addr}{vs:List V}{o:HO}(h:SqH k K H a vs)(hp:H p=none):SqH k K (upd H p o) a vs:=by
 cases k
 ·rcases h with h|h
  ·exact .inl (Xrr h hp)
  ·exact .inr h
 ·rcases h with h|h
  ·exact .inl (Xrr h hp)
  ·exact .inr h
theorem Xlr(h:Xaf X pins H b)(hb:b≠p):Xaf X pins (upd H p o) b:=⟨(Xh hb).trans h.1,h.2⟩
theorem Xjs{R:Result->Shared->Prop}{k:Bool}{xs:List D}{ws:List V}(hA:A.in1.handled=none)(hne:e≠it)(hz:ws.length<=Vt) :
  ∀ (m i:Nat) (s:Shared) (Hb:Hp) (rs:List V),i+m=ws.length->Inv X pins σ (upd Hb L (.lst rs)) s->(∀ b∈[e,it],Xaf X pins (upd Hb L (.lst rs)) b)->EnA s.heap e it i->ItK k s.heap it a i->SqH k X.K Hb a ws->Hb L=none->SR X.K ρ S Hb->RDs X.K ρ Hb xs ws->RDs X.K ρ Hb (Yk 0 (xs.take i)) rs ->
  (∀ s' Hb' rs',Inv X pins σ (upd Hb' L (.lst rs')) s'->Hb' L=none->Stp X.K ρ ρ Hb Hb'->SR X.K ρ S Hb'->RDs X.K ρ Hb' (Yk 0 xs) rs'->R (.ok (.ret res)) s') ->
  codeAny (model X.prog X.w) A (.builtin "list.extend.loop" ⟨[.ref L,.ref e,res],[]⟩) R s
 | 0,i,s,Hb,rs,hm,J,hf,en,io,hsq,hL,sr,rd,rn,hR=>by
  have hlx:xs.length=ws.length:=rd.length;obtain⟨its,rv,p⟩:=Xax J (Xhm hsq hL);have hl:=rv.length;refine codeAny_builtin F.entry_extend_loop ?_;rw[Around.under_plainId Vdg _];show wpAny _ A.in1 (pyNext (.ref e) >>= _) _ _ s;refine Va (Xlf hA en io p (by simp;omega) fun h' kp=>?_)
  have J':Inv X pins σ (upd Hb L (.lst rs)) { s with heap:=h',toks:=s.toks }:=Xbe (t':=s.toks) J hf fun c o hc z=>by
   simp only[Vl,V4,or_false,not_or] at hc;exact kp c o hc.2 z
  have e1:xs.take i=xs:=Vcv (by omega)
  rw[e1] at rn;exact Vg (hR _ Hb rs J' hL .refl sr rn)
 | m+1,i,s,Hb,rs,hm,J,hf,en,io,hsq,hL,sr,rd,rn,hR=>by
  have hlx:xs.length=ws.length:=rd.length;obtain⟨its,rv,p⟩:=Xax J (Xhm hsq hL);have hl:=rv.length;obtain⟨v,hv⟩:∃ v,ws[i]?=some v:=⟨ws[i]'(by omega),Uy _⟩
  obtain⟨x,hx⟩:∃ x,xs[i]?=some x:=⟨xs[i]'(by omega),Uy _⟩
  obtain⟨u,hu,ru⟩:=rv.get hv;have hT:upd Hb L (.lst rs) s.heap.objs.size=none:=J.hok.fresh (Vh _);have hLT:L≠s.heap.objs.size:=fun z=>by rw[<- z,Xz] at hT;cases hT
  have hTb:Hb s.heap.objs.size=none:=by rw[<- Xh (H:=Hb) (o:=.lst rs) (Ne.symm hLT)];exact hT
  have hle:∀ b∈[e,it],b≠L:=fun b hb z=>by have:=(hf b hb).1;rw[z,Xz] at this;cases this
  obtain⟨hrl,acc,c,ra,eo⟩:=(show ObjOk X.prog X.w (upd Hb L (.lst rs)) s.heap L (.lst rs) from J.hok L _ Xz);have hacc:=ra.length;have hrs:rs.length=i:=by
   have:=rn.length;have q:∀ (n:Nat) (l:List D),(Yk n l).length=l.length:=fun n l=>by
    induction l generalizing n with
    | nil=>rfl
    | cons y l ih=>simp only[Yk,Ug,ih]
   rw[q,Vba] at this;omega
  refine codeAny_builtin F.entry_extend_loop ?_;rw[Around.under_plainId Vdg _];show wpAny _ A.in1 (pyNext (.ref e) >>= _) _ _ s;refine Va (Xle hne en io p (x:=u) (by simpa using hu) fun h' en' io' pr kp=>?_)
  have eo':h'.get? L=some { cls:=.type "list",data:=.seq acc.toArray c }:=kp L _ (Ne.symm (hle e (by simp))) (Ne.symm (hle it (by simp))) eo
  show wpAny _ A.in1 (updateSeq L (·.push (.ref s.heap.objs.size)) >>= _) _ _ _;refine Va ?_;have J1:Inv X pins σ (upd (upd Hb L (.lst rs)) s.heap.objs.size (.tup [.int i,v])) { s with heap:=s.heap.push { cls:=.type "tuple",data:=.seq #[.int i s.toks,u] } }:=J.laid (t':=s.toks) (fun c o z=>Vb _ z) (Vh _) ⟨by show 2<=Vt;decide,[.int i s.toks,u],.cons ⟨_,rfl⟩ (.cons ru .nil),⟨_,Vk _ rfl,rfl,_,rfl⟩⟩
  have old:∀ c∈[e,it],c≠s.heap.objs.size:=fun c hc=>by
   simp only[Vl,V4,or_false] at hc;rcases hc with rfl|rfl
   ·obtain⟨f0,f1,o,q,_⟩:=en;exact V5 (Vm q)
   ·obtain⟨o,z,_⟩:=io.obj;exact V5 (Vm z)
  have hf1:∀ c∈[e,it],Xaf X pins (upd (upd Hb L (.lst rs)) s.heap.objs.size (.tup [.int i,v])) c:=fun c hc=>Xlr (hf c hc) (old c hc)
  have J2:Inv X pins σ (upd (upd Hb L (.lst rs)) s.heap.objs.size (.tup [.int i,v])) { s with heap:=h',toks:=s.toks+1 }:=Xbe (s:={ s with heap:=s.heap.push { cls:=.type "tuple",data:=.seq #[.int i s.toks,u] } }) (h':=h') (t':=s.toks+1) J1 hf1 fun c o hc z=>by
   simp only[Vl,V4,or_false,not_or] at hc
   by_cases q:c=s.heap.objs.size
   ·subst q
    have z':=(Vk s.heap (o:={ cls:=.type "tuple",data:=.seq #[.int i s.toks,u] }) rfl).symm.trans z;rw[<- z'];exact pr
   ·exact kp c o hc.1 hc.2 (Xcj z q)
  have hmut:Mut (upd (upd Hb L (.lst rs)) s.heap.objs.size (.tup [.int i,v]) L):=by rw[Xh hLT,Xz];exact trivial
  have eS:=Vbe (U9 (·.push (Vae s.heap.objs.size))) eo' rfl;have oth:∀ b o,b≠L->h'.get? b=some o->(h'.update L (U9 (·.push (Vae s.heap.objs.size)))).get? b=some o:=fun b o hb q=>(Va5 _ _ (Ne.symm hb)).trans q
  have J3:=J2.write (x:=L) (e:=L) (o:=.lst (rs++[.ref s.heap.objs.size])) (t':=s.toks+1) (h':=h'.update L (U9 (·.push (Vae s.heap.objs.size)))) hmut (.inl rfl) (fun b o hb q=>oth b o hb q) ⟨_,eS⟩
   ⟨by rw[Vbx];simp only[Ug,Vel];omega,acc++[.ref s.heap.objs.size],_,ra.append (.cons (show L2.RelV (.ref s.heap.objs.size) (.ref s.heap.objs.size) from rfl) .nil),by rw[eS];simp[U9];rfl⟩
  have eH:upd (upd (upd Hb L (.lst rs)) s.heap.objs.size (.tup [.int i,v])) L (.lst (rs++[.ref s.heap.objs.size]))=upd (upd Hb s.heap.objs.size (.tup [.int i,v])) L (.lst (rs++[.ref s.heap.objs.size])):=by
   rw[Xuk hLT,Xx4]
  rw[eH] at J3;have st:Stp X.K ρ ρ Hb (upd Hb s.heap.objs.size (.tup [.int i,v])):=Stp.upd hTb;have xd:RD X.K ρ Hb x v:=by
   have:=rd.get hx;obtain⟨v',h1,h2⟩:=this;rw[hv] at h1;cases h1;exact h2
  refine Ven eo' rfl (Vg ⟨plainId_quiet Vdg _,Xjs hA hne hz m (i+1) _ (upd Hb s.heap.objs.size (.tup [.int i,v])) (rs++[.ref s.heap.objs.size]) (by omega) J3 (fun b hb=>?_) ?_ ?_ (Xhm hsq hTb) ((Xh hLT).trans hL) (sr.upd hTb) (RDs.mono st _ _ rd) ?_ fun s' Hb' rs' q1 q2 q3 q4 q5=>hR s' Hb' rs' q1 q2 (st.trans q3) q4 q5⟩) (by simp;omega) (by simp;omega)
  ·exact Xlr ⟨(Xh (old b hb)).trans (by have:=(hf b hb).1;rwa [Xh (hle b hb)] at this),(hf b hb).2⟩ (hle b hb)
  ·obtain⟨f0,f1,o,q,q2⟩:=en';exact⟨f0,f1,o,by push_cast;exact oth _ _ (hle e (by simp)) q,q2⟩
  ·exact io'.at fun o q=>oth _ _ (hle it (by simp)) q
  ·have et:xs.take (i+1)=xs.take i++[x]:=by rw[List.take_succ,hx];rfl
   have en2:0+(xs.take i).length=i:=by rw[Vba];omega
   rw[et,Xlq,en2];refine RDs.append (RDs.mono st _ _ rn) ?_;simp only[RDs];refine⟨_,_,rfl,?_,rfl⟩;simp only[RD];refine⟨s.heap.objs.size,[.int i,v],rfl,.of Xz,?_⟩;simp only[RDs];exact⟨_,_,rfl,rfl,_,_,rfl,xd.mono st,rfl⟩
theorem Xrs:typeLookup (.type "enumerate") "__len__" = pure none:=by rw[Veh,Vcy];kernel_rfl
theorem Xpb:typeLookup (.type "enumerate") "__length_hint__" = pure none:=by rw[Veh,Vcy];kernel_rfl
structure Lnm(X:Cx)(pins:List (Addr×Obj))(σ:L2.St)(ρ:List Addr)(S:Sto)(H:Hp)(s:Shared)(k:Bool)(e it a:Addr)(xs:List D)(ws:List V):Prop where
 inv:Inv X pins σ H s
 fp:∀ b∈[e,it],Xaf X pins H b
 en:EnA s.heap e it 0
 io:ItK k s.heap it a 0
 sq:SqH k X.K H a ws
 sr:SR X.K ρ S H
 rd:RDs X.K ρ H xs ws
 ln:ws.length<=Vt
 ne:e≠it
theorem Xrt{R:Result->Shared->Prop}{k:Bool}{xs:List D}{ws:List V}(hA:A.in1.handled=none)(q:Lnm X pins σ ρ S H s k e it a xs ws)
  (hR:∀ s' Hb' rs',Inv X pins σ (upd Hb' s.heap.objs.size (.lst rs')) s'->Hb' s.heap.objs.size=none->Stp X.K ρ ρ H Hb'->SR X.K ρ S Hb'->RDs X.K ρ Hb' (Yk 0 xs) rs'->R (.ok (.ret .none)) s') :
  wpAny (model X.prog X.w) A.in1 (Builtin.«list.__init__» ⟨[.ref s.heap.objs.size,.ref e],[]⟩)
   (fun fin s'=>match fin with | .done f=>R (.ok f) s' | .again c'=>c'.quiet=true/\codeAny (model X.prog X.w) A c' R s') (fun e s'=>R (.error e) s') { s with heap:=s.heap.push { cls:=.type "list",data:=.seq #[] } }:=by
 obtain⟨f0,f1,old,eo,ef⟩:=q.en;have hL:H s.heap.objs.size=none:=q.inv.hok.fresh (Vh _);have hS:(s.heap.push { cls:=.type "list",data:=.seq #[] }).get? s.heap.objs.size=some { cls:=.type "list",data:=.seq #[] }:=Vk _ rfl;generalize hLe:s.heap.objs.size=L at hS hL hR;have he:e≠L:=by rw[<- hLe];exact V5 (Vm eo)
 have hi:it≠L:=by obtain⟨o,z,_⟩:=q.io.obj;rw[<- hLe];exact V5 (Vm z)
 show wpAny _ A.in1 (do let old <- Builtin.List.listItems (.ref L);Builtin.List.listUpdate (.ref L) (fun _=>#[]);letGo old.toList.reverse;Vc3 (.ref L) (.ref e) .none) _ _ _
 refine Va ?_;unfold Builtin.List.listItems;refine Va (Vbf hS rfl (Vg ?_));show wpAny _ A.in1 (updateSeq L (fun _=>#[]) >>= fun _=>letGo (#[]:Array Value).toList.reverse >>= fun _=>Vc3 (.ref L) (.ref e) .none) _ _ _
 refine Va (Ven hS rfl ?_);have hS2:=Vbe (U9 (fun _=>(#[]:Array Value))) hS rfl
 have oth:∀ b o,s.heap.get? b=some o->((s.heap.push { cls:=.type "list",data:=.seq #[] }).update L (U9 (fun _=>(#[]:Array Value)))).get? b=some o :=
  fun b o z=>(Va5 _ _ (fun h:L=b=>by rw[<- h,<- hLe] at z;exact Vb0 _ (Vm z))).trans (Vb _ z)
 refine Va (wpAny_letGo ?_);obtain⟨c2,hS2'⟩:∃ c2,((s.heap.push { cls:=.type "list",data:=.seq #[] }).update L (U9 (fun _=>(#[]:Array Value)))).get? L=some { cls:=.type "list",data:=.seq #[] c2 }:=⟨_,hS2⟩
 clear hS2;generalize (s.heap.push { cls:=.type "list",data:=.seq #[] }).update L (U9 (fun _=>(#[]:Array Value)))=h1 at hS2' oth
 have eo1:=oth _ _ eo;have hT:Shared.TypeIs { s with heap:=h1 } (.ref e) "enumerate" := ⟨_,eo1,rfl⟩
 unfold Vc3;refine Va (Veb hT ?_);have b1:Vfn (.ref L) (.ref e)=false:=by simp[Vfn,Ne.symm he]
 have b2:(Vc5 "enumerate" == Vc5 "list")=false:=by decide
 have b3:(Vc5 "enumerate" == Vc5 "tuple")=false:=by decide
 simp only[b1,b2,b3,Vd4,Ud,if_false];refine Va (Xck ⟨f0,f1,old,eo1,ef⟩ ?_);refine Va (U5 ?_);unfold Builtin.List.listLengthHint;refine Va (wpAny_specialOf hT Xrs ?_);show wpAny _ A.in1 (specialOf (Vae e) (Ub "__length_hint__") >>= _) _ _ _;refine Va (wpAny_specialOf hT Xpb ?_);refine Vg ?_;show wpAny _ A.in1 (rule "list.extend.makes-room" >>= fun _=>Builtin.List.listTouch (.ref L) >>= fun _ =>
  again (.builtin "list.extend.loop" ⟨[.ref L,.ref e,.none],[]⟩)) _ _ _
 refine Va (Vca ?_);refine Va ?_;show wpAny _ A.in1 (updateSeq L (·.push .none) >>= fun _=>updateSeq L (·.pop)) _ _ _
 refine Va (Ven hS2' rfl ?_);have hS3:=Vbe (U9 (·.push Vcm)) hS2' rfl;refine Ven (hz:=by seq_fits) hS3 rfl ?_
 have hS4:=Vbe (U9 (·.pop)) hS3 rfl;have oth2:∀ b o,s.heap.get? b=some o->((h1.update L (U9 (·.push Vcm))).update L (U9 (·.pop))).get? b=some o:=fun b o z=>by
  have hb:L≠b:=fun h=>by rw[<- h,<- hLe] at z;exact Vb0 _ (Vm z)
  exact(Va5 _ _ hb).trans ((Va5 _ _ hb).trans (oth b o z))
 have J:=q.inv.laid (o:=.lst []) (t':=s.toks) (h':=(h1.update L (U9 (·.push Vcm))).update L (U9 (·.pop))) oth2 (Nat.le_of_eq hLe) ⟨Uo _,[],_,.nil,hS4⟩;have eo2:=oth2 _ _ eo;refine Vg ⟨plainId_quiet Vdg _,Xjs hA q.ne q.ln ws.length 0 _ H [] (Vcg _) J (fun b hb=>Xlr (q.fp b hb) ?_) ⟨_,_,_,eo2,ef⟩ (q.io.at fun o z=>oth2 _ _ z) q.sq hL q.sr q.rd ?_ hR⟩
 ·simp only[Vl,V4,or_false] at hb
  rcases hb with rfl|rfl
  ·exact he
  ·exact hi
 ·simp only[List.take_zero,Yk,RDs]
theorem Xru{k:Bool}{xs:List D}{ws:List V}{E:Value->Shared->Prop}(hh:X.A.handled=none)(q:Lnm X pins σ ρ S H s k e it a xs ws) :
  wpAny (model X.prog X.w) X.A (call (.type "list") [.ref e]) (OkP X pins σ ρ H (.ok (.ref S.length) (S++[.lst (Yk 0 xs)]))) E s:=by
 refine callType_codes (Q₁:=fun obj s₁=>obj=.ref s.heap.objs.size/\s₁={ s with heap:=s.heap.push { cls:=.type "list",data:=.seq #[] } }) F.called_list (F.typeCall_list_1 _) F.entry_list_init
  (code_list_new _ ⟨rfl,rfl⟩) fun obj s₁ h₁=>?_
 obtain⟨rfl,rfl⟩:=h₁;have hS:(s.heap.push { cls:=.type "list",data:=.seq #[] }).get? s.heap.objs.size=some { cls:=.type "list",data:=.seq #[] }:=Vk _ rfl;refine⟨⟨_,hS,rfl⟩,F.args_list_init_2 _ _,Xrt (show X.A.in1.in1.handled=none from hh) q fun s' Hb rs J hL st sr rd=>?_⟩
 exact⟨rfl,(Xbr J hL sr rd).pre st⟩
theorem Xul(I:Inv X pins σ H s)(h:SqH k X.K H a vs):vs.length<=Vt:=by
 cases k
 ·obtain⟨its,rv,p,z⟩:=I.tuple h;exact z
 ·obtain⟨its,rv,p,z⟩:=I.list h;exact z
theorem X2u (hc:X.calm=true) (hgl:Gl X "list") (hml:X.mg "list" = none) (hge:Gl X "enumerate") (hme:X.mg "enumerate" = none) (ha:DE X a f) (hs:Vx [a] X.env=(false,eval a X.env)::Vx [] X.env) :
  DE X (.Call (.Name "list" p) [.Call (.Name "enumerate" p2) [a] [] pos2] [] pos) (fun env S=>(f env S).bind fun x S=>match Xq S x with|some xs=>.ok (.ref S.length) (S++[.lst (Yk 0 xs)])|none=>.bad):=by
 intro pins s σ H ρ S env I nb;dsimp only at nb ⊢;refine Vau (Yt I.inv hgl hml (u:=.type "list") (by decide+kernel) (Uh (Vfj ?_ rfl) rfl rfl) (by decide) rfl)
 refine Vau (Yt I.inv hge hme (u:=.type "enumerate") (by decide+kernel) (Uh (Vfj ?_ hs) hs rfl) (by decide) rfl)
 cases q:f env S with
 | bad=>rw[q] at nb;exact absurd rfl nb
 | ex n S1=>exact ha.ex I q fun x s' z=>⟨n,S1,rfl,z⟩
 | ok d S1 =>
  rw[q] at nb;simp only[Rk0] at nb ⊢;cases e:Xq S1 d with
  | none=>rw[e] at nb;exact absurd rfl nb
  | some xs =>
   dsimp only;refine ha.ok I q fun u s1 v H1 ρ1 I1 rv rd st1=>Vfk ?_
   obtain⟨b,ws,rfl,hq,hr⟩:=I1.seq e rd;cases rv;obtain⟨k,hk⟩:∃ k,SqH k X.K H1 b ws:=by
    rcases hq with hq|hq
    ·exact⟨true,hq⟩
    ·exact⟨false,hq⟩
   obtain⟨its,rvs,pk⟩:=Xax I1.inv hk;refine Xn1 pk fun h' st kp=>Vfk ?_
   have J:Inv X pins σ H1 { s1 with heap:=h' }:=I1.inv.kept (t':=s1.toks) kp
   have L:Lnm X pins σ ρ1 S1 H1 { s1 with heap:=h' } k (s1.heap.objs.size+1) s1.heap.objs.size b xs ws:=⟨J,fun c hb=>by
    have hb':s1.heap.objs.size<=c:=by
     simp only[Vl,V4,or_false] at hb;rcases hb with rfl|rfl
     ·exact Nat.le_succ _
     ·exact Vh _
    exact I1.inv.fpOk hb' (I1.inv.hok.fresh hb'),st.eo,st.io,hk,I1.sr,hr,Xul I1.inv hk,Nat.succ_ne_self _⟩
   exact Vj (Xru (E:=fun _ _=>False) (I1.inv.ok.hd hc) L) (fun w s2 z=>z.pre st1) fun _ _ z=>z.elim
end
noncomputable def Xpc(sc:Scope)(x:Str):Bool:=match sc.names.lookup x with
 | some .local=>true
 | some .cell=>true
 | some .free=>true
 | _=>false
noncomputable def glB(sc:Scope)(x:Str):Bool:=match sc.names.lookup x with
 | some .globalImplicit=>true
 | _=>false
noncomputable def Xft(top:Str->Bool)(sc:Scope)(x:Str):Bool:=match sc.names.lookup x with
 | some .local=>true
 | some .cell=>top x
 | _=>false
noncomputable def Y9(x:Str):Bool:=!(x==("__debug__" : Str)) && !(x==("__classdict__" : Str)) && !decide (x = "__name__")
theorem Xyu(h:Xpc sc x=true):Vis sc x:=by
 unfold Xpc at h;split at h
 ·exact .inl (by assumption)
 ·exact .inr (.inl (by assumption))
 ·exact .inr (.inr (by assumption))
 ·cases h
theorem Y1(hs:X.env.scope=sc)(h:glB sc x=true):Gl X x:=by
 subst hs;unfold glB at h;split at h
 ·assumption
 ·cases h
theorem Xc6{X:Cx}{top:Str->Bool}{sc:Scope}{x:Str}(hs:X.env.scope=sc)(ht:∀ x,top x=true->X.fn x=true)(h:Xft top sc x=true):Loc X.env.scope x/\(X.fn x=true\/X.env.scope.names.lookup x=some .local):=by
 subst hs;unfold Xft at h;split at h
 ·exact⟨.inl (by assumption),.inr (by assumption)⟩
 ·exact⟨.inr (by assumption),.inl (ht x h)⟩
 ·cases h
theorem Xat(h:Y9 x=true):(x==("__debug__" : Str))=false/\(x==("__classdict__" : Str))=false/\x ≠ "__name__" := by
 simp only[Y9,bA0,Var,decide_eq_false_iff_not] at h;exact⟨h.1.1,h.1.2,h.2⟩
noncomputable def Yu:Expr->Bool
 | .Starred _ _=>false
 | _=>true
theorem Xp(h:Yu e=true):Vx (e::es) env=(false,eval e env)::Vx es env:=by
 cases e<;>first|rfl|cases h
theorem Xah(h:es.all Yu=true):(backTo pos (Vx es env)).any (·.1)=false:=by
 induction es with
 | nil=>rfl
 | cons e es ih =>
  rw[Val,bA0] at h;rw[Xp h.1];show(false||(backTo pos (Vx es env)).any (·.1))=false;rw[ih h.2];rfl
theorem Xum(h:es.all Yu=true):(backTo pos (Vx es env)).all (fun x=>!x.1)=true:=by
 induction es with
 | nil=>rfl
 | cons e es ih =>
  rw[Val,bA0] at h;rw[Xp h.1];show(true&&(backTo pos (Vx es env)).all (fun x=>!x.1))=true
  rw[ih h.2];rfl
noncomputable def Xc7:Expr->Bool
 | .Name _ _=>true
 | .Constant _ _ _=>true
 | .BinOp _ _ _ _=>true
 | .UnaryOp _ _ _=>true
 | .Call _ _ _ _=>true
 | .Subscript _ _ _=>true
 | .IfExp _ _ _ _=>true
 | .Compare _ _ _ _=>true
 | _=>false
theorem Xpd(h:Xc7 b=true):Xhj b:=by
 cases b<;>first|(intro o i;rfl)|cases h
noncomputable def Xbl:Expr->Bool
 | .Set _ _ _=>false
 | _=>true
theorem Xdy(h:Xbl e=true)(x:Value):Vaq e env x=pure x:=by
 cases e<;>first|rfl|cases h
noncomputable def Xpe:Expr->Bool
 | .Name _ _=>true
 | .Subscript _ _ _=>true
 | .Constant _ _ _=>true
 | _=>false
theorem Xhn(h:Xpe o=true):attributeBase o name env (eval o env)=eval o env:=by
 cases o<;>first|rfl|cases h
noncomputable def Xpf(c:Co)(o:CmpOp):Bool:=decide (o=opC c)
theorem Xho{c:Co}{o:CmpOp}(h:Xpf c o=true):o=opC c:=of_decide_eq_true h
noncomputable def Xpg(c:Bo)(o:Operator):Bool:=decide (o=opB c)
theorem Xn5{c:Bo}{o:Operator}(h:Xpg c o=true):o=opB c:=of_decide_eq_true h
noncomputable def Xhp:D->Const->Bool
 | .int i,.int j=>i==j
 | .bl i,.bool j=>i==j
 | .non,.none=>true
 | .str i,.str j=>decide (i=j)
 | _,_=>false
noncomputable def Xph:Bl->Option (Str×Bool×String)
 | .len=>some ("len",true,"len")
 | .tuple=>some ("tuple",false,"tuple")
 | .list=>some ("list",false,"list")
 | .all=>some ("all",true,"all")
 | .sum=>some ("sum",true,"sum")
 | .max=>some ("max",true,"max")
 | .min=>some ("min",true,"min")
 | .repr=>some ("repr",true,"repr")
 | .int=>some ("int",false,"int")
noncomputable def Xpi:Bl->Bool
 | .len=>true
 | .tuple=>true
 | .list=>true
 | .repr=>true
 | .int=>true
 | _=>false
noncomputable def X2v:Tg->Bool
 | .var _=>true
 | _=>false
noncomputable def tyB(sc:Scope)(t:Ty)(nm:Str):Bool:=match t with
 | .cls c=>decide (Xbi c=some nm)
 | .int=>decide (nm = "int")
 | .bool=>decide (nm = "bool")
 | .str=>decide (nm = "str")
 | .tuple=>decide (nm = "tuple")
 | .list=>decide (nm = "list")
 | .dict=>decide (nm = "dict")
 | .valueError=>decide (nm = "ValueError")
noncomputable def Xls:Ty->Bool
 | .cls _=>false
 | .valueError=>false
 | _=>true
noncomputable def tyM(sc:Scope)(ts:List Ty)(y:Expr):Bool:=match y with
 | .Name nm _=>glB sc nm&&Y9 nm&&(match ts with|[t]=>tyB sc t nm|_=>false)
 | .Tuple ys _ _=>(match ys with
  | [.Name n1 _,.Name n2 _]=>glB sc n1&&Y9 n1&&glB sc n2&&Y9 n2&&(match ts with|[t1,t2]=>Xls t1&&Xls t2&&tyB sc t1 n1&&tyB sc t2 n2|_=>false)
  | _=>false)
 | _=>false
noncomputable def X79:Mt->Option Str
 | .append=>some "append"
 | .count=>some "count"
 | .index=>some "index"
noncomputable def Xfu(scope sc:Scope):Scope:={ scope with names:=scope.names.map fun(n,k)=>if (k == .free&&sc.kind == .function&&sc.names.lookup n==some .cell) then (n,.cell) else (n,k) }
noncomputable def Xaa(scope:Scope):List Str:=scope.names.filterMap fun x=>match x.2 with
 | .local=>some x.1
 | .cell=>some x.1
 | _=>none
noncomputable def Xbt(N N2:List Str)(x:Str):Bool:=(N2.drop N.length).contains x
theorem Xyv(h:Xbt N (Xao N own) x=true):own.contains x=true:=by
 unfold Xbt Xao at h;rw[List.drop_left' (by simp)] at h
 exact h
noncomputable def Xpj(k:ScopeKind):Bool:=match k with
 | .function=>true
 | _=>false
theorem Xhq(h:Xpj k=true):k=.function:=by cases k<;>first|rfl|cases h
noncomputable def Xlt(k:Option Vct):Bool:=match k with
 | some .cell=>true
 | some .free=>true
 | _=>false
noncomputable def Xcw(k:Option Vct):Bool:=match k with
 | some .local=>true
 | _=>false
noncomputable def Xed:List Str->Bool
 | []=>true
 | x::r=>!(r.contains x)&&Xed r
theorem Xee:∀ {l:List Str},Xed l=true->l.Nodup
 | [],_=>List.nodup_nil
 | x::r,h=>by
  simp only[Xed,bA0,Var,List.contains_eq_mem] at h;exact Vdi.mpr ⟨by simpa using h.1,Xee h.2⟩
noncomputable def scB(outer sc:Scope)(N:List Str):Bool :=
 Xpj sc.kind&&Xpj outer.kind&&Xed (Xao N (Xaa sc)) &&
 sc.names.all (fun y=>match y.2 with | .free=>Xlt (outer.names.lookup y.1) && !(Xaa sc).contains y.1 | .local=>Xcw (sc.names.lookup y.1)|_=>true) &&
 N.all (fun y=>!((Xaa sc).contains y)||(sc.names.lookup (Ub "0" ++ y)).isNone)
theorem Xrv(h:scB outer sc N=true):ScOk outer sc N (Xaa sc):=by
 simp only[scB,bA0] at h;obtain⟨⟨⟨⟨h1,h2⟩,h3⟩,h5⟩,h6⟩:=h;have hfr:∀ y∈sc.names,y.2=.free->Xlt (outer.names.lookup y.1)=true/\y.1 ∉ Xaa sc:=fun y hy hf=>by
  have:=Uv.mp h5 y hy;rw[hf] at this
  simpa using this
 have hcel:∀ y∈sc.names,y.2=.cell->y.1∈Xaa sc:=fun y hy hk=>Vdl.mpr ⟨y,hy,by rw[hk]⟩
 refine⟨Xhq h1,Xhq h2,Xee h3,hcel,fun y hy hf=>(hfr y hy hf).2,fun y hy hf=>?_,fun y hy=>?_,fun x hx hl=>?_,fun y hy hc=>?_⟩
 ·have:=(hfr y hy hf).1
  unfold Xlt at this;split at this
  ·exact .inl (by assumption)
  ·exact .inr (by assumption)
  ·cases this
 ·exact Vdl.mpr ⟨(y,.local),Xca hy,rfl⟩
 ·have:=Uv.mp h5 x hx
  rw[hl] at this;dsimp only at this;unfold Xcw at this;split at this
  ·assumption
  ·cases this
 ·have:=Uv.mp h6 y hy
  rw[hc] at this;simp only[Bool.not_true,Bool.false_or,Option.isNone_iff_eq_none] at this;exact this
noncomputable def Xpk:It->Bool
 | .zpp _=>true
 | .enm _=>true
 | .ezp _=>true
 | _=>false
noncomputable def Xdz(t:Tg)(it:It):Bool:=!Xpk it || !X2v t
noncomputable def Xun:Expr->Bool
 | .Name _ _=>true
 | .Subscript _ _ _=>true
 | _=>false
noncomputable def mnC(i:Int)(e:Expr):Bool:=match e with
 | .UnaryOp .USub x _=>(match x with
  | .Constant (.int j) _ _=>i==j
  | _=>false)
 | _=>false
noncomputable def Xhr(i:Int)(l:Option Int)(e:Expr):Bool:=match e with
 | .Slice lo none (some st) _=>mnC i st&&(match l,lo with
  | none,none=>true
  | some k,some x=>mnC k x
  | _,_=>false)
 | _=>false
theorem Xd{α:Type}{o:Option α}{p:α->Bool}(h:o.any p=true):∃ x,o=some x/\p x=true:=by
 cases o with
 | none=>cases h
 | some x=>exact⟨x,rfl,h⟩
noncomputable def vNm(e:Expr):Option Str:=match e with
 | .Name x _=>some x
 | _=>none
theorem Xay{e:Expr}{x:Str}(h:vNm e=some x):∃ p,e=.Name x p:=by
 unfold vNm at h;split at h
 ·cases h;exact⟨_,rfl⟩
 ·cases h
noncomputable def Xuo(e:Expr):Option Const:=match e with
 | .Constant c _ _=>some c
 | _=>none
theorem Xyw{e:Expr}{x:Const}(h:Xuo e=some x):∃ k p,e=.Constant x k p:=by
 unfold Xuo at h;split at h
 ·cases h;exact⟨_,_,rfl⟩
 ·cases h
noncomputable def vUn(e:Expr):Option (UnaryOp×Expr):=match e with
 | .UnaryOp o x _=>some (o,x)
 | _=>none
theorem Xrw{e:Expr}{z:UnaryOp×Expr}(h:vUn e=some z):∃ p,e=.UnaryOp z.1 z.2 p:=by
 unfold vUn at h;split at h
 ·cases h;exact⟨_,rfl⟩
 ·cases h
noncomputable def X2w(o:UnaryOp):Bool:=decide (o=.USub)
theorem Xyx(h:X2w o=true):o=.USub:=of_decide_eq_true h
noncomputable def X2x(o:UnaryOp):Bool:=decide (o=.Not)
theorem Xyy(h:X2x o=true):o=.Not:=of_decide_eq_true h
noncomputable def Xef(e:Expr):Option (List Expr):=match e with
 | .Tuple xs _ _=>some xs
 | _=>none
theorem Xa3{e:Expr}{x:List Expr}(h:Xef e=some x):∃ k p,e=.Tuple x k p:=by
 unfold Xef at h;split at h
 ·cases h;exact⟨_,_,rfl⟩
 ·cases h
noncomputable def Xup(e:Expr):Option (List Expr):=match e with
 | .List xs _=>some xs
 | _=>none
theorem Xyz{e:Expr}{x:List Expr}(h:Xup e=some x):∃ p,e=.List x p:=by
 unfold Xup at h;split at h
 ·cases h;exact⟨_,rfl⟩
 ·cases h
noncomputable def Xuq(e:Expr):Option (Expr×Operator×Expr):=match e with
 | .BinOp x o y _=>some (x,o,y)
 | _=>none
theorem Xy0{e:Expr}{z:Expr×Operator×Expr}(h:Xuq e=some z):∃ p,e=.BinOp z.1 z.2.1 z.2.2 p:=by
 unfold Xuq at h;split at h
 ·cases h;exact⟨_,rfl⟩
 ·cases h
noncomputable def Xur{α:Type}(l:List α):Option (α×α):=match l with
 | [x,y]=>some (x,y)
 | _=>none
theorem Xy1{α:Type}{l:List α}{z:α×α}(h:Xur l=some z):l=[z.1,z.2]:=by
 unfold Xur at h;split at h
 ·cases h;rfl
 ·cases h
noncomputable def Xc3{α:Type}(l:List α):Option α:=match l with
 | [x]=>some x
 | _=>none
theorem Xbf{α:Type}{l:List α}{x:α}(h:Xc3 l=some x):l=[x]:=by
 unfold Xc3 at h;split at h
 ·cases h;rfl
 ·cases h
noncomputable def Xfv{α:Type}(l:List α):Option (α×α):=match l with
 | [x,y]=>some (x,y)
 | _=>none
theorem Xc8{α:Type}{l:List α}{z:α×α}(h:Xfv l=some z):l=[z.1,z.2]:=by
 unfold Xfv at h;split at h
 ·cases h;rfl
 ·cases h
noncomputable def Xpl(e:Expr):Option (Expr×List CmpOp×List Expr):=match e with
 | .Compare x os ys _=>some (x,os,ys)
 | _=>none
theorem Xn6{e:Expr}{z:Expr×List CmpOp×List Expr}(h:Xpl e=some z):∃ p,e=.Compare z.1 z.2.1 z.2.2 p:=by
 unfold Xpl at h;split at h
 ·cases h;exact⟨_,rfl⟩
 ·cases h
noncomputable def Xlu(e:Expr):Option (BoolOp×List Expr×Pos):=match e with
 | .BoolOp o xs p=>some (o,xs,p)
 | _=>none
theorem Xy2{e:Expr}{z:BoolOp×List Expr×Pos}(h:Xlu e=some z):e=.BoolOp z.1 z.2.1 z.2.2:=by
 unfold Xlu at h;split at h
 ·cases h;rfl
 ·cases h
noncomputable def opA(an:Bool):BoolOp:=if an then .And else .Or
noncomputable def Xpm(an:Bool)(o:BoolOp):Bool:=decide (o=opA an)
theorem Xy3{an:Bool}{o:BoolOp}(h:Xpm an o=true):o=opA an:=of_decide_eq_true h
noncomputable def Xlv(an:Bool)(p:Pos)(l:List Expr):Option (Expr×Expr):=match l with
 | [x,y]=>some (x,y)
 | x::y::z::r=>some (x,.BoolOp (opA an) (y::z::r) p)
 | _=>none
theorem Xy4(h:Xlv an p l=some z):l=[z.1,z.2]\/∃ y y2 r,l=z.1::y::y2::r/\z.2=.BoolOp (opA an) (y::y2::r) p:=by
 unfold Xlv at h;split at h
 ·cases h;exact .inl rfl
 ·cases h;exact .inr ⟨_,_,_,rfl,rfl⟩
 ·cases h
noncomputable def vIf(e:Expr):Option (Expr×Expr×Expr):=match e with
 | .IfExp x y z _=>some (x,y,z)
 | _=>none
theorem X2y{e:Expr}{z:Expr×Expr×Expr}(h:vIf e=some z):∃ p,e=.IfExp z.1 z.2.1 z.2.2 p:=by
 unfold vIf at h;split at h
 ·cases h;exact⟨_,rfl⟩
 ·cases h
noncomputable def Xfw(e:Expr):Option (Expr×Expr):=match e with
 | .Subscript x y _=>some (x,y)
 | _=>none
theorem Xc9{e:Expr}{z:Expr×Expr}(h:Xfw e=some z):∃ p,e=.Subscript z.1 z.2 p:=by
 unfold Xfw at h;split at h
 ·cases h;exact⟨_,rfl⟩
 ·cases h
noncomputable def Xus(e:Expr):Option (Option Expr×Option Expr):=match e with
 | .Slice l h none _=>some (l,h)
 | _=>none
theorem Xy5(h:Xus e=some z):∃ p,e=.Slice z.1 z.2 none p:=by
 unfold Xus at h;split at h
 ·cases h;exact⟨_,rfl⟩
 ·cases h
noncomputable def Xaz(e:Expr):Option (Expr×Expr×List Expr×Pos):=match e with
 | .Call f (y::ys) [] p=>some (f,y,ys,p)
 | _=>none
theorem Xhs{e:Expr}{z:Expr×Expr×List Expr×Pos}(h:Xaz e=some z):e=.Call z.1 (z.2.1::z.2.2.1) [] z.2.2.2:=by
 unfold Xaz at h;split at h
 ·cases h;rfl
 ·cases h
noncomputable def Xpn(e:Expr):Option (Expr×Str×Pos):=match e with
 | .Attribute o nm p=>some (o,nm,p)
 | _=>none
theorem Xy6(h:Xpn e=some z):e=.Attribute z.1 z.2.1 z.2.2:=by
 unfold Xpn at h;split at h
 ·cases h;rfl
 ·cases h
noncomputable def vLC(e:Expr):Option (Expr×List Va9×Scope):=match e with
 | .ListComp e gens scope _=>some (e,gens,scope)
 | _=>none
theorem X2z{e:Expr}{z:Expr×List Va9×Scope}(h:vLC e=some z):∃ p,e=.ListComp z.1 z.2.1 z.2.2 p:=by
 unfold vLC at h;split at h
 ·cases h;exact⟨_,rfl⟩
 ·cases h
section
variable(cm:Bool)(fns:List (Str×Nat×Bool))(gns:List Str)
noncomputable def mtT(top:Str->Bool)(sc:Scope)(N:List Str):Tg->Expr->Bool
 | .var i,e=>(vNm e).any fun x=>decide (N[i]?=some x)&&Xft top sc x
 | .tup is,e=>(Xef e).any fun es=>namesB is es
 | .nst i is,e=>(Xef e).any fun es=>(Xur es).any fun z=>((vNm z.1).any fun x=>decide (N[i]?=some x)&&Xft top sc x)&&(Xef z.2).any fun es=>namesB is es
where namesB:List Nat->List Expr->Bool
 | [],[]=>true
 | i::is,e::es=>((vNm e).any fun x=>decide (N[i]?=some x)&&Xft top sc x)&&namesB is es
 | _,_=>false
noncomputable def fnB(f:Nat)(x:Str)(n:Nat):Bool:=match fns[f]? with
 | some (nm,ar,fl)=>decide (nm=x)&&decide (ar=n)&&(cm || !fl)
 | none=>false
noncomputable def blB(k:Bl)(x:Str):Bool:=match Xph k with
 | some (nm,_,_)=>decide (x=nm)
 | none=>false
noncomputable def mtB(k:Mt)(nm:Str):Bool:=match X79 k with
 | some m=>decide (nm=m)
 | none=>false
mutual
noncomputable def mt(sc:Scope)(N:List Str):Ex->Expr->Bool
 | .nev,_=>true
 | .var i,e=>(vNm e).any fun x=>decide (N[i]?=some x)&&Xpc sc x&&Y9 x
 | .cst d,e=>(Xuo e).any fun c=>Xhp d c
 | .neg a,e=>(vUn e).any fun z=>X2w z.1&&mt sc N a z.2
 | .glb k,e=>(vNm e).any fun x=>decide (gns[k]?=some x)&&glB sc x&&Y9 x
 | .tup es,e=>(Xef e).any fun xs=>mts sc N es xs
 | .lst es,e=>(Xup e).any fun xs=>mts sc N es xs
 | .isi a ts,e=>(Xaz e).any fun z=>(vNm z.1).any fun(f:Str)=>decide (f = "isinstance")&&glB sc f&&Yu z.2.1&&mt sc N a z.2.1&&(Xc3 z.2.2.1).any fun y=>tyM sc ts y
 | .bin op a b,e=>(Xuq e).any fun z=>Xpg op z.2.1&&mt sc N a z.1&&mt sc N b z.2.2
 | .cmp op a b,e=>(Xpl e).any fun z=>(Xc3 z.2.1).any fun o=>(Xc3 z.2.2).any fun y=>Xpf op o && !(behindInMarks (opC op) y)&&mt sc N a z.1&&mt sc N b y
 | .chn o1 o2 a b c,e=>(Xpl e).any fun z=>(Xfv z.2.1).any fun o=>(Xfv z.2.2).any fun y=>Xpf o1 o.1&&Xpf o2 o.2 && !(lastMarks [opC o1,opC o2] [y.1,y.2])&&mt sc N a z.1&&mt sc N b y.1&&mt sc N c y.2
 | .and a b,e=>(Xlu e).any fun z=>Xpm true z.1&&(Xlv true z.2.2 z.2.1).any fun y=>mt sc N a y.1&&mt sc N b y.2
 | .or a b,e=>(Xlu e).any fun z=>Xpm false z.1&&(Xlv false z.2.2 z.2.1).any fun y=>mt sc N a y.1&&mt sc N b y.2
 | .not a,e=>(vUn e).any fun z=>X2x z.1&&mt sc N a z.2
 | .ite c a b,e=>(vIf e).any fun z=>mt sc N c z.1&&mt sc N a z.2.1&&mt sc N b z.2.2
 | .idx a i,e=>(Xfw e).any fun z=>Xc7 z.2&&mt sc N a z.1&&mt sc N i z.2
 | .call f es,e=>(Xaz e).any fun z=>(vNm z.1).any fun x=>fnB cm fns f x (z.2.1::z.2.2.1).length&&glB sc x&&Y9 x&&mts sc N es (z.2.1::z.2.2.1)
 | .blt k es,e=>(Xaz e).any fun z=>(vNm z.1).any fun x=>blB k x&&(cm||Xpi k)&&glB sc x&&Y9 x&&mts sc N es (z.2.1::z.2.2.1)
 | .mth k o es,e=>(Xaz e).any fun z=>(Xpn z.1).any fun x=>mtB k x.2.1&&Xpe x.1&&(x.2.2.endLine==z.2.2.2.line)&&decide ((z.2.1::z.2.2.1).length<29)&&mt sc N o x.1&&mts sc N es (z.2.1::z.2.2.1)
 | .cmr k n gs elt,e=>(vLC e).any fun z=>cm && !k&&decide ((Xaa z.2.2).length=n)&&scB sc z.2.2 N&&mtG sc N (Xfu z.2.2 sc) (Xao N (Xaa z.2.2)) gs z.2.1&&mt (Xfu z.2.2 sc) (Xao N (Xaa z.2.2)) elt z.1
 | .sli a lo hi,e=>(Xfw e).any fun z=>(Xus z.2).any fun y=>mt sc N a z.1&&mto sc N lo y.1&&mto sc N hi y.2
 | .cal f es,e=>(Xaz e).any fun z=>cm&&Xun z.1&&mt sc N f z.1&&mts sc N es (z.2.1::z.2.2.1)
 | .rev a,e=>(Xfw e).any fun z=>Xhr 1 none z.2&&mt sc N a z.1
 | .rv2 k a,e=>(Xfw e).any fun z=>Xhr 2 (if k then some 2 else none) z.2&&mt sc N a z.1
 | .lenm a,e=>(Xaz e).any fun z=>(vNm z.1).any fun(x:Str)=>decide (x = "list")&&cm&&glB sc x&&z.2.2.1.isEmpty&&(Xaz z.2.1).any fun y=>(vNm y.1).any fun(x2:Str)=>decide (x2 = "enumerate")&&glB sc x2&&y.2.2.1.isEmpty&&Yu y.2.1&&mt sc N a y.2.1
noncomputable def mto(sc:Scope)(N:List Str):Op->Option Expr->Bool
 | .none,none=>true
 | .some e,some x=>mt sc N e x
 | _,_=>false
noncomputable def mts(sc:Scope)(N:List Str):Exs->List Expr->Bool
 | .nil,[]=>true
 | .cons e es,x::xs=>Yu x&&mt sc N e x&&mts sc N es xs
 | _,_=>false
noncomputable def mtG(sc:Scope)(N:List Str)(sc2:Scope)(N2:List Str):Gens->List Va9->Bool
 | .cons t it ifs .nil,[⟨tg,iter,cs,a⟩]=>(a==0)&&Xbl iter&&mtT (Xbt N N2) sc2 N2 t tg&&mtI sc N it iter&&mts sc2 N2 ifs cs&&Xdz t it
 | .cons t it ifs (.cons t2 it2 ifs2 .nil),[⟨tg,iter,cs,a⟩,⟨tg2,iter2,cs2,a2⟩]=>(a==0)&&(a2==0)&&Xbl iter&&Xbl iter2&&mtT (Xbt N N2) sc2 N2 t tg&&mtI sc N it iter&&mts sc2 N2 ifs cs&&mtT (Xbt N N2) sc2 N2 t2 tg2&&mtI sc2 N2 it2 iter2&&mts sc2 N2 ifs2 cs2&&Xdz t it&&Xdz t2 it2
 | _,_=>false
noncomputable def mtI(sc:Scope)(N:List Str):It->Expr->Bool
 | .val e,x=>mt sc N e x
 | .rng es,e=>(Xaz e).any fun z=>(vNm z.1).any fun(x:Str)=>decide (x = "range")&&glB sc x&&mts sc N es (z.2.1::z.2.2.1)
 | .zpp es,e=>(Xaz e).any fun z=>(vNm z.1).any fun(x:Str)=>decide (x = "zip")&&glB sc x&&mts sc N es (z.2.1::z.2.2.1)
 | .enm es,e=>(Xaz e).any fun z=>(vNm z.1).any fun(x:Str)=>decide (x = "enumerate")&&glB sc x&&mts sc N es (z.2.1::z.2.2.1)
 | .ezp es,e=>(Xaz e).any fun z=>(vNm z.1).any fun(x:Str)=>decide (x = "enumerate")&&glB sc x&&z.2.2.1.isEmpty&&(Xaz z.2.1).any fun z=>(vNm z.1).any fun(x:Str)=>decide (x = "zip")&&glB sc x&&mts sc N es (z.2.1::z.2.2.1)
end
end
section
variable{cm:Bool}{fns:List (Str×Nat×Bool)}{gns:List Str}{sc sc2:Scope}{N N2:List Str}{t t2:Tg}{it it2:It}{ifs ifs2:Exs}
theorem X6i(h:mtG cm fns gns sc N sc2 N2 .nil gens=true):False:=by
 cases h
theorem X6j(h:mtG cm fns gns sc N sc2 N2 (.cons t it ifs .nil) gens=true):∃ tg iter cs,gens=[⟨tg,iter,cs,0⟩]/\Xbl iter=true/\mtT (Xbt N N2) sc2 N2 t tg=true/\mtI cm fns gns sc N it iter=true/\mts cm fns gns sc2 N2 ifs cs=true/\Xdz t it=true:=by
 match gens,h with
 | [⟨tg,iter,cs,a⟩],h =>
  simp only[mtG,bA0,beq_iff_eq] at h;obtain⟨⟨⟨⟨⟨h1,h2⟩,h3⟩,h4⟩,h5⟩,h6⟩:=h;subst h1;exact⟨tg,iter,cs,rfl,h2,h3,h4,h5,h6⟩
 | [],h=>cases h
 | ⟨_,_,_,_⟩::_::_,h=>cases h
theorem X6k(h:mtG cm fns gns sc N sc2 N2 (.cons t it ifs (.cons t2 it2 ifs2 .nil)) gens=true):∃ tg iter cs tg2 iter2 cs2,gens=[⟨tg,iter,cs,0⟩,⟨tg2,iter2,cs2,0⟩]/\Xbl iter=true/\Xbl iter2=true/\mtT (Xbt N N2) sc2 N2 t tg=true/\mtI cm fns gns sc N it iter=true/\mts cm fns gns sc2 N2 ifs cs=true/\mtT (Xbt N N2) sc2 N2 t2 tg2=true/\mtI cm fns gns sc2 N2 it2 iter2=true/\mts cm fns gns sc2 N2 ifs2 cs2=true/\Xdz t it=true/\Xdz t2 it2=true:=by
 match gens,h with
 | [⟨tg,iter,cs,a⟩,⟨tg2,iter2,cs2,a2⟩],h =>
  simp only[mtG,bA0,beq_iff_eq] at h;obtain⟨⟨⟨⟨⟨⟨⟨⟨⟨⟨⟨h1,h2⟩,h3⟩,h4⟩,h5⟩,h6⟩,h7⟩,h8⟩,h9⟩,h10⟩,h11⟩,h12⟩:=h;subst h1 h2;exact⟨tg,iter,cs,tg2,iter2,cs2,rfl,h3,h4,h5,h6,h7,h8,h9,h10,h11,h12⟩
 | [],h=>cases h
 | [⟨_,_,_,_⟩],h=>cases h
 | ⟨_,_,_,_⟩::⟨_,_,_,_⟩::_::_,h=>cases h
theorem X6l(h:mtG cm fns gns sc N sc2 N2 (.cons t it ifs (.cons t2 it2 ifs2 (.cons t3 it3 ifs3 gs3))) gens=true):False:=by
 match gens,h with
 | [],h=>cases h
 | [⟨_,_,_,_⟩],h=>cases h
 | ⟨_,_,_,_⟩::⟨_,_,_,_⟩::_ ,h=>cases h
theorem Xb3{e:Expr}{q:Expr×Expr×List Expr×Pos->Str->Bool}(h:((Xaz e).any fun z=>(vNm z.1).any fun x=>q z x)=true):∃ x p y ys cp,e=.Call (.Name x p) (y::ys) [] cp/\q (.Name x p,y,ys,cp) x=true:=by
 obtain⟨⟨f,y,ys,cp⟩,h1,h2⟩:=Xd h;obtain⟨x,h3,h4⟩:=Xd h2;have e1:=Xhs h1;subst e1;have h3':vNm f=some x:=h3;obtain⟨p,e2⟩:=Xay h3';subst e2;exact⟨x,p,y,ys,cp,rfl,h4⟩
theorem X20{i:Nat}{e:Expr}(h:mt cm fns gns sc N (.var i) e=true):∃ x p,e=.Name x p/\N[i]?=some x/\Xpc sc x=true/\Y9 x=true:=by
 simp only[mt] at h;obtain⟨x,h1,h2⟩:=Xd h;obtain⟨p,rfl⟩:=Xay h1;simp only[bA0,decide_eq_true_eq] at h2;exact⟨x,p,rfl,h2.1.1,h2.1.2,h2.2⟩
theorem X21{d:D}{e:Expr}(h:mt cm fns gns sc N (.cst d) e=true):∃ c k p,e=.Constant c k p/\Xhp d c=true:=by
 simp only[mt] at h;obtain⟨c,h1,h2⟩:=Xd h;obtain⟨k,p,rfl⟩:=Xyw h1;exact⟨c,k,p,rfl,h2⟩
theorem X22{a:Ex}{e:Expr}(h:mt cm fns gns sc N (.neg a) e=true):∃ x p,e=.UnaryOp .USub x p/\mt cm fns gns sc N a x=true:=by
 simp only[mt] at h;obtain⟨⟨o,x⟩,h1,h2⟩:=Xd h;obtain⟨p,rfl⟩:=Xrw h1;rw[bA0] at h2;have e1:=Xyx h2.1;dsimp only at e1;subst e1;exact⟨x,p,rfl,h2.2⟩
theorem X23{a:Ex}{e:Expr}(h:mt cm fns gns sc N (.not a) e=true):∃ x p,e=.UnaryOp .Not x p/\mt cm fns gns sc N a x=true:=by
 simp only[mt] at h;obtain⟨⟨o,x⟩,h1,h2⟩:=Xd h;obtain⟨p,rfl⟩:=Xrw h1;rw[bA0] at h2;have e1:=Xyy h2.1;dsimp only at e1;subst e1;exact⟨x,p,rfl,h2.2⟩
theorem X24{k:Nat}{e:Expr}(h:mt cm fns gns sc N (.glb k) e=true):∃ x p,e=.Name x p/\gns[k]?=some x/\glB sc x=true/\Y9 x=true:=by
 simp only[mt] at h;obtain⟨x,h1,h2⟩:=Xd h;obtain⟨p,rfl⟩:=Xay h1;simp only[bA0,decide_eq_true_eq] at h2;exact⟨x,p,rfl,h2.1.1,h2.1.2,h2.2⟩
theorem X25{es:Exs}{e:Expr}(h:mt cm fns gns sc N (.tup es) e=true):∃ xs k p,e=.Tuple xs k p/\mts cm fns gns sc N es xs=true:=by
 simp only[mt] at h;obtain⟨x,h1,h2⟩:=Xd h;obtain⟨k,p,rfl⟩:=Xa3 h1;exact⟨x,k,p,rfl,h2⟩
theorem X26{es:Exs}{e:Expr}(h:mt cm fns gns sc N (.lst es) e=true):∃ xs p,e=.List xs p/\mts cm fns gns sc N es xs=true:=by
 simp only[mt] at h;obtain⟨x,h1,h2⟩:=Xd h;obtain⟨p,rfl⟩:=Xyz h1;exact⟨x,p,rfl,h2⟩
theorem X27{op:Bo}{a b:Ex}{e:Expr}(h:mt cm fns gns sc N (.bin op a b) e=true):∃ x y p,e=.BinOp x (opB op) y p/\mt cm fns gns sc N a x=true/\mt cm fns gns sc N b y=true:=by
 simp only[mt] at h;obtain⟨⟨x,o,y⟩,h1,h2⟩:=Xd h;obtain⟨p,rfl⟩:=Xy0 h1;simp only[bA0] at h2;have e1:=Xn5 h2.1.1;subst e1;exact⟨x,y,p,rfl,h2.1.2,h2.2⟩
theorem X28{op:Co}{a b:Ex}{e:Expr}(h:mt cm fns gns sc N (.cmp op a b) e=true):∃ x y p,e=.Compare x [opC op] [y] p/\behindInMarks (opC op) y=false/\mt cm fns gns sc N a x=true/\mt cm fns gns sc N b y=true:=by
 simp only[mt] at h;obtain⟨⟨x,os,ys⟩,h1,h2⟩:=Xd h;obtain⟨o,h3,h4⟩:=Xd h2;obtain⟨y,h5,h6⟩:=Xd h4;obtain⟨p,rfl⟩:=Xn6 h1;have e1:os=[o]:=Xbf h3;have e2:ys=[y]:=Xbf h5;subst e1 e2;simp only[bA0,Var] at h6;have e3:=Xho h6.1.1.1;subst e3;exact⟨x,y,p,rfl,h6.1.1.2,h6.1.2,h6.2⟩
theorem X29{o1 o2:Co}{a b c:Ex}{e:Expr}(h:mt cm fns gns sc N (.chn o1 o2 a b c) e=true):∃ x y z p,e=.Compare x [opC o1,opC o2] [y,z] p/\lastMarks [opC o1,opC o2] [y,z]=false/\mt cm fns gns sc N a x=true/\mt cm fns gns sc N b y=true/\mt cm fns gns sc N c z=true:=by
 simp only[mt] at h;obtain⟨⟨x,os,ys⟩,h1,h2⟩:=Xd h;obtain⟨⟨p1,p2⟩,h3,h4⟩:=Xd h2;obtain⟨⟨y,z⟩,h5,h6⟩:=Xd h4;obtain⟨p,rfl⟩:=Xn6 h1;have e1:os=[p1,p2]:=Xc8 h3;have e2:ys=[y,z]:=Xc8 h5;subst e1 e2;rw[bA0,bA0,bA0,bA0,bA0,Var] at h6;obtain⟨⟨⟨⟨⟨k1,k2⟩,k3⟩,k4⟩,k5⟩,k6⟩:=h6;have e3:=Xho k1;have e4:=Xho k2;dsimp only at e3 e4;subst e3 e4;exact⟨x,y,z,p,rfl,k3,k4,k5,k6⟩
theorem Xn7{an:Bool}{a b:Ex}{e:Expr}(h:((Xlu e).any fun z=>Xpm an z.1&&(Xlv an z.2.2 z.2.1).any fun y=>mt cm fns gns sc N a y.1&&mt cm fns gns sc N b y.2)=true) :
  (∃ x y p,e=.BoolOp (opA an) [x,y] p/\mt cm fns gns sc N a x=true/\mt cm fns gns sc N b y=true)\/∃ x y z r p,e=.BoolOp (opA an) (x::y::z::r) p/\mt cm fns gns sc N a x=true/\mt cm fns gns sc N b (.BoolOp (opA an) (y::z::r) p)=true:=by
 obtain⟨⟨o,xs,p⟩,h1,h2⟩:=Xd h;have e1:=Xy2 h1;subst e1;rw[bA0] at h2;have e2:=Xy3 h2.1;dsimp only at e2;subst e2;obtain⟨⟨x,y⟩,h3,h4⟩:=Xd h2.2;rw[bA0] at h4;rcases Xy4 h3 with e3|⟨y1,y2,r,e3,e4⟩
 ·dsimp only at e3
  subst e3;exact .inl ⟨x,y,p,rfl,h4.1,h4.2⟩
 ·dsimp only at e3 e4
  subst e3 e4;exact .inr ⟨x,y1,y2,r,p,rfl,h4.1,h4.2⟩
theorem X3a(h:mt cm fns gns sc N (.and a b) e=true):(∃ x y p,e=.BoolOp .And [x,y] p/\mt cm fns gns sc N a x=true/\mt cm fns gns sc N b y=true)\/∃ x y z r p,e=.BoolOp .And (x::y::z::r) p/\mt cm fns gns sc N a x=true/\mt cm fns gns sc N b (.BoolOp .And (y::z::r) p)=true:=by
 simp only[mt] at h;exact Xn7 (an:=true) h
theorem X6m(h:mt cm fns gns sc N (.or a b) e=true):(∃ x y p,e=.BoolOp .Or [x,y] p/\mt cm fns gns sc N a x=true/\mt cm fns gns sc N b y=true)\/∃ x y z r p,e=.BoolOp .Or (x::y::z::r) p/\mt cm fns gns sc N a x=true/\mt cm fns gns sc N b (.BoolOp .Or (y::z::r) p)=true:=by
 simp only[mt] at h;exact Xn7 (an:=false) h
theorem X3b{c a b:Ex}{e:Expr}(h:mt cm fns gns sc N (.ite c a b) e=true):∃ x y z p,e=.IfExp x y z p/\mt cm fns gns sc N c x=true/\mt cm fns gns sc N a y=true/\mt cm fns gns sc N b z=true:=by
 simp only[mt] at h;obtain⟨⟨x,y,z⟩,h1,h2⟩:=Xd h;obtain⟨p,rfl⟩:=X2y h1;simp only[bA0] at h2;exact⟨x,y,z,p,rfl,h2.1.1,h2.1.2,h2.2⟩
theorem X3c{a i:Ex}{e:Expr}(h:mt cm fns gns sc N (.idx a i) e=true):∃ x y p,e=.Subscript x y p/\Xc7 y=true/\mt cm fns gns sc N a x=true/\mt cm fns gns sc N i y=true:=by
 simp only[mt] at h;obtain⟨⟨x,y⟩,h1,h2⟩:=Xd h;obtain⟨p,rfl⟩:=Xc9 h1;simp only[bA0] at h2;exact⟨x,y,p,rfl,h2.1.1,h2.1.2,h2.2⟩
theorem Xrx{k:Bool}{n:Nat}{gs:Gens}{elt:Ex}{e:Expr}(h:mt cm fns gns sc N (.cmr k n gs elt) e=true):∃ ee gens scope p,e=.ListComp ee gens scope p/\cm=true/\k=false/\(Xaa scope).length=n/\scB sc scope N=true/\mtG cm fns gns sc N (Xfu scope sc) (Xao N (Xaa scope)) gs gens=true/\mt cm fns gns (Xfu scope sc) (Xao N (Xaa scope)) elt ee=true:=by
 simp only[mt] at h;obtain⟨⟨ee,gens,scope⟩,h1,h2⟩:=Xd h;obtain⟨p,rfl⟩:=X2z h1;simp only[bA0,decide_eq_true_eq,Var] at h2;obtain⟨⟨⟨⟨⟨h0,h1⟩,h2⟩,h3⟩,h4⟩,h5⟩:=h2;exact⟨ee,gens,scope,p,rfl,h0,h1,h2,h3,h4,h5⟩
theorem Xy7(h:mt cm fns gns sc N (.lenm a) e=true):∃ p p2 x cp cp2,e=.Call (.Name "list" p) [.Call (.Name "enumerate" p2) [x] [] cp2] [] cp/\cm=true/\glB sc "list" = true/\glB sc "enumerate" = true/\Yu x=true/\mt cm fns gns sc N a x=true:=by
 simp only[mt] at h;obtain⟨x,p,y,ys,cp,rfl,h1⟩:=Xb3 h;rw[bA0,bA0,bA0,bA0] at h1;obtain⟨⟨⟨⟨e1,e2⟩,e3⟩,e4⟩,h2⟩:=h1;obtain⟨x2,p2,y2,ys2,cp2,rfl,h3⟩:=Xb3 h2;rw[bA0,bA0,bA0,bA0] at h3;obtain⟨⟨⟨⟨f1,f2⟩,f3⟩,f4⟩,f5⟩:=h3;have e1':=of_decide_eq_true e1;have f1':=of_decide_eq_true f1;subst e1' f1';have e4':=Vbc.mp e4;have f3':=Vbc.mp f3;dsimp only at e4' f3';subst e4' f3';exact⟨p,p2,y2,cp,cp2,rfl,e2,e3,f2,f4,f5⟩
theorem X3d(h:mt cm fns gns sc N (.blt k es) e=true):∃ x p y ys cp,e=.Call (.Name x p) (y::ys) [] cp/\blB k x=true/\(cm||Xpi k)=true/\glB sc x=true/\Y9 x=true/\mts cm fns gns sc N es (y::ys)=true:=by
 simp only[mt] at h;obtain⟨x,p,y,ys,cp,rfl,h1⟩:=Xb3 h;rw[bA0,bA0,bA0,bA0] at h1;exact⟨x,p,y,ys,cp,rfl,h1.1.1.1.1,h1.1.1.1.2,h1.1.1.2,h1.1.2,h1.2⟩
theorem Xy8{k:Nat}(h:mt cm fns gns sc N (.call k es) e=true):∃ x p y ys cp,e=.Call (.Name x p) (y::ys) [] cp/\(∃ fl,fns[k]?=some (x,(y::ys).length,fl)/\(fl=true->cm=true))/\glB sc x=true/\Y9 x=true/\mts cm fns gns sc N es (y::ys)=true:=by
 simp only[mt] at h;obtain⟨x,p,y,ys,cp,rfl,h1⟩:=Xb3 h;rw[bA0,bA0,bA0] at h1;refine⟨x,p,y,ys,cp,rfl,?_,h1.1.1.2,h1.1.2,h1.2⟩;have h2:=h1.1.1.1;unfold fnB at h2;split at h2
 ·rename_i nm ar fl e
  simp only[bA0,decide_eq_true_eq,Va0,Var] at h2;obtain⟨⟨rfl,rfl⟩,h2⟩:=h2;exact⟨fl,e,fun z=>by rcases h2 with h2|h2;exact h2;rw[z] at h2;cases h2⟩
 ·cases h2
theorem X3e{k:Mt}{o:Ex}{es:Exs}{e:Expr}(h:mt cm fns gns sc N (.mth k o es) e=true):∃ ox nm ap y ys cp,e=.Call (.Attribute ox nm ap) (y::ys) [] cp/\mtB k nm=true/\Xpe ox=true/\(ap.endLine==cp.line)=true/\(y::ys).length<29/\mt cm fns gns sc N o ox=true/\mts cm fns gns sc N es (y::ys)=true:=by
 simp only[mt] at h;obtain⟨⟨f,y,ys,cp⟩,h1,h2⟩:=Xd h;obtain⟨⟨ox,nm,ap⟩,h3,h4⟩:=Xd h2;have e1:=Xhs h1;subst e1;have h3':Xpn f=some (ox,nm,ap):=h3;have e2:=Xy6 h3';subst e2;rw[bA0,bA0,bA0,bA0,bA0] at h4;exact⟨ox,nm,ap,y,ys,cp,rfl,h4.1.1.1.1.1,h4.1.1.1.1.2,h4.1.1.1.2,of_decide_eq_true h4.1.1.2,h4.1.2,h4.2⟩
theorem X3f{a:Ex}{ts:List Ty}{e:Expr}(h:mt cm fns gns sc N (.isi a ts) e=true):∃ p0 x y cp,e=.Call (.Name "isinstance" p0) [x,y] [] cp/\glB sc "isinstance" = true/\Yu x=true/\mt cm fns gns sc N a x=true/\tyM sc ts y=true:=by
 simp only[mt] at h;obtain⟨f,p,y,ys,cp,rfl,h1⟩:=Xb3 h;rw[bA0,bA0,bA0,bA0] at h1;obtain⟨⟨⟨⟨h2,h3⟩,h4⟩,h5⟩,h6⟩:=h1;have e1:f = "isinstance" := of_decide_eq_true h2;subst e1;obtain⟨y2,h7,h8⟩:=Xd h6;have e2:ys=[y2]:=Xbf h7;subst e2;exact⟨p,y,y2,cp,rfl,h3,h4,h5,h8⟩
theorem X3g(h:tyM sc ts y=true):(∃ t nm p,ts=[t]/\y=.Name nm p/\glB sc nm=true/\Y9 nm=true/\tyB sc t nm=true) \/
  ∃ t1 t2 n1 n2 p1 p2 k p,ts=[t1,t2]/\y=.Tuple [.Name n1 p1,.Name n2 p2] k p/\glB sc n1=true/\Y9 n1=true/\glB sc n2=true/\Y9 n2=true/\Xls t1=true/\Xls t2=true/\tyB sc t1 n1=true/\tyB sc t2 n2=true:=by
 unfold tyM at h;split at h
 ·simp only[bA0] at h
  obtain⟨⟨h1,h2⟩,h3⟩:=h;split at h3
  ·exact .inl ⟨_,_,_,rfl,rfl,h1,h2,h3⟩
  ·cases h3
 ·split at h
  ·simp only[bA0] at h
   obtain⟨⟨⟨⟨h1,h2⟩,h3⟩,h4⟩,h5⟩:=h;split at h5
   ·simp only[bA0] at h5
    obtain⟨⟨⟨h6,h7⟩,h8⟩,h9⟩:=h5;exact .inr ⟨_,_,_,_,_,_,_,_,rfl,rfl,h1,h2,h3,h4,h6,h7,h8,h9⟩
   ·cases h5
  ·cases h
 ·cases h
theorem X3h{a:Ex}{lo hi:Op}{e:Expr}(h:mt cm fns gns sc N (.sli a lo hi) e=true):∃ x l u p2 p,e=.Subscript x (.Slice l u none p2) p/\mt cm fns gns sc N a x=true/\mto cm fns gns sc N lo l=true/\mto cm fns gns sc N hi u=true:=by
 simp only[mt] at h;obtain⟨⟨x,y⟩,h1,h2⟩:=Xd h;obtain⟨⟨l,u⟩,h3,h4⟩:=Xd h2;obtain⟨p,rfl⟩:=Xc9 h1;obtain⟨p2,e2⟩:=Xy5 h3;dsimp only at e2;subst e2;simp only[bA0] at h4;exact⟨x,l,u,p2,p,rfl,h4.1.1,h4.1.2,h4.2⟩
theorem Xkf{w:Str}{es:Exs}{e:Expr}(h:((Xaz e).any fun z=>(vNm z.1).any fun x=>decide (x=w)&&glB sc x&&mts cm fns gns sc N es (z.2.1::z.2.2.1))=true):∃ p y ys cp,e=.Call (.Name w p) (y::ys) [] cp/\glB sc w=true/\mts cm fns gns sc N es (y::ys)=true:=by
 obtain⟨x,p,y,ys,cp,rfl,h1⟩:=Xb3 h;rw[bA0,bA0] at h1;have e1:x=w:=of_decide_eq_true h1.1.1;subst e1;exact⟨p,y,ys,cp,rfl,h1.1.2,h1.2⟩
theorem Xy9(h:mtI cm fns gns sc N (.zpp es) e=true):∃ p y ys cp,e=.Call (.Name "zip" p) (y::ys) [] cp/\glB sc "zip" = true/\mts cm fns gns sc N es (y::ys)=true:=by
 simp only[mtI] at h;exact Xkf h
theorem Xza(h:mtI cm fns gns sc N (.enm es) e=true):∃ p y ys cp,e=.Call (.Name "enumerate" p) (y::ys) [] cp/\glB sc "enumerate" = true/\mts cm fns gns sc N es (y::ys)=true:=by
 simp only[mtI] at h;exact Xkf h
theorem Xzb(h:mtI cm fns gns sc N (.ezp es) e=true):∃ p cp q y ys cq,e=.Call (.Name "enumerate" p) [.Call (.Name "zip" q) (y::ys) [] cq] [] cp/\glB sc "enumerate" = true/\glB sc "zip" = true/\mts cm fns gns sc N es (y::ys)=true:=by
 simp only[mtI] at h;obtain⟨x,p,y,ys,cp,rfl,h1⟩:=Xb3 h;rw[bA0,bA0,bA0] at h1;obtain⟨⟨⟨a1,a2⟩,a3⟩,a4⟩:=h1;have e1:x = "enumerate" := of_decide_eq_true a1;have e2:ys=[]:=Vbc.mp a3;subst e1 e2;obtain⟨q,z,zs,cq,rfl,b1,b2⟩:=Xkf a4;exact⟨p,cp,q,z,zs,cq,rfl,a2,b1,b2⟩
theorem Xzc(h:mtI cm fns gns sc N (.rng es) e=true):∃ p y ys cp,e=.Call (.Name "range" p) (y::ys) [] cp/\glB sc "range" = true/\mts cm fns gns sc N es (y::ys)=true:=by
 simp only[mtI] at h;exact Xkf h
theorem X3i{f:Ex}{es:Exs}{e:Expr}(h:mt cm fns gns sc N (.cal f es) e=true):∃ fx y ys cp,e=.Call fx (y::ys) [] cp/\cm=true/\Xun fx=true/\mt cm fns gns sc N f fx=true/\mts cm fns gns sc N es (y::ys)=true:=by
 simp only[mt] at h;obtain⟨⟨fx,y,ys,cp⟩,h1,h2⟩:=Xd h;have e1:=Xhs h1;subst e1;rw[bA0,bA0,bA0] at h2;exact⟨fx,y,ys,cp,rfl,h2.1.1.1,h2.1.1.2,h2.1.2,h2.2⟩
theorem X3j{a:Ex}{e:Expr}(h:mt cm fns gns sc N (.rev a) e=true):∃ x y p,e=.Subscript x y p/\Xhr 1 none y=true/\mt cm fns gns sc N a x=true:=by
 simp only[mt] at h;obtain⟨⟨x,y⟩,h1,h2⟩:=Xd h;obtain⟨p,rfl⟩:=Xc9 h1;rw[bA0] at h2;exact⟨x,y,p,rfl,h2.1,h2.2⟩
theorem X3k{k:Bool}{a:Ex}{e:Expr}(h:mt cm fns gns sc N (.rv2 k a) e=true):∃ x y p,e=.Subscript x y p/\Xhr 2 (if k then some 2 else none) y=true/\mt cm fns gns sc N a x=true:=by
 simp only[mt] at h;obtain⟨⟨x,y⟩,h1,h2⟩:=Xd h;obtain⟨p,rfl⟩:=Xc9 h1;rw[bA0] at h2;exact⟨x,y,p,rfl,h2.1,h2.2⟩
theorem Xgm{top:Str->Bool}{tg:Expr}(h1:Xdz t it=true)(h2:mtT top sc N t tg=true)(h3:Xpk it=true):∃ es k p,tg=.Tuple es k p:=by
 unfold Xdz at h1;rw[h3] at h1;cases t with
 | var i=>cases h1
 | tup is =>
  simp only[mtT] at h2;obtain⟨es,h4,_⟩:=Xd h2;obtain⟨k,p,rfl⟩:=Xa3 h4;exact⟨es,k,p,rfl⟩
 | nst i is =>
  simp only[mtT] at h2;obtain⟨es,h4,_⟩:=Xd h2;obtain⟨k,p,rfl⟩:=Xa3 h4;exact⟨es,k,p,rfl⟩
end
noncomputable def blts:List Str:=["len","tuple","list","all","any","sum","max","min","range","isinstance","sorted","set","str","repr","zip","enumerate","abs","ValueError","int","bool","dict"]
noncomputable def bmV:List Value:=[.type "ValueError",.type "Exception",.type "BaseException",.type "object"]
noncomputable def Xut(K:Vf):Bool :=
 (K.lookup Vb7).isSome&&PySem.W.specialIn K (.builtin "object.__class__") "__get__" == some (some (.builtin "getset_descriptor.__get__"))&&PySem.W.takesIn K (.builtin "object.__class__")==some true &&
 (Vc clsNames.length).all fun c=>match Xak K c with
  | some C=>Vd6 K C bmV "ValueError.__new__" && (Vc0 K (.ref C) "__getattribute__" == some (some (.builtin "BaseException.__getattribute__"))&&Vc0 K (.ref C) "__getattr__" == some none&&PySem.W.mroIn K C (.type "BaseException")==some true)&&(PySem.W.clsIn K C).isSome&&Vc0 K (.ref C) "__class__" == some (some (.builtin "object.__class__"))&&PySem.W.mroIn K C (.type "object")==some true &&
   Vdv K (.ref C) (.type "ValueError")==some true&&(Vc clsNames.length).all fun c0=>match Xak K c0 with
    | some C0=>Vdv K (.ref C) (.ref C0)==some (c0==0||c0==c)&&(!(c0==0||c0==c)||PySem.W.exmOne K (.ref C) (.ref C0)==some true)
    | none=>true
  | none=>(Xbi c).isNone
structure ErrOk(K:Vf):Prop where
 sm:∃ o,K.lookup Vb7=some o
 gt:PySem.W.specialIn K (.builtin "object.__class__") "__get__" = some (some (.builtin "getset_descriptor.__get__"))
 tk:PySem.W.takesIn K (.builtin "object.__class__")=some true
 at_:∀ c nm,Xbi c=some nm->∃ C,Xak K c=some C/\U6 K Vz nm=some (some (.ref C))
 cls:∀ c C,Xak K c=some C->Vd6 K C bmV "ValueError.__new__" = true/\(Vc0 K (.ref C) "__getattribute__" = some (some (.builtin "BaseException.__getattribute__"))/\Vc0 K (.ref C) "__getattr__" = some none/\PySem.W.mroIn K C (.type "BaseException")=some true)/\(PySem.W.clsIn K C).isSome=true/\Vc0 K (.ref C) "__class__" = some (some (.builtin "object.__class__"))/\PySem.W.mroIn K C (.type "object")=some true/\Vdv K (.ref C) (.type "ValueError")=some true
 sub:∀ c C c0 C0,Xak K c=some C->Xak K c0=some C0->Vdv K (.ref C) (.ref C0)=some (c0==0||c0==c)/\((c0==0||c0==c)=true->PySem.W.exmOne K (.ref C) (.ref C0)=some true)
theorem Xfx{K:Vf}{c:Nat}{C:Addr}(h:Xak K c=some C):c<clsNames.length:=by
 unfold Xak at h;cases q:Xbi c with
 | none=>rw[q] at h;cases h
 | some _=>exact Xk4 q
theorem Xzd{K:Vf}(h:Xut K=true):ErrOk K:=by
 simp only[Xut,bA0,beq_iff_eq,Uv,Vbd] at h;obtain⟨⟨⟨h0,h1⟩,h2⟩,h3⟩:=h;refine⟨Vbn.mp h0,h1,h2,fun c nm e=>?_,fun c C e=>?_,fun c C c0 C0 e e0=>?_⟩
 ·have:=h3 c (Xk4 e)
  split at this
  ·rename_i C q
   refine⟨C,q,?_⟩;unfold Xak at q;rw[e,Vv] at q;split at q
   ·rename_i q2;cases q;exact q2
   ·cases q
  ·rw[e] at this;cases this
 ·have:=h3 c (Xfx e)
  rw[e] at this;simp only[bA0,beq_iff_eq] at this;obtain⟨⟨⟨⟨⟨⟨a1,⟨⟨a2,a2'⟩,a2''⟩⟩,a3⟩,a4⟩,a5⟩,a6⟩,_⟩:=this;exact⟨a1,⟨a2,a2',a2''⟩,a3,a4,a5,a6⟩
 ·have:=h3 c (Xfx e)
  rw[e] at this;simp only[bA0,beq_iff_eq,Uv,Vbd] at this;have z:=this.2 c0 (Xfx e0);rw[e0] at z;simp only[bA0,beq_iff_eq,Va0,Var] at z;refine⟨z.1,fun y=>?_⟩
  rcases z.2 with z2|z2
  ·rw[y] at z2;cases z2
  ·exact z2
end Z
end
section
namespace Z
open PySem PySem.Spec PySem.Calls PyProof.Rows L2 PySem.W Builtin Builtin.ObjectAttr Builtin.Getset_descriptor
section
variable{prog:Program}{w:World}{A:Around}{E:Value->Shared->Prop}{K:Frag}{y D:Addr}
theorem Xcl(e:ExcO D y h):Looks M h (typeOf (.ref y)) (.ref D):=by
 obtain⟨ob,_,_,q,cl,_⟩:=e;exact cl▸(Looks.ld q).andThen .now
theorem Xze {R:Result->Shared->Prop} (hK:K.In s.heap) (e:ExcO D y s.heap) (mo:mroIn K D (.type "object")=some true) (q:R (.ok (.ret (.ref D))) s) :
  codeAny (model prog w) A (.call (.builtin "getset_descriptor.__get__") ⟨[.builtin "object.__class__",.ref y,tv],[]⟩) R s:=by
 obtain⟨hp,gn,dw,tk,os⟩:=s;have T0:=Xcl (M:=model prog w) e;have T1:=looks_mroIn (M:=model prog w) hK mo;refine codeAny_call_builtin KF.slot_gs.plain KF.entry_gs (KF.slot_gs.check _ _ _ _ _ _ _ _ KF.type_class (KF.args_gs _ _ _) ?_);unfold Builtin.«getset_descriptor.__get__» descrGet;rw[dga_obj];refine Va (Vg ?_);unfold descrGetter descrCheckInstance descrNameAndClass isInstance;simp only[KF.owner_class]
 repeat lk
 refine⟨Code.quiet_builtin _ (by decide+kernel),codeAny_builtin KF.entry_class ?_⟩
 unfold Builtin.«object.__class__» shownTypeOf
 repeat lk
 exact q
theorem Xuu (hK:K.In h) (h1:findIn K (.ref D) nm=some (some v)) (h2:specialIn K v "__get__" = some (some g)) (h3:takesIn K v=some true):Looks M h (find (.ref y) (.ref D) nm) (.bind g v):=by
 have a1:=looks_findIn (M:=M) hK h1;have a2:Looks M h (getOf (some v)) (some g):=looks_specialIn hK h2;have a3:=looks_takesIn (M:=M) hK h3;exact a1.andThen (a2.andThen ((show Looks M h (dataDescriptor? (some v) (some g)) (some (g,v)) from a3.andThen .now).andThen (Looks.tag .now)))
theorem Xry (hK:K.In s.heap) (e:ExcO D y s.heap) (h1:findIn K (.ref D) nm=some (some v)) (h2:specialIn K v "__get__" = some (some g)) (h3:takesIn K v=some true)
  (z:wpAny (model prog w) A (call g [v,.ref y,.ref D]) (fun r s1=>Q (.done (.ret r)) s1) E s) :
  wpAny (model prog w) A (Builtin.«object.__getattribute__» ⟨[.ref y,.str nm tk],[]⟩) Q E s:=by
 obtain⟨hp,gn,dw,t0,os⟩:=s;have T0:=Xcl (M:=model prog w) e;have T1:=Xuu (M:=model prog w) (y:=y) hK h1 h2 h3;unfold Builtin.«object.__getattribute__»;refine Va (Vg ?_);refine Va (Vg ?_);refine Va (T0.at (Va (T1.at ?_)));show wpAny (model prog w) A (holding [v] (call g [v,.ref y,.ref D]) >>= ret) _ _ _;exact Va (U5 (Vj z (fun r s1 q=>Vg q) fun _ _ q=>q))
theorem Xrz (hK:K.In s.heap) (e:ExcO D y s.heap) (hm:mroIn K D (.type "BaseException")=some true) (q:Q () s) :
  wpAny (model prog w) A (checkBuiltinCall "BaseException.__getattribute__" ⟨[.ref y,nv],[]⟩) Q E s:=by
 obtain⟨hp,gn,dw,t0,os⟩:=s;have T0:=Xcl (M:=model prog w) e;have T3:=looks_mroIn (M:=model prog w) hK hm;have kd:builtinKind "BaseException.__getattribute__" = some .slot:=by decide+kernel
 have sp:splitId "BaseException.__getattribute__" = some ("BaseException","__getattribute__"):=by decide+kernel
 have ao:=PySem.F.args_bexc_ga (.ref y) nv;simp only[checkBuiltinCall,kd,sp];unfold isInstance;refine Va (Va (T0.at (T3.at ?_)));rw[if_neg (by decide)]
 exact wpAny_of_eq ao q
theorem Xuv (hK:K.In s.heap) (e:ExcO D y s.heap) (ga:findIn K (.ref D) "__getattribute__" = some (some (.builtin "BaseException.__getattribute__"))) (gn:findIn K (.ref D) "__getattr__" = some none)
  (hm:mroIn K D (.type "BaseException")=some true) (h1:findIn K (.ref D) nm=some (some v)) (h2:specialIn K v "__get__" = some (some g)) (h3:takesIn K v=some true) (hh:handedIn (.ref D)=true)
  (z:∀ A':Around,wpAny (model prog w) A' (call g [v,.ref y,.ref D]) (fun r s1=>r=.ref D/\Q (some (.ref D)) s1) (fun _ _=>False) { s with toks:=s.toks+1 }) :
  wpAny (model prog w) A (getAttr? (.ref y) nm) Q E s:=by
 obtain⟨hp,gs,dw,tk,os⟩:=s;have T0:=Xcl (M:=model prog w) e;have T1:=looks_findIn (M:=model prog w) hK ga;have T2:=looks_findIn (M:=model prog w) hK gn;have T3:=looks_mroIn (M:=model prog w) hK hm;unfold getAttr? getAttrBy? getAttrBy;refine Va (wpAny_mkText (Va (Vb3 (U5 (Va (T0.at (Va (T1.at ?_))))))));have hno:(onTheHeap (Vae D)&&Value.builtin "BaseException.__getattribute__" == Value.builtin "object.__getattribute__")=false:=by
  have:(Value.builtin "BaseException.__getattribute__" == Value.builtin "object.__getattribute__")=false:=by decide+kernel
  rw[this,Bool.and_false]
 dsimp only;rw[if_neg (by rw[hno];exact V9)]
 unfold getAttrByItsOwn hookBefore;rw[if_pos (by rfl)]
 refine Va (T2.at (Va (Vb3 (U5 ?_))));unfold callGetattribute boundAndCalled;rw[if_neg (by simp)]
 have f3:=PySem.F.excAttr_ValueError.ga.bind (.ref y);rw[f3];refine Va (Vg ?_);refine wpAny_call (codeAny_call_builtin PySem.F.excAttr_ValueError.ga.plain PySem.F.entry_bexc_ga (Xrz (s:=⟨hp,gs,dw,tk+1,os⟩) hK e hm ?_));refine Xry (s:=⟨hp,gs,dw,tk+1,os⟩) hK e h1 h2 h3 (Vj (z _) (fun r s1 q=>?_) fun _ _ q=>q.elim)
 obtain⟨rfl,q⟩:=q;exact handed_on hh (Vg q)
theorem Xuw (p1:findIn K (.ref D) "__getattribute__" = some (some (.builtin "BaseException.__getattribute__"))) (p0:findIn K (.ref D) "__getattr__" = some none) (p7:mroIn K D (.type "BaseException")=some true) (p2:(clsIn K D).isSome=true) (p3:findIn K (.ref D) "__class__" = some (some (.builtin "object.__class__")))
  (p4:specialIn K (.builtin "object.__class__") "__get__" = some (some (.builtin "getset_descriptor.__get__"))) (p5:takesIn K (.builtin "object.__class__")=some true) (p6:mroIn K D (.type "object")=some true):KitX K (.ref y) (.ref D) (ExcO D y) where
 ty:=fun _ _ _ e=>Xcl e
 it:=fun _ _ hK _=>by
  unfold clsIn at p2;split at p2
  ·rename_i lk
   intro B Q' E' s' k q;unfold isType loadHead;exact Va (wpAny_loadPart (k _ _ (hK _ _ lk)) (Vg q))
  ·cases p2
 ne:=fun hp tp dd its n sl hK ht=>by
  refine Bool.eq_false_iff.mpr fun q=>?_
  have q':D=tp:=Value.ref.inj (beq_iff_eq.mp q);subst q';unfold clsIn at p2;split at p2
  ·rename_i lk
   cases (hK _ _ lk).symm.trans ht
  ·cases p2
 ca:=fun {prog w B E' Q' s'} hK e k=>Xuv hK e p1 p0 p7 p3 p4 p5 rfl fun A'=>wpAny_call (Xze (s:={ s' with toks:=s'.toks+1 }) hK e p6 ⟨rfl,k⟩)
end
end Z
end
section
namespace Z
open PySem PySem.Spec PyProof.Rows L2
noncomputable def Xbm:Ty->Option (Str×String)
 | .int=>some ("int","int")
 | .bool=>some ("bool","bool")
 | .str=>some ("str","str")
 | .tuple=>some ("tuple","tuple")
 | .list=>some ("list","list")
 | .dict=>some ("dict","dict")
 | _=>none
noncomputable def Xfy:Kd->Option String
 | .non=>some "NoneType"
 | .bool=>some "bool"
 | .int=>some "int"
 | .str=>some "str"
 | .tuple=>some "tuple"
 | .list=>some "list"
 | .dict=>some "dict"
 | .exc _=>none
theorem Xeg(h:Xbm t=some (nm,T)):Vcd nm=some (.type T):=by
 cases t<;>simp only[Xbm,Vi,Vdc,reduceCtorEq] at h<;>obtain⟨rfl,rfl⟩:=h<;>decide+kernel
theorem Xfz(h:Xbm t=some (nm,T)):nm∈blts:=by
 cases t<;>simp only[Xbm,Vi,Vdc,reduceCtorEq] at h<;>obtain⟨rfl,rfl⟩:=h<;>decide
theorem Xht(ht:Xbm t=some (nm,T))(hk:Xfy k=some U)(h:isT k t=some b)(K:Vf):Vdv K (.type U) (.type T)=some b:=by
 cases k<;>simp only[Xfy,Vi,reduceCtorEq] at hk<;>subst hk<;>cases t<;>simp only[Xbm,Vi,Vdc,reduceCtorEq] at ht<;>obtain⟨rfl,rfl⟩:=ht<;>simp only[isT,Vi] at h<;>subst h<;>kernel_rfl
section
variable{X:Cx}{pins:List (Addr×Obj)}{σ:L2.St}{H:Hp}{s:Shared}{ρ:List Addr}{S S':Sto}{env:En}{a:Expr}{fa:En->Sto->R D}{pos:Pos}
theorem Xxl(I:S0 X pins σ H s ρ S env)(h:kdD S d=some k)(hU:Xfy k=some U)(rd:RD X.K ρ H d v)(rv:RelV v u) :
  ∃ P:Heap->Prop,PySem.W.KitX X.K u (.type U) P/\P s.heap/\u≠.builtin "__main__.__loader__#opaque" := by
 cases d with
 | non=>cases h;cases hU;simp only[RD] at rd;subst rd;cases rv;exact⟨_,PySem.W.kitx_none,trivial,fun z=>nomatch z⟩
 | bl b=>cases h;cases hU;simp only[RD] at rd;subst rd;cases rv;exact⟨_,PySem.W.kitx_bool,trivial,fun z=>nomatch z⟩
 | int i=>cases h;cases hU;simp only[RD] at rd;subst rd;obtain⟨t,rfl⟩:=rv;exact⟨_,PySem.W.kitx_int,trivial,fun z=>nomatch z⟩
 | str x=>cases h;cases hU;simp only[RD] at rd;subst rd;obtain⟨t,rfl⟩:=rv;exact⟨_,PySem.W.kitx_str,trivial,fun z=>nomatch z⟩
 | tup xs =>
  cases h;cases hU;simp only[RD] at rd;obtain⟨p,vs,rfl,hq,_⟩:=rd;cases rv;obtain⟨its,_,pl,_⟩:=I.inv.tuple hq;obtain⟨o,h1,h2,_⟩:=pl;exact⟨_,PySem.W.kitx_tuple,⟨o,h1,h2⟩,fun z=>nomatch z⟩
 | fro xs =>
  cases h;cases hU;simp only[RD] at rd;obtain⟨p,vs,rfl,hq,_⟩:=rd;cases rv;obtain⟨its,_,pl,_⟩:=I.inv.list hq.sq;obtain⟨o,n,h1,h2,_⟩:=pl;exact⟨_,PySem.W.kitx_list,⟨o,h1,h2⟩,fun z=>nomatch z⟩
 | fn _ _=>cases h
 | ref n =>
  simp only[kdD] at h;simp only[RD] at rd;obtain⟨p,rfl,hp⟩:=rd;cases rv;split at h
  ·rename_i xs e
   cases h;cases hU;obtain⟨vs,hv,_⟩:=I.sr.ob n p _ hp e;obtain⟨_,its,n',_,h1⟩:=(show ObjOk X.prog X.w H s.heap p (.lst vs) from I.inv.hok p _ hv);exact⟨_,PySem.W.kitx_list,⟨_,h1,rfl⟩,fun z=>nomatch z⟩
  ·rename_i xs e
   cases h;cases hU;obtain⟨_,hv⟩:=I.sr.ob n p _ hp e;obtain⟨_,_,vs,_,o,es,ep,h1,h2,_⟩:=(show ObjOk X.prog X.w H s.heap p (.dK []) from I.inv.hok p _ hv);exact⟨_,PySem.W.kitx_dict,⟨o,h1,h2.1⟩,fun z=>nomatch z⟩
  ·cases h;cases hU
  ·cases h
theorem Xda (ht:Xbm t=some (nm,T)) (hb:∀ x∈blts,X.mg x=none) (hg0:Gl X "isinstance") (hg:Gl X nm) (hok:Y9 nm=true) (ha:DE X a fa) (hst:Yu a=true) :
  DE X (.Call (.Name "isinstance" p0) [a,.Name nm p1] [] pos) (fun env S=>(fa env S).bind fun x S=>match (kdD S x).bind fun k=>Yq k [t] with|some r=>.ok (.bl r) S|none=>.bad):=by
 intro pins s σ H ρ S env I nb;dsimp only at nb ⊢;obtain⟨o1,_,o3⟩:=Xat hok;refine Vau (Yt I.inv hg0 (hb _ (by decide)) (u:=.builtin "isinstance") (by decide+kernel) ?_)
 refine Vas ?_ (Xp hst) rfl;rw[Xp hst];generalize hr:((fa env S).bind fun x S=>match (kdD S x).bind fun k=>Yq k [t] with|some r=>R.ok (D.bl r) S|none=>R.bad)=r at nb ⊢
 refine Ut (ha.bind I (by rw[hr];exact nb) hr.symm (fun d S1 u s1 v H1 ρ1 e1 nb1 I1 rv rd st1=>?_) fun _ _ z=>z)
 refine Ut (Yt I1.inv hg (hb _ (Xfz ht)) (Xeg ht) ?_ o3 o1);refine Vax ?_;cases q:(kdD S1 d).bind fun k=>Yq k [t] with
 | none=>rw[q] at nb1;exact absurd rfl nb1
 | some b =>
  obtain⟨k,q1,q2⟩:=Vdy.mp q;have q3:isT k t=some b:=by
   unfold Yq at q2;cases e:isT k t with
   | none=>rw[e] at q2;cases q2
   | some c=>rw[e] at q2;cases c<;>simp[Yq] at q2<;>rw[q2]
  rw[e1,q];cases hU:Xfy k with
  | none=>cases k<;>simp only[Xfy,reduceCtorEq] at hU;cases t<;>simp only[Xbm,reduceCtorEq] at ht<;>simp only[isT,reduceCtorEq] at q3
  | some U =>
   obtain⟨P,k1,k2,k3⟩:=Xxl I1 q1 hU rd rv;exact PySem.W.kia_one k1 I1.inv.kIn k2 (Xht ht hU q3 X.K) k3 fun tk=>OkP.pre st1 (Xi I1.sr (I1.inv.tok tk))
theorem Xr0 (er:ErrOk X.K) (ht:(∃ c,t=.cls c/\Xbi c=some nm)\/(t=.valueError/\nm = "ValueError")) (hb:∀ x∈blts,X.mg x=none) (hg0:Gl X "isinstance") (hg:Gl X nm) (hok:Y9 nm=true) (ha:DE X a fa) (hst:Yu a=true) :
  DE X (.Call (.Name "isinstance" p0) [a,.Name nm p1] [] pos) (fun env S=>(fa env S).bind fun x S=>match (kdD S x).bind fun k=>Yq k [t] with|some r=>.ok (.bl r) S|none=>.bad):=by
 intro pins s σ H ρ S env I nb;dsimp only at nb ⊢;obtain⟨o1,_,o3⟩:=Xat hok;refine Vau (Yt I.inv hg0 (hb _ (by decide)) (u:=.builtin "isinstance") (by decide+kernel) ?_)
 refine Vas ?_ (Xp hst) rfl;rw[Xp hst];generalize hr:((fa env S).bind fun x S=>match (kdD S x).bind fun k=>Yq k [t] with|some r=>R.ok (D.bl r) S|none=>R.bad)=r at nb ⊢
 refine Ut (ha.bind I (by rw[hr];exact nb) hr.symm (fun d S1 u s1 v H1 ρ1 e1 nb1 I1 rv rd st1=>?_) fun _ _ z=>z)
 /- the value is an error -/
 cases q:(kdD S1 d).bind fun k=>Yq k [t] with
 | none=>rw[q] at nb1;exact absurd rfl nb1
 | some b =>
  rw[e1,q];obtain⟨k,q1,q2⟩:=Vdy.mp q;have q3:isT k t=some b:=by
   unfold Yq at q2;cases e:isT k t with
   | none=>rw[e] at q2;cases q2
   | some c=>rw[e] at q2;cases c<;>simp[Yq] at q2<;>rw[q2]
  obtain⟨c',rfl⟩:∃ c',k=.exc c':=by
   rcases ht with⟨c,rfl,_⟩|⟨rfl,_⟩<;>cases k<;>first|exact⟨_,rfl⟩|(simp only[isT,reduceCtorEq] at q3)
  obtain⟨n,rfl,hS⟩:∃ n,d=.ref n/\S1[n]?=some (.exc c'):=by
   cases d with
   | ref n =>
    refine⟨n,rfl,?_⟩;simp only[kdD] at q1;split at q1
    ·cases q1
    ·cases q1
    ·rename_i c2 e;cases q1;exact e
    ·cases q1
   | _=>cases q1
  simp only[RD] at rd;obtain⟨p,rfl,hp⟩:=rd;cases rv;obtain⟨C,hC,hH⟩:=(show ∃ C,Xak X.K c'=some C/\H1 p=some (.ext (ExcO C p)) from I1.sr.ob n p _ hp hS);obtain⟨_,⟨b1,b2,b3⟩,a3,a4,a5,a6⟩:=er.cls c' C hC;have hE:ExcO C p s1.heap:=(show ObjOk X.prog X.w H1 s1.heap p (.ext (ExcO C p)) from I1.inv.hok p _ hH).1;have kx:=Xuw (y:=p) b1 b2 b3 a3 a4 er.gt er.tk a5;rcases ht with⟨c,rfl,hc⟩|⟨rfl,rfl⟩
  ·obtain⟨C0,h1,h2⟩:=er.at_ c nm hc
   have e3:b=(c==0||c==c'):=by simp only[isT,Vi] at q3;exact q3.symm
   subst e3;refine Ut (Xc5 I1.inv hg (Vbt I1.inv.mod.kin I1.inv.mod.glob h2) (Vax ?_) o1);exact PySem.W.kia_one kx I1.inv.kIn hE (er.sub c' C c C0 hC h1).1 (fun z=>nomatch z) fun tk=>OkP.pre st1 (Xi I1.sr (I1.inv.tok tk))
  ·have e3:b=true:=by simp only[isT,Vi] at q3;exact q3.symm
   subst e3;refine Ut (Yt I1.inv hg (hb _ (by decide)) (u:=.type "ValueError") (by decide+kernel) (Vax ?_) o3 o1)
   exact PySem.W.kia_one kx I1.inv.kIn hE a6 (fun z=>nomatch z) fun tk=>OkP.pre st1 (Xi I1.sr (I1.inv.tok tk))
end
theorem Xe1(n d:Nat)(o:Option Int):Xfq n d o=HT.sIx n d o:=by
 cases o with
 | none=>rfl
 | some i =>
  simp only[Xfq,HT.sIx]
  by_cases h:i<0
  ·rw[if_pos h,if_neg (by omega)]
  ·rw[if_neg h,if_pos (by omega)]
theorem Xr1{K:Vf}{ρ:List Addr}{H:Hp}{xs:List D}{vs:List V}(h:RDs K ρ H xs vs)(lo hi:Option Int):RDs K ρ H (cut xs lo hi) (Xhh vs lo hi):=by
 unfold cut Xhh;rw[Xe1,Xe1,h.length];exact(h.drop _).take _
section
variable{prog:Program}{w:World}{A:Around}{E:Value->Shared->Prop}{s:Shared}
theorem Xm7{items:Array Value}{lo hi:Option Int}{Q:Value->Shared->Prop}(ht:IsTup s.heap t items)(hs:s.heap.IsSliceOf sl vl vu .none)(pl:IsPart vl lo)(pu:IsPart vu hi)
  (h1:HT.sIx items.size 0 lo=0) (h2:HT.sIx items.size items.size hi=items.size) (h:Q (.ref t) s):wpAny (model prog w) A (getItem (.ref t) (.ref sl)) Q E s:=by
 obtain⟨os,hos,hcs,hds⟩:=id hs;have hTs:s.TypeIs (.ref sl) "slice" := ⟨os,hos,hcs⟩;unfold getItem
 try with_reducible refine U5 ?_
 first|refine Va (Vg ?_)|skip
 refine Va (Vfb ht.typeIs (by decide) (Va (Uc (name:=Ub "__getitem__") ht.typeIs Vab (Uq Vab ht.typeIs Ves ?_ (Ve1 _ _)))))
 show wpAny _ _ (Vc8 (.ref t) >>= _) _ _ s;refine Va (tupleItemsOf_ ht (Va (Veb hTs ?_)));rw[if_pos (by decide)]
 refine Va (HT.sliceApplied_gen hs pl pu ?_);show wpAny _ _ (if (((HT.sIx items.size 0 lo:Nat):Int)==0&&(1:Int)==1&&(HT.sIx items.size items.size hi-HT.sIx items.size 0 lo)==items.size)=true then _ else _) _ _ s
 rw[h1,h2,if_pos (by simp)]
 refine Va ?_;unfold Builtin.Tuple.tupleIsExact;refine Va (Veb ht.typeIs (Vg ?_));rw[if_pos (by decide)]
 exact Va (Vca (Vg ⟨_,rfl,Vg h⟩))
end
def Xkg(K:Vf)(ρ:List Addr)(H:Hp)(o:Option D)(u:Value):Prop:=match o with
 | none=>u=.none
 | some d=>∃ v,RelV v u/\RD K ρ H d v
def DO(X:Cx)(e:Option Expr)(f:En->Sto->R (Option D)):Prop :=
 ∀ (pins:List (Addr×Obj)) (s:Shared) (σ:L2.St) (H:Hp) (ρ:List Addr) (S:Sto) (env:En),S0 X pins σ H s ρ S env->f env S≠.bad ->
  wpAny (model X.prog X.w) X.A (evalPart e X.env) (fun u s'=>∃ o S',f env S=.ok o S'/\∃ H' ρ',Inv X pins σ H' s'/\SR X.K ρ' S' H'/\Stp X.K ρ ρ' H H'/\Xkg X.K ρ' H' o u) (ExP X pins σ ρ H (f env S)) s
section
variable{X:Cx}{pins:List (Addr×Obj)}{σ:L2.St}{H:Hp}{s:Shared}{ρ:List Addr}{S S':Sto}{env:En}{a:Expr}{fa:En->Sto->R D}{pos p2:Pos}
theorem Xn8:DO X none (fun _ S=>.ok none S):=by
 intro pins s σ H ρ S env I nb;rw[evalPart_none];exact Vg ⟨none,S,rfl,H,ρ,I.inv,I.sr,.refl,rfl⟩
theorem Xn9(h:DE X a fa):DO X (some a) (fun env S=>(fa env S).bind fun x S=>.ok (some x) S):=by
 intro pins s σ H ρ S env I nb;dsimp only at nb ⊢;rw[evalPart_some];refine h.bind I nb rfl (fun d S1 u s1 v H1 ρ1 e1 nb1 I1 rv rd st1=>?_) fun _ _ z=>z
 exact⟨some d,S1,e1,H1,ρ1,I1.inv,I1.sr,st1,v,rv,rd⟩
theorem DO.bind{α:Type}{e:Option Expr}{f:En->Sto->R (Option D)}(h:DO X e f)(I:S0 X pins σ H s ρ S env){k:Option D->Sto->R α}{r:R α}{Q:Value->Shared->Prop}{E:Value->Shared->Prop}(nb:(f env S).bind k≠.bad)(hr:r=(f env S).bind k)
  (hQ:∀ o S1 u s' H' ρ',r=k o S1->k o S1≠.bad->S0 X pins σ H' s' ρ' S1 env->Xkg X.K ρ' H' o u->Stp X.K ρ ρ' H H'->Q u s') (hE:∀ x s',ExP X pins σ ρ H r x s'->E x s'):wpAny (model X.prog X.w) X.A (evalPart e X.env) Q E s:=by
 cases q:f env S with
 | bad=>rw[q] at nb;exact absurd rfl nb
 | ex n S1 =>
  rw[q] at hr;refine Vj (h pins s σ H ρ S env I (by rw[q];exact fun z=>nomatch z)) (fun u s' z=>?_) fun x s' z=>?_
  ·obtain⟨o,S2,e,_⟩:=z;rw[q] at e;cases e
  ·obtain⟨m,S2,e,z⟩:=z;rw[q] at e;cases e;exact hE x s' ⟨n,S1,hr,z⟩
 | ok o S1 =>
  rw[q] at hr nb;refine Vj (h pins s σ H ρ S env I (by rw[q];exact fun z=>nomatch z)) (fun u s' z=>?_) fun x s' z=>?_
  ·obtain⟨o',S2,e,H',ρ',J,sr,st,pr⟩:=z
   rw[q] at e;cases e;exact hQ o S1 u s' H' ρ' hr nb (I.step J sr st) pr st
  ·obtain⟨m,S2,e,z⟩:=z;rw[q] at e;cases e
theorem Xe2{K:Vf}{o:Option D}{u:Value}{oi:Option Int}(h:Xkg K ρ H o u)(e:Xa6 o=some oi):IsPart u oi:=by
 cases o with
 | none =>
  have e':some none=some oi:=e;cases e';have h':u=.none:=h;subst h';exact .none
 | some d =>
  cases d with
  | int i =>
   have e':some (some i)=some oi:=e;cases e';obtain⟨v,rv,rd⟩:=h;simp only[RD] at rd;subst rd;obtain⟨t,rfl⟩:=rv;exact .int i t
  | _=>cases e
theorem X6n{lo hi:Option Expr}{fl fh:En->Sto->R (Option D)}(ha:DE X a fa)(hl:DO X lo fl)(hh:DO X hi fh) :
  DE X (.Subscript a (.Slice lo hi none p2) pos) (fun env S=>(fa env S).bind fun x S=>(fl env S).bind fun l S=>(fh env S).bind fun h S=>match Xa6 l,Xa6 h with
   | some l,some h=>Xaw x l h S
   | _,_=>.bad):=by
 intro pins s σ H ρ S env I nb;dsimp only at nb ⊢;refine Subscript_ (ha.bind I nb rfl (fun d S1 u s1 v H1 ρ1 e1 nb1 I1 rv rd st1=>?_) fun _ _ z=>z)
 rw[e1];refine wpAny_Slice (hl.bind I1 nb1 rfl (fun l S2 vl s2 H2 ρ2 e2 nb2 I2 pl st2=>?_) fun x s' z=>z.pre st1)
 rw[e2];refine hh.bind I2 nb2 rfl (fun h S3 vu s3 H3 ρ3 e3 nb3 I3 pu st3=>?_) fun x s' z=>(z.pre st2).pre st1
 rw[e3];cases q1:Xa6 l with
 | none=>rw[q1] at nb3;exact absurd rfl nb3
 | some li =>
  cases q2:Xa6 h with
  | none=>rw[q1,q2] at nb3;exact absurd rfl nb3
  | some hi' =>
   rw[q1,q2] at nb3;dsimp only at nb3 ⊢;rw[evalPart_none];refine Vg ?_;have P1:=Xe2 pl q1;have P2:=Xe2 pu q2;have rd3:=(rd.mono st2).mono st3;have J:Inv X pins σ H3 { s3 with heap:=s3.heap.push { cls:=.type "slice",data:=.fields #[vl,vu,.none] } }:=I3.inv.kept (t':=s3.toks) fun b ob q=>Vb _ q
   have fin:∀ {T id:String},typeLookup (.type T) "__getitem__" = pure (some (.builtin id))->({ s3 with heap:=s3.heap.push { cls:=.type "slice",data:=.fields #[vl,vu,.none] } }:Shared).TypeIs u T ->
     wpAny (model X.prog X.w) X.A (getItem u (.ref s3.heap.objs.size)) (OkP X pins σ ρ3 H3 (Xaw d li hi' S3)) (ExP X pins σ ρ3 H3 (Xaw d li hi' S3)) { s3 with heap:=s3.heap.push { cls:=.type "slice",data:=.fields #[vl,vu,.none] } } ->
     wpAny (model X.prog X.w) X.A (Vc9 a (.Slice lo hi none p2) u (.ref s3.heap.objs.size)) (OkP X pins σ ρ H (Xaw d li hi' S3)) (ExP X pins σ ρ H (Xaw d li hi' S3)) { s3 with heap:=s3.heap.push { cls:=.type "slice",data:=.fields #[vl,vu,.none] } }:=fun t1 t2 g =>
    tail_any (ops:=[.ref s3.heap.objs.size,u]) t2 t1 (Vj g (fun _ _ z=>OkP.pre ((st1.trans st2).trans st3) z) fun _ _ z=>ExP.pre ((st1.trans st2).trans st3) z) (by with_unfolding_all rfl)
   cases d with
   | tup xs =>
    simp only[RD] at rd3;obtain⟨p,vs,rfl,hq,hr⟩:=rd3;cases rv;obtain⟨its,r,ht,hz⟩:=J.tuple hq;have hlen:its.toArray.size=vs.length:=by rw[Vn];exact r.length.symm
    refine fin PyProof.Rows.slot_tuple_getitem.lookup ht.typeIs ?_
    by_cases hw:HT.sIx vs.length 0 li=0/\HT.sIx vs.length vs.length hi'=vs.length
    ·refine Xm7 ht (Vcq ..) P1 P2 (by rw[hlen];exact hw.1) (by rw[hlen];exact hw.2) ?_
     have e:cut xs li hi'=xs:=by
      unfold cut;rw[Xe1,Xe1,hr.length,hw.1,hw.2,List.drop_zero,Nat.sub_zero,<- hr.length,List.take_length]
     refine .mk (v:=.ref p) .refl J rfl ?_ I3.sr;rw[e];simp only[RD];exact⟨p,vs,rfl,hq,hr⟩
    ·refine HT.getItem_tuple_cut ht (Vcq ..) P1 P2 (by rw[hlen];exact hw) ?_ (by rw[hlen];exact hz)
     rw[hlen];refine Xcd (vs:=Xhh vs li hi') (J.laid (t':=s3.toks) (fun b ob q=>Vb _ q) (Vh _) ?_) (J.hok.fresh (Vh _)) I3.sr (Xr1 hr li hi')
     exact⟨Vy (Xff vs li hi') hz,_,(r.drop (HT.sIx vs.length 0 li)).take (HT.sIx vs.length vs.length hi'-HT.sIx vs.length 0 li),⟨_,Vk _ rfl,rfl,_,rfl⟩⟩
   | ref n =>
    cases e4:Xc S3 n with
    | none=>simp[Xaw,e4] at nb3
    | some xs =>
     obtain⟨b,vs,k1,k2,k3⟩:=I3.list e4;simp only[RD] at rd3;obtain⟨b',rfl,k4⟩:=rd3;rw[k1] at k4;cases k4;cases rv;obtain⟨its,r,ht,hz⟩:=J.list (.of k2);have hlen:=r.length;refine fin slot_list_getitem.lookup ht.isList.typeIs ?_;refine Vfo ht.isList (Vcq ..) P1 P2 .none (by simp) ?_ (by rw[Vn]<;>omega)
     rw[Xj1,<- hlen];have e5:Xaw (.ref n) li hi' S3=.ok (.ref S3.length) (S3++[.lst (cut xs li hi')]):=by simp only[Xaw,e4]
     rw[e5];refine Xbr (vs:=Xhh vs li hi') (J.laid (t':=s3.toks) (fun b ob q=>Vb _ q) (Vh _) ?_) (J.hok.fresh (Vh _)) I3.sr (Xr1 k3 li hi')
     exact⟨Vy (Xff vs li hi') hz,_,0,(r.drop (HT.sIx vs.length 0 li)).take (HT.sIx vs.length vs.length hi'-HT.sIx vs.length 0 li),Vk _ rfl⟩
   | _=>exact absurd rfl nb3
end
theorem Xzf{K:Vf}{k:Kd}{t1 t2:Ty}{n1 n2:Str}{T1 T2 U:String}{b:Bool}(h1:Xbm t1=some (n1,T1))(h2:Xbm t2=some (n2,T2))(hk:Xfy k=some U)(h:Yq k [t1,t2]=some b) :
  PySem.W.kitAny K (.type U) [.type T1,.type T2]=some b:=by
 simp only[Yq] at h;unfold PySem.W.kitAny;cases e1:isT k t1 with
 | none=>rw[e1] at h;cases h
 | some c1 =>
  rw[e1] at h;rw[Xht h1 hk e1 K];cases c1 with
  | true=>cases h;rfl
  | false =>
   dsimp only at h ⊢;unfold PySem.W.kitAny;cases e2:isT k t2 with
   | none=>rw[e2] at h;cases h
   | some c2 =>
    rw[e2] at h;rw[Xht h2 hk e2 K];cases c2 with
    | true=>cases h;rfl
    | false=>cases h;rfl
section
variable{X:Cx}{pins:List (Addr×Obj)}{σ:L2.St}{H:Hp}{s:Shared}{ρ:List Addr}{S S':Sto}{env:En}{a:Expr}{fa:En->Sto->R D}{pos:Pos}
theorem X3l (h1:Xbm t1=some (n1,T1)) (h2:Xbm t2=some (n2,T2)) (hb:∀ x∈blts,X.mg x=none) (hg0:Gl X "isinstance") (g1:Gl X n1) (g2:Gl X n2) (o1:Y9 n1=true) (o2:Y9 n2=true) (ha:DE X a fa) (hst:Yu a=true) :
  DE X (.Call (.Name "isinstance" p0) [a,.Tuple [.Name n1 q1,.Name n2 q2] k3 p3] [] pos) (fun env S=>(fa env S).bind fun x S=>match (kdD S x).bind fun k=>Yq k [t1,t2] with|some r=>.ok (.bl r) S|none=>.bad):=by
 intro pins s σ H ρ S env I nb;dsimp only at nb ⊢;obtain⟨a1,_,a3⟩:=Xat o1;obtain⟨b1,_,b3⟩:=Xat o2;refine Vau (Yt I.inv hg0 (hb _ (by decide)) (u:=.builtin "isinstance") (by decide+kernel) ?_)
 refine Vas ?_ (Xp hst) rfl;rw[Xp hst];generalize hr:((fa env S).bind fun x S=>match (kdD S x).bind fun k=>Yq k [t1,t2] with|some r=>R.ok (D.bl r) S|none=>R.bad)=r at nb ⊢
 refine Ut (ha.bind I (by rw[hr];exact nb) hr.symm (fun d S1 u s1 v H1 ρ1 e1 nb1 I1 rv rd st1=>?_) fun _ _ z=>z)
 refine Ut (Vet (x1:=k3) (Ut (Yt I1.inv g1 (hb _ (Xfz h1)) (Xeg h1) (Ut (Yt I1.inv g2 (hb _ (Xfz h2)) (Xeg h2) (Vax ⟨by show 2<=Vt;decide,?_⟩) b3 b1)) a3 a1)))
 refine Vax ?_;cases q:(kdD S1 d).bind fun k=>Yq k [t1,t2] with
 | none=>rw[q] at nb1;exact absurd rfl nb1
 | some b =>
  obtain⟨k,k1,k2⟩:=Vdy.mp q;rw[e1,q];have J:Inv X pins σ H1 { s1 with heap:=s1.heap.push { cls:=.type "tuple",data:=.seq #[.type T1,.type T2] } }:=I1.inv.kept (t':=s1.toks) fun b ob q=>Vb _ q
  have I2:S0 X pins σ H1 { s1 with heap:=s1.heap.push { cls:=.type "tuple",data:=.seq #[.type T1,.type T2] } } ρ1 S1 env:=⟨J,I1.sr,I1.er⟩
  cases hU:Xfy k with
  | none =>
   cases k with
   | exc c =>
    simp only[Yq] at k2;have z:isT (.exc c) t1=none:=by cases t1<;>simp only[Xbm,reduceCtorEq] at h1<;>rfl
    rw[z] at k2;cases k2
   | _=>cases hU
  | some U =>
   obtain⟨P,z1,z2,z3⟩:=Xxl I2 k1 hU rd rv;exact PySem.W.kia_tup (its:=[.type T1,.type T2]) z1 J.kIn z2 (Vk _ rfl) (Xzf h1 h2 hU k2) z3 fun tk=>OkP.pre st1 (Xi I1.sr (J.tok tk))
end
end Z
end
section
namespace Z
open PySem PySem.Spec PyProof.Rows L2
open Builtin.Slice (sliceAdjust slicePlaces)
noncomputable def Xhu{α:Type}(lo c:Int)(n:Nat)(xs:List α):List α:=(Vc n).filterMap fun(k:Nat)=>xs[(lo+(k:Int)*c).toNat]?
noncomputable def Yz{α:Type}(xs:List α)(l:Option Int)(c:Int):List α:=Xhu (sliceAdjust l none c xs.length).1 c (slicePlaces (sliceAdjust l none c xs.length).1 (sliceAdjust l none c xs.length).2 c) xs
theorem Xpo{K:Vf}{ρ:List Addr}{H:Hp}{xs:List D}{vs:List V}(h:RDs K ρ H xs vs)(ix:Nat->Nat):∀ ks:List Nat,RDs K ρ H (ks.filterMap fun k=>xs[ix k]?) (ks.filterMap fun k=>vs[ix k]?)
 | []=>.nil
 | k::ks=>by
  cases e:xs[ix k]? with
  | none =>
   have e2:=h.none e;simp only[Ul,e,e2];exact Xpo h ix ks
  | some d =>
   obtain⟨v,e2,r⟩:=h.get e;simp only[Ul,e,e2];exact .cons r (Xpo h ix ks)
theorem Xhv{xs:List V}{us:List Value}(h:Vals xs us)(ix:Nat->Nat):∀ ks:List Nat,Vals (ks.filterMap fun k=>xs[ix k]?) (ks.filterMap fun k=>us[ix k]?)
 | []=>.nil
 | k::ks=>by
  cases e:xs[ix k]? with
  | none =>
   have e2:us[ix k]?=none:=by rw[V7] at e ⊢;rw[<- h.length];exact e
   simp only[Ul,e,e2];exact Xhv h ix ks
  | some d =>
   obtain⟨v,e2,r⟩:=h.get e;simp only[Ul,e,e2];exact .cons r (Xhv h ix ks)
theorem Xr2{K:Vf}{ρ:List Addr}{H:Hp}{xs:List D}{vs:List V}(h:RDs K ρ H xs vs)(l:Option Int)(c:Int):RDs K ρ H (Yz xs l c) (Yz vs l c):=by
 unfold Yz;rw[h.length];exact Xpo h _ _
theorem Xlw(h:Vals xs us)(l:Option Int)(c:Int):Vals (Yz xs l c) (Yz us l c):=by
 unfold Yz;rw[h.length];exact Xhv h _ _
theorem Xr3{lo hi c:Int}{n:Nat}(hc:c<0)(h1:lo<=(n:Int)-1)(h2:-1<=hi):slicePlaces lo hi c<=n:=by
 unfold slicePlaces;rw[if_neg (by omega)]
 split
 ·have:(lo-hi-1)/(-c)<=lo-hi-1:=Int.ediv_le_self _ (by omega)
  omega
 ·simp
theorem Xgn{l:Option Int}{c:Int}{n:Nat}(hc:c<0):(sliceAdjust l none c n).1<=(n:Int)-1/\(sliceAdjust l none c n).2 = -1:=by
 unfold sliceAdjust;simp only[hc,if_true,and_true];cases l with
 | none=>exact Int.le_refl _
 | some v=>dsimp only;split<;>omega
theorem Xhw{α:Type}(xs:List α){l:Option Int}{c:Int}(hc:c<0):(Yz xs l c).length<=xs.length:=by
 unfold Yz Xhu;refine Vy (List.length_filterMap_le _ _) ?_;rw[U3];exact Xr3 hc (Xgn hc).1 (by rw[(Xgn hc).2];omega)
section
variable{prog:Program}{w:World}{A:Around}{E:Value->Shared->Prop}{s:Shared}
theorem Xlx{lo:Option Int}{c:Int}{n:Nat}{Q:Int×Int×Nat->Shared->Prop}(hc:c<0)(hs:s.heap.IsSliceOf sl vl .none vs)(pl:IsPart vl lo)(ps:IsPart vs (some c))
  (h:Q ((sliceAdjust lo none c n).1,c,slicePlaces (sliceAdjust lo none c n).1 (sliceAdjust lo none c n).2 c) s):wpAny (model prog w) A (Vb1 (.ref sl) (pure (n:Int))) Q E s:=by
 obtain⟨os,hos,hcs,hds⟩:=id hs;unfold Vb1 Vfh;refine Va (Va (V3 hos hds (x:=vl) rfl (Va (V3 hos hds (x:=.none) rfl (Va (V3 hos hds (x:=vs) rfl (Vg ?_)))))));refine Va (HT.slicePart_ ps ?_);show wpAny _ _ (if (c==0)=true then _ else _) _ _ s
 rw[if_neg (by simp;omega)]
 refine Va (HT.slicePart_ pl (Va (HT.slicePart_ .none (Va (Vg ?_)))));exact Vg h
theorem Xpp{its:List Value}{lo:Option Int}{c:Int}{Q:Value->Shared->Prop}(hc:c<0)(ht:IsTup s.heap t its.toArray)(hs:s.heap.IsSliceOf sl vl .none vs)(pl:IsPart vl lo)(ps:IsPart vs (some c))
  (h:Q (.ref s.heap.objs.size) { s with heap:=s.heap.push { cls:=.type "tuple",data:=.seq (Yz its lo c).toArray } }) (hsz:its.length<=Vt):wpAny (model prog w) A (getItem (.ref t) (.ref sl)) Q E s:=by
 have hso:sizeOk (.seq (Yz its lo c).toArray):=by
  show(Yz its lo c).toArray.size<=Vt;rw[Vn];exact Vy (Xhw its hc) hsz
 obtain⟨os,hos,hcs,hds⟩:=id hs;have hTs:s.TypeIs (.ref sl) "slice" := ⟨os,hos,hcs⟩;unfold getItem
 try with_reducible refine U5 ?_
 first|refine Va (Vg ?_)|skip
 refine Va (Vfb ht.typeIs (by decide) (Va (Uc (name:=Ub "__getitem__") ht.typeIs Vab (Uq Vab ht.typeIs Ves ?_ (Ve1 _ _)))))
 show wpAny _ _ (Vc8 (.ref t) >>= _) _ _ s;refine Va (tupleItemsOf_ ht (Va (Veb hTs ?_)));rw[if_pos (by decide),Vn]
 refine Va (Xlx hc hs pl ps ?_);show wpAny _ _ (if ((sliceAdjust lo none c its.length).1==0&&c==1&&slicePlaces (sliceAdjust lo none c its.length).1 (sliceAdjust lo none c its.length).2 c==its.length)=true then _ else _) _ _ s
 have hn:(c==1)=false:=by simp;omega
 rw[if_neg (by rw[hn];simp)]
 have e:((Vc (slicePlaces (sliceAdjust lo none c its.length).1 (sliceAdjust lo none c its.length).2 c)).filterMap fun(k:Nat)=>its.toArray[((sliceAdjust lo none c its.length).1+(k:Int)*c).toNat]?)=Yz its lo c:=by
  unfold Yz Xhu;simp
 rw[e]
 first
  | exact Va (m:=Vat _) (Vai (Vg ⟨_,rfl,Vg h⟩) hso)
  | exact Va (Va (m:=Vat _) (Vai (Vg ⟨_,rfl,Vg h⟩) hso))
end
theorem Xr4(its:List Value)(lo:Option Int)(hc:c<0):slicePick its.toArray lo none (some c)=(Yz its lo c).toArray:=by
 have hn:¬ c>0:=by omega
 have e1:(Va6 lo none (some c) its.length).1=(sliceAdjust lo none c its.length).1:=by
  unfold Va6 sliceAdjust;simp only[Vce,hn,hc,if_true,if_false];cases lo with
  | none=>rfl
  | some v=>dsimp only;split<;>omega
 have e2:(Va6 lo none (some c) its.length).2.1 = -1:=by
  unfold Va6;simp only[Vce,hn,if_false]
 have e3:(Va6 lo none (some c) its.length).2.2=c:=rfl;unfold slicePick Yz Xhu;rw[Vn,e1,e2,e3,(Xgn hc).2];generalize (sliceAdjust lo none c its.length).1=a;have e4:slicePlaces a (-1) c=(if a > -1 then (a - -1-c-1)/(-c) else 0).toNat:=by
  unfold slicePlaces;rw[if_neg hn];congr 1;split
  ·have:a - -1-c-1=(a - -1-1)+1*(-c):=by omega
   rw[this,Int.add_mul_ediv_right _ _ (by omega)]
  ·rfl
 unfold sliceRange;simp only[hn,if_false];rw[e4,Vdn];congr 2
 funext k
 simp only[Vdd,Vd9];rw[Int.mul_comm]
theorem Xf0{α β:Type}{f g:α->Option β}:∀ {l:List α},(∀ x∈l,f x=g x)->l.filterMap f=l.filterMap g
 | [],_=>rfl
 | x::l,h=>by rw[Ul,Ul,h x (by simp),Xf0 fun y hy=>h y (by simp[hy])]
theorem Xly{α:Type}:∀ (zs:List α),(Vc ((zs.length+1)/2)).filterMap (fun j=>zs[2*j]?)=alt zs
 | []=>by simp[alt]
 | [x]=>by simp[alt,Vdk]
 | x::y::r=>by
  have e:((x::y::r).length+1)/2=(r.length+1)/2+1:=by simp only[Ug];omega
  rw[e,Va8,Ul,Vdn];simp only[Nat.mul_zero,gZ0,alt];congr 1;rw[<- Xly r];congr 1
theorem Xzg{α:Type}(xs:List α):Yz xs none (-1)=xs.reverse:=by
 unfold Yz Xhu;have e1:(sliceAdjust none none (-1) (xs.length:Int))=((xs.length:Int)-1,-1):=rfl;rw[e1];have e2:slicePlaces ((xs.length:Int)-1) (-1) (-1)=xs.length:=by
  unfold slicePlaces;rw[if_neg (by decide)]
  split
  ·simp
  ·omega
 dsimp only;rw[e2];have:∀ (n:Nat) (ys:List α),ys.length=n->(Vc n).filterMap (fun k=>ys[k]?)=ys:=by
  intro n
  induction n with
  | zero=>intro ys h;rw[Veq h];rfl
  | succ n ih =>
   intro ys h;cases ys with
   | nil=>cases h
   | cons y ys =>
    rw[Va8,Ul,Vdn];simp only[gZ0];congr 1;exact ih ys (by simpa using h)
 rw[<- this xs.length xs.reverse (by simp)]
 refine Xf0 fun k hk=>?_
 have hk:=Vbd.mp hk;rw[Vea hk];congr 1;omega
theorem Xzh{α:Type}(k:Bool)(xs:List α):Yz xs (if k then some (-2) else none) (-2)=alt (xs.reverse.drop (if k then 1 else 0)):=by
 have key:∀ (lo:Option Int) (d:Nat),(sliceAdjust lo none (-2) (xs.length:Int)).1=max ((xs.length:Int)-1-d) (-1)->Yz xs lo (-2)=alt (xs.reverse.drop d):=by
  intro lo d h1;rw[<- Xly];unfold Yz Xhu;rw[h1,(Xgn (by decide)).2]
  have e2:slicePlaces (max ((xs.length:Int)-1-d) (-1)) (-1) (-2)=((xs.reverse.drop d).length+1)/2:=by
   unfold slicePlaces;rw[if_neg (by decide),Vc6,Veu]
   have:(- -2:Int)=2:=rfl;rw[this];split<;>omega
  rw[e2];refine Xf0 fun j hj=>?_
  have hj:=Vbd.mp hj;rw[Vc6,Veu] at hj;rw[List.getElem?_drop,Vea (by omega)]
  congr 1;omega
 cases k with
 | false=>exact key none 0 (by unfold sliceAdjust;simp;omega)
 | true=>exact key (some (-2)) 1 (by unfold sliceAdjust;simp;omega)
noncomputable def Xbu(l:Option Int)(c:Int)(x:D)(S:Sto):R D :=
 match x with
 | .tup xs=>.ok (.tup (Yz xs l c)) S
 | .ref n=>match Xc S n with
  | some xs=>.ok (.ref S.length) (S++[.lst (Yz xs l c)])
  | none=>.bad
 | _=>.bad
theorem Xux(x:D)(S:Sto):Xbu none (-1) x S=Xk3 x S:=by
 cases x<;>simp only[Xbu,Xk3,Xzg]<;>rfl
theorem Xuy(k:Bool)(x:D)(S:Sto):Xbu (if k then some (-2) else none) (-2) x S=Xfr k x S:=by
 cases x<;>simp only[Xbu,Xfr,Xzh]<;>rfl
section
variable{X:Cx}{pins:List (Addr×Obj)}{σ:L2.St}{H:Hp}{s:Shared}{ρ:List Addr}{S S':Sto}{env:En}{a:Expr}{fa:En->Sto->R D}{pos p2:Pos}
theorem X6o{lo:Option Expr}{st:Expr}{l:Option Int}{c:Int}(hc:c<0)(ha:DE X a fa)(hl:DO X lo (fun _ S=>.ok (l.map D.int) S))(hh:DO X (some st) (fun _ S=>.ok (some (.int c)) S)) :
  DE X (.Subscript a (.Slice lo none (some st) p2) pos) (fun env S=>(fa env S).bind fun x S=>Xbu l c x S):=by
 intro pins s σ H ρ S env I nb;dsimp only at nb ⊢;refine Subscript_ (ha.bind I nb rfl (fun d S1 u s1 v H1 ρ1 e1 nb1 I1 rv rd st1=>?_) fun _ _ z=>z)
 rw[e1];have cst:∀ {e:Option Expr} {o:Option D} {s2:Shared} {H2:Hp} {ρ2:List Addr} {Q:Value->Shared->Prop} {E:Value->Shared->Prop},DO X e (fun _ S=>.ok o S)->S0 X pins σ H2 s2 ρ2 S1 env->(∀ u s' H' ρ',S0 X pins σ H' s' ρ' S1 env->Xkg X.K ρ' H' o u->Stp X.K ρ2 ρ' H2 H'->Q u s') ->
   wpAny (model X.prog X.w) X.A (evalPart e X.env) Q E s2:=fun he I2 hQ=>by
  refine Vj (he pins _ σ _ _ S1 env I2 (fun z=>nomatch z)) (fun u s' ⟨o',S2,e,H',ρ',J,sr,st,pr⟩=>?_) fun x s' ⟨_,_,e,_⟩=>nomatch e
  cases e;exact hQ u s' H' ρ' (I2.step J sr st) pr st
 refine wpAny_Slice (cst hl I1 fun vl s2 H2 ρ2 I2 pl st2=>?_)
 rw[evalPart_none];refine Vg ?_;refine cst hh I2 fun vs s3 H3 ρ3 I3 ps st3=>?_
 have P1:IsPart vl l:=Xe2 pl (by cases l<;>rfl)
 have P2:IsPart vs (some c):=Xe2 ps rfl;have rd3:=(rd.mono st2).mono st3;have J:Inv X pins σ H3 { s3 with heap:=s3.heap.push { cls:=.type "slice",data:=.fields #[vl,.none,vs] } }:=I3.inv.kept (t':=s3.toks) fun b ob q=>Vb _ q
 have fin:∀ {T id:String},typeLookup (.type T) "__getitem__" = pure (some (.builtin id))->({ s3 with heap:=s3.heap.push { cls:=.type "slice",data:=.fields #[vl,.none,vs] } }:Shared).TypeIs u T ->
   wpAny (model X.prog X.w) X.A (getItem u (.ref s3.heap.objs.size)) (OkP X pins σ ρ3 H3 (Xbu l c d S1)) (ExP X pins σ ρ3 H3 (Xbu l c d S1)) { s3 with heap:=s3.heap.push { cls:=.type "slice",data:=.fields #[vl,.none,vs] } } ->
   wpAny (model X.prog X.w) X.A (Vc9 a (.Slice lo none (some st) p2) u (.ref s3.heap.objs.size)) (OkP X pins σ ρ H (Xbu l c d S1)) (ExP X pins σ ρ H (Xbu l c d S1)) { s3 with heap:=s3.heap.push { cls:=.type "slice",data:=.fields #[vl,.none,vs] } }:=fun t1 t2 g =>
  tail_any (ops:=[u,.ref s3.heap.objs.size]) t2 t1 (Vj g (fun _ _ z=>OkP.pre ((st1.trans st2).trans st3) z) fun _ _ z=>ExP.pre ((st1.trans st2).trans st3) z) (by with_unfolding_all rfl)
 cases d with
 | tup xs =>
  simp only[RD] at rd3;obtain⟨p,ws,rfl,hq,hr⟩:=rd3;cases rv;obtain⟨its,r,ht,hz⟩:=J.tuple hq;have hlen:=r.length;refine fin PyProof.Rows.slot_tuple_getitem.lookup ht.typeIs ?_;refine Xpp hc ht (Vcq ..) P1 P2 ?_ (by omega)
  refine Xcd (vs:=Yz ws l c) (J.laid (t':=s3.toks) (fun b ob q=>Vb _ q) (Vh _) ?_) (J.hok.fresh (Vh _)) I3.sr (Xr2 hr l c)
  exact⟨Vy (Xhw ws hc) hz,_,Xlw r l c,⟨_,Vk _ rfl,rfl,_,rfl⟩⟩
 | ref n =>
  cases e4:Xc S1 n with
  | none=>simp[Xbu,e4] at nb1
  | some xs =>
   obtain⟨b,ws,k1,k2,k3⟩:=I3.list e4;simp only[RD] at rd3;obtain⟨b',rfl,k4⟩:=rd3;rw[k1] at k4;cases k4;cases rv;obtain⟨its,r,ht,hz⟩:=J.list (.of k2);have hlen:=r.length;refine fin slot_list_getitem.lookup ht.isList.typeIs ?_;refine Vfo ht.isList (Vcq ..) P1 .none P2 (by intro z;cases z;omega) ?_ (by rw[Vn]<;>omega)
   rw[Xr4 _ _ hc];have e5:Xbu l c (.ref n) S1=.ok (.ref S1.length) (S1++[.lst (Yz xs l c)]):=by simp only[Xbu,e4]
   rw[e5];refine Xbr (vs:=Yz ws l c) (J.laid (t':=s3.toks) (fun b ob q=>Vb _ q) (Vh _) ?_) (J.hok.fresh (Vh _)) I3.sr (Xr2 k3 l c)
   exact⟨Vy (Xhw ws hc) hz,_,0,Xlw r l c,Vk _ rfl⟩
 | _=>exact absurd rfl nb1
theorem Xxm{i:Int}{e:Expr}(h:mnC i e=true):DO X (some e) (fun _ S=>.ok (some (.int (-i))) S):=by
 unfold mnC at h;split at h
 ·rename_i x p
  split at h
  ·rename_i j u q
   have:=eq_of_beq h;subst this;exact Xn9 (Xxk (fa:=fun _ S=>.ok (.int i) S) d_int)
  ·cases h
 ·cases h
theorem Xr5{i:Int}{l:Option Int}{e:Expr}(hi:0<i)(ha:DE X a fa)(h:Xhr i l e=true):DE X (.Subscript a e pos) (fun env S=>(fa env S).bind fun x S=>Xbu (l.map (- ·)) (-i) x S):=by
 unfold Xhr at h;split at h
 ·rename_i lo st p
  rw[bA0] at h;refine X6o (by omega) ha ?_ (Xxm h.1)
  have h2:=h.2;split at h2
  ·exact Xn8
  ·exact Xxm h2
  ·cases h2
 ·cases h
end
end Z
end
section
namespace Z
open PySem PySem.Spec PyProof.Rows L2
section
variable{X:Cx}{pins:List (Addr×Obj)}{σ:L2.St}{H:Hp}{s:Shared}{ρ:List Addr}{S:Sto}{env:En}{a b:Expr}{es:List Expr}{fa:En->Sto->R D}{g:En->Sto->R (List D)}{p pos pos':Pos}
end
section
variable(cm:Bool)(F:Fn)(G:List D)(fns:List (Str×Nat×Bool))(gns:List Str)
structure PF(X:Cx):Prop where
 blt:∀ x∈blts,X.mg x=none
 fn:∀ (f:Nat) nm ar fl,fns[f]?=some (nm,ar,fl)->(fl=true->cm=true)->∃ g fd ps k,FnD fl X.prog X.w X.K X.mg X.base k g fd ps (F f)/\RoomC fl k X.A/\Binds X.K fd ps []/\X.mg nm=some (.ref g)/\Vcc X.K (.ref g)=true/\ps.length=ar
 glb:∀ (k:Nat) nm,gns[k]?=some nm->∃ u d,X.mg nm=some u/\G[k]?=some d/\∀ ρ H,∃ v,RelV v u/\RD X.K ρ H d v
 cal:∀ (f:Nat) (nm:Str),Xbb f nm G=true->∃ ar fl,fns[f]?=some (nm,ar,fl)/\(∀ a,U6 X.K Vz nm=some (some (.ref a))->X.mg nm=some (.ref a))/\∀ xs S,F f xs S≠.bad->xs.length=ar
 units:X.A.units+200<cLine
 gd:X.A.guards=some []
 calm:cm=true->X.calm=true
 err:ErrOk X.K
theorem PF.blk(h:PF cm F G fns gns X)(pins:List (Addr×Obj))(s:Shared)(H:Hp)(sc:Scope)(cl:List (Str×Addr))(C:Addr)(own:List Str)(fp:List Addr):PF cm F G fns gns (blk X pins s H sc cl C own fp) :=
 ⟨h.blt,h.fn,h.glb,h.cal,h.units,h.gd,h.calm,h.err⟩
end
section
variable{X:Cx}{e:Expr}{f g:En->Sto->R D}
theorem DE.congr(h:DE X e f)(q:∀ env S,g env S=f env S):DE X e g:=by
 have:g=f:=funext fun env=>funext fun S=>q env S
 rw[this];exact h
theorem DT.congr{f g:En->Sto->R Bool}(h:DT X e f)(q:∀ env S,g env S=f env S):DT X e g:=by
 have:g=f:=funext fun env=>funext fun S=>q env S
 rw[this];exact h
theorem X3m(hnd:X.N.Nodup)(ht:∀ x,top x=true->X.fn x=true)(is:List Nat)(es:List Expr)(h:mtT.namesB top X.env.scope X.N is es=true):(∀ E,PGs (X.wish E) es (gNs is))/\(U8 es X.env).length=is.length/\(U8 es X.env).findIdx? (·.1)=none:=by
 have key:∀ (is:List Nat) (es:List Expr),mtT.namesB top X.env.scope X.N is es=true->∃ xs:List (Str×Pos),es=xs.map (fun x=>Expr.Name x.1 x.2)/\is.length=xs.length/\∀ (j i:Nat) (x:Str×Pos),is[j]?=some i->xs[j]?=some x->X.N[i]?=some x.1/\Loc X.env.scope x.1/\(X.fn x.1=true\/X.env.scope.names.lookup x.1=some .local):=by
  intro is
  induction is with
  | nil =>
   intro es h;cases es with
   | nil=>exact⟨[],rfl,rfl,fun j i x e1 _=>by simp at e1⟩
   | cons _ _=>simp[mtT.namesB] at h
  | cons i is ih =>
   intro es h;cases es with
   | nil=>simp[mtT.namesB] at h
   | cons e es =>
    simp only[mtT.namesB,bA0] at h;obtain⟨x,h1,h2⟩:=Xd h.1;obtain⟨p,rfl⟩:=Xay h1;rw[bA0,decide_eq_true_eq] at h2;obtain⟨xs,e1,e2,e3⟩:=ih es h.2;obtain⟨l1,l2⟩:=Xc6 rfl ht h2.2;refine⟨(x,p)::xs,by rw[e1];rfl,by simp[e2],fun j i' x' q1 q2=>?_⟩
    cases j with
    | zero=>simp at q1 q2;subst q1 q2;exact⟨h2.1,l1,l2⟩
    | succ j=>exact e3 j i' x' (by simpa using q1) (by simpa using q2)
 obtain⟨xs,e1,e2,e3⟩:=key is es h;subst e1;have nm:=Xgj xs X.env;exact⟨fun E=>Xrh (X:=X.wish E) is xs hnd e2 e3,by rw[nm.1,e2],nm.2⟩
theorem X8a(hnd:X.N.Nodup)(ht:∀ x,top x=true->X.fn x=true)(h:mtT top X.env.scope X.N (.tup is) tg=true):∃ es k p,tg=.Tuple es k p/\(∀ E,PGs (X.wish E) es (gNs is))/\(U8 es X.env).length=is.length/\(U8 es X.env).findIdx? (·.1)=none:=by
 simp only[mtT] at h;obtain⟨es,h1,h⟩:=Xd h;obtain⟨k,p,rfl⟩:=Xa3 h1;exact⟨es,k,p,rfl,X3m hnd ht is es h⟩
theorem dgB(hN:X.N=N)(hs:X.env.scope=sc)(hnd:N.Nodup)(hc:X2v t=false->X.calm=true)(ht:∀ x,top x=true->X.fn x=true)(h:mtT top sc N t tg=true):DG X tg t:=by
 subst hN hs;cases t with
 | var i =>
  simp only[mtT] at h;obtain⟨x,h1,h2⟩:=Xd h;obtain⟨p,rfl⟩:=Xay h1;rw[bA0,decide_eq_true_eq] at h2;obtain⟨l1,l2⟩:=Xc6 rfl ht h2.2;exact Xyj hnd h2.1 l1 l2
 | tup is =>
  obtain⟨es,k,p,rfl,q1,q2,q3⟩:=X8a hnd ht h;exact X2c (hc rfl) q1 q2 q3
 | nst i is =>
  simp only[mtT] at h;obtain⟨es,h1,hq⟩:=Xd h;obtain⟨k,p,rfl⟩:=Xa3 h1;clear h;obtain⟨⟨a,b⟩,h2,h⟩:=Xd hq;have e:=Xy1 h2;subst e;rw[bA0] at h;obtain⟨x,h3,h4⟩:=Xd h.1;obtain⟨es2,h5,h6⟩:=Xd h.2;obtain⟨p2,e2⟩:=Xay h3;obtain⟨k3,p3,e3⟩:=Xa3 h5;dsimp only at e2 e3;subst e2 e3;rw[bA0,decide_eq_true_eq] at h4;obtain⟨l1,l2⟩:=Xc6 rfl ht h4.2;obtain⟨q1,q2,q3⟩:=X3m hnd ht is es2 h6;exact X2d (hc rfl) (fun E=>Xnr (X:=X.wish E) hnd h4.1 l1 l2) q1 q2 q3
end
theorem Xoa:∀ (es:Exs) (xs:List Expr),mts cm fns gns sc N es xs=true->∀ env S ds S',evs F G es env S=.ok ds S'->ds.length=xs.length
 | .nil,[],_,env,S,ds,S',h=>by simp only[evs] at h;cases h;rfl
 | .nil,_::_,h,_,_,_,_,_=>by simp[mts] at h
 | .cons _ _,[],h,_,_,_,_,_=>by simp[mts] at h
 | .cons e es,x::xs,h,env,S,ds,S',q=>by
  simp only[mts,bA0] at h;simp only[evs] at q;cases q1:ev F G e env S with
  | bad=>rw[q1] at q;cases q
  | ex _ _=>rw[q1] at q;cases q
  | ok d S1 =>
   rw[q1] at q;simp only[Rk0] at q;cases q2:evs F G es env S1 with
   | bad=>rw[q2] at q;cases q
   | ex _ _=>rw[q2] at q;cases q
   | ok ds' S2 =>
    rw[q2] at q;simp only[Rk0] at q;cases q;simp[Xoa es xs h.2 env S1 ds' _ q2]
theorem Xap:∀ (es:Exs) (xs:List Expr),mts cm fns gns sc N es xs=true->xs.all Yu=true
 | .nil,[],_=>rfl
 | .nil,_::_,h=>by simp[mts] at h
 | .cons _ _,[],h=>by simp[mts] at h
 | .cons e es,x::xs,h=>by
  simp only[mts,bA0] at h;rw[Val,h.1.1,Xap es xs h.2];rfl
theorem Xzi{k:Bl}{nm:Str}{b:Bool}{id:String}(h:Xph k=some (nm,b,id))(hsm:∃ o,X.K.lookup Vb7=some o)(hgd:X.A.guards=some [])(hun:X.A.units+200<cLine)(hc:Xpi k=false->X.calm=true):nm∈blts/\(if b then Vcd nm=some (.builtin id)/\BlR X k (.builtin id) else Vcd nm=some (.type id)/\BlR X k (.type id)):=by
 cases k<;>simp only[Xph,Vi,Vdc,reduceCtorEq] at h<;>obtain⟨rfl,rfl,rfl⟩:=h
 case len=>exact⟨by decide,PySem.boot_len,X6a⟩
 case min=>exact⟨by decide,by decide+kernel,X6e (hc rfl)⟩
 case max=>exact⟨by decide,by decide+kernel,X6d (hc rfl)⟩
 case sum=>exact⟨by decide,by decide+kernel,X6c (hc rfl)⟩
 case all=>exact⟨by decide,by decide+kernel,X6b (hc rfl)⟩
 case tuple=>exact⟨by decide,by decide+kernel,Xyp⟩
 case list=>exact⟨by decide,by decide+kernel,X2m⟩
 case repr=>exact⟨by decide,by decide+kernel,X2t hsm hgd hun⟩
 case int=>exact⟨by decide,by decide+kernel,X6h⟩
section
variable{F:Fn}{G:List D}{cm:Bool}{fns:List (Str×Nat×Bool)}{gns:List Str}
theorem Xzj(h:Xun fx=true)(args:List Expr)(pos:Pos)(env:Vah):eval (.Call fx args [] pos) env=(do callWith pos (<- eval fx env) [] (backTo pos (Vx args env)) (backToKw pos (keywordEach [] env))):=by
 cases fx<;>first|rfl|cases h
theorem X6p(hp:PF cm F G fns gns X)(hc:cm=true)(hx:∀ (args:List Expr) (pos:Pos) (env:Vah),eval (.Call fx args [] pos) env=(do callWith pos (<- eval fx env) [] (backTo pos (Vx args env)) (backToKw pos (keywordEach [] env))))
  (hf:DE X fx f) (ha:DA X (e::es) ga) (he:Vx (e::es) X.env=(false,eval e X.env)::Vx es X.env) (hpl:(backTo pos (Vx es X.env)).any (·.1)=false) :
  DE X (.Call fx (e::es) [] pos) (fun env S=>(f env S).bind fun x S=>match x with
   | .fn k nm=>if Xbb k nm G then (ga env S).bind fun xs S=>F k xs S else .bad
   | _=>.bad):=by
 intro pins s σ H ρ S env I nb;dsimp only at nb ⊢;rw[hx];refine Va (hf.bind I nb rfl (fun d S1 u s1 v H1 ρ1 e1 nb1 I1 rv rd st1=>?_) fun _ _ z=>z)
 rw[e1];cases d with
 | fn k nm =>
  dsimp only at nb1 ⊢
  by_cases hi:Xbb k nm G=true
  ·rw[if_pos hi] at nb1 ⊢
   obtain⟨ar,fl,q1,q2,q3⟩:=hp.cal k nm hi;obtain⟨g,fd,ps,kk,c1,c2,c3,c4,c5,c6⟩:=hp.fn k nm ar fl q1 fun _=>hc
   simp only[RD] at rd;obtain⟨a,rfl,hn⟩:=rd;have:=(q2 a hn).symm.trans c4;cases this;cases rv;cases q:ga env S1 with
   | bad=>rw[q] at nb1;exact absurd rfl nb1
   | ex n S2=>exact Vdq (h₀:=X.base) I1.inv.ok.mod.kin c5 (ha.ex I1 q fun x s' z=>⟨n,S2,rfl,z.pre st1⟩) he hpl
   | ok ds S2 =>
    rw[q] at nb1;simp only[Rk0] at nb1 ⊢;refine Vdq (h₀:=X.base) I1.inv.ok.mod.kin c5 (ha.ok I1 q fun us s2 vs H2 ρ2 I2 rv2 rd2 st2=>⟨I2.inv.kIn,?_⟩) he hpl
    exact Vj (Xxi c1 c2 c3 I2 rv2 rd2 (by rw[c6];exact q3 _ _ nb1) nb1) (fun u s2 z=>(z.pre st2).pre st1) fun x s2 z=>(z.pre st2).pre st1
  ·rw[if_neg hi] at nb1;exact absurd rfl nb1
 | _=>exact absurd rfl nb1
theorem Yp(h:DE X e f)(he:∀ whole,isTrue e X.env whole=(do let v <- whole;standAt e.pos;holding [v] (truthy v))):DE X e f/\DT X e (fun env S=>tst (f env S)):=⟨h,.of h he⟩
theorem DW.of(h:DT X (.BoolOp op ys p) g):DW X (.BoolOp op ys p) g:=fun _=>h
def X3n(F:Fn)(G:List D)(X:Cx)(sc2:Scope)(N2:List Str)(PFY:Cx->Prop):Gens->List Va9->Prop
 | .cons t it ifs .nil,gens=>∃ tg iter cs,gens=[⟨tg,iter,cs,0⟩]/\Xbl iter=true/\mtT (Xbt X.N N2) sc2 N2 t tg=true/\DI X tg iter (evit F G it)/\∀ Y:Cx,Y.N=N2->Y.env.scope=sc2->PFY Y->DTs Y cs (evts F G ifs)
 | .cons t it ifs (.cons t2 it2 ifs2 .nil),gens=>∃ tg iter cs tg2 iter2 cs2,gens=[⟨tg,iter,cs,0⟩,⟨tg2,iter2,cs2,0⟩]/\Xbl iter=true/\Xbl iter2=true/\mtT (Xbt X.N N2) sc2 N2 t tg=true/\mtT (Xbt X.N N2) sc2 N2 t2 tg2=true/\DI X tg iter (evit F G it) /\
   (∀ Y:Cx,Y.N=N2->Y.env.scope=sc2->PFY Y->DTs Y cs (evts F G ifs))/\(∀ Y:Cx,Y.N=N2->Y.env.scope=sc2->PFY Y->DI Y tg2 iter2 (evit F G it2))/\∀ Y:Cx,Y.N=N2->Y.env.scope=sc2->PFY Y->DTs Y cs2 (evts F G ifs2)
 | _,_=>False
structure CompP(X:Cx)(elt:Expr)(gens:List Va9)(scope:Scope)(cpos:Pos)(own:List Str)(f:En->Sto->R D) where
 tg:Expr
 iter:Expr
 ifs:List Expr
 t:Tg
 fi:En->Sto->R Src
 tf:En->Sto->R Bool
 body:En->List D->Sto->R (List D)
 hg:gens=⟨tg,iter,ifs,0⟩::gens.tail
 hi:DI X tg iter fi
 hs:∀ x,Vaq iter X.env x=pure x
 hG:∀ pins s H cl C fp,DG (blk X pins s H scope cl C own fp) tg t
 hT:∀ pins s H cl C fp,DTs (blk X pins s H scope cl C own fp) ifs tf
 hB:∀ pins s H cl C fp Da,Xcv (blk X pins s H scope cl C own fp) Da elt gens scope cpos 0 body
 eq:f=Xec fi t own.length tf body
theorem Xob(hN:X.N=N)(hs:X.env.scope=sc)(hp:PF cm F G fns gns X)(hc:X.calm=true)(so:ScOk sc scope N (Xaa scope))
  (hg:X3n F G X (Xfu scope sc) (Xao N (Xaa scope)) (PF cm F G fns gns) gs gens) (he:∀ Y:Cx,Y.N=Xao N (Xaa scope)->Y.env.scope=Xfu scope sc->PF cm F G fns gns Y->DE Y elt (ev F G xe)) :
  Nonempty (CompP X elt gens scope p (Xaa scope) (ev F G (.cmr false (Xaa scope).length gs xe))):=by
 subst hN hs;have hY:∀ pins s H cl C fp,PF cm F G fns gns (blk X pins s H scope cl C (Xaa scope) fp):=fun pins s H cl C fp=>PF.blk cm F G fns gns hp pins s H scope cl C (Xaa scope) fp
 have hTg:∀ {t:Tg} {tg:Expr},mtT (Xbt X.N (Xao X.N (Xaa scope))) (Xfu scope X.env.scope) (Xao X.N (Xaa scope)) t tg=true->∀ pins s H cl C fp,DG (blk X pins s H scope cl C (Xaa scope) fp) tg t:=fun h pins s H cl C fp=>dgB (top:=Xbt X.N (Xao X.N (Xaa scope))) rfl rfl so.nd (fun _=>hc) (fun _ z=>Xyv z) h
 match gs,hg with
 | .cons t it ifs .nil,hg =>
  obtain⟨tg,iter,cs,rfl,n1,m1,i1,t1⟩:=hg;refine⟨⟨tg,iter,cs,t,evit F G it,evts F G ifs,_,rfl,i1,Xdy n1,hTg m1,fun pins s H cl C fp=>t1 _ rfl rfl (hY pins s H cl C fp),fun pins s H cl C fp Da=>Xjq rfl (he _ rfl rfl (hY pins s H cl C fp)),?_⟩⟩
  funext env S
  simp only[ev,Xec];rfl
 | .cons t it ifs (.cons t2 it2 ifs2 .nil),hg =>
  obtain⟨tg,iter,cs,tg2,iter2,cs2,rfl,n1,n2,m1,m2,i1,t1,i2,t2'⟩:=hg;refine⟨⟨tg,iter,cs,t,evit F G it,evts F G ifs,_,rfl,i1,Xdy n1,hTg m1,fun pins s H cl C fp=>t1 _ rfl rfl (hY pins s H cl C fp),
   fun pins s H cl C fp Da=>Xrn hc rfl (i2 _ rfl rfl (hY pins s H cl C fp)) (Xdy n2) (hTg m2 pins s H cl C fp) (t2' _ rfl rfl (hY pins s H cl C fp)) (Xjq rfl (he _ rfl rfl (hY pins s H cl C fp))),?_⟩⟩
  funext env S
  simp only[ev,Xec];rfl
theorem Xuz {k:Bl} {es:Exs} {x:Str} {ys:List Expr} (hsm:∃ o,X.K.lookup Vb7=some o) (hgd:X.A.guards=some []) (hun:X.A.units+200<cLine) (hg:Gl X x) (hb:∀ x∈blts,X.mg x=none) (hc:Xpi k=false->X.calm=true) (h1:blB k x=true) (o1:(x==("__debug__" : Str))=false) (o3:x ≠ "__name__") (ih:DA X (y::ys) (evs F G es))
  (he:Vx (y::ys) X.env=(false,eval y X.env)::Vx ys X.env) (hpl:(backTo p (Vx ys X.env)).any (·.1)=false):DE X (.Call (.Name x p0) (y::ys) [] p) (ev F G (.blt k es)):=by
 unfold blB at h1;cases q:Xph k with
 | none=>rw[q] at h1;cases h1
 | some z =>
  obtain⟨nm,b,id⟩:=z;rw[q] at h1;dsimp only at h1;have e1:x=nm:=of_decide_eq_true h1;subst e1;obtain⟨m1,m2⟩:=Xzi q hsm hgd hun hc;cases b with
  | true =>
   rw[if_pos rfl] at m2;exact(X2r m2.2 hg (hb _ m1) m2.1 ih o3 o1 he hpl).congr fun env S=>by simp only[ev]
  | false =>
   rw[if_neg V9] at m2;exact(X2s m2.2 hg (hb _ m1) m2.1 ih o3 o1 he hpl).congr fun env S=>by simp only[ev]
theorem Xu0(h1:mtB k nm=true)(h2:Xpe ox=true)(h3:(ap.endLine==cp.line)=true)(h4:(y::ys).length<29)(io:DE X ox (ev F G o))(ih:DA X (y::ys) (evs F G es))(st:(y::ys).all Yu=true) :
  DE X (.Call (.Attribute ox nm ap) (y::ys) [] cp) (ev F G (.mth k o es)):=by
 have hfew:((backTo cp (Vx (y::ys) X.env)).all (fun x=>!x.1)&&(backToKw cp (keywordEach [] X.env)).all (fun x=>x.1.isSome)&&decide ((y::ys).length+([]:List Keyword).length+(if ([]:List Keyword).isEmpty then 0 else 1)<30))=true:=by
  rw[Xum st];have:(y::ys).length+([]:List Keyword).length+(if ([]:List Keyword).isEmpty then 0 else 1)<30:=by
   simp only[Vel,List.isEmpty_nil,if_true];omega
  rw[decide_eq_true this];rfl
 rw[Val,bA0] at st;have rcv:∀ {m:Mt} (x:D) (S:Sto),Xac m x S=true->∃ n xs,x=.ref n/\Xc S n=some xs:=fun {m} x S h=>by
  cases x with
  | ref n =>
   have h':(Xc S n).isSome=true:=h;obtain⟨xs,e⟩:=Vbn.mp h';exact⟨n,xs,rfl,e⟩
  | _=>cases h
 cases k with
 | append =>
  have e1:nm = "append" := of_decide_eq_true h1;subst e1;exact(Xlm (m:=.append) (id := "list.append") PySem.F.slot_list_append PySem.F.type_list_append Xuj rcv io ih (Xhn h2) hfew h3 (Xp st.1) (Xah st.2)).congr fun env S=>by simp only[ev]
 | count =>
  have e1:nm = "count" := of_decide_eq_true h1;subst e1;exact(Xlm (m:=.count) (id := "list.count") PySem.F.slot_list_count PySem.F.type_list_count Xys rcv io ih (Xhn h2) hfew h3 (Xp st.1) (Xah st.2)).congr fun env S=>by simp only[ev]
 | index =>
  have e1:nm = "index" := of_decide_eq_true h1;subst e1;exact(Xlm (m:=.index) (id := "list.index") PySem.F.slot_list_index PySem.F.type_list_index Xyt rcv io ih (Xhn h2) hfew h3 (Xp st.1) (Xah st.2)).congr fun env S=>by simp only[ev]
theorem Xu1 (er:ErrOk X.K) (hb:∀ x∈blts,X.mg x=none) (hg0:Gl X "isinstance") (hg:Gl X nm) (hok:Y9 nm=true) (ht:tyB sc t nm=true) (ha:DE X a fa) (hst:Yu a=true) :
  DE X (.Call (.Name "isinstance" p0) [a,.Name nm p1] [] pos) (fun env S=>(fa env S).bind fun x S=>match (kdD S x).bind fun k=>Yq k [t] with|some r=>.ok (.bl r) S|none=>.bad):=by
 cases t with
 | cls c=>exact Xr0 er (.inl ⟨c,rfl,of_decide_eq_true ht⟩) hb hg0 hg hok ha hst
 | valueError=>exact Xr0 er (.inr ⟨rfl,of_decide_eq_true ht⟩) hb hg0 hg hok ha hst
 | int=>have e:=of_decide_eq_true ht;subst e;exact Xda (t:=.int) rfl hb hg0 hg hok ha hst
 | bool=>have e:=of_decide_eq_true ht;subst e;exact Xda (t:=.bool) rfl hb hg0 hg hok ha hst
 | str=>have e:=of_decide_eq_true ht;subst e;exact Xda (t:=.str) rfl hb hg0 hg hok ha hst
 | tuple=>have e:=of_decide_eq_true ht;subst e;exact Xda (t:=.tuple) rfl hb hg0 hg hok ha hst
 | list=>have e:=of_decide_eq_true ht;subst e;exact Xda (t:=.list) rfl hb hg0 hg hok ha hst
 | dict=>have e:=of_decide_eq_true ht;subst e;exact Xda (t:=.dict) rfl hb hg0 hg hok ha hst
theorem Xxn(hb:Xls t=true)(h:tyB sc t nm=true):∃ T,Xbm t=some (nm,T):=by
 cases t with
 | cls c=>cases hb
 | valueError=>cases hb
 | _=>have e:=of_decide_eq_true h;subst e;exact⟨_,rfl⟩
theorem Xzk (er:ErrOk X.K) (hb:∀ x∈blts,X.mg x=none) (hs:X.env.scope=sc) (hg0:Gl X "isinstance") (ht:tyM sc ts y=true) (ha:DE X a fa) (hst:Yu a=true) :
  DE X (.Call (.Name "isinstance" p0) [a,y] [] pos) (fun env S=>(fa env S).bind fun x S=>match (kdD S x).bind fun k=>Yq k ts with|some r=>.ok (.bl r) S|none=>.bad):=by
 rcases X3g ht with⟨t,nm,p,rfl,rfl,h1,h2,h3⟩|⟨t1,t2,n1,n2,p1,p2,k,p,rfl,rfl,h1,h2,h3,h4,h5,h6,h7,h8⟩
 ·exact Xu1 er hb hg0 (Y1 hs h1) h2 h3 ha hst
 ·obtain⟨T1,q1⟩:=Xxn h5 h7
  obtain⟨T2,q2⟩:=Xxn h6 h8;exact X3l q1 q2 hb hg0 (Y1 hs h1) (Y1 hs h3) h2 h4 ha hst
set_option maxHeartbeats 0 in
theorem X3o{k:Nat}(h:Xhp d c=true):DE X (.Constant c k p) (ev F G (.cst d)):=by
 cases d with
 | int i=>cases c with
  | int j=>simp only[Xhp,beq_iff_eq] at h;subst h;exact d_int.congr fun env S=>by simp only[ev]
  | _=>cases h
 | bl i=>cases c with
  | bool j=>simp only[Xhp,beq_iff_eq] at h;subst h;exact d_bl.congr fun env S=>by simp only[ev]
  | _=>cases h
 | non=>cases c with
  | none=>exact d_non.congr fun env S=>by simp only[ev]
  | _=>cases h
 | str i=>cases c with
  | str j=>simp only[Xhp,decide_eq_true_eq] at h;subst h;exact d_str.congr fun env S=>by simp only[ev]
  | _=>cases h
 | _=>cases h
mutual
theorem snd:∀ (x:Ex) (X:Cx) (sc:Scope) (N:List Str) (e:Expr),X.N=N->X.env.scope=sc->PF cm F G fns gns X->mt cm fns gns sc N x e=true->DE X e (ev F G x)/\DT X e (fun env S=>tst (ev F G x env S))
 | .nev,X,sc,N,e,hN,hs,hp,h=>⟨fun _ _ _ _ _ _ _ _ nb=>absurd (by simp only[ev]) nb,fun _ _ _ _ _ _ _ _ nb=>absurd (by simp only[ev]<;>rfl) nb⟩
 | .var i,X,sc,N,e,hN,hs,hp,h=>by
  obtain⟨x,p,rfl,h1,h2,h3⟩:=X20 h;subst hN hs;obtain⟨o1,o2,_⟩:=Xat h3;exact Yp ((X5r h1 (Xyu h2) o1 o2).congr fun env S=>by simp only[ev]<;>rfl) fun _=>rfl
 | .cst d,X,sc,N,e,hN,hs,hp,h=>by
  obtain⟨c,k,p,rfl,h⟩:=X21 h;exact Yp (X3o h) fun _=>rfl
 | .neg a,X,sc,N,e,hN,hs,hp,h=>by
  obtain⟨x,p,rfl,h⟩:=X22 h;exact Yp ((Xxk (snd a X sc N x hN hs hp h).1).congr fun env S=>by simp only[ev]<;>rfl) fun _=>rfl
 | .glb k,X,sc,N,e,hN,hs,hp,h=>by
  obtain⟨x,p,rfl,h1,h2,h3⟩:=X24 h;obtain⟨o1,o2,_⟩:=Xat h3;obtain⟨u,d,q1,q2,q3⟩:=hp.glb k x h1;exact Yp ((X6g (Y1 hs h2) q1 q3 o1).congr fun env S=>by simp only[ev,q2]) fun _=>rfl
 | .tup es,X,sc,N,e,hN,hs,hp,h=>by
  obtain⟨xs,k,p,rfl,h⟩:=X25 h;exact Yp ((X5s (snds es X sc N xs hN hs hp h)).congr fun env S=>by simp only[ev]) fun _=>rfl
 | .lst es,X,sc,N,e,hN,hs,hp,h=>by
  obtain⟨xs,p,rfl,h⟩:=X26 h;exact Yp ((X5t (snds es X sc N xs hN hs hp h)).congr fun env S=>by simp only[ev]) fun _=>rfl
 | .bin op a b,X,sc,N,e,hN,hs,hp,h=>by
  obtain⟨x,y,p,rfl,h1,h2⟩:=X27 h;exact Yp ((X5u (X56 op) (snd a X sc N x hN hs hp h1).1 (snd b X sc N y hN hs hp h2).1).congr fun env S=>by simp only[ev]) fun _=>rfl
 | .cmp op a b,X,sc,N,e,hN,hs,hp,h=>by
  obtain⟨x,y,p,rfl,h1,h2,h3⟩:=X28 h;have ha:=(snd a X sc N x hN hs hp h2).1;have hb:=(snd b X sc N y hN hs hp h3).1;exact⟨(X5v (Xey hp.units op) ha hb h1).congr fun env S=>by simp only[ev],(X10 (Xey hp.units op) ha hb h1).congr fun env S=>by simp only[ev]⟩
 | .chn o1 o2 a b c,X,sc,N,e,hN,hs,hp,h=>by
  obtain⟨x,y,z,p,rfl,h1,h2,h3,h4⟩:=X29 h;have ha:=(snd a X sc N x hN hs hp h2).1;have hb:=(snd b X sc N y hN hs hp h3).1;have hc:=(snd c X sc N z hN hs hp h4).1;exact⟨(X6f (Xey hp.units o1) (Xey hp.units o2) ha hb hc h1).congr fun env S=>by simp only[ev,Y8]<;>rfl,(X2q (Xey hp.units o1) (Xey hp.units o2) ha hb hc h1).congr fun env S=>by simp only[ev,Y8]<;>rfl⟩
 | .and a b,X,sc,N,e,hN,hs,hp,h=>by
  rcases X3a h with⟨x,y,p,rfl,h1,h2⟩|⟨x,y,z,r,p,rfl,h1,h2⟩
  ·have ha:=snd a X sc N x hN hs hp h1
   have hb:=snd b X sc N y hN hs hp h2;exact⟨(Xxf ha.1 (Xxg hb.1)).congr fun env S=>by simp only[ev]<;>rfl,((Xq7 ha.2 (Xya hb.2)).dt).congr fun env S=>by simp only[ev]<;>rfl⟩
  ·have ha:=snd a X sc N x hN hs hp h1
   have hb:=snd b X sc N (.BoolOp .And (y::z::r) p) hN hs hp h2;exact⟨(Xxf ha.1 hb.1).congr fun env S=>by simp only[ev]<;>rfl,((Xq7 ha.2 (.of hb.2)).dt).congr fun env S=>by simp only[ev]<;>rfl⟩
 | .or a b,X,sc,N,e,hN,hs,hp,h=>by
  rcases X6m h with⟨x,y,p,rfl,h1,h2⟩|⟨x,y,z,r,p,rfl,h1,h2⟩
  ·have ha:=snd a X sc N x hN hs hp h1
   have hb:=snd b X sc N y hN hs hp h2;exact⟨(X11 ha.1 (Xxg hb.1)).congr fun env S=>by simp only[ev]<;>rfl,((Xxh ha.2 (X13 hb.2)).dt).congr fun env S=>by simp only[ev]<;>rfl⟩
  ·have ha:=snd a X sc N x hN hs hp h1
   have hb:=snd b X sc N (.BoolOp .Or (y::z::r) p) hN hs hp h2;exact⟨(X11 ha.1 hb.1).congr fun env S=>by simp only[ev]<;>rfl,((Xxh ha.2 (.of hb.2)).dt).congr fun env S=>by simp only[ev]<;>rfl⟩
 | .not a,X,sc,N,e,hN,hs,hp,h=>by
  obtain⟨x,p,rfl,h⟩:=X23 h;have ha:=snd a X sc N x hN hs hp h;exact⟨(X5w ha.2 ha.1).congr fun env S=>by simp only[ev]<;>rfl,(X12 ha.2).congr fun env S=>by simp only[ev]<;>rfl⟩
 | .ite c a b,X,sc,N,e,hN,hs,hp,h=>by
  obtain⟨x,y,z,p,rfl,h1,h2,h3⟩:=X3b h;have hc:=snd c X sc N x hN hs hp h1;have ha:=snd a X sc N y hN hs hp h2;have hb:=snd b X sc N z hN hs hp h3;exact⟨(X5x hc.2 ha.1 hb.1).congr fun env S=>by simp only[ev]<;>rfl,(X2p hc.2 ha.2 hb.2).congr fun env S=>by simp only[ev]<;>rfl⟩
 | .idx a i,X,sc,N,e,hN,hs,hp,h=>by
  obtain⟨x,y,p,rfl,h1,h2,h3⟩:=X3c h;exact Yp ((X58 (Xpd h1) (snd a X sc N x hN hs hp h2).1 (snd i X sc N y hN hs hp h3).1).congr fun env S=>by simp only[ev]) fun _=>rfl
 | .sli a lo hi,X,sc,N,e,hN,hs,hp,h=>by
  obtain⟨x,l,u,p2,p,rfl,h1,h2,h3⟩:=X3h h;exact Yp ((X6n (snd a X sc N x hN hs hp h1).1 (sndo lo X sc N l hN hs hp h2) (sndo hi X sc N u hN hs hp h3)).congr fun env S=>by simp only[ev]<;>rfl) fun _=>rfl
 | .rev a,X,sc,N,e,hN,hs,hp,h=>by
  obtain⟨x,y,p,rfl,h1,h2⟩:=X3j h;exact Yp ((Xr5 (by decide) (snd a X sc N x hN hs hp h2).1 h1).congr fun env S=>by simp only[ev];congr 1;funext x S;exact(Xux x S).symm) fun _=>rfl
 | .rv2 k a,X,sc,N,e,hN,hs,hp,h=>by
  obtain⟨x,y,p,rfl,h1,h2⟩:=X3k h;exact Yp ((Xr5 (by decide) (snd a X sc N x hN hs hp h2).1 h1).congr fun env S=>by simp only[ev];congr 1;funext x S;rw[<- Xuy k x S];cases k<;>rfl) fun _=>rfl
 | .cal f es,X,sc,N,e,hN,hs,hp,h=>by
  obtain⟨fx,y,ys,p,rfl,h1,h2,h3,h4⟩:=X3i h;have st:=Xap es (y::ys) h4;rw[Val,bA0] at st;exact Yp ((X6p hp h1 (Xzj h2) (snd f X sc N fx hN hs hp h3).1 (snds es X sc N (y::ys) hN hs hp h4) (Xp st.1) (Xah st.2)).congr fun env S=>by simp only[ev]<;>rfl) fun _=>rfl
 | .lenm a,X,sc,N,e,hN,hs,hp,h=>by
  obtain⟨p,p2,x,cp,cp2,rfl,h1,h2,h3,h4,h5⟩:=Xy7 h;have ih:=(snd a X sc N x hN hs hp h5).1;exact Yp ((X2u (hp.calm h1) (Y1 hs h2) (hp.blt _ (by decide)) (Y1 hs h3) (hp.blt _ (by decide)) ih (Xp h4)).congr fun env S=>by simp only[ev]<;>rfl) fun _=>rfl
 | .isi a ts,X,sc,N,e,hN,hs,hp,h=>by
  obtain⟨p0,x,y,cp,rfl,h1,h2,h3,h4⟩:=X3f h;have ih:=(snd a X sc N x hN hs hp h3).1;exact Yp ((Xzk hp.err hp.blt hs (Y1 hs h1) h4 ih h2).congr fun env S=>by simp only[ev]<;>rfl) fun _=>rfl
 | .call f es,X,sc,N,e,hN,hs,hp,h=>by
  obtain⟨x,p0,y,ys,p,rfl,h1,h2,h3,h4⟩:=Xy8 h;obtain⟨o1,o2,_⟩:=Xat h3;obtain⟨fl,h1,hfl⟩:=h1;obtain⟨g,fd,ps,k,c1,c2,c3,c4,c5,c6⟩:=hp.fn f x _ fl h1 hfl;have st:=Xap es (y::ys) h4;rw[Val,bA0] at st;exact Yp ((X16 c1 c2 c3 (Y1 hs h2) c4 c5 (snds es X sc N (y::ys) hN hs hp h4) (fun env S ds S' q=>by rw[c6];exact Xoa es (y::ys) h4 env S ds S' q) o1 (Xp st.1) (Xah st.2)).congr fun env S=>by simp only[ev]) fun _=>rfl
 | .blt k es,X,sc,N,e,hN,hs,hp,h=>by
  obtain⟨x,p0,y,ys,p,rfl,h1,hq,h2,h3,h4⟩:=X3d h;obtain⟨o1,o2,o3⟩:=Xat h3;have st:=Xap es (y::ys) h4;rw[Val,bA0] at st;have ih:=snds es X sc N (y::ys) hN hs hp h4;exact Yp (Xuz hp.err.sm hp.gd hp.units (Y1 hs h2) hp.blt (fun z=>hp.calm (by rw[z,Vd4] at hq;exact hq)) h1 o1 o3 ih (Xp st.1) (Xah st.2)) fun _=>rfl
 | .mth k o es,X,sc,N,e,hN,hs,hp,h=>by
  obtain⟨ox,nm,ap,y,ys,cp,rfl,h1,h2,h3,h4,h5,h6⟩:=X3e h;have st:=Xap es (y::ys) h6;have ih:=snds es X sc N (y::ys) hN hs hp h6;have io:=(snd o X sc N ox hN hs hp h5).1;exact Yp (Xu0 h1 h2 h3 h4 io ih st) fun _=>rfl
 | .cmr k n gs elt,X,sc,N,e,hN,hs,hp,h=>by
  obtain⟨ee,gens,scope,p,rfl,h0,h1,h2,h3,h4,h5⟩:=Xrx h;subst h1 h2;have so:=Xrv h3;have hcl:=hp.calm h0;obtain⟨c⟩:=Xob (p:=p) hN hs hp hcl so (sndg gs X sc N _ _ gens hN hs hp h4) (fun Y y1 y2 y3=>(snd elt Y _ _ ee y1 y2 y3 h5).1)
  subst hN hs;refine Yp ?_ fun _=>rfl
  rw[c.eq];exact X2l hcl so rfl c.hg c.hi c.hs c.hG c.hT c.hB
theorem sndo:∀ (o:Op) (X:Cx) (sc:Scope) (N:List Str) (x:Option Expr),X.N=N->X.env.scope=sc->PF cm F G fns gns X->mto cm fns gns sc N o x=true->DO X x (evo F G o)
 | .none,X,sc,N,x,hN,hs,hp,h=>by
  cases x with
  | none =>
   have:evo F G .none=fun _ S=>.ok none S:=by funext env S;simp only[evo]
   rw[this];exact Xn8
  | some _=>cases h
 | .some e,X,sc,N,x,hN,hs,hp,h=>by
  cases x with
  | none=>cases h
  | some x =>
   have h':mt cm fns gns sc N e x=true:=h;have:evo F G (.some e)=fun env S=>(ev F G e env S).bind fun x S=>.ok (some x) S:=by funext env S;simp only[evo]
   rw[this];exact Xn9 (snd e X sc N x hN hs hp h').1
theorem snds:∀ (es:Exs) (X:Cx) (sc:Scope) (N:List Str) (xs:List Expr),X.N=N->X.env.scope=sc->PF cm F G fns gns X->mts cm fns gns sc N es xs=true->DA X xs (evs F G es)
 | .nil,X,sc,N,[],hN,hs,hp,h=>by
  have:evs F G .nil=fun _ S=>.ok [] S:=by funext env S;simp only[evs]
  rw[this];exact X1z
 | .cons e es,X,sc,N,x::xs,hN,hs,hp,h=>by
  simp only[mts,bA0] at h;have:evs F G (.cons e es)=fun env S=>(ev F G e env S).bind fun x S=>(evs F G es env S).bind fun xs S=>.ok (x::xs) S:=by funext env S;simp only[evs]
  rw[this];exact Xx9 (snd e X sc N x hN hs hp h.1.2).1 (snds es X sc N xs hN hs hp h.2) (Xp h.1.1)
 | .nil,X,sc,N,_::_,hN,hs,hp,h=>by simp[mts] at h
 | .cons _ _,X,sc,N,[],hN,hs,hp,h=>by simp[mts] at h
theorem Xpq:∀ (es:Exs) (X:Cx) (sc:Scope) (N:List Str) (xs:List Expr),X.N=N->X.env.scope=sc->PF cm F G fns gns X->mts cm fns gns sc N es xs=true->DTs X xs (evts F G es)
 | .nil,X,sc,N,[],hN,hs,hp,h=>by
  have:evts F G .nil=fun _ S=>.ok true S:=by funext env S;simp only[evts]
  rw[this];exact Xyl
 | .cons e es,X,sc,N,x::xs,hN,hs,hp,h=>by
  simp only[mts,bA0] at h;have:evts F G (.cons e es)=fun env S=>(ev F G e env S).bind fun x S=>match Xg S x with|some true=>evts F G es env S|some false=>.ok false S|none=>.bad:=by funext env S;simp only[evts]<;>rfl
  rw[this];exact Xuh (snd e X sc N x hN hs hp h.1.2).2 (Xpq es X sc N xs hN hs hp h.2)
 | .nil,X,sc,N,_::_,hN,hs,hp,h=>by simp[mts] at h
 | .cons _ _,X,sc,N,[],hN,hs,hp,h=>by simp[mts] at h
theorem Xpr:∀ (it:It) (X:Cx) (sc:Scope) (N:List Str) (tg x:Expr),X.N=N->X.env.scope=sc->PF cm F G fns gns X->(Xpk it=true->∃ es k p,tg=.Tuple es k p)->mtI cm fns gns sc N it x=true->DI X tg x (evit F G it)
 | .val e,X,sc,N,tg,x,hN,hs,hp,_,h=>by
  simp only[mtI] at h;have:evit F G (.val e)=fun env S=>(ev F G e env S).bind fun x S=>match Xy S x with|some r=>.ok r S|none=>.bad:=by funext env S;simp only[evit]<;>rfl
  rw[this];exact X2e (snd e X sc N x hN hs hp h).1
 | .rng es,X,sc,N,tg,x,hN,hs,hp,_,h=>by
  obtain⟨p0,y,ys,p,rfl,h2,h3⟩:=Xzc h;have st:=Xap es (y::ys) h3;rw[Val,bA0] at st;have:evit F G (.rng es)=fun env S=>(evs F G es env S).bind fun xs S=>match Yy xs with|some ds=>.ok (.con ds) S|none=>.bad:=by funext env S;simp only[evit]<;>rfl
  rw[this];exact X2f (Y1 hs h2) (hp.blt _ (by decide)) (snds es X sc N (y::ys) hN hs hp h3) (Xp st.1) (Xah st.2)
 | .zpp es,X,sc,N,tg,x,hN,hs,hp,ht,h=>by
  obtain⟨p0,y,ys,p,rfl,h2,h3⟩:=Xy9 h;obtain⟨ts,k,tp,rfl⟩:=ht rfl;have st:=Xap es (y::ys) h3;rw[Val,bA0] at st;have:evit F G (.zpp es)=fun env S=>(evs F G es env S).bind fun xs S=>match xs with
   | [x,y]=>match Xy S x,Xy S y with
    | some s,some t=>.ok (.zpp s t) S
    | _,_=>.bad
   | _=>.bad:=by funext env S;simp only[evit]<;>rfl
  rw[this];exact X2g (Y1 hs h2) (hp.blt _ (by decide)) (snds es X sc N (y::ys) hN hs hp h3) (Xp st.1) (Xah st.2)
 | .enm es,X,sc,N,tg,x,hN,hs,hp,ht,h=>by
  obtain⟨p0,y,ys,p,rfl,h2,h3⟩:=Xza h;obtain⟨ts,k,tp,rfl⟩:=ht rfl;have st:=Xap es (y::ys) h3;rw[Val,bA0] at st;have:evit F G (.enm es)=fun env S=>(evs F G es env S).bind fun xs S=>match xs with
   | [x]=>match Xy S x with
    | some s=>.ok (.enm s) S
    | none=>.bad
   | _=>.bad:=by funext env S;simp only[evit]<;>rfl
  rw[this];exact X2i (Y1 hs h2) (hp.blt _ (by decide)) (snds es X sc N (y::ys) hN hs hp h3) (Xp st.1) (Xah st.2)
 | .ezp es,X,sc,N,tg,x,hN,hs,hp,ht,h=>by
  obtain⟨p0,p1,q0,y,ys,p,rfl,h1,h2,h3⟩:=Xzb h;obtain⟨ts,k,tp,rfl⟩:=ht rfl;have st:=Xap es (y::ys) h3;rw[Val,bA0] at st;have:evit F G (.ezp es)=fun env S=>(evs F G es env S).bind fun xs S=>match xs with
   | [x,y]=>match Xy S x,Xy S y with
    | some s,some t=>.ok (.enm (.zpp s t)) S
    | _,_=>.bad
   | _=>.bad:=by funext env S;simp only[evit]<;>rfl
  rw[this];exact X2h (Y1 hs h1) (hp.blt _ (by decide)) (Y1 hs h2) (hp.blt _ (by decide)) (snds es X sc N (y::ys) hN hs hp h3) (Xp st.1) (Xah st.2)
theorem sndg:∀ (gs:Gens) (X:Cx) (sc:Scope) (N:List Str) (sc2:Scope) (N2:List Str) (gens:List Va9),X.N=N->X.env.scope=sc->PF cm F G fns gns X->mtG cm fns gns sc N sc2 N2 gs gens=true->X3n F G X sc2 N2 (PF cm F G fns gns) gs gens
 | .nil,X,sc,N,sc2,N2,gens,hN,hs,hp,h=>(X6i h).elim
 | .cons t it ifs .nil,X,sc,N,sc2,N2,gens,hN,hs,hp,h=>by
  obtain⟨tg,iter,cs,rfl,h2,h3,h4,h5,h6⟩:=X6j h;exact⟨tg,iter,cs,rfl,h2,hN▸h3,Xpr it X sc N tg iter hN hs hp (Xgm h6 h3) h4,fun Y y1 y2 y3=>Xpq ifs Y sc2 N2 cs y1 y2 y3 h5⟩
 | .cons t it ifs (.cons t2 it2 ifs2 .nil),X,sc,N,sc2,N2,gens,hN,hs,hp,h=>by
  obtain⟨tg,iter,cs,tg2,iter2,cs2,rfl,h3,h4,h5,h6,h7,h8,h9,h10,h11,h12⟩:=X6k h;exact⟨tg,iter,cs,tg2,iter2,cs2,rfl,h3,h4,hN▸h5,hN▸h8,Xpr it X sc N tg iter hN hs hp (Xgm h11 h5) h6,fun Y y1 y2 y3=>Xpq ifs Y sc2 N2 cs y1 y2 y3 h7,fun Y y1 y2 y3=>Xpr it2 Y sc2 N2 tg2 iter2 y1 y2 y3 (Xgm h12 h8) h9,fun Y y1 y2 y3=>Xpq ifs2 Y sc2 N2 cs2 y1 y2 y3 h10⟩
 | .cons t it ifs (.cons t2 it2 ifs2 (.cons _ _ _ _)),X,sc,N,sc2,N2,gens,hN,hs,hp,h=>(X6l h).elim
end
end
section
variable{X:Cx}{pins:List (Addr×Obj)}{σ:L2.St}{H:Hp}{s:Shared}{ρ:List Addr}{S S':Sto}{env:En}{a b c e tg:Expr}{f fa fb fc:En->Sto->R D}{pos:Pos}
theorem X3p(he:DE X e f)(hg:DG X tg t)(hs:Vb4 [tg] e pos.line X.env=pure false)(hw:Vb5 [tg] e X.env=pure none)(h1:(U8 [tg] X.env).map (·.2)=[assign tg X.env]) :
  DS X (.Assign [tg] e pos) false (fun env S=>(f env S).bind fun x S=>match Xl t x env with|some env=>.ok (.nx env) S|none=>.bad):=by
 intro pins s σ H ρ S env I nb;dsimp only at nb ⊢;cases q:f env S with
 | bad=>rw[q] at nb;exact absurd rfl nb
 | ex n S1=>exact Vev (he.ex I q fun x s' z=>.of .refl z rfl) hs hw
 | ok d S1 =>
  rw[q] at nb;simp only[Rk0] at nb ⊢;cases q2:Xl t d env with
  | none=>rw[q2] at nb;exact absurd rfl nb
  | some env' =>
   refine Vev (he.ok I q fun u s' v H' ρ' J rv rd st=>?_) hs hw
   rw[h1];exact hg pins s' σ H' ρ' S1 env d v u env' _ _ J q2 rd rv fun s2 σ2 I2=>⟨.nx env',S1,rfl,rfl,σ2,H',ρ',I2,st,fun z=>nomatch z⟩
theorem Xzl{kt k2 pt2}(hc:X.calm=true)(hN:X.N.Nodup)(hi:X.N[i]?=some x)(hj:X.N[j]?=some y)(hij:i≠j)
  (hx:X.env.scope.names.lookup x=some .local) (hy:X.env.scope.names.lookup y=some .local) (ha:DA X [a,b] ga)
  (hw:Vb5 [.Tuple [.Name x px,.Name y py] kt pt] (.Tuple [a,b] k2 pt2) X.env=pure (some [x,y]))
  (hs:Vb4 [.Tuple [.Name x px,.Name y py] kt pt] (.Tuple [a,b] k2 pt2) pos.line X.env=pure false) :
  DS X (.Assign [.Tuple [.Name x px,.Name y py] kt pt] (.Tuple [a,b] k2 pt2) pos) false (fun env S=>(ga env S).bind fun xs S=>if [i,j].length=xs.length then .ok (.nx (([i,j].zip xs).foldl (fun e p=>e.set p.1 (some p.2)) env)) S else .bad):=by
 intro pins s σ H ρ S env I nb;dsimp only at nb ⊢;rw[exec_Assign_arm];refine Va (Vdb ?_);rw[hs];refine Va (Vg ?_);rw[if_neg (by decide)]
 cases q:ga env S with
 | bad=>rw[q] at nb;exact absurd rfl nb
 | ex n S1=>exact Va (Tuple_ (ha.ex I q fun x s' z=>.of .refl z rfl))
 | ok ds S1 =>
  rw[q] at nb;simp only[Rk0] at nb ⊢;split at nb
  ·rename_i hl
   rw[if_pos hl];obtain⟨d1,d2,rfl⟩:∃ d1 d2,ds=[d1,d2]:=by
    match ds,hl with
    | [d1,d2],_=>exact⟨d1,d2,rfl⟩
   refine Va (Tuple_ (ha.ok I q fun us s1 vs H1 ρ1 I1 rvs rds st1=>?_))
   obtain⟨v,w,rfl,rd1,rd2⟩:=rds.two;obtain⟨u1,u2,rfl,rv,rw'⟩:∃ u1 u2,us=[u1,u2]/\RelV v u1/\RelV w u2:=by
    cases rvs with
    | cons p q =>
     cases q with
     | cons p' q' =>
      cases q';exact⟨_,_,rfl,p,p'⟩
   refine Vai ?_ (by show 2<=Vt;decide)
   have I2:Inv X pins σ H1 { s1 with heap:=s1.heap.push { cls:=.type "tuple",data:=.seq [u1,u2].toArray } }:=I1.inv.kept (t':=s1.toks) fun b o e=>Vb _ e
   rw[hw];refine Va (Vg ?_);show wpAny (model X.prog X.w) X.A (do rule "assign.swapped-stores";let items <- unpackItems (.ref s1.heap.objs.size) 2 none;assignInOrder [fun v=>bindName X.env y v,fun v=>bindName X.env x v] items.reverse;pure Flow.next) _ _ _
   refine Va (Vca (Va (unpackItems_tuple (items:=#[u1,u2]) (I.inv.ok.hd hc) (IsTup.new s1.heap _) fun h' hx'=>?_)))
   have I3:=I2.kept (h':=h') (t':=s1.toks) fun b o e=>hx' b o (V5 (Vm e)) e
   show wpAny _ _ (assignInOrder [fun v=>bindName X.env y v,fun v=>bindName X.env x v] [u2,u1] >>= fun _=>pure Flow.next) _ _ _
   refine Va (Ve0 (wpAny_bindName (Xba I3 hN hj (.inl hy) rw' (fun s2 I4=>?_) (.inr hy))))
   refine Ve0 (wpAny_bindName (Xba I4 hN hi (.inl hx) rv (fun s3 I5=>assignInOrder_nil (Vg ?_)) (.inr hx)))
   rw[List.set_comm _ _ (Ne.symm hij)] at I5;exact⟨.nx ((env.set i (some d1)).set j (some d2)),S1,rfl,rfl,_,H1,ρ1,⟨I5,I1.sr,(I1.er.set i rd1).set j rd2⟩,st1,fun z=>nomatch z⟩
  ·exact absurd rfl nb
theorem X3q(I:S0 X pins σ H s ρ S env)(nb:Xbx x y d S≠.bad)(rx:RD X.K ρ H x vx)(qx:RelV vx ux)(ry:RD X.K ρ H y vy)(qy:RelV vy uy)(rd:RD X.K ρ H d v)(rv:RelV v u)
  (hQ:∀ S' s' H',Xbx x y d S=.ok () S'->S0 X pins σ H' s' ρ S' env->Stp X.K ρ ρ H H'->Q () s'):wpAny (model X.prog X.w) X.A (setItem ux uy u) Q Ev s:=by
 unfold Xbx at nb hQ;cases x with
 | ref n=>cases y with
  | int k =>
   dsimp only at nb hQ;cases e:Z.lstM S n with
   | none=>rw[e] at nb;exact absurd rfl nb
   | some xs =>
    rw[e] at nb hQ;dsimp only at nb hQ;cases e2:Z.ixN xs.length k with
    | none=>rw[e2] at nb;exact absurd rfl nb
    | some j =>
     rw[e2] at hQ;obtain⟨a,ws,rfl,ha,hv,hr⟩:=I.lstR e rx;simp only[RD] at ry;subst ry;have hl:L2.ixN ws.length k=some j:=by rw[<- hr.length];exact e2
     refine thn (Xty (X:=X.wish Ev) pins s σ H (.ref a) (.int k) v ux uy u (fun H'=>H'=upd H a (.lst (ws.set j v))) (I.inv.wish Ev) qx qy rv ⟨a,ws,k,j,rfl,rfl,hv,hl,rfl⟩) fun _ s' ⟨H',J,e3⟩=>?_
     subst e3;have st:Stp X.K ρ ρ H (upd H a (.lst (ws.set j v))):=Stp.chg (S:=S) (o:=.lst (xs.set j d)) I.sr ha;exact hQ _ s' _ rfl ⟨J.unwish,I.sr.chg ha ⟨ws.set j v,Xz,(hr.set rd j).mono st⟩,I.er.mono st⟩ st
  | _=>exact absurd rfl nb
 | _=>cases y<;>exact absurd rfl nb
end
section
variable{X:Cx}{pins:List (Addr×Obj)}{σ:L2.St}{H:Hp}{s:Shared}{ρ:List Addr}{S S':Sto}{env:En}{a b c e o i:Expr}{f fa fb fc fo fi:En->Sto->R D}{pos spos:Pos}
theorem Xzm(he:DE X e f)(ho:DE X o fo)(hi:DE X i fi)(hs:Vb4 [.Subscript o i spos] e pos.line X.env=pure false)(hw:Vb5 [.Subscript o i spos] e X.env=pure none)
  (hA:∀ v,assign (.Subscript o i spos) X.env v=(do
   let ov <- holding [v] (eval o X.env)
   let iv <- holding [v,ov] (eval i X.env)
   standAt spos
   holding [v,ov,iv] (setItem ov iv v)
   release [v,ov,iv] [])) :
  DS X (.Assign [.Subscript o i spos] e pos) true (fun env S=>(f env S).bind fun v S=>(fo env S).bind fun x S=>(fi env S).bind fun y S=>(Xbx x y v S).bind fun _ S=>.ok (.nx env) S):=by
 intro pins s σ H ρ S env I nb;dsimp only at nb ⊢;generalize hr:(f env S).bind (fun v S=>(fo env S).bind fun x S=>(fi env S).bind fun y S=>(Xbx x y v S).bind fun _ S=>R.ok (Fl.nx env) S)=r at nb ⊢
 have h1:(U8 [Expr.Subscript o i spos] X.env).map (·.2)=[assign (.Subscript o i spos) X.env]:=rfl;refine Vev (he.bind I (by rw[hr];exact nb) hr.symm (fun d S1 u s1 v H1 ρ1 e1 nb1 I1 rv rd st1=>?_) fun x s' ⟨n,S2,e2,z⟩=>.of .refl z e2) hs hw
 rw[h1];show wpAny _ _ (assign (.Subscript o i spos) X.env u) _ _ _;rw[hA];refine Va (U5 (ho.bind I1 nb1 e1 (fun x S2 ux s2 vx H2 ρ2 e2 nb2 I2 rvx rdx st2=>?_) fun x s' ⟨n,S3,e3,z⟩=>.of st1 z e3))
 refine Va (U5 (hi.bind I2 nb2 e2 (fun y S3 uy s3 vy H3 ρ3 e3 nb3 I3 rvy rdy st3=>?_) fun x s' ⟨n,S4,e4,z⟩=>.of (st1.trans st2) z e4))
 refine Va (Vdb (Va (U5 (X3q I3 (fun z=>nb3 (by rw[z];rfl)) (rdx.mono st3) rvx rdy rvy ((rd.mono st2).mono st3) rv fun S4 s4 H4 e4 I4 st4=>?_))))
 refine wpAny_release ⟨.nx env,S4,by rw[e3,e4];rfl,rfl,σ,H4,ρ3,I4,st1.trans (st2.trans (st3.trans st4)),fun _=>rfl⟩
theorem X6q(I:S0 X pins σ H s ρ S env)(nb:Xfp op x y S≠.bad)(rx:RD X.K ρ H x vx)(qx:RelV vx ux)(ry:RD X.K ρ H y vy)(qy:RelV vy uy) :
  wpAny (model X.prog X.w) X.A (inplaceOp (opB op) ux uy) (OkP X pins σ ρ H (Xfp op x y S)) Ev s:=by
 unfold Xfp at nb ⊢;split at nb
 ·simp only[RD] at rx ry;subst rx ry
  obtain⟨t,rfl⟩:=qx;obtain⟨t',rfl⟩:=qy;exact iadd_int (Xad I.sr (I.inv.tok _))
 ·simp only[RD] at rx ry;subst rx ry
  obtain⟨t,rfl⟩:=qx;obtain⟨t',rfl⟩:=qy;exact isub_int (Xad I.sr (I.inv.tok _))
 ·simp only[RD] at rx ry;subst rx ry
  obtain⟨t,rfl⟩:=qx;obtain⟨t',rfl⟩:=qy;split at nb
  ·rename_i hm
   rw[if_pos hm];exact imul_int (Xad I.sr (I.inv.tok _)) (Xla hm)
  ·exact absurd rfl nb
 ·exact absurd rfl nb
theorem X3r(hN:X.N.Nodup)(hi:X.N[k]?=some x)(hx:Loc X.env.scope x)(hf:X.fn x=true\/X.env.scope.names.lookup x=some .local)(he:DE X e f) :
  DS X (.AugAssign (.Name x spos) (opB op) e pos) false (fun env S=>match env[k]? with
   | some (some x)=>(f env S).bind fun y S=>(Xfp op x y S).bind fun z S=>.ok (.nx (env.set k (some z))) S
   | _=>.bad):=by
 intro pins s σ H ρ S env I nb;dsimp only at nb ⊢;split at nb
 ·rename_i d hd
  obtain⟨v,e1,rd⟩:=I.er.2 k d hd;generalize hr:((f env S).bind fun y S=>(Xfp op d y S).bind fun z S=>R.ok (Fl.nx (env.set k (some z))) S)=r at nb ⊢
  obtain⟨m,hn,hl⟩:=I.inv.loc;have vis:Vis X.env.scope x:=by rcases hx with k|k;exact .inl k;exact .inr (.inl k)
  obtain⟨u,rv,l⟩:=hl k x v hi e1 vis;refine wpAny_AugAssign_Name ?_;have go:wpAny (model X.prog X.w) X.A (eval e X.env) (fun w s₂=>wpAny (model X.prog X.w) X.A (inplaceOp (opB op) u w) (fun z s₃=>wpAny (model X.prog X.w) X.A (storeName X.env x z) (fun _=>OkS X pins σ ρ H false r .next) (ExS X pins σ ρ H false r) s₃) (ExS X pins σ ρ H false r) s₂) (ExS X pins σ ρ H false r) s:=by
   refine he.bind I (by rw[hr];exact nb) hr.symm (fun d2 S1 w s1 v2 H1 ρ1 e2 nb2 I1 rv2 rd2 st1=>?_) fun x s' ⟨n,S2,e2,z⟩=>.of .refl z e2
   refine Vj (X6q (Ev:=fun _ _=>False) I1 (fun z=>nb2 (by rw[z];rfl)) (rd.mono st1) rv rd2 rv2) (fun z s3 hz=>?_) fun _ _ z=>z.elim
   obtain⟨d3,S3,e3,v3,H3,ρ3,J3,rv3,rd3,sr3,st3⟩:=hz;exact Xba J3 hN hi hx rv3 (fun s4 I4=>⟨.nx (env.set k (some d3)),S3,by rw[e2,e3];rfl,rfl,_,H3,ρ3,⟨I4,sr3,(I1.er.mono st3).set k rd3⟩,st1.trans st3,fun z=>nomatch z⟩) hf
  rcases l with⟨hk,hm⟩|⟨hk,c,hc,hcell⟩
  ·exact wpAny_loadName_local I.inv.ok.kind hk hn hm go
  ·rcases hk with hk|hk
   ·exact wpAny_loadName_cell I.inv.ok.kind hk hc hcell go
   ·rcases hx with k|k
    ·have:X.env.scope.names.lookup x=some .free:=hk
     rw[k] at this;cases this
    ·have:X.env.scope.names.lookup x=some .free:=hk
     rw[k] at this;cases this
 ·exact absurd rfl nb
theorem X3s(hc:DT X c (fun env S=>tst (fc env S)))(hb:DSs X body na g) :
  DS X (.While c body [] pos) false (fun env S=>Y6 (fun env S=>tst (fc env S)) g 100000 env S):=by
 intro pins s σ H ρ S env I nb;dsimp only at nb ⊢;have hp:PassesOwn (model X.prog X.w) X.A X.env (fun _ _=>False):=PassesOwn.never
 generalize hn:100000=n0 at nb ⊢;generalize hr0:Y6 (fun env S=>tst (fc env S)) g n0 env S=r0 at nb ⊢
 refine Vj (E:=fun _ _=>False) (wpAny_While (codeAny_whileLoop (fun n s'=>∃ σ' H' ρ' S' env',S0 X pins σ' H' s' ρ' S' env'/\Stp X.K ρ ρ' H H'/\Y6 (fun env S=>tst (fc env S)) g n env' S'≠.bad/\Y6 (fun env S=>tst (fc env S)) g n env' S'=r0) ?_ n0 ⟨σ,H,ρ,S,env,I,.refl,by rw[hr0];exact nb,hr0⟩)) (fun _ _ z=>z) fun _ _ z=>z.elim
 rintro n s3 ⟨σ3,H3,ρ3,S3,env3,I3,st3,nb3,eq3⟩
 cases n with
 | zero=>exact absurd rfl nb3
 | succ n =>
  simp only[Y6] at nb3 eq3;cases e4:tst (fc env3 S3) with
  | bad=>rw[e4] at nb3;exact absurd rfl nb3
  | ex m S4=>rw[e4] at nb3;exact absurd rfl nb3
  | ok t S4 =>
   refine Vby hp (hc.ok I3 e4 fun s4 H4 ρ4 I4 st4=>?_)
   rw[e4] at nb3 eq3;cases t with
   | false =>
    rw[if_neg V9];exact Vei ⟨.nx env3,S4,eq3.symm,rfl,σ3,H4,ρ4,I4,st3.trans st4,fun z=>nomatch z⟩
   | true =>
    rw[if_pos rfl];dsimp only at nb3 eq3;cases e5:g env3 S4 with
    | bad=>rw[e5] at nb3;exact absurd rfl nb3
    | ex m S5=>rw[e5] at nb3;exact absurd rfl nb3
    | ok x5 S5 =>
     rw[e5] at nb3 eq3;refine Vby hp (hb.ok I4 e5 fun fl s5 z5=>?_)
     cases x5 with
     | nx e=>obtain⟨rfl,σ5,H5,ρ5,I5,st5,_⟩:=z5;exact⟨n,Vbb _,σ5,H5,ρ5,S5,e,I5,st3.trans (st4.trans st5),nb3,eq3⟩
     | cnt e=>obtain⟨rfl,σ5,H5,ρ5,I5,st5⟩:=z5;exact⟨n,Vbb _,σ5,H5,ρ5,S5,e,I5,st3.trans (st4.trans st5),nb3,eq3⟩
     | brk e=>obtain⟨rfl,σ5,H5,ρ5,I5,st5⟩:=z5;exact⟨.nx e,S5,eq3.symm,rfl,σ5,H5,ρ5,I5,st3.trans (st4.trans st5),fun z=>nomatch z⟩
     | rt d=>obtain⟨u,v,σ5,H5,ρ5,rfl,J5,rv5,rd5,sr5,st5⟩:=z5;exact⟨.rt d,S5,eq3.symm,u,v,σ5,H5,ρ5,rfl,J5,rv5,rd5,sr5,st3.trans (st4.trans st5)⟩
end
def X3t(C:Addr)(h:Heap):Prop:=∃ tl N nm qn bs hd sn sub ab col dd k0 k1 k2 k3 k5 mN,
 h.get? C=some (excClassObj nm qn C N bs tl hd sn sub ab col dd k0 k1 k2 k3 k5 "ValueError.__new__")/\h.Ns N mN/\mN "__init__" = none/\OwnTail h bmV tl
theorem Xzn {K:Vf} {h:Heap} {C:Addr} (hK:K.In h) (hq:Vd6 K C bmV "ValueError.__new__" = true):X3t C h:=by
 unfold Vd6 at hq;split at hq
 case h_2=>cases hq
 rename_i _ dct cdt slt lk
 split at hq
 case h_2=>cases hq
 rename_i _ C1 tl s0 s1 s2 s3 nw s5 em es
 simp only[bA0,beq_iff_eq,Var] at hq;obtain⟨⟨⟨⟨⟨e1,e2⟩,e3⟩,e4⟩,e5⟩,e6⟩:=hq;subst e1 e2;cases cdt;dsimp only at em e3 e5 e6;subst em e3;have esl:slt=#[s0,s1,s2,s3,some (.builtin "ValueError.__new__"),s5]:=by
  cases slt;dsimp only at es;rw[es]
 subst esl;exact⟨tl,_,_,_,_,_,_,_,_,_,_,_,_,_,_,_,_,hK _ _ lk,.of_isNs (PySem.W.isNs_of_in hK e5),PySem.W.nsMap_none_of_in hK e5 e6,PySem.W.tail_of_in hK e4⟩
theorem _root_.L2.Inv.newX(I:Inv X pins σ H s)(k:∀ b u,s.heap.get? b=some u->h'.get? b=some u)(hn:s.heap.get? a=none)
  (new:ObjOk X.prog X.w (upd H a o) h' a o):Inv X pins σ (upd H a o) { s with heap:=h' }/\HOk X.prog X.w (upd H a o) h':=by
 have hna:H a=none:=by
  cases z:H a with
  | none=>rfl
  | some w=>obtain⟨q,e⟩:=Xct (I.hok a w z);rw[hn] at e;cases e
 have ne:∀ b u,H b=some u->b≠a:=fun b u q=>Xn q hna
 have hok:HOk X.prog X.w (upd H a o) h':=fun b u q=>by
  by_cases hb:b=a
  ·subst hb;rw[Xz] at q;cases q;exact new
  ·rw[Xh hb] at q
   exact(I.hok b u q).stay (fun c v _ e=>k c v e) (fun c z=>by rw[Xh (ne c _ z)];exact z) fun c xs z=>by rw[Xh (ne c _ z)];exact z
 refine⟨I.un (t':=s.toks) ⟨fun b u e _ _ _=>k b u e,fun b u e _ _ _=>⟨u.slots,k b u e⟩,fun b u e n _=>?_,fun b u e _=>⟨u,k b u e⟩,fun b xs z=>by rw[Xh (ne b _ z)];exact z,fun b u xs z=>by rw[Xh (ne b _ z)];exact z,fun b ps z=>⟨#[],by rw[Xh (ne b _ z),z];simp⟩⟩ hok,hok⟩
 rw[Xh (fun z=>by rw[z,hn] at e;cases e)];exact n
section
variable{X:Cx}{pins:List (Addr×Obj)}{σ:L2.St}{H:Hp}{s:Shared}{ρ:List Addr}{S S':Sto}{env:En}{e:Expr}{f:En->Sto->R D}{pos np cpos:Pos}
theorem X3u {c:Nat} {x:Str} {C:Addr} (hc:X.calm=true) (hx:Xbi c=some x) (hn:U6 X.K Vz x=some (some (.ref C))) (hq:Vd6 X.K C bmV "ValueError.__new__" = true)
  (hg:Gl X x) (hdb:(x==("__debug__" : Str))=false) (he:DE X e f) (hst:Yu e=true):DS X (.Raise (some (.Call (.Name x np) [e] [] cpos)) none pos) true (fun env S=>(f env S).bind fun _ S=>.ex S.length (S++[.exc c])):=by
 intro pins s σ H ρ S env I nb;dsimp only at nb ⊢;have hm:X.mg x=some (.ref C):=Vbt I.inv.mod.kin I.inv.mod.glob hn;have hcl:Xak X.K c=some C:=by unfold Xak;rw[hx];simp only[Vv,hn]
 obtain⟨tl,N,nm,qn,bs,hd,sn,sub,ab,col,dd,k0,k1,k2,k3,k5,mN,hC,hN,hni,T⟩:=Xzn I.inv.mod.kin hq;refine wpAny_Raise_call_subT (C:=C) (nm:=nm) (q:=qn) (N:=N) (bs:=bs) (bm:=tl) (hdct:=hd) (sn:=sn) (sub:=sub) (ab:=ab) (col:=col) (dd:=dd) (k0:=k0) (k1:=k1) (k2:=k2) (k3:=k3) (k5:=k5)
  PySem.F.excBase_ValueError (mN:=mN) (T.hasType PySem.F.excBase_ValueError.hasBase) (I.inv.ok.hd hc) (by rw[Xp hst];rfl) hni (Xc5 I.inv hg hm ⟨rfl,?_⟩ hdb)
 rw[Xp hst];refine Vek ?_;generalize hr:((f env S).bind fun _ S=>(R.ex S.length (S++[.exc c]):R Fl))=r at nb ⊢
 refine Ut (he.bind I (by rw[hr];exact nb) hr.symm (fun d S1 u s1 v H1 ρ1 e1 nb1 I1 rv rd st1=>Vax ?_) fun y s' ⟨n,S2,z1,z2⟩=>⟨n,S2,σ,z1,fun _=>rfl,z2⟩)
 refine⟨rfl,by simp[Vt],I1.inv.bk _ _ hC,hN.keeps I1.inv.bk,T.keeps I1.inv.bk,fun h' a hmk=>?_⟩
 obtain⟨t,h1,h2,h3⟩:=hmk.there;have hna:H1 a=none:=by
  cases z:H1 a with
  | none=>rfl
  | some w=>obtain⟨o,e⟩:=Xct (I1.inv.hok a w z);rw[hmk.new] at e;cases e
 have xo:ExcO C a h':=⟨_,_,_,h1,rfl,rfl,rfl,by simp⟩
 obtain⟨J,hok⟩:=I1.inv.newX hmk.keeps hmk.new xo.ok;refine⟨S1.length,S1++[.exc c],σ,e1,fun _=>rfl,_,ρ1++[a],a,c,J,rfl,?_,by simp,I1.sr.new1 (o:=.exc c) hna ⟨C,hcl,Xz⟩,st1.trans (Stp.new1 hna),.inl ⟨_,_,h1,rfl,rfl⟩⟩
 rw[<- I1.sr.len];simp
end
noncomputable def inH(X:Cx)(a:Addr):Cx:={ X with A:=X.A.mark (some (.ref a)),calm:=false }
section
variable{X:Cx}{pins:List (Addr×Obj)}{σ:L2.St}{H:Hp}{s:Shared}{a:Addr}
theorem Inv.inH(I:Inv X pins σ H s)(a:Addr):Inv (inH X a) pins σ H s :=
 ⟨⟨I.ok.mod,I.ok.kind,I.ok.glob,I.ok.blt,I.ok.above,I.ok.inj,I.ok.has,I.ok.cab,(fun z=>nomatch z),I.ok.frames,I.ok.stk,I.ok.exf,I.ok.bs,I.ok.bsz,I.ok.noex,I.ok.exfs,I.ok.funs,I.ok.frf⟩,I.os,I.bare,I.base,I.loc,I.cell,I.free,I.freeC,I.pin,I.hok,I.len⟩
theorem Inv.outH(I:Inv (Z.inH X a) pins σ H s)(ok:X.Ok):Inv X pins σ H s:=⟨ok,I.os,I.bare,I.base,I.loc,I.cell,I.free,I.freeC,I.pin,I.hok,I.len⟩
theorem Inv.fly(I:Inv X pins σ H s)(ha:H a=some (.ext (ExcO C a)))(hl:Hid X H a s.heap l)
  (hnew:∀ b∈l,b≠a->b ∉ frs X.stack->(b∈X.ex\/X.s₀.heap.get? b=none)/\∀ p∈X.pn++pins,p.1≠b) (k1:(Vaz s.heap l).StaysIn h') (k4:s.heap.UpToSlots h') (he:ExcO C a h') :
  Inv X pins σ H { s with heap:=h' }:=by
 have keep:∀ b o,s.heap.get? b=some o->b ∉ l->h'.get? b=some o:=fun b o e hb=>k1 b o (Vdf l e hb)
 have nfr:∀ b∈frs X.stack,∃ o,s.heap.get? b=some o/\∀ vs,o.data≠.fields vs:=fun b hb=>(I.stack.mem hb).2
 have old:∀ b o,X.s₀.heap.get? b=some o->b≠X.env.locals:=fun b o e=>V5 (Vu (Vm e) I.ok.above)
 have cellK:∀ x c,X.env.cells.lookup x=some c->∀ v,s.heap.IsCell c v->h'.IsCell c v:=fun x c e v ⟨o,ho,hd⟩=>by
  obtain⟨sl,q⟩:=k4 c o ho fun vs z=>by rw[hd] at z;cases z
  exact⟨_,q,hd⟩
 refine⟨I.ok,I.os,I.bare,⟨fun b o e n hb hx=>?_,fun b o e n hb hx=>?_,fun b o e n hx=>I.base.free b o e n hx,fun b o e hx=>?_,I.base.tups,I.base.frzs,I.base.tbls⟩,?_,fun x c e=>?_,I.free,I.freeC,fun p hp=>?_,Xny I ha hl keep he,I.len⟩
 ·refine keep b o (I.base.keep b o e n hb hx) fun hm=>?_
  have fb:=I.base.free b o e n hx
  by_cases h1:b=a
  ·rw[h1,ha] at fb;cases fb
  ·by_cases h2:b∈frs X.stack
   ·rcases Vl.mp (I.stkSub b h2) with z|z
    ·exact old b o e z
    ·exact hb z
   ·rcases (hnew b hm h1 h2).1 with z|z
    ·exact hx z
    ·rw[z] at e;cases e
 ·obtain⟨sl,e1⟩:=I.base.slot b o e n hb hx
  obtain⟨_,o',e',nd⟩:=I.funs.mem hb;rw[e1] at e';cases e';obtain⟨sl',e2⟩:=k4 b _ e1 nd;exact⟨sl',e2⟩
 ·obtain⟨o',e1⟩:=I.base.there b o e hx
  by_cases hm:b∈l
  ·by_cases h1:b=a
   ·subst h1;obtain⟨oe,_,_,q,_⟩:=he;exact⟨_,q⟩
   ·by_cases h2:b∈frs X.stack
    ·obtain⟨o2,e2,nd⟩:=nfr b h2
     rw[e1] at e2;cases e2;obtain⟨sl,e3⟩:=k4 b _ e1 nd;exact⟨_,e3⟩
    ·rcases (hnew b hm h1 h2).1 with z|z
     ·exact absurd z hx
     ·rw[z] at e;cases e
  ·exact⟨_,keep b o' e1 hm⟩
 ·obtain⟨m,hn,hlk⟩:=I.loc
  refine⟨m,k4.ns hn,fun i x v e1 e2 e3=>?_⟩
  obtain⟨u,r,lk⟩:=hlk i x v e1 e2 e3;refine⟨u,r,?_⟩;rcases lk with lk|⟨kd,c,e,z⟩
  ·exact .inl lk
  ·exact .inr ⟨kd,c,e,cellK x c e _ z⟩
 ·obtain⟨v,z⟩:=I.cell x c e
  exact⟨v,cellK x c e v z⟩
 ·obtain⟨e,n,ne,nf,d⟩:=I.pin p hp
  refine⟨keep p.1 p.2 e fun hm=>?_,n,ne,nf,d⟩
  by_cases h1:p.1=a
  ·rw[h1,ha] at n;cases n
  ·by_cases h2:p.1∈frs X.stack
   ·rcases Vl.mp (I.stkSub p.1 h2) with z|z
    ·exact ne z
    ·exact nf z
   ·exact(hnew p.1 hm h1 h2).2 p hp rfl
theorem Inv.goes(I:Inv X pins σ H s)(hl:X.env.scope.names.lookup n=some .local)
  (h:∀ s',Inv X pins (Vd σ.length none) H s'->Q () s'):wpAny M A (do bindName X.env n .none;unbindBehindTheSuite X.env n p) Q E s:=by
 obtain⟨m,hn,_⟩:=I.loc;refine wpAny_nameGoes hl hn (by rw[I.ok.kind];rfl) fun h' m' hn' sb=>h _ ?_
 obtain⟨o,es,ep,ho,r⟩:=id hn;obtain⟨o',es',ep',ho',r'⟩:=id hn';have old:∀ b u,X.s₀.heap.get? b=some u->b≠X.env.locals:=fun b u e=>V5 (Vu (Vm e) I.ok.above)
 have cellK:∀ x c,X.env.cells.lookup x=some c->∀ v,s.heap.IsCell c v->h'.IsCell c v:=fun x c e v ⟨u,hu,hd⟩=>⟨u,(sb.2 c (I.cne x c e)).trans hu,hd⟩
 refine⟨I.ok,I.os,I.bare,⟨fun b u e q hb hx=>(sb.2 b (old b u e)).trans (I.base.keep b u e q hb hx),fun b u e q hb hx=>?_,I.base.free,fun b u e hx=>?_,I.base.tups,I.base.frzs,I.base.tbls⟩,⟨m',hn',fun i x v _ e2 _=>?_⟩,fun x c e=>?_,I.free,I.freeC,fun p hp=>?_,fun b u q=>?_,by rw[List.length_replicate];exact I.len⟩
 ·obtain⟨sl,z⟩:=I.base.slot b u e q hb hx
  exact⟨sl,(sb.2 b (old b u e)).trans z⟩
 ·obtain⟨w,z⟩:=I.base.there b u e hx
  exact⟨w,(sb.2 b (old b u e)).trans z⟩
 ·rw[Vbu] at e2
  split at e2<;>cases e2
 ·obtain⟨v,z⟩:=I.cell x c e
  exact⟨v,cellK x c e v z⟩
 ·obtain⟨e,n,ne,r⟩:=I.pin p hp
  exact⟨(sb.2 _ ne).trans e,n,ne,r⟩
 ·have ne:∀ c v,H c=some v->c≠X.env.locals:=fun c v z=>Xn z I.free
  refine(I.hok b u q).stay (fun c v hc e=>?_) (fun _ z=>z) fun _ _ z=>z
  rcases hc with rfl|hc
  ·exact(sb.2 _ (ne _ _ q)).trans e
  ·exact(sb.2 _ (ne _ _ hc)).trans e
noncomputable def Xu2(c i:Nat)(g gh:En->Sto->R Fl)(env:En)(S:Sto):R Fl:=match g env S with
 | .ex m S'=>match S'[m]? with
  | some (.exc c')=>if c==0||c==c' then
    match gh (env.set i (some (.ref m))) S' with
    | .ok (.rt d) S''=>.ok (.rt d) S''
    | _=>.bad
   else .bad
  | _=>.bad
 | r=>r
theorem X3v(hs:X.stack=X.env::X.outer)(hf:X.env.frame=some X.env.locals)
  (hN:X.N.Nodup) (hi:X.N[i]?=some n) (hl:X.env.scope.names.lookup n=some .local) (hn:U6 X.K Vz x=some (some (.ref C0))) (hg:Gl X x) (hdb:(x==("__debug__" : Str))=false)
  (hm:∀ c' C,Xak X.K c'=some C->(c==0||c==c')=true->PySem.W.exmOne X.K (.ref C) (.ref C0)=some true) (hb:DSs X body true g) (hh:∀ a,DSs (Z.inH X a) (b0::suite) na gh) :
  DS X (.Try body [.ExceptHandler (some (.Name x np)) (some n) (b0::suite) hp] [] [] pos) false (Xu2 c i g gh):=by
 intro pins s σ H ρ S env I nb;unfold Xu2 at nb ⊢;refine wpAny_Try_except ?_;cases q:g env S with
 | bad=>rw[q] at nb;exact absurd rfl nb
 | ok y S1 =>
  refine Vj (hb pins s σ H ρ S env I (by rw[q];exact fun z=>nomatch z)) (fun fl s1 z=>?_) fun x s1 z=>?_
  ·rw[q] at z
   have z':=z.pre (σ:=σ) (na':=false) .refl fun w=>nomatch w
   obtain⟨y',S2,e,z2⟩:=z;cases e;cases y with
   | nx e=>obtain⟨rfl,_⟩:=z2;exact Vei z'
   | brk e=>obtain⟨rfl,_⟩:=z2;exact z'
   | cnt e=>obtain⟨rfl,_⟩:=z2;exact z'
   | rt d=>obtain⟨u,v,σ',H',ρ',rfl,_⟩:=z2;exact z'
  ·obtain⟨k,S2,σ2,e,_⟩:=z
   rw[q] at e;cases e
 | ex m S1 =>
  rw[q] at nb;dsimp only at nb ⊢;refine Vj (hb pins s σ H ρ S env I (by rw[q];exact fun z=>nomatch z)) (fun fl s1 z=>?_) fun x1 s1 z=>?_
  ·obtain⟨y,S2,e,_⟩:=z
   rw[q] at e;cases e
  obtain⟨m',S2,σ',e,hσ,H1,ρ1,a,c',J,rfl,hρ,hc,sr,st,fl⟩:=z;rw[q] at e;cases e;cases hσ rfl;rw[hc] at nb ⊢;dsimp only at nb ⊢;have hcc:(c==0||c==c')=true:=by
   cases z:(c==0||c==c') with
   | true=>rfl
   | false=>rw[z] at nb;exact absurd rfl nb
  rw[if_pos hcc] at nb ⊢;obtain⟨d,S2,hgh⟩:∃ d S2,gh (env.set i (some (.ref m))) S1=.ok (.rt d) S2:=by
   cases z:gh (env.set i (some (.ref m))) S1 with
   | bad=>rw[z] at nb;exact absurd rfl nb
   | ex _ _=>rw[z] at nb;exact absurd rfl nb
   | ok y S2 =>
    rw[z] at nb;cases y with
    | rt d=>exact⟨d,S2,rfl⟩
    | nx _=>exact absurd rfl nb
    | brk _=>exact absurd rfl nb
    | cnt _=>exact absurd rfl nb
  rw[hgh];dsimp only;obtain⟨C,hC,ha⟩:=(show ∃ C,Xak X.K c'=some C/\H1 a=some (.ext (ExcO C a)) from sr.ob m a _ hρ hc);have hex:=hm c' C hC hcc;obtain⟨⟨oa,va,a0,ea,ca,da,v0,vz⟩,_,_⟩:=(show ObjOk X.prog X.w H1 s1.heap a (.ext (ExcO C a)) from J.hok a _ ha);have hA:X.A.frames=some (X.env::X.outer):=by rw[<- hs];exact J.ok.frames
  have main:∀ (l:List Addr),Hid X H1 a s1.heap l->(∀ b∈l,b≠a->b ∉ frs X.stack->(b∈X.ex\/X.s₀.heap.get? b=none)/\∀ p∈X.pn++pins,p.1≠b) ->
    ∀ h2,Heap.HeldW (Vaz s1.heap l) (X.env::X.outer) a (.ref C) a0 X.env.locals h2->s1.heap.UpToSlots h2 ->
    wpAny (model X.prog X.w) X.A (setFlight (.ref a) none) (fun _ s3=>wpAny (model X.prog X.w) X.A (handleBy (.ref a) X.env [.ExceptHandler (some (.Name x np)) (some n) (b0::suite) hp])
     (OkS X pins σ ρ H false (.ok (.rt d) S2)) (ExS X pins σ ρ H false (.ok (.rt d) S2)) s3) (ExS X pins σ ρ H false (.ok (.rt d) S2)) { s1 with heap:=h2 }:=by
   intro l hid hnew h2 hh2 up2;have inv:∀ {h':Heap},Heap.FlyingW (Vaz s1.heap l) (X.env::X.outer) a (.ref C) a0 h'->s1.heap.UpToSlots h'->Inv X pins σ H1 { s1 with heap:=h' }:=fun {h'} fw up=>by
    obtain⟨f1,_,_,oe,vs,T,oT,ts,t1,⟨t2,t3⟩,t4,t5,_⟩:=fw;exact Inv.fly J ha hid hnew f1 up ⟨oe,vs,a0,t1,t2,t4,t3,(Ve8.mp t5).1⟩
   refine wpAny_landsW hh2 fun h3 fw3 up3=>?_
   have J3:=inv fw3 (up2.trans up3);obtain⟨ob,hob,hobc⟩:=fw3.there;refine wpAny_handleBy_cons (codeAny_handlers_test (Xc5 (Inv.inH J3 a) hg (Vbt J.mod.kin J.mod.glob hn) ?_ hdb)) (by intro z;cases z)
   have LT:PySem.W.Looks (model X.prog X.w) h3 (typeOf (.ref a)) (.ref C):=hobc▸(PySem.W.Looks.ld hob).andThen .now;refine(PySem.W.exm_one J3.kIn LT hex).at ?_;refine codeAny_handlers_suite_as (lands_againW fw3 fun h4 fw4 up4=>?_)
   have J4:=inv fw4 ((up2.trans up3).trans up4);refine Xba (X:=Z.inH X a) (v:=.ref a) (Inv.inH J4 a) hN hi (.inl hl) rfl (fun s5 J5=>?_) (.inr hl)
   have er:ER X.K ρ1 H1 (env.set i (some (.ref m))) (σ.set i (some (.ref a))):=(I.er.mono st).set i (by simp only[RD];exact⟨a,rfl,hρ⟩)
   refine Vj (hh a pins s5 (σ.set i (some (.ref a))) H1 ρ1 S1 (env.set i (some (.ref m))) ⟨J5,sr,er⟩ (by rw[hgh];exact fun z=>nomatch z)) (fun f6 s6 z=>?_) fun y s6 z=>?_
   ·rw[hgh] at z
    obtain⟨y,S3,e,z⟩:=z;cases e;obtain⟨u,v,σ6,H6,ρ6,rfl,J6,rv,rd,sr6,st6⟩:=z;exact Inv.goes (Inv.outH J6 J.ok) hl fun s7 J7=>⟨.rt d,S2,rfl,u,v,_,H6,ρ6,rfl,J7,rv,rd,sr6,st.trans st6⟩
   ·rw[hgh] at z
    obtain⟨_,_,_,e,_⟩:=z;cases e
  have hI:=J.stack;rcases fl with⟨oe,vs,e1,e2,e3⟩|⟨oe,vs,T,oT,ts,e1,e2,e3,⟨e4,e5⟩,e6,e7,e8,e9,e10⟩
  ·have hid:Hid X H1 a s1.heap (a::frs X.stack):=⟨.head _,fun b hb=>.tail _ hb,fun b hb=>by
    rcases Vl.mp hb with z|z
    ·exact .inl z
    ·exact .inr (.inl z)⟩
   rw[ea] at e1;cases e1;rw[da] at e2;cases e2;unfold noteFrame;simp only[hf];refine Va (V3 ea da e3 ?_);rw[if_neg (by decide)]
   refine wpAny_entryW (base:=Vaz s1.heap (a::frs X.stack)) hA (by rw[<- hs];exact Xa8 hI fun b hb=>Up _ (.tail _ hb)) hf ea (fun b o e=>Vcn _ e) (Up _ (.head _)) da vz v0 fun h2 ⟨k1,k2,k3,k4⟩=>?_
   rw[ca] at k3;exact main _ hid (fun b hb h1 h2=>by
    rcases Vl.mp hb with z|z
    ·exact absurd z h1
    ·exact absurd z h2) h2 ⟨k1,Up _ (.head _),k2,k3⟩ k4
  ·have hid:Hid X H1 a s1.heap (a::T::frs X.stack):=⟨.head _,fun b hb=>.tail _ (.tail _ hb),fun b hb=>by
    rcases Vl.mp hb with z|z
    ·exact .inl z
    ·rcases Vl.mp z with z|z
     ·subst z;exact .inr (.inr ⟨e7,oT,ts,e8,e9⟩)
     ·exact .inr (.inl z)⟩
   rw[ea] at e1;cases e1;rw[da] at e2;cases e2;refine wpAny_looks_onW (base:=Vaz s1.heap (a::T::frs X.stack)) (cls:=.ref C) (a0:=a0) hA hf ⟨fun b o e=>Vcn _ e,Up _ (.head _),by rw[<- hs];exact Xa8 hI fun b hb=>Up _ (.tail _ (.tail _ hb)),oa,va,T,oT,ts,ea,⟨ca,v0⟩,da,e3,Up _ (.tail _ (.head _)),e6,e8,e9,e10⟩ fun h2 hh2 up2=>?_
   exact main _ hid (fun b hb h1 h2=>by
    rcases Vl.mp hb with z|z
    ·exact absurd z h1
    ·rcases Vl.mp z with z|z
     ·subst z;exact⟨e4,e5⟩
     ·exact absurd z h2) h2 hh2 up2
end
noncomputable def Xb6(sc:Scope):Vah:={ scope:=sc,locals:=0,globals:=0,cells:=[] }
noncomputable def Xeh(b:Bool):Sem Bool->Bool
 | .pure c=>b==c
 | _=>false
noncomputable def Xlz(l:Option (List Str)):Sem (Option (List Str))->Bool
 | .pure m=>decide (l=m)
 | _=>false
theorem Xcf(h:Xeh b m=true):m=pure b:=by
 cases m<;>first|cases h|skip
 simp only[Xeh,beq_iff_eq] at h;subst h;rfl
theorem Xhx(h:Xlz b m=true):m=pure b:=by
 cases m<;>first|cases h|skip
 simp only[Xlz,decide_eq_true_eq] at h;subst h;rfl
theorem Xl0(v:Expr)(t:Option Expr)(l:Nat)(env:Vah):Vdr v t l env=Vdr v t l (Xb6 env.scope):=rfl
theorem Xhy(t v:Expr)(l:Nat)(env:Vah):Vb4 [t] v l env=Vb4 [t] v l (Xb6 env.scope):=rfl
theorem Xhz(ts:List Expr)(v:Expr)(env:Vah):Vb5 ts v env=Vb5 ts v (Xb6 env.scope):=rfl
theorem Xl1(h:Xc7 i=true)(v:Value):assign (.Subscript o i spos) env v=(do
   let ov <- holding [v] (eval o env)
   let iv <- holding [v,ov] (eval i env)
   standAt spos
   holding [v,ov,iv] (setItem ov iv v)
   release [v,ov,iv] []):=by
 cases i<;>first|rfl|cases h
noncomputable def X3w:Expr->Bool
 | .ListComp _ _ _ _=>true
 | _=>false
noncomputable def Xh0(s:Stmt):Option (List Expr×Expr×Pos):=match s with
 | .Assign ts v p=>some (ts,v,p)
 | _=>none
theorem Xe3(h:Xh0 s=some z):s=.Assign z.1 z.2.1 z.2.2:=by
 unfold Xh0 at h;split at h
 ·cases h;rfl
 ·cases h
noncomputable def Xu3(s:Stmt):Option (Expr×Operator×Expr×Pos):=match s with
 | .AugAssign t o v p=>some (t,o,v,p)
 | _=>none
theorem Xzo(h:Xu3 s=some z):s=.AugAssign z.1 z.2.1 z.2.2.1 z.2.2.2:=by
 unfold Xu3 at h;split at h
 ·cases h;rfl
 ·cases h
noncomputable def Xu4(s:Stmt):Option (Expr×Pos):=match s with
 | .Expr v p=>some (v,p)
 | _=>none
theorem Xzp(h:Xu4 s=some z):s=.Expr z.1 z.2:=by
 unfold Xu4 at h;split at h
 ·cases h;rfl
 ·cases h
noncomputable def Xu5(s:Stmt):Option (Option Expr):=match s with
 | .Return v _=>some v
 | _=>none
theorem Xzq(h:Xu5 s=some z):∃ p,s=.Return z p:=by
 unfold Xu5 at h;split at h
 ·cases h;exact⟨_,rfl⟩
 ·cases h
noncomputable def Xu6(s:Stmt):Option (Expr×List Stmt×List Stmt):=match s with
 | .If c a b _=>some (c,a,b)
 | _=>none
theorem Xzr{s:Stmt}{z:Expr×List Stmt×List Stmt}(h:Xu6 s=some z):∃ p,s=.If z.1 z.2.1 z.2.2 p:=by
 unfold Xu6 at h;split at h
 ·cases h;exact⟨_,rfl⟩
 ·cases h
noncomputable def Xu7(s:Stmt):Option (Expr×Expr×List Stmt×List Stmt):=match s with
 | .For t i b oe _=>some (t,i,b,oe)
 | _=>none
theorem Xzs(h:Xu7 s=some z):∃ p,s=.For z.1 z.2.1 z.2.2.1 z.2.2.2 p:=by
 unfold Xu7 at h;split at h
 ·cases h;exact⟨_,rfl⟩
 ·cases h
noncomputable def Xu8(s:Stmt):Option (Expr×List Stmt×List Stmt):=match s with
 | .While c b oe _=>some (c,b,oe)
 | _=>none
theorem Xzt(h:Xu8 s=some z):∃ p,s=.While z.1 z.2.1 z.2.2 p:=by
 unfold Xu8 at h;split at h
 ·cases h;exact⟨_,rfl⟩
 ·cases h
noncomputable def Xu9(s:Stmt):Option (Option Expr×Option Expr):=match s with
 | .Raise v w _=>some (v,w)
 | _=>none
theorem Xzu(h:Xu9 s=some z):∃ p,s=.Raise z.1 z.2 p:=by
 unfold Xu9 at h;split at h
 ·cases h;exact⟨_,rfl⟩
 ·cases h
noncomputable def Xva(s:Stmt):Option (List Stmt×List ExceptHandler×List Stmt×List Stmt):=match s with
 | .Try b hs oe fb _=>some (b,hs,oe,fb)
 | _=>none
theorem Xzv(h:Xva s=some z):∃ p,s=.Try z.1 z.2.1 z.2.2.1 z.2.2.2 p:=by
 unfold Xva at h;split at h
 ·cases h;exact⟨_,rfl⟩
 ·cases h
noncomputable def Xvb(h:ExceptHandler):Option (Expr×Str×Stmt×List Stmt):=match h with
 | .ExceptHandler (some e) (some n) (b::su) _=>some (e,n,b,su)
 | _=>none
theorem Xzw(q:Xvb h=some z):∃ p,h=.ExceptHandler (some z.1) (some z.2.1) (z.2.2.1::z.2.2.2) p:=by
 unfold Xvb at q;split at q
 ·cases q;exact⟨_,rfl⟩
 ·cases q
noncomputable def Xf1(s:Stmt):Nat:=match s with
 | .Pass _=>1
 | .Break _=>2
 | .Continue _=>3
 | _=>0
theorem vEnd_ok:(Xf1 s=1->∃ p,s=.Pass p)/\(Xf1 s=2->∃ p,s=.Break p)/\(Xf1 s=3->∃ p,s=.Continue p):=by
 unfold Xf1;split
 ·exact⟨fun _=>⟨_,rfl⟩,fun z=>(nomatch z),fun z=>(nomatch z)⟩
 ·exact⟨fun z=>(nomatch z),fun _=>⟨_,rfl⟩,fun z=>(nomatch z)⟩
 ·exact⟨fun z=>(nomatch z),fun z=>(nomatch z),fun _=>⟨_,rfl⟩⟩
 ·exact⟨fun z=>(nomatch z),fun z=>(nomatch z),fun z=>(nomatch z)⟩
section
variable(cm:Bool)(fns:List (Str×Nat×Bool))(gns:List Str)(sc:Scope)(N:List Str)
noncomputable def X3x(i:Nat)(e:Ex)(v:Expr)(p:Pos)(ts:List Expr):Bool:=(Xc3 ts).any fun t=>(vNm t).any fun x=>decide (N[i]?=some x)&&Xft (fun _=>true) sc x&&mt cm fns gns sc N e v&&(Xeh false (Vdr v (some t) p.line (Xb6 sc))||(X3w v&&Xcw (sc.names.lookup x)&&Xeh true (Vdr v (some t) p.line (Xb6 sc))))
noncomputable def Xxo(is:List Nat)(e:Ex)(v:Expr)(p:Pos)(ts:List Expr):Bool:=(Xc3 ts).any fun t=>cm&&mtT (fun _=>true) sc N (.tup is) t&&mt cm fns gns sc N e v&&Xeh false (Vb4 [t] v p.line (Xb6 sc))&&Xlz none (Vb5 [t] v (Xb6 sc))
noncomputable def X6r(es:Exs)(p:Pos)(i j:Nat)(a b x y t v:Expr):Bool:=(vNm x).any fun xn=>(vNm y).any fun yn=>cm&&decide (N[i]?=some xn)&&decide (N[j]?=some yn)&&decide (i≠j)&&Xcw (sc.names.lookup xn)&&Xcw (sc.names.lookup yn)&&mts cm fns gns sc N es [a,b] &&
   Xlz (some [xn,yn]) (Vb5 [t] v (Xb6 sc))&&Xeh false (Vb4 [t] v p.line (Xb6 sc))
noncomputable def X3y(es:Exs)(p:Pos)(is:List Nat)(ts:List Expr)(v:Expr):Bool:=(Xc3 ts).any fun t=>(Xef t).any fun tn=>(Xef v).any fun vs =>
 (Xfv is).any fun i=>(Xfv tn).any fun x=>(Xfv vs).any fun a=>X6r cm fns gns sc N es p i.1 i.2 a.1 a.2 x.1 x.2 t v
noncomputable def Xxp(o i e:Ex)(v:Expr)(p:Pos)(ts:List Expr):Bool:=(Xc3 ts).any fun t=>(Xfw t).any fun z=>Xc7 z.2&&mt cm fns gns sc N o z.1&&mt cm fns gns sc N i z.2&&mt cm fns gns sc N e v&&Xeh false (Vb4 [t] v p.line (Xb6 sc))&&Xlz none (Vb5 [t] v (Xb6 sc))
noncomputable def X3z(i:Nat)(t:Expr):Bool:=(vNm t).any fun x=>decide (N[i]?=some x)&&Xft (fun _=>true) sc x
noncomputable def Xvc(c:Nat)(e:Ex)(v w:Option Expr):Bool:=w.isNone&&v.any fun r=>(Xaz r).any fun z=>(vNm z.1).any fun x=>decide (Xbi c=some x)&&glB sc x&&Y9 x&&Yu z.2.1&&z.2.2.1.isEmpty&&mt cm fns gns sc N e z.2.1
end
section
variable(fns:List (Str×Nat×Bool))(gns:List Str)(sc:Scope)(N:List Str)
mutual
noncomputable def mtS(cm:Bool):St->Stmt->Bool
 | .nev,_=>true
 | .asg (.var i) e,st=>(Xh0 st).any fun z=>X3x cm fns gns sc N i e z.2.1 z.2.2 z.1
 | .asg (.tup is) e,st=>(Xh0 st).any fun z=>Xxo cm fns gns sc N is e z.2.1 z.2.2 z.1
 | .asg (.nst _ _) _,_=>false
 | .par is es,st=>(Xh0 st).any fun z=>X3y cm fns gns sc N es z.2.2 is z.1 z.2.1
 | .aset o i e,st=>(Xh0 st).any fun z=>Xxp cm fns gns sc N o i e z.2.1 z.2.2 z.1
 | .aug i op e,st=>(Xu3 st).any fun z=>X3z sc N i z.1&&Xpg op z.2.1&&mt cm fns gns sc N e z.2.2.1
 | .expr e,st=>(Xu4 st).any fun z=>Xeh false (Vdr z.1 none z.2.line (Xb6 sc))&&mt cm fns gns sc N e z.1
 | .ret e,st=>(Xu5 st).any fun z=>z.any fun v=>mt cm fns gns sc N e v
 | .ite c a b,st=>(Xu6 st).any fun z=>mt cm fns gns sc N c z.1&&mtSs cm a z.2.1&&mtSs cm b z.2.2
 | .for t it b,st=>(Xu7 st).any fun z=>cm&&z.2.2.2.isEmpty&&Xbl z.2.1&&mtT (fun _=>true) sc N t z.1&&mtI cm fns gns sc N it z.2.1&&mtSs cm b z.2.2.1&&Xdz t it
 | .whl c b,st=>(Xu8 st).any fun z=>z.2.2.isEmpty&&mt cm fns gns sc N c z.1&&mtSs cm b z.2.1
 | .rse c e,st=>(Xu9 st).any fun z=>cm&&Xvc cm fns gns sc N c e z.1 z.2
 | .try b c i h,st=>(Xva st).any fun z=>(Xc3 z.2.1).any fun y=>(Xvb y).any fun q=>(vNm q.1).any fun x=>z.2.2.1.isEmpty&&z.2.2.2.isEmpty&&nasgs b&&decide (Xbi c=some x)&&glB sc x&&Y9 x&&decide (N[i]?=some q.2.1)&&Xcw (sc.names.lookup q.2.1)&&mtSs cm b z.1&&mtSs false h (q.2.2.1::q.2.2.2)
 | .pass,st=>Xf1 st==1
 | .brk,st=>Xf1 st==2
 | .cnt,st=>Xf1 st==3
noncomputable def mtSs(cm:Bool):Sts->List Stmt->Bool
 | .nil,[]=>true
 | .cons s ss,x::xs=>mtS cm s x&&mtSs cm ss xs
 | _,_=>false
end
end
theorem Xd0(h:Xcw k=true):k=some .local:=by
 unfold Xcw at h;split at h
 ·rfl
 ·cases h
section
variable{F:Fn}{G:List D}{cm:Bool}{fns:List (Str×Nat×Bool)}{gns:List Str}{X:Cx}
theorem DS.congr{st:Stmt}{na:Bool}{f g:En->Sto->R Fl}(h:DS X st na f)(q:∀ env S,g env S=f env S):DS X st na g:=by
 have:g=f:=funext fun env=>funext fun S=>q env S
 rw[this];exact h
theorem DSs.congr{st:List Stmt}{na:Bool}{f g:En->Sto->R Fl}(h:DSs X st na f)(q:∀ env S,g env S=f env S):DSs X st na g:=by
 have:g=f:=funext fun env=>funext fun S=>q env S
 rw[this];exact h
theorem X30{st:Stmt}{na:Bool}:DS X st na (exe F G .nev):=fun _ _ _ _ _ _ _ _ nb=>absurd (by simp only[exe]) nb
structure TopOk(cm:Bool)(F:Fn)(G:List D)(fns:List (Str×Nat×Bool))(gns:List Str)(X:Cx)(sc:Scope)(N:List Str):Prop where
 hN:X.N=N
 hs:X.env.scope=sc
 nd:N.Nodup
 fn:∀ x,X.fn x=true
 pf:PF cm F G fns gns X
 stk:X.stack=X.env::X.outer
 frm:X.env.frame=some X.env.locals
theorem TopOk.inH(T:TopOk cm F G fns gns X sc N)(a:Addr):TopOk false F G fns gns (Z.inH X a) sc N :=
 ⟨T.hN,T.hs,T.nd,T.fn,⟨T.pf.blt,fun f nm ar fl h hf=>by
  obtain⟨g,fd,ps,k,c1,c2,r⟩:=T.pf.fn f nm ar fl h (fun z=>nomatch (hf z))
  refine⟨g,fd,ps,k,c1,?_,r⟩;cases fl with
  | true=>exact nomatch (hf rfl)
  | false=>exact c2.mark,T.pf.glb,T.pf.cal,T.pf.units,T.pf.gd,(fun z=>nomatch z),T.pf.err⟩,T.stk,T.frm⟩
variable{sc:Scope}{N:List Str}
noncomputable def isC:Ex->Bool
 | .nev=>true
 | .cmr _ _ _ _=>true
 | _=>false
theorem X6s(h4:X3w v=true)(hn:isC e=false)(h:mt cm fns gns sc N e v=true):False:=by
 cases v with
 | ListComp ee gens scope cp =>
  cases e with
  | nev=>cases hn
  | cmr _ _ _ _=>cases hn
  | _=>cases h
 | _=>cases h4
theorem Xvd{i:Nat}{e:Ex}{ts:List Expr}(T:TopOk cm F G fns gns X sc N)(h:X3x cm fns gns sc N i e v p ts=true):DS X (.Assign ts v p) false (exe F G (.asg (.var i) e)):=by
 obtain⟨t,k1,hq1⟩:=Xd h;obtain⟨x,k2,hq2⟩:=Xd hq1;clear h hq1;have h:=hq2;clear hq2;have k3:=Xbf k1;obtain⟨py,k4⟩:=Xay k2;subst k4 k3
 ·rw[bA0,bA0,bA0,decide_eq_true_eq,Va0,bA0,bA0] at h
  obtain⟨⟨⟨h1,h2⟩,h3⟩,h4⟩:=h;obtain⟨l1,l2⟩:=Xc6 (X:=X) T.hs (fun x _=>T.fn x) h2
  have ihe:=(snd e X sc N v T.hN T.hs T.pf h3).1;have hN:=T.hN;have hs:=T.hs;subst hN hs;rcases h4 with h4|⟨⟨h4,h5⟩,h6⟩
  ·have hw:=Xcf h4
   rw[<- Xl0] at hw;exact(X18 T.nd h1 l1 l2 ihe hw).congr fun env S=>by simp only[exe]<;>rfl
  ·have hw:=Xcf h6
   rw[<- Xl0] at hw;cases e with
   | nev=>exact fun _ _ _ _ _ _ _ _ nb=>absurd (by simp only[exe,ev,R.bind_bad]) nb
   | cmr k n gs elt =>
    obtain⟨ee,gens,scope,cp,rfl,m0,m1,m2,m3,m4,m5⟩:=Xrx h3;subst m1 m2;have so:=Xrv m3;have hcl:=T.pf.calm m0;obtain⟨c⟩:=Xob (p:=cp) rfl rfl T.pf hcl so (sndg gs X _ _ _ _ gens rfl rfl T.pf m4) (fun Y y1 y2 y3=>(snd elt Y _ _ ee y1 y2 y3 m5).1)
    refine(Xyo (py:=py) (spos:=p) T.nd h1 (Xd0 h5) hw hcl so rfl c.hg c.hi c.hs c.hG c.hT c.hB).congr fun env S=>?_
    simp only[exe];have:=congrFun (congrFun c.eq env) S;rw[this]
    all_goals rfl
   | _=>exact(X6s h4 rfl h3).elim
theorem Xve{is:List Nat}{e:Ex}{ts:List Expr}(T:TopOk cm F G fns gns X sc N)(h:Xxo cm fns gns sc N is e v p ts=true):DS X (.Assign ts v p) false (exe F G (.asg (.tup is) e)):=by
 obtain⟨t,k1,hq1⟩:=Xd h;clear h;have h:=hq1;clear hq1;have k3:=Xbf k1;subst k3
 ·rw[bA0,bA0,bA0,bA0] at h
  obtain⟨⟨⟨⟨h0,h1⟩,h2⟩,h3⟩,h4⟩:=h;have h1':=h1;simp only[mtT] at h1';obtain⟨tes,q1,_⟩:=Xd h1';obtain⟨tkk,tpp,q2⟩:=Xa3 q1;subst q2;have ihe:=(snd e X sc N v T.hN T.hs T.pf h2).1;have hg:=dgB (top:=fun _=>true) T.hN T.hs T.nd (fun _=>T.pf.calm h0) (fun x _=>T.fn x) h1
  have w1:=Xcf h3;have w2:=Xhx h4;rw[<- T.hs] at w1 w2;rw[<- Xhy] at w1;rw[<- Xhz] at w2;exact(X3p ihe hg w1 w2 rfl).congr fun env S=>by simp only[exe]<;>rfl
theorem Xzx{is:List Nat}{es:Exs}{ts:List Expr}(T:TopOk cm F G fns gns X sc N)(h:X3y cm fns gns sc N es p is ts v=true):DS X (.Assign ts v p) false (exe F G (.par is es)):=by
 obtain⟨t,k1,hq⟩:=Xd h;clear h;have h:=hq;clear hq;obtain⟨tn,k2,hq⟩:=Xd h;clear h;have h:=hq;clear hq;obtain⟨vs,k3,hq⟩:=Xd h;clear h;have h:=hq;clear hq;have e1:=Xbf k1;obtain⟨kt,pt,e2⟩:=Xa3 k2;obtain⟨kv,pv,e3⟩:=Xa3 k3;subst e1 e2 e3;obtain⟨⟨i,j⟩,k4,hq⟩:=Xd h;clear h;have h:=hq;clear hq;obtain⟨⟨x,y⟩,k5,hq⟩:=Xd h;clear h;have h:=hq;clear hq;obtain⟨⟨a,b⟩,k6,hq⟩:=Xd h;clear h;have h:=hq;clear hq;have e4:=Xc8 k4;have e5:=Xc8 k5;have e6:=Xc8 k6;subst e4 e5 e6;obtain⟨xn,k7,hq⟩:=Xd h;clear h;have h:=hq;clear hq;obtain⟨yn,k8,hq⟩:=Xd h;clear h;have h:=hq;clear hq;obtain⟨px,e7⟩:=Xay k7;obtain⟨py,e8⟩:=Xay k8;dsimp only at e7 e8;subst e7 e8
 iterate 8 rw[bA0] at h
 obtain⟨⟨⟨⟨⟨⟨⟨⟨h0,h1⟩,h2⟩,h3⟩,h4⟩,h5⟩,h6⟩,h7⟩,h8⟩:=h;have ihe:=snds es X sc N _ T.hN T.hs T.pf h6;have hN:=T.hN;have hs:=T.hs;subst hN hs;have w1:=Xcf h8;have w2:=Xhx h7;rw[<- Xhy] at w1;rw[<- Xhz] at w2;exact(Xzl (T.pf.calm h0) T.nd (of_decide_eq_true h1) (of_decide_eq_true h2) (of_decide_eq_true h3) (Xd0 h4) (Xd0 h5) ihe w2 w1).congr fun env S=>by simp only[exe]
theorem Xvf{o i e:Ex}{ts:List Expr}(T:TopOk cm F G fns gns X sc N)(h:Xxp cm fns gns sc N o i e v p ts=true):DS X (.Assign ts v p) false (exe F G (.aset o i e)):=by
 obtain⟨t,k1,hq1⟩:=Xd h;obtain⟨⟨ox,ix⟩,k2,hq2⟩:=Xd hq1;clear h hq1;have h:=hq2;clear hq2;have k3:=Xbf k1;obtain⟨sp,k4⟩:=Xc9 k2;dsimp only at k4;subst k4 k3
 ·iterate 5 rw[bA0] at h
  obtain⟨⟨⟨⟨⟨h1,h2⟩,h3⟩,h4⟩,h5⟩,h6⟩:=h;have w1:=Xcf h5;have w2:=Xhx h6;rw[<- T.hs] at w1 w2;rw[<- Xhy] at w1;rw[<- Xhz] at w2;exact((Xzm (snd e X sc N v T.hN T.hs T.pf h4).1 (snd o X sc N _ T.hN T.hs T.pf h2).1 (snd i X sc N _ T.hN T.hs T.pf h3).1 w1 w2 (Xl1 h1)).weak (na2:=false) fun z=>nomatch z).congr fun env S=>by simp only[exe]
theorem Xzy{i:Nat}{op:Bo}{e:Ex}{o:Operator}(T:TopOk cm F G fns gns X sc N)(h:(X3z sc N i t&&Xpg op o&&mt cm fns gns sc N e v)=true):DS X (.AugAssign t o v p) false (exe F G (.aug i op e)):=by
 simp only[bA0] at h;obtain⟨⟨h1,h2⟩,h3⟩:=h;obtain⟨x,k1,hq⟩:=Xd h1;clear h1;have h1:=hq;clear hq;obtain⟨px,k2⟩:=Xay k1;subst k2;have e1:=Xn5 h2;subst e1
 ·rw[bA0,decide_eq_true_eq] at h1
  obtain⟨l1,l2⟩:=Xc6 (X:=X) T.hs (fun x _=>T.fn x) h1.2
  have ihe:=(snd e X sc N v T.hN T.hs T.pf h3).1;have hN:=T.hN;have hs:=T.hs;subst hN hs;exact(X3r T.nd h1.1 l1 l2 ihe).congr fun env S=>by simp only[exe]<;>rfl
theorem Xzz{e:Ex}{v:Option Expr}(T:TopOk cm F G fns gns X sc N)(h:(v.any fun v=>mt cm fns gns sc N e v)=true):DS X (.Return v p) true (exe F G (.ret e)):=by
 obtain⟨v,rfl,h⟩:=Xd h;exact(X17 (snd e X sc N v T.hN T.hs T.pf h).1).congr fun env S=>by simp only[exe]
theorem Xz0{c:Nat}{e:Ex}{v w:Option Expr}(T:TopOk cm F G fns gns X sc N)(h0:cm=true)(h:Xvc cm fns gns sc N c e v w=true):DS X (.Raise v w p) true (exe F G (.rse c e)):=by
 unfold Xvc at h;rw[bA0] at h;obtain⟨hw,h⟩:=h;cases w with
 | some _=>cases hw
 | none =>
  obtain⟨r,er,hq⟩:=Xd h;obtain⟨x,px,y,ys,cp,er2,hq2⟩:=Xb3 hq;clear h hq;have h:=hq2;clear hq2;subst er2 er
  iterate 5 rw[bA0] at h
  obtain⟨⟨⟨⟨⟨h1,h2⟩,h3⟩,h4⟩,h6⟩,h5⟩:=h;have h1:=of_decide_eq_true h1;have e6:=Vbc.mp h6;dsimp only at e6;subst e6;obtain⟨C,k1,k2⟩:=T.pf.err.at_ c x h1;exact(X3u (T.pf.calm h0) h1 k2 (T.pf.err.cls c C k1).1 (Y1 T.hs h2) (Xat h3).1 (snd e X sc N y T.hN T.hs T.pf h5).1 h4).congr fun env S=>by simp only[exe]
mutual
theorem X8b{cm:Bool}{X:Cx}:∀ (x:St) (st:Stmt),TopOk cm F G fns gns X sc N->mtS fns gns sc N cm x st=true->DS X st (X1y x) (exe F G x)
 | .nev,st,T,h=>X30
 | .asg (.var i) e,st,T,h=>by
  simp only[mtS] at h;obtain⟨z,h1,hq⟩:=Xd h;clear h;have h:=hq;clear hq;rw[Xe3 h1];exact Xvd T h
 | .asg (.tup is) e,st,T,h=>by
  simp only[mtS] at h;obtain⟨z,h1,hq⟩:=Xd h;clear h;have h:=hq;clear hq;rw[Xe3 h1];exact Xve T h
 | .asg (.nst _ _) _,st,T,h=>by cases h
 | .par is es,st,T,h=>by
  simp only[mtS] at h;obtain⟨z,h1,hq⟩:=Xd h;clear h;have h:=hq;clear hq;rw[Xe3 h1];exact Xzx T h
 | .aset o i e,st,T,h=>by
  simp only[mtS] at h;obtain⟨z,h1,hq⟩:=Xd h;clear h;have h:=hq;clear hq;rw[Xe3 h1];exact Xvf T h
 | .aug i op e,st,T,h=>by
  simp only[mtS] at h;obtain⟨z,h1,hq⟩:=Xd h;clear h;have h:=hq;clear hq;rw[Xzo h1];exact Xzy T h
 | .expr e,st,T,h=>by
  simp only[mtS] at h;obtain⟨z,h1,hq⟩:=Xd h;clear h;have h:=hq;clear hq;rw[Xzp h1];rw[bA0] at h;have w1:=Xcf h.1;rw[<- T.hs,<- Xl0] at w1;exact(Xye (snd e X sc N z.1 T.hN T.hs T.pf h.2).1 w1).congr fun env S=>by simp only[exe]
 | .ret e,st,T,h=>by
  simp only[mtS] at h;obtain⟨z,h1,hq⟩:=Xd h;clear h;have h:=hq;clear hq;obtain⟨p,rfl⟩:=Xzq h1;exact Xzz T h
 | .ite c a b,st,T,h=>by
  simp only[mtS] at h;obtain⟨z,h1,hq⟩:=Xd h;clear h;have h:=hq;clear hq;obtain⟨p,rfl⟩:=Xzr h1;rw[bA0,bA0] at h;exact(X59 (snd c X sc N z.1 T.hN T.hs T.pf h.1.1).2 (sndSs a z.2.1 T h.1.2) (sndSs b z.2.2 T h.2)).congr fun env S=>by simp only[exe]<;>rfl
 | .for t it b,st,T,h=>by
  simp only[mtS] at h;obtain⟨⟨tg,iter,body,oe⟩,h1,hq⟩:=Xd h;clear h;have h:=hq;clear hq;obtain⟨p,rfl⟩:=Xzs h1
  iterate 6 rw[bA0] at h
  obtain⟨⟨⟨⟨⟨⟨h0,h1⟩,h2⟩,h3⟩,h4⟩,h5⟩,h6⟩:=h;have e1:=Vbc.mp h1;dsimp only at e1;subst e1;have hg:=dgB (top:=fun _=>true) T.hN T.hs T.nd (fun _=>T.pf.calm h0) (fun x _=>T.fn x) h3
  exact(X2j (T.pf.calm h0) (Xpr it X sc N tg iter T.hN T.hs T.pf (Xgm h6 h3) h4) hg (sndSs b body T h5) (Xdy h2)).congr fun env S=>by simp only[exe]
 | .whl c b,st,T,h=>by
  simp only[mtS] at h;obtain⟨⟨cx,body,oe⟩,h1,hq⟩:=Xd h;clear h;have h:=hq;clear hq;obtain⟨p,rfl⟩:=Xzt h1;rw[bA0,bA0] at h;obtain⟨⟨h1,h2⟩,h3⟩:=h;have e1:=Vbc.mp h1;dsimp only at e1;subst e1;exact(X3s (snd c X sc N cx T.hN T.hs T.pf h2).2 (sndSs b body T h3)).congr fun env S=>by simp only[exe]<;>rfl
 | .rse c e,st,T,h=>by
  simp only[mtS] at h;obtain⟨z,h1,hq⟩:=Xd h;clear h;have h:=hq;clear hq;obtain⟨p,rfl⟩:=Xzu h1;rw[bA0] at h;exact Xz0 T h.1 h.2
 | .try b c i hd,st,T,h=>by
  simp only[mtS] at h;obtain⟨⟨body,hs,oe,fb⟩,k1,hq⟩:=Xd h;clear h;have h:=hq;clear hq;obtain⟨y,k2,hq⟩:=Xd h;clear h;have h:=hq;clear hq;obtain⟨⟨te,n,b0,su⟩,k3,hq⟩:=Xd h;clear h;have h:=hq;clear hq;obtain⟨x,k4,hq⟩:=Xd h;clear h;have h:=hq;clear hq;obtain⟨p,e1⟩:=Xzv k1;have e2:=Xbf k2;obtain⟨hp,e3⟩:=Xzw k3;obtain⟨np,e4⟩:=Xay k4;dsimp only at e1 e2 e3 e4;subst e4 e3 e2 e1
  iterate 9 rw[bA0] at h
  obtain⟨⟨⟨⟨⟨⟨⟨⟨⟨h1,h2⟩,h3⟩,h4⟩,h5⟩,h6⟩,h7⟩,h8⟩,h9⟩,h10⟩:=h;have e1:=Vbc.mp h1;have e2:=Vbc.mp h2;have h4:=of_decide_eq_true h4;have h7:=of_decide_eq_true h7;dsimp only at e1 e2 h7;subst e1 e2;have ib:=sndSs b body T h9;rw[h3] at ib;have ih:∀ a,DSs (Z.inH X a) (b0::su) (nasgs hd) (exes F G hd):=fun a=>sndSs hd (b0::su) (T.inH a) h10
  obtain⟨C0,k1,k2⟩:=T.pf.err.at_ c x h4;have hN:=T.hN;have hs:=T.hs;subst hN hs;refine(X3v (c:=c) T.stk T.frm T.nd h7 (Xd0 h8) k2 (Y1 rfl h5) (Xat h6).1 (fun c' C e1 e2=>(T.pf.err.sub c' C c C0 e1 k1).2 e2) ib ih).congr fun env S=>?_
  simp only[exe,h3,if_true,Xu2]
  all_goals rfl
 | .pass,st,T,h=>by
  simp only[mtS,beq_iff_eq] at h;obtain⟨p,rfl⟩:=vEnd_ok.1 h;exact ds_pass.congr fun env S=>by simp only[exe]
 | .brk,st,T,h=>by
  simp only[mtS,beq_iff_eq] at h;obtain⟨p,rfl⟩:=vEnd_ok.2.1 h;exact ds_brk.congr fun env S=>by simp only[exe]
 | .cnt,st,T,h=>by
  simp only[mtS,beq_iff_eq] at h;obtain⟨p,rfl⟩:=vEnd_ok.2.2 h;exact ds_cnt.congr fun env S=>by simp only[exe]
theorem sndSs{cm:Bool}{X:Cx}:∀ (x:Sts) (st:List Stmt),TopOk cm F G fns gns X sc N->mtSs fns gns sc N cm x st=true->DSs X st (nasgs x) (exes F G x)
 | .nil,[],T,h=>dss_nil.congr fun env S=>by simp only[exes]
 | .cons s ss,x::xs,T,h=>by
  have h':(mtS fns gns sc N cm s x&&mtSs fns gns sc N cm ss xs)=true:=h;rw[bA0] at h';exact(Xt3 (X8b s x T h'.1) (sndSs ss xs T h'.2)).congr fun env S=>by simp only[exes]<;>rfl
 | .nil,_::_,T,h=>by cases h
 | .cons _ _,[],T,h=>by cases h
end
end
noncomputable def Xcx(N ps:List Str)(sc:Scope):Bool:=Xpj sc.kind && !sc.isCoroutine && !sc.isGenerator&&Xed N&&decide (N.take ps.length=ps)&&ps.all (fun x=>match sc.names.lookup x with|some .local=>true|some .cell=>true|_=>false)&&sc.names.all (fun y=>match y.2 with | .free=>false|_=>true)
theorem Xvg(h:Xcx N ps sc=true):FnScope N ps sc:=by
 simp only[Xcx,bA0,Var,decide_eq_true_eq] at h;obtain⟨⟨⟨⟨⟨⟨h1,h2⟩,h3⟩,h4⟩,h5⟩,h6⟩,h7⟩:=h;refine⟨Xhq h1,h2,h3,Xee h4,h5,fun x hx=>?_,fun y hy e=>?_⟩
 ·have:=Uv.mp h6 x hx
  split at this
  ·exact .inl (by assumption)
  ·exact .inr (by assumption)
  ·cases this
 ·have:=Uv.mp h7 y hy
  rw[e] at this;cases this
structure DefOk(K:Vf)(mg:Str->Option Value)(fns:List (Str×Nat×Bool))(gns:List Str)(d:Df)(nm:Str)(ar:Nat)(fl:Bool):Prop where
 ex:∃ g fd st qual N ps,Fun K nm qual st g fd/\mg nm=some (.ref g)/\Xcx N ps (Xw st)=true/\mtSs fns gns (Xw st) N fl d.body (Yl st)=true/\d.np=ps.length/\d.nl=N.length/\ps.length=ar/\Binds K fd ps []
section
variable{P:Program}{w:World}{K:Vf}{mg:Str->Option Value}{base:Heap}{T:List Df}{G:List D}{fns:List (Str×Nat×Bool)}{gns:List Str}
theorem Xl2(hcl:∀ (f:Nat) (nm:Str),Xbb f nm G=true->∃ ar fl,fns[f]?=some (nm,ar,fl)/\(∀ a,U6 K Vz nm=some (some (.ref a))->mg nm=some (.ref a))/\∀ k xs S,FT T G k f xs S≠.bad->xs.length=ar)(er:ErrOk K)(hb:∀ x∈blts,mg x=none)(hg:∀ (k:Nat) nm,gns[k]?=some nm->∃ u d,mg nm=some u/\G[k]?=some d/\∀ ρ H,∃ v,RelV v u/\RD K ρ H d v){k:Nat}
  (ih:∀ (f:Nat) nm ar fl,fns[f]?=some (nm,ar,fl)->∃ g fd ps,FnD fl P w K mg base k g fd ps (FT T G k f)/\Binds K fd ps []/\mg nm=some (.ref g)/\Vcc K (.ref g)=true/\ps.length=ar)
  {f:Nat} {nm qual:Str} {fl:Bool} {d:Df} {g:Addr} {fd:Vbv} {st:Stmt} {N ps:List Str} (hT:T[f]?=some d) (F:Fun K nm qual st g fd) (hS:Xcx N ps (Xw st)=true) (hM:mtSs fns gns (Xw st) N fl d.body (Yl st)=true) (hp:d.np=ps.length) (hn:d.nl=N.length) :
  FnD fl P w K mg base (k+1) g fd ps (FT T G (k+1) f):=by
 obtain⟨oc,od,kV,doc,pm,an,cdv,ct,osl,rfl,lk,hcd⟩:=F.ex;have hS':=Xvg hS;have key:=X19 (cm:=fl) (P:=P) (w:=w) (mg:=mg) (base:=base) (k:=k) (G:=exes (FT T G k) G d.body) (na:=nasgs d.body) lk hcd hS' fun A outer s H E hr=>by
  refine sndSs (fns:=fns) (gns:=gns) (sc:=Xw st) (N:=N) d.body (Yl st) ⟨rfl,rfl,hS'.nd,fun _=>rfl,⟨hb,fun f nm ar fl' h hfl=>?_,hg,fun f nm h=>let ⟨ar,fl,h1,h2,h3⟩:=hcl f nm h;⟨ar,fl,h1,h2,h3 k⟩,?_,hr.gd,id,er⟩,rfl,rfl⟩ hM
  ·obtain⟨g,fd,ps,h1,h2,h3,h4,h5⟩:=ih f nm ar fl' h
   exact⟨g,fd,ps,k,h1,hr.less hfl,h2,h3,h4,h5⟩
  ·have:=hr.un
   show(A.deeper _).units+200<cLine;omega
 have e:FT T G (k+1) f=(fun ds S=>if ds.length=ps.length then
  match exes (FT T G k) G d.body (ds.map some++Vd (N.length-ps.length) none) S with
  | .ok (.rt v) S=>.ok v S
  | .ok (.nx _) S=>.ok .non S
  | .ok _ _=>.bad
  | .ex n S=>.ex n S
  | .bad=>.bad else .bad):=by
  funext ds S
  simp only[FT,hT,den,hp,hn]
  all_goals rfl
 rw[e];exact key
theorem X6t(hcl:∀ (f:Nat) (nm:Str),Xbb f nm G=true->∃ ar fl,fns[f]?=some (nm,ar,fl)/\(∀ a,U6 K Vz nm=some (some (.ref a))->mg nm=some (.ref a))/\∀ k xs S,FT T G k f xs S≠.bad->xs.length=ar)(er:ErrOk K)(hb:∀ x∈blts,mg x=none)(hg:∀ (k:Nat) nm,gns[k]?=some nm->∃ u d,mg nm=some u/\G[k]?=some d/\∀ ρ H,∃ v,RelV v u/\RD K ρ H d v)
  (hd:∀ (f:Nat) nm ar fl,fns[f]?=some (nm,ar,fl)->∃ d,T[f]?=some d/\DefOk K mg fns gns d nm ar fl) :
  ∀ (k f:Nat) nm ar fl,fns[f]?=some (nm,ar,fl)->∃ g fd ps,FnD fl P w K mg base k g fd ps (FT T G k f)/\Binds K fd ps []/\mg nm=some (.ref g)/\Vcc K (.ref g)=true/\ps.length=ar:=by
 intro k
 induction k with
 | zero =>
  intro f nm ar fl h;obtain⟨d,_,⟨g,fd,st,qual,N,ps,F,hm,_,_,_,_,hl,hB⟩⟩:=hd f nm ar fl h;refine⟨g,fd,ps,⟨fun A outer s H args us vs Q E _ _ _ _ hsp=>?_⟩,hB,hm,F.kp,hl⟩
  obtain⟨ds,ρ,S',_,_,_,nb,_⟩:=hsp;exact absurd rfl nb
 | succ k ih =>
  intro f nm ar fl h;obtain⟨d,hT,⟨g,fd,st,qual,N,ps,F,hm,hS,hM,hp,hn,hl,hB⟩⟩:=hd f nm ar fl h;exact⟨g,fd,ps,Xl2 hcl er hb hg ih hT F hS hM hp hn,hB,hm,F.kp,hl⟩
end
structure FunAt(K:Vf)(nm:Str)(st:Stmt):Prop where
 ex:∃ g fd,Fun K nm nm st g fd/\U6 K Vz nm=some (some (.ref g))
theorem funAt_mk{K:Vf}{nm:Str}{st:Stmt}{f:Addr}{oc:Value}{od an:Option Addr}{osl:Array (Option Value)}{kV doc pm cdv ct:Value}(a:U6 K Vz nm=some (some (.ref f)))
  (l:K.lookup f=some ⟨oc,od,.func (Va7 nm nm (Xa2 st) (Yl st) (Xw st) .none kV doc pm an cdv ct),osl⟩) (c:Vex K cdv nm=true) (k:Vcc K (.ref f)=true):FunAt K nm st:=⟨⟨f,_,X1x l c k,a⟩⟩
def Xe4(nm:Str)(st:Stmt)(ps:List Str):Prop:=∀ (kV doc pm:Value) (an:Option Addr) (cdv ct:Value) (us:List Value),us.length=ps.length->bindArgs (Va7 nm nm (Xa2 st) (Yl st) (Xw st) .none kV doc pm an cdv ct) ⟨us,[]⟩=pure (ps.zip us)
theorem Xai{nm a:Str}{st:Stmt}(h:∀ kV doc pm an cdv ct u,bindArgs (Va7 nm nm (Xa2 st) (Yl st) (Xw st) .none kV doc pm an cdv ct) ⟨[u],[]⟩=pure [(a,u)]:=by intros;rfl):Xe4 nm st [a]:=fun kV doc pm an cdv ct us hl=>match us,hl with
 | [u],_=>h kV doc pm an cdv ct u
theorem Xbd{nm a b:Str}{st:Stmt}(h:∀ kV doc pm an cdv ct u v,bindArgs (Va7 nm nm (Xa2 st) (Yl st) (Xw st) .none kV doc pm an cdv ct) ⟨[u,v],[]⟩=pure [(a,u),(b,v)]:=by intros;rfl):Xe4 nm st [a,b]:=fun kV doc pm an cdv ct us hl=>match us,hl with
 | [u,v],_=>h kV doc pm an cdv ct u v
theorem X31{nm a b c:Str}{st:Stmt}(h:∀ kV doc pm an cdv ct u v x,bindArgs (Va7 nm nm (Xa2 st) (Yl st) (Xw st) .none kV doc pm an cdv ct) ⟨[u,v,x],[]⟩=pure [(a,u),(b,v),(c,x)]:=by intros;rfl):Xe4 nm st [a,b,c]:=fun kV doc pm an cdv ct us hl=>match us,hl with
 | [u,v,x],_=>h kV doc pm an cdv ct u v x
theorem Xvh{K:Vf}{h:Heap}{mg:Str->Option Value}{fns:List (Str×Nat×Bool)}{gns:List Str}{d:Df}{nm:Str}{ar:Nat}{fl:Bool}{st:Stmt}{N ps:List Str}(X:K.In h)(Gm:h.Ns Vz mg)(F:FunAt K nm st)
  (hS:Xcx N ps (Xw st)=true) (hM:mtSs fns gns (Xw st) N fl d.body (Yl st)=true) (hp:d.np=ps.length) (hn:d.nl=N.length) (hl:ps.length=ar) (hB:Xe4 nm st ps):DefOk K mg fns gns d nm ar fl:=by
 obtain⟨g,fd,h1,h2⟩:=F.ex;exact⟨g,fd,st,nm,N,ps,h1,Vbt X Gm h2,hS,hM,hp,hn,hl,h1.binds hB⟩
abbrev MD(fns:List (Str×Nat×Bool))(gns:List Str)(st:Stmt)(N:List Str)(fl:Bool)(d:Df):Prop:=(mtSs fns gns (Xw st) N fl d.body (Yl st)&&Xcx N (N.take d.np) (Xw st))=true
theorem mm{fns:List (Str×Nat×Bool)}{gns:List Str}{st:Stmt}{N:List Str}{fl:Bool}{d:Df}(h:MD fns gns st N fl d):mtSs fns gns (Xw st) N fl d.body (Yl st)=true:=((bA0 _ _).mp h).1
theorem ms{fns:List (Str×Nat×Bool)}{gns:List Str}{st:Stmt}{N:List Str}{fl:Bool}{d:Df}(h:MD fns gns st N fl d):Xcx N (N.take d.np) (Xw st)=true:=((bA0 _ _).mp h).2
theorem dk{K:Vf}{h:Heap}{mg:Str->Option Value}{fns:List (Str×Nat×Bool)}{gns:List Str}{d:Df}{nm:Str}{ar:Nat}{fl:Bool}{st:Stmt}{N:List Str}(X:K.In h)(Gm:h.Ns Vz mg)(F:FunAt K nm st)
  (hM:MD fns gns st N fl d) (hB:Xe4 nm st (N.take d.np)) (hp:d.np=(N.take d.np).length:=by rfl) (hn:d.nl=N.length:=by rfl) (hl:(N.take d.np).length=ar:=by rfl):DefOk K mg fns gns d nm ar fl:=Xvh X Gm F (ms hM) (mm hM) hp hn hl hB
def AllD(K:Vf)(mg:Str->Option Value)(fns:List (Str×Nat×Bool))(gns:List Str):List (Str×Nat×Bool)->List Df->Prop
 | [],[]=>True
 | x::r,d::ds=>DefOk K mg fns gns d x.1 x.2.1 x.2.2/\AllD K mg fns gns r ds
 | _,_=>False
theorem AllD.c{K:Vf}{mg:Str->Option Value}{fns:List (Str×Nat×Bool)}{gns:List Str}{x:Str×Nat×Bool}{r:List (Str×Nat×Bool)}{d:Df}{ds:List Df}(h:DefOk K mg fns gns d x.1 x.2.1 x.2.2)(t:AllD K mg fns gns r ds):AllD K mg fns gns (x::r) (d::ds):=⟨h,t⟩
theorem AllD.get{K:Vf}{mg:Str->Option Value}{fns:List (Str×Nat×Bool)}{gns:List Str}:∀ {fs:List (Str×Nat×Bool)} {ds:List Df},AllD K mg fns gns fs ds->∀ (f:Nat) nm ar fl,fs[f]?=some (nm,ar,fl)->∃ d,ds[f]?=some d/\DefOk K mg fns gns d nm ar fl
 | [],[],_,f,nm,ar,fl,e=>by cases e
 | x::r,d::ds,h,0,nm,ar,fl,e=>by cases e;exact⟨d,rfl,h.1⟩
 | x::r,d::ds,h,f+1,nm,ar,fl,e=>AllD.get h.2 f nm ar fl e
noncomputable def X32(K:Vf):Bool:=blts.all fun x=>match U6 K Vz x with
 | some none=>true
 | _=>false
theorem Xz1{K:Vf}{h:Heap}{mg:Str->Option Value}(X:K.In h)(Gm:h.Ns Vz mg)(e:X32 K=true):∀ x∈blts,mg x=none:=fun x hx=>by
 have:=Uv.mp e x hx;split at this
 ·rename_i q;exact PySem.W.mg_none_of X Gm q
 ·cases this
theorem Xh1{K:Vf}{h:Heap}{mg:Str->Option Value}{nm:Str}{i:Int}{t:Tok}(X:K.In h)(Gm:h.Ns Vz mg)(e:U6 K Vz nm=some (some (.int i t))):∃ u d,mg nm=some u/\some (D.int i)=some d/\∀ ρ H,∃ v,RelV v u/\RD K ρ H d v :=
 ⟨_,_,Vbt X Gm e,rfl,fun _ _=>⟨.int i,⟨t,rfl⟩,by simp only[RD]⟩⟩
theorem X33{K:Vf}{h:Heap}{mg:Str->Option Value}{nm:Str}{st:Stmt}{f:Nat}(X:K.In h)(Gm:h.Ns Vz mg)(F:FunAt K nm st):∃ u d,mg nm=some u/\some (D.fn f nm)=some d/\∀ ρ H,∃ v,RelV v u/\RD K ρ H d v:=by
 obtain⟨g,fd,_,h2⟩:=F.ex;exact⟨_,_,Vbt X Gm h2,rfl,fun _ _=>⟨.ref g,rfl,by simp only[RD];exact⟨g,rfl,h2⟩⟩⟩
noncomputable def Xh2(fns:List (Str×Nat×Bool)):List D->Bool
 | []=>true
 | .fn f nm::r=>(match fns[f]? with|some (m,_,_)=>decide (m=nm)|none=>false)&&Xh2 fns r
 | _::r=>Xh2 fns r
theorem Xh3:∀ {G:List D},Xh2 fns G=true->Xbb f nm G=true->∃ ar fl,fns[f]?=some (nm,ar,fl)
 | [],_,h=>by cases h
 | d::r,hc,h=>by
  cases d with
  | fn g m =>
   simp only[Xh2,bA0] at hc;simp only[Xbb,Va0,bA0,beq_iff_eq,decide_eq_true_eq] at h;rcases h with⟨rfl,rfl⟩|h
   ·have h1:=hc.1
    split at h1
    ·rename_i m' ar fl e
     have:=of_decide_eq_true h1;subst this;exact⟨ar,fl,e⟩
    ·cases h1
   ·exact Xh3 hc.2 h
  | _=>exact Xh3 (by simpa only[Xh2] using hc) (by simpa only[Xbb] using h)
theorem X34(hT:T[f]?=some d):∀ (k:Nat) (xs:List D) (S:Sto),FT T G k f xs S≠.bad->xs.length=d.np
 | 0,xs,S,h=>absurd rfl h
 | k+1,xs,S,h=>by
  simp only[FT,hT,den] at h;split at h
  ·assumption
  ·exact absurd rfl h
theorem law_fn {P:Program} {w:World} {K:Vf} {h:Heap} {mg:Str->Option Value} {T:List Df} {G:List D} {fns:List (Str×Nat×Bool)} {gns:List Str} {fa:Addr} {k f:Nat} {d:Df} {st:Stmt} {N:List Str} {x:Str} (X:K.In h) (Gm:h.Ns Vz mg) (hfa:mg "law" = some (.ref fa))
  (er:ErrOk K) (hb:∀ x∈blts,mg x=none) (hg:∀ (k:Nat) nm,gns[k]?=some nm->∃ u d,mg nm=some u/\G[k]?=some d/\∀ ρ H,∃ v,RelV v u/\RD K ρ H d v)
  (hd:∀ (f:Nat) nm ar fl,fns[f]?=some (nm,ar,fl)->∃ d,T[f]?=some d/\DefOk K mg fns gns d nm ar fl)
  (hT:T[f]?=some d) (F:FunAt K "law" st) (hS:Xcx N [x] (Xw st)=true) (hM:mtSs fns gns (Xw st) N true d.body (Yl st)=true) (hp:d.np=1) (hn:d.nl=N.length) (hB:Xe4 "law" st [x]) (hcb:Xh2 fns G=true:=by rfl) :
  ∃ fd:Vbv,(∀ (s:Shared) (u:Value),BindsTo s fd ⟨[u],[]⟩ [(x,u)])/\∀ base:Heap,K.In base->base.Ns Vz mg->FnOk P w K mg base (CXd P w) (k+1) fa fd [x] (spD K 1 (FT T G (k+1) f)):=by
 obtain⟨g,fd,h1,h2⟩:=F.ex;have e:=hfa.symm.trans (Vbt X Gm h2);cases e;refine⟨fd,fun s u=>?_,fun base _ _=>?_⟩
 ·obtain⟨oc,od,kV,doc,pm,an,cdv,ct,osl,rfl,_⟩:=h1.ex
  exact .of_eq (hB kV doc pm an cdv ct [u] rfl)
 ·have hcl:∀ (f:Nat) (nm:Str),Xbb f nm G=true->∃ ar fl,fns[f]?=some (nm,ar,fl)/\(∀ a,U6 K Vz nm=some (some (.ref a))->mg nm=some (.ref a))/\∀ k xs S,FT T G k f xs S≠.bad->xs.length=ar:=fun f nm h=>by
   obtain⟨ar,fl,q⟩:=Xh3 hcb h;obtain⟨d',hT',⟨_,_,_,_,_,ps',_,_,_,_,e1,_,e2,_⟩⟩:=hd f nm ar fl q;exact⟨ar,fl,q,fun a z=>Vbt X Gm z,fun k xs S z=>by rw[X34 hT' k xs S z,e1,e2]⟩
  have:=Xl2 (P:=P) (w:=w) (base:=base) hcl er hb hg (fun f nm ar fl q=>X6t hcl er hb hg hd k f nm ar fl q) hT h1 hS hM hp hn
  exact⟨fun vs H Q E z=>let ⟨_,_,_,q,_⟩:=z;q,fun A outer s H args us vs Q E hr=>this.run A outer s H args us vs Q E (.of hr)⟩
theorem X35{K:Vf}{F:List D->Sto->R D}{H:Hp}{a:Addr}{ns:List Int}(hO:Xo5 H)(hS:SqL K H a (ns.map V.int))(hF:∃ S',F [.fro (ns.map D.int)] []=.ok (.bl true) S') :
  spD K 1 F [.ref a] H (fun v _=>v=.bl true) fun _ _ _=>False:=by
 obtain⟨S',e⟩:=hF;have hfr:FrL K H a (ns.map V.int):=by
  rcases hS with(h|⟨o,h⟩)|h
  ·rcases hO a with z|⟨o,xs,z⟩
   ·rw[h] at z;cases z
   ·rw[h] at z;cases z
  ·exact .inl ⟨o,h⟩
  ·exact .inr h
 refine⟨[.fro (ns.map D.int)],[],[],rfl,.cons ?_ .nil,⟨rfl,List.nodup_nil,fun n a o q=>by simp at q⟩,(by rw[e];exact fun z=>nomatch z),fun d S2 v H' ρ' q rd _ _=>?_,fun n c S2 a H' ρ' q=>?_⟩
 ·simp only[RD]
  exact⟨a,_,rfl,hfr,RDs.ints ns⟩
 ·rw[e] at q;cases q
  simpa only[RD] using rd
 ·rw[e] at q;cases q
theorem X36(H:Hp)(s:Shared)(e:Value)(s':Shared)(z:CXd P w [] H s (fun _ _ _=>False) e s'):False:=by
 obtain⟨_,_,_,_,_,_,q⟩:=z;exact q
theorem walk_z{l:PySem.W.OpenLaw}{loose:List Str}{XP:(Str->Option Value)->Heap->Prop}{YP:World->Heap->Prop}{d:DefRec}{K:Params->Vf}{T:List Df}{G:List D}{k f:Nat}{x:Str}(hn:l.most=some 63)(hdf:d.params.defaults=[])(hr:Room k callerA)
  (hY:∀ (w:World) (h:Heap),YP w h->(K w.params).In h)
  (F:∀ (w:World) (mg:Str->Option Value) (fa:Addr) (h:Heap),(K w.params).In h->h.Ns Vz mg->mg d.name=some (.ref fa) ->
   ∃ fd:Vbv,(∀ (s:Shared) (u:Value),BindsTo s fd ⟨[u],[]⟩ [(x,u)])/\∀ base:Heap,(K w.params).In base->base.Ns Vz mg->FnOk l.prog w (K w.params) mg base (CXd l.prog w) k fa fd [x] (spD (K w.params) 1 (FT T G k f)))
  (hL:∀ ns:List Int,ns.length<=63->∃ S',FT T G k f [.fro (ns.map D.int)] []=.ok (.bl true) S') :
  PySem.W.WalkO q loose XP YP l.row.toRowW d [] (fun f vs=>PySem.call f vs) :=
 L2.walk_of (n:=63) (k:=k) (x:=x) (CX:=fun w=>CXd l.prog w) (sp:=fun w=>spD (K w.params) 1 (FT T G k f)) hn (by decide) hdf hr hY F (fun _ _ _ ns hl hO hS=>X35 hO hS (hL ns hl)) fun _ H s e s' z=>X36 H s e s' z
end Z
end
section
namespace Z
open PySem
section
variable{F:Fn}{G:List D}{s:St}{ss:Sts}{env e:En}{S S1:Sto}
theorem Xb(h:exe F G s env S=.ok (.nx e) S1):exes F G (.cons s ss) env S=exes F G ss e S1:=by simp only[exes,h]
theorem Xf(h:exe F G s env S=.ok (.rt d) S1):exes F G (.cons s ss) env S=.ok (.rt d) S1:=by simp only[exes,h]
theorem Xdb(h:exe F G s env S=.ex n S1):exes F G (.cons s ss) env S=.ex n S1:=by simp only[exes,h]
theorem Xei{get:Sto->Nat->Option (Option D)}{body:En->Sto->R Fl}(xs:List D)(P:Nat->En->Sto->Prop)(hget:∀ i e S,P i e S->get S i=some xs[i]?)
  (step:∀ i d e S,xs[i]?=some d->P i e S->∃ e1 e2 S2,Xl t d e=some e1/\body e1 S=.ok (.nx e2) S2/\P (i+1) e2 S2) :
  ∀ (fuel i:Nat) (e:En) (S:Sto),P i e S->i<=xs.length->xs.length<fuel+i->∃ e' S',Xv get t body fuel i e S=.ok (.nx e') S'/\P xs.length e' S'
 | 0,i,e,S,h,h1,h2=>by omega
 | fuel+1,i,e,S,h,h1,h2=>by
  cases q:xs[i]? with
  | none =>
   have hi:i=xs.length:=by
    have:=V7.mp q;omega
   refine⟨e,S,?_,hi▸h⟩;simp only[Xv,hget i e S h,q]
  | some d =>
   obtain⟨e1,e2,S2,a1,a2,a3⟩:=step i d e S q h;have hi:i<xs.length:=(Ve.mp q).1;obtain⟨e',S',b1,b2⟩:=Xei xs P hget step fuel (i+1) e2 S2 a3 (by omega) (by omega)
   refine⟨e',S',?_,b2⟩;simp only[Xv,hget i e S h,q,a1,a2];exact b1
theorem Xbg{ds xs:List D}(P:Nat->En->Sto->Prop)(h1:evs F G es env S=.ok ds S1)(h2:Yy ds=some xs)(h0:P 0 env S1)
  (step:∀ i d e S,xs[i]?=some d->P i e S->∃ e1 e2 S2,Xl t d e=some e1/\exes F G b e1 S=.ok (.nx e2) S2/\P (i+1) e2 S2) :
  ∃ e' S',exe F G (.for t (.rng es) b) env S=.ok (.nx e') S'/\P xs.length e' S':=by
 obtain⟨e',S',a,b'⟩:=Xei (get:=(Src.con xs).get) (t:=t) (body:=fun env S=>exes F G b env S) xs P (fun _ _ _ _=>rfl) step (xs.length+1) 0 env S1 h0 (Uo _) (by omega)
 refine⟨e',S',?_,b'⟩;simp only[exe,evit,h1,Rk0,h2,Src.most];exact a
end
theorem Y0(h:Yy [.int m]=some xs)(q:xs[i]?=some d):d=.int i/\i<m.toNat:=by
 simp only[Yy] at h;split at h
 ·cases h
  rw[V1] at q;cases z:(Vc m.toNat)[i]? with
  | none=>rw[z] at q;cases q
  | some j =>
   rw[z] at q;obtain⟨hi,e⟩:=Ve.mp z;simp at e hi;subst e;simp at q;exact⟨q.symm,by omega⟩
 ·cases h
theorem Ye(h0:0<=m)(h:m<1048576):∃ xs,Yy [.int m]=some xs/\xs.length=m.toNat:=by
 refine⟨_,by simp only[Yy];rw[if_pos ⟨by omega,h⟩],by simp⟩
noncomputable def C:Nat->Nat->Nat
 | _,0=>1
 | 0,_+1=>0
 | n+1,k+1=>C n k+C n (k+1)
theorem Xar(n:Nat):C n 0=1:=by cases n<;>rfl
theorem Xc4:∀ (n k:Nat),n<k->C n k=0
 | 0,k+1,_=>rfl
 | n+1,k+1,h=>by simp only[C];rw[Xc4 n k (by omega),Xc4 n (k+1) (by omega)]
theorem Xdc:∀ (n k:Nat),C n (k+1)*(k+1)=C n k*(n-k)
 | 0,k=>by simp[C]
 | n+1,0=>by
  have:=Xdc n 0;simp only[Xar,Nat.sub_zero,Nat.one_mul,Nat.mul_one,Vcg] at this ⊢;simp only[C,Xar];rw[this];omega
 | n+1,k+1=>by
  have h1:=Xdc n (k+1);have h2:=Xdc n k;have e:n+1-(k+1)=n-k:=by omega
  rw[e];simp only[C]
  by_cases hk:k+1<=n
  ·obtain⟨d,rfl⟩:∃ d,n=k+1+d:=⟨n-(k+1),by omega⟩
   have e1:k+1+d-(k+1)=d:=by omega
   have e2:k+1+d-k=d+1:=by omega
   rw[e1] at h1;rw[e2] at h2 ⊢;rw[Nat.add_mul,Nat.add_mul,h1,<- h2,<- Nat.mul_add,<- Nat.mul_add];congr 1;omega
  ·rw[Xc4 n (k+1) (by omega),Xc4 n (k+1+1) (by omega),Vem,Vem,Nat.zero_mul]
   have:n-k=0:=by omega
   rw[this,Nat.mul_zero]
theorem X6u(n k:Nat):(C n k:Int)*((n:Int)-k)=(C n (k+1):Int)*((k:Int)+1):=by
 by_cases h:k<=n
 ·have:=Xdc n k
  have e:((n-k:Nat):Int)=(n:Int)-k:=by omega
  rw[<- e];have e2:((k:Int)+1)=((k+1:Nat):Int):=by omega
  rw[e2,<- Vco,<- Vco,this]
 ·rw[Xc4 n k (by omega),Xc4 n (k+1) (by omega)];simp
theorem Xxq(n k:Nat):((C n k:Int)*((n:Int)-k))/((k:Int)+1)=C n (k+1):=by
 rw[X6u,Int.mul_ediv_cancel _ (by omega)]
noncomputable def fac:Nat->Nat
 | 0=>1
 | n+1=>fac n*(n+1)
theorem Xoc:∀ n,0<fac n
 | 0=>by decide
 | n+1=>Nat.mul_pos (Xoc n) (by omega)
theorem Xvi(s:String):PyData.strOk (Ub s)=true:=by
 rw[Str.ofString_eq_toList];unfold PyData.strOk;rw[<- Array.all_toList,Uv];intro n hn;have hn':n∈s.toList.map Char.toNat:=by simpa using hn
 obtain⟨c,_,rfl⟩:=Vag.mp hn';refine decide_eq_true ?_;have:=c.valid;rcases this with h|⟨_,h⟩
 ·have:c.toNat<0xd800:=h
  omega
 ·exact h
theorem ne_str(s:String):Xj .ne (.str (Ub s)) (.str (Ub s)) S=.ok (.bl false) S:=by
 simp only[Xj,X0,eqD,Xch,Y5,X2,PyData.canLay0,Xvi,Vam];simp[Vb9]
theorem Xo(i j:Int)(S:Sto):Xs .add (.int i) (.int j) S=.ok (.int (i+j)) S:=rfl
theorem Xr(i j:Int)(S:Sto):Xs .sub (.int i) (.int j) S=.ok (.int (i-j)) S:=rfl
theorem Y7(h:Yc i j=true)(S:Sto):Xs .mul (.int i) (.int j) S=.ok (.int (i*j)) S:=by simp only[Xs,h,if_true]
theorem Xaq(h:Yd j=true)(S:Sto):Xs .fdiv (.int i) (.int j) S=.ok (.int (i/j)) S:=by simp only[Xs,h,if_true]
theorem Xdd(h:0<j)(S:Sto):Xs .mod (.int i) (.int j) S=.ok (.int (i%j)) S:=by simp only[Xs,h,if_true]
theorem Xde(h:0<=j/\j<=1000/\i.natAbs<2^63)(S:Sto):Xs .pow (.int i) (.int j) S=.ok (.int (i^j.toNat)) S:=by simp only[Xs,h,and_self,if_true]
theorem Xa4(h1:-1000000000000000<j)(h2:j<1000000000000000):Yc i j=true:=by
 unfold Yc;simp only[Va0,bA0,decide_eq_true_eq];left;right;constructor<;>omega
theorem Xe5(h1:-1000000000000000<i)(h2:i<1000000000000000):Yc i j=true:=by
 unfold Yc;simp only[Va0,bA0,decide_eq_true_eq];left;left;constructor<;>omega
theorem Xz2(h1:i.natAbs.log2<100000)(h2:j.natAbs.log2<100000):Yc i j=true:=by
 unfold Yc;simp only[Va0,bA0,decide_eq_true_eq];right;exact⟨h1,h2⟩
end Z
end
section
namespace Z
open PySem PySem.W
section
variable(tb:String->Option Builtin)(p:Program)(w:World)(m:Nat)(ann:Option Value)
noncomputable def topT:Nat->SharedT->Thread->Option SharedT
 | 0,_,_=>none
 | n+1,s,t=>match through t with
  | true=>some s
  | false=>match stepOk m ann t with
   | false=>none
   | true=>match stepT (denote tb) p w s t with
    | some (s',t')=>topT n s' t'
    | none=>none
end
theorem Xod{tb:String->Option Builtin}{p:Program}{w:World}{m:Nat}{ann:Option Value}:∀ {n:Nat} {s s':SharedT} {t:Thread},topT tb p w m ann n s t=some s'->topRun tb p w m ann n s.abs t=some s'.abs
 | 0,_,_,_,h=>by cases h
 | n+1,s,s',t,h=>by
  unfold topT at h;unfold topRun;cases ht:through t with
  | true=>rw[ht] at h;cases h;rfl
  | false =>
   rw[ht] at h;cases hk:stepOk m ann t with
   | false=>rw[hk] at h;cases h
   | true =>
    rw[hk] at h;cases hs:stepT (denote tb) p w s t with
    | none=>rw[hs] at h;cases h
    | some r=>obtain⟨a,b⟩:=r;rw[hs] at h;rw[stepT_spec hs];exact Xod h
noncomputable def Xkh(P:Params):BT :=
 .node (boot_o_0 P) (.node (boot_o_1 P) (.node (boot_o_3 P) (.node (boot_o_7 P) .nil .nil) .nil) (.node (boot_o_5 P) (.node (boot_o_9 P) .nil .nil) .nil))
  (.node (boot_o_2 P) (.node (boot_o_4 P) (.node (boot_o_8 P) .nil .nil) .nil) (.node (boot_o_6 P) (.node (boot_o_10 P) .nil .nil) .nil))
noncomputable def Xki:Life:={ debug:=0,thresholds:=[2000,10,10] }
theorem Xvj(P:Params):absHeap (Xkh P) 11 Xki=boot_heap P:=by kernel_rfl
theorem Xr6(P:Params):((boot_heap P).isNs Vz&&(Array.mk ([]:List GenState)).size==0,(boot_heap P).objs.size,(boot_heap P).nsMap Vz "__annotations__")=(true,11,some (.ref 6)):=by kernel_rfl
noncomputable def Xr7{α:Type}(p q:Program)(loose:List Str)(Xt:Shared->Bool)(Yf:Shared->α)(P:Params)(s:Shared):=((staticsOk (Vcr p.main.body) (boot_heap P) s.heap&&namesBound p s.heap&&gensDone s&&laidKept (boot_heap P) s.heap),openSeen q loose (Vcr p.main.body) Xt true s,Yf s)
theorem Xr8{p q:Program}{loose:List Str}{Xt:Shared->Bool}{α:Type}{Yf:Shared->α}{Ya:World->α}{N:Nat}
  (e:opening p=plainProg p.main.scope.names) (hN:Nat.ble 600 N=true) (f:∀ s,fenceModules? p s=some s)
  (all:∀ w os,(topT treeTable p w 11 (some (.ref 6)) N ⟨Xkh w.params,11,Xki,Array.mk [],boot_drawn,boot_toks,os⟩ (topStub p)).map (fun s=>Xr7 p q loose Xt Yf w.params s.abs)=some (true,openGood q loose,Ya w)) :
  LeftO p q loose Xt Yf Ya N:=fun w=>by
 obtain⟨⟨h,gs,d,k,os⟩,e1,e2⟩:=V8.mp (boot_open e hN f w);obtain⟨rfl,rfl,rfl,rfl⟩:h=boot_heap w.params/\gs=Array.mk []/\d=boot_drawn/\k=boot_toks:=by simpa using e2
 obtain⟨z1,z2,z3⟩:_/\_/\_:=by simpa only[Vdc] using Xr6 w.params
 obtain⟨s,r,l⟩:=V8.mp (all w os);have r':=Xod r;have e0:SharedT.abs ⟨Xkh w.params,11,Xki,Array.mk [],boot_drawn,boot_toks,os⟩=⟨boot_heap w.params,Array.mk [],boot_drawn,boot_toks,os⟩:=by
  unfold SharedT.abs;dsimp only;rw[Xvj]
 rw[e0] at r';unfold Xr7 at l;obtain⟨l1,l2,l3⟩:_/\_/\_:=by simpa only[Vdc] using l
 have t:topFrom treeTable p w N ⟨boot_heap w.params,Array.mk [],boot_drawn,boot_toks,os⟩=some s.abs:=by
  unfold topFrom;dsimp only;rw[z1,z2,z3,r'];dsimp only[Option.bind];rw[l1]
 unfold openEnds;rw[e1];show(topFrom treeTable p w N _).map _=_;rw[t];exact congrArg some (Prod.ext l2 l3)
abbrev RunT{β:Type}(p:Program)(g:World->SharedT->β)(r:World->β):Prop:=∀ w os,(topT treeTable p w 11 (some (.ref 6)) 40000 ⟨Xkh w.params,11,Xki,Array.mk [],boot_drawn,boot_toks,os⟩ (topStub p)).map (g w)=some (r w)
theorem left_tree3{p q:Program}{loose:List Str}{Xt:Shared->Bool}{α:Type}{Yf:Shared->α}{Ya:World->α}(e:opening p=plainProg p.main.scope.names)(f:∀ s,fenceModules? p s=some s)
  (a1:RunT p (fun w s=>staticsOk (Vcr p.main.body) (boot_heap w.params) s.abs.heap&&namesBound p s.abs.heap&&gensDone s.abs&&laidKept (boot_heap w.params) s.abs.heap) fun _=>true)
  (a2:RunT p (fun _ s=>openSeen q loose (Vcr p.main.body) Xt true s.abs) fun _=>openGood q loose) (a3:RunT p (fun _ s=>Yf s.abs) Ya):LeftO p q loose Xt Yf Ya 40000:=Xr8 e rfl f fun w os=>by
 obtain⟨s,h,x1⟩:=V8.mp (a1 w os);have x2:=a2 w os;have x3:=a3 w os;rw[h] at x2 x3 ⊢;exact congrArg some (Prod.ext x1 (Prod.ext (V6 x2) (V6 x3)))
end Z
end
section
namespace Z
open PySem
section
variable{P S:Sto}
theorem Xoe{α β:Type}(f:α->β):∀ l:List α,alt (l.map f)=(alt l).map f
 | []=>rfl
 | [x]=>rfl
 | x::y::r=>by simp only[V2,alt,Xoe f r]
end
section
variable{F:Fn}{G:List D}{P:Sto}
end
mutual
noncomputable def flt:D->Bool
 | .tup xs=>flts xs
 | .fro xs=>flts xs
 | .ref _=>false
 | _=>true
noncomputable def flts:List D->Bool
 | []=>true
 | x::r=>flt x&&flts r
end
section
variable{F:Fn}{G:List D}{e1 e2:En}
end
section
variable{F:Fn}{G:List D}
end
theorem Xf2{m:Int}(h:m<1000000):m<1048576:=by omega
theorem Xe:Xc (S++[.lst xs]) S.length=some xs:=by
 unfold Xc;rw[Vac (Vh _),Ue];rfl
theorem Xm(h:Xc S q=some xs):Xc (S++X) q=some xs:=by
 unfold Xc at h ⊢;cases e:S[q]? with
 | none=>rw[e] at h;cases h
 | some o=>rw[Vq (Ve.mp e).1];exact h
theorem Yv(hp:Xc S p=some xs):p<S.length:=by
 unfold Xc at hp;cases e:S[p]? with
 | none=>rw[e] at hp;cases hp
 | some o=>exact(Ve.mp e).1
theorem Yx{S:Sto}{p:Nat}{x:List D}(h:p<S.length):Xc (S.set p (.lst x)) p=some x:=by
 unfold Xc;rw[Va4 h]
theorem Xr9(h:p≠q):Xc (S.set p o) q=Xc S q:=by
 unfold Xc;rw[Ux h]
theorem X8c(h:Xc S p=some [.int v]):Yb (.ref p) (.int 0) S=.ok (.int v) S:=by
 simp only[Yb,Xal,Xq,h,Vv,Z.ixN,V0];rfl
theorem X6v(h:Xc S p=some [.int v]):Xbx (.ref p) (.int 0) d S=.ok () (S.set p (.lst [d])):=by
 have h':Z.lstM S p=some [.int v]:=h;simp only[Xbx,h',Z.ixN,V0];rfl
section
variable{F:Fn}{G:List D}
noncomputable def Xps:Sts:=.cons (.ite (.cmp .lt (.var 1) (.blt .len (.cons (.var 0) .nil))) (.cons (.ret (.idx (.var 0) (.var 1))) .nil) .nil) (.cons (.ret (.cst (.int 0))) .nil)
noncomputable def Xpt:Df:=⟨2,2,Xps⟩
theorem Xvk(ns:List Int)(j:Nat)(S:Sto):∃ c,den F G Xpt [.fro (ns.map D.int),.int j] S=.ok (.int c) S:=by
 have hlen:Xk .len [.fro (ns.map D.int)] S=.ok (.int ns.length) S:=by simp only[Xk,Xq,Vr]
 by_cases h:j<ns.length
 ·refine⟨ns[j],?_⟩
  have hi:Yb (.fro (ns.map D.int)) (.int j) S=.ok (.int ns[j]) S:=by
   simp only[Yb,Xal,Xq,Vv,Z.ixN,Vr];rw[if_pos (by omega),if_pos (by omega)]
   simp[h]
  simp only[den,Xpt,Xps,V0,if_true,V2,Vd,Ue,Vp];rw[Xf (d:=.int ns[j]) (S1:=S) (by
   have hc:decide ((j:Int)<(ns.length:Int))=true:=decide_eq_true (by omega)
   simp only[exe,ev,evs,gZ0,gS0,Rk0,hlen,Xj,X0,ltD,hc,Xg];simp only[exes,exe,ev,gZ0,gS0,Rk0,hi])]
 ·refine⟨0,?_⟩
  simp only[den,Xpt,Xps,V0,if_true,V2,Vd,Ue,Vp];rw[Xb (e:=[some (.fro (ns.map D.int)),some (.int j)]) (S1:=S) (by
   have hc:decide ((j:Int)<(ns.length:Int))=false:=decide_eq_false (by omega)
   simp only[exe,ev,evs,gZ0,gS0,Rk0,hlen,Xj,X0,ltD,hc,Xg];simp only[exes])]
  simp only[exes,exe,ev,Rk0]
noncomputable def Xxr:Sts:=.cons (.asg (.var 2) (.bin .mod (.idx (.var 0) (.cst (.int 0))) (.var 1))) (.cons (.aset (.var 0) (.cst (.int 0)) (.bin .fdiv (.idx (.var 0) (.cst (.int 0))) (.var 1))) (.cons (.ret (.var 2)) .nil))
noncomputable def Xkj:Df:=⟨2,3,Xxr⟩
theorem Xvl{p:Nat}{v far:Int}{S:Sto}(h:Xc S p=some [.int v])(h0:0<far)(hd:Yd far=true):den F G Xkj [.ref p,.int far] S=.ok (.int (v%far)) (S.set p (.lst [.int (v/far)])):=by
 have i0:=X8c h;have a0:=X6v (d:=.int (v/far)) h;simp only[den,Xkj,Xxr,V0,if_true,V2,Vd];rw[Xb (e:=[some (.ref p),some (.int far),some (.int (v%far))]) (S1:=S) (by simp only[exe,ev,Ur,Uj,gZ0,gS0,Rk0,i0,Xdd h0,Xl,Vak])]
 rw[Xb (e:=[some (.ref p),some (.int far),some (.int (v%far))]) (S1:=S.set p (.lst [.int (v/far)])) (by simp only[exe,ev,gZ0,gS0,Rk0,i0,Xaq hd,a0])]
 rw[Xf (d:=.int (v%far)) (S1:=S.set p (.lst [.int (v/far)])) (by simp only[exe,ev,gZ0,gS0,Rk0])]
noncomputable def Xgo:Sts:=.cons (.asg (.var 3) (.bin .mod (.bin .mul (.bin .add (.bin .add (.bin .mod (.var 0) (.cst (.int 2147483629))) (.bin .mul (.cst (.int 7919)) (.var 2))) (.cst (.int 1))) (.cst (.int 48271))) (.cst (.int 2147483647))))
  (.cons (.asg (.var 3) (.bin .mod (.bin .add (.bin .add (.bin .mul (.var 3) (.var 3)) (.bin .mul (.cst (.int 69621)) (.var 2))) (.cst (.int 7))) (.cst (.int 2147483587))))
  (.cons (.asg (.var 1) (.bin .add (.bin .mul (.var 1) (.cst (.int 2147483587))) (.var 3)))
  .nil))
noncomputable def Xvm:Sts:=.cons (.ite (.cmp .ge (.var 0) (.bin .pow (.cst (.int 10)) (.cst (.int 18)))) (.cons (.ret (.lst (.cons (.bin .sub (.var 0) (.bin .pow (.cst (.int 10)) (.cst (.int 18)))) .nil))) .nil) .nil)
 (.cons (.asg (.var 1) (.cst (.int 0))) (.cons (.for (.var 2) (.rng (.cons (.cst (.int 64)) .nil)) Xgo) (.cons (.ret (.lst (.cons (.var 1) .nil))) .nil)))
noncomputable def Xl3:Df:=⟨1,4,Xvm⟩
theorem Xvn(c a j:Int)(x:Option D)(S:Sto):∃ a' b',exes F G Xgo [some (.int c),some (.int a),some (.int j),x] S=.ok (.nx [some (.int c),some (.int a'),some (.int j),some (.int b')]) S:=by
 have m1:Yc 7919 j=true:=Xe5 (by decide) (by decide)
 have m2:∀ y,Yc y 48271=true:=fun y=>Xa4 (by decide) (by decide)
 have m3:Yc 69621 j=true:=Xe5 (by decide) (by decide)
 have m4:∀ y,Yc y 2147483587=true:=fun y=>Xa4 (by decide) (by decide)
 have p1:(0:Int)<2147483629:=by decide
 have p2:(0:Int)<2147483647:=by decide
 have p3:(0:Int)<2147483587:=by decide
 generalize hb:((c%2147483629+7919*j+1)*48271)%2147483647=b;have b1:0<=b:=by rw[<- hb];exact Va1 _ (by decide)
 have b2:b<2147483647:=by rw[<- hb];exact Vbi _ (by decide)
 have m5:Yc b b=true:=Xa4 (by omega) (by omega)
 refine⟨a*2147483587+(b*b+69621*j+7)%2147483587,(b*b+69621*j+7)%2147483587,?_⟩;unfold Xgo;rw[Xb (e:=[some (.int c),some (.int a),some (.int j),some (.int b)]) (S1:=S) (by
  simp only[exe,ev,gZ0,gS0,Rk0,Xdd p1,Y7 m1,Xo,Y7 (m2 _),Xdd p2,Xl,Vak,hb])]
 rw[Xb (e:=[some (.int c),some (.int a),some (.int j),some (.int ((b*b+69621*j+7)%2147483587))]) (S1:=S) (by
  simp only[exe,ev,gZ0,gS0,Rk0,Y7 m5,Y7 m3,Xo,Xdd p3,Xl,Vak])]
 rw[Xb (e:=[some (.int c),some (.int (a*2147483587+(b*b+69621*j+7)%2147483587)),some (.int j),some (.int ((b*b+69621*j+7)%2147483587))]) (S1:=S) (by
  simp only[exe,ev,gZ0,gS0,Rk0,Y7 (m4 _),Xo,Xl,Vak])]
 simp only[exes]
theorem Xz3(c a:Int)(S:Sto)(e':En)(hc:¬ (10:Int)^(18:Int).toNat<=c)(h1:exe F G (.for (.var 2) (.rng (.cons (.cst (.int 64)) .nil)) Xgo) [some (.int c),some (.int 0),none,none] S=.ok (.nx e') S)(h2:e'[1]?=some (some (.int a))) :
  den F G Xl3 [.int c] S=.ok (.ref S.length) (S++[.lst [.int a]]):=by
 have hp:Xs .pow (.int 10) (.int 18) S=.ok (.int (10^(18:Int).toNat)) S:=Xde (by decide+kernel) S
 generalize (10:Int)^(18:Int).toNat=w at hp hc;simp only[den,Xl3,Xvm,V0,if_true,V2,Vd];rw[Xb (e:=[some (.int c),none,none,none]) (S1:=S) (by
  simp only[exe,ev,Ur,Uj,gZ0,gS0,Rk0,hp,Xj,X0,Xg,decide_eq_false hc];simp only[exes])]
 rw[Xb (e:=[some (.int c),some (.int 0),none,none]) (S1:=S) (by simp only[exe,ev,Rk0,Xl,Vak])]
 have h1':=Xb (ss:=.cons (.ret (.lst (.cons (.var 1) .nil))) .nil) h1;rw[h1'];rw[Xf (d:=.ref S.length) (S1:=S++[.lst [.int a]]) (by
  simp only[exe,ev,evs,h2,Rk0,V0];rfl)]
theorem Xsa(c:Int)(S:Sto)(hc:(10:Int)^(18:Int).toNat<=c):∃ a,den F G Xl3 [.int c] S=.ok (.ref S.length) (S++[.lst [.int a]]):=by
 have hp:Xs .pow (.int 10) (.int 18) S=.ok (.int (10^(18:Int).toNat)) S:=Xde (by decide+kernel) S
 generalize (10:Int)^(18:Int).toNat=w at hp hc;refine⟨c-w,?_⟩;simp only[den,Xl3,Xvm,V0,if_true,V2,Vd];rw[Xf (d:=.ref S.length) (S1:=S++[.lst [.int (c-w)]]) (by
  simp only[exe,ev,Ur,Uj,gZ0,gS0,Rk0,hp,Xj,X0,Xg,decide_eq_true hc];rw[Xf (d:=.ref S.length) (S1:=S++[.lst [.int (c-w)]]) (by
   simp only[exe,ev,evs,gZ0,Rk0,hp,Xr,V0];rfl)])]
theorem Xz4(c:Int)(S:Sto):∃ a,den F G Xl3 [.int c] S=.ok (.ref S.length) (S++[.lst [.int a]]):=by
 by_cases hc:(10:Int)^(18:Int).toNat<=c
 ·exact Xsa c S hc
 obtain⟨xs,hx,hl⟩:=Ye (m:=(64:Int)) (by decide) (Xf2 (by decide))
 have loop:=Xbg (F:=F) (G:=G) (t:=.var 2) (es:=.cons (.cst (.int 64)) .nil) (b:=Xgo)
  (env:=[some (.int c),some (.int 0),none,none]) (S:=S) (S1:=S) (ds:=[.int 64]) (xs:=xs) (fun i e S'=>S'=S/\∃ a x y,e=[some (.int c),some (.int a),x,y])
  (by simp only[evs,ev,Rk0]) hx ⟨rfl,0,none,none,rfl⟩ (fun i d e S' hd hP=>by
   obtain⟨rfl,a,x,y,rfl⟩:=hP;obtain⟨rfl,hi⟩:=Y0 hx hd;obtain⟨a',b',st⟩:=Xvn (F:=F) (G:=G) c a i y S';exact⟨_,_,S',rfl,st,rfl,a',_,_,rfl⟩)
 obtain⟨e',S',h1,rfl,a,x,y,rfl⟩:=loop;exact⟨a,Xz3 c a S' _ hc h1 rfl⟩
noncomputable def wh:D->Bool
 | .int _=>true
 | _=>false
def good(S:Sto)(d:D):Prop:=∃ k,kdD S d=some k/\∀ c,k≠.exc c
theorem Xz5(h:∀ c,k≠.exc c):∃ b,Yq k [.int]=some b/\(b=true ↔ k=.int\/k=.bool):=by
 cases k<;>first|exact⟨_,rfl,by simp⟩|exact absurd rfl (h _)
theorem Xvo(h:∀ c,k≠.exc c):∃ b,Yq k [.bool]=some b/\(b=true ↔ k=.bool):=by
 cases k<;>first|exact⟨_,rfl,by simp⟩|exact absurd rfl (h _)
theorem X6w(h:kdD S d=some k):wh d=true ↔ k=.int:=by
 cases d with
 | ref n =>
  simp only[kdD] at h;split at h<;>first|(cases h;simp[wh])|cases h
 | fn _ _=>cases h
 | _=>cases h;simp[wh]
noncomputable def Xsb:Sts:=.cons (.ret (.and (.isi (.var 0) [.int]) (.not (.isi (.var 0) [.bool])))) .nil
noncomputable def Xej:Df:=⟨1,1,Xsb⟩
theorem Xsc(h:good S d):den F G Xej [d] S=.ok (.bl (wh d)) S:=by
 obtain⟨kd,h1,h2⟩:=h;obtain⟨b1,i1,j1⟩:=Xz5 h2;obtain⟨b2,i2,j2⟩:=Xvo h2;have hw:=X6w h1;simp only[den,Xej,Xsb,V0,exes,exe,ev,V2,Vd,if_true,Ue,Vp,gZ0,Rk0,h1,Vv,i1,i2,Xg];cases b1 with
 | false =>
  have e:wh d=false:=by
   cases q:wh d with
   | false=>rfl
   | true=>exact absurd (j1.mpr (.inl (hw.mp q))) V9
  rw[e];rfl
 | true =>
  cases b2 with
  | false =>
   have e:wh d=true:=hw.mpr (by rcases j1.mp rfl with z|z;exact z;exact absurd (j2.mpr z) V9)
   rw[e];rfl
  | true =>
   have e:wh d=false:=by
    cases q:wh d with
    | false=>rfl
    | true=>have z1:=hw.mp q;have z2:=j2.mp rfl;rw[z1] at z2;cases z2
   rw[e];rfl
noncomputable def wi(d:D)(lo hi:Int):Bool:=match d with
 | .int i=>decide (lo<=i)&&decide (i<=hi)
 | _=>false
noncomputable def Xof(f:Nat):Sts:=.cons (.ret (.and (.call f (.cons (.var 0) .nil)) (.chn .le .le (.var 1) (.var 0) (.var 2)))) .nil
noncomputable def Xh4(f:Nat):Df:=⟨3,3,Xof f⟩
theorem Xpu(h:F f [d] S=.ok (.bl (wh d)) S):den F G (Xh4 f) [d,.int lo,.int hi] S=.ok (.bl (wi d lo hi)) S:=by
 simp only[den,Xh4,Xof,V0,exes,exe,ev,evs,V2,Vd,if_true,Ue,Vp,gZ0,gS0,Rk0,h,Xg];cases d with
 | int i =>
  simp only[wh,wi,X0,Xj];cases decide (lo<=i)<;>rfl
 | _=>rfl
theorem X37(h1:lo<=i)(h2:i<=hi):wi (.int i) lo hi=true:=by
 simp only[wi,decide_eq_true h1,decide_eq_true h2,Vck]
theorem Xf3(S:Sto)(i:Int):good S (.int i):=⟨.int,rfl,fun c z=>nomatch z⟩
theorem Xl4(h:good S d):good (S++X) d:=by
 obtain⟨k,h1,h2⟩:=h;cases d with
 | ref n =>
  refine⟨k,?_,h2⟩;simp only[kdD] at h1 ⊢;cases e:S[n]? with
  | none=>rw[e] at h1;cases h1
  | some o=>rw[Vq (Ve.mp e).1,e];rw[e] at h1;exact h1
 | _=>exact⟨k,h1,h2⟩
theorem Xjt(S:Sto)(d:D)(h:∀ n,d≠.ref n)(hf:∀ f m,d≠.fn f m:=by intro _ _ z;cases z):good S d:=by
 cases d with
 | fn f m=>exact absurd rfl (hf f m)
 | ref n=>exact absurd rfl (h n)
 | non=>exact⟨.non,rfl,fun _ z=>nomatch z⟩
 | bl _=>exact⟨.bool,rfl,fun _ z=>nomatch z⟩
 | int _=>exact⟨.int,rfl,fun _ z=>nomatch z⟩
 | str _=>exact⟨.str,rfl,fun _ z=>nomatch z⟩
 | tup _=>exact⟨.tuple,rfl,fun _ z=>nomatch z⟩
 | fro _=>exact⟨.list,rfl,fun _ z=>nomatch z⟩
theorem X8(h:ev F G c env S=.ok (.bl false) S'):exe F G (.ite c a .nil) env S=.ok (.nx env) S':=by
 rw[exe,h,Rk0];simp only[Xg,exes]
end
noncomputable def Xek(c1 c2 c3 c4:Nat):Ex:=.lst (.cons (.isi (.var 0) [.cls c1]) (.cons (.isi (.var 0) [.cls c2]) (.cons (.isi (.var 0) [.cls c3]) (.cons (.isi (.var 0) [.cls c4]) .nil))))
noncomputable def words1:List D:=[.str "net",.str "face",.str "point",.str "apart",.str "many",.str "text",.str "row",.str "number",.str "level",.str "crowd",.str "way",.str "closed"]
noncomputable def words2:List D:=[.str "swap",.str "places",.str "deed",.str "line"]
noncomputable def Xdf:List D->Exs
 | []=>.nil
 | d::r=>.cons (.cst d) (Xdf r)
noncomputable def Xpv:Sts:=.cons (.asg (.var 1) (Xek 1 2 3 4)) (.cons (.asg (.var 1) (.bin .add (.var 1) (Xek 5 6 7 8))) (.cons (.asg (.var 1) (.bin .add (.var 1) (Xek 9 10 11 12))) (.cons (.asg (.var 1) (.bin .add (.var 1) (Xek 13 14 15 16)))
  (.cons (.ite (.or (.cmp .ne (.mth .count (.var 1) (.cons (.cst (.bl true)) .nil)) (.cst (.int 1))) (.not (.isi (.var 0) [.valueError]))) (.cons (.ret (.cst (.str "other"))) .nil) .nil)
  (.cons (.asg (.var 2) (.lst (Xdf words1))) (.cons (.ret (.idx (.bin .add (.var 2) (.lst (Xdf words2))) (.mth .index (.var 1) (.cons (.cst (.bl true)) .nil)))) .nil))))))
noncomputable def Xkk:Df:=⟨1,3,Xpv⟩
noncomputable def Xdg(c:Nat):D:=(words1++words2).getD (c-1) .non
section
variable{F:Fn}{G:List D}{n c:Nat}{env:En}{S:Sto}
noncomputable def isK(c x:Nat):D:=.bl (x==0||x==c)
theorem Xog(h0:env[0]?=some (some (.ref n)))(hn:S[n]?=some (.exc c))(x1 x2 x3 x4:Nat):ev F G (Xek x1 x2 x3 x4) env S=.ok (.ref S.length) (S++[.lst [isK c x1,isK c x2,isK c x3,isK c x4]]):=by
 have q:∀ x,ev F G (.isi (.var 0) [.cls x]) env S=.ok (isK c x) S:=fun x=>by
  simp only[ev,h0,Rk0,kdD,hn,Vv,Yq,isT,isK];cases (x==0||x==c)<;>rfl
 unfold Xek;rw[ev];simp only[evs,q,Rk0];exact if_pos (show 4<=big by decide)
theorem Xf4{r:Nat}{xs:List D}(h0:env[0]?=some (some (.ref n)))(hn:S[n]?=some (.exc c))(he:1<env.length)(hr:env[1]?=some (some (.ref r)))(hx:Xc S r=some xs)(hl:xs.length<=12)(x1 x2 x3 x4:Nat) :
  ∃ q Y,exe F G (.asg (.var 1) (.bin .add (.var 1) (Xek x1 x2 x3 x4))) env S=.ok (.nx (env.set 1 (some (.ref q)))) (S++Y)/\Xc (S++Y) q=some (xs++[isK c x1,isK c x2,isK c x3,isK c x4])/\(S++Y)[n]?=some (.exc c):=by
 refine⟨(S++[O.lst [isK c x1,isK c x2,isK c x3,isK c x4]]).length,[.lst [isK c x1,isK c x2,isK c x3,isK c x4]]++[.lst (xs++[isK c x1,isK c x2,isK c x3,isK c x4])],?_,?_,?_⟩
 ·have h16:(16:Nat)<=big:=by decide
  have h4:xs.length+4<=big:=by omega
  have l1:lstM (S++[O.lst [isK c x1,isK c x2,isK c x3,isK c x4]]) r=some xs:=Xm hx;have l2:lstM (S++[O.lst [isK c x1,isK c x2,isK c x3,isK c x4]]) S.length=some [isK c x1,isK c x2,isK c x3,isK c x4]:=Xe;rw[exe,ev,ev,hr];simp only[Rk0,Xog h0 hn,Xs,l1,l2,Ug,Vel,h4,if_true,Xl,Vo]
 ·rw[<- Vo];exact Xe
 ·rw[Vq (Ve.mp hn).1];exact hn
theorem Xz6(hn:S[n]?=some (.exc c))(h1:1<=c)(h2:c<=16):∃ X,den F G Xkk [.ref n] S=.ok (Xdg c) (S++X):=by
 have s1:exe F G (.asg (.var 1) (Xek 1 2 3 4)) [some (.ref n),none,none] S=.ok (.nx [some (.ref n),some (.ref S.length),none]) (S++[.lst [isK c 1,isK c 2,isK c 3,isK c 4]]):=by
  rw[exe,Xog rfl hn];rfl
 obtain⟨q2,Y2,s2,l2,n2⟩:=Xf4 (F:=F) (G:=G) (env:=[some (.ref n),some (.ref S.length),none]) (S:=S++[.lst [isK c 1,isK c 2,isK c 3,isK c 4]]) (c:=c) (n:=n) rfl (by rw[Vq (Ve.mp hn).1];exact hn) (by simp) rfl Xe (by simp) 5 6 7 8
 generalize hS2:S++[O.lst [isK c 1,isK c 2,isK c 3,isK c 4]]++Y2=S2 at s2 l2 n2;obtain⟨q3,Y3,s3,l3,n3⟩:=Xf4 (F:=F) (G:=G) (env:=[some (.ref n),some (.ref q2),none]) rfl n2 (by simp) rfl l2 (by simp) 9 10 11 12
 generalize hS3:S2++Y3=S3 at s3 l3 n3;obtain⟨q4,Y4,s4,l4,n4⟩:=Xf4 (F:=F) (G:=G) (env:=[some (.ref n),some (.ref q3),none]) rfl n3 (by simp) rfl l3 (by simp) 13 14 15 16
 generalize hS4:S3++Y4=S4 at s4 l4 n4;simp only[Ur,Uj] at l4;have ab:Yh [isK c 1,isK c 2,isK c 3,isK c 4,isK c 5,isK c 6,isK c 7,isK c 8,isK c 9,isK c 10,isK c 11,isK c 12,isK c 13,isK c 14,isK c 15,isK c 16]=some ([1,2,3,4,5,6,7,8,9,10,11,12,13,14,15,16].map fun x=>(x==0||x==c)):=rfl
 have key:∀ c:Fin 17,1<=c.val->([1,2,3,4,5,6,7,8,9,10,11,12,13,14,15,16].map fun x=>(x==0||x==c.val)).countP (· == true)=1/\([1,2,3,4,5,6,7,8,9,10,11,12,13,14,15,16].map fun x=>(x==0||x==c.val)).findIdx? (· == true)=some (c.val-1):=by decide+kernel
 obtain⟨k1,k2⟩:=key ⟨c,by omega⟩ h1
 generalize [isK c 1,isK c 2,isK c 3,isK c 4,isK c 5,isK c 6,isK c 7,isK c 8,isK c 9,isK c 10,isK c 11,isK c 12,isK c 13,isK c 14,isK c 15,isK c 16]=L at l4 ab;generalize ([1,2,3,4,5,6,7,8,9,10,11,12,13,14,15,16].map fun x=>(x==0||x==c))=B at ab k1 k2
 have c1:∀ Y,Xag .count (.ref q4) [.bl true] (S4++Y)=.ok (.int 1) (S4++Y):=fun Y=>by
  simp only[Xag,Xm l4,Vv,ab,k1];rfl
 have c2:∀ Y,Xag .index (.ref q4) [.bl true] (S4++Y)=.ok (.int (c-1:Nat)) (S4++Y):=fun Y=>by
  simp only[Xag,Xm l4,Vv,ab,k2]
 have rc:∀ k Y,Xac k (.ref q4) (S4++Y)=true:=fun k Y=>by simp only[Xac,Xm l4,Option.isSome]
 have s5:exe F G (.ite (.or (.cmp .ne (.mth .count (.var 1) (.cons (.cst (.bl true)) .nil)) (.cst (.int 1))) (.not (.isi (.var 0) [.valueError]))) (.cons (.ret (.cst (.str "other"))) .nil) .nil) [some (.ref n),some (.ref q4),none] S4=.ok (.nx [some (.ref n),some (.ref q4),none]) S4:=by
  have c1':=c1 [];have rc':=rc .count [];rw[Vp] at c1' rc';have e1:Xj .ne (.int 1) (.int 1) S4=.ok (.bl false) S4:=rfl;refine X8 ?_;simp only[ev,evs,gZ0,gS0,Rk0,rc',if_true,c1',e1,Xg,kdD,n4,Vv,Yq,isT,Bool.not_true]
 have s6:exe F G (.asg (.var 2) (.lst (Xdf words1))) [some (.ref n),some (.ref q4),none] S4=.ok (.nx [some (.ref n),some (.ref q4),some (.ref S4.length)]) (S4++[.lst words1]):=by kernel_rfl
 have e7:∀ env S,evs F G (Xdf words2) env S=.ok words2 S:=fun env S=>by kernel_rfl
 have a5:words2.length<=big:=by decide
 have s7:exe F G (.ret (.idx (.bin .add (.var 2) (.lst (Xdf words2))) (.mth .index (.var 1) (.cons (.cst (.bl true)) .nil)))) [some (.ref n),some (.ref q4),some (.ref S4.length)] (S4++[O.lst words1])=.ok (.rt (Xdg c)) (S4++([O.lst words1]++[O.lst words2]++[O.lst (words1++words2)])):=by
  have a1:lstM (S4++[O.lst words1]++[O.lst words2]) S4.length=some words1:=Xm Xe;have a2:lstM (S4++[O.lst words1]++[O.lst words2]) (S4++[O.lst words1]).length=some words2:=Xe;have a3:words1.length+words2.length<=big:=by decide
  have a4:=Xm (X:=[]) (Xe (S:=S4++[O.lst words1]++[O.lst words2]) (xs:=words1++words2));have c2':=c2 ([O.lst words1]++[O.lst words2]++[O.lst (words1++words2)]);have rc':=rc .index ([O.lst words1]++[O.lst words2]++[O.lst (words1++words2)]);simp only[<- Vo] at c2' rc' ⊢;have ix:Yb (.ref (S4++[O.lst words1]++[O.lst words2]).length) (.int (c-1:Nat)) (S4++[O.lst words1]++[O.lst words2]++[O.lst (words1++words2)])=.ok (Xdg c) (S4++[O.lst words1]++[O.lst words2]++[O.lst (words1++words2)]):=by
   rw[Vp] at a4;have hl:(words1++words2).length=16:=rfl;have hi:ixN 16 ((c-1:Nat):Int)=some (c-1):=by unfold ixN;rw[if_pos (by omega),if_pos (by omega),Vay]
   have hg:(words1++words2)[c-1]?=some (Xdg c):=by
    have:c-1<(words1++words2).length:=by rw[hl];omega
    unfold Xdg;rw[Uy this,Van,Uy this];rfl
   simp only[Yb,Xal,Xq,a4,Vv,hl,hi,hg]
  rw[exe];simp only[ev,evs,gZ0,gS0,Rk0,e7,a5,Xs,a1,a2,a3,if_true,rc',c2',ix]
 refine⟨[O.lst [isK c 1,isK c 2,isK c 3,isK c 4]]++(Y2++(Y3++(Y4++([O.lst words1]++([O.lst words2]++[O.lst (words1++words2)]))))),?_⟩;have e:den F G Xkk [.ref n] S=match exes F G Xpv [some (.ref n),none,none] S with
  | .ok (.rt v) S=>.ok v S
  | .ok (.nx _) S=>.ok .non S
  | .ok _ _=>.bad
  | .ex n S=>.ex n S
  | .bad=>.bad:=rfl
 rw[e];unfold Xpv;rw[Xb s1,Xb s2];dsimp only[Vak];rw[Xb s3];dsimp only[Vak];rw[Xb s4];dsimp only[Vak];rw[Xb s5,Xb s6,Xf s7,<- hS4,<- hS3,<- hS2];simp only[Vo]
theorem Xz7{T:List Df}{k f:Nat}(hf:T[f]?=some Xkk)(h1:1<=c)(h2:c<=16)(P:Sto):∃ X,FT T G (k+1) f [.ref P.length] (P++[.exc c])=.ok (Xdg c) (P++X):=by
 obtain⟨X,h⟩:=Xz6 (F:=FT T G k) (G:=G) (n:=P.length) (S:=P++[.exc c]) (by simp) h1 h2
 simp only[FT,hf];exact⟨_,by rw[h,Vo]⟩
end
def Xcb(F:Fn)(f:Nat):Prop:=∀ (p:Nat) (v far:Int) (S:Sto),Xc S p=some [.int v]->0<far->Yd far=true->F f [.ref p,.int far] S=.ok (.int (v%far)) (S.set p (.lst [.int (v/far)]))
theorem Xvp(hf:T[f]?=some Xkj)(k:Nat):Xcb (FT T G (k+1)) f:=fun p v far S h h0 hd=>by
 simp only[FT,hf];exact Xvl h h0 hd
theorem Xvq(hF:Xcb F f)(he:evs F G es env S=.ok ds S')(hc:(ds.length:Int)=c)(h0:0<c)(hz:ds.length<=big)(hd:Yd c=true)(h5:env[q]?=some (some (.ref p)))(hp:Xc S' p=some [.int v]) :
  ∃ d∈ds,ev F G (.idx (.lst es) (.call f (.cons (.var q) (.cons (.cst (.int c)) .nil)))) env S=.ok d ((S'++[O.lst ds]).set p (.lst [.int (v/c)])):=by
 have tk:=hF p v c (S'++[.lst ds]) (Xm hp) h0 hd;have r0:=Va1 v (Int.ne_of_gt h0);have r1:=Vbi v h0;have hlt:(v%c).toNat<ds.length:=by omega
 have hpl:=Yv hp;have hl:Xc ((S'++[O.lst ds]).set p (.lst [.int (v/c)])) S'.length=some ds:=by
  rw[Xr9 (by omega)]
  exact Xe
 refine⟨ds[(v%c).toNat],Vcf hlt,?_⟩;have hi:Yb (.ref S'.length) (.int (v%c)) ((S'++[O.lst ds]).set p (.lst [.int (v/c)]))=.ok ds[(v%c).toNat] ((S'++[O.lst ds]).set p (.lst [.int (v/c)])):=by
  simp only[Yb,Xal,Xq,hl,Vv,Z.ixN];rw[if_pos r0,if_pos (by omega)]
  simp only[Vv,Uy hlt]
 simp only[ev,he,evs,h5,Rk0,hz,if_true,tk,hi]
theorem Xsd(hp:Xc S' p=some [.int v]):Xc ((S'++[O.lst ds]).set p (.lst [.int (v/c)])) p=some [.int (v/c)]:=by
 refine Yx ?_;have:=Yv hp;simp;omega
theorem turns{G:List D}{ns:List Int}(c:Int)(h1:1<=c)(h2:c<1000000)(h0:env[0]?=some (some (.fro (ns.map D.int)))) :
  ∃ m:Int,evs F G (.cons (.blt .max (.cons (.cst (.int 1)) (.cons (.blt .min (.cons (.blt .len (.cons (.var 0) .nil)) (.cons (.cst (.int c)) .nil))) .nil))) .nil) env S=.ok [.int m] S/\0<=m/\m<=c:=by
 have hlen:Xk .len [.fro (ns.map D.int)] S=.ok (.int ns.length) S:=by simp only[Xk,Xq,Vr]
 have hmin:∀ i j:Int,Xk .min [.int i,.int j] S=.ok (.int (if j<i then j else i)) S:=fun _ _=>rfl
 have hmax:∀ i j:Int,Xk .max [.int i,.int j] S=.ok (.int (if j>i then j else i)) S:=fun _ _=>rfl
 refine⟨if (if c<(ns.length:Int) then c else (ns.length:Int))>1 then (if c<(ns.length:Int) then c else (ns.length:Int)) else 1,by simp only[evs,ev,h0,Rk0,hlen,hmin,hmax],?_,?_⟩
 ·split
  ·split<;>omega
  ·omega
 ·split
  ·split<;>omega
  ·omega
end Z
end
section
namespace Z
noncomputable def tG(s:Int):List Int->Nat->Int
 | [],_=>0
 | x::r,0=>x
 | x::r,p+1=>x*(s^(p+1)*(C r.length (p+1):Int))+tG s r p
noncomputable def tT(s:Int)(row:List Int):List Int:=(Vc row.length).map (tG s row)
noncomputable def Xxs(s:Int)(f:List Int):List Int:=List.zipWith (fun a b=>a+s*b) (f++[0]) (0::f)
noncomputable def stepT(s:Int)(f:List Int)(n:Int):List Int:=(Xxs s f).set f.length ((Xxs s f).getD f.length 0+n)
theorem Xdh(s:Int)(r:List Int):(tT s r).length=r.length:=by simp[tT]
end Z
end
section
namespace Z
open PySem
section
variable{F:Fn}{G:List D}
theorem Xju{get:Sto->Nat->Option (Option D)}{body:En->List D->Sto->R (List D)}(xs:List D)(y:Nat->D)(P:Nat->En->Sto->Prop)(hget:∀ i e S,P i e S->get S i=some xs[i]?)
  (step:∀ i d e S,xs[i]?=some d->P i e S->∃ e1 S2,Xl t d e=some e1/\body e1 ((Vc i).map y) S=.ok ((Vc (i+1)).map y) S2/\P (i+1) e1 S2) :
  ∀ (fuel i:Nat) (e:En) (S:Sto),P i e S->i<=xs.length->xs.length<fuel+i->∃ e' S',Yo get t body fuel i e ((Vc i).map y) S=.ok ((Vc xs.length).map y) S'/\P xs.length e' S'
 | 0,i,e,S,h,h1,h2=>by omega
 | fuel+1,i,e,S,h,h1,h2=>by
  cases q:xs[i]? with
  | none =>
   have hi:i=xs.length:=by
    have:=V7.mp q;omega
   refine⟨e,S,?_,hi▸h⟩;simp only[Yo,hget i e S h,q];rw[hi]
  | some d =>
   obtain⟨e1,S2,a1,a2,a3⟩:=step i d e S q h;have hi:i<xs.length:=(Ve.mp q).1;obtain⟨e',S',b1,b2⟩:=Xju xs y P hget step fuel (i+1) e1 S2 a3 (by omega) (by omega)
   refine⟨e',S',?_,b2⟩;simp only[Yo,hget i e S h,q,a1,a2];exact b1
theorem X9(h:n<=1000):n<=big:=Vy h (by decide)
theorem Xa0{n:Nat}(xs:List D)(y:Nat->D)(P:Nat->En->Sto->Prop)(hit:evit F G it env S=.ok src S1)(hm:src.most S1=xs.length)(hb:xs.length<=big)
  (h0:P 0 (env++Vd n none) S1) (hget:∀ i e S,P i e S->src.get S i=some xs[i]?)
  (step:∀ i d e S,xs[i]?=some d->P i e S->∃ e1 S2,Xl t d e=some e1/\ev F G elt e1 S=.ok (y i) S2/\P (i+1) e1 S2) :
  ∃ e' S',ev F G (.cmr false n (.cons t it .nil .nil) elt) env S=.ok (.ref S'.length) (S'++[.lst ((Vc xs.length).map y)])/\P xs.length e' S':=by
 obtain⟨e',S',a,b⟩:=Xju (get:=src.get) (t:=t) (body:=Xab (fun env S=>evts F G .nil env S) (fun env acc S=>(ev F G elt env S).bind fun y S=>if acc.length<big then .ok (acc++[y]) S else .bad)) xs y P hget
  (fun i d e S hd hP=>by
   obtain⟨e1,S2,a1,a2,a3⟩:=step i d e S hd hP;refine⟨e1,S2,a1,?_,a3⟩;have hi:i<xs.length:=(Ve.mp hd).1;simp only[Xab,evts,Rk0,if_true,a2,Vr,U3];rw[if_pos (by omega),Vdk,Va2]
   rfl) (xs.length+1) 0 _ S1 h0 (Uo _) (by omega)
 refine⟨e',S',?_,b⟩;simp only[ev,hit,Rk0,hm];have a':Yo src.get t (Xab (fun env S=>evts F G .nil env S) (fun env acc S=>(ev F G elt env S).bind fun y S=>if acc.length<big then .ok (acc++[y]) S else .bad)) (xs.length+1) 0 (env++Vd n none) [] S1=.ok ((Vc xs.length).map y) S':=a
 rw[a'];simp only[Rk0];rfl
theorem Xbn(h1:evs F G es env S=.ok ds S1)(h2:Yy ds=some xs):evit F G (.rng es) env S=.ok (.con xs) S1:=by simp only[evit,h1,Rk0,h2]
theorem X38(h1:ev F G e env S=.ok (.tup xs) S1):evit F G (.val e) env S=.ok (.con xs) S1:=by simp only[evit,h1,Rk0,Xy]
noncomputable def Xb4:Sts:=.cons (.asg (.var 2) (.bin .fdiv (.bin .mul (.var 2) (.bin .sub (.var 0) (.var 3))) (.bin .add (.var 3) (.cst (.int 1))))) .nil
noncomputable def Xe6:Df:=⟨2,4,.cons (.asg (.var 2) (.cst (.int 1))) (.cons (.for (.var 3) (.rng (.cons (.var 1) .nil)) Xb4) (.cons (.ret (.var 2)) .nil))⟩
theorem Xxt{i:Nat}(h:i<13):Yd ((i:Int)+1)=true:=by
 have:∀ j:Fin 13,Yd ((j.val:Int)+1)=true:=by decide+kernel
 exact this ⟨i,h⟩
theorem Xl5(n m t i:Int)(S:Sto)(hmul:Yc t (n-i)=true)(hdiv:Yd (i+1)=true):exes F G Xb4 [some (.int n),some (.int m),some (.int t),some (.int i)] S=.ok (.nx [some (.int n),some (.int m),some (.int (t*(n-i)/(i+1))),some (.int i)]) S:=by
 unfold Xb4;refine Xb (e:=[some (.int n),some (.int m),some (.int (t*(n-i)/(i+1))),some (.int i)]) (S1:=S) ?_;simp only[exe,ev,gZ0,gS0,Rk0,Xr,Y7 hmul,Xo,Xaq hdiv,Xl,Vak]
theorem Xse(n m i:Nat)(S:Sto)(hn:n<=1000000000000)(hi:i<12):exes F G Xb4 [some (.int n),some (.int m),some (.int (C n i)),some (.int i)] S=.ok (.nx [some (.int n),some (.int m),some (.int (C n (i+1))),some (.int i)]) S:=by
 have:=Xl5 (F:=F) (G:=G) n m (C n i) i S (Xa4 (by omega) (by omega)) (Xxt (by omega))
 rw[Xxq] at this;exact this
theorem Xl6(n m t:Int)(S:Sto)(e':En)(S':Sto)(h1:exe F G (.for (.var 3) (.rng (.cons (.var 1) .nil)) Xb4) [some (.int n),some (.int m),some (.int 1),none] S=.ok (.nx e') S')(h2:e'[2]?=some (some (.int t))) :
  den F G Xe6 [.int n,.int m] S=.ok (.int t) S':=by
 simp only[den,Xe6,V0,if_true,V2,Vd];rw[Xb (e:=[some (.int n),some (.int m),some (.int 1),none]) (S1:=S) (by simp only[exe,ev,Rk0,Xl];rfl)]
 rw[Xb (ss:=.cons (.ret (.var 2)) .nil) h1];rw[Xf (d:=.int t) (S1:=S') (by simp only[exe,ev,h2,Rk0])]
theorem Xvr(n m:Nat)(S:Sto)(hn:n<=1000000000000)(hm:m<=12):den F G Xe6 [.int n,.int m] S=.ok (.int (C n m)) S:=by
 obtain⟨xs,hx,hl⟩:=Ye (m:=(m:Int)) (by omega) (Xf2 (by omega))
 have hl':xs.length=m:=by omega
 obtain⟨e',S',h1,rfl,x,rfl⟩:=Xbg (F:=F) (G:=G) (t:=.var 3) (es:=.cons (.var 1) .nil) (b:=Xb4)
  (env:=[some (.int n),some (.int m),some (.int 1),none]) (S:=S) (S1:=S) (ds:=[.int m]) (xs:=xs) (fun i e S'=>S'=S/\∃ x,e=[some (.int n),some (.int m),some (.int (C n i)),x])
  (by simp only[evs,ev,gZ0,gS0,Rk0]) hx ⟨rfl,none,by rw[Xar];rfl⟩ (fun i d e S' hd hP=>by
   obtain⟨rfl,x,rfl⟩:=hP;obtain⟨rfl,hi⟩:=Y0 hx hd;exact⟨_,_,S',rfl,Xse n m i S' hn (by omega),rfl,some (.int i),rfl⟩)
 rw[hl'] at h1;exact Xl6 _ _ _ _ _ _ h1 rfl
noncomputable def Xgp(iw:Nat):Df:=⟨2,3,.cons (.asg (.var 2) (.bin .sub (.blt .len (.cons (.var 0) .nil)) (.cst (.int 1))))
  (.cons (.ret (.cmr false 2 (.cons (.var 4) (.rng (.cons (.bin .add (.var 1) (.cst (.int 1))) .nil)) .nil .nil) (.bin .mul (.idx (.var 0) (.var 4)) (.call iw (.cons (.bin .sub (.var 2) (.var 4)) (.cons (.bin .sub (.var 1) (.var 4)) .nil)))))) .nil)⟩
noncomputable def Xx(row:List Int)(p a:Nat):Int:=row.getD a 0*(C (row.length-1-a) (p-a):Int)
noncomputable def Xcm(row:List Int)(p:Nat):List D:=(Vc (p+1)).map fun a=>.int (Xx row p a)
theorem Xkl:∀ n m:Nat,C n m<=2^n
 | n,0=>by rw[Xar];exact Nat.one_le_two_pow
 | 0,m+1=>by rw[Xc4 0 (m+1) (by omega)];exact Uo _
 | n+1,m+1=>by
  have h1:=Xkl n m;have h2:=Xkl n (m+1);rw[C,Veo];omega
theorem Xh5(h:n<=12):C n m<=4096:=Vy (Xkl n m) (Vc7 (by decide) h)
theorem Xsf(x c:Int)(h0:0<=c)(h:c<=4096):Yc x c=true:=Xa4 (by omega) (by omega)
theorem Xvs(h1:Yb row (.int i) S=.ok (.int r0) S)(h2:F iw [.int (w-i),.int (p-i)] S=.ok (.int c) S)(h3:Yc r0 c=true) :
  ev F G (.bin .mul (.idx (.var 0) (.var 4)) (.call iw (.cons (.bin .sub (.var 2) (.var 4)) (.cons (.bin .sub (.var 1) (.var 4)) .nil)))) [some row,some (.int p),some (.int w),none,some (.int i)] S=.ok (.int (r0*c)) S:=by
 simp only[ev,evs,gZ0,gS0,Rk0,h1,Xr,h2,Y7 h3]
theorem Xh6(row:List Int)(a:Nat)(S:Sto)(h:a<row.length):Yb (.tup (row.map D.int)) (.int a) S=.ok (.int (row.getD a 0)) S:=by
 simp only[Yb,Xal,Xq,Vv,Z.ixN,Vr];rw[if_pos (by omega),if_pos (by omega)]
 simp[h]
theorem Xoh(xs:List D)(S:Sto):Xk .len [.tup xs] S=.ok (.int xs.length) S:=rfl
noncomputable def Xh7(iw:Nat):Ex:=.bin .mul (.idx (.var 0) (.var 4)) (.call iw (.cons (.bin .sub (.var 2) (.var 4)) (.cons (.bin .sub (.var 1) (.var 4)) .nil)))
noncomputable def Xpw(row:D)(p w:Int)(x:Option D):En:=[some row,some (.int p),some (.int w),none,x]
theorem Xsg(hw:∀ (n m:Nat) (S:Sto),n<=12->m<=12->F iw [.int n,.int m] S=.ok (.int (C n m)) S)(row:List Int)(p i:Nat)(S:Sto)(h:p<row.length)(hl:row.length<=12)(hi:i<=p) :
  ev F G (Xh7 iw) (Xpw (.tup (row.map D.int)) p ((row.length:Int)-1) (some (.int i))) S=.ok (.int (Xx row p i)) S:=by
 have e1:((row.length:Int)-1)-i=((row.length-1-i:Nat):Int):=by omega
 have e2:(p:Int)-i=((p-i:Nat):Int):=by omega
 have hF:F iw [.int (((row.length:Int)-1)-i),.int ((p:Int)-i)] S=.ok (.int (C (row.length-1-i) (p-i))) S:=by
  rw[e1,e2];exact hw _ _ S (by omega) (by omega)
 have hc:C (row.length-1-i) (p-i)<=4096:=Xh5 (by omega)
 unfold Xx;generalize C (row.length-1-i) (p-i)=c at hF hc ⊢;exact Xvs (Xh6 row i S (by omega)) hF (Xsf _ _ (by omega) (by omega))
theorem Xpx(row:D)(y:Nat->D)(p w:Int)(S:Sto)(h0:0<=p)(h1:p<12)(ht:∀ i:Nat,(i:Int)<=p->ev F G (Xh7 iw) (Xpw row p w (some (.int i))) S=.ok (y i) S) :
  ev F G (.cmr false 2 (.cons (.var 4) (.rng (.cons (.bin .add (.var 1) (.cst (.int 1))) .nil)) .nil .nil) (Xh7 iw)) [some row,some (.int p),some (.int w)] S=.ok (.ref S.length) (S++[.lst ((Vc (p+1).toNat).map y)]):=by
 obtain⟨xs,hx,hxl⟩:=Ye (m:=p+1) (by omega) (Xf2 (by omega))
 obtain⟨e',S',h2,h3,h4⟩:=Xa0 (F:=F) (G:=G) (t:=.var 4) (n:=2) (elt:=Xh7 iw) (env:=[some row,some (.int p),some (.int w)]) (S:=S) (S1:=S) xs y
  (fun i e S'=>S'=S/\∃ x,e=Xpw row p w x)
  (Xbn (es:=.cons (.bin .add (.var 1) (.cst (.int 1))) .nil) (by simp only[evs,ev,gZ0,gS0,Rk0,Xo]) hx) rfl (X9 (by omega)) ⟨rfl,none,rfl⟩ (fun _ _ _ _=>rfl)
  (fun i d e S' hd hP=>by
   obtain⟨rfl,x,rfl⟩:=hP;obtain⟨rfl,hi⟩:=Y0 hx hd;exact⟨Xpw row p w (some (.int i)),S',rfl,ht i (by omega),rfl,some (.int i),rfl⟩)
 have h3':S'=S:=h3;subst h3';rw[h2,hxl]
theorem Xsh(hl:Xk .len [row] S=.ok (.int n) S)(h:ev F G (.cmr false 2 (.cons (.var 4) (.rng (.cons (.bin .add (.var 1) (.cst (.int 1))) .nil)) .nil .nil) (Xh7 iw)) [some row,some (.int p),some (.int (n-1))] S=.ok r S') :
  den F G (Xgp iw) [row,.int p] S=.ok r S':=by
 have h':=h;unfold Xh7 at h';simp only[den,Xgp,V0,if_true,V2,Vd];rw[Xb (e:=[some row,some (.int p),some (.int (n-1))]) (S1:=S) (by
  simp only[exe,ev,evs,Ur,Uj,gZ0,Rk0,hl,Xr,Xl,Vak])]
 rw[Xf (d:=r) (S1:=S') (by simp only[exe];rw[h',Rk0])]
theorem Xsi(hw:∀ (n m:Nat) (S:Sto),n<=12->m<=12->F iw [.int n,.int m] S=.ok (.int (C n m)) S)(row:List Int)(p:Nat)(S:Sto)(h:p<row.length)(hl:row.length<=12) :
  den F G (Xgp iw) [.tup (row.map D.int),.int p] S=.ok (.ref S.length) (S++[.lst (Xcm row p)]):=by
 have h1:=Xpx (F:=F) (G:=G) (iw:=iw) (.tup (row.map D.int)) (fun a=>.int (Xx row p a)) p ((row.length:Int)-1) S (by omega) (by omega) (fun i hi=>Xsg hw row p i S h hl (by omega))
 have e:((p:Int)+1).toNat=p+1:=by omega
 rw[e] at h1;have hn:Xk .len [.tup (row.map D.int)] S=.ok (.int row.length) S:=by rw[Xoh,Vr]
 exact Xsh hn h1
theorem Xvt(row:List Int):∀ p,((Vc (p+1)).map (Xx row p)).sum=tG 1 row p:=by
 induction row with
 | nil =>
  intro p;have:∀ a,Xx [] p a=0:=fun a=>by simp[Xx]
  have e:(Vc (p+1)).map (Xx [] p)=Vd (p+1) 0:=by
   rw[List.eq_replicate_iff];exact⟨by simp,fun b hb=>by obtain⟨a,_,rfl⟩:=Vag.mp hb;exact this a⟩
  rw[e];simp[tG]
 | cons x r ih =>
  intro p;rw[Va8,Vda,Vc1,Vd7];have e0:Xx (x::r) p 0=x*(C r.length p:Int):=by simp[Xx]
  cases p with
  | zero=>simp[tG,e0,Xar]
  | succ p =>
   have e1:(Xx (x::r) (p+1)∘Nat.succ)=Xx r p:=by
    funext a
    simp only[Vdd,Xx,Ug,Vdh];have:r.length+1-1-(a+1)=r.length-1-a:=by omega
    rw[this,Nat.succ_sub_succ]
   rw[e1,ih p,e0,tG,Int.one_pow,Int.one_mul]
noncomputable def Xa1(l:List Int):Int:=(alt l).sum-(alt (l.drop 1)).sum
theorem Xvu{α:Type}(x:α)(r:List α):alt (x::r)=x::alt (r.drop 1):=by
 cases r<;>rfl
theorem Xb5(x:Int)(r:List Int):Xa1 (x::r)=x-Xa1 r:=by
 unfold Xa1;rw[Xvu,Vd7];have:(x::r).drop 1=r:=rfl;rw[this];omega
theorem Xz8(n:Nat):(-1:Int)^(n+1) = -((-1)^n):=by rw[Int.pow_succ];omega
theorem Xl7(x:Int):∀ u:List Int,Xa1 (u++[x])=Xa1 u+(-1)^u.length*x
 | []=>by simp[Xa1,alt]
 | y::u=>by
  rw[Ur,Xb5,Xb5,Xl7 x u,Ug,Xz8,Int.neg_mul];omega
theorem Xvv(x:Int)(l:List Int):Xa1 (x::l).reverse=Xa1 l.reverse+(-1)^l.length*x:=by
 rw[List.reverse_cons,Xl7,Veu]
theorem Xl8(row:List Int):∀ p,Xa1 ((Vc (p+1)).map (Xx row p)).reverse=tG (-1) row p:=by
 induction row with
 | nil =>
  intro p;have key:∀ l:List Int,(∀ b∈l,b=0)->Xa1 l=0:=by
   intro l
   induction l with
   | nil=>intro _;rfl
   | cons y l ih=>intro h;rw[Xb5,ih fun b hb=>h b (by simp[hb]),h y (by simp)];rfl
  rw[key _ fun b hb=>by
   obtain⟨a,_,rfl⟩:=Vag.mp (List.mem_reverse.mp hb);simp[Xx]]
  rfl
 | cons x r ih =>
  intro p;rw[Va8,Vda,Vc1,Xvv];have e0:Xx (x::r) p 0=x*(C r.length p:Int):=by simp[Xx]
  have el:(V2 (Xx (x::r) p∘Nat.succ) (Vc p)).length=p:=by simp
  rw[e0,el];cases p with
  | zero=>simp[tG,Xar,Xa1,alt]
  | succ p =>
   have e1:(Xx (x::r) (p+1)∘Nat.succ)=Xx r p:=by
    funext a
    simp only[Vdd,Xx,Ug,Vdh];have:r.length+1-1-(a+1)=r.length-1-a:=by omega
    rw[this,Nat.succ_sub_succ]
   rw[e1,ih p,tG];have:(-1:Int)^(p+1)*(x*(C r.length (p+1):Int))=x*((-1)^(p+1)*(C r.length (p+1):Int)):=Int.mul_left_comm _ _ _;rw[this];omega
theorem Xfi:∀ l:List Int,Ym (l.map D.int)=some l
 | []=>rfl
 | x::l=>by simp only[V2,Ym,Xfi l,Vs]
theorem Xdi{q:Nat}{l:List Int}(h:Xc S q=some (l.map D.int)):Xk .sum [.ref q] S=.ok (.int l.sum) S:=by
 simp only[Xk,Xq,h,Vv,Xfi]
theorem Xoi{q:Nat}{l:List Int}{k:Bool}(h:Xc S q=some (l.map D.int)):Xfr k (.ref q) S=.ok (.ref S.length) (S++[.lst ((alt (l.reverse.drop (if k then 1 else 0))).map D.int)]):=by
 simp only[Xfr,h,<- List.map_reverse,<- List.map_drop,Xoe]
noncomputable def Xgq:Df:=⟨1,1,.cons (.ret (.bin .sub (.blt .sum (.cons (.rv2 false (.var 0)) .nil)) (.blt .sum (.cons (.rv2 true (.var 0)) .nil)))) .nil⟩
theorem Xvw{q:Nat}{A B:List Int}(h1:Xfr false (.ref q) S=.ok (.ref S.length) (S++[.lst (A.map D.int)]))(h3:Xfr true (.ref q) (S++[.lst (A.map D.int)])=.ok (.ref (S++[O.lst (A.map D.int)]).length) (S++[.lst (A.map D.int)]++[.lst (B.map D.int)])) :
  den F G Xgq [.ref q] S=.ok (.int (A.sum-B.sum)) (S++[.lst (A.map D.int)]++[.lst (B.map D.int)]):=by
 have h2:=Xdi (Xe (S:=S) (xs:=A.map D.int));have h4:=Xdi (Xe (S:=S++[O.lst (A.map D.int)]) (xs:=B.map D.int));simp only[den,Xgq,V2,Vd,Ue,Vp,exes,exe,ev,evs,gZ0,Rk0,h1,h2,h3,h4,Xr];rfl
theorem Xsj{q:Nat}{l:List Int}(h:Xc S q=some (l.map D.int)):∃ X,den F G Xgq [.ref q] S=.ok (.int (Xa1 l.reverse)) (S++X):=by
 have h1:=Xoi (k:=false) h;have h3:=Xoi (k:=true) (Xm (X:=[.lst ((alt (l.reverse.drop 0)).map D.int)]) h);have:=Xvw (F:=F) (G:=G) (A:=alt (l.reverse.drop 0)) (B:=alt (l.reverse.drop 1)) h1 h3;rw[Vo] at this;exact⟨_,this⟩
noncomputable def Xf5(row:D)(x:Option D):En:=[some row,none,x]
theorem Xsk{L:Nat}{y:Nat->Int}(hl:∀ S,Xk .len [row] S=.ok (.int L) S)(hL:L<=12)(ht:∀ (i:Nat) (S:Sto),i<L->∃ X,ev F G elt (Xf5 row (some (.int i))) S=.ok (.int (y i)) (S++X)) :
  ∃ X,ev F G (.blt .tuple (.cons (.cmr false 2 (.cons (.var 2) (.rng (.cons (.blt .len (.cons (.var 0) .nil)) .nil)) .nil .nil) elt) .nil)) [some row] S=.ok (.tup ((Vc L).map fun i=>.int (y i))) (S++X):=by
 obtain⟨xs,hx,hxl⟩:=Ye (m:=(L:Int)) (by omega) (Xf2 (by omega))
 have hxl':xs.length=L:=by omega
 obtain⟨e',S',h2,⟨X,h3⟩,h4⟩:=Xa0 (F:=F) (G:=G) (t:=.var 2) (n:=2) (elt:=elt) (env:=[some row]) (S:=S) (S1:=S) xs (fun i=>.int (y i))
  (fun i e S'=>(∃ X,S'=S++X)/\∃ x,e=Xf5 row x)
  (Xbn (es:=.cons (.blt .len (.cons (.var 0) .nil)) .nil) (by simp only[evs,ev,gZ0,Rk0,hl]) hx) rfl (X9 (by omega)) ⟨⟨[],by simp⟩,none,rfl⟩ (fun _ _ _ _=>rfl)
  (fun i d e S' hd hP=>by
   obtain⟨⟨X,rfl⟩,x,rfl⟩:=hP;obtain⟨rfl,hi⟩:=Y0 hx hd;obtain⟨X',h⟩:=ht i (S++X) (by omega)
   exact⟨Xf5 row (some (.int i)),S++X++X',rfl,h,⟨X++X',by simp⟩,some (.int i),rfl⟩)
 refine⟨X++[.lst ((Vc L).map fun i=>.int (y i))],?_⟩
 rw[hxl'] at h2;have h3':S'=S++X:=h3;subst h3';simp only[ev,evs] at h2 ⊢;rw[h2];simp only[Rk0,Xk,Xq,Xe];rw[Vo]
noncomputable def Xh8(ic:Nat)(elt:Ex):Df:=⟨1,1,.cons (.expr (.call ic (.cons (.var 0) .nil))) (.cons (.ret (.blt .tuple (.cons (.cmr false 2 (.cons (.var 2) (.rng (.cons (.blt .len (.cons (.var 0) .nil)) .nil)) .nil .nil) elt) .nil))) .nil)⟩
theorem Xz9(hc:F ic [row] S=.ok .non S1)(h:ev F G (.blt .tuple (.cons (.cmr false 2 (.cons (.var 2) (.rng (.cons (.blt .len (.cons (.var 0) .nil)) .nil)) .nil .nil) elt) .nil)) [some row] S1=.ok d S2) :
  den F G (Xh8 ic elt) [row] S=.ok d S2:=by
 simp only[den,Xh8,V0,if_true,V2,Vd,Ue,Vp];rw[Xb (e:=[some row]) (S1:=S1) (by simp only[exe,ev,evs,gZ0,Rk0,hc])]
 rw[Xf (d:=d) (S1:=S2) (by simp only[exe];rw[h,Rk0])]
noncomputable def Xa(l:List Int):D:=.tup (l.map D.int)
theorem X0a(s:Int)(row:List Int):D.tup ((Vc row.length).map fun i=>.int (tG s row i))=Xa (tT s row):=by simp[Xa,tT]
noncomputable def Xpy(ii ip:Nat):Ex:=.call ii (.cons (.call ip (.cons (.var 0) (.cons (.var 2) .nil))) .nil)
theorem Xsl(row:List Int)(p:Nat):Xcm row p=((Vc (p+1)).map (Xx row p)).map D.int:=by simp[Xcm]
theorem Xcn(row:List Int)(S:Sto):Xk .len [Xa row] S=.ok (.int row.length) S:=by unfold Xa;rw[Xoh,Vr]
theorem Xpz{ic ii ip:Nat}{row:List Int}(hl:row.length<=12)(hc:F ic [Xa row] S=.ok .non S1)
  (hp:∀ (p:Nat) (S:Sto),p<row.length->F ip [Xa row,.int p] S=.ok (.ref S.length) (S++[.lst (Xcm row p)]))
  (hi:∀ (S:Sto) (q:Nat) (l:List Int),Xc S q=some (l.map D.int)->∃ X,F ii [.ref q] S=.ok (.int (Xa1 l.reverse)) (S++X)) :
  ∃ X,den F G (Xh8 ic (Xpy ii ip)) [Xa row] S=.ok (Xa (tT (-1) row)) (S1++X):=by
 obtain⟨X,h⟩:=Xsk (F:=F) (G:=G) (elt:=Xpy ii ip) (row:=Xa row) (L:=row.length) (y:=tG (-1) row) (S:=S1) (Xcn row) hl fun i S hh=>by
  obtain⟨X,h⟩:=hi (S++[.lst (Xcm row i)]) S.length ((Vc (i+1)).map (Xx row i)) (by rw[<- Xsl];exact Xe)
  rw[Xl8] at h;refine⟨[.lst (Xcm row i)]++X,?_⟩;simp only[Xpy,Xf5,ev,evs,gZ0,gS0,Rk0,hp i S hh,h,Vo]
 rw[X0a] at h;exact⟨X,Xz9 hc h⟩
def Xco(F:Fn)(i:Nat):Prop:=∀ (d:D) (S:Sto),good S d->F i [d] S=.ok (.bl (wh d)) S
theorem Xgr:∀ l:List Bool,Yh (l.map D.bl)=some l
 | []=>rfl
 | x::l=>by simp only[V2,Yh,Xgr l,Vs]
noncomputable def Xkm(i0:Nat):Ex:=.blt .all (.cons (.cmr false 2 (.cons (.var 2) (.val (.var 0)) .nil .nil) (.call i0 (.cons (.var 2) .nil))) .nil)
noncomputable def Xe7(i0:Nat):Df:=⟨1,1,.cons (.ret (.and (.isi (.var 0) [.tuple]) (Xkm i0))) .nil⟩
theorem X0b{l:List Bool}:Xk .all [.ref S.length] (S++[.lst (l.map D.bl)])=.ok (.bl (l.all id)) (S++[.lst (l.map D.bl)]):=by
 simp only[Xk,Xe,Vv,Xgr]
theorem Xsm{α β:Type}[Inhabited α](f:α->β)(xs:List α):(Vc xs.length).map (fun i=>f (xs.getD i default))=xs.map f:=by
 refine List.ext_getElem (by simp) fun i h1 h2=>?_
 have:i<xs.length:=by simpa using h2
 simp[this]
theorem Xl9(hw:Xco F i0)(hg:∀ d∈xs,good S d)(hl:xs.length<=1000):ev F G (Xkm i0) [some (.tup xs)] S=.ok (.bl (xs.all wh)) (S++[.lst ((xs.map wh).map D.bl)]):=by
 obtain⟨e',S',h2,h3,h4⟩:=Xa0 (F:=F) (G:=G) (t:=.var 2) (n:=2) (elt:=.call i0 (.cons (.var 2) .nil)) (env:=[some (.tup xs)]) (S:=S) (S1:=S) xs (fun i=>.bl (wh (xs.getD i default)))
  (fun i e S'=>S'=S/\∃ x,e=Xf5 (.tup xs) x)
  (X38 (e:=.var 0) (by simp only[ev,gZ0])) rfl (X9 hl) ⟨rfl,none,rfl⟩ (fun _ _ _ _=>rfl)
  (fun i d e S' hd hP=>by
   obtain⟨rfl,x,rfl⟩:=hP;have hm:d∈xs:=U4 hd;have e:xs.getD i default=d:=by rw[Van,hd];rfl
   refine⟨Xf5 (.tup xs) (some d),S',rfl,?_,rfl,some d,rfl⟩;rw[e];simp only[ev,evs,Xf5,gZ0,gS0,Rk0,hw d S' (hg d hm)])
 have h3':S'=S:=h3;subst h3';have e1:((Vc xs.length).map fun i=>D.bl (wh (xs.getD i default)))=(xs.map wh).map D.bl:=by
  rw[Xsm (fun d=>D.bl (wh d)) xs,Vc1];rfl
 rw[e1] at h2;simp only[Xkm,ev,evs] at h2 ⊢;rw[h2];simp only[Rk0];rw[X0b];simp[Vdd]
theorem Xvx(hw:Xco F i0)(hg:∀ d∈xs,good S d)(hl:xs.length<=1000):den F G (Xe7 i0) [.tup xs] S=.ok (.bl (xs.all wh)) (S++[.lst ((xs.map wh).map D.bl)]):=by
 have h:=Xl9 (G:=G) hw hg hl;have hk:kdD S (.tup xs)=some .tuple:=rfl;simp only[den,Xe7,V0,if_true,V2,Vd,Ue,Vp];rw[Xf (d:=.bl (xs.all wh)) (S1:=S++[.lst ((xs.map wh).map D.bl)]) (by
  simp only[exe];rw[ev,ev];simp only[ev,gZ0,Rk0,hk,Vv,Yq,isT,Xg];rw[h,Rk0])]
theorem Xsn(h:∀ c,k≠.exc c)(hn:k≠.tuple):Yq k [.tuple]=some false:=by
 cases k<;>first|rfl|exact absurd rfl (h _)|exact absurd rfl hn
theorem X0c(hk:kdD S d=some k)(h:∀ c,k≠.exc c)(hn:k≠.tuple):den F G (Xe7 i0) [d] S=.ok (.bl false) S:=by
 have hi:=Xsn h hn;simp only[den,Xe7,V0,if_true,V2,Vd,Ue,Vp];rw[Xf (d:=.bl false) (S1:=S) (by
  simp only[exe];rw[ev,ev];simp only[ev,gZ0,Rk0,hk,Vv,hi,Xg])]
noncomputable def wt:D->Bool
 | .tup xs=>xs.all wh
 | _=>false
def Xp0(F:Fn)(i:Nat):Prop:=∀ (d:D) (S:Sto),good S d->(∀ xs,d=.tup xs->(∀ x∈xs,good S x)/\xs.length<=1000)->∃ X,F i [d] S=.ok (.bl (wt d)) (S++X)
theorem Xvy(hf:T[i]?=some (Xe7 i0))(k:Nat)(hw:Xco (FT T G k) i0):Xp0 (FT T G (k+1)) i:=fun d S hg ht=>by
 simp only[FT,hf]
 by_cases h:∃ xs,d=.tup xs
 ·obtain⟨xs,rfl⟩:=h
  obtain⟨h1,h2⟩:=ht xs rfl;exact⟨_,Xvx hw h1 h2⟩
 ·obtain⟨kd,h1,h2⟩:=hg
  have hn:kd≠.tuple:=fun z=>by
   subst z;cases d with
   | tup xs=>exact h ⟨xs,rfl⟩
   | ref n =>
    simp only[kdD] at h1;split at h1<;>cases h1
   | _=>cases h1
  have e:wt d=false:=by
   cases d with
   | tup xs=>exact absurd ⟨xs,rfl⟩ h
   | _=>rfl
  refine⟨[],?_⟩;rw[e,Vp];exact X0c h1 h2 hn
theorem Xjv(hf:T[i]?=some Xej)(k:Nat):Xco (FT T G (k+1)) i:=fun d S h=>by
 simp only[FT,hf];exact Xsc h
theorem X0d(l:List Int):wt (Xa l)=true:=by
 unfold Xa wt;rw[Uv];intro d hd;obtain⟨i,_,rfl⟩:=Vag.mp hd;rfl
theorem Xso(l:List Int)(S:Sto):∀ x∈l.map D.int,good S x:=fun x hx=>by
 obtain⟨i,_,rfl⟩:=Vag.mp hx;exact Xf3 S i
noncomputable def Xel(i2:Nat)(ig:Nat:=0):Df:=⟨1,1,.cons (.ret (.and (.call i2 (.cons (.var 0) .nil)) (.chn .le .le (.cst (.int 1)) (.blt .len (.cons (.var 0) .nil)) (.bin .add (.glb ig) (.cst (.int 1)))))) .nil⟩
theorem Xvz{i2:Nat}{n g:Int}(h1:F i2 [d] S=.ok (.bl true) S1)(h2:Xk .len [d] S1=.ok (.int n) S1)(hg:G[0]?=some (.int g))(h3:1<=n)(h4:n<=g+1):den F G (Xel i2) [d] S=.ok (.bl true) S1:=by
 simp only[den,Xel,V0,if_true,V2,Vd,Ue,Vp];rw[Xf (d:=.bl true) (S1:=S1) (by
  simp only[exe,ev,evs,gZ0,Rk0,h1,Xg,h2,hg,Xo,X0,Xj,decide_eq_true h3,decide_eq_true h4])]
noncomputable def Xma(i4:Nat):Df:=⟨1,1,.cons (.ite (.not (.call i4 (.cons (.var 0) .nil))) (.cons (.rse 7 (.cst (.str "a row is due"))) .nil) .nil) .nil⟩
theorem X39(h:F i4 [d] S=.ok (.bl true) S1):den F G (Xma i4) [d] S=.ok .non S1:=by
 simp only[den,Xma,V0,if_true,V2,Vd,Ue,Vp];rw[Xb (e:=[some d]) (S1:=S1) (X8 (by simp only[ev,evs,gZ0,Rk0,h,Xg];rfl))]
 simp only[exes]
theorem Xmb{α:Type}(xs:List α)(n:Nat):cut xs none (some (n:Int))=xs.take n:=by
 unfold cut Xfq;simp only[List.drop_zero,Nat.sub_zero];rw[if_pos (by omega)]
 simp only[Vay]
 by_cases h:n<=xs.length
 ·rw[Nat.min_eq_left h]
 ·rw[Nat.min_eq_right (by omega),Vcv (by omega),Vcv (by omega)]
end
noncomputable def ps(l:List Int)(k:Nat):Int:=(l.take k).sum
noncomputable def pre(l:List Int)(n:Nat):List Int:=(Vc n).map fun j=>ps l (j+1)
section
variable{F:Fn}{G:List D}
theorem Xsp(h:ev F G c env S=.ok (.bl true) S1):exe F G (.ite c (.cons (.rse k (.cst (.str s))) .nil) .nil) env S=.ex S1.length (S1++[.exc k]):=by
 rw[exe,h,Rk0];simp only[Xg,exes,exe,ev,Rk0]
noncomputable def Xp1:Df:=⟨1,1,.cons (.ret (.bin .add (.bin .fdiv (.var 0) (.cst (.int 2))) (.cst (.int 1)))) .nil⟩
theorem Xv0(w:Int)(S:Sto):den F G Xp1 [.int w] S=.ok (.int (w/2+1)) S:=by
 have hd:Yd 2=true:=by decide+kernel
 simp only[den,Xp1,V0,if_true,V2,Vd,Ue,Vp];rw[Xf (d:=.int (w/2+1)) (S1:=S) (by simp only[exe,ev,gZ0,Rk0,Xaq hd,Xo])]
variable{i1 i2 ih ig:Nat}{d e:D}{g:Int}{S S1:Sto}
theorem Xgs(i j:Int)(S:Sto):Xj .ne (.int i) (.int j) S=.ok (.bl (!(i==j))) S:=by
 simp only[Xj,X0,eqD,Xch,Y5,X2,PyData.canLay0,Vam,Vb9];rfl
theorem Xe8(h:Xc S q=some xs)(hl:xs.length<1000):Xag .append (.ref q) [x] S=.ok .non (S.set q (.lst (xs++[x]))):=by
 have h':lstM S q=some xs:=h;simp only[Xag,h'];rw[if_pos (Vu hl (by decide))]
theorem X0e(h1:k<1048576)(h2:x.length*k.toNat<=big)(h3:-(1048576)<k)(h4:x.isEmpty=false):Xs .mul (.tup x) (.int k) S=.ok (.tup (Vd k.toNat x).flatten) S:=by
 simp only[Xs];rw[if_pos ⟨h1,h2,h3,h4⟩]
theorem Xmc{α:Type}(x:α):∀ n,(Vd n [x]).flatten=Vd n x
 | 0=>rfl
 | n+1=>by rw[Um,Vap,Xmc x n,Um];rfl
theorem Xv1(a b:List Int)(S:Sto)(h:a.length+b.length<=1000):Xs .add (Xa a) (Xa b) S=.ok (Xa (a++b)) S:=by
 unfold Xa;simp only[Xs];rw[if_pos (by rw[Vr,Vr];exact X9 h),Va2]
theorem Xcp(a:List Int)(n:Nat)(S:Sto):Xaw (Xa a) none (some (n:Int)) S=.ok (Xa (a.take n)) S:=by
 unfold Xa;simp only[Xaw,Xmb,List.map_take]
theorem Xe9(h1:Xc S a=some x)(h2:Xc S b=some y)(hl:x.length+y.length<=1000):Xs .add (.ref a) (.ref b) S=.ok (.ref S.length) (S++[.lst (x++y)]):=by
 have h1':lstM S a=some x:=h1;have h2':lstM S b=some y:=h2;simp only[Xs,h1',h2'];exact if_pos (X9 hl)
theorem X0f(n:Nat):Z.ixN (n+1) (-1)=some n:=by
 unfold Z.ixN;rw[if_neg (by omega),if_pos (by omega)]
 congr 1;omega
theorem Xv2{q n:Nat}{l:List Int}(h:Xc S q=some (l.map D.int))(hl:l.length=n+1):Yb (.ref q) (.int (-1)) S=.ok (.int (l.getD n 0)) S:=by
 have hn:n<l.length:=by omega
 simp only[Yb,Xal,Xq,h,Vv,Vr,hl,X0f];simp[hn]
theorem X0g(P:Nat->En->Sto->Prop)(h1:ev F G e0 env S=.ok (.ref r) S1)(hr:Xc S1 r=some xs)(hk:∀ i e S',P i e S'->Xc S' r=some xs)(h0:P 0 env S1)
  (step:∀ i d e S,xs[i]?=some d->P i e S->∃ e1 e2 S2,Xl t d e=some e1/\exes F G b e1 S=.ok (.nx e2) S2/\P (i+1) e2 S2) :
  ∃ e' S',exe F G (.for t (.val e0) b) env S=.ok (.nx e') S'/\P xs.length e' S':=by
 obtain⟨e',S',a,b'⟩:=Xei (get:=(Src.ref r).get) (t:=t) (body:=fun env S=>exes F G b env S) xs P (fun i e S' hP=>by simp only[Src.get,hk i e S' hP,Vs]) step (xs.length+1) 0 env S1 h0 (Uo _) (by omega)
 refine⟨e',S',?_,b'⟩;have hs:Xy S1 (.ref r)=some (.ref r):=by simp only[Xy,hr,Vs]
 simp only[exe,evit,h1,Rk0,hs,Src.most,hr,Vce];exact a
theorem Xbo(i j:Int)(S:Sto):Xj .eq (.int i) (.int j) S=.ok (.bl (i==j)) S:=by
 simp only[Xj,X0,eqD,Xch,Y5,X2,PyData.canLay0,Vam,Vb9];rfl
end
mutual
theorem Xem(h:∀ n p,look n=some p->look' n=some p):∀ (d:D) (p:PyData),X2 look d=some p->X2 look' d=some p
 | .non,p,e=>by simpa only[X2] using e
 | .bl b,p,e=>by simpa only[X2] using e
 | .int i,p,e=>by simpa only[X2] using e
 | .str x,p,e=>by simpa only[X2] using e
 | .tup xs,p,e=>by
  simp only[X2,V8] at e ⊢;obtain⟨ps,e1,e2⟩:=e;exact⟨ps,datFs_mono h xs ps e1,e2⟩
 | .fro _,p,e=>by simp[X2] at e
 | .fn _ _,p,e=>by simp[X2] at e
 | .ref n,p,e=>by simp only[X2] at e ⊢;exact h n p e
theorem datFs_mono(h:∀ n p,look n=some p->look' n=some p):∀ (ds:List D) (ps:List PyData),datFs look ds=some ps->datFs look' ds=some ps
 | [],ps,e=>by simpa only[datFs] using e
 | d::ds,ps,e=>by
  simp only[datFs] at e ⊢;cases e1:X2 look d with
  | none=>rw[e1] at e;cases e
  | some q =>
   cases e2:datFs look ds with
   | none=>rw[e1,e2] at e;cases e
   | some qs =>
    rw[e1,e2] at e;rw[Xem h d q e1,datFs_mono h ds qs e2];exact e
end
theorem Xen:∀ (k n:Nat) (p:PyData),Ys S k n=some p->Ys (S++X) k n=some p
 | 0,n,p,e=>by cases e
 | k+1,n,p,e=>by
  simp only[Ys] at e ⊢;cases q:S[n]? with
  | none=>rw[q] at e;cases e
  | some o =>
   rw[Vq (Ve.mp q).1,q];rw[q] at e;cases o with
   | lst xs =>
    simp only[V8] at e ⊢;obtain⟨ps,e1,e2⟩:=e;exact⟨ps,datFs_mono (Xen k) xs ps e1,e2⟩
   | dct kvs=>cases kvs<;>exact e
   | set _=>cases e
   | exc _=>cases e
section
variable{F:Fn}{G:List D}
theorem eq_str(t:Str)(S:Sto):Xj .eq (.str t) (.str t) S=.ok (.bl true) S:=by
 simp only[Xj,X0,eqD,Xch,beq_self_eq_true]
end
def Sm(S:Sto)(dep siz:Nat)(d:D):Prop:=∃ p,X2 (Ys S 3) d=some p/\p.showable=true/\Xan p=true/\p.depth<=dep/\szD p<=siz
theorem Sm.mono(h:Sm S a b d)(h1:a<=a')(h2:b<=b'):Sm S a' b' d:=by
 obtain⟨p,q1,q2,q3,q4,q5⟩:=h;exact⟨p,q1,q2,q3,Vy q4 h1,Vy q5 h2⟩
theorem Sm.app(h:Sm S a b d):Sm (S++X) a b d:=by
 obtain⟨p,q1,q⟩:=h;exact⟨p,Xem (Xen 3) d p q1,q⟩
theorem X4a(S:Sto)(i:Int)(h:i.natAbs.log2<1920):Sm S 0 1921 (.int i):=⟨.int i,by simp only[X2],by simp only[U2,decide_eq_true h],by simp only[Xan],by simp only[Vam];exact Vh _,by simp only[szD];exact Vh _⟩
theorem Xsq(S:Sto):Sm S 0 1921 .non:=⟨.none,by simp only[X2],by simp only[U2],by simp only[Xan],by simp only[Vam];exact Vh _,by simp only[szD];omega⟩
theorem Xsr(S:Sto)(t:Str)(h:(reprText t).length<=1921):Sm S 0 1921 (.str t):=⟨.str t,by simp only[X2],by simp only[U2],by simp only[Xan],by simp only[Vam];exact Vh _,by simp only[szD];exact h⟩
theorem sms:∀ ds:List D,(∀ d∈ds,∃ p,X2 look d=some p/\p.showable=true/\Xan p=true/\p.depth<=a/\szD p<=b) ->
  ∃ ps,datFs look ds=some ps/\Vaw ps=true/\dctEs ps=true/\Vcs ps<=a/\szDs ps<=ds.length*(b+2)
 | [],_=>⟨[],by simp only[datFs],by simp only[Vaw],by simp only[dctEs],by simp only[Vcs];exact Uo _,by simp only[szDs];exact Uo _⟩
 | d::ds,h=>by
  obtain⟨p,p1,p2,p3,p4,p5⟩:=h d (by simp)
  obtain⟨ps,q1,q2,q3,q4,q5⟩:=sms ds fun x hx=>h x (by simp[hx])
  refine⟨p::ps,by simp only[datFs,p1,q1],by simp only[Vaw,p2,q2,Vck],by simp only[dctEs,p3,q3,Vck],by simp only[Vcs];exact Nat.max_le.mpr ⟨p4,q4⟩,?_⟩
  simp only[szDs,Ug,Ved];omega
theorem X4b(h:∀ d∈ds,Sm S a b d):Sm S (a+1) (ds.length*(b+2)+3) (.tup ds):=by
 obtain⟨ps,q1,q2,q3,q4,q5⟩:=sms ds h;refine⟨.tuple ps,by simp only[X2,q1,Vs],by simp only[U2,q2],by simp only[Xan,q3],by simp only[Vam];omega,by simp only[szD];omega⟩
theorem X4c(h:n<=900000):n<=big:=Vy h (by decide)
def Ext(p:Nat)(S S':Sto):Prop:=∀ n o,n≠p->S[n]?=some o->S'[n]?=some o
section
variable{p:Nat}{S S' S1 S2 X:Sto}
theorem Ext.refl:Ext p S S:=fun _ _ _ h=>h
theorem Ext.trans(a:Ext p S S1)(b:Ext p S1 S2):Ext p S S2:=fun n o h e=>b n o h (a n o h e)
theorem Ext.app:Ext p S (S++X):=fun n o _ e=>by rw[Vq (Ve.mp e).1];exact e
theorem Ext.set:Ext p S (S.set p o):=fun n o h e=>by rw[Ux (Ne.symm h)];exact e
theorem Xbp(h:Xc S q=some xs):S[q]?=some (.lst xs):=by
 unfold Xc at h;split at h
 ·rename_i ys hh;cases h;exact hh
 ·cases h
theorem X4d(h:S[q]?=some (.lst xs)):Xc S q=some xs:=by unfold Xc;rw[h]
theorem Ext.lst(x:Ext p S S')(hq:q≠p)(h:Xc S q=some xs):Xc S' q=some xs:=X4d (x q _ hq (Xbp h))
end
def FSm(dep siz:Nat)(d:D):Prop:=∃ p,(∀ look,X2 look d=some p)/\p.showable=true/\Xan p=true/\p.depth<=dep/\szD p<=siz
theorem FSm.mono(h:FSm a b d)(h1:a<=a')(h2:b<=b'):FSm a' b' d:=by
 obtain⟨p,q1,q2,q3,q4,q5⟩:=h;exact⟨p,q1,q2,q3,Vy q4 h1,Vy q5 h2⟩
theorem FSm.sm(h:FSm a b d)(S:Sto):Sm S a b d:=by
 obtain⟨p,q1,q⟩:=h;exact⟨p,q1 _,q⟩
theorem FSm.good(h:FSm a b d)(S:Sto):good S d:=by
 obtain⟨p,q1,q⟩:=h;refine Xjt S d (fun n z=>?_) (fun f m z=>?_)
 ·subst z;have:=q1 (fun _=>none);cases this
 ·subst z;have:=q1 (fun _=>none);cases this
theorem Xmd(h:i.natAbs.log2<1920):FSm 0 1921 (.int i):=⟨.int i,fun _=>by simp only[X2],by simp only[U2,decide_eq_true h],by simp only[Xan],by simp only[Vam];exact Vh _,by simp only[szD];exact Vh _⟩
theorem fs_non:FSm 0 1921 .non:=⟨.none,fun _=>by simp only[X2],by simp only[U2],by simp only[Xan],by simp only[Vam];exact Vh _,by simp only[szD];omega⟩
theorem fs_bl:FSm 0 1921 (.bl b):=⟨.bool b,fun _=>by simp only[X2],by simp only[U2],by simp only[Xan],by simp only[Vam];exact Vh _,by simp only[szD];omega⟩
theorem X4e(h:(reprText t).length<=1921):FSm 0 1921 (.str t):=⟨.str t,fun _=>by simp only[X2],by simp only[U2],by simp only[Xan],by simp only[Vam];exact Vh _,by simp only[szD];exact h⟩
theorem fss:∀ ds:List D,(∀ d∈ds,FSm a b d) ->
  ∃ ps,(∀ look,datFs look ds=some ps)/\Vaw ps=true/\dctEs ps=true/\Vcs ps<=a/\szDs ps<=ds.length*(b+2)
 | [],_=>⟨[],fun _=>by simp only[datFs],by simp only[Vaw],by simp only[dctEs],by simp only[Vcs];exact Uo _,by simp only[szDs];exact Uo _⟩
 | d::ds,h=>by
  obtain⟨p,p1,p2,p3,p4,p5⟩:=h d (by simp)
  obtain⟨ps,q1,q2,q3,q4,q5⟩:=fss ds fun x hx=>h x (by simp[hx])
  refine⟨p::ps,fun look=>by simp only[datFs,p1 look,q1 look],by simp only[Vaw,p2,q2,Vck],by simp only[dctEs,p3,q3,Vck],by simp only[Vcs];exact Nat.max_le.mpr ⟨p4,q4⟩,?_⟩
  simp only[szDs,Ug,Ved];omega
theorem Xme(h:∀ d∈ds,FSm a b d):FSm (a+1) (ds.length*(b+2)+3) (.tup ds):=by
 obtain⟨ps,q1,q2,q3,q4,q5⟩:=fss ds h;refine⟨.tuple ps,fun look=>by simp only[X2,q1 look,Vs],by simp only[U2,q2],by simp only[Xan,q3],by simp only[Vam];omega,by simp only[szD];omega⟩
theorem X4f(h:FSm a b d):FSm (a+1) (b+5) (.tup [d]):=by
 have:=Xme (ds:=[d]) (a:=a) (b:=b) (fun x hx=>by rw[Us] at hx;subst hx;exact h)
 exact this.mono (Vh _) (by simp)
theorem X0h(hn:Xc S n=some xs)(h:∀ x∈xs,FSm a b x):Sm S (a+1) (xs.length*(b+2)+2) (.ref n):=by
 obtain⟨ps,q1,q2,q3,q4,q5⟩:=fss xs h;refine⟨.list ps,?_,by simp only[U2,q2],by simp only[Xan,q3],by simp only[Vam];omega,by simp only[szD];omega⟩
 show Ys S 3 n=_;rw[Ys,Xbp hn];dsimp only;rw[q1,Vs]
theorem Xss(h:Xc S q=some xs):good S (.ref q):=⟨.list,by simp only[kdD];rw[Xbp h],fun _ z=>nomatch z⟩
structure Thing(S:Sto)(d:D):Prop where
 sm:Sm S 20 400000 d
 gd:good S d
 el:∀ xs,d=.tup xs->(∀ x∈xs,good S x)/\xs.length<=200
def Kp(p:Nat)(S:Sto)(d:D):Prop:=∀ S',Ext p S S'->Thing S' d
section
variable{p:Nat}{S S':Sto}{d:D}
theorem Kp.now(h:Kp p S d):Thing S d:=h S .refl
theorem X4g(hq:q≠p)(hl:Xc S q=some xs)(h:∀ x∈xs,FSm a b x)(ha:a<=4)(hb:xs.length*(b+2)+2<=400000):Kp p S (.ref q):=fun S' x=>⟨(X0h (x.lst hq hl) h).mono (by omega) hb,Xss (x.lst hq hl),fun xs z=>nomatch z⟩
end
theorem Thing.app(h:Thing S d):Thing (S++X) d:=⟨h.sm.app,Xl4 h.gd,fun xs z=>⟨fun x hx=>Xl4 ((h.el xs z).1 x hx),(h.el xs z).2⟩⟩
def Xh9(l:List Int):Prop:=∀ x∈l,x.natAbs.log2<1920
noncomputable def isr:D->Bool
 | .tup xs=>xs.all wh&&(decide (1<=xs.length)&&decide (xs.length<=12))
 | _=>false
theorem Xia:∀ {xs:List D},xs.all wh=true->∃ l:List Int,xs=l.map D.int
 | [],_=>⟨[],rfl⟩
 | x::xs,h=>by
  simp only[Val,bA0] at h;obtain⟨l,rfl⟩:=Xia h.2;cases x with
  | int i=>exact⟨i::l,rfl⟩
  | _=>cases h.1
theorem Xib(h:isr d=true):∃ l,d=Xa l/\1<=l.length/\l.length<=12:=by
 cases d with
 | tup xs =>
  simp only[isr,bA0,decide_eq_true_eq] at h;obtain⟨l,rfl⟩:=Xia h.1;rw[Vr] at h;exact⟨l,rfl,h.2.1,h.2.2⟩
 | _=>cases h
theorem X4h(l:List Int):(l.map D.int).all wh=true:=by
 rw[Uv];intro d hd;obtain⟨i,_,rfl⟩:=Vag.mp hd;rfl
theorem Xv3(h1:1<=l.length)(h2:l.length<=12):isr (Xa l)=true:=by
 simp only[isr,Xa,X4h,Vr,decide_eq_true h1,decide_eq_true h2,Vck]
section
variable{F:Fn}{G:List D}
theorem Xst{a c:Ex}{n lo hi:Int}{d:D}{env:En}{S S':Sto}(h0:env[0]?=some (some d))(hn:Xk .len [d] S=.ok (.int n) S)(h1:ev F G a env S=.ok (.int lo) S)(h2:ev F G c env S=.ok (.int hi) S) :
  ev F G (.chn .le .le a (.blt .len (.cons (.var 0) .nil)) c) env S=.ok (.bl (decide (lo<=n)&&decide (n<=hi))) S:=by
 rw[ev,h1,Rk0];simp only[ev,evs,h0,Rk0,hn,X0,h2,Xj];cases decide (lo<=n)<;>rfl
theorem Xsu{i2:Nat}{ig:Nat}{d:D}{S:Sto}(hw:Xp0 F i2)(hg:G[ig]?=some (.int 11))(t:Thing S d):∃ X,den F G (Xel i2 ig) [d] S=.ok (.bl (isr d)) (S++X):=by
 obtain⟨X,h⟩:=hw d S t.gd (fun xs z=>⟨(t.el xs z).1,Vy (t.el xs z).2 (by omega)⟩)
 refine⟨X,?_⟩;simp only[den,Xel,V0,if_true,V2,Vd,Ue,Vp];have hcall:ev F G (.call i2 (.cons (.var 0) .nil)) [some d] S=.ok (.bl (wt d)) (S++X):=by
  simp only[ev,evs,gZ0,Rk0,h]
 rw[Xf (d:=.bl (isr d)) (S1:=S++X) (by
  rw[exe,ev,hcall,Rk0];simp only[Xg];cases e:wt d with
  | false =>
   have:isr d=false:=by
    cases d with
    | tup xs=>simp only[wt] at e;simp only[isr,e,Vcb]
    | _=>rfl
   rw[this];rfl
  | true =>
   cases d with
   | tup xs =>
    have c:=Xst (F:=F) (G:=G) (a:=.cst (.int 1)) (c:=.bin .add (.glb ig) (.cst (.int 1))) (n:=xs.length) (lo:=1) (hi:=12) (d:=.tup xs) (env:=[some (.tup xs)]) (S:=S++X) (S':=S++X) rfl rfl (by simp only[ev]) (by simp only[ev,hg,Rk0,Xo];rfl)
    dsimp only;rw[c];simp only[wt] at e;simp only[isr,e,Vde,Rk0];have e1:decide ((1:Int)<=(xs.length:Int))=decide (1<=xs.length):=by congr 1;apply propext;omega
    have e2:decide ((xs.length:Int)<=12)=decide (xs.length<=12):=by congr 1;apply propext;omega
    rw[e1,e2]
   | _=>cases e)]
theorem X4i(h:F i4 [d] S=.ok (.bl false) S1):den F G (Xma i4) [d] S=.ex S1.length (S1++[.exc 7]):=by
 simp only[den,Xma,V0,if_true,V2,Vd,Ue,Vp];rw[Xdb (n:=S1.length) (S1:=S1++[.exc 7]) (Xsp (by simp only[ev,evs,gZ0,Rk0,h,Xg];rfl))]
theorem X4j(h:F ic [d] S=.ex n S1):den F G (Xh8 ic elt) [d] S=.ex n S1:=by
 simp only[den,Xh8,V0,if_true,V2,Vd,Ue,Vp];rw[Xdb (n:=n) (S1:=S1) (by simp only[exe,ev,evs,gZ0,Rk0,h,R.bind_ex])]
theorem X4k(hit:evit F G it env S=.ok src S1)(hm:src.most S1=m)
  (h:Yo src.get t (Xab (fun env S=>evts F G ifs env S) (fun env acc S=>(ev F G elt env S).bind fun y S=>if acc.length<big then .ok (acc++[y]) S else .bad)) (m+1) 0 (env++Vd n none) [] S1=.ok acc S2) :
  ev F G (.cmr false n (.cons t it ifs .nil) elt) env S=.ok (.ref S2.length) (S2++[.lst acc]):=by
 simp only[ev,hit,Rk0,hm];rw[h];simp only[Rk0];rfl
theorem Xjw:∀ {xs:List D} {ps:List PyData},datFs look xs=some ps->ps.length=xs.length
 | [],ps,h=>by simp only[datFs,Vi] at h;subst h;rfl
 | x::xs,ps,h=>by
  simp only[datFs] at h;cases e1:X2 look x with
  | none=>rw[e1] at h;cases h
  | some p =>
   cases e2:datFs look xs with
   | none=>rw[e1,e2] at h;cases h
   | some qs=>rw[e1,e2] at h;cases h;simp[Xjw e2]
theorem X4l(ha:Xc S a=some xs)(hb:Xc S b=some []):Xj .eq (.ref a) (.ref b) S=.ok (.bl xs.isEmpty) S:=by
 have db:Y5 S (.ref b)=some (.list []):=by
  show Ys S 4 b=_;rw[Ys,Xbp hb];simp only[datFs,Vs]
 have key:eqD S (.ref a) (.ref b)=some xs.isEmpty:=by
  have ts:Xch (.ref a) (.ref b)=none:=rfl;have da:Y5 S (.ref a)=(datFs (Ys S 3) xs).map PyData.list:=by
   show Ys S 4 a=_;rw[Ys,Xbp ha]
  cases xs with
  | nil =>
   simp only[datFs,Vs] at da;simp only[eqD,ts,da,db];rfl
  | cons x xs =>
   have ls:Xd9 S (.ref a) (.ref b)=some false:=by
    simp only[Xd9,ha,hb];rfl
   cases e:datFs (Ys S 3) (x::xs) with
   | none =>
    rw[e] at da;simp only[eqD,ts,da,Option.map_none,ls,List.isEmpty_cons]
   | some ps =>
    rw[e] at da;have hp:=Xjw e;have hv:Vb9 (.list ps) (.list [])=false:=by
     cases ps with
     | nil=>simp at hp
     | cons p ps=>simp only[Vb9,PyData.eqvAll]
    simp only[eqD,ts,da,db,Vs,ls,hv,List.isEmpty_cons];split<;>rfl
 simp only[Xj,X0,key]
theorem Xoj(h:ev F G c env S=.ok (.bl true) S'):exe F G (.ite c (.cons (.ret (.cst d)) .nil) .nil) env S=.ok (.rt d) S':=by
 rw[exe,h,Rk0];simp only[Xg,exes,exe,ev,Rk0]
end
def Bd(B:Nat)(l:List Int):Prop:=∀ x∈l,x.natAbs<=B
theorem Xxu(hs:s.natAbs=1):∀ (r:List Int) (p:Nat),Bd B r->(tG s r p).natAbs<=B*2^r.length
 | [],_,_=>by simp[tG]
 | x::r,0,h=>by
  have h1:x.natAbs<=B:=h x (by simp)
  have h2:1<=2^(r.length+1):=Nat.one_le_two_pow;simp only[tG,Ug];exact Vy h1 (by have:=Vew B h2;omega)
 | x::r,p+1,h=>by
  have h1:x.natAbs<=B:=h x (by simp)
  have ih:=Xxu hs r p fun y hy=>h y (by simp[hy])
  have hp:(s^(p+1)).natAbs=1:=by rw[Int.natAbs_pow,hs,Nat.one_pow]
  have e:(x*(s^(p+1)*(C r.length (p+1):Int))).natAbs<=B*2^r.length:=by
   rw[Int.natAbs_mul,Int.natAbs_mul,hp,Nat.one_mul,Ve4];exact Nat.mul_le_mul h1 (Xkl _ _)
  simp only[tG,Ug,Veo];have:=Vfg (x*(s^(p+1)*(C r.length (p+1):Int))) (tG s r p);have e2:B*(2^r.length*2)=B*2^r.length+B*2^r.length:=by rw[<- Vcl,Nat.mul_two]
  rw[e2];omega
theorem X6x(hs:s.natAbs=1)(h:Bd B r):Bd (B*2^r.length) (tT s r):=fun x hx=>by
 obtain⟨p,_,rfl⟩:=Vag.mp hx;exact Xxu hs r p h
theorem X0i(h:Bd B l)(hB:B<2^1000):Xh9 l:=fun x hx=>by
 by_cases h0:x.natAbs=0
 ·rw[h0];decide
 ·exact Vu ((Nat.log2_lt h0).mpr (Vbj (h x hx) hB)) (by decide)
noncomputable def vsq(v m:Int):Nat->Int
 | 0=>v
 | n+1=>vsq v m n/m
noncomputable def drawn(v far:Int)(n:Nat):List Int:=(Vc n).map fun i=>vsq v (2*far+1) i%(2*far+1)-far
section
variable{F:Fn}{G:List D}
theorem Xic(he:env.length=L)(x:Option D)(d:D):Xl (.var (L+1)) d (env++[none,x])=some (env++[none,some d]):=by
 simp only[Xl];rw[Vbz _ _ (by omega),he,Nat.add_sub_cancel_left]
 rfl
theorem Xbv{env X:En}{i:Nat}{d:D}(h:env[i]?=some (some d)):(env++X)[i]?=some (some d):=by
 rw[Vq (Ve.mp h).1];exact h
theorem Xid{env:En}{L:Nat}(he:env.length=L)(d:D):(env++[none,some d])[L+1]?=some (some d):=by
 rw[Vac (by omega),he,Nat.add_sub_cancel_left];rfl
theorem Xv4(hp:Xc S p=some [.int v]):S.set p (.lst [.int v])=S:=by
 obtain⟨hlt,hv⟩:=Ve.mp (Xbp hp);rw[<- hv];exact Vc2 hlt
theorem Xu(h:ev F G e env S=.ok d S'):exe F G (.asg (.var i) e) env S=.ok (.nx (env.set i (some d))) S':=by
 simp only[exe,h,Rk0,Xl]
theorem Xeo(a:List Int)(n:Nat)(S:Sto):Xaw (Xa a) (some (n:Int)) none S=.ok (Xa (a.drop n)) S:=by
 have c:cut (a.map D.int) (some (n:Int)) none=(a.map D.int).drop n:=by
  unfold cut Xfq;simp only;rw[if_pos (by omega)]
  simp only[Vay]
  by_cases h:n<=(a.map D.int).length
  ·rw[Nat.min_eq_left h,Vcv (by rw[Vc6];omega)]
  ·rw[Nat.min_eq_right (by omega),List.drop_of_length_le (by omega),List.drop_of_length_le (by omega)];simp
 unfold Xa;simp only[Xaw,c,List.map_drop]
theorem Xok(h:ev F G e env S=.ok d S):ev F G (.tup (.cons e .nil)) env S=.ok (.tup [d]) S:=by
 simp only[ev,evs,h,Rk0];exact if_pos (X9 (by simp))
theorem Xf6(x y:List D)(S:Sto)(h:x.length+y.length<=1000):Xs .add (.tup x) (.tup y) S=.ok (.tup (x++y)) S:=by
 simp only[Xs];exact if_pos (X9 h)
theorem Xsv{ir ia:Nat}{l:List Int}{a b:Nat}(hr:env[ir]?=some (some (Xa l)))(ha:env[ia]?=some (some (.int a)))(he:ev F G e env S=.ok od S)(hb:ev F G eb env S=.ok (.int b) S)(hl:l.length<=100) :
  ev F G (.bin .add (.bin .add (.sli (.var ir) .none (.some (.var ia))) (.tup (.cons e .nil))) (.sli (.var ir) (.some eb) .none)) env S=.ok (.tup ((l.take a).map D.int++[od]++(l.drop b).map D.int)) S:=by
 have h1:ev F G (.sli (.var ir) .none (.some (.var ia))) env S=.ok (Xa (l.take a)) S:=by
  simp only[ev,evo,hr,ha,Rk0,Xa6,Xcp]
 have h2:=Xok he;have h3:ev F G (.sli (.var ir) (.some eb) .none) env S=.ok (Xa (l.drop b)) S:=by
  simp only[ev,evo,hr,hb,Rk0,Xa6];exact Xeo l b S
 have h4:=Xf6 ((l.take a).map D.int) [od] S (by simp;omega)
 have h5:=Xf6 ((l.take a).map D.int++[od]) ((l.drop b).map D.int) S (by simp;omega)
 have h4':Xs .add (Xa (l.take a)) (.tup [od]) S=_:=h4;have h5':Xs .add (.tup ((l.take a).map D.int++[od])) (Xa (l.drop b)) S=_:=h5;rw[ev,ev,h1,Rk0,h2,Rk0,h4',Rk0,h3,Rk0,h5']
theorem d12:Yd 12=true:=by decide+kernel
theorem d2:Yd 2=true:=by decide+kernel
end
noncomputable def e30:Int:=10^(30:Int).toNat
theorem X4m(S:Sto):Xs .pow (.int 10) (.int 30) S=.ok (.int e30) S:=Xde (by decide+kernel) S
section
variable{F:Fn}{G:List D}
noncomputable def X4n(eb:Ex):Ex:=.bin .add (.bin .add (.sli (.var 1) .none (.some (.var 5))) (.tup (.cons (.var 2) .nil))) (.sli (.var 1) (.some eb) .none)
noncomputable def Xxv(io:Nat):Exs:=.cons (.var 3) (.cons (.var 3) (.cons (.var 3) (.cons (.blt .list (.cons (.var 1) .nil)) (.cons (.tup .nil) (.cons (.sli (.bin .mul (.var 1) (.cst (.int 13))) .none (.some (.cst (.int 13)))) (.cons (.tup (.cons (.var 1) .nil)) (.cons (.call io (.cons (.var 0) .nil)) (.cons (X4n (.var 5)) .nil))))))))
noncomputable def Xie(l:List Int)(a b:Nat)(od:D):D:=.tup ((l.take a).map D.int++[od]++(l.drop b).map D.int)
theorem Xol(h1:1<=l.length)(hl:l.length<=12):Xs .mul (Xa l) (.int 13) S=.ok (Xa (Vd 13 l).flatten) S:=by
 have:=X0e (x:=l.map D.int) (k:=13) (S:=S) (by decide) (X9 (by rw[Vr];show l.length*13<=1000;omega)) (by decide) (by cases l with|nil=>simp at h1|cons x r=>rfl)
 have e:(Vd (13:Int).toNat (l.map D.int)).flatten=((Vd 13 l).flatten).map D.int:=by
  rw[List.map_flatten,Ve5];rfl
 rw[e] at this;exact this
theorem Xmf(h0:env[0]?=some (some (.ref p)))(h1:env[1]?=some (some (Xa l)))(h2:env[2]?=some (some od))(h3:env[3]?=some (some bt))(h5:env[5]?=some (some (.int a)))(hl1:1<=l.length)(hl:l.length<=12)
  (ho:F io [.ref p] (S++[.lst (l.map D.int)])=.ok d8 S1) :
  evs F G (Xxv io) env S=.ok [bt,bt,bt,.ref S.length,.tup [],Xa ((Vd 13 l).flatten.take 13),.tup [Xa l],d8,Xie l a a od] S1:=by
 have e3:∀ S,ev F G (.var 3) env S=.ok bt S:=fun S=>by simp only[ev,h3]
 have e4:ev F G (.blt .list (.cons (.var 1) .nil)) env S=.ok (.ref S.length) (S++[.lst (l.map D.int)]):=by
  simp only[ev,evs,h1,Rk0,Xa,Xk,Xq]
 have e5:∀ S,ev F G (.tup .nil) env S=.ok (.tup []) S:=fun S=>by
  simp only[ev,evs,Rk0];exact if_pos (by decide)
 have e6:∀ S,ev F G (.sli (.bin .mul (.var 1) (.cst (.int 13))) .none (.some (.cst (.int 13)))) env S=.ok (Xa ((Vd 13 l).flatten.take 13)) S:=fun S=>by
  have hr:=Xol (S:=S) hl1 hl;have hs:=Xcp (Vd 13 l).flatten 13 S;simp only[ev,evo,h1,Rk0,hr,Xa6];exact hs
 have e7:∀ S,ev F G (.tup (.cons (.var 1) .nil)) env S=.ok (.tup [Xa l]) S:=fun S=>Xok (by simp only[ev,h1])
 have e8:ev F G (.call io (.cons (.var 0) .nil)) env (S++[.lst (l.map D.int)])=.ok d8 S1:=by simp only[ev,evs,h0,Rk0,ho]
 have e9:∀ S,ev F G (X4n (.var 5)) env S=.ok (Xie l a a od) S:=fun S=>Xsv (ir:=1) (ia:=5) (e:=.var 2) (eb:=.var 5) h1 h5 (by simp only[ev,h2]) (by simp only[ev,h5]) (by omega)
 unfold Xxv;rw[evs,e3,Rk0,evs,e3,Rk0,evs,e3,Rk0,evs,e4,Rk0,evs,e5,Rk0,evs,e6,Rk0,evs,e7,Rk0,evs,e8,Rk0,evs,e9,Rk0,evs];simp only[Rk0]
end
theorem Xmg:∀ (k n:Nat) (p:PyData),Ys S k n=some p->Ys S (k+1) n=some p
 | 0,n,p,e=>by cases e
 | k+1,n,p,e=>by
  rw[Ys] at e ⊢;cases q:S[n]? with
  | none=>rw[q] at e;cases e
  | some o =>
   rw[q] at e;cases o with
   | lst xs =>
    simp only[V8] at e ⊢;obtain⟨ps,e1,e2⟩:=e;exact⟨ps,datFs_mono (Xmg k) xs ps e1,e2⟩
   | dct kvs=>cases kvs<;>exact e
   | set _=>cases e
   | exc _=>cases e
theorem Sm.rep(h:Sm S 20 400000 d):∃ t,∀ Y,Xfs (S++Y) d=some t:=by
 obtain⟨p,q1,q2,q3,q4,q5⟩:=h;refine⟨p.shown,fun Y=>?_⟩
 have e:Y5 (S++Y) d=some p:=Xem (fun n q z=>Xmg 3 n q (Xen 3 n q z)) d p q1
 have c1:p.depth<=60:=by omega
 have c2:szD p<=big:=X4c (by omega)
 simp only[Xfs,e,q2,q3,decide_eq_true c1,decide_eq_true c2,Vck,if_true]
theorem X0j(t:Str)(S:Sto):Xj .ne (.str t) (.str t) S=.ok (.bl false) S:=by
 simp only[Xj,X0,eqD,Xch,beq_self_eq_true,Vs,Bool.not_true]
end Z
end
section
namespace Z
theorem Xgt:∀ {m n:Nat},m<=n->C m k<=C n k:=by
 have st:∀ n,C n k<=C (n+1) k:=fun n=>by
  cases k with
  | zero=>rw[Xar,Xar];exact Vh _
  | succ k=>simp only[C];omega
 intro m n h
 induction n with
 | zero =>
  have:m=0:=by omega
  subst this;exact Vh _
 | succ n ih =>
  by_cases e:m=n+1
  ·subst e;exact Vh _
  ·exact Vy (ih (by omega)) (st n)
theorem Xep:∀ k:Nat,C k k=1
 | 0=>rfl
 | k+1=>by simp only[C];rw[Xep k,Xc4 k (k+1) (by omega)]
theorem Xkn(n:Nat):C n 1=n:=by
 induction n with
 | zero=>rfl
 | succ n ih =>
  show C n 0+C n 1=n+1;rw[Xar,ih];omega
theorem Xif(k:Nat):∀ j:Nat,j+1<=C (k+1+j) (k+1)
 | 0=>by rw[Vem,Xep];exact Vh _
 | j+1=>by
  have ih:=Xif k j;have h1:1<=C (k+1+j) k:=by
   have:=Xgt (k:=k) (show k<=k+1+j by omega)
   rw[Xep] at this;exact this
  have e:k+1+(j+1)=(k+1+j)+1:=by omega
  rw[e];simp only[C];omega
def Most(n k m:Nat):Prop:=k<=m/\C m k<=n/\n<C (m+1) k
theorem Most.uniq(h:Most n k m)(h':Most n k m'):m=m':=by
 obtain⟨_,a1,a2⟩:=h;obtain⟨_,b1,b2⟩:=h'
 by_cases e:m<m'
 ·have:=Xgt (k:=k) (show m+1<=m' by omega);omega
 ·by_cases e':m'<m
  ·have:=Xgt (k:=k) (show m'+1<=m by omega);omega
  ·omega
def Wr:Nat->Nat->List Int->Prop
 | 0,n,l=>n=0/\l=[]
 | k+1,n,l=>(n=0/\l=[])\/∃ (m:Nat) (r:List Int),l=(m:Int)::r/\0<n/\Most n (k+1) m/\Wr k (n-C m (k+1)) r
theorem Wr.uniq:∀ {k n:Nat} {l l':List Int},Wr k n l->Wr k n l'->l=l'
 | 0,n,l,l',h,h'=>by rw[h.2,h'.2]
 | k+1,n,l,l',h,h'=>by
  rcases h with⟨h0,rfl⟩|⟨m,r,rfl,h0,h1,h2⟩
  ·rcases h' with⟨_,rfl⟩|⟨m',r',rfl,h0',_⟩
   ·rfl
   ·omega
  ·rcases h' with⟨h0',rfl⟩|⟨m',r',rfl,h0',h1',h2'⟩
   ·omega
   ·have e:=h1.uniq h1'
    subst e;rw[h2.uniq h2']
noncomputable def wok:Nat->Option Int->List Int->Bool
 | _,_,[]=>true
 | 0,_,_::_=>false
 | k+1,pv,x::r=>decide (((k+1:Nat):Int)<=x)&&(pv.all fun y=>decide (x<y))&&wok k (some x) r
noncomputable def Xv5:Nat->List Int->Int
 | _,[]=>0
 | 0,_::_=>0
 | k+1,x::r=>C x.toNat (k+1)+Xv5 k r
theorem Xxw:∀ {k n:Nat} {l:List Int} {pv:Option Int},Wr k n l->(∀ y,pv=some y->(n:Int)<C y.toNat k/\0<=y)->l.length<=k/\wok k pv l=true/\Xv5 k l=n
 | 0,n,l,pv,h,_=>by
  obtain⟨rfl,rfl⟩:=h;exact⟨Vh _,rfl,rfl⟩
 | k+1,n,l,pv,h,hp=>by
  rcases h with⟨rfl,rfl⟩|⟨m,r,rfl,h0,⟨m1,m2,m3⟩,h2⟩
  ·exact⟨Uo _,rfl,rfl⟩
  ·have hc:n<C m k+C m (k+1):=m3
   obtain⟨q1,q2,q3⟩:=Xxw (pv:=some (m:Int)) h2 fun y e=>by
    cases e;refine⟨?_,by omega⟩
    rw[Vay];omega
   refine⟨by simp;omega,?_,?_⟩
   ·simp only[wok,bA0,decide_eq_true_eq]
    refine⟨⟨by omega,?_⟩,q2⟩
    cases pv with
    | none=>rfl
    | some y =>
     obtain⟨p1,p2⟩:=hp y rfl;simp only[Option.all_some,decide_eq_true_eq]
     by_cases e:(m:Int)<y
     ·exact e
     ·have:=Xgt (k:=k+1) (show y.toNat<=m by omega)
      omega
   ·simp only[Xv5,Vay,q3]
    omega
theorem Xko:∀ {k n:Nat} {l:List Int},Wr k n l->∀ x∈l,0<=x/\x<=(n:Int)+k
 | 0,n,l,h,x,hx=>by rw[h.2] at hx;cases hx
 | k+1,n,l,h,x,hx=>by
  rcases h with⟨_,rfl⟩|⟨m,r,rfl,h0,⟨m1,m2,m3⟩,h2⟩
  ·cases hx
  ·have hm:m<=n+k:=by
    obtain⟨j,rfl⟩:∃ j,m=k+1+j:=⟨m-(k+1),by omega⟩
    have:=Xif k j;omega
   rcases Vl.mp hx with rfl|hx
   ·omega
   ·have:=Xko h2 x hx
    omega
theorem Xsw(h:Wr k n l):l.length<=k:=(Xxw (pv:=none) h fun y e=>by cases e).1
end Z
end
section
namespace Z
open PySem
section
variable{F:Fn}{G:List D}
theorem Xp2(n m i:Nat)(S:Sto)(hn:n<=100000000000000)(hi:i<12):exes F G Xb4 [some (.int n),some (.int m),some (.int (C n i)),some (.int i)] S=.ok (.nx [some (.int n),some (.int m),some (.int (C n (i+1))),some (.int i)]) S:=by
 have h:=Xl5 (F:=F) (G:=G) n m (C n i) i S (Xa4 (by omega) (by omega)) (Xxt (by omega))
 rw[Xxq] at h;exact h
theorem Xsx(n m:Nat)(S:Sto)(hn:n<=100000000000000)(hm:m<=12):den F G Xe6 [.int n,.int m] S=.ok (.int (C n m)) S:=by
 obtain⟨xs,hx,hl⟩:=Ye (m:=(m:Int)) (by omega) (Xf2 (by omega))
 obtain⟨e',S',h1,rfl,x,rfl⟩:=Xbg (F:=F) (G:=G) (t:=.var 3) (es:=.cons (.var 1) .nil) (b:=Xb4) (env:=[some (.int n),some (.int m),some (.int 1),none]) (S:=S) (S1:=S) (ds:=[.int m]) (xs:=xs)
  (fun i e S'=>S'=S/\∃ x,e=[some (.int n),some (.int m),some (.int (C n i)),x]) (by simp only[evs,ev,gZ0,gS0,Rk0]) hx ⟨rfl,none,by rw[Xar];rfl⟩ (fun i d e S' hd hP=>by
   obtain⟨rfl,x,rfl⟩:=hP;obtain⟨rfl,hi⟩:=Y0 hx hd;exact⟨_,_,S',rfl,Xp2 n m i S' hn (by omega),rfl,_,rfl⟩)
 have e:xs.length=m:=by omega
 rw[e] at h1;exact Xl6 n m (C n m) S' _ S' h1 rfl
noncomputable def Xgu:Ex:=.cmp .gt (.bin .sub (.var 3) (.var 2)) (.cst (.int 1))
noncomputable def Xfa(iw:Nat):Sts:=.cons (.asg (.var 4) (.bin .fdiv (.bin .add (.var 2) (.var 3)) (.cst (.int 2)))) (.cons (.ite (.cmp .le (.call iw (.cons (.var 4) (.cons (.var 1) .nil))) (.var 0)) (.cons (.asg (.var 2) (.var 4)) .nil) (.cons (.asg (.var 3) (.var 4)) .nil)) .nil)
noncomputable def Xkp(iw:Nat):Df:=⟨2,5,.cons (.asg (.var 2) (.var 1)) (.cons (.asg (.var 3) (.bin .add (.var 1) (.var 0))) (.cons (.whl Xgu (Xfa iw)) (.cons (.ret (.var 2)) .nil)))⟩
def Yg(F:Fn)(iw:Nat):Prop:=∀ (n m:Nat) (S:Sto),n<=10000000000000->m<=12->F iw [.int n,.int m] S=.ok (.int (C n m)) S
theorem Xf7(h:T[iw]?=some Xe6)(k:Nat):Yg (FT T G (k+1)) iw:=fun n m S hn hm=>by
 simp only[FT,h];exact Xsx n m S (by omega) hm
noncomputable def Xig(F:Fn)(G:List D):En->Sto->R Bool:=fun env S=>(ev F G Xgu env S).bind fun x S=>match Xg S x with
 | some r=>.ok r S
 | none=>.bad
theorem Xmh:Xig F G [some (.int n),some (.int k),some (.int lo),some (.int hi),x] S=.ok (decide (1<hi-lo)) S:=by
 unfold Xig;simp only[Xgu,ev,gZ0,gS0,Rk0,Xr,Xj,X0,Xg]
theorem Xsy{iw:Nat}(hw:Yg F iw){n k lo hi:Nat}{x:Option D}(hk:k<=12)(h:(lo+hi)/2<=10000000000000) :
  exes F G (Xfa iw) [some (.int n),some (.int k),some (.int lo),some (.int hi),x] S=.ok (.nx (if C ((lo+hi)/2) k<=n then [some (.int n),some (.int k),some (.int ((lo+hi)/2:Nat)),some (.int hi),some (.int ((lo+hi)/2:Nat))] else [some (.int n),some (.int k),some (.int lo),some (.int ((lo+hi)/2:Nat)),some (.int ((lo+hi)/2:Nat))])) S:=by
 have e:((lo:Int)+hi)/2=((lo+hi)/2:Nat):=by omega
 have s1:=Xu (i:=4) (F:=F) (G:=G) (e:=.bin .fdiv (.bin .add (.var 2) (.var 3)) (.cst (.int 2))) (env:=[some (.int n),some (.int k),some (.int lo),some (.int hi),x]) (S:=S) (d:=.int ((lo+hi)/2:Nat)) (S':=S) (by
  simp only[ev,gZ0,gS0,Rk0,Xo,Xaq d2,e])
 generalize (lo+hi)/2=m at s1 h;have hc:=hw m k S h hk;have ht:ev F G (.cmp .le (.call iw (.cons (.var 4) (.cons (.var 1) .nil))) (.var 0)) [some (.int n),some (.int k),some (.int lo),some (.int hi),some (.int m)] S=.ok (.bl (decide ((C m k:Int)<=n))) S:=by
  simp only[ev,evs,gZ0,gS0,Rk0,hc,Xj,X0]
 unfold Xfa;rw[Xb s1]
 by_cases q:C m k<=n
 ·have hd:decide ((C m k:Int)<=n)=true:=decide_eq_true (by omega)
  rw[hd] at ht;rw[if_pos q];rw[Xb (e:=[some (.int n),some (.int k),some (.int m),some (.int hi),some (.int m)]) (S1:=S) (by
   show exe F G _ [some (.int n),some (.int k),some (.int lo),some (.int hi),some (.int m)] S=_;rw[exe,ht,Rk0];simp only[Xg,exes,exe,ev,gZ0,gS0,Rk0,Xl,Vak])]
  rw[exes]
 ·have hd:decide ((C m k:Int)<=n)=false:=decide_eq_false (by omega)
  rw[hd] at ht;rw[if_neg q];rw[Xb (e:=[some (.int n),some (.int k),some (.int lo),some (.int m),some (.int m)]) (S1:=S) (by
   show exe F G _ [some (.int n),some (.int k),some (.int lo),some (.int hi),some (.int m)] S=_;rw[exe,ht,Rk0];simp only[Xg,exes,exe,ev,gZ0,gS0,Rk0,Xl,Vak])]
  rw[exes]
theorem Xeq{iw:Nat}(hw:Yg F iw){n k:Nat}(hk:k<=12):∀ (j fuel lo hi:Nat) (x:Option D),hi-lo<=2^j->j<fuel->lo<hi->k<=lo->hi<=5000000000000->C lo k<=n->n<C hi k ->
  ∃ m h x',Y6 (Xig F G) (fun env S=>exes F G (Xfa iw) env S) fuel [some (.int n),some (.int k),some (.int lo),some (.int hi),x] S=.ok (.nx [some (.int n),some (.int k),some (.int (m:Nat)),h,x']) S/\Most n k m
 | j,0,lo,hi,x,h1,h2,h3,h4,h5,h6,h7=>by omega
 | j,fuel+1,lo,hi,x,h1,h2,h3,h4,h5,h6,h7=>by
  by_cases q:hi=lo+1
  ·subst q
   have ht:=Xmh (F:=F) (G:=G) (n:=n) (k:=k) (lo:=lo) (hi:=(lo+1:Nat)) (x:=x) (S:=S);have hd:decide ((1:Int)<((lo+1:Nat):Int)-lo)=false:=decide_eq_false (by omega)
   rw[hd] at ht;refine⟨lo,some (.int (lo+1:Nat)),x,?_,h4,h6,h7⟩;simp only[Y6,ht]
  ·have ht:=Xmh (F:=F) (G:=G) (n:=n) (k:=k) (lo:=lo) (hi:=hi) (x:=x) (S:=S)
   have hd:decide ((1:Int)<(hi:Int)-lo)=true:=decide_eq_true (by omega)
   rw[hd] at ht;have hb:=Xsy (G:=G) hw (n:=n) (k:=k) (lo:=lo) (hi:=hi) (x:=x) (S:=S) hk (by omega)
   obtain⟨j,rfl⟩:∃ i,j=i+1:=by
    cases j with
    | zero=>simp at h1;omega
    | succ j=>exact⟨j,rfl⟩
   rw[Veo] at h1
   by_cases c:C ((lo+hi)/2) k<=n
   ·rw[if_pos c] at hb
    obtain⟨m,h,x',r1,r2⟩:=Xeq hw hk j fuel ((lo+hi)/2) hi (some (.int ((lo+hi)/2:Nat))) (by omega) (by omega) (by omega) (by omega) h5 c h7
    exact⟨m,h,x',by simp only[Y6,ht,hb];exact r1,r2⟩
   ·rw[if_neg c] at hb
    obtain⟨m,h,x',r1,r2⟩:=Xeq hw hk j fuel lo ((lo+hi)/2) (some (.int ((lo+hi)/2:Nat))) (by omega) (by omega) (by omega) h4 (by omega) h6 (by omega)
    exact⟨m,h,x',by simp only[Y6,ht,hb];exact r1,r2⟩
theorem Xv6{iw:Nat}(hw:Yg F iw){n k:Nat}(hk1:1<=k)(hk:k<=12)(hn1:1<=n)(hn:n<=1000000000000):∃ m,den F G (Xkp iw) [.int n,.int k] S=.ok (.int (m:Nat)) S/\Most n k m:=by
 have hlt:n<C (k+n) k:=by
  obtain⟨k',rfl⟩:∃ k',k=k'+1:=⟨k-1,by omega⟩
  have:=Xif k' n;omega
 obtain⟨m,h,x',r1,r2⟩:=Xeq (G:=G) hw (n:=n) (k:=k) (S:=S) hk 41 100000 k (k+n) none (by have h41:(2:Nat)^41=2199023255552:=(by decide);omega) (by omega) (by omega) (Vh _) (by omega) (by rw[Xep];exact hn1) hlt
 refine⟨m,?_,r2⟩;have s1:=Xu (i:=2) (F:=F) (G:=G) (e:=.var 1) (env:=[some (.int n),some (.int k),none,none,none]) (S:=S) (d:=.int k) (S':=S) (by simp only[ev,gZ0,gS0])
 have s2:=Xu (i:=3) (F:=F) (G:=G) (e:=.bin .add (.var 1) (.var 0)) (env:=[some (.int n),some (.int k),some (.int k),none,none]) (S:=S) (d:=.int ((k+n:Nat):Int)) (S':=S) (by
  simp only[ev,gZ0,gS0,Rk0,Xo];rw[Int.natCast_add])
 have s3:exe F G (.whl Xgu (Xfa iw)) [some (.int n),some (.int k),some (.int k),some (.int ((k+n:Nat):Int)),none] S=.ok (.nx [some (.int n),some (.int k),some (.int m),h,x']) S:=by
  rw[exe];exact r1
 have s4:exe F G (.ret (.var 2)) [some (.int n),some (.int k),some (.int m),h,x'] S=.ok (.rt (.int m)) S:=by
  simp only[exe,ev,gZ0,gS0,Rk0]
 simp only[den,Xkp,V0,if_true,V2,Vd];have q:exes F G (.cons (.asg (.var 2) (.var 1)) (.cons (.asg (.var 3) (.bin .add (.var 1) (.var 0))) (.cons (.whl Xgu (Xfa iw)) (.cons (.ret (.var 2)) .nil)))) ([some (.int n),some (.int k)]++[none,none,none]) S=.ok (.rt (.int m)) S :=
  (Xb s1).trans ((Xb s2).trans ((Xb s3).trans (Xf s4)))
 rw[q]
noncomputable def Xbz(im iw:Nat):Sts:=.cons (.ite (.cmp .eq (.var 3) (.cst (.int 0))) (.cons .brk .nil) .nil) (.cons (.asg (.var 5) (.call im (.cons (.var 3) (.cons (.var 4) .nil)))) (.cons (.expr (.mth .append (.var 2) (.cons (.var 5) .nil))) (.cons (.aug 3 .sub (.call iw (.cons (.var 5) (.cons (.var 4) .nil)))) .nil)))
noncomputable def Xkq(ic im iw:Nat):Df:=⟨2,6,.cons (.expr (.call ic (.cons (.var 0) (.cons (.var 1) .nil)))) (.cons (.asg (.var 2) (.lst .nil)) (.cons (.asg (.var 3) (.var 0)) (.cons (.for (.var 4) (.rng (.cons (.var 1) (.cons (.cst (.int 0)) (.cons (.neg (.cst (.int 1))) .nil)))) (Xbz im iw)) (.cons (.ret (.blt .tuple (.cons (.var 2) .nil))) .nil))))⟩
def Xkr(F:Fn)(im:Nat):Prop:=∀ (n k:Nat) (S:Sto),1<=k->k<=12->1<=n->n<=1000000000000->∃ m,F im [.int n,.int k] S=.ok (.int (m:Nat)) S/\Most n k m
theorem Xv7{T:List Df}{im iw:Nat}(h:T[im]?=some (Xkp iw)){k:Nat}(hw:Yg (FT T G k) iw):Xkr (FT T G (k+1)) im:=fun n k' S h1 h2 h3 h4=>by
 obtain⟨m,r1,r2⟩:=Xv6 (G:=G) hw (S:=S) h1 h2 h3 h4;exact⟨m,by simp only[FT,h];exact r1,r2⟩
theorem Xsz:exes F G (Xbz im iw) [some (.int n),some (.int s),some (.ref q),some (.int 0),some (.int k),x5] S=.ok (.brk [some (.int n),some (.int s),some (.ref q),some (.int 0),some (.int k),x5]) S:=by
 have h:exe F G (.ite (.cmp .eq (.var 3) (.cst (.int 0))) (.cons .brk .nil) .nil) [some (.int n),some (.int s),some (.ref q),some (.int 0),some (.int k),x5] S=.ok (.brk [some (.int n),some (.int s),some (.ref q),some (.int 0),some (.int k),x5]) S:=by
  rw[exe];simp only[ev,gZ0,gS0,Rk0,Xbo,beq_self_eq_true,Xg,exes,exe]
 unfold Xbz;simp only[exes,h]
theorem Xv8(hw:Yg F iw)(hm:Xkr F im)(hk1:1<=k)(hk:k<=12)(hr1:1<=r)(hr:r<=1000000000000)(hq:Xc S q=some acc)(hl:acc.length<100) :
  ∃ m,Most r k m/\exes F G (Xbz im iw) [some (.int n),some (.int s),some (.ref q),some (.int r),some (.int k),x5] S=.ok (.nx [some (.int n),some (.int s),some (.ref q),some (.int ((r-C m k:Nat):Int)),some (.int k),some (.int m)]) (S.set q (.lst (acc++[.int m]))):=by
 obtain⟨m,h1,h2⟩:=hm r k S hk1 hk hr1 hr;refine⟨m,h2,?_⟩;have hm2:m<=10000000000000:=by
  obtain⟨a1,a2,a3⟩:=h2;obtain⟨k',rfl⟩:∃ k',k=k'+1:=⟨k-1,by omega⟩
  obtain⟨j,rfl⟩:∃ j,m=k'+1+j:=⟨m-(k'+1),by omega⟩
  have:=Xif k' j;omega
 have hb:((r:Int)==0)=false:=by simp;omega
 have s0:exe F G (.ite (.cmp .eq (.var 3) (.cst (.int 0))) (.cons .brk .nil) .nil) [some (.int n),some (.int s),some (.ref q),some (.int r),some (.int k),x5] S=.ok (.nx [some (.int n),some (.int s),some (.ref q),some (.int r),some (.int k),x5]) S:=by
  rw[exe];simp only[ev,gZ0,gS0,Rk0,Xbo,hb,Xg,exes]
 have s1:=Xu (i:=5) (F:=F) (G:=G) (e:=.call im (.cons (.var 3) (.cons (.var 4) .nil))) (env:=[some (.int n),some (.int s),some (.ref q),some (.int r),some (.int k),x5]) (S:=S) (d:=.int m) (S':=S) (by simp only[ev,evs,gZ0,gS0,Rk0,h1])
 have hap:=Xe8 (x:=.int m) hq (by omega)
 have hrc:Xac .append (.ref q) S=true:=by simp only[Xac,hq,Vbh]
 have s2:exe F G (.expr (.mth .append (.var 2) (.cons (.var 5) .nil))) [some (.int n),some (.int s),some (.ref q),some (.int r),some (.int k),some (.int m)] S=.ok (.nx [some (.int n),some (.int s),some (.ref q),some (.int r),some (.int k),some (.int m)]) (S.set q (.lst (acc++[.int m]))):=by
  simp only[exe,ev,evs,gZ0,gS0,Rk0,hrc,if_true,hap]
 have hwy:=hw m k (S.set q (.lst (acc++[.int m]))) hm2 hk;have s3:exe F G (.aug 3 .sub (.call iw (.cons (.var 5) (.cons (.var 4) .nil)))) [some (.int n),some (.int s),some (.ref q),some (.int r),some (.int k),some (.int m)] (S.set q (.lst (acc++[.int m])))=.ok (.nx [some (.int n),some (.int s),some (.ref q),some (.int ((r-C m k:Nat):Int)),some (.int k),some (.int m)]) (S.set q (.lst (acc++[.int m]))):=by
  have e:(r:Int)-(C m k:Int)=((r-C m k:Nat):Int):=by have:=h2.2.1;omega
  simp only[exe,ev,evs,gZ0,gS0,Rk0,hwy,Xfp,e,Vak]
 unfold Xbz;exact(Xb s0).trans ((Xb s1).trans ((Xb s2).trans ((Xb s3).trans (by simp only[exes]))))
theorem Xjx(hw:Yg F iw)(hm:Xkr F im)(hx:xs=(Vc s).map fun(j:Nat)=>D.int ((s:Int)-j))(hs:s<=12):∀ (k fuel i r:Nat) (x4 x5:Option D) (S:Sto) (acc:List D),i+k=s->k<fuel->r<=1000000000000->Xc S q=some acc->acc.length<=50+i->(k=0->r=0) ->
  ∃ w e,Xv (Src.con xs).get (.var 4) (fun env S=>exes F G (Xbz im iw) env S) fuel i [some (.int n),some (.int s),some (.ref q),some (.int r),x4,x5] S=.ok (.nx e) (S.set q (.lst (acc++w.map D.int)))/\Wr k r w/\e[2]?=some (some (.ref q))
 | k,0,i,r,x4,x5,S,acc,h1,h2,h3,h4,h5,h6=>by omega
 | 0,fuel+1,i,r,x4,x5,S,acc,h1,h2,h3,h4,h5,h6=>by
  have hi:xs[i]?=none:=by rw[hx];simp;omega
  refine⟨[],[some (.int n),some (.int s),some (.ref q),some (.int r),x4,x5],?_,⟨h6 rfl,rfl⟩,rfl⟩;have e:S.set q (.lst (acc++([]:List Int).map D.int))=S:=by
   obtain⟨hlt,hv⟩:=Ve.mp (Xbp h4);rw[List.map_nil,Vp,<- hv];exact Vc2 hlt
  rw[e];simp only[Xv,Src.get,hi]
 | k+1,fuel+1,i,r,x4,x5,S,acc,h1,h2,h3,h4,h5,h6=>by
  have hi:xs[i]?=some (.int ((k+1:Nat):Int)):=by
   rw[hx,V1,Uu (by omega),Vs]
   congr 2;omega
  by_cases hr:r=0
  ·subst hr
   refine⟨[],[some (.int n),some (.int s),some (.ref q),some (.int 0),some (.int ((k+1:Nat):Int)),x5],?_,.inl ⟨rfl,rfl⟩,rfl⟩;have e:S.set q (.lst (acc++([]:List Int).map D.int))=S:=by
    obtain⟨hlt,hv⟩:=Ve.mp (Xbp h4);rw[List.map_nil,Vp,<- hv];exact Vc2 hlt
   rw[e];have hz:=Xsz (F:=F) (G:=G) (im:=im) (iw:=iw) (n:=n) (s:=s) (k:=((k+1:Nat):Int)) (q:=q) (x5:=x5) (S:=S);simp only[Xv,Src.get,hi,Xl,Vak];have hz':exes F G (Xbz im iw) [some (.int n),some (.int s),some (.ref q),some (.int ((0:Nat):Int)),some (.int ((k+1:Nat):Int)),x5] S=_:=hz;rw[hz']
  ·obtain⟨m,m1,m2⟩:=Xv8 (G:=G) hw hm (n:=n) (s:=s) (r:=r) (k:=k+1) (q:=q) (x5:=x5) (S:=S) (acc:=acc) (by omega) (by omega) (by omega) h3 h4 (by omega)
   have hrest:k=0->r-C m (k+1)=0:=fun z=>by
    subst z;obtain⟨a1,a2,a3⟩:=m1;rw[Vcg,Xkn] at a2 ⊢;rw[Vcg,Xkn] at a3;omega
   obtain⟨w,e,r1,r2,r3⟩:=Xjx hw hm hx hs k fuel (i+1) (r-C m (k+1)) (some (.int ((k+1:Nat):Int))) (some (.int m)) (S.set q (.lst (acc++[.int m]))) (acc++[.int m]) (by omega) (by omega) (by omega) (Yx (Yv h4)) (by simp;omega) hrest
   refine⟨(m:Int)::w,e,?_,.inr ⟨m,w,rfl,by omega,m1,r2⟩,r3⟩
   rw[List.set_set,Vo] at r1;simp only[Xv,Src.get,hi,Xl,Vak];rw[m2];exact r1
theorem Xv9{s:Nat}(hs:s<=12):Yy [.int s,.int 0,.int (-1)]=some ((Vc s).map fun(j:Nat)=>D.int ((s:Int)-j)):=by
 have h:∀ j:Fin 13,(-(1048576:Int)<(j.val:Int)/\(j.val:Int)<1048576):=by decide
 obtain⟨h1,h2⟩:=h ⟨s,by omega⟩
 unfold Yy;dsimp only;rw[if_pos ⟨rfl,h1,h2,by decide,by decide⟩,show((s:Int)-0).toNat=s by omega]
theorem Xwa(hc:F ic [n,s] S=.ok .non S)(hr:Yy [s,.int 0,.int (-1)]=some xs)
  (r1:Xv (Src.con xs).get (.var 4) (fun env S=>exes F G (Xbz im iw) env S) (xs.length+1) 0 [some n,some s,some (.ref S.length),some n,none,none] (S++[.lst []])=.ok (.nx e) (S++[.lst (w.map D.int)])) (r3:e[2]?=some (some (.ref S.length))) :
  den F G (Xkq ic im iw) [n,s] S=.ok (Xa w) (S++[.lst (w.map D.int)]):=by
 have s0:exe F G (.expr (.call ic (.cons (.var 0) (.cons (.var 1) .nil)))) [some n,some s,none,none,none,none] S=.ok (.nx [some n,some s,none,none,none,none]) S:=by
  simp only[exe,ev,evs,gZ0,gS0,Rk0,hc]
 have s1:=Xu (i:=2) (F:=F) (G:=G) (e:=.lst .nil) (env:=[some n,some s,none,none,none,none]) (S:=S) (d:=.ref S.length) (S':=S++[.lst []]) (by
  simp only[ev,evs,Rk0];exact if_pos (by decide))
 have s2:=Xu (i:=3) (F:=F) (G:=G) (e:=.var 0) (env:=[some n,some s,some (.ref S.length),none,none,none]) (S:=S++[.lst []]) (d:=n) (S':=S++[.lst []]) (by simp only[ev,gZ0])
 have s3:exe F G (.for (.var 4) (.rng (.cons (.var 1) (.cons (.cst (.int 0)) (.cons (.neg (.cst (.int 1))) .nil)))) (Xbz im iw)) [some n,some s,some (.ref S.length),some n,none,none] (S++[.lst []])=.ok (.nx e) (S++[.lst (w.map D.int)]):=by
  simp only[exe,evit,evs,ev,gZ0,gS0,Rk0,hr,Src.most];exact r1
 have s4:exe F G (.ret (.blt .tuple (.cons (.var 2) .nil))) e (S++[.lst (w.map D.int)])=.ok (.rt (Xa w)) (S++[.lst (w.map D.int)]):=by
  simp only[exe,ev,evs,r3,Rk0,Xk,Xq,Xe,Xa]
 simp only[den,Xkq,V0,if_true,V2,Vd];have q:exes F G (.cons (.expr (.call ic (.cons (.var 0) (.cons (.var 1) .nil)))) (.cons (.asg (.var 2) (.lst .nil)) (.cons (.asg (.var 3) (.var 0)) (.cons (.for (.var 4) (.rng (.cons (.var 1) (.cons (.cst (.int 0)) (.cons (.neg (.cst (.int 1))) .nil)))) (Xbz im iw)) (.cons (.ret (.blt .tuple (.cons (.var 2) .nil))) .nil))))) ([some n,some s]++[none,none,none,none]) S=.ok (.rt (Xa w)) (S++[.lst (w.map D.int)]) :=
  (Xb s0).trans ((Xb s1).trans ((Xb s2).trans ((Xb s3).trans (Xf s4))))
 rw[q]
theorem Xwb{ic im iw n s:Nat}(hw:Yg F iw)(hm:Xkr F im)(hc:F ic [.int n,.int s] S=.ok .non S)(hs1:1<=s)(hs:s<=12)(hn:n<=1000000000000):∃ w,den F G (Xkq ic im iw) [.int n,.int s] S=.ok (Xa w) (S++[.lst (w.map D.int)])/\Wr s n w:=by
 obtain⟨w,e,r1,r2,r3⟩:=Xjx (G:=G) hw hm (n:=n) (s:=s) (q:=S.length) rfl hs s (s+1) 0 n none none (S++[.lst []]) [] (Vcg s) (Vbb s) hn Xe (Uo _) (fun z=>absurd z (by omega))
 have e2:(S++[O.lst []]).set S.length (.lst ([]++w.map D.int))=S++[.lst (w.map D.int)]:=by
  rw[Vbz _ _ (Vh _),Ue,Uj];rfl
 rw[e2] at r1;refine⟨w,Xwa hc (Xv9 hs) ?_ r3,r2⟩;rw[Vr,U3];exact r1
end
theorem Xs0(n i:Nat)(h:i<=n):((C n i*fac i:Nat):Int)*((n:Int)-i)=((C n (i+1)*fac (i+1):Nat):Int):=by
 have e:(n:Int)-i=((n-i:Nat):Int):=by omega
 rw[e,<- Vco];congr 1;have:=Xdc n i;simp only[fac]
 calc C n i*fac i*(n-i)=C n i*(n-i)*fac i:=by rw[Vcl,Vcx (fac i),<- Vcl]
  _=C n (i+1)*(i+1)*fac i:=by rw[this]
  _=C n (i+1)*(fac i*(i+1)):=by rw[Vcl,Vcx (i+1)]
theorem Xih(n:Nat):∀ i,C n i*fac i<=n^i
 | 0=>by rw[Xar];simp[fac]
 | i+1=>by
  by_cases h:i<=n
  ·have:=Xdc n i
   have ih:=Xih n i;have e:C n (i+1)*fac (i+1)=C n i*fac i*(n-i):=by
    simp only[fac]
    calc C n (i+1)*(fac i*(i+1))=C n (i+1)*(i+1)*fac i:=by rw[Vcl,Vcx (i+1)]
     _=C n i*(n-i)*fac i:=by rw[this]
     _=C n i*fac i*(n-i):=by rw[Vcl,Vcx (n-i),<- Vcl]
   rw[e,Veo];exact Nat.mul_le_mul ih (Nat.sub_le _ _)
  ·rw[Xc4 n (i+1) (by omega),Nat.zero_mul]
   exact Uo _
theorem Xgv(h:n<2^k)(hk:0<k):n.log2<k:=by
 by_cases h0:n=0
 ·subst h0;exact hk
 ·exact(Nat.log2_lt h0).mpr h
theorem Xwc(hn:n<2^300)(hi:i<=12):((C n i*fac i:Nat):Int).natAbs.log2<100000:=by
 rw[Ve4];refine Xgv (Vbj (Xih n i) ?_) (by decide)
 refine Vbj (Nat.pow_le_pow_left (Vcw hn) i) ?_;rw[<- Nat.pow_mul];exact Nat.pow_lt_pow_right (by decide) (by omega)
section
variable{F:Fn}{G:List D}
noncomputable def lwB:Sts:=.cons (.asg (.var 3) (.bin .mul (.var 3) (.bin .sub (.var 0) (.var 2)))) (.cons (.asg (.var 4) (.bin .mul (.var 4) (.bin .add (.var 2) (.cst (.int 1))))) .nil)
noncomputable def Xcq:Df:=⟨2,5,.cons (.ite (.cmp .gt (.var 1) (.var 0)) (.cons (.ret (.cst (.int 0))) .nil) .nil) (.cons (.asg (.tup [3,4]) (.tup (.cons (.cst (.int 1)) (.cons (.cst (.int 1)) .nil)))) (.cons (.for (.var 2) (.rng (.cons (.var 1) .nil)) lwB) (.cons (.ret (.bin .fdiv (.var 3) (.var 4))) .nil)))⟩
theorem X4o(h1:Yc t (n-i)=true)(h2:Yc b (i+1)=true):exes F G lwB [some (.int n),some (.int m),some (.int i),some (.int t),some (.int b)] S=.ok (.nx [some (.int n),some (.int m),some (.int i),some (.int (t*(n-i))),some (.int (b*(i+1)))]) S:=by
 have s1:=Xu (i:=3) (F:=F) (G:=G) (e:=.bin .mul (.var 3) (.bin .sub (.var 0) (.var 2))) (env:=[some (.int n),some (.int m),some (.int i),some (.int t),some (.int b)]) (S:=S) (d:=.int (t*(n-i))) (S':=S) (by
  simp only[ev,gZ0,gS0,Rk0,Xr,Y7 h1])
 have s2:=Xu (i:=4) (F:=F) (G:=G) (e:=.bin .mul (.var 4) (.bin .add (.var 2) (.cst (.int 1)))) (env:=[some (.int n),some (.int m),some (.int i),some (.int (t*(n-i))),some (.int b)]) (S:=S) (d:=.int (b*(i+1))) (S':=S) (by
  simp only[ev,gZ0,gS0,Rk0,Xo,Y7 h2])
 unfold lwB;exact(Xb s1).trans ((Xb s2).trans (by simp only[exes,Vak]))
theorem X4p(h0:decide (n<m)=false)(h1:exe F G (.for (.var 2) (.rng (.cons (.var 1) .nil)) lwB) [some (.int n),some (.int m),none,some (.int 1),some (.int 1)] S=.ok (.nx e') S)(h3:e'[3]?=some (some (.int t)))(h4:e'[4]?=some (some (.int b)))(hd:Yd b=true)(hr:t/b=r):den F G Xcq [.int n,.int m] S=.ok (.int r) S:=by
 simp only[den,Xcq,V0,if_true,V2,Vd,Ur,Uj];rw[Xb (e:=[some (.int n),some (.int m),none,none,none]) (S1:=S) (X8 (by
  simp only[ev,Ur,Uj,gZ0,gS0,Rk0,Xj,X0,h0]))]
 rw[Xb (e:=[some (.int n),some (.int m),none,some (.int 1),some (.int 1)]) (S1:=S) (by
  simp only[exe,ev,evs,Rk0];rfl)]
 rw[Xb h1];rw[Xf (d:=.int r) (S1:=S) (by simp only[exe,ev,h3,h4,Rk0,Xaq hd,hr])]
theorem X0k(h0:decide (n<m)=true):den F G Xcq [.int n,.int m] S=.ok (.int 0) S:=by
 simp only[den,Xcq,V0,if_true,V2,Vd,Ur,Uj];rw[Xf (d:=.int 0) (S1:=S) (Xoj (by
  simp only[ev,Ur,Uj,gZ0,gS0,Rk0,Xj,X0,h0]))]
theorem X0l(h:i<=12):Yd (fac i:Int)=true:=by
 have:∀ j:Fin 13,Yd (fac j.val:Int)=true:=by decide+kernel
 exact this ⟨i,by omega⟩
theorem X0m(h:i<12):Yc (fac i:Int) ((i:Int)+1)=true:=Xa4 (by omega) (by omega)
theorem X0n{n i:Nat}(hn:n<2^300)(hi:i<=n):((n:Int)-i).natAbs.log2<100000:=by
 have e:((n:Int)-i).natAbs=n-i:=by omega
 rw[e];exact Xgv (Vbj (Nat.sub_le n i) (Vu hn (Vc7 (by decide) (by decide)))) (by decide)
theorem X0o{n m i:Nat}(hn:n<2^300)(hi:i<12)(hin:i<=n):exes F G lwB [some (.int n),some (.int m),some (.int i),some (.int ((C n i*fac i:Nat):Int)),some (.int (fac i))] S=.ok (.nx [some (.int n),some (.int m),some (.int i),some (.int ((C n (i+1)*fac (i+1):Nat):Int)),some (.int (fac (i+1)))]) S:=by
 have h:=X4o (F:=F) (G:=G) (n:=n) (m:=m) (t:=((C n i*fac i:Nat):Int)) (b:=(fac i:Int)) (i:=i) (S:=S) (Xz2 (Xwc hn (Vcw hi)) (X0n hn hin)) (X0m hi);rw[Xs0 n i hin] at h;have e:(fac i:Int)*((i:Int)+1)=(fac (i+1):Int):=by simp only[fac];rw[Vco];rfl
 rw[e] at h;exact h
theorem Xs1{n m:Nat}(hn:n<2^300)(hm:m<=12):den F G Xcq [.int n,.int m] S=.ok (.int (C n m)) S:=by
 by_cases h:n<m
 ·rw[Xc4 n m h]
  exact X0k (decide_eq_true (by omega))
 ·obtain⟨xs,hx,hl⟩:=Ye (m:=(m:Int)) (by omega) (Xf2 (by omega))
  have hl':xs.length=m:=by omega
  obtain⟨e',S',h1,rfl,x,rfl⟩:=Xbg (F:=F) (G:=G) (t:=.var 2) (es:=.cons (.var 1) .nil) (b:=lwB) (env:=[some (.int n),some (.int m),none,some (.int 1),some (.int 1)]) (S:=S) (S1:=S) (ds:=[.int m]) (xs:=xs)
   (fun i e S'=>S'=S/\∃ x,e=[some (.int n),some (.int m),x,some (.int ((C n i*fac i:Nat):Int)),some (.int (fac i))]) (by simp only[evs,ev,gZ0,gS0,Rk0]) hx ⟨rfl,none,by rw[Xar];rfl⟩ (fun i d e S' hd hP=>by
    obtain⟨rfl,x,rfl⟩:=hP;obtain⟨rfl,hi⟩:=Y0 hx hd;exact⟨_,_,S',rfl,X0o hn (by omega) (by omega),rfl,_,rfl⟩)
  rw[hl'] at h1;refine X4p (decide_eq_false (by omega)) h1 rfl rfl (X0l hm) ?_
  rw[Vco,Int.mul_ediv_cancel _ (by have:=Xoc m;omega)]
def LWaysF(F:Fn)(il:Nat):Prop:=∀ (n m:Nat) (S:Sto),n<2^300->m<=12->F il [.int n,.int m] S=.ok (.int (C n m)) S
theorem Xcy{T:List Df}{il:Nat}(h:T[il]?=some Xcq)(k:Nat):LWaysF (FT T G (k+1)) il:=fun n m S hn hm=>by
 simp only[FT,h];exact Xs1 hn hm
theorem Xs2{l:List Int}{i:Nat}:(Src.enm (.con (l.map D.int))).get S i=some ((l[i]?).map fun x=>D.tup [.int i,.int x]):=by
 simp only[Src.get,V1];cases l[i]?<;>rfl
theorem Xs3(h:wt d=true):∃ l,d=Xa l:=by
 cases d with
 | tup xs=>obtain⟨l,rfl⟩:=Xia h;exact⟨l,rfl⟩
 | _=>cases h
noncomputable def Xp3(i1:Nat)(a b:Str):Df:=⟨2,2,.cons (.ite (.not (.call i1 (.cons (.var 0) (.cons (.cst (.int 0)) (.cons (.glb 0) .nil))))) (.cons (.rse 8 (.cst (.str a))) .nil) .nil) (.cons (.ite (.not (.call i1 (.cons (.var 1) (.cons (.cst (.int 1)) (.cons (.glb 1) .nil))))) (.cons (.rse 8 (.cst (.str b))) .nil) .nil) .nil)⟩
variable{i1:Nat}{d e:D}{x y:Str}{g1 g2:Int}{S:Sto}
theorem X0p(h0:G[0]?=some (.int g1))(h1:G[1]?=some (.int g2))(h:F i1 [d,.int 0,.int g1] S=.ok (.bl true) S)(h':F i1 [e,.int 1,.int g2] S=.ok (.bl true) S):den F G (Xp3 i1 x y) [d,e] S=.ok .non S:=by
 simp only[den,Xp3,V0,if_true,V2,Vd,Ue,Vp];rw[Xb (e:=[some d,some e]) (S1:=S) (X8 (by simp only[ev,evs,gZ0,Rk0,h0,h,Xg];rfl))]
 rw[Xb (e:=[some d,some e]) (S1:=S) (X8 (by simp only[ev,evs,gZ0,gS0,Rk0,h1,h',Xg];rfl))]
 simp only[exes]
end
noncomputable def Xa7(g:Nat->Nat->Nat):Nat->List Int->Nat
 | _,[]=>0
 | 0,_::_=>0
 | k+1,x::r=>g x.toNat (k+1)+Xa7 g k r
noncomputable def gU(a k:Nat):Nat:=C a (k+1)
noncomputable def gL(a k:Nat):Nat:=C a (k-1)
noncomputable def gB(a k:Nat):Nat:=C (a+1) (k+1)
section
variable{F:Fn}{G:List D}
noncomputable def Xii(iw:Nat):Df:=⟨2,2,.cons (.ret (.cmr false 3 (.cons (.tup [3,4]) (.enm (.cons (.call iw (.cons (.var 0) (.cons (.var 1) .nil))) .nil)) .nil .nil) (.tup (.cons (.var 4) (.cons (.bin .sub (.var 1) (.var 3)) .nil))))) .nil⟩
noncomputable def Xae(w:List Int)(s:Int)(i:Nat):D:=.tup [.int (w.getD i 0),.int (s-i)]
theorem X0q(x y:D)(S:Sto):(if [x,y].length<=big then R.ok (D.tup [x,y]) S else R.bad)=R.ok (D.tup [x,y]) S:=if_pos (by show 2<=big;decide)
theorem Xp4(h:F iw [.int n,.int s] S=.ok (Xa w) S1)(hl:w.length<=12) :
  den F G (Xii iw) [.int n,.int s] S=.ok (.ref S1.length) (S1++[.lst ((Vc w.length).map (Xae w s))]):=by
 have hit:evit F G (.enm (.cons (.call iw (.cons (.var 0) (.cons (.var 1) .nil))) .nil)) [some (.int n),some (.int s)] S=.ok (.enm (.con (w.map D.int))) S1:=by
  simp only[evit,evs,ev,gZ0,gS0,Rk0,h,Xa,Xy]
 obtain⟨e',S',a,b⟩:=Xa0 (n:=3) (elt:=.tup (.cons (.var 4) (.cons (.bin .sub (.var 1) (.var 3)) .nil))) (t:=.tup [3,4]) ((Vc w.length).map fun(i:Nat)=>D.tup [.int (i:Int),.int (w.getD i 0)]) (Xae w s) (fun i e S=>S=S1/\∃ p q r,e=[some (.int n),some (.int s),p,q,r]) hit
  (by simp[Src.most]) (by rw[Vr,U3];exact X9 (by omega)) ⟨rfl,none,none,none,rfl⟩
  (fun i e S hP=>by
   rw[Xs2];congr 1;simp only[V1,List.getElem?_range']
   by_cases q:i<w.length
   ·simp[q,Vds]
   ·simp[q])
  (fun i d e S hd hP=>by
   obtain⟨rfl,p,q,r,rfl⟩:=hP;have hi:i<w.length:=by have:=(Ve.mp hd).1;simpa using this
   have hd2:d=D.tup [.int (i:Int),.int (w.getD i 0)]:=by
    simp only[V1,Uu hi,Vs,Vi] at hd;exact hd.symm
   subst hd2;refine⟨[some (.int n),some (.int s),p,some (.int i),some (.int (w.getD i 0))],S,rfl,?_,rfl,p,_,_,rfl⟩;simp only[ev,evs,gZ0,gS0,Rk0,Xr,X0q,Xae])
 obtain⟨rfl,_⟩:=b;simp only[den,Xii,V0,if_true,V2,Vd,Ue,Vp];simp only[Vr,U3] at a;rw[Xf (d:=.ref S'.length) (S1:=S'++[.lst ((Vc w.length).map (Xae w s))]) (by simp only[exe,a,Rk0])]
noncomputable def Xp5(ip:Nat)(elt:Ex):Df:=⟨2,2,.cons (.ret (.blt .sum (.cons (.cmr false 3 (.cons (.tup [3,4]) (.val (.call ip (.cons (.var 0) (.cons (.var 1) .nil)))) .nil .nil) elt) .nil))) .nil⟩
theorem Xom{q:Nat}{l:List Int}(h:Xc S q=some (l.map D.int)):Xk .sum [.ref q] S=.ok (.int l.sum) S:=by
 have:∀ l:List Int,Ym (l.map D.int)=some l:=fun l=>by
  induction l with
  | nil=>rfl
  | cons x r ih=>simp only[V2,Ym,ih,Vs]
 simp only[Xk,Xq,h,Vv,this]
theorem Xd1(g:Nat->Nat->Nat):∀ (s:Nat) (w:List Int),w.length<=s->(((Vc w.length).map fun i=>((g (w.getD i 0).toNat (s-i):Nat):Int)).sum)=(Xa7 g s w:Nat)
 | s,[],_=>by
  have e:Xa7 g s []=0:=by cases s<;>rfl
  rw[e];rfl
 | 0,_::_,h=>by simp at h
 | s+1,x::r,h=>by
  have ih:=Xd1 g s r (by simp only[Ug] at h;omega)
  rw[Ug,Va8,Vda,Vd7,Vc1];simp only[Xa7];have e:(Vc r.length).map ((fun i=>((g ((x::r).getD i 0).toNat (s+1-i):Nat):Int))∘Nat.succ)=(Vc r.length).map fun i=>((g (r.getD i 0).toNat (s-i):Nat):Int):=by
   refine Vch fun i _=>?_
   simp only[Vdd,Vdh];have:s+1-i.succ=s-i:=by omega
   rw[this]
  rw[e,ih];simp only[List.getD_cons_zero,Nat.sub_zero];omega
theorem Xwd{ip:Nat}{g:Nat->Nat->Nat}{n s:Nat}{w:List Int}(h:F ip [.int n,.int s] S=.ok (.ref S1.length) (S1++[.lst ((Vc w.length).map (Xae w s))]))(hl:w.length<=s)(hs:s<=12)
  (he:∀ (x c:Nat) (a b d:Option D) (S:Sto),(x:Int)∈w->1<=c->c<=s->ev F G elt [a,b,d,some (.int x),some (.int c)] S=.ok (.int (g x c:Nat)) S) (hw:∀ x∈w,0<=x) :
  ∃ X,den F G (Xp5 ip elt) [.int n,.int s] S=.ok (.int (Xa7 g s w:Nat)) (S1++X):=by
 have hit:evit F G (.val (.call ip (.cons (.var 0) (.cons (.var 1) .nil)))) [some (.int n),some (.int s)] S=.ok (.ref S1.length) (S1++[.lst ((Vc w.length).map (Xae w s))]):=by
  simp only[evit,evs,ev,gZ0,gS0,Rk0,h,Xy,Xe,Vs]
 obtain⟨e',S',a,b⟩:=Xa0 (n:=3) (elt:=elt) (t:=.tup [3,4]) ((Vc w.length).map (Xae w s)) (fun i=>.int ((g (w.getD i 0).toNat (s-i):Nat):Int)) (fun i e S=>S=S1++[.lst ((Vc w.length).map (Xae w s))]/\∃ p q r,e=[some (.int n),some (.int s),p,q,r]) hit
  (by simp only[Src.most,Xe,Vce]) (by rw[Vr,U3];exact X9 (by omega)) ⟨rfl,none,none,none,rfl⟩
  (fun i e S hP=>by
   obtain⟨rfl,_⟩:=hP;simp only[Src.get,Xe,Vs])
  (fun i d e S hd hP=>by
   obtain⟨rfl,p,q,r,rfl⟩:=hP;have hi:i<w.length:=by have:=(Ve.mp hd).1;simpa using this
   have hd2:d=Xae w s i:=by
    simp only[V1,Uu hi,Vs,Vi] at hd;exact hd.symm
   subst hd2;refine⟨[some (.int n),some (.int s),p,some (.int (w.getD i 0)),some (.int ((s:Int)-i))],_,rfl,?_,rfl,p,_,_,rfl⟩;have hm:w.getD i 0∈w:=by
    have:w.getD i 0=w[i]:=by simp[Vds,hi]
    rw[this];exact Vcf hi
   have hx:=hw _ hm;have e1:((w.getD i 0).toNat:Int)=w.getD i 0:=by omega
   have e2:(s:Int)-i=((s-i:Nat):Int):=by omega
   have q1:=he (w.getD i 0).toNat (s-i) (some (.int n)) (some (.int s)) p (S1++[.lst ((Vc w.length).map (Xae w s))]) (by rw[e1];exact hm) (by omega) (by omega)
   rw[e1] at q1;rw[e2];exact q1)
 obtain⟨rfl,_⟩:=b;refine⟨[.lst ((Vc w.length).map (Xae w s))]++[.lst ((Vc ((Vc w.length).map (Xae w s)).length).map fun i=>D.int ((g (w.getD i 0).toNat (s-i):Nat):Int))],?_⟩
 simp only[den,Xp5,V0,if_true,V2,Vd,Ue,Vp];rw[<- Vo];have q:=Xom (S:=S1++[.lst ((Vc w.length).map (Xae w s))]++[.lst ((Vc ((Vc w.length).map (Xae w s)).length).map fun i=>D.int ((g (w.getD i 0).toNat (s-i):Nat):Int))]) (q:=(S1++[O.lst ((Vc w.length).map (Xae w s))]).length) (l:=(Vc w.length).map fun i=>((g (w.getD i 0).toNat (s-i):Nat):Int)) (by
  rw[Xe,Vr,U3,Vc1];rfl)
 rw[Xd1 g s w hl] at q;rw[Xf (d:=.int (Xa7 g s w:Nat)) (S1:=S1++[.lst ((Vc w.length).map (Xae w s))]++[.lst ((Vc ((Vc w.length).map (Xae w s)).length).map fun i=>D.int ((g (w.getD i 0).toNat (s-i):Nat):Int))]) (by
  rw[exe,ev,evs,a,Rk0,evs,Rk0,Rk0,q,Rk0])]
theorem X6y{iw:Nat}(hw:Yg F iw){x c:Nat}{a b d:Option D}(hx:x+1<=10000000000000)(hc:c<=11):ev F G (.call iw (.cons (.bin .add (.var 3) (.cst (.int 1))) (.cons (.bin .add (.var 4) (.cst (.int 1))) .nil))) [a,b,d,some (.int x),some (.int c)] S=.ok (.int (gB x c:Nat)) S:=by
 have e:(c:Int)+1=((c+1:Nat):Int):=by omega
 have e1:(x:Int)+1=((x+1:Nat):Int):=by omega
 simp only[ev,evs,gZ0,gS0,Rk0,Xo,e,e1,hw (x+1) (c+1) S hx (by omega),gB]
theorem LWaysF.ways(h:LWaysF F il):Yg F il:=fun n m S hn hm=>h n m S (Vbj hn (by decide)) hm
noncomputable def lrT:Ex:=.cmp .gt (.bin .sub (.var 6) (.var 5)) (.cst (.int 1))
noncomputable def lrB(iw:Nat):Sts:=.cons (.asg (.var 7) (.bin .fdiv (.bin .add (.var 5) (.var 6)) (.cst (.int 2)))) (.cons (.ite (.cmp .le (.call iw (.cons (.var 7) (.cons (.var 4) .nil))) (.var 3)) (.cons (.asg (.var 5) (.var 7)) .nil) (.cons (.asg (.var 6) (.var 7)) .nil)) .nil)
noncomputable def Xij(F:Fn)(G:List D)(c:Ex):En->Sto->R Bool:=fun env S=>(ev F G c env S).bind fun x S=>match Xg S x with
 | some r=>.ok r S
 | none=>.bad
theorem Xs4:Xij F G lrT [a0,a1,a2,a3,a4,some (.int lo),some (.int hi),x] S=.ok (decide (1<hi-lo)) S:=by
 unfold Xij;simp only[lrT,ev,gZ0,gS0,Rk0,Xr,Xj,X0,Xg]
theorem X0r{iw:Nat}(hw:Yg F iw){a0 a1 a2 x:Option D}{n k lo hi:Nat}(hk:k<=12)(h:(lo+hi)/2<=10000000000000) :
  exes F G (lrB iw) [a0,a1,a2,some (.int n),some (.int k),some (.int lo),some (.int hi),x] S=.ok (.nx (if C ((lo+hi)/2) k<=n then [a0,a1,a2,some (.int n),some (.int k),some (.int ((lo+hi)/2:Nat)),some (.int hi),some (.int ((lo+hi)/2:Nat))] else [a0,a1,a2,some (.int n),some (.int k),some (.int lo),some (.int ((lo+hi)/2:Nat)),some (.int ((lo+hi)/2:Nat))])) S:=by
 have e:((lo:Int)+hi)/2=((lo+hi)/2:Nat):=by omega
 have s1:=Xu (i:=7) (F:=F) (G:=G) (e:=.bin .fdiv (.bin .add (.var 5) (.var 6)) (.cst (.int 2))) (env:=[a0,a1,a2,some (.int n),some (.int k),some (.int lo),some (.int hi),x]) (S:=S) (d:=.int ((lo+hi)/2:Nat)) (S':=S) (by
  simp only[ev,gZ0,gS0,Rk0,Xo,Xaq d2,e])
 generalize (lo+hi)/2=m at s1 h;have hc:=hw m k S h hk;have ht:ev F G (.cmp .le (.call iw (.cons (.var 7) (.cons (.var 4) .nil))) (.var 3)) [a0,a1,a2,some (.int n),some (.int k),some (.int lo),some (.int hi),some (.int m)] S=.ok (.bl (decide ((C m k:Int)<=n))) S:=by
  simp only[ev,evs,gZ0,gS0,Rk0,hc,Xj,X0]
 unfold lrB;rw[Xb s1]
 by_cases q:C m k<=n
 ·have hd:decide ((C m k:Int)<=n)=true:=decide_eq_true (by omega)
  rw[hd] at ht;rw[if_pos q];rw[Xb (e:=[a0,a1,a2,some (.int n),some (.int k),some (.int m),some (.int hi),some (.int m)]) (S1:=S) (by
   show exe F G _ [a0,a1,a2,some (.int n),some (.int k),some (.int lo),some (.int hi),some (.int m)] S=_;rw[exe,ht,Rk0];simp only[Xg,exes,exe,ev,gZ0,gS0,Rk0,Xl,Vak])]
  rw[exes]
 ·have hd:decide ((C m k:Int)<=n)=false:=decide_eq_false (by omega)
  rw[hd] at ht;rw[if_neg q];rw[Xb (e:=[a0,a1,a2,some (.int n),some (.int k),some (.int lo),some (.int m),some (.int m)]) (S1:=S) (by
   show exe F G _ [a0,a1,a2,some (.int n),some (.int k),some (.int lo),some (.int hi),some (.int m)] S=_;rw[exe,ht,Rk0];simp only[Xg,exes,exe,ev,gZ0,gS0,Rk0,Xl,Vak])]
  rw[exes]
theorem Xik{iw:Nat}(hw:Yg F iw){a0 a1 a2:Option D}{n k:Nat}(hk:k<=12):∀ (j fuel lo hi:Nat) (x:Option D),hi-lo<=2^j->j<fuel->lo<hi->k<=lo->hi<=5000000000000->C lo k<=n->n<C hi k ->
  ∃ m h x',Y6 (Xij F G lrT) (fun env S=>exes F G (lrB iw) env S) fuel [a0,a1,a2,some (.int n),some (.int k),some (.int lo),some (.int hi),x] S=.ok (.nx [a0,a1,a2,some (.int n),some (.int k),some (.int (m:Nat)),h,x']) S/\Most n k m
 | j,0,lo,hi,x,h1,h2,h3,h4,h5,h6,h7=>by omega
 | j,fuel+1,lo,hi,x,h1,h2,h3,h4,h5,h6,h7=>by
  by_cases q:hi=lo+1
  ·subst q
   have ht:=Xs4 (F:=F) (G:=G) (a0:=a0) (a1:=a1) (a2:=a2) (a3:=some (.int n)) (a4:=some (.int k)) (lo:=lo) (hi:=(lo+1:Nat)) (x:=x) (S:=S);have hd:decide ((1:Int)<((lo+1:Nat):Int)-lo)=false:=decide_eq_false (by omega)
   rw[hd] at ht;refine⟨lo,some (.int (lo+1:Nat)),x,?_,h4,h6,h7⟩;simp only[Y6,ht]
  ·have ht:=Xs4 (F:=F) (G:=G) (a0:=a0) (a1:=a1) (a2:=a2) (a3:=some (.int n)) (a4:=some (.int k)) (lo:=lo) (hi:=hi) (x:=x) (S:=S)
   have hd:decide ((1:Int)<(hi:Int)-lo)=true:=decide_eq_true (by omega)
   rw[hd] at ht;have hb:=X0r (G:=G) hw (a0:=a0) (a1:=a1) (a2:=a2) (n:=n) (k:=k) (lo:=lo) (hi:=hi) (x:=x) (S:=S) hk (by omega)
   obtain⟨j,rfl⟩:∃ i,j=i+1:=by
    cases j with
    | zero=>simp at h1;omega
    | succ j=>exact⟨j,rfl⟩
   rw[Veo] at h1
   by_cases c:C ((lo+hi)/2) k<=n
   ·rw[if_pos c] at hb
    obtain⟨m,h,x',r1,r2⟩:=Xik hw hk j fuel ((lo+hi)/2) hi (some (.int ((lo+hi)/2:Nat))) (by omega) (by omega) (by omega) (by omega) h5 c h7
    exact⟨m,h,x',by simp only[Y6,ht,hb];exact r1,r2⟩
   ·rw[if_neg c] at hb
    obtain⟨m,h,x',r1,r2⟩:=Xik hw hk j fuel lo ((lo+hi)/2) (some (.int ((lo+hi)/2:Nat))) (by omega) (by omega) (by omega) h4 (by omega) h6 (by omega)
    exact⟨m,h,x',by simp only[Y6,ht,hb];exact r1,r2⟩
theorem Xwe{iw:Nat}(hw:Yg F iw){a0 a1 a2 x:Option D}{n k:Nat}(hk1:1<=k)(hk:k<=12)(hn1:1<=n)(hn:n<=1000000000000) :
  ∃ m h x',exe F G (.whl lrT (lrB iw)) [a0,a1,a2,some (.int n),some (.int k),some (.int k),some (.int (k+n:Nat)),x] S=.ok (.nx [a0,a1,a2,some (.int n),some (.int k),some (.int (m:Nat)),h,x']) S/\Most n k m:=by
 have hlt:n<C (k+n) k:=by
  obtain⟨k',rfl⟩:∃ k',k=k'+1:=⟨k-1,by omega⟩
  have:=Xif k' n;omega
 obtain⟨m,h,x',r1,r2⟩:=Xik (G:=G) hw (a0:=a0) (a1:=a1) (a2:=a2) (n:=n) (k:=k) (S:=S) hk 41 100000 k (k+n) x (by have h41:(2:Nat)^41=2199023255552:=(by decide);omega) (by omega) (by omega) (Vh _) (by omega) (by rw[Xep];exact hn1) hlt
 exact⟨m,h,x',by rw[exe];exact r1,r2⟩
noncomputable def lrO:Ex:=.cmp .gt (.var 3) (.cst (.int 0))
noncomputable def lrW(iw:Nat):Sts:=.cons (.asg (.var 4) (.bin .sub (.var 1) (.blt .len (.cons (.var 2) .nil)))) (.cons (.par [5,6] (.cons (.var 4) (.cons (.bin .add (.var 4) (.var 3)) .nil))) (.cons (.whl lrT (lrB iw)) (.cons (.expr (.mth .append (.var 2) (.cons (.var 5) .nil))) (.cons (.asg (.var 3) (.bin .sub (.var 3) (.call iw (.cons (.var 5) (.cons (.var 4) .nil))))) .nil))))
noncomputable def Xmi(iw:Nat):Df:=⟨2,8,.cons (.par [2,3] (.cons (.lst .nil) (.cons (.var 0) .nil))) (.cons (.whl lrO (lrW iw)) (.cons (.ret (.blt .tuple (.cons (.var 2) .nil))) .nil))⟩
theorem X0s:Xij F G lrO [a0,a1,a2,some (.int r),a4,a5,a6,a7] S=.ok (decide (0<r)) S:=by
 unfold Xij;simp only[lrO,ev,gZ0,gS0,Rk0,Xj,X0,Xg]
theorem Xil(h:Xc S q=some xs):Xk .len [.ref q] S=.ok (.int xs.length) S:=by simp only[Xk,Xq,h]
theorem X0t{iw:Nat}(hw:Yg F iw){a0 a4 a5 a6 a7:Option D}{r k q s:Nat}{acc:List D}(hk1:1<=k)(hk:k<=12)(hr1:1<=r)(hr:r<=1000000000000)(hq:Xc S q=some acc)(hs:s=k+acc.length)(hl:acc.length<100) :
  ∃ m h x',Most r k m/\exes F G (lrW iw) [a0,some (.int s),some (.ref q),some (.int r),a4,a5,a6,a7] S=.ok (.nx [a0,some (.int s),some (.ref q),some (.int ((r-C m k:Nat):Int)),some (.int k),some (.int m),h,x']) (S.set q (.lst (acc++[.int m]))):=by
 have s1:exe F G (.asg (.var 4) (.bin .sub (.var 1) (.blt .len (.cons (.var 2) .nil)))) [a0,some (.int s),some (.ref q),some (.int r),a4,a5,a6,a7] S=.ok (.nx [a0,some (.int s),some (.ref q),some (.int r),some (.int k),a5,a6,a7]) S:=Xu (by
  have e:(s:Int)-(acc.length:Int)=(k:Int):=by omega
  simp only[ev,evs,gZ0,gS0,Rk0,Xil hq,Xr,e])
 have s2:exe F G (.par [5,6] (.cons (.var 4) (.cons (.bin .add (.var 4) (.var 3)) .nil))) [a0,some (.int s),some (.ref q),some (.int r),some (.int k),a5,a6,a7] S=.ok (.nx [a0,some (.int s),some (.ref q),some (.int r),some (.int k),some (.int k),some (.int (k+r:Nat)),a7]) S:=by
  have e:(k:Int)+(r:Int)=((k+r:Nat):Int):=by omega
  rw[exe];simp only[evs,ev,gZ0,gS0,Rk0,Xo,e];rfl
 obtain⟨m,h,x',s3,h2⟩:=Xwe (F:=F) (G:=G) hw (a0:=a0) (a1:=some (.int s)) (a2:=some (.ref q)) (x:=a7) (n:=r) (k:=k) (S:=S) hk1 hk hr1 hr;refine⟨m,h,x',h2,?_⟩;have hm2:m<=10000000000000:=by
  obtain⟨a1,a2,a3⟩:=h2;obtain⟨k',rfl⟩:∃ k',k=k'+1:=⟨k-1,by omega⟩
  obtain⟨j,rfl⟩:∃ j,m=k'+1+j:=⟨m-(k'+1),by omega⟩
  have:=Xif k' j;omega
 have hap:=Xe8 (x:=.int m) hq (by omega)
 have hrc:Xac .append (.ref q) S=true:=by simp only[Xac,hq,Vbh]
 have s4:exe F G (.expr (.mth .append (.var 2) (.cons (.var 5) .nil))) [a0,some (.int s),some (.ref q),some (.int r),some (.int k),some (.int m),h,x'] S=.ok (.nx [a0,some (.int s),some (.ref q),some (.int r),some (.int k),some (.int m),h,x']) (S.set q (.lst (acc++[.int m]))):=by
  simp only[exe,ev,evs,gZ0,gS0,Rk0,hrc,if_true,hap]
 have hwy:=hw m k (S.set q (.lst (acc++[.int m]))) hm2 hk;have s5:exe F G (.asg (.var 3) (.bin .sub (.var 3) (.call iw (.cons (.var 5) (.cons (.var 4) .nil))))) [a0,some (.int s),some (.ref q),some (.int r),some (.int k),some (.int m),h,x'] (S.set q (.lst (acc++[.int m])))=.ok (.nx [a0,some (.int s),some (.ref q),some (.int ((r-C m k:Nat):Int)),some (.int k),some (.int m),h,x']) (S.set q (.lst (acc++[.int m]))):=Xu (by
  have e:(r:Int)-(C m k:Int)=((r-C m k:Nat):Int):=by have:=h2.2.1;omega
  simp only[ev,evs,gZ0,gS0,Rk0,hwy,Xr,e])
 unfold lrW;exact(Xb s1).trans ((Xb s2).trans ((Xb s3).trans ((Xb s4).trans ((Xb s5).trans (by simp only[exes])))))
theorem Xmj(hw:Yg F iw)(hs:s<=12):∀ (k fuel r:Nat) (x4 x5 x6 x7:Option D) (S:Sto) (acc:List D),s=k+acc.length->k<fuel->r<=1000000000000->Xc S q=some acc->(k=0->r=0) ->
  ∃ w e,Y6 (Xij F G lrO) (fun env S=>exes F G (lrW iw) env S) fuel [a0,some (.int s),some (.ref q),some (.int r),x4,x5,x6,x7] S=.ok (.nx e) (S.set q (.lst (acc++w.map D.int)))/\Wr k r w/\e[2]?=some (some (.ref q))
 | k,0,r,x4,x5,x6,x7,S,acc,h1,h2,h3,h4,h6=>by omega
 | k,fuel+1,r,x4,x5,x6,x7,S,acc,h1,h2,h3,h4,h6=>by
  have ht:=X0s (F:=F) (G:=G) (a0:=a0) (a1:=some (.int s)) (a2:=some (.ref q)) (a4:=x4) (a5:=x5) (a6:=x6) (a7:=x7) (r:=r) (S:=S)
  by_cases hr:r=0
  ·subst hr
   have hd:decide ((0:Int)<((0:Nat):Int))=false:=by decide
   rw[hd] at ht;refine⟨[],[a0,some (.int s),some (.ref q),some (.int ((0:Nat):Int)),x4,x5,x6,x7],?_,?_,rfl⟩
   ·have e:S.set q (.lst (acc++([]:List Int).map D.int))=S:=by
     obtain⟨hlt,hv⟩:=Ve.mp (Xbp h4);rw[List.map_nil,Vp,<- hv];exact Vc2 hlt
    rw[e];simp only[Y6,ht]
   ·cases k with
    | zero=>exact⟨rfl,rfl⟩
    | succ k=>exact .inl ⟨rfl,rfl⟩
  ·obtain⟨k,rfl⟩:∃ k',k=k'+1:=⟨k-1,by
    cases k with
    | zero=>exact absurd (h6 rfl) hr
    | succ k=>omega⟩
   have hd:decide ((0:Int)<(r:Int))=true:=decide_eq_true (by omega)
   rw[hd] at ht;obtain⟨m,h,x',m1,m2⟩:=X0t (G:=G) hw (a0:=a0) (a4:=x4) (a5:=x5) (a6:=x6) (a7:=x7) (r:=r) (k:=k+1) (q:=q) (s:=s) (S:=S) (acc:=acc) (by omega) (by omega) (by omega) h3 h4 h1 (by omega)
   have hrest:k=0->r-C m (k+1)=0:=fun z=>by
    subst z;obtain⟨a1,a2,a3⟩:=m1;rw[Vcg,Xkn] at a2 ⊢;rw[Vcg,Xkn] at a3;omega
   obtain⟨w,e,r1,r2,r3⟩:=Xmj hw hs k fuel (r-C m (k+1)) (some (.int ((k+1:Nat):Int))) (some (.int m)) h x' (S.set q (.lst (acc++[.int m]))) (acc++[.int m]) (by simp;omega) (by omega) (by omega) (Yx (Yv h4)) hrest
   refine⟨(m:Int)::w,e,?_,.inr ⟨m,w,rfl,by omega,m1,r2⟩,r3⟩
   rw[List.set_set,Vo] at r1;simp only[Y6,ht,m2];exact r1
theorem Xs5{iw n s:Nat}(hw:Yg F iw)(hs1:1<=s)(hs:s<=12)(hn:n<=1000000000000):∃ w,den F G (Xmi iw) [.int n,.int s] S=.ok (Xa w) (S++[.lst (w.map D.int)])/\Wr s n w:=by
 obtain⟨w,e,r1,r2,r3⟩:=Xmj (F:=F) (G:=G) hw (a0:=some (.int n)) (s:=s) (q:=S.length) hs s 100000 n none none none none (S++[.lst []]) [] (by simp) (by omega) hn Xe (fun z=>by omega)
 have e2:(S++[O.lst []]).set S.length (.lst ([]++w.map D.int))=S++[.lst (w.map D.int)]:=by
  rw[Vbz _ _ (Vh _),Ue,Uj];rfl
 rw[e2] at r1;refine⟨w,?_,r2⟩;have nb:ev F G (.lst .nil) [some (.int n),some (.int s),none,none,none,none,none,none] S=.ok (.ref S.length) (S++[.lst []]):=by
  simp only[ev,evs,Rk0];exact if_pos (by decide)
 have s1:exe F G (.par [2,3] (.cons (.lst .nil) (.cons (.var 0) .nil))) [some (.int n),some (.int s),none,none,none,none,none,none] S=.ok (.nx [some (.int n),some (.int s),some (.ref S.length),some (.int n),none,none,none,none]) (S++[.lst []]):=by
  rw[exe,evs,nb,Rk0];simp only[evs,ev,gZ0,Rk0];rfl
 have s2:exe F G (.whl lrO (lrW iw)) [some (.int n),some (.int s),some (.ref S.length),some (.int n),none,none,none,none] (S++[.lst []])=.ok (.nx e) (S++[.lst (w.map D.int)]):=by rw[exe];exact r1
 have s3:exe F G (.ret (.blt .tuple (.cons (.var 2) .nil))) e (S++[.lst (w.map D.int)])=.ok (.rt (Xa w)) (S++[.lst (w.map D.int)]):=by
  simp only[exe,ev,evs,r3,Rk0,Xk,Xq,Xe,Xa]
 simp only[den,Xmi,V0,if_true,V2,Vd];have q:exes F G (.cons (.par [2,3] (.cons (.lst .nil) (.cons (.var 0) .nil))) (.cons (.whl lrO (lrW iw)) (.cons (.ret (.blt .tuple (.cons (.var 2) .nil))) .nil))) ([some (.int n),some (.int s)]++[none,none,none,none,none,none]) S=.ok (.rt (Xa w)) (S++[.lst (w.map D.int)]) :=
  (Xb s1).trans ((Xb s2).trans (Xf s3))
 rw[q]
noncomputable def Xcz(w:List Int)(i:Nat):D:=.tup [.int i,.int (w.getD i 0)]
theorem Xgw:∀ (w:List Int) (n:Nat),Yk n (w.map D.int)=(Vc w.length).map fun i=>D.tup [.int (n+i:Nat),.int (w.getD i 0)]
 | [],n=>rfl
 | x::r,n=>by
  rw[Vda,Yk,Xgw r (n+1),Ug,Va8,Vda,Vc1];simp only[Vem,List.getD_cons_zero];congr 1;refine Vch fun i _=>?_
  simp only[Vdd,Vdh];have:n+1+i=n+i.succ:=by omega
  rw[this]
theorem Xs6(w:List Int):Yk 0 (w.map D.int)=(Vc w.length).map (Xcz w):=by
 rw[Xgw];refine Vch fun i _=>?_
 rw[Vcg];rfl
theorem Xon(hq:Xc S q=some (Yk 0 (w.map D.int)))(hl:w.length<=s)(hs:s<=12)
  (he:∀ (x i:Nat) (p:Option D),(x:Int)∈w->i<s->ev F G elt [a0,a1,a2,some (.ref q),p,some (.int i),some (.int x)] S=.ok (.int (g x (s-i):Nat)) S) (hw:∀ x∈w,0<=x) :
  ∃ X,ev F G (.blt .sum (.cons (.cmr false 3 (.cons (.tup [5,6]) (.val (.var 3)) .nil .nil) elt) .nil)) [a0,a1,a2,some (.ref q)] S=.ok (.int (Xa7 g s w:Nat)) (S++X):=by
 rw[Xs6] at hq;have hit:evit F G (.val (.var 3)) [a0,a1,a2,some (.ref q)] S=.ok (.ref q) S:=by
  simp only[evit,ev,gZ0,gS0,Rk0,Xy,hq,Vs]
 obtain⟨e',S',a,b⟩:=Xa0 (n:=3) (elt:=elt) (t:=.tup [5,6]) ((Vc w.length).map (Xcz w)) (fun i=>.int ((g (w.getD i 0).toNat (s-i):Nat):Int)) (fun i e S'=>S'=S/\∃ p x y,e=[a0,a1,a2,some (.ref q),p,x,y]) hit
  (by simp only[Src.most,hq,Vce]) (by rw[Vr,U3];exact X9 (by omega)) ⟨rfl,none,none,none,rfl⟩
  (fun i e S hP=>by
   obtain⟨rfl,_⟩:=hP;simp only[Src.get,hq,Vs])
  (fun i d e S hd hP=>by
   obtain⟨rfl,p,x,y,rfl⟩:=hP;have hi:i<w.length:=by have:=(Ve.mp hd).1;simpa using this
   have hd2:d=Xcz w i:=by
    simp only[V1,Uu hi,Vs,Vi] at hd;exact hd.symm
   subst hd2;refine⟨[a0,a1,a2,some (.ref q),p,some (.int i),some (.int (w.getD i 0))],S,rfl,?_,rfl,p,_,_,rfl⟩;have hm:w.getD i 0∈w:=by
    have:w.getD i 0=w[i]:=by simp[Vds,hi]
    rw[this];exact Vcf hi
   have hx:=hw _ hm;have e1:((w.getD i 0).toNat:Int)=w.getD i 0:=by omega
   have q1:=he (w.getD i 0).toNat i p (by rw[e1];exact hm) (by omega)
   rw[e1] at q1;exact q1)
 obtain⟨rfl,_⟩:=b;refine⟨[.lst ((Vc ((Vc w.length).map (Xcz w)).length).map fun i=>D.int ((g (w.getD i 0).toNat (s-i):Nat):Int))],?_⟩
 have qs:=Xom (S:=S'++[.lst ((Vc ((Vc w.length).map (Xcz w)).length).map fun i=>D.int ((g (w.getD i 0).toNat (s-i):Nat):Int))]) (q:=S'.length) (l:=(Vc w.length).map fun i=>((g (w.getD i 0).toNat (s-i):Nat):Int)) (by
  rw[Xe,Vr,U3,Vc1];rfl)
 rw[Xd1 g s w hl] at qs;rw[ev,evs,a,Rk0,evs,Rk0,Rk0,qs]
noncomputable def Xim(il:Nat):Ex:=.call il (.cons (.var 6) (.cons (.bin .sub (.bin .sub (.var 2) (.var 5)) (.cst (.int 1))) .nil))
noncomputable def Xf8(il:Nat):Ex:=.call il (.cons (.bin .add (.var 6) (.blt .int (.cons (.cmp .eq (.var 0) (.cst (.int 2))) .nil))) (.cons (.bin .add (.bin .sub (.var 2) (.var 5)) (.cst (.int 1))) .nil))
noncomputable def nxS(e:Ex):Ex:=.blt .sum (.cons (.cmr false 3 (.cons (.tup [5,6]) (.val (.var 3)) .nil .nil) e) .nil)
noncomputable def Xks(il iw:Nat):Df:=⟨3,4,.cons (.asg (.var 3) (.lenm (.call iw (.cons (.var 1) (.cons (.var 2) .nil))))) (.cons (.ite (.cmp .eq (.var 0) (.cst (.int 1))) (.cons (.ret (nxS (Xim il))) .nil) .nil) (.cons (.ret (nxS (Xf8 il))) .nil))⟩
noncomputable def gK(kd:Nat):Nat->Nat->Nat:=if kd=1 then gL else if kd=2 then gB else gU
theorem X4q{il kd:Nat}(hw:Yg F il)(hk:kd=0\/kd=2){a1 p a3:Option D}{x i s:Nat}(hx:x<=9000000000000)(hi:i<s)(hs:s<=11) :
  ev F G (Xf8 il) [some (.int kd),a1,some (.int s),a3,p,some (.int i),some (.int x)] S=.ok (.int (gK kd x (s-i):Nat)) S:=by
 have e1:(s:Int)-(i:Int)+1=((s-i+1:Nat):Int):=by omega
 rcases hk with rfl|rfl
 ·have e2:(x:Int)+0=((x:Nat):Int):=by omega
  have e3:(((0:Nat):Int)==2)=false:=by decide
  simp only[Xf8,ev,evs,gZ0,gS0,Rk0,Xbo,e3,Xk,i2,Ud,if_false,Xo,Xr,e1,e2,hw x (s-i+1) S (by omega) (by omega)]
  rfl
 ·have e2:(x:Int)+1=((x+1:Nat):Int):=by omega
  have e3:(((2:Nat):Int)==2)=true:=by decide
  simp only[Xf8,ev,evs,gZ0,gS0,Rk0,Xbo,e3,Xk,i2,if_true,Xo,Xr,e1,e2,hw (x+1) (s-i+1) S (by omega) (by omega)]
  rfl
theorem X4r{il:Nat}(hw:Yg F il){a0 a1 p a3:Option D}{x i s:Nat}(hx:x<=9000000000000)(hi:i<s)(hs:s<=12) :
  ev F G (Xim il) [a0,a1,some (.int s),a3,p,some (.int i),some (.int x)] S=.ok (.int (gK 1 x (s-i):Nat)) S:=by
 have e1:(s:Int)-(i:Int)-1=((s-i-1:Nat):Int):=by omega
 simp only[Xim,ev,evs,gZ0,gS0,Rk0,Xr,e1,hw x (s-i-1) S (by omega) (by omega)]
 rfl
theorem X0u(h:F iw [.int n,.int s] S=.ok (Xa w) S1):ev F G (.lenm (.call iw (.cons (.var 1) (.cons (.var 2) .nil)))) [some a0,some (.int n),some (.int s),a3] S=.ok (.ref S1.length) (S1++[.lst (Yk 0 (w.map D.int))]):=by
 simp only[ev,evs,gZ0,gS0,Rk0,h,Xa,Xq]
theorem Xwf{il iw kd n s:Nat}{w:List Int}(hw:Yg F il)(h:F iw [.int n,.int s] S=.ok (Xa w) S1)(hwr:Wr s n w)(hn:n<=1000000000000)(hk:kd<=2)(hs:s<=12)(hs2:kd≠1->s<=11) :
  ∃ X,den F G (Xks il iw) [.int kd,.int n,.int s] S=.ok (.int (Xa7 (gK kd) s w:Nat)) (S1++X):=by
 have hl:=Xsw hwr;have hb:=Xko hwr;have hx:∀ x:Nat,(x:Int)∈w->x<=9000000000000:=fun x hx=>by have:=(hb _ hx).2;omega
 have s1:exe F G (.asg (.var 3) (.lenm (.call iw (.cons (.var 1) (.cons (.var 2) .nil))))) [some (.int kd),some (.int n),some (.int s),none] S=.ok (.nx [some (.int kd),some (.int n),some (.int s),some (.ref S1.length)]) (S1++[.lst (Yk 0 (w.map D.int))]):=Xu (X0u h);have hq:Xc (S1++[O.lst (Yk 0 (w.map D.int))]) S1.length=some (Yk 0 (w.map D.int)):=Xe
 by_cases c:kd=1
 ·subst c
  obtain⟨X,e⟩:=Xon (F:=F) (G:=G) (elt:=Xim il) (g:=gK 1) (a0:=some (.int ((1:Nat):Int))) (a1:=some (.int n)) (a2:=some (.int s)) hq hl hs (fun x i p hm hi=>X4r hw (hx x hm) hi hs) fun x hx=>(hb x hx).1
  have ht:ev F G (.cmp .eq (.var 0) (.cst (.int 1))) [some (.int ((1:Nat):Int)),some (.int n),some (.int s),some (.ref S1.length)] (S1++[.lst (Yk 0 (w.map D.int))])=.ok (.bl true) (S1++[.lst (Yk 0 (w.map D.int))]):=by
   simp only[ev,gZ0,Rk0,Xbo];rfl
  refine⟨[.lst (Yk 0 (w.map D.int))]++X,?_⟩;simp only[den,Xks,V0,if_true,V2,Vd];have q:exes F G (.cons (.asg (.var 3) (.lenm (.call iw (.cons (.var 1) (.cons (.var 2) .nil))))) (.cons (.ite (.cmp .eq (.var 0) (.cst (.int 1))) (.cons (.ret (nxS (Xim il))) .nil) .nil) (.cons (.ret (nxS (Xf8 il))) .nil))) ([some (.int ((1:Nat):Int)),some (.int n),some (.int s)]++[none]) S=.ok (.rt (.int (Xa7 (gK 1) s w:Nat))) (S1++[.lst (Yk 0 (w.map D.int))]++X) :=
   (Xb s1).trans (Xf (by rw[exe,ht,Rk0];simp only[Xg,exes,exe,nxS];rw[e];rfl))
  rw[q,Vo]
 ·have c2:kd=0\/kd=2:=by omega
  obtain⟨X,e⟩:=Xon (F:=F) (G:=G) (elt:=Xf8 il) (g:=gK kd) (a0:=some (.int kd)) (a1:=some (.int n)) (a2:=some (.int s)) hq hl hs (fun x i p hm hi=>X4q hw c2 (hx x hm) hi (hs2 c)) fun x hx=>(hb x hx).1
  have hne:((kd:Int)==1)=false:=by
   have:(kd:Int)≠1:=by omega
   simpa using this
  have ht:ev F G (.cmp .eq (.var 0) (.cst (.int 1))) [some (.int kd),some (.int n),some (.int s),some (.ref S1.length)] (S1++[.lst (Yk 0 (w.map D.int))])=.ok (.bl false) (S1++[.lst (Yk 0 (w.map D.int))]):=by
   simp only[ev,gZ0,Rk0,Xbo,hne]
  refine⟨[.lst (Yk 0 (w.map D.int))]++X,?_⟩;simp only[den,Xks,V0,if_true,V2,Vd];have q:exes F G (.cons (.asg (.var 3) (.lenm (.call iw (.cons (.var 1) (.cons (.var 2) .nil))))) (.cons (.ite (.cmp .eq (.var 0) (.cst (.int 1))) (.cons (.ret (nxS (Xim il))) .nil) .nil) (.cons (.ret (nxS (Xf8 il))) .nil))) ([some (.int kd),some (.int n),some (.int s)]++[none]) S=.ok (.rt (.int (Xa7 (gK kd) s w:Nat))) (S1++[.lst (Yk 0 (w.map D.int))]++X) :=
   (Xb s1).trans ((Xb (X8 ht)).trans (Xf (by rw[exe];unfold nxS;rw[e];rfl)))
  rw[q,Vo]
end
noncomputable def wri(s n:Nat):List Int:=open Classical in if h:∃ w,Wr s n w then h.choose else []
theorem Xs7(h:Wr s n w):wri s n=w:=by
 have hx:∃ w,Wr s n w:=⟨w,h⟩;unfold wri;rw[dif_pos hx];exact hx.choose_spec.uniq h
noncomputable def abv(g:Nat->Nat->Nat)(s n:Nat):Nat:=Xa7 g s (wri s n)
theorem Xs8(g:Nat->Nat->Nat)(h:Wr s n w):Xa7 g s w=abv g s n:=by unfold abv;rw[Xs7 h]
noncomputable def Yj(g:Nat->Nat->Nat)(row:List Int)(p:Nat):Bool:=match p with
 | 0=>!(row.getD 0 0==1)
 | p+1=>decide (row.getD (p+1) 0<0)||(decide (1000000000000<row.getD (p+1) 0)||(decide (1<=p)&&decide ((abv g p (row.getD p 0).toNat:Int)<row.getD (p+1) 0)))
noncomputable def X7(g:Nat->Nat->Nat)(row:List Int):D:=match (Vc row.length).find? (Yj g row) with
 | some p=>.int p
 | none=>.non
theorem Xf9(hp:p<row.length)(h:Yj g row p=true)(hn:∀ j<p,Yj g row j=false):X7 g row=.int p:=by
 have:(Vc row.length).find? (Yj g row)=some p:=by
  rw[List.find?_eq_some_iff_getElem];refine⟨h,p,by simpa using hp,by simp,fun j hj=>?_⟩
  simp[hn j hj]
 unfold X7;rw[this]
theorem Xmk(hn:∀ j<row.length,Yj g row j=false):X7 g row=.non:=by
 have:(Vc row.length).find? (Yj g row)=none:=by
  rw[List.find?_eq_none];intro j hj;rw[hn j (by simpa using hj)]
  simp
 unfold X7;rw[this]
theorem Xs9(h:Yj g row p=false):0<=row.getD p 0/\row.getD p 0<=1000000000000:=by
 cases p with
 | zero =>
  simp only[Yj,Bool.not_eq_false',beq_iff_eq] at h;omega
 | succ p =>
  simp only[Yj,Bool.or_eq_false_iff,decide_eq_false_iff_not] at h;omega
section
variable{F:Fn}{G:List D}
theorem Xb0{get:Sto->Nat->Option (Option D)}{body:En->Sto->R Fl}{xs:List D}(bad:Nat->Bool)(val:Nat->D)(P:En->Sto->Prop)(Q:Sto->Prop)
  (hget:∀ i S,get S i=some xs[i]?)
  (step:∀ i d e S,xs[i]?=some d->(∀ j<i,bad j=false)->P e S->∃ e1,Xl t d e=some e1/\((bad i=true/\∃ S',body e1 S=.ok (.rt (val i)) S'/\Q S')\/(bad i=false/\∃ e2 S',body e1 S=.ok (.nx e2) S'/\P e2 S'))) :
  ∀ (fuel i:Nat) (e:En) (S:Sto),xs.length<fuel+i->i<=xs.length->(∀ j<i,bad j=false)->P e S ->
   (∃ p S',p<xs.length/\bad p=true/\(∀ j<p,bad j=false)/\Xv get t body fuel i e S=.ok (.rt (val p)) S'/\Q S')\/((∀ j<xs.length,bad j=false)/\∃ e' S',Xv get t body fuel i e S=.ok (.nx e') S'/\P e' S')
 | 0,i,e,S,h1,h2,h3,h4=>by omega
 | fuel+1,i,e,S,h1,h2,h3,h4=>by
  cases q:xs[i]? with
  | none =>
   have hi:i=xs.length:=by have:=V7.mp q;omega
   right;refine⟨by rw[<- hi];exact h3,e,S,?_,h4⟩
   simp only[Xv,hget,q]
  | some d =>
   have hi:i<xs.length:=(Ve.mp q).1;obtain⟨e1,a1,a2⟩:=step i d e S q h3 h4;rcases a2 with⟨b1,S',b2,b3⟩|⟨b1,e2,S',b2,b3⟩
   ·left
    refine⟨i,S',hi,b1,h3,?_,b3⟩;simp only[Xv,hget,q,a1,b2]
   ·have h3':∀ j<i+1,bad j=false:=fun j hj=>by
     by_cases z:j=i
     ·rw[z];exact b1
     ·exact h3 j (by omega)
    have ih:=Xb0 bad val P Q hget step fuel (i+1) e2 S' (by omega) hi h3' b3
    simp only[Xv,hget,q,a1,b2];exact ih
def Xp6(F:Fn)(f:Nat)(g:Nat->Nat->Nat)(m:Nat):Prop:=∀ (n s:Nat) (S:Sto),n<=1000000000000->1<=s->s<=m->∃ X,F f [.int n,.int s] S=.ok (.int (abv g s n:Nat)) (S++X)
def Xd2(F:Fn)(f kd:Nat):Prop:=∀ (n s:Nat) (S:Sto),n<=1000000000000->1<=s->s<=11->∃ X,F f [.int kd,.int n,.int s] S=.ok (.int (abv (gK kd) s n:Nat)) (S++X)
theorem Xdj{row:List Int}{p:Nat}(h:p<row.length)(S:Sto):Yb (Xa row) (.int p) S=.ok (.int (row.getD p 0)) S:=by
 have e:ixN (row.map D.int).length (p:Int)=some p:=by
  unfold ixN;rw[if_pos (by omega),if_pos (by rw[Vr];omega)]
  simp
 have e2:(row.map D.int)[p]?=some (.int (row.getD p 0)):=by
  rw[V1,Uy h];simp[Vds,h]
 simp only[Yb,Xal,Xa,Xq,Vv,e,e2]
noncomputable def Xp7:Ex:=.not (.chn .le .le (.cst (.int 0)) (.idx (.var 0) (.var 2)) (.glb 0))
noncomputable def Xp8:Ex:=.and (.cmp .gt (.var 2) (.cst (.int 1))) (.cmp .gt (.idx (.var 0) (.var 2)) (.cal (.var 1) (.cons (.idx (.var 0) (.bin .sub (.var 2) (.cst (.int 1)))) (.cons (.bin .sub (.var 2) (.cst (.int 1))) .nil))))
noncomputable def fbR:Sts:=.cons (.ret (.var 2)) .nil
noncomputable def fbB:Sts:=.cons (.ite Xp7 fbR .nil) (.cons (.ite Xp8 fbR .nil) .nil)
noncomputable def dFirst:Df:=⟨2,3,.cons (.ite (.cmp .ne (.idx (.var 0) (.cst (.int 0))) (.cst (.int 1))) (.cons (.ret (.cst (.int 0))) .nil) .nil) (.cons (.for (.var 2) (.rng (.cons (.cst (.int 1)) (.cons (.blt .len (.cons (.var 0) .nil)) .nil))) fbB) (.cons (.ret (.cst .non)) .nil))⟩
theorem Xgx(h2:env[2]?=some (some d))(h:ev F G c env S=.ok (.bl true) S'):exe F G (.ite c fbR .nil) env S=.ok (.rt d) S':=by
 rw[exe,h,Rk0];simp only[Xg,fbR,exes,exe,ev,h2,Rk0]
theorem X6z{row:List Int}{fn:Option D}{p:Nat}(hp:p<row.length)(hg:G[0]?=some (.int 1000000000000)) :
  ev F G Xp7 [some (Xa row),fn,some (.int p)] S=.ok (.bl (decide (row.getD p 0<0)||decide (1000000000000<row.getD p 0))) S:=by
 have hi:=Xdj hp S;generalize row.getD p 0=x at hi
 by_cases c:x<0
 ·have e1:decide ((0:Int)<=x)=false:=decide_eq_false (by omega)
  have e2:decide (x<0)=true:=decide_eq_true c;simp only[Xp7,ev,gZ0,gS0,Rk0,hi,X0,e1,Xg,e2,Bool.true_or,Bool.not_false]
 ·have e1:decide ((0:Int)<=x)=true:=decide_eq_true (by omega)
  have e2:decide (x<0)=false:=decide_eq_false c;have e3:(!decide (x<=1000000000000))=decide (1000000000000<x):=by
   by_cases z:x<=1000000000000
   ·rw[decide_eq_true z,decide_eq_false (by omega)];rfl
   ·rw[decide_eq_false z,decide_eq_true (by omega)];rfl
  simp only[Xp7,ev,gZ0,gS0,Rk0,hi,hg,X0,Xj,e1,Xg,e2,Bool.false_or,e3]
theorem X60{row:List Int}{f:Nat}{g:Nat->Nat->Nat}{p:Nat}(hf:Xp6 F f g 11)(hG:Xbb f nm G=true)(hp:p+1<row.length)(hl:row.length<=12)(hx:0<=row.getD p 0/\row.getD p 0<=1000000000000) :
  ∃ X,ev F G Xp8 [some (Xa row),some (.fn f nm),some (.int ((p+1:Nat):Int))] S=.ok (.bl (decide (1<=p)&&decide ((abv g p (row.getD p 0).toNat:Int)<row.getD (p+1) 0))) (S++X):=by
 have e0:((p+1:Nat):Int)-1=(p:Int):=by omega
 by_cases c:1<=p
 ·have hi:=Xdj (row:=row) (p:=p) (by omega) S
  have hi2:=Xdj (row:=row) (p:=p+1) hp;have ex:row.getD p 0=((row.getD p 0).toNat:Int):=by omega
  obtain⟨X,h⟩:=hf (row.getD p 0).toNat p S (by omega) c (by omega)
  rw[<- ex] at h;have e1:decide ((1:Int)<((p+1:Nat):Int))=true:=decide_eq_true (by omega)
  have e2:decide (1<=p)=true:=decide_eq_true c;refine⟨X,?_⟩;simp only[Xp8,ev,evs,gZ0,gS0,Rk0,Xj,X0,e1,Xg,hi2,hG,if_true,Xr,e0,hi,h,e2,Vde]
 ·have e1:decide ((1:Int)<((p+1:Nat):Int))=false:=decide_eq_false (by omega)
  have e2:decide (1<=p)=false:=decide_eq_false c;refine⟨[],?_⟩;simp only[Xp8,ev,gZ0,gS0,Rk0,Xj,X0,e1,Xg,e2,Vcb,Vp]
theorem X0v{row:List Int}{f:Nat}{g:Nat->Nat->Nat}{p:Nat}(hf:Xp6 F f g 11)(hG:Xbb f nm G=true)(hg:G[0]?=some (.int 1000000000000))(hp:p+1<row.length)(hl:row.length<=12)(hx:0<=row.getD p 0/\row.getD p 0<=1000000000000) :
  (Yj g row (p+1)=true/\∃ X,exes F G fbB [some (Xa row),some (.fn f nm),some (.int ((p+1:Nat):Int))] S=.ok (.rt (.int ((p+1:Nat):Int))) (S++X)) \/
  (Yj g row (p+1)=false/\∃ X,exes F G fbB [some (Xa row),some (.fn f nm),some (.int ((p+1:Nat):Int))] S=.ok (.nx [some (Xa row),some (.fn f nm),some (.int ((p+1:Nat):Int))]) (S++X)):=by
 have h1:=X6z (F:=F) (G:=G) (fn:=some (.fn f nm)) (S:=S) hp hg;obtain⟨X,h2⟩:=X60 (F:=F) (G:=G) (S:=S) hf hG hp hl hx;simp only[Yj];rw[<- Bool.or_assoc];generalize (decide (row.getD (p+1) 0<0)||decide (1000000000000<row.getD (p+1) 0))=b1 at h1;generalize (decide (1<=p)&&decide ((abv g p (row.getD p 0).toNat:Int)<row.getD (p+1) 0))=b2 at h2;unfold fbB;cases b1 with
 | true =>
  left;refine⟨by simp,[],?_⟩
  rw[Vp];exact Xf (Xgx rfl h1)
 | false =>
  cases b2 with
  | true =>
   left;refine⟨by simp,X,?_⟩
   rw[Xb (X8 h1)];exact Xf (Xgx rfl h2)
  | false =>
   right;refine⟨by simp,X,?_⟩
   rw[Xb (X8 h1),Xb (X8 h2),exes]
theorem Yi(h0:ds.length=d.np)(he:ds.map some++Vd (d.nl-d.np) none=env)(h:exes F G d.body env S=.ok (.rt r) S'):den F G d ds S=.ok r S':=by
 subst he;unfold den;rw[if_pos h0,h]
theorem Xer{L:Nat}(h:L<=12):Yy [.int 1,.int L]=some ((Vc (L-1)).map fun(k:Nat)=>D.int (1+k)):=by
 have h1:-(1048576:Int)<(L:Int)/\(L:Int)<1048576:=by omega
 have h2:((L:Int)-1).toNat=L-1:=by omega
 simp only[Yy];rw[if_pos ⟨by decide,by decide,h1.1,h1.2⟩,h2]
theorem Xoo(row:List Int)(S:Sto):Xk .len [Xa row] S=.ok (.int row.length) S:=by simp only[Xk,Xa,Xq,Vr]
theorem Xta(hf:Xp6 F f g 11)(hG:Xbb f nm G=true)(hg:G[0]?=some (.int 1000000000000))(h1:1<=row.length)(hl:row.length<=12) :
  ∃ X,den F G dFirst [Xa row,.fn f nm] S=.ok (X7 g row) (S++X):=by
 have hi:=Xdj (row:=row) (p:=0) h1 S;have hc:ev F G (.cmp .ne (.idx (.var 0) (.cst (.int 0))) (.cst (.int 1))) [some (Xa row),some (.fn f nm),none] S=.ok (.bl (Yj g row 0)) S:=by
  have hi':Yb (Xa row) (.int 0) S=.ok (.int (row.getD 0 0)) S:=hi;simp only[ev,gZ0,Rk0,hi',Xgs,Yj]
 have key:∃ X,exes F G dFirst.body [some (Xa row),some (.fn f nm),none] S=.ok (.rt (X7 g row)) (S++X):=by
  unfold dFirst;dsimp only;cases b0:Yj g row 0 with
  | true =>
   rw[b0] at hc;refine⟨[],?_⟩;rw[Xf9 h1 b0 (fun j hj=>by omega),Vp]
   exact Xf (Xoj hc)
  | false =>
   rw[b0] at hc;rw[Xb (X8 hc)];have hit:evit F G (.rng (.cons (.cst (.int 1)) (.cons (.blt .len (.cons (.var 0) .nil)) .nil))) [some (Xa row),some (.fn f nm),none] S=.ok (.con ((Vc (row.length-1)).map fun(k:Nat)=>D.int (1+k))) S :=
    Xbn (ds:=[.int 1,.int row.length]) (by simp only[evs,ev,gZ0,Rk0,Xoo]) (Xer hl)
   have all:∀ i,(∀ j<i,Yj g row (j+1)=false)->∀ j<i+1,Yj g row j=false:=fun i h j hj=>by
    cases j with
    | zero=>exact b0
    | succ j=>exact h j (by omega)
   have lp:=Xb0 (get:=(Src.con ((Vc (row.length-1)).map fun(k:Nat)=>D.int (1+k))).get) (t:=.var 2) (body:=fun env S=>exes F G fbB env S) (xs:=(Vc (row.length-1)).map fun(k:Nat)=>D.int (1+k)) (fun i=>Yj g row (i+1)) (fun i=>.int ((i+1:Nat):Int))
    (fun e S'=>∃ X x,S'=S++X/\e=[some (Xa row),some (.fn f nm),x]) (fun S'=>∃ X,S'=S++X) (fun i S=>rfl)
    (fun i d e S' hd hb hP=>by
     obtain⟨X,x,rfl,rfl⟩:=hP;have hi:i<row.length-1:=by have:=(Ve.mp hd).1;simpa using this
     have hd2:d=.int ((i+1:Nat):Int):=by
      simp only[V1,Uu hi,Vs,Vi] at hd;have e:(1+(i:Int))=((i+1:Nat):Int):=by omega
      rw[<- hd,e]
     subst hd2;refine⟨[some (Xa row),some (.fn f nm),some (.int ((i+1:Nat):Int))],rfl,?_⟩;have hx:=Xs9 (all i hb i (by omega))
     rcases X0v (F:=F) (G:=G) (S:=S++X) hf hG hg (p:=i) (by omega) hl hx with⟨a1,Y,a2⟩|⟨a1,Y,a2⟩
     ·exact .inl ⟨a1,_,a2,X++Y,by rw[Vo]⟩
     ·exact .inr ⟨a1,_,_,a2,X++Y,_,by rw[Vo],rfl⟩)
    (row.length-1+1) 0 [some (Xa row),some (.fn f nm),none] S (by simp) (Uo _) (fun j hj=>by omega) ⟨[],none,by simp,rfl⟩
   have hfor:exe F G (.for (.var 2) (.rng (.cons (.cst (.int 1)) (.cons (.blt .len (.cons (.var 0) .nil)) .nil))) fbB) [some (Xa row),some (.fn f nm),none] S=Xv (Src.con ((Vc (row.length-1)).map fun(k:Nat)=>D.int (1+k))).get (.var 2) (fun env S=>exes F G fbB env S) (row.length-1+1) 0 [some (Xa row),some (.fn f nm),none] S:=by
    simp only[exe,hit,Rk0,Src.most,Vr,U3]
   rcases lp with⟨p,S',p1,p2,p3,p4,X,rfl⟩|⟨p1,e',S',p2,X,x,rfl,rfl⟩
   ·refine⟨X,?_⟩
    rw[Xf (hfor.trans p4)];have hp:p<row.length-1:=by simpa using p1
    rw[Xf9 (p:=p+1) (by omega) p2 (all p p3)]
   ·refine⟨X,?_⟩
    rw[Xb (hfor.trans p2)];have hn:∀ j<row.length,Yj g row j=false:=fun j hj=>by
     cases j with
     | zero=>exact b0
     | succ j=>exact p1 j (by simp;omega)
    rw[Xmk hn];exact Xf (by simp only[exe,ev,Rk0])
 obtain⟨X,key⟩:=key;refine⟨X,?_⟩;exact Yi rfl rfl key
noncomputable def e12:Int:=10^(12:Int).toNat
theorem Xp9(S:Sto):Xs .pow (.int 10) (.int 12) S=.ok (.int e12) S:=Xde (by decide+kernel) S
theorem Xes:e12=1000000000000:=by decide+kernel
noncomputable def X4s:Ex:=.or (.cmp .lt (.var 3) (.cst (.int 0))) (.or (.cmp .gt (.var 3) (.bin .pow (.cst (.int 10)) (.cst (.int 12)))) (.and (.cmp .eq (.var 2) (.cst (.int 0))) (.cmp .ne (.var 3) (.cst (.int 1)))))
noncomputable def Xga(inx:Nat):Ex:=.and (.cmp .gt (.var 2) (.cst (.int 1))) (.cmp .gt (.var 3) (.call inx (.cons (.var 1) (.cons (.idx (.var 0) (.bin .sub (.var 2) (.cst (.int 1)))) (.cons (.bin .sub (.var 2) (.cst (.int 1))) .nil)))))
noncomputable def Xd3(inx:Nat):Sts:=.cons (.ite X4s fbR .nil) (.cons (.ite (Xga inx) fbR .nil) .nil)
noncomputable def Xkt(inx:Nat):Df:=⟨2,4,.cons (.for (.tup [2,3]) (.enm (.cons (.var 0) .nil)) (Xd3 inx)) (.cons (.ret (.cst .non)) .nil)⟩
theorem Xxx(ha:ev F G a env S=.ok (.bl x) S)(hb:ev F G b env S=.ok (.bl y) S):ev F G (.or a b) env S=.ok (.bl (x||y)) S:=by
 rw[ev,ha,Rk0];cases x with
 | true=>simp only[Xg,Bool.true_or]
 | false=>simp only[Xg,hb,Bool.false_or]
theorem X4t(ha:ev F G a env S=.ok (.bl x) S)(hb:ev F G b env S=.ok (.bl y) S):ev F G (.and a b) env S=.ok (.bl (x&&y)) S:=by
 rw[ev,ha,Rk0];cases x with
 | true=>simp only[Xg,hb,Vde]
 | false=>simp only[Xg,Vcb]
theorem X61:ev F G X4s [a0,a1,some (.int p),some (.int x)] S=.ok (.bl (decide (x<0)||(decide (e12<x)||(((p:Int)==0) && !(x==1))))) S:=by
 have h1:ev F G (.cmp .lt (.var 3) (.cst (.int 0))) [a0,a1,some (.int p),some (.int x)] S=.ok (.bl (decide (x<0))) S:=by
  simp only[ev,gZ0,gS0,Rk0];rfl
 have h2:ev F G (.cmp .gt (.var 3) (.bin .pow (.cst (.int 10)) (.cst (.int 12)))) [a0,a1,some (.int p),some (.int x)] S=.ok (.bl (decide (e12<x))) S:=by
  simp only[ev,gZ0,gS0,Rk0,Xp9,Xj,X0]
 have h3:ev F G (.cmp .eq (.var 2) (.cst (.int 0))) [a0,a1,some (.int p),some (.int x)] S=.ok (.bl ((p:Int)==0)) S:=by
  simp only[ev,gZ0,gS0,Rk0,Xbo]
 have h4:ev F G (.cmp .ne (.var 3) (.cst (.int 1))) [a0,a1,some (.int p),some (.int x)] S=.ok (.bl (!(x==1))) S:=by
  simp only[ev,gZ0,gS0,Rk0,Xgs]
 exact Xxx h1 (Xxx h2 (X4t h3 h4))
theorem X62(hf:Xd2 F inx kd)(hp:p+1<row.length)(hl:row.length<=12)(hx:0<=row.getD p 0/\row.getD p 0<=1000000000000) :
  ∃ X,ev F G (Xga inx) [some (Xa row),some (.int kd),some (.int ((p+1:Nat):Int)),some (.int x)] S=.ok (.bl (decide (1<=p)&&decide ((abv (gK kd) p (row.getD p 0).toNat:Int)<x))) (S++X):=by
 have e0:((p+1:Nat):Int)-1=(p:Int):=by omega
 by_cases c:1<=p
 ·have hi:=Xdj (row:=row) (p:=p) (by omega) S
  have ex:row.getD p 0=((row.getD p 0).toNat:Int):=by omega
  obtain⟨X,h⟩:=hf (row.getD p 0).toNat p S (by omega) c (by omega)
  rw[<- ex] at h;have e1:decide ((1:Int)<((p+1:Nat):Int))=true:=decide_eq_true (by omega)
  have e2:decide (1<=p)=true:=decide_eq_true c;refine⟨X,?_⟩;simp only[Xga,ev,evs,gZ0,gS0,Rk0,Xj,X0,e1,Xg,Xr,e0,hi,h,e2,Vde]
 ·have e1:decide ((1:Int)<((p+1:Nat):Int))=false:=decide_eq_false (by omega)
  have e2:decide (1<=p)=false:=decide_eq_false c;refine⟨[],?_⟩;simp only[Xga,ev,gZ0,gS0,Rk0,Xj,X0,e1,Xg,e2,Vcb,Vp]
theorem X4u:ev F G (Xga inx) [a0,a1,some (.int ((0:Nat):Int)),some (.int x)] S=.ok (.bl false) S:=by
 have e1:decide ((1:Int)<((0:Nat):Int))=false:=by decide
 simp only[Xga,ev,gZ0,gS0,Rk0,Xj,X0,e1,Xg]
theorem X0w(hf:Xd2 F inx kd)(hp:p<row.length)(hl:row.length<=12)(hx:∀ q,p=q+1->0<=row.getD q 0/\row.getD q 0<=1000000000000) :
  (Yj (gK kd) row p=true/\∃ X,exes F G (Xd3 inx) [some (Xa row),some (.int kd),some (.int p),some (.int (row.getD p 0))] S=.ok (.rt (.int p)) (S++X)) \/
  (Yj (gK kd) row p=false/\∃ X,exes F G (Xd3 inx) [some (Xa row),some (.int kd),some (.int p),some (.int (row.getD p 0))] S=.ok (.nx [some (Xa row),some (.int kd),some (.int p),some (.int (row.getD p 0))]) (S++X)):=by
 have h1:=X61 (F:=F) (G:=G) (a0:=some (Xa row)) (a1:=some (.int kd)) (p:=p) (x:=row.getD p 0) (S:=S);have h2:∃ X b2,ev F G (Xga inx) [some (Xa row),some (.int kd),some (.int p),some (.int (row.getD p 0))] S=.ok (.bl b2) (S++X)/\Yj (gK kd) row p=((decide (row.getD p 0<0)||(decide (e12<row.getD p 0)||(((p:Int)==0) && !(row.getD p 0==1))))||b2):=by
  cases p with
  | zero =>
   refine⟨[],false,by rw[Vp];exact X4u,?_⟩
   rw[Xes];simp only[Yj,Vd4];generalize row.getD 0 0=x;have e:(((0:Nat):Int)==0)=true:=by decide
   rw[e,Vde]
   by_cases c:x=1
   ·subst c;decide
   ·have:(x==1)=false:=by simpa using c
    rw[this];simp
  | succ q =>
   obtain⟨X,h⟩:=X62 (F:=F) (G:=G) (S:=S) (x:=row.getD (q+1) 0) hf hp hl (hx q rfl);refine⟨X,_,h,?_⟩;rw[Xes];have e:(((q+1:Nat):Int)==0)=false:=by
    have:((q+1:Nat):Int)≠0:=by omega
    simpa using this
   rw[e,Vcb,Vd4];simp only[Yj];rw[Bool.or_assoc]
 obtain⟨X,b2,h2,eb⟩:=h2;rw[eb];generalize (decide (row.getD p 0<0)||(decide (e12<row.getD p 0)||(((p:Int)==0) && !(row.getD p 0==1))))=b1 at h1;unfold Xd3;cases b1 with
 | true =>
  left;refine⟨by simp,[],?_⟩
  rw[Vp];exact Xf (Xgx rfl h1)
 | false =>
  cases b2 with
  | true =>
   left;refine⟨by simp,X,?_⟩
   rw[Xb (X8 h1)];exact Xf (Xgx rfl h2)
  | false =>
   right;refine⟨by simp,X,?_⟩
   rw[Xb (X8 h1),Xb (X8 h2),exes]
theorem Xwg(hf:Xd2 F inx kd)(hl:row.length<=12):∃ X,den F G (Xkt inx) [Xa row,.int kd] S=.ok (X7 (gK kd) row) (S++X):=by
 have hit:evit F G (.enm (.cons (.var 0) .nil)) [some (Xa row),some (.int kd),none,none] S=.ok (.enm (.con (row.map D.int))) S:=by
  simp only[evit,evs,ev,gZ0,Rk0,Xa,Xy]
 have lp:=Xb0 (get:=(Src.enm (.con (row.map D.int))).get) (t:=.tup [2,3]) (body:=fun env S=>exes F G (Xd3 inx) env S) (xs:=(Vc row.length).map (Xcz row)) (Yj (gK kd) row) (fun i=>.int (i:Int))
  (fun e S'=>∃ X x y,S'=S++X/\e=[some (Xa row),some (.int kd),x,y]) (fun S'=>∃ X,S'=S++X)
  (fun i S=>by
   rw[Xs2];congr 1;simp only[V1]
   by_cases q:i<row.length
   ·simp[q,Vds,Xcz]
   ·simp[q])
  (fun i d e S' hd hb hP=>by
   obtain⟨X,x,y,rfl,rfl⟩:=hP;have hi:i<row.length:=by have:=(Ve.mp hd).1;simpa using this
   have hd2:d=Xcz row i:=by
    simp only[V1,Uu hi,Vs,Vi] at hd;exact hd.symm
   subst hd2;refine⟨[some (Xa row),some (.int kd),some (.int i),some (.int (row.getD i 0))],rfl,?_⟩;rcases X0w (F:=F) (G:=G) (S:=S++X) hf hi hl (fun q hq=>Xs9 (hb q (by omega))) with⟨a1,Y,a2⟩|⟨a1,Y,a2⟩
   ·exact .inl ⟨a1,_,a2,X++Y,by rw[Vo]⟩
   ·exact .inr ⟨a1,_,_,a2,X++Y,_,_,by rw[Vo],rfl⟩)
  (row.length+1) 0 [some (Xa row),some (.int kd),none,none] S (by simp) (Uo _) (fun j hj=>by omega) ⟨[],none,none,by simp,rfl⟩
 have hfor:exe F G (.for (.tup [2,3]) (.enm (.cons (.var 0) .nil)) (Xd3 inx)) [some (Xa row),some (.int kd),none,none] S=Xv (Src.enm (.con (row.map D.int))).get (.tup [2,3]) (fun env S=>exes F G (Xd3 inx) env S) (row.length+1) 0 [some (Xa row),some (.int kd),none,none] S:=by
  simp only[exe,hit,Rk0,Src.most,Vr]
 rcases lp with⟨p,S',p1,p2,p3,p4,X,rfl⟩|⟨p1,e',S',p2,X,x,y,rfl,rfl⟩
 ·refine⟨X,Yi rfl rfl ?_⟩
  unfold Xkt;rw[Xf9 (by simpa using p1) p2 p3]
  exact Xf (hfor.trans p4)
 ·refine⟨X,Yi rfl rfl ?_⟩
  unfold Xkt;rw[Xmk (fun j hj=>p1 j (by simpa using hj))]
  exact(Xb (hfor.trans p2)).trans (Xf (by simp only[exe,ev,Rk0]))
noncomputable def Xtb(iw:Nat):Df:=⟨1,1,.cons (.ret (.and (.isi (.var 0) [.tuple]) (.and (.chn .le .le (.cst (.int 1)) (.blt .len (.cons (.var 0) .nil)) (.cst (.int 12))) (Xkm iw)))) .nil⟩
theorem Xtc(hw:Xco F iw)(t:Thing S d):∃ X,den F G (Xtb iw) [d] S=.ok (.bl (isr d)) (S++X):=by
 by_cases h:∃ xs,d=.tup xs
 ·obtain⟨xs,rfl⟩:=h
  have hk:kdD S (.tup xs)=some .tuple:=rfl;have hi:ev F G (.isi (.var 0) [.tuple]) [some (.tup xs)] S=.ok (.bl true) S:=by
   simp only[ev,gZ0,Rk0,hk,Vv,Yq,isT]
  have hc:=Xst (F:=F) (G:=G) (a:=.cst (.int 1)) (c:=.cst (.int 12)) (n:=xs.length) (lo:=1) (hi:=12) (d:=.tup xs) (env:=[some (.tup xs)]) (S:=S) (S':=S) rfl rfl (by simp only[ev]) (by simp only[ev])
  obtain⟨t1,t2⟩:=t.el xs rfl;have ha:=Xl9 (G:=G) hw t1 (Vy t2 (by omega))
  have e1:(decide ((1:Int)<=(xs.length:Int))&&decide ((xs.length:Int)<=12))=(decide (1<=xs.length)&&decide (xs.length<=12)):=by
   congr 1
   ·exact decide_eq_decide.mpr (by omega)
   ·exact decide_eq_decide.mpr (by omega)
  rw[e1] at hc;have e2:isr (.tup xs)=((decide (1<=xs.length)&&decide (xs.length<=12))&&xs.all wh):=by simp only[isr];rw[Bool.and_comm]
  rw[e2];generalize (decide (1<=xs.length)&&decide (xs.length<=12))=b at hc;cases b with
  | true =>
   refine⟨_,Yi rfl rfl (Xf (d:=.bl (true&&xs.all wh)) (S1:=S++[.lst ((xs.map wh).map D.bl)]) ?_)⟩;show exe F G _ [some (.tup xs)] S=_;rw[exe,ev,hi,Rk0];simp only[Xg];rw[ev,hc,Rk0];simp only[Xg];rw[ha,Rk0,Vde]
  | false =>
   refine⟨[],Yi rfl rfl (Xf (d:=.bl (false&&xs.all wh)) (S1:=S++[]) ?_)⟩;show exe F G _ [some (.tup xs)] S=_;rw[exe,ev,hi,Rk0];simp only[Xg];rw[ev,hc,Rk0];simp only[Xg,Rk0,Vcb,Vp]
 ·obtain⟨kd,h1,h2⟩:=t.gd
  have hn:kd≠.tuple:=fun z=>by
   subst z;cases d with
   | tup xs=>exact h ⟨xs,rfl⟩
   | ref n =>
    simp only[kdD] at h1;split at h1<;>cases h1
   | _=>cases h1
  have e:isr d=false:=by
   cases d with
   | tup xs=>exact absurd ⟨xs,rfl⟩ h
   | _=>rfl
  have hi:=Xsn h2 hn;rw[e];refine⟨[],Yi rfl rfl (Xf (d:=.bl false) (S1:=S++[]) ?_)⟩;show exe F G _ [some d] S=_;rw[exe,ev];simp only[ev,gZ0,Rk0,h1,Vv,hi,Xg,Vp]
noncomputable def Xtd(ic ib ig:Nat):Df:=⟨1,1,.cons (.expr (.call ic (.cons (.var 0) .nil))) (.cons (.ret (.call ib (.cons (.var 0) (.cons (.glb ig) .nil)))) .nil)⟩
theorem Xwh(h1:F ic [d] S=.ok .non S1)(hg:G[ig]?=some f)(h2:F ib [d,f] S1=.ok r S2):den F G (Xtd ic ib ig) [d] S=.ok r S2:=by
 have s1:exe F G (.expr (.call ic (.cons (.var 0) .nil))) [some d] S=.ok (.nx [some d]) S1:=by
  simp only[exe,ev,evs,gZ0,Rk0,h1]
 exact Yi rfl rfl ((Xb s1).trans (Xf (by simp only[exe,ev,evs,gZ0,Rk0,hg,h2])))
theorem X8d(l:List Int)(S:Sto):Xk3 (Xa l) S=.ok (Xa l.reverse) S:=by
 unfold Xa;simp only[Xk3,List.map_reverse]
theorem Xml{l:List Int}{i:Nat}(h:i<l.length):(l.map D.int)[i]?=some (.int (l.getD i 0)):=by
 rw[V1,Van,Uy h];rfl
noncomputable def Xin:Sts:=.cons (.ite (.cmp .ne (.var 3) (.var 4)) (.cons (.ret (.var 2)) .nil) .nil) .nil
noncomputable def Xqa:Exs:=.cons (.var 1) (.cons (.rev (.var 1)) .nil)
noncomputable def Xio(it:Nat):Df:=⟨1,5,.cons (.asg (.var 1) (.call it (.cons (.var 0) .nil))) (.cons (.for (.nst 2 [3,4]) (.ezp Xqa) Xin) (.cons (.ret (.cst .non)) .nil))⟩
noncomputable def Xb7(h:List Int)(i:Nat):Bool:=!(h.getD i 0==h.reverse.getD i 0)
noncomputable def Xau(h:List Int):Option Nat:=(Vc h.length).find? (Xb7 h)
noncomputable def Xip:Option Nat->D
 | some n=>.int n
 | none=>.non
theorem X0x(hp:p<h.length)(h1:Xb7 h p=true)(h2:∀ j<p,Xb7 h j=false):Xau h=some p:=by
 unfold Xau;rw[List.find?_range_eq_some];exact⟨h1,Vbd.mpr hp,fun j hj=>by rw[h2 j hj];rfl⟩
theorem X0y(h2:∀ j<h.length,Xb7 h j=false):Xau h=none:=by
 unfold Xau;rw[List.find?_eq_none];exact fun j hj=>by rw[h2 j (Vbd.mp hj)];exact V9
theorem Xwi{a0 a1:Option D}{i x y:Int}:exes F G Xin [a0,a1,some (.int i),some (.int x),some (.int y)] S=if x=y then .ok (.nx [a0,a1,some (.int i),some (.int x),some (.int y)]) S else .ok (.rt (.int i)) S:=by
 have hc:ev F G (.cmp .ne (.var 3) (.var 4)) [a0,a1,some (.int i),some (.int x),some (.int y)] S=.ok (.bl (!(x==y))) S:=by
  simp only[ev,gZ0,gS0,Rk0,Xgs]
 unfold Xin
 by_cases z:x=y
 ·rw[if_pos z]
  have hb:(!(x==y))=false:=by rw[beq_iff_eq.mpr z];rfl
  rw[hb] at hc;rw[Xb (X8 hc)];simp only[exes]
 ·rw[if_neg z]
  have hb:(!(x==y))=true:=by rw[beq_eq_false_iff_ne.mpr z];rfl
  rw[hb] at hc;refine Xf ?_;rw[exe,hc,Rk0];simp only[Xg,exes,exe,ev,gZ0,gS0,Rk0]
noncomputable def ezL(h:List Int):List D:=(Vc h.length).map fun(i:Nat)=>D.tup [.int i,.tup [.int (h.getD i 0),.int (h.reverse.getD i 0)]]
theorem X4v(h:List Int)(i:Nat)(S:Sto):(Src.enm (.zpp (.con (h.map D.int)) (.con (h.reverse.map D.int)))).get S i=some (ezL h)[i]?:=by
 by_cases hi:i<h.length
 ·have e1:=Xml hi
  have e2:=Xml (l:=h.reverse) (i:=i) (by simpa using hi)
  simp only[Src.get,e1,e2,ezL];simp[hi]
 ·have e1:(h.map D.int)[i]?=none:=Vbg (by simpa using hi)
  simp only[Src.get,e1,ezL];rw[Vbg (by simpa using hi)]
theorem X0z(ht:F it [Xa l] S=.ok (Xa h) S1)(hl:h.length<=1000):den F G (Xio it) [Xa l] S=.ok (Xip (Xau h)) S1:=by
 have s1:=Xu (i:=1) (F:=F) (G:=G) (e:=.call it (.cons (.var 0) .nil)) (env:=[some (Xa l),none,none,none,none]) (S:=S) (d:=Xa h) (S':=S1) (by simp only[ev,evs,gZ0,Rk0,ht])
 have hit:evit F G (.ezp Xqa) [some (Xa l),some (Xa h),none,none,none] S1=.ok (.enm (.zpp (.con (h.map D.int)) (.con (h.reverse.map D.int)))) S1:=by
  simp only[evit,Xqa,evs,ev,gZ0,gS0,Rk0,X8d];rfl
 have lp:=Xb0 (get:=(Src.enm (.zpp (.con (h.map D.int)) (.con (h.reverse.map D.int)))).get) (t:=.nst 2 [3,4]) (body:=fun env S=>exes F G Xin env S) (xs:=ezL h) (Xb7 h) (fun i=>.int (i:Int))
  (fun e S'=>∃ x y z,S'=S1/\e=[some (Xa l),some (Xa h),x,y,z]) (fun S'=>S'=S1) (fun i S=>X4v h i S)
  (fun i d e S' hd hb hP=>by
   obtain⟨x,y,z,rfl,rfl⟩:=hP;have hi:i<h.length:=by have:=(Ve.mp hd).1;simpa [ezL] using this
   have hd2:d=.tup [.int i,.tup [.int (h.getD i 0),.int (h.reverse.getD i 0)]]:=by
    simp only[ezL,V1,Uu hi,Vs,Vi] at hd;exact hd.symm
   subst hd2;refine⟨[some (Xa l),some (Xa h),some (.int i),some (.int (h.getD i 0)),some (.int (h.reverse.getD i 0))],rfl,?_⟩;have hbd:=Xwi (F:=F) (G:=G) (a0:=some (Xa l)) (a1:=some (Xa h)) (i:=i) (x:=h.getD i 0) (y:=h.reverse.getD i 0) (S:=S')
   by_cases q:h.getD i 0=h.reverse.getD i 0
   ·rw[if_pos q] at hbd
    exact .inr ⟨by unfold Xb7;rw[beq_iff_eq.mpr q];rfl,_,_,hbd,_,_,_,rfl,rfl⟩
   ·rw[if_neg q] at hbd
    exact .inl ⟨by unfold Xb7;rw[beq_eq_false_iff_ne.mpr q];rfl,_,hbd,rfl⟩)
  (h.length+1) 0 [some (Xa l),some (Xa h),none,none,none] S1 (by simp[ezL]) (Uo _) (fun j hj=>by omega) ⟨none,none,none,rfl,rfl⟩
 have hfor:exe F G (.for (.nst 2 [3,4]) (.ezp Xqa) Xin) [some (Xa l),some (Xa h),none,none,none] S1=Xv (Src.enm (.zpp (.con (h.map D.int)) (.con (h.reverse.map D.int)))).get (.nst 2 [3,4]) (fun env S=>exes F G Xin env S) (h.length+1) 0 [some (Xa l),some (Xa h),none,none,none] S1:=by
  have hm:Src.most (.enm (.zpp (.con (h.map D.int)) (.con (h.reverse.map D.int)))) S1=h.length:=by simp[Src.most]
  simp only[exe,hit,Rk0,hm]
 rcases lp with⟨p,S',p1,p2,p3,p4,rfl⟩|⟨p1,e',S',p2,x,y,z,rfl,rfl⟩
 ·refine Yi rfl rfl ?_
  unfold Xio;rw[X0x (by simpa [ezL] using p1) p2 p3]
  exact(Xb s1).trans (Xf (hfor.trans p4))
 ·refine Yi rfl rfl ?_
  unfold Xio;rw[X0y (fun j hj=>p1 j (by simpa [ezL] using hj))]
  exact(Xb s1).trans ((Xb (hfor.trans p2)).trans (Xf (by simp only[exe,ev,Rk0,Xip])))
theorem X4w(h:F it [d] S=.ex n S1):den F G (Xio it) [d] S=.ex n S1:=by
 simp only[den,Xio,V0,if_true,V2,Vd];rw[Xdb (n:=n) (S1:=S1) (by simp only[exe,ev,evs,Ur,gZ0,Rk0,h,R.bind_ex])]
noncomputable def Xqb:Ex:=.cmr false 3 (.cons (.tup [3,4]) (.zpp (.cons (.var 1) (.cons (.sli (.var 1) (.some (.cst (.int 1))) .none) .nil))) .nil .nil) (.bin .sub (.var 4) (.var 3))
noncomputable def Xxy(ih:Nat):Df:=⟨1,2,.cons (.asg (.var 1) (.sli (.var 0) .none (.some (.call ih (.cons (.bin .sub (.blt .len (.cons (.var 0) .nil)) (.cst (.int 1))) .nil)))))
 (.cons (.ret (.bin .add (.sli (.var 1) .none (.some (.cst (.int 1)))) (.blt .tuple (.cons Xqb .nil)))) .nil)⟩
noncomputable def stp(h:List Int):List Int:=h.getD 0 0::(Vc ((h.length+1)/2-1)).map fun i=>h.getD (i+1) 0-h.getD i 0
noncomputable def gpr(h:List Int)(i:Nat):D:=.tup [.int (h.getD i 0),.int (h.getD (i+1) 0)]
theorem X4x(h:List Int)(i:Nat)(S:Sto):(Src.zpp (.con (h.map D.int)) (.con ((h.drop 1).map D.int))).get S i=some ((Vc (h.length-1)).map (gpr h))[i]?:=by
 by_cases hi:i<h.length-1
 ·have e1:=Xml (l:=h) (i:=i) (by omega)
  have e2:=Xml (l:=h.drop 1) (i:=i) (by simpa using hi)
  have e3:(h.drop 1).getD i 0=h.getD (i+1) 0:=by simp[Vds,Nat.add_comm]
  rw[e3] at e2;simp only[Src.get,e1,e2];simp[hi,gpr]
 ·have e2:((h.drop 1).map D.int)[i]?=none:=Vbg (by simpa using hi)
  rw[Vbg (l:=(Vc (h.length-1)).map (gpr h)) (by simpa using hi)]
  simp only[Src.get,e2];cases (h.map D.int)[i]?<;>rfl
theorem X00(hl:h.length<=1000):ev F G Xqb [a,some (Xa h)] S=.ok (.ref S.length) (S++[.lst (((Vc (h.length-1)).map fun i=>h.getD (i+1) 0-h.getD i 0).map D.int)]):=by
 have h1:Xaw (Xa h) (some 1) none S=.ok (Xa (h.drop 1)) S:=Xeo h 1 S;have hit:evit F G (.zpp (.cons (.var 1) (.cons (.sli (.var 1) (.some (.cst (.int 1))) .none) .nil))) [a,some (Xa h)] S=.ok (.zpp (.con (h.map D.int)) (.con ((h.drop 1).map D.int))) S:=by
  simp only[evit,evs,ev,evo,gZ0,gS0,Rk0,Xa6,h1];rfl
 obtain⟨e',S',h2,rfl,_⟩:=Xa0 (F:=F) (G:=G) (t:=.tup [3,4]) (n:=3) (elt:=.bin .sub (.var 4) (.var 3)) ((Vc (h.length-1)).map (gpr h)) (fun i=>.int (h.getD (i+1) 0-h.getD i 0))
  (fun i e S'=>S'=S/\∃ x y,e=[a,some (Xa h),none,x,y]) hit (by simp[Src.most]) (X9 (by simp;omega)) ⟨rfl,none,none,rfl⟩
  (fun i e S' hP=>by obtain⟨rfl,_⟩:=hP;exact X4x h i S')
  (fun i d e S' hd hP=>by
   obtain⟨rfl,x,y,rfl⟩:=hP;have hi:i<h.length-1:=by have:=(Ve.mp hd).1;simpa using this
   simp only[V1,Uu hi,Vs,Vi] at hd;subst hd;exact⟨[a,some (Xa h),none,some (.int (h.getD i 0)),some (.int (h.getD (i+1) 0))],_,rfl,by simp only[ev,gZ0,gS0,Rk0,Xr],rfl,_,_,rfl⟩)
 unfold Xqb;rw[h2];simp[Vbs]
theorem Xte(h1:1<=h.length):let hh:=h.take ((h.length-1)/2+1);hh.take 1++(Vc (hh.length-1)).map (fun i=>hh.getD (i+1) 0-hh.getD i 0)=stp h:=by
 have hd:∀ {n i:Nat},i<n->(h.take n).getD i 0=h.getD i 0:=fun {n i} q=>by simp[Vds,List.getElem?_take,q]
 intro hh;have lh:hh.length=(h.length+1)/2:=by simp only[hh,Vba];omega
 have e1:hh.take 1=[h.getD 0 0]:=by
  show(h.take ((h.length-1)/2+1)).take 1=_;rw[List.take_take,Nat.min_eq_left (by omega)]
  match h,h1 with
  | x::xs,_=>rfl
 unfold stp;rw[e1,lh];show _::_=_::_;congr 1;refine Vch fun i hi=>?_
 have:=Vbd.mp hi;show(h.take _).getD (i+1) 0-(h.take _).getD i 0=_;rw[hd (by omega),hd (by omega)]
theorem Xwj(hh:∀ (w:Int) (S:Sto),F ih [.int w] S=.ok (.int (w/2+1)) S)(h1:1<=h.length)(hl:h.length<=12):∃ X,den F G (Xxy ih) [Xa h] S=.ok (Xa (stp h)) (S++X):=by
 have hn:((h.length:Int)-1)/2+1=((h.length-1)/2+1:Nat):=by omega
 have s1:=Xu (i:=1) (F:=F) (G:=G) (e:=.sli (.var 0) .none (.some (.call ih (.cons (.bin .sub (.blt .len (.cons (.var 0) .nil)) (.cst (.int 1))) .nil)))) (env:=[some (Xa h),none]) (S:=S) (d:=Xa (h.take ((h.length-1)/2+1))) (S':=S) (by
  simp only[ev,evo,evs,gZ0,Rk0,Xcn,Xr,hh,hn,Xa6];exact Xcp h _ S)
 have hs:=Xte h1;have hln:(h.take ((h.length-1)/2+1)).length<=12:=by rw[Vba];omega
 generalize h.take ((h.length-1)/2+1)=hf at s1 hs hln;have g:=X00 (F:=F) (G:=G) (a:=some (Xa h)) (h:=hf) (S:=S) (by omega)
 have h3:Xaw (Xa hf) none (some 1) S=.ok (Xa (hf.take 1)) S:=Xcp hf 1 S;refine⟨[.lst (((Vc (hf.length-1)).map fun i=>hf.getD (i+1) 0-hf.getD i 0).map D.int)],Yi (env:=[some (Xa h),none]) rfl rfl ?_⟩
 refine(Xb s1).trans (Xf ?_);have ht:Xk .tuple [.ref S.length] (S++[.lst (((Vc (hf.length-1)).map fun i=>hf.getD (i+1) 0-hf.getD i 0).map D.int)])=.ok (Xa ((Vc (hf.length-1)).map fun i=>hf.getD (i+1) 0-hf.getD i 0)) (S++[.lst (((Vc (hf.length-1)).map fun i=>hf.getD (i+1) 0-hf.getD i 0).map D.int)]):=by simp only[Xk,Xq,Xe,Xa]
 simp only[exe,ev,evo,evs,Vak,gZ0,gS0,Rk0,Xa6,h3,g,ht];rw[Xv1 _ _ _ (by simp;omega),hs]
 rfl
theorem Xet{get:Sto->Nat->Option (Option D)}{xs:List D}(b:Nat->Bool)(y:Nat->D)(P:En->Prop)(hget:∀ i,get S i=some xs[i]?)
  (step:∀ i d e,xs[i]?=some d->P e->∃ e1,Xl t d e=some e1/\evts F G ifs e1 S=.ok (b i) S/\ev F G elt e1 S=.ok (y i) S/\P e1):∀ (fuel i:Nat) (e:En) (acc:List D),i<=xs.length->xs.length<fuel+i->acc.length+(xs.length-i)<=1000->P e ->
  Yo get t (Xab (fun env S=>evts F G ifs env S) (fun env acc S=>(ev F G elt env S).bind fun y S=>if acc.length<big then .ok (acc++[y]) S else .bad)) fuel i e acc S=.ok (acc++(((Vc xs.length).drop i).filter b).map y) S
 | 0,i,e,acc,h1,h2,h3,h4=>by omega
 | fuel+1,i,e,acc,h1,h2,h3,h4=>by
  cases q:xs[i]? with
  | none =>
   have hi:i=xs.length:=by have:=V7.mp q;omega
   simp only[Yo,hget,q];rw[hi,List.drop_eq_nil_of_le (by simp)]
   simp
  | some d =>
   obtain⟨hi,_⟩:=Ve.mp q;obtain⟨e1,a1,a2,a3,a4⟩:=step i d e q h4;have dr:(Vc xs.length).drop i=i::(Vc xs.length).drop (i+1):=by rw[List.drop_eq_getElem_cons (by simpa using hi)];simp
   simp only[Yo,hget,q,a1,Xab,a2,Rk0];rw[dr];cases hw:b i with
   | false =>
    have ih:=Xet b y P hget step fuel (i+1) e1 acc (by omega) (by omega) (by omega) a4
    simp only[if_false,List.filter_cons,hw,Ud];exact ih
   | true =>
    have ih:=Xet b y P hget step fuel (i+1) e1 (acc++[y i]) (by omega) (by omega) (by simp;omega) a4
    have hb:acc.length<big:=Vu (show acc.length<1001 by omega) (by decide)
    simp only[if_true,a3,Rk0,hb,List.filter_cons,hw,V2];rw[Vo] at ih;exact ih
theorem X4y{n:Nat}{xs:List D}(b:Nat->Bool)(y:Nat->D)(P:En->Prop)(hit:evit F G it env S=.ok src S)(hm:src.most S=xs.length)(hl:xs.length<=1000)(h0:P (env++Vd n none))(hget:∀ i,src.get S i=some xs[i]?)
  (step:∀ i d e,xs[i]?=some d->P e->∃ e1,Xl t d e=some e1/\evts F G ifs e1 S=.ok (b i) S/\ev F G elt e1 S=.ok (y i) S/\P e1) :
  ev F G (.cmr false n (.cons t it ifs .nil) elt) env S=.ok (.ref S.length) (S++[.lst (((Vc xs.length).filter b).map y)]):=by
 have h:=Xet (F:=F) (G:=G) (ifs:=ifs) (elt:=elt) b y P hget step (xs.length+1) 0 _ [] (Uo _) (by omega) (by simpa using hl) h0
 rw[List.drop_zero,Uj] at h;exact X4k hit hm h
theorem Xtf(b:Nat->Bool)(l:List Nat):(l.filter b)[0]?=l.find? b:=by
 rw[<- List.head?_eq_getElem?,List.head?_filter]
end
end Z
end
section
namespace Z
theorem Xop(c:Int)(f:Nat->Int):∀ l:List Nat,(l.map fun i=>c*f i).sum=c*(l.map f).sum
 | []=>by simp
 | x::l=>by simp only[V2,Vd7,Xop c f l,Int.mul_add]
end Z
end
section
namespace Z
open PySem
theorem X01{h:List Int}{i:Nat}(hi:i<h.length):h.reverse.getD i 0=h.getD (h.length-1-i) 0:=by
 rw[Van,Van,Vea hi]
theorem Xwk(h1:1<=h.length):(stp h).length=(h.length+1)/2:=by
 unfold stp;simp only[Ug,Vr,U3];omega
section
variable{F:Fn}{G:List D}
theorem ixn{N i:Nat}{x:Int}(h:i<N)(e:x=(i:Int)):ixN N x=some i:=by
 subst e;unfold ixN;rw[if_pos (by omega),if_pos (by omega)]
 simp
end
theorem Ext.setq(h:Ext p S S')(hq:S.length<=q):Ext p S (S'.set q o):=fun n u hn e=>by
 have hlt:n<S.length:=(Ve.mp e).1;rw[Ux (by omega)]
 exact h n u hn e
theorem Xjy{get:Sto->Nat->Option (Option D)}{body:En->Sto->R Fl}{xs:List D}(P:Nat->En->Sto->Prop)(Q:D->Sto->Prop)(hget:∀ i S,get S i=some xs[i]?)
  (step:∀ i d e S,xs[i]?=some d->P i e S->∃ e1,Xl t d e=some e1/\((∃ r S',body e1 S=.ok (.rt r) S'/\Q r S')\/∃ e2 S',body e1 S=.ok (.nx e2) S'/\P (i+1) e2 S')) :
  ∀ (fuel i:Nat) (e:En) (S:Sto),xs.length<fuel+i->i<=xs.length->P i e S->(∃ r S',Xv get t body fuel i e S=.ok (.rt r) S'/\Q r S')\/∃ e' S',Xv get t body fuel i e S=.ok (.nx e') S'/\P xs.length e' S'
 | 0,i,e,S,h1,h2,h3=>by omega
 | fuel+1,i,e,S,h1,h2,h3=>by
  cases q:xs[i]? with
  | none =>
   have hi:i=xs.length:=by have:=V7.mp q;omega
   right;refine⟨e,S,?_,by rw[<- hi];exact h3⟩
   simp only[Xv,hget,q]
  | some d =>
   have hi:i<xs.length:=(Ve.mp q).1;obtain⟨e1,a1,a2⟩:=step i d e S q h3;rcases a2 with⟨r,S',b2,b3⟩|⟨e2,S',b2,b3⟩
   ·left
    refine⟨r,S',?_,b3⟩;simp only[Xv,hget,q,a1,b2]
   ·have ih:=Xjy P Q hget step fuel (i+1) e2 S' (by omega) hi b3
    simp only[Xv,hget,q,a1,b2];exact ih
theorem Xoq:∀ i:Nat,1<=fac i
 | 0=>Vh _
 | i+1=>by simp only[fac];exact Vy (Xoq i) (Nat.le_mul_of_pos_right _ (by omega))
theorem Xqc(n i:Nat):C n i<=n^i:=by
 have h:=Xih n i;have h2:C n i*1<=C n i*fac i:=Vew _ (Xoq i);rw[Nat.mul_one] at h2;exact Vy h2 h
theorem Xor:∀ (k:Nat) (l:List Int),(∀ x∈l,∀ j≤k,g x.toNat j<=B)->Xa7 g k l<=k*B
 | k,[],_=>by
  have e:Xa7 g k []=0:=by cases k<;>rfl
  rw[e];exact Uo _
 | 0,_::_,_=>Uo _
 | k+1,x::r,h=>by
  have ih:=Xor k r (fun y hy j hj=>h y (Uw _ hy) j (by omega))
  have h1:=h x (Vbw ..) (k+1) (Vh _);simp only[Xa7];rw[Ved];omega
theorem Xmm(ha:a<=2^41)(hk:k<=12):a^k<=2^492:=by
 calc a^k<=(2^41)^k:=Nat.pow_le_pow_left ha k
  _=2^(41*k):=by rw[<- Nat.pow_mul]
  _<=2^492:=Vc7 (by decide) (by omega)
theorem X63(ha:a<2^41)(hj:j<=11):gK kd a j<=2^492:=by
 unfold gK;split
 ·exact Vy (Xqc _ _) (Xmm (by omega) (by omega))
 ·split
  ·exact Vy (Xqc _ _) (Xmm (by omega) (by omega))
  ·exact Vy (Xqc _ _) (Xmm (by omega) (by omega))
theorem X4z(hs:s<=11)(hn:n<=1000000000000):abv (gK kd) s n<=11*2^492:=by
 unfold abv;have e41:(2:Nat)^41=2199023255552:=by decide
 have key:∀ w,(∀ x∈w,0<=x/\x<=(n:Int)+s)->Xa7 (gK kd) s w<=11*2^492:=fun w hw=>by
  have h:=Xor (g:=gK kd) (B:=2^492) s w (fun x hx j hj=>X63 (by have:=(hw x hx).2;rw[e41];omega) (by omega))
  exact Vy h (Nat.mul_le_mul_right _ hs)
 by_cases hx:∃ w,Wr s n w
 ·obtain⟨w,hw⟩:=hx
  rw[Xs7 hw];exact key w (Xko hw)
 ·unfold wri
  rw[dif_neg hx];exact key [] (fun x h=>by cases h)
noncomputable def mx:Nat:=2^500
theorem X40:11*2^492+1<=mx:=by decide+kernel
theorem Xgy:1000000000001<=mx:=by decide+kernel
theorem X41{x:Int}(h:x.natAbs<=mx):x.natAbs.log2<1920:=by
 have h2:x.natAbs<2^501:=Vbj h (by decide+kernel)
 have:=Xgv h2 (by decide)
 omega
theorem X42(h:n<=mx)(h0:0<n):Yd (n:Int)=true:=by
 have h2:n<2^501:=Vbj h (by decide+kernel)
 have h3:=Xgv h2 (by decide)
 unfold Yd;have e:((n:Int)).natAbs=n:=Ve4 n;rw[e,decide_eq_true (by omega:(0:Int)<n),decide_eq_true (by omega:n.log2<9000)]
 rfl
structure Kq(p q:Nat)(S0:Sto)(l:List Int)(S:Sto):Prop where
 ex:Ext p S0 S
 pot:∃ v,Xc S p=some [.int v]
 row:Xc S q=some (l.map D.int)
section
variable{p q:Nat}{S0 S X:Sto}{l:List Int}
theorem Kq.app(h:Kq p q S0 l S):Kq p q S0 l (S++X):=⟨h.ex.trans .app,let ⟨v,e⟩:=h.pot;⟨v,Xm e⟩,Xm h.row⟩
theorem Kq.setp(h:Kq p q S0 l S)(hpq:q≠p)(v:Int):Kq p q S0 l (S.set p (.lst [.int v])):=⟨h.ex.trans .set,let ⟨_,e⟩:=h.pot;⟨v,Yx (Yv e)⟩,Ext.lst (Ext.set (p:=p) (S:=S) (o:=.lst [.int v])) hpq h.row⟩
theorem Kq.setq(h:Kq p q S0 l S)(hpq:q≠p)(hq:S0.length<=q):Kq p q S0 l' (S.set q (.lst (l'.map D.int))):=⟨h.ex.setq hq,let ⟨v,e⟩:=h.pot;⟨v,Ext.lst (Ext.set (p:=q) (S:=S) (o:=.lst (l'.map D.int))) (Ne.symm hpq) e⟩,Yx (Yv h.row)⟩
end
section
variable{F:Fn}{G:List D}
theorem Xos(h:Xc S q=some xs)(hk:k<xs.length):Yb (.ref q) (.int k) S=.ok xs[k] S:=by
 have e:ixN xs.length (k:Int)=some k:=by
  unfold ixN;rw[if_pos (by omega),if_pos (by omega)]
  simp
 simp only[Yb,Xal,Xq,h,Vv,e,Uy hk]
theorem X43(h:Xc S q=some ((x::r).map D.int)):Xbx (.ref q) (.int 0) (.int v) S=.ok () (S.set q (.lst ((v::r).map D.int))):=by
 have h':lstM S q=some ((x::r).map D.int):=h;have e:ixN ((x::r).map D.int).length 0=some 0:=by
  unfold ixN;rw[if_pos (by decide),if_pos (by simp)]
  rfl
 simp only[Xbx,h',e];rfl
end
end Z
end
section
namespace K51
open PySem PySem.Spec PyProof.Rows L2 Z
noncomputable def top(i:Nat):Stmt:=PySem.Challenge.pw_facecounts_k51_what_bars_a_row.main.body.getD i (.Pass ⟨0,0,0,0⟩)
noncomputable def gns:List Str:=["GREATEST_NUMBER","MOST_CHOSEN","GREATEST_WIDTH","bags_above"]
noncomputable def G:List D:=[.int 1000000000000,.int 12,.int 11,.fn 4 "bags_above"]
noncomputable def fns:List (Str×Nat×Bool):=([("is_whole",1,true),("is_whole_within",3,true),("is_whole_tuple",1,true),("writing",2,true),("bags_above",2,true),("check_written",2,true),("ways",2,true),("most_things",2,true),("written_parts",2,true),("is_row",1,true),("turned",1,true),("first_uneven",1,true),("check_row",1,true),("growth",1,true),("half_size",1,true),("parts_at",2,true),("in_turns",1,true),("not_of_crowd",1,true),("first_beyond",2,true),("barred",1,true)]:List (Str×Nat×Bool))++([("_law_cell_at",2,true),("_law_pot",1,true),("_law_take",2,true),("_law_whole",1,true),("_law_word",1,false),("_law_ways",2,true),("_law_writing",2,true),("_law_next_by",3,true),("_law_first_not",2,true),("_law_is_row",1,true),("_law_turned",1,true),("_law_even_row",2,true),("_law_steps",1,true),("_law_said",1,true),("_law_due",1,true),("_law_numbers",2,true),("law",1,true)]:List (Str×Nat×Bool))
noncomputable def Xqd:Sts:=(.cons (.ret (.and (.isi (.var 0) [.int]) (.not (.isi (.var 0) [.bool]))))
  .nil)
noncomputable def Xgz:Df:=⟨1,1,Xqd⟩
noncomputable def Xqe:List Str:=["thing"]
noncomputable def Xfc:Sts:=(.cons (.ret (.and (.call 0 (.cons (.var 0) .nil)) (.chn .le .le (.var 1) (.var 0) (.var 2))))
  .nil)
noncomputable def Xb8:Df:=⟨3,3,Xfc⟩
noncomputable def Xfd:List Str:=["thing","low","high"]
noncomputable def Xgb:Sts:=(.cons (.ret (.and (.isi (.var 0) [.tuple]) (.blt .all (.cons (.cmr false 2 (.cons (.var 2) (.val (.var 0)) .nil .nil) (.call 0 (.cons (.var 2) .nil))) .nil))))
  .nil)
noncomputable def Xcr:Df:=⟨1,1,Xgb⟩
noncomputable def Xgc:List Str:=["thing"]
noncomputable def Xtg:Sts:=(.cons (.expr (.call 5 (.cons (.var 0) (.cons (.var 1) .nil))))
  (.cons (.asg (.var 2) (.lst .nil))
  (.cons (.asg (.var 3) (.var 0))
  (.cons (.for (.var 4) (.rng (.cons (.var 1) (.cons (.cst (.int 0)) (.cons (.neg (.cst (.int 1))) .nil)))) (.cons (.ite (.cmp .eq (.var 3) (.cst (.int 0))) (.cons .brk
  .nil) .nil)
  (.cons (.asg (.var 5) (.call 7 (.cons (.var 3) (.cons (.var 4) .nil))))
  (.cons (.expr (.mth .append (.var 2) (.cons (.var 5) .nil)))
  (.cons (.aug 3 .sub (.call 6 (.cons (.var 5) (.cons (.var 4) .nil))))
  .nil)))))
  (.cons (.ret (.blt .tuple (.cons (.var 2) .nil)))
  .nil)))))
noncomputable def Xjz:Df:=⟨2,6,Xtg⟩
noncomputable def Xth:List Str:=["number","size","told","rest","chosen","things"]
noncomputable def Xmn:Sts:=(.cons (.ret (.blt .sum (.cons (.cmr false 3 (.cons (.tup [3,4]) (.val (.call 8 (.cons (.var 0) (.cons (.var 1) .nil)))) .nil .nil) (.call 6 (.cons (.bin .add (.var 3) (.cst (.int 1))) (.cons (.bin .add (.var 4) (.cst (.int 1))) .nil)))) .nil)))
  .nil)
noncomputable def Xeu:Df:=⟨2,2,Xmn⟩
noncomputable def Xmo:List Str:=["number","size"]
noncomputable def Xg0:Sts:=(.cons (.ite (.not (.call 1 (.cons (.var 0) (.cons (.cst (.int 0)) (.cons (.glb 0) .nil))))) (.cons (.rse 8 (.cst (.str "a number from 0 to 10 ** 12 is due")))
  .nil) .nil)
  (.cons (.ite (.not (.call 1 (.cons (.var 1) (.cons (.cst (.int 1)) (.cons (.glb 1) .nil))))) (.cons (.rse 8 (.cst (.str "a size from 1 to 12 is due")))
  .nil) .nil)
  .nil))
noncomputable def Xc0:Df:=⟨2,2,Xg0⟩
noncomputable def Xg1:List Str:=["number","size"]
noncomputable def X44:Sts:=(.cons (.asg (.var 2) (.cst (.int 1)))
  (.cons (.for (.var 3) (.rng (.cons (.var 1) .nil)) (.cons (.asg (.var 2) (.bin .fdiv (.bin .mul (.var 2) (.bin .sub (.var 0) (.var 3))) (.bin .add (.var 3) (.cst (.int 1)))))
  .nil))
  (.cons (.ret (.var 2))
  .nil)))
noncomputable def Xti:Df:=⟨2,4,X44⟩
noncomputable def X45:List Str:=["things","number","told","at"]
noncomputable def Xj2:Sts:=(.cons (.asg (.var 2) (.var 1))
  (.cons (.asg (.var 3) (.bin .add (.var 1) (.var 0)))
  (.cons (.whl (.cmp .gt (.bin .sub (.var 3) (.var 2)) (.cst (.int 1))) (.cons (.asg (.var 4) (.bin .fdiv (.bin .add (.var 2) (.var 3)) (.cst (.int 2))))
  (.cons (.ite (.cmp .le (.call 6 (.cons (.var 4) (.cons (.var 1) .nil))) (.var 0)) (.cons (.asg (.var 2) (.var 4))
  .nil) (.cons (.asg (.var 3) (.var 4))
  .nil))
  .nil)))
  (.cons (.ret (.var 2))
  .nil))))
noncomputable def Xd7:Df:=⟨2,5,Xj2⟩
noncomputable def Xj3:List Str:=["number","chosen","low","high","middle"]
noncomputable def Xg2:Sts:=(.cons (.ret (.cmr false 3 (.cons (.tup [3,4]) (.enm (.cons (.call 3 (.cons (.var 0) (.cons (.var 1) .nil))) .nil)) .nil .nil) (.tup (.cons (.var 4) (.cons (.bin .sub (.var 1) (.var 3)) .nil)))))
  .nil)
noncomputable def Xc1:Df:=⟨2,2,Xg2⟩
noncomputable def Xg3:List Str:=["number","size"]
noncomputable def Xwl:Sts:=(.cons (.ret (.and (.call 2 (.cons (.var 0) .nil)) (.chn .le .le (.cst (.int 1)) (.blt .len (.cons (.var 0) .nil)) (.bin .add (.glb 2) (.cst (.int 1))))))
  .nil)
noncomputable def Xmp:Df:=⟨1,1,Xwl⟩
noncomputable def Xwm:List Str:=["thing"]
noncomputable def Xwn:Sts:=(.cons (.expr (.call 12 (.cons (.var 0) .nil)))
  (.cons (.ret (.blt .tuple (.cons (.cmr false 2 (.cons (.var 2) (.rng (.cons (.blt .len (.cons (.var 0) .nil)) .nil)) .nil .nil) (.call 16 (.cons (.call 15 (.cons (.var 0) (.cons (.var 2) .nil))) .nil))) .nil)))
  .nil))
noncomputable def Xmq:Df:=⟨1,1,Xwn⟩
noncomputable def Xwo:List Str:=["row"]
noncomputable def Xiq:Sts:=(.cons (.asg (.var 1) (.call 10 (.cons (.var 0) .nil)))
  (.cons (.for (.nst 2 [3,4]) (.ezp (.cons (.var 1) (.cons (.rev (.var 1)) .nil))) (.cons (.ite (.cmp .ne (.var 3) (.var 4)) (.cons (.ret (.var 2))
  .nil) .nil)
  .nil))
  (.cons (.ret (.cst .non))
  .nil)))
noncomputable def Xdk:Df:=⟨1,5,Xiq⟩
noncomputable def Xir:List Str:=["row","there","place","number","behind"]
noncomputable def Xm8:Sts:=(.cons (.ite (.not (.call 9 (.cons (.var 0) .nil))) (.cons (.rse 7 (.cst (.str "a row is due")))
  .nil) .nil)
  .nil)
noncomputable def Xfj:Df:=⟨1,1,Xm8⟩
noncomputable def Xm9:List Str:=["thing"]
noncomputable def Xwp:Sts:=(.cons (.asg (.var 1) (.sli (.var 0) .none (.some (.call 14 (.cons (.bin .sub (.blt .len (.cons (.var 0) .nil)) (.cst (.int 1))) .nil)))))
  (.cons (.ret (.bin .add (.sli (.var 1) .none (.some (.cst (.int 1)))) (.blt .tuple (.cons (.cmr false 3 (.cons (.tup [3,4]) (.zpp (.cons (.var 1) (.cons (.sli (.var 1) (.some (.cst (.int 1))) .none) .nil))) .nil .nil) (.bin .sub (.var 4) (.var 3))) .nil))))
  .nil))
noncomputable def Xmr:Df:=⟨1,2,Xwp⟩
noncomputable def Xwq:List Str:=["there","half"]
noncomputable def Xna:Sts:=(.cons (.ret (.bin .add (.bin .fdiv (.var 0) (.cst (.int 2))) (.cst (.int 1))))
  .nil)
noncomputable def Xfk:Df:=⟨1,1,Xna⟩
noncomputable def Xnb:List Str:=["width"]
noncomputable def Xqf:Sts:=(.cons (.asg (.var 2) (.bin .sub (.blt .len (.cons (.var 0) .nil)) (.cst (.int 1))))
  (.cons (.ret (.cmr false 2 (.cons (.var 4) (.rng (.cons (.bin .add (.var 1) (.cst (.int 1))) .nil)) .nil .nil) (.bin .mul (.idx (.var 0) (.var 4)) (.call 6 (.cons (.bin .sub (.var 2) (.var 4)) (.cons (.bin .sub (.var 1) (.var 4)) .nil))))))
  .nil))
noncomputable def Xg4:Df:=⟨2,3,Xqf⟩
noncomputable def Xqg:List Str:=["row","place","width"]
noncomputable def Xqh:Sts:=(.cons (.ret (.bin .sub (.blt .sum (.cons (.rv2 false (.var 0)) .nil)) (.blt .sum (.cons (.rv2 true (.var 0)) .nil))))
  .nil)
noncomputable def Xg5:Df:=⟨1,1,Xqh⟩
noncomputable def Xqi:List Str:=["parts"]
noncomputable def Xis:Sts:=(.cons (.expr (.call 12 (.cons (.var 0) .nil)))
  (.cons (.ret (.call 18 (.cons (.var 0) (.cons (.glb 3) .nil))))
  .nil))
noncomputable def Xdl:Df:=⟨1,1,Xis⟩
noncomputable def Xit:List Str:=["row"]
noncomputable def Xiu:Sts:=(.cons (.ite (.cmp .ne (.idx (.var 0) (.cst (.int 0))) (.cst (.int 1))) (.cons (.ret (.cst (.int 0)))
  .nil) .nil)
  (.cons (.for (.var 2) (.rng (.cons (.cst (.int 1)) (.cons (.blt .len (.cons (.var 0) .nil)) .nil))) (.cons (.ite (.not (.chn .le .le (.cst (.int 0)) (.idx (.var 0) (.var 2)) (.glb 0))) (.cons (.ret (.var 2))
  .nil) .nil)
  (.cons (.ite (.and (.cmp .gt (.var 2) (.cst (.int 1))) (.cmp .gt (.idx (.var 0) (.var 2)) (.cal (.var 1) (.cons (.idx (.var 0) (.bin .sub (.var 2) (.cst (.int 1)))) (.cons (.bin .sub (.var 2) (.cst (.int 1))) .nil))))) (.cons (.ret (.var 2))
  .nil) .nil)
  .nil)))
  (.cons (.ret (.cst .non))
  .nil)))
noncomputable def Xdm:Df:=⟨2,3,Xiu⟩
noncomputable def Xiv:List Str:=["row","above","place"]
noncomputable def Xwr:Sts:=(.cons (.asg (.var 1) (.call 11 (.cons (.var 0) .nil)))
  (.cons (.ite (.cmp .isnot (.var 1) (.cst .non)) (.cons (.ret (.tup (.cons (.cst (.str "uneven")) (.cons (.var 1) .nil))))
  .nil) .nil)
  (.cons (.asg (.var 2) (.call 17 (.cons (.call 13 (.cons (.call 10 (.cons (.var 0) .nil)) .nil)) .nil)))
  (.cons (.ret (.ite (.cmp .is (.var 2) (.cst .non)) (.cst .non) (.tup (.cons (.cst (.str "steps")) (.cons (.var 2) .nil)))))
  .nil))))
noncomputable def Xd4:Df:=⟨1,3,Xwr⟩
noncomputable def Xws:List Str:=["row","uneven","place"]
noncomputable def Xiw:Sts:=(.cons (.ite (.cmp .lt (.var 1) (.blt .len (.cons (.var 0) .nil))) (.cons (.ret (.idx (.var 0) (.var 1)))
  .nil) .nil)
  (.cons (.ret (.cst (.int 0)))
  .nil))
noncomputable def Xdn:Df:=⟨2,2,Xiw⟩
noncomputable def Xix:List Str:=["_law_script","_law_k"]
noncomputable def Xqj:Sts:=(.cons (.ite (.cmp .ge (.var 0) (.bin .pow (.cst (.int 10)) (.cst (.int 18)))) (.cons (.ret (.lst (.cons (.bin .sub (.var 0) (.bin .pow (.cst (.int 10)) (.cst (.int 18)))) .nil)))
  .nil) .nil)
  (.cons (.asg (.var 1) (.cst (.int 0)))
  (.cons (.for (.var 2) (.rng (.cons (.cst (.int 64)) .nil)) (.cons (.asg (.var 3) (.bin .mod (.bin .mul (.bin .add (.bin .add (.bin .mod (.var 0) (.cst (.int 2147483629))) (.bin .mul (.cst (.int 7919)) (.var 2))) (.cst (.int 1))) (.cst (.int 48271))) (.cst (.int 2147483647))))
  (.cons (.asg (.var 3) (.bin .mod (.bin .add (.bin .add (.bin .mul (.var 3) (.var 3)) (.bin .mul (.cst (.int 69621)) (.var 2))) (.cst (.int 7))) (.cst (.int 2147483587))))
  (.cons (.asg (.var 1) (.bin .add (.bin .mul (.var 1) (.cst (.int 2147483587))) (.var 3)))
  .nil))))
  (.cons (.ret (.lst (.cons (.var 1) .nil)))
  .nil))))
noncomputable def Xg6:Df:=⟨1,4,Xqj⟩
noncomputable def Xqk:List Str:=["_law_cell","_law_number","_law_j","_law_more"]
noncomputable def Xnc:Sts:=(.cons (.asg (.var 2) (.bin .mod (.idx (.var 0) (.cst (.int 0))) (.var 1)))
  (.cons (.aset (.var 0) (.cst (.int 0)) (.bin .fdiv (.idx (.var 0) (.cst (.int 0))) (.var 1)))
  (.cons (.ret (.var 2))
  .nil)))
noncomputable def Xfl:Df:=⟨2,3,Xnc⟩
noncomputable def Xnd:List Str:=["_law_pot_here","_law_far","_law_found"]
noncomputable def Xms:Sts:=(.cons (.ret (.and (.isi (.var 0) [.int]) (.not (.isi (.var 0) [.bool]))))
  .nil)
noncomputable def Xev:Df:=⟨1,1,Xms⟩
noncomputable def Xmt:List Str:=["_law_found"]
noncomputable def Xne:Sts:=(.cons (.asg (.var 1) (.lst (.cons (.isi (.var 0) [.cls 1]) (.cons (.isi (.var 0) [.cls 2]) (.cons (.isi (.var 0) [.cls 3]) (.cons (.isi (.var 0) [.cls 4]) .nil))))))
  (.cons (.asg (.var 1) (.bin .add (.var 1) (.lst (.cons (.isi (.var 0) [.cls 5]) (.cons (.isi (.var 0) [.cls 6]) (.cons (.isi (.var 0) [.cls 7]) (.cons (.isi (.var 0) [.cls 8]) .nil)))))))
  (.cons (.asg (.var 1) (.bin .add (.var 1) (.lst (.cons (.isi (.var 0) [.cls 9]) (.cons (.isi (.var 0) [.cls 10]) (.cons (.isi (.var 0) [.cls 11]) (.cons (.isi (.var 0) [.cls 12]) .nil)))))))
  (.cons (.asg (.var 1) (.bin .add (.var 1) (.lst (.cons (.isi (.var 0) [.cls 13]) (.cons (.isi (.var 0) [.cls 14]) (.cons (.isi (.var 0) [.cls 15]) (.cons (.isi (.var 0) [.cls 16]) .nil)))))))
  (.cons (.ite (.or (.cmp .ne (.mth .count (.var 1) (.cons (.cst (.bl true)) .nil)) (.cst (.int 1))) (.not (.isi (.var 0) [.valueError]))) (.cons (.ret (.cst (.str "other")))
  .nil) .nil)
  (.cons (.asg (.var 2) (.lst (.cons (.cst (.str "net")) (.cons (.cst (.str "face")) (.cons (.cst (.str "point")) (.cons (.cst (.str "apart")) (.cons (.cst (.str "many")) (.cons (.cst (.str "text")) (.cons (.cst (.str "row")) (.cons (.cst (.str "number")) (.cons (.cst (.str "level")) (.cons (.cst (.str "crowd")) (.cons (.cst (.str "way")) (.cons (.cst (.str "closed")) .nil))))))))))))))
  (.cons (.ret (.idx (.bin .add (.var 2) (.lst (.cons (.cst (.str "swap")) (.cons (.cst (.str "places")) (.cons (.cst (.str "deed")) (.cons (.cst (.str "line")) .nil)))))) (.mth .index (.var 1) (.cons (.cst (.bl true)) .nil))))
  .nil)))))))
noncomputable def Xfm:Df:=⟨1,3,Xne⟩
noncomputable def Xnf:List Str:=["_law_e","_law_some","_law_words"]
noncomputable def Xng:Sts:=(.cons (.ite (.cmp .gt (.var 1) (.var 0)) (.cons (.ret (.cst (.int 0)))
  .nil) .nil)
  (.cons (.asg (.tup [3,4]) (.tup (.cons (.cst (.int 1)) (.cons (.cst (.int 1)) .nil))))
  (.cons (.for (.var 2) (.rng (.cons (.var 1) .nil)) (.cons (.asg (.var 3) (.bin .mul (.var 3) (.bin .sub (.var 0) (.var 2))))
  (.cons (.asg (.var 4) (.bin .mul (.var 4) (.bin .add (.var 2) (.cst (.int 1)))))
  .nil)))
  (.cons (.ret (.bin .fdiv (.var 3) (.var 4)))
  .nil))))
noncomputable def Xfn:Df:=⟨2,5,Xng⟩
noncomputable def Xnh:List Str:=["_law_things","_law_number","_law_at","_law_top","_law_bottom"]
noncomputable def Xiy:Sts:=(.cons (.par [2,3] (.cons (.lst .nil) (.cons (.var 0) .nil)))
  (.cons (.whl (.cmp .gt (.var 3) (.cst (.int 0))) (.cons (.asg (.var 4) (.bin .sub (.var 1) (.blt .len (.cons (.var 2) .nil))))
  (.cons (.par [5,6] (.cons (.var 4) (.cons (.bin .add (.var 4) (.var 3)) .nil)))
  (.cons (.whl (.cmp .gt (.bin .sub (.var 6) (.var 5)) (.cst (.int 1))) (.cons (.asg (.var 7) (.bin .fdiv (.bin .add (.var 5) (.var 6)) (.cst (.int 2))))
  (.cons (.ite (.cmp .le (.call 25 (.cons (.var 7) (.cons (.var 4) .nil))) (.var 3)) (.cons (.asg (.var 5) (.var 7))
  .nil) (.cons (.asg (.var 6) (.var 7))
  .nil))
  .nil)))
  (.cons (.expr (.mth .append (.var 2) (.cons (.var 5) .nil)))
  (.cons (.asg (.var 3) (.bin .sub (.var 3) (.call 25 (.cons (.var 5) (.cons (.var 4) .nil)))))
  .nil))))))
  (.cons (.ret (.blt .tuple (.cons (.var 2) .nil)))
  .nil)))
noncomputable def Xdo:Df:=⟨2,8,Xiy⟩
noncomputable def Xiz:List Str:=["_law_number","_law_size","_law_found","_law_left","_law_at","_law_low","_law_high","_law_middle"]
noncomputable def Xi0:Sts:=(.cons (.asg (.var 3) (.lenm (.call 26 (.cons (.var 1) (.cons (.var 2) .nil)))))
  (.cons (.ite (.cmp .eq (.var 0) (.cst (.int 1))) (.cons (.ret (.blt .sum (.cons (.cmr false 3 (.cons (.tup [5,6]) (.val (.var 3)) .nil .nil) (.call 25 (.cons (.var 6) (.cons (.bin .sub (.bin .sub (.var 2) (.var 5)) (.cst (.int 1))) .nil)))) .nil)))
  .nil) .nil)
  (.cons (.ret (.blt .sum (.cons (.cmr false 3 (.cons (.tup [5,6]) (.val (.var 3)) .nil .nil) (.call 25 (.cons (.bin .add (.var 6) (.blt .int (.cons (.cmp .eq (.var 0) (.cst (.int 2))) .nil))) (.cons (.bin .add (.bin .sub (.var 2) (.var 5)) (.cst (.int 1))) .nil)))) .nil)))
  .nil)))
noncomputable def Xdp:Df:=⟨3,4,Xi0⟩
noncomputable def Xi1:List Str:=["_law_kind","_law_number","_law_size","_law_some"]
noncomputable def Xgd:Sts:=(.cons (.for (.tup [2,3]) (.enm (.cons (.var 0) .nil)) (.cons (.ite (.or (.cmp .lt (.var 3) (.cst (.int 0))) (.or (.cmp .gt (.var 3) (.bin .pow (.cst (.int 10)) (.cst (.int 12)))) (.and (.cmp .eq (.var 2) (.cst (.int 0))) (.cmp .ne (.var 3) (.cst (.int 1)))))) (.cons (.ret (.var 2))
  .nil) .nil)
  (.cons (.ite (.and (.cmp .gt (.var 2) (.cst (.int 1))) (.cmp .gt (.var 3) (.call 27 (.cons (.var 1) (.cons (.idx (.var 0) (.bin .sub (.var 2) (.cst (.int 1)))) (.cons (.bin .sub (.var 2) (.cst (.int 1))) .nil)))))) (.cons (.ret (.var 2))
  .nil) .nil)
  .nil)))
  (.cons (.ret (.cst .non))
  .nil))
noncomputable def Xcs:Df:=⟨2,4,Xgd⟩
noncomputable def Xge:List Str:=["_law_row","_law_kind","_law_place","_law_number"]
noncomputable def Xj4:Sts:=(.cons (.ret (.and (.isi (.var 0) [.tuple]) (.and (.chn .le .le (.cst (.int 1)) (.blt .len (.cons (.var 0) .nil)) (.cst (.int 12))) (.blt .all (.cons (.cmr false 2 (.cons (.var 2) (.val (.var 0)) .nil .nil) (.call 23 (.cons (.var 2) .nil))) .nil)))))
  .nil)
noncomputable def Xd8:Df:=⟨1,1,Xj4⟩
noncomputable def Xj5:List Str:=["_law_thing"]
noncomputable def Xj6:Sts:=(.cons (.asg (.var 1) (.bin .sub (.blt .len (.cons (.var 0) .nil)) (.cst (.int 1))))
  (.cons (.asg (.var 2) (.lst .nil))
  (.cons (.for (.var 3) (.rng (.cons (.bin .add (.var 1) (.cst (.int 1))) .nil)) (.cons (.asg (.var 4) (.cmr false 2 (.cons (.var 6) (.rng (.cons (.bin .add (.var 3) (.cst (.int 1))) .nil)) .nil .nil) (.bin .mul (.bin .mul (.bin .sub (.cst (.int 1)) (.bin .mul (.cst (.int 2)) (.bin .mod (.bin .sub (.var 3) (.var 6)) (.cst (.int 2))))) (.call 25 (.cons (.bin .sub (.var 1) (.var 6)) (.cons (.bin .sub (.var 3) (.var 6)) .nil)))) (.idx (.var 0) (.var 6)))))
  (.cons (.expr (.mth .append (.var 2) (.cons (.blt .sum (.cons (.var 4) .nil)) .nil)))
  .nil)))
  (.cons (.ret (.var 2))
  .nil))))
noncomputable def Xa9:Df:=⟨1,5,Xj6⟩
noncomputable def Xj7:List Str:=["_law_row","_law_width","_law_found","_law_place","_law_some"]
noncomputable def Xg7:Sts:=(.cons (.asg (.var 2) (.cmr false 2 (.cons (.var 7) (.rng (.cons (.blt .len (.cons (.var 1) .nil)) .nil)) .nil .nil) (.blt .sum (.cons (.sli (.var 1) .none (.some (.bin .add (.var 7) (.cst (.int 1))))) .nil))))
  (.cons (.asg (.var 3) (.cmr false 2 (.cons (.var 7) (.rng (.cons (.bin .add (.var 0) (.cst (.int 1))) .nil)) .nil .nil) (.idx (.var 2) (.blt .min (.cons (.var 7) (.cons (.bin .sub (.var 0) (.var 7)) .nil))))))
  (.cons (.asg (.var 4) (.lst .nil))
  (.cons (.for (.var 5) (.rng (.cons (.bin .add (.var 0) (.cst (.int 1))) .nil)) (.cons (.expr (.mth .append (.var 4) (.cons (.blt .sum (.cons (.cmr false 2 (.cons (.var 7) (.rng (.cons (.bin .add (.var 5) (.cst (.int 1))) .nil)) .nil .nil) (.bin .mul (.idx (.var 3) (.var 7)) (.call 25 (.cons (.bin .sub (.var 0) (.var 7)) (.cons (.bin .sub (.var 5) (.var 7)) .nil))))) .nil)) .nil)))
  .nil))
  (.cons (.ret (.blt .tuple (.cons (.var 4) .nil)))
  .nil)))))
noncomputable def Xav:Df:=⟨2,6,Xg7⟩
noncomputable def Xg8:List Str:=["_law_width","_law_numbers_here","_law_half","_law_low","_law_found","_law_place"]
noncomputable def Xmu:Sts:=(.cons (.asg (.var 1) (.call 30 (.cons (.var 0) .nil)))
  (.cons (.ret (.blt .tuple (.cons (.bin .add (.lst (.cons (.idx (.var 1) (.cst (.int 0))) .nil)) (.cmr false 2 (.cons (.var 3) (.rng (.cons (.cst (.int 1)) (.cons (.bin .fdiv (.bin .add (.blt .len (.cons (.var 0) .nil)) (.cst (.int 1))) (.cst (.int 2))) .nil))) .nil .nil) (.bin .sub (.idx (.var 1) (.var 3)) (.idx (.var 1) (.bin .sub (.var 3) (.cst (.int 1))))))) .nil)))
  .nil))
noncomputable def Xbq:Df:=⟨1,2,Xmu⟩
noncomputable def Xmv:List Str:=["_law_row","_law_found"]
noncomputable def Xni:Sts:=(.cons (.try (.cons (.ret (.call 19 (.cons (.var 0) .nil)))
  .nil) 0 1 (.cons (.ret (.call 24 (.cons (.var 1) .nil)))
  .nil))
  .nil)
noncomputable def Xb1:Df:=⟨1,2,Xni⟩
noncomputable def Xnj:List Str:=["_law_row","_law_e"]
noncomputable def Xql:Sts:=(.cons (.ite (.not (.call 29 (.cons (.var 0) .nil))) (.cons (.ret (.cst (.str "row")))
  .nil) .nil)
  (.cons (.asg (.var 1) (.call 30 (.cons (.var 0) .nil)))
  (.cons (.asg (.var 2) (.cmr false 2 (.cons (.var 5) (.rng (.cons (.blt .len (.cons (.var 1) .nil)) .nil)) (.cons (.cmp .ne (.idx (.var 1) (.var 5)) (.idx (.var 1) (.bin .sub (.bin .sub (.blt .len (.cons (.var 1) .nil)) (.cst (.int 1))) (.var 5)))) .nil) .nil) (.var 5)))
  (.cons (.ite (.cmp .ne (.var 2) (.lst .nil)) (.cons (.ret (.tup (.cons (.cst (.str "uneven")) (.cons (.idx (.var 2) (.cst (.int 0))) .nil))))
  .nil) .nil)
  (.cons (.asg (.var 3) (.call 28 (.cons (.call 32 (.cons (.var 0) .nil)) (.cons (.cst (.int 2)) .nil))))
  (.cons (.ret (.ite (.cmp .is (.var 3) (.cst .non)) (.cst .non) (.tup (.cons (.cst (.str "steps")) (.cons (.var 3) .nil)))))
  .nil))))))
noncomputable def Xcc:Df:=⟨1,4,Xql⟩
noncomputable def Xqm:List Str:=["_law_row","_law_some","_law_places","_law_place"]
noncomputable def Xbw:Sts:=(.cons (.par [4,5] (.cons (.call 22 (.cons (.var 0) (.cons (.cst (.int 8)) .nil))) (.cons (.call 22 (.cons (.var 0) (.cons (.cst (.int 5)) .nil))) .nil)))
  (.cons (.asg (.var 2) (.lst (.cons (.cst (.int 1)) .nil)))
  (.cons (.for (.var 3) (.rng (.cons (.cst (.int 1)) (.cons (.bin .add (.bin .fdiv (.var 1) (.cst (.int 2))) (.cst (.int 1))) .nil))) (.cons (.asg (.var 6) (.ite (.cmp .gt (.var 3) (.cst (.int 1))) (.call 27 (.cons (.cst (.int 2)) (.cons (.idx (.var 2) (.neg (.cst (.int 1)))) (.cons (.bin .sub (.var 3) (.cst (.int 1))) .nil)))) (.idx (.lst (.cons (.cst (.int 3)) (.cons (.cst (.int 9)) (.cons (.bin .pow (.cst (.int 10)) (.cst (.int 4))) .nil)))) (.call 22 (.cons (.var 0) (.cons (.cst (.int 3)) .nil))))))
  (.cons (.asg (.var 7) (.blt .min (.cons (.idx (.lst (.cons (.var 6) (.cons (.call 22 (.cons (.var 0) (.cons (.bin .add (.var 6) (.cst (.int 1))) .nil))) .nil))) (.call 22 (.cons (.var 0) (.cons (.cst (.int 2)) .nil)))) (.cons (.bin .pow (.cst (.int 10)) (.cst (.int 12))) .nil))))
  (.cons (.ite (.cmp .eq (.var 3) (.var 4)) (.cons (.ret (.bin .add (.bin .add (.var 2) (.lst (.cons (.idx (.lst (.cons (.bin .add (.var 6) (.cst (.int 1))) (.cons (.neg (.cst (.int 1))) (.cons (.bin .add (.bin .pow (.cst (.int 10)) (.cst (.int 12))) (.cst (.int 1))) (.cons (.bin .sub (.bin .sub (.cst (.int 0)) (.var 6)) (.cst (.int 1))) (.cons (.bin .pow (.cst (.int 10)) (.cst (.int 30))) .nil)))))) (.var 5)) .nil))) (.bin .mul (.lst (.cons (.cst (.int 0)) .nil)) (.bin .sub (.bin .fdiv (.var 1) (.cst (.int 2))) (.var 3)))))
  .nil) .nil)
  (.cons (.expr (.mth .append (.var 2) (.cons (.var 7) .nil)))
  .nil)))))
  (.cons (.ite (.cmp .eq (.var 4) (.cst (.int 0))) (.cons (.aset (.var 2) (.cst (.int 0)) (.idx (.lst (.cons (.cst (.int 0)) (.cons (.cst (.int 2)) (.cons (.neg (.cst (.int 1))) (.cons (.bin .pow (.cst (.int 10)) (.cst (.int 12))) (.cons (.cst (.int 3)) .nil)))))) (.var 5)))
  .nil) .nil)
  (.cons (.ret (.var 2))
  .nil)))))
noncomputable def Xa5:Df:=⟨2,8,Xbw⟩
noncomputable def Xi2:List Str:=["_law_pot_here","_law_width","_law_row","_law_place","_law_spoilt","_law_way","_law_far","_law_number"]
noncomputable def Xxz:Sts:=(.cons (.for (.var 1) (.rng (.cons (.blt .max (.cons (.cst (.int 1)) (.cons (.blt .min (.cons (.blt .len (.cons (.var 0) .nil)) (.cons (.cst (.int 6)) .nil))) .nil))) .nil)) (.cons (.asg (.var 2) (.call 21 (.cons (.call 20 (.cons (.var 0) (.cons (.var 1) .nil))) .nil)))
  (.cons (.asg (.var 3) (.call 22 (.cons (.var 2) (.cons (.cst (.int 12)) .nil))))
  (.cons (.asg (.var 4) (.call 31 (.cons (.var 3) (.cons (.call 35 (.cons (.var 2) (.cons (.var 3) .nil))) .nil))))
  (.cons (.asg (.var 5) (.call 22 (.cons (.var 2) (.cons (.blt .len (.cons (.var 4) .nil)) .nil))))
  (.cons (.asg (.var 6) (.idx (.lst (.cons (.cst (.bl true)) (.cons (.cst .non) (.cons (.cst (.str "1")) (.cons (.tup (.cons (.cst (.int 1)) .nil)) (.cons (.cst (.int 0)) (.cons (.bin .pow (.cst (.int 10)) (.cst (.int 30))) (.cons (.neg (.cst (.int 1))) (.cons (.cst (.bl false)) .nil))))))))) (.call 22 (.cons (.var 2) (.cons (.cst (.int 8)) .nil)))))
  (.cons (.asg (.var 7) (.lst (.cons (.var 4) (.cons (.bin .add (.bin .add (.sli (.var 4) .none (.some (.var 5))) (.tup (.cons (.bin .add (.idx (.var 4) (.var 5)) (.cst (.int 1))) .nil))) (.sli (.var 4) (.some (.bin .add (.var 5) (.cst (.int 1)))) .none)) (.cons (.bin .add (.bin .add (.sli (.var 4) .none (.some (.var 5))) (.tup (.cons (.var 6) .nil))) (.sli (.var 4) (.some (.bin .add (.var 5) (.cst (.int 1)))) .none)) .nil)))))
  (.cons (.expr (.mth .append (.var 7) (.cons (.bin .add (.sli (.var 4) .none (.some (.var 5))) (.sli (.var 4) (.some (.bin .add (.var 5) (.cst (.int 1)))) .none)) .nil)))
  (.cons (.expr (.mth .append (.var 7) (.cons (.blt .tuple (.cons (.cmr false 2 (.cons (.var 12) (.rng (.cons (.bin .add (.cst (.int 1)) (.call 22 (.cons (.var 2) (.cons (.cst (.int 12)) .nil)))) .nil)) .nil .nil) (.bin .sub (.call 22 (.cons (.var 2) (.cons (.cst (.int 7)) .nil))) (.cst (.int 2)))) .nil)) .nil)))
  (.cons (.for (.var 8) (.val (.bin .add (.var 7) (.lst (.cons (.blt .list (.cons (.var 4) .nil)) (.cons (.tup .nil) (.cons (.cst .non) (.cons (.bin .mul (.var 4) (.cst (.int 13))) (.cons (.tup (.cons (.cst (.int 1)) .nil)) (.cons (.tup (.cons (.cst (.int 0)) .nil)) (.cons (.tup (.cons (.cst (.int 1)) (.cons (.cst (.int 2)) .nil))) (.cons (.tup (.cons (.cst (.int 1)) (.cons (.cst (.int 3)) (.cons (.cst (.int 3)) .nil)))) (.cons (.tup (.cons (.cst (.int 1)) (.cons (.cst (.int 4)) (.cons (.cst (.int 6)) (.cons (.cst (.int 4)) .nil))))) .nil)))))))))))) (.cons (.asg (.var 9) (.blt .repr (.cons (.var 8) .nil)))
  (.cons (.for (.var 10) (.rng (.cons (.cst (.int 2)) .nil)) (.cons (.ite (.or (.cmp .ne (.blt .repr (.cons (.call 33 (.cons (.var 8) .nil)) .nil)) (.blt .repr (.cons (.call 34 (.cons (.var 8) .nil)) .nil))) (.cmp .ne (.blt .repr (.cons (.var 8) .nil)) (.var 9))) (.cons (.ret (.cst (.bl false)))
  .nil) .nil)
  .nil))
  .nil)))
  .nil))))))))))
  (.cons (.ret (.cst (.bl true)))
  .nil))
noncomputable def Xg9:Df:=⟨1,11,Xxz⟩
noncomputable def Xx0:List Str:=["_law_script","_law_k","_law_pot_here","_law_width","_law_row","_law_at","_law_odd","_law_things","_law_thing","_law_kept","_law_lap"]
noncomputable def T:List Df:=[Xgz,Xb8,Xcr,Xjz,Xeu,Xc0,Xti,Xd7,Xc1,Xmp,Xmq,Xdk,Xfj,Xmr,Xfk,Xg4,Xg5,Xdl,Xdm,Xd4,Xdn,Xg6,Xfl,Xev,Xfm,Xfn,Xdo,Xdp,Xcs,Xd8,Xa9,Xav,Xbq,Xb1,Xcc,Xa5,Xg9]
abbrev MS(p:Nat)(N:List Str)(fl:Bool)(d:Df):Prop:=Z.MD fns gns (top p) N fl d
theorem Xqn:MS 19 Xqe true Xgz:=by decide+kernel
theorem Xfe:MS 20 Xfd true Xb8:=by decide+kernel
theorem Xgf:MS 21 Xgc true Xcr:=by decide+kernel
theorem Xtj:MS 25 Xth true Xjz:=by decide+kernel
theorem Xmw:MS 26 Xmo true Xeu:=by decide+kernel
theorem Xha:MS 27 Xg1 true Xc0:=by decide+kernel
theorem X46:MS 28 X45 true Xti:=by decide+kernel
theorem Xj8:MS 29 Xj3 true Xd7:=by decide+kernel
theorem Xhb:MS 30 Xg3 true Xc1:=by decide+kernel
theorem Xwt:MS 33 Xwm true Xmp:=by decide+kernel
theorem Xwu:MS 34 Xwo true Xmq:=by decide+kernel
theorem Xi3:MS 35 Xir true Xdk:=by decide+kernel
theorem Xnk:MS 36 Xm9 true Xfj:=by decide+kernel
theorem Xwv:MS 37 Xwq true Xmr:=by decide+kernel
theorem Xnl:MS 38 Xnb true Xfk:=by decide+kernel
theorem Xqo:MS 39 Xqg true Xg4:=by decide+kernel
theorem Xqp:MS 40 Xqi true Xg5:=by decide+kernel
theorem Xi4:MS 42 Xit true Xdl:=by decide+kernel
theorem Xi5:MS 43 Xiv true Xdm:=by decide+kernel
theorem Xww:MS 45 Xws true Xd4:=by decide+kernel
theorem Xi6:MS 47 Xix true Xdn:=by decide+kernel
theorem Xqq:MS 48 Xqk true Xg6:=by decide+kernel
theorem Xnm:MS 49 Xnd true Xfl:=by decide+kernel
theorem Xmx:MS 50 Xmt true Xev:=by decide+kernel
theorem Xnn:MS 51 Xnf false Xfm:=by decide+kernel
theorem Xno:MS 52 Xnh true Xfn:=by decide+kernel
theorem Xi7:MS 53 Xiz true Xdo:=by decide+kernel
theorem Xi8:MS 54 Xi1 true Xdp:=by decide+kernel
theorem Xgg:MS 55 Xge true Xcs:=by decide+kernel
theorem Xj9:MS 56 Xj5 true Xd8:=by decide+kernel
theorem Xka:MS 57 Xj7 true Xa9:=by decide+kernel
theorem Xhc:MS 58 Xg8 true Xav:=by decide+kernel
theorem Xmy:MS 59 Xmv true Xbq:=by decide+kernel
theorem Xnp:MS 60 Xnj true Xb1:=by decide+kernel
theorem Xqr:MS 61 Xqm true Xcc:=by decide+kernel
theorem Xi9:MS 62 Xi2 true Xa5:=by decide+kernel
theorem Xqs:MS 63 Xx0 true Xg9:=by decide+kernel
end K51
end
section
namespace K51
open PySem Z
theorem t0:T[0]?=some Xej:=rfl
theorem t1:T[1]?=some (Xh4 0):=rfl
theorem t2:T[2]?=some (Xe7 0):=rfl
theorem t3:T[3]?=some (Xkq 5 7 6):=rfl
theorem t4:T[4]?=some (Xp5 8 (.call 6 (.cons (.bin .add (.var 3) (.cst (.int 1))) (.cons (.bin .add (.var 4) (.cst (.int 1))) .nil)))):=rfl
theorem t5:T[5]?=some (Xp3 1 "a number from 0 to 10 ** 12 is due" "a size from 1 to 12 is due"):=rfl
theorem t6:T[6]?=some Xe6:=rfl
theorem t7:T[7]?=some (Xkp 6):=rfl
theorem t8:T[8]?=some (Xii 3):=rfl
theorem t9:T[9]?=some (Xel 2 2):=rfl
theorem t10:T[10]?=some (Xh8 12 (Xpy 16 15)):=rfl
theorem t11:T[11]?=some (Xio 10):=rfl
theorem t12:T[12]?=some (Xma 9):=rfl
theorem t13:T[13]?=some (Xxy 14):=rfl
theorem t14:T[14]?=some Xp1:=rfl
theorem t15:T[15]?=some (Xgp 6):=rfl
theorem t16:T[16]?=some Xgq:=rfl
theorem t17:T[17]?=some (Xtd 12 18 3):=rfl
theorem t18:T[18]?=some dFirst:=rfl
theorem t22:T[22]?=some Xkj:=rfl
theorem t23:T[23]?=some Xej:=rfl
theorem t24:T[24]?=some Xkk:=rfl
theorem t25:T[25]?=some Xcq:=rfl
theorem t26:T[26]?=some (Xmi 25):=rfl
theorem t27:T[27]?=some (Xks 25 26):=rfl
theorem t28:T[28]?=some (Xkt 27):=rfl
theorem t29:T[29]?=some (Xtb 23):=rfl
theorem g0:G[0]?=some (.int 1000000000000):=rfl
theorem g1:G[1]?=some (.int 12):=rfl
theorem g2:G[2]?=some (.int 11):=rfl
theorem ftx{k f:Nat}{d:Df}{ds:List D}{S:Sto}(h:T[f]?=some d):FT T G (k+1) f ds S=den (FT T G k) G d ds S:=by simp only[FT,h]
theorem whole(k:Nat):Xco (FT T G (k+1)) 0:=Xjv t0 k
theorem X02(k:Nat):Xco (FT T G (k+1)) 23:=Xjv t23 k
theorem Xtk(k:Nat)(d:D)(lo hi:Int)(S:Sto)(h:good S d):FT T G (k+2) 1 [d,.int lo,.int hi] S=.ok (.bl (wi d lo hi)) S:=by
 rw[ftx t1];exact Xpu (whole k d S h)
theorem Xx1(k:Nat):Xp0 (FT T G (k+2)) 2:=Xvy t2 (k+1) (whole k)
theorem X47(k n s:Nat)(S:Sto)(hn:n<=1000000000000)(hs1:1<=s)(hs:s<=12):FT T G (k+3) 5 [.int n,.int s] S=.ok .non S:=by
 have h1:=Xtk k (.int n) 0 1000000000000 S (Xf3 S n);have h2:=Xtk k (.int s) 1 12 S (Xf3 S s);rw[X37 (by omega) (by omega)] at h1 h2
 rw[ftx t5];exact X0p g0 g1 h1 h2
theorem X03(k n s:Nat)(S:Sto)(hn:n<=1000000000000)(hs1:1<=s)(hs:s<=12):∃ w,FT T G (k+4) 3 [.int n,.int s] S=.ok (Xa w) (S++[.lst (w.map D.int)])/\Wr s n w:=by
 rw[ftx t3];exact Xwb (Xf7 t6 (k+2)) (Xv7 t7 (Xf7 t6 (k+1))) (X47 k n s S hn hs1 hs) hs1 hs hn
theorem X64(k:Nat):Xp6 (FT T G (k+6)) 4 gB 11:=by
 intro n s S hn h1 hs;obtain⟨w,e1,hw⟩:=X03 k n s S hn h1 (by omega)
 have hl:=Xsw hw;have hb:=Xko hw;have e2:FT T G (k+5) 8 [.int n,.int s] S=.ok (.ref (S++[O.lst (w.map D.int)]).length) (S++[.lst (w.map D.int)]++[.lst ((Vc w.length).map (Xae w s))]):=by
  rw[ftx t8];exact Xp4 e1 (by omega)
 obtain⟨X,e3⟩:=Xwd (G:=G) (elt:=.call 6 (.cons (.bin .add (.var 3) (.cst (.int 1))) (.cons (.bin .add (.var 4) (.cst (.int 1))) .nil))) (g:=gB) e2 hl (by omega) (fun x c a b d S hx hc1 hc=>X6y (Xf7 t6 (k+4)) (by have:=(hb _ hx).2;omega) (by omega)) fun x hx=>(hb x hx).1
 refine⟨[.lst (w.map D.int)]++X,?_⟩;rw[ftx t4,e3,Vo,Xs8 gB hw]
theorem next(k:Nat):Xd2 (FT T G (k+3)) 27 2:=by
 intro n s S hn h1 hs;have hw:Yg (FT T G (k+2)) 25:=(Xcy t25 (k+1)).ways;obtain⟨w,e1,hwr⟩:=Xs5 (F:=FT T G (k+1)) (G:=G) (iw:=25) (n:=n) (s:=s) (S:=S) (Xcy t25 k).ways h1 (by omega) hn
 have e2:FT T G (k+2) 26 [.int n,.int s] S=.ok (Xa w) (S++[.lst (w.map D.int)]):=by rw[ftx t26];exact e1
 obtain⟨X,e3⟩:=Xwf (G:=G) (il:=25) (kd:=2) hw e2 hwr hn (by omega) (by omega) (fun _=>hs)
 refine⟨[.lst (w.map D.int)]++X,?_⟩;rw[ftx t27,e3,Vo,Xs8 (gK 2) hwr]
theorem Xs3(k:Nat)(l:List Int)(S:Sto)(hl:l.length<=12):∃ X,FT T G (k+2) 2 [Xa l] S=.ok (.bl true) (S++X):=by
 obtain⟨X,h⟩:=Xx1 k (Xa l) S (Xjt S _ (fun n z=>by cases z) (fun f m z=>by cases z)) (fun xs e=>by
  have e':l.map D.int=xs:=by injection e
  subst e';exact⟨Xso l S,by rw[Vr];omega⟩)
 rw[X0d] at h;exact⟨X,h⟩
theorem Xj0(k:Nat)(l:List Int)(S:Sto)(h1:1<=l.length)(hl:l.length<=12):∃ X,FT T G (k+4) 12 [Xa l] S=.ok .non (S++X):=by
 obtain⟨X,h⟩:=Xs3 k l S hl;have e:FT T G (k+3) 9 [Xa l] S=.ok (.bl true) (S++X):=by rw[ftx t9];exact Xvz h (Xcn l _) g2 (by omega) (by omega)
 exact⟨X,by rw[ftx t12];exact X39 e⟩
theorem Xwx(k:Nat){d:D}{S:Sto}(t:Thing S d)(h:isr d=false):∃ X,FT T G (k+4) 12 [d] S=.ex (S++X).length (S++X++[.exc 7]):=by
 obtain⟨X,e⟩:=Xsu (G:=G) (Xx1 k) g2 t;rw[h] at e;have e':FT T G (k+3) 9 [d] S=.ok (.bl false) (S++X):=by rw[ftx t9];exact e
 exact⟨X,by rw[ftx t12];exact X4i e'⟩
theorem ways(k n m:Nat)(S:Sto)(hn:n<=12)(hm:m<=12):FT T G (k+1) 6 [.int n,.int m] S=.ok (.int (C n m)) S:=by
 rw[ftx t6];exact Xvr n m S (by omega) hm
theorem parts(k:Nat)(l:List Int)(p:Nat)(S:Sto)(h:p<l.length)(hl:l.length<=12):FT T G (k+2) 15 [Xa l,.int p] S=.ok (.ref S.length) (S++[.lst (Xcm l p)]):=by
 rw[ftx t15];exact Xsi (fun n m S hn hm=>ways k n m S hn hm) l p S h hl
theorem turns(k:Nat)(S:Sto)(q:Nat)(l:List Int)(h:Xc S q=some (l.map D.int)):∃ X,FT T G (k+1) 16 [.ref q] S=.ok (.int (Xa1 l.reverse)) (S++X):=by
 rw[ftx t16];exact Xsj h
theorem turned(k:Nat)(l:List Int)(S:Sto)(h1:1<=l.length)(hl:l.length<=12):∃ X,FT T G (k+5) 10 [Xa l] S=.ok (Xa (tT (-1) l)) (S++X):=by
 obtain⟨X,hc⟩:=Xj0 k l S h1 hl;obtain⟨Y,h⟩:=Xpz (F:=FT T G (k+4)) (G:=G) (ii:=16) (ip:=15) hl hc (fun p S h=>parts (k+2) l p S h hl) (fun S q l' h=>turns (k+3) S q l' h)
 exact⟨X++Y,by rw[ftx t10,<- Vo];exact h⟩
theorem X04(k:Nat){d:D}{S:Sto}(t:Thing S d)(h:isr d=false):∃ X,FT T G (k+5) 10 [d] S=.ex (S++X).length (S++X++[.exc 7]):=by
 obtain⟨X,hc⟩:=Xwx k t h;exact⟨X,by rw[ftx t10];exact X4j hc⟩
theorem X8e(k:Nat)(l:List Int)(S:Sto)(h1:1<=l.length)(hl:l.length<=12):∃ X,FT T G (k+6) 11 [Xa l] S=.ok (Xip (Xau (tT (-1) l))) (S++X):=by
 obtain⟨X,h⟩:=turned k l S h1 hl;exact⟨X,by rw[ftx t11];exact X0z h (by rw[Xdh];omega)⟩
theorem X8f(k:Nat)(w:Int)(S:Sto):FT T G (k+1) 14 [.int w] S=.ok (.int (w/2+1)) S:=by
 rw[ftx t14];exact Xv0 w S
theorem X48(k:Nat)(h:List Int)(S:Sto)(h1:1<=h.length)(hl:h.length<=12):∃ X,FT T G (k+2) 13 [Xa h] S=.ok (Xa (stp h)) (S++X):=by
 obtain⟨Y,g⟩:=Xwj (F:=FT T G (k+1)) (G:=G) (ih:=14) (S:=S) (fun w S=>X8f k w S) h1 hl
 exact⟨Y,by rw[ftx t13];exact g⟩
theorem X65(k:Nat)(l:List Int)(S:Sto)(h1:1<=l.length)(hl:l.length<=12):∃ X,FT T G (k+8) 17 [Xa l] S=.ok (X7 gB l) (S++X):=by
 obtain⟨X,hc⟩:=Xj0 (k+3) l S h1 hl;obtain⟨Y,h⟩:=Xta (F:=FT T G (k+6)) (G:=G) (row:=l) (f:=4) (nm := "bags_above") (g:=gB) (S:=S++X) (X64 k) rfl g0 h1 hl;have e:FT T G (k+7) 18 [Xa l,.fn 4 "bags_above"] (S++X)=.ok (X7 gB l) (S++X++Y):=by rw[ftx t18];exact h
 exact⟨X++Y,by rw[ftx t17,<- Vo];exact Xwh hc rfl e⟩
noncomputable def bar(l:List Int):D:=match Xau (tT (-1) l) with
 | some p=>.tup [.str "uneven",.int p]
 | none=>match X7 gB (stp (tT (-1) l)) with
  | .non=>.non
  | d=>.tup [.str "steps",d]
theorem Xwy(g:Nat->Nat->Nat)(l:List Int):X7 g l=.non\/∃ p:Nat,X7 g l=.int p:=by
 unfold X7;split
 ·exact .inr ⟨_,rfl⟩
 ·exact .inl rfl
noncomputable def X8g:Ex:=.ite (.cmp .is (.var 2) (.cst .non)) (.cst .non) (.tup (.cons (.cst (.str "steps")) (.cons (.var 2) .nil)))
theorem Xew:Xd4=⟨1,3,.cons (.asg (.var 1) (.call 11 (.cons (.var 0) .nil))) (.cons (.ite (.cmp .isnot (.var 1) (.cst .non)) (.cons (.ret (.tup (.cons (.cst (.str "uneven")) (.cons (.var 1) .nil)))) .nil) .nil)
 (.cons (.asg (.var 2) (.call 17 (.cons (.call 13 (.cons (.call 10 (.cons (.var 0) .nil)) .nil)) .nil))) (.cons (.ret X8g) .nil)))⟩:=rfl
theorem t19:T[19]?=some Xd4:=rfl
theorem Xja{a b:Ex}{x y:D}{env:En}{F:Fn}{S:Sto}(h1:ev F G a env S=.ok x S)(h2:ev F G b env S=.ok y S):ev F G (.tup (.cons a (.cons b .nil))) env S=.ok (.tup [x,y]) S:=by
 simp only[ev,evs,h1,h2,Rk0];exact if_pos (X9 (by simp))
theorem Xtl(o:Option Nat)(S:Sto):Xj .isnot (Xip o) .non S=.ok (.bl (!o.isNone)) S:=by cases o<;>rfl
theorem Xhd{F:Fn}{c:Ex}{a b:Sts}{env:En}{S S1:Sto}(h:ev F G c env S=.ok (.bl true) S1):exe F G (.ite c a b) env S=exes F G a env S1:=by
 rw[exe,h,Rk0];simp only[Xg]
theorem Xot{F:Fn}{a b:Option D}{g:Nat->Nat->Nat}{l:List Int}{S:Sto}{e:Ex}{i:Nat}{env:En}(hi:env[i]?=some (some (X7 g l))) :
  ev F G (.ite (.cmp .is (.var i) (.cst .non)) (.cst .non) (.tup (.cons (.cst (.str "steps")) (.cons (.var i) .nil)))) env S=.ok (match X7 g l with | .non=>.non|d=>.tup [.str "steps",d]) S:=by
 rcases Xwy g l with h|⟨p,h⟩
 ·rw[h] at hi ⊢
  simp only[ev,hi,Rk0,show Xj .is .non .non S=.ok (.bl true) S from rfl,Xg]
 ·rw[h] at hi ⊢
  rw[ev];simp only[ev,hi,Rk0,show Xj .is (.int p) .non S=.ok (.bl false) S from rfl,Xg];exact Xja rfl (by simp only[ev,hi])
theorem X49(k:Nat)(l:List Int)(S:Sto)(h1:1<=l.length)(hl:l.length<=12):∃ X,FT T G (k+9) 19 [Xa l] S=.ok (bar l) (S++X):=by
 have hh:(tT (-1) l).length=l.length:=Xdh _ _;obtain⟨X1,e1⟩:=X8e (k+2) l S h1 hl;have s1:=Xu (i:=1) (F:=FT T G (k+8)) (G:=G) (e:=.call 11 (.cons (.var 0) .nil)) (env:=[some (Xa l),none,none]) (S:=S) (d:=Xip (Xau (tT (-1) l))) (S':=S++X1) (by
  simp only[ev,evs,gZ0,Rk0,e1])
 have c2:ev (FT T G (k+8)) G (.cmp .isnot (.var 1) (.cst .non)) [some (Xa l),some (Xip (Xau (tT (-1) l))),none] (S++X1)=.ok (.bl (!(Xau (tT (-1) l)).isNone)) (S++X1):=by
  simp only[ev,gZ0,gS0,Rk0,Xtl]
 cases hf:Xau (tT (-1) l) with
 | some p =>
  rw[hf] at s1 c2;refine⟨X1,?_⟩;rw[ftx t19,Xew];have hb:bar l=.tup [.str "uneven",.int p]:=by unfold bar;rw[hf]
  rw[hb];refine Yi (env:=[some (Xa l),none,none]) rfl rfl ((Xb s1).trans (Xf ?_));refine(Xhd c2).trans ?_;exact Xf (by rw[exe];exact congrArg (fun r=>R.bind r _) (Xja rfl rfl))
 | none =>
  rw[hf] at s1 c2;obtain⟨X3,e3⟩:=turned (k+3) l (S++X1) h1 hl;obtain⟨X4,e4⟩:=X48 (k+6) (tT (-1) l) (S++X1++X3) (by omega) (by omega)
  have hs:(stp (tT (-1) l)).length=((tT (-1) l).length+1)/2:=Xwk (by omega)
  obtain⟨X5,e5⟩:=X65 k (stp (tT (-1) l)) (S++X1++X3++X4) (by omega) (by omega)
  have s3:=Xu (i:=2) (F:=FT T G (k+8)) (G:=G) (e:=.call 17 (.cons (.call 13 (.cons (.call 10 (.cons (.var 0) .nil)) .nil)) .nil)) (env:=[some (Xa l),some .non,none]) (S:=S++X1) (d:=X7 gB (stp (tT (-1) l))) (S':=S++X1++X3++X4++X5) (by
   simp only[ev,evs,gZ0,Rk0,e3,e4,e5])
  refine⟨X1++X3++X4++X5,?_⟩;rw[show S++(X1++X3++X4++X5)=S++X1++X3++X4++X5 by simp,ftx t19,Xew]
  have hb:bar l=(match X7 gB (stp (tT (-1) l)) with | .non=>.non|d=>.tup [.str "steps",d]):=by unfold bar;rw[hf]
  rw[hb];refine Yi (env:=[some (Xa l),none,none]) rfl rfl ((Xb s1).trans ((Xb (X8 c2)).trans ((Xb s3).trans (Xf ?_))));rw[exe];exact congrArg (fun r=>R.bind r _) (Xot (a:=none) (b:=none) (e:=.nev) rfl)
theorem X5a(k:Nat){d:D}{S:Sto}(t:Thing S d)(h:isr d=false):∃ X,FT T G (k+9) 19 [d] S=.ex (S++X).length (S++X++[.exc 7]):=by
 obtain⟨X,hc⟩:=X04 (k+2) t h;refine⟨X,?_⟩;have e:FT T G (k+8) 11 [d] S=.ex (S++X).length (S++X++[.exc 7]):=by rw[ftx t11];exact X4w hc
 rw[ftx t19,Xew];simp only[den,V0,if_true,V2,Vd];rw[Xdb (n:=(S++X).length) (S1:=S++X++[.exc 7]) (by simp only[exe,ev,evs,Ur,gZ0,Rk0,e,R.bind_ex])]
theorem t33:T[33]?=some Xb1:=rfl
noncomputable def due(d:D):D:=match d with
 | .tup xs=>if isr (.tup xs) then bar (xs.map fun | .int i=>i|_=>0) else .str "row"
 | _=>.str "row"
theorem Xjb{l:List Int}(h1:1<=l.length)(hl:l.length<=12):due (Xa l)=bar l:=by
 have e:(l.map D.int).map (fun | .int i=>i|_=>0)=l:=by simp[Vbs]
 have hi:=Xv3 h1 hl;unfold Xa at hi ⊢;simp only[due,hi,if_true,e]
theorem Xmz{d:D}(h:isr d=false):due d=.str "row" := by
 cases d with
 | tup xs=>simp only[due,h,Ud,if_false]
 | _=>rfl
noncomputable def Xqt:Sts:=.cons (.ret (.call 19 (.cons (.var 0) .nil))) .nil
noncomputable def Xwz:Sts:=.cons (.ret (.call 24 (.cons (.var 1) .nil))) .nil
theorem Xou:Xb1=⟨1,2,.cons (.try Xqt 0 1 Xwz) .nil⟩:=rfl
theorem Xm0:nasgs Xqt=true:=rfl
theorem X8h(k:Nat){d:D}{S:Sto}(t:Thing S d):∃ X,FT T G (k+12) 33 [d] S=.ok (due d) (S++X):=by
 cases hi:isr d with
 | true =>
  obtain⟨l,rfl,h1,hl⟩:=Xib hi;rw[Xjb h1 hl];obtain⟨X,e⟩:=X49 (k+2) l S h1 hl;refine⟨X,?_⟩;have ha:exes (FT T G (k+11)) G Xqt [some (Xa l),none] S=.ok (.rt (bar l)) (S++X):=Xf (by simp only[exe,ev,evs,gZ0,Rk0,e])
  rw[ftx t33,Xou];refine Yi (env:=[some (Xa l),none]) rfl rfl (Xf ?_);rw[exe,if_pos Xm0,ha]
 | false =>
  rw[Xmz hi];obtain⟨X,e⟩:=X5a (k+2) t hi;obtain⟨Y,hk⟩:=Xz7 (G:=G) (k:=k+10) t24 (c:=7) (by omega) (by omega) (S++X)
  refine⟨X++Y,?_⟩;have ha:exes (FT T G (k+11)) G Xqt [some d,none] S=.ex (S++X).length (S++X++[.exc 7]):=Xdb (by simp only[exe,ev,evs,gZ0,Rk0,e,R.bind_ex])
  have hg:(S++X++[O.exc 7])[(S++X).length]?=some (.exc 7):=by rw[Vac (Vh _),Ue];rfl
  have hh:exes (FT T G (k+11)) G Xwz [some d,some (.ref (S++X).length)] (S++X++[.exc 7])=.ok (.rt (.str "row")) (S++(X++Y)):=by
   refine Xf ?_;simp only[exe,ev,evs,gZ0,gS0,Rk0,hk];rw[Vo];rfl
  rw[ftx t33,Xou];refine Yi (env:=[some d,none]) rfl rfl (Xf ?_);rw[exe,if_pos Xm0,ha];dsimp only;rw[hg];dsimp only;rw[if_pos (by rfl)]
  have hh':exes (FT T G (k+11)) G Xwz (([some d,none]:En).set 1 (some (.ref (S++X).length))) (S++X++[.exc 7])=_:=hh;rw[hh']
noncomputable def sg(n:Nat):Int:=1-2*((n%2:Nat):Int)
theorem X05(n:Nat):sg (n+1) = -(sg n):=by unfold sg;omega
theorem Xtm(f:Nat->Int):∀ n,Xa1 ((Vc (n+1)).map f).reverse=((Vc (n+1)).map fun a=>sg (n-a)*f a).sum
 | 0=>by
  show Xa1 [f 0]=(sg 0*f 0+0:Int);rw[Xb5,show Xa1 ([]:List Int)=0 from rfl];simp[sg]
 | n+1=>by
  rw[Vdk,Va2,List.reverse_append,Va2,List.sum_append];simp only[V2,List.reverse_cons,List.reverse_nil,Uj,Ur];rw[Xb5,Xtm f n];have e:((Vc (n+1)).map fun a=>sg (n+1-a)*f a)=(Vc (n+1)).map fun a=>(-1)*(sg (n-a)*f a):=by
   refine Vch fun a ha=>?_
   have:=Vbd.mp ha;rw[show n+1-a=(n-a)+1 by omega,X05]
   simp only[Int.neg_mul,Int.one_mul]
  rw[e,Xop];simp only[Ue,sg];simp;omega
theorem Xw0(l:List Int)(p:Nat):((Vc (p+1)).map fun a=>sg (p-a)*Xx l p a).sum=tG (-1) l p:=by
 rw[<- Xtm];exact Xl8 l p
section
variable{F:Fn}
theorem X5b{P:Sto}{xs:List D}{y:D}{e:Ex}{env:En}{S':Sto}{i:Nat}(hi:env[i]?=some (some (.ref P.length)))(hl:xs.length<1000)(hv:∀ S,ev F G e env S=.ok y S->True)(he:ev F G e env (P++[.lst xs]++S')=.ok y (P++[.lst xs]++S')) :
  exe F G (.expr (.mth .append (.var i) (.cons e .nil))) env (P++[.lst xs]++S')=.ok (.nx env) (P++[.lst (xs++[y])]++S'):=by
 have hq:Xc (P++[O.lst xs]++S') P.length=some xs:=Xm Xe;have hm:lstM (P++[O.lst xs]++S') P.length=some xs:=hq;have hb:xs.length<big:=Vu hl (by decide)
 have hr:Xac .append (.ref P.length) (P++[O.lst xs]++S')=true:=by simp only[Xac,hq,Vbh]
 have hs:(P++[O.lst xs]++S').set P.length (.lst (xs++[y]))=P++[.lst (xs++[y])]++S':=by
  rw[Vo,Vbz _ _ (Vh _),Ue,List.singleton_append,List.set_cons_zero,Vo];rfl
 have ha:Xag .append (.ref P.length) [y] (P++[O.lst xs]++S')=.ok .non (P++[.lst (xs++[y])]++S'):=by
  simp only[Xag,hm,hb,if_true,hs]
 simp only[exe,ev,evs,hi,Rk0,hr,if_true,he,ha]
theorem Xjc{env:En}{L m:Nat}{cnt:Exs}{elt:Ex}{y:Nat->D}{S:Sto}(he:env.length=L)(hc:evs F G cnt env S=.ok [.int m] S)(hm:m<=1000)(ht:∀ a<m,ev F G elt (env++[none,some (.int a)]) S=.ok (y a) S) :
  ev F G (.cmr false 2 (.cons (.var (L+1)) (.rng cnt) .nil .nil) elt) env S=.ok (.ref S.length) (S++[.lst ((Vc m).map y)]):=by
 obtain⟨xs,hx,hxl⟩:=Ye (m:=(m:Int)) (by omega) (by omega)
 have hxl':xs.length=m:=by omega
 obtain⟨e',S',h2,rfl,_⟩:=Xa0 (F:=F) (G:=G) (t:=.var (L+1)) (n:=2) (elt:=elt) (env:=env) (S:=S) (S1:=S) (src:=.con xs) xs y
  (fun k e S'=>S'=S/\∃ x,e=env++[none,x]) (Xbn hc hx) rfl (X9 (by omega)) ⟨rfl,none,rfl⟩ (fun _ _ _ _=>rfl)
  (fun k dd ee S' hd hP=>by
   obtain⟨rfl,x,rfl⟩:=hP;obtain⟨rfl,hk⟩:=Y0 hx hd;exact⟨env++[none,some (.int k)],S',Xic he x _,ht k (by omega),rfl,_,rfl⟩)
 rw[hxl'] at h2;exact h2
noncomputable def Xqu:Ex:=.bin .mul (.bin .mul (.bin .sub (.cst (.int 1)) (.bin .mul (.cst (.int 2)) (.bin .mod (.bin .sub (.var 3) (.var 6)) (.cst (.int 2))))) (.call 25 (.cons (.bin .sub (.var 1) (.var 6)) (.cons (.bin .sub (.var 3) (.var 6)) .nil)))) (.idx (.var 0) (.var 6))
theorem X66(n:Nat):sg n=1\/sg n = -1:=by unfold sg;omega
theorem X06{l:List Int}{w p a:Nat}{x2 x4:Option D}{S:Sto}(hw:Yg F 25)(hl:l.length=w+1)(h12:w<=11)(hp:p<=w)(ha:a<=p) :
  ev F G Xqu ([some (Xa l),some (.int w),x2,some (.int p),x4]++[none,some (.int a)]) S=.ok (.int (sg (p-a)*Xx l p a)) S:=by
 have e1:(w:Int)-a=((w-a:Nat):Int):=by omega
 have e2:(p:Int)-a=((p-a:Nat):Int):=by omega
 have e3:(((p-a:Nat):Int))%2=(((p-a)%2:Nat):Int):=by omega
 have hc:=hw (w-a) (p-a) S (by omega) (by omega)
 have hb:C (w-a) (p-a)<=4096:=Xh5 (by omega)
 have m1:Yc 2 (((p-a)%2:Nat):Int)=true:=Xe5 (by decide) (by decide)
 have m2:Yc (1-2*(((p-a)%2:Nat):Int)) (C (w-a) (p-a):Int)=true:=Xa4 (by omega) (by omega)
 have hs:=X66 (p-a);have m3:Yc ((1-2*(((p-a)%2:Nat):Int))*(C (w-a) (p-a):Int)) (l.getD a 0)=true:=by
  have:(1-2*(((p-a)%2:Nat):Int))*(C (w-a) (p-a):Int)=(C (w-a) (p-a):Int)\/(1-2*(((p-a)%2:Nat):Int))*(C (w-a) (p-a):Int) = -(C (w-a) (p-a):Int):=by
   have h':(1-2*(((p-a)%2:Nat):Int))=1\/(1-2*(((p-a)%2:Nat):Int)) = -1:=hs;rcases h' with h|h<;>rw[h]<;>simp
  refine Xe5 ?_ ?_<;>(rcases this with h|h<;>rw[h]<;>omega)
 have hi:Yb (Xa l) (.int a) S=.ok (.int (l.getD a 0)) S:=Xh6 l a S (by omega)
 have hv:(1-2*(((p-a)%2:Nat):Int))*(C (w-a) (p-a):Int)*l.getD a 0=sg (p-a)*Xx l p a:=by
  unfold Xx;rw[show l.length-1-a=w-a by omega,Int.mul_assoc,Int.mul_comm (C (w-a) (p-a):Int)]
  rfl
 simp only[Xqu,ev,evs,Ur,Uj,gZ0,gS0,Rk0,Xr,e1,e2,Xdd (show(0:Int)<2 by decide),e3,Y7 m1,hc,Y7 m2,hi,Y7 m3,hv]
noncomputable def trB:Sts:=.cons (.asg (.var 4) (.cmr false 2 (.cons (.var 6) (.rng (.cons (.bin .add (.var 3) (.cst (.int 1))) .nil)) .nil .nil) Xqu)) (.cons (.expr (.mth .append (.var 2) (.cons (.blt .sum (.cons (.var 4) .nil)) .nil))) .nil)
theorem X5c{l:List Int}{w p:Nat}{x4:Option D}{P Y:Sto}{xs:List D}(hw:Yg F 25)(hl:l.length=w+1)(h12:w<=11)(hp:p<=w)(hx:xs.length<=100) :
  ∃ x4' Y',exes F G trB [some (Xa l),some (.int w),some (.ref P.length),some (.int p),x4] (P++[.lst xs]++Y)=.ok (.nx [some (Xa l),some (.int w),some (.ref P.length),some (.int p),x4']) (P++[.lst (xs++[.int (tG (-1) l p)])]++Y'):=by
 have c1:=Xjc (F:=F) (env:=[some (Xa l),some (.int w),some (.ref P.length),some (.int p),x4]) (L:=5) (m:=p+1) (cnt:=.cons (.bin .add (.var 3) (.cst (.int 1))) .nil) (elt:=Xqu) (y:=fun a=>.int (sg (p-a)*Xx l p a)) (S:=P++[.lst xs]++Y) rfl (by
  simp only[evs,ev,gZ0,gS0,Rk0,Xo];rfl) (by omega) (fun a ha=>X06 hw hl h12 hp (by omega))
 have s1:=Xu (i:=4) c1;have hm:((Vc (p+1)).map fun a=>D.int (sg (p-a)*Xx l p a))=((Vc (p+1)).map fun a=>sg (p-a)*Xx l p a).map D.int:=by simp[Vbs]
 rw[hm] at s1;have hs:Xk .sum [.ref (P++[O.lst xs]++Y).length] (P++[.lst xs]++Y++[.lst (((Vc (p+1)).map fun a=>sg (p-a)*Xx l p a).map D.int)])=.ok (.int (tG (-1) l p)) (P++[.lst xs]++Y++[.lst (((Vc (p+1)).map fun a=>sg (p-a)*Xx l p a).map D.int)]):=by
  rw[<- Xw0 l p];exact Xdi Xe
 refine⟨some (.ref (P++[O.lst xs]++Y).length),Y++[.lst (((Vc (p+1)).map fun a=>sg (p-a)*Xx l p a).map D.int)],?_⟩
 have s2:=X5b (F:=F) (P:=P) (xs:=xs) (y:=.int (tG (-1) l p)) (e:=.blt .sum (.cons (.var 4) .nil)) (env:=[some (Xa l),some (.int w),some (.ref P.length),some (.int p),some (.ref (P++[O.lst xs]++Y).length)]) (S':=Y++[.lst (((Vc (p+1)).map fun a=>sg (p-a)*Xx l p a).map D.int)]) (i:=2) rfl (by omega) (fun _ _=>trivial) (by
  rw[<- Vo];simp only[ev,evs,gZ0,gS0,Rk0];exact hs)
 rw[<- Vo] at s2;unfold trB;exact(Xb s1).trans ((Xb s2).trans (by simp only[exes]))
end
theorem X07:Xa9=⟨1,5,.cons (.asg (.var 1) (.bin .sub (.blt .len (.cons (.var 0) .nil)) (.cst (.int 1)))) (.cons (.asg (.var 2) (.lst .nil)) (.cons (.for (.var 3) (.rng (.cons (.bin .add (.var 1) (.cst (.int 1))) .nil)) trB) (.cons (.ret (.var 2)) .nil)))⟩:=rfl
theorem t30:T[30]?=some Xa9:=rfl
theorem Xx2(k:Nat)(l:List Int)(S:Sto)(h1:1<=l.length)(hl:l.length<=12):∃ Y,FT T G (k+3) 30 [Xa l] S=.ok (.ref S.length) (S++[.lst ((tT (-1) l).map D.int)]++Y):=by
 obtain⟨w,hw⟩:∃ w,l.length=w+1:=⟨l.length-1,by omega⟩
 have hF:Yg (FT T G (k+2)) 25:=(Xcy t25 (k+1)).ways;have s1:=Xu (i:=1) (F:=FT T G (k+2)) (G:=G) (e:=.bin .sub (.blt .len (.cons (.var 0) .nil)) (.cst (.int 1))) (env:=[some (Xa l),none,none,none,none]) (S:=S) (d:=.int w) (S':=S) (by
  simp only[ev,evs,gZ0,Rk0,Xcn,Xr];rw[show(l.length:Int)-1=(w:Int) by omega])
 have s2:=Xu (i:=2) (F:=FT T G (k+2)) (G:=G) (e:=.lst .nil) (env:=[some (Xa l),some (.int w),none,none,none]) (S:=S) (d:=.ref S.length) (S':=S++[.lst []]) (by
  simp only[ev,evs,Rk0];exact if_pos (X9 (by simp)))
 obtain⟨xs,hx,hxl⟩:=Ye (m:=(w:Int)+1) (by omega) (by omega)
 obtain⟨e',S',f2,⟨x3,x4,rfl⟩,Y,rfl⟩:=Xbg (F:=FT T G (k+2)) (G:=G) (t:=.var 3) (b:=trB) (xs:=xs) (es:=.cons (.bin .add (.var 1) (.cst (.int 1))) .nil) (env:=[some (Xa l),some (.int w),some (.ref S.length),none,none]) (S:=S++[.lst []]) (S1:=S++[.lst []]) (ds:=[.int ((w:Int)+1)])
  (fun i e S'=>(∃ x3 x4,e=[some (Xa l),some (.int w),some (.ref S.length),x3,x4])/\∃ Y,S'=S++[.lst (((Vc i).map (tG (-1) l)).map D.int)]++Y)
  (by simp only[evs,ev,gZ0,gS0,Rk0,Xo]) hx ⟨⟨none,none,rfl⟩,[],by simp⟩ (fun i d e S' hd hP=>by
   obtain⟨⟨x3,x4,rfl⟩,Y,rfl⟩:=hP;obtain⟨rfl,hi⟩:=Y0 hx hd;obtain⟨x4',Y',q⟩:=X5c (F:=FT T G (k+2)) (l:=l) (w:=w) (p:=i) (x4:=x4) (P:=S) (Y:=Y) (xs:=((Vc i).map (tG (-1) l)).map D.int) hF hw (by omega) (by omega) (by simp;omega)
   refine⟨_,_,_,rfl,q,⟨_,_,rfl⟩,Y',?_⟩;rw[Vdk,Va2,Va2];rfl)
 have hn:xs.length=l.length:=by omega
 refine⟨Y,?_⟩;rw[ftx t30,X07];refine Yi (env:=[some (Xa l),none,none,none,none]) rfl rfl ((Xb s1).trans ((Xb s2).trans ((Xb f2).trans (Xf ?_))));rw[hn];simp only[exe,ev,gZ0,gS0,Rk0];rfl
section
variable{F:Fn}
theorem Xw1{S:Sto}{q i:Nat}{x:Int}{xs:List D}{d:D}(h:Xc S q=some xs)(hd:xs[i]?=some d)(e:x=(i:Int)):Yb (.ref q) (.int x) S=.ok d S:=by
 have hi:=(Ve.mp hd).1;simp only[Yb,Xal,Xq,h,Vv,ixn hi e,hd]
theorem Xjd{S:Sto}{q i:Nat}{x:Int}{h:List Int}(hq:Xc S q=some (h.map D.int))(hi:i<h.length)(e:x=(i:Int)):Yb (.ref q) (.int x) S=.ok (.int (h.getD i 0)) S:=Xw1 hq (Xml hi) e
noncomputable def riC:Ex:=.cmr false 2 (.cons (.var 3) (.rng (.cons (.cst (.int 1)) (.cons (.bin .fdiv (.bin .add (.blt .len (.cons (.var 0) .nil)) (.cst (.int 1))) (.cst (.int 2))) .nil))) .nil .nil) (.bin .sub (.idx (.var 1) (.var 3)) (.idx (.var 1) (.bin .sub (.var 3) (.cst (.int 1)))))
theorem X5d{l h:List Int}{q:Nat}{S:Sto}(hq:Xc S q=some (h.map D.int))(he:h.length=l.length)(h1:1<=l.length)(hl:l.length<=12):ev F G riC [some (Xa l),some (.ref q)] S=.ok (.ref S.length) (S++[.lst (((Vc ((h.length+1)/2-1)).map fun i=>h.getD (i+1) 0-h.getD i 0).map D.int)]):=by
 have hm:((l.length:Int)+1)/2=((h.length+1)/2:Nat):=by omega
 have hit:evit F G (.rng (.cons (.cst (.int 1)) (.cons (.bin .fdiv (.bin .add (.blt .len (.cons (.var 0) .nil)) (.cst (.int 1))) (.cst (.int 2))) .nil))) [some (Xa l),some (.ref q)] S=.ok (.con ((Vc ((h.length+1)/2-1)).map fun(k:Nat)=>D.int (1+k))) S:=by
  refine Xbn (ds:=[.int 1,.int ((h.length+1)/2:Nat)]) ?_ (Xer (by omega))
  simp only[evs,ev,gZ0,Rk0,Xcn,Xo,Xaq (show Yd 2=true by decide+kernel),hm]
 obtain⟨e',S',h2,rfl,_⟩:=Xa0 (F:=F) (G:=G) (t:=.var 3) (n:=2) (elt:=.bin .sub (.idx (.var 1) (.var 3)) (.idx (.var 1) (.bin .sub (.var 3) (.cst (.int 1))))) ((Vc ((h.length+1)/2-1)).map fun(k:Nat)=>D.int (1+k)) (fun i=>.int (h.getD (i+1) 0-h.getD i 0))
  (fun i e S'=>S'=S/\∃ x,e=[some (Xa l),some (.ref q),none,x]) hit (by simp[Src.most]) (X9 (by simp;omega)) ⟨rfl,none,rfl⟩
  (fun i e S' hP=>rfl)
  (fun i d e S' hd hP=>by
   obtain⟨rfl,x,rfl⟩:=hP;have hi:i<(h.length+1)/2-1:=by have:=(Ve.mp hd).1;simpa using this
   simp only[V1,Uu hi,Vs,Vi] at hd;subst hd;have x1:Yb (.ref q) (.int (1+(i:Int))) S'=.ok (.int (h.getD (i+1) 0)) S':=Xjd hq (by omega) (by omega)
   have x2:Yb (.ref q) (.int (1+(i:Int)-1)) S'=.ok (.int (h.getD i 0)) S':=Xjd hq (by omega) (by omega)
   exact⟨_,_,rfl,by simp only[ev,gZ0,gS0,Vak,Rk0,Xr,x1,x2],rfl,_,rfl⟩)
 unfold riC;rw[h2];simp[Vbs]
noncomputable def riE:Ex:=.blt .tuple (.cons (.bin .add (.lst (.cons (.idx (.var 1) (.cst (.int 0))) .nil)) riC) .nil)
theorem X67{l h:List Int}{q:Nat}{S:Sto}(hq:Xc S q=some (h.map D.int))(he:h.length=l.length)(h1:1<=l.length)(hl:l.length<=12):∃ X,ev F G riE [some (Xa l),some (.ref q)] S=.ok (Xa (stp h)) (S++X):=by
 have x0:Yb (.ref q) (.int 0) S=.ok (.int (h.getD 0 0)) S:=Xjd hq (by omega) rfl
 have e1:ev F G (.lst (.cons (.idx (.var 1) (.cst (.int 0))) .nil)) [some (Xa l),some (.ref q)] S=.ok (.ref S.length) (S++[.lst [.int (h.getD 0 0)]]):=by
  simp only[ev,evs,gZ0,gS0,Rk0,x0];exact if_pos (X9 (by simp))
 have e2:=X5d (F:=F) (S:=S++[.lst [.int (h.getD 0 0)]]) (Xm hq) he h1 hl;have e3:=Xe9 (S:=S++[.lst [.int (h.getD 0 0)]]++[.lst (((Vc ((h.length+1)/2-1)).map fun i=>h.getD (i+1) 0-h.getD i 0).map D.int)]) (a:=S.length) (b:=(S++[O.lst [.int (h.getD 0 0)]]).length) (Xm Xe) Xe (by simp;omega)
 have es:[D.int (h.getD 0 0)]++((Vc ((h.length+1)/2-1)).map fun i=>h.getD (i+1) 0-h.getD i 0).map D.int=(stp h).map D.int:=rfl
 rw[es] at e3;generalize hS:S++[O.lst [.int (h.getD 0 0)]]++[.lst (((Vc ((h.length+1)/2-1)).map fun i=>h.getD (i+1) 0-h.getD i 0).map D.int)]=S2 at e2 e3
 have ht:Xk .tuple [.ref S2.length] (S2++[.lst ((stp h).map D.int)])=.ok (Xa (stp h)) (S2++[.lst ((stp h).map D.int)]):=by simp only[Xk,Xq,Xe,Xa]
 refine⟨[.lst [.int (h.getD 0 0)]]++[.lst (((Vc ((h.length+1)/2-1)).map fun i=>h.getD (i+1) 0-h.getD i 0).map D.int)]++[.lst ((stp h).map D.int)],?_⟩
 have hf:S++([O.lst [.int (h.getD 0 0)]]++[.lst (((Vc ((h.length+1)/2-1)).map fun i=>h.getD (i+1) 0-h.getD i 0).map D.int)]++[.lst ((stp h).map D.int)])=S2++[.lst ((stp h).map D.int)]:=by rw[<- hS];simp
 rw[hf];have ea:ev F G (.bin .add (.lst (.cons (.idx (.var 1) (.cst (.int 0))) .nil)) riC) [some (Xa l),some (.ref q)] S=.ok (.ref S2.length) (S2++[.lst ((stp h).map D.int)]):=by
  rw[ev,e1,Rk0,e2,Rk0,e3]
 unfold riE;rw[ev,evs,ea,Rk0,evs,Rk0,Rk0];exact ht
end
theorem Xw2:Xbq=⟨1,2,.cons (.asg (.var 1) (.call 30 (.cons (.var 0) .nil))) (.cons (.ret riE) .nil)⟩:=rfl
theorem t32:T[32]?=some Xbq:=rfl
theorem X5e(k:Nat)(l:List Int)(S:Sto)(h1:1<=l.length)(hl:l.length<=12):∃ X,FT T G (k+4) 32 [Xa l] S=.ok (Xa (stp (tT (-1) l))) (S++X):=by
 obtain⟨Y,e1⟩:=Xx2 k l S h1 hl;have s1:=Xu (i:=1) (F:=FT T G (k+3)) (G:=G) (e:=.call 30 (.cons (.var 0) .nil)) (env:=[some (Xa l),none]) (S:=S) (d:=.ref S.length) (S':=S++[.lst ((tT (-1) l).map D.int)]++Y) (by
  simp only[ev,evs,gZ0,Rk0,e1])
 obtain⟨X,e2⟩:=X67 (F:=FT T G (k+3)) (l:=l) (h:=tT (-1) l) (q:=S.length) (S:=S++[.lst ((tT (-1) l).map D.int)]++Y) (Xm Xe) (Xdh _ _) h1 hl;refine⟨[.lst ((tT (-1) l).map D.int)]++Y++X,?_⟩;rw[ftx t32,Xw2,show S++([O.lst ((tT (-1) l).map D.int)]++Y++X)=S++[.lst ((tT (-1) l).map D.int)]++Y++X by simp]
 refine Yi (env:=[some (Xa l),none]) rfl rfl ((Xb s1).trans (Xf ?_));rw[exe];exact congrArg (fun r=>R.bind r _) e2
noncomputable def plE:Ex:=.cmr false 2 (.cons (.var 5) (.rng (.cons (.blt .len (.cons (.var 1) .nil)) .nil)) (.cons (.cmp .ne (.idx (.var 1) (.var 5)) (.idx (.var 1) (.bin .sub (.bin .sub (.blt .len (.cons (.var 1) .nil)) (.cst (.int 1))) (.var 5)))) .nil) .nil) (.var 5)
noncomputable def unL(h:List Int):List D:=((Vc h.length).filter (Xb7 h)).map fun(i:Nat)=>.int i
theorem X68{F:Fn}{a0 a2 a3:Option D}{h:List Int}{q:Nat}{S:Sto}(hq:Xc S q=some (h.map D.int))(hl:h.length<=12):ev F G plE [a0,some (.ref q),a2,a3] S=.ok (.ref S.length) (S++[.lst (unL h)]):=by
 have hn:Xk .len [.ref q] S=.ok (.int h.length) S:=by rw[Xil hq,Vr]
 obtain⟨xs,hx,hxl⟩:=Ye (m:=(h.length:Int)) (by omega) (by omega)
 have hxl':xs.length=h.length:=by omega
 have hit:evit F G (.rng (.cons (.blt .len (.cons (.var 1) .nil)) .nil)) [a0,some (.ref q),a2,a3] S=.ok (.con xs) S:=Xbn (ds:=[.int h.length]) (by simp only[evs,ev,gZ0,gS0,Rk0,hn]) hx
 have e:=X4y (F:=F) (G:=G) (t:=.var 5) (n:=2) (ifs:=.cons (.cmp .ne (.idx (.var 1) (.var 5)) (.idx (.var 1) (.bin .sub (.bin .sub (.blt .len (.cons (.var 1) .nil)) (.cst (.int 1))) (.var 5)))) .nil) (elt:=.var 5) (xs:=xs) (Xb7 h) (fun(i:Nat)=>.int i) (fun e=>∃ x,e=[a0,some (.ref q),a2,a3,none,x]) hit rfl (by omega) ⟨none,rfl⟩ (fun i=>rfl)
  (fun i d e hd hP=>by
   obtain⟨x,rfl⟩:=hP;obtain⟨rfl,hi'⟩:=Y0 hx hd;have hi:i<h.length:=by omega
   refine⟨[a0,some (.ref q),a2,a3,none,some (.int i)],rfl,?_,rfl,_,rfl⟩;have x1:Yb (.ref q) (.int i) S=.ok (.int (h.getD i 0)) S:=Xjd hq hi rfl;have x2:Yb (.ref q) (.int ((h.length:Int)-1-i)) S=.ok (.int (h.reverse.getD i 0)) S:=by rw[X01 hi];exact Xjd hq (by omega) (by omega)
   simp only[evts,ev,evs,gZ0,gS0,Rk0,hn,Xr,x1,x2,Xgs,Xg,Xb7];cases (!(h.getD i 0==h.reverse.getD i 0))<;>rfl)
 rw[hxl'] at e;exact e
theorem X5f(h:List Int):(unL h).isEmpty=(Xau h).isNone/\(∀ p,Xau h=some p->(unL h)[0]?=some (.int p)):=by
 have e:Xau h=((Vc h.length).filter (Xb7 h))[0]?:=(Xtf _ _).symm;unfold unL;rw[e];cases (Vc h.length).filter (Xb7 h) with
 | nil=>exact⟨rfl,fun p z=>by cases z⟩
 | cons n r=>exact⟨rfl,fun p z=>by cases z;rfl⟩
theorem Xxc{x y:D}{b:Bool}{S:Sto}(h:Xj .eq x y S=.ok (.bl b) S):Xj .ne x y S=.ok (.bl (!b)) S:=by
 unfold Xj at h ⊢;simp only[X0] at h ⊢;cases e:eqD S x y with
 | none=>rw[e] at h;cases h
 | some c=>rw[e] at h;cases h;rfl
noncomputable def X8i:Sts:=.cons (.asg (.var 3) (.call 28 (.cons (.call 32 (.cons (.var 0) .nil)) (.cons (.cst (.int 2)) .nil)))) (.cons (.ret (.ite (.cmp .is (.var 3) (.cst .non)) (.cst .non) (.tup (.cons (.cst (.str "steps")) (.cons (.var 3) .nil))))) .nil)
theorem Xm1:Xcc=⟨1,4,.cons (.ite (.not (.call 29 (.cons (.var 0) .nil))) (.cons (.ret (.cst (.str "row"))) .nil) .nil) (.cons (.asg (.var 1) (.call 30 (.cons (.var 0) .nil))) (.cons (.asg (.var 2) plE)
 (.cons (.ite (.cmp .ne (.var 2) (.lst .nil)) (.cons (.ret (.tup (.cons (.cst (.str "uneven")) (.cons (.idx (.var 2) (.cst (.int 0))) .nil)))) .nil) .nil) X8i)))⟩:=rfl
theorem t34:T[34]?=some Xcc:=rfl
theorem X08(k:Nat){d:D}{S:Sto}(t:Thing S d):∃ X,FT T G (k+2) 29 [d] S=.ok (.bl (isr d)) (S++X):=by
 obtain⟨X,h⟩:=Xtc (G:=G) (X02 k) t;exact⟨X,by rw[ftx t29];exact h⟩
theorem Xtn(k:Nat){l:List Int}(hl:l.length<=12)(S:Sto):∃ X,FT T G (k+4) 28 [Xa l,.int 2] S=.ok (X7 gB l) (S++X):=by
 obtain⟨X,h⟩:=Xwg (G:=G) (S:=S) (next k) hl
 exact⟨X,by rw[ftx t28];exact h⟩
theorem X5g{F:Fn}{e:Ex}{b:Bool}{env:En}{S S1:Sto}(h:ev F G e env S=.ok (.bl b) S1):ev F G (.not e) env S=.ok (.bl (!b)) S1:=by
 rw[ev,h,Rk0];cases b<;>rfl
theorem X8j(k:Nat){d:D}{S:Sto}(t:Thing S d):∃ X,FT T G (k+6) 34 [d] S=.ok (due d) (S++X):=by
 obtain⟨X1,e1⟩:=X08 (k+3) t;have c1:ev (FT T G (k+5)) G (.not (.call 29 (.cons (.var 0) .nil))) [some d,none,none,none] S=.ok (.bl (!isr d)) (S++X1):=X5g (by simp only[ev,evs,gZ0,Rk0,e1])
 cases hi:isr d with
 | false =>
  rw[hi] at c1;rw[Xmz hi];refine⟨X1,?_⟩;rw[ftx t34,Xm1];exact Yi (env:=[some d,none,none,none]) rfl rfl (Xf ((Xhd c1).trans (Xf (by simp only[exe,ev,Rk0]))))
 | true =>
  rw[hi] at c1;obtain⟨l,rfl,h1,hl⟩:=Xib hi;rw[Xjb h1 hl];have s1:=X8 (a:=.cons (.ret (.cst (.str "row"))) .nil) c1;obtain⟨Y2,e2⟩:=Xx2 (k+2) l (S++X1) h1 hl;have hh:(tT (-1) l).length=l.length:=Xdh _ _;have s2:=Xu (i:=1) (F:=FT T G (k+5)) (G:=G) (e:=.call 30 (.cons (.var 0) .nil)) (env:=[some (Xa l),none,none,none]) (S:=S++X1) (d:=.ref (S++X1).length) (S':=S++X1++[.lst ((tT (-1) l).map D.int)]++Y2) (by
   simp only[ev,evs,gZ0,Rk0,e2])
  have l2:Xc (S++X1++[O.lst ((tT (-1) l).map D.int)]++Y2) (S++X1).length=some ((tT (-1) l).map D.int):=Xm Xe;obtain⟨S2,hS2⟩:∃ S2,S2=S++X1++[O.lst ((tT (-1) l).map D.int)]++Y2:=⟨_,rfl⟩;have hX2:S2=S++(X1++[O.lst ((tT (-1) l).map D.int)]++Y2):=by rw[hS2];simp
  rw[<- hS2] at s2 l2;have hbar:bar l=match Xau (tT (-1) l) with
   | some p=>.tup [.str "uneven",.int p]
   | none=>match X7 gB (stp (tT (-1) l)) with
    | .non=>.non
    | d=>.tup [.str "steps",d]:=rfl
  have s3:=Xu (i:=2) (X68 (F:=FT T G (k+5)) (a0:=some (Xa l)) (a2:=none) (a3:=none) l2 (by omega))
  obtain⟨v1,v2⟩:=X5f (tT (-1) l);have c4:ev (FT T G (k+5)) G (.cmp .ne (.var 2) (.lst .nil)) [some (Xa l),some (.ref (S++X1).length),some (.ref S2.length),none] (S2++[.lst (unL (tT (-1) l))])=.ok (.bl (!(Xau (tT (-1) l)).isNone)) (S2++[.lst (unL (tT (-1) l))]++[.lst []]):=by
   have hc:=X4l (S:=S2++[O.lst (unL (tT (-1) l))]++[O.lst []]) (Xm Xe) (Xe (S:=S2++[O.lst (unL (tT (-1) l))]) (xs:=[]));rw[v1] at hc;simp only[ev,evs,gZ0,gS0,Rk0];rw[if_pos (X9 (by simp)),Rk0]
   exact Xxc hc
  cases hf:Xau (tT (-1) l) with
  | some p =>
   rw[hf] at c4;rw[hbar,hf];refine⟨X1++[O.lst ((tT (-1) l).map D.int)]++Y2++[.lst (unL (tT (-1) l))]++[.lst []],?_⟩;rw[show S++(X1++[O.lst ((tT (-1) l).map D.int)]++Y2++[.lst (unL (tT (-1) l))]++[.lst []])=S2++[.lst (unL (tT (-1) l))]++[.lst []] by rw[hX2];simp,ftx t34,Xm1]
   have x0:Yb (.ref S2.length) (.int 0) (S2++[.lst (unL (tT (-1) l))]++[.lst []])=.ok (.int p) (S2++[.lst (unL (tT (-1) l))]++[.lst []]):=Xw1 (Xm Xe) (v2 p hf) rfl;refine Yi (env:=[some (Xa l),none,none,none]) rfl rfl ((Xb s1).trans ((Xb s2).trans ((Xb s3).trans (Xf ((Xhd c4).trans (Xf ?_))))));rw[exe];exact congrArg (fun r=>R.bind r _) (Xja rfl (by simp only[ev,gZ0,gS0,Vak,Rk0,x0]))
  | none =>
   rw[hf] at c4;rw[hbar,hf];obtain⟨X5,e5⟩:=X5e (k+1) l (S2++[.lst (unL (tT (-1) l))]++[.lst []]) h1 hl;have hsl:(stp (tT (-1) l)).length=((tT (-1) l).length+1)/2:=Xwk (by omega)
   obtain⟨X6,e6⟩:=Xtn (k+1) (l:=stp (tT (-1) l)) (by omega) (S2++[.lst (unL (tT (-1) l))]++[.lst []]++X5)
   have s5:=Xu (i:=3) (F:=FT T G (k+5)) (G:=G) (e:=.call 28 (.cons (.call 32 (.cons (.var 0) .nil)) (.cons (.cst (.int 2)) .nil))) (env:=[some (Xa l),some (.ref (S++X1).length),some (.ref S2.length),none]) (S:=S2++[.lst (unL (tT (-1) l))]++[.lst []]) (d:=X7 gB (stp (tT (-1) l))) (S':=S2++[.lst (unL (tT (-1) l))]++[.lst []]++X5++X6) (by
    simp only[ev,evs,gZ0,Rk0,e5,e6])
   refine⟨X1++[O.lst ((tT (-1) l).map D.int)]++Y2++[.lst (unL (tT (-1) l))]++[.lst []]++X5++X6,?_⟩;rw[show S++(X1++[O.lst ((tT (-1) l).map D.int)]++Y2++[.lst (unL (tT (-1) l))]++[.lst []]++X5++X6)=S2++[.lst (unL (tT (-1) l))]++[.lst []]++X5++X6 by rw[hX2];simp,ftx t34,Xm1]
   refine Yi (env:=[some (Xa l),none,none,none]) rfl rfl ((Xb s1).trans ((Xb s2).trans ((Xb s3).trans ((Xb (X8 c4)).trans ((Xb s5).trans (Xf ?_))))));rw[exe];exact congrArg (fun r=>R.bind r _) (Xot (a:=none) (b:=none) (e:=.nev) rfl)
section
variable{F:Fn}
theorem Xw3{env:En}{L m:Nat}{cnt:Exs}{elt:Ex}{y:Nat->D}{S:Sto}(he:env.length=L)(hc:evs F G cnt env S=.ok [.int m] S)(hm:m<=1000)(ht:∀ a<m,∀ X,∃ X',ev F G elt (env++[none,some (.int a)]) (S++X)=.ok (y a) (S++X')) :
  ∃ X,ev F G (.cmr false 2 (.cons (.var (L+1)) (.rng cnt) .nil .nil) elt) env S=.ok (.ref (S++X).length) (S++X++[.lst ((Vc m).map y)]):=by
 obtain⟨xs,hx,hxl⟩:=Ye (m:=(m:Int)) (by omega) (by omega)
 have hxl':xs.length=m:=by omega
 obtain⟨e',S',h2,⟨X,rfl⟩,_⟩:=Xa0 (F:=F) (G:=G) (t:=.var (L+1)) (n:=2) (elt:=elt) (env:=env) (S:=S) (S1:=S) (src:=.con xs) xs y
  (fun k e S'=>(∃ X,S'=S++X)/\∃ x,e=env++[none,x]) (Xbn hc hx) rfl (X9 (by omega)) ⟨⟨[],by simp⟩,none,rfl⟩ (fun _ _ _ _=>rfl)
  (fun k dd ee S' hd hP=>by
   obtain⟨⟨X,rfl⟩,x,rfl⟩:=hP;obtain⟨rfl,hk⟩:=Y0 hx hd;obtain⟨X',q⟩:=ht k (by omega) X
   exact⟨env++[none,some (.int k)],_,Xic he x _,q,⟨X',rfl⟩,_,rfl⟩)
 rw[hxl'] at h2;exact⟨X,h2⟩
noncomputable def hfE:Ex:=.blt .sum (.cons (.sli (.var 1) .none (.some (.bin .add (.var 7) (.cst (.int 1))))) .nil)
theorem X69{l:List Int}{q a:Nat}{env:En}{S X:Sto}(he:env.length=6)(h1:env[1]?=some (some (.ref q)))(hq:Xc S q=some (l.map D.int)):∃ X',ev F G hfE (env++[none,some (.int a)]) (S++X)=.ok (.int (ps l (a+1))) (S++X'):=by
 have g1:(env++[none,some (D.int a)])[1]?=some (some (.ref q)):=Xbv h1;have g7:(env++[none,some (D.int a)])[7]?=some (some (.int a)):=Xid he _;have hc:cut (l.map D.int) none (some ((a:Int)+1))=(l.take (a+1)).map D.int:=by
  have:=Xmb (l.map D.int) (a+1);rw[List.map_take];exact this
 have hs:Xaw (.ref q) none (some ((a:Int)+1)) (S++X)=.ok (.ref (S++X).length) (S++X++[.lst ((l.take (a+1)).map D.int)]):=by
  simp only[Xaw,Xm hq,hc]
 have hv:Xk .sum [.ref (S++X).length] (S++X++[.lst ((l.take (a+1)).map D.int)])=.ok (.int (ps l (a+1))) (S++X++[.lst ((l.take (a+1)).map D.int)]):=Xdi Xe;refine⟨X++[.lst ((l.take (a+1)).map D.int)],?_⟩;rw[<- Vo];simp only[hfE,ev,evs,evo,g1,g7,Rk0,Xo,Xa6,hs,hv]
noncomputable def Yn(l:List Int)(w:Nat):List Int:=(Vc (w+1)).map fun p=>ps l (min p (w-p)+1)
theorem Xd5(l:List Int)(w:Nat):(Yn l w).length=w+1:=by simp[Yn]
noncomputable def loE:Ex:=.idx (.var 2) (.blt .min (.cons (.var 7) (.cons (.bin .sub (.var 0) (.var 7)) .nil)))
theorem X7a{l:List Int}{r w a:Nat}{env:En}{S:Sto}(he:env.length=6)(h0:env[0]?=some (some (.int w)))(h2:env[2]?=some (some (.ref r)))(hr:Xc S r=some ((Vc l.length).map fun i=>.int (ps l (i+1))))(hl:l.length=w/2+1)(ha:a<=w) :
  ev F G loE (env++[none,some (.int a)]) S=.ok (.int (ps l (min a (w-a)+1))) S:=by
 have g0:(env++[none,some (D.int a)])[0]?=some (some (.int w)):=Xbv h0;have g2:(env++[none,some (D.int a)])[2]?=some (some (.ref r)):=Xbv h2;have g7:(env++[none,some (D.int a)])[7]?=some (some (.int a)):=Xid he _;have hm:Xk .min [.int a,.int ((w:Int)-a)] S=.ok (.int ((min a (w-a):Nat):Int)) S:=by
  show R.ok (D.int (if (w:Int)-a<a then (w:Int)-a else a)) S=_
  congr 2;split<;>omega
 have hx:Yb (.ref r) (.int ((min a (w-a):Nat):Int)) S=.ok (.int (ps l (min a (w-a)+1))) S:=Xw1 hr (by simp[show min a (w-a)<l.length by omega]) rfl
 simp only[loE,ev,evs,g0,g2,g7,Rk0,Xr,hm,hx]
noncomputable def evE:Ex:=.bin .mul (.idx (.var 3) (.var 7)) (.call 25 (.cons (.bin .sub (.var 0) (.var 7)) (.cons (.bin .sub (.var 5) (.var 7)) .nil)))
theorem X7b{lo:List Int}{r w p a:Nat}{env:En}{S:Sto}(hw:Yg F 25)(he:env.length=6)(h0:env[0]?=some (some (.int w)))(h3:env[3]?=some (some (.ref r)))(h5:env[5]?=some (some (.int p)))(hr:Xc S r=some (lo.map D.int))(hl:lo.length=w+1)(h12:w<=11)(hp:p<=w)(ha:a<=p) :
  ev F G evE (env++[none,some (.int a)]) S=.ok (.int (Xx lo p a)) S:=by
 have g0:(env++[none,some (D.int a)])[0]?=some (some (.int w)):=Xbv h0;have g3:(env++[none,some (D.int a)])[3]?=some (some (.ref r)):=Xbv h3;have g5:(env++[none,some (D.int a)])[5]?=some (some (.int p)):=Xbv h5;have g7:(env++[none,some (D.int a)])[7]?=some (some (.int a)):=Xid he _;have e1:(w:Int)-a=((w-a:Nat):Int):=by omega
 have e2:(p:Int)-a=((p-a:Nat):Int):=by omega
 have hc:=hw (w-a) (p-a) S (by omega) (by omega)
 have hb:C (w-a) (p-a)<=4096:=Xh5 (by omega)
 have m1:Yc (lo.getD a 0) (C (w-a) (p-a):Int)=true:=Xa4 (by omega) (by omega)
 have hx:Yb (.ref r) (.int a) S=.ok (.int (lo.getD a 0)) S:=Xjd hr (by omega) rfl
 have hv:lo.getD a 0*(C (w-a) (p-a):Int)=Xx lo p a:=by unfold Xx;rw[show lo.length-1-a=w-a by omega]
 simp only[evE,ev,evs,g0,g3,g5,g7,Rk0,hx,Xr,e1,e2,hc,Y7 m1,hv]
noncomputable def erB:Sts:=.cons (.expr (.mth .append (.var 4) (.cons (.blt .sum (.cons (.cmr false 2 (.cons (.var 7) (.rng (.cons (.bin .add (.var 5) (.cst (.int 1))) .nil)) .nil .nil) evE) .nil)) .nil))) .nil
theorem X09{P:Sto}{xs:List D}{y:D}{e:Ex}{env:En}{Y Y':Sto}{i:Nat}(hi:env[i]?=some (some (.ref P.length)))(hl:xs.length<1000)(he:ev F G e env (P++[.lst xs]++Y)=.ok y (P++[.lst xs]++Y')) :
  exe F G (.expr (.mth .append (.var i) (.cons e .nil))) env (P++[.lst xs]++Y)=.ok (.nx env) (P++[.lst (xs++[y])]++Y'):=by
 have hq:∀ Y:Sto,Xc (P++[O.lst xs]++Y) P.length=some xs:=fun Y=>Xm Xe
 have hm:lstM (P++[O.lst xs]++Y') P.length=some xs:=hq Y';have hb:xs.length<big:=Vu hl (by decide)
 have hr:Xac .append (.ref P.length) (P++[O.lst xs]++Y)=true:=by simp only[Xac,hq,Vbh]
 have hs:(P++[O.lst xs]++Y').set P.length (.lst (xs++[y]))=P++[.lst (xs++[y])]++Y':=by
  rw[Vo,Vbz _ _ (Vh _),Ue,List.singleton_append,List.set_cons_zero,Vo];rfl
 have ha:Xag .append (.ref P.length) [y] (P++[O.lst xs]++Y')=.ok .non (P++[.lst (xs++[y])]++Y'):=by
  simp only[Xag,hm,hb,if_true,hs]
 simp only[exe,ev,evs,hi,Rk0,hr,if_true,he,ha]
theorem X5h{lo:List Int}{r w p:Nat}{a1 a2:Option D}{P Y:Sto}{xs:List D}(hw:Yg F 25)(hr:Xc P r=some (lo.map D.int))(hl:lo.length=w+1)(h12:w<=11)(hp:p<=w)(hx:xs.length<=100) :
  ∃ Y',exes F G erB [some (.int w),a1,a2,some (.ref r),some (.ref P.length),some (.int p)] (P++[.lst xs]++Y)=.ok (.nx [some (.int w),a1,a2,some (.ref r),some (.ref P.length),some (.int p)]) (P++[.lst (xs++[.int (tG 1 lo p)])]++Y'):=by
 have c1:=Xjc (F:=F) (env:=[some (.int w),a1,a2,some (.ref r),some (.ref P.length),some (.int p)]) (L:=6) (m:=p+1) (cnt:=.cons (.bin .add (.var 5) (.cst (.int 1))) .nil) (elt:=evE) (y:=fun a=>.int (Xx lo p a)) (S:=P++[.lst xs]++Y) rfl (by
  simp only[evs,ev,gZ0,gS0,Rk0,Xo];rfl) (by omega) (fun a ha=>X7b hw rfl rfl rfl rfl (Xm (Xm hr)) hl h12 hp (by omega))
 have hm:((Vc (p+1)).map fun a=>D.int (Xx lo p a))=((Vc (p+1)).map (Xx lo p)).map D.int:=by simp[Vbs]
 rw[hm] at c1;have hs:Xk .sum [.ref (P++[O.lst xs]++Y).length] (P++[.lst xs]++Y++[.lst (((Vc (p+1)).map (Xx lo p)).map D.int)])=.ok (.int (tG 1 lo p)) (P++[.lst xs]++Y++[.lst (((Vc (p+1)).map (Xx lo p)).map D.int)]):=by
  rw[<- Xvt lo p];exact Xdi Xe
 refine⟨Y++[.lst (((Vc (p+1)).map (Xx lo p)).map D.int)],?_⟩;have s:=X09 (F:=F) (P:=P) (xs:=xs) (y:=.int (tG 1 lo p)) (e:=.blt .sum (.cons (.cmr false 2 (.cons (.var 7) (.rng (.cons (.bin .add (.var 5) (.cst (.int 1))) .nil)) .nil .nil) evE) .nil)) (env:=[some (.int w),a1,a2,some (.ref r),some (.ref P.length),some (.int p)]) (Y:=Y) (Y':=Y++[.lst (((Vc (p+1)).map (Xx lo p)).map D.int)]) (i:=4) rfl (by omega) (by
  rw[<- Vo,ev,evs,c1,Rk0,evs,Rk0,Rk0];exact hs)
 unfold erB;exact(Xb s).trans (by simp only[exes])
end
theorem X1a:Xav=⟨2,6,.cons (.asg (.var 2) (.cmr false 2 (.cons (.var 7) (.rng (.cons (.blt .len (.cons (.var 1) .nil)) .nil)) .nil .nil) hfE)) (.cons (.asg (.var 3) (.cmr false 2 (.cons (.var 7) (.rng (.cons (.bin .add (.var 0) (.cst (.int 1))) .nil)) .nil .nil) loE))
 (.cons (.asg (.var 4) (.lst .nil)) (.cons (.for (.var 5) (.rng (.cons (.bin .add (.var 0) (.cst (.int 1))) .nil)) erB) (.cons (.ret (.blt .tuple (.cons (.var 4) .nil))) .nil))))⟩:=rfl
theorem t31:T[31]?=some Xav:=rfl
theorem X8k(k:Nat){l:List Int}{w q:Nat}{S:Sto}(hq:Xc S q=some (l.map D.int))(hl:l.length=w/2+1)(hw:w<=11):∃ X,FT T G (k+3) 31 [.int w,.ref q] S=.ok (Xa (tT 1 (Yn l w))) (S++X):=by
 have hF:Yg (FT T G (k+2)) 25:=(Xcy t25 (k+1)).ways;have hn:Xk .len [.ref q] S=.ok (.int l.length) S:=by rw[Xil hq,Vr]
 obtain⟨X1,e1⟩:=Xw3 (F:=FT T G (k+2)) (env:=[some (.int w),some (.ref q),none,none,none,none]) (L:=6) (m:=l.length) (cnt:=.cons (.blt .len (.cons (.var 1) .nil)) .nil) (elt:=hfE) (y:=fun a=>.int (ps l (a+1))) (S:=S) rfl (by
  simp only[evs,ev,gZ0,gS0,Rk0,hn]) (by omega) (fun a ha X=>X69 rfl rfl hq)
 have s1:=Xu (i:=2) e1;obtain⟨S1,hS1⟩:∃ S1,S1=S++X1:=⟨_,rfl⟩;rw[<- hS1] at s1;have e2:=Xjc (F:=FT T G (k+2)) (env:=[some (.int w),some (.ref q),some (.ref S1.length),none,none,none]) (L:=6) (m:=w+1) (cnt:=.cons (.bin .add (.var 0) (.cst (.int 1))) .nil) (elt:=loE) (y:=fun a=>.int (ps l (min a (w-a)+1))) (S:=S1++[.lst ((Vc l.length).map fun a=>.int (ps l (a+1)))]) rfl (by
  simp only[evs,ev,gZ0,Rk0,Xo];rfl) (by omega) (fun a ha=>X7a rfl rfl rfl Xe hl (by omega))
 have hm:((Vc (w+1)).map fun a=>D.int (ps l (min a (w-a)+1)))=(Yn l w).map D.int:=by simp[Yn,Vbs]
 rw[hm] at e2;have s2:=Xu (i:=3) e2;obtain⟨S2,hS2⟩:∃ S2,S2=S1++[O.lst ((Vc l.length).map fun a=>.int (ps l (a+1)))]:=⟨_,rfl⟩
 rw[<- hS2] at s1 s2;have r3:Xc (S2++[O.lst ((Yn l w).map D.int)]) S2.length=some ((Yn l w).map D.int):=Xe;obtain⟨S3,hS3⟩:∃ S3,S3=S2++[O.lst ((Yn l w).map D.int)]:=⟨_,rfl⟩;rw[<- hS3] at s2 r3;have s3:=Xu (i:=4) (F:=FT T G (k+2)) (G:=G) (e:=.lst .nil) (env:=[some (.int w),some (.ref q),some (.ref S1.length),some (.ref S2.length),none,none]) (S:=S3) (d:=.ref S3.length) (S':=S3++[.lst []]) (by
  simp only[ev,evs,Rk0];exact if_pos (X9 (by simp)))
 obtain⟨xs,hx,hxl⟩:=Ye (m:=(w:Int)+1) (by omega) (by omega)
 obtain⟨e',S',f4,⟨x5,rfl⟩,Y,rfl⟩:=Xbg (F:=FT T G (k+2)) (G:=G) (t:=.var 5) (b:=erB) (xs:=xs) (es:=.cons (.bin .add (.var 0) (.cst (.int 1))) .nil) (env:=[some (.int w),some (.ref q),some (.ref S1.length),some (.ref S2.length),some (.ref S3.length),none]) (S:=S3++[.lst []]) (S1:=S3++[.lst []]) (ds:=[.int ((w:Int)+1)])
  (fun i e S'=>(∃ x5,e=[some (.int w),some (.ref q),some (.ref S1.length),some (.ref S2.length),some (.ref S3.length),x5])/\∃ Y,S'=S3++[.lst (((Vc i).map (tG 1 (Yn l w))).map D.int)]++Y)
  (by simp only[evs,ev,gZ0,Rk0,Xo]) hx ⟨⟨none,rfl⟩,[],by simp⟩ (fun i d e S' hd hP=>by
   obtain⟨⟨x5,rfl⟩,Y,rfl⟩:=hP;obtain⟨rfl,hi⟩:=Y0 hx hd;obtain⟨Y',q'⟩:=X5h (F:=FT T G (k+2)) (lo:=Yn l w) (w:=w) (p:=i) (r:=S2.length) (a1:=some (.ref q)) (a2:=some (.ref S1.length)) (P:=S3) (Y:=Y) (xs:=((Vc i).map (tG 1 (Yn l w))).map D.int) hF r3 (Xd5 l w) hw (by omega) (by simp;omega)
   refine⟨_,_,_,rfl,q',⟨_,rfl⟩,Y',?_⟩;rw[Vdk,Va2,Va2];rfl)
 have hn':xs.length=w+1:=by omega
 have hT:((Vc xs.length).map (tG 1 (Yn l w))).map D.int=(tT 1 (Yn l w)).map D.int:=by rw[hn'];unfold tT;rw[Xd5]
 rw[hT] at f4;have ht:Xk .tuple [.ref S3.length] (S3++[.lst ((tT 1 (Yn l w)).map D.int)]++Y)=.ok (Xa (tT 1 (Yn l w))) (S3++[.lst ((tT 1 (Yn l w)).map D.int)]++Y):=by simp only[Xk,Xq,Xm Xe,Xa]
 refine⟨X1++[O.lst ((Vc l.length).map fun a=>.int (ps l (a+1)))]++[O.lst ((Yn l w).map D.int)]++[.lst ((tT 1 (Yn l w)).map D.int)]++Y,?_⟩
 have hf:S++(X1++[O.lst ((Vc l.length).map fun a=>.int (ps l (a+1)))]++[O.lst ((Yn l w).map D.int)]++[.lst ((tT 1 (Yn l w)).map D.int)]++Y)=S3++[.lst ((tT 1 (Yn l w)).map D.int)]++Y:=by rw[hS3,hS2,hS1];simp
 rw[hf,ftx t31,X1a];refine Yi (env:=[some (.int w),some (.ref q),none,none,none,none]) rfl rfl ((Xb s1).trans ((Xb s2).trans ((Xb s3).trans ((Xb f4).trans (Xf ?_)))));simp only[exe,ev,evs,gZ0,gS0,Rk0,ht]
noncomputable def tk(e:Ex):Ex:=.call 22 (.cons (.var 0) (.cons e .nil))
noncomputable def one:Ex:=.cst (.int 1)
noncomputable def p10(n:Int):Ex:=.bin .pow (.cst (.int 10)) (.cst (.int n))
noncomputable def e4:Int:=10^(4:Int).toNat
theorem pw4(S:Sto):Xs .pow (.int 10) (.int 4) S=.ok (.int e4) S:=Xde (by decide+kernel) S
theorem X7c:e4=10000:=by decide+kernel
theorem X7d:e30<=(mx:Int)/\0<=e30:=by decide+kernel
def Rn(p w:Nat)(S0:Sto)(r:D)(S:Sto):Prop:=∃ (q:Nat) (l:List Int),r=.ref q/\Xc S q=some (l.map D.int)/\l.length=w/2+1/\(∀ x∈l,x.natAbs<=mx)/\Ext p S0 S/\∃ v,Xc S p=some [.int v]
section
variable{F:Fn}{p q w pl sp wy:Nat}{S0 S:Sto}{l:List Int}{x6 x7:Option D}
noncomputable def E1:Ex:=.ite (.cmp .gt (.var 3) one) (.call 27 (.cons (.cst (.int 2)) (.cons (.idx (.var 2) (.neg one)) (.cons (.bin .sub (.var 3) one) .nil)))) (.idx (.lst (.cons (.cst (.int 3)) (.cons (.cst (.int 9)) (.cons (p10 4) .nil)))) (tk (.cst (.int 3))))
theorem Xov(env:En)(S:Sto):ev F G (.neg one) env S=.ok (.int (-1)) S:=rfl
theorem d3:Yd 3=true:=by decide+kernel
theorem d2':Yd 2=true:=by decide+kernel
theorem Xqv{x:Int}(h:0<=x/\x<=1000000000000):x.natAbs<=mx:=by have:=Xgy;omega
theorem X7e(hT:Xcb F 22)(hN:Xd2 F 27 2)(hpq:q≠p)(k:Kq p q S0 l S)(h1:1<=pl)(h2:pl<=11)(hl:l.length=pl)(hb:∀ x∈l,0<=x/\x<=1000000000000):∃ (far:Nat) (S':Sto),far+1<=mx/\Kq p q S0 l S' /\
  exe F G (.asg (.var 6) E1) [some (.ref p),some (.int w),some (.ref q),some (.int pl),some (.int sp),some (.int wy),x6,x7] S=.ok (.nx [some (.ref p),some (.int w),some (.ref q),some (.int pl),some (.int sp),some (.int wy),some (.int far),x7]) S':=by
 have m1:=Xgy;have m2:=X40
 by_cases c:1<pl
 ·have hd:decide ((1:Int)<(pl:Int))=true:=decide_eq_true (by omega)
  have hc:ev F G (.cmp .gt (.var 3) one) [some (.ref p),some (.int w),some (.ref q),some (.int pl),some (.int sp),some (.int wy),x6,x7] S=.ok (.bl true) S:=by
   simp only[one,ev,gZ0,gS0,Rk0,Xj,X0,hd]
  obtain⟨n,rfl⟩:∃ n,pl=n+1:=⟨pl-1,by omega⟩
  have hi:=Xv2 k.row hl;have hm:l.getD n 0∈l:=by
   have hn:n<l.length:=by omega
   have:l.getD n 0=l[n]:=by simp[Vds,hn]
   rw[this];exact Vcf hn
  have hx:=hb _ hm;have ex:l.getD n 0=((l.getD n 0).toNat:Int):=by omega
  obtain⟨X,h⟩:=hN (l.getD n 0).toNat n S (by omega) (by omega) (by omega)
  have bd:=X4z (kd:=2) (s:=n) (n:=(l.getD n 0).toNat) (by omega) (by omega)
  rw[<- ex] at h;have e0:((n+1:Nat):Int)-1=(n:Int):=by omega
  generalize abv (gK 2) n (l.getD n 0).toNat=A at h bd;refine⟨A,S++X,by omega,k.app,Xu ?_⟩
  unfold E1;rw[ev,hc,Rk0];simp only[Xg];rw[ev,evs];have h':F 27 [.int 2,.int (l.getD n 0),.int n] S=.ok (.int (A:Nat)) (S++X):=h;simp only[ev,evs,Xov,one,gZ0,gS0,Rk0,Xr,e0,hi,h']
 ·have hd:decide ((1:Int)<(pl:Int))=false:=decide_eq_false (by omega)
  have hc:ev F G (.cmp .gt (.var 3) one) [some (.ref p),some (.int w),some (.ref q),some (.int pl),some (.int sp),some (.int wy),x6,x7] S=.ok (.bl false) S:=by
   simp only[one,ev,gZ0,gS0,Rk0,Xj,X0,hd]
  obtain⟨v,hv⟩:=k.pot;have he:evs F G (.cons (.cst (.int 3)) (.cons (.cst (.int 9)) (.cons (p10 4) .nil))) [some (.ref p),some (.int w),some (.ref q),some (.int pl),some (.int sp),some (.int wy),x6,x7] S=.ok [.int 3,.int 9,.int e4] S:=by
   simp only[p10,evs,ev,Rk0,pw4]
  obtain⟨d,md,ed⟩:=Xvq (G:=G) hT (q:=0) (c:=3) (p:=p) (v:=v) he rfl (by decide) (by show 3<=big;decide) d3 rfl hv
  obtain⟨n,rfl,hn⟩:∃ n:Nat,d=.int n/\n<=1000000000000:=by
   simp only[Vl,V4,or_false] at md;rcases md with rfl|rfl|rfl
   ·exact⟨3,rfl,by decide⟩
   ·exact⟨9,rfl,by decide⟩
   ·exact⟨10000,congrArg D.int X7c,by decide⟩
  have he':ev F G E1 [some (.ref p),some (.int w),some (.ref q),some (.int pl),some (.int sp),some (.int wy),x6,x7] S=ev F G (.idx (.lst (.cons (.cst (.int 3)) (.cons (.cst (.int 9)) (.cons (p10 4) .nil)))) (tk (.cst (.int 3)))) [some (.ref p),some (.int w),some (.ref q),some (.int pl),some (.int sp),some (.int wy),x6,x7] S:=by
   unfold E1;rw[ev,hc,Rk0];simp only[Xg]
  exact⟨n,_,by omega,k.app.setp hpq _,Xu (he'.trans ed)⟩
noncomputable def E2:Ex:=.blt .min (.cons (.idx (.lst (.cons (.var 6) (.cons (tk (.bin .add (.var 6) one)) .nil))) (tk (.cst (.int 2)))) (.cons (p10 12) .nil))
theorem X7f(hT:Xcb F 22)(hpq:q≠p)(k:Kq p q S0 l S){far:Nat}(hf:far+1<=mx):∃ (num:Int) (S':Sto),(0<=num/\num<=1000000000000)/\Kq p q S0 l S' /\
  exe F G (.asg (.var 7) E2) [some (.ref p),some (.int w),some (.ref q),some (.int pl),some (.int sp),some (.int wy),some (.int far),x7] S=.ok (.nx [some (.ref p),some (.int w),some (.ref q),some (.int pl),some (.int sp),some (.int wy),some (.int far),some (.int num)]) S':=by
 obtain⟨v,hv⟩:=k.pot;have ef:(far:Int)+1=((far+1:Nat):Int):=by omega
 have t:=hT p v ((far+1:Nat):Int) S hv (by omega) (X42 hf (by omega))
 have n0:=Va1 v (show((far+1:Nat):Int)≠0 by omega)
 obtain⟨r,hr⟩:∃ r:Nat,v%((far+1:Nat):Int)=(r:Int):=⟨(v%((far+1:Nat):Int)).toNat,by omega⟩
 rw[hr] at t;have k1:=k.setp hpq (v/((far+1:Nat):Int));have p1:Xc (S.set p (.lst [.int (v/((far+1:Nat):Int))])) p=some [.int (v/((far+1:Nat):Int))]:=Yx (Yv hv);generalize S.set p (.lst [.int (v/((far+1:Nat):Int))])=S1 at t k1 p1;generalize v/((far+1:Nat):Int)=v1 at p1;have he:evs F G (.cons (.var 6) (.cons (tk (.bin .add (.var 6) one)) .nil)) [some (.ref p),some (.int w),some (.ref q),some (.int pl),some (.int sp),some (.int wy),some (.int far),x7] S=.ok [.int far,.int r] S1:=by
  simp only[tk,one,evs,ev,gZ0,gS0,Rk0,Xo,ef,t]
 obtain⟨d,md,ed⟩:=Xvq (G:=G) hT (q:=0) (c:=2) (p:=p) (v:=v1) he rfl (by decide) (by show 2<=big;decide) d2' rfl p1
 obtain⟨n,rfl⟩:∃ n:Nat,d=.int n:=by
  simp only[Vl,V4,or_false] at md;rcases md with rfl|rfl
  ·exact⟨far,rfl⟩
  ·exact⟨r,rfl⟩
 have hm:∀ S:Sto,Xk .min [.int (n:Int),.int e12] S=.ok (.int (if e12<(n:Int) then e12 else (n:Int))) S:=fun _=>rfl
 have hk:=k1.app (X:=[O.lst [.int far,.int r]]);have hk':=hk.setp hpq (v1/2);have ed':ev F G (.idx (.lst (.cons (.var 6) (.cons (tk (.bin .add (.var 6) one)) .nil))) (tk (.cst (.int 2)))) [some (.ref p),some (.int w),some (.ref q),some (.int pl),some (.int sp),some (.int wy),some (.int far),x7] S=.ok (.int n) ((S1++[O.lst [.int far,.int r]]).set p (.lst [.int (v1/2)])):=ed;generalize (S1++[O.lst [.int far,.int r]]).set p (.lst [.int (v1/2)])=S2 at hk' ed';refine⟨if e12<(n:Int) then e12 else (n:Int),S2,?_,hk',Xu ?_⟩
 ·rw[Xes];split<;>omega
 ·unfold E2
  rw[ev,evs,ed',Rk0];simp only[evs,ev,p10,Rk0,Xp9];exact hm _
noncomputable def spE:Exs:=.cons (.bin .add (.var 6) one) (.cons (.neg one) (.cons (.bin .add (p10 12) one) (.cons (.bin .sub (.bin .sub (.cst (.int 0)) (.var 6)) one) (.cons (p10 30) .nil))))
noncomputable def E3:Ex:=.bin .add (.bin .add (.var 2) (.lst (.cons (.idx (.lst spE) (.var 5)) .nil))) (.bin .mul (.lst (.cons (.cst (.int 0)) .nil)) (.bin .sub (.bin .fdiv (.var 1) (.cst (.int 2))) (.var 3)))
theorem X7g{far wy:Nat}(hf:far+1<=mx)(hw:wy<5):∃ m:Int,([D.int ((far:Int)+1),.int (-1),.int (e12+1),.int (0-(far:Int)-1),.int e30]:List D)[wy]'(by simpa using hw)=.int m/\m.natAbs<=mx:=by
 have m1:=Xgy;have m2:=X7d
 match wy,hw with
 | 0,_=>exact⟨_,rfl,by omega⟩
 | 1,_=>exact⟨_,rfl,by omega⟩
 | 2,_=>exact⟨_,rfl,by rw[Xes];omega⟩
 | 3,_=>exact⟨_,rfl,by omega⟩
 | 4,_=>exact⟨_,rfl,by omega⟩
theorem Xw4(n:Nat):(Vd n [D.int 0]).flatten=(Vd n (0:Int)).map D.int:=by
 rw[Xmc,Ve5]
theorem X7h(hpq:q≠p)(hq:S0.length<=q)(k:Kq p q S0 l S){far:Nat}(hf:far+1<=mx)(hw5:wy<5)(h2:pl<=w/2)(hw:w<=11)(hl:l.length=pl)(hb:∀ x∈l,0<=x/\x<=1000000000000) :
  ∃ r S',ev F G E3 [some (.ref p),some (.int w),some (.ref q),some (.int pl),some (.int sp),some (.int wy),some (.int far),x7] S=.ok r S'/\Rn p w S0 r S':=by
 obtain⟨m,m1,m2⟩:=X7g hf hw5;have he:evs F G spE [some (.ref p),some (.int w),some (.ref q),some (.int pl),some (.int sp),some (.int wy),some (.int far),x7] S=.ok [.int ((far:Int)+1),.int (-1),.int (e12+1),.int (0-(far:Int)-1),.int e30] S:=by
  simp only[spE,p10,evs,ev,one,gZ0,gS0,Rk0,Xp9,X4m,Xo,Xr]
 have hls:ev F G (.lst spE) [some (.ref p),some (.int w),some (.ref q),some (.int pl),some (.int sp),some (.int wy),some (.int far),x7] S=.ok (.ref S.length) (S++[.lst [.int ((far:Int)+1),.int (-1),.int (e12+1),.int (0-(far:Int)-1),.int e30]]):=by
  rw[ev,he,Rk0];exact if_pos (by show 5<=big;decide)
 have hi:=Xos (S:=S++[.lst [.int ((far:Int)+1),.int (-1),.int (e12+1),.int (0-(far:Int)-1),.int e30]]) (q:=S.length) (k:=wy) Xe (by simpa using hw5)
 rw[m1] at hi;have k1:=k.app (X:=[.lst [.int ((far:Int)+1),.int (-1),.int (e12+1),.int (0-(far:Int)-1),.int e30]]);generalize S++[O.lst [.int ((far:Int)+1),.int (-1),.int (e12+1),.int (0-(far:Int)-1),.int e30]]=S1 at hls hi k1;have hx:ev F G (.idx (.lst spE) (.var 5)) [some (.ref p),some (.int w),some (.ref q),some (.int pl),some (.int sp),some (.int wy),some (.int far),x7] S=.ok (.int m) S1:=by
  rw[ev,hls,Rk0];simp only[ev,gZ0,gS0,Rk0,hi]
 have hone:ev F G (.lst (.cons (.idx (.lst spE) (.var 5)) .nil)) [some (.ref p),some (.int w),some (.ref q),some (.int pl),some (.int sp),some (.int wy),some (.int far),x7] S=.ok (.ref S1.length) (S1++[.lst [.int m]]):=by
  rw[ev,evs,hx,Rk0,evs,Rk0,Rk0];exact if_pos (by show 1<=big;decide)
 have k2:=k1.app (X:=[.lst [.int m]]);have a1:=Xe9 (S:=S1++[.lst [.int m]]) k2.row (Xe (S:=S1) (xs:=[.int m])) (by simp;omega)
 have k3:=k2.app (X:=[.lst (l.map D.int++[.int m])]);have l3:Xc (S1++[O.lst [.int m]]++[.lst (l.map D.int++[.int m])]) (S1++[O.lst [.int m]]).length=some (l.map D.int++[.int m]):=Xe;have hadd:ev F G (.bin .add (.var 2) (.lst (.cons (.idx (.lst spE) (.var 5)) .nil))) [some (.ref p),some (.int w),some (.ref q),some (.int pl),some (.int sp),some (.int wy),some (.int far),x7] S=.ok (.ref (S1++[O.lst [.int m]]).length) (S1++[.lst [.int m]]++[.lst (l.map D.int++[.int m])]):=by
  rw[ev];simp only[ev,gZ0,gS0,Rk0];have hone':=hone;rw[ev] at hone';rw[hone',Rk0];exact a1
 generalize (S1++[O.lst [.int m]]).length=q3 at l3 hadd;generalize S1++[O.lst [.int m]]++[.lst (l.map D.int++[.int m])]=S3 at k3 l3 hadd;have hn:(w:Int)/2-pl=((w/2-pl:Nat):Int):=by omega
 have hl1:lstM (S3++[O.lst [.int 0]]) S3.length=some [.int 0]:=Xe;have hz:ev F G (.bin .mul (.lst (.cons (.cst (.int 0)) .nil)) (.bin .sub (.bin .fdiv (.var 1) (.cst (.int 2))) (.var 3))) [some (.ref p),some (.int w),some (.ref q),some (.int pl),some (.int sp),some (.int wy),some (.int far),x7] S3=.ok (.ref (S3++[O.lst [.int 0]]).length) (S3++[.lst [.int 0]]++[.lst ((Vd (w/2-pl) (0:Int)).map D.int)]):=by
  simp only[ev,evs,gZ0,gS0,Rk0];rw[if_pos (show([D.int 0]:List D).length<=big by decide),Rk0]
  simp only[Xaq d2',Rk0,Xr,hn];simp only[Xs,hl1];have hb':([D.int 0]:List D).length*(((w/2-pl:Nat):Int)).toNat<=big:=X9 (by simp;omega)
  rw[if_pos ⟨by omega,hb',by omega⟩,Vay,Xw4]
 have k5:=(k3.app (X:=[.lst [.int 0]])).app (X:=[.lst ((Vd (w/2-pl) (0:Int)).map D.int)]);have a5:=Xe9 (S:=S3++[.lst [.int 0]]++[.lst ((Vd (w/2-pl) (0:Int)).map D.int)]) (Xm (Xm l3)) (Xe (S:=S3++[O.lst [.int 0]]) (xs:=(Vd (w/2-pl) (0:Int)).map D.int)) (by simp;omega)
 have hls':l.map D.int++[.int m]++(Vd (w/2-pl) (0:Int)).map D.int=(l++[m]++Vd (w/2-pl) 0).map D.int:=by simp
 rw[hls'] at a5;have k6:=k5.app (X:=[.lst ((l++[m]++Vd (w/2-pl) 0).map D.int)]);refine⟨_,_,?_,_,l++[m]++Vd (w/2-pl) 0,rfl,Xe,by simp;omega,fun x hx'=>?_,k6.ex,k6.pot⟩
 ·unfold E3
  rw[ev,hadd,Rk0];have hz':=hz;rw[hz',Rk0];exact a5
 ·rcases Uz.mp hx' with h|h
  ·rcases Uz.mp h with h|h
   ·exact Xqv (hb x h)
   ·rw[Us.mp h];exact m2
  ·rw[(List.mem_replicate.mp h).2];exact Uo _
noncomputable def nmB:Sts:=.cons (.asg (.var 6) E1) (.cons (.asg (.var 7) E2) (.cons (.ite (.cmp .eq (.var 3) (.var 4)) (.cons (.ret E3) .nil) .nil) (.cons (.expr (.mth .append (.var 2) (.cons (.var 7) .nil))) .nil)))
theorem X5i(hT:Xcb F 22)(hN:Xd2 F 27 2)(hpq:q≠p)(hq:S0.length<=q)(k:Kq p q S0 l S)(h1:1<=pl)(h2:pl<=w/2)(hw:w<=11)(hl:l.length=pl)(hb:∀ x∈l,0<=x/\x<=1000000000000)(hw5:wy<5) :
  (∃ r S',exes F G nmB [some (.ref p),some (.int w),some (.ref q),some (.int pl),some (.int sp),some (.int wy),x6,x7] S=.ok (.rt r) S'/\Rn p w S0 r S') \/
  (∃ y x6' x7' S',exes F G nmB [some (.ref p),some (.int w),some (.ref q),some (.int pl),some (.int sp),some (.int wy),x6,x7] S=.ok (.nx [some (.ref p),some (.int w),some (.ref q),some (.int pl),some (.int sp),some (.int wy),x6',x7']) S'/\Kq p q S0 (l++[y]) S'/\0<=y/\y<=1000000000000):=by
 obtain⟨far,S1,g1,k1,r1⟩:=X7e (F:=F) (w:=w) (sp:=sp) (wy:=wy) (x6:=x6) (x7:=x7) hT hN hpq k h1 (by omega) hl hb
 obtain⟨num,S2,g2,k2,r2⟩:=X7f (F:=F) (w:=w) (pl:=pl) (sp:=sp) (wy:=wy) (x7:=x7) hT hpq k1 g1;have hc:ev F G (.cmp .eq (.var 3) (.var 4)) [some (.ref p),some (.int w),some (.ref q),some (.int pl),some (.int sp),some (.int wy),some (.int far),some (.int num)] S2=.ok (.bl ((pl:Int)==sp)) S2:=by
  simp only[ev,gZ0,gS0,Rk0,Xbo]
 cases b:((pl:Int)==sp) with
 | true =>
  rw[b] at hc;left;obtain⟨r,S3,e3,q3⟩:=X7h (F:=F) (sp:=sp) (x7:=some (.int num)) hpq hq k2 g1 hw5 h2 hw hl hb;refine⟨r,S3,?_,q3⟩;unfold nmB;refine(Xb r1).trans ((Xb r2).trans (Xf ((Xhd hc).trans (Xf ?_))));rw[exe];exact congrArg (fun r=>R.bind r _) e3
 | false =>
  rw[b] at hc;right;have hr:Xac .append (.ref q) S2=true:=by simp only[Xac,k2.row,Vbh]
  have ha:=Xe8 (x:=.int num) k2.row (by simp;omega)
  have k3:=k2.setq (l':=l++[num]) hpq hq;have em:(l++[num]).map D.int=l.map D.int++[.int num]:=by simp
  rw[em] at k3;refine⟨num,some (.int far),some (.int num),_,?_,k3,g2.1,g2.2⟩;unfold nmB;refine(Xb r1).trans ((Xb r2).trans ((Xb (X8 hc)).trans ((Xb (e:=[some (.ref p),some (.int w),some (.ref q),some (.int pl),some (.int sp),some (.int wy),some (.int far),some (.int num)]) (S1:=S2.set q (.lst (l.map D.int++[.int num]))) ?_).trans (by simp only[exes]))))
  simp only[exe,ev,evs,gZ0,gS0,Rk0,hr,if_true,ha]
end
noncomputable def zE:Exs:=.cons (.cst (.int 0)) (.cons (.cst (.int 2)) (.cons (.neg one) (.cons (p10 12) (.cons (.cst (.int 3)) .nil))))
noncomputable def N1:St:=.par [4,5] (.cons (tk (.cst (.int 8))) (.cons (tk (.cst (.int 5))) .nil))
noncomputable def N2:St:=.asg (.var 2) (.lst (.cons one .nil))
noncomputable def N3:St:=.for (.var 3) (.rng (.cons one (.cons (.bin .add (.bin .fdiv (.var 1) (.cst (.int 2))) one) .nil))) nmB
noncomputable def N4:St:=.ite (.cmp .eq (.var 4) (.cst (.int 0))) (.cons (.aset (.var 2) (.cst (.int 0)) (.idx (.lst zE) (.var 5))) .nil) .nil
noncomputable def N5:St:=.ret (.var 2)
theorem Xqw:Xbw=.cons N1 (.cons N2 (.cons N3 (.cons N4 (.cons N5 .nil)))):=rfl
theorem d8:Yd 8=true:=by decide+kernel
theorem d5:Yd 5=true:=by decide+kernel
theorem X7i{wy:Nat}(hw:wy<5):∃ m:Int,([D.int 0,.int 2,.int (-1),.int e12,.int 3]:List D)[wy]'(by simpa using hw)=.int m/\m.natAbs<=mx:=by
 have m1:=Xgy
 match wy,hw with
 | 0,_=>exact⟨_,rfl,by omega⟩
 | 1,_=>exact⟨_,rfl,by omega⟩
 | 2,_=>exact⟨_,rfl,by omega⟩
 | 3,_=>exact⟨_,rfl,by rw[Xes];omega⟩
 | 4,_=>exact⟨_,rfl,by omega⟩
section
variable{F:Fn}
theorem X1b{p q w sp wy:Nat}{S0 S:Sto}{l:List Int}{x3 x6 x7:Option D}(hpq:q≠p)(hq:S0.length<=q)(k:Kq p q S0 l S)(hl:l.length=w/2+1)(hb:∀ x∈l,0<=x/\x<=1000000000000)(hw:wy<5) :
  ∃ r S',exes F G (.cons N4 (.cons N5 .nil)) [some (.ref p),some (.int w),some (.ref q),x3,some (.int sp),some (.int wy),x6,x7] S=.ok (.rt r) S'/\Rn p w S0 r S':=by
 have hc:ev F G (.cmp .eq (.var 4) (.cst (.int 0))) [some (.ref p),some (.int w),some (.ref q),x3,some (.int sp),some (.int wy),x6,x7] S=.ok (.bl ((sp:Int)==0)) S:=by
  simp only[ev,gZ0,gS0,Rk0,Xbo]
 have fin:∀ S2:Sto,exe F G N5 [some (.ref p),some (.int w),some (.ref q),x3,some (.int sp),some (.int wy),x6,x7] S2=.ok (.rt (.ref q)) S2:=fun S2=>by
  unfold N5;simp only[exe,ev,gZ0,gS0,Rk0]
 cases b:((sp:Int)==0) with
 | false =>
  rw[b] at hc;refine⟨.ref q,S,?_,q,l,rfl,k.row,hl,fun x hx=>Xqv (hb x hx),k.ex,k.pot⟩
  unfold N4;exact(Xb (X8 hc)).trans (Xf (fin S))
 | true =>
  rw[b] at hc;obtain⟨m,m1,m2⟩:=X7i hw;have he:evs F G zE [some (.ref p),some (.int w),some (.ref q),x3,some (.int sp),some (.int wy),x6,x7] S=.ok [.int 0,.int 2,.int (-1),.int e12,.int 3] S:=by
   simp only[zE,p10,evs,ev,one,Rk0,Xp9]
  have hls:ev F G (.lst zE) [some (.ref p),some (.int w),some (.ref q),x3,some (.int sp),some (.int wy),x6,x7] S=.ok (.ref S.length) (S++[.lst [.int 0,.int 2,.int (-1),.int e12,.int 3]]):=by
   rw[ev,he,Rk0];exact if_pos (by show 5<=big;decide)
  have hi:=Xos (S:=S++[.lst [.int 0,.int 2,.int (-1),.int e12,.int 3]]) (q:=S.length) (k:=wy) Xe (by simpa using hw)
  rw[m1] at hi;have k1:=k.app (X:=[.lst [.int 0,.int 2,.int (-1),.int e12,.int 3]]);obtain⟨x,r,rfl⟩:∃ x r,l=x::r:=by
   cases l with
   | nil=>simp at hl
   | cons x r=>exact⟨x,r,rfl⟩
  have ha:=X43 (v:=m) k1.row;have k2:=k1.setq (l':=m::r) hpq hq;generalize S++[O.lst [.int 0,.int 2,.int (-1),.int e12,.int 3]]=S1 at hls hi ha k2;have hix:ev F G (.idx (.lst zE) (.var 5)) [some (.ref p),some (.int w),some (.ref q),x3,some (.int sp),some (.int wy),x6,x7] S=.ok (.int m) S1:=by
   rw[ev,hls,Rk0];simp only[ev,gZ0,gS0,Rk0,hi]
  have hs:exe F G (.aset (.var 2) (.cst (.int 0)) (.idx (.lst zE) (.var 5))) [some (.ref p),some (.int w),some (.ref q),x3,some (.int sp),some (.int wy),x6,x7] S=.ok (.nx [some (.ref p),some (.int w),some (.ref q),x3,some (.int sp),some (.int wy),x6,x7]) (S1.set q (.lst ((m::r).map D.int))):=by
   rw[exe,hix,Rk0];simp only[ev,gZ0,gS0,Rk0,ha]
  refine⟨.ref q,_,?_,q,m::r,rfl,k2.row,by simpa using hl,fun y hy=>?_,k2.ex,k2.pot⟩
  ·unfold N4
   exact(Xb ((Xhd hc).trans ((Xb hs).trans (by simp only[exes])))).trans (Xf (fin _))
  ·rcases Vl.mp hy with rfl|hy
   ·exact m2
   ·exact Xqv (hb y (Uw _ hy))
theorem Xnq{p w:Nat}{v:Int}{S:Sto}(hT:Xcb F 22)(hN:Xd2 F 27 2)(hw:w<=11)(hp:Xc S p=some [.int v]):∃ r S',den F G Xa5 [.ref p,.int w] S=.ok r S'/\Rn p w S r S':=by
 have t2:=hT p v 8 S hp (by decide) d8
 have a0:=Va1 v (show(8:Int)≠0 by decide)
 obtain⟨sp,hsp⟩:∃ n:Nat,v%8=(n:Int):=⟨(v%8).toNat,by omega⟩
 rw[hsp] at t2;have p2:Xc (S.set p (.lst [.int (v/8)])) p=some [.int (v/8)]:=Yx (Yv hp);have x2:Ext p S (S.set p (.lst [.int (v/8)])):=.set;generalize S.set p (.lst [.int (v/8)])=S2 at t2 p2 x2;generalize v/8=v2 at p2;have t3:=hT p v2 5 S2 p2 (by decide) d5
 have b0:=Va1 v2 (show(5:Int)≠0 by decide)
 have b1:=Vbi v2 (show(0:Int)<5 by decide)
 obtain⟨wy,hwy⟩:∃ n:Nat,v2%5=(n:Int):=⟨(v2%5).toNat,by omega⟩
 rw[hwy] at t3;have hw5:wy<5:=by omega
 have p3:Xc (S2.set p (.lst [.int (v2/5)])) p=some [.int (v2/5)]:=Yx (Yv p2);have x3:Ext p S (S2.set p (.lst [.int (v2/5)])):=x2.trans .set;generalize S2.set p (.lst [.int (v2/5)])=S3 at t3 p3 x3;generalize v2/5=v3 at p3;have s1:exe F G N1 [some (.ref p),some (.int w),none,none,none,none,none,none] S=.ok (.nx [some (.ref p),some (.int w),none,none,some (.int sp),some (.int wy),none,none]) S3:=by
  unfold N1;rw[exe];simp only[tk,evs,ev,gZ0,Rk0,t2,t3];rfl
 have s2:exe F G N2 [some (.ref p),some (.int w),none,none,some (.int sp),some (.int wy),none,none] S3=.ok (.nx [some (.ref p),some (.int w),some (.ref S3.length),none,some (.int sp),some (.int wy),none,none]) (S3++[.lst [.int 1]]):=Xu (by
  simp only[one,ev,evs,Rk0];exact if_pos (by show 1<=big;decide))
 have hpq:S3.length≠p:=by have:=Yv p3;omega
 have k3:Kq p S3.length S3 [1] (S3++[.lst [.int 1]]):=⟨.app,⟨v3,Xm p3⟩,Xe⟩;generalize hq:S3.length=q at s2 hpq k3;have hq':S3.length<=q:=Nat.le_of_eq hq;generalize S3++[O.lst [.int 1]]=S4 at s2 k3;have hL:(w:Int)/2+1=((w/2+1:Nat):Int):=by omega
 have hit:evit F G (.rng (.cons one (.cons (.bin .add (.bin .fdiv (.var 1) (.cst (.int 2))) one) .nil))) [some (.ref p),some (.int w),some (.ref q),none,some (.int sp),some (.int wy),none,none] S4=.ok (.con ((Vc (w/2+1-1)).map fun(k:Nat)=>D.int (1+k))) S4 :=
  Xbn (ds:=[.int 1,.int ((w/2+1:Nat):Int)]) (by simp only[one,evs,ev,gZ0,gS0,Rk0,Xaq d2',Xo,hL]) (Xer (by omega))
 have lp:=Xjy (get:=(Src.con ((Vc (w/2+1-1)).map fun(k:Nat)=>D.int (1+k))).get) (t:=.var 3) (body:=fun env S=>exes F G nmB env S) (xs:=(Vc (w/2+1-1)).map fun(k:Nat)=>D.int (1+k))
  (fun i e S'=>∃ l x3 x6 x7,e=[some (.ref p),some (.int w),some (.ref q),x3,some (.int sp),some (.int wy),x6,x7]/\Kq p q S3 l S'/\l.length=i+1/\∀ x∈l,0<=x/\x<=1000000000000) (Rn p w S3) (fun i S=>rfl)
  (fun i d e S' hd hP=>by
   obtain⟨l,y3,y6,y7,rfl,kk,hl,hb⟩:=hP;have hi:i<w/2+1-1:=by have:=(Ve.mp hd).1;simpa using this
   have hd2:d=.int ((i+1:Nat):Int):=by
    simp only[V1,Uu hi,Vs,Vi] at hd;have e:(1+(i:Int))=((i+1:Nat):Int):=by omega
    rw[<- hd,e]
   subst hd2;refine⟨[some (.ref p),some (.int w),some (.ref q),some (.int ((i+1:Nat):Int)),some (.int sp),some (.int wy),y6,y7],rfl,?_⟩;rcases X5i (F:=F) (sp:=sp) (x6:=y6) (x7:=y7) (pl:=i+1) hT hN hpq hq' kk (by omega) (by omega) hw hl hb hw5 with⟨r,S2,r1,r2⟩|⟨y,z6,z7,S2,r1,r2,r3,r4⟩
   ·exact .inl ⟨r,S2,r1,r2⟩
   ·refine .inr ⟨_,S2,r1,l++[y],_,z6,z7,rfl,r2,by simp[hl],fun x hx=>?_⟩
    rcases Uz.mp hx with hx|hx
    ·exact hb x hx
    ·rw[Us.mp hx];exact⟨r3,r4⟩)
  (w/2+1-1+1) 0 [some (.ref p),some (.int w),some (.ref q),none,some (.int sp),some (.int wy),none,none] S4 (by simp) (Uo _) ⟨[1],none,none,none,rfl,k3,rfl,fun x hx=>by rw[Us.mp hx];omega⟩
 have hfor:exe F G N3 [some (.ref p),some (.int w),some (.ref q),none,some (.int sp),some (.int wy),none,none] S4=Xv (Src.con ((Vc (w/2+1-1)).map fun(k:Nat)=>D.int (1+k))).get (.var 3) (fun env S=>exes F G nmB env S) (w/2+1-1+1) 0 [some (.ref p),some (.int w),some (.ref q),none,some (.int sp),some (.int wy),none,none] S4:=by
  unfold N3;simp only[exe,hit,Rk0,Src.most,Vr,U3]
 have up:∀ r S',Rn p w S3 r S'->Rn p w S r S':=fun r S' ⟨q,l,w1,w2,w3,w4,w5,w6⟩=>⟨q,l,w1,w2,w3,w4,x3.trans w5,w6⟩
 have go:∃ r S',exes F G Xbw [some (.ref p),some (.int w),none,none,none,none,none,none] S=.ok (.rt r) S'/\Rn p w S r S':=by
  rw[Xqw,Xb s1,Xb s2];rcases lp with⟨r,S',r1,r2⟩|⟨e',S',r1,l,y3,y6,y7,rfl,kk,hl,hb⟩
  ·exact⟨r,S',Xf (hfor.trans r1),up r S' r2⟩
  ·have hll:l.length=w/2+1:=by simpa using hl
   obtain⟨r,S'',f1,f2⟩:=X1b (F:=F) (sp:=sp) (x3:=y3) (x6:=y6) (x7:=y7) hpq hq' kk hll hb hw5;exact⟨r,S'',(Xb (hfor.trans r1)).trans f1,up r S'' f2⟩
 obtain⟨r,S',g1,g2⟩:=go;exact⟨r,S',Yi rfl rfl g1,g2⟩
end
theorem t35:T[35]?=some Xa5:=rfl
theorem Xx3(k:Nat):Xcb (FT T G (k+1)) 22:=Xvp t22 k
theorem X1c(k:Nat){p w:Nat}{v:Int}{S:Sto}(hw:w<=11)(hp:Xc S p=some [.int v]):∃ r S',FT T G (k+4) 35 [.ref p,.int w] S=.ok r S'/\Rn p w S r S':=by
 obtain⟨r,S',h1,h2⟩:=Xnq (F:=FT T G (k+3)) (Xx3 (k+2)) (next k) hw hp
 exact⟨r,S',by rw[ftx t35];exact h1,h2⟩
def Al(d:D):Prop:=∀ S,Thing S d
theorem Xm2{xs:List D}(h:∀ x∈xs,FSm 1 1930 x)(hl:xs.length<=200):Al (.tup xs):=fun S=>by
 refine⟨((Xme h).sm S).mono (by omega) (by omega),(Xme h).good S,fun ys z=>?_⟩
 injection z with z
 subst z;exact⟨fun y hy=>(h y hy).good S,hl⟩
theorem fsi{i:Int}(h:i.natAbs.log2<1920):FSm 1 1930 (.int i):=(Xmd h).mono (by omega) (by omega)
theorem Xhe{l:List Int}(h:Xh9 l)(hl:l.length<=200):Al (Xa l):=Xm2 (fun x hx=>by
 obtain⟨i,hi,rfl⟩:=Vag.mp hx;exact fsi (h i hi)) (by rw[Vr];exact hl)
theorem X5j:Al .non:=fun S=>⟨(Xsq S).mono (by omega) (by omega),fs_non.good S,fun xs z=>nomatch z⟩
theorem small{i:Int}(h:i.natAbs<=99):i.natAbs.log2<1920:=X41 (by have:=Xgy;omega)
theorem Xdq{l:List Int}(h:∀ x∈l,x.natAbs<=99)(hl:l.length<=200):Al (Xa l):=Xhe (fun x hx=>small (h x hx)) hl
theorem Xto{l:List Int}{a b:Nat}{od:D}(h:Xh9 l)(hl:l.length<=12)(ho:FSm 1 1930 od):Al (Xie l a b od):=by
 refine Xm2 (fun x hx=>?_) (by simp;omega)
 simp only[Uz,Vag,Us] at hx;rcases hx with(⟨i,hi,rfl⟩|rfl)|⟨i,hi,rfl⟩
 ·exact fsi (h i (Vep hi))
 ·exact ho
 ·exact fsi (h i (List.mem_of_mem_drop hi))
theorem Xtp{w:Str}{p:Nat}(hw:(reprText w).length<=1921)(hp:p<13)(S:Sto):Sm S 20 400000 (.tup [.str w,.int p]):=by
 refine(X4b (S:=S) (a:=0) (b:=1921) (ds:=[.str w,.int p]) fun d hd=>?_).mono (by omega) (by show 2*1923+3<=_;omega)
 simp only[Vl,V4,or_false] at hd;rcases hd with rfl|rfl
 ·exact Xsr S w hw
 ·exact X4a S p (small (by omega))
theorem X5k(d:D)(S:Sto):Sm S 20 400000 (due d):=by
 cases hi:isr d with
 | false=>rw[Xmz hi];exact(Xsr S "row" (by decide+kernel)).mono (by omega) (by omega)
 | true =>
  obtain⟨l,rfl,h1,hl⟩:=Xib hi;rw[Xjb h1 hl];unfold bar;have hT:(tT (-1) l).length=l.length:=Xdh _ _;cases hf:Xau (tT (-1) l) with
  | some p =>
   have hp:p<(tT (-1) l).length:=by simpa using Vfl hf
   exact Xtp (by decide+kernel) (by omega) S
  | none =>
   dsimp only;have hs:(stp (tT (-1) l)).length=((tT (-1) l).length+1)/2:=Xwk (by omega)
   cases hq:(Vc (stp (tT (-1) l)).length).find? _ with
   | none =>
    have e:X7 gB (stp (tT (-1) l))=.non:=by unfold X7;rw[hq]
    rw[e];exact(Xsq S).mono (by omega) (by omega)
   | some p =>
    have e:X7 gB (stp (tT (-1) l))=.int p:=by unfold X7;rw[hq]
    have hp:p<(stp (tT (-1) l)).length:=by simpa using Vfl hq
    rw[e];exact Xtp (by decide+kernel) (by omega) S
noncomputable def cT:Ex:=.or (.cmp .ne (.blt .repr (.cons (.call 33 (.cons (.var 8) .nil)) .nil)) (.blt .repr (.cons (.call 34 (.cons (.var 8) .nil)) .nil))) (.cmp .ne (.blt .repr (.cons (.var 8) .nil)) (.var 9))
noncomputable def Xqx:Sts:=.cons (.ite cT (.cons (.ret (.cst (.bl false))) .nil) .nil) .nil
noncomputable def Xku:Sts:=.cons (.asg (.var 9) (.blt .repr (.cons (.var 8) .nil))) (.cons (.for (.var 10) (.rng (.cons (.cst (.int 2)) .nil)) Xqx) .nil)
theorem Xhf{S:Sto}{d:D}{t:Str}(h:Xfs S d=some t):Xk .repr [d] S=.ok (.str t) S:=by simp only[Xk,h]
theorem X5l{env:En}{d:D}{tx:Str}{S Y:Sto}(t:Thing S d)(h8:env[8]?=some (some d))(h9:env[9]?=some (some (.str tx)))(htx:∀ Y,Xfs (S++Y) d=some tx) :
  ∃ Z,exes (FT T G 12) G Xqx env (S++Y)=.ok (.nx env) (S++Z):=by
 obtain⟨Z1,u1⟩:=X8h 0 (t.app (X:=Y));obtain⟨Z2,u2⟩:=X8j 6 ((t.app (X:=Y)).app (X:=Z1));obtain⟨ty,hty⟩:=(X5k d (S++Y++Z1)).rep;have r1:=Xhf (hty []);rw[Vp] at r1;have r2:=Xhf (hty Z2);have r3:Xk .repr [d] (S++Y++Z1++Z2)=.ok (.str tx) (S++Y++Z1++Z2):=by
  have:=Xhf (htx (Y++Z1++Z2));simp only[Vo] at this ⊢;exact this
 have u1':FT T G 12 33 [d] (S++Y)=.ok (due d) (S++Y++Z1):=u1;have u2':FT T G 12 34 [d] (S++Y++Z1)=.ok (due d) (S++Y++Z1++Z2):=u2;have hc:ev (FT T G 12) G cT env (S++Y)=.ok (.bl false) (S++Y++Z1++Z2):=by
  simp only[cT,ev,evs,h8,h9,Rk0,u1',r1,u2',r2,X0j,Xg,r3]
 refine⟨Y++Z1++Z2,?_⟩;have e:S++(Y++Z1++Z2)=S++Y++Z1++Z2:=by simp
 rw[e];unfold Xqx;exact(Xb (X8 hc)).trans (by simp only[exes])
theorem Xw5{a0 a1 a2 a3 a4 a5 a6 a7 a9 a10:Option D}{d:D}{S:Sto}(t:Thing S d) :
  ∃ b9 b10 X,exes (FT T G 12) G Xku [a0,a1,a2,a3,a4,a5,a6,a7,some d,a9,a10] S=.ok (.nx [a0,a1,a2,a3,a4,a5,a6,a7,some d,b9,b10]) (S++X):=by
 obtain⟨tx,htx⟩:=t.sm.rep;have r0:=Xhf (htx []);rw[Vp] at r0;have s1:exe (FT T G 12) G (.asg (.var 9) (.blt .repr (.cons (.var 8) .nil))) [a0,a1,a2,a3,a4,a5,a6,a7,some d,a9,a10] S=.ok (.nx [a0,a1,a2,a3,a4,a5,a6,a7,some d,some (.str tx),a10]) S:=Xu (by
  simp only[ev,evs,gZ0,gS0,Rk0,r0])
 obtain⟨xs,hx,hxl⟩:=Ye (m:=2) (by omega) (by omega)
 obtain⟨e',S',f2,⟨x,rfl⟩,X,rfl⟩:=Xbg (F:=FT T G 12) (G:=G) (t:=.var 10) (b:=Xqx) (xs:=xs) (es:=.cons (.cst (.int 2)) .nil) (env:=[a0,a1,a2,a3,a4,a5,a6,a7,some d,some (.str tx),a10]) (S:=S) (S1:=S) (ds:=[.int 2])
  (fun i e S'=>(∃ x,e=[a0,a1,a2,a3,a4,a5,a6,a7,some d,some (.str tx),x])/\∃ X,S'=S++X) (by simp only[evs,ev,Rk0]) hx ⟨⟨a10,rfl⟩,[],by simp⟩ (fun i dd e S' hd hP=>by
   obtain⟨⟨x,rfl⟩,X,rfl⟩:=hP;obtain⟨Z,q⟩:=X5l (env:=[a0,a1,a2,a3,a4,a5,a6,a7,some d,some (.str tx),some dd]) (Y:=X) t rfl rfl htx;exact⟨_,_,_,rfl,q,⟨_,rfl⟩,Z,rfl⟩)
 refine⟨some (.str tx),x,X,?_⟩;unfold Xku;exact(Xb s1).trans ((Xb f2).trans (by simp only[exes]))
section
variable{F:Fn}
noncomputable def tkp(e:Ex):Ex:=.call 22 (.cons (.var 2) (.cons e .nil))
noncomputable def Xw6:Exs:=.cons (.cst (.bl true)) (.cons (.cst .non) (.cons (.cst (.str "1")) (.cons (.tup (.cons one .nil)) (.cons (.cst (.int 0)) (.cons (p10 30) (.cons (.neg one) (.cons (.cst (.bl false)) .nil)))))))
noncomputable def hdE:Ex:=.sli (.var 4) .none (.some (.var 5))
noncomputable def tlE:Ex:=.sli (.var 4) (.some (.bin .add (.var 5) one)) .none
noncomputable def Xw7(e:Ex):Ex:=.bin .add (.bin .add hdE (.tup (.cons e .nil))) tlE
noncomputable def Xm3:Exs:=.cons (.var 4) (.cons (Xw7 (.bin .add (.idx (.var 4) (.var 5)) one)) (.cons (Xw7 (.var 6)) .nil))
noncomputable def drE:Ex:=.bin .sub (tkp (.cst (.int 7))) (.cst (.int 2))
noncomputable def drC:Exs:=.cons (.bin .add one (tkp (.cst (.int 12)))) .nil
noncomputable def drT:Ex:=.blt .tuple (.cons (.cmr false 2 (.cons (.var 12) (.rng drC) .nil .nil) drE) .nil)
noncomputable def Xfb:Exs:=.cons (.blt .list (.cons (.var 4) .nil)) (.cons (.tup .nil) (.cons (.cst .non) (.cons (.bin .mul (.var 4) (.cst (.int 13))) (.cons (.tup (.cons one .nil)) (.cons (.tup (.cons (.cst (.int 0)) .nil)) (.cons (.tup (.cons one (.cons (.cst (.int 2)) .nil))) (.cons (.tup (.cons one (.cons (.cst (.int 3)) (.cons (.cst (.int 3)) .nil)))) (.cons (.tup (.cons one (.cons (.cst (.int 4)) (.cons (.cst (.int 6)) (.cons (.cst (.int 4)) .nil))))) .nil))))))))
noncomputable def app(e:Ex):St:=.expr (.mth .append (.var 7) (.cons e .nil))
noncomputable def L1:St:=.asg (.var 2) (.call 21 (.cons (.call 20 (.cons (.var 0) (.cons (.var 1) .nil))) .nil))
noncomputable def L2:St:=.asg (.var 3) (tkp (.cst (.int 12)))
noncomputable def L3:St:=.asg (.var 4) (.call 31 (.cons (.var 3) (.cons (.call 35 (.cons (.var 2) (.cons (.var 3) .nil))) .nil)))
noncomputable def L4:St:=.asg (.var 5) (tkp (.blt .len (.cons (.var 4) .nil)))
noncomputable def L5:St:=.asg (.var 6) (.idx (.lst Xw6) (tkp (.cst (.int 8))))
noncomputable def L6:St:=.asg (.var 7) (.lst Xm3)
noncomputable def L7:St:=app (.bin .add hdE tlE)
noncomputable def L8:St:=app drT
noncomputable def L9:St:=.for (.var 8) (.val (.bin .add (.var 7) (.lst Xfb))) Xku
noncomputable def Xkv:Sts:=.cons L1 (.cons L2 (.cons L3 (.cons L4 (.cons L5 (.cons L6 (.cons L7 (.cons L8 (.cons L9 .nil))))))))
theorem Xw8:Xxz=.cons (.for (.var 1) (.rng (.cons (.blt .max (.cons (.cst (.int 1)) (.cons (.blt .min (.cons (.blt .len (.cons (.var 0) .nil)) (.cons (.cst (.int 6)) .nil))) .nil))) .nil)) Xkv) (.cons (.ret (.cst (.bl true))) .nil):=rfl
theorem Xtq{B:Nat}:∀ l:List Int,Bd B l->l.sum.natAbs<=l.length*B
 | [],_=>by simp
 | x::r,h=>by
  have h1:=h x (by simp)
  have h2:=Xtq r fun y hy=>h y (by simp[hy])
  rw[Vd7,Ug,Ved];have:=Vfg x r.sum;omega
theorem X1d{l:List Int}{w:Nat}(h:Bd mx l)(hl:l.length<=6):Bd (6*mx) (Yn l w):=fun x hx=>by
 obtain⟨i,_,rfl⟩:=Vag.mp hx;have h1:=Xtq (l.take (min i (w-i)+1)) fun y hy=>h y (Vep hy)
 exact Vy h1 (Nat.mul_le_mul_right _ (by rw[Vba];omega))
theorem Xm4{l:List Int}{w:Nat}(h:Bd mx l)(hl:l.length<=6)(hw:w<=11){a:Int}(ha:a.natAbs<=1):∀ x∈tT 1 (Yn l w),(x+a).natAbs.log2<1920:=fun x hx=>by
 have h1:=X6x (s:=1) rfl (X1d (w:=w) h hl) x hx;rw[Xd5] at h1;have h2:2^(w+1)<=2^12:=Vc7 (by decide) (by omega)
 have h3:=Vew (6*mx) h2;have h4:6*mx*2^12+1<2^1000:=by decide+kernel
 have h5:=Vfg x a;exact X0i (B:=6*mx*2^12+1) (l:=[x+a]) (fun y hy=>by rw[Us.mp hy];omega) h4 (x+a) (by simp)
theorem Xtr{l:List Int}{w:Nat}(h:Bd mx l)(hl:l.length<=6)(hw:w<=11):Xh9 (tT 1 (Yn l w)):=fun x hx=>by
 have:=Xm4 h hl hw (a:=0) (by decide) x hx
 rw[Int.add_zero] at this;exact this
noncomputable def Xje:List D:=[.bl true,.non,.str "1",.tup [.int 1],.int 0,.int e30,.int (-1),.bl false]
theorem X1e(env:En)(S:Sto):evs F G Xw6 env S=.ok Xje S:=by
 have h1:([D.int 1]:List D).length<=big:=by decide
 unfold Xw6 Xje;simp only[p10,evs,Xov,Rk0];simp only[one,ev,evs,Rk0,h1,if_true,X4m]
theorem X5m:∀ d∈Xje,FSm 1 1930 d:=by
 intro d hd;have i1:FSm 0 1921 (.int 1):=Xmd (by decide)
 unfold Xje at hd;simp only[Vl,V4,or_false] at hd;rcases hd with rfl|rfl|rfl|rfl|rfl|rfl|rfl|rfl
 ·exact fs_bl.mono (by omega) (by omega)
 ·exact fs_non.mono (by omega) (by omega)
 ·exact(X4e (by decide+kernel)).mono (by omega) (by omega)
 ·exact(X4f i1).mono (by omega) (by omega)
 ·exact fsi (by decide)
 ·exact fsi (by decide+kernel)
 ·exact fsi (by decide)
 ·exact fs_bl.mono (by omega) (by omega)
noncomputable def Xb2(l:List Int)(a:Nat)(od:D):List D:=[Xa l,Xie l a (a+1) (.int (l.getD a 0+1)),Xie l a (a+1) od]
section
variable{env:En}{l:List Int}{a:Nat}{od:D}{S:Sto}
theorem nxt(h5:env[5]?=some (some (.int a))):ev F G (.bin .add (.var 5) one) env S=.ok (.int ((a+1:Nat):Int)) S:=by
 have ea:(a:Int)+1=((a+1:Nat):Int):=by omega
 simp only[one,ev,h5,Rk0,Xo,ea]
theorem Xts{e:Ex}(h4:env[4]?=some (some (Xa l)))(h5:env[5]?=some (some (.int a)))(he:ev F G e env S=.ok od S)(hl:l.length<=12):ev F G (Xw7 e) env S=.ok (Xie l a (a+1) od) S:=Xsv h4 h5 he (nxt h5) (by omega)
theorem Xtt(h4:env[4]?=some (some (Xa l)))(h5:env[5]?=some (some (.int a)))(h6:env[6]?=some (some od))(hl:l.length<=12)(ha:a<l.length):evs F G Xm3 env S=.ok (Xb2 l a od) S:=by
 have e1:ev F G (.var 4) env S=.ok (Xa l) S:=by simp only[ev,h4]
 have hi:=Xh6 l a S ha;have e2:=Xts (F:=F) (S:=S) (e:=.bin .add (.idx (.var 4) (.var 5)) one) (od:=.int (l.getD a 0+1)) h4 h5 (by
  simp only[one,ev,h4,h5,Rk0,Xa,hi,Xo]) hl
 have e3:=Xts (F:=F) (S:=S) (e:=.var 6) (od:=od) h4 h5 (by simp only[ev,h6]) hl
 unfold Xm3 Xb2;rw[evs,e1,Rk0,evs,e2,Rk0,evs,e3,Rk0,evs,Rk0,Rk0,Rk0]
theorem X7j{eb:Ex}{b:Nat}(h4:env[4]?=some (some (Xa l)))(hb:ev F G eb env S=.ok (.int b) S):ev F G (.sli (.var 4) (.some eb) .none) env S=.ok (Xa (l.drop b)) S:=by
 simp only[ev,evo,h4,hb,Rk0,Xa6];exact Xeo l b S
theorem X5n(h4:env[4]?=some (some (Xa l)))(h5:env[5]?=some (some (.int a)))(hl:l.length<=12):ev F G (.bin .add hdE tlE) env S=.ok (Xa (l.take a++l.drop (a+1))) S:=by
 have h1:ev F G hdE env S=.ok (Xa (l.take a)) S:=by
  simp only[hdE,ev,evo,h4,h5,Rk0,Xa6,Xcp]
 have hb:=nxt (F:=F) (S:=S) h5;have h3:ev F G tlE env S=.ok (Xa (l.drop (a+1))) S:=X7j h4 hb;have h6:=Xf6 ((l.take a).map D.int) ((l.drop (a+1)).map D.int) S (by simp;omega)
 rw[<- Va2] at h6;rw[ev,h1,Rk0,h3,Rk0];exact h6
theorem Xtu{e:Ex}{y:D}{q:Nat}{xs:List D}{S':Sto}(h7:env[7]?=some (some (.ref q)))(hq:Xc S q=some xs)(hq':Xc S' q=some xs)(hl:xs.length<1000)(he:ev F G e env S=.ok y S'):exe F G (app e) env S=.ok (.nx env) (S'.set q (.lst (xs++[y]))):=by
 have hr:Xac .append (.ref q) S=true:=by simp only[Xac,hq,Vbh]
 have ha:=Xe8 (x:=y) hq' hl;simp only[app,exe,ev,evs,h7,Rk0,hr,if_true,he,ha]
end
theorem d7:Yd 7=true:=by decide+kernel
theorem d12:Yd 12=true:=by decide+kernel
theorem Xdr{es:Exs}{ds:List D}{env:En}{S:Sto}(h:evs F G es env S=.ok ds S)(hl:ds.length<=100):ev F G (.tup es) env S=.ok (.tup ds) S:=by
 rw[ev,h,Rk0];exact if_pos (X9 (by omega))
theorem X7k{p:Nat}{env:En}{v:Int}{S:Sto}(hT:Xcb F 22)(he:env.length=11)(h2:env[2]?=some (some (.ref p)))(hp:Xc S p=some [.int v]) :
  ∃ (l:List Int) (S':Sto),ev F G drT env S=.ok (Xa l) S'/\(∀ x∈l,x.natAbs<=99)/\l.length<=12/\Ext p S S':=by
 have t0:=hT p v 12 S hp (by omega) d12
 have n0:=Va1 v (show(12:Int)≠0 by omega)
 have n1:=Vbi v (show(0:Int)<12 by omega)
 obtain⟨n,hn⟩:∃ n:Nat,1+v%12=(n:Int):=⟨(1+v%12).toNat,by omega⟩
 have p1:Xc (S.set p (.lst [.int (v/12)])) p=some [.int (v/12)]:=Yx (Yv hp);have x1:Ext p S (S.set p (.lst [.int (v/12)])):=.set;have hcnt:evs F G drC env S=.ok [.int n] (S.set p (.lst [.int (v/12)])):=by
  simp only[drC,tkp,one,evs,ev,h2,Rk0,t0,Xo,hn]
 generalize S.set p (.lst [.int (v/12)])=S1 at p1 x1 hcnt;generalize v/12=v1 at p1;obtain⟨xs,hx,hxl⟩:=Ye (m:=(n:Int)) (by omega) (by omega)
 have hxl':xs.length=n:=by omega
 have hpl:=Yv p1;obtain⟨e',S',q2,⟨q3,q4⟩⟩:=Xa0 (F:=F) (G:=G) (t:=.var 12) (n:=2) (elt:=drE) (env:=env) (S:=S) (S1:=S1) xs (fun i=>D.int (vsq v1 7 i%7-2))
  (fun i e S'=>S'=S1.set p (.lst [.int (vsq v1 7 i)])/\∃ x,e=env++[none,x])
  (Xbn hcnt hx) rfl (X9 (by omega)) ⟨(Xv4 p1).symm,none,rfl⟩ (fun _ _ _ _=>rfl)
  (fun i d e S' hd' hP=>by
   obtain⟨rfl,x,rfl⟩:=hP;have g2:(env++[none,some d])[2]?=some (some (.ref p)):=Xbv h2;have tt:=hT p (vsq v1 7 i) 7 (S1.set p (.lst [.int (vsq v1 7 i)])) (Yx hpl) (by omega) d7
   rw[List.set_set] at tt;refine⟨env++[none,some d],S1.set p (.lst [.int (vsq v1 7 (i+1))]),Xic he x d,?_,rfl,some d,rfl⟩;simp only[drE,tkp,evs,ev,g2,Rk0,tt,Xr];rfl)
 refine⟨(Vc n).map fun i=>vsq v1 7 i%7-2,S'++[.lst (((Vc n).map fun i=>vsq v1 7 i%7-2).map D.int)],?_,fun x hx=>?_,by simp;omega,?_⟩
 ·rw[hxl'] at q2
  have e1:((Vc n).map fun i=>D.int (vsq v1 7 i%7-2))=((Vc n).map fun i=>vsq v1 7 i%7-2).map D.int:=by simp[Vbs]
  rw[e1] at q2;unfold drT;rw[ev,evs,q2,Rk0,evs,Rk0,Rk0];simp only[Xk,Xq,Xe,Xa]
 ·obtain⟨i,_,rfl⟩:=Vag.mp hx
  have h1:=Va1 (vsq v1 7 i) (show(7:Int)≠0 by omega)
  have h2:=Vbi (vsq v1 7 i) (show(0:Int)<7 by omega)
  omega
 ·have q3':S'=S1.set p (.lst [.int (vsq v1 7 xs.length)]):=q3
  rw[q3'];exact(x1.trans .set).trans .app
noncomputable def Xaj(l:List Int):List D:=[.tup [],.non,Xa (Vd 13 l).flatten,Xa [1],Xa [0],Xa [1,2],Xa [1,3,3],Xa [1,4,6,4]]
theorem Xmf{env:En}{l:List Int}{S:Sto}(h4:env[4]?=some (some (Xa l)))(h1:1<=l.length)(hl:l.length<=12):evs F G Xfb env S=.ok (.ref S.length::Xaj l) (S++[.lst (l.map D.int)]):=by
 have e1:ev F G (.blt .list (.cons (.var 4) .nil)) env S=.ok (.ref S.length) (S++[.lst (l.map D.int)]):=by
  simp only[ev,evs,h4,Rk0,Xa,Xk,Xq]
 have e2:∀ S,ev F G (.tup .nil) env S=.ok (.tup []) S:=fun S=>Xdr (ds:=[]) (by simp only[evs]) (by simp)
 have e3:∀ S,ev F G (.cst .non) env S=.ok .non S:=fun S=>by simp only[ev]
 have e4:∀ S,ev F G (.bin .mul (.var 4) (.cst (.int 13))) env S=.ok (Xa (Vd 13 l).flatten) S:=fun S=>by
  have hr:=Xol (l:=l) (S:=S) h1 hl;simp only[ev,h4,Rk0,hr]
 have e5:∀ S,ev F G (.tup (.cons one .nil)) env S=.ok (Xa [1]) S:=fun S=>Xdr (ds:=[.int 1]) (by simp only[one,evs,ev,Rk0]) (by simp)
 have e6:∀ S,ev F G (.tup (.cons (.cst (.int 0)) .nil)) env S=.ok (Xa [0]) S:=fun S=>Xdr (ds:=[.int 0]) (by simp only[evs,ev,Rk0]) (by simp)
 have e7:∀ S,ev F G (.tup (.cons one (.cons (.cst (.int 2)) .nil))) env S=.ok (Xa [1,2]) S:=fun S=>Xdr (ds:=[.int 1,.int 2]) (by simp only[one,evs,ev,Rk0]) (by simp)
 have e8:∀ S,ev F G (.tup (.cons one (.cons (.cst (.int 3)) (.cons (.cst (.int 3)) .nil)))) env S=.ok (Xa [1,3,3]) S:=fun S=>Xdr (ds:=[.int 1,.int 3,.int 3]) (by simp only[one,evs,ev,Rk0]) (by simp)
 have e9:∀ S,ev F G (.tup (.cons one (.cons (.cst (.int 4)) (.cons (.cst (.int 6)) (.cons (.cst (.int 4)) .nil))))) env S=.ok (Xa [1,4,6,4]) S:=fun S=>Xdr (ds:=[.int 1,.int 4,.int 6,.int 4]) (by simp only[one,evs,ev,Rk0]) (by simp)
 unfold Xfb Xaj;rw[evs,e1,Rk0,evs,e2,Rk0,evs,e3,Rk0,evs,e4,Rk0,evs,e5,Rk0,evs,e6,Rk0,evs,e7,Rk0,evs,e8,Rk0,evs,e9,Rk0,evs];simp only[Rk0]
theorem Xw9{l:List Int}{a:Nat}{od:D}(h:Xh9 l)(h':∀ x∈l,(x+1).natAbs.log2<1920)(hl:l.length<=12)(ha:a<l.length)(ho:FSm 1 1930 od):∀ d∈Xb2 l a od,Al d:=fun d hd=>by
 unfold Xb2 at hd;simp only[Vl,V4,or_false] at hd;rcases hd with rfl|rfl|rfl
 ·exact Xhe h (by omega)
 ·refine Xto h hl (fsi (h' _ ?_))
  rw[Van,Uy ha];exact Vcf ha
 ·exact Xto h hl ho
theorem X1f{l:List Int}(h:Xh9 l)(hl:l.length<=12):∀ d∈Xaj l,Al d:=fun d hd=>by
 unfold Xaj at hd;simp only[Vl,V4,or_false] at hd;rcases hd with rfl|rfl|rfl|rfl|rfl|rfl|rfl|rfl
 ·exact Xm2 (fun x hx=>by cases hx) (by simp)
 ·exact X5j
 ·refine Xhe (fun x hx=>?_) (by rw[List.length_flatten,Ve5,List.sum_replicate_nat];omega)
  obtain⟨u,hu,hx⟩:=List.mem_flatten.mp hx;rw[(List.mem_replicate.mp hu).2] at hx;exact h x hx
 ·exact Xdq (by decide) (by decide)
 ·exact Xdq (by decide) (by decide)
 ·exact Xdq (by decide) (by decide)
 ·exact Xdq (by decide) (by decide)
 ·exact Xdq (by decide) (by decide)
end
theorem Xxa{n:Nat}(h1:1<=n)(h2:n<=12):Yd (n:Int)=true:=by
 have:∀ j:Fin 13,1<=j.val->Yd ((j.val:Nat):Int)=true:=by decide+kernel
 exact this ⟨n,by omega⟩ h1
theorem turn(ns:List Int)(i:Nat)(a2 a3 a4 a5 a6 a7 a8 a9 a10:Option D)(S:Sto) :
  ∃ e S',exes (FT T G 12) G Xkv [some (.fro (ns.map D.int)),some (.int i),a2,a3,a4,a5,a6,a7,a8,a9,a10] S=.ok (.nx e) S'/\∃ b1 b2 b3 b4 b5 b6 b7 b8 b9 b10,e=[some (.fro (ns.map D.int)),b1,b2,b3,b4,b5,b6,b7,b8,b9,b10]:=by
 generalize hsc:some (D.fro (ns.map D.int))=sc;obtain⟨c,hc⟩:=Xvk (F:=FT T G 11) (G:=G) ns i S;obtain⟨v,hv⟩:=Xz4 (F:=FT T G 11) (G:=G) c S;have f8:FT T G 12 20 [.fro (ns.map D.int),.int i] S=.ok (.int c) S:=hc;have f9:FT T G 12 21 [.int c] S=.ok (.ref S.length) (S++[.lst [.int v]]):=hv;have s1:exe (FT T G 12) G L1 [sc,some (.int i),a2,a3,a4,a5,a6,a7,a8,a9,a10] S=.ok (.nx [sc,some (.int i),some (.ref S.length),a3,a4,a5,a6,a7,a8,a9,a10]) (S++[.lst [.int v]]):=Xu (by
  subst hsc;simp only[ev,evs,gZ0,gS0,Rk0,f8,f9])
 have p1:Xc (S++[O.lst [.int v]]) S.length=some [.int v]:=Xe;generalize S++[O.lst [.int v]]=S1 at s1 p1;generalize S.length=p at s1 p1;have hT:Xcb (FT T G 12) 22:=Xx3 11;have t2:=hT p v 12 S1 p1 (by omega) d12
 have n0:=Va1 v (show(12:Int)≠0 by omega)
 have n1:=Vbi v (show(0:Int)<12 by omega)
 obtain⟨w,hw⟩:∃ w:Nat,v%12=(w:Int):=⟨(v%12).toNat,by omega⟩
 rw[hw] at t2 n1;have hw11:w<=11:=by omega
 have s2:exe (FT T G 12) G L2 [sc,some (.int i),some (.ref p),a3,a4,a5,a6,a7,a8,a9,a10] S1=.ok (.nx [sc,some (.int i),some (.ref p),some (.int w),a4,a5,a6,a7,a8,a9,a10]) (S1.set p (.lst [.int (v/12)])):=Xu (by
  simp only[tkp,ev,evs,gZ0,gS0,Rk0,t2])
 have p2:Xc (S1.set p (.lst [.int (v/12)])) p=some [.int (v/12)]:=Yx (Yv p1);generalize S1.set p (.lst [.int (v/12)])=S2 at s2 p2;generalize v/12=v2 at p2;obtain⟨r,S3,f3,q,l,rfl,lq,ll,lb,x3,v3,p3⟩:=X1c 8 hw11 p2;obtain⟨X,f4⟩:=X8k 9 lq ll hw11;have f3':FT T G 12 35 [.ref p,.int w] S2=.ok (.ref q) S3:=f3;have f4':FT T G 12 31 [.int w,.ref q] S3=.ok (Xa (tT 1 (Yn l w))) (S3++X):=f4;have s3:exe (FT T G 12) G L3 [sc,some (.int i),some (.ref p),some (.int w),a4,a5,a6,a7,a8,a9,a10] S2=.ok (.nx [sc,some (.int i),some (.ref p),some (.int w),some (Xa (tT 1 (Yn l w))),a5,a6,a7,a8,a9,a10]) (S3++X):=Xu (by
  simp only[ev,evs,gZ0,gS0,Rk0,f3',f4'])
 have l6:l.length<=6:=by omega
 have r0:=Xtr (w:=w) lb l6 hw11;have r1:=Xm4 (w:=w) lb l6 hw11 (a:=1) (by decide)
 have rl:(tT 1 (Yn l w)).length=w+1:=by rw[Xdh,Xd5]
 have p4:Xc (S3++X) p=some [.int v3]:=Xm p3;generalize tT 1 (Yn l w)=row at s3 r0 r1 rl;generalize S3++X=S4 at s3 p4;have h1:1<=row.length:=by omega
 have h12:row.length<=12:=by omega
 have t5:=hT p v3 (row.length:Nat) S4 p4 (by omega) (Xxa h1 h12)
 have m0:=Va1 v3 (show((row.length:Nat):Int)≠0 by omega)
 have m1:=Vbi v3 (show(0:Int)<((row.length:Nat):Int) by omega)
 obtain⟨a,ha⟩:∃ a:Nat,v3%((row.length:Nat):Int)=(a:Int):=⟨(v3%((row.length:Nat):Int)).toNat,by omega⟩
 rw[ha] at t5 m1;have hal:a<row.length:=by omega
 have s4:exe (FT T G 12) G L4 [sc,some (.int i),some (.ref p),some (.int w),some (Xa row),a5,a6,a7,a8,a9,a10] S4=.ok (.nx [sc,some (.int i),some (.ref p),some (.int w),some (Xa row),some (.int a),a6,a7,a8,a9,a10]) (S4.set p (.lst [.int (v3/(row.length:Nat))])):=Xu (by
  simp only[tkp,ev,evs,gZ0,gS0,Rk0,Xoo,t5])
 have p5:Xc (S4.set p (.lst [.int (v3/(row.length:Nat))])) p=some [.int (v3/(row.length:Nat))]:=Yx (Yv p4);generalize S4.set p (.lst [.int (v3/(row.length:Nat))])=S5 at s4 p5;generalize v3/((row.length:Nat):Int)=v5 at p5;obtain⟨od,mo,eo⟩:=Xvq (G:=G) hT (q:=2) (c:=8) (p:=p) (v:=v5) (env:=[sc,some (.int i),some (.ref p),some (.int w),some (Xa row),some (.int a),a6,a7,a8,a9,a10]) (X1e _ S5) rfl (by decide) (by show 8<=big;decide) d8 rfl p5
 have p6:=Xsd (ds:=Xje) (c:=8) p5;have fo:=X5m od mo;have s5:exe (FT T G 12) G L5 [sc,some (.int i),some (.ref p),some (.int w),some (Xa row),some (.int a),a6,a7,a8,a9,a10] S5=.ok (.nx [sc,some (.int i),some (.ref p),some (.int w),some (Xa row),some (.int a),some od,a7,a8,a9,a10]) _:=Xu eo;generalize (S5++[O.lst Xje]).set p (.lst [.int (v5/8)])=S6 at s5 p6;generalize v5/8=v6 at p6;have h3:=Xtt (F:=FT T G 12) (env:=[sc,some (.int i),some (.ref p),some (.int w),some (Xa row),some (.int a),some od,a7,a8,a9,a10]) (S:=S6) rfl rfl rfl h12 hal;have s6:exe (FT T G 12) G L6 [sc,some (.int i),some (.ref p),some (.int w),some (Xa row),some (.int a),some od,a7,a8,a9,a10] S6=.ok (.nx [sc,some (.int i),some (.ref p),some (.int w),some (Xa row),some (.int a),some od,some (.ref S6.length),a8,a9,a10]) (S6++[.lst (Xb2 row a od)]):=Xu (by
  rw[ev,h3,Rk0];exact if_pos (by show 3<=big;decide))
 have t3:=Xw9 (a:=a) r0 r1 h12 hal fo;have q6:Xc (S6++[O.lst (Xb2 row a od)]) S6.length=some (Xb2 row a od):=Xe;have p7:Xc (S6++[O.lst (Xb2 row a od)]) p=some [.int v6]:=Xm p6;have hne:S6.length≠p:=by have:=Yv p6;omega
 have hl3:(Xb2 row a od).length=3:=rfl;generalize Xb2 row a od=ts at s6 t3 q6 p7 hl3;generalize S6.length=q1 at s6 q6 hne;generalize S6++[O.lst ts]=S7 at s6 q6 p7;have s7:exe (FT T G 12) G L7 [sc,some (.int i),some (.ref p),some (.int w),some (Xa row),some (.int a),some od,some (.ref q1),a8,a9,a10] S7=.ok (.nx [sc,some (.int i),some (.ref p),some (.int w),some (Xa row),some (.int a),some od,some (.ref q1),a8,a9,a10]) (S7.set q1 (.lst (ts++[Xa (row.take a++row.drop (a+1))]))):=Xtu rfl q6 q6 (by omega) (X5n rfl rfl h12)
 have q7:Xc (S7.set q1 (.lst (ts++[Xa (row.take a++row.drop (a+1))]))) q1=some (ts++[Xa (row.take a++row.drop (a+1))]):=Yx (Yv q6);have p8:Xc (S7.set q1 (.lst (ts++[Xa (row.take a++row.drop (a+1))]))) p=some [.int v6]:=Ext.lst (Ext.set (p:=q1)) (Ne.symm hne) p7;have t4:∀ d∈ts++[Xa (row.take a++row.drop (a+1))],Al d:=fun d hd=>by
  rcases Uz.mp hd with hd|hd
  ·exact t3 d hd
  ·rw[Us.mp hd]
   refine Xhe (fun x hx=>?_) (by simp;omega)
   rcases Uz.mp hx with hx|hx
   ·exact r0 x (Vep hx)
   ·exact r0 x (List.mem_of_mem_drop hx)
 have hl4:(ts++[Xa (row.take a++row.drop (a+1))]).length=4:=by simp[hl3]
 generalize ts++[Xa (row.take a++row.drop (a+1))]=ts4 at s7 q7 p8 t4 hl4;generalize S7.set q1 (.lst ts4)=S8 at s7 q7 p8;obtain⟨dl,S9,e8,db,dn,x9⟩:=X7k (F:=FT T G 12) (env:=[sc,some (.int i),some (.ref p),some (.int w),some (Xa row),some (.int a),some od,some (.ref q1),a8,a9,a10]) hT rfl rfl p8;have q9:Xc S9 q1=some ts4:=x9.lst hne q7;have s8:exe (FT T G 12) G L8 [sc,some (.int i),some (.ref p),some (.int w),some (Xa row),some (.int a),some od,some (.ref q1),a8,a9,a10] S8=.ok (.nx [sc,some (.int i),some (.ref p),some (.int w),some (Xa row),some (.int a),some od,some (.ref q1),a8,a9,a10]) (S9.set q1 (.lst (ts4++[Xa dl]))):=Xtu rfl q7 q9 (by omega) e8
 have t5':∀ d∈ts4++[Xa dl],Al d:=fun d hd=>by
  rcases Uz.mp hd with hd|hd
  ·exact t4 d hd
  ·rw[Us.mp hd]
   exact Xdq db (by omega)
 have q10:Xc (S9.set q1 (.lst (ts4++[Xa dl]))) q1=some (ts4++[Xa dl]):=Yx (Yv q9);have hl5:(ts4++[Xa dl]).length=5:=by simp[hl4]
 generalize ts4++[Xa dl]=ts5 at s8 q10 t5' hl5;generalize S9.set q1 (.lst ts5)=SA at s8 q10;have h9:=Xmf (F:=FT T G 12) (env:=[sc,some (.int i),some (.ref p),some (.int w),some (Xa row),some (.int a),some od,some (.ref q1),a8,a9,a10]) (S:=SA) rfl h1 h12;have hl9:ev (FT T G 12) G (.lst Xfb) [sc,some (.int i),some (.ref p),some (.int w),some (Xa row),some (.int a),some od,some (.ref q1),a8,a9,a10] SA=.ok (.ref (SA++[O.lst (row.map D.int)]).length) (SA++[O.lst (row.map D.int)]++[O.lst (D.ref SA.length::Xaj row)]):=by
  rw[ev,h9,Rk0];exact if_pos (by show 9<=big;decide)
 have hadd:=Xe9 (S:=SA++[.lst (row.map D.int)]++[O.lst (D.ref SA.length::Xaj row)]) (a:=q1) (b:=(SA++[O.lst (row.map D.int)]).length) (Xm (Xm q10)) Xe (by rw[hl5];show 5+9<=1000;decide)
 have hv9:ev (FT T G 12) G (.bin .add (.var 7) (.lst Xfb)) [sc,some (.int i),some (.ref p),some (.int w),some (Xa row),some (.int a),some od,some (.ref q1),a8,a9,a10] SA=.ok (.ref (SA++[O.lst (row.map D.int)]++[O.lst (D.ref SA.length::Xaj row)]).length) (SA++[O.lst (row.map D.int)]++[O.lst (D.ref SA.length::Xaj row)]++[O.lst (ts5++D.ref SA.length::Xaj row)]):=by
  rw[ev];simp only[ev,gZ0,gS0,Rk0] at hl9 ⊢;rw[hl9];simp only[Rk0,hadd]
 have hb:Xc (SA++[O.lst (row.map D.int)]++[O.lst (D.ref SA.length::Xaj row)]++[O.lst (ts5++D.ref SA.length::Xaj row)]) (SA++[O.lst (row.map D.int)]++[O.lst (D.ref SA.length::Xaj row)]).length=some (ts5++D.ref SA.length::Xaj row):=Xe;have hra:Xc (SA++[O.lst (row.map D.int)]++[O.lst (D.ref SA.length::Xaj row)]++[O.lst (ts5++D.ref SA.length::Xaj row)]) SA.length=some (row.map D.int):=Xm (Xm Xe);have tt:∀ d∈ts5++D.ref SA.length::Xaj row,Thing (SA++[O.lst (row.map D.int)]++[O.lst (D.ref SA.length::Xaj row)]++[O.lst (ts5++D.ref SA.length::Xaj row)]) d:=fun d hd=>by
  rcases Uz.mp hd with hd|hd
  ·exact t5' d hd _
  ·rcases Vl.mp hd with rfl|hd
   ·exact(X4g (p:=SA.length+1) (by omega) hra (fun x hx=>by
     obtain⟨y,hy,rfl⟩:=Vag.mp hx;exact Xmd (r0 y hy)) (by omega) (by rw[Vr];omega)).now
   ·exact X1f r0 h12 d hd _
 generalize ts5++D.ref SA.length::Xaj row=xs at hv9 hb tt;generalize (SA++[O.lst (row.map D.int)]++[O.lst (D.ref SA.length::Xaj row)]).length=q2 at hv9 hb;generalize SA++[O.lst (row.map D.int)]++[O.lst (D.ref SA.length::Xaj row)]++[O.lst xs]=SB at hv9 hb tt;obtain⟨e9,S10,r9,b8,b9,b10,Y,rfl,he⟩:=X0g (F:=FT T G 12) (G:=G) (t:=.var 8) (e0:=.bin .add (.var 7) (.lst Xfb)) (b:=Xku) (xs:=xs) (r:=q2) (env:=[sc,some (.int i),some (.ref p),some (.int w),some (Xa row),some (.int a),some od,some (.ref q1),a8,a9,a10]) (S:=SA) (S1:=SB)
  (fun j e S'=>∃ b8 b9 b10 Y,S'=SB++Y/\e=[sc,some (.int i),some (.ref p),some (.int w),some (Xa row),some (.int a),some od,some (.ref q1),b8,b9,b10]) hv9 hb
  (fun j e S' ⟨_,_,_,Y,h,_⟩=>by rw[h];exact Xm hb) ⟨a8,a9,a10,[],by simp,rfl⟩
  (fun j d e S' hd hP=>by
   obtain⟨b8,b9,b10,Y,rfl,rfl⟩:=hP;have td:=(tt d (U4 hd)).app (X:=Y);obtain⟨c9,c10,Z,hz⟩:=Xw5 (a0:=sc) (a1:=some (.int i)) (a2:=some (.ref p)) (a3:=some (.int w)) (a4:=some (Xa row)) (a5:=some (.int a)) (a6:=some od) (a7:=some (.ref q1)) (a9:=b9) (a10:=b10) td;exact⟨_,_,_,rfl,hz,some d,c9,c10,Y++Z,by rw[Vo],rfl⟩)
 subst he;refine⟨_,SB++Y,?_,some (.int i),some (.ref p),some (.int w),some (Xa row),some (.int a),some od,some (.ref q1),b8,b9,b10,rfl⟩;unfold Xkv;rw[Xb s1,Xb s2,Xb s3,Xb s4,Xb s5,Xb s6,Xb s7,Xb s8];have r9':exe (FT T G 12) G L9 [sc,some (.int i),some (.ref p),some (.int w),some (Xa row),some (.int a),some od,some (.ref q1),a8,a9,a10] SA=_:=r9;rw[Xb r9',exes]
theorem law_true(ns:List Int)(h:ns.length<=63):∃ S',FT T G 13 36 [.fro (ns.map D.int)] []=.ok (.bl true) S':=by
 show ∃ S',den (FT T G 12) G Xg9 [.fro (ns.map D.int)] []=_;have c1:([D.fro (ns.map D.int)].map some++Vd (11-1) none:En)=[some (.fro (ns.map D.int)),none,none,none,none,none,none,none,none,none,none]:=rfl;obtain⟨m,hm,m0,m1⟩:=Z.turns (F:=FT T G 12) (G:=G) (env:=[some (.fro (ns.map D.int)),none,none,none,none,none,none,none,none,none,none]) (S:=[]) (ns:=ns) 6 (by decide) (by decide) rfl
 obtain⟨xs,hx,hl⟩:=Ye (m:=m) m0 (Xf2 (by omega))
 obtain⟨e',S',f2,b1,b2,b3,b4,b5,b6,b7,b8,b9,b10,rfl⟩:=Xbg (F:=FT T G 12) (G:=G) (t:=.var 1) (b:=Xkv) (xs:=xs)
  (fun i e S'=>∃ b1 b2 b3 b4 b5 b6 b7 b8 b9 b10,e=[some (.fro (ns.map D.int)),b1,b2,b3,b4,b5,b6,b7,b8,b9,b10]) hm hx ⟨none,none,none,none,none,none,none,none,none,none,rfl⟩ (fun i d e S' hd hP=>by
   obtain⟨b1,b2,b3,b4,b5,b6,b7,b8,b9,b10,rfl⟩:=hP;obtain⟨rfl,hi⟩:=Y0 hx hd;obtain⟨e2,S2,t1,t2⟩:=turn ns i b2 b3 b4 b5 b6 b7 b8 b9 b10 S';exact⟨_,e2,S2,rfl,t1,t2⟩)
 refine⟨S',?_⟩;simp only[den,Xg9,V0,if_true];rw[Xw8,c1,Xb f2];rfl
end K51
end
section
namespace K51
open PySem PySem.Spec PyProof.Rows L2 Z
set_option maxHeartbeats 0 in
theorem all_mk {P:Program} {w:World} {K:Vf} {h:Heap} {mg:Str->Option Value} {fa:Addr} {t0 t1 t2:Tok} (X:K.In h) (Gm:h.Ns Vz mg) (hfa:mg "law" = some (.ref fa))
  (er:Xut K=true) (bl:X32 K=true) (g0:U6 K Vz "GREATEST_NUMBER" = some (some (.int 1000000000000 t0))) (g1:U6 K Vz "MOST_CHOSEN" = some (some (.int 12 t1))) (g2:U6 K Vz "GREATEST_WIDTH" = some (some (.int 11 t2)))
  (f0:FunAt K "is_whole" (top 19)) (f1:FunAt K "is_whole_within" (top 20)) (f2:FunAt K "is_whole_tuple" (top 21)) (f3:FunAt K "writing" (top 25)) (f4:FunAt K "bags_above" (top 26)) (f5:FunAt K "check_written" (top 27)) (f6:FunAt K "ways" (top 28)) (f7:FunAt K "most_things" (top 29)) (f8:FunAt K "written_parts" (top 30)) (f9:FunAt K "is_row" (top 33)) (f10:FunAt K "turned" (top 34)) (f11:FunAt K "first_uneven" (top 35)) (f12:FunAt K "check_row" (top 36)) (f13:FunAt K "growth" (top 37)) (f14:FunAt K "half_size" (top 38)) (f15:FunAt K "parts_at" (top 39)) (f16:FunAt K "in_turns" (top 40)) (f17:FunAt K "not_of_crowd" (top 42)) (f18:FunAt K "first_beyond" (top 43)) (f19:FunAt K "barred" (top 45)) (f20:FunAt K "_law_cell_at" (top 47)) (f21:FunAt K "_law_pot" (top 48)) (f22:FunAt K "_law_take" (top 49)) (f23:FunAt K "_law_whole" (top 50)) (f24:FunAt K "_law_word" (top 51)) (f25:FunAt K "_law_ways" (top 52)) (f26:FunAt K "_law_writing" (top 53)) (f27:FunAt K "_law_next_by" (top 54)) (f28:FunAt K "_law_first_not" (top 55)) (f29:FunAt K "_law_is_row" (top 56)) (f30:FunAt K "_law_turned" (top 57)) (f31:FunAt K "_law_even_row" (top 58)) (f32:FunAt K "_law_steps" (top 59)) (f33:FunAt K "_law_said" (top 60)) (f34:FunAt K "_law_due" (top 61)) (f35:FunAt K "_law_numbers" (top 62)) (f36:FunAt K "law" (top 63)) :
  ∃ fd:Vbv,(∀ (s:Shared) (u:Value),BindsTo s fd ⟨[u],[]⟩ [("_law_script",u)])/\∀ base:Heap,K.In base->base.Ns Vz mg->FnOk P w K mg base (CXd P w) 13 fa fd ["_law_script"] (spD K 1 (FT T G 13 36)):=by
 have er':=Xzd er;have bl':=Xz1 X Gm bl;have hg:∀ (k:Nat) nm,gns[k]?=some nm->∃ u d,mg nm=some u/\G[k]?=some d/\∀ ρ H,∃ v,RelV v u/\RD K ρ H d v:=fun k nm e=>by
  match k,e with
  | 0,e=>cases e;exact Xh1 X Gm g0
  | 1,e=>cases e;exact Xh1 X Gm g1
  | 2,e=>cases e;exact Xh1 X Gm g2
  | 3,e=>cases e;exact X33 X Gm f4
  | k+4,e=>cases e
 have hD:AllD K mg fns gns fns T:=AllD.c (dk X Gm f0 Xqn Xai) <| AllD.c (dk X Gm f1 Xfe X31) <| AllD.c (dk X Gm f2 Xgf Xai) <| AllD.c (dk X Gm f3 Xtj Xbd) <| AllD.c (dk X Gm f4 Xmw Xbd) <| AllD.c (dk X Gm f5 Xha Xbd) <| AllD.c (dk X Gm f6 X46 Xbd) <| AllD.c (dk X Gm f7 Xj8 Xbd) <| AllD.c (dk X Gm f8 Xhb Xbd) <| AllD.c (dk X Gm f9 Xwt Xai) <| AllD.c (dk X Gm f10 Xwu Xai) <| AllD.c (dk X Gm f11 Xi3 Xai) <| AllD.c (dk X Gm f12 Xnk Xai) <| AllD.c (dk X Gm f13 Xwv Xai) <| AllD.c (dk X Gm f14 Xnl Xai) <| AllD.c (dk X Gm f15 Xqo Xbd) <| AllD.c (dk X Gm f16 Xqp Xai) <| AllD.c (dk X Gm f17 Xi4 Xai) <| AllD.c (dk X Gm f18 Xi5 Xbd) <| AllD.c (dk X Gm f19 Xww Xai) <| AllD.c (dk X Gm f20 Xi6 Xbd) <| AllD.c (dk X Gm f21 Xqq Xai) <| AllD.c (dk X Gm f22 Xnm Xbd) <| AllD.c (dk X Gm f23 Xmx Xai) <| AllD.c (dk X Gm f24 Xnn Xai) <| AllD.c (dk X Gm f25 Xno Xbd) <| AllD.c (dk X Gm f26 Xi7 Xbd) <| AllD.c (dk X Gm f27 Xi8 X31) <| AllD.c (dk X Gm f28 Xgg Xbd) <| AllD.c (dk X Gm f29 Xj9 Xai) <| AllD.c (dk X Gm f30 Xka Xai) <| AllD.c (dk X Gm f31 Xhc Xbd) <| AllD.c (dk X Gm f32 Xmy Xai) <| AllD.c (dk X Gm f33 Xnp Xai) <| AllD.c (dk X Gm f34 Xqr Xai) <| AllD.c (dk X Gm f35 Xi9 Xbd) <| AllD.c (dk X Gm f36 Xqs Xai) <| True.intro;exact law_fn (k:=12) (d:=Xg9) (st:=top 63) (N:=Xx0) X Gm hfa er' bl' hg hD.get rfl f36 (ms Xqs) (mm Xqs) rfl rfl Xai
noncomputable def kept:List Stmt:=[top 1,top 2,top 3,top 4,top 5,top 6,top 7,top 8,top 9,top 10,top 11,top 12,top 13,top 14,top 15,top 16,top 17,top 19,top 20,top 21,top 23,top 24,top 25,top 26,top 27,top 28,top 29,top 30,top 32,top 33,top 34,top 35,top 36,top 37,top 38,top 39,top 40,top 42,top 43,top 45,top 47,top 48,top 49,top 50,top 51,top 52,top 53,top 54,top 55,top 56,top 57,top 58,top 59,top 60,top 61,top 62,top 63]
noncomputable def Q:Program:={ PySem.Challenge.pw_facecounts_k51_what_bars_a_row with main:={ PySem.Challenge.pw_facecounts_k51_what_bars_a_row.main with body:=kept } }
end K51
open PySem PySem.W PyProof.Rows
noncomputable def PySem.W.Fast.tw8731440718605552537:PySem.Program:=PySem.Challenge.pw_facecounts_k51_what_bars_a_row
theorem PySem.W.Fast.te8731440718605552537:PySem.Challenge.pw_facecounts_k51_what_bars_a_row=PySem.W.Fast.tw8731440718605552537:=rfl
lay_quick Z.topT PySem.W.topStub
set_option maxRecDepth 100000 in
set_option maxHeartbeats 0 in
theorem K51.st_ok:Z.RunT PySem.Challenge.pw_facecounts_k51_what_bars_a_row (fun w s=>staticsOk (Vcr PySem.Challenge.pw_facecounts_k51_what_bars_a_row.main.body) (boot_heap w.params) s.abs.heap&&namesBound PySem.Challenge.pw_facecounts_k51_what_bars_a_row s.abs.heap&&gensDone s.abs&&laidKept (boot_heap w.params) s.abs.heap) fun _=>true:=by
 intro w os;rw[PySem.W.Fast.te15842407815417585275,PySem.W.Fast.te2530740449226627131,Vdw]
 kernel_rfl
set_option maxRecDepth 100000 in
set_option maxHeartbeats 0 in
theorem K51.seen_ok:Z.RunT PySem.Challenge.pw_facecounts_k51_what_bars_a_row (fun _ s=>openSeen K51.Q [] (Vcr PySem.Challenge.pw_facecounts_k51_what_bars_a_row.main.body) (fun s=>PySem.W.xlAt K51.Q [] s&&PySem.W.recOk [] s) true s.abs) fun _=>openGood K51.Q []:=by
 intro w os;unfold K51.Q K51.kept K51.top;rw[PySem.W.Fast.te4187177175401517315,PySem.W.Fast.te15842407815417585275,PySem.W.Fast.te2530740449226627131,Vdw]
 kernel_rfl
local macro_rules | `(tactic| o_head $H)=>`(tactic|
 refine PySem.W.holds_open (q:=K51.Q) (loose:=[]) (Xt:=fun s=>PySem.W.xlAt K51.Q [] s&&PySem.W.recOk [] s)
  (XP:=PySem.W.XL K51.Q []) (Yf:=PySem.W.Hook.obs $H) (Ya:=PySem.W.Hook.val $H)
  (YP:=PySem.W.Hook.says $H) (N:=40000) ?hl (PySem.W.Hook.of $H) (PySem.W.Hook.keeps $H)
  (fun s e=>PySem.W.xl_of s (Bool.and_eq_true_iff.mp e).1) PySem.W.XL.keeps
  (by rfl) (by rfl) (by rfl)
  (fun s e=>PySem.W.recFacts_of (Bool.and_eq_true_iff.mp e).2)
  (by rfl) (by first|assumption|decide+kernel) (by decide+kernel)
  ⟨rfl,rfl,rfl,rfl,rfl,by decide+kernel⟩ ?hw ?hc)
set_option maxRecDepth 100000 in
set_option maxHeartbeats 0 in
theorem PySem.Challenge.cw_facecounts_k51_what_bars_a_row_holds : PySem.Challenge.rw_facecounts_k51_what_bars_a_row.Holds := by
 w_on;o_law;x_head
 (case hl =>
  refine Z.left_tree3 (p:=PySem.Challenge.pw_facecounts_k51_what_bars_a_row) (by kernel_rfl) (fun s=>by kernel_rfl) K51.st_ok K51.seen_ok ?_
  intro w os;dsimp only[PySem.W.kHook];rw[PySem.W.Fast.te15842407815417585275,PySem.W.Fast.te2530740449226627131,PySem.W.Fast.te14364793385576792824]
  kernel_rfl)
 (case hw=>w_witness2)
 k_fill
 refine Z.walk_z (l:=PySem.Challenge.rw_facecounts_k51_what_bars_a_row) (T:=K51.T) (G:=K51.G) (k:=13) (f:=36) (x := "_law_script") rfl rfl ⟨rfl,rfl,by decide,by decide⟩ (fun w h Y=>PySem.W.kIn_of Y) ?F K51.law_true
 case F =>
  as_aux_lemma =>
   intro w mg fa h KX G hmg;refine' K51.all_mk KX G hmg ?er ?bl ?g0 ?g1 ?g2 ?f0 ?f1 ?f2 ?f3 ?f4 ?f5 ?f6 ?f7 ?f8 ?f9 ?f10 ?f11 ?f12 ?f13 ?f14 ?f15 ?f16 ?f17 ?f18 ?f19 ?f20 ?f21 ?f22 ?f23 ?f24 ?f25 ?f26 ?f27 ?f28 ?f29 ?f30 ?f31 ?f32 ?f33 ?f34 ?f35 ?f36
   (case g0=>k_is)
   (case g1=>k_is)
   (case g2=>k_is)
   (case er=>kernel_rfl)
   (case bl=>kernel_rfl)
   all_goals (refine' Z.funAt_mk ?a ?l ?c ?k;(case a=>k_is);(case l=>k_is);(case c=>k_is);(case k=>k_is))
end
