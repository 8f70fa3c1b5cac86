import PyProof.Rows.All
import Wide.All
import OpenK.AllK
import Wide.FinOn
import Lean
import PyProof.EqAt
import PyProof.EqKinds
import PyProof.TupleCall
import PySem.Challenge.RW_facecounts_k42_rows_that_can_be
set_option Elab.async false
set_option linter.all false
set_option maxRecDepth 100000
set_option genSizeOf false
set_option genSizeOfSpec false
universe u
theorem gZ0{α:Type u}{a:α}{l:List α}:(a::l)[0]?=some a:=rfl
theorem gS0{α:Type u}{a:α}{i:Nat}{l:List α}:(a::l)[i+1]?=l[i]?:=rfl
theorem bA0(a b:Bool):((a&&b)=true)=(a=true∧b=true):=Bool.and_eq_true a b
section
namespace L2
open PySem PySem.Spec PyProof.Rows
noncomputable abbrev Key:=Sum Int Str
noncomputable def keyIs:Key->Value->Bool
 | .inl k,v=>Value.isInt k v
 | .inr x,v=>Value.isStrOf x v
noncomputable def keyH(w:World):Key->Int
 | .inl k=>hashInt k
 | .inr x=>hashStr w x
theorem keyIs_shape:∀ {k:Key} {v:Value},keyIs k v=true->(∃ i t,k=Sum.inl i/\v=Value.int i t)\/(∃ x t,k=Sum.inr x/\v=Value.str x t)
 | .inl i,v,h=>by
  obtain⟨t,e⟩:=Value.isInt_shape (k:=i) (v:=v) h;exact .inl ⟨i,t,rfl,e⟩
 | .inr x,v,h=>by
  obtain⟨t,e⟩:=Value.isStrOf_shape (x:=x) (v:=v) h;exact .inr ⟨x,t,rfl,e⟩
theorem key_ll(a b:Int):decide ((Sum.inl a:Key)=Sum.inl b)=(a == b):=by
 by_cases e:a=b
 ·subst e; simp
 ·have h:¬ (Sum.inl a:Key)=Sum.inl b:=fun q=>e (Sum.inl.inj q)
  rw[decide_eq_false h];exact(beq_eq_false_iff_ne.mpr e).symm
theorem key_rr(a b:Str):decide ((Sum.inr a:Key)=Sum.inr b)=decide (a=b):=by
 by_cases e:a=b
 ·subst e; simp
 ·have h:¬ (Sum.inr a:Key)=Sum.inr b:=fun q=>e (Sum.inr.inj q)
  rw[decide_eq_false h,decide_eq_false e]
theorem key_lr(a:Int)(b:Str):decide ((Sum.inl a:Key)=Sum.inr b)=false:=decide_eq_false (fun q=>nomatch q)
theorem key_rl(a:Str)(b:Int):decide ((Sum.inr a:Key)=Sum.inl b)=false:=decide_eq_false (fun q=>nomatch q)
noncomputable def mixKind(prog:Program)(w:World):PySem.KeyKind prog w Key where
 is:=keyIs
 hash:=keyH w
 inj:=fun v a b ha hb=>by
  rcases keyIs_shape ha with⟨i,t,rfl,rfl⟩ | ⟨x,t,rfl,rfl⟩
  ·rcases keyIs_shape hb with⟨j,u,rfl,e⟩ | ⟨y,u,rfl,e⟩
   ·injection e with e1 _; rw[e1]
   ·exact nomatch e
  ·rcases keyIs_shape hb with⟨j,u,rfl,e⟩ | ⟨y,u,rfl,e⟩
   ·exact nomatch e
   ·injection e with e1 _; rw[e1]
 byValue:=fun k v h=>by
  rcases keyIs_shape h with⟨i,t,rfl,rfl⟩ | ⟨x,t,rfl,rfl⟩ <;> rfl
 pyHash:=fun hv h=>by
  rcases keyIs_shape hv with⟨i,t,rfl,rfl⟩ | ⟨x,t,rfl,rfl⟩
  ·exact wpAny_pyHash_int h
  ·exact wpAny_pyHash_str h
 eqBool:=fun hu hv h=>by
  rcases keyIs_shape hu with⟨i,t,rfl,rfl⟩ | ⟨x,t,rfl,rfl⟩
  ·rcases keyIs_shape hv with⟨j,u,rfl,rfl⟩ | ⟨y,u,rfl,rfl⟩
   ·rw[key_ll] at h; exact wpAny_eqBool_int h
   ·rw[key_lr] at h; exact SeqAt.EqAt.int_str i t y u _ _ _ _ h
  ·rcases keyIs_shape hv with⟨j,u,rfl,rfl⟩ | ⟨y,u,rfl,rfl⟩
   ·rw[key_rl] at h; exact SeqAt.EqAt.str_int x t j u _ _ _ _ h
   ·rw[key_rr] at h; exact wpAny_eqBool_str h
 «strs»:=fun k x t v h=>by
  rcases keyIs_shape h with⟨i,u,rfl,e⟩ | ⟨y,u,rfl,e⟩
  ·exact nomatch e
  ·injection e with e1 _
   subst e1;cases v <;> rfl
end L2
namespace L2
open PySem PySem.Spec PyProof.Rows
inductive V where
 | non | bl (b:Bool) | int (i:Int) | str (x:Str) | byt (b:Array UInt8) | flt (b:UInt64) | ref (a:Addr) | ty (n:String)
 deriving DecidableEq
def RelV:V->Value->Prop
 | .non,u=>u=Value.none
 | .bl b,u=>u=Value.bool b
 | .int i,u=>∃ t,u=Value.int i t
 | .str x,u=>∃ t,u=Value.str x t
 | .byt b,u=>∃ t,u=Value.bytes b t
 | .flt b,u=>∃ t,u=Value.float b t
 | .ref a,u=>u=Value.ref a
 | .ty n,u=>u=Value.type n
abbrev Vals:List V->List Value->Prop:=Paired RelV
theorem Vals.length{xs:List V}{us:List Value}(r:Vals xs us):xs.length=us.length:=Paired.length r
theorem Vals.get:∀ {xs:List V} {us:List Value} {i:Nat} {x:V},Vals xs us->xs[i]?=some x->∃ u,us[i]?=some u/\RelV x u
 | _,_,_,_,.nil,e=>by simp at e
 | _,_,0,_,.cons r _,e=>by simp at e; subst e; exact⟨_,rfl,r⟩
 | _,_,i + 1,x,.cons _ t,e=>by
  obtain⟨u,h1,h2⟩:=Vals.get (i:=i) (x:=x) t (by simpa using e)
  exact⟨u,by simpa using h1,h2⟩
theorem Vals.set{x:V}{u:Value}(r:RelV x u):∀ {xs:List V} {us:List Value} (i:Nat),Vals xs us->Vals (xs.set i x) (us.set i u)
 | _,_,_,.nil=>.nil
 | _,_,0,.cons _ t=>.cons r t
 | _,_,i + 1,.cons q t=>.cons q (Vals.set r i t)
theorem Vals.append:∀ {xs ys:List V} {us ws:List Value},Vals xs us->Vals ys ws->Vals (xs++ys) (us++ws)
 | _,_,_,_,.nil,s=>s
 | _,_,_,_,.cons r t,s=>.cons r (Vals.append t s)
theorem Vals.take:∀ {xs:List V} {us:List Value} (n:Nat),Vals xs us->Vals (xs.take n) (us.take n)
 | _,_,0,_=>.nil
 | _,_,_ + 1,.nil=>.nil
 | _,_,n + 1,.cons r t=>.cons r (Vals.take n t)
theorem Vals.drop:∀ {xs:List V} {us:List Value} (n:Nat),Vals xs us->Vals (xs.drop n) (us.drop n)
 | _,_,0,r=>r
 | _,_,_ + 1,.nil=>.nil
 | _,_,n + 1,.cons _ t=>Vals.drop n t
def RelO:Option V->Option Value->Prop
 | some v,some u=>RelV v u
 | none,none=>True
 | _,_=>False
def KV{κ:Type}:List (κ×V)->List (κ×Value)->Prop:=Paired fun(p:κ×V) (q:κ×Value)=>p.1=q.1/\RelV p.2 q.2
noncomputable def kV:Key->V
 | .inl i=>.int i
 | .inr x=>.str x
inductive HO where
 | lst (xs:List V)
 | tup (xs:List V)
 | dK (kvs:List (Key×V)) | dT (kvs:List (List Key×V))
 | set (S:Int->Bool) (n:Nat)
 | ins (C dx:Addr) (fs:List (Str×V))
 | own (x:Addr)
 | xd (fs:List (Str×V))
 | met (f x:Addr)
 | rng (lo hi:Int)
 | frz (o:Obj) (u:HO)
 | tbl (ps:Array Value)
 | ext (φ:Heap->Prop)
noncomputable abbrev Hp:=Addr->Option HO
noncomputable def upd(H:Hp)(a:Addr)(o:HO):Hp:=fun b=>if b=a then some o else H b
theorem upd_same{H:Hp}{a:Addr}{o:HO}:upd H a o a=some o:=by unfold upd; rw[if_pos rfl]
theorem upd_ne{H:Hp}{a b:Addr}{o:HO}(h:b≠a):upd H a o b=H b:=by unfold upd; rw[if_neg h]
theorem upd_upd{H:Hp}{a:Addr}{o u:HO}:upd (upd H a o) a u=upd H a u:=by
 funext b; unfold upd; split <;> rfl
theorem ne_of_none{H:Hp}{a b:Addr}{o:HO}(h:H a=some o)(h':H b=none):a≠b:=by
 intro e; subst e; rw[h] at h'; cases h'
section
variable(P:Program)(w:World)
def ObjOk(H:Hp)(h:Heap)(a:Addr):HO->Prop
 | .lst xs=>xs.length<=sizeLine/\∃ (its:List Value) (n:Nat),Vals xs its/\h.get? a=some { cls:=.type "list",data:=.seq its.toArray n }
 | .tup xs=>xs.length<=sizeLine/\∃ its:List Value,Vals xs its/\IsTup h a its.toArray
 | .dK kvs=>kvs.length<=sizeLine/\(a == sysModules)=false/\∃ vs,KV kvs vs/\h.DictOf (mixKind P w) a vs
 | .dT kvs=>kvs.length<=sizeLine/\(a == sysModules)=false/\∃ xs:List (List Key×Addr×Value),
   Paired (fun(p:List Key×V) (q:List Key×Addr×Value)=>p.1=q.1/\H q.2.1=some (.tup (p.1.map kV))/\RelV p.2 q.2.2) kvs xs /\
   ∃ o es ep,h.get? a=some o/\o.ExactDict/\o.data=.dict es ep/\es.toList=xs.map (entryOfKey (tupleKind (mixKind P w)))/\(xs.map (·.1)).Nodup
 | .set S n=>h.SetOf (intKind P w) a S n
 | .ins C dx fs=>H dx=some (.own a)/\fs.length<=1000/\dx≠a/\h.get? a=some (PySem.W.instObj C dx) /\
   ∃ mA,h.Ns1 dx mA/\(∀ f,RelO (fs.lookup f) (mA f))/\PySem.Within mA (fs.map (·.1))
 | .own _=>∃ o,h.get? a=some o
 | .xd fs=>∃ mA,h.Ns1 a mA/\∀ f,RelO (fs.lookup f) (mA f)
 | .rng lo hi=>∃ t u v,h.get? a=some { cls:=.type "range",data:=.fields #[.int lo t,.int hi u,.int 1 v] }
 | .frz o u=>h.get? a=some o/\ObjOk H h a u
 | .tbl ps=>h.get? a=some { cls:=.none,data:=.fields ps }
 | .met f x=>h.get? a=some (PySem.W.methodObj (.ref f) (.ref x))
 | .ext φ=>φ h/\(∃ o,h.get? a=some o)/\∀ h1 h2:Heap,φ h1->(∀ o,h1.get? a=some o->h2.get? a=some o)->φ h2
def HOk(H:Hp)(h:Heap):Prop:=∀ a o,H a=some o->ObjOk P w H h a o
end
section
variable{P:Program}{w:World}{H H':Hp}{h h':Heap}{a:Addr}{o:HO}
theorem ObjOk.lt(x:ObjOk P w H h a o):a < h.objs.size:=by
 cases o with
 | lst xs=>obtain⟨_,_,_,_,e⟩:=x; exact Heap.lt_size e
 | tup xs=>obtain⟨_,_,_,p⟩:=x; exact p.lt
 | dK kvs=>obtain⟨_,_,_,_,o,_,_,e,_⟩:=x; exact Heap.lt_size e
 | dT kvs=>obtain⟨_,_,_,_,o,_,_,e,_⟩:=x; exact Heap.lt_size e
 | set S n=>obtain⟨o,_,_,_,e,_⟩:=x; exact Heap.lt_size e
 | ins C dx fs=>obtain⟨_,_,_,e,_⟩:=x; exact Heap.lt_size e
 | own y=>obtain⟨_,e⟩:=x; exact Heap.lt_size e
 | xd fs=>obtain⟨_,⟨_,_,_,e,_⟩,_⟩:=x; exact Heap.lt_size e
 | rng lo hi=>obtain⟨_,_,_,e⟩:=x; exact Heap.lt_size e
 | frz ob u=>obtain⟨e,_⟩:=x; exact Heap.lt_size e
 | tbl ps=>exact Heap.lt_size (show h.get? a=some _ from x)
 | met f y=>exact Heap.lt_size (show h.get? a=some _ from x)
 | ext φ=>obtain⟨_,⟨_,e⟩,_⟩:=x; exact Heap.lt_size e
theorem Paired.mapP{α β:Type}{F G:α->β->Prop}:∀ {l₁:List α} {l₂:List β},Paired F l₁ l₂->(∀ a b,F a b->G a b)->Paired G l₁ l₂
 | _,_,.nil,_=>.nil
 | _,_,.cons r t,f=>.cons (f _ _ r) (Paired.mapP t f)
theorem ObjOk.stay(x:ObjOk P w H h a o)(k:∀ b u,(b=a\/H b=some (.own a))->h.get? b=some u->h'.get? b=some u)
  (ho:∀ b,H b=some (.own a)->H' b=some (.own a)) (ht:∀ b xs,H b=some (.tup xs)->H' b=some (.tup xs)):ObjOk P w H' h' a o:=by
 induction o with
 | lst xs=>obtain⟨z,its,n,r,e⟩:=x; exact⟨z,its,n,r,k _ _ (.inl rfl) e⟩
 | tup xs=>obtain⟨z,its,r,ob,e,c⟩:=x; exact⟨z,its,r,ob,k _ _ (.inl rfl) e,c⟩
 | dK kvs=>obtain⟨z,y,vs,r,ob,es,ep,e,c⟩:=x; exact⟨z,y,vs,r,ob,es,ep,k _ _ (.inl rfl) e,c⟩
 | dT kvs =>
  obtain⟨z,y,xs,r,ob,es,ep,e,c⟩:=x;exact⟨z,y,xs,Paired.mapP r fun p q z=>⟨z.1,ht _ _ z.2.1,z.2.2⟩,ob,es,ep,k _ _ (.inl rfl) e,c⟩
 | set S n=>obtain⟨ob,es,ep,t,e,c⟩:=x; exact⟨ob,es,ep,t,k _ _ (.inl rfl) e,c⟩
 | ins C dx fs =>
  obtain⟨d,z,ne,e,mA,⟨od,es,ep,e2,c⟩,r⟩:=x;exact⟨ho _ d,z,ne,k _ _ (.inl rfl) e,mA,⟨od,es,ep,k _ _ (.inr d) e2,c⟩,r⟩
 | own y=>obtain⟨ob,e⟩:=x; exact⟨ob,k _ _ (.inl rfl) e⟩
 | xd fs=>obtain⟨mA,⟨od,es,ep,e,c⟩,r⟩:=x; exact⟨mA,⟨od,es,ep,k _ _ (.inl rfl) e,c⟩,r⟩
 | rng lo hi=>obtain⟨t,u,v,e⟩:=x; exact⟨t,u,v,k _ _ (.inl rfl) e⟩
 | frz ob u ih=>obtain⟨e,q⟩:=x; exact⟨k _ _ (.inl rfl) e,ih q⟩
 | tbl ps =>
  have e:h.get? a=some { cls:=.none,data:=.fields ps }:=x;show h'.get? a=some { cls:=.none,data:=.fields ps };exact k a _ (.inl rfl) e
 | met f y =>
  have e:h.get? a=some (PySem.W.methodObj (.ref f) (.ref y)):=x;show h'.get? a=some (PySem.W.methodObj (.ref f) (.ref y));exact k a _ (.inl rfl) e
 | ext φ=>obtain⟨p,⟨o,e⟩,st⟩:=x; exact⟨st _ _ p fun o q=>k _ _ (.inl rfl) q,⟨o,k _ _ (.inl rfl) e⟩,st⟩
theorem HOk.lt(x:HOk P w H h)(e:H a=some o):a < h.objs.size:=(x a o e).lt
theorem HOk.fresh(x:HOk P w H h)(e:h.objs.size<=a):H a=none:=by
 cases q:H a with
 | none=>rfl
 | some u=>exact absurd (Nat.lt_of_lt_of_le (x.lt q) e) (Nat.lt_irrefl _)
theorem HOk.kept(x:HOk P w H h)(k:∀ b u,h.get? b=some u->h'.get? b=some u):HOk P w H h':=fun a o e =>
 (x a o e).stay (fun b u _ q=>k b u q) (fun _ q=>q) fun _ _ q=>q
theorem HOk.laid(x:HOk P w H h)(k:∀ b u,h.get? b=some u->h'.get? b=some u)(hp:h.objs.size<=a)(new:ObjOk P w (upd H a o) h' a o):HOk P w (upd H a o) h':=fun b u e=>by
 have hn:=x.fresh hp
 by_cases hb:b=a
 ·subst hb; rw[upd_same] at e; cases e; exact new
 ·rw[upd_ne hb] at e
  exact(x b u e).stay (fun c v _ q=>k c v q) (fun c q=>by rw[upd_ne (ne_of_none q hn)]; exact q) fun c xs q=>by rw[upd_ne (ne_of_none q hn)]; exact q
end
def Rd(H:Hp)(a:Addr)(u:HO):Prop:=H a=some u\/∃ o,H a=some (.frz o u)
theorem Rd.ok{P:Program}{w:World}{H:Hp}{h:Heap}{a:Addr}{u:HO}(r:Rd H a u)(x:HOk P w H h):ObjOk P w H h a u:=by
 rcases r with r | ⟨o,r⟩
 ·exact x a u r
 ·obtain⟨_,q⟩:=x a _ r
  exact q
def Mut:Option HO->Prop
 | some (.lst _)=>True
 | some (.dK _)=>True
 | some (.dT _)=>True
 | some (.set _ _)=>True
 | some (.ins _ _ _)=>True
 | some (.ext _)=>True
 | _=>False
section
variable{P:Program}{w:World}{H:Hp}{h h':Heap}{x e:Addr}{o':HO}
theorem HOk.write(ok:HOk P w H h)(mu:Mut (H x))(he:e=x\/H e=some (.own x))(k:∀ b u,b≠e->h.get? b=some u->h'.get? b=some u)(heo:∃ u,h'.get? e=some u)
  (new:ObjOk P w (upd H x o') h' x o'):HOk P w (upd H x o') h':=fun b u q=>by
 have nown:∀ c y,H c=some (.own y)->c≠x:=fun c y r z=>by subst z; rw[r] at mu; exact mu
 have ntup:∀ c xs,H c=some (.tup xs)->c≠x:=fun c xs r z=>by subst z; rw[r] at mu; exact mu
 by_cases hb:b=x
 ·subst hb; rw[upd_same] at q; cases q; exact new
 ·rw[upd_ne hb] at q
  by_cases hbe:b=e
  ·have q':H b=some (.own x):=by
    rcases he with z | z
    ·exact absurd (hbe.trans z) hb
    ·rw[hbe]; exact z
   rw[q] at q'; cases q';obtain⟨v,hv⟩:=heo;exact⟨v,by rw[hbe]; exact hv⟩
  ·refine(ok b u q).stay (fun c v hc r=>k c v ?_ r) (fun c r=>by rw[upd_ne (nown c b r)]; exact r) fun c xs r=>by rw[upd_ne (ntup c xs r)]; exact r
   rcases hc with rfl | hc
   ·exact hbe
   ·rintro rfl
    rcases he with z | z
    ·exact nown c b hc z
    ·rw[hc] at z; cases z; exact hb rfl
end
structure Un(fs ex:List Addr)(H H':Hp)(h h':Heap):Prop where
 keep:∀ b o,h.get? b=some o->H b=none->b ∉ fs->b ∉ ex->h'.get? b=some o
 slot:∀ b o,h.get? b=some o->H b=none->b∈fs->b ∉ ex->∃ sl,h'.get? b=some { o with slots:=sl }
 free:∀ b o,h.get? b=some o->H b=none->b ∉ ex->H' b=none
 there:∀ b o,h.get? b=some o->b ∉ ex->∃ o',h'.get? b=some o'
 tups:∀ b xs,H b=some (.tup xs)->H' b=some (.tup xs)
 frzs:∀ b o u,H b=some (.frz o u)->H' b=some (.frz o u)
 tbls:∀ b ps,H b=some (.tbl ps)->∃ more,H' b=some (.tbl (ps++more))
section
variable{fs fs' ex ex':List Addr}{H H1 H2:Hp}{h h1 h2 h':Heap}{a x e:Addr}{o:HO}
theorem Un.any(u:Un fs ex H H1 h h1){b:Addr}{ob:Obj}(q:h.get? b=some ob)(n:H b=none)(hx:b ∉ ex):∃ sl,h1.get? b=some { ob with slots:=sl }:=by
 by_cases hb:b∈fs
 ·exact u.slot b ob q n hb hx
 ·exact⟨ob.slots,u.keep b ob q n hb hx⟩
theorem Un.trans(a:Un fs ex H H1 h h1)(b:Un fs ex H1 H2 h1 h2):Un fs ex H H2 h h2 where
 keep:=fun c ob q n hc hx=>b.keep c ob (a.keep c ob q n hc hx) (a.free c ob q n hx) hc hx
 slot:=fun c ob q n hc hx=>by
  obtain⟨sl,e1⟩:=a.slot c ob q n hc hx;obtain⟨sl',e2⟩:=b.slot c _ e1 (a.free c ob q n hx) hc hx;exact⟨sl',e2⟩
 free:=fun c ob q n hx=>by
  obtain⟨o',e1⟩:=a.there c ob q hx;exact b.free c o' e1 (a.free c ob q n hx) hx
 there:=fun c ob q hx=>by
  obtain⟨o',e1⟩:=a.there c ob q hx;exact b.there c o' e1 hx
 tups:=fun c xs q=>b.tups c xs (a.tups c xs q)
 frzs:=fun c ob xs q=>b.frzs c ob xs (a.frzs c ob xs q)
 tbls:=fun c ps q=>by
  obtain⟨m1,e1⟩:=a.tbls c ps q;obtain⟨m2,e2⟩:=b.tbls c _ e1;exact⟨m1++m2,by rw[e2,Array.append_assoc]⟩
theorem Un.kept(k:∀ b u,h.get? b=some u->h'.get? b=some u):Un fs ex H H h h' :=
 ⟨fun b ob q _ _ _=>k b ob q,fun b ob q _ _ _=>⟨ob.slots,k b ob q⟩,fun _ _ _ n _=>n,fun b ob q _=>⟨ob,k b ob q⟩,fun _ _ q=>q,fun _ _ _ q=>q,fun _ ps q=>⟨#[],by rw[q]; simp⟩⟩
theorem Un.refl:Un fs ex H H h h:=Un.kept fun _ _ q=>q
theorem Un.laid(k:∀ b u,h.get? b=some u->h'.get? b=some u)(hp:h.objs.size<=a)(hn:H a=none):Un fs ex H (upd H a o) h h' where
 keep:=fun b u q _ _ _=>k b u q
 slot:=fun b u q _ _ _=>⟨u.slots,k b u q⟩
 free:=fun b u q n _=>by rw[upd_ne (Nat.ne_of_lt (Nat.lt_of_lt_of_le (Heap.lt_size q) hp))]; exact n
 there:=fun b u q _=>⟨u,k b u q⟩
 tups:=fun b xs q=>by rw[upd_ne (ne_of_none q hn)]; exact q
 frzs:=fun b u xs q=>by rw[upd_ne (ne_of_none q hn)]; exact q
 tbls:=fun b ps q=>⟨#[],by rw[upd_ne (ne_of_none q hn),q]; simp⟩
theorem Un.write(mu:Mut (H x))(he:e=x\/H e=some (.own x))(k:∀ b u,b≠e->h.get? b=some u->h'.get? b=some u)(heo:∃ u,h'.get? e=some u):Un fs ex H (upd H x o) h h':=by
 have hx:∀ b,H b=none->b≠x:=fun b n z=>by subst z; rw[n] at mu; exact mu
 have hb:∀ b,H b=none->b≠e:=fun b n z=>by
  subst z;rcases he with r | r
  ·exact hx b n r
  ·rw[n] at r; cases r
 have hm:∀ b u,H b=some u->¬ Mut (some u)->b≠x:=fun b u q nm z=>by subst z; rw[q] at mu; exact nm mu
 refine⟨fun b u q n _ _=>k b u (hb b n) q,fun b u q n _ _=>⟨u.slots,k b u (hb b n) q⟩,fun b u q n _=>by rw[upd_ne (hx b n)]; exact n,fun b u q _=>?_,
  fun b xs q=>by rw[upd_ne (hm b _ q fun z=>z)]; exact q,fun b u xs q=>by rw[upd_ne (hm b _ q fun z=>z)]; exact q,fun b ps q=>⟨#[],by rw[upd_ne (hm b _ q fun z=>z),q]; simp⟩⟩
 by_cases hbe:b=e
 ·subst hbe; exact heo
 ·exact⟨u,k b u hbe q⟩
theorem Un.mono(u:Un fs ex H H1 h h1)(hs:∀ b∈fs,b∈fs')(hx:∀ b∈ex,b∈ex'):Un fs' ex' H H1 h h1 :=
 ⟨fun b ob q n hb he=>u.keep b ob q n (fun z=>hb (hs b z)) fun z=>he (hx b z),fun _ _ q n _ he=>u.any q n fun z=>he (hx _ z),fun b ob q n he=>u.free b ob q n fun z=>he (hx b z),fun b ob q he=>u.there b ob q fun z=>he (hx b z),u.tups,u.frzs,u.tbls⟩
end
noncomputable def trk(h:Heap)(H:Hp):List Addr:=(List.range h.objs.size).filter fun a=>(H a).isSome
noncomputable def hidT(h:Heap)(H:Hp):Heap:=PySem.W.hideAll h (trk h H)
theorem hidT_size(h:Heap)(H:Hp):(hidT h H).objs.size=h.objs.size:=PySem.W.hideAll_size _ _
theorem hidT_get{h:Heap}{H:Hp}{b:Addr}{o:Obj}(e:h.get? b=some o)(n:H b=none):(hidT h H).get? b=some o :=
 PySem.W.hideAll_get _ e fun hm=>by
  have q:(H b).isSome=true:=(List.mem_filter.mp hm).2;rw[n] at q; simp at q
theorem of_hidT{h:Heap}{H:Hp}{b:Addr}{o:Obj}(e:(hidT h H).get? b=some o):h.get? b=some o/\H b=none:=by
 have e':h.get? b=some o:=PySem.W.of_hideAll (trk h H) e;refine⟨e',?_⟩;cases q:H b with
 | none=>rfl
 | some x =>
  have hm:b∈trk h H:=List.mem_filter.mpr ⟨List.mem_range.mpr (Heap.lt_size e'),by simp[q]⟩
  have z:(hidT h H).get? b=none:=PySem.W.hideAll_none (trk h H) hm;rw[z] at e; cases e
noncomputable def allNews(g h:Heap)(L:Addr):List (Addr×Obj):=(List.range h.objs.size).filterMap fun a=>if a=L\/(g.get? a).isSome=true then none else (h.get? a).map fun o=>(a,o)
noncomputable def rest(g h:Heap)(L d:Addr):List (Addr×Obj):=(allNews g h L).filter fun p=>decide (p.1≠d)
end L2
namespace L2
open PySem PySem.Spec PyProof.Rows
structure Mod(K:PySem.W.Frag)(mg:Str->Option Value)(base:Heap):Prop where
 kin:K.In base
 glob:base.Ns mainGlobals mg
 blt:∃ mb,base.Ns builtinsNs mb/\∀ x:Str,x ≠ "__name__" -> mb x=bootBuiltins x
 nolimit:base.NoLimit
structure Cx where
 prog:Program
 w:World
 K:PySem.W.Frag
 mg:Str->Option Value
 base:Heap
 A:Around
 N:List Str
 s₀:Shared
 H₀:Hp
 env:Env
 outer:List Env
 stack:List Env
 ex:List Addr
 fn:Str->Bool
 calm:Bool
 pn:List (Addr×Obj)
 xe:Value->Shared->Prop
noncomputable def frs(l:List Env):List Addr:=l.filterMap (·.frame)
noncomputable abbrev Cx.fs(X:Cx):List Addr:=frs X.outer
def Vis(sc:Scope)(x:Str):Prop:=sc.names.lookup x=some .local\/sc.names.lookup x=some .cell\/sc.names.lookup x=some .free
def Loc(sc:Scope)(x:Str):Prop:=sc.names.lookup x=some .local\/sc.names.lookup x=some .cell
def Look(env:Env)(h:Heap)(m:Str->Option Value)(x:Str)(u:Value):Prop :=
 (env.kindOf x=some .local/\m x=some u)\/((env.kindOf x=some .cell\/env.kindOf x=some .free)/\∃ c,env.cells.lookup x=some c/\h.IsCell c (some u))
structure Cx.Ok(X:Cx):Prop where
 mod:Mod X.K X.mg X.base
 kind:X.env.scope.kind=.function
 glob:X.env.globals=mainGlobals
 blt:X.env.builtins=builtinsNs
 above:X.s₀.heap.objs.size<=X.env.locals
 inj:∀ x y c,X.env.cells.lookup x=some c->X.env.cells.lookup y=some c->x=y
 has:∀ x,(X.env.kindOf x=some .cell\/X.env.kindOf x=some .free)->∃ c,X.env.cells.lookup x=some c
 cab:∀ x c,X.fn x=true->X.env.cells.lookup x=some c->X.s₀.heap.objs.size<=c
 hd:X.calm=true->X.A.handled=none
 frames:X.A.frames=some X.stack
 stk:X.stack=X.outer\/(X.stack=X.env :: X.outer/\X.env.frame=some X.env.locals)
 exf:∀ b∈X.ex,b≠X.env.locals/\∀ x c,X.env.cells.lookup x=some c->c≠b
 bs:∀ b o,X.base.get? b=some o->X.s₀.heap.get? b=some o/\X.H₀ b=none
 bsz:X.base.objs.size<=X.s₀.heap.objs.size
 noex:∀ b o,X.base.get? b=some o->b ∉ X.ex
 exfs:∀ b∈X.ex,b ∉ X.fs
 funs:X.s₀.heap.FunFrames X.base X.outer
 frf:∀ b∈X.fs,X.H₀ b=none
structure Inv(X:Cx)(pins:List (Addr×Obj))(σ:List (Option V))(H:Hp)(s:Shared):Prop where
 ok:X.Ok
 os:s.os=X.s₀.os
 bare:AllBare s.gens
 base:Un X.fs X.ex X.H₀ H X.s₀.heap s.heap
 loc:∃ m,s.heap.Ns X.env.locals m/\∀ (i:Nat) (x:Str) (v:V),X.N[i]?=some x->σ[i]?=some (some v)->Vis X.env.scope x->∃ u,RelV v u/\Look X.env s.heap m x u
 cell:∀ x c,X.env.cells.lookup x=some c->∃ v,s.heap.IsCell c v
 free:H X.env.locals=none
 freeC:∀ x c,X.env.cells.lookup x=some c->H c=none
 pin:∀ p∈X.pn++pins,s.heap.get? p.1=some p.2/\H p.1=none/\p.1≠X.env.locals/\p.1 ∉ X.fs/\∀ v,p.2.data≠.cell v
 hok:HOk X.prog X.w H s.heap
 len:σ.length=X.N.length
section
variable{X:Cx}{pins:List (Addr×Obj)}{σ:List (Option V)}{H H':Hp}{s:Shared}{h':Heap}
theorem Cx.Ok.nofr(ok:X.Ok){b:Addr}{o:Obj}(e:X.base.get? b=some o):b ∉ X.fs:=fun hb=>by
 have:=(ok.funs.mem hb).1;rw[e] at this; cases this
theorem Inv.bs(I:Inv X pins σ H s):∀ b o,X.base.get? b=some o->s.heap.get? b=some o/\H b=none:=fun b o e =>
 ⟨I.base.keep b o (I.ok.bs b o e).1 (I.ok.bs b o e).2 (I.ok.nofr e) (I.ok.noex b o e),I.base.free b o (I.ok.bs b o e).1 (I.ok.bs b o e).2 (I.ok.noex b o e)⟩
theorem Inv.bk(I:Inv X pins σ H s):∀ b o,X.base.get? b=some o->s.heap.get? b=some o:=fun b o e=>(I.bs b o e).1
theorem Inv.mod(I:Inv X pins σ H s):Mod X.K X.mg X.base:=I.ok.mod
theorem Inv.kIn(I:Inv X pins σ H s):X.K.In s.heap:=I.ok.mod.kin.keeps I.bk
theorem Inv.nolimit(I:Inv X pins σ H s):s.heap.NoLimit:=I.ok.mod.nolimit.keeps I.bk
theorem Inv.lt(I:Inv X pins σ H s):X.env.locals < s.heap.objs.size:=let ⟨_,hn,_⟩:=I.loc; hn.lt
theorem Inv.sz(I:Inv X pins σ H s):X.s₀.heap.objs.size<=s.heap.objs.size:=Nat.le_trans I.ok.above (Nat.le_of_lt I.lt)
theorem Inv.nofs(I:Inv X pins σ H s){a:Addr}(h:s.heap.objs.size<=a):a ∉ X.fs:=fun hb=>by
 obtain⟨_,o,ho,_⟩:=I.ok.funs.mem hb;exact absurd (Nat.lt_of_lt_of_le (Heap.lt_size ho) (Nat.le_trans I.sz h)) (Nat.lt_irrefl _)
theorem Inv.cne(I:Inv X pins σ H s):∀ x c,X.env.cells.lookup x=some c->c≠X.env.locals:=fun x c e z=>by
 obtain⟨v,o,ho,hd⟩:=I.cell x c e;obtain⟨m,⟨o',es,ep,ho',hd',_⟩,_⟩:=I.loc;rw[z,ho'] at ho; cases ho; rw[hd'] at hd; cases hd
theorem Inv.funs(I:Inv X pins σ H s):s.heap.FunFrames X.base X.outer:=by
 have all:∀ (l:List Env),(∀ b∈frs l,b∈X.fs)->X.s₀.heap.FunFrames X.base l->s.heap.FunFrames X.base l:=by
  intro l
  induction l with
  | nil=>intro _ _; trivial
  | cons env r ih =>
   intro hs hl;obtain⟨hk,⟨L,o,hf,hn,ho,hd⟩,hr⟩:=hl;have hL:L∈X.fs:=hs L (by unfold frs; rw[List.filterMap_cons,hf]; exact List.mem_cons_self)
   obtain⟨sl,e⟩:=I.base.slot L o ho (I.ok.frf L hL) hL fun z=>I.ok.exfs L z hL
   exact⟨hk,⟨L,_,hf,hn,e,hd⟩,ih (fun b hb=>hs b (by unfold frs; rw[List.filterMap_cons,hf]; exact List.mem_cons_of_mem _ hb)) hr⟩
 exact all X.outer (fun _ hb=>hb) I.ok.funs
theorem Inv.stack(I:Inv X pins σ H s):s.heap.FunFrames X.base X.stack:=by
 rcases I.ok.stk with e | ⟨e,hf⟩
 ·rw[e]; exact I.funs
 ·rw[e]
  obtain⟨m,hn,_⟩:=I.loc;refine .cons (by rw[I.ok.kind]; decide) hf hn ?_ I.funs
  exact Heap.get?_none_of_le (Nat.le_trans I.ok.bsz I.ok.above)
theorem Inv.stkSub(I:Inv X pins σ H s):∀ b∈frs X.stack,b∈X.env.locals :: X.fs:=fun b hb=>by
 rcases I.ok.stk with e | ⟨e,hf⟩
 ·rw[e] at hb; exact List.mem_cons_of_mem _ hb
 ·rw[e] at hb
  unfold frs at hb;rw[List.filterMap_cons,hf] at hb;exact hb
theorem Inv.stkFree(I:Inv X pins σ H s):∀ b∈frs X.stack,H b=none:=fun b hb=>by
 rcases List.mem_cons.mp (I.stkSub b hb) with e | hb
 ·rw[e]; exact I.free
 ·obtain⟨_,o,ho,_⟩:=I.ok.funs.mem hb
  exact I.base.free b o ho (I.ok.frf b hb) fun z=>I.ok.exfs b z hb
theorem Inv.step{g':Array GenState}{t':Nat}{d':Drawn}{ch:List Addr}(I:Inv X pins σ H s)
  (hch:∀ b∈ch,(b∈X.ex\/X.s₀.heap.objs.size<=b)/\b≠X.env.locals/\(∀ x c,X.env.cells.lookup x=some c->c≠b)/\∀ p∈X.pn++pins,p.1≠b)
  (keep:∀ b o,b≠X.env.locals->b ∉ X.fs->b ∉ ch->s.heap.get? b=some o->H b=none->h'.get? b=some o)
  (slot:∀ b o,b≠X.env.locals->b∈X.fs->b ∉ ch->s.heap.get? b=some o->H b=none->∃ sl,h'.get? b=some { o with slots:=sl }) (free:∀ b o,b ∉ ch->s.heap.get? b=some o->H b=none->H' b=none)
  (there:∀ b o,b ∉ ch->s.heap.get? b=some o->∃ o',h'.get? b=some o')
  (tups:∀ b xs,H b=some (.tup xs)->H' b=some (.tup xs)) (frzs:∀ b o u,H b=some (.frz o u)->H' b=some (.frz o u)) (tbls:∀ b ps,H b=some (.tbl ps)->∃ more,H' b=some (.tbl (ps++more)))
  (ns:∀ m,s.heap.Ns X.env.locals m->h'.Ns X.env.locals m) (hok:HOk X.prog X.w H' h') (hg:AllBare g') :
  Inv X pins σ H' { s with heap:=h',gens:=g',drawn:=d',toks:=t' }:=by
 have neL:∀ b o,X.s₀.heap.get? b=some o->b≠X.env.locals:=fun b o e=>Nat.ne_of_lt (Nat.lt_of_lt_of_le (Heap.lt_size e) I.ok.above)
 have neC:∀ b o,X.s₀.heap.get? b=some o->b ∉ X.ex->b ∉ ch:=fun b o e hx hb=>by
  rcases (hch b hb).1 with z | z
  ·exact hx z
  ·exact absurd (Nat.lt_of_lt_of_le (Heap.lt_size e) z) (Nat.lt_irrefl _)
 have cellK:∀ x c,X.env.cells.lookup x=some c->∀ v,s.heap.IsCell c v->h'.IsCell c v:=fun x c e v ⟨o,ho,hd⟩=>by
  have nch:c ∉ ch:=fun z=>(hch c z).2.2.1 x c e rfl
  by_cases hc:c∈X.fs
  ·obtain⟨sl,q⟩:=slot c o (I.cne x c e) hc nch ho (I.freeC x c e)
   exact⟨_,q,hd⟩
  ·exact⟨o,keep c o (I.cne x c e) hc nch ho (I.freeC x c e),hd⟩
 refine⟨I.ok,I.os,hg,⟨fun b o e n hb hx=>?_,fun b o e n hb hx=>?_,fun b o e n hx=>?_,fun b o e hx=>?_,fun b xs e=>tups b xs (I.base.tups b xs e),fun b o xs e=>frzs b o xs (I.base.frzs b o xs e),fun b ps e=>?_⟩,?_,fun x c e=>?_,?_,fun x c e=>?_,fun p hp=>?_,hok,I.len⟩
 ·exact keep b o (neL b o e) hb (neC b o e hx) (I.base.keep b o e n hb hx) (I.base.free b o e n hx)
 ·obtain⟨sl,e1⟩:=I.base.slot b o e n hb hx
  obtain⟨sl',e2⟩:=slot b _ (neL b o e) hb (neC b o e hx) e1 (I.base.free b o e n hx);exact⟨sl',e2⟩
 ·obtain⟨o',e1⟩:=I.base.there b o e hx
  exact free b o' (neC b o e hx) e1 (I.base.free b o e n hx)
 ·obtain⟨o',e1⟩:=I.base.there b o e hx
  exact there b o' (neC b o e hx) e1
 ·obtain⟨m1,e1⟩:=I.base.tbls b ps e
  obtain⟨m2,e2⟩:=tbls b _ e1;exact⟨m1++m2,by rw[e2,Array.append_assoc]⟩
 ·obtain⟨m,hn,hl⟩:=I.loc
  refine⟨m,ns m hn,fun i x v e1 e2 e3=>?_⟩
  obtain⟨u,r,l⟩:=hl i x v e1 e2 e3;refine⟨u,r,?_⟩;rcases l with l | ⟨k,c,e,z⟩
  ·exact .inl l
  ·exact .inr ⟨k,c,e,cellK x c e _ z⟩
 ·obtain⟨v,z⟩:=I.cell x c e
  exact⟨v,cellK x c e v z⟩
 ·obtain⟨m,⟨o,_,_,ho,_⟩,_⟩:=I.loc
  exact free _ o (fun z=>(hch _ z).2.1 rfl) ho I.free
 ·obtain⟨v,o,ho,hd⟩:=I.cell x c e
  exact free c o (fun z=>(hch c z).2.2.1 x c e rfl) ho (I.freeC x c e)
 ·obtain⟨e,n,ne,nf,d⟩:=I.pin p hp
  have nch:p.1 ∉ ch:=fun z=>(hch p.1 z).2.2.2 p hp rfl
  exact⟨keep p.1 p.2 ne nf nch e n,free p.1 p.2 nch e n,ne,nf,d⟩
theorem Inv.un{t':Nat}(I:Inv X pins σ H s)(u:Un X.fs [] H H' s.heap h')(hok:HOk X.prog X.w H' h'):Inv X pins σ H' { s with heap:=h',toks:=t' }:=by
 obtain⟨m,⟨o,es,ep,ho,r⟩,_⟩:=id I.loc;obtain⟨sl,hL⟩:=u.any ho I.free (by simp)
 exact I.step (g':=s.gens) (d':=s.drawn) (ch:=[]) (fun _ z=>nomatch z) (fun b o _ hb _ e n=>u.keep b o e n hb (by simp)) (fun b o _ hb _ e n=>u.slot b o e n hb (by simp)) (fun b o _ e n=>u.free b o e n (by simp)) (fun b o _ e=>u.there b o e (by simp)) u.tups u.frzs u.tbls (fun m' hm=>by
  obtain⟨o',es',ep',ho',r'⟩:=hm;rw[ho] at ho'; cases ho';exact⟨_,es',ep',hL,r'⟩) hok I.bare
theorem Inv.call{g':Array GenState}{t':Nat}{d':Drawn}{ch:List Addr}(I:Inv X pins σ H s)(u:Un (frs X.stack) ch H H' s.heap h')(hok:HOk X.prog X.w H' h')(hg:AllBare g')
  (hch:∀ b∈ch,(b∈X.ex\/X.s₀.heap.objs.size<=b)/\b≠X.env.locals/\(∀ x c,X.env.cells.lookup x=some c->c≠b)/\∀ p∈X.pn++pins,p.1≠b) :
  Inv X pins σ H' { s with heap:=h',gens:=g',drawn:=d',toks:=t' }:=by
 obtain⟨m,⟨o,es,ep,ho,r⟩,_⟩:=id I.loc;obtain⟨sl,hL⟩:=u.any ho I.free fun z=>(hch _ z).2.1 rfl
 exact I.step (ch:=ch) hch (fun b o hL hb hc e n=>u.keep b o e n (fun z=>(List.mem_cons.mp (I.stkSub b z)).elim hL hb) hc) (fun b o _ _ hc e n=>u.any e n hc) (fun b o hc e n=>u.free b o e n hc) (fun b o hc e=>u.there b o e hc) u.tups u.frzs u.tbls (fun m' hm=>by
  obtain⟨o',es',ep',ho',r'⟩:=hm;rw[ho] at ho'; cases ho';exact⟨_,es',ep',hL,r'⟩) hok hg
theorem Inv.turned{t':Nat}{it:Addr}(I:Inv X pins σ H s)(k:∀ b o,b≠it->s.heap.get? b=some o->h'.get? b=some o)(hn:H it=none)(hL:it≠X.env.locals)
  (h1:it∈X.ex\/X.s₀.heap.objs.size<=it) (h2:∀ x c,X.env.cells.lookup x=some c->c≠it) (h3:∀ p∈X.pn++pins,p.1≠it):Inv X pins σ H { s with heap:=h',toks:=t' }:=by
 have nit:∀ b u,H b=some u->b≠it:=fun b u e z=>by rw[z,hn] at e; cases e
 refine I.step (g':=s.gens) (d':=s.drawn) (ch:=[it]) (fun b hb=>?_) (fun b o _ _ hc e _=>k b o (fun z=>hc (by simp[z])) e) (fun b o _ _ hc e _=>⟨o.slots,k b o (fun z=>hc (by simp[z])) e⟩) (fun _ _ _ _ n=>n)
  (fun b o hc e=>⟨o,k b o (fun z=>hc (by simp[z])) e⟩) (fun _ _ e=>e) (fun _ _ _ e=>e) (fun b ps e=>⟨#[],by rw[e]; simp⟩) (fun m hm=>?_) (fun b u e=>?_) I.bare
 ·have e:b=it:=by simpa using hb
  subst e;exact⟨h1,hL,h2,h3⟩
 ·obtain⟨o,es,ep,ho,r⟩:=hm
  exact⟨o,es,ep,k _ o (Ne.symm hL) ho,r⟩
 ·refine(I.hok b u e).stay (fun c v hc q=>k c v ?_ q) (fun _ q=>q) fun _ _ q=>q
  rcases hc with z | z
  ·rw[z]; exact nit b u e
  ·exact nit c _ z
theorem Inv.tok(I:Inv X pins σ H s)(t:Nat):Inv X pins σ H { s with toks:=t }:=I.un (h':=s.heap) (t':=t) Un.refl I.hok
theorem Inv.kept{t':Nat}(I:Inv X pins σ H s)(k:∀ b u,s.heap.get? b=some u->h'.get? b=some u):Inv X pins σ H { s with heap:=h',toks:=t' }:=I.un (Un.kept k) (I.hok.kept k)
theorem Inv.laid{a:Addr}{o:HO}{t':Nat}(I:Inv X pins σ H s)(k:∀ b u,s.heap.get? b=some u->h'.get? b=some u)(hp:s.heap.objs.size<=a)(new:ObjOk X.prog X.w (upd H a o) h' a o) :
  Inv X pins σ (upd H a o) { s with heap:=h',toks:=t' }:=I.un (Un.laid k hp (I.hok.fresh hp)) (I.hok.laid k hp new)
theorem Inv.write{x e:Addr}{o:HO}{t':Nat}(I:Inv X pins σ H s)(mu:Mut (H x))(he:e=x\/H e=some (.own x))(k:∀ b u,b≠e->s.heap.get? b=some u->h'.get? b=some u)(heo:∃ u,h'.get? e=some u)
  (new:ObjOk X.prog X.w (upd H x o) h' x o):Inv X pins σ (upd H x o) { s with heap:=h',toks:=t' }:=I.un (Un.write mu he k heo) (I.hok.write mu he k heo new)
theorem Inv.weak{σ':List (Option V)}(I:Inv X pins σ H s)(hl:σ'.length=σ.length)(w:∀ (i:Nat) v,σ'[i]?=some (some v)->σ[i]?=some (some v)):Inv X pins σ' H s :=
 ⟨I.ok,I.os,I.bare,I.base,let ⟨m,hn,hl'⟩:=I.loc; ⟨m,hn,fun i x v e1 e2 e3=>hl' i x v e1 (w i v e2) e3⟩,I.cell,I.free,I.freeC,I.pin,I.hok,hl.trans I.len⟩
theorem Inv.pins_of{pins':List (Addr×Obj)}(I:Inv X pins σ H s)(h:∀ p∈pins',s.heap.get? p.1=some p.2/\H p.1=none/\p.1≠X.env.locals/\p.1 ∉ X.fs/\∀ v,p.2.data≠.cell v):Inv X pins' σ H s :=
 ⟨I.ok,I.os,I.bare,I.base,I.loc,I.cell,I.free,I.freeC,fun p hp=>(List.mem_append.mp hp).elim (fun z=>I.pin p (List.mem_append_left _ z)) (h p),I.hok,I.len⟩
theorem nodup_ix{N:List Str}(hN:N.Nodup){i j:Nat}{x:Str}(a:N[i]?=some x)(b:N[j]?=some x):i=j:=by
 obtain⟨h1,e1⟩:=List.getElem?_eq_some_iff.mp a;obtain⟨h2,e2⟩:=List.getElem?_eq_some_iff.mp b;exact(List.getElem_inj hN).mp (e1.trans e2.symm)
theorem store_ok2{M:Model}{A:Around}{E:Value->Shared->Prop}{i:Nat}{x:Str}{v:V}{u:Value}{Q:Unit->Shared->Prop}(I:Inv X pins σ H s)(hN:X.N.Nodup)(hi:X.N[i]?=some x)(hx:Loc X.env.scope x)(r:RelV v u)
  (h:∀ s',Inv X pins (σ.set i (some v)) H s'->(∃ a,Heap.SameBut a s.heap s'.heap/\(a=X.env.locals\/X.env.cells.lookup x=some a))->Q () s') (hf:X.fn x=true\/X.env.scope.names.lookup x=some .local:=by first | exact .inl rfl | exact .inr rfl | assumption):wpAny M A (storeName X.env x u) Q E s:=by
 obtain⟨m,hn,hl⟩:=id I.loc;have hcls:(X.env.scope.kind == .class || (X.env.scope.kind == .module && X.env.locals != X.env.globals))=false:=by rw[I.ok.kind]; rfl
 have hiσ:i < σ.length:=by rw[I.len]; exact(List.getElem?_eq_some_iff.mp hi).1
 have cne:=I.cne;have tracked:∀ {a:Addr} {h':Heap},(∃ o,s.heap.get? a=some o/\H a=none)->Heap.SameBut a s.heap h'->HOk X.prog X.w H h':=fun {a h'} ha hs b ob e=>by
  obtain⟨_,_,hfree⟩:=ha;refine(I.hok b ob e).stay (fun c w' hc q=>(hs.2 c ?_).trans q) (fun _ q=>q) fun _ _ q=>q
  rintro rfl
  rcases hc with rfl | hc
  ·rw[hfree] at e; cases e
  ·rw[hfree] at hc; cases hc
 rcases hx with hk | hk
 ·refine wpAny_storeName_local hk hn (fun h' hn' hs=>?_) hcls
  obtain⟨oL,_,_,hoL,_⟩:=id hn;refine h _ ⟨I.ok,I.os,I.bare,⟨fun b o e n hb hx=>?_,fun b o e n hb hx=>?_,I.base.free,fun b o e hx=>?_,I.base.tups,I.base.frzs,I.base.tbls⟩,⟨_,hn',fun j y v' e1 e2 e3=>?_⟩,fun y c e=>?_,I.free,I.freeC,fun p hp=>?_,tracked ⟨oL,hoL,I.free⟩ hs,by simpa using I.len⟩ ⟨_,hs,.inl rfl⟩
  ·exact(hs.2 b (Nat.ne_of_lt (Nat.lt_of_lt_of_le (Heap.lt_size e) I.ok.above))).trans (I.base.keep b o e n hb hx)
  ·obtain⟨sl,e1⟩:=I.base.slot b o e n hb hx
   exact⟨sl,(hs.2 b (Nat.ne_of_lt (Nat.lt_of_lt_of_le (Heap.lt_size e) I.ok.above))).trans e1⟩
  ·obtain⟨o',e1⟩:=I.base.there b o e hx
   exact⟨o',(hs.2 b (Nat.ne_of_lt (Nat.lt_of_lt_of_le (Heap.lt_size e) I.ok.above))).trans e1⟩
  ·by_cases hj:j=i
   ·subst hj
    rw[hi] at e1; cases e1;rw[List.getElem?_set_self hiσ] at e2;cases e2;exact⟨u,r,.inl ⟨hk,by simp⟩⟩
   ·rw[List.getElem?_set_ne (Ne.symm hj)] at e2
    obtain⟨u',r',q⟩:=hl j y v' e1 e2 e3;refine⟨u',r',?_⟩;rcases q with⟨k,e⟩ | ⟨k,c,e,z⟩
    ·refine .inl ⟨k,?_⟩
     have:y≠x:=fun e=>hj (nodup_ix hN e1 (e ▸ hi))
     simp[this,e]
    ·exact .inr ⟨k,c,e,z.sameBut hs (cne y c e)⟩
  ·obtain⟨w',z⟩:=I.cell y c e
   exact⟨w',z.sameBut hs (cne y c e)⟩
  ·obtain⟨e,n,ne,nf,d⟩:=I.pin p hp
   exact⟨(hs.2 p.1 ne).trans e,n,ne,nf,d⟩
 ·have hfn:X.fn x=true:=by
   rcases hf with z | z
   ·exact z
   ·rw[z] at hk; cases hk
  obtain⟨c,hc⟩:=I.ok.has x (.inl hk);obtain⟨w',z⟩:=I.cell x c hc;refine wpAny_storeName_cell I.ok.kind hk hc z (fun h' hc' hs=>?_)
  obtain⟨oc,hoc,hocd⟩:=id z;refine h { s with heap:=h' } ⟨I.ok,I.os,I.bare,⟨fun b o e n hb hx=>?_,fun b o e n hb hx=>?_,I.base.free,fun b o e hx=>?_,I.base.tups,I.base.frzs,I.base.tbls⟩,⟨m,hn.sameBut hs (Ne.symm (cne x c hc)),fun j y v' e1 e2 e3=>?_⟩,fun y c' e=>?_,I.free,I.freeC,fun p hp=>?_,tracked ⟨oc,hoc,I.freeC x c hc⟩ hs,by simpa using I.len⟩ ⟨c,hs,.inr hc⟩
  ·exact(hs.2 b (Nat.ne_of_lt (Nat.lt_of_lt_of_le (Heap.lt_size e) (I.ok.cab x c hfn hc)))).trans (I.base.keep b o e n hb hx)
  ·obtain⟨sl,e1⟩:=I.base.slot b o e n hb hx
   exact⟨sl,(hs.2 b (Nat.ne_of_lt (Nat.lt_of_lt_of_le (Heap.lt_size e) (I.ok.cab x c hfn hc)))).trans e1⟩
  ·obtain⟨o',e1⟩:=I.base.there b o e hx
   exact⟨o',(hs.2 b (Nat.ne_of_lt (Nat.lt_of_lt_of_le (Heap.lt_size e) (I.ok.cab x c hfn hc)))).trans e1⟩
  ·by_cases hj:j=i
   ·subst hj
    rw[hi] at e1; cases e1;rw[List.getElem?_set_self hiσ] at e2;cases e2;exact⟨u,r,.inr ⟨.inl hk,c,hc,hc'⟩⟩
   ·rw[List.getElem?_set_ne (Ne.symm hj)] at e2
    obtain⟨u',r',q⟩:=hl j y v' e1 e2 e3;refine⟨u',r',?_⟩;rcases q with q | ⟨k,c',e,z'⟩
    ·exact .inl q
    ·refine .inr ⟨k,c',e,z'.sameBut hs ?_⟩
     rintro rfl
     exact hj (nodup_ix hN e1 (I.ok.inj _ _ _ e hc ▸ hi))
  ·by_cases hcc:c'=c
   ·subst hcc; exact⟨_,hc'⟩
   ·obtain⟨w2,z2⟩:=I.cell y c' e
    exact⟨w2,z2.sameBut hs hcc⟩
  ·obtain⟨e,n,ne,nf,d⟩:=I.pin p hp
   refine⟨(hs.2 p.1 ?_).trans e,n,ne,nf,d⟩;intro q;rw[q,hoc] at e;have q':oc=p.2:=Option.some.inj e;exact d w' (by rw[<- q']; exact hocd)
theorem store_ok{M:Model}{A:Around}{E:Value->Shared->Prop}{i:Nat}{x:Str}{v:V}{u:Value}{Q:Unit->Shared->Prop}(I:Inv X pins σ H s)(hN:X.N.Nodup)(hi:X.N[i]?=some x)(hx:Loc X.env.scope x)(r:RelV v u)
  (h:∀ s',Inv X pins (σ.set i (some v)) H s'->Q () s') (hf:X.fn x=true\/X.env.scope.names.lookup x=some .local:=by first | exact .inl rfl | exact .inr rfl | assumption):wpAny M A (storeName X.env x u) Q E s :=
 store_ok2 I hN hi hx r (fun s' I' _=>h s' I') hf
theorem Inv.call'{s':Shared}{ch:List Addr}(I:Inv X pins σ H s)(ho:s'.os=s.os)(u:Un (frs X.stack) ch H H' s.heap s'.heap)(hok:HOk X.prog X.w H' s'.heap)(hg:AllBare s'.gens)
  (hch:∀ b∈ch,(b∈X.ex\/X.s₀.heap.objs.size<=b)/\b≠X.env.locals/\(∀ x c,X.env.cells.lookup x=some c->c≠b)/\∀ p∈X.pn++pins,p.1≠b):Inv X pins σ H' s':=by
 obtain⟨h',g',d',t',o'⟩:=s';have e:o'=s.os:=ho;subst e;exact I.call (g':=g') (t':=t') (d':=d') u hok hg hch
end
abbrev XK:=Value->Option Addr->Hp->Prop
noncomputable abbrev St:=List (Option V)
abbrev VK:=V->Hp->Prop
abbrev TE:=St->Hp->VK->Prop
structure Ends where
 nx:St->Hp->Prop
 rt:VK
 bk:St->Hp->Prop:=fun _ _=>False
 ct:St->Hp->Prop:=fun _ _=>False
def EP(X:Cx)(pins:List (Addr×Obj))(σ:St)(Q:VK)(u:Value)(s':Shared):Prop:=∃ v H',Inv X pins σ H' s'/\RelV v u/\Q v H'
def TP(X:Cx)(pins:List (Addr×Obj))(σ:St)(Q:Bool->Hp->Prop)(b:Bool)(s':Shared):Prop:=∃ H',Inv X pins σ H' s'/\Q b H'
def SP(X:Cx)(pins:List (Addr×Obj))(D:Ends)(f:Flow)(s':Shared):Prop :=
 match f with
 | .next=>∃ σ' H',Inv X pins σ' H' s'/\D.nx σ' H'
 | .brk=>∃ σ' H',Inv X pins σ' H' s'/\D.bk σ' H'
 | .cont=>∃ σ' H',Inv X pins σ' H' s'/\D.ct σ' H'
 | .ret u=>∃ v σ' H',Inv X pins σ' H' s'/\RelV v u/\D.rt v H'
def PE(X:Cx)(e:Expr)(t:TE):Prop :=
 ∀ (pins:List (Addr×Obj)) (s:Shared) (σ:St) (H:Hp) (Q:VK),Inv X pins σ H s->t σ H Q->wpAny (model X.prog X.w) X.A (eval e X.env) (EP X pins σ Q) X.xe s
theorem thn{α:Type}{t:Sem α}{Q Q':α->Shared->Prop}{M:Model}{A:Around}{E:Value->Shared->Prop}{s:Shared}(h:wpAny M A t Q E s)(hQ:∀ a s,Q a s->Q' a s):wpAny M A t Q' E s:=wpAny_mono h hQ fun _ _ x=>x
end L2
namespace L2
open PySem PySem.Spec PyProof.Rows
section
variable{X:Cx}
theorem bin{a b:Expr}{ta tb:TE}(ha:PE X a ta)(hb:PE X b tb){pins:List (Addr×Obj)}{s:Shared}{σ:St}{H:Hp}{R:V->V->Hp->Prop}(I:Inv X pins σ H s)(h:ta σ H fun x H1=>tb σ H1 fun y H2=>R x y H2)
  {α:Type} {Q:α->Shared->Prop} {f:Value->Value->Sem α}
  (hf:∀ v u s2 x y H2,Inv X pins σ H2 s2->RelV x v->RelV y u->R x y H2->wpAny (model X.prog X.w) X.A (f v u) Q X.xe s2) :
  wpAny (model X.prog X.w) X.A (eval a X.env) (fun v s₁=>wpAny (model X.prog X.w) X.A (eval b X.env) (fun u s₂=>wpAny (model X.prog X.w) X.A (f v u) Q X.xe s₂) X.xe s₁) X.xe s:=by
 refine thn (ha pins s σ H _ I h) fun v s1 ⟨x,H1,I1,r1,q1⟩=>?_
 refine thn (hb pins s1 σ H1 _ I1 q1) fun u s2 ⟨y,H2,I2,r2,q2⟩=>?_
 exact hf v u s2 x y H2 I2 r1 r2 q2
noncomputable def tVar(i:Nat):TE:=fun σ H Q=>∃ v,σ[i]?=some (some v)/\Q v H
noncomputable def tC(v:V):TE:=fun _ H Q=>Q v H
theorem pe_var {i:Nat} {x:Str} {pos:Pos} (hN:X.N[i]?=some x) (hv:Vis X.env.scope x) (hd:(x == ("__debug__" : Str))=false:=by decide) (hcd:(x == ("__classdict__" : Str))=false:=by decide):PE X (.Name x pos) (tVar i):=by
 intro pins s σ H Q I h;obtain⟨v,e,h⟩:=h;obtain⟨m,hn,hl⟩:=I.loc;obtain⟨u,r,l⟩:=hl i x v hN e hv;have fin:EP X pins σ Q u s:=⟨v,H,I,r,h⟩;rcases l with⟨hk,hm⟩ | ⟨hk,c,hc,hcell⟩
 ·exact wpAny_Name (wpAny_loadName_local I.ok.kind hk hn hm fin) hd
 ·rcases hk with hk | hk
  ·exact wpAny_Name (wpAny_loadName_cell I.ok.kind hk hc hcell fin) hd
  ·exact wpAny_Name (wpAny_loadName_free I.ok.kind hk hc hcell fin hcd) hd
theorem pe_int{i j pos}:PE X (.Constant (.int i) j pos) (tC (.int i)):=fun _ _ _ H _ I h=>wpAny_Constant_int ⟨.int i,H,I.tok _,⟨_,rfl⟩,h⟩
theorem pe_bl{b j pos}:PE X (.Constant (.bool b) j pos) (tC (.bl b)):=fun _ _ _ H _ I h=>Constant_bool ⟨.bl b,H,I,rfl,h⟩
theorem pe_non{j pos}:PE X (.Constant .none j pos) (tC .non):=fun _ _ _ H _ I h=>Constant_none ⟨.non,H,I,rfl,h⟩
theorem pe_str{x j pos}:PE X (.Constant (.str x) j pos) (tC (.str x)):=fun _ _ _ H _ I h=>Calls.Constant_str ⟨.str x,H,I.tok _,⟨_,rfl⟩,h⟩
def Gl(X:Cx)(x:Str):Prop:=X.env.kindOf x=some .globalImplicit
theorem ld_glob{E:Value->Shared->Prop}{pins:List (Addr×Obj)}{s:Shared}{σ:St}{H:Hp}{x:Str}{u:Value}{pos:Pos}{Q:Value->Shared->Prop}(I:Inv X pins σ H s)(hg:Gl X x)(hm:X.mg x=some u)(h:Q u s)
  (hd:(x == ("__debug__" : Str))=false:=by decide):wpAny (model X.prog X.w) X.A (eval (.Name x pos) X.env) Q E s :=
 Calls.Name_function_global I.ok.kind hg (Calls.loadGlobal_global (by rw[I.ok.glob]; exact I.mod.glob.keeps I.bk) hm h) hd
theorem ld_blt{E:Value->Shared->Prop}{pins:List (Addr×Obj)}{s:Shared}{σ:St}{H:Hp}{x:Str}{u:Value}{pos:Pos}{Q:Value->Shared->Prop}(I:Inv X pins σ H s)(hg:Gl X x)(hm:X.mg x=none)(hv:bootBuiltins x=some u)(h:Q u s)
  (hn:x ≠ "__name__" := by decide) (hd:(x == ("__debug__" : Str))=false:=by decide):wpAny (model X.prog X.w) X.A (eval (.Name x pos) X.env) Q E s:=by
 obtain⟨mb,h1,h2⟩:=I.mod.blt;exact Calls.Name_function_global I.ok.kind hg (Calls.loadGlobal_builtin (by rw[I.ok.glob]; exact I.mod.glob.keeps I.bk) hm (by rw[I.ok.blt]; exact h1.keeps I.bk) ((h2 x hn).trans hv) h) hd
variable{a b:Expr}{ta tb:TE}{pos:Pos}
variable{tA tB':TT}{rest:List Expr}
end
end L2
namespace L2
open PySem PySem.Spec PyProof.Rows
def SqL(K:PySem.W.Frag)(H:Hp)(a:Addr)(xs:List V):Prop :=
 Rd H a (.lst xs) \/
  ∃ (o:Obj) (its:Array Value) (n:Nat),K.lookup a=some o/\o.cls=.type "list" /\ o.dict=none/\o.data=.seq its n/\its.size<=sizeLine/\Vals xs its.toList
def SqT(K:PySem.W.Frag)(H:Hp)(a:Addr)(xs:List V):Prop :=
 Rd H a (.tup xs) \/
  ∃ (o:Obj) (its:Array Value) (n:Nat),K.lookup a=some o/\o.cls=.type "tuple" /\ o.data=.seq its n/\its.size<=sizeLine/\Vals xs its.toList
noncomputable def absV:Value->Option V
 | .none=>some .non
 | .bool b=>some (.bl b)
 | .int i _=>some (.int i)
 | .str x _=>some (.str x)
 | .bytes b _=>some (.byt b)
 | .float b _=>some (.flt b)
 | .ref a=>some (.ref a)
 | .type n=>some (.ty n)
 | _=>none
theorem RelV.abs{x:V}{u:Value}(r:RelV x u):absV u=some x:=by
 cases x with
 | non=>cases r; rfl
 | bl _=>cases r; rfl
 | int _=>obtain⟨t,rfl⟩:=r; rfl
 | str _=>obtain⟨t,rfl⟩:=r; rfl
 | byt _=>obtain⟨t,rfl⟩:=r; rfl
 | flt _=>obtain⟨t,rfl⟩:=r; rfl
 | ref _=>cases r; rfl
 | ty _=>cases r; rfl
theorem RelV.inj{x y:V}{u:Value}(r:RelV x u)(q:RelV y u):x=y:=Option.some.inj (r.abs.symm.trans q.abs)
theorem Vals.inj:∀ {xs ys:List V} {us:List Value},Vals xs us->Vals ys us->xs=ys
 | _,_,_,.nil,.nil=>rfl
 | _,_,_,.cons r t,.cons r' t'=>by rw[r.inj r',Vals.inj t t']
section
variable{X:Cx}{pins:List (Addr×Obj)}{σ:St}{H:Hp}{s:Shared}{a:Addr}{xs ys:List V}
theorem SqL.of{K:PySem.W.Frag}(h:H a=some (.lst xs)):SqL K H a xs:=.inl (.inl h)
theorem SqT.of{K:PySem.W.Frag}(h:H a=some (.tup xs)):SqT K H a xs:=.inl (.inl h)
theorem Inv.list(I:Inv X pins σ H s)(h:SqL X.K H a xs):∃ its:List Value,Vals xs its/\PlainL s.heap a its.toArray/\xs.length<=sizeLine:=by
 rcases h with h | ⟨o,its,n,hk,hc,hd,hs,hz,r⟩
 ·obtain⟨z,its,n,r,e⟩:=h.ok I.hok
  exact⟨its,r,⟨_,n,e,rfl,rfl,rfl⟩,z⟩
 ·refine⟨its.toList,r,⟨o,n,I.kIn a o hk,hc,hd,by simpa using hs⟩,?_⟩
  have e:=r.length;simp only[Array.length_toList] at e;omega
theorem Inv.tuple(I:Inv X pins σ H s)(h:SqT X.K H a xs):∃ its:List Value,Vals xs its/\IsTup s.heap a its.toArray/\xs.length<=sizeLine:=by
 rcases h with h | ⟨o,its,n,hk,hc,hs,hz,r⟩
 ·obtain⟨z,its,r,p⟩:=h.ok I.hok
  exact⟨its,r,p,z⟩
 ·refine⟨its.toList,r,⟨o,I.kIn a o hk,hc,n,by simpa using hs⟩,?_⟩
  have e:=r.length;simp only[Array.length_toList] at e;omega
theorem Inv.list_inj(I:Inv X pins σ H s)(h:SqL X.K H a xs)(h':SqL X.K H a ys):xs=ys:=by
 obtain⟨its,r,⟨o,n,e,_,_,d⟩,_⟩:=I.list h;obtain⟨its',r',⟨o',n',e',_,_,d'⟩,_⟩:=I.list h';rw[e] at e'; cases e';rw[d] at d';injection d' with d1 _
 have:its=its':=by simpa using congrArg Array.toList d1
 subst this;exact r.inj r'
theorem Inv.tuple_inj(I:Inv X pins σ H s)(h:SqT X.K H a xs)(h':SqT X.K H a ys):xs=ys:=by
 obtain⟨its,r,⟨o,e,_,n,d⟩,_⟩:=I.tuple h;obtain⟨its',r',⟨o',e',_,n',d'⟩,_⟩:=I.tuple h';rw[e] at e'; cases e';rw[d] at d';injection d' with d1 _
 have:its=its':=by simpa using congrArg Array.toList d1
 subst this;exact r.inj r'
end
noncomputable abbrev Cx.wish(X:Cx)(E:Value->Shared->Prop):Cx:={ X with xe:=E }
theorem Cx.Ok.wish{X:Cx}(ok:X.Ok)(E:Value->Shared->Prop):(X.wish E).Ok :=
 ⟨ok.mod,ok.kind,ok.glob,ok.blt,ok.above,ok.inj,ok.has,ok.cab,ok.hd,ok.frames,ok.stk,ok.exf,ok.bs,ok.bsz,ok.noex,ok.exfs,ok.funs,ok.frf⟩
theorem Cx.Ok.unwish{X:Cx}{E:Value->Shared->Prop}(ok:(X.wish E).Ok):X.Ok :=
 ⟨ok.mod,ok.kind,ok.glob,ok.blt,ok.above,ok.inj,ok.has,ok.cab,ok.hd,ok.frames,ok.stk,ok.exf,ok.bs,ok.bsz,ok.noex,ok.exfs,ok.funs,ok.frf⟩
section
variable{X:Cx}{pins:List (Addr×Obj)}{σ:St}{H:Hp}{s:Shared}{E:Value->Shared->Prop}
theorem Inv.wish(I:Inv X pins σ H s)(E:Value->Shared->Prop):Inv (X.wish E) pins σ H s:=⟨I.ok.wish E,I.os,I.bare,I.base,I.loc,I.cell,I.free,I.freeC,I.pin,I.hok,I.len⟩
theorem Inv.unwish(I:Inv (X.wish E) pins σ H s):Inv X pins σ H s:=⟨I.ok.unwish,I.os,I.bare,I.base,I.loc,I.cell,I.free,I.freeC,I.pin,I.hok,I.len⟩
theorem SP.unwish{D:Ends}{f:Flow}{s':Shared}(h:SP (X.wish E) pins D f s'):SP X pins D f s':=by
 cases f with
 | next=>obtain⟨σ',H',I,q⟩:=h; exact⟨σ',H',I.unwish,q⟩
 | brk=>obtain⟨σ',H',I,q⟩:=h; exact⟨σ',H',I.unwish,q⟩
 | cont=>obtain⟨σ',H',I,q⟩:=h; exact⟨σ',H',I.unwish,q⟩
 | ret u=>obtain⟨v,σ',H',I,r,q⟩:=h; exact⟨v,σ',H',I.unwish,r,q⟩
end
section
variable{X:Cx}{st:Stmt}{rest:List Stmt}{t u:TS}{e:Expr}{te:TE}{pos:Pos}
theorem Inv.quiet{pins:List (Addr×Obj)}{σ:St}{H:Hp}{s:Shared}(I:Inv X pins σ H s):interactive X.env=false:=by simp[interactive,I.ok.kind]
end
abbrev TG:=V->St->Hp->(St->Hp->Prop)->Prop
abbrev TGs:=List V->St->Hp->(St->Hp->Prop)->Prop
def PG(X:Cx)(target:Expr)(t:TG):Prop :=
 ∀ (pins:List (Addr×Obj)) (s:Shared) (σ:St) (H:Hp) (v:V) (u:Value) (Q:St->Hp->Prop),Inv X pins σ H s->RelV v u->t v σ H Q ->
  wpAny (model X.prog X.w) X.A (assign target X.env u) (fun _ s'=>∃ σ' H',Inv X pins σ' H' s'/\Q σ' H') X.xe s
def PGs(X:Cx)(ts:List Expr)(t:TGs):Prop :=
 ∀ (pins:List (Addr×Obj)) (s:Shared) (σ:St) (H:Hp) (vs:List V) (us:List Value) (Q:St->Hp->Prop),Inv X pins σ H s->Vals vs us->t vs σ H Q ->
  wpAny (model X.prog X.w) X.A (assignInOrder ((assignEach ts X.env).map (·.2)) us) (fun _ s'=>∃ σ' H',Inv X pins σ' H' s'/\Q σ' H') X.xe s
abbrev TSet:=V->V->V->Hp->(Hp->Prop)->Prop
def PSet(X:Cx)(t:TSet):Prop :=
 ∀ (pins:List (Addr×Obj)) (s:Shared) (σ:St) (H:Hp) (o i v:V) (ov iv u:Value) (Q:Hp->Prop),Inv X pins σ H s->RelV o ov->RelV i iv->RelV v u->t o i v H Q ->
  wpAny (model X.prog X.w) X.A (setItem ov iv u) (fun _ s'=>∃ H',Inv X pins σ H' s'/\Q H') X.xe s
section
variable{X:Cx}{pos:Pos}
noncomputable def gName(i:Nat):TG:=fun v σ H Q=>Q (σ.set i (some v)) H
theorem pg_name{i:Nat}{x:Str}(hN:X.N.Nodup)(hi:X.N[i]?=some x)(hx:Loc X.env.scope x)(hf:X.fn x=true\/X.env.scope.names.lookup x=some .local:=by first | exact .inl rfl | exact .inr rfl | assumption):PG X (.Name x pos) (gName i):=by
 intro pins s σ H v u Q I r h;exact wpAny_assign_Name (store_ok I hN hi hx r (fun s' I'=>⟨_,H,I',h⟩) hf)
noncomputable def gNil:TGs:=fun vs σ H Q=>vs=[]/\Q σ H
noncomputable def gCons(t:TG)(u:TGs):TGs:=fun vs σ H Q=>∃ v r,vs=v :: r/\t v σ H fun σ' H'=>u r σ' H' Q
theorem pgs_nil:PGs X [] gNil:=by
 intro pins s σ H vs us Q I r h;obtain⟨e,h⟩:=h;subst e;cases r;exact assignInOrder_nil ⟨σ,H,I,h⟩
theorem pgs_cons{e:Expr}{es:List Expr}{t:TG}{u:TGs}(h1:PG X e t)(h2:PGs X es u)
  (hs:(assignEach (e :: es) X.env).map (·.2)=assign e X.env :: (assignEach es X.env).map (·.2):=by rfl):PGs X (e :: es) (gCons t u):=by
 intro pins s σ H vs us Q I r h;obtain⟨v,vr,e1,h⟩:=h;subst e1;cases r with
 | cons r rr =>
  rw[hs];refine assignInOrder_cons (thn (h1 pins s σ H _ _ _ I r h) fun _ s1 ⟨σ1,H1,I1,q1⟩=>?_)
  exact h2 pins s1 σ1 H1 _ _ Q I1 rr q1
noncomputable def gTup(K:PySem.W.Frag)(n:Nat)(t:TGs):TG:=fun v σ H Q=>∃ a xs,v=.ref a/\SqT K H a xs/\xs.length=n/\t xs σ H Q
theorem pg_tup{es:List Expr}{k:Nat}{t:TGs}{n:Nat}(hc:X.calm=true)(h:PGs X es t)
  (hn:(assignEach es X.env).length=n:=by rfl) (hst:(assignEach es X.env).findIdx? (·.1)=none:=by rfl):PG X (.Tuple es k pos) (gTup X.K n t):=by
 intro pins s σ H v u Q I r hw;obtain⟨a,xs,e1,hq,hl,hw⟩:=hw;subst e1;cases r;obtain⟨its,rv,ht,hz⟩:=I.tuple hq;refine assign_Tuple_tuple (I.ok.hd hc) ht (by simp[hn,<- hl,rv.length]) hst fun h' hx=>?_
 have I1:Inv X pins σ H { s with heap:=h' }:=I.kept (t':=s.toks) fun b o e=>hx b o (Nat.ne_of_lt (Heap.lt_size e)) e
 exact h pins _ σ H xs _ Q I1 (by simpa using rv) hw
end
section
variable{X:Cx}{pos:Pos}
end
structure It where
 go:Nat->Hp->Prop
 yld:Nat->Hp->V->Hp->Prop
 stop:Nat->Hp->Prop
def FpOk(X:Cx)(pins:List (Addr×Obj))(H:Hp)(b:Addr):Prop :=
 H b=none/\b≠X.env.locals/\b ∉ X.fs/\(b∈X.ex\/X.s₀.heap.objs.size<=b)/\(∀ x c,X.env.cells.lookup x=some c->c≠b)/\∀ p∈X.pn++pins,p.1≠b
theorem Inv.fpOk{X:Cx}{pins:List (Addr×Obj)}{σ:St}{H H':Hp}{s:Shared}{b:Addr}(I:Inv X pins σ H s)(hb:s.heap.objs.size<=b)(hn:H' b=none):FpOk X pins H' b:=by
 refine⟨hn,Nat.ne_of_gt (Nat.lt_of_lt_of_le I.lt hb),I.nofs hb,.inr (Nat.le_trans I.sz hb),fun x c e z=>?_,fun p hp z=>?_⟩
 ·obtain⟨v,q⟩:=I.cell x c e
  exact absurd (Nat.lt_of_lt_of_le q.lt (by rw[z]; exact hb)) (Nat.lt_irrefl _)
 ·exact absurd (Nat.lt_of_lt_of_le (Heap.lt_size (I.pin p hp).1) (by rw[z]; exact hb)) (Nat.lt_irrefl _)
structure Turn(P:Program)(w:World)(K:PySem.W.Frag)(tg:Expr)(J:It)(fp:List Addr)(it:Addr)(tn:Nat->Heap->Prop):Prop where
 mem:it∈fp
 obj:∀ i h,tn i h->∀ b∈fp,∃ o,h.get? b=some o/\∀ v,o.data≠.cell v
 keep:∀ i h h',tn i h->(∀ b∈fp,∀ o,h.get? b=some o->h'.get? b=some o)->tn i h'
 item:∀ (X:Cx),X.prog=P->X.w=w->X.K=K->X.calm=true->∀ (i:Nat) (pins:List (Addr×Obj)) (s:Shared) (σ:St) (H:Hp) (E:Value->Shared->Prop),Inv X pins σ H s->(∀ b∈fp,FpOk X pins H b)->tn i s.heap->J.go i H ->
  wpAny (model P w) X.A (pyNext (.ref it)) (fun r s1=>∃ u,r=some u /\
   wpAny (model P w) X.A (letOwnedTupleGo tg (.ref it) u) (fun _ s2=>∃ x H',Inv X pins σ H' s2/\RelV x u/\J.yld i H x H'/\tn (i + 1) s2.heap/\∀ b∈fp,H' b=none) E s1) E s
 done:∀ (X:Cx),X.prog=P->X.w=w->X.K=K->X.calm=true->∀ (i:Nat) (pins:List (Addr×Obj)) (s:Shared) (σ:St) (H:Hp) (E:Value->Shared->Prop),Inv X pins σ H s->(∀ b∈fp,FpOk X pins H b)->tn i s.heap->J.stop i H ->
  wpAny (model P w) X.A (pyNext (.ref it)) (fun r s1=>r=none/\Inv X pins σ H s1) E s
 self:∀ (A:Around) (i:Nat) (s:Shared) (Q:Value->Shared->Prop) (E:Value->Shared->Prop),tn i s.heap->Q (.ref it) s->wpAny (model P w) A (pyIter (.ref it)) Q E s
def PIE(X:Cx)(pins:List (Addr×Obj))(σ:St)(tg:Expr)(R:It->Hp->Prop)(itv:Value)(s2:Shared):Prop :=
 ∃ (it:Addr) (fp:List Addr) (tn:Nat->Heap->Prop) (J:It) (H':Hp),itv=.ref it/\Inv X pins σ H' s2/\Turn X.prog X.w X.K tg J fp it tn/\tn 0 s2.heap/\(∀ b∈fp,FpOk X pins H' b)/\R J H'
theorem go_of{M:Model}{A:Around}{E:Value->Shared->Prop}{s:Shared}{tg:Expr}{it:Addr}{u:Value}{o:Obj}{n:String}{vs:Array Value}{Q:Unit->Shared->Prop}(ho:s.heap.get? it=some o)(hc:o.cls=.type n)(hd:o.data=.fields vs)
  (hn:["enumerate","zip","dict_itemiterator","dict_reverseitemiterator","odict_iterator","itertools.zip_longest","itertools.pairwise"].contains n=false) (hQ:Q () s):wpAny M A (letOwnedTupleGo tg (.ref it) u) Q E s:=by
 unfold letOwnedTupleGo;cases tg <;> first
  | exact wpAny_pure hQ
  | (cases u <;> first
    | exact wpAny_pure hQ
    | (refine wpAny_bind (wpAny_load ho ?_)
       rw[hc,hd];show wpAny M A (if (["enumerate","zip","dict_itemiterator","dict_reverseitemiterator","odict_iterator","itertools.zip_longest","itertools.pairwise"].contains n && vs[0]? == some (rawInt _))=true then _ else _) Q E s
       rw[if_neg (by intro h; rw[hn,Bool.false_and] at h; cases h)]
       exact wpAny_pure hQ))
noncomputable def Itl(K:PySem.W.Frag)(a:Addr):It :=
 ⟨fun i H=>∃ xs x,SqL K H a xs/\xs[i]?=some x,fun i H x H'=>H'=H/\∀ xs,SqL K H a xs->xs[i]?=some x,fun i H=>∃ xs,SqL K H a xs/\xs.length<=i⟩
noncomputable def Itt(K:PySem.W.Frag)(a:Addr):It :=
 ⟨fun i H=>∃ xs x,SqT K H a xs/\xs[i]?=some x,fun i H x H'=>H'=H/\∀ xs,SqT K H a xs->xs[i]?=some x,fun i H=>∃ xs,SqT K H a xs/\xs.length<=i⟩
noncomputable def Itr(lo:Int)(n:Nat):It:=⟨fun i _=>i < n,fun i H x H'=>H'=H/\x=.int (lo + i),fun i _=>n<=i⟩
theorem turn_list{P:Program}{w:World}{K:PySem.W.Frag}{tg:Expr}(a it:Addr):Turn P w K tg (Itl K a) [it] it (fun i h=>h.IsListIter it a i) where
 mem:=by simp
 obj:=fun i h st b hb=>by
  have e:b=it:=by simpa using hb
  subst e;obtain⟨o,e,c,d⟩:=st;exact⟨o,e,fun v z=>by rw[d] at z; cases z⟩
 keep:=fun i h h' st k=>st.at fun o e=>k it (by simp) o e
 item:=by
  intro X hP hw hK hc i pins s σ H E I hf st hg;subst hP hw hK;obtain⟨xs,x,hq,hx⟩:=hg;obtain⟨its,rv,p,hz⟩:=I.list hq;obtain⟨u,hu,ru⟩:=rv.get hx;obtain⟨f0,f1,f2,f3,f4,f5⟩:=hf it (by simp)
  refine wpAny_pyNext_list_item st p.isList (x:=u) (by simpa using hu) fun h' st' sb=>?_
  have I1:Inv X pins σ H { s with heap:=h' }:=I.turned (t':=s.toks) (fun b o hb e=>(sb.2 b hb).trans e) f0 f1 f3 f4 f5
  obtain⟨o,e,c,d⟩:=id st';exact⟨u,rfl,go_of (s:={ s with heap:=h' }) e c d (by decide) ⟨x,H,I1,ru,⟨rfl,fun ys hy=>by rw[I.list_inj hy hq]; exact hx⟩,st',fun b hb=>(hf b hb).1⟩⟩
 done:=by
  intro X hP hw hK hc i pins s σ H E I hf st hg;subst hP hw hK;obtain⟨xs,hq,hx⟩:=hg;obtain⟨its,rv,p,hz⟩:=I.list hq;obtain⟨f0,f1,f2,f3,f4,f5⟩:=hf it (by simp)
  have hl:=rv.length;exact wpAny_pyNext_list_end (I.ok.hd hc) st p.isList (by simp; omega) fun h' eb=>⟨rfl,I.turned (t':=s.toks) (fun b o hb e=>eb b o hb e) f0 f1 f3 f4 f5⟩
 self:=fun _ _ _ _ _ st h=>wpAny_pyIter_listiter st h
theorem turn_tuple{P:Program}{w:World}{K:PySem.W.Frag}{tg:Expr}(a it:Addr):Turn P w K tg (Itt K a) [it] it (fun i h=>h.IsTupleIter it a i) where
 mem:=by simp
 obj:=fun i h st b hb=>by
  have e:b=it:=by simpa using hb
  subst e;obtain⟨o,e,c,d⟩:=st;exact⟨o,e,fun v z=>by rw[d] at z; cases z⟩
 keep:=fun i h h' st k=>st.at fun o e=>k it (by simp) o e
 item:=by
  intro X hP hw hK hc i pins s σ H E I hf st hg;subst hP hw hK;obtain⟨xs,x,hq,hx⟩:=hg;obtain⟨its,rv,p,hz⟩:=I.tuple hq;obtain⟨u,hu,ru⟩:=rv.get hx;obtain⟨f0,f1,f2,f3,f4,f5⟩:=hf it (by simp)
  refine wpAny_pyNext_tuple_item st (show s.heap.IsTuple a its.toArray from p) (x:=u) (by simpa using hu) fun h' st' sb=>?_
  have I1:Inv X pins σ H { s with heap:=h' }:=I.turned (t':=s.toks) (fun b o hb e=>(sb.2 b hb).trans e) f0 f1 f3 f4 f5
  obtain⟨o,e,c,d⟩:=id st';exact⟨u,rfl,go_of (s:={ s with heap:=h' }) e c d (by decide) ⟨x,H,I1,ru,⟨rfl,fun ys hy=>by rw[I.tuple_inj hy hq]; exact hx⟩,st',fun b hb=>(hf b hb).1⟩⟩
 done:=by
  intro X hP hw hK hc i pins s σ H E I hf st hg;subst hP hw hK;obtain⟨xs,hq,hx⟩:=hg;obtain⟨its,rv,p,hz⟩:=I.tuple hq;obtain⟨f0,f1,f2,f3,f4,f5⟩:=hf it (by simp)
  have hl:=rv.length;exact wpAny_pyNext_tuple_end (I.ok.hd hc) st (show s.heap.IsTuple a its.toArray from p) (by simp; omega) fun h' eb=>⟨rfl,I.turned (t':=s.toks) (fun b o hb e=>eb b o hb e) f0 f1 f3 f4 f5⟩
 self:=fun _ _ _ _ _ st h=>wpAny_pyIter_tupleiter st h
theorem turn_range{P:Program}{w:World}{K:PySem.W.Frag}{tg:Expr}(it:Addr)(lo:Int)(n:Nat):Turn P w K tg (Itr lo n) [it] it (fun i h=>IsRangeIter h it (lo + (i:Nat) * 1) ((n:Int) - (i:Nat)) 1) where
 mem:=by simp
 obj:=fun i h st b hb=>by
  have e:b=it:=by simpa using hb
  subst e;exact⟨_,st,fun v z=>by
   have z':Data.fields _=Data.cell v:=z;cases z'⟩
 keep:=fun i h h' st k=>k it (by simp) _ st
 item:=by
  intro X hP hw hK hc i pins s σ H E I hf st hg;subst hP hw hK;obtain⟨f0,f1,f2,f3,f4,f5⟩:=hf it (by simp)
  have W:=Walks.range (prog:=X.prog) (w:=X.w) (I.ok.hd hc) it lo 1 n;refine W.item i s _ _ hg st fun v h' tk hv st' kk=>?_
  obtain⟨t,rfl⟩:=hv;have I1:Inv X pins σ H { s with heap:=h',toks:=tk }:=I.turned (fun b o hb e=>kk b o (by simpa using hb) e) f0 f1 f3 f4 f5
  refine⟨_,rfl,go_of (s:={ s with heap:=h',toks:=tk }) (n := "range_iterator") st' rfl rfl (by decide) ⟨.int (lo + i),H,I1,⟨t,?_⟩,⟨rfl,rfl⟩,st',fun b hb=>(hf b hb).1⟩⟩
  rw[Int.mul_one]
 done:=by
  intro X hP hw hK hc i pins s σ H E I hf st hg;subst hP hw hK;obtain⟨f0,f1,f2,f3,f4,f5⟩:=hf it (by simp)
  exact wpAny_pyNext_range_end (I.ok.hd hc) st (by have:n<=i:=hg; omega) fun h' eb=>⟨rfl,I.turned (t':=s.toks) (fun b o hb e=>eb b o hb e) f0 f1 f3 f4 f5⟩
 self:=fun _ _ _ _ _ st h=>wpAny_pyIter_rangeiter st h
end L2
namespace L2
open PySem PySem.Spec PyProof.Rows
section
variable{X:Cx}{tg:Expr}
theorem range_it{pins:List (Addr×Obj)}{σ:St}{H:Hp}{s:Shared}{R:It->Hp->Prop}{E:Value->Shared->Prop}{lo hi:Int}{t u v:Tok}{tk:Nat}(I:Inv X pins σ H s)(h1:-(2 ^ 62)<=lo)(h2:lo < 2 ^ 62)(h3:-(2 ^ 62)<=hi)(h4:hi < 2 ^ 62)
  (q:R (Itr lo (hi - lo).toNat) H):wpAny (model X.prog X.w) X.A (pyIter (.ref s.heap.objs.size)) (PIE X pins σ tg R) E { s with heap:=s.heap.push { cls:=.type "range",data:=.fields #[.int lo t,.int hi u,.int 1 v] },toks:=tk }:=by
 refine wpAny_pyIter_range (IsRange.new ..) (small_one h1 h2 h3 h4) ?_;have I1:Inv X pins σ H { s with heap:=s.heap.push { cls:=.type "range",data:=.fields #[.int lo t,.int hi u,.int 1 v] },toks:=tk }:=I.kept fun b o e=>Heap.get?_push_of_some _ e
 refine⟨(s.heap.push { cls:=.type "range",data:=.fields #[.int lo t,.int hi u,.int 1 v] }).objs.size,[(s.heap.push { cls:=.type "range",data:=.fields #[.int lo t,.int hi u,.int 1 v] }).objs.size],_,_,H,rfl,
  I1.kept (t':=tk) fun b o e=>Heap.get?_push_of_some _ e,turn_range _ lo (hi - lo).toNat,?_,fun b hb=>?_,q⟩
 ·have e1:lo + ((0:Nat):Int) * 1=lo:=by simp
  have e2:(((hi - lo).toNat:Nat):Int) - ((0:Nat):Int)=Builtin.Range.rangeSize lo hi 1:=by rw[rangeSize_one]; split <;> omega
  show IsRangeIter _ _ (lo + ((0:Nat):Int) * 1) ((((hi - lo).toNat:Nat):Int) - ((0:Nat):Int)) 1;rw[e1,e2];exact Heap.get?_push_size _ rfl
 ·have e:b=(s.heap.push { cls:=.type "range",data:=.fields #[.int lo t,.int hi u,.int 1 v] }).objs.size:=by simpa using hb
  subst e;exact I1.fpOk (Nat.le_refl _) (I1.hok.fresh (Nat.le_refl _))
noncomputable def pinsAt(fp:List Addr)(h:Heap):List (Addr×Obj):=fp.filterMap fun b=>(h.get? b).map fun o=>(b,o)
theorem mem_pinsAt{fp:List Addr}{h:Heap}{b:Addr}{o:Obj}(hb:b∈fp)(e:h.get? b=some o):(b,o)∈pinsAt fp h:=List.mem_filterMap.mpr ⟨b,hb,by rw[e]; rfl⟩
theorem of_pinsAt{fp:List Addr}{h:Heap}{p:Addr×Obj}(hp:p∈pinsAt fp h):p.1∈fp/\h.get? p.1=some p.2:=by
 obtain⟨b,hb,e⟩:=List.mem_filterMap.mp hp;cases q:h.get? b with
 | none=>rw[q] at e; cases e
 | some o =>
  rw[q] at e;have e':(b,o)=p:=Option.some.inj e;subst e';exact⟨hb,q⟩
theorem Inv.pinned{pins:List (Addr×Obj)}{σ:St}{H:Hp}{s:Shared}{fp:List Addr}(I:Inv X pins σ H s)(hf:∀ b∈fp,FpOk X pins H b)(ho:∀ b∈fp,∃ o,s.heap.get? b=some o/\∀ v,o.data≠.cell v):Inv X (pins++pinsAt fp s.heap) σ H s :=
 I.pins_of fun p hp=>(List.mem_append.mp hp).elim (fun z=>I.pin p (List.mem_append_right _ z)) fun z=>by
  obtain⟨hb,e⟩:=of_pinsAt z;obtain⟨f0,f1,f2,_⟩:=hf p.1 hb;obtain⟨o,e',d⟩:=ho p.1 hb;rw[e] at e'; cases e';exact⟨e,f0,f1,f2,d⟩
theorem Inv.unpinned{pins pl:List (Addr×Obj)}{σ:St}{H:Hp}{s:Shared}(I:Inv X (pins++pl) σ H s):Inv X pins σ H s:=I.pins_of fun p hp=>I.pin p (List.mem_append_right _ (List.mem_append_left _ hp))
end
end L2
namespace L2
open PySem PySem.Spec PyProof.Rows
abbrev R2:=V->V->Hp->VK->Prop
def OpR(X:Cx)(f:Value->Value->Sem Value)(r:R2):Prop :=
 ∀ (pins:List (Addr×Obj)) (s:Shared) (σ:St) (H:Hp) (x y:V) (v u:Value) (Q:VK),Inv X pins σ H s->RelV x v->RelV y u->r x y H Q ->
  wpAny (model X.prog X.w) X.A (f v u) (EP X pins σ Q) X.xe s
def CallR(X:Cx)(f:Value)(r:List V->Hp->VK->Prop):Prop :=
 ∀ (pins:List (Addr×Obj)) (s:Shared) (σ:St) (H:Hp) (xs:List V) (us:List Value) (Q:VK),Inv X pins σ H s->Vals xs us->r xs H Q ->
  wpAny (model X.prog X.w) X.A (call f us) (EP X pins σ Q) X.xe s
def TruR(X:Cx)(r:V->Hp->(Bool->Hp->Prop)->Prop):Prop :=
 ∀ (pins:List (Addr×Obj)) (s:Shared) (σ:St) (H:Hp) (x:V) (v:Value) (Q:Bool->Hp->Prop),Inv X pins σ H s->RelV x v->r x H Q ->
  wpAny (model X.prog X.w) X.A (truthy v) (TP X pins σ Q) X.xe s
section
variable{X:Cx}{a b c:Expr}{ta tb tc:TE}{pos:Pos}
def CMul(i j:Int):Prop:=(-(2 ^ 64) < i/\i < 2 ^ 64)\/(-(2 ^ 64) < j/\j < 2 ^ 64)
theorem CMul.ok{i j:Int}(h:CMul i j):IntMulOk i j:=by
 rcases h with⟨h1,h2⟩ | ⟨h1,h2⟩
 ·exact .of_left (intBits_le_64 h1 h2)
 ·exact .of_right (intBits_le_64 h1 h2)
end
section
variable{X:Cx}{a b c:Expr}{ta tb tc:TE}{pos:Pos}
noncomputable def isObj:HO->Bool
 | .lst _=>true
 | .ins _ _ _=>true
 | _=>false
theorem obj_there{pins:List (Addr×Obj)}{s:Shared}{σ:St}{H:Hp}{a:Addr}{o:HO}(I:Inv X pins σ H s)(h:H a=some o)(p:isObj o=true):∃ ob,s.heap.get? a=some ob/\ob.cls≠.type "tuple" := by
 cases o with
 | lst xs =>
  obtain⟨_,its,n,_,e⟩:xs.length<=sizeLine/\∃ (its:List Value) (n:Nat),Vals xs its/\s.heap.get? a=some { cls:=.type "list",data:=.seq its.toArray n }:=I.hok a _ h;exact⟨_,e,(by show Value.type "list" ≠ .type "tuple"; decide +kernel)⟩
 | ins C dx fs =>
  have x:=I.hok a _ h;obtain⟨_,_,_,e,_⟩:=x;exact⟨_,e,(by show Value.ref C≠.type "tuple"; exact fun z=>by cases z)⟩
 | _=>exact absurd (show false=true from p) Bool.false_ne_true
def TruV(K:PySem.W.Frag)(x:V)(H:Hp)(k:Bool):Prop :=
 match x with
 | .non=>k=false
 | .bl b=>k=b
 | .int i=>k=(i != 0)
 | .str y=>y.length<=sizeLine/\k=((y.length:Int) != 0)
 | .byt y=>y.size<=sizeLine/\k=((y.size:Int) != 0)
 | .ref p=>(∃ xs,SqL K H p xs/\k = !xs.isEmpty)\/(∃ xs,SqT K H p xs/\k = !xs.isEmpty)\/∃ kvs,H p=some (.dK kvs)/\k = !kvs.isEmpty
 | _=>False
theorem isEmpty_kv{κ:Type}{kvs:List (κ×V)}{vs:List (κ×Value)}(r:KV kvs vs):(!vs.isEmpty) = !kvs.isEmpty:=by
 cases r <;> rfl
theorem isEmpty_of{xs:List V}{its:List Value}(r:Vals xs its):(!its.toArray.isEmpty) = !xs.isEmpty:=by
 cases r <;> simp
theorem line63:(sizeLine:Nat) < 2 ^ 63:=by rw[sizeLine_eq]; decide
theorem tru_ok:TruR X (fun x H Q=>∃ k,TruV X.K x H k/\Q k H):=by
 intro pins s σ H x v Q I rx h;obtain⟨k,e,q⟩:=h;have hl:=line63;have hs:sizeLine=16777216:=sizeLine_eq;cases x with
 | non =>
  cases rx;have e':k=false:=e;subst e';exact truthy_none ⟨H,I,q⟩
 | bl b =>
  cases rx;have e':k=b:=e;subst e';exact wpAny_truthy_bool ⟨H,I,q⟩
 | int i =>
  obtain⟨t,rfl⟩:=rx;have e':k=(i != 0):=e;subst e';exact PySem.P.truthy_int ⟨H,I,q⟩
 | str y =>
  obtain⟨t,rfl⟩:=rx;obtain⟨hy,e'⟩:y.length<=sizeLine/\k=((y.length:Int) != 0):=e;subst e';exact PySem.P.truthy_str (by omega) ⟨H,I.tok _,q⟩
 | byt y =>
  obtain⟨t,rfl⟩:=rx;obtain⟨hy,e'⟩:y.size<=sizeLine/\k=((y.size:Int) != 0):=e;subst e';exact PySem.W.truthy_bytes (by omega) ⟨H,I.tok _,q⟩
 | ref p =>
  cases rx;have e':(∃ xs,SqL X.K H p xs/\k = !xs.isEmpty)\/(∃ xs,SqT X.K H p xs/\k = !xs.isEmpty)\/∃ kvs,H p=some (.dK kvs)/\k = !kvs.isEmpty:=e;rcases e' with⟨xs,hx,e'⟩ | ⟨xs,hx,e'⟩ | ⟨kvs,hx,e'⟩
  ·subst e'
   obtain⟨its,r,pl,hz⟩:=I.list hx;have hlen:=r.length;exact wpAny_truthy_list pl.isList (by simp only[List.size_toArray]; omega) ⟨H,I.tok _,by rw[isEmpty_of r]; exact q⟩
  ·subst e'
   obtain⟨its,r,pl,hz⟩:=I.tuple hx;have hlen:=r.length;exact truthy_tuple pl (by simp only[List.size_toArray]; omega) ⟨H,I.tok _,by rw[isEmpty_of r]; exact q⟩
  ·subst e'
   obtain⟨hz,hS,vs,r,m⟩:kvs.length<=sizeLine/\(p == sysModules)=false/\∃ vs,KV kvs vs/\s.heap.DictOf (mixKind X.prog X.w) p vs:=I.hok p _ hx;have hlen:kvs.length=vs.length:=Paired.length r;exact wpAny_truthy_dict hS m (by omega) ⟨H,I.tok _,by rw[isEmpty_kv r]; exact q⟩
 | _=>exact(show False from e).elim
theorem op_add_str:OpR X (binaryOp .Add) (fun x y H Q=>∃ i j,x=.str i/\y=.str j/\i.length + j.length<=sizeLine/\Q (.str (i++j)) H):=by
 intro pins s σ H x y v u Q I rx ry h;obtain⟨i,j,rfl,rfl,hz,q⟩:=h;obtain⟨t,rfl⟩:=rx;obtain⟨t',rfl⟩:=ry;exact add_str (fun t' tk=>⟨.str (i++j),H,I.tok _,⟨_,rfl⟩,q⟩) hz
theorem vals1{x:V}{us:List Value}(r:Vals [x] us):∃ u,us=[u]/\RelV x u:=by
 cases r with
 | cons r1 r2=>cases r2; exact⟨_,rfl,r1⟩
theorem vals2{x y:V}{us:List Value}(r:Vals [x,y] us):∃ u w',us=[u,w']/\RelV x u/\RelV y w':=by
 cases r with
 | cons r1 r2 =>
  cases r2 with
  | cons r3 r4=>cases r4; exact⟨_,_,rfl,r1,r3⟩
theorem call_max2(hc:X.calm=true):CallR X (.builtin "max") (fun xs H Q=>∃ i j,xs=[.int i,.int j]/\Q (.int (if j > i then j else i)) H):=by
 intro pins s σ H xs us Q I r h;obtain⟨i,j,rfl,q⟩:=h;obtain⟨u,w',rfl,⟨t,rfl⟩,⟨t',rfl⟩⟩:=vals2 r;refine max_two_ints (I.ok.hd hc) fun h' tk k=>⟨_,H,I.kept k,?_,q⟩
 by_cases hj:j > i
 ·rw[if_pos hj,if_pos hj]; exact⟨_,rfl⟩
 ·rw[if_neg hj,if_neg hj]; exact⟨_,rfl⟩
theorem call_min2(hc:X.calm=true):CallR X (.builtin "min") (fun xs H Q=>∃ i j,xs=[.int i,.int j]/\Q (.int (if j < i then j else i)) H):=by
 intro pins s σ H xs us Q I r h;obtain⟨i,j,rfl,q⟩:=h;obtain⟨u,w',rfl,⟨t,rfl⟩,⟨t',rfl⟩⟩:=vals2 r;refine min_two_ints (I.ok.hd hc) fun h' tk k=>⟨_,H,I.kept k,?_,q⟩
 by_cases hj:j < i
 ·rw[if_pos hj,if_pos hj]; exact⟨_,rfl⟩
 ·rw[if_neg hj,if_neg hj]; exact⟨_,rfl⟩
end
end L2
namespace L2
open PySem PySem.Spec PyProof.Rows
structure ObjM(h:Heap)(x dx C:Addr)(mA:Str->Option Value):Prop where
 obj:h.get? x=some (PySem.W.instObj C dx)
 ns:h.Ns1 dx mA
 ne:dx≠x
theorem lookIn_ns{h:Heap}{dx:Addr}{mA:Str->Option Value}(n:h.Ns1 dx mA):∃ od,h.get? dx=some od/\∀ name,PySem.W.lookIn name od=some (mA name):=by
 obtain⟨o,es,ep,ho,hd,hk,_,hm⟩:=n;refine⟨o,ho,fun name=>?_⟩
 have e:=hm name;unfold nsFind findBy at e;rw[<- Array.find?_toList] at e;unfold PySem.W.lookIn;rw[hd];dsimp only;split
 ·rename_i y q
  rw[q] at e;exact congrArg some e
 ·rename_i q
  rw[q] at e;have a:es.toList.any (·.refKey)=false:=by
   rw[List.any_eq_false];intro y hy;obtain⟨z,t,hkey⟩:=hk y (Array.mem_toList_iff.mp hy);simp[DictEntry.refKey,hkey]
  have a':¬ es.toList.any (·.refKey)=true:=by rw[a]; exact Bool.false_ne_true
  rw[if_neg a'];exact congrArg some e
theorem ObjM.look{h:Heap}{x dx C:Addr}{mA:Str->Option Value}(I:ObjM h x dx C mA):∃ od,PySem.W.InstAt h x (PySem.W.instObj C dx) C (some od)/\∀ name,PySem.W.lookIn name od=some (mA name) :=
 let ⟨od,ho,hl⟩:=lookIn_ns I.ns
 ⟨od,⟨I.obj,rfl,rfl,ho⟩,hl⟩
section
variable{prog:Program}{w:World}{A:Around}{E:Value->Shared->Prop}{s:Shared}{K:PySem.W.Frag}{x dx C f:Addr}{mA:Str->Option Value}{name:Str}{v:Value}
end
section
variable{P:Program}{w:World}{H H':Hp}{h h':Heap}{a C dx:Addr}{fs fs':List (Str×V)}
end
structure Cls(K:PySem.W.Frag)(C:Addr):Prop where
 pg:PySem.W.plainGet K C Str.empty=true
 hd:PySem.W.hasDictIn K C=true
 po:PySem.W.plainOver K C=true
 sa:PySem.W.findIn K (.ref C) "__setattr__" = some (some (.builtin "object.__setattr__"))
theorem Cls.get{K:PySem.W.Frag}{C:Addr}(c:Cls K C)(f:Str):PySem.W.plainGet K C f=true:=c.pg
structure Con(K:PySem.W.Frag)(C:Addr)(f:Str)(v:V)(u:Value):Prop where
 at_:PySem.W.findIn K (.ref C) f=some (some u)
 rel:RelV v u
 get:PySem.W.specialIn K u "__get__" = some none
 cp:PySem.W.copiedNames.contains f=false
structure Meth(K:PySem.W.Frag)(C:Addr)(m:Str)(f:Addr):Prop where
 at_:PySem.W.findIn K (.ref C) m=some (some (.ref f))
 fn:PySem.W.isFn K (.ref f)=true
 kp:PySem.W.keepIn K (.ref f)=true
section
variable{X:Cx}{pins:List (Addr×Obj)}{σ:St}{H:Hp}{s:Shared}{a C dx:Addr}{fs:List (Str×V)}{f:Str}{v:V}{A:Around}{E:Value->Shared->Prop}
theorem Inv.made(I:Inv X pins σ H s):Inv X pins σ (upd (upd H s.heap.objs.size (.own (s.heap.objs.size + 1))) (s.heap.objs.size + 1) (.ins C s.heap.objs.size []))
  { s with heap:=(s.heap.push PySem.W.emptyDict).push (PySem.W.instObj C s.heap.objs.size) }:=by
 have e1:(s.heap.push PySem.W.emptyDict).get? s.heap.objs.size=some PySem.W.emptyDict:=Heap.get?_push_size s.heap rfl;have e2:((s.heap.push PySem.W.emptyDict).push (PySem.W.instObj C s.heap.objs.size)).get? (s.heap.objs.size + 1)=some (PySem.W.instObj C s.heap.objs.size):=by
  have:=Heap.get?_push_size (s.heap.push PySem.W.emptyDict) (o:=PySem.W.instObj C s.heap.objs.size) rfl
  rwa [Heap.size_push] at this
 have e3:(s.heap.push PySem.W.emptyDict).Ns s.heap.objs.size (fun _=>none):=⟨PySem.W.emptyDict,#[],_,e1,rfl,(fun e he=>absurd he (by simp)),fun _=>rfl⟩
 have I1:=I.laid (a:=s.heap.objs.size) (o:=.own (s.heap.objs.size + 1)) (h':=s.heap.push PySem.W.emptyDict) (t':=s.toks) (fun b u q=>Heap.get?_push_of_some _ q) (Nat.le_refl _) ⟨_,e1⟩
 refine I1.laid (a:=s.heap.objs.size + 1) (o:=.ins C s.heap.objs.size []) (t':=s.toks) (fun b u q=>Heap.get?_push_of_some _ q) (Nat.le_of_eq (Heap.size_push _ _)) ?_
 have ne:s.heap.objs.size≠s.heap.objs.size + 1:=Nat.ne_of_lt (Nat.lt_succ_self _);refine⟨by rw[upd_ne ne,upd_same],Nat.zero_le _,ne,e2,fun _=>none,(Heap.Ns1.of_empty e3).at fun o q=>Heap.get?_push_of_some _ q,fun _=>True.intro,fun y hy=>absurd rfl hy⟩
end
section
variable{X:Cx}{o e value:Expr}{f:Str}{pos pos' tpos:Pos}{ta tv:TE}
end
section
variable{X:Cx}{pins:List (Addr×Obj)}{σ:St}{H:Hp}{s:Shared}{A:Around}{E:Value->Shared->Prop}{Q:Value->Shared->Prop}{c:Value}{b:Bool}
inductive TyOf(K:PySem.W.Frag)(H:Hp):V->Value->Prop where
 | non:TyOf K H .non (.type "NoneType")
 | bl (x:Bool):TyOf K H (.bl x) (.type "bool")
 | int (i:Int):TyOf K H (.int i) (.type "int")
 | str (x:Str):TyOf K H (.str x) (.type "str")
 | flt (x:UInt64):TyOf K H (.flt x) (.type "float")
 | lst {a:Addr} {xs:List V} (e:H a=some (.lst xs)):TyOf K H (.ref a) (.type "list")
 | frz {a:Addr} {o:Obj} {xs:List V} (e:H a=some (.frz o (.lst xs))):TyOf K H (.ref a) (.type "list")
 | tup {a:Addr} {xs:List V} (e:H a=some (.tup xs)):TyOf K H (.ref a) (.type "tuple")
 | dK {a:Addr} {kvs:List (Key×V)} (e:H a=some (.dK kvs)):TyOf K H (.ref a) (.type "dict")
 | dT {a:Addr} {kvs:List (List Key×V)} (e:H a=some (.dT kvs)):TyOf K H (.ref a) (.type "dict")
 | ins {a C dx:Addr} {fs:List (Str×V)} (e:H a=some (.ins C dx fs)) (cl:Cls K C) (ha:PySem.W.findIn K (.ref C) "__class__" = some (some (.builtin "object.__class__")))
   (hn:PySem.W.specialIn K (.builtin "object.__class__") "__get__" = some (some (.builtin "getset_descriptor.__get__"))) (htk:PySem.W.takesIn K (.builtin "object.__class__")=some true)
   (hm:PySem.W.mroIn K C (.type "object")=some true):TyOf K H (.ref a) (.ref C)
end
end L2
namespace L2
open PySem PySem.Spec PyProof.Rows
structure Room(k:Nat)(A:Around):Prop where
 gd:A.guards=some []
 hd:A.handled=none
 dp:A.depth + 3 * k + 5 < recursionLimit
 un:A.units + 16 * k + 200 < cLine
theorem Room.mono{j k:Nat}{A:Around}(r:Room k A)(h:j<=k):Room j A:=⟨(by first | exact r.gd | (have:=r.gd; simpa [Around.under,Code.guards,pushGuards,Code.isGuard,guardIds] using this)),r.hd,by have:=r.dp; omega,by have:=r.un; omega⟩
theorem Room.deeper{k:Nat}{A:Around}(r:Room (k + 1) A)(env:Env):Room k (A.deeper env) :=
 ⟨(by first | exact r.gd | (have:=r.gd; simpa [Around.under,Code.guards,pushGuards,Code.isGuard,guardIds] using this)),r.hd,by have:=r.dp; show A.depth + 1 + 3 * k + 5 < _; omega,by have:=r.un; show A.units + 3 + 16 * k + 200 < _; omega⟩
theorem Room.in1{k:Nat}{A:Around}(r:Room (k + 1) A):Room k A.in1 :=
 ⟨(by first | exact r.gd | (have:=r.gd; simpa [Around.under,Code.guards,pushGuards,Code.isGuard,guardIds] using this)),r.hd,by have:=r.dp; show A.depth + 3 * k + 5 < _; omega,by have:=r.un; show A.units + 1 + 16 * k + 200 < _; omega⟩
theorem Room.depth{k:Nat}{A:Around}(r:Room k A):A.depth < recursionLimit:=by have:=r.dp; omega
theorem Room.units{k:Nat}{A:Around}(r:Room k A):A.units + 64 < cLine:=by have:=r.un; omega
section
variable{X:Cx}{e:Expr}{es:List Expr}{te:TE}{t:TA}{pos:Pos}
end
abbrev Sp:=List V->Hp->VK->XK->Prop
abbrev CXT:=List Env->Hp->Shared->XK->Value->Shared->Prop
structure Env0(P:Program)(w:World)(K:PySem.W.Frag)(mg:Str->Option Value)(base:Heap)(A:Around)(outer:List Env)(s:Shared)(H:Hp):Prop where
 frames:A.frames=some outer
 mod:Mod K mg base
 bs:∀ b o,base.get? b=some o->s.heap.get? b=some o/\H b=none
 bsz:base.objs.size<=s.heap.objs.size
 funs:s.heap.FunFrames base outer
 frf:∀ b∈frs outer,H b=none
 hok:HOk P w H s.heap
 bare:AllBare s.gens
def CE(outer:List Env)(P:Program)(w:World)(H:Hp)(s:Shared)(Q:VK)(u:Value)(s':Shared):Prop :=
 ∃ v H',s'.os=s.os/\AllBare s'.gens/\Un (frs outer) [] H H' s.heap s'.heap/\HOk P w H' s'.heap/\RelV v u/\Q v H'
def CR(CX:CXT)(outer:List Env)(P:Program)(w:World)(H:Hp)(s:Shared)(Q:VK)(E:XK)(r:Result)(s':Shared):Prop :=
 match r with
 | .ok (.ret u)=>CE outer P w H s Q u s'
 | .ok _=>False
 | .error e=>CX outer H s E e s'
structure FnOk(P:Program)(w:World)(K:PySem.W.Frag)(mg:Str->Option Value)(base:Heap)(CX:CXT)(k:Nat)(f:Addr)(fd:FuncData)(ps:List Str)(sp:Sp):Prop where
 len:∀ vs H Q E,sp vs H Q E->vs.length=ps.length
 run:∀ (A:Around) (outer:List Env) (s:Shared) (H:Hp) (args:Args) (us:List Value) (vs:List V) (Q:VK) (E:XK),Room k A->Env0 P w K mg base A outer s H->BindsTo s fd args (ps.zip us)->Vals vs us->sp vs H Q E ->
  codeAny (model P w) A (.call (.ref f) args) (CR CX outer P w H s Q E) s
theorem FnOk.mono{P:Program}{w:World}{K:PySem.W.Frag}{mg:Str->Option Value}{base:Heap}{CX:CXT}{j k:Nat}{f:Addr}{fd:FuncData}{ps:List Str}{sp:Sp}(F:FnOk P w K mg base CX j f fd ps sp)(h:j<=k) :
  FnOk P w K mg base CX k f fd ps sp:=⟨F.len,fun A outer s H args us vs Q E hr=>F.run A outer s H args us vs Q E (hr.mono h)⟩
theorem FnOk.imp{P:Program}{w:World}{K:PySem.W.Frag}{mg:Str->Option Value}{base:Heap}{CX:CXT}{k:Nat}{f:Addr}{fd:FuncData}{ps:List Str}{sp sp':Sp}(F:FnOk P w K mg base CX k f fd ps sp)
  (h:∀ vs H Q E,sp' vs H Q E->sp vs H Q E):FnOk P w K mg base CX k f fd ps sp' :=
 ⟨fun vs H Q E q=>F.len vs H Q E (h _ _ _ _ q),fun A outer s H args us vs Q E hr he hb hv hs=>F.run A outer s H args us vs Q E hr he hb hv (h _ _ _ _ hs)⟩
theorem Env0.in1{P:Program}{w:World}{K:PySem.W.Frag}{mg:Str->Option Value}{base:Heap}{A:Around}{outer:List Env}{s:Shared}{H:Hp}(e:Env0 P w K mg base A outer s H) :
  Env0 P w K mg base A.in1 outer s H:=⟨e.frames,e.mod,e.bs,e.bsz,e.funs,e.frf,e.hok,e.bare⟩
section
variable{X:Cx}{pins:List (Addr×Obj)}{σ:St}{H:Hp}{s s':Shared}
theorem Inv.env0(I:Inv X pins σ H s):Env0 X.prog X.w X.K X.mg X.base X.A X.stack s H :=
 ⟨I.ok.frames,I.ok.mod,I.bs,Nat.le_trans I.ok.bsz I.sz,I.stack,I.stkFree,I.hok,I.bare⟩
theorem Inv.after{Q:VK}{u:Value}(I:Inv X pins σ H s)(h:CE X.stack X.prog X.w H s Q u s'):EP X pins σ Q u s':=by
 obtain⟨v,H',os,bare,un,hok,r,q⟩:=h;obtain⟨hh,g,d,t,os'⟩:=s';obtain rfl:os'=s.os:=os;exact⟨v,H',I.call (h':=hh) (g':=g) (d':=d) (t':=t) (ch:=[]) un hok bare (fun b z=>absurd z (by simp)),r,q⟩
end
def Binds(K:PySem.W.Frag)(fd:FuncData)(ps:List Str)(ds:List Value):Prop :=
 ∀ (s:Shared) (us:List Value),K.In s.heap->(us++ds).length=ps.length->BindsTo s fd ⟨us,[]⟩ (ps.zip (us++ds))
theorem Binds.all{K:PySem.W.Frag}{fd:FuncData}{ps:List Str}(h:∀ us:List Value,us.length=ps.length->bindArgs fd ⟨us,[]⟩=pure (ps.zip us)):Binds K fd ps []:=fun s us _ hl=>by
 rw[List.append_nil] at hl ⊢;exact .of_eq (h us hl)
section
variable{X:Cx}{CX:CXT}{k:Nat}{f C:Addr}{fd:FuncData}{ps:List Str}{sp:Sp}{dvs:List V}{ds:List Value}{E:XK}{x m:Str}{p pos apos:Pos}{e o:Expr}{es:List Expr}{ta:TE}{t:TA}
structure Mk(K:PySem.W.Frag)(C f:Addr):Prop where
 makes:PySem.W.makesIn K C=true
 init:PySem.W.findIn K (.ref C) "__init__" = some (some (.ref f))
 fn:PySem.W.isFn K (.ref f)=true
 kp:PySem.W.keepIn K (.ref C)=true
end
section
variable{X:Cx}{CX:CXT}{k:Nat}{f C:Addr}{fd:FuncData}{ps ks:List Str}{sp:Sp}{E:XK}{x m:Str}{p pos apos kpos:Pos}{e o:Expr}{es:List Expr}{kws:List Keyword}{te ta:TE}{t tk:TA}{nm:Option Str}
structure KBinds(K:PySem.W.Frag)(fd:FuncData)(ps ks:List Str)(g:List Value->List Value->List Value)(gV:List V->List V->List V):Prop where
 to:∀ (s:Shared) (us ws:List Value),K.In s.heap->(g us ws).length=ps.length->BindsTo s fd ⟨us,ks.zip ws⟩ (ps.zip (g us ws))
 rel:∀ {vs:List V} {us:List Value} {zs:List V} {ws:List Value},Vals vs us->Vals zs ws->Vals (gV vs zs) (g us ws)
variable{g:List Value->List Value->List Value}{gV:List V->List V->List V}
end
structure FnScope(N P:List Str)(sc:Scope):Prop where
 kind:sc.kind=.function
 co:sc.isCoroutine=false
 gen:sc.isGenerator=false
 nd:N.Nodup
 pre:N.take P.length=P
 par:∀ x∈P,sc.names.lookup x=some .local\/sc.names.lookup x=some .cell
 nofree:∀ y∈sc.names,y.2≠.free
theorem bindL_out{kindOf:Str->Option NameKind}{x:Str}:∀ {binds:List (Str×Value)} {m:Str->Option Value},(∀ v,(x,v) ∉ binds)->bindL kindOf binds m x=m x
 | [],_,_=>rfl
 | (n,v) :: r,m,h=>by
  unfold bindL;rw[bindL_out fun w hw=>h w (List.mem_cons_of_mem _ hw)]
  split
  ·have:x≠n:=by rintro rfl; exact h v List.mem_cons_self
   simp[this]
  ·rfl
theorem bindC_out{kindOf:Str->Option NameKind}{x:Str}:∀ {binds:List (Str×Value)} {m:Str->Option Value},(∀ v,(x,v) ∉ binds)->bindC kindOf binds m x=m x
 | [],_,_=>rfl
 | (n,v) :: r,m,h=>by
  unfold bindC;rw[bindC_out fun w hw=>h w (List.mem_cons_of_mem _ hw)]
  split
  ·rfl
  ·have:x≠n:=by rintro rfl; exact h v List.mem_cons_self
   simp[this]
theorem bindL_get{kindOf:Str->Option NameKind}{x:Str}{v:Value}:∀ {P:List Str} {vs:List Value} {i:Nat} {m:Str->Option Value},P.Nodup->P[i]?=some x->vs[i]?=some v->kindOf x=some .local ->
  bindL kindOf (P.zip vs) m x=some v
 | [],_,_,_,_,h,_,_=>by simp at h
 | _ :: _,[],_,_,_,_,h,_=>by simp at h
 | p :: P,w :: vs,0,m,nd,h1,h2,hk=>by
  simp at h1 h2; subst h1; subst h2;show bindL kindOf ((p,w) :: P.zip vs) m p=_;unfold bindL;rw[bindL_out fun v hv=>(List.nodup_cons.mp nd).1 (List.of_mem_zip hv).1,if_pos hk]
  simp
 | p :: P,w :: vs,i + 1,m,nd,h1,h2,hk=>by
  show bindL kindOf ((p,w) :: P.zip vs) m x=_;unfold bindL;exact bindL_get (i:=i) (List.nodup_cons.mp nd).2 (by simpa using h1) (by simpa using h2) hk
theorem bindC_get{kindOf:Str->Option NameKind}{x:Str}{v:Value}:∀ {P:List Str} {vs:List Value} {i:Nat} {m:Str->Option Value},P.Nodup->P[i]?=some x->vs[i]?=some v->kindOf x≠some .local ->
  bindC kindOf (P.zip vs) m x=some v
 | [],_,_,_,_,h,_,_=>by simp at h
 | _ :: _,[],_,_,_,_,h,_=>by simp at h
 | p :: P,w :: vs,0,m,nd,h1,h2,hk=>by
  simp at h1 h2; subst h1; subst h2;show bindC kindOf ((p,w) :: P.zip vs) m p=_;unfold bindC;rw[bindC_out fun v hv=>(List.nodup_cons.mp nd).1 (List.of_mem_zip hv).1,if_neg hk]
  simp
 | p :: P,w :: vs,i + 1,m,nd,h1,h2,hk=>by
  show bindC kindOf ((p,w) :: P.zip vs) m x=_;unfold bindC;exact bindC_get (i:=i) (List.nodup_cons.mp nd).2 (by simpa using h1) (by simpa using h2) hk
noncomputable def start(N:List Str)(vs:List V):St:=vs.map some++List.replicate (N.length - vs.length) none
noncomputable def cxOf(CX:CXT)(P:Program)(w:World)(K:PySem.W.Frag)(mg:Str->Option Value)(base:Heap)(N:List Str)(qual:Str)(scope:Scope)(f:Addr)(cd:Value)(A:Around)(outer:List Env)(s:Shared)(H:Hp)(E:XK):Cx where
 prog:=P
 w:=w
 K:=K
 mg:=mg
 base:=base
 A:=A.deeper (envOfC qual scope s.heap.objs.size f cd)
 N:=N
 s₀:=s
 H₀:=H
 env:=envOfC qual scope s.heap.objs.size f cd
 outer:=outer
 stack:=envOfC qual scope s.heap.objs.size f cd :: outer
 ex:=[]
 calm:=true
 fn:=fun _=>true
 pn:=[]
 xe:=fun e s'=>wpAny (model P w) (A.deeper (envOfC qual scope s.heap.objs.size f cd)) (leaving (envOfC qual scope s.heap.objs.size f cd) e) (fun _ s''=>CX outer H s E e s'') (fun e' s''=>CX outer H s E e' s'') s'
theorem cell_has{sc:Scope}{n:Nat}{x:Str}(h:sc.names.lookup x=some .cell):∃ c,(cellsFrom n sc.names []).lookup x=some c:=by
 have q:=PySem.W.cellsFrom_some sc.names n [] (.inl h);exact Option.isSome_iff_exists.mp q
theorem inv_start{CX:CXT}{P:Program}{w:World}{K:PySem.W.Frag}{mg:Str->Option Value}{base:Heap}{N ps:List Str}{qual:Str}{scope:Scope}{f:Addr}{cd:Value}{A:Around}{outer:List Env}{s s1:Shared}{H:Hp}{E:XK}{us:List Value}{vs:List V}
  (S:FnScope N ps scope) (hd:A.handled=none) (e0:Env0 P w K mg base A outer s H) (hl:vs.length=ps.length) (r:Vals vs us)
  (x:InCallC s s.heap.objs.size (bindL (envOfC qual scope s.heap.objs.size f cd).kindOf (ps.zip us) fun _=>none) (cellsFrom (s.heap.objs.size + 1) scope.names []) (bindC (envOfC qual scope s.heap.objs.size f cd).kindOf (ps.zip us) fun _=>none) s1) :
  Inv (cxOf CX P w K mg base N qual scope f cd A outer s H E) [] (start N vs) H s1:=by
 have hpl:ps.length<=N.length:=by have:=congrArg List.length S.pre; rw[List.length_take] at this; omega
 obtain⟨h1,tk,rfl,hk⟩:=x.done;have noA:∀ b:Addr,b ∉ (cxOf CX P w K mg base N qual scope f cd A outer s H E).ex:=fun b z=>absurd (show b∈([]:List Addr) from z) (by simp)
 refine⟨⟨e0.mod,S.kind,rfl,rfl,Nat.le_refl _,fun y z c h1 h2=>?_,fun y hy=>?_,fun y c _ h=>?_,fun _=>hd,Around.frames_deeper e0.frames,.inr ⟨rfl,rfl⟩,fun b z=>absurd z (noA b),e0.bs,e0.bsz,fun b _ _=>noA b,fun b z=>absurd z (noA b),e0.funs,e0.frf⟩,
  rfl,e0.bare,Un.kept hk,⟨_,x.toInCall.ns,fun i y v h1 h2 h3=>?_⟩,fun y c h=>⟨_,x.cell y c h⟩,e0.hok.fresh (Nat.le_refl _),fun y c h=>?_,fun p hp=>absurd (show p∈([]:List (Addr×Obj)) from hp) (by simp),e0.hok.kept hk,?_⟩
 ·exact name_of_addr x.apart (PySem.mem_of_lookup h1) (PySem.mem_of_lookup h2)
 ·have hy:scope.names.lookup y=some .cell\/scope.names.lookup y=some .free:=hy
  rcases hy with hy | hy
  ·exact cell_has hy
  ·exact absurd rfl (S.nofree _ (PySem.mem_of_lookup hy))
 ·exact Nat.le_of_lt (x.above y c (PySem.mem_of_lookup h))
 ·have hi:i < vs.length:=by
   unfold start at h2
   by_cases hi:i < vs.length
   ·exact hi
   ·rw[List.getElem?_append_right (by simpa using hi)] at h2
    rw[List.getElem?_replicate] at h2;split at h2 <;> cases h2
  have ha:vs[i]?=some v:=by
   unfold start at h2;rw[List.getElem?_append_left (by simpa using hi),List.getElem?_map] at h2
   cases e:vs[i]? with
   | none=>rw[e] at h2; cases h2
   | some a=>rw[e] at h2; cases h2; rfl
  obtain⟨u,hu,rv⟩:=r.get ha;have hp:ps[i]?=some y:=by
   rw[<- S.pre,List.getElem?_take_of_lt (by omega)]; exact h1
  have ndP:ps.Nodup:=by rw[<- S.pre]; exact S.nd.sublist (List.take_sublist _ _)
  refine⟨u,rv,?_⟩;rcases S.par y (List.mem_of_getElem? hp) with k | k
  ·exact .inl ⟨k,bindL_get ndP hp hu k⟩
  ·obtain⟨c,e⟩:=cell_has (n:=s.heap.objs.size + 1) k
   refine .inr ⟨.inl k,c,e,?_⟩;have q:=x.cell y c e;rw[bindC_get ndP hp hu (by show scope.names.lookup y≠_; rw[k]; decide)] at q
   exact q
 ·exact e0.hok.fresh (Nat.le_of_lt (x.above y c (PySem.mem_of_lookup h)))
 ·unfold start
  show _=N.length;rw[List.length_append,List.length_map,List.length_replicate];omega
end L2
namespace L2
open PySem PySem.Spec PyProof.Rows
section
variable{X:Cx}{x:Str}{p pos:Pos}{e:Expr}{es:List Expr}{t:TA}{id T:String}{r:List V->Hp->VK->Prop}
end
end L2
namespace HT
open PySem PyProof.Rows
noncomputable def lexLt:List Int->List Int->Bool
 | [],[]=>false
 | [],_ :: _=>true
 | _ :: _,[]=>false
 | x :: xs,y :: ys=>if x=y then lexLt xs ys else decide (x < y)
theorem lexLt_cons(x y:Int)(xs ys:List Int):lexLt (x :: xs) (y :: ys)=if x=y then lexLt xs ys else decide (x < y):=rfl
theorem lexLt_nil_nil:lexLt [] []=false:=rfl
theorem lexLt_nil_cons(y:Int)(ys:List Int):lexLt [] (y :: ys)=true:=rfl
theorem lexLt_cons_nil(x:Int)(xs:List Int):lexLt (x :: xs) []=false:=rfl
theorem eqAt_int(A:Around)(s:Shared)(a:Int)(t:Tok)(c:Int)(u:Tok):∃ e,SeqAt.EqAt A s (.int a t) (.int c u) e/\(e=true ↔ a=c) :=
 ⟨(a == c),SeqAt.EqAt.int_int a t c u,by simp⟩
theorem rcLt_int(A:Around)(s:Shared)(a:Int)(t:Tok)(c:Int)(u:Tok)(prog:Program)(w:World)(E:Value->Shared->Prop)(Q:Value->Shared->Prop)(h:Q (.bool (decide (a < c))) s) :
  wpAny (model prog w) A (richCompare .Lt (.int a t) (.int c u)) Q E s :=
 (PyProof.Rows.lt_int h:wpAny (model prog w) A (compareOp .Lt (.int a t) (.int c u)) Q E s)
section
open PySem.SeqAt
open PySem.AutoSeq1 (wpAny_loadPart')
open PySem.MeetsSeq PySem.MeetsSeq2 PySem.MeetsSeq3
theorem tuple_lt_ints(l b:Addr)(items items2:Array Value)(n n2:Nat)(dd dd2:Option Addr)(sl sl2:Array (Option Value))(ns ms:List Int)(hi:IntsAre items.toList ns)(hj:IntsAre items2.toList ms) :
  Meets (Builtin.«tuple.__lt__» ⟨[.ref l,.ref b],[]⟩)
   (fun _ R s=>s.heap.get? l=some { cls:=.type "tuple",dict:=dd,data:=.seq items n,slots:=sl }/\s.heap.get? b=some { cls:=.type "tuple",dict:=dd2,data:=.seq items2 n2,slots:=sl2 } /\
    R (.ok (.ret (.bool (lexLt ns ms)))) s) :=
 .of_wp fun prog w A R s h=>by
  obtain⟨hp,g,d,tk,os⟩:=s; obtain⟨hl,hb,h⟩:=h;have f2:=AutoSeq1.sub_tuple_tuple;have z1:items.size=ns.length:=by rw[<- hi.length]; simp
  have z2:items2.size=ms.length:=by rw[<- hj.length]; simp
  wp_walk using wpAny_loadPart' hl,wpAny_loadPart' hb,wpAny_forIn_list _ (fun rest b s'=>b.1=none/\s'=⟨hp,g,d,tk,os⟩/\∃ (vs ws:List Value) (ns' ms':List Int),rest=vs.zip ws /\
   IntsAre vs ns'/\IntsAre ws ms'/\ns'.length + items2.size=ms'.length + items.size/\R (.ok (.ret (.bool (lexLt ns' ms')))) ⟨hp,g,d,tk,os⟩) _
  case turn =>
   rintro ⟨y,x⟩ rest b s' ⟨hb',rfl,vs,ws,ns',ms',hz,hvi,hwi,hlen,hR⟩
   cases hvi with
   | nil=>rw[List.zip_nil_left] at hz; cases hz
   | cons a t hvi' =>
    cases hwi with
    | nil=>rw[List.zip_nil_right] at hz; cases hz
    | cons c u hwi' =>
     rw[List.zip_cons_cons] at hz;injection hz with hyx hrest
     injection hyx with hy hx
     subst hy hx;rw[lexLt_cons] at hR;simp only[List.length_cons] at hlen;obtain⟨e,he,hiff⟩:=eqAt_int A.in1 ⟨hp,g,d,tk,os⟩ a t c u;refine wpAny_bind (he prog w _ _ ?_);cases e with
     | true =>
      rw[if_pos (hiff.mp rfl)] at hR
      wp_walk
      exact⟨rfl,rfl,_,_,_,_,hrest,hvi',hwi',by omega,hR⟩
     | false =>
      rw[if_neg (fun q=>absurd (hiff.mpr q) Bool.false_ne_true)] at hR
      have hri:=rcLt_int A.in1 ⟨hp,g,d,tk,os⟩ a t c u prog w
      wp_walk using hri
      exact⟨_,rfl,by simpa using hR⟩
  case fin =>
   rintro ⟨b1,b2⟩ s' ⟨hb',rfl,vs,ws,ns',ms',hz,hvi,hwi,hlen,hR⟩
   simp only at hb';subst hb';have hv:lexLt ns' ms'=decide (items.size < items2.size):=by
    cases hvi with
    | nil =>
     cases hwi with
     | nil =>
      simp only[List.length_nil] at hlen;rw[lexLt_nil_nil];exact(decide_eq_false (by omega)).symm
     | cons c u hw =>
      simp only[List.length_nil,List.length_cons] at hlen;rw[lexLt_nil_cons];exact(decide_eq_true (by omega)).symm
    | cons a t hv =>
     cases hwi with
     | nil =>
      simp only[List.length_nil,List.length_cons] at hlen;rw[lexLt_cons_nil];exact(decide_eq_false (by omega)).symm
     | cons c u hw =>
      rw[List.zip_cons_cons] at hz;cases hz
   rw[hv] at hR
   wp_walk
   exact⟨_,rfl,by simpa [Builtin.Tuple.tupleCompareSizes] using hR⟩
  case h =>
   exact⟨rfl,rfl,items.toList,items2.toList,ns,ms,rfl,hi,hj,by omega,h⟩
end
section
variable{prog:Program}{w:World}{A:Around}{E:Value->Shared->Prop}{s:Shared}
theorem lt_tupInts{l b:Addr}{items items2:Array Value}{ns ms:List Int}{Q:Value->Shared->Prop}(hl:IsTup s.heap l items)(hb:IsTup s.heap b items2)(hi:IntsAre items.toList ns)(hj:IntsAre items2.toList ms)
  (hu:A.units < cLine) (h:Q (.bool (lexLt ns ms)) s):wpAny (model prog w) A (compareOp .Lt (.ref l) (.ref b)) Q E s:=by
 obtain⟨⟨cls,dd,data,sl⟩,ho,hc,n,hd⟩:=id hl;obtain⟨⟨cls2,dd2,data2,sl2⟩,ho2,hc2,n2,hd2⟩:=id hb;simp only at hc hd hc2 hd2;subst hc hd hc2 hd2;exact richCompare_meets_room (op:=.Lt) ⟨_,ho,rfl⟩ ⟨_,ho2,rfl⟩ PySem.F.slot_tuple_lt PySem.F.entry_tuple_lt (PySem.F.args_tuple_lt_2 _ _) (tuple_lt_ints l b items items2 n n2 dd dd2 sl sl2 ns ms hi hj)
  ⟨ho,ho2,show Value.bool (lexLt ns ms)≠Value.notImplemented/\Q (.bool (lexLt ns ms)) s from⟨(fun x=>nomatch x),h⟩⟩ hu
theorem cat_tup{t b:Addr}{vs ws:List Value}{Q:Value->Shared->Prop}(ht:IsTup s.heap t vs.toArray)(hb:IsTup s.heap b ws.toArray)(hv:vs≠[])
  (h1:ws=[]->Q (.ref t) s) (h2:ws≠[]->Q (.ref s.heap.objs.size) { s with heap:=s.heap.push { cls:=.type "tuple",data:=.seq (vs++ws).toArray } })
  (hsz:vs.length + ws.length<=sizeLine):wpAny (model prog w) A (binaryOp .Add (.ref t) (.ref b)) Q E s:=by
 obtain⟨⟨cls,dd,data,sl⟩,ho,hc,n,hd⟩:=id ht;obtain⟨⟨cls2,dd2,data2,sl2⟩,ho2,hc2,n2,hd2⟩:=id hb;simp only at hc hd hc2 hd2;subst hc hd hc2 hd2;have e:vs.toArray++ws.toArray=(vs++ws).toArray:=by simp
 by_cases hw:ws=[]
 ·exact concat_meets ⟨_,ho,rfl⟩ ⟨_,ho2,rfl⟩ noFill_tuple_add seq_tuple_add PySem.F.slot_tuple_add PySem.F.entry_tuple_add (PySem.F.args_tuple_add_2 _ _)
   (tuple_addW1 t b vs.toArray ws.toArray n n2 dd dd2 sl sl2 (by simpa using hv) (by simp[hw])) ⟨ho,ho2,h1 hw⟩
 ·refine concat_meets ⟨_,ho,rfl⟩ ⟨_,ho2,rfl⟩ noFill_tuple_add seq_tuple_add PySem.F.slot_tuple_add PySem.F.entry_tuple_add (PySem.F.args_tuple_add_2 _ _)
   (tuple_addW2 t b vs.toArray ws.toArray n n2 dd dd2 sl sl2 (by simpa using hv) (by simpa using hw) (by rw[List.size_toArray,List.size_toArray]; exact hsz)) ⟨ho,ho2,?_⟩
  rw[e];exact h2 hw
noncomputable def sIx(n d:Nat):Option Int->Nat
 | none=>d
 | some v=>if v < 0 then (v + (n:Int)).toNat else min v.toNat n
theorem sIx_le(n d:Nat)(hd:d<=n)(o:Option Int):sIx n d o<=n:=by
 cases o with
 | none=>exact hd
 | some v =>
  show(if v < 0 then (v + (n:Int)).toNat else min v.toNat n)<=n
  by_cases hv:v < 0
  ·rw[if_pos hv]; omega
  ·rw[if_neg hv]; exact Nat.min_le_right _ _
theorem clip_eq(v:Int)(n d:Nat):(if v < 0 then max (v + (n:Int)) 0 else min v (n:Int))=((sIx n d (some v):Nat):Int):=by
 show(if v < 0 then max (v + (n:Int)) 0 else min v (n:Int))=(((if v < 0 then (v + (n:Int)).toNat else min v.toNat n):Nat):Int)
 by_cases hv:v < 0
 ·simp only[if_pos hv]; omega
 ·simp only[if_neg hv]; omega
theorem adjust_gen(lo hi:Option Int)(n:Nat):Builtin.Slice.sliceAdjust lo hi 1 (n:Int)=(((sIx n 0 lo:Nat):Int),((sIx n n hi:Nat):Int)):=by
 have h1:¬ ((1:Int) < 0):=by omega
 unfold Builtin.Slice.sliceAdjust;simp only[h1,if_false];refine Prod.ext ?_ ?_
 ·cases lo with
  | none=>rfl
  | some v=>exact clip_eq v n 0
 ·cases hi with
  | none=>rfl
  | some v=>exact clip_eq v n n
theorem places_gen(i j:Nat):Builtin.Slice.slicePlaces (i:Int) (j:Int) 1=j - i:=by
 unfold Builtin.Slice.slicePlaces;have h1:(1:Int) > 0:=by omega
 simp only[h1,if_true,Int.ediv_one];split <;> omega
theorem slicePart_{v:Value}{o:Option Int}{Q:Option Int->Shared->Prop}(p:IsPart v o)(h:Q o s):wpAny (model prog w) A (Builtin.Slice.slicePartIndex v) Q E s:=by
 cases p with
 | none=>exact slicePart_none h
 | int i t=>exact slicePart_int h
theorem sliceApplied_gen{sl:Addr}{vl vu:Value}{lo hi:Option Int}{n:Nat}{Q:Int×Int×Nat->Shared->Prop}(hs:s.heap.IsSliceOf sl vl vu .none)(pl:IsPart vl lo)(pu:IsPart vu hi)
  (h:Q (((sIx n 0 lo:Nat):Int),1,sIx n n hi - sIx n 0 lo) s):wpAny (model prog w) A (Builtin.Slice.sliceApplied (.ref sl) (pure (n:Int))) Q E s:=by
 obtain⟨os,hos,hcs,hds⟩:=id hs;unfold Builtin.Slice.sliceApplied Builtin.Slice.sliceFields;refine wpAny_bind (wpAny_bind (wpAny_field hos hds (x:=vl) rfl (wpAny_bind (wpAny_field hos hds (x:=vu) rfl (wpAny_bind (wpAny_field hos hds (x:=.none) rfl (wpAny_pure ?_)))))));refine wpAny_bind (slicePart_none ?_);show wpAny _ _ (if ((1:Int) == 0)=true then _ else _) _ _ s
 rw[if_neg (by decide)]
 refine wpAny_bind (slicePart_ pl (wpAny_bind (slicePart_ pu (wpAny_bind (wpAny_pure ?_)))));show wpAny _ _ (match Builtin.Slice.sliceAdjust lo hi 1 (n:Int) with | (lo,hi)=>pure (lo,(1:Int),Builtin.Slice.slicePlaces lo hi 1)) _ _ s
 rw[adjust_gen lo hi n];show wpAny _ _ (pure (((sIx n 0 lo:Nat):Int),(1:Int),Builtin.Slice.slicePlaces ((sIx n 0 lo:Nat):Int) ((sIx n n hi:Nat):Int) 1)) _ _ s;rw[places_gen];exact wpAny_pure h
theorem pick_gen(xs:Array Value)(i k:Nat):((List.range k).filterMap fun(m:Nat)=>xs[((i:Int) + (m:Int) * 1).toNat]?).toArray=((xs.toList.drop i).take k).toArray:=by
 have e:(fun(m:Nat)=>xs[((i:Int) + (m:Int) * 1).toNat]?)=fun m=>xs[i + m]?:=by
  funext m
  have:((i:Int) + (m:Int) * 1).toNat=i + m:=by omega
  rw[this]
 rw[e];have:=pick_run xs i k;rw[List.filterMap_map] at this;have e2:((fun x=>xs[x]?) ∘ fun x=>i + x)=fun m=>xs[i + m]?:=rfl
 rw[e2] at this;rw[this]
theorem getItem_tuple_cut{t sl:Addr}{items:Array Value}{vl vu:Value}{lo hi:Option Int}{Q:Value->Shared->Prop}(ht:IsTup s.heap t items)(hs:s.heap.IsSliceOf sl vl vu .none)(pl:IsPart vl lo)(pu:IsPart vu hi)
  (hw:¬ (sIx items.size 0 lo=0/\sIx items.size items.size hi=items.size))
  (h:Q (.ref s.heap.objs.size) { s with heap:=s.heap.push { cls:=.type "tuple",data:=.seq ((items.toList.drop (sIx items.size 0 lo)).take (sIx items.size items.size hi - sIx items.size 0 lo)).toArray } })
  (hsz:items.size<=sizeLine):wpAny (model prog w) A (getItem (.ref t) (.ref sl)) Q E s:=by
 have htake:sizeOk (.seq ((items.toList.drop (sIx items.size 0 lo)).take (sIx items.size items.size hi - sIx items.size 0 lo)).toArray):=by
  show((items.toList.drop (sIx items.size 0 lo)).take (sIx items.size items.size hi - sIx items.size 0 lo)).toArray.size<=sizeLine;rw[List.size_toArray,List.length_take,List.length_drop,Array.length_toList];omega
 have hj:sIx items.size items.size hi<=items.size:=sIx_le _ _ (Nat.le_refl _) hi;obtain⟨os,hos,hcs,hds⟩:=id hs;have hTs:s.TypeIs (.ref sl) "slice" := ⟨os,hos,hcs⟩;unfold getItem
 try with_reducible refine wpAny_holding ?_
 first | refine wpAny_bind (wpAny_pure ?_) | skip
 refine wpAny_bind (wpAny_sequenceKey ht.typeIs (by decide) ?_)
 refine wpAny_bind (wpAny_callSpecial?_slot (name:=Str.ofString "__getitem__") ht.typeIs PyProof.Rows.slot_tuple_getitem
  (wpAny_call_entry PyProof.Rows.slot_tuple_getitem ht.typeIs entry_tuple_getitem ?_ (args_tuple_getitem _ _)))
 show wpAny _ _ (Builtin.Tuple.tupleItemsOf (.ref t) >>= _) _ _ s;refine wpAny_bind (tupleItemsOf_ ht ?_);refine wpAny_bind (wpAny_typeOf hTs ?_);rw[if_pos (by decide)]
 refine wpAny_bind (sliceApplied_gen hs pl pu ?_);have hno:¬ ((((sIx items.size 0 lo:Nat):Int) == 0 && (1:Int) == 1 && (sIx items.size items.size hi - sIx items.size 0 lo) == items.size)=true):=by
  intro q;rw[bA0,bA0] at q;have q1:((sIx items.size 0 lo:Nat):Int)=0:=eq_of_beq q.1.1;have q2:sIx items.size items.size hi - sIx items.size 0 lo=items.size:=eq_of_beq q.2;exact hw ⟨by omega,by omega⟩
 show wpAny _ _ (if (((sIx items.size 0 lo:Nat):Int) == 0 && (1:Int) == 1 && (sIx items.size items.size hi - sIx items.size 0 lo) == items.size)=true then _ else _) _ _ s
 rw[if_neg hno,pick_gen]
 first
  | exact wpAny_bind (m:=Builtin.Tuple.tupleExact _) (wpAny_newObj_type (wpAny_pure ⟨_,rfl,wpAny_pure h⟩) htake)
  | exact wpAny_bind (m:=Builtin.Tuple.tupleExact _) (wpAny_newObj_type (wpAny_bind (wpAny_pure (wpAny_pure ⟨_,rfl,wpAny_pure h⟩))) htake)
  | exact wpAny_bind (wpAny_bind (m:=Builtin.Tuple.tupleExact _) (wpAny_newObj_type (wpAny_pure (wpAny_pure ⟨_,rfl,wpAny_pure h⟩)) htake))
  | exact wpAny_bind (wpAny_bind (m:=Builtin.Tuple.tupleExact _) (wpAny_newObj_type (wpAny_pure ⟨_,rfl,wpAny_pure h⟩) htake))
end
end HT
namespace L2
open PySem PySem.Spec PyProof.Rows
theorem intsAre_of{ns:List Int}:∀ {us:List Value},Vals (ns.map V.int) us->IntsAre us ns:=by
 induction ns with
 | nil=>intro us r; rw[List.map_nil] at r; cases r; exact .nil
 | cons n ns ih =>
  intro us r;rw[List.map_cons] at r;cases r with
  | cons r1 r2 =>
   obtain⟨t,e⟩:=r1;subst e;exact .cons n t (ih r2)
section
variable{X:Cx}{e:Expr}{te:TE}{lo hi:Option Expr}{tl th:TO}{pos p2:Pos}
noncomputable def cutV(xs:List V)(lo hi:Option Int):List V:=(xs.drop (HT.sIx xs.length 0 lo)).take (HT.sIx xs.length xs.length hi - HT.sIx xs.length 0 lo)
theorem cutV_length(xs:List V)(lo hi:Option Int):(cutV xs lo hi).length<=xs.length:=by
 unfold cutV;rw[List.length_take,List.length_drop];omega
noncomputable def rLtT(K:PySem.W.Frag):R2:=fun x y H Q=>∃ a b ns ms,x=.ref a/\y=.ref b/\SqT K H a (ns.map V.int)/\SqT K H b (ms.map V.int)/\Q (.bl (HT.lexLt ns ms)) H
theorem op_ltT(hu:X.A.units < cLine):OpR X (compareOp .Lt) (rLtT X.K):=by
 intro pins s σ H x y v u Q I rx ry h;obtain⟨a,b,ns,ms,rfl,rfl,ha,hb,q⟩:=h;cases rx;cases ry;obtain⟨its,r1,p1,_⟩:=I.tuple ha;obtain⟨its2,r2,p2,_⟩:=I.tuple hb;have i1:IntsAre its.toArray.toList ns:=intsAre_of r1;have i2:IntsAre its2.toArray.toList ms:=intsAre_of r2;exact HT.lt_tupInts p1 p2 i1 i2 hu ⟨.bl (HT.lexLt ns ms),H,I,rfl,q⟩
end
end L2
namespace L2
open PySem PySem.Spec PyProof.Rows
noncomputable def ixN(n:Nat)(i:Int):Option Nat:=if 0<=i then (if i < n then some i.toNat else none) else if -(n:Int)<=i then some (i + n).toNat else none
noncomputable def atI{α:Type}(xs:List α)(i:Int):Option α:=(ixN xs.length i).bind fun j=>xs[j]?
theorem ixN_seq{n:Nat}{i:Int}{j:Nat}(h:ixN n i=some j):seqIndex? i n=some j/\j < n/\-(n:Int)<=i/\i < n:=by
 unfold ixN at h
 by_cases h0:0<=i
 ·rw[if_pos h0] at h
  by_cases h1:i < n
  ·rw[if_pos h1] at h
   have e:i.toNat=j:=Option.some.inj h;exact⟨by rw[seqIndex_of h0 h1,e],by omega,by omega,h1⟩
  ·rw[if_neg h1] at h; cases h
 ·rw[if_neg h0] at h
  by_cases h1:-(n:Int)<=i
  ·rw[if_pos h1] at h
   have e:(i + n).toNat=j:=Option.some.inj h;exact⟨by rw[seqIndex_neg (by omega) h1,e],by omega,h1,by omega⟩
  ·rw[if_neg h1] at h; cases h
theorem atI_get{α:Type}{xs:List α}{i:Int}{v:α}(h:atI xs i=some v):∃ j,seqIndex? i xs.length=some j/\xs[j]?=some v/\j < xs.length/\-(xs.length:Int)<=i/\i < xs.length:=by
 unfold atI at h;cases e:ixN xs.length i with
 | none=>rw[e] at h; cases h
 | some j =>
  rw[e] at h;obtain⟨h1,h2,h3,h4⟩:=ixN_seq e;exact⟨j,h1,h,h2,h3,h4⟩
def PlainIx(b:Expr):Prop:=∀ o i,subscripted b false o i=operate [o,i] (getItem o i)
def IxR(X:Cx)(r:R2):Prop :=
 ∀ (value slice:Expr) (pins:List (Addr×Obj)) (s:Shared) (σ:St) (H:Hp) (x y:V) (v u:Value) (Q:VK),Inv X pins σ H s->RelV x v->RelV y u->r x y H Q ->
  subscripted slice false v u=operate [v,u] (getItem v u)->wpAny (model X.prog X.w) X.A (subscriptTail value slice v u) (EP X pins σ Q) X.xe s
section
variable{X:Cx}{a b:Expr}{ta tb:TE}{pos:Pos}
noncomputable def rIxL(K:PySem.W.Frag):R2:=fun x y H Q=>∃ p xs i v,x=.ref p/\y=.int i/\SqL K H p xs/\atI xs i=some v/\Q v H
noncomputable def rIxT(K:PySem.W.Frag):R2:=fun x y H Q=>∃ p xs i v,x=.ref p/\y=.int i/\SqT K H p xs/\atI xs i=some v/\Q v H
noncomputable def rIxS:R2:=fun x y H Q=>∃ z i c,x=.str z/\y=.int i/\z.length<=sizeLine/\atI z.cps.toList i=some c/\Q (.str ⟨#[c]⟩) H
theorem ix_list:IxR X (rIxL X.K):=by
 intro value slice pins s σ H x y v u Q I rx ry h hs;obtain⟨p,xs,i,z,rfl,rfl,hq,he,q⟩:=h;cases rx;obtain⟨t,rfl⟩:=ry;obtain⟨its,r,pl,hz⟩:=I.list hq;obtain⟨j,h1,h2,h3,h4,h5⟩:=atI_get he;obtain⟨w,ew,rw'⟩:=r.get h2;have hl:=r.length;have hn:=line63;have fin:EP X pins σ Q w s:=⟨z,H,I,rw',q⟩
 by_cases h0:0<=i
 ·have hj:i.toNat=j:=by
   rw[seqIndex_of h0 h5] at h1;exact Option.some.inj h1
  exact item_listR pl.isList h0 (by omega) (by rw[hj]; simpa using ew) fin hs
 ·have hj:(i + (its.toArray.size:Int)).toNat=j:=by
   rw[seqIndex_neg (by omega) h4] at h1
   rw[List.size_toArray,<- hl];exact Option.some.inj h1
  exact subscriptTail_builtinR (x:=w) pl.isList.typeIs slot_list_getitem.lookup
   (wpAny_getItem_list_neg (Q:=fun r s'=>r=w/\EP X pins σ Q r s') pl.isList (by omega) (by rw[List.size_toArray] <;> omega) (by omega) (by rw[hj]; simpa using ew) ⟨rfl,fin⟩) hs
theorem ix_tup:IxR X (rIxT X.K):=by
 intro value slice pins s σ H x y v u Q I rx ry h hs;obtain⟨p,xs,i,z,rfl,rfl,hq,he,q⟩:=h;cases rx;obtain⟨t,rfl⟩:=ry;obtain⟨its,r,pl,hz⟩:=I.tuple hq;obtain⟨j,h1,h2,h3,h4,h5⟩:=atI_get he;obtain⟨w,ew,rw'⟩:=r.get h2;have hl:=r.length;have hn:=line63;have fin:EP X pins σ Q w s:=⟨z,H,I,rw',q⟩;exact subscriptTail_builtinR (x:=w) pl.typeIs slot_tuple_getitem.lookup
  (getItem_tuple (j:=j) (Q:=fun r s'=>r=w/\EP X pins σ Q r s') pl (by omega) (by omega) (by rw[List.size_toArray,<- hl]; exact h1) (by simpa using ew) ⟨rfl,fin⟩) hs
theorem ix_str:IxR X rIxS:=by
 intro value slice pins s σ H x y v u Q I rx ry h hs;obtain⟨z,i,c,rfl,rfl,hz,he,q⟩:=h;obtain⟨t,rfl⟩:=rx;obtain⟨t',rfl⟩:=ry;obtain⟨j,h1,h2,h3,h4,h5⟩:=atI_get he;have hl:z.cps.toList.length=z.length:=by simp[Str.length]
 rw[hl] at h1 h4 h5;have hn:=line63;exact tail_any (typeIs_str s z t) slot_str_getitem.lookup (getItem_str (c:=c) (by
  have e1:decide (i < -(2 ^ 63:Int))=false:=decide_eq_false (by omega)
  have e2:decide (i ≥ 2 ^ 63)=false:=decide_eq_false (by omega)
  rw[e1,e2,Bool.or_false]) (by rw[h1]; simpa using h2) ⟨.str ⟨#[c]⟩,H,I.tok _,⟨_,rfl⟩,q⟩) hs
theorem mapSeq_set(its:List Value)(n j:Nat)(u:Value):Obj.mapSeq (·.setIfInBounds j u) { cls:=.type "list",data:=.seq its.toArray n }={ cls:=.type "list",data:=.seq (its.set j u).toArray n }:=by
 simp[Obj.mapSeq]
theorem Inv.lst{pins:List (Addr×Obj)}{σ:St}{H:Hp}{s:Shared}{p:Addr}{xs:List V}(I:Inv X pins σ H s)(h:H p=some (.lst xs)) :
  ∃ (its:List Value) (n:Nat),Vals xs its/\s.heap.get? p=some { cls:=.type "list",data:=.seq its.toArray n }/\xs.length<=sizeLine:=by
 obtain⟨z,its,n,r,e⟩:=I.hok p _ h;exact⟨its,n,r,e,z⟩
theorem Inv.lstUpd{pins:List (Addr×Obj)}{σ:St}{H:Hp}{s:Shared}{p:Addr}{xs ys:List V}{its its':List Value}{n n':Nat}{f:Obj->Obj}(I:Inv X pins σ H s)(h:H p=some (.lst xs))
  (ho:s.heap.get? p=some { cls:=.type "list",data:=.seq its.toArray n }) (hf:f { cls:=.type "list",data:=.seq its.toArray n }={ cls:=.type "list",data:=.seq its'.toArray n' }) (r:Vals ys its') (hz:ys.length<=sizeLine) (t:Nat) :
  Inv X pins σ (upd H p (.lst ys)) { s with heap:=s.heap.update p f,toks:=t }:=by
 have e:(s.heap.update p f).get? p=some { cls:=.type "list",data:=.seq its'.toArray n' }:=by
  rw[Heap.get?_update_self f ho (by rw[hf] <;> rfl),hf]
 refine I.write (x:=p) (e:=p) (by rw[h]; trivial) (.inl rfl) (fun b u hb q=>(Heap.get?_update_other _ _ (Ne.symm hb)).trans q) ⟨_,e⟩ ?_
 exact⟨hz,its',n',r,e⟩
def rSetL:V->V->V->Hp->(Hp->Prop)->Prop:=fun o i v H Q=>∃ p xs k j,o=.ref p/\i=.int k/\H p=some (.lst xs)/\ixN xs.length k=some j/\Q (upd H p (.lst (xs.set j v)))
theorem set_list:PSet X rSetL:=by
 intro pins s σ H o i v ov iv u Q I ro ri rv h;obtain⟨p,xs,k,j,rfl,rfl,hp,hj,q⟩:=h;cases ro;obtain⟨t,rfl⟩:=ri;obtain⟨its,n,r,ho,hz⟩:=I.lst hp;obtain⟨h1,h2,h3,h4⟩:=ixN_seq hj;have hl:=r.length;have hn:=line63;have I':Inv X pins σ (upd H p (.lst (xs.set j v))) { s with heap:=s.heap.update p (Obj.mapSeq (·.setIfInBounds j u)) } :=
  I.lstUpd hp ho (mapSeq_set its n j u) (r.set rv j) (by rw[List.length_set]; exact hz) s.toks
 by_cases h0:0<=k
 ·have hk:k.toNat=j:=by
   rw[seqIndex_of h0 h4] at h1;exact Option.some.inj h1
  exact PySem.W.ki_setAt ho h0 (by omega) (by rw[List.size_toArray,<- hl]; exact h4) (by rw[hk]; exact⟨_,I',q⟩)
 ·have hk:(k + (its.toArray.size:Int)).toNat=j:=by
   rw[seqIndex_neg (by omega) h3] at h1
   rw[List.size_toArray,<- hl];exact Option.some.inj h1
  exact PySem.W.ki_setBack ho (by omega) (by rw[List.size_toArray,<- hl]; exact h3) (by omega) (by rw[hk]; exact⟨_,I',q⟩)
theorem slice_bounds(lo hi:Option Int)(n:Nat):(sliceBounds lo hi none n).1=((HT.sIx n 0 lo:Nat):Int)/\(sliceBounds lo hi none n).2.1=((HT.sIx n n hi:Nat):Int)/\(sliceBounds lo hi none n).2.2=1:=by
 refine⟨?_,?_,rfl⟩
 ·cases lo with
  | none=>simp[sliceBounds,HT.sIx]
  | some i =>
   simp only[sliceBounds,HT.sIx,Option.getD_none,show(1:Int) > 0 by decide,if_true]
   by_cases h:i < 0
   ·simp only[h,if_true] <;> omega
   ·simp only[h,if_false] <;> omega
 ·cases hi with
  | none=>simp[sliceBounds,HT.sIx]
  | some i =>
   simp only[sliceBounds,HT.sIx,Option.getD_none,show(1:Int) > 0 by decide,if_true]
   by_cases h:i < 0
   ·simp only[h,if_true] <;> omega
   ·simp only[h,if_false] <;> omega
theorem slicePick_cut(its:List Value)(lo hi:Option Int):slicePick its.toArray lo hi none=((its.drop (HT.sIx its.length 0 lo)).take (HT.sIx its.length its.length hi - HT.sIx its.length 0 lo)).toArray:=by
 obtain⟨h1,h2,h3⟩:=slice_bounds lo hi its.toArray.size;unfold slicePick;rw[h1,h2,h3];simp only[sliceRange_one,pick_run,List.size_toArray] <;> rfl
theorem call_len_seq:CallR X (.builtin "len") (fun xs H Q=>∃ p ys,xs=[.ref p]/\(SqL X.K H p ys\/SqT X.K H p ys)/\Q (.int ys.length) H):=by
 intro pins s σ H xs us Q I r h;obtain⟨p,ys,rfl,hq,q⟩:=h;obtain⟨u,rfl,rx⟩:=vals1 r;cases rx;have hn:=line63;rcases hq with hq | hq
 ·obtain⟨its,r',pl,hz⟩:=I.list hq
  have hlen:=r'.length;exact Calls.call_len_list pl.isList (by simp only[List.size_toArray] <;> omega) ⟨.int ys.length,H,I.tok _,⟨s.toks + 1,by rw[List.size_toArray,hlen]⟩,q⟩
 ·obtain⟨its,r',pl,hz⟩:=I.tuple hq
  have hlen:=r'.length;exact len_tuple pl (by simp only[List.size_toArray] <;> omega) ⟨.int ys.length,H,I.tok _,⟨s.toks + 1,by rw[List.size_toArray,hlen]⟩,q⟩
theorem call_len_str:CallR X (.builtin "len") (fun xs H Q=>∃ z,xs=[.str z]/\z.length<=sizeLine/\Q (.int z.length) H):=by
 intro pins s σ H xs us Q I r h;obtain⟨z,rfl,hz,q⟩:=h;obtain⟨u,rfl,t,rfl⟩:=vals1 r;have hn:=line63;exact len_str (by omega) ⟨.int z.length,H,I.tok _,⟨_,rfl⟩,q⟩
theorem call_list_of:CallR X (.type "list") (fun xs H Q=>∃ p ys,xs=[.ref p]/\(SqL X.K H p ys\/SqT X.K H p ys)/\∀ l,H l=none->Q (.ref l) (upd H l (.lst ys))):=by
 intro pins s σ H xs us Q I r h;obtain⟨p,ys,rfl,hq,q⟩:=h;obtain⟨u,rfl,rx⟩:=vals1 r;cases rx;have fin:∀ (its:List Value),Vals ys its->ys.length<=sizeLine->∀ (h':Heap) (c':Nat),(∀ b o',s.heap.get? b=some o'->h'.get? b=some o') ->
   h'.get? s.heap.objs.size=some { cls:=.type "list",dict:=none,data:=.seq its.toArray c',slots:=#[] }->EP X pins σ Q (.ref s.heap.objs.size) { s with heap:=h' }:=fun its r' hz h' c' kp e =>
  ⟨.ref s.heap.objs.size,_,I.laid (t':=s.toks) kp (Nat.le_refl _) (show ObjOk X.prog X.w _ h' _ (.lst ys) from⟨hz,its,c',r',e⟩),rfl,q _ (I.hok.fresh (Nat.le_refl _))⟩
 rcases hq with hq | hq
 ·obtain⟨its,r',pl,hz⟩:=I.list hq
  have hlen:=r'.length;obtain⟨o,ho,hc,n,hd⟩:=pl.isList;exact call_list_seq p (.inl rfl) ho hc hd (fun h' c' kp e=>fin its r' hz h' c' kp e) (by simp only[List.size_toArray] <;> omega)
 ·obtain⟨its,r',pl,hz⟩:=I.tuple hq
  have hlen:=r'.length;obtain⟨o,ho,hc,n,hd⟩:=pl;exact call_list_seq p (.inr rfl) ho hc hd (fun h' c' kp e=>fin its r' hz h' c' kp e) (by simp only[List.size_toArray] <;> omega)
theorem call_tuple_of:CallR X (.type "tuple") (fun xs H Q=>∃ p ys,xs=[.ref p]/\((SqL X.K H p ys/\∀ l,H l=none->Q (.ref l) (upd H l (.tup ys)))\/(SqT X.K H p ys/\Q (.ref p) H))):=by
 intro pins s σ H xs us Q I r h;obtain⟨p,ys,rfl,h⟩:=h;obtain⟨u,rfl,rx⟩:=vals1 r;cases rx;rcases h with⟨hq,q⟩ | ⟨hq,q⟩
 ·obtain⟨its,r',pl,hz⟩:=I.list hq
  have hlen:=r'.length;refine call_tuple_list pl.isList (fun h' kp=>?_) (by simp only[List.size_toArray] <;> omega)
  have I1:Inv X pins σ H { s with heap:=h' }:=I.kept (t':=s.toks) kp
  have I2:Inv X pins σ (upd H h'.objs.size (.tup ys)) { s with heap:=h'.push { cls:=.type "tuple",data:=.seq its.toArray } } :=
   I1.laid (t':=s.toks) (fun b o e=>Heap.get?_push_of_some _ e) (Nat.le_refl _) (show ObjOk X.prog X.w _ _ _ (.tup ys) from⟨hz,its,r',IsTup.new _ _⟩)
  exact⟨.ref h'.objs.size,_,I2,rfl,q _ (I1.hok.fresh (Nat.le_refl _))⟩
 ·obtain⟨its,r',pl,hz⟩:=I.tuple hq
  exact call_tuple_same pl ⟨.ref p,H,I,rfl,q⟩
variable{o e:Expr}{es:List Expr}{to:TE}{t:TA}{name:Str}{apos cpos:Pos}{T id:String}{r:V->List V->Hp->VK->Prop}
/- xs.append(e),list.index on a module's tuple .. are MtR facts of 06m -/
end
end L2
namespace L2
open PySem PySem.Spec PyProof.Rows
def MtM(X:Cx)(id:String)(r:V->List V->Hp->VK->Prop):Prop :=
 ∀ (pins:List (Addr×Obj)) (s:Shared) (σ:St) (H:Hp) (x:V) (xs:List V) (v:Value) (us:List Value) (Q:VK),Inv X pins σ H s->RelV x v->Vals xs us->r x xs H Q ->
  wpAny (model X.prog X.w) X.A (call (.builtin id) (v :: us)) (EP X pins σ Q) X.xe s
theorem Vals.one:∀ {x:V} {us:List Value},Vals [x] us->∃ u,us=[u]/\RelV x u
 | _,_,.cons r .nil=>⟨_,rfl,r⟩
theorem Vals.two:∀ {x y:V} {us:List Value},Vals [x,y] us->∃ u v,us=[u,v]/\RelV x u/\RelV y v
 | _,_,_,.cons r (.cons q .nil)=>⟨_,_,rfl,r,q⟩
theorem Vals.zero:∀ {us:List Value},Vals [] us->us=[]
 | _,.nil=>rfl
theorem Vals.eraseIdx:∀ {xs:List V} {us:List Value} (i:Nat),Vals xs us->Vals (xs.eraseIdx i) (us.eraseIdx i)
 | _,_,_,.nil=>.nil
 | _,_,0,.cons _ t=>t
 | _,_,i + 1,.cons r t=>.cons r (Vals.eraseIdx i t)
theorem Vals.reverse{xs:List V}{us:List Value}(h:Vals xs us):Vals xs.reverse us.reverse:=by
 induction h with
 | nil=>exact .nil
 | cons r t ih=>rw[List.reverse_cons,List.reverse_cons]; exact Vals.append ih (.cons r .nil)
theorem Vals.rep{xs:List V}{us:List Value}(h:Vals xs us):∀ k:Nat,Vals (List.replicate k xs).flatten (List.replicate k us).flatten
 | 0=>.nil
 | k + 1=>by
  rw[List.replicate_succ,List.replicate_succ,List.flatten_cons,List.flatten_cons];exact Vals.append h (Vals.rep h k)
theorem foldl_rep(its:List Value):∀ (k:Nat) (acc:List Value),
  List.foldl (fun x1 x2=>x1++x2) acc.toArray (List.replicate k its.toArray)=(acc++(List.replicate k its).flatten).toArray
 | 0,acc=>by simp
 | k + 1,acc=>by
  have e:acc.toArray++its.toArray=(acc++its).toArray:=by simp
  have e2:(acc++its)++(List.replicate k its).flatten=acc++(List.replicate (k + 1) its).flatten:=by
   rw[List.replicate_succ,List.flatten_cons,List.append_assoc]
  rw[<- e2,<- foldl_rep its k (acc++its),<- e,List.replicate_succ,List.foldl_cons]
section
variable{X:Cx}{pins:List (Addr×Obj)}{σ:St}{H:Hp}{s:Shared}{l b:Addr}{xs ys zs:List V}
theorem Inv.lset{its its':List Value}{n:Nat}{f:Array Value->Array Value}{t':Nat}(I:Inv X pins σ H s)(hH:H l=some (.lst xs))
  (e:s.heap.get? l=some { cls:=.type "list",data:=.seq its.toArray n }) (hf:f its.toArray=its'.toArray) (hv:Vals ys its') (hz:ys.length<=sizeLine) :
  Inv X pins σ (upd H l (.lst ys)) { s with heap:=s.heap.update l (Obj.mapSeq f),toks:=t' }:=by
 have q:=PySem.IsL.update e f;rw[hf] at q;refine I.write (x:=l) (e:=l) (by rw[hH]; exact trivial) (.inl rfl) (fun b' u hb hu=>(Heap.get?_update_other s.heap (Obj.mapSeq f) (Ne.symm hb)).trans hu) ⟨_,q⟩ ?_
 exact⟨hz,its',_,hv,q⟩
theorem Inv.lnew{its:List Value}{t':Nat}(I:Inv X pins σ H s)(hv:Vals ys its)(hz:ys.length<=sizeLine) :
  Inv X pins σ (upd H s.heap.objs.size (.lst ys)) { s with heap:=s.heap.push { cls:=.type "list",data:=.seq its.toArray },toks:=t' } :=
 I.laid (fun _ _ q=>Heap.get?_push_of_some _ q) (Nat.le_refl _) ⟨hz,its,0,hv,Heap.get?_push_size _ rfl⟩
theorem Inv.fresh(I:Inv X pins σ H s):H s.heap.objs.size=none:=I.hok.fresh (Nat.le_refl _)
theorem Inv.lstM(I:Inv X pins σ H s)(hH:H l=some (.lst xs)):xs.length<=sizeLine/\∃ (its:List Value) (n:Nat),Vals xs its/\xs.length=its.length/\s.heap.get? l=some { cls:=.type "list",data:=.seq its.toArray n }:=by
 obtain⟨z,its,n,r,e⟩:=I.hok l _ hH;exact⟨z,its,n,r,r.length,e⟩
theorem notLongL{n:Nat}(h:n<=sizeLine):Builtin.List.listTooLong n=false:=by
 unfold Builtin.List.listTooLong;exact decide_eq_false (by omega)
end
section
variable{X:Cx}
def rAppend:V->List V->Hp->VK->Prop:=fun x vs H Q=>∃ l xs y,x=.ref l/\vs=[y]/\H l=some (.lst xs)/\xs.length < sizeLine/\Q .non (upd H l (.lst (xs++[y])))
theorem mt_append:MtM X "list.append" rAppend:=by
 intro pins s σ H x vs v us Q I rx rv h;obtain⟨l,xs,y,rfl,rfl,hH,hz,q⟩:=h;cases rx;obtain⟨u,rfl,ru⟩:=rv.one;obtain⟨z,its,n,r,hl,e⟩:=I.lstM hH;refine call_meets F.slot_list_append ⟨_,e,rfl⟩ F.entry_list_append (F.args_list_append_2 _ _) (PySem.list_append l its.toArray n u (by rw[List.size_toArray]; omega)) ⟨e,?_⟩
 refine⟨.non,_,I.lset (its':=its++[u]) hH e (by simp) (r.append (.cons ru .nil)) ?_,rfl,q⟩
 rw[List.length_append,List.length_singleton];omega
noncomputable def rCat:R2:=fun x y H Q=>∃ l b xs zs,x=.ref l/\y=.ref b/\H l=some (.lst xs)/\H b=some (.lst zs)/\xs.length + zs.length<=sizeLine/\∀ p,H p=none->Q (.ref p) (upd H p (.lst (xs++zs)))
theorem op_cat:OpR X (binaryOp .Add) rCat:=by
 intro pins s σ H x y v u Q I rx ry h;obtain⟨l,b,xs,zs,rfl,rfl,hH,hB,hz,q⟩:=h;cases rx;cases ry;obtain⟨z,its,n,r,hl,e⟩:=I.lstM hH;obtain⟨z2,its2,n2,r2,hl2,e2⟩:=I.lstM hB;refine PySem.P.add_list e e2 ?_ (by rw[List.size_toArray,List.size_toArray]; omega)
 have ea:its.toArray++its2.toArray=(its++its2).toArray:=by simp
 rw[ea];exact⟨.ref _,_,I.lnew (t':=s.toks) (r.append r2) (by rw[List.length_append]; omega),rfl,q _ I.fresh⟩
noncomputable def rRep:R2:=fun x y H Q=>∃ l k xs,x=.ref l/\y=.int k/\H l=some (.lst xs)/\-(2 ^ 63)<=k/\k < 2 ^ 63/\xs.length * k.toNat<=sizeLine /\
 ∀ p,H p=none->Q (.ref p) (upd H p (.lst (List.replicate k.toNat xs).flatten))
theorem len_rep{α:Type}(xs:List α)(k:Nat):(List.replicate k xs).flatten.length=k * xs.length:=by
 induction k with
 | zero=>simp
 | succ k ih=>rw[List.replicate_succ,List.flatten_cons,List.length_append,ih,Nat.succ_mul,Nat.add_comm]
theorem op_rep:OpR X (binaryOp .Mult) rRep:=by
 intro pins s σ H x y v u Q I rx ry h;obtain⟨l,k,xs,rfl,rfl,hH,h1,h2,hz,q⟩:=h;cases rx;obtain⟨t,rfl⟩:=ry;obtain⟨z,its,n,r,hl,e⟩:=I.lstM hH;have hlen:its.toArray.size * k.toNat<=sizeLine:=by rw[List.size_toArray,<- hl]; exact hz
 have hcap:¬ its.toArray.size * k.toNat > (2 ^ 63 - 1) / 8:=by
  have:(sizeLine:Nat)<=(2 ^ 63 - 1) / 8:=by decide
  omega
 have hfit:¬ (!Builtin.List.listFitsIndex k)=true:=by
  rw[fitsIndex_both h1 h2];exact Bool.false_ne_true
 have hlong:¬ Builtin.List.listTooLong (its.toArray.size * k.toNat)=true:=by
  rw[notLongL hlen];exact Bool.false_ne_true
 have hnew:List.foldl (fun x1 x2=>x1++x2) #[] (List.replicate (if its.toArray.isEmpty=true then 0 else k.toNat) its.toArray)=(List.replicate k.toNat its).flatten.toArray:=by
  have f0:∀ m:Nat,List.foldl (fun x1 x2=>x1++x2) #[] (List.replicate m its.toArray)=(List.replicate m its).flatten.toArray:=fun m=>by
   have:=foldl_rep its m [];rw[List.nil_append] at this;exact this
  rw[f0];cases its with
  | nil=>simp
  | cons a r'=>rw[if_neg (by simp)]
 refine wpAny_binaryOp_repeat_ref (T := "list") (U := "int") (by decide) ⟨_,e,rfl⟩ (fun s'=>typeIs_int s' k t) noFill_list_mul F.fills_int_mul F.slot_int_rmul repeat_list F.slot_int_index.lookup
  (call_meets F.slot_int_rmul (typeIs_int s k t) F.entry_int_rmul (F.args_int_rmul_2 _ _) (int___rmul___int_list k t l its.toArray n)
   ⟨e,rfl,⟨_,e,rfl⟩,call_meets F.slot_list_mul ⟨_,e,rfl⟩ F.entry_list_mul (F.args_list_mul_2 _ _) (AutoListH.list___mul___list_int_3 l its.toArray n k t hfit hcap hlong) ⟨e,?_⟩⟩)
 rw[hnew];exact⟨.ref _,_,I.lnew (t':=s.toks) (r.rep k.toNat) (by rw[len_rep,Nat.mul_comm]; exact hz),rfl,q _ I.fresh⟩
end
section
variable{prog:Program}{w:World}{A:Around}{E:Value->Shared->Prop}{s:Shared}
end
section
variable{X:Cx}
end
end L2
namespace Att
open PySem PySem.W PySem.Calls PyProof.Rows
theorem ints_of_wellAll{P:Params}{h:Heap}:∀ (ns:List Int) (vs:List Value),WellAll P h vs (ns.map WData.int)->IntsAre vs ns:=by
 intro ns
 induction ns with
 | nil =>
  intro vs w;rw[List.map_nil] at w;cases w;exact .nil
 | cons n ns ih =>
  intro vs w;rw[List.map_cons] at w;cases w with
  | cons a b =>
   cases a;exact .cons _ _ (ih _ b)
theorem script_of{l:OpenLaw}{n:Nat}(hn:l.most=some n){P:Params}{h:Heap}{args:List WData}{vals:List Value}
  (hpre:l.row.toRowW.claim.pre args=true) (hwl:WellAll P h vals args) :
  ∃ a vs ns,vals=[Value.ref a]/\args=[WData.list (ns.map WData.int)]/\h.get? a=some { cls:=.type "list",data:=.seq vs.toArray }/\IntsAre vs ns/\ns.length<=n:=by
 have hsh:WShape.hasAll [] args [.list .int]=true:=(pre_splitW hpre).1;have hc:l.pre.holds [] { args:=args }=true:=(pre_splitW hpre).2;obtain⟨d,r,rfl,h1,h2⟩:=hasAllW_cons hsh;obtain rfl:=hasAllW_nil h2;obtain⟨xs,rfl,h3⟩:=hasW_list h1;obtain⟨ns,rfl⟩:=items_int h3;have hlen:ns.length<=n:=by
  unfold OpenLaw.pre at hc;have h4:(WTm.not (.lt (.lit (.int (n:Int))) (.len (.arg 0)))).holds [] { args:=[.list (ns.map .int)] }=true:=by
   have h4:=(holds_andW hc).1;rw[hn] at h4;exact h4
  have h5:=condW_of h4 (w_not (w_lt w_lit (w_len_list (w_arg rfl))));rw[List.length_map] at h5;refine Nat.le_of_not_lt fun q=>?_
  have q':(n:Int) < ((ns.length:Nat):Int):=by omega
  first
   | (rw[decide_eq_true q'] at h5; exact absurd h5 (by decide))
   | (simp at h5; omega)
 cases hwl with
 | cons w1 w2 =>
  cases w2;cases w1 with
  | list ho hall=>exact⟨_,_,ns,rfl,rfl,ho,ints_of_wellAll ns _ hall,hlen⟩
theorem post_true(l:OpenLaw)(args:List WData):l.row.toRowW.claim.post args (.bool true) args=true :=
 postW_of (r:=l.row.toRowW) (X:=(true == true))
  (show WShape.has [] (.bool true) .bool=true by first | rfl | decide | simp[WShape.has,WShape.arms,WShape.armsAll])
  (show(WTm.eq .res (.lit (.bool true))).value [] { args:=args,res:=some (.bool true),after:=args }=some (.bool (true == true)) from w_eq_bool (w_res rfl) w_lit) rfl
theorem attach_call{l:OpenLaw}{n:Nat}{q:Program}{loose:List Str}{XP:(Str->Option Value)->Heap->Prop}{YP:World->Heap->Prop}{d:DefRec}
  (hn:l.most=some n) (hdf:d.params.defaults=[])
  (call:∀ (w:World) (s₀ s₁:Shared) (mg mb:Str->Option Value) (fa:Addr) (o:Obj) (pm cd doc:Value) (a:Addr) (vs:List Value) (ns:List Int),
   Ground q loose [] XP w s₀ mg mb s₁.heap->YP w s₁.heap ->
   s₁.heap.get? fa=some o->o.data=.func (docDef d.name d.params d.body d.scope pm cd doc)->s₁.heap.CodeRec cd d.name->mg d.name=some (.ref fa) ->
   s₁.heap.get? a=some { cls:=.type "list",data:=.seq vs.toArray }->IntsAre vs ns->ns.length<=n->s₁.gens=#[] ->
   codeAny (model l.prog w) callerA (.call (.ref fa) ⟨[.ref a],[]⟩) (fun r s'=>r=.ok (.ret (.bool true))/\OldK s₁.heap s'.heap/\s'.os=s₁.os/\AllBare s'.gens) s₁) :
  WalkO q loose XP YP l.row.toRowW d [] (fun f vs=>PySem.call f vs):=by
 intro w s₀ s₁ mg mb G Y fa o pm cd doc dV kV ho hd hcd hD hmg hg args vals as hpre hlay hrd hwl hlo;obtain rfl:dV=.none:=Dflts.none hD hdf;obtain rfl:kV=.none:=Dflts.noKw hD;obtain⟨a,vs,ns,rfl,rfl,hobj,hints,hlen⟩:=script_of hn hpre hwl;refine enter_call (codeAny_mono (call w s₀ s₁ mg mb fa o pm cd doc a vs ns G Y ho (fd_plain hd) hcd hmg hobj hints hlen hg) fun r s' hq=>?_)
 obtain⟨rfl,h2,h3,h4⟩:=hq;exact⟨.inl ⟨.bool true,.bool true,[],rfl,fun _=>rfl,.bool true,post_true l _,fun _=>⟨List.Pairwise.nil,fun _ hm=>(nomatch hm)⟩⟩,h2,h3,h4⟩
section
variable{prog:Program}{w:World}{A:Around}{E:Value->Shared->Prop}{s:Shared}{K:Frag}
end
end Att
namespace L2
open PySem PySem.Spec PyProof.Rows
theorem vals_ints:∀ {vs:List Value} {ns:List Int},IntsAre vs ns->Vals (ns.map V.int) vs
 | _,_,.nil=>.nil
 | _,_,.cons n t h=>.cons ⟨t,rfl⟩ (vals_ints h)
def Only(H:Hp):Prop:=∀ b,H b=none\/∃ o xs,H b=some (.frz o (.lst xs))
theorem law_call{P:Program}{w:World}{K:PySem.W.Frag}{mg mb:Str->Option Value}{CX:CXT}{k:Nat}{fa a:Addr}{fd:FuncData}{x:Str}{sp:Sp}{s₁:Shared}{vs:List Value}{ns:List Int}
  (KX:K.In s₁.heap) (hns:s₁.heap.Ns mainGlobals mg) (hb:s₁.heap.Ns builtinsNs mb) (hbb:∀ x:Str,x ≠ "__name__" -> mb x=bootBuiltins x) (hlim:s₁.heap.NoLimit) (hg:s₁.gens=#[])
  (ha:s₁.heap.get? a=some { cls:=.type "list",data:=.seq vs.toArray }) (hi:IntsAre vs ns) (hl:ns.length<=sizeLine) (hr:Room k callerA)
  (F:∀ base:Heap,K.In base->base.Ns mainGlobals mg->FnOk P w K mg base CX k fa fd [x] sp) (hbind:∀ (s:Shared) (u:Value),BindsTo s fd ⟨[u],[]⟩ [(x,u)])
  (hsp:∀ H:Hp,Only H->SqL K H a (ns.map V.int)->sp [.ref a] H (fun v _=>v=.bl true) fun _ _ _=>False)
  (hCX:∀ H e s',CX [] H s₁ (fun _ _ _=>False) e s'->False) :
  codeAny (model P w) callerA (.call (.ref fa) ⟨[.ref a],[]⟩) (fun r s'=>r=.ok (.ret (.bool true))/\OldK s₁.heap s'.heap/\s'.os=s₁.os/\AllBare s'.gens) s₁:=by
 have rv:=vals_ints hi;have lenV:=hi.length;have core:∀ H:Hp,Only H->SqL K H a (ns.map V.int)->HOk P w H s₁.heap->(∀ b,H b≠none->b=a)->(H a≠none->K.lookup a=none) ->
   codeAny (model P w) callerA (.call (.ref fa) ⟨[.ref a],[]⟩) (fun r s'=>r=.ok (.ret (.bool true))/\OldK s₁.heap s'.heap/\s'.os=s₁.os/\AllBare s'.gens) s₁:=by
  intro H hO hS hok hA hK;have base_of:∀ {b:Addr} {o:Obj},s₁.heap.get? b=some o->H b=none->(hidT s₁.heap H).get? b=some o:=fun e n=>hidT_get e n
  have noA:∀ {b:Addr} {o:Obj} {es:Array DictEntry} {ep:Nat},s₁.heap.get? b=some o->o.data=.dict es ep->H b=none:=fun {b o es ep} e d=>by
   cases q:H b with
   | none=>rfl
   | some u =>
    have e':b=a:=hA b (by rw[q]; simp)
    subst e';rw[ha] at e; cases e;have d':Data.seq vs.toArray _=Data.dict es ep:=d;cases d'
  have nsK:∀ {b:Addr} {m:Str->Option Value},s₁.heap.Ns b m->(hidT s₁.heap H).Ns b m:=fun {b m} ⟨o,es,ep,e,d,r⟩=>⟨o,es,ep,base_of e (noA e d),d,r⟩
  have hKb:K.In (hidT s₁.heap H):=fun b o e=>base_of (KX b o e) (by
   cases q:H b with
   | none=>rfl
   | some u =>
    have e':b=a:=hA b (by rw[q]; simp)
    subst e';rw[hK (by rw[q]; simp)] at e; cases e)
  have hM:Mod K mg (hidT s₁.heap H):=⟨hKb,nsK hns,⟨mb,nsK hb,hbb⟩,let ⟨mc,h1,h2⟩:=hlim; ⟨mc,nsK h1,h2⟩⟩
  have e0:Env0 P w K mg (hidT s₁.heap H) callerA [] s₁ H:=⟨rfl,hM,fun b o e=>of_hidT e,Nat.le_of_eq (hidT_size _ _),trivial,fun b hb=>absurd (show b∈([]:List Addr) from hb) (by simp),hok,.of_eq hg⟩
  refine codeAny_mono ((F _ hKb (nsK hns)).run callerA [] s₁ H ⟨[.ref a],[]⟩ [.ref a] [.ref a] _ _ hr e0 (hbind s₁ (.ref a)) (.cons rfl .nil) (hsp H hO hS)) fun r s' h=>?_
  cases r with
  | error e=>exact(hCX H e s' h).elim
  | ok fl =>
   cases fl with
   | next=>exact False.elim h
   | brk=>exact False.elim h
   | cont=>exact False.elim h
   | ret u =>
    obtain⟨v,H',os,bare,un,hok',r',q⟩:=h;have q':v=.bl true:=q;subst q';obtain rfl:u=Value.bool true:=r';refine⟨rfl,OldK.of_keep fun b o e=>?_,os,bare⟩
    cases q:H b with
    | none=>exact un.keep b o e q (by intro z; exact absurd (show b∈([]:List Addr) from z) (by simp)) (by simp)
    | some u =>
     rcases hO b with z | ⟨ob,xs,z⟩
     ·rw[q] at z; cases z
     ·have z2:=un.frzs b ob _ z
      obtain⟨e1,_⟩:=hok b _ z;obtain⟨e2,_⟩:=hok' b _ z2;rw[e] at e1; cases e1;exact e2
 cases hk:K.lookup a with
 | some o =>
  have e:=KX a o hk;rw[ha] at e;cases e;refine core (fun _=>none) (fun _=>.inl rfl) (.inr ⟨_,vs.toArray,_,hk,rfl,rfl,rfl,by rw[List.size_toArray,lenV]; exact hl,by simpa using rv⟩) (fun b u z=>by have z':(none:Option HO)=some u:=z; cases z') (fun b z=>absurd rfl z) fun z=>absurd rfl z
 | none =>
  refine core (fun b=>if b=a then some (.frz { cls:=.type "list",data:=.seq vs.toArray } (.lst (ns.map V.int))) else none) (fun b=>?_) (.inl (.inr ⟨{ cls:=.type "list",data:=.seq vs.toArray },if_pos rfl⟩)) (fun b u z=>?_) (fun b z=>?_) fun _=>hk
  ·by_cases hb:b=a
   ·exact .inr ⟨_,_,if_pos hb⟩
   ·exact .inl (if_neg hb)
  ·by_cases hb:b=a
   ·have z':=(if_pos hb).symm.trans z
    cases z';subst hb;exact⟨ha,by rw[List.length_map]; exact hl,vs,_,rv,ha⟩
   ·have z':=(if_neg hb).symm.trans z
    cases z'
  ·by_cases hb:b=a
   ·exact hb
   ·exact absurd (if_neg hb) z
end L2
namespace L2
open PySem PySem.Spec PyProof.Rows
theorem walk_of{l:PySem.W.OpenLaw}{n k:Nat}{q:Program}{loose:List Str}{XP:(Str->Option Value)->Heap->Prop}{YP:World->Heap->Prop}{d:DefRec}{K:Params->PySem.W.Frag}{CX:World->CXT}{sp:World->Sp}{x:Str}
  (hn:l.most=some n) (hn2:n<=sizeLine) (hdf:d.params.defaults=[]) (hr:Room k callerA)
  (hY:∀ (w:World) (h:Heap),YP w h->(K w.params).In h)
  (F:∀ (w:World) (mg:Str->Option Value) (fa:Addr) (h:Heap),(K w.params).In h->h.Ns mainGlobals mg->mg d.name=some (.ref fa) ->
   ∃ fd:FuncData,(∀ (s:Shared) (u:Value),BindsTo s fd ⟨[u],[]⟩ [(x,u)]) /\
    ∀ base:Heap,(K w.params).In base->base.Ns mainGlobals mg->FnOk l.prog w (K w.params) mg base (CX w) k fa fd [x] (sp w))
  (hsp:∀ (w:World) (H:Hp) (a:Addr) (ns:List Int),ns.length<=n->Only H->SqL (K w.params) H a (ns.map V.int)->sp w [.ref a] H (fun v _=>v=.bl true) fun _ _ _=>False)
  (hCX:∀ (w:World) (H:Hp) (s:Shared) (e:Value) (s':Shared),CX w [] H s (fun _ _ _=>False) e s'->False) :
  PySem.W.WalkO q loose XP YP l.row.toRowW d [] (fun f vs=>PySem.call f vs):=by
 refine Att.attach_call hn hdf fun w s₀ s₁ mg mb fa o pm cd doc a vs ns G Y ho hd hcd hmg hobj hints hlen hg=>?_
 have KX:=hY w _ Y;obtain⟨fd,hb,hF⟩:=F w mg fa _ KX G.T.g hmg;exact law_call KX G.T.g G.T.b G.T.builtins G.T.nolimit hg hobj hints (Nat.le_trans hlen hn2) hr hF hb (fun H hO hS=>hsp w H a ns hlen hO hS) fun H e s'=>hCX w H s₁ e s'
end L2
/- THE LAST THEOREM (shape; LID,My.* are yours):
   My.Adr: a structure of the addresses that your layer names (classes,functions); My.Txt K t: a structure (Prop) of the equations over K;
   My.txt_mk:{K} {implicit addresses ..} (e1:nsIn K mainGlobals "law" = some (some (.ref f))) (e2:K.lookup f=some ⟨oc,od,.func (fnOf "law" "law" params body scope dV kV doc pm an cdv ct),sl⟩) (e3:codeIn K cdv "law" = true) ..:∃ t,My.Txt K t
set_option maxRecDepth 100000 in
set_option maxHeartbeats 0 in
theorem PySem.Challenge.cw_LID_holds : PySem.Challenge.rw_LID.Holds := by
 w_on; o_law; k_head; (case hw=>w_witness2)
 k_fill
 refine L2.walk_of (l:=PySem.Challenge.rw_LID) (n:=63) (k:=40) (x := "script") (CX:=fun w=>..) (sp:=fun _=>My.sp_law) rfl (by decide) rfl ⟨rfl,by decide,by decide⟩ (fun w h Y=>PySem.W.kIn_of Y) ?F ?S ?C
 case F =>
  intro w mg fa h KX G hmg;have T:∃ t,My.Txt (L2.KOf KX) t:=by
   dsimp only[L2.KOf]                          -- K must stand as «<heap const> w.params» for k_is;refine' My.txt_mk ?e1 ?e2 ?e3 ..
   (case e1=>PySem.W.k_is)                    -- in the order: a name -> its address -> its object -> its parts
   (case e2=>PySem.W.k_is)
   ..
  obtain⟨t,T⟩:=T;have e0:=hmg.symm.trans (PySem.W.mg_of KX G T.law);cases e0                                       -- fa is the law's own address;exact⟨_,fun s u=>.of_eq rfl,fun base kb nb=>My.law_fn T kb nb⟩     -- if «.of_eq rfl» comes too early: refine' ⟨_,?b,fun base kb nb=>My.law_fn T kb nb⟩; exact fun s u=>.of_eq rfl
 case S=>exact fun w H a ns hl hO hS=>..
 case C=>exact ..
(the tactic k_is has no namespace: write k_is) -/
namespace L2
open PySem PySem.Spec PyProof.Rows
noncomputable def defArgs(s:Stmt):Arguments:=match s with
 | .FunctionDef _ a _ _ _ _ _ _ _ _=>a
 | _=>{ posonlyargs:=[],args:=[],vararg:=none,kwonlyargs:=[],kw_defaults:=[],kwarg:=none,defaults:=[] }
noncomputable def defBody(s:Stmt):List Stmt:=match s with
 | .FunctionDef _ _ b _ _ _ _ _ _ _=>b
 | _=>[]
noncomputable def defScope(s:Stmt):Scope:=match s with
 | .FunctionDef _ _ _ _ _ _ sc _ _ _=>sc
 | _=>{ kind:=.function,names:=[],isGenerator:=false,isCoroutine:=false }
structure Fun(K:PySem.W.Frag)(x qual:Str)(st:Stmt)(f:Addr)(fd:FuncData):Prop where
 ex:∃ (oc:Value) (od:Option Addr) (kV doc pm:Value) (an:Option Addr) (cdv ct:Value) (osl:Array (Option Value)),
  fd=PySem.W.fnOf x qual (defArgs st) (defBody st) (defScope st) .none kV doc pm an cdv ct/\K.lookup f=some ⟨oc,od,.func fd,osl⟩/\PySem.W.codeIn K cdv qual=true
 kp:PySem.W.keepIn K (.ref f)=true
section
variable{P:Program}{w:World}{K:PySem.W.Frag}{mg:Str->Option Value}{base:Heap}
theorem Fun.binds{x qual:Str}{st:Stmt}{f:Addr}{fd:FuncData}{ps:List Str}(F:Fun K x qual st f fd)
  (h:∀ (kV doc pm:Value) (an:Option Addr) (cdv ct:Value) (us:List Value),us.length=ps.length->bindArgs (PySem.W.fnOf x qual (defArgs st) (defBody st) (defScope st) .none kV doc pm an cdv ct) ⟨us,[]⟩=pure (ps.zip us)):Binds K fd ps []:=by
 obtain⟨oc,od,kV,doc,pm,an,cdv,ct,osl,rfl,lk,hcd⟩:=F.ex;exact .all (h kV doc pm an cdv ct)
theorem fun_mk{x qual:Str}{st:Stmt}{f:Addr}{oc:Value}{od an:Option Addr}{osl:Array (Option Value)}{kV doc pm cdv ct:Value}(l:K.lookup f=some ⟨oc,od,.func (PySem.W.fnOf x qual (defArgs st) (defBody st) (defScope st) .none kV doc pm an cdv ct),osl⟩)
  (c:PySem.W.codeIn K cdv qual=true) (k:PySem.W.keepIn K (.ref f)=true):Fun K x qual st f (PySem.W.fnOf x qual (defArgs st) (defBody st) (defScope st) .none kV doc pm an cdv ct):=⟨⟨oc,od,kV,doc,pm,an,cdv,ct,osl,rfl,l,c⟩,k⟩
end
section
variable{X:Cx}
end
def Same(H H':Hp):Prop:=∀ b o,H b=some o->H' b=some o
theorem Same.refl(H:Hp):Same H H:=fun _ _ h=>h
theorem Same.trans{H H1 H2:Hp}(a:Same H H1)(b:Same H1 H2):Same H H2:=fun c o h=>b c o (a c o h)
theorem Same.free{H H':Hp}(e:Same H H'){l:Addr}(h:H' l=Option.none):H l=Option.none:=by
 cases q:H l with
 | none=>rfl
 | some o =>
  rw[e l o q] at h;cases h
theorem Same.seq{K:PySem.W.Frag}{H H':Hp}{a:Addr}{xs:List V}(e:Same H H')(h:SqL K H a xs):SqL K H' a xs:=by
 rcases h with(h | ⟨o,h⟩) | h
 ·exact .inl (.inl (e _ _ h))
 ·exact .inl (.inr ⟨o,e _ _ h⟩)
 ·exact .inr h
end L2
end
section
namespace Z
open PySem PyProof.Rows
inductive D where
 | non | bl (b:Bool) | int (i:Int) | str (x:Str) | tup (xs:List D) | ref (n:Nat) | fro (xs:List D) | fn (f:Nat) (nm:Str)
 deriving Inhabited
inductive O where
 | lst (xs:List D) | set (xs:List D) | dct (kvs:List (D×D)) | exc (c:Nat)
noncomputable abbrev Sto:=List O
noncomputable abbrev En:=List (Option D)
inductive R(α:Type) where
 | ok (a:α) (S:Sto) | ex (n:Nat) (S:Sto) | bad
noncomputable def R.bind{α β:Type}:R α->(α->Sto->R β)->R β
 | .ok a S,f=>f a S
 | .ex n S,_=>.ex n S
 | .bad,_=>.bad
@[simp] theorem Rk0{α β:Type}(a:α)(S:Sto)(f:α->Sto->R β):(R.ok a S).bind f=f a S:=rfl
@[simp] theorem R.bind_ex{α β:Type}(n:Nat)(S:Sto)(f:α->Sto->R β):(R.ex n S).bind f=.ex n S:=rfl
@[simp] theorem R.bind_bad{α β:Type}(f:α->Sto->R β):(R.bad:R α).bind f=.bad:=rfl
noncomputable def big:Nat:=1000000
set_option genInjectivity false
inductive Bo where | add | sub | mul | fdiv | mod | pow
 deriving DecidableEq
inductive Co where | eq | ne | lt | le | gt | ge | isin | notin | is | isnot
 deriving DecidableEq
inductive Ty where | int | bool | str | tuple | list | dict | cls(c:Nat) | valueError
 deriving DecidableEq
inductive Bl where
 | len | min | max | sum | all | tuple | list | set | str | repr | abs | int
 deriving DecidableEq
inductive Mt where | append | extend | pop | index | count | join | split | add
 deriving DecidableEq
inductive Tg where
 | var (i:Nat)
 | tup (is:List Nat)
mutual
inductive Ex where
 | nev
 | var (i:Nat)
 | cst (d:D)
 | neg (a:Ex)
 | glb (k:Nat)
 | tup (es:Exs)
 | lst (es:Exs)
 | bin (op:Bo) (a b:Ex)
 | cmp (op:Co) (a b:Ex)
 | chn (o1 o2:Co) (a b c:Ex)
 | and (a b:Ex)
 | or (a b:Ex)
 | not (a:Ex)
 | ite (c a b:Ex)
 | idx (a i:Ex)
 | sli (a:Ex) (lo hi:Op)
 | call (f:Nat) (es:Exs)
 | cal (e:Ex) (es:Exs)
 | lenm (a:Ex)
 | blt (k:Bl) (es:Exs)
 | mth (k:Mt) (o:Ex) (es:Exs)
 | isi (a:Ex) (ts:List Ty)
 | cmr (k:Bool) (n:Nat) (gs:Gens) (elt:Ex)
inductive Op where
 | none | some (e:Ex)
inductive Exs where
 | nil | cons (e:Ex) (es:Exs)
inductive Gens where
 | nil | cons (t:Tg) (it:It) (ifs:Exs) (gs:Gens)
inductive It where
 | val (e:Ex) | rng (es:Exs) | enm (es:Exs)
end
mutual
inductive St where
 | nev
 | asg (t:Tg) (e:Ex)
 | par (is:List Nat) (es:Exs)
 | aset (o i e:Ex)
 | aug (i:Nat) (op:Bo) (e:Ex)
 | expr (e:Ex)
 | ret (e:Ex)
 | ite (c:Ex) (a b:Sts)
 | for (t:Tg) (it:It) (b:Sts)
 | whl (c:Ex) (b:Sts)
 | rse (c:Nat) (e:Ex)
 | try (b:Sts) (c:Nat) (x:Nat) (h:Sts)
 | pass
 | brk
 | cnt
inductive Sts where
 | nil | cons (s:St) (ss:Sts)
end
set_option genInjectivity true
inductive Fl where
 | nx (e:En) | brk (e:En) | cnt (e:En) | rt (d:D)
noncomputable def lstAt(S:Sto)(n:Nat):Option (List D) :=
 match S[n]? with
 | some (.lst xs)=>some xs
 | _=>none
noncomputable def lstM(S:Sto)(n:Nat):Option (List D) :=
 match S[n]? with
 | some (.lst xs)=>some xs
 | _=>none
noncomputable def i2(b:Bool):Int:=if b then 1 else 0
mutual
noncomputable def datF(look:Nat->Option PyData):D->Option PyData
 | .non=>some .none
 | .bl b=>some (.bool b)
 | .int i=>some (.int i)
 | .str x=>some (.str x)
 | .tup xs=>(datFs look xs).map PyData.tuple
 | .fro _=>none
 | .fn _ _=>none
 | .ref n=>look n
noncomputable def datFs(look:Nat->Option PyData):List D->Option (List PyData)
 | []=>some []
 | x :: xs=>match datF look x,datFs look xs with
  | some p,some ps=>some (p :: ps)
  | _,_=>none
end
noncomputable def lookK(S:Sto):Nat->Nat->Option PyData
 | 0,_=>none
 | k + 1,n=>match S[n]? with
  | some (.lst xs)=>(datFs (lookK S k) xs).map PyData.list
  | some (.dct [])=>some (.dict [])
  | _=>none
noncomputable def datD(S:Sto)(d:D):Option PyData:=datF (lookK S 4) d
noncomputable def twoS(x y:D):Option Bool:=match x with
 | .str a=>(match y with
  | .str b=>some (a.cps.toList == b.cps.toList)
  | _=>none)
 | _=>none
noncomputable def lenS(S:Sto)(x y:D):Option Bool:=match x with
 | .ref a=>(match y with
  | .ref b=>(match lstAt S a,lstAt S b with
   | some xs,some ys=>if xs.length=ys.length then none else some false
   | _,_=>none)
  | _=>none)
 | _=>none
noncomputable def eqD(S:Sto)(x y:D):Option Bool:=match twoS x y with
 | some r=>some r
 | none=>match datD S x,datD S y with
  | some p,some q=>if p.canLay0 && q.canLay0 && decide (p.depth<=60) then some (PyData.eqv p q) else lenS S x y
  | _,_=>lenS S x y
noncomputable def inD(S:Sto)(x y:D):Option Bool:=match datD S x,datD S y with
 | some p,some (.list qs)=>if p.canLay0 && PyData.canLayAll0 qs && decide (p.depth<=60) then some (qs.any fun q=>PyData.eqv q p) else none
 | some p,some (.tuple qs)=>if p.canLay0 && PyData.canLayAll0 qs && decide (p.depth<=60) then some (qs.any fun q=>PyData.eqv q p) else none
 | _,_=>none
noncomputable def seqD(S:Sto):D->Option (List D)
 | .tup xs=>some xs
 | .fro xs=>some xs
 | .ref n=>lstAt S n
 | _=>none
noncomputable def allInts:List D->Option (List Int)
 | []=>some []
 | .int i :: r=>(allInts r).map (i :: ·)
 | _ :: _=>none
noncomputable def allBls:List D->Option (List Bool)
 | []=>some []
 | .bl i :: r=>(allBls r).map (i :: ·)
 | _ :: _=>none
noncomputable def ltD:D->D->Option Bool
 | .int i,.int j=>some (decide (i < j))
 | .tup xs,.tup ys=>match allInts xs,allInts ys with
  | some ns,some ms=>some (HT.lexLt ns ms)
  | _,_=>none
 | _,_=>none
noncomputable def truD(S:Sto):D->Option Bool
 | .non=>some false
 | .bl b=>some b
 | .int i=>some (i != 0)
 | .str x=>if x.length<=big then some ((x.length:Int) != 0) else none
 | .tup xs=>some (!xs.isEmpty)
 | .fro xs=>some (!xs.isEmpty)
 | .fn _ _=>none
 | .ref n=>match S[n]? with
  | some (.lst xs)=>some (!xs.isEmpty)
  | _=>none
noncomputable def mulOk(i j:Int):Bool:=(decide (-(18446744073709551616) < i) && decide (i < 18446744073709551616)) || (decide (-(18446744073709551616) < j) && decide (j < 18446744073709551616)) || (decide (i.natAbs.log2 < 100000) && decide (j.natAbs.log2 < 100000))
noncomputable def divOk(j:Int):Bool:=decide (0 < j) && decide (j.natAbs.log2 < 9000)
noncomputable def binD:Bo->D->D->Sto->R D
 | .add,.int i,.int j,S=>.ok (.int (i + j)) S
 | .add,.tup x,.tup y,S=>if x.length + y.length<=big then .ok (.tup (x++y)) S else .bad
 | .add,.str x,.str y,S=>if x.length + y.length<=big then .ok (.str (x++y)) S else .bad
 | .add,.ref n,.ref m,S=>match lstM S n,lstM S m with
  | some x,some y=>if x.length + y.length<=big then .ok (.ref S.length) (S++[.lst (x++y)]) else .bad
  | _,_=>.bad
 | .sub,.int i,.int j,S=>.ok (.int (i - j)) S
 | .mul,.int i,.int j,S=>if mulOk i j then .ok (.int (i * j)) S else .bad
 | .mul,.tup x,.int k,S=>if k < 1048576/\x.length * k.toNat<=big/\-(1048576) < k/\x.isEmpty=false then .ok (.tup (List.replicate k.toNat x).flatten) S else .bad
 | .mul,.ref n,.int k,S=>match lstM S n with
  | some x=>if k < 1048576/\x.length * k.toNat<=big/\-(1048576) < k then .ok (.ref S.length) (S++[.lst (List.replicate k.toNat x).flatten]) else .bad
  | none=>.bad
 | .fdiv,.int i,.int j,S=>if divOk j then .ok (.int (i / j)) S else .bad
 | .mod,.int i,.int j,S=>if 0 < j then .ok (.int (i % j)) S else .bad
 | .pow,.int i,.int j,S=>if 0<=j/\j<=1000/\i.natAbs < 2 ^ 63 then .ok (.int (i ^ j.toNat)) S else .bad
 | _,_,_,_=>.bad
noncomputable def augD:Bo->D->D->Sto->R D
 | .add,.int i,.int j,S=>.ok (.int (i + j)) S
 | .sub,.int i,.int j,S=>.ok (.int (i - j)) S
 | .mul,.int i,.int j,S=>if mulOk i j then .ok (.int (i * j)) S else .bad
 | _,_,_,_=>.bad
noncomputable def cmpD:Co->D->D->Sto->Option Bool
 | .eq,x,y,S=>eqD S x y
 | .ne,x,y,S=>(eqD S x y).map (!·)
 | .lt,x,y,_=>ltD x y
 | .le,.int i,.int j,_=>some (decide (i<=j))
 | .gt,.int i,.int j,_=>some (decide (j < i))
 | .ge,.int i,.int j,_=>some (decide (j<=i))
 | .isin,x,y,S=>inD S x y
 | .notin,x,y,S=>(inD S x y).map (!·)
 | .is,x,.non,_=>some (match x with | .non=>true | _=>false)
 | .is,x,.bl b,_=>some (match x with | .bl c=>b == c | _=>false)
 | .isnot,x,.non,_=>some (match x with | .non=>false | _=>true)
 | .isnot,x,.bl b,_=>some (match x with | .bl c=>b != c | _=>true)
 | _,_,_,_=>none
noncomputable def ixN(n:Nat)(i:Int):Option Nat:=if 0<=i then (if i < n then some i.toNat else none) else if -(n:Int)<=i then some (i + n).toNat else none
noncomputable def idxD(x:D)(i:D)(S:Sto):Option D :=
 match i with
 | .int k=>match x with
  | .str z=>if z.length<=big then (ixN z.length k).bind fun j=>z.cps.toList[j]?.map fun c=>.str ⟨#[c]⟩ else none
  | _=>(seqD S x).bind fun xs=>(ixN xs.length k).bind fun j=>xs[j]?
 | _=>none
noncomputable def cmpR(op:Co)(x y:D)(S:Sto):R D:=match cmpD op x y S with
 | some r=>.ok (.bl r) S
 | none=>.bad
noncomputable def idxR(x i:D)(S:Sto):R D:=match idxD x i S with
 | some d=>.ok d S
 | none=>.bad
noncomputable def TestP(ifs:En->Sto->R Bool)(body:En->List D->Sto->R (List D))(env:En)(acc:List D)(S:Sto):R (List D):=(ifs env S).bind fun b S=>if b then body env acc S else .ok acc S
noncomputable def clip(n:Nat)(d:Nat):Option Int->Nat
 | none=>d
 | some i=>if 0<=i then min i.toNat n else (i + n).toNat
noncomputable def cut{α:Type}(xs:List α)(lo hi:Option Int):List α :=
 (xs.drop (clip xs.length 0 lo)).take (clip xs.length xs.length hi - clip xs.length 0 lo)
noncomputable def optI:Option D->Option (Option Int)
 | none=>some none
 | some (.int i)=>some (some i)
 | _=>none
noncomputable def sliD(x:D)(lo hi:Option Int)(S:Sto):R D :=
 match x with
 | .tup xs=>.ok (.tup (cut xs lo hi)) S
 | .ref n=>match lstAt S n with
  | some xs=>.ok (.ref S.length) (S++[.lst (cut xs lo hi)])
  | none=>.bad
 | _=>.bad
noncomputable def fnIn(f:Nat)(nm:Str):List D->Bool
 | []=>false
 | .fn g m :: r=>(g == f && decide (m=nm)) || fnIn f nm r
 | _ :: r=>fnIn f nm r
noncomputable def numb(n:Nat):List D->List D
 | []=>[]
 | x :: r=>.tup [.int n,x] :: numb (n + 1) r
inductive Kd where | non | bool | int | str | tuple | list | dict | exc(c:Nat)
 deriving DecidableEq
noncomputable def kdD(S:Sto):D->Option Kd
 | .non=>some .non
 | .bl _=>some .bool
 | .int _=>some .int
 | .str _=>some .str
 | .tup _=>some .tuple
 | .fro _=>some .list
 | .fn _ _=>none
 | .ref n=>match S[n]? with
  | some (.lst _)=>some .list
  | some (.dct _)=>some .dict
  | some (.exc c)=>some (.exc c)
  | _=>none
noncomputable def isT:Kd->Ty->Option Bool
 | .exc c',.cls c=>some (c == 0 || c == c')
 | .exc _,.valueError=>some true
 | .exc _,_=>none
 | _,.cls _=>none
 | _,.valueError=>none
 | .bool,.int=>some true
 | .int,.int=>some true
 | .bool,.bool=>some true
 | .str,.str=>some true
 | .tuple,.tuple=>some true
 | .list,.list=>some true
 | .dict,.dict=>some true
 | _,_=>some false
noncomputable def isTs(k:Kd):List Ty->Option Bool
 | []=>some false
 | t :: r=>match isT k t with
  | some true=>some true
  | some false=>isTs k r
  | none=>none
noncomputable def intText(i:Int):Str:=Str.ofString (toString i)
noncomputable def strD:D->Option Str
 | .int i=>if i.natAbs < 10 ^ 600 then some (intText i) else none
 | .str x=>some x
 | _=>none
mutual
noncomputable def szD:PyData->Nat
 | .none=>4
 | .bool _=>5
 | .int _=>1921
 | .str x=>(reprText x).length
 | .list xs=>szDs xs + 2
 | .tuple xs=>szDs xs + 3
 | .dict _=>2
noncomputable def szDs:List PyData->Nat
 | []=>0
 | x :: xs=>szD x + 2 + szDs xs
end
mutual
noncomputable def dctE:PyData->Bool
 | .none=>true
 | .bool _=>true
 | .int _=>true
 | .str _=>true
 | .list xs=>dctEs xs
 | .tuple xs=>dctEs xs
 | .dict kvs=>kvs.isEmpty
noncomputable def dctEs:List PyData->Bool
 | []=>true
 | x :: xs=>dctE x && dctEs xs
end
noncomputable def repD(S:Sto)(x:D):Option Str:=match datD S x with
 | some p=>if p.showable && dctE p && decide (p.depth<=60) && decide (szD p<=big) then some p.shown else none
 | none=>none
noncomputable def bltD:Bl->List D->Sto->R D
 | .len,[x],S=>match x with
  | .str z=>if z.length<=big then .ok (.int z.length) S else .bad
  | _=>match seqD S x with
   | some xs=>.ok (.int xs.length) S
   | none=>.bad
 | .tuple,[x],S=>match seqD S x with
  | some xs=>.ok (.tup xs) S
  | none=>.bad
 | .list,[x],S=>match seqD S x with
  | some xs=>.ok (.ref S.length) (S++[.lst xs])
  | none=>.bad
 | .all,[.ref n],S=>match (lstAt S n).bind allBls with
  | some bs=>.ok (.bl (bs.all id)) S
  | none=>.bad
 | .sum,[x],S=>match (seqD S x).bind allInts with
  | some ns=>.ok (.int ns.sum) S
  | none=>.bad
 | .max,[x],S=>match (seqD S x).bind allInts with
  | some (n :: ns)=>.ok (.int (ns.foldl max n)) S
  | _=>.bad
 | .min,[x],S=>match (seqD S x).bind allInts with
  | some (n :: ns)=>.ok (.int (ns.foldl min n)) S
  | _=>.bad
 | .max,[.int i,.int j],S=>.ok (.int (if j > i then j else i)) S
 | .min,[.int i,.int j],S=>.ok (.int (if j < i then j else i)) S
 | .abs,[.int i],S=>.ok (.int i.natAbs) S
 | .str,[x],S=>match strD x with
  | some t=>.ok (.str t) S
  | none=>.bad
 | .int,[.bl b],S=>.ok (.int (i2 b)) S
 | .repr,[x],S=>match repD S x with
  | some t=>.ok (.str t) S
  | none=>.bad
 | _,_,_=>.bad
noncomputable def mthD:Mt->D->List D->Sto->R D
 | .append,.ref n,[x],S=>match lstM S n with
  | some xs=>if xs.length < big then .ok .non (S.set n (.lst (xs++[x]))) else .bad
  | none=>.bad
 | .extend,.ref n,[x],S=>match lstM S n,seqD S x with
  | some xs,some ys=>if xs.length + ys.length<=big then .ok .non (S.set n (.lst (xs++ys))) else .bad
  | _,_=>.bad
 | .pop,.ref n,[.int i],S=>match lstM S n with
  | some xs=>match ixN xs.length i with
   | some k=>match xs[k]? with
    | some y=>.ok y (S.set n (.lst (xs.eraseIdx k)))
    | none=>.bad
   | none=>.bad
  | none=>.bad
 | .index,.ref n,[.bl b],S=>match (lstAt S n).bind allBls with
  | some bs=>match bs.findIdx? (· == b) with
   | some i=>.ok (.int i) S
   | none=>.bad
  | none=>.bad
 | .count,.ref n,[.bl b],S=>match (lstAt S n).bind allBls with
  | some bs=>.ok (.int (bs.countP (· == b):Nat)) S
  | none=>.bad
 | _,_,_,_=>.bad
noncomputable def rcvOk(k:Mt)(x:D)(S:Sto):Bool:=match k,x with
 | .join,.str _=>true
 | .split,.str _=>true
 | .join,_=>false
 | .split,_=>false
 | .add,_=>false
 | _,.ref n=>(lstAt S n).isSome
 | _,_=>false
noncomputable def asetD(o i v:D)(S:Sto):R Unit :=
 match o,i with
 | .ref n,.int k=>match lstM S n with
  | some xs=>match ixN xs.length k with
   | some j=>.ok () (S.set n (.lst (xs.set j v)))
   | none=>.bad
  | none=>.bad
 | _,_=>.bad
inductive Src where
 | con (xs:List D) | ref (n:Nat) | enm (a:Src)
noncomputable def Src.get:Src->Sto->Nat->Option (Option D)
 | .con xs,_,i=>some xs[i]?
 | .ref n,S,i=>(lstAt S n).map fun xs=>xs[i]?
 | .enm a,S,i=>match a.get S i with
  | some (some x)=>some (some (.tup [.int i,x]))
  | r=>r
noncomputable def Src.most:Src->Sto->Nat
 | .con xs,_=>xs.length
 | .ref n,S=>((lstAt S n).getD []).length
 | .enm a,S=>a.most S
noncomputable def srcD(S:Sto):D->Option Src
 | .tup xs=>some (.con xs)
 | .ref n=>(lstAt S n).map fun _=>.ref n
 | _=>none
noncomputable def rngD:List D->Option (List D)
 | [.int j]=>if -(1048576) < j/\j < 1048576 then some ((List.range j.toNat).map fun(k:Nat)=>D.int (k:Int)) else none
 | [.int i,.int j]=>if -(1048576) < i/\i < 1048576/\-(1048576) < j/\j < 1048576 then some ((List.range (j - i).toNat).map fun(k:Nat)=>D.int (i + k)) else none
 | [.int i,.int j,.int s]=>if s = -1/\-(1048576) < i/\i < 1048576/\-(1048576) < j/\j < 1048576 then some ((List.range (i - j).toNat).map fun(k:Nat)=>D.int (i - k)) else none
 | _=>none
noncomputable def setTg(t:Tg)(d:D)(env:En):Option En :=
 match t with
 | .var i=>some (env.set i (some d))
 | .tup is=>match d with
  | .tup ds=>if is.length=ds.length then some ((is.zip ds).foldl (fun e p=>e.set p.1 (some p.2)) env) else none
  | _=>none
noncomputable def slots:Tg->List Nat
 | .var i=>[i]
 | .tup is=>is
noncomputable def noneAt(t:Tg)(env:En):Bool:=(slots t).all fun i=>match env[i]? with
 | some (some _)=>false
 | _=>true
noncomputable def cloop(get:Sto->Nat->Option (Option D))(t:Tg)(body:En->List D->Sto->R (List D)):Nat->Nat->En->List D->Sto->R (List D)
 | 0,_,_,_,_=>.bad
 | k + 1,i,env,acc,S=>match get S i with
  | none=>.bad
  | some none=>.ok acc S
  | some (some d)=>match setTg t d env with
   | none=>.bad
   | some env'=>match body env' acc S with
    | .ok acc' S'=>cloop get t body k (i + 1) env' acc' S'
    | _=>.bad
noncomputable abbrev Fn:=Nat->List D->Sto->R D
section
variable(F:Fn)(G:List D)
mutual
noncomputable def ev:Ex->En->Sto->R D
 | .nev,_,_=>.bad
 | .var i,env,S=>match env[i]? with
  | some (some d)=>.ok d S
  | _=>.bad
 | .cst d,_,S=>.ok d S
 | .neg a,env,S=>(ev a env S).bind fun x S=>match x with
  | .int i=>.ok (.int (-i)) S
  | _=>.bad
 | .glb k,_,S=>match G[k]? with
  | some d=>.ok d S
  | none=>.bad
 | .tup es,env,S=>(evs es env S).bind fun xs S=>if xs.length<=big then .ok (.tup xs) S else .bad
 | .lst es,env,S=>(evs es env S).bind fun xs S=>if xs.length<=big then .ok (.ref S.length) (S++[.lst xs]) else .bad
 | .bin op a b,env,S=>(ev a env S).bind fun x S=>(ev b env S).bind fun y S=>binD op x y S
 | .cmp op a b,env,S=>(ev a env S).bind fun x S=>(ev b env S).bind fun y S=>cmpR op x y S
 | .chn o1 o2 a b c,env,S=>(ev a env S).bind fun x S=>(ev b env S).bind fun y S=>match cmpD o1 x y S with
  | some true=>(ev c env S).bind fun z S=>cmpR o2 y z S
  | some false=>.ok (.bl false) S
  | none=>.bad
 | .and a b,env,S=>(ev a env S).bind fun x S=>match truD S x with
  | some true=>ev b env S
  | some false=>.ok x S
  | none=>.bad
 | .or a b,env,S=>(ev a env S).bind fun x S=>match truD S x with
  | some true=>.ok x S
  | some false=>ev b env S
  | none=>.bad
 | .not a,env,S=>(ev a env S).bind fun x S=>match truD S x with
  | some r=>.ok (.bl (!r)) S
  | none=>.bad
 | .ite c a b,env,S=>(ev c env S).bind fun x S=>match truD S x with
  | some true=>ev a env S
  | some false=>ev b env S
  | none=>.bad
 | .idx a i,env,S=>(ev a env S).bind fun x S=>(ev i env S).bind fun y S=>idxR x y S
 | .sli a lo hi,env,S=>(ev a env S).bind fun x S=>(evo lo env S).bind fun l S=>(evo hi env S).bind fun h S=>match optI l,optI h with
  | some l,some h=>sliD x l h S
  | _,_=>.bad
 | .call f es,env,S=>(evs es env S).bind fun xs S=>F f xs S
 | .cal e es,env,S=>(ev e env S).bind fun x S=>match x with
  | .fn f nm=>if fnIn f nm G then (evs es env S).bind fun xs S=>F f xs S else .bad
  | _=>.bad
 | .lenm a,env,S=>(ev a env S).bind fun x S=>match seqD S x with
  | some xs=>.ok (.ref S.length) (S++[.lst (numb 0 xs)])
  | none=>.bad
 | .blt k es,env,S=>(evs es env S).bind fun xs S=>bltD k xs S
 | .mth k o es,env,S=>(ev o env S).bind fun x S=>if rcvOk k x S then (evs es env S).bind fun xs S=>mthD k x xs S else .bad
 | .isi a ts,env,S=>(ev a env S).bind fun x S=>match (kdD S x).bind fun k=>isTs k ts with
  | some r=>.ok (.bl r) S
  | none=>.bad
 | .cmr k n gs elt,env,S=>match gs with
  | .nil=>.bad
  | .cons t it ifs gs=>(evit it env S).bind fun src S =>
   (cloop (src.get) t (TestP (fun env S=>evts ifs env S) (fun env acc S =>
     match gs with
     | .nil=>(ev elt env S).bind fun y S=>if acc.length < big then .ok (acc++[y]) S else .bad
     | .cons t2 it2 ifs2 gs2=>match gs2 with
      | .nil=>if noneAt t2 env then (evit it2 env S).bind fun src2 S =>
       cloop (src2.get) t2 (TestP (fun env S=>evts ifs2 env S) (fun env acc S =>
        (ev elt env S).bind fun y S=>if acc.length < big then .ok (acc++[y]) S else .bad)) (src2.most S + 1) 0 env acc S else .bad
      | .cons ..=>.bad)) (src.most S + 1) 0 (env++List.replicate n none) [] S).bind fun acc S =>
   if k then .bad else .ok (.ref S.length) (S++[.lst acc])
noncomputable def evo:Op->En->Sto->R (Option D)
 | .none,_,S=>.ok none S
 | .some e,env,S=>(ev e env S).bind fun x S=>.ok (some x) S
noncomputable def evs:Exs->En->Sto->R (List D)
 | .nil,_,S=>.ok [] S
 | .cons e es,env,S=>(ev e env S).bind fun x S=>(evs es env S).bind fun xs S=>.ok (x :: xs) S
noncomputable def evts:Exs->En->Sto->R Bool
 | .nil,_,S=>.ok true S
 | .cons e es,env,S=>(ev e env S).bind fun x S=>match truD S x with
  | some true=>evts es env S
  | some false=>.ok false S
  | none=>.bad
noncomputable def evit:It->En->Sto->R Src
 | .val e,env,S=>(ev e env S).bind fun x S=>match srcD S x with
  | some s=>.ok s S
  | none=>.bad
 | .rng es,env,S=>(evs es env S).bind fun xs S=>match rngD xs with
  | some ds=>.ok (.con ds) S
  | none=>.bad
 | .enm es,env,S=>(evs es env S).bind fun xs S=>match xs with
  | [x]=>match srcD S x with
   | some s=>.ok (.enm s) S
   | none=>.bad
  | _=>.bad
end
mutual
noncomputable def nasg:St->Bool
 | .expr _=>true
 | .ret _=>true
 | .pass=>true
 | .ite _ a b=>nasgs a && nasgs b
 | .rse _ _=>true
 | _=>false
noncomputable def nasgs:Sts->Bool
 | .nil=>true
 | .cons s ss=>nasg s && nasgs ss
end
noncomputable def floop(get:Sto->Nat->Option (Option D))(t:Tg)(body:En->Sto->R Fl):Nat->Nat->En->Sto->R Fl
 | 0,_,_,_=>.bad
 | k + 1,i,env,S=>match get S i with
  | none=>.bad
  | some none=>.ok (.nx env) S
  | some (some d)=>match setTg t d env with
   | none=>.bad
   | some env'=>match body env' S with
    | .ok (.nx e) S'=>floop get t body k (i + 1) e S'
    | .ok (.cnt e) S'=>floop get t body k (i + 1) e S'
    | .ok (.brk e) S'=>.ok (.nx e) S'
    | .ok (.rt d) S'=>.ok (.rt d) S'
    | _=>.bad
noncomputable def wloop(test:En->Sto->R Bool)(body:En->Sto->R Fl):Nat->En->Sto->R Fl
 | 0,_,_=>.bad
 | k + 1,env,S=>match test env S with
  | .ok false S'=>.ok (.nx env) S'
  | .ok true S'=>match body env S' with
   | .ok (.nx e) S'=>wloop test body k e S'
   | .ok (.cnt e) S'=>wloop test body k e S'
   | .ok (.brk e) S'=>.ok (.nx e) S'
   | .ok (.rt d) S'=>.ok (.rt d) S'
   | _=>.bad
  | _=>.bad
mutual
noncomputable def exe:St->En->Sto->R Fl
 | .nev,_,_=>.bad
 | .asg t e,env,S=>(ev F G e env S).bind fun x S=>match setTg t x env with
  | some env=>.ok (.nx env) S
  | none=>.bad
 | .par is es,env,S=>(evs F G es env S).bind fun xs S=>if is.length=xs.length then .ok (.nx ((is.zip xs).foldl (fun e p=>e.set p.1 (some p.2)) env)) S else .bad
 | .aset o i e,env,S=>(ev F G e env S).bind fun v S=>(ev F G o env S).bind fun x S=>(ev F G i env S).bind fun y S=>(asetD x y v S).bind fun _ S=>.ok (.nx env) S
 | .aug i op e,env,S=>match env[i]? with
  | some (some x)=>(ev F G e env S).bind fun y S=>(augD op x y S).bind fun z S=>.ok (.nx (env.set i (some z))) S
  | _=>.bad
 | .expr e,env,S=>(ev F G e env S).bind fun _ S=>.ok (.nx env) S
 | .ret e,env,S=>(ev F G e env S).bind fun x S=>.ok (.rt x) S
 | .ite c a b,env,S=>(ev F G c env S).bind fun x S=>match truD S x with
  | some true=>exes a env S
  | some false=>exes b env S
  | none=>.bad
 | .for t it b,env,S=>(evit F G it env S).bind fun src S=>floop src.get t (fun env S=>exes b env S) (src.most S + 1) 0 env S
 | .whl c b,env,S=>wloop (fun env S=>(ev F G c env S).bind fun x S=>match truD S x with
   | some r=>.ok r S
   | none=>.bad) (fun env S=>exes b env S) 100000 env S
 | .rse c e,env,S=>(ev F G e env S).bind fun _ S=>.ex S.length (S++[.exc c])
 | .try b c x h,env,S=>if nasgs b then
   match exes b env S with
   | .ex n S'=>match S'[n]? with
    | some (.exc c')=>if c == 0 || c == c' then
      match exes h (env.set x (some (.ref n))) S' with
      | .ok (.rt d) S''=>.ok (.rt d) S''
      | _=>.bad
     else .bad
    | _=>.bad
   | r=>r
  else .bad
 | .pass,env,S=>.ok (.nx env) S
 | .brk,env,S=>.ok (.brk env) S
 | .cnt,env,S=>.ok (.cnt env) S
noncomputable def exes:Sts->En->Sto->R Fl
 | .nil,env,S=>.ok (.nx env) S
 | .cons s ss,env,S=>match exe s env S with
  | .ok (.nx e) S'=>exes ss e S'
  | r=>r
end
structure Df where
 np:Nat
 nl:Nat
 body:Sts
noncomputable def den(d:Df)(ds:List D)(S:Sto):R D :=
 if ds.length=d.np then
  match exes F G d.body (ds.map some++List.replicate (d.nl - d.np) none) S with
  | .ok (.rt v) S=>.ok v S
  | .ok (.nx _) S=>.ok .non S
  | .ok _ _=>.bad
  | .ex n S=>.ex n S
  | .bad=>.bad
 else .bad
end
noncomputable def FT(T:List Df)(G:List D):Nat->Fn
 | 0=>fun _ _ _=>.bad
 | k + 1=>fun f ds S=>match T[f]? with
  | some d=>den (FT T G k) G d ds S
  | none=>.bad
end Z
end
section
namespace Z
open PySem PySem.Spec PyProof.Rows L2
def FrL(K:PySem.W.Frag)(H:Hp)(a:Addr)(vs:List V):Prop :=
 (∃ o,H a=some (.frz o (.lst vs))) \/
  ∃ (o:Obj) (its:Array Value) (n:Nat),K.lookup a=some o/\o.cls=.type "list" /\ o.dict=none/\o.data=.seq its n/\its.size<=sizeLine/\Vals vs its.toList
theorem FrL.sq{K:PySem.W.Frag}{H:Hp}{a:Addr}{vs:List V}(h:FrL K H a vs):SqL K H a vs:=by
 rcases h with⟨o,h⟩ | h
 ·exact .inl (.inr ⟨o,h⟩)
 ·exact .inr h
mutual
def RD(K:PySem.W.Frag)(ρ:List Addr)(H:Hp):D->V->Prop
 | .non,v=>v=.non
 | .bl b,v=>v=.bl b
 | .int i,v=>v=.int i
 | .str x,v=>v=.str x
 | .tup xs,v=>∃ a vs,v=.ref a/\SqT K H a vs/\RDs K ρ H xs vs
 | .fro xs,v=>∃ a vs,v=.ref a/\FrL K H a vs/\RDs K ρ H xs vs
 | .ref n,v=>∃ a,v=.ref a/\ρ[n]?=some a
 | .fn _ nm,v=>∃ a,v=.ref a/\PySem.W.nsIn K mainGlobals nm=some (some (.ref a))
def RDs(K:PySem.W.Frag)(ρ:List Addr)(H:Hp):List D->List V->Prop
 | [],vs=>vs=[]
 | x :: xs,vs=>∃ v r,vs=v :: r/\RD K ρ H x v/\RDs K ρ H xs r
end
noncomputable def clsNames:List Str:=["FaceError","NoNet","NoFace","NoPoint","NotApart","TooMany","NoText","NoRow","NoNumber","NotLevel","NoCrowd","NoWay","NotClosed","NoSwap","NoPlaces","NoDeed","NoLine"]
noncomputable def clsNm(c:Nat):Option Str:=(clsNames[c]?).filter fun x=>!decide (x = "")
theorem clsNm_lt{c:Nat}{x:Str}(h:clsNm c=some x):c < clsNames.length:=by
 unfold clsNm at h;cases q:clsNames[c]? with
 | none=>rw[q] at h; cases h
 | some _=>exact(List.getElem?_eq_some_iff.mp q).1
noncomputable def clsAt(K:PySem.W.Frag)(c:Nat):Option Addr:=(clsNm c).bind fun nm=>match PySem.W.nsIn K mainGlobals nm with
 | some (some (.ref C))=>some C
 | _=>none
def ExcO(C a:Addr)(h:Heap):Prop:=∃ oe vs a0,h.get? a=some oe/\oe.cls=.ref C/\oe.data=.fields vs/\vs[0]?=some a0/\1 < vs.size
theorem ExcO.ok{P:Program}{w:World}{H:Hp}{C a:Addr}{h:Heap}(x:ExcO C a h):ObjOk P w H h a (.ext (ExcO C a)) :=
 ⟨x,let ⟨oe,_,_,e,_⟩:=x; ⟨oe,e⟩,fun h1 h2 ⟨oe,vs,a0,e,r⟩ k=>⟨oe,vs,a0,k _ e,r⟩⟩
def OR(K:PySem.W.Frag)(ρ:List Addr)(H:Hp)(a:Addr):O->Prop
 | .lst xs=>∃ vs,H a=some (.lst vs)/\RDs K ρ H xs vs
 | .dct kvs=>kvs=[]/\H a=some (.dK [])
 | .set _=>False
 | .exc c=>∃ C,clsAt K c=some C/\H a=some (.ext (ExcO C a))
theorem OR.some{K:PySem.W.Frag}{ρ:List Addr}{H:Hp}{a:Addr}{o:O}(h:OR K ρ H a o):∃ u,H a=some u/\(∀ xs,u≠.tup xs)/\∀ o' u',u≠.frz o' u':=by
 cases o with
 | lst xs=>obtain⟨vs,e,_⟩:=h; exact⟨_,e,fun _ z=>(nomatch z),fun _ _ z=>(nomatch z)⟩
 | dct kvs=>obtain⟨_,e⟩:=h; exact⟨_,e,fun _ z=>(nomatch z),fun _ _ z=>(nomatch z)⟩
 | set _=>exact h.elim
 | exc c=>obtain⟨C,_,e⟩:=h; exact⟨_,e,fun _ z=>(nomatch z),fun _ _ z=>(nomatch z)⟩
structure SR(K:PySem.W.Frag)(ρ:List Addr)(S:Sto)(H:Hp):Prop where
 len:ρ.length=S.length
 nd:ρ.Nodup
 ob:∀ (n:Nat) a o,ρ[n]?=some a->S[n]?=some o->OR K ρ H a o
structure Mon(K:PySem.W.Frag)(ρ ρ':List Addr)(H H':Hp):Prop where
 pre:∀ (n:Nat) a,ρ[n]?=some a->ρ'[n]?=some a
 tup:∀ a xs,SqT K H a xs->SqT K H' a xs
 fro:∀ a xs,FrL K H a xs->FrL K H' a xs
structure Stp(K:PySem.W.Frag)(ρ ρ':List Addr)(H H':Hp):Prop extends Mon K ρ ρ' H H' where
 new:∀ a∈ρ',a∈ρ\/H a=none
 keep:∀ a o,H a=some o->a ∉ ρ->H' a=some o
section
variable{K:PySem.W.Frag}{ρ ρ' ρ'':List Addr}{H H' H'':Hp}{S S':Sto}
theorem Stp.refl:Stp K ρ ρ H H:=⟨⟨fun _ _ h=>h,fun _ _ h=>h,fun _ _ h=>h⟩,fun _ h=>.inl h,fun _ _ h _=>h⟩
theorem Stp.trans(x:Stp K ρ ρ' H H')(y:Stp K ρ' ρ'' H' H''):Stp K ρ ρ'' H H'' where
 pre:=fun n a h=>y.pre n a (x.pre n a h)
 new:=fun a h=>by
  rcases y.new a h with h | h
  ·exact x.new a h
  ·cases e:H a with
   | none=>exact .inr rfl
   | some o =>
    by_cases hm:a∈ρ
    ·exact .inl hm
    ·rw[x.keep a o e hm] at h; cases h
 keep:=fun a o h n=>y.keep a o (x.keep a o h n) fun hm=>by
  rcases x.new a hm with z | z
  ·exact n z
  ·rw[h] at z; cases z
 tup:=fun a xs h=>y.tup a xs (x.tup a xs h)
 fro:=fun a xs h=>y.fro a xs (x.fro a xs h)
mutual
theorem RD.mono'(x:Mon K ρ ρ' H H'):∀ (d:D) (v:V),RD K ρ H d v->RD K ρ' H' d v
 | .non,v,h=>by simpa only[RD] using h
 | .bl b,v,h=>by simpa only[RD] using h
 | .int i,v,h=>by simpa only[RD] using h
 | .str y,v,h=>by simpa only[RD] using h
 | .tup xs,v,h=>by
  simp only[RD] at h ⊢;obtain⟨a,vs,e,h1,h2⟩:=h;exact⟨a,vs,e,x.tup a vs h1,RDs.mono' x xs vs h2⟩
 | .fro xs,v,h=>by
  simp only[RD] at h ⊢;obtain⟨a,vs,e,h1,h2⟩:=h;exact⟨a,vs,e,x.fro a vs h1,RDs.mono' x xs vs h2⟩
 | .ref n,v,h=>by
  simp only[RD] at h ⊢;obtain⟨a,e,h⟩:=h;exact⟨a,e,x.pre n a h⟩
 | .fn f nm,v,h=>by simpa only[RD] using h
theorem RDs.mono'(x:Mon K ρ ρ' H H'):∀ (ds:List D) (vs:List V),RDs K ρ H ds vs->RDs K ρ' H' ds vs
 | [],vs,h=>by simpa only[RDs] using h
 | d :: ds,vs,h=>by
  simp only[RDs] at h ⊢;obtain⟨v,r,e,h1,h2⟩:=h;exact⟨v,r,e,RD.mono' x d v h1,RDs.mono' x ds r h2⟩
end
theorem RD.mono(x:Stp K ρ ρ' H H')(d:D)(v:V)(h:RD K ρ H d v):RD K ρ' H' d v:=RD.mono' x.toMon d v h
theorem RDs.mono(x:Stp K ρ ρ' H H')(ds:List D)(vs:List V)(h:RDs K ρ H ds vs):RDs K ρ' H' ds vs:=RDs.mono' x.toMon ds vs h
theorem RDs.nil:RDs K ρ H [] []:=by simp only[RDs]
theorem RDs.cons{d:D}{v:V}{ds:List D}{vs:List V}(h:RD K ρ H d v)(t:RDs K ρ H ds vs):RDs K ρ H (d :: ds) (v :: vs):=by
 simp only[RDs]; exact⟨v,vs,rfl,h,t⟩
theorem RDs.length:∀ {ds:List D} {vs:List V},RDs K ρ H ds vs->ds.length=vs.length
 | [],vs,h=>by simp only[RDs] at h; subst h; rfl
 | d :: ds,vs,h=>by
  simp only[RDs] at h;obtain⟨v,r,rfl,_,h2⟩:=h;simp[RDs.length h2]
theorem RDs.append:∀ {ds es:List D} {vs us:List V},RDs K ρ H ds vs->RDs K ρ H es us->RDs K ρ H (ds++es) (vs++us)
 | [],es,vs,us,h,t=>by simp only[RDs] at h; subst h; exact t
 | d :: ds,es,vs,us,h,t=>by
  simp only[RDs] at h;obtain⟨v,r,rfl,h1,h2⟩:=h;exact RDs.cons h1 (RDs.append h2 t)
theorem RDs.get:∀ {ds:List D} {vs:List V} {i:Nat} {d:D},RDs K ρ H ds vs->ds[i]?=some d->∃ v,vs[i]?=some v/\RD K ρ H d v
 | [],vs,i,d,h,e=>by simp at e
 | x :: ds,vs,0,d,h,e=>by
  simp only[RDs] at h;obtain⟨v,r,rfl,h1,h2⟩:=h;simp at e; subst e;exact⟨v,rfl,h1⟩
 | x :: ds,vs,i + 1,d,h,e=>by
  simp only[RDs] at h;obtain⟨v,r,rfl,h1,h2⟩:=h;obtain⟨v',e',h'⟩:=RDs.get (i:=i) h2 (by simpa using e)
  exact⟨v',by simpa using e',h'⟩
theorem RDs.none{ds:List D}{vs:List V}{i:Nat}(h:RDs K ρ H ds vs)(e:ds[i]?=none):vs[i]?=none:=by
 have:=h.length;rw[List.getElem?_eq_none_iff] at e ⊢;omega
theorem RDs.set{d:D}{v:V}(hv:RD K ρ H d v):∀ {ds:List D} {vs:List V} (i:Nat),RDs K ρ H ds vs->RDs K ρ H (ds.set i d) (vs.set i v)
 | [],vs,i,h=>by simp only[RDs] at h; subst h; exact RDs.nil
 | x :: ds,vs,0,h=>by
  simp only[RDs] at h;obtain⟨w,r,rfl,h1,h2⟩:=h;exact RDs.cons hv h2
 | x :: ds,vs,i + 1,h=>by
  simp only[RDs] at h;obtain⟨w,r,rfl,h1,h2⟩:=h;exact RDs.cons h1 (RDs.set hv i h2)
theorem RDs.drop:∀ {ds:List D} {vs:List V} (n:Nat),RDs K ρ H ds vs->RDs K ρ H (ds.drop n) (vs.drop n)
 | ds,vs,0,h=>h
 | [],vs,n + 1,h=>by simp only[RDs] at h; subst h; exact RDs.nil
 | x :: ds,vs,n + 1,h=>by
  simp only[RDs] at h;obtain⟨w,r,rfl,h1,h2⟩:=h;exact RDs.drop n h2
theorem RDs.take:∀ {ds:List D} {vs:List V} (n:Nat),RDs K ρ H ds vs->RDs K ρ H (ds.take n) (vs.take n)
 | ds,vs,0,h=>RDs.nil
 | [],vs,n + 1,h=>by simp only[RDs] at h; subst h; exact RDs.nil
 | x :: ds,vs,n + 1,h=>by
  simp only[RDs] at h;obtain⟨w,r,rfl,h1,h2⟩:=h;exact RDs.cons h1 (RDs.take n h2)
theorem RDs.reverse{ds:List D}{vs:List V}(h:RDs K ρ H ds vs):RDs K ρ H ds.reverse vs.reverse:=by
 induction ds generalizing vs with
 | nil=>simp only[RDs] at h; subst h; exact RDs.nil
 | cons d ds ih =>
  simp only[RDs] at h;obtain⟨w,r,rfl,h1,h2⟩:=h;rw[List.reverse_cons,List.reverse_cons];exact(ih h2).append (RDs.cons h1 RDs.nil)
theorem RDs.eraseIdx:∀ {ds:List D} {vs:List V} (n:Nat),RDs K ρ H ds vs->RDs K ρ H (ds.eraseIdx n) (vs.eraseIdx n)
 | [],vs,n,h=>by simp only[RDs] at h; subst h; exact RDs.nil
 | x :: ds,vs,0,h=>by
  simp only[RDs] at h;obtain⟨w,r,rfl,h1,h2⟩:=h;exact h2
 | x :: ds,vs,n + 1,h=>by
  simp only[RDs] at h;obtain⟨w,r,rfl,h1,h2⟩:=h;exact RDs.cons h1 (RDs.eraseIdx n h2)
theorem RDs.ints:∀ (ns:List Int),RDs K ρ H (ns.map D.int) (ns.map V.int)
 | []=>RDs.nil
 | n :: ns=>RDs.cons (by simp only[RD]) (RDs.ints ns)
theorem RDs.ints_of:∀ {ns:List Int} {vs:List V},RDs K ρ H (ns.map D.int) vs->vs=ns.map V.int
 | [],vs,h=>by simp only[List.map,RDs] at h; exact h
 | n :: ns,vs,h=>by
  simp only[List.map,RDs] at h;obtain⟨v,r,rfl,h1,h2⟩:=h;simp only[RD] at h1;subst h1;rw[RDs.ints_of h2]; rfl
theorem OR.mono'(x:Mon K ρ ρ' H H'){a:Addr}{o:O}(h:OR K ρ H a o)(e:H' a=H a):OR K ρ' H' a o:=by
 cases o with
 | lst xs=>obtain⟨vs,h1,h2⟩:=h; exact⟨vs,e.trans h1,RDs.mono' x xs vs h2⟩
 | dct kvs=>obtain⟨h1,h2⟩:=h; exact⟨h1,e.trans h2⟩
 | set _=>exact h.elim
 | exc c=>obtain⟨C,h1,h2⟩:=h; exact⟨C,h1,e.trans h2⟩
theorem OR.mono(x:Stp K ρ ρ' H H'){a:Addr}{o:O}(h:OR K ρ H a o)(e:H' a=H a):OR K ρ' H' a o:=OR.mono' x.toMon h e
theorem SR.at(r:SR K ρ S H){n:Nat}{a:Addr}(h:ρ[n]?=some a):∃ o,S[n]?=some o/\OR K ρ H a o:=by
 have hn:n < S.length:=by rw[<- r.len]; exact(List.getElem?_eq_some_iff.mp h).1
 exact⟨S[n],by simp[hn],r.ob n a _ h (by simp[hn])⟩
theorem SR.adr(r:SR K ρ S H){n:Nat}{o:O}(h:S[n]?=some o):∃ a,ρ[n]?=some a/\OR K ρ H a o:=by
 have hn:n < ρ.length:=by rw[r.len]; exact(List.getElem?_eq_some_iff.mp h).1
 exact⟨ρ[n],by simp[hn],r.ob n _ o (by simp[hn]) h⟩
theorem SR.mem(r:SR K ρ S H){a:Addr}(h:a∈ρ):∃ u,H a=some u/\(∀ xs,u≠.tup xs)/\∀ o' u',u≠.frz o' u':=by
 obtain⟨n,hn,e⟩:=List.mem_iff_getElem.mp h;obtain⟨o,_,q⟩:=r.at (n:=n) (a:=a) (by simp[hn,e])
 exact q.some
theorem Stp.upd{p:Addr}{o:HO}(hp:H p=none):Stp K ρ ρ H (L2.upd H p o) where
 pre:=fun _ _ h=>h
 new:=fun _ h=>.inl h
 keep:=fun a u h _=>by rw[upd_ne (ne_of_none h hp)]; exact h
 tup:=fun a xs h=>by
  rcases h with(h | ⟨u,h⟩) | h
  ·exact .inl (.inl (by rw[upd_ne (ne_of_none h hp)]; exact h))
  ·exact .inl (.inr ⟨u,by rw[upd_ne (ne_of_none h hp)]; exact h⟩)
  ·exact .inr h
 fro:=fun a xs h=>by
  rcases h with⟨u,h⟩ | h
  ·exact .inl ⟨u,by rw[upd_ne (ne_of_none h hp)]; exact h⟩
  ·exact .inr h
theorem SR.upd(r:SR K ρ S H){p:Addr}{o:HO}(hp:H p=none):SR K ρ S (L2.upd H p o) :=
 ⟨r.len,r.nd,fun n a ob h1 h2=>by
  have q:=r.ob n a ob h1 h2;obtain⟨u,hu,_⟩:=q.some;exact q.mono (Stp.upd hp) (upd_ne (ne_of_none hu hp))⟩
theorem Stp.new1{p:Addr}{o:HO}(hp:H p=none):Stp K ρ (ρ++[p]) H (L2.upd H p o) where
 pre:=fun n a h=>by rw[List.getElem?_append_left (List.getElem?_eq_some_iff.mp h).1]; exact h
 new:=fun a h=>by
  rcases List.mem_append.mp h with h | h
  ·exact .inl h
  ·rw[List.mem_singleton.mp h]; exact .inr hp
 keep:=(Stp.upd (ρ:=ρ) (K:=K) hp).keep
 tup:=(Stp.upd (ρ:=ρ) (K:=K) hp).tup
 fro:=(Stp.upd (ρ:=ρ) (K:=K) hp).fro
theorem SR.new1(r:SR K ρ S H){p:Addr}{u:HO}{o:O}(hp:H p=none)(ho:OR K (ρ++[p]) (L2.upd H p u) p o):SR K (ρ++[p]) (S++[o]) (L2.upd H p u):=by
 have hpm:p ∉ ρ:=fun h=>by obtain⟨w,hw,_⟩:=r.mem h; rw[hp] at hw; cases hw
 refine⟨by simp[r.len],?_,fun n a ob h1 h2=>?_⟩
 ·rw[List.nodup_append]
  refine⟨r.nd,by simp,fun x hx y hy=>?_⟩
  rw[List.mem_singleton.mp hy];exact fun z=>hpm (z ▸ hx)
 ·by_cases hn:n < ρ.length
  ·rw[List.getElem?_append_left hn] at h1
   rw[List.getElem?_append_left (by rw[<- r.len]; exact hn)] at h2
   have q:=r.ob n a ob h1 h2;obtain⟨w,hw,_⟩:=q.some;exact q.mono (Stp.new1 hp) (upd_ne (ne_of_none hw hp))
  ·have e:n=ρ.length:=by
    have:=(List.getElem?_eq_some_iff.mp h1).1;simp at this; omega
   subst e;simp at h1;rw[r.len] at h2;simp at h2;subst h1 h2;exact ho
theorem Stp.chg{n:Nat}{a:Addr}{o:O}{u:HO}(r:SR K ρ S H)(ha:ρ[n]?=some a):Stp K ρ ρ H (L2.upd H a u):=by
 have hm:a∈ρ:=List.mem_of_getElem? ha;obtain⟨w,hw,h1,h2⟩:=r.mem hm;refine⟨⟨fun _ _ h=>h,fun b xs h=>?_,fun b xs h=>?_⟩,fun _ h=>.inl h,fun b o h hb=>?_⟩
 ·rcases h with(h | ⟨v,h⟩) | h
  ·exact .inl (.inl (by rw[upd_ne (fun z=>by subst z; rw[hw] at h; exact h1 _ (Option.some.inj h))]; exact h))
  ·exact .inl (.inr ⟨v,by rw[upd_ne (fun z=>by subst z; rw[hw] at h; exact h2 _ _ (Option.some.inj h))]; exact h⟩)
  ·exact .inr h
 ·rcases h with⟨v,h⟩ | h
  ·exact .inl ⟨v,by rw[upd_ne (fun z=>by subst z; rw[hw] at h; exact h2 _ _ (Option.some.inj h))]; exact h⟩
  ·exact .inr h
 ·rw[upd_ne (fun z=>hb (by rw[z]; exact hm))]; exact h
theorem SR.chg{n:Nat}{a:Addr}{o:O}{u:HO}(r:SR K ρ S H)(ha:ρ[n]?=some a)(ho:OR K ρ (L2.upd H a u) a o):SR K ρ (S.set n o) (L2.upd H a u):=by
 refine⟨by simp[r.len],r.nd,fun m b ob h1 h2=>?_⟩
 have hn:n < S.length:=by rw[<- r.len]; exact(List.getElem?_eq_some_iff.mp ha).1
 by_cases e:m=n
 ·subst e
  rw[ha] at h1; cases h1;rw[List.getElem?_set_self hn] at h2; cases h2;exact ho
 ·rw[List.getElem?_set_ne (Ne.symm e)] at h2
  have q:=r.ob m b ob h1 h2;refine q.mono (Stp.chg (S:=S) (o:=o) r ha) (upd_ne fun z=>e ?_)
  subst z;obtain⟨h3,e3⟩:=List.getElem?_eq_some_iff.mp h1;obtain⟨h4,e4⟩:=List.getElem?_eq_some_iff.mp ha;exact(List.getElem_inj r.nd).mp (e3.trans e4.symm)
end
section
variable{K:PySem.W.Frag}{ρ ρ':List Addr}{H H':Hp}{S S':Sto}
theorem Mon.own{D:Addr}{u:HO}{vs:List V}(hd:H D=some (.lst vs)):Mon K ρ ρ H (L2.upd H D u) where
 pre:=fun _ _ h=>h
 tup:=fun a xs h=>by
  rcases h with(h | ⟨v,h⟩) | h
  ·exact .inl (.inl (by rw[upd_ne (fun z=>by subst z; rw[hd] at h; cases h)]; exact h))
  ·exact .inl (.inr ⟨v,by rw[upd_ne (fun z=>by subst z; rw[hd] at h; cases h)]; exact h⟩)
  ·exact .inr h
 fro:=fun a xs h=>by
  rcases h with⟨v,h⟩ | h
  ·exact .inl ⟨v,by rw[upd_ne (fun z=>by subst z; rw[hd] at h; cases h)]; exact h⟩
  ·exact .inr h
theorem SR.own{D:Addr}{u:HO}{vs:List V}(r:SR K ρ S H)(hd:H D=some (.lst vs))(hn:D ∉ ρ):SR K ρ S (L2.upd H D u) :=
 ⟨r.len,r.nd,fun n a ob h1 h2=>(r.ob n a ob h1 h2).mono' (Mon.own hd) (upd_ne fun z=>hn (by rw[<- z]; exact List.mem_of_getElem? h1))⟩
theorem Stp.own{D:Addr}{u:HO}{vs:List V}{H0:Hp}{ρ0:List Addr}(x:Stp K ρ0 ρ H0 H)(h0:H0 D=none)(hd:H D=some (.lst vs)):Stp K ρ0 ρ H0 (L2.upd H D u) where
 pre:=x.pre
 tup:=fun a xs h=>(Mon.own (ρ:=ρ) hd).tup a xs (x.tup a xs h)
 fro:=fun a xs h=>(Mon.own (ρ:=ρ) hd).fro a xs (x.fro a xs h)
 new:=x.new
 keep:=fun a o h hn=>by rw[upd_ne (ne_of_none h h0)]; exact x.keep a o h hn
end
structure ER(K:PySem.W.Frag)(ρ:List Addr)(H:Hp)(env:En)(σ:L2.St):Prop where
 len:env.length=σ.length
 val:∀ (i:Nat) d,env[i]?=some (some d)->∃ v,σ[i]?=some (some v)/\RD K ρ H d v
theorem ER.mono{K:PySem.W.Frag}{ρ ρ':List Addr}{H H':Hp}{env:En}{σ:L2.St}(r:ER K ρ H env σ)(x:Stp K ρ ρ' H H'):ER K ρ' H' env σ :=
 ⟨r.len,fun i d e=>let ⟨v,h1,h2⟩:=r.val i d e; ⟨v,h1,h2.mono x⟩⟩
theorem ER.mono'{K:PySem.W.Frag}{ρ ρ':List Addr}{H H':Hp}{env:En}{σ:L2.St}(r:ER K ρ H env σ)(x:Mon K ρ ρ' H H'):ER K ρ' H' env σ :=
 ⟨r.len,fun i d e=>let ⟨v,h1,h2⟩:=r.val i d e; ⟨v,h1,RD.mono' x d v h2⟩⟩
theorem ER.set{K:PySem.W.Frag}{ρ:List Addr}{H:Hp}{env:En}{σ:L2.St}(r:ER K ρ H env σ)(i:Nat){d:D}{v:V}(h:RD K ρ H d v):ER K ρ H (env.set i (some d)) (σ.set i (some v)) :=
 ⟨by simp[r.len],fun j e h1=>by
  by_cases z:j=i
  ·subst z
   have hj:j < env.length:=by
    have:=(List.getElem?_eq_some_iff.mp h1).1
    simpa using this
   rw[List.getElem?_set_self hj] at h1;cases h1;exact⟨v,by rw[List.getElem?_set_self (by rw[<- r.len]; exact hj)],h⟩
  ·rw[List.getElem?_set_ne (Ne.symm z)] at h1
   obtain⟨v',h2,h3⟩:=r.val j e h1;exact⟨v',by rw[List.getElem?_set_ne (Ne.symm z)]; exact h2,h3⟩⟩
structure S0(X:Cx)(pins:List (Addr×Obj))(σ:L2.St)(H:Hp)(s:Shared)(ρ:List Addr)(S:Sto)(env:En):Prop where
 inv:Inv X pins σ H s
 sr:SR X.K ρ S H
 er:ER X.K ρ H env σ
theorem S0.step{X:Cx}{pins:List (Addr×Obj)}{σ:L2.St}{H H':Hp}{s s':Shared}{ρ ρ':List Addr}{S S':Sto}{env:En}(I:S0 X pins σ H s ρ S env)(J:Inv X pins σ H' s')(r:SR X.K ρ' S' H')(x:Stp X.K ρ ρ' H H') :
  S0 X pins σ H' s' ρ' S' env:=⟨J,r,I.er.mono x⟩
def EPd(X:Cx)(pins:List (Addr×Obj))(σ:L2.St)(ρ:List Addr)(H:Hp)(d:D)(S':Sto)(u:Value)(s':Shared):Prop :=
 ∃ v H' ρ',Inv X pins σ H' s'/\RelV v u/\RD X.K ρ' H' d v/\SR X.K ρ' S' H'/\Stp X.K ρ ρ' H H'
def Trc(ok:Addr->Prop)(H':Hp)(a:Addr)(h:Heap):Prop :=
 ∃ oe vs T oT ts,h.get? a=some oe/\oe.data=.fields vs/\vs[1]?=some (.ref T)/\ok T/\T≠a/\H' T=none/\h.get? T=some oT/\oT.data=.fields ts/\ts[3]?=some .none
theorem Trc.imp{ok ok':Addr->Prop}{H':Hp}{a:Addr}{h:Heap}(x:Trc ok H' a h)(k:∀ T,ok T->ok' T):Trc ok' H' a h:=by
 obtain⟨oe,vs,T,oT,ts,h1,h2,h3,h4,r⟩:=x;exact⟨oe,vs,T,oT,ts,h1,h2,h3,k T h4,r⟩
def Fly(X:Cx)(pins:List (Addr×Obj))(H':Hp)(a:Addr)(h:Heap):Prop :=
 (∃ oe vs,h.get? a=some oe/\oe.data=.fields vs/\vs[1]?=some .none)\/Trc (fun T=>(T∈X.ex\/X.s₀.heap.get? T=none)/\∀ p∈X.pn++pins,p.1≠T) H' a h
def XPd(X:Cx)(pins:List (Addr×Obj))(σ:L2.St)(ρ:List Addr)(H:Hp)(n:Nat)(S':Sto)(e:Value)(s':Shared):Prop :=
 ∃ H' ρ' a c,Inv X pins σ H' s'/\e=.ref a/\ρ'[n]?=some a/\S'[n]?=some (.exc c)/\SR X.K ρ' S' H'/\Stp X.K ρ ρ' H H'/\Fly X pins H' a s'.heap
def OkP(X:Cx)(pins:List (Addr×Obj))(σ:L2.St)(ρ:List Addr)(H:Hp)(r:R D)(u:Value)(s':Shared):Prop:=∃ d S',r=.ok d S'/\EPd X pins σ ρ H d S' u s'
def ExP(X:Cx)(pins:List (Addr×Obj))(σ:L2.St)(ρ:List Addr)(H:Hp){α:Type}(r:R α)(e:Value)(s':Shared):Prop:=∃ n S',r=.ex n S'/\XPd X pins σ ρ H n S' e s'
def DE(X:Cx)(e:Expr)(f:En->Sto->R D):Prop :=
 ∀ (pins:List (Addr×Obj)) (s:Shared) (σ:L2.St) (H:Hp) (ρ:List Addr) (S:Sto) (env:En),S0 X pins σ H s ρ S env->f env S≠.bad ->
  wpAny (model X.prog X.w) X.A (eval e X.env) (OkP X pins σ ρ H (f env S)) (ExP X pins σ ρ H (f env S)) s
def DT(X:Cx)(e:Expr)(f:En->Sto->R Bool):Prop :=
 ∀ (pins:List (Addr×Obj)) (s:Shared) (σ:L2.St) (H:Hp) (ρ:List Addr) (S:Sto) (env:En),S0 X pins σ H s ρ S env->f env S≠.bad ->
  wpAny (model X.prog X.w) X.A (isTrue e X.env (eval e X.env)) (fun b s'=>∃ S',f env S=.ok b S'/\∃ H' ρ',Inv X pins σ H' s'/\SR X.K ρ' S' H'/\Stp X.K ρ ρ' H H') (ExP X pins σ ρ H (f env S)) s
section
variable{X:Cx}{pins:List (Addr×Obj)}{σ:L2.St}{H:Hp}{s:Shared}{ρ:List Addr}{S S':Sto}{env:En}{e:Expr}{f:En->Sto->R D}{g:En->Sto->R Bool}{Q:Value->Shared->Prop}{E:Value->Shared->Prop}
theorem DE.ok{d:D}(h:DE X e f)(I:S0 X pins σ H s ρ S env)(r:f env S=.ok d S')(hQ:∀ u s' v H' ρ',S0 X pins σ H' s' ρ' S' env->RelV v u->RD X.K ρ' H' d v->Stp X.K ρ ρ' H H'->Q u s') :
  wpAny (model X.prog X.w) X.A (eval e X.env) Q E s:=by
 have nb:f env S≠.bad:=by rw[r]; exact fun z=>nomatch z
 refine wpAny_mono (h pins s σ H ρ S env I nb) (fun u s' q=>?_) fun x s' q=>?_
 ·obtain⟨d',S1,e1,v,H',ρ',J,rv,rd,sr,st⟩:=q
  rw[r] at e1; cases e1;exact hQ u s' v H' ρ' (I.step J sr st) rv rd st
 ·obtain⟨n,S1,e1,_⟩:=q
  rw[r] at e1; cases e1
theorem DE.ex{n:Nat}(h:DE X e f)(I:S0 X pins σ H s ρ S env)(r:f env S=.ex n S')(hE:∀ x s',XPd X pins σ ρ H n S' x s'->E x s') :
  wpAny (model X.prog X.w) X.A (eval e X.env) Q E s:=by
 have nb:f env S≠.bad:=by rw[r]; exact fun z=>nomatch z
 refine wpAny_mono (h pins s σ H ρ S env I nb) (fun u s' q=>?_) fun x s' q=>?_
 ·obtain⟨d',S1,e1,_⟩:=q
  rw[r] at e1; cases e1
 ·obtain⟨m,S1,e1,q⟩:=q
  rw[r] at e1; cases e1;exact hE x s' q
theorem DT.ok{Q:Bool->Shared->Prop}{b:Bool}(h:DT X e g)(I:S0 X pins σ H s ρ S env)(r:g env S=.ok b S')(hQ:∀ s' H' ρ',S0 X pins σ H' s' ρ' S' env->Stp X.K ρ ρ' H H'->Q b s') :
  wpAny (model X.prog X.w) X.A (isTrue e X.env (eval e X.env)) Q E s:=by
 have nb:g env S≠.bad:=by rw[r]; exact fun z=>nomatch z
 refine wpAny_mono (h pins s σ H ρ S env I nb) (fun u s' q=>?_) fun x s' q=>?_
 ·obtain⟨S1,e1,H',ρ',J,sr,st⟩:=q
  rw[r] at e1; cases e1;exact hQ s' H' ρ' (I.step J sr st) st
 ·obtain⟨n,S1,e1,_⟩:=q
  rw[r] at e1; cases e1
theorem DT.ex{Q:Bool->Shared->Prop}{n:Nat}(h:DT X e g)(I:S0 X pins σ H s ρ S env)(r:g env S=.ex n S')(hE:∀ x s',XPd X pins σ ρ H n S' x s'->E x s') :
  wpAny (model X.prog X.w) X.A (isTrue e X.env (eval e X.env)) Q E s:=by
 have nb:g env S≠.bad:=by rw[r]; exact fun z=>nomatch z
 refine wpAny_mono (h pins s σ H ρ S env I nb) (fun u s' q=>?_) fun x s' q=>?_
 ·obtain⟨S1,e1,_⟩:=q
  rw[r] at e1; cases e1
 ·obtain⟨m,S1,e1,q⟩:=q
  rw[r] at e1; cases e1;exact hE x s' q
theorem XPd.pre{ρ':List Addr}{H':Hp}{n:Nat}{x:Value}{s':Shared}(st:Stp X.K ρ ρ' H H')(h:XPd X pins σ ρ' H' n S' x s'):XPd X pins σ ρ H n S' x s':=by
 obtain⟨H2,ρ2,a,c,J,e,hn,hc,sr,st2,fl⟩:=h;exact⟨H2,ρ2,a,c,J,e,hn,hc,sr,st.trans st2,fl⟩
theorem ExP.mk{α:Type}{ρ':List Addr}{H':Hp}{n:Nat}{x:Value}{s':Shared}(st:Stp X.K ρ ρ' H H')(h:XPd X pins σ ρ' H' n S' x s'):ExP X pins σ ρ H (.ex n S':R α) x s':=⟨n,S',rfl,h.pre st⟩
theorem OkP.mk{ρ':List Addr}{H':Hp}{d:D}{v:V}{u:Value}{s':Shared}(st:Stp X.K ρ ρ' H H')(J:Inv X pins σ H' s')(rv:RelV v u)(rd:RD X.K ρ' H' d v)(sr:SR X.K ρ' S' H'):OkP X pins σ ρ H (.ok d S') u s' :=
 ⟨d,S',rfl,v,H',ρ',J,rv,rd,sr,st⟩
theorem OkP.pre{ρ':List Addr}{H':Hp}{r:R D}{u:Value}{s':Shared}(st:Stp X.K ρ ρ' H H')(h:OkP X pins σ ρ' H' r u s'):OkP X pins σ ρ H r u s':=by
 obtain⟨d,S1,e,v,H2,ρ2,J,rv,rd,sr,st2⟩:=h;exact⟨d,S1,e,v,H2,ρ2,J,rv,rd,sr,st.trans st2⟩
theorem ExP.pre{α:Type}{ρ':List Addr}{H':Hp}{r:R α}{x:Value}{s':Shared}(st:Stp X.K ρ ρ' H H')(h:ExP X pins σ ρ' H' r x s'):ExP X pins σ ρ H r x s':=by
 obtain⟨n,S1,e,q⟩:=h;exact⟨n,S1,e,q.pre st⟩
theorem DE.bind{α:Type}(h:DE X e f)(I:S0 X pins σ H s ρ S env){k:D->Sto->R α}(nb:(f env S).bind k≠.bad){r:R α}(hr:r=(f env S).bind k)
  (hQ:∀ d S1 u s' v H' ρ',r=k d S1->k d S1≠.bad->S0 X pins σ H' s' ρ' S1 env->RelV v u->RD X.K ρ' H' d v->Stp X.K ρ ρ' H H'->Q u s') (hE:∀ x s',ExP X pins σ ρ H r x s'->E x s') :
  wpAny (model X.prog X.w) X.A (eval e X.env) Q E s:=by
 cases q:f env S with
 | bad=>rw[q] at nb; exact absurd rfl nb
 | ex n S1 =>
  rw[q] at hr;exact h.ex I q fun x s' z=>hE x s' ⟨n,S1,hr,z⟩
 | ok d S1 =>
  rw[q] at hr nb;exact h.ok I q fun u s' v H' ρ' J rv rd st=>hQ d S1 u s' v H' ρ' hr nb J rv rd st
end
end Z
end
section
namespace Z
open PySem PySem.Spec PyProof.Rows L2
theorem big_le:big<=sizeLine:=by rw[sizeLine_eq]; decide
theorem le_line{n:Nat}(h:n<=big):n<=sizeLine:=Nat.le_trans h big_le
noncomputable def tst(r:R D):R Bool:=r.bind fun x S=>match truD S x with
 | some b=>.ok b S
 | none=>.bad
section
variable{X:Cx}{pins:List (Addr×Obj)}{σ:L2.St}{H:Hp}{s:Shared}{ρ:List Addr}{S S':Sto}{env:En}{e a b c:Expr}{f fa fb fc:En->Sto->R D}{Q:Value->Shared->Prop}{E:Value->Shared->Prop}{pos:Pos}
theorem opd{f:Value->Value->Sem Value}{r:R2}{x y:V}{v u:Value}{Q':VK}(ho:OpR (X.wish E) f r)(I:Inv X pins σ H s)(rx:RelV x v)(ry:RelV y u)(h:r x y H Q')
  (hQ:∀ w s' z H',Inv X pins σ H' s'->RelV z w->Q' z H'->Q w s'):wpAny (model X.prog X.w) X.A (f v u) Q E s :=
 thn (ho pins s σ H x y v u Q' (I.wish E) rx ry h) fun w s' ⟨z,H',J,rz,q⟩=>hQ w s' z H' J.unwish rz q
theorem ped{t:TE}{Q':VK}(ho:PE (X.wish E) e t)(I:Inv X pins σ H s)(h:t σ H Q')(hQ:∀ w s' z H',Inv X pins σ H' s'->RelV z w->Q' z H'->Q w s'):wpAny (model X.prog X.w) X.A (eval e X.env) Q E s :=
 thn (ho pins s σ H Q' (I.wish E) h) fun w s' ⟨z,H',J,rz,q⟩=>hQ w s' z H' J.unwish rz q
theorem calld{f:Value}{r:List V->Hp->VK->Prop}{xs:List V}{us:List Value}{Q':VK}(ho:CallR (X.wish E) f r)(I:Inv X pins σ H s)(rx:Vals xs us)(h:r xs H Q')
  (hQ:∀ w s' z H',Inv X pins σ H' s'->RelV z w->Q' z H'->Q w s'):wpAny (model X.prog X.w) X.A (call f us) Q E s :=
 thn (ho pins s σ H xs us Q' (I.wish E) rx h) fun w s' ⟨z,H',J,rz,q⟩=>hQ w s' z H' J.unwish rz q
theorem mtd{id:String}{r:V->List V->Hp->VK->Prop}{x:V}{xs:List V}{v:Value}{us:List Value}{Q':VK}(ho:MtM (X.wish E) id r)(I:Inv X pins σ H s)(rx:RelV x v)(rs:Vals xs us)(h:r x xs H Q')
  (hQ:∀ w s' z H',Inv X pins σ H' s'->RelV z w->Q' z H'->Q w s'):wpAny (model X.prog X.w) X.A (call (.builtin id) (v :: us)) Q E s :=
 thn (ho pins s σ H x xs v us Q' (I.wish E) rx rs h) fun w s' ⟨z,H',J,rz,q⟩=>hQ w s' z H' J.unwish rz q
theorem S0.list(I:S0 X pins σ H s ρ S env){n:Nat}{xs:List D}(h:lstAt S n=some xs):∃ a vs,ρ[n]?=some a/\H a=some (.lst vs)/\RDs X.K ρ H xs vs:=by
 unfold lstAt at h;cases e:S[n]? with
 | none=>rw[e] at h; cases h
 | some o =>
  rw[e] at h;cases o with
  | lst ys =>
   cases h;obtain⟨a,ha,vs,hv,hr⟩:=I.sr.adr e;exact⟨a,vs,ha,hv,hr⟩
  | set _=>cases h
  | dct _=>cases h
  | exc _=>cases h
theorem S0.seq(I:S0 X pins σ H s ρ S env){d:D}{v:V}{xs:List D}(h:seqD S d=some xs)(r:RD X.K ρ H d v):∃ a vs,v=.ref a/\(SqL X.K H a vs\/SqT X.K H a vs)/\RDs X.K ρ H xs vs:=by
 cases d with
 | tup ys =>
  simp only[seqD,Option.some.injEq] at h; subst h;simp only[RD] at r;obtain⟨a,vs,e,h1,h2⟩:=r;exact⟨a,vs,e,.inr h1,h2⟩
 | fro ys =>
  simp only[seqD,Option.some.injEq] at h; subst h;simp only[RD] at r;obtain⟨a,vs,e,h1,h2⟩:=r;exact⟨a,vs,e,.inl h1.sq,h2⟩
 | ref n =>
  simp only[RD] at r;obtain⟨a,e,h1⟩:=r;obtain⟨a',vs,h2,h3,h4⟩:=I.list (xs:=xs) (n:=n) h;rw[h1] at h2; cases h2;exact⟨a,vs,e,.inl (.of h3),h4⟩
 | non=>cases h
 | bl _=>cases h
 | int _=>cases h
 | str _=>cases h
 | fn _ _=>cases h
theorem isEmpty_rd{ds:List D}{vs:List V}(h:RDs X.K ρ H ds vs):(!vs.isEmpty) = !ds.isEmpty:=by
 have:=h.length;cases ds <;> cases vs <;> simp_all
theorem tru_d(I:S0 X pins σ H s ρ S env){d:D}{v:V}{u:Value}{k:Bool}{Q:Bool->Shared->Prop}(h:truD S d=some k)(rd:RD X.K ρ H d v)(rv:RelV v u)(hQ:∀ s',Inv X pins σ H s'->Q k s') :
  wpAny (model X.prog X.w) X.A (truthy u) Q E s:=by
 have key:TruV X.K v H k:=by
  cases d with
  | non=>simp only[RD] at rd; subst rd; simp only[truD,Option.some.injEq] at h; exact h.symm
  | bl b=>simp only[RD] at rd; subst rd; simp only[truD,Option.some.injEq] at h; exact h.symm
  | int i=>simp only[RD] at rd; subst rd; simp only[truD,Option.some.injEq] at h; exact h.symm
  | str x =>
   simp only[RD] at rd; subst rd;simp only[truD] at h;split at h
   ·rename_i hb
    exact⟨le_line hb,(Option.some.inj h).symm⟩
   ·cases h
  | fn _ _=>cases h
  | tup xs =>
   simp only[truD,Option.some.injEq] at h;obtain⟨a,vs,e,h1,h2⟩:=I.seq (d:=.tup xs) rfl rd;subst e;rcases h1 with h1 | h1
   ·exact .inl ⟨vs,h1,by rw[isEmpty_rd h2]; exact h.symm⟩
   ·exact .inr (.inl ⟨vs,h1,by rw[isEmpty_rd h2]; exact h.symm⟩)
  | fro xs =>
   simp only[truD,Option.some.injEq] at h;obtain⟨a,vs,e,h1,h2⟩:=I.seq (d:=.fro xs) rfl rd;subst e;rcases h1 with h1 | h1
   ·exact .inl ⟨vs,h1,by rw[isEmpty_rd h2]; exact h.symm⟩
   ·exact .inr (.inl ⟨vs,h1,by rw[isEmpty_rd h2]; exact h.symm⟩)
  | ref n =>
   simp only[truD] at h;cases e:S[n]? with
   | none=>rw[e] at h; cases h
   | some o =>
    rw[e] at h;cases o with
    | lst ys =>
     obtain⟨a,vs,h1,h2,h3⟩:=I.list (n:=n) (xs:=ys) (by unfold lstAt; rw[e])
     simp only[RD] at rd;obtain⟨a',e',h1'⟩:=rd;rw[h1] at h1'; cases h1';subst e';exact .inl ⟨vs,.of h2,by rw[isEmpty_rd h3]; exact(Option.some.inj h).symm⟩
    | set _=>cases h
    | dct _=>cases h
    | exc _=>cases h
 exact thn (tru_ok (X:=X.wish E) pins s σ H v u (fun k' H'=>k'=k/\H'=H) (I.inv.wish E) rv ⟨k,key,rfl,rfl⟩) fun b s' ⟨H',J,e1,e2⟩=>by subst e1 e2; exact hQ s' J.unwish
theorem DT.of(h:DE X e f)(he:∀ whole,isTrue e X.env whole=(do let v <- whole; standAt e.pos; holding [v] (truthy v))):DT X e (fun env S=>tst (f env S)):=by
 intro pins s σ H ρ S env I nb;dsimp only at nb ⊢;cases q:f env S with
 | bad=>rw[q] at nb; exact absurd rfl nb
 | ex n S1=>exact isTrue_plain (h.ex I q fun x s' z=>⟨n,S1,rfl,z⟩) (he _)
 | ok d S1 =>
  rw[q] at nb;cases t:truD S1 d with
  | none=>simp[tst,t] at nb
  | some k =>
   refine isTrue_plain (h.ok I q fun u s' v H' ρ' J rv rd st=>?_) (he _)
   exact tru_d J t rd rv fun s2 J2=>⟨S1,by simp[tst,t],H',ρ',J2,J.sr,st⟩
theorem d_var {i:Nat} {x:Str} (hN:X.N[i]?=some x) (hv:Vis X.env.scope x) (hd:(x == ("__debug__" : Str))=false) (hcd:(x == ("__classdict__" : Str))=false) :
  DE X (.Name x pos) (fun env S=>match env[i]? with | some (some d)=>.ok d S | _=>.bad):=by
 intro pins s σ H ρ S env I nb;dsimp only at nb ⊢;cases q:env[i]? with
 | none=>rw[q] at nb; exact absurd rfl nb
 | some o =>
  cases o with
  | none=>rw[q] at nb; exact absurd rfl nb
  | some d =>
   obtain⟨v,h1,h2⟩:=I.er.val i d q;exact ped (Q':=fun z H'=>z=v/\H'=H) (pe_var hN hv hd hcd) I.inv ⟨v,h1,rfl,rfl⟩ fun u s' z H' J rz ⟨e1,e2⟩=>by
    subst e1 e2; exact .mk .refl J rz h2 I.sr
theorem d_int{i:Int}{j:Nat}:DE X (.Constant (.int i) j pos) (fun _ S=>.ok (.int i) S):=fun pins s σ H ρ S env I _ =>
 ped (Q':=fun z H'=>z=.int i/\H'=H) pe_int I.inv ⟨rfl,rfl⟩ fun u s' z H' J rz ⟨e1,e2⟩=>by
  subst e1 e2; exact .mk .refl J rz (by simp only[RD]) I.sr
theorem d_bl{i:Bool}{j:Nat}:DE X (.Constant (.bool i) j pos) (fun _ S=>.ok (.bl i) S):=fun pins s σ H ρ S env I _ =>
 ped (Q':=fun z H'=>z=.bl i/\H'=H) pe_bl I.inv ⟨rfl,rfl⟩ fun u s' z H' J rz ⟨e1,e2⟩=>by
  subst e1 e2; exact .mk .refl J rz (by simp only[RD]) I.sr
theorem d_non{j:Nat}:DE X (.Constant .none j pos) (fun _ S=>.ok .non S):=fun pins s σ H ρ S env I _ =>
 ped (Q':=fun z H'=>z=.non/\H'=H) pe_non I.inv ⟨rfl,rfl⟩ fun u s' z H' J rz ⟨e1,e2⟩=>by
  subst e1 e2; exact .mk .refl J rz (by simp only[RD]) I.sr
theorem d_str{i:Str}{j:Nat}:DE X (.Constant (.str i) j pos) (fun _ S=>.ok (.str i) S):=fun pins s σ H ρ S env I _ =>
 ped (Q':=fun z H'=>z=.str i/\H'=H) pe_str I.inv ⟨rfl,rfl⟩ fun u s' z H' J rz ⟨e1,e2⟩=>by
  subst e1 e2; exact .mk .refl J rz (by simp only[RD]) I.sr
def DA(X:Cx)(es:List Expr)(f:En->Sto->R (List D)):Prop :=
 ∀ (pos:Pos) (pins:List (Addr×Obj)) (s:Shared) (σ:L2.St) (H:Hp) (ρ:List Addr) (S:Sto) (env:En),S0 X pins σ H s ρ S env->f env S≠.bad ->
  wpAny (model X.prog X.w) X.A (spliced (backTo pos (starEach es X.env)))
   (fun us s'=>∃ ds S' vs H' ρ',f env S=.ok ds S'/\Inv X pins σ H' s'/\Vals vs us/\RDs X.K ρ' H' ds vs/\SR X.K ρ' S' H'/\Stp X.K ρ ρ' H H') (ExP X pins σ ρ H (f env S)) s
theorem DA.ok{es:List Expr}{g:En->Sto->R (List D)}{Q:List Value->Shared->Prop}{ds:List D}(h:DA X es g)(I:S0 X pins σ H s ρ S env)(r:g env S=.ok ds S')
  (hQ:∀ us s' vs H' ρ',S0 X pins σ H' s' ρ' S' env->Vals vs us->RDs X.K ρ' H' ds vs->Stp X.K ρ ρ' H H'->Q us s') :
  wpAny (model X.prog X.w) X.A (spliced (backTo pos (starEach es X.env))) Q E s:=by
 have nb:g env S≠.bad:=by rw[r]; exact fun z=>nomatch z
 refine wpAny_mono (h pos pins s σ H ρ S env I nb) (fun u s' q=>?_) fun x s' q=>?_
 ·obtain⟨d',S1,vs,H',ρ',e1,J,rv,rd,sr,st⟩:=q
  rw[r] at e1; cases e1;exact hQ u s' vs H' ρ' (I.step J sr st) rv rd st
 ·obtain⟨n,S1,e1,_⟩:=q
  rw[r] at e1; cases e1
theorem DA.ex{es:List Expr}{g:En->Sto->R (List D)}{Q:List Value->Shared->Prop}{n:Nat}(h:DA X es g)(I:S0 X pins σ H s ρ S env)(r:g env S=.ex n S')(hE:∀ x s',XPd X pins σ ρ H n S' x s'->E x s') :
  wpAny (model X.prog X.w) X.A (spliced (backTo pos (starEach es X.env))) Q E s:=by
 have nb:g env S≠.bad:=by rw[r]; exact fun z=>nomatch z
 refine wpAny_mono (h pos pins s σ H ρ S env I nb) (fun u s' q=>?_) fun x s' q=>?_
 ·obtain⟨d',S1,_,_,_,e1,_⟩:=q
  rw[r] at e1; cases e1
 ·obtain⟨m,S1,e1,q⟩:=q
  rw[r] at e1; cases e1;exact hE x s' q
theorem da_nil:DA X [] (fun _ S=>.ok [] S):=fun _ pins s σ H ρ S env I _=>Calls.spliced_nil ⟨[],S,[],H,ρ,rfl,I.inv,.nil,.nil,I.sr,.refl⟩
theorem da_cons{es:List Expr}{g:En->Sto->R (List D)}(ha:DE X a fa)(hr:DA X es g)(hs:starEach (a :: es) X.env=(false,eval a X.env) :: starEach es X.env) :
  DA X (a :: es) (fun env S=>(fa env S).bind fun x S=>(g env S).bind fun xs S=>.ok (x :: xs) S):=by
 intro pos pins s σ H ρ S env I nb;dsimp only at nb ⊢;rw[hs];show wpAny _ _ (spliced ((false,eval a X.env) :: backTo pos (starEach es X.env))) _ _ s;cases q:fa env S with
 | bad=>rw[q] at nb; exact absurd rfl nb
 | ex n S1=>exact Calls.spliced_cons (ha.ex I q fun x s' z=>⟨n,S1,rfl,z⟩)
 | ok d S1 =>
  rw[q] at nb;simp only[Rk0] at nb ⊢;refine Calls.spliced_cons (ha.ok I q fun u s1 v H1 ρ1 I1 rv rd st1=>?_)
  cases q2:g env S1 with
  | bad=>rw[q2] at nb; exact absurd rfl nb
  | ex n S2=>exact hr.ex I1 q2 fun x s' z=>.mk st1 z
  | ok ds S2 =>
   refine hr.ok I1 q2 fun us s2 vs H2 ρ2 I2 rvs rds st2=>?_
   exact⟨d :: ds,S2,v :: vs,H2,ρ2,rfl,I2.inv,.cons rv rvs,.cons (rd.mono st2) rds,I2.sr,st1.trans st2⟩
theorem fin_tup{p:Addr}{xs:List D}{vs:List V}{s':Shared}(J:Inv X pins σ (upd H p (.tup vs)) s')(hp:H p=none)(sr:SR X.K ρ S H)(rd:RDs X.K ρ H xs vs):OkP X pins σ ρ H (.ok (.tup xs) S) (.ref p) s':=by
 refine .mk (v:=.ref p) (Stp.upd hp) J rfl ?_ (sr.upd hp);simp only[RD];exact⟨p,vs,rfl,.of upd_same,RDs.mono (Stp.upd hp) xs vs rd⟩
theorem fin_lst{p:Addr}{xs:List D}{vs:List V}{s':Shared}(J:Inv X pins σ (upd H p (.lst vs)) s')(hp:H p=none)(sr:SR X.K ρ S H)(rd:RDs X.K ρ H xs vs):OkP X pins σ ρ H (.ok (.ref S.length) (S++[.lst xs])) (.ref p) s':=by
 refine .mk (v:=.ref p) (ρ':=ρ++[p]) (Stp.new1 hp) J rfl ?_ (sr.new1 hp ⟨vs,upd_same,RDs.mono (Stp.new1 hp) xs vs rd⟩);simp only[RD];exact⟨p,rfl,by rw[<- sr.len]; simp⟩
theorem d_tup{es:List Expr}{x1:Nat}{g:En->Sto->R (List D)}(h:DA X es g):DE X (.Tuple es x1 pos) (fun env S=>(g env S).bind fun xs S=>if xs.length<=big then .ok (.tup xs) S else .bad):=by
 intro pins s σ H ρ S env I nb;dsimp only at nb ⊢;cases q:g env S with
 | bad=>rw[q] at nb; exact absurd rfl nb
 | ex n S1=>exact wpAny_Tuple_spliced (h.ex I q fun x s' z=>⟨n,S1,rfl,z⟩)
 | ok ds S1 =>
  rw[q] at nb;simp only[Rk0] at nb ⊢;split at nb
  ·rename_i hz
   rw[if_pos hz];refine wpAny_Tuple_spliced (h.ok I q fun us s1 vs H1 ρ1 I1 rv rd st1=>⟨by rw[<- rv.length,<- rd.length]; exact le_line hz,?_⟩)
   have hf:H1 s1.heap.objs.size=none:=I1.inv.hok.fresh (Nat.le_refl _);refine OkP.pre st1 (fin_tup (I1.inv.laid (t':=s1.toks) (fun b u e=>Heap.get?_push_of_some _ e) (Nat.le_refl _) ?_) hf I1.sr rd)
   exact⟨by rw[<- rd.length]; exact le_line hz,us,rv,⟨_,Heap.get?_push_size _ rfl,rfl,_,rfl⟩⟩
  ·exact absurd rfl nb
theorem d_lst{es:List Expr}{g:En->Sto->R (List D)}(h:DA X es g):DE X (.List es pos) (fun env S=>(g env S).bind fun xs S=>if xs.length<=big then .ok (.ref S.length) (S++[.lst xs]) else .bad):=by
 intro pins s σ H ρ S env I nb;dsimp only at nb ⊢;cases q:g env S with
 | bad=>rw[q] at nb; exact absurd rfl nb
 | ex n S1=>exact wpAny_List_spliced (h.ex I q fun x s' z=>⟨n,S1,rfl,z⟩)
 | ok ds S1 =>
  rw[q] at nb;simp only[Rk0] at nb ⊢;split at nb
  ·rename_i hz
   rw[if_pos hz];refine wpAny_List_spliced (h.ok I q fun us s1 vs H1 ρ1 I1 rv rd st1=>⟨by rw[<- rv.length,<- rd.length]; exact le_line hz,?_⟩)
   have hf:H1 s1.heap.objs.size=none:=I1.inv.hok.fresh (Nat.le_refl _);refine OkP.pre st1 (fin_lst (I1.inv.laid (t':=s1.toks) (fun b u e=>Heap.get?_push_of_some _ e) (Nat.le_refl _) ?_) hf I1.sr rd)
   exact⟨by rw[<- rd.length]; exact le_line hz,us,0,rv,Heap.get?_push_size _ rfl⟩
  ·exact absurd rfl nb
def Op2(X:Cx)(m:Value->Value->Sem Value)(k:D->D->Sto->R D):Prop :=
 ∀ (pins:List (Addr×Obj)) (s:Shared) (σ:L2.St) (H:Hp) (ρ:List Addr) (S:Sto) (env:En) (x y:D) (v u:V) (v' u':Value) (E:Value->Shared->Prop),S0 X pins σ H s ρ S env->k x y S≠.bad ->
  RD X.K ρ H x v->RelV v v'->RD X.K ρ H y u->RelV u u'->wpAny (model X.prog X.w) X.A (m v' u') (OkP X pins σ ρ H (k x y S)) E s
theorem two{m:Value->Value->Sem Value}{k:D->D->Sto->R D}(ho:Op2 X m k)(ha:DE X a fa)(hb:DE X b fb)(I:S0 X pins σ H s ρ S env)
  (nb:(fa env S).bind (fun x S=>(fb env S).bind fun y S=>k x y S)≠.bad) :
  wpAny (model X.prog X.w) X.A (eval a X.env) (fun v s₁=>wpAny (model X.prog X.w) X.A (eval b X.env) (fun u s₂=>wpAny (model X.prog X.w) X.A (m v u)
   (OkP X pins σ ρ H ((fa env S).bind fun x S=>(fb env S).bind fun y S=>k x y S)) (ExP X pins σ ρ H ((fa env S).bind fun x S=>(fb env S).bind fun y S=>k x y S)) s₂)
   (ExP X pins σ ρ H ((fa env S).bind fun x S=>(fb env S).bind fun y S=>k x y S)) s₁) (ExP X pins σ ρ H ((fa env S).bind fun x S=>(fb env S).bind fun y S=>k x y S)) s:=by
 cases q:fa env S with
 | bad=>rw[q] at nb; exact absurd rfl nb
 | ex n S1=>exact ha.ex I q fun x s' z=>⟨n,S1,rfl,z⟩
 | ok x S1 =>
  rw[q] at nb;simp only[Rk0] at nb ⊢;refine ha.ok I q fun v' s1 v H1 ρ1 I1 rv rd st1=>?_
  cases q2:fb env S1 with
  | bad=>rw[q2] at nb; exact absurd rfl nb
  | ex n S2=>exact hb.ex I1 q2 fun x s' z=>.mk st1 z
  | ok y S2 =>
   rw[q2] at nb;simp only[Rk0] at nb ⊢;refine hb.ok I1 q2 fun u' s2 u H2 ρ2 I2 ru rdu st2=>?_
   exact wpAny_mono (ho pins s2 σ H2 ρ2 S2 env x y v u v' u' (fun _ _=>False) I2 nb (rd.mono st2) rv rdu ru) (fun w s3 z=>z.pre (st1.trans st2)) fun _ _ z=>z.elim
noncomputable def opB:Bo->Operator
 | .add=>.Add | .sub=>.Sub | .mul=>.Mult | .fdiv=>.FloorDiv | .mod=>.Mod | .pow=>.Pow
theorem d_bin{op:Bo}(ho:Op2 X (binaryOp (opB op)) (binD op))(ha:DE X a fa)(hb:DE X b fb):DE X (.BinOp a (opB op) b pos) (fun env S=>(fa env S).bind fun x S=>(fb env S).bind fun y S=>binD op x y S) :=
 fun pins s σ H ρ S env I nb=>wpAny_BinOp (two ho ha hb I nb)
noncomputable def opC:Co->CmpOp
 | .eq=>.Eq | .ne=>.NotEq | .lt=>.Lt | .le=>.LtE | .gt=>.Gt | .ge=>.GtE | .isin=>.In | .notin=>.NotIn | .is=>.Is | .isnot=>.IsNot
theorem d_cmp{op:Co}(ho:Op2 X (compareOp (opC op)) (cmpR op))(ha:DE X a fa)(hb:DE X b fb)(hm:behindInMarks (opC op) b=false) :
  DE X (.Compare a [opC op] [b] pos) (fun env S=>(fa env S).bind fun x S=>(fb env S).bind fun y S=>cmpR op x y S) :=
 fun pins s σ H ρ S env I nb=>wpAny_Compare1 (two ho ha hb I nb) hm
theorem cmpR_bl{op:Co}{x y:D}{S:Sto}(h:cmpR op x y S≠.bad):∃ r,cmpD op x y S=some r/\cmpR op x y S=.ok (.bl r) S:=by
 unfold cmpR at h ⊢;cases e:cmpD op x y S with
 | none=>rw[e] at h; exact absurd rfl h
 | some r=>exact⟨r,rfl,rfl⟩
theorem tst_ok{d:D}{S:Sto}{r:Bool}(h:truD S d=some r):tst (.ok d S)=.ok r S:=by simp[tst,h]
theorem dt_cmp{op:Co}(ho:Op2 X (compareOp (opC op)) (cmpR op))(ha:DE X a fa)(hb:DE X b fb)(hm:behindInMarks (opC op) b=false) :
  DT X (.Compare a [opC op] [b] pos) (fun env S=>tst ((fa env S).bind fun x S=>(fb env S).bind fun y S=>cmpR op x y S)):=by
 intro pins s σ H ρ S env I nb;dsimp only at nb ⊢;have nb':((fa env S).bind fun x S=>(fb env S).bind fun y S=>cmpR op x y S)≠.bad:=fun z=>nb (by rw[z]; rfl)
 refine wpAny_isTrue_Compare1 (wpAny_mono (two ho ha hb I nb') (fun v s1 h1=>wpAny_mono h1 (fun u s2 h2=>wpAny_mono h2 (fun w s3 h3=>?_) fun x s' z=>?_) fun x s' z=>?_) fun x s' z=>?_) hm
 ·obtain⟨d,S1,e,v1,H1,ρ1,J,rv,rd,sr,st⟩:=h3
  have hb':∃ r,d=.bl r:=by
   cases q:fa env S with
   | bad=>rw[q] at e; cases e
   | ex n S1=>rw[q] at e; cases e
   | ok x S1 =>
    rw[q] at e;simp only[Rk0] at e;cases q2:fb env S1 with
    | bad=>rw[q2] at e; cases e
    | ex n S1=>rw[q2] at e; cases e
    | ok y S2 =>
     rw[q2] at e;simp only[Rk0] at e;obtain⟨r,_,e2⟩:=cmpR_bl (op:=op) (x:=x) (y:=y) (S:=S2) (by rw[e]; exact fun z=>nomatch z)
     rw[e2] at e; cases e;exact⟨r,rfl⟩
  obtain⟨r,rfl⟩:=hb';simp only[RD] at rd;subst rd;cases rv;exact wpAny_truthy_bool ⟨S1,by rw[e]; rfl,H1,ρ1,J,sr,st⟩
 all_goals (obtain⟨n,S1,e,q⟩:=z; exact⟨n,S1,by rw[e]; rfl,q⟩)
theorem d_and{rest:List Expr}(ha:DE X a fa)(hb:DE X (.BoolOp .And (b :: rest) pos) fb):DE X (.BoolOp .And (a :: b :: rest) pos)
  (fun env S=>(fa env S).bind fun x S=>match truD S x with | some true=>fb env S | some false=>.ok x S | none=>.bad):=by
 intro pins s σ H ρ S env I nb;dsimp only at nb ⊢;cases q:fa env S with
 | bad=>rw[q] at nb; exact absurd rfl nb
 | ex n S1=>exact BoolOp_and (ha.ex I q fun x s' z=>⟨n,S1,rfl,z⟩)
 | ok x S1 =>
  rw[q] at nb;simp only[Rk0] at nb ⊢;refine BoolOp_and (ha.ok I q fun u s1 v H1 ρ1 I1 rv rd st1=>?_)
  cases t:truD S1 x with
  | none=>rw[t] at nb; exact absurd rfl nb
  | some r =>
   rw[t] at nb;refine tru_d I1 t rd rv fun s2 J2=>?_
   cases r with
   | true=>exact wpAny_mono (hb pins s2 σ H1 ρ1 S1 env ⟨J2,I1.sr,I1.er⟩ nb) (fun w s3 z=>z.pre st1) fun x s' z=>z.pre st1
   | false=>exact .mk st1 J2 rv rd I1.sr
theorem d_or{rest:List Expr}(ha:DE X a fa)(hb:DE X (.BoolOp .Or (b :: rest) pos) fb):DE X (.BoolOp .Or (a :: b :: rest) pos)
  (fun env S=>(fa env S).bind fun x S=>match truD S x with | some true=>.ok x S | some false=>fb env S | none=>.bad):=by
 intro pins s σ H ρ S env I nb;dsimp only at nb ⊢;cases q:fa env S with
 | bad=>rw[q] at nb; exact absurd rfl nb
 | ex n S1=>exact BoolOp_or (ha.ex I q fun x s' z=>⟨n,S1,rfl,z⟩)
 | ok x S1 =>
  rw[q] at nb;simp only[Rk0] at nb ⊢;refine BoolOp_or (ha.ok I q fun u s1 v H1 ρ1 I1 rv rd st1=>?_)
  cases t:truD S1 x with
  | none=>rw[t] at nb; exact absurd rfl nb
  | some r =>
   rw[t] at nb;refine tru_d I1 t rd rv fun s2 J2=>?_
   cases r with
   | false=>exact wpAny_mono (hb pins s2 σ H1 ρ1 S1 env ⟨J2,I1.sr,I1.er⟩ nb) (fun w s3 z=>z.pre st1) fun x s' z=>z.pre st1
   | true=>exact .mk st1 J2 rv rd I1.sr
theorem d_one{op:BoolOp}(h:DE X a f):DE X (.BoolOp op [a] pos) f:=fun pins s σ H ρ S env I nb=>BoolOp_one (h pins s σ H ρ S env I nb)
theorem d_not(ha:DT X a (fun env S=>tst (fa env S)))(hv:DE X a fa):DE X (.UnaryOp .Not a pos) (fun env S=>(fa env S).bind fun x S=>match truD S x with | some r=>.ok (.bl (!r)) S | none=>.bad):=by
 intro pins s σ H ρ S env I nb;dsimp only at nb ⊢;cases q:fa env S with
 | bad=>rw[q] at nb; exact absurd rfl nb
 | ex n S1=>exact UnaryOp_ (hv.ex I q fun x s' z=>⟨n,S1,rfl,z⟩)
 | ok x S1 =>
  rw[q] at nb;simp only[Rk0] at nb ⊢;refine UnaryOp_ (hv.ok I q fun u s1 v H1 ρ1 I1 rv rd st1=>?_)
  cases t:truD S1 x with
  | none=>rw[t] at nb; exact absurd rfl nb
  | some r=>exact not_of (tru_d I1 t rd rv fun s2 J2=>.mk (v:=.bl (!r)) st1 J2 rfl (by simp only[RD]) I1.sr)
theorem dt_not(ha:DT X a (fun env S=>tst (fa env S))):DT X (.UnaryOp .Not a pos) (fun env S=>tst ((fa env S).bind fun x S=>match truD S x with | some r=>.ok (.bl (!r)) S | none=>.bad)):=by
 intro pins s σ H ρ S env I nb;dsimp only at nb ⊢;cases q:fa env S with
 | bad=>rw[q] at nb; exact absurd rfl nb
 | ex n S1=>exact isTrue_not (ha.ex I (by simp only[q]; rfl) fun x s' z=>⟨n,S1,rfl,z⟩)
 | ok x S1 =>
  rw[q] at nb;simp only[Rk0] at nb ⊢;cases t:truD S1 x with
  | none=>rw[t] at nb; exact absurd rfl nb
  | some r=>exact isTrue_not (ha.ok I (by simp only[q]; exact tst_ok t) fun s2 H2 ρ2 I2 st2=>⟨S1,rfl,H2,ρ2,I2.inv,I2.sr,st2⟩)
theorem d_ite(hc:DT X c (fun env S=>tst (fc env S)))(ha:DE X a fa)(hb:DE X b fb) :
  DE X (.IfExp c a b pos) (fun env S=>(fc env S).bind fun x S=>match truD S x with | some true=>fa env S | some false=>fb env S | none=>.bad):=by
 intro pins s σ H ρ S env I nb;dsimp only at nb ⊢;cases q:fc env S with
 | bad=>rw[q] at nb; exact absurd rfl nb
 | ex n S1=>exact wpAny_IfExp (hc.ex I (by simp only[q]; rfl) fun x s' z=>⟨n,S1,rfl,z⟩)
 | ok x S1 =>
  rw[q] at nb;simp only[Rk0] at nb ⊢;cases t:truD S1 x with
  | none=>rw[t] at nb; exact absurd rfl nb
  | some r =>
   rw[t] at nb;refine wpAny_IfExp (hc.ok I (by simp only[q]; exact tst_ok t) fun s2 H2 ρ2 I2 st2=>?_)
   cases r with
   | true=>exact wpAny_mono (ha pins s2 σ H2 ρ2 S1 env I2 nb) (fun w s3 z=>z.pre st2) fun x s' z=>z.pre st2
   | false=>exact wpAny_mono (hb pins s2 σ H2 ρ2 S1 env I2 nb) (fun w s3 z=>z.pre st2) fun x s' z=>z.pre st2
def DW(X:Cx)(e:Expr)(f:En->Sto->R Bool):Prop :=
 ∀ (whole:Sem Value) (pins:List (Addr×Obj)) (s:Shared) (σ:L2.St) (H:Hp) (ρ:List Addr) (S:Sto) (env:En),S0 X pins σ H s ρ S env->f env S≠.bad ->
  wpAny (model X.prog X.w) X.A (isTrue e X.env whole) (fun b s'=>∃ S',f env S=.ok b S'/\∃ H' ρ',Inv X pins σ H' s'/\SR X.K ρ' S' H'/\Stp X.K ρ ρ' H H') (ExP X pins σ ρ H (f env S)) s
theorem DW.dt{g:En->Sto->R Bool}(h:DW X e g):DT X e g:=h _
theorem dw_and1{g:En->Sto->R Bool}(ha:DT X a g):DW X (.BoolOp .And [a] pos) g:=by
 intro wh pins s σ H ρ S env I nb;refine isTrue_and (wpAny_mono (ha pins s σ H ρ S env I nb) (fun c s1 z=>?_) fun _ _ z=>z)
 cases c with
 | true=>exact isTrue_and_nil z
 | false=>exact z
theorem dw_or1{g:En->Sto->R Bool}(ha:DT X a g):DW X (.BoolOp .Or [a] pos) g:=by
 intro wh pins s σ H ρ S env I nb;refine isTrue_or (wpAny_mono (ha pins s σ H ρ S env I nb) (fun c s1 z=>?_) fun _ _ z=>z)
 cases c with
 | false=>exact isTrue_or_nil z
 | true=>exact z
theorem dw_and{rest:List Expr}(ha:DT X a (fun env S=>tst (fa env S)))(hb:DW X (.BoolOp .And (b :: rest) pos) (fun env S=>tst (fb env S))):DW X (.BoolOp .And (a :: b :: rest) pos)
  (fun env S=>tst ((fa env S).bind fun x S=>match truD S x with | some true=>fb env S | some false=>.ok x S | none=>.bad)):=by
 intro wh pins s σ H ρ S env I nb;dsimp only at nb ⊢;cases q:fa env S with
 | bad=>rw[q] at nb; exact absurd rfl nb
 | ex n S1=>exact isTrue_and (ha.ex I (by simp only[q]; rfl) fun x s' z=>⟨n,S1,rfl,z⟩)
 | ok x S1 =>
  rw[q] at nb;simp only[Rk0] at nb ⊢;cases t:truD S1 x with
  | none=>rw[t] at nb; exact absurd rfl nb
  | some r =>
   rw[t] at nb;refine isTrue_and (ha.ok I (by simp only[q]; exact tst_ok t) fun s2 H2 ρ2 I2 st2=>?_)
   cases r with
   | true=>exact wpAny_mono (hb wh pins s2 σ H2 ρ2 S1 env I2 nb) (fun w s3 ⟨S3,e3,H3,ρ3,J3,sr3,st3⟩=>⟨S3,e3,H3,ρ3,J3,sr3,st2.trans st3⟩) fun x s' z=>z.pre st2
   | false=>exact⟨S1,tst_ok t,H2,ρ2,I2.inv,I2.sr,st2⟩
theorem dw_or{rest:List Expr}(ha:DT X a (fun env S=>tst (fa env S)))(hb:DW X (.BoolOp .Or (b :: rest) pos) (fun env S=>tst (fb env S))):DW X (.BoolOp .Or (a :: b :: rest) pos)
  (fun env S=>tst ((fa env S).bind fun x S=>match truD S x with | some true=>.ok x S | some false=>fb env S | none=>.bad)):=by
 intro wh pins s σ H ρ S env I nb;dsimp only at nb ⊢;cases q:fa env S with
 | bad=>rw[q] at nb; exact absurd rfl nb
 | ex n S1=>exact isTrue_or (ha.ex I (by simp only[q]; rfl) fun x s' z=>⟨n,S1,rfl,z⟩)
 | ok x S1 =>
  rw[q] at nb;simp only[Rk0] at nb ⊢;cases t:truD S1 x with
  | none=>rw[t] at nb; exact absurd rfl nb
  | some r =>
   rw[t] at nb;refine isTrue_or (ha.ok I (by simp only[q]; exact tst_ok t) fun s2 H2 ρ2 I2 st2=>?_)
   cases r with
   | false=>exact wpAny_mono (hb wh pins s2 σ H2 ρ2 S1 env I2 nb) (fun w s3 ⟨S3,e3,H3,ρ3,J3,sr3,st3⟩=>⟨S3,e3,H3,ρ3,J3,sr3,st2.trans st3⟩) fun x s' z=>z.pre st2
   | true=>exact⟨S1,tst_ok t,H2,ρ2,I2.inv,I2.sr,st2⟩
end
end Z
end
section
namespace Z
open PySem PySem.Spec PyProof.Rows L2 PySem.SeqAt
open AutoSeq1 (wpAny_loadPart')
theorem nofT:fillsNumberSlot (.type "tuple") "mul" = pure false :=
 PySem.fillsNumberSlot_seq (r:=some (.builtin "tuple.__rmul__")) PySem.F.slot_tuple_mul.lookup (by decide +kernel) (by rw[typeLookup_type,builtinLookup_eq_fast]; kernel_rfl) (by decide +kernel)
theorem repT:seqRepeat? (.type "tuple")=pure (some (.builtin "tuple.__mul__")):=by
 unfold seqRepeat?;rw[PySem.seqSlot_of (T := "tuple") (name := "__mul__") (id := "tuple.__mul__") PySem.F.slot_tuple_mul.lookup (by decide +kernel),PySem.seqSlot_of (T := "tuple") (name := "__rmul__") (id := "tuple.__rmul__") (by rw[typeLookup_type,builtinLookup_eq_fast]; kernel_rfl) (by decide +kernel)]
 rfl
noncomputable abbrev tupO(items:Array Value)(n:Nat)(dd:Option Addr)(sl:Array (Option Value)):Obj:={ cls:=.type "tuple",dict:=dd,data:=.seq items n,slots:=sl }
theorem int_rmulT(a:Int)(t:Tok)(l:Addr)(items:Array Value)(n:Nat)(dd:Option Addr)(sl:Array (Option Value)) :
  Meets (Builtin.«int.__rmul__» ⟨[.int a t,.ref l],[]⟩) (fun _ R s=>s.heap.get? l=some (tupO items n dd sl)/\R (.ok (.ret Value.notImplemented)) s) :=
 .of_wp fun prog w A R s ⟨hl,h⟩=>by
  obtain⟨hp,g,d,tk,os⟩:=s
  wp_walk
  exact⟨_,rfl,h⟩
section
variable(l:Addr)(items:Array Value)(n:Nat)(dd:Option Addr)(sl:Array (Option Value))(k:Int)(u:Tok)
theorem mulT1 :
  Meets (Builtin.«tuple.__mul__» ⟨[.ref l,.int 1 u],[]⟩) (fun _ R s=>s.heap.get? l=some (tupO items n dd sl)/\R (.ok (.ret (.ref l))) s) :=
 .of_wp fun prog w A R s ⟨hl,h⟩=>by
  obtain⟨hp,g,d,tk,os⟩:=s;have f1:=AutoSeq1.idx_int;have f2:=AutoSeq1.sub_tuple_tuple
  wp_walk using wpAny_loadPart' hl
  exact⟨_,rfl,h⟩
theorem mulT0(h0:¬ (decide (k < -2 ^ 63) || decide (k ≥ 2 ^ 63))=true)(h1:¬ (items.isEmpty || k == 1)=true)(h2:(decide (k<=0) || items.isEmpty)=true) :
  Meets (Builtin.«tuple.__mul__» ⟨[.ref l,.int k u],[]⟩) (fun _ R s=>s.heap.get? l=some (tupO items n dd sl)/\R (.ok (.ret (.ref s.heap.objs.size))) { s with heap:=s.heap.push { cls:=.type "tuple",data:=.seq #[] } }) :=
 .of_wp fun prog w A R s ⟨hl,h⟩=>by
  obtain⟨hp,g,d,tk,os⟩:=s;have f1:=AutoSeq1.idx_int;have f2:=AutoSeq1.sub_tuple_tuple
  wp_walk using wpAny_loadPart' hl
  refine wpAny_ite_false (decide_eq_false h0) ?_
  wp_walk using wpAny_loadPart' hl
  exact⟨_,rfl,h⟩
theorem mulT2(h0:¬ (decide (k < -2 ^ 63) || decide (k ≥ 2 ^ 63))=true)(h1:¬ (items.isEmpty || k == 1)=true)(h2:¬ (decide (k<=0) || items.isEmpty)=true)(h3:¬ (items.size:Int) * k > (2 ^ 63 - 1) / 8)
  (h4:¬ Builtin.Tuple.tupleTooMany (items.size * k)=true) (h5:(List.foldl (fun x1 x2=>x1++x2) #[] (List.replicate k.toNat items)).size<=sizeLine) :
  Meets (Builtin.«tuple.__mul__» ⟨[.ref l,.int k u],[]⟩) (fun _ R s=>s.heap.get? l=some (tupO items n dd sl)/\R (.ok (.ret (.ref s.heap.objs.size))) { s with heap:=s.heap.push { cls:=.type "tuple",data:=.seq (List.foldl (fun x1 x2=>x1++x2) #[] (List.replicate k.toNat items)) } }) :=
 .of_wp fun prog w A R s ⟨hl,h⟩=>by
  obtain⟨hp,g,d,tk,os⟩:=s;have f1:=AutoSeq1.idx_int;have f2:=AutoSeq1.sub_tuple_tuple
  wp_walk using wpAny_loadPart' hl
  refine wpAny_ite_false (decide_eq_false h0) ?_
  wp_walk using wpAny_loadPart' hl
  refine wpAny_ite_false (decide_eq_false h3) ?_
  wp_walk using wpAny_loadPart' hl
  exact⟨_,rfl,h⟩
end
section
variable{X:Cx}{E:Value->Shared->Prop}{s:Shared}
theorem foldl_app(its:List Value):∀ (m:Nat) (acc:List Value),List.foldl (fun x1 x2=>x1++x2) acc.toArray (List.replicate m its.toArray)=(acc++(List.replicate m its).flatten).toArray
 | 0,acc=>by simp
 | m + 1,acc=>by
  rw[List.replicate_succ,List.foldl_cons,List.append_toArray,foldl_app its m];simp[List.replicate_succ]
theorem mul_tup{A:Around}{prog:Program}{w:World}{t:Addr}{vs:List Value}{k:Int}{u:Tok}{Q:Value->Shared->Prop}(ht:IsTup s.heap t vs.toArray)(hv:vs≠[])(hk:-(1048576) < k)(hk':k < 1048576)(hz:vs.length * k.toNat<=1000000)
  (h1:k=1->Q (.ref t) s) (h2:k≠1->Q (.ref s.heap.objs.size) { s with heap:=s.heap.push { cls:=.type "tuple",data:=.seq (List.replicate k.toNat vs).flatten.toArray } }) :
  wpAny (model prog w) A (binaryOp .Mult (.ref t) (.int k u)) Q E s:=by
 obtain⟨⟨cls,dd,data,sl⟩,ho,hc,n,hd⟩:=id ht;simp only at hc hd;subst hc hd;have ez:(vs.toArray.isEmpty)=false:=by cases vs with | nil=>exact absurd rfl hv | cons _ _=>rfl
 have h0:¬ (decide (k < -2 ^ 63) || decide (k ≥ 2 ^ 63))=true:=by simp; omega
 have go:∀ {S:PySem.Spec},Meets (Builtin.«tuple.__mul__» ⟨[.ref t,.int k u],[]⟩) S->S A (wants Q E) s->wpAny (model prog w) A (binaryOp .Mult (.ref t) (.int k u)) Q E s:=fun g hS =>
  wpAny_binaryOp_repeat_ref (T := "tuple") (U := "int") (by decide) ⟨_,ho,rfl⟩ (fun s'=>typeIs_int s' k u) nofT PySem.F.fills_int_mul PySem.F.slot_int_rmul repT PySem.F.slot_int_index.lookup
   (call_meets PySem.F.slot_int_rmul (typeIs_int s k u) PySem.F.entry_int_rmul (PySem.F.args_int_rmul_2 _ _) (int_rmulT k u t vs.toArray n dd sl)
    ⟨ho,rfl,⟨_,ho,rfl⟩,call_meets PySem.F.slot_tuple_mul ⟨_,ho,rfl⟩ PySem.F.entry_tuple_mul (PySem.F.args_tuple_mul_2 _ _) g hS⟩)
 by_cases e1:k=1
 ·subst e1
  exact go (mulT1 t vs.toArray n dd sl u) ⟨ho,h1 rfl⟩
 ·have hn1:¬ (vs.toArray.isEmpty || k == 1)=true:=by rw[ez]; simpa using e1
  by_cases e0:k<=0
  ·refine go (mulT0 t vs.toArray n dd sl k u h0 hn1 (by simp[e0])) ⟨ho,?_⟩
   have:=h2 e1;have e2:k.toNat=0:=by omega
   rw[e2] at this;exact this
  ·have ef:=foldl_app vs k.toNat []
   rw[List.nil_append] at ef;have hl:(List.replicate k.toNat vs).flatten.length=k.toNat * vs.length:=len_rep vs k.toNat;have hz':vs.length * k.toNat<=sizeLine:=Nat.le_trans hz (by decide)
   have hzi:(vs.length:Int) * k<=1000000:=by
    have hkk:(k.toNat:Int)=k:=by omega
    rw[<- hkk,<- Int.natCast_mul]; exact Int.ofNat_le.mpr hz
   refine go (mulT2 t vs.toArray n dd sl k u h0 hn1 (by rw[ez]; simpa using e0) ?_ ?_ ?_) ⟨ho,?_⟩
   ·rw[List.size_toArray]; omega
   ·rw[List.size_toArray]
    unfold Builtin.Tuple.tupleTooMany;have:(1000000:Int)<=(sizeLine:Int):=by decide
    intro hh;have hh:=of_decide_eq_true hh;omega
   ·rw[show(#[]:Array Value)=([]:List Value).toArray from rfl,ef,List.size_toArray,hl,Nat.mul_comm]; exact hz'
   ·rw[show(#[]:Array Value)=([]:List Value).toArray from rfl,ef]; exact h2 e1
end
end Z
end
section
namespace Z
open PySem PySem.Spec PyProof.Rows L2
section
variable{X:Cx}{pins:List (Addr×Obj)}{σ:L2.St}{H:Hp}{s:Shared}{ρ:List Addr}{S S':Sto}{env:En}{Q:Value->Shared->Prop}{E:Value->Shared->Prop}
mutual
theorem reads_F(I:S0 X pins σ H s ρ S env){look:Nat->Option PyData}(hl:∀ n p a,look n=some p->ρ[n]?=some a->∃ as,Reads s.heap (.ref a) p as/\∀ b∈as,b∈ρ) :
  ∀ (d:D) (v:V) (u:Value) (p:PyData),datF look d=some p->RD X.K ρ H d v->RelV v u->∃ as,Reads s.heap u p as/\∀ b∈as,b∈ρ
 | .non,v,u,p,h,rd,rv=>by
  simp only[datF,Option.some.injEq] at h; simp only[RD] at rd; subst h rd; cases rv; exact⟨_,.none,fun _ z=>nomatch z⟩
 | .bl b,v,u,p,h,rd,rv=>by
  simp only[datF,Option.some.injEq] at h; simp only[RD] at rd; subst h rd; cases rv; exact⟨_,.bool b,fun _ z=>nomatch z⟩
 | .int i,v,u,p,h,rd,rv=>by
  simp only[datF,Option.some.injEq] at h; simp only[RD] at rd; subst h rd; obtain⟨t,rfl⟩:=rv; exact⟨_,.int i t,fun _ z=>nomatch z⟩
 | .str i,v,u,p,h,rd,rv=>by
  simp only[datF,Option.some.injEq] at h; simp only[RD] at rd; subst h rd; obtain⟨t,rfl⟩:=rv; exact⟨_,.str i t,fun _ z=>nomatch z⟩
 | .fro _,v,u,p,h,rd,rv=>by simp only[datF] at h; cases h
 | .tup xs,v,u,p,h,rd,rv=>by
  simp only[datF] at h;cases e:datFs look xs with
  | none=>rw[e] at h; cases h
  | some ps =>
   rw[e] at h; cases h;simp only[RD] at rd;obtain⟨a,vs,rfl,ht,hs⟩:=rd;cases rv;obtain⟨its,r,⟨o,ho,hc,n,hd⟩,hz⟩:=I.inv.tuple ht;obtain⟨as,q,qm⟩:=reads_Fs I hl xs vs its ps e hs r;exact⟨_,.tuple ho hc hd (by simpa using q),qm⟩
 | .ref n,v,u,p,h,rd,rv=>by
  simp only[datF] at h;simp only[RD] at rd;obtain⟨a,rfl,ha⟩:=rd;cases rv;exact hl n p a h ha
theorem reads_Fs(I:S0 X pins σ H s ρ S env){look:Nat->Option PyData}(hl:∀ n p a,look n=some p->ρ[n]?=some a->∃ as,Reads s.heap (.ref a) p as/\∀ b∈as,b∈ρ) :
  ∀ (ds:List D) (vs:List V) (us:List Value) (ps:List PyData),datFs look ds=some ps->RDs X.K ρ H ds vs->Vals vs us->∃ as,ReadsAll s.heap us ps as/\∀ b∈as,b∈ρ
 | [],vs,us,ps,h,rd,rv=>by
  simp only[datFs,Option.some.injEq] at h; simp only[RDs] at rd; subst h rd; cases rv; exact⟨_,.nil,fun _ z=>nomatch z⟩
 | d :: ds,vs,us,ps,h,rd,rv=>by
  simp only[datFs] at h;simp only[RDs] at rd;obtain⟨v,r,rfl,h1,h2⟩:=rd;cases e1:datF look d with
  | none=>rw[e1] at h; cases h
  | some p =>
   cases e2:datFs look ds with
   | none=>rw[e1,e2] at h; cases h
   | some ps' =>
    rw[e1,e2] at h; cases h;cases rv with
    | cons ru rus =>
     obtain⟨as,q,qm⟩:=reads_F I hl d v _ p e1 h1 ru;obtain⟨bs,q2,qm2⟩:=reads_Fs I hl ds r _ ps' e2 h2 rus;exact⟨_,.cons q q2,fun b hb=>(List.mem_append.mp hb).elim (qm b) (qm2 b)⟩
end
theorem reads_K(I:S0 X pins σ H s ρ S env):∀ (k n:Nat) (p:PyData) (a:Addr),lookK S k n=some p->ρ[n]?=some a->∃ as,Reads s.heap (.ref a) p as/\∀ b∈as,b∈ρ
 | 0,n,p,a,h,ha=>by simp only[lookK] at h; cases h
 | k + 1,n,p,a,h,ha=>by
  simp only[lookK] at h;cases e:S[n]? with
  | none=>rw[e] at h; cases h
  | some o =>
   rw[e] at h;have q:=I.sr.ob n a o ha e;cases o with
   | lst xs =>
    dsimp only at h;cases e2:datFs (lookK S k) xs with
    | none=>rw[e2] at h; cases h
    | some ps =>
     rw[e2] at h; cases h;obtain⟨vs,hv,hr⟩:=q;obtain⟨_,its,n',r,ho⟩:=I.inv.hok a _ hv;obtain⟨as,z,zm⟩:=reads_Fs I (reads_K I k) xs vs its ps e2 hr r;exact⟨_,.list ho rfl rfl (by simpa using z),fun b hb=>(List.mem_cons.mp hb).elim (fun q=>q ▸ List.mem_of_getElem? ha) (zm b)⟩
   | dct kvs =>
    obtain⟨rfl,hv⟩:=q;cases h;obtain⟨_,_,vs,r,ob,es,ep,ho,hx,hd,hh⟩:=I.inv.hok a _ hv;cases r;have hes:es.toList=[]:=by
     have z:=hh.2.1;cases q:es.toList with
     | nil=>rfl
     | cons x r=>rw[q] at z; cases z
    refine⟨_,.dict (kvs:=[]) (as:=[]) (bs:=[]) ho hx.1 hd ?_ ?_,fun b hb=>(List.mem_cons.mp hb).elim (fun q=>q ▸ List.mem_of_getElem? ha) (fun z=>nomatch z)⟩
    ·rw[hes]; exact .nil
    ·rw[hes]; exact .nil
   | set _=>cases h
   | exc _=>cases h
theorem reads_at(I:S0 X pins σ H s ρ S env){d:D}{v:V}{u:Value}{p:PyData}(h:datD S d=some p)(rd:RD X.K ρ H d v)(rv:RelV v u):∃ as,Reads s.heap u p as/\∀ b∈as,b∈ρ :=
 reads_F I (reads_K I 4) d v u p h rd rv
theorem reads_d(I:S0 X pins σ H s ρ S env){d:D}{v:V}{u:Value}{p:PyData}(h:datD S d=some p)(rd:RD X.K ρ H d v)(rv:RelV v u):∃ as,Reads s.heap u p as :=
 let ⟨as,r,_⟩:=reads_at I h rd rv
 ⟨as,r⟩
theorem reads_off(I:S0 X pins σ H s ρ S env)(hsm:∃ o,X.K.lookup sysModules=some o){d:D}{v:V}{u:Value}{p:PyData}(h:datD S d=some p)(rd:RD X.K ρ H d v)(rv:RelV v u):∃ as,Reads s.heap u p as/\sysModules ∉ as:=by
 obtain⟨as,r,hm⟩:=reads_at I h rd rv;refine⟨as,r,fun hb=>?_⟩
 obtain⟨o,ho⟩:=hsm;obtain⟨w,hw,_⟩:=I.sr.mem (hm _ hb);have:=(I.inv.bs _ _ (I.inv.mod.kin _ _ ho)).2;rw[hw] at this;cases this
theorem fin_b'{r:Bool}{s':Shared}(sr:SR X.K ρ S H)(J:Inv X pins σ H s'):OkP X pins σ ρ H (.ok (.bl r) S) (.bool r) s':=.mk (v:=.bl r) .refl J rfl (by simp only[RD]) sr
theorem fin_i{i:Int}{t:Tok}{s':Shared}(sr:SR X.K ρ S H)(J:Inv X pins σ H s'):OkP X pins σ ρ H (.ok (.int i) S) (.int i t) s':=.mk (v:=.int i) .refl J ⟨t,rfl⟩ (by simp only[RD]) sr
theorem fin_s{x:Str}{t:Tok}{s':Shared}(sr:SR X.K ρ S H)(J:Inv X pins σ H s'):OkP X pins σ ρ H (.ok (.str x) S) (.str x t) s':=.mk (v:=.str x) .refl J ⟨t,rfl⟩ (by simp only[RD]) sr
theorem and3{a b c:Bool}(h:(a && b && c)=true):a=true/\b=true/\c=true:=by
 rw[bA0,bA0] at h;exact⟨h.1.1,h.1.2,h.2⟩
theorem twoS_some{x y:D}{r:Bool}(h:twoS x y=some r):∃ a b,x=.str a/\y=.str b/\r=(a.cps.toList == b.cps.toList):=by
 cases x with
 | str a=>cases y with
  | str b=>exact⟨a,b,rfl,rfl,(Option.some.inj h).symm⟩
  | _=>cases h
 | _=>cases h
theorem lenS_some{x y:D}{r:Bool}(h:lenS S x y=some r):∃ a b xs ys,x=.ref a/\y=.ref b/\lstAt S a=some xs/\lstAt S b=some ys/\xs.length≠ys.length/\r=false:=by
 cases x with
 | ref a=>cases y with
  | ref b =>
   simp only[lenS] at h;cases e1:lstAt S a with
   | none=>rw[e1] at h; cases h
   | some xs =>
    cases e2:lstAt S b with
    | none=>rw[e1,e2] at h; cases h
    | some ys =>
     rw[e1,e2] at h;dsimp only at h;split at h
     ·cases h
     ·cases h; exact⟨a,b,xs,ys,rfl,rfl,e1,e2,by assumption,rfl⟩
  | _=>cases h
 | _=>cases h
theorem eqD_some{x y:D}{r:Bool}(h0:eqD S x y=some r)(hn:twoS x y=none):(∃ p q,datD S x=some p/\datD S y=some q/\p.canLay0=true/\q.canLay0=true/\p.depth<=60/\r=PyData.eqv p q)\/lenS S x y=some r:=by
 have h:=h0;unfold eqD at h;rw[hn] at h;dsimp only at h;cases e1:datD S x with
 | none=>rw[e1] at h; exact .inr h
 | some p =>
  cases e2:datD S y with
  | none=>rw[e1,e2] at h; exact .inr h
  | some q =>
   rw[e1,e2] at h;dsimp only at h;split at h
   ·rename_i hc
    obtain⟨h1,h2,h3⟩:=and3 hc;exact .inl ⟨p,q,rfl,rfl,h1,h2,of_decide_eq_true h3,(Option.some.inj h).symm⟩
   ·exact .inr h
theorem S0.lstM(I:S0 X pins σ H s ρ S env){n:Nat}{xs:List D}(h:lstM S n=some xs):∃ a vs,ρ[n]?=some a/\H a=some (.lst vs)/\RDs X.K ρ H xs vs:=I.list h
theorem S0.lstR(I:S0 X pins σ H s ρ S env){n:Nat}{xs:List D}{v:V}(h:Z.lstM S n=some xs)(r:RD X.K ρ H (.ref n) v):∃ a vs,v=.ref a/\ρ[n]?=some a/\H a=some (.lst vs)/\RDs X.K ρ H xs vs:=by
 simp only[RD] at r;obtain⟨a,e,h1⟩:=r;obtain⟨a',vs,h2,h3,h4⟩:=I.lstM h;rw[h1] at h2; cases h2;exact⟨a,vs,e,h1,h3,h4⟩
theorem two_lens(I:S0 X pins σ H s ρ S env){x y:D}{v v':V}{u u':Value}{r:Bool}(h:lenS S x y=some r)(rx:RD X.K ρ H x v)(rv:RelV v u)(ry:RD X.K ρ H y v')(ru:RelV v' u') :
  r=false/\∃ a b its its',u=.ref a/\u'=.ref b/\s.heap.IsList a its/\s.heap.IsList b its'/\(its.size != its'.size)=true:=by
 obtain⟨n,m,xs,ys,rfl,rfl,h1,h2,hne,rfl⟩:=lenS_some h;obtain⟨a,vs,rfl,ha,hva,ra⟩:=I.lstR h1 rx;obtain⟨b,us,rfl,hb,hvb,rb⟩:=I.lstR h2 ry;cases rv; cases ru;obtain⟨_,i1,n1,q1,o1⟩:=I.inv.hok a _ hva;obtain⟨_,i2,n2,q2,o2⟩:=I.inv.hok b _ hvb;refine⟨rfl,a,b,i1.toArray,i2.toArray,rfl,rfl,⟨_,o1,rfl,_,rfl⟩,⟨_,o2,rfl,_,rfl⟩,?_⟩;have e1:i1.length=xs.length:=by rw[ra.length]; exact q1.length.symm
 have e2:i2.length=ys.length:=by rw[rb.length]; exact q2.length.symm
 simp only[List.size_toArray,bne_iff_ne,ne_eq];omega
theorem o_eq(hu:X.A.units + 200 < cLine):Op2 X (compareOp .Eq) (cmpR .eq):=by
 intro pins s σ H ρ S env x y v u v' u' E I nb rx rv ry ru;obtain⟨r,e,e2⟩:=cmpR_bl nb;rw[e2];cases hn:twoS x y with
 | some r' =>
  obtain⟨a,b,rfl,rfl,hr⟩:=twoS_some hn;have er:r=r':=by
   have e':eqD S (.str a) (.str b)=some r:=e;unfold eqD at e';rw[hn] at e';exact(Option.some.inj e').symm
  subst er hr;simp only[RD] at rx ry; subst rx ry;obtain⟨t,rfl⟩:=rv; obtain⟨t',rfl⟩:=ru;exact PySem.P.eq_str (fin_b' I.sr I.inv)
 | none =>
 rcases eqD_some e hn with⟨p,q,h1,h2,h3,h4,h5,rfl⟩ | hl
 rotate_left
 ·obtain⟨rfl,a,b,i1,i2,rfl,rfl,l1,l2,l3⟩:=two_lens I hl rx rv ry ru
  exact SeqAt.RcAt.lists_lengths l1 l2 l3 (by omega) X.prog X.w E _ (fin_b' I.sr I.inv)
 obtain⟨as,ra⟩:=reads_d I h1 rx rv;obtain⟨bs,rb⟩:=reads_d I h2 ry ru;exact SeqAt.rcAt_reads ra rb h3 h4 (by omega) X.prog X.w E _ (fin_b' I.sr I.inv)
theorem o_ne(hu:X.A.units + 200 < cLine):Op2 X (compareOp .NotEq) (cmpR .ne):=by
 intro pins s σ H ρ S env x y v u v' u' E I nb rx rv ry ru;obtain⟨r,e,e2⟩:=cmpR_bl nb;rw[e2];simp only[cmpD,Option.map_eq_some_iff] at e;obtain⟨r',e,rfl⟩:=e;cases hn:twoS x y with
 | some r2 =>
  obtain⟨a,b,rfl,rfl,hr⟩:=twoS_some hn;have er:r'=r2:=by
   have e':eqD S (.str a) (.str b)=some r':=e;unfold eqD at e';rw[hn] at e';exact(Option.some.inj e').symm
  subst er hr;simp only[RD] at rx ry; subst rx ry;obtain⟨t,rfl⟩:=rv; obtain⟨t',rfl⟩:=ru;exact PySem.P.ne_str (fin_b' I.sr I.inv)
 | none =>
 rcases eqD_some e hn with⟨p,q,h1,h2,h3,h4,h5,rfl⟩ | hl
 rotate_left
 ·obtain⟨rfl,a,b,i1,i2,rfl,rfl,l1,l2,l3⟩:=two_lens I hl rx rv ry ru
  exact SeqAt.RcNeAt.lists_lengths l1 l2 l3 (by omega) X.prog X.w E _ (fin_b' I.sr I.inv)
 obtain⟨as,ra⟩:=reads_d I h1 rx rv;obtain⟨bs,rb⟩:=reads_d I h2 ry ru;exact SeqAt.rcNeAt_reads ra rb h3 h4 (by omega) X.prog X.w E _ (fin_b' I.sr I.inv)
theorem inD_some{x y:D}{r:Bool}(h:inD S x y=some r):∃ p qs,datD S x=some p/\(datD S y=some (.list qs)\/datD S y=some (.tuple qs))/\p.canLay0=true/\PyData.canLayAll0 qs=true/\p.depth<=60/\r=qs.any fun q=>PyData.eqv q p:=by
 unfold inD at h;cases e1:datD S x with
 | none=>rw[e1] at h; cases h
 | some p =>
  cases e2:datD S y with
  | none=>rw[e1,e2] at h; cases h
  | some q =>
   rw[e1,e2] at h;cases q with
   | list qs =>
    dsimp only at h;split at h
    ·rename_i hc
     obtain⟨h1,h2,h3⟩:=and3 hc;exact⟨p,qs,rfl,.inl rfl,h1,h2,of_decide_eq_true h3,(Option.some.inj h).symm⟩
    ·cases h
   | tuple qs =>
    dsimp only at h;split at h
    ·rename_i hc
     obtain⟨h1,h2,h3⟩:=and3 hc;exact⟨p,qs,rfl,.inr rfl,h1,h2,of_decide_eq_true h3,(Option.some.inj h).symm⟩
    ·cases h
   | none=>cases h
   | bool _=>cases h
   | int _=>cases h
   | str _=>cases h
   | dict _=>cases h
theorem o_in(hu:X.A.units + 200 < cLine):Op2 X (compareOp .In) (cmpR .isin):=by
 intro pins s σ H ρ S env x y v u v' u' E I nb rx rv ry ru;obtain⟨r,e,e2⟩:=cmpR_bl nb;rw[e2];obtain⟨p,qs,h1,h2,h3,h4,h5,rfl⟩:=inD_some e;obtain⟨as,ra⟩:=reads_d I h1 rx rv;rcases h2 with h2 | h2
 ·obtain⟨bs,rb⟩:=reads_d I h2 ry ru
  exact SeqAt.in_list_reads rb ra h4 h3 (by omega) (fin_b' I.sr I.inv)
 ·obtain⟨bs,rb⟩:=reads_d I h2 ry ru
  exact SeqAt.in_tuple_reads rb ra h4 h3 (by omega) (fin_b' I.sr I.inv)
theorem o_notin(hu:X.A.units + 200 < cLine):Op2 X (compareOp .NotIn) (cmpR .notin):=by
 intro pins s σ H ρ S env x y v u v' u' E I nb rx rv ry ru;obtain⟨r,e,e2⟩:=cmpR_bl nb;rw[e2];simp only[cmpD,Option.map_eq_some_iff] at e;obtain⟨r',e,rfl⟩:=e;obtain⟨p,qs,h1,h2,h3,h4,h5,rfl⟩:=inD_some e;obtain⟨as,ra⟩:=reads_d I h1 rx rv;rcases h2 with h2 | h2
 ·obtain⟨bs,rb⟩:=reads_d I h2 ry ru
  exact SeqAt.notIn_list_reads rb ra h4 h3 (by omega) (fin_b' I.sr I.inv)
 ·obtain⟨bs,rb⟩:=reads_d I h2 ry ru
  exact SeqAt.notIn_tuple_reads rb ra h4 h3 (by omega) (fin_b' I.sr I.inv)
theorem o_le:Op2 X (compareOp .LtE) (cmpR .le):=by
 intro pins s σ H ρ S env x y v u v' u' E I nb rx rv ry ru;cases x with
 | int i=>cases y with
  | int j =>
   simp only[RD] at rx ry; subst rx ry;obtain⟨t,rfl⟩:=rv; obtain⟨t',rfl⟩:=ru;exact le_int (fin_b' I.sr I.inv)
  | _=>exact absurd rfl nb
 | _=>cases y <;> exact absurd rfl nb
theorem o_gt:Op2 X (compareOp .Gt) (cmpR .gt):=by
 intro pins s σ H ρ S env x y v u v' u' E I nb rx rv ry ru;cases x with
 | int i=>cases y with
  | int j =>
   simp only[RD] at rx ry; subst rx ry;obtain⟨t,rfl⟩:=rv; obtain⟨t',rfl⟩:=ru;exact gt_int (fin_b' I.sr I.inv)
  | _=>exact absurd rfl nb
 | _=>cases y <;> exact absurd rfl nb
theorem o_ge:Op2 X (compareOp .GtE) (cmpR .ge):=by
 intro pins s σ H ρ S env x y v u v' u' E I nb rx rv ry ru;cases x with
 | int i=>cases y with
  | int j =>
   simp only[RD] at rx ry; subst rx ry;obtain⟨t,rfl⟩:=rv; obtain⟨t',rfl⟩:=ru;exact ge_int (fin_b' I.sr I.inv)
  | _=>exact absurd rfl nb
 | _=>cases y <;> exact absurd rfl nb
theorem allInts_some:∀ {xs:List D} {ns:List Int},allInts xs=some ns->xs=ns.map D.int
 | [],ns,h=>by simp only[allInts,Option.some.injEq] at h; subst h; rfl
 | .int i :: r,ns,h=>by
  simp only[allInts,Option.map_eq_some_iff] at h;obtain⟨ms,h1,rfl⟩:=h;rw[allInts_some h1]; rfl
 | .non :: _,_,h=>by simp[allInts] at h
 | .bl _ :: _,_,h=>by simp[allInts] at h
 | .str _ :: _,_,h=>by simp[allInts] at h
 | .tup _ :: _,_,h=>by simp[allInts] at h
 | .ref _ :: _,_,h=>by simp[allInts] at h
 | .fro _ :: _,_,h=>by simp[allInts] at h
theorem o_lt(hu:X.A.units + 200 < cLine):Op2 X (compareOp .Lt) (cmpR .lt):=by
 intro pins s σ H ρ S env x y v u v' u' E I nb rx rv ry ru;cases x with
 | int i=>cases y with
  | int j =>
   simp only[RD] at rx ry; subst rx ry;obtain⟨t,rfl⟩:=rv; obtain⟨t',rfl⟩:=ru;exact lt_int (fin_b' I.sr I.inv)
  | _=>exact absurd rfl nb
 | tup xs=>cases y with
  | tup ys =>
   obtain⟨r,e,e2⟩:=cmpR_bl nb;rw[e2];simp only[cmpD,ltD] at e;cases h1:allInts xs with
   | none=>rw[h1] at e; cases e
   | some ns =>
    cases h2:allInts ys with
    | none=>rw[h1,h2] at e; cases e
    | some ms =>
     rw[h1,h2] at e; cases e;have q1:=allInts_some h1;have q2:=allInts_some h2;subst q1 q2;simp only[RD] at rx ry;obtain⟨a,vs,rfl,s1,r1⟩:=rx;obtain⟨b,us,rfl,s2,r2⟩:=ry;have e1:=r1.ints_of;have e3:=r2.ints_of;subst e1 e3;exact opd (Q':=fun z H'=>z=.bl (HT.lexLt ns ms)/\H'=H) (op_ltT (by show X.A.units < cLine; omega)) I.inv rv ru ⟨a,b,ns,ms,rfl,rfl,s1,s2,rfl,rfl⟩ fun w s' z H' J rz ⟨z1,z2⟩=>by
      subst z1 z2; cases rz; exact fin_b' I.sr J
  | _=>exact absurd rfl nb
 | _=>cases y <;> exact absurd rfl nb
theorem o_is:Op2 X (compareOp .Is) (cmpR .is):=by
 intro pins s σ H ρ S env x y v u v' u' E I nb rx rv ry ru;cases y with
 | non =>
  simp only[RD] at ry; subst ry; cases ru;cases x with
  | non=>simp only[RD] at rx; subst rx; cases rv; exact wpAny_is_plain rfl (fin_b' I.sr I.inv)
  | bl b=>simp only[RD] at rx; subst rx; cases rv; exact wpAny_is_plain rfl (fin_b' I.sr I.inv)
  | int b=>simp only[RD] at rx; subst rx; obtain⟨t,rfl⟩:=rv; exact wpAny_is_plain rfl (fin_b' I.sr I.inv)
  | str b=>simp only[RD] at rx; subst rx; obtain⟨t,rfl⟩:=rv; exact wpAny_is_plain rfl (fin_b' I.sr I.inv)
  | tup b=>simp only[RD] at rx; obtain⟨a,_,rfl,_⟩:=rx; cases rv; exact wpAny_is_plain rfl (fin_b' I.sr I.inv)
  | fro b=>simp only[RD] at rx; obtain⟨a,_,rfl,_⟩:=rx; cases rv; exact wpAny_is_plain rfl (fin_b' I.sr I.inv)
  | ref b=>simp only[RD] at rx; obtain⟨a,rfl,_⟩:=rx; cases rv; exact wpAny_is_plain rfl (fin_b' I.sr I.inv)
  | fn _ _=>simp only[RD] at rx; obtain⟨a,rfl,_⟩:=rx; cases rv; exact wpAny_is_plain rfl (fin_b' I.sr I.inv)
 | bl c =>
  simp only[RD] at ry; subst ry; cases ru;cases x with
  | non=>simp only[RD] at rx; subst rx; cases rv; exact wpAny_is_plain rfl (fin_b' I.sr I.inv)
  | bl b =>
   simp only[RD] at rx; subst rx; cases rv;refine is_bool ?_;have e:(b == c)=(c == b):=by cases b <;> cases c <;> rfl
   rw[e];exact fin_b' I.sr I.inv
  | int b=>simp only[RD] at rx; subst rx; obtain⟨t,rfl⟩:=rv; exact wpAny_is_plain rfl (fin_b' I.sr I.inv)
  | str b=>simp only[RD] at rx; subst rx; obtain⟨t,rfl⟩:=rv; exact wpAny_is_plain rfl (fin_b' I.sr I.inv)
  | tup b=>simp only[RD] at rx; obtain⟨a,_,rfl,_⟩:=rx; cases rv; exact wpAny_is_plain rfl (fin_b' I.sr I.inv)
  | fro b=>simp only[RD] at rx; obtain⟨a,_,rfl,_⟩:=rx; cases rv; exact wpAny_is_plain rfl (fin_b' I.sr I.inv)
  | ref b=>simp only[RD] at rx; obtain⟨a,rfl,_⟩:=rx; cases rv; exact wpAny_is_plain rfl (fin_b' I.sr I.inv)
  | fn _ _=>simp only[RD] at rx; obtain⟨a,rfl,_⟩:=rx; cases rv; exact wpAny_is_plain rfl (fin_b' I.sr I.inv)
 | _=>cases x <;> exact absurd rfl nb
theorem o_isnot:Op2 X (compareOp .IsNot) (cmpR .isnot):=by
 intro pins s σ H ρ S env x y v u v' u' E I nb rx rv ry ru;cases y with
 | non =>
  simp only[RD] at ry; subst ry; cases ru;cases x with
  | non=>simp only[RD] at rx; subst rx; cases rv; exact wpAny_isNot_plain rfl (fin_b' I.sr I.inv)
  | bl b=>simp only[RD] at rx; subst rx; cases rv; exact wpAny_isNot_plain rfl (fin_b' I.sr I.inv)
  | int b=>simp only[RD] at rx; subst rx; obtain⟨t,rfl⟩:=rv; exact wpAny_isNot_plain rfl (fin_b' I.sr I.inv)
  | str b=>simp only[RD] at rx; subst rx; obtain⟨t,rfl⟩:=rv; exact wpAny_isNot_plain rfl (fin_b' I.sr I.inv)
  | tup b=>simp only[RD] at rx; obtain⟨a,_,rfl,_⟩:=rx; cases rv; exact wpAny_isNot_plain rfl (fin_b' I.sr I.inv)
  | fro b=>simp only[RD] at rx; obtain⟨a,_,rfl,_⟩:=rx; cases rv; exact wpAny_isNot_plain rfl (fin_b' I.sr I.inv)
  | ref b=>simp only[RD] at rx; obtain⟨a,rfl,_⟩:=rx; cases rv; exact wpAny_isNot_plain rfl (fin_b' I.sr I.inv)
  | fn _ _=>simp only[RD] at rx; obtain⟨a,rfl,_⟩:=rx; cases rv; exact wpAny_isNot_plain rfl (fin_b' I.sr I.inv)
 | bl c =>
  simp only[RD] at ry; subst ry; cases ru;cases x with
  | non=>simp only[RD] at rx; subst rx; cases rv; exact wpAny_isNot_plain rfl (fin_b' I.sr I.inv)
  | bl b =>
   simp only[RD] at rx; subst rx; cases rv;refine isnot_bool ?_;have e:(b != c)=(c != b):=by cases b <;> cases c <;> rfl
   rw[e];exact fin_b' I.sr I.inv
  | int b=>simp only[RD] at rx; subst rx; obtain⟨t,rfl⟩:=rv; exact wpAny_isNot_plain rfl (fin_b' I.sr I.inv)
  | str b=>simp only[RD] at rx; subst rx; obtain⟨t,rfl⟩:=rv; exact wpAny_isNot_plain rfl (fin_b' I.sr I.inv)
  | tup b=>simp only[RD] at rx; obtain⟨a,_,rfl,_⟩:=rx; cases rv; exact wpAny_isNot_plain rfl (fin_b' I.sr I.inv)
  | fro b=>simp only[RD] at rx; obtain⟨a,_,rfl,_⟩:=rx; cases rv; exact wpAny_isNot_plain rfl (fin_b' I.sr I.inv)
  | ref b=>simp only[RD] at rx; obtain⟨a,rfl,_⟩:=rx; cases rv; exact wpAny_isNot_plain rfl (fin_b' I.sr I.inv)
  | fn _ _=>simp only[RD] at rx; obtain⟨a,rfl,_⟩:=rx; cases rv; exact wpAny_isNot_plain rfl (fin_b' I.sr I.inv)
 | _=>cases x <;> exact absurd rfl nb
theorem o_cmp(hu:X.A.units + 200 < cLine):∀ op:Co,Op2 X (compareOp (opC op)) (cmpR op)
 | .eq=>o_eq hu | .ne=>o_ne hu | .lt=>o_lt hu | .le=>o_le | .gt=>o_gt | .ge=>o_ge | .isin=>o_in hu | .notin=>o_notin hu | .is=>o_is | .isnot=>o_isnot
theorem cat_tup0{prog:Program}{w:World}{A:Around}{t b:Addr}{ws:List Value}(ht:IsTup s.heap t #[])(hb:IsTup s.heap b ws.toArray)(h:Q (.ref b) s):wpAny (model prog w) A (binaryOp .Add (.ref t) (.ref b)) Q E s:=by
 obtain⟨⟨cls,dd,data,sl⟩,ho,hc,n,hd⟩:=id ht;obtain⟨⟨cls2,dd2,data2,sl2⟩,ho2,hc2,n2,hd2⟩:=id hb;simp only at hc hd hc2 hd2;subst hc hd hc2 hd2;exact concat_meets ⟨_,ho,rfl⟩ ⟨_,ho2,rfl⟩ noFill_tuple_add seq_tuple_add PySem.F.slot_tuple_add PySem.F.entry_tuple_add (PySem.F.args_tuple_add_2 _ _)
   (tuple_addW0 t b #[] ws.toArray n n2 dd dd2 sl sl2 rfl) ⟨ho,ho2,h⟩
theorem o_add:Op2 X (binaryOp .Add) (binD .add):=by
 intro pins s σ H ρ S env x y v u v' u' E I nb rx rv ry ru;cases x with
 | int i=>cases y with
  | int j =>
   simp only[RD] at rx ry; subst rx ry;obtain⟨t,rfl⟩:=rv; obtain⟨t',rfl⟩:=ru;exact add_int (fin_i I.sr (I.inv.tok _))
  | _=>exact absurd rfl nb
 | str i=>cases y with
  | str j =>
   simp only[RD] at rx ry; subst rx ry;simp only[binD] at nb ⊢;split at nb
   ·rename_i hz
    rw[if_pos hz];exact opd (Q':=fun z H'=>z=.str (i++j)/\H'=H) op_add_str I.inv rv ru ⟨i,j,rfl,rfl,le_line hz,rfl,rfl⟩ fun w s' z H' J rz ⟨z1,z2⟩=>by
     subst z1 z2; obtain⟨t,rfl⟩:=rz; exact fin_s I.sr J
   ·exact absurd rfl nb
  | _=>exact absurd rfl nb
 | tup xs=>cases y with
  | tup ys =>
   simp only[binD] at nb ⊢;split at nb
   ·rename_i hz
    rw[if_pos hz];have rx':=rx;have ry':=ry;simp only[RD] at rx ry;obtain⟨a,vs,rfl,s1,r1⟩:=rx;obtain⟨b,us,rfl,s2,r2⟩:=ry;cases rv; cases ru;obtain⟨i1,q1,p1,z1⟩:=I.inv.tuple s1;obtain⟨i2,q2,p2,z2⟩:=I.inv.tuple s2;have hl1:=r1.length;have hl2:=r2.length;have hk1:=q1.length;have hk2:=q2.length
    by_cases hx:xs=[]
    ·subst hx
     have:vs=[]:=by simpa [RDs] using r1
     subst this;cases q1;refine cat_tup0 p1 p2 ?_;exact .mk (v:=.ref b) .refl I.inv rfl ry' I.sr
    ·refine HT.cat_tup p1 p2 (fun z=>hx ?_) (fun z=>?_) (fun z=>?_) ?_
     ·subst z; simp at hk1; rw[hk1] at hl1; simpa using hl1
     ·have:ys=[]:=by subst z; simp at hk2; rw[hk2] at hl2; simpa using hl2
      subst this;rw[List.append_nil];exact .mk (v:=.ref a) .refl I.inv rfl rx' I.sr
     ·refine fin_tup (I.inv.laid (t':=s.toks) (o:=.tup (vs++us)) (fun b ob q=>Heap.get?_push_of_some _ q) (Nat.le_refl _) ?_) (I.inv.hok.fresh (Nat.le_refl _)) I.sr (r1.append r2)
      exact⟨by rw[List.length_append,<- hl1,<- hl2]; exact le_line hz,_,q1.append q2,IsTup.new _ _⟩
     ·rw[<- hk1,<- hk2,<- hl1,<- hl2]; exact le_line hz
   ·exact absurd rfl nb
  | _=>exact absurd rfl nb
 | ref n=>cases y with
  | ref m =>
   simp only[binD] at nb ⊢;cases h1:Z.lstM S n with
   | none=>rw[h1] at nb; exact absurd rfl nb
   | some xs =>
    cases h2:Z.lstM S m with
    | none=>rw[h1,h2] at nb; exact absurd rfl nb
    | some ys =>
     rw[h1,h2] at nb;dsimp only at nb ⊢;split at nb
     ·rename_i hz
      rw[if_pos hz];obtain⟨a,vs,rfl,ha,hva,ra⟩:=I.lstR h1 rx;obtain⟨b,us,rfl,hb,hvb,rb⟩:=I.lstR h2 ry;exact opd (Q':=fun z H'=>∃ p,H p=none/\z=.ref p/\H'=upd H p (.lst (vs++us))) op_cat I.inv rv ru ⟨a,b,vs,us,rfl,rfl,hva,hvb,by rw[<- ra.length,<- rb.length]; exact le_line hz,fun p hp=>⟨p,hp,rfl,rfl⟩⟩
       fun w s' z H' J rz ⟨p,hp,z1,z2⟩=>by subst z1 z2; cases rz; exact fin_lst J hp I.sr (ra.append rb)
     ·exact absurd rfl nb
  | _=>exact absurd rfl nb
 | _=>cases y <;> exact absurd rfl nb
theorem o_sub:Op2 X (binaryOp .Sub) (binD .sub):=by
 intro pins s σ H ρ S env x y v u v' u' E I nb rx rv ry ru;cases x with
 | int i=>cases y with
  | int j =>
   simp only[RD] at rx ry; subst rx ry;obtain⟨t,rfl⟩:=rv; obtain⟨t',rfl⟩:=ru;exact sub_int (fin_i I.sr (I.inv.tok _))
  | _=>exact absurd rfl nb
 | _=>cases y <;> exact absurd rfl nb
theorem bits_le{i:Int}(h:i.natAbs.log2 < 100000):Builtin.Int.intBits i<=2 ^ 20:=by
 unfold Builtin.Int.intBits;split
 ·exact Nat.zero_le _
 ·omega
theorem mulOk_ok{i j:Int}(h:mulOk i j=true):IntMulOk i j:=by
 simp only[mulOk,Bool.or_eq_true,bA0,decide_eq_true_eq] at h;rcases h with h | h
 ·have:CMul i j:=h
  exact this.ok
 ·exact IntMulOk.of_bits (bits_le h.1) (bits_le h.2)
theorem o_mul:Op2 X (binaryOp .Mult) (binD .mul):=by
 intro pins s σ H ρ S env x y v u v' u' E I nb rx rv ry ru;cases x with
 | int i=>cases y with
  | int j =>
   simp only[RD] at rx ry; subst rx ry;obtain⟨t,rfl⟩:=rv; obtain⟨t',rfl⟩:=ru;simp only[binD] at nb ⊢;split at nb
   ·rename_i hz
    rw[if_pos hz];exact mul_int (fin_i I.sr (I.inv.tok _)) (mulOk_ok hz)
   ·exact absurd rfl nb
  | _=>exact absurd rfl nb
 | tup xs=>cases y with
  | int k =>
   simp only[binD] at nb ⊢;split at nb
   ·rename_i hz
    rw[if_pos hz];have rx':=rx;simp only[RD] at rx ry;subst ry;obtain⟨a,vs,rfl,s1,r1⟩:=rx;cases rv; obtain⟨t',rfl⟩:=ru;obtain⟨i1,q1,p1,z1⟩:=I.inv.tuple s1;have hl1:=r1.length;have hk1:=q1.length;have hne:i1≠[]:=fun z=>by
     subst z;have:xs=[]:=List.eq_nil_of_length_eq_zero (by rw[hl1,hk1]; rfl)
     subst this;exact absurd hz.2.2.2 (by simp)
    refine mul_tup p1 hne hz.2.2.1 hz.1 (by rw[<- hk1,<- hl1]; exact hz.2.1) (fun e=>?_) (fun e=>?_)
    ·subst e
     have e1:(List.replicate (1:Int).toNat xs).flatten=xs:=by simp
     rw[e1];exact .mk (v:=.ref a) .refl I.inv rfl rx' I.sr
    ·have hr:∀ m:Nat,RDs X.K ρ H (List.replicate m xs).flatten (List.replicate m vs).flatten:=fun m=>by
      induction m with
      | zero=>simpa using RDs.nil
      | succ m ih=>rw[List.replicate_succ,List.replicate_succ,List.flatten_cons,List.flatten_cons]; exact r1.append ih
     refine fin_tup (I.inv.laid (t':=s.toks) (o:=.tup (List.replicate k.toNat vs).flatten) (fun b ob q=>Heap.get?_push_of_some _ q) (Nat.le_refl _) ?_) (I.inv.hok.fresh (Nat.le_refl _)) I.sr (hr _)
     exact⟨by rw[len_rep,<- hl1,Nat.mul_comm]; exact le_line hz.2.1,_,q1.rep _,IsTup.new _ _⟩
   ·exact absurd rfl nb
  | _=>exact absurd rfl nb
 | ref n=>cases y with
  | int k =>
   simp only[binD] at nb ⊢;cases h1:Z.lstM S n with
   | none=>rw[h1] at nb; exact absurd rfl nb
   | some xs =>
    rw[h1] at nb;dsimp only at nb ⊢;split at nb
    ·rename_i hz
     rw[if_pos hz];obtain⟨a,vs,rfl,ha,hva,ra⟩:=I.lstR h1 rx;simp only[RD] at ry; subst ry;have hr:RDs X.K ρ H (List.replicate k.toNat xs).flatten (List.replicate k.toNat vs).flatten:=by
      induction k.toNat with
      | zero=>simpa using RDs.nil
      | succ m ih=>rw[List.replicate_succ,List.replicate_succ,List.flatten_cons,List.flatten_cons]; exact ra.append ih
     exact opd (Q':=fun z H'=>∃ p,H p=none/\z=.ref p/\H'=upd H p (.lst (List.replicate k.toNat vs).flatten)) op_rep I.inv rv ru
      ⟨a,k,vs,rfl,rfl,hva,by omega,by omega,by rw[<- ra.length]; exact le_line hz.2.1,fun p hp=>⟨p,hp,rfl,rfl⟩⟩
      fun w s' z H' J rz ⟨p,hp,z1,z2⟩=>by subst z1 z2; cases rz; exact fin_lst J hp I.sr hr
    ·exact absurd rfl nb
  | _=>exact absurd rfl nb
 | _=>cases y <;> exact absurd rfl nb
theorem o_fdiv:Op2 X (binaryOp .FloorDiv) (binD .fdiv):=by
 intro pins s σ H ρ S env x y v u v' u' E I nb rx rv ry ru;cases x with
 | int i=>cases y with
  | int j =>
   simp only[RD] at rx ry; subst rx ry;obtain⟨t,rfl⟩:=rv; obtain⟨t',rfl⟩:=ru;simp only[binD] at nb ⊢;split at nb
   ·rename_i hz
    rw[if_pos hz];simp only[divOk,bA0,decide_eq_true_eq] at hz;have hj:(0:Int) < j:=hz.1;exact floordiv_int (by omega) (by rw[Int.fdiv_eq_ediv_of_nonneg i (by omega)]; exact fin_i I.sr (I.inv.tok _)) (.inl (PyProof.noPylong_of_log2 hz.2))
   ·exact absurd rfl nb
  | _=>exact absurd rfl nb
 | _=>cases y <;> exact absurd rfl nb
theorem o_mod:Op2 X (binaryOp .Mod) (binD .mod):=by
 intro pins s σ H ρ S env x y v u v' u' E I nb rx rv ry ru;cases x with
 | int i=>cases y with
  | int j =>
   simp only[RD] at rx ry; subst rx ry;obtain⟨t,rfl⟩:=rv; obtain⟨t',rfl⟩:=ru;simp only[binD] at nb ⊢;split at nb
   ·rename_i hz
    rw[if_pos hz];exact mod_int' (by omega) (by rw[Int.fmod_eq_emod_of_nonneg i (by omega)]; exact fin_i I.sr (I.inv.tok _))
   ·exact absurd rfl nb
  | _=>exact absurd rfl nb
 | _=>cases y <;> exact absurd rfl nb
theorem o_pow:Op2 X (binaryOp .Pow) (binD .pow):=by
 intro pins s σ H ρ S env x y v u v' u' E I nb rx rv ry ru;cases x with
 | int i=>cases y with
  | int j =>
   simp only[RD] at rx ry; subst rx ry;obtain⟨t,rfl⟩:=rv; obtain⟨t',rfl⟩:=ru;simp only[binD] at nb ⊢;split at nb
   ·rename_i hz
    rw[if_pos hz];exact pow_int_small hz.1 (by omega) (by omega) (fin_i I.sr (I.inv.tok _))
   ·exact absurd rfl nb
  | _=>exact absurd rfl nb
 | _=>cases y <;> exact absurd rfl nb
theorem o_bin:∀ op:Bo,Op2 X (binaryOp (opB op)) (binD op)
 | .add=>o_add | .sub=>o_sub | .mul=>o_mul | .fdiv=>o_fdiv | .mod=>o_mod | .pow=>o_pow
end
end Z
end
section
namespace Z
open PySem PySem.Spec PyProof.Rows L2
theorem ixN_eq(n:Nat)(i:Int):Z.ixN n i=L2.ixN n i:=rfl
section
variable{X:Cx}{pins:List (Addr×Obj)}{σ:L2.St}{H:Hp}{s:Shared}{ρ:List Addr}{S S':Sto}{env:En}{Q:Value->Shared->Prop}{E:Value->Shared->Prop}{a b c e:Expr}{f fa fb fc:En->Sto->R D}{pos:Pos}
theorem idx_rd{xs:List D}{vs:List V}{k:Int}{d:D}(r:RDs X.K ρ H xs vs)(h:((Z.ixN xs.length k).bind fun j=>xs[j]?)=some d):∃ v,atI vs k=some v/\RD X.K ρ H d v:=by
 cases e:Z.ixN xs.length k with
 | none=>rw[e] at h; cases h
 | some j =>
  rw[e] at h;obtain⟨v,h1,h2⟩:=r.get (i:=j) (d:=d) h;refine⟨v,?_,h2⟩;show((L2.ixN vs.length k).bind fun j=>vs[j]?)=some v
  rw[<- r.length];rw[ixN_eq] at e;rw[e];exact h1
theorem o_idx(hs:PlainIx b):Op2 X (subscriptTail a b) idxR:=by
 intro pins s σ H ρ S env x y v u v' u' E I nb rx rv ry ru;unfold idxR at nb ⊢;cases e:idxD x y S with
 | none=>rw[e] at nb; exact absurd rfl nb
 | some d =>
  cases y with
  | int k =>
   simp only[RD] at ry; subst ry;have ixr:∀ {r:R2} (hr:IxR (X.wish E) r) (z:V),r v (.int k) H (fun z' H'=>z'=z/\H'=H)->RD X.K ρ H d z->wpAny (model X.prog X.w) X.A (subscriptTail a b v' u') (OkP X pins σ ρ H (.ok d S)) E s:=fun {r} hr z h1 h2 =>
    thn (hr a b pins s σ H v (.int k) v' u' _ (I.inv.wish E) rv ru h1 (hs _ _)) fun w s' ⟨z',H',J,rz,e1,e2⟩=>by subst e1 e2; exact .mk .refl J.unwish rz h2 I.sr
   have seq:∀ xs,seqD S x=some xs->((Z.ixN xs.length k).bind fun j=>xs[j]?)=some d->wpAny (model X.prog X.w) X.A (subscriptTail a b v' u') (OkP X pins σ ρ H (.ok d S)) E s:=fun xs h1 h2=>by
    obtain⟨p,vs,rfl,hq,hr⟩:=I.seq h1 rx;obtain⟨z,hz,rz⟩:=idx_rd hr h2;rcases hq with hq | hq
    ·exact ixr ix_list z ⟨p,vs,k,z,rfl,rfl,hq,hz,rfl,rfl⟩ rz
    ·exact ixr ix_tup z ⟨p,vs,k,z,rfl,rfl,hq,hz,rfl,rfl⟩ rz
   cases x with
   | str z =>
    simp only[idxD] at e;simp only[RD] at rx; subst rx;split at e
    ·rename_i hz
     cases e1:Z.ixN z.length k with
     | none=>rw[e1] at e; cases e
     | some j =>
      rw[e1] at e;simp only[Option.bind_some,Option.map_eq_some_iff] at e;obtain⟨c,hc,rfl⟩:=e;refine ixr ix_str (.str ⟨#[c]⟩) ⟨z,k,c,rfl,rfl,le_line hz,?_,rfl,rfl⟩ (by simp only[RD])
      show((L2.ixN z.cps.toList.length k).bind fun j=>z.cps.toList[j]?)=some c
      have:z.cps.toList.length=z.length:=by simp[Str.length]
      rw[this,<- ixN_eq,e1];exact hc
    ·cases e
   | tup xs=>exact seq xs rfl (by simpa [idxD,seqD] using e)
   | fro xs=>exact seq xs rfl (by simpa [idxD,seqD] using e)
   | ref n =>
    simp only[idxD,seqD] at e;cases e1:lstAt S n with
    | none=>rw[e1] at e; cases e
    | some xs=>rw[e1] at e; exact seq xs e1 e
   | non=>simp[idxD,seqD] at e
   | bl _=>simp[idxD,seqD] at e
   | int _=>simp[idxD,seqD] at e
   | fn _ _=>simp[idxD,seqD] at e
  | _=>simp[idxD] at e
theorem d_idx(hs:PlainIx b)(ha:DE X a fa)(hb:DE X b fb):DE X (.Subscript a b pos) (fun env S=>(fa env S).bind fun x S=>(fb env S).bind fun y S=>idxR x y S) :=
 fun pins s σ H ρ S env I nb=>Subscript_ (two (o_idx hs) ha hb I nb)
noncomputable def spD(K:PySem.W.Frag)(n:Nat)(F:List D->Sto->R D):Sp:=fun vs H Q E=>∃ ds ρ S,vs.length=n/\RDs K ρ H ds vs/\SR K ρ S H/\F ds S≠.bad /\
 (∀ d S' v H' ρ',F ds S=.ok d S'->RD K ρ' H' d v->SR K ρ' S' H'->Stp K ρ ρ' H H'->Q v H') /\
 ∀ n c S' a H' ρ',F ds S=.ex n S'->ρ'[n]?=some a->S'[n]?=some (.exc c)->SR K ρ' S' H'->Stp K ρ ρ' H H'->E (.ref a) none H'
noncomputable def CXd(P:Program)(w:World):CXT:=fun outer H s E e s'=>∃ H',s'.os=s.os/\AllBare s'.gens/\Un (frs outer) [] H H' s.heap s'.heap/\HOk P w H' s'.heap/\(∃ a,e=.ref a/\Trc (fun T=>s.heap.get? T=none) H' a s'.heap)/\E e none H'
structure RoomC(cm:Bool)(k:Nat)(A:Around):Prop where
 gd:A.guards=some []
 hd:cm=true->A.handled=none
 dp:A.depth + 3 * k + 5 < recursionLimit
 un:A.units + 16 * k + 200 < cLine
theorem RoomC.of{cm:Bool}{k:Nat}{A:Around}(r:Room k A):RoomC cm k A:=⟨r.gd,fun _=>r.hd,r.dp,r.un⟩
theorem RoomC.less{cm cm2:Bool}{k:Nat}{A:Around}(r:RoomC cm k A)(h:cm2=true->cm=true):RoomC cm2 k A:=⟨r.gd,fun z=>r.hd (h z),r.dp,r.un⟩
theorem RoomC.deeper{cm:Bool}{k:Nat}{A:Around}(r:RoomC cm (k + 1) A)(env:PySem.Env):RoomC cm k (A.deeper env) :=
 ⟨r.gd,r.hd,by have:=r.dp; show A.depth + 1 + 3 * k + 5 < _; omega,by have:=r.un; show A.units + 3 + 16 * k + 200 < _; omega⟩
theorem RoomC.mark{cm:Bool}{k:Nat}{A:Around}{h:Option Value}(r:RoomC cm k A):RoomC false k (A.mark h):=⟨r.gd,(fun z=>nomatch z),r.dp,r.un⟩
structure FnD(cm:Bool)(P:Program)(w:World)(K:PySem.W.Frag)(mg:Str->Option Value)(base:Heap)(k:Nat)(f:Addr)(fd:FuncData)(ps:List Str)(F:List D->Sto->R D):Prop where
 run:∀ (A:Around) (outer:List PySem.Env) (s:Shared) (H:Hp) (args:Args) (us:List Value) (vs:List V) (Q:VK) (E:XK),RoomC cm k A->Env0 P w K mg base A outer s H->BindsTo s fd args (ps.zip us)->Vals vs us->spD K ps.length F vs H Q E ->
  codeAny (model P w) A (.call (.ref f) args) (CR (CXd P w) outer P w H s Q E) s
theorem run_d{cm:Bool}{k:Nat}{g:Addr}{fd:FuncData}{ps:List Str}{F:List D->Sto->R D}{us:List Value}{vs:List V}{ds:List D}(G:FnD cm X.prog X.w X.K X.mg X.base k g fd ps F)(hr:RoomC cm k X.A)(hb:Binds X.K fd ps [])
  (I:S0 X pins σ H s ρ S env) (rv:Vals vs us) (rd:RDs X.K ρ H ds vs) (hl:ds.length=ps.length) (nb:F ds S≠.bad) :
  wpAny (model X.prog X.w) X.A (call (.ref g) us) (OkP X pins σ ρ H (F ds S)) (ExP X pins σ ρ H (F ds S)) s:=by
 have hlv:vs.length=ps.length:=by rw[<- rd.length]; exact hl
 have hb':BindsTo s fd ⟨us,[]⟩ (ps.zip us):=by
  have:=hb s us I.inv.kIn (by rw[List.append_nil,<- rv.length]; exact hlv)
  rwa [List.append_nil] at this
 have hsp:spD X.K ps.length F vs H (fun v H'=>∃ d S' ρ',F ds S=.ok d S'/\RD X.K ρ' H' d v/\SR X.K ρ' S' H'/\Stp X.K ρ ρ' H H')
   (fun e _ H'=>∃ n c S' a ρ',F ds S=.ex n S'/\e=.ref a/\ρ'[n]?=some a/\S'[n]?=some (.exc c)/\SR X.K ρ' S' H'/\Stp X.K ρ ρ' H H') :=
  ⟨ds,ρ,S,hlv,rd,I.sr,nb,fun d S' v H' ρ' h1 h2 h3 h4=>⟨d,S',ρ',h1,h2,h3,h4⟩,fun n c S' a H' ρ' h1 h2 h3 h4 h5=>⟨n,c,S',a,ρ',h1,rfl,h2,h3,h4,h5⟩⟩
 refine wpAny_call (codeAny_mono (G.run X.A X.stack s H ⟨us,[]⟩ us vs _ _ hr I.inv.env0 hb' rv hsp) fun r s' hq=>?_)
 cases r with
 | error e =>
  obtain⟨H',os,bare,un,hok,⟨a',h0,tr⟩,n,c,S',a,ρ',h1,h2,h3,h4,h5,h6⟩:=hq;refine⟨n,S',h1,H',ρ',a,c,I.inv.call' os un hok bare (fun b z=>absurd z (by simp)),h2,h3,h4,h5,h6,.inr ?_⟩
  rw[h2] at h0; cases h0;refine tr.imp fun T hT=>⟨?_,fun p hp z=>?_⟩
  ·by_cases hx:T∈X.ex
   ·exact .inl hx
   ·cases q:X.s₀.heap.get? T with
    | none=>exact .inr rfl
    | some o=>obtain⟨o',e⟩:=I.inv.base.there T o q hx; rw[hT] at e; cases e
  ·have:=(I.inv.pin p hp).1
   rw[z,hT] at this; cases this
 | ok fl =>
  cases fl with
  | ret u =>
   obtain⟨v,H',J,rv',d,S',ρ',h1,h2,h3,h4⟩:=I.inv.after hq;exact⟨d,S',h1,v,H',ρ',J,rv',h2,h3,h4⟩
  | next=>exact False.elim hq
  | brk=>exact False.elim hq
  | cont=>exact False.elim hq
theorem d_call{cm:Bool}{k:Nat}{g:Addr}{fd:FuncData}{ps:List Str}{F:List D->Sto->R D}{x:Str}{p:Pos}{es:List Expr}{ga:En->Sto->R (List D)}(G:FnD cm X.prog X.w X.K X.mg X.base k g fd ps F)(hr:RoomC cm k X.A)(hb:Binds X.K fd ps [])
  (hg:Gl X x) (hm:X.mg x=some (.ref g)) (hk:PySem.W.keepIn X.K (.ref g)=true) (ha:DA X (e :: es) ga) (hl:∀ env S ds S',ga env S=.ok ds S'->ds.length=ps.length)
  (hdb:(x == ("__debug__" : Str))=false) (he:starEach (e :: es) X.env=(false,eval e X.env) :: starEach es X.env) (hpl:(backTo pos (starEach es X.env)).any (·.1)=false) :
  DE X (.Call (.Name x p) (e :: es) [] pos) (fun env S=>(ga env S).bind fun xs S=>F xs S):=by
 intro pins s σ H ρ S env I nb;dsimp only at nb ⊢;refine wpAny_Call_Name_kw (ld_glob I.inv hg hm ?_ hdb);cases q:ga env S with
 | bad=>rw[q] at nb; exact absurd rfl nb
 | ex n S1=>exact PySem.W.callWith_K (h₀:=X.base) I.inv.ok.mod.kin hk (ha.ex I q fun x s' z=>⟨n,S1,rfl,z⟩) he hpl
 | ok ds S1 =>
  rw[q] at nb;simp only[Rk0] at nb ⊢;refine PySem.W.callWith_K (h₀:=X.base) I.inv.ok.mod.kin hk (ha.ok I q fun us s1 vs H1 ρ1 I1 rv rd st1=>⟨I1.inv.kIn,?_⟩) he hpl
  exact wpAny_mono (run_d G hr hb I1 rv rd (hl env S ds S1 q) nb) (fun u s2 z=>z.pre st1) fun x s2 z=>z.pre st1
def FlP(X:Cx)(pins:List (Addr×Obj))(σ:L2.St)(ρ:List Addr)(H:Hp)(na:Bool)(S':Sto)(s':Shared):Fl->Flow->Prop
 | .nx e,fl=>fl=.next/\∃ σ' H' ρ',S0 X pins σ' H' s' ρ' S' e/\Stp X.K ρ ρ' H H'/\(na=true->σ'=σ)
 | .brk e,fl=>fl=.brk/\∃ σ' H' ρ',S0 X pins σ' H' s' ρ' S' e/\Stp X.K ρ ρ' H H'
 | .cnt e,fl=>fl=.cont/\∃ σ' H' ρ',S0 X pins σ' H' s' ρ' S' e/\Stp X.K ρ ρ' H H'
 | .rt d,fl=>∃ u v σ' H' ρ',fl=.ret u/\Inv X pins σ' H' s'/\RelV v u/\RD X.K ρ' H' d v/\SR X.K ρ' S' H'/\Stp X.K ρ ρ' H H'
def OkS(X:Cx)(pins:List (Addr×Obj))(σ:L2.St)(ρ:List Addr)(H:Hp)(na:Bool)(r:R Fl)(fl:Flow)(s':Shared):Prop:=∃ x S',r=.ok x S'/\FlP X pins σ ρ H na S' s' x fl
def ExS(X:Cx)(pins:List (Addr×Obj))(σ:L2.St)(ρ:List Addr)(H:Hp)(na:Bool)(r:R Fl)(e:Value)(s':Shared):Prop:=∃ n S' σ',r=.ex n S'/\(na=true->σ'=σ)/\XPd X pins σ' ρ H n S' e s'
def DS(X:Cx)(st:Stmt)(na:Bool)(f:En->Sto->R Fl):Prop :=
 ∀ (pins:List (Addr×Obj)) (s:Shared) (σ:L2.St) (H:Hp) (ρ:List Addr) (S:Sto) (env:En),S0 X pins σ H s ρ S env->f env S≠.bad ->
  wpAny (model X.prog X.w) X.A (exec st X.env) (OkS X pins σ ρ H na (f env S)) (ExS X pins σ ρ H na (f env S)) s
def DSs(X:Cx)(st:List Stmt)(na:Bool)(f:En->Sto->R Fl):Prop :=
 ∀ (pins:List (Addr×Obj)) (s:Shared) (σ:L2.St) (H:Hp) (ρ:List Addr) (S:Sto) (env:En),S0 X pins σ H s ρ S env->f env S≠.bad ->
  wpAny (model X.prog X.w) X.A (execs st X.env) (OkS X pins σ ρ H na (f env S)) (ExS X pins σ ρ H na (f env S)) s
theorem FlP.pre{x:Fl}{fl:Flow}{s':Shared}{σ':L2.St}{ρ':List Addr}{H':Hp}{na na':Bool}(st:Stp X.K ρ ρ' H H')(hn:na'=true->na=true/\σ'=σ)(h:FlP X pins σ' ρ' H' na S' s' x fl):FlP X pins σ ρ H na' S' s' x fl:=by
 cases x with
 | nx e=>obtain⟨h1,σ2,H2,ρ2,h2,h3,h4⟩:=h; exact⟨h1,σ2,H2,ρ2,h2,st.trans h3,fun z=>(h4 (hn z).1).trans (hn z).2⟩
 | brk e=>obtain⟨h1,σ2,H2,ρ2,h2,h3⟩:=h; exact⟨h1,σ2,H2,ρ2,h2,st.trans h3⟩
 | cnt e=>obtain⟨h1,σ2,H2,ρ2,h2,h3⟩:=h; exact⟨h1,σ2,H2,ρ2,h2,st.trans h3⟩
 | rt d=>obtain⟨u,v,σ2,H2,ρ2,h1,h2,h3,h4,h5,h6⟩:=h; exact⟨u,v,σ2,H2,ρ2,h1,h2,h3,h4,h5,st.trans h6⟩
theorem OkS.pre{r:R Fl}{fl:Flow}{s':Shared}{σ':L2.St}{ρ':List Addr}{H':Hp}{na na':Bool}(st:Stp X.K ρ ρ' H H')(hn:na'=true->na=true/\σ'=σ)(h:OkS X pins σ' ρ' H' na r fl s'):OkS X pins σ ρ H na' r fl s':=by
 obtain⟨x,S1,e,h⟩:=h; exact⟨x,S1,e,h.pre st hn⟩
theorem ExS.of{na:Bool}{r:R Fl}{x:Value}{s':Shared}{n:Nat}{ρ':List Addr}{H':Hp}(st:Stp X.K ρ ρ' H H')(h:XPd X pins σ ρ' H' n S' x s')(e:r=.ex n S'):ExS X pins σ ρ H na r x s':=⟨n,S',σ,e,fun _=>rfl,h.pre st⟩
theorem ExS.pre{na na':Bool}{σ':L2.St}{r:R Fl}{x:Value}{s':Shared}{ρ':List Addr}{H':Hp}(st:Stp X.K ρ ρ' H H')(hn:na'=true->na=true/\σ'=σ)(h:ExS X pins σ' ρ' H' na r x s'):ExS X pins σ ρ H na' r x s':=by
 obtain⟨n,S1,σ2,e,h1,h2⟩:=h;exact⟨n,S1,σ2,e,fun z=>(h1 (hn z).1).trans (hn z).2,h2.pre st⟩
variable{st:Stmt}{rest sa sb:List Stmt}{g g2:En->Sto->R Fl}{na na2:Bool}
theorem DS.weak(h:DS X st na g)(hn:na2=true->na=true):DS X st na2 g:=fun pins s σ H ρ S env I nb =>
 wpAny_mono (h pins s σ H ρ S env I nb) (fun _ _ z=>z.pre .refl fun q=>⟨hn q,rfl⟩) fun _ _ z=>z.pre .refl fun q=>⟨hn q,rfl⟩
theorem dss_nil:DSs X [] true (fun env S=>.ok (.nx env) S):=fun pins s σ H ρ S env I _=>wpAny_execs_nil ⟨.nx env,S,rfl,rfl,σ,H,ρ,I,.refl,fun _=>rfl⟩
theorem dss_cons(h1:DS X st na g)(h2:DSs X rest na2 g2):DSs X (st :: rest) (na && na2) (fun env S=>match g env S with | .ok (.nx e) S'=>g2 e S' | r=>r):=by
 intro pins s σ H ρ S env I nb;dsimp only at nb ⊢;refine wpAny_execs_cons ?_;cases q:g env S with
 | bad=>rw[q] at nb; exact absurd rfl nb
 | ex n S1 =>
  refine wpAny_mono (h1 pins s σ H ρ S env I (by rw[q]; exact fun z=>nomatch z)) (fun fl s1 z=>?_) fun x s1 z=>?_
  ·obtain⟨x,S2,e,_⟩:=z; rw[q] at e; cases e
  ·rw[q] at z
   exact z.pre .refl fun w=>⟨by rw[bA0] at w; exact w.1,rfl⟩
 | ok x S1 =>
  rw[q] at nb;refine wpAny_mono (h1 pins s σ H ρ S env I (by rw[q]; exact fun z=>nomatch z)) (fun fl s1 z=>?_) fun x s1 z=>?_
  ·obtain⟨y,S2,e,z⟩:=z
   rw[q] at e; cases e;cases x with
   | nx e =>
    obtain⟨rfl,σ1,H1,ρ1,I1,st1,hσ⟩:=z;exact wpAny_mono (h2 pins s1 σ1 H1 ρ1 S1 e I1 nb) (fun fl s2 z=>z.pre st1 fun w=>by rw[bA0] at w; exact⟨w.2,hσ w.1⟩) fun x s2 z=>z.pre st1 fun w=>by rw[bA0] at w; exact⟨w.2,hσ w.1⟩
   | brk e=>obtain⟨rfl,σ1,H1,ρ1,I1,st1⟩:=z; exact⟨.brk e,S1,rfl,rfl,σ1,H1,ρ1,I1,st1⟩
   | cnt e=>obtain⟨rfl,σ1,H1,ρ1,I1,st1⟩:=z; exact⟨.cnt e,S1,rfl,rfl,σ1,H1,ρ1,I1,st1⟩
   | rt d=>obtain⟨u,v,σ1,H1,ρ1,rfl,r⟩:=z; exact⟨.rt d,S1,rfl,u,v,σ1,H1,ρ1,rfl,r⟩
  ·obtain⟨k,S2,σ2,e,_⟩:=z
   rw[q] at e; cases e
theorem ds_pass:DS X (.Pass pos) true (fun env S=>.ok (.nx env) S):=fun pins s σ H ρ S env I _=>wpAny_Pass ⟨.nx env,S,rfl,rfl,σ,H,ρ,I,.refl,fun _=>rfl⟩
theorem ds_brk:DS X (.Break pos) false (fun env S=>.ok (.brk env) S):=fun pins s σ H ρ S env I _=>wpAny_Break ⟨.brk env,S,rfl,rfl,σ,H,ρ,I,.refl⟩
theorem ds_cnt:DS X (.Continue pos) false (fun env S=>.ok (.cnt env) S):=fun pins s σ H ρ S env I _=>wpAny_Continue ⟨.cnt env,S,rfl,rfl,σ,H,ρ,I,.refl⟩
theorem ds_expr(he:DE X e f)(hs:swapsWith e none pos.line X.env=pure false):DS X (.Expr e pos) true (fun env S=>(f env S).bind fun _ S=>.ok (.nx env) S):=by
 intro pins s σ H ρ S env I nb;dsimp only at nb ⊢;cases q:f env S with
 | bad=>rw[q] at nb; exact absurd rfl nb
 | ex n S1=>exact wpAny_Expr_any (he.ex I q fun x s' z=>.of .refl z rfl) I.inv.quiet hs
 | ok d S1=>exact wpAny_Expr_any (he.ok I q fun u s' v H' ρ' J rv rd st=>⟨.nx env,S1,rfl,rfl,σ,H',ρ',J,st,fun _=>rfl⟩) I.inv.quiet hs
theorem ds_ret(he:DE X e f):DS X (.Return (some e) pos) true (fun env S=>(f env S).bind fun x S=>.ok (.rt x) S):=by
 intro pins s σ H ρ S env I nb;dsimp only at nb ⊢;cases q:f env S with
 | bad=>rw[q] at nb; exact absurd rfl nb
 | ex n S1=>exact wpAny_Return_some (he.ex I q fun x s' z=>.of .refl z rfl)
 | ok d S1=>exact wpAny_Return_some (he.ok I q fun u s' v H' ρ' J rv rd st=>⟨.rt d,S1,rfl,u,v,σ,H',ρ',rfl,J.inv,rv,rd,J.sr,st⟩)
theorem ds_if(hc:DT X c (fun env S=>tst (fc env S)))(ha:DSs X sa na g)(hb:DSs X sb na2 g2) :
  DS X (.If c sa sb pos) (na && na2) (fun env S=>(fc env S).bind fun x S=>match truD S x with | some true=>g env S | some false=>g2 env S | none=>.bad):=by
 intro pins s σ H ρ S env I nb;dsimp only at nb ⊢;cases q:fc env S with
 | bad=>rw[q] at nb; exact absurd rfl nb
 | ex n S1=>exact wpAny_If (hc.ex I (by simp only[q]; rfl) fun x s' z=>.of .refl z rfl)
 | ok x S1 =>
  rw[q] at nb;simp only[Rk0] at nb ⊢;cases t:truD S1 x with
  | none=>rw[t] at nb; exact absurd rfl nb
  | some r =>
   rw[t] at nb;refine wpAny_If (hc.ok I (by simp only[q]; exact tst_ok t) fun s2 H2 ρ2 I2 st2=>?_)
   cases r with
   | true=>exact wpAny_mono (ha pins s2 σ H2 ρ2 S1 env I2 nb) (fun w s3 z=>z.pre st2 fun w=>by rw[bA0] at w; exact⟨w.1,rfl⟩) fun x s' z=>z.pre st2 fun w=>by rw[bA0] at w; exact⟨w.1,rfl⟩
   | false=>exact wpAny_mono (hb pins s2 σ H2 ρ2 S1 env I2 nb) (fun w s3 z=>z.pre st2 fun w=>by rw[bA0] at w; exact⟨w.2,rfl⟩) fun x s' z=>z.pre st2 fun w=>by rw[bA0] at w; exact⟨w.2,rfl⟩
theorem ds_set{i:Nat}{x:Str}{pos':Pos}(hN:X.N.Nodup)(hi:X.N[i]?=some x)(hx:Loc X.env.scope x)(hf:X.fn x=true\/X.env.scope.names.lookup x=some .local)(he:DE X e f)(hs:swapsWith e (some (.Name x pos')) pos.line X.env=pure false) :
  DS X (.Assign [.Name x pos'] e pos) false (fun env S=>(f env S).bind fun x S=>match setTg (.var i) x env with | some env=>.ok (.nx env) S | none=>.bad):=by
 intro pins s σ H ρ S env I nb;dsimp only at nb ⊢;cases q:f env S with
 | bad=>rw[q] at nb; exact absurd rfl nb
 | ex n S1=>exact wpAny_Assign_Name (he.ex I q fun x s' z=>.of .refl z rfl) hs
 | ok d S1 =>
  refine wpAny_Assign_Name (he.ok I q fun u s' v H' ρ' J rv rd st=>?_) hs
  exact store_ok J.inv hN hi hx rv (fun s2 I2=>⟨.nx (env.set i (some d)),S1,rfl,rfl,_,H',ρ',⟨I2,J.sr,J.er.set i rd⟩,st,fun z=>nomatch z⟩) hf
theorem obj_there{P:Program}{w:World}{h:Heap}{b:Addr}{u:HO}(x:ObjOk P w H h b u):∃ o,h.get? b=some o:=by
 cases u with
 | lst xs=>obtain⟨_,_,_,_,e⟩:=x; exact⟨_,e⟩
 | tup xs=>obtain⟨_,_,_,o,e,_⟩:=x; exact⟨_,e⟩
 | dK kvs=>obtain⟨_,_,_,_,o,_,_,e,_⟩:=x; exact⟨_,e⟩
 | dT kvs=>obtain⟨_,_,_,_,o,_,_,e,_⟩:=x; exact⟨_,e⟩
 | set S n=>obtain⟨o,_,_,_,e,_⟩:=x; exact⟨_,e⟩
 | ins C dx fs=>obtain⟨_,_,_,e,_⟩:=x; exact⟨_,e⟩
 | own y=>exact x
 | xd fs=>obtain⟨_,⟨_,_,_,e,_⟩,_⟩:=x; exact⟨_,e⟩
 | rng lo hi=>obtain⟨_,_,_,e⟩:=x; exact⟨_,e⟩
 | frz ob u=>obtain⟨e,_⟩:=x; exact⟨_,e⟩
 | tbl ps=>exact⟨_,(show h.get? b=some _ from x)⟩
 | met f y=>exact⟨_,(show h.get? b=some _ from x)⟩
 | ext φ=>exact x.2.1
theorem frames_base{h g g':Heap}:∀ {l:List PySem.Env},h.FunFrames g l->(∀ b∈frs l,g'.get? b=none)->h.FunFrames g' l
 | [],_,_=>trivial
 | env :: r,⟨hk,⟨L,o,hf,_,ho,hd⟩,hr⟩,k=>by
  have e:frs (env :: r)=L :: frs r:=by unfold frs; rw[List.filterMap_cons,hf]
  rw[e] at k;exact⟨hk,⟨L,o,hf,k L (.head _),ho,hd⟩,frames_base hr fun b hb=>k b (.tail _ hb)⟩
structure Hid(X:Cx)(H':Hp)(a:Addr)(h:Heap)(l:List Addr):Prop where
 er:a∈l
 fr:∀ b∈frs X.stack,b∈l
 of:∀ b∈l,b=a\/b∈frs X.stack\/(H' b=none/\∃ o vs,h.get? b=some o/\o.data=.fields vs)
theorem hok_fly{X:Cx}{pins:List (Addr×Obj)}{σ:L2.St}{H':Hp}{s':Shared}{a C:Addr}{h':Heap}{l:List Addr}(I:Inv X pins σ H' s')(ha:H' a=some (.ext (ExcO C a)))(hl:Hid X H' a s'.heap l)
  (keep:∀ b o,s'.heap.get? b=some o->b ∉ l->h'.get? b=some o) (he:ExcO C a h'):HOk X.prog X.w H' h':=by
 have out:∀ b u,b≠a->H' b=some u->b ∉ l:=fun b u hb q hm=>by
  rcases hl.of b hm with z | z | ⟨z,_⟩
  ·exact hb z
  ·rw[I.stkFree b z] at q; cases q
  ·rw[z] at q; cases q
 intro b u q
 by_cases hb:b=a
 ·subst hb; rw[ha] at q; cases q; exact he.ok
 ·refine(I.hok b u q).stay (fun c v hc e=>?_) (fun _ z=>z) fun _ _ z=>z
  rcases hc with rfl | hc
  ·exact keep c v e (out c u hb q)
  ·exact keep c v e (out c _ (fun z=>by rw[z,ha] at hc; cases hc) hc)
theorem leave_d{X:Cx}{pins:List (Addr×Obj)}{σ:L2.St}{H':Hp}{s':Shared}{a C:Addr}{Q:Unit->Shared->Prop}{E:Value->Shared->Prop}(I:Inv X pins σ H' s')(hs:X.stack=X.env :: X.outer)(hf:X.env.frame=some X.env.locals)(hx:X.ex=[])
  (ha:H' a=some (.ext (ExcO C a))) (fl:Fly X pins H' a s'.heap)
  (hQ:∀ h',Un X.fs [] X.H₀ H' X.s₀.heap h'->HOk X.prog X.w H' h'->Trc (fun T=>X.s₀.heap.get? T=none) H' a h'->Q () { s' with heap:=h' }):wpAny (model X.prog X.w) X.A (leaving X.env (.ref a)) Q E s':=by
 have hfrs:frs X.stack=X.env.locals :: X.fs:=by rw[hs]; unfold frs; rw[List.filterMap_cons,hf]; rfl
 have hA:X.A.frames=some (X.env :: X.outer):=by rw[<- hs]; exact I.ok.frames
 have hI:=I.stack;obtain⟨⟨oa,va,a0,ea,ca,da,v0,vz⟩,_,_⟩:=(show ObjOk X.prog X.w H' s'.heap a (.ext (ExcO C a)) from I.hok a _ ha);have fin:∀ (l:List Addr) (h':Heap),Hid X H' a s'.heap l->(∀ b∈l,b≠a->b ∉ frs X.stack->X.s₀.heap.get? b=none)->Heap.LeftW (PySem.W.hideAll s'.heap l) (X.env :: X.outer) a (.ref C) a0 s'.heap h'->Q () { s' with heap:=h' }:=by
  intro l h' hl hnew ⟨k1,k2,⟨oe,vs,T,oT,ts,t1,⟨t2,t3⟩,t4,t5,t6,t7,t8,t9,t10⟩,k4⟩;have keep:∀ b o,s'.heap.get? b=some o->b ∉ l->h'.get? b=some o:=fun b o e hb=>k1 b o (PySem.W.hideAll_get l e hb)
  have nfr:∀ b∈frs X.stack,∃ o,s'.heap.get? b=some o/\∀ vs,o.data≠.fields vs:=fun b hb=>(hI.mem hb).2
  have frk:∀ b∈frs X.stack,∀ o,s'.heap.get? b=some o->∃ sl,h'.get? b=some { o with slots:=sl }:=fun b hb o e=>by
   obtain⟨o',e',nd⟩:=nfr b hb;rw[e] at e'; cases e';exact k4 b o e nd
  have old:∀ b o,X.s₀.heap.get? b=some o->b≠X.env.locals:=fun b o e=>Nat.ne_of_lt (Nat.lt_of_lt_of_le (Heap.lt_size e) I.ok.above)
  have nx:∀ b:Addr,b ∉ X.ex:=fun b z=>by rw[hx] at z; cases z
  have hT:∀ o,s'.heap.get? T=some o->T∈l:=fun o e=>by
   by_cases hm:T∈l
   ·exact hm
   ·rw[PySem.W.hideAll_get l e hm] at t6; cases t6
  have nT:T ∉ frs X.stack:=fun hm=>by
   obtain⟨o,e,nd⟩:=nfr T hm;obtain⟨sl,e'⟩:=frk T hm o e;rw[t8] at e'; cases e';exact nd ts t9
  refine hQ h' ⟨fun b o e n hb _=>?_,fun b o e n hb _=>?_,fun b o e n _=>I.base.free b o e n (nx b),fun b o e _=>?_,I.base.tups,I.base.frzs,I.base.tbls⟩ (hok_fly I ha hl keep ⟨oe,vs,a0,t1,t2,t4,t3,(Array.getElem?_eq_some_iff.mp t5).1⟩) ⟨oe,vs,T,oT,ts,t1,t4,t5,?_,t7,?_,t8,t9,t10⟩
  ·refine keep b o (I.base.keep b o e n hb (nx b)) fun hm=>?_
   have fb:=I.base.free b o e n (nx b)
   by_cases h1:b=a
   ·rw[h1,ha] at fb; cases fb
   ·by_cases h2:b∈frs X.stack
    ·rw[hfrs] at h2
     rcases List.mem_cons.mp h2 with z | z
     ·exact old b o e z
     ·exact hb z
    ·rw[hnew b hm h1 h2] at e; cases e
  ·obtain⟨sl,e1⟩:=I.base.slot b o e n hb (nx b)
   obtain⟨sl',e2⟩:=frk b (by rw[hfrs]; exact .tail _ hb) _ e1
   exact⟨sl',e2⟩
  ·obtain⟨o',e1⟩:=I.base.there b o e (nx b)
   by_cases hm:b∈l
   ·by_cases h1:b=a
    ·subst h1; exact⟨_,t1⟩
    ·by_cases h2:b∈frs X.stack
     ·obtain⟨sl,e2⟩:=frk b h2 o' e1; exact⟨_,e2⟩
     ·rw[hnew b hm h1 h2] at e; cases e
   ·exact⟨_,keep b o' e1 hm⟩
  ·cases q:X.s₀.heap.get? T with
   | none=>exact q
   | some o =>
    obtain⟨o',e1⟩:=I.base.there T o q (nx T);rw[hnew T (hT o' e1) t7 nT] at q; cases q
  ·cases q:H' T with
   | none=>rfl
   | some u =>
    obtain⟨o',e1⟩:=obj_there (I.hok T u q);rcases hl.of T (hT o' e1) with z | z | ⟨z,_⟩
    ·exact absurd z t7
    ·exact absurd z nT
    ·rw[z] at q; cases q
 rcases fl with⟨oe,vs,e1,e2,e3⟩ | ⟨oe,vs,T,oT,ts,e1,e2,e3,⟨e4,e5⟩,e6,e7,e8,e9,e10⟩
 ·have hl:Hid X H' a s'.heap (a :: frs X.stack):=⟨.head _,fun b hb=>.tail _ hb,fun b hb=>by
   rcases List.mem_cons.mp hb with z | z
   ·exact .inl z
   ·exact .inr (.inl z)⟩
  rw[ea] at e1; cases e1;rw[da] at e2; cases e2;refine wpAny_leaving_firstW (base:=PySem.W.hideAll s'.heap (a :: frs X.stack)) (a0:=a0) hA (by rw[<- hs]; exact frames_base hI fun b hb=>PySem.W.hideAll_none _ (.tail _ hb)) hf ea (fun b o e=>PySem.W.of_hideAll _ e) (PySem.W.hideAll_none _ (.head _)) da e3 v0 fun h' hL=>?_
  rw[ca] at hL;exact fin _ h' hl (fun b hb h1 h2=>by
   rcases List.mem_cons.mp hb with z | z
   ·exact absurd z h1
   ·exact absurd z h2) hL
 ·have hl:Hid X H' a s'.heap (a :: T :: frs X.stack):=⟨.head _,fun b hb=>.tail _ (.tail _ hb),fun b hb=>by
   rcases List.mem_cons.mp hb with z | z
   ·exact .inl z
   ·rcases List.mem_cons.mp z with z | z
    ·subst z; exact .inr (.inr ⟨e7,oT,ts,e8,e9⟩)
    ·exact .inr (.inl z)⟩
  rw[ea] at e1; cases e1;rw[da] at e2; cases e2;refine wpAny_leaving_nextW (base:=PySem.W.hideAll s'.heap (a :: T :: frs X.stack)) (cls:=.ref C) (a0:=a0) hA (by rw[<- hs]; exact frames_base hI fun b hb=>PySem.W.hideAll_none _ (.tail _ (.tail _ hb))) hf ⟨oa,va,T,oT,ts,ea,⟨ca,v0⟩,da,e3,PySem.W.hideAll_none _ (.tail _ (.head _)),e6,e8,e9,e10⟩ (fun b o e=>PySem.W.of_hideAll _ e) (PySem.W.hideAll_none _ (.head _)) fun h' hL=>?_
  exact fin _ h' hl (fun b hb h1 h2=>by
   rcases List.mem_cons.mp hb with z | z
   ·exact absurd z h1
   ·rcases List.mem_cons.mp z with z | z
    ·subst z
     rcases e4 with e4 | e4
     ·rw[hx] at e4; cases e4
     ·exact e4
    ·exact absurd z h2) hL
noncomputable def cxC(cm:Bool)(P:Program)(w:World)(K:PySem.W.Frag)(mg:Str->Option Value)(base:Heap)(N:List Str)(qual:Str)(scope:Scope)(f:Addr)(cd:Value)(A:Around)(outer:List PySem.Env)(s:Shared)(H:Hp)(E:XK):Cx :=
 { cxOf (CXd P w) P w K mg base N qual scope f cd A outer s H E with calm:=cm }
theorem fn_ofD{cm:Bool}{P:Program}{w:World}{K:PySem.W.Frag}{mg:Str->Option Value}{base:Heap}{k:Nat}{f:Addr}{name qual:Str}{params:Arguments}{body:List Stmt}{scope:Scope}{dV kV doc pm cdv ct oc:Value}{an od:Option Addr}
  {osl:Array (Option Value)} {N ps:List Str} {G:En->Sto->R Fl} {na:Bool} (lk:K.lookup f=some ⟨oc,od,.func (PySem.W.fnOf name qual params body scope dV kV doc pm an cdv ct),osl⟩) (hcd:PySem.W.codeIn K cdv qual=true) (S:FnScope N ps scope)
  (hbody:∀ (A:Around) (outer:List PySem.Env) (s:Shared) (H:Hp) (E:XK),RoomC cm k (A.deeper (envOfC qual scope s.heap.objs.size f cdv))->DSs (cxC cm P w K mg base N qual scope f cdv A outer s H E) body na G) :
  FnD cm P w K mg base (k + 1) f (PySem.W.fnOf name qual params body scope dV kV doc pm an cdv ct) ps (fun ds S=>if ds.length=ps.length then
   match G (ds.map some++List.replicate (N.length - ps.length) none) S with
   | .ok (.rt v) S=>.ok v S
   | .ok (.nx _) S=>.ok .non S
   | .ok _ _=>.bad
   | .ex n S=>.ex n S
   | .bad=>.bad else .bad):=by
 refine⟨fun A outer s H args us vs Q E hr e0 hb r hsp=>?_⟩
 obtain⟨ds,ρ,S0',hl,rd,sr,nb,hok,hex⟩:=hsp;have hl':ds.length=ps.length:=by rw[rd.length]; exact hl
 dsimp only at nb hok hex;rw[if_pos hl'] at nb;simp only[if_pos hl'] at hok hex;have KX:K.In s.heap:=e0.mod.kin.keeps fun b o e=>(e0.bs b o e).1
 have lim:s.heap.NoLimit:=e0.mod.nolimit.keeps fun b o e=>(e0.bs b o e).1
 have hkind:∀ y∈ps.zip us,scope.names.lookup y.1=some .local\/(scope.names.lookup y.1=some .cell/\((cellsFrom (s.heap.objs.size + 1) scope.names []).lookup y.1).isSome=true):=fun⟨n,v⟩ hy=>by
  rcases S.par n (List.of_mem_zip hy).1 with q | q
  ·exact .inl q
  ·exact .inr ⟨q,PySem.W.cellsFrom_some _ _ _ (.inl q)⟩
 refine codeAny_call_function (by have:=hr.dp; omega) (KX _ _ lk) rfl S.co S.gen rfl (PySem.W.codeRec_of KX hcd) (hb _ _ _ _ ?_)
 refine wpAny_newFunctionEnv_cells S.kind hkind fun env he s1 x=>?_
 subst he;refine⟨lim.keeps x.toInCall.keep,codeAny_func ?_⟩;have hD:=hbody A outer s H E (hr.deeper _);have e0':Env0 P w K mg base { A with handled:=none } outer s H:=⟨e0.frames,e0.mod,e0.bs,e0.bsz,e0.funs,e0.frf,e0.hok,e0.bare⟩
 have I:Inv (cxC cm P w K mg base N qual scope f cdv A outer s H E) [] (start N vs) H s1:=by
  have I0:Inv (cxOf (CXd P w) P w K mg base N qual scope f cdv { A with handled:=none } outer s H E) [] (start N vs) H s1:=inv_start S rfl e0' hl r x
  exact⟨⟨I0.ok.mod,I0.ok.kind,I0.ok.glob,I0.ok.blt,I0.ok.above,I0.ok.inj,I0.ok.has,I0.ok.cab,(fun z=>hr.hd z),I0.ok.frames,I0.ok.stk,I0.ok.exf,I0.ok.bs,I0.ok.bsz,I0.ok.noex,I0.ok.exfs,I0.ok.funs,I0.ok.frf⟩,I0.os,I0.bare,I0.base,I0.loc,I0.cell,I0.free,I0.freeC,I0.pin,I0.hok,I0.len⟩
 have J:S0 (cxC cm P w K mg base N qual scope f cdv A outer s H E) [] (start N vs) H s1 ρ S0' (ds.map some++List.replicate (N.length - ps.length) none):=by
  refine⟨I,sr,⟨?_,fun i d e=>?_⟩⟩
  ·unfold L2.start; simp[rd.length,hl]
  ·by_cases hi:i < ds.length
   ·rw[List.getElem?_append_left (by simpa using hi),List.getElem?_map] at e
    cases q:ds[i]? with
    | none=>rw[q] at e; cases e
    | some d' =>
     rw[q] at e; cases e;obtain⟨v,h1,h2⟩:=rd.get q;refine⟨v,?_,h2⟩;unfold L2.start;rw[List.getElem?_append_left (by rw[List.length_map,<- rd.length]; exact hi),List.getElem?_map,h1]; rfl
   ·rw[List.getElem?_append_right (by simpa using hi),List.getElem?_replicate] at e
    split at e <;> cases e
 have nb':G (ds.map some++List.replicate (N.length - ps.length) none) S0'≠.bad:=fun z=>nb (by rw[z])
 refine wpAny_mono (hD [] s1 (start N vs) H ρ S0' _ J nb') (fun fl s' hs=>?_) fun e s' hs=>?_
 ·obtain⟨y,S1,e1,hs⟩:=hs
  rw[e1] at nb hok;cases y with
  | nx e =>
   obtain⟨rfl,σ',H',ρ',J',st',_⟩:=hs;exact⟨.non,H',J'.inv.os,J'.inv.bare,J'.inv.base,J'.inv.hok,rfl,hok .non S1 .non H' ρ' rfl (by simp only[RD]) J'.sr st'⟩
  | rt d =>
   obtain⟨u,v,σ',H',ρ',rfl,J',rv,rd',sr',st'⟩:=hs;exact⟨v,H',J'.os,J'.bare,J'.base,J'.hok,rv,hok d S1 v H' ρ' rfl rd' sr' st'⟩
  | brk e=>exact absurd rfl nb
  | cnt e=>exact absurd rfl nb
 ·obtain⟨n,S1,σ',e1,_,H',ρ',a,c,J',rfl,hn,hc,sr',st',fl⟩:=hs
  rw[e1] at hex;obtain⟨C,_,ha⟩:=(show ∃ C,clsAt K c=some C/\H' a=some (.ext (ExcO C a)) from sr'.ob n a _ hn hc);exact leave_d J' rfl rfl rfl ha fl fun h' un hok tr=>⟨H',J'.os,J'.bare,un,hok,⟨a,rfl,tr⟩,hex n c S1 a H' ρ' rfl hn hc sr' st'⟩
end
end Z
end
section
namespace Z
open PySem PySem.Spec PyProof.Rows L2
theorem turnedM{X:Cx}{pins:List (Addr×Obj)}{σ:L2.St}{H:Hp}{s:Shared}{h':Heap}{t':Nat}{fp:List Addr}(I:Inv X pins σ H s)(hf:∀ b∈fp,FpOk X pins H b)
  (k:∀ b o,b ∉ fp->s.heap.get? b=some o->h'.get? b=some o):Inv X pins σ H { s with heap:=h',toks:=t' }:=by
 have nit:∀ b u,H b=some u->b ∉ fp:=fun b u e z=>by rw[(hf b z).1] at e; cases e
 refine I.step (g':=s.gens) (d':=s.drawn) (ch:=fp) (fun b hb=>⟨(hf b hb).2.2.2.1,(hf b hb).2.1,(hf b hb).2.2.2.2.1,(hf b hb).2.2.2.2.2⟩)
  (fun b o _ _ hc e _=>k b o hc e) (fun b o _ _ hc e _=>⟨o.slots,k b o hc e⟩) (fun _ _ _ _ n=>n)
  (fun b o hc e=>⟨o,k b o hc e⟩) (fun _ _ e=>e) (fun _ _ _ e=>e) (fun b ps e=>⟨#[],by rw[e]; simp⟩) (fun m hm=>?_) (fun b u e=>?_) I.bare
 ·obtain⟨o,es,ep,ho,r⟩:=hm
  exact⟨o,es,ep,k _ o (fun z=>(hf _ z).2.1 rfl) ho,r⟩
 ·refine(I.hok b u e).stay (fun c v hc q=>k c v ?_ q) (fun _ q=>q) fun _ _ q=>q
  rcases hc with z | z
  ·rw[z]; exact nit b u e
  ·exact nit c _ z
def SqK(k:Bool)(h:Heap)(a:Addr)(xs:Array Value):Prop:=match k with
 | true=>h.IsList a xs
 | false=>h.IsTuple a xs
def ItK(k:Bool)(h:Heap)(i a:Addr)(n:Nat):Prop:=match k with
 | true=>h.IsListIter i a n
 | false=>h.IsTupleIter i a n
def SqH(k:Bool)(K:PySem.W.Frag)(H:Hp)(a:Addr)(vs:List V):Prop:=match k with
 | true=>SqL K H a vs
 | false=>SqT K H a vs
section
variable{k:Bool}{h h':Heap}{a b i:Addr}{n:Nat}{xs:Array Value}
theorem ItK.at(x:ItK k h i a n)(e:∀ o,h.get? i=some o->h'.get? i=some o):ItK k h' i a n:=by
 cases k <;> (obtain⟨o,ho,r⟩:=x; exact⟨o,e _ ho,r⟩)
theorem SqK.obj(x:SqK k h a xs):∃ o,h.get? a=some o/\(o.cls=.type "list" \/ o.cls=.type "tuple"):=by
 cases k
 ·obtain⟨o,e,c,_⟩:=x; exact⟨o,e,.inr c⟩
 ·obtain⟨o,e,c,_⟩:=x; exact⟨o,e,.inl c⟩
theorem ItK.obj(x:ItK k h i a n):∃ o,h.get? i=some o/\(o.cls=.type "list_iterator" \/ o.cls=.type "tuple_iterator")/\∀ v,o.data≠.cell v:=by
 cases k
 ·obtain⟨o,e,c,d⟩:=x; exact⟨o,e,.inr c,fun v z=>by rw[d] at z; cases z⟩
 ·obtain⟨o,e,c,d⟩:=x; exact⟨o,e,.inl c,fun v z=>by rw[d] at z; cases z⟩
end
theorem seqK{X:Cx}{pins:List (Addr×Obj)}{σ:L2.St}{H:Hp}{s:Shared}{k:Bool}{a:Addr}{vs:List V}(I:Inv X pins σ H s)(h:SqH k X.K H a vs):∃ its:List Value,Vals vs its/\SqK k s.heap a its.toArray:=by
 cases k
 ·obtain⟨its,rv,p,_⟩:=I.tuple h; exact⟨its,rv,show s.heap.IsTuple a its.toArray from p⟩
 ·obtain⟨its,rv,p,_⟩:=I.list h; exact⟨its,rv,p.isList⟩
theorem seqK_inj{X:Cx}{pins:List (Addr×Obj)}{σ:L2.St}{H:Hp}{s:Shared}{k:Bool}{a:Addr}{vs us:List V}(I:Inv X pins σ H s)(h:SqH k X.K H a vs)(h':SqH k X.K H a us):vs=us:=by
 cases k
 ·exact I.tuple_inj h h'
 ·exact I.list_inj h h'
section
variable{prog:Program}{w:World}{A:Around}{E:Value->Shared->Prop}{s:Shared}
theorem tup_next{it t:Addr}{i:Nat}{items:Array Value}{x:Value}{Q:Value->Shared->Prop}(hit:s.heap.IsTupleIter it t i)(ht:s.heap.IsTuple t items)(hx:items[i]?=some x)
  (hQ:∀ h',h'.IsTupleIter it t (i + 1)->Heap.SameBut it s.heap h'->Q x { s with heap:=h' }):wpAny (model prog w) A (Builtin.SmallTypes.nextOf (.ref it)) Q E s:=by
 obtain⟨o,ho,hc,hd⟩:=id hit; obtain⟨ol,hol,_,nl,hdl⟩:=ht; unfold Builtin.SmallTypes.nextOf;refine wpAny_bind (wpAny_callSpecial?_slot (name:=Str.ofString "__next__") hit.typeIs F.slot_tuple_iterator_next (wpAny_call_entry F.slot_tuple_iterator_next hit.typeIs F.entry_tuple_iterator_next ?_ (F.args_tuple_iterator_next_1 _)));show wpAny _ _ (field (.ref it) 0 >>= _) _ _ s; refine wpAny_bind (wpAny_field ho hd (x:=.ref t) rfl ?_);show wpAny _ _ (if (Value.ref t == Value.none)=true then _ else _) _ _ s; rw[if_neg (show ¬ ((Value.ref t == Value.none)=true) from Bool.false_ne_true)]
 show wpAny _ _ (field (.ref it) 1 >>= _) _ _ s; refine wpAny_bind (wpAny_field ho hd (x:=.int i 0) rfl ?_);show wpAny _ _ (seqItems? (.ref t) >>= _) _ _ s; refine wpAny_bind (wpAny_seqItems hol hdl ?_); simp only[Int.toNat_natCast,hx];refine wpAny_bind (wpAny_setField ho hd (by simp) (wpAny_pure ⟨x,rfl,wpAny_pure (hQ _ ⟨_,Heap.get?_update_self _ ho (Obj.isFreed_of_fields (Obj.data_mapFields hd _)),(Obj.cls_mapFields ..).trans hc,by rw[Obj.data_mapFields hd]; simp[rawInt]⟩ (Heap.SameBut.update ..))⟩))
theorem tup_end{it t:Addr}{i:Nat}{items:Array Value}{Q:Value->Shared->Prop}(hh:A.handled=none)(hit:s.heap.IsTupleIter it t i)(ht:s.heap.IsTuple t items)(hx:items[i]?=none)
  (hE:∀ h' e,Heap.ExtBut it s.heap h'->(∃ o,h'.get? e=some o/\o.cls=.type "StopIteration")->E (.ref e) { s with heap:=h' }):wpAny (model prog w) A (Builtin.SmallTypes.nextOf (.ref it)) Q E s:=by
 obtain⟨o,ho,hc,hd⟩:=id hit; obtain⟨ol,hol,_,nl,hdl⟩:=ht; unfold Builtin.SmallTypes.nextOf;refine wpAny_bind (wpAny_callSpecial?_slot (name:=Str.ofString "__next__") hit.typeIs F.slot_tuple_iterator_next (wpAny_call_entry F.slot_tuple_iterator_next hit.typeIs F.entry_tuple_iterator_next ?_ (F.args_tuple_iterator_next_1 _)));show wpAny _ _ (field (.ref it) 0 >>= _) _ _ s; refine wpAny_bind (wpAny_field ho hd (x:=.ref t) rfl ?_);show wpAny _ _ (if (Value.ref t == Value.none)=true then _ else _) _ _ s; rw[if_neg (show ¬ ((Value.ref t == Value.none)=true) from Bool.false_ne_true)]
 show wpAny _ _ (field (.ref it) 1 >>= _) _ _ s; refine wpAny_bind (wpAny_field ho hd (x:=.int i 0) rfl ?_);show wpAny _ _ (seqItems? (.ref t) >>= _) _ _ s; refine wpAny_bind (wpAny_seqItems hol hdl ?_); simp only[Int.toNat_natCast,hx];refine wpAny_bind (wpAny_rule (wpAny_bind (wpAny_setField ho hd (by simp) ?_)))
 show wpAny _ _ (newExc (.type "StopIteration") [] >>= _) _ _ _; refine wpAny_bind ?_; simp only[newExc,newTuple];refine wpAny_bind (wpAny_newObj_type ?_ (by size_fits)); refine wpAny_bind (m:=firstArgMember _ _) (wpAny_of_eq (a:=Value.none) (by first | rfl | (simp only[firstArgMember]; rfl)) ?_)
 refine wpAny_newObj_type ?_ (by size_fits); simp only[raiseNew]; refine wpAny_bind (wpAny_handled ?_)
 first | rw[show A.in1.handled=none from hh] | rw[hh]
 exact wpAny_bind (wpAny_pure (wpAny_throw (hE _ _ (((Heap.SameBut.update ..).extBut.push _).push _) ⟨_,Heap.get?_push_size _ rfl,rfl⟩)))
theorem nxK{k:Bool}{it t:Addr}{i:Nat}{items:Array Value}{x:Value}{Q:Value->Shared->Prop}(hit:ItK k s.heap it t i)(ht:SqK k s.heap t items)(hx:items[i]?=some x)
  (hQ:∀ h',ItK k h' it t (i + 1)->Heap.SameBut it s.heap h'->Q x { s with heap:=h' }):wpAny (model prog w) A (Builtin.SmallTypes.nextOf (.ref it)) Q E s:=by
 cases k
 ·exact tup_next hit ht hx hQ
 ·exact wpAny_nextOf_list_item hit ht hx hQ
theorem endK{k:Bool}{it t:Addr}{i:Nat}{items:Array Value}{Q:Value->Shared->Prop}(hh:A.handled=none)(hit:ItK k s.heap it t i)(ht:SqK k s.heap t items)(hx:items[i]?=none)
  (hE:∀ h' e,Heap.ExtBut it s.heap h'->(∃ o,h'.get? e=some o/\o.cls=.type "StopIteration")->E (.ref e) { s with heap:=h' }):wpAny (model prog w) A (Builtin.SmallTypes.nextOf (.ref it)) Q E s:=by
 cases k
 ·exact tup_end hh hit ht hx hE
 ·exact wpAny_nextOf_list_end hh hit ht hx hE
noncomputable def itNm(k:Bool):String:=match k with
 | true => "list_iterator"
 | false => "tuple_iterator"
theorem iterK{k:Bool}{a:Addr}{xs:Array Value}{Q:Value->Shared->Prop}(h:SqK k s.heap a xs)(hQ:Q (.ref s.heap.objs.size) { s with heap:=s.heap.push { cls:=.type (itNm k),data:=.fields #[.ref a,.int 0 0] } }) :
  wpAny (model prog w) A (pyIter (.ref a)) Q E s:=by
 cases k
 ·exact wpAny_pyIter_tuple h hQ
 ·exact wpAny_pyIter_list h hQ
theorem itK_new{k:Bool}{h:Heap}{i a:Addr}(e:h.get? i=some { cls:=.type (itNm k),data:=.fields #[.ref a,.int 0 0] }):ItK k h i a 0:=by
 cases k <;> exact⟨_,e,rfl,rfl⟩
end
structure ZSt(k1 k2:Bool)(z I O i j a b:Addr)(f0:Value)(n m:Nat)(h:Heap):Prop where
 zo:IsZip h z I O f0
 io:IsPair h I (.ref i) (.ref j)
 oo:∃ x y,IsPair h O x y
 i1:ItK k1 h i a n
 i2:ItK k2 h j b m
section
variable{prog:Program}{w:World}{A:Around}{E:Value->Shared->Prop}{s:Shared}{k1 k2:Bool}{z I O i j a b:Addr}{n:Nat}{xs ys:Array Value}{x y:Value}
end
section
variable(k1 k2:Bool)(h:Heap)(a b:Addr)
end
theorem push_old{h:Heap}{o u:Obj}{c:Addr}(e:(h.push o).get? c=some u)(hc:c≠h.objs.size):h.get? c=some u:=by
 rw[Heap.get?_push_ne h c o hc] at e; exact e
theorem ZSt.some{k1 k2:Bool}{z I O i j a b:Addr}{f0:Value}{n m:Nat}{h:Heap}(x:ZSt k1 k2 z I O i j a b f0 n m h):∀ c∈[z,I,O,i,j],∃ o,h.get? c=some o/\∀ v,o.data≠.cell v:=fun c hc=>by
 simp only[List.mem_cons,List.not_mem_nil,or_false] at hc;rcases hc with e | e | e | e | e <;> subst e
 ·exact⟨_,x.zo,fun v q=>nomatch q⟩
 ·exact⟨_,x.io,fun v q=>nomatch q⟩
 ·obtain⟨p,q,e⟩:=x.oo; exact⟨_,e,fun v q=>nomatch q⟩
 ·obtain⟨o,e,_,d⟩:=x.i1.obj; exact⟨o,e,d⟩
 ·obtain⟨o,e,_,d⟩:=x.i2.obj; exact⟨o,e,d⟩
end Z
end
section
namespace Z
open PySem PySem.Spec PyProof.Rows L2
structure NSt(k:Bool)(e it a:Addr)(n:Nat)(h:Heap):Prop where
 eo:∃ old,IsEnum h e it n old
 io:ItK k h it a n
section
variable{prog:Program}{w:World}{A:Around}{E:Value->Shared->Prop}{s:Shared}{k:Bool}{e it a:Addr}{n:Nat}{xs:Array Value}{x:Value}
theorem en_item{old:Value}{Q:Value->Shared->Prop}(hne:e≠it)(he:IsEnum s.heap e it n old)(hi:ItK k s.heap it a n)(ha:SqK k s.heap a xs)(hx:xs[n]?=some x)
  (hQ:∀ h',IsEnumOut h' e it ((n:Int) + 1) x s.heap.objs.size->ItK k h' it a (n + 1)->h'.get? s.heap.objs.size=some { cls:=.type "tuple",data:=.seq #[.int n s.toks,x] } ->
   (∀ b o,b≠e->b≠it->s.heap.get? b=some o->h'.get? b=some o)->Q (.ref s.heap.objs.size) { s with heap:=h',toks:=s.toks + 1 }) :
  wpAny (model prog w) A (Builtin.«enumerate.__next__» ⟨[.ref e],[]⟩) (fun fin s'=>∃ v,fin=.done (.ret v)/\Q v s') E s:=by
 obtain⟨hp,g,d,tk,os⟩:=s;show wpAny _ _ (field (.ref e) 2 >>= _) _ _ _; refine wpAny_bind (wpAny_field he rfl (x:=.ref it) rfl (wpAny_bind (nxK hi ha hx fun g1 i1 c1=>?_)))
 replace c1:Heap.SameBut it hp g1:=c1; have e1:IsEnum g1 e it n old:=(c1.2 e hne).trans he
 show wpAny _ _ (field (.ref e) 3 >>= _) _ _ ⟨g1,g,d,tk,os⟩; refine wpAny_bind (wpAny_field e1 rfl (x:=rawInt n) rfl ?_);show wpAny _ _ (field (.ref e) 4 >>= _) _ _ ⟨g1,g,d,tk,os⟩; refine wpAny_bind (wpAny_field e1 rfl (x:=.none) rfl ?_);show wpAny _ _ (mkInt n >>= _) _ _ ⟨g1,g,d,tk,os⟩; refine wpAny_bind (wpAny_mkInt ?_);show wpAny _ _ (setField (.ref e) 3 (rawInt ((n:Int) + 1)) >>= _) _ _ ⟨g1,g,d,tk + 1,os⟩;refine wpAny_bind (wpAny_setField_rec e1 (by simp) fun g2 e2 c2=>?_); replace c2:Heap.SameBut e g1 g2:=c2; replace e2:IsEnum g2 e it ((n:Int) + 1) old:=e2
 show wpAny _ _ (setField (.ref e) 4 .none >>= _) _ _ ⟨g2,g,d,tk + 1,os⟩;refine wpAny_bind (wpAny_setField_rec e2 (by simp) fun g3 e3 c3=>?_); replace c3:Heap.SameBut e g2 g3:=c3; replace e3:IsEnum g3 e it ((n:Int) + 1) old:=e3
 show wpAny _ _ (newTuple [.int n tk,x] >>= _) _ _ ⟨g3,g,d,tk + 1,os⟩; refine wpAny_bind (wpAny_newTuple ?_);have e4:IsEnum (g3.push { cls:=.type "tuple",data:=.seq #[.int n tk,x] }) e it ((n:Int) + 1) old:=Heap.get?_push_of_some _ e3;generalize q4:g3.push { cls:=.type "tuple",data:=.seq #[.int n tk,x] }=g4 at e4;have sz:g3.objs.size=hp.objs.size:=by rw[c3.1,c2.1,c1.1]
 have el:e < hp.objs.size:=Heap.lt_size he;have t4:g4.get? hp.objs.size=some { cls:=.type "tuple",data:=.seq #[.int n tk,x] }:=by rw[<- q4,<- sz]; exact Heap.get?_push_size _ rfl
 have k4:∀ b o,b≠e->b≠it->hp.get? b=some o->g4.get? b=some o:=fun b o h1 h2 hb=>by rw[<- q4]; exact Heap.get?_push_of_some _ (c3.extBut b o h1 (c2.extBut b o h1 (c1.extBut b o h2 hb)))
 have i4:ItK k g4 it a (n + 1):=i1.at fun o q=>by rw[<- q4]; exact Heap.get?_push_of_some _ (c3.extBut _ _ (Ne.symm hne) (c2.extBut _ _ (Ne.symm hne) q))
 show wpAny _ _ (Builtin.SmallTypes.ownedTupleIsFree (.ref e) >>= _) _ _ ⟨g4,g,d,tk + 1,os⟩; rw[sz];clear q4 e3 c3 e2 c2 e1 c1 i1 sz g3 g2 g1;refine wpAny_bind ?_; unfold Builtin.SmallTypes.ownedTupleIsFree;refine wpAny_bind (wpAny_field e4 rfl (x:=.none) rfl (wpAny_pure ?_)); simp only[if_true];refine wpAny_bind (wpAny_rule (wpAny_bind (wpAny_field e4 rfl (x:=old) rfl (wpAny_bind (wpAny_setField_rec e4 (by simp) fun g5 e5 c5=>?_)))))
 replace c5:Heap.SameBut e g4 g5:=c5; replace e5:IsEnum g5 e it ((n:Int) + 1) x:=e5
 show wpAny _ _ (Builtin.SmallTypes.ownedTupleHandOut (.ref e) (.ref hp.objs.size) >>= _) _ _ ⟨g5,g,d,tk + 1,os⟩; refine wpAny_bind ?_; unfold Builtin.SmallTypes.ownedTupleHandOut;refine wpAny_bind (wpAny_setField_rec e5 (by simp) fun g6 e6 c6=>?_); replace c6:Heap.SameBut e g5 g6:=c6; replace e6:IsEnumOut g6 e it ((n:Int) + 1) x hp.objs.size:=e6
 refine wpAny_setField_rec e6 (by simp) fun g7 e7 c7=>?_; replace c7:Heap.SameBut e g6 g7:=c7; replace e7:IsEnumOut g7 e it ((n:Int) + 1) x hp.objs.size:=e7
 have up:∀ b o,b≠e->g4.get? b=some o->g7.get? b=some o:=fun b o h1 q=>c7.extBut b o h1 (c6.extBut b o h1 (c5.extBut b o h1 q))
 exact wpAny_bind (wpAny_letGo (wpAny_pure ⟨_,rfl,hQ g7 e7 (i4.at fun o q=>up _ o (Ne.symm hne) q) (up _ _ (Nat.ne_of_gt el) t4) fun b o h1 h2 hb=>up b o h1 (k4 b o h1 h2 hb)⟩))
theorem en_next{old:Value}{Q:Option Value->Shared->Prop}(hne:e≠it)(he:IsEnum s.heap e it n old)(hi:ItK k s.heap it a n)(ha:SqK k s.heap a xs)(hx:xs[n]?=some x)
  (hQ:∀ h',IsEnumOut h' e it ((n:Int) + 1) x s.heap.objs.size->ItK k h' it a (n + 1)->h'.get? s.heap.objs.size=some { cls:=.type "tuple",data:=.seq #[.int n s.toks,x] } ->
   (∀ b o,b≠e->b≠it->s.heap.get? b=some o->h'.get? b=some o)->Q (some (.ref s.heap.objs.size)) { s with heap:=h',toks:=s.toks + 1 }):wpAny (model prog w) A (pyNext (.ref e)) Q E s:=by
 have hT:s.TypeIs (.ref e) "enumerate" := ⟨_,he,rfl⟩;unfold pyNext;exact wpAny_bind (wpAny_attempt (wpAny_callSpecial?_slot (name:=Str.ofString "__next__") hT F.slot_enumerate_next (wpAny_call_entry F.slot_enumerate_next hT F.entry_enumerate_next (en_item hne he hi ha hx fun h' q1 q2 q3 q4=>wpAny_pure (hQ h' q1 q2 q3 q4)) (F.args_enumerate_next_1 _))))
theorem en_stop{old:Value}{Q:Option Value->Shared->Prop}(hh:A.handled=none)(he:IsEnum s.heap e it n old)(hi:ItK k s.heap it a n)(ha:SqK k s.heap a xs)(hx:xs[n]?=none)
  (hQ:∀ h',Heap.ExtBut it s.heap h'->Q none { s with heap:=h' }):wpAny (model prog w) A (pyNext (.ref e)) Q E s:=by
 have hT:s.TypeIs (.ref e) "enumerate" := ⟨_,he,rfl⟩;unfold pyNext;refine wpAny_bind (wpAny_attempt (wpAny_callSpecial?_slot (name:=Str.ofString "__next__") hT F.slot_enumerate_next (wpAny_call_entry F.slot_enumerate_next hT F.entry_enumerate_next ?_ (F.args_enumerate_next_1 _))));show wpAny _ _ (field (.ref e) 2 >>= _) _ _ _; refine wpAny_bind (wpAny_field he rfl (x:=.ref it) rfl (wpAny_bind (endK hh hi ha hx fun h' x he' hx'=>?_)))
 obtain⟨o,ho,hc⟩:=hx';exact wpAny_bind (wpAny_isInstance (T := "StopIteration") (b:=true) ⟨o,ho,hc⟩ isSubtype_stop (wpAny_pure (hQ _ he')))
theorem en_go{elts:List Expr}{x1:Nat}{pos:Pos}{T:Addr}{i:Int}{item:Value}{Q:Unit->Shared->Prop}(hz:IsEnumOut s.heap e it i item T)(hQ:∀ h',IsEnum h' e it i item->Heap.SameBut e s.heap h'->Q () { s with heap:=h' }) :
  wpAny (model prog w) A (letOwnedTupleGo (.Tuple elts x1 pos) (.ref e) (.ref T)) Q E s:=by
 unfold letOwnedTupleGo;refine wpAny_bind (wpAny_load hz ?_);show wpAny _ _ (if (["enumerate","zip","dict_itemiterator","dict_reverseitemiterator","odict_iterator","itertools.zip_longest","itertools.pairwise"].contains "enumerate" && (#[rawInt T,.bool false,.ref it,rawInt i,.none,item]:Array Value)[0]? == some (rawInt T))=true then _ else _) Q E s
 rw[if_pos (by simp)]
 refine wpAny_bind (wpAny_rule ?_);show wpAny _ _ (setField (.ref e) 0 .none) Q E s;exact wpAny_setField_rec hz (by simp) fun h' z' c'=>hQ h' z' c'
end
open AutoSeq1 (wpAny_loadPart')
noncomputable def sqNm(k:Bool):String:=match k with
 | true => "list"
 | false => "tuple"
theorem en_meets(k:Bool)(a:Addr)(xs:Array Value)(n:Nat)(dct:Option Addr)(sl:Array (Option Value)):Meets (Builtin.«enumerate.__new__» ⟨[.type "enumerate",.ref a],[]⟩) (fun _ R s=>s.heap.get? a=some { cls:=.type (sqNm k),dict:=dct,data:=.seq xs n,slots:=sl } /\
   R (.ok (.ret (.ref (s.heap.push { cls:=.type (itNm k),data:=.fields #[.ref a,.int 0 0] }).objs.size))) { s with heap:=(s.heap.push { cls:=.type (itNm k),data:=.fields #[.ref a,.int 0 0] }).push { cls:=.type "enumerate",data:=.fields #[.none,.bool false,.ref s.heap.objs.size,rawInt 0,.none,.none] } }) :=
 .of_wp fun prog w A R s h=>by
  obtain⟨hp,g,d,tk,os⟩:=s; obtain⟨hl,h⟩:=h;have hsub:=sub_enumerate;have L:SqK k (Shared.heap ⟨hp,g,d,tk,os⟩) a xs:=by cases k <;> exact⟨_,hl,rfl,n,rfl⟩
  wp_walk using wpAny_loadPart' hl
  refine wpAny_stack_any fun st=>wpAny_pure ?_
  split
  ·rename_i c _ _ _ _ _
   cases (c == Value.type "enumerate") <;> (wp_walk using wpAny_loadPart' hl,iterK L; exact⟨_,rfl,h⟩)
  ·wp_walk using wpAny_loadPart' hl,iterK L
   exact⟨_,rfl,h⟩
theorem en_call{prog:Program}{w:World}{A:Around}{E:Value->Shared->Prop}{s:Shared}{k:Bool}{a:Addr}{xs:Array Value}{Q:Value->Shared->Prop}(hL:SqK k s.heap a xs)
  (h:∀ h',NSt k (s.heap.objs.size + 1) s.heap.objs.size a 0 h'->(∀ b o,s.heap.get? b=some o->h'.get? b=some o)->Q (.ref (s.heap.objs.size + 1)) { s with heap:=h' }) :
  wpAny (model prog w) A (call (.type "enumerate") [.ref a]) Q E s:=by
 obtain⟨n,dct,sl,hl⟩:∃ n dct sl,s.heap.get? a=some { cls:=.type (sqNm k),dict:=dct,data:=.seq xs n,slots:=sl }:=by
  cases k <;> (obtain⟨⟨c,dct,dt,sl⟩,hl,hc,n,hd⟩:=hL; cases hc; cases hd; exact⟨n,dct,sl,hl⟩)
 refine callType_new F.called_enumerate (by decide) (F.typeCall_enumerate_1 _) (F.newCall_enumerate_1 _) (fun obj=>F.args_object_init_2 obj _) F.entry_enumerate_new (en_meets k a xs n dct sl) ⟨hl,?_⟩
 have hz:(s.heap.push { cls:=.type (itNm k),data:=.fields #[.ref a,.int 0 0] }).objs.size=s.heap.objs.size + 1:=Heap.size_push ..;show _/\_;rw[hz];have he:IsEnum ((s.heap.push { cls:=.type (itNm k),data:=.fields #[.ref a,.int 0 0] }).push { cls:=.type "enumerate",data:=.fields #[.none,.bool false,.ref s.heap.objs.size,rawInt 0,.none,.none] }) (s.heap.objs.size + 1) s.heap.objs.size 0 .none:=by
  have:=Heap.get?_push_size (s.heap.push { cls:=.type (itNm k),data:=.fields #[.ref a,.int 0 0] }) (o:={ cls:=.type "enumerate",data:=.fields #[.none,.bool false,.ref s.heap.objs.size,rawInt 0,.none,.none] }) rfl;rw[hz] at this; exact this
 exact⟨⟨_,he,rfl⟩,h _ ⟨⟨.none,he⟩,itK_new (Heap.get?_push_of_some _ (Heap.get?_push_size _ rfl))⟩ fun b o q=>Heap.get?_push_of_some _ (Heap.get?_push_of_some _ q)⟩
noncomputable def Ite(K:PySem.W.Frag)(k:Bool)(a:Addr):L2.It :=
 ⟨fun n H=>∃ xs x,SqH k K H a xs/\xs[n]?=some x,
   fun n H v H'=>∃ T x,v=.ref T/\H T=none/\H'=upd H T (.tup [.int n,x])/\∀ xs,SqH k K H a xs->xs[n]?=some x,
   fun n H=>∃ xs,SqH k K H a xs/\xs.length<=n⟩
theorem NSt.at{k:Bool}{e it a:Addr}{n:Nat}{h h':Heap}(x:NSt k e it a n h)(q:∀ c∈[e,it],∀ o,h.get? c=some o->h'.get? c=some o):NSt k e it a n h' :=
 ⟨let ⟨old,z⟩:=x.eo; ⟨old,q e (by simp) _ z⟩,x.io.at fun o z=>q it (by simp) o z⟩
theorem NSt.some{k:Bool}{e it a:Addr}{n:Nat}{h:Heap}(x:NSt k e it a n h):∀ c∈[e,it],∃ o,h.get? c=some o/\∀ v,o.data≠.cell v:=fun c hc=>by
 simp only[List.mem_cons,List.not_mem_nil,or_false] at hc;rcases hc with z | z <;> subst z
 ·obtain⟨old,z⟩:=x.eo; exact⟨_,z,fun v q=>nomatch q⟩
 ·obtain⟨o,z,_,d⟩:=x.io.obj; exact⟨o,z,d⟩
theorem turn_en{P:Program}{w:World}{K:PySem.W.Frag}{es:List Expr}{x0:Nat}{tp:Pos}{k:Bool}{e it a:Addr}(hne:e≠it) :
  Turn P w K (.Tuple es x0 tp) (Ite K k a) [e,it] e (fun n h=>NSt k e it a n h) where
 mem:=by simp
 obj:=fun n h st c hc=>st.some c hc
 keep:=fun n h h' st q=>st.at q
 item:=by
  intro X hP hw hK hc n pins s σ H E J hf st hg;subst hP hw hK;obtain⟨xs,x,q1,hx⟩:=hg;obtain⟨its,rv,p⟩:=seqK J q1;obtain⟨u,hu,ru⟩:=rv.get hx;obtain⟨old,eo⟩:=st.eo;have hT:H s.heap.objs.size=none:=J.hok.fresh (Nat.le_refl _);have old':∀ c∈[e,it],c≠s.heap.objs.size:=fun c hc=>by obtain⟨o,z,_⟩:=st.some c hc; exact Nat.ne_of_lt (Heap.lt_size z)
  refine en_next hne eo st.io p (x:=u) (by simpa using hu) fun h' eo' io' pr kp=>⟨_,rfl,en_go eo' fun h2 e2 c2=>?_⟩
  have J1:Inv X pins σ (upd H s.heap.objs.size (.tup [.int n,x])) { s with heap:=s.heap.push { cls:=.type "tuple",data:=.seq #[.int n s.toks,u] } }:=J.laid (t':=s.toks) (fun c o z=>Heap.get?_push_of_some _ z) (Nat.le_refl _) ⟨by show 2<=sizeLine; decide,[.int n s.toks,u],.cons ⟨_,rfl⟩ (.cons ru .nil),⟨_,Heap.get?_push_size _ rfl,rfl,_,rfl⟩⟩
  have hf1:∀ c∈[e,it],FpOk X pins (upd H s.heap.objs.size (.tup [.int n,x])) c:=fun c hc=>⟨by rw[upd_ne (old' c hc)]; exact(hf c hc).1,(hf c hc).2⟩
  have J2:Inv X pins σ (upd H s.heap.objs.size (.tup [.int n,x])) { s with heap:=h2,toks:=s.toks + 1 }:=turnedM (s:={ s with heap:=s.heap.push { cls:=.type "tuple",data:=.seq #[.int n s.toks,u] } }) (h':=h2) (t':=s.toks + 1) J1 hf1 fun c o hc z=>by
   simp only[List.mem_cons,List.not_mem_nil,or_false,not_or] at hc;refine c2.extBut _ _ hc.1 ?_
   by_cases q:c=s.heap.objs.size
   ·subst q
    have z':=(Heap.get?_push_size s.heap (o:={ cls:=.type "tuple",data:=.seq #[.int n s.toks,u] }) rfl).symm.trans z;rw[<- z']; exact pr
   ·exact kp c o hc.1 hc.2 (push_old z q)
  refine⟨.ref s.heap.objs.size,_,J2,rfl,⟨s.heap.objs.size,x,rfl,hT,rfl,fun zs hz=>?_⟩,?_,fun c hc=>(hf1 c hc).1⟩
  ·rw[seqK_inj J hz q1]; exact hx
  ·exact⟨⟨_,e2⟩,io'.at fun o z=>c2.extBut _ _ (Ne.symm hne) z⟩
 done:=by
  intro X hP hw hK hc n pins s σ H E J hf st hg;subst hP hw hK;obtain⟨xs,q1,hl⟩:=hg;obtain⟨its,rv,p⟩:=seqK J q1;have l1:=rv.length;obtain⟨old,eo⟩:=st.eo;refine en_stop (J.ok.hd hc) eo st.io p (by simp; omega) fun h' kp=>⟨rfl,turnedM (t':=s.toks) J hf fun c o hc z=>?_⟩
  simp only[List.mem_cons,List.not_mem_nil,or_false,not_or] at hc;exact kp c o hc.2 z
 self:=fun _ _ _ _ _ st h=>by obtain⟨old,eo⟩:=st.eo; exact wpAny_pyIter_enum eo h
end Z
end
section
namespace Z
open PySem PySem.Spec PyProof.Rows L2
abbrev IsEn(h:Heap)(e it:Addr)(i:Int)(f0 f1 old:Value):Prop :=
 h.get? e=some { cls:=.type "enumerate",dict:=none,data:=.fields #[f0,f1,.ref it,rawInt i,.none,old],slots:=#[] }
def EnA(h:Heap)(e it:Addr)(i:Int):Prop:=∃ f0 f1 old,IsEn h e it i f0 f1 old/\(f0=.none\/∃ a:Nat,f0=rawInt a)
section
variable{prog:Program}{w:World}{A:Around}{E:Value->Shared->Prop}{s:Shared}{k:Bool}{e it a:Addr}{n:Nat}{xs:Array Value}{x:Value}
theorem any_alive{M:Model}{a:Addr}{Q:Option Obj->Shared->Prop}(h:Q (s.heap.get? a) s):wpAny M A (loadIfAlive a) Q E s:=fun _ _ _=>h
theorem en_free{hp g4:Heap}{g d tk os}{i:Int}{f0 f1 old:Value}{T:Addr}{Q:Fin->Shared->Prop}(e4:IsEn g4 e it i f0 f1 old)
  (hQ:∀ g7,EnA g7 e it i->(∀ b o,b≠e->g4.get? b=some o->g7.get? b=some o)->Q (.done (.ret (.ref T))) ⟨g7,g,d,tk,os⟩) :
  wpAny (model prog w) A (do
   rule "enumerate.__next__.owned-tuple-again"
   let old <- field (.ref e) 5
   setField (.ref e) 5 x
   Builtin.SmallTypes.ownedTupleHandOut (.ref e) (.ref T)
   letGo [old] [.ref T]
   ret (.ref T)) Q E ⟨g4,g,d,tk,os⟩:=by
 refine wpAny_bind (wpAny_rule (wpAny_bind (wpAny_field e4 rfl (x:=old) rfl (wpAny_bind (wpAny_setField_rec e4 (by simp) fun g5 e5 c5=>?_)))))
 replace c5:Heap.SameBut e g4 g5:=c5; replace e5:IsEn g5 e it i f0 f1 x:=e5
 refine wpAny_bind ?_; unfold Builtin.SmallTypes.ownedTupleHandOut;refine wpAny_bind (wpAny_setField_rec e5 (by simp) fun g6 e6 c6=>?_); replace c6:Heap.SameBut e g5 g6:=c6; replace e6:IsEn g6 e it i (rawInt T) f1 x:=e6
 refine wpAny_setField_rec e6 (by simp) fun g7 e7 c7=>?_; replace c7:Heap.SameBut e g6 g7:=c7; replace e7:IsEn g7 e it i (rawInt T) (.bool false) x:=e7
 exact wpAny_bind (wpAny_letGo (wpAny_pure (hQ g7 ⟨_,_,_,e7,.inr ⟨T,rfl⟩⟩ fun b o h1 q=>c7.extBut b o h1 (c6.extBut b o h1 (c5.extBut b o h1 q)))))
theorem ena_item{Q:Value->Shared->Prop}(hne:e≠it)(he:EnA s.heap e it n)(hi:ItK k s.heap it a n)(ha:SqK k s.heap a xs)(hx:xs[n]?=some x)
  (hQ:∀ h',EnA h' e it ((n:Int) + 1)->ItK k h' it a (n + 1)->h'.get? s.heap.objs.size=some { cls:=.type "tuple",data:=.seq #[.int n s.toks,x] } ->
   (∀ b o,b≠e->b≠it->s.heap.get? b=some o->h'.get? b=some o)->Q (.ref s.heap.objs.size) { s with heap:=h',toks:=s.toks + 1 }) :
  wpAny (model prog w) A (Builtin.«enumerate.__next__» ⟨[.ref e],[]⟩) (fun fin s'=>∃ v,fin=.done (.ret v)/\Q v s') E s:=by
 obtain⟨f0,f1,old,he,hf⟩:=he;obtain⟨hp,g,d,tk,os⟩:=s;show wpAny _ _ (field (.ref e) 2 >>= _) _ _ _; refine wpAny_bind (wpAny_field he rfl (x:=.ref it) rfl (wpAny_bind (nxK hi ha hx fun g1 i1 c1=>?_)))
 replace c1:Heap.SameBut it hp g1:=c1; have e1:IsEn g1 e it n f0 f1 old:=(c1.2 e hne).trans he
 show wpAny _ _ (field (.ref e) 3 >>= _) _ _ ⟨g1,g,d,tk,os⟩; refine wpAny_bind (wpAny_field e1 rfl (x:=rawInt n) rfl ?_);show wpAny _ _ (field (.ref e) 4 >>= _) _ _ ⟨g1,g,d,tk,os⟩; refine wpAny_bind (wpAny_field e1 rfl (x:=.none) rfl ?_);show wpAny _ _ (mkInt n >>= _) _ _ ⟨g1,g,d,tk,os⟩; refine wpAny_bind (wpAny_mkInt ?_);show wpAny _ _ (setField (.ref e) 3 (rawInt ((n:Int) + 1)) >>= _) _ _ ⟨g1,g,d,tk + 1,os⟩;refine wpAny_bind (wpAny_setField_rec e1 (by simp) fun g2 e2 c2=>?_); replace c2:Heap.SameBut e g1 g2:=c2; replace e2:IsEn g2 e it ((n:Int) + 1) f0 f1 old:=e2
 show wpAny _ _ (setField (.ref e) 4 .none >>= _) _ _ ⟨g2,g,d,tk + 1,os⟩;refine wpAny_bind (wpAny_setField_rec e2 (by simp) fun g3 e3 c3=>?_); replace c3:Heap.SameBut e g2 g3:=c3; replace e3:IsEn g3 e it ((n:Int) + 1) f0 f1 old:=e3
 show wpAny _ _ (newTuple [.int n tk,x] >>= _) _ _ ⟨g3,g,d,tk + 1,os⟩; refine wpAny_bind (wpAny_newTuple ?_);have e4:IsEn (g3.push { cls:=.type "tuple",data:=.seq #[.int n tk,x] }) e it ((n:Int) + 1) f0 f1 old:=Heap.get?_push_of_some _ e3;generalize q4:g3.push { cls:=.type "tuple",data:=.seq #[.int n tk,x] }=g4 at e4;have sz:g3.objs.size=hp.objs.size:=by rw[c3.1,c2.1,c1.1]
 have el:e < hp.objs.size:=Heap.lt_size he;have t4:g4.get? hp.objs.size=some { cls:=.type "tuple",data:=.seq #[.int n tk,x] }:=by rw[<- q4,<- sz]; exact Heap.get?_push_size _ rfl
 have k4:∀ b o,b≠e->b≠it->hp.get? b=some o->g4.get? b=some o:=fun b o h1 h2 hb=>by rw[<- q4]; exact Heap.get?_push_of_some _ (c3.extBut b o h1 (c2.extBut b o h1 (c1.extBut b o h2 hb)))
 have i4:ItK k g4 it a (n + 1):=i1.at fun o q=>by rw[<- q4]; exact Heap.get?_push_of_some _ (c3.extBut _ _ (Ne.symm hne) (c2.extBut _ _ (Ne.symm hne) q))
 show wpAny _ _ (Builtin.SmallTypes.ownedTupleIsFree (.ref e) >>= _) _ _ ⟨g4,g,d,tk + 1,os⟩; rw[sz];clear q4 e3 c3 e2 c2 e1 c1 i1 sz g3 g2 g1;have fin:∀ g7,EnA g7 e it ((n:Int) + 1)->(∀ b o,b≠e->g4.get? b=some o->g7.get? b=some o)->∃ v,(Fin.done (.ret (.ref hp.objs.size)))=.done (.ret v)/\Q v ⟨g7,g,d,tk + 1,os⟩:=fun g7 e7 up =>
  ⟨_,rfl,hQ g7 e7 (i4.at fun o q=>up _ o (Ne.symm hne) q) (up _ _ (Nat.ne_of_gt el) t4) fun b o h1 h2 hb=>up b o h1 (k4 b o h1 h2 hb)⟩
 refine wpAny_bind ?_; unfold Builtin.SmallTypes.ownedTupleIsFree;rcases hf with rfl | ⟨a',rfl⟩
 ·refine wpAny_bind (wpAny_field e4 rfl (x:=.none) rfl (wpAny_pure ?_)); simp only[if_true]
  exact en_free (hp:=hp) e4 fin
 ·refine wpAny_bind (wpAny_field e4 rfl (x:=rawInt a') rfl ?_)
  show wpAny _ _ (loadIfAlive (Int.toNat (a':Int)) >>= _) _ _ _;refine wpAny_bind (any_alive ?_);cases q:g4.get? (Int.toNat (a':Int)) with
  | none =>
   simp only[Option.isNone_none,if_true];refine wpAny_pure ?_;simp only[if_true];exact en_free (hp:=hp) e4 fin
  | some o =>
   simp only[Option.isNone_some,Bool.false_eq_true,if_false];refine wpAny_bind (wpAny_field e4 rfl (x:=f1) rfl ?_);split
   ·refine wpAny_bind (wpAny_setField_rec e4 (by simp) fun g5 e5 c5=>wpAny_pure ?_)
    replace c5:Heap.SameBut e g4 g5:=c5; replace e5:IsEn g5 e it ((n:Int) + 1) (rawInt a') (.bool true) old:=e5
    simp only[Bool.false_eq_true,if_false];exact wpAny_pure (fin g5 ⟨_,_,_,e5,.inr ⟨a',rfl⟩⟩ fun b o h1 q=>c5.extBut b o h1 q)
   ·refine wpAny_pure ?_
    simp only[Bool.false_eq_true,if_false];exact wpAny_pure (fin g4 ⟨_,_,_,e4,.inr ⟨a',rfl⟩⟩ fun b o h1 q=>q)
end
end Z
end
section
namespace Z
open PySem PySem.Spec PyProof.Rows L2
theorem size_down(a b:Int):Builtin.Range.rangeSize a b (-1)=if a > b then a - b else 0:=by
 unfold Builtin.Range.rangeSize;rw[if_neg (by decide)]
 split <;> simp <;> omega
theorem small_down{a b:Int}(ha:-(2 ^ 62)<=a)(ha':a < 2 ^ 62)(hb:-(2 ^ 62)<=b)(hb':b < 2 ^ 62):Builtin.Range.small a b (-1)=true:=by
 unfold Builtin.Range.small;rw[size_down];simp only[Builtin.Range.rangeFitsLong,bA0,Bool.or_eq_true,decide_eq_true_eq,beq_iff_eq,show ¬ (-1:Int) > 0 by decide,if_false]
 split <;> omega
noncomputable def Itd(lo:Int)(n:Nat):L2.It where
 go:=fun i _=>i < n
 yld:=fun i H x H'=>H'=H/\x=.int (lo - i)
 stop:=fun i _=>n<=i
theorem turn_down{P:Program}{w:World}{K:PySem.W.Frag}{tg:Expr}(it:Addr)(lo:Int)(n:Nat):Turn P w K tg (Itd lo n) [it] it (fun i h=>IsRangeIter h it (lo + (i:Nat) * (-1)) ((n:Int) - (i:Nat)) (-1)) where
 mem:=by simp
 obj:=fun i h st b hb=>by
  obtain rfl:b=it:=by simpa using hb
  exact⟨_,st,fun v z=>nomatch z⟩
 keep:=fun i h h' st k=>k it (by simp) _ st
 item:=by
  intro X hP hw hK hc i pins s σ H E I hf st hg;subst hP hw hK;obtain⟨f0,f1,f2,f3,f4,f5⟩:=hf it (by simp)
  refine(Walks.range (prog:=X.prog) (w:=X.w) (I.ok.hd hc) it lo (-1) n).item i s _ _ hg st fun v h' tk hv st' kk=>?_
  obtain⟨t,rfl⟩:=hv;have I1:Inv X pins σ H { s with heap:=h',toks:=tk }:=I.turned (fun b o hb e=>kk b o (by simpa using hb) e) f0 f1 f3 f4 f5
  refine⟨_,rfl,go_of (s:={ s with heap:=h',toks:=tk }) (n := "range_iterator") st' rfl rfl (by decide) ⟨.int (lo - i),H,I1,⟨t,?_⟩,⟨rfl,rfl⟩,st',fun b hb=>(hf b hb).1⟩⟩
  have e:lo + (i:Int) * (-1)=lo - i:=by omega
  rw[e]
 done:=by
  intro X hP hw hK hc i pins s σ H E I hf st hg;subst hP hw hK;obtain⟨f0,f1,f2,f3,f4,f5⟩:=hf it (by simp)
  have hn:n<=i:=hg;exact wpAny_pyNext_range_end (I.ok.hd hc) st (by omega) fun h' eb=>⟨rfl,I.turned (t':=s.toks) (fun b o hb e=>eb b o hb e) f0 f1 f3 f4 f5⟩
 self:=fun _ _ _ _ _ st h=>wpAny_pyIter_rangeiter st h
section
variable{X:Cx}{tg:Expr}
theorem down_it{pins:List (Addr×Obj)}{σ:L2.St}{H:Hp}{s:Shared}{R:L2.It->Hp->Prop}{E:Value->Shared->Prop}{lo hi:Int}{t u v:Tok}{tk:Nat}(I:Inv X pins σ H s)(h1:-(2 ^ 62)<=lo)(h2:lo < 2 ^ 62)(h3:-(2 ^ 62)<=hi)(h4:hi < 2 ^ 62)
  (q:R (Itd lo (lo - hi).toNat) H):wpAny (model X.prog X.w) X.A (pyIter (.ref s.heap.objs.size)) (PIE X pins σ tg R) E { s with heap:=s.heap.push { cls:=.type "range",data:=.fields #[.int lo t,.int hi u,.int (-1) v] },toks:=tk }:=by
 refine wpAny_pyIter_range (IsRange.new ..) (small_down h1 h2 h3 h4) ?_;generalize hR:({ cls:=.type "range",data:=.fields #[.int lo t,.int hi u,.int (-1) v] }:Obj)=ro;have I1:Inv X pins σ H { s with heap:=s.heap.push ro,toks:=tk }:=I.kept fun b o e=>Heap.get?_push_of_some _ e
 refine⟨(s.heap.push ro).objs.size,[(s.heap.push ro).objs.size],_,_,H,rfl,I1.kept (t':=tk) fun b o e=>Heap.get?_push_of_some _ e,turn_down _ lo (lo - hi).toNat,?_,fun b hb=>?_,q⟩
 ·have e1:lo + ((0:Nat):Int) * (-1)=lo:=by simp
  have e2:(((lo - hi).toNat:Nat):Int) - ((0:Nat):Int)=Builtin.Range.rangeSize lo hi (-1):=by rw[size_down]; split <;> omega
  show IsRangeIter _ _ (lo + ((0:Nat):Int) * (-1)) ((((lo - hi).toNat:Nat):Int) - ((0:Nat):Int)) (-1);rw[e1,e2];exact Heap.get?_push_size _ rfl
 ·obtain rfl:b=(s.heap.push ro).objs.size:=by simpa using hb
  exact I1.fpOk (Nat.le_refl _) (I1.hok.fresh (Nat.le_refl _))
end
end Z
end
section
namespace Z
open PySem PySem.Spec PyProof.Rows L2
section
variable{X:Cx}{pins:List (Addr×Obj)}{σ:L2.St}{H:Hp}{s:Shared}{ρ:List Addr}{S S':Sto}{env:En}{Q:Value->Shared->Prop}{E:Value->Shared->Prop}{a b c e tg iter:Expr}{f fa fb fc:En->Sto->R D}{pos:Pos}
def DG(X:Cx)(tg:Expr)(t:Tg):Prop :=
 ∀ (pins:List (Addr×Obj)) (s:Shared) (σ:L2.St) (H:Hp) (ρ:List Addr) (S:Sto) (env:En) (d:D) (v:V) (u:Value) (env':En) (Q:Unit->Shared->Prop) (E:Value->Shared->Prop),S0 X pins σ H s ρ S env->setTg t d env=some env'->RD X.K ρ H d v->RelV v u ->
  (∀ s' σ',S0 X pins σ' H s' ρ S env'->Q () s')->wpAny (model X.prog X.w) X.A (assign tg X.env u) Q E s
theorem dg_name{i:Nat}{x:Str}(hN:X.N.Nodup)(hi:X.N[i]?=some x)(hx:Loc X.env.scope x)(hf:X.fn x=true\/X.env.scope.names.lookup x=some .local):DG X (.Name x pos) (.var i):=by
 intro pins s σ H ρ S env d v u env' Q E I h rd rv hQ;simp only[setTg,Option.some.injEq] at h;subst h;exact wpAny_assign_Name (store_ok I.inv hN hi hx rv (fun s' I'=>hQ s' _ ⟨I',I.sr,I.er.set i rd⟩) hf)
noncomputable def gNs:List Nat->TGs
 | []=>gNil
 | i :: is=>gCons (gName i) (gNs is)
theorem gNs_ok:∀ (is:List Nat) (vs:List V) (σ:L2.St) (H:Hp) (Q:L2.St->Hp->Prop),is.length=vs.length->Q ((is.zip vs).foldl (fun e p=>e.set p.1 (some p.2)) σ) H->gNs is vs σ H Q
 | [],vs,σ,H,Q,hl,h=>by
  have:vs=[]:=by simpa using hl.symm
  subst this;exact⟨rfl,h⟩
 | i :: is,[],σ,H,Q,hl,h=>by simp at hl
 | i :: is,v :: vs,σ,H,Q,hl,h=>⟨v,vs,rfl,gNs_ok is vs _ H Q (by simpa using hl) h⟩
theorem ER.sets{K:PySem.W.Frag}:∀ (is:List Nat) (ds:List D) (vs:List V) (env:En) (σ:L2.St),RDs K ρ H ds vs->ER K ρ H env σ->ER K ρ H ((is.zip ds).foldl (fun e p=>e.set p.1 (some p.2)) env) ((is.zip vs).foldl (fun e p=>e.set p.1 (some p.2)) σ)
 | [],ds,vs,env,σ,r,e=>by simpa using e
 | i :: is,[],vs,env,σ,r,e=>by simp only[RDs] at r; subst r; simpa using e
 | i :: is,d :: ds,vs,env,σ,r,e=>by
  simp only[RDs] at r;obtain⟨v,vs',rfl,h1,h2⟩:=r;exact ER.sets is ds vs' _ _ h2 (e.set i h1)
theorem dg_tup{es:List Expr}{k:Nat}{is:List Nat}(hc:X.calm=true)(h:∀ E,PGs (X.wish E) es (gNs is))(hn:(assignEach es X.env).length=is.length)(hst:(assignEach es X.env).findIdx? (·.1)=none):DG X (.Tuple es k pos) (.tup is):=by
 intro pins s σ H ρ S env d v u env' Q E I hd rd rv hQ;cases d with
 | tup ds =>
  simp only[setTg] at hd;split at hd
  ·rename_i hl
   cases hd;simp only[RD] at rd;obtain⟨a,vs,rfl,hs,hr⟩:=rd;have hlv:is.length=vs.length:=by rw[hl,hr.length]
   refine thn (pg_tup (X:=X.wish E) (n:=is.length) hc (h E) hn hst pins s σ H (.ref a) u (fun σ' H'=>H'=H/\σ'=(is.zip vs).foldl (fun e p=>e.set p.1 (some p.2)) σ) (I.inv.wish E) rv ⟨a,vs,rfl,hs,hlv.symm,gNs_ok is vs σ H _ hlv ⟨rfl,rfl⟩⟩) fun _ s' ⟨σ',H',J,e1,e2⟩=>?_
   subst e1 e2;exact hQ s' _ ⟨J.unwish,I.sr,ER.sets is ds vs env σ hr I.er⟩
  ·cases hd
 | _=>cases hd
theorem pgs_nm:∀ (is:List Nat) (xs:List (Str×Pos)),X.N.Nodup->is.length=xs.length->(∀ (j i:Nat) (x:Str×Pos),is[j]?=some i->xs[j]?=some x->X.N[i]?=some x.1/\Loc X.env.scope x.1/\(X.fn x.1=true\/X.env.scope.names.lookup x.1=some .local)) ->
  PGs X (xs.map fun x=>Expr.Name x.1 x.2) (gNs is)
 | [],xs,_,hl,_=>by
  have:xs=[]:=by simpa using hl.symm
  subst this;exact pgs_nil
 | i :: is,[],_,hl,_=>by simp at hl
 | i :: is,x :: xs,hN,hl,h=>by
  obtain⟨h1,h2,h3⟩:=h 0 i x rfl rfl;exact pgs_cons (pg_name hN h1 h2 h3) (pgs_nm is xs hN (by simpa using hl) fun j i' x' e1 e2=>h (j + 1) i' x' (by simpa using e1) (by simpa using e2)) rfl
theorem names_each:∀ (xs:List (Str×Pos)) (env:PySem.Env),(assignEach (xs.map fun x=>Expr.Name x.1 x.2) env).length=xs.length/\(assignEach (xs.map fun x=>Expr.Name x.1 x.2) env).findIdx? (·.1)=none
 | [],env=>⟨rfl,rfl⟩
 | x :: xs,env=>by
  have h:=names_each xs env;have e:assignEach ((x :: xs).map fun x=>Expr.Name x.1 x.2) env=(false,assign (.Name x.1 x.2) env) :: assignEach (xs.map fun x=>Expr.Name x.1 x.2) env:=rfl
  rw[e];refine⟨by simp[h.1],?_⟩
  rw[List.findIdx?_cons];simp[h.2]
def SrcK(K:PySem.W.Frag)(ρ:List Addr)(H:Hp):Src->Bool->Addr->Prop
 | .con xs,false,a=>∃ vs,SqT K H a vs/\RDs K ρ H xs vs
 | .ref n,true,a=>ρ[n]?=some a
 | _,_,_=>False
theorem SrcK.mono'{K:PySem.W.Frag}{ρ':List Addr}{H':Hp}{src:Src}{k:Bool}{a:Addr}(x:Mon K ρ ρ' H H')(h:SrcK K ρ H src k a):SrcK K ρ' H' src k a:=by
 cases src with
 | con xs=>cases k with
  | false=>obtain⟨vs,h1,h2⟩:=h; exact⟨vs,x.tup _ _ h1,RDs.mono' x _ _ h2⟩
  | true=>exact h.elim
 | ref n=>cases k with
  | false=>exact h.elim
  | true=>exact x.pre _ _ h
 | enm _=>exact h.elim
theorem SrcK.get{src:Src}{k:Bool}{a:Addr}{i:Nat}{o:Option D}(h:SrcK X.K ρ H src k a)(I:S0 X pins σ H s ρ S env)(g:src.get S i=some o):∃ vs,SqH k X.K H a vs/\match o with
  | some d=>∃ v,vs[i]?=some v/\RD X.K ρ H d v
  | none=>vs.length<=i:=by
 cases src with
 | con xs=>cases k with
  | false =>
   obtain⟨vs,h1,h2⟩:=h;simp only[Src.get,Option.some.injEq] at g;refine⟨vs,h1,?_⟩;cases o with
   | some d=>exact h2.get g
   | none=>have:=h2.none g; rw[List.getElem?_eq_none_iff] at this; exact this
  | true=>exact h.elim
 | ref n=>cases k with
  | false=>exact h.elim
  | true =>
   simp only[Src.get,Option.map_eq_some_iff] at g;obtain⟨xs,g1,g2⟩:=g;obtain⟨a',vs,k1,k2,k3⟩:=I.list g1;have h':ρ[n]?=some a:=h;rw[h'] at k1; cases k1;refine⟨vs,.of k2,?_⟩;cases o with
   | some d=>exact k3.get g2
   | none=>have:=k3.none g2; rw[List.getElem?_eq_none_iff] at this; exact this
 | enm _=>exact h.elim
inductive SrcR(K:PySem.W.Frag)(ρ:List Addr)(H:Hp):Src->L2.It->Prop where
 | tup {a:Addr} {xs:List D} {vs:List V}:SqT K H a vs->RDs K ρ H xs vs->SrcR K ρ H (.con xs) (Itt K a)
 | rng (lo:Int) (n:Nat):SrcR K ρ H (.con ((List.range n).map fun(k:Nat)=>D.int (lo + k))) (Itr lo n)
 | lst {n:Nat} {a:Addr}:ρ[n]?=some a->SrcR K ρ H (.ref n) (Itl K a)
 | dwn (lo:Int) (n:Nat):SrcR K ρ H (.con ((List.range n).map fun(k:Nat)=>D.int (lo - k))) (Itd lo n)
 | enm {s1:Src} {k:Bool} {a:Addr}:SrcK K ρ H s1 k a->SrcR K ρ H (.enm s1) (Ite K k a)
theorem SrcR.mono'{K:PySem.W.Frag}{ρ':List Addr}{H':Hp}{src:Src}{J:L2.It}(x:Mon K ρ ρ' H H')(h:SrcR K ρ H src J):SrcR K ρ' H' src J:=by
 cases h with
 | tup h1 h2=>exact .tup (x.tup _ _ h1) (RDs.mono' x _ _ h2)
 | rng lo n=>exact .rng lo n
 | lst h=>exact .lst (x.pre _ _ h)
 | dwn lo n=>exact .dwn lo n
 | enm h1=>exact .enm (h1.mono' x)
theorem SrcR.mono{K:PySem.W.Frag}{ρ':List Addr}{H':Hp}{src:Src}{J:L2.It}(x:Stp K ρ ρ' H H')(h:SrcR K ρ H src J):SrcR K ρ' H' src J:=h.mono' x.toMon
theorem enm_get{s1:Src}{i:Nat}{o:Option D}(g:(Src.enm s1).get S i=some o):∃ o1,s1.get S i=some o1/\match o with
  | some d=>∃ x,o1=some x/\d=.tup [.int i,x]
  | none=>o1=none:=by
 simp only[Src.get] at g;split at g
 ·rename_i x e1; cases g; exact⟨_,e1,x,rfl,rfl⟩
 ·rename_i hn
  refine⟨o,g,?_⟩;cases o with
  | none=>rfl
  | some x=>exact(hn x g).elim
theorem SrcR.go{src:Src}{J:L2.It}{i:Nat}{d:D}(h:SrcR X.K ρ H src J)(I:S0 X pins σ H s ρ S env)(g:src.get S i=some (some d)) :
  J.go i H/\∀ x H',J.yld i H x H'->SR X.K ρ S H'/\Stp X.K ρ ρ H H'/\RD X.K ρ H' d x:=by
 cases h with
 | @tup a xs vs h1 h2 =>
  simp only[Src.get,Option.some.injEq] at g;obtain⟨v,e1,e2⟩:=h2.get g;refine⟨⟨vs,v,h1,e1⟩,fun x H' y=>?_⟩
  obtain⟨rfl,y⟩:=y;have:=y vs h1;rw[e1] at this; cases this;exact⟨I.sr,.refl,e2⟩
 | rng lo n =>
  simp only[Src.get,Option.some.injEq] at g;rw[List.getElem?_map] at g;have hi:i < n:=by
   by_cases hi:i < n
   ·exact hi
   ·rw[List.getElem?_eq_none (by simpa using hi)] at g; cases g
  rw[List.getElem?_range hi] at g;simp only[Option.map_some,Option.some.injEq] at g;subst g;refine⟨hi,fun x H' y=>?_⟩
  obtain⟨rfl,rfl⟩:=y;exact⟨I.sr,.refl,by simp only[RD]⟩
 | @lst n a h =>
  simp only[Src.get,Option.map_eq_some_iff] at g;obtain⟨xs,g1,g2⟩:=g;obtain⟨a',vs,k1,k2,k3⟩:=I.list g1;rw[h] at k1; cases k1;obtain⟨v,e1,e2⟩:=k3.get g2;refine⟨⟨vs,v,.of k2,e1⟩,fun x H' y=>?_⟩
  obtain⟨rfl,y⟩:=y;have:=y vs (.of k2);rw[e1] at this; cases this;exact⟨I.sr,.refl,e2⟩
 | dwn lo n =>
  simp only[Src.get,Option.some.injEq] at g;rw[List.getElem?_map] at g;have hi:i < n:=by
   by_cases hi:i < n
   ·exact hi
   ·rw[List.getElem?_eq_none (by simpa using hi)] at g; cases g
  rw[List.getElem?_range hi] at g;simp only[Option.map_some,Option.some.injEq] at g;subst g;refine⟨hi,fun x H' y=>?_⟩
  obtain⟨rfl,rfl⟩:=y;exact⟨I.sr,.refl,by simp only[RD]⟩
 | @enm s1 k a h1 =>
  obtain⟨o1,g1,x,rfl,rfl⟩:=enm_get g;obtain⟨vs,q1,v,e1,r1⟩:=h1.get I g1;refine⟨⟨vs,v,q1,e1⟩,fun w H' yd=>?_⟩
  obtain⟨T,v',rfl,hT,rfl,z1⟩:=yd;have z1':=z1 vs q1;rw[e1] at z1'; cases z1';have st:Stp X.K ρ ρ H (upd H T (.tup [.int i,v])):=Stp.upd hT;refine⟨I.sr.upd hT,st,?_⟩;simp only[RD];exact⟨T,[.int i,v],rfl,.of upd_same,.cons (by simp only[RD]) (.cons (r1.mono st) .nil)⟩
theorem SrcR.stop{src:Src}{J:L2.It}{i:Nat}(h:SrcR X.K ρ H src J)(I:S0 X pins σ H s ρ S env)(g:src.get S i=some none):J.stop i H:=by
 cases h with
 | @tup a xs vs h1 h2 =>
  simp only[Src.get,Option.some.injEq] at g;exact⟨vs,h1,by have:=h2.none g; rw[List.getElem?_eq_none_iff] at this; exact this⟩
 | rng lo n =>
  simp only[Src.get,Option.some.injEq] at g;rw[List.getElem?_eq_none_iff] at g;show n<=i
  simpa using g
 | @lst n a h =>
  simp only[Src.get,Option.map_eq_some_iff] at g;obtain⟨xs,g1,g2⟩:=g;obtain⟨a',vs,k1,k2,k3⟩:=I.list g1;rw[h] at k1; cases k1;exact⟨vs,.of k2,by have:=k3.none g2; rw[List.getElem?_eq_none_iff] at this; exact this⟩
 | dwn lo n =>
  simp only[Src.get,Option.some.injEq] at g;rw[List.getElem?_eq_none_iff] at g;show n<=i
  simpa using g
 | @enm s1 k a h1 =>
  obtain⟨o1,g1,ho⟩:=enm_get g;obtain⟨vs,q1,r1⟩:=h1.get I g1;cases ho;exact⟨vs,q1,r1⟩
def ItP(X:Cx)(pins:List (Addr×Obj))(σ:L2.St)(ρ:List Addr)(H:Hp)(tg:Expr)(r:R Src)(itv:Value)(s2:Shared):Prop :=
 ∃ src S' it fp tn J H' ρ',r=.ok src S'/\itv=.ref it/\Inv X pins σ H' s2/\Turn X.prog X.w X.K tg J fp it tn/\tn 0 s2.heap/\(∀ b∈fp,FpOk X pins H' b)/\SrcR X.K ρ' H' src J/\SR X.K ρ' S' H'/\Stp X.K ρ ρ' H H'
def DI(X:Cx)(tg iter:Expr)(f:En->Sto->R Src):Prop :=
 ∀ (pins:List (Addr×Obj)) (s:Shared) (σ:L2.St) (H:Hp) (ρ:List Addr) (S:Sto) (env:En) (E:Value->Shared->Prop),S0 X pins σ H s ρ S env->f env S≠.bad->(∀ x s',ExP X pins σ ρ H (f env S) x s'->E x s') ->
  wpAny (model X.prog X.w) X.A (eval iter X.env) (fun v s1=>wpAny (model X.prog X.w) X.A (pyIter v) (ItP X pins σ ρ H tg (f env S)) E s1) E s
theorem di_val(he:DE X iter f):DI X tg iter (fun env S=>(f env S).bind fun x S=>match srcD S x with | some r=>.ok r S | none=>.bad):=by
 intro pins s σ H ρ S env E I nb hE;dsimp only at nb hE ⊢;cases q:f env S with
 | bad=>rw[q] at nb; exact absurd rfl nb
 | ex n S1=>rw[q] at hE; exact he.ex I q fun x s' z=>hE x s' ⟨n,S1,rfl,z⟩
 | ok d S1 =>
  rw[q] at nb;simp only[Rk0] at nb ⊢;refine he.ok I q fun u s1 v H1 ρ1 I1 rv rd st1=>?_
  cases d with
  | tup xs =>
   simp only[RD] at rd;obtain⟨a,vs,rfl,h1,h2⟩:=rd;cases rv;obtain⟨its,rvs,p,hz⟩:=I1.inv.tuple h1;refine wpAny_pyIter_tuple (show s1.heap.IsTuple a its.toArray from p) ?_;refine⟨_,S1,s1.heap.objs.size,[s1.heap.objs.size],_,_,H1,ρ1,rfl,rfl,I1.inv.kept (t':=s1.toks) fun b o e=>Heap.get?_push_of_some _ e,turn_tuple a _,⟨_,Heap.get?_push_size _ rfl,rfl,rfl⟩,fun b hb=>?_,.tup h1 h2,I1.sr,st1⟩
   have e:b=s1.heap.objs.size:=by simpa using hb
   subst e;exact I1.inv.fpOk (Nat.le_refl _) (I1.inv.hok.fresh (Nat.le_refl _))
  | ref n =>
   cases e1:lstAt S1 n with
   | none=>simp[srcD,e1] at nb
   | some xs =>
    obtain⟨a,vs,k1,k2,k3⟩:=I1.list e1;simp only[RD] at rd;obtain⟨a',rfl,k4⟩:=rd;rw[k1] at k4; cases k4;cases rv;obtain⟨its,rvs,p,hz⟩:=I1.inv.list (.of k2);refine wpAny_pyIter_list p.isList ?_;refine⟨.ref n,S1,s1.heap.objs.size,[s1.heap.objs.size],_,_,H1,ρ1,by simp[srcD,e1],rfl,I1.inv.kept (t':=s1.toks) fun b o e=>Heap.get?_push_of_some _ e,turn_list a _,⟨_,Heap.get?_push_size _ rfl,rfl,rfl⟩,fun b hb=>?_,.lst k1,I1.sr,st1⟩
    have e:b=s1.heap.objs.size:=by simpa using hb
    subst e;exact I1.inv.fpOk (Nat.le_refl _) (I1.inv.hok.fresh (Nat.le_refl _))
  | non=>simp[srcD] at nb
  | bl _=>simp[srcD] at nb
  | int _=>simp[srcD] at nb
  | str _=>simp[srcD] at nb
  | fro _=>simp[srcD] at nb
  | fn _ _=>simp[srcD] at nb
theorem range_itD{tk:Nat}{lo hi:Int}{t u v:Tok}{ds:List D}(I:S0 X pins σ H s ρ S env)(h1:-(2 ^ 62)<=lo)(h2:lo < 2 ^ 62)(h3:-(2 ^ 62)<=hi)(h4:hi < 2 ^ 62)(hds:ds=(List.range (hi - lo).toNat).map fun(k:Nat)=>D.int (lo + k)) :
  wpAny (model X.prog X.w) X.A (pyIter (.ref s.heap.objs.size)) (ItP X pins σ ρ H tg (.ok (.con ds) S)) E { s with heap:=s.heap.push { cls:=.type "range",data:=.fields #[.int lo t,.int hi u,.int 1 v] },toks:=tk }:=by
 refine thn (range_it (X:=X.wish E) (tg:=tg) (R:=fun J H'=>J=Itr lo (hi - lo).toNat/\H'=H) (I.inv.wish E) h1 h2 h3 h4 ⟨rfl,rfl⟩) fun itv s2 ⟨it,fp,tn,J,H',e1,J',T,t0,fo,e2,e3⟩=>?_
 subst e2 e3;exact⟨_,S,it,fp,tn,_,H',ρ,rfl,e1,J'.unwish,T,t0,fo,by rw[hds]; exact .rng _ _,I.sr,.refl⟩
theorem down_itD{tk:Nat}{lo hi:Int}{t u v:Tok}(I:S0 X pins σ H s ρ S env)(h1:-(2 ^ 62)<=lo)(h2:lo < 2 ^ 62)(h3:-(2 ^ 62)<=hi)(h4:hi < 2 ^ 62) :
  wpAny (model X.prog X.w) X.A (pyIter (.ref s.heap.objs.size)) (ItP X pins σ ρ H tg (.ok (.con ((List.range (lo - hi).toNat).map fun(k:Nat)=>D.int (lo - k))) S)) E { s with heap:=s.heap.push { cls:=.type "range",data:=.fields #[.int lo t,.int hi u,.int (-1) v] },toks:=tk }:=by
 refine thn (down_it (X:=X.wish E) (tg:=tg) (R:=fun J H'=>J=Itd lo (lo - hi).toNat/\H'=H) (I.inv.wish E) h1 h2 h3 h4 ⟨rfl,rfl⟩) fun itv s2 ⟨it,fp,tn,J,H',e1,J',T,t0,fo,e2,e3⟩=>?_
 subst e2 e3;exact⟨_,S,it,fp,tn,_,H',ρ,rfl,e1,J'.unwish,T,t0,fo,.dwn _ _,I.sr,.refl⟩
theorem di_rng {p:Pos} {es:List Expr} {g:En->Sto->R (List D)} (hg:Gl X "range") (hm:X.mg "range" = none) (ha:DA X (a :: es) g) (hs:starEach (a :: es) X.env=(false,eval a X.env) :: starEach es X.env) (hpl:(backTo pos (starEach es X.env)).any (·.1)=false) :
  DI X tg (.Call (.Name "range" p) (a :: es) [] pos) (fun env S=>(g env S).bind fun xs S=>match rngD xs with | some ds=>.ok (.con ds) S | none=>.bad):=by
 intro pins s σ H ρ S env E I nb hE;dsimp only at nb hE ⊢;refine Call_ (ld_blt I.inv hg hm boot_range (PyProof.Rows.callWith_type1 ?_ hs hpl));cases q:g env S with
 | bad=>rw[q] at nb; exact absurd rfl nb
 | ex n S1=>rw[q] at hE; exact ha.ex I q fun x s' z=>hE x s' ⟨n,S1,rfl,z⟩
 | ok ds S1 =>
  rw[q] at nb;simp only[Rk0] at nb ⊢;refine ha.ok I q fun us s1 vs H1 ρ1 I1 rv rd st1=>?_
  have fin:∀ {tk:Nat} {lo hi:Int} {t u v:Tok} {xs:List D},-(2 ^ 62)<=lo->lo < 2 ^ 62->-(2 ^ 62)<=hi->hi < 2 ^ 62->xs=(List.range (hi - lo).toNat).map (fun(k:Nat)=>D.int (lo + k)) ->
    wpAny (model X.prog X.w) X.A (pyIter (.ref s1.heap.objs.size)) (ItP X pins σ ρ H tg (.ok (.con xs) S1)) E { s1 with heap:=s1.heap.push { cls:=.type "range",data:=.fields #[.int lo t,.int hi u,.int 1 v] },toks:=tk }:=fun h1 h2 h3 h4 h5 =>
   wpAny_mono (range_itD I1 h1 h2 h3 h4 h5) (fun itv s2 ⟨src,S2,it,fp,tn,J,H2,ρ2,z1,z2,z3,z4,z5,z6,z7,z8,z9⟩=>⟨src,S2,it,fp,tn,J,H2,ρ2,z1,z2,z3,z4,z5,z6,z7,z8,st1.trans z9⟩) fun _ _ z=>z
  match ds,rd,nb with
  | [],rd,nb=>simp[rngD] at nb
  | [d],rd,nb =>
   cases d with
   | int j =>
    simp only[rngD] at nb ⊢
    by_cases hz:-(1048576) < j/\j < 1048576
    ·rw[if_pos hz] at nb ⊢
     simp only[RDs] at rd;obtain⟨v,r,rfl,r1,rfl⟩:=rd;simp only[RD] at r1; subst r1;cases rv with
     | cons q1 q2 =>
      cases q2;obtain⟨t,rfl⟩:=q1;refine call_range_1 (fin (by omega) (by omega) (by omega) (by omega) ?_)
      simp
    ·rw[if_neg hz] at nb; exact absurd rfl nb
   | _=>simp[rngD] at nb
  | [d1,d2],rd,nb =>
   cases d1 with
   | int i=>cases d2 with
    | int j =>
     simp only[rngD] at nb ⊢
     by_cases hz:-(1048576) < i/\i < 1048576/\-(1048576) < j/\j < 1048576
     ·rw[if_pos hz] at nb ⊢
      simp only[RDs] at rd;obtain⟨v,r,rfl,r1,v2,r2,rfl,r3,rfl⟩:=rd;simp only[RD] at r1 r3; subst r1 r3;cases rv with
      | cons q1 q2 =>
       cases q2 with
       | cons q3 q4 =>
        cases q4;obtain⟨t,rfl⟩:=q1;obtain⟨t',rfl⟩:=q3;exact call_range_2 (fin (by omega) (by omega) (by omega) (by omega) rfl)
     ·rw[if_neg hz] at nb; exact absurd rfl nb
    | _=>simp[rngD] at nb
   | _=>simp[rngD] at nb
  | [d1,d2,d3],rd,nb =>
   cases d1 with
   | int i=>cases d2 with
    | int j=>cases d3 with
     | int c =>
      simp only[rngD] at nb ⊢
      by_cases hz:c = -1/\-(1048576) < i/\i < 1048576/\-(1048576) < j/\j < 1048576
      ·rw[if_pos hz] at nb ⊢
       simp only[RDs] at rd;obtain⟨v,r,rfl,r1,v2,r2,rfl,r3,v3,r4,rfl,r5,rfl⟩:=rd;simp only[RD] at r1 r3 r5; subst r1 r3 r5;obtain⟨rfl,hz⟩:=hz;cases rv with
       | cons q1 q2 =>
        cases q2 with
        | cons q3 q4 =>
         cases q4 with
         | cons q5 q6 =>
          cases q6;obtain⟨t,rfl⟩:=q1;obtain⟨t',rfl⟩:=q3;obtain⟨t'',rfl⟩:=q5;exact call_range_3 (by decide) (wpAny_mono (down_itD I1 (by omega) (by omega) (by omega) (by omega)) (fun itv s2 ⟨src,S2,it,fp,tn,J,H2,ρ2,z1,z2,z3,z4,z5,z6,z7,z8,z9⟩=>⟨src,S2,it,fp,tn,J,H2,ρ2,z1,z2,z3,z4,z5,z6,z7,z8,st1.trans z9⟩) fun _ _ z=>z)
      ·rw[if_neg hz] at nb; exact absurd rfl nb
     | _=>simp[rngD] at nb
    | _=>simp[rngD] at nb
   | _=>simp[rngD] at nb
  | _ :: _ :: _ :: _ :: _,rd,nb=>simp[rngD] at nb
theorem src_k{d:D}{v:V}{u:Value}{src:Src}(I:S0 X pins σ H s ρ S env)(e:srcD S d=some src)(rd:RD X.K ρ H d v)(rv:RelV v u):∃ k a vs,u=.ref a/\SqH k X.K H a vs/\SrcK X.K ρ H src k a:=by
 cases d with
 | tup xs =>
  have e':some (Src.con xs)=some src:=e;cases e';simp only[RD] at rd;obtain⟨a,vs,rfl,h1,h2⟩:=rd;cases rv;exact⟨false,a,vs,rfl,h1,vs,h1,h2⟩
 | ref n =>
  cases e1:lstAt S n with
  | none=>simp[srcD,e1] at e
  | some xs =>
   simp only[srcD,e1,Option.map_some,Option.some.injEq] at e;subst e;obtain⟨a,vs,k1,k2,k3⟩:=I.list e1;simp only[RD] at rd;obtain⟨a',rfl,k4⟩:=rd;rw[k1] at k4; cases k4;cases rv;exact⟨true,a,vs,rfl,.of k2,k1⟩
 | _=>cases e
theorem di_enm {p tp:Pos} {x0:Nat} {ts es:List Expr} {g:En->Sto->R (List D)} (hg:Gl X "enumerate") (hm:X.mg "enumerate" = none) (ha:DA X (a :: es) g) (hs:starEach (a :: es) X.env=(false,eval a X.env) :: starEach es X.env) (hpl:(backTo pos (starEach es X.env)).any (·.1)=false) :
  DI X (.Tuple ts x0 tp) (.Call (.Name "enumerate" p) (a :: es) [] pos) (fun env S=>(g env S).bind fun xs S=>match xs with
   | [x]=>match srcD S x with
    | some s=>.ok (.enm s) S
    | none=>.bad
   | _=>.bad):=by
 intro pins s σ H ρ S env E I nb hE;dsimp only at nb hE ⊢;refine Call_ (ld_blt I.inv hg hm (u:=.type "enumerate") (by decide +kernel) (PyProof.Rows.callWith_type1 ?_ hs hpl))
 cases q:g env S with
 | bad=>rw[q] at nb; exact absurd rfl nb
 | ex n S1=>rw[q] at hE; exact ha.ex I q fun x s' z=>hE x s' ⟨n,S1,rfl,z⟩
 | ok ds S1 =>
  rw[q] at nb;simp only[Rk0] at nb ⊢;refine ha.ok I q fun us s1 vs H1 ρ1 I1 rv rd st1=>?_
  match ds,rd,nb with
  | [],rd,nb=>exact absurd rfl nb
  | _ :: _ :: _,rd,nb=>exact absurd rfl nb
  | [x],rd,nb =>
   cases e1:srcD S1 x with
   | none=>simp only[e1] at nb; exact absurd rfl nb
   | some sx =>
    simp only[RDs] at rd;obtain⟨v1,r1,rfl,rd1,rfl⟩:=rd;cases rv with
    | cons q1 q2 =>
     cases q2;obtain⟨k1,b1,w1,rfl,m1,c1⟩:=src_k I1 e1 rd1 q1;obtain⟨its1,_,p1⟩:=seqK I1.inv m1;refine en_call p1 fun h' ns kp=>by
      obtain⟨old,eo⟩:=ns.eo;refine wpAny_pyIter_enum eo ?_;have J:Inv X pins σ H1 { s1 with heap:=h' }:=I1.inv.kept (t':=s1.toks) kp
      refine⟨.enm sx,S1,_,[s1.heap.objs.size + 1,s1.heap.objs.size],_,_,H1,ρ1,by simp only[e1],rfl,J,turn_en (fun z=>by have z':(_:Nat)=_:=z; omega),ns,fun b hb=>?_,.enm c1,I1.sr,st1⟩
      have hb':s1.heap.objs.size<=b:=by
       simp only[List.mem_cons,List.not_mem_nil,or_false] at hb;rcases hb with z | z <;> (have z':(_:Nat)=_:=z; omega)
      exact I1.inv.fpOk hb' (I1.inv.hok.fresh hb')
theorem DSs.ok{st:List Stmt}{na:Bool}{g:En->Sto->R Fl}{x:Fl}{Q:Flow->Shared->Prop}(h:DSs X st na g)(I:S0 X pins σ H s ρ S env)(r:g env S=.ok x S')(hQ:∀ fl s',FlP X pins σ ρ H na S' s' x fl->Q fl s') :
  wpAny (model X.prog X.w) X.A (execs st X.env) Q E s:=by
 refine wpAny_mono (h pins s σ H ρ S env I (by rw[r]; exact fun z=>nomatch z)) (fun fl s' z=>?_) fun x s' z=>?_
 ·obtain⟨y,S1,e,z⟩:=z
  rw[r] at e; cases e;exact hQ fl s' z
 ·obtain⟨n,S1,_,e,_⟩:=z
  rw[r] at e; cases e
theorem S0.rep{pl:List (Addr×Obj)}(I:S0 X pins σ H s ρ S env)(J:Inv X pl σ H s):S0 X pl σ H s ρ S env:=⟨J,I.sr,I.er⟩
theorem ds_for{t:Tg}{body:List Stmt}{na:Bool}{g:En->Sto->R Fl}{fi:En->Sto->R Src}(hc:X.calm=true)(hi:DI X tg iter fi)(hg:DG X tg t)(hb:DSs X body na g)(hs:∀ x,foldedSetIterable iter X.env x=pure x) :
  DS X (.For tg iter body [] pos) false (fun env S=>(fi env S).bind fun src S=>floop src.get t g (src.most S + 1) 0 env S):=by
 intro pins s σ H ρ S env I nb;dsimp only at nb ⊢;cases q:fi env S with
 | bad=>rw[q] at nb; exact absurd rfl nb
 | ex n S1 =>
  refine wpAny_For (wpAny_mono (hi pins s σ H ρ S env _ I (by rw[q]; exact fun z=>nomatch z) fun x s' z=>?_) (fun v s1 h1=>wpAny_mono h1 (fun itv s2 h2=>?_) fun _ _ z=>z) fun _ _ z=>z) hs
  ·rw[q] at z; obtain⟨m,S2,e,z⟩:=z; cases e; exact .of .refl z rfl
  ·obtain⟨src,S2,_,_,_,_,_,_,e,_⟩:=h2
   rw[q] at e; cases e
 | ok src S1 =>
  rw[q] at nb;simp only[Rk0] at nb ⊢;refine wpAny_mono (E:=fun _ _=>False) (wpAny_For (wpAny_mono (hi pins s σ H ρ S env (fun _ _=>False) I (by rw[q]; exact fun z=>nomatch z) fun x s' z=>?_) (fun v s1 h1=>wpAny_mono h1 (fun itv s2 h2=>?_) fun _ _ z=>z) fun _ _ z=>z) hs) (fun _ _ z=>z) fun _ _ z=>z.elim
  ·rw[q] at z; obtain⟨m,S2,e,z⟩:=z; cases e
  ·obtain⟨src',S2,it,fp,tn,J,H2,ρ2,e1,rfl,I2,T,t0,f2,sr2,srr,st2⟩:=h2
   rw[q] at e1; cases e1;have hp:PassesOwn (model X.prog X.w) X.A X.env (fun _ _=>False):=PassesOwn.never
   have stat:∀ {H':Hp},(∀ b∈fp,H' b=none)->∀ b∈fp,FpOk X pins H' b:=fun hn b hb=>⟨hn b hb,(f2 b hb).2⟩
   generalize hr0:floop src.get t g (src.most S1 + 1) 0 env S1=r0;refine codeAny_forLoop_any (fun n s'=>∃ i σ' H' ρ' S' env',S0 X pins σ' H' s' ρ' S' env'/\tn i s'.heap/\(∀ b∈fp,H' b=none)/\SrcR X.K ρ' H' src J/\Stp X.K ρ ρ' H H'/\floop src.get t g n i env' S'≠.bad/\floop src.get t g n i env' S'=r0)
    ?_ (src.most S1 + 1) ⟨0,σ,H2,ρ2,S1,env,I.step I2 srr st2,t0,fun b hb=>(f2 b hb).1,sr2,st2,nb,hr0⟩
   rintro n s3 ⟨i,σ3,H3,ρ3,S3,env3,I3,t3,fr3,sr3,st3,nb3,eq3⟩
   cases n with
   | zero=>exact absurd rfl nb3
   | succ n =>
    simp only[floop] at nb3;cases g1:src.get S3 i with
    | none=>rw[g1] at nb3; exact absurd rfl nb3
    | some o =>
     rw[g1] at nb3;cases o with
     | none =>
      refine wpAny_passesOwn hp (thn (T.done X rfl rfl rfl hc i pins s3 σ3 H3 _ I3.inv (stat fr3) t3 (sr3.stop I3 g1)) fun r s4 ⟨hr,I4⟩=>?_)
      subst hr;exact wpAny_execs_nil ⟨.nx env3,S3,by rw[<- eq3]; simp only[floop,g1],rfl,σ3,H3,ρ3,⟨I4,I3.sr,I3.er⟩,st3,fun z=>nomatch z⟩
     | some d =>
      dsimp only at nb3;obtain⟨go,yl⟩:=sr3.go I3 g1;refine wpAny_passesOwn hp (thn (T.item X rfl rfl rfl hc i pins s3 σ3 H3 _ I3.inv (stat fr3) t3 go) fun r s4 ⟨u,hr,h4⟩=>?_)
      subst hr;refine wpAny_passesOwn hp (thn h4 fun _ s5 ⟨x,H5,I5,r5,y5,t5,fr5⟩=>?_)
      obtain⟨sr5,st5,rd5⟩:=yl x H5 y5;have I5':=I5.pinned (stat fr5) (T.obj _ _ t5);cases e6:setTg t d env3 with
      | none=>rw[e6] at nb3; exact absurd rfl nb3
      | some env6 =>
       rw[e6] at nb3;dsimp only at nb3;refine wpAny_passesOwn hp (hg (pins++pinsAt fp s5.heap) s5 σ3 H5 ρ3 S3 env3 d x u env6 _ _ ⟨I5',sr5,I3.er.mono st5⟩ e6 rd5 r5 fun s6 σ6 I6=>?_)
       cases e7:g env6 S3 with
       | bad=>rw[e7] at nb3; exact absurd rfl nb3
       | ex m S7=>rw[e7] at nb3; exact absurd rfl nb3
       | ok x7 S7 =>
        rw[e7] at nb3;refine wpAny_passesOwn hp (hb.ok I6 e7 fun fl s7 z7=>?_)
        have again:∀ {σ7:L2.St} {H7:Hp} {ρ7:List Addr} {env7:En},S0 X (pins++pinsAt fp s5.heap) σ7 H7 s7 ρ7 S7 env7->Stp X.K ρ3 ρ7 H5 H7->floop src.get t g n (i + 1) env7 S7≠.bad->floop src.get t g n (i + 1) env7 S7=r0 ->
          ∃ m,m < n + 1/\∃ i σ' H' ρ' S' env',S0 X pins σ' H' s7 ρ' S' env'/\tn i s7.heap/\(∀ b∈fp,H' b=none)/\SrcR X.K ρ' H' src J/\Stp X.K ρ ρ' H H'/\floop src.get t g m i env' S'≠.bad/\floop src.get t g m i env' S'=r0 :=
         fun {σ7 H7 ρ7 env7} I7 st7 nb7 eq7=>by
          refine⟨n,Nat.lt_succ_self _,i + 1,σ7,H7,ρ7,S7,env7,I7.rep I7.inv.unpinned,T.keep _ _ _ t5 fun b hb o e=>(I7.inv.pin (b,o) (List.mem_append_right _ (List.mem_append_right _ (mem_pinsAt hb e)))).1,fun b hb=>?_,sr3.mono (st5.trans st7),st3.trans (st5.trans st7),nb7,eq7⟩
          obtain⟨o,e,_⟩:=T.obj _ _ t5 b hb;exact(I7.inv.pin (b,o) (List.mem_append_right _ (List.mem_append_right _ (mem_pinsAt hb e)))).2.1
        have eq3':=eq3;simp only[floop,g1,e6,e7] at eq3';cases x7 with
        | nx e =>
         obtain⟨rfl,σ7,H7,ρ7,I7,st7,_⟩:=z7;exact again I7 st7 nb3 eq3'
        | cnt e =>
         obtain⟨rfl,σ7,H7,ρ7,I7,st7⟩:=z7;exact again I7 st7 nb3 eq3'
        | brk e =>
         obtain⟨rfl,σ7,H7,ρ7,I7,st7⟩:=z7;exact⟨.nx e,S7,eq3'.symm,rfl,σ7,H7,ρ7,I7.rep I7.inv.unpinned,st3.trans (st5.trans st7),fun z=>nomatch z⟩
        | rt d' =>
         obtain⟨u',v',σ7,H7,ρ7,rfl,I7,rv7,rd7,sr7,st7⟩:=z7;exact⟨.rt d',S7,eq3'.symm,u',v',σ7,H7,ρ7,rfl,I7.unpinned,rv7,rd7,sr7,st3.trans (st5.trans st7)⟩
end
end Z
end
section
namespace Z
open PySem PySem.Spec PyProof.Rows L2
theorem closure_go(env:PySem.Env):∀ (names:List (Str×NameKind)) (cs:List (Str×Addr)),(∀ x∈names,x.2=.free->∃ c,env.cells.lookup x.1=some c)->(∀ x c,cs.lookup x=some c->env.cells.lookup x=some c) ->
  ∃ cl,(forIn names cs fun(x:Str×NameKind) (r:List (Str×Addr))=>(match x with
   | (name,kind)=>if (kind == NameKind.free)=true then do
     let a <- cellOf env name
     pure (ForInStep.yield ((name,a) :: r))
    else pure (ForInStep.yield r):Sem (ForInStep (List (Str×Addr)))))=(pure cl:Sem (List (Str×Addr)))/\(∀ x c,cl.lookup x=some c->env.cells.lookup x=some c)/\(∀ x c,cs.lookup x=some c->∃ c',cl.lookup x=some c')/\∀ x∈names,x.2=.free->∃ c,cl.lookup x.1=some c
 | [],cs,_,hc=>⟨cs,rfl,hc,fun x c h=>⟨c,h⟩,fun _ h=>nomatch h⟩
 | (n,k) :: r,cs,hf,hc=>by
  by_cases hk:k=.free
  ·subst hk
   obtain⟨c,hcell⟩:=hf (n,.free) List.mem_cons_self rfl;obtain⟨cl,e,h1,h2,h3⟩:=closure_go env r ((n,c) :: cs) (fun x hx=>hf x (List.mem_cons_of_mem _ hx)) (fun x d h=>by
    rw[List.lookup_cons] at h
    by_cases hx:x == n
    ·rw[hx] at h; cases h; rw[eq_of_beq hx]; exact hcell
    ·have hx':(x == n)=false:=by simpa using hx
     rw[hx'] at h; exact hc x d h)
   refine⟨cl,?_,h1,fun x d h=>?_,fun x hx hx2=>?_⟩
   ·rw[List.forIn_cons]
    simp only[beq_self_eq_true,if_true,cellOf,hcell,pure_bind];exact e
   ·by_cases hx:x == n
    ·exact h2 x c (by rw[List.lookup_cons,hx])
    ·have hx':(x == n)=false:=by simpa using hx
     exact h2 x d (by rw[List.lookup_cons,hx']; exact h)
   ·rcases List.mem_cons.mp hx with rfl | hx
    ·exact h2 n c (by rw[List.lookup_cons,beq_self_eq_true])
    ·exact h3 x hx hx2
  ·obtain⟨cl,e,h1,h2,h3⟩:=closure_go env r cs (fun x hx=>hf x (List.mem_cons_of_mem _ hx)) hc
   refine⟨cl,?_,h1,h2,fun x hx hx2=>?_⟩
   ·rw[List.forIn_cons]
    have hk':(k == NameKind.free)=false:=by simpa using hk
    simp only[hk',Bool.false_eq_true,if_false,pure_bind];exact e
   ·rcases List.mem_cons.mp hx with rfl | hx
    ·exact absurd hx2 hk
    ·exact h3 x hx hx2
theorem closure_ok{scope:Scope}{env:PySem.Env}(hf:∀ x∈scope.names,x.2=.free->∃ c,env.cells.lookup x.1=some c) :
  ∃ cl,closureFor scope env=pure cl/\(∀ x c,cl.lookup x=some c->env.cells.lookup x=some c)/\∀ x∈scope.names,x.2=.free->∃ c,cl.lookup x.1=some c:=by
 obtain⟨cl,e,h1,_,h3⟩:=closure_go env scope.names [] hf (fun x c h=>by simp at h)
 refine⟨cl,?_,h1,h3⟩;unfold closureFor;simp only[bind_pure];exact e
noncomputable abbrev tests(ifs:List Expr)(env:PySem.Env):Sem Bool:=forIn ifs true fun c r=>if r=true then do let ok <- isTrue c env (eval c env); pure (ForInStep.yield ok) else pure (ForInStep.yield r)
def Emit(M:Model)(A:Around)(elt:Expr)(gens:List Comprehension)(scope:Scope)(pos:Pos)(d:Nat)(acc:Value)(env:PySem.Env)(P:Shared->Prop)(s:Shared):Prop :=
 match gens[d + 1]? with
 | none=>wpAny M A (eval elt env) (fun x s4=>wpAny M A (call (.builtin "list.append") [acc,x]) (fun _ s5=>P s5) (fun _ _=>False) s4) (fun _ _=>False) s
 | some g'=>g'.is_async=0/\(∀ x,foldedSetIterable g'.iter env x=pure x)/\wpAny M A (eval g'.iter env) (fun x s4=>wpAny M A (pyIter x) (fun it' s5 =>
   codeAny M A (.compStart (.ListComp elt gens scope pos) (d + 1) it' acc env) (fun r s6=>match r with | .ok _=>P s6 | .error _=>False) s5) (fun _ _=>False) s4) (fun _ _=>False) s
section
variable{prog:Program}{w:World}{A:Around}{s:Shared}{R:Result->Shared->Prop}
theorem comp_loop{elt target iter:Expr}{gens:List Comprehension}{ifs:List Expr}{scope:Scope}{pos:Pos}{d:Nat}{it acc:Value}{env:PySem.Env}(hg:gens[d]?=some ⟨target,iter,ifs,0⟩)(hm:A.mark none=A)(I:Nat->Shared->Prop)
  (turn:∀ n s,I n s->wpAny (model prog w) A (pyNext it) (fun r s₁=>match r with
   | none=>R (.ok .next) s₁
   | some v=>wpAny (model prog w) A (letOwnedTupleGo target it v) (fun _ s₁'=>wpAny (model prog w) A (assign target env v) (fun _ s₂ =>
     wpAny (model prog w) A (tests ifs env) (fun ok s₃=>if ok=true then Emit (model prog w) A elt gens scope pos d acc env (fun s₅=>∃ m,m < n/\I m s₅) s₃ else ∃ m,m < n/\I m s₃) (fun _ _=>False) s₂) (fun _ _=>False) s₁') (fun _ _=>False) s₁) (fun _ _=>False) s)
  (n:Nat) (h:I n s):codeAny (model prog w) A (.compLoop (.ListComp elt gens scope pos) d it acc env) R s:=by
 refine codeAny_loop rfl I (fun n s hI=>?_) n h
 show wpAny _ A ((compTurn (.ListComp elt gens scope pos) d it acc env).onRaise (fun x=>do noteFrame x env; theTreesLotGoes x)) _ _ s
 refine wpAny_noted (wpAny_mono (E:=fun _ _=>False) ?_ (fun _ _ z=>z) fun _ _ z=>z.elim)
 unfold compTurn;simp only[hg,show((0:Nat) != 0)=false from rfl,Bool.false_eq_true,if_false];refine wpAny_bind (wpAny_standAt (wpAny_bind (wpAny_mono (turn n s hI) (fun r s₁ h₁=>?_) fun _ _ z=>z)))
 cases r with
 | none=>exact wpAny_pure h₁
 | some v =>
  refine wpAny_bind (wpAny_mono h₁ (fun _ s₁' h₁'=>wpAny_bind (wpAny_mono h₁' (fun _ s₂ h₂=>wpAny_bind (wpAny_mono h₂ (fun ok s₃ h₃=>?_) fun _ _ z=>z)) fun _ _ z=>z)) fun _ _ z=>z)
  cases ok with
  | false =>
   rw[if_neg Bool.false_ne_true] at h₃;simp only[Bool.false_eq_true,if_false];exact wpAny_pure ⟨rfl,h₃⟩
  | true =>
   rw[if_pos rfl] at h₃;simp only[if_true];unfold Emit at h₃;cases hq:gens[d + 1]? with
   | none =>
    rw[hq] at h₃;simp only[bind_assoc,pure_bind];exact wpAny_bind (wpAny_mono h₃ (fun x s₄ h₄=>wpAny_bind (wpAny_mono h₄ (fun _ s₅ h₅=>wpAny_pure ⟨rfl,h₅⟩) fun _ _ z=>z)) fun _ _ z=>z)
   | some g' =>
    rw[hq] at h₃;obtain⟨ha,hf,h₃⟩:=h₃;simp only[ha,show((0:Nat) != 0)=false from rfl,Bool.false_eq_true,if_false];refine wpAny_bind (wpAny_mono h₃ (fun x s₄ h₄=>wpAny_bind (wpAny_standAt (wpAny_bind (wpAny_of_eq (hf x) (wpAny_bind (wpAny_holding (wpAny_mono h₄ (fun it' s₅ h₅=>?_) fun _ _ z=>z))))))) fun _ _ z=>z)
    refine wpAny_bind (wpAny_runOwn ?_);rw[hm];refine codeAny_mono h₅ fun r s₆ h₆=>?_
    cases r with
    | ok f=>exact wpAny_pure ⟨rfl,h₆⟩
    | error e=>exact h₆.elim
theorem comp_start{elt:Expr}{gens:List Comprehension}{scope:Scope}{pos:Pos}{d:Nat}{it acc:Value}{env:PySem.Env}{target iter:Expr}{ifs:List Expr}(hg:gens[d]?=some ⟨target,iter,ifs,0⟩)
  (h0:codeAny (model prog w) A (.compLoop (.ListComp elt gens scope pos) d it acc env) R s)
  (h:wpAny (model prog w) A (pyIter it) (fun it' s'=>codeAny (model prog w) A (.compLoop (.ListComp elt gens scope pos) d it' acc env) R s') (fun _ _=>False) s) :
  codeAny (model prog w) A (.compStart (.ListComp elt gens scope pos) d it acc env) R s:=by
 refine codeAny_of_tree ?_;show wpAny _ _ ((compStart (.ListComp elt gens scope pos) d it acc env).onRaise (fun x=>do noteFrame x env; standAt theWindowsPlace)) _ _ s
 refine wpAny_notedAt ?_;unfold compStart;have hcl:clausesOf (.ListComp elt gens scope pos)=gens:=rfl;simp only[hcl,hg,Option.elim,show((0:Nat) != 0)=false from rfl,Bool.false_eq_true,if_false];refine wpAny_bind (wpAny_askSetting (wpAny_ite ?_));split
 ·first
   | exact wpAny_bind (wpAny_pure (wpAny_pure (And.intro rfl h0)))
   | exact wpAny_pure (And.intro rfl h0)
 ·refine wpAny_bind (wpAny_rule ?_)
  refine wpAny_bind (wpAny_standAt (wpAny_bind (wpAny_mono h (fun it' s' h'=>wpAny_pure (And.intro rfl h')) fun _ _ x=>x.elim)))
end
end Z
end
section
namespace Z
open PySem PySem.Spec PyProof.Rows L2
section
variable{X:Cx}{pins:List (Addr×Obj)}{σ:L2.St}{H:Hp}{s:Shared}{ρ:List Addr}{S S':Sto}{env:En}{Q:Value->Shared->Prop}{E:Value->Shared->Prop}
def DTs(X:Cx)(ifs:List Expr)(f:En->Sto->R Bool):Prop :=
 ∀ (pins:List (Addr×Obj)) (s:Shared) (σ:L2.St) (H:Hp) (ρ:List Addr) (S:Sto) (env:En) (b:Bool) (S':Sto) (Q:Bool->Shared->Prop) (E:Value->Shared->Prop),S0 X pins σ H s ρ S env->f env S=.ok b S' ->
  (∀ s' H' ρ',S0 X pins σ H' s' ρ' S' env->Stp X.K ρ ρ' H H'->Q b s')->wpAny (model X.prog X.w) X.A (tests ifs X.env) Q E s
theorem tests_false{M:Model}{A:Around}{env:PySem.Env}{s:Shared}{Q:Bool->Shared->Prop}{E:Value->Shared->Prop}(h:Q false s):∀ ifs:List Expr,
  wpAny M A (forIn ifs false fun c r=>if r=true then do let ok <- isTrue c env (eval c env); pure (ForInStep.yield ok) else pure (ForInStep.yield r)) Q E s
 | []=>wpAny_pure h
 | c :: r=>by
  rw[List.forIn_cons];simp only[Bool.false_eq_true,if_false];exact wpAny_bind (wpAny_pure (tests_false h r))
theorem dts_nil:DTs X [] (fun _ S=>.ok true S):=by
 intro pins s σ H ρ S env b S' Q E I h hQ;cases h;exact wpAny_pure (hQ s H ρ I .refl)
theorem dts_cons{c:Expr}{cs:List Expr}{fc:En->Sto->R D}{g:En->Sto->R Bool}(hc:DT X c (fun env S=>tst (fc env S)))(hr:DTs X cs g) :
  DTs X (c :: cs) (fun env S=>(fc env S).bind fun x S=>match truD S x with | some true=>g env S | some false=>.ok false S | none=>.bad):=by
 intro pins s σ H ρ S env b S' Q E I h hQ;dsimp only at h;cases q:fc env S with
 | bad=>rw[q] at h; cases h
 | ex n S1=>rw[q] at h; cases h
 | ok x S1 =>
  rw[q] at h;simp only[Rk0] at h;unfold tests;rw[List.forIn_cons];simp only[if_true];cases t:truD S1 x with
  | none=>rw[t] at h; cases h
  | some r =>
   rw[t] at h;refine wpAny_bind (wpAny_bind (hc.ok I (by simp only[q]; exact tst_ok t) fun s2 H2 ρ2 I2 st2=>wpAny_pure ?_))
   cases r with
   | true=>exact hr pins s2 σ H2 ρ2 S1 env b S' Q E I2 h fun s3 H3 ρ3 I3 st3=>hQ s3 H3 ρ3 I3 (st2.trans st3)
   | false=>cases h; exact tests_false (hQ s2 H2 ρ2 I2 st2) cs
theorem Mon.trans{K:PySem.W.Frag}{ρ' ρ'':List Addr}{H' H'':Hp}(x:Mon K ρ ρ' H H')(y:Mon K ρ' ρ'' H' H''):Mon K ρ ρ'' H H'' :=
 ⟨fun n a h=>y.pre n a (x.pre n a h),fun a xs h=>y.tup a xs (x.tup a xs h),fun a xs h=>y.fro a xs (x.fro a xs h)⟩
theorem setTg_other{t:Tg}{d:D}{env env':En}(h:setTg t d env=some env'){i:Nat}(hi:i ∉ slots t):env'[i]?=env[i]?:=by
 cases t with
 | var j =>
  simp only[setTg,Option.some.injEq] at h;subst h;have:j≠i:=fun z=>hi (by simp[slots,z])
  rw[List.getElem?_set_ne this]
 | tup is =>
  cases d with
  | tup ds =>
   simp only[setTg] at h;split at h
   ·cases h
    have go:∀ (is:List Nat) (ds:List D) (env:En),i ∉ is->((is.zip ds).foldl (fun e p=>e.set p.1 (some p.2)) env)[i]?=env[i]?:=by
     intro is
     induction is with
     | nil=>intro ds env _; simp
     | cons j js ih =>
      intro ds env hn;cases ds with
      | nil=>simp
      | cons d ds =>
       simp only[List.zip_cons_cons,List.foldl_cons];rw[ih ds _ (fun z=>hn (List.mem_cons_of_mem _ z)),List.getElem?_set_ne (fun z=>hn (by simp[z]))]
    exact go is ds env hi
   ·cases h
  | _=>cases h
def BodyP(Y:Cx)(Da:Addr)(elt:Expr)(gens:List Comprehension)(scope:Scope)(cpos:Pos)(d:Nat)(body:En->List D->Sto->R (List D)):Prop :=
 ∀ (pins:List (Addr×Obj)) (s:Shared) (σ:L2.St) (H:Hp) (ρ:List Addr) (S S':Sto) (env:En) (acc acc':List D) (vs:List V) (H0:Hp) (ρ0:List Addr) (P:Shared->Prop),S0 Y pins σ H s ρ S env->Da ∉ ρ->H Da=some (.lst vs)->RDs Y.K ρ H acc vs->H0 Da=none->Stp Y.K ρ0 ρ H0 H ->
  body env acc S=.ok acc' S'->(∀ s' σ' H' ρ' vs',S0 Y pins σ' H' s' ρ' S' env->Da ∉ ρ'->H' Da=some (.lst vs')->RDs Y.K ρ' H' acc' vs'->Stp Y.K ρ0 ρ' H0 H'->Mon Y.K ρ ρ' H H'->P s') ->
  Emit (model Y.prog Y.w) Y.A elt gens scope cpos d (.ref Da) Y.env P s
theorem Stp.out{K:PySem.W.Frag}{ρ':List Addr}{H':Hp}{Da:Addr}{o:HO}(st:Stp K ρ ρ' H H')(hD:H Da=some o)(hn:Da ∉ ρ):Da ∉ ρ'/\H' Da=some o :=
 ⟨fun hm=>(st.new Da hm).elim hn (fun z=>by rw[hD] at z; cases z),st.keep Da o hD hn⟩
theorem cl_run{Y:Cx}{Da it:Addr}{elt tg iter:Expr}{gens:List Comprehension}{ifs:List Expr}{scope:Scope}{cpos:Pos}{d:Nat}{t:Tg}{src:Src}{J:L2.It}{fp:List Addr}{tn:Nat->Heap->Prop}{tf:En->Sto->R Bool}{body:En->List D->Sto->R (List D)}
  {pins:List (Addr×Obj)} {σ:L2.St} {H H0:Hp} {s:Shared} {ρ ρ0:List Addr} {S Sf:Sto} {env:En} {acc accf:List D} {vs:List V} {P:Shared->Prop} (hc:Y.calm=true) (hg:gens[d]?=some ⟨tg,iter,ifs,0⟩)
  (T:Turn Y.prog Y.w Y.K tg J fp it tn) (hG:DG Y tg t) (hT:DTs Y ifs tf) (hB:BodyP Y Da elt gens scope cpos d body) (h0:H0 Da=none)
  (I:S0 Y pins σ H s ρ S env) (t0:tn 0 s.heap) (f0:∀ b∈fp,FpOk Y pins H b) (sr:SrcR Y.K ρ H src J) (hn:Da ∉ ρ) (hD:H Da=some (.lst vs)) (ra:RDs Y.K ρ H acc vs) (st0:Stp Y.K ρ0 ρ H0 H)
  (hr:cloop src.get t (TestP tf body) (src.most S + 1) 0 env acc S=.ok accf Sf)
  (hP:∀ s' σ' H' ρ' vs' env',S0 Y pins σ' H' s' ρ' Sf env'->(∀ i,i ∉ slots t->env'[i]?=env[i]?)->Da ∉ ρ'->H' Da=some (.lst vs')->RDs Y.K ρ' H' accf vs'->Stp Y.K ρ0 ρ' H0 H'->Mon Y.K ρ ρ' H H'->P s') :
  codeAny (model Y.prog Y.w) Y.A (.compStart (.ListComp elt gens scope cpos) d (.ref it) (.ref Da) Y.env) (fun r s'=>match r with | .ok _=>P s' | .error _=>False) s:=by
 have loop:codeAny (model Y.prog Y.w) Y.A (.compLoop (.ListComp elt gens scope cpos) d (.ref it) (.ref Da) Y.env) (fun r s'=>match r with | .ok _=>P s' | .error _=>False) s:=by
  have stat:∀ {H':Hp},(∀ b∈fp,H' b=none)->∀ b∈fp,FpOk Y pins H' b:=fun hn b hb=>⟨hn b hb,(f0 b hb).2⟩
  refine comp_loop hg rfl (fun n s'=>∃ i σ' H' ρ' S' env' acc' vs',S0 Y pins σ' H' s' ρ' S' env'/\tn i s'.heap/\(∀ b∈fp,H' b=none)/\SrcR Y.K ρ' H' src J/\Mon Y.K ρ ρ' H H'/\Stp Y.K ρ0 ρ' H0 H'/\Da ∉ ρ'/\H' Da=some (.lst vs')/\RDs Y.K ρ' H' acc' vs' /\
   (∀ i,i ∉ slots t->env'[i]?=env[i]?)/\cloop src.get t (TestP tf body) n i env' acc' S'=.ok accf Sf) ?_ (src.most S + 1) ⟨0,σ,H,ρ,S,env,acc,vs,I,t0,fun b hb=>(f0 b hb).1,sr,Stp.refl.toMon,st0,hn,hD,ra,fun _ _=>rfl,hr⟩
  rintro n s3 ⟨i,σ3,H3,ρ3,S3,env3,acc3,vs3,I3,t3,fr3,sr3,mo3,st3,hn3,hD3,ra3,hs3,eq3⟩
  cases n with
  | zero=>cases eq3
  | succ n =>
   simp only[cloop] at eq3;cases g1:src.get S3 i with
   | none=>rw[g1] at eq3; cases eq3
   | some o =>
    rw[g1] at eq3;cases o with
    | none =>
     cases eq3;refine thn (T.done Y rfl rfl rfl hc i pins s3 σ3 H3 _ I3.inv (stat fr3) t3 (sr3.stop I3 g1)) fun r s4 ⟨hr,I4⟩=>?_
     subst hr;exact hP s4 σ3 H3 ρ3 vs3 env3 ⟨I4,I3.sr,I3.er⟩ hs3 hn3 hD3 ra3 st3 mo3
    | some dd =>
     dsimp only at eq3;obtain⟨go,yl⟩:=sr3.go I3 g1;refine thn (T.item Y rfl rfl rfl hc i pins s3 σ3 H3 _ I3.inv (stat fr3) t3 go) fun r s4 ⟨u,hr,h4⟩=>?_
     subst hr;refine thn h4 fun _ s5 ⟨x,H5,I5,r5,y5,t5,fr5⟩=>?_
     obtain⟨sr5,st5,rd5⟩:=yl x H5 y5;have I5':=I5.pinned (stat fr5) (T.obj _ _ t5);cases e6:setTg t dd env3 with
     | none=>rw[e6] at eq3; cases eq3
     | some env6 =>
      rw[e6] at eq3;dsimp only at eq3;refine hG (pins++pinsAt fp s5.heap) s5 σ3 H5 ρ3 S3 env3 dd x u env6 _ _ ⟨I5',sr5,I3.er.mono st5⟩ e6 rd5 r5 fun s6 σ6 I6=>?_
      obtain⟨_,hD6⟩:=st5.out hD3 hn3;have ra6:=ra3.mono st5;cases e7:TestP tf body env6 acc3 S3 with
      | bad=>rw[e7] at eq3; cases eq3
      | ex m S7=>rw[e7] at eq3; cases eq3
      | ok acc7 S7 =>
       rw[e7] at eq3;dsimp only at eq3;have hs6:∀ i,i ∉ slots t->env6[i]?=env[i]?:=fun i hi=>(setTg_other e6 hi).trans (hs3 i hi)
       have again:∀ {s7:Shared} {σ7:L2.St} {H7:Hp} {ρ7:List Addr} {vs7:List V},S0 Y (pins++pinsAt fp s5.heap) σ7 H7 s7 ρ7 S7 env6->SrcR Y.K ρ7 H7 src J->Mon Y.K ρ ρ7 H H7->Stp Y.K ρ0 ρ7 H0 H7->Da ∉ ρ7->H7 Da=some (.lst vs7)->RDs Y.K ρ7 H7 acc7 vs7 ->
         ∃ m,m < n + 1/\∃ i σ' H' ρ' S' env' acc' vs',S0 Y pins σ' H' s7 ρ' S' env'/\tn i s7.heap/\(∀ b∈fp,H' b=none)/\SrcR Y.K ρ' H' src J/\Mon Y.K ρ ρ' H H'/\Stp Y.K ρ0 ρ' H0 H'/\Da ∉ ρ'/\H' Da=some (.lst vs')/\RDs Y.K ρ' H' acc' vs' /\
          (∀ i,i ∉ slots t->env'[i]?=env[i]?)/\cloop src.get t (TestP tf body) m i env' acc' S'=.ok accf Sf:=fun {s7 σ7 H7 ρ7 vs7} I7 sr7 mo7 st7 hn7 hD7 ra7=>by
        refine⟨n,Nat.lt_succ_self _,i + 1,σ7,H7,ρ7,S7,env6,acc7,vs7,I7.rep I7.inv.unpinned,T.keep _ _ _ t5 fun b hb o e=>(I7.inv.pin (b,o) (List.mem_append_right _ (List.mem_append_right _ (mem_pinsAt hb e)))).1,fun b hb=>?_,sr7,mo7,st7,hn7,hD7,ra7,hs6,eq3⟩
        obtain⟨o,e,_⟩:=T.obj _ _ t5 b hb;exact(I7.inv.pin (b,o) (List.mem_append_right _ (List.mem_append_right _ (mem_pinsAt hb e)))).2.1
       unfold TestP at e7;cases e8:tf env6 S3 with
       | bad=>rw[e8] at e7; cases e7
       | ex m S8=>rw[e8] at e7; cases e7
       | ok b8 S8 =>
        rw[e8] at e7;simp only[Rk0] at e7;refine hT (pins++pinsAt fp s5.heap) s6 σ6 H5 ρ3 S3 env6 b8 S8 _ _ I6 e8 fun s8 H8 ρ8 I8 st8=>?_
        obtain⟨hn8,hD8⟩:=st8.out hD6 hn3;have ra8:=ra6.mono st8;have st08:=st3.trans (st5.trans st8);have sr8:SrcR Y.K ρ8 H8 src J:=sr3.mono (st5.trans st8);cases b8 with
        | false =>
         rw[if_neg Bool.false_ne_true] at e7 ⊢;cases e7;exact again I8 sr8 (mo3.trans (st5.trans st8).toMon) st08 hn8 hD8 ra8
        | true =>
         rw[if_pos rfl] at e7 ⊢;exact hB (pins++pinsAt fp s5.heap) s8 σ6 H8 ρ8 S8 S7 env6 acc3 acc7 vs3 H0 ρ0 _ I8 hn8 hD8 ra8 h0 st08 e7 fun s9 σ9 H9 ρ9 vs9 I9 hn9 hD9 ra9 st9 mo9=>again I9 (sr8.mono' mo9) ((mo3.trans (st5.trans st8).toMon).trans mo9) st9 hn9 hD9 ra9
 exact comp_start hg loop (T.self Y.A 0 s _ _ t0 loop)
theorem body_last{Y:Cx}{Da:Addr}{elt:Expr}{gens:List Comprehension}{scope:Scope}{cpos:Pos}{d:Nat}{fe:En->Sto->R D}(hg:gens[d + 1]?=none)(he:DE Y elt fe) :
  BodyP Y Da elt gens scope cpos d (fun env acc S=>(fe env S).bind fun y S=>if acc.length < big then .ok (acc++[y]) S else .bad):=by
 intro pins s σ H ρ S S' env acc acc' vs H0 ρ0 P I hn hD ra h0 st0 hb hP;unfold Emit;rw[hg];dsimp only at hb ⊢;cases q:fe env S with
 | bad=>rw[q] at hb; cases hb
 | ex n S1=>rw[q] at hb; cases hb
 | ok y S1 =>
  rw[q] at hb;simp only[Rk0] at hb;split at hb
  ·rename_i hz
   cases hb;refine he.ok I q fun u s1 v H1 ρ1 I1 rv rd st1=>?_
   obtain⟨hn1,hD1⟩:=st1.out hD hn;have hlen:vs.length < sizeLine:=by rw[<- ra.length]; exact Nat.lt_of_lt_of_le hz big_le
   refine mtd (X:=Y) (Q':=fun z H'=>z=.non/\H'=upd H1 Da (.lst (vs++[v]))) mt_append I1.inv (show RelV (.ref Da) (.ref Da) from rfl) (.cons rv .nil) ⟨Da,vs,v,rfl,rfl,hD1,hlen,rfl,rfl⟩ fun w s2 z H2 J rz ⟨e1,e2⟩=>?_
   subst e1 e2;have mo:Mon Y.K ρ1 ρ1 H1 (upd H1 Da (.lst (vs++[v]))):=Mon.own hD1;refine hP s2 σ _ ρ1 (vs++[v]) ⟨J,I1.sr.own hD1 hn1,I1.er.mono' mo⟩ hn1 upd_same ((RDs.mono' mo _ _ (ra.mono st1)).append (.cons (RD.mono' mo _ _ rd) .nil)) ((st0.trans st1).own h0 hD1) ⟨fun n a h=>st1.pre n a h,fun a xs h=>mo.tup a xs (st1.tup a xs h),fun a xs h=>mo.fro a xs (st1.fro a xs h)⟩
  ·cases hb
theorem body_next{Y:Cx}{Da:Addr}{elt tg2 iter2:Expr}{ifs2:List Expr}{gens:List Comprehension}{scope:Scope}{cpos:Pos}{d:Nat}{t2:Tg}{fi:En->Sto->R Src}{tf:En->Sto->R Bool}{body:En->List D->Sto->R (List D)}(hc:Y.calm=true)
  (hg:gens[d + 1]?=some ⟨tg2,iter2,ifs2,0⟩) (hi:DI Y tg2 iter2 fi) (hs:∀ x,foldedSetIterable iter2 Y.env x=pure x) (hG:DG Y tg2 t2) (hT:DTs Y ifs2 tf) (hB:BodyP Y Da elt gens scope cpos (d + 1) body) :
  BodyP Y Da elt gens scope cpos d (fun env acc S=>if noneAt t2 env then (fi env S).bind fun src S=>cloop src.get t2 (TestP tf body) (src.most S + 1) 0 env acc S else .bad):=by
 intro pins s σ H ρ S S' env acc acc' vs H0 ρ0 P I hn hD ra h0 st0 hb hP;unfold Emit;rw[hg];dsimp only at hb ⊢;split at hb
 ·rename_i hno
  refine⟨rfl,hs,?_⟩;cases q:fi env S with
  | bad=>rw[q] at hb; cases hb
  | ex n S1=>rw[q] at hb; cases hb
  | ok src S1 =>
   rw[q] at hb;simp only[Rk0] at hb;refine wpAny_mono (hi pins s σ H ρ S env (fun _ _=>False) I (by rw[q]; exact fun z=>nomatch z) fun x s' z=>?_) (fun v s1 h1=>wpAny_mono h1 (fun itv s2 h2=>?_) fun _ _ z=>z) fun _ _ z=>z
   ·rw[q] at z; obtain⟨m,S2,e,z⟩:=z; cases e
   ·obtain⟨src',S2,it,fp,tn,J,H2,ρ2,e1,rfl,I2,T,t0,f2,sr2,srr,st2⟩:=h2
    rw[q] at e1; cases e1;obtain⟨hn2,hD2⟩:=st2.out hD hn;refine cl_run (ρ0:=ρ0) (H0:=H0) hc hg T hG hT hB h0 (I.step I2 srr st2) t0 f2 sr2 hn2 hD2 (ra.mono st2) (st0.trans st2) hb fun s' σ' H' ρ' vs' env' I' hs' hn' hD' ra' st' mo'=>?_
    refine hP s' σ' H' ρ' vs' ⟨I'.inv,I'.sr,⟨?_,fun i d e=>?_⟩⟩ hn' hD' ra' st' (st2.toMon.trans mo')
    ·have h1:=I.er.len
     have h2:=I.inv.len;have h3:=I'.inv.len;omega
    ·by_cases hi:i∈slots t2
     ·have z:=List.all_eq_true.mp hno i hi
      rw[e] at z;cases z
     ·exact I'.er.val i d ((hs' i hi).trans e)
 ·cases hb
end
end Z
end
section
namespace Z
open PySem PySem.Spec PyProof.Rows L2
noncomputable def hid(own:List Str)(y:Str):Str:=if own.contains y then Str.ofString "0" ++ y else y
noncomputable def blkN(N own:List Str):List Str:=N.map (hid own)++own
structure ScOk(outer sc:Scope)(N own:List Str):Prop where
 kind:sc.kind=.function
 okind:outer.kind=.function
 nd:(blkN N own).Nodup
 nocell:∀ y∈sc.names,y.2≠.cell
 free:∀ y∈sc.names,y.2=.free->outer.names.lookup y.1=some .cell\/outer.names.lookup y.1=some .free
 loc:∀ y,sc.names.lookup y=some .local->y∈own
 ownl:∀ y∈own,sc.names.lookup y=some .local
 names:∀ x∈sc.names,x.2=.local->sc.names.lookup x.1=some .local
 hidn:∀ y∈N,own.contains y=true->sc.names.lookup (Str.ofString "0" ++ y)=none
section
variable{X:Cx}{pins:List (Addr×Obj)}{σ:L2.St}{H:Hp}{s:Shared}{ρ:List Addr}{S S':Sto}{env:En}{Q:Value->Shared->Prop}{E:Value->Shared->Prop}
noncomputable def blk(X:Cx)(pins:List (Addr×Obj))(s:Shared)(H:Hp)(sc:Scope)(cl:List (Str×Addr))(C:Addr)(own:List Str)(fp:List Addr):Cx :=
 { X with N:=blkN X.N own,s₀:=s,H₀:=H,env:=compEnvC sc cl C X.env,outer:=X.stack,stack:=X.stack,ex:=fp,fn:=fun _=>false,pn:=X.pn++pins }
theorem lookup_mem{names:List (Str×NameKind)}{x:Str}{k:NameKind}(h:names.lookup x=some k):(x,k)∈names:=PySem.mem_of_lookup h
theorem relabel_lookup(sc:Scope)(env:PySem.Env)(x:Str):(relabel sc env).names.lookup x=(sc.names.lookup x).map fun k=>if (k == .free && env.scope.kind == .function && env.kindOf x == some .cell)=true then .cell else k:=by
 unfold relabel;dsimp only
 induction sc.names with
 | nil=>rfl
 | cons y r ih =>
  obtain⟨n,k⟩:=y;show List.lookup x ((if (k == NameKind.free && env.scope.kind == .function && env.kindOf n == some .cell)=true then (n,NameKind.cell) else (n,k)) :: _)=_
  by_cases hx:x == n
  ·have e:=eq_of_beq hx
   subst e
   by_cases hc:(k == NameKind.free && env.scope.kind == .function && env.kindOf x == some .cell)=true
   ·rw[if_pos hc,List.lookup_cons,beq_self_eq_true,List.lookup_cons,beq_self_eq_true]; exact congrArg some (if_pos hc).symm
   ·rw[if_neg hc,List.lookup_cons,beq_self_eq_true,List.lookup_cons,beq_self_eq_true]; exact congrArg some (if_neg hc).symm
  ·have hx':(x == n)=false:=by simpa using hx
   by_cases hc:(k == NameKind.free && env.scope.kind == .function && env.kindOf n == some .cell)=true
   ·rw[if_pos hc,List.lookup_cons,hx',List.lookup_cons,hx']; exact ih
   ·rw[if_neg hc,List.lookup_cons,hx',List.lookup_cons,hx']; exact ih
theorem blk_ok{sc:Scope}{own:List Str}{cl:List (Str×Addr)}{fp:List Addr}{Da C:Addr}{s4:Shared}{m:Str->Option Value}(so:ScOk X.env.scope sc X.N own)(I:Inv X pins σ H s)(hf:∀ b∈fp,FpOk X pins H b)
  (hcl:∀ x c,cl.lookup x=some c->X.env.cells.lookup x=some c) (hclf:∀ x∈sc.names,x.2=.free->∃ c,cl.lookup x.1=some c)
  (hDa:Da=s.heap.objs.size) (hC:C=s.heap.objs.size + 1) (hos:s4.os=s.os) (hgens:s4.gens=s.gens) (keep:∀ b o,s.heap.get? b=some o->s4.heap.get? b=some o)
  (hns:s4.heap.Ns C m) (hacc:∃ n,s4.heap.get? Da=some { cls:=.type "list",data:=.seq #[] n }) (hfp:∀ b∈fp,b < s.heap.objs.size) :
  Inv (blk X pins s H sc cl C own fp) [] (σ++List.replicate own.length none) (upd H Da (.lst [])) s4:=by
 have hD:H Da=none:=by rw[hDa]; exact I.hok.fresh (Nat.le_refl _)
 have hCn:H C=none:=by rw[hC]; exact I.hok.fresh (Nat.le_succ _)
 have hCD:C≠Da:=by rw[hC,hDa]; exact Nat.ne_of_gt (Nat.lt_succ_self _)
 have lt_ne:∀ b,b < s.heap.objs.size->b≠C/\b≠Da:=fun b hb=>⟨by rw[hC]; exact Nat.ne_of_lt (Nat.lt_succ_of_lt hb),by rw[hDa]; exact Nat.ne_of_lt hb⟩
 have cell_lt:∀ x c,X.env.cells.lookup x=some c->c < s.heap.objs.size:=fun x c e=>by obtain⟨v,q⟩:=I.cell x c e; exact q.lt
 refine⟨⟨I.ok.mod,so.kind,I.ok.glob,I.ok.blt,?_,?_,?_,?_,I.ok.hd,I.ok.frames,.inl rfl,?_,I.bs,?_,?_,?_,I.stack,I.stkFree⟩,hos,?_,?_,?_,?_,?_,?_,?_,?_,?_⟩
 ·show s.heap.objs.size<=C; rw[hC]; exact Nat.le_succ _
 ·exact fun x y c h1 h2=>I.ok.inj x y c (hcl x c h1) (hcl y c h2)
 ·intro x hx
  have hx':(relabel sc X.env).names.lookup x=some .cell\/(relabel sc X.env).names.lookup x=some .free:=hx;rw[relabel_lookup] at hx';cases e:sc.names.lookup x with
  | none=>rw[e] at hx'; simp at hx'
  | some k =>
   rw[e] at hx';have hk:k=.free:=by
    rcases hx' with h | h
    ·simp only[Option.map_some,Option.some.injEq] at h
     split at h
     ·rename_i hc
      simp only[bA0,beq_iff_eq] at hc;exact hc.1.1
     ·exact absurd h (so.nocell _ (lookup_mem e))
    ·simp only[Option.map_some,Option.some.injEq] at h
     split at h
     ·cases h
     ·exact h
   subst hk;exact hclf (x,.free) (lookup_mem e) rfl
 ·intro x c h; exact absurd h Bool.false_ne_true
 ·intro b hb
  refine⟨(lt_ne b (hfp b hb)).1,fun x c h=>(hf b hb).2.2.2.2.1 x c (hcl x c h)⟩
 ·exact Nat.le_trans I.ok.bsz I.sz
 ·intro b o e hb
  rcases (hf b hb).2.2.2.1 with z | z
  ·exact I.ok.noex b o e z
  ·exact absurd (Nat.lt_of_lt_of_le (Heap.lt_size e) (Nat.le_trans I.ok.bsz z)) (Nat.lt_irrefl _)
 ·intro b hb hm
  rcases List.mem_cons.mp (I.stkSub b hm) with z | z
  ·exact(hf b hb).2.1 z
  ·exact(hf b hb).2.2.1 z
 ·rw[hgens]; exact I.bare
 ·refine⟨fun b o e _ _ _=>keep b o e,fun b o e _ _ _=>⟨o.slots,keep b o e⟩,fun b o e n _=>?_,fun b o e _=>⟨o,keep b o e⟩,fun b xs e=>?_,fun b o u e=>?_,fun b ps e=>⟨#[],?_⟩⟩
  ·show upd H Da _ b=none
   rw[upd_ne (lt_ne b (Heap.lt_size e)).2]; exact n
  ·rw[upd_ne (ne_of_none e hD)]; exact e
  ·rw[upd_ne (ne_of_none e hD)]; exact e
  ·rw[upd_ne (ne_of_none e hD),show H b=some (.tbl ps) from e]; simp
 ·refine⟨m,hns,fun i x v h1 h2 h3=>?_⟩
  have hi:i < X.N.length:=by
   by_cases hi:i < σ.length
   ·rw[I.len] at hi; exact hi
   ·rw[List.getElem?_append_right (by omega),List.getElem?_replicate] at h2
    split at h2 <;> cases h2
  have h1':(blkN X.N own)[i]?=some x:=h1;unfold blkN at h1';rw[List.getElem?_append_left (by simpa using hi),List.getElem?_map] at h1'
  rw[List.getElem?_append_left (by rw[I.len]; exact hi)] at h2
  cases ey:X.N[i]? with
  | none=>rw[ey] at h1'; cases h1'
  | some y =>
   rw[ey] at h1';simp only[Option.map_some,Option.some.injEq] at h1';have h3':Vis (relabel sc X.env) x:=h3;have nloc:∀ z,sc.names.lookup z=some .local->z∈own:=so.loc;have hxo:x ∉ own:=fun hm=>by
    have nd:=so.nd;unfold blkN at nd;rw[List.nodup_append] at nd;exact nd.2.2 x (List.mem_map.mpr ⟨y,List.mem_of_getElem? ey,h1'⟩) x hm rfl
   have hfree:sc.names.lookup x=some .free:=by
    have:(relabel sc X.env).names.lookup x=some .local\/(relabel sc X.env).names.lookup x=some .cell\/(relabel sc X.env).names.lookup x=some .free:=h3';rw[relabel_lookup] at this;cases e:sc.names.lookup x with
    | none=>rw[e] at this; simp at this
    | some k =>
     cases k with
     | free=>rfl
     | «local»=>exact absurd (nloc x e) hxo
     | cell=>exact absurd rfl (so.nocell _ (lookup_mem e))
     | _=>rw[e] at this; simp at this
   have hxy:x=y:=by
    unfold hid at h1';split at h1'
    ·rename_i hc
     have z:=so.hidn y (List.mem_of_getElem? ey) hc;rw[h1',hfree] at z;cases z
    ·exact h1'.symm
   subst hxy;obtain⟨c,hc⟩:=hclf (x,.free) (lookup_mem hfree) rfl;have hcX:=hcl x c hc;have kx:=so.free (x,.free) (lookup_mem hfree) rfl;obtain⟨m0,hn0,hl⟩:=I.loc;obtain⟨u,ru,lk⟩:=hl i x v ey h2 (kx.elim (fun z=>.inr (.inl z)) fun z=>.inr (.inr z))
   refine⟨u,ru,.inr ⟨?_,c,hc,?_⟩⟩
   ·show(relabel sc X.env).names.lookup x=some .cell\/(relabel sc X.env).names.lookup x=some .free
    rw[relabel_lookup,hfree];simp only[Option.map_some];split
    ·exact .inl rfl
    ·exact .inr rfl
   ·rcases lk with⟨k,_⟩ | ⟨_,c',hc',hcell⟩
    ·have k':X.env.scope.names.lookup x=some .local:=k
     rcases kx with z | z <;> (rw[k'] at z; cases z)
    ·rw[hcX] at hc'; cases hc'
     exact⟨_,keep _ _ hcell.choose_spec.1,hcell.choose_spec.2⟩
 ·intro x c h
  obtain⟨v,o,ho,hd⟩:=I.cell x c (hcl x c h);exact⟨v,o,keep _ _ ho,hd⟩
 ·show upd H Da _ C=none
  rw[upd_ne hCD]; exact hCn
 ·intro x c h
  rw[upd_ne (lt_ne c (cell_lt x c (hcl x c h))).2];exact I.freeC x c (hcl x c h)
 ·intro p hp
  rw[List.append_nil] at hp;obtain⟨e,n,ne,nf,d⟩:=I.pin p hp;refine⟨keep _ _ e,?_,(lt_ne _ (Heap.lt_size e)).1,fun hm=>?_,d⟩
  ·rw[upd_ne (lt_ne _ (Heap.lt_size e)).2]; exact n
  ·rcases List.mem_cons.mp (I.stkSub _ hm) with z | z
   ·exact ne z
   ·exact nf z
 ·intro b o e
  by_cases hb:b=Da
  ·subst hb
   rw[upd_same] at e; cases e;obtain⟨n,hn⟩:=hacc;exact⟨Nat.zero_le _,[],n,.nil,hn⟩
  ·rw[upd_ne hb] at e
   exact(I.hok b o e).stay (fun c v _ q=>keep c v q) (fun c q=>by rw[upd_ne (ne_of_none q hD)]; exact q) fun c xs q=>by rw[upd_ne (ne_of_none q hD)]; exact q
 ·show(σ++List.replicate own.length none).length=(blkN X.N own).length
  unfold blkN;simp[I.len]
theorem blk_end{sc:Scope}{own:List Str}{cl:List (Str×Addr)}{fp:List Addr}{C:Addr}{σ':L2.St}{H':Hp}{s':Shared}(I:Inv X pins σ H s)(hf:∀ b∈fp,FpOk X pins H b)(J:Inv (blk X pins s H sc cl C own fp) [] σ' H' s') :
  Inv X pins σ H' s' :=
 I.call' J.os J.base J.hok J.bare fun b hb=>⟨(hf b hb).2.2.2.1,(hf b hb).2.1,(hf b hb).2.2.2.2.1,(hf b hb).2.2.2.2.2⟩
theorem comp_core{elt:Expr}{gens:List Comprehension}{sc:Scope}{cpos:Pos}{tg iter:Expr}{ifs:List Expr}{own:List Str}{t:Tg}{n:Nat}{fi:En->Sto->R Src}{tf:En->Sto->R Bool}{body:En->List D->Sto->R (List D)}{use:Option (Value->Sem Unit)}{Sf:Sto}{src:Src}{S1:Sto}{accf:List D}
  (hc:X.calm=true) (so:ScOk X.env.scope sc X.N own) (hon:own.length=n) (hg:gens=⟨tg,iter,ifs,0⟩ :: gens.tail) (hi:DI X tg iter fi) (hs:∀ x,foldedSetIterable iter X.env x=pure x)
  (hG:∀ pins s H cl C fp,DG (blk X pins s H sc cl C own fp) tg t) (hT:∀ pins s H cl C fp,DTs (blk X pins s H sc cl C own fp) ifs tf) (hB:∀ pins s H cl C fp Da,BodyP (blk X pins s H sc cl C own fp) Da elt gens sc cpos 0 body)
  (I:S0 X pins σ H s ρ S env) (q:fi env S=.ok src S1) (hr:cloop src.get t (TestP tf body) (src.most S1 + 1) 0 (env++List.replicate n none) [] S1=.ok accf Sf)
  (hQ:∀ s' H' ρ' Da vs C m,S0 X pins σ H' s' ρ' Sf env->Stp X.K ρ ρ' H H'->Da ∉ ρ'->H Da=none->H' Da=some (.lst vs)->RDs X.K ρ' H' accf vs->s'.heap.Ns C m->(∀ x c,X.env.cells.lookup x=some c->c≠C)->C≠X.env.locals->H' C=none->(∀ s'' σ'' H'' h',Inv X pins σ'' H'' s''->H'' C=none->Heap.SameBut C s''.heap h'->Inv X pins σ'' H'' { s'' with heap:=h' }) ->
   compPost (model X.prog X.w) X.A E use Q (.ref Da) C (.ok .next) s') :
  wpAny (model X.prog X.w) X.A (comprehension (.ListComp elt gens sc cpos) sc X.env (firstIterPos gens cpos) (newList []) false (eval iter X.env) use) Q E s:=by
 have hfree:∀ x∈sc.names,x.2=.free->∃ c,X.env.cells.lookup x.1=some c:=fun x hx hf=>by
  rcases so.free x hx hf with z | z
  ·exact I.inv.ok.has x.1 (.inl z)
  ·exact I.inv.ok.has x.1 (.inr z)
 obtain⟨cl,hclos,hcl,hclf⟩:=closure_ok hfree;refine wpAny_comprehension_free (g:=⟨tg,iter,ifs,0⟩) (gs:=gens.tail) hg hs hclos so.kind so.names ?_;refine wpAny_mono (E:=fun _ _=>False) (hi pins s σ H ρ S env (fun _ _=>False) I (by rw[q]; exact fun z=>nomatch z) fun x s' z=>?_) (fun v s1 h1=>wpAny_mono h1 (fun itv s2 h2=>?_) fun _ _ z=>z.elim) fun _ _ z=>z.elim
 ·rw[q] at z; obtain⟨k,S2,e,z⟩:=z; cases e
 ·obtain⟨src',S2,it,fp,tn,J,H2,ρ2,e1,rfl,I2,T,t0,f2,sr2,srr,st2⟩:=h2
  rw[q] at e1; cases e1;have J2:=I.step I2 srr st2;refine wpAny_newObj_type (wpAny_newFunctionEnv so.nocell (by intro y hy; simp at hy) (fun h₁ hns₁ hsb₁=>?_) so.kind)
  dsimp only at hns₁ hsb₁ ⊢;generalize hH2:s2.heap.push { cls:=.type "list",dict:=none,data:=.seq ([]:List Value).toArray }=G2 at hns₁ hsb₁ ⊢;have hC:G2.objs.size=s2.heap.objs.size + 1:=by rw[<- hH2,Heap.size_push]
  have below:∀ b,b < s2.heap.objs.size->b≠G2.objs.size:=fun b hb=>by rw[hC]; exact Nat.ne_of_lt (Nat.lt_succ_of_lt hb)
  have old:∀ b o,s2.heap.get? b=some o->h₁.get? b=some o:=fun b o e=>hsb₁.extBut b o (below b (Heap.lt_size e)) (Heap.get?_push_of_some _ (hH2 ▸ Heap.get?_push_of_some _ e))
  have hacc:h₁.get? s2.heap.objs.size=some { cls:=.type "list",data:=.seq #[] 0 }:=hsb₁.extBut _ _ (by rw[hC]; exact Nat.ne_of_lt (Nat.lt_succ_self _)) (Heap.get?_push_of_some _ (hH2 ▸ Heap.get?_push_size _ rfl))
  have hfp:∀ b∈fp,b < s2.heap.objs.size:=fun b hb=>by obtain⟨o,e,_⟩:=T.obj _ _ t0 b hb; exact Heap.lt_size e
  have hD0:H2 s2.heap.objs.size=none:=I2.hok.fresh (Nat.le_refl _);have hDn:s2.heap.objs.size ∉ ρ2:=fun hm=>by obtain⟨w,hw,_⟩:=srr.mem hm; rw[hD0] at hw; cases hw
  generalize hs4:({ s2 with heap:=h₁,toks:=s2.toks + ([]:List (Str×Value)).length }:Shared)=s4
  have IY:Inv (blk X pins s2 H2 sc cl G2.objs.size own fp) [] (σ++List.replicate own.length none) (upd H2 s2.heap.objs.size (.lst [])) s4:=by
   subst hs4;exact blk_ok so I2 f2 hcl hclf rfl hC rfl rfl old hns₁ ⟨0,hacc⟩ hfp
  have stD:Stp X.K ρ2 ρ2 H2 (upd H2 s2.heap.objs.size (.lst [])):=Stp.upd hD0;have SY:S0 (blk X pins s2 H2 sc cl G2.objs.size own fp) [] (σ++List.replicate own.length none) (upd H2 s2.heap.objs.size (.lst [])) s4 ρ2 S1 (env++List.replicate n none):=by
   refine⟨IY,srr.upd hD0,⟨by simp[J2.er.len,hon],fun i d e=>?_⟩⟩
   have hi:i < env.length:=by
    by_cases hi:i < env.length
    ·exact hi
    ·rw[List.getElem?_append_right (by omega),List.getElem?_replicate] at e
     split at e <;> cases e
   rw[List.getElem?_append_left hi] at e;obtain⟨v,h1,h2⟩:=J2.er.val i d e;exact⟨v,by rw[List.getElem?_append_left (by rw[<- J2.er.len]; exact hi)]; exact h1,h2.mono stD⟩
  have t4:tn 0 s4.heap:=by
   subst hs4;exact T.keep 0 _ _ t0 fun b hb o e=>old b o e
  have fY:∀ b∈fp,FpOk (blk X pins s2 H2 sc cl G2.objs.size own fp) [] (upd H2 s2.heap.objs.size (.lst [])) b:=fun b hb=>by
   obtain⟨a1,a2,a3,a4,a5,a6⟩:=f2 b hb;refine⟨by rw[upd_ne (Nat.ne_of_lt (hfp b hb))]; exact a1,below b (hfp b hb),fun hm=>?_,.inl hb,fun x c h=>a5 x c (hcl x c h),fun p hp=>?_⟩
   ·rcases List.mem_cons.mp (I2.stkSub b hm) with z | z
    ·exact a2 z
    ·exact a3 z
   ·rw[List.append_nil] at hp; exact a6 p hp
  refine codeAny_mono (cl_run (Y:=blk X pins s2 H2 sc cl G2.objs.size own fp) (H0:=H2) (ρ0:=ρ2) (P:=compPost (model X.prog X.w) X.A E use Q (.ref s2.heap.objs.size) G2.objs.size (.ok .next)) hc (by rw[hg]; rfl) T (hG _ _ _ _ _ _) (hT _ _ _ _ _ _) (hB _ _ _ _ _ _ _) hD0 SY t4 fY (sr2.mono stD) hDn upd_same RDs.nil stD hr
   fun s' σ' H' ρ' vs' env' I' _ hn' hD' ra' st' _=>?_) fun r s' h=>?_
  ·have JX:=blk_end I2 f2 I'.inv
   have hCn:H' G2.objs.size=none:=I'.inv.free;have hCle:s2.heap.objs.size<=G2.objs.size:=by rw[hC]; exact Nat.le_succ _
   obtain⟨m',hm',_⟩:=I'.inv.loc;have fo:=I2.fpOk (H':=H') hCle hCn;have hDX:H s2.heap.objs.size=none:=by
    cases e:H s2.heap.objs.size with
    | none=>rfl
    | some o =>
     by_cases hm:s2.heap.objs.size∈ρ
     ·obtain⟨k,hk,ek⟩:=List.mem_iff_getElem.mp hm
      exact absurd (List.mem_of_getElem? (st2.pre k _ (by simp[hk,ek]))) hDn
     ·rw[st2.keep _ o e hm] at hD0; cases hD0
   refine hQ s' H' ρ' s2.heap.objs.size vs' G2.objs.size m' ⟨JX,I'.sr,I.er.mono (st2.trans st')⟩ (st2.trans st') hn' hDX hD' ra' hm' fo.2.2.2.2.1 (fun z=>fo.2.1 z) hCn fun s'' σ'' H'' h' J'' hn'' hs''=>?_
   have q'':FpOk X pins H'' G2.objs.size:=⟨hn'',fo.2⟩;exact J''.turned (t':=s''.toks) (fun b o hb e=>(hs''.2 b hb).trans e) hn'' q''.2.1 q''.2.2.2.1 q''.2.2.2.2.1 q''.2.2.2.2.2
  ·cases r with
   | ok f=>cases use <;> exact h
   | error e=>exact h.elim
end
end Z
end
section
namespace Z
open PySem PySem.Spec PyProof.Rows L2
theorem cloop_noex{get:Sto->Nat->Option (Option D)}{t:Tg}{body:En->List D->Sto->R (List D)}:∀ (k i:Nat) (env:En) (acc:List D) (S:Sto) (n:Nat) (S':Sto),cloop get t body k i env acc S≠.ex n S'
 | 0,i,env,acc,S,n,S'=>fun z=>nomatch z
 | k + 1,i,env,acc,S,n,S'=>by
  simp only[cloop];cases get S i with
  | none=>exact fun z=>nomatch z
  | some o =>
   cases o with
   | none=>exact fun z=>nomatch z
   | some d =>
    dsimp only;cases setTg t d env with
    | none=>exact fun z=>nomatch z
    | some env' =>
     dsimp only;cases body env' acc S with
     | ok a S1=>exact cloop_noex k (i + 1) env' a S1 n S'
     | ex _ _=>exact fun z=>nomatch z
     | bad=>exact fun z=>nomatch z
section
variable{X:Cx}{pins:List (Addr×Obj)}{σ:L2.St}{H:Hp}{s:Shared}{ρ:List Addr}{S S':Sto}{env:En}{Q:Value->Shared->Prop}{E:Value->Shared->Prop}
theorem SR.adopt{K:PySem.W.Frag}{Da:Addr}{vs:List V}{xs:List D}(r:SR K ρ S H)(hn:Da ∉ ρ)(hD:H Da=some (.lst vs))(rd:RDs K ρ H xs vs):SR K (ρ++[Da]) (S++[.lst xs]) H:=by
 have mo:Mon K ρ (ρ++[Da]) H H:=⟨fun n a h=>by rw[List.getElem?_append_left (List.getElem?_eq_some_iff.mp h).1]; exact h,fun _ _ h=>h,fun _ _ h=>h⟩
 refine⟨by simp[r.len],?_,fun n a ob h1 h2=>?_⟩
 ·rw[List.nodup_append]
  refine⟨r.nd,by simp,fun x hx y hy=>?_⟩
  rw[List.mem_singleton.mp hy];exact fun z=>hn (z ▸ hx)
 ·by_cases hk:n < ρ.length
  ·rw[List.getElem?_append_left hk] at h1
   rw[List.getElem?_append_left (by rw[<- r.len]; exact hk)] at h2
   exact(r.ob n a ob h1 h2).mono' mo rfl
  ·have e:n=ρ.length:=by
    have:=(List.getElem?_eq_some_iff.mp h1).1;simp at this; omega
   subst e;simp at h1;rw[r.len] at h2;simp at h2;subst h1 h2;exact⟨vs,hD,RDs.mono' mo _ _ rd⟩
theorem Stp.adopt{K:PySem.W.Frag}{Da:Addr}{ρ':List Addr}{H':Hp}(st:Stp K ρ ρ' H H')(h0:H Da=none):Stp K ρ (ρ'++[Da]) H H' where
 pre:=fun n a h=>by have z:=st.pre n a h; rw[List.getElem?_append_left (List.getElem?_eq_some_iff.mp z).1]; exact z
 tup:=st.tup
 fro:=st.fro
 new:=fun a h=>by
  rcases List.mem_append.mp h with h | h
  ·exact st.new a h
  ·rw[List.mem_singleton.mp h]; exact .inr h0
 keep:=st.keep
variable{elt:Expr}{gens:List Comprehension}{sc:Scope}{cpos:Pos}{tg iter:Expr}{ifs:List Expr}{own:List Str}{t:Tg}{n:Nat}{fi:En->Sto->R Src}{tf:En->Sto->R Bool}{body:En->List D->Sto->R (List D)}
noncomputable def cmrR(fi:En->Sto->R Src)(t:Tg)(n:Nat)(tf:En->Sto->R Bool)(body:En->List D->Sto->R (List D))(env:En)(S:Sto):R D :=
 (fi env S).bind fun src S=>(cloop src.get t (TestP tf body) (src.most S + 1) 0 (env++List.replicate n none) [] S).bind fun acc S=>.ok (.ref S.length) (S++[.lst acc])
theorem comp_ex{use:Option (Value->Sem Unit)}{m:Nat}{S1:Sto}(so:ScOk X.env.scope sc X.N own)(hg:gens=⟨tg,iter,ifs,0⟩ :: gens.tail)(hi:DI X tg iter fi)(hs:∀ x,foldedSetIterable iter X.env x=pure x)
  (I:S0 X pins σ H s ρ S env) (q:fi env S=.ex m S1) (hE:∀ x s',XPd X pins σ ρ H m S1 x s'->E x s') :
  wpAny (model X.prog X.w) X.A (comprehension (.ListComp elt gens sc cpos) sc X.env (firstIterPos gens cpos) (newList []) false (eval iter X.env) use) Q E s:=by
 have hfree:∀ x∈sc.names,x.2=.free->∃ c,X.env.cells.lookup x.1=some c:=fun x hx hf=>by
  rcases so.free x hx hf with z | z
  ·exact I.inv.ok.has x.1 (.inl z)
  ·exact I.inv.ok.has x.1 (.inr z)
 obtain⟨cl,hclos,hcl,hclf⟩:=closure_ok hfree;refine wpAny_comprehension_free (g:=⟨tg,iter,ifs,0⟩) (gs:=gens.tail) hg hs hclos so.kind so.names ?_;refine wpAny_mono (hi pins s σ H ρ S env E I (by rw[q]; exact fun z=>nomatch z) fun x s' z=>?_) (fun v s1 h1=>wpAny_mono h1 (fun itv s2 h2=>?_) fun _ _ z=>z) fun _ _ z=>z
 ·rw[q] at z; obtain⟨k,S2,e,z⟩:=z; cases e; exact hE x s' z
 ·obtain⟨src',S2,_,_,_,_,_,_,e1,_⟩:=h2
  rw[q] at e1; cases e1
theorem d_comp(hc:X.calm=true)(so:ScOk X.env.scope sc X.N own)(hon:own.length=n)(hg:gens=⟨tg,iter,ifs,0⟩ :: gens.tail)(hi:DI X tg iter fi)(hs:∀ x,foldedSetIterable iter X.env x=pure x)
  (hG:∀ pins s H cl C fp,DG (blk X pins s H sc cl C own fp) tg t) (hT:∀ pins s H cl C fp,DTs (blk X pins s H sc cl C own fp) ifs tf) (hB:∀ pins s H cl C fp Da,BodyP (blk X pins s H sc cl C own fp) Da elt gens sc cpos 0 body) :
  DE X (.ListComp elt gens sc cpos) (cmrR fi t n tf body):=by
 intro pins s σ H ρ S env I nb;have hfi:firstIter gens X.env=eval iter X.env:=by rw[hg]; rfl
 have hfa:firstAsync gens=false:=by rw[hg]; rfl
 rw[eval_ListComp,hfi,hfa];unfold cmrR at nb ⊢;cases q:fi env S with
 | bad=>rw[q] at nb; exact absurd rfl nb
 | ex m S1=>exact comp_ex so hg hi hs I q fun x s' z=>⟨m,S1,rfl,z⟩
 | ok src S1 =>
  rw[q] at nb;simp only[Rk0] at nb ⊢;cases q2:cloop src.get t (TestP tf body) (src.most S1 + 1) 0 (env++List.replicate n none) [] S1 with
  | bad=>rw[q2] at nb; exact absurd rfl nb
  | ex m S2=>exact absurd q2 (cloop_noex _ _ _ _ _ _ _)
  | ok accf Sf =>
   refine comp_core hc so hon hg hi hs hG hT hB I q q2 fun s' H' ρ' Da vs C m I' st' hn' h0 hD' ra' hns hcells hCl hCn back=>?_
   refine⟨m,hns,fun h' hs'=>?_⟩
   refine .mk (v:=.ref Da) (st'.adopt h0) (back s' σ H' h' I'.inv hCn hs') rfl ?_ (I'.sr.adopt hn' hD' ra');simp only[RD];exact⟨Da,rfl,by rw[<- I'.sr.len]; simp⟩
theorem ds_setc{i:Nat}{x:Str}{py spos:Pos}(hN:X.N.Nodup)(hi':X.N[i]?=some x)(hx:X.env.scope.names.lookup x=some .local)(hsw:swapsWith (.ListComp elt gens sc cpos) (some (.Name x py)) spos.line X.env=pure true)
  (hc:X.calm=true) (so:ScOk X.env.scope sc X.N own) (hon:own.length=n) (hg:gens=⟨tg,iter,ifs,0⟩ :: gens.tail) (hi:DI X tg iter fi) (hs:∀ x,foldedSetIterable iter X.env x=pure x)
  (hG:∀ pins s H cl C fp,DG (blk X pins s H sc cl C own fp) tg t) (hT:∀ pins s H cl C fp,DTs (blk X pins s H sc cl C own fp) ifs tf) (hB:∀ pins s H cl C fp Da,BodyP (blk X pins s H sc cl C own fp) Da elt gens sc cpos 0 body) :
  DS X (.Assign [.Name x py] (.ListComp elt gens sc cpos) spos) false (fun env S=>(cmrR fi t n tf body env S).bind fun d S=>match setTg (.var i) d env with | some env=>.ok (.nx env) S | none=>.bad):=by
 intro pins s σ H ρ S env I nb;dsimp only at nb ⊢;have hfi:firstIter gens X.env=eval iter X.env:=by rw[hg]; rfl
 have hfa:firstAsync gens=false:=by rw[hg]; rfl
 rw[exec_Assign_Name_used _ _ _ _ hsw];refine wpAny_bind (wpAny_standAt (wpAny_bind ?_));show wpAny _ X.A (do let _ <- comprehension (.ListComp elt gens sc cpos) sc X.env (firstIterPos gens cpos) (newList []) (firstAsync gens) (firstIter gens X.env) (some (assign (.Name x py) X.env))) _ _ s
 rw[hfi,hfa];refine wpAny_bind (wpAny_mono (Q:=fun _ s'=>OkS X pins σ ρ H false ((cmrR fi t n tf body env S).bind fun d S=>match setTg (.var i) d env with | some env=>.ok (.nx env) S | none=>.bad) .next s') ?_ (fun _ s' hq=>wpAny_pure (wpAny_pure hq)) fun _ _ z=>z)
 unfold cmrR at nb ⊢;cases q:fi env S with
 | bad=>rw[q] at nb; exact absurd rfl nb
 | ex m S1=>exact comp_ex so hg hi hs I q fun x s' z=>.of .refl z rfl
 | ok src S1 =>
  rw[q] at nb;simp only[Rk0] at nb ⊢;cases q2:cloop src.get t (TestP tf body) (src.most S1 + 1) 0 (env++List.replicate n none) [] S1 with
  | bad=>rw[q2] at nb; exact absurd rfl nb
  | ex m S2=>exact absurd q2 (cloop_noex _ _ _ _ _ _ _)
  | ok accf Sf =>
   refine comp_core (use:=some (assign (.Name x py) X.env)) hc so hon hg hi hs hG hT hB I q q2 fun s' H' ρ' Da vs C m I' st' hn' h0 hD' ra' hns hcells hCl hCn back=>?_
   show wpAny _ X.A (assign (.Name x py) X.env (.ref Da)) _ _ s';refine wpAny_assign_Name (store_ok2 I'.inv hN hi' (.inl hx) (show RelV (.ref Da) (.ref Da) from rfl) (fun s2 I2 hsb=>?_) (.inr hx))
   obtain⟨ad,hsb,had⟩:=hsb;have hne:ad≠C:=by
    rcases had with z | z
    ·rw[z]; exact Ne.symm hCl
    ·exact hcells x ad z
   refine⟨m,hns.sameBut hsb (Ne.symm hne),fun h' hs'=>?_⟩
   have J:=back s2 _ H' h' I2 hCn hs';refine⟨.nx (env.set i (some (.ref Sf.length))),Sf++[.lst accf],rfl,rfl,_,H',ρ'++[Da],⟨J,I'.sr.adopt hn' hD' ra',?_⟩,st'.adopt h0,fun z=>nomatch z⟩
   have mo:Mon X.K ρ' (ρ'++[Da]) H' H':=⟨fun n a h=>by rw[List.getElem?_append_left (List.getElem?_eq_some_iff.mp h).1]; exact h,fun _ _ h=>h,fun _ _ h=>h⟩
   refine(I'.er.mono' mo).set i ?_;simp only[RD];exact⟨Da,rfl,by rw[<- I'.sr.len]; simp⟩
end
end Z
end
section
namespace Z
open PySem PySem.Spec PyProof.Rows L2
section
variable{X:Cx}{pins:List (Addr×Obj)}{σ:L2.St}{H:Hp}{s:Shared}{ρ:List Addr}{S S':Sto}{env:En}{Q:Value->Shared->Prop}{E:Value->Shared->Prop}
def BlR(X:Cx)(k:Bl)(f:Value):Prop :=
 ∀ (pins:List (Addr×Obj)) (s:Shared) (σ:L2.St) (H:Hp) (ρ:List Addr) (S:Sto) (env:En) (ds:List D) (vs:List V) (us:List Value) (E:Value->Shared->Prop),S0 X pins σ H s ρ S env->RDs X.K ρ H ds vs->Vals vs us->bltD k ds S≠.bad ->
  wpAny (model X.prog X.w) X.A (call f us) (OkP X pins σ ρ H (bltD k ds S)) E s
theorem RDs.one{K:PySem.W.Frag}{d:D}{vs:List V}(h:RDs K ρ H [d] vs):∃ v,vs=[v]/\RD K ρ H d v:=by
 simp only[RDs] at h;obtain⟨v,r,rfl,h1,rfl⟩:=h;exact⟨v,rfl,h1⟩
theorem RDs.two{K:PySem.W.Frag}{d e:D}{vs:List V}(h:RDs K ρ H [d,e] vs):∃ v u,vs=[v,u]/\RD K ρ H d v/\RD K ρ H e u:=by
 simp only[RDs] at h;obtain⟨v,r,rfl,h1,u,r',rfl,h2,rfl⟩:=h;exact⟨v,u,rfl,h1,h2⟩
theorem b_len:BlR X .len (.builtin "len"):=by
 intro pins s σ H ρ S env ds vs us E I rd rv nb
 match ds,rd,nb with
 | [],_,nb=>exact absurd rfl nb
 | _ :: _ :: _,_,nb=>exact absurd rfl nb
 | [d],rd,nb =>
  obtain⟨v,rfl,r1⟩:=rd.one;have go:∀ xs,seqD S d=some xs->wpAny (model X.prog X.w) X.A (call (.builtin "len") us) (OkP X pins σ ρ H (.ok (.int xs.length) S)) E s:=fun xs h=>by
   obtain⟨a,ws,rfl,hq,hr⟩:=I.seq h r1;refine calld (Q':=fun z H'=>z=.int ws.length/\H'=H) call_len_seq I.inv rv ⟨a,ws,rfl,hq,rfl,rfl⟩ fun w s' z H' J rz ⟨e1,e2⟩=>?_
   subst e1 e2;obtain⟨t,rfl⟩:=rz;rw[<- hr.length];exact fin_i I.sr J
  cases d with
  | str z =>
   simp only[bltD] at nb ⊢;split at nb
   ·rename_i hz
    rw[if_pos hz];simp only[RD] at r1; subst r1;refine calld (Q':=fun y H'=>y=.int z.length/\H'=H) call_len_str I.inv rv ⟨z,rfl,le_line hz,rfl,rfl⟩ fun w s' y H' J rz ⟨e1,e2⟩=>?_
    subst e1 e2;obtain⟨t,rfl⟩:=rz;exact fin_i I.sr J
   ·exact absurd rfl nb
  | tup xs=>exact go xs rfl
  | fro xs=>exact go xs rfl
  | ref n =>
   simp only[bltD,seqD] at nb ⊢;cases e:lstAt S n with
   | none=>rw[e] at nb; exact absurd rfl nb
   | some xs=>exact go xs e
  | non=>exact absurd rfl nb
  | bl _=>exact absurd rfl nb
  | int _=>exact absurd rfl nb
  | fn _ _=>exact absurd rfl nb
theorem b_tuple:BlR X .tuple (.type "tuple"):=by
 intro pins s σ H ρ S env ds vs us E I rd rv nb
 match ds,rd,nb with
 | [],_,nb=>exact absurd rfl nb
 | _ :: _ :: _,_,nb=>exact absurd rfl nb
 | [d],rd,nb =>
  obtain⟨v,rfl,r1⟩:=rd.one;simp only[bltD] at nb ⊢;cases e:seqD S d with
  | none=>rw[e] at nb; exact absurd rfl nb
  | some xs =>
   dsimp only;obtain⟨a,ws,rfl,hq,hr⟩:=I.seq e r1;rcases hq with hq | hq
   ·refine calld (Q':=fun z H'=>∃ p,H p=none/\z=.ref p/\H'=upd H p (.tup ws)) call_tuple_of I.inv rv ⟨a,ws,rfl,.inl ⟨hq,fun l hl=>⟨l,hl,rfl,rfl⟩⟩⟩ fun w s' z H' J rz ⟨p,hp,e1,e2⟩=>?_
    subst e1 e2; cases rz;exact fin_tup J hp I.sr hr
   ·refine calld (Q':=fun z H'=>z=.ref a/\H'=H) call_tuple_of I.inv rv ⟨a,ws,rfl,.inr ⟨hq,rfl,rfl⟩⟩ fun w s' z H' J rz ⟨e1,e2⟩=>?_
    subst e1 e2;refine .mk .refl J rz ?_ I.sr;simp only[RD];exact⟨a,ws,rfl,hq,hr⟩
theorem b_list:BlR X .list (.type "list"):=by
 intro pins s σ H ρ S env ds vs us E I rd rv nb
 match ds,rd,nb with
 | [],_,nb=>exact absurd rfl nb
 | _ :: _ :: _,_,nb=>exact absurd rfl nb
 | [d],rd,nb =>
  obtain⟨v,rfl,r1⟩:=rd.one;simp only[bltD] at nb ⊢;cases e:seqD S d with
  | none=>rw[e] at nb; exact absurd rfl nb
  | some xs =>
   dsimp only;obtain⟨a,ws,rfl,hq,hr⟩:=I.seq e r1;refine calld (Q':=fun z H'=>∃ p,H p=none/\z=.ref p/\H'=upd H p (.lst ws)) call_list_of I.inv rv ⟨a,ws,rfl,hq,fun l hl=>⟨l,hl,rfl,rfl⟩⟩ fun w s' z H' J rz ⟨p,hp,e1,e2⟩=>?_
   subst e1 e2; cases rz;exact fin_lst J hp I.sr hr
theorem allBls_some:∀ {xs:List D} {bs:List Bool},allBls xs=some bs->xs=bs.map D.bl
 | [],ns,h=>by simp only[allBls,Option.some.injEq] at h; subst h; rfl
 | .bl i :: r,ns,h=>by
  simp only[allBls,Option.map_eq_some_iff] at h;obtain⟨ms,h1,rfl⟩:=h;rw[allBls_some h1]; rfl
 | .non :: _,_,h=>by simp[allBls] at h
 | .int _ :: _,_,h=>by simp[allBls] at h
 | .str _ :: _,_,h=>by simp[allBls] at h
 | .tup _ :: _,_,h=>by simp[allBls] at h
 | .ref _ :: _,_,h=>by simp[allBls] at h
 | .fro _ :: _,_,h=>by simp[allBls] at h
 | .fn _ _ :: _,_,h=>by simp[allBls] at h
theorem range_all(bs:List Bool)(f:Nat->Bool)(h:∀ i,f i=(bs[i]?).getD false):(List.range bs.length).all f=bs.all id:=by
 rw[Bool.eq_iff_iff,List.all_eq_true,List.all_eq_true];constructor
 ·intro q b hb
  obtain⟨i,hi,rfl⟩:=List.mem_iff_getElem.mp hb;have:=q i (by simpa using hi)
  rw[h i] at this
  simpa [hi] using this
 ·intro q i hi
  have hi':i < bs.length:=by simpa using hi
  rw[h i];simp only[hi',getElem?_pos,Option.getD_some];exact q _ (List.getElem_mem hi')
theorem range_any(bs:List Bool)(f:Nat->Bool)(h:∀ i,f i=(bs[i]?).getD false):(List.range bs.length).any f=bs.any id:=by
 rw[Bool.eq_iff_iff,List.any_eq_true,List.any_eq_true];constructor
 ·rintro ⟨i,hi,q⟩
  have hi':i < bs.length:=by simpa using hi
  rw[h i] at q;simp only[hi',getElem?_pos,Option.getD_some] at q;exact⟨_,List.getElem_mem hi',q⟩
 ·rintro ⟨b,hb,q⟩
  obtain⟨i,hi,rfl⟩:=List.mem_iff_getElem.mp hb;refine⟨i,by simpa using hi,?_⟩
  rw[h i]
  simpa [hi] using q
theorem rd_bl{K:PySem.W.Frag}:∀ {bs:List Bool} {vs:List V},RDs K ρ H (bs.map D.bl) vs->vs=bs.map V.bl
 | [],vs,h=>by simp only[List.map,RDs] at h; exact h
 | n :: ns,vs,h=>by
  simp only[List.map,RDs] at h;obtain⟨v,r,rfl,h1,h2⟩:=h;simp only[RD] at h1;subst h1;rw[rd_bl h2]; rfl
theorem S0.its(I:S0 X pins σ H s ρ S env){n:Nat}{xs:List D}{v:V}{u:Value}(h:lstAt S n=some xs)(rd:RD X.K ρ H (.ref n) v)(rv:RelV v u):∃ a vs its,u=.ref a/\s.heap.IsList a its.toArray/\RDs X.K ρ H xs vs/\Vals vs its/\vs.length<=sizeLine:=by
 obtain⟨a,vs,rfl,h1,h2,h3⟩:=I.lstR h rd;cases rv;obtain⟨its,r,p,hz⟩:=I.inv.list (.of h2);exact⟨a,vs,its,rfl,p.isList,h3,r,hz⟩
theorem walk_seq{prog:Program}{w:World}{A:Around}{a:Addr}{its:List Value}{Q:Value->Shared->Prop}(hh:A.handled=none)(hq:s.heap.IsList a its.toArray\/s.heap.IsTuple a its.toArray)
  (h:∀ I fp wr St s₂,Walks prog w A I fp wr its.length (fun i v=>its[i]?=some v) St->St 0 s₂.heap->(∀ b∈fp,b < s₂.heap.objs.size) ->
   (∀ h' tk,(∀ b o,b ∉ wr->s₂.heap.get? b=some o->h'.get? b=some o)->({ s₂ with heap:=h',toks:=tk }:Shared)={ s with heap:=h',toks:=tk }/\∀ b o,s.heap.get? b=some o->h'.get? b=some o)->Q (.ref I) s₂) :
  wpAny (model prog w) A (pyIter (.ref a)) Q E s:=by
 have key:∀ {o:Obj},∀ h' tk,(∀ b ob,b ∉ [s.heap.objs.size]->({ s with heap:=s.heap.push o }:Shared).heap.get? b=some ob->h'.get? b=some ob)->({ ({ s with heap:=s.heap.push o }:Shared) with heap:=h',toks:=tk }:Shared)={ s with heap:=h',toks:=tk }/\∀ b ob,s.heap.get? b=some ob->h'.get? b=some ob :=
  fun {o} h' tk hk=>⟨rfl,fun b ob e=>hk b ob (by simp; exact Nat.ne_of_lt (Heap.lt_size e)) (Heap.get?_push_of_some _ e)⟩
 have fpk:∀ {o:Obj} (ha:a < s.heap.objs.size),∀ b∈[s.heap.objs.size,a],b < (s.heap.push o).objs.size:=fun {o} ha b hb=>by
  rw[Heap.size_push];simp at hb;rcases hb with rfl | rfl
  ·exact Nat.lt_succ_self _
  ·exact Nat.lt_succ_of_lt ha
 rcases hq with hq | hq
 ·have ha:a < s.heap.objs.size:=Heap.lt_size hq.choose_spec.1
  refine wpAny_pyIter_list hq ?_;have W:=Walks.list (prog:=prog) (w:=w) hh s.heap.objs.size a (Nat.ne_of_lt ha) its.toArray;simp only[List.size_toArray,List.getElem?_toArray] at W;exact h _ _ _ _ _ W ⟨⟨_,Heap.get?_push_size _ rfl,rfl,rfl⟩,hq.at fun o e=>Heap.get?_push_of_some _ e⟩ (fpk ha) key
 ·have ha:a < s.heap.objs.size:=Heap.lt_size hq.choose_spec.1
  refine wpAny_pyIter_tuple hq ?_;have W:=Walks.tuple (prog:=prog) (w:=w) hh s.heap.objs.size a (Nat.ne_of_lt ha) its.toArray;simp only[List.size_toArray,List.getElem?_toArray] at W;exact h _ _ _ _ _ W ⟨⟨_,Heap.get?_push_size _ rfl,rfl,rfl⟩,hq.at fun o e=>Heap.get?_push_of_some _ e⟩ (fpk ha) key
theorem S0.seqI(I:S0 X pins σ H s ρ S env){d:D}{v:V}{u:Value}{xs:List D}(h:seqD S d=some xs)(rd:RD X.K ρ H d v)(rv:RelV v u):∃ a vs its,u=.ref a/\(s.heap.IsList a its.toArray\/s.heap.IsTuple a its.toArray)/\RDs X.K ρ H xs vs/\Vals vs its/\vs.length<=sizeLine:=by
 obtain⟨a,vs,rfl,hq,hr⟩:=I.seq h rd;cases rv;rcases hq with hq | hq
 ·obtain⟨its,r,p,hz⟩:=I.inv.list hq
  exact⟨a,vs,its,rfl,.inl p.isList,hr,r,hz⟩
 ·obtain⟨its,r,p,hz⟩:=I.inv.tuple hq
  exact⟨a,vs,its,rfl,.inr p,hr,r,hz⟩
theorem vals_bl{i:Nat}{v:Value}:∀ {bs:List Bool} {its:List Value},Vals (bs.map V.bl) its->its[i]?=some v->v=.bool ((bs[i]?).getD false):=fun {bs its} hv e=>by
 have hl:i < bs.length:=by
  have h1:=hv.length;have h2:=(List.getElem?_eq_some_iff.mp e).1;simp at h1; omega
 obtain⟨u,h1,h2⟩:=hv.get (i:=i) (x:=.bl bs[i]) (by simp[hl])
 rw[e] at h1; cases h1;simp[hl];exact h2
theorem b_all(hc:X.calm=true):BlR X .all (.builtin "all"):=by
 intro pins s σ H ρ S env ds vs us E I rd rv nb
 match ds,rd,nb with
 | [],_,nb=>exact absurd rfl nb
 | d :: _ :: _,_,nb=>cases d <;> exact absurd rfl nb
 | [.ref n],rd,nb =>
  obtain⟨v,rfl,r1⟩:=rd.one;simp only[bltD] at nb ⊢;cases e:lstAt S n with
  | none=>rw[e] at nb; exact absurd rfl nb
  | some xs =>
   rw[e] at nb;simp only[Option.bind_some] at nb ⊢;cases e2:allBls xs with
   | none=>rw[e2] at nb; exact absurd rfl nb
   | some bs =>
    dsimp only;have q:=allBls_some e2;subst q;cases rv with
    | cons ru rr =>
     cases rr;obtain⟨a,ws,its,rfl,hl,hr,hv,hz⟩:=I.its e r1 ru;have hw:=rd_bl hr;subst hw;have hlen:its.length=bs.length:=by rw[<- hv.length]; simp
     refine call_all_walk (walk_seq (I.inv.ok.hd hc) (.inl hl) fun It fp wr St s₂ W st hf key=>?_)
     refine⟨It,fp,wr,_,_,St,fun i=>(bs[i]?).getD false,rfl,W,st,fun i v s' Q' E' hP hQ=>?_,fun h' tk hk=>?_⟩
     ·rw[vals_bl hv hP]; exact wpAny_truthy_bool hQ
     ·obtain⟨e3,k3⟩:=key h' tk hk
      rw[e3,hlen,range_all bs _ fun _=>rfl]
      exact fin_b' I.sr (I.inv.kept k3)
 | [.non],_,nb=>exact absurd rfl nb
 | [.bl _],_,nb=>exact absurd rfl nb
 | [.int _],_,nb=>exact absurd rfl nb
 | [.str _],_,nb=>exact absurd rfl nb
 | [.tup _],_,nb=>exact absurd rfl nb
 | [.fro _],_,nb=>exact absurd rfl nb
theorem vals_int{i:Nat}{v:Value}{ns:List Int}{its:List Value}(hv:Vals (ns.map V.int) its)(e:its[i]?=some v):∃ t,v=.int ((ns[i]?).getD 0) t:=by
 have hl:i < ns.length:=by
  have h1:=hv.length;have h2:=(List.getElem?_eq_some_iff.mp e).1;simp at h1; omega
 obtain⟨u,h1,h2⟩:=hv.get (i:=i) (x:=.int ns[i]) (by simp[hl])
 rw[e] at h1; cases h1;simp[hl];exact h2
theorem preSum_take(ns:List Int):∀ k,k<=ns.length->preSum (fun i=>(ns[i]?).getD 0) k=(ns.take k).sum
 | 0,_=>by simp[preSum]
 | k + 1,h=>by
  have hk:k < ns.length:=by omega
  rw[preSum,preSum_take ns k (by omega),List.take_succ_eq_append_getElem hk,List.sum_append]
  simp[hk]
theorem b_sum(hc:X.calm=true):BlR X .sum (.builtin "sum"):=by
 intro pins s σ H ρ S env ds vs us E I rd rv nb
 match ds,rd,nb with
 | [],_,nb=>exact absurd rfl nb
 | _ :: _ :: _,_,nb=>exact absurd rfl nb
 | [d],rd,nb =>
  obtain⟨v,rfl,r1⟩:=rd.one;simp only[bltD] at nb ⊢;cases e:seqD S d with
  | none=>rw[e] at nb; exact absurd rfl nb
  | some xs =>
   rw[e] at nb;simp only[Option.bind_some] at nb ⊢;cases e2:allInts xs with
   | none=>rw[e2] at nb; exact absurd rfl nb
   | some ns =>
    dsimp only;have q:=allInts_some e2;subst q;cases rv with
    | cons ru rr =>
     cases rr;obtain⟨a,ws,its,rfl,hl,hr,hv,hz⟩:=I.seqI e r1 ru;have hw:=hr.ints_of;subst hw;have hlen:its.length=ns.length:=by rw[<- hv.length]; simp
     refine call_sum_walkAnyS (walk_seq (I.inv.ok.hd hc) hl fun It fp wr St s₂ W st hf key=>?_)
     refine⟨It,fp,wr,_,_,_,_,fun i=>(ns[i]?).getD 0,rfl,W.toS,st,hf,fun i v hP=>vals_int hv hP,fun s' t' hm=>?_⟩
     obtain⟨h1,h2,h3,h4,h5⟩:=hm;obtain⟨e3,k3⟩:=key s'.heap s'.toks h1;have e4:s'={ s₂ with heap:=s'.heap,toks:=s'.toks }:=by
      cases s';cases s₂;simp only at h2 h3 h4;subst h2 h3 h4;rfl
     rw[e4,e3,hlen,preSum_take ns _ (Nat.le_refl _),List.take_length];exact fin_i I.sr (I.inv.kept k3)
theorem b_max2(hc:X.calm=true){i j:Int}{v' u':Value}(I:S0 X pins σ H s ρ S env)(rv:RelV (.int i) v')(ru:RelV (.int j) u'):wpAny (model X.prog X.w) X.A (call (.builtin "max") [v',u']) (OkP X pins σ ρ H (bltD .max [.int i,.int j] S)) E s :=
 calld (Q':=fun z H'=>z=.int (if j > i then j else i)/\H'=H) (call_max2 hc) I.inv (.cons rv (.cons ru .nil)) ⟨i,j,rfl,rfl,rfl⟩ fun w s' z H' J rz ⟨e1,e2⟩=>by
  subst e1 e2; obtain⟨t,rfl⟩:=rz; exact fin_i I.sr J
theorem b_min2(hc:X.calm=true){i j:Int}{v' u':Value}(I:S0 X pins σ H s ρ S env)(rv:RelV (.int i) v')(ru:RelV (.int j) u'):wpAny (model X.prog X.w) X.A (call (.builtin "min") [v',u']) (OkP X pins σ ρ H (bltD .min [.int i,.int j] S)) E s :=
 calld (Q':=fun z H'=>z=.int (if j < i then j else i)/\H'=H) (call_min2 hc) I.inv (.cons rv (.cons ru .nil)) ⟨i,j,rfl,rfl,rfl⟩ fun w s' z H' J rz ⟨e1,e2⟩=>by
  subst e1 e2; obtain⟨t,rfl⟩:=rz; exact fin_i I.sr J
theorem argBest_max(ns:List Int):∀ k,k < ns.length->(ns[argBest (fun i j=>decide ((ns[i]?).getD 0 > (ns[j]?).getD 0)) k]?).getD 0=(ns.take (k + 1)).tail.foldl max ((ns[0]?).getD 0)
 | 0,h=>by
  cases ns with
  | nil=>simp at h
  | cons n r=>simp[argBest]
 | k + 1,h=>by
  have ih:=argBest_max ns k (by omega)
  simp only[argBest];have ht:(ns.take (k + 1 + 1)).tail=(ns.take (k + 1)).tail++[ns[k + 1]]:=by
   rw[List.take_succ_eq_append_getElem h];cases ns with
   | nil=>simp at h
   | cons n r=>simp
  rw[ht,List.foldl_append];simp only[List.foldl_cons,List.foldl_nil];generalize hm:List.foldl max ((ns[0]?).getD 0) (ns.take (k + 1)).tail=m at ih ⊢;have h1:(ns[k + 1]?).getD 0=ns[k + 1]:=by simp[h]
  split
  ·rename_i hc
   have hc':=of_decide_eq_true hc;rw[ih,h1] at hc';rw[h1];omega
  ·rename_i hc
   have hc':¬ ((ns[k + 1]?).getD 0 > (ns[argBest (fun i j=>decide ((ns[i]?).getD 0 > (ns[j]?).getD 0)) k]?).getD 0):=fun z=>hc (decide_eq_true z)
   rw[ih,h1] at hc';rw[ih];omega
theorem argBest_min(ns:List Int):∀ k,k < ns.length->(ns[argBest (fun i j=>decide ((ns[i]?).getD 0 < (ns[j]?).getD 0)) k]?).getD 0=(ns.take (k + 1)).tail.foldl min ((ns[0]?).getD 0)
 | 0,h=>by
  cases ns with
  | nil=>simp at h
  | cons n r=>simp[argBest]
 | k + 1,h=>by
  have ih:=argBest_min ns k (by omega)
  simp only[argBest];have ht:(ns.take (k + 1 + 1)).tail=(ns.take (k + 1)).tail++[ns[k + 1]]:=by
   rw[List.take_succ_eq_append_getElem h];cases ns with
   | nil=>simp at h
   | cons n r=>simp
  rw[ht,List.foldl_append];simp only[List.foldl_cons,List.foldl_nil];generalize hm:List.foldl min ((ns[0]?).getD 0) (ns.take (k + 1)).tail=m at ih ⊢;have h1:(ns[k + 1]?).getD 0=ns[k + 1]:=by simp[h]
  split
  ·rename_i hc
   have hc':=of_decide_eq_true hc;rw[ih,h1] at hc';rw[h1];omega
  ·rename_i hc
   have hc':¬ ((ns[k + 1]?).getD 0 < (ns[argBest (fun i j=>decide ((ns[i]?).getD 0 < (ns[j]?).getD 0)) k]?).getD 0):=fun z=>hc (decide_eq_true z)
   rw[ih,h1] at hc';rw[ih];omega
theorem b_max1(hc:X.calm=true){d:D}{v:V}{u:Value}(I:S0 X pins σ H s ρ S env)(rd:RD X.K ρ H d v)(rv:RelV v u)(nb:bltD .max [d] S≠.bad):wpAny (model X.prog X.w) X.A (call (.builtin "max") [u]) (OkP X pins σ ρ H (bltD .max [d] S)) E s:=by
 simp only[bltD] at nb ⊢;cases e:seqD S d with
 | none=>rw[e] at nb; exact absurd rfl nb
 | some xs =>
  rw[e] at nb;simp only[Option.bind_some] at nb ⊢;cases e2:allInts xs with
  | none=>rw[e2] at nb; exact absurd rfl nb
  | some ns =>
   rw[e2] at nb;cases ns with
   | nil=>exact absurd rfl nb
   | cons n ns =>
    dsimp only;have q:=allInts_some e2;subst q;obtain⟨a,ws,its,rfl,hl,hr,hv,hz⟩:=I.seqI e rd rv;have hw:=hr.ints_of;subst hw;have hlen:its.length=(n :: ns).length:=by rw[<- hv.length]; simp
    refine call_max_walk (walk_seq (I.inv.ok.hd hc) hl fun It fp wr St s₂ W st hf key=>?_)
    refine⟨It,fp,wr,_,_,St,fun i j=>decide (((n :: ns)[i]?).getD 0 > ((n :: ns)[j]?).getD 0),rfl,W,st,hf,by rw[hlen]; simp,fun i j vi vj s' Q' E' hi hj hQ=>?_,fun v' h' tk hP hk=>?_⟩
    ·obtain⟨t,rfl⟩:=vals_int hv hi
     obtain⟨t',rfl⟩:=vals_int hv hj;exact gt_int hQ
    ·obtain⟨t,rfl⟩:=vals_int hv hP
     obtain⟨e3,k3⟩:=key h' tk hk;rw[e3];have:=argBest_max (n :: ns) (its.length - 1) (by rw[hlen]; simp)
     rw[this,hlen];simp only[List.length_cons,Nat.add_sub_cancel,List.take_of_length_le (Nat.le_refl (n :: ns).length),List.tail_cons];have e5:List.take (ns.length + 1) (n :: ns)=n :: ns:=by simp
     rw[e5];exact fin_i I.sr (I.inv.kept k3)
theorem b_min1(hc:X.calm=true){d:D}{v:V}{u:Value}(I:S0 X pins σ H s ρ S env)(rd:RD X.K ρ H d v)(rv:RelV v u)(nb:bltD .min [d] S≠.bad):wpAny (model X.prog X.w) X.A (call (.builtin "min") [u]) (OkP X pins σ ρ H (bltD .min [d] S)) E s:=by
 simp only[bltD] at nb ⊢;cases e:seqD S d with
 | none=>rw[e] at nb; exact absurd rfl nb
 | some xs =>
  rw[e] at nb;simp only[Option.bind_some] at nb ⊢;cases e2:allInts xs with
  | none=>rw[e2] at nb; exact absurd rfl nb
  | some ns =>
   rw[e2] at nb;cases ns with
   | nil=>exact absurd rfl nb
   | cons n ns =>
    dsimp only;have q:=allInts_some e2;subst q;obtain⟨a,ws,its,rfl,hl,hr,hv,hz⟩:=I.seqI e rd rv;have hw:=hr.ints_of;subst hw;have hlen:its.length=(n :: ns).length:=by rw[<- hv.length]; simp
    refine call_min_walk (walk_seq (I.inv.ok.hd hc) hl fun It fp wr St s₂ W st hf key=>?_)
    refine⟨It,fp,wr,_,_,St,fun i j=>decide (((n :: ns)[i]?).getD 0 < ((n :: ns)[j]?).getD 0),rfl,W,st,hf,by rw[hlen]; simp,fun i j vi vj s' Q' E' hi hj hQ=>?_,fun v' h' tk hP hk=>?_⟩
    ·obtain⟨t,rfl⟩:=vals_int hv hi
     obtain⟨t',rfl⟩:=vals_int hv hj;exact lt_int hQ
    ·obtain⟨t,rfl⟩:=vals_int hv hP
     obtain⟨e3,k3⟩:=key h' tk hk;rw[e3];have:=argBest_min (n :: ns) (its.length - 1) (by rw[hlen]; simp)
     rw[this,hlen];have e5:List.take ((n :: ns).length - 1 + 1) (n :: ns)=n :: ns:=by simp
     rw[e5];exact fin_i I.sr (I.inv.kept k3)
theorem b_max(hc:X.calm=true):BlR X .max (.builtin "max"):=by
 intro pins s σ H ρ S env ds vs us E I rd rv nb
 match ds,rd,nb with
 | [],_,nb=>exact absurd rfl nb
 | [d],rd,nb =>
  obtain⟨v,rfl,r1⟩:=rd.one;cases rv with
  | cons ru rr=>cases rr; exact b_max1 hc I r1 ru nb
 | [d,e],rd,nb =>
  obtain⟨v,u,rfl,r1,r2⟩:=rd.two;cases d with
  | int i=>cases e with
   | int j =>
    simp only[RD] at r1 r2; subst r1 r2;cases rv with
    | cons ru rr=>cases rr with
     | cons rw' rr=>cases rr; exact b_max2 hc I ru rw'
   | _=>exact absurd rfl nb
  | _=>cases e <;> exact absurd rfl nb
 | d :: e :: _ :: _,_,nb=>cases d <;> (try cases e) <;> exact absurd rfl nb
theorem b_min(hc:X.calm=true):BlR X .min (.builtin "min"):=by
 intro pins s σ H ρ S env ds vs us E I rd rv nb
 match ds,rd,nb with
 | [],_,nb=>exact absurd rfl nb
 | [d],rd,nb =>
  obtain⟨v,rfl,r1⟩:=rd.one;cases rv with
  | cons ru rr=>cases rr; exact b_min1 hc I r1 ru nb
 | [d,e],rd,nb =>
  obtain⟨v,u,rfl,r1,r2⟩:=rd.two;cases d with
  | int i=>cases e with
   | int j =>
    simp only[RD] at r1 r2; subst r1 r2;cases rv with
    | cons ru rr=>cases rr with
     | cons rw' rr=>cases rr; exact b_min2 hc I ru rw'
   | _=>exact absurd rfl nb
  | _=>cases e <;> exact absurd rfl nb
 | d :: e :: _ :: _,_,nb=>cases d <;> (try cases e) <;> exact absurd rfl nb
def MtD(X:Cx)(k:Mt)(id:String):Prop :=
 ∀ (pins:List (Addr×Obj)) (s:Shared) (σ:L2.St) (H:Hp) (ρ:List Addr) (S:Sto) (env:En) (d:D) (v:V) (u:Value) (ds:List D) (vs:List V) (us:List Value) (E:Value->Shared->Prop),S0 X pins σ H s ρ S env->RD X.K ρ H d v->RelV v u->RDs X.K ρ H ds vs->Vals vs us->mthD k d ds S≠.bad ->
  wpAny (model X.prog X.w) X.A (call (.builtin id) (u :: us)) (OkP X pins σ ρ H (mthD k d ds S)) E s
theorem fin_chg{n:Nat}{a:Addr}{xs:List D}{vs:List V}{s':Shared}{d:D}{v:V}{u:Value}(I:S0 X pins σ H s ρ S env)(ha:ρ[n]?=some a)(J:Inv X pins σ (upd H a (.lst vs)) s')(rd:RDs X.K ρ H xs vs)(rv:RelV v u)(rdv:RD X.K ρ H d v) :
  OkP X pins σ ρ H (.ok d (S.set n (.lst xs))) u s':=by
 have st:Stp X.K ρ ρ H (upd H a (.lst vs)):=Stp.chg (S:=S) (o:=.lst xs) I.sr ha;exact .mk st J rv (rdv.mono st) (I.sr.chg ha ⟨vs,upd_same,rd.mono st⟩)
theorem m_append:MtD X .append "list.append" := by
 intro pins s σ H ρ S env d v u ds vs us E I rd rv rds rvs nb
 match d,ds,rds,rd,nb with
 | .ref n,[x],rds,rd,nb =>
  obtain⟨y,rfl,r1⟩:=rds.one;simp only[mthD] at nb ⊢;cases e:Z.lstM S n with
  | none=>rw[e] at nb; exact absurd rfl nb
  | some xs =>
   rw[e] at nb;dsimp only at nb ⊢;split at nb
   ·rename_i hz
    rw[if_pos hz];obtain⟨a,ws,rfl,ha,hv,hr⟩:=I.lstR e rd;refine mtd (Q':=fun z H'=>z=.non/\H'=upd H a (.lst (ws++[y]))) mt_append I.inv rv rvs ⟨a,ws,y,rfl,rfl,hv,by rw[<- hr.length]; exact Nat.lt_of_lt_of_le hz big_le,rfl,rfl⟩ fun w s' z H' J rz ⟨e1,e2⟩=>?_
    subst e1 e2;exact fin_chg I ha J (hr.append (.cons r1 .nil)) rz (by simp only[RD])
   ·exact absurd rfl nb
 | .ref n,[],_,_,nb=>exact absurd rfl nb
 | .ref n,_ :: _ :: _,_,_,nb=>exact absurd rfl nb
 | .non,ds,_,_,nb=>cases ds <;> exact absurd rfl nb
 | .bl _,ds,_,_,nb=>cases ds <;> exact absurd rfl nb
 | .int _,ds,_,_,nb=>cases ds <;> exact absurd rfl nb
 | .str _,ds,_,_,nb=>cases ds <;> exact absurd rfl nb
 | .tup _,ds,_,_,nb=>cases ds <;> exact absurd rfl nb
 | .fro _,ds,_,_,nb=>cases ds <;> exact absurd rfl nb
end
end Z
end
section
namespace Z
open PySem PySem.Spec PyProof.Rows L2
section
variable{X:Cx}{pins:List (Addr×Obj)}{σ:L2.St}{H:Hp}{s:Shared}{ρ:List Addr}{S S':Sto}{env:En}{a b c e:Expr}{f fa fb fc:En->Sto->R D}{pos:Pos}
theorem d_neg(ha:DE X a fa):DE X (.UnaryOp .USub a pos) (fun env S=>(fa env S).bind fun x S=>match x with | .int i=>.ok (.int (-i)) S | _=>.bad):=by
 intro pins s σ H ρ S env I nb;dsimp only at nb ⊢;cases q:fa env S with
 | bad=>rw[q] at nb; exact absurd rfl nb
 | ex n S1=>exact UnaryOp_ (ha.ex I q fun x s' z=>⟨n,S1,rfl,z⟩)
 | ok x S1 =>
  rw[q] at nb;simp only[Rk0] at nb ⊢;refine UnaryOp_ (ha.ok I q fun u s1 v H1 ρ1 I1 rv rd st1=>?_)
  cases x with
  | int i =>
   simp only[RD] at rd; subst rd;obtain⟨t,rfl⟩:=rv;exact neg_int (OkP.pre st1 (fin_i I1.sr (I1.inv.tok _)))
  | _=>exact absurd rfl nb
theorem dt_ite(hc:DT X c (fun env S=>tst (fc env S)))(ha:DT X a (fun env S=>tst (fa env S)))(hb:DT X b (fun env S=>tst (fb env S))) :
  DT X (.IfExp c a b pos) (fun env S=>tst ((fc env S).bind fun x S=>match truD S x with | some true=>fa env S | some false=>fb env S | none=>.bad)):=by
 intro pins s σ H ρ S env I nb;dsimp only at nb ⊢;show wpAny _ _ (do if <- isTrue c X.env (eval c X.env) then isTrue a X.env (eval a X.env) else isTrue b X.env (eval b X.env)) _ _ s
 cases q:fc env S with
 | bad=>rw[q] at nb; exact absurd rfl nb
 | ex n S1=>exact wpAny_bind (hc.ex I (by simp only[q]; rfl) fun x s' z=>⟨n,S1,rfl,z⟩)
 | ok x S1 =>
  rw[q] at nb;simp only[Rk0] at nb ⊢;cases t:truD S1 x with
  | none=>rw[t] at nb; exact absurd rfl nb
  | some r =>
   rw[t] at nb;refine wpAny_bind (hc.ok I (by simp only[q]; exact tst_ok t) fun s2 H2 ρ2 I2 st2=>?_)
   cases r with
   | true=>exact wpAny_mono (ha pins s2 σ H2 ρ2 S1 env I2 nb) (fun w s3 ⟨S3,e3,H3,ρ3,J3,sr3,st3⟩=>⟨S3,e3,H3,ρ3,J3,sr3,st2.trans st3⟩) fun x s' z=>z.pre st2
   | false=>exact wpAny_mono (hb pins s2 σ H2 ρ2 S1 env I2 nb) (fun w s3 ⟨S3,e3,H3,ρ3,J3,sr3,st3⟩=>⟨S3,e3,H3,ρ3,J3,sr3,st2.trans st3⟩) fun x s' z=>z.pre st2
noncomputable def chnR(o1 o2:Co)(fa fb fc:En->Sto->R D)(env:En)(S:Sto):R D:=(fa env S).bind fun x S=>(fb env S).bind fun y S=>match cmpD o1 x y S with
  | some true=>(fc env S).bind fun z S=>cmpR o2 y z S
  | some false=>.ok (.bl false) S
  | none=>.bad
theorem chn_core{o1 o2:Co}{Ev:Value->Shared->Prop}(ho1:Op2 X (compareOp (opC o1)) (cmpR o1))(ha:DE X a fa)(hb:DE X b fb)(I:S0 X pins σ H s ρ S env)(nb:chnR o1 o2 fa fb fc env S≠.bad)
  {W:Value->Value->Bool->Shared->Prop} (hE:∀ x s',ExP X pins σ ρ H (chnR o1 o2 fa fb fc env S) x s'->Ev x s')
  (hF:∀ v u s3 S2 H2 ρ2,chnR o1 o2 fa fb fc env S=.ok (.bl false) S2->S0 X pins σ H2 s3 ρ2 S2 env->Stp X.K ρ ρ2 H H2->W v u false s3)
  (hT:∀ v u s3 S2 y vy H2 ρ2,chnR o1 o2 fa fb fc env S=((fc env S2).bind fun z S=>cmpR o2 y z S)->S0 X pins σ H2 s3 ρ2 S2 env->RelV vy u->RD X.K ρ2 H2 y vy->Stp X.K ρ ρ2 H H2->W v u true s3) :
  wpAny (model X.prog X.w) X.A (eval a X.env) (fun v s1=>wpAny (model X.prog X.w) X.A (eval b X.env) (fun u s2=>wpAny (model X.prog X.w) X.A (compareOp (opC o1) v u) (fun d s3=>∃ r,d=.bool r/\W v u r s3) Ev s2) Ev s1) Ev s:=by
 cases q:fa env S with
 | bad=>rw[chnR,q] at nb; exact absurd rfl nb
 | ex n S1=>exact ha.ex I q fun x s' z=>hE x s' ⟨n,S1,by rw[chnR,q]; rfl,z⟩
 | ok x S1 =>
  refine ha.ok I q fun v s1 vx H1 ρ1 I1 rv rd st1=>?_
  cases q2:fb env S1 with
  | bad=>rw[chnR,q] at nb; simp only[Rk0] at nb; rw[q2] at nb; exact absurd rfl nb
  | ex n S2=>exact hb.ex I1 q2 fun x s' z=>hE x s' ⟨n,S2,by rw[chnR,q]; simp only[Rk0]; rw[q2]; rfl,z.pre st1⟩
  | ok y S2 =>
   refine hb.ok I1 q2 fun u s2 vy H2 ρ2 I2 ru rdu st2=>?_
   have eq:chnR o1 o2 fa fb fc env S=(match cmpD o1 x y S2 with
     | some true=>(fc env S2).bind fun z S=>cmpR o2 y z S
     | some false=>.ok (.bl false) S2
     | none=>.bad):=by rw[chnR,q]; simp only[Rk0]; rw[q2]; rfl
   cases q3:cmpD o1 x y S2 with
   | none=>rw[eq,q3] at nb; exact absurd rfl nb
   | some r =>
    have e3:cmpR o1 x y S2=.ok (.bl r) S2:=by unfold cmpR; rw[q3]
    refine wpAny_mono (ho1 pins s2 σ H2 ρ2 S2 env x y vx vy v u (fun _ _=>False) I2 (by rw[e3]; exact fun z=>nomatch z) (rd.mono st2) rv rdu ru) (fun d s3 z=>?_) fun _ _ z=>z.elim
    rw[e3] at z;obtain⟨d',S3,e4,w,H3,ρ3,J3,rw3,rd3,sr3,st3⟩:=z;cases e4;simp only[RD] at rd3;subst rd3;cases rw3;refine⟨r,rfl,?_⟩;have I3:S0 X pins σ H3 s3 ρ3 S2 env:=I2.step J3 sr3 st3;cases r with
    | false=>exact hF v u s3 S2 H3 ρ3 (by rw[eq,q3]) I3 (st1.trans (st2.trans st3))
    | true=>exact hT v u s3 S2 y vy H3 ρ3 (by rw[eq,q3]) I3 ru (rdu.mono st3) (st1.trans (st2.trans st3))
theorem chn_last{o2:Co}{y:D}{vy:V}{u:Value}{W:Value->Shared->Prop}{Ev:Value->Shared->Prop}{ρ0:List Addr}{H0:Hp}(ho2:Op2 X (compareOp (opC o2)) (cmpR o2))(hc:DE X c fc)(I:S0 X pins σ H s ρ S env)(ru:RelV vy u)(rd:RD X.K ρ H y vy)(st0:Stp X.K ρ0 ρ H0 H)
  (nb:((fc env S).bind fun z S=>cmpR o2 y z S)≠.bad) (hE:∀ x s',ExP X pins σ ρ0 H0 ((fc env S).bind fun z S=>cmpR o2 y z S) x s'->Ev x s')
  (hW:∀ r S3 s3 H3 ρ3,((fc env S).bind fun z S=>cmpR o2 y z S)=.ok (.bl r) S3->S0 X pins σ H3 s3 ρ3 S3 env->Stp X.K ρ0 ρ3 H0 H3->W (.bool r) s3) :
  wpAny (model X.prog X.w) X.A (eval c X.env) (fun w s1=>wpAny (model X.prog X.w) X.A (compareOp (opC o2) u w) W Ev s1) Ev s:=by
 cases q:fc env S with
 | bad=>rw[q] at nb; exact absurd rfl nb
 | ex n S1=>exact hc.ex I q fun x s' z=>hE x s' ⟨n,S1,by rw[q]; rfl,z.pre st0⟩
 | ok z S1 =>
  rw[q] at nb;simp only[Rk0] at nb;refine hc.ok I q fun w s1 vz H1 ρ1 I1 rv rdz st1=>?_
  obtain⟨r,e1,e2⟩:=cmpR_bl nb;refine wpAny_mono (ho2 pins s1 σ H1 ρ1 S1 env y z vy vz u w (fun _ _=>False) I1 nb (rd.mono st1) ru rdz rv) (fun d s3 zz=>?_) fun _ _ z=>z.elim
  rw[e2] at zz;obtain⟨d',S3,e4,w',H3,ρ3,J3,rw3,rd3,sr3,st3⟩:=zz;cases e4;simp only[RD] at rd3;subst rd3;cases rw3;exact hW r S1 s3 H3 ρ3 (by rw[q]; exact e2) (I1.step J3 sr3 st3) (st0.trans (st1.trans st3))
theorem d_chn{o1 o2:Co}(ho1:Op2 X (compareOp (opC o1)) (cmpR o1))(ho2:Op2 X (compareOp (opC o2)) (cmpR o2))(ha:DE X a fa)(hb:DE X b fb)(hc:DE X c fc)(hm:lastMarks [opC o1,opC o2] [b,c]=false) :
  DE X (.Compare a [opC o1,opC o2] [b,c] pos) (chnR o1 o2 fa fb fc):=by
 intro pins s σ H ρ S env I nb;refine Compare_chain (wpAny_mono (chn_core (W:=fun v u r s3=>if r=true then wpAny (model X.prog X.w) X.A (compareChain pos u [opC o2] [eval c X.env]) (OkP X pins σ ρ H (chnR o1 o2 fa fb fc env S)) (ExP X pins σ ρ H (chnR o1 o2 fa fb fc env S)) s3 else OkP X pins σ ρ H (chnR o1 o2 fa fb fc env S) (.bool false) s3) ho1 ha hb I nb (fun _ _ z=>z) ?_ ?_)
  (fun v s1 h1=>chain_link (wpAny_mono h1 (fun u s2 h2=>wpAny_mono h2 (fun d s3 ⟨r,e,w⟩=>?_) fun _ _ z=>z) fun _ _ z=>z)) fun _ _ z=>z) hm
 ·intro v u s3 S2 H2 ρ2 e I2 st2
  rw[if_neg Bool.false_ne_true,e];exact OkP.pre st2 (fin_b' I2.sr I2.inv)
 ·intro v u s3 S2 y vy H2 ρ2 e I2 ru rd st2
  rw[if_pos rfl];refine chain_last (chn_last ho2 hc I2 ru rd st2 (by rw[<- e]; exact nb) (fun x s' z=>by rw[e]; exact z) fun r S3 s4 H3 ρ3 e3 I3 st3=>?_)
  rw[e,e3];exact OkP.pre st3 (fin_b' I3.sr I3.inv)
 ·subst e
  refine wpAny_truthy_bool ?_;cases r with
  | true=>rw[if_pos rfl] at w; exact ite_tt w
  | false=>rw[if_neg Bool.false_ne_true] at w; exact ite_ff w
theorem dt_chn{o1 o2:Co}(ho1:Op2 X (compareOp (opC o1)) (cmpR o1))(ho2:Op2 X (compareOp (opC o2)) (cmpR o2))(ha:DE X a fa)(hb:DE X b fb)(hc:DE X c fc)(hm:lastMarks [opC o1,opC o2] [b,c]=false) :
  DT X (.Compare a [opC o1,opC o2] [b,c] pos) (fun env S=>tst (chnR o1 o2 fa fb fc env S)):=by
 intro pins s σ H ρ S env I nb;dsimp only at nb ⊢;have nb':chnR o1 o2 fa fb fc env S≠.bad:=fun z=>nb (by rw[z]; rfl)
 have ex:∀ x s',ExP X pins σ ρ H (chnR o1 o2 fa fb fc env S) x s'->ExP X pins σ ρ H (tst (chnR o1 o2 fa fb fc env S)) x s':=fun x s' ⟨n,S1,e,z⟩=>⟨n,S1,by rw[e]; rfl,z⟩
 refine isTrue_chain (wpAny_mono (chn_core (W:=fun v u r s3=>if r=true then wpAny (model X.prog X.w) X.A (testChain pos u [opC o2] [eval c X.env]) (fun b s'=>∃ S',tst (chnR o1 o2 fa fb fc env S)=.ok b S'/\∃ H' ρ',Inv X pins σ H' s'/\SR X.K ρ' S' H'/\Stp X.K ρ ρ' H H') (ExP X pins σ ρ H (tst (chnR o1 o2 fa fb fc env S))) s3
   else ∃ S',tst (chnR o1 o2 fa fb fc env S)=.ok false S'/\∃ H' ρ',Inv X pins σ H' s3/\SR X.K ρ' S' H'/\Stp X.K ρ ρ' H H') ho1 ha hb I nb' ex ?_ ?_)
  (fun v s1 h1=>test_link (wpAny_mono h1 (fun u s2 h2=>wpAny_mono h2 (fun d s3 ⟨r,e,w⟩=>?_) fun _ _ z=>z) fun _ _ z=>z)) fun _ _ z=>z) hm
 ·intro v u s3 S2 H2 ρ2 e I2 st2
  rw[if_neg Bool.false_ne_true,e];exact⟨S2,rfl,H2,ρ2,I2.inv,I2.sr,st2⟩
 ·intro v u s3 S2 y vy H2 ρ2 e I2 ru rd st2
  rw[if_pos rfl];refine test_last (chn_last ho2 hc I2 ru rd st2 (by rw[<- e]; exact nb') (fun x s' z=>ex x s' (by rw[e]; exact z)) fun r S3 s4 H3 ρ3 e3 I3 st3=>?_)
  exact wpAny_truthy_bool ⟨S3,by rw[e,e3]; rfl,H3,ρ3,I3.inv,I3.sr,st3⟩
 ·subst e
  refine wpAny_truthy_bool ?_;cases r with
  | true=>rw[if_pos rfl] at w; exact ite_tt w
  | false=>rw[if_neg Bool.false_ne_true] at w; exact ite_ff w
variable{x:Str}{p:Pos}{es:List Expr}{g:En->Sto->R (List D)}{k:Bl}{id T:String}
theorem d_bltF (hB:BlR X k (.builtin id)) (hg:Gl X x) (hm:X.mg x=none) (hv:bootBuiltins x=some (.builtin id)) (ha:DA X (e :: es) g) (hn:x ≠ "__name__") (hdb:(x == ("__debug__" : Str))=false)
  (he:starEach (e :: es) X.env=(false,eval e X.env) :: starEach es X.env) (hpl:(backTo pos (starEach es X.env)).any (·.1)=false):DE X (.Call (.Name x p) (e :: es) [] pos) (fun env S=>(g env S).bind fun xs S=>bltD k xs S):=by
 intro pins s σ H ρ S env I nb;dsimp only at nb ⊢;refine wpAny_Call_Name_kw (ld_blt I.inv hg hm hv ?_ hn hdb);cases q:g env S with
 | bad=>rw[q] at nb; exact absurd rfl nb
 | ex n S1=>exact PyProof.Rows.callWith_builtin1 (ha.ex I q fun x s' z=>⟨n,S1,rfl,z⟩) he hpl
 | ok ds S1 =>
  rw[q] at nb;refine PyProof.Rows.callWith_builtin1 (ha.ok I q fun us s1 vs H1 ρ1 I1 rv rd st1=>?_) he hpl
  exact wpAny_mono (hB pins s1 σ H1 ρ1 S1 env ds vs us (fun _ _=>False) I1 rd rv nb) (fun w s2 z=>z.pre st1) fun _ _ z=>z.elim
theorem d_bltT (hB:BlR X k (.type T)) (hg:Gl X x) (hm:X.mg x=none) (hv:bootBuiltins x=some (.type T)) (ha:DA X (e :: es) g) (hn:x ≠ "__name__") (hdb:(x == ("__debug__" : Str))=false)
  (he:starEach (e :: es) X.env=(false,eval e X.env) :: starEach es X.env) (hpl:(backTo pos (starEach es X.env)).any (·.1)=false):DE X (.Call (.Name x p) (e :: es) [] pos) (fun env S=>(g env S).bind fun xs S=>bltD k xs S):=by
 intro pins s σ H ρ S env I nb;dsimp only at nb ⊢;refine wpAny_Call_Name_kw (ld_blt I.inv hg hm hv ?_ hn hdb);cases q:g env S with
 | bad=>rw[q] at nb; exact absurd rfl nb
 | ex n S1=>exact PyProof.Rows.callWith_type1 (ha.ex I q fun x s' z=>⟨n,S1,rfl,z⟩) he hpl
 | ok ds S1 =>
  rw[q] at nb;refine PyProof.Rows.callWith_type1 (ha.ok I q fun us s1 vs H1 ρ1 I1 rv rd st1=>?_) he hpl
  exact wpAny_mono (hB pins s1 σ H1 ρ1 S1 env ds vs us (fun _ _=>False) I1 rd rv nb) (fun w s2 z=>z.pre st1) fun _ _ z=>z.elim
theorem d_glb {u:Value} {d:D} (hg:Gl X x) (hm:X.mg x=some u) (hd:∀ ρ H,∃ v,RelV v u/\RD X.K ρ H d v) (hdb:(x == ("__debug__" : Str))=false):DE X (.Name x p) (fun _ S=>.ok d S):=by
 intro pins s σ H ρ S env I nb;obtain⟨v,rv,rd⟩:=hd ρ H;exact ld_glob I.inv hg hm (.mk .refl I.inv rv rd I.sr) hdb
theorem d_mthL {m:Mt} {name:Str} {apos cpos:Pos} {o:Expr} {fo:En->Sto->R D} (slot:Slot "list" name id) (hty:typeOf (.builtin id)=pure (.type "method_descriptor")) (hM:MtD X m id) (hr:∀ x S,rcvOk m x S=true->∃ n xs,x=.ref n/\lstAt S n=some xs) (ho:DE X o fo) (ha:DA X (e :: es) g)
  (hbase:attributeBase o name X.env (eval o X.env)=eval o X.env)
  (hfew:((backTo cpos (starEach (e :: es) X.env)).all (fun x=>!x.1) && (backToKw cpos (keywordEach [] X.env)).all (fun x=>x.1.isSome) && decide ((e :: es).length + ([]:List Keyword).length + (if ([]:List Keyword).isEmpty then 0 else 1) < 30))=true)
  (hline:(apos.endLine == cpos.line)=true) (hs:starEach (e :: es) X.env=(false,eval e X.env) :: starEach es X.env) (hplain:(backTo cpos (starEach es X.env)).any (·.1)=false) :
  DE X (.Call (.Attribute o name apos) (e :: es) [] cpos) (fun env S=>(fo env S).bind fun x S=>if rcvOk m x S then (g env S).bind fun xs S=>mthD m x xs S else .bad):=by
 intro pins s σ H ρ S env I nb;dsimp only at nb ⊢;cases q:fo env S with
 | bad=>rw[q] at nb; exact absurd rfl nb
 | ex n S1=>exact wpAny_Call_method_late hbase hfew hline rfl (ho.ex I q fun x s' z=>⟨n,S1,rfl,z⟩)
 | ok x S1 =>
  rw[q] at nb;simp only[Rk0] at nb ⊢;split at nb
  ·rename_i hk
   rw[if_pos hk];obtain⟨n,xs,rfl,hx⟩:=hr x S1 hk;refine wpAny_Call_method_late hbase hfew hline rfl (ho.ok I q fun v s1 vx H1 ρ1 I1 rv rd st1=>?_)
   obtain⟨a,ws,rfl,k1,k2,k3⟩:=I1.lstR hx rd;cases rv;obtain⟨its,_,pl,_⟩:=I1.inv.list (.of k2);refine⟨"list",id,PySem.F.plainAttrs_list,slot,hty,pl.isList.typeIs,fun b eb=>?_,?_⟩
   ·cases eb
    obtain⟨ob,n',e1,c1,hd,_⟩:=pl;exact⟨ob,e1,hd⟩
   ·cases q2:g env S1 with
    | bad=>rw[q2] at nb; exact absurd rfl nb
    | ex k S2 =>
     have hA:=ha.ex (pos:=cpos) (E:=ExP X pins σ ρ H (.ex k S2:R D)) (Q:=fun us s2=>wpAny (model X.prog X.w) X.A (call (.builtin id) (.ref a :: us)) (OkP X pins σ ρ H (.ex k S2)) (ExP X pins σ ρ H (.ex k S2:R D)) s2) I1 q2 fun x s' z=>.mk st1 z
     rw[hs] at hA ⊢;exact Calls.callWith_builtin (by show(false || (backTo cpos (starEach es X.env)).any (·.1))=false; rw[hplain]; rfl) (Calls.evalArgs_plain hA)
    | ok ds S2 =>
     rw[q2] at nb;simp only[Rk0] at nb ⊢;have hA:=ha.ok (pos:=cpos) (E:=ExP X pins σ ρ H (mthD m (.ref n) ds S2)) (Q:=fun us s2=>wpAny (model X.prog X.w) X.A (call (.builtin id) (.ref a :: us)) (OkP X pins σ ρ H (mthD m (.ref n) ds S2)) (ExP X pins σ ρ H (mthD m (.ref n) ds S2)) s2) I1 q2 fun us s2 vs H2 ρ2 I2 rvs rds st2 =>
      wpAny_mono (hM pins s2 σ H2 ρ2 S2 env (.ref n) (.ref a) (.ref a) ds vs us (fun _ _=>False) I2 (rd.mono st2) rfl rds rvs nb) (fun w s3 z=>z.pre (st1.trans st2)) fun _ _ z=>z.elim
     rw[hs] at hA ⊢;exact Calls.callWith_builtin (by show(false || (backTo cpos (starEach es X.env)).any (·.1))=false; rw[hplain]; rfl) (Calls.evalArgs_plain hA)
  ·exact absurd rfl nb
end
end Z
end
section
namespace Z
open PySem PySem.Spec PyProof.Rows L2
section
variable{X:Cx}{pins:List (Addr×Obj)}{σ:L2.St}{H:Hp}{s:Shared}{ρ:List Addr}{S S':Sto}{env:En}
theorem from_len:∀ (ts:List Str) (k:Nat) (acc:Str),(textFrom k acc ts).length<=acc.length + piled ts
 | [],k,acc=>by simp[textFrom,piled]
 | t :: ts,k,acc=>by
  have ih:=from_len ts (k + 1) (acc++(if k > 0 then ", " else "" : String)++t)
  have e:(Str.ofString (if k > 0 then ", " else "")).length<=2:=by split <;> decide
  rw[textFrom,piled_cons];simp only[Str.length_append] at ih;omega
mutual
theorem shown_le:∀ p:PyData,p.showable=true->dctE p=true->p.shown.length<=szD p
 | .none,_,_=>by simp only[PyData.shown,szD]; decide
 | .bool b,_,_=>by simp only[PyData.shown,szD]; cases b <;> decide
 | .int i,h,_=>by
  simp only[PyData.showable,decide_eq_true_eq] at h;simp only[PyData.shown,szD];have:=int_text_length_le (by decide) h
  rw[PySem.ofString_length]; omega
 | .str x,_,_=>by simp only[PyData.shown,szD]; exact Nat.le_refl _
 | .list xs,h,h2=>by
  simp only[PyData.showable] at h;simp only[dctE] at h2;have ih:=shownAll_le xs h h2;simp only[PyData.shown,szD,listText,Str.length_append];have:=from_len (PyData.shownAll xs) 0 "[";have e1:(Str.ofString "[").length=1:=by decide
  have e2:(Str.ofString "]").length=1:=by decide
  omega
 | .tuple xs,h,h2=>by
  simp only[PyData.showable] at h;simp only[dctE] at h2;have ih:=shownAll_le xs h h2;simp only[PyData.shown,szD,tupleText,Str.length_append];have e1:(Str.ofString "(").length=1:=by decide
  have e2:(Str.ofString (if (PyData.shownAll xs).length == 1 then ",)" else ")")).length<=2:=by split <;> decide
  have e3:(Str.join ", " (PyData.shownAll xs)).length<=piled (PyData.shownAll xs):=by
   cases e:PyData.shownAll xs with
   | nil=>decide
   | cons t ts=>have:=join_length_add (t :: ts) (by simp); omega
  omega
 | .dict kvs,_,h2=>by
  simp only[dctE] at h2;cases kvs with
  | nil=>simp only[PyData.shown,PyData.shownKv,szD]; decide
  | cons x r=>cases h2
theorem shownAll_le:∀ ps:List PyData,PyData.showableAll ps=true->dctEs ps=true->piled (PyData.shownAll ps)<=szDs ps
 | [],_,_=>by simp[PyData.shownAll,szDs,piled]
 | p :: ps,h,h2=>by
  simp only[PyData.showableAll,bA0] at h;simp only[dctEs,bA0] at h2;have i1:=shown_le p h.1 h2.1;have i2:=shownAll_le ps h.2 h2.2;rw[PyData.shownAll,piled_cons,szDs];omega
end
theorem b_repr(hsm:∃ o,X.K.lookup sysModules=some o)(hg:X.A.guards=some [])(hu:X.A.units + 200 < cLine):BlR X .repr (.builtin "repr"):=by
 intro pins s σ H ρ S env ds vs us E I rd rv nb
 match ds,rd,nb with
 | [],_,nb=>exact absurd rfl nb
 | d :: _ :: _,_,nb=>cases d <;> exact absurd rfl nb
 | [d],rd,nb =>
  obtain⟨v,rfl,r1⟩:=rd.one;obtain⟨u,rfl,ru⟩:=rv.one;simp only[bltD] at nb ⊢;cases e:repD S d with
  | none=>rw[e] at nb; exact absurd rfl nb
  | some t =>
   dsimp only;unfold repD at e;cases e1:datD S d with
   | none=>rw[e1] at e; cases e
   | some p =>
    rw[e1] at e;dsimp only at e;split at e
    ·rename_i hz
     simp only[bA0,decide_eq_true_eq] at hz;obtain⟨⟨⟨z1,z2⟩,z3⟩,z4⟩:=hz;cases e;obtain⟨as,rr,hoff⟩:=reads_off I hsm e1 r1 ru;have hsz:p.shown.length<=sizeLine:=le_line (Nat.le_trans (shown_le p z1 z2) z4);have ref:∀ a,u=.ref a->wpAny (model X.prog X.w) X.A (call (.builtin "repr") [u]) (OkP X pins σ ρ H (.ok (.str p.shown) S)) E s:=fun a ea=>by
      subst ea;exact repr_of_reads' rr z1 (fun _=>hoff) hg (by omega) (fun _ _ q=>q) (fun h' u tk hk=>fin_s I.sr (I.inv.kept hk)) hsz
     cases rr with
     | none=>exact PySem.P.repr_of_none (fin_s I.sr (I.inv.tok _))
     | bool b=>exact PySem.P.repr_of_bool (by cases b <;> exact fin_s I.sr (I.inv.tok _))
     | int i t=>exact PySem.P.repr_of_int (by simpa only[PyData.showable,decide_eq_true_eq] using z1) (fin_s I.sr (I.inv.tok _))
     | str x t=>exact PySem.P.repr_of_str (fin_s I.sr (I.inv.tok _)) hsz
     | _=>exact ref _ rfl
    ·cases e
theorem b_int:BlR X .int (.type "int"):=by
 intro pins s σ H ρ S env ds vs us E I rd rv nb
 match ds,rd,nb with
 | [],_,nb=>exact absurd rfl nb
 | d :: _ :: _,_,nb=>cases d <;> exact absurd rfl nb
 | [d],rd,nb =>
  obtain⟨v,rfl,r1⟩:=rd.one;obtain⟨u,rfl,ru⟩:=rv.one;cases d with
  | bl b =>
   simp only[RD] at r1; subst r1;cases ru;simp only[bltD];refine call_int_bool ?_;cases b <;> exact fin_i I.sr (I.inv.tok _)
  | _=>exact absurd rfl nb
theorem vals_ints:∀ {ns:List Int} {us:List Value},IntsAre us ns->Vals (ns.map V.int) us
 | [],_,.nil=>.nil
 | _ :: ns,_,.cons n k t=>.cons ⟨_,rfl⟩ (vals_ints t)
theorem vals_bls:∀ {bs:List Bool} {us:List Value},Vals (bs.map V.bl) us->us=bs.map Value.bool
 | [],_,.nil=>rfl
 | b :: bs,_,.cons r t=>by cases r; rw[vals_bls t]; rfl
theorem rds_bls{K:PySem.W.Frag}{ρ:List Addr}{H:Hp}:∀ {bs:List Bool} {ws:List V},RDs K ρ H (bs.map D.bl) ws->ws=bs.map V.bl
 | [],ws,h=>by simp only[List.map,RDs] at h; exact h
 | b :: bs,ws,h=>by
  simp only[List.map,RDs] at h;obtain⟨v,r,rfl,h1,h2⟩:=h;simp only[RD] at h1;subst h1;rw[rds_bls h2]; rfl
theorem bls_at(I:S0 X pins σ H s ρ S env){n:Nat}{xs:List D}{bs:List Bool}{v:V}(h:lstAt S n=some xs)(hb:allBls xs=some bs)(r:RD X.K ρ H (.ref n) v):∃ a k,v=.ref a/\s.heap.get? a=some { cls:=.type "list",data:=.seq (bs.map Value.bool).toArray k }:=by
 obtain⟨a,ws,rfl,ha,hv,hr⟩:=I.lstR h r;obtain⟨_,its,k,rv,e⟩:=(show ObjOk X.prog X.w H s.heap a (.lst ws) from I.inv.hok a _ hv);have e1:=allBls_some hb;subst e1;have e2:=rds_bls hr;subst e2;rw[vals_bls rv] at e;exact⟨a,k,rfl,e⟩
theorem mth_bl{k:Mt}(hk:k=.count\/k=.index){d:D}{ds:List D}{S:Sto}(nb:mthD k d ds S≠.bad):∃ n b,d=.ref n/\ds=[.bl b]:=by
 rcases hk with rfl | rfl <;> (
  cases d with
  | ref n =>
   cases ds with
   | nil=>exact absurd rfl nb
   | cons x r =>
    cases r with
    | nil =>
     cases x with
     | bl b=>exact⟨n,b,rfl,rfl⟩
     | _=>exact absurd rfl nb
    | cons _ _=>cases x <;> exact absurd rfl nb
  | _=>cases ds <;> exact absurd rfl nb)
theorem m_count:MtD X .count "list.count" := by
 intro pins s σ H ρ S env d v u ds vs us E I rd rv rds rvs nb;obtain⟨n,b,rfl,rfl⟩:=mth_bl (.inl rfl) nb;obtain⟨y,rfl,r1⟩:=rds.one;simp only[RD] at r1; subst r1;obtain⟨w,rfl,rw1⟩:=rvs.one;cases rw1;simp only[mthD] at nb ⊢;cases e:lstAt S n with
 | none=>rw[e] at nb; exact absurd rfl nb
 | some xs =>
  rw[e] at nb;simp only[Option.bind_some] at nb ⊢;cases e2:allBls xs with
  | none=>rw[e2] at nb; exact absurd rfl nb
  | some bs =>
   dsimp only;obtain⟨a,k,rfl,ha⟩:=bls_at I e e2 rd;cases rv;refine call_meets PySem.F.slot_list_count ⟨_,ha,rfl⟩ PySem.F.entry_list_count (PySem.F.args_list_count_2 _ _) (SeqAt.list_countAt a _ k none #[] (.bool b) fun y=>match y with | .bool c=>c == b | _=>false) ⟨ha,fun y hy=>?_,?_⟩
   ·have hy':y∈bs.map Value.bool:=by simpa using hy
    obtain⟨c,_,rfl⟩:=List.mem_map.mp hy';exact SeqAt.EqAt.bool_bool c b
   ·have ec:(bs.map Value.bool).countP (fun y=>match y with | .bool c=>c == b | _=>false)=bs.countP (· == b):=by rw[List.countP_map]; rfl
    simp only[List.toList_toArray] at *;rw[ec];exact fin_i I.sr (I.inv.tok _)
theorem m_index:MtD X .index "list.index" := by
 intro pins s σ H ρ S env d v u ds vs us E I rd rv rds rvs nb;obtain⟨n,b,rfl,rfl⟩:=mth_bl (.inr rfl) nb;obtain⟨y,rfl,r1⟩:=rds.one;simp only[RD] at r1; subst r1;obtain⟨w,rfl,rw1⟩:=rvs.one;cases rw1;simp only[mthD] at nb ⊢;cases e:lstAt S n with
 | none=>rw[e] at nb; exact absurd rfl nb
 | some xs =>
  rw[e] at nb;simp only[Option.bind_some] at nb ⊢;cases e2:allBls xs with
  | none=>rw[e2] at nb; exact absurd rfl nb
  | some bs =>
   rw[e2] at nb;dsimp only at nb ⊢;cases e3:bs.findIdx? (· == b) with
   | none=>rw[e3] at nb; exact absurd rfl nb
   | some i =>
    dsimp only;obtain⟨a,k,rfl,ha⟩:=bls_at I e e2 rd;cases rv;obtain⟨hi,h1,h2⟩:=List.findIdx?_eq_some_iff_getElem.mp e3;have hsz:bs.length<=sizeLine:=by
     obtain⟨a',ws,_,_,hv,hr⟩:=I.lstR e rd;obtain⟨z,_⟩:=(show ObjOk X.prog X.w H s.heap a' (.lst ws) from I.inv.hok a' _ hv);rw[<- hr.length,allBls_some e2,List.length_map] at z;exact z
    have hsm:(i:Int) < 2 ^ 63 - 1:=by
     have:sizeLine < 2 ^ 62:=by decide
     have e62:(2:Int) ^ 63 - 1=9223372036854775807:=by decide
     have e63:(2:Nat) ^ 62=4611686018427387904:=by decide
     omega
    refine call_meets PySem.F.slot_list_index ⟨_,ha,rfl⟩ PySem.F.entry_list_index (PySem.F.args_list_index_2 _ _) (SeqAt.list_indexAt a (bs.map Value.bool).toArray k none #[] (.bool b) (fun y=>match y with | .bool c=>c == b | _=>false) i (by simpa using hi) hsm (by simpa using h1) fun m hm hlt=>?_) ⟨ha,fun y hy=>?_,fin_i I.sr (I.inv.tok _)⟩
    ·have:=h2 m hlt
     simpa using this
    ·have hy':y∈bs.map Value.bool:=by simpa using hy
     obtain⟨c,_,rfl⟩:=List.mem_map.mp hy';exact SeqAt.EqAt.bool_bool c b
end
end Z
end
section
namespace Z
open PySem PySem.Spec PyProof.Rows L2
theorem numb_app:∀ (n:Nat) (l:List D) (x:D),numb n (l++[x])=numb n l++[.tup [.int (n + l.length:Nat),x]]
 | n,[],x=>by simp only[List.nil_append,numb,List.length_nil,Nat.add_zero]
 | n,y :: l,x=>by
  have ih:=numb_app (n + 1) l x;simp only[List.cons_append,numb,ih,List.length_cons];have e:n + 1 + l.length=n + (l.length + 1):=by omega
  rw[e]
theorem upd_swap{H:Hp}{a b:Addr}{o u:HO}(h:a≠b):upd (upd H a o) b u=upd (upd H b u) a o:=by
 funext c
 unfold upd
 by_cases h1:c=a
 ·subst h1; simp[h]
 ·by_cases h2:c=b
  ·subst h2; simp[h1]
  ·simp[h1,h2]
section
variable{prog:Program}{w:World}{A:Around}{E:Value->Shared->Prop}{s:Shared}{k:Bool}{e it a:Addr}{n:Nat}{xs:Array Value}{x:Value}
theorem ena_next{Q:Option Value->Shared->Prop}(hne:e≠it)(he:EnA s.heap e it n)(hi:ItK k s.heap it a n)(ha:SqK k s.heap a xs)(hx:xs[n]?=some x)
  (hQ:∀ h',EnA h' e it ((n:Int) + 1)->ItK k h' it a (n + 1)->h'.get? s.heap.objs.size=some { cls:=.type "tuple",data:=.seq #[.int n s.toks,x] } ->
   (∀ b o,b≠e->b≠it->s.heap.get? b=some o->h'.get? b=some o)->Q (some (.ref s.heap.objs.size)) { s with heap:=h',toks:=s.toks + 1 }):wpAny (model prog w) A (pyNext (.ref e)) Q E s:=by
 have hT:s.TypeIs (.ref e) "enumerate" := by obtain⟨f0,f1,old,he,_⟩:=he; exact⟨_,he,rfl⟩
 unfold pyNext;exact wpAny_bind (wpAny_attempt (wpAny_callSpecial?_slot (name:=Str.ofString "__next__") hT F.slot_enumerate_next (wpAny_call_entry F.slot_enumerate_next hT F.entry_enumerate_next (ena_item hne he hi ha hx fun h' q1 q2 q3 q4=>wpAny_pure (hQ h' q1 q2 q3 q4)) (F.args_enumerate_next_1 _))))
theorem ena_stop{Q:Option Value->Shared->Prop}(hh:A.handled=none)(he:EnA s.heap e it n)(hi:ItK k s.heap it a n)(ha:SqK k s.heap a xs)(hx:xs[n]?=none)
  (hQ:∀ h',Heap.ExtBut it s.heap h'->Q none { s with heap:=h' }):wpAny (model prog w) A (pyNext (.ref e)) Q E s:=by
 obtain⟨f0,f1,old,he,_⟩:=he;have hT:s.TypeIs (.ref e) "enumerate" := ⟨_,he,rfl⟩;unfold pyNext;refine wpAny_bind (wpAny_attempt (wpAny_callSpecial?_slot (name:=Str.ofString "__next__") hT F.slot_enumerate_next (wpAny_call_entry F.slot_enumerate_next hT F.entry_enumerate_next ?_ (F.args_enumerate_next_1 _))));show wpAny _ _ (field (.ref e) 2 >>= _) _ _ _; refine wpAny_bind (wpAny_field he rfl (x:=.ref it) rfl (wpAny_bind (endK hh hi ha hx fun h' x he' hx'=>?_)))
 obtain⟨o,ho,hc⟩:=hx';exact wpAny_bind (wpAny_isInstance (T := "StopIteration") (b:=true) ⟨o,ho,hc⟩ isSubtype_stop (wpAny_pure (hQ _ he')))
end
section
variable{X:Cx}{pins:List (Addr×Obj)}{σ:L2.St}{ρ:List Addr}{S:Sto}
theorem rd_upd{H:Hp}{a p:Addr}{u o:HO}(h:Rd H a u)(hp:H p=none):Rd (upd H p o) a u:=by
 rcases h with h | ⟨ob,h⟩
 ·exact .inl ((upd_ne (ne_of_none h hp)).trans h)
 ·exact .inr ⟨ob,(upd_ne (ne_of_none h hp)).trans h⟩
theorem sqh_upd{k:Bool}{K:PySem.W.Frag}{H:Hp}{a p:Addr}{vs:List V}{o:HO}(h:SqH k K H a vs)(hp:H p=none):SqH k K (upd H p o) a vs:=by
 cases k
 ·rcases h with h | h
  ·exact .inl (rd_upd h hp)
  ·exact .inr h
 ·rcases h with h | h
  ·exact .inl (rd_upd h hp)
  ·exact .inr h
theorem fp_upd{H:Hp}{b p:Addr}{o:HO}(h:FpOk X pins H b)(hb:b≠p):FpOk X pins (upd H p o) b:=⟨(upd_ne hb).trans h.1,h.2⟩
theorem lenm_loop{A:Around}{R:Result->Shared->Prop}{res:Value}{k:Bool}{e it a L:Addr}{xs:List D}{ws:List V}(hA:A.in1.handled=none)(hne:e≠it)(hz:ws.length<=sizeLine) :
  ∀ (m i:Nat) (s:Shared) (Hb:Hp) (rs:List V),i + m=ws.length->Inv X pins σ (upd Hb L (.lst rs)) s->(∀ b∈[e,it],FpOk X pins (upd Hb L (.lst rs)) b)->EnA s.heap e it i->ItK k s.heap it a i->SqH k X.K Hb a ws->Hb L=none->SR X.K ρ S Hb->RDs X.K ρ Hb xs ws->RDs X.K ρ Hb (numb 0 (xs.take i)) rs ->
  (∀ s' Hb' rs',Inv X pins σ (upd Hb' L (.lst rs')) s'->Hb' L=none->Stp X.K ρ ρ Hb Hb'->SR X.K ρ S Hb'->RDs X.K ρ Hb' (numb 0 xs) rs'->R (.ok (.ret res)) s') ->
  codeAny (model X.prog X.w) A (.builtin "list.extend.loop" ⟨[.ref L,.ref e,res],[]⟩) R s
 | 0,i,s,Hb,rs,hm,J,hf,en,io,hsq,hL,sr,rd,rn,hR=>by
  have hlx:xs.length=ws.length:=rd.length;obtain⟨its,rv,p⟩:=seqK J (sqh_upd hsq hL);have hl:=rv.length;refine codeAny_builtin F.entry_extend_loop ?_;rw[Around.under_plainId F.plain_extend_loop _];show wpAny _ A.in1 (pyNext (.ref e) >>= _) _ _ s;refine wpAny_bind (ena_stop hA en io p (by simp; omega) fun h' kp=>?_)
  have J':Inv X pins σ (upd Hb L (.lst rs)) { s with heap:=h',toks:=s.toks }:=turnedM (t':=s.toks) J hf fun c o hc z=>by
   simp only[List.mem_cons,List.not_mem_nil,or_false,not_or] at hc;exact kp c o hc.2 z
  have e1:xs.take i=xs:=List.take_of_length_le (by omega)
  rw[e1] at rn;exact wpAny_pure (hR _ Hb rs J' hL .refl sr rn)
 | m + 1,i,s,Hb,rs,hm,J,hf,en,io,hsq,hL,sr,rd,rn,hR=>by
  have hlx:xs.length=ws.length:=rd.length;obtain⟨its,rv,p⟩:=seqK J (sqh_upd hsq hL);have hl:=rv.length;obtain⟨v,hv⟩:∃ v,ws[i]?=some v:=⟨ws[i]'(by omega),List.getElem?_eq_getElem _⟩
  obtain⟨x,hx⟩:∃ x,xs[i]?=some x:=⟨xs[i]'(by omega),List.getElem?_eq_getElem _⟩
  obtain⟨u,hu,ru⟩:=rv.get hv;have hT:upd Hb L (.lst rs) s.heap.objs.size=none:=J.hok.fresh (Nat.le_refl _);have hLT:L≠s.heap.objs.size:=fun z=>by rw[<- z,upd_same] at hT; cases hT
  have hTb:Hb s.heap.objs.size=none:=by rw[<- upd_ne (H:=Hb) (o:=.lst rs) (Ne.symm hLT)]; exact hT
  have hle:∀ b∈[e,it],b≠L:=fun b hb z=>by have:=(hf b hb).1; rw[z,upd_same] at this; cases this
  obtain⟨hrl,acc,c,ra,eo⟩:=(show ObjOk X.prog X.w (upd Hb L (.lst rs)) s.heap L (.lst rs) from J.hok L _ upd_same);have hacc:=ra.length;have hrs:rs.length=i:=by
   have:=rn.length;have q:∀ (n:Nat) (l:List D),(numb n l).length=l.length:=fun n l=>by
    induction l generalizing n with
    | nil=>rfl
    | cons y l ih=>simp only[numb,List.length_cons,ih]
   rw[q,List.length_take] at this;omega
  refine codeAny_builtin F.entry_extend_loop ?_;rw[Around.under_plainId F.plain_extend_loop _];show wpAny _ A.in1 (pyNext (.ref e) >>= _) _ _ s;refine wpAny_bind (ena_next hne en io p (x:=u) (by simpa using hu) fun h' en' io' pr kp=>?_)
  have eo':h'.get? L=some { cls:=.type "list",data:=.seq acc.toArray c }:=kp L _ (Ne.symm (hle e (by simp))) (Ne.symm (hle it (by simp))) eo
  show wpAny _ A.in1 (updateSeq L (·.push (.ref s.heap.objs.size)) >>= _) _ _ _;refine wpAny_bind ?_;have J1:Inv X pins σ (upd (upd Hb L (.lst rs)) s.heap.objs.size (.tup [.int i,v])) { s with heap:=s.heap.push { cls:=.type "tuple",data:=.seq #[.int i s.toks,u] } }:=J.laid (t':=s.toks) (fun c o z=>Heap.get?_push_of_some _ z) (Nat.le_refl _) ⟨by show 2<=sizeLine; decide,[.int i s.toks,u],.cons ⟨_,rfl⟩ (.cons ru .nil),⟨_,Heap.get?_push_size _ rfl,rfl,_,rfl⟩⟩
  have old:∀ c∈[e,it],c≠s.heap.objs.size:=fun c hc=>by
   simp only[List.mem_cons,List.not_mem_nil,or_false] at hc;rcases hc with rfl | rfl
   ·obtain⟨f0,f1,o,q,_⟩:=en; exact Nat.ne_of_lt (Heap.lt_size q)
   ·obtain⟨o,z,_⟩:=io.obj; exact Nat.ne_of_lt (Heap.lt_size z)
  have hf1:∀ c∈[e,it],FpOk X pins (upd (upd Hb L (.lst rs)) s.heap.objs.size (.tup [.int i,v])) c:=fun c hc=>fp_upd (hf c hc) (old c hc)
  have J2:Inv X pins σ (upd (upd Hb L (.lst rs)) s.heap.objs.size (.tup [.int i,v])) { s with heap:=h',toks:=s.toks + 1 }:=turnedM (s:={ s with heap:=s.heap.push { cls:=.type "tuple",data:=.seq #[.int i s.toks,u] } }) (h':=h') (t':=s.toks + 1) J1 hf1 fun c o hc z=>by
   simp only[List.mem_cons,List.not_mem_nil,or_false,not_or] at hc
   by_cases q:c=s.heap.objs.size
   ·subst q
    have z':=(Heap.get?_push_size s.heap (o:={ cls:=.type "tuple",data:=.seq #[.int i s.toks,u] }) rfl).symm.trans z;rw[<- z']; exact pr
   ·exact kp c o hc.1 hc.2 (push_old z q)
  have hmut:Mut (upd (upd Hb L (.lst rs)) s.heap.objs.size (.tup [.int i,v]) L):=by rw[upd_ne hLT,upd_same]; exact trivial
  have eS:=Heap.get?_update_self (Obj.mapSeq (·.push (Value.ref s.heap.objs.size))) eo' rfl;have oth:∀ b o,b≠L->h'.get? b=some o->(h'.update L (Obj.mapSeq (·.push (Value.ref s.heap.objs.size)))).get? b=some o:=fun b o hb q=>(Heap.get?_update_other _ _ (Ne.symm hb)).trans q
  have J3:=J2.write (x:=L) (e:=L) (o:=.lst (rs++[.ref s.heap.objs.size])) (t':=s.toks + 1) (h':=h'.update L (Obj.mapSeq (·.push (Value.ref s.heap.objs.size)))) hmut (.inl rfl) (fun b o hb q=>oth b o hb q) ⟨_,eS⟩
   ⟨by rw[List.length_append]; simp only[List.length_cons,List.length_nil]; omega,acc++[.ref s.heap.objs.size],_,ra.append (.cons (show L2.RelV (.ref s.heap.objs.size) (.ref s.heap.objs.size) from rfl) .nil),by rw[eS]; simp[Obj.mapSeq]; rfl⟩
  have eH:upd (upd (upd Hb L (.lst rs)) s.heap.objs.size (.tup [.int i,v])) L (.lst (rs++[.ref s.heap.objs.size]))=upd (upd Hb s.heap.objs.size (.tup [.int i,v])) L (.lst (rs++[.ref s.heap.objs.size])):=by
   rw[upd_swap hLT,upd_upd]
  rw[eH] at J3;have st:Stp X.K ρ ρ Hb (upd Hb s.heap.objs.size (.tup [.int i,v])):=Stp.upd hTb;have xd:RD X.K ρ Hb x v:=by
   have:=rd.get hx;obtain⟨v',h1,h2⟩:=this;rw[hv] at h1; cases h1; exact h2
  refine wpAny_updateSeq eo' rfl (wpAny_pure ⟨plainId_quiet F.plain_extend_loop _,lenm_loop hA hne hz m (i + 1) _ (upd Hb s.heap.objs.size (.tup [.int i,v])) (rs++[.ref s.heap.objs.size]) (by omega) J3 (fun b hb=>?_) ?_ ?_ (sqh_upd hsq hTb) ((upd_ne hLT).trans hL) (sr.upd hTb) (RDs.mono st _ _ rd) ?_ fun s' Hb' rs' q1 q2 q3 q4 q5=>hR s' Hb' rs' q1 q2 (st.trans q3) q4 q5⟩) (by simp; omega) (by simp; omega)
  ·exact fp_upd ⟨(upd_ne (old b hb)).trans (by have:=(hf b hb).1; rwa [upd_ne (hle b hb)] at this),(hf b hb).2⟩ (hle b hb)
  ·obtain⟨f0,f1,o,q,q2⟩:=en'; exact⟨f0,f1,o,by push_cast; exact oth _ _ (hle e (by simp)) q,q2⟩
  ·exact io'.at fun o q=>oth _ _ (hle it (by simp)) q
  ·have et:xs.take (i + 1)=xs.take i++[x]:=by rw[List.take_succ,hx]; rfl
   have en2:0 + (xs.take i).length=i:=by rw[List.length_take]; omega
   rw[et,numb_app,en2];refine RDs.append (RDs.mono st _ _ rn) ?_;simp only[RDs];refine⟨_,_,rfl,?_,rfl⟩;simp only[RD];refine⟨s.heap.objs.size,[.int i,v],rfl,.of upd_same,?_⟩;simp only[RDs];exact⟨_,_,rfl,rfl,_,_,rfl,xd.mono st,rfl⟩
theorem en_no_len:typeLookup (.type "enumerate") "__len__" = pure none:=by rw[typeLookup_type,builtinLookup_eq_fast]; kernel_rfl
theorem en_no_hint:typeLookup (.type "enumerate") "__length_hint__" = pure none:=by rw[typeLookup_type,builtinLookup_eq_fast]; kernel_rfl
structure Lnm(X:Cx)(pins:List (Addr×Obj))(σ:L2.St)(ρ:List Addr)(S:Sto)(H:Hp)(s:Shared)(k:Bool)(e it a:Addr)(xs:List D)(ws:List V):Prop where
 inv:Inv X pins σ H s
 fp:∀ b∈[e,it],FpOk X pins H b
 en:∃ old,IsEnum s.heap e it 0 old
 io:ItK k s.heap it a 0
 sq:SqH k X.K H a ws
 sr:SR X.K ρ S H
 rd:RDs X.K ρ H xs ws
 ln:ws.length<=sizeLine
 ne:e≠it
theorem lenm_init{A:Around}{R:Result->Shared->Prop}{s:Shared}{H:Hp}{k:Bool}{e it a:Addr}{xs:List D}{ws:List V}(hA:A.in1.handled=none)(q:Lnm X pins σ ρ S H s k e it a xs ws)
  (hR:∀ s' Hb' rs',Inv X pins σ (upd Hb' s.heap.objs.size (.lst rs')) s'->Hb' s.heap.objs.size=none->Stp X.K ρ ρ H Hb'->SR X.K ρ S Hb'->RDs X.K ρ Hb' (numb 0 xs) rs'->R (.ok (.ret .none)) s') :
  wpAny (model X.prog X.w) A.in1 (Builtin.«list.__init__» ⟨[.ref s.heap.objs.size,.ref e],[]⟩)
   (fun fin s'=>match fin with | .done f=>R (.ok f) s' | .again c'=>c'.quiet=true/\codeAny (model X.prog X.w) A c' R s') (fun e s'=>R (.error e) s') { s with heap:=s.heap.push { cls:=.type "list",data:=.seq #[] } }:=by
 obtain⟨old,eo⟩:=q.en;have hL:H s.heap.objs.size=none:=q.inv.hok.fresh (Nat.le_refl _);have hS:(s.heap.push { cls:=.type "list",data:=.seq #[] }).get? s.heap.objs.size=some { cls:=.type "list",data:=.seq #[] }:=Heap.get?_push_size _ rfl;generalize hLe:s.heap.objs.size=L at hS hL hR;have he:e≠L:=by rw[<- hLe]; exact Nat.ne_of_lt (Heap.lt_size eo)
 have hi:it≠L:=by obtain⟨o,z,_⟩:=q.io.obj; rw[<- hLe]; exact Nat.ne_of_lt (Heap.lt_size z)
 show wpAny _ A.in1 (do let old <- Builtin.List.listItems (.ref L); Builtin.List.listUpdate (.ref L) (fun _=>#[]); letGo old.toList.reverse; Builtin.List.listExtendWith (.ref L) (.ref e) .none) _ _ _
 refine wpAny_bind ?_;unfold Builtin.List.listItems;refine wpAny_bind (wpAny_seqItems hS rfl (wpAny_pure ?_));show wpAny _ A.in1 (updateSeq L (fun _=>#[]) >>= fun _=>letGo (#[]:Array Value).toList.reverse >>= fun _=>Builtin.List.listExtendWith (.ref L) (.ref e) .none) _ _ _
 refine wpAny_bind (wpAny_updateSeq hS rfl ?_);have hS2:=Heap.get?_update_self (Obj.mapSeq (fun _=>(#[]:Array Value))) hS rfl
 have oth:∀ b o,s.heap.get? b=some o->((s.heap.push { cls:=.type "list",data:=.seq #[] }).update L (Obj.mapSeq (fun _=>(#[]:Array Value)))).get? b=some o :=
  fun b o z=>(Heap.get?_update_other _ _ (fun h:L=b=>by rw[<- h,<- hLe] at z; exact Nat.lt_irrefl _ (Heap.lt_size z))).trans (Heap.get?_push_of_some _ z)
 refine wpAny_bind (wpAny_letGo ?_);obtain⟨c2,hS2'⟩:∃ c2,((s.heap.push { cls:=.type "list",data:=.seq #[] }).update L (Obj.mapSeq (fun _=>(#[]:Array Value)))).get? L=some { cls:=.type "list",data:=.seq #[] c2 }:=⟨_,hS2⟩
 clear hS2;generalize (s.heap.push { cls:=.type "list",data:=.seq #[] }).update L (Obj.mapSeq (fun _=>(#[]:Array Value)))=h1 at hS2' oth
 have eo1:=oth _ _ eo;have hT:Shared.TypeIs { s with heap:=h1 } (.ref e) "enumerate" := ⟨_,eo1,rfl⟩
 unfold Builtin.List.listExtendWith;refine wpAny_bind (wpAny_typeOf hT ?_);have b1:Builtin.List.listSameRef (.ref L) (.ref e)=false:=by simp[Builtin.List.listSameRef,Ne.symm he]
 have b2:(Value.type "enumerate" == Value.type "list")=false:=by decide
 have b3:(Value.type "enumerate" == Value.type "tuple")=false:=by decide
 simp only[b1,b2,b3,Bool.or_false,Bool.false_eq_true,if_false];refine wpAny_bind (wpAny_pyIter_enum eo1 ?_);refine wpAny_bind (wpAny_holding ?_);unfold Builtin.List.listLengthHint;refine wpAny_bind (wpAny_specialOf hT en_no_len ?_);show wpAny _ A.in1 (specialOf (Value.ref e) (Str.ofString "__length_hint__") >>= _) _ _ _;refine wpAny_bind (wpAny_specialOf hT en_no_hint ?_);refine wpAny_pure ?_;show wpAny _ A.in1 (rule "list.extend.makes-room" >>= fun _=>Builtin.List.listTouch (.ref L) >>= fun _ =>
  again (.builtin "list.extend.loop" ⟨[.ref L,.ref e,.none],[]⟩)) _ _ _
 refine wpAny_bind (wpAny_rule ?_);refine wpAny_bind ?_;show wpAny _ A.in1 (updateSeq L (·.push .none) >>= fun _=>updateSeq L (·.pop)) _ _ _
 refine wpAny_bind (wpAny_updateSeq hS2' rfl ?_);have hS3:=Heap.get?_update_self (Obj.mapSeq (·.push Value.none)) hS2' rfl;refine wpAny_updateSeq (hz:=by seq_fits) hS3 rfl ?_
 have hS4:=Heap.get?_update_self (Obj.mapSeq (·.pop)) hS3 rfl;have oth2:∀ b o,s.heap.get? b=some o->((h1.update L (Obj.mapSeq (·.push Value.none))).update L (Obj.mapSeq (·.pop))).get? b=some o:=fun b o z=>by
  have hb:L≠b:=fun h=>by rw[<- h,<- hLe] at z; exact Nat.lt_irrefl _ (Heap.lt_size z)
  exact(Heap.get?_update_other _ _ hb).trans ((Heap.get?_update_other _ _ hb).trans (oth b o z))
 have J:=q.inv.laid (o:=.lst []) (t':=s.toks) (h':=(h1.update L (Obj.mapSeq (·.push Value.none))).update L (Obj.mapSeq (·.pop))) oth2 (Nat.le_of_eq hLe) ⟨Nat.zero_le _,[],_,.nil,hS4⟩;have eo2:=oth2 _ _ eo;refine wpAny_pure ⟨plainId_quiet F.plain_extend_loop _,lenm_loop hA q.ne q.ln ws.length 0 _ H [] (Nat.zero_add _) J (fun b hb=>fp_upd (q.fp b hb) ?_) ⟨_,_,_,eo2,.inl rfl⟩ (q.io.at fun o z=>oth2 _ _ z) q.sq hL q.sr q.rd ?_ hR⟩
 ·simp only[List.mem_cons,List.not_mem_nil,or_false] at hb
  rcases hb with rfl | rfl
  ·exact he
  ·exact hi
 ·simp only[List.take_zero,numb,RDs]
theorem lenm_call{s:Shared}{H:Hp}{k:Bool}{e it a:Addr}{xs:List D}{ws:List V}{E:Value->Shared->Prop}(hh:X.A.handled=none)(q:Lnm X pins σ ρ S H s k e it a xs ws) :
  wpAny (model X.prog X.w) X.A (call (.type "list") [.ref e]) (OkP X pins σ ρ H (.ok (.ref S.length) (S++[.lst (numb 0 xs)]))) E s:=by
 refine callType_codes (Q₁:=fun obj s₁=>obj=.ref s.heap.objs.size/\s₁={ s with heap:=s.heap.push { cls:=.type "list",data:=.seq #[] } }) F.called_list (F.typeCall_list_1 _) F.entry_list_init
  (code_list_new _ ⟨rfl,rfl⟩) fun obj s₁ h₁=>?_
 obtain⟨rfl,rfl⟩:=h₁;have hS:(s.heap.push { cls:=.type "list",data:=.seq #[] }).get? s.heap.objs.size=some { cls:=.type "list",data:=.seq #[] }:=Heap.get?_push_size _ rfl;refine⟨⟨_,hS,rfl⟩,F.args_list_init_2 _ _,lenm_init (show X.A.in1.in1.handled=none from hh) q fun s' Hb rs J hL st sr rd=>?_⟩
 exact⟨rfl,(fin_lst J hL sr rd).pre st⟩
theorem seqH_len{s:Shared}{H:Hp}{k:Bool}{a:Addr}{vs:List V}(I:Inv X pins σ H s)(h:SqH k X.K H a vs):vs.length<=sizeLine:=by
 cases k
 ·obtain⟨its,rv,p,z⟩:=I.tuple h; exact z
 ·obtain⟨its,rv,p,z⟩:=I.list h; exact z
theorem d_lenm {a:Expr} {f:En->Sto->R D} {p p2 pos pos2:Pos} (hc:X.calm=true) (hgl:Gl X "list") (hml:X.mg "list" = none) (hge:Gl X "enumerate") (hme:X.mg "enumerate" = none) (ha:DE X a f) (hs:starEach [a] X.env=(false,eval a X.env) :: starEach [] X.env) :
  DE X (.Call (.Name "list" p) [.Call (.Name "enumerate" p2) [a] [] pos2] [] pos) (fun env S=>(f env S).bind fun x S=>match seqD S x with | some xs=>.ok (.ref S.length) (S++[.lst (numb 0 xs)]) | none=>.bad):=by
 intro pins s σ H ρ S env I nb;dsimp only at nb ⊢;refine wpAny_Call_Name_kw (ld_blt I.inv hgl hml (u:=.type "list") (by decide +kernel) (PyProof.Rows.callWith_type1 (PyProof.Rows.spliced_more ?_ rfl) rfl rfl) (by decide) rfl)
 refine wpAny_Call_Name_kw (ld_blt I.inv hge hme (u:=.type "enumerate") (by decide +kernel) (PyProof.Rows.callWith_type1 (PyProof.Rows.spliced_more ?_ hs) hs rfl) (by decide) rfl)
 cases q:f env S with
 | bad=>rw[q] at nb; exact absurd rfl nb
 | ex n S1=>exact ha.ex I q fun x s' z=>⟨n,S1,rfl,z⟩
 | ok d S1 =>
  rw[q] at nb;simp only[Rk0] at nb ⊢;cases e:seqD S1 d with
  | none=>rw[e] at nb; exact absurd rfl nb
  | some xs =>
   dsimp only;refine ha.ok I q fun u s1 v H1 ρ1 I1 rv rd st1=>PyProof.Rows.spliced_none ?_
   obtain⟨b,ws,rfl,hq,hr⟩:=I1.seq e rd;cases rv;obtain⟨k,hk⟩:∃ k,SqH k X.K H1 b ws:=by
    rcases hq with hq | hq
    ·exact⟨true,hq⟩
    ·exact⟨false,hq⟩
   obtain⟨its,rvs,pk⟩:=seqK I1.inv hk;refine en_call pk fun h' st kp=>PyProof.Rows.spliced_none ?_
   have J:Inv X pins σ H1 { s1 with heap:=h' }:=I1.inv.kept (t':=s1.toks) kp
   have L:Lnm X pins σ ρ1 S1 H1 { s1 with heap:=h' } k (s1.heap.objs.size + 1) s1.heap.objs.size b xs ws:=⟨J,fun c hb=>by
    have hb':s1.heap.objs.size<=c:=by
     simp only[List.mem_cons,List.not_mem_nil,or_false] at hb;rcases hb with rfl | rfl
     ·exact Nat.le_succ _
     ·exact Nat.le_refl _
    exact I1.inv.fpOk hb' (I1.inv.hok.fresh hb'),st.eo,st.io,hk,I1.sr,hr,seqH_len I1.inv hk,Nat.succ_ne_self _⟩
   exact wpAny_mono (lenm_call (E:=fun _ _=>False) (I1.inv.ok.hd hc) L) (fun w s2 z=>z.pre st1) fun _ _ z=>z.elim
end
end Z
end
section
namespace Z
open PySem PySem.Spec PyProof.Rows L2
noncomputable def visB(sc:Scope)(x:Str):Bool:=match sc.names.lookup x with
 | some .local=>true
 | some .cell=>true
 | some .free=>true
 | _=>false
noncomputable def glB(sc:Scope)(x:Str):Bool:=match sc.names.lookup x with
 | some .globalImplicit=>true
 | _=>false
noncomputable def locB(top:Bool)(sc:Scope)(x:Str):Bool:=match sc.names.lookup x with
 | some .local=>true
 | some .cell=>top
 | _=>false
noncomputable def okNm(x:Str):Bool:=!(x == ("__debug__" : Str)) && !(x == ("__classdict__" : Str)) && !decide (x = "__name__")
theorem visB_ok{sc:Scope}{x:Str}(h:visB sc x=true):Vis sc x:=by
 unfold visB at h;split at h
 ·exact .inl (by assumption)
 ·exact .inr (.inl (by assumption))
 ·exact .inr (.inr (by assumption))
 ·cases h
theorem glB_ok{X:Cx}{sc:Scope}{x:Str}(hs:X.env.scope=sc)(h:glB sc x=true):Gl X x:=by
 subst hs;unfold glB at h;split at h
 ·assumption
 ·cases h
theorem locB_ok{X:Cx}{top:Bool}{sc:Scope}{x:Str}(hs:X.env.scope=sc)(ht:top=true->∀ x,X.fn x=true)(h:locB top sc x=true):Loc X.env.scope x/\(X.fn x=true\/X.env.scope.names.lookup x=some .local):=by
 subst hs;unfold locB at h;split at h
 ·exact⟨.inl (by assumption),.inr (by assumption)⟩
 ·exact⟨.inr (by assumption),.inl (ht h x)⟩
 ·cases h
theorem okNm_ok{x:Str}(h:okNm x=true):(x == ("__debug__" : Str))=false/\(x == ("__classdict__" : Str))=false/\x ≠ "__name__" := by
 simp only[okNm,bA0,Bool.not_eq_true',decide_eq_false_iff_not] at h;exact⟨h.1.1,h.1.2,h.2⟩
noncomputable def noStar:Expr->Bool
 | .Starred _ _=>false
 | _=>true
theorem star_cons{e:Expr}{es:List Expr}{env:PySem.Env}(h:noStar e=true):starEach (e :: es) env=(false,eval e env) :: starEach es env:=by
 cases e <;> first | rfl | cases h
theorem star_any{es:List Expr}{env:PySem.Env}{pos:Pos}(h:es.all noStar=true):(backTo pos (starEach es env)).any (·.1)=false:=by
 induction es with
 | nil=>rfl
 | cons e es ih =>
  rw[List.all_cons,bA0] at h;rw[star_cons h.1];show(false || (backTo pos (starEach es env)).any (·.1))=false;rw[ih h.2]; rfl
theorem star_all{es:List Expr}{env:PySem.Env}{pos:Pos}(h:es.all noStar=true):(backTo pos (starEach es env)).all (fun x=>!x.1)=true:=by
 induction es with
 | nil=>rfl
 | cons e es ih =>
  rw[List.all_cons,bA0] at h;rw[star_cons h.1];show(true && (backTo pos (starEach es env)).all (fun x=>!x.1))=true
  rw[ih h.2]; rfl
noncomputable def noSlice:Expr->Bool
 | .Name _ _=>true
 | .Constant _ _ _=>true
 | .BinOp _ _ _ _=>true
 | .UnaryOp _ _ _=>true
 | .Call _ _ _ _=>true
 | .Subscript _ _ _=>true
 | .IfExp _ _ _ _=>true
 | .Compare _ _ _ _=>true
 | _=>false
theorem noSlice_ok{b:Expr}(h:noSlice b=true):PlainIx b:=by
 cases b <;> first | (intro o i; rfl) | cases h
noncomputable def noSet:Expr->Bool
 | .Set _ _ _=>false
 | _=>true
theorem noSet_ok{e:Expr}{env:PySem.Env}(h:noSet e=true)(x:Value):foldedSetIterable e env x=pure x:=by
 cases e <;> first | rfl | cases h
noncomputable def rcvE:Expr->Bool
 | .Name _ _=>true
 | .Constant _ _ _=>true
 | _=>false
theorem rcvE_ok{o:Expr}{name:Str}{env:PySem.Env}(h:rcvE o=true):attributeBase o name env (eval o env)=eval o env:=by
 cases o <;> first | rfl | cases h
noncomputable def isCo(c:Co)(o:CmpOp):Bool:=decide (o=opC c)
theorem isCo_ok{c:Co}{o:CmpOp}(h:isCo c o=true):o=opC c:=of_decide_eq_true h
noncomputable def isBo(c:Bo)(o:Operator):Bool:=decide (o=opB c)
theorem isBo_ok{c:Bo}{o:Operator}(h:isBo c o=true):o=opB c:=of_decide_eq_true h
noncomputable def cstB:D->Const->Bool
 | .int i,.int j=>i == j
 | .bl i,.bool j=>i == j
 | .non,.none=>true
 | .str i,.str j=>decide (i=j)
 | _,_=>false
noncomputable def blNm:Bl->Option (Str×Bool×String)
 | .len=>some ("len",true,"len")
 | .tuple=>some ("tuple",false,"tuple")
 | .list=>some ("list",false,"list")
 | .all=>some ("all",true,"all")
 | .sum=>some ("sum",true,"sum")
 | .max=>some ("max",true,"max")
 | .min=>some ("min",true,"min")
 | .repr=>some ("repr",true,"repr")
 | .int=>some ("int",false,"int")
 | _=>none
noncomputable def quiB:Bl->Bool
 | .len=>true
 | .tuple=>true
 | .list=>true
 | .repr=>true
 | .int=>true
 | _=>false
noncomputable def varT:Tg->Bool
 | .var _=>true
 | _=>false
noncomputable def tyB(sc:Scope)(t:Ty)(nm:Str):Bool:=match t with
 | .cls c=>decide (clsNm c=some nm)
 | .int=>decide (nm = "int")
 | .bool=>decide (nm = "bool")
 | .str=>decide (nm = "str")
 | .tuple=>decide (nm = "tuple")
 | .list=>decide (nm = "list")
 | .dict=>decide (nm = "dict")
 | .valueError=>decide (nm = "ValueError")
noncomputable def bltT:Ty->Bool
 | .cls _=>false
 | .valueError=>false
 | _=>true
noncomputable def tyM(sc:Scope)(ts:List Ty)(y:Expr):Bool:=match y with
 | .Name nm _=>glB sc nm && okNm nm && (match ts with | [t]=>tyB sc t nm | _=>false)
 | .Tuple ys _ _=>(match ys with
  | [.Name n1 _,.Name n2 _]=>glB sc n1 && okNm n1 && glB sc n2 && okNm n2 && (match ts with | [t1,t2]=>bltT t1 && bltT t2 && tyB sc t1 n1 && tyB sc t2 n2 | _=>false)
  | _=>false)
 | _=>false
noncomputable def mtNm:Mt->Option Str
 | .append=>some "append"
 | .count=>some "count"
 | .index=>some "index"
 | _=>none
noncomputable def relS(scope sc:Scope):Scope:={ scope with names:=scope.names.map fun(n,k)=>if (k == .free && sc.kind == .function && sc.names.lookup n == some .cell) then (n,.cell) else (n,k) }
noncomputable def owns(scope:Scope):List Str:=scope.names.filterMap fun x=>match x.2 with
 | .local=>some x.1
 | _=>none
noncomputable def isFn(k:ScopeKind):Bool:=match k with
 | .function=>true
 | _=>false
theorem isFn_ok{k:ScopeKind}(h:isFn k=true):k=.function:=by cases k <;> first | rfl | cases h
noncomputable def cellOr(k:Option NameKind):Bool:=match k with
 | some .cell=>true
 | some .free=>true
 | _=>false
noncomputable def notCell(k:NameKind):Bool:=match k with
 | .cell=>false
 | _=>true
noncomputable def isLoc(k:Option NameKind):Bool:=match k with
 | some .local=>true
 | _=>false
noncomputable def nodupB:List Str->Bool
 | []=>true
 | x :: r=>!(r.contains x) && nodupB r
theorem nodupB_ok:∀ {l:List Str},nodupB l=true->l.Nodup
 | [],_=>List.nodup_nil
 | x :: r,h=>by
  simp only[nodupB,bA0,Bool.not_eq_true',List.contains_eq_mem] at h;exact List.nodup_cons.mpr ⟨by simpa using h.1,nodupB_ok h.2⟩
noncomputable def scB(outer sc:Scope)(N:List Str):Bool :=
 isFn sc.kind && isFn outer.kind && nodupB (blkN N (owns sc)) && sc.names.all (fun y=>notCell y.2) &&
 sc.names.all (fun y=>match y.2 with | .free=>cellOr (outer.names.lookup y.1) | .local=>isLoc (sc.names.lookup y.1) | _=>true) &&
 N.all (fun y=>!((owns sc).contains y) || (sc.names.lookup (Str.ofString "0" ++ y)).isNone)
theorem scB_ok{outer sc:Scope}{N:List Str}(h:scB outer sc N=true):ScOk outer sc N (owns sc):=by
 simp only[scB,bA0] at h;obtain⟨⟨⟨⟨⟨h1,h2⟩,h3⟩,h4⟩,h5⟩,h6⟩:=h;have hloc:∀ x∈sc.names,x.2=.local->sc.names.lookup x.1=some .local:=fun x hx hl=>by
  have:=List.all_eq_true.mp h5 x hx;rw[hl] at this;dsimp only at this;unfold isLoc at this;split at this
  ·assumption
  ·cases this
 refine⟨isFn_ok h1,isFn_ok h2,nodupB_ok h3,fun y hy hk=>?_,fun y hy hf=>?_,fun y hy=>?_,fun y hy=>?_,hloc,fun y hy hc=>?_⟩
 ·have:=List.all_eq_true.mp h4 y hy
  rw[hk] at this;cases this
 ·have:=List.all_eq_true.mp h5 y hy
  rw[hf] at this;dsimp only at this;unfold cellOr at this;split at this
  ·exact .inl (by assumption)
  ·exact .inr (by assumption)
  ·cases this
 ·exact List.mem_filterMap.mpr ⟨(y,.local),lookup_mem hy,rfl⟩
 ·obtain⟨x,hx,e⟩:=List.mem_filterMap.mp hy
  obtain⟨n,k⟩:=x;cases k with
  | «local» =>
   have e':n=y:=Option.some.inj e;subst e';exact hloc (n,.local) hx rfl
  | _=>cases e
 ·have:=List.all_eq_true.mp h6 y hy
  rw[hc] at this;simp only[Bool.not_true,Bool.false_or,Option.isNone_iff_eq_none] at this;exact this
noncomputable def needT:It->Bool
 | .enm _=>true
 | _=>false
noncomputable def tgIt(t:Tg)(it:It):Bool:=!needT it || !varT t
noncomputable def calE:Expr->Bool
 | .Name _ _=>true
 | .Subscript _ _ _=>true
 | _=>false
theorem any_some{α:Type}{o:Option α}{p:α->Bool}(h:o.any p=true):∃ x,o=some x/\p x=true:=by
 cases o with
 | none=>cases h
 | some x=>exact⟨x,rfl,h⟩
noncomputable def vNm(e:Expr):Option Str:=match e with
 | .Name x _=>some x
 | _=>none
theorem vNm_ok{e:Expr}{x:Str}(h:vNm e=some x):∃ p,e=.Name x p:=by
 unfold vNm at h;split at h
 ·cases h; exact⟨_,rfl⟩
 ·cases h
noncomputable def vCst(e:Expr):Option Const:=match e with
 | .Constant c _ _=>some c
 | _=>none
theorem vCst_ok{e:Expr}{x:Const}(h:vCst e=some x):∃ k p,e=.Constant x k p:=by
 unfold vCst at h;split at h
 ·cases h; exact⟨_,_,rfl⟩
 ·cases h
noncomputable def vUn(e:Expr):Option (UnaryOp×Expr):=match e with
 | .UnaryOp o x _=>some (o,x)
 | _=>none
theorem vUn_ok{e:Expr}{z:UnaryOp×Expr}(h:vUn e=some z):∃ p,e=.UnaryOp z.1 z.2 p:=by
 unfold vUn at h;split at h
 ·cases h; exact⟨_,rfl⟩
 ·cases h
noncomputable def isUS(o:UnaryOp):Bool:=decide (o=.USub)
theorem isUS_ok{o:UnaryOp}(h:isUS o=true):o=.USub:=of_decide_eq_true h
noncomputable def isNt(o:UnaryOp):Bool:=decide (o=.Not)
theorem isNt_ok{o:UnaryOp}(h:isNt o=true):o=.Not:=of_decide_eq_true h
noncomputable def vTup(e:Expr):Option (List Expr):=match e with
 | .Tuple xs _ _=>some xs
 | _=>none
theorem vTup_ok{e:Expr}{x:List Expr}(h:vTup e=some x):∃ k p,e=.Tuple x k p:=by
 unfold vTup at h;split at h
 ·cases h; exact⟨_,_,rfl⟩
 ·cases h
noncomputable def vLst(e:Expr):Option (List Expr):=match e with
 | .List xs _=>some xs
 | _=>none
theorem vLst_ok{e:Expr}{x:List Expr}(h:vLst e=some x):∃ p,e=.List x p:=by
 unfold vLst at h;split at h
 ·cases h; exact⟨_,rfl⟩
 ·cases h
noncomputable def vBin(e:Expr):Option (Expr×Operator×Expr):=match e with
 | .BinOp x o y _=>some (x,o,y)
 | _=>none
theorem vBin_ok{e:Expr}{z:Expr×Operator×Expr}(h:vBin e=some z):∃ p,e=.BinOp z.1 z.2.1 z.2.2 p:=by
 unfold vBin at h;split at h
 ·cases h; exact⟨_,rfl⟩
 ·cases h
noncomputable def one1{α:Type}(l:List α):Option α:=match l with
 | [x]=>some x
 | _=>none
theorem one1_ok{α:Type}{l:List α}{x:α}(h:one1 l=some x):l=[x]:=by
 unfold one1 at h;split at h
 ·cases h; rfl
 ·cases h
noncomputable def two1{α:Type}(l:List α):Option (α×α):=match l with
 | [x,y]=>some (x,y)
 | _=>none
theorem two1_ok{α:Type}{l:List α}{z:α×α}(h:two1 l=some z):l=[z.1,z.2]:=by
 unfold two1 at h;split at h
 ·cases h; rfl
 ·cases h
noncomputable def vCmp(e:Expr):Option (Expr×List CmpOp×List Expr):=match e with
 | .Compare x os ys _=>some (x,os,ys)
 | _=>none
theorem vCmp_ok{e:Expr}{z:Expr×List CmpOp×List Expr}(h:vCmp e=some z):∃ p,e=.Compare z.1 z.2.1 z.2.2 p:=by
 unfold vCmp at h;split at h
 ·cases h; exact⟨_,rfl⟩
 ·cases h
noncomputable def vBoo(e:Expr):Option (BoolOp×List Expr×Pos):=match e with
 | .BoolOp o xs p=>some (o,xs,p)
 | _=>none
theorem vBoo_ok{e:Expr}{z:BoolOp×List Expr×Pos}(h:vBoo e=some z):e=.BoolOp z.1 z.2.1 z.2.2:=by
 unfold vBoo at h;split at h
 ·cases h; rfl
 ·cases h
noncomputable def opA(an:Bool):BoolOp:=if an then .And else .Or
noncomputable def isAn(an:Bool)(o:BoolOp):Bool:=decide (o=opA an)
theorem isAn_ok{an:Bool}{o:BoolOp}(h:isAn an o=true):o=opA an:=of_decide_eq_true h
noncomputable def cutB(an:Bool)(p:Pos)(l:List Expr):Option (Expr×Expr):=match l with
 | [x,y]=>some (x,y)
 | x :: y :: z :: r=>some (x,.BoolOp (opA an) (y :: z :: r) p)
 | _=>none
theorem cutB_ok{an:Bool}{p:Pos}{l:List Expr}{z:Expr×Expr}(h:cutB an p l=some z):l=[z.1,z.2]\/∃ y y2 r,l=z.1 :: y :: y2 :: r/\z.2=.BoolOp (opA an) (y :: y2 :: r) p:=by
 unfold cutB at h;split at h
 ·cases h; exact .inl rfl
 ·cases h; exact .inr ⟨_,_,_,rfl,rfl⟩
 ·cases h
noncomputable def vIf(e:Expr):Option (Expr×Expr×Expr):=match e with
 | .IfExp x y z _=>some (x,y,z)
 | _=>none
theorem vIf_ok{e:Expr}{z:Expr×Expr×Expr}(h:vIf e=some z):∃ p,e=.IfExp z.1 z.2.1 z.2.2 p:=by
 unfold vIf at h;split at h
 ·cases h; exact⟨_,rfl⟩
 ·cases h
noncomputable def vSub(e:Expr):Option (Expr×Expr):=match e with
 | .Subscript x y _=>some (x,y)
 | _=>none
theorem vSub_ok{e:Expr}{z:Expr×Expr}(h:vSub e=some z):∃ p,e=.Subscript z.1 z.2 p:=by
 unfold vSub at h;split at h
 ·cases h; exact⟨_,rfl⟩
 ·cases h
noncomputable def vSli(e:Expr):Option (Option Expr×Option Expr):=match e with
 | .Slice l h none _=>some (l,h)
 | _=>none
theorem vSli_ok{e:Expr}{z:Option Expr×Option Expr}(h:vSli e=some z):∃ p,e=.Slice z.1 z.2 none p:=by
 unfold vSli at h;split at h
 ·cases h; exact⟨_,rfl⟩
 ·cases h
noncomputable def vCal(e:Expr):Option (Expr×Expr×List Expr×Pos):=match e with
 | .Call f (y :: ys) [] p=>some (f,y,ys,p)
 | _=>none
theorem vCal_ok{e:Expr}{z:Expr×Expr×List Expr×Pos}(h:vCal e=some z):e=.Call z.1 (z.2.1 :: z.2.2.1) [] z.2.2.2:=by
 unfold vCal at h;split at h
 ·cases h; rfl
 ·cases h
noncomputable def vAtt(e:Expr):Option (Expr×Str×Pos):=match e with
 | .Attribute o nm p=>some (o,nm,p)
 | _=>none
theorem vAtt_ok{e:Expr}{z:Expr×Str×Pos}(h:vAtt e=some z):e=.Attribute z.1 z.2.1 z.2.2:=by
 unfold vAtt at h;split at h
 ·cases h; rfl
 ·cases h
noncomputable def vLC(e:Expr):Option (Expr×List Comprehension×Scope):=match e with
 | .ListComp e gens scope _=>some (e,gens,scope)
 | _=>none
theorem vLC_ok{e:Expr}{z:Expr×List Comprehension×Scope}(h:vLC e=some z):∃ p,e=.ListComp z.1 z.2.1 z.2.2 p:=by
 unfold vLC at h;split at h
 ·cases h; exact⟨_,rfl⟩
 ·cases h
section
variable(cm:Bool)(fns:List (Str×Nat×Bool))(gns:List Str)
noncomputable def mtT(top:Bool)(sc:Scope)(N:List Str):Tg->Expr->Bool
 | .var i,e=>(vNm e).any fun x=>decide (N[i]?=some x) && locB top sc x
 | .tup is,e=>(vTup e).any fun es=>namesB is es
where namesB:List Nat->List Expr->Bool
 | [],[]=>true
 | i :: is,e :: es=>((vNm e).any fun x=>decide (N[i]?=some x) && locB top sc x) && namesB is es
 | _,_=>false
noncomputable def fnB(f:Nat)(x:Str)(n:Nat):Bool:=match fns[f]? with
 | some (nm,ar,fl)=>decide (nm=x) && decide (ar=n) && (cm || !fl)
 | none=>false
noncomputable def blB(k:Bl)(x:Str):Bool:=match blNm k with
 | some (nm,_,_)=>decide (x=nm)
 | none=>false
noncomputable def mtB(k:Mt)(nm:Str):Bool:=match mtNm k with
 | some m=>decide (nm=m)
 | none=>false
mutual
noncomputable def mt(sc:Scope)(N:List Str):Ex->Expr->Bool
 | .nev,_=>true
 | .var i,e=>(vNm e).any fun x=>decide (N[i]?=some x) && visB sc x && okNm x
 | .cst d,e=>(vCst e).any fun c=>cstB d c
 | .neg a,e=>(vUn e).any fun z=>isUS z.1 && mt sc N a z.2
 | .glb k,e=>(vNm e).any fun x=>decide (gns[k]?=some x) && glB sc x && okNm x
 | .tup es,e=>(vTup e).any fun xs=>mts sc N es xs
 | .lst es,e=>(vLst e).any fun xs=>mts sc N es xs
 | .isi a ts,e=>(vCal e).any fun z=>(vNm z.1).any fun(f:Str)=>decide (f = "isinstance") && glB sc f && noStar z.2.1 && mt sc N a z.2.1 && (one1 z.2.2.1).any fun y=>tyM sc ts y
 | .bin op a b,e=>(vBin e).any fun z=>isBo op z.2.1 && mt sc N a z.1 && mt sc N b z.2.2
 | .cmp op a b,e=>(vCmp e).any fun z=>(one1 z.2.1).any fun o=>(one1 z.2.2).any fun y=>isCo op o && !(behindInMarks (opC op) y) && mt sc N a z.1 && mt sc N b y
 | .chn o1 o2 a b c,e=>(vCmp e).any fun z=>(two1 z.2.1).any fun o=>(two1 z.2.2).any fun y=>isCo o1 o.1 && isCo o2 o.2 && !(lastMarks [opC o1,opC o2] [y.1,y.2]) && mt sc N a z.1 && mt sc N b y.1 && mt sc N c y.2
 | .and a b,e=>(vBoo e).any fun z=>isAn true z.1 && (cutB true z.2.2 z.2.1).any fun y=>mt sc N a y.1 && mt sc N b y.2
 | .or a b,e=>(vBoo e).any fun z=>isAn false z.1 && (cutB false z.2.2 z.2.1).any fun y=>mt sc N a y.1 && mt sc N b y.2
 | .not a,e=>(vUn e).any fun z=>isNt z.1 && mt sc N a z.2
 | .ite c a b,e=>(vIf e).any fun z=>mt sc N c z.1 && mt sc N a z.2.1 && mt sc N b z.2.2
 | .idx a i,e=>(vSub e).any fun z=>noSlice z.2 && mt sc N a z.1 && mt sc N i z.2
 | .call f es,e=>(vCal e).any fun z=>(vNm z.1).any fun x=>fnB cm fns f x (z.2.1 :: z.2.2.1).length && glB sc x && okNm x && mts sc N es (z.2.1 :: z.2.2.1)
 | .blt k es,e=>(vCal e).any fun z=>(vNm z.1).any fun x=>blB k x && (cm || quiB k) && glB sc x && okNm x && mts sc N es (z.2.1 :: z.2.2.1)
 | .mth k o es,e=>(vCal e).any fun z=>(vAtt z.1).any fun x=>mtB k x.2.1 && rcvE x.1 && (x.2.2.endLine == z.2.2.2.line) && decide ((z.2.1 :: z.2.2.1).length < 29) && mt sc N o x.1 && mts sc N es (z.2.1 :: z.2.2.1)
 | .cmr k n gs elt,e=>(vLC e).any fun z=>cm && !k && decide ((owns z.2.2).length=n) && scB sc z.2.2 N && mtG sc N (relS z.2.2 sc) (blkN N (owns z.2.2)) gs z.2.1 && mt (relS z.2.2 sc) (blkN N (owns z.2.2)) elt z.1
 | .sli a lo hi,e=>(vSub e).any fun z=>(vSli z.2).any fun y=>mt sc N a z.1 && mto sc N lo y.1 && mto sc N hi y.2
 | .cal f es,e=>(vCal e).any fun z=>cm && calE z.1 && mt sc N f z.1 && mts sc N es (z.2.1 :: z.2.2.1)
 | .lenm a,e=>(vCal e).any fun z=>(vNm z.1).any fun(x:Str)=>decide (x = "list") && cm && glB sc x && z.2.2.1.isEmpty && (vCal z.2.1).any fun y=>(vNm y.1).any fun(x2:Str)=>decide (x2 = "enumerate") && glB sc x2 && y.2.2.1.isEmpty && noStar y.2.1 && mt sc N a y.2.1
noncomputable def mto(sc:Scope)(N:List Str):Op->Option Expr->Bool
 | .none,none=>true
 | .some e,some x=>mt sc N e x
 | _,_=>false
noncomputable def mts(sc:Scope)(N:List Str):Exs->List Expr->Bool
 | .nil,[]=>true
 | .cons e es,x :: xs=>noStar x && mt sc N e x && mts sc N es xs
 | _,_=>false
noncomputable def mtG(sc:Scope)(N:List Str)(sc2:Scope)(N2:List Str):Gens->List Comprehension->Bool
 | .cons t it ifs .nil,[⟨tg,iter,cs,a⟩]=>(a == 0) && noSet iter && mtT false sc2 N2 t tg && mtI sc N it iter && mts sc2 N2 ifs cs && tgIt t it
 | .cons t it ifs (.cons t2 it2 ifs2 .nil),[⟨tg,iter,cs,a⟩,⟨tg2,iter2,cs2,a2⟩]=>(a == 0) && (a2 == 0) && noSet iter && noSet iter2 && mtT false sc2 N2 t tg && mtI sc N it iter && mts sc2 N2 ifs cs && mtT false sc2 N2 t2 tg2 && mtI sc2 N2 it2 iter2 && mts sc2 N2 ifs2 cs2 && tgIt t it && tgIt t2 it2
 | _,_=>false
noncomputable def mtI(sc:Scope)(N:List Str):It->Expr->Bool
 | .val e,x=>mt sc N e x
 | .rng es,e=>(vCal e).any fun z=>(vNm z.1).any fun(x:Str)=>decide (x = "range") && glB sc x && mts sc N es (z.2.1 :: z.2.2.1)
 | .enm es,e=>(vCal e).any fun z=>(vNm z.1).any fun(x:Str)=>decide (x = "enumerate") && glB sc x && mts sc N es (z.2.1 :: z.2.2.1)
end
end
section
variable{cm:Bool}{fns:List (Str×Nat×Bool)}{gns:List Str}{sc sc2:Scope}{N N2:List Str}{t t2:Tg}{it it2:It}{ifs ifs2:Exs}
theorem mtG_0{gens:List Comprehension}(h:mtG cm fns gns sc N sc2 N2 .nil gens=true):False:=by
 cases h
theorem mtG_1{gens:List Comprehension}(h:mtG cm fns gns sc N sc2 N2 (.cons t it ifs .nil) gens=true):∃ tg iter cs,gens=[⟨tg,iter,cs,0⟩]/\noSet iter=true/\mtT false sc2 N2 t tg=true/\mtI cm fns gns sc N it iter=true/\mts cm fns gns sc2 N2 ifs cs=true/\tgIt t it=true:=by
 match gens,h with
 | [⟨tg,iter,cs,a⟩],h =>
  simp only[mtG,bA0,beq_iff_eq] at h;obtain⟨⟨⟨⟨⟨h1,h2⟩,h3⟩,h4⟩,h5⟩,h6⟩:=h;subst h1;exact⟨tg,iter,cs,rfl,h2,h3,h4,h5,h6⟩
 | [],h=>cases h
 | ⟨_,_,_,_⟩ :: _ :: _,h=>cases h
theorem mtG_2{gens:List Comprehension}(h:mtG cm fns gns sc N sc2 N2 (.cons t it ifs (.cons t2 it2 ifs2 .nil)) gens=true):∃ tg iter cs tg2 iter2 cs2,gens=[⟨tg,iter,cs,0⟩,⟨tg2,iter2,cs2,0⟩]/\noSet iter=true/\noSet iter2=true/\mtT false sc2 N2 t tg=true/\mtI cm fns gns sc N it iter=true/\mts cm fns gns sc2 N2 ifs cs=true/\mtT false sc2 N2 t2 tg2=true/\mtI cm fns gns sc2 N2 it2 iter2=true/\mts cm fns gns sc2 N2 ifs2 cs2=true/\tgIt t it=true/\tgIt t2 it2=true:=by
 match gens,h with
 | [⟨tg,iter,cs,a⟩,⟨tg2,iter2,cs2,a2⟩],h =>
  simp only[mtG,bA0,beq_iff_eq] at h;obtain⟨⟨⟨⟨⟨⟨⟨⟨⟨⟨⟨h1,h2⟩,h3⟩,h4⟩,h5⟩,h6⟩,h7⟩,h8⟩,h9⟩,h10⟩,h11⟩,h12⟩:=h;subst h1 h2;exact⟨tg,iter,cs,tg2,iter2,cs2,rfl,h3,h4,h5,h6,h7,h8,h9,h10,h11,h12⟩
 | [],h=>cases h
 | [⟨_,_,_,_⟩],h=>cases h
 | ⟨_,_,_,_⟩ :: ⟨_,_,_,_⟩ :: _ :: _,h=>cases h
theorem mtG_3{gens:List Comprehension}{t3:Tg}{it3:It}{ifs3:Exs}{gs3:Gens}(h:mtG cm fns gns sc N sc2 N2 (.cons t it ifs (.cons t2 it2 ifs2 (.cons t3 it3 ifs3 gs3))) gens=true):False:=by
 match gens,h with
 | [],h=>cases h
 | [⟨_,_,_,_⟩],h=>cases h
 | ⟨_,_,_,_⟩ :: ⟨_,_,_,_⟩ :: _ ,h=>cases h
theorem cal_nm{e:Expr}{q:Expr×Expr×List Expr×Pos->Str->Bool}(h:((vCal e).any fun z=>(vNm z.1).any fun x=>q z x)=true):∃ x p y ys cp,e=.Call (.Name x p) (y :: ys) [] cp/\q (.Name x p,y,ys,cp) x=true:=by
 obtain⟨⟨f,y,ys,cp⟩,h1,h2⟩:=any_some h;obtain⟨x,h3,h4⟩:=any_some h2;have e1:=vCal_ok h1;subst e1;have h3':vNm f=some x:=h3;obtain⟨p,e2⟩:=vNm_ok h3';subst e2;exact⟨x,p,y,ys,cp,rfl,h4⟩
theorem mt_var{i:Nat}{e:Expr}(h:mt cm fns gns sc N (.var i) e=true):∃ x p,e=.Name x p/\N[i]?=some x/\visB sc x=true/\okNm x=true:=by
 simp only[mt] at h;obtain⟨x,h1,h2⟩:=any_some h;obtain⟨p,rfl⟩:=vNm_ok h1;simp only[bA0,decide_eq_true_eq] at h2;exact⟨x,p,rfl,h2.1.1,h2.1.2,h2.2⟩
theorem mt_cst{d:D}{e:Expr}(h:mt cm fns gns sc N (.cst d) e=true):∃ c k p,e=.Constant c k p/\cstB d c=true:=by
 simp only[mt] at h;obtain⟨c,h1,h2⟩:=any_some h;obtain⟨k,p,rfl⟩:=vCst_ok h1;exact⟨c,k,p,rfl,h2⟩
theorem mt_neg{a:Ex}{e:Expr}(h:mt cm fns gns sc N (.neg a) e=true):∃ x p,e=.UnaryOp .USub x p/\mt cm fns gns sc N a x=true:=by
 simp only[mt] at h;obtain⟨⟨o,x⟩,h1,h2⟩:=any_some h;obtain⟨p,rfl⟩:=vUn_ok h1;rw[bA0] at h2;have e1:=isUS_ok h2.1;dsimp only at e1;subst e1;exact⟨x,p,rfl,h2.2⟩
theorem mt_not{a:Ex}{e:Expr}(h:mt cm fns gns sc N (.not a) e=true):∃ x p,e=.UnaryOp .Not x p/\mt cm fns gns sc N a x=true:=by
 simp only[mt] at h;obtain⟨⟨o,x⟩,h1,h2⟩:=any_some h;obtain⟨p,rfl⟩:=vUn_ok h1;rw[bA0] at h2;have e1:=isNt_ok h2.1;dsimp only at e1;subst e1;exact⟨x,p,rfl,h2.2⟩
theorem mt_glb{k:Nat}{e:Expr}(h:mt cm fns gns sc N (.glb k) e=true):∃ x p,e=.Name x p/\gns[k]?=some x/\glB sc x=true/\okNm x=true:=by
 simp only[mt] at h;obtain⟨x,h1,h2⟩:=any_some h;obtain⟨p,rfl⟩:=vNm_ok h1;simp only[bA0,decide_eq_true_eq] at h2;exact⟨x,p,rfl,h2.1.1,h2.1.2,h2.2⟩
theorem mt_tup{es:Exs}{e:Expr}(h:mt cm fns gns sc N (.tup es) e=true):∃ xs k p,e=.Tuple xs k p/\mts cm fns gns sc N es xs=true:=by
 simp only[mt] at h;obtain⟨x,h1,h2⟩:=any_some h;obtain⟨k,p,rfl⟩:=vTup_ok h1;exact⟨x,k,p,rfl,h2⟩
theorem mt_lst{es:Exs}{e:Expr}(h:mt cm fns gns sc N (.lst es) e=true):∃ xs p,e=.List xs p/\mts cm fns gns sc N es xs=true:=by
 simp only[mt] at h;obtain⟨x,h1,h2⟩:=any_some h;obtain⟨p,rfl⟩:=vLst_ok h1;exact⟨x,p,rfl,h2⟩
theorem mt_bin{op:Bo}{a b:Ex}{e:Expr}(h:mt cm fns gns sc N (.bin op a b) e=true):∃ x y p,e=.BinOp x (opB op) y p/\mt cm fns gns sc N a x=true/\mt cm fns gns sc N b y=true:=by
 simp only[mt] at h;obtain⟨⟨x,o,y⟩,h1,h2⟩:=any_some h;obtain⟨p,rfl⟩:=vBin_ok h1;simp only[bA0] at h2;have e1:=isBo_ok h2.1.1;subst e1;exact⟨x,y,p,rfl,h2.1.2,h2.2⟩
theorem mt_cmp{op:Co}{a b:Ex}{e:Expr}(h:mt cm fns gns sc N (.cmp op a b) e=true):∃ x y p,e=.Compare x [opC op] [y] p/\behindInMarks (opC op) y=false/\mt cm fns gns sc N a x=true/\mt cm fns gns sc N b y=true:=by
 simp only[mt] at h;obtain⟨⟨x,os,ys⟩,h1,h2⟩:=any_some h;obtain⟨o,h3,h4⟩:=any_some h2;obtain⟨y,h5,h6⟩:=any_some h4;obtain⟨p,rfl⟩:=vCmp_ok h1;have e1:os=[o]:=one1_ok h3;have e2:ys=[y]:=one1_ok h5;subst e1 e2;simp only[bA0,Bool.not_eq_true'] at h6;have e3:=isCo_ok h6.1.1.1;subst e3;exact⟨x,y,p,rfl,h6.1.1.2,h6.1.2,h6.2⟩
theorem mt_chn{o1 o2:Co}{a b c:Ex}{e:Expr}(h:mt cm fns gns sc N (.chn o1 o2 a b c) e=true):∃ x y z p,e=.Compare x [opC o1,opC o2] [y,z] p/\lastMarks [opC o1,opC o2] [y,z]=false/\mt cm fns gns sc N a x=true/\mt cm fns gns sc N b y=true/\mt cm fns gns sc N c z=true:=by
 simp only[mt] at h;obtain⟨⟨x,os,ys⟩,h1,h2⟩:=any_some h;obtain⟨⟨p1,p2⟩,h3,h4⟩:=any_some h2;obtain⟨⟨y,z⟩,h5,h6⟩:=any_some h4;obtain⟨p,rfl⟩:=vCmp_ok h1;have e1:os=[p1,p2]:=two1_ok h3;have e2:ys=[y,z]:=two1_ok h5;subst e1 e2;rw[bA0,bA0,bA0,bA0,bA0,Bool.not_eq_true'] at h6;obtain⟨⟨⟨⟨⟨k1,k2⟩,k3⟩,k4⟩,k5⟩,k6⟩:=h6;have e3:=isCo_ok k1;have e4:=isCo_ok k2;dsimp only at e3 e4;subst e3 e4;exact⟨x,y,z,p,rfl,k3,k4,k5,k6⟩
theorem boo_inv{an:Bool}{a b:Ex}{e:Expr}(h:((vBoo e).any fun z=>isAn an z.1 && (cutB an z.2.2 z.2.1).any fun y=>mt cm fns gns sc N a y.1 && mt cm fns gns sc N b y.2)=true) :
  (∃ x y p,e=.BoolOp (opA an) [x,y] p/\mt cm fns gns sc N a x=true/\mt cm fns gns sc N b y=true)\/∃ x y z r p,e=.BoolOp (opA an) (x :: y :: z :: r) p/\mt cm fns gns sc N a x=true/\mt cm fns gns sc N b (.BoolOp (opA an) (y :: z :: r) p)=true:=by
 obtain⟨⟨o,xs,p⟩,h1,h2⟩:=any_some h;have e1:=vBoo_ok h1;subst e1;rw[bA0] at h2;have e2:=isAn_ok h2.1;dsimp only at e2;subst e2;obtain⟨⟨x,y⟩,h3,h4⟩:=any_some h2.2;rw[bA0] at h4;rcases cutB_ok h3 with e3 | ⟨y1,y2,r,e3,e4⟩
 ·dsimp only at e3
  subst e3;exact .inl ⟨x,y,p,rfl,h4.1,h4.2⟩
 ·dsimp only at e3 e4
  subst e3 e4;exact .inr ⟨x,y1,y2,r,p,rfl,h4.1,h4.2⟩
theorem mt_and{a b:Ex}{e:Expr}(h:mt cm fns gns sc N (.and a b) e=true):(∃ x y p,e=.BoolOp .And [x,y] p/\mt cm fns gns sc N a x=true/\mt cm fns gns sc N b y=true)\/∃ x y z r p,e=.BoolOp .And (x :: y :: z :: r) p/\mt cm fns gns sc N a x=true/\mt cm fns gns sc N b (.BoolOp .And (y :: z :: r) p)=true:=by
 simp only[mt] at h;exact boo_inv (an:=true) h
theorem mt_or{a b:Ex}{e:Expr}(h:mt cm fns gns sc N (.or a b) e=true):(∃ x y p,e=.BoolOp .Or [x,y] p/\mt cm fns gns sc N a x=true/\mt cm fns gns sc N b y=true)\/∃ x y z r p,e=.BoolOp .Or (x :: y :: z :: r) p/\mt cm fns gns sc N a x=true/\mt cm fns gns sc N b (.BoolOp .Or (y :: z :: r) p)=true:=by
 simp only[mt] at h;exact boo_inv (an:=false) h
theorem mt_ite{c a b:Ex}{e:Expr}(h:mt cm fns gns sc N (.ite c a b) e=true):∃ x y z p,e=.IfExp x y z p/\mt cm fns gns sc N c x=true/\mt cm fns gns sc N a y=true/\mt cm fns gns sc N b z=true:=by
 simp only[mt] at h;obtain⟨⟨x,y,z⟩,h1,h2⟩:=any_some h;obtain⟨p,rfl⟩:=vIf_ok h1;simp only[bA0] at h2;exact⟨x,y,z,p,rfl,h2.1.1,h2.1.2,h2.2⟩
theorem mt_idx{a i:Ex}{e:Expr}(h:mt cm fns gns sc N (.idx a i) e=true):∃ x y p,e=.Subscript x y p/\noSlice y=true/\mt cm fns gns sc N a x=true/\mt cm fns gns sc N i y=true:=by
 simp only[mt] at h;obtain⟨⟨x,y⟩,h1,h2⟩:=any_some h;obtain⟨p,rfl⟩:=vSub_ok h1;simp only[bA0] at h2;exact⟨x,y,p,rfl,h2.1.1,h2.1.2,h2.2⟩
theorem mt_cmr{k:Bool}{n:Nat}{gs:Gens}{elt:Ex}{e:Expr}(h:mt cm fns gns sc N (.cmr k n gs elt) e=true):∃ ee gens scope p,e=.ListComp ee gens scope p/\cm=true/\k=false/\(owns scope).length=n/\scB sc scope N=true/\mtG cm fns gns sc N (relS scope sc) (blkN N (owns scope)) gs gens=true/\mt cm fns gns (relS scope sc) (blkN N (owns scope)) elt ee=true:=by
 simp only[mt] at h;obtain⟨⟨ee,gens,scope⟩,h1,h2⟩:=any_some h;obtain⟨p,rfl⟩:=vLC_ok h1;simp only[bA0,decide_eq_true_eq,Bool.not_eq_true'] at h2;obtain⟨⟨⟨⟨⟨h0,h1⟩,h2⟩,h3⟩,h4⟩,h5⟩:=h2;exact⟨ee,gens,scope,p,rfl,h0,h1,h2,h3,h4,h5⟩
theorem mt_lenm{a:Ex}{e:Expr}(h:mt cm fns gns sc N (.lenm a) e=true):∃ p p2 x cp cp2,e=.Call (.Name "list" p) [.Call (.Name "enumerate" p2) [x] [] cp2] [] cp/\cm=true/\glB sc "list" = true/\glB sc "enumerate" = true/\noStar x=true/\mt cm fns gns sc N a x=true:=by
 simp only[mt] at h;obtain⟨x,p,y,ys,cp,rfl,h1⟩:=cal_nm h;rw[bA0,bA0,bA0,bA0] at h1;obtain⟨⟨⟨⟨e1,e2⟩,e3⟩,e4⟩,h2⟩:=h1;obtain⟨x2,p2,y2,ys2,cp2,rfl,h3⟩:=cal_nm h2;rw[bA0,bA0,bA0,bA0] at h3;obtain⟨⟨⟨⟨f1,f2⟩,f3⟩,f4⟩,f5⟩:=h3;have e1':=of_decide_eq_true e1;have f1':=of_decide_eq_true f1;subst e1' f1';have e4':=List.isEmpty_iff.mp e4;have f3':=List.isEmpty_iff.mp f3;dsimp only at e4' f3';subst e4' f3';exact⟨p,p2,y2,cp,cp2,rfl,e2,e3,f2,f4,f5⟩
theorem mt_blt{k:Bl}{es:Exs}{e:Expr}(h:mt cm fns gns sc N (.blt k es) e=true):∃ x p y ys cp,e=.Call (.Name x p) (y :: ys) [] cp/\blB k x=true/\(cm || quiB k)=true/\glB sc x=true/\okNm x=true/\mts cm fns gns sc N es (y :: ys)=true:=by
 simp only[mt] at h;obtain⟨x,p,y,ys,cp,rfl,h1⟩:=cal_nm h;rw[bA0,bA0,bA0,bA0] at h1;exact⟨x,p,y,ys,cp,rfl,h1.1.1.1.1,h1.1.1.1.2,h1.1.1.2,h1.1.2,h1.2⟩
theorem mt_call{k:Nat}{es:Exs}{e:Expr}(h:mt cm fns gns sc N (.call k es) e=true):∃ x p y ys cp,e=.Call (.Name x p) (y :: ys) [] cp/\(∃ fl,fns[k]?=some (x,(y :: ys).length,fl)/\(fl=true->cm=true))/\glB sc x=true/\okNm x=true/\mts cm fns gns sc N es (y :: ys)=true:=by
 simp only[mt] at h;obtain⟨x,p,y,ys,cp,rfl,h1⟩:=cal_nm h;rw[bA0,bA0,bA0] at h1;refine⟨x,p,y,ys,cp,rfl,?_,h1.1.1.2,h1.1.2,h1.2⟩;have h2:=h1.1.1.1;unfold fnB at h2;split at h2
 ·rename_i nm ar fl e
  simp only[bA0,decide_eq_true_eq,Bool.or_eq_true,Bool.not_eq_true'] at h2;obtain⟨⟨rfl,rfl⟩,h2⟩:=h2;exact⟨fl,e,fun z=>by rcases h2 with h2 | h2; exact h2; rw[z] at h2; cases h2⟩
 ·cases h2
theorem mt_mth{k:Mt}{o:Ex}{es:Exs}{e:Expr}(h:mt cm fns gns sc N (.mth k o es) e=true):∃ ox nm ap y ys cp,e=.Call (.Attribute ox nm ap) (y :: ys) [] cp/\mtB k nm=true/\rcvE ox=true/\(ap.endLine == cp.line)=true/\(y :: ys).length < 29/\mt cm fns gns sc N o ox=true/\mts cm fns gns sc N es (y :: ys)=true:=by
 simp only[mt] at h;obtain⟨⟨f,y,ys,cp⟩,h1,h2⟩:=any_some h;obtain⟨⟨ox,nm,ap⟩,h3,h4⟩:=any_some h2;have e1:=vCal_ok h1;subst e1;have h3':vAtt f=some (ox,nm,ap):=h3;have e2:=vAtt_ok h3';subst e2;rw[bA0,bA0,bA0,bA0,bA0] at h4;exact⟨ox,nm,ap,y,ys,cp,rfl,h4.1.1.1.1.1,h4.1.1.1.1.2,h4.1.1.1.2,of_decide_eq_true h4.1.1.2,h4.1.2,h4.2⟩
theorem mt_isi{a:Ex}{ts:List Ty}{e:Expr}(h:mt cm fns gns sc N (.isi a ts) e=true):∃ p0 x y cp,e=.Call (.Name "isinstance" p0) [x,y] [] cp/\glB sc "isinstance" = true/\noStar x=true/\mt cm fns gns sc N a x=true/\tyM sc ts y=true:=by
 simp only[mt] at h;obtain⟨f,p,y,ys,cp,rfl,h1⟩:=cal_nm h;rw[bA0,bA0,bA0,bA0] at h1;obtain⟨⟨⟨⟨h2,h3⟩,h4⟩,h5⟩,h6⟩:=h1;have e1:f = "isinstance" := of_decide_eq_true h2;subst e1;obtain⟨y2,h7,h8⟩:=any_some h6;have e2:ys=[y2]:=one1_ok h7;subst e2;exact⟨p,y,y2,cp,rfl,h3,h4,h5,h8⟩
theorem tyM_ok{ts:List Ty}{y:Expr}(h:tyM sc ts y=true):(∃ t nm p,ts=[t]/\y=.Name nm p/\glB sc nm=true/\okNm nm=true/\tyB sc t nm=true) \/
  ∃ t1 t2 n1 n2 p1 p2 k p,ts=[t1,t2]/\y=.Tuple [.Name n1 p1,.Name n2 p2] k p/\glB sc n1=true/\okNm n1=true/\glB sc n2=true/\okNm n2=true/\bltT t1=true/\bltT t2=true/\tyB sc t1 n1=true/\tyB sc t2 n2=true:=by
 unfold tyM at h;split at h
 ·simp only[bA0] at h
  obtain⟨⟨h1,h2⟩,h3⟩:=h;split at h3
  ·exact .inl ⟨_,_,_,rfl,rfl,h1,h2,h3⟩
  ·cases h3
 ·split at h
  ·simp only[bA0] at h
   obtain⟨⟨⟨⟨h1,h2⟩,h3⟩,h4⟩,h5⟩:=h;split at h5
   ·simp only[bA0] at h5
    obtain⟨⟨⟨h6,h7⟩,h8⟩,h9⟩:=h5;exact .inr ⟨_,_,_,_,_,_,_,_,rfl,rfl,h1,h2,h3,h4,h6,h7,h8,h9⟩
   ·cases h5
  ·cases h
 ·cases h
theorem mt_sli{a:Ex}{lo hi:Op}{e:Expr}(h:mt cm fns gns sc N (.sli a lo hi) e=true):∃ x l u p2 p,e=.Subscript x (.Slice l u none p2) p/\mt cm fns gns sc N a x=true/\mto cm fns gns sc N lo l=true/\mto cm fns gns sc N hi u=true:=by
 simp only[mt] at h;obtain⟨⟨x,y⟩,h1,h2⟩:=any_some h;obtain⟨⟨l,u⟩,h3,h4⟩:=any_some h2;obtain⟨p,rfl⟩:=vSub_ok h1;obtain⟨p2,e2⟩:=vSli_ok h3;dsimp only at e2;subst e2;simp only[bA0] at h4;exact⟨x,l,u,p2,p,rfl,h4.1.1,h4.1.2,h4.2⟩
theorem it_nm{w:Str}{es:Exs}{e:Expr}(h:((vCal e).any fun z=>(vNm z.1).any fun x=>decide (x=w) && glB sc x && mts cm fns gns sc N es (z.2.1 :: z.2.2.1))=true):∃ p y ys cp,e=.Call (.Name w p) (y :: ys) [] cp/\glB sc w=true/\mts cm fns gns sc N es (y :: ys)=true:=by
 obtain⟨x,p,y,ys,cp,rfl,h1⟩:=cal_nm h;rw[bA0,bA0] at h1;have e1:x=w:=of_decide_eq_true h1.1.1;subst e1;exact⟨p,y,ys,cp,rfl,h1.1.2,h1.2⟩
theorem mtI_enm{es:Exs}{e:Expr}(h:mtI cm fns gns sc N (.enm es) e=true):∃ p y ys cp,e=.Call (.Name "enumerate" p) (y :: ys) [] cp/\glB sc "enumerate" = true/\mts cm fns gns sc N es (y :: ys)=true:=by
 simp only[mtI] at h;exact it_nm h
theorem mtI_rng{es:Exs}{e:Expr}(h:mtI cm fns gns sc N (.rng es) e=true):∃ p y ys cp,e=.Call (.Name "range" p) (y :: ys) [] cp/\glB sc "range" = true/\mts cm fns gns sc N es (y :: ys)=true:=by
 simp only[mtI] at h;exact it_nm h
theorem mt_cal{f:Ex}{es:Exs}{e:Expr}(h:mt cm fns gns sc N (.cal f es) e=true):∃ fx y ys cp,e=.Call fx (y :: ys) [] cp/\cm=true/\calE fx=true/\mt cm fns gns sc N f fx=true/\mts cm fns gns sc N es (y :: ys)=true:=by
 simp only[mt] at h;obtain⟨⟨fx,y,ys,cp⟩,h1,h2⟩:=any_some h;have e1:=vCal_ok h1;subst e1;rw[bA0,bA0,bA0] at h2;exact⟨fx,y,ys,cp,rfl,h2.1.1.1,h2.1.1.2,h2.1.2,h2.2⟩
theorem tg_tup{top:Bool}{tg:Expr}(h1:tgIt t it=true)(h2:mtT top sc N t tg=true)(h3:needT it=true):∃ es k p,tg=.Tuple es k p:=by
 unfold tgIt at h1;rw[h3] at h1;cases t with
 | var i=>cases h1
 | tup is =>
  simp only[mtT] at h2;obtain⟨es,h4,_⟩:=any_some h2;obtain⟨k,p,rfl⟩:=vTup_ok h4;exact⟨es,k,p,rfl⟩
end
noncomputable def blts:List Str:=["len","tuple","list","all","any","sum","max","min","range","isinstance","sorted","set","str","repr","zip","enumerate","abs","ValueError","int","bool","dict"]
noncomputable def bmV:List Value:=[.type "ValueError",.type "Exception",.type "BaseException",.type "object"]
noncomputable def errB(K:PySem.W.Frag):Bool :=
 (K.lookup sysModules).isSome && PySem.W.specialIn K (.builtin "object.__class__") "__get__" == some (some (.builtin "getset_descriptor.__get__")) && PySem.W.takesIn K (.builtin "object.__class__") == some true &&
 (List.range clsNames.length).all fun c=>match clsAt K c with
  | some C=>PySem.W.excIn K C bmV "ValueError.__new__" && (PySem.W.findIn K (.ref C) "__getattribute__" == some (some (.builtin "BaseException.__getattribute__")) && PySem.W.findIn K (.ref C) "__getattr__" == some none && PySem.W.mroIn K C (.type "BaseException") == some true) && (PySem.W.clsIn K C).isSome && PySem.W.findIn K (.ref C) "__class__" == some (some (.builtin "object.__class__")) && PySem.W.mroIn K C (.type "object") == some true &&
   PySem.W.kitOne K (.ref C) (.type "ValueError") == some true && (List.range clsNames.length).all fun c0=>match clsAt K c0 with
    | some C0=>PySem.W.kitOne K (.ref C) (.ref C0) == some (c0 == 0 || c0 == c) && (!(c0 == 0 || c0 == c) || PySem.W.exmOne K (.ref C) (.ref C0) == some true)
    | none=>true
  | none=>(clsNm c).isNone
structure ErrOk(K:PySem.W.Frag):Prop where
 sm:∃ o,K.lookup sysModules=some o
 gt:PySem.W.specialIn K (.builtin "object.__class__") "__get__" = some (some (.builtin "getset_descriptor.__get__"))
 tk:PySem.W.takesIn K (.builtin "object.__class__")=some true
 at_:∀ c nm,clsNm c=some nm->∃ C,clsAt K c=some C/\PySem.W.nsIn K mainGlobals nm=some (some (.ref C))
 cls:∀ c C,clsAt K c=some C->PySem.W.excIn K C bmV "ValueError.__new__" = true/\(PySem.W.findIn K (.ref C) "__getattribute__" = some (some (.builtin "BaseException.__getattribute__"))/\PySem.W.findIn K (.ref C) "__getattr__" = some none/\PySem.W.mroIn K C (.type "BaseException")=some true)/\(PySem.W.clsIn K C).isSome=true/\PySem.W.findIn K (.ref C) "__class__" = some (some (.builtin "object.__class__"))/\PySem.W.mroIn K C (.type "object")=some true/\PySem.W.kitOne K (.ref C) (.type "ValueError")=some true
 sub:∀ c C c0 C0,clsAt K c=some C->clsAt K c0=some C0->PySem.W.kitOne K (.ref C) (.ref C0)=some (c0 == 0 || c0 == c)/\((c0 == 0 || c0 == c)=true->PySem.W.exmOne K (.ref C) (.ref C0)=some true)
theorem clsAt_lt{K:PySem.W.Frag}{c:Nat}{C:Addr}(h:clsAt K c=some C):c < clsNames.length:=by
 unfold clsAt at h;cases q:clsNm c with
 | none=>rw[q] at h; cases h
 | some _=>exact clsNm_lt q
theorem errB_ok{K:PySem.W.Frag}(h:errB K=true):ErrOk K:=by
 simp only[errB,bA0,beq_iff_eq,List.all_eq_true,List.mem_range] at h;obtain⟨⟨⟨h0,h1⟩,h2⟩,h3⟩:=h;refine⟨Option.isSome_iff_exists.mp h0,h1,h2,fun c nm e=>?_,fun c C e=>?_,fun c C c0 C0 e e0=>?_⟩
 ·have:=h3 c (clsNm_lt e)
  split at this
  ·rename_i C q
   refine⟨C,q,?_⟩;unfold clsAt at q;rw[e,Option.bind_some] at q;split at q
   ·rename_i q2; cases q; exact q2
   ·cases q
  ·rw[e] at this; cases this
 ·have:=h3 c (clsAt_lt e)
  rw[e] at this;simp only[bA0,beq_iff_eq] at this;obtain⟨⟨⟨⟨⟨⟨a1,⟨⟨a2,a2'⟩,a2''⟩⟩,a3⟩,a4⟩,a5⟩,a6⟩,_⟩:=this;exact⟨a1,⟨a2,a2',a2''⟩,a3,a4,a5,a6⟩
 ·have:=h3 c (clsAt_lt e)
  rw[e] at this;simp only[bA0,beq_iff_eq,List.all_eq_true,List.mem_range] at this;have z:=this.2 c0 (clsAt_lt e0);rw[e0] at z;simp only[bA0,beq_iff_eq,Bool.or_eq_true,Bool.not_eq_true'] at z;refine⟨z.1,fun y=>?_⟩
  rcases z.2 with z2 | z2
  ·rw[y] at z2; cases z2
  ·exact z2
end Z
end
section
namespace Z
open PySem PySem.Spec PySem.Calls PyProof.Rows L2 PySem.W Builtin Builtin.ObjectAttr Builtin.Getset_descriptor
section
variable{prog:Program}{w:World}{A:Around}{E:Value->Shared->Prop}{K:Frag}{y D:Addr}
theorem ecl_type{M:Model}{h:Heap}(e:ExcO D y h):Looks M h (typeOf (.ref y)) (.ref D):=by
 obtain⟨ob,_,_,q,cl,_⟩:=e;exact cl ▸ (Looks.ld q).andThen .now
theorem ecl_get {R:Result->Shared->Prop} {tv:Value} {s:Shared} (hK:K.In s.heap) (e:ExcO D y s.heap) (mo:mroIn K D (.type "object")=some true) (q:R (.ok (.ret (.ref D))) s) :
  codeAny (model prog w) A (.call (.builtin "getset_descriptor.__get__") ⟨[.builtin "object.__class__",.ref y,tv],[]⟩) R s:=by
 obtain⟨hp,gn,dw,tk,os⟩:=s;have T0:=ecl_type (M:=model prog w) e;have T1:=looks_mroIn (M:=model prog w) hK mo;refine codeAny_call_builtin KF.slot_gs.plain KF.entry_gs (KF.slot_gs.check _ _ _ _ _ _ _ _ KF.type_class (KF.args_gs _ _ _) ?_);unfold Builtin.«getset_descriptor.__get__» descrGet;rw[dga_obj];refine wpAny_bind (wpAny_pure ?_);unfold descrGetter descrCheckInstance descrNameAndClass isInstance;simp only[KF.owner_class]
 repeat lk
 refine⟨Code.quiet_builtin _ (by decide +kernel),codeAny_builtin KF.entry_class ?_⟩
 unfold Builtin.«object.__class__» shownTypeOf
 repeat lk
 exact q
theorem ecl_find {M:Model} {h:Heap} {nm:Str} {v g:Value} (hK:K.In h) (h1:findIn K (.ref D) nm=some (some v)) (h2:specialIn K v "__get__" = some (some g)) (h3:takesIn K v=some true):Looks M h (find (.ref y) (.ref D) nm) (.bind g v):=by
 have a1:=looks_findIn (M:=M) hK h1;have a2:Looks M h (getOf (some v)) (some g):=looks_specialIn hK h2;have a3:=looks_takesIn (M:=M) hK h3;exact a1.andThen (a2.andThen ((show Looks M h (dataDescriptor? (some v) (some g)) (some (g,v)) from a3.andThen .now).andThen (Looks.tag .now)))
theorem ecl_entry {Q:Fin->Shared->Prop} {s:Shared} {nm:Str} {tk:Tok} {v g:Value} (hK:K.In s.heap) (e:ExcO D y s.heap) (h1:findIn K (.ref D) nm=some (some v)) (h2:specialIn K v "__get__" = some (some g)) (h3:takesIn K v=some true)
  (z:wpAny (model prog w) A (call g [v,.ref y,.ref D]) (fun r s1=>Q (.done (.ret r)) s1) E s) :
  wpAny (model prog w) A (Builtin.«object.__getattribute__» ⟨[.ref y,.str nm tk],[]⟩) Q E s:=by
 obtain⟨hp,gn,dw,t0,os⟩:=s;have T0:=ecl_type (M:=model prog w) e;have T1:=ecl_find (M:=model prog w) (y:=y) hK h1 h2 h3;unfold Builtin.«object.__getattribute__»;refine wpAny_bind (wpAny_pure ?_);refine wpAny_bind (wpAny_pure ?_);refine wpAny_bind (T0.at (wpAny_bind (T1.at ?_)));show wpAny (model prog w) A (holding [v] (call g [v,.ref y,.ref D]) >>= ret) _ _ _;exact wpAny_bind (wpAny_holding (wpAny_mono z (fun r s1 q=>wpAny_pure q) fun _ _ q=>q))
theorem ecl_check {Q:Unit->Shared->Prop} {s:Shared} {nv:Value} (hK:K.In s.heap) (e:ExcO D y s.heap) (hm:mroIn K D (.type "BaseException")=some true) (q:Q () s) :
  wpAny (model prog w) A (checkBuiltinCall "BaseException.__getattribute__" ⟨[.ref y,nv],[]⟩) Q E s:=by
 obtain⟨hp,gn,dw,t0,os⟩:=s;have T0:=ecl_type (M:=model prog w) e;have T3:=looks_mroIn (M:=model prog w) hK hm;have kd:builtinKind "BaseException.__getattribute__" = some .slot:=by decide +kernel
 have sp:splitId "BaseException.__getattribute__" = some ("BaseException","__getattribute__"):=by decide +kernel
 have ao:=PySem.F.args_bexc_ga (.ref y) nv;simp only[checkBuiltinCall,kd,sp];unfold isInstance;refine wpAny_bind (wpAny_bind (T0.at (T3.at ?_)));rw[if_neg (by decide)]
 exact wpAny_of_eq ao q
theorem ecl_attr {Q:Option Value->Shared->Prop} {s:Shared} {nm:Str} {v g:Value} (hK:K.In s.heap) (e:ExcO D y s.heap) (ga:findIn K (.ref D) "__getattribute__" = some (some (.builtin "BaseException.__getattribute__"))) (gn:findIn K (.ref D) "__getattr__" = some none)
  (hm:mroIn K D (.type "BaseException")=some true) (h1:findIn K (.ref D) nm=some (some v)) (h2:specialIn K v "__get__" = some (some g)) (h3:takesIn K v=some true) (hh:handedIn (.ref D)=true)
  (z:∀ A':Around,wpAny (model prog w) A' (call g [v,.ref y,.ref D]) (fun r s1=>r=.ref D/\Q (some (.ref D)) s1) (fun _ _=>False) { s with toks:=s.toks + 1 }) :
  wpAny (model prog w) A (getAttr? (.ref y) nm) Q E s:=by
 obtain⟨hp,gs,dw,tk,os⟩:=s;have T0:=ecl_type (M:=model prog w) e;have T1:=looks_findIn (M:=model prog w) hK ga;have T2:=looks_findIn (M:=model prog w) hK gn;have T3:=looks_mroIn (M:=model prog w) hK hm;unfold getAttr? getAttrBy? getAttrBy;refine wpAny_bind (wpAny_mkText (wpAny_bind (wpAny_attempt (wpAny_holding (wpAny_bind (T0.at (wpAny_bind (T1.at ?_))))))));have hno:(onTheHeap (Value.ref D) && Value.builtin "BaseException.__getattribute__" == Value.builtin "object.__getattribute__")=false:=by
  have:(Value.builtin "BaseException.__getattribute__" == Value.builtin "object.__getattribute__")=false:=by decide +kernel
  rw[this,Bool.and_false]
 dsimp only;rw[if_neg (by rw[hno]; exact Bool.false_ne_true)]
 unfold getAttrByItsOwn hookBefore;rw[if_pos (by rfl)]
 refine wpAny_bind (T2.at (wpAny_bind (wpAny_attempt (wpAny_holding ?_))));unfold callGetattribute boundAndCalled;rw[if_neg (by simp)]
 have f3:=PySem.F.excAttr_ValueError.ga.bind (.ref y);rw[f3];refine wpAny_bind (wpAny_pure ?_);refine wpAny_call (codeAny_call_builtin PySem.F.excAttr_ValueError.ga.plain PySem.F.entry_bexc_ga (ecl_check (s:=⟨hp,gs,dw,tk + 1,os⟩) hK e hm ?_));refine ecl_entry (s:=⟨hp,gs,dw,tk + 1,os⟩) hK e h1 h2 h3 (wpAny_mono (z _) (fun r s1 q=>?_) fun _ _ q=>q.elim)
 obtain⟨rfl,q⟩:=q;exact handed_on hh (wpAny_pure q)
theorem kitx_exc (p1:findIn K (.ref D) "__getattribute__" = some (some (.builtin "BaseException.__getattribute__"))) (p0:findIn K (.ref D) "__getattr__" = some none) (p7:mroIn K D (.type "BaseException")=some true) (p2:(clsIn K D).isSome=true) (p3:findIn K (.ref D) "__class__" = some (some (.builtin "object.__class__")))
  (p4:specialIn K (.builtin "object.__class__") "__get__" = some (some (.builtin "getset_descriptor.__get__"))) (p5:takesIn K (.builtin "object.__class__")=some true) (p6:mroIn K D (.type "object")=some true):KitX K (.ref y) (.ref D) (ExcO D y) where
 ty:=fun _ _ _ e=>ecl_type e
 it:=fun _ _ hK _=>by
  unfold clsIn at p2;split at p2
  ·rename_i lk
   intro B Q' E' s' k q;unfold isType loadHead;exact wpAny_bind (wpAny_loadPart (k _ _ (hK _ _ lk)) (wpAny_pure q))
  ·cases p2
 ne:=fun hp tp dd its n sl hK ht=>by
  refine Bool.eq_false_iff.mpr fun q=>?_
  have q':D=tp:=Value.ref.inj (beq_iff_eq.mp q);subst q';unfold clsIn at p2;split at p2
  ·rename_i lk
   cases (hK _ _ lk).symm.trans ht
  ·cases p2
 ca:=fun {prog w B E' Q' s'} hK e k=>ecl_attr hK e p1 p0 p7 p3 p4 p5 rfl fun A'=>wpAny_call (ecl_get (s:={ s' with toks:=s'.toks + 1 }) hK e p6 ⟨rfl,k⟩)
end
end Z
end
section
namespace Z
open PySem PySem.Spec PyProof.Rows L2
noncomputable def tyNm:Ty->Option (Str×String)
 | .int=>some ("int","int")
 | .bool=>some ("bool","bool")
 | .str=>some ("str","str")
 | .tuple=>some ("tuple","tuple")
 | .list=>some ("list","list")
 | .dict=>some ("dict","dict")
 | _=>none
noncomputable def kdNm:Kd->Option String
 | .non=>some "NoneType"
 | .bool=>some "bool"
 | .int=>some "int"
 | .str=>some "str"
 | .tuple=>some "tuple"
 | .list=>some "list"
 | .dict=>some "dict"
 | .exc _=>none
theorem tyNm_boot{t:Ty}{nm:Str}{T:String}(h:tyNm t=some (nm,T)):bootBuiltins nm=some (.type T):=by
 cases t <;> simp only[tyNm,Option.some.injEq,Prod.mk.injEq,reduceCtorEq] at h <;> obtain⟨rfl,rfl⟩:=h <;> decide +kernel
theorem tyNm_mem{t:Ty}{nm:Str}{T:String}(h:tyNm t=some (nm,T)):nm∈blts:=by
 cases t <;> simp only[tyNm,Option.some.injEq,Prod.mk.injEq,reduceCtorEq] at h <;> obtain⟨rfl,rfl⟩:=h <;> decide
theorem isT_kit{k:Kd}{t:Ty}{nm:Str}{T U:String}{b:Bool}(ht:tyNm t=some (nm,T))(hk:kdNm k=some U)(h:isT k t=some b)(K:PySem.W.Frag):PySem.W.kitOne K (.type U) (.type T)=some b:=by
 cases k <;> simp only[kdNm,Option.some.injEq,reduceCtorEq] at hk <;> subst hk <;> cases t <;> simp only[tyNm,Option.some.injEq,Prod.mk.injEq,reduceCtorEq] at ht <;> obtain⟨rfl,rfl⟩:=ht <;> simp only[isT,Option.some.injEq] at h <;> subst h <;> kernel_rfl
section
variable{X:Cx}{pins:List (Addr×Obj)}{σ:L2.St}{H:Hp}{s:Shared}{ρ:List Addr}{S S':Sto}{env:En}{a:Expr}{fa:En->Sto->R D}{pos:Pos}
theorem kit_d(I:S0 X pins σ H s ρ S env){d:D}{v:V}{u:Value}{k:Kd}{U:String}(h:kdD S d=some k)(hU:kdNm k=some U)(rd:RD X.K ρ H d v)(rv:RelV v u) :
  ∃ P:Heap->Prop,PySem.W.KitX X.K u (.type U) P/\P s.heap/\u≠.builtin "__main__.__loader__#opaque" := by
 cases d with
 | non=>cases h; cases hU; simp only[RD] at rd; subst rd; cases rv; exact⟨_,PySem.W.kitx_none,trivial,fun z=>nomatch z⟩
 | bl b=>cases h; cases hU; simp only[RD] at rd; subst rd; cases rv; exact⟨_,PySem.W.kitx_bool,trivial,fun z=>nomatch z⟩
 | int i=>cases h; cases hU; simp only[RD] at rd; subst rd; obtain⟨t,rfl⟩:=rv; exact⟨_,PySem.W.kitx_int,trivial,fun z=>nomatch z⟩
 | str x=>cases h; cases hU; simp only[RD] at rd; subst rd; obtain⟨t,rfl⟩:=rv; exact⟨_,PySem.W.kitx_str,trivial,fun z=>nomatch z⟩
 | tup xs =>
  cases h; cases hU;simp only[RD] at rd;obtain⟨p,vs,rfl,hq,_⟩:=rd;cases rv;obtain⟨its,_,pl,_⟩:=I.inv.tuple hq;obtain⟨o,h1,h2,_⟩:=pl;exact⟨_,PySem.W.kitx_tuple,⟨o,h1,h2⟩,fun z=>nomatch z⟩
 | fro xs =>
  cases h; cases hU;simp only[RD] at rd;obtain⟨p,vs,rfl,hq,_⟩:=rd;cases rv;obtain⟨its,_,pl,_⟩:=I.inv.list hq.sq;obtain⟨o,n,h1,h2,_⟩:=pl;exact⟨_,PySem.W.kitx_list,⟨o,h1,h2⟩,fun z=>nomatch z⟩
 | fn _ _=>cases h
 | ref n =>
  simp only[kdD] at h;simp only[RD] at rd;obtain⟨p,rfl,hp⟩:=rd;cases rv;split at h
  ·rename_i xs e
   cases h; cases hU;obtain⟨vs,hv,_⟩:=I.sr.ob n p _ hp e;obtain⟨_,its,n',_,h1⟩:=(show ObjOk X.prog X.w H s.heap p (.lst vs) from I.inv.hok p _ hv);exact⟨_,PySem.W.kitx_list,⟨_,h1,rfl⟩,fun z=>nomatch z⟩
  ·rename_i xs e
   cases h; cases hU;obtain⟨_,hv⟩:=I.sr.ob n p _ hp e;obtain⟨_,_,vs,_,o,es,ep,h1,h2,_⟩:=(show ObjOk X.prog X.w H s.heap p (.dK []) from I.inv.hok p _ hv);exact⟨_,PySem.W.kitx_dict,⟨o,h1,h2.1⟩,fun z=>nomatch z⟩
  ·cases h; cases hU
  ·cases h
theorem d_isi1 {t:Ty} {nm:Str} {T:String} {p0 p1:Pos} (ht:tyNm t=some (nm,T)) (hb:∀ x∈blts,X.mg x=none) (hg0:Gl X "isinstance") (hg:Gl X nm) (hok:okNm nm=true) (ha:DE X a fa) (hst:noStar a=true) :
  DE X (.Call (.Name "isinstance" p0) [a,.Name nm p1] [] pos) (fun env S=>(fa env S).bind fun x S=>match (kdD S x).bind fun k=>isTs k [t] with | some r=>.ok (.bl r) S | none=>.bad):=by
 intro pins s σ H ρ S env I nb;dsimp only at nb ⊢;obtain⟨o1,_,o3⟩:=okNm_ok hok;refine wpAny_Call_Name_kw (ld_blt I.inv hg0 (hb _ (by decide)) (u:=.builtin "isinstance") (by decide +kernel) ?_)
 refine PyProof.Rows.callWith_builtin1 ?_ (star_cons hst) rfl;rw[star_cons hst];generalize hr:((fa env S).bind fun x S=>match (kdD S x).bind fun k=>isTs k [t] with | some r=>R.ok (D.bl r) S | none=>R.bad)=r at nb ⊢
 refine Calls.spliced_cons (ha.bind I (by rw[hr]; exact nb) hr.symm (fun d S1 u s1 v H1 ρ1 e1 nb1 I1 rv rd st1=>?_) fun _ _ z=>z)
 refine Calls.spliced_cons (ld_blt I1.inv hg (hb _ (tyNm_mem ht)) (tyNm_boot ht) ?_ o3 o1);refine Calls.spliced_nil ?_;cases q:(kdD S1 d).bind fun k=>isTs k [t] with
 | none=>rw[q] at nb1; exact absurd rfl nb1
 | some b =>
  obtain⟨k,q1,q2⟩:=Option.bind_eq_some_iff.mp q;have q3:isT k t=some b:=by
   unfold isTs at q2;cases e:isT k t with
   | none=>rw[e] at q2; cases q2
   | some c=>rw[e] at q2; cases c <;> simp[isTs] at q2 <;> rw[q2]
  rw[e1,q];cases hU:kdNm k with
  | none=>cases k <;> simp only[kdNm,reduceCtorEq] at hU; cases t <;> simp only[tyNm,reduceCtorEq] at ht <;> simp only[isT,reduceCtorEq] at q3
  | some U =>
   obtain⟨P,k1,k2,k3⟩:=kit_d I1 q1 hU rd rv;exact PySem.W.kia_one k1 I1.inv.kIn k2 (isT_kit ht hU q3 X.K) k3 fun tk=>OkP.pre st1 (fin_b' I1.sr (I1.inv.tok tk))
theorem d_isiE {t:Ty} {nm:Str} {p0 p1:Pos} (er:ErrOk X.K) (ht:(∃ c,t=.cls c/\clsNm c=some nm)\/(t=.valueError/\nm = "ValueError")) (hb:∀ x∈blts,X.mg x=none) (hg0:Gl X "isinstance") (hg:Gl X nm) (hok:okNm nm=true) (ha:DE X a fa) (hst:noStar a=true) :
  DE X (.Call (.Name "isinstance" p0) [a,.Name nm p1] [] pos) (fun env S=>(fa env S).bind fun x S=>match (kdD S x).bind fun k=>isTs k [t] with | some r=>.ok (.bl r) S | none=>.bad):=by
 intro pins s σ H ρ S env I nb;dsimp only at nb ⊢;obtain⟨o1,_,o3⟩:=okNm_ok hok;refine wpAny_Call_Name_kw (ld_blt I.inv hg0 (hb _ (by decide)) (u:=.builtin "isinstance") (by decide +kernel) ?_)
 refine PyProof.Rows.callWith_builtin1 ?_ (star_cons hst) rfl;rw[star_cons hst];generalize hr:((fa env S).bind fun x S=>match (kdD S x).bind fun k=>isTs k [t] with | some r=>R.ok (D.bl r) S | none=>R.bad)=r at nb ⊢
 refine Calls.spliced_cons (ha.bind I (by rw[hr]; exact nb) hr.symm (fun d S1 u s1 v H1 ρ1 e1 nb1 I1 rv rd st1=>?_) fun _ _ z=>z)
 /- the value is an error -/
 cases q:(kdD S1 d).bind fun k=>isTs k [t] with
 | none=>rw[q] at nb1; exact absurd rfl nb1
 | some b =>
  rw[e1,q];obtain⟨k,q1,q2⟩:=Option.bind_eq_some_iff.mp q;have q3:isT k t=some b:=by
   unfold isTs at q2;cases e:isT k t with
   | none=>rw[e] at q2; cases q2
   | some c=>rw[e] at q2; cases c <;> simp[isTs] at q2 <;> rw[q2]
  obtain⟨c',rfl⟩:∃ c',k=.exc c':=by
   rcases ht with⟨c,rfl,_⟩ | ⟨rfl,_⟩ <;> cases k <;> first | exact⟨_,rfl⟩ | (simp only[isT,reduceCtorEq] at q3)
  obtain⟨n,rfl,hS⟩:∃ n,d=.ref n/\S1[n]?=some (.exc c'):=by
   cases d with
   | ref n =>
    refine⟨n,rfl,?_⟩;simp only[kdD] at q1;split at q1
    ·cases q1
    ·cases q1
    ·rename_i c2 e; cases q1; exact e
    ·cases q1
   | _=>cases q1
  simp only[RD] at rd;obtain⟨p,rfl,hp⟩:=rd;cases rv;obtain⟨C,hC,hH⟩:=(show ∃ C,clsAt X.K c'=some C/\H1 p=some (.ext (ExcO C p)) from I1.sr.ob n p _ hp hS);obtain⟨_,⟨b1,b2,b3⟩,a3,a4,a5,a6⟩:=er.cls c' C hC;have hE:ExcO C p s1.heap:=(show ObjOk X.prog X.w H1 s1.heap p (.ext (ExcO C p)) from I1.inv.hok p _ hH).1;have kx:=kitx_exc (y:=p) b1 b2 b3 a3 a4 er.gt er.tk a5;rcases ht with⟨c,rfl,hc⟩ | ⟨rfl,rfl⟩
  ·obtain⟨C0,h1,h2⟩:=er.at_ c nm hc
   have e3:b=(c == 0 || c == c'):=by simp only[isT,Option.some.injEq] at q3; exact q3.symm
   subst e3;refine Calls.spliced_cons (ld_glob I1.inv hg (PySem.W.mg_of I1.inv.mod.kin I1.inv.mod.glob h2) (Calls.spliced_nil ?_) o1);exact PySem.W.kia_one kx I1.inv.kIn hE (er.sub c' C c C0 hC h1).1 (fun z=>nomatch z) fun tk=>OkP.pre st1 (fin_b' I1.sr (I1.inv.tok tk))
  ·have e3:b=true:=by simp only[isT,Option.some.injEq] at q3; exact q3.symm
   subst e3;refine Calls.spliced_cons (ld_blt I1.inv hg (hb _ (by decide)) (u:=.type "ValueError") (by decide +kernel) (Calls.spliced_nil ?_) o3 o1)
   exact PySem.W.kia_one kx I1.inv.kIn hE a6 (fun z=>nomatch z) fun tk=>OkP.pre st1 (fin_b' I1.sr (I1.inv.tok tk))
end
end Z
end
section
namespace Z
open PySem PySem.Spec PyProof.Rows L2
end Z
end
section
namespace Z
open PySem PySem.Spec PyProof.Rows L2
theorem clip_ix(n d:Nat)(o:Option Int):clip n d o=HT.sIx n d o:=by
 cases o with
 | none=>rfl
 | some i =>
  simp only[clip,HT.sIx]
  by_cases h:i < 0
  ·rw[if_pos h,if_neg (by omega)]
  ·rw[if_neg h,if_pos (by omega)]
theorem cut_rd{K:PySem.W.Frag}{ρ:List Addr}{H:Hp}{xs:List D}{vs:List V}(h:RDs K ρ H xs vs)(lo hi:Option Int):RDs K ρ H (cut xs lo hi) (cutV vs lo hi):=by
 unfold cut cutV;rw[clip_ix,clip_ix,h.length];exact(h.drop _).take _
section
variable{prog:Program}{w:World}{A:Around}{E:Value->Shared->Prop}{s:Shared}
theorem tuple_whole{t sl:Addr}{items:Array Value}{vl vu:Value}{lo hi:Option Int}{Q:Value->Shared->Prop}(ht:IsTup s.heap t items)(hs:s.heap.IsSliceOf sl vl vu .none)(pl:IsPart vl lo)(pu:IsPart vu hi)
  (h1:HT.sIx items.size 0 lo=0) (h2:HT.sIx items.size items.size hi=items.size) (h:Q (.ref t) s):wpAny (model prog w) A (getItem (.ref t) (.ref sl)) Q E s:=by
 obtain⟨os,hos,hcs,hds⟩:=id hs;have hTs:s.TypeIs (.ref sl) "slice" := ⟨os,hos,hcs⟩;unfold getItem
 try with_reducible refine wpAny_holding ?_
 first | refine wpAny_bind (wpAny_pure ?_) | skip
 refine wpAny_bind (wpAny_sequenceKey ht.typeIs (by decide) (wpAny_bind (wpAny_callSpecial?_slot (name:=Str.ofString "__getitem__") ht.typeIs PyProof.Rows.slot_tuple_getitem (wpAny_call_entry PyProof.Rows.slot_tuple_getitem ht.typeIs entry_tuple_getitem ?_ (args_tuple_getitem _ _)))))
 show wpAny _ _ (Builtin.Tuple.tupleItemsOf (.ref t) >>= _) _ _ s;refine wpAny_bind (tupleItemsOf_ ht (wpAny_bind (wpAny_typeOf hTs ?_)));rw[if_pos (by decide)]
 refine wpAny_bind (HT.sliceApplied_gen hs pl pu ?_);show wpAny _ _ (if (((HT.sIx items.size 0 lo:Nat):Int) == 0 && (1:Int) == 1 && (HT.sIx items.size items.size hi - HT.sIx items.size 0 lo) == items.size)=true then _ else _) _ _ s
 rw[h1,h2,if_pos (by simp)]
 refine wpAny_bind ?_;unfold Builtin.Tuple.tupleIsExact;refine wpAny_bind (wpAny_typeOf ht.typeIs (wpAny_pure ?_));rw[if_pos (by decide)]
 exact wpAny_bind (wpAny_rule (wpAny_pure ⟨_,rfl,wpAny_pure h⟩))
end
def PartR(K:PySem.W.Frag)(ρ:List Addr)(H:Hp)(o:Option D)(u:Value):Prop:=match o with
 | none=>u=.none
 | some d=>∃ v,RelV v u/\RD K ρ H d v
def DO(X:Cx)(e:Option Expr)(f:En->Sto->R (Option D)):Prop :=
 ∀ (pins:List (Addr×Obj)) (s:Shared) (σ:L2.St) (H:Hp) (ρ:List Addr) (S:Sto) (env:En),S0 X pins σ H s ρ S env->f env S≠.bad ->
  wpAny (model X.prog X.w) X.A (evalPart e X.env) (fun u s'=>∃ o S',f env S=.ok o S'/\∃ H' ρ',Inv X pins σ H' s'/\SR X.K ρ' S' H'/\Stp X.K ρ ρ' H H'/\PartR X.K ρ' H' o u) (ExP X pins σ ρ H (f env S)) s
section
variable{X:Cx}{pins:List (Addr×Obj)}{σ:L2.St}{H:Hp}{s:Shared}{ρ:List Addr}{S S':Sto}{env:En}{a:Expr}{fa:En->Sto->R D}{pos p2:Pos}
theorem do_none:DO X none (fun _ S=>.ok none S):=by
 intro pins s σ H ρ S env I nb;rw[evalPart_none];exact wpAny_pure ⟨none,S,rfl,H,ρ,I.inv,I.sr,.refl,rfl⟩
theorem do_some(h:DE X a fa):DO X (some a) (fun env S=>(fa env S).bind fun x S=>.ok (some x) S):=by
 intro pins s σ H ρ S env I nb;dsimp only at nb ⊢;rw[evalPart_some];refine h.bind I nb rfl (fun d S1 u s1 v H1 ρ1 e1 nb1 I1 rv rd st1=>?_) fun _ _ z=>z
 exact⟨some d,S1,e1,H1,ρ1,I1.inv,I1.sr,st1,v,rv,rd⟩
theorem DO.bind{α:Type}{e:Option Expr}{f:En->Sto->R (Option D)}(h:DO X e f)(I:S0 X pins σ H s ρ S env){k:Option D->Sto->R α}{r:R α}{Q:Value->Shared->Prop}{E:Value->Shared->Prop}(nb:(f env S).bind k≠.bad)(hr:r=(f env S).bind k)
  (hQ:∀ o S1 u s' H' ρ',r=k o S1->k o S1≠.bad->S0 X pins σ H' s' ρ' S1 env->PartR X.K ρ' H' o u->Stp X.K ρ ρ' H H'->Q u s') (hE:∀ x s',ExP X pins σ ρ H r x s'->E x s'):wpAny (model X.prog X.w) X.A (evalPart e X.env) Q E s:=by
 cases q:f env S with
 | bad=>rw[q] at nb; exact absurd rfl nb
 | ex n S1 =>
  rw[q] at hr;refine wpAny_mono (h pins s σ H ρ S env I (by rw[q]; exact fun z=>nomatch z)) (fun u s' z=>?_) fun x s' z=>?_
  ·obtain⟨o,S2,e,_⟩:=z; rw[q] at e; cases e
  ·obtain⟨m,S2,e,z⟩:=z; rw[q] at e; cases e; exact hE x s' ⟨n,S1,hr,z⟩
 | ok o S1 =>
  rw[q] at hr nb;refine wpAny_mono (h pins s σ H ρ S env I (by rw[q]; exact fun z=>nomatch z)) (fun u s' z=>?_) fun x s' z=>?_
  ·obtain⟨o',S2,e,H',ρ',J,sr,st,pr⟩:=z
   rw[q] at e; cases e;exact hQ o S1 u s' H' ρ' hr nb (I.step J sr st) pr st
  ·obtain⟨m,S2,e,z⟩:=z; rw[q] at e; cases e
theorem part_of{K:PySem.W.Frag}{o:Option D}{u:Value}{oi:Option Int}(h:PartR K ρ H o u)(e:optI o=some oi):IsPart u oi:=by
 cases o with
 | none =>
  have e':some none=some oi:=e;cases e';have h':u=.none:=h;subst h';exact .none
 | some d =>
  cases d with
  | int i =>
   have e':some (some i)=some oi:=e;cases e';obtain⟨v,rv,rd⟩:=h;simp only[RD] at rd;subst rd;obtain⟨t,rfl⟩:=rv;exact .int i t
  | _=>cases e
theorem PartR.mono{K:PySem.W.Frag}{ρ':List Addr}{H':Hp}{o:Option D}{u:Value}(h:PartR K ρ H o u)(st:Stp K ρ ρ' H H'):PartR K ρ' H' o u:=by
 cases o with
 | none=>exact h
 | some d=>obtain⟨v,rv,rd⟩:=h; exact⟨v,rv,rd.mono st⟩
theorem d_sli{lo hi:Option Expr}{fl fh:En->Sto->R (Option D)}(ha:DE X a fa)(hl:DO X lo fl)(hh:DO X hi fh) :
  DE X (.Subscript a (.Slice lo hi none p2) pos) (fun env S=>(fa env S).bind fun x S=>(fl env S).bind fun l S=>(fh env S).bind fun h S=>match optI l,optI h with
   | some l,some h=>sliD x l h S
   | _,_=>.bad):=by
 intro pins s σ H ρ S env I nb;dsimp only at nb ⊢;refine Subscript_ (ha.bind I nb rfl (fun d S1 u s1 v H1 ρ1 e1 nb1 I1 rv rd st1=>?_) fun _ _ z=>z)
 rw[e1];refine wpAny_Slice (hl.bind I1 nb1 rfl (fun l S2 vl s2 H2 ρ2 e2 nb2 I2 pl st2=>?_) fun x s' z=>z.pre st1)
 rw[e2];refine hh.bind I2 nb2 rfl (fun h S3 vu s3 H3 ρ3 e3 nb3 I3 pu st3=>?_) fun x s' z=>(z.pre st2).pre st1
 rw[e3];cases q1:optI l with
 | none=>rw[q1] at nb3; exact absurd rfl nb3
 | some li =>
  cases q2:optI h with
  | none=>rw[q1,q2] at nb3; exact absurd rfl nb3
  | some hi' =>
   rw[q1,q2] at nb3;dsimp only at nb3 ⊢;rw[evalPart_none];refine wpAny_pure ?_;have P1:=part_of pl q1;have P2:=part_of pu q2;have rd3:=(rd.mono st2).mono st3;have J:Inv X pins σ H3 { s3 with heap:=s3.heap.push { cls:=.type "slice",data:=.fields #[vl,vu,.none] } }:=I3.inv.kept (t':=s3.toks) fun b ob q=>Heap.get?_push_of_some _ q
   have fin:∀ {T id:String},typeLookup (.type T) "__getitem__" = pure (some (.builtin id))->({ s3 with heap:=s3.heap.push { cls:=.type "slice",data:=.fields #[vl,vu,.none] } }:Shared).TypeIs u T ->
     wpAny (model X.prog X.w) X.A (getItem u (.ref s3.heap.objs.size)) (OkP X pins σ ρ3 H3 (sliD d li hi' S3)) (ExP X pins σ ρ3 H3 (sliD d li hi' S3)) { s3 with heap:=s3.heap.push { cls:=.type "slice",data:=.fields #[vl,vu,.none] } } ->
     wpAny (model X.prog X.w) X.A (subscriptTail a (.Slice lo hi none p2) u (.ref s3.heap.objs.size)) (OkP X pins σ ρ H (sliD d li hi' S3)) (ExP X pins σ ρ H (sliD d li hi' S3)) { s3 with heap:=s3.heap.push { cls:=.type "slice",data:=.fields #[vl,vu,.none] } }:=fun t1 t2 g =>
    tail_any (ops:=[.ref s3.heap.objs.size,u]) t2 t1 (wpAny_mono g (fun _ _ z=>OkP.pre ((st1.trans st2).trans st3) z) fun _ _ z=>ExP.pre ((st1.trans st2).trans st3) z) (by with_unfolding_all rfl)
   cases d with
   | tup xs =>
    simp only[RD] at rd3;obtain⟨p,vs,rfl,hq,hr⟩:=rd3;cases rv;obtain⟨its,r,ht,hz⟩:=J.tuple hq;have hlen:its.toArray.size=vs.length:=by rw[List.size_toArray]; exact r.length.symm
    refine fin PyProof.Rows.slot_tuple_getitem.lookup ht.typeIs ?_
    by_cases hw:HT.sIx vs.length 0 li=0/\HT.sIx vs.length vs.length hi'=vs.length
    ·refine tuple_whole ht (Heap.IsSliceOf.new ..) P1 P2 (by rw[hlen]; exact hw.1) (by rw[hlen]; exact hw.2) ?_
     have e:cut xs li hi'=xs:=by
      unfold cut;rw[clip_ix,clip_ix,hr.length,hw.1,hw.2,List.drop_zero,Nat.sub_zero,<- hr.length,List.take_length]
     refine .mk (v:=.ref p) .refl J rfl ?_ I3.sr;rw[e]; simp only[RD]; exact⟨p,vs,rfl,hq,hr⟩
    ·refine HT.getItem_tuple_cut ht (Heap.IsSliceOf.new ..) P1 P2 (by rw[hlen]; exact hw) ?_ (by rw[hlen]; exact hz)
     rw[hlen];refine fin_tup (vs:=cutV vs li hi') (J.laid (t':=s3.toks) (fun b ob q=>Heap.get?_push_of_some _ q) (Nat.le_refl _) ?_) (J.hok.fresh (Nat.le_refl _)) I3.sr (cut_rd hr li hi')
     exact⟨Nat.le_trans (cutV_length vs li hi') hz,_,(r.drop (HT.sIx vs.length 0 li)).take (HT.sIx vs.length vs.length hi' - HT.sIx vs.length 0 li),⟨_,Heap.get?_push_size _ rfl,rfl,_,rfl⟩⟩
   | ref n =>
    cases e4:lstAt S3 n with
    | none=>simp[sliD,e4] at nb3
    | some xs =>
     obtain⟨b,vs,k1,k2,k3⟩:=I3.list e4;simp only[RD] at rd3;obtain⟨b',rfl,k4⟩:=rd3;rw[k1] at k4; cases k4;cases rv;obtain⟨its,r,ht,hz⟩:=J.list (.of k2);have hlen:=r.length;refine fin slot_list_getitem.lookup ht.isList.typeIs ?_;refine wpAny_getItem_list_slice ht.isList (Heap.IsSliceOf.new ..) P1 P2 .none (by simp) ?_ (by rw[List.size_toArray] <;> omega)
     rw[slicePick_cut,<- hlen];have e5:sliD (.ref n) li hi' S3=.ok (.ref S3.length) (S3++[.lst (cut xs li hi')]):=by simp only[sliD,e4]
     rw[e5];refine fin_lst (vs:=cutV vs li hi') (J.laid (t':=s3.toks) (fun b ob q=>Heap.get?_push_of_some _ q) (Nat.le_refl _) ?_) (J.hok.fresh (Nat.le_refl _)) I3.sr (cut_rd k3 li hi')
     exact⟨Nat.le_trans (cutV_length vs li hi') hz,_,0,(r.drop (HT.sIx vs.length 0 li)).take (HT.sIx vs.length vs.length hi' - HT.sIx vs.length 0 li),Heap.get?_push_size _ rfl⟩
   | _=>exact absurd rfl nb3
end
theorem kitAny2{K:PySem.W.Frag}{k:Kd}{t1 t2:Ty}{n1 n2:Str}{T1 T2 U:String}{b:Bool}(h1:tyNm t1=some (n1,T1))(h2:tyNm t2=some (n2,T2))(hk:kdNm k=some U)(h:isTs k [t1,t2]=some b) :
  PySem.W.kitAny K (.type U) [.type T1,.type T2]=some b:=by
 simp only[isTs] at h;unfold PySem.W.kitAny;cases e1:isT k t1 with
 | none=>rw[e1] at h; cases h
 | some c1 =>
  rw[e1] at h;rw[isT_kit h1 hk e1 K];cases c1 with
  | true=>cases h; rfl
  | false =>
   dsimp only at h ⊢;unfold PySem.W.kitAny;cases e2:isT k t2 with
   | none=>rw[e2] at h; cases h
   | some c2 =>
    rw[e2] at h;rw[isT_kit h2 hk e2 K];cases c2 with
    | true=>cases h; rfl
    | false=>cases h; rfl
section
variable{X:Cx}{pins:List (Addr×Obj)}{σ:L2.St}{H:Hp}{s:Shared}{ρ:List Addr}{S S':Sto}{env:En}{a:Expr}{fa:En->Sto->R D}{pos:Pos}
theorem d_isi2 {t1 t2:Ty} {n1 n2:Str} {T1 T2:String} {p0 q1 q2 p3:Pos} {k3:Nat} (h1:tyNm t1=some (n1,T1)) (h2:tyNm t2=some (n2,T2)) (hb:∀ x∈blts,X.mg x=none) (hg0:Gl X "isinstance") (g1:Gl X n1) (g2:Gl X n2) (o1:okNm n1=true) (o2:okNm n2=true) (ha:DE X a fa) (hst:noStar a=true) :
  DE X (.Call (.Name "isinstance" p0) [a,.Tuple [.Name n1 q1,.Name n2 q2] k3 p3] [] pos) (fun env S=>(fa env S).bind fun x S=>match (kdD S x).bind fun k=>isTs k [t1,t2] with | some r=>.ok (.bl r) S | none=>.bad):=by
 intro pins s σ H ρ S env I nb;dsimp only at nb ⊢;obtain⟨a1,_,a3⟩:=okNm_ok o1;obtain⟨b1,_,b3⟩:=okNm_ok o2;refine wpAny_Call_Name_kw (ld_blt I.inv hg0 (hb _ (by decide)) (u:=.builtin "isinstance") (by decide +kernel) ?_)
 refine PyProof.Rows.callWith_builtin1 ?_ (star_cons hst) rfl;rw[star_cons hst];generalize hr:((fa env S).bind fun x S=>match (kdD S x).bind fun k=>isTs k [t1,t2] with | some r=>R.ok (D.bl r) S | none=>R.bad)=r at nb ⊢
 refine Calls.spliced_cons (ha.bind I (by rw[hr]; exact nb) hr.symm (fun d S1 u s1 v H1 ρ1 e1 nb1 I1 rv rd st1=>?_) fun _ _ z=>z)
 refine Calls.spliced_cons (wpAny_Tuple_spliced (x1:=k3) (Calls.spliced_cons (ld_blt I1.inv g1 (hb _ (tyNm_mem h1)) (tyNm_boot h1) (Calls.spliced_cons (ld_blt I1.inv g2 (hb _ (tyNm_mem h2)) (tyNm_boot h2) (Calls.spliced_nil ⟨by show 2<=sizeLine; decide,?_⟩) b3 b1)) a3 a1)))
 refine Calls.spliced_nil ?_;cases q:(kdD S1 d).bind fun k=>isTs k [t1,t2] with
 | none=>rw[q] at nb1; exact absurd rfl nb1
 | some b =>
  obtain⟨k,k1,k2⟩:=Option.bind_eq_some_iff.mp q;rw[e1,q];have J:Inv X pins σ H1 { s1 with heap:=s1.heap.push { cls:=.type "tuple",data:=.seq #[.type T1,.type T2] } }:=I1.inv.kept (t':=s1.toks) fun b ob q=>Heap.get?_push_of_some _ q
  have I2:S0 X pins σ H1 { s1 with heap:=s1.heap.push { cls:=.type "tuple",data:=.seq #[.type T1,.type T2] } } ρ1 S1 env:=⟨J,I1.sr,I1.er⟩
  cases hU:kdNm k with
  | none =>
   cases k with
   | exc c =>
    simp only[isTs] at k2;have z:isT (.exc c) t1=none:=by cases t1 <;> simp only[tyNm,reduceCtorEq] at h1 <;> rfl
    rw[z] at k2; cases k2
   | _=>cases hU
  | some U =>
   obtain⟨P,z1,z2,z3⟩:=kit_d I2 k1 hU rd rv;exact PySem.W.kia_tup (its:=[.type T1,.type T2]) z1 J.kIn z2 (Heap.get?_push_size _ rfl) (kitAny2 h1 h2 hU k2) z3 fun tk=>OkP.pre st1 (fin_b' I1.sr (J.tok tk))
end
end Z
end
section
namespace Z
open PySem PySem.Spec PyProof.Rows L2
open Builtin.Slice (sliceAdjust slicePlaces)
section
variable{prog:Program}{w:World}{A:Around}{E:Value->Shared->Prop}{s:Shared}
end
section
variable{X:Cx}{pins:List (Addr×Obj)}{σ:L2.St}{H:Hp}{s:Shared}{ρ:List Addr}{S S':Sto}{env:En}{a:Expr}{fa:En->Sto->R D}{pos p2:Pos}
end
end Z
end
section
namespace Z
open PySem PySem.Spec PyProof.Rows L2
section
variable{X:Cx}{pins:List (Addr×Obj)}{σ:L2.St}{H:Hp}{s:Shared}{ρ:List Addr}{S:Sto}{env:En}{a b:Expr}{es:List Expr}{fa:En->Sto->R D}{g:En->Sto->R (List D)}{p pos pos':Pos}
end
end Z
end
section
namespace Z
open PySem PySem.Spec PyProof.Rows L2
section
variable(cm:Bool)(F:Fn)(G:List D)(fns:List (Str×Nat×Bool))(gns:List Str)
structure PF(X:Cx):Prop where
 blt:∀ x∈blts,X.mg x=none
 fn:∀ (f:Nat) nm ar fl,fns[f]?=some (nm,ar,fl)->(fl=true->cm=true)->∃ g fd ps k,FnD fl X.prog X.w X.K X.mg X.base k g fd ps (F f)/\RoomC fl k X.A/\Binds X.K fd ps []/\X.mg nm=some (.ref g)/\PySem.W.keepIn X.K (.ref g)=true/\ps.length=ar
 glb:∀ (k:Nat) nm,gns[k]?=some nm->∃ u d,X.mg nm=some u/\G[k]?=some d/\∀ ρ H,∃ v,RelV v u/\RD X.K ρ H d v
 cal:∀ (f:Nat) (nm:Str),fnIn f nm G=true->∃ ar fl,fns[f]?=some (nm,ar,fl)/\(∀ a,PySem.W.nsIn X.K mainGlobals nm=some (some (.ref a))->X.mg nm=some (.ref a))/\∀ xs S,F f xs S≠.bad->xs.length=ar
 units:X.A.units + 200 < cLine
 gd:X.A.guards=some []
 calm:cm=true->X.calm=true
 err:ErrOk X.K
theorem PF.blk{X:Cx}(h:PF cm F G fns gns X)(pins:List (Addr×Obj))(s:Shared)(H:Hp)(sc:Scope)(cl:List (Str×Addr))(C:Addr)(own:List Str)(fp:List Addr):PF cm F G fns gns (blk X pins s H sc cl C own fp) :=
 ⟨h.blt,h.fn,h.glb,h.cal,h.units,h.gd,h.calm,h.err⟩
end
section
variable{X:Cx}{e:Expr}{f g:En->Sto->R D}
theorem DE.congr(h:DE X e f)(q:∀ env S,g env S=f env S):DE X e g:=by
 have:g=f:=funext fun env=>funext fun S=>q env S
 rw[this]; exact h
theorem DT.congr{f g:En->Sto->R Bool}(h:DT X e f)(q:∀ env S,g env S=f env S):DT X e g:=by
 have:g=f:=funext fun env=>funext fun S=>q env S
 rw[this]; exact h
theorem tupB{top:Bool}{is:List Nat}{tg:Expr}(hnd:X.N.Nodup)(ht:top=true->∀ x,X.fn x=true)(h:mtT top X.env.scope X.N (.tup is) tg=true):∃ es k p,tg=.Tuple es k p/\(∀ E,PGs (X.wish E) es (gNs is))/\(assignEach es X.env).length=is.length/\(assignEach es X.env).findIdx? (·.1)=none:=by
 simp only[mtT] at h;obtain⟨es,h1,h⟩:=any_some h;obtain⟨k,p,rfl⟩:=vTup_ok h1;have key:∀ (is:List Nat) (es:List Expr),mtT.namesB top X.env.scope X.N is es=true->∃ xs:List (Str×Pos),es=xs.map (fun x=>Expr.Name x.1 x.2)/\is.length=xs.length/\∀ (j i:Nat) (x:Str×Pos),is[j]?=some i->xs[j]?=some x->X.N[i]?=some x.1/\Loc X.env.scope x.1/\(X.fn x.1=true\/X.env.scope.names.lookup x.1=some .local):=by
  intro is
  induction is with
  | nil =>
   intro es h;cases es with
   | nil=>exact⟨[],rfl,rfl,fun j i x e1 _=>by simp at e1⟩
   | cons _ _=>simp[mtT.namesB] at h
  | cons i is ih =>
   intro es h;cases es with
   | nil=>simp[mtT.namesB] at h
   | cons e es =>
    simp only[mtT.namesB,bA0] at h;obtain⟨x,h1,h2⟩:=any_some h.1;obtain⟨p,rfl⟩:=vNm_ok h1;rw[bA0,decide_eq_true_eq] at h2;obtain⟨xs,e1,e2,e3⟩:=ih es h.2;obtain⟨l1,l2⟩:=locB_ok rfl ht h2.2;refine⟨(x,p) :: xs,by rw[e1]; rfl,by simp[e2],fun j i' x' q1 q2=>?_⟩
    cases j with
    | zero=>simp at q1 q2; subst q1 q2; exact⟨h2.1,l1,l2⟩
    | succ j=>exact e3 j i' x' (by simpa using q1) (by simpa using q2)
 obtain⟨xs,e1,e2,e3⟩:=key is es h;subst e1;have nm:=names_each xs X.env;exact⟨_,k,p,rfl,fun E=>pgs_nm (X:=X.wish E) is xs hnd e2 e3,by rw[nm.1,e2],nm.2⟩
theorem dgB{top:Bool}{sc:Scope}{N:List Str}{t:Tg}{tg:Expr}(hN:X.N=N)(hs:X.env.scope=sc)(hnd:N.Nodup)(hc:varT t=false->X.calm=true)(ht:top=true->∀ x,X.fn x=true)(h:mtT top sc N t tg=true):DG X tg t:=by
 subst hN hs;cases t with
 | var i =>
  simp only[mtT] at h;obtain⟨x,h1,h2⟩:=any_some h;obtain⟨p,rfl⟩:=vNm_ok h1;rw[bA0,decide_eq_true_eq] at h2;obtain⟨l1,l2⟩:=locB_ok rfl ht h2.2;exact dg_name hnd h2.1 l1 l2
 | tup is =>
  obtain⟨es,k,p,rfl,q1,q2,q3⟩:=tupB hnd ht h;exact dg_tup (hc rfl) q1 q2 q3
end
theorem evs_len{F:Fn}{G:List D}{cm:Bool}{fns:List (Str×Nat×Bool)}{gns:List Str}{sc:Scope}{N:List Str}:∀ (es:Exs) (xs:List Expr),mts cm fns gns sc N es xs=true->∀ env S ds S',evs F G es env S=.ok ds S'->ds.length=xs.length
 | .nil,[],_,env,S,ds,S',h=>by simp only[evs] at h; cases h; rfl
 | .nil,_ :: _,h,_,_,_,_,_=>by simp[mts] at h
 | .cons _ _,[],h,_,_,_,_,_=>by simp[mts] at h
 | .cons e es,x :: xs,h,env,S,ds,S',q=>by
  simp only[mts,bA0] at h;simp only[evs] at q;cases q1:ev F G e env S with
  | bad=>rw[q1] at q; cases q
  | ex _ _=>rw[q1] at q; cases q
  | ok d S1 =>
   rw[q1] at q;simp only[Rk0] at q;cases q2:evs F G es env S1 with
   | bad=>rw[q2] at q; cases q
   | ex _ _=>rw[q2] at q; cases q
   | ok ds' S2 =>
    rw[q2] at q;simp only[Rk0] at q;cases q;simp[evs_len es xs h.2 env S1 ds' _ q2]
theorem mts_star{cm:Bool}{fns:List (Str×Nat×Bool)}{gns:List Str}{sc:Scope}{N:List Str}:∀ (es:Exs) (xs:List Expr),mts cm fns gns sc N es xs=true->xs.all noStar=true
 | .nil,[],_=>rfl
 | .nil,_ :: _,h=>by simp[mts] at h
 | .cons _ _,[],h=>by simp[mts] at h
 | .cons e es,x :: xs,h=>by
  simp only[mts,bA0] at h;rw[List.all_cons,h.1.1,mts_star es xs h.2]; rfl
theorem blNm_ok{k:Bl}{nm:Str}{b:Bool}{id:String}(h:blNm k=some (nm,b,id)){X:Cx}(hsm:∃ o,X.K.lookup sysModules=some o)(hgd:X.A.guards=some [])(hun:X.A.units + 200 < cLine)(hc:quiB k=false->X.calm=true):nm∈blts/\(if b then bootBuiltins nm=some (.builtin id)/\BlR X k (.builtin id) else bootBuiltins nm=some (.type id)/\BlR X k (.type id)):=by
 cases k <;> simp only[blNm,Option.some.injEq,Prod.mk.injEq,reduceCtorEq] at h <;> obtain⟨rfl,rfl,rfl⟩:=h
 case len=>exact⟨by decide,PySem.boot_len,b_len⟩
 case min=>exact⟨by decide,by decide +kernel,b_min (hc rfl)⟩
 case max=>exact⟨by decide,by decide +kernel,b_max (hc rfl)⟩
 case sum=>exact⟨by decide,by decide +kernel,b_sum (hc rfl)⟩
 case all=>exact⟨by decide,by decide +kernel,b_all (hc rfl)⟩
 case tuple=>exact⟨by decide,by decide +kernel,b_tuple⟩
 case list=>exact⟨by decide,by decide +kernel,b_list⟩
 case repr=>exact⟨by decide,by decide +kernel,b_repr hsm hgd hun⟩
 case int=>exact⟨by decide,by decide +kernel,b_int⟩
section
variable{F:Fn}{G:List D}{cm:Bool}{fns:List (Str×Nat×Bool)}{gns:List Str}
theorem calE_ok{fx:Expr}(h:calE fx=true)(args:List Expr)(pos:Pos)(env:PySem.Env):eval (.Call fx args [] pos) env=(do callWith pos (<- eval fx env) [] (backTo pos (starEach args env)) (backToKw pos (keywordEach [] env))):=by
 cases fx <;> first | rfl | cases h
theorem d_cal{X:Cx}{fx e:Expr}{es:List Expr}{pos:Pos}{f:En->Sto->R D}{ga:En->Sto->R (List D)}(hp:PF cm F G fns gns X)(hc:cm=true)(hx:∀ (args:List Expr) (pos:Pos) (env:PySem.Env),eval (.Call fx args [] pos) env=(do callWith pos (<- eval fx env) [] (backTo pos (starEach args env)) (backToKw pos (keywordEach [] env))))
  (hf:DE X fx f) (ha:DA X (e :: es) ga) (he:starEach (e :: es) X.env=(false,eval e X.env) :: starEach es X.env) (hpl:(backTo pos (starEach es X.env)).any (·.1)=false) :
  DE X (.Call fx (e :: es) [] pos) (fun env S=>(f env S).bind fun x S=>match x with
   | .fn k nm=>if fnIn k nm G then (ga env S).bind fun xs S=>F k xs S else .bad
   | _=>.bad):=by
 intro pins s σ H ρ S env I nb;dsimp only at nb ⊢;rw[hx];refine wpAny_bind (hf.bind I nb rfl (fun d S1 u s1 v H1 ρ1 e1 nb1 I1 rv rd st1=>?_) fun _ _ z=>z)
 rw[e1];cases d with
 | fn k nm =>
  dsimp only at nb1 ⊢
  by_cases hi:fnIn k nm G=true
  ·rw[if_pos hi] at nb1 ⊢
   obtain⟨ar,fl,q1,q2,q3⟩:=hp.cal k nm hi;obtain⟨g,fd,ps,kk,c1,c2,c3,c4,c5,c6⟩:=hp.fn k nm ar fl q1 fun _=>hc
   simp only[RD] at rd;obtain⟨a,rfl,hn⟩:=rd;have:=(q2 a hn).symm.trans c4;cases this;cases rv;cases q:ga env S1 with
   | bad=>rw[q] at nb1; exact absurd rfl nb1
   | ex n S2=>exact PySem.W.callWith_K (h₀:=X.base) I1.inv.ok.mod.kin c5 (ha.ex I1 q fun x s' z=>⟨n,S2,rfl,z.pre st1⟩) he hpl
   | ok ds S2 =>
    rw[q] at nb1;simp only[Rk0] at nb1 ⊢;refine PySem.W.callWith_K (h₀:=X.base) I1.inv.ok.mod.kin c5 (ha.ok I1 q fun us s2 vs H2 ρ2 I2 rv2 rd2 st2=>⟨I2.inv.kIn,?_⟩) he hpl
    exact wpAny_mono (run_d c1 c2 c3 I2 rv2 rd2 (by rw[c6]; exact q3 _ _ nb1) nb1) (fun u s2 z=>(z.pre st2).pre st1) fun x s2 z=>(z.pre st2).pre st1
  ·rw[if_neg hi] at nb1; exact absurd rfl nb1
 | _=>exact absurd rfl nb1
theorem dt_val{X:Cx}{e:Expr}{f:En->Sto->R D}(h:DE X e f)(he:∀ whole,isTrue e X.env whole=(do let v <- whole; standAt e.pos; holding [v] (truthy v))):DE X e f/\DT X e (fun env S=>tst (f env S)):=⟨h,.of h he⟩
theorem DW.of{X:Cx}{op:BoolOp}{ys:List Expr}{p:Pos}{g:En->Sto->R Bool}(h:DT X (.BoolOp op ys p) g):DW X (.BoolOp op ys p) g:=fun _=>h
def GenP(F:Fn)(G:List D)(X:Cx)(sc2:Scope)(N2:List Str)(PFY:Cx->Prop):Gens->List Comprehension->Prop
 | .cons t it ifs .nil,gens=>∃ tg iter cs,gens=[⟨tg,iter,cs,0⟩]/\noSet iter=true/\mtT false sc2 N2 t tg=true/\DI X tg iter (evit F G it)/\∀ Y:Cx,Y.N=N2->Y.env.scope=sc2->PFY Y->DTs Y cs (evts F G ifs)
 | .cons t it ifs (.cons t2 it2 ifs2 .nil),gens=>∃ tg iter cs tg2 iter2 cs2,gens=[⟨tg,iter,cs,0⟩,⟨tg2,iter2,cs2,0⟩]/\noSet iter=true/\noSet iter2=true/\mtT false sc2 N2 t tg=true/\mtT false sc2 N2 t2 tg2=true/\DI X tg iter (evit F G it) /\
   (∀ Y:Cx,Y.N=N2->Y.env.scope=sc2->PFY Y->DTs Y cs (evts F G ifs))/\(∀ Y:Cx,Y.N=N2->Y.env.scope=sc2->PFY Y->DI Y tg2 iter2 (evit F G it2))/\∀ Y:Cx,Y.N=N2->Y.env.scope=sc2->PFY Y->DTs Y cs2 (evts F G ifs2)
 | _,_=>False
structure CompP(X:Cx)(elt:Expr)(gens:List Comprehension)(scope:Scope)(cpos:Pos)(own:List Str)(f:En->Sto->R D) where
 tg:Expr
 iter:Expr
 ifs:List Expr
 t:Tg
 fi:En->Sto->R Src
 tf:En->Sto->R Bool
 body:En->List D->Sto->R (List D)
 hg:gens=⟨tg,iter,ifs,0⟩ :: gens.tail
 hi:DI X tg iter fi
 hs:∀ x,foldedSetIterable iter X.env x=pure x
 hG:∀ pins s H cl C fp,DG (blk X pins s H scope cl C own fp) tg t
 hT:∀ pins s H cl C fp,DTs (blk X pins s H scope cl C own fp) ifs tf
 hB:∀ pins s H cl C fp Da,BodyP (blk X pins s H scope cl C own fp) Da elt gens scope cpos 0 body
 eq:f=cmrR fi t own.length tf body
theorem comp_of{X:Cx}{sc scope:Scope}{N:List Str}{gs:Gens}{elt:Expr}{xe:Ex}{gens:List Comprehension}{p:Pos}(hN:X.N=N)(hs:X.env.scope=sc)(hp:PF cm F G fns gns X)(hc:X.calm=true)(so:ScOk sc scope N (owns scope))
  (hg:GenP F G X (relS scope sc) (blkN N (owns scope)) (PF cm F G fns gns) gs gens) (he:∀ Y:Cx,Y.N=blkN N (owns scope)->Y.env.scope=relS scope sc->PF cm F G fns gns Y->DE Y elt (ev F G xe)) :
  Nonempty (CompP X elt gens scope p (owns scope) (ev F G (.cmr false (owns scope).length gs xe))):=by
 subst hN hs;have hY:∀ pins s H cl C fp,PF cm F G fns gns (blk X pins s H scope cl C (owns scope) fp):=fun pins s H cl C fp=>PF.blk cm F G fns gns hp pins s H scope cl C (owns scope) fp
 have hTg:∀ {t:Tg} {tg:Expr},mtT false (relS scope X.env.scope) (blkN X.N (owns scope)) t tg=true->∀ pins s H cl C fp,DG (blk X pins s H scope cl C (owns scope) fp) tg t:=fun h pins s H cl C fp=>dgB (top:=false) rfl rfl so.nd (fun _=>hc) (fun z=>nomatch z) h
 match gs,hg with
 | .cons t it ifs .nil,hg =>
  obtain⟨tg,iter,cs,rfl,n1,m1,i1,t1⟩:=hg;refine⟨⟨tg,iter,cs,t,evit F G it,evts F G ifs,_,rfl,i1,noSet_ok n1,hTg m1,fun pins s H cl C fp=>t1 _ rfl rfl (hY pins s H cl C fp),fun pins s H cl C fp Da=>body_last rfl (he _ rfl rfl (hY pins s H cl C fp)),?_⟩⟩
  funext env S
  simp only[ev,cmrR];rfl
 | .cons t it ifs (.cons t2 it2 ifs2 .nil),hg =>
  obtain⟨tg,iter,cs,tg2,iter2,cs2,rfl,n1,n2,m1,m2,i1,t1,i2,t2'⟩:=hg;refine⟨⟨tg,iter,cs,t,evit F G it,evts F G ifs,_,rfl,i1,noSet_ok n1,hTg m1,fun pins s H cl C fp=>t1 _ rfl rfl (hY pins s H cl C fp),
   fun pins s H cl C fp Da=>body_next hc rfl (i2 _ rfl rfl (hY pins s H cl C fp)) (noSet_ok n2) (hTg m2 pins s H cl C fp) (t2' _ rfl rfl (hY pins s H cl C fp)) (body_last rfl (he _ rfl rfl (hY pins s H cl C fp))),?_⟩⟩
  funext env S
  simp only[ev,cmrR];rfl
theorem blt_core {X:Cx} {k:Bl} {es:Exs} {x:Str} {p0 p:Pos} {y:Expr} {ys:List Expr} (hsm:∃ o,X.K.lookup sysModules=some o) (hgd:X.A.guards=some []) (hun:X.A.units + 200 < cLine) (hg:Gl X x) (hb:∀ x∈blts,X.mg x=none) (hc:quiB k=false->X.calm=true) (h1:blB k x=true) (o1:(x == ("__debug__" : Str))=false) (o3:x ≠ "__name__") (ih:DA X (y :: ys) (evs F G es))
  (he:starEach (y :: ys) X.env=(false,eval y X.env) :: starEach ys X.env) (hpl:(backTo p (starEach ys X.env)).any (·.1)=false):DE X (.Call (.Name x p0) (y :: ys) [] p) (ev F G (.blt k es)):=by
 unfold blB at h1;cases q:blNm k with
 | none=>rw[q] at h1; cases h1
 | some z =>
  obtain⟨nm,b,id⟩:=z;rw[q] at h1;dsimp only at h1;have e1:x=nm:=of_decide_eq_true h1;subst e1;obtain⟨m1,m2⟩:=blNm_ok q hsm hgd hun hc;cases b with
  | true =>
   rw[if_pos rfl] at m2;exact(d_bltF m2.2 hg (hb _ m1) m2.1 ih o3 o1 he hpl).congr fun env S=>by simp only[ev]
  | false =>
   rw[if_neg Bool.false_ne_true] at m2;exact(d_bltT m2.2 hg (hb _ m1) m2.1 ih o3 o1 he hpl).congr fun env S=>by simp only[ev]
theorem mth_core{X:Cx}{k:Mt}{o:Ex}{es:Exs}{ox:Expr}{nm:Str}{ap cp:Pos}{y:Expr}{ys:List Expr}(h1:mtB k nm=true)(h2:rcvE ox=true)(h3:(ap.endLine == cp.line)=true)(h4:(y :: ys).length < 29)(io:DE X ox (ev F G o))(ih:DA X (y :: ys) (evs F G es))(st:(y :: ys).all noStar=true) :
  DE X (.Call (.Attribute ox nm ap) (y :: ys) [] cp) (ev F G (.mth k o es)):=by
 have hfew:((backTo cp (starEach (y :: ys) X.env)).all (fun x=>!x.1) && (backToKw cp (keywordEach [] X.env)).all (fun x=>x.1.isSome) && decide ((y :: ys).length + ([]:List Keyword).length + (if ([]:List Keyword).isEmpty then 0 else 1) < 30))=true:=by
  rw[star_all st];have:(y :: ys).length + ([]:List Keyword).length + (if ([]:List Keyword).isEmpty then 0 else 1) < 30:=by
   simp only[List.length_nil,List.isEmpty_nil,if_true]; omega
  rw[decide_eq_true this];rfl
 rw[List.all_cons,bA0] at st;have rcv:∀ {m:Mt} (x:D) (S:Sto),(m=.append\/m=.count\/m=.index)->rcvOk m x S=true->∃ n xs,x=.ref n/\lstAt S n=some xs:=fun {m} x S hm h=>by
  rcases hm with rfl | rfl | rfl <;> (
   cases x with
   | ref n =>
    have h':(lstAt S n).isSome=true:=h;obtain⟨xs,e⟩:=Option.isSome_iff_exists.mp h';exact⟨n,xs,rfl,e⟩
   | _=>cases h)
 cases k with
 | append =>
  have e1:nm = "append" := of_decide_eq_true h1;subst e1;exact(d_mthL (m:=.append) (id := "list.append") PySem.F.slot_list_append PySem.F.type_list_append m_append (fun x S h=>rcv x S (.inl rfl) h) io ih (rcvE_ok h2) hfew h3 (star_cons st.1) (star_any st.2)).congr fun env S=>by simp only[ev]
 | count =>
  have e1:nm = "count" := of_decide_eq_true h1;subst e1;exact(d_mthL (m:=.count) (id := "list.count") PySem.F.slot_list_count PySem.F.type_list_count m_count (fun x S h=>rcv x S (.inr (.inl rfl)) h) io ih (rcvE_ok h2) hfew h3 (star_cons st.1) (star_any st.2)).congr fun env S=>by simp only[ev]
 | index =>
  have e1:nm = "index" := of_decide_eq_true h1;subst e1;exact(d_mthL (m:=.index) (id := "list.index") PySem.F.slot_list_index PySem.F.type_list_index m_index (fun x S h=>rcv x S (.inr (.inr rfl)) h) io ih (rcvE_ok h2) hfew h3 (star_cons st.1) (star_any st.2)).congr fun env S=>by simp only[ev]
 | _=>cases h1
theorem isi_core {X:Cx} {sc:Scope} {a:Expr} {fa:En->Sto->R D} {pos p0 p1:Pos} {t:Ty} {nm:Str} (er:ErrOk X.K) (hb:∀ x∈blts,X.mg x=none) (hg0:Gl X "isinstance") (hg:Gl X nm) (hok:okNm nm=true) (ht:tyB sc t nm=true) (ha:DE X a fa) (hst:noStar a=true) :
  DE X (.Call (.Name "isinstance" p0) [a,.Name nm p1] [] pos) (fun env S=>(fa env S).bind fun x S=>match (kdD S x).bind fun k=>isTs k [t] with | some r=>.ok (.bl r) S | none=>.bad):=by
 cases t with
 | cls c=>exact d_isiE er (.inl ⟨c,rfl,of_decide_eq_true ht⟩) hb hg0 hg hok ha hst
 | valueError=>exact d_isiE er (.inr ⟨rfl,of_decide_eq_true ht⟩) hb hg0 hg hok ha hst
 | int=>have e:=of_decide_eq_true ht; subst e; exact d_isi1 (t:=.int) rfl hb hg0 hg hok ha hst
 | bool=>have e:=of_decide_eq_true ht; subst e; exact d_isi1 (t:=.bool) rfl hb hg0 hg hok ha hst
 | str=>have e:=of_decide_eq_true ht; subst e; exact d_isi1 (t:=.str) rfl hb hg0 hg hok ha hst
 | tuple=>have e:=of_decide_eq_true ht; subst e; exact d_isi1 (t:=.tuple) rfl hb hg0 hg hok ha hst
 | list=>have e:=of_decide_eq_true ht; subst e; exact d_isi1 (t:=.list) rfl hb hg0 hg hok ha hst
 | dict=>have e:=of_decide_eq_true ht; subst e; exact d_isi1 (t:=.dict) rfl hb hg0 hg hok ha hst
theorem ty_nm{sc:Scope}{t:Ty}{nm:Str}(hb:bltT t=true)(h:tyB sc t nm=true):∃ T,tyNm t=some (nm,T):=by
 cases t with
 | cls c=>cases hb
 | valueError=>cases hb
 | _=>have e:=of_decide_eq_true h; subst e; exact⟨_,rfl⟩
theorem isi_all {X:Cx} {sc:Scope} {a y:Expr} {fa:En->Sto->R D} {pos p0:Pos} {ts:List Ty} (er:ErrOk X.K) (hb:∀ x∈blts,X.mg x=none) (hs:X.env.scope=sc) (hg0:Gl X "isinstance") (ht:tyM sc ts y=true) (ha:DE X a fa) (hst:noStar a=true) :
  DE X (.Call (.Name "isinstance" p0) [a,y] [] pos) (fun env S=>(fa env S).bind fun x S=>match (kdD S x).bind fun k=>isTs k ts with | some r=>.ok (.bl r) S | none=>.bad):=by
 rcases tyM_ok ht with⟨t,nm,p,rfl,rfl,h1,h2,h3⟩ | ⟨t1,t2,n1,n2,p1,p2,k,p,rfl,rfl,h1,h2,h3,h4,h5,h6,h7,h8⟩
 ·exact isi_core er hb hg0 (glB_ok hs h1) h2 h3 ha hst
 ·obtain⟨T1,q1⟩:=ty_nm h5 h7
  obtain⟨T2,q2⟩:=ty_nm h6 h8;exact d_isi2 q1 q2 hb hg0 (glB_ok hs h1) (glB_ok hs h3) h2 h4 ha hst
set_option maxHeartbeats 0 in
theorem cst_ok{X:Cx}{d:D}{c:Const}{k:Nat}{p:Pos}(h:cstB d c=true):DE X (.Constant c k p) (ev F G (.cst d)):=by
 cases d with
 | int i=>cases c with
  | int j=>simp only[cstB,beq_iff_eq] at h; subst h; exact d_int.congr fun env S=>by simp only[ev]
  | _=>cases h
 | bl i=>cases c with
  | bool j=>simp only[cstB,beq_iff_eq] at h; subst h; exact d_bl.congr fun env S=>by simp only[ev]
  | _=>cases h
 | non=>cases c with
  | none=>exact d_non.congr fun env S=>by simp only[ev]
  | _=>cases h
 | str i=>cases c with
  | str j=>simp only[cstB,decide_eq_true_eq] at h; subst h; exact d_str.congr fun env S=>by simp only[ev]
  | _=>cases h
 | _=>cases h
mutual
theorem snd:∀ (x:Ex) (X:Cx) (sc:Scope) (N:List Str) (e:Expr),X.N=N->X.env.scope=sc->PF cm F G fns gns X->mt cm fns gns sc N x e=true->DE X e (ev F G x)/\DT X e (fun env S=>tst (ev F G x env S))
 | .nev,X,sc,N,e,hN,hs,hp,h=>⟨fun _ _ _ _ _ _ _ _ nb=>absurd (by simp only[ev]) nb,fun _ _ _ _ _ _ _ _ nb=>absurd (by simp only[ev] <;> rfl) nb⟩
 | .var i,X,sc,N,e,hN,hs,hp,h=>by
  obtain⟨x,p,rfl,h1,h2,h3⟩:=mt_var h;subst hN hs;obtain⟨o1,o2,_⟩:=okNm_ok h3;exact dt_val ((d_var h1 (visB_ok h2) o1 o2).congr fun env S=>by simp only[ev] <;> rfl) fun _=>rfl
 | .cst d,X,sc,N,e,hN,hs,hp,h=>by
  obtain⟨c,k,p,rfl,h⟩:=mt_cst h;exact dt_val (cst_ok h) fun _=>rfl
 | .neg a,X,sc,N,e,hN,hs,hp,h=>by
  obtain⟨x,p,rfl,h⟩:=mt_neg h;exact dt_val ((d_neg (snd a X sc N x hN hs hp h).1).congr fun env S=>by simp only[ev] <;> rfl) fun _=>rfl
 | .glb k,X,sc,N,e,hN,hs,hp,h=>by
  obtain⟨x,p,rfl,h1,h2,h3⟩:=mt_glb h;obtain⟨o1,o2,_⟩:=okNm_ok h3;obtain⟨u,d,q1,q2,q3⟩:=hp.glb k x h1;exact dt_val ((d_glb (glB_ok hs h2) q1 q3 o1).congr fun env S=>by simp only[ev,q2]) fun _=>rfl
 | .tup es,X,sc,N,e,hN,hs,hp,h=>by
  obtain⟨xs,k,p,rfl,h⟩:=mt_tup h;exact dt_val ((d_tup (snds es X sc N xs hN hs hp h)).congr fun env S=>by simp only[ev]) fun _=>rfl
 | .lst es,X,sc,N,e,hN,hs,hp,h=>by
  obtain⟨xs,p,rfl,h⟩:=mt_lst h;exact dt_val ((d_lst (snds es X sc N xs hN hs hp h)).congr fun env S=>by simp only[ev]) fun _=>rfl
 | .bin op a b,X,sc,N,e,hN,hs,hp,h=>by
  obtain⟨x,y,p,rfl,h1,h2⟩:=mt_bin h;exact dt_val ((d_bin (o_bin op) (snd a X sc N x hN hs hp h1).1 (snd b X sc N y hN hs hp h2).1).congr fun env S=>by simp only[ev]) fun _=>rfl
 | .cmp op a b,X,sc,N,e,hN,hs,hp,h=>by
  obtain⟨x,y,p,rfl,h1,h2,h3⟩:=mt_cmp h;have ha:=(snd a X sc N x hN hs hp h2).1;have hb:=(snd b X sc N y hN hs hp h3).1;exact⟨(d_cmp (o_cmp hp.units op) ha hb h1).congr fun env S=>by simp only[ev],(dt_cmp (o_cmp hp.units op) ha hb h1).congr fun env S=>by simp only[ev]⟩
 | .chn o1 o2 a b c,X,sc,N,e,hN,hs,hp,h=>by
  obtain⟨x,y,z,p,rfl,h1,h2,h3,h4⟩:=mt_chn h;have ha:=(snd a X sc N x hN hs hp h2).1;have hb:=(snd b X sc N y hN hs hp h3).1;have hc:=(snd c X sc N z hN hs hp h4).1;exact⟨(d_chn (o_cmp hp.units o1) (o_cmp hp.units o2) ha hb hc h1).congr fun env S=>by simp only[ev,chnR] <;> rfl,(dt_chn (o_cmp hp.units o1) (o_cmp hp.units o2) ha hb hc h1).congr fun env S=>by simp only[ev,chnR] <;> rfl⟩
 | .and a b,X,sc,N,e,hN,hs,hp,h=>by
  rcases mt_and h with⟨x,y,p,rfl,h1,h2⟩ | ⟨x,y,z,r,p,rfl,h1,h2⟩
  ·have ha:=snd a X sc N x hN hs hp h1
   have hb:=snd b X sc N y hN hs hp h2;exact⟨(d_and ha.1 (d_one hb.1)).congr fun env S=>by simp only[ev] <;> rfl,((dw_and ha.2 (dw_and1 hb.2)).dt).congr fun env S=>by simp only[ev] <;> rfl⟩
  ·have ha:=snd a X sc N x hN hs hp h1
   have hb:=snd b X sc N (.BoolOp .And (y :: z :: r) p) hN hs hp h2;exact⟨(d_and ha.1 hb.1).congr fun env S=>by simp only[ev] <;> rfl,((dw_and ha.2 (.of hb.2)).dt).congr fun env S=>by simp only[ev] <;> rfl⟩
 | .or a b,X,sc,N,e,hN,hs,hp,h=>by
  rcases mt_or h with⟨x,y,p,rfl,h1,h2⟩ | ⟨x,y,z,r,p,rfl,h1,h2⟩
  ·have ha:=snd a X sc N x hN hs hp h1
   have hb:=snd b X sc N y hN hs hp h2;exact⟨(d_or ha.1 (d_one hb.1)).congr fun env S=>by simp only[ev] <;> rfl,((dw_or ha.2 (dw_or1 hb.2)).dt).congr fun env S=>by simp only[ev] <;> rfl⟩
  ·have ha:=snd a X sc N x hN hs hp h1
   have hb:=snd b X sc N (.BoolOp .Or (y :: z :: r) p) hN hs hp h2;exact⟨(d_or ha.1 hb.1).congr fun env S=>by simp only[ev] <;> rfl,((dw_or ha.2 (.of hb.2)).dt).congr fun env S=>by simp only[ev] <;> rfl⟩
 | .not a,X,sc,N,e,hN,hs,hp,h=>by
  obtain⟨x,p,rfl,h⟩:=mt_not h;have ha:=snd a X sc N x hN hs hp h;exact⟨(d_not ha.2 ha.1).congr fun env S=>by simp only[ev] <;> rfl,(dt_not ha.2).congr fun env S=>by simp only[ev] <;> rfl⟩
 | .ite c a b,X,sc,N,e,hN,hs,hp,h=>by
  obtain⟨x,y,z,p,rfl,h1,h2,h3⟩:=mt_ite h;have hc:=snd c X sc N x hN hs hp h1;have ha:=snd a X sc N y hN hs hp h2;have hb:=snd b X sc N z hN hs hp h3;exact⟨(d_ite hc.2 ha.1 hb.1).congr fun env S=>by simp only[ev] <;> rfl,(dt_ite hc.2 ha.2 hb.2).congr fun env S=>by simp only[ev] <;> rfl⟩
 | .idx a i,X,sc,N,e,hN,hs,hp,h=>by
  obtain⟨x,y,p,rfl,h1,h2,h3⟩:=mt_idx h;exact dt_val ((d_idx (noSlice_ok h1) (snd a X sc N x hN hs hp h2).1 (snd i X sc N y hN hs hp h3).1).congr fun env S=>by simp only[ev]) fun _=>rfl
 | .sli a lo hi,X,sc,N,e,hN,hs,hp,h=>by
  obtain⟨x,l,u,p2,p,rfl,h1,h2,h3⟩:=mt_sli h;exact dt_val ((d_sli (snd a X sc N x hN hs hp h1).1 (sndo lo X sc N l hN hs hp h2) (sndo hi X sc N u hN hs hp h3)).congr fun env S=>by simp only[ev] <;> rfl) fun _=>rfl
 | .cal f es,X,sc,N,e,hN,hs,hp,h=>by
  obtain⟨fx,y,ys,p,rfl,h1,h2,h3,h4⟩:=mt_cal h;have st:=mts_star es (y :: ys) h4;rw[List.all_cons,bA0] at st;exact dt_val ((d_cal hp h1 (calE_ok h2) (snd f X sc N fx hN hs hp h3).1 (snds es X sc N (y :: ys) hN hs hp h4) (star_cons st.1) (star_any st.2)).congr fun env S=>by simp only[ev] <;> rfl) fun _=>rfl
 | .lenm a,X,sc,N,e,hN,hs,hp,h=>by
  obtain⟨p,p2,x,cp,cp2,rfl,h1,h2,h3,h4,h5⟩:=mt_lenm h;have ih:=(snd a X sc N x hN hs hp h5).1;exact dt_val ((d_lenm (hp.calm h1) (glB_ok hs h2) (hp.blt _ (by decide)) (glB_ok hs h3) (hp.blt _ (by decide)) ih (star_cons h4)).congr fun env S=>by simp only[ev] <;> rfl) fun _=>rfl
 | .isi a ts,X,sc,N,e,hN,hs,hp,h=>by
  obtain⟨p0,x,y,cp,rfl,h1,h2,h3,h4⟩:=mt_isi h;have ih:=(snd a X sc N x hN hs hp h3).1;exact dt_val ((isi_all hp.err hp.blt hs (glB_ok hs h1) h4 ih h2).congr fun env S=>by simp only[ev] <;> rfl) fun _=>rfl
 | .call f es,X,sc,N,e,hN,hs,hp,h=>by
  obtain⟨x,p0,y,ys,p,rfl,h1,h2,h3,h4⟩:=mt_call h;obtain⟨o1,o2,_⟩:=okNm_ok h3;obtain⟨fl,h1,hfl⟩:=h1;obtain⟨g,fd,ps,k,c1,c2,c3,c4,c5,c6⟩:=hp.fn f x _ fl h1 hfl;have st:=mts_star es (y :: ys) h4;rw[List.all_cons,bA0] at st;exact dt_val ((d_call c1 c2 c3 (glB_ok hs h2) c4 c5 (snds es X sc N (y :: ys) hN hs hp h4) (fun env S ds S' q=>by rw[c6]; exact evs_len es (y :: ys) h4 env S ds S' q) o1 (star_cons st.1) (star_any st.2)).congr fun env S=>by simp only[ev]) fun _=>rfl
 | .blt k es,X,sc,N,e,hN,hs,hp,h=>by
  obtain⟨x,p0,y,ys,p,rfl,h1,hq,h2,h3,h4⟩:=mt_blt h;obtain⟨o1,o2,o3⟩:=okNm_ok h3;have st:=mts_star es (y :: ys) h4;rw[List.all_cons,bA0] at st;have ih:=snds es X sc N (y :: ys) hN hs hp h4;exact dt_val (blt_core hp.err.sm hp.gd hp.units (glB_ok hs h2) hp.blt (fun z=>hp.calm (by rw[z,Bool.or_false] at hq; exact hq)) h1 o1 o3 ih (star_cons st.1) (star_any st.2)) fun _=>rfl
 | .mth k o es,X,sc,N,e,hN,hs,hp,h=>by
  obtain⟨ox,nm,ap,y,ys,cp,rfl,h1,h2,h3,h4,h5,h6⟩:=mt_mth h;have st:=mts_star es (y :: ys) h6;have ih:=snds es X sc N (y :: ys) hN hs hp h6;have io:=(snd o X sc N ox hN hs hp h5).1;exact dt_val (mth_core h1 h2 h3 h4 io ih st) fun _=>rfl
 | .cmr k n gs elt,X,sc,N,e,hN,hs,hp,h=>by
  obtain⟨ee,gens,scope,p,rfl,h0,h1,h2,h3,h4,h5⟩:=mt_cmr h;subst h1 h2;have so:=scB_ok h3;have hcl:=hp.calm h0;obtain⟨c⟩:=comp_of (p:=p) hN hs hp hcl so (sndg gs X sc N _ _ gens hN hs hp h4) (fun Y y1 y2 y3=>(snd elt Y _ _ ee y1 y2 y3 h5).1)
  subst hN hs;refine dt_val ?_ fun _=>rfl
  rw[c.eq];exact d_comp hcl so rfl c.hg c.hi c.hs c.hG c.hT c.hB
theorem sndo:∀ (o:Op) (X:Cx) (sc:Scope) (N:List Str) (x:Option Expr),X.N=N->X.env.scope=sc->PF cm F G fns gns X->mto cm fns gns sc N o x=true->DO X x (evo F G o)
 | .none,X,sc,N,x,hN,hs,hp,h=>by
  cases x with
  | none =>
   have:evo F G .none=fun _ S=>.ok none S:=by funext env S; simp only[evo]
   rw[this]; exact do_none
  | some _=>cases h
 | .some e,X,sc,N,x,hN,hs,hp,h=>by
  cases x with
  | none=>cases h
  | some x =>
   have h':mt cm fns gns sc N e x=true:=h;have:evo F G (.some e)=fun env S=>(ev F G e env S).bind fun x S=>.ok (some x) S:=by funext env S; simp only[evo]
   rw[this]; exact do_some (snd e X sc N x hN hs hp h').1
theorem snds:∀ (es:Exs) (X:Cx) (sc:Scope) (N:List Str) (xs:List Expr),X.N=N->X.env.scope=sc->PF cm F G fns gns X->mts cm fns gns sc N es xs=true->DA X xs (evs F G es)
 | .nil,X,sc,N,[],hN,hs,hp,h=>by
  have:evs F G .nil=fun _ S=>.ok [] S:=by funext env S; simp only[evs]
  rw[this]; exact da_nil
 | .cons e es,X,sc,N,x :: xs,hN,hs,hp,h=>by
  simp only[mts,bA0] at h;have:evs F G (.cons e es)=fun env S=>(ev F G e env S).bind fun x S=>(evs F G es env S).bind fun xs S=>.ok (x :: xs) S:=by funext env S; simp only[evs]
  rw[this];exact da_cons (snd e X sc N x hN hs hp h.1.2).1 (snds es X sc N xs hN hs hp h.2) (star_cons h.1.1)
 | .nil,X,sc,N,_ :: _,hN,hs,hp,h=>by simp[mts] at h
 | .cons _ _,X,sc,N,[],hN,hs,hp,h=>by simp[mts] at h
theorem sndt:∀ (es:Exs) (X:Cx) (sc:Scope) (N:List Str) (xs:List Expr),X.N=N->X.env.scope=sc->PF cm F G fns gns X->mts cm fns gns sc N es xs=true->DTs X xs (evts F G es)
 | .nil,X,sc,N,[],hN,hs,hp,h=>by
  have:evts F G .nil=fun _ S=>.ok true S:=by funext env S; simp only[evts]
  rw[this]; exact dts_nil
 | .cons e es,X,sc,N,x :: xs,hN,hs,hp,h=>by
  simp only[mts,bA0] at h;have:evts F G (.cons e es)=fun env S=>(ev F G e env S).bind fun x S=>match truD S x with | some true=>evts F G es env S | some false=>.ok false S | none=>.bad:=by funext env S; simp only[evts] <;> rfl
  rw[this];exact dts_cons (snd e X sc N x hN hs hp h.1.2).2 (sndt es X sc N xs hN hs hp h.2)
 | .nil,X,sc,N,_ :: _,hN,hs,hp,h=>by simp[mts] at h
 | .cons _ _,X,sc,N,[],hN,hs,hp,h=>by simp[mts] at h
theorem sndi:∀ (it:It) (X:Cx) (sc:Scope) (N:List Str) (tg x:Expr),X.N=N->X.env.scope=sc->PF cm F G fns gns X->(needT it=true->∃ es k p,tg=.Tuple es k p)->mtI cm fns gns sc N it x=true->DI X tg x (evit F G it)
 | .val e,X,sc,N,tg,x,hN,hs,hp,_,h=>by
  simp only[mtI] at h;have:evit F G (.val e)=fun env S=>(ev F G e env S).bind fun x S=>match srcD S x with | some r=>.ok r S | none=>.bad:=by funext env S; simp only[evit] <;> rfl
  rw[this];exact di_val (snd e X sc N x hN hs hp h).1
 | .rng es,X,sc,N,tg,x,hN,hs,hp,_,h=>by
  obtain⟨p0,y,ys,p,rfl,h2,h3⟩:=mtI_rng h;have st:=mts_star es (y :: ys) h3;rw[List.all_cons,bA0] at st;have:evit F G (.rng es)=fun env S=>(evs F G es env S).bind fun xs S=>match rngD xs with | some ds=>.ok (.con ds) S | none=>.bad:=by funext env S; simp only[evit] <;> rfl
  rw[this];exact di_rng (glB_ok hs h2) (hp.blt _ (by decide)) (snds es X sc N (y :: ys) hN hs hp h3) (star_cons st.1) (star_any st.2)
 | .enm es,X,sc,N,tg,x,hN,hs,hp,ht,h=>by
  obtain⟨p0,y,ys,p,rfl,h2,h3⟩:=mtI_enm h;obtain⟨ts,k,tp,rfl⟩:=ht rfl;have st:=mts_star es (y :: ys) h3;rw[List.all_cons,bA0] at st;have:evit F G (.enm es)=fun env S=>(evs F G es env S).bind fun xs S=>match xs with
   | [x]=>match srcD S x with
    | some s=>.ok (.enm s) S
    | none=>.bad
   | _=>.bad:=by funext env S; simp only[evit] <;> rfl
  rw[this];exact di_enm (glB_ok hs h2) (hp.blt _ (by decide)) (snds es X sc N (y :: ys) hN hs hp h3) (star_cons st.1) (star_any st.2)
theorem sndg:∀ (gs:Gens) (X:Cx) (sc:Scope) (N:List Str) (sc2:Scope) (N2:List Str) (gens:List Comprehension),X.N=N->X.env.scope=sc->PF cm F G fns gns X->mtG cm fns gns sc N sc2 N2 gs gens=true->GenP F G X sc2 N2 (PF cm F G fns gns) gs gens
 | .nil,X,sc,N,sc2,N2,gens,hN,hs,hp,h=>(mtG_0 h).elim
 | .cons t it ifs .nil,X,sc,N,sc2,N2,gens,hN,hs,hp,h=>by
  obtain⟨tg,iter,cs,rfl,h2,h3,h4,h5,h6⟩:=mtG_1 h;exact⟨tg,iter,cs,rfl,h2,h3,sndi it X sc N tg iter hN hs hp (tg_tup h6 h3) h4,fun Y y1 y2 y3=>sndt ifs Y sc2 N2 cs y1 y2 y3 h5⟩
 | .cons t it ifs (.cons t2 it2 ifs2 .nil),X,sc,N,sc2,N2,gens,hN,hs,hp,h=>by
  obtain⟨tg,iter,cs,tg2,iter2,cs2,rfl,h3,h4,h5,h6,h7,h8,h9,h10,h11,h12⟩:=mtG_2 h;exact⟨tg,iter,cs,tg2,iter2,cs2,rfl,h3,h4,h5,h8,sndi it X sc N tg iter hN hs hp (tg_tup h11 h5) h6,fun Y y1 y2 y3=>sndt ifs Y sc2 N2 cs y1 y2 y3 h7,fun Y y1 y2 y3=>sndi it2 Y sc2 N2 tg2 iter2 y1 y2 y3 (tg_tup h12 h8) h9,fun Y y1 y2 y3=>sndt ifs2 Y sc2 N2 cs2 y1 y2 y3 h10⟩
 | .cons t it ifs (.cons t2 it2 ifs2 (.cons _ _ _ _)),X,sc,N,sc2,N2,gens,hN,hs,hp,h=>(mtG_3 h).elim
end
end
end Z
end
section
namespace Z
open PySem PySem.Spec PyProof.Rows L2
section
variable{X:Cx}{pins:List (Addr×Obj)}{σ:L2.St}{H:Hp}{s:Shared}{ρ:List Addr}{S S':Sto}{env:En}{a b c e tg:Expr}{f fa fb fc:En->Sto->R D}{pos:Pos}
theorem ds_asg{t:Tg}(he:DE X e f)(hg:DG X tg t)(hs:swapsWithSole [tg] e pos.line X.env=pure false)(hw:swappedStores [tg] e X.env=pure none)(h1:(assignEach [tg] X.env).map (·.2)=[assign tg X.env]) :
  DS X (.Assign [tg] e pos) false (fun env S=>(f env S).bind fun x S=>match setTg t x env with | some env=>.ok (.nx env) S | none=>.bad):=by
 intro pins s σ H ρ S env I nb;dsimp only at nb ⊢;cases q:f env S with
 | bad=>rw[q] at nb; exact absurd rfl nb
 | ex n S1=>exact wpAny_Assign_stores (he.ex I q fun x s' z=>.of .refl z rfl) hs hw
 | ok d S1 =>
  rw[q] at nb;simp only[Rk0] at nb ⊢;cases q2:setTg t d env with
  | none=>rw[q2] at nb; exact absurd rfl nb
  | some env' =>
   refine wpAny_Assign_stores (he.ok I q fun u s' v H' ρ' J rv rd st=>?_) hs hw
   rw[h1];exact hg pins s' σ H' ρ' S1 env d v u env' _ _ J q2 rd rv fun s2 σ2 I2=>⟨.nx env',S1,rfl,rfl,σ2,H',ρ',I2,st,fun z=>nomatch z⟩
theorem ds_par2{i j:Nat}{x y:Str}{ga:En->Sto->R (List D)}{px py pt:Pos}{kt k2 pt2}(hc:X.calm=true)(hN:X.N.Nodup)(hi:X.N[i]?=some x)(hj:X.N[j]?=some y)(hij:i≠j)
  (hx:X.env.scope.names.lookup x=some .local) (hy:X.env.scope.names.lookup y=some .local) (ha:DA X [a,b] ga)
  (hw:swappedStores [.Tuple [.Name x px,.Name y py] kt pt] (.Tuple [a,b] k2 pt2) X.env=pure (some [x,y]))
  (hs:swapsWithSole [.Tuple [.Name x px,.Name y py] kt pt] (.Tuple [a,b] k2 pt2) pos.line X.env=pure false) :
  DS X (.Assign [.Tuple [.Name x px,.Name y py] kt pt] (.Tuple [a,b] k2 pt2) pos) false (fun env S=>(ga env S).bind fun xs S=>if [i,j].length=xs.length then .ok (.nx (([i,j].zip xs).foldl (fun e p=>e.set p.1 (some p.2)) env)) S else .bad):=by
 intro pins s σ H ρ S env I nb;dsimp only at nb ⊢;rw[exec_Assign_arm];refine wpAny_bind (wpAny_standAt ?_);rw[hs];refine wpAny_bind (wpAny_pure ?_);rw[if_neg (by decide)]
 cases q:ga env S with
 | bad=>rw[q] at nb; exact absurd rfl nb
 | ex n S1=>exact wpAny_bind (Tuple_ (ha.ex I q fun x s' z=>.of .refl z rfl))
 | ok ds S1 =>
  rw[q] at nb;simp only[Rk0] at nb ⊢;split at nb
  ·rename_i hl
   rw[if_pos hl];obtain⟨d1,d2,rfl⟩:∃ d1 d2,ds=[d1,d2]:=by
    match ds,hl with
    | [d1,d2],_=>exact⟨d1,d2,rfl⟩
   refine wpAny_bind (Tuple_ (ha.ok I q fun us s1 vs H1 ρ1 I1 rvs rds st1=>?_))
   obtain⟨v,w,rfl,rd1,rd2⟩:=rds.two;obtain⟨u1,u2,rfl,rv,rw'⟩:∃ u1 u2,us=[u1,u2]/\RelV v u1/\RelV w u2:=by
    cases rvs with
    | cons p q =>
     cases q with
     | cons p' q' =>
      cases q';exact⟨_,_,rfl,p,p'⟩
   refine wpAny_newObj_type ?_ (by show 2<=sizeLine; decide)
   have I2:Inv X pins σ H1 { s1 with heap:=s1.heap.push { cls:=.type "tuple",data:=.seq [u1,u2].toArray } }:=I1.inv.kept (t':=s1.toks) fun b o e=>Heap.get?_push_of_some _ e
   rw[hw];refine wpAny_bind (wpAny_pure ?_);show wpAny (model X.prog X.w) X.A (do rule "assign.swapped-stores"; let items <- unpackItems (.ref s1.heap.objs.size) 2 none; assignInOrder [fun v=>bindName X.env y v,fun v=>bindName X.env x v] items.reverse; pure Flow.next) _ _ _
   refine wpAny_bind (wpAny_rule (wpAny_bind (unpackItems_tuple (items:=#[u1,u2]) (I.inv.ok.hd hc) (IsTup.new s1.heap _) fun h' hx'=>?_)))
   have I3:=I2.kept (h':=h') (t':=s1.toks) fun b o e=>hx' b o (Nat.ne_of_lt (Heap.lt_size e)) e
   show wpAny _ _ (assignInOrder [fun v=>bindName X.env y v,fun v=>bindName X.env x v] [u2,u1] >>= fun _=>pure Flow.next) _ _ _
   refine wpAny_bind (assignInOrder_cons (wpAny_bindName (store_ok I3 hN hj (.inl hy) rw' (fun s2 I4=>?_) (.inr hy))))
   refine assignInOrder_cons (wpAny_bindName (store_ok I4 hN hi (.inl hx) rv (fun s3 I5=>assignInOrder_nil (wpAny_pure ?_)) (.inr hx)))
   rw[List.set_comm _ _ (Ne.symm hij)] at I5;exact⟨.nx ((env.set i (some d1)).set j (some d2)),S1,rfl,rfl,_,H1,ρ1,⟨I5,I1.sr,(I1.er.set i rd1).set j rd2⟩,st1,fun z=>nomatch z⟩
  ·exact absurd rfl nb
theorem ds_par3{i j k:Nat}{x y z:Str}{ga:En->Sto->R (List D)}{px py pz pt:Pos}{kt k2 pt2}(hc:X.calm=true)(hN:X.N.Nodup)(hi:X.N[i]?=some x)(hj:X.N[j]?=some y)(hk:X.N[k]?=some z)(hij:i≠j)(hik:i≠k)(hjk:j≠k)
  (hx:X.env.scope.names.lookup x=some .local) (hy:X.env.scope.names.lookup y=some .local) (hz:X.env.scope.names.lookup z=some .local) (ha:DA X [a,b,c] ga)
  (hw:swappedStores [.Tuple [.Name x px,.Name y py,.Name z pz] kt pt] (.Tuple [a,b,c] k2 pt2) X.env=pure (some [x,y,z]))
  (hs:swapsWithSole [.Tuple [.Name x px,.Name y py,.Name z pz] kt pt] (.Tuple [a,b,c] k2 pt2) pos.line X.env=pure false) :
  DS X (.Assign [.Tuple [.Name x px,.Name y py,.Name z pz] kt pt] (.Tuple [a,b,c] k2 pt2) pos) false (fun env S=>(ga env S).bind fun xs S=>if [i,j,k].length=xs.length then .ok (.nx (([i,j,k].zip xs).foldl (fun e p=>e.set p.1 (some p.2)) env)) S else .bad):=by
 intro pins s σ H ρ S env I nb;dsimp only at nb ⊢;rw[exec_Assign_arm];refine wpAny_bind (wpAny_standAt ?_);rw[hs];refine wpAny_bind (wpAny_pure ?_);rw[if_neg (by decide)]
 cases q:ga env S with
 | bad=>rw[q] at nb; exact absurd rfl nb
 | ex n S1=>exact wpAny_bind (Tuple_ (ha.ex I q fun x s' z=>.of .refl z rfl))
 | ok ds S1 =>
  rw[q] at nb;simp only[Rk0] at nb ⊢;split at nb
  ·rename_i hl
   rw[if_pos hl];obtain⟨d1,d2,d3,rfl⟩:∃ d1 d2 d3,ds=[d1,d2,d3]:=by
    match ds,hl with
    | [d1,d2,d3],_=>exact⟨d1,d2,d3,rfl⟩
   refine wpAny_bind (Tuple_ (ha.ok I q fun us s1 vs H1 ρ1 I1 rvs rds st1=>?_))
   simp only[RDs] at rds;obtain⟨v1,_,rfl,rd1,v2,_,rfl,rd2,v3,_,rfl,rd3,rfl⟩:=rds;obtain⟨u1,u2,u3,rfl,rv1,rv2,rv3⟩:∃ u1 u2 u3,us=[u1,u2,u3]/\RelV v1 u1/\RelV v2 u2/\RelV v3 u3:=by
    cases rvs with
    | cons p q =>
     cases q with
     | cons p' q' =>
      cases q' with
      | cons p'' q'' =>
       cases q'';exact⟨_,_,_,rfl,p,p',p''⟩
   refine wpAny_newObj_type ?_ (by show 3<=sizeLine; decide)
   have I2:Inv X pins σ H1 { s1 with heap:=s1.heap.push { cls:=.type "tuple",data:=.seq [u1,u2,u3].toArray } }:=I1.inv.kept (t':=s1.toks) fun b o e=>Heap.get?_push_of_some _ e
   rw[hw];refine wpAny_bind (wpAny_pure ?_);show wpAny (model X.prog X.w) X.A (do rule "assign.swapped-stores"; let items <- unpackItems (.ref s1.heap.objs.size) 3 none; assignInOrder [fun v=>bindName X.env z v,fun v=>bindName X.env y v,fun v=>bindName X.env x v] items.reverse; pure Flow.next) _ _ _
   refine wpAny_bind (wpAny_rule (wpAny_bind (unpackItems_tuple (items:=#[u1,u2,u3]) (I.inv.ok.hd hc) (IsTup.new s1.heap _) fun h' hx'=>?_)))
   have I3:=I2.kept (h':=h') (t':=s1.toks) fun b o e=>hx' b o (Nat.ne_of_lt (Heap.lt_size e)) e
   show wpAny _ _ (assignInOrder [fun v=>bindName X.env z v,fun v=>bindName X.env y v,fun v=>bindName X.env x v] [u3,u2,u1] >>= fun _=>pure Flow.next) _ _ _
   refine wpAny_bind (assignInOrder_cons (wpAny_bindName (store_ok I3 hN hk (.inl hz) rv3 (fun s2 I4=>?_) (.inr hz))))
   refine assignInOrder_cons (wpAny_bindName (store_ok I4 hN hj (.inl hy) rv2 (fun s2 I4=>?_) (.inr hy)))
   refine assignInOrder_cons (wpAny_bindName (store_ok I4 hN hi (.inl hx) rv1 (fun s3 I5=>assignInOrder_nil (wpAny_pure ?_)) (.inr hx)))
   rw[List.set_comm (i:=j) (j:=i) _ _ (Ne.symm hij),List.set_comm (i:=k) (j:=i) _ _ (Ne.symm hik),List.set_comm (i:=k) (j:=j) _ _ (Ne.symm hjk)] at I5;exact⟨.nx (((env.set i (some d1)).set j (some d2)).set k (some d3)),S1,rfl,rfl,_,H1,ρ1,⟨I5,I1.sr,((I1.er.set i rd1).set j rd2).set k rd3⟩,st1,fun z=>nomatch z⟩
  ·exact absurd rfl nb
theorem aset_d{x y d:D}{vx vy v:V}{ux uy u:Value}{Ev:Value->Shared->Prop}{Q:Unit->Shared->Prop}(I:S0 X pins σ H s ρ S env)(nb:asetD x y d S≠.bad)(rx:RD X.K ρ H x vx)(qx:RelV vx ux)(ry:RD X.K ρ H y vy)(qy:RelV vy uy)(rd:RD X.K ρ H d v)(rv:RelV v u)
  (hQ:∀ S' s' H',asetD x y d S=.ok () S'->S0 X pins σ H' s' ρ S' env->Stp X.K ρ ρ H H'->Q () s'):wpAny (model X.prog X.w) X.A (setItem ux uy u) Q Ev s:=by
 unfold asetD at nb hQ
 match x,y,rx,ry,nb,hQ with
 | .ref n,.int k,rx,ry,nb,hQ =>
  dsimp only at nb hQ;cases e:Z.lstM S n with
  | none=>rw[e] at nb; exact absurd rfl nb
  | some xs =>
   rw[e] at nb hQ;dsimp only at nb hQ;cases e2:Z.ixN xs.length k with
   | none=>rw[e2] at nb; exact absurd rfl nb
   | some j =>
    rw[e2] at hQ;obtain⟨a,ws,rfl,ha,hv,hr⟩:=I.lstR e rx;simp only[RD] at ry;subst ry;have hl:L2.ixN ws.length k=some j:=by rw[<- hr.length]; exact e2
    refine thn (set_list (X:=X.wish Ev) pins s σ H (.ref a) (.int k) v ux uy u (fun H'=>H'=upd H a (.lst (ws.set j v))) (I.inv.wish Ev) qx qy rv ⟨a,ws,k,j,rfl,rfl,hv,hl,rfl⟩) fun _ s' ⟨H',J,e3⟩=>?_
    subst e3;have st:Stp X.K ρ ρ H (upd H a (.lst (ws.set j v))):=Stp.chg (S:=S) (o:=.lst (xs.set j d)) I.sr ha;exact hQ _ s' _ rfl ⟨J.unwish,I.sr.chg ha ⟨ws.set j v,upd_same,(hr.set rd j).mono st⟩,I.er.mono st⟩ st
 | .ref n,.non,_,_,nb,_=>exact absurd rfl nb
 | .ref n,.bl _,_,_,nb,_=>exact absurd rfl nb
 | .ref n,.str _,_,_,nb,_=>exact absurd rfl nb
 | .ref n,.tup _,_,_,nb,_=>exact absurd rfl nb
 | .ref n,.ref _,_,_,nb,_=>exact absurd rfl nb
 | .ref n,.fro _,_,_,nb,_=>exact absurd rfl nb
 | .non,_,_,_,nb,_=>exact absurd rfl nb
 | .bl _,_,_,_,nb,_=>exact absurd rfl nb
 | .int _,_,_,_,nb,_=>exact absurd rfl nb
 | .str _,_,_,_,nb,_=>exact absurd rfl nb
 | .tup _,_,_,_,nb,_=>exact absurd rfl nb
 | .fro _,_,_,_,nb,_=>exact absurd rfl nb
end
section
variable{X:Cx}{pins:List (Addr×Obj)}{σ:L2.St}{H:Hp}{s:Shared}{ρ:List Addr}{S S':Sto}{env:En}{a b c e o i:Expr}{f fa fb fc fo fi:En->Sto->R D}{pos spos:Pos}
theorem ds_aset(he:DE X e f)(ho:DE X o fo)(hi:DE X i fi)(hs:swapsWithSole [.Subscript o i spos] e pos.line X.env=pure false)(hw:swappedStores [.Subscript o i spos] e X.env=pure none)
  (hA:∀ v,assign (.Subscript o i spos) X.env v=(do
   let ov <- holding [v] (eval o X.env)
   let iv <- holding [v,ov] (eval i X.env)
   standAt spos
   holding [v,ov,iv] (setItem ov iv v)
   release [v,ov,iv] [])) :
  DS X (.Assign [.Subscript o i spos] e pos) true (fun env S=>(f env S).bind fun v S=>(fo env S).bind fun x S=>(fi env S).bind fun y S=>(asetD x y v S).bind fun _ S=>.ok (.nx env) S):=by
 intro pins s σ H ρ S env I nb;dsimp only at nb ⊢;generalize hr:(f env S).bind (fun v S=>(fo env S).bind fun x S=>(fi env S).bind fun y S=>(asetD x y v S).bind fun _ S=>R.ok (Fl.nx env) S)=r at nb ⊢
 have h1:(assignEach [Expr.Subscript o i spos] X.env).map (·.2)=[assign (.Subscript o i spos) X.env]:=rfl;refine wpAny_Assign_stores (he.bind I (by rw[hr]; exact nb) hr.symm (fun d S1 u s1 v H1 ρ1 e1 nb1 I1 rv rd st1=>?_) fun x s' ⟨n,S2,e2,z⟩=>.of .refl z e2) hs hw
 rw[h1];show wpAny _ _ (assign (.Subscript o i spos) X.env u) _ _ _;rw[hA];refine wpAny_bind (wpAny_holding (ho.bind I1 nb1 e1 (fun x S2 ux s2 vx H2 ρ2 e2 nb2 I2 rvx rdx st2=>?_) fun x s' ⟨n,S3,e3,z⟩=>.of st1 z e3))
 refine wpAny_bind (wpAny_holding (hi.bind I2 nb2 e2 (fun y S3 uy s3 vy H3 ρ3 e3 nb3 I3 rvy rdy st3=>?_) fun x s' ⟨n,S4,e4,z⟩=>.of (st1.trans st2) z e4))
 refine wpAny_bind (wpAny_standAt (wpAny_bind (wpAny_holding (aset_d I3 (fun z=>nb3 (by rw[z]; rfl)) (rdx.mono st3) rvx rdy rvy ((rd.mono st2).mono st3) rv fun S4 s4 H4 e4 I4 st4=>?_))))
 refine wpAny_release ⟨.nx env,S4,by rw[e3,e4]; rfl,rfl,σ,H4,ρ3,I4,st1.trans (st2.trans (st3.trans st4)),fun _=>rfl⟩
theorem aug_d{op:Bo}{x y:D}{vx vy:V}{ux uy:Value}{Ev:Value->Shared->Prop}(I:S0 X pins σ H s ρ S env)(nb:augD op x y S≠.bad)(rx:RD X.K ρ H x vx)(qx:RelV vx ux)(ry:RD X.K ρ H y vy)(qy:RelV vy uy) :
  wpAny (model X.prog X.w) X.A (inplaceOp (opB op) ux uy) (OkP X pins σ ρ H (augD op x y S)) Ev s:=by
 unfold augD at nb ⊢;split at nb
 ·simp only[RD] at rx ry; subst rx ry
  obtain⟨t,rfl⟩:=qx;obtain⟨t',rfl⟩:=qy;exact iadd_int (fin_i I.sr (I.inv.tok _))
 ·simp only[RD] at rx ry; subst rx ry
  obtain⟨t,rfl⟩:=qx;obtain⟨t',rfl⟩:=qy;exact isub_int (fin_i I.sr (I.inv.tok _))
 ·simp only[RD] at rx ry; subst rx ry
  obtain⟨t,rfl⟩:=qx;obtain⟨t',rfl⟩:=qy;split at nb
  ·rename_i hm
   rw[if_pos hm];exact imul_int (fin_i I.sr (I.inv.tok _)) (mulOk_ok hm)
  ·exact absurd rfl nb
 ·exact absurd rfl nb
theorem ds_aug{op:Bo}{k:Nat}{x:Str}(hN:X.N.Nodup)(hi:X.N[k]?=some x)(hx:Loc X.env.scope x)(hf:X.fn x=true\/X.env.scope.names.lookup x=some .local)(he:DE X e f) :
  DS X (.AugAssign (.Name x spos) (opB op) e pos) false (fun env S=>match env[k]? with
   | some (some x)=>(f env S).bind fun y S=>(augD op x y S).bind fun z S=>.ok (.nx (env.set k (some z))) S
   | _=>.bad):=by
 intro pins s σ H ρ S env I nb;dsimp only at nb ⊢;split at nb
 ·rename_i d hd
  obtain⟨v,e1,rd⟩:=I.er.2 k d hd;generalize hr:((f env S).bind fun y S=>(augD op d y S).bind fun z S=>R.ok (Fl.nx (env.set k (some z))) S)=r at nb ⊢
  obtain⟨m,hn,hl⟩:=I.inv.loc;have vis:Vis X.env.scope x:=by rcases hx with k | k; exact .inl k; exact .inr (.inl k)
  obtain⟨u,rv,l⟩:=hl k x v hi e1 vis;refine wpAny_AugAssign_Name ?_;have go:wpAny (model X.prog X.w) X.A (eval e X.env) (fun w s₂=>wpAny (model X.prog X.w) X.A (inplaceOp (opB op) u w) (fun z s₃=>wpAny (model X.prog X.w) X.A (storeName X.env x z) (fun _=>OkS X pins σ ρ H false r .next) (ExS X pins σ ρ H false r) s₃) (ExS X pins σ ρ H false r) s₂) (ExS X pins σ ρ H false r) s:=by
   refine he.bind I (by rw[hr]; exact nb) hr.symm (fun d2 S1 w s1 v2 H1 ρ1 e2 nb2 I1 rv2 rd2 st1=>?_) fun x s' ⟨n,S2,e2,z⟩=>.of .refl z e2
   refine wpAny_mono (aug_d (Ev:=fun _ _=>False) I1 (fun z=>nb2 (by rw[z]; rfl)) (rd.mono st1) rv rd2 rv2) (fun z s3 hz=>?_) fun _ _ z=>z.elim
   obtain⟨d3,S3,e3,v3,H3,ρ3,J3,rv3,rd3,sr3,st3⟩:=hz;exact store_ok J3 hN hi hx rv3 (fun s4 I4=>⟨.nx (env.set k (some d3)),S3,by rw[e2,e3]; rfl,rfl,_,H3,ρ3,⟨I4,sr3,(I1.er.mono st3).set k rd3⟩,st1.trans st3,fun z=>nomatch z⟩) hf
  rcases l with⟨hk,hm⟩ | ⟨hk,c,hc,hcell⟩
  ·exact wpAny_loadName_local I.inv.ok.kind hk hn hm go
  ·rcases hk with hk | hk
   ·exact wpAny_loadName_cell I.inv.ok.kind hk hc hcell go
   ·rcases hx with k | k
    ·have:X.env.scope.names.lookup x=some .free:=hk
     rw[k] at this; cases this
    ·have:X.env.scope.names.lookup x=some .free:=hk
     rw[k] at this; cases this
 ·exact absurd rfl nb
theorem ds_whl{body:List Stmt}{na:Bool}{g:En->Sto->R Fl}(hc:DT X c (fun env S=>tst (fc env S)))(hb:DSs X body na g) :
  DS X (.While c body [] pos) false (fun env S=>wloop (fun env S=>tst (fc env S)) g 100000 env S):=by
 intro pins s σ H ρ S env I nb;dsimp only at nb ⊢;have hp:PassesOwn (model X.prog X.w) X.A X.env (fun _ _=>False):=PassesOwn.never
 generalize hn:100000=n0 at nb ⊢;generalize hr0:wloop (fun env S=>tst (fc env S)) g n0 env S=r0 at nb ⊢
 refine wpAny_mono (E:=fun _ _=>False) (wpAny_While (codeAny_whileLoop (fun n s'=>∃ σ' H' ρ' S' env',S0 X pins σ' H' s' ρ' S' env'/\Stp X.K ρ ρ' H H'/\wloop (fun env S=>tst (fc env S)) g n env' S'≠.bad/\wloop (fun env S=>tst (fc env S)) g n env' S'=r0) ?_ n0 ⟨σ,H,ρ,S,env,I,.refl,by rw[hr0]; exact nb,hr0⟩)) (fun _ _ z=>z) fun _ _ z=>z.elim
 rintro n s3 ⟨σ3,H3,ρ3,S3,env3,I3,st3,nb3,eq3⟩
 cases n with
 | zero=>exact absurd rfl nb3
 | succ n =>
  simp only[wloop] at nb3 eq3;cases e4:tst (fc env3 S3) with
  | bad=>rw[e4] at nb3; exact absurd rfl nb3
  | ex m S4=>rw[e4] at nb3; exact absurd rfl nb3
  | ok t S4 =>
   refine wpAny_passesOwn hp (hc.ok I3 e4 fun s4 H4 ρ4 I4 st4=>?_)
   rw[e4] at nb3 eq3;cases t with
   | false =>
    rw[if_neg Bool.false_ne_true];exact wpAny_execs_nil ⟨.nx env3,S4,eq3.symm,rfl,σ3,H4,ρ4,I4,st3.trans st4,fun z=>nomatch z⟩
   | true =>
    rw[if_pos rfl];dsimp only at nb3 eq3;cases e5:g env3 S4 with
    | bad=>rw[e5] at nb3; exact absurd rfl nb3
    | ex m S5=>rw[e5] at nb3; exact absurd rfl nb3
    | ok x5 S5 =>
     rw[e5] at nb3 eq3;refine wpAny_passesOwn hp (hb.ok I4 e5 fun fl s5 z5=>?_)
     cases x5 with
     | nx e=>obtain⟨rfl,σ5,H5,ρ5,I5,st5,_⟩:=z5; exact⟨n,Nat.lt_succ_self _,σ5,H5,ρ5,S5,e,I5,st3.trans (st4.trans st5),nb3,eq3⟩
     | cnt e=>obtain⟨rfl,σ5,H5,ρ5,I5,st5⟩:=z5; exact⟨n,Nat.lt_succ_self _,σ5,H5,ρ5,S5,e,I5,st3.trans (st4.trans st5),nb3,eq3⟩
     | brk e=>obtain⟨rfl,σ5,H5,ρ5,I5,st5⟩:=z5; exact⟨.nx e,S5,eq3.symm,rfl,σ5,H5,ρ5,I5,st3.trans (st4.trans st5),fun z=>nomatch z⟩
     | rt d=>obtain⟨u,v,σ5,H5,ρ5,rfl,J5,rv5,rd5,sr5,st5⟩:=z5; exact⟨.rt d,S5,eq3.symm,u,v,σ5,H5,ρ5,rfl,J5,rv5,rd5,sr5,st3.trans (st4.trans st5)⟩
end
section
variable{X:Cx}{pins:List (Addr×Obj)}{σ:L2.St}{H:Hp}{s:Shared}{ρ:List Addr}{S S':Sto}{env:En}{a b c e o i:Expr}{f fa fb fc fo fi:En->Sto->R D}{pos spos:Pos}
end
end Z
end
section
namespace Z
open PySem PySem.Spec PyProof.Rows L2
def EClsAt(C:Addr)(h:Heap):Prop:=∃ tl N nm qn bs hd sn sub ab col dd k0 k1 k2 k3 k5 mN,
 h.get? C=some (excClassObj nm qn C N bs tl hd sn sub ab col dd k0 k1 k2 k3 k5 "ValueError.__new__")/\h.Ns N mN/\mN "__init__" = none/\OwnTail h bmV tl
theorem ecls_of {K:PySem.W.Frag} {h:Heap} {C:Addr} (hK:K.In h) (hq:PySem.W.excIn K C bmV "ValueError.__new__" = true):EClsAt C h:=by
 unfold PySem.W.excIn at hq;split at hq
 case h_2=>cases hq
 rename_i _ dct cdt slt lk
 split at hq
 case h_2=>cases hq
 rename_i _ C1 tl s0 s1 s2 s3 nw s5 em es
 simp only[bA0,beq_iff_eq,Bool.not_eq_true'] at hq;obtain⟨⟨⟨⟨⟨e1,e2⟩,e3⟩,e4⟩,e5⟩,e6⟩:=hq;subst e1 e2;cases cdt;dsimp only at em e3 e5 e6;subst em e3;have esl:slt=#[s0,s1,s2,s3,some (.builtin "ValueError.__new__"),s5]:=by
  cases slt;dsimp only at es;rw[es]
 subst esl;exact⟨tl,_,_,_,_,_,_,_,_,_,_,_,_,_,_,_,_,hK _ _ lk,.of_isNs (PySem.W.isNs_of_in hK e5),PySem.W.nsMap_none_of_in hK e5 e6,PySem.W.tail_of_in hK e4⟩
theorem _root_.L2.Inv.newX{X:Cx}{pins:List (Addr×Obj)}{σ:L2.St}{H:Hp}{s:Shared}{h':Heap}{a:Addr}{o:HO}(I:Inv X pins σ H s)(k:∀ b u,s.heap.get? b=some u->h'.get? b=some u)(hn:s.heap.get? a=none)
  (new:ObjOk X.prog X.w (upd H a o) h' a o):Inv X pins σ (upd H a o) { s with heap:=h' }/\HOk X.prog X.w (upd H a o) h':=by
 have hna:H a=none:=by
  cases z:H a with
  | none=>rfl
  | some w=>obtain⟨q,e⟩:=obj_there (I.hok a w z); rw[hn] at e; cases e
 have ne:∀ b u,H b=some u->b≠a:=fun b u q=>ne_of_none q hna
 have hok:HOk X.prog X.w (upd H a o) h':=fun b u q=>by
  by_cases hb:b=a
  ·subst hb; rw[upd_same] at q; cases q; exact new
  ·rw[upd_ne hb] at q
   exact(I.hok b u q).stay (fun c v _ e=>k c v e) (fun c z=>by rw[upd_ne (ne c _ z)]; exact z) fun c xs z=>by rw[upd_ne (ne c _ z)]; exact z
 refine⟨I.un (t':=s.toks) ⟨fun b u e _ _ _=>k b u e,fun b u e _ _ _=>⟨u.slots,k b u e⟩,fun b u e n _=>?_,fun b u e _=>⟨u,k b u e⟩,fun b xs z=>by rw[upd_ne (ne b _ z)]; exact z,fun b u xs z=>by rw[upd_ne (ne b _ z)]; exact z,fun b ps z=>⟨#[],by rw[upd_ne (ne b _ z),z]; simp⟩⟩ hok,hok⟩
 rw[upd_ne (fun z=>by rw[z,hn] at e; cases e)]; exact n
section
variable{X:Cx}{pins:List (Addr×Obj)}{σ:L2.St}{H:Hp}{s:Shared}{ρ:List Addr}{S S':Sto}{env:En}{e:Expr}{f:En->Sto->R D}{pos np cpos:Pos}
theorem ds_rse {c:Nat} {x:Str} {C:Addr} (hc:X.calm=true) (hx:clsNm c=some x) (hn:PySem.W.nsIn X.K mainGlobals x=some (some (.ref C))) (hq:PySem.W.excIn X.K C bmV "ValueError.__new__" = true)
  (hg:Gl X x) (hdb:(x == ("__debug__" : Str))=false) (he:DE X e f) (hst:noStar e=true):DS X (.Raise (some (.Call (.Name x np) [e] [] cpos)) none pos) true (fun env S=>(f env S).bind fun _ S=>.ex S.length (S++[.exc c])):=by
 intro pins s σ H ρ S env I nb;dsimp only at nb ⊢;have hm:X.mg x=some (.ref C):=PySem.W.mg_of I.inv.mod.kin I.inv.mod.glob hn;have hcl:clsAt X.K c=some C:=by unfold clsAt; rw[hx]; simp only[Option.bind_some,hn]
 obtain⟨tl,N,nm,qn,bs,hd,sn,sub,ab,col,dd,k0,k1,k2,k3,k5,mN,hC,hN,hni,T⟩:=ecls_of I.inv.mod.kin hq;refine wpAny_Raise_call_subT (C:=C) (nm:=nm) (q:=qn) (N:=N) (bs:=bs) (bm:=tl) (hdct:=hd) (sn:=sn) (sub:=sub) (ab:=ab) (col:=col) (dd:=dd) (k0:=k0) (k1:=k1) (k2:=k2) (k3:=k3) (k5:=k5)
  PySem.F.excBase_ValueError (mN:=mN) (T.hasType PySem.F.excBase_ValueError.hasBase) (I.inv.ok.hd hc) (by rw[star_cons hst]; rfl) hni (ld_glob I.inv hg hm ⟨rfl,?_⟩ hdb)
 rw[star_cons hst];refine Calls.evalArgs_plain ?_;generalize hr:((f env S).bind fun _ S=>(R.ex S.length (S++[.exc c]):R Fl))=r at nb ⊢
 refine Calls.spliced_cons (he.bind I (by rw[hr]; exact nb) hr.symm (fun d S1 u s1 v H1 ρ1 e1 nb1 I1 rv rd st1=>Calls.spliced_nil ?_) fun y s' ⟨n,S2,z1,z2⟩=>⟨n,S2,σ,z1,fun _=>rfl,z2⟩)
 refine⟨rfl,by simp[sizeLine],I1.inv.bk _ _ hC,hN.keeps I1.inv.bk,T.keeps I1.inv.bk,fun h' a hmk=>?_⟩
 obtain⟨t,h1,h2,h3⟩:=hmk.there;have hna:H1 a=none:=by
  cases z:H1 a with
  | none=>rfl
  | some w=>obtain⟨o,e⟩:=obj_there (I1.inv.hok a w z); rw[hmk.new] at e; cases e
 have xo:ExcO C a h':=⟨_,_,_,h1,rfl,rfl,rfl,by simp⟩
 obtain⟨J,hok⟩:=I1.inv.newX hmk.keeps hmk.new xo.ok;refine⟨S1.length,S1++[.exc c],σ,e1,fun _=>rfl,_,ρ1++[a],a,c,J,rfl,?_,by simp,I1.sr.new1 (o:=.exc c) hna ⟨C,hcl,upd_same⟩,st1.trans (Stp.new1 hna),.inl ⟨_,_,h1,rfl,rfl⟩⟩
 rw[<- I1.sr.len]; simp
end
end Z
end
section
namespace Z
open PySem PySem.Spec PyProof.Rows L2
noncomputable def inH(X:Cx)(a:Addr):Cx:={ X with A:=X.A.mark (some (.ref a)),calm:=false }
section
variable{X:Cx}{pins:List (Addr×Obj)}{σ:L2.St}{H:Hp}{s:Shared}{a:Addr}
theorem Inv.inH(I:Inv X pins σ H s)(a:Addr):Inv (inH X a) pins σ H s :=
 ⟨⟨I.ok.mod,I.ok.kind,I.ok.glob,I.ok.blt,I.ok.above,I.ok.inj,I.ok.has,I.ok.cab,(fun z=>nomatch z),I.ok.frames,I.ok.stk,I.ok.exf,I.ok.bs,I.ok.bsz,I.ok.noex,I.ok.exfs,I.ok.funs,I.ok.frf⟩,I.os,I.bare,I.base,I.loc,I.cell,I.free,I.freeC,I.pin,I.hok,I.len⟩
theorem Inv.outH(I:Inv (Z.inH X a) pins σ H s)(ok:X.Ok):Inv X pins σ H s:=⟨ok,I.os,I.bare,I.base,I.loc,I.cell,I.free,I.freeC,I.pin,I.hok,I.len⟩
theorem Inv.fly{C:Addr}{h':Heap}{l:List Addr}(I:Inv X pins σ H s)(ha:H a=some (.ext (ExcO C a)))(hl:Hid X H a s.heap l)
  (hnew:∀ b∈l,b≠a->b ∉ frs X.stack->(b∈X.ex\/X.s₀.heap.get? b=none)/\∀ p∈X.pn++pins,p.1≠b) (k1:(PySem.W.hideAll s.heap l).StaysIn h') (k4:s.heap.UpToSlots h') (he:ExcO C a h') :
  Inv X pins σ H { s with heap:=h' }:=by
 have keep:∀ b o,s.heap.get? b=some o->b ∉ l->h'.get? b=some o:=fun b o e hb=>k1 b o (PySem.W.hideAll_get l e hb)
 have nfr:∀ b∈frs X.stack,∃ o,s.heap.get? b=some o/\∀ vs,o.data≠.fields vs:=fun b hb=>(I.stack.mem hb).2
 have old:∀ b o,X.s₀.heap.get? b=some o->b≠X.env.locals:=fun b o e=>Nat.ne_of_lt (Nat.lt_of_lt_of_le (Heap.lt_size e) I.ok.above)
 have cellK:∀ x c,X.env.cells.lookup x=some c->∀ v,s.heap.IsCell c v->h'.IsCell c v:=fun x c e v ⟨o,ho,hd⟩=>by
  obtain⟨sl,q⟩:=k4 c o ho fun vs z=>by rw[hd] at z; cases z
  exact⟨_,q,hd⟩
 refine⟨I.ok,I.os,I.bare,⟨fun b o e n hb hx=>?_,fun b o e n hb hx=>?_,fun b o e n hx=>I.base.free b o e n hx,fun b o e hx=>?_,I.base.tups,I.base.frzs,I.base.tbls⟩,?_,fun x c e=>?_,I.free,I.freeC,fun p hp=>?_,hok_fly I ha hl keep he,I.len⟩
 ·refine keep b o (I.base.keep b o e n hb hx) fun hm=>?_
  have fb:=I.base.free b o e n hx
  by_cases h1:b=a
  ·rw[h1,ha] at fb; cases fb
  ·by_cases h2:b∈frs X.stack
   ·rcases List.mem_cons.mp (I.stkSub b h2) with z | z
    ·exact old b o e z
    ·exact hb z
   ·rcases (hnew b hm h1 h2).1 with z | z
    ·exact hx z
    ·rw[z] at e; cases e
 ·obtain⟨sl,e1⟩:=I.base.slot b o e n hb hx
  obtain⟨_,o',e',nd⟩:=I.funs.mem hb;rw[e1] at e'; cases e';obtain⟨sl',e2⟩:=k4 b _ e1 nd;exact⟨sl',e2⟩
 ·obtain⟨o',e1⟩:=I.base.there b o e hx
  by_cases hm:b∈l
  ·by_cases h1:b=a
   ·subst h1; obtain⟨oe,_,_,q,_⟩:=he; exact⟨_,q⟩
   ·by_cases h2:b∈frs X.stack
    ·obtain⟨o2,e2,nd⟩:=nfr b h2
     rw[e1] at e2; cases e2;obtain⟨sl,e3⟩:=k4 b _ e1 nd;exact⟨_,e3⟩
    ·rcases (hnew b hm h1 h2).1 with z | z
     ·exact absurd z hx
     ·rw[z] at e; cases e
  ·exact⟨_,keep b o' e1 hm⟩
 ·obtain⟨m,hn,hlk⟩:=I.loc
  refine⟨m,k4.ns hn,fun i x v e1 e2 e3=>?_⟩
  obtain⟨u,r,lk⟩:=hlk i x v e1 e2 e3;refine⟨u,r,?_⟩;rcases lk with lk | ⟨kd,c,e,z⟩
  ·exact .inl lk
  ·exact .inr ⟨kd,c,e,cellK x c e _ z⟩
 ·obtain⟨v,z⟩:=I.cell x c e
  exact⟨v,cellK x c e v z⟩
 ·obtain⟨e,n,ne,nf,d⟩:=I.pin p hp
  refine⟨keep p.1 p.2 e fun hm=>?_,n,ne,nf,d⟩
  by_cases h1:p.1=a
  ·rw[h1,ha] at n; cases n
  ·by_cases h2:p.1∈frs X.stack
   ·rcases List.mem_cons.mp (I.stkSub p.1 h2) with z | z
    ·exact ne z
    ·exact nf z
   ·exact(hnew p.1 hm h1 h2).2 p hp rfl
theorem Inv.goes{n:Str}{p:Pos}{Q:Unit->Shared->Prop}{E:Value->Shared->Prop}{M:Model}{A:Around}(I:Inv X pins σ H s)(hl:X.env.scope.names.lookup n=some .local)
  (h:∀ s',Inv X pins (List.replicate σ.length none) H s'->Q () s'):wpAny M A (do bindName X.env n .none; unbindBehindTheSuite X.env n p) Q E s:=by
 obtain⟨m,hn,_⟩:=I.loc;refine wpAny_nameGoes hl hn (by rw[I.ok.kind]; rfl) fun h' m' hn' sb=>h _ ?_
 obtain⟨o,es,ep,ho,r⟩:=id hn;obtain⟨o',es',ep',ho',r'⟩:=id hn';have old:∀ b u,X.s₀.heap.get? b=some u->b≠X.env.locals:=fun b u e=>Nat.ne_of_lt (Nat.lt_of_lt_of_le (Heap.lt_size e) I.ok.above)
 have cellK:∀ x c,X.env.cells.lookup x=some c->∀ v,s.heap.IsCell c v->h'.IsCell c v:=fun x c e v ⟨u,hu,hd⟩=>⟨u,(sb.2 c (I.cne x c e)).trans hu,hd⟩
 refine⟨I.ok,I.os,I.bare,⟨fun b u e q hb hx=>(sb.2 b (old b u e)).trans (I.base.keep b u e q hb hx),fun b u e q hb hx=>?_,I.base.free,fun b u e hx=>?_,I.base.tups,I.base.frzs,I.base.tbls⟩,⟨m',hn',fun i x v _ e2 _=>?_⟩,fun x c e=>?_,I.free,I.freeC,fun p hp=>?_,fun b u q=>?_,by rw[List.length_replicate]; exact I.len⟩
 ·obtain⟨sl,z⟩:=I.base.slot b u e q hb hx
  exact⟨sl,(sb.2 b (old b u e)).trans z⟩
 ·obtain⟨w,z⟩:=I.base.there b u e hx
  exact⟨w,(sb.2 b (old b u e)).trans z⟩
 ·rw[List.getElem?_replicate] at e2
  split at e2 <;> cases e2
 ·obtain⟨v,z⟩:=I.cell x c e
  exact⟨v,cellK x c e v z⟩
 ·obtain⟨e,n,ne,r⟩:=I.pin p hp
  exact⟨(sb.2 _ ne).trans e,n,ne,r⟩
 ·have ne:∀ c v,H c=some v->c≠X.env.locals:=fun c v z=>ne_of_none z I.free
  refine(I.hok b u q).stay (fun c v hc e=>?_) (fun _ z=>z) fun _ _ z=>z
  rcases hc with rfl | hc
  ·exact(sb.2 _ (ne _ _ q)).trans e
  ·exact(sb.2 _ (ne _ _ hc)).trans e
noncomputable def tryR(c i:Nat)(g gh:En->Sto->R Fl)(env:En)(S:Sto):R Fl:=match g env S with
 | .ex m S'=>match S'[m]? with
  | some (.exc c')=>if c == 0 || c == c' then
    match gh (env.set i (some (.ref m))) S' with
    | .ok (.rt d) S''=>.ok (.rt d) S''
    | _=>.bad
   else .bad
  | _=>.bad
 | r=>r
theorem ds_try{c i:Nat}{x n:Str}{C0:Addr}{body suite:List Stmt}{b0:Stmt}{na:Bool}{g gh:En->Sto->R Fl}{np hp pos:Pos}(hs:X.stack=X.env :: X.outer)(hf:X.env.frame=some X.env.locals)
  (hN:X.N.Nodup) (hi:X.N[i]?=some n) (hl:X.env.scope.names.lookup n=some .local) (hn:PySem.W.nsIn X.K mainGlobals x=some (some (.ref C0))) (hg:Gl X x) (hdb:(x == ("__debug__" : Str))=false)
  (hm:∀ c' C,clsAt X.K c'=some C->(c == 0 || c == c')=true->PySem.W.exmOne X.K (.ref C) (.ref C0)=some true) (hb:DSs X body true g) (hh:∀ a,DSs (Z.inH X a) (b0 :: suite) na gh) :
  DS X (.Try body [.ExceptHandler (some (.Name x np)) (some n) (b0 :: suite) hp] [] [] pos) false (tryR c i g gh):=by
 intro pins s σ H ρ S env I nb;unfold tryR at nb ⊢;refine wpAny_Try_except ?_;cases q:g env S with
 | bad=>rw[q] at nb; exact absurd rfl nb
 | ok y S1 =>
  refine wpAny_mono (hb pins s σ H ρ S env I (by rw[q]; exact fun z=>nomatch z)) (fun fl s1 z=>?_) fun x s1 z=>?_
  ·rw[q] at z
   have z':=z.pre (σ:=σ) (na':=false) .refl fun w=>nomatch w
   obtain⟨y',S2,e,z2⟩:=z;cases e;cases y with
   | nx e=>obtain⟨rfl,_⟩:=z2; exact wpAny_execs_nil z'
   | brk e=>obtain⟨rfl,_⟩:=z2; exact z'
   | cnt e=>obtain⟨rfl,_⟩:=z2; exact z'
   | rt d=>obtain⟨u,v,σ',H',ρ',rfl,_⟩:=z2; exact z'
  ·obtain⟨k,S2,σ2,e,_⟩:=z
   rw[q] at e; cases e
 | ex m S1 =>
  rw[q] at nb;dsimp only at nb ⊢;refine wpAny_mono (hb pins s σ H ρ S env I (by rw[q]; exact fun z=>nomatch z)) (fun fl s1 z=>?_) fun x1 s1 z=>?_
  ·obtain⟨y,S2,e,_⟩:=z
   rw[q] at e; cases e
  obtain⟨m',S2,σ',e,hσ,H1,ρ1,a,c',J,rfl,hρ,hc,sr,st,fl⟩:=z;rw[q] at e; cases e;cases hσ rfl;rw[hc] at nb ⊢;dsimp only at nb ⊢;have hcc:(c == 0 || c == c')=true:=by
   cases z:(c == 0 || c == c') with
   | true=>rfl
   | false=>rw[z] at nb; exact absurd rfl nb
  rw[if_pos hcc] at nb ⊢;obtain⟨d,S2,hgh⟩:∃ d S2,gh (env.set i (some (.ref m))) S1=.ok (.rt d) S2:=by
   cases z:gh (env.set i (some (.ref m))) S1 with
   | bad=>rw[z] at nb; exact absurd rfl nb
   | ex _ _=>rw[z] at nb; exact absurd rfl nb
   | ok y S2 =>
    rw[z] at nb;cases y with
    | rt d=>exact⟨d,S2,rfl⟩
    | nx _=>exact absurd rfl nb
    | brk _=>exact absurd rfl nb
    | cnt _=>exact absurd rfl nb
  rw[hgh];dsimp only;obtain⟨C,hC,ha⟩:=(show ∃ C,clsAt X.K c'=some C/\H1 a=some (.ext (ExcO C a)) from sr.ob m a _ hρ hc);have hex:=hm c' C hC hcc;obtain⟨⟨oa,va,a0,ea,ca,da,v0,vz⟩,_,_⟩:=(show ObjOk X.prog X.w H1 s1.heap a (.ext (ExcO C a)) from J.hok a _ ha);have hA:X.A.frames=some (X.env :: X.outer):=by rw[<- hs]; exact J.ok.frames
  have main:∀ (l:List Addr),Hid X H1 a s1.heap l->(∀ b∈l,b≠a->b ∉ frs X.stack->(b∈X.ex\/X.s₀.heap.get? b=none)/\∀ p∈X.pn++pins,p.1≠b) ->
    ∀ h2,Heap.HeldW (PySem.W.hideAll s1.heap l) (X.env :: X.outer) a (.ref C) a0 X.env.locals h2->s1.heap.UpToSlots h2 ->
    wpAny (model X.prog X.w) X.A (setFlight (.ref a) none) (fun _ s3=>wpAny (model X.prog X.w) X.A (handleBy (.ref a) X.env [.ExceptHandler (some (.Name x np)) (some n) (b0 :: suite) hp])
     (OkS X pins σ ρ H false (.ok (.rt d) S2)) (ExS X pins σ ρ H false (.ok (.rt d) S2)) s3) (ExS X pins σ ρ H false (.ok (.rt d) S2)) { s1 with heap:=h2 }:=by
   intro l hid hnew h2 hh2 up2;have inv:∀ {h':Heap},Heap.FlyingW (PySem.W.hideAll s1.heap l) (X.env :: X.outer) a (.ref C) a0 h'->s1.heap.UpToSlots h'->Inv X pins σ H1 { s1 with heap:=h' }:=fun {h'} fw up=>by
    obtain⟨f1,_,_,oe,vs,T,oT,ts,t1,⟨t2,t3⟩,t4,t5,_⟩:=fw;exact Inv.fly J ha hid hnew f1 up ⟨oe,vs,a0,t1,t2,t4,t3,(Array.getElem?_eq_some_iff.mp t5).1⟩
   refine wpAny_landsW hh2 fun h3 fw3 up3=>?_
   have J3:=inv fw3 (up2.trans up3);obtain⟨ob,hob,hobc⟩:=fw3.there;refine wpAny_handleBy_cons (codeAny_handlers_test (ld_glob (Inv.inH J3 a) hg (PySem.W.mg_of J.mod.kin J.mod.glob hn) ?_ hdb)) (by intro z; cases z)
   have LT:PySem.W.Looks (model X.prog X.w) h3 (typeOf (.ref a)) (.ref C):=hobc ▸ (PySem.W.Looks.ld hob).andThen .now;refine(PySem.W.exm_one J3.kIn LT hex).at ?_;refine codeAny_handlers_suite_as (lands_againW fw3 fun h4 fw4 up4=>?_)
   have J4:=inv fw4 ((up2.trans up3).trans up4);refine store_ok (X:=Z.inH X a) (v:=.ref a) (Inv.inH J4 a) hN hi (.inl hl) rfl (fun s5 J5=>?_) (.inr hl)
   have er:ER X.K ρ1 H1 (env.set i (some (.ref m))) (σ.set i (some (.ref a))):=(I.er.mono st).set i (by simp only[RD]; exact⟨a,rfl,hρ⟩)
   refine wpAny_mono (hh a pins s5 (σ.set i (some (.ref a))) H1 ρ1 S1 (env.set i (some (.ref m))) ⟨J5,sr,er⟩ (by rw[hgh]; exact fun z=>nomatch z)) (fun f6 s6 z=>?_) fun y s6 z=>?_
   ·rw[hgh] at z
    obtain⟨y,S3,e,z⟩:=z;cases e;obtain⟨u,v,σ6,H6,ρ6,rfl,J6,rv,rd,sr6,st6⟩:=z;exact Inv.goes (Inv.outH J6 J.ok) hl fun s7 J7=>⟨.rt d,S2,rfl,u,v,_,H6,ρ6,rfl,J7,rv,rd,sr6,st.trans st6⟩
   ·rw[hgh] at z
    obtain⟨_,_,_,e,_⟩:=z;cases e
  have hI:=J.stack;rcases fl with⟨oe,vs,e1,e2,e3⟩ | ⟨oe,vs,T,oT,ts,e1,e2,e3,⟨e4,e5⟩,e6,e7,e8,e9,e10⟩
  ·have hid:Hid X H1 a s1.heap (a :: frs X.stack):=⟨.head _,fun b hb=>.tail _ hb,fun b hb=>by
    rcases List.mem_cons.mp hb with z | z
    ·exact .inl z
    ·exact .inr (.inl z)⟩
   rw[ea] at e1; cases e1;rw[da] at e2; cases e2;unfold noteFrame;simp only[hf];refine wpAny_bind (wpAny_field ea da e3 ?_);rw[if_neg (by decide)]
   refine wpAny_entryW (base:=PySem.W.hideAll s1.heap (a :: frs X.stack)) hA (by rw[<- hs]; exact frames_base hI fun b hb=>PySem.W.hideAll_none _ (.tail _ hb)) hf ea (fun b o e=>PySem.W.of_hideAll _ e) (PySem.W.hideAll_none _ (.head _)) da vz v0 fun h2 ⟨k1,k2,k3,k4⟩=>?_
   rw[ca] at k3;exact main _ hid (fun b hb h1 h2=>by
    rcases List.mem_cons.mp hb with z | z
    ·exact absurd z h1
    ·exact absurd z h2) h2 ⟨k1,PySem.W.hideAll_none _ (.head _),k2,k3⟩ k4
  ·have hid:Hid X H1 a s1.heap (a :: T :: frs X.stack):=⟨.head _,fun b hb=>.tail _ (.tail _ hb),fun b hb=>by
    rcases List.mem_cons.mp hb with z | z
    ·exact .inl z
    ·rcases List.mem_cons.mp z with z | z
     ·subst z; exact .inr (.inr ⟨e7,oT,ts,e8,e9⟩)
     ·exact .inr (.inl z)⟩
   rw[ea] at e1; cases e1;rw[da] at e2; cases e2;refine wpAny_looks_onW (base:=PySem.W.hideAll s1.heap (a :: T :: frs X.stack)) (cls:=.ref C) (a0:=a0) hA hf ⟨fun b o e=>PySem.W.of_hideAll _ e,PySem.W.hideAll_none _ (.head _),by rw[<- hs]; exact frames_base hI fun b hb=>PySem.W.hideAll_none _ (.tail _ (.tail _ hb)),oa,va,T,oT,ts,ea,⟨ca,v0⟩,da,e3,PySem.W.hideAll_none _ (.tail _ (.head _)),e6,e8,e9,e10⟩ fun h2 hh2 up2=>?_
   exact main _ hid (fun b hb h1 h2=>by
    rcases List.mem_cons.mp hb with z | z
    ·exact absurd z h1
    ·rcases List.mem_cons.mp z with z | z
     ·subst z; exact⟨e4,e5⟩
     ·exact absurd z h2) h2 hh2 up2
end
end Z
end
section
namespace Z
open PySem PySem.Spec PyProof.Rows L2
noncomputable def dumE(sc:Scope):PySem.Env:={ scope:=sc,locals:=0,globals:=0,cells:=[] }
noncomputable def isPb(b:Bool):Sem Bool->Bool
 | .pure c=>b == c
 | _=>false
noncomputable def isPo(l:Option (List Str)):Sem (Option (List Str))->Bool
 | .pure m=>decide (l=m)
 | _=>false
theorem isPb_ok{b:Bool}{m:Sem Bool}(h:isPb b m=true):m=pure b:=by
 cases m <;> first | cases h | skip
 simp only[isPb,beq_iff_eq] at h;subst h; rfl
theorem isPo_ok{b:Option (List Str)}{m:Sem (Option (List Str))}(h:isPo b m=true):m=pure b:=by
 cases m <;> first | cases h | skip
 simp only[isPo,decide_eq_true_eq] at h;subst h; rfl
theorem sw_dum(v:Expr)(t:Option Expr)(l:Nat)(env:PySem.Env):swapsWith v t l env=swapsWith v t l (dumE env.scope):=rfl
theorem sws_dum(t v:Expr)(l:Nat)(env:PySem.Env):swapsWithSole [t] v l env=swapsWithSole [t] v l (dumE env.scope):=rfl
theorem swp_dum(ts:List Expr)(v:Expr)(env:PySem.Env):swappedStores ts v env=swappedStores ts v (dumE env.scope):=rfl
theorem assign_plain{o i:Expr}{spos:Pos}{env:PySem.Env}(h:noSlice i=true)(v:Value):assign (.Subscript o i spos) env v=(do
   let ov <- holding [v] (eval o env)
   let iv <- holding [v,ov] (eval i env)
   standAt spos
   holding [v,ov,iv] (setItem ov iv v)
   release [v,ov,iv] []):=by
 cases i <;> first | rfl | cases h
noncomputable def isLC:Expr->Bool
 | .ListComp _ _ _ _=>true
 | _=>false
noncomputable def vAsg(s:Stmt):Option (List Expr×Expr×Pos):=match s with
 | .Assign ts v p=>some (ts,v,p)
 | _=>none
theorem vAsg_ok{s:Stmt}{z:List Expr×Expr×Pos}(h:vAsg s=some z):s=.Assign z.1 z.2.1 z.2.2:=by
 unfold vAsg at h;split at h
 ·cases h; rfl
 ·cases h
noncomputable def vAug(s:Stmt):Option (Expr×Operator×Expr×Pos):=match s with
 | .AugAssign t o v p=>some (t,o,v,p)
 | _=>none
theorem vAug_ok{s:Stmt}{z:Expr×Operator×Expr×Pos}(h:vAug s=some z):s=.AugAssign z.1 z.2.1 z.2.2.1 z.2.2.2:=by
 unfold vAug at h;split at h
 ·cases h; rfl
 ·cases h
noncomputable def vExp(s:Stmt):Option (Expr×Pos):=match s with
 | .Expr v p=>some (v,p)
 | _=>none
theorem vExp_ok{s:Stmt}{z:Expr×Pos}(h:vExp s=some z):s=.Expr z.1 z.2:=by
 unfold vExp at h;split at h
 ·cases h; rfl
 ·cases h
noncomputable def vRet(s:Stmt):Option (Option Expr):=match s with
 | .Return v _=>some v
 | _=>none
theorem vRet_ok{s:Stmt}{z:Option Expr}(h:vRet s=some z):∃ p,s=.Return z p:=by
 unfold vRet at h;split at h
 ·cases h; exact⟨_,rfl⟩
 ·cases h
noncomputable def vIfS(s:Stmt):Option (Expr×List Stmt×List Stmt):=match s with
 | .If c a b _=>some (c,a,b)
 | _=>none
theorem vIfS_ok{s:Stmt}{z:Expr×List Stmt×List Stmt}(h:vIfS s=some z):∃ p,s=.If z.1 z.2.1 z.2.2 p:=by
 unfold vIfS at h;split at h
 ·cases h; exact⟨_,rfl⟩
 ·cases h
noncomputable def vFor(s:Stmt):Option (Expr×Expr×List Stmt×List Stmt):=match s with
 | .For t i b oe _=>some (t,i,b,oe)
 | _=>none
theorem vFor_ok{s:Stmt}{z:Expr×Expr×List Stmt×List Stmt}(h:vFor s=some z):∃ p,s=.For z.1 z.2.1 z.2.2.1 z.2.2.2 p:=by
 unfold vFor at h;split at h
 ·cases h; exact⟨_,rfl⟩
 ·cases h
noncomputable def vWhl(s:Stmt):Option (Expr×List Stmt×List Stmt):=match s with
 | .While c b oe _=>some (c,b,oe)
 | _=>none
theorem vWhl_ok{s:Stmt}{z:Expr×List Stmt×List Stmt}(h:vWhl s=some z):∃ p,s=.While z.1 z.2.1 z.2.2 p:=by
 unfold vWhl at h;split at h
 ·cases h; exact⟨_,rfl⟩
 ·cases h
noncomputable def vRse(s:Stmt):Option (Option Expr×Option Expr):=match s with
 | .Raise v w _=>some (v,w)
 | _=>none
theorem vRse_ok{s:Stmt}{z:Option Expr×Option Expr}(h:vRse s=some z):∃ p,s=.Raise z.1 z.2 p:=by
 unfold vRse at h;split at h
 ·cases h; exact⟨_,rfl⟩
 ·cases h
noncomputable def vTry(s:Stmt):Option (List Stmt×List ExceptHandler×List Stmt×List Stmt):=match s with
 | .Try b hs oe fb _=>some (b,hs,oe,fb)
 | _=>none
theorem vTry_ok{s:Stmt}{z:List Stmt×List ExceptHandler×List Stmt×List Stmt}(h:vTry s=some z):∃ p,s=.Try z.1 z.2.1 z.2.2.1 z.2.2.2 p:=by
 unfold vTry at h;split at h
 ·cases h; exact⟨_,rfl⟩
 ·cases h
noncomputable def vHnd(h:ExceptHandler):Option (Expr×Str×Stmt×List Stmt):=match h with
 | .ExceptHandler (some e) (some n) (b :: su) _=>some (e,n,b,su)
 | _=>none
theorem vHnd_ok{h:ExceptHandler}{z:Expr×Str×Stmt×List Stmt}(q:vHnd h=some z):∃ p,h=.ExceptHandler (some z.1) (some z.2.1) (z.2.2.1 :: z.2.2.2) p:=by
 unfold vHnd at q;split at q
 ·cases q; exact⟨_,rfl⟩
 ·cases q
noncomputable def vEnd(s:Stmt):Nat:=match s with
 | .Pass _=>1
 | .Break _=>2
 | .Continue _=>3
 | _=>0
theorem vEnd_ok{s:Stmt}:(vEnd s=1->∃ p,s=.Pass p)/\(vEnd s=2->∃ p,s=.Break p)/\(vEnd s=3->∃ p,s=.Continue p):=by
 unfold vEnd;split
 ·exact⟨fun _=>⟨_,rfl⟩,fun z=>(nomatch z),fun z=>(nomatch z)⟩
 ·exact⟨fun z=>(nomatch z),fun _=>⟨_,rfl⟩,fun z=>(nomatch z)⟩
 ·exact⟨fun z=>(nomatch z),fun z=>(nomatch z),fun _=>⟨_,rfl⟩⟩
 ·exact⟨fun z=>(nomatch z),fun z=>(nomatch z),fun z=>(nomatch z)⟩
noncomputable def thr1{α:Type}(l:List α):Option (α×α×α):=match l with
 | [x,y,z]=>some (x,y,z)
 | _=>none
theorem thr1_ok{α:Type}{l:List α}{z:α×α×α}(h:thr1 l=some z):l=[z.1,z.2.1,z.2.2]:=by
 unfold thr1 at h;split at h
 ·cases h; rfl
 ·cases h
section
variable(cm:Bool)(fns:List (Str×Nat×Bool))(gns:List Str)(sc:Scope)(N:List Str)
noncomputable def asgM(i:Nat)(e:Ex)(v:Expr)(p:Pos)(ts:List Expr):Bool:=(one1 ts).any fun t=>(vNm t).any fun x=>decide (N[i]?=some x) && locB true sc x && mt cm fns gns sc N e v && (isPb false (swapsWith v (some t) p.line (dumE sc)) || (isLC v && isLoc (sc.names.lookup x) && isPb true (swapsWith v (some t) p.line (dumE sc))))
noncomputable def asgtM(is:List Nat)(e:Ex)(v:Expr)(p:Pos)(ts:List Expr):Bool:=(one1 ts).any fun t=>cm && mtT true sc N (.tup is) t && mt cm fns gns sc N e v && isPb false (swapsWithSole [t] v p.line (dumE sc)) && isPo none (swappedStores [t] v (dumE sc))
noncomputable def par2M(es:Exs)(p:Pos)(i j:Nat)(a b x y t v:Expr):Bool:=(vNm x).any fun xn=>(vNm y).any fun yn=>cm && decide (N[i]?=some xn) && decide (N[j]?=some yn) && decide (i≠j) && isLoc (sc.names.lookup xn) && isLoc (sc.names.lookup yn) && mts cm fns gns sc N es [a,b] &&
   isPo (some [xn,yn]) (swappedStores [t] v (dumE sc)) && isPb false (swapsWithSole [t] v p.line (dumE sc))
noncomputable def par3M(es:Exs)(p:Pos)(i j k:Nat)(a b c x y z t v:Expr):Bool:=(vNm x).any fun xn=>(vNm y).any fun yn=>(vNm z).any fun zn=>cm && decide (N[i]?=some xn) && decide (N[j]?=some yn) && decide (N[k]?=some zn) && decide (i≠j) && decide (i≠k) && decide (j≠k) && isLoc (sc.names.lookup xn) && isLoc (sc.names.lookup yn) && isLoc (sc.names.lookup zn) && mts cm fns gns sc N es [a,b,c] &&
   isPo (some [xn,yn,zn]) (swappedStores [t] v (dumE sc)) && isPb false (swapsWithSole [t] v p.line (dumE sc))
noncomputable def parM(es:Exs)(p:Pos)(is:List Nat)(ts:List Expr)(v:Expr):Bool:=(one1 ts).any fun t=>(vTup t).any fun tn=>(vTup v).any fun vs =>
 ((two1 is).any fun i=>(two1 tn).any fun x=>(two1 vs).any fun a=>par2M cm fns gns sc N es p i.1 i.2 a.1 a.2 x.1 x.2 t v) ||
 ((thr1 is).any fun i=>(thr1 tn).any fun x=>(thr1 vs).any fun a=>par3M cm fns gns sc N es p i.1 i.2.1 i.2.2 a.1 a.2.1 a.2.2 x.1 x.2.1 x.2.2 t v)
noncomputable def asetM(o i e:Ex)(v:Expr)(p:Pos)(ts:List Expr):Bool:=(one1 ts).any fun t=>(vSub t).any fun z=>noSlice z.2 && mt cm fns gns sc N o z.1 && mt cm fns gns sc N i z.2 && mt cm fns gns sc N e v && isPb false (swapsWithSole [t] v p.line (dumE sc)) && isPo none (swappedStores [t] v (dumE sc))
noncomputable def augM(i:Nat)(t:Expr):Bool:=(vNm t).any fun x=>decide (N[i]?=some x) && locB true sc x
noncomputable def rseM(c:Nat)(e:Ex)(v w:Option Expr):Bool:=w.isNone && v.any fun r=>(vCal r).any fun z=>(vNm z.1).any fun x=>decide (clsNm c=some x) && glB sc x && okNm x && noStar z.2.1 && z.2.2.1.isEmpty && mt cm fns gns sc N e z.2.1
end
section
variable(fns:List (Str×Nat×Bool))(gns:List Str)(sc:Scope)(N:List Str)
mutual
noncomputable def mtS(cm:Bool):St->Stmt->Bool
 | .nev,_=>true
 | .asg (.var i) e,st=>(vAsg st).any fun z=>asgM cm fns gns sc N i e z.2.1 z.2.2 z.1
 | .asg (.tup is) e,st=>(vAsg st).any fun z=>asgtM cm fns gns sc N is e z.2.1 z.2.2 z.1
 | .par is es,st=>(vAsg st).any fun z=>parM cm fns gns sc N es z.2.2 is z.1 z.2.1
 | .aset o i e,st=>(vAsg st).any fun z=>asetM cm fns gns sc N o i e z.2.1 z.2.2 z.1
 | .aug i op e,st=>(vAug st).any fun z=>augM sc N i z.1 && isBo op z.2.1 && mt cm fns gns sc N e z.2.2.1
 | .expr e,st=>(vExp st).any fun z=>isPb false (swapsWith z.1 none z.2.line (dumE sc)) && mt cm fns gns sc N e z.1
 | .ret e,st=>(vRet st).any fun z=>z.any fun v=>mt cm fns gns sc N e v
 | .ite c a b,st=>(vIfS st).any fun z=>mt cm fns gns sc N c z.1 && mtSs cm a z.2.1 && mtSs cm b z.2.2
 | .for t it b,st=>(vFor st).any fun z=>cm && z.2.2.2.isEmpty && noSet z.2.1 && mtT true sc N t z.1 && mtI cm fns gns sc N it z.2.1 && mtSs cm b z.2.2.1 && tgIt t it
 | .whl c b,st=>(vWhl st).any fun z=>z.2.2.isEmpty && mt cm fns gns sc N c z.1 && mtSs cm b z.2.1
 | .rse c e,st=>(vRse st).any fun z=>cm && rseM cm fns gns sc N c e z.1 z.2
 | .try b c i h,st=>(vTry st).any fun z=>(one1 z.2.1).any fun y=>(vHnd y).any fun q=>(vNm q.1).any fun x=>z.2.2.1.isEmpty && z.2.2.2.isEmpty && nasgs b && decide (clsNm c=some x) && glB sc x && okNm x && decide (N[i]?=some q.2.1) && isLoc (sc.names.lookup q.2.1) && mtSs cm b z.1 && mtSs false h (q.2.2.1 :: q.2.2.2)
 | .pass,st=>vEnd st == 1
 | .brk,st=>vEnd st == 2
 | .cnt,st=>vEnd st == 3
noncomputable def mtSs(cm:Bool):Sts->List Stmt->Bool
 | .nil,[]=>true
 | .cons s ss,x :: xs=>mtS cm s x && mtSs cm ss xs
 | _,_=>false
end
end
theorem isLoc_ok{k:Option NameKind}(h:isLoc k=true):k=some .local:=by
 unfold isLoc at h;split at h
 ·rfl
 ·cases h
section
variable{F:Fn}{G:List D}{cm:Bool}{fns:List (Str×Nat×Bool)}{gns:List Str}{X:Cx}
theorem DS.congr{st:Stmt}{na:Bool}{f g:En->Sto->R Fl}(h:DS X st na f)(q:∀ env S,g env S=f env S):DS X st na g:=by
 have:g=f:=funext fun env=>funext fun S=>q env S
 rw[this]; exact h
theorem DSs.congr{st:List Stmt}{na:Bool}{f g:En->Sto->R Fl}(h:DSs X st na f)(q:∀ env S,g env S=f env S):DSs X st na g:=by
 have:g=f:=funext fun env=>funext fun S=>q env S
 rw[this]; exact h
theorem ds_nev{st:Stmt}{na:Bool}:DS X st na (exe F G .nev):=fun _ _ _ _ _ _ _ _ nb=>absurd (by simp only[exe]) nb
structure TopOk(cm:Bool)(F:Fn)(G:List D)(fns:List (Str×Nat×Bool))(gns:List Str)(X:Cx)(sc:Scope)(N:List Str):Prop where
 hN:X.N=N
 hs:X.env.scope=sc
 nd:N.Nodup
 fn:∀ x,X.fn x=true
 pf:PF cm F G fns gns X
 stk:X.stack=X.env :: X.outer
 frm:X.env.frame=some X.env.locals
theorem TopOk.inH{sc:Scope}{N:List Str}(T:TopOk cm F G fns gns X sc N)(a:Addr):TopOk false F G fns gns (Z.inH X a) sc N :=
 ⟨T.hN,T.hs,T.nd,T.fn,⟨T.pf.blt,fun f nm ar fl h hf=>by
  obtain⟨g,fd,ps,k,c1,c2,r⟩:=T.pf.fn f nm ar fl h (fun z=>nomatch (hf z))
  refine⟨g,fd,ps,k,c1,?_,r⟩;cases fl with
  | true=>exact nomatch (hf rfl)
  | false=>exact c2.mark,T.pf.glb,T.pf.cal,T.pf.units,T.pf.gd,(fun z=>nomatch z),T.pf.err⟩,T.stk,T.frm⟩
variable{sc:Scope}{N:List Str}
noncomputable def isC:Ex->Bool
 | .nev=>true
 | .cmr _ _ _ _=>true
 | _=>false
theorem lc_no{e:Ex}{v:Expr}(h4:isLC v=true)(hn:isC e=false)(h:mt cm fns gns sc N e v=true):False:=by
 cases v with
 | ListComp ee gens scope cp =>
  cases e with
  | nev=>cases hn
  | cmr _ _ _ _=>cases hn
  | _=>cases h
 | _=>cases h4
theorem snd_asgv{i:Nat}{e:Ex}{ts:List Expr}{v:Expr}{p:Pos}(T:TopOk cm F G fns gns X sc N)(h:asgM cm fns gns sc N i e v p ts=true):DS X (.Assign ts v p) false (exe F G (.asg (.var i) e)):=by
 obtain⟨t,k1,hq1⟩:=any_some h;obtain⟨x,k2,hq2⟩:=any_some hq1;clear h hq1;have h:=hq2; clear hq2;have k3:=one1_ok k1;obtain⟨py,k4⟩:=vNm_ok k2;subst k4 k3
 ·rw[bA0,bA0,bA0,decide_eq_true_eq,Bool.or_eq_true,bA0,bA0] at h
  obtain⟨⟨⟨h1,h2⟩,h3⟩,h4⟩:=h;obtain⟨l1,l2⟩:=locB_ok (X:=X) T.hs (fun _=>T.fn) h2
  have ihe:=(snd e X sc N v T.hN T.hs T.pf h3).1;have hN:=T.hN;have hs:=T.hs;subst hN hs;rcases h4 with h4 | ⟨⟨h4,h5⟩,h6⟩
  ·have hw:=isPb_ok h4
   rw[<- sw_dum] at hw;exact(ds_set T.nd h1 l1 l2 ihe hw).congr fun env S=>by simp only[exe] <;> rfl
  ·have hw:=isPb_ok h6
   rw[<- sw_dum] at hw;cases e with
   | nev=>exact fun _ _ _ _ _ _ _ _ nb=>absurd (by simp only[exe,ev,R.bind_bad]) nb
   | cmr k n gs elt =>
    obtain⟨ee,gens,scope,cp,rfl,m0,m1,m2,m3,m4,m5⟩:=mt_cmr h3;subst m1 m2;have so:=scB_ok m3;have hcl:=T.pf.calm m0;obtain⟨c⟩:=comp_of (p:=cp) rfl rfl T.pf hcl so (sndg gs X _ _ _ _ gens rfl rfl T.pf m4) (fun Y y1 y2 y3=>(snd elt Y _ _ ee y1 y2 y3 m5).1)
    refine(ds_setc (py:=py) (spos:=p) T.nd h1 (isLoc_ok h5) hw hcl so rfl c.hg c.hi c.hs c.hG c.hT c.hB).congr fun env S=>?_
    simp only[exe];have:=congrFun (congrFun c.eq env) S;rw[this]
    all_goals rfl
   | _=>exact(lc_no h4 rfl h3).elim
theorem snd_asgt{is:List Nat}{e:Ex}{ts:List Expr}{v:Expr}{p:Pos}(T:TopOk cm F G fns gns X sc N)(h:asgtM cm fns gns sc N is e v p ts=true):DS X (.Assign ts v p) false (exe F G (.asg (.tup is) e)):=by
 obtain⟨t,k1,hq1⟩:=any_some h;clear h;have h:=hq1; clear hq1;have k3:=one1_ok k1;subst k3
 ·rw[bA0,bA0,bA0,bA0] at h
  obtain⟨⟨⟨⟨h0,h1⟩,h2⟩,h3⟩,h4⟩:=h;have h1':=h1;simp only[mtT] at h1';obtain⟨tes,q1,_⟩:=any_some h1';obtain⟨tkk,tpp,q2⟩:=vTup_ok q1;subst q2;have ihe:=(snd e X sc N v T.hN T.hs T.pf h2).1;have hg:=dgB (top:=true) T.hN T.hs T.nd (fun _=>T.pf.calm h0) (fun _=>T.fn) h1
  have w1:=isPb_ok h3;have w2:=isPo_ok h4;rw[<- T.hs] at w1 w2;rw[<- sws_dum] at w1;rw[<- swp_dum] at w2;exact(ds_asg ihe hg w1 w2 rfl).congr fun env S=>by simp only[exe] <;> rfl
theorem snd_par{is:List Nat}{es:Exs}{ts:List Expr}{v:Expr}{p:Pos}(T:TopOk cm F G fns gns X sc N)(h:parM cm fns gns sc N es p is ts v=true):DS X (.Assign ts v p) false (exe F G (.par is es)):=by
 obtain⟨t,k1,hq⟩:=any_some h;clear h; have h:=hq; clear hq;obtain⟨tn,k2,hq⟩:=any_some h;clear h; have h:=hq; clear hq;obtain⟨vs,k3,hq⟩:=any_some h;clear h; have h:=hq; clear hq;have e1:=one1_ok k1;obtain⟨kt,pt,e2⟩:=vTup_ok k2;obtain⟨kv,pv,e3⟩:=vTup_ok k3;subst e1 e2 e3;rw[Bool.or_eq_true] at h;rcases h with h | h
 ·obtain⟨⟨i,j⟩,k4,hq⟩:=any_some h
  clear h; have h:=hq; clear hq;obtain⟨⟨x,y⟩,k5,hq⟩:=any_some h;clear h; have h:=hq; clear hq;obtain⟨⟨a,b⟩,k6,hq⟩:=any_some h;clear h; have h:=hq; clear hq;have e4:=two1_ok k4;have e5:=two1_ok k5;have e6:=two1_ok k6;subst e4 e5 e6;obtain⟨xn,k7,hq⟩:=any_some h;clear h; have h:=hq; clear hq;obtain⟨yn,k8,hq⟩:=any_some h;clear h; have h:=hq; clear hq;obtain⟨px,e7⟩:=vNm_ok k7;obtain⟨py,e8⟩:=vNm_ok k8;dsimp only at e7 e8;subst e7 e8
  iterate 8 rw[bA0] at h
  obtain⟨⟨⟨⟨⟨⟨⟨⟨h0,h1⟩,h2⟩,h3⟩,h4⟩,h5⟩,h6⟩,h7⟩,h8⟩:=h;have ihe:=snds es X sc N _ T.hN T.hs T.pf h6;have hN:=T.hN;have hs:=T.hs;subst hN hs;have w1:=isPb_ok h8;have w2:=isPo_ok h7;rw[<- sws_dum] at w1;rw[<- swp_dum] at w2;exact(ds_par2 (T.pf.calm h0) T.nd (of_decide_eq_true h1) (of_decide_eq_true h2) (of_decide_eq_true h3) (isLoc_ok h4) (isLoc_ok h5) ihe w2 w1).congr fun env S=>by simp only[exe]
 ·obtain⟨⟨i,j,k⟩,k4,hq⟩:=any_some h
  clear h; have h:=hq; clear hq;obtain⟨⟨x,y,z⟩,k5,hq⟩:=any_some h;clear h; have h:=hq; clear hq;obtain⟨⟨a,b,c⟩,k6,hq⟩:=any_some h;clear h; have h:=hq; clear hq;have e4:=thr1_ok k4;have e5:=thr1_ok k5;have e6:=thr1_ok k6;subst e4 e5 e6;obtain⟨xn,k7,hq⟩:=any_some h;clear h; have h:=hq; clear hq;obtain⟨yn,k8,hq⟩:=any_some h;clear h; have h:=hq; clear hq;obtain⟨zn,k9,hq⟩:=any_some h;clear h; have h:=hq; clear hq;obtain⟨px,e7⟩:=vNm_ok k7;obtain⟨py,e8⟩:=vNm_ok k8;obtain⟨pz,e9⟩:=vNm_ok k9;dsimp only at e7 e8 e9;subst e7 e8 e9
  iterate 12 rw[bA0] at h
  obtain⟨⟨⟨⟨⟨⟨⟨⟨⟨⟨⟨⟨h0,h1⟩,h2⟩,h3⟩,h4⟩,h5⟩,h6⟩,h7⟩,h8⟩,h9⟩,h10⟩,h11⟩,h12⟩:=h;have ihe:=snds es X sc N _ T.hN T.hs T.pf h10;have hN:=T.hN;have hs:=T.hs;subst hN hs;have w1:=isPb_ok h12;have w2:=isPo_ok h11;rw[<- sws_dum] at w1;rw[<- swp_dum] at w2;exact(ds_par3 (T.pf.calm h0) T.nd (of_decide_eq_true h1) (of_decide_eq_true h2) (of_decide_eq_true h3) (of_decide_eq_true h4) (of_decide_eq_true h5) (of_decide_eq_true h6) (isLoc_ok h7) (isLoc_ok h8) (isLoc_ok h9) ihe w2 w1).congr fun env S=>by simp only[exe]
theorem snd_aset{o i e:Ex}{ts:List Expr}{v:Expr}{p:Pos}(T:TopOk cm F G fns gns X sc N)(h:asetM cm fns gns sc N o i e v p ts=true):DS X (.Assign ts v p) false (exe F G (.aset o i e)):=by
 obtain⟨t,k1,hq1⟩:=any_some h;obtain⟨⟨ox,ix⟩,k2,hq2⟩:=any_some hq1;clear h hq1;have h:=hq2; clear hq2;have k3:=one1_ok k1;obtain⟨sp,k4⟩:=vSub_ok k2;dsimp only at k4;subst k4 k3
 ·iterate 5 rw[bA0] at h
  obtain⟨⟨⟨⟨⟨h1,h2⟩,h3⟩,h4⟩,h5⟩,h6⟩:=h;have w1:=isPb_ok h5;have w2:=isPo_ok h6;rw[<- T.hs] at w1 w2;rw[<- sws_dum] at w1;rw[<- swp_dum] at w2;exact((ds_aset (snd e X sc N v T.hN T.hs T.pf h4).1 (snd o X sc N _ T.hN T.hs T.pf h2).1 (snd i X sc N _ T.hN T.hs T.pf h3).1 w1 w2 (assign_plain h1)).weak (na2:=false) fun z=>nomatch z).congr fun env S=>by simp only[exe]
theorem snd_aug{i:Nat}{op:Bo}{e:Ex}{t:Expr}{o:Operator}{v:Expr}{p:Pos}(T:TopOk cm F G fns gns X sc N)(h:(augM sc N i t && isBo op o && mt cm fns gns sc N e v)=true):DS X (.AugAssign t o v p) false (exe F G (.aug i op e)):=by
 simp only[bA0] at h;obtain⟨⟨h1,h2⟩,h3⟩:=h;obtain⟨x,k1,hq⟩:=any_some h1;clear h1;have h1:=hq; clear hq;obtain⟨px,k2⟩:=vNm_ok k1;subst k2;have e1:=isBo_ok h2;subst e1
 ·rw[bA0,decide_eq_true_eq] at h1
  obtain⟨l1,l2⟩:=locB_ok (X:=X) T.hs (fun _=>T.fn) h1.2
  have ihe:=(snd e X sc N v T.hN T.hs T.pf h3).1;have hN:=T.hN;have hs:=T.hs;subst hN hs;exact(ds_aug T.nd h1.1 l1 l2 ihe).congr fun env S=>by simp only[exe] <;> rfl
theorem snd_ret{e:Ex}{v:Option Expr}{p:Pos}(T:TopOk cm F G fns gns X sc N)(h:(v.any fun v=>mt cm fns gns sc N e v)=true):DS X (.Return v p) true (exe F G (.ret e)):=by
 obtain⟨v,rfl,h⟩:=any_some h;exact(ds_ret (snd e X sc N v T.hN T.hs T.pf h).1).congr fun env S=>by simp only[exe]
theorem snd_rse{c:Nat}{e:Ex}{v w:Option Expr}{p:Pos}(T:TopOk cm F G fns gns X sc N)(h0:cm=true)(h:rseM cm fns gns sc N c e v w=true):DS X (.Raise v w p) true (exe F G (.rse c e)):=by
 unfold rseM at h;rw[bA0] at h;obtain⟨hw,h⟩:=h;cases w with
 | some _=>cases hw
 | none =>
  obtain⟨r,er,hq⟩:=any_some h;obtain⟨x,px,y,ys,cp,er2,hq2⟩:=cal_nm hq;clear h hq;have h:=hq2; clear hq2;subst er2 er
  iterate 5 rw[bA0] at h
  obtain⟨⟨⟨⟨⟨h1,h2⟩,h3⟩,h4⟩,h6⟩,h5⟩:=h;have h1:=of_decide_eq_true h1;have e6:=List.isEmpty_iff.mp h6;dsimp only at e6;subst e6;obtain⟨C,k1,k2⟩:=T.pf.err.at_ c x h1;exact(ds_rse (T.pf.calm h0) h1 k2 (T.pf.err.cls c C k1).1 (glB_ok T.hs h2) (okNm_ok h3).1 (snd e X sc N y T.hN T.hs T.pf h5).1 h4).congr fun env S=>by simp only[exe]
mutual
theorem sndS{cm:Bool}{X:Cx}:∀ (x:St) (st:Stmt),TopOk cm F G fns gns X sc N->mtS fns gns sc N cm x st=true->DS X st (nasg x) (exe F G x)
 | .nev,st,T,h=>ds_nev
 | .asg (.var i) e,st,T,h=>by
  simp only[mtS] at h;obtain⟨z,h1,hq⟩:=any_some h;clear h; have h:=hq; clear hq;rw[vAsg_ok h1];exact snd_asgv T h
 | .asg (.tup is) e,st,T,h=>by
  simp only[mtS] at h;obtain⟨z,h1,hq⟩:=any_some h;clear h; have h:=hq; clear hq;rw[vAsg_ok h1];exact snd_asgt T h
 | .par is es,st,T,h=>by
  simp only[mtS] at h;obtain⟨z,h1,hq⟩:=any_some h;clear h; have h:=hq; clear hq;rw[vAsg_ok h1];exact snd_par T h
 | .aset o i e,st,T,h=>by
  simp only[mtS] at h;obtain⟨z,h1,hq⟩:=any_some h;clear h; have h:=hq; clear hq;rw[vAsg_ok h1];exact snd_aset T h
 | .aug i op e,st,T,h=>by
  simp only[mtS] at h;obtain⟨z,h1,hq⟩:=any_some h;clear h; have h:=hq; clear hq;rw[vAug_ok h1];exact snd_aug T h
 | .expr e,st,T,h=>by
  simp only[mtS] at h;obtain⟨z,h1,hq⟩:=any_some h;clear h; have h:=hq; clear hq;rw[vExp_ok h1];rw[bA0] at h;have w1:=isPb_ok h.1;rw[<- T.hs,<- sw_dum] at w1;exact(ds_expr (snd e X sc N z.1 T.hN T.hs T.pf h.2).1 w1).congr fun env S=>by simp only[exe]
 | .ret e,st,T,h=>by
  simp only[mtS] at h;obtain⟨z,h1,hq⟩:=any_some h;clear h; have h:=hq; clear hq;obtain⟨p,rfl⟩:=vRet_ok h1;exact snd_ret T h
 | .ite c a b,st,T,h=>by
  simp only[mtS] at h;obtain⟨z,h1,hq⟩:=any_some h;clear h; have h:=hq; clear hq;obtain⟨p,rfl⟩:=vIfS_ok h1;rw[bA0,bA0] at h;exact(ds_if (snd c X sc N z.1 T.hN T.hs T.pf h.1.1).2 (sndSs a z.2.1 T h.1.2) (sndSs b z.2.2 T h.2)).congr fun env S=>by simp only[exe] <;> rfl
 | .for t it b,st,T,h=>by
  simp only[mtS] at h;obtain⟨⟨tg,iter,body,oe⟩,h1,hq⟩:=any_some h;clear h; have h:=hq; clear hq;obtain⟨p,rfl⟩:=vFor_ok h1
  iterate 6 rw[bA0] at h
  obtain⟨⟨⟨⟨⟨⟨h0,h1⟩,h2⟩,h3⟩,h4⟩,h5⟩,h6⟩:=h;have e1:=List.isEmpty_iff.mp h1;dsimp only at e1;subst e1;have hg:=dgB (top:=true) T.hN T.hs T.nd (fun _=>T.pf.calm h0) (fun _=>T.fn) h3
  exact(ds_for (T.pf.calm h0) (sndi it X sc N tg iter T.hN T.hs T.pf (tg_tup h6 h3) h4) hg (sndSs b body T h5) (noSet_ok h2)).congr fun env S=>by simp only[exe]
 | .whl c b,st,T,h=>by
  simp only[mtS] at h;obtain⟨⟨cx,body,oe⟩,h1,hq⟩:=any_some h;clear h; have h:=hq; clear hq;obtain⟨p,rfl⟩:=vWhl_ok h1;rw[bA0,bA0] at h;obtain⟨⟨h1,h2⟩,h3⟩:=h;have e1:=List.isEmpty_iff.mp h1;dsimp only at e1;subst e1;exact(ds_whl (snd c X sc N cx T.hN T.hs T.pf h2).2 (sndSs b body T h3)).congr fun env S=>by simp only[exe] <;> rfl
 | .rse c e,st,T,h=>by
  simp only[mtS] at h;obtain⟨z,h1,hq⟩:=any_some h;clear h; have h:=hq; clear hq;obtain⟨p,rfl⟩:=vRse_ok h1;rw[bA0] at h;exact snd_rse T h.1 h.2
 | .try b c i hd,st,T,h=>by
  simp only[mtS] at h;obtain⟨⟨body,hs,oe,fb⟩,k1,hq⟩:=any_some h;clear h; have h:=hq; clear hq;obtain⟨y,k2,hq⟩:=any_some h;clear h; have h:=hq; clear hq;obtain⟨⟨te,n,b0,su⟩,k3,hq⟩:=any_some h;clear h; have h:=hq; clear hq;obtain⟨x,k4,hq⟩:=any_some h;clear h; have h:=hq; clear hq;obtain⟨p,e1⟩:=vTry_ok k1;have e2:=one1_ok k2;obtain⟨hp,e3⟩:=vHnd_ok k3;obtain⟨np,e4⟩:=vNm_ok k4;dsimp only at e1 e2 e3 e4;subst e4 e3 e2 e1
  iterate 9 rw[bA0] at h
  obtain⟨⟨⟨⟨⟨⟨⟨⟨⟨h1,h2⟩,h3⟩,h4⟩,h5⟩,h6⟩,h7⟩,h8⟩,h9⟩,h10⟩:=h;have e1:=List.isEmpty_iff.mp h1;have e2:=List.isEmpty_iff.mp h2;have h4:=of_decide_eq_true h4;have h7:=of_decide_eq_true h7;dsimp only at e1 e2 h7;subst e1 e2;have ib:=sndSs b body T h9;rw[h3] at ib;have ih:∀ a,DSs (Z.inH X a) (b0 :: su) (nasgs hd) (exes F G hd):=fun a=>sndSs hd (b0 :: su) (T.inH a) h10
  obtain⟨C0,k1,k2⟩:=T.pf.err.at_ c x h4;have hN:=T.hN;have hs:=T.hs;subst hN hs;refine(ds_try (c:=c) T.stk T.frm T.nd h7 (isLoc_ok h8) k2 (glB_ok rfl h5) (okNm_ok h6).1 (fun c' C e1 e2=>(T.pf.err.sub c' C c C0 e1 k1).2 e2) ib ih).congr fun env S=>?_
  simp only[exe,h3,if_true,tryR]
  all_goals rfl
 | .pass,st,T,h=>by
  simp only[mtS,beq_iff_eq] at h;obtain⟨p,rfl⟩:=vEnd_ok.1 h;exact ds_pass.congr fun env S=>by simp only[exe]
 | .brk,st,T,h=>by
  simp only[mtS,beq_iff_eq] at h;obtain⟨p,rfl⟩:=vEnd_ok.2.1 h;exact ds_brk.congr fun env S=>by simp only[exe]
 | .cnt,st,T,h=>by
  simp only[mtS,beq_iff_eq] at h;obtain⟨p,rfl⟩:=vEnd_ok.2.2 h;exact ds_cnt.congr fun env S=>by simp only[exe]
theorem sndSs{cm:Bool}{X:Cx}:∀ (x:Sts) (st:List Stmt),TopOk cm F G fns gns X sc N->mtSs fns gns sc N cm x st=true->DSs X st (nasgs x) (exes F G x)
 | .nil,[],T,h=>dss_nil.congr fun env S=>by simp only[exes]
 | .cons s ss,x :: xs,T,h=>by
  have h':(mtS fns gns sc N cm s x && mtSs fns gns sc N cm ss xs)=true:=h;rw[bA0] at h';exact(dss_cons (sndS s x T h'.1) (sndSs ss xs T h'.2)).congr fun env S=>by simp only[exes] <;> rfl
 | .nil,_ :: _,T,h=>by cases h
 | .cons _ _,[],T,h=>by cases h
end
end
end Z
end
section
namespace Z
open PySem PySem.Spec PyProof.Rows L2
noncomputable def fnScB(N ps:List Str)(sc:Scope):Bool:=isFn sc.kind && !sc.isCoroutine && !sc.isGenerator && nodupB N && decide (N.take ps.length=ps) && ps.all (fun x=>match sc.names.lookup x with | some .local=>true | some .cell=>true | _=>false) && sc.names.all (fun y=>match y.2 with | .free=>false | _=>true)
theorem fnScB_ok{N ps:List Str}{sc:Scope}(h:fnScB N ps sc=true):FnScope N ps sc:=by
 simp only[fnScB,bA0,Bool.not_eq_true',decide_eq_true_eq] at h;obtain⟨⟨⟨⟨⟨⟨h1,h2⟩,h3⟩,h4⟩,h5⟩,h6⟩,h7⟩:=h;refine⟨isFn_ok h1,h2,h3,nodupB_ok h4,h5,fun x hx=>?_,fun y hy e=>?_⟩
 ·have:=List.all_eq_true.mp h6 x hx
  split at this
  ·exact .inl (by assumption)
  ·exact .inr (by assumption)
  ·cases this
 ·have:=List.all_eq_true.mp h7 y hy
  rw[e] at this;cases this
structure DefOk(K:PySem.W.Frag)(mg:Str->Option Value)(fns:List (Str×Nat×Bool))(gns:List Str)(d:Df)(nm:Str)(ar:Nat)(fl:Bool):Prop where
 ex:∃ g fd st qual N ps,Fun K nm qual st g fd/\mg nm=some (.ref g)/\fnScB N ps (defScope st)=true/\mtSs fns gns (defScope st) N fl d.body (defBody st)=true/\d.np=ps.length/\d.nl=N.length/\ps.length=ar/\Binds K fd ps []
section
variable{P:Program}{w:World}{K:PySem.W.Frag}{mg:Str->Option Value}{base:Heap}{T:List Df}{G:List D}{fns:List (Str×Nat×Bool)}{gns:List Str}
theorem def_step(hcl:∀ (f:Nat) (nm:Str),fnIn f nm G=true->∃ ar fl,fns[f]?=some (nm,ar,fl)/\(∀ a,PySem.W.nsIn K mainGlobals nm=some (some (.ref a))->mg nm=some (.ref a))/\∀ k xs S,FT T G k f xs S≠.bad->xs.length=ar)(er:ErrOk K)(hb:∀ x∈blts,mg x=none)(hg:∀ (k:Nat) nm,gns[k]?=some nm->∃ u d,mg nm=some u/\G[k]?=some d/\∀ ρ H,∃ v,RelV v u/\RD K ρ H d v){k:Nat}
  (ih:∀ (f:Nat) nm ar fl,fns[f]?=some (nm,ar,fl)->∃ g fd ps,FnD fl P w K mg base k g fd ps (FT T G k f)/\Binds K fd ps []/\mg nm=some (.ref g)/\PySem.W.keepIn K (.ref g)=true/\ps.length=ar)
  {f:Nat} {nm qual:Str} {fl:Bool} {d:Df} {g:Addr} {fd:FuncData} {st:Stmt} {N ps:List Str} (hT:T[f]?=some d) (F:Fun K nm qual st g fd) (hS:fnScB N ps (defScope st)=true) (hM:mtSs fns gns (defScope st) N fl d.body (defBody st)=true) (hp:d.np=ps.length) (hn:d.nl=N.length) :
  FnD fl P w K mg base (k + 1) g fd ps (FT T G (k + 1) f):=by
 obtain⟨oc,od,kV,doc,pm,an,cdv,ct,osl,rfl,lk,hcd⟩:=F.ex;have hS':=fnScB_ok hS;have key:=fn_ofD (cm:=fl) (P:=P) (w:=w) (mg:=mg) (base:=base) (k:=k) (G:=exes (FT T G k) G d.body) (na:=nasgs d.body) lk hcd hS' fun A outer s H E hr=>by
  refine sndSs (fns:=fns) (gns:=gns) (sc:=defScope st) (N:=N) d.body (defBody st) ⟨rfl,rfl,hS'.nd,fun _=>rfl,⟨hb,fun f nm ar fl' h hfl=>?_,hg,fun f nm h=>let ⟨ar,fl,h1,h2,h3⟩:=hcl f nm h; ⟨ar,fl,h1,h2,h3 k⟩,?_,hr.gd,id,er⟩,rfl,rfl⟩ hM
  ·obtain⟨g,fd,ps,h1,h2,h3,h4,h5⟩:=ih f nm ar fl' h
   exact⟨g,fd,ps,k,h1,hr.less hfl,h2,h3,h4,h5⟩
  ·have:=hr.un
   show(A.deeper _).units + 200 < cLine;omega
 have e:FT T G (k + 1) f=(fun ds S=>if ds.length=ps.length then
  match exes (FT T G k) G d.body (ds.map some++List.replicate (N.length - ps.length) none) S with
  | .ok (.rt v) S=>.ok v S
  | .ok (.nx _) S=>.ok .non S
  | .ok _ _=>.bad
  | .ex n S=>.ex n S
  | .bad=>.bad else .bad):=by
  funext ds S
  simp only[FT,hT,den,hp,hn]
  all_goals rfl
 rw[e];exact key
theorem table(hcl:∀ (f:Nat) (nm:Str),fnIn f nm G=true->∃ ar fl,fns[f]?=some (nm,ar,fl)/\(∀ a,PySem.W.nsIn K mainGlobals nm=some (some (.ref a))->mg nm=some (.ref a))/\∀ k xs S,FT T G k f xs S≠.bad->xs.length=ar)(er:ErrOk K)(hb:∀ x∈blts,mg x=none)(hg:∀ (k:Nat) nm,gns[k]?=some nm->∃ u d,mg nm=some u/\G[k]?=some d/\∀ ρ H,∃ v,RelV v u/\RD K ρ H d v)
  (hd:∀ (f:Nat) nm ar fl,fns[f]?=some (nm,ar,fl)->∃ d,T[f]?=some d/\DefOk K mg fns gns d nm ar fl) :
  ∀ (k f:Nat) nm ar fl,fns[f]?=some (nm,ar,fl)->∃ g fd ps,FnD fl P w K mg base k g fd ps (FT T G k f)/\Binds K fd ps []/\mg nm=some (.ref g)/\PySem.W.keepIn K (.ref g)=true/\ps.length=ar:=by
 intro k
 induction k with
 | zero =>
  intro f nm ar fl h;obtain⟨d,_,⟨g,fd,st,qual,N,ps,F,hm,_,_,_,_,hl,hB⟩⟩:=hd f nm ar fl h;refine⟨g,fd,ps,⟨fun A outer s H args us vs Q E _ _ _ _ hsp=>?_⟩,hB,hm,F.kp,hl⟩
  obtain⟨ds,ρ,S',_,_,_,nb,_⟩:=hsp;exact absurd rfl nb
 | succ k ih =>
  intro f nm ar fl h;obtain⟨d,hT,⟨g,fd,st,qual,N,ps,F,hm,hS,hM,hp,hn,hl,hB⟩⟩:=hd f nm ar fl h;exact⟨g,fd,ps,def_step hcl er hb hg ih hT F hS hM hp hn,hB,hm,F.kp,hl⟩
end
structure FunAt(K:PySem.W.Frag)(nm:Str)(st:Stmt):Prop where
 ex:∃ g fd,Fun K nm nm st g fd/\PySem.W.nsIn K mainGlobals nm=some (some (.ref g))
theorem funAt_mk{K:PySem.W.Frag}{nm:Str}{st:Stmt}{f:Addr}{oc:Value}{od an:Option Addr}{osl:Array (Option Value)}{kV doc pm cdv ct:Value}(a:PySem.W.nsIn K mainGlobals nm=some (some (.ref f)))
  (l:K.lookup f=some ⟨oc,od,.func (PySem.W.fnOf nm nm (defArgs st) (defBody st) (defScope st) .none kV doc pm an cdv ct),osl⟩) (c:PySem.W.codeIn K cdv nm=true) (k:PySem.W.keepIn K (.ref f)=true):FunAt K nm st:=⟨⟨f,_,fun_mk l c k,a⟩⟩
def BindB(nm:Str)(st:Stmt)(ps:List Str):Prop:=∀ (kV doc pm:Value) (an:Option Addr) (cdv ct:Value) (us:List Value),us.length=ps.length->bindArgs (PySem.W.fnOf nm nm (defArgs st) (defBody st) (defScope st) .none kV doc pm an cdv ct) ⟨us,[]⟩=pure (ps.zip us)
theorem defOk_mk{K:PySem.W.Frag}{h:Heap}{mg:Str->Option Value}{fns:List (Str×Nat×Bool)}{gns:List Str}{d:Df}{nm:Str}{ar:Nat}{fl:Bool}{st:Stmt}{N ps:List Str}(X:K.In h)(Gm:h.Ns mainGlobals mg)(F:FunAt K nm st)
  (hS:fnScB N ps (defScope st)=true) (hM:mtSs fns gns (defScope st) N fl d.body (defBody st)=true) (hp:d.np=ps.length) (hn:d.nl=N.length) (hl:ps.length=ar) (hB:BindB nm st ps):DefOk K mg fns gns d nm ar fl:=by
 obtain⟨g,fd,h1,h2⟩:=F.ex;exact⟨g,fd,st,nm,N,ps,h1,PySem.W.mg_of X Gm h2,hS,hM,hp,hn,hl,h1.binds hB⟩
noncomputable def bltB(K:PySem.W.Frag):Bool:=blts.all fun x=>match PySem.W.nsIn K mainGlobals x with
 | some none=>true
 | _=>false
theorem bltB_ok{K:PySem.W.Frag}{h:Heap}{mg:Str->Option Value}(X:K.In h)(Gm:h.Ns mainGlobals mg)(e:bltB K=true):∀ x∈blts,mg x=none:=fun x hx=>by
 have:=List.all_eq_true.mp e x hx;split at this
 ·rename_i q; exact PySem.W.mg_none_of X Gm q
 ·cases this
theorem glb_int{K:PySem.W.Frag}{h:Heap}{mg:Str->Option Value}{nm:Str}{i:Int}{t:Tok}(X:K.In h)(Gm:h.Ns mainGlobals mg)(e:PySem.W.nsIn K mainGlobals nm=some (some (.int i t))):∃ u d,mg nm=some u/\some (D.int i)=some d/\∀ ρ H,∃ v,RelV v u/\RD K ρ H d v :=
 ⟨_,_,PySem.W.mg_of X Gm e,rfl,fun _ _=>⟨.int i,⟨t,rfl⟩,by simp only[RD]⟩⟩
theorem glb_fn{K:PySem.W.Frag}{h:Heap}{mg:Str->Option Value}{nm:Str}{st:Stmt}{f:Nat}(X:K.In h)(Gm:h.Ns mainGlobals mg)(F:FunAt K nm st):∃ u d,mg nm=some u/\some (D.fn f nm)=some d/\∀ ρ H,∃ v,RelV v u/\RD K ρ H d v:=by
 obtain⟨g,fd,_,h2⟩:=F.ex;exact⟨_,_,PySem.W.mg_of X Gm h2,rfl,fun _ _=>⟨.ref g,rfl,by simp only[RD]; exact⟨g,rfl,h2⟩⟩⟩
noncomputable def calB(fns:List (Str×Nat×Bool)):List D->Bool
 | []=>true
 | .fn f nm :: r=>(match fns[f]? with | some (m,_,_)=>decide (m=nm) | none=>false) && calB fns r
 | _ :: r=>calB fns r
theorem calB_ok{fns:List (Str×Nat×Bool)}{f:Nat}{nm:Str}:∀ {G:List D},calB fns G=true->fnIn f nm G=true->∃ ar fl,fns[f]?=some (nm,ar,fl)
 | [],_,h=>by cases h
 | d :: r,hc,h=>by
  cases d with
  | fn g m =>
   simp only[calB,bA0] at hc;simp only[fnIn,Bool.or_eq_true,bA0,beq_iff_eq,decide_eq_true_eq] at h;rcases h with⟨rfl,rfl⟩ | h
   ·have h1:=hc.1
    split at h1
    ·rename_i m' ar fl e
     have:=of_decide_eq_true h1;subst this;exact⟨ar,fl,e⟩
    ·cases h1
   ·exact calB_ok hc.2 h
  | _=>exact calB_ok (by simpa only[calB] using hc) (by simpa only[fnIn] using h)
theorem ft_len{T:List Df}{G:List D}{f:Nat}{d:Df}(hT:T[f]?=some d):∀ (k:Nat) (xs:List D) (S:Sto),FT T G k f xs S≠.bad->xs.length=d.np
 | 0,xs,S,h=>absurd rfl h
 | k + 1,xs,S,h=>by
  simp only[FT,hT,den] at h;split at h
  ·assumption
  ·exact absurd rfl h
theorem law_fn {P:Program} {w:World} {K:PySem.W.Frag} {h:Heap} {mg:Str->Option Value} {T:List Df} {G:List D} {fns:List (Str×Nat×Bool)} {gns:List Str} {fa:Addr} {k f:Nat} {d:Df} {st:Stmt} {N:List Str} {x:Str} (X:K.In h) (Gm:h.Ns mainGlobals mg) (hfa:mg "law" = some (.ref fa))
  (er:ErrOk K) (hb:∀ x∈blts,mg x=none) (hg:∀ (k:Nat) nm,gns[k]?=some nm->∃ u d,mg nm=some u/\G[k]?=some d/\∀ ρ H,∃ v,RelV v u/\RD K ρ H d v)
  (hd:∀ (f:Nat) nm ar fl,fns[f]?=some (nm,ar,fl)->∃ d,T[f]?=some d/\DefOk K mg fns gns d nm ar fl)
  (hT:T[f]?=some d) (F:FunAt K "law" st) (hS:fnScB N [x] (defScope st)=true) (hM:mtSs fns gns (defScope st) N true d.body (defBody st)=true) (hp:d.np=1) (hn:d.nl=N.length) (hB:BindB "law" st [x]) (hcb:calB fns G=true:=by rfl) :
  ∃ fd:FuncData,(∀ (s:Shared) (u:Value),BindsTo s fd ⟨[u],[]⟩ [(x,u)])/\∀ base:Heap,K.In base->base.Ns mainGlobals mg->FnOk P w K mg base (CXd P w) (k + 1) fa fd [x] (spD K 1 (FT T G (k + 1) f)):=by
 obtain⟨g,fd,h1,h2⟩:=F.ex;have e:=hfa.symm.trans (PySem.W.mg_of X Gm h2);cases e;refine⟨fd,fun s u=>?_,fun base _ _=>?_⟩
 ·obtain⟨oc,od,kV,doc,pm,an,cdv,ct,osl,rfl,_⟩:=h1.ex
  exact .of_eq (hB kV doc pm an cdv ct [u] rfl)
 ·have hcl:∀ (f:Nat) (nm:Str),fnIn f nm G=true->∃ ar fl,fns[f]?=some (nm,ar,fl)/\(∀ a,PySem.W.nsIn K mainGlobals nm=some (some (.ref a))->mg nm=some (.ref a))/\∀ k xs S,FT T G k f xs S≠.bad->xs.length=ar:=fun f nm h=>by
   obtain⟨ar,fl,q⟩:=calB_ok hcb h;obtain⟨d',hT',⟨_,_,_,_,_,ps',_,_,_,_,e1,_,e2,_⟩⟩:=hd f nm ar fl q;exact⟨ar,fl,q,fun a z=>PySem.W.mg_of X Gm z,fun k xs S z=>by rw[ft_len hT' k xs S z,e1,e2]⟩
  have:=def_step (P:=P) (w:=w) (base:=base) hcl er hb hg (fun f nm ar fl q=>table hcl er hb hg hd k f nm ar fl q) hT h1 hS hM hp hn
  exact⟨fun vs H Q E z=>let ⟨_,_,_,q,_⟩:=z; q,fun A outer s H args us vs Q E hr=>this.run A outer s H args us vs Q E (.of hr)⟩
theorem law_sp{K:PySem.W.Frag}{F:List D->Sto->R D}{H:Hp}{a:Addr}{ns:List Int}(hO:Only H)(hS:SqL K H a (ns.map V.int))(hF:∃ S',F [.fro (ns.map D.int)] []=.ok (.bl true) S') :
  spD K 1 F [.ref a] H (fun v _=>v=.bl true) fun _ _ _=>False:=by
 obtain⟨S',e⟩:=hF;have hfr:FrL K H a (ns.map V.int):=by
  rcases hS with(h | ⟨o,h⟩) | h
  ·rcases hO a with z | ⟨o,xs,z⟩
   ·rw[h] at z; cases z
   ·rw[h] at z; cases z
  ·exact .inl ⟨o,h⟩
  ·exact .inr h
 refine⟨[.fro (ns.map D.int)],[],[],rfl,.cons ?_ .nil,⟨rfl,List.nodup_nil,fun n a o q=>by simp at q⟩,(by rw[e]; exact fun z=>nomatch z),fun d S2 v H' ρ' q rd _ _=>?_,fun n c S2 a H' ρ' q=>?_⟩
 ·simp only[RD]
  exact⟨a,_,rfl,hfr,RDs.ints ns⟩
 ·rw[e] at q; cases q
  simpa only[RD] using rd
 ·rw[e] at q; cases q
theorem law_cx{P:Program}{w:World}(H:Hp)(s:Shared)(e:Value)(s':Shared)(z:CXd P w [] H s (fun _ _ _=>False) e s'):False:=by
 obtain⟨_,_,_,_,_,_,q⟩:=z;exact q
theorem walk_z{l:PySem.W.OpenLaw}{q:Program}{loose:List Str}{XP:(Str->Option Value)->Heap->Prop}{YP:World->Heap->Prop}{d:DefRec}{K:Params->PySem.W.Frag}{T:List Df}{G:List D}{k f:Nat}{x:Str}(hn:l.most=some 63)(hdf:d.params.defaults=[])(hr:Room k callerA)
  (hY:∀ (w:World) (h:Heap),YP w h->(K w.params).In h)
  (F:∀ (w:World) (mg:Str->Option Value) (fa:Addr) (h:Heap),(K w.params).In h->h.Ns mainGlobals mg->mg d.name=some (.ref fa) ->
   ∃ fd:FuncData,(∀ (s:Shared) (u:Value),BindsTo s fd ⟨[u],[]⟩ [(x,u)])/\∀ base:Heap,(K w.params).In base->base.Ns mainGlobals mg->FnOk l.prog w (K w.params) mg base (CXd l.prog w) k fa fd [x] (spD (K w.params) 1 (FT T G k f)))
  (hL:∀ ns:List Int,ns.length<=63->∃ S',FT T G k f [.fro (ns.map D.int)] []=.ok (.bl true) S') :
  PySem.W.WalkO q loose XP YP l.row.toRowW d [] (fun f vs=>PySem.call f vs) :=
 L2.walk_of (n:=63) (k:=k) (x:=x) (CX:=fun w=>CXd l.prog w) (sp:=fun w=>spD (K w.params) 1 (FT T G k f)) hn (by decide) hdf hr hY F (fun _ _ _ ns hl hO hS=>law_sp hO hS (hL ns hl)) fun _ H s e s' z=>law_cx H s e s' z
end Z
end
section
namespace Z
open PySem
section
variable{F:Fn}{G:List D}{s:St}{ss:Sts}{env e:En}{S S1:Sto}
theorem exes_nx(h:exe F G s env S=.ok (.nx e) S1):exes F G (.cons s ss) env S=exes F G ss e S1:=by simp only[exes,h]
theorem exes_rt{d:D}(h:exe F G s env S=.ok (.rt d) S1):exes F G (.cons s ss) env S=.ok (.rt d) S1:=by simp only[exes,h]
theorem exes_ex{n:Nat}(h:exe F G s env S=.ex n S1):exes F G (.cons s ss) env S=.ex n S1:=by simp only[exes,h]
theorem floop_inv{get:Sto->Nat->Option (Option D)}{t:Tg}{body:En->Sto->R Fl}(xs:List D)(P:Nat->En->Sto->Prop)(hget:∀ i e S,P i e S->get S i=some xs[i]?)
  (step:∀ i d e S,xs[i]?=some d->P i e S->∃ e1 e2 S2,setTg t d e=some e1/\body e1 S=.ok (.nx e2) S2/\P (i + 1) e2 S2) :
  ∀ (fuel i:Nat) (e:En) (S:Sto),P i e S->i<=xs.length->xs.length < fuel + i->∃ e' S',floop get t body fuel i e S=.ok (.nx e') S'/\P xs.length e' S'
 | 0,i,e,S,h,h1,h2=>by omega
 | fuel + 1,i,e,S,h,h1,h2=>by
  cases q:xs[i]? with
  | none =>
   have hi:i=xs.length:=by
    have:=List.getElem?_eq_none_iff.mp q;omega
   refine⟨e,S,?_,hi ▸ h⟩;simp only[floop,hget i e S h,q]
  | some d =>
   obtain⟨e1,e2,S2,a1,a2,a3⟩:=step i d e S q h;have hi:i < xs.length:=(List.getElem?_eq_some_iff.mp q).1;obtain⟨e',S',b1,b2⟩:=floop_inv xs P hget step fuel (i + 1) e2 S2 a3 (by omega) (by omega)
   refine⟨e',S',?_,b2⟩;simp only[floop,hget i e S h,q,a1,a2];exact b1
theorem exe_rng{t:Tg}{es:Exs}{b:Sts}{ds xs:List D}(P:Nat->En->Sto->Prop)(h1:evs F G es env S=.ok ds S1)(h2:rngD ds=some xs)(h0:P 0 env S1)
  (step:∀ i d e S,xs[i]?=some d->P i e S->∃ e1 e2 S2,setTg t d e=some e1/\exes F G b e1 S=.ok (.nx e2) S2/\P (i + 1) e2 S2) :
  ∃ e' S',exe F G (.for t (.rng es) b) env S=.ok (.nx e') S'/\P xs.length e' S':=by
 obtain⟨e',S',a,b'⟩:=floop_inv (get:=(Src.con xs).get) (t:=t) (body:=fun env S=>exes F G b env S) xs P (fun _ _ _ _=>rfl) step (xs.length + 1) 0 env S1 h0 (Nat.zero_le _) (by omega)
 refine⟨e',S',?_,b'⟩;simp only[exe,evit,h1,Rk0,h2,Src.most];exact a
end
theorem rng1_get{m:Int}{xs:List D}(h:rngD [.int m]=some xs){i:Nat}{d:D}(q:xs[i]?=some d):d=.int i/\i < m.toNat:=by
 simp only[rngD] at h;split at h
 ·cases h
  rw[List.getElem?_map] at q;cases z:(List.range m.toNat)[i]? with
  | none=>rw[z] at q; cases q
  | some j =>
   rw[z] at q;obtain⟨hi,e⟩:=List.getElem?_eq_some_iff.mp z;simp at e hi;subst e;simp at q;exact⟨q.symm,by omega⟩
 ·cases h
theorem rng1_some{m:Int}(h0:0<=m)(h:m < 1048576):∃ xs,rngD [.int m]=some xs/\xs.length=m.toNat:=by
 refine⟨_,by simp only[rngD]; rw[if_pos ⟨by omega,h⟩],by simp⟩
noncomputable def C:Nat->Nat->Nat
 | _,0=>1
 | 0,_ + 1=>0
 | n + 1,k + 1=>C n k + C n (k + 1)
theorem C_zero(n:Nat):C n 0=1:=by cases n <;> rfl
theorem C_gt:∀ (n k:Nat),n < k->C n k=0
 | 0,k + 1,_=>rfl
 | n + 1,k + 1,h=>by simp only[C]; rw[C_gt n k (by omega),C_gt n (k + 1) (by omega)]
theorem C_step:∀ (n k:Nat),C n (k + 1) * (k + 1)=C n k * (n - k)
 | 0,k=>by simp[C]
 | n + 1,0=>by
  have:=C_step n 0;simp only[C_zero,Nat.sub_zero,Nat.one_mul,Nat.mul_one,Nat.zero_add] at this ⊢;simp only[C,C_zero];rw[this]; omega
 | n + 1,k + 1=>by
  have h1:=C_step n (k + 1);have h2:=C_step n k;have e:n + 1 - (k + 1)=n - k:=by omega
  rw[e];simp only[C]
  by_cases hk:k + 1<=n
  ·obtain⟨d,rfl⟩:∃ d,n=k + 1 + d:=⟨n - (k + 1),by omega⟩
   have e1:k + 1 + d - (k + 1)=d:=by omega
   have e2:k + 1 + d - k=d + 1:=by omega
   rw[e1] at h1;rw[e2] at h2 ⊢;rw[Nat.add_mul,Nat.add_mul,h1,<- h2,<- Nat.mul_add,<- Nat.mul_add];congr 1;omega
  ·rw[C_gt n (k + 1) (by omega),C_gt n (k + 1 + 1) (by omega),Nat.add_zero,Nat.add_zero,Nat.zero_mul]
   have:n - k=0:=by omega
   rw[this,Nat.mul_zero]
theorem C_int(n k:Nat):(C n k:Int) * ((n:Int) - k)=(C n (k + 1):Int) * ((k:Int) + 1):=by
 by_cases h:k<=n
 ·have:=C_step n k
  have e:((n - k:Nat):Int)=(n:Int) - k:=by omega
  rw[<- e];have e2:((k:Int) + 1)=((k + 1:Nat):Int):=by omega
  rw[e2,<- Int.natCast_mul,<- Int.natCast_mul,this]
 ·rw[C_gt n k (by omega),C_gt n (k + 1) (by omega)]; simp
theorem C_div(n k:Nat):((C n k:Int) * ((n:Int) - k)) / ((k:Int) + 1)=C n (k + 1):=by
 rw[C_int,Int.mul_ediv_cancel _ (by omega)]
noncomputable def fac:Nat->Nat
 | 0=>1
 | n + 1=>fac n * (n + 1)
theorem fac_pos:∀ n,0 < fac n
 | 0=>by decide
 | n + 1=>Nat.mul_pos (fac_pos n) (by omega)
theorem strOk_of(s:String):PyData.strOk (Str.ofString s)=true:=by
 rw[Str.ofString_eq_toList];unfold PyData.strOk;rw[<- Array.all_toList,List.all_eq_true];intro n hn;have hn':n∈s.toList.map Char.toNat:=by simpa using hn
 obtain⟨c,_,rfl⟩:=List.mem_map.mp hn';refine decide_eq_true ?_;have:=c.valid;rcases this with h | ⟨_,h⟩
 ·have:c.toNat < 0xd800:=h
  omega
 ·exact h
theorem ne_str{S:Sto}(s:String):cmpR .ne (.str (Str.ofString s)) (.str (Str.ofString s)) S=.ok (.bl false) S:=by
 simp only[cmpR,cmpD,eqD,twoS,datD,datF,PyData.canLay0,strOk_of,PyData.depth];simp[PyData.eqv]
theorem bin_add(i j:Int)(S:Sto):binD .add (.int i) (.int j) S=.ok (.int (i + j)) S:=rfl
theorem bin_sub(i j:Int)(S:Sto):binD .sub (.int i) (.int j) S=.ok (.int (i - j)) S:=rfl
theorem bin_mul{i j:Int}(h:mulOk i j=true)(S:Sto):binD .mul (.int i) (.int j) S=.ok (.int (i * j)) S:=by simp only[binD,h,if_true]
theorem bin_fdiv{i j:Int}(h:divOk j=true)(S:Sto):binD .fdiv (.int i) (.int j) S=.ok (.int (i / j)) S:=by simp only[binD,h,if_true]
theorem bin_mod{i j:Int}(h:0 < j)(S:Sto):binD .mod (.int i) (.int j) S=.ok (.int (i % j)) S:=by simp only[binD,h,if_true]
theorem bin_pow{i j:Int}(h:0<=j/\j<=1000/\i.natAbs < 2 ^ 63)(S:Sto):binD .pow (.int i) (.int j) S=.ok (.int (i ^ j.toNat)) S:=by simp only[binD,h,and_self,if_true]
theorem mul_okR{i j:Int}(h1:-1000000000000000 < j)(h2:j < 1000000000000000):mulOk i j=true:=by
 unfold mulOk;simp only[Bool.or_eq_true,bA0,decide_eq_true_eq];left; right;constructor <;> omega
theorem mul_okL{i j:Int}(h1:-1000000000000000 < i)(h2:i < 1000000000000000):mulOk i j=true:=by
 unfold mulOk;simp only[Bool.or_eq_true,bA0,decide_eq_true_eq];left; left;constructor <;> omega
theorem mul_okB{i j:Int}(h1:i.natAbs.log2 < 100000)(h2:j.natAbs.log2 < 100000):mulOk i j=true:=by
 unfold mulOk;simp only[Bool.or_eq_true,bA0,decide_eq_true_eq];right;exact⟨h1,h2⟩
end Z
end
section
namespace Z
open PySem PySem.W
section
variable(tb:String->Option Builtin)(p:Program)(w:World)(m:Nat)(ann:Option Value)
noncomputable def topT:Nat->SharedT->Thread->Option SharedT
 | 0,_,_=>none
 | n + 1,s,t=>match through t with
  | true=>some s
  | false=>match stepOk m ann t with
   | false=>none
   | true=>match stepT (denote tb) p w s t with
    | some (s',t')=>topT n s' t'
    | none=>none
end
theorem topT_of{tb:String->Option Builtin}{p:Program}{w:World}{m:Nat}{ann:Option Value}:∀ {n:Nat} {s s':SharedT} {t:Thread},topT tb p w m ann n s t=some s'->topRun tb p w m ann n s.abs t=some s'.abs
 | 0,_,_,_,h=>by cases h
 | n + 1,s,s',t,h=>by
  unfold topT at h;unfold topRun;cases ht:through t with
  | true=>rw[ht] at h; cases h; rfl
  | false =>
   rw[ht] at h;cases hk:stepOk m ann t with
   | false=>rw[hk] at h; cases h
   | true =>
    rw[hk] at h;cases hs:stepT (denote tb) p w s t with
    | none=>rw[hs] at h; cases h
    | some r=>obtain⟨a,b⟩:=r; rw[hs] at h; rw[stepT_spec hs]; exact topT_of h
noncomputable def tree0(P:Params):BT :=
 .node (boot_o_0 P) (.node (boot_o_1 P) (.node (boot_o_3 P) (.node (boot_o_7 P) .nil .nil) .nil) (.node (boot_o_5 P) (.node (boot_o_9 P) .nil .nil) .nil))
  (.node (boot_o_2 P) (.node (boot_o_4 P) (.node (boot_o_8 P) .nil .nil) .nil) (.node (boot_o_6 P) (.node (boot_o_10 P) .nil .nil) .nil))
noncomputable def life0:Life:={ debug:=0,thresholds:=[2000,10,10] }
theorem tree0_is(P:Params):absHeap (tree0 P) 11 life0=boot_heap P:=by kernel_rfl
theorem boot_size(P:Params):((boot_heap P).isNs mainGlobals && (Array.mk ([]:List GenState)).size == 0,(boot_heap P).objs.size,(boot_heap P).nsMap mainGlobals "__annotations__")=(true,11,some (.ref 6)):=by kernel_rfl
noncomputable def looksT{α:Type}(p q:Program)(loose:List Str)(Xt:Shared->Bool)(Yf:Shared->α)(P:Params)(s:Shared):=((staticsOk (importedModules p.main.body) (boot_heap P) s.heap && namesBound p s.heap && gensDone s && laidKept (boot_heap P) s.heap),openSeen q loose (importedModules p.main.body) Xt true s,Yf s)
theorem left_tree{p q:Program}{loose:List Str}{Xt:Shared->Bool}{α:Type}{Yf:Shared->α}{Ya:World->α}{N:Nat}
  (e:opening p=plainProg p.main.scope.names) (hN:Nat.ble 600 N=true) (f:∀ s,fenceModules? p s=some s)
  (all:∀ w os,(topT treeTable p w 11 (some (.ref 6)) N ⟨tree0 w.params,11,life0,Array.mk [],boot_drawn,boot_toks,os⟩ (topStub p)).map (fun s=>looksT p q loose Xt Yf w.params s.abs)=some (true,openGood q loose,Ya w)) :
  LeftO p q loose Xt Yf Ya N:=fun w=>by
 obtain⟨⟨h,gs,d,k,os⟩,e1,e2⟩:=Option.map_eq_some_iff.mp (boot_open e hN f w);obtain⟨rfl,rfl,rfl,rfl⟩:h=boot_heap w.params/\gs=Array.mk []/\d=boot_drawn/\k=boot_toks:=by simpa using e2
 obtain⟨z1,z2,z3⟩:_/\_/\_:=by simpa only[Prod.mk.injEq] using boot_size w.params
 obtain⟨s,r,l⟩:=Option.map_eq_some_iff.mp (all w os);have r':=topT_of r;have e0:SharedT.abs ⟨tree0 w.params,11,life0,Array.mk [],boot_drawn,boot_toks,os⟩=⟨boot_heap w.params,Array.mk [],boot_drawn,boot_toks,os⟩:=by
  unfold SharedT.abs;dsimp only;rw[tree0_is]
 rw[e0] at r';unfold looksT at l;obtain⟨l1,l2,l3⟩:_/\_/\_:=by simpa only[Prod.mk.injEq] using l
 have t:topFrom treeTable p w N ⟨boot_heap w.params,Array.mk [],boot_drawn,boot_toks,os⟩=some s.abs:=by
  unfold topFrom;dsimp only;rw[z1,z2,z3,r'];dsimp only[Option.bind];rw[l1]
 unfold openEnds;rw[e1];show(topFrom treeTable p w N _).map _=_;rw[t];exact congrArg some (Prod.ext l2 l3)
end Z
end
section
namespace Z
open PySem
mutual
noncomputable def sh(n:Nat):D->D
 | .non=>.non
 | .bl b=>.bl b
 | .int i=>.int i
 | .str x=>.str x
 | .tup xs=>.tup (shs n xs)
 | .ref k=>.ref (n + k)
 | .fro xs=>.fro (shs n xs)
 | .fn f nm=>.fn f nm
noncomputable def shs(n:Nat):List D->List D
 | []=>[]
 | x :: xs=>sh n x :: shs n xs
end
theorem shs_eq(n:Nat):∀ xs:List D,shs n xs=xs.map (sh n)
 | []=>rfl
 | x :: xs=>by simp only[shs,List.map,shs_eq n xs]
theorem sh_tup(n:Nat)(xs:List D):sh n (.tup xs)=.tup (xs.map (sh n)):=by simp only[sh,shs_eq]
theorem sh_fro(n:Nat)(xs:List D):sh n (.fro xs)=.fro (xs.map (sh n)):=by simp only[sh,shs_eq]
theorem sh_ref(n k:Nat):sh n (.ref k)=.ref (n + k):=by simp only[sh]
theorem sh_bl(n:Nat)(i:Bool):sh n (.bl i)=.bl i:=by simp only[sh]
theorem sh_non(n:Nat):sh n .non=.non:=by simp only[sh]
noncomputable def shO(n:Nat):O->O
 | .lst xs=>.lst (xs.map (sh n))
 | .set xs=>.set (xs.map (sh n))
 | .dct kvs=>.dct (kvs.map fun p=>(sh n p.1,sh n p.2))
 | .exc c=>.exc c
noncomputable def shS(P S:Sto):Sto:=P++S.map (shO P.length)
noncomputable def shE(n:Nat)(e:En):En:=e.map (Option.map (sh n))
noncomputable def shR{α β:Type}(P:Sto)(f:α->β):R α->R β
 | .ok a S=>.ok (f a) (shS P S)
 | .ex k S=>.ex (P.length + k) (shS P S)
 | .bad=>.bad
section
variable{P S:Sto}
theorem shS_len:(shS P S).length=P.length + S.length:=by simp[shS]
theorem shS_at(k:Nat):(shS P S)[P.length + k]?=(S[k]?).map (shO P.length):=by
 unfold shS;rw[List.getElem?_append_right (by omega),show P.length + k - P.length=k by omega,List.getElem?_map]
theorem shS_app(o:O):shS P (S++[o])=shS P S++[shO P.length o]:=by simp[shS]
theorem shS_set(k:Nat)(o:O):shS P (S.set k o)=(shS P S).set (P.length + k) (shO P.length o):=by
 unfold shS;rw[List.map_set,List.set_append_right (h:=by omega),show P.length + k - P.length=k by omega]
theorem lstAt_sh(k:Nat):lstAt (shS P S) (P.length + k)=(lstAt S k).map (·.map (sh P.length)):=by
 unfold lstAt;rw[shS_at];cases S[k]? with
 | none=>rfl
 | some o=>cases o <;> rfl
theorem lstM_sh(k:Nat):lstM (shS P S) (P.length + k)=(lstM S k).map (·.map (sh P.length)):=lstAt_sh k
theorem seqD_sh(d:D):seqD (shS P S) (sh P.length d)=(seqD S d).map (·.map (sh P.length)):=by
 cases d with
 | tup xs=>rw[sh_tup]; rfl
 | fro xs=>rw[sh_fro]; rfl
 | ref k=>rw[sh_ref]; exact lstAt_sh k
 | _=>simp only[sh,seqD,Option.map_none]
mutual
theorem datF_sh{n:Nat}{look look':Nat->Option PyData}(h:∀ k,look' (n + k)=look k):∀ d:D,datF look' (sh n d)=datF look d
 | .non=>by simp only[sh,datF]
 | .bl b=>by simp only[sh,datF]
 | .int i=>by simp only[sh,datF]
 | .str x=>by simp only[sh,datF]
 | .tup xs=>by simp only[sh,datF,datFs_sh h xs]
 | .fro xs=>by simp only[sh,datF]
 | .fn _ _=>by simp only[sh,datF]
 | .ref k=>by simp only[sh,datF,h]
theorem datFs_sh{n:Nat}{look look':Nat->Option PyData}(h:∀ k,look' (n + k)=look k):∀ ds:List D,datFs look' (shs n ds)=datFs look ds
 | []=>by simp only[shs,datFs]
 | d :: ds=>by simp only[shs,datFs,datF_sh h d,datFs_sh h ds]
end
theorem lookK_sh:∀ (k m:Nat),lookK (shS P S) k (P.length + m)=lookK S k m
 | 0,m=>rfl
 | k + 1,m=>by
  unfold lookK;rw[shS_at];cases S[m]? with
  | none=>rfl
  | some o =>
   cases o with
   | lst xs=>simp only[Option.map_some,shO]; rw[<- shs_eq,datFs_sh (fun j=>lookK_sh k j)]
   | dct kvs=>cases kvs <;> rfl
   | _=>rfl
theorem datD_sh(d:D):datD (shS P S) (sh P.length d)=datD S d:=datF_sh (fun k=>lookK_sh 4 k) d
theorem eqD_sh(x y:D):eqD (shS P S) (sh P.length x) (sh P.length y)=eqD S x y:=by
 have e:twoS (sh P.length x) (sh P.length y)=twoS x y:=by cases x <;> first | (cases y <;> rfl) | rfl
 have e2:lenS (shS P S) (sh P.length x) (sh P.length y)=lenS S x y:=by
  cases x with
  | ref a=>cases y with
   | ref b =>
    simp only[sh,lenS,lstAt_sh];cases lstAt S a <;> cases lstAt S b <;> simp only[Option.map_none,Option.map_some,List.length_map]
   | _=>rfl
  | _=>cases y <;> rfl
 unfold eqD; rw[datD_sh,datD_sh,e,e2]
theorem inD_sh(x y:D):inD (shS P S) (sh P.length x) (sh P.length y)=inD S x y:=by unfold inD; rw[datD_sh,datD_sh]
theorem allInts_sh(n:Nat):∀ xs:List D,allInts (xs.map (sh n))=allInts xs
 | []=>rfl
 | x :: xs=>by cases x <;> simp only[List.map,sh,allInts,allInts_sh n xs]
theorem allBls_sh(n:Nat):∀ xs:List D,allBls (xs.map (sh n))=allBls xs
 | []=>rfl
 | x :: xs=>by cases x <;> simp only[List.map,sh,allBls,allBls_sh n xs]
theorem ltD_sh(n:Nat)(x y:D):ltD (sh n x) (sh n y)=ltD x y:=by
 cases x <;> cases y <;> simp only[sh,ltD,shs_eq,allInts_sh]
theorem cmpD_sh(op:Co)(x y:D):cmpD op (sh P.length x) (sh P.length y) (shS P S)=cmpD op x y S:=by
 cases op with
 | eq=>simp only[cmpD,eqD_sh]
 | ne=>simp only[cmpD,eqD_sh]
 | lt=>simp only[cmpD,ltD_sh]
 | isin=>simp only[cmpD,inD_sh]
 | notin=>simp only[cmpD,inD_sh]
 | is=>cases x <;> cases y <;> simp only[sh,cmpD]
 | isnot=>cases x <;> cases y <;> simp only[sh,cmpD]
 | _=>cases x <;> cases y <;> simp only[sh,cmpD]
theorem truD_sh(d:D):truD (shS P S) (sh P.length d)=truD S d:=by
 cases d with
 | ref k =>
  simp only[sh,truD,shS_at];cases S[k]? with
  | none=>rfl
  | some o=>cases o <;> simp[shO]
 | tup xs=>simp only[sh,truD,shs_eq,List.isEmpty_map]
 | fro xs=>simp only[sh,truD,shs_eq,List.isEmpty_map]
 | _=>simp only[sh,truD]
theorem kdD_sh(d:D):kdD (shS P S) (sh P.length d)=kdD S d:=by
 cases d with
 | ref k =>
  simp only[sh,kdD,shS_at];cases S[k]? with
  | none=>rfl
  | some o=>cases o <;> rfl
 | _=>simp only[sh,kdD]
theorem binD_sh(op:Bo)(x y:D):binD op (sh P.length x) (sh P.length y) (shS P S)=shR P (sh P.length) (binD op x y S):=by
 cases op with
 | add =>
  cases x with
  | ref n =>
   cases y with
   | ref m =>
    simp only[sh,binD,lstM_sh];cases lstM S n with
    | none=>rfl
    | some a =>
     cases lstM S m with
     | none=>rfl
     | some b =>
      simp only[Option.map_some,List.length_map];split
      ·simp only[shR,sh,shS_len,shS_app,shO,List.map_append]
      ·rfl
   | _=>simp only[sh,binD,shR]
  | tup a =>
   cases y with
   | tup b =>
    simp only[sh,binD,shs_eq,List.length_map];split
    ·simp only[shR,sh,shs_eq,List.map_append]
    ·rfl
   | _=>simp only[sh,binD,shR]
  | str a =>
   cases y with
   | str b =>
    simp only[sh,binD];split
    ·simp only[shR,sh]
    ·rfl
   | _=>simp only[sh,binD,shR]
  | int a=>cases y <;> simp only[sh,binD,shR]
  | _=>cases y <;> simp only[sh,binD,shR]
 | mul =>
  cases x with
  | ref n =>
   cases y with
   | int k =>
    simp only[sh,binD,lstM_sh];cases lstM S n with
    | none=>rfl
    | some a =>
     simp only[Option.map_some,List.length_map];split
     ·simp only[shR,sh,shS_len,shS_app,shO,List.map_flatten,List.map_replicate]
     ·rfl
   | _=>simp only[sh,binD,shR]
  | tup a =>
   cases y with
   | int k =>
    have e:(shs P.length a).isEmpty=a.isEmpty:=by cases a <;> simp only[shs,List.isEmpty]
    simp only[sh,binD,e];rw[shs_eq,List.length_map];split
    ·simp only[shR,sh,shs_eq,List.map_flatten,List.map_replicate]
    ·rfl
   | _=>simp only[sh,binD,shR]
  | int a =>
   cases y with
   | int k =>
    simp only[sh,binD];split <;> simp only[shR,sh]
   | _=>simp only[sh,binD,shR]
  | _=>cases y <;> simp only[sh,binD,shR]
 | sub=>cases x <;> cases y <;> simp only[sh,binD,shR]
 | _ =>
  cases x with
  | int a =>
   cases y with
   | int k =>
    simp only[sh,binD];split <;> simp only[shR,sh]
   | _=>simp only[sh,binD,shR]
  | _=>cases y <;> simp only[sh,binD,shR]
theorem augD_sh(op:Bo)(x y:D):augD op (sh P.length x) (sh P.length y) (shS P S)=shR P (sh P.length) (augD op x y S):=by
 cases op with
 | mul =>
  cases x with
  | int a =>
   cases y with
   | int k =>
    simp only[sh,augD];split <;> simp only[shR,sh]
   | _=>simp only[sh,augD,shR]
  | _=>cases y <;> simp only[sh,augD,shR]
 | _=>cases x <;> cases y <;> simp only[sh,augD,shR]
theorem cmpR_sh(op:Co)(x y:D):cmpR op (sh P.length x) (sh P.length y) (shS P S)=shR P (sh P.length) (cmpR op x y S):=by
 unfold cmpR;rw[cmpD_sh];cases cmpD op x y S <;> simp only[shR,sh]
theorem idxD_sh(x i:D):idxD (sh P.length x) (sh P.length i) (shS P S)=(idxD x i S).map (sh P.length):=by
 cases i with
 | int k =>
  have key:∀ x:D,(seqD (shS P S) (sh P.length x)).bind (fun xs=>(ixN xs.length k).bind fun j=>xs[j]?)=((seqD S x).bind fun xs=>(ixN xs.length k).bind fun j=>xs[j]?).map (sh P.length):=fun x=>by
   rw[seqD_sh];cases seqD S x with
   | none=>rfl
   | some xs =>
    simp only[Option.map_some,Option.bind_some,List.length_map];cases ixN xs.length k with
    | none=>rfl
    | some j=>simp only[Option.bind_some,List.getElem?_map]
  cases x with
  | str z =>
   simp only[sh,idxD];split
   ·cases ixN z.length k with
    | none=>rfl
    | some j =>
     simp only[Option.bind_some];cases z.cps.toList[j]? with
     | none=>rfl
     | some c=>simp only[Option.map_some,sh]
   ·rfl
  | non=>have:=key .non; simpa only[sh,idxD] using this
  | bl b=>have:=key (.bl b); simpa only[sh,idxD] using this
  | int b=>have:=key (.int b); simpa only[sh,idxD] using this
  | tup b=>have:=key (.tup b); simpa only[sh,idxD] using this
  | fro b=>have:=key (.fro b); simpa only[sh,idxD] using this
  | ref b=>have:=key (.ref b); simpa only[sh,idxD] using this
  | fn f b=>have:=key (.fn f b); simpa only[sh,idxD] using this
 | _=>simp only[sh,idxD,Option.map_none]
theorem idxR_sh(x i:D):idxR (sh P.length x) (sh P.length i) (shS P S)=shR P (sh P.length) (idxR x i S):=by
 unfold idxR;rw[idxD_sh];cases idxD x i S <;> simp only[Option.map_none,Option.map_some,shR]
theorem asetD_sh(o i v:D):asetD (sh P.length o) (sh P.length i) (sh P.length v) (shS P S)=shR P id (asetD o i v S):=by
 cases o with
 | ref n =>
  cases i with
  | int k =>
   simp only[sh,asetD,lstM_sh];cases lstM S n with
   | none=>rfl
   | some xs =>
    simp only[Option.map_some,List.length_map];cases ixN xs.length k with
    | none=>rfl
    | some j=>simp only[shR,shS_set,shO,List.map_set,id]
  | _=>simp only[sh,asetD,shR]
 | _=>cases i <;> simp only[sh,asetD,shR]
theorem optI_sh(n:Nat)(o:Option D):optI (o.map (sh n))=optI o:=by
 cases o with
 | none=>rfl
 | some d=>cases d <;> simp only[Option.map_some,sh,optI]
theorem cut_map{α β:Type}(f:α->β)(xs:List α)(lo hi:Option Int):cut (xs.map f) lo hi=(cut xs lo hi).map f:=by
 unfold cut;simp only[List.length_map,List.map_take,List.map_drop]
theorem sliD_sh(x:D)(lo hi:Option Int):sliD (sh P.length x) lo hi (shS P S)=shR P (sh P.length) (sliD x lo hi S):=by
 cases x with
 | tup xs=>simp only[sh,sliD,shR,shs_eq,cut_map]
 | ref n =>
  simp only[sh,sliD,lstAt_sh];cases lstAt S n with
  | none=>rfl
  | some xs=>simp only[Option.map_some,shR,sh,shS_len,shS_app,shO,cut_map]
 | _=>simp only[sh,sliD,shR]
theorem numb_sh(n:Nat):∀ (m:Nat) (xs:List D),numb m (xs.map (sh n))=(numb m xs).map (sh n)
 | _,[]=>rfl
 | m,x :: xs=>by simp only[List.map,numb,numb_sh n (m + 1) xs,sh,shs]
end
end Z
end
section
namespace Z
open PySem
section
variable{P S:Sto}
theorem strD_sh(n:Nat)(d:D):strD (sh n d)=strD d:=by cases d <;> simp only[sh,strD]
theorem blt1_sh(k:Bl)(x:D):bltD k [sh P.length x] (shS P S)=shR P (sh P.length) (bltD k [x] S):=by
 have sq:=seqD_sh (P:=P) (S:=S) x;cases k with
 | len =>
  cases x with
  | str z=>simp only[sh,bltD]; split <;> simp only[shR,sh]
  | non=>rfl
  | bl _=>rfl
  | int _=>rfl
  | fn _ _=>simp only[sh,bltD,seqD,shR]
  | tup b=>simp only[sh_tup] at sq ⊢; simp only[bltD,sq]; simp only[seqD,Option.map_some,List.length_map,shR,sh]
  | fro b=>simp only[sh_fro] at sq ⊢; simp only[bltD,sq]; simp only[seqD,Option.map_some,List.length_map,shR,sh]
  | ref b =>
   simp only[sh_ref] at sq ⊢;simp only[bltD,sq];cases seqD S (.ref b) <;> simp only[Option.map_none,Option.map_some,List.length_map,shR,sh]
 | tuple =>
  simp only[bltD,sq];cases seqD S x <;> simp only[Option.map_none,Option.map_some,shR,sh,shs_eq]
 | list =>
  simp only[bltD,sq];cases seqD S x <;> simp only[Option.map_none,Option.map_some,shR,sh,shS_len,shS_app,shO]
 | sum =>
  simp only[bltD,sq];cases seqD S x with
  | none=>rfl
  | some xs =>
   simp only[Option.map_some,Option.bind_some,allInts_sh];cases allInts xs <;> simp only[shR,sh]
 | max =>
  simp only[bltD,sq];cases seqD S x with
  | none=>rfl
  | some xs =>
   simp only[Option.map_some,Option.bind_some,allInts_sh];cases allInts xs with
   | none=>rfl
   | some l=>cases l <;> simp only[shR,sh]
 | min =>
  simp only[bltD,sq];cases seqD S x with
  | none=>rfl
  | some xs =>
   simp only[Option.map_some,Option.bind_some,allInts_sh];cases allInts xs with
   | none=>rfl
   | some l=>cases l <;> simp only[shR,sh]
 | all =>
  cases x with
  | ref b =>
   simp only[sh,bltD,lstAt_sh];cases lstAt S b with
   | none=>rfl
   | some xs =>
    simp only[Option.map_some,Option.bind_some,allBls_sh];cases allBls xs <;> simp only[shR,sh]
  | _=>simp only[sh,bltD,shR]
 | str =>
  simp only[bltD,strD_sh];cases strD x <;> simp only[shR,sh]
 | repr =>
  have e:repD (shS P S) (sh P.length x)=repD S x:=by unfold repD; rw[datD_sh]
  simp only[bltD,e];cases repD S x <;> simp only[shR,sh]
 | abs=>cases x <;> simp only[sh,bltD,shR]
 | set=>simp only[bltD,shR]
 | int=>cases x <;> simp only[sh,bltD,shR]
theorem blt3(k:Bl)(a b c:D)(r:List D)(S:Sto):bltD k (a :: b :: c :: r) S=.bad:=by
 cases k <;> first | rfl | (cases a <;> first | rfl | (cases b <;> rfl))
theorem mth2(k:Mt)(o a b:D)(r:List D)(S:Sto):mthD k o (a :: b :: r) S=.bad:=by
 cases o <;> cases k <;> first | rfl | (cases a <;> rfl)
theorem rng4(a b c d:D)(r:List D):rngD (a :: b :: c :: d :: r)=none:=by
 cases a <;> first | rfl | (cases b <;> first | rfl | (cases c <;> rfl))
theorem map_erase{α β:Type}(f:α->β):∀ (l:List α) (j:Nat),(l.map f).eraseIdx j=(l.eraseIdx j).map f
 | [],j=>by simp
 | x :: r,0=>by simp
 | x :: r,j + 1=>by simp[map_erase f r j]
theorem bltD_sh(k:Bl)(xs:List D):bltD k (xs.map (sh P.length)) (shS P S)=shR P (sh P.length) (bltD k xs S):=by
 match xs with
 | []=>cases k <;> rfl
 | [x]=>exact blt1_sh k x
 | [x,y]=>cases k <;> first | rfl | (cases x <;> cases y <;> simp only[List.map,sh,bltD,shR])
 | _ :: _ :: _ :: _=>simp only[List.map,blt3,shR]
theorem rcvOk_sh(k:Mt)(x:D):rcvOk k (sh P.length x) (shS P S)=rcvOk k x S:=by
 cases x with
 | ref n=>cases k <;> simp only[sh,rcvOk,lstAt_sh,Option.isSome_map]
 | _=>cases k <;> simp only[sh,rcvOk]
theorem mthD_sh(k:Mt)(o:D)(xs:List D):mthD k (sh P.length o) (xs.map (sh P.length)) (shS P S)=shR P (sh P.length) (mthD k o xs S):=by
 cases o with
 | ref n =>
  match xs with
  | [x] =>
   simp only[List.map];cases k with
   | append =>
    simp only[sh,mthD,lstM_sh];cases lstM S n with
    | none=>rfl
    | some a =>
     simp only[Option.map_some,List.length_map];split
     ·simp only[shR,sh,shS_set,shO,List.map_append,List.map]
     ·rfl
   | extend =>
    simp only[sh,mthD,lstM_sh,seqD_sh];cases lstM S n with
    | none=>rfl
    | some a =>
     cases seqD S x with
     | none=>rfl
     | some b =>
      simp only[Option.map_some,List.length_map];split
      ·simp only[shR,sh,shS_set,shO,List.map_append]
      ·rfl
   | pop =>
    cases x with
    | int i =>
     simp only[sh,mthD,lstM_sh];cases lstM S n with
     | none=>rfl
     | some a =>
      simp only[Option.map_some,List.length_map];cases ixN a.length i with
      | none=>rfl
      | some j =>
       simp only[List.getElem?_map];cases a[j]? with
       | none=>rfl
       | some y=>simp only[Option.map_some,shR,shS_set,shO,map_erase]
    | _=>simp only[sh,mthD,shR]
   | index =>
    cases x with
    | bl i =>
     simp only[sh,mthD,lstAt_sh];cases lstAt S n with
     | none=>rfl
     | some a =>
      simp only[Option.map_some,Option.bind_some,allBls_sh];cases allBls a with
      | none=>rfl
      | some bs =>
       dsimp only;cases bs.findIdx? (· == i) <;> simp only[shR,sh]
    | _=>simp only[sh,mthD,shR]
   | count =>
    cases x with
    | bl i =>
     simp only[sh,mthD,lstAt_sh];cases lstAt S n with
     | none=>rfl
     | some a =>
      simp only[Option.map_some,Option.bind_some,allBls_sh];cases allBls a <;> simp only[shR,sh]
    | _=>simp only[sh,mthD,shR]
   | _=>simp only[sh,mthD,shR]
  | []=>cases k <;> simp only[List.map,sh,mthD,shR]
  | _ :: _ :: _=>simp only[List.map,mth2,shR]
 | _=>cases k <;> simp only[sh,mthD,shR]
noncomputable def shC(n:Nat):Src->Src
 | .con xs=>.con (xs.map (sh n))
 | .ref k=>.ref (n + k)
 | .enm a=>.enm (shC n a)
theorem srcD_sh(d:D):srcD (shS P S) (sh P.length d)=(srcD S d).map (shC P.length):=by
 cases d with
 | tup xs=>simp only[sh,srcD,shs_eq,Option.map_some,shC]
 | ref n=>simp only[sh,srcD,lstAt_sh,Option.map_map]; cases lstAt S n <;> rfl
 | _=>simp only[sh,srcD,Option.map_none]
theorem get_sh(i:Nat):∀ s:Src,(shC P.length s).get (shS P S) i=(s.get S i).map (Option.map (sh P.length))
 | .con xs=>by simp only[shC,Src.get,List.getElem?_map,Option.map_some]
 | .ref n=>by
  simp only[shC,Src.get,lstAt_sh,Option.map_map];cases lstAt S n with
  | none=>rfl
  | some xs=>simp only[Option.map_some,Function.comp,List.getElem?_map]
 | .enm a=>by
  simp only[shC,Src.get,get_sh i a];cases a.get S i with
  | none=>rfl
  | some o=>cases o <;> simp only[Option.map_some,Option.map_none,sh,shs]
theorem most_sh:∀ s:Src,(shC P.length s).most (shS P S)=s.most S
 | .con xs=>by simp only[shC,Src.most,List.length_map]
 | .ref n=>by
  simp only[shC,Src.most,lstAt_sh];cases lstAt S n <;> simp
 | .enm a=>by simp only[shC,Src.most,most_sh a]
theorem rngD_sh(n:Nat)(xs:List D):rngD (xs.map (sh n))=(rngD xs).map (·.map (sh n)):=by
 match xs with
 | []=>rfl
 | [x] =>
  cases x with
  | int j =>
   simp only[List.map,sh,rngD];split
   ·simp only[Option.map_some,List.map_map]; congr 2
   ·rfl
  | _=>simp only[List.map,sh,rngD,Option.map_none]
 | [x,y] =>
  cases x with
  | int i =>
   cases y with
   | int j =>
    simp only[List.map,sh,rngD];split
    ·simp only[Option.map_some,List.map_map]; congr 2
    ·rfl
   | _=>simp only[List.map,sh,rngD,Option.map_none]
  | _=>cases y <;> simp only[List.map,sh,rngD,Option.map_none]
 | [x,y,z] =>
  cases x with
  | int i =>
   cases y with
   | int j =>
    cases z with
    | int c =>
     simp only[List.map,sh,rngD];split
     ·simp only[Option.map_some,List.map_map]; congr 2
     ·rfl
    | _=>simp only[List.map,sh,rngD,Option.map_none]
   | _=>cases z <;> simp only[List.map,sh,rngD,Option.map_none]
  | _=>cases y <;> cases z <;> simp only[List.map,sh,rngD,Option.map_none]
 | _ :: _ :: _ :: _ :: _=>simp only[List.map,rng4,Option.map_none]
theorem sets_sh(n:Nat):∀ (is:List Nat) (ds:List D) (env:En),(is.zip (ds.map (sh n))).foldl (fun e p=>e.set p.1 (some p.2)) (shE n env)=shE n ((is.zip ds).foldl (fun e p=>e.set p.1 (some p.2)) env)
 | [],ds,env=>by simp
 | i :: is,[],env=>by simp
 | i :: is,d :: ds,env=>by
  simp only[List.map,List.zip_cons_cons,List.foldl_cons];rw[<- sets_sh n is ds];congr 1;unfold shE;rw[List.map_set];rfl
theorem setTg_sh(n:Nat)(t:Tg)(d:D)(env:En):setTg t (sh n d) (shE n env)=(setTg t d env).map (shE n):=by
 cases t with
 | var i=>simp only[setTg,Option.map_some,shE,List.map_set]
 | tup is =>
  cases d with
  | tup ds =>
   simp only[sh,setTg,shs_eq,List.length_map];split
   ·simp only[Option.map_some,sets_sh]
   ·rfl
  | _=>simp only[sh,setTg,Option.map_none]
theorem noneAt_sh(n:Nat)(t:Tg)(env:En):noneAt t (shE n env)=noneAt t env:=by
 unfold noneAt;congr 1
 funext i
 unfold shE;rw[List.getElem?_map];cases env[i]? with
 | none=>rfl
 | some o=>cases o <;> rfl
theorem shE_at(n i:Nat)(env:En):(shE n env)[i]?=(env[i]?).map (Option.map (sh n)):=by unfold shE; rw[List.getElem?_map]
theorem shE_set(n i:Nat)(env:En)(d:D):shE n (env.set i (some d))=(shE n env).set i (some (sh n d)):=by unfold shE; rw[List.map_set]; rfl
theorem shE_app(n:Nat)(env:En)(m:Nat):shE n (env++List.replicate m none)=shE n env++List.replicate m none:=by unfold shE; simp
theorem bind_sh{α α' β β':Type}{r:R α}{r':R α'}{f:α->α'}{g:β->β'}{k:α->Sto->R β}{k':α'->Sto->R β'}(h:r'=shR P f r)(hk:∀ a S,k' (f a) (shS P S)=shR P g (k a S)):r'.bind k'=shR P g (r.bind k):=by
 subst h;cases r with
 | ok a S=>exact hk a S
 | ex n S=>rfl
 | bad=>rfl
noncomputable def shF(n:Nat):Fl->Fl
 | .nx e=>.nx (shE n e)
 | .brk e=>.brk (shE n e)
 | .cnt e=>.cnt (shE n e)
 | .rt d=>.rt (sh n d)
theorem cloop_sh{get get':Sto->Nat->Option (Option D)}{t:Tg}{body body':En->List D->Sto->R (List D)}(hg:∀ S i,get' (shS P S) i=(get S i).map (Option.map (sh P.length)))
  (hb:∀ env acc S,body' (shE P.length env) (acc.map (sh P.length)) (shS P S)=shR P (·.map (sh P.length)) (body env acc S)) :
  ∀ (k i:Nat) (env:En) (acc:List D) (S:Sto),cloop get' t body' k i (shE P.length env) (acc.map (sh P.length)) (shS P S)=shR P (·.map (sh P.length)) (cloop get t body k i env acc S)
 | 0,i,env,acc,S=>rfl
 | k + 1,i,env,acc,S=>by
  simp only[cloop,hg];cases get S i with
  | none=>rfl
  | some o =>
   cases o with
   | none=>rfl
   | some d =>
    simp only[Option.map_some,setTg_sh];cases setTg t d env with
    | none=>rfl
    | some env' =>
     simp only[Option.map_some,hb];cases body env' acc S with
     | ok a S1=>exact cloop_sh hg hb k (i + 1) env' a S1
     | ex _ _=>rfl
     | bad=>rfl
theorem floop_sh{get get':Sto->Nat->Option (Option D)}{t:Tg}{body body':En->Sto->R Fl}(hg:∀ S i,get' (shS P S) i=(get S i).map (Option.map (sh P.length)))
  (hb:∀ env S,body' (shE P.length env) (shS P S)=shR P (shF P.length) (body env S)) :
  ∀ (k i:Nat) (env:En) (S:Sto),floop get' t body' k i (shE P.length env) (shS P S)=shR P (shF P.length) (floop get t body k i env S)
 | 0,i,env,S=>rfl
 | k + 1,i,env,S=>by
  simp only[floop,hg];cases get S i with
  | none=>rfl
  | some o =>
   cases o with
   | none=>rfl
   | some d =>
    simp only[Option.map_some,setTg_sh];cases setTg t d env with
    | none=>rfl
    | some env' =>
     simp only[Option.map_some,hb];cases body env' S with
     | ok a S1 =>
      cases a with
      | nx e=>exact floop_sh hg hb k (i + 1) e S1
      | cnt e=>exact floop_sh hg hb k (i + 1) e S1
      | brk e=>rfl
      | rt d=>rfl
     | ex _ _=>rfl
     | bad=>rfl
theorem wloop_sh{test test':En->Sto->R Bool}{body body':En->Sto->R Fl}(ht:∀ env S,test' (shE P.length env) (shS P S)=shR P id (test env S))(hb:∀ env S,body' (shE P.length env) (shS P S)=shR P (shF P.length) (body env S)) :
  ∀ (k:Nat) (env:En) (S:Sto),wloop test' body' k (shE P.length env) (shS P S)=shR P (shF P.length) (wloop test body k env S)
 | 0,env,S=>rfl
 | k + 1,env,S=>by
  simp only[wloop,ht];cases test env S with
  | ok b S1 =>
   cases b with
   | false=>rfl
   | true =>
    simp only[shR,id,hb];cases body env S1 with
    | ok a S2 =>
     cases a with
     | nx e=>exact wloop_sh ht hb k e S2
     | cnt e=>exact wloop_sh ht hb k e S2
     | brk e=>rfl
     | rt d=>rfl
    | ex _ _=>rfl
    | bad=>rfl
  | ex _ _=>rfl
  | bad=>rfl
end
end Z
end
section
namespace Z
open PySem
noncomputable def clnD:D->Bool
 | .non=>true
 | .bl _=>true
 | .int _=>true
 | .str _=>true
 | _=>false
theorem clnD_sh{n:Nat}{d:D}(h:clnD d=true):sh n d=d:=by cases d <;> first | (simp only[sh]; done) | cases h
mutual
noncomputable def cln:Ex->Bool
 | .nev=>true
 | .var _=>true
 | .cst d=>clnD d
 | .neg a=>cln a
 | .glb _=>true
 | .tup es=>clns es
 | .lst es=>clns es
 | .bin _ a b=>cln a && cln b
 | .cmp _ a b=>cln a && cln b
 | .chn _ _ a b c=>cln a && cln b && cln c
 | .and a b=>cln a && cln b
 | .or a b=>cln a && cln b
 | .not a=>cln a
 | .ite c a b=>cln c && cln a && cln b
 | .idx a i=>cln a && cln i
 | .sli a lo hi=>cln a && clno lo && clno hi
 | .call _ es=>clns es
 | .cal f es=>cln f && clns es
 | .lenm a=>cln a
 | .blt _ es=>clns es
 | .mth _ o es=>cln o && clns es
 | .isi a _=>cln a
 | .cmr _ _ gs elt=>clng gs && cln elt
noncomputable def clno:Op->Bool
 | .none=>true
 | .some e=>cln e
noncomputable def clns:Exs->Bool
 | .nil=>true
 | .cons e es=>cln e && clns es
noncomputable def clng:Gens->Bool
 | .nil=>true
 | .cons _ it ifs gs=>clni it && clns ifs && clng gs
noncomputable def clni:It->Bool
 | .val e=>cln e
 | .rng es=>clns es
 | .enm es=>clns es
end
section
variable{F:Fn}{G:List D}{P:Sto}
theorem ok_sh{α β:Type}{f:α->β}{a:α}{S:Sto}{b:β}{S':Sto}(h1:b=f a)(h2:S'=shS P S):(R.ok b S':R β)=shR P f (.ok a S):=by subst h1 h2; rfl
theorem TestP_sh{ifs ifs':En->Sto->R Bool}{body body':En->List D->Sto->R (List D)}(h1:∀ env S,ifs' (shE P.length env) (shS P S)=shR P id (ifs env S))
  (hb:∀ env acc S,body' (shE P.length env) (acc.map (sh P.length)) (shS P S)=shR P (·.map (sh P.length)) (body env acc S)) (env:En) (acc:List D) (S:Sto) :
  TestP ifs' body' (shE P.length env) (acc.map (sh P.length)) (shS P S)=shR P (·.map (sh P.length)) (TestP ifs body env acc S):=by
 unfold TestP;refine bind_sh (h1 env S) fun b S=>?_
 cases b
 ·rfl
 ·exact hb env acc S
theorem cl_sh{src:Src}{t:Tg}{ifs ifs':En->Sto->R Bool}{body body':En->List D->Sto->R (List D)}(h1:∀ env S,ifs' (shE P.length env) (shS P S)=shR P id (ifs env S))
  (hb:∀ env acc S,body' (shE P.length env) (acc.map (sh P.length)) (shS P S)=shR P (·.map (sh P.length)) (body env acc S)) (m i:Nat) (env:En) (acc:List D) (S:Sto) :
  cloop (shC P.length src).get t (TestP ifs' body') m i (shE P.length env) (acc.map (sh P.length)) (shS P S)=shR P (·.map (sh P.length)) (cloop src.get t (TestP ifs body) m i env acc S) :=
 cloop_sh (fun S i=>get_sh i src) (fun env acc S=>TestP_sh h1 hb env acc S) m i env acc S
theorem push_sh{r r':R D}{acc:List D}(h:r'=shR P (sh P.length) r):(r'.bind fun y S=>if (acc.map (sh P.length)).length < big then .ok (acc.map (sh P.length)++[y]) S else .bad)=shR P (·.map (sh P.length)) (r.bind fun y S=>if acc.length < big then .ok (acc++[y]) S else .bad):=by
 refine bind_sh h fun y S=>?_
 simp only[List.length_map];split
 ·exact ok_sh (by simp) rfl
 ·rfl
set_option maxHeartbeats 0 in
mutual
theorem ev_sh(HF:∀ f ds S,F f (ds.map (sh P.length)) (shS P S)=shR P (sh P.length) (F f ds S))(HG:∀ d∈G,sh P.length d=d):∀ (e:Ex),cln e=true->∀ (env:En) (S:Sto),ev F G e (shE P.length env) (shS P S)=shR P (sh P.length) (ev F G e env S)
 | .nev,h,env,S=>by simp only[ev,shR]
 | .var i,h,env,S=>by
  simp only[ev,shE_at];cases env[i]? with
  | none=>rfl
  | some o=>cases o <;> rfl
 | .cst d,h,env,S=>by
  simp only[ev];exact ok_sh (clnD_sh (by simpa only[cln] using h)).symm rfl
 | .neg a,h,env,S=>by
  simp only[cln] at h;simp only[ev];refine bind_sh (ev_sh HF HG a h env S) fun x S=>?_
  cases x <;> simp only[sh,shR]
 | .glb k,h,env,S=>by
  simp only[ev];cases e:G[k]? with
  | none=>rfl
  | some d=>exact ok_sh (HG d (List.mem_of_getElem? e)).symm rfl
 | .tup es,h,env,S=>by
  simp only[cln] at h;simp only[ev];refine bind_sh (evs_sh HF HG es h env S) fun x S=>?_
  simp only[List.length_map];split
  ·exact ok_sh (by rw[sh_tup]) rfl
  ·rfl
 | .lst es,h,env,S=>by
  simp only[cln] at h;simp only[ev];refine bind_sh (evs_sh HF HG es h env S) fun x S=>?_
  simp only[List.length_map];split
  ·exact ok_sh (by rw[sh_ref,shS_len]) (by rw[shS_app]; rfl)
  ·rfl
 | .bin op a b,h,env,S=>by
  simp only[cln,bA0] at h;simp only[ev];exact bind_sh (ev_sh HF HG a h.1 env S) fun x S=>bind_sh (ev_sh HF HG b h.2 env S) fun y S=>binD_sh op x y
 | .cmp op a b,h,env,S=>by
  simp only[cln,bA0] at h;simp only[ev];exact bind_sh (ev_sh HF HG a h.1 env S) fun x S=>bind_sh (ev_sh HF HG b h.2 env S) fun y S=>cmpR_sh op x y
 | .chn o1 o2 a b c,h,env,S=>by
  simp only[cln,bA0] at h;simp only[ev];refine bind_sh (ev_sh HF HG a h.1.1 env S) fun x S=>bind_sh (ev_sh HF HG b h.1.2 env S) fun y S=>?_
  rw[cmpD_sh];cases cmpD o1 x y S with
  | none=>rfl
  | some r =>
   cases r with
   | false=>exact ok_sh (by rw[sh_bl]) rfl
   | true=>exact bind_sh (ev_sh HF HG c h.2 env S) fun z S=>cmpR_sh o2 y z
 | .and a b,h,env,S=>by
  simp only[cln,bA0] at h;simp only[ev];refine bind_sh (ev_sh HF HG a h.1 env S) fun x S=>?_
  rw[truD_sh];cases truD S x with
  | none=>rfl
  | some r =>
   cases r with
   | false=>rfl
   | true=>exact ev_sh HF HG b h.2 env S
 | .or a b,h,env,S=>by
  simp only[cln,bA0] at h;simp only[ev];refine bind_sh (ev_sh HF HG a h.1 env S) fun x S=>?_
  rw[truD_sh];cases truD S x with
  | none=>rfl
  | some r =>
   cases r with
   | false=>exact ev_sh HF HG b h.2 env S
   | true=>rfl
 | .not a,h,env,S=>by
  simp only[cln] at h;simp only[ev];refine bind_sh (ev_sh HF HG a h env S) fun x S=>?_
  rw[truD_sh];cases truD S x with
  | none=>rfl
  | some r=>exact ok_sh (by rw[sh_bl]) rfl
 | .ite c a b,h,env,S=>by
  simp only[cln,bA0] at h;simp only[ev];refine bind_sh (ev_sh HF HG c h.1.1 env S) fun x S=>?_
  rw[truD_sh];cases truD S x with
  | none=>rfl
  | some r =>
   cases r with
   | false=>exact ev_sh HF HG b h.2 env S
   | true=>exact ev_sh HF HG a h.1.2 env S
 | .idx a i,h,env,S=>by
  simp only[cln,bA0] at h;simp only[ev];exact bind_sh (ev_sh HF HG a h.1 env S) fun x S=>bind_sh (ev_sh HF HG i h.2 env S) fun y S=>idxR_sh x y
 | .sli a lo hi,h,env,S=>by
  simp only[cln,bA0] at h;simp only[ev];refine bind_sh (ev_sh HF HG a h.1.1 env S) fun x S=>bind_sh (evo_sh HF HG lo h.1.2 env S) fun l S=>bind_sh (evo_sh HF HG hi h.2 env S) fun u S=>?_
  rw[optI_sh,optI_sh];cases optI l with
  | none=>rfl
  | some l' =>
   cases optI u with
   | none=>rfl
   | some u'=>exact sliD_sh x l' u'
 | .call f es,h,env,S=>by
  simp only[cln] at h;simp only[ev];exact bind_sh (evs_sh HF HG es h env S) fun x S=>HF f x S
 | .cal f es,h,env,S=>by
  simp only[cln,bA0] at h;simp only[ev];refine bind_sh (ev_sh HF HG f h.1 env S) fun x S=>?_
  cases x with
  | fn k nm =>
   simp only[sh];split
   ·exact bind_sh (evs_sh HF HG es h.2 env S) fun x S=>HF k x S
   ·rfl
  | _=>simp only[sh,shR]
 | .lenm a,h,env,S=>by
  simp only[cln] at h;simp only[ev];refine bind_sh (ev_sh HF HG a h env S) fun x S=>?_
  rw[seqD_sh];cases seqD S x with
  | none=>rfl
  | some xs=>exact ok_sh (by rw[sh_ref,shS_len]) (by rw[shS_app]; simp only[numb_sh,shO])
 | .blt k es,h,env,S=>by
  simp only[cln] at h;simp only[ev];exact bind_sh (evs_sh HF HG es h env S) fun x S=>bltD_sh k x
 | .mth k o es,h,env,S=>by
  simp only[cln,bA0] at h;simp only[ev];refine bind_sh (ev_sh HF HG o h.1 env S) fun x S=>?_
  rw[rcvOk_sh];split
  ·exact bind_sh (evs_sh HF HG es h.2 env S) fun xs S=>mthD_sh k x xs
  ·rfl
 | .isi a ts,h,env,S=>by
  simp only[cln] at h;simp only[ev];refine bind_sh (ev_sh HF HG a h env S) fun x S=>?_
  rw[kdD_sh];cases (kdD S x).bind fun k=>isTs k ts with
  | none=>rfl
  | some r=>exact ok_sh (by rw[sh_bl]) rfl
 | .cmr k n .nil elt,h,env,S=>by simp only[ev,shR]
 | .cmr k n (.cons t it ifs .nil) elt,h,env,S=>by
  simp only[cln,clng,bA0] at h;simp only[ev];refine bind_sh (evit_sh HF HG it h.1.1.1 env S) fun src S=>?_
  rw[most_sh,<- shE_app];refine bind_sh (f:=(·.map (sh P.length))) (cl_sh (fun env S=>evts_sh HF HG ifs h.1.1.2 env S) (fun env acc S=>push_sh (ev_sh HF HG elt h.2 env S)) _ _ _ [] _) fun acc S=>?_
  cases k with
  | true=>rfl
  | false=>exact ok_sh (by rw[sh_ref,shS_len]) (by rw[shS_app]; rfl)
 | .cmr k n (.cons t it ifs (.cons t2 it2 ifs2 .nil)) elt,h,env,S=>by
  simp only[cln,clng,bA0] at h;simp only[ev];refine bind_sh (evit_sh HF HG it h.1.1.1 env S) fun src S=>?_
  rw[most_sh,<- shE_app];refine bind_sh (f:=(·.map (sh P.length))) (cl_sh (fun env S=>evts_sh HF HG ifs h.1.1.2 env S) (fun env acc S=>?_) _ _ _ [] _) fun acc S=>?_
  ·rw[noneAt_sh]
   split
   ·refine bind_sh (evit_sh HF HG it2 h.1.2.1.1 env S) fun src2 S=>?_
    rw[most_sh];exact cl_sh (fun env S=>evts_sh HF HG ifs2 h.1.2.1.2 env S) (fun env acc S=>push_sh (ev_sh HF HG elt h.2 env S)) _ _ _ _ _
   ·rfl
  ·cases k with
   | true=>rfl
   | false=>exact ok_sh (by rw[sh_ref,shS_len]) (by rw[shS_app]; rfl)
 | .cmr k n (.cons t it ifs (.cons t2 it2 ifs2 (.cons t3 it3 ifs3 gs3))) elt,h,env,S=>by
  simp only[cln,clng,bA0] at h;simp only[ev];refine bind_sh (evit_sh HF HG it h.1.1.1 env S) fun src S=>?_
  rw[most_sh,<- shE_app];refine bind_sh (f:=(·.map (sh P.length))) (cl_sh (fun env S=>evts_sh HF HG ifs h.1.1.2 env S) (fun env acc S=>rfl) _ _ _ [] _) fun acc S=>?_
  cases k with
  | true=>rfl
  | false=>exact ok_sh (by rw[sh_ref,shS_len]) (by rw[shS_app]; rfl)
theorem evo_sh(HF:∀ f ds S,F f (ds.map (sh P.length)) (shS P S)=shR P (sh P.length) (F f ds S))(HG:∀ d∈G,sh P.length d=d):∀ (o:Op),clno o=true->∀ (env:En) (S:Sto),evo F G o (shE P.length env) (shS P S)=shR P (Option.map (sh P.length)) (evo F G o env S)
 | .none,h,env,S=>by simp only[evo]; rfl
 | .some e,h,env,S=>by
  simp only[clno] at h;simp only[evo];exact bind_sh (ev_sh HF HG e h env S) fun x S=>rfl
theorem evs_sh(HF:∀ f ds S,F f (ds.map (sh P.length)) (shS P S)=shR P (sh P.length) (F f ds S))(HG:∀ d∈G,sh P.length d=d):∀ (es:Exs),clns es=true->∀ (env:En) (S:Sto),evs F G es (shE P.length env) (shS P S)=shR P (·.map (sh P.length)) (evs F G es env S)
 | .nil,h,env,S=>by simp only[evs]; rfl
 | .cons e es,h,env,S=>by
  simp only[clns,bA0] at h;simp only[evs];exact bind_sh (ev_sh HF HG e h.1 env S) fun x S=>bind_sh (evs_sh HF HG es h.2 env S) fun xs S=>rfl
theorem evts_sh(HF:∀ f ds S,F f (ds.map (sh P.length)) (shS P S)=shR P (sh P.length) (F f ds S))(HG:∀ d∈G,sh P.length d=d):∀ (es:Exs),clns es=true->∀ (env:En) (S:Sto),evts F G es (shE P.length env) (shS P S)=shR P id (evts F G es env S)
 | .nil,h,env,S=>by simp only[evts]; rfl
 | .cons e es,h,env,S=>by
  simp only[clns,bA0] at h;simp only[evts];refine bind_sh (ev_sh HF HG e h.1 env S) fun x S=>?_
  rw[truD_sh];cases truD S x with
  | none=>rfl
  | some r =>
   cases r with
   | false=>rfl
   | true=>exact evts_sh HF HG es h.2 env S
theorem evit_sh(HF:∀ f ds S,F f (ds.map (sh P.length)) (shS P S)=shR P (sh P.length) (F f ds S))(HG:∀ d∈G,sh P.length d=d):∀ (it:It),clni it=true->∀ (env:En) (S:Sto),evit F G it (shE P.length env) (shS P S)=shR P (shC P.length) (evit F G it env S)
 | .val e,h,env,S=>by
  simp only[clni] at h;simp only[evit];refine bind_sh (ev_sh HF HG e h env S) fun x S=>?_
  rw[srcD_sh];cases srcD S x <;> rfl
 | .rng es,h,env,S=>by
  simp only[clni] at h;simp only[evit];refine bind_sh (evs_sh HF HG es h env S) fun x S=>?_
  rw[rngD_sh];cases rngD x <;> rfl
 | .enm es,h,env,S=>by
  simp only[clni] at h;simp only[evit];refine bind_sh (evs_sh HF HG es h env S) fun xs S=>?_
  match xs with
  | []=>rfl
  | [x] =>
   simp only[List.map,srcD_sh];cases srcD S x <;> rfl
  | _ :: _ :: _=>rfl
end
end
end Z
end
section
namespace Z
open PySem
mutual
noncomputable def clnS:St->Bool
 | .nev=>true
 | .asg _ e=>cln e
 | .par _ es=>clns es
 | .aset o i e=>cln o && cln i && cln e
 | .aug _ _ e=>cln e
 | .expr e=>cln e
 | .ret e=>cln e
 | .ite c a b=>cln c && clnSs a && clnSs b
 | .for _ it b=>clni it && clnSs b
 | .whl c b=>cln c && clnSs b
 | .rse _ e=>cln e
 | .try b _ _ h=>clnSs b && clnSs h
 | .pass=>true
 | .brk=>true
 | .cnt=>true
noncomputable def clnSs:Sts->Bool
 | .nil=>true
 | .cons s ss=>clnS s && clnSs ss
end
section
variable{F:Fn}{G:List D}{P:Sto}
set_option maxHeartbeats 0 in
mutual
theorem exe_sh(HF:∀ f ds S,F f (ds.map (sh P.length)) (shS P S)=shR P (sh P.length) (F f ds S))(HG:∀ d∈G,sh P.length d=d):∀ (s:St),clnS s=true->∀ (env:En) (S:Sto),exe F G s (shE P.length env) (shS P S)=shR P (shF P.length) (exe F G s env S)
 | .nev,h,env,S=>by simp only[exe,shR]
 | .asg t e,h,env,S=>by
  simp only[clnS] at h;simp only[exe];refine bind_sh (ev_sh HF HG e h env S) fun x S=>?_
  rw[setTg_sh];cases setTg t x env <;> rfl
 | .par is es,h,env,S=>by
  simp only[clnS] at h;simp only[exe];refine bind_sh (evs_sh HF HG es h env S) fun x S=>?_
  simp only[List.length_map];split
  ·rw[sets_sh]; rfl
  ·rfl
 | .aset o i e,h,env,S=>by
  simp only[clnS,bA0] at h;simp only[exe];exact bind_sh (ev_sh HF HG e h.2 env S) fun v S=>bind_sh (ev_sh HF HG o h.1.1 env S) fun x S=>bind_sh (ev_sh HF HG i h.1.2 env S) fun y S=>bind_sh (asetD_sh x y v) fun _ S=>rfl
 | .aug i op e,h,env,S=>by
  simp only[clnS] at h;simp only[exe,shE_at];cases env[i]? with
  | none=>rfl
  | some o =>
   cases o with
   | none=>rfl
   | some x =>
    refine bind_sh (ev_sh HF HG e h env S) fun y S=>bind_sh (augD_sh op x y) fun z S=>?_
    exact ok_sh (by rw[shF,shE_set]) rfl
 | .expr e,h,env,S=>by
  simp only[clnS] at h;simp only[exe];exact bind_sh (ev_sh HF HG e h env S) fun x S=>rfl
 | .ret e,h,env,S=>by
  simp only[clnS] at h;simp only[exe];exact bind_sh (ev_sh HF HG e h env S) fun x S=>rfl
 | .ite c a b,h,env,S=>by
  simp only[clnS,bA0] at h;simp only[exe];refine bind_sh (ev_sh HF HG c h.1.1 env S) fun x S=>?_
  rw[truD_sh];cases truD S x with
  | none=>rfl
  | some r =>
   cases r with
   | true=>exact exes_sh HF HG a h.1.2 env S
   | false=>exact exes_sh HF HG b h.2 env S
 | .for t it b,h,env,S=>by
  simp only[clnS,bA0] at h;simp only[exe];refine bind_sh (evit_sh HF HG it h.1 env S) fun src S=>?_
  rw[most_sh];exact floop_sh (fun S i=>get_sh i src) (fun env S=>exes_sh HF HG b h.2 env S) _ _ _ _
 | .whl c b,h,env,S=>by
  simp only[clnS,bA0] at h;simp only[exe];refine wloop_sh (fun env S=>?_) (fun env S=>exes_sh HF HG b h.2 env S) _ _ _
  refine bind_sh (ev_sh HF HG c h.1 env S) fun x S=>?_
  rw[truD_sh];cases truD S x <;> rfl
 | .rse c e,h,env,S=>by
  simp only[clnS] at h;simp only[exe];refine bind_sh (ev_sh HF HG e h env S) fun x S=>?_
  simp only[shR,shS_app,shO,shS_len]
 | .try b c x hd,h,env,S=>by
  simp only[clnS,bA0] at h;simp only[exe];split
  ·rw[exes_sh HF HG b h.1 env S]
   cases exes F G b env S with
   | ok a S1=>rfl
   | bad=>rfl
   | ex n S1 =>
    simp only[shR,shS_at];cases S1[n]? with
    | none=>rfl
    | some o =>
     cases o with
     | exc c' =>
      simp only[Option.map_some,shO];split
      ·have e:=exes_sh HF HG hd h.2 (env.set x (some (.ref n))) S1
       rw[shE_set,sh_ref] at e;rw[e];cases exes F G hd (env.set x (some (.ref n))) S1 with
       | ok a S2=>cases a <;> rfl
       | ex _ _=>rfl
       | bad=>rfl
      ·rfl
     | _=>rfl
  ·rfl
 | .pass,h,env,S=>by simp only[exe]; rfl
 | .brk,h,env,S=>by simp only[exe]; rfl
 | .cnt,h,env,S=>by simp only[exe]; rfl
theorem exes_sh(HF:∀ f ds S,F f (ds.map (sh P.length)) (shS P S)=shR P (sh P.length) (F f ds S))(HG:∀ d∈G,sh P.length d=d):∀ (ss:Sts),clnSs ss=true->∀ (env:En) (S:Sto),exes F G ss (shE P.length env) (shS P S)=shR P (shF P.length) (exes F G ss env S)
 | .nil,h,env,S=>by simp only[exes]; rfl
 | .cons s ss,h,env,S=>by
  simp only[clnSs,bA0] at h;simp only[exes];rw[exe_sh HF HG s h.1 env S];cases exe F G s env S with
  | ok a S1 =>
   cases a with
   | nx e=>exact exes_sh HF HG ss h.2 e S1
   | _=>rfl
  | ex _ _=>rfl
  | bad=>rfl
end
theorem den_sh(HF:∀ f ds S,F f (ds.map (sh P.length)) (shS P S)=shR P (sh P.length) (F f ds S))(HG:∀ d∈G,sh P.length d=d)(d:Df)(hd:clnSs d.body=true)(ds:List D)(S:Sto) :
  den F G d (ds.map (sh P.length)) (shS P S)=shR P (sh P.length) (den F G d ds S):=by
 unfold den;simp only[List.length_map];split
 ·have e:(ds.map (sh P.length)).map some++List.replicate (d.nl - d.np) none=shE P.length (ds.map some++List.replicate (d.nl - d.np) none):=by
   rw[shE_app];unfold shE;simp
  rw[e,exes_sh HF HG d.body hd];cases exes F G d.body (ds.map some++List.replicate (d.nl - d.np) none) S with
  | ok a S1=>cases a <;> first | rfl | exact ok_sh (by rw[sh_non]) rfl
  | ex _ _=>rfl
  | bad=>rfl
 ·rfl
end
theorem FT_sh{T:List Df}{G:List D}(hT:(T.all fun d=>clnSs d.body)=true)(P:Sto)(HG:∀ d∈G,sh P.length d=d):∀ (k f:Nat) (ds:List D) (S:Sto),FT T G k f (ds.map (sh P.length)) (shS P S)=shR P (sh P.length) (FT T G k f ds S)
 | 0,f,ds,S=>rfl
 | k + 1,f,ds,S=>by
  simp only[FT];cases e:T[f]? with
  | none=>rfl
  | some d=>exact den_sh (fun f ds S=>FT_sh hT P HG k f ds S) HG d (List.all_eq_true.mp hT d (List.mem_of_getElem? e)) ds S
mutual
noncomputable def flt:D->Bool
 | .tup xs=>flts xs
 | .fro xs=>flts xs
 | .ref _=>false
 | _=>true
noncomputable def flts:List D->Bool
 | []=>true
 | x :: r=>flt x && flts r
end
mutual
theorem flt_sh(n:Nat):∀ d:D,flt d=true->sh n d=d
 | .non,_=>by simp only[sh]
 | .bl _,_=>by simp only[sh]
 | .int _,_=>by simp only[sh]
 | .str _,_=>by simp only[sh]
 | .fn _ _,_=>by simp only[sh]
 | .ref _,h=>by simp[flt] at h
 | .tup xs,h=>by
  have h':flts xs=true:=by simpa only[flt] using h
  simp only[sh,flts_sh n xs h']
 | .fro xs,h=>by
  have h':flts xs=true:=by simpa only[flt] using h
  simp only[sh,flts_sh n xs h']
theorem flts_sh(n:Nat):∀ ds:List D,flts ds=true->shs n ds=ds
 | [],_=>by simp only[shs]
 | x :: r,h=>by
  have h':flt x=true/\flts r=true:=by simpa only[flts,bA0] using h
  simp only[shs,flt_sh n x h'.1,flts_sh n r h'.2]
end
theorem flts_map(n:Nat){ds:List D}(h:flts ds=true):ds.map (sh n)=ds:=by rw[<- shs_eq]; exact flts_sh n ds h
noncomputable def valR{α:Type}:R α->Option α
 | .ok a _=>some a
 | _=>none
noncomputable def stoR{α:Type}:R α->Sto
 | .ok _ S=>S
 | _=>[]
theorem val_ok{α:Type}{r:R α}{a:α}(h:valR r=some a):r=.ok a (stoR r):=by
 cases r with
 | ok b S=>cases h; rfl
 | _=>cases h
end Z
end
section
namespace Z
open PySem
structure Le(e1 e2:En):Prop where
 len:e1.length=e2.length
 val:∀ (i:Nat) d,e1[i]?=some (some d)->e2[i]?=some (some d)
theorem Le.set{e1 e2:En}(h:Le e1 e2)(i:Nat)(d:D):Le (e1.set i (some d)) (e2.set i (some d)) :=
 ⟨by simp[h.len],fun j x e=>by
  by_cases z:i=j
  ·subst z
   have hj:i < e1.length:=by have:=(List.getElem?_eq_some_iff.mp e).1; simpa using this
   rw[List.getElem?_set_self hj] at e;rw[List.getElem?_set_self (by rw[<- h.len]; exact hj)]
   exact e
  ·rw[List.getElem?_set_ne z] at e ⊢
   exact h.val j x e⟩
theorem Le.sets:∀ (is:List Nat) (ds:List D) {e1 e2:En},Le e1 e2->Le ((is.zip ds).foldl (fun e p=>e.set p.1 (some p.2)) e1) ((is.zip ds).foldl (fun e p=>e.set p.1 (some p.2)) e2)
 | [],ds,e1,e2,h=>by simpa using h
 | i :: is,[],e1,e2,h=>by simpa using h
 | i :: is,d :: ds,e1,e2,h=>Le.sets is ds (h.set i d)
section
variable{F:Fn}{G:List D}{e1 e2:En}
end
def LeF:Fl->Fl->Prop
 | .nx e,.nx e'=>Le e e'
 | .brk e,.brk e'=>Le e e'
 | .cnt e,.cnt e'=>Le e e'
 | .rt d,.rt d'=>d=d'
 | _,_=>False
def LeR(r1 r2:R Fl):Prop:=match r1 with
 | .ok a S=>∃ b,r2=.ok b S/\LeF a b
 | .ex n S=>r2=.ex n S
 | .bad=>True
theorem LeR.bind{α:Type}{r1 r2:R α}{k1 k2:α->Sto->R Fl}(h:r1≠.bad->r2=r1)(hk:∀ a S,LeR (k1 a S) (k2 a S)):LeR (r1.bind k1) (r2.bind k2):=by
 cases r1 with
 | ok a S=>rw[h (fun z=>nomatch z)]; exact hk a S
 | ex n S=>rw[h (fun z=>nomatch z)]; exact rfl
 | bad=>exact trivial
section
variable{F:Fn}{G:List D}
end
end Z
end
section
namespace Z
open PySem
theorem lt20{m:Int}(h:m < 1000000):m < 1048576:=by omega
theorem last_lst{S:Sto}{xs:List D}:lstAt (S++[.lst xs]) S.length=some xs:=by
 unfold lstAt;rw[List.getElem?_append_right (Nat.le_refl _),Nat.sub_self];rfl
theorem lst_app{S X:Sto}{q:Nat}{xs:List D}(h:lstAt S q=some xs):lstAt (S++X) q=some xs:=by
 unfold lstAt at h ⊢;cases e:S[q]? with
 | none=>rw[e] at h; cases h
 | some o=>rw[List.getElem?_append_left (List.getElem?_eq_some_iff.mp e).1]; exact h
theorem lst_lt{S:Sto}{p:Nat}{xs:List D}(hp:lstAt S p=some xs):p < S.length:=by
 unfold lstAt at hp;cases e:S[p]? with
 | none=>rw[e] at hp; cases hp
 | some o=>exact(List.getElem?_eq_some_iff.mp e).1
theorem set_lst{S:Sto}{p:Nat}{x:List D}(h:p < S.length):lstAt (S.set p (.lst x)) p=some x:=by
 unfold lstAt;rw[List.getElem?_set_self h]
theorem set_other{S:Sto}{p q:Nat}{o:O}(h:p≠q):lstAt (S.set p o) q=lstAt S q:=by
 unfold lstAt;rw[List.getElem?_set_ne h]
theorem idx0{S:Sto}{p:Nat}{v:Int}(h:lstAt S p=some [.int v]):idxR (.ref p) (.int 0) S=.ok (.int v) S:=by
 simp only[idxR,idxD,seqD,h,Option.bind_some,Z.ixN,List.length];rfl
theorem aset0{S:Sto}{p:Nat}{v:Int}{d:D}(h:lstAt S p=some [.int v]):asetD (.ref p) (.int 0) d S=.ok () (S.set p (.lst [d])):=by
 have h':Z.lstM S p=some [.int v]:=h;simp only[asetD,h',Z.ixN,List.length];rfl
section
variable{F:Fn}{G:List D}
noncomputable def bCell:Sts:=.cons (.ite (.cmp .lt (.var 1) (.blt .len (.cons (.var 0) .nil))) (.cons (.ret (.idx (.var 0) (.var 1))) .nil) .nil) (.cons (.ret (.cst (.int 0))) .nil)
noncomputable def dCell:Df:=⟨2,2,bCell⟩
theorem den_cell(ns:List Int)(j:Nat)(S:Sto):∃ c,den F G dCell [.fro (ns.map D.int),.int j] S=.ok (.int c) S:=by
 have hlen:bltD .len [.fro (ns.map D.int)] S=.ok (.int ns.length) S:=by simp only[bltD,seqD,List.length_map]
 by_cases h:j < ns.length
 ·refine⟨ns[j],?_⟩
  have hi:idxR (.fro (ns.map D.int)) (.int j) S=.ok (.int ns[j]) S:=by
   simp only[idxR,idxD,seqD,Option.bind_some,Z.ixN,List.length_map];rw[if_pos (by omega),if_pos (by omega)]
   simp[h]
  simp only[den,dCell,bCell,List.length,if_true,List.map,List.replicate,Nat.sub_self,List.append_nil];rw[exes_rt (d:=.int ns[j]) (S1:=S) (by
   have hc:decide ((j:Int) < (ns.length:Int))=true:=decide_eq_true (by omega)
   simp only[exe,ev,evs,gZ0,gS0,Rk0,hlen,cmpR,cmpD,ltD,hc,truD];simp only[exes,exe,ev,gZ0,gS0,Rk0,hi])]
 ·refine⟨0,?_⟩
  simp only[den,dCell,bCell,List.length,if_true,List.map,List.replicate,Nat.sub_self,List.append_nil];rw[exes_nx (e:=[some (.fro (ns.map D.int)),some (.int j)]) (S1:=S) (by
   have hc:decide ((j:Int) < (ns.length:Int))=false:=decide_eq_false (by omega)
   simp only[exe,ev,evs,gZ0,gS0,Rk0,hlen,cmpR,cmpD,ltD,hc,truD];simp only[exes])]
  simp only[exes,exe,ev,Rk0]
noncomputable def bTake:Sts:=.cons (.asg (.var 2) (.bin .mod (.idx (.var 0) (.cst (.int 0))) (.var 1))) (.cons (.aset (.var 0) (.cst (.int 0)) (.bin .fdiv (.idx (.var 0) (.cst (.int 0))) (.var 1))) (.cons (.ret (.var 2)) .nil))
noncomputable def dTake:Df:=⟨2,3,bTake⟩
theorem den_take{p:Nat}{v far:Int}{S:Sto}(h:lstAt S p=some [.int v])(h0:0 < far)(hd:divOk far=true):den F G dTake [.ref p,.int far] S=.ok (.int (v % far)) (S.set p (.lst [.int (v / far)])):=by
 have i0:=idx0 h;have a0:=aset0 (d:=.int (v / far)) h;simp only[den,dTake,bTake,List.length,if_true,List.map,List.replicate];rw[exes_nx (e:=[some (.ref p),some (.int far),some (.int (v % far))]) (S1:=S) (by simp only[exe,ev,List.cons_append,List.nil_append,gZ0,gS0,Rk0,i0,bin_mod h0,setTg,List.set])]
 rw[exes_nx (e:=[some (.ref p),some (.int far),some (.int (v % far))]) (S1:=S.set p (.lst [.int (v / far)])) (by simp only[exe,ev,gZ0,gS0,Rk0,i0,bin_fdiv hd,a0])]
 rw[exes_rt (d:=.int (v % far)) (S1:=S.set p (.lst [.int (v / far)])) (by simp only[exe,ev,gZ0,gS0,Rk0])]
noncomputable def bPot1:Sts:=.cons (.asg (.var 3) (.bin .mod (.bin .mul (.bin .add (.bin .add (.bin .mod (.var 0) (.cst (.int 2147483629))) (.bin .mul (.cst (.int 7919)) (.var 2))) (.cst (.int 1))) (.cst (.int 48271))) (.cst (.int 2147483647))))
  (.cons (.asg (.var 3) (.bin .mod (.bin .add (.bin .add (.bin .mul (.var 3) (.var 3)) (.bin .mul (.cst (.int 69621)) (.var 2))) (.cst (.int 7))) (.cst (.int 2147483587))))
  (.cons (.asg (.var 1) (.bin .add (.bin .mul (.var 1) (.cst (.int 2147483587))) (.var 3)))
  .nil))
noncomputable def bPot:Sts:=.cons (.ite (.cmp .ge (.var 0) (.bin .pow (.cst (.int 10)) (.cst (.int 18)))) (.cons (.ret (.lst (.cons (.bin .sub (.var 0) (.bin .pow (.cst (.int 10)) (.cst (.int 18)))) .nil))) .nil) .nil)
 (.cons (.asg (.var 1) (.cst (.int 0))) (.cons (.for (.var 2) (.rng (.cons (.cst (.int 64)) .nil)) bPot1) (.cons (.ret (.lst (.cons (.var 1) .nil))) .nil)))
noncomputable def dPot:Df:=⟨1,4,bPot⟩
theorem pot_step(c a j:Int)(x:Option D)(S:Sto):∃ a' b',exes F G bPot1 [some (.int c),some (.int a),some (.int j),x] S=.ok (.nx [some (.int c),some (.int a'),some (.int j),some (.int b')]) S:=by
 have m1:mulOk 7919 j=true:=mul_okL (by decide) (by decide)
 have m2:∀ y,mulOk y 48271=true:=fun y=>mul_okR (by decide) (by decide)
 have m3:mulOk 69621 j=true:=mul_okL (by decide) (by decide)
 have m4:∀ y,mulOk y 2147483587=true:=fun y=>mul_okR (by decide) (by decide)
 have p1:(0:Int) < 2147483629:=by decide
 have p2:(0:Int) < 2147483647:=by decide
 have p3:(0:Int) < 2147483587:=by decide
 generalize hb:((c % 2147483629 + 7919 * j + 1) * 48271) % 2147483647=b;have b1:0<=b:=by rw[<- hb]; exact Int.emod_nonneg _ (by decide)
 have b2:b < 2147483647:=by rw[<- hb]; exact Int.emod_lt_of_pos _ (by decide)
 have m5:mulOk b b=true:=mul_okR (by omega) (by omega)
 refine⟨a * 2147483587 + (b * b + 69621 * j + 7) % 2147483587,(b * b + 69621 * j + 7) % 2147483587,?_⟩;unfold bPot1;rw[exes_nx (e:=[some (.int c),some (.int a),some (.int j),some (.int b)]) (S1:=S) (by
  simp only[exe,ev,gZ0,gS0,Rk0,bin_mod p1,bin_mul m1,bin_add,bin_mul (m2 _),bin_mod p2,setTg,List.set,hb])]
 rw[exes_nx (e:=[some (.int c),some (.int a),some (.int j),some (.int ((b * b + 69621 * j + 7) % 2147483587))]) (S1:=S) (by
  simp only[exe,ev,gZ0,gS0,Rk0,bin_mul m5,bin_mul m3,bin_add,bin_mod p3,setTg,List.set])]
 rw[exes_nx (e:=[some (.int c),some (.int (a * 2147483587 + (b * b + 69621 * j + 7) % 2147483587)),some (.int j),some (.int ((b * b + 69621 * j + 7) % 2147483587))]) (S1:=S) (by
  simp only[exe,ev,gZ0,gS0,Rk0,bin_mul (m4 _),bin_add,setTg,List.set])]
 simp only[exes]
theorem pot_fin(c a:Int)(S:Sto)(e':En)(hc:¬ (10:Int) ^ (18:Int).toNat<=c)(h1:exe F G (.for (.var 2) (.rng (.cons (.cst (.int 64)) .nil)) bPot1) [some (.int c),some (.int 0),none,none] S=.ok (.nx e') S)(h2:e'[1]?=some (some (.int a))) :
  den F G dPot [.int c] S=.ok (.ref S.length) (S++[.lst [.int a]]):=by
 have hp:binD .pow (.int 10) (.int 18) S=.ok (.int (10 ^ (18:Int).toNat)) S:=bin_pow (by decide +kernel) S
 generalize (10:Int) ^ (18:Int).toNat=w at hp hc;simp only[den,dPot,bPot,List.length,if_true,List.map,List.replicate];rw[exes_nx (e:=[some (.int c),none,none,none]) (S1:=S) (by
  simp only[exe,ev,List.cons_append,List.nil_append,gZ0,gS0,Rk0,hp,cmpR,cmpD,truD,decide_eq_false hc];simp only[exes])]
 rw[exes_nx (e:=[some (.int c),some (.int 0),none,none]) (S1:=S) (by simp only[exe,ev,Rk0,setTg,List.set])]
 have h1':=exes_nx (ss:=.cons (.ret (.lst (.cons (.var 1) .nil))) .nil) h1;rw[h1'];rw[exes_rt (d:=.ref S.length) (S1:=S++[.lst [.int a]]) (by
  simp only[exe,ev,evs,h2,Rk0,List.length];rfl)]
theorem pot_great(c:Int)(S:Sto)(hc:(10:Int) ^ (18:Int).toNat<=c):∃ a,den F G dPot [.int c] S=.ok (.ref S.length) (S++[.lst [.int a]]):=by
 have hp:binD .pow (.int 10) (.int 18) S=.ok (.int (10 ^ (18:Int).toNat)) S:=bin_pow (by decide +kernel) S
 generalize (10:Int) ^ (18:Int).toNat=w at hp hc;refine⟨c - w,?_⟩;simp only[den,dPot,bPot,List.length,if_true,List.map,List.replicate];rw[exes_rt (d:=.ref S.length) (S1:=S++[.lst [.int (c - w)]]) (by
  simp only[exe,ev,List.cons_append,List.nil_append,gZ0,gS0,Rk0,hp,cmpR,cmpD,truD,decide_eq_true hc];rw[exes_rt (d:=.ref S.length) (S1:=S++[.lst [.int (c - w)]]) (by
   simp only[exe,ev,evs,gZ0,Rk0,hp,bin_sub,List.length];rfl)])]
theorem den_pot(c:Int)(S:Sto):∃ a,den F G dPot [.int c] S=.ok (.ref S.length) (S++[.lst [.int a]]):=by
 by_cases hc:(10:Int) ^ (18:Int).toNat<=c
 ·exact pot_great c S hc
 obtain⟨xs,hx,hl⟩:=rng1_some (m:=(64:Int)) (by decide) (lt20 (by decide))
 have loop:=exe_rng (F:=F) (G:=G) (t:=.var 2) (es:=.cons (.cst (.int 64)) .nil) (b:=bPot1)
  (env:=[some (.int c),some (.int 0),none,none]) (S:=S) (S1:=S) (ds:=[.int 64]) (xs:=xs) (fun i e S'=>S'=S/\∃ a x y,e=[some (.int c),some (.int a),x,y])
  (by simp only[evs,ev,Rk0]) hx ⟨rfl,0,none,none,rfl⟩ (fun i d e S' hd hP=>by
   obtain⟨rfl,a,x,y,rfl⟩:=hP;obtain⟨rfl,hi⟩:=rng1_get hx hd;obtain⟨a',b',st⟩:=pot_step (F:=F) (G:=G) c a i y S';exact⟨_,_,S',rfl,st,rfl,a',_,_,rfl⟩)
 obtain⟨e',S',h1,rfl,a,x,y,rfl⟩:=loop;exact⟨a,pot_fin c a S' _ hc h1 rfl⟩
noncomputable def wh:D->Bool
 | .int _=>true
 | _=>false
def good(S:Sto)(d:D):Prop:=∃ k,kdD S d=some k/\∀ c,k≠.exc c
theorem isi_int{k:Kd}(h:∀ c,k≠.exc c):∃ b,isTs k [.int]=some b/\(b=true ↔ k=.int\/k=.bool):=by
 cases k <;> first | exact⟨_,rfl,by simp⟩ | exact absurd rfl (h _)
theorem isi_bool{k:Kd}(h:∀ c,k≠.exc c):∃ b,isTs k [.bool]=some b/\(b=true ↔ k=.bool):=by
 cases k <;> first | exact⟨_,rfl,by simp⟩ | exact absurd rfl (h _)
theorem wh_kd{S:Sto}{d:D}{k:Kd}(h:kdD S d=some k):wh d=true ↔ k=.int:=by
 cases d with
 | ref n =>
  simp only[kdD] at h;split at h <;> first | (cases h; simp[wh]) | cases h
 | fn _ _=>cases h
 | _=>cases h; simp[wh]
noncomputable def bWhole:Sts:=.cons (.ret (.and (.isi (.var 0) [.int]) (.not (.isi (.var 0) [.bool])))) .nil
noncomputable def dWhole:Df:=⟨1,1,bWhole⟩
theorem den_whole{d:D}{S:Sto}(h:good S d):den F G dWhole [d] S=.ok (.bl (wh d)) S:=by
 obtain⟨kd,h1,h2⟩:=h;obtain⟨b1,i1,j1⟩:=isi_int h2;obtain⟨b2,i2,j2⟩:=isi_bool h2;have hw:=wh_kd h1;simp only[den,dWhole,bWhole,List.length,exes,exe,ev,List.map,List.replicate,if_true,Nat.sub_self,List.append_nil,gZ0,Rk0,h1,Option.bind_some,i1,i2,truD];cases b1 with
 | false =>
  have e:wh d=false:=by
   cases q:wh d with
   | false=>rfl
   | true=>exact absurd (j1.mpr (.inl (hw.mp q))) Bool.false_ne_true
  rw[e]; rfl
 | true =>
  cases b2 with
  | false =>
   have e:wh d=true:=hw.mpr (by rcases j1.mp rfl with z | z; exact z; exact absurd (j2.mpr z) Bool.false_ne_true)
   rw[e]; rfl
  | true =>
   have e:wh d=false:=by
    cases q:wh d with
    | false=>rfl
    | true=>have z1:=hw.mp q; have z2:=j2.mp rfl; rw[z1] at z2; cases z2
   rw[e]; rfl
noncomputable def wi(d:D)(lo hi:Int):Bool:=match d with
 | .int i=>decide (lo<=i) && decide (i<=hi)
 | _=>false
noncomputable def bWithin(f:Nat):Sts:=.cons (.ret (.and (.call f (.cons (.var 0) .nil)) (.chn .le .le (.var 1) (.var 0) (.var 2)))) .nil
noncomputable def dWithin(f:Nat):Df:=⟨3,3,bWithin f⟩
theorem den_within{f:Nat}{d:D}{lo hi:Int}{S:Sto}(h:F f [d] S=.ok (.bl (wh d)) S):den F G (dWithin f) [d,.int lo,.int hi] S=.ok (.bl (wi d lo hi)) S:=by
 simp only[den,dWithin,bWithin,List.length,exes,exe,ev,evs,List.map,List.replicate,if_true,Nat.sub_self,List.append_nil,gZ0,gS0,Rk0,h,truD];cases d with
 | int i =>
  simp only[wh,wi,cmpD,cmpR];cases decide (lo<=i) <;> rfl
 | _=>rfl
theorem wi_int{i lo hi:Int}(h1:lo<=i)(h2:i<=hi):wi (.int i) lo hi=true:=by
 simp only[wi,decide_eq_true h1,decide_eq_true h2,Bool.and_self]
theorem good_int(S:Sto)(i:Int):good S (.int i):=⟨.int,rfl,fun c z=>nomatch z⟩
theorem good_app{S X:Sto}{d:D}(h:good S d):good (S++X) d:=by
 obtain⟨k,h1,h2⟩:=h;cases d with
 | ref n =>
  refine⟨k,?_,h2⟩;simp only[kdD] at h1 ⊢;cases e:S[n]? with
  | none=>rw[e] at h1; cases h1
  | some o=>rw[List.getElem?_append_left (List.getElem?_eq_some_iff.mp e).1,e]; rw[e] at h1; exact h1
 | _=>exact⟨k,h1,h2⟩
theorem good_flat(S:Sto)(d:D)(h:∀ n,d≠.ref n)(hf:∀ f m,d≠.fn f m:=by intro _ _ z; cases z):good S d:=by
 cases d with
 | fn f m=>exact absurd rfl (hf f m)
 | ref n=>exact absurd rfl (h n)
 | non=>exact⟨.non,rfl,fun _ z=>nomatch z⟩
 | bl _=>exact⟨.bool,rfl,fun _ z=>nomatch z⟩
 | int _=>exact⟨.int,rfl,fun _ z=>nomatch z⟩
 | str _=>exact⟨.str,rfl,fun _ z=>nomatch z⟩
 | tup _=>exact⟨.tuple,rfl,fun _ z=>nomatch z⟩
 | fro _=>exact⟨.list,rfl,fun _ z=>nomatch z⟩
theorem if_pass{c:Ex}{a:Sts}{env:En}{S S':Sto}(h:ev F G c env S=.ok (.bl false) S'):exe F G (.ite c a .nil) env S=.ok (.nx env) S':=by
 rw[exe,h,Rk0];simp only[truD,exes]
end
noncomputable def four(c1 c2 c3 c4:Nat):Ex:=.lst (.cons (.isi (.var 0) [.cls c1]) (.cons (.isi (.var 0) [.cls c2]) (.cons (.isi (.var 0) [.cls c3]) (.cons (.isi (.var 0) [.cls c4]) .nil))))
noncomputable def words1:List D:=[.str "net",.str "face",.str "point",.str "apart",.str "many",.str "text",.str "row",.str "number",.str "level",.str "crowd",.str "way",.str "closed"]
noncomputable def words2:List D:=[.str "swap",.str "places",.str "deed",.str "line"]
noncomputable def exStrs:List D->Exs
 | []=>.nil
 | d :: r=>.cons (.cst d) (exStrs r)
noncomputable def bKind:Sts:=.cons (.asg (.var 1) (four 1 2 3 4)) (.cons (.asg (.var 1) (.bin .add (.var 1) (four 5 6 7 8))) (.cons (.asg (.var 1) (.bin .add (.var 1) (four 9 10 11 12))) (.cons (.asg (.var 1) (.bin .add (.var 1) (four 13 14 15 16)))
  (.cons (.ite (.or (.cmp .ne (.mth .count (.var 1) (.cons (.cst (.bl true)) .nil)) (.cst (.int 1))) (.not (.isi (.var 0) [.valueError]))) (.cons (.ret (.cst (.str "other"))) .nil) .nil)
  (.cons (.asg (.var 2) (.lst (exStrs words1))) (.cons (.ret (.idx (.bin .add (.var 2) (.lst (exStrs words2))) (.mth .index (.var 1) (.cons (.cst (.bl true)) .nil)))) .nil))))))
noncomputable def dKind:Df:=⟨1,3,bKind⟩
noncomputable def wordOf(c:Nat):D:=(words1++words2).getD (c - 1) .non
theorem kind_val(F:Fn)(G:List D):∀ c:Fin 16,valR (den F G dKind [.ref 0] [.exc (c.val + 1)])=some (wordOf (c.val + 1))
 | ⟨0,_⟩=>by kernel_rfl
 | ⟨1,_⟩=>by kernel_rfl
 | ⟨2,_⟩=>by kernel_rfl
 | ⟨3,_⟩=>by kernel_rfl
 | ⟨4,_⟩=>by kernel_rfl
 | ⟨5,_⟩=>by kernel_rfl
 | ⟨6,_⟩=>by kernel_rfl
 | ⟨7,_⟩=>by kernel_rfl
 | ⟨8,_⟩=>by kernel_rfl
 | ⟨9,_⟩=>by kernel_rfl
 | ⟨10,_⟩=>by kernel_rfl
 | ⟨11,_⟩=>by kernel_rfl
 | ⟨12,_⟩=>by kernel_rfl
 | ⟨13,_⟩=>by kernel_rfl
 | ⟨14,_⟩=>by kernel_rfl
 | ⟨15,_⟩=>by kernel_rfl
 | ⟨n + 16,h⟩=>absurd h (by omega)
theorem flts_G{G:List D}(hG:flts G=true)(n:Nat):∀ d∈G,sh n d=d:=fun d hd=>by
 have z:=flts_map n hG;obtain⟨i,hi,rfl⟩:=List.mem_iff_getElem.mp hd;have:=congrArg (·[i]?) z;simp[hi] at this;exact this
theorem ft_kind{T:List Df}{G:List D}(hT:(T.all fun d=>clnSs d.body)=true)(hG:flts G=true){k f:Nat}(hf:T[f]?=some dKind){c:Nat}(h1:1<=c)(h2:c<=16)(P:Sto) :
  ∃ X,FT T G (k + 1) f [.ref P.length] (P++[.exc c])=.ok (wordOf c) (P++X):=by
 have v:=kind_val (FT T G k) G ⟨c - 1,by omega⟩
 simp only[show c - 1 + 1=c by omega] at v
 have e:=val_ok v;have m:=FT_sh hT P (flts_G hG _) (k + 1) f [.ref 0] [.exc c];have ek:FT T G (k + 1) f [.ref 0] [.exc c]=den (FT T G k) G dKind [.ref 0] [.exc c]:=by simp only[FT,hf]
 rw[ek,e] at m;have fw:∀ c:Fin 17,flt (wordOf c.val)=true:=by decide +kernel
 have s1:shS P [.exc c]=P++[.exc c]:=by simp[shS,shO]
 simp only[List.map,sh_ref,Nat.add_zero,s1] at m;rw[m];simp only[shR,flt_sh _ _ (fw ⟨c,by omega⟩),shS]
 exact⟨_,rfl⟩
def Takes(F:Fn)(f:Nat):Prop:=∀ (p:Nat) (v far:Int) (S:Sto),lstAt S p=some [.int v]->0 < far->divOk far=true->F f [.ref p,.int far] S=.ok (.int (v % far)) (S.set p (.lst [.int (v / far)]))
theorem takes_of{T:List Df}{G:List D}{f:Nat}(hf:T[f]?=some dTake)(k:Nat):Takes (FT T G (k + 1)) f:=fun p v far S h h0 hd=>by
 simp only[FT,hf];exact den_take h h0 hd
theorem pick{F:Fn}{G:List D}{f q:Nat}(hF:Takes F f){es:Exs}{ds:List D}{c:Int}{p:Nat}{v:Int}{env:En}{S S':Sto}(he:evs F G es env S=.ok ds S')(hc:(ds.length:Int)=c)(h0:0 < c)(hz:ds.length<=big)(hd:divOk c=true)(h5:env[q]?=some (some (.ref p)))(hp:lstAt S' p=some [.int v]) :
  ∃ d∈ds,ev F G (.idx (.lst es) (.call f (.cons (.var q) (.cons (.cst (.int c)) .nil)))) env S=.ok d ((S'++[O.lst ds]).set p (.lst [.int (v / c)])):=by
 have tk:=hF p v c (S'++[.lst ds]) (lst_app hp) h0 hd;have r0:=Int.emod_nonneg v (Int.ne_of_gt h0);have r1:=Int.emod_lt_of_pos v h0;have hlt:(v % c).toNat < ds.length:=by omega
 have hpl:=lst_lt hp;have hl:lstAt ((S'++[O.lst ds]).set p (.lst [.int (v / c)])) S'.length=some ds:=by
  rw[set_other (by omega)]
  exact last_lst
 refine⟨ds[(v % c).toNat],List.getElem_mem hlt,?_⟩;have hi:idxR (.ref S'.length) (.int (v % c)) ((S'++[O.lst ds]).set p (.lst [.int (v / c)]))=.ok ds[(v % c).toNat] ((S'++[O.lst ds]).set p (.lst [.int (v / c)])):=by
  simp only[idxR,idxD,seqD,hl,Option.bind_some,Z.ixN];rw[if_pos r0,if_pos (by omega)]
  simp only[Option.bind_some,List.getElem?_eq_getElem hlt]
 simp only[ev,he,evs,h5,Rk0,hz,if_true,tk,hi]
theorem pot_after{S':Sto}{ds:List D}{p:Nat}{v c:Int}(hp:lstAt S' p=some [.int v]):lstAt ((S'++[O.lst ds]).set p (.lst [.int (v / c)])) p=some [.int (v / c)]:=by
 refine set_lst ?_;have:=lst_lt hp;simp; omega
theorem turns{F:Fn}{G:List D}{env:En}{S:Sto}{ns:List Int}(c:Int)(h1:1<=c)(h2:c < 1000000)(h0:env[0]?=some (some (.fro (ns.map D.int)))) :
  ∃ m:Int,evs F G (.cons (.blt .max (.cons (.cst (.int 1)) (.cons (.blt .min (.cons (.blt .len (.cons (.var 0) .nil)) (.cons (.cst (.int c)) .nil))) .nil))) .nil) env S=.ok [.int m] S/\0<=m/\m<=c:=by
 have hlen:bltD .len [.fro (ns.map D.int)] S=.ok (.int ns.length) S:=by simp only[bltD,seqD,List.length_map]
 have hmin:∀ i j:Int,bltD .min [.int i,.int j] S=.ok (.int (if j < i then j else i)) S:=fun _ _=>rfl
 have hmax:∀ i j:Int,bltD .max [.int i,.int j] S=.ok (.int (if j > i then j else i)) S:=fun _ _=>rfl
 refine⟨if (if c < (ns.length:Int) then c else (ns.length:Int)) > 1 then (if c < (ns.length:Int) then c else (ns.length:Int)) else 1,by simp only[evs,ev,h0,Rk0,hlen,hmin,hmax],?_,?_⟩
 ·split
  ·split <;> omega
  ·omega
 ·split
  ·split <;> omega
  ·omega
end Z
end
section
namespace Z
noncomputable def stepL(s:Int)(f:List Int):List Int:=List.zipWith (fun a b=>a + s * b) (f++[0]) (0 :: f)
noncomputable def stepT(s:Int)(f:List Int)(n:Int):List Int:=(stepL s f).set f.length ((stepL s f).getD f.length 0 + n)
end Z
end
section
namespace Z
open PySem
section
variable{F:Fn}{G:List D}
theorem cloop_inv{get:Sto->Nat->Option (Option D)}{t:Tg}{body:En->List D->Sto->R (List D)}(xs:List D)(y:Nat->D)(P:Nat->En->Sto->Prop)(hget:∀ i e S,P i e S->get S i=some xs[i]?)
  (step:∀ i d e S,xs[i]?=some d->P i e S->∃ e1 S2,setTg t d e=some e1/\body e1 ((List.range i).map y) S=.ok ((List.range (i + 1)).map y) S2/\P (i + 1) e1 S2) :
  ∀ (fuel i:Nat) (e:En) (S:Sto),P i e S->i<=xs.length->xs.length < fuel + i->∃ e' S',cloop get t body fuel i e ((List.range i).map y) S=.ok ((List.range xs.length).map y) S'/\P xs.length e' S'
 | 0,i,e,S,h,h1,h2=>by omega
 | fuel + 1,i,e,S,h,h1,h2=>by
  cases q:xs[i]? with
  | none =>
   have hi:i=xs.length:=by
    have:=List.getElem?_eq_none_iff.mp q;omega
   refine⟨e,S,?_,hi ▸ h⟩;simp only[cloop,hget i e S h,q];rw[hi]
  | some d =>
   obtain⟨e1,S2,a1,a2,a3⟩:=step i d e S q h;have hi:i < xs.length:=(List.getElem?_eq_some_iff.mp q).1;obtain⟨e',S',b1,b2⟩:=cloop_inv xs y P hget step fuel (i + 1) e1 S2 a3 (by omega) (by omega)
   refine⟨e',S',?_,b2⟩;simp only[cloop,hget i e S h,q,a1,a2];exact b1
theorem le_big{n:Nat}(h:n<=1000):n<=big:=Nat.le_trans h (by decide)
theorem ev_cmr{it:It}{t:Tg}{n:Nat}{elt:Ex}{env:En}{S S1:Sto}{src:Src}(xs:List D)(y:Nat->D)(P:Nat->En->Sto->Prop)(hit:evit F G it env S=.ok src S1)(hm:src.most S1=xs.length)(hb:xs.length<=big)
  (h0:P 0 (env++List.replicate n none) S1) (hget:∀ i e S,P i e S->src.get S i=some xs[i]?)
  (step:∀ i d e S,xs[i]?=some d->P i e S->∃ e1 S2,setTg t d e=some e1/\ev F G elt e1 S=.ok (y i) S2/\P (i + 1) e1 S2) :
  ∃ e' S',ev F G (.cmr false n (.cons t it .nil .nil) elt) env S=.ok (.ref S'.length) (S'++[.lst ((List.range xs.length).map y)])/\P xs.length e' S':=by
 obtain⟨e',S',a,b⟩:=cloop_inv (get:=src.get) (t:=t) (body:=TestP (fun env S=>evts F G .nil env S) (fun env acc S=>(ev F G elt env S).bind fun y S=>if acc.length < big then .ok (acc++[y]) S else .bad)) xs y P hget
  (fun i d e S hd hP=>by
   obtain⟨e1,S2,a1,a2,a3⟩:=step i d e S hd hP;refine⟨e1,S2,a1,?_,a3⟩;have hi:i < xs.length:=(List.getElem?_eq_some_iff.mp hd).1;simp only[TestP,evts,Rk0,if_true,a2,List.length_map,List.length_range];rw[if_pos (by omega),List.range_succ,List.map_append]
   rfl) (xs.length + 1) 0 _ S1 h0 (Nat.zero_le _) (by omega)
 refine⟨e',S',?_,b⟩;simp only[ev,hit,Rk0,hm];have a':cloop src.get t (TestP (fun env S=>evts F G .nil env S) (fun env acc S=>(ev F G elt env S).bind fun y S=>if acc.length < big then .ok (acc++[y]) S else .bad)) (xs.length + 1) 0 (env++List.replicate n none) [] S1=.ok ((List.range xs.length).map y) S':=a
 rw[a'];simp only[Rk0];rfl
theorem it_rng{es:Exs}{env:En}{S S1:Sto}{ds xs:List D}(h1:evs F G es env S=.ok ds S1)(h2:rngD ds=some xs):evit F G (.rng es) env S=.ok (.con xs) S1:=by simp only[evit,h1,Rk0,h2]
theorem it_tup{e:Ex}{env:En}{S S1:Sto}{xs:List D}(h1:ev F G e env S=.ok (.tup xs) S1):evit F G (.val e) env S=.ok (.con xs) S1:=by simp only[evit,h1,Rk0,srcD]
noncomputable def bWays1:Sts:=.cons (.asg (.var 2) (.bin .fdiv (.bin .mul (.var 2) (.bin .sub (.var 0) (.var 3))) (.bin .add (.var 3) (.cst (.int 1))))) .nil
noncomputable def dWays:Df:=⟨2,4,.cons (.asg (.var 2) (.cst (.int 1))) (.cons (.for (.var 3) (.rng (.cons (.var 1) .nil)) bWays1) (.cons (.ret (.var 2)) .nil))⟩
theorem div13{i:Nat}(h:i < 13):divOk ((i:Int) + 1)=true:=by
 have:∀ j:Fin 13,divOk ((j.val:Int) + 1)=true:=by decide +kernel
 exact this ⟨i,h⟩
theorem ways_gen(n m t i:Int)(S:Sto)(hmul:mulOk t (n - i)=true)(hdiv:divOk (i + 1)=true):exes F G bWays1 [some (.int n),some (.int m),some (.int t),some (.int i)] S=.ok (.nx [some (.int n),some (.int m),some (.int (t * (n - i) / (i + 1))),some (.int i)]) S:=by
 unfold bWays1;refine exes_nx (e:=[some (.int n),some (.int m),some (.int (t * (n - i) / (i + 1))),some (.int i)]) (S1:=S) ?_;simp only[exe,ev,gZ0,gS0,Rk0,bin_sub,bin_mul hmul,bin_add,bin_fdiv hdiv,setTg,List.set]
theorem ways_fin(n m t:Int)(S:Sto)(e':En)(S':Sto)(h1:exe F G (.for (.var 3) (.rng (.cons (.var 1) .nil)) bWays1) [some (.int n),some (.int m),some (.int 1),none] S=.ok (.nx e') S')(h2:e'[2]?=some (some (.int t))) :
  den F G dWays [.int n,.int m] S=.ok (.int t) S':=by
 simp only[den,dWays,List.length,if_true,List.map,List.replicate];rw[exes_nx (e:=[some (.int n),some (.int m),some (.int 1),none]) (S1:=S) (by simp only[exe,ev,Rk0,setTg]; rfl)]
 rw[exes_nx (ss:=.cons (.ret (.var 2)) .nil) h1];rw[exes_rt (d:=.int t) (S1:=S') (by simp only[exe,ev,h2,Rk0])]
noncomputable def part(row:List Int)(p a:Nat):Int:=row.getD a 0 * (C (row.length - 1 - a) (p - a):Int)
end
end Z
end
section
namespace Z
open PySem
section
variable{F:Fn}{G:List D}
noncomputable def envR(row:D)(x:Option D):En:=[some row,none,x]
noncomputable def dRow(ic:Nat)(elt:Ex):Df:=⟨1,1,.cons (.expr (.call ic (.cons (.var 0) .nil))) (.cons (.ret (.blt .tuple (.cons (.cmr false 2 (.cons (.var 2) (.rng (.cons (.blt .len (.cons (.var 0) .nil)) .nil)) .nil .nil) elt) .nil))) .nil)⟩
theorem den_row{ic:Nat}{elt:Ex}{row:D}{d:D}{S S1 S2:Sto}(hc:F ic [row] S=.ok .non S1)(h:ev F G (.blt .tuple (.cons (.cmr false 2 (.cons (.var 2) (.rng (.cons (.blt .len (.cons (.var 0) .nil)) .nil)) .nil .nil) elt) .nil)) [some row] S1=.ok d S2) :
  den F G (dRow ic elt) [row] S=.ok d S2:=by
 simp only[den,dRow,List.length,if_true,List.map,List.replicate,Nat.sub_self,List.append_nil];rw[exes_nx (e:=[some row]) (S1:=S1) (by simp only[exe,ev,evs,gZ0,Rk0,hc])]
 rw[exes_rt (d:=d) (S1:=S2) (by simp only[exe]; rw[h,Rk0])]
noncomputable def tupI(l:List Int):D:=.tup (l.map D.int)
end
end Z
end
section
namespace Z
open PySem
section
variable{F:Fn}{G:List D}
def Wholes(F:Fn)(i:Nat):Prop:=∀ (d:D) (S:Sto),good S d->F i [d] S=.ok (.bl (wh d)) S
theorem allBls_map:∀ l:List Bool,allBls (l.map D.bl)=some l
 | []=>rfl
 | x :: l=>by simp only[List.map,allBls,allBls_map l,Option.map_some]
noncomputable def allWh(i0:Nat):Ex:=.blt .all (.cons (.cmr false 2 (.cons (.var 2) (.val (.var 0)) .nil .nil) (.call i0 (.cons (.var 2) .nil))) .nil)
noncomputable def dWTup(i0:Nat):Df:=⟨1,1,.cons (.ret (.and (.isi (.var 0) [.tuple]) (allWh i0))) .nil⟩
theorem all_lst{S:Sto}{l:List Bool}:bltD .all [.ref S.length] (S++[.lst (l.map D.bl)])=.ok (.bl (l.all id)) (S++[.lst (l.map D.bl)]):=by
 simp only[bltD,last_lst,Option.bind_some,allBls_map]
theorem range_map{α β:Type}[Inhabited α](f:α->β)(xs:List α):(List.range xs.length).map (fun i=>f (xs.getD i default))=xs.map f:=by
 refine List.ext_getElem (by simp) fun i h1 h2=>?_
 have:i < xs.length:=by simpa using h2
 simp[this]
theorem ev_allWh{i0:Nat}(hw:Wholes F i0){xs:List D}{S:Sto}(hg:∀ d∈xs,good S d)(hl:xs.length<=1000):ev F G (allWh i0) [some (.tup xs)] S=.ok (.bl (xs.all wh)) (S++[.lst ((xs.map wh).map D.bl)]):=by
 obtain⟨e',S',h2,h3,h4⟩:=ev_cmr (F:=F) (G:=G) (t:=.var 2) (n:=2) (elt:=.call i0 (.cons (.var 2) .nil)) (env:=[some (.tup xs)]) (S:=S) (S1:=S) xs (fun i=>.bl (wh (xs.getD i default)))
  (fun i e S'=>S'=S/\∃ x,e=envR (.tup xs) x)
  (it_tup (e:=.var 0) (by simp only[ev,gZ0])) rfl (le_big hl) ⟨rfl,none,rfl⟩ (fun _ _ _ _=>rfl)
  (fun i d e S' hd hP=>by
   obtain⟨rfl,x,rfl⟩:=hP;have hm:d∈xs:=List.mem_of_getElem? hd;have e:xs.getD i default=d:=by rw[List.getD_eq_getElem?_getD,hd]; rfl
   refine⟨envR (.tup xs) (some d),S',rfl,?_,rfl,some d,rfl⟩;rw[e];simp only[ev,evs,envR,gZ0,gS0,Rk0,hw d S' (hg d hm)])
 have h3':S'=S:=h3;subst h3';have e1:((List.range xs.length).map fun i=>D.bl (wh (xs.getD i default)))=(xs.map wh).map D.bl:=by
  rw[range_map (fun d=>D.bl (wh d)) xs,List.map_map]; rfl
 rw[e1] at h2;simp only[allWh,ev,evs] at h2 ⊢;rw[h2];simp only[Rk0];rw[all_lst];simp[Function.comp]
theorem wtup_yes{i0:Nat}(hw:Wholes F i0){xs:List D}{S:Sto}(hg:∀ d∈xs,good S d)(hl:xs.length<=1000):den F G (dWTup i0) [.tup xs] S=.ok (.bl (xs.all wh)) (S++[.lst ((xs.map wh).map D.bl)]):=by
 have h:=ev_allWh (G:=G) hw hg hl;have hk:kdD S (.tup xs)=some .tuple:=rfl;simp only[den,dWTup,List.length,if_true,List.map,List.replicate,Nat.sub_self,List.append_nil];rw[exes_rt (d:=.bl (xs.all wh)) (S1:=S++[.lst ((xs.map wh).map D.bl)]) (by
  simp only[exe];rw[ev,ev];simp only[ev,gZ0,Rk0,hk,Option.bind_some,isTs,isT,truD];rw[h,Rk0])]
theorem isi_no{k:Kd}(h:∀ c,k≠.exc c)(hn:k≠.tuple):isTs k [.tuple]=some false:=by
 cases k <;> first | rfl | exact absurd rfl (h _) | exact absurd rfl hn
theorem wtup_no{i0:Nat}{d:D}{k:Kd}{S:Sto}(hk:kdD S d=some k)(h:∀ c,k≠.exc c)(hn:k≠.tuple):den F G (dWTup i0) [d] S=.ok (.bl false) S:=by
 have hi:=isi_no h hn;simp only[den,dWTup,List.length,if_true,List.map,List.replicate,Nat.sub_self,List.append_nil];rw[exes_rt (d:=.bl false) (S1:=S) (by
  simp only[exe];rw[ev,ev];simp only[ev,gZ0,Rk0,hk,Option.bind_some,hi,truD])]
noncomputable def wt:D->Bool
 | .tup xs=>xs.all wh
 | _=>false
def WTups(F:Fn)(i:Nat):Prop:=∀ (d:D) (S:Sto),good S d->(∀ xs,d=.tup xs->(∀ x∈xs,good S x)/\xs.length<=1000)->∃ X,F i [d] S=.ok (.bl (wt d)) (S++X)
theorem wtups_of{T:List Df}{i0 i:Nat}(hf:T[i]?=some (dWTup i0))(k:Nat)(hw:Wholes (FT T G k) i0):WTups (FT T G (k + 1)) i:=fun d S hg ht=>by
 simp only[FT,hf]
 by_cases h:∃ xs,d=.tup xs
 ·obtain⟨xs,rfl⟩:=h
  obtain⟨h1,h2⟩:=ht xs rfl;exact⟨_,wtup_yes hw h1 h2⟩
 ·obtain⟨kd,h1,h2⟩:=hg
  have hn:kd≠.tuple:=fun z=>by
   subst z;cases d with
   | tup xs=>exact h ⟨xs,rfl⟩
   | ref n =>
    simp only[kdD] at h1;split at h1 <;> cases h1
   | _=>cases h1
  have e:wt d=false:=by
   cases d with
   | tup xs=>exact absurd ⟨xs,rfl⟩ h
   | _=>rfl
  refine⟨[],?_⟩;rw[e,List.append_nil];exact wtup_no h1 h2 hn
theorem wholes_of{T:List Df}{i:Nat}(hf:T[i]?=some dWhole)(k:Nat):Wholes (FT T G (k + 1)) i:=fun d S h=>by
 simp only[FT,hf];exact den_whole h
noncomputable def dIsRow(i2:Nat)(ig:Nat:=0):Df:=⟨1,1,.cons (.ret (.and (.call i2 (.cons (.var 0) .nil)) (.chn .le .le (.cst (.int 1)) (.blt .len (.cons (.var 0) .nil)) (.bin .add (.glb ig) (.cst (.int 1)))))) .nil⟩
noncomputable def dChk(i4:Nat):Df:=⟨1,1,.cons (.ite (.not (.call i4 (.cons (.var 0) .nil))) (.cons (.rse 7 (.cst (.str "a row is due"))) .nil) .nil) .nil⟩
theorem chk_ev{i4:Nat}{d:D}{S S1:Sto}(h:F i4 [d] S=.ok (.bl true) S1):den F G (dChk i4) [d] S=.ok .non S1:=by
 simp only[den,dChk,List.length,if_true,List.map,List.replicate,Nat.sub_self,List.append_nil];rw[exes_nx (e:=[some d]) (S1:=S1) (if_pass (by simp only[ev,evs,gZ0,Rk0,h,truD]; rfl))]
 simp only[exes]
theorem cut_take{α:Type}(xs:List α)(n:Nat):cut xs none (some (n:Int))=xs.take n:=by
 unfold cut clip;simp only[List.drop_zero,Nat.sub_zero];rw[if_pos (by omega)]
 simp only[Int.toNat_natCast]
 by_cases h:n<=xs.length
 ·rw[Nat.min_eq_left h]
 ·rw[Nat.min_eq_right (by omega),List.take_of_length_le (by omega),List.take_of_length_le (by omega)]
end
end Z
end
section
namespace Z
open PySem
noncomputable def ps(l:List Int)(k:Nat):Int:=(l.take k).sum
noncomputable def pre(l:List Int)(n:Nat):List Int:=(List.range n).map fun j=>ps l (j + 1)
section
variable{F:Fn}{G:List D}
theorem if_raise'{c:Ex}{k:Nat}{s:Str}{env:En}{S S1:Sto}(h:ev F G c env S=.ok (.bl true) S1):exe F G (.ite c (.cons (.rse k (.cst (.str s))) .nil) .nil) env S=.ex S1.length (S1++[.exc k]):=by
 rw[exe,h,Rk0];simp only[truD,exes,exe,ev,Rk0]
variable{i1 i2 ih:Nat}{d e:D}{g:Int}{S S1:Sto}
theorem ne_int(i j:Int)(S:Sto):cmpR .ne (.int i) (.int j) S=.ok (.bl (!(i == j))) S:=by
 simp only[cmpR,cmpD,eqD,twoS,datD,datF,PyData.canLay0,PyData.depth,PyData.eqv];rfl
end
end Z
end
section
namespace Z
open PySem
section
variable{F:Fn}{G:List D}
theorem app_lst{S:Sto}{q:Nat}{xs:List D}{x:D}(h:lstAt S q=some xs)(hl:xs.length < 1000):mthD .append (.ref q) [x] S=.ok .non (S.set q (.lst (xs++[x]))):=by
 have h':lstM S q=some xs:=h;simp only[mthD,h'];rw[if_pos (Nat.lt_of_lt_of_le hl (by decide))]
theorem mul_rep{x:List D}{k:Int}{S:Sto}(h1:k < 1048576)(h2:x.length * k.toNat<=big)(h3:-(1048576) < k)(h4:x.isEmpty=false):binD .mul (.tup x) (.int k) S=.ok (.tup (List.replicate k.toNat x).flatten) S:=by
 simp only[binD];rw[if_pos ⟨h1,h2,h3,h4⟩]
theorem sli_tupI(a:List Int)(n:Nat)(S:Sto):sliD (tupI a) none (some (n:Int)) S=.ok (tupI (a.take n)) S:=by
 unfold tupI;simp only[sliD,cut_take,List.map_take]
end
end Z
end
section
namespace Z
open PySem
section
variable{F:Fn}{G:List D}
theorem add_lst{S:Sto}{a b:Nat}{x y:List D}(h1:lstAt S a=some x)(h2:lstAt S b=some y)(hl:x.length + y.length<=1000):binD .add (.ref a) (.ref b) S=.ok (.ref S.length) (S++[.lst (x++y)]):=by
 have h1':lstM S a=some x:=h1;have h2':lstM S b=some y:=h2;simp only[binD,h1',h2'];exact if_pos (le_big hl)
end
end Z
end
section
namespace Z
open PySem
section
variable{F:Fn}{G:List D}
theorem ix_last(n:Nat):Z.ixN (n + 1) (-1)=some n:=by
 unfold Z.ixN;rw[if_neg (by omega),if_pos (by omega)]
 congr 1;omega
theorem idx_last{S:Sto}{q n:Nat}{l:List Int}(h:lstAt S q=some (l.map D.int))(hl:l.length=n + 1):idxR (.ref q) (.int (-1)) S=.ok (.int (l.getD n 0)) S:=by
 have hn:n < l.length:=by omega
 simp only[idxR,idxD,seqD,h,Option.bind_some,List.length_map,hl,ix_last];simp[hn]
theorem exe_lst{t:Tg}{e0:Ex}{b:Sts}{xs:List D}{r:Nat}{env:En}{S S1:Sto}(P:Nat->En->Sto->Prop)(h1:ev F G e0 env S=.ok (.ref r) S1)(hr:lstAt S1 r=some xs)(hk:∀ i e S',P i e S'->lstAt S' r=some xs)(h0:P 0 env S1)
  (step:∀ i d e S,xs[i]?=some d->P i e S->∃ e1 e2 S2,setTg t d e=some e1/\exes F G b e1 S=.ok (.nx e2) S2/\P (i + 1) e2 S2) :
  ∃ e' S',exe F G (.for t (.val e0) b) env S=.ok (.nx e') S'/\P xs.length e' S':=by
 obtain⟨e',S',a,b'⟩:=floop_inv (get:=(Src.ref r).get) (t:=t) (body:=fun env S=>exes F G b env S) xs P (fun i e S' hP=>by simp only[Src.get,hk i e S' hP,Option.map_some]) step (xs.length + 1) 0 env S1 h0 (Nat.zero_le _) (by omega)
 refine⟨e',S',?_,b'⟩;have hs:srcD S1 (.ref r)=some (.ref r):=by simp only[srcD,hr,Option.map_some]
 simp only[exe,evit,h1,Rk0,hs,Src.most,hr,Option.getD_some];exact a
end
end Z
end
section
namespace Z
open PySem
section
variable{F:Fn}{G:List D}
theorem eq_int(i j:Int)(S:Sto):cmpR .eq (.int i) (.int j) S=.ok (.bl (i == j)) S:=by
 simp only[cmpR,cmpD,eqD,twoS,datD,datF,PyData.canLay0,PyData.depth,PyData.eqv];rfl
end
end Z
end
section
namespace Z
open PySem
mutual
theorem datF_mono{look look':Nat->Option PyData}(h:∀ n p,look n=some p->look' n=some p):∀ (d:D) (p:PyData),datF look d=some p->datF look' d=some p
 | .non,p,e=>by simpa only[datF] using e
 | .bl b,p,e=>by simpa only[datF] using e
 | .int i,p,e=>by simpa only[datF] using e
 | .str x,p,e=>by simpa only[datF] using e
 | .tup xs,p,e=>by
  simp only[datF,Option.map_eq_some_iff] at e ⊢;obtain⟨ps,e1,e2⟩:=e;exact⟨ps,datFs_mono h xs ps e1,e2⟩
 | .fro _,p,e=>by simp[datF] at e
 | .fn _ _,p,e=>by simp[datF] at e
 | .ref n,p,e=>by simp only[datF] at e ⊢; exact h n p e
theorem datFs_mono{look look':Nat->Option PyData}(h:∀ n p,look n=some p->look' n=some p):∀ (ds:List D) (ps:List PyData),datFs look ds=some ps->datFs look' ds=some ps
 | [],ps,e=>by simpa only[datFs] using e
 | d :: ds,ps,e=>by
  simp only[datFs] at e ⊢;cases e1:datF look d with
  | none=>rw[e1] at e; cases e
  | some q =>
   cases e2:datFs look ds with
   | none=>rw[e1,e2] at e; cases e
   | some qs =>
    rw[e1,e2] at e;rw[datF_mono h d q e1,datFs_mono h ds qs e2];exact e
end
theorem lookK_app{S X:Sto}:∀ (k n:Nat) (p:PyData),lookK S k n=some p->lookK (S++X) k n=some p
 | 0,n,p,e=>by cases e
 | k + 1,n,p,e=>by
  simp only[lookK] at e ⊢;cases q:S[n]? with
  | none=>rw[q] at e; cases e
  | some o =>
   rw[List.getElem?_append_left (List.getElem?_eq_some_iff.mp q).1,q];rw[q] at e;cases o with
   | lst xs =>
    simp only[Option.map_eq_some_iff] at e ⊢;obtain⟨ps,e1,e2⟩:=e;exact⟨ps,datFs_mono (lookK_app k) xs ps e1,e2⟩
   | dct kvs=>cases kvs <;> exact e
   | set _=>cases e
   | exc _=>cases e
structure Shw(S:Sto)(ds:List D)(ps:List PyData):Prop where
 dat:datFs (lookK S 3) ds=some ps
 shw:PyData.showableAll ps=true
 nod:dctEs ps=true
 dep:(PyData.list ps).depth<=60
 siz:szD (.list ps)<=big
theorem Shw.app{S X:Sto}{ds:List D}{ps:List PyData}(h:Shw S ds ps):Shw (S++X) ds ps:=⟨datFs_mono (lookK_app 3) ds ps h.dat,h.shw,h.nod,h.dep,h.siz⟩
theorem Shw.rep{S:Sto}{ds:List D}{ps:List PyData}(h:Shw S ds ps):repD (S++[.lst ds]) (.ref S.length)=some (PyData.list ps).shown:=by
 have e:datD (S++[.lst ds]) (.ref S.length)=some (.list ps):=by
  have hd:=(h.app (X:=[.lst ds])).dat;have hg:(S++[O.lst ds])[S.length]?=some (.lst ds):=by rw[List.getElem?_append_right (Nat.le_refl _),Nat.sub_self]; rfl
  show lookK (S++[.lst ds]) 4 S.length=_;rw[lookK,hg];dsimp only;rw[hd,Option.map_some]
 have h1:(PyData.list ps).showable=true:=by simpa only[PyData.showable] using h.shw
 have h2:dctE (PyData.list ps)=true:=by simpa only[dctE] using h.nod
 simp only[repD,e,h1,h2,decide_eq_true h.dep,decide_eq_true h.siz];rfl
section
variable{F:Fn}{G:List D}
theorem eq_str(t:Str)(S:Sto):cmpR .eq (.str t) (.str t) S=.ok (.bl true) S:=by
 simp only[cmpR,cmpD,eqD,twoS,beq_self_eq_true]
end
end Z
end
section
namespace Z
open PySem
def Sm(S:Sto)(dep siz:Nat)(d:D):Prop:=∃ p,datF (lookK S 3) d=some p/\p.showable=true/\dctE p=true/\p.depth<=dep/\szD p<=siz
theorem Sm.mono{S:Sto}{a b a' b':Nat}{d:D}(h:Sm S a b d)(h1:a<=a')(h2:b<=b'):Sm S a' b' d:=by
 obtain⟨p,q1,q2,q3,q4,q5⟩:=h;exact⟨p,q1,q2,q3,Nat.le_trans q4 h1,Nat.le_trans q5 h2⟩
theorem Sm.app{S X:Sto}{a b:Nat}{d:D}(h:Sm S a b d):Sm (S++X) a b d:=by
 obtain⟨p,q1,q⟩:=h;exact⟨p,datF_mono (lookK_app 3) d p q1,q⟩
theorem sm_int(S:Sto)(i:Int)(h:i.natAbs.log2 < 1920):Sm S 0 1921 (.int i):=⟨.int i,by simp only[datF],by simp only[PyData.showable,decide_eq_true h],by simp only[dctE],by simp only[PyData.depth]; exact Nat.le_refl _,by simp only[szD]; exact Nat.le_refl _⟩
theorem sm_non(S:Sto):Sm S 0 1921 .non:=⟨.none,by simp only[datF],by simp only[PyData.showable],by simp only[dctE],by simp only[PyData.depth]; exact Nat.le_refl _,by simp only[szD]; omega⟩
theorem sm_str(S:Sto)(t:Str)(h:(reprText t).length<=1921):Sm S 0 1921 (.str t):=⟨.str t,by simp only[datF],by simp only[PyData.showable],by simp only[dctE],by simp only[PyData.depth]; exact Nat.le_refl _,by simp only[szD]; exact h⟩
theorem sms{look:Nat->Option PyData}{a b:Nat}:∀ ds:List D,(∀ d∈ds,∃ p,datF look d=some p/\p.showable=true/\dctE p=true/\p.depth<=a/\szD p<=b) ->
  ∃ ps,datFs look ds=some ps/\PyData.showableAll ps=true/\dctEs ps=true/\PyData.depthAll ps<=a/\szDs ps<=ds.length * (b + 2)
 | [],_=>⟨[],by simp only[datFs],by simp only[PyData.showableAll],by simp only[dctEs],by simp only[PyData.depthAll]; exact Nat.zero_le _,by simp only[szDs]; exact Nat.zero_le _⟩
 | d :: ds,h=>by
  obtain⟨p,p1,p2,p3,p4,p5⟩:=h d (by simp)
  obtain⟨ps,q1,q2,q3,q4,q5⟩:=sms ds fun x hx=>h x (by simp[hx])
  refine⟨p :: ps,by simp only[datFs,p1,q1],by simp only[PyData.showableAll,p2,q2,Bool.and_self],by simp only[dctEs,p3,q3,Bool.and_self],by simp only[PyData.depthAll]; exact Nat.max_le.mpr ⟨p4,q4⟩,?_⟩
  simp only[szDs,List.length_cons,Nat.succ_mul];omega
theorem sm_tup{S:Sto}{a b:Nat}{ds:List D}(h:∀ d∈ds,Sm S a b d):Sm S (a + 1) (ds.length * (b + 2) + 3) (.tup ds):=by
 obtain⟨ps,q1,q2,q3,q4,q5⟩:=sms ds h;refine⟨.tuple ps,by simp only[datF,q1,Option.map_some],by simp only[PyData.showable,q2],by simp only[dctE,q3],by simp only[PyData.depth]; omega,by simp only[szD]; omega⟩
theorem big_ge{n:Nat}(h:n<=900000):n<=big:=Nat.le_trans h (by decide)
end Z
end
section
namespace Z
open PySem
def Ext(p:Nat)(S S':Sto):Prop:=∀ n o,n≠p->S[n]?=some o->S'[n]?=some o
section
variable{p:Nat}{S S' S1 S2 X:Sto}
theorem Ext.refl:Ext p S S:=fun _ _ _ h=>h
theorem Ext.trans(a:Ext p S S1)(b:Ext p S1 S2):Ext p S S2:=fun n o h e=>b n o h (a n o h e)
theorem Ext.app:Ext p S (S++X):=fun n o _ e=>by rw[List.getElem?_append_left (List.getElem?_eq_some_iff.mp e).1]; exact e
theorem Ext.set{o:O}:Ext p S (S.set p o):=fun n o h e=>by rw[List.getElem?_set_ne (Ne.symm h)]; exact e
theorem at_lst{q:Nat}{xs:List D}(h:lstAt S q=some xs):S[q]?=some (.lst xs):=by
 unfold lstAt at h;split at h
 ·rename_i ys hh; cases h; exact hh
 ·cases h
theorem lst_at{q:Nat}{xs:List D}(h:S[q]?=some (.lst xs)):lstAt S q=some xs:=by unfold lstAt; rw[h]
theorem Ext.lst{q:Nat}{xs:List D}(x:Ext p S S')(hq:q≠p)(h:lstAt S q=some xs):lstAt S' q=some xs:=lst_at (x q _ hq (at_lst h))
end
def FSm(dep siz:Nat)(d:D):Prop:=∃ p,(∀ look,datF look d=some p)/\p.showable=true/\dctE p=true/\p.depth<=dep/\szD p<=siz
theorem FSm.mono{a b a' b':Nat}{d:D}(h:FSm a b d)(h1:a<=a')(h2:b<=b'):FSm a' b' d:=by
 obtain⟨p,q1,q2,q3,q4,q5⟩:=h;exact⟨p,q1,q2,q3,Nat.le_trans q4 h1,Nat.le_trans q5 h2⟩
theorem FSm.sm{a b:Nat}{d:D}(h:FSm a b d)(S:Sto):Sm S a b d:=by
 obtain⟨p,q1,q⟩:=h;exact⟨p,q1 _,q⟩
theorem FSm.good{a b:Nat}{d:D}(h:FSm a b d)(S:Sto):good S d:=by
 obtain⟨p,q1,q⟩:=h;refine good_flat S d (fun n z=>?_) (fun f m z=>?_)
 ·subst z; have:=q1 (fun _=>none); cases this
 ·subst z; have:=q1 (fun _=>none); cases this
theorem fs_int{i:Int}(h:i.natAbs.log2 < 1920):FSm 0 1921 (.int i):=⟨.int i,fun _=>by simp only[datF],by simp only[PyData.showable,decide_eq_true h],by simp only[dctE],by simp only[PyData.depth]; exact Nat.le_refl _,by simp only[szD]; exact Nat.le_refl _⟩
theorem fs_non:FSm 0 1921 .non:=⟨.none,fun _=>by simp only[datF],by simp only[PyData.showable],by simp only[dctE],by simp only[PyData.depth]; exact Nat.le_refl _,by simp only[szD]; omega⟩
theorem fs_bl{b:Bool}:FSm 0 1921 (.bl b):=⟨.bool b,fun _=>by simp only[datF],by simp only[PyData.showable],by simp only[dctE],by simp only[PyData.depth]; exact Nat.le_refl _,by simp only[szD]; omega⟩
theorem fs_str{t:Str}(h:(reprText t).length<=1921):FSm 0 1921 (.str t):=⟨.str t,fun _=>by simp only[datF],by simp only[PyData.showable],by simp only[dctE],by simp only[PyData.depth]; exact Nat.le_refl _,by simp only[szD]; exact h⟩
theorem fss{a b:Nat}:∀ ds:List D,(∀ d∈ds,FSm a b d) ->
  ∃ ps,(∀ look,datFs look ds=some ps)/\PyData.showableAll ps=true/\dctEs ps=true/\PyData.depthAll ps<=a/\szDs ps<=ds.length * (b + 2)
 | [],_=>⟨[],fun _=>by simp only[datFs],by simp only[PyData.showableAll],by simp only[dctEs],by simp only[PyData.depthAll]; exact Nat.zero_le _,by simp only[szDs]; exact Nat.zero_le _⟩
 | d :: ds,h=>by
  obtain⟨p,p1,p2,p3,p4,p5⟩:=h d (by simp)
  obtain⟨ps,q1,q2,q3,q4,q5⟩:=fss ds fun x hx=>h x (by simp[hx])
  refine⟨p :: ps,fun look=>by simp only[datFs,p1 look,q1 look],by simp only[PyData.showableAll,p2,q2,Bool.and_self],by simp only[dctEs,p3,q3,Bool.and_self],by simp only[PyData.depthAll]; exact Nat.max_le.mpr ⟨p4,q4⟩,?_⟩
  simp only[szDs,List.length_cons,Nat.succ_mul];omega
theorem fs_tup{a b:Nat}{ds:List D}(h:∀ d∈ds,FSm a b d):FSm (a + 1) (ds.length * (b + 2) + 3) (.tup ds):=by
 obtain⟨ps,q1,q2,q3,q4,q5⟩:=fss ds h;refine⟨.tuple ps,fun look=>by simp only[datF,q1 look,Option.map_some],by simp only[PyData.showable,q2],by simp only[dctE,q3],by simp only[PyData.depth]; omega,by simp only[szD]; omega⟩
theorem fs_one{a b:Nat}{d:D}(h:FSm a b d):FSm (a + 1) (b + 5) (.tup [d]):=by
 have:=fs_tup (ds:=[d]) (a:=a) (b:=b) (fun x hx=>by rw[List.mem_singleton] at hx; subst hx; exact h)
 exact this.mono (Nat.le_refl _) (by simp)
theorem sm_lstF{S:Sto}{n a b:Nat}{xs:List D}(hn:lstAt S n=some xs)(h:∀ x∈xs,FSm a b x):Sm S (a + 1) (xs.length * (b + 2) + 2) (.ref n):=by
 obtain⟨ps,q1,q2,q3,q4,q5⟩:=fss xs h;refine⟨.list ps,?_,by simp only[PyData.showable,q2],by simp only[dctE,q3],by simp only[PyData.depth]; omega,by simp only[szD]; omega⟩
 show lookK S 3 n=_;rw[lookK,at_lst hn];dsimp only;rw[q1,Option.map_some]
theorem good_lst'{S:Sto}{q:Nat}{xs:List D}(h:lstAt S q=some xs):good S (.ref q):=⟨.list,by simp only[kdD]; rw[at_lst h],fun _ z=>nomatch z⟩
structure Thing(S:Sto)(d:D):Prop where
 sm:Sm S 20 400000 d
 gd:good S d
 el:∀ xs,d=.tup xs->(∀ x∈xs,good S x)/\xs.length<=30
def Kp(p:Nat)(S:Sto)(d:D):Prop:=∀ S',Ext p S S'->Thing S' d
def El(p:Nat)(S:Sto)(d:D):Prop:=∀ S',Ext p S S'->Sm S' 5 30000 d/\good S' d
section
variable{p:Nat}{S S':Sto}{d:D}
theorem Kp.mono(h:Kp p S d)(x:Ext p S S'):Kp p S' d:=fun S2 y=>h S2 (x.trans y)
theorem Kp.now(h:Kp p S d):Thing S d:=h S .refl
theorem El.mono(h:El p S d)(x:Ext p S S'):El p S' d:=fun S2 y=>h S2 (x.trans y)
theorem el_flat{a b:Nat}(h:FSm a b d)(ha:a<=5)(hb:b<=30000):El p S d:=fun S' _=>⟨(h.sm S').mono ha hb,h.good S'⟩
theorem el_lst{q a b:Nat}{xs:List D}(hq:q≠p)(hl:lstAt S q=some xs)(h:∀ x∈xs,FSm a b x)(ha:a<=4)(hb:xs.length * (b + 2) + 2<=30000):El p S (.ref q):=fun S' x=>⟨(sm_lstF (x.lst hq hl) h).mono (by omega) hb,good_lst' (x.lst hq hl)⟩
theorem kp_el(h:El p S d)(ht:∀ xs,d≠.tup xs):Kp p S d:=fun S' x=>⟨(h S' x).1.mono (by omega) (by omega),(h S' x).2,fun xs z=>absurd z (ht xs)⟩
theorem kp_tup{xs:List D}(h:∀ x∈xs,El p S x)(hl:xs.length<=13):Kp p S (.tup xs):=fun S' x=>by
 refine⟨(sm_tup (a:=5) (b:=30000) fun y hy=>(h y hy S' x).1).mono (by omega) (by omega),good_flat S' _ (fun _ z=>nomatch z) (fun _ _ z=>nomatch z),fun ys z=>?_⟩
 injection z with z
 subst z;exact⟨fun y hy=>(h y hy S' x).2,by omega⟩
theorem kp_lst{q a b:Nat}{xs:List D}(hq:q≠p)(hl:lstAt S q=some xs)(h:∀ x∈xs,FSm a b x)(ha:a<=4)(hb:xs.length * (b + 2) + 2<=400000):Kp p S (.ref q):=fun S' x=>⟨(sm_lstF (x.lst hq hl) h).mono (by omega) hb,good_lst' (x.lst hq hl),fun xs z=>nomatch z⟩
end
theorem Thing.app{S X:Sto}{d:D}(h:Thing S d):Thing (S++X) d:=⟨h.sm.app,good_app h.gd,fun xs z=>⟨fun x hx=>good_app ((h.el xs z).1 x hx),(h.el xs z).2⟩⟩
def Nums(l:List Int):Prop:=∀ x∈l,x.natAbs.log2 < 1920
theorem el_int{p:Nat}{S:Sto}{i:Int}(h:i.natAbs.log2 < 1920):El p S (.int i):=el_flat (fs_int h) (by omega) (by omega)
theorem kp_row{p:Nat}{S:Sto}{l:List Int}(h:Nums l)(hl:l.length<=13):Kp p S (tupI l):=kp_tup (fun x hx=>by
 obtain⟨i,hi,rfl⟩:=List.mem_map.mp hx;exact el_int (h i hi)) (by rw[List.length_map]; exact hl)
theorem shw2{S:Sto}{a b:D}(h1:Sm S 20 400000 a)(h2:Sm S 20 400000 b):∃ ps,Shw S [a,b] ps:=by
 obtain⟨ps,q1,q2,q3,q4,q5⟩:=sms (look:=lookK S 3) (a:=20) (b:=400000) [a,b] fun d hd=>by
  simp only[List.mem_cons,List.not_mem_nil,or_false] at hd;rcases hd with rfl | rfl
  ·exact h1
  ·exact h2
 exact⟨ps,q1,q2,q3,by simp only[PyData.depth]; omega,big_ge (by simp only[szD]; simp only[List.length] at q5; omega)⟩
end Z
end
section
namespace Z
open PySem
noncomputable def isr:D->Bool
 | .tup xs=>xs.all wh && (decide (1<=xs.length) && decide (xs.length<=12))
 | _=>false
theorem wh_ints:∀ {xs:List D},xs.all wh=true->∃ l:List Int,xs=l.map D.int
 | [],_=>⟨[],rfl⟩
 | x :: xs,h=>by
  simp only[List.all_cons,bA0] at h;obtain⟨l,rfl⟩:=wh_ints h.2;cases x with
  | int i=>exact⟨i :: l,rfl⟩
  | _=>cases h.1
theorem isr_row{d:D}(h:isr d=true):∃ l,d=tupI l/\1<=l.length/\l.length<=12:=by
 cases d with
 | tup xs =>
  simp only[isr,bA0,decide_eq_true_eq] at h;obtain⟨l,rfl⟩:=wh_ints h.1;rw[List.length_map] at h;exact⟨l,rfl,h.2.1,h.2.2⟩
 | _=>cases h
theorem all_wh(l:List Int):(l.map D.int).all wh=true:=by
 rw[List.all_eq_true];intro d hd;obtain⟨i,_,rfl⟩:=List.mem_map.mp hd;rfl
theorem isr_tupI{l:List Int}(h1:1<=l.length)(h2:l.length<=12):isr (tupI l)=true:=by
 simp only[isr,tupI,all_wh,List.length_map,decide_eq_true h1,decide_eq_true h2,Bool.and_self]
section
variable{F:Fn}{G:List D}
theorem chn_le{a c:Ex}{n lo hi:Int}{d:D}{env:En}{S S':Sto}(h0:env[0]?=some (some d))(hn:bltD .len [d] S=.ok (.int n) S)(h1:ev F G a env S=.ok (.int lo) S)(h2:ev F G c env S=.ok (.int hi) S) :
  ev F G (.chn .le .le a (.blt .len (.cons (.var 0) .nil)) c) env S=.ok (.bl (decide (lo<=n) && decide (n<=hi))) S:=by
 rw[ev,h1,Rk0];simp only[ev,evs,h0,Rk0,hn,cmpD,h2,cmpR];cases decide (lo<=n) <;> rfl
theorem isrow_gen{i2:Nat}{ig:Nat}{d:D}{S:Sto}(hw:WTups F i2)(hg:G[ig]?=some (.int 11))(t:Thing S d):∃ X,den F G (dIsRow i2 ig) [d] S=.ok (.bl (isr d)) (S++X):=by
 obtain⟨X,h⟩:=hw d S t.gd (fun xs z=>⟨(t.el xs z).1,Nat.le_trans (t.el xs z).2 (by omega)⟩)
 refine⟨X,?_⟩;simp only[den,dIsRow,List.length,if_true,List.map,List.replicate,Nat.sub_self,List.append_nil];have hcall:ev F G (.call i2 (.cons (.var 0) .nil)) [some d] S=.ok (.bl (wt d)) (S++X):=by
  simp only[ev,evs,gZ0,Rk0,h]
 rw[exes_rt (d:=.bl (isr d)) (S1:=S++X) (by
  rw[exe,ev,hcall,Rk0];simp only[truD];cases e:wt d with
  | false =>
   have:isr d=false:=by
    cases d with
    | tup xs=>simp only[wt] at e; simp only[isr,e,Bool.false_and]
    | _=>rfl
   rw[this]; rfl
  | true =>
   cases d with
   | tup xs =>
    have c:=chn_le (F:=F) (G:=G) (a:=.cst (.int 1)) (c:=.bin .add (.glb ig) (.cst (.int 1))) (n:=xs.length) (lo:=1) (hi:=12) (d:=.tup xs) (env:=[some (.tup xs)]) (S:=S++X) (S':=S++X) rfl rfl (by simp only[ev]) (by simp only[ev,hg,Rk0,bin_add]; rfl)
    dsimp only;rw[c];simp only[wt] at e;simp only[isr,e,Bool.true_and,Rk0];have e1:decide ((1:Int)<=(xs.length:Int))=decide (1<=xs.length):=by congr 1; apply propext; omega
    have e2:decide ((xs.length:Int)<=12)=decide (xs.length<=12):=by congr 1; apply propext; omega
    rw[e1,e2]
   | _=>cases e)]
theorem chk_yes{i4:Nat}{d:D}{S S1:Sto}(h:F i4 [d] S=.ok (.bl true) S1):den F G (dChk i4) [d] S=.ok .non S1:=chk_ev h
theorem chk_no{i4:Nat}{d:D}{S S1:Sto}(h:F i4 [d] S=.ok (.bl false) S1):den F G (dChk i4) [d] S=.ex S1.length (S1++[.exc 7]):=by
 simp only[den,dChk,List.length,if_true,List.map,List.replicate,Nat.sub_self,List.append_nil];rw[exes_ex (n:=S1.length) (S1:=S1++[.exc 7]) (if_raise' (by simp only[ev,evs,gZ0,Rk0,h,truD]; rfl))]
theorem ite_ret{c:Ex}{d:D}{env:En}{S S':Sto}(h:ev F G c env S=.ok (.bl true) S'):exe F G (.ite c (.cons (.ret (.cst d)) .nil) .nil) env S=.ok (.rt d) S':=by
 rw[exe,h,Rk0];simp only[truD,exes,exe,ev,Rk0]
noncomputable def bAsk2(es:Exs):Sts:=.cons (.ret (.cal (.idx (.lst es) (.var 0)) (.cons (.var 1) .nil))) .nil
noncomputable def dToldBy2(es:Exs)(ik:Nat):Df:=⟨2,3,.cons (.try (bAsk2 es) 0 2 (.cons (.ret (.call ik (.cons (.var 2) .nil))) .nil)) .nil⟩
theorem ask2_ev{es:Exs}{vs:List D}{w f:Nat}{nm:Str}{c:D}{x:Option D}{S:Sto}(hes:∀ env S,evs F G es env S=.ok vs S)(hl:vs.length<=100)(hf:vs[w]?=some (.fn f nm))(hi:fnIn f nm G=true) :
  exes F G (bAsk2 es) [some (.int w),some c,x] S=(match F f [c] (S++[.lst vs]) with
   | .ok r S'=>.ok (.rt r) S'
   | .ex n S'=>.ex n S'
   | .bad=>.bad):=by
 have hlt:w < vs.length:=(List.getElem?_eq_some_iff.mp hf).1;have hx:idxR (.ref S.length) (.int w) (S++[.lst vs])=.ok (.fn f nm) (S++[.lst vs]):=by
  simp only[idxR,idxD,seqD,last_lst,Option.bind_some,Z.ixN];rw[if_pos (by omega),if_pos (by omega)]
  simp only[Option.bind_some,Int.toNat_natCast,hf]
 have hll:ev F G (.lst es) [some (.int w),some c,x] S=.ok (.ref S.length) (S++[.lst vs]):=by
  rw[ev,hes,Rk0];exact if_pos (le_big (by omega))
 have he:ev F G (.idx (.lst es) (.var 0)) [some (.int w),some c,x] S=.ok (.fn f nm) (S++[.lst vs]):=by
  rw[ev,hll,Rk0];simp only[ev,gZ0,Rk0,hx]
 have hc:ev F G (.cal (.idx (.lst es) (.var 0)) (.cons (.var 1) .nil)) [some (.int w),some c,x] S=F f [c] (S++[.lst vs]):=by
  rw[ev,he,Rk0];simp only[hi,if_true,evs,ev,gZ0,gS0,Rk0]
 unfold bAsk2;simp only[exes,exe];rw[hc];cases F f [c] (S++[.lst vs]) <;> rfl
theorem nasg_ask2(es:Exs):nasgs (bAsk2 es)=true:=rfl
theorem toldby2_ok{es:Exs}{vs:List D}{ik w f:Nat}{nm:Str}{c r:D}{S S':Sto}(hes:∀ env S,evs F G es env S=.ok vs S)(hl:vs.length<=100)(hf:vs[w]?=some (.fn f nm))(hi:fnIn f nm G=true)(h:F f [c] (S++[.lst vs])=.ok r S'):den F G (dToldBy2 es ik) [.int w,c] S=.ok r S':=by
 have ha:=ask2_ev (c:=c) (x:=none) (S:=S) hes hl hf hi;rw[h] at ha;simp only[den,dToldBy2,List.length,if_true,List.map,List.replicate];rw[exes_rt (d:=r) (S1:=S') (by
  rw[exe,if_pos (nasg_ask2 es)];have ha':exes F G (bAsk2 es) ([some (.int w),some c]++[none]) S=_:=ha;rw[ha'])]
theorem toldby2_ex{es:Exs}{vs:List D}{ik w f:Nat}{nm:Str}{c r:D}{S P S':Sto}{k:Nat}(hes:∀ env S,evs F G es env S=.ok vs S)(hl:vs.length<=100)(hf:vs[w]?=some (.fn f nm))(hi:fnIn f nm G=true)(h:F f [c] (S++[.lst vs])=.ex P.length (P++[.exc k]))(hk:F ik [.ref P.length] (P++[.exc k])=.ok r S'):den F G (dToldBy2 es ik) [.int w,c] S=.ok r S':=by
 have ha:=ask2_ev (c:=c) (x:=none) (S:=S) hes hl hf hi;rw[h] at ha;have hg:(P++[.exc k])[P.length]?=some (.exc k):=by rw[List.getElem?_append_right (Nat.le_refl _),Nat.sub_self]; rfl
 have hh:exes F G (.cons (.ret (.call ik (.cons (.var 2) .nil))) .nil) [some (.int w),some c,some (.ref P.length)] (P++[.exc k])=.ok (.rt r) S':=by
  rw[exes_rt (d:=r) (S1:=S') (by simp only[exe,ev,evs,gZ0,gS0,Rk0,hk])]
 simp only[den,dToldBy2,List.length,if_true,List.map,List.replicate];rw[exes_rt (d:=r) (S1:=S') (by
  rw[exe,if_pos (nasg_ask2 es)];have ha':exes F G (bAsk2 es) ([some (.int w),some c]++[none]) S=_:=ha;rw[ha'];dsimp only;rw[hg];dsimp only;rw[if_pos (by rfl)]
  have hh':exes F G (.cons (.ret (.call ik (.cons (.var 2) .nil))) .nil) (([some (D.int w),some c]++[none]:En).set 2 (some (.ref P.length))) (P++[.exc k])=_:=hh;rw[hh'])]
end
end Z
end
section
namespace Z
open PySem
def Bd(B:Nat)(l:List Int):Prop:=∀ x∈l,x.natAbs<=B
theorem Bd.mono{B C:Nat}{l:List Int}(h:Bd B l)(hc:B<=C):Bd C l:=fun x hx=>Nat.le_trans (h x hx) hc
noncomputable def vsq(v m:Int):Nat->Int
 | 0=>v
 | n + 1=>vsq v m n / m
noncomputable def drawn(v far:Int)(n:Nat):List Int:=(List.range n).map fun i=>vsq v (2 * far + 1) i % (2 * far + 1) - far
section
variable{F:Fn}{G:List D}
end
end Z
end
section
namespace Z
open PySem
section
variable{F:Fn}{G:List D}
theorem asg_v{e:Ex}{i:Nat}{env:En}{S S':Sto}{d:D}(h:ev F G e env S=.ok d S'):exe F G (.asg (.var i) e) env S=.ok (.nx (env.set i (some d))) S':=by
 simp only[exe,h,Rk0,setTg]
theorem sli_dropI(a:List Int)(n:Nat)(S:Sto):sliD (tupI a) (some (n:Int)) none S=.ok (tupI (a.drop n)) S:=by
 have c:cut (a.map D.int) (some (n:Int)) none=(a.map D.int).drop n:=by
  unfold cut clip;simp only;rw[if_pos (by omega)]
  simp only[Int.toNat_natCast]
  by_cases h:n<=(a.map D.int).length
  ·rw[Nat.min_eq_left h,List.take_of_length_le (by rw[List.length_drop]; omega)]
  ·rw[Nat.min_eq_right (by omega),List.drop_of_length_le (by omega),List.drop_of_length_le (by omega)]; simp
 unfold tupI;simp only[sliD,c,List.map_drop]
theorem tup_one{e:Ex}{d:D}{env:En}{S:Sto}(h:ev F G e env S=.ok d S):ev F G (.tup (.cons e .nil)) env S=.ok (.tup [d]) S:=by
 simp only[ev,evs,h,Rk0];exact if_pos (le_big (by simp))
theorem add_tups(x y:List D)(S:Sto)(h:x.length + y.length<=1000):binD .add (.tup x) (.tup y) S=.ok (.tup (x++y)) S:=by
 simp only[binD];exact if_pos (le_big h)
theorem ev_mix{ir ia:Nat}{e eb:Ex}{env:En}{l:List Int}{a b:Nat}{od:D}{S:Sto}(hr:env[ir]?=some (some (tupI l)))(ha:env[ia]?=some (some (.int a)))(he:ev F G e env S=.ok od S)(hb:ev F G eb env S=.ok (.int b) S)(hl:l.length<=100) :
  ev F G (.bin .add (.bin .add (.sli (.var ir) .none (.some (.var ia))) (.tup (.cons e .nil))) (.sli (.var ir) (.some eb) .none)) env S=.ok (.tup ((l.take a).map D.int++[od]++(l.drop b).map D.int)) S:=by
 have h1:ev F G (.sli (.var ir) .none (.some (.var ia))) env S=.ok (tupI (l.take a)) S:=by
  simp only[ev,evo,hr,ha,Rk0,optI,sli_tupI]
 have h2:=tup_one he;have h3:ev F G (.sli (.var ir) (.some eb) .none) env S=.ok (tupI (l.drop b)) S:=by
  simp only[ev,evo,hr,hb,Rk0,optI];exact sli_dropI l b S
 have h4:=add_tups ((l.take a).map D.int) [od] S (by simp; omega)
 have h5:=add_tups ((l.take a).map D.int++[od]) ((l.drop b).map D.int) S (by simp; omega)
 have h4':binD .add (tupI (l.take a)) (.tup [od]) S=_:=h4;have h5':binD .add (.tup ((l.take a).map D.int++[od])) (tupI (l.drop b)) S=_:=h5;rw[ev,ev,h1,Rk0,h2,Rk0,h4',Rk0,h3,Rk0,h5']
theorem d12:divOk 12=true:=by decide +kernel
theorem d4:divOk 4=true:=by decide +kernel
theorem d2:divOk 2=true:=by decide +kernel
end
end Z
end
section
namespace Z
open PySem
section
variable{F:Fn}{G:List D}
noncomputable def mixD(l:List Int)(a b:Nat)(od:D):D:=.tup ((l.take a).map D.int++[od]++(l.drop b).map D.int)
theorem rep_tup{l:List Int}{S:Sto}(h1:1<=l.length)(hl:l.length<=12):binD .mul (tupI l) (.int 13) S=.ok (tupI (List.replicate 13 l).flatten) S:=by
 have:=mul_rep (x:=l.map D.int) (k:=13) (S:=S) (by decide) (le_big (by rw[List.length_map]; show l.length * 13<=1000; omega)) (by decide) (by cases l with | nil=>simp at h1 | cons x r=>rfl)
 have e:(List.replicate (13:Int).toNat (l.map D.int)).flatten=((List.replicate 13 l).flatten).map D.int:=by
  rw[List.map_flatten,List.map_replicate]; rfl
 rw[e] at this;exact this
end
end Z
end
section
namespace Z
open PySem
section
variable{F:Fn}{G:List D}
end
theorem lookK_up{S:Sto}:∀ (k n:Nat) (p:PyData),lookK S k n=some p->lookK S (k + 1) n=some p
 | 0,n,p,e=>by cases e
 | k + 1,n,p,e=>by
  rw[lookK] at e ⊢;cases q:S[n]? with
  | none=>rw[q] at e; cases e
  | some o =>
   rw[q] at e;cases o with
   | lst xs =>
    simp only[Option.map_eq_some_iff] at e ⊢;obtain⟨ps,e1,e2⟩:=e;exact⟨ps,datFs_mono (lookK_up k) xs ps e1,e2⟩
   | dct kvs=>cases kvs <;> exact e
   | set _=>cases e
   | exc _=>cases e
theorem Sm.rep{S:Sto}{d:D}(h:Sm S 20 400000 d):∃ t,∀ Y,repD (S++Y) d=some t:=by
 obtain⟨p,q1,q2,q3,q4,q5⟩:=h;refine⟨p.shown,fun Y=>?_⟩
 have e:datD (S++Y) d=some p:=datF_mono (fun n q z=>lookK_up 3 n q (lookK_app 3 n q z)) d p q1
 have c1:p.depth<=60:=by omega
 have c2:szD p<=big:=big_ge (by omega)
 simp only[repD,e,q2,q3,decide_eq_true c1,decide_eq_true c2,Bool.and_self,if_true]
theorem ne_strs(t:Str)(S:Sto):cmpR .ne (.str t) (.str t) S=.ok (.bl false) S:=by
 simp only[cmpR,cmpD,eqD,twoS,beq_self_eq_true,Option.map_some,Bool.not_true]
end Z
end
section
namespace Z
theorem C_mono{k:Nat}:∀ {m n:Nat},m<=n->C m k<=C n k:=by
 have st:∀ n,C n k<=C (n + 1) k:=fun n=>by
  cases k with
  | zero=>rw[C_zero,C_zero]; exact Nat.le_refl _
  | succ k=>simp only[C]; omega
 intro m n h
 induction n with
 | zero =>
  have:m=0:=by omega
  subst this; exact Nat.le_refl _
 | succ n ih =>
  by_cases e:m=n + 1
  ·subst e; exact Nat.le_refl _
  ·exact Nat.le_trans (ih (by omega)) (st n)
theorem C_self:∀ k:Nat,C k k=1
 | 0=>rfl
 | k + 1=>by simp only[C]; rw[C_self k,C_gt k (k + 1) (by omega)]
theorem C_one(n:Nat):C n 1=n:=by
 induction n with
 | zero=>rfl
 | succ n ih =>
  show C n 0 + C n 1=n + 1;rw[C_zero,ih]; omega
theorem C_ge(k:Nat):∀ j:Nat,j + 1<=C (k + 1 + j) (k + 1)
 | 0=>by rw[Nat.add_zero,C_self]; exact Nat.le_refl _
 | j + 1=>by
  have ih:=C_ge k j;have h1:1<=C (k + 1 + j) k:=by
   have:=C_mono (k:=k) (show k<=k + 1 + j by omega)
   rw[C_self] at this;exact this
  have e:k + 1 + (j + 1)=(k + 1 + j) + 1:=by omega
  rw[e];simp only[C];omega
def Most(n k m:Nat):Prop:=k<=m/\C m k<=n/\n < C (m + 1) k
theorem Most.uniq{n k m m':Nat}(h:Most n k m)(h':Most n k m'):m=m':=by
 obtain⟨_,a1,a2⟩:=h;obtain⟨_,b1,b2⟩:=h'
 by_cases e:m < m'
 ·have:=C_mono (k:=k) (show m + 1<=m' by omega); omega
 ·by_cases e':m' < m
  ·have:=C_mono (k:=k) (show m' + 1<=m by omega); omega
  ·omega
def Wr:Nat->Nat->List Int->Prop
 | 0,n,l=>n=0/\l=[]
 | k + 1,n,l=>(n=0/\l=[])\/∃ (m:Nat) (r:List Int),l=(m:Int) :: r/\0 < n/\Most n (k + 1) m/\Wr k (n - C m (k + 1)) r
theorem Wr.nil{k n:Nat}(h:Wr k n []):n=0:=by
 cases k with
 | zero=>exact h.1
 | succ k=>rcases h with h | ⟨m,r,e,_⟩; exact h.1; cases e
theorem Wr.zero{k:Nat}{l:List Int}(h:Wr k 0 l):l=[]:=by
 cases k with
 | zero=>exact h.2
 | succ k=>rcases h with h | ⟨m,r,e,h,_⟩; exact h.2; omega
theorem Wr.uniq:∀ {k n:Nat} {l l':List Int},Wr k n l->Wr k n l'->l=l'
 | 0,n,l,l',h,h'=>by rw[h.2,h'.2]
 | k + 1,n,l,l',h,h'=>by
  rcases h with⟨h0,rfl⟩ | ⟨m,r,rfl,h0,h1,h2⟩
  ·rcases h' with⟨_,rfl⟩ | ⟨m',r',rfl,h0',_⟩
   ·rfl
   ·omega
  ·rcases h' with⟨h0',rfl⟩ | ⟨m',r',rfl,h0',h1',h2'⟩
   ·omega
   ·have e:=h1.uniq h1'
    subst e;rw[h2.uniq h2']
noncomputable def wok:Nat->Option Int->List Int->Bool
 | _,_,[]=>true
 | 0,_,_ :: _=>false
 | k + 1,pv,x :: r=>decide (((k + 1:Nat):Int)<=x) && (pv.all fun y=>decide (x < y)) && wok k (some x) r
noncomputable def wtot:Nat->List Int->Int
 | _,[]=>0
 | 0,_ :: _=>0
 | k + 1,x :: r=>C x.toNat (k + 1) + wtot k r
theorem wr_ok:∀ {k n:Nat} {l:List Int} {pv:Option Int},Wr k n l->(∀ y,pv=some y->(n:Int) < C y.toNat k/\0<=y)->l.length<=k/\wok k pv l=true/\wtot k l=n
 | 0,n,l,pv,h,_=>by
  obtain⟨rfl,rfl⟩:=h;exact⟨Nat.le_refl _,rfl,rfl⟩
 | k + 1,n,l,pv,h,hp=>by
  rcases h with⟨rfl,rfl⟩ | ⟨m,r,rfl,h0,⟨m1,m2,m3⟩,h2⟩
  ·exact⟨Nat.zero_le _,rfl,rfl⟩
  ·have hc:n < C m k + C m (k + 1):=m3
   obtain⟨q1,q2,q3⟩:=wr_ok (pv:=some (m:Int)) h2 fun y e=>by
    cases e;refine⟨?_,by omega⟩
    rw[Int.toNat_natCast];omega
   refine⟨by simp; omega,?_,?_⟩
   ·simp only[wok,bA0,decide_eq_true_eq]
    refine⟨⟨by omega,?_⟩,q2⟩
    cases pv with
    | none=>rfl
    | some y =>
     obtain⟨p1,p2⟩:=hp y rfl;simp only[Option.all_some,decide_eq_true_eq]
     by_cases e:(m:Int) < y
     ·exact e
     ·have:=C_mono (k:=k + 1) (show y.toNat<=m by omega)
      omega
   ·simp only[wtot,Int.toNat_natCast,q3]
    omega
theorem wr_bd:∀ {k n:Nat} {l:List Int},Wr k n l->∀ x∈l,0<=x/\x<=(n:Int) + k
 | 0,n,l,h,x,hx=>by rw[h.2] at hx; cases hx
 | k + 1,n,l,h,x,hx=>by
  rcases h with⟨_,rfl⟩ | ⟨m,r,rfl,h0,⟨m1,m2,m3⟩,h2⟩
  ·cases hx
  ·have hm:m<=n + k:=by
    obtain⟨j,rfl⟩:∃ j,m=k + 1 + j:=⟨m - (k + 1),by omega⟩
    have:=C_ge k j;omega
   rcases List.mem_cons.mp hx with rfl | hx
   ·omega
   ·have:=wr_bd h2 x hx
    omega
theorem wr_len{k n:Nat}{l:List Int}(h:Wr k n l):l.length<=k:=(wr_ok (pv:=none) h fun y e=>by cases e).1
end Z
end
section
namespace Z
open PySem
section
variable{F:Fn}{G:List D}
theorem ways_stepB(n m i:Nat)(S:Sto)(hn:n<=100000000000000)(hi:i < 12):exes F G bWays1 [some (.int n),some (.int m),some (.int (C n i)),some (.int i)] S=.ok (.nx [some (.int n),some (.int m),some (.int (C n (i + 1))),some (.int i)]) S:=by
 have h:=ways_gen (F:=F) (G:=G) n m (C n i) i S (mul_okR (by omega) (by omega)) (div13 (by omega))
 rw[C_div] at h;exact h
theorem den_waysB(n m:Nat)(S:Sto)(hn:n<=100000000000000)(hm:m<=12):den F G dWays [.int n,.int m] S=.ok (.int (C n m)) S:=by
 obtain⟨xs,hx,hl⟩:=rng1_some (m:=(m:Int)) (by omega) (lt20 (by omega))
 obtain⟨e',S',h1,rfl,x,rfl⟩:=exe_rng (F:=F) (G:=G) (t:=.var 3) (es:=.cons (.var 1) .nil) (b:=bWays1) (env:=[some (.int n),some (.int m),some (.int 1),none]) (S:=S) (S1:=S) (ds:=[.int m]) (xs:=xs)
  (fun i e S'=>S'=S/\∃ x,e=[some (.int n),some (.int m),some (.int (C n i)),x]) (by simp only[evs,ev,gZ0,gS0,Rk0]) hx ⟨rfl,none,by rw[C_zero]; rfl⟩ (fun i d e S' hd hP=>by
   obtain⟨rfl,x,rfl⟩:=hP;obtain⟨rfl,hi⟩:=rng1_get hx hd;exact⟨_,_,S',rfl,ways_stepB n m i S' hn (by omega),rfl,_,rfl⟩)
 have e:xs.length=m:=by omega
 rw[e] at h1;exact ways_fin n m (C n m) S' _ S' h1 rfl
noncomputable def mostT:Ex:=.cmp .gt (.bin .sub (.var 3) (.var 2)) (.cst (.int 1))
noncomputable def mostB(iw:Nat):Sts:=.cons (.asg (.var 4) (.bin .fdiv (.bin .add (.var 2) (.var 3)) (.cst (.int 2)))) (.cons (.ite (.cmp .le (.call iw (.cons (.var 4) (.cons (.var 1) .nil))) (.var 0)) (.cons (.asg (.var 2) (.var 4)) .nil) (.cons (.asg (.var 3) (.var 4)) .nil)) .nil)
noncomputable def dMost(iw:Nat):Df:=⟨2,5,.cons (.asg (.var 2) (.var 1)) (.cons (.asg (.var 3) (.bin .add (.var 1) (.var 0))) (.cons (.whl mostT (mostB iw)) (.cons (.ret (.var 2)) .nil)))⟩
def WaysF(F:Fn)(iw:Nat):Prop:=∀ (n m:Nat) (S:Sto),n<=10000000000000->m<=12->F iw [.int n,.int m] S=.ok (.int (C n m)) S
theorem waysF_of{T:List Df}{iw:Nat}(h:T[iw]?=some dWays)(k:Nat):WaysF (FT T G (k + 1)) iw:=fun n m S hn hm=>by
 simp only[FT,h];exact den_waysB n m S (by omega) hm
noncomputable def mostTst(F:Fn)(G:List D):En->Sto->R Bool:=fun env S=>(ev F G mostT env S).bind fun x S=>match truD S x with
 | some r=>.ok r S
 | none=>.bad
theorem most_tst{n k lo hi:Int}{x:Option D}{S:Sto}:mostTst F G [some (.int n),some (.int k),some (.int lo),some (.int hi),x] S=.ok (decide (1 < hi - lo)) S:=by
 unfold mostTst;simp only[mostT,ev,gZ0,gS0,Rk0,bin_sub,cmpR,cmpD,truD]
theorem most_body{iw:Nat}(hw:WaysF F iw){n k lo hi:Nat}{x:Option D}{S:Sto}(hk:k<=12)(h:(lo + hi) / 2<=10000000000000) :
  exes F G (mostB iw) [some (.int n),some (.int k),some (.int lo),some (.int hi),x] S=.ok (.nx (if C ((lo + hi) / 2) k<=n then [some (.int n),some (.int k),some (.int ((lo + hi) / 2:Nat)),some (.int hi),some (.int ((lo + hi) / 2:Nat))] else [some (.int n),some (.int k),some (.int lo),some (.int ((lo + hi) / 2:Nat)),some (.int ((lo + hi) / 2:Nat))])) S:=by
 have e:((lo:Int) + hi) / 2=((lo + hi) / 2:Nat):=by omega
 have s1:=asg_v (i:=4) (F:=F) (G:=G) (e:=.bin .fdiv (.bin .add (.var 2) (.var 3)) (.cst (.int 2))) (env:=[some (.int n),some (.int k),some (.int lo),some (.int hi),x]) (S:=S) (d:=.int ((lo + hi) / 2:Nat)) (S':=S) (by
  simp only[ev,gZ0,gS0,Rk0,bin_add,bin_fdiv d2,e])
 generalize (lo + hi) / 2=m at s1 h;have hc:=hw m k S h hk;have ht:ev F G (.cmp .le (.call iw (.cons (.var 4) (.cons (.var 1) .nil))) (.var 0)) [some (.int n),some (.int k),some (.int lo),some (.int hi),some (.int m)] S=.ok (.bl (decide ((C m k:Int)<=n))) S:=by
  simp only[ev,evs,gZ0,gS0,Rk0,hc,cmpR,cmpD]
 unfold mostB;rw[exes_nx s1]
 by_cases q:C m k<=n
 ·have hd:decide ((C m k:Int)<=n)=true:=decide_eq_true (by omega)
  rw[hd] at ht;rw[if_pos q];rw[exes_nx (e:=[some (.int n),some (.int k),some (.int m),some (.int hi),some (.int m)]) (S1:=S) (by
   show exe F G _ [some (.int n),some (.int k),some (.int lo),some (.int hi),some (.int m)] S=_;rw[exe,ht,Rk0];simp only[truD,exes,exe,ev,gZ0,gS0,Rk0,setTg,List.set])]
  rw[exes]
 ·have hd:decide ((C m k:Int)<=n)=false:=decide_eq_false (by omega)
  rw[hd] at ht;rw[if_neg q];rw[exes_nx (e:=[some (.int n),some (.int k),some (.int lo),some (.int m),some (.int m)]) (S1:=S) (by
   show exe F G _ [some (.int n),some (.int k),some (.int lo),some (.int hi),some (.int m)] S=_;rw[exe,ht,Rk0];simp only[truD,exes,exe,ev,gZ0,gS0,Rk0,setTg,List.set])]
  rw[exes]
theorem most_loop{iw:Nat}(hw:WaysF F iw){n k:Nat}{S:Sto}(hk:k<=12):∀ (j fuel lo hi:Nat) (x:Option D),hi - lo<=2 ^ j->j < fuel->lo < hi->k<=lo->hi<=5000000000000->C lo k<=n->n < C hi k ->
  ∃ m h x',wloop (mostTst F G) (fun env S=>exes F G (mostB iw) env S) fuel [some (.int n),some (.int k),some (.int lo),some (.int hi),x] S=.ok (.nx [some (.int n),some (.int k),some (.int (m:Nat)),h,x']) S/\Most n k m
 | j,0,lo,hi,x,h1,h2,h3,h4,h5,h6,h7=>by omega
 | j,fuel + 1,lo,hi,x,h1,h2,h3,h4,h5,h6,h7=>by
  by_cases q:hi=lo + 1
  ·subst q
   have ht:=most_tst (F:=F) (G:=G) (n:=n) (k:=k) (lo:=lo) (hi:=(lo + 1:Nat)) (x:=x) (S:=S);have hd:decide ((1:Int) < ((lo + 1:Nat):Int) - lo)=false:=decide_eq_false (by omega)
   rw[hd] at ht;refine⟨lo,some (.int (lo + 1:Nat)),x,?_,h4,h6,h7⟩;simp only[wloop,ht]
  ·have ht:=most_tst (F:=F) (G:=G) (n:=n) (k:=k) (lo:=lo) (hi:=hi) (x:=x) (S:=S)
   have hd:decide ((1:Int) < (hi:Int) - lo)=true:=decide_eq_true (by omega)
   rw[hd] at ht;have hb:=most_body (G:=G) hw (n:=n) (k:=k) (lo:=lo) (hi:=hi) (x:=x) (S:=S) hk (by omega)
   obtain⟨j,rfl⟩:∃ i,j=i + 1:=by
    cases j with
    | zero=>simp at h1; omega
    | succ j=>exact⟨j,rfl⟩
   rw[Nat.pow_succ] at h1
   by_cases c:C ((lo + hi) / 2) k<=n
   ·rw[if_pos c] at hb
    obtain⟨m,h,x',r1,r2⟩:=most_loop hw hk j fuel ((lo + hi) / 2) hi (some (.int ((lo + hi) / 2:Nat))) (by omega) (by omega) (by omega) (by omega) h5 c h7
    exact⟨m,h,x',by simp only[wloop,ht,hb]; exact r1,r2⟩
   ·rw[if_neg c] at hb
    obtain⟨m,h,x',r1,r2⟩:=most_loop hw hk j fuel lo ((lo + hi) / 2) (some (.int ((lo + hi) / 2:Nat))) (by omega) (by omega) (by omega) h4 (by omega) h6 (by omega)
    exact⟨m,h,x',by simp only[wloop,ht,hb]; exact r1,r2⟩
theorem den_most{iw:Nat}(hw:WaysF F iw){n k:Nat}{S:Sto}(hk1:1<=k)(hk:k<=12)(hn1:1<=n)(hn:n<=1000000000000):∃ m,den F G (dMost iw) [.int n,.int k] S=.ok (.int (m:Nat)) S/\Most n k m:=by
 have hlt:n < C (k + n) k:=by
  obtain⟨k',rfl⟩:∃ k',k=k' + 1:=⟨k - 1,by omega⟩
  have:=C_ge k' n;omega
 obtain⟨m,h,x',r1,r2⟩:=most_loop (G:=G) hw (n:=n) (k:=k) (S:=S) hk 41 100000 k (k + n) none (by have h41:(2:Nat) ^ 41=2199023255552:=(by decide); omega) (by omega) (by omega) (Nat.le_refl _) (by omega) (by rw[C_self]; exact hn1) hlt
 refine⟨m,?_,r2⟩;have s1:=asg_v (i:=2) (F:=F) (G:=G) (e:=.var 1) (env:=[some (.int n),some (.int k),none,none,none]) (S:=S) (d:=.int k) (S':=S) (by simp only[ev,gZ0,gS0])
 have s2:=asg_v (i:=3) (F:=F) (G:=G) (e:=.bin .add (.var 1) (.var 0)) (env:=[some (.int n),some (.int k),some (.int k),none,none]) (S:=S) (d:=.int ((k + n:Nat):Int)) (S':=S) (by
  simp only[ev,gZ0,gS0,Rk0,bin_add];rw[Int.natCast_add])
 have s3:exe F G (.whl mostT (mostB iw)) [some (.int n),some (.int k),some (.int k),some (.int ((k + n:Nat):Int)),none] S=.ok (.nx [some (.int n),some (.int k),some (.int m),h,x']) S:=by
  rw[exe];exact r1
 have s4:exe F G (.ret (.var 2)) [some (.int n),some (.int k),some (.int m),h,x'] S=.ok (.rt (.int m)) S:=by
  simp only[exe,ev,gZ0,gS0,Rk0]
 simp only[den,dMost,List.length,if_true,List.map,List.replicate];have q:exes F G (.cons (.asg (.var 2) (.var 1)) (.cons (.asg (.var 3) (.bin .add (.var 1) (.var 0))) (.cons (.whl mostT (mostB iw)) (.cons (.ret (.var 2)) .nil)))) ([some (.int n),some (.int k)]++[none,none,none]) S=.ok (.rt (.int m)) S :=
  (exes_nx s1).trans ((exes_nx s2).trans ((exes_nx s3).trans (exes_rt s4)))
 rw[q]
noncomputable def writB(im iw:Nat):Sts:=.cons (.ite (.cmp .eq (.var 3) (.cst (.int 0))) (.cons .brk .nil) .nil) (.cons (.asg (.var 5) (.call im (.cons (.var 3) (.cons (.var 4) .nil)))) (.cons (.expr (.mth .append (.var 2) (.cons (.var 5) .nil))) (.cons (.aug 3 .sub (.call iw (.cons (.var 5) (.cons (.var 4) .nil)))) .nil)))
noncomputable def dWrit(ic im iw:Nat):Df:=⟨2,6,.cons (.expr (.call ic (.cons (.var 0) (.cons (.var 1) .nil)))) (.cons (.asg (.var 2) (.lst .nil)) (.cons (.asg (.var 3) (.var 0)) (.cons (.for (.var 4) (.rng (.cons (.var 1) (.cons (.cst (.int 0)) (.cons (.neg (.cst (.int 1))) .nil)))) (writB im iw)) (.cons (.ret (.blt .tuple (.cons (.var 2) .nil))) .nil))))⟩
def MostF(F:Fn)(im:Nat):Prop:=∀ (n k:Nat) (S:Sto),1<=k->k<=12->1<=n->n<=1000000000000->∃ m,F im [.int n,.int k] S=.ok (.int (m:Nat)) S/\Most n k m
theorem mostF_of{T:List Df}{im iw:Nat}(h:T[im]?=some (dMost iw)){k:Nat}(hw:WaysF (FT T G k) iw):MostF (FT T G (k + 1)) im:=fun n k' S h1 h2 h3 h4=>by
 obtain⟨m,r1,r2⟩:=den_most (G:=G) hw (S:=S) h1 h2 h3 h4;exact⟨m,by simp only[FT,h]; exact r1,r2⟩
theorem writ_zero{im iw:Nat}{n s k:Int}{q:Nat}{x5:Option D}{S:Sto}:exes F G (writB im iw) [some (.int n),some (.int s),some (.ref q),some (.int 0),some (.int k),x5] S=.ok (.brk [some (.int n),some (.int s),some (.ref q),some (.int 0),some (.int k),x5]) S:=by
 have h:exe F G (.ite (.cmp .eq (.var 3) (.cst (.int 0))) (.cons .brk .nil) .nil) [some (.int n),some (.int s),some (.ref q),some (.int 0),some (.int k),x5] S=.ok (.brk [some (.int n),some (.int s),some (.ref q),some (.int 0),some (.int k),x5]) S:=by
  rw[exe];simp only[ev,gZ0,gS0,Rk0,eq_int,beq_self_eq_true,truD,exes,exe]
 unfold writB;simp only[exes,h]
theorem writ_one{im iw:Nat}(hw:WaysF F iw)(hm:MostF F im){n s:Int}{r k q:Nat}{x5:Option D}{S:Sto}{acc:List D}(hk1:1<=k)(hk:k<=12)(hr1:1<=r)(hr:r<=1000000000000)(hq:lstAt S q=some acc)(hl:acc.length < 100) :
  ∃ m,Most r k m/\exes F G (writB im iw) [some (.int n),some (.int s),some (.ref q),some (.int r),some (.int k),x5] S=.ok (.nx [some (.int n),some (.int s),some (.ref q),some (.int ((r - C m k:Nat):Int)),some (.int k),some (.int m)]) (S.set q (.lst (acc++[.int m]))):=by
 obtain⟨m,h1,h2⟩:=hm r k S hk1 hk hr1 hr;refine⟨m,h2,?_⟩;have hm2:m<=10000000000000:=by
  obtain⟨a1,a2,a3⟩:=h2;obtain⟨k',rfl⟩:∃ k',k=k' + 1:=⟨k - 1,by omega⟩
  obtain⟨j,rfl⟩:∃ j,m=k' + 1 + j:=⟨m - (k' + 1),by omega⟩
  have:=C_ge k' j;omega
 have hb:((r:Int) == 0)=false:=by simp; omega
 have s0:exe F G (.ite (.cmp .eq (.var 3) (.cst (.int 0))) (.cons .brk .nil) .nil) [some (.int n),some (.int s),some (.ref q),some (.int r),some (.int k),x5] S=.ok (.nx [some (.int n),some (.int s),some (.ref q),some (.int r),some (.int k),x5]) S:=by
  rw[exe];simp only[ev,gZ0,gS0,Rk0,eq_int,hb,truD,exes]
 have s1:=asg_v (i:=5) (F:=F) (G:=G) (e:=.call im (.cons (.var 3) (.cons (.var 4) .nil))) (env:=[some (.int n),some (.int s),some (.ref q),some (.int r),some (.int k),x5]) (S:=S) (d:=.int m) (S':=S) (by simp only[ev,evs,gZ0,gS0,Rk0,h1])
 have hap:=app_lst (x:=.int m) hq (by omega)
 have hrc:rcvOk .append (.ref q) S=true:=by simp only[rcvOk,hq,Option.isSome_some]
 have s2:exe F G (.expr (.mth .append (.var 2) (.cons (.var 5) .nil))) [some (.int n),some (.int s),some (.ref q),some (.int r),some (.int k),some (.int m)] S=.ok (.nx [some (.int n),some (.int s),some (.ref q),some (.int r),some (.int k),some (.int m)]) (S.set q (.lst (acc++[.int m]))):=by
  simp only[exe,ev,evs,gZ0,gS0,Rk0,hrc,if_true,hap]
 have hwy:=hw m k (S.set q (.lst (acc++[.int m]))) hm2 hk;have s3:exe F G (.aug 3 .sub (.call iw (.cons (.var 5) (.cons (.var 4) .nil)))) [some (.int n),some (.int s),some (.ref q),some (.int r),some (.int k),some (.int m)] (S.set q (.lst (acc++[.int m])))=.ok (.nx [some (.int n),some (.int s),some (.ref q),some (.int ((r - C m k:Nat):Int)),some (.int k),some (.int m)]) (S.set q (.lst (acc++[.int m]))):=by
  have e:(r:Int) - (C m k:Int)=((r - C m k:Nat):Int):=by have:=h2.2.1; omega
  simp only[exe,ev,evs,gZ0,gS0,Rk0,hwy,augD,e,List.set]
 unfold writB;exact(exes_nx s0).trans ((exes_nx s1).trans ((exes_nx s2).trans ((exes_nx s3).trans (by simp only[exes]))))
theorem writ_loop{im iw:Nat}(hw:WaysF F iw)(hm:MostF F im){n:Int}{s q:Nat}{xs:List D}(hx:xs=(List.range s).map fun(j:Nat)=>D.int ((s:Int) - j))(hs:s<=12):∀ (k fuel i r:Nat) (x4 x5:Option D) (S:Sto) (acc:List D),i + k=s->k < fuel->r<=1000000000000->lstAt S q=some acc->acc.length<=50 + i->(k=0->r=0) ->
  ∃ w e,floop (Src.con xs).get (.var 4) (fun env S=>exes F G (writB im iw) env S) fuel i [some (.int n),some (.int s),some (.ref q),some (.int r),x4,x5] S=.ok (.nx e) (S.set q (.lst (acc++w.map D.int)))/\Wr k r w/\e[2]?=some (some (.ref q))
 | k,0,i,r,x4,x5,S,acc,h1,h2,h3,h4,h5,h6=>by omega
 | 0,fuel + 1,i,r,x4,x5,S,acc,h1,h2,h3,h4,h5,h6=>by
  have hi:xs[i]?=none:=by rw[hx]; simp; omega
  refine⟨[],[some (.int n),some (.int s),some (.ref q),some (.int r),x4,x5],?_,⟨h6 rfl,rfl⟩,rfl⟩;have e:S.set q (.lst (acc++([]:List Int).map D.int))=S:=by
   obtain⟨hlt,hv⟩:=List.getElem?_eq_some_iff.mp (at_lst h4);rw[List.map_nil,List.append_nil,<- hv];exact List.set_getElem_self hlt
  rw[e];simp only[floop,Src.get,hi]
 | k + 1,fuel + 1,i,r,x4,x5,S,acc,h1,h2,h3,h4,h5,h6=>by
  have hi:xs[i]?=some (.int ((k + 1:Nat):Int)):=by
   rw[hx,List.getElem?_map,List.getElem?_range (by omega),Option.map_some]
   congr 2;omega
  by_cases hr:r=0
  ·subst hr
   refine⟨[],[some (.int n),some (.int s),some (.ref q),some (.int 0),some (.int ((k + 1:Nat):Int)),x5],?_,.inl ⟨rfl,rfl⟩,rfl⟩;have e:S.set q (.lst (acc++([]:List Int).map D.int))=S:=by
    obtain⟨hlt,hv⟩:=List.getElem?_eq_some_iff.mp (at_lst h4);rw[List.map_nil,List.append_nil,<- hv];exact List.set_getElem_self hlt
   rw[e];have hz:=writ_zero (F:=F) (G:=G) (im:=im) (iw:=iw) (n:=n) (s:=s) (k:=((k + 1:Nat):Int)) (q:=q) (x5:=x5) (S:=S);simp only[floop,Src.get,hi,setTg,List.set];have hz':exes F G (writB im iw) [some (.int n),some (.int s),some (.ref q),some (.int ((0:Nat):Int)),some (.int ((k + 1:Nat):Int)),x5] S=_:=hz;rw[hz']
  ·obtain⟨m,m1,m2⟩:=writ_one (G:=G) hw hm (n:=n) (s:=s) (r:=r) (k:=k + 1) (q:=q) (x5:=x5) (S:=S) (acc:=acc) (by omega) (by omega) (by omega) h3 h4 (by omega)
   have hrest:k=0->r - C m (k + 1)=0:=fun z=>by
    subst z;obtain⟨a1,a2,a3⟩:=m1;rw[Nat.zero_add,C_one] at a2 ⊢;rw[Nat.zero_add,C_one] at a3;omega
   obtain⟨w,e,r1,r2,r3⟩:=writ_loop hw hm hx hs k fuel (i + 1) (r - C m (k + 1)) (some (.int ((k + 1:Nat):Int))) (some (.int m)) (S.set q (.lst (acc++[.int m]))) (acc++[.int m]) (by omega) (by omega) (by omega) (set_lst (lst_lt h4)) (by simp; omega) hrest
   refine⟨(m:Int) :: w,e,?_,.inr ⟨m,w,rfl,by omega,m1,r2⟩,r3⟩
   rw[List.set_set,List.append_assoc] at r1;simp only[floop,Src.get,hi,setTg,List.set];rw[m2];exact r1
theorem rng_down{s:Nat}(hs:s<=12):rngD [.int s,.int 0,.int (-1)]=some ((List.range s).map fun(j:Nat)=>D.int ((s:Int) - j)):=by
 have h:∀ j:Fin 13,(-(1048576:Int) < (j.val:Int)/\(j.val:Int) < 1048576):=by decide
 obtain⟨h1,h2⟩:=h ⟨s,by omega⟩
 unfold rngD;dsimp only;rw[if_pos ⟨rfl,h1,h2,by decide,by decide⟩,show((s:Int) - 0).toNat=s by omega]
theorem writ_fin{ic im iw:Nat}{n s:D}{w:List Int}{xs:List D}{e:En}{S:Sto}(hc:F ic [n,s] S=.ok .non S)(hr:rngD [s,.int 0,.int (-1)]=some xs)
  (r1:floop (Src.con xs).get (.var 4) (fun env S=>exes F G (writB im iw) env S) (xs.length + 1) 0 [some n,some s,some (.ref S.length),some n,none,none] (S++[.lst []])=.ok (.nx e) (S++[.lst (w.map D.int)])) (r3:e[2]?=some (some (.ref S.length))) :
  den F G (dWrit ic im iw) [n,s] S=.ok (tupI w) (S++[.lst (w.map D.int)]):=by
 have s0:exe F G (.expr (.call ic (.cons (.var 0) (.cons (.var 1) .nil)))) [some n,some s,none,none,none,none] S=.ok (.nx [some n,some s,none,none,none,none]) S:=by
  simp only[exe,ev,evs,gZ0,gS0,Rk0,hc]
 have s1:=asg_v (i:=2) (F:=F) (G:=G) (e:=.lst .nil) (env:=[some n,some s,none,none,none,none]) (S:=S) (d:=.ref S.length) (S':=S++[.lst []]) (by
  simp only[ev,evs,Rk0];exact if_pos (by decide))
 have s2:=asg_v (i:=3) (F:=F) (G:=G) (e:=.var 0) (env:=[some n,some s,some (.ref S.length),none,none,none]) (S:=S++[.lst []]) (d:=n) (S':=S++[.lst []]) (by simp only[ev,gZ0])
 have s3:exe F G (.for (.var 4) (.rng (.cons (.var 1) (.cons (.cst (.int 0)) (.cons (.neg (.cst (.int 1))) .nil)))) (writB im iw)) [some n,some s,some (.ref S.length),some n,none,none] (S++[.lst []])=.ok (.nx e) (S++[.lst (w.map D.int)]):=by
  simp only[exe,evit,evs,ev,gZ0,gS0,Rk0,hr,Src.most];exact r1
 have s4:exe F G (.ret (.blt .tuple (.cons (.var 2) .nil))) e (S++[.lst (w.map D.int)])=.ok (.rt (tupI w)) (S++[.lst (w.map D.int)]):=by
  simp only[exe,ev,evs,r3,Rk0,bltD,seqD,last_lst,tupI]
 simp only[den,dWrit,List.length,if_true,List.map,List.replicate];have q:exes F G (.cons (.expr (.call ic (.cons (.var 0) (.cons (.var 1) .nil)))) (.cons (.asg (.var 2) (.lst .nil)) (.cons (.asg (.var 3) (.var 0)) (.cons (.for (.var 4) (.rng (.cons (.var 1) (.cons (.cst (.int 0)) (.cons (.neg (.cst (.int 1))) .nil)))) (writB im iw)) (.cons (.ret (.blt .tuple (.cons (.var 2) .nil))) .nil))))) ([some n,some s]++[none,none,none,none]) S=.ok (.rt (tupI w)) (S++[.lst (w.map D.int)]) :=
  (exes_nx s0).trans ((exes_nx s1).trans ((exes_nx s2).trans ((exes_nx s3).trans (exes_rt s4))))
 rw[q]
theorem den_writ{ic im iw n s:Nat}{S:Sto}(hw:WaysF F iw)(hm:MostF F im)(hc:F ic [.int n,.int s] S=.ok .non S)(hs1:1<=s)(hs:s<=12)(hn:n<=1000000000000):∃ w,den F G (dWrit ic im iw) [.int n,.int s] S=.ok (tupI w) (S++[.lst (w.map D.int)])/\Wr s n w:=by
 obtain⟨w,e,r1,r2,r3⟩:=writ_loop (G:=G) hw hm (n:=n) (s:=s) (q:=S.length) rfl hs s (s + 1) 0 n none none (S++[.lst []]) [] (Nat.zero_add s) (Nat.lt_succ_self s) hn last_lst (Nat.zero_le _) (fun z=>absurd z (by omega))
 have e2:(S++[O.lst []]).set S.length (.lst ([]++w.map D.int))=S++[.lst (w.map D.int)]:=by
  rw[List.set_append_right _ _ (Nat.le_refl _),Nat.sub_self,List.nil_append];rfl
 rw[e2] at r1;refine⟨w,writ_fin hc (rng_down hs) ?_ r3,r2⟩;rw[List.length_map,List.length_range];exact r1
end
end Z
end
section
set_option exponentiation.threshold 3000
namespace Z
open PySem
theorem fall_step(n i:Nat)(h:i<=n):((C n i * fac i:Nat):Int) * ((n:Int) - i)=((C n (i + 1) * fac (i + 1):Nat):Int):=by
 have e:(n:Int) - i=((n - i:Nat):Int):=by omega
 rw[e,<- Int.natCast_mul];congr 1;have:=C_step n i;simp only[fac]
 calc C n i * fac i * (n - i)=C n i * (n - i) * fac i:=by rw[Nat.mul_assoc,Nat.mul_comm (fac i),<- Nat.mul_assoc]
  _=C n (i + 1) * (i + 1) * fac i:=by rw[this]
  _=C n (i + 1) * (fac i * (i + 1)):=by rw[Nat.mul_assoc,Nat.mul_comm (i + 1)]
theorem fall_le(n:Nat):∀ i,C n i * fac i<=n ^ i
 | 0=>by rw[C_zero]; simp[fac]
 | i + 1=>by
  by_cases h:i<=n
  ·have:=C_step n i
   have ih:=fall_le n i;have e:C n (i + 1) * fac (i + 1)=C n i * fac i * (n - i):=by
    simp only[fac]
    calc C n (i + 1) * (fac i * (i + 1))=C n (i + 1) * (i + 1) * fac i:=by rw[Nat.mul_assoc,Nat.mul_comm (i + 1)]
     _=C n i * (n - i) * fac i:=by rw[this]
     _=C n i * fac i * (n - i):=by rw[Nat.mul_assoc,Nat.mul_comm (n - i),<- Nat.mul_assoc]
   rw[e,Nat.pow_succ];exact Nat.mul_le_mul ih (Nat.sub_le _ _)
  ·rw[C_gt n (i + 1) (by omega),Nat.zero_mul]
   exact Nat.zero_le _
theorem log_le{n k:Nat}(h:n < 2 ^ k)(hk:0 < k):n.log2 < k:=by
 by_cases h0:n=0
 ·subst h0; exact hk
 ·exact(Nat.log2_lt h0).mpr h
theorem fall_log{n i:Nat}(hn:n < 2 ^ 300)(hi:i<=12):((C n i * fac i:Nat):Int).natAbs.log2 < 100000:=by
 rw[Int.natAbs_natCast];refine log_le (Nat.lt_of_le_of_lt (fall_le n i) ?_) (by decide)
 refine Nat.lt_of_le_of_lt (Nat.pow_le_pow_left (Nat.le_of_lt hn) i) ?_;rw[<- Nat.pow_mul];exact Nat.pow_lt_pow_right (by decide) (by omega)
section
variable{F:Fn}{G:List D}
noncomputable def lwB:Sts:=.cons (.asg (.var 3) (.bin .mul (.var 3) (.bin .sub (.var 0) (.var 2)))) (.cons (.asg (.var 4) (.bin .mul (.var 4) (.bin .add (.var 2) (.cst (.int 1))))) .nil)
noncomputable def dLWays:Df:=⟨2,5,.cons (.ite (.cmp .gt (.var 1) (.var 0)) (.cons (.ret (.cst (.int 0))) .nil) .nil) (.cons (.asg (.tup [3,4]) (.tup (.cons (.cst (.int 1)) (.cons (.cst (.int 1)) .nil)))) (.cons (.for (.var 2) (.rng (.cons (.var 1) .nil)) lwB) (.cons (.ret (.bin .fdiv (.var 3) (.var 4))) .nil)))⟩
theorem lw_gen{n m t b i:Int}{S:Sto}(h1:mulOk t (n - i)=true)(h2:mulOk b (i + 1)=true):exes F G lwB [some (.int n),some (.int m),some (.int i),some (.int t),some (.int b)] S=.ok (.nx [some (.int n),some (.int m),some (.int i),some (.int (t * (n - i))),some (.int (b * (i + 1)))]) S:=by
 have s1:=asg_v (i:=3) (F:=F) (G:=G) (e:=.bin .mul (.var 3) (.bin .sub (.var 0) (.var 2))) (env:=[some (.int n),some (.int m),some (.int i),some (.int t),some (.int b)]) (S:=S) (d:=.int (t * (n - i))) (S':=S) (by
  simp only[ev,gZ0,gS0,Rk0,bin_sub,bin_mul h1])
 have s2:=asg_v (i:=4) (F:=F) (G:=G) (e:=.bin .mul (.var 4) (.bin .add (.var 2) (.cst (.int 1)))) (env:=[some (.int n),some (.int m),some (.int i),some (.int (t * (n - i))),some (.int b)]) (S:=S) (d:=.int (b * (i + 1))) (S':=S) (by
  simp only[ev,gZ0,gS0,Rk0,bin_add,bin_mul h2])
 unfold lwB;exact(exes_nx s1).trans ((exes_nx s2).trans (by simp only[exes,List.set]))
theorem lw_fin{n m t b r:Int}{e':En}{S:Sto}(h0:decide (n < m)=false)(h1:exe F G (.for (.var 2) (.rng (.cons (.var 1) .nil)) lwB) [some (.int n),some (.int m),none,some (.int 1),some (.int 1)] S=.ok (.nx e') S)(h3:e'[3]?=some (some (.int t)))(h4:e'[4]?=some (some (.int b)))(hd:divOk b=true)(hr:t / b=r):den F G dLWays [.int n,.int m] S=.ok (.int r) S:=by
 simp only[den,dLWays,List.length,if_true,List.map,List.replicate,List.cons_append,List.nil_append];rw[exes_nx (e:=[some (.int n),some (.int m),none,none,none]) (S1:=S) (if_pass (by
  simp only[ev,List.cons_append,List.nil_append,gZ0,gS0,Rk0,cmpR,cmpD,h0]))]
 rw[exes_nx (e:=[some (.int n),some (.int m),none,some (.int 1),some (.int 1)]) (S1:=S) (by
  simp only[exe,ev,evs,Rk0];rfl)]
 rw[exes_nx h1];rw[exes_rt (d:=.int r) (S1:=S) (by simp only[exe,ev,h3,h4,Rk0,bin_fdiv hd,hr])]
theorem lw_less{n m:Int}{S:Sto}(h0:decide (n < m)=true):den F G dLWays [.int n,.int m] S=.ok (.int 0) S:=by
 simp only[den,dLWays,List.length,if_true,List.map,List.replicate,List.cons_append,List.nil_append];rw[exes_rt (d:=.int 0) (S1:=S) (ite_ret (by
  simp only[ev,List.cons_append,List.nil_append,gZ0,gS0,Rk0,cmpR,cmpD,h0]))]
theorem fac_div{i:Nat}(h:i<=12):divOk (fac i:Int)=true:=by
 have:∀ j:Fin 13,divOk (fac j.val:Int)=true:=by decide +kernel
 exact this ⟨i,by omega⟩
theorem fac_mul{i:Nat}(h:i < 12):mulOk (fac i:Int) ((i:Int) + 1)=true:=mul_okR (by omega) (by omega)
theorem sub_log{n i:Nat}(hn:n < 2 ^ 300)(hi:i<=n):((n:Int) - i).natAbs.log2 < 100000:=by
 have e:((n:Int) - i).natAbs=n - i:=by omega
 rw[e];exact log_le (Nat.lt_of_le_of_lt (Nat.sub_le n i) (Nat.lt_of_lt_of_le hn (Nat.pow_le_pow_right (by decide) (by decide)))) (by decide)
theorem lw_step{n m i:Nat}{S:Sto}(hn:n < 2 ^ 300)(hi:i < 12)(hin:i<=n):exes F G lwB [some (.int n),some (.int m),some (.int i),some (.int ((C n i * fac i:Nat):Int)),some (.int (fac i))] S=.ok (.nx [some (.int n),some (.int m),some (.int i),some (.int ((C n (i + 1) * fac (i + 1):Nat):Int)),some (.int (fac (i + 1)))]) S:=by
 have h:=lw_gen (F:=F) (G:=G) (n:=n) (m:=m) (t:=((C n i * fac i:Nat):Int)) (b:=(fac i:Int)) (i:=i) (S:=S) (mul_okB (fall_log hn (Nat.le_of_lt hi)) (sub_log hn hin)) (fac_mul hi);rw[fall_step n i hin] at h;have e:(fac i:Int) * ((i:Int) + 1)=(fac (i + 1):Int):=by simp only[fac]; rw[Int.natCast_mul]; rfl
 rw[e] at h;exact h
theorem den_lways{n m:Nat}{S:Sto}(hn:n < 2 ^ 300)(hm:m<=12):den F G dLWays [.int n,.int m] S=.ok (.int (C n m)) S:=by
 by_cases h:n < m
 ·rw[C_gt n m h]
  exact lw_less (decide_eq_true (by omega))
 ·obtain⟨xs,hx,hl⟩:=rng1_some (m:=(m:Int)) (by omega) (lt20 (by omega))
  have hl':xs.length=m:=by omega
  obtain⟨e',S',h1,rfl,x,rfl⟩:=exe_rng (F:=F) (G:=G) (t:=.var 2) (es:=.cons (.var 1) .nil) (b:=lwB) (env:=[some (.int n),some (.int m),none,some (.int 1),some (.int 1)]) (S:=S) (S1:=S) (ds:=[.int m]) (xs:=xs)
   (fun i e S'=>S'=S/\∃ x,e=[some (.int n),some (.int m),x,some (.int ((C n i * fac i:Nat):Int)),some (.int (fac i))]) (by simp only[evs,ev,gZ0,gS0,Rk0]) hx ⟨rfl,none,by rw[C_zero]; rfl⟩ (fun i d e S' hd hP=>by
    obtain⟨rfl,x,rfl⟩:=hP;obtain⟨rfl,hi⟩:=rng1_get hx hd;exact⟨_,_,S',rfl,lw_step hn (by omega) (by omega),rfl,_,rfl⟩)
  rw[hl'] at h1;refine lw_fin (decide_eq_false (by omega)) h1 rfl rfl (fac_div hm) ?_
  rw[Int.natCast_mul,Int.mul_ediv_cancel _ (by have:=fac_pos m; omega)]
def LWaysF(F:Fn)(il:Nat):Prop:=∀ (n m:Nat) (S:Sto),n < 2 ^ 300->m<=12->F il [.int n,.int m] S=.ok (.int (C n m)) S
theorem lwaysF_of{T:List Df}{il:Nat}(h:T[il]?=some dLWays)(k:Nat):LWaysF (FT T G (k + 1)) il:=fun n m S hn hm=>by
 simp only[FT,h];exact den_lways hn hm
end
end Z
end
section
set_option exponentiation.threshold 3000
namespace Z
open PySem
section
variable{F:Fn}{G:List D}
theorem enm_at{l:List Int}{S:Sto}{i:Nat}:(Src.enm (.con (l.map D.int))).get S i=some ((l[i]?).map fun x=>D.tup [.int i,.int x]):=by
 simp only[Src.get,List.getElem?_map];cases l[i]? <;> rfl
end
end Z
end
section
set_option exponentiation.threshold 3000
namespace Z
open PySem
section
variable{F:Fn}{G:List D}
end
end Z
end
section
set_option exponentiation.threshold 3000
namespace Z
open PySem
section
variable{F:Fn}{G:List D}
noncomputable def dChkW(i1:Nat)(a b:Str):Df:=⟨2,2,.cons (.ite (.not (.call i1 (.cons (.var 0) (.cons (.cst (.int 0)) (.cons (.glb 0) .nil))))) (.cons (.rse 8 (.cst (.str a))) .nil) .nil) (.cons (.ite (.not (.call i1 (.cons (.var 1) (.cons (.cst (.int 1)) (.cons (.glb 1) .nil))))) (.cons (.rse 8 (.cst (.str b))) .nil) .nil) .nil)⟩
variable{i1:Nat}{d e:D}{x y:Str}{g1 g2:Int}{S:Sto}
theorem chkW_ok(h0:G[0]?=some (.int g1))(h1:G[1]?=some (.int g2))(h:F i1 [d,.int 0,.int g1] S=.ok (.bl true) S)(h':F i1 [e,.int 1,.int g2] S=.ok (.bl true) S):den F G (dChkW i1 x y) [d,e] S=.ok .non S:=by
 simp only[den,dChkW,List.length,if_true,List.map,List.replicate,Nat.sub_self,List.append_nil];rw[exes_nx (e:=[some d,some e]) (S1:=S) (if_pass (by simp only[ev,evs,gZ0,Rk0,h0,h,truD]; rfl))]
 rw[exes_nx (e:=[some d,some e]) (S1:=S) (if_pass (by simp only[ev,evs,gZ0,gS0,Rk0,h1,h',truD]; rfl))]
 simp only[exes]
end
end Z
end
section
namespace Z
open PySem
noncomputable def gtot(g:Nat->Nat->Nat):Nat->List Int->Nat
 | _,[]=>0
 | 0,_ :: _=>0
 | k + 1,x :: r=>g x.toNat (k + 1) + gtot g k r
structure Up(g:Nat->Nat->Nat):Prop where
 mono:∀ {m n:Nat} (k:Nat),m<=n->g m k<=g n k
 step:∀ a k:Nat,g a (k + 2) + g a (k + 1)<=g (a + 1) (k + 2)
noncomputable def gU(a k:Nat):Nat:=C a (k + 1)
noncomputable def gL(a k:Nat):Nat:=C a (k - 1)
noncomputable def gB(a k:Nat):Nat:=C (a + 1) (k + 1)
theorem Wr.wok{k n:Nat}{l:List Int}(h:Wr k n l):l.length<=k/\Z.wok k none l=true/\wtot k l=n:=wr_ok (pv:=none) h fun y e=>by cases e
end Z
end
section
namespace Z
open PySem
section
variable{F:Fn}{G:List D}
noncomputable def dWParts(iw:Nat):Df:=⟨2,2,.cons (.ret (.cmr false 3 (.cons (.tup [3,4]) (.enm (.cons (.call iw (.cons (.var 0) (.cons (.var 1) .nil))) .nil)) .nil .nil) (.tup (.cons (.var 4) (.cons (.bin .sub (.var 1) (.var 3)) .nil))))) .nil⟩
noncomputable def wpart(w:List Int)(s:Int)(i:Nat):D:=.tup [.int (w.getD i 0),.int (s - i)]
theorem two_big(x y:D)(S:Sto):(if [x,y].length<=big then R.ok (D.tup [x,y]) S else R.bad)=R.ok (D.tup [x,y]) S:=if_pos (by show 2<=big; decide)
theorem den_wparts{iw:Nat}{n s:Int}{w:List Int}{S S1:Sto}(h:F iw [.int n,.int s] S=.ok (tupI w) S1)(hl:w.length<=12) :
  den F G (dWParts iw) [.int n,.int s] S=.ok (.ref S1.length) (S1++[.lst ((List.range w.length).map (wpart w s))]):=by
 have hit:evit F G (.enm (.cons (.call iw (.cons (.var 0) (.cons (.var 1) .nil))) .nil)) [some (.int n),some (.int s)] S=.ok (.enm (.con (w.map D.int))) S1:=by
  simp only[evit,evs,ev,gZ0,gS0,Rk0,h,tupI,srcD]
 obtain⟨e',S',a,b⟩:=ev_cmr (n:=3) (elt:=.tup (.cons (.var 4) (.cons (.bin .sub (.var 1) (.var 3)) .nil))) (t:=.tup [3,4]) ((List.range w.length).map fun(i:Nat)=>D.tup [.int (i:Int),.int (w.getD i 0)]) (wpart w s) (fun i e S=>S=S1/\∃ p q r,e=[some (.int n),some (.int s),p,q,r]) hit
  (by simp[Src.most]) (by rw[List.length_map,List.length_range]; exact le_big (by omega)) ⟨rfl,none,none,none,rfl⟩
  (fun i e S hP=>by
   rw[enm_at];congr 1;simp only[List.getElem?_map,List.getElem?_range']
   by_cases q:i < w.length
   ·simp[q,List.getD]
   ·simp[q])
  (fun i d e S hd hP=>by
   obtain⟨rfl,p,q,r,rfl⟩:=hP;have hi:i < w.length:=by have:=(List.getElem?_eq_some_iff.mp hd).1; simpa using this
   have hd2:d=D.tup [.int (i:Int),.int (w.getD i 0)]:=by
    simp only[List.getElem?_map,List.getElem?_range hi,Option.map_some,Option.some.injEq] at hd;exact hd.symm
   subst hd2;refine⟨[some (.int n),some (.int s),p,some (.int i),some (.int (w.getD i 0))],S,rfl,?_,rfl,p,_,_,rfl⟩;simp only[ev,evs,gZ0,gS0,Rk0,bin_sub,two_big,wpart])
 obtain⟨rfl,_⟩:=b;simp only[den,dWParts,List.length,if_true,List.map,List.replicate,Nat.sub_self,List.append_nil];simp only[List.length_map,List.length_range] at a;rw[exes_rt (d:=.ref S'.length) (S1:=S'++[.lst ((List.range w.length).map (wpart w s))]) (by simp only[exe,a,Rk0])]
noncomputable def dWSum(ip:Nat)(elt:Ex):Df:=⟨2,2,.cons (.ret (.blt .sum (.cons (.cmr false 3 (.cons (.tup [3,4]) (.val (.call ip (.cons (.var 0) (.cons (.var 1) .nil)))) .nil .nil) elt) .nil))) .nil⟩
theorem sum_ref{S:Sto}{q:Nat}{l:List Int}(h:lstAt S q=some (l.map D.int)):bltD .sum [.ref q] S=.ok (.int l.sum) S:=by
 have:∀ l:List Int,allInts (l.map D.int)=some l:=fun l=>by
  induction l with
  | nil=>rfl
  | cons x r ih=>simp only[List.map,allInts,ih,Option.map_some]
 simp only[bltD,seqD,h,Option.bind_some,this]
theorem gtot_range(g:Nat->Nat->Nat):∀ (s:Nat) (w:List Int),w.length<=s->(((List.range w.length).map fun i=>((g (w.getD i 0).toNat (s - i):Nat):Int)).sum)=(gtot g s w:Nat)
 | s,[],_=>by
  have e:gtot g s []=0:=by cases s <;> rfl
  rw[e]; rfl
 | 0,_ :: _,h=>by simp at h
 | s + 1,x :: r,h=>by
  have ih:=gtot_range g s r (by simp only[List.length_cons] at h; omega)
  rw[List.length_cons,List.range_succ_eq_map,List.map_cons,List.sum_cons,List.map_map];simp only[gtot];have e:(List.range r.length).map ((fun i=>((g ((x :: r).getD i 0).toNat (s + 1 - i):Nat):Int)) ∘ Nat.succ)=(List.range r.length).map fun i=>((g (r.getD i 0).toNat (s - i):Nat):Int):=by
   refine List.map_congr_left fun i _=>?_
   simp only[Function.comp,List.getD_cons_succ];have:s + 1 - i.succ=s - i:=by omega
   rw[this]
  rw[e,ih];simp only[List.getD_cons_zero,Nat.sub_zero];omega
theorem den_wsum{ip:Nat}{elt:Ex}{g:Nat->Nat->Nat}{n s:Nat}{w:List Int}{S S1:Sto}(h:F ip [.int n,.int s] S=.ok (.ref S1.length) (S1++[.lst ((List.range w.length).map (wpart w s))]))(hl:w.length<=s)(hs:s<=12)
  (he:∀ (x c:Nat) (a b d:Option D) (S:Sto),(x:Int)∈w->1<=c->c<=s->ev F G elt [a,b,d,some (.int x),some (.int c)] S=.ok (.int (g x c:Nat)) S) (hw:∀ x∈w,0<=x) :
  ∃ X,den F G (dWSum ip elt) [.int n,.int s] S=.ok (.int (gtot g s w:Nat)) (S1++X):=by
 have hit:evit F G (.val (.call ip (.cons (.var 0) (.cons (.var 1) .nil)))) [some (.int n),some (.int s)] S=.ok (.ref S1.length) (S1++[.lst ((List.range w.length).map (wpart w s))]):=by
  simp only[evit,evs,ev,gZ0,gS0,Rk0,h,srcD,last_lst,Option.map_some]
 obtain⟨e',S',a,b⟩:=ev_cmr (n:=3) (elt:=elt) (t:=.tup [3,4]) ((List.range w.length).map (wpart w s)) (fun i=>.int ((g (w.getD i 0).toNat (s - i):Nat):Int)) (fun i e S=>S=S1++[.lst ((List.range w.length).map (wpart w s))]/\∃ p q r,e=[some (.int n),some (.int s),p,q,r]) hit
  (by simp only[Src.most,last_lst,Option.getD_some]) (by rw[List.length_map,List.length_range]; exact le_big (by omega)) ⟨rfl,none,none,none,rfl⟩
  (fun i e S hP=>by
   obtain⟨rfl,_⟩:=hP;simp only[Src.get,last_lst,Option.map_some])
  (fun i d e S hd hP=>by
   obtain⟨rfl,p,q,r,rfl⟩:=hP;have hi:i < w.length:=by have:=(List.getElem?_eq_some_iff.mp hd).1; simpa using this
   have hd2:d=wpart w s i:=by
    simp only[List.getElem?_map,List.getElem?_range hi,Option.map_some,Option.some.injEq] at hd;exact hd.symm
   subst hd2;refine⟨[some (.int n),some (.int s),p,some (.int (w.getD i 0)),some (.int ((s:Int) - i))],_,rfl,?_,rfl,p,_,_,rfl⟩;have hm:w.getD i 0∈w:=by
    have:w.getD i 0=w[i]:=by simp[List.getD,hi]
    rw[this]; exact List.getElem_mem hi
   have hx:=hw _ hm;have e1:((w.getD i 0).toNat:Int)=w.getD i 0:=by omega
   have e2:(s:Int) - i=((s - i:Nat):Int):=by omega
   have q1:=he (w.getD i 0).toNat (s - i) (some (.int n)) (some (.int s)) p (S1++[.lst ((List.range w.length).map (wpart w s))]) (by rw[e1]; exact hm) (by omega) (by omega)
   rw[e1] at q1;rw[e2];exact q1)
 obtain⟨rfl,_⟩:=b;refine⟨[.lst ((List.range w.length).map (wpart w s))]++[.lst ((List.range ((List.range w.length).map (wpart w s)).length).map fun i=>D.int ((g (w.getD i 0).toNat (s - i):Nat):Int))],?_⟩
 simp only[den,dWSum,List.length,if_true,List.map,List.replicate,Nat.sub_self,List.append_nil];rw[<- List.append_assoc];have q:=sum_ref (S:=S1++[.lst ((List.range w.length).map (wpart w s))]++[.lst ((List.range ((List.range w.length).map (wpart w s)).length).map fun i=>D.int ((g (w.getD i 0).toNat (s - i):Nat):Int))]) (q:=(S1++[O.lst ((List.range w.length).map (wpart w s))]).length) (l:=(List.range w.length).map fun i=>((g (w.getD i 0).toNat (s - i):Nat):Int)) (by
  rw[last_lst,List.length_map,List.length_range,List.map_map]; rfl)
 rw[gtot_range g s w hl] at q;rw[exes_rt (d:=.int (gtot g s w:Nat)) (S1:=S1++[.lst ((List.range w.length).map (wpart w s))]++[.lst ((List.range ((List.range w.length).map (wpart w s)).length).map fun i=>D.int ((g (w.getD i 0).toNat (s - i):Nat):Int))]) (by
  rw[exe,ev,evs,a,Rk0,evs,Rk0,Rk0,q,Rk0])]
theorem elt_U{iw:Nat}(hw:WaysF F iw){x c:Nat}{a b d:Option D}{S:Sto}(hx:x<=10000000000000)(hc:c<=11):ev F G (.call iw (.cons (.var 3) (.cons (.bin .add (.var 4) (.cst (.int 1))) .nil))) [a,b,d,some (.int x),some (.int c)] S=.ok (.int (gU x c:Nat)) S:=by
 have e:(c:Int) + 1=((c + 1:Nat):Int):=by omega
 simp only[ev,evs,gZ0,gS0,Rk0,bin_add,e,hw x (c + 1) S hx (by omega),gU]
theorem elt_B{iw:Nat}(hw:WaysF F iw){x c:Nat}{a b d:Option D}{S:Sto}(hx:x + 1<=10000000000000)(hc:c<=11):ev F G (.call iw (.cons (.bin .add (.var 3) (.cst (.int 1))) (.cons (.bin .add (.var 4) (.cst (.int 1))) .nil))) [a,b,d,some (.int x),some (.int c)] S=.ok (.int (gB x c:Nat)) S:=by
 have e:(c:Int) + 1=((c + 1:Nat):Int):=by omega
 have e1:(x:Int) + 1=((x + 1:Nat):Int):=by omega
 simp only[ev,evs,gZ0,gS0,Rk0,bin_add,e,e1,hw (x + 1) (c + 1) S hx (by omega),gB]
end
end Z
end
section
set_option exponentiation.threshold 3000
namespace Z
open PySem
section
variable{F:Fn}{G:List D}
theorem LWaysF.ways{il:Nat}(h:LWaysF F il):WaysF F il:=fun n m S hn hm=>h n m S (Nat.lt_of_le_of_lt hn (by decide)) hm
noncomputable def lrT:Ex:=.cmp .gt (.bin .sub (.var 6) (.var 5)) (.cst (.int 1))
noncomputable def lrB(iw:Nat):Sts:=.cons (.asg (.var 7) (.bin .fdiv (.bin .add (.var 5) (.var 6)) (.cst (.int 2)))) (.cons (.ite (.cmp .le (.call iw (.cons (.var 7) (.cons (.var 4) .nil))) (.var 3)) (.cons (.asg (.var 5) (.var 7)) .nil) (.cons (.asg (.var 6) (.var 7)) .nil)) .nil)
noncomputable def whlT(F:Fn)(G:List D)(c:Ex):En->Sto->R Bool:=fun env S=>(ev F G c env S).bind fun x S=>match truD S x with
 | some r=>.ok r S
 | none=>.bad
theorem lr_tst{a0 a1 a2 a3 a4 x:Option D}{lo hi:Int}{S:Sto}:whlT F G lrT [a0,a1,a2,a3,a4,some (.int lo),some (.int hi),x] S=.ok (decide (1 < hi - lo)) S:=by
 unfold whlT;simp only[lrT,ev,gZ0,gS0,Rk0,bin_sub,cmpR,cmpD,truD]
theorem lr_body{iw:Nat}(hw:WaysF F iw){a0 a1 a2 x:Option D}{n k lo hi:Nat}{S:Sto}(hk:k<=12)(h:(lo + hi) / 2<=10000000000000) :
  exes F G (lrB iw) [a0,a1,a2,some (.int n),some (.int k),some (.int lo),some (.int hi),x] S=.ok (.nx (if C ((lo + hi) / 2) k<=n then [a0,a1,a2,some (.int n),some (.int k),some (.int ((lo + hi) / 2:Nat)),some (.int hi),some (.int ((lo + hi) / 2:Nat))] else [a0,a1,a2,some (.int n),some (.int k),some (.int lo),some (.int ((lo + hi) / 2:Nat)),some (.int ((lo + hi) / 2:Nat))])) S:=by
 have e:((lo:Int) + hi) / 2=((lo + hi) / 2:Nat):=by omega
 have s1:=asg_v (i:=7) (F:=F) (G:=G) (e:=.bin .fdiv (.bin .add (.var 5) (.var 6)) (.cst (.int 2))) (env:=[a0,a1,a2,some (.int n),some (.int k),some (.int lo),some (.int hi),x]) (S:=S) (d:=.int ((lo + hi) / 2:Nat)) (S':=S) (by
  simp only[ev,gZ0,gS0,Rk0,bin_add,bin_fdiv d2,e])
 generalize (lo + hi) / 2=m at s1 h;have hc:=hw m k S h hk;have ht:ev F G (.cmp .le (.call iw (.cons (.var 7) (.cons (.var 4) .nil))) (.var 3)) [a0,a1,a2,some (.int n),some (.int k),some (.int lo),some (.int hi),some (.int m)] S=.ok (.bl (decide ((C m k:Int)<=n))) S:=by
  simp only[ev,evs,gZ0,gS0,Rk0,hc,cmpR,cmpD]
 unfold lrB;rw[exes_nx s1]
 by_cases q:C m k<=n
 ·have hd:decide ((C m k:Int)<=n)=true:=decide_eq_true (by omega)
  rw[hd] at ht;rw[if_pos q];rw[exes_nx (e:=[a0,a1,a2,some (.int n),some (.int k),some (.int m),some (.int hi),some (.int m)]) (S1:=S) (by
   show exe F G _ [a0,a1,a2,some (.int n),some (.int k),some (.int lo),some (.int hi),some (.int m)] S=_;rw[exe,ht,Rk0];simp only[truD,exes,exe,ev,gZ0,gS0,Rk0,setTg,List.set])]
  rw[exes]
 ·have hd:decide ((C m k:Int)<=n)=false:=decide_eq_false (by omega)
  rw[hd] at ht;rw[if_neg q];rw[exes_nx (e:=[a0,a1,a2,some (.int n),some (.int k),some (.int lo),some (.int m),some (.int m)]) (S1:=S) (by
   show exe F G _ [a0,a1,a2,some (.int n),some (.int k),some (.int lo),some (.int hi),some (.int m)] S=_;rw[exe,ht,Rk0];simp only[truD,exes,exe,ev,gZ0,gS0,Rk0,setTg,List.set])]
  rw[exes]
theorem lr_loop{iw:Nat}(hw:WaysF F iw){a0 a1 a2:Option D}{n k:Nat}{S:Sto}(hk:k<=12):∀ (j fuel lo hi:Nat) (x:Option D),hi - lo<=2 ^ j->j < fuel->lo < hi->k<=lo->hi<=5000000000000->C lo k<=n->n < C hi k ->
  ∃ m h x',wloop (whlT F G lrT) (fun env S=>exes F G (lrB iw) env S) fuel [a0,a1,a2,some (.int n),some (.int k),some (.int lo),some (.int hi),x] S=.ok (.nx [a0,a1,a2,some (.int n),some (.int k),some (.int (m:Nat)),h,x']) S/\Most n k m
 | j,0,lo,hi,x,h1,h2,h3,h4,h5,h6,h7=>by omega
 | j,fuel + 1,lo,hi,x,h1,h2,h3,h4,h5,h6,h7=>by
  by_cases q:hi=lo + 1
  ·subst q
   have ht:=lr_tst (F:=F) (G:=G) (a0:=a0) (a1:=a1) (a2:=a2) (a3:=some (.int n)) (a4:=some (.int k)) (lo:=lo) (hi:=(lo + 1:Nat)) (x:=x) (S:=S);have hd:decide ((1:Int) < ((lo + 1:Nat):Int) - lo)=false:=decide_eq_false (by omega)
   rw[hd] at ht;refine⟨lo,some (.int (lo + 1:Nat)),x,?_,h4,h6,h7⟩;simp only[wloop,ht]
  ·have ht:=lr_tst (F:=F) (G:=G) (a0:=a0) (a1:=a1) (a2:=a2) (a3:=some (.int n)) (a4:=some (.int k)) (lo:=lo) (hi:=hi) (x:=x) (S:=S)
   have hd:decide ((1:Int) < (hi:Int) - lo)=true:=decide_eq_true (by omega)
   rw[hd] at ht;have hb:=lr_body (G:=G) hw (a0:=a0) (a1:=a1) (a2:=a2) (n:=n) (k:=k) (lo:=lo) (hi:=hi) (x:=x) (S:=S) hk (by omega)
   obtain⟨j,rfl⟩:∃ i,j=i + 1:=by
    cases j with
    | zero=>simp at h1; omega
    | succ j=>exact⟨j,rfl⟩
   rw[Nat.pow_succ] at h1
   by_cases c:C ((lo + hi) / 2) k<=n
   ·rw[if_pos c] at hb
    obtain⟨m,h,x',r1,r2⟩:=lr_loop hw hk j fuel ((lo + hi) / 2) hi (some (.int ((lo + hi) / 2:Nat))) (by omega) (by omega) (by omega) (by omega) h5 c h7
    exact⟨m,h,x',by simp only[wloop,ht,hb]; exact r1,r2⟩
   ·rw[if_neg c] at hb
    obtain⟨m,h,x',r1,r2⟩:=lr_loop hw hk j fuel lo ((lo + hi) / 2) (some (.int ((lo + hi) / 2:Nat))) (by omega) (by omega) (by omega) h4 (by omega) h6 (by omega)
    exact⟨m,h,x',by simp only[wloop,ht,hb]; exact r1,r2⟩
theorem lr_while{iw:Nat}(hw:WaysF F iw){a0 a1 a2 x:Option D}{n k:Nat}{S:Sto}(hk1:1<=k)(hk:k<=12)(hn1:1<=n)(hn:n<=1000000000000) :
  ∃ m h x',exe F G (.whl lrT (lrB iw)) [a0,a1,a2,some (.int n),some (.int k),some (.int k),some (.int (k + n:Nat)),x] S=.ok (.nx [a0,a1,a2,some (.int n),some (.int k),some (.int (m:Nat)),h,x']) S/\Most n k m:=by
 have hlt:n < C (k + n) k:=by
  obtain⟨k',rfl⟩:∃ k',k=k' + 1:=⟨k - 1,by omega⟩
  have:=C_ge k' n;omega
 obtain⟨m,h,x',r1,r2⟩:=lr_loop (G:=G) hw (a0:=a0) (a1:=a1) (a2:=a2) (n:=n) (k:=k) (S:=S) hk 41 100000 k (k + n) x (by have h41:(2:Nat) ^ 41=2199023255552:=(by decide); omega) (by omega) (by omega) (Nat.le_refl _) (by omega) (by rw[C_self]; exact hn1) hlt
 exact⟨m,h,x',by rw[exe]; exact r1,r2⟩
noncomputable def lrO:Ex:=.cmp .gt (.var 3) (.cst (.int 0))
noncomputable def lrW(iw:Nat):Sts:=.cons (.asg (.var 4) (.bin .sub (.var 1) (.blt .len (.cons (.var 2) .nil)))) (.cons (.par [5,6] (.cons (.var 4) (.cons (.bin .add (.var 4) (.var 3)) .nil))) (.cons (.whl lrT (lrB iw)) (.cons (.expr (.mth .append (.var 2) (.cons (.var 5) .nil))) (.cons (.asg (.var 3) (.bin .sub (.var 3) (.call iw (.cons (.var 5) (.cons (.var 4) .nil))))) .nil))))
noncomputable def dLWrit(iw:Nat):Df:=⟨2,8,.cons (.par [2,3] (.cons (.lst .nil) (.cons (.var 0) .nil))) (.cons (.whl lrO (lrW iw)) (.cons (.ret (.blt .tuple (.cons (.var 2) .nil))) .nil))⟩
theorem lro_tst{a0 a1 a2 a4 a5 a6 a7:Option D}{r:Int}{S:Sto}:whlT F G lrO [a0,a1,a2,some (.int r),a4,a5,a6,a7] S=.ok (decide (0 < r)) S:=by
 unfold whlT;simp only[lrO,ev,gZ0,gS0,Rk0,cmpR,cmpD,truD]
theorem len_ref{S:Sto}{q:Nat}{xs:List D}(h:lstAt S q=some xs):bltD .len [.ref q] S=.ok (.int xs.length) S:=by simp only[bltD,seqD,h]
theorem lrw_one{iw:Nat}(hw:WaysF F iw){a0 a4 a5 a6 a7:Option D}{r k q s:Nat}{S:Sto}{acc:List D}(hk1:1<=k)(hk:k<=12)(hr1:1<=r)(hr:r<=1000000000000)(hq:lstAt S q=some acc)(hs:s=k + acc.length)(hl:acc.length < 100) :
  ∃ m h x',Most r k m/\exes F G (lrW iw) [a0,some (.int s),some (.ref q),some (.int r),a4,a5,a6,a7] S=.ok (.nx [a0,some (.int s),some (.ref q),some (.int ((r - C m k:Nat):Int)),some (.int k),some (.int m),h,x']) (S.set q (.lst (acc++[.int m]))):=by
 have s1:exe F G (.asg (.var 4) (.bin .sub (.var 1) (.blt .len (.cons (.var 2) .nil)))) [a0,some (.int s),some (.ref q),some (.int r),a4,a5,a6,a7] S=.ok (.nx [a0,some (.int s),some (.ref q),some (.int r),some (.int k),a5,a6,a7]) S:=asg_v (by
  have e:(s:Int) - (acc.length:Int)=(k:Int):=by omega
  simp only[ev,evs,gZ0,gS0,Rk0,len_ref hq,bin_sub,e])
 have s2:exe F G (.par [5,6] (.cons (.var 4) (.cons (.bin .add (.var 4) (.var 3)) .nil))) [a0,some (.int s),some (.ref q),some (.int r),some (.int k),a5,a6,a7] S=.ok (.nx [a0,some (.int s),some (.ref q),some (.int r),some (.int k),some (.int k),some (.int (k + r:Nat)),a7]) S:=by
  have e:(k:Int) + (r:Int)=((k + r:Nat):Int):=by omega
  rw[exe];simp only[evs,ev,gZ0,gS0,Rk0,bin_add,e];rfl
 obtain⟨m,h,x',s3,h2⟩:=lr_while (F:=F) (G:=G) hw (a0:=a0) (a1:=some (.int s)) (a2:=some (.ref q)) (x:=a7) (n:=r) (k:=k) (S:=S) hk1 hk hr1 hr;refine⟨m,h,x',h2,?_⟩;have hm2:m<=10000000000000:=by
  obtain⟨a1,a2,a3⟩:=h2;obtain⟨k',rfl⟩:∃ k',k=k' + 1:=⟨k - 1,by omega⟩
  obtain⟨j,rfl⟩:∃ j,m=k' + 1 + j:=⟨m - (k' + 1),by omega⟩
  have:=C_ge k' j;omega
 have hap:=app_lst (x:=.int m) hq (by omega)
 have hrc:rcvOk .append (.ref q) S=true:=by simp only[rcvOk,hq,Option.isSome_some]
 have s4:exe F G (.expr (.mth .append (.var 2) (.cons (.var 5) .nil))) [a0,some (.int s),some (.ref q),some (.int r),some (.int k),some (.int m),h,x'] S=.ok (.nx [a0,some (.int s),some (.ref q),some (.int r),some (.int k),some (.int m),h,x']) (S.set q (.lst (acc++[.int m]))):=by
  simp only[exe,ev,evs,gZ0,gS0,Rk0,hrc,if_true,hap]
 have hwy:=hw m k (S.set q (.lst (acc++[.int m]))) hm2 hk;have s5:exe F G (.asg (.var 3) (.bin .sub (.var 3) (.call iw (.cons (.var 5) (.cons (.var 4) .nil))))) [a0,some (.int s),some (.ref q),some (.int r),some (.int k),some (.int m),h,x'] (S.set q (.lst (acc++[.int m])))=.ok (.nx [a0,some (.int s),some (.ref q),some (.int ((r - C m k:Nat):Int)),some (.int k),some (.int m),h,x']) (S.set q (.lst (acc++[.int m]))):=asg_v (by
  have e:(r:Int) - (C m k:Int)=((r - C m k:Nat):Int):=by have:=h2.2.1; omega
  simp only[ev,evs,gZ0,gS0,Rk0,hwy,bin_sub,e])
 unfold lrW;exact(exes_nx s1).trans ((exes_nx s2).trans ((exes_nx s3).trans ((exes_nx s4).trans ((exes_nx s5).trans (by simp only[exes])))))
theorem lrw_loop{iw:Nat}(hw:WaysF F iw){a0:Option D}{s q:Nat}(hs:s<=12):∀ (k fuel r:Nat) (x4 x5 x6 x7:Option D) (S:Sto) (acc:List D),s=k + acc.length->k < fuel->r<=1000000000000->lstAt S q=some acc->(k=0->r=0) ->
  ∃ w e,wloop (whlT F G lrO) (fun env S=>exes F G (lrW iw) env S) fuel [a0,some (.int s),some (.ref q),some (.int r),x4,x5,x6,x7] S=.ok (.nx e) (S.set q (.lst (acc++w.map D.int)))/\Wr k r w/\e[2]?=some (some (.ref q))
 | k,0,r,x4,x5,x6,x7,S,acc,h1,h2,h3,h4,h6=>by omega
 | k,fuel + 1,r,x4,x5,x6,x7,S,acc,h1,h2,h3,h4,h6=>by
  have ht:=lro_tst (F:=F) (G:=G) (a0:=a0) (a1:=some (.int s)) (a2:=some (.ref q)) (a4:=x4) (a5:=x5) (a6:=x6) (a7:=x7) (r:=r) (S:=S)
  by_cases hr:r=0
  ·subst hr
   have hd:decide ((0:Int) < ((0:Nat):Int))=false:=by decide
   rw[hd] at ht;refine⟨[],[a0,some (.int s),some (.ref q),some (.int ((0:Nat):Int)),x4,x5,x6,x7],?_,?_,rfl⟩
   ·have e:S.set q (.lst (acc++([]:List Int).map D.int))=S:=by
     obtain⟨hlt,hv⟩:=List.getElem?_eq_some_iff.mp (at_lst h4);rw[List.map_nil,List.append_nil,<- hv];exact List.set_getElem_self hlt
    rw[e];simp only[wloop,ht]
   ·cases k with
    | zero=>exact⟨rfl,rfl⟩
    | succ k=>exact .inl ⟨rfl,rfl⟩
  ·obtain⟨k,rfl⟩:∃ k',k=k' + 1:=⟨k - 1,by
    cases k with
    | zero=>exact absurd (h6 rfl) hr
    | succ k=>omega⟩
   have hd:decide ((0:Int) < (r:Int))=true:=decide_eq_true (by omega)
   rw[hd] at ht;obtain⟨m,h,x',m1,m2⟩:=lrw_one (G:=G) hw (a0:=a0) (a4:=x4) (a5:=x5) (a6:=x6) (a7:=x7) (r:=r) (k:=k + 1) (q:=q) (s:=s) (S:=S) (acc:=acc) (by omega) (by omega) (by omega) h3 h4 h1 (by omega)
   have hrest:k=0->r - C m (k + 1)=0:=fun z=>by
    subst z;obtain⟨a1,a2,a3⟩:=m1;rw[Nat.zero_add,C_one] at a2 ⊢;rw[Nat.zero_add,C_one] at a3;omega
   obtain⟨w,e,r1,r2,r3⟩:=lrw_loop hw hs k fuel (r - C m (k + 1)) (some (.int ((k + 1:Nat):Int))) (some (.int m)) h x' (S.set q (.lst (acc++[.int m]))) (acc++[.int m]) (by simp; omega) (by omega) (by omega) (set_lst (lst_lt h4)) hrest
   refine⟨(m:Int) :: w,e,?_,.inr ⟨m,w,rfl,by omega,m1,r2⟩,r3⟩
   rw[List.set_set,List.append_assoc] at r1;simp only[wloop,ht,m2];exact r1
theorem den_lwrit{iw n s:Nat}{S:Sto}(hw:WaysF F iw)(hs1:1<=s)(hs:s<=12)(hn:n<=1000000000000):∃ w,den F G (dLWrit iw) [.int n,.int s] S=.ok (tupI w) (S++[.lst (w.map D.int)])/\Wr s n w:=by
 obtain⟨w,e,r1,r2,r3⟩:=lrw_loop (F:=F) (G:=G) hw (a0:=some (.int n)) (s:=s) (q:=S.length) hs s 100000 n none none none none (S++[.lst []]) [] (by simp) (by omega) hn last_lst (fun z=>by omega)
 have e2:(S++[O.lst []]).set S.length (.lst ([]++w.map D.int))=S++[.lst (w.map D.int)]:=by
  rw[List.set_append_right _ _ (Nat.le_refl _),Nat.sub_self,List.nil_append];rfl
 rw[e2] at r1;refine⟨w,?_,r2⟩;have nb:ev F G (.lst .nil) [some (.int n),some (.int s),none,none,none,none,none,none] S=.ok (.ref S.length) (S++[.lst []]):=by
  simp only[ev,evs,Rk0];exact if_pos (by decide)
 have s1:exe F G (.par [2,3] (.cons (.lst .nil) (.cons (.var 0) .nil))) [some (.int n),some (.int s),none,none,none,none,none,none] S=.ok (.nx [some (.int n),some (.int s),some (.ref S.length),some (.int n),none,none,none,none]) (S++[.lst []]):=by
  rw[exe,evs,nb,Rk0];simp only[evs,ev,gZ0,Rk0];rfl
 have s2:exe F G (.whl lrO (lrW iw)) [some (.int n),some (.int s),some (.ref S.length),some (.int n),none,none,none,none] (S++[.lst []])=.ok (.nx e) (S++[.lst (w.map D.int)]):=by rw[exe]; exact r1
 have s3:exe F G (.ret (.blt .tuple (.cons (.var 2) .nil))) e (S++[.lst (w.map D.int)])=.ok (.rt (tupI w)) (S++[.lst (w.map D.int)]):=by
  simp only[exe,ev,evs,r3,Rk0,bltD,seqD,last_lst,tupI]
 simp only[den,dLWrit,List.length,if_true,List.map,List.replicate];have q:exes F G (.cons (.par [2,3] (.cons (.lst .nil) (.cons (.var 0) .nil))) (.cons (.whl lrO (lrW iw)) (.cons (.ret (.blt .tuple (.cons (.var 2) .nil))) .nil))) ([some (.int n),some (.int s)]++[none,none,none,none,none,none]) S=.ok (.rt (tupI w)) (S++[.lst (w.map D.int)]) :=
  (exes_nx s1).trans ((exes_nx s2).trans (exes_rt s3))
 rw[q]
end
end Z
end
section
set_option exponentiation.threshold 3000
namespace Z
open PySem
section
variable{F:Fn}{G:List D}
noncomputable def npart(w:List Int)(i:Nat):D:=.tup [.int i,.int (w.getD i 0)]
theorem numb_range:∀ (w:List Int) (n:Nat),numb n (w.map D.int)=(List.range w.length).map fun i=>D.tup [.int (n + i:Nat),.int (w.getD i 0)]
 | [],n=>rfl
 | x :: r,n=>by
  rw[List.map_cons,numb,numb_range r (n + 1),List.length_cons,List.range_succ_eq_map,List.map_cons,List.map_map];simp only[Nat.add_zero,List.getD_cons_zero];congr 1;refine List.map_congr_left fun i _=>?_
  simp only[Function.comp,List.getD_cons_succ];have:n + 1 + i=n + i.succ:=by omega
  rw[this]
theorem numb_zero(w:List Int):numb 0 (w.map D.int)=(List.range w.length).map (npart w):=by
 rw[numb_range];refine List.map_congr_left fun i _=>?_
 rw[Nat.zero_add]; rfl
theorem lsum_ev{elt:Ex}{g:Nat->Nat->Nat}{a0 a1 a2:Option D}{q s:Nat}{w:List Int}{S:Sto}(hq:lstAt S q=some (numb 0 (w.map D.int)))(hl:w.length<=s)(hs:s<=12)
  (he:∀ (x i:Nat) (p:Option D),(x:Int)∈w->i < s->ev F G elt [a0,a1,a2,some (.ref q),p,some (.int i),some (.int x)] S=.ok (.int (g x (s - i):Nat)) S) (hw:∀ x∈w,0<=x) :
  ∃ X,ev F G (.blt .sum (.cons (.cmr false 3 (.cons (.tup [5,6]) (.val (.var 3)) .nil .nil) elt) .nil)) [a0,a1,a2,some (.ref q)] S=.ok (.int (gtot g s w:Nat)) (S++X):=by
 rw[numb_zero] at hq;have hit:evit F G (.val (.var 3)) [a0,a1,a2,some (.ref q)] S=.ok (.ref q) S:=by
  simp only[evit,ev,gZ0,gS0,Rk0,srcD,hq,Option.map_some]
 obtain⟨e',S',a,b⟩:=ev_cmr (n:=3) (elt:=elt) (t:=.tup [5,6]) ((List.range w.length).map (npart w)) (fun i=>.int ((g (w.getD i 0).toNat (s - i):Nat):Int)) (fun i e S'=>S'=S/\∃ p x y,e=[a0,a1,a2,some (.ref q),p,x,y]) hit
  (by simp only[Src.most,hq,Option.getD_some]) (by rw[List.length_map,List.length_range]; exact le_big (by omega)) ⟨rfl,none,none,none,rfl⟩
  (fun i e S hP=>by
   obtain⟨rfl,_⟩:=hP;simp only[Src.get,hq,Option.map_some])
  (fun i d e S hd hP=>by
   obtain⟨rfl,p,x,y,rfl⟩:=hP;have hi:i < w.length:=by have:=(List.getElem?_eq_some_iff.mp hd).1; simpa using this
   have hd2:d=npart w i:=by
    simp only[List.getElem?_map,List.getElem?_range hi,Option.map_some,Option.some.injEq] at hd;exact hd.symm
   subst hd2;refine⟨[a0,a1,a2,some (.ref q),p,some (.int i),some (.int (w.getD i 0))],S,rfl,?_,rfl,p,_,_,rfl⟩;have hm:w.getD i 0∈w:=by
    have:w.getD i 0=w[i]:=by simp[List.getD,hi]
    rw[this]; exact List.getElem_mem hi
   have hx:=hw _ hm;have e1:((w.getD i 0).toNat:Int)=w.getD i 0:=by omega
   have q1:=he (w.getD i 0).toNat i p (by rw[e1]; exact hm) (by omega)
   rw[e1] at q1;exact q1)
 obtain⟨rfl,_⟩:=b;refine⟨[.lst ((List.range ((List.range w.length).map (npart w)).length).map fun i=>D.int ((g (w.getD i 0).toNat (s - i):Nat):Int))],?_⟩
 have qs:=sum_ref (S:=S'++[.lst ((List.range ((List.range w.length).map (npart w)).length).map fun i=>D.int ((g (w.getD i 0).toNat (s - i):Nat):Int))]) (q:=S'.length) (l:=(List.range w.length).map fun i=>((g (w.getD i 0).toNat (s - i):Nat):Int)) (by
  rw[last_lst,List.length_map,List.length_range,List.map_map]; rfl)
 rw[gtot_range g s w hl] at qs;rw[ev,evs,a,Rk0,evs,Rk0,Rk0,qs]
noncomputable def nxE1(il:Nat):Ex:=.call il (.cons (.var 6) (.cons (.bin .sub (.bin .sub (.var 2) (.var 5)) (.cst (.int 1))) .nil))
noncomputable def nxE2(il:Nat):Ex:=.call il (.cons (.bin .add (.var 6) (.blt .int (.cons (.cmp .eq (.var 0) (.cst (.int 2))) .nil))) (.cons (.bin .add (.bin .sub (.var 2) (.var 5)) (.cst (.int 1))) .nil))
noncomputable def nxS(e:Ex):Ex:=.blt .sum (.cons (.cmr false 3 (.cons (.tup [5,6]) (.val (.var 3)) .nil .nil) e) .nil)
noncomputable def dNext(il iw:Nat):Df:=⟨3,4,.cons (.asg (.var 3) (.lenm (.call iw (.cons (.var 1) (.cons (.var 2) .nil))))) (.cons (.ite (.cmp .eq (.var 0) (.cst (.int 1))) (.cons (.ret (nxS (nxE1 il))) .nil) .nil) (.cons (.ret (nxS (nxE2 il))) .nil))⟩
noncomputable def gK(kd:Nat):Nat->Nat->Nat:=if kd=1 then gL else if kd=2 then gB else gU
theorem nx_two{il kd:Nat}(hw:WaysF F il)(hk:kd=0\/kd=2){a1 p a3:Option D}{x i s:Nat}{S:Sto}(hx:x<=9000000000000)(hi:i < s)(hs:s<=11) :
  ev F G (nxE2 il) [some (.int kd),a1,some (.int s),a3,p,some (.int i),some (.int x)] S=.ok (.int (gK kd x (s - i):Nat)) S:=by
 have e1:(s:Int) - (i:Int) + 1=((s - i + 1:Nat):Int):=by omega
 rcases hk with rfl | rfl
 ·have e2:(x:Int) + 0=((x:Nat):Int):=by omega
  have e3:(((0:Nat):Int) == 2)=false:=by decide
  simp only[nxE2,ev,evs,gZ0,gS0,Rk0,eq_int,e3,bltD,i2,Bool.false_eq_true,if_false,bin_add,bin_sub,e1,e2,hw x (s - i + 1) S (by omega) (by omega)]
  rfl
 ·have e2:(x:Int) + 1=((x + 1:Nat):Int):=by omega
  have e3:(((2:Nat):Int) == 2)=true:=by decide
  simp only[nxE2,ev,evs,gZ0,gS0,Rk0,eq_int,e3,bltD,i2,if_true,bin_add,bin_sub,e1,e2,hw (x + 1) (s - i + 1) S (by omega) (by omega)]
  rfl
theorem nx_one{il:Nat}(hw:WaysF F il){a0 a1 p a3:Option D}{x i s:Nat}{S:Sto}(hx:x<=9000000000000)(hi:i < s)(hs:s<=12) :
  ev F G (nxE1 il) [a0,a1,some (.int s),a3,p,some (.int i),some (.int x)] S=.ok (.int (gK 1 x (s - i):Nat)) S:=by
 have e1:(s:Int) - (i:Int) - 1=((s - i - 1:Nat):Int):=by omega
 simp only[nxE1,ev,evs,gZ0,gS0,Rk0,bin_sub,e1,hw x (s - i - 1) S (by omega) (by omega)]
 rfl
theorem lenm_ev{iw:Nat}{a0:D}{n s:Int}{w:List Int}{S S1:Sto}{a3:Option D}(h:F iw [.int n,.int s] S=.ok (tupI w) S1):ev F G (.lenm (.call iw (.cons (.var 1) (.cons (.var 2) .nil)))) [some a0,some (.int n),some (.int s),a3] S=.ok (.ref S1.length) (S1++[.lst (numb 0 (w.map D.int))]):=by
 simp only[ev,evs,gZ0,gS0,Rk0,h,tupI,seqD]
theorem den_next{il iw kd n s:Nat}{w:List Int}{S S1:Sto}(hw:WaysF F il)(h:F iw [.int n,.int s] S=.ok (tupI w) S1)(hwr:Wr s n w)(hn:n<=1000000000000)(hk:kd<=2)(hs:s<=12)(hs2:kd≠1->s<=11) :
  ∃ X,den F G (dNext il iw) [.int kd,.int n,.int s] S=.ok (.int (gtot (gK kd) s w:Nat)) (S1++X):=by
 have hl:=wr_len hwr;have hb:=wr_bd hwr;have hx:∀ x:Nat,(x:Int)∈w->x<=9000000000000:=fun x hx=>by have:=(hb _ hx).2; omega
 have s1:exe F G (.asg (.var 3) (.lenm (.call iw (.cons (.var 1) (.cons (.var 2) .nil))))) [some (.int kd),some (.int n),some (.int s),none] S=.ok (.nx [some (.int kd),some (.int n),some (.int s),some (.ref S1.length)]) (S1++[.lst (numb 0 (w.map D.int))]):=asg_v (lenm_ev h);have hq:lstAt (S1++[O.lst (numb 0 (w.map D.int))]) S1.length=some (numb 0 (w.map D.int)):=last_lst
 by_cases c:kd=1
 ·subst c
  obtain⟨X,e⟩:=lsum_ev (F:=F) (G:=G) (elt:=nxE1 il) (g:=gK 1) (a0:=some (.int ((1:Nat):Int))) (a1:=some (.int n)) (a2:=some (.int s)) hq hl hs (fun x i p hm hi=>nx_one hw (hx x hm) hi hs) fun x hx=>(hb x hx).1
  have ht:ev F G (.cmp .eq (.var 0) (.cst (.int 1))) [some (.int ((1:Nat):Int)),some (.int n),some (.int s),some (.ref S1.length)] (S1++[.lst (numb 0 (w.map D.int))])=.ok (.bl true) (S1++[.lst (numb 0 (w.map D.int))]):=by
   simp only[ev,gZ0,Rk0,eq_int]; rfl
  refine⟨[.lst (numb 0 (w.map D.int))]++X,?_⟩;simp only[den,dNext,List.length,if_true,List.map,List.replicate];have q:exes F G (.cons (.asg (.var 3) (.lenm (.call iw (.cons (.var 1) (.cons (.var 2) .nil))))) (.cons (.ite (.cmp .eq (.var 0) (.cst (.int 1))) (.cons (.ret (nxS (nxE1 il))) .nil) .nil) (.cons (.ret (nxS (nxE2 il))) .nil))) ([some (.int ((1:Nat):Int)),some (.int n),some (.int s)]++[none]) S=.ok (.rt (.int (gtot (gK 1) s w:Nat))) (S1++[.lst (numb 0 (w.map D.int))]++X) :=
   (exes_nx s1).trans (exes_rt (by rw[exe,ht,Rk0]; simp only[truD,exes,exe,nxS]; rw[e]; rfl))
  rw[q,List.append_assoc]
 ·have c2:kd=0\/kd=2:=by omega
  obtain⟨X,e⟩:=lsum_ev (F:=F) (G:=G) (elt:=nxE2 il) (g:=gK kd) (a0:=some (.int kd)) (a1:=some (.int n)) (a2:=some (.int s)) hq hl hs (fun x i p hm hi=>nx_two hw c2 (hx x hm) hi (hs2 c)) fun x hx=>(hb x hx).1
  have hne:((kd:Int) == 1)=false:=by
   have:(kd:Int)≠1:=by omega
   simpa using this
  have ht:ev F G (.cmp .eq (.var 0) (.cst (.int 1))) [some (.int kd),some (.int n),some (.int s),some (.ref S1.length)] (S1++[.lst (numb 0 (w.map D.int))])=.ok (.bl false) (S1++[.lst (numb 0 (w.map D.int))]):=by
   simp only[ev,gZ0,Rk0,eq_int,hne]
  refine⟨[.lst (numb 0 (w.map D.int))]++X,?_⟩;simp only[den,dNext,List.length,if_true,List.map,List.replicate];have q:exes F G (.cons (.asg (.var 3) (.lenm (.call iw (.cons (.var 1) (.cons (.var 2) .nil))))) (.cons (.ite (.cmp .eq (.var 0) (.cst (.int 1))) (.cons (.ret (nxS (nxE1 il))) .nil) .nil) (.cons (.ret (nxS (nxE2 il))) .nil))) ([some (.int kd),some (.int n),some (.int s)]++[none]) S=.ok (.rt (.int (gtot (gK kd) s w:Nat))) (S1++[.lst (numb 0 (w.map D.int))]++X) :=
   (exes_nx s1).trans ((exes_nx (if_pass ht)).trans (exes_rt (by rw[exe]; unfold nxS; rw[e]; rfl)))
  rw[q,List.append_assoc]
end
end Z
end
section
set_option exponentiation.threshold 3000
namespace Z
open PySem
noncomputable def wri(s n:Nat):List Int:=open Classical in if h:∃ w,Wr s n w then h.choose else []
theorem wri_eq{s n:Nat}{w:List Int}(h:Wr s n w):wri s n=w:=by
 have hx:∃ w,Wr s n w:=⟨w,h⟩;unfold wri;rw[dif_pos hx];exact hx.choose_spec.uniq h
noncomputable def abv(g:Nat->Nat->Nat)(s n:Nat):Nat:=gtot g s (wri s n)
theorem abv_eq(g:Nat->Nat->Nat){s n:Nat}{w:List Int}(h:Wr s n w):gtot g s w=abv g s n:=by unfold abv; rw[wri_eq h]
noncomputable def badAt(g:Nat->Nat->Nat)(row:List Int)(p:Nat):Bool:=match p with
 | 0=>!(row.getD 0 0 == 1)
 | p + 1=>decide (row.getD (p + 1) 0 < 0) || (decide (1000000000000 < row.getD (p + 1) 0) || (decide (1<=p) && decide ((abv g p (row.getD p 0).toNat:Int) < row.getD (p + 1) 0)))
noncomputable def fstBad(g:Nat->Nat->Nat)(row:List Int):D:=match (List.range row.length).find? (badAt g row) with
 | some p=>.int p
 | none=>.non
theorem fst_some{g:Nat->Nat->Nat}{row:List Int}{p:Nat}(hp:p < row.length)(h:badAt g row p=true)(hn:∀ j < p,badAt g row j=false):fstBad g row=.int p:=by
 have:(List.range row.length).find? (badAt g row)=some p:=by
  rw[List.find?_eq_some_iff_getElem];refine⟨h,p,by simpa using hp,by simp,fun j hj=>?_⟩
  simp[hn j hj]
 unfold fstBad;rw[this]
theorem fst_none{g:Nat->Nat->Nat}{row:List Int}(hn:∀ j < row.length,badAt g row j=false):fstBad g row=.non:=by
 have:(List.range row.length).find? (badAt g row)=none:=by
  rw[List.find?_eq_none];intro j hj;rw[hn j (by simpa using hj)]
  simp
 unfold fstBad;rw[this]
theorem in_row{g:Nat->Nat->Nat}{row:List Int}{p:Nat}(h:badAt g row p=false):0<=row.getD p 0/\row.getD p 0<=1000000000000:=by
 cases p with
 | zero =>
  simp only[badAt,Bool.not_eq_false',beq_iff_eq] at h;omega
 | succ p =>
  simp only[badAt,Bool.or_eq_false_iff,decide_eq_false_iff_not] at h;omega
section
variable{F:Fn}{G:List D}
theorem floop_first{get:Sto->Nat->Option (Option D)}{t:Tg}{body:En->Sto->R Fl}{xs:List D}(bad:Nat->Bool)(val:Nat->D)(P:En->Sto->Prop)(Q:Sto->Prop)
  (hget:∀ i S,get S i=some xs[i]?)
  (step:∀ i d e S,xs[i]?=some d->(∀ j < i,bad j=false)->P e S->∃ e1,setTg t d e=some e1/\((bad i=true/\∃ S',body e1 S=.ok (.rt (val i)) S'/\Q S')\/(bad i=false/\∃ e2 S',body e1 S=.ok (.nx e2) S'/\P e2 S'))) :
  ∀ (fuel i:Nat) (e:En) (S:Sto),xs.length < fuel + i->i<=xs.length->(∀ j < i,bad j=false)->P e S ->
   (∃ p S',p < xs.length/\bad p=true/\(∀ j < p,bad j=false)/\floop get t body fuel i e S=.ok (.rt (val p)) S'/\Q S')\/((∀ j < xs.length,bad j=false)/\∃ e' S',floop get t body fuel i e S=.ok (.nx e') S'/\P e' S')
 | 0,i,e,S,h1,h2,h3,h4=>by omega
 | fuel + 1,i,e,S,h1,h2,h3,h4=>by
  cases q:xs[i]? with
  | none =>
   have hi:i=xs.length:=by have:=List.getElem?_eq_none_iff.mp q; omega
   right;refine⟨by rw[<- hi]; exact h3,e,S,?_,h4⟩
   simp only[floop,hget,q]
  | some d =>
   have hi:i < xs.length:=(List.getElem?_eq_some_iff.mp q).1;obtain⟨e1,a1,a2⟩:=step i d e S q h3 h4;rcases a2 with⟨b1,S',b2,b3⟩ | ⟨b1,e2,S',b2,b3⟩
   ·left
    refine⟨i,S',hi,b1,h3,?_,b3⟩;simp only[floop,hget,q,a1,b2]
   ·have h3':∀ j < i + 1,bad j=false:=fun j hj=>by
     by_cases z:j=i
     ·rw[z]; exact b1
     ·exact h3 j (by omega)
    have ih:=floop_first bad val P Q hget step fuel (i + 1) e2 S' (by omega) hi h3' b3
    simp only[floop,hget,q,a1,b2];exact ih
end
end Z
end
section
set_option exponentiation.threshold 3000
namespace Z
open PySem
section
variable{F:Fn}{G:List D}
def AbvF(F:Fn)(f:Nat)(g:Nat->Nat->Nat)(m:Nat):Prop:=∀ (n s:Nat) (S:Sto),n<=1000000000000->1<=s->s<=m->∃ X,F f [.int n,.int s] S=.ok (.int (abv g s n:Nat)) (S++X)
def NextF(F:Fn)(f kd:Nat):Prop:=∀ (n s:Nat) (S:Sto),n<=1000000000000->1<=s->s<=11->∃ X,F f [.int kd,.int n,.int s] S=.ok (.int (abv (gK kd) s n:Nat)) (S++X)
theorem idx_row{row:List Int}{p:Nat}(h:p < row.length)(S:Sto):idxR (tupI row) (.int p) S=.ok (.int (row.getD p 0)) S:=by
 have e:ixN (row.map D.int).length (p:Int)=some p:=by
  unfold ixN;rw[if_pos (by omega),if_pos (by rw[List.length_map]; omega)]
  simp
 have e2:(row.map D.int)[p]?=some (.int (row.getD p 0)):=by
  rw[List.getElem?_map,List.getElem?_eq_getElem h];simp[List.getD,h]
 simp only[idxR,idxD,tupI,seqD,Option.bind_some,e,e2]
noncomputable def fbC1:Ex:=.not (.chn .le .le (.cst (.int 0)) (.idx (.var 0) (.var 2)) (.glb 0))
noncomputable def fbC2:Ex:=.and (.cmp .gt (.var 2) (.cst (.int 1))) (.cmp .gt (.idx (.var 0) (.var 2)) (.cal (.var 1) (.cons (.idx (.var 0) (.bin .sub (.var 2) (.cst (.int 1)))) (.cons (.bin .sub (.var 2) (.cst (.int 1))) .nil))))
noncomputable def fbR:Sts:=.cons (.ret (.var 2)) .nil
noncomputable def fbB:Sts:=.cons (.ite fbC1 fbR .nil) (.cons (.ite fbC2 fbR .nil) .nil)
noncomputable def dFirst:Df:=⟨2,3,.cons (.ite (.cmp .ne (.idx (.var 0) (.cst (.int 0))) (.cst (.int 1))) (.cons (.ret (.cst (.int 0))) .nil) .nil) (.cons (.for (.var 2) (.rng (.cons (.cst (.int 1)) (.cons (.blt .len (.cons (.var 0) .nil)) .nil))) fbB) (.cons (.ret (.cst .non)) .nil))⟩
theorem fb_yes{c:Ex}{env:En}{d:D}{S S':Sto}(h2:env[2]?=some (some d))(h:ev F G c env S=.ok (.bl true) S'):exe F G (.ite c fbR .nil) env S=.ok (.rt d) S':=by
 rw[exe,h,Rk0];simp only[truD,fbR,exes,exe,ev,h2,Rk0]
theorem fb_c1{row:List Int}{fn:Option D}{p:Nat}{S:Sto}(hp:p < row.length)(hg:G[0]?=some (.int 1000000000000)) :
  ev F G fbC1 [some (tupI row),fn,some (.int p)] S=.ok (.bl (decide (row.getD p 0 < 0) || decide (1000000000000 < row.getD p 0))) S:=by
 have hi:=idx_row hp S;generalize row.getD p 0=x at hi
 by_cases c:x < 0
 ·have e1:decide ((0:Int)<=x)=false:=decide_eq_false (by omega)
  have e2:decide (x < 0)=true:=decide_eq_true c;simp only[fbC1,ev,gZ0,gS0,Rk0,hi,cmpD,e1,truD,e2,Bool.true_or,Bool.not_false]
 ·have e1:decide ((0:Int)<=x)=true:=decide_eq_true (by omega)
  have e2:decide (x < 0)=false:=decide_eq_false c;have e3:(!decide (x<=1000000000000))=decide (1000000000000 < x):=by
   by_cases z:x<=1000000000000
   ·rw[decide_eq_true z,decide_eq_false (by omega)]; rfl
   ·rw[decide_eq_false z,decide_eq_true (by omega)]; rfl
  simp only[fbC1,ev,gZ0,gS0,Rk0,hi,hg,cmpD,cmpR,e1,truD,e2,Bool.false_or,e3]
theorem fb_c2{row:List Int}{f:Nat}{nm:Str}{g:Nat->Nat->Nat}{p:Nat}{S:Sto}(hf:AbvF F f g 11)(hG:fnIn f nm G=true)(hp:p + 1 < row.length)(hl:row.length<=12)(hx:0<=row.getD p 0/\row.getD p 0<=1000000000000) :
  ∃ X,ev F G fbC2 [some (tupI row),some (.fn f nm),some (.int ((p + 1:Nat):Int))] S=.ok (.bl (decide (1<=p) && decide ((abv g p (row.getD p 0).toNat:Int) < row.getD (p + 1) 0))) (S++X):=by
 have e0:((p + 1:Nat):Int) - 1=(p:Int):=by omega
 by_cases c:1<=p
 ·have hi:=idx_row (row:=row) (p:=p) (by omega) S
  have hi2:=idx_row (row:=row) (p:=p + 1) hp;have ex:row.getD p 0=((row.getD p 0).toNat:Int):=by omega
  obtain⟨X,h⟩:=hf (row.getD p 0).toNat p S (by omega) c (by omega)
  rw[<- ex] at h;have e1:decide ((1:Int) < ((p + 1:Nat):Int))=true:=decide_eq_true (by omega)
  have e2:decide (1<=p)=true:=decide_eq_true c;refine⟨X,?_⟩;simp only[fbC2,ev,evs,gZ0,gS0,Rk0,cmpR,cmpD,e1,truD,hi2,hG,if_true,bin_sub,e0,hi,h,e2,Bool.true_and]
 ·have e1:decide ((1:Int) < ((p + 1:Nat):Int))=false:=decide_eq_false (by omega)
  have e2:decide (1<=p)=false:=decide_eq_false c;refine⟨[],?_⟩;simp only[fbC2,ev,gZ0,gS0,Rk0,cmpR,cmpD,e1,truD,e2,Bool.false_and,List.append_nil]
theorem fb_body{row:List Int}{f:Nat}{nm:Str}{g:Nat->Nat->Nat}{p:Nat}{S:Sto}(hf:AbvF F f g 11)(hG:fnIn f nm G=true)(hg:G[0]?=some (.int 1000000000000))(hp:p + 1 < row.length)(hl:row.length<=12)(hx:0<=row.getD p 0/\row.getD p 0<=1000000000000) :
  (badAt g row (p + 1)=true/\∃ X,exes F G fbB [some (tupI row),some (.fn f nm),some (.int ((p + 1:Nat):Int))] S=.ok (.rt (.int ((p + 1:Nat):Int))) (S++X)) \/
  (badAt g row (p + 1)=false/\∃ X,exes F G fbB [some (tupI row),some (.fn f nm),some (.int ((p + 1:Nat):Int))] S=.ok (.nx [some (tupI row),some (.fn f nm),some (.int ((p + 1:Nat):Int))]) (S++X)):=by
 have h1:=fb_c1 (F:=F) (G:=G) (fn:=some (.fn f nm)) (S:=S) hp hg;obtain⟨X,h2⟩:=fb_c2 (F:=F) (G:=G) (S:=S) hf hG hp hl hx;simp only[badAt];rw[<- Bool.or_assoc];generalize (decide (row.getD (p + 1) 0 < 0) || decide (1000000000000 < row.getD (p + 1) 0))=b1 at h1;generalize (decide (1<=p) && decide ((abv g p (row.getD p 0).toNat:Int) < row.getD (p + 1) 0))=b2 at h2;unfold fbB;cases b1 with
 | true =>
  left;refine⟨by simp,[],?_⟩
  rw[List.append_nil];exact exes_rt (fb_yes rfl h1)
 | false =>
  cases b2 with
  | true =>
   left;refine⟨by simp,X,?_⟩
   rw[exes_nx (if_pass h1)];exact exes_rt (fb_yes rfl h2)
  | false =>
   right;refine⟨by simp,X,?_⟩
   rw[exes_nx (if_pass h1),exes_nx (if_pass h2),exes]
end
end Z
end
section
set_option exponentiation.threshold 3000
namespace Z
open PySem
section
variable{F:Fn}{G:List D}
theorem den_rt{d:Df}{ds:List D}{env:En}{r:D}{S S':Sto}(h0:ds.length=d.np)(he:ds.map some++List.replicate (d.nl - d.np) none=env)(h:exes F G d.body env S=.ok (.rt r) S'):den F G d ds S=.ok r S':=by
 subst he;unfold den;rw[if_pos h0,h]
theorem rng_from1{L:Nat}(h:L<=12):rngD [.int 1,.int L]=some ((List.range (L - 1)).map fun(k:Nat)=>D.int (1 + k)):=by
 have h1:-(1048576:Int) < (L:Int)/\(L:Int) < 1048576:=by omega
 have h2:((L:Int) - 1).toNat=L - 1:=by omega
 simp only[rngD];rw[if_pos ⟨by decide,by decide,h1.1,h1.2⟩,h2]
theorem len_row(row:List Int)(S:Sto):bltD .len [tupI row] S=.ok (.int row.length) S:=by simp only[bltD,tupI,seqD,List.length_map]
theorem den_first{row:List Int}{f:Nat}{nm:Str}{g:Nat->Nat->Nat}{S:Sto}(hf:AbvF F f g 11)(hG:fnIn f nm G=true)(hg:G[0]?=some (.int 1000000000000))(h1:1<=row.length)(hl:row.length<=12) :
  ∃ X,den F G dFirst [tupI row,.fn f nm] S=.ok (fstBad g row) (S++X):=by
 have hi:=idx_row (row:=row) (p:=0) h1 S;have hc:ev F G (.cmp .ne (.idx (.var 0) (.cst (.int 0))) (.cst (.int 1))) [some (tupI row),some (.fn f nm),none] S=.ok (.bl (badAt g row 0)) S:=by
  have hi':idxR (tupI row) (.int 0) S=.ok (.int (row.getD 0 0)) S:=hi;simp only[ev,gZ0,Rk0,hi',ne_int,badAt]
 have key:∃ X,exes F G dFirst.body [some (tupI row),some (.fn f nm),none] S=.ok (.rt (fstBad g row)) (S++X):=by
  unfold dFirst;dsimp only;cases b0:badAt g row 0 with
  | true =>
   rw[b0] at hc;refine⟨[],?_⟩;rw[fst_some h1 b0 (fun j hj=>by omega),List.append_nil]
   exact exes_rt (ite_ret hc)
  | false =>
   rw[b0] at hc;rw[exes_nx (if_pass hc)];have hit:evit F G (.rng (.cons (.cst (.int 1)) (.cons (.blt .len (.cons (.var 0) .nil)) .nil))) [some (tupI row),some (.fn f nm),none] S=.ok (.con ((List.range (row.length - 1)).map fun(k:Nat)=>D.int (1 + k))) S :=
    it_rng (ds:=[.int 1,.int row.length]) (by simp only[evs,ev,gZ0,Rk0,len_row]) (rng_from1 hl)
   have all:∀ i,(∀ j < i,badAt g row (j + 1)=false)->∀ j < i + 1,badAt g row j=false:=fun i h j hj=>by
    cases j with
    | zero=>exact b0
    | succ j=>exact h j (by omega)
   have lp:=floop_first (get:=(Src.con ((List.range (row.length - 1)).map fun(k:Nat)=>D.int (1 + k))).get) (t:=.var 2) (body:=fun env S=>exes F G fbB env S) (xs:=(List.range (row.length - 1)).map fun(k:Nat)=>D.int (1 + k)) (fun i=>badAt g row (i + 1)) (fun i=>.int ((i + 1:Nat):Int))
    (fun e S'=>∃ X x,S'=S++X/\e=[some (tupI row),some (.fn f nm),x]) (fun S'=>∃ X,S'=S++X) (fun i S=>rfl)
    (fun i d e S' hd hb hP=>by
     obtain⟨X,x,rfl,rfl⟩:=hP;have hi:i < row.length - 1:=by have:=(List.getElem?_eq_some_iff.mp hd).1; simpa using this
     have hd2:d=.int ((i + 1:Nat):Int):=by
      simp only[List.getElem?_map,List.getElem?_range hi,Option.map_some,Option.some.injEq] at hd;have e:(1 + (i:Int))=((i + 1:Nat):Int):=by omega
      rw[<- hd,e]
     subst hd2;refine⟨[some (tupI row),some (.fn f nm),some (.int ((i + 1:Nat):Int))],rfl,?_⟩;have hx:=in_row (all i hb i (by omega))
     rcases fb_body (F:=F) (G:=G) (S:=S++X) hf hG hg (p:=i) (by omega) hl hx with⟨a1,Y,a2⟩ | ⟨a1,Y,a2⟩
     ·exact .inl ⟨a1,_,a2,X++Y,by rw[List.append_assoc]⟩
     ·exact .inr ⟨a1,_,_,a2,X++Y,_,by rw[List.append_assoc],rfl⟩)
    (row.length - 1 + 1) 0 [some (tupI row),some (.fn f nm),none] S (by simp) (Nat.zero_le _) (fun j hj=>by omega) ⟨[],none,by simp,rfl⟩
   have hfor:exe F G (.for (.var 2) (.rng (.cons (.cst (.int 1)) (.cons (.blt .len (.cons (.var 0) .nil)) .nil))) fbB) [some (tupI row),some (.fn f nm),none] S=floop (Src.con ((List.range (row.length - 1)).map fun(k:Nat)=>D.int (1 + k))).get (.var 2) (fun env S=>exes F G fbB env S) (row.length - 1 + 1) 0 [some (tupI row),some (.fn f nm),none] S:=by
    simp only[exe,hit,Rk0,Src.most,List.length_map,List.length_range]
   rcases lp with⟨p,S',p1,p2,p3,p4,X,rfl⟩ | ⟨p1,e',S',p2,X,x,rfl,rfl⟩
   ·refine⟨X,?_⟩
    rw[exes_rt (hfor.trans p4)];have hp:p < row.length - 1:=by simpa using p1
    rw[fst_some (p:=p + 1) (by omega) p2 (all p p3)]
   ·refine⟨X,?_⟩
    rw[exes_nx (hfor.trans p2)];have hn:∀ j < row.length,badAt g row j=false:=fun j hj=>by
     cases j with
     | zero=>exact b0
     | succ j=>exact p1 j (by simp; omega)
    rw[fst_none hn];exact exes_rt (by simp only[exe,ev,Rk0])
 obtain⟨X,key⟩:=key;refine⟨X,?_⟩;exact den_rt rfl rfl key
end
end Z
end
section
set_option exponentiation.threshold 3000
namespace Z
open PySem
section
variable{F:Fn}{G:List D}
noncomputable def e12:Int:=10 ^ (12:Int).toNat
theorem pw12(S:Sto):binD .pow (.int 10) (.int 12) S=.ok (.int e12) S:=bin_pow (by decide +kernel) S
theorem e12_eq:e12=1000000000000:=by decide +kernel
noncomputable def fnC1:Ex:=.or (.cmp .lt (.var 3) (.cst (.int 0))) (.or (.cmp .gt (.var 3) (.bin .pow (.cst (.int 10)) (.cst (.int 12)))) (.and (.cmp .eq (.var 2) (.cst (.int 0))) (.cmp .ne (.var 3) (.cst (.int 1)))))
noncomputable def fnC2(inx:Nat):Ex:=.and (.cmp .gt (.var 2) (.cst (.int 1))) (.cmp .gt (.var 3) (.call inx (.cons (.var 1) (.cons (.idx (.var 0) (.bin .sub (.var 2) (.cst (.int 1)))) (.cons (.bin .sub (.var 2) (.cst (.int 1))) .nil)))))
noncomputable def fnotB(inx:Nat):Sts:=.cons (.ite fnC1 fbR .nil) (.cons (.ite (fnC2 inx) fbR .nil) .nil)
noncomputable def dFNot(inx:Nat):Df:=⟨2,4,.cons (.for (.tup [2,3]) (.enm (.cons (.var 0) .nil)) (fnotB inx)) (.cons (.ret (.cst .non)) .nil)⟩
theorem or_bl{a b:Ex}{env:En}{x y:Bool}{S:Sto}(ha:ev F G a env S=.ok (.bl x) S)(hb:ev F G b env S=.ok (.bl y) S):ev F G (.or a b) env S=.ok (.bl (x || y)) S:=by
 rw[ev,ha,Rk0];cases x with
 | true=>simp only[truD,Bool.true_or]
 | false=>simp only[truD,hb,Bool.false_or]
theorem and_bl{a b:Ex}{env:En}{x y:Bool}{S:Sto}(ha:ev F G a env S=.ok (.bl x) S)(hb:ev F G b env S=.ok (.bl y) S):ev F G (.and a b) env S=.ok (.bl (x && y)) S:=by
 rw[ev,ha,Rk0];cases x with
 | true=>simp only[truD,hb,Bool.true_and]
 | false=>simp only[truD,Bool.false_and]
theorem fn_c1{a0 a1:Option D}{p:Nat}{x:Int}{S:Sto}:ev F G fnC1 [a0,a1,some (.int p),some (.int x)] S=.ok (.bl (decide (x < 0) || (decide (e12 < x) || (((p:Int) == 0) && !(x == 1))))) S:=by
 have h1:ev F G (.cmp .lt (.var 3) (.cst (.int 0))) [a0,a1,some (.int p),some (.int x)] S=.ok (.bl (decide (x < 0))) S:=by
  simp only[ev,gZ0,gS0,Rk0]; rfl
 have h2:ev F G (.cmp .gt (.var 3) (.bin .pow (.cst (.int 10)) (.cst (.int 12)))) [a0,a1,some (.int p),some (.int x)] S=.ok (.bl (decide (e12 < x))) S:=by
  simp only[ev,gZ0,gS0,Rk0,pw12,cmpR,cmpD]
 have h3:ev F G (.cmp .eq (.var 2) (.cst (.int 0))) [a0,a1,some (.int p),some (.int x)] S=.ok (.bl ((p:Int) == 0)) S:=by
  simp only[ev,gZ0,gS0,Rk0,eq_int]
 have h4:ev F G (.cmp .ne (.var 3) (.cst (.int 1))) [a0,a1,some (.int p),some (.int x)] S=.ok (.bl (!(x == 1))) S:=by
  simp only[ev,gZ0,gS0,Rk0,ne_int]
 exact or_bl h1 (or_bl h2 (and_bl h3 h4))
theorem fn_c2{row:List Int}{inx kd p:Nat}{x:Int}{S:Sto}(hf:NextF F inx kd)(hp:p + 1 < row.length)(hl:row.length<=12)(hx:0<=row.getD p 0/\row.getD p 0<=1000000000000) :
  ∃ X,ev F G (fnC2 inx) [some (tupI row),some (.int kd),some (.int ((p + 1:Nat):Int)),some (.int x)] S=.ok (.bl (decide (1<=p) && decide ((abv (gK kd) p (row.getD p 0).toNat:Int) < x))) (S++X):=by
 have e0:((p + 1:Nat):Int) - 1=(p:Int):=by omega
 by_cases c:1<=p
 ·have hi:=idx_row (row:=row) (p:=p) (by omega) S
  have ex:row.getD p 0=((row.getD p 0).toNat:Int):=by omega
  obtain⟨X,h⟩:=hf (row.getD p 0).toNat p S (by omega) c (by omega)
  rw[<- ex] at h;have e1:decide ((1:Int) < ((p + 1:Nat):Int))=true:=decide_eq_true (by omega)
  have e2:decide (1<=p)=true:=decide_eq_true c;refine⟨X,?_⟩;simp only[fnC2,ev,evs,gZ0,gS0,Rk0,cmpR,cmpD,e1,truD,bin_sub,e0,hi,h,e2,Bool.true_and]
 ·have e1:decide ((1:Int) < ((p + 1:Nat):Int))=false:=decide_eq_false (by omega)
  have e2:decide (1<=p)=false:=decide_eq_false c;refine⟨[],?_⟩;simp only[fnC2,ev,gZ0,gS0,Rk0,cmpR,cmpD,e1,truD,e2,Bool.false_and,List.append_nil]
theorem fn_c2z{a0 a1:Option D}{inx:Nat}{x:Int}{S:Sto}:ev F G (fnC2 inx) [a0,a1,some (.int ((0:Nat):Int)),some (.int x)] S=.ok (.bl false) S:=by
 have e1:decide ((1:Int) < ((0:Nat):Int))=false:=by decide
 simp only[fnC2,ev,gZ0,gS0,Rk0,cmpR,cmpD,e1,truD]
theorem fn_body{row:List Int}{inx kd p:Nat}{S:Sto}(hf:NextF F inx kd)(hp:p < row.length)(hl:row.length<=12)(hx:∀ q,p=q + 1->0<=row.getD q 0/\row.getD q 0<=1000000000000) :
  (badAt (gK kd) row p=true/\∃ X,exes F G (fnotB inx) [some (tupI row),some (.int kd),some (.int p),some (.int (row.getD p 0))] S=.ok (.rt (.int p)) (S++X)) \/
  (badAt (gK kd) row p=false/\∃ X,exes F G (fnotB inx) [some (tupI row),some (.int kd),some (.int p),some (.int (row.getD p 0))] S=.ok (.nx [some (tupI row),some (.int kd),some (.int p),some (.int (row.getD p 0))]) (S++X)):=by
 have h1:=fn_c1 (F:=F) (G:=G) (a0:=some (tupI row)) (a1:=some (.int kd)) (p:=p) (x:=row.getD p 0) (S:=S);have h2:∃ X b2,ev F G (fnC2 inx) [some (tupI row),some (.int kd),some (.int p),some (.int (row.getD p 0))] S=.ok (.bl b2) (S++X)/\badAt (gK kd) row p=((decide (row.getD p 0 < 0) || (decide (e12 < row.getD p 0) || (((p:Int) == 0) && !(row.getD p 0 == 1)))) || b2):=by
  cases p with
  | zero =>
   refine⟨[],false,by rw[List.append_nil]; exact fn_c2z,?_⟩
   rw[e12_eq];simp only[badAt,Bool.or_false];generalize row.getD 0 0=x;have e:(((0:Nat):Int) == 0)=true:=by decide
   rw[e,Bool.true_and]
   by_cases c:x=1
   ·subst c; decide
   ·have:(x == 1)=false:=by simpa using c
    rw[this]; simp
  | succ q =>
   obtain⟨X,h⟩:=fn_c2 (F:=F) (G:=G) (S:=S) (x:=row.getD (q + 1) 0) hf hp hl (hx q rfl);refine⟨X,_,h,?_⟩;rw[e12_eq];have e:(((q + 1:Nat):Int) == 0)=false:=by
    have:((q + 1:Nat):Int)≠0:=by omega
    simpa using this
   rw[e,Bool.false_and,Bool.or_false];simp only[badAt];rw[Bool.or_assoc]
 obtain⟨X,b2,h2,eb⟩:=h2;rw[eb];generalize (decide (row.getD p 0 < 0) || (decide (e12 < row.getD p 0) || (((p:Int) == 0) && !(row.getD p 0 == 1))))=b1 at h1;unfold fnotB;cases b1 with
 | true =>
  left;refine⟨by simp,[],?_⟩
  rw[List.append_nil];exact exes_rt (fb_yes rfl h1)
 | false =>
  cases b2 with
  | true =>
   left;refine⟨by simp,X,?_⟩
   rw[exes_nx (if_pass h1)];exact exes_rt (fb_yes rfl h2)
  | false =>
   right;refine⟨by simp,X,?_⟩
   rw[exes_nx (if_pass h1),exes_nx (if_pass h2),exes]
theorem den_fnot{row:List Int}{inx kd:Nat}{S:Sto}(hf:NextF F inx kd)(hl:row.length<=12):∃ X,den F G (dFNot inx) [tupI row,.int kd] S=.ok (fstBad (gK kd) row) (S++X):=by
 have hit:evit F G (.enm (.cons (.var 0) .nil)) [some (tupI row),some (.int kd),none,none] S=.ok (.enm (.con (row.map D.int))) S:=by
  simp only[evit,evs,ev,gZ0,Rk0,tupI,srcD]
 have lp:=floop_first (get:=(Src.enm (.con (row.map D.int))).get) (t:=.tup [2,3]) (body:=fun env S=>exes F G (fnotB inx) env S) (xs:=(List.range row.length).map (npart row)) (badAt (gK kd) row) (fun i=>.int (i:Int))
  (fun e S'=>∃ X x y,S'=S++X/\e=[some (tupI row),some (.int kd),x,y]) (fun S'=>∃ X,S'=S++X)
  (fun i S=>by
   rw[enm_at];congr 1;simp only[List.getElem?_map]
   by_cases q:i < row.length
   ·simp[q,List.getD,npart]
   ·simp[q])
  (fun i d e S' hd hb hP=>by
   obtain⟨X,x,y,rfl,rfl⟩:=hP;have hi:i < row.length:=by have:=(List.getElem?_eq_some_iff.mp hd).1; simpa using this
   have hd2:d=npart row i:=by
    simp only[List.getElem?_map,List.getElem?_range hi,Option.map_some,Option.some.injEq] at hd;exact hd.symm
   subst hd2;refine⟨[some (tupI row),some (.int kd),some (.int i),some (.int (row.getD i 0))],rfl,?_⟩;rcases fn_body (F:=F) (G:=G) (S:=S++X) hf hi hl (fun q hq=>in_row (hb q (by omega))) with⟨a1,Y,a2⟩ | ⟨a1,Y,a2⟩
   ·exact .inl ⟨a1,_,a2,X++Y,by rw[List.append_assoc]⟩
   ·exact .inr ⟨a1,_,_,a2,X++Y,_,_,by rw[List.append_assoc],rfl⟩)
  (row.length + 1) 0 [some (tupI row),some (.int kd),none,none] S (by simp) (Nat.zero_le _) (fun j hj=>by omega) ⟨[],none,none,by simp,rfl⟩
 have hfor:exe F G (.for (.tup [2,3]) (.enm (.cons (.var 0) .nil)) (fnotB inx)) [some (tupI row),some (.int kd),none,none] S=floop (Src.enm (.con (row.map D.int))).get (.tup [2,3]) (fun env S=>exes F G (fnotB inx) env S) (row.length + 1) 0 [some (tupI row),some (.int kd),none,none] S:=by
  simp only[exe,hit,Rk0,Src.most,List.length_map]
 rcases lp with⟨p,S',p1,p2,p3,p4,X,rfl⟩ | ⟨p1,e',S',p2,X,x,y,rfl,rfl⟩
 ·refine⟨X,den_rt rfl rfl ?_⟩
  unfold dFNot;rw[fst_some (by simpa using p1) p2 p3]
  exact exes_rt (hfor.trans p4)
 ·refine⟨X,den_rt rfl rfl ?_⟩
  unfold dFNot;rw[fst_none (fun j hj=>p1 j (by simpa using hj))]
  exact(exes_nx (hfor.trans p2)).trans (exes_rt (by simp only[exe,ev,Rk0]))
end
end Z
end
section
set_option exponentiation.threshold 3000
namespace Z
open PySem
section
variable{F:Fn}{G:List D}
noncomputable def dLRow2(iw:Nat):Df:=⟨1,1,.cons (.ret (.and (.isi (.var 0) [.tuple]) (.and (.chn .le .le (.cst (.int 1)) (.blt .len (.cons (.var 0) .nil)) (.cst (.int 12))) (allWh iw)))) .nil⟩
theorem lrow2_gen{iw:Nat}{d:D}{S:Sto}(hw:Wholes F iw)(t:Thing S d):∃ X,den F G (dLRow2 iw) [d] S=.ok (.bl (isr d)) (S++X):=by
 by_cases h:∃ xs,d=.tup xs
 ·obtain⟨xs,rfl⟩:=h
  have hk:kdD S (.tup xs)=some .tuple:=rfl;have hi:ev F G (.isi (.var 0) [.tuple]) [some (.tup xs)] S=.ok (.bl true) S:=by
   simp only[ev,gZ0,Rk0,hk,Option.bind_some,isTs,isT]
  have hc:=chn_le (F:=F) (G:=G) (a:=.cst (.int 1)) (c:=.cst (.int 12)) (n:=xs.length) (lo:=1) (hi:=12) (d:=.tup xs) (env:=[some (.tup xs)]) (S:=S) (S':=S) rfl rfl (by simp only[ev]) (by simp only[ev])
  obtain⟨t1,t2⟩:=t.el xs rfl;have ha:=ev_allWh (G:=G) hw t1 (Nat.le_trans t2 (by omega))
  have e1:(decide ((1:Int)<=(xs.length:Int)) && decide ((xs.length:Int)<=12))=(decide (1<=xs.length) && decide (xs.length<=12)):=by
   congr 1
   ·exact decide_eq_decide.mpr (by omega)
   ·exact decide_eq_decide.mpr (by omega)
  rw[e1] at hc;have e2:isr (.tup xs)=((decide (1<=xs.length) && decide (xs.length<=12)) && xs.all wh):=by simp only[isr]; rw[Bool.and_comm]
  rw[e2];generalize (decide (1<=xs.length) && decide (xs.length<=12))=b at hc;cases b with
  | true =>
   refine⟨_,den_rt rfl rfl (exes_rt (d:=.bl (true && xs.all wh)) (S1:=S++[.lst ((xs.map wh).map D.bl)]) ?_)⟩;show exe F G _ [some (.tup xs)] S=_;rw[exe,ev,hi,Rk0];simp only[truD];rw[ev,hc,Rk0];simp only[truD];rw[ha,Rk0,Bool.true_and]
  | false =>
   refine⟨[],den_rt rfl rfl (exes_rt (d:=.bl (false && xs.all wh)) (S1:=S++[]) ?_)⟩;show exe F G _ [some (.tup xs)] S=_;rw[exe,ev,hi,Rk0];simp only[truD];rw[ev,hc,Rk0];simp only[truD,Rk0,Bool.false_and,List.append_nil]
 ·obtain⟨kd,h1,h2⟩:=t.gd
  have hn:kd≠.tuple:=fun z=>by
   subst z;cases d with
   | tup xs=>exact h ⟨xs,rfl⟩
   | ref n =>
    simp only[kdD] at h1;split at h1 <;> cases h1
   | _=>cases h1
  have e:isr d=false:=by
   cases d with
   | tup xs=>exact absurd ⟨xs,rfl⟩ h
   | _=>rfl
  have hi:=isi_no h2 hn;rw[e];refine⟨[],den_rt rfl rfl (exes_rt (d:=.bl false) (S1:=S++[]) ?_)⟩;show exe F G _ [some d] S=_;rw[exe,ev];simp only[ev,gZ0,Rk0,h1,Option.bind_some,hi,truD,List.append_nil]
noncomputable def dNotOf(ic ib ig:Nat):Df:=⟨1,1,.cons (.expr (.call ic (.cons (.var 0) .nil))) (.cons (.ret (.call ib (.cons (.var 0) (.cons (.glb ig) .nil)))) .nil)⟩
theorem notof_ok{ic ib ig:Nat}{d f r:D}{S S1 S2:Sto}(h1:F ic [d] S=.ok .non S1)(hg:G[ig]?=some f)(h2:F ib [d,f] S1=.ok r S2):den F G (dNotOf ic ib ig) [d] S=.ok r S2:=by
 have s1:exe F G (.expr (.call ic (.cons (.var 0) .nil))) [some d] S=.ok (.nx [some d]) S1:=by
  simp only[exe,ev,evs,gZ0,Rk0,h1]
 exact den_rt rfl rfl ((exes_nx s1).trans (exes_rt (by simp only[exe,ev,evs,gZ0,Rk0,hg,h2])))
theorem notof_ex{ic ib ig n:Nat}{d:D}{S S1:Sto}(h1:F ic [d] S=.ex n S1):den F G (dNotOf ic ib ig) [d] S=.ex n S1:=by
 simp only[den,dNotOf,List.length,if_true,List.map,List.replicate,Nat.sub_self,List.append_nil];rw[exes_ex (n:=n) (S1:=S1) (by simp only[exe,ev,evs,gZ0,Rk0,h1,R.bind_ex])]
end
end Z
end
section
namespace K42
open PySem PySem.Spec PyProof.Rows L2 Z
noncomputable def top(i:Nat):Stmt:=PySem.Challenge.pw_facecounts_k42_rows_that_can_be.main.body.getD i (.Pass ⟨0,0,0,0⟩)
noncomputable def gns:List Str:=["GREATEST_NUMBER","MOST_CHOSEN","GREATEST_WIDTH","most_above","bags_above","not_of_net","not_of_crowd"]
noncomputable def G:List D:=[.int 1000000000000,.int 12,.int 11,.fn 4 "most_above",.fn 5 "bags_above",.fn 12 "not_of_net",.fn 13 "not_of_crowd"]
noncomputable def fns:List (Str×Nat×Bool):=[("is_whole",1,true),("is_whole_within",3,true),("is_whole_tuple",1,true),("writing",2,true),("most_above",2,true),("bags_above",2,true),("check_written",2,true),("ways",2,true),("most_things",2,true),("written_parts",2,true),("is_row",1,true),("check_row",1,true),("not_of_net",1,true),("not_of_crowd",1,true),("first_beyond",2,true),("_law_cell_at",2,true),("_law_pot",1,true),("_law_take",2,true),("_law_whole",1,true),("_law_word",1,false),("_law_ways",2,true),("_law_writing",2,true),("_law_next_by",3,true),("_law_first_not",2,true),("_law_is_row",1,true),("_law_said",2,true),("_law_row",1,true),("law",1,true)]
noncomputable def b_is_whole:Sts:=(.cons (.ret (.and (.isi (.var 0) [.int]) (.not (.isi (.var 0) [.bool]))))
  .nil)
noncomputable def d_is_whole:Df:=⟨1,1,b_is_whole⟩
noncomputable def n_is_whole:List Str:=["thing"]
noncomputable def b_is_whole_within:Sts:=(.cons (.ret (.and (.call 0 (.cons (.var 0) .nil)) (.chn .le .le (.var 1) (.var 0) (.var 2))))
  .nil)
noncomputable def d_is_whole_within:Df:=⟨3,3,b_is_whole_within⟩
noncomputable def n_is_whole_within:List Str:=["thing","low","high"]
noncomputable def b_is_whole_tuple:Sts:=(.cons (.ret (.and (.isi (.var 0) [.tuple]) (.blt .all (.cons (.cmr false 2 (.cons (.var 2) (.val (.var 0)) .nil .nil) (.call 0 (.cons (.var 2) .nil))) .nil))))
  .nil)
noncomputable def d_is_whole_tuple:Df:=⟨1,1,b_is_whole_tuple⟩
noncomputable def n_is_whole_tuple:List Str:=["thing"]
noncomputable def b_writing:Sts:=(.cons (.expr (.call 6 (.cons (.var 0) (.cons (.var 1) .nil))))
  (.cons (.asg (.var 2) (.lst .nil))
  (.cons (.asg (.var 3) (.var 0))
  (.cons (.for (.var 4) (.rng (.cons (.var 1) (.cons (.cst (.int 0)) (.cons (.neg (.cst (.int 1))) .nil)))) (.cons (.ite (.cmp .eq (.var 3) (.cst (.int 0))) (.cons .brk
  .nil) .nil)
  (.cons (.asg (.var 5) (.call 8 (.cons (.var 3) (.cons (.var 4) .nil))))
  (.cons (.expr (.mth .append (.var 2) (.cons (.var 5) .nil)))
  (.cons (.aug 3 .sub (.call 7 (.cons (.var 5) (.cons (.var 4) .nil))))
  .nil)))))
  (.cons (.ret (.blt .tuple (.cons (.var 2) .nil)))
  .nil)))))
noncomputable def d_writing:Df:=⟨2,6,b_writing⟩
noncomputable def n_writing:List Str:=["number","size","told","rest","chosen","things"]
noncomputable def b_most_above:Sts:=(.cons (.ret (.blt .sum (.cons (.cmr false 3 (.cons (.tup [3,4]) (.val (.call 9 (.cons (.var 0) (.cons (.var 1) .nil)))) .nil .nil) (.call 7 (.cons (.var 3) (.cons (.bin .add (.var 4) (.cst (.int 1))) .nil)))) .nil)))
  .nil)
noncomputable def d_most_above:Df:=⟨2,2,b_most_above⟩
noncomputable def n_most_above:List Str:=["number","size"]
noncomputable def b_bags_above:Sts:=(.cons (.ret (.blt .sum (.cons (.cmr false 3 (.cons (.tup [3,4]) (.val (.call 9 (.cons (.var 0) (.cons (.var 1) .nil)))) .nil .nil) (.call 7 (.cons (.bin .add (.var 3) (.cst (.int 1))) (.cons (.bin .add (.var 4) (.cst (.int 1))) .nil)))) .nil)))
  .nil)
noncomputable def d_bags_above:Df:=⟨2,2,b_bags_above⟩
noncomputable def n_bags_above:List Str:=["number","size"]
noncomputable def b_check_written:Sts:=(.cons (.ite (.not (.call 1 (.cons (.var 0) (.cons (.cst (.int 0)) (.cons (.glb 0) .nil))))) (.cons (.rse 8 (.cst (.str "a number from 0 to 10 ** 12 is due")))
  .nil) .nil)
  (.cons (.ite (.not (.call 1 (.cons (.var 1) (.cons (.cst (.int 1)) (.cons (.glb 1) .nil))))) (.cons (.rse 8 (.cst (.str "a size from 1 to 12 is due")))
  .nil) .nil)
  .nil))
noncomputable def d_check_written:Df:=⟨2,2,b_check_written⟩
noncomputable def n_check_written:List Str:=["number","size"]
noncomputable def b_ways:Sts:=(.cons (.asg (.var 2) (.cst (.int 1)))
  (.cons (.for (.var 3) (.rng (.cons (.var 1) .nil)) (.cons (.asg (.var 2) (.bin .fdiv (.bin .mul (.var 2) (.bin .sub (.var 0) (.var 3))) (.bin .add (.var 3) (.cst (.int 1)))))
  .nil))
  (.cons (.ret (.var 2))
  .nil)))
noncomputable def d_ways:Df:=⟨2,4,b_ways⟩
noncomputable def n_ways:List Str:=["things","number","told","at"]
noncomputable def b_most_things:Sts:=(.cons (.asg (.var 2) (.var 1))
  (.cons (.asg (.var 3) (.bin .add (.var 1) (.var 0)))
  (.cons (.whl (.cmp .gt (.bin .sub (.var 3) (.var 2)) (.cst (.int 1))) (.cons (.asg (.var 4) (.bin .fdiv (.bin .add (.var 2) (.var 3)) (.cst (.int 2))))
  (.cons (.ite (.cmp .le (.call 7 (.cons (.var 4) (.cons (.var 1) .nil))) (.var 0)) (.cons (.asg (.var 2) (.var 4))
  .nil) (.cons (.asg (.var 3) (.var 4))
  .nil))
  .nil)))
  (.cons (.ret (.var 2))
  .nil))))
noncomputable def d_most_things:Df:=⟨2,5,b_most_things⟩
noncomputable def n_most_things:List Str:=["number","chosen","low","high","middle"]
noncomputable def b_written_parts:Sts:=(.cons (.ret (.cmr false 3 (.cons (.tup [3,4]) (.enm (.cons (.call 3 (.cons (.var 0) (.cons (.var 1) .nil))) .nil)) .nil .nil) (.tup (.cons (.var 4) (.cons (.bin .sub (.var 1) (.var 3)) .nil)))))
  .nil)
noncomputable def d_written_parts:Df:=⟨2,2,b_written_parts⟩
noncomputable def n_written_parts:List Str:=["number","size"]
noncomputable def b_is_row:Sts:=(.cons (.ret (.and (.call 2 (.cons (.var 0) .nil)) (.chn .le .le (.cst (.int 1)) (.blt .len (.cons (.var 0) .nil)) (.bin .add (.glb 2) (.cst (.int 1))))))
  .nil)
noncomputable def d_is_row:Df:=⟨1,1,b_is_row⟩
noncomputable def n_is_row:List Str:=["thing"]
noncomputable def b_check_row:Sts:=(.cons (.ite (.not (.call 10 (.cons (.var 0) .nil))) (.cons (.rse 7 (.cst (.str "a row is due")))
  .nil) .nil)
  .nil)
noncomputable def d_check_row:Df:=⟨1,1,b_check_row⟩
noncomputable def n_check_row:List Str:=["thing"]
noncomputable def b_not_of_net:Sts:=(.cons (.expr (.call 11 (.cons (.var 0) .nil)))
  (.cons (.ret (.call 14 (.cons (.var 0) (.cons (.glb 3) .nil))))
  .nil))
noncomputable def d_not_of_net:Df:=⟨1,1,b_not_of_net⟩
noncomputable def n_not_of_net:List Str:=["row"]
noncomputable def b_not_of_crowd:Sts:=(.cons (.expr (.call 11 (.cons (.var 0) .nil)))
  (.cons (.ret (.call 14 (.cons (.var 0) (.cons (.glb 4) .nil))))
  .nil))
noncomputable def d_not_of_crowd:Df:=⟨1,1,b_not_of_crowd⟩
noncomputable def n_not_of_crowd:List Str:=["row"]
noncomputable def b_first_beyond:Sts:=(.cons (.ite (.cmp .ne (.idx (.var 0) (.cst (.int 0))) (.cst (.int 1))) (.cons (.ret (.cst (.int 0)))
  .nil) .nil)
  (.cons (.for (.var 2) (.rng (.cons (.cst (.int 1)) (.cons (.blt .len (.cons (.var 0) .nil)) .nil))) (.cons (.ite (.not (.chn .le .le (.cst (.int 0)) (.idx (.var 0) (.var 2)) (.glb 0))) (.cons (.ret (.var 2))
  .nil) .nil)
  (.cons (.ite (.and (.cmp .gt (.var 2) (.cst (.int 1))) (.cmp .gt (.idx (.var 0) (.var 2)) (.cal (.var 1) (.cons (.idx (.var 0) (.bin .sub (.var 2) (.cst (.int 1)))) (.cons (.bin .sub (.var 2) (.cst (.int 1))) .nil))))) (.cons (.ret (.var 2))
  .nil) .nil)
  .nil)))
  (.cons (.ret (.cst .non))
  .nil)))
noncomputable def d_first_beyond:Df:=⟨2,3,b_first_beyond⟩
noncomputable def n_first_beyond:List Str:=["row","above","place"]
noncomputable def b__law_cell_at:Sts:=(.cons (.ite (.cmp .lt (.var 1) (.blt .len (.cons (.var 0) .nil))) (.cons (.ret (.idx (.var 0) (.var 1)))
  .nil) .nil)
  (.cons (.ret (.cst (.int 0)))
  .nil))
noncomputable def d__law_cell_at:Df:=⟨2,2,b__law_cell_at⟩
noncomputable def n__law_cell_at:List Str:=["_law_script","_law_k"]
noncomputable def b__law_pot:Sts:=(.cons (.ite (.cmp .ge (.var 0) (.bin .pow (.cst (.int 10)) (.cst (.int 18)))) (.cons (.ret (.lst (.cons (.bin .sub (.var 0) (.bin .pow (.cst (.int 10)) (.cst (.int 18)))) .nil)))
  .nil) .nil)
  (.cons (.asg (.var 1) (.cst (.int 0)))
  (.cons (.for (.var 2) (.rng (.cons (.cst (.int 64)) .nil)) (.cons (.asg (.var 3) (.bin .mod (.bin .mul (.bin .add (.bin .add (.bin .mod (.var 0) (.cst (.int 2147483629))) (.bin .mul (.cst (.int 7919)) (.var 2))) (.cst (.int 1))) (.cst (.int 48271))) (.cst (.int 2147483647))))
  (.cons (.asg (.var 3) (.bin .mod (.bin .add (.bin .add (.bin .mul (.var 3) (.var 3)) (.bin .mul (.cst (.int 69621)) (.var 2))) (.cst (.int 7))) (.cst (.int 2147483587))))
  (.cons (.asg (.var 1) (.bin .add (.bin .mul (.var 1) (.cst (.int 2147483587))) (.var 3)))
  .nil))))
  (.cons (.ret (.lst (.cons (.var 1) .nil)))
  .nil))))
noncomputable def d__law_pot:Df:=⟨1,4,b__law_pot⟩
noncomputable def n__law_pot:List Str:=["_law_cell","_law_number","_law_j","_law_more"]
noncomputable def b__law_take:Sts:=(.cons (.asg (.var 2) (.bin .mod (.idx (.var 0) (.cst (.int 0))) (.var 1)))
  (.cons (.aset (.var 0) (.cst (.int 0)) (.bin .fdiv (.idx (.var 0) (.cst (.int 0))) (.var 1)))
  (.cons (.ret (.var 2))
  .nil)))
noncomputable def d__law_take:Df:=⟨2,3,b__law_take⟩
noncomputable def n__law_take:List Str:=["_law_pot_here","_law_far","_law_found"]
noncomputable def b__law_whole:Sts:=(.cons (.ret (.and (.isi (.var 0) [.int]) (.not (.isi (.var 0) [.bool]))))
  .nil)
noncomputable def d__law_whole:Df:=⟨1,1,b__law_whole⟩
noncomputable def n__law_whole:List Str:=["_law_found"]
noncomputable def b__law_word:Sts:=(.cons (.asg (.var 1) (.lst (.cons (.isi (.var 0) [.cls 1]) (.cons (.isi (.var 0) [.cls 2]) (.cons (.isi (.var 0) [.cls 3]) (.cons (.isi (.var 0) [.cls 4]) .nil))))))
  (.cons (.asg (.var 1) (.bin .add (.var 1) (.lst (.cons (.isi (.var 0) [.cls 5]) (.cons (.isi (.var 0) [.cls 6]) (.cons (.isi (.var 0) [.cls 7]) (.cons (.isi (.var 0) [.cls 8]) .nil)))))))
  (.cons (.asg (.var 1) (.bin .add (.var 1) (.lst (.cons (.isi (.var 0) [.cls 9]) (.cons (.isi (.var 0) [.cls 10]) (.cons (.isi (.var 0) [.cls 11]) (.cons (.isi (.var 0) [.cls 12]) .nil)))))))
  (.cons (.asg (.var 1) (.bin .add (.var 1) (.lst (.cons (.isi (.var 0) [.cls 13]) (.cons (.isi (.var 0) [.cls 14]) (.cons (.isi (.var 0) [.cls 15]) (.cons (.isi (.var 0) [.cls 16]) .nil)))))))
  (.cons (.ite (.or (.cmp .ne (.mth .count (.var 1) (.cons (.cst (.bl true)) .nil)) (.cst (.int 1))) (.not (.isi (.var 0) [.valueError]))) (.cons (.ret (.cst (.str "other")))
  .nil) .nil)
  (.cons (.asg (.var 2) (.lst (.cons (.cst (.str "net")) (.cons (.cst (.str "face")) (.cons (.cst (.str "point")) (.cons (.cst (.str "apart")) (.cons (.cst (.str "many")) (.cons (.cst (.str "text")) (.cons (.cst (.str "row")) (.cons (.cst (.str "number")) (.cons (.cst (.str "level")) (.cons (.cst (.str "crowd")) (.cons (.cst (.str "way")) (.cons (.cst (.str "closed")) .nil))))))))))))))
  (.cons (.ret (.idx (.bin .add (.var 2) (.lst (.cons (.cst (.str "swap")) (.cons (.cst (.str "places")) (.cons (.cst (.str "deed")) (.cons (.cst (.str "line")) .nil)))))) (.mth .index (.var 1) (.cons (.cst (.bl true)) .nil))))
  .nil)))))))
noncomputable def d__law_word:Df:=⟨1,3,b__law_word⟩
noncomputable def n__law_word:List Str:=["_law_e","_law_some","_law_words"]
noncomputable def b__law_ways:Sts:=(.cons (.ite (.cmp .gt (.var 1) (.var 0)) (.cons (.ret (.cst (.int 0)))
  .nil) .nil)
  (.cons (.asg (.tup [3,4]) (.tup (.cons (.cst (.int 1)) (.cons (.cst (.int 1)) .nil))))
  (.cons (.for (.var 2) (.rng (.cons (.var 1) .nil)) (.cons (.asg (.var 3) (.bin .mul (.var 3) (.bin .sub (.var 0) (.var 2))))
  (.cons (.asg (.var 4) (.bin .mul (.var 4) (.bin .add (.var 2) (.cst (.int 1)))))
  .nil)))
  (.cons (.ret (.bin .fdiv (.var 3) (.var 4)))
  .nil))))
noncomputable def d__law_ways:Df:=⟨2,5,b__law_ways⟩
noncomputable def n__law_ways:List Str:=["_law_things","_law_number","_law_at","_law_top","_law_bottom"]
noncomputable def b__law_writing:Sts:=(.cons (.par [2,3] (.cons (.lst .nil) (.cons (.var 0) .nil)))
  (.cons (.whl (.cmp .gt (.var 3) (.cst (.int 0))) (.cons (.asg (.var 4) (.bin .sub (.var 1) (.blt .len (.cons (.var 2) .nil))))
  (.cons (.par [5,6] (.cons (.var 4) (.cons (.bin .add (.var 4) (.var 3)) .nil)))
  (.cons (.whl (.cmp .gt (.bin .sub (.var 6) (.var 5)) (.cst (.int 1))) (.cons (.asg (.var 7) (.bin .fdiv (.bin .add (.var 5) (.var 6)) (.cst (.int 2))))
  (.cons (.ite (.cmp .le (.call 20 (.cons (.var 7) (.cons (.var 4) .nil))) (.var 3)) (.cons (.asg (.var 5) (.var 7))
  .nil) (.cons (.asg (.var 6) (.var 7))
  .nil))
  .nil)))
  (.cons (.expr (.mth .append (.var 2) (.cons (.var 5) .nil)))
  (.cons (.asg (.var 3) (.bin .sub (.var 3) (.call 20 (.cons (.var 5) (.cons (.var 4) .nil)))))
  .nil))))))
  (.cons (.ret (.blt .tuple (.cons (.var 2) .nil)))
  .nil)))
noncomputable def d__law_writing:Df:=⟨2,8,b__law_writing⟩
noncomputable def n__law_writing:List Str:=["_law_number","_law_size","_law_found","_law_left","_law_at","_law_low","_law_high","_law_middle"]
noncomputable def b__law_next_by:Sts:=(.cons (.asg (.var 3) (.lenm (.call 21 (.cons (.var 1) (.cons (.var 2) .nil)))))
  (.cons (.ite (.cmp .eq (.var 0) (.cst (.int 1))) (.cons (.ret (.blt .sum (.cons (.cmr false 3 (.cons (.tup [5,6]) (.val (.var 3)) .nil .nil) (.call 20 (.cons (.var 6) (.cons (.bin .sub (.bin .sub (.var 2) (.var 5)) (.cst (.int 1))) .nil)))) .nil)))
  .nil) .nil)
  (.cons (.ret (.blt .sum (.cons (.cmr false 3 (.cons (.tup [5,6]) (.val (.var 3)) .nil .nil) (.call 20 (.cons (.bin .add (.var 6) (.blt .int (.cons (.cmp .eq (.var 0) (.cst (.int 2))) .nil))) (.cons (.bin .add (.bin .sub (.var 2) (.var 5)) (.cst (.int 1))) .nil)))) .nil)))
  .nil)))
noncomputable def d__law_next_by:Df:=⟨3,4,b__law_next_by⟩
noncomputable def n__law_next_by:List Str:=["_law_kind","_law_number","_law_size","_law_some"]
noncomputable def b__law_first_not:Sts:=(.cons (.for (.tup [2,3]) (.enm (.cons (.var 0) .nil)) (.cons (.ite (.or (.cmp .lt (.var 3) (.cst (.int 0))) (.or (.cmp .gt (.var 3) (.bin .pow (.cst (.int 10)) (.cst (.int 12)))) (.and (.cmp .eq (.var 2) (.cst (.int 0))) (.cmp .ne (.var 3) (.cst (.int 1)))))) (.cons (.ret (.var 2))
  .nil) .nil)
  (.cons (.ite (.and (.cmp .gt (.var 2) (.cst (.int 1))) (.cmp .gt (.var 3) (.call 22 (.cons (.var 1) (.cons (.idx (.var 0) (.bin .sub (.var 2) (.cst (.int 1)))) (.cons (.bin .sub (.var 2) (.cst (.int 1))) .nil)))))) (.cons (.ret (.var 2))
  .nil) .nil)
  .nil)))
  (.cons (.ret (.cst .non))
  .nil))
noncomputable def d__law_first_not:Df:=⟨2,4,b__law_first_not⟩
noncomputable def n__law_first_not:List Str:=["_law_row_here","_law_kind","_law_place","_law_number"]
noncomputable def b__law_is_row:Sts:=(.cons (.ret (.and (.isi (.var 0) [.tuple]) (.and (.chn .le .le (.cst (.int 1)) (.blt .len (.cons (.var 0) .nil)) (.cst (.int 12))) (.blt .all (.cons (.cmr false 2 (.cons (.var 2) (.val (.var 0)) .nil .nil) (.call 18 (.cons (.var 2) .nil))) .nil)))))
  .nil)
noncomputable def d__law_is_row:Df:=⟨1,1,b__law_is_row⟩
noncomputable def n__law_is_row:List Str:=["_law_thing"]
noncomputable def b__law_said:Sts:=(.cons (.try (.cons (.ret (.cal (.idx (.lst (.cons (.glb 5) (.cons (.glb 6) .nil))) (.var 0)) (.cons (.var 1) .nil)))
  .nil) 0 2 (.cons (.ret (.call 19 (.cons (.var 2) .nil)))
  .nil))
  .nil)
noncomputable def d__law_said:Df:=⟨2,3,b__law_said⟩
noncomputable def n__law_said:List Str:=["_law_way","_law_row_here","_law_e"]
noncomputable def b__law_row:Sts:=(.cons (.asg (.var 1) (.idx (.lst (.cons (.cst (.int 0)) (.cons (.cst (.int 2)) .nil))) (.call 17 (.cons (.var 0) (.cons (.cst (.int 2)) .nil)))))
  (.cons (.par [4,5] (.cons (.call 17 (.cons (.var 0) (.cons (.cst (.int 14)) .nil))) (.cons (.call 17 (.cons (.var 0) (.cons (.cst (.int 6)) .nil))) .nil)))
  (.cons (.asg (.var 2) (.lst (.cons (.cst (.int 1)) .nil)))
  (.cons (.for (.var 3) (.rng (.cons (.cst (.int 1)) (.cons (.bin .add (.cst (.int 1)) (.call 17 (.cons (.var 0) (.cons (.cst (.int 12)) .nil)))) .nil))) (.cons (.asg (.var 6) (.idx (.lst (.cons (.cst (.int 4)) (.cons (.cst (.int 20)) (.cons (.bin .pow (.cst (.int 10)) (.cst (.int 6))) (.cons (.bin .pow (.cst (.int 10)) (.cst (.int 12))) .nil))))) (.call 17 (.cons (.var 0) (.cons (.cst (.int 4)) .nil)))))
  (.cons (.ite (.cmp .gt (.var 3) (.cst (.int 1))) (.cons (.asg (.var 6) (.call 22 (.cons (.var 1) (.cons (.idx (.var 2) (.neg (.cst (.int 1)))) (.cons (.bin .sub (.var 3) (.cst (.int 1))) .nil)))))
  .nil) .nil)
  (.cons (.asg (.var 7) (.idx (.lst (.cons (.var 6) (.cons (.call 17 (.cons (.var 0) (.cons (.bin .add (.var 6) (.cst (.int 1))) .nil))) (.cons (.var 6) .nil)))) (.call 17 (.cons (.var 0) (.cons (.cst (.int 3)) .nil)))))
  (.cons (.ite (.cmp .eq (.var 3) (.var 4)) (.cons (.asg (.var 7) (.idx (.lst (.cons (.bin .add (.var 6) (.cst (.int 1))) (.cons (.neg (.cst (.int 1))) (.cons (.bin .add (.bin .pow (.cst (.int 10)) (.cst (.int 12))) (.cst (.int 1))) (.cons (.bin .pow (.cst (.int 10)) (.cst (.int 59))) (.cons (.cst (.int 0)) (.cons (.bin .sub (.cst (.int 0)) (.var 6)) .nil))))))) (.var 5)))
  .nil) .nil)
  (.cons (.expr (.mth .append (.var 2) (.cons (.ite (.or (.chn .le .le (.cst (.int 0)) (.var 7) (.bin .pow (.cst (.int 10)) (.cst (.int 12)))) (.cmp .eq (.var 3) (.var 4))) (.var 7) (.bin .pow (.cst (.int 10)) (.cst (.int 12)))) .nil)))
  (.cons (.ite (.not (.chn .le .le (.cst (.int 0)) (.idx (.var 2) (.neg (.cst (.int 1)))) (.bin .pow (.cst (.int 10)) (.cst (.int 12))))) (.cons (.ret (.blt .tuple (.cons (.bin .add (.var 2) (.sli (.lst (.cons (.cst (.int 0)) (.cons (.cst (.int 1)) .nil))) .none (.some (.call 17 (.cons (.var 0) (.cons (.cst (.int 2)) .nil)))))) .nil)))
  .nil) .nil)
  .nil)))))))
  (.cons (.ite (.cmp .eq (.var 4) (.cst (.int 0))) (.cons (.aset (.var 2) (.cst (.int 0)) (.idx (.lst (.cons (.cst (.int 0)) (.cons (.cst (.int 2)) (.cons (.neg (.cst (.int 1))) (.cons (.bin .pow (.cst (.int 10)) (.cst (.int 59))) (.cons (.bin .pow (.cst (.int 10)) (.cst (.int 12))) (.cons (.cst (.int 3)) .nil))))))) (.var 5)))
  .nil) .nil)
  (.cons (.ret (.blt .tuple (.cons (.var 2) .nil)))
  .nil))))))
noncomputable def d__law_row:Df:=⟨1,8,b__law_row⟩
noncomputable def n__law_row:List Str:=["_law_pot_here","_law_kind","_law_row_here","_law_place","_law_spoilt","_law_way","_law_far","_law_number"]
noncomputable def b_law:Sts:=(.cons (.for (.var 1) (.rng (.cons (.blt .max (.cons (.cst (.int 1)) (.cons (.blt .min (.cons (.blt .len (.cons (.var 0) .nil)) (.cons (.cst (.int 6)) .nil))) .nil))) .nil)) (.cons (.asg (.var 2) (.call 16 (.cons (.call 15 (.cons (.var 0) (.cons (.var 1) .nil))) .nil)))
  (.cons (.asg (.var 3) (.call 26 (.cons (.var 2) .nil)))
  (.cons (.asg (.var 4) (.call 17 (.cons (.var 2) (.cons (.blt .len (.cons (.var 3) .nil)) .nil))))
  (.cons (.asg (.var 5) (.idx (.lst (.cons (.cst (.bl true)) (.cons (.cst (.bl false)) (.cons (.cst .non) (.cons (.cst (.str "1")) (.cons (.tup (.cons (.cst (.int 1)) .nil)) (.cons (.lst (.cons (.cst (.int 1)) .nil)) .nil))))))) (.call 17 (.cons (.var 2) (.cons (.cst (.int 6)) .nil)))))
  (.cons (.asg (.var 6) (.lst (.cons (.var 3) (.cons (.bin .add (.bin .add (.sli (.var 3) .none (.some (.var 4))) (.tup (.cons (.var 5) .nil))) (.sli (.var 3) (.some (.bin .add (.var 4) (.cst (.int 1)))) .none)) (.cons (.bin .mul (.tup (.cons (.cst (.int 1)) .nil)) (.cst (.int 13))) (.cons (.tup .nil) (.cons (.blt .list (.cons (.var 3) .nil)) (.cons (.cst .non) (.cons (.tup (.cons (.var 3) .nil)) (.cons (.sli (.var 3) .none (.some (.cst (.int 1)))) (.cons (.tup (.cons (.cst (.int 1)) (.cons (.cst (.int 0)) (.cons (.cst (.int 1)) .nil)))) .nil)))))))))))
  (.cons (.asg (.var 6) (.bin .add (.var 6) (.lst (.cons (.tup (.cons (.cst (.int 1)) (.cons (.cst (.int 2)) (.cons (.cst (.int 4)) (.cons (.cst (.int 99)) .nil))))) (.cons (.tup (.cons (.cst (.int 1)) (.cons (.cst (.int 0)) (.cons (.cst (.int 1)) (.cons (.cst (.int 9)) .nil))))) (.cons (.tup (.cons (.cst (.int 2)) (.cons (.cst (.int 1)) (.cons (.cst (.int 9)) .nil)))) .nil))))))
  (.cons (.for (.var 7) (.val (.var 6)) (.cons (.asg (.var 8) (.blt .repr (.cons (.var 7) .nil)))
  (.cons (.asg (.var 9) (.lst (.cons (.cst (.str "row")) (.cons (.cst (.str "row")) .nil))))
  (.cons (.ite (.call 24 (.cons (.var 7) .nil)) (.cons (.asg (.var 9) (.lst (.cons (.call 23 (.cons (.var 7) (.cons (.cst (.int 0)) .nil))) (.cons (.call 23 (.cons (.var 7) (.cons (.cst (.int 2)) .nil))) .nil))))
  .nil) .nil)
  (.cons (.ite (.or (.cmp .ne (.blt .repr (.cons (.lst (.cons (.call 25 (.cons (.cst (.int 0)) (.cons (.var 7) .nil))) (.cons (.call 25 (.cons (.cst (.int 1)) (.cons (.var 7) .nil))) .nil))) .nil)) (.blt .repr (.cons (.var 9) .nil))) (.cmp .ne (.blt .repr (.cons (.var 7) .nil)) (.var 8))) (.cons (.ret (.cst (.bl false)))
  .nil) .nil)
  .nil)))))
  .nil))))))))
  (.cons (.ret (.cst (.bl true)))
  .nil))
noncomputable def d_law:Df:=⟨1,10,b_law⟩
noncomputable def n_law:List Str:=["_law_script","_law_k","_law_pot_here","_law_row_here","_law_at","_law_odd","_law_things","_law_thing","_law_kept","_law_due"]
noncomputable def T:List Df:=[d_is_whole,d_is_whole_within,d_is_whole_tuple,d_writing,d_most_above,d_bags_above,d_check_written,d_ways,d_most_things,d_written_parts,d_is_row,d_check_row,d_not_of_net,d_not_of_crowd,d_first_beyond,d__law_cell_at,d__law_pot,d__law_take,d__law_whole,d__law_word,d__law_ways,d__law_writing,d__law_next_by,d__law_first_not,d__law_is_row,d__law_said,d__law_row,d_law]
theorem m_is_whole:mtSs fns gns (defScope (top 19)) n_is_whole true b_is_whole (defBody (top 19))=true:=by decide +kernel
theorem s_is_whole:fnScB n_is_whole (n_is_whole.take d_is_whole.np) (defScope (top 19))=true:=by decide +kernel
theorem m_is_whole_within:mtSs fns gns (defScope (top 20)) n_is_whole_within true b_is_whole_within (defBody (top 20))=true:=by decide +kernel
theorem s_is_whole_within:fnScB n_is_whole_within (n_is_whole_within.take d_is_whole_within.np) (defScope (top 20))=true:=by decide +kernel
theorem m_is_whole_tuple:mtSs fns gns (defScope (top 21)) n_is_whole_tuple true b_is_whole_tuple (defBody (top 21))=true:=by decide +kernel
theorem s_is_whole_tuple:fnScB n_is_whole_tuple (n_is_whole_tuple.take d_is_whole_tuple.np) (defScope (top 21))=true:=by decide +kernel
theorem m_writing:mtSs fns gns (defScope (top 25)) n_writing true b_writing (defBody (top 25))=true:=by decide +kernel
theorem s_writing:fnScB n_writing (n_writing.take d_writing.np) (defScope (top 25))=true:=by decide +kernel
theorem m_most_above:mtSs fns gns (defScope (top 26)) n_most_above true b_most_above (defBody (top 26))=true:=by decide +kernel
theorem s_most_above:fnScB n_most_above (n_most_above.take d_most_above.np) (defScope (top 26))=true:=by decide +kernel
theorem m_bags_above:mtSs fns gns (defScope (top 27)) n_bags_above true b_bags_above (defBody (top 27))=true:=by decide +kernel
theorem s_bags_above:fnScB n_bags_above (n_bags_above.take d_bags_above.np) (defScope (top 27))=true:=by decide +kernel
theorem m_check_written:mtSs fns gns (defScope (top 28)) n_check_written true b_check_written (defBody (top 28))=true:=by decide +kernel
theorem s_check_written:fnScB n_check_written (n_check_written.take d_check_written.np) (defScope (top 28))=true:=by decide +kernel
theorem m_ways:mtSs fns gns (defScope (top 29)) n_ways true b_ways (defBody (top 29))=true:=by decide +kernel
theorem s_ways:fnScB n_ways (n_ways.take d_ways.np) (defScope (top 29))=true:=by decide +kernel
theorem m_most_things:mtSs fns gns (defScope (top 30)) n_most_things true b_most_things (defBody (top 30))=true:=by decide +kernel
theorem s_most_things:fnScB n_most_things (n_most_things.take d_most_things.np) (defScope (top 30))=true:=by decide +kernel
theorem m_written_parts:mtSs fns gns (defScope (top 31)) n_written_parts true b_written_parts (defBody (top 31))=true:=by decide +kernel
theorem s_written_parts:fnScB n_written_parts (n_written_parts.take d_written_parts.np) (defScope (top 31))=true:=by decide +kernel
theorem m_is_row:mtSs fns gns (defScope (top 34)) n_is_row true b_is_row (defBody (top 34))=true:=by decide +kernel
theorem s_is_row:fnScB n_is_row (n_is_row.take d_is_row.np) (defScope (top 34))=true:=by decide +kernel
theorem m_check_row:mtSs fns gns (defScope (top 35)) n_check_row true b_check_row (defBody (top 35))=true:=by decide +kernel
theorem s_check_row:fnScB n_check_row (n_check_row.take d_check_row.np) (defScope (top 35))=true:=by decide +kernel
theorem m_not_of_net:mtSs fns gns (defScope (top 37)) n_not_of_net true b_not_of_net (defBody (top 37))=true:=by decide +kernel
theorem s_not_of_net:fnScB n_not_of_net (n_not_of_net.take d_not_of_net.np) (defScope (top 37))=true:=by decide +kernel
theorem m_not_of_crowd:mtSs fns gns (defScope (top 38)) n_not_of_crowd true b_not_of_crowd (defBody (top 38))=true:=by decide +kernel
theorem s_not_of_crowd:fnScB n_not_of_crowd (n_not_of_crowd.take d_not_of_crowd.np) (defScope (top 38))=true:=by decide +kernel
theorem m_first_beyond:mtSs fns gns (defScope (top 39)) n_first_beyond true b_first_beyond (defBody (top 39))=true:=by decide +kernel
theorem s_first_beyond:fnScB n_first_beyond (n_first_beyond.take d_first_beyond.np) (defScope (top 39))=true:=by decide +kernel
theorem m__law_cell_at:mtSs fns gns (defScope (top 41)) n__law_cell_at true b__law_cell_at (defBody (top 41))=true:=by decide +kernel
theorem s__law_cell_at:fnScB n__law_cell_at (n__law_cell_at.take d__law_cell_at.np) (defScope (top 41))=true:=by decide +kernel
theorem m__law_pot:mtSs fns gns (defScope (top 42)) n__law_pot true b__law_pot (defBody (top 42))=true:=by decide +kernel
theorem s__law_pot:fnScB n__law_pot (n__law_pot.take d__law_pot.np) (defScope (top 42))=true:=by decide +kernel
theorem m__law_take:mtSs fns gns (defScope (top 43)) n__law_take true b__law_take (defBody (top 43))=true:=by decide +kernel
theorem s__law_take:fnScB n__law_take (n__law_take.take d__law_take.np) (defScope (top 43))=true:=by decide +kernel
theorem m__law_whole:mtSs fns gns (defScope (top 44)) n__law_whole true b__law_whole (defBody (top 44))=true:=by decide +kernel
theorem s__law_whole:fnScB n__law_whole (n__law_whole.take d__law_whole.np) (defScope (top 44))=true:=by decide +kernel
theorem m__law_word:mtSs fns gns (defScope (top 45)) n__law_word false b__law_word (defBody (top 45))=true:=by decide +kernel
theorem s__law_word:fnScB n__law_word (n__law_word.take d__law_word.np) (defScope (top 45))=true:=by decide +kernel
theorem m__law_ways:mtSs fns gns (defScope (top 46)) n__law_ways true b__law_ways (defBody (top 46))=true:=by decide +kernel
theorem s__law_ways:fnScB n__law_ways (n__law_ways.take d__law_ways.np) (defScope (top 46))=true:=by decide +kernel
theorem m__law_writing:mtSs fns gns (defScope (top 47)) n__law_writing true b__law_writing (defBody (top 47))=true:=by decide +kernel
theorem s__law_writing:fnScB n__law_writing (n__law_writing.take d__law_writing.np) (defScope (top 47))=true:=by decide +kernel
theorem m__law_next_by:mtSs fns gns (defScope (top 48)) n__law_next_by true b__law_next_by (defBody (top 48))=true:=by decide +kernel
theorem s__law_next_by:fnScB n__law_next_by (n__law_next_by.take d__law_next_by.np) (defScope (top 48))=true:=by decide +kernel
theorem m__law_first_not:mtSs fns gns (defScope (top 49)) n__law_first_not true b__law_first_not (defBody (top 49))=true:=by decide +kernel
theorem s__law_first_not:fnScB n__law_first_not (n__law_first_not.take d__law_first_not.np) (defScope (top 49))=true:=by decide +kernel
theorem m__law_is_row:mtSs fns gns (defScope (top 50)) n__law_is_row true b__law_is_row (defBody (top 50))=true:=by decide +kernel
theorem s__law_is_row:fnScB n__law_is_row (n__law_is_row.take d__law_is_row.np) (defScope (top 50))=true:=by decide +kernel
theorem m__law_said:mtSs fns gns (defScope (top 51)) n__law_said true b__law_said (defBody (top 51))=true:=by decide +kernel
theorem s__law_said:fnScB n__law_said (n__law_said.take d__law_said.np) (defScope (top 51))=true:=by decide +kernel
theorem m__law_row:mtSs fns gns (defScope (top 52)) n__law_row true b__law_row (defBody (top 52))=true:=by decide +kernel
theorem s__law_row:fnScB n__law_row (n__law_row.take d__law_row.np) (defScope (top 52))=true:=by decide +kernel
theorem m_law:mtSs fns gns (defScope (top 53)) n_law true b_law (defBody (top 53))=true:=by decide +kernel
theorem s_law:fnScB n_law (n_law.take d_law.np) (defScope (top 53))=true:=by decide +kernel
end K42
end
section
set_option exponentiation.threshold 3000
namespace K42
open PySem Z
theorem T_cln:(T.all fun d=>clnSs d.body)=true:=by decide +kernel
theorem G_flt:flts G=true:=by decide +kernel
noncomputable def askEs:Exs:=.cons (.glb 5) (.cons (.glb 6) .nil)
theorem t0:T[0]?=some dWhole:=rfl
theorem t1:T[1]?=some (dWithin 0):=rfl
theorem t2:T[2]?=some (dWTup 0):=rfl
theorem t3:T[3]?=some (dWrit 6 8 7):=rfl
theorem t4:T[4]?=some (dWSum 9 (.call 7 (.cons (.var 3) (.cons (.bin .add (.var 4) (.cst (.int 1))) .nil)))):=rfl
theorem t5:T[5]?=some (dWSum 9 (.call 7 (.cons (.bin .add (.var 3) (.cst (.int 1))) (.cons (.bin .add (.var 4) (.cst (.int 1))) .nil)))):=rfl
theorem t6:T[6]?=some (dChkW 1 "a number from 0 to 10 ** 12 is due" "a size from 1 to 12 is due"):=rfl
theorem t7:T[7]?=some dWays:=rfl
theorem t8:T[8]?=some (dMost 7):=rfl
theorem t9:T[9]?=some (dWParts 3):=rfl
theorem t10:T[10]?=some (dIsRow 2 2):=rfl
theorem t11:T[11]?=some (dChk 10):=rfl
theorem t12:T[12]?=some (dNotOf 11 14 3):=rfl
theorem t13:T[13]?=some (dNotOf 11 14 4):=rfl
theorem t14:T[14]?=some dFirst:=rfl
theorem t17:T[17]?=some dTake:=rfl
theorem t18:T[18]?=some dWhole:=rfl
theorem t19:T[19]?=some dKind:=rfl
theorem t20:T[20]?=some dLWays:=rfl
theorem t21:T[21]?=some (dLWrit 20):=rfl
theorem t22:T[22]?=some (dNext 20 21):=rfl
theorem t23:T[23]?=some (dFNot 22):=rfl
theorem t24:T[24]?=some (dLRow2 18):=rfl
theorem t25:T[25]?=some (dToldBy2 askEs 19):=rfl
theorem g0:G[0]?=some (.int 1000000000000):=rfl
theorem g1:G[1]?=some (.int 12):=rfl
theorem g2:G[2]?=some (.int 11):=rfl
theorem ftx{k f:Nat}{d:Df}{ds:List D}{S:Sto}(h:T[f]?=some d):FT T G (k + 1) f ds S=den (FT T G k) G d ds S:=by simp only[FT,h]
theorem whole(k:Nat):Wholes (FT T G (k + 1)) 0:=wholes_of t0 k
theorem whole18(k:Nat):Wholes (FT T G (k + 1)) 18:=wholes_of t18 k
theorem within(k:Nat)(d:D)(lo hi:Int)(S:Sto)(h:good S d):FT T G (k + 2) 1 [d,.int lo,.int hi] S=.ok (.bl (wi d lo hi)) S:=by
 rw[ftx t1];exact den_within (whole k d S h)
theorem wtups(k:Nat):WTups (FT T G (k + 2)) 2:=wtups_of t2 (k + 1) (whole k)
theorem chk_ok(k n s:Nat)(S:Sto)(hn:n<=1000000000000)(hs1:1<=s)(hs:s<=12):FT T G (k + 3) 6 [.int n,.int s] S=.ok .non S:=by
 have h1:=within k (.int n) 0 1000000000000 S (good_int S n);have h2:=within k (.int s) 1 12 S (good_int S s);rw[wi_int (by omega) (by omega)] at h1 h2
 rw[ftx t6];exact chkW_ok g0 g1 h1 h2
theorem writing(k n s:Nat)(S:Sto)(hn:n<=1000000000000)(hs1:1<=s)(hs:s<=12):∃ w,FT T G (k + 4) 3 [.int n,.int s] S=.ok (tupI w) (S++[.lst (w.map D.int)])/\Wr s n w:=by
 rw[ftx t3];exact den_writ (waysF_of t7 (k + 2)) (mostF_of t8 (waysF_of t7 (k + 1))) (chk_ok k n s S hn hs1 hs) hs1 hs hn
theorem abv_gen(k:Nat){f m:Nat}{g:Nat->Nat->Nat}{elt:Ex}(hf:T[f]?=some (dWSum 9 elt))(hm:m<=12)
  (he:∀ (x c:Nat) (a b d:Option D) (S:Sto),x<=9000000000000->1<=c->c<=m->ev (FT T G (k + 5)) G elt [a,b,d,some (.int x),some (.int c)] S=.ok (.int (g x c:Nat)) S):AbvF (FT T G (k + 6)) f g m:=by
 intro n s S hn h1 hs;obtain⟨w,e1,hw⟩:=writing k n s S hn h1 (by omega)
 have hl:=wr_len hw;have hb:=wr_bd hw;have e2:FT T G (k + 5) 9 [.int n,.int s] S=.ok (.ref (S++[O.lst (w.map D.int)]).length) (S++[.lst (w.map D.int)]++[.lst ((List.range w.length).map (wpart w s))]):=by
  rw[ftx t9];exact den_wparts e1 (by omega)
 obtain⟨X,e3⟩:=den_wsum (G:=G) (elt:=elt) (g:=g) e2 hl (by omega) (fun x c a b d S hx hc1 hc=>he x c a b d S (by have:=(hb _ hx).2; omega) hc1 (by omega)) fun x hx=>(hb x hx).1
 refine⟨[.lst (w.map D.int)]++X,?_⟩;rw[ftx hf,e3,List.append_assoc,abv_eq g hw]
theorem abv_U(k:Nat):AbvF (FT T G (k + 6)) 4 gU 11:=abv_gen k t4 (by omega) fun x c a b d S hx _ hc=>elt_U (waysF_of t7 (k + 4)) (by omega) hc
theorem abv_B(k:Nat):AbvF (FT T G (k + 6)) 5 gB 11:=abv_gen k t5 (by omega) fun x c a b d S hx _ hc=>elt_B (waysF_of t7 (k + 4)) (by omega) hc
theorem next(k kd:Nat)(hk:kd=0\/kd=2):NextF (FT T G (k + 3)) 22 kd:=by
 intro n s S hn h1 hs;have hw:WaysF (FT T G (k + 2)) 20:=(lwaysF_of t20 (k + 1)).ways;obtain⟨w,e1,hwr⟩:=den_lwrit (F:=FT T G (k + 1)) (G:=G) (iw:=20) (n:=n) (s:=s) (S:=S) (lwaysF_of t20 k).ways h1 (by omega) hn
 have e2:FT T G (k + 2) 21 [.int n,.int s] S=.ok (tupI w) (S++[.lst (w.map D.int)]):=by rw[ftx t21]; exact e1
 obtain⟨X,e3⟩:=den_next (G:=G) (il:=20) (kd:=kd) hw e2 hwr hn (by omega) (by omega) (fun _=>hs)
 refine⟨[.lst (w.map D.int)]++X,?_⟩;rw[ftx t22,e3,List.append_assoc,abv_eq (gK kd) hwr]
theorem is_row(k:Nat){d:D}{S:Sto}(t:Thing S d):∃ X,FT T G (k + 3) 10 [d] S=.ok (.bl (isr d)) (S++X):=by
 obtain⟨X,h⟩:=isrow_gen (G:=G) (wtups k) g2 t;exact⟨X,by rw[ftx t10]; exact h⟩
theorem check_yes(k:Nat){d:D}{S:Sto}(t:Thing S d)(h:isr d=true):∃ X,FT T G (k + 4) 11 [d] S=.ok .non (S++X):=by
 obtain⟨X,e⟩:=is_row k t;rw[h] at e;exact⟨X,by rw[ftx t11]; exact chk_yes e⟩
theorem check_no(k:Nat){d:D}{S:Sto}(t:Thing S d)(h:isr d=false):∃ X,FT T G (k + 4) 11 [d] S=.ex (S++X).length (S++X++[.exc 7]):=by
 obtain⟨X,e⟩:=is_row k t;rw[h] at e;exact⟨X,by rw[ftx t11]; exact chk_no e⟩
theorem lis_row(k:Nat){d:D}{S:Sto}(t:Thing S d):∃ X,FT T G (k + 2) 24 [d] S=.ok (.bl (isr d)) (S++X):=by
 obtain⟨X,h⟩:=lrow2_gen (G:=G) (whole18 k) t;exact⟨X,by rw[ftx t24]; exact h⟩
theorem first_not(k kd:Nat)(hk:kd=0\/kd=2){l:List Int}(hl:l.length<=12)(S:Sto):∃ X,FT T G (k + 4) 23 [tupI l,.int kd] S=.ok (fstBad (gK kd) l) (S++X):=by
 obtain⟨X,h⟩:=den_fnot (G:=G) (S:=S) (next k kd hk) hl
 exact⟨X,by rw[ftx t23]; exact h⟩
theorem ask(k v:Nat)(hv:v < 2){l:List Int}(h1:1<=l.length)(hl:l.length<=12){S:Sto}(t:Thing S (tupI l)):∃ X,FT T G (k + 8) (12 + v) [tupI l] S=.ok (fstBad (gK (2 * v)) l) (S++X):=by
 obtain⟨X,hc⟩:=check_yes (k + 3) t (isr_tupI h1 hl)
 match v,hv with
 | 0,_ =>
  obtain⟨Y,h⟩:=den_first (F:=FT T G (k + 6)) (G:=G) (row:=l) (f:=4) (nm := "most_above") (g:=gU) (S:=S++X) (abv_U k) rfl g0 h1 hl;have e:FT T G (k + 7) 14 [tupI l,.fn 4 "most_above"] (S++X)=.ok (fstBad gU l) (S++X++Y):=by rw[ftx t14]; exact h
  exact⟨X++Y,by rw[ftx t12,<- List.append_assoc]; exact notof_ok hc rfl e⟩
 | 1,_ =>
  obtain⟨Y,h⟩:=den_first (F:=FT T G (k + 6)) (G:=G) (row:=l) (f:=5) (nm := "bags_above") (g:=gB) (S:=S++X) (abv_B k) rfl g0 h1 hl;have e:FT T G (k + 7) 14 [tupI l,.fn 5 "bags_above"] (S++X)=.ok (fstBad gB l) (S++X++Y):=by rw[ftx t14]; exact h
  exact⟨X++Y,by rw[ftx t13,<- List.append_assoc]; exact notof_ok hc rfl e⟩
theorem ask_no(k v:Nat)(hv:v < 2){d:D}{S:Sto}(t:Thing S d)(h:isr d=false):∃ X,FT T G (k + 8) (12 + v) [d] S=.ex (S++X).length (S++X++[.exc 7]):=by
 obtain⟨X,hc⟩:=check_no (k + 3) t h
 match v,hv with
 | 0,_=>exact⟨X,by rw[ftx t12]; exact notof_ex hc⟩
 | 1,_=>exact⟨X,by rw[ftx t13]; exact notof_ex hc⟩
end K42
end
section
set_option exponentiation.threshold 3000
namespace K42
open PySem Z
noncomputable def due(v:Nat)(d:D):D:=match d with
 | .tup xs=>if isr (.tup xs) then fstBad (gK (2 * v)) (xs.map fun | .int i=>i | _=>0) else .str "row"
 | _=>.str "row"
theorem due_row{v:Nat}{l:List Int}(h1:1<=l.length)(hl:l.length<=12):due v (tupI l)=fstBad (gK (2 * v)) l:=by
 have e:(l.map D.int).map (fun | .int i=>i | _=>0)=l:=by simp[Function.comp_def]
 have hi:=isr_tupI h1 hl;unfold tupI at hi ⊢;simp only[due,hi,if_true,e]
theorem due_no{v:Nat}{d:D}(h:isr d=false):due v d=.str "row" := by
 cases d with
 | tup xs=>simp only[due,h,Bool.false_eq_true,if_false]
 | _=>rfl
theorem evs_ask{F:Fn}(env:En)(S:Sto):evs F G askEs env S=.ok [.fn 12 "not_of_net",.fn 13 "not_of_crowd"] S:=by
 simp only[askEs,evs,ev,G,gZ0,gS0,Rk0]
theorem gs(v:Nat)(hv:v < 2):∃ nm,([D.fn 12 "not_of_net",D.fn 13 "not_of_crowd"]:List D)[v]?=some (.fn (12 + v) nm)/\fnIn (12 + v) nm G=true:=by
 match v,hv with
 | 0,_=>exact⟨"not_of_net",rfl,rfl⟩
 | 1,_=>exact⟨"not_of_crowd",rfl,rfl⟩
theorem said(v:Nat)(hv:v < 2){d:D}{S:Sto}(t:Thing S d):∃ X,FT T G 12 25 [.int v,d] S=.ok (due v d) (S++X):=by
 obtain⟨nm,g1,g2⟩:=gs v hv;have tt:Thing (S++[.lst [D.fn 12 "not_of_net",D.fn 13 "not_of_crowd"]]) d:=t.app;cases hi:isr d with
 | true =>
  obtain⟨l,rfl,h1,hl⟩:=isr_row hi;rw[due_row h1 hl];obtain⟨X,hX⟩:=ask 3 v hv h1 hl tt;refine⟨[.lst [D.fn 12 "not_of_net",D.fn 13 "not_of_crowd"]]++X,?_⟩;rw[ftx t25];have:=toldby2_ok (F:=FT T G 11) (G:=G) (ik:=19) (c:=tupI l) (S:=S) evs_ask (by simp) g1 g2 hX
  rw[this];simp only[List.append_assoc]
 | false =>
  rw[due_no hi];obtain⟨X,hX⟩:=ask_no 3 v hv tt hi;obtain⟨Y,hk⟩:=ft_kind (k:=10) T_cln G_flt t19 (c:=7) (by omega) (by omega) (S++[.lst [D.fn 12 "not_of_net",D.fn 13 "not_of_crowd"]]++X)
  refine⟨[.lst [D.fn 12 "not_of_net",D.fn 13 "not_of_crowd"]]++X++Y,?_⟩;rw[ftx t25];have:=toldby2_ex (F:=FT T G 11) (G:=G) (ik:=19) (c:=d) (S:=S) evs_ask (by simp) g1 g2 hX hk
  rw[this];simp only[List.append_assoc];rfl
theorem due_sm(v:Nat)(d:D)(S:Sto):Sm S 20 400000 (due v d):=by
 have hs:Sm S 20 400000 (.str "row"):=(sm_str S "row" (by decide +kernel)).mono (by omega) (by omega)
 cases hi:isr d with
 | false=>rw[due_no hi]; exact hs
 | true =>
  obtain⟨l,rfl,h1,hl⟩:=isr_row hi;rw[due_row h1 hl];unfold fstBad;split
  ·rename_i p q
   have hp:p < l.length:=by simpa using List.mem_of_find?_eq_some q
   refine(sm_int S p ?_).mono (by omega) (by omega)
   have:∀ j:Fin 13,((j.val:Int)).natAbs.log2 < 1920:=by decide +kernel
   exact this ⟨p,by omega⟩
  ·exact(sm_non S).mono (by omega) (by omega)
end K42
end
section
set_option exponentiation.threshold 3000
namespace Z
open PySem
theorem Shw.rep_at{S:Sto}{q:Nat}{ds:List D}{ps:List PyData}(h:Shw S ds ps)(hq:lstAt S q=some ds):repD S (.ref q)=some (PyData.list ps).shown:=by
 have e:datD S (.ref q)=some (.list ps):=by
  show lookK S 4 q=_;rw[lookK,at_lst hq];dsimp only;rw[h.dat,Option.map_some]
 have c1:(PyData.list ps).showable=true:=by simp only[PyData.showable,h.shw]
 have c2:dctE (PyData.list ps)=true:=by simp only[dctE,h.nod]
 unfold repD;rw[e];dsimp only;rw[if_pos (by rw[c1,c2,decide_eq_true h.dep,decide_eq_true h.siz]; rfl)]
end Z
namespace K42
open PySem Z
noncomputable def rowL:Ex:=.lst (.cons (.cst (.str "row")) (.cons (.cst (.str "row")) .nil))
noncomputable def dueL:Ex:=.lst (.cons (.call 23 (.cons (.var 7) (.cons (.cst (.int 0)) .nil))) (.cons (.call 23 (.cons (.var 7) (.cons (.cst (.int 2)) .nil))) .nil))
noncomputable def saidL:Ex:=.lst (.cons (.call 25 (.cons (.cst (.int 0)) (.cons (.var 7) .nil))) (.cons (.call 25 (.cons (.cst (.int 1)) (.cons (.var 7) .nil))) .nil))
noncomputable def st3:St:=.ite (.call 24 (.cons (.var 7) .nil)) (.cons (.asg (.var 9) dueL) .nil) .nil
noncomputable def cT:Ex:=.or (.cmp .ne (.blt .repr (.cons saidL .nil)) (.blt .repr (.cons (.var 9) .nil))) (.cmp .ne (.blt .repr (.cons (.var 7) .nil)) (.var 8))
noncomputable def no:Sts:=.cons (.ret (.cst (.bl false))) .nil
noncomputable def bodyT:Sts:=.cons (.asg (.var 8) (.blt .repr (.cons (.var 7) .nil))) (.cons (.asg (.var 9) rowL) (.cons st3 (.cons (.ite cT no .nil) .nil)))
theorem two_bigL(x y:D)(S:Sto):(if [x,y].length<=big then R.ok (D.ref S.length) (S++[.lst [x,y]]) else R.bad)=R.ok (D.ref S.length) (S++[.lst [x,y]]):=if_pos (by show 2<=big; decide)
theorem rep_ev{S:Sto}{d:D}{t:Str}(h:repD S d=some t):bltD .repr [d] S=.ok (.str t) S:=by simp only[bltD,h]
theorem thing_ok{a0 a1 a2 a3 a4 a5 a6 a8 a9:Option D}{d:D}{S:Sto}(t:Thing S d) :
  ∃ b8 b9 X,exes (FT T G 12) G bodyT [a0,a1,a2,a3,a4,a5,a6,some d,a8,a9] S=.ok (.nx [a0,a1,a2,a3,a4,a5,a6,some d,b8,b9]) (S++X):=by
 obtain⟨tx,htx⟩:=t.sm.rep;have r0:=rep_ev (htx []);rw[List.append_nil] at r0;have s1:exe (FT T G 12) G (.asg (.var 8) (.blt .repr (.cons (.var 7) .nil))) [a0,a1,a2,a3,a4,a5,a6,some d,a8,a9] S=.ok (.nx [a0,a1,a2,a3,a4,a5,a6,some d,some (.str tx),a9]) S:=asg_v (by
  simp only[ev,evs,gZ0,gS0,Rk0,r0])
 have s2:exe (FT T G 12) G (.asg (.var 9) rowL) [a0,a1,a2,a3,a4,a5,a6,some d,some (.str tx),a9] S=.ok (.nx [a0,a1,a2,a3,a4,a5,a6,some d,some (.str tx),some (.ref S.length)]) (S++[.lst [.str "row",.str "row"]]):=asg_v (by
  simp only[rowL,ev,evs,Rk0,two_bigL])
 have t1:Thing (S++[.lst [.str "row",.str "row"]]) d:=t.app;have s3:∃ q Y,exe (FT T G 12) G st3 [a0,a1,a2,a3,a4,a5,a6,some d,some (.str tx),some (.ref S.length)] (S++[.lst [.str "row",.str "row"]])=.ok (.nx [a0,a1,a2,a3,a4,a5,a6,some d,some (.str tx),some (.ref q)]) (S++Y)/\lstAt (S++Y) q=some [due 0 d,due 1 d]:=by
  obtain⟨X,h⟩:=lis_row 10 t1;have hc:ev (FT T G 12) G (.call 24 (.cons (.var 7) .nil)) [a0,a1,a2,a3,a4,a5,a6,some d,some (.str tx),some (.ref S.length)] (S++[.lst [.str "row",.str "row"]])=.ok (.bl (isr d)) (S++[.lst [.str "row",.str "row"]]++X):=by
   simp only[ev,evs,gZ0,gS0,Rk0]; exact h
  cases hi:isr d with
  | false =>
   rw[hi] at hc;refine⟨S.length,[.lst [.str "row",.str "row"]]++X,?_,?_⟩
   ·rw[<- List.append_assoc]; exact if_pass hc
   ·rw[due_no hi,due_no hi,<- List.append_assoc]; exact lst_app last_lst
  | true =>
   rw[hi] at hc;obtain⟨l,rfl,h1,hl⟩:=isr_row hi;obtain⟨Y1,f1⟩:=first_not 8 0 (.inl rfl) hl (S++[.lst [.str "row",.str "row"]]++X);obtain⟨Y2,f2⟩:=first_not 8 2 (.inr rfl) hl (S++[.lst [.str "row",.str "row"]]++X++Y1);have f1':FT T G 12 23 [tupI l,.int 0] (S++[.lst [.str "row",.str "row"]]++X)=.ok (due 0 (tupI l)) (S++[.lst [.str "row",.str "row"]]++X++Y1):=by rw[due_row h1 hl]; exact f1
   have f2':FT T G 12 23 [tupI l,.int 2] (S++[.lst [.str "row",.str "row"]]++X++Y1)=.ok (due 1 (tupI l)) (S++[.lst [.str "row",.str "row"]]++X++Y1++Y2):=by rw[due_row h1 hl]; exact f2
   have ha:exe (FT T G 12) G (.asg (.var 9) dueL) [a0,a1,a2,a3,a4,a5,a6,some (tupI l),some (.str tx),some (.ref S.length)] (S++[.lst [.str "row",.str "row"]]++X)=.ok (.nx [a0,a1,a2,a3,a4,a5,a6,some (tupI l),some (.str tx),some (.ref (S++[O.lst [.str "row",.str "row"]]++X++Y1++Y2).length)]) (S++[.lst [.str "row",.str "row"]]++X++Y1++Y2++[.lst [due 0 (tupI l),due 1 (tupI l)]]):=asg_v (by
    simp only[dueL,ev,evs,gZ0,gS0,Rk0,f1',f2',two_bigL])
   refine⟨(S++[O.lst [.str "row",.str "row"]]++X++Y1++Y2).length,[.lst [.str "row",.str "row"]]++X++Y1++Y2++[.lst [due 0 (tupI l),due 1 (tupI l)]],?_,?_⟩
   ·have e:S++([O.lst [.str "row",.str "row"]]++X++Y1++Y2++[O.lst [due 0 (tupI l),due 1 (tupI l)]])=S++[.lst [.str "row",.str "row"]]++X++Y1++Y2++[.lst [due 0 (tupI l),due 1 (tupI l)]]:=by simp only[List.append_assoc]
    rw[e];unfold st3;rw[exe,hc,Rk0];simp only[truD];rw[exes_nx ha,exes]
   ·have e:S++([O.lst [.str "row",.str "row"]]++X++Y1++Y2++[O.lst [due 0 (tupI l),due 1 (tupI l)]])=S++[.lst [.str "row",.str "row"]]++X++Y1++Y2++[.lst [due 0 (tupI l),due 1 (tupI l)]]:=by simp only[List.append_assoc]
    rw[e];exact last_lst
 obtain⟨q,Y,s3,hq⟩:=s3;obtain⟨Z1,u1⟩:=said 0 (by omega) (t.app (X:=Y))
 obtain⟨Z2,u2⟩:=said 1 (by omega) ((t.app (X:=Y)).app (X:=Z1))
 have u1':FT T G 12 25 [.int 0,d] (S++Y)=.ok (due 0 d) (S++Y++Z1):=u1;have u2':FT T G 12 25 [.int 1,d] (S++Y++Z1)=.ok (due 1 d) (S++Y++Z1++Z2):=u2;obtain⟨ps,hs⟩:=shw2 (due_sm 0 d (S++Y++Z1++Z2)) (due_sm 1 d (S++Y++Z1++Z2));have r1:=rep_ev hs.rep;have r2:=rep_ev ((hs.app (X:=[.lst [due 0 d,due 1 d]])).rep_at (q:=q) (lst_app (lst_app (lst_app hq))));have r3:bltD .repr [d] (S++Y++Z1++Z2++[.lst [due 0 d,due 1 d]])=.ok (.str tx) (S++Y++Z1++Z2++[.lst [due 0 d,due 1 d]]):=by
  have:=rep_ev (htx (Y++Z1++Z2++[.lst [due 0 d,due 1 d]]));simp only[List.append_assoc] at this ⊢;exact this
 have s4:ev (FT T G 12) G cT [a0,a1,a2,a3,a4,a5,a6,some d,some (.str tx),some (.ref q)] (S++Y)=.ok (.bl false) (S++Y++Z1++Z2++[.lst [due 0 d,due 1 d]]):=by
  simp only[cT,saidL,ev,evs,gZ0,gS0,Rk0,u1',u2',two_bigL,r1,r2,ne_strs,truD,r3]
 refine⟨some (.str tx),some (.ref q),Y++Z1++Z2++[.lst [due 0 d,due 1 d]],?_⟩;have e:S++(Y++Z1++Z2++[O.lst [due 0 d,due 1 d]])=S++Y++Z1++Z2++[.lst [due 0 d,due 1 d]]:=by simp only[List.append_assoc]
 rw[e];unfold bodyT;rw[exes_nx s1,exes_nx s2,exes_nx s3,exes_nx (if_pass s4),exes]
end K42
end
section
set_option exponentiation.threshold 3000
namespace Z
open PySem
theorem Ext.setq{p q:Nat}{S S':Sto}{o:O}(h:Ext p S S')(hq:S.length<=q):Ext p S (S'.set q o):=fun n u hn e=>by
 have hlt:n < S.length:=(List.getElem?_eq_some_iff.mp e).1;rw[List.getElem?_set_ne (by omega)]
 exact h n u hn e
theorem floop_any{get:Sto->Nat->Option (Option D)}{t:Tg}{body:En->Sto->R Fl}{xs:List D}(P:Nat->En->Sto->Prop)(Q:D->Sto->Prop)(hget:∀ i S,get S i=some xs[i]?)
  (step:∀ i d e S,xs[i]?=some d->P i e S->∃ e1,setTg t d e=some e1/\((∃ r S',body e1 S=.ok (.rt r) S'/\Q r S')\/∃ e2 S',body e1 S=.ok (.nx e2) S'/\P (i + 1) e2 S')) :
  ∀ (fuel i:Nat) (e:En) (S:Sto),xs.length < fuel + i->i<=xs.length->P i e S->(∃ r S',floop get t body fuel i e S=.ok (.rt r) S'/\Q r S')\/∃ e' S',floop get t body fuel i e S=.ok (.nx e') S'/\P xs.length e' S'
 | 0,i,e,S,h1,h2,h3=>by omega
 | fuel + 1,i,e,S,h1,h2,h3=>by
  cases q:xs[i]? with
  | none =>
   have hi:i=xs.length:=by have:=List.getElem?_eq_none_iff.mp q; omega
   right;refine⟨e,S,?_,by rw[<- hi]; exact h3⟩
   simp only[floop,hget,q]
  | some d =>
   have hi:i < xs.length:=(List.getElem?_eq_some_iff.mp q).1;obtain⟨e1,a1,a2⟩:=step i d e S q h3;rcases a2 with⟨r,S',b2,b3⟩ | ⟨e2,S',b2,b3⟩
   ·left
    refine⟨r,S',?_,b3⟩;simp only[floop,hget,q,a1,b2]
   ·have ih:=floop_any P Q hget step fuel (i + 1) e2 S' (by omega) hi b3
    simp only[floop,hget,q,a1,b2];exact ih
theorem fac_one:∀ i:Nat,1<=fac i
 | 0=>Nat.le_refl _
 | i + 1=>by simp only[fac]; exact Nat.le_trans (fac_one i) (Nat.le_mul_of_pos_right _ (by omega))
theorem C_pow(n i:Nat):C n i<=n ^ i:=by
 have h:=fall_le n i;have h2:C n i * 1<=C n i * fac i:=Nat.mul_le_mul_left _ (fac_one i);rw[Nat.mul_one] at h2;exact Nat.le_trans h2 h
theorem gtot_bd{g:Nat->Nat->Nat}{B:Nat}:∀ (k:Nat) (l:List Int),(∀ x∈l,∀ j≤k,g x.toNat j<=B)->gtot g k l<=k * B
 | k,[],_=>by
  have e:gtot g k []=0:=by cases k <;> rfl
  rw[e]; exact Nat.zero_le _
 | 0,_ :: _,_=>Nat.zero_le _
 | k + 1,x :: r,h=>by
  have ih:=gtot_bd k r (fun y hy j hj=>h y (List.mem_cons_of_mem _ hy) j (by omega))
  have h1:=h x (List.mem_cons_self ..) (k + 1) (Nat.le_refl _);simp only[gtot];rw[Nat.succ_mul];omega
theorem pow_bd{a k:Nat}(ha:a<=2 ^ 41)(hk:k<=12):a ^ k<=2 ^ 492:=by
 calc a ^ k<=(2 ^ 41) ^ k:=Nat.pow_le_pow_left ha k
  _=2 ^ (41 * k):=by rw[<- Nat.pow_mul]
  _<=2 ^ 492:=Nat.pow_le_pow_right (by decide) (by omega)
theorem gK_bd{kd a j:Nat}(ha:a < 2 ^ 41)(hj:j<=11):gK kd a j<=2 ^ 492:=by
 unfold gK;split
 ·exact Nat.le_trans (C_pow _ _) (pow_bd (by omega) (by omega))
 ·split
  ·exact Nat.le_trans (C_pow _ _) (pow_bd (by omega) (by omega))
  ·exact Nat.le_trans (C_pow _ _) (pow_bd (by omega) (by omega))
theorem abv_bd{kd s n:Nat}(hs:s<=11)(hn:n<=1000000000000):abv (gK kd) s n<=11 * 2 ^ 492:=by
 unfold abv;have e41:(2:Nat) ^ 41=2199023255552:=by decide
 have key:∀ w,(∀ x∈w,0<=x/\x<=(n:Int) + s)->gtot (gK kd) s w<=11 * 2 ^ 492:=fun w hw=>by
  have h:=gtot_bd (g:=gK kd) (B:=2 ^ 492) s w (fun x hx j hj=>gK_bd (by have:=(hw x hx).2; rw[e41]; omega) (by omega))
  exact Nat.le_trans h (Nat.mul_le_mul_right _ hs)
 by_cases hx:∃ w,Wr s n w
 ·obtain⟨w,hw⟩:=hx
  rw[wri_eq hw];exact key w (wr_bd hw)
 ·unfold wri
  rw[dif_neg hx];exact key [] (fun x h=>by cases h)
end Z
end
section
set_option exponentiation.threshold 3000
namespace K42
open PySem Z
noncomputable def tk(e:Ex):Ex:=.call 17 (.cons (.var 0) (.cons e .nil))
noncomputable def one:Ex:=.cst (.int 1)
noncomputable def p10(n:Int):Ex:=.bin .pow (.cst (.int 10)) (.cst (.int n))
noncomputable def e6:Int:=10 ^ (6:Int).toNat
noncomputable def e59:Int:=10 ^ (59:Int).toNat
theorem pw6(S:Sto):binD .pow (.int 10) (.int 6) S=.ok (.int e6) S:=bin_pow (by decide +kernel) S
theorem pw59(S:Sto):binD .pow (.int 10) (.int 59) S=.ok (.int e59) S:=bin_pow (by decide +kernel) S
noncomputable def mx:Nat:=2 ^ 500
theorem mx_far:11 * 2 ^ 492 + 1<=mx:=by decide +kernel
theorem mx_12:1000000000001<=mx:=by decide +kernel
theorem mx_59:e59<=(mx:Int)/\0<=e59:=by decide +kernel
theorem mx_log{x:Int}(h:x.natAbs<=mx):x.natAbs.log2 < 1920:=by
 have h2:x.natAbs < 2 ^ 501:=Nat.lt_of_le_of_lt h (by decide +kernel)
 have:=log_le h2 (by decide)
 omega
theorem mx_div{n:Nat}(h:n<=mx)(h0:0 < n):divOk (n:Int)=true:=by
 have h2:n < 2 ^ 501:=Nat.lt_of_le_of_lt h (by decide +kernel)
 have h3:=log_le h2 (by decide)
 unfold divOk;have e:((n:Int)).natAbs=n:=Int.natAbs_natCast n;rw[e,decide_eq_true (by omega:(0:Int) < n),decide_eq_true (by omega:n.log2 < 9000)]
 rfl
structure Kq(p q:Nat)(S0:Sto)(l:List Int)(S:Sto):Prop where
 ex:Ext p S0 S
 pot:∃ v,lstAt S p=some [.int v]
 row:lstAt S q=some (l.map D.int)
section
variable{p q:Nat}{S0 S X:Sto}{l:List Int}
theorem Kq.app(h:Kq p q S0 l S):Kq p q S0 l (S++X):=⟨h.ex.trans .app,let ⟨v,e⟩:=h.pot; ⟨v,lst_app e⟩,lst_app h.row⟩
theorem Kq.setp(h:Kq p q S0 l S)(hpq:q≠p)(v:Int):Kq p q S0 l (S.set p (.lst [.int v])):=⟨h.ex.trans .set,let ⟨_,e⟩:=h.pot; ⟨v,set_lst (lst_lt e)⟩,Ext.lst (Ext.set (p:=p) (S:=S) (o:=.lst [.int v])) hpq h.row⟩
theorem Kq.setq{l':List Int}(h:Kq p q S0 l S)(hpq:q≠p)(hq:S0.length<=q):Kq p q S0 l' (S.set q (.lst (l'.map D.int))):=⟨h.ex.setq hq,let ⟨v,e⟩:=h.pot; ⟨v,Ext.lst (Ext.set (p:=q) (S:=S) (o:=.lst (l'.map D.int))) (Ne.symm hpq) e⟩,set_lst (lst_lt h.row)⟩
end
section
variable{F:Fn}{p q kd pl sp wy:Nat}{S0 S:Sto}{l:List Int}{x6 x7:Option D}
noncomputable def B1:St:=.asg (.var 6) (.idx (.lst (.cons (.cst (.int 4)) (.cons (.cst (.int 20)) (.cons (p10 6) (.cons (p10 12) .nil))))) (tk (.cst (.int 4))))
theorem evs_f(env:En)(S:Sto):evs F G (.cons (.cst (.int 4)) (.cons (.cst (.int 20)) (.cons (p10 6) (.cons (p10 12) .nil)))) env S=.ok [.int 4,.int 20,.int e6,.int e12] S:=by
 simp only[p10,evs,ev,Rk0,pw6,pw12]
theorem f_ok:∀ d∈[D.int 4,.int 20,.int e6,.int e12],∃ n:Nat,d=.int n/\n<=1000000000000:=by
 intro d hd;simp only[List.mem_cons,List.not_mem_nil,or_false] at hd;rcases hd with rfl | rfl | rfl | rfl
 ·exact⟨4,rfl,by decide⟩
 ·exact⟨20,rfl,by decide⟩
 ·exact⟨1000000,congrArg D.int (by decide +kernel),by decide⟩
 ·exact⟨1000000000000,congrArg D.int (by decide +kernel),by decide⟩
theorem b1_ok(hT:Takes F 17)(hpq:q≠p)(k:Kq p q S0 l S):∃ (far:Nat) (S':Sto),far<=1000000000000/\Kq p q S0 l S' /\
  exe F G B1 [some (.ref p),some (.int kd),some (.ref q),some (.int pl),some (.int sp),some (.int wy),x6,x7] S=.ok (.nx [some (.ref p),some (.int kd),some (.ref q),some (.int pl),some (.int sp),some (.int wy),some (.int far),x7]) S':=by
 obtain⟨v,hv⟩:=k.pot;obtain⟨d,md,ed⟩:=pick (G:=G) hT (q:=0) (c:=4) (p:=p) (v:=v) (env:=[some (.ref p),some (.int kd),some (.ref q),some (.int pl),some (.int sp),some (.int wy),x6,x7]) (evs_f _ S) rfl (by decide) (by show 4<=big; decide) d4 rfl hv
 obtain⟨n,rfl,hn⟩:=f_ok d md;exact⟨n,_,hn,k.app.setp hpq _,asg_v ed⟩
noncomputable def B2:St:=.ite (.cmp .gt (.var 3) one) (.cons (.asg (.var 6) (.call 22 (.cons (.var 1) (.cons (.idx (.var 2) (.neg one)) (.cons (.bin .sub (.var 3) one) .nil))))) .nil) .nil
theorem neg_one(env:En)(S:Sto):ev F G (.neg one) env S=.ok (.int (-1)) S:=rfl
theorem b2_ok(hN:NextF F 22 kd)(k:Kq p q S0 l S){far:Nat}(hf:far<=1000000000000)(h1:1<=pl)(h2:pl<=11)(hl:l.length=pl)(hb:∀ x∈l,0<=x/\x<=1000000000000):∃ (far':Nat) (S':Sto),far' + 1<=mx/\Kq p q S0 l S' /\
  exe F G B2 [some (.ref p),some (.int kd),some (.ref q),some (.int pl),some (.int sp),some (.int wy),some (.int far),x7] S=.ok (.nx [some (.ref p),some (.int kd),some (.ref q),some (.int pl),some (.int sp),some (.int wy),some (.int far'),x7]) S':=by
 have m1:=mx_12;have m2:=mx_far
 by_cases c:1 < pl
 ·have hd:decide ((1:Int) < (pl:Int))=true:=decide_eq_true (by omega)
  have hc:ev F G (.cmp .gt (.var 3) one) [some (.ref p),some (.int kd),some (.ref q),some (.int pl),some (.int sp),some (.int wy),some (.int far),x7] S=.ok (.bl true) S:=by
   simp only[one,ev,gZ0,gS0,Rk0,cmpR,cmpD,hd]
  obtain⟨n,rfl⟩:∃ n,pl=n + 1:=⟨pl - 1,by omega⟩
  have hi:=idx_last k.row hl;have hm:l.getD n 0∈l:=by
   have hn:n < l.length:=by omega
   have:l.getD n 0=l[n]:=by simp[List.getD,hn]
   rw[this]; exact List.getElem_mem hn
  have hx:=hb _ hm;have ex:l.getD n 0=((l.getD n 0).toNat:Int):=by omega
  obtain⟨X,h⟩:=hN (l.getD n 0).toNat n S (by omega) (by omega) (by omega)
  have bd:=abv_bd (kd:=kd) (s:=n) (n:=(l.getD n 0).toNat) (by omega) (by omega)
  rw[<- ex] at h;have e0:((n + 1:Nat):Int) - 1=(n:Int):=by omega
  generalize abv (gK kd) n (l.getD n 0).toNat=A at h bd;refine⟨A,S++X,by omega,k.app,?_⟩
  have ha:exe F G (.asg (.var 6) (.call 22 (.cons (.var 1) (.cons (.idx (.var 2) (.neg one)) (.cons (.bin .sub (.var 3) one) .nil))))) [some (.ref p),some (.int kd),some (.ref q),some (.int ((n + 1:Nat):Int)),some (.int sp),some (.int wy),some (.int far),x7] S=.ok (.nx [some (.ref p),some (.int kd),some (.ref q),some (.int ((n + 1:Nat):Int)),some (.int sp),some (.int wy),some (.int A),x7]) (S++X):=asg_v (by
   rw[ev,evs];simp only[ev,evs,neg_one,one,gZ0,gS0,Rk0,bin_sub,e0,hi,h])
  unfold B2;rw[exe,hc,Rk0];simp only[truD];rw[exes_nx ha,exes]
 ·have hd:decide ((1:Int) < (pl:Int))=false:=decide_eq_false (by omega)
  have hc:ev F G (.cmp .gt (.var 3) one) [some (.ref p),some (.int kd),some (.ref q),some (.int pl),some (.int sp),some (.int wy),some (.int far),x7] S=.ok (.bl false) S:=by
   simp only[one,ev,gZ0,gS0,Rk0,cmpR,cmpD,hd]
  exact⟨far,S,by omega,k,if_pass hc⟩
noncomputable def B3:St:=.asg (.var 7) (.idx (.lst (.cons (.var 6) (.cons (tk (.bin .add (.var 6) one)) (.cons (.var 6) .nil)))) (tk (.cst (.int 3))))
theorem d3:divOk 3=true:=by decide +kernel
theorem b3_ok(hT:Takes F 17)(hpq:q≠p)(k:Kq p q S0 l S){far:Nat}(hf:far + 1<=mx):∃ (num:Nat) (S':Sto),num<=far/\Kq p q S0 l S' /\
  exe F G B3 [some (.ref p),some (.int kd),some (.ref q),some (.int pl),some (.int sp),some (.int wy),some (.int far),x7] S=.ok (.nx [some (.ref p),some (.int kd),some (.ref q),some (.int pl),some (.int sp),some (.int wy),some (.int far),some (.int num)]) S':=by
 obtain⟨v,hv⟩:=k.pot;have ef:(far:Int) + 1=((far + 1:Nat):Int):=by omega
 have t:=hT p v ((far + 1:Nat):Int) S hv (by omega) (mx_div hf (by omega))
 have n0:=Int.emod_nonneg v (show((far + 1:Nat):Int)≠0 by omega)
 have n1:=Int.emod_lt_of_pos v (show(0:Int) < ((far + 1:Nat):Int) by omega)
 obtain⟨r,hr⟩:∃ r:Nat,v % ((far + 1:Nat):Int)=(r:Int):=⟨(v % ((far + 1:Nat):Int)).toNat,by omega⟩
 rw[hr] at t n1;have k1:=k.setp hpq (v / ((far + 1:Nat):Int));have p1:lstAt (S.set p (.lst [.int (v / ((far + 1:Nat):Int))])) p=some [.int (v / ((far + 1:Nat):Int))]:=set_lst (lst_lt hv);generalize S.set p (.lst [.int (v / ((far + 1:Nat):Int))])=S1 at t k1 p1;generalize v / ((far + 1:Nat):Int)=v1 at p1;have he:evs F G (.cons (.var 6) (.cons (tk (.bin .add (.var 6) one)) (.cons (.var 6) .nil))) [some (.ref p),some (.int kd),some (.ref q),some (.int pl),some (.int sp),some (.int wy),some (.int far),x7] S=.ok [.int far,.int r,.int far] S1:=by
  simp only[tk,one,evs,ev,gZ0,gS0,Rk0,bin_add,ef,t]
 obtain⟨d,md,ed⟩:=pick (G:=G) hT (q:=0) (c:=3) (p:=p) (v:=v1) he rfl (by decide) (by show 3<=big; decide) d3 rfl p1
 have hd:∃ n:Nat,d=.int n/\n<=far:=by
  simp only[List.mem_cons,List.not_mem_nil,or_false] at md;rcases md with rfl | rfl | rfl
  ·exact⟨far,rfl,Nat.le_refl _⟩
  ·exact⟨r,rfl,by omega⟩
  ·exact⟨far,rfl,Nat.le_refl _⟩
 obtain⟨n,rfl,hn⟩:=hd;exact⟨n,_,hn,k1.app.setp hpq _,asg_v ed⟩
end
end K42
end
section
set_option exponentiation.threshold 3000
namespace K42
open PySem Z
section
variable{F:Fn}{p q kd pl sp wy:Nat}{S0 S:Sto}{l:List Int}{x6 x7:Option D}
theorem idx_nat{S:Sto}{q k:Nat}{xs:List D}(h:lstAt S q=some xs)(hk:k < xs.length):idxR (.ref q) (.int k) S=.ok xs[k] S:=by
 have e:ixN xs.length (k:Int)=some k:=by
  unfold ixN;rw[if_pos (by omega),if_pos (by omega)]
  simp
 simp only[idxR,idxD,seqD,h,Option.bind_some,e,List.getElem?_eq_getElem hk]
noncomputable def spE:Exs:=.cons (.bin .add (.var 6) one) (.cons (.neg one) (.cons (.bin .add (p10 12) one) (.cons (p10 59) (.cons (.cst (.int 0)) (.cons (.bin .sub (.cst (.int 0)) (.var 6)) .nil)))))
noncomputable def B4:St:=.ite (.cmp .eq (.var 3) (.var 4)) (.cons (.asg (.var 7) (.idx (.lst spE) (.var 5))) .nil) .nil
theorem six_big(ds:List D)(S:Sto)(h:ds.length=6):(if ds.length<=big then R.ok (D.ref S.length) (S++[.lst ds]) else R.bad)=R.ok (D.ref S.length) (S++[.lst ds]):=if_pos (by rw[h]; decide)
theorem b4_ok(k:Kq p q S0 l S){far num:Nat}(hf:far + 1<=mx)(hn:num<=far)(hw:wy < 6):∃ (m:Int) (S':Sto),m.natAbs<=mx/\Kq p q S0 l S' /\
  exe F G B4 [some (.ref p),some (.int kd),some (.ref q),some (.int pl),some (.int sp),some (.int wy),some (.int far),some (.int num)] S=.ok (.nx [some (.ref p),some (.int kd),some (.ref q),some (.int pl),some (.int sp),some (.int wy),some (.int far),some (.int m)]) S':=by
 have hc:ev F G (.cmp .eq (.var 3) (.var 4)) [some (.ref p),some (.int kd),some (.ref q),some (.int pl),some (.int sp),some (.int wy),some (.int far),some (.int num)] S=.ok (.bl ((pl:Int) == (sp:Int))) S:=by
  simp only[ev,gZ0,gS0,Rk0,eq_int]
 cases b:((pl:Int) == (sp:Int)) with
 | false=>rw[b] at hc; exact⟨num,S,by omega,k,if_pass hc⟩
 | true =>
  rw[b] at hc;have he:evs F G spE [some (.ref p),some (.int kd),some (.ref q),some (.int pl),some (.int sp),some (.int wy),some (.int far),some (.int num)] S=.ok [.int ((far:Int) + 1),.int (-1),.int (e12 + 1),.int e59,.int 0,.int (0 - (far:Int))] S:=by
   simp only[spE,p10,evs,ev,one,gZ0,gS0,Rk0,bin_add,bin_sub,pw12,pw59]
  have hl:ev F G (.lst spE) [some (.ref p),some (.int kd),some (.ref q),some (.int pl),some (.int sp),some (.int wy),some (.int far),some (.int num)] S=.ok (.ref S.length) (S++[.lst [.int ((far:Int) + 1),.int (-1),.int (e12 + 1),.int e59,.int 0,.int (0 - (far:Int))]]):=by
   rw[ev,he,Rk0,six_big _ _ rfl]
  have hi:=idx_nat (S:=S++[.lst [.int ((far:Int) + 1),.int (-1),.int (e12 + 1),.int e59,.int 0,.int (0 - (far:Int))]]) (q:=S.length) (k:=wy) last_lst (by simpa using hw)
  have m1:=mx_12;have m2:=mx_59;have hm:∃ m:Int,([D.int ((far:Int) + 1),.int (-1),.int (e12 + 1),.int e59,.int 0,.int (0 - (far:Int))]:List D)[wy]'(by simpa using hw)=.int m/\m.natAbs<=mx:=by
   rw[e12_eq]
   match wy,hw with
   | 0,_=>exact⟨_,rfl,by omega⟩
   | 1,_=>exact⟨_,rfl,by omega⟩
   | 2,_=>exact⟨_,rfl,by omega⟩
   | 3,_=>exact⟨_,rfl,by omega⟩
   | 4,_=>exact⟨_,rfl,by omega⟩
   | 5,_=>exact⟨_,rfl,by omega⟩
  obtain⟨m,e1,e2⟩:=hm;rw[e1] at hi;refine⟨m,_,e2,k.app (X:=[.lst [.int ((far:Int) + 1),.int (-1),.int (e12 + 1),.int e59,.int 0,.int (0 - (far:Int))]]),?_⟩;have ha:exe F G (.asg (.var 7) (.idx (.lst spE) (.var 5))) [some (.ref p),some (.int kd),some (.ref q),some (.int pl),some (.int sp),some (.int wy),some (.int far),some (.int num)] S=.ok (.nx [some (.ref p),some (.int kd),some (.ref q),some (.int pl),some (.int sp),some (.int wy),some (.int far),some (.int m)]) (S++[.lst [.int ((far:Int) + 1),.int (-1),.int (e12 + 1),.int e59,.int 0,.int (0 - (far:Int))]]):=asg_v (by
   rw[ev,hl,Rk0];simp only[ev,gZ0,gS0,Rk0,hi])
  unfold B4;rw[exe,hc,Rk0];simp only[truD];rw[exes_nx ha,exes]
noncomputable def inE(x:Ex):Ex:=.chn .le .le (.cst (.int 0)) x (p10 12)
theorem in_ev{x:Ex}{m:Int}{env:En}{S:Sto}(h:ev F G x env S=.ok (.int m) S):ev F G (inE x) env S=.ok (.bl (decide (0<=m) && decide (m<=e12))) S:=by
 unfold inE;rw[ev];simp only[ev,Rk0,h,cmpD];cases decide (0<=m) with
 | true=>simp only[p10,ev,Rk0,pw12,cmpR,cmpD,Bool.true_and]
 | false=>simp only[Bool.false_and]
theorem app_ev{e:Ex}{env:En}{q:Nat}{y:D}{S S':Sto}(h2:env[2]?=some (some (.ref q)))(hv:ev F G e env S=.ok y S)(hrc:rcvOk .append (.ref q) S=true)(hap:mthD .append (.ref q) [y] S=.ok .non S'):exe F G (.expr (.mth .append (.var 2) (.cons e .nil))) env S=.ok (.nx env) S':=by
 simp only[exe,ev,evs,h2,Rk0,hrc,if_true,hv,hap]
noncomputable def c5:Ex:=.or (inE (.var 7)) (.cmp .eq (.var 3) (.var 4))
noncomputable def B5:St:=.expr (.mth .append (.var 2) (.cons (.ite c5 (.var 7) (p10 12)) .nil))
theorem b5_ok(hpq:q≠p)(hq:S0.length<=q)(k:Kq p q S0 l S){far:Nat}{m:Int}(hm:m.natAbs<=mx)(hl:l.length<=20):∃ (y:Int) (S':Sto),y.natAbs<=mx/\Kq p q S0 (l++[y]) S' /\
  exe F G B5 [some (.ref p),some (.int kd),some (.ref q),some (.int pl),some (.int sp),some (.int wy),some (.int far),some (.int m)] S=.ok (.nx [some (.ref p),some (.int kd),some (.ref q),some (.int pl),some (.int sp),some (.int wy),some (.int far),some (.int m)]) S':=by
 have h1:=in_ev (F:=F) (x:=.var 7) (m:=m) (env:=[some (.ref p),some (.int kd),some (.ref q),some (.int pl),some (.int sp),some (.int wy),some (.int far),some (.int m)]) (S:=S) (by simp only[ev,gZ0,gS0])
 have h2:ev F G (.cmp .eq (.var 3) (.var 4)) [some (.ref p),some (.int kd),some (.ref q),some (.int pl),some (.int sp),some (.int wy),some (.int far),some (.int m)] S=.ok (.bl ((pl:Int) == (sp:Int))) S:=by
  simp only[ev,gZ0,gS0,Rk0,eq_int]
 have hc:=or_bl h1 h2;have hv:∃ y:Int,y.natAbs<=mx/\ev F G (.ite c5 (.var 7) (p10 12)) [some (.ref p),some (.int kd),some (.ref q),some (.int pl),some (.int sp),some (.int wy),some (.int far),some (.int m)] S=.ok (.int y) S:=by
  generalize ((decide (0<=m) && decide (m<=e12)) || ((pl:Int) == (sp:Int)))=b at hc;cases b with
  | true =>
   refine⟨m,hm,?_⟩;unfold c5;rw[ev,hc,Rk0];simp only[truD,ev,gZ0,gS0]
  | false =>
   have m1:=mx_12;refine⟨e12,by rw[e12_eq]; omega,?_⟩
   unfold c5;rw[ev,hc,Rk0];simp only[truD,p10,ev,Rk0,pw12]
 obtain⟨y,y1,y2⟩:=hv;have hap:=app_lst (x:=.int y) k.row (by simp; omega)
 have hrc:rcvOk .append (.ref q) S=true:=by simp only[rcvOk,k.row,Option.isSome_some]
 have em:l.map D.int++[D.int y]=(l++[y]).map D.int:=by simp
 rw[em] at hap;refine⟨y,_,y1,k.setq (l':=l++[y]) hpq hq,?_⟩;exact app_ev rfl y2 hrc hap
noncomputable def c6:Ex:=.not (inE (.idx (.var 2) (.neg one)))
noncomputable def retE:Ex:=.blt .tuple (.cons (.bin .add (.var 2) (.sli (.lst (.cons (.cst (.int 0)) (.cons (.cst (.int 1)) .nil))) .none (.some (tk (.cst (.int 2)))))) .nil)
noncomputable def B6:St:=.ite c6 (.cons (.ret retE) .nil) .nil
theorem cut_two(t:Nat):cut [D.int 0,.int 1] none (some (t:Int))=([(0:Int),1].take t).map D.int:=by
 have h1:clip 2 0 none=0:=rfl;have h2:clip 2 2 (some (t:Int))=min t 2:=by
  unfold clip;simp only;split <;> omega
 unfold cut;simp only[List.length_cons,List.length_nil,Nat.zero_add,h1,h2,List.drop_zero,Nat.sub_zero]
 match t with
 | 0=>rfl
 | 1=>rfl
 | t + 2 =>
  have:min (t + 2) 2=2:=by omega
  rw[this];simp
theorem ret_ev(hT:Takes F 17)(hpq:q≠p)(k:Kq p q S0 l S)(hl:l.length<=20){env:En}(h0:env[0]?=some (some (.ref p)))(h2:env[2]?=some (some (.ref q))):∃ (t:Nat) (S':Sto),t<=1/\Kq p q S0 l S'/\ev F G retE env S=.ok (tupI (l++[(0:Int),1].take t)) S':=by
 have k1:=k.app (X:=[.lst [.int 0,.int 1]]);obtain⟨v,hv⟩:=k1.pot;have tk2:=hT p v 2 (S++[.lst [.int 0,.int 1]]) hv (by decide) d2
 have n0:=Int.emod_nonneg v (show(2:Int)≠0 by decide)
 have n1:=Int.emod_lt_of_pos v (show(0:Int) < 2 by decide)
 obtain⟨t,ht⟩:∃ t:Nat,v % 2=(t:Int):=⟨(v % 2).toNat,by omega⟩
 rw[ht] at tk2;have k2:=k1.setp hpq (v / 2);have q0:lstAt (S++[O.lst [.int 0,.int 1]]) S.length=some [.int 0,.int 1]:=last_lst;have hne:S.length≠p:=by obtain⟨u,hu⟩:=k.pot; have:=lst_lt hu; omega
 have q1:lstAt ((S++[O.lst [.int 0,.int 1]]).set p (.lst [.int (v / 2)])) S.length=some [.int 0,.int 1]:=Ext.lst (Ext.set (p:=p)) hne q0;generalize (S++[O.lst [.int 0,.int 1]]).set p (.lst [.int (v / 2)])=S2 at tk2 k2 q1;have hs:sliD (.ref S.length) none (some (t:Int)) S2=.ok (.ref S2.length) (S2++[.lst (([(0:Int),1].take t).map D.int)]):=by
  simp only[sliD,q1,cut_two]
 have k3:=k2.app (X:=[.lst (([(0:Int),1].take t).map D.int)]);have ha:=add_lst k3.row last_lst (by simp; omega)
 have em:l.map D.int++([(0:Int),1].take t).map D.int=(l++[(0:Int),1].take t).map D.int:=by simp
 rw[em] at ha;refine⟨t,_,by omega,k3.app (X:=[.lst ((l++[(0:Int),1].take t).map D.int)]),?_⟩
 have hl2:ev F G (.lst (.cons (.cst (.int 0)) (.cons (.cst (.int 1)) .nil))) env S=.ok (.ref S.length) (S++[.lst [.int 0,.int 1]]):=by
  simp only[ev,evs,Rk0,two_bigL]
 have hsl:ev F G (.sli (.lst (.cons (.cst (.int 0)) (.cons (.cst (.int 1)) .nil))) .none (.some (tk (.cst (.int 2))))) env S=.ok (.ref S2.length) (S2++[.lst (([(0:Int),1].take t).map D.int)]):=by
  rw[ev,hl2,Rk0];simp only[tk,evo,ev,evs,h0,Rk0,tk2,optI,hs]
 have hb:ev F G (.bin .add (.var 2) (.sli (.lst (.cons (.cst (.int 0)) (.cons (.cst (.int 1)) .nil))) .none (.some (tk (.cst (.int 2)))))) env S=.ok (.ref (S2++[O.lst (([(0:Int),1].take t).map D.int)]).length) (S2++[.lst (([(0:Int),1].take t).map D.int)]++[.lst ((l++[(0:Int),1].take t).map D.int)]):=by
  rw[ev];simp only[ev,h2,Rk0] at hsl ⊢;rw[hsl];simp only[Rk0,ha]
 unfold retE;rw[ev,evs,hb,Rk0,evs,Rk0,Rk0];simp only[bltD,seqD,last_lst,tupI]
end
end K42
end
section
set_option exponentiation.threshold 3000
namespace K42
open PySem Z
section
variable{F:Fn}{p q kd pl sp wy:Nat}{S0 S:Sto}{l:List Int}{x6 x7:Option D}
def Rw(p:Nat)(S0:Sto)(r:D)(S:Sto):Prop:=∃ l:List Int,r=tupI l/\1<=l.length/\l.length<=13/\(∀ x∈l,x.natAbs<=mx)/\Ext p S0 S/\∃ v,lstAt S p=some [.int v]
noncomputable def loopB:Sts:=.cons B1 (.cons B2 (.cons B3 (.cons B4 (.cons B5 (.cons B6 .nil)))))
theorem in_mx{x:Int}(h:0<=x/\x<=1000000000000):x.natAbs<=mx:=by have:=mx_12; omega
theorem loop_one(hT:Takes F 17)(hN:NextF F 22 kd)(hpq:q≠p)(hq:S0.length<=q)(k:Kq p q S0 l S)(h1:1<=pl)(h2:pl<=11)(hl:l.length=pl)(hb:∀ x∈l,0<=x/\x<=1000000000000)(hw:wy < 6) :
  (∃ r S',exes F G loopB [some (.ref p),some (.int kd),some (.ref q),some (.int pl),some (.int sp),some (.int wy),x6,x7] S=.ok (.rt r) S'/\Rw p S0 r S') \/
  (∃ y x6' x7' S',exes F G loopB [some (.ref p),some (.int kd),some (.ref q),some (.int pl),some (.int sp),some (.int wy),x6,x7] S=.ok (.nx [some (.ref p),some (.int kd),some (.ref q),some (.int pl),some (.int sp),some (.int wy),x6',x7']) S'/\Kq p q S0 (l++[y]) S'/\0<=y/\y<=1000000000000):=by
 obtain⟨f1,S1,g1,k1,r1⟩:=b1_ok (F:=F) (kd:=kd) (pl:=pl) (sp:=sp) (wy:=wy) (x6:=x6) (x7:=x7) hT hpq k;obtain⟨f2,S2,g2,k2,r2⟩:=b2_ok (sp:=sp) (wy:=wy) (x7:=x7) hN k1 g1 h1 h2 hl hb;obtain⟨n3,S3,g3,k3,r3⟩:=b3_ok (F:=F) (kd:=kd) (pl:=pl) (sp:=sp) (wy:=wy) (x7:=x7) hT hpq k2 g2;obtain⟨m4,S4,g4,k4,r4⟩:=b4_ok (F:=F) (kd:=kd) (pl:=pl) (sp:=sp) (wy:=wy) k3 g2 g3 hw;obtain⟨y,S5,g5,k5,r5⟩:=b5_ok (F:=F) (kd:=kd) (pl:=pl) (sp:=sp) (wy:=wy) (far:=f2) hpq hq k4 g4 (by omega)
 have hlen:(l++[y]).length=pl + 1:=by simp[hl]
 have hi:=idx_last k5.row hlen;have hy:(l++[y]).getD pl 0=y:=by
  rw[<- hl];simp[List.getD]
 rw[hy] at hi;have hx:ev F G (.idx (.var 2) (.neg one)) [some (.ref p),some (.int kd),some (.ref q),some (.int pl),some (.int sp),some (.int wy),some (.int f2),some (.int m4)] S5=.ok (.int y) S5:=by
  rw[ev];simp only[ev,one,gZ0,gS0,Rk0,Int.neg_neg];exact hi
 have hc:=in_ev hx;have pre:∀ Z,exes F G loopB [some (.ref p),some (.int kd),some (.ref q),some (.int pl),some (.int sp),some (.int wy),x6,x7] S=Z ↔ exes F G (.cons B6 .nil) [some (.ref p),some (.int kd),some (.ref q),some (.int pl),some (.int sp),some (.int wy),some (.int f2),some (.int m4)] S5=Z:=fun Z=>by
  unfold loopB;rw[exes_nx r1,exes_nx r2,exes_nx r3,exes_nx r4,exes_nx r5]
 cases b:(decide (0<=y) && decide (y<=e12)) with
 | true =>
  rw[b] at hc;right;rw[bA0,decide_eq_true_eq,decide_eq_true_eq,e12_eq] at b;have hc6:ev F G c6 [some (.ref p),some (.int kd),some (.ref q),some (.int pl),some (.int sp),some (.int wy),some (.int f2),some (.int m4)] S5=.ok (.bl false) S5:=by
   unfold c6;rw[ev,hc,Rk0];simp only[truD,Bool.not_true]
  refine⟨y,some (.int f2),some (.int m4),S5,(pre _).mpr ?_,k5,b.1,b.2⟩;unfold B6;rw[exes_nx (if_pass hc6),exes]
 | false =>
  rw[b] at hc;left;have hc6:ev F G c6 [some (.ref p),some (.int kd),some (.ref q),some (.int pl),some (.int sp),some (.int wy),some (.int f2),some (.int m4)] S5=.ok (.bl true) S5:=by
   unfold c6;rw[ev,hc,Rk0];simp only[truD,Bool.not_false]
  obtain⟨t,S6,t1,k6,r6⟩:=ret_ev (F:=F) hT hpq k5 (by omega) (env:=[some (.ref p),some (.int kd),some (.ref q),some (.int pl),some (.int sp),some (.int wy),some (.int f2),some (.int m4)]) rfl rfl
  have ht:([(0:Int),1].take t).length<=1:=by rw[List.length_take]; omega
  refine⟨tupI (l++[y]++[(0:Int),1].take t),S6,(pre _).mpr ?_,l++[y]++[(0:Int),1].take t,rfl,by simp; omega,by rw[List.length_append]; omega,fun x hx=>?_,k6.ex,k6.pot⟩
  ·refine exes_rt ?_
   unfold B6;rw[exe,hc6,Rk0];simp only[truD];exact exes_rt (by rw[exe,r6]; rfl)
  ·rcases List.mem_append.mp hx with hx | hx
   ·rcases List.mem_append.mp hx with hx | hx
    ·exact in_mx (hb x hx)
    ·rw[List.mem_singleton.mp hx]; exact g5
   ·have:=List.mem_of_mem_take hx
    simp only[List.mem_cons,List.not_mem_nil,or_false] at this;rcases this with rfl | rfl
    ·exact in_mx (by omega)
    ·exact in_mx (by omega)
end
end K42
end
section
set_option exponentiation.threshold 3000
namespace K42
open PySem Z
section
variable{F:Fn}
noncomputable def R1:St:=.asg (.var 1) (.idx (.lst (.cons (.cst (.int 0)) (.cons (.cst (.int 2)) .nil))) (tk (.cst (.int 2))))
noncomputable def R2:St:=.par [4,5] (.cons (tk (.cst (.int 14))) (.cons (tk (.cst (.int 6))) .nil))
noncomputable def R3:St:=.asg (.var 2) (.lst (.cons one .nil))
noncomputable def R4:St:=.for (.var 3) (.rng (.cons one (.cons (.bin .add one (tk (.cst (.int 12)))) .nil))) loopB
noncomputable def zE:Exs:=.cons (.cst (.int 0)) (.cons (.cst (.int 2)) (.cons (.neg one) (.cons (p10 59) (.cons (p10 12) (.cons (.cst (.int 3)) .nil)))))
noncomputable def R5:St:=.ite (.cmp .eq (.var 4) (.cst (.int 0))) (.cons (.aset (.var 2) (.cst (.int 0)) (.idx (.lst zE) (.var 5))) .nil) .nil
noncomputable def R6:St:=.ret (.blt .tuple (.cons (.var 2) .nil))
theorem b_row_eq:b__law_row=.cons R1 (.cons R2 (.cons R3 (.cons R4 (.cons R5 (.cons R6 .nil))))):=rfl
theorem d14:divOk 14=true:=by decide +kernel
theorem d6:divOk 6=true:=by decide +kernel
theorem zs_ok{wy:Nat}(hw:wy < 6):∃ m:Int,([D.int 0,.int 2,.int (-1),.int e59,.int e12,.int 3]:List D)[wy]'(by simpa using hw)=.int m/\m.natAbs<=mx:=by
 have m1:=mx_12;have m2:=mx_59;rw[e12_eq]
 match wy,hw with
 | 0,_=>exact⟨_,rfl,by omega⟩
 | 1,_=>exact⟨_,rfl,by omega⟩
 | 2,_=>exact⟨_,rfl,by omega⟩
 | 3,_=>exact⟨_,rfl,by omega⟩
 | 4,_=>exact⟨_,rfl,by omega⟩
 | 5,_=>exact⟨_,rfl,by omega⟩
theorem aset_0{S:Sto}{q:Nat}{x:Int}{r:List Int}{v:Int}(h:lstAt S q=some ((x :: r).map D.int)):asetD (.ref q) (.int 0) (.int v) S=.ok () (S.set q (.lst ((v :: r).map D.int))):=by
 have h':lstM S q=some ((x :: r).map D.int):=h;have e:ixN ((x :: r).map D.int).length 0=some 0:=by
  unfold ixN;rw[if_pos (by decide),if_pos (by simp)]
  rfl
 simp only[asetD,h',e];rfl
theorem row_fin{p q kd sp wy:Nat}{S0 S:Sto}{l:List Int}{x3 x6 x7:Option D}(hpq:q≠p)(hq:S0.length<=q)(k:Kq p q S0 l S)(h1:1<=l.length)(h2:l.length<=12)(hb:∀ x∈l,0<=x/\x<=1000000000000)(hw:wy < 6) :
  ∃ r S',exes F G (.cons R5 (.cons R6 .nil)) [some (.ref p),some (.int kd),some (.ref q),x3,some (.int sp),some (.int wy),x6,x7] S=.ok (.rt r) S'/\Rw p S0 r S':=by
 have hc:ev F G (.cmp .eq (.var 4) (.cst (.int 0))) [some (.ref p),some (.int kd),some (.ref q),x3,some (.int sp),some (.int wy),x6,x7] S=.ok (.bl ((sp:Int) == 0)) S:=by
  simp only[ev,gZ0,gS0,Rk0,eq_int]
 have fin:∀ (l2:List Int) (S2:Sto),Kq p q S0 l2 S2->exe F G R6 [some (.ref p),some (.int kd),some (.ref q),x3,some (.int sp),some (.int wy),x6,x7] S2=.ok (.rt (tupI l2)) S2:=fun l2 S2 k2=>by
  unfold R6;simp only[exe,ev,evs,gZ0,gS0,Rk0,bltD,seqD,k2.row,tupI]
 cases b:((sp:Int) == 0) with
 | false =>
  rw[b] at hc;refine⟨tupI l,S,?_,l,rfl,h1,by omega,fun x hx=>in_mx (hb x hx),k.ex,k.pot⟩
  unfold R5;rw[exes_nx (if_pass hc)];exact exes_rt (fin l S k)
 | true =>
  rw[b] at hc;obtain⟨m,m1,m2⟩:=zs_ok hw;have he:evs F G zE [some (.ref p),some (.int kd),some (.ref q),x3,some (.int sp),some (.int wy),x6,x7] S=.ok [.int 0,.int 2,.int (-1),.int e59,.int e12,.int 3] S:=by
   simp only[zE,p10,evs,ev,one,Rk0,pw12,pw59]
  have hl:ev F G (.lst zE) [some (.ref p),some (.int kd),some (.ref q),x3,some (.int sp),some (.int wy),x6,x7] S=.ok (.ref S.length) (S++[.lst [.int 0,.int 2,.int (-1),.int e59,.int e12,.int 3]]):=by
   rw[ev,he,Rk0,six_big _ _ rfl]
  have hi:=idx_nat (S:=S++[.lst [.int 0,.int 2,.int (-1),.int e59,.int e12,.int 3]]) (q:=S.length) (k:=wy) last_lst (by simpa using hw)
  rw[m1] at hi;have k1:=k.app (X:=[.lst [.int 0,.int 2,.int (-1),.int e59,.int e12,.int 3]]);obtain⟨x,r,rfl⟩:∃ x r,l=x :: r:=by
   cases l with
   | nil=>simp at h1
   | cons x r=>exact⟨x,r,rfl⟩
  have ha:=aset_0 (v:=m) k1.row;have k2:=k1.setq (l':=m :: r) hpq hq;generalize S++[O.lst [.int 0,.int 2,.int (-1),.int e59,.int e12,.int 3]]=S1 at hl hi ha k2;have hix:ev F G (.idx (.lst zE) (.var 5)) [some (.ref p),some (.int kd),some (.ref q),x3,some (.int sp),some (.int wy),x6,x7] S=.ok (.int m) S1:=by
   rw[ev,hl,Rk0];simp only[ev,gZ0,gS0,Rk0,hi]
  have hs:exe F G (.aset (.var 2) (.cst (.int 0)) (.idx (.lst zE) (.var 5))) [some (.ref p),some (.int kd),some (.ref q),x3,some (.int sp),some (.int wy),x6,x7] S=.ok (.nx [some (.ref p),some (.int kd),some (.ref q),x3,some (.int sp),some (.int wy),x6,x7]) (S1.set q (.lst ((m :: r).map D.int))):=by
   rw[exe,hix,Rk0];simp only[ev,gZ0,gS0,Rk0,ha]
  refine⟨tupI (m :: r),_,?_,m :: r,rfl,by simp,by simp at h2 ⊢; omega,fun y hy=>?_,k2.ex,k2.pot⟩
  ·have h5:exe F G R5 [some (.ref p),some (.int kd),some (.ref q),x3,some (.int sp),some (.int wy),x6,x7] S=.ok (.nx [some (.ref p),some (.int kd),some (.ref q),x3,some (.int sp),some (.int wy),x6,x7]) (S1.set q (.lst ((m :: r).map D.int))):=by
    unfold R5;rw[exe,hc,Rk0];simp only[truD];rw[exes_nx hs,exes]
   exact(exes_nx h5).trans (exes_rt (fin (m :: r) _ k2))
  ·rcases List.mem_cons.mp hy with rfl | hy
   ·exact m2
   ·exact in_mx (hb y (List.mem_cons_of_mem _ hy))
theorem den_row{p:Nat}{v:Int}{S:Sto}(hT:Takes F 17)(hN:∀ kd,kd=0\/kd=2->NextF F 22 kd)(hp:lstAt S p=some [.int v]):∃ r S',den F G d__law_row [.ref p] S=.ok r S'/\Rw p S r S':=by
 have he:∀ env,evs F G (.cons (.cst (.int 0)) (.cons (.cst (.int 2)) .nil)) env S=.ok [.int 0,.int 2] S:=fun env=>by simp only[evs,ev,Rk0]
 obtain⟨d,md,ed⟩:=pick (G:=G) hT (q:=0) (c:=2) (p:=p) (v:=v) (env:=[some (.ref p),none,none,none,none,none,none,none]) (he _) rfl (by decide) (by show 2<=big; decide) d2 rfl hp
 have p1:=pot_after (ds:=[.int 0,.int 2]) (c:=2) hp;have x1:Ext p S ((S++[O.lst [.int 0,.int 2]]).set p (.lst [.int (v / 2)])):=Ext.app.trans .set;obtain⟨kd,rfl,hk⟩:∃ kd:Nat,d=.int kd/\(kd=0\/kd=2):=by
  simp only[List.mem_cons,List.not_mem_nil,or_false] at md;rcases md with rfl | rfl
  ·exact⟨0,rfl,.inl rfl⟩
  ·exact⟨2,rfl,.inr rfl⟩
 have s1:exe F G R1 [some (.ref p),none,none,none,none,none,none,none] S=.ok (.nx [some (.ref p),some (.int kd),none,none,none,none,none,none]) _:=asg_v ed;generalize (S++[O.lst [.int 0,.int 2]]).set p (.lst [.int (v / 2)])=S1 at s1 p1 x1;generalize v / 2=v1 at p1;have t2:=hT p v1 14 S1 p1 (by decide) d14
 have a0:=Int.emod_nonneg v1 (show(14:Int)≠0 by decide)
 obtain⟨sp,hsp⟩:∃ n:Nat,v1 % 14=(n:Int):=⟨(v1 % 14).toNat,by omega⟩
 rw[hsp] at t2;have p2:lstAt (S1.set p (.lst [.int (v1 / 14)])) p=some [.int (v1 / 14)]:=set_lst (lst_lt p1);have x2:Ext p S (S1.set p (.lst [.int (v1 / 14)])):=x1.trans .set;generalize S1.set p (.lst [.int (v1 / 14)])=S2 at t2 p2 x2;generalize v1 / 14=v2 at p2;have t3:=hT p v2 6 S2 p2 (by decide) d6
 have b0:=Int.emod_nonneg v2 (show(6:Int)≠0 by decide)
 have b1:=Int.emod_lt_of_pos v2 (show(0:Int) < 6 by decide)
 obtain⟨wy,hwy⟩:∃ n:Nat,v2 % 6=(n:Int):=⟨(v2 % 6).toNat,by omega⟩
 rw[hwy] at t3;have hw:wy < 6:=by omega
 have p3:lstAt (S2.set p (.lst [.int (v2 / 6)])) p=some [.int (v2 / 6)]:=set_lst (lst_lt p2);have x3:Ext p S (S2.set p (.lst [.int (v2 / 6)])):=x2.trans .set;generalize S2.set p (.lst [.int (v2 / 6)])=S3 at t3 p3 x3;generalize v2 / 6=v3 at p3;have s2:exe F G R2 [some (.ref p),some (.int kd),none,none,none,none,none,none] S1=.ok (.nx [some (.ref p),some (.int kd),none,none,some (.int sp),some (.int wy),none,none]) S3:=by
  unfold R2;rw[exe];simp only[tk,evs,ev,gZ0,Rk0,t2,t3];rfl
 have s3:exe F G R3 [some (.ref p),some (.int kd),none,none,some (.int sp),some (.int wy),none,none] S3=.ok (.nx [some (.ref p),some (.int kd),some (.ref S3.length),none,some (.int sp),some (.int wy),none,none]) (S3++[.lst [.int 1]]):=asg_v (by
  simp only[one,ev,evs,Rk0];exact if_pos (by show 1<=big; decide))
 have hpq:S3.length≠p:=by have:=lst_lt p3; omega
 have k3:Kq p S3.length S3 [1] (S3++[.lst [.int 1]]):=⟨.app,⟨v3,lst_app p3⟩,last_lst⟩;generalize hq:S3.length=q at s3 hpq k3;have hq':S3.length<=q:=Nat.le_of_eq hq;generalize S3++[O.lst [.int 1]]=S4 at s3 k3;obtain⟨v4,p4⟩:=k3.pot;have t5:=hT p v4 12 S4 p4 (by decide) d12
 have c0:=Int.emod_nonneg v4 (show(12:Int)≠0 by decide)
 have c1:=Int.emod_lt_of_pos v4 (show(0:Int) < 12 by decide)
 obtain⟨L,hL⟩:∃ L:Nat,1 + v4 % 12=(L:Int):=⟨(1 + v4 % 12).toNat,by omega⟩
 have k5:=k3.setp hpq (v4 / 12);generalize S4.set p (.lst [.int (v4 / 12)])=S5 at t5 k5;have hit:evit F G (.rng (.cons one (.cons (.bin .add one (tk (.cst (.int 12)))) .nil))) [some (.ref p),some (.int kd),some (.ref q),none,some (.int sp),some (.int wy),none,none] S4=.ok (.con ((List.range (L - 1)).map fun(k:Nat)=>D.int (1 + k))) S5 :=
  it_rng (ds:=[.int 1,.int L]) (by simp only[one,tk,evs,ev,gZ0,Rk0,t5,bin_add,hL]) (rng_from1 (by omega))
 have lp:=floop_any (get:=(Src.con ((List.range (L - 1)).map fun(k:Nat)=>D.int (1 + k))).get) (t:=.var 3) (body:=fun env S=>exes F G loopB env S) (xs:=(List.range (L - 1)).map fun(k:Nat)=>D.int (1 + k))
  (fun i e S'=>∃ l x3 x6 x7,e=[some (.ref p),some (.int kd),some (.ref q),x3,some (.int sp),some (.int wy),x6,x7]/\Kq p q S3 l S'/\l.length=i + 1/\∀ x∈l,0<=x/\x<=1000000000000) (Rw p S3) (fun i S=>rfl)
  (fun i d e S' hd hP=>by
   obtain⟨l,y3,y6,y7,rfl,kk,hl,hb⟩:=hP;have hi:i < L - 1:=by have:=(List.getElem?_eq_some_iff.mp hd).1; simpa using this
   have hd2:d=.int ((i + 1:Nat):Int):=by
    simp only[List.getElem?_map,List.getElem?_range hi,Option.map_some,Option.some.injEq] at hd;have e:(1 + (i:Int))=((i + 1:Nat):Int):=by omega
    rw[<- hd,e]
   subst hd2;refine⟨[some (.ref p),some (.int kd),some (.ref q),some (.int ((i + 1:Nat):Int)),some (.int sp),some (.int wy),y6,y7],rfl,?_⟩;rcases loop_one (F:=F) (sp:=sp) (x6:=y6) (x7:=y7) (pl:=i + 1) hT (hN kd hk) hpq hq' kk (by omega) (by omega) hl hb hw with⟨r,S2,r1,r2⟩ | ⟨y,z6,z7,S2,r1,r2,r3,r4⟩
   ·exact .inl ⟨r,S2,r1,r2⟩
   ·refine .inr ⟨_,S2,r1,l++[y],_,z6,z7,rfl,r2,by simp[hl],fun x hx=>?_⟩
    rcases List.mem_append.mp hx with hx | hx
    ·exact hb x hx
    ·rw[List.mem_singleton.mp hx]; exact⟨r3,r4⟩)
  (L - 1 + 1) 0 [some (.ref p),some (.int kd),some (.ref q),none,some (.int sp),some (.int wy),none,none] S5 (by simp) (Nat.zero_le _) ⟨[1],none,none,none,rfl,k5,rfl,fun x hx=>by rw[List.mem_singleton.mp hx]; omega⟩
 have hfor:exe F G R4 [some (.ref p),some (.int kd),some (.ref q),none,some (.int sp),some (.int wy),none,none] S4=floop (Src.con ((List.range (L - 1)).map fun(k:Nat)=>D.int (1 + k))).get (.var 3) (fun env S=>exes F G loopB env S) (L - 1 + 1) 0 [some (.ref p),some (.int kd),some (.ref q),none,some (.int sp),some (.int wy),none,none] S5:=by
  unfold R4;simp only[exe,hit,Rk0,Src.most,List.length_map,List.length_range]
 have up:∀ r S',Rw p S3 r S'->Rw p S r S':=fun r S' ⟨l,w1,w2,w3,w4,w5,w6⟩=>⟨l,w1,w2,w3,w4,x3.trans w5,w6⟩
 have go:∃ r S',exes F G b__law_row [some (.ref p),none,none,none,none,none,none,none] S=.ok (.rt r) S'/\Rw p S r S':=by
  rw[b_row_eq,exes_nx s1,exes_nx s2,exes_nx s3];rcases lp with⟨r,S',r1,r2⟩ | ⟨e',S',r1,l,y3,y6,y7,rfl,kk,hl,hb⟩
  ·exact⟨r,S',exes_rt (hfor.trans r1),up r S' r2⟩
  ·have hll:l.length=L - 1 + 1:=by simpa using hl
   obtain⟨r,S'',f1,f2⟩:=row_fin (F:=F) (kd:=kd) (sp:=sp) (x3:=y3) (x6:=y6) (x7:=y7) hpq hq' kk (by omega) (by omega) hb hw
   exact⟨r,S'',(exes_nx (hfor.trans r1)).trans f1,up r S'' f2⟩
 obtain⟨r,S',g1,g2⟩:=go;exact⟨r,S',den_rt rfl rfl g1,g2⟩
end
end K42
end
section
set_option exponentiation.threshold 3000
namespace K42
open PySem Z
section
variable{F:Fn}
noncomputable def mixT:Ex:=.bin .add (.bin .add (.sli (.var 3) .none (.some (.var 4))) (.tup (.cons (.var 5) .nil))) (.sli (.var 3) (.some (.bin .add (.var 4) one)) .none)
noncomputable def ones:Ex:=.bin .mul (.tup (.cons one .nil)) (.cst (.int 13))
noncomputable def nineT:Exs:=.cons (.var 3) (.cons mixT (.cons ones (.cons (.tup .nil) (.cons (.blt .list (.cons (.var 3) .nil)) (.cons (.cst .non) (.cons (.tup (.cons (.var 3) .nil)) (.cons (.sli (.var 3) .none (.some one)) (.cons (.tup (.cons one (.cons (.cst (.int 0)) (.cons one .nil)))) .nil))))))))
noncomputable def threeT:Exs:=.cons (.tup (.cons one (.cons (.cst (.int 2)) (.cons (.cst (.int 4)) (.cons (.cst (.int 99)) .nil))))) (.cons (.tup (.cons one (.cons (.cst (.int 0)) (.cons one (.cons (.cst (.int 9)) .nil))))) (.cons (.tup (.cons (.cst (.int 2)) (.cons one (.cons (.cst (.int 9)) .nil)))) .nil))
noncomputable def oddE:Exs:=.cons (.cst (.bl true)) (.cons (.cst (.bl false)) (.cons (.cst .non) (.cons (.cst (.str "1")) (.cons (.tup (.cons one .nil)) (.cons (.lst (.cons one .nil)) .nil)))))
noncomputable def L1:St:=.asg (.var 2) (.call 16 (.cons (.call 15 (.cons (.var 0) (.cons (.var 1) .nil))) .nil))
noncomputable def L2:St:=.asg (.var 3) (.call 26 (.cons (.var 2) .nil))
noncomputable def L3:St:=.asg (.var 4) (.call 17 (.cons (.var 2) (.cons (.blt .len (.cons (.var 3) .nil)) .nil)))
noncomputable def L4:St:=.asg (.var 5) (.idx (.lst oddE) (.call 17 (.cons (.var 2) (.cons (.cst (.int 6)) .nil))))
noncomputable def L5:St:=.asg (.var 6) (.lst nineT)
noncomputable def L6:St:=.asg (.var 6) (.bin .add (.var 6) (.lst threeT))
noncomputable def L7:St:=.for (.var 7) (.val (.var 6)) bodyT
noncomputable def bodyL:Sts:=.cons L1 (.cons L2 (.cons L3 (.cons L4 (.cons L5 (.cons L6 (.cons L7 .nil))))))
noncomputable def fin:Sts:=.cons (.ret (.cst (.bl true))) .nil
theorem b_law_eq:b_law=.cons (.for (.var 1) (.rng (.cons (.blt .max (.cons (.cst (.int 1)) (.cons (.blt .min (.cons (.blt .len (.cons (.var 0) .nil)) (.cons (.cst (.int 6)) .nil))) .nil))) .nil)) bodyL) fin:=rfl
noncomputable def oddD(q:Nat):List D:=[.bl true,.bl false,.non,.str "1",.tup [.int 1],.ref q]
theorem evs_oddT(env:En)(S:Sto):evs F G oddE env S=.ok (oddD S.length) (S++[.lst [.int 1]]):=by
 have h1:([D.int 1]:List D).length<=big:=by decide
 unfold oddE oddD;simp only[one,evs,ev,Rk0,h1,if_true]
theorem el_oddT{p:Nat}{S:Sto}(hp:p < S.length):∀ d∈oddD S.length,El p (S++[.lst [.int 1]]) d:=by
 intro d hd;have a1:lstAt (S++[O.lst [.int 1]]) S.length=some [.int 1]:=last_lst;have i1:FSm 0 1921 (.int 1):=fs_int (by decide)
 have one:∀ {x y:D},x∈[y]->x=y:=fun h=>List.mem_singleton.mp h
 unfold oddD at hd;simp only[List.mem_cons,List.not_mem_nil,or_false] at hd;rcases hd with rfl | rfl | rfl | rfl | rfl | rfl
 ·exact el_flat fs_bl (by omega) (by omega)
 ·exact el_flat fs_bl (by omega) (by omega)
 ·exact el_flat fs_non (by omega) (by omega)
 ·exact el_flat (fs_str (by decide +kernel)) (by omega) (by omega)
 ·exact el_flat (fs_one i1) (by omega) (by omega)
 ·exact el_lst (by omega) a1 (fun x hx=>by rw[one hx]; exact i1) (by omega) (by decide)
noncomputable def things(l:List Int)(a:Nat)(od:D)(q:Nat):List D:=[tupI l,mixD l a (a + 1) od,tupI (List.replicate 13 [(1:Int)]).flatten,.tup [],.ref q,.non,.tup [tupI l],tupI (l.take 1),tupI [1,0,1]]
theorem tup_ev{es:Exs}{ds:List D}{env:En}{S:Sto}(h:evs F G es env S=.ok ds S)(hl:ds.length<=100):ev F G (.tup es) env S=.ok (.tup ds) S:=by
 rw[ev,h,Rk0];exact if_pos (le_big (by omega))
theorem evs_nineT{l:List Int}{a:Nat}{od:D}{a0 a1 a2 a6 a7 a8 a9:Option D}{S:Sto}(hl:l.length<=13) :
  evs F G nineT [a0,a1,a2,some (tupI l),some (.int a),some od,a6,a7,a8,a9] S=.ok (things l a od S.length) (S++[.lst (l.map D.int)]):=by
 have e1:∀ S,ev F G (.var 3) [a0,a1,a2,some (tupI l),some (.int a),some od,a6,a7,a8,a9] S=.ok (tupI l) S:=fun S=>by simp only[ev,gZ0,gS0]
 have ea:(a:Int) + 1=((a + 1:Nat):Int):=by omega
 have e2:∀ S,ev F G mixT [a0,a1,a2,some (tupI l),some (.int a),some od,a6,a7,a8,a9] S=.ok (mixD l a (a + 1) od) S:=fun S=>ev_mix (ir:=3) (ia:=4) (e:=.var 5) (eb:=.bin .add (.var 4) one) rfl rfl (by simp only[ev,gZ0,gS0]) (by simp only[one,ev,gZ0,gS0,Rk0,bin_add,ea]) (by omega)
 have e3:∀ S,ev F G ones [a0,a1,a2,some (tupI l),some (.int a),some od,a6,a7,a8,a9] S=.ok (tupI (List.replicate 13 [(1:Int)]).flatten) S:=fun S=>by
  have ht:ev F G (.tup (.cons one .nil)) [a0,a1,a2,some (tupI l),some (.int a),some od,a6,a7,a8,a9] S=.ok (tupI [1]) S:=tup_ev (ds:=[.int 1]) (by simp only[one,evs,ev,Rk0]) (by simp)
  have hr:=rep_tup (l:=[1]) (S:=S) (by simp) (by simp)
  unfold ones;rw[ev,ht,Rk0];simp only[ev,Rk0,hr]
 have e4:∀ S,ev F G (.tup .nil) [a0,a1,a2,some (tupI l),some (.int a),some od,a6,a7,a8,a9] S=.ok (.tup []) S:=fun S=>tup_ev (ds:=[]) (by simp only[evs]) (by simp)
 have e5:ev F G (.blt .list (.cons (.var 3) .nil)) [a0,a1,a2,some (tupI l),some (.int a),some od,a6,a7,a8,a9] S=.ok (.ref S.length) (S++[.lst (l.map D.int)]):=by
  simp only[ev,evs,gZ0,gS0,Rk0,tupI,bltD,seqD]
 have e6:∀ S,ev F G (.cst .non) [a0,a1,a2,some (tupI l),some (.int a),some od,a6,a7,a8,a9] S=.ok .non S:=fun S=>by simp only[ev]
 have e7:∀ S,ev F G (.tup (.cons (.var 3) .nil)) [a0,a1,a2,some (tupI l),some (.int a),some od,a6,a7,a8,a9] S=.ok (.tup [tupI l]) S:=fun S=>tup_ev (ds:=[tupI l]) (by simp only[evs,e1,Rk0]) (by simp)
 have e8:∀ S,ev F G (.sli (.var 3) .none (.some one)) [a0,a1,a2,some (tupI l),some (.int a),some od,a6,a7,a8,a9] S=.ok (tupI (l.take 1)) S:=fun S=>by
  have hs:=sli_tupI l 1 S;simp only[one,ev,evo,gZ0,gS0,Rk0,optI];exact hs
 have e9:∀ S,ev F G (.tup (.cons one (.cons (.cst (.int 0)) (.cons one .nil)))) [a0,a1,a2,some (tupI l),some (.int a),some od,a6,a7,a8,a9] S=.ok (tupI [1,0,1]) S:=fun S=>tup_ev (ds:=[.int 1,.int 0,.int 1]) (by simp only[one,evs,ev,Rk0]) (by simp)
 unfold nineT things;rw[evs,e1,Rk0,evs,e2,Rk0,evs,e3,Rk0,evs,e4,Rk0,evs,e5,Rk0,evs,e6,Rk0,evs,e7,Rk0,evs,e8,Rk0,evs,e9,Rk0,evs];simp only[Rk0]
theorem evs_threeT(env:En)(S:Sto):evs F G threeT env S=.ok [tupI [1,2,4,99],tupI [1,0,1,9],tupI [2,1,9]] S:=by
 have e1:∀ S,ev F G (.tup (.cons one (.cons (.cst (.int 2)) (.cons (.cst (.int 4)) (.cons (.cst (.int 99)) .nil))))) env S=.ok (tupI [1,2,4,99]) S:=fun S=>tup_ev (ds:=[.int 1,.int 2,.int 4,.int 99]) (by simp only[one,evs,ev,Rk0]) (by simp)
 have e2:∀ S,ev F G (.tup (.cons one (.cons (.cst (.int 0)) (.cons one (.cons (.cst (.int 9)) .nil))))) env S=.ok (tupI [1,0,1,9]) S:=fun S=>tup_ev (ds:=[.int 1,.int 0,.int 1,.int 9]) (by simp only[one,evs,ev,Rk0]) (by simp)
 have e3:∀ S,ev F G (.tup (.cons (.cst (.int 2)) (.cons one (.cons (.cst (.int 9)) .nil)))) env S=.ok (tupI [2,1,9]) S:=fun S=>tup_ev (ds:=[.int 2,.int 1,.int 9]) (by simp only[one,evs,ev,Rk0]) (by simp)
 unfold threeT;rw[evs,e1,Rk0,evs,e2,Rk0,evs,e3,Rk0,evs];simp only[Rk0]
end
end K42
end
section
set_option exponentiation.threshold 3000
namespace K42
open PySem Z
theorem nums_small{l:List Int}(h:∀ x∈l,x.natAbs<=mx):Nums l:=fun x hx=>mx_log (h x hx)
theorem kp_things{p q a:Nat}{S:Sto}{l:List Int}{od:D}(h:∀ x∈l,x.natAbs<=mx)(hl:l.length<=13)(ha:a < l.length)(ho:El p S od)(hq:q≠p)(hr:lstAt S q=some (l.map D.int)):∀ d∈things l a od q,Kp p S d:=by
 have hn:=nums_small h;have hfl:∀ x∈l.map D.int,FSm 0 1921 x:=fun x hx=>by
  obtain⟨i,hi,rfl⟩:=List.mem_map.mp hx;exact fs_int (hn i hi)
 intro d hd;unfold things at hd;simp only[List.mem_cons,List.not_mem_nil,or_false] at hd;rcases hd with rfl | rfl | rfl | rfl | rfl | rfl | rfl | rfl | rfl
 ·exact kp_row hn hl
 ·refine kp_tup (fun x hx=>?_) (by simp; omega)
  simp only[List.mem_append,List.mem_map,List.mem_singleton] at hx;rcases hx with(⟨i,hi,rfl⟩ | rfl) | ⟨i,hi,rfl⟩
  ·exact el_int (hn i (List.mem_of_mem_take hi))
  ·exact ho
  ·exact el_int (hn i (List.mem_of_mem_drop hi))
 ·refine kp_row (fun x hx=>?_) (by decide)
  obtain⟨u,hu,hx⟩:=List.mem_flatten.mp hx;rw[(List.mem_replicate.mp hu).2] at hx;rw[List.mem_singleton.mp hx]
  decide
 ·exact kp_tup (fun x hx=>by cases hx) (by simp)
 ·exact kp_lst hq hr hfl (by omega) (by rw[List.length_map]; omega)
 ·exact kp_el (el_flat fs_non (by omega) (by omega)) (fun xs z=>by cases z)
 ·refine kp_tup (fun x hx=>?_) (by show 1<=13; decide)
  rw[List.mem_singleton.mp hx];exact el_flat ((fs_tup hfl).mono (Nat.le_refl _) (show _<=26000 by rw[List.length_map]; omega)) (by omega) (by omega)
 ·exact kp_row (fun x hx=>hn x (List.mem_of_mem_take hx)) (by rw[List.length_take]; omega)
 ·exact kp_row (fun x hx=>by
   simp only[List.mem_cons,List.not_mem_nil,or_false] at hx;rcases hx with rfl | rfl | rfl <;> decide) (by simp)
theorem kp_three{p:Nat}{S:Sto}:∀ d∈[tupI [1,2,4,99],tupI [1,0,1,9],tupI [2,1,9]],Kp p S d:=by
 intro d hd;simp only[List.mem_cons,List.not_mem_nil,or_false] at hd;have key:∀ l:List Int,(∀ x∈l,x.natAbs<=99)->l.length<=13->Kp p S (tupI l):=fun l h hl=>kp_row (fun x hx=>by
  have h1:=h x hx;have h2:=mx_12;exact mx_log (by omega)) hl
 rcases hd with rfl | rfl | rfl
 ·exact key _ (by decide) (by decide)
 ·exact key _ (by decide) (by decide)
 ·exact key _ (by decide) (by decide)
theorem takes(k:Nat):Takes (FT T G (k + 1)) 17:=takes_of t17 k
theorem t26:T[26]?=some d__law_row:=rfl
theorem row{p:Nat}{v:Int}{S:Sto}(hp:lstAt S p=some [.int v]):∃ r S',FT T G 12 26 [.ref p] S=.ok r S'/\Rw p S r S':=by
 obtain⟨r,S',h1,h2⟩:=den_row (F:=FT T G 11) (takes 10) (fun kd hk=>next 8 kd hk) hp
 exact⟨r,S',by rw[ftx t26]; exact h1,h2⟩
theorem divSmall{n:Nat}(h1:1<=n)(h2:n<=13):divOk (n:Int)=true:=by
 have:∀ j:Fin 14,1<=j.val->divOk ((j.val:Nat):Int)=true:=by decide +kernel
 exact this ⟨n,by omega⟩ h1
theorem turn(ns:List Int)(i:Nat)(a2 a3 a4 a5 a6 a7 a8 a9:Option D)(S:Sto) :
  ∃ e S',exes (FT T G 12) G bodyL [some (.fro (ns.map D.int)),some (.int i),a2,a3,a4,a5,a6,a7,a8,a9] S=.ok (.nx e) S'/\∃ b1 b2 b3 b4 b5 b6 b7 b8 b9,e=[some (.fro (ns.map D.int)),b1,b2,b3,b4,b5,b6,b7,b8,b9]:=by
 generalize hsc:some (D.fro (ns.map D.int))=sc;obtain⟨c,hc⟩:=den_cell (F:=FT T G 11) (G:=G) ns i S;obtain⟨v,hv⟩:=den_pot (F:=FT T G 11) (G:=G) c S;have f8:FT T G 12 15 [.fro (ns.map D.int),.int i] S=.ok (.int c) S:=hc;have f9:FT T G 12 16 [.int c] S=.ok (.ref S.length) (S++[.lst [.int v]]):=hv;have s1:exe (FT T G 12) G L1 [sc,some (.int i),a2,a3,a4,a5,a6,a7,a8,a9] S=.ok (.nx [sc,some (.int i),some (.ref S.length),a3,a4,a5,a6,a7,a8,a9]) (S++[.lst [.int v]]):=asg_v (by
  subst hsc;simp only[ev,evs,gZ0,gS0,Rk0,f8,f9])
 have p1:lstAt (S++[O.lst [.int v]]) S.length=some [.int v]:=last_lst;generalize S++[O.lst [.int v]]=S1 at s1 p1;generalize S.length=p at s1 p1;obtain⟨r,S2,f2,l,rfl,l1,l2,lb,x2,v2,p2⟩:=row p1;have s2:exe (FT T G 12) G L2 [sc,some (.int i),some (.ref p),a3,a4,a5,a6,a7,a8,a9] S1=.ok (.nx [sc,some (.int i),some (.ref p),some (tupI l),a4,a5,a6,a7,a8,a9]) S2:=asg_v (by
  simp only[ev,evs,gZ0,gS0,Rk0,f2])
 have hT:Takes (FT T G 12) 17:=takes 11;have t3:=hT p v2 (l.length:Nat) S2 p2 (by omega) (divSmall l1 l2)
 have n0:=Int.emod_nonneg v2 (show((l.length:Nat):Int)≠0 by omega)
 have n1:=Int.emod_lt_of_pos v2 (show(0:Int) < ((l.length:Nat):Int) by omega)
 obtain⟨a,ha⟩:∃ a:Nat,v2 % ((l.length:Nat):Int)=(a:Int):=⟨(v2 % ((l.length:Nat):Int)).toNat,by omega⟩
 rw[ha] at t3 n1;have hal:a < l.length:=by omega
 have s3:exe (FT T G 12) G L3 [sc,some (.int i),some (.ref p),some (tupI l),a4,a5,a6,a7,a8,a9] S2=.ok (.nx [sc,some (.int i),some (.ref p),some (tupI l),some (.int a),a5,a6,a7,a8,a9]) (S2.set p (.lst [.int (v2 / (l.length:Nat))])):=asg_v (by
  simp only[ev,evs,gZ0,gS0,Rk0,len_row,t3])
 have p3:lstAt (S2.set p (.lst [.int (v2 / (l.length:Nat))])) p=some [.int (v2 / (l.length:Nat))]:=set_lst (lst_lt p2);generalize S2.set p (.lst [.int (v2 / (l.length:Nat))])=S3 at s3 p3;generalize v2 / ((l.length:Nat):Int)=v3 at p3;obtain⟨od,mo,eo⟩:=pick (G:=G) hT (q:=2) (c:=6) (p:=p) (v:=v3) (env:=[sc,some (.int i),some (.ref p),some (tupI l),some (.int a),a5,a6,a7,a8,a9]) (evs_oddT _ S3) rfl (by decide) (by show 6<=big; decide) d6 rfl (lst_app p3)
 have p4:=pot_after (ds:=oddD S3.length) (c:=6) (lst_app (X:=[.lst [.int 1]]) p3);have o4:El p ((S3++[O.lst [.int 1]]++[O.lst (oddD S3.length)]).set p (.lst [.int (v3 / 6)])) od:=(el_oddT (lst_lt p3) od mo).mono (Ext.app.trans .set);have s4:exe (FT T G 12) G L4 [sc,some (.int i),some (.ref p),some (tupI l),some (.int a),a5,a6,a7,a8,a9] S3=.ok (.nx [sc,some (.int i),some (.ref p),some (tupI l),some (.int a),some od,a6,a7,a8,a9]) _:=asg_v eo;generalize (S3++[O.lst [.int 1]]++[O.lst (oddD S3.length)]).set p (.lst [.int (v3 / 6)])=S4 at s4 p4 o4;have h9:=evs_nineT (F:=FT T G 12) (l:=l) (a:=a) (od:=od) (a0:=sc) (a1:=some (.int i)) (a2:=some (.ref p)) (a6:=a6) (a7:=a7) (a8:=a8) (a9:=a9) (S:=S4) l2;have s5:exe (FT T G 12) G L5 [sc,some (.int i),some (.ref p),some (tupI l),some (.int a),some od,a6,a7,a8,a9] S4=.ok (.nx [sc,some (.int i),some (.ref p),some (tupI l),some (.int a),some od,some (.ref (S4++[O.lst (l.map D.int)]).length),a7,a8,a9]) (S4++[.lst (l.map D.int)]++[.lst (things l a od S4.length)]):=asg_v (by
  rw[ev,h9,Rk0];exact if_pos (by show 9<=big; decide))
 have hne:S4.length≠p:=by have:=lst_lt p4; omega
 have kt:=kp_things (p:=p) (q:=S4.length) (S:=S4++[.lst (l.map D.int)]) lb l2 hal (o4.mono .app) hne last_lst;have q5:lstAt (S4++[.lst (l.map D.int)]++[.lst (things l a od S4.length)]) (S4++[O.lst (l.map D.int)]).length=some (things l a od S4.length):=last_lst;have kt5:∀ d∈things l a od S4.length,Kp p (S4++[.lst (l.map D.int)]++[.lst (things l a od S4.length)]) d:=fun d hd=>(kt d hd).mono .app
 have hlen:(things l a od S4.length).length=9:=rfl;generalize things l a od S4.length=ts at s5 q5 kt5 hlen;generalize (S4++[O.lst (l.map D.int)]).length=q at s5 q5;generalize S4++[O.lst (l.map D.int)]++[O.lst ts]=S5 at s5 q5 kt5;have h3:=evs_threeT (F:=FT T G 12) [sc,some (.int i),some (.ref p),some (tupI l),some (.int a),some od,some (.ref q),a7,a8,a9] S5;have hadd:=add_lst (S:=S5++[.lst [tupI [1,2,4,99],tupI [1,0,1,9],tupI [2,1,9]]]) (a:=q) (b:=S5.length) (lst_app q5) last_lst (by rw[hlen]; decide)
 have hl3:ev (FT T G 12) G (.lst threeT) [sc,some (.int i),some (.ref p),some (tupI l),some (.int a),some od,some (.ref q),a7,a8,a9] S5=.ok (.ref S5.length) (S5++[.lst [tupI [1,2,4,99],tupI [1,0,1,9],tupI [2,1,9]]]):=by
  rw[ev,h3,Rk0];exact if_pos (by show 3<=big; decide)
 have s6:exe (FT T G 12) G L6 [sc,some (.int i),some (.ref p),some (tupI l),some (.int a),some od,some (.ref q),a7,a8,a9] S5=.ok (.nx [sc,some (.int i),some (.ref p),some (tupI l),some (.int a),some od,some (.ref (S5++[O.lst [tupI [1,2,4,99],tupI [1,0,1,9],tupI [2,1,9]]]).length),a7,a8,a9]) (S5++[.lst [tupI [1,2,4,99],tupI [1,0,1,9],tupI [2,1,9]]]++[.lst (ts++[tupI [1,2,4,99],tupI [1,0,1,9],tupI [2,1,9]])]):=asg_v (by
  rw[ev];simp only[ev,gZ0,gS0,Rk0] at hl3 ⊢;rw[hl3];simp only[Rk0,hadd])
 have kt6:∀ d∈ts++[tupI [1,2,4,99],tupI [1,0,1,9],tupI [2,1,9]],Thing (S5++[.lst [tupI [1,2,4,99],tupI [1,0,1,9],tupI [2,1,9]]]++[.lst (ts++[tupI [1,2,4,99],tupI [1,0,1,9],tupI [2,1,9]])]) d:=fun d hd=>by
  rcases List.mem_append.mp hd with hd | hd
  ·exact((kt5 d hd).mono (Ext.app.trans .app)).now
  ·exact(kp_three (p:=p) d hd).now
 have q6:lstAt (S5++[.lst [tupI [1,2,4,99],tupI [1,0,1,9],tupI [2,1,9]]]++[.lst (ts++[tupI [1,2,4,99],tupI [1,0,1,9],tupI [2,1,9]])]) (S5++[O.lst [tupI [1,2,4,99],tupI [1,0,1,9],tupI [2,1,9]]]).length=some (ts++[tupI [1,2,4,99],tupI [1,0,1,9],tupI [2,1,9]]):=last_lst;generalize (S5++[O.lst [tupI [1,2,4,99],tupI [1,0,1,9],tupI [2,1,9]]]).length=q2 at s6 q6;generalize hxs:ts++[tupI [1,2,4,99],tupI [1,0,1,9],tupI [2,1,9]]=xs at s6 kt6 q6;generalize S5++[.lst [tupI [1,2,4,99],tupI [1,0,1,9],tupI [2,1,9]]]++[.lst xs]=S6 at s6 kt6 q6;obtain⟨e7,S7,r7,b7,b8,b9,X,rfl,he⟩:=exe_lst (F:=FT T G 12) (G:=G) (t:=.var 7) (e0:=.var 6) (b:=bodyT) (xs:=xs) (r:=q2) (env:=[sc,some (.int i),some (.ref p),some (tupI l),some (.int a),some od,some (.ref q2),a7,a8,a9]) (S:=S6) (S1:=S6)
  (fun j e S'=>∃ b7 b8 b9 X,S'=S6++X/\e=[sc,some (.int i),some (.ref p),some (tupI l),some (.int a),some od,some (.ref q2),b7,b8,b9]) (by simp only[ev,gZ0,gS0]) q6
  (fun j e S' ⟨_,_,_,X,h,_⟩=>by rw[h]; exact lst_app q6) ⟨a7,a8,a9,[],by simp,rfl⟩
  (fun j d e S' hd hP=>by
   obtain⟨b7,b8,b9,X,rfl,rfl⟩:=hP;have td:=(kt6 d (List.mem_of_getElem? hd)).app (X:=X);obtain⟨c8,c9,Y,hb⟩:=thing_ok (a0:=sc) (a1:=some (.int i)) (a2:=some (.ref p)) (a3:=some (tupI l)) (a4:=some (.int a)) (a5:=some od) (a6:=some (.ref q2)) (a8:=b8) (a9:=b9) td;exact⟨_,_,_,rfl,hb,some d,c8,c9,X++Y,by rw[List.append_assoc],rfl⟩)
 subst he;refine⟨_,S6++X,?_,some (.int i),some (.ref p),some (tupI l),some (.int a),some od,some (.ref q2),b7,b8,b9,rfl⟩;unfold bodyL;rw[exes_nx s1,exes_nx s2,exes_nx s3,exes_nx s4,exes_nx s5,exes_nx s6];have r7':exe (FT T G 12) G L7 [sc,some (.int i),some (.ref p),some (tupI l),some (.int a),some od,some (.ref q2),a7,a8,a9] S6=_:=r7;rw[exes_nx r7',exes]
theorem law_true(ns:List Int)(h:ns.length<=63):∃ S',FT T G 13 27 [.fro (ns.map D.int)] []=.ok (.bl true) S':=by
 show ∃ S',den (FT T G 12) G d_law [.fro (ns.map D.int)] []=_;have c1:([D.fro (ns.map D.int)].map some++List.replicate (10 - 1) none:En)=[some (.fro (ns.map D.int)),none,none,none,none,none,none,none,none,none]:=rfl;obtain⟨m,hm,m0,m1⟩:=Z.turns (F:=FT T G 12) (G:=G) (env:=[some (.fro (ns.map D.int)),none,none,none,none,none,none,none,none,none]) (S:=[]) (ns:=ns) 6 (by decide) (by decide) rfl
 obtain⟨xs,hx,hl⟩:=rng1_some (m:=m) m0 (lt20 (by omega))
 obtain⟨e',S',f2,b1,b2,b3,b4,b5,b6,b7,b8,b9,rfl⟩:=exe_rng (F:=FT T G 12) (G:=G) (t:=.var 1) (b:=bodyL) (xs:=xs)
  (fun i e S'=>∃ b1 b2 b3 b4 b5 b6 b7 b8 b9,e=[some (.fro (ns.map D.int)),b1,b2,b3,b4,b5,b6,b7,b8,b9]) hm hx ⟨none,none,none,none,none,none,none,none,none,rfl⟩ (fun i d e S' hd hP=>by
   obtain⟨b1,b2,b3,b4,b5,b6,b7,b8,b9,rfl⟩:=hP;obtain⟨rfl,hi⟩:=rng1_get hx hd;obtain⟨e2,S2,t1,t2⟩:=turn ns i b2 b3 b4 b5 b6 b7 b8 b9 S';exact⟨_,e2,S2,rfl,t1,t2⟩)
 refine⟨S',?_⟩;simp only[den,d_law,List.length,if_true];rw[b_law_eq,c1,exes_nx f2];rfl
end K42
end
section
namespace K42
open PySem PySem.Spec PyProof.Rows L2 Z
def AllD(K:PySem.W.Frag)(mg:Str->Option Value)(fns:List (Str×Nat×Bool))(gns:List Str):List (Str×Nat×Bool)->List Df->Prop
 | [],[]=>True
 | x :: r,d :: ds=>DefOk K mg fns gns d x.1 x.2.1 x.2.2/\AllD K mg fns gns r ds
 | _,_=>False
theorem AllD.get{K:PySem.W.Frag}{mg:Str->Option Value}{fns:List (Str×Nat×Bool)}{gns:List Str}:∀ {fs:List (Str×Nat×Bool)} {ds:List Df},AllD K mg fns gns fs ds->∀ (f:Nat) nm ar fl,fs[f]?=some (nm,ar,fl)->∃ d,ds[f]?=some d/\DefOk K mg fns gns d nm ar fl
 | [],[],_,f,nm,ar,fl,e=>by cases e
 | x :: r,d :: ds,h,0,nm,ar,fl,e=>by cases e; exact⟨d,rfl,h.1⟩
 | x :: r,d :: ds,h,f + 1,nm,ar,fl,e=>AllD.get h.2 f nm ar fl e
theorem all_mk {P:Program} {w:World} {K:PySem.W.Frag} {h:Heap} {mg:Str->Option Value} {fa:Addr} {t0 t1 t2:Tok} (X:K.In h) (Gm:h.Ns mainGlobals mg) (hfa:mg "law" = some (.ref fa))
  (er:errB K=true) (bl:bltB K=true) (g0:PySem.W.nsIn K mainGlobals "GREATEST_NUMBER" = some (some (.int 1000000000000 t0))) (g1:PySem.W.nsIn K mainGlobals "MOST_CHOSEN" = some (some (.int 12 t1))) (g2:PySem.W.nsIn K mainGlobals "GREATEST_WIDTH" = some (some (.int 11 t2)))
  (f0:FunAt K "is_whole" (top 19)) (f1:FunAt K "is_whole_within" (top 20)) (f2:FunAt K "is_whole_tuple" (top 21)) (f3:FunAt K "writing" (top 25)) (f4:FunAt K "most_above" (top 26)) (f5:FunAt K "bags_above" (top 27)) (f6:FunAt K "check_written" (top 28)) (f7:FunAt K "ways" (top 29)) (f8:FunAt K "most_things" (top 30)) (f9:FunAt K "written_parts" (top 31)) (f10:FunAt K "is_row" (top 34)) (f11:FunAt K "check_row" (top 35)) (f12:FunAt K "not_of_net" (top 37)) (f13:FunAt K "not_of_crowd" (top 38)) (f14:FunAt K "first_beyond" (top 39)) (f15:FunAt K "_law_cell_at" (top 41)) (f16:FunAt K "_law_pot" (top 42)) (f17:FunAt K "_law_take" (top 43)) (f18:FunAt K "_law_whole" (top 44)) (f19:FunAt K "_law_word" (top 45)) (f20:FunAt K "_law_ways" (top 46)) (f21:FunAt K "_law_writing" (top 47)) (f22:FunAt K "_law_next_by" (top 48)) (f23:FunAt K "_law_first_not" (top 49)) (f24:FunAt K "_law_is_row" (top 50)) (f25:FunAt K "_law_said" (top 51)) (f26:FunAt K "_law_row" (top 52)) (f27:FunAt K "law" (top 53)) :
  ∃ fd:FuncData,(∀ (s:Shared) (u:Value),BindsTo s fd ⟨[u],[]⟩ [("_law_script",u)])/\∀ base:Heap,K.In base->base.Ns mainGlobals mg->FnOk P w K mg base (CXd P w) 13 fa fd ["_law_script"] (spD K 1 (FT T G 13 27)):=by
 have er':=errB_ok er;have bl':=bltB_ok X Gm bl;have hg:∀ (k:Nat) nm,gns[k]?=some nm->∃ u d,mg nm=some u/\G[k]?=some d/\∀ ρ H,∃ v,RelV v u/\RD K ρ H d v:=fun k nm e=>by
  match k,e with
  | 0,e=>cases e; exact glb_int X Gm g0
  | 1,e=>cases e; exact glb_int X Gm g1
  | 2,e=>cases e; exact glb_int X Gm g2
  | 3,e=>cases e; exact glb_fn X Gm f4
  | 4,e=>cases e; exact glb_fn X Gm f5
  | 5,e=>cases e; exact glb_fn X Gm f12
  | 6,e=>cases e; exact glb_fn X Gm f13
  | k + 7,e=>cases e
 have hD:AllD K mg fns gns fns T :=
  And.intro (defOk_mk (st:=top 19) (N:=n_is_whole) X Gm f0 s_is_whole m_is_whole rfl rfl rfl fun _ _ _ _ _ _ us hl=>match us,hl with | [_],_=>rfl) (
  And.intro (defOk_mk (st:=top 20) (N:=n_is_whole_within) X Gm f1 s_is_whole_within m_is_whole_within rfl rfl rfl fun _ _ _ _ _ _ us hl=>match us,hl with | [_,_,_],_=>rfl) (
  And.intro (defOk_mk (st:=top 21) (N:=n_is_whole_tuple) X Gm f2 s_is_whole_tuple m_is_whole_tuple rfl rfl rfl fun _ _ _ _ _ _ us hl=>match us,hl with | [_],_=>rfl) (
  And.intro (defOk_mk (st:=top 25) (N:=n_writing) X Gm f3 s_writing m_writing rfl rfl rfl fun _ _ _ _ _ _ us hl=>match us,hl with | [_,_],_=>rfl) (
  And.intro (defOk_mk (st:=top 26) (N:=n_most_above) X Gm f4 s_most_above m_most_above rfl rfl rfl fun _ _ _ _ _ _ us hl=>match us,hl with | [_,_],_=>rfl) (
  And.intro (defOk_mk (st:=top 27) (N:=n_bags_above) X Gm f5 s_bags_above m_bags_above rfl rfl rfl fun _ _ _ _ _ _ us hl=>match us,hl with | [_,_],_=>rfl) (
  And.intro (defOk_mk (st:=top 28) (N:=n_check_written) X Gm f6 s_check_written m_check_written rfl rfl rfl fun _ _ _ _ _ _ us hl=>match us,hl with | [_,_],_=>rfl) (
  And.intro (defOk_mk (st:=top 29) (N:=n_ways) X Gm f7 s_ways m_ways rfl rfl rfl fun _ _ _ _ _ _ us hl=>match us,hl with | [_,_],_=>rfl) (
  And.intro (defOk_mk (st:=top 30) (N:=n_most_things) X Gm f8 s_most_things m_most_things rfl rfl rfl fun _ _ _ _ _ _ us hl=>match us,hl with | [_,_],_=>rfl) (
  And.intro (defOk_mk (st:=top 31) (N:=n_written_parts) X Gm f9 s_written_parts m_written_parts rfl rfl rfl fun _ _ _ _ _ _ us hl=>match us,hl with | [_,_],_=>rfl) (
  And.intro (defOk_mk (st:=top 34) (N:=n_is_row) X Gm f10 s_is_row m_is_row rfl rfl rfl fun _ _ _ _ _ _ us hl=>match us,hl with | [_],_=>rfl) (
  And.intro (defOk_mk (st:=top 35) (N:=n_check_row) X Gm f11 s_check_row m_check_row rfl rfl rfl fun _ _ _ _ _ _ us hl=>match us,hl with | [_],_=>rfl) (
  And.intro (defOk_mk (st:=top 37) (N:=n_not_of_net) X Gm f12 s_not_of_net m_not_of_net rfl rfl rfl fun _ _ _ _ _ _ us hl=>match us,hl with | [_],_=>rfl) (
  And.intro (defOk_mk (st:=top 38) (N:=n_not_of_crowd) X Gm f13 s_not_of_crowd m_not_of_crowd rfl rfl rfl fun _ _ _ _ _ _ us hl=>match us,hl with | [_],_=>rfl) (
  And.intro (defOk_mk (st:=top 39) (N:=n_first_beyond) X Gm f14 s_first_beyond m_first_beyond rfl rfl rfl fun _ _ _ _ _ _ us hl=>match us,hl with | [_,_],_=>rfl) (
  And.intro (defOk_mk (st:=top 41) (N:=n__law_cell_at) X Gm f15 s__law_cell_at m__law_cell_at rfl rfl rfl fun _ _ _ _ _ _ us hl=>match us,hl with | [_,_],_=>rfl) (
  And.intro (defOk_mk (st:=top 42) (N:=n__law_pot) X Gm f16 s__law_pot m__law_pot rfl rfl rfl fun _ _ _ _ _ _ us hl=>match us,hl with | [_],_=>rfl) (
  And.intro (defOk_mk (st:=top 43) (N:=n__law_take) X Gm f17 s__law_take m__law_take rfl rfl rfl fun _ _ _ _ _ _ us hl=>match us,hl with | [_,_],_=>rfl) (
  And.intro (defOk_mk (st:=top 44) (N:=n__law_whole) X Gm f18 s__law_whole m__law_whole rfl rfl rfl fun _ _ _ _ _ _ us hl=>match us,hl with | [_],_=>rfl) (
  And.intro (defOk_mk (st:=top 45) (N:=n__law_word) X Gm f19 s__law_word m__law_word rfl rfl rfl fun _ _ _ _ _ _ us hl=>match us,hl with | [_],_=>rfl) (
  And.intro (defOk_mk (st:=top 46) (N:=n__law_ways) X Gm f20 s__law_ways m__law_ways rfl rfl rfl fun _ _ _ _ _ _ us hl=>match us,hl with | [_,_],_=>rfl) (
  And.intro (defOk_mk (st:=top 47) (N:=n__law_writing) X Gm f21 s__law_writing m__law_writing rfl rfl rfl fun _ _ _ _ _ _ us hl=>match us,hl with | [_,_],_=>rfl) (
  And.intro (defOk_mk (st:=top 48) (N:=n__law_next_by) X Gm f22 s__law_next_by m__law_next_by rfl rfl rfl fun _ _ _ _ _ _ us hl=>match us,hl with | [_,_,_],_=>rfl) (
  And.intro (defOk_mk (st:=top 49) (N:=n__law_first_not) X Gm f23 s__law_first_not m__law_first_not rfl rfl rfl fun _ _ _ _ _ _ us hl=>match us,hl with | [_,_],_=>rfl) (
  And.intro (defOk_mk (st:=top 50) (N:=n__law_is_row) X Gm f24 s__law_is_row m__law_is_row rfl rfl rfl fun _ _ _ _ _ _ us hl=>match us,hl with | [_],_=>rfl) (
  And.intro (defOk_mk (st:=top 51) (N:=n__law_said) X Gm f25 s__law_said m__law_said rfl rfl rfl fun _ _ _ _ _ _ us hl=>match us,hl with | [_,_],_=>rfl) (
  And.intro (defOk_mk (st:=top 52) (N:=n__law_row) X Gm f26 s__law_row m__law_row rfl rfl rfl fun _ _ _ _ _ _ us hl=>match us,hl with | [_],_=>rfl) (
  And.intro (defOk_mk (st:=top 53) (N:=n_law) X Gm f27 s_law m_law rfl rfl rfl fun _ _ _ _ _ _ us hl=>match us,hl with | [_],_=>rfl) (True.intro))))))))))))))))))))))))))))
 exact law_fn (k:=12) (d:=d_law) (st:=top 53) (N:=n_law) X Gm hfa er' bl' hg hD.get rfl f27 s_law m_law rfl rfl fun _ _ _ _ _ _ us hl=>match us,hl with | [_],_=>rfl
noncomputable def kept:List Stmt:=[top 1,top 2,top 3,top 4,top 5,top 6,top 7,top 8,top 9,top 10,top 11,top 12,top 13,top 14,top 15,top 16,top 17,top 19,top 20,top 21,top 23,top 24,top 25,top 26,top 27,top 28,top 29,top 30,top 31,top 33,top 34,top 35,top 37,top 38,top 39,top 41,top 42,top 43,top 44,top 45,top 46,top 47,top 48,top 49,top 50,top 51,top 52,top 53]
noncomputable def Q:Program:={ PySem.Challenge.pw_facecounts_k42_rows_that_can_be with main:={ PySem.Challenge.pw_facecounts_k42_rows_that_can_be.main with body:=kept } }
end K42
open PySem PySem.W PyProof.Rows
lay_quick Z.topT PySem.W.topStub
local macro_rules | `(tactic| o_head $H)=>`(tactic|
 refine PySem.W.holds_open (q:=K42.Q) (loose:=[]) (Xt:=fun s=>PySem.W.xlAt K42.Q [] s && PySem.W.recOk [] s)
  (XP:=PySem.W.XL K42.Q []) (Yf:=PySem.W.Hook.obs $H) (Ya:=PySem.W.Hook.val $H)
  (YP:=PySem.W.Hook.says $H) (N:=40000) ?hl (PySem.W.Hook.of $H) (PySem.W.Hook.keeps $H)
  (fun s e=>PySem.W.xl_of s (Bool.and_eq_true_iff.mp e).1) PySem.W.XL.keeps
  (by rfl) (by rfl) (by rfl)
  (fun s e=>PySem.W.recFacts_of (Bool.and_eq_true_iff.mp e).2)
  (by rfl) (by first | assumption | decide +kernel) (by decide +kernel)
  ⟨rfl,rfl,rfl,rfl,rfl,by decide +kernel⟩ ?hw ?hc)
set_option maxRecDepth 100000 in
set_option maxHeartbeats 0 in
theorem PySem.Challenge.cw_facecounts_k42_rows_that_can_be_holds : PySem.Challenge.rw_facecounts_k42_rows_that_can_be.Holds := by
 w_on; o_law; x_head
 (case hl =>
  refine Z.left_tree (p:=PySem.Challenge.pw_facecounts_k42_rows_that_can_be) (by kernel_rfl) (by rfl) (fun s=>by kernel_rfl) ?_
  intro w os;unfold Z.looksT K42.Q K42.kept K42.top;dsimp only[PySem.W.kHook];rw[PySem.W.Fast.te4187177175401517315,PySem.W.Fast.te15842407815417585275,PySem.W.Fast.te2530740449226627131,PySem.W.Fast.te14364793385576792824]
  kernel_rfl)
 (case hw=>w_witness2)
 k_fill
 refine Z.walk_z (l:=PySem.Challenge.rw_facecounts_k42_rows_that_can_be) (T:=K42.T) (G:=K42.G) (k:=13) (f:=27) (x := "_law_script") rfl rfl ⟨rfl,rfl,by decide,by decide⟩ (fun w h Y=>PySem.W.kIn_of Y) ?F K42.law_true
 case F =>
  intro w mg fa h KX G hmg;refine' K42.all_mk KX G hmg ?er ?bl ?g0 ?g1 ?g2 ?f0 ?f1 ?f2 ?f3 ?f4 ?f5 ?f6 ?f7 ?f8 ?f9 ?f10 ?f11 ?f12 ?f13 ?f14 ?f15 ?f16 ?f17 ?f18 ?f19 ?f20 ?f21 ?f22 ?f23 ?f24 ?f25 ?f26 ?f27
  (case g0=>k_is)
  (case g1=>k_is)
  (case g2=>k_is)
  (case f0=>(refine' Z.funAt_mk ?a ?l ?c ?k; (case a=>k_is); (case l=>k_is); (case c=>k_is); (case k=>k_is)))
  (case f1=>(refine' Z.funAt_mk ?a ?l ?c ?k; (case a=>k_is); (case l=>k_is); (case c=>k_is); (case k=>k_is)))
  (case f2=>(refine' Z.funAt_mk ?a ?l ?c ?k; (case a=>k_is); (case l=>k_is); (case c=>k_is); (case k=>k_is)))
  (case f3=>(refine' Z.funAt_mk ?a ?l ?c ?k; (case a=>k_is); (case l=>k_is); (case c=>k_is); (case k=>k_is)))
  (case f4=>(refine' Z.funAt_mk ?a ?l ?c ?k; (case a=>k_is); (case l=>k_is); (case c=>k_is); (case k=>k_is)))
  (case f5=>(refine' Z.funAt_mk ?a ?l ?c ?k; (case a=>k_is); (case l=>k_is); (case c=>k_is); (case k=>k_is)))
  (case f6=>(refine' Z.funAt_mk ?a ?l ?c ?k; (case a=>k_is); (case l=>k_is); (case c=>k_is); (case k=>k_is)))
  (case f7=>(refine' Z.funAt_mk ?a ?l ?c ?k; (case a=>k_is); (case l=>k_is); (case c=>k_is); (case k=>k_is)))
  (case f8=>(refine' Z.funAt_mk ?a ?l ?c ?k; (case a=>k_is); (case l=>k_is); (case c=>k_is); (case k=>k_is)))
  (case f9=>(refine' Z.funAt_mk ?a ?l ?c ?k; (case a=>k_is); (case l=>k_is); (case c=>k_is); (case k=>k_is)))
  (case f10=>(refine' Z.funAt_mk ?a ?l ?c ?k; (case a=>k_is); (case l=>k_is); (case c=>k_is); (case k=>k_is)))
  (case f11=>(refine' Z.funAt_mk ?a ?l ?c ?k; (case a=>k_is); (case l=>k_is); (case c=>k_is); (case k=>k_is)))
  (case f12=>(refine' Z.funAt_mk ?a ?l ?c ?k; (case a=>k_is); (case l=>k_is); (case c=>k_is); (case k=>k_is)))
  (case f13=>(refine' Z.funAt_mk ?a ?l ?c ?k; (case a=>k_is); (case l=>k_is); (case c=>k_is); (case k=>k_is)))
  (case f14=>(refine' Z.funAt_mk ?a ?l ?c ?k; (case a=>k_is); (case l=>k_is); (case c=>k_is); (case k=>k_is)))
  (case f15=>(refine' Z.funAt_mk ?a ?l ?c ?k; (case a=>k_is); (case l=>k_is); (case c=>k_is); (case k=>k_is)))
  (case f16=>(refine' Z.funAt_mk ?a ?l ?c ?k; (case a=>k_is); (case l=>k_is); (case c=>k_is); (case k=>k_is)))
  (case f17=>(refine' Z.funAt_mk ?a ?l ?c ?k; (case a=>k_is); (case l=>k_is); (case c=>k_is); (case k=>k_is)))
  (case f18=>(refine' Z.funAt_mk ?a ?l ?c ?k; (case a=>k_is); (case l=>k_is); (case c=>k_is); (case k=>k_is)))
  (case f19=>(refine' Z.funAt_mk ?a ?l ?c ?k; (case a=>k_is); (case l=>k_is); (case c=>k_is); (case k=>k_is)))
  (case f20=>(refine' Z.funAt_mk ?a ?l ?c ?k; (case a=>k_is); (case l=>k_is); (case c=>k_is); (case k=>k_is)))
  (case f21=>(refine' Z.funAt_mk ?a ?l ?c ?k; (case a=>k_is); (case l=>k_is); (case c=>k_is); (case k=>k_is)))
  (case f22=>(refine' Z.funAt_mk ?a ?l ?c ?k; (case a=>k_is); (case l=>k_is); (case c=>k_is); (case k=>k_is)))
  (case f23=>(refine' Z.funAt_mk ?a ?l ?c ?k; (case a=>k_is); (case l=>k_is); (case c=>k_is); (case k=>k_is)))
  (case f24=>(refine' Z.funAt_mk ?a ?l ?c ?k; (case a=>k_is); (case l=>k_is); (case c=>k_is); (case k=>k_is)))
  (case f25=>(refine' Z.funAt_mk ?a ?l ?c ?k; (case a=>k_is); (case l=>k_is); (case c=>k_is); (case k=>k_is)))
  (case f26=>(refine' Z.funAt_mk ?a ?l ?c ?k; (case a=>k_is); (case l=>k_is); (case c=>k_is); (case k=>k_is)))
  (case f27=>(refine' Z.funAt_mk ?a ?l ?c ?k; (case a=>k_is); (case l=>k_is); (case c=>k_is); (case k=>k_is)))
  (case er=>kernel_rfl)
  (case bl=>kernel_rfl)
end
