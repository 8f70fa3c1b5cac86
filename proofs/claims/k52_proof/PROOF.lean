import PyProof.Rows.All
import Wide.All
import OpenK.AllK
import Wide.FinOn
import Lean
import PyProof.EqAt
import PyProof.EqKinds
import PyProof.TupleCall
import PySem.Challenge.RW_facecounts_k52_rows_between_least_and_gr
set_option Elab.async false
set_option linter.all false
set_option maxRecDepth 100000
set_option exponentiation.threshold 3000
set_option genSizeOf false
set_option genSizeOfSpec false
universe u
theorem gZ0{α:Type u}{a:α}{l:List α}:(a::l)[0]?=some a:=rfl
theorem gS0{α:Type u}{a:α}{i:Nat}{l:List α}:(a::l)[i+1]?=l[i]?:=rfl
theorem bA0(a b:Bool):((a&&b)=true)=(a=true∧b=true):=Bool.and_eq_true a b
section
namespace L2
open PySem PySem.Spec PyProof.Rows
noncomputable abbrev Key:=Sum Int Str
noncomputable def Xuw:Key->Value->Bool
 | .inl k,v=>Value.isInt k v
 | .inr x,v=>Value.isStrOf x v
noncomputable def X4n(w:World):Key->Int
 | .inl k=>hashInt k
 | .inr x=>hashStr w x
theorem Yv:∀ {k:Key} {v:Value},Xuw k v=true->(∃ i t,k=Sum.inl i/\v=Value.int i t)\/(∃ x t,k=Sum.inr x/\v=Value.str x t)
 | .inl i,v,h=>by
  obtain⟨t,e⟩:=Value.isInt_shape (k:=i) (v:=v) h;exact .inl ⟨i,t,rfl,e⟩
 | .inr x,v,h=>by
  obtain⟨t,e⟩:=Value.isStrOf_shape (x:=x) (v:=v) h;exact .inr ⟨x,t,rfl,e⟩
theorem Xy8(a b:Int):decide ((Sum.inl a:Key)=Sum.inl b)=(a==b):=by
 by_cases e:a=b
 ·subst e;simp
 ·have h:¬ (Sum.inl a:Key)=Sum.inl b:=fun q=>e (Sum.inl.inj q)
  rw[decide_eq_false h];exact(beq_eq_false_iff_ne.mpr e).symm
theorem Xy9(a b:Str):decide ((Sum.inr a:Key)=Sum.inr b)=decide (a=b):=by
 by_cases e:a=b
 ·subst e;simp
 ·have h:¬ (Sum.inr a:Key)=Sum.inr b:=fun q=>e (Sum.inr.inj q)
  rw[decide_eq_false h,decide_eq_false e]
theorem Xza(a:Int)(b:Str):decide ((Sum.inl a:Key)=Sum.inr b)=false:=decide_eq_false (fun q=>nomatch q)
theorem Xzb(a:Str)(b:Int):decide ((Sum.inr a:Key)=Sum.inl b)=false:=decide_eq_false (fun q=>nomatch q)
noncomputable def Xg7(prog:Program)(w:World):PySem.KeyKind prog w Key where
 is:=Xuw
 hash:=X4n w
 inj:=fun v a b ha hb=>by
  rcases Yv ha with⟨i,t,rfl,rfl⟩|⟨x,t,rfl,rfl⟩
  ·rcases Yv hb with⟨j,u,rfl,e⟩|⟨y,u,rfl,e⟩
   ·injection e with e1 _;rw[e1]
   ·exact nomatch e
  ·rcases Yv hb with⟨j,u,rfl,e⟩|⟨y,u,rfl,e⟩
   ·exact nomatch e
   ·injection e with e1 _;rw[e1]
 byValue:=fun k v h=>by
  rcases Yv h with⟨i,t,rfl,rfl⟩|⟨x,t,rfl,rfl⟩<;>rfl
 pyHash:=fun hv h=>by
  rcases Yv hv with⟨i,t,rfl,rfl⟩|⟨x,t,rfl,rfl⟩
  ·exact wpAny_pyHash_int h
  ·exact wpAny_pyHash_str h
 eqBool:=fun hu hv h=>by
  rcases Yv hu with⟨i,t,rfl,rfl⟩|⟨x,t,rfl,rfl⟩
  ·rcases Yv hv with⟨j,u,rfl,rfl⟩|⟨y,u,rfl,rfl⟩
   ·rw[Xy8] at h;exact wpAny_eqBool_int h
   ·rw[Xza] at h;exact SeqAt.EqAt.int_str i t y u _ _ _ _ h
  ·rcases Yv hv with⟨j,u,rfl,rfl⟩|⟨y,u,rfl,rfl⟩
   ·rw[Xzb] at h;exact SeqAt.EqAt.str_int x t j u _ _ _ _ h
   ·rw[Xy9] at h;exact wpAny_eqBool_str h
 «strs»:=fun k x t v h=>by
  rcases Yv h with⟨i,u,rfl,e⟩|⟨y,u,rfl,e⟩
  ·exact nomatch e
  ·injection e with e1 _
   subst e1;cases v<;>rfl
end L2
namespace L2
open PySem PySem.Spec PyProof.Rows
inductive V where
 | non|bl (b:Bool)|int (i:Int)|str (x:Str)|byt (b:Array UInt8)|flt (b:UInt64)|ref (a:Addr)|ty (n:String)
 deriving DecidableEq
def RelV:V->Value->Prop
 | .non,u=>u=Value.none
 | .bl b,u=>u=Value.bool b
 | .int i,u=>∃ t,u=Value.int i t
 | .str x,u=>∃ t,u=Value.str x t
 | .byt b,u=>∃ t,u=Value.bytes b t
 | .flt b,u=>∃ t,u=Value.float b t
 | .ref a,u=>u=Value.ref a
 | .ty n,u=>u=Value.type n
abbrev Vals:List V->List Value->Prop:=Paired RelV
theorem Vals.length{xs:List V}{us:List Value}(r:Vals xs us):xs.length=us.length:=Paired.length r
theorem Vals.get:∀ {xs:List V} {us:List Value} {i:Nat} {x:V},Vals xs us->xs[i]?=some x->∃ u,us[i]?=some u/\RelV x u
 | _,_,_,_,.nil,e=>by simp at e
 | _,_,0,_,.cons r _,e=>by simp at e;subst e;exact⟨_,rfl,r⟩
 | _,_,i+1,x,.cons _ t,e=>by
  obtain⟨u,h1,h2⟩:=Vals.get (i:=i) (x:=x) t (by simpa using e)
  exact⟨u,by simpa using h1,h2⟩
theorem Vals.set{x:V}{u:Value}(r:RelV x u):∀ {xs:List V} {us:List Value} (i:Nat),Vals xs us->Vals (xs.set i x) (us.set i u)
 | _,_,_,.nil=>.nil
 | _,_,0,.cons _ t=>.cons r t
 | _,_,i+1,.cons q t=>.cons q (Vals.set r i t)
theorem Vals.append:∀ {xs ys:List V} {us ws:List Value},Vals xs us->Vals ys ws->Vals (xs++ys) (us++ws)
 | _,_,_,_,.nil,s=>s
 | _,_,_,_,.cons r t,s=>.cons r (Vals.append t s)
theorem Vals.take:∀ {xs:List V} {us:List Value} (n:Nat),Vals xs us->Vals (xs.take n) (us.take n)
 | _,_,0,_=>.nil
 | _,_,_+1,.nil=>.nil
 | _,_,n+1,.cons r t=>.cons r (Vals.take n t)
theorem Vals.drop:∀ {xs:List V} {us:List Value} (n:Nat),Vals xs us->Vals (xs.drop n) (us.drop n)
 | _,_,0,r=>r
 | _,_,_+1,.nil=>.nil
 | _,_,n+1,.cons _ t=>Vals.drop n t
def Xzc:Option V->Option Value->Prop
 | some v,some u=>RelV v u
 | none,none=>True
 | _,_=>False
def KV{κ:Type}:List (κ×V)->List (κ×Value)->Prop:=Paired fun(p:κ×V) (q:κ×Value)=>p.1=q.1/\RelV p.2 q.2
noncomputable def kV:Key->V
 | .inl i=>.int i
 | .inr x=>.str x
inductive HO where
 | lst (xs:List V)
 | tup (xs:List V)
 | dK (kvs:List (Key×V))|dT (kvs:List (List Key×V))
 | set (S:Int->Bool) (n:Nat)
 | ins (C dx:Addr) (fs:List (Str×V))
 | own (x:Addr)
 | xd (fs:List (Str×V))
 | met (f x:Addr)
 | rng (lo hi:Int)
 | frz (o:Obj) (u:HO)
 | tbl (ps:Array Value)
 | ext (φ:Heap->Prop)
noncomputable abbrev Hp:=Addr->Option HO
noncomputable def upd(H:Hp)(a:Addr)(o:HO):Hp:=fun b=>if b=a then some o else H b
theorem Yb{H:Hp}{a:Addr}{o:HO}:upd H a o a=some o:=by unfold upd;rw[if_pos rfl]
theorem Xf{H:Hp}{a b:Addr}{o:HO}(h:b≠a):upd H a o b=H b:=by unfold upd;rw[if_neg h]
theorem Xvn{H:Hp}{a:Addr}{o u:HO}:upd (upd H a o) a u=upd H a u:=by
 funext b;unfold upd;split<;>rfl
theorem Xq{H:Hp}{a b:Addr}{o:HO}(h:H a=some o)(h':H b=none):a≠b:=by
 intro e;subst e;rw[h] at h';cases h'
section
variable(P:Program)(w:World)
def ObjOk(H:Hp)(h:Heap)(a:Addr):HO->Prop
 | .lst xs=>xs.length<=sizeLine/\∃ (its:List Value) (n:Nat),Vals xs its/\h.get? a=some { cls:=.type "list",data:=.seq its.toArray n }
 | .tup xs=>xs.length<=sizeLine/\∃ its:List Value,Vals xs its/\IsTup h a its.toArray
 | .dK kvs=>kvs.length<=sizeLine/\(a==sysModules)=false/\∃ vs,KV kvs vs/\h.DictOf (Xg7 P w) a vs
 | .dT kvs=>kvs.length<=sizeLine/\(a==sysModules)=false/\∃ xs:List (List Key×Addr×Value),
   Paired (fun(p:List Key×V) (q:List Key×Addr×Value)=>p.1=q.1/\H q.2.1=some (.tup (p.1.map kV))/\RelV p.2 q.2.2) kvs xs /\
   ∃ o es ep,h.get? a=some o/\o.ExactDict/\o.data=.dict es ep/\es.toList=xs.map (entryOfKey (tupleKind (Xg7 P w)))/\(xs.map (·.1)).Nodup
 | .set S n=>h.SetOf (intKind P w) a S n
 | .ins C dx fs=>H dx=some (.own a)/\fs.length<=1000/\dx≠a/\h.get? a=some (PySem.W.instObj C dx) /\
   ∃ mA,h.Ns1 dx mA/\(∀ f,Xzc (fs.lookup f) (mA f))/\PySem.Within mA (fs.map (·.1))
 | .own _=>∃ o,h.get? a=some o
 | .xd fs=>∃ mA,h.Ns1 a mA/\∀ f,Xzc (fs.lookup f) (mA f)
 | .rng lo hi=>∃ t u v,h.get? a=some { cls:=.type "range",data:=.fields #[.int lo t,.int hi u,.int 1 v] }
 | .frz o u=>h.get? a=some o/\ObjOk H h a u
 | .tbl ps=>h.get? a=some { cls:=.none,data:=.fields ps }
 | .met f x=>h.get? a=some (PySem.W.methodObj (.ref f) (.ref x))
 | .ext φ=>φ h/\(∃ o,h.get? a=some o)/\∀ h1 h2:Heap,φ h1->(∀ o,h1.get? a=some o->h2.get? a=some o)->φ h2
def HOk(H:Hp)(h:Heap):Prop:=∀ a o,H a=some o->ObjOk P w H h a o
end
section
variable{P:Program}{w:World}{H H':Hp}{h h':Heap}{a:Addr}{o:HO}
theorem ObjOk.lt(x:ObjOk P w H h a o):a<h.objs.size:=by
 cases o with
 | lst xs=>obtain⟨_,_,_,_,e⟩:=x;exact Heap.lt_size e
 | tup xs=>obtain⟨_,_,_,p⟩:=x;exact p.lt
 | dK kvs=>obtain⟨_,_,_,_,o,_,_,e,_⟩:=x;exact Heap.lt_size e
 | dT kvs=>obtain⟨_,_,_,_,o,_,_,e,_⟩:=x;exact Heap.lt_size e
 | set S n=>obtain⟨o,_,_,_,e,_⟩:=x;exact Heap.lt_size e
 | ins C dx fs=>obtain⟨_,_,_,e,_⟩:=x;exact Heap.lt_size e
 | own y=>obtain⟨_,e⟩:=x;exact Heap.lt_size e
 | xd fs=>obtain⟨_,⟨_,_,_,e,_⟩,_⟩:=x;exact Heap.lt_size e
 | rng lo hi=>obtain⟨_,_,_,e⟩:=x;exact Heap.lt_size e
 | frz ob u=>obtain⟨e,_⟩:=x;exact Heap.lt_size e
 | tbl ps=>exact Heap.lt_size (show h.get? a=some _ from x)
 | met f y=>exact Heap.lt_size (show h.get? a=some _ from x)
 | ext φ=>obtain⟨_,⟨_,e⟩,_⟩:=x;exact Heap.lt_size e
theorem Paired.mapP{α β:Type}{F G:α->β->Prop}:∀ {l₁:List α} {l₂:List β},Paired F l₁ l₂->(∀ a b,F a b->G a b)->Paired G l₁ l₂
 | _,_,.nil,_=>.nil
 | _,_,.cons r t,f=>.cons (f _ _ r) (Paired.mapP t f)
theorem ObjOk.stay(x:ObjOk P w H h a o)(k:∀ b u,(b=a\/H b=some (.own a))->h.get? b=some u->h'.get? b=some u)
  (ho:∀ b,H b=some (.own a)->H' b=some (.own a)) (ht:∀ b xs,H b=some (.tup xs)->H' b=some (.tup xs)):ObjOk P w H' h' a o:=by
 induction o with
 | lst xs=>obtain⟨z,its,n,r,e⟩:=x;exact⟨z,its,n,r,k _ _ (.inl rfl) e⟩
 | tup xs=>obtain⟨z,its,r,ob,e,c⟩:=x;exact⟨z,its,r,ob,k _ _ (.inl rfl) e,c⟩
 | dK kvs=>obtain⟨z,y,vs,r,ob,es,ep,e,c⟩:=x;exact⟨z,y,vs,r,ob,es,ep,k _ _ (.inl rfl) e,c⟩
 | dT kvs =>
  obtain⟨z,y,xs,r,ob,es,ep,e,c⟩:=x;exact⟨z,y,xs,Paired.mapP r fun p q z=>⟨z.1,ht _ _ z.2.1,z.2.2⟩,ob,es,ep,k _ _ (.inl rfl) e,c⟩
 | set S n=>obtain⟨ob,es,ep,t,e,c⟩:=x;exact⟨ob,es,ep,t,k _ _ (.inl rfl) e,c⟩
 | ins C dx fs =>
  obtain⟨d,z,ne,e,mA,⟨od,es,ep,e2,c⟩,r⟩:=x;exact⟨ho _ d,z,ne,k _ _ (.inl rfl) e,mA,⟨od,es,ep,k _ _ (.inr d) e2,c⟩,r⟩
 | own y=>obtain⟨ob,e⟩:=x;exact⟨ob,k _ _ (.inl rfl) e⟩
 | xd fs=>obtain⟨mA,⟨od,es,ep,e,c⟩,r⟩:=x;exact⟨mA,⟨od,es,ep,k _ _ (.inl rfl) e,c⟩,r⟩
 | rng lo hi=>obtain⟨t,u,v,e⟩:=x;exact⟨t,u,v,k _ _ (.inl rfl) e⟩
 | frz ob u ih=>obtain⟨e,q⟩:=x;exact⟨k _ _ (.inl rfl) e,ih q⟩
 | tbl ps =>
  have e:h.get? a=some { cls:=.none,data:=.fields ps }:=x;show h'.get? a=some { cls:=.none,data:=.fields ps };exact k a _ (.inl rfl) e
 | met f y =>
  have e:h.get? a=some (PySem.W.methodObj (.ref f) (.ref y)):=x;show h'.get? a=some (PySem.W.methodObj (.ref f) (.ref y));exact k a _ (.inl rfl) e
 | ext φ=>obtain⟨p,⟨o,e⟩,st⟩:=x;exact⟨st _ _ p fun o q=>k _ _ (.inl rfl) q,⟨o,k _ _ (.inl rfl) e⟩,st⟩
theorem HOk.lt(x:HOk P w H h)(e:H a=some o):a<h.objs.size:=(x a o e).lt
theorem HOk.fresh(x:HOk P w H h)(e:h.objs.size<=a):H a=none:=by
 cases q:H a with
 | none=>rfl
 | some u=>exact absurd (Nat.lt_of_lt_of_le (x.lt q) e) (Nat.lt_irrefl _)
theorem HOk.kept(x:HOk P w H h)(k:∀ b u,h.get? b=some u->h'.get? b=some u):HOk P w H h':=fun a o e =>
 (x a o e).stay (fun b u _ q=>k b u q) (fun _ q=>q) fun _ _ q=>q
theorem HOk.laid(x:HOk P w H h)(k:∀ b u,h.get? b=some u->h'.get? b=some u)(hp:h.objs.size<=a)(new:ObjOk P w (upd H a o) h' a o):HOk P w (upd H a o) h':=fun b u e=>by
 have hn:=x.fresh hp
 by_cases hb:b=a
 ·subst hb;rw[Yb] at e;cases e;exact new
 ·rw[Xf hb] at e
  exact(x b u e).stay (fun c v _ q=>k c v q) (fun c q=>by rw[Xf (Xq q hn)];exact q) fun c xs q=>by rw[Xf (Xq q hn)];exact q
end
def Rd(H:Hp)(a:Addr)(u:HO):Prop:=H a=some u\/∃ o,H a=some (.frz o u)
theorem Rd.ok{P:Program}{w:World}{H:Hp}{h:Heap}{a:Addr}{u:HO}(r:Rd H a u)(x:HOk P w H h):ObjOk P w H h a u:=by
 rcases r with r|⟨o,r⟩
 ·exact x a u r
 ·obtain⟨_,q⟩:=x a _ r
  exact q
def Mut:Option HO->Prop
 | some (.lst _)=>True
 | some (.dK _)=>True
 | some (.dT _)=>True
 | some (.set _ _)=>True
 | some (.ins _ _ _)=>True
 | some (.ext _)=>True
 | _=>False
section
variable{P:Program}{w:World}{H:Hp}{h h':Heap}{x e:Addr}{o':HO}
theorem HOk.write(ok:HOk P w H h)(mu:Mut (H x))(he:e=x\/H e=some (.own x))(k:∀ b u,b≠e->h.get? b=some u->h'.get? b=some u)(heo:∃ u,h'.get? e=some u)
  (new:ObjOk P w (upd H x o') h' x o'):HOk P w (upd H x o') h':=fun b u q=>by
 have nown:∀ c y,H c=some (.own y)->c≠x:=fun c y r z=>by subst z;rw[r] at mu;exact mu
 have ntup:∀ c xs,H c=some (.tup xs)->c≠x:=fun c xs r z=>by subst z;rw[r] at mu;exact mu
 by_cases hb:b=x
 ·subst hb;rw[Yb] at q;cases q;exact new
 ·rw[Xf hb] at q
  by_cases hbe:b=e
  ·have q':H b=some (.own x):=by
    rcases he with z|z
    ·exact absurd (hbe.trans z) hb
    ·rw[hbe];exact z
   rw[q] at q';cases q';obtain⟨v,hv⟩:=heo;exact⟨v,by rw[hbe];exact hv⟩
  ·refine(ok b u q).stay (fun c v hc r=>k c v ?_ r) (fun c r=>by rw[Xf (nown c b r)];exact r) fun c xs r=>by rw[Xf (ntup c xs r)];exact r
   rcases hc with rfl|hc
   ·exact hbe
   ·rintro rfl
    rcases he with z|z
    ·exact nown c b hc z
    ·rw[hc] at z;cases z;exact hb rfl
end
structure Un(fs ex:List Addr)(H H':Hp)(h h':Heap):Prop where
 keep:∀ b o,h.get? b=some o->H b=none->b ∉ fs->b ∉ ex->h'.get? b=some o
 slot:∀ b o,h.get? b=some o->H b=none->b∈fs->b ∉ ex->∃ sl,h'.get? b=some { o with slots:=sl }
 free:∀ b o,h.get? b=some o->H b=none->b ∉ ex->H' b=none
 there:∀ b o,h.get? b=some o->b ∉ ex->∃ o',h'.get? b=some o'
 tups:∀ b xs,H b=some (.tup xs)->H' b=some (.tup xs)
 frzs:∀ b o u,H b=some (.frz o u)->H' b=some (.frz o u)
 tbls:∀ b ps,H b=some (.tbl ps)->∃ more,H' b=some (.tbl (ps++more))
section
variable{fs fs' ex ex':List Addr}{H H1 H2:Hp}{h h1 h2 h':Heap}{a x e:Addr}{o:HO}
theorem Un.any(u:Un fs ex H H1 h h1){b:Addr}{ob:Obj}(q:h.get? b=some ob)(n:H b=none)(hx:b ∉ ex):∃ sl,h1.get? b=some { ob with slots:=sl }:=by
 by_cases hb:b∈fs
 ·exact u.slot b ob q n hb hx
 ·exact⟨ob.slots,u.keep b ob q n hb hx⟩
theorem Un.trans(a:Un fs ex H H1 h h1)(b:Un fs ex H1 H2 h1 h2):Un fs ex H H2 h h2 where
 keep:=fun c ob q n hc hx=>b.keep c ob (a.keep c ob q n hc hx) (a.free c ob q n hx) hc hx
 slot:=fun c ob q n hc hx=>by
  obtain⟨sl,e1⟩:=a.slot c ob q n hc hx;obtain⟨sl',e2⟩:=b.slot c _ e1 (a.free c ob q n hx) hc hx;exact⟨sl',e2⟩
 free:=fun c ob q n hx=>by
  obtain⟨o',e1⟩:=a.there c ob q hx;exact b.free c o' e1 (a.free c ob q n hx) hx
 there:=fun c ob q hx=>by
  obtain⟨o',e1⟩:=a.there c ob q hx;exact b.there c o' e1 hx
 tups:=fun c xs q=>b.tups c xs (a.tups c xs q)
 frzs:=fun c ob xs q=>b.frzs c ob xs (a.frzs c ob xs q)
 tbls:=fun c ps q=>by
  obtain⟨m1,e1⟩:=a.tbls c ps q;obtain⟨m2,e2⟩:=b.tbls c _ e1;exact⟨m1++m2,by rw[e2,Array.append_assoc]⟩
theorem Un.kept(k:∀ b u,h.get? b=some u->h'.get? b=some u):Un fs ex H H h h' :=
 ⟨fun b ob q _ _ _=>k b ob q,fun b ob q _ _ _=>⟨ob.slots,k b ob q⟩,fun _ _ _ n _=>n,fun b ob q _=>⟨ob,k b ob q⟩,fun _ _ q=>q,fun _ _ _ q=>q,fun _ ps q=>⟨#[],by rw[q];simp⟩⟩
theorem Un.refl:Un fs ex H H h h:=Un.kept fun _ _ q=>q
theorem Un.laid(k:∀ b u,h.get? b=some u->h'.get? b=some u)(hp:h.objs.size<=a)(hn:H a=none):Un fs ex H (upd H a o) h h' where
 keep:=fun b u q _ _ _=>k b u q
 slot:=fun b u q _ _ _=>⟨u.slots,k b u q⟩
 free:=fun b u q n _=>by rw[Xf (Nat.ne_of_lt (Nat.lt_of_lt_of_le (Heap.lt_size q) hp))];exact n
 there:=fun b u q _=>⟨u,k b u q⟩
 tups:=fun b xs q=>by rw[Xf (Xq q hn)];exact q
 frzs:=fun b u xs q=>by rw[Xf (Xq q hn)];exact q
 tbls:=fun b ps q=>⟨#[],by rw[Xf (Xq q hn),q];simp⟩
theorem Un.write(mu:Mut (H x))(he:e=x\/H e=some (.own x))(k:∀ b u,b≠e->h.get? b=some u->h'.get? b=some u)(heo:∃ u,h'.get? e=some u):Un fs ex H (upd H x o) h h':=by
 have hx:∀ b,H b=none->b≠x:=fun b n z=>by subst z;rw[n] at mu;exact mu
 have hb:∀ b,H b=none->b≠e:=fun b n z=>by
  subst z;rcases he with r|r
  ·exact hx b n r
  ·rw[n] at r;cases r
 have hm:∀ b u,H b=some u->¬ Mut (some u)->b≠x:=fun b u q nm z=>by subst z;rw[q] at mu;exact nm mu
 refine⟨fun b u q n _ _=>k b u (hb b n) q,fun b u q n _ _=>⟨u.slots,k b u (hb b n) q⟩,fun b u q n _=>by rw[Xf (hx b n)];exact n,fun b u q _=>?_,
  fun b xs q=>by rw[Xf (hm b _ q fun z=>z)];exact q,fun b u xs q=>by rw[Xf (hm b _ q fun z=>z)];exact q,fun b ps q=>⟨#[],by rw[Xf (hm b _ q fun z=>z),q];simp⟩⟩
 by_cases hbe:b=e
 ·subst hbe;exact heo
 ·exact⟨u,k b u hbe q⟩
theorem Un.mono(u:Un fs ex H H1 h h1)(hs:∀ b∈fs,b∈fs')(hx:∀ b∈ex,b∈ex'):Un fs' ex' H H1 h h1 :=
 ⟨fun b ob q n hb he=>u.keep b ob q n (fun z=>hb (hs b z)) fun z=>he (hx b z),fun _ _ q n _ he=>u.any q n fun z=>he (hx _ z),fun b ob q n he=>u.free b ob q n fun z=>he (hx b z),fun b ob q he=>u.there b ob q fun z=>he (hx b z),u.tups,u.frzs,u.tbls⟩
end
noncomputable def trk(h:Heap)(H:Hp):List Addr:=(List.range h.objs.size).filter fun a=>(H a).isSome
noncomputable def Xdr(h:Heap)(H:Hp):Heap:=PySem.W.hideAll h (trk h H)
theorem Xpo(h:Heap)(H:Hp):(Xdr h H).objs.size=h.objs.size:=PySem.W.hideAll_size _ _
theorem Xr4{h:Heap}{H:Hp}{b:Addr}{o:Obj}(e:h.get? b=some o)(n:H b=none):(Xdr h H).get? b=some o :=
 PySem.W.hideAll_get _ e fun hm=>by
  have q:(H b).isSome=true:=(List.mem_filter.mp hm).2;rw[n] at q;simp at q
theorem Xvo{h:Heap}{H:Hp}{b:Addr}{o:Obj}(e:(Xdr h H).get? b=some o):h.get? b=some o/\H b=none:=by
 have e':h.get? b=some o:=PySem.W.of_hideAll (trk h H) e;refine⟨e',?_⟩;cases q:H b with
 | none=>rfl
 | some x =>
  have hm:b∈trk h H:=List.mem_filter.mpr ⟨List.mem_range.mpr (Heap.lt_size e'),by simp[q]⟩
  have z:(Xdr h H).get? b=none:=PySem.W.hideAll_none (trk h H) hm;rw[z] at e;cases e
noncomputable def Xvp(g h:Heap)(L:Addr):List (Addr×Obj):=(List.range h.objs.size).filterMap fun a=>if a=L\/(g.get? a).isSome=true then none else (h.get? a).map fun o=>(a,o)
noncomputable def Xao(g h:Heap)(L d:Addr):List (Addr×Obj):=(Xvp g h L).filter fun p=>decide (p.1≠d)
end L2
namespace L2
open PySem PySem.Spec PyProof.Rows
structure Mod(K:PySem.W.Frag)(mg:Str->Option Value)(base:Heap):Prop where
 kin:K.In base
 glob:base.Ns mainGlobals mg
 blt:∃ mb,base.Ns builtinsNs mb/\∀ x:Str,x ≠ "__name__" -> mb x=bootBuiltins x
 nolimit:base.NoLimit
structure Cx where
 prog:Program
 w:World
 K:PySem.W.Frag
 mg:Str->Option Value
 base:Heap
 A:Around
 N:List Str
 s₀:Shared
 H₀:Hp
 env:Env
 outer:List Env
 stack:List Env
 ex:List Addr
 fn:Str->Bool
 calm:Bool
 pn:List (Addr×Obj)
 xe:Value->Shared->Prop
noncomputable def frs(l:List Env):List Addr:=l.filterMap (·.frame)
noncomputable abbrev Cx.fs(X:Cx):List Addr:=frs X.outer
def Vis(sc:Scope)(x:Str):Prop:=sc.names.lookup x=some .local\/sc.names.lookup x=some .cell\/sc.names.lookup x=some .free
def Loc(sc:Scope)(x:Str):Prop:=sc.names.lookup x=some .local\/sc.names.lookup x=some .cell
def X4o(env:Env)(h:Heap)(m:Str->Option Value)(x:Str)(u:Value):Prop :=
 (env.kindOf x=some .local/\m x=some u)\/((env.kindOf x=some .cell\/env.kindOf x=some .free)/\∃ c,env.cells.lookup x=some c/\h.IsCell c (some u))
structure Cx.Ok(X:Cx):Prop where
 mod:Mod X.K X.mg X.base
 kind:X.env.scope.kind=.function
 glob:X.env.globals=mainGlobals
 blt:X.env.builtins=builtinsNs
 above:X.s₀.heap.objs.size<=X.env.locals
 inj:∀ x y c,X.env.cells.lookup x=some c->X.env.cells.lookup y=some c->x=y
 has:∀ x,(X.env.kindOf x=some .cell\/X.env.kindOf x=some .free)->∃ c,X.env.cells.lookup x=some c
 cab:∀ x c,X.fn x=true->X.env.cells.lookup x=some c->X.s₀.heap.objs.size<=c
 hd:X.calm=true->X.A.handled=none
 frames:X.A.frames=some X.stack
 stk:X.stack=X.outer\/(X.stack=X.env::X.outer/\X.env.frame=some X.env.locals)
 exf:∀ b∈X.ex,b≠X.env.locals/\∀ x c,X.env.cells.lookup x=some c->c≠b
 bs:∀ b o,X.base.get? b=some o->X.s₀.heap.get? b=some o/\X.H₀ b=none
 bsz:X.base.objs.size<=X.s₀.heap.objs.size
 noex:∀ b o,X.base.get? b=some o->b ∉ X.ex
 exfs:∀ b∈X.ex,b ∉ X.fs
 funs:X.s₀.heap.FunFrames X.base X.outer
 frf:∀ b∈X.fs,X.H₀ b=none
structure Inv(X:Cx)(pins:List (Addr×Obj))(σ:List (Option V))(H:Hp)(s:Shared):Prop where
 ok:X.Ok
 os:s.os=X.s₀.os
 bare:AllBare s.gens
 base:Un X.fs X.ex X.H₀ H X.s₀.heap s.heap
 loc:∃ m,s.heap.Ns X.env.locals m/\∀ (i:Nat) (x:Str) (v:V),X.N[i]?=some x->σ[i]?=some (some v)->Vis X.env.scope x->∃ u,RelV v u/\X4o X.env s.heap m x u
 cell:∀ x c,X.env.cells.lookup x=some c->∃ v,s.heap.IsCell c v
 free:H X.env.locals=none
 freeC:∀ x c,X.env.cells.lookup x=some c->H c=none
 pin:∀ p∈X.pn++pins,s.heap.get? p.1=some p.2/\H p.1=none/\p.1≠X.env.locals/\p.1 ∉ X.fs/\∀ v,p.2.data≠.cell v
 hok:HOk X.prog X.w H s.heap
 len:σ.length=X.N.length
section
variable{X:Cx}{pins:List (Addr×Obj)}{σ:List (Option V)}{H H':Hp}{s:Shared}{h':Heap}
theorem Cx.Ok.nofr(ok:X.Ok){b:Addr}{o:Obj}(e:X.base.get? b=some o):b ∉ X.fs:=fun hb=>by
 have:=(ok.funs.mem hb).1;rw[e] at this;cases this
theorem Inv.bs(I:Inv X pins σ H s):∀ b o,X.base.get? b=some o->s.heap.get? b=some o/\H b=none:=fun b o e =>
 ⟨I.base.keep b o (I.ok.bs b o e).1 (I.ok.bs b o e).2 (I.ok.nofr e) (I.ok.noex b o e),I.base.free b o (I.ok.bs b o e).1 (I.ok.bs b o e).2 (I.ok.noex b o e)⟩
theorem Inv.bk(I:Inv X pins σ H s):∀ b o,X.base.get? b=some o->s.heap.get? b=some o:=fun b o e=>(I.bs b o e).1
theorem Inv.mod(I:Inv X pins σ H s):Mod X.K X.mg X.base:=I.ok.mod
theorem Inv.kIn(I:Inv X pins σ H s):X.K.In s.heap:=I.ok.mod.kin.keeps I.bk
theorem Inv.nolimit(I:Inv X pins σ H s):s.heap.NoLimit:=I.ok.mod.nolimit.keeps I.bk
theorem Inv.lt(I:Inv X pins σ H s):X.env.locals<s.heap.objs.size:=let ⟨_,hn,_⟩:=I.loc;hn.lt
theorem Inv.sz(I:Inv X pins σ H s):X.s₀.heap.objs.size<=s.heap.objs.size:=Nat.le_trans I.ok.above (Nat.le_of_lt I.lt)
theorem Inv.nofs(I:Inv X pins σ H s){a:Addr}(h:s.heap.objs.size<=a):a ∉ X.fs:=fun hb=>by
 obtain⟨_,o,ho,_⟩:=I.ok.funs.mem hb;exact absurd (Nat.lt_of_lt_of_le (Heap.lt_size ho) (Nat.le_trans I.sz h)) (Nat.lt_irrefl _)
theorem Inv.cne(I:Inv X pins σ H s):∀ x c,X.env.cells.lookup x=some c->c≠X.env.locals:=fun x c e z=>by
 obtain⟨v,o,ho,hd⟩:=I.cell x c e;obtain⟨m,⟨o',es,ep,ho',hd',_⟩,_⟩:=I.loc;rw[z,ho'] at ho;cases ho;rw[hd'] at hd;cases hd
theorem Inv.funs(I:Inv X pins σ H s):s.heap.FunFrames X.base X.outer:=by
 have all:∀ (l:List Env),(∀ b∈frs l,b∈X.fs)->X.s₀.heap.FunFrames X.base l->s.heap.FunFrames X.base l:=by
  intro l
  induction l with
  | nil=>intro _ _;trivial
  | cons env r ih =>
   intro hs hl;obtain⟨hk,⟨L,o,hf,hn,ho,hd⟩,hr⟩:=hl;have hL:L∈X.fs:=hs L (by unfold frs;rw[List.filterMap_cons,hf];exact List.mem_cons_self)
   obtain⟨sl,e⟩:=I.base.slot L o ho (I.ok.frf L hL) hL fun z=>I.ok.exfs L z hL
   exact⟨hk,⟨L,_,hf,hn,e,hd⟩,ih (fun b hb=>hs b (by unfold frs;rw[List.filterMap_cons,hf];exact List.mem_cons_of_mem _ hb)) hr⟩
 exact all X.outer (fun _ hb=>hb) I.ok.funs
theorem Inv.stack(I:Inv X pins σ H s):s.heap.FunFrames X.base X.stack:=by
 rcases I.ok.stk with e|⟨e,hf⟩
 ·rw[e];exact I.funs
 ·rw[e]
  obtain⟨m,hn,_⟩:=I.loc;refine .cons (by rw[I.ok.kind];decide) hf hn ?_ I.funs
  exact Heap.get?_none_of_le (Nat.le_trans I.ok.bsz I.ok.above)
theorem Inv.stkSub(I:Inv X pins σ H s):∀ b∈frs X.stack,b∈X.env.locals::X.fs:=fun b hb=>by
 rcases I.ok.stk with e|⟨e,hf⟩
 ·rw[e] at hb;exact List.mem_cons_of_mem _ hb
 ·rw[e] at hb
  unfold frs at hb;rw[List.filterMap_cons,hf] at hb;exact hb
theorem Inv.stkFree(I:Inv X pins σ H s):∀ b∈frs X.stack,H b=none:=fun b hb=>by
 rcases List.mem_cons.mp (I.stkSub b hb) with e|hb
 ·rw[e];exact I.free
 ·obtain⟨_,o,ho,_⟩:=I.ok.funs.mem hb
  exact I.base.free b o ho (I.ok.frf b hb) fun z=>I.ok.exfs b z hb
theorem Inv.step{g':Array GenState}{t':Nat}{d':Drawn}{ch:List Addr}(I:Inv X pins σ H s)
  (hch:∀ b∈ch,(b∈X.ex\/X.s₀.heap.objs.size<=b)/\b≠X.env.locals/\(∀ x c,X.env.cells.lookup x=some c->c≠b)/\∀ p∈X.pn++pins,p.1≠b)
  (keep:∀ b o,b≠X.env.locals->b ∉ X.fs->b ∉ ch->s.heap.get? b=some o->H b=none->h'.get? b=some o)
  (slot:∀ b o,b≠X.env.locals->b∈X.fs->b ∉ ch->s.heap.get? b=some o->H b=none->∃ sl,h'.get? b=some { o with slots:=sl }) (free:∀ b o,b ∉ ch->s.heap.get? b=some o->H b=none->H' b=none)
  (there:∀ b o,b ∉ ch->s.heap.get? b=some o->∃ o',h'.get? b=some o')
  (tups:∀ b xs,H b=some (.tup xs)->H' b=some (.tup xs)) (frzs:∀ b o u,H b=some (.frz o u)->H' b=some (.frz o u)) (tbls:∀ b ps,H b=some (.tbl ps)->∃ more,H' b=some (.tbl (ps++more)))
  (ns:∀ m,s.heap.Ns X.env.locals m->h'.Ns X.env.locals m) (hok:HOk X.prog X.w H' h') (hg:AllBare g') :
  Inv X pins σ H' { s with heap:=h',gens:=g',drawn:=d',toks:=t' }:=by
 have neL:∀ b o,X.s₀.heap.get? b=some o->b≠X.env.locals:=fun b o e=>Nat.ne_of_lt (Nat.lt_of_lt_of_le (Heap.lt_size e) I.ok.above)
 have neC:∀ b o,X.s₀.heap.get? b=some o->b ∉ X.ex->b ∉ ch:=fun b o e hx hb=>by
  rcases (hch b hb).1 with z|z
  ·exact hx z
  ·exact absurd (Nat.lt_of_lt_of_le (Heap.lt_size e) z) (Nat.lt_irrefl _)
 have cellK:∀ x c,X.env.cells.lookup x=some c->∀ v,s.heap.IsCell c v->h'.IsCell c v:=fun x c e v ⟨o,ho,hd⟩=>by
  have nch:c ∉ ch:=fun z=>(hch c z).2.2.1 x c e rfl
  by_cases hc:c∈X.fs
  ·obtain⟨sl,q⟩:=slot c o (I.cne x c e) hc nch ho (I.freeC x c e)
   exact⟨_,q,hd⟩
  ·exact⟨o,keep c o (I.cne x c e) hc nch ho (I.freeC x c e),hd⟩
 refine⟨I.ok,I.os,hg,⟨fun b o e n hb hx=>?_,fun b o e n hb hx=>?_,fun b o e n hx=>?_,fun b o e hx=>?_,fun b xs e=>tups b xs (I.base.tups b xs e),fun b o xs e=>frzs b o xs (I.base.frzs b o xs e),fun b ps e=>?_⟩,?_,fun x c e=>?_,?_,fun x c e=>?_,fun p hp=>?_,hok,I.len⟩
 ·exact keep b o (neL b o e) hb (neC b o e hx) (I.base.keep b o e n hb hx) (I.base.free b o e n hx)
 ·obtain⟨sl,e1⟩:=I.base.slot b o e n hb hx
  obtain⟨sl',e2⟩:=slot b _ (neL b o e) hb (neC b o e hx) e1 (I.base.free b o e n hx);exact⟨sl',e2⟩
 ·obtain⟨o',e1⟩:=I.base.there b o e hx
  exact free b o' (neC b o e hx) e1 (I.base.free b o e n hx)
 ·obtain⟨o',e1⟩:=I.base.there b o e hx
  exact there b o' (neC b o e hx) e1
 ·obtain⟨m1,e1⟩:=I.base.tbls b ps e
  obtain⟨m2,e2⟩:=tbls b _ e1;exact⟨m1++m2,by rw[e2,Array.append_assoc]⟩
 ·obtain⟨m,hn,hl⟩:=I.loc
  refine⟨m,ns m hn,fun i x v e1 e2 e3=>?_⟩
  obtain⟨u,r,l⟩:=hl i x v e1 e2 e3;refine⟨u,r,?_⟩;rcases l with l|⟨k,c,e,z⟩
  ·exact .inl l
  ·exact .inr ⟨k,c,e,cellK x c e _ z⟩
 ·obtain⟨v,z⟩:=I.cell x c e
  exact⟨v,cellK x c e v z⟩
 ·obtain⟨m,⟨o,_,_,ho,_⟩,_⟩:=I.loc
  exact free _ o (fun z=>(hch _ z).2.1 rfl) ho I.free
 ·obtain⟨v,o,ho,hd⟩:=I.cell x c e
  exact free c o (fun z=>(hch c z).2.2.1 x c e rfl) ho (I.freeC x c e)
 ·obtain⟨e,n,ne,nf,d⟩:=I.pin p hp
  have nch:p.1 ∉ ch:=fun z=>(hch p.1 z).2.2.2 p hp rfl
  exact⟨keep p.1 p.2 ne nf nch e n,free p.1 p.2 nch e n,ne,nf,d⟩
theorem Inv.un{t':Nat}(I:Inv X pins σ H s)(u:Un X.fs [] H H' s.heap h')(hok:HOk X.prog X.w H' h'):Inv X pins σ H' { s with heap:=h',toks:=t' }:=by
 obtain⟨m,⟨o,es,ep,ho,r⟩,_⟩:=id I.loc;obtain⟨sl,hL⟩:=u.any ho I.free (by simp)
 exact I.step (g':=s.gens) (d':=s.drawn) (ch:=[]) (fun _ z=>nomatch z) (fun b o _ hb _ e n=>u.keep b o e n hb (by simp)) (fun b o _ hb _ e n=>u.slot b o e n hb (by simp)) (fun b o _ e n=>u.free b o e n (by simp)) (fun b o _ e=>u.there b o e (by simp)) u.tups u.frzs u.tbls (fun m' hm=>by
  obtain⟨o',es',ep',ho',r'⟩:=hm;rw[ho] at ho';cases ho';exact⟨_,es',ep',hL,r'⟩) hok I.bare
theorem Inv.call{g':Array GenState}{t':Nat}{d':Drawn}{ch:List Addr}(I:Inv X pins σ H s)(u:Un (frs X.stack) ch H H' s.heap h')(hok:HOk X.prog X.w H' h')(hg:AllBare g')
  (hch:∀ b∈ch,(b∈X.ex\/X.s₀.heap.objs.size<=b)/\b≠X.env.locals/\(∀ x c,X.env.cells.lookup x=some c->c≠b)/\∀ p∈X.pn++pins,p.1≠b) :
  Inv X pins σ H' { s with heap:=h',gens:=g',drawn:=d',toks:=t' }:=by
 obtain⟨m,⟨o,es,ep,ho,r⟩,_⟩:=id I.loc;obtain⟨sl,hL⟩:=u.any ho I.free fun z=>(hch _ z).2.1 rfl
 exact I.step (ch:=ch) hch (fun b o hL hb hc e n=>u.keep b o e n (fun z=>(List.mem_cons.mp (I.stkSub b z)).elim hL hb) hc) (fun b o _ _ hc e n=>u.any e n hc) (fun b o hc e n=>u.free b o e n hc) (fun b o hc e=>u.there b o e hc) u.tups u.frzs u.tbls (fun m' hm=>by
  obtain⟨o',es',ep',ho',r'⟩:=hm;rw[ho] at ho';cases ho';exact⟨_,es',ep',hL,r'⟩) hok hg
theorem Inv.turned{t':Nat}{it:Addr}(I:Inv X pins σ H s)(k:∀ b o,b≠it->s.heap.get? b=some o->h'.get? b=some o)(hn:H it=none)(hL:it≠X.env.locals)
  (h1:it∈X.ex\/X.s₀.heap.objs.size<=it) (h2:∀ x c,X.env.cells.lookup x=some c->c≠it) (h3:∀ p∈X.pn++pins,p.1≠it):Inv X pins σ H { s with heap:=h',toks:=t' }:=by
 have nit:∀ b u,H b=some u->b≠it:=fun b u e z=>by rw[z,hn] at e;cases e
 refine I.step (g':=s.gens) (d':=s.drawn) (ch:=[it]) (fun b hb=>?_) (fun b o _ _ hc e _=>k b o (fun z=>hc (by simp[z])) e) (fun b o _ _ hc e _=>⟨o.slots,k b o (fun z=>hc (by simp[z])) e⟩) (fun _ _ _ _ n=>n)
  (fun b o hc e=>⟨o,k b o (fun z=>hc (by simp[z])) e⟩) (fun _ _ e=>e) (fun _ _ _ e=>e) (fun b ps e=>⟨#[],by rw[e];simp⟩) (fun m hm=>?_) (fun b u e=>?_) I.bare
 ·have e:b=it:=by simpa using hb
  subst e;exact⟨h1,hL,h2,h3⟩
 ·obtain⟨o,es,ep,ho,r⟩:=hm
  exact⟨o,es,ep,k _ o (Ne.symm hL) ho,r⟩
 ·refine(I.hok b u e).stay (fun c v hc q=>k c v ?_ q) (fun _ q=>q) fun _ _ q=>q
  rcases hc with z|z
  ·rw[z];exact nit b u e
  ·exact nit c _ z
theorem Inv.tok(I:Inv X pins σ H s)(t:Nat):Inv X pins σ H { s with toks:=t }:=I.un (h':=s.heap) (t':=t) Un.refl I.hok
theorem Inv.kept{t':Nat}(I:Inv X pins σ H s)(k:∀ b u,s.heap.get? b=some u->h'.get? b=some u):Inv X pins σ H { s with heap:=h',toks:=t' }:=I.un (Un.kept k) (I.hok.kept k)
theorem Inv.laid{a:Addr}{o:HO}{t':Nat}(I:Inv X pins σ H s)(k:∀ b u,s.heap.get? b=some u->h'.get? b=some u)(hp:s.heap.objs.size<=a)(new:ObjOk X.prog X.w (upd H a o) h' a o) :
  Inv X pins σ (upd H a o) { s with heap:=h',toks:=t' }:=I.un (Un.laid k hp (I.hok.fresh hp)) (I.hok.laid k hp new)
theorem Inv.write{x e:Addr}{o:HO}{t':Nat}(I:Inv X pins σ H s)(mu:Mut (H x))(he:e=x\/H e=some (.own x))(k:∀ b u,b≠e->s.heap.get? b=some u->h'.get? b=some u)(heo:∃ u,h'.get? e=some u)
  (new:ObjOk X.prog X.w (upd H x o) h' x o):Inv X pins σ (upd H x o) { s with heap:=h',toks:=t' }:=I.un (Un.write mu he k heo) (I.hok.write mu he k heo new)
theorem Inv.weak{σ':List (Option V)}(I:Inv X pins σ H s)(hl:σ'.length=σ.length)(w:∀ (i:Nat) v,σ'[i]?=some (some v)->σ[i]?=some (some v)):Inv X pins σ' H s :=
 ⟨I.ok,I.os,I.bare,I.base,let ⟨m,hn,hl'⟩:=I.loc;⟨m,hn,fun i x v e1 e2 e3=>hl' i x v e1 (w i v e2) e3⟩,I.cell,I.free,I.freeC,I.pin,I.hok,hl.trans I.len⟩
theorem Inv.pins_of{pins':List (Addr×Obj)}(I:Inv X pins σ H s)(h:∀ p∈pins',s.heap.get? p.1=some p.2/\H p.1=none/\p.1≠X.env.locals/\p.1 ∉ X.fs/\∀ v,p.2.data≠.cell v):Inv X pins' σ H s :=
 ⟨I.ok,I.os,I.bare,I.base,I.loc,I.cell,I.free,I.freeC,fun p hp=>(List.mem_append.mp hp).elim (fun z=>I.pin p (List.mem_append_left _ z)) (h p),I.hok,I.len⟩
theorem Xjt{N:List Str}(hN:N.Nodup){i j:Nat}{x:Str}(a:N[i]?=some x)(b:N[j]?=some x):i=j:=by
 obtain⟨h1,e1⟩:=List.getElem?_eq_some_iff.mp a;obtain⟨h2,e2⟩:=List.getElem?_eq_some_iff.mp b;exact(List.getElem_inj hN).mp (e1.trans e2.symm)
theorem Xim{M:Model}{A:Around}{E:Value->Shared->Prop}{i:Nat}{x:Str}{v:V}{u:Value}{Q:Unit->Shared->Prop}(I:Inv X pins σ H s)(hN:X.N.Nodup)(hi:X.N[i]?=some x)(hx:Loc X.env.scope x)(r:RelV v u)
  (h:∀ s',Inv X pins (σ.set i (some v)) H s'->(∃ a,Heap.SameBut a s.heap s'.heap/\(a=X.env.locals\/X.env.cells.lookup x=some a))->Q () s') (hf:X.fn x=true\/X.env.scope.names.lookup x=some .local:=by first|exact .inl rfl|exact .inr rfl|assumption):wpAny M A (storeName X.env x u) Q E s:=by
 obtain⟨m,hn,hl⟩:=id I.loc;have hcls:(X.env.scope.kind == .class||(X.env.scope.kind == .module&&X.env.locals != X.env.globals))=false:=by rw[I.ok.kind];rfl
 have hiσ:i < σ.length:=by rw[I.len];exact(List.getElem?_eq_some_iff.mp hi).1
 have cne:=I.cne;have tracked:∀ {a:Addr} {h':Heap},(∃ o,s.heap.get? a=some o/\H a=none)->Heap.SameBut a s.heap h'->HOk X.prog X.w H h':=fun {a h'} ha hs b ob e=>by
  obtain⟨_,_,hfree⟩:=ha;refine(I.hok b ob e).stay (fun c w' hc q=>(hs.2 c ?_).trans q) (fun _ q=>q) fun _ _ q=>q
  rintro rfl
  rcases hc with rfl|hc
  ·rw[hfree] at e;cases e
  ·rw[hfree] at hc;cases hc
 rcases hx with hk|hk
 ·refine wpAny_storeName_local hk hn (fun h' hn' hs=>?_) hcls
  obtain⟨oL,_,_,hoL,_⟩:=id hn;refine h _ ⟨I.ok,I.os,I.bare,⟨fun b o e n hb hx=>?_,fun b o e n hb hx=>?_,I.base.free,fun b o e hx=>?_,I.base.tups,I.base.frzs,I.base.tbls⟩,⟨_,hn',fun j y v' e1 e2 e3=>?_⟩,fun y c e=>?_,I.free,I.freeC,fun p hp=>?_,tracked ⟨oL,hoL,I.free⟩ hs,by simpa using I.len⟩ ⟨_,hs,.inl rfl⟩
  ·exact(hs.2 b (Nat.ne_of_lt (Nat.lt_of_lt_of_le (Heap.lt_size e) I.ok.above))).trans (I.base.keep b o e n hb hx)
  ·obtain⟨sl,e1⟩:=I.base.slot b o e n hb hx
   exact⟨sl,(hs.2 b (Nat.ne_of_lt (Nat.lt_of_lt_of_le (Heap.lt_size e) I.ok.above))).trans e1⟩
  ·obtain⟨o',e1⟩:=I.base.there b o e hx
   exact⟨o',(hs.2 b (Nat.ne_of_lt (Nat.lt_of_lt_of_le (Heap.lt_size e) I.ok.above))).trans e1⟩
  ·by_cases hj:j=i
   ·subst hj
    rw[hi] at e1;cases e1;rw[List.getElem?_set_self hiσ] at e2;cases e2;exact⟨u,r,.inl ⟨hk,by simp⟩⟩
   ·rw[List.getElem?_set_ne (Ne.symm hj)] at e2
    obtain⟨u',r',q⟩:=hl j y v' e1 e2 e3;refine⟨u',r',?_⟩;rcases q with⟨k,e⟩|⟨k,c,e,z⟩
    ·refine .inl ⟨k,?_⟩
     have:y≠x:=fun e=>hj (Xjt hN e1 (e▸hi))
     simp[this,e]
    ·exact .inr ⟨k,c,e,z.sameBut hs (cne y c e)⟩
  ·obtain⟨w',z⟩:=I.cell y c e
   exact⟨w',z.sameBut hs (cne y c e)⟩
  ·obtain⟨e,n,ne,nf,d⟩:=I.pin p hp
   exact⟨(hs.2 p.1 ne).trans e,n,ne,nf,d⟩
 ·have hfn:X.fn x=true:=by
   rcases hf with z|z
   ·exact z
   ·rw[z] at hk;cases hk
  obtain⟨c,hc⟩:=I.ok.has x (.inl hk);obtain⟨w',z⟩:=I.cell x c hc;refine wpAny_storeName_cell I.ok.kind hk hc z (fun h' hc' hs=>?_)
  obtain⟨oc,hoc,hocd⟩:=id z;refine h { s with heap:=h' } ⟨I.ok,I.os,I.bare,⟨fun b o e n hb hx=>?_,fun b o e n hb hx=>?_,I.base.free,fun b o e hx=>?_,I.base.tups,I.base.frzs,I.base.tbls⟩,⟨m,hn.sameBut hs (Ne.symm (cne x c hc)),fun j y v' e1 e2 e3=>?_⟩,fun y c' e=>?_,I.free,I.freeC,fun p hp=>?_,tracked ⟨oc,hoc,I.freeC x c hc⟩ hs,by simpa using I.len⟩ ⟨c,hs,.inr hc⟩
  ·exact(hs.2 b (Nat.ne_of_lt (Nat.lt_of_lt_of_le (Heap.lt_size e) (I.ok.cab x c hfn hc)))).trans (I.base.keep b o e n hb hx)
  ·obtain⟨sl,e1⟩:=I.base.slot b o e n hb hx
   exact⟨sl,(hs.2 b (Nat.ne_of_lt (Nat.lt_of_lt_of_le (Heap.lt_size e) (I.ok.cab x c hfn hc)))).trans e1⟩
  ·obtain⟨o',e1⟩:=I.base.there b o e hx
   exact⟨o',(hs.2 b (Nat.ne_of_lt (Nat.lt_of_lt_of_le (Heap.lt_size e) (I.ok.cab x c hfn hc)))).trans e1⟩
  ·by_cases hj:j=i
   ·subst hj
    rw[hi] at e1;cases e1;rw[List.getElem?_set_self hiσ] at e2;cases e2;exact⟨u,r,.inr ⟨.inl hk,c,hc,hc'⟩⟩
   ·rw[List.getElem?_set_ne (Ne.symm hj)] at e2
    obtain⟨u',r',q⟩:=hl j y v' e1 e2 e3;refine⟨u',r',?_⟩;rcases q with q|⟨k,c',e,z'⟩
    ·exact .inl q
    ·refine .inr ⟨k,c',e,z'.sameBut hs ?_⟩
     rintro rfl
     exact hj (Xjt hN e1 (I.ok.inj _ _ _ e hc▸hi))
  ·by_cases hcc:c'=c
   ·subst hcc;exact⟨_,hc'⟩
   ·obtain⟨w2,z2⟩:=I.cell y c' e
    exact⟨w2,z2.sameBut hs hcc⟩
  ·obtain⟨e,n,ne,nf,d⟩:=I.pin p hp
   refine⟨(hs.2 p.1 ?_).trans e,n,ne,nf,d⟩;intro q;rw[q,hoc] at e;have q':oc=p.2:=Option.some.inj e;exact d w' (by rw[<- q'];exact hocd)
theorem Xba{M:Model}{A:Around}{E:Value->Shared->Prop}{i:Nat}{x:Str}{v:V}{u:Value}{Q:Unit->Shared->Prop}(I:Inv X pins σ H s)(hN:X.N.Nodup)(hi:X.N[i]?=some x)(hx:Loc X.env.scope x)(r:RelV v u)
  (h:∀ s',Inv X pins (σ.set i (some v)) H s'->Q () s') (hf:X.fn x=true\/X.env.scope.names.lookup x=some .local:=by first|exact .inl rfl|exact .inr rfl|assumption):wpAny M A (storeName X.env x u) Q E s :=
 Xim I hN hi hx r (fun s' I' _=>h s' I') hf
theorem Inv.call'{s':Shared}{ch:List Addr}(I:Inv X pins σ H s)(ho:s'.os=s.os)(u:Un (frs X.stack) ch H H' s.heap s'.heap)(hok:HOk X.prog X.w H' s'.heap)(hg:AllBare s'.gens)
  (hch:∀ b∈ch,(b∈X.ex\/X.s₀.heap.objs.size<=b)/\b≠X.env.locals/\(∀ x c,X.env.cells.lookup x=some c->c≠b)/\∀ p∈X.pn++pins,p.1≠b):Inv X pins σ H' s':=by
 obtain⟨h',g',d',t',o'⟩:=s';have e:o'=s.os:=ho;subst e;exact I.call (g':=g') (t':=t') (d':=d') u hok hg hch
end
abbrev XK:=Value->Option Addr->Hp->Prop
noncomputable abbrev St:=List (Option V)
abbrev VK:=V->Hp->Prop
abbrev TE:=St->Hp->VK->Prop
structure Ends where
 nx:St->Hp->Prop
 rt:VK
 bk:St->Hp->Prop:=fun _ _=>False
 ct:St->Hp->Prop:=fun _ _=>False
def EP(X:Cx)(pins:List (Addr×Obj))(σ:St)(Q:VK)(u:Value)(s':Shared):Prop:=∃ v H',Inv X pins σ H' s'/\RelV v u/\Q v H'
def TP(X:Cx)(pins:List (Addr×Obj))(σ:St)(Q:Bool->Hp->Prop)(b:Bool)(s':Shared):Prop:=∃ H',Inv X pins σ H' s'/\Q b H'
def SP(X:Cx)(pins:List (Addr×Obj))(D:Ends)(f:Flow)(s':Shared):Prop :=
 match f with
 | .next=>∃ σ' H',Inv X pins σ' H' s'/\D.nx σ' H'
 | .brk=>∃ σ' H',Inv X pins σ' H' s'/\D.bk σ' H'
 | .cont=>∃ σ' H',Inv X pins σ' H' s'/\D.ct σ' H'
 | .ret u=>∃ v σ' H',Inv X pins σ' H' s'/\RelV v u/\D.rt v H'
def PE(X:Cx)(e:Expr)(t:TE):Prop :=
 ∀ (pins:List (Addr×Obj)) (s:Shared) (σ:St) (H:Hp) (Q:VK),Inv X pins σ H s->t σ H Q->wpAny (model X.prog X.w) X.A (eval e X.env) (EP X pins σ Q) X.xe s
theorem thn{α:Type}{t:Sem α}{Q Q':α->Shared->Prop}{M:Model}{A:Around}{E:Value->Shared->Prop}{s:Shared}(h:wpAny M A t Q E s)(hQ:∀ a s,Q a s->Q' a s):wpAny M A t Q' E s:=wpAny_mono h hQ fun _ _ x=>x
end L2
namespace L2
open PySem PySem.Spec PyProof.Rows
section
variable{X:Cx}
theorem bin{a b:Expr}{ta tb:TE}(ha:PE X a ta)(hb:PE X b tb){pins:List (Addr×Obj)}{s:Shared}{σ:St}{H:Hp}{R:V->V->Hp->Prop}(I:Inv X pins σ H s)(h:ta σ H fun x H1=>tb σ H1 fun y H2=>R x y H2)
  {α:Type} {Q:α->Shared->Prop} {f:Value->Value->Sem α}
  (hf:∀ v u s2 x y H2,Inv X pins σ H2 s2->RelV x v->RelV y u->R x y H2->wpAny (model X.prog X.w) X.A (f v u) Q X.xe s2) :
  wpAny (model X.prog X.w) X.A (eval a X.env) (fun v s₁=>wpAny (model X.prog X.w) X.A (eval b X.env) (fun u s₂=>wpAny (model X.prog X.w) X.A (f v u) Q X.xe s₂) X.xe s₁) X.xe s:=by
 refine thn (ha pins s σ H _ I h) fun v s1 ⟨x,H1,I1,r1,q1⟩=>?_
 refine thn (hb pins s1 σ H1 _ I1 q1) fun u s2 ⟨y,H2,I2,r2,q2⟩=>?_
 exact hf v u s2 x y H2 I2 r1 r2 q2
noncomputable def X4p(i:Nat):TE:=fun σ H Q=>∃ v,σ[i]?=some (some v)/\Q v H
noncomputable def tC(v:V):TE:=fun _ H Q=>Q v H
theorem Xzd {i:Nat} {x:Str} {pos:Pos} (hN:X.N[i]?=some x) (hv:Vis X.env.scope x) (hd:(x==("__debug__" : Str))=false:=by decide) (hcd:(x==("__classdict__" : Str))=false:=by decide):PE X (.Name x pos) (X4p i):=by
 intro pins s σ H Q I h;obtain⟨v,e,h⟩:=h;obtain⟨m,hn,hl⟩:=I.loc;obtain⟨u,r,l⟩:=hl i x v hN e hv;have fin:EP X pins σ Q u s:=⟨v,H,I,r,h⟩;rcases l with⟨hk,hm⟩|⟨hk,c,hc,hcell⟩
 ·exact wpAny_Name (wpAny_loadName_local I.ok.kind hk hn hm fin) hd
 ·rcases hk with hk|hk
  ·exact wpAny_Name (wpAny_loadName_cell I.ok.kind hk hc hcell fin) hd
  ·exact wpAny_Name (wpAny_loadName_free I.ok.kind hk hc hcell fin hcd) hd
theorem Xze{i j pos}:PE X (.Constant (.int i) j pos) (tC (.int i)):=fun _ _ _ H _ I h=>wpAny_Constant_int ⟨.int i,H,I.tok _,⟨_,rfl⟩,h⟩
theorem X2z{b j pos}:PE X (.Constant (.bool b) j pos) (tC (.bl b)):=fun _ _ _ H _ I h=>Constant_bool ⟨.bl b,H,I,rfl,h⟩
theorem Xzf{j pos}:PE X (.Constant .none j pos) (tC .non):=fun _ _ _ H _ I h=>Constant_none ⟨.non,H,I,rfl,h⟩
theorem Xzg{x j pos}:PE X (.Constant (.str x) j pos) (tC (.str x)):=fun _ _ _ H _ I h=>Calls.Constant_str ⟨.str x,H,I.tok _,⟨_,rfl⟩,h⟩
def Gl(X:Cx)(x:Str):Prop:=X.env.kindOf x=some .globalImplicit
theorem Xdc{E:Value->Shared->Prop}{pins:List (Addr×Obj)}{s:Shared}{σ:St}{H:Hp}{x:Str}{u:Value}{pos:Pos}{Q:Value->Shared->Prop}(I:Inv X pins σ H s)(hg:Gl X x)(hm:X.mg x=some u)(h:Q u s)
  (hd:(x==("__debug__" : Str))=false:=by decide):wpAny (model X.prog X.w) X.A (eval (.Name x pos) X.env) Q E s :=
 Calls.Name_function_global I.ok.kind hg (Calls.loadGlobal_global (by rw[I.ok.glob];exact I.mod.glob.keeps I.bk) hm h) hd
theorem Xaj{E:Value->Shared->Prop}{pins:List (Addr×Obj)}{s:Shared}{σ:St}{H:Hp}{x:Str}{u:Value}{pos:Pos}{Q:Value->Shared->Prop}(I:Inv X pins σ H s)(hg:Gl X x)(hm:X.mg x=none)(hv:bootBuiltins x=some u)(h:Q u s)
  (hn:x ≠ "__name__" := by decide) (hd:(x==("__debug__" : Str))=false:=by decide):wpAny (model X.prog X.w) X.A (eval (.Name x pos) X.env) Q E s:=by
 obtain⟨mb,h1,h2⟩:=I.mod.blt;exact Calls.Name_function_global I.ok.kind hg (Calls.loadGlobal_builtin (by rw[I.ok.glob];exact I.mod.glob.keeps I.bk) hm (by rw[I.ok.blt];exact h1.keeps I.bk) ((h2 x hn).trans hv) h) hd
variable{a b:Expr}{ta tb:TE}{pos:Pos}
variable{tA tB':TT}{Xao:List Expr}
end
end L2
namespace L2
open PySem PySem.Spec PyProof.Rows
def SqL(K:PySem.W.Frag)(H:Hp)(a:Addr)(xs:List V):Prop :=
 Rd H a (.lst xs) \/
  ∃ (o:Obj) (its:Array Value) (n:Nat),K.lookup a=some o/\o.cls=.type "list" /\ o.dict=none/\o.data=.seq its n/\its.size<=sizeLine/\Vals xs its.toList
def SqT(K:PySem.W.Frag)(H:Hp)(a:Addr)(xs:List V):Prop :=
 Rd H a (.tup xs) \/
  ∃ (o:Obj) (its:Array Value) (n:Nat),K.lookup a=some o/\o.cls=.type "tuple" /\ o.data=.seq its n/\its.size<=sizeLine/\Vals xs its.toList
noncomputable def X4q:Value->Option V
 | .none=>some .non
 | .bool b=>some (.bl b)
 | .int i _=>some (.int i)
 | .str x _=>some (.str x)
 | .bytes b _=>some (.byt b)
 | .float b _=>some (.flt b)
 | .ref a=>some (.ref a)
 | .type n=>some (.ty n)
 | _=>none
theorem RelV.abs{x:V}{u:Value}(r:RelV x u):X4q u=some x:=by
 cases x with
 | non=>cases r;rfl
 | bl _=>cases r;rfl
 | int _=>obtain⟨t,rfl⟩:=r;rfl
 | str _=>obtain⟨t,rfl⟩:=r;rfl
 | byt _=>obtain⟨t,rfl⟩:=r;rfl
 | flt _=>obtain⟨t,rfl⟩:=r;rfl
 | ref _=>cases r;rfl
 | ty _=>cases r;rfl
theorem RelV.inj{x y:V}{u:Value}(r:RelV x u)(q:RelV y u):x=y:=Option.some.inj (r.abs.symm.trans q.abs)
theorem Vals.inj:∀ {xs ys:List V} {us:List Value},Vals xs us->Vals ys us->xs=ys
 | _,_,_,.nil,.nil=>rfl
 | _,_,_,.cons r t,.cons r' t'=>by rw[r.inj r',Vals.inj t t']
section
variable{X:Cx}{pins:List (Addr×Obj)}{σ:St}{H:Hp}{s:Shared}{a:Addr}{xs ys:List V}
theorem SqL.of{K:PySem.W.Frag}(h:H a=some (.lst xs)):SqL K H a xs:=.inl (.inl h)
theorem SqT.of{K:PySem.W.Frag}(h:H a=some (.tup xs)):SqT K H a xs:=.inl (.inl h)
theorem Inv.list(I:Inv X pins σ H s)(h:SqL X.K H a xs):∃ its:List Value,Vals xs its/\PlainL s.heap a its.toArray/\xs.length<=sizeLine:=by
 rcases h with h|⟨o,its,n,hk,hc,hd,hs,hz,r⟩
 ·obtain⟨z,its,n,r,e⟩:=h.ok I.hok
  exact⟨its,r,⟨_,n,e,rfl,rfl,rfl⟩,z⟩
 ·refine⟨its.toList,r,⟨o,n,I.kIn a o hk,hc,hd,by simpa using hs⟩,?_⟩
  have e:=r.length;simp only[Array.length_toList] at e;omega
theorem Inv.tuple(I:Inv X pins σ H s)(h:SqT X.K H a xs):∃ its:List Value,Vals xs its/\IsTup s.heap a its.toArray/\xs.length<=sizeLine:=by
 rcases h with h|⟨o,its,n,hk,hc,hs,hz,r⟩
 ·obtain⟨z,its,r,p⟩:=h.ok I.hok
  exact⟨its,r,p,z⟩
 ·refine⟨its.toList,r,⟨o,I.kIn a o hk,hc,n,by simpa using hs⟩,?_⟩
  have e:=r.length;simp only[Array.length_toList] at e;omega
theorem Inv.list_inj(I:Inv X pins σ H s)(h:SqL X.K H a xs)(h':SqL X.K H a ys):xs=ys:=by
 obtain⟨its,r,⟨o,n,e,_,_,d⟩,_⟩:=I.list h;obtain⟨its',r',⟨o',n',e',_,_,d'⟩,_⟩:=I.list h';rw[e] at e';cases e';rw[d] at d';injection d' with d1 _
 have:its=its':=by simpa using congrArg Array.toList d1
 subst this;exact r.inj r'
theorem Inv.tuple_inj(I:Inv X pins σ H s)(h:SqT X.K H a xs)(h':SqT X.K H a ys):xs=ys:=by
 obtain⟨its,r,⟨o,e,_,n,d⟩,_⟩:=I.tuple h;obtain⟨its',r',⟨o',e',_,n',d'⟩,_⟩:=I.tuple h';rw[e] at e';cases e';rw[d] at d';injection d' with d1 _
 have:its=its':=by simpa using congrArg Array.toList d1
 subst this;exact r.inj r'
end
noncomputable abbrev Cx.wish(X:Cx)(E:Value->Shared->Prop):Cx:={ X with xe:=E }
theorem Cx.Ok.wish{X:Cx}(ok:X.Ok)(E:Value->Shared->Prop):(X.wish E).Ok :=
 ⟨ok.mod,ok.kind,ok.glob,ok.blt,ok.above,ok.inj,ok.has,ok.cab,ok.hd,ok.frames,ok.stk,ok.exf,ok.bs,ok.bsz,ok.noex,ok.exfs,ok.funs,ok.frf⟩
theorem Cx.Ok.unwish{X:Cx}{E:Value->Shared->Prop}(ok:(X.wish E).Ok):X.Ok :=
 ⟨ok.mod,ok.kind,ok.glob,ok.blt,ok.above,ok.inj,ok.has,ok.cab,ok.hd,ok.frames,ok.stk,ok.exf,ok.bs,ok.bsz,ok.noex,ok.exfs,ok.funs,ok.frf⟩
section
variable{X:Cx}{pins:List (Addr×Obj)}{σ:St}{H:Hp}{s:Shared}{E:Value->Shared->Prop}
theorem Inv.wish(I:Inv X pins σ H s)(E:Value->Shared->Prop):Inv (X.wish E) pins σ H s:=⟨I.ok.wish E,I.os,I.bare,I.base,I.loc,I.cell,I.free,I.freeC,I.pin,I.hok,I.len⟩
theorem Inv.unwish(I:Inv (X.wish E) pins σ H s):Inv X pins σ H s:=⟨I.ok.unwish,I.os,I.bare,I.base,I.loc,I.cell,I.free,I.freeC,I.pin,I.hok,I.len⟩
theorem SP.unwish{D:Ends}{f:Flow}{s':Shared}(h:SP (X.wish E) pins D f s'):SP X pins D f s':=by
 cases f with
 | next=>obtain⟨σ',H',I,q⟩:=h;exact⟨σ',H',I.unwish,q⟩
 | brk=>obtain⟨σ',H',I,q⟩:=h;exact⟨σ',H',I.unwish,q⟩
 | cont=>obtain⟨σ',H',I,q⟩:=h;exact⟨σ',H',I.unwish,q⟩
 | ret u=>obtain⟨v,σ',H',I,r,q⟩:=h;exact⟨v,σ',H',I.unwish,r,q⟩
end
section
variable{X:Cx}{st:Stmt}{Xao:List Stmt}{t u:TS}{e:Expr}{te:TE}{pos:Pos}
theorem Inv.quiet{pins:List (Addr×Obj)}{σ:St}{H:Hp}{s:Shared}(I:Inv X pins σ H s):interactive X.env=false:=by simp[interactive,I.ok.kind]
end
abbrev TG:=V->St->Hp->(St->Hp->Prop)->Prop
abbrev TGs:=List V->St->Hp->(St->Hp->Prop)->Prop
def PG(X:Cx)(target:Expr)(t:TG):Prop :=
 ∀ (pins:List (Addr×Obj)) (s:Shared) (σ:St) (H:Hp) (v:V) (u:Value) (Q:St->Hp->Prop),Inv X pins σ H s->RelV v u->t v σ H Q ->
  wpAny (model X.prog X.w) X.A (assign target X.env u) (fun _ s'=>∃ σ' H',Inv X pins σ' H' s'/\Q σ' H') X.xe s
def PGs(X:Cx)(ts:List Expr)(t:TGs):Prop :=
 ∀ (pins:List (Addr×Obj)) (s:Shared) (σ:St) (H:Hp) (vs:List V) (us:List Value) (Q:St->Hp->Prop),Inv X pins σ H s->Vals vs us->t vs σ H Q ->
  wpAny (model X.prog X.w) X.A (assignInOrder ((assignEach ts X.env).map (·.2)) us) (fun _ s'=>∃ σ' H',Inv X pins σ' H' s'/\Q σ' H') X.xe s
abbrev X4r:=V->V->V->Hp->(Hp->Prop)->Prop
def X4s(X:Cx)(t:X4r):Prop :=
 ∀ (pins:List (Addr×Obj)) (s:Shared) (σ:St) (H:Hp) (o i v:V) (ov iv u:Value) (Q:Hp->Prop),Inv X pins σ H s->RelV o ov->RelV i iv->RelV v u->t o i v H Q ->
  wpAny (model X.prog X.w) X.A (setItem ov iv u) (fun _ s'=>∃ H',Inv X pins σ H' s'/\Q H') X.xe s
section
variable{X:Cx}{pos:Pos}
noncomputable def Xux(i:Nat):TG:=fun v σ H Q=>Q (σ.set i (some v)) H
theorem Xvq{i:Nat}{x:Str}(hN:X.N.Nodup)(hi:X.N[i]?=some x)(hx:Loc X.env.scope x)(hf:X.fn x=true\/X.env.scope.names.lookup x=some .local:=by first|exact .inl rfl|exact .inr rfl|assumption):PG X (.Name x pos) (Xux i):=by
 intro pins s σ H v u Q I r h;exact wpAny_assign_Name (Xba I hN hi hx r (fun s' I'=>⟨_,H,I',h⟩) hf)
noncomputable def Xzh:TGs:=fun vs σ H Q=>vs=[]/\Q σ H
noncomputable def Xuy(t:TG)(u:TGs):TGs:=fun vs σ H Q=>∃ v r,vs=v::r/\t v σ H fun σ' H'=>u r σ' H' Q
theorem Xvr:PGs X [] Xzh:=by
 intro pins s σ H vs us Q I r h;obtain⟨e,h⟩:=h;subst e;cases r;exact assignInOrder_nil ⟨σ,H,I,h⟩
theorem Xr5{e:Expr}{es:List Expr}{t:TG}{u:TGs}(h1:PG X e t)(h2:PGs X es u)
  (hs:(assignEach (e::es) X.env).map (·.2)=assign e X.env::(assignEach es X.env).map (·.2):=by rfl):PGs X (e::es) (Xuy t u):=by
 intro pins s σ H vs us Q I r h;obtain⟨v,vr,e1,h⟩:=h;subst e1;cases r with
 | cons r rr =>
  rw[hs];refine assignInOrder_cons (thn (h1 pins s σ H _ _ _ I r h) fun _ s1 ⟨σ1,H1,I1,q1⟩=>?_)
  exact h2 pins s1 σ1 H1 _ _ Q I1 rr q1
noncomputable def X4t(K:PySem.W.Frag)(n:Nat)(t:TGs):TG:=fun v σ H Q=>∃ a xs,v=.ref a/\SqT K H a xs/\xs.length=n/\t xs σ H Q
theorem Xzi{es:List Expr}{k:Nat}{t:TGs}{n:Nat}(hc:X.calm=true)(h:PGs X es t)
  (hn:(assignEach es X.env).length=n:=by rfl) (hst:(assignEach es X.env).findIdx? (·.1)=none:=by rfl):PG X (.Tuple es k pos) (X4t X.K n t):=by
 intro pins s σ H v u Q I r hw;obtain⟨a,xs,e1,hq,hl,hw⟩:=hw;subst e1;cases r;obtain⟨its,rv,ht,hz⟩:=I.tuple hq;refine assign_Tuple_tuple (I.ok.hd hc) ht (by simp[hn,<- hl,rv.length]) hst fun h' hx=>?_
 have I1:Inv X pins σ H { s with heap:=h' }:=I.kept (t':=s.toks) fun b o e=>hx b o (Nat.ne_of_lt (Heap.lt_size e)) e
 exact h pins _ σ H xs _ Q I1 (by simpa using rv) hw
end
structure It where
 go:Nat->Hp->Prop
 yld:Nat->Hp->V->Hp->Prop
 stop:Nat->Hp->Prop
def Xak(X:Cx)(pins:List (Addr×Obj))(H:Hp)(b:Addr):Prop :=
 H b=none/\b≠X.env.locals/\b ∉ X.fs/\(b∈X.ex\/X.s₀.heap.objs.size<=b)/\(∀ x c,X.env.cells.lookup x=some c->c≠b)/\∀ p∈X.pn++pins,p.1≠b
theorem Inv.fpOk{X:Cx}{pins:List (Addr×Obj)}{σ:St}{H H':Hp}{s:Shared}{b:Addr}(I:Inv X pins σ H s)(hb:s.heap.objs.size<=b)(hn:H' b=none):Xak X pins H' b:=by
 refine⟨hn,Nat.ne_of_gt (Nat.lt_of_lt_of_le I.lt hb),I.nofs hb,.inr (Nat.le_trans I.sz hb),fun x c e z=>?_,fun p hp z=>?_⟩
 ·obtain⟨v,q⟩:=I.cell x c e
  exact absurd (Nat.lt_of_lt_of_le q.lt (by rw[z];exact hb)) (Nat.lt_irrefl _)
 ·exact absurd (Nat.lt_of_lt_of_le (Heap.lt_size (I.pin p hp).1) (by rw[z];exact hb)) (Nat.lt_irrefl _)
structure Turn(P:Program)(w:World)(K:PySem.W.Frag)(tg:Expr)(J:It)(fp:List Addr)(it:Addr)(tn:Nat->Heap->Prop):Prop where
 mem:it∈fp
 obj:∀ i h,tn i h->∀ b∈fp,∃ o,h.get? b=some o/\∀ v,o.data≠.cell v
 keep:∀ i h h',tn i h->(∀ b∈fp,∀ o,h.get? b=some o->h'.get? b=some o)->tn i h'
 item:∀ (X:Cx),X.prog=P->X.w=w->X.K=K->X.calm=true->∀ (i:Nat) (pins:List (Addr×Obj)) (s:Shared) (σ:St) (H:Hp) (E:Value->Shared->Prop),Inv X pins σ H s->(∀ b∈fp,Xak X pins H b)->tn i s.heap->J.go i H ->
  wpAny (model P w) X.A (pyNext (.ref it)) (fun r s1=>∃ u,r=some u /\
   wpAny (model P w) X.A (letOwnedTupleGo tg (.ref it) u) (fun _ s2=>∃ x H',Inv X pins σ H' s2/\RelV x u/\J.yld i H x H'/\tn (i+1) s2.heap/\∀ b∈fp,H' b=none) E s1) E s
 done:∀ (X:Cx),X.prog=P->X.w=w->X.K=K->X.calm=true->∀ (i:Nat) (pins:List (Addr×Obj)) (s:Shared) (σ:St) (H:Hp) (E:Value->Shared->Prop),Inv X pins σ H s->(∀ b∈fp,Xak X pins H b)->tn i s.heap->J.stop i H ->
  wpAny (model P w) X.A (pyNext (.ref it)) (fun r s1=>r=none/\Inv X pins σ H s1) E s
 self:∀ (A:Around) (i:Nat) (s:Shared) (Q:Value->Shared->Prop) (E:Value->Shared->Prop),tn i s.heap->Q (.ref it) s->wpAny (model P w) A (pyIter (.ref it)) Q E s
def PIE(X:Cx)(pins:List (Addr×Obj))(σ:St)(tg:Expr)(R:It->Hp->Prop)(itv:Value)(s2:Shared):Prop :=
 ∃ (it:Addr) (fp:List Addr) (tn:Nat->Heap->Prop) (J:It) (H':Hp),itv=.ref it/\Inv X pins σ H' s2/\Turn X.prog X.w X.K tg J fp it tn/\tn 0 s2.heap/\(∀ b∈fp,Xak X pins H' b)/\R J H'
theorem Xjg{M:Model}{A:Around}{E:Value->Shared->Prop}{s:Shared}{tg:Expr}{it:Addr}{u:Value}{o:Obj}{n:String}{vs:Array Value}{Q:Unit->Shared->Prop}(ho:s.heap.get? it=some o)(hc:o.cls=.type n)(hd:o.data=.fields vs)
  (hn:["enumerate","zip","dict_itemiterator","dict_reverseitemiterator","odict_iterator","itertools.zip_longest","itertools.pairwise"].contains n=false) (hQ:Q () s):wpAny M A (letOwnedTupleGo tg (.ref it) u) Q E s:=by
 unfold letOwnedTupleGo;cases tg<;>first
  | exact wpAny_pure hQ
  | (cases u<;>first
    | exact wpAny_pure hQ
    | (refine wpAny_bind (wpAny_load ho ?_)
       rw[hc,hd];show wpAny M A (if (["enumerate","zip","dict_itemiterator","dict_reverseitemiterator","odict_iterator","itertools.zip_longest","itertools.pairwise"].contains n&&vs[0]?==some (rawInt _))=true then _ else _) Q E s
       rw[if_neg (by intro h;rw[hn,Bool.false_and] at h;cases h)]
       exact wpAny_pure hQ))
noncomputable def Itl(K:PySem.W.Frag)(a:Addr):It :=
 ⟨fun i H=>∃ xs x,SqL K H a xs/\xs[i]?=some x,fun i H x H'=>H'=H/\∀ xs,SqL K H a xs->xs[i]?=some x,fun i H=>∃ xs,SqL K H a xs/\xs.length<=i⟩
noncomputable def Itt(K:PySem.W.Frag)(a:Addr):It :=
 ⟨fun i H=>∃ xs x,SqT K H a xs/\xs[i]?=some x,fun i H x H'=>H'=H/\∀ xs,SqT K H a xs->xs[i]?=some x,fun i H=>∃ xs,SqT K H a xs/\xs.length<=i⟩
noncomputable def Itr(lo:Int)(n:Nat):It:=⟨fun i _=>i<n,fun i H x H'=>H'=H/\x=.int (lo+i),fun i _=>n<=i⟩
theorem Xpp{P:Program}{w:World}{K:PySem.W.Frag}{tg:Expr}(a it:Addr):Turn P w K tg (Itl K a) [it] it (fun i h=>h.IsListIter it a i) where
 mem:=by simp
 obj:=fun i h st b hb=>by
  have e:b=it:=by simpa using hb
  subst e;obtain⟨o,e,c,d⟩:=st;exact⟨o,e,fun v z=>by rw[d] at z;cases z⟩
 keep:=fun i h h' st k=>st.at fun o e=>k it (by simp) o e
 item:=by
  intro X hP hw hK hc i pins s σ H E I hf st hg;subst hP hw hK;obtain⟨xs,x,hq,hx⟩:=hg;obtain⟨its,rv,p,hz⟩:=I.list hq;obtain⟨u,hu,ru⟩:=rv.get hx;obtain⟨f0,f1,f2,f3,f4,f5⟩:=hf it (by simp)
  refine wpAny_pyNext_list_item st p.isList (x:=u) (by simpa using hu) fun h' st' sb=>?_
  have I1:Inv X pins σ H { s with heap:=h' }:=I.turned (t':=s.toks) (fun b o hb e=>(sb.2 b hb).trans e) f0 f1 f3 f4 f5
  obtain⟨o,e,c,d⟩:=id st';exact⟨u,rfl,Xjg (s:={ s with heap:=h' }) e c d (by decide) ⟨x,H,I1,ru,⟨rfl,fun ys hy=>by rw[I.list_inj hy hq];exact hx⟩,st',fun b hb=>(hf b hb).1⟩⟩
 done:=by
  intro X hP hw hK hc i pins s σ H E I hf st hg;subst hP hw hK;obtain⟨xs,hq,hx⟩:=hg;obtain⟨its,rv,p,hz⟩:=I.list hq;obtain⟨f0,f1,f2,f3,f4,f5⟩:=hf it (by simp)
  have hl:=rv.length;exact wpAny_pyNext_list_end (I.ok.hd hc) st p.isList (by simp;omega) fun h' eb=>⟨rfl,I.turned (t':=s.toks) (fun b o hb e=>eb b o hb e) f0 f1 f3 f4 f5⟩
 self:=fun _ _ _ _ _ st h=>wpAny_pyIter_listiter st h
theorem Xnl{P:Program}{w:World}{K:PySem.W.Frag}{tg:Expr}(a it:Addr):Turn P w K tg (Itt K a) [it] it (fun i h=>h.IsTupleIter it a i) where
 mem:=by simp
 obj:=fun i h st b hb=>by
  have e:b=it:=by simpa using hb
  subst e;obtain⟨o,e,c,d⟩:=st;exact⟨o,e,fun v z=>by rw[d] at z;cases z⟩
 keep:=fun i h h' st k=>st.at fun o e=>k it (by simp) o e
 item:=by
  intro X hP hw hK hc i pins s σ H E I hf st hg;subst hP hw hK;obtain⟨xs,x,hq,hx⟩:=hg;obtain⟨its,rv,p,hz⟩:=I.tuple hq;obtain⟨u,hu,ru⟩:=rv.get hx;obtain⟨f0,f1,f2,f3,f4,f5⟩:=hf it (by simp)
  refine wpAny_pyNext_tuple_item st (show s.heap.IsTuple a its.toArray from p) (x:=u) (by simpa using hu) fun h' st' sb=>?_
  have I1:Inv X pins σ H { s with heap:=h' }:=I.turned (t':=s.toks) (fun b o hb e=>(sb.2 b hb).trans e) f0 f1 f3 f4 f5
  obtain⟨o,e,c,d⟩:=id st';exact⟨u,rfl,Xjg (s:={ s with heap:=h' }) e c d (by decide) ⟨x,H,I1,ru,⟨rfl,fun ys hy=>by rw[I.tuple_inj hy hq];exact hx⟩,st',fun b hb=>(hf b hb).1⟩⟩
 done:=by
  intro X hP hw hK hc i pins s σ H E I hf st hg;subst hP hw hK;obtain⟨xs,hq,hx⟩:=hg;obtain⟨its,rv,p,hz⟩:=I.tuple hq;obtain⟨f0,f1,f2,f3,f4,f5⟩:=hf it (by simp)
  have hl:=rv.length;exact wpAny_pyNext_tuple_end (I.ok.hd hc) st (show s.heap.IsTuple a its.toArray from p) (by simp;omega) fun h' eb=>⟨rfl,I.turned (t':=s.toks) (fun b o hb e=>eb b o hb e) f0 f1 f3 f4 f5⟩
 self:=fun _ _ _ _ _ st h=>wpAny_pyIter_tupleiter st h
theorem Xnm{P:Program}{w:World}{K:PySem.W.Frag}{tg:Expr}(it:Addr)(lo:Int)(n:Nat):Turn P w K tg (Itr lo n) [it] it (fun i h=>IsRangeIter h it (lo+(i:Nat)*1) ((n:Int)-(i:Nat)) 1) where
 mem:=by simp
 obj:=fun i h st b hb=>by
  have e:b=it:=by simpa using hb
  subst e;exact⟨_,st,fun v z=>by
   have z':Data.fields _=Data.cell v:=z;cases z'⟩
 keep:=fun i h h' st k=>k it (by simp) _ st
 item:=by
  intro X hP hw hK hc i pins s σ H E I hf st hg;subst hP hw hK;obtain⟨f0,f1,f2,f3,f4,f5⟩:=hf it (by simp)
  have W:=Walks.range (prog:=X.prog) (w:=X.w) (I.ok.hd hc) it lo 1 n;refine W.item i s _ _ hg st fun v h' tk hv st' kk=>?_
  obtain⟨t,rfl⟩:=hv;have I1:Inv X pins σ H { s with heap:=h',toks:=tk }:=I.turned (fun b o hb e=>kk b o (by simpa using hb) e) f0 f1 f3 f4 f5
  refine⟨_,rfl,Xjg (s:={ s with heap:=h',toks:=tk }) (n := "range_iterator") st' rfl rfl (by decide) ⟨.int (lo+i),H,I1,⟨t,?_⟩,⟨rfl,rfl⟩,st',fun b hb=>(hf b hb).1⟩⟩
  rw[Int.mul_one]
 done:=by
  intro X hP hw hK hc i pins s σ H E I hf st hg;subst hP hw hK;obtain⟨f0,f1,f2,f3,f4,f5⟩:=hf it (by simp)
  exact wpAny_pyNext_range_end (I.ok.hd hc) st (by have:n<=i:=hg;omega) fun h' eb=>⟨rfl,I.turned (t':=s.toks) (fun b o hb e=>eb b o hb e) f0 f1 f3 f4 f5⟩
 self:=fun _ _ _ _ _ st h=>wpAny_pyIter_rangeiter st h
end L2
namespace L2
open PySem PySem.Spec PyProof.Rows
section
variable{X:Cx}{tg:Expr}
theorem Xr6{pins:List (Addr×Obj)}{σ:St}{H:Hp}{s:Shared}{R:It->Hp->Prop}{E:Value->Shared->Prop}{lo hi:Int}{t u v:Tok}{tk:Nat}(I:Inv X pins σ H s)(h1:-(2^62)<=lo)(h2:lo<2^62)(h3:-(2^62)<=hi)(h4:hi<2^62)
  (q:R (Itr lo (hi-lo).toNat) H):wpAny (model X.prog X.w) X.A (pyIter (.ref s.heap.objs.size)) (PIE X pins σ tg R) E { s with heap:=s.heap.push { cls:=.type "range",data:=.fields #[.int lo t,.int hi u,.int 1 v] },toks:=tk }:=by
 refine wpAny_pyIter_range (IsRange.new ..) (small_one h1 h2 h3 h4) ?_;have I1:Inv X pins σ H { s with heap:=s.heap.push { cls:=.type "range",data:=.fields #[.int lo t,.int hi u,.int 1 v] },toks:=tk }:=I.kept fun b o e=>Heap.get?_push_of_some _ e
 refine⟨(s.heap.push { cls:=.type "range",data:=.fields #[.int lo t,.int hi u,.int 1 v] }).objs.size,[(s.heap.push { cls:=.type "range",data:=.fields #[.int lo t,.int hi u,.int 1 v] }).objs.size],_,_,H,rfl,
  I1.kept (t':=tk) fun b o e=>Heap.get?_push_of_some _ e,Xnm _ lo (hi-lo).toNat,?_,fun b hb=>?_,q⟩
 ·have e1:lo+((0:Nat):Int)*1=lo:=by simp
  have e2:(((hi-lo).toNat:Nat):Int)-((0:Nat):Int)=Builtin.Range.rangeSize lo hi 1:=by rw[rangeSize_one];split<;>omega
  show IsRangeIter _ _ (lo+((0:Nat):Int)*1) ((((hi-lo).toNat:Nat):Int)-((0:Nat):Int)) 1;rw[e1,e2];exact Heap.get?_push_size _ rfl
 ·have e:b=(s.heap.push { cls:=.type "range",data:=.fields #[.int lo t,.int hi u,.int 1 v] }).objs.size:=by simpa using hb
  subst e;exact I1.fpOk (Nat.le_refl _) (I1.hok.fresh (Nat.le_refl _))
noncomputable def Xbj(fp:List Addr)(h:Heap):List (Addr×Obj):=fp.filterMap fun b=>(h.get? b).map fun o=>(b,o)
theorem Xcb{fp:List Addr}{h:Heap}{b:Addr}{o:Obj}(hb:b∈fp)(e:h.get? b=some o):(b,o)∈Xbj fp h:=List.mem_filterMap.mpr ⟨b,hb,by rw[e];rfl⟩
theorem Xpq{fp:List Addr}{h:Heap}{p:Addr×Obj}(hp:p∈Xbj fp h):p.1∈fp/\h.get? p.1=some p.2:=by
 obtain⟨b,hb,e⟩:=List.mem_filterMap.mp hp;cases q:h.get? b with
 | none=>rw[q] at e;cases e
 | some o =>
  rw[q] at e;have e':(b,o)=p:=Option.some.inj e;subst e';exact⟨hb,q⟩
theorem Inv.pinned{pins:List (Addr×Obj)}{σ:St}{H:Hp}{s:Shared}{fp:List Addr}(I:Inv X pins σ H s)(hf:∀ b∈fp,Xak X pins H b)(ho:∀ b∈fp,∃ o,s.heap.get? b=some o/\∀ v,o.data≠.cell v):Inv X (pins++Xbj fp s.heap) σ H s :=
 I.pins_of fun p hp=>(List.mem_append.mp hp).elim (fun z=>I.pin p (List.mem_append_right _ z)) fun z=>by
  obtain⟨hb,e⟩:=Xpq z;obtain⟨f0,f1,f2,_⟩:=hf p.1 hb;obtain⟨o,e',d⟩:=ho p.1 hb;rw[e] at e';cases e';exact⟨e,f0,f1,f2,d⟩
theorem Inv.unpinned{pins pl:List (Addr×Obj)}{σ:St}{H:Hp}{s:Shared}(I:Inv X (pins++pl) σ H s):Inv X pins σ H s:=I.pins_of fun p hp=>I.pin p (List.mem_append_right _ (List.mem_append_left _ hp))
end
end L2
namespace L2
open PySem PySem.Spec PyProof.Rows
abbrev R2:=V->V->Hp->VK->Prop
def OpR(X:Cx)(f:Value->Value->Sem Value)(r:R2):Prop :=
 ∀ (pins:List (Addr×Obj)) (s:Shared) (σ:St) (H:Hp) (x y:V) (v u:Value) (Q:VK),Inv X pins σ H s->RelV x v->RelV y u->r x y H Q ->
  wpAny (model X.prog X.w) X.A (f v u) (EP X pins σ Q) X.xe s
def Xds(X:Cx)(f:Value)(r:List V->Hp->VK->Prop):Prop :=
 ∀ (pins:List (Addr×Obj)) (s:Shared) (σ:St) (H:Hp) (xs:List V) (us:List Value) (Q:VK),Inv X pins σ H s->Vals xs us->r xs H Q ->
  wpAny (model X.prog X.w) X.A (call f us) (EP X pins σ Q) X.xe s
def X4u(X:Cx)(r:V->Hp->(Bool->Hp->Prop)->Prop):Prop :=
 ∀ (pins:List (Addr×Obj)) (s:Shared) (σ:St) (H:Hp) (x:V) (v:Value) (Q:Bool->Hp->Prop),Inv X pins σ H s->RelV x v->r x H Q ->
  wpAny (model X.prog X.w) X.A (truthy v) (TP X pins σ Q) X.xe s
section
variable{X:Cx}{a b c:Expr}{ta tb tc:TE}{pos:Pos}
def CMul(i j:Int):Prop:=(-(2^64)<i/\i<2^64)\/(-(2^64)<j/\j<2^64)
theorem CMul.ok{i j:Int}(h:CMul i j):IntMulOk i j:=by
 rcases h with⟨h1,h2⟩|⟨h1,h2⟩
 ·exact .of_left (intBits_le_64 h1 h2)
 ·exact .of_right (intBits_le_64 h1 h2)
noncomputable def X20:HO->Bool
 | .lst _=>true
 | .ins _ _ _=>true
 | _=>false
theorem Xcz{pins:List (Addr×Obj)}{s:Shared}{σ:St}{H:Hp}{a:Addr}{o:HO}(I:Inv X pins σ H s)(h:H a=some o)(p:X20 o=true):∃ ob,s.heap.get? a=some ob/\ob.cls≠.type "tuple" := by
 cases o with
 | lst xs =>
  obtain⟨_,its,n,_,e⟩:xs.length<=sizeLine/\∃ (its:List Value) (n:Nat),Vals xs its/\s.heap.get? a=some { cls:=.type "list",data:=.seq its.toArray n }:=I.hok a _ h;exact⟨_,e,(by show Value.type "list" ≠ .type "tuple";decide+kernel)⟩
 | ins C dx fs =>
  have x:=I.hok a _ h;obtain⟨_,_,_,e,_⟩:=x;exact⟨_,e,(by show Value.ref C≠.type "tuple";exact fun z=>by cases z)⟩
 | _=>exact absurd (show false=true from p) Bool.false_ne_true
def Xzj(K:PySem.W.Frag)(x:V)(H:Hp)(k:Bool):Prop :=
 match x with
 | .non=>k=false
 | .bl b=>k=b
 | .int i=>k=(i != 0)
 | .str y=>y.length<=sizeLine/\k=((y.length:Int) != 0)
 | .byt y=>y.size<=sizeLine/\k=((y.size:Int) != 0)
 | .ref p=>(∃ xs,SqL K H p xs/\k = !xs.isEmpty)\/(∃ xs,SqT K H p xs/\k = !xs.isEmpty)\/∃ kvs,H p=some (.dK kvs)/\k = !kvs.isEmpty
 | _=>False
theorem Xnn{κ:Type}{kvs:List (κ×V)}{vs:List (κ×Value)}(r:KV kvs vs):(!vs.isEmpty) = !kvs.isEmpty:=by
 cases r<;>rfl
theorem Xf9{xs:List V}{its:List Value}(r:Vals xs its):(!its.toArray.isEmpty) = !xs.isEmpty:=by
 cases r<;>simp
theorem Xcm:(sizeLine:Nat)<2^63:=by rw[sizeLine_eq];decide
theorem Xzk:X4u X (fun x H Q=>∃ k,Xzj X.K x H k/\Q k H):=by
 intro pins s σ H x v Q I rx h;obtain⟨k,e,q⟩:=h;have hl:=Xcm;have hs:sizeLine=16777216:=sizeLine_eq;cases x with
 | non =>
  cases rx;have e':k=false:=e;subst e';exact truthy_none ⟨H,I,q⟩
 | bl b =>
  cases rx;have e':k=b:=e;subst e';exact wpAny_truthy_bool ⟨H,I,q⟩
 | int i =>
  obtain⟨t,rfl⟩:=rx;have e':k=(i != 0):=e;subst e';exact PySem.P.truthy_int ⟨H,I,q⟩
 | str y =>
  obtain⟨t,rfl⟩:=rx;obtain⟨hy,e'⟩:y.length<=sizeLine/\k=((y.length:Int) != 0):=e;subst e';exact PySem.P.truthy_str (by omega) ⟨H,I.tok _,q⟩
 | byt y =>
  obtain⟨t,rfl⟩:=rx;obtain⟨hy,e'⟩:y.size<=sizeLine/\k=((y.size:Int) != 0):=e;subst e';exact PySem.W.truthy_bytes (by omega) ⟨H,I.tok _,q⟩
 | ref p =>
  cases rx;have e':(∃ xs,SqL X.K H p xs/\k = !xs.isEmpty)\/(∃ xs,SqT X.K H p xs/\k = !xs.isEmpty)\/∃ kvs,H p=some (.dK kvs)/\k = !kvs.isEmpty:=e;rcases e' with⟨xs,hx,e'⟩|⟨xs,hx,e'⟩|⟨kvs,hx,e'⟩
  ·subst e'
   obtain⟨its,r,pl,hz⟩:=I.list hx;have hlen:=r.length;exact wpAny_truthy_list pl.isList (by simp only[List.size_toArray];omega) ⟨H,I.tok _,by rw[Xf9 r];exact q⟩
  ·subst e'
   obtain⟨its,r,pl,hz⟩:=I.tuple hx;have hlen:=r.length;exact truthy_tuple pl (by simp only[List.size_toArray];omega) ⟨H,I.tok _,by rw[Xf9 r];exact q⟩
  ·subst e'
   obtain⟨hz,hS,vs,r,m⟩:kvs.length<=sizeLine/\(p==sysModules)=false/\∃ vs,KV kvs vs/\s.heap.DictOf (Xg7 X.prog X.w) p vs:=I.hok p _ hx;have hlen:kvs.length=vs.length:=Paired.length r;exact wpAny_truthy_dict hS m (by omega) ⟨H,I.tok _,by rw[Xnn r];exact q⟩
 | _=>exact(show False from e).elim
theorem Xno:OpR X (binaryOp .Add) (fun x y H Q=>∃ i j,x=.str i/\y=.str j/\i.length+j.length<=sizeLine/\Q (.str (i++j)) H):=by
 intro pins s σ H x y v u Q I rx ry h;obtain⟨i,j,rfl,rfl,hz,q⟩:=h;obtain⟨t,rfl⟩:=rx;obtain⟨t',rfl⟩:=ry;exact add_str (fun t' tk=>⟨.str (i++j),H,I.tok _,⟨_,rfl⟩,q⟩) hz
theorem Xjh{x:V}{us:List Value}(r:Vals [x] us):∃ u,us=[u]/\RelV x u:=by
 cases r with
 | cons r1 r2=>cases r2;exact⟨_,rfl,r1⟩
theorem Xuz{x y:V}{us:List Value}(r:Vals [x,y] us):∃ u w',us=[u,w']/\RelV x u/\RelV y w':=by
 cases r with
 | cons r1 r2 =>
  cases r2 with
  | cons r3 r4=>cases r4;exact⟨_,_,rfl,r1,r3⟩
theorem Xpr(hc:X.calm=true):Xds X (.builtin "max") (fun xs H Q=>∃ i j,xs=[.int i,.int j]/\Q (.int (if j>i then j else i)) H):=by
 intro pins s σ H xs us Q I r h;obtain⟨i,j,rfl,q⟩:=h;obtain⟨u,w',rfl,⟨t,rfl⟩,⟨t',rfl⟩⟩:=Xuz r;refine max_two_ints (I.ok.hd hc) fun h' tk k=>⟨_,H,I.kept k,?_,q⟩
 by_cases hj:j>i
 ·rw[if_pos hj,if_pos hj];exact⟨_,rfl⟩
 ·rw[if_neg hj,if_neg hj];exact⟨_,rfl⟩
theorem Xps(hc:X.calm=true):Xds X (.builtin "min") (fun xs H Q=>∃ i j,xs=[.int i,.int j]/\Q (.int (if j<i then j else i)) H):=by
 intro pins s σ H xs us Q I r h;obtain⟨i,j,rfl,q⟩:=h;obtain⟨u,w',rfl,⟨t,rfl⟩,⟨t',rfl⟩⟩:=Xuz r;refine min_two_ints (I.ok.hd hc) fun h' tk k=>⟨_,H,I.kept k,?_,q⟩
 by_cases hj:j<i
 ·rw[if_pos hj,if_pos hj];exact⟨_,rfl⟩
 ·rw[if_neg hj,if_neg hj];exact⟨_,rfl⟩
end
end L2
namespace L2
open PySem PySem.Spec PyProof.Rows
structure ObjM(h:Heap)(x dx C:Addr)(mA:Str->Option Value):Prop where
 obj:h.get? x=some (PySem.W.instObj C dx)
 ns:h.Ns1 dx mA
 ne:dx≠x
theorem Xpt{h:Heap}{dx:Addr}{mA:Str->Option Value}(n:h.Ns1 dx mA):∃ od,h.get? dx=some od/\∀ name,PySem.W.lookIn name od=some (mA name):=by
 obtain⟨o,es,ep,ho,hd,hk,_,hm⟩:=n;refine⟨o,ho,fun name=>?_⟩
 have e:=hm name;unfold nsFind findBy at e;rw[<- Array.find?_toList] at e;unfold PySem.W.lookIn;rw[hd];dsimp only;split
 ·rename_i y q
  rw[q] at e;exact congrArg some e
 ·rename_i q
  rw[q] at e;have a:es.toList.any (·.refKey)=false:=by
   rw[List.any_eq_false];intro y hy;obtain⟨z,t,hkey⟩:=hk y (Array.mem_toList_iff.mp hy);simp[DictEntry.refKey,hkey]
  have a':¬ es.toList.any (·.refKey)=true:=by rw[a];exact Bool.false_ne_true
  rw[if_neg a'];exact congrArg some e
theorem ObjM.look{h:Heap}{x dx C:Addr}{mA:Str->Option Value}(I:ObjM h x dx C mA):∃ od,PySem.W.InstAt h x (PySem.W.instObj C dx) C (some od)/\∀ name,PySem.W.lookIn name od=some (mA name) :=
 let ⟨od,ho,hl⟩:=Xpt I.ns
 ⟨od,⟨I.obj,rfl,rfl,ho⟩,hl⟩
section
variable{prog:Program}{w:World}{A:Around}{E:Value->Shared->Prop}{s:Shared}{K:PySem.W.Frag}{x dx C f:Addr}{mA:Str->Option Value}{name:Str}{v:Value}
end
section
variable{P:Program}{w:World}{H H':Hp}{h h':Heap}{a C dx:Addr}{fs fs':List (Str×V)}
end
structure Cls(K:PySem.W.Frag)(C:Addr):Prop where
 pg:PySem.W.plainGet K C Str.empty=true
 hd:PySem.W.hasDictIn K C=true
 po:PySem.W.plainOver K C=true
 sa:PySem.W.findIn K (.ref C) "__setattr__" = some (some (.builtin "object.__setattr__"))
theorem Cls.get{K:PySem.W.Frag}{C:Addr}(c:Cls K C)(f:Str):PySem.W.plainGet K C f=true:=c.pg
structure Con(K:PySem.W.Frag)(C:Addr)(f:Str)(v:V)(u:Value):Prop where
 at_:PySem.W.findIn K (.ref C) f=some (some u)
 rel:RelV v u
 get:PySem.W.specialIn K u "__get__" = some none
 cp:PySem.W.copiedNames.contains f=false
structure Meth(K:PySem.W.Frag)(C:Addr)(m:Str)(f:Addr):Prop where
 at_:PySem.W.findIn K (.ref C) m=some (some (.ref f))
 fn:PySem.W.isFn K (.ref f)=true
 kp:PySem.W.keepIn K (.ref f)=true
section
variable{X:Cx}{pins:List (Addr×Obj)}{σ:St}{H:Hp}{s:Shared}{a C dx:Addr}{fs:List (Str×V)}{f:Str}{v:V}{A:Around}{E:Value->Shared->Prop}
theorem Inv.made(I:Inv X pins σ H s):Inv X pins σ (upd (upd H s.heap.objs.size (.own (s.heap.objs.size+1))) (s.heap.objs.size+1) (.ins C s.heap.objs.size []))
  { s with heap:=(s.heap.push PySem.W.emptyDict).push (PySem.W.instObj C s.heap.objs.size) }:=by
 have e1:(s.heap.push PySem.W.emptyDict).get? s.heap.objs.size=some PySem.W.emptyDict:=Heap.get?_push_size s.heap rfl;have e2:((s.heap.push PySem.W.emptyDict).push (PySem.W.instObj C s.heap.objs.size)).get? (s.heap.objs.size+1)=some (PySem.W.instObj C s.heap.objs.size):=by
  have:=Heap.get?_push_size (s.heap.push PySem.W.emptyDict) (o:=PySem.W.instObj C s.heap.objs.size) rfl
  rwa [Heap.size_push] at this
 have e3:(s.heap.push PySem.W.emptyDict).Ns s.heap.objs.size (fun _=>none):=⟨PySem.W.emptyDict,#[],_,e1,rfl,(fun e he=>absurd he (by simp)),fun _=>rfl⟩
 have I1:=I.laid (a:=s.heap.objs.size) (o:=.own (s.heap.objs.size+1)) (h':=s.heap.push PySem.W.emptyDict) (t':=s.toks) (fun b u q=>Heap.get?_push_of_some _ q) (Nat.le_refl _) ⟨_,e1⟩
 refine I1.laid (a:=s.heap.objs.size+1) (o:=.ins C s.heap.objs.size []) (t':=s.toks) (fun b u q=>Heap.get?_push_of_some _ q) (Nat.le_of_eq (Heap.size_push _ _)) ?_
 have ne:s.heap.objs.size≠s.heap.objs.size+1:=Nat.ne_of_lt (Nat.lt_succ_self _);refine⟨by rw[Xf ne,Yb],Nat.zero_le _,ne,e2,fun _=>none,(Heap.Ns1.of_empty e3).at fun o q=>Heap.get?_push_of_some _ q,fun _=>True.intro,fun y hy=>absurd rfl hy⟩
end
section
variable{X:Cx}{o e value:Expr}{f:Str}{pos pos' tpos:Pos}{ta tv:TE}
end
section
variable{X:Cx}{pins:List (Addr×Obj)}{σ:St}{H:Hp}{s:Shared}{A:Around}{E:Value->Shared->Prop}{Q:Value->Shared->Prop}{c:Value}{b:Bool}
inductive TyOf(K:PySem.W.Frag)(H:Hp):V->Value->Prop where
 | non:TyOf K H .non (.type "NoneType")
 | bl (x:Bool):TyOf K H (.bl x) (.type "bool")
 | int (i:Int):TyOf K H (.int i) (.type "int")
 | str (x:Str):TyOf K H (.str x) (.type "str")
 | flt (x:UInt64):TyOf K H (.flt x) (.type "float")
 | lst {a:Addr} {xs:List V} (e:H a=some (.lst xs)):TyOf K H (.ref a) (.type "list")
 | frz {a:Addr} {o:Obj} {xs:List V} (e:H a=some (.frz o (.lst xs))):TyOf K H (.ref a) (.type "list")
 | tup {a:Addr} {xs:List V} (e:H a=some (.tup xs)):TyOf K H (.ref a) (.type "tuple")
 | dK {a:Addr} {kvs:List (Key×V)} (e:H a=some (.dK kvs)):TyOf K H (.ref a) (.type "dict")
 | dT {a:Addr} {kvs:List (List Key×V)} (e:H a=some (.dT kvs)):TyOf K H (.ref a) (.type "dict")
 | ins {a C dx:Addr} {fs:List (Str×V)} (e:H a=some (.ins C dx fs)) (cl:Cls K C) (ha:PySem.W.findIn K (.ref C) "__class__" = some (some (.builtin "object.__class__")))
   (hn:PySem.W.specialIn K (.builtin "object.__class__") "__get__" = some (some (.builtin "getset_descriptor.__get__"))) (htk:PySem.W.takesIn K (.builtin "object.__class__")=some true)
   (hm:PySem.W.mroIn K C (.type "object")=some true):TyOf K H (.ref a) (.ref C)
end
end L2
namespace L2
open PySem PySem.Spec PyProof.Rows
structure Room(k:Nat)(A:Around):Prop where
 gd:A.guards=some []
 hd:A.handled=none
 dp:A.depth+3*k+5<recursionLimit
 un:A.units+16*k+200<cLine
theorem Room.mono{j k:Nat}{A:Around}(r:Room k A)(h:j<=k):Room j A:=⟨(by first|exact r.gd|(have:=r.gd;simpa [Around.under,Code.guards,pushGuards,Code.isGuard,guardIds] using this)),r.hd,by have:=r.dp;omega,by have:=r.un;omega⟩
theorem Room.deeper{k:Nat}{A:Around}(r:Room (k+1) A)(env:Env):Room k (A.deeper env) :=
 ⟨(by first|exact r.gd|(have:=r.gd;simpa [Around.under,Code.guards,pushGuards,Code.isGuard,guardIds] using this)),r.hd,by have:=r.dp;show A.depth+1+3*k+5<_;omega,by have:=r.un;show A.units+3+16*k+200<_;omega⟩
theorem Room.in1{k:Nat}{A:Around}(r:Room (k+1) A):Room k A.in1 :=
 ⟨(by first|exact r.gd|(have:=r.gd;simpa [Around.under,Code.guards,pushGuards,Code.isGuard,guardIds] using this)),r.hd,by have:=r.dp;show A.depth+3*k+5<_;omega,by have:=r.un;show A.units+1+16*k+200<_;omega⟩
theorem Room.depth{k:Nat}{A:Around}(r:Room k A):A.depth<recursionLimit:=by have:=r.dp;omega
theorem Room.units{k:Nat}{A:Around}(r:Room k A):A.units+64<cLine:=by have:=r.un;omega
section
variable{X:Cx}{e:Expr}{es:List Expr}{te:TE}{t:TA}{pos:Pos}
end
abbrev Sp:=List V->Hp->VK->XK->Prop
abbrev CXT:=List Env->Hp->Shared->XK->Value->Shared->Prop
structure Env0(P:Program)(w:World)(K:PySem.W.Frag)(mg:Str->Option Value)(base:Heap)(A:Around)(outer:List Env)(s:Shared)(H:Hp):Prop where
 frames:A.frames=some outer
 mod:Mod K mg base
 bs:∀ b o,base.get? b=some o->s.heap.get? b=some o/\H b=none
 bsz:base.objs.size<=s.heap.objs.size
 funs:s.heap.FunFrames base outer
 frf:∀ b∈frs outer,H b=none
 hok:HOk P w H s.heap
 bare:AllBare s.gens
def CE(outer:List Env)(P:Program)(w:World)(H:Hp)(s:Shared)(Q:VK)(u:Value)(s':Shared):Prop :=
 ∃ v H',s'.os=s.os/\AllBare s'.gens/\Un (frs outer) [] H H' s.heap s'.heap/\HOk P w H' s'.heap/\RelV v u/\Q v H'
def CR(CX:CXT)(outer:List Env)(P:Program)(w:World)(H:Hp)(s:Shared)(Q:VK)(E:XK)(r:Result)(s':Shared):Prop :=
 match r with
 | .ok (.ret u)=>CE outer P w H s Q u s'
 | .ok _=>False
 | .error e=>CX outer H s E e s'
structure FnOk(P:Program)(w:World)(K:PySem.W.Frag)(mg:Str->Option Value)(base:Heap)(CX:CXT)(k:Nat)(f:Addr)(fd:FuncData)(ps:List Str)(sp:Sp):Prop where
 len:∀ vs H Q E,sp vs H Q E->vs.length=ps.length
 run:∀ (A:Around) (outer:List Env) (s:Shared) (H:Hp) (args:Args) (us:List Value) (vs:List V) (Q:VK) (E:XK),Room k A->Env0 P w K mg base A outer s H->BindsTo s fd args (ps.zip us)->Vals vs us->sp vs H Q E ->
  codeAny (model P w) A (.call (.ref f) args) (CR CX outer P w H s Q E) s
theorem FnOk.mono{P:Program}{w:World}{K:PySem.W.Frag}{mg:Str->Option Value}{base:Heap}{CX:CXT}{j k:Nat}{f:Addr}{fd:FuncData}{ps:List Str}{sp:Sp}(F:FnOk P w K mg base CX j f fd ps sp)(h:j<=k) :
  FnOk P w K mg base CX k f fd ps sp:=⟨F.len,fun A outer s H args us vs Q E hr=>F.run A outer s H args us vs Q E (hr.mono h)⟩
theorem FnOk.imp{P:Program}{w:World}{K:PySem.W.Frag}{mg:Str->Option Value}{base:Heap}{CX:CXT}{k:Nat}{f:Addr}{fd:FuncData}{ps:List Str}{sp sp':Sp}(F:FnOk P w K mg base CX k f fd ps sp)
  (h:∀ vs H Q E,sp' vs H Q E->sp vs H Q E):FnOk P w K mg base CX k f fd ps sp' :=
 ⟨fun vs H Q E q=>F.len vs H Q E (h _ _ _ _ q),fun A outer s H args us vs Q E hr he hb hv hs=>F.run A outer s H args us vs Q E hr he hb hv (h _ _ _ _ hs)⟩
theorem Env0.in1{P:Program}{w:World}{K:PySem.W.Frag}{mg:Str->Option Value}{base:Heap}{A:Around}{outer:List Env}{s:Shared}{H:Hp}(e:Env0 P w K mg base A outer s H) :
  Env0 P w K mg base A.in1 outer s H:=⟨e.frames,e.mod,e.bs,e.bsz,e.funs,e.frf,e.hok,e.bare⟩
section
variable{X:Cx}{pins:List (Addr×Obj)}{σ:St}{H:Hp}{s s':Shared}
theorem Inv.env0(I:Inv X pins σ H s):Env0 X.prog X.w X.K X.mg X.base X.A X.stack s H :=
 ⟨I.ok.frames,I.ok.mod,I.bs,Nat.le_trans I.ok.bsz I.sz,I.stack,I.stkFree,I.hok,I.bare⟩
theorem Inv.after{Q:VK}{u:Value}(I:Inv X pins σ H s)(h:CE X.stack X.prog X.w H s Q u s'):EP X pins σ Q u s':=by
 obtain⟨v,H',os,bare,un,hok,r,q⟩:=h;obtain⟨hh,g,d,t,os'⟩:=s';obtain rfl:os'=s.os:=os;exact⟨v,H',I.call (h':=hh) (g':=g) (d':=d) (t':=t) (ch:=[]) un hok bare (fun b z=>absurd z (by simp)),r,q⟩
end
def Binds(K:PySem.W.Frag)(fd:FuncData)(ps:List Str)(ds:List Value):Prop :=
 ∀ (s:Shared) (us:List Value),K.In s.heap->(us++ds).length=ps.length->BindsTo s fd ⟨us,[]⟩ (ps.zip (us++ds))
theorem Binds.all{K:PySem.W.Frag}{fd:FuncData}{ps:List Str}(h:∀ us:List Value,us.length=ps.length->bindArgs fd ⟨us,[]⟩=pure (ps.zip us)):Binds K fd ps []:=fun s us _ hl=>by
 rw[List.append_nil] at hl ⊢;exact .of_eq (h us hl)
section
variable{X:Cx}{CX:CXT}{k:Nat}{f C:Addr}{fd:FuncData}{ps:List Str}{sp:Sp}{dvs:List V}{ds:List Value}{E:XK}{x m:Str}{p pos apos:Pos}{e o:Expr}{es:List Expr}{ta:TE}{t:TA}
structure Mk(K:PySem.W.Frag)(C f:Addr):Prop where
 makes:PySem.W.makesIn K C=true
 init:PySem.W.findIn K (.ref C) "__init__" = some (some (.ref f))
 fn:PySem.W.isFn K (.ref f)=true
 kp:PySem.W.keepIn K (.ref C)=true
end
section
variable{X:Cx}{CX:CXT}{k:Nat}{f C:Addr}{fd:FuncData}{ps ks:List Str}{sp:Sp}{E:XK}{x m:Str}{p pos apos kpos:Pos}{e o:Expr}{es:List Expr}{kws:List Keyword}{te ta:TE}{t tk:TA}{nm:Option Str}
structure KBinds(K:PySem.W.Frag)(fd:FuncData)(ps ks:List Str)(g:List Value->List Value->List Value)(gV:List V->List V->List V):Prop where
 to:∀ (s:Shared) (us ws:List Value),K.In s.heap->(g us ws).length=ps.length->BindsTo s fd ⟨us,ks.zip ws⟩ (ps.zip (g us ws))
 rel:∀ {vs:List V} {us:List Value} {zs:List V} {ws:List Value},Vals vs us->Vals zs ws->Vals (gV vs zs) (g us ws)
variable{g:List Value->List Value->List Value}{gV:List V->List V->List V}
end
structure FnScope(N P:List Str)(sc:Scope):Prop where
 kind:sc.kind=.function
 co:sc.isCoroutine=false
 gen:sc.isGenerator=false
 nd:N.Nodup
 pre:N.take P.length=P
 par:∀ x∈P,sc.names.lookup x=some .local\/sc.names.lookup x=some .cell
 nofree:∀ y∈sc.names,y.2≠.free
theorem Xin{kindOf:Str->Option NameKind}{x:Str}:∀ {binds:List (Str×Value)} {m:Str->Option Value},(∀ v,(x,v) ∉ binds)->bindL kindOf binds m x=m x
 | [],_,_=>rfl
 | (n,v)::r,m,h=>by
  unfold bindL;rw[Xin fun w hw=>h w (List.mem_cons_of_mem _ hw)]
  split
  ·have:x≠n:=by rintro rfl;exact h v List.mem_cons_self
   simp[this]
  ·rfl
theorem Xio{kindOf:Str->Option NameKind}{x:Str}:∀ {binds:List (Str×Value)} {m:Str->Option Value},(∀ v,(x,v) ∉ binds)->bindC kindOf binds m x=m x
 | [],_,_=>rfl
 | (n,v)::r,m,h=>by
  unfold bindC;rw[Xio fun w hw=>h w (List.mem_cons_of_mem _ hw)]
  split
  ·rfl
  ·have:x≠n:=by rintro rfl;exact h v List.mem_cons_self
   simp[this]
theorem Xip{kindOf:Str->Option NameKind}{x:Str}{v:Value}:∀ {P:List Str} {vs:List Value} {i:Nat} {m:Str->Option Value},P.Nodup->P[i]?=some x->vs[i]?=some v->kindOf x=some .local ->
  bindL kindOf (P.zip vs) m x=some v
 | [],_,_,_,_,h,_,_=>by simp at h
 | _::_,[],_,_,_,_,h,_=>by simp at h
 | p::P,w::vs,0,m,nd,h1,h2,hk=>by
  simp at h1 h2;subst h1;subst h2;show bindL kindOf ((p,w)::P.zip vs) m p=_;unfold bindL;rw[Xin fun v hv=>(List.nodup_cons.mp nd).1 (List.of_mem_zip hv).1,if_pos hk]
  simp
 | p::P,w::vs,i+1,m,nd,h1,h2,hk=>by
  show bindL kindOf ((p,w)::P.zip vs) m x=_;unfold bindL;exact Xip (i:=i) (List.nodup_cons.mp nd).2 (by simpa using h1) (by simpa using h2) hk
theorem Xiq{kindOf:Str->Option NameKind}{x:Str}{v:Value}:∀ {P:List Str} {vs:List Value} {i:Nat} {m:Str->Option Value},P.Nodup->P[i]?=some x->vs[i]?=some v->kindOf x≠some .local ->
  bindC kindOf (P.zip vs) m x=some v
 | [],_,_,_,_,h,_,_=>by simp at h
 | _::_,[],_,_,_,_,h,_=>by simp at h
 | p::P,w::vs,0,m,nd,h1,h2,hk=>by
  simp at h1 h2;subst h1;subst h2;show bindC kindOf ((p,w)::P.zip vs) m p=_;unfold bindC;rw[Xio fun v hv=>(List.nodup_cons.mp nd).1 (List.of_mem_zip hv).1,if_neg hk]
  simp
 | p::P,w::vs,i+1,m,nd,h1,h2,hk=>by
  show bindC kindOf ((p,w)::P.zip vs) m x=_;unfold bindC;exact Xiq (i:=i) (List.nodup_cons.mp nd).2 (by simpa using h1) (by simpa using h2) hk
noncomputable def start(N:List Str)(vs:List V):St:=vs.map some++List.replicate (N.length-vs.length) none
noncomputable def Xnp(CX:CXT)(P:Program)(w:World)(K:PySem.W.Frag)(mg:Str->Option Value)(base:Heap)(N:List Str)(qual:Str)(scope:Scope)(f:Addr)(cd:Value)(A:Around)(outer:List Env)(s:Shared)(H:Hp)(E:XK):Cx where
 prog:=P
 w:=w
 K:=K
 mg:=mg
 base:=base
 A:=A.deeper (envOfC qual scope s.heap.objs.size f cd)
 N:=N
 s₀:=s
 H₀:=H
 env:=envOfC qual scope s.heap.objs.size f cd
 outer:=outer
 stack:=envOfC qual scope s.heap.objs.size f cd::outer
 ex:=[]
 calm:=true
 fn:=fun _=>true
 pn:=[]
 xe:=fun e s'=>wpAny (model P w) (A.deeper (envOfC qual scope s.heap.objs.size f cd)) (leaving (envOfC qual scope s.heap.objs.size f cd) e) (fun _ s''=>CX outer H s E e s'') (fun e' s''=>CX outer H s E e' s'') s'
theorem Xju{sc:Scope}{n:Nat}{x:Str}(h:sc.names.lookup x=some .cell):∃ c,(cellsFrom n sc.names []).lookup x=some c:=by
 have q:=PySem.W.cellsFrom_some sc.names n [] (.inl h);exact Option.isSome_iff_exists.mp q
theorem Xpu{CX:CXT}{P:Program}{w:World}{K:PySem.W.Frag}{mg:Str->Option Value}{base:Heap}{N ps:List Str}{qual:Str}{scope:Scope}{f:Addr}{cd:Value}{A:Around}{outer:List Env}{s s1:Shared}{H:Hp}{E:XK}{us:List Value}{vs:List V}
  (S:FnScope N ps scope) (hd:A.handled=none) (e0:Env0 P w K mg base A outer s H) (hl:vs.length=ps.length) (r:Vals vs us)
  (x:InCallC s s.heap.objs.size (bindL (envOfC qual scope s.heap.objs.size f cd).kindOf (ps.zip us) fun _=>none) (cellsFrom (s.heap.objs.size+1) scope.names []) (bindC (envOfC qual scope s.heap.objs.size f cd).kindOf (ps.zip us) fun _=>none) s1) :
  Inv (Xnp CX P w K mg base N qual scope f cd A outer s H E) [] (start N vs) H s1:=by
 have hpl:ps.length<=N.length:=by have:=congrArg List.length S.pre;rw[List.length_take] at this;omega
 obtain⟨h1,tk,rfl,hk⟩:=x.done;have noA:∀ b:Addr,b ∉ (Xnp CX P w K mg base N qual scope f cd A outer s H E).ex:=fun b z=>absurd (show b∈([]:List Addr) from z) (by simp)
 refine⟨⟨e0.mod,S.kind,rfl,rfl,Nat.le_refl _,fun y z c h1 h2=>?_,fun y hy=>?_,fun y c _ h=>?_,fun _=>hd,Around.frames_deeper e0.frames,.inr ⟨rfl,rfl⟩,fun b z=>absurd z (noA b),e0.bs,e0.bsz,fun b _ _=>noA b,fun b z=>absurd z (noA b),e0.funs,e0.frf⟩,
  rfl,e0.bare,Un.kept hk,⟨_,x.toInCall.ns,fun i y v h1 h2 h3=>?_⟩,fun y c h=>⟨_,x.cell y c h⟩,e0.hok.fresh (Nat.le_refl _),fun y c h=>?_,fun p hp=>absurd (show p∈([]:List (Addr×Obj)) from hp) (by simp),e0.hok.kept hk,?_⟩
 ·exact name_of_addr x.apart (PySem.mem_of_lookup h1) (PySem.mem_of_lookup h2)
 ·have hy:scope.names.lookup y=some .cell\/scope.names.lookup y=some .free:=hy
  rcases hy with hy|hy
  ·exact Xju hy
  ·exact absurd rfl (S.nofree _ (PySem.mem_of_lookup hy))
 ·exact Nat.le_of_lt (x.above y c (PySem.mem_of_lookup h))
 ·have hi:i<vs.length:=by
   unfold start at h2
   by_cases hi:i<vs.length
   ·exact hi
   ·rw[List.getElem?_append_right (by simpa using hi)] at h2
    rw[List.getElem?_replicate] at h2;split at h2<;>cases h2
  have ha:vs[i]?=some v:=by
   unfold start at h2;rw[List.getElem?_append_left (by simpa using hi),List.getElem?_map] at h2
   cases e:vs[i]? with
   | none=>rw[e] at h2;cases h2
   | some a=>rw[e] at h2;cases h2;rfl
  obtain⟨u,hu,rv⟩:=r.get ha;have hp:ps[i]?=some y:=by
   rw[<- S.pre,List.getElem?_take_of_lt (by omega)];exact h1
  have ndP:ps.Nodup:=by rw[<- S.pre];exact S.nd.sublist (List.take_sublist _ _)
  refine⟨u,rv,?_⟩;rcases S.par y (List.mem_of_getElem? hp) with k|k
  ·exact .inl ⟨k,Xip ndP hp hu k⟩
  ·obtain⟨c,e⟩:=Xju (n:=s.heap.objs.size+1) k
   refine .inr ⟨.inl k,c,e,?_⟩;have q:=x.cell y c e;rw[Xiq ndP hp hu (by show scope.names.lookup y≠_;rw[k];decide)] at q
   exact q
 ·exact e0.hok.fresh (Nat.le_of_lt (x.above y c (PySem.mem_of_lookup h)))
 ·unfold start
  show _=N.length;rw[List.length_append,List.length_map,List.length_replicate];omega
end L2
namespace L2
open PySem PySem.Spec PyProof.Rows
section
variable{X:Cx}{x:Str}{p pos:Pos}{e:Expr}{es:List Expr}{t:TA}{id T:String}{r:List V->Hp->VK->Prop}
end
end L2
namespace HT
open PySem PyProof.Rows
section
open PySem.SeqAt
open PySem.AutoSeq1 (wpAny_loadPart')
open PySem.MeetsSeq PySem.MeetsSeq2 PySem.MeetsSeq3
end
section
variable{prog:Program}{w:World}{A:Around}{E:Value->Shared->Prop}{s:Shared}
theorem cat_tup{t b:Addr}{vs ws:List Value}{Q:Value->Shared->Prop}(ht:IsTup s.heap t vs.toArray)(hb:IsTup s.heap b ws.toArray)(hv:vs≠[])
  (h1:ws=[]->Q (.ref t) s) (h2:ws≠[]->Q (.ref s.heap.objs.size) { s with heap:=s.heap.push { cls:=.type "tuple",data:=.seq (vs++ws).toArray } })
  (hsz:vs.length+ws.length<=sizeLine):wpAny (model prog w) A (binaryOp .Add (.ref t) (.ref b)) Q E s:=by
 obtain⟨⟨cls,dd,data,sl⟩,ho,hc,n,hd⟩:=id ht;obtain⟨⟨cls2,dd2,data2,sl2⟩,ho2,hc2,n2,hd2⟩:=id hb;simp only at hc hd hc2 hd2;subst hc hd hc2 hd2;have e:vs.toArray++ws.toArray=(vs++ws).toArray:=by simp
 by_cases hw:ws=[]
 ·exact concat_meets ⟨_,ho,rfl⟩ ⟨_,ho2,rfl⟩ noFill_tuple_add seq_tuple_add PySem.F.slot_tuple_add PySem.F.entry_tuple_add (PySem.F.args_tuple_add_2 _ _)
   (tuple_addW1 t b vs.toArray ws.toArray n n2 dd dd2 sl sl2 (by simpa using hv) (by simp[hw])) ⟨ho,ho2,h1 hw⟩
 ·refine concat_meets ⟨_,ho,rfl⟩ ⟨_,ho2,rfl⟩ noFill_tuple_add seq_tuple_add PySem.F.slot_tuple_add PySem.F.entry_tuple_add (PySem.F.args_tuple_add_2 _ _)
   (tuple_addW2 t b vs.toArray ws.toArray n n2 dd dd2 sl sl2 (by simpa using hv) (by simpa using hw) (by rw[List.size_toArray,List.size_toArray];exact hsz)) ⟨ho,ho2,?_⟩
  rw[e];exact h2 hw
noncomputable def sIx(n d:Nat):Option Int->Nat
 | none=>d
 | some v=>if v<0 then (v+(n:Int)).toNat else min v.toNat n
theorem Xzl(n d:Nat)(hd:d<=n)(o:Option Int):sIx n d o<=n:=by
 cases o with
 | none=>exact hd
 | some v =>
  show(if v<0 then (v+(n:Int)).toNat else min v.toNat n)<=n
  by_cases hv:v<0
  ·rw[if_pos hv];omega
  ·rw[if_neg hv];exact Nat.min_le_right _ _
theorem Xmb(v:Int)(n d:Nat):(if v<0 then max (v+(n:Int)) 0 else min v (n:Int))=((sIx n d (some v):Nat):Int):=by
 show(if v<0 then max (v+(n:Int)) 0 else min v (n:Int))=(((if v<0 then (v+(n:Int)).toNat else min v.toNat n):Nat):Int)
 by_cases hv:v<0
 ·simp only[if_pos hv];omega
 ·simp only[if_neg hv];omega
theorem Xnq(lo hi:Option Int)(n:Nat):Builtin.Slice.sliceAdjust lo hi 1 (n:Int)=(((sIx n 0 lo:Nat):Int),((sIx n n hi:Nat):Int)):=by
 have h1:¬ ((1:Int)<0):=by omega
 unfold Builtin.Slice.sliceAdjust;simp only[h1,if_false];refine Prod.ext ?_ ?_
 ·cases lo with
  | none=>rfl
  | some v=>exact Xmb v n 0
 ·cases hi with
  | none=>rfl
  | some v=>exact Xmb v n n
theorem Xnr(i j:Nat):Builtin.Slice.slicePlaces (i:Int) (j:Int) 1=j-i:=by
 unfold Builtin.Slice.slicePlaces;have h1:(1:Int)>0:=by omega
 simp only[h1,if_true,Int.ediv_one];split<;>omega
theorem slicePart_{v:Value}{o:Option Int}{Q:Option Int->Shared->Prop}(p:IsPart v o)(h:Q o s):wpAny (model prog w) A (Builtin.Slice.slicePartIndex v) Q E s:=by
 cases p with
 | none=>exact slicePart_none h
 | int i t=>exact slicePart_int h
theorem sliceApplied_gen{sl:Addr}{vl vu:Value}{lo hi:Option Int}{n:Nat}{Q:Int×Int×Nat->Shared->Prop}(hs:s.heap.IsSliceOf sl vl vu .none)(pl:IsPart vl lo)(pu:IsPart vu hi)
  (h:Q (((sIx n 0 lo:Nat):Int),1,sIx n n hi-sIx n 0 lo) s):wpAny (model prog w) A (Builtin.Slice.sliceApplied (.ref sl) (pure (n:Int))) Q E s:=by
 obtain⟨os,hos,hcs,hds⟩:=id hs;unfold Builtin.Slice.sliceApplied Builtin.Slice.sliceFields;refine wpAny_bind (wpAny_bind (wpAny_field hos hds (x:=vl) rfl (wpAny_bind (wpAny_field hos hds (x:=vu) rfl (wpAny_bind (wpAny_field hos hds (x:=.none) rfl (wpAny_pure ?_)))))));refine wpAny_bind (slicePart_none ?_);show wpAny _ _ (if ((1:Int)==0)=true then _ else _) _ _ s
 rw[if_neg (by decide)]
 refine wpAny_bind (slicePart_ pl (wpAny_bind (slicePart_ pu (wpAny_bind (wpAny_pure ?_)))));show wpAny _ _ (match Builtin.Slice.sliceAdjust lo hi 1 (n:Int) with|(lo,hi)=>pure (lo,(1:Int),Builtin.Slice.slicePlaces lo hi 1)) _ _ s
 rw[Xnq lo hi n];show wpAny _ _ (pure (((sIx n 0 lo:Nat):Int),(1:Int),Builtin.Slice.slicePlaces ((sIx n 0 lo:Nat):Int) ((sIx n n hi:Nat):Int) 1)) _ _ s;rw[Xnr];exact wpAny_pure h
theorem Xr7(xs:Array Value)(i k:Nat):((List.range k).filterMap fun(m:Nat)=>xs[((i:Int)+(m:Int)*1).toNat]?).toArray=((xs.toList.drop i).take k).toArray:=by
 have e:(fun(m:Nat)=>xs[((i:Int)+(m:Int)*1).toNat]?)=fun m=>xs[i+m]?:=by
  funext m
  have:((i:Int)+(m:Int)*1).toNat=i+m:=by omega
  rw[this]
 rw[e];have:=pick_run xs i k;rw[List.filterMap_map] at this;have e2:((fun x=>xs[x]?)∘fun x=>i+x)=fun m=>xs[i+m]?:=rfl
 rw[e2] at this;rw[this]
theorem getItem_tuple_cut{t sl:Addr}{items:Array Value}{vl vu:Value}{lo hi:Option Int}{Q:Value->Shared->Prop}(ht:IsTup s.heap t items)(hs:s.heap.IsSliceOf sl vl vu .none)(pl:IsPart vl lo)(pu:IsPart vu hi)
  (hw:¬ (sIx items.size 0 lo=0/\sIx items.size items.size hi=items.size))
  (h:Q (.ref s.heap.objs.size) { s with heap:=s.heap.push { cls:=.type "tuple",data:=.seq ((items.toList.drop (sIx items.size 0 lo)).take (sIx items.size items.size hi-sIx items.size 0 lo)).toArray } })
  (hsz:items.size<=sizeLine):wpAny (model prog w) A (getItem (.ref t) (.ref sl)) Q E s:=by
 have htake:sizeOk (.seq ((items.toList.drop (sIx items.size 0 lo)).take (sIx items.size items.size hi-sIx items.size 0 lo)).toArray):=by
  show((items.toList.drop (sIx items.size 0 lo)).take (sIx items.size items.size hi-sIx items.size 0 lo)).toArray.size<=sizeLine;rw[List.size_toArray,List.length_take,List.length_drop,Array.length_toList];omega
 have hj:sIx items.size items.size hi<=items.size:=Xzl _ _ (Nat.le_refl _) hi;obtain⟨os,hos,hcs,hds⟩:=id hs;have hTs:s.TypeIs (.ref sl) "slice" := ⟨os,hos,hcs⟩;unfold getItem
 try with_reducible refine wpAny_holding ?_
 first|refine wpAny_bind (wpAny_pure ?_)|skip
 refine wpAny_bind (wpAny_sequenceKey ht.typeIs (by decide) ?_)
 refine wpAny_bind (wpAny_callSpecial?_slot (name:=Str.ofString "__getitem__") ht.typeIs PyProof.Rows.slot_tuple_getitem
  (wpAny_call_entry PyProof.Rows.slot_tuple_getitem ht.typeIs entry_tuple_getitem ?_ (args_tuple_getitem _ _)))
 show wpAny _ _ (Builtin.Tuple.tupleItemsOf (.ref t) >>= _) _ _ s;refine wpAny_bind (tupleItemsOf_ ht ?_);refine wpAny_bind (wpAny_typeOf hTs ?_);rw[if_pos (by decide)]
 refine wpAny_bind (sliceApplied_gen hs pl pu ?_);have hno:¬ ((((sIx items.size 0 lo:Nat):Int)==0&&(1:Int)==1&&(sIx items.size items.size hi-sIx items.size 0 lo)==items.size)=true):=by
  intro q;rw[bA0,bA0] at q;have q1:((sIx items.size 0 lo:Nat):Int)=0:=eq_of_beq q.1.1;have q2:sIx items.size items.size hi-sIx items.size 0 lo=items.size:=eq_of_beq q.2;exact hw ⟨by omega,by omega⟩
 show wpAny _ _ (if (((sIx items.size 0 lo:Nat):Int)==0&&(1:Int)==1&&(sIx items.size items.size hi-sIx items.size 0 lo)==items.size)=true then _ else _) _ _ s
 rw[if_neg hno,Xr7]
 first
  | exact wpAny_bind (m:=Builtin.Tuple.tupleExact _) (wpAny_newObj_type (wpAny_pure ⟨_,rfl,wpAny_pure h⟩) htake)
  | exact wpAny_bind (m:=Builtin.Tuple.tupleExact _) (wpAny_newObj_type (wpAny_bind (wpAny_pure (wpAny_pure ⟨_,rfl,wpAny_pure h⟩))) htake)
  | exact wpAny_bind (wpAny_bind (m:=Builtin.Tuple.tupleExact _) (wpAny_newObj_type (wpAny_pure (wpAny_pure ⟨_,rfl,wpAny_pure h⟩)) htake))
  | exact wpAny_bind (wpAny_bind (m:=Builtin.Tuple.tupleExact _) (wpAny_newObj_type (wpAny_pure ⟨_,rfl,wpAny_pure h⟩) htake))
end
end HT
namespace L2
open PySem PySem.Spec PyProof.Rows
section
variable{X:Cx}{e:Expr}{te:TE}{lo hi:Option Expr}{tl th:TO}{pos p2:Pos}
noncomputable def Xg8(xs:List V)(lo hi:Option Int):List V:=(xs.drop (HT.sIx xs.length 0 lo)).take (HT.sIx xs.length xs.length hi-HT.sIx xs.length 0 lo)
theorem Xe7(xs:List V)(lo hi:Option Int):(Xg8 xs lo hi).length<=xs.length:=by
 unfold Xg8;rw[List.length_take,List.length_drop];omega
end
end L2
namespace L2
open PySem PySem.Spec PyProof.Rows
noncomputable def ixN(n:Nat)(i:Int):Option Nat:=if 0<=i then (if i<n then some i.toNat else none) else if-(n:Int)<=i then some (i+n).toNat else none
noncomputable def atI{α:Type}(xs:List α)(i:Int):Option α:=(ixN xs.length i).bind fun j=>xs[j]?
theorem Xmc{n:Nat}{i:Int}{j:Nat}(h:ixN n i=some j):seqIndex? i n=some j/\j<n/\-(n:Int)<=i/\i<n:=by
 unfold ixN at h
 by_cases h0:0<=i
 ·rw[if_pos h0] at h
  by_cases h1:i<n
  ·rw[if_pos h1] at h
   have e:i.toNat=j:=Option.some.inj h;exact⟨by rw[seqIndex_of h0 h1,e],by omega,by omega,h1⟩
  ·rw[if_neg h1] at h;cases h
 ·rw[if_neg h0] at h
  by_cases h1:-(n:Int)<=i
  ·rw[if_pos h1] at h
   have e:(i+n).toNat=j:=Option.some.inj h;exact⟨by rw[seqIndex_neg (by omega) h1,e],by omega,h1,by omega⟩
  ·rw[if_neg h1] at h;cases h
theorem Xg9{α:Type}{xs:List α}{i:Int}{v:α}(h:atI xs i=some v):∃ j,seqIndex? i xs.length=some j/\xs[j]?=some v/\j<xs.length/\-(xs.length:Int)<=i/\i<xs.length:=by
 unfold atI at h;cases e:ixN xs.length i with
 | none=>rw[e] at h;cases h
 | some j =>
  rw[e] at h;obtain⟨h1,h2,h3,h4⟩:=Xmc e;exact⟨j,h1,h,h2,h3,h4⟩
def Xha(b:Expr):Prop:=∀ o i,subscripted b false o i=operate [o,i] (getItem o i)
def IxR(X:Cx)(r:R2):Prop :=
 ∀ (value slice:Expr) (pins:List (Addr×Obj)) (s:Shared) (σ:St) (H:Hp) (x y:V) (v u:Value) (Q:VK),Inv X pins σ H s->RelV x v->RelV y u->r x y H Q ->
  subscripted slice false v u=operate [v,u] (getItem v u)->wpAny (model X.prog X.w) X.A (subscriptTail value slice v u) (EP X pins σ Q) X.xe s
section
variable{X:Cx}{a b:Expr}{ta tb:TE}{pos:Pos}
noncomputable def X4v(K:PySem.W.Frag):R2:=fun x y H Q=>∃ p xs i v,x=.ref p/\y=.int i/\SqL K H p xs/\atI xs i=some v/\Q v H
noncomputable def X4w(K:PySem.W.Frag):R2:=fun x y H Q=>∃ p xs i v,x=.ref p/\y=.int i/\SqT K H p xs/\atI xs i=some v/\Q v H
noncomputable def X4x:R2:=fun x y H Q=>∃ z i c,x=.str z/\y=.int i/\z.length<=sizeLine/\atI z.cps.toList i=some c/\Q (.str ⟨#[c]⟩) H
theorem Xvs:IxR X (X4v X.K):=by
 intro value slice pins s σ H x y v u Q I rx ry h hs;obtain⟨p,xs,i,z,rfl,rfl,hq,he,q⟩:=h;cases rx;obtain⟨t,rfl⟩:=ry;obtain⟨its,r,pl,hz⟩:=I.list hq;obtain⟨j,h1,h2,h3,h4,h5⟩:=Xg9 he;obtain⟨w,ew,rw'⟩:=r.get h2;have hl:=r.length;have hn:=Xcm;have fin:EP X pins σ Q w s:=⟨z,H,I,rw',q⟩
 by_cases h0:0<=i
 ·have hj:i.toNat=j:=by
   rw[seqIndex_of h0 h5] at h1;exact Option.some.inj h1
  exact item_listR pl.isList h0 (by omega) (by rw[hj];simpa using ew) fin hs
 ·have hj:(i+(its.toArray.size:Int)).toNat=j:=by
   rw[seqIndex_neg (by omega) h4] at h1
   rw[List.size_toArray,<- hl];exact Option.some.inj h1
  exact subscriptTail_builtinR (x:=w) pl.isList.typeIs slot_list_getitem.lookup
   (wpAny_getItem_list_neg (Q:=fun r s'=>r=w/\EP X pins σ Q r s') pl.isList (by omega) (by rw[List.size_toArray]<;>omega) (by omega) (by rw[hj];simpa using ew) ⟨rfl,fin⟩) hs
theorem Xzm:IxR X (X4w X.K):=by
 intro value slice pins s σ H x y v u Q I rx ry h hs;obtain⟨p,xs,i,z,rfl,rfl,hq,he,q⟩:=h;cases rx;obtain⟨t,rfl⟩:=ry;obtain⟨its,r,pl,hz⟩:=I.tuple hq;obtain⟨j,h1,h2,h3,h4,h5⟩:=Xg9 he;obtain⟨w,ew,rw'⟩:=r.get h2;have hl:=r.length;have hn:=Xcm;have fin:EP X pins σ Q w s:=⟨z,H,I,rw',q⟩;exact subscriptTail_builtinR (x:=w) pl.typeIs slot_tuple_getitem.lookup
  (getItem_tuple (j:=j) (Q:=fun r s'=>r=w/\EP X pins σ Q r s') pl (by omega) (by omega) (by rw[List.size_toArray,<- hl];exact h1) (by simpa using ew) ⟨rfl,fin⟩) hs
theorem Xzn:IxR X X4x:=by
 intro value slice pins s σ H x y v u Q I rx ry h hs;obtain⟨z,i,c,rfl,rfl,hz,he,q⟩:=h;obtain⟨t,rfl⟩:=rx;obtain⟨t',rfl⟩:=ry;obtain⟨j,h1,h2,h3,h4,h5⟩:=Xg9 he;have hl:z.cps.toList.length=z.length:=by simp[Str.length]
 rw[hl] at h1 h4 h5;have hn:=Xcm;exact tail_any (typeIs_str s z t) slot_str_getitem.lookup (getItem_str (c:=c) (by
  have e1:decide (i < -(2^63:Int))=false:=decide_eq_false (by omega)
  have e2:decide (i ≥ 2^63)=false:=decide_eq_false (by omega)
  rw[e1,e2,Bool.or_false]) (by rw[h1];simpa using h2) ⟨.str ⟨#[c]⟩,H,I.tok _,⟨_,rfl⟩,q⟩) hs
theorem Xns(its:List Value)(n j:Nat)(u:Value):Obj.mapSeq (·.setIfInBounds j u) { cls:=.type "list",data:=.seq its.toArray n }={ cls:=.type "list",data:=.seq (its.set j u).toArray n }:=by
 simp[Obj.mapSeq]
theorem Inv.lst{pins:List (Addr×Obj)}{σ:St}{H:Hp}{s:Shared}{p:Addr}{xs:List V}(I:Inv X pins σ H s)(h:H p=some (.lst xs)) :
  ∃ (its:List Value) (n:Nat),Vals xs its/\s.heap.get? p=some { cls:=.type "list",data:=.seq its.toArray n }/\xs.length<=sizeLine:=by
 obtain⟨z,its,n,r,e⟩:=I.hok p _ h;exact⟨its,n,r,e,z⟩
theorem Inv.lstUpd{pins:List (Addr×Obj)}{σ:St}{H:Hp}{s:Shared}{p:Addr}{xs ys:List V}{its its':List Value}{n n':Nat}{f:Obj->Obj}(I:Inv X pins σ H s)(h:H p=some (.lst xs))
  (ho:s.heap.get? p=some { cls:=.type "list",data:=.seq its.toArray n }) (hf:f { cls:=.type "list",data:=.seq its.toArray n }={ cls:=.type "list",data:=.seq its'.toArray n' }) (r:Vals ys its') (hz:ys.length<=sizeLine) (t:Nat) :
  Inv X pins σ (upd H p (.lst ys)) { s with heap:=s.heap.update p f,toks:=t }:=by
 have e:(s.heap.update p f).get? p=some { cls:=.type "list",data:=.seq its'.toArray n' }:=by
  rw[Heap.get?_update_self f ho (by rw[hf]<;>rfl),hf]
 refine I.write (x:=p) (e:=p) (by rw[h];trivial) (.inl rfl) (fun b u hb q=>(Heap.get?_update_other _ _ (Ne.symm hb)).trans q) ⟨_,e⟩ ?_
 exact⟨hz,its',n',r,e⟩
def X21:V->V->V->Hp->(Hp->Prop)->Prop:=fun o i v H Q=>∃ p xs k j,o=.ref p/\i=.int k/\H p=some (.lst xs)/\ixN xs.length k=some j/\Q (upd H p (.lst (xs.set j v)))
theorem Xr8:X4s X X21:=by
 intro pins s σ H o i v ov iv u Q I ro ri rv h;obtain⟨p,xs,k,j,rfl,rfl,hp,hj,q⟩:=h;cases ro;obtain⟨t,rfl⟩:=ri;obtain⟨its,n,r,ho,hz⟩:=I.lst hp;obtain⟨h1,h2,h3,h4⟩:=Xmc hj;have hl:=r.length;have hn:=Xcm;have I':Inv X pins σ (upd H p (.lst (xs.set j v))) { s with heap:=s.heap.update p (Obj.mapSeq (·.setIfInBounds j u)) } :=
  I.lstUpd hp ho (Xns its n j u) (r.set rv j) (by rw[List.length_set];exact hz) s.toks
 by_cases h0:0<=k
 ·have hk:k.toNat=j:=by
   rw[seqIndex_of h0 h4] at h1;exact Option.some.inj h1
  exact PySem.W.ki_setAt ho h0 (by omega) (by rw[List.size_toArray,<- hl];exact h4) (by rw[hk];exact⟨_,I',q⟩)
 ·have hk:(k+(its.toArray.size:Int)).toNat=j:=by
   rw[seqIndex_neg (by omega) h3] at h1
   rw[List.size_toArray,<- hl];exact Option.some.inj h1
  exact PySem.W.ki_setBack ho (by omega) (by rw[List.size_toArray,<- hl];exact h3) (by omega) (by rw[hk];exact⟨_,I',q⟩)
theorem Xjv(lo hi:Option Int)(n:Nat):(sliceBounds lo hi none n).1=((HT.sIx n 0 lo:Nat):Int)/\(sliceBounds lo hi none n).2.1=((HT.sIx n n hi:Nat):Int)/\(sliceBounds lo hi none n).2.2=1:=by
 refine⟨?_,?_,rfl⟩
 ·cases lo with
  | none=>simp[sliceBounds,HT.sIx]
  | some i =>
   simp only[sliceBounds,HT.sIx,Option.getD_none,show(1:Int)>0 by decide,if_true]
   by_cases h:i<0
   ·simp only[h,if_true]<;>omega
   ·simp only[h,if_false]<;>omega
 ·cases hi with
  | none=>simp[sliceBounds,HT.sIx]
  | some i =>
   simp only[sliceBounds,HT.sIx,Option.getD_none,show(1:Int)>0 by decide,if_true]
   by_cases h:i<0
   ·simp only[h,if_true]<;>omega
   ·simp only[h,if_false]<;>omega
theorem Xi6(its:List Value)(lo hi:Option Int):slicePick its.toArray lo hi none=((its.drop (HT.sIx its.length 0 lo)).take (HT.sIx its.length its.length hi-HT.sIx its.length 0 lo)).toArray:=by
 obtain⟨h1,h2,h3⟩:=Xjv lo hi its.toArray.size;unfold slicePick;rw[h1,h2,h3];simp only[sliceRange_one,pick_run,List.size_toArray]<;>rfl
theorem Xjw:Xds X (.builtin "len") (fun xs H Q=>∃ p ys,xs=[.ref p]/\(SqL X.K H p ys\/SqT X.K H p ys)/\Q (.int ys.length) H):=by
 intro pins s σ H xs us Q I r h;obtain⟨p,ys,rfl,hq,q⟩:=h;obtain⟨u,rfl,rx⟩:=Xjh r;cases rx;have hn:=Xcm;rcases hq with hq|hq
 ·obtain⟨its,r',pl,hz⟩:=I.list hq
  have hlen:=r'.length;exact Calls.call_len_list pl.isList (by simp only[List.size_toArray]<;>omega) ⟨.int ys.length,H,I.tok _,⟨s.toks+1,by rw[List.size_toArray,hlen]⟩,q⟩
 ·obtain⟨its,r',pl,hz⟩:=I.tuple hq
  have hlen:=r'.length;exact len_tuple pl (by simp only[List.size_toArray]<;>omega) ⟨.int ys.length,H,I.tok _,⟨s.toks+1,by rw[List.size_toArray,hlen]⟩,q⟩
theorem Xjx:Xds X (.builtin "len") (fun xs H Q=>∃ z,xs=[.str z]/\z.length<=sizeLine/\Q (.int z.length) H):=by
 intro pins s σ H xs us Q I r h;obtain⟨z,rfl,hz,q⟩:=h;obtain⟨u,rfl,t,rfl⟩:=Xjh r;have hn:=Xcm;exact len_str (by omega) ⟨.int z.length,H,I.tok _,⟨_,rfl⟩,q⟩
theorem Xjy:Xds X (.type "list") (fun xs H Q=>∃ p ys,xs=[.ref p]/\(SqL X.K H p ys\/SqT X.K H p ys)/\∀ l,H l=none->Q (.ref l) (upd H l (.lst ys))):=by
 intro pins s σ H xs us Q I r h;obtain⟨p,ys,rfl,hq,q⟩:=h;obtain⟨u,rfl,rx⟩:=Xjh r;cases rx;have fin:∀ (its:List Value),Vals ys its->ys.length<=sizeLine->∀ (h':Heap) (c':Nat),(∀ b o',s.heap.get? b=some o'->h'.get? b=some o') ->
   h'.get? s.heap.objs.size=some { cls:=.type "list",dict:=none,data:=.seq its.toArray c',slots:=#[] }->EP X pins σ Q (.ref s.heap.objs.size) { s with heap:=h' }:=fun its r' hz h' c' kp e =>
  ⟨.ref s.heap.objs.size,_,I.laid (t':=s.toks) kp (Nat.le_refl _) (show ObjOk X.prog X.w _ h' _ (.lst ys) from⟨hz,its,c',r',e⟩),rfl,q _ (I.hok.fresh (Nat.le_refl _))⟩
 rcases hq with hq|hq
 ·obtain⟨its,r',pl,hz⟩:=I.list hq
  have hlen:=r'.length;obtain⟨o,ho,hc,n,hd⟩:=pl.isList;exact call_list_seq p (.inl rfl) ho hc hd (fun h' c' kp e=>fin its r' hz h' c' kp e) (by simp only[List.size_toArray]<;>omega)
 ·obtain⟨its,r',pl,hz⟩:=I.tuple hq
  have hlen:=r'.length;obtain⟨o,ho,hc,n,hd⟩:=pl;exact call_list_seq p (.inr rfl) ho hc hd (fun h' c' kp e=>fin its r' hz h' c' kp e) (by simp only[List.size_toArray]<;>omega)
theorem Xd6:Xds X (.type "tuple") (fun xs H Q=>∃ p ys,xs=[.ref p]/\((SqL X.K H p ys/\∀ l,H l=none->Q (.ref l) (upd H l (.tup ys)))\/(SqT X.K H p ys/\Q (.ref p) H))):=by
 intro pins s σ H xs us Q I r h;obtain⟨p,ys,rfl,h⟩:=h;obtain⟨u,rfl,rx⟩:=Xjh r;cases rx;rcases h with⟨hq,q⟩|⟨hq,q⟩
 ·obtain⟨its,r',pl,hz⟩:=I.list hq
  have hlen:=r'.length;refine call_tuple_list pl.isList (fun h' kp=>?_) (by simp only[List.size_toArray]<;>omega)
  have I1:Inv X pins σ H { s with heap:=h' }:=I.kept (t':=s.toks) kp
  have I2:Inv X pins σ (upd H h'.objs.size (.tup ys)) { s with heap:=h'.push { cls:=.type "tuple",data:=.seq its.toArray } } :=
   I1.laid (t':=s.toks) (fun b o e=>Heap.get?_push_of_some _ e) (Nat.le_refl _) (show ObjOk X.prog X.w _ _ _ (.tup ys) from⟨hz,its,r',IsTup.new _ _⟩)
  exact⟨.ref h'.objs.size,_,I2,rfl,q _ (I1.hok.fresh (Nat.le_refl _))⟩
 ·obtain⟨its,r',pl,hz⟩:=I.tuple hq
  exact call_tuple_same pl ⟨.ref p,H,I,rfl,q⟩
variable{o e:Expr}{es:List Expr}{to:TE}{t:TA}{name:Str}{apos cpos:Pos}{T id:String}{r:V->List V->Hp->VK->Prop}
/- xs.append(e),list.index on a module's tuple .. are MtR facts of 06m -/
end
end L2
namespace L2
open PySem PySem.Spec PyProof.Rows
def MtM(X:Cx)(id:String)(r:V->List V->Hp->VK->Prop):Prop :=
 ∀ (pins:List (Addr×Obj)) (s:Shared) (σ:St) (H:Hp) (x:V) (xs:List V) (v:Value) (us:List Value) (Q:VK),Inv X pins σ H s->RelV x v->Vals xs us->r x xs H Q ->
  wpAny (model X.prog X.w) X.A (call (.builtin id) (v::us)) (EP X pins σ Q) X.xe s
theorem Vals.one:∀ {x:V} {us:List Value},Vals [x] us->∃ u,us=[u]/\RelV x u
 | _,_,h=>by cases h with|cons r t=>cases t;exact⟨_,rfl,r⟩
theorem Vals.two:∀ {x y:V} {us:List Value},Vals [x,y] us->∃ u v,us=[u,v]/\RelV x u/\RelV y v
 | _,_,_,h=>by cases h with|cons r t=>cases t with|cons q t=>cases t;exact⟨_,_,rfl,r,q⟩
theorem Vals.zero:∀ {us:List Value},Vals [] us->us=[]
 | _,.nil=>rfl
theorem Vals.reverse{xs:List V}{us:List Value}(h:Vals xs us):Vals xs.reverse us.reverse:=by
 induction h with
 | nil=>exact .nil
 | cons r t ih=>rw[List.reverse_cons,List.reverse_cons];exact Vals.append ih (.cons r .nil)
theorem Vals.rep{xs:List V}{us:List Value}(h:Vals xs us):∀ k:Nat,Vals (List.replicate k xs).flatten (List.replicate k us).flatten
 | 0=>.nil
 | k+1=>by
  rw[List.replicate_succ,List.replicate_succ,List.flatten_cons,List.flatten_cons];exact Vals.append h (Vals.rep h k)
theorem Xir(its:List Value):∀ (k:Nat) (acc:List Value),
  List.foldl (fun x1 x2=>x1++x2) acc.toArray (List.replicate k its.toArray)=(acc++(List.replicate k its).flatten).toArray
 | 0,acc=>by simp
 | k+1,acc=>by
  have e:acc.toArray++its.toArray=(acc++its).toArray:=by simp
  have e2:(acc++its)++(List.replicate k its).flatten=acc++(List.replicate (k+1) its).flatten:=by
   rw[List.replicate_succ,List.flatten_cons,List.append_assoc]
  rw[<- e2,<- Xir its k (acc++its),<- e,List.replicate_succ,List.foldl_cons]
section
variable{X:Cx}{pins:List (Addr×Obj)}{σ:St}{H:Hp}{s:Shared}{l b:Addr}{xs ys zs:List V}
theorem Inv.lset{its its':List Value}{n:Nat}{f:Array Value->Array Value}{t':Nat}(I:Inv X pins σ H s)(hH:H l=some (.lst xs))
  (e:s.heap.get? l=some { cls:=.type "list",data:=.seq its.toArray n }) (hf:f its.toArray=its'.toArray) (hv:Vals ys its') (hz:ys.length<=sizeLine) :
  Inv X pins σ (upd H l (.lst ys)) { s with heap:=s.heap.update l (Obj.mapSeq f),toks:=t' }:=by
 have q:=PySem.IsL.update e f;rw[hf] at q;refine I.write (x:=l) (e:=l) (by rw[hH];exact trivial) (.inl rfl) (fun b' u hb hu=>(Heap.get?_update_other s.heap (Obj.mapSeq f) (Ne.symm hb)).trans hu) ⟨_,q⟩ ?_
 exact⟨hz,its',_,hv,q⟩
theorem Inv.lnew{its:List Value}{t':Nat}(I:Inv X pins σ H s)(hv:Vals ys its)(hz:ys.length<=sizeLine) :
  Inv X pins σ (upd H s.heap.objs.size (.lst ys)) { s with heap:=s.heap.push { cls:=.type "list",data:=.seq its.toArray },toks:=t' } :=
 I.laid (fun _ _ q=>Heap.get?_push_of_some _ q) (Nat.le_refl _) ⟨hz,its,0,hv,Heap.get?_push_size _ rfl⟩
theorem Inv.fresh(I:Inv X pins σ H s):H s.heap.objs.size=none:=I.hok.fresh (Nat.le_refl _)
theorem Inv.lstM(I:Inv X pins σ H s)(hH:H l=some (.lst xs)):xs.length<=sizeLine/\∃ (its:List Value) (n:Nat),Vals xs its/\xs.length=its.length/\s.heap.get? l=some { cls:=.type "list",data:=.seq its.toArray n }:=by
 obtain⟨z,its,n,r,e⟩:=I.hok l _ hH;exact⟨z,its,n,r,r.length,e⟩
theorem Xjz{n:Nat}(h:n<=sizeLine):Builtin.List.listTooLong n=false:=by
 unfold Builtin.List.listTooLong;exact decide_eq_false (by omega)
end
section
variable{X:Cx}
def Xvt:V->List V->Hp->VK->Prop:=fun x vs H Q=>∃ l xs y,x=.ref l/\vs=[y]/\H l=some (.lst xs)/\xs.length<sizeLine/\Q .non (upd H l (.lst (xs++[y])))
theorem Xis:MtM X "list.append" Xvt:=by
 intro pins s σ H x vs v us Q I rx rv h;obtain⟨l,xs,y,rfl,rfl,hH,hz,q⟩:=h;cases rx;obtain⟨u,rfl,ru⟩:=rv.one;obtain⟨z,its,n,r,hl,e⟩:=I.lstM hH;refine call_meets F.slot_list_append ⟨_,e,rfl⟩ F.entry_list_append (F.args_list_append_2 _ _) (PySem.list_append l its.toArray n u (by rw[List.size_toArray];omega)) ⟨e,?_⟩
 refine⟨.non,_,I.lset (its':=its++[u]) hH e (by simp) (r.append (.cons ru .nil)) ?_,rfl,q⟩
 rw[List.length_append,List.length_singleton];omega
def Xvu:V->List V->Hp->VK->Prop:=fun x vs H Q=>∃ l b xs zs,x=.ref l/\vs=[.ref b]/\H l=some (.lst xs)/\H b=some (.lst zs)/\xs.length+zs.length<=sizeLine/\Q .non (upd H l (.lst (xs++zs)))
theorem Xpv:MtM X "list.extend" Xvu:=by
 intro pins s σ H x vs v us Q I rx rv h;obtain⟨l,b,xs,zs,rfl,rfl,hH,hB,hz,q⟩:=h;cases rx;obtain⟨u,rfl,ru⟩:=rv.one;cases ru;obtain⟨z,its,n,r,hl,e⟩:=I.lstM hH;obtain⟨z2,its2,n2,r2,hl2,e2⟩:=I.lstM hB;have hsz:its.toArray.size+its2.toArray.size<=sizeLine:=by rw[List.size_toArray,List.size_toArray];omega
 have hlong:¬ (!its.toArray.isEmpty&&Builtin.List.listTooLong (its.toArray.size+its2.toArray.size))=true:=by
  rw[Xjz hsz,Bool.and_false];exact Bool.false_ne_true
 refine call_meets F.slot_list_extend ⟨_,e,rfl⟩ F.entry_list_extend (F.args_list_extend_2 _ _)
  (AutoSeq1.list_extend_list_list_0 l its.toArray n b its2.toArray n2 hlong (by rw[List.size_toArray];omega) (by omega)) ⟨e,e2,?_⟩
 refine⟨.non,_,I.lset (its':=its++its2) hH e (by simp) (r.append r2) ?_,rfl,q⟩
 rw[List.length_append];omega
noncomputable def X4y:R2:=fun x y H Q=>∃ l b xs zs,x=.ref l/\y=.ref b/\H l=some (.lst xs)/\H b=some (.lst zs)/\xs.length+zs.length<=sizeLine/\∀ p,H p=none->Q (.ref p) (upd H p (.lst (xs++zs)))
theorem Xzo:OpR X (binaryOp .Add) X4y:=by
 intro pins s σ H x y v u Q I rx ry h;obtain⟨l,b,xs,zs,rfl,rfl,hH,hB,hz,q⟩:=h;cases rx;cases ry;obtain⟨z,its,n,r,hl,e⟩:=I.lstM hH;obtain⟨z2,its2,n2,r2,hl2,e2⟩:=I.lstM hB;refine PySem.P.add_list e e2 ?_ (by rw[List.size_toArray,List.size_toArray];omega)
 have ea:its.toArray++its2.toArray=(its++its2).toArray:=by simp
 rw[ea];exact⟨.ref _,_,I.lnew (t':=s.toks) (r.append r2) (by rw[List.length_append];omega),rfl,q _ I.fresh⟩
noncomputable def X4z:R2:=fun x y H Q=>∃ l k xs,x=.ref l/\y=.int k/\H l=some (.lst xs)/\-(2^63)<=k/\k<2^63/\xs.length*k.toNat<=sizeLine /\
 ∀ p,H p=none->Q (.ref p) (upd H p (.lst (List.replicate k.toNat xs).flatten))
theorem Xhb{α:Type}(xs:List α)(k:Nat):(List.replicate k xs).flatten.length=k*xs.length:=by
 induction k with
 | zero=>simp
 | succ k ih=>rw[List.replicate_succ,List.flatten_cons,List.length_append,ih,Nat.succ_mul,Nat.add_comm]
theorem Xzp:OpR X (binaryOp .Mult) X4z:=by
 intro pins s σ H x y v u Q I rx ry h;obtain⟨l,k,xs,rfl,rfl,hH,h1,h2,hz,q⟩:=h;cases rx;obtain⟨t,rfl⟩:=ry;obtain⟨z,its,n,r,hl,e⟩:=I.lstM hH;have hlen:its.toArray.size*k.toNat<=sizeLine:=by rw[List.size_toArray,<- hl];exact hz
 have hcap:¬ its.toArray.size*k.toNat>(2^63-1)/8:=by
  have:(sizeLine:Nat)<=(2^63-1)/8:=by decide
  omega
 have hfit:¬ (!Builtin.List.listFitsIndex k)=true:=by
  rw[fitsIndex_both h1 h2];exact Bool.false_ne_true
 have hlong:¬ Builtin.List.listTooLong (its.toArray.size*k.toNat)=true:=by
  rw[Xjz hlen];exact Bool.false_ne_true
 have hnew:List.foldl (fun x1 x2=>x1++x2) #[] (List.replicate (if its.toArray.isEmpty=true then 0 else k.toNat) its.toArray)=(List.replicate k.toNat its).flatten.toArray:=by
  have f0:∀ m:Nat,List.foldl (fun x1 x2=>x1++x2) #[] (List.replicate m its.toArray)=(List.replicate m its).flatten.toArray:=fun m=>by
   have:=Xir its m [];rw[List.nil_append] at this;exact this
  rw[f0];cases its with
  | nil=>simp
  | cons a r'=>rw[if_neg (by simp)]
 refine wpAny_binaryOp_repeat_ref (T := "list") (U := "int") (by decide) ⟨_,e,rfl⟩ (fun s'=>typeIs_int s' k t) noFill_list_mul F.fills_int_mul F.slot_int_rmul repeat_list F.slot_int_index.lookup
  (call_meets F.slot_int_rmul (typeIs_int s k t) F.entry_int_rmul (F.args_int_rmul_2 _ _) (int___rmul___int_list k t l its.toArray n)
   ⟨e,rfl,⟨_,e,rfl⟩,call_meets F.slot_list_mul ⟨_,e,rfl⟩ F.entry_list_mul (F.args_list_mul_2 _ _) (AutoListH.list___mul___list_int_3 l its.toArray n k t hfit hcap hlong) ⟨e,?_⟩⟩)
 rw[hnew];exact⟨.ref _,_,I.lnew (t':=s.toks) (r.rep k.toNat) (by rw[Xhb,Nat.mul_comm];exact hz),rfl,q _ I.fresh⟩
end
section
variable{prog:Program}{w:World}{A:Around}{E:Value->Shared->Prop}{s:Shared}
end
section
variable{X:Cx}
end
end L2
namespace Att
open PySem PySem.W PySem.Calls PyProof.Rows
theorem Xga{P:Params}{h:Heap}:∀ (ns:List Int) (vs:List Value),WellAll P h vs (ns.map WData.int)->IntsAre vs ns:=by
 intro ns
 induction ns with
 | nil =>
  intro vs w;rw[List.map_nil] at w;cases w;exact .nil
 | cons n ns ih =>
  intro vs w;rw[List.map_cons] at w;cases w with
  | cons a b =>
   cases a;exact .cons _ _ (ih _ b)
theorem Xpw{l:OpenLaw}{n:Nat}(hn:l.most=some n){P:Params}{h:Heap}{args:List WData}{vals:List Value}
  (hpre:l.row.toRowW.claim.pre args=true) (hwl:WellAll P h vals args) :
  ∃ a vs ns,vals=[Value.ref a]/\args=[WData.list (ns.map WData.int)]/\h.get? a=some { cls:=.type "list",data:=.seq vs.toArray }/\IntsAre vs ns/\ns.length<=n:=by
 have hsh:WShape.hasAll [] args [.list .int]=true:=(pre_splitW hpre).1;have hc:l.pre.holds [] { args:=args }=true:=(pre_splitW hpre).2;obtain⟨d,r,rfl,h1,h2⟩:=hasAllW_cons hsh;obtain rfl:=hasAllW_nil h2;obtain⟨xs,rfl,h3⟩:=hasW_list h1;obtain⟨ns,rfl⟩:=items_int h3;have hlen:ns.length<=n:=by
  unfold OpenLaw.pre at hc;have h4:(WTm.not (.lt (.lit (.int (n:Int))) (.len (.arg 0)))).holds [] { args:=[.list (ns.map .int)] }=true:=by
   have h4:=(holds_andW hc).1;rw[hn] at h4;exact h4
  have h5:=condW_of h4 (w_not (w_lt w_lit (w_len_list (w_arg rfl))));rw[List.length_map] at h5;refine Nat.le_of_not_lt fun q=>?_
  have q':(n:Int)<((ns.length:Nat):Int):=by omega
  first
   | (rw[decide_eq_true q'] at h5;exact absurd h5 (by decide))
   | (simp at h5;omega)
 cases hwl with
 | cons w1 w2 =>
  cases w2;cases w1 with
  | list ho hall=>exact⟨_,_,ns,rfl,rfl,ho,Xga ns _ hall,hlen⟩
theorem Xpx(l:OpenLaw)(args:List WData):l.row.toRowW.claim.post args (.bool true) args=true :=
 postW_of (r:=l.row.toRowW) (X:=(true==true))
  (show WShape.has [] (.bool true) .bool=true by first|rfl|decide|simp[WShape.has,WShape.arms,WShape.armsAll])
  (show(WTm.eq .res (.lit (.bool true))).value [] { args:=args,res:=some (.bool true),after:=args }=some (.bool (true==true)) from w_eq_bool (w_res rfl) w_lit) rfl
theorem attach_call{l:OpenLaw}{n:Nat}{q:Program}{loose:List Str}{XP:(Str->Option Value)->Heap->Prop}{YP:World->Heap->Prop}{d:DefRec}
  (hn:l.most=some n) (hdf:d.params.defaults=[])
  (call:∀ (w:World) (s₀ s₁:Shared) (mg mb:Str->Option Value) (fa:Addr) (o:Obj) (pm cd doc:Value) (a:Addr) (vs:List Value) (ns:List Int),
   Ground q loose [] XP w s₀ mg mb s₁.heap->YP w s₁.heap ->
   s₁.heap.get? fa=some o->o.data=.func (docDef d.name d.params d.body d.scope pm cd doc)->s₁.heap.CodeRec cd d.name->mg d.name=some (.ref fa) ->
   s₁.heap.get? a=some { cls:=.type "list",data:=.seq vs.toArray }->IntsAre vs ns->ns.length<=n->s₁.gens=#[] ->
   codeAny (model l.prog w) callerA (.call (.ref fa) ⟨[.ref a],[]⟩) (fun r s'=>r=.ok (.ret (.bool true))/\OldK s₁.heap s'.heap/\s'.os=s₁.os/\AllBare s'.gens) s₁) :
  WalkO q loose XP YP l.row.toRowW d [] (fun f vs=>PySem.call f vs):=by
 intro w s₀ s₁ mg mb G Y fa o pm cd doc dV kV ho hd hcd hD hmg hg args vals as hpre hlay hrd hwl hlo;obtain rfl:dV=.none:=Dflts.none hD hdf;obtain rfl:kV=.none:=Dflts.noKw hD;obtain⟨a,vs,ns,rfl,rfl,hobj,hints,hlen⟩:=Xpw hn hpre hwl;refine enter_call (codeAny_mono (call w s₀ s₁ mg mb fa o pm cd doc a vs ns G Y ho (fd_plain hd) hcd hmg hobj hints hlen hg) fun r s' hq=>?_)
 obtain⟨rfl,h2,h3,h4⟩:=hq;exact⟨.inl ⟨.bool true,.bool true,[],rfl,fun _=>rfl,.bool true,Xpx l _,fun _=>⟨List.Pairwise.nil,fun _ hm=>(nomatch hm)⟩⟩,h2,h3,h4⟩
section
variable{prog:Program}{w:World}{A:Around}{E:Value->Shared->Prop}{s:Shared}{K:Frag}
end
end Att
namespace L2
open PySem PySem.Spec PyProof.Rows
theorem Xc0:∀ {vs:List Value} {ns:List Int},IntsAre vs ns->Vals (ns.map V.int) vs
 | _,_,.nil=>.nil
 | _,_,.cons n t h=>.cons ⟨t,rfl⟩ (Xc0 h)
def Xnt(H:Hp):Prop:=∀ b,H b=none\/∃ o xs,H b=some (.frz o (.lst xs))
theorem Xr9{P:Program}{w:World}{K:PySem.W.Frag}{mg mb:Str->Option Value}{CX:CXT}{k:Nat}{fa a:Addr}{fd:FuncData}{x:Str}{sp:Sp}{s₁:Shared}{vs:List Value}{ns:List Int}
  (KX:K.In s₁.heap) (hns:s₁.heap.Ns mainGlobals mg) (hb:s₁.heap.Ns builtinsNs mb) (hbb:∀ x:Str,x ≠ "__name__" -> mb x=bootBuiltins x) (hlim:s₁.heap.NoLimit) (hg:s₁.gens=#[])
  (ha:s₁.heap.get? a=some { cls:=.type "list",data:=.seq vs.toArray }) (hi:IntsAre vs ns) (hl:ns.length<=sizeLine) (hr:Room k callerA)
  (F:∀ base:Heap,K.In base->base.Ns mainGlobals mg->FnOk P w K mg base CX k fa fd [x] sp) (hbind:∀ (s:Shared) (u:Value),BindsTo s fd ⟨[u],[]⟩ [(x,u)])
  (hsp:∀ H:Hp,Xnt H->SqL K H a (ns.map V.int)->sp [.ref a] H (fun v _=>v=.bl true) fun _ _ _=>False)
  (hCX:∀ H e s',CX [] H s₁ (fun _ _ _=>False) e s'->False) :
  codeAny (model P w) callerA (.call (.ref fa) ⟨[.ref a],[]⟩) (fun r s'=>r=.ok (.ret (.bool true))/\OldK s₁.heap s'.heap/\s'.os=s₁.os/\AllBare s'.gens) s₁:=by
 have rv:=Xc0 hi;have lenV:=hi.length;have core:∀ H:Hp,Xnt H->SqL K H a (ns.map V.int)->HOk P w H s₁.heap->(∀ b,H b≠none->b=a)->(H a≠none->K.lookup a=none) ->
   codeAny (model P w) callerA (.call (.ref fa) ⟨[.ref a],[]⟩) (fun r s'=>r=.ok (.ret (.bool true))/\OldK s₁.heap s'.heap/\s'.os=s₁.os/\AllBare s'.gens) s₁:=by
  intro H hO hS hok hA hK;have base_of:∀ {b:Addr} {o:Obj},s₁.heap.get? b=some o->H b=none->(Xdr s₁.heap H).get? b=some o:=fun e n=>Xr4 e n
  have noA:∀ {b:Addr} {o:Obj} {es:Array DictEntry} {ep:Nat},s₁.heap.get? b=some o->o.data=.dict es ep->H b=none:=fun {b o es ep} e d=>by
   cases q:H b with
   | none=>rfl
   | some u =>
    have e':b=a:=hA b (by rw[q];simp)
    subst e';rw[ha] at e;cases e;have d':Data.seq vs.toArray _=Data.dict es ep:=d;cases d'
  have nsK:∀ {b:Addr} {m:Str->Option Value},s₁.heap.Ns b m->(Xdr s₁.heap H).Ns b m:=fun {b m} ⟨o,es,ep,e,d,r⟩=>⟨o,es,ep,base_of e (noA e d),d,r⟩
  have hKb:K.In (Xdr s₁.heap H):=fun b o e=>base_of (KX b o e) (by
   cases q:H b with
   | none=>rfl
   | some u =>
    have e':b=a:=hA b (by rw[q];simp)
    subst e';rw[hK (by rw[q];simp)] at e;cases e)
  have hM:Mod K mg (Xdr s₁.heap H):=⟨hKb,nsK hns,⟨mb,nsK hb,hbb⟩,let ⟨mc,h1,h2⟩:=hlim;⟨mc,nsK h1,h2⟩⟩
  have e0:Env0 P w K mg (Xdr s₁.heap H) callerA [] s₁ H:=⟨rfl,hM,fun b o e=>Xvo e,Nat.le_of_eq (Xpo _ _),trivial,fun b hb=>absurd (show b∈([]:List Addr) from hb) (by simp),hok,.of_eq hg⟩
  refine codeAny_mono ((F _ hKb (nsK hns)).run callerA [] s₁ H ⟨[.ref a],[]⟩ [.ref a] [.ref a] _ _ hr e0 (hbind s₁ (.ref a)) (.cons rfl .nil) (hsp H hO hS)) fun r s' h=>?_
  cases r with
  | error e=>exact(hCX H e s' h).elim
  | ok fl =>
   cases fl with
   | next=>exact False.elim h
   | brk=>exact False.elim h
   | cont=>exact False.elim h
   | ret u =>
    obtain⟨v,H',os,bare,un,hok',r',q⟩:=h;have q':v=.bl true:=q;subst q';obtain rfl:u=Value.bool true:=r';refine⟨rfl,OldK.of_keep fun b o e=>?_,os,bare⟩
    cases q:H b with
    | none=>exact un.keep b o e q (by intro z;exact absurd (show b∈([]:List Addr) from z) (by simp)) (by simp)
    | some u =>
     rcases hO b with z|⟨ob,xs,z⟩
     ·rw[q] at z;cases z
     ·have z2:=un.frzs b ob _ z
      obtain⟨e1,_⟩:=hok b _ z;obtain⟨e2,_⟩:=hok' b _ z2;rw[e] at e1;cases e1;exact e2
 cases hk:K.lookup a with
 | some o =>
  have e:=KX a o hk;rw[ha] at e;cases e;refine core (fun _=>none) (fun _=>.inl rfl) (.inr ⟨_,vs.toArray,_,hk,rfl,rfl,rfl,by rw[List.size_toArray,lenV];exact hl,by simpa using rv⟩) (fun b u z=>by have z':(none:Option HO)=some u:=z;cases z') (fun b z=>absurd rfl z) fun z=>absurd rfl z
 | none =>
  refine core (fun b=>if b=a then some (.frz { cls:=.type "list",data:=.seq vs.toArray } (.lst (ns.map V.int))) else none) (fun b=>?_) (.inl (.inr ⟨{ cls:=.type "list",data:=.seq vs.toArray },if_pos rfl⟩)) (fun b u z=>?_) (fun b z=>?_) fun _=>hk
  ·by_cases hb:b=a
   ·exact .inr ⟨_,_,if_pos hb⟩
   ·exact .inl (if_neg hb)
  ·by_cases hb:b=a
   ·have z':=(if_pos hb).symm.trans z
    cases z';subst hb;exact⟨ha,by rw[List.length_map];exact hl,vs,_,rv,ha⟩
   ·have z':=(if_neg hb).symm.trans z
    cases z'
  ·by_cases hb:b=a
   ·exact hb
   ·exact absurd (if_neg hb) z
end L2
namespace L2
open PySem PySem.Spec PyProof.Rows
theorem walk_of{l:PySem.W.OpenLaw}{n k:Nat}{q:Program}{loose:List Str}{XP:(Str->Option Value)->Heap->Prop}{YP:World->Heap->Prop}{d:DefRec}{K:Params->PySem.W.Frag}{CX:World->CXT}{sp:World->Sp}{x:Str}
  (hn:l.most=some n) (hn2:n<=sizeLine) (hdf:d.params.defaults=[]) (hr:Room k callerA)
  (hY:∀ (w:World) (h:Heap),YP w h->(K w.params).In h)
  (F:∀ (w:World) (mg:Str->Option Value) (fa:Addr) (h:Heap),(K w.params).In h->h.Ns mainGlobals mg->mg d.name=some (.ref fa) ->
   ∃ fd:FuncData,(∀ (s:Shared) (u:Value),BindsTo s fd ⟨[u],[]⟩ [(x,u)]) /\
    ∀ base:Heap,(K w.params).In base->base.Ns mainGlobals mg->FnOk l.prog w (K w.params) mg base (CX w) k fa fd [x] (sp w))
  (hsp:∀ (w:World) (H:Hp) (a:Addr) (ns:List Int),ns.length<=n->Xnt H->SqL (K w.params) H a (ns.map V.int)->sp w [.ref a] H (fun v _=>v=.bl true) fun _ _ _=>False)
  (hCX:∀ (w:World) (H:Hp) (s:Shared) (e:Value) (s':Shared),CX w [] H s (fun _ _ _=>False) e s'->False) :
  PySem.W.WalkO q loose XP YP l.row.toRowW d [] (fun f vs=>PySem.call f vs):=by
 refine Att.attach_call hn hdf fun w s₀ s₁ mg mb fa o pm cd doc a vs ns G Y ho hd hcd hmg hobj hints hlen hg=>?_
 have KX:=hY w _ Y;obtain⟨fd,hb,hF⟩:=F w mg fa _ KX G.T.g hmg;exact Xr9 KX G.T.g G.T.b G.T.builtins G.T.nolimit hg hobj hints (Nat.le_trans hlen hn2) hr hF hb (fun H hO hS=>hsp w H a ns hlen hO hS) fun H e s'=>hCX w H s₁ e s'
end L2
/- THE LAST THEOREM (shape;LID,My.* are yours):
   My.Adr: a structure of the addresses that your layer names (classes,functions);My.Txt K t: a structure (Prop) of the equations over K;
   My.txt_mk:{K} {implicit addresses ..} (e1:nsIn K mainGlobals "law" = some (some (.ref f))) (e2:K.lookup f=some ⟨oc,od,.func (fnOf "law" "law" params body scope dV kV doc pm an cdv ct),sl⟩) (e3:codeIn K cdv "law" = true) ..:∃ t,My.Txt K t
set_option maxRecDepth 100000 in
set_option maxHeartbeats 0 in
theorem PySem.Challenge.cw_LID_holds : PySem.Challenge.rw_LID.Holds := by
 w_on;o_law;k_head;(case hw=>w_witness2)
 k_fill
 refine L2.walk_of (l:=PySem.Challenge.rw_LID) (n:=63) (k:=40) (x := "script") (CX:=fun w=>..) (sp:=fun _=>My.sp_law) rfl (by decide) rfl ⟨rfl,by decide,by decide⟩ (fun w h Y=>PySem.W.kIn_of Y) ?F ?S ?C
 case F =>
  intro w mg fa h KX G hmg;have T:∃ t,My.Txt (L2.KOf KX) t:=by
   dsimp only[L2.KOf]                          -- K must stand as «<heap const> w.params» for k_is;refine' My.txt_mk ?e1 ?e2 ?e3 ..
   (case e1=>PySem.W.k_is)                    -- in the order: a name -> its address -> its object -> its parts
   (case e2=>PySem.W.k_is)
   ..
  obtain⟨t,T⟩:=T;have e0:=hmg.symm.trans (PySem.W.mg_of KX G T.law);cases e0                                       -- fa is the law's own address;exact⟨_,fun s u=>.of_eq rfl,fun base kb nb=>My.law_fn T kb nb⟩     -- if «.of_eq rfl» comes too early: refine' ⟨_,?b,fun base kb nb=>My.law_fn T kb nb⟩;exact fun s u=>.of_eq rfl
 case S=>exact fun w H a ns hl hO hS=>..
 case C=>exact ..
(the tactic k_is has no namespace: write k_is) -/
namespace L2
open PySem PySem.Spec PyProof.Rows
noncomputable def Xa2(s:Stmt):Arguments:=match s with
 | .FunctionDef _ a _ _ _ _ _ _ _ _=>a
 | _=>{ posonlyargs:=[],args:=[],vararg:=none,kwonlyargs:=[],kw_defaults:=[],kwarg:=none,defaults:=[] }
noncomputable def Yp(s:Stmt):List Stmt:=match s with
 | .FunctionDef _ _ b _ _ _ _ _ _ _=>b
 | _=>[]
noncomputable def Xx(s:Stmt):Scope:=match s with
 | .FunctionDef _ _ _ _ _ _ sc _ _ _=>sc
 | _=>{ kind:=.function,names:=[],isGenerator:=false,isCoroutine:=false }
structure Fun(K:PySem.W.Frag)(x qual:Str)(st:Stmt)(f:Addr)(fd:FuncData):Prop where
 ex:∃ (oc:Value) (od:Option Addr) (kV doc pm:Value) (an:Option Addr) (cdv ct:Value) (osl:Array (Option Value)),
  fd=PySem.W.fnOf x qual (Xa2 st) (Yp st) (Xx st) .none kV doc pm an cdv ct/\K.lookup f=some ⟨oc,od,.func fd,osl⟩/\PySem.W.codeIn K cdv qual=true
 kp:PySem.W.keepIn K (.ref f)=true
section
variable{P:Program}{w:World}{K:PySem.W.Frag}{mg:Str->Option Value}{base:Heap}
theorem Fun.binds{x qual:Str}{st:Stmt}{f:Addr}{fd:FuncData}{ps:List Str}(F:Fun K x qual st f fd)
  (h:∀ (kV doc pm:Value) (an:Option Addr) (cdv ct:Value) (us:List Value),us.length=ps.length->bindArgs (PySem.W.fnOf x qual (Xa2 st) (Yp st) (Xx st) .none kV doc pm an cdv ct) ⟨us,[]⟩=pure (ps.zip us)):Binds K fd ps []:=by
 obtain⟨oc,od,kV,doc,pm,an,cdv,ct,osl,rfl,lk,hcd⟩:=F.ex;exact .all (h kV doc pm an cdv ct)
theorem Xzq{x qual:Str}{st:Stmt}{f:Addr}{oc:Value}{od an:Option Addr}{osl:Array (Option Value)}{kV doc pm cdv ct:Value}(l:K.lookup f=some ⟨oc,od,.func (PySem.W.fnOf x qual (Xa2 st) (Yp st) (Xx st) .none kV doc pm an cdv ct),osl⟩)
  (c:PySem.W.codeIn K cdv qual=true) (k:PySem.W.keepIn K (.ref f)=true):Fun K x qual st f (PySem.W.fnOf x qual (Xa2 st) (Yp st) (Xx st) .none kV doc pm an cdv ct):=⟨⟨oc,od,kV,doc,pm,an,cdv,ct,osl,rfl,l,c⟩,k⟩
end
section
variable{X:Cx}
end
def Same(H H':Hp):Prop:=∀ b o,H b=some o->H' b=some o
theorem Same.refl(H:Hp):Same H H:=fun _ _ h=>h
theorem Same.trans{H H1 H2:Hp}(a:Same H H1)(b:Same H1 H2):Same H H2:=fun c o h=>b c o (a c o h)
theorem Same.free{H H':Hp}(e:Same H H'){l:Addr}(h:H' l=Option.none):H l=Option.none:=by
 cases q:H l with
 | none=>rfl
 | some o =>
  rw[e l o q] at h;cases h
theorem Same.seq{K:PySem.W.Frag}{H H':Hp}{a:Addr}{xs:List V}(e:Same H H')(h:SqL K H a xs):SqL K H' a xs:=by
 rcases h with(h|⟨o,h⟩)|h
 ·exact .inl (.inl (e _ _ h))
 ·exact .inl (.inr ⟨o,e _ _ h⟩)
 ·exact .inr h
end L2
end
section
namespace Z
open PySem PyProof.Rows
inductive D where
 | non|bl (b:Bool)|int (i:Int)|str (x:Str)|tup (xs:List D)|ref (n:Nat)|fro (xs:List D)|fn (f:Nat) (nm:Str)
 deriving Inhabited
inductive O where
 | lst (xs:List D)|set (xs:List D)|dct (kvs:List (D×D))|exc (c:Nat)
noncomputable abbrev Sto:=List O
noncomputable abbrev En:=List (Option D)
inductive R(α:Type) where
 | ok (a:α) (S:Sto)|ex (n:Nat) (S:Sto)|bad
noncomputable def R.bind{α β:Type}:R α->(α->Sto->R β)->R β
 | .ok a S,f=>f a S
 | .ex n S,_=>.ex n S
 | .bad,_=>.bad
@[simp] theorem Rk0{α β:Type}(a:α)(S:Sto)(f:α->Sto->R β):(R.ok a S).bind f=f a S:=rfl
@[simp] theorem R.bind_ex{α β:Type}(n:Nat)(S:Sto)(f:α->Sto->R β):(R.ex n S).bind f=.ex n S:=rfl
@[simp] theorem R.bind_bad{α β:Type}(f:α->Sto->R β):(R.bad:R α).bind f=.bad:=rfl
noncomputable def big:Nat:=1000000
set_option genInjectivity false
inductive Bo where|add|sub|mul|fdiv|mod|pow
 deriving DecidableEq
inductive Co where|eq|ne|lt|le|gt|ge|isin|notin|is|isnot
 deriving DecidableEq
inductive Ty where|int|bool|str|tuple|list|dict|cls(c:Nat)|valueError
 deriving DecidableEq
inductive Bl where
 | len|min|max|mxl|sum|srt|all|tuple|list|repr|int
 deriving DecidableEq
inductive Mt where
 | append|xtd|index|count
 deriving DecidableEq
inductive Tg where
 | var (i:Nat)
 | tup (is:List Nat)
mutual
inductive Ex where
 | nev
 | var (i:Nat)
 | cst (d:D)
 | neg (a:Ex)
 | glb (k:Nat)
 | tup (es:Exs)
 | lst (es:Exs)
 | dct0
 | bin (op:Bo) (a b:Ex)
 | cmp (op:Co) (a b:Ex)
 | chn (o1 o2:Co) (a b c:Ex)
 | and (a b:Ex)
 | or (a b:Ex)
 | not (a:Ex)
 | ite (c a b:Ex)
 | idx (a i:Ex)
 | sli (a:Ex) (lo hi:Op)
 | rev (a:Ex)
 | call (f:Nat) (es:Exs)
 | cal (e:Ex) (es:Exs)
 | lenm (a:Ex)
 | blt (k:Bl) (es:Exs)
 | mth (k:Mt) (o:Ex) (es:Exs)
 | isi (a:Ex) (ts:List Ty)
 | cmr (k:Bool) (n:Nat) (gs:Gens) (elt:Ex)
inductive Op where
 | none|some (e:Ex)
inductive Exs where
 | nil|cons (e:Ex) (es:Exs)
inductive Gens where
 | nil|cons (t:Tg) (it:It) (ifs:Exs) (gs:Gens)
inductive It where
 | val (e:Ex)|rng (es:Exs)|enm (es:Exs)
end
mutual
inductive St where
 | nev
 | asg (t:Tg) (e:Ex)
 | par (is:List Nat) (es:Exs)
 | aset (o i e:Ex)
 | aug (i:Nat) (op:Bo) (e:Ex)
 | expr (e:Ex)
 | ret (e:Ex)
 | ite (c:Ex) (a b:Sts)
 | for (t:Tg) (it:It) (b:Sts)
 | whl (c:Ex) (b:Sts)
 | rse (c:Nat) (e:Ex)
 | try (b:Sts) (c:Nat) (x:Nat) (h:Sts)
 | pass
 | brk
 | cnt
inductive Sts where
 | nil|cons (s:St) (ss:Sts)
end
set_option genInjectivity true
inductive Fl where
 | nx (e:En)|brk (e:En)|cnt (e:En)|rt (d:D)
noncomputable def Xb(S:Sto)(n:Nat):Option (List D) :=
 match S[n]? with
 | some (.lst xs)=>some xs
 | _=>none
noncomputable def lstM(S:Sto)(n:Nat):Option (List D) :=
 match S[n]? with
 | some (.lst xs)=>some xs
 | _=>none
noncomputable def i2(b:Bool):Int:=if b then 1 else 0
mutual
noncomputable def Xw(look:Nat->Option PyData):D->Option PyData
 | .non=>some .none
 | .bl b=>some (.bool b)
 | .int i=>some (.int i)
 | .str x=>some (.str x)
 | .tup xs=>(datFs look xs).map PyData.tuple
 | .fro _=>none
 | .fn _ _=>none
 | .ref n=>look n
noncomputable def datFs(look:Nat->Option PyData):List D->Option (List PyData)
 | []=>some []
 | x::xs=>match Xw look x,datFs look xs with
  | some p,some ps=>some (p::ps)
  | _,_=>none
end
noncomputable def Ye(S:Sto):Nat->Nat->Option PyData
 | 0,_=>none
 | k+1,n=>match S[n]? with
  | some (.lst xs)=>(datFs (Ye S k) xs).map PyData.list
  | some (.dct [])=>some (.dict [])
  | _=>none
noncomputable def Ys(S:Sto)(d:D):Option PyData:=Xw (Ye S 4) d
noncomputable def Xb8(x y:D):Option Bool:=match x with
 | .str a=>(match y with
  | .str b=>some (a.cps.toList==b.cps.toList)
  | _=>none)
 | _=>none
noncomputable def Xdt(S:Sto)(x y:D):Option Bool:=match x with
 | .ref a=>(match y with
  | .ref b=>(match Xb S a,Xb S b with
   | some xs,some ys=>if xs.length=ys.length then none else some false
   | _,_=>none)
  | _=>none)
 | _=>none
noncomputable def eqD(S:Sto)(x y:D):Option Bool:=match Xb8 x y with
 | some r=>some r
 | none=>match Ys S x,Ys S y with
  | some p,some q=>if p.canLay0&&q.canLay0&&decide (p.depth<=60) then some (PyData.eqv p q) else Xdt S x y
  | _,_=>Xdt S x y
noncomputable def inD(S:Sto)(x y:D):Option Bool:=match Ys S x,Ys S y with
 | some p,some (.list qs)=>if p.canLay0&&PyData.canLayAll0 qs&&decide (p.depth<=60) then some (qs.any fun q=>PyData.eqv q p) else none
 | some p,some (.tuple qs)=>if p.canLay0&&PyData.canLayAll0 qs&&decide (p.depth<=60) then some (qs.any fun q=>PyData.eqv q p) else none
 | _,_=>none
noncomputable def Xn(S:Sto):D->Option (List D)
 | .tup xs=>some xs
 | .fro xs=>some xs
 | .ref n=>Xb S n
 | _=>none
noncomputable def Xu:List D->Option (List Int)
 | []=>some []
 | .int i::r=>(Xu r).map (i :: ·)
 | _::_=>none
noncomputable def Xz:List D->Option (List Bool)
 | []=>some []
 | .bl i::r=>(Xz r).map (i :: ·)
 | _::_=>none
noncomputable def ltD:D->D->Option Bool
 | .int i,.int j=>some (decide (i<j))
 | _,_=>none
noncomputable def Yq:List D->Option (List (List Int))
 | []=>some []
 | .tup ds::r=>match Xu ds with
  | some k=>(Yq r).map (k :: ·)
  | none=>none
 | _::_=>none
noncomputable def ltL:List Int->List Int->Bool
 | [],[]=>false
 | [],_::_=>true
 | _::_,[]=>false
 | x::xs,y::ys=>if x=y then ltL xs ys else decide (x<y)
noncomputable def ltK(ks:List (List Int))(i j:Nat):Option Bool:=match ks[i]? with
 | some a=>match ks[j]? with
  | some b=>some (ltL a b)
  | none=>none
 | none=>none
noncomputable def Xd9{α:Type}(lt:Nat->Nat->Option Bool):PySem.W.KasT α->Option α
 | .ret a=>some a
 | .ask i j k=>match lt i j with
  | some b=>Xd9 lt (k b)
  | none=>none
noncomputable def Xgb(ks:List (List Int)):List Nat->Option (List (List Int))
 | []=>some []
 | i::r=>match ks[i]? with
  | some k=>(Xgb ks r).map (k :: ·)
  | none=>none
noncomputable def Xbb(ks:List (List Int)):Option (List (List Int)) :=
 if ks.length<2 then some ks else if decide (ks.length<64)&&ks.all (fun k=>!k.isEmpty) then (Xd9 (ltK ks) (PySem.W.kas_sort ks.length)).bind fun p=>if p.size=ks.length then Xgb ks p.toList else none else none
noncomputable def Xl(S:Sto):D->Option Bool
 | .non=>some false
 | .bl b=>some b
 | .int i=>some (i != 0)
 | .str x=>if x.length<=big then some ((x.length:Int) != 0) else none
 | .tup xs=>some (!xs.isEmpty)
 | .fro xs=>some (!xs.isEmpty)
 | .fn _ _=>none
 | .ref n=>match S[n]? with
  | some (.lst xs)=>some (!xs.isEmpty)
  | _=>none
noncomputable def Yl(i j:Int):Bool:=(decide (-(18446744073709551616)<i)&&decide (i<18446744073709551616))||(decide (-(18446744073709551616)<j)&&decide (j<18446744073709551616))||(decide (i.natAbs.log2<100000)&&decide (j.natAbs.log2<100000))
noncomputable def Xae(j:Int):Bool:=decide (0<j)&&decide (j.natAbs.log2<9000)
noncomputable def Xm(op:Bo)(x y:D)(S:Sto):R D:=match op with
 | .add=>match x,y with
  | .int i,.int j=>.ok (.int (i+j)) S
  | .tup x,.tup y=>if x.length+y.length<=big then .ok (.tup (x++y)) S else .bad
  | .str x,.str y=>if x.length+y.length<=big then .ok (.str (x++y)) S else .bad
  | .ref n,.ref m=>match lstM S n,lstM S m with
   | some x,some y=>if x.length+y.length<=big then .ok (.ref S.length) (S++[.lst (x++y)]) else .bad
   | _,_=>.bad
  | _,_=>.bad
 | .sub=>match x,y with
  | .int i,.int j=>.ok (.int (i-j)) S
  | _,_=>.bad
 | .mul=>match x,y with
  | .int i,.int j=>if Yl i j then .ok (.int (i*j)) S else .bad
  | .tup x,.int k=>if k<1048576/\x.length*k.toNat<=big/\-(1048576)<k/\x.isEmpty=false then .ok (.tup (List.replicate k.toNat x).flatten) S else .bad
  | .ref n,.int k=>match lstM S n with
   | some x=>if k<1048576/\x.length*k.toNat<=big/\-(1048576)<k then .ok (.ref S.length) (S++[.lst (List.replicate k.toNat x).flatten]) else .bad
   | none=>.bad
  | _,_=>.bad
 | .fdiv=>match x,y with
  | .int i,.int j=>if Xae j then .ok (.int (i/j)) S else .bad
  | _,_=>.bad
 | .mod=>match x,y with
  | .int i,.int j=>if 0<j then .ok (.int (i%j)) S else .bad
  | _,_=>.bad
 | .pow=>match x,y with
  | .int i,.int j=>if 0<=j/\j<=1000/\i.natAbs<2^63 then .ok (.int (i^j.toNat)) S else .bad
  | _,_=>.bad
noncomputable def Xbw:Bo->D->D->Sto->R D
 | .add,.int i,.int j,S=>.ok (.int (i+j)) S
 | .sub,.int i,.int j,S=>.ok (.int (i-j)) S
 | .mul,.int i,.int j,S=>if Yl i j then .ok (.int (i*j)) S else .bad
 | _,_,_,_=>.bad
noncomputable def Yg(op:Co)(x y:D)(S:Sto):Option Bool:=match op with
 | .eq=>eqD S x y
 | .ne=>(eqD S x y).map (!·)
 | .lt=>ltD x y
 | .le=>match x,y with
  | .int i,.int j=>some (decide (i<=j))
  | _,_=>none
 | .gt=>match x,y with
  | .int i,.int j=>some (decide (j<i))
  | _,_=>none
 | .ge=>match x,y with
  | .int i,.int j=>some (decide (j<=i))
  | _,_=>none
 | .isin=>inD S x y
 | .notin=>(inD S x y).map (!·)
 | .is=>match y with
  | .non=>some (match x with | .non=>true|_=>false)
  | .bl b=>some (match x with | .bl c=>b==c|_=>false)
  | _=>none
 | .isnot=>match y with
  | .non=>some (match x with | .non=>false|_=>true)
  | .bl b=>some (match x with | .bl c=>b != c|_=>true)
  | _=>none
noncomputable def ixN(n:Nat)(i:Int):Option Nat:=if 0<=i then (if i<n then some i.toNat else none) else if-(n:Int)<=i then some (i+n).toNat else none
noncomputable def Ym(x:D)(i:D)(S:Sto):Option D :=
 match i with
 | .int k=>match x with
  | .str z=>if z.length<=big then (ixN z.length k).bind fun j=>z.cps.toList[j]?.map fun c=>.str ⟨#[c]⟩ else none
  | _=>(Xn S x).bind fun xs=>(ixN xs.length k).bind fun j=>xs[j]?
 | _=>none
noncomputable def Xo(op:Co)(x y:D)(S:Sto):R D:=match Yg op x y S with
 | some r=>.ok (.bl r) S
 | none=>.bad
noncomputable def Yt(x i:D)(S:Sto):R D:=match Ym x i S with
 | some d=>.ok d S
 | none=>.bad
noncomputable def Yy(ifs:En->Sto->R Bool)(body:En->List D->Sto->R (List D))(env:En)(acc:List D)(S:Sto):R (List D):=(ifs env S).bind fun b S=>if b then body env acc S else .ok acc S
noncomputable def Xhc(n:Nat)(d:Nat):Option Int->Nat
 | none=>d
 | some i=>if 0<=i then min i.toNat n else (i+n).toNat
noncomputable def cut{α:Type}(xs:List α)(lo hi:Option Int):List α :=
 (xs.drop (Xhc xs.length 0 lo)).take (Xhc xs.length xs.length hi-Xhc xs.length 0 lo)
noncomputable def Xbk:Option D->Option (Option Int)
 | none=>some none
 | some (.int i)=>some (some i)
 | _=>none
noncomputable def Xax(x:D)(lo hi:Option Int)(S:Sto):R D :=
 match x with
 | .tup xs=>.ok (.tup (cut xs lo hi)) S
 | .ref n=>match Xb S n with
  | some xs=>.ok (.ref S.length) (S++[.lst (cut xs lo hi)])
  | none=>.bad
 | _=>.bad
noncomputable def Xdu(x:D)(S:Sto):R D :=
 match x with
 | .tup xs=>.ok (.tup xs.reverse) S
 | .ref n=>match Xb S n with
  | some xs=>.ok (.ref S.length) (S++[.lst xs.reverse])
  | none=>.bad
 | _=>.bad
noncomputable def Xbx(f:Nat)(nm:Str):List D->Bool
 | []=>false
 | .fn g m::r=>(g==f&&decide (m=nm))||Xbx f nm r
 | _::r=>Xbx f nm r
noncomputable def Xay(n:Nat):List D->List D
 | []=>[]
 | x::r=>.tup [.int n,x]::Xay (n+1) r
inductive Kd where|non|bool|int|str|tuple|list|dict|exc(c:Nat)
 deriving DecidableEq
noncomputable def kdD(S:Sto):D->Option Kd
 | .non=>some .non
 | .bl _=>some .bool
 | .int _=>some .int
 | .str _=>some .str
 | .tup _=>some .tuple
 | .fro _=>some .list
 | .fn _ _=>none
 | .ref n=>match S[n]? with
  | some (.lst _)=>some .list
  | some (.dct _)=>some .dict
  | some (.exc c)=>some (.exc c)
  | _=>none
noncomputable def isT:Kd->Ty->Option Bool
 | .exc c',.cls c=>some (c==0||c==c')
 | .exc _,.valueError=>some true
 | .exc _,_=>none
 | _,.cls _=>none
 | _,.valueError=>none
 | .bool,.int=>some true
 | .int,.int=>some true
 | .bool,.bool=>some true
 | .str,.str=>some true
 | .tuple,.tuple=>some true
 | .list,.list=>some true
 | .dict,.dict=>some true
 | _,_=>some false
noncomputable def Yu(k:Kd):List Ty->Option Bool
 | []=>some false
 | t::r=>match isT k t with
  | some true=>some true
  | some false=>Yu k r
  | none=>none
mutual
noncomputable def szD:PyData->Nat
 | .none=>4
 | .bool _=>5
 | .int _=>1921
 | .str x=>(reprText x).length
 | .list xs=>szDs xs+2
 | .tuple xs=>szDs xs+3
 | .dict _=>2
noncomputable def szDs:List PyData->Nat
 | []=>0
 | x::xs=>szD x+2+szDs xs
end
mutual
noncomputable def Xaw:PyData->Bool
 | .none=>true
 | .bool _=>true
 | .int _=>true
 | .str _=>true
 | .list xs=>dctEs xs
 | .tuple xs=>dctEs xs
 | .dict kvs=>kvs.isEmpty
noncomputable def dctEs:List PyData->Bool
 | []=>true
 | x::xs=>Xaw x&&dctEs xs
end
noncomputable def Xbc(S:Sto)(x:D):Option Str:=match Ys S x with
 | some p=>if p.showable&&Xaw p&&decide (p.depth<=60)&&decide (szD p<=big) then some p.shown else none
 | none=>none
noncomputable def Xh(k:Bl)(ds:List D)(S:Sto):R D:=match k with
 | .len=>match ds with
  | [x]=>match x with
   | .str z=>if z.length<=big then .ok (.int z.length) S else .bad
   | _=>match Xn S x with
    | some xs=>.ok (.int xs.length) S
    | none=>.bad
  | _=>.bad
 | .tuple=>match ds with
  | [x]=>match Xn S x with
   | some xs=>.ok (.tup xs) S
   | none=>.bad
  | _=>.bad
 | .list=>match ds with
  | [x]=>match Xn S x with
   | some xs=>.ok (.ref S.length) (S++[.lst xs])
   | none=>.bad
  | _=>.bad
 | .all=>match ds with
  | [.ref n]=>match (Xb S n).bind Xz with
   | some bs=>.ok (.bl (bs.all id)) S
   | none=>.bad
  | _=>.bad
 | .sum=>match ds with
  | [x]=>match (Xn S x).bind Xu with
   | some ns=>.ok (.int ns.sum) S
   | none=>.bad
  | _=>.bad
 | .max=>match ds with
  | [.int i,.int j]=>.ok (.int (if j>i then j else i)) S
  | _=>.bad
 | .min=>match ds with
  | [.int i,.int j]=>.ok (.int (if j<i then j else i)) S
  | _=>.bad
 | .mxl=>match ds with
  | [x]=>match (Xn S x).bind Xu with
   | some ns=>match ns with
    | n::r=>.ok (.int (r.foldl max n)) S
    | []=>.bad
   | none=>.bad
  | _=>.bad
 | .srt=>match ds with
  | [.ref n]=>match (Xb S n).bind Yq with
   | some ks=>match Xbb ks with
    | some r=>.ok (.ref S.length) (S++[.lst (r.map fun k=>.tup (k.map D.int))])
    | none=>.bad
   | none=>.bad
  | _=>.bad
 | .int=>match ds with
  | [.bl b]=>.ok (.int (i2 b)) S
  | _=>.bad
 | .repr=>match ds with
  | [x]=>match Xbc S x with
   | some t=>.ok (.str t) S
   | none=>.bad
  | _=>.bad
noncomputable def Yj(k:Mt)(o:D)(ds:List D)(S:Sto):R D:=match o,ds with
 | .ref n,[x]=>match k with
  | .append=>match lstM S n with
   | some xs=>if xs.length<big then .ok .non (S.set n (.lst (xs++[x]))) else .bad
   | none=>.bad
  | .xtd=>match x with
   | .ref k=>match lstM S n with
    | some xs=>match Xb S k with
     | some ys=>if xs.length+ys.length<=big then .ok .non (S.set n (.lst (xs++ys))) else .bad
     | none=>.bad
    | none=>.bad
   | _=>.bad
  | .index=>match x with
   | .bl b=>match (Xb S n).bind Xz with
    | some bs=>match bs.findIdx? (· == b) with
     | some i=>.ok (.int i) S
     | none=>.bad
    | none=>.bad
   | _=>.bad
  | .count=>match x with
   | .bl b=>match (Xb S n).bind Xz with
    | some bs=>.ok (.int (bs.countP (· == b):Nat)) S
    | none=>.bad
   | _=>.bad
 | _,_=>.bad
noncomputable def Xag(k:Mt)(x:D)(S:Sto):Bool:=match x with
 | .ref n=>(Xb S n).isSome
 | _=>false
noncomputable def Xa3(o i v:D)(S:Sto):R Unit :=
 match o,i with
 | .ref n,.int k=>match lstM S n with
  | some xs=>match ixN xs.length k with
   | some j=>.ok () (S.set n (.lst (xs.set j v)))
   | none=>.bad
  | none=>.bad
 | _,_=>.bad
inductive Src where
 | con (xs:List D)|ref (n:Nat)|enm (a:Src)
noncomputable def Src.get:Src->Sto->Nat->Option (Option D)
 | .con xs,_,i=>some xs[i]?
 | .ref n,S,i=>(Xb S n).map fun xs=>xs[i]?
 | .enm a,S,i=>match a.get S i with
  | some (some x)=>some (some (.tup [.int i,x]))
  | r=>r
noncomputable def Src.most:Src->Sto->Nat
 | .con xs,_=>xs.length
 | .ref n,S=>((Xb S n).getD []).length
 | .enm a,S=>a.most S
noncomputable def Yk(S:Sto):D->Option Src
 | .tup xs=>some (.con xs)
 | .ref n=>(Xb S n).map fun _=>.ref n
 | _=>none
noncomputable def Yh:List D->Option (List D)
 | [.int j]=>if-(1048576)<j/\j<1048576 then some ((List.range j.toNat).map fun(k:Nat)=>D.int (k:Int)) else none
 | [.int i,.int j]=>if-(1048576)<i/\i<1048576/\-(1048576)<j/\j<1048576 then some ((List.range (j-i).toNat).map fun(k:Nat)=>D.int (i+k)) else none
 | [.int i,.int j,.int s]=>if s = -1/\-(1048576)<i/\i<1048576/\-(1048576)<j/\j<1048576 then some ((List.range (i-j).toNat).map fun(k:Nat)=>D.int (i-k)) else none
 | _=>none
noncomputable def Xp(t:Tg)(d:D)(env:En):Option En :=
 match t with
 | .var i=>some (env.set i (some d))
 | .tup is=>match d with
  | .tup ds=>if is.length=ds.length then some ((is.zip ds).foldl (fun e p=>e.set p.1 (some p.2)) env) else none
  | _=>none
noncomputable def slots:Tg->List Nat
 | .var i=>[i]
 | .tup is=>is
noncomputable def Xea(t:Tg)(env:En):Bool:=(slots t).all fun i=>match env[i]? with
 | some (some _)=>false
 | _=>true
noncomputable def Yn(get:Sto->Nat->Option (Option D))(t:Tg)(body:En->List D->Sto->R (List D)):Nat->Nat->En->List D->Sto->R (List D)
 | 0,_,_,_,_=>.bad
 | k+1,i,env,acc,S=>match get S i with
  | none=>.bad
  | some none=>.ok acc S
  | some (some d)=>match Xp t d env with
   | none=>.bad
   | some env'=>match body env' acc S with
    | .ok acc' S'=>Yn get t body k (i+1) env' acc' S'
    | _=>.bad
noncomputable abbrev Fn:=Nat->List D->Sto->R D
section
variable(F:Fn)(G:List D)
mutual
noncomputable def ev:Ex->En->Sto->R D
 | .nev,_,_=>.bad
 | .var i,env,S=>match env[i]? with
  | some (some d)=>.ok d S
  | _=>.bad
 | .cst d,_,S=>.ok d S
 | .neg a,env,S=>(ev a env S).bind fun x S=>match x with
  | .int i=>.ok (.int (-i)) S
  | _=>.bad
 | .glb k,_,S=>match G[k]? with
  | some d=>.ok d S
  | none=>.bad
 | .tup es,env,S=>(evs es env S).bind fun xs S=>if xs.length<=big then .ok (.tup xs) S else .bad
 | .lst es,env,S=>(evs es env S).bind fun xs S=>if xs.length<=big then .ok (.ref S.length) (S++[.lst xs]) else .bad
 | .dct0,_,S=>.ok (.ref S.length) (S++[.dct []])
 | .bin op a b,env,S=>(ev a env S).bind fun x S=>(ev b env S).bind fun y S=>Xm op x y S
 | .cmp op a b,env,S=>(ev a env S).bind fun x S=>(ev b env S).bind fun y S=>Xo op x y S
 | .chn o1 o2 a b c,env,S=>(ev a env S).bind fun x S=>(ev b env S).bind fun y S=>match Yg o1 x y S with
  | some true=>(ev c env S).bind fun z S=>Xo o2 y z S
  | some false=>.ok (.bl false) S
  | none=>.bad
 | .and a b,env,S=>(ev a env S).bind fun x S=>match Xl S x with
  | some true=>ev b env S
  | some false=>.ok x S
  | none=>.bad
 | .or a b,env,S=>(ev a env S).bind fun x S=>match Xl S x with
  | some true=>.ok x S
  | some false=>ev b env S
  | none=>.bad
 | .not a,env,S=>(ev a env S).bind fun x S=>match Xl S x with
  | some r=>.ok (.bl (!r)) S
  | none=>.bad
 | .ite c a b,env,S=>(ev c env S).bind fun x S=>match Xl S x with
  | some true=>ev a env S
  | some false=>ev b env S
  | none=>.bad
 | .idx a i,env,S=>(ev a env S).bind fun x S=>(ev i env S).bind fun y S=>Yt x y S
 | .sli a lo hi,env,S=>(ev a env S).bind fun x S=>(evo lo env S).bind fun l S=>(evo hi env S).bind fun h S=>match Xbk l,Xbk h with
  | some l,some h=>Xax x l h S
  | _,_=>.bad
 | .rev a,env,S=>(ev a env S).bind fun x S=>Xdu x S
 | .call f es,env,S=>(evs es env S).bind fun xs S=>F f xs S
 | .cal e es,env,S=>(ev e env S).bind fun x S=>match x with
  | .fn f nm=>if Xbx f nm G then (evs es env S).bind fun xs S=>F f xs S else .bad
  | _=>.bad
 | .lenm a,env,S=>(ev a env S).bind fun x S=>match Xn S x with
  | some xs=>.ok (.ref S.length) (S++[.lst (Xay 0 xs)])
  | none=>.bad
 | .blt k es,env,S=>(evs es env S).bind fun xs S=>Xh k xs S
 | .mth k o es,env,S=>(ev o env S).bind fun x S=>if Xag k x S then (evs es env S).bind fun xs S=>Yj k x xs S else .bad
 | .isi a ts,env,S=>(ev a env S).bind fun x S=>match (kdD S x).bind fun k=>Yu k ts with
  | some r=>.ok (.bl r) S
  | none=>.bad
 | .cmr k n gs elt,env,S=>match gs with
  | .nil=>.bad
  | .cons t it ifs gs=>(evit it env S).bind fun src S =>
   (Yn (src.get) t (Yy (fun env S=>evts ifs env S) (fun env acc S =>
     match gs with
     | .nil=>(ev elt env S).bind fun y S=>if acc.length<big then .ok (acc++[y]) S else .bad
     | .cons t2 it2 ifs2 gs2=>match gs2 with
      | .nil=>if Xea t2 env then (evit it2 env S).bind fun src2 S =>
       Yn (src2.get) t2 (Yy (fun env S=>evts ifs2 env S) (fun env acc S =>
        (ev elt env S).bind fun y S=>if acc.length<big then .ok (acc++[y]) S else .bad)) (src2.most S+1) 0 env acc S else .bad
      | .cons ..=>.bad)) (src.most S+1) 0 (env++List.replicate n none) [] S).bind fun acc S =>
   if k then .bad else .ok (.ref S.length) (S++[.lst acc])
noncomputable def evo:Op->En->Sto->R (Option D)
 | .none,_,S=>.ok none S
 | .some e,env,S=>(ev e env S).bind fun x S=>.ok (some x) S
noncomputable def evs:Exs->En->Sto->R (List D)
 | .nil,_,S=>.ok [] S
 | .cons e es,env,S=>(ev e env S).bind fun x S=>(evs es env S).bind fun xs S=>.ok (x::xs) S
noncomputable def evts:Exs->En->Sto->R Bool
 | .nil,_,S=>.ok true S
 | .cons e es,env,S=>(ev e env S).bind fun x S=>match Xl S x with
  | some true=>evts es env S
  | some false=>.ok false S
  | none=>.bad
noncomputable def evit:It->En->Sto->R Src
 | .val e,env,S=>(ev e env S).bind fun x S=>match Yk S x with
  | some s=>.ok s S
  | none=>.bad
 | .rng es,env,S=>(evs es env S).bind fun xs S=>match Yh xs with
  | some ds=>.ok (.con ds) S
  | none=>.bad
 | .enm es,env,S=>(evs es env S).bind fun xs S=>match xs with
  | [x]=>match Yk S x with
   | some s=>.ok (.enm s) S
   | none=>.bad
  | _=>.bad
end
mutual
noncomputable def Xzr:St->Bool
 | .expr _=>true
 | .ret _=>true
 | .pass=>true
 | .ite _ a b=>nasgs a&&nasgs b
 | .rse _ _=>true
 | _=>false
noncomputable def nasgs:Sts->Bool
 | .nil=>true
 | .cons s ss=>Xzr s&&nasgs ss
end
noncomputable def Yz(get:Sto->Nat->Option (Option D))(t:Tg)(body:En->Sto->R Fl):Nat->Nat->En->Sto->R Fl
 | 0,_,_,_=>.bad
 | k+1,i,env,S=>match get S i with
  | none=>.bad
  | some none=>.ok (.nx env) S
  | some (some d)=>match Xp t d env with
   | none=>.bad
   | some env'=>match body env' S with
    | .ok (.nx e) S'=>Yz get t body k (i+1) e S'
    | .ok (.cnt e) S'=>Yz get t body k (i+1) e S'
    | .ok (.brk e) S'=>.ok (.nx e) S'
    | .ok (.rt d) S'=>.ok (.rt d) S'
    | _=>.bad
noncomputable def Xbl(test:En->Sto->R Bool)(body:En->Sto->R Fl):Nat->En->Sto->R Fl
 | 0,_,_=>.bad
 | k+1,env,S=>match test env S with
  | .ok false S'=>.ok (.nx env) S'
  | .ok true S'=>match body env S' with
   | .ok (.nx e) S'=>Xbl test body k e S'
   | .ok (.cnt e) S'=>Xbl test body k e S'
   | .ok (.brk e) S'=>.ok (.nx e) S'
   | .ok (.rt d) S'=>.ok (.rt d) S'
   | _=>.bad
  | _=>.bad
mutual
noncomputable def exe:St->En->Sto->R Fl
 | .nev,_,_=>.bad
 | .asg t e,env,S=>(ev F G e env S).bind fun x S=>match Xp t x env with
  | some env=>.ok (.nx env) S
  | none=>.bad
 | .par is es,env,S=>(evs F G es env S).bind fun xs S=>if is.length=xs.length then .ok (.nx ((is.zip xs).foldl (fun e p=>e.set p.1 (some p.2)) env)) S else .bad
 | .aset o i e,env,S=>(ev F G e env S).bind fun v S=>(ev F G o env S).bind fun x S=>(ev F G i env S).bind fun y S=>(Xa3 x y v S).bind fun _ S=>.ok (.nx env) S
 | .aug i op e,env,S=>match env[i]? with
  | some (some x)=>(ev F G e env S).bind fun y S=>(Xbw op x y S).bind fun z S=>.ok (.nx (env.set i (some z))) S
  | _=>.bad
 | .expr e,env,S=>(ev F G e env S).bind fun _ S=>.ok (.nx env) S
 | .ret e,env,S=>(ev F G e env S).bind fun x S=>.ok (.rt x) S
 | .ite c a b,env,S=>(ev F G c env S).bind fun x S=>match Xl S x with
  | some true=>exes a env S
  | some false=>exes b env S
  | none=>.bad
 | .for t it b,env,S=>(evit F G it env S).bind fun src S=>Yz src.get t (fun env S=>exes b env S) (src.most S+1) 0 env S
 | .whl c b,env,S=>Xbl (fun env S=>(ev F G c env S).bind fun x S=>match Xl S x with
   | some r=>.ok r S
   | none=>.bad) (fun env S=>exes b env S) 100000 env S
 | .rse c e,env,S=>(ev F G e env S).bind fun _ S=>.ex S.length (S++[.exc c])
 | .try b c x h,env,S=>if nasgs b then
   match exes b env S with
   | .ex n S'=>match S'[n]? with
    | some (.exc c')=>if c==0||c==c' then
      match exes h (env.set x (some (.ref n))) S' with
      | .ok (.rt d) S''=>.ok (.rt d) S''
      | _=>.bad
     else .bad
    | _=>.bad
   | r=>r
  else .bad
 | .pass,env,S=>.ok (.nx env) S
 | .brk,env,S=>.ok (.brk env) S
 | .cnt,env,S=>.ok (.cnt env) S
noncomputable def exes:Sts->En->Sto->R Fl
 | .nil,env,S=>.ok (.nx env) S
 | .cons s ss,env,S=>match exe s env S with
  | .ok (.nx e) S'=>exes ss e S'
  | r=>r
end
structure Df where
 np:Nat
 nl:Nat
 body:Sts
noncomputable def den(d:Df)(ds:List D)(S:Sto):R D :=
 if ds.length=d.np then
  match exes F G d.body (ds.map some++List.replicate (d.nl-d.np) none) S with
  | .ok (.rt v) S=>.ok v S
  | .ok (.nx _) S=>.ok .non S
  | .ok _ _=>.bad
  | .ex n S=>.ex n S
  | .bad=>.bad
 else .bad
end
noncomputable def FT(T:List Df)(G:List D):Nat->Fn
 | 0=>fun _ _ _=>.bad
 | k+1=>fun f ds S=>match T[f]? with
  | some d=>den (FT T G k) G d ds S
  | none=>.bad
end Z
end
section
namespace Z
open PySem PySem.Spec PyProof.Rows L2
def FrL(K:PySem.W.Frag)(H:Hp)(a:Addr)(vs:List V):Prop :=
 (∃ o,H a=some (.frz o (.lst vs))) \/
  ∃ (o:Obj) (its:Array Value) (n:Nat),K.lookup a=some o/\o.cls=.type "list" /\ o.dict=none/\o.data=.seq its n/\its.size<=sizeLine/\Vals vs its.toList
theorem FrL.sq{K:PySem.W.Frag}{H:Hp}{a:Addr}{vs:List V}(h:FrL K H a vs):SqL K H a vs:=by
 rcases h with⟨o,h⟩|h
 ·exact .inl (.inr ⟨o,h⟩)
 ·exact .inr h
mutual
def RD(K:PySem.W.Frag)(ρ:List Addr)(H:Hp):D->V->Prop
 | .non,v=>v=.non
 | .bl b,v=>v=.bl b
 | .int i,v=>v=.int i
 | .str x,v=>v=.str x
 | .tup xs,v=>∃ a vs,v=.ref a/\SqT K H a vs/\RDs K ρ H xs vs
 | .fro xs,v=>∃ a vs,v=.ref a/\FrL K H a vs/\RDs K ρ H xs vs
 | .ref n,v=>∃ a,v=.ref a/\ρ[n]?=some a
 | .fn _ nm,v=>∃ a,v=.ref a/\PySem.W.nsIn K mainGlobals nm=some (some (.ref a))
def RDs(K:PySem.W.Frag)(ρ:List Addr)(H:Hp):List D->List V->Prop
 | [],vs=>vs=[]
 | x::xs,vs=>∃ v r,vs=v::r/\RD K ρ H x v/\RDs K ρ H xs r
end
noncomputable def clsNames:List Str:=["FaceError","NoNet","NoFace","NoPoint","NotApart","TooMany","NoText","NoRow","NoNumber","NotLevel","NoCrowd","NoWay","NotClosed","NoSwap","NoPlaces","NoDeed","NoLine"]
noncomputable def Xbm(c:Nat):Option Str:=(clsNames[c]?).filter fun x=>!decide (x = "")
theorem Xj0(h:Xbm c=some x):c<clsNames.length:=by
 unfold Xbm at h;cases q:clsNames[c]? with
 | none=>rw[q] at h;cases h
 | some _=>exact(List.getElem?_eq_some_iff.mp q).1
noncomputable def Xah(K:PySem.W.Frag)(c:Nat):Option Addr:=(Xbm c).bind fun nm=>match PySem.W.nsIn K mainGlobals nm with
 | some (some (.ref C))=>some C
 | _=>none
def ExcO(C a:Addr)(h:Heap):Prop:=∃ oe vs a0,h.get? a=some oe/\oe.cls=.ref C/\oe.data=.fields vs/\vs[0]?=some a0/\1<vs.size
theorem ExcO.ok(x:ExcO C a h):ObjOk P w H h a (.ext (ExcO C a)) :=
 ⟨x,let ⟨oe,_,_,e,_⟩:=x;⟨oe,e⟩,fun h1 h2 ⟨oe,vs,a0,e,r⟩ k=>⟨oe,vs,a0,k _ e,r⟩⟩
def OR(K:PySem.W.Frag)(ρ:List Addr)(H:Hp)(a:Addr):O->Prop
 | .lst xs=>∃ vs,H a=some (.lst vs)/\RDs K ρ H xs vs
 | .dct kvs=>kvs=[]/\H a=some (.dK [])
 | .set _=>False
 | .exc c=>∃ C,Xah K c=some C/\H a=some (.ext (ExcO C a))
theorem OR.some{K:PySem.W.Frag}{ρ:List Addr}{H:Hp}{a:Addr}{o:O}(h:OR K ρ H a o):∃ u,H a=some u/\(∀ xs,u≠.tup xs)/\∀ o' u',u≠.frz o' u':=by
 cases o with
 | lst xs=>obtain⟨vs,e,_⟩:=h;exact⟨_,e,fun _ z=>(nomatch z),fun _ _ z=>(nomatch z)⟩
 | dct kvs=>obtain⟨_,e⟩:=h;exact⟨_,e,fun _ z=>(nomatch z),fun _ _ z=>(nomatch z)⟩
 | set _=>exact h.elim
 | exc c=>obtain⟨C,_,e⟩:=h;exact⟨_,e,fun _ z=>(nomatch z),fun _ _ z=>(nomatch z)⟩
structure SR(K:PySem.W.Frag)(ρ:List Addr)(S:Sto)(H:Hp):Prop where
 len:ρ.length=S.length
 nd:ρ.Nodup
 ob:∀ (n:Nat) a o,ρ[n]?=some a->S[n]?=some o->OR K ρ H a o
structure Mon(K:PySem.W.Frag)(ρ ρ':List Addr)(H H':Hp):Prop where
 pre:∀ (n:Nat) a,ρ[n]?=some a->ρ'[n]?=some a
 tup:∀ a xs,SqT K H a xs->SqT K H' a xs
 fro:∀ a xs,FrL K H a xs->FrL K H' a xs
structure Stp(K:PySem.W.Frag)(ρ ρ':List Addr)(H H':Hp):Prop extends Mon K ρ ρ' H H' where
 new:∀ a∈ρ',a∈ρ\/H a=none
 keep:∀ a o,H a=some o->a ∉ ρ->H' a=some o
section
variable{K:PySem.W.Frag}{ρ ρ' ρ'':List Addr}{H H' H'':Hp}{S S':Sto}
theorem Stp.refl:Stp K ρ ρ H H:=⟨⟨fun _ _ h=>h,fun _ _ h=>h,fun _ _ h=>h⟩,fun _ h=>.inl h,fun _ _ h _=>h⟩
theorem Stp.trans(x:Stp K ρ ρ' H H')(y:Stp K ρ' ρ'' H' H''):Stp K ρ ρ'' H H'' where
 pre:=fun n a h=>y.pre n a (x.pre n a h)
 new:=fun a h=>by
  rcases y.new a h with h|h
  ·exact x.new a h
  ·cases e:H a with
   | none=>exact .inr rfl
   | some o =>
    by_cases hm:a∈ρ
    ·exact .inl hm
    ·rw[x.keep a o e hm] at h;cases h
 keep:=fun a o h n=>y.keep a o (x.keep a o h n) fun hm=>by
  rcases x.new a hm with z|z
  ·exact n z
  ·rw[h] at z;cases z
 tup:=fun a xs h=>y.tup a xs (x.tup a xs h)
 fro:=fun a xs h=>y.fro a xs (x.fro a xs h)
mutual
theorem RD.mono'(x:Mon K ρ ρ' H H'):∀ (d:D) (v:V),RD K ρ H d v->RD K ρ' H' d v
 | .non,v,h=>by simpa only[RD] using h
 | .bl b,v,h=>by simpa only[RD] using h
 | .int i,v,h=>by simpa only[RD] using h
 | .str y,v,h=>by simpa only[RD] using h
 | .tup xs,v,h=>by
  simp only[RD] at h ⊢;obtain⟨a,vs,e,h1,h2⟩:=h;exact⟨a,vs,e,x.tup a vs h1,RDs.mono' x xs vs h2⟩
 | .fro xs,v,h=>by
  simp only[RD] at h ⊢;obtain⟨a,vs,e,h1,h2⟩:=h;exact⟨a,vs,e,x.fro a vs h1,RDs.mono' x xs vs h2⟩
 | .ref n,v,h=>by
  simp only[RD] at h ⊢;obtain⟨a,e,h⟩:=h;exact⟨a,e,x.pre n a h⟩
 | .fn f nm,v,h=>by simpa only[RD] using h
theorem RDs.mono'(x:Mon K ρ ρ' H H'):∀ (ds:List D) (vs:List V),RDs K ρ H ds vs->RDs K ρ' H' ds vs
 | [],vs,h=>by simpa only[RDs] using h
 | d::ds,vs,h=>by
  simp only[RDs] at h ⊢;obtain⟨v,r,e,h1,h2⟩:=h;exact⟨v,r,e,RD.mono' x d v h1,RDs.mono' x ds r h2⟩
end
theorem RD.mono(x:Stp K ρ ρ' H H')(d:D)(v:V)(h:RD K ρ H d v):RD K ρ' H' d v:=RD.mono' x.toMon d v h
theorem RDs.mono(x:Stp K ρ ρ' H H')(ds:List D)(vs:List V)(h:RDs K ρ H ds vs):RDs K ρ' H' ds vs:=RDs.mono' x.toMon ds vs h
theorem RDs.nil:RDs K ρ H [] []:=by simp only[RDs]
theorem RDs.cons(h:RD K ρ H d v)(t:RDs K ρ H ds vs):RDs K ρ H (d::ds) (v::vs):=by
 simp only[RDs];exact⟨v,vs,rfl,h,t⟩
theorem RDs.length:∀ {ds:List D} {vs:List V},RDs K ρ H ds vs->ds.length=vs.length
 | [],vs,h=>by simp only[RDs] at h;subst h;rfl
 | d::ds,vs,h=>by
  simp only[RDs] at h;obtain⟨v,r,rfl,_,h2⟩:=h;simp[RDs.length h2]
theorem RDs.append:∀ {ds es:List D} {vs us:List V},RDs K ρ H ds vs->RDs K ρ H es us->RDs K ρ H (ds++es) (vs++us)
 | [],es,vs,us,h,t=>by simp only[RDs] at h;subst h;exact t
 | d::ds,es,vs,us,h,t=>by
  simp only[RDs] at h;obtain⟨v,r,rfl,h1,h2⟩:=h;exact RDs.cons h1 (RDs.append h2 t)
theorem RDs.get:∀ {ds:List D} {vs:List V} {i:Nat} {d:D},RDs K ρ H ds vs->ds[i]?=some d->∃ v,vs[i]?=some v/\RD K ρ H d v
 | [],vs,i,d,h,e=>by simp at e
 | x::ds,vs,0,d,h,e=>by
  simp only[RDs] at h;obtain⟨v,r,rfl,h1,h2⟩:=h;simp at e;subst e;exact⟨v,rfl,h1⟩
 | x::ds,vs,i+1,d,h,e=>by
  simp only[RDs] at h;obtain⟨v,r,rfl,h1,h2⟩:=h;obtain⟨v',e',h'⟩:=RDs.get (i:=i) h2 (by simpa using e)
  exact⟨v',by simpa using e',h'⟩
theorem RDs.none{ds:List D}{vs:List V}{i:Nat}(h:RDs K ρ H ds vs)(e:ds[i]?=none):vs[i]?=none:=by
 have:=h.length;rw[List.getElem?_eq_none_iff] at e ⊢;omega
theorem RDs.set(hv:RD K ρ H d v):∀ {ds:List D} {vs:List V} (i:Nat),RDs K ρ H ds vs->RDs K ρ H (ds.set i d) (vs.set i v)
 | [],vs,i,h=>by simp only[RDs] at h;subst h;exact RDs.nil
 | x::ds,vs,0,h=>by
  simp only[RDs] at h;obtain⟨w,r,rfl,h1,h2⟩:=h;exact RDs.cons hv h2
 | x::ds,vs,i+1,h=>by
  simp only[RDs] at h;obtain⟨w,r,rfl,h1,h2⟩:=h;exact RDs.cons h1 (RDs.set hv i h2)
theorem RDs.drop:∀ {ds:List D} {vs:List V} (n:Nat),RDs K ρ H ds vs->RDs K ρ H (ds.drop n) (vs.drop n)
 | ds,vs,0,h=>h
 | [],vs,n+1,h=>by simp only[RDs] at h;subst h;exact RDs.nil
 | x::ds,vs,n+1,h=>by
  simp only[RDs] at h;obtain⟨w,r,rfl,h1,h2⟩:=h;exact RDs.drop n h2
theorem RDs.take:∀ {ds:List D} {vs:List V} (n:Nat),RDs K ρ H ds vs->RDs K ρ H (ds.take n) (vs.take n)
 | ds,vs,0,h=>RDs.nil
 | [],vs,n+1,h=>by simp only[RDs] at h;subst h;exact RDs.nil
 | x::ds,vs,n+1,h=>by
  simp only[RDs] at h;obtain⟨w,r,rfl,h1,h2⟩:=h;exact RDs.cons h1 (RDs.take n h2)
theorem RDs.reverse(h:RDs K ρ H ds vs):RDs K ρ H ds.reverse vs.reverse:=by
 induction ds generalizing vs with
 | nil=>simp only[RDs] at h;subst h;exact RDs.nil
 | cons d ds ih =>
  simp only[RDs] at h;obtain⟨w,r,rfl,h1,h2⟩:=h;rw[List.reverse_cons,List.reverse_cons];exact(ih h2).append (RDs.cons h1 RDs.nil)
theorem RDs.ints:∀ (ns:List Int),RDs K ρ H (ns.map D.int) (ns.map V.int)
 | []=>RDs.nil
 | n::ns=>RDs.cons (by simp only[RD]) (RDs.ints ns)
theorem RDs.ints_of:∀ {ns:List Int} {vs:List V},RDs K ρ H (ns.map D.int) vs->vs=ns.map V.int
 | [],vs,h=>by simp only[List.map,RDs] at h;exact h
 | n::ns,vs,h=>by
  simp only[List.map,RDs] at h;obtain⟨v,r,rfl,h1,h2⟩:=h;simp only[RD] at h1;subst h1;rw[RDs.ints_of h2];rfl
theorem OR.mono'(x:Mon K ρ ρ' H H')(h:OR K ρ H a o)(e:H' a=H a):OR K ρ' H' a o:=by
 cases o with
 | lst xs=>obtain⟨vs,h1,h2⟩:=h;exact⟨vs,e.trans h1,RDs.mono' x xs vs h2⟩
 | dct kvs=>obtain⟨h1,h2⟩:=h;exact⟨h1,e.trans h2⟩
 | set _=>exact h.elim
 | exc c=>obtain⟨C,h1,h2⟩:=h;exact⟨C,h1,e.trans h2⟩
theorem OR.mono(x:Stp K ρ ρ' H H')(h:OR K ρ H a o)(e:H' a=H a):OR K ρ' H' a o:=OR.mono' x.toMon h e
theorem SR.at(r:SR K ρ S H){n:Nat}{a:Addr}(h:ρ[n]?=some a):∃ o,S[n]?=some o/\OR K ρ H a o:=by
 have hn:n<S.length:=by rw[<- r.len];exact(List.getElem?_eq_some_iff.mp h).1
 exact⟨S[n],by simp[hn],r.ob n a _ h (by simp[hn])⟩
theorem SR.adr(r:SR K ρ S H){n:Nat}(h:S[n]?=some o):∃ a,ρ[n]?=some a/\OR K ρ H a o:=by
 have hn:n < ρ.length:=by rw[r.len];exact(List.getElem?_eq_some_iff.mp h).1
 exact⟨ρ[n],by simp[hn],r.ob n _ o (by simp[hn]) h⟩
theorem SR.mem(r:SR K ρ S H){a:Addr}(h:a∈ρ):∃ u,H a=some u/\(∀ xs,u≠.tup xs)/\∀ o' u',u≠.frz o' u':=by
 obtain⟨n,hn,e⟩:=List.mem_iff_getElem.mp h;obtain⟨o,_,q⟩:=r.at (n:=n) (a:=a) (by simp[hn,e])
 exact q.some
theorem Stp.upd(hp:H p=none):Stp K ρ ρ H (L2.upd H p o) where
 pre:=fun _ _ h=>h
 new:=fun _ h=>.inl h
 keep:=fun a u h _=>by rw[Xf (Xq h hp)];exact h
 tup:=fun a xs h=>by
  rcases h with(h|⟨u,h⟩)|h
  ·exact .inl (.inl (by rw[Xf (Xq h hp)];exact h))
  ·exact .inl (.inr ⟨u,by rw[Xf (Xq h hp)];exact h⟩)
  ·exact .inr h
 fro:=fun a xs h=>by
  rcases h with⟨u,h⟩|h
  ·exact .inl ⟨u,by rw[Xf (Xq h hp)];exact h⟩
  ·exact .inr h
theorem SR.upd(r:SR K ρ S H){p:Addr}{o:HO}(hp:H p=none):SR K ρ S (L2.upd H p o) :=
 ⟨r.len,r.nd,fun n a ob h1 h2=>by
  have q:=r.ob n a ob h1 h2;obtain⟨u,hu,_⟩:=q.some;exact q.mono (Stp.upd hp) (Xf (Xq hu hp))⟩
theorem Stp.new1(hp:H p=none):Stp K ρ (ρ++[p]) H (L2.upd H p o) where
 pre:=fun n a h=>by rw[List.getElem?_append_left (List.getElem?_eq_some_iff.mp h).1];exact h
 new:=fun a h=>by
  rcases List.mem_append.mp h with h|h
  ·exact .inl h
  ·rw[List.mem_singleton.mp h];exact .inr hp
 keep:=(Stp.upd (ρ:=ρ) (K:=K) hp).keep
 tup:=(Stp.upd (ρ:=ρ) (K:=K) hp).tup
 fro:=(Stp.upd (ρ:=ρ) (K:=K) hp).fro
theorem SR.new1(r:SR K ρ S H){p:Addr}{u:HO}{o:O}(hp:H p=none)(ho:OR K (ρ++[p]) (L2.upd H p u) p o):SR K (ρ++[p]) (S++[o]) (L2.upd H p u):=by
 have hpm:p ∉ ρ:=fun h=>by obtain⟨w,hw,_⟩:=r.mem h;rw[hp] at hw;cases hw
 refine⟨by simp[r.len],?_,fun n a ob h1 h2=>?_⟩
 ·rw[List.nodup_append]
  refine⟨r.nd,by simp,fun x hx y hy=>?_⟩
  rw[List.mem_singleton.mp hy];exact fun z=>hpm (z▸hx)
 ·by_cases hn:n < ρ.length
  ·rw[List.getElem?_append_left hn] at h1
   rw[List.getElem?_append_left (by rw[<- r.len];exact hn)] at h2
   have q:=r.ob n a ob h1 h2;obtain⟨w,hw,_⟩:=q.some;exact q.mono (Stp.new1 hp) (Xf (Xq hw hp))
  ·have e:n=ρ.length:=by
    have:=(List.getElem?_eq_some_iff.mp h1).1;simp at this;omega
   subst e;simp at h1;rw[r.len] at h2;simp at h2;subst h1 h2;exact ho
theorem Stp.chg{n:Nat}{a:Addr}{o:O}{u:HO}(r:SR K ρ S H)(ha:ρ[n]?=some a):Stp K ρ ρ H (L2.upd H a u):=by
 have hm:a∈ρ:=List.mem_of_getElem? ha;obtain⟨w,hw,h1,h2⟩:=r.mem hm;refine⟨⟨fun _ _ h=>h,fun b xs h=>?_,fun b xs h=>?_⟩,fun _ h=>.inl h,fun b o h hb=>?_⟩
 ·rcases h with(h|⟨v,h⟩)|h
  ·exact .inl (.inl (by rw[Xf (fun z=>by subst z;rw[hw] at h;exact h1 _ (Option.some.inj h))];exact h))
  ·exact .inl (.inr ⟨v,by rw[Xf (fun z=>by subst z;rw[hw] at h;exact h2 _ _ (Option.some.inj h))];exact h⟩)
  ·exact .inr h
 ·rcases h with⟨v,h⟩|h
  ·exact .inl ⟨v,by rw[Xf (fun z=>by subst z;rw[hw] at h;exact h2 _ _ (Option.some.inj h))];exact h⟩
  ·exact .inr h
 ·rw[Xf (fun z=>hb (by rw[z];exact hm))];exact h
theorem SR.chg{n:Nat}{a:Addr}{o:O}{u:HO}(r:SR K ρ S H)(ha:ρ[n]?=some a)(ho:OR K ρ (L2.upd H a u) a o):SR K ρ (S.set n o) (L2.upd H a u):=by
 refine⟨by simp[r.len],r.nd,fun m b ob h1 h2=>?_⟩
 have hn:n<S.length:=by rw[<- r.len];exact(List.getElem?_eq_some_iff.mp ha).1
 by_cases e:m=n
 ·subst e
  rw[ha] at h1;cases h1;rw[List.getElem?_set_self hn] at h2;cases h2;exact ho
 ·rw[List.getElem?_set_ne (Ne.symm e)] at h2
  have q:=r.ob m b ob h1 h2;refine q.mono (Stp.chg (S:=S) (o:=o) r ha) (Xf fun z=>e ?_)
  subst z;obtain⟨h3,e3⟩:=List.getElem?_eq_some_iff.mp h1;obtain⟨h4,e4⟩:=List.getElem?_eq_some_iff.mp ha;exact(List.getElem_inj r.nd).mp (e3.trans e4.symm)
end
section
variable{K:PySem.W.Frag}{ρ ρ':List Addr}{H H':Hp}{S S':Sto}
theorem Mon.own{D:Addr}{u:HO}{vs:List V}(hd:H D=some (.lst vs)):Mon K ρ ρ H (L2.upd H D u) where
 pre:=fun _ _ h=>h
 tup:=fun a xs h=>by
  rcases h with(h|⟨v,h⟩)|h
  ·exact .inl (.inl (by rw[Xf (fun z=>by subst z;rw[hd] at h;cases h)];exact h))
  ·exact .inl (.inr ⟨v,by rw[Xf (fun z=>by subst z;rw[hd] at h;cases h)];exact h⟩)
  ·exact .inr h
 fro:=fun a xs h=>by
  rcases h with⟨v,h⟩|h
  ·exact .inl ⟨v,by rw[Xf (fun z=>by subst z;rw[hd] at h;cases h)];exact h⟩
  ·exact .inr h
theorem SR.own{D:Addr}{u:HO}{vs:List V}(r:SR K ρ S H)(hd:H D=some (.lst vs))(hn:D ∉ ρ):SR K ρ S (L2.upd H D u) :=
 ⟨r.len,r.nd,fun n a ob h1 h2=>(r.ob n a ob h1 h2).mono' (Mon.own hd) (Xf fun z=>hn (by rw[<- z];exact List.mem_of_getElem? h1))⟩
theorem Stp.own{D:Addr}{u:HO}{vs:List V}{ρ0:List Addr}(x:Stp K ρ0 ρ H0 H)(h0:H0 D=none)(hd:H D=some (.lst vs)):Stp K ρ0 ρ H0 (L2.upd H D u) where
 pre:=x.pre
 tup:=fun a xs h=>(Mon.own (ρ:=ρ) hd).tup a xs (x.tup a xs h)
 fro:=fun a xs h=>(Mon.own (ρ:=ρ) hd).fro a xs (x.fro a xs h)
 new:=x.new
 keep:=fun a o h hn=>by rw[Xf (Xq h h0)];exact x.keep a o h hn
end
structure ER(K:PySem.W.Frag)(ρ:List Addr)(H:Hp)(env:En)(σ:L2.St):Prop where
 len:env.length=σ.length
 val:∀ (i:Nat) d,env[i]?=some (some d)->∃ v,σ[i]?=some (some v)/\RD K ρ H d v
theorem ER.mono{K:PySem.W.Frag}{ρ ρ':List Addr}{H H':Hp}{env:En}{σ:L2.St}(r:ER K ρ H env σ)(x:Stp K ρ ρ' H H'):ER K ρ' H' env σ :=
 ⟨r.len,fun i d e=>let ⟨v,h1,h2⟩:=r.val i d e;⟨v,h1,h2.mono x⟩⟩
theorem ER.mono'{K:PySem.W.Frag}{ρ ρ':List Addr}{H H':Hp}{env:En}{σ:L2.St}(r:ER K ρ H env σ)(x:Mon K ρ ρ' H H'):ER K ρ' H' env σ :=
 ⟨r.len,fun i d e=>let ⟨v,h1,h2⟩:=r.val i d e;⟨v,h1,RD.mono' x d v h2⟩⟩
theorem ER.set{K:PySem.W.Frag}{ρ:List Addr}{H:Hp}{env:En}{σ:L2.St}(r:ER K ρ H env σ)(i:Nat){d:D}{v:V}(h:RD K ρ H d v):ER K ρ H (env.set i (some d)) (σ.set i (some v)) :=
 ⟨by simp[r.len],fun j e h1=>by
  by_cases z:j=i
  ·subst z
   have hj:j<env.length:=by
    have:=(List.getElem?_eq_some_iff.mp h1).1
    simpa using this
   rw[List.getElem?_set_self hj] at h1;cases h1;exact⟨v,by rw[List.getElem?_set_self (by rw[<- r.len];exact hj)],h⟩
  ·rw[List.getElem?_set_ne (Ne.symm z)] at h1
   obtain⟨v',h2,h3⟩:=r.val j e h1;exact⟨v',by rw[List.getElem?_set_ne (Ne.symm z)];exact h2,h3⟩⟩
structure S0(X:Cx)(pins:List (Addr×Obj))(σ:L2.St)(H:Hp)(s:Shared)(ρ:List Addr)(S:Sto)(env:En):Prop where
 inv:Inv X pins σ H s
 sr:SR X.K ρ S H
 er:ER X.K ρ H env σ
theorem S0.step(I:S0 X pins σ H s ρ S env)(J:Inv X pins σ H' s')(r:SR X.K ρ' S' H')(x:Stp X.K ρ ρ' H H') :
  S0 X pins σ H' s' ρ' S' env:=⟨J,r,I.er.mono x⟩
def EPd(X:Cx)(pins:List (Addr×Obj))(σ:L2.St)(ρ:List Addr)(H:Hp)(d:D)(S':Sto)(u:Value)(s':Shared):Prop :=
 ∃ v H' ρ',Inv X pins σ H' s'/\RelV v u/\RD X.K ρ' H' d v/\SR X.K ρ' S' H'/\Stp X.K ρ ρ' H H'
def Trc(ok:Addr->Prop)(H':Hp)(a:Addr)(h:Heap):Prop :=
 ∃ oe vs T oT ts,h.get? a=some oe/\oe.data=.fields vs/\vs[1]?=some (.ref T)/\ok T/\T≠a/\H' T=none/\h.get? T=some oT/\oT.data=.fields ts/\ts[3]?=some .none
theorem Trc.imp(x:Trc ok H' a h)(k:∀ T,ok T->ok' T):Trc ok' H' a h:=by
 obtain⟨oe,vs,T,oT,ts,h1,h2,h3,h4,r⟩:=x;exact⟨oe,vs,T,oT,ts,h1,h2,h3,k T h4,r⟩
def Fly(X:Cx)(pins:List (Addr×Obj))(H':Hp)(a:Addr)(h:Heap):Prop :=
 (∃ oe vs,h.get? a=some oe/\oe.data=.fields vs/\vs[1]?=some .none)\/Trc (fun T=>(T∈X.ex\/X.s₀.heap.get? T=none)/\∀ p∈X.pn++pins,p.1≠T) H' a h
def XPd(X:Cx)(pins:List (Addr×Obj))(σ:L2.St)(ρ:List Addr)(H:Hp)(n:Nat)(S':Sto)(e:Value)(s':Shared):Prop :=
 ∃ H' ρ' a c,Inv X pins σ H' s'/\e=.ref a/\ρ'[n]?=some a/\S'[n]?=some (.exc c)/\SR X.K ρ' S' H'/\Stp X.K ρ ρ' H H'/\Fly X pins H' a s'.heap
def OkP(X:Cx)(pins:List (Addr×Obj))(σ:L2.St)(ρ:List Addr)(H:Hp)(r:R D)(u:Value)(s':Shared):Prop:=∃ d S',r=.ok d S'/\EPd X pins σ ρ H d S' u s'
def ExP(X:Cx)(pins:List (Addr×Obj))(σ:L2.St)(ρ:List Addr)(H:Hp){α:Type}(r:R α)(e:Value)(s':Shared):Prop:=∃ n S',r=.ex n S'/\XPd X pins σ ρ H n S' e s'
def DE(X:Cx)(e:Expr)(f:En->Sto->R D):Prop :=
 ∀ (pins:List (Addr×Obj)) (s:Shared) (σ:L2.St) (H:Hp) (ρ:List Addr) (S:Sto) (env:En),S0 X pins σ H s ρ S env->f env S≠.bad ->
  wpAny (model X.prog X.w) X.A (eval e X.env) (OkP X pins σ ρ H (f env S)) (ExP X pins σ ρ H (f env S)) s
def DT(X:Cx)(e:Expr)(f:En->Sto->R Bool):Prop :=
 ∀ (pins:List (Addr×Obj)) (s:Shared) (σ:L2.St) (H:Hp) (ρ:List Addr) (S:Sto) (env:En),S0 X pins σ H s ρ S env->f env S≠.bad ->
  wpAny (model X.prog X.w) X.A (isTrue e X.env (eval e X.env)) (fun b s'=>∃ S',f env S=.ok b S'/\∃ H' ρ',Inv X pins σ H' s'/\SR X.K ρ' S' H'/\Stp X.K ρ ρ' H H') (ExP X pins σ ρ H (f env S)) s
section
variable{X:Cx}{pins:List (Addr×Obj)}{σ:L2.St}{H:Hp}{s:Shared}{ρ:List Addr}{S S':Sto}{env:En}{e:Expr}{f:En->Sto->R D}{g:En->Sto->R Bool}{Q:Value->Shared->Prop}{E:Value->Shared->Prop}
theorem DE.ok(h:DE X e f)(I:S0 X pins σ H s ρ S env)(r:f env S=.ok d S')(hQ:∀ u s' v H' ρ',S0 X pins σ H' s' ρ' S' env->RelV v u->RD X.K ρ' H' d v->Stp X.K ρ ρ' H H'->Q u s') :
  wpAny (model X.prog X.w) X.A (eval e X.env) Q E s:=by
 have nb:f env S≠.bad:=by rw[r];exact fun z=>nomatch z
 refine wpAny_mono (h pins s σ H ρ S env I nb) (fun u s' q=>?_) fun x s' q=>?_
 ·obtain⟨d',S1,e1,v,H',ρ',J,rv,rd,sr,st⟩:=q
  rw[r] at e1;cases e1;exact hQ u s' v H' ρ' (I.step J sr st) rv rd st
 ·obtain⟨n,S1,e1,_⟩:=q
  rw[r] at e1;cases e1
theorem DE.ex(h:DE X e f)(I:S0 X pins σ H s ρ S env)(r:f env S=.ex n S')(hE:∀ x s',XPd X pins σ ρ H n S' x s'->E x s') :
  wpAny (model X.prog X.w) X.A (eval e X.env) Q E s:=by
 have nb:f env S≠.bad:=by rw[r];exact fun z=>nomatch z
 refine wpAny_mono (h pins s σ H ρ S env I nb) (fun u s' q=>?_) fun x s' q=>?_
 ·obtain⟨d',S1,e1,_⟩:=q
  rw[r] at e1;cases e1
 ·obtain⟨m,S1,e1,q⟩:=q
  rw[r] at e1;cases e1;exact hE x s' q
theorem DT.ok{Q:Bool->Shared->Prop}{b:Bool}(h:DT X e g)(I:S0 X pins σ H s ρ S env)(r:g env S=.ok b S')(hQ:∀ s' H' ρ',S0 X pins σ H' s' ρ' S' env->Stp X.K ρ ρ' H H'->Q b s') :
  wpAny (model X.prog X.w) X.A (isTrue e X.env (eval e X.env)) Q E s:=by
 have nb:g env S≠.bad:=by rw[r];exact fun z=>nomatch z
 refine wpAny_mono (h pins s σ H ρ S env I nb) (fun u s' q=>?_) fun x s' q=>?_
 ·obtain⟨S1,e1,H',ρ',J,sr,st⟩:=q
  rw[r] at e1;cases e1;exact hQ s' H' ρ' (I.step J sr st) st
 ·obtain⟨n,S1,e1,_⟩:=q
  rw[r] at e1;cases e1
theorem DT.ex{Q:Bool->Shared->Prop}{n:Nat}(h:DT X e g)(I:S0 X pins σ H s ρ S env)(r:g env S=.ex n S')(hE:∀ x s',XPd X pins σ ρ H n S' x s'->E x s') :
  wpAny (model X.prog X.w) X.A (isTrue e X.env (eval e X.env)) Q E s:=by
 have nb:g env S≠.bad:=by rw[r];exact fun z=>nomatch z
 refine wpAny_mono (h pins s σ H ρ S env I nb) (fun u s' q=>?_) fun x s' q=>?_
 ·obtain⟨S1,e1,_⟩:=q
  rw[r] at e1;cases e1
 ·obtain⟨m,S1,e1,q⟩:=q
  rw[r] at e1;cases e1;exact hE x s' q
theorem XPd.pre(st:Stp X.K ρ ρ' H H')(h:XPd X pins σ ρ' H' n S' x s'):XPd X pins σ ρ H n S' x s':=by
 obtain⟨H2,ρ2,a,c,J,e,hn,hc,sr,st2,fl⟩:=h;exact⟨H2,ρ2,a,c,J,e,hn,hc,sr,st.trans st2,fl⟩
theorem ExP.mk{α:Type}(st:Stp X.K ρ ρ' H H')(h:XPd X pins σ ρ' H' n S' x s'):ExP X pins σ ρ H (.ex n S':R α) x s':=⟨n,S',rfl,h.pre st⟩
theorem OkP.mk(st:Stp X.K ρ ρ' H H')(J:Inv X pins σ H' s')(rv:RelV v u)(rd:RD X.K ρ' H' d v)(sr:SR X.K ρ' S' H'):OkP X pins σ ρ H (.ok d S') u s' :=
 ⟨d,S',rfl,v,H',ρ',J,rv,rd,sr,st⟩
theorem OkP.pre(st:Stp X.K ρ ρ' H H')(h:OkP X pins σ ρ' H' r u s'):OkP X pins σ ρ H r u s':=by
 obtain⟨d,S1,e,v,H2,ρ2,J,rv,rd,sr,st2⟩:=h;exact⟨d,S1,e,v,H2,ρ2,J,rv,rd,sr,st.trans st2⟩
theorem ExP.pre{α:Type}{ρ':List Addr}{H':Hp}{r:R α}{x:Value}{s':Shared}(st:Stp X.K ρ ρ' H H')(h:ExP X pins σ ρ' H' r x s'):ExP X pins σ ρ H r x s':=by
 obtain⟨n,S1,e,q⟩:=h;exact⟨n,S1,e,q.pre st⟩
theorem DE.bind{α:Type}(h:DE X e f)(I:S0 X pins σ H s ρ S env){k:D->Sto->R α}(nb:(f env S).bind k≠.bad){r:R α}(hr:r=(f env S).bind k)
  (hQ:∀ d S1 u s' v H' ρ',r=k d S1->k d S1≠.bad->S0 X pins σ H' s' ρ' S1 env->RelV v u->RD X.K ρ' H' d v->Stp X.K ρ ρ' H H'->Q u s') (hE:∀ x s',ExP X pins σ ρ H r x s'->E x s') :
  wpAny (model X.prog X.w) X.A (eval e X.env) Q E s:=by
 cases q:f env S with
 | bad=>rw[q] at nb;exact absurd rfl nb
 | ex n S1 =>
  rw[q] at hr;exact h.ex I q fun x s' z=>hE x s' ⟨n,S1,hr,z⟩
 | ok d S1 =>
  rw[q] at hr nb;exact h.ok I q fun u s' v H' ρ' J rv rd st=>hQ d S1 u s' v H' ρ' hr nb J rv rd st
end
theorem Xgc:big<=sizeLine:=by rw[sizeLine_eq];decide
theorem Y0(h:n<=big):n<=sizeLine:=Nat.le_trans h Xgc
noncomputable def tst(r:R D):R Bool:=r.bind fun x S=>match Xl S x with
 | some b=>.ok b S
 | none=>.bad
section
variable{X:Cx}{pins:List (Addr×Obj)}{σ:L2.St}{H:Hp}{s:Shared}{ρ:List Addr}{S S':Sto}{env:En}{e a b c:Expr}{f fa fb fc:En->Sto->R D}{Q:Value->Shared->Prop}{E:Value->Shared->Prop}{pos:Pos}
theorem opd{f:Value->Value->Sem Value}(ho:OpR (X.wish E) f r)(I:Inv X pins σ H s)(rx:RelV x v)(ry:RelV y u)(h:r x y H Q')
  (hQ:∀ w s' z H',Inv X pins σ H' s'->RelV z w->Q' z H'->Q w s'):wpAny (model X.prog X.w) X.A (f v u) Q E s :=
 thn (ho pins s σ H x y v u Q' (I.wish E) rx ry h) fun w s' ⟨z,H',J,rz,q⟩=>hQ w s' z H' J.unwish rz q
theorem ped(ho:PE (X.wish E) e t)(I:Inv X pins σ H s)(h:t σ H Q')(hQ:∀ w s' z H',Inv X pins σ H' s'->RelV z w->Q' z H'->Q w s'):wpAny (model X.prog X.w) X.A (eval e X.env) Q E s :=
 thn (ho pins s σ H Q' (I.wish E) h) fun w s' ⟨z,H',J,rz,q⟩=>hQ w s' z H' J.unwish rz q
theorem Xdv{f:Value}{r:List V->Hp->VK->Prop}{xs:List V}{us:List Value}{Q':VK}(ho:Xds (X.wish E) f r)(I:Inv X pins σ H s)(rx:Vals xs us)(h:r xs H Q')
  (hQ:∀ w s' z H',Inv X pins σ H' s'->RelV z w->Q' z H'->Q w s'):wpAny (model X.prog X.w) X.A (call f us) Q E s :=
 thn (ho pins s σ H xs us Q' (I.wish E) rx h) fun w s' ⟨z,H',J,rz,q⟩=>hQ w s' z H' J.unwish rz q
theorem mtd{id:String}{r:V->List V->Hp->VK->Prop}{x:V}{xs:List V}{v:Value}{us:List Value}{Q':VK}(ho:MtM (X.wish E) id r)(I:Inv X pins σ H s)(rx:RelV x v)(rs:Vals xs us)(h:r x xs H Q')
  (hQ:∀ w s' z H',Inv X pins σ H' s'->RelV z w->Q' z H'->Q w s'):wpAny (model X.prog X.w) X.A (call (.builtin id) (v::us)) Q E s :=
 thn (ho pins s σ H x xs v us Q' (I.wish E) rx rs h) fun w s' ⟨z,H',J,rz,q⟩=>hQ w s' z H' J.unwish rz q
theorem S0.list(I:S0 X pins σ H s ρ S env)(h:Xb S n=some xs):∃ a vs,ρ[n]?=some a/\H a=some (.lst vs)/\RDs X.K ρ H xs vs:=by
 unfold Xb at h;cases e:S[n]? with
 | none=>rw[e] at h;cases h
 | some o =>
  rw[e] at h;cases o with
  | lst ys =>
   cases h;obtain⟨a,ha,vs,hv,hr⟩:=I.sr.adr e;exact⟨a,vs,ha,hv,hr⟩
  | set _=>cases h
  | dct _=>cases h
  | exc _=>cases h
theorem S0.seq(I:S0 X pins σ H s ρ S env)(h:Xn S d=some xs)(r:RD X.K ρ H d v):∃ a vs,v=.ref a/\(SqL X.K H a vs\/SqT X.K H a vs)/\RDs X.K ρ H xs vs:=by
 cases d with
 | tup ys =>
  simp only[Xn,Option.some.injEq] at h;subst h;simp only[RD] at r;obtain⟨a,vs,e,h1,h2⟩:=r;exact⟨a,vs,e,.inr h1,h2⟩
 | fro ys =>
  simp only[Xn,Option.some.injEq] at h;subst h;simp only[RD] at r;obtain⟨a,vs,e,h1,h2⟩:=r;exact⟨a,vs,e,.inl h1.sq,h2⟩
 | ref n =>
  simp only[RD] at r;obtain⟨a,e,h1⟩:=r;obtain⟨a',vs,h2,h3,h4⟩:=I.list (xs:=xs) (n:=n) h;rw[h1] at h2;cases h2;exact⟨a,vs,e,.inl (.of h3),h4⟩
 | non=>cases h
 | bl _=>cases h
 | int _=>cases h
 | str _=>cases h
 | fn _ _=>cases h
theorem Xbn(h:RDs X.K ρ H ds vs):(!vs.isEmpty) = !ds.isEmpty:=by
 have:=h.length;cases ds<;>cases vs<;>simp_all
theorem Xji(I:S0 X pins σ H s ρ S env){k:Bool}{Q:Bool->Shared->Prop}(h:Xl S d=some k)(rd:RD X.K ρ H d v)(rv:RelV v u)(hQ:∀ s',Inv X pins σ H s'->Q k s') :
  wpAny (model X.prog X.w) X.A (truthy u) Q E s:=by
 have key:Xzj X.K v H k:=by
  cases d with
  | non=>simp only[RD] at rd;subst rd;simp only[Xl,Option.some.injEq] at h;exact h.symm
  | bl b=>simp only[RD] at rd;subst rd;simp only[Xl,Option.some.injEq] at h;exact h.symm
  | int i=>simp only[RD] at rd;subst rd;simp only[Xl,Option.some.injEq] at h;exact h.symm
  | str x =>
   simp only[RD] at rd;subst rd;simp only[Xl] at h;split at h
   ·rename_i hb
    exact⟨Y0 hb,(Option.some.inj h).symm⟩
   ·cases h
  | fn _ _=>cases h
  | tup xs =>
   simp only[Xl,Option.some.injEq] at h;obtain⟨a,vs,e,h1,h2⟩:=I.seq (d:=.tup xs) rfl rd;subst e;rcases h1 with h1|h1
   ·exact .inl ⟨vs,h1,by rw[Xbn h2];exact h.symm⟩
   ·exact .inr (.inl ⟨vs,h1,by rw[Xbn h2];exact h.symm⟩)
  | fro xs =>
   simp only[Xl,Option.some.injEq] at h;obtain⟨a,vs,e,h1,h2⟩:=I.seq (d:=.fro xs) rfl rd;subst e;rcases h1 with h1|h1
   ·exact .inl ⟨vs,h1,by rw[Xbn h2];exact h.symm⟩
   ·exact .inr (.inl ⟨vs,h1,by rw[Xbn h2];exact h.symm⟩)
  | ref n =>
   simp only[Xl] at h;cases e:S[n]? with
   | none=>rw[e] at h;cases h
   | some o =>
    rw[e] at h;cases o with
    | lst ys =>
     obtain⟨a,vs,h1,h2,h3⟩:=I.list (n:=n) (xs:=ys) (by unfold Xb;rw[e])
     simp only[RD] at rd;obtain⟨a',e',h1'⟩:=rd;rw[h1] at h1';cases h1';subst e';exact .inl ⟨vs,.of h2,by rw[Xbn h3];exact(Option.some.inj h).symm⟩
    | set _=>cases h
    | dct _=>cases h
    | exc _=>cases h
 exact thn (Xzk (X:=X.wish E) pins s σ H v u (fun k' H'=>k'=k/\H'=H) (I.inv.wish E) rv ⟨k,key,rfl,rfl⟩) fun b s' ⟨H',J,e1,e2⟩=>by subst e1 e2;exact hQ s' J.unwish
theorem DT.of(h:DE X e f)(he:∀ whole,isTrue e X.env whole=(do let v <- whole;standAt e.pos;holding [v] (truthy v))):DT X e (fun env S=>tst (f env S)):=by
 intro pins s σ H ρ S env I nb;dsimp only at nb ⊢;cases q:f env S with
 | bad=>rw[q] at nb;exact absurd rfl nb
 | ex n S1=>exact isTrue_plain (h.ex I q fun x s' z=>⟨n,S1,rfl,z⟩) (he _)
 | ok d S1 =>
  rw[q] at nb;cases t:Xl S1 d with
  | none=>simp[tst,t] at nb
  | some k =>
   refine isTrue_plain (h.ok I q fun u s' v H' ρ' J rv rd st=>?_) (he _)
   exact Xji J t rd rv fun s2 J2=>⟨S1,by simp[tst,t],H',ρ',J2,J.sr,st⟩
theorem X22 {i:Nat} (hN:X.N[i]?=some x) (hv:Vis X.env.scope x) (hd:(x==("__debug__" : Str))=false) (hcd:(x==("__classdict__" : Str))=false) :
  DE X (.Name x pos) (fun env S=>match env[i]? with|some (some d)=>.ok d S|_=>.bad):=by
 intro pins s σ H ρ S env I nb;dsimp only at nb ⊢;cases q:env[i]? with
 | none=>rw[q] at nb;exact absurd rfl nb
 | some o =>
  cases o with
  | none=>rw[q] at nb;exact absurd rfl nb
  | some d =>
   obtain⟨v,h1,h2⟩:=I.er.val i d q;exact ped (Q':=fun z H'=>z=v/\H'=H) (Xzd hN hv hd hcd) I.inv ⟨v,h1,rfl,rfl⟩ fun u s' z H' J rz ⟨e1,e2⟩=>by
    subst e1 e2;exact .mk .refl J rz h2 I.sr
theorem d_int:DE X (.Constant (.int i) j pos) (fun _ S=>.ok (.int i) S):=fun pins s σ H ρ S env I _ =>
 ped (Q':=fun z H'=>z=.int i/\H'=H) Xze I.inv ⟨rfl,rfl⟩ fun u s' z H' J rz ⟨e1,e2⟩=>by
  subst e1 e2;exact .mk .refl J rz (by simp only[RD]) I.sr
theorem d_bl:DE X (.Constant (.bool i) j pos) (fun _ S=>.ok (.bl i) S):=fun pins s σ H ρ S env I _ =>
 ped (Q':=fun z H'=>z=.bl i/\H'=H) X2z I.inv ⟨rfl,rfl⟩ fun u s' z H' J rz ⟨e1,e2⟩=>by
  subst e1 e2;exact .mk .refl J rz (by simp only[RD]) I.sr
theorem d_non:DE X (.Constant .none j pos) (fun _ S=>.ok .non S):=fun pins s σ H ρ S env I _ =>
 ped (Q':=fun z H'=>z=.non/\H'=H) Xzf I.inv ⟨rfl,rfl⟩ fun u s' z H' J rz ⟨e1,e2⟩=>by
  subst e1 e2;exact .mk .refl J rz (by simp only[RD]) I.sr
theorem d_str:DE X (.Constant (.str i) j pos) (fun _ S=>.ok (.str i) S):=fun pins s σ H ρ S env I _ =>
 ped (Q':=fun z H'=>z=.str i/\H'=H) Xzg I.inv ⟨rfl,rfl⟩ fun u s' z H' J rz ⟨e1,e2⟩=>by
  subst e1 e2;exact .mk .refl J rz (by simp only[RD]) I.sr
def DA(X:Cx)(es:List Expr)(f:En->Sto->R (List D)):Prop :=
 ∀ (pos:Pos) (pins:List (Addr×Obj)) (s:Shared) (σ:L2.St) (H:Hp) (ρ:List Addr) (S:Sto) (env:En),S0 X pins σ H s ρ S env->f env S≠.bad ->
  wpAny (model X.prog X.w) X.A (spliced (backTo pos (starEach es X.env)))
   (fun us s'=>∃ ds S' vs H' ρ',f env S=.ok ds S'/\Inv X pins σ H' s'/\Vals vs us/\RDs X.K ρ' H' ds vs/\SR X.K ρ' S' H'/\Stp X.K ρ ρ' H H') (ExP X pins σ ρ H (f env S)) s
theorem DA.ok{es:List Expr}{g:En->Sto->R (List D)}{Q:List Value->Shared->Prop}{ds:List D}(h:DA X es g)(I:S0 X pins σ H s ρ S env)(r:g env S=.ok ds S')
  (hQ:∀ us s' vs H' ρ',S0 X pins σ H' s' ρ' S' env->Vals vs us->RDs X.K ρ' H' ds vs->Stp X.K ρ ρ' H H'->Q us s') :
  wpAny (model X.prog X.w) X.A (spliced (backTo pos (starEach es X.env))) Q E s:=by
 have nb:g env S≠.bad:=by rw[r];exact fun z=>nomatch z
 refine wpAny_mono (h pos pins s σ H ρ S env I nb) (fun u s' q=>?_) fun x s' q=>?_
 ·obtain⟨d',S1,vs,H',ρ',e1,J,rv,rd,sr,st⟩:=q
  rw[r] at e1;cases e1;exact hQ u s' vs H' ρ' (I.step J sr st) rv rd st
 ·obtain⟨n,S1,e1,_⟩:=q
  rw[r] at e1;cases e1
theorem DA.ex{es:List Expr}{g:En->Sto->R (List D)}{Q:List Value->Shared->Prop}{n:Nat}(h:DA X es g)(I:S0 X pins σ H s ρ S env)(r:g env S=.ex n S')(hE:∀ x s',XPd X pins σ ρ H n S' x s'->E x s') :
  wpAny (model X.prog X.w) X.A (spliced (backTo pos (starEach es X.env))) Q E s:=by
 have nb:g env S≠.bad:=by rw[r];exact fun z=>nomatch z
 refine wpAny_mono (h pos pins s σ H ρ S env I nb) (fun u s' q=>?_) fun x s' q=>?_
 ·obtain⟨d',S1,_,_,_,e1,_⟩:=q
  rw[r] at e1;cases e1
 ·obtain⟨m,S1,e1,q⟩:=q
  rw[r] at e1;cases e1;exact hE x s' q
theorem Xzs:DA X [] (fun _ S=>.ok [] S):=fun _ pins s σ H ρ S env I _=>Calls.spliced_nil ⟨[],S,[],H,ρ,rfl,I.inv,.nil,.nil,I.sr,.refl⟩
theorem Xvv{es:List Expr}{g:En->Sto->R (List D)}(ha:DE X a fa)(hr:DA X es g)(hs:starEach (a::es) X.env=(false,eval a X.env)::starEach es X.env) :
  DA X (a::es) (fun env S=>(fa env S).bind fun x S=>(g env S).bind fun xs S=>.ok (x::xs) S):=by
 intro pos pins s σ H ρ S env I nb;dsimp only at nb ⊢;rw[hs];show wpAny _ _ (spliced ((false,eval a X.env)::backTo pos (starEach es X.env))) _ _ s;cases q:fa env S with
 | bad=>rw[q] at nb;exact absurd rfl nb
 | ex n S1=>exact Calls.spliced_cons (ha.ex I q fun x s' z=>⟨n,S1,rfl,z⟩)
 | ok d S1 =>
  rw[q] at nb;simp only[Rk0] at nb ⊢;refine Calls.spliced_cons (ha.ok I q fun u s1 v H1 ρ1 I1 rv rd st1=>?_)
  cases q2:g env S1 with
  | bad=>rw[q2] at nb;exact absurd rfl nb
  | ex n S2=>exact hr.ex I1 q2 fun x s' z=>.mk st1 z
  | ok ds S2 =>
   refine hr.ok I1 q2 fun us s2 vs H2 ρ2 I2 rvs rds st2=>?_
   exact⟨d::ds,S2,v::vs,H2,ρ2,rfl,I2.inv,.cons rv rvs,.cons (rd.mono st2) rds,I2.sr,st1.trans st2⟩
theorem Xcd(J:Inv X pins σ (upd H p (.tup vs)) s')(hp:H p=none)(sr:SR X.K ρ S H)(rd:RDs X.K ρ H xs vs):OkP X pins σ ρ H (.ok (.tup xs) S) (.ref p) s':=by
 refine .mk (v:=.ref p) (Stp.upd hp) J rfl ?_ (sr.upd hp);simp only[RD];exact⟨p,vs,rfl,.of Yb,RDs.mono (Stp.upd hp) xs vs rd⟩
theorem Xbe(J:Inv X pins σ (upd H p (.lst vs)) s')(hp:H p=none)(sr:SR X.K ρ S H)(rd:RDs X.K ρ H xs vs):OkP X pins σ ρ H (.ok (.ref S.length) (S++[.lst xs])) (.ref p) s':=by
 refine .mk (v:=.ref p) (ρ':=ρ++[p]) (Stp.new1 hp) J rfl ?_ (sr.new1 hp ⟨vs,Yb,RDs.mono (Stp.new1 hp) xs vs rd⟩);simp only[RD];exact⟨p,rfl,by rw[<- sr.len];simp⟩
theorem X23{es:List Expr}{x1:Nat}{g:En->Sto->R (List D)}(h:DA X es g):DE X (.Tuple es x1 pos) (fun env S=>(g env S).bind fun xs S=>if xs.length<=big then .ok (.tup xs) S else .bad):=by
 intro pins s σ H ρ S env I nb;dsimp only at nb ⊢;cases q:g env S with
 | bad=>rw[q] at nb;exact absurd rfl nb
 | ex n S1=>exact wpAny_Tuple_spliced (h.ex I q fun x s' z=>⟨n,S1,rfl,z⟩)
 | ok ds S1 =>
  rw[q] at nb;simp only[Rk0] at nb ⊢;split at nb
  ·rename_i hz
   rw[if_pos hz];refine wpAny_Tuple_spliced (h.ok I q fun us s1 vs H1 ρ1 I1 rv rd st1=>⟨by rw[<- rv.length,<- rd.length];exact Y0 hz,?_⟩)
   have hf:H1 s1.heap.objs.size=none:=I1.inv.hok.fresh (Nat.le_refl _);refine OkP.pre st1 (Xcd (I1.inv.laid (t':=s1.toks) (fun b u e=>Heap.get?_push_of_some _ e) (Nat.le_refl _) ?_) hf I1.sr rd)
   exact⟨by rw[<- rd.length];exact Y0 hz,us,rv,⟨_,Heap.get?_push_size _ rfl,rfl,_,rfl⟩⟩
  ·exact absurd rfl nb
theorem X24{es:List Expr}{g:En->Sto->R (List D)}(h:DA X es g):DE X (.List es pos) (fun env S=>(g env S).bind fun xs S=>if xs.length<=big then .ok (.ref S.length) (S++[.lst xs]) else .bad):=by
 intro pins s σ H ρ S env I nb;dsimp only at nb ⊢;cases q:g env S with
 | bad=>rw[q] at nb;exact absurd rfl nb
 | ex n S1=>exact wpAny_List_spliced (h.ex I q fun x s' z=>⟨n,S1,rfl,z⟩)
 | ok ds S1 =>
  rw[q] at nb;simp only[Rk0] at nb ⊢;split at nb
  ·rename_i hz
   rw[if_pos hz];refine wpAny_List_spliced (h.ok I q fun us s1 vs H1 ρ1 I1 rv rd st1=>⟨by rw[<- rv.length,<- rd.length];exact Y0 hz,?_⟩)
   have hf:H1 s1.heap.objs.size=none:=I1.inv.hok.fresh (Nat.le_refl _);refine OkP.pre st1 (Xbe (I1.inv.laid (t':=s1.toks) (fun b u e=>Heap.get?_push_of_some _ e) (Nat.le_refl _) ?_) hf I1.sr rd)
   exact⟨by rw[<- rd.length];exact Y0 hz,us,0,rv,Heap.get?_push_size _ rfl⟩
  ·exact absurd rfl nb
def Op2(X:Cx)(m:Value->Value->Sem Value)(k:D->D->Sto->R D):Prop :=
 ∀ (pins:List (Addr×Obj)) (s:Shared) (σ:L2.St) (H:Hp) (ρ:List Addr) (S:Sto) (env:En) (x y:D) (v u:V) (v' u':Value) (E:Value->Shared->Prop),S0 X pins σ H s ρ S env->k x y S≠.bad ->
  RD X.K ρ H x v->RelV v v'->RD X.K ρ H y u->RelV u u'->wpAny (model X.prog X.w) X.A (m v' u') (OkP X pins σ ρ H (k x y S)) E s
theorem two(ho:Op2 X m k)(ha:DE X a fa)(hb:DE X b fb)(I:S0 X pins σ H s ρ S env)
  (nb:(fa env S).bind (fun x S=>(fb env S).bind fun y S=>k x y S)≠.bad) :
  wpAny (model X.prog X.w) X.A (eval a X.env) (fun v s₁=>wpAny (model X.prog X.w) X.A (eval b X.env) (fun u s₂=>wpAny (model X.prog X.w) X.A (m v u)
   (OkP X pins σ ρ H ((fa env S).bind fun x S=>(fb env S).bind fun y S=>k x y S)) (ExP X pins σ ρ H ((fa env S).bind fun x S=>(fb env S).bind fun y S=>k x y S)) s₂)
   (ExP X pins σ ρ H ((fa env S).bind fun x S=>(fb env S).bind fun y S=>k x y S)) s₁) (ExP X pins σ ρ H ((fa env S).bind fun x S=>(fb env S).bind fun y S=>k x y S)) s:=by
 cases q:fa env S with
 | bad=>rw[q] at nb;exact absurd rfl nb
 | ex n S1=>exact ha.ex I q fun x s' z=>⟨n,S1,rfl,z⟩
 | ok x S1 =>
  rw[q] at nb;simp only[Rk0] at nb ⊢;refine ha.ok I q fun v' s1 v H1 ρ1 I1 rv rd st1=>?_
  cases q2:fb env S1 with
  | bad=>rw[q2] at nb;exact absurd rfl nb
  | ex n S2=>exact hb.ex I1 q2 fun x s' z=>.mk st1 z
  | ok y S2 =>
   rw[q2] at nb;simp only[Rk0] at nb ⊢;refine hb.ok I1 q2 fun u' s2 u H2 ρ2 I2 ru rdu st2=>?_
   exact wpAny_mono (ho pins s2 σ H2 ρ2 S2 env x y v u v' u' (fun _ _=>False) I2 nb (rd.mono st2) rv rdu ru) (fun w s3 z=>z.pre (st1.trans st2)) fun _ _ z=>z.elim
noncomputable def opB:Bo->Operator
 | .add=>.Add | .sub=>.Sub | .mul=>.Mult | .fdiv=>.FloorDiv | .mod=>.Mod | .pow=>.Pow
theorem X25(ho:Op2 X (binaryOp (opB op)) (Xm op))(ha:DE X a fa)(hb:DE X b fb):DE X (.BinOp a (opB op) b pos) (fun env S=>(fa env S).bind fun x S=>(fb env S).bind fun y S=>Xm op x y S) :=
 fun pins s σ H ρ S env I nb=>wpAny_BinOp (two ho ha hb I nb)
noncomputable def opC:Co->CmpOp
 | .eq=>.Eq | .ne=>.NotEq | .lt=>.Lt | .le=>.LtE | .gt=>.Gt | .ge=>.GtE | .isin=>.In | .notin=>.NotIn | .is=>.Is | .isnot=>.IsNot
theorem X26(ho:Op2 X (compareOp (opC op)) (Xo op))(ha:DE X a fa)(hb:DE X b fb)(hm:behindInMarks (opC op) b=false) :
  DE X (.Compare a [opC op] [b] pos) (fun env S=>(fa env S).bind fun x S=>(fb env S).bind fun y S=>Xo op x y S) :=
 fun pins s σ H ρ S env I nb=>wpAny_Compare1 (two ho ha hb I nb) hm
theorem Xce(h:Xo op x y S≠.bad):∃ r,Yg op x y S=some r/\Xo op x y S=.ok (.bl r) S:=by
 unfold Xo at h ⊢;cases e:Yg op x y S with
 | none=>rw[e] at h;exact absurd rfl h
 | some r=>exact⟨r,rfl,rfl⟩
theorem Xbo(h:Xl S d=some r):tst (.ok d S)=.ok r S:=by simp[tst,h]
theorem Xzt(ho:Op2 X (compareOp (opC op)) (Xo op))(ha:DE X a fa)(hb:DE X b fb)(hm:behindInMarks (opC op) b=false) :
  DT X (.Compare a [opC op] [b] pos) (fun env S=>tst ((fa env S).bind fun x S=>(fb env S).bind fun y S=>Xo op x y S)):=by
 intro pins s σ H ρ S env I nb;dsimp only at nb ⊢;have nb':((fa env S).bind fun x S=>(fb env S).bind fun y S=>Xo op x y S)≠.bad:=fun z=>nb (by rw[z];rfl)
 refine wpAny_isTrue_Compare1 (wpAny_mono (two ho ha hb I nb') (fun v s1 h1=>wpAny_mono h1 (fun u s2 h2=>wpAny_mono h2 (fun w s3 h3=>?_) fun x s' z=>?_) fun x s' z=>?_) fun x s' z=>?_) hm
 ·obtain⟨d,S1,e,v1,H1,ρ1,J,rv,rd,sr,st⟩:=h3
  have hb':∃ r,d=.bl r:=by
   cases q:fa env S with
   | bad=>rw[q] at e;cases e
   | ex n S1=>rw[q] at e;cases e
   | ok x S1 =>
    rw[q] at e;simp only[Rk0] at e;cases q2:fb env S1 with
    | bad=>rw[q2] at e;cases e
    | ex n S1=>rw[q2] at e;cases e
    | ok y S2 =>
     rw[q2] at e;simp only[Rk0] at e;obtain⟨r,_,e2⟩:=Xce (op:=op) (x:=x) (y:=y) (S:=S2) (by rw[e];exact fun z=>nomatch z)
     rw[e2] at e;cases e;exact⟨r,rfl⟩
  obtain⟨r,rfl⟩:=hb';simp only[RD] at rd;subst rd;cases rv;exact wpAny_truthy_bool ⟨S1,by rw[e];rfl,H1,ρ1,J,sr,st⟩
 all_goals (obtain⟨n,S1,e,q⟩:=z;exact⟨n,S1,by rw[e];rfl,q⟩)
theorem Xu0{Xao:List Expr}(ha:DE X a fa)(hb:DE X (.BoolOp .And (b::Xao) pos) fb):DE X (.BoolOp .And (a::b::Xao) pos)
  (fun env S=>(fa env S).bind fun x S=>match Xl S x with|some true=>fb env S|some false=>.ok x S|none=>.bad):=by
 intro pins s σ H ρ S env I nb;dsimp only at nb ⊢;cases q:fa env S with
 | bad=>rw[q] at nb;exact absurd rfl nb
 | ex n S1=>exact BoolOp_and (ha.ex I q fun x s' z=>⟨n,S1,rfl,z⟩)
 | ok x S1 =>
  rw[q] at nb;simp only[Rk0] at nb ⊢;refine BoolOp_and (ha.ok I q fun u s1 v H1 ρ1 I1 rv rd st1=>?_)
  cases t:Xl S1 x with
  | none=>rw[t] at nb;exact absurd rfl nb
  | some r =>
   rw[t] at nb;refine Xji I1 t rd rv fun s2 J2=>?_
   cases r with
   | true=>exact wpAny_mono (hb pins s2 σ H1 ρ1 S1 env ⟨J2,I1.sr,I1.er⟩ nb) (fun w s3 z=>z.pre st1) fun x s' z=>z.pre st1
   | false=>exact .mk st1 J2 rv rd I1.sr
theorem Xzu{Xao:List Expr}(ha:DE X a fa)(hb:DE X (.BoolOp .Or (b::Xao) pos) fb):DE X (.BoolOp .Or (a::b::Xao) pos)
  (fun env S=>(fa env S).bind fun x S=>match Xl S x with|some true=>.ok x S|some false=>fb env S|none=>.bad):=by
 intro pins s σ H ρ S env I nb;dsimp only at nb ⊢;cases q:fa env S with
 | bad=>rw[q] at nb;exact absurd rfl nb
 | ex n S1=>exact BoolOp_or (ha.ex I q fun x s' z=>⟨n,S1,rfl,z⟩)
 | ok x S1 =>
  rw[q] at nb;simp only[Rk0] at nb ⊢;refine BoolOp_or (ha.ok I q fun u s1 v H1 ρ1 I1 rv rd st1=>?_)
  cases t:Xl S1 x with
  | none=>rw[t] at nb;exact absurd rfl nb
  | some r =>
   rw[t] at nb;refine Xji I1 t rd rv fun s2 J2=>?_
   cases r with
   | false=>exact wpAny_mono (hb pins s2 σ H1 ρ1 S1 env ⟨J2,I1.sr,I1.er⟩ nb) (fun w s3 z=>z.pre st1) fun x s' z=>z.pre st1
   | true=>exact .mk st1 J2 rv rd I1.sr
theorem Xu1(h:DE X a f):DE X (.BoolOp op [a] pos) f:=fun pins s σ H ρ S env I nb=>BoolOp_one (h pins s σ H ρ S env I nb)
theorem X27(ha:DT X a (fun env S=>tst (fa env S)))(hv:DE X a fa):DE X (.UnaryOp .Not a pos) (fun env S=>(fa env S).bind fun x S=>match Xl S x with|some r=>.ok (.bl (!r)) S|none=>.bad):=by
 intro pins s σ H ρ S env I nb;dsimp only at nb ⊢;cases q:fa env S with
 | bad=>rw[q] at nb;exact absurd rfl nb
 | ex n S1=>exact UnaryOp_ (hv.ex I q fun x s' z=>⟨n,S1,rfl,z⟩)
 | ok x S1 =>
  rw[q] at nb;simp only[Rk0] at nb ⊢;refine UnaryOp_ (hv.ok I q fun u s1 v H1 ρ1 I1 rv rd st1=>?_)
  cases t:Xl S1 x with
  | none=>rw[t] at nb;exact absurd rfl nb
  | some r=>exact not_of (Xji I1 t rd rv fun s2 J2=>.mk (v:=.bl (!r)) st1 J2 rfl (by simp only[RD]) I1.sr)
theorem Xzv(ha:DT X a (fun env S=>tst (fa env S))):DT X (.UnaryOp .Not a pos) (fun env S=>tst ((fa env S).bind fun x S=>match Xl S x with|some r=>.ok (.bl (!r)) S|none=>.bad)):=by
 intro pins s σ H ρ S env I nb;dsimp only at nb ⊢;cases q:fa env S with
 | bad=>rw[q] at nb;exact absurd rfl nb
 | ex n S1=>exact isTrue_not (ha.ex I (by simp only[q];rfl) fun x s' z=>⟨n,S1,rfl,z⟩)
 | ok x S1 =>
  rw[q] at nb;simp only[Rk0] at nb ⊢;cases t:Xl S1 x with
  | none=>rw[t] at nb;exact absurd rfl nb
  | some r=>exact isTrue_not (ha.ok I (by simp only[q];exact Xbo t) fun s2 H2 ρ2 I2 st2=>⟨S1,rfl,H2,ρ2,I2.inv,I2.sr,st2⟩)
theorem X28(hc:DT X c (fun env S=>tst (fc env S)))(ha:DE X a fa)(hb:DE X b fb) :
  DE X (.IfExp c a b pos) (fun env S=>(fc env S).bind fun x S=>match Xl S x with|some true=>fa env S|some false=>fb env S|none=>.bad):=by
 intro pins s σ H ρ S env I nb;dsimp only at nb ⊢;cases q:fc env S with
 | bad=>rw[q] at nb;exact absurd rfl nb
 | ex n S1=>exact wpAny_IfExp (hc.ex I (by simp only[q];rfl) fun x s' z=>⟨n,S1,rfl,z⟩)
 | ok x S1 =>
  rw[q] at nb;simp only[Rk0] at nb ⊢;cases t:Xl S1 x with
  | none=>rw[t] at nb;exact absurd rfl nb
  | some r =>
   rw[t] at nb;refine wpAny_IfExp (hc.ok I (by simp only[q];exact Xbo t) fun s2 H2 ρ2 I2 st2=>?_)
   cases r with
   | true=>exact wpAny_mono (ha pins s2 σ H2 ρ2 S1 env I2 nb) (fun w s3 z=>z.pre st2) fun x s' z=>z.pre st2
   | false=>exact wpAny_mono (hb pins s2 σ H2 ρ2 S1 env I2 nb) (fun w s3 z=>z.pre st2) fun x s' z=>z.pre st2
def DW(X:Cx)(e:Expr)(f:En->Sto->R Bool):Prop :=
 ∀ (whole:Sem Value) (pins:List (Addr×Obj)) (s:Shared) (σ:L2.St) (H:Hp) (ρ:List Addr) (S:Sto) (env:En),S0 X pins σ H s ρ S env->f env S≠.bad ->
  wpAny (model X.prog X.w) X.A (isTrue e X.env whole) (fun b s'=>∃ S',f env S=.ok b S'/\∃ H' ρ',Inv X pins σ H' s'/\SR X.K ρ' S' H'/\Stp X.K ρ ρ' H H') (ExP X pins σ ρ H (f env S)) s
theorem DW.dt(h:DW X e g):DT X e g:=h _
theorem Xvw(ha:DT X a g):DW X (.BoolOp .And [a] pos) g:=by
 intro wh pins s σ H ρ S env I nb;refine isTrue_and (wpAny_mono (ha pins s σ H ρ S env I nb) (fun c s1 z=>?_) fun _ _ z=>z)
 cases c with
 | true=>exact isTrue_and_nil z
 | false=>exact z
theorem Xzw(ha:DT X a g):DW X (.BoolOp .Or [a] pos) g:=by
 intro wh pins s σ H ρ S env I nb;refine isTrue_or (wpAny_mono (ha pins s σ H ρ S env I nb) (fun c s1 z=>?_) fun _ _ z=>z)
 cases c with
 | false=>exact isTrue_or_nil z
 | true=>exact z
theorem Xpy{Xao:List Expr}(ha:DT X a (fun env S=>tst (fa env S)))(hb:DW X (.BoolOp .And (b::Xao) pos) (fun env S=>tst (fb env S))):DW X (.BoolOp .And (a::b::Xao) pos)
  (fun env S=>tst ((fa env S).bind fun x S=>match Xl S x with|some true=>fb env S|some false=>.ok x S|none=>.bad)):=by
 intro wh pins s σ H ρ S env I nb;dsimp only at nb ⊢;cases q:fa env S with
 | bad=>rw[q] at nb;exact absurd rfl nb
 | ex n S1=>exact isTrue_and (ha.ex I (by simp only[q];rfl) fun x s' z=>⟨n,S1,rfl,z⟩)
 | ok x S1 =>
  rw[q] at nb;simp only[Rk0] at nb ⊢;cases t:Xl S1 x with
  | none=>rw[t] at nb;exact absurd rfl nb
  | some r =>
   rw[t] at nb;refine isTrue_and (ha.ok I (by simp only[q];exact Xbo t) fun s2 H2 ρ2 I2 st2=>?_)
   cases r with
   | true=>exact wpAny_mono (hb wh pins s2 σ H2 ρ2 S1 env I2 nb) (fun w s3 ⟨S3,e3,H3,ρ3,J3,sr3,st3⟩=>⟨S3,e3,H3,ρ3,J3,sr3,st2.trans st3⟩) fun x s' z=>z.pre st2
   | false=>exact⟨S1,Xbo t,H2,ρ2,I2.inv,I2.sr,st2⟩
theorem Xu2{Xao:List Expr}(ha:DT X a (fun env S=>tst (fa env S)))(hb:DW X (.BoolOp .Or (b::Xao) pos) (fun env S=>tst (fb env S))):DW X (.BoolOp .Or (a::b::Xao) pos)
  (fun env S=>tst ((fa env S).bind fun x S=>match Xl S x with|some true=>.ok x S|some false=>fb env S|none=>.bad)):=by
 intro wh pins s σ H ρ S env I nb;dsimp only at nb ⊢;cases q:fa env S with
 | bad=>rw[q] at nb;exact absurd rfl nb
 | ex n S1=>exact isTrue_or (ha.ex I (by simp only[q];rfl) fun x s' z=>⟨n,S1,rfl,z⟩)
 | ok x S1 =>
  rw[q] at nb;simp only[Rk0] at nb ⊢;cases t:Xl S1 x with
  | none=>rw[t] at nb;exact absurd rfl nb
  | some r =>
   rw[t] at nb;refine isTrue_or (ha.ok I (by simp only[q];exact Xbo t) fun s2 H2 ρ2 I2 st2=>?_)
   cases r with
   | false=>exact wpAny_mono (hb wh pins s2 σ H2 ρ2 S1 env I2 nb) (fun w s3 ⟨S3,e3,H3,ρ3,J3,sr3,st3⟩=>⟨S3,e3,H3,ρ3,J3,sr3,st2.trans st3⟩) fun x s' z=>z.pre st2
   | true=>exact⟨S1,Xbo t,H2,ρ2,I2.inv,I2.sr,st2⟩
end
end Z
end
section
namespace Z
open PySem PySem.Spec PyProof.Rows L2 PySem.SeqAt
open AutoSeq1 (wpAny_loadPart')
theorem X40:fillsNumberSlot (.type "tuple") "mul" = pure false :=
 PySem.fillsNumberSlot_seq (r:=some (.builtin "tuple.__rmul__")) PySem.F.slot_tuple_mul.lookup (by decide+kernel) (by rw[typeLookup_type,builtinLookup_eq_fast];kernel_rfl) (by decide+kernel)
theorem X41:seqRepeat? (.type "tuple")=pure (some (.builtin "tuple.__mul__")):=by
 unfold seqRepeat?;rw[PySem.seqSlot_of (T := "tuple") (name := "__mul__") (id := "tuple.__mul__") PySem.F.slot_tuple_mul.lookup (by decide+kernel),PySem.seqSlot_of (T := "tuple") (name := "__rmul__") (id := "tuple.__rmul__") (by rw[typeLookup_type,builtinLookup_eq_fast];kernel_rfl) (by decide+kernel)]
 rfl
noncomputable abbrev Xnu(items:Array Value)(n:Nat)(dd:Option Addr)(sl:Array (Option Value)):Obj:={ cls:=.type "tuple",dict:=dd,data:=.seq items n,slots:=sl }
theorem Xpz(a:Int)(t:Tok)(l:Addr)(items:Array Value)(n:Nat)(dd:Option Addr)(sl:Array (Option Value)) :
  Meets (Builtin.«int.__rmul__» ⟨[.int a t,.ref l],[]⟩) (fun _ R s=>s.heap.get? l=some (Xnu items n dd sl)/\R (.ok (.ret Value.notImplemented)) s) :=
 .of_wp fun prog w A R s ⟨hl,h⟩=>by
  obtain⟨hp,g,d,tk,os⟩:=s
  wp_walk
  exact⟨_,rfl,h⟩
section
variable(l:Addr)(items:Array Value)(n:Nat)(dd:Option Addr)(sl:Array (Option Value))(k:Int)(u:Tok)
theorem X29 :
  Meets (Builtin.«tuple.__mul__» ⟨[.ref l,.int 1 u],[]⟩) (fun _ R s=>s.heap.get? l=some (Xnu items n dd sl)/\R (.ok (.ret (.ref l))) s) :=
 .of_wp fun prog w A R s ⟨hl,h⟩=>by
  obtain⟨hp,g,d,tk,os⟩:=s;have f1:=AutoSeq1.idx_int;have f2:=AutoSeq1.sub_tuple_tuple
  wp_walk using wpAny_loadPart' hl
  exact⟨_,rfl,h⟩
theorem X3a(h0:¬ (decide (k < -2^63)||decide (k ≥ 2^63))=true)(h1:¬ (items.isEmpty||k==1)=true)(h2:(decide (k<=0)||items.isEmpty)=true) :
  Meets (Builtin.«tuple.__mul__» ⟨[.ref l,.int k u],[]⟩) (fun _ R s=>s.heap.get? l=some (Xnu items n dd sl)/\R (.ok (.ret (.ref s.heap.objs.size))) { s with heap:=s.heap.push { cls:=.type "tuple",data:=.seq #[] } }) :=
 .of_wp fun prog w A R s ⟨hl,h⟩=>by
  obtain⟨hp,g,d,tk,os⟩:=s;have f1:=AutoSeq1.idx_int;have f2:=AutoSeq1.sub_tuple_tuple
  wp_walk using wpAny_loadPart' hl
  refine wpAny_ite_false (decide_eq_false h0) ?_
  wp_walk using wpAny_loadPart' hl
  exact⟨_,rfl,h⟩
theorem X3b(h0:¬ (decide (k < -2^63)||decide (k ≥ 2^63))=true)(h1:¬ (items.isEmpty||k==1)=true)(h2:¬ (decide (k<=0)||items.isEmpty)=true)(h3:¬ (items.size:Int)*k>(2^63-1)/8)
  (h4:¬ Builtin.Tuple.tupleTooMany (items.size*k)=true) (h5:(List.foldl (fun x1 x2=>x1++x2) #[] (List.replicate k.toNat items)).size<=sizeLine) :
  Meets (Builtin.«tuple.__mul__» ⟨[.ref l,.int k u],[]⟩) (fun _ R s=>s.heap.get? l=some (Xnu items n dd sl)/\R (.ok (.ret (.ref s.heap.objs.size))) { s with heap:=s.heap.push { cls:=.type "tuple",data:=.seq (List.foldl (fun x1 x2=>x1++x2) #[] (List.replicate k.toNat items)) } }) :=
 .of_wp fun prog w A R s ⟨hl,h⟩=>by
  obtain⟨hp,g,d,tk,os⟩:=s;have f1:=AutoSeq1.idx_int;have f2:=AutoSeq1.sub_tuple_tuple
  wp_walk using wpAny_loadPart' hl
  refine wpAny_ite_false (decide_eq_false h0) ?_
  wp_walk using wpAny_loadPart' hl
  refine wpAny_ite_false (decide_eq_false h3) ?_
  wp_walk using wpAny_loadPart' hl
  exact⟨_,rfl,h⟩
end
section
variable{X:Cx}{E:Value->Shared->Prop}{s:Shared}
theorem Xit(its:List Value):∀ (m:Nat) (acc:List Value),List.foldl (fun x1 x2=>x1++x2) acc.toArray (List.replicate m its.toArray)=(acc++(List.replicate m its).flatten).toArray
 | 0,acc=>by simp
 | m+1,acc=>by
  rw[List.replicate_succ,List.foldl_cons,List.append_toArray,Xit its m];simp[List.replicate_succ]
theorem Xvx(ht:IsTup s.heap t vs.toArray)(hv:vs≠[])(hk:-(1048576)<k)(hk':k<1048576)(hz:vs.length*k.toNat<=1000000)
  (h1:k=1->Q (.ref t) s) (h2:k≠1->Q (.ref s.heap.objs.size) { s with heap:=s.heap.push { cls:=.type "tuple",data:=.seq (List.replicate k.toNat vs).flatten.toArray } }) :
  wpAny (model prog w) A (binaryOp .Mult (.ref t) (.int k u)) Q E s:=by
 obtain⟨⟨cls,dd,data,sl⟩,ho,hc,n,hd⟩:=id ht;simp only at hc hd;subst hc hd;have ez:(vs.toArray.isEmpty)=false:=by cases vs with|nil=>exact absurd rfl hv|cons _ _=>rfl
 have h0:¬ (decide (k < -2^63)||decide (k ≥ 2^63))=true:=by simp;omega
 have go:∀ {S:PySem.Spec},Meets (Builtin.«tuple.__mul__» ⟨[.ref t,.int k u],[]⟩) S->S A (wants Q E) s->wpAny (model prog w) A (binaryOp .Mult (.ref t) (.int k u)) Q E s:=fun g hS =>
  wpAny_binaryOp_repeat_ref (T := "tuple") (U := "int") (by decide) ⟨_,ho,rfl⟩ (fun s'=>typeIs_int s' k u) X40 PySem.F.fills_int_mul PySem.F.slot_int_rmul X41 PySem.F.slot_int_index.lookup
   (call_meets PySem.F.slot_int_rmul (typeIs_int s k u) PySem.F.entry_int_rmul (PySem.F.args_int_rmul_2 _ _) (Xpz k u t vs.toArray n dd sl)
    ⟨ho,rfl,⟨_,ho,rfl⟩,call_meets PySem.F.slot_tuple_mul ⟨_,ho,rfl⟩ PySem.F.entry_tuple_mul (PySem.F.args_tuple_mul_2 _ _) g hS⟩)
 by_cases e1:k=1
 ·subst e1
  exact go (X29 t vs.toArray n dd sl u) ⟨ho,h1 rfl⟩
 ·have hn1:¬ (vs.toArray.isEmpty||k==1)=true:=by rw[ez];simpa using e1
  by_cases e0:k<=0
  ·refine go (X3a t vs.toArray n dd sl k u h0 hn1 (by simp[e0])) ⟨ho,?_⟩
   have:=h2 e1;have e2:k.toNat=0:=by omega
   rw[e2] at this;exact this
  ·have ef:=Xit vs k.toNat []
   rw[List.nil_append] at ef;have hl:(List.replicate k.toNat vs).flatten.length=k.toNat*vs.length:=Xhb vs k.toNat;have hz':vs.length*k.toNat<=sizeLine:=Nat.le_trans hz (by decide)
   have hzi:(vs.length:Int)*k<=1000000:=by
    have hkk:(k.toNat:Int)=k:=by omega
    rw[<- hkk,<- Int.natCast_mul];exact Int.ofNat_le.mpr hz
   refine go (X3b t vs.toArray n dd sl k u h0 hn1 (by rw[ez];simpa using e0) ?_ ?_ ?_) ⟨ho,?_⟩
   ·rw[List.size_toArray];omega
   ·rw[List.size_toArray]
    unfold Builtin.Tuple.tupleTooMany;have:(1000000:Int)<=(sizeLine:Int):=by decide
    intro hh;have hh:=of_decide_eq_true hh;omega
   ·rw[show(#[]:Array Value)=([]:List Value).toArray from rfl,ef,List.size_toArray,hl,Nat.mul_comm];exact hz'
   ·rw[show(#[]:Array Value)=([]:List Value).toArray from rfl,ef];exact h2 e1
end
end Z
end
section
namespace Z
open PySem PySem.Spec PyProof.Rows L2
section
variable{X:Cx}{pins:List (Addr×Obj)}{σ:L2.St}{H:Hp}{s:Shared}{ρ:List Addr}{S S':Sto}{env:En}{Q:Value->Shared->Prop}{E:Value->Shared->Prop}
mutual
theorem Xmd(I:S0 X pins σ H s ρ S env)(hl:∀ n p a,look n=some p->ρ[n]?=some a->∃ as,Reads s.heap (.ref a) p as/\∀ b∈as,b∈ρ) :
  ∀ (d:D) (v:V) (u:Value) (p:PyData),Xw look d=some p->RD X.K ρ H d v->RelV v u->∃ as,Reads s.heap u p as/\∀ b∈as,b∈ρ
 | .non,v,u,p,h,rd,rv=>by
  simp only[Xw,Option.some.injEq] at h;simp only[RD] at rd;subst h rd;cases rv;exact⟨_,.none,fun _ z=>nomatch z⟩
 | .bl b,v,u,p,h,rd,rv=>by
  simp only[Xw,Option.some.injEq] at h;simp only[RD] at rd;subst h rd;cases rv;exact⟨_,.bool b,fun _ z=>nomatch z⟩
 | .int i,v,u,p,h,rd,rv=>by
  simp only[Xw,Option.some.injEq] at h;simp only[RD] at rd;subst h rd;obtain⟨t,rfl⟩:=rv;exact⟨_,.int i t,fun _ z=>nomatch z⟩
 | .str i,v,u,p,h,rd,rv=>by
  simp only[Xw,Option.some.injEq] at h;simp only[RD] at rd;subst h rd;obtain⟨t,rfl⟩:=rv;exact⟨_,.str i t,fun _ z=>nomatch z⟩
 | .fro _,v,u,p,h,rd,rv=>by simp only[Xw] at h;cases h
 | .tup xs,v,u,p,h,rd,rv=>by
  simp only[Xw] at h;cases e:datFs look xs with
  | none=>rw[e] at h;cases h
  | some ps =>
   rw[e] at h;cases h;simp only[RD] at rd;obtain⟨a,vs,rfl,ht,hs⟩:=rd;cases rv;obtain⟨its,r,⟨o,ho,hc,n,hd⟩,hz⟩:=I.inv.tuple ht;obtain⟨as,q,qm⟩:=reads_Fs I hl xs vs its ps e hs r;exact⟨_,.tuple ho hc hd (by simpa using q),qm⟩
 | .ref n,v,u,p,h,rd,rv=>by
  simp only[Xw] at h;simp only[RD] at rd;obtain⟨a,rfl,ha⟩:=rd;cases rv;exact hl n p a h ha
theorem reads_Fs(I:S0 X pins σ H s ρ S env)(hl:∀ n p a,look n=some p->ρ[n]?=some a->∃ as,Reads s.heap (.ref a) p as/\∀ b∈as,b∈ρ) :
  ∀ (ds:List D) (vs:List V) (us:List Value) (ps:List PyData),datFs look ds=some ps->RDs X.K ρ H ds vs->Vals vs us->∃ as,ReadsAll s.heap us ps as/\∀ b∈as,b∈ρ
 | [],vs,us,ps,h,rd,rv=>by
  simp only[datFs,Option.some.injEq] at h;simp only[RDs] at rd;subst h rd;cases rv;exact⟨_,.nil,fun _ z=>nomatch z⟩
 | d::ds,vs,us,ps,h,rd,rv=>by
  simp only[datFs] at h;simp only[RDs] at rd;obtain⟨v,r,rfl,h1,h2⟩:=rd;cases e1:Xw look d with
  | none=>rw[e1] at h;cases h
  | some p =>
   cases e2:datFs look ds with
   | none=>rw[e1,e2] at h;cases h
   | some ps' =>
    rw[e1,e2] at h;cases h;cases rv with
    | cons ru rus =>
     obtain⟨as,q,qm⟩:=Xmd I hl d v _ p e1 h1 ru;obtain⟨bs,q2,qm2⟩:=reads_Fs I hl ds r _ ps' e2 h2 rus;exact⟨_,.cons q q2,fun b hb=>(List.mem_append.mp hb).elim (qm b) (qm2 b)⟩
end
theorem Xme(I:S0 X pins σ H s ρ S env):∀ (k n:Nat) (p:PyData) (a:Addr),Ye S k n=some p->ρ[n]?=some a->∃ as,Reads s.heap (.ref a) p as/\∀ b∈as,b∈ρ
 | 0,n,p,a,h,ha=>by simp only[Ye] at h;cases h
 | k+1,n,p,a,h,ha=>by
  simp only[Ye] at h;cases e:S[n]? with
  | none=>rw[e] at h;cases h
  | some o =>
   rw[e] at h;have q:=I.sr.ob n a o ha e;cases o with
   | lst xs =>
    dsimp only at h;cases e2:datFs (Ye S k) xs with
    | none=>rw[e2] at h;cases h
    | some ps =>
     rw[e2] at h;cases h;obtain⟨vs,hv,hr⟩:=q;obtain⟨_,its,n',r,ho⟩:=I.inv.hok a _ hv;obtain⟨as,z,zm⟩:=reads_Fs I (Xme I k) xs vs its ps e2 hr r;exact⟨_,.list ho rfl rfl (by simpa using z),fun b hb=>(List.mem_cons.mp hb).elim (fun q=>q▸List.mem_of_getElem? ha) (zm b)⟩
   | dct kvs =>
    obtain⟨rfl,hv⟩:=q;cases h;obtain⟨_,_,vs,r,ob,es,ep,ho,hx,hd,hh⟩:=I.inv.hok a _ hv;cases r;have hes:es.toList=[]:=by
     have z:=hh.2.1;cases q:es.toList with
     | nil=>rfl
     | cons x r=>rw[q] at z;cases z
    refine⟨_,.dict (kvs:=[]) (as:=[]) (bs:=[]) ho hx.1 hd ?_ ?_,fun b hb=>(List.mem_cons.mp hb).elim (fun q=>q▸List.mem_of_getElem? ha) (fun z=>nomatch z)⟩
    ·rw[hes];exact .nil
    ·rw[hes];exact .nil
   | set _=>cases h
   | exc _=>cases h
theorem Xj1(I:S0 X pins σ H s ρ S env)(h:Ys S d=some p)(rd:RD X.K ρ H d v)(rv:RelV v u):∃ as,Reads s.heap u p as/\∀ b∈as,b∈ρ :=
 Xmd I (Xme I 4) d v u p h rd rv
theorem Xas(I:S0 X pins σ H s ρ S env)(h:Ys S d=some p)(rd:RD X.K ρ H d v)(rv:RelV v u):∃ as,Reads s.heap u p as :=
 let ⟨as,r,_⟩:=Xj1 I h rd rv
 ⟨as,r⟩
theorem Xp0(I:S0 X pins σ H s ρ S env)(hsm:∃ o,X.K.lookup sysModules=some o)(h:Ys S d=some p)(rd:RD X.K ρ H d v)(rv:RelV v u):∃ as,Reads s.heap u p as/\sysModules ∉ as:=by
 obtain⟨as,r,hm⟩:=Xj1 I h rd rv;refine⟨as,r,fun hb=>?_⟩
 obtain⟨o,ho⟩:=hsm;obtain⟨w,hw,_⟩:=I.sr.mem (hm _ hb);have:=(I.inv.bs _ _ (I.inv.mod.kin _ _ ho)).2;rw[hw] at this;cases this
theorem Xj(sr:SR X.K ρ S H)(J:Inv X pins σ H s'):OkP X pins σ ρ H (.ok (.bl r) S) (.bool r) s':=.mk (v:=.bl r) .refl J rfl (by simp only[RD]) sr
theorem Y5(sr:SR X.K ρ S H)(J:Inv X pins σ H s'):OkP X pins σ ρ H (.ok (.int i) S) (.int i t) s':=.mk (v:=.int i) .refl J ⟨t,rfl⟩ (by simp only[RD]) sr
theorem Xep(sr:SR X.K ρ S H)(J:Inv X pins σ H s'):OkP X pins σ ρ H (.ok (.str x) S) (.str x t) s':=.mk (v:=.str x) .refl J ⟨t,rfl⟩ (by simp only[RD]) sr
theorem Xsa(h:(a&&b&&c)=true):a=true/\b=true/\c=true:=by
 rw[bA0,bA0] at h;exact⟨h.1.1,h.1.2,h.2⟩
theorem Xiu(h:Xb8 x y=some r):∃ a b,x=.str a/\y=.str b/\r=(a.cps.toList==b.cps.toList):=by
 cases x with
 | str a=>cases y with
  | str b=>exact⟨a,b,rfl,rfl,(Option.some.inj h).symm⟩
  | _=>cases h
 | _=>cases h
theorem Xp1(h:Xdt S x y=some r):∃ a b xs ys,x=.ref a/\y=.ref b/\Xb S a=some xs/\Xb S b=some ys/\xs.length≠ys.length/\r=false:=by
 cases x with
 | ref a=>cases y with
  | ref b =>
   simp only[Xdt] at h;cases e1:Xb S a with
   | none=>rw[e1] at h;cases h
   | some xs =>
    cases e2:Xb S b with
    | none=>rw[e1,e2] at h;cases h
    | some ys =>
     rw[e1,e2] at h;dsimp only at h;split at h
     ·cases h
     ·cases h;exact⟨a,b,xs,ys,rfl,rfl,e1,e2,by assumption,rfl⟩
  | _=>cases h
 | _=>cases h
theorem Xj2(h0:eqD S x y=some r)(hn:Xb8 x y=none):(∃ p q,Ys S x=some p/\Ys S y=some q/\p.canLay0=true/\q.canLay0=true/\p.depth<=60/\r=PyData.eqv p q)\/Xdt S x y=some r:=by
 have h:=h0;unfold eqD at h;rw[hn] at h;dsimp only at h;cases e1:Ys S x with
 | none=>rw[e1] at h;exact .inr h
 | some p =>
  cases e2:Ys S y with
  | none=>rw[e1,e2] at h;exact .inr h
  | some q =>
   rw[e1,e2] at h;dsimp only at h;split at h
   ·rename_i hc
    obtain⟨h1,h2,h3⟩:=Xsa hc;exact .inl ⟨p,q,rfl,rfl,h1,h2,of_decide_eq_true h3,(Option.some.inj h).symm⟩
   ·exact .inr h
theorem S0.lstM(I:S0 X pins σ H s ρ S env)(h:lstM S n=some xs):∃ a vs,ρ[n]?=some a/\H a=some (.lst vs)/\RDs X.K ρ H xs vs:=I.list h
theorem S0.lstR(I:S0 X pins σ H s ρ S env)(h:Z.lstM S n=some xs)(r:RD X.K ρ H (.ref n) v):∃ a vs,v=.ref a/\ρ[n]?=some a/\H a=some (.lst vs)/\RDs X.K ρ H xs vs:=by
 simp only[RD] at r;obtain⟨a,e,h1⟩:=r;obtain⟨a',vs,h2,h3,h4⟩:=I.lstM h;rw[h1] at h2;cases h2;exact⟨a,vs,e,h1,h3,h4⟩
theorem Xj3(I:S0 X pins σ H s ρ S env)(h:Xdt S x y=some r)(rx:RD X.K ρ H x v)(rv:RelV v u)(ry:RD X.K ρ H y v')(ru:RelV v' u') :
  r=false/\∃ a b its its',u=.ref a/\u'=.ref b/\s.heap.IsList a its/\s.heap.IsList b its'/\(its.size != its'.size)=true:=by
 obtain⟨n,m,xs,ys,rfl,rfl,h1,h2,hne,rfl⟩:=Xp1 h;obtain⟨a,vs,rfl,ha,hva,ra⟩:=I.lstR h1 rx;obtain⟨b,us,rfl,hb,hvb,rb⟩:=I.lstR h2 ry;cases rv;cases ru;obtain⟨_,i1,n1,q1,o1⟩:=I.inv.hok a _ hva;obtain⟨_,i2,n2,q2,o2⟩:=I.inv.hok b _ hvb;refine⟨rfl,a,b,i1.toArray,i2.toArray,rfl,rfl,⟨_,o1,rfl,_,rfl⟩,⟨_,o2,rfl,_,rfl⟩,?_⟩;have e1:i1.length=xs.length:=by rw[ra.length];exact q1.length.symm
 have e2:i2.length=ys.length:=by rw[rb.length];exact q2.length.symm
 simp only[List.size_toArray,bne_iff_ne,ne_eq];omega
theorem X42(hu:X.A.units+200<cLine):Op2 X (compareOp .Eq) (Xo .eq):=by
 intro pins s σ H ρ S env x y v u v' u' E I nb rx rv ry ru;obtain⟨r,e,e2⟩:=Xce nb;rw[e2];cases hn:Xb8 x y with
 | some r' =>
  obtain⟨a,b,rfl,rfl,hr⟩:=Xiu hn;have er:r=r':=by
   have e':eqD S (.str a) (.str b)=some r:=e;unfold eqD at e';rw[hn] at e';exact(Option.some.inj e').symm
  subst er hr;simp only[RD] at rx ry;subst rx ry;obtain⟨t,rfl⟩:=rv;obtain⟨t',rfl⟩:=ru;exact PySem.P.eq_str (Xj I.sr I.inv)
 | none =>
 rcases Xj2 e hn with⟨p,q,h1,h2,h3,h4,h5,rfl⟩|hl
 rotate_left
 ·obtain⟨rfl,a,b,i1,i2,rfl,rfl,l1,l2,l3⟩:=Xj3 I hl rx rv ry ru
  exact SeqAt.RcAt.lists_lengths l1 l2 l3 (by omega) X.prog X.w E _ (Xj I.sr I.inv)
 obtain⟨as,ra⟩:=Xas I h1 rx rv;obtain⟨bs,rb⟩:=Xas I h2 ry ru;exact SeqAt.rcAt_reads ra rb h3 h4 (by omega) X.prog X.w E _ (Xj I.sr I.inv)
theorem X43(hu:X.A.units+200<cLine):Op2 X (compareOp .NotEq) (Xo .ne):=by
 intro pins s σ H ρ S env x y v u v' u' E I nb rx rv ry ru;obtain⟨r,e,e2⟩:=Xce nb;rw[e2];simp only[Yg,Option.map_eq_some_iff] at e;obtain⟨r',e,rfl⟩:=e;cases hn:Xb8 x y with
 | some r2 =>
  obtain⟨a,b,rfl,rfl,hr⟩:=Xiu hn;have er:r'=r2:=by
   have e':eqD S (.str a) (.str b)=some r':=e;unfold eqD at e';rw[hn] at e';exact(Option.some.inj e').symm
  subst er hr;simp only[RD] at rx ry;subst rx ry;obtain⟨t,rfl⟩:=rv;obtain⟨t',rfl⟩:=ru;exact PySem.P.ne_str (Xj I.sr I.inv)
 | none =>
 rcases Xj2 e hn with⟨p,q,h1,h2,h3,h4,h5,rfl⟩|hl
 rotate_left
 ·obtain⟨rfl,a,b,i1,i2,rfl,rfl,l1,l2,l3⟩:=Xj3 I hl rx rv ry ru
  exact SeqAt.RcNeAt.lists_lengths l1 l2 l3 (by omega) X.prog X.w E _ (Xj I.sr I.inv)
 obtain⟨as,ra⟩:=Xas I h1 rx rv;obtain⟨bs,rb⟩:=Xas I h2 ry ru;exact SeqAt.rcNeAt_reads ra rb h3 h4 (by omega) X.prog X.w E _ (Xj I.sr I.inv)
theorem Xj4(h:inD S x y=some r):∃ p qs,Ys S x=some p/\(Ys S y=some (.list qs)\/Ys S y=some (.tuple qs))/\p.canLay0=true/\PyData.canLayAll0 qs=true/\p.depth<=60/\r=qs.any fun q=>PyData.eqv q p:=by
 unfold inD at h;cases e1:Ys S x with
 | none=>rw[e1] at h;cases h
 | some p =>
  cases e2:Ys S y with
  | none=>rw[e1,e2] at h;cases h
  | some q =>
   rw[e1,e2] at h;cases q with
   | list qs =>
    dsimp only at h;split at h
    ·rename_i hc
     obtain⟨h1,h2,h3⟩:=Xsa hc;exact⟨p,qs,rfl,.inl rfl,h1,h2,of_decide_eq_true h3,(Option.some.inj h).symm⟩
    ·cases h
   | tuple qs =>
    dsimp only at h;split at h
    ·rename_i hc
     obtain⟨h1,h2,h3⟩:=Xsa hc;exact⟨p,qs,rfl,.inr rfl,h1,h2,of_decide_eq_true h3,(Option.some.inj h).symm⟩
    ·cases h
   | none=>cases h
   | bool _=>cases h
   | int _=>cases h
   | str _=>cases h
   | dict _=>cases h
theorem X44(hu:X.A.units+200<cLine):Op2 X (compareOp .In) (Xo .isin):=by
 intro pins s σ H ρ S env x y v u v' u' E I nb rx rv ry ru;obtain⟨r,e,e2⟩:=Xce nb;rw[e2];obtain⟨p,qs,h1,h2,h3,h4,h5,rfl⟩:=Xj4 e;obtain⟨as,ra⟩:=Xas I h1 rx rv;rcases h2 with h2|h2
 ·obtain⟨bs,rb⟩:=Xas I h2 ry ru
  exact SeqAt.in_list_reads rb ra h4 h3 (by omega) (Xj I.sr I.inv)
 ·obtain⟨bs,rb⟩:=Xas I h2 ry ru
  exact SeqAt.in_tuple_reads rb ra h4 h3 (by omega) (Xj I.sr I.inv)
theorem Xvy(hu:X.A.units+200<cLine):Op2 X (compareOp .NotIn) (Xo .notin):=by
 intro pins s σ H ρ S env x y v u v' u' E I nb rx rv ry ru;obtain⟨r,e,e2⟩:=Xce nb;rw[e2];simp only[Yg,Option.map_eq_some_iff] at e;obtain⟨r',e,rfl⟩:=e;obtain⟨p,qs,h1,h2,h3,h4,h5,rfl⟩:=Xj4 e;obtain⟨as,ra⟩:=Xas I h1 rx rv;rcases h2 with h2|h2
 ·obtain⟨bs,rb⟩:=Xas I h2 ry ru
  exact SeqAt.notIn_list_reads rb ra h4 h3 (by omega) (Xj I.sr I.inv)
 ·obtain⟨bs,rb⟩:=Xas I h2 ry ru
  exact SeqAt.notIn_tuple_reads rb ra h4 h3 (by omega) (Xj I.sr I.inv)
theorem X45:Op2 X (compareOp .LtE) (Xo .le):=by
 intro pins s σ H ρ S env x y v u v' u' E I nb rx rv ry ru;cases x with
 | int i=>cases y with
  | int j =>
   simp only[RD] at rx ry;subst rx ry;obtain⟨t,rfl⟩:=rv;obtain⟨t',rfl⟩:=ru;exact le_int (Xj I.sr I.inv)
  | _=>exact absurd rfl nb
 | _=>cases y<;>exact absurd rfl nb
theorem X46:Op2 X (compareOp .Gt) (Xo .gt):=by
 intro pins s σ H ρ S env x y v u v' u' E I nb rx rv ry ru;cases x with
 | int i=>cases y with
  | int j =>
   simp only[RD] at rx ry;subst rx ry;obtain⟨t,rfl⟩:=rv;obtain⟨t',rfl⟩:=ru;exact gt_int (Xj I.sr I.inv)
  | _=>exact absurd rfl nb
 | _=>cases y<;>exact absurd rfl nb
theorem X47:Op2 X (compareOp .GtE) (Xo .ge):=by
 intro pins s σ H ρ S env x y v u v' u' E I nb rx rv ry ru;cases x with
 | int i=>cases y with
  | int j =>
   simp only[RD] at rx ry;subst rx ry;obtain⟨t,rfl⟩:=rv;obtain⟨t',rfl⟩:=ru;exact ge_int (Xj I.sr I.inv)
  | _=>exact absurd rfl nb
 | _=>cases y<;>exact absurd rfl nb
theorem Xaz:∀ {xs:List D} {ns:List Int},Xu xs=some ns->xs=ns.map D.int
 | [],ns,h=>by simp only[Xu,Option.some.injEq] at h;subst h;rfl
 | .int i::r,ns,h=>by
  simp only[Xu,Option.map_eq_some_iff] at h;obtain⟨ms,h1,rfl⟩:=h;rw[Xaz h1];rfl
 | .non::_,_,h=>by simp[Xu] at h
 | .bl _::_,_,h=>by simp[Xu] at h
 | .str _::_,_,h=>by simp[Xu] at h
 | .tup _::_,_,h=>by simp[Xu] at h
 | .ref _::_,_,h=>by simp[Xu] at h
 | .fro _::_,_,h=>by simp[Xu] at h
theorem X48(hu:X.A.units+200<cLine):Op2 X (compareOp .Lt) (Xo .lt):=by
 intro pins s σ H ρ S env x y v u v' u' E I nb rx rv ry ru;cases x with
 | int i=>cases y with
  | int j =>
   simp only[RD] at rx ry;subst rx ry;obtain⟨t,rfl⟩:=rv;obtain⟨t',rfl⟩:=ru;exact lt_int (Xj I.sr I.inv)
  | _=>exact absurd rfl nb
 | _=>cases y<;>exact absurd rfl nb
theorem X49:Op2 X (compareOp .Is) (Xo .is):=by
 intro pins s σ H ρ S env x y v u v' u' E I nb rx rv ry ru;cases y with
 | non =>
  simp only[RD] at ry;subst ry;cases ru;cases x with
  | non=>simp only[RD] at rx;subst rx;cases rv;exact wpAny_is_plain rfl (Xj I.sr I.inv)
  | bl b=>simp only[RD] at rx;subst rx;cases rv;exact wpAny_is_plain rfl (Xj I.sr I.inv)
  | int b=>simp only[RD] at rx;subst rx;obtain⟨t,rfl⟩:=rv;exact wpAny_is_plain rfl (Xj I.sr I.inv)
  | str b=>simp only[RD] at rx;subst rx;obtain⟨t,rfl⟩:=rv;exact wpAny_is_plain rfl (Xj I.sr I.inv)
  | tup b=>simp only[RD] at rx;obtain⟨a,_,rfl,_⟩:=rx;cases rv;exact wpAny_is_plain rfl (Xj I.sr I.inv)
  | fro b=>simp only[RD] at rx;obtain⟨a,_,rfl,_⟩:=rx;cases rv;exact wpAny_is_plain rfl (Xj I.sr I.inv)
  | ref b=>simp only[RD] at rx;obtain⟨a,rfl,_⟩:=rx;cases rv;exact wpAny_is_plain rfl (Xj I.sr I.inv)
  | fn _ _=>simp only[RD] at rx;obtain⟨a,rfl,_⟩:=rx;cases rv;exact wpAny_is_plain rfl (Xj I.sr I.inv)
 | bl c =>
  simp only[RD] at ry;subst ry;cases ru;cases x with
  | non=>simp only[RD] at rx;subst rx;cases rv;exact wpAny_is_plain rfl (Xj I.sr I.inv)
  | bl b =>
   simp only[RD] at rx;subst rx;cases rv;refine is_bool ?_;have e:(b==c)=(c==b):=by cases b<;>cases c<;>rfl
   rw[e];exact Xj I.sr I.inv
  | int b=>simp only[RD] at rx;subst rx;obtain⟨t,rfl⟩:=rv;exact wpAny_is_plain rfl (Xj I.sr I.inv)
  | str b=>simp only[RD] at rx;subst rx;obtain⟨t,rfl⟩:=rv;exact wpAny_is_plain rfl (Xj I.sr I.inv)
  | tup b=>simp only[RD] at rx;obtain⟨a,_,rfl,_⟩:=rx;cases rv;exact wpAny_is_plain rfl (Xj I.sr I.inv)
  | fro b=>simp only[RD] at rx;obtain⟨a,_,rfl,_⟩:=rx;cases rv;exact wpAny_is_plain rfl (Xj I.sr I.inv)
  | ref b=>simp only[RD] at rx;obtain⟨a,rfl,_⟩:=rx;cases rv;exact wpAny_is_plain rfl (Xj I.sr I.inv)
  | fn _ _=>simp only[RD] at rx;obtain⟨a,rfl,_⟩:=rx;cases rv;exact wpAny_is_plain rfl (Xj I.sr I.inv)
 | _=>cases x<;>exact absurd rfl nb
theorem Xvz:Op2 X (compareOp .IsNot) (Xo .isnot):=by
 intro pins s σ H ρ S env x y v u v' u' E I nb rx rv ry ru;cases y with
 | non =>
  simp only[RD] at ry;subst ry;cases ru;cases x with
  | non=>simp only[RD] at rx;subst rx;cases rv;exact wpAny_isNot_plain rfl (Xj I.sr I.inv)
  | bl b=>simp only[RD] at rx;subst rx;cases rv;exact wpAny_isNot_plain rfl (Xj I.sr I.inv)
  | int b=>simp only[RD] at rx;subst rx;obtain⟨t,rfl⟩:=rv;exact wpAny_isNot_plain rfl (Xj I.sr I.inv)
  | str b=>simp only[RD] at rx;subst rx;obtain⟨t,rfl⟩:=rv;exact wpAny_isNot_plain rfl (Xj I.sr I.inv)
  | tup b=>simp only[RD] at rx;obtain⟨a,_,rfl,_⟩:=rx;cases rv;exact wpAny_isNot_plain rfl (Xj I.sr I.inv)
  | fro b=>simp only[RD] at rx;obtain⟨a,_,rfl,_⟩:=rx;cases rv;exact wpAny_isNot_plain rfl (Xj I.sr I.inv)
  | ref b=>simp only[RD] at rx;obtain⟨a,rfl,_⟩:=rx;cases rv;exact wpAny_isNot_plain rfl (Xj I.sr I.inv)
  | fn _ _=>simp only[RD] at rx;obtain⟨a,rfl,_⟩:=rx;cases rv;exact wpAny_isNot_plain rfl (Xj I.sr I.inv)
 | bl c =>
  simp only[RD] at ry;subst ry;cases ru;cases x with
  | non=>simp only[RD] at rx;subst rx;cases rv;exact wpAny_isNot_plain rfl (Xj I.sr I.inv)
  | bl b =>
   simp only[RD] at rx;subst rx;cases rv;refine isnot_bool ?_;have e:(b != c)=(c != b):=by cases b<;>cases c<;>rfl
   rw[e];exact Xj I.sr I.inv
  | int b=>simp only[RD] at rx;subst rx;obtain⟨t,rfl⟩:=rv;exact wpAny_isNot_plain rfl (Xj I.sr I.inv)
  | str b=>simp only[RD] at rx;subst rx;obtain⟨t,rfl⟩:=rv;exact wpAny_isNot_plain rfl (Xj I.sr I.inv)
  | tup b=>simp only[RD] at rx;obtain⟨a,_,rfl,_⟩:=rx;cases rv;exact wpAny_isNot_plain rfl (Xj I.sr I.inv)
  | fro b=>simp only[RD] at rx;obtain⟨a,_,rfl,_⟩:=rx;cases rv;exact wpAny_isNot_plain rfl (Xj I.sr I.inv)
  | ref b=>simp only[RD] at rx;obtain⟨a,rfl,_⟩:=rx;cases rv;exact wpAny_isNot_plain rfl (Xj I.sr I.inv)
  | fn _ _=>simp only[RD] at rx;obtain⟨a,rfl,_⟩:=rx;cases rv;exact wpAny_isNot_plain rfl (Xj I.sr I.inv)
 | _=>cases x<;>exact absurd rfl nb
theorem Xeq(hu:X.A.units+200<cLine):∀ op:Co,Op2 X (compareOp (opC op)) (Xo op)
 | .eq=>X42 hu | .ne=>X43 hu | .lt=>X48 hu | .le=>X45 | .gt=>X46 | .ge=>X47 | .isin=>X44 hu | .notin=>Xvy hu | .is=>X49 | .isnot=>Xvz
theorem Xsb{ws:List Value}(ht:IsTup s.heap t #[])(hb:IsTup s.heap b ws.toArray)(h:Q (.ref b) s):wpAny (model prog w) A (binaryOp .Add (.ref t) (.ref b)) Q E s:=by
 obtain⟨⟨cls,dd,data,sl⟩,ho,hc,n,hd⟩:=id ht;obtain⟨⟨cls2,dd2,data2,sl2⟩,ho2,hc2,n2,hd2⟩:=id hb;simp only at hc hd hc2 hd2;subst hc hd hc2 hd2;exact concat_meets ⟨_,ho,rfl⟩ ⟨_,ho2,rfl⟩ noFill_tuple_add seq_tuple_add PySem.F.slot_tuple_add PySem.F.entry_tuple_add (PySem.F.args_tuple_add_2 _ _)
   (tuple_addW0 t b #[] ws.toArray n n2 dd dd2 sl sl2 rfl) ⟨ho,ho2,h⟩
theorem X3c:Op2 X (binaryOp .Add) (Xm .add):=by
 intro pins s σ H ρ S env x y v u v' u' E I nb rx rv ry ru;cases x with
 | int i=>cases y with
  | int j =>
   simp only[RD] at rx ry;subst rx ry;obtain⟨t,rfl⟩:=rv;obtain⟨t',rfl⟩:=ru;exact add_int (Y5 I.sr (I.inv.tok _))
  | _=>exact absurd rfl nb
 | str i=>cases y with
  | str j =>
   simp only[RD] at rx ry;subst rx ry;simp only[Xm] at nb ⊢;split at nb
   ·rename_i hz
    rw[if_pos hz];exact opd (Q':=fun z H'=>z=.str (i++j)/\H'=H) Xno I.inv rv ru ⟨i,j,rfl,rfl,Y0 hz,rfl,rfl⟩ fun w s' z H' J rz ⟨z1,z2⟩=>by
     subst z1 z2;obtain⟨t,rfl⟩:=rz;exact Xep I.sr J
   ·exact absurd rfl nb
  | _=>exact absurd rfl nb
 | tup xs=>cases y with
  | tup ys =>
   simp only[Xm] at nb ⊢;split at nb
   ·rename_i hz
    rw[if_pos hz];have rx':=rx;have ry':=ry;simp only[RD] at rx ry;obtain⟨a,vs,rfl,s1,r1⟩:=rx;obtain⟨b,us,rfl,s2,r2⟩:=ry;cases rv;cases ru;obtain⟨i1,q1,p1,z1⟩:=I.inv.tuple s1;obtain⟨i2,q2,p2,z2⟩:=I.inv.tuple s2;have hl1:=r1.length;have hl2:=r2.length;have hk1:=q1.length;have hk2:=q2.length
    by_cases hx:xs=[]
    ·subst hx
     have:vs=[]:=by simpa [RDs] using r1
     subst this;cases q1;refine Xsb p1 p2 ?_;exact .mk (v:=.ref b) .refl I.inv rfl ry' I.sr
    ·refine HT.cat_tup p1 p2 (fun z=>hx ?_) (fun z=>?_) (fun z=>?_) ?_
     ·subst z;simp at hk1;rw[hk1] at hl1;simpa using hl1
     ·have:ys=[]:=by subst z;simp at hk2;rw[hk2] at hl2;simpa using hl2
      subst this;rw[List.append_nil];exact .mk (v:=.ref a) .refl I.inv rfl rx' I.sr
     ·refine Xcd (I.inv.laid (t':=s.toks) (o:=.tup (vs++us)) (fun b ob q=>Heap.get?_push_of_some _ q) (Nat.le_refl _) ?_) (I.inv.hok.fresh (Nat.le_refl _)) I.sr (r1.append r2)
      exact⟨by rw[List.length_append,<- hl1,<- hl2];exact Y0 hz,_,q1.append q2,IsTup.new _ _⟩
     ·rw[<- hk1,<- hk2,<- hl1,<- hl2];exact Y0 hz
   ·exact absurd rfl nb
  | _=>exact absurd rfl nb
 | ref n=>cases y with
  | ref m =>
   simp only[Xm] at nb ⊢;cases h1:Z.lstM S n with
   | none=>rw[h1] at nb;exact absurd rfl nb
   | some xs =>
    cases h2:Z.lstM S m with
    | none=>rw[h1,h2] at nb;exact absurd rfl nb
    | some ys =>
     rw[h1,h2] at nb;dsimp only at nb ⊢;split at nb
     ·rename_i hz
      rw[if_pos hz];obtain⟨a,vs,rfl,ha,hva,ra⟩:=I.lstR h1 rx;obtain⟨b,us,rfl,hb,hvb,rb⟩:=I.lstR h2 ry;exact opd (Q':=fun z H'=>∃ p,H p=none/\z=.ref p/\H'=upd H p (.lst (vs++us))) Xzo I.inv rv ru ⟨a,b,vs,us,rfl,rfl,hva,hvb,by rw[<- ra.length,<- rb.length];exact Y0 hz,fun p hp=>⟨p,hp,rfl,rfl⟩⟩
       fun w s' z H' J rz ⟨p,hp,z1,z2⟩=>by subst z1 z2;cases rz;exact Xbe J hp I.sr (ra.append rb)
     ·exact absurd rfl nb
  | _=>exact absurd rfl nb
 | _=>cases y<;>exact absurd rfl nb
theorem X3d:Op2 X (binaryOp .Sub) (Xm .sub):=by
 intro pins s σ H ρ S env x y v u v' u' E I nb rx rv ry ru;cases x with
 | int i=>cases y with
  | int j =>
   simp only[RD] at rx ry;subst rx ry;obtain⟨t,rfl⟩:=rv;obtain⟨t',rfl⟩:=ru;exact sub_int (Y5 I.sr (I.inv.tok _))
  | _=>exact absurd rfl nb
 | _=>cases y<;>exact absurd rfl nb
theorem Xmf(h:i.natAbs.log2<100000):Builtin.Int.intBits i<=2^20:=by
 unfold Builtin.Int.intBits;split
 ·exact Nat.zero_le _
 ·omega
theorem Xj5(h:Yl i j=true):IntMulOk i j:=by
 simp only[Yl,Bool.or_eq_true,bA0,decide_eq_true_eq] at h;rcases h with h|h
 ·have:CMul i j:=h
  exact this.ok
 ·exact IntMulOk.of_bits (Xmf h.1) (Xmf h.2)
theorem X3e:Op2 X (binaryOp .Mult) (Xm .mul):=by
 intro pins s σ H ρ S env x y v u v' u' E I nb rx rv ry ru;cases x with
 | int i=>cases y with
  | int j =>
   simp only[RD] at rx ry;subst rx ry;obtain⟨t,rfl⟩:=rv;obtain⟨t',rfl⟩:=ru;simp only[Xm] at nb ⊢;split at nb
   ·rename_i hz
    rw[if_pos hz];exact mul_int (Y5 I.sr (I.inv.tok _)) (Xj5 hz)
   ·exact absurd rfl nb
  | _=>exact absurd rfl nb
 | tup xs=>cases y with
  | int k =>
   simp only[Xm] at nb ⊢;split at nb
   ·rename_i hz
    rw[if_pos hz];have rx':=rx;simp only[RD] at rx ry;subst ry;obtain⟨a,vs,rfl,s1,r1⟩:=rx;cases rv;obtain⟨t',rfl⟩:=ru;obtain⟨i1,q1,p1,z1⟩:=I.inv.tuple s1;have hl1:=r1.length;have hk1:=q1.length;have hne:i1≠[]:=fun z=>by
     subst z;have:xs=[]:=List.eq_nil_of_length_eq_zero (by rw[hl1,hk1];rfl)
     subst this;exact absurd hz.2.2.2 (by simp)
    refine Xvx p1 hne hz.2.2.1 hz.1 (by rw[<- hk1,<- hl1];exact hz.2.1) (fun e=>?_) (fun e=>?_)
    ·subst e
     have e1:(List.replicate (1:Int).toNat xs).flatten=xs:=by simp
     rw[e1];exact .mk (v:=.ref a) .refl I.inv rfl rx' I.sr
    ·have hr:∀ m:Nat,RDs X.K ρ H (List.replicate m xs).flatten (List.replicate m vs).flatten:=fun m=>by
      induction m with
      | zero=>simpa using RDs.nil
      | succ m ih=>rw[List.replicate_succ,List.replicate_succ,List.flatten_cons,List.flatten_cons];exact r1.append ih
     refine Xcd (I.inv.laid (t':=s.toks) (o:=.tup (List.replicate k.toNat vs).flatten) (fun b ob q=>Heap.get?_push_of_some _ q) (Nat.le_refl _) ?_) (I.inv.hok.fresh (Nat.le_refl _)) I.sr (hr _)
     exact⟨by rw[Xhb,<- hl1,Nat.mul_comm];exact Y0 hz.2.1,_,q1.rep _,IsTup.new _ _⟩
   ·exact absurd rfl nb
  | _=>exact absurd rfl nb
 | ref n=>cases y with
  | int k =>
   simp only[Xm] at nb ⊢;cases h1:Z.lstM S n with
   | none=>rw[h1] at nb;exact absurd rfl nb
   | some xs =>
    rw[h1] at nb;dsimp only at nb ⊢;split at nb
    ·rename_i hz
     rw[if_pos hz];obtain⟨a,vs,rfl,ha,hva,ra⟩:=I.lstR h1 rx;simp only[RD] at ry;subst ry;have hr:RDs X.K ρ H (List.replicate k.toNat xs).flatten (List.replicate k.toNat vs).flatten:=by
      induction k.toNat with
      | zero=>simpa using RDs.nil
      | succ m ih=>rw[List.replicate_succ,List.replicate_succ,List.flatten_cons,List.flatten_cons];exact ra.append ih
     exact opd (Q':=fun z H'=>∃ p,H p=none/\z=.ref p/\H'=upd H p (.lst (List.replicate k.toNat vs).flatten)) Xzp I.inv rv ru
      ⟨a,k,vs,rfl,rfl,hva,by omega,by omega,by rw[<- ra.length];exact Y0 hz.2.1,fun p hp=>⟨p,hp,rfl,rfl⟩⟩
      fun w s' z H' J rz ⟨p,hp,z1,z2⟩=>by subst z1 z2;cases rz;exact Xbe J hp I.sr hr
    ·exact absurd rfl nb
  | _=>exact absurd rfl nb
 | _=>cases y<;>exact absurd rfl nb
theorem Xzx:Op2 X (binaryOp .FloorDiv) (Xm .fdiv):=by
 intro pins s σ H ρ S env x y v u v' u' E I nb rx rv ry ru;cases x with
 | int i=>cases y with
  | int j =>
   simp only[RD] at rx ry;subst rx ry;obtain⟨t,rfl⟩:=rv;obtain⟨t',rfl⟩:=ru;simp only[Xm] at nb ⊢;split at nb
   ·rename_i hz
    rw[if_pos hz];simp only[Xae,bA0,decide_eq_true_eq] at hz;have hj:(0:Int)<j:=hz.1;exact floordiv_int (by omega) (by rw[Int.fdiv_eq_ediv_of_nonneg i (by omega)];exact Y5 I.sr (I.inv.tok _)) (.inl (PyProof.noPylong_of_log2 hz.2))
   ·exact absurd rfl nb
  | _=>exact absurd rfl nb
 | _=>cases y<;>exact absurd rfl nb
theorem X3f:Op2 X (binaryOp .Mod) (Xm .mod):=by
 intro pins s σ H ρ S env x y v u v' u' E I nb rx rv ry ru;cases x with
 | int i=>cases y with
  | int j =>
   simp only[RD] at rx ry;subst rx ry;obtain⟨t,rfl⟩:=rv;obtain⟨t',rfl⟩:=ru;simp only[Xm] at nb ⊢;split at nb
   ·rename_i hz
    rw[if_pos hz];exact mod_int' (by omega) (by rw[Int.fmod_eq_emod_of_nonneg i (by omega)];exact Y5 I.sr (I.inv.tok _))
   ·exact absurd rfl nb
  | _=>exact absurd rfl nb
 | _=>cases y<;>exact absurd rfl nb
theorem X3g:Op2 X (binaryOp .Pow) (Xm .pow):=by
 intro pins s σ H ρ S env x y v u v' u' E I nb rx rv ry ru;cases x with
 | int i=>cases y with
  | int j =>
   simp only[RD] at rx ry;subst rx ry;obtain⟨t,rfl⟩:=rv;obtain⟨t',rfl⟩:=ru;simp only[Xm] at nb ⊢;split at nb
   ·rename_i hz
    rw[if_pos hz];exact pow_int_small hz.1 (by omega) (by omega) (Y5 I.sr (I.inv.tok _))
   ·exact absurd rfl nb
  | _=>exact absurd rfl nb
 | _=>cases y<;>exact absurd rfl nb
theorem X3h:∀ op:Bo,Op2 X (binaryOp (opB op)) (Xm op)
 | .add=>X3c | .sub=>X3d | .mul=>X3e | .fdiv=>Xzx | .mod=>X3f | .pow=>X3g
end
theorem Xp2(n:Nat)(i:Int):Z.ixN n i=L2.ixN n i:=rfl
section
variable{X:Cx}{pins:List (Addr×Obj)}{σ:L2.St}{H:Hp}{s:Shared}{ρ:List Addr}{S S':Sto}{env:En}{Q:Value->Shared->Prop}{E:Value->Shared->Prop}{a b c e:Expr}{f fa fb fc:En->Sto->R D}{pos:Pos}
theorem Xzy(r:RDs X.K ρ H xs vs)(h:((Z.ixN xs.length k).bind fun j=>xs[j]?)=some d):∃ v,atI vs k=some v/\RD X.K ρ H d v:=by
 cases e:Z.ixN xs.length k with
 | none=>rw[e] at h;cases h
 | some j =>
  rw[e] at h;obtain⟨v,h1,h2⟩:=r.get (i:=j) (d:=d) h;refine⟨v,?_,h2⟩;show((L2.ixN vs.length k).bind fun j=>vs[j]?)=some v
  rw[<- r.length];rw[Xp2] at e;rw[e];exact h1
theorem X3i(hs:Xha b):Op2 X (subscriptTail a b) Yt:=by
 intro pins s σ H ρ S env x y v u v' u' E I nb rx rv ry ru;unfold Yt at nb ⊢;cases e:Ym x y S with
 | none=>rw[e] at nb;exact absurd rfl nb
 | some d =>
  cases y with
  | int k =>
   simp only[RD] at ry;subst ry;have ixr:∀ {r:R2} (hr:IxR (X.wish E) r) (z:V),r v (.int k) H (fun z' H'=>z'=z/\H'=H)->RD X.K ρ H d z->wpAny (model X.prog X.w) X.A (subscriptTail a b v' u') (OkP X pins σ ρ H (.ok d S)) E s:=fun {r} hr z h1 h2 =>
    thn (hr a b pins s σ H v (.int k) v' u' _ (I.inv.wish E) rv ru h1 (hs _ _)) fun w s' ⟨z',H',J,rz,e1,e2⟩=>by subst e1 e2;exact .mk .refl J.unwish rz h2 I.sr
   have seq:∀ xs,Xn S x=some xs->((Z.ixN xs.length k).bind fun j=>xs[j]?)=some d->wpAny (model X.prog X.w) X.A (subscriptTail a b v' u') (OkP X pins σ ρ H (.ok d S)) E s:=fun xs h1 h2=>by
    obtain⟨p,vs,rfl,hq,hr⟩:=I.seq h1 rx;obtain⟨z,hz,rz⟩:=Xzy hr h2;rcases hq with hq|hq
    ·exact ixr Xvs z ⟨p,vs,k,z,rfl,rfl,hq,hz,rfl,rfl⟩ rz
    ·exact ixr Xzm z ⟨p,vs,k,z,rfl,rfl,hq,hz,rfl,rfl⟩ rz
   cases x with
   | str z =>
    simp only[Ym] at e;simp only[RD] at rx;subst rx;split at e
    ·rename_i hz
     cases e1:Z.ixN z.length k with
     | none=>rw[e1] at e;cases e
     | some j =>
      rw[e1] at e;simp only[Option.bind_some,Option.map_eq_some_iff] at e;obtain⟨c,hc,rfl⟩:=e;refine ixr Xzn (.str ⟨#[c]⟩) ⟨z,k,c,rfl,rfl,Y0 hz,?_,rfl,rfl⟩ (by simp only[RD])
      show((L2.ixN z.cps.toList.length k).bind fun j=>z.cps.toList[j]?)=some c
      have:z.cps.toList.length=z.length:=by simp[Str.length]
      rw[this,<- Xp2,e1];exact hc
    ·cases e
   | tup xs=>exact seq xs rfl (by simpa [Ym,Xn] using e)
   | fro xs=>exact seq xs rfl (by simpa [Ym,Xn] using e)
   | ref n =>
    simp only[Ym,Xn] at e;cases e1:Xb S n with
    | none=>rw[e1] at e;cases e
    | some xs=>rw[e1] at e;exact seq xs e1 e
   | non=>simp[Ym,Xn] at e
   | bl _=>simp[Ym,Xn] at e
   | int _=>simp[Ym,Xn] at e
   | fn _ _=>simp[Ym,Xn] at e
  | _=>simp[Ym] at e
theorem X3j(hs:Xha b)(ha:DE X a fa)(hb:DE X b fb):DE X (.Subscript a b pos) (fun env S=>(fa env S).bind fun x S=>(fb env S).bind fun y S=>Yt x y S) :=
 fun pins s σ H ρ S env I nb=>Subscript_ (two (X3i hs) ha hb I nb)
noncomputable def spD(K:PySem.W.Frag)(n:Nat)(F:List D->Sto->R D):Sp:=fun vs H Q E=>∃ ds ρ S,vs.length=n/\RDs K ρ H ds vs/\SR K ρ S H/\F ds S≠.bad /\
 (∀ d S' v H' ρ',F ds S=.ok d S'->RD K ρ' H' d v->SR K ρ' S' H'->Stp K ρ ρ' H H'->Q v H') /\
 ∀ n c S' a H' ρ',F ds S=.ex n S'->ρ'[n]?=some a->S'[n]?=some (.exc c)->SR K ρ' S' H'->Stp K ρ ρ' H H'->E (.ref a) none H'
noncomputable def CXd(P:Program)(w:World):CXT:=fun outer H s E e s'=>∃ H',s'.os=s.os/\AllBare s'.gens/\Un (frs outer) [] H H' s.heap s'.heap/\HOk P w H' s'.heap/\(∃ a,e=.ref a/\Trc (fun T=>s.heap.get? T=none) H' a s'.heap)/\E e none H'
structure RoomC(cm:Bool)(k:Nat)(A:Around):Prop where
 gd:A.guards=some []
 hd:cm=true->A.handled=none
 dp:A.depth+3*k+5<recursionLimit
 un:A.units+16*k+200<cLine
theorem RoomC.of(r:Room k A):RoomC cm k A:=⟨r.gd,fun _=>r.hd,r.dp,r.un⟩
theorem RoomC.less(r:RoomC cm k A)(h:cm2=true->cm=true):RoomC cm2 k A:=⟨r.gd,fun z=>r.hd (h z),r.dp,r.un⟩
theorem RoomC.deeper(r:RoomC cm (k+1) A)(env:PySem.Env):RoomC cm k (A.deeper env) :=
 ⟨r.gd,r.hd,by have:=r.dp;show A.depth+1+3*k+5<_;omega,by have:=r.un;show A.units+3+16*k+200<_;omega⟩
theorem RoomC.mark(r:RoomC cm k A):RoomC false k (A.mark h):=⟨r.gd,(fun z=>nomatch z),r.dp,r.un⟩
structure FnD(cm:Bool)(P:Program)(w:World)(K:PySem.W.Frag)(mg:Str->Option Value)(base:Heap)(k:Nat)(f:Addr)(fd:FuncData)(ps:List Str)(F:List D->Sto->R D):Prop where
 run:∀ (A:Around) (outer:List PySem.Env) (s:Shared) (H:Hp) (args:Args) (us:List Value) (vs:List V) (Q:VK) (E:XK),RoomC cm k A->Env0 P w K mg base A outer s H->BindsTo s fd args (ps.zip us)->Vals vs us->spD K ps.length F vs H Q E ->
  codeAny (model P w) A (.call (.ref f) args) (CR (CXd P w) outer P w H s Q E) s
theorem Xu3(G:FnD cm X.prog X.w X.K X.mg X.base k g fd ps F)(hr:RoomC cm k X.A)(hb:Binds X.K fd ps [])
  (I:S0 X pins σ H s ρ S env) (rv:Vals vs us) (rd:RDs X.K ρ H ds vs) (hl:ds.length=ps.length) (nb:F ds S≠.bad) :
  wpAny (model X.prog X.w) X.A (call (.ref g) us) (OkP X pins σ ρ H (F ds S)) (ExP X pins σ ρ H (F ds S)) s:=by
 have hlv:vs.length=ps.length:=by rw[<- rd.length];exact hl
 have hb':BindsTo s fd ⟨us,[]⟩ (ps.zip us):=by
  have:=hb s us I.inv.kIn (by rw[List.append_nil,<- rv.length];exact hlv)
  rwa [List.append_nil] at this
 have hsp:spD X.K ps.length F vs H (fun v H'=>∃ d S' ρ',F ds S=.ok d S'/\RD X.K ρ' H' d v/\SR X.K ρ' S' H'/\Stp X.K ρ ρ' H H')
   (fun e _ H'=>∃ n c S' a ρ',F ds S=.ex n S'/\e=.ref a/\ρ'[n]?=some a/\S'[n]?=some (.exc c)/\SR X.K ρ' S' H'/\Stp X.K ρ ρ' H H') :=
  ⟨ds,ρ,S,hlv,rd,I.sr,nb,fun d S' v H' ρ' h1 h2 h3 h4=>⟨d,S',ρ',h1,h2,h3,h4⟩,fun n c S' a H' ρ' h1 h2 h3 h4 h5=>⟨n,c,S',a,ρ',h1,rfl,h2,h3,h4,h5⟩⟩
 refine wpAny_call (codeAny_mono (G.run X.A X.stack s H ⟨us,[]⟩ us vs _ _ hr I.inv.env0 hb' rv hsp) fun r s' hq=>?_)
 cases r with
 | error e =>
  obtain⟨H',os,bare,un,hok,⟨a',h0,tr⟩,n,c,S',a,ρ',h1,h2,h3,h4,h5,h6⟩:=hq;refine⟨n,S',h1,H',ρ',a,c,I.inv.call' os un hok bare (fun b z=>absurd z (by simp)),h2,h3,h4,h5,h6,.inr ?_⟩
  rw[h2] at h0;cases h0;refine tr.imp fun T hT=>⟨?_,fun p hp z=>?_⟩
  ·by_cases hx:T∈X.ex
   ·exact .inl hx
   ·cases q:X.s₀.heap.get? T with
    | none=>exact .inr rfl
    | some o=>obtain⟨o',e⟩:=I.inv.base.there T o q hx;rw[hT] at e;cases e
  ·have:=(I.inv.pin p hp).1
   rw[z,hT] at this;cases this
 | ok fl =>
  cases fl with
  | ret u =>
   obtain⟨v,H',J,rv',d,S',ρ',h1,h2,h3,h4⟩:=I.inv.after hq;exact⟨d,S',h1,v,H',ρ',J,rv',h2,h3,h4⟩
  | next=>exact False.elim hq
  | brk=>exact False.elim hq
  | cont=>exact False.elim hq
theorem Xzz(G:FnD cm X.prog X.w X.K X.mg X.base k g fd ps F)(hr:RoomC cm k X.A)(hb:Binds X.K fd ps [])
  (hg:Gl X x) (hm:X.mg x=some (.ref g)) (hk:PySem.W.keepIn X.K (.ref g)=true) (ha:DA X (e::es) ga) (hl:∀ env S ds S',ga env S=.ok ds S'->ds.length=ps.length)
  (hdb:(x==("__debug__" : Str))=false) (he:starEach (e::es) X.env=(false,eval e X.env)::starEach es X.env) (hpl:(backTo pos (starEach es X.env)).any (·.1)=false) :
  DE X (.Call (.Name x p) (e::es) [] pos) (fun env S=>(ga env S).bind fun xs S=>F xs S):=by
 intro pins s σ H ρ S env I nb;dsimp only at nb ⊢;refine wpAny_Call_Name_kw (Xdc I.inv hg hm ?_ hdb);cases q:ga env S with
 | bad=>rw[q] at nb;exact absurd rfl nb
 | ex n S1=>exact PySem.W.callWith_K (h₀:=X.base) I.inv.ok.mod.kin hk (ha.ex I q fun x s' z=>⟨n,S1,rfl,z⟩) he hpl
 | ok ds S1 =>
  rw[q] at nb;simp only[Rk0] at nb ⊢;refine PySem.W.callWith_K (h₀:=X.base) I.inv.ok.mod.kin hk (ha.ok I q fun us s1 vs H1 ρ1 I1 rv rd st1=>⟨I1.inv.kIn,?_⟩) he hpl
  exact wpAny_mono (Xu3 G hr hb I1 rv rd (hl env S ds S1 q) nb) (fun u s2 z=>z.pre st1) fun x s2 z=>z.pre st1
def FlP(X:Cx)(pins:List (Addr×Obj))(σ:L2.St)(ρ:List Addr)(H:Hp)(na:Bool)(S':Sto)(s':Shared):Fl->Flow->Prop
 | .nx e,fl=>fl=.next/\∃ σ' H' ρ',S0 X pins σ' H' s' ρ' S' e/\Stp X.K ρ ρ' H H'/\(na=true->σ'=σ)
 | .brk e,fl=>fl=.brk/\∃ σ' H' ρ',S0 X pins σ' H' s' ρ' S' e/\Stp X.K ρ ρ' H H'
 | .cnt e,fl=>fl=.cont/\∃ σ' H' ρ',S0 X pins σ' H' s' ρ' S' e/\Stp X.K ρ ρ' H H'
 | .rt d,fl=>∃ u v σ' H' ρ',fl=.ret u/\Inv X pins σ' H' s'/\RelV v u/\RD X.K ρ' H' d v/\SR X.K ρ' S' H'/\Stp X.K ρ ρ' H H'
def OkS(X:Cx)(pins:List (Addr×Obj))(σ:L2.St)(ρ:List Addr)(H:Hp)(na:Bool)(r:R Fl)(fl:Flow)(s':Shared):Prop:=∃ x S',r=.ok x S'/\FlP X pins σ ρ H na S' s' x fl
def ExS(X:Cx)(pins:List (Addr×Obj))(σ:L2.St)(ρ:List Addr)(H:Hp)(na:Bool)(r:R Fl)(e:Value)(s':Shared):Prop:=∃ n S' σ',r=.ex n S'/\(na=true->σ'=σ)/\XPd X pins σ' ρ H n S' e s'
def DS(X:Cx)(st:Stmt)(na:Bool)(f:En->Sto->R Fl):Prop :=
 ∀ (pins:List (Addr×Obj)) (s:Shared) (σ:L2.St) (H:Hp) (ρ:List Addr) (S:Sto) (env:En),S0 X pins σ H s ρ S env->f env S≠.bad ->
  wpAny (model X.prog X.w) X.A (exec st X.env) (OkS X pins σ ρ H na (f env S)) (ExS X pins σ ρ H na (f env S)) s
def DSs(X:Cx)(st:List Stmt)(na:Bool)(f:En->Sto->R Fl):Prop :=
 ∀ (pins:List (Addr×Obj)) (s:Shared) (σ:L2.St) (H:Hp) (ρ:List Addr) (S:Sto) (env:En),S0 X pins σ H s ρ S env->f env S≠.bad ->
  wpAny (model X.prog X.w) X.A (execs st X.env) (OkS X pins σ ρ H na (f env S)) (ExS X pins σ ρ H na (f env S)) s
theorem FlP.pre{x:Fl}{fl:Flow}{s':Shared}{σ':L2.St}{ρ':List Addr}{H':Hp}{na na':Bool}(st:Stp X.K ρ ρ' H H')(hn:na'=true->na=true/\σ'=σ)(h:FlP X pins σ' ρ' H' na S' s' x fl):FlP X pins σ ρ H na' S' s' x fl:=by
 cases x with
 | nx e=>obtain⟨h1,σ2,H2,ρ2,h2,h3,h4⟩:=h;exact⟨h1,σ2,H2,ρ2,h2,st.trans h3,fun z=>(h4 (hn z).1).trans (hn z).2⟩
 | brk e=>obtain⟨h1,σ2,H2,ρ2,h2,h3⟩:=h;exact⟨h1,σ2,H2,ρ2,h2,st.trans h3⟩
 | cnt e=>obtain⟨h1,σ2,H2,ρ2,h2,h3⟩:=h;exact⟨h1,σ2,H2,ρ2,h2,st.trans h3⟩
 | rt d=>obtain⟨u,v,σ2,H2,ρ2,h1,h2,h3,h4,h5,h6⟩:=h;exact⟨u,v,σ2,H2,ρ2,h1,h2,h3,h4,h5,st.trans h6⟩
theorem OkS.pre{r:R Fl}{fl:Flow}{s':Shared}{σ':L2.St}{ρ':List Addr}{H':Hp}{na na':Bool}(st:Stp X.K ρ ρ' H H')(hn:na'=true->na=true/\σ'=σ)(h:OkS X pins σ' ρ' H' na r fl s'):OkS X pins σ ρ H na' r fl s':=by
 obtain⟨x,S1,e,h⟩:=h;exact⟨x,S1,e,h.pre st hn⟩
theorem ExS.of(st:Stp X.K ρ ρ' H H')(h:XPd X pins σ ρ' H' n S' x s')(e:r=.ex n S'):ExS X pins σ ρ H na r x s':=⟨n,S',σ,e,fun _=>rfl,h.pre st⟩
theorem ExS.pre{na na':Bool}{σ':L2.St}{r:R Fl}{x:Value}{s':Shared}{ρ':List Addr}{H':Hp}(st:Stp X.K ρ ρ' H H')(hn:na'=true->na=true/\σ'=σ)(h:ExS X pins σ' ρ' H' na r x s'):ExS X pins σ ρ H na' r x s':=by
 obtain⟨n,S1,σ2,e,h1,h2⟩:=h;exact⟨n,S1,σ2,e,fun z=>(h1 (hn z).1).trans (hn z).2,h2.pre st⟩
variable{st:Stmt}{Xao sa sb:List Stmt}{g g2:En->Sto->R Fl}{na na2:Bool}
theorem DS.weak(h:DS X st na g)(hn:na2=true->na=true):DS X st na2 g:=fun pins s σ H ρ S env I nb =>
 wpAny_mono (h pins s σ H ρ S env I nb) (fun _ _ z=>z.pre .refl fun q=>⟨hn q,rfl⟩) fun _ _ z=>z.pre .refl fun q=>⟨hn q,rfl⟩
theorem dss_nil:DSs X [] true (fun env S=>.ok (.nx env) S):=fun pins s σ H ρ S env I _=>wpAny_execs_nil ⟨.nx env,S,rfl,rfl,σ,H,ρ,I,.refl,fun _=>rfl⟩
theorem Xsc(h1:DS X st na g)(h2:DSs X Xao na2 g2):DSs X (st::Xao) (na&&na2) (fun env S=>match g env S with | .ok (.nx e) S'=>g2 e S'|r=>r):=by
 intro pins s σ H ρ S env I nb;dsimp only at nb ⊢;refine wpAny_execs_cons ?_;cases q:g env S with
 | bad=>rw[q] at nb;exact absurd rfl nb
 | ex n S1 =>
  refine wpAny_mono (h1 pins s σ H ρ S env I (by rw[q];exact fun z=>nomatch z)) (fun fl s1 z=>?_) fun x s1 z=>?_
  ·obtain⟨x,S2,e,_⟩:=z;rw[q] at e;cases e
  ·rw[q] at z
   exact z.pre .refl fun w=>⟨by rw[bA0] at w;exact w.1,rfl⟩
 | ok x S1 =>
  rw[q] at nb;refine wpAny_mono (h1 pins s σ H ρ S env I (by rw[q];exact fun z=>nomatch z)) (fun fl s1 z=>?_) fun x s1 z=>?_
  ·obtain⟨y,S2,e,z⟩:=z
   rw[q] at e;cases e;cases x with
   | nx e =>
    obtain⟨rfl,σ1,H1,ρ1,I1,st1,hσ⟩:=z;exact wpAny_mono (h2 pins s1 σ1 H1 ρ1 S1 e I1 nb) (fun fl s2 z=>z.pre st1 fun w=>by rw[bA0] at w;exact⟨w.2,hσ w.1⟩) fun x s2 z=>z.pre st1 fun w=>by rw[bA0] at w;exact⟨w.2,hσ w.1⟩
   | brk e=>obtain⟨rfl,σ1,H1,ρ1,I1,st1⟩:=z;exact⟨.brk e,S1,rfl,rfl,σ1,H1,ρ1,I1,st1⟩
   | cnt e=>obtain⟨rfl,σ1,H1,ρ1,I1,st1⟩:=z;exact⟨.cnt e,S1,rfl,rfl,σ1,H1,ρ1,I1,st1⟩
   | rt d=>obtain⟨u,v,σ1,H1,ρ1,rfl,r⟩:=z;exact⟨.rt d,S1,rfl,u,v,σ1,H1,ρ1,rfl,r⟩
  ·obtain⟨k,S2,σ2,e,_⟩:=z
   rw[q] at e;cases e
theorem ds_pass:DS X (.Pass pos) true (fun env S=>.ok (.nx env) S):=fun pins s σ H ρ S env I _=>wpAny_Pass ⟨.nx env,S,rfl,rfl,σ,H,ρ,I,.refl,fun _=>rfl⟩
theorem ds_brk:DS X (.Break pos) false (fun env S=>.ok (.brk env) S):=fun pins s σ H ρ S env I _=>wpAny_Break ⟨.brk env,S,rfl,rfl,σ,H,ρ,I,.refl⟩
theorem ds_cnt:DS X (.Continue pos) false (fun env S=>.ok (.cnt env) S):=fun pins s σ H ρ S env I _=>wpAny_Continue ⟨.cnt env,S,rfl,rfl,σ,H,ρ,I,.refl⟩
theorem Xv0(he:DE X e f)(hs:swapsWith e none pos.line X.env=pure false):DS X (.Expr e pos) true (fun env S=>(f env S).bind fun _ S=>.ok (.nx env) S):=by
 intro pins s σ H ρ S env I nb;dsimp only at nb ⊢;cases q:f env S with
 | bad=>rw[q] at nb;exact absurd rfl nb
 | ex n S1=>exact wpAny_Expr_any (he.ex I q fun x s' z=>.of .refl z rfl) I.inv.quiet hs
 | ok d S1=>exact wpAny_Expr_any (he.ok I q fun u s' v H' ρ' J rv rd st=>⟨.nx env,S1,rfl,rfl,σ,H',ρ',J,st,fun _=>rfl⟩) I.inv.quiet hs
theorem Xz0(he:DE X e f):DS X (.Return (some e) pos) true (fun env S=>(f env S).bind fun x S=>.ok (.rt x) S):=by
 intro pins s σ H ρ S env I nb;dsimp only at nb ⊢;cases q:f env S with
 | bad=>rw[q] at nb;exact absurd rfl nb
 | ex n S1=>exact wpAny_Return_some (he.ex I q fun x s' z=>.of .refl z rfl)
 | ok d S1=>exact wpAny_Return_some (he.ok I q fun u s' v H' ρ' J rv rd st=>⟨.rt d,S1,rfl,u,v,σ,H',ρ',rfl,J.inv,rv,rd,J.sr,st⟩)
theorem X3k(hc:DT X c (fun env S=>tst (fc env S)))(ha:DSs X sa na g)(hb:DSs X sb na2 g2) :
  DS X (.If c sa sb pos) (na&&na2) (fun env S=>(fc env S).bind fun x S=>match Xl S x with|some true=>g env S|some false=>g2 env S|none=>.bad):=by
 intro pins s σ H ρ S env I nb;dsimp only at nb ⊢;cases q:fc env S with
 | bad=>rw[q] at nb;exact absurd rfl nb
 | ex n S1=>exact wpAny_If (hc.ex I (by simp only[q];rfl) fun x s' z=>.of .refl z rfl)
 | ok x S1 =>
  rw[q] at nb;simp only[Rk0] at nb ⊢;cases t:Xl S1 x with
  | none=>rw[t] at nb;exact absurd rfl nb
  | some r =>
   rw[t] at nb;refine wpAny_If (hc.ok I (by simp only[q];exact Xbo t) fun s2 H2 ρ2 I2 st2=>?_)
   cases r with
   | true=>exact wpAny_mono (ha pins s2 σ H2 ρ2 S1 env I2 nb) (fun w s3 z=>z.pre st2 fun w=>by rw[bA0] at w;exact⟨w.1,rfl⟩) fun x s' z=>z.pre st2 fun w=>by rw[bA0] at w;exact⟨w.1,rfl⟩
   | false=>exact wpAny_mono (hb pins s2 σ H2 ρ2 S1 env I2 nb) (fun w s3 z=>z.pre st2 fun w=>by rw[bA0] at w;exact⟨w.2,rfl⟩) fun x s' z=>z.pre st2 fun w=>by rw[bA0] at w;exact⟨w.2,rfl⟩
theorem Xz1(hN:X.N.Nodup)(hi:X.N[i]?=some x)(hx:Loc X.env.scope x)(hf:X.fn x=true\/X.env.scope.names.lookup x=some .local)(he:DE X e f)(hs:swapsWith e (some (.Name x pos')) pos.line X.env=pure false) :
  DS X (.Assign [.Name x pos'] e pos) false (fun env S=>(f env S).bind fun x S=>match Xp (.var i) x env with|some env=>.ok (.nx env) S|none=>.bad):=by
 intro pins s σ H ρ S env I nb;dsimp only at nb ⊢;cases q:f env S with
 | bad=>rw[q] at nb;exact absurd rfl nb
 | ex n S1=>exact wpAny_Assign_Name (he.ex I q fun x s' z=>.of .refl z rfl) hs
 | ok d S1 =>
  refine wpAny_Assign_Name (he.ok I q fun u s' v H' ρ' J rv rd st=>?_) hs
  exact Xba J.inv hN hi hx rv (fun s2 I2=>⟨.nx (env.set i (some d)),S1,rfl,rfl,_,H',ρ',⟨I2,J.sr,J.er.set i rd⟩,st,fun z=>nomatch z⟩) hf
theorem Xcz{b:Addr}{u:HO}(x:ObjOk P w H h b u):∃ o,h.get? b=some o:=by
 cases u with
 | lst xs=>obtain⟨_,_,_,_,e⟩:=x;exact⟨_,e⟩
 | tup xs=>obtain⟨_,_,_,o,e,_⟩:=x;exact⟨_,e⟩
 | dK kvs=>obtain⟨_,_,_,_,o,_,_,e,_⟩:=x;exact⟨_,e⟩
 | dT kvs=>obtain⟨_,_,_,_,o,_,_,e,_⟩:=x;exact⟨_,e⟩
 | set S n=>obtain⟨o,_,_,_,e,_⟩:=x;exact⟨_,e⟩
 | ins C dx fs=>obtain⟨_,_,_,e,_⟩:=x;exact⟨_,e⟩
 | own y=>exact x
 | xd fs=>obtain⟨_,⟨_,_,_,e,_⟩,_⟩:=x;exact⟨_,e⟩
 | rng lo hi=>obtain⟨_,_,_,e⟩:=x;exact⟨_,e⟩
 | frz ob u=>obtain⟨e,_⟩:=x;exact⟨_,e⟩
 | tbl ps=>exact⟨_,(show h.get? b=some _ from x)⟩
 | met f y=>exact⟨_,(show h.get? b=some _ from x)⟩
 | ext φ=>exact x.2.1
theorem Xa7{h g g':Heap}:∀ {l:List PySem.Env},h.FunFrames g l->(∀ b∈frs l,g'.get? b=none)->h.FunFrames g' l
 | [],_,_=>trivial
 | env::r,⟨hk,⟨L,o,hf,_,ho,hd⟩,hr⟩,k=>by
  have e:frs (env::r)=L::frs r:=by unfold frs;rw[List.filterMap_cons,hf]
  rw[e] at k;exact⟨hk,⟨L,o,hf,k L (.head _),ho,hd⟩,Xa7 hr fun b hb=>k b (.tail _ hb)⟩
structure Hid(X:Cx)(H':Hp)(a:Addr)(h:Heap)(l:List Addr):Prop where
 er:a∈l
 fr:∀ b∈frs X.stack,b∈l
 of:∀ b∈l,b=a\/b∈frs X.stack\/(H' b=none/\∃ o vs,h.get? b=some o/\o.data=.fields vs)
theorem Xmg{pins:List (Addr×Obj)}{σ:L2.St}{a C:Addr}{l:List Addr}(I:Inv X pins σ H' s')(ha:H' a=some (.ext (ExcO C a)))(hl:Hid X H' a s'.heap l)
  (keep:∀ b o,s'.heap.get? b=some o->b ∉ l->h'.get? b=some o) (he:ExcO C a h'):HOk X.prog X.w H' h':=by
 have out:∀ b u,b≠a->H' b=some u->b ∉ l:=fun b u hb q hm=>by
  rcases hl.of b hm with z|z|⟨z,_⟩
  ·exact hb z
  ·rw[I.stkFree b z] at q;cases q
  ·rw[z] at q;cases q
 intro b u q
 by_cases hb:b=a
 ·subst hb;rw[ha] at q;cases q;exact he.ok
 ·refine(I.hok b u q).stay (fun c v hc e=>?_) (fun _ z=>z) fun _ _ z=>z
  rcases hc with rfl|hc
  ·exact keep c v e (out c u hb q)
  ·exact keep c v e (out c _ (fun z=>by rw[z,ha] at hc;cases hc) hc)
theorem Xv1{X:Cx}{pins:List (Addr×Obj)}{σ:L2.St}{H':Hp}{s':Shared}{a C:Addr}{Q:Unit->Shared->Prop}{E:Value->Shared->Prop}(I:Inv X pins σ H' s')(hs:X.stack=X.env::X.outer)(hf:X.env.frame=some X.env.locals)(hx:X.ex=[])
  (ha:H' a=some (.ext (ExcO C a))) (fl:Fly X pins H' a s'.heap)
  (hQ:∀ h',Un X.fs [] X.H₀ H' X.s₀.heap h'->HOk X.prog X.w H' h'->Trc (fun T=>X.s₀.heap.get? T=none) H' a h'->Q () { s' with heap:=h' }):wpAny (model X.prog X.w) X.A (leaving X.env (.ref a)) Q E s':=by
 have hfrs:frs X.stack=X.env.locals::X.fs:=by rw[hs];unfold frs;rw[List.filterMap_cons,hf];rfl
 have hA:X.A.frames=some (X.env::X.outer):=by rw[<- hs];exact I.ok.frames
 have hI:=I.stack;obtain⟨⟨oa,va,a0,ea,ca,da,v0,vz⟩,_,_⟩:=(show ObjOk X.prog X.w H' s'.heap a (.ext (ExcO C a)) from I.hok a _ ha);have fin:∀ (l:List Addr) (h':Heap),Hid X H' a s'.heap l->(∀ b∈l,b≠a->b ∉ frs X.stack->X.s₀.heap.get? b=none)->Heap.LeftW (PySem.W.hideAll s'.heap l) (X.env::X.outer) a (.ref C) a0 s'.heap h'->Q () { s' with heap:=h' }:=by
  intro l h' hl hnew ⟨k1,k2,⟨oe,vs,T,oT,ts,t1,⟨t2,t3⟩,t4,t5,t6,t7,t8,t9,t10⟩,k4⟩;have keep:∀ b o,s'.heap.get? b=some o->b ∉ l->h'.get? b=some o:=fun b o e hb=>k1 b o (PySem.W.hideAll_get l e hb)
  have nfr:∀ b∈frs X.stack,∃ o,s'.heap.get? b=some o/\∀ vs,o.data≠.fields vs:=fun b hb=>(hI.mem hb).2
  have frk:∀ b∈frs X.stack,∀ o,s'.heap.get? b=some o->∃ sl,h'.get? b=some { o with slots:=sl }:=fun b hb o e=>by
   obtain⟨o',e',nd⟩:=nfr b hb;rw[e] at e';cases e';exact k4 b o e nd
  have old:∀ b o,X.s₀.heap.get? b=some o->b≠X.env.locals:=fun b o e=>Nat.ne_of_lt (Nat.lt_of_lt_of_le (Heap.lt_size e) I.ok.above)
  have nx:∀ b:Addr,b ∉ X.ex:=fun b z=>by rw[hx] at z;cases z
  have hT:∀ o,s'.heap.get? T=some o->T∈l:=fun o e=>by
   by_cases hm:T∈l
   ·exact hm
   ·rw[PySem.W.hideAll_get l e hm] at t6;cases t6
  have nT:T ∉ frs X.stack:=fun hm=>by
   obtain⟨o,e,nd⟩:=nfr T hm;obtain⟨sl,e'⟩:=frk T hm o e;rw[t8] at e';cases e';exact nd ts t9
  refine hQ h' ⟨fun b o e n hb _=>?_,fun b o e n hb _=>?_,fun b o e n _=>I.base.free b o e n (nx b),fun b o e _=>?_,I.base.tups,I.base.frzs,I.base.tbls⟩ (Xmg I ha hl keep ⟨oe,vs,a0,t1,t2,t4,t3,(Array.getElem?_eq_some_iff.mp t5).1⟩) ⟨oe,vs,T,oT,ts,t1,t4,t5,?_,t7,?_,t8,t9,t10⟩
  ·refine keep b o (I.base.keep b o e n hb (nx b)) fun hm=>?_
   have fb:=I.base.free b o e n (nx b)
   by_cases h1:b=a
   ·rw[h1,ha] at fb;cases fb
   ·by_cases h2:b∈frs X.stack
    ·rw[hfrs] at h2
     rcases List.mem_cons.mp h2 with z|z
     ·exact old b o e z
     ·exact hb z
    ·rw[hnew b hm h1 h2] at e;cases e
  ·obtain⟨sl,e1⟩:=I.base.slot b o e n hb (nx b)
   obtain⟨sl',e2⟩:=frk b (by rw[hfrs];exact .tail _ hb) _ e1
   exact⟨sl',e2⟩
  ·obtain⟨o',e1⟩:=I.base.there b o e (nx b)
   by_cases hm:b∈l
   ·by_cases h1:b=a
    ·subst h1;exact⟨_,t1⟩
    ·by_cases h2:b∈frs X.stack
     ·obtain⟨sl,e2⟩:=frk b h2 o' e1;exact⟨_,e2⟩
     ·rw[hnew b hm h1 h2] at e;cases e
   ·exact⟨_,keep b o' e1 hm⟩
  ·cases q:X.s₀.heap.get? T with
   | none=>exact q
   | some o =>
    obtain⟨o',e1⟩:=I.base.there T o q (nx T);rw[hnew T (hT o' e1) t7 nT] at q;cases q
  ·cases q:H' T with
   | none=>rfl
   | some u =>
    obtain⟨o',e1⟩:=Xcz (I.hok T u q);rcases hl.of T (hT o' e1) with z|z|⟨z,_⟩
    ·exact absurd z t7
    ·exact absurd z nT
    ·rw[z] at q;cases q
 rcases fl with⟨oe,vs,e1,e2,e3⟩|⟨oe,vs,T,oT,ts,e1,e2,e3,⟨e4,e5⟩,e6,e7,e8,e9,e10⟩
 ·have hl:Hid X H' a s'.heap (a::frs X.stack):=⟨.head _,fun b hb=>.tail _ hb,fun b hb=>by
   rcases List.mem_cons.mp hb with z|z
   ·exact .inl z
   ·exact .inr (.inl z)⟩
  rw[ea] at e1;cases e1;rw[da] at e2;cases e2;refine wpAny_leaving_firstW (base:=PySem.W.hideAll s'.heap (a::frs X.stack)) (a0:=a0) hA (by rw[<- hs];exact Xa7 hI fun b hb=>PySem.W.hideAll_none _ (.tail _ hb)) hf ea (fun b o e=>PySem.W.of_hideAll _ e) (PySem.W.hideAll_none _ (.head _)) da e3 v0 fun h' hL=>?_
  rw[ca] at hL;exact fin _ h' hl (fun b hb h1 h2=>by
   rcases List.mem_cons.mp hb with z|z
   ·exact absurd z h1
   ·exact absurd z h2) hL
 ·have hl:Hid X H' a s'.heap (a::T::frs X.stack):=⟨.head _,fun b hb=>.tail _ (.tail _ hb),fun b hb=>by
   rcases List.mem_cons.mp hb with z|z
   ·exact .inl z
   ·rcases List.mem_cons.mp z with z|z
    ·subst z;exact .inr (.inr ⟨e7,oT,ts,e8,e9⟩)
    ·exact .inr (.inl z)⟩
  rw[ea] at e1;cases e1;rw[da] at e2;cases e2;refine wpAny_leaving_nextW (base:=PySem.W.hideAll s'.heap (a::T::frs X.stack)) (cls:=.ref C) (a0:=a0) hA (by rw[<- hs];exact Xa7 hI fun b hb=>PySem.W.hideAll_none _ (.tail _ (.tail _ hb))) hf ⟨oa,va,T,oT,ts,ea,⟨ca,v0⟩,da,e3,PySem.W.hideAll_none _ (.tail _ (.head _)),e6,e8,e9,e10⟩ (fun b o e=>PySem.W.of_hideAll _ e) (PySem.W.hideAll_none _ (.head _)) fun h' hL=>?_
  exact fin _ h' hl (fun b hb h1 h2=>by
   rcases List.mem_cons.mp hb with z|z
   ·exact absurd z h1
   ·rcases List.mem_cons.mp z with z|z
    ·subst z
     rcases e4 with e4|e4
     ·rw[hx] at e4;cases e4
     ·exact e4
    ·exact absurd z h2) hL
noncomputable def cxC(cm:Bool)(P:Program)(w:World)(K:PySem.W.Frag)(mg:Str->Option Value)(base:Heap)(N:List Str)(qual:Str)(scope:Scope)(f:Addr)(cd:Value)(A:Around)(outer:List PySem.Env)(s:Shared)(H:Hp)(E:XK):Cx :=
 { Xnp (CXd P w) P w K mg base N qual scope f cd A outer s H E with calm:=cm }
theorem Xz2{cm:Bool}{P:Program}{w:World}{K:PySem.W.Frag}{mg:Str->Option Value}{base:Heap}{k:Nat}{f:Addr}{name qual:Str}{params:Arguments}{body:List Stmt}{scope:Scope}{dV kV doc pm cdv ct oc:Value}{an od:Option Addr}
  {osl:Array (Option Value)} {N ps:List Str} {G:En->Sto->R Fl} {na:Bool} (lk:K.lookup f=some ⟨oc,od,.func (PySem.W.fnOf name qual params body scope dV kV doc pm an cdv ct),osl⟩) (hcd:PySem.W.codeIn K cdv qual=true) (S:FnScope N ps scope)
  (hbody:∀ (A:Around) (outer:List PySem.Env) (s:Shared) (H:Hp) (E:XK),RoomC cm k (A.deeper (envOfC qual scope s.heap.objs.size f cdv))->DSs (cxC cm P w K mg base N qual scope f cdv A outer s H E) body na G) :
  FnD cm P w K mg base (k+1) f (PySem.W.fnOf name qual params body scope dV kV doc pm an cdv ct) ps (fun ds S=>if ds.length=ps.length then
   match G (ds.map some++List.replicate (N.length-ps.length) none) S with
   | .ok (.rt v) S=>.ok v S
   | .ok (.nx _) S=>.ok .non S
   | .ok _ _=>.bad
   | .ex n S=>.ex n S
   | .bad=>.bad else .bad):=by
 refine⟨fun A outer s H args us vs Q E hr e0 hb r hsp=>?_⟩
 obtain⟨ds,ρ,S0',hl,rd,sr,nb,hok,hex⟩:=hsp;have hl':ds.length=ps.length:=by rw[rd.length];exact hl
 dsimp only at nb hok hex;rw[if_pos hl'] at nb;simp only[if_pos hl'] at hok hex;have KX:K.In s.heap:=e0.mod.kin.keeps fun b o e=>(e0.bs b o e).1
 have lim:s.heap.NoLimit:=e0.mod.nolimit.keeps fun b o e=>(e0.bs b o e).1
 have hkind:∀ y∈ps.zip us,scope.names.lookup y.1=some .local\/(scope.names.lookup y.1=some .cell/\((cellsFrom (s.heap.objs.size+1) scope.names []).lookup y.1).isSome=true):=fun⟨n,v⟩ hy=>by
  rcases S.par n (List.of_mem_zip hy).1 with q|q
  ·exact .inl q
  ·exact .inr ⟨q,PySem.W.cellsFrom_some _ _ _ (.inl q)⟩
 refine codeAny_call_function (by have:=hr.dp;omega) (KX _ _ lk) rfl S.co S.gen rfl (PySem.W.codeRec_of KX hcd) (hb _ _ _ _ ?_)
 refine wpAny_newFunctionEnv_cells S.kind hkind fun env he s1 x=>?_
 subst he;refine⟨lim.keeps x.toInCall.keep,codeAny_func ?_⟩;have hD:=hbody A outer s H E (hr.deeper _);have e0':Env0 P w K mg base { A with handled:=none } outer s H:=⟨e0.frames,e0.mod,e0.bs,e0.bsz,e0.funs,e0.frf,e0.hok,e0.bare⟩
 have I:Inv (cxC cm P w K mg base N qual scope f cdv A outer s H E) [] (start N vs) H s1:=by
  have I0:Inv (Xnp (CXd P w) P w K mg base N qual scope f cdv { A with handled:=none } outer s H E) [] (start N vs) H s1:=Xpu S rfl e0' hl r x
  exact⟨⟨I0.ok.mod,I0.ok.kind,I0.ok.glob,I0.ok.blt,I0.ok.above,I0.ok.inj,I0.ok.has,I0.ok.cab,(fun z=>hr.hd z),I0.ok.frames,I0.ok.stk,I0.ok.exf,I0.ok.bs,I0.ok.bsz,I0.ok.noex,I0.ok.exfs,I0.ok.funs,I0.ok.frf⟩,I0.os,I0.bare,I0.base,I0.loc,I0.cell,I0.free,I0.freeC,I0.pin,I0.hok,I0.len⟩
 have J:S0 (cxC cm P w K mg base N qual scope f cdv A outer s H E) [] (start N vs) H s1 ρ S0' (ds.map some++List.replicate (N.length-ps.length) none):=by
  refine⟨I,sr,⟨?_,fun i d e=>?_⟩⟩
  ·unfold L2.start;simp[rd.length,hl]
  ·by_cases hi:i<ds.length
   ·rw[List.getElem?_append_left (by simpa using hi),List.getElem?_map] at e
    cases q:ds[i]? with
    | none=>rw[q] at e;cases e
    | some d' =>
     rw[q] at e;cases e;obtain⟨v,h1,h2⟩:=rd.get q;refine⟨v,?_,h2⟩;unfold L2.start;rw[List.getElem?_append_left (by rw[List.length_map,<- rd.length];exact hi),List.getElem?_map,h1];rfl
   ·rw[List.getElem?_append_right (by simpa using hi),List.getElem?_replicate] at e
    split at e<;>cases e
 have nb':G (ds.map some++List.replicate (N.length-ps.length) none) S0'≠.bad:=fun z=>nb (by rw[z])
 refine wpAny_mono (hD [] s1 (start N vs) H ρ S0' _ J nb') (fun fl s' hs=>?_) fun e s' hs=>?_
 ·obtain⟨y,S1,e1,hs⟩:=hs
  rw[e1] at nb hok;cases y with
  | nx e =>
   obtain⟨rfl,σ',H',ρ',J',st',_⟩:=hs;exact⟨.non,H',J'.inv.os,J'.inv.bare,J'.inv.base,J'.inv.hok,rfl,hok .non S1 .non H' ρ' rfl (by simp only[RD]) J'.sr st'⟩
  | rt d =>
   obtain⟨u,v,σ',H',ρ',rfl,J',rv,rd',sr',st'⟩:=hs;exact⟨v,H',J'.os,J'.bare,J'.base,J'.hok,rv,hok d S1 v H' ρ' rfl rd' sr' st'⟩
  | brk e=>exact absurd rfl nb
  | cnt e=>exact absurd rfl nb
 ·obtain⟨n,S1,σ',e1,_,H',ρ',a,c,J',rfl,hn,hc,sr',st',fl⟩:=hs
  rw[e1] at hex;obtain⟨C,_,ha⟩:=(show ∃ C,Xah K c=some C/\H' a=some (.ext (ExcO C a)) from sr'.ob n a _ hn hc);exact Xv1 J' rfl rfl rfl ha fl fun h' un hok tr=>⟨H',J'.os,J'.bare,un,hok,⟨a,rfl,tr⟩,hex n c S1 a H' ρ' rfl hn hc sr' st'⟩
end
theorem Xer{pins:List (Addr×Obj)}{t':Nat}{fp:List Addr}(I:Inv X pins σ H s)(hf:∀ b∈fp,Xak X pins H b)
  (k:∀ b o,b ∉ fp->s.heap.get? b=some o->h'.get? b=some o):Inv X pins σ H { s with heap:=h',toks:=t' }:=by
 have nit:∀ b u,H b=some u->b ∉ fp:=fun b u e z=>by rw[(hf b z).1] at e;cases e
 refine I.step (g':=s.gens) (d':=s.drawn) (ch:=fp) (fun b hb=>⟨(hf b hb).2.2.2.1,(hf b hb).2.1,(hf b hb).2.2.2.2.1,(hf b hb).2.2.2.2.2⟩)
  (fun b o _ _ hc e _=>k b o hc e) (fun b o _ _ hc e _=>⟨o.slots,k b o hc e⟩) (fun _ _ _ _ n=>n)
  (fun b o hc e=>⟨o,k b o hc e⟩) (fun _ _ e=>e) (fun _ _ _ e=>e) (fun b ps e=>⟨#[],by rw[e];simp⟩) (fun m hm=>?_) (fun b u e=>?_) I.bare
 ·obtain⟨o,es,ep,ho,r⟩:=hm
  exact⟨o,es,ep,k _ o (fun z=>(hf _ z).2.1 rfl) ho,r⟩
 ·refine(I.hok b u e).stay (fun c v hc q=>k c v ?_ q) (fun _ q=>q) fun _ _ q=>q
  rcases hc with z|z
  ·rw[z];exact nit b u e
  ·exact nit c _ z
def SqK(k:Bool)(h:Heap)(a:Addr)(xs:Array Value):Prop:=match k with
 | true=>h.IsList a xs
 | false=>h.IsTuple a xs
def ItK(k:Bool)(h:Heap)(i a:Addr)(n:Nat):Prop:=match k with
 | true=>h.IsListIter i a n
 | false=>h.IsTupleIter i a n
def SqH(k:Bool)(K:PySem.W.Frag)(H:Hp)(a:Addr)(vs:List V):Prop:=match k with
 | true=>SqL K H a vs
 | false=>SqT K H a vs
section
variable{k:Bool}{h h':Heap}{a b i:Addr}{n:Nat}{xs:Array Value}
theorem ItK.at(x:ItK k h i a n)(e:∀ o,h.get? i=some o->h'.get? i=some o):ItK k h' i a n:=by
 cases k<;>(obtain⟨o,ho,r⟩:=x;exact⟨o,e _ ho,r⟩)
theorem SqK.obj(x:SqK k h a xs):∃ o,h.get? a=some o/\(o.cls=.type "list" \/ o.cls=.type "tuple"):=by
 cases k
 ·obtain⟨o,e,c,_⟩:=x;exact⟨o,e,.inr c⟩
 ·obtain⟨o,e,c,_⟩:=x;exact⟨o,e,.inl c⟩
theorem ItK.obj(x:ItK k h i a n):∃ o,h.get? i=some o/\(o.cls=.type "list_iterator" \/ o.cls=.type "tuple_iterator")/\∀ v,o.data≠.cell v:=by
 cases k
 ·obtain⟨o,e,c,d⟩:=x;exact⟨o,e,.inr c,fun v z=>by rw[d] at z;cases z⟩
 ·obtain⟨o,e,c,d⟩:=x;exact⟨o,e,.inl c,fun v z=>by rw[d] at z;cases z⟩
end
theorem Xhd(I:Inv X pins σ H s)(h:SqH k X.K H a vs):∃ its:List Value,Vals vs its/\SqK k s.heap a its.toArray:=by
 cases k
 ·obtain⟨its,rv,p,_⟩:=I.tuple h;exact⟨its,rv,show s.heap.IsTuple a its.toArray from p⟩
 ·obtain⟨its,rv,p,_⟩:=I.list h;exact⟨its,rv,p.isList⟩
theorem Xsd(I:Inv X pins σ H s)(h:SqH k X.K H a vs)(h':SqH k X.K H a us):vs=us:=by
 cases k
 ·exact I.tuple_inj h h'
 ·exact I.list_inj h h'
section
variable{prog:Program}{w:World}{A:Around}{E:Value->Shared->Prop}{s:Shared}
theorem Xse(hit:s.heap.IsTupleIter it t i)(ht:s.heap.IsTuple t items)(hx:items[i]?=some x)
  (hQ:∀ h',h'.IsTupleIter it t (i+1)->Heap.SameBut it s.heap h'->Q x { s with heap:=h' }):wpAny (model prog w) A (Builtin.SmallTypes.nextOf (.ref it)) Q E s:=by
 obtain⟨o,ho,hc,hd⟩:=id hit;obtain⟨ol,hol,_,nl,hdl⟩:=ht;unfold Builtin.SmallTypes.nextOf;refine wpAny_bind (wpAny_callSpecial?_slot (name:=Str.ofString "__next__") hit.typeIs F.slot_tuple_iterator_next (wpAny_call_entry F.slot_tuple_iterator_next hit.typeIs F.entry_tuple_iterator_next ?_ (F.args_tuple_iterator_next_1 _)));show wpAny _ _ (field (.ref it) 0 >>= _) _ _ s;refine wpAny_bind (wpAny_field ho hd (x:=.ref t) rfl ?_);show wpAny _ _ (if (Value.ref t==Value.none)=true then _ else _) _ _ s;rw[if_neg (show ¬ ((Value.ref t==Value.none)=true) from Bool.false_ne_true)]
 show wpAny _ _ (field (.ref it) 1 >>= _) _ _ s;refine wpAny_bind (wpAny_field ho hd (x:=.int i 0) rfl ?_);show wpAny _ _ (seqItems? (.ref t) >>= _) _ _ s;refine wpAny_bind (wpAny_seqItems hol hdl ?_);simp only[Int.toNat_natCast,hx];refine wpAny_bind (wpAny_setField ho hd (by simp) (wpAny_pure ⟨x,rfl,wpAny_pure (hQ _ ⟨_,Heap.get?_update_self _ ho (Obj.isFreed_of_fields (Obj.data_mapFields hd _)),(Obj.cls_mapFields ..).trans hc,by rw[Obj.data_mapFields hd];simp[rawInt]⟩ (Heap.SameBut.update ..))⟩))
theorem Xv2(hh:A.handled=none)(hit:s.heap.IsTupleIter it t i)(ht:s.heap.IsTuple t items)(hx:items[i]?=none)
  (hE:∀ h' e,Heap.ExtBut it s.heap h'->(∃ o,h'.get? e=some o/\o.cls=.type "StopIteration")->E (.ref e) { s with heap:=h' }):wpAny (model prog w) A (Builtin.SmallTypes.nextOf (.ref it)) Q E s:=by
 obtain⟨o,ho,hc,hd⟩:=id hit;obtain⟨ol,hol,_,nl,hdl⟩:=ht;unfold Builtin.SmallTypes.nextOf;refine wpAny_bind (wpAny_callSpecial?_slot (name:=Str.ofString "__next__") hit.typeIs F.slot_tuple_iterator_next (wpAny_call_entry F.slot_tuple_iterator_next hit.typeIs F.entry_tuple_iterator_next ?_ (F.args_tuple_iterator_next_1 _)));show wpAny _ _ (field (.ref it) 0 >>= _) _ _ s;refine wpAny_bind (wpAny_field ho hd (x:=.ref t) rfl ?_);show wpAny _ _ (if (Value.ref t==Value.none)=true then _ else _) _ _ s;rw[if_neg (show ¬ ((Value.ref t==Value.none)=true) from Bool.false_ne_true)]
 show wpAny _ _ (field (.ref it) 1 >>= _) _ _ s;refine wpAny_bind (wpAny_field ho hd (x:=.int i 0) rfl ?_);show wpAny _ _ (seqItems? (.ref t) >>= _) _ _ s;refine wpAny_bind (wpAny_seqItems hol hdl ?_);simp only[Int.toNat_natCast,hx];refine wpAny_bind (wpAny_rule (wpAny_bind (wpAny_setField ho hd (by simp) ?_)))
 show wpAny _ _ (newExc (.type "StopIteration") [] >>= _) _ _ _;refine wpAny_bind ?_;simp only[newExc,newTuple];refine wpAny_bind (wpAny_newObj_type ?_ (by size_fits));refine wpAny_bind (m:=firstArgMember _ _) (wpAny_of_eq (a:=Value.none) (by first|rfl|(simp only[firstArgMember];rfl)) ?_)
 refine wpAny_newObj_type ?_ (by size_fits);simp only[raiseNew];refine wpAny_bind (wpAny_handled ?_)
 first|rw[show A.in1.handled=none from hh]|rw[hh]
 exact wpAny_bind (wpAny_pure (wpAny_throw (hE _ _ (((Heap.SameBut.update ..).extBut.push _).push _) ⟨_,Heap.get?_push_size _ rfl,rfl⟩)))
theorem nxK(hit:ItK k s.heap it t i)(ht:SqK k s.heap t items)(hx:items[i]?=some x)
  (hQ:∀ h',ItK k h' it t (i+1)->Heap.SameBut it s.heap h'->Q x { s with heap:=h' }):wpAny (model prog w) A (Builtin.SmallTypes.nextOf (.ref it)) Q E s:=by
 cases k
 ·exact Xse hit ht hx hQ
 ·exact wpAny_nextOf_list_item hit ht hx hQ
theorem X5a(hh:A.handled=none)(hit:ItK k s.heap it t i)(ht:SqK k s.heap t items)(hx:items[i]?=none)
  (hE:∀ h' e,Heap.ExtBut it s.heap h'->(∃ o,h'.get? e=some o/\o.cls=.type "StopIteration")->E (.ref e) { s with heap:=h' }):wpAny (model prog w) A (Builtin.SmallTypes.nextOf (.ref it)) Q E s:=by
 cases k
 ·exact Xv2 hh hit ht hx hE
 ·exact wpAny_nextOf_list_end hh hit ht hx hE
noncomputable def Xfi(k:Bool):String:=match k with
 | true => "list_iterator"
 | false => "tuple_iterator"
theorem Xu4(h:SqK k s.heap a xs)(hQ:Q (.ref s.heap.objs.size) { s with heap:=s.heap.push { cls:=.type (Xfi k),data:=.fields #[.ref a,.int 0 0] } }) :
  wpAny (model prog w) A (pyIter (.ref a)) Q E s:=by
 cases k
 ·exact wpAny_pyIter_tuple h hQ
 ·exact wpAny_pyIter_list h hQ
theorem Xv3(e:h.get? i=some { cls:=.type (Xfi k),data:=.fields #[.ref a,.int 0 0] }):ItK k h i a 0:=by
 cases k<;>exact⟨_,e,rfl,rfl⟩
end
abbrev IsZ(h:Heap)(z I O:Addr)(f0 f1:Value):Prop :=
 h.get? z=some { cls:=.type "zip",dict:=none,data:=.fields #[f0,f1,.bool false,.ref I,.ref O],slots:=#[] }
structure ZSa(k1 k2:Bool)(z I O i j a b:Addr)(n m:Nat)(h:Heap):Prop where
 zo:∃ f0 f1,IsZ h z I O f0 f1/\(f0=.none\/∃ T:Nat,f0=rawInt T)
 io:IsPair h I (.ref i) (.ref j)
 oo:∃ x y,IsPair h O x y
 i1:ItK k1 h i a n
 i2:ItK k2 h j b m
section
variable(k1 k2:Bool)(h:Heap)(a b:Addr)
end
theorem Xj6{h:Heap}{o u:Obj}{c:Addr}(e:(h.push o).get? c=some u)(hc:c≠h.objs.size):h.get? c=some u:=by
 rw[Heap.get?_push_ne h c o hc] at e;exact e
section
variable{prog:Program}{w:World}{A:Around}{E:Value->Shared->Prop}{s:Shared}{k1 k2:Bool}{z I O i j a b:Addr}{f0 f1:Value}{n:Nat}{xs ys:Array Value}{x y:Value}
theorem Xp3(h:Q (s.heap.get? a) s):wpAny M A (loadIfAlive a) Q E s:=fun _ _ _=>h
end
theorem ZSa.some{k1 k2:Bool}{z I O i j a b:Addr}{n m:Nat}(x:ZSa k1 k2 z I O i j a b n m h):∀ c∈[z,I,O,i,j],∃ o,h.get? c=some o/\∀ v,o.data≠.cell v:=fun c hc=>by
 simp only[List.mem_cons,List.not_mem_nil,or_false] at hc;rcases hc with e|e|e|e|e<;>subst e
 ·obtain⟨f0,f1,q,_⟩:=x.zo;exact⟨_,q,fun v q=>nomatch q⟩
 ·exact⟨_,x.io,fun v q=>nomatch q⟩
 ·obtain⟨p,q,e⟩:=x.oo;exact⟨_,e,fun v q=>nomatch q⟩
 ·obtain⟨o,e,_,d⟩:=x.i1.obj;exact⟨o,e,d⟩
 ·obtain⟨o,e,_,d⟩:=x.i2.obj;exact⟨o,e,d⟩
abbrev Xcn(h:Heap)(e it:Addr)(i:Int)(f0 f1 old:Value):Prop :=
 h.get? e=some { cls:=.type "enumerate",dict:=none,data:=.fields #[f0,f1,.ref it,rawInt i,.none,old],slots:=#[] }
def EnA(h:Heap)(e it:Addr)(i:Int):Prop:=∃ f0 f1 old,Xcn h e it i f0 f1 old/\(f0=.none\/∃ a:Nat,f0=rawInt a)
structure NSt(k:Bool)(e it a:Addr)(n:Nat)(h:Heap):Prop where
 eo:EnA h e it n
 io:ItK k h it a n
section
variable{prog:Program}{w:World}{A:Around}{E:Value->Shared->Prop}{s:Shared}{k:Bool}{e it a:Addr}{n:Nat}{xs:Array Value}{x:Value}
theorem Xz3{i:Int}{f0 f1 old:Value}{Q':Bool->Shared->Prop}(hz:Xcn s.heap e it i f0 f1 old)(hf:f0=.none\/∃ a:Nat,f0=rawInt a)(h1:Q' true s)(h2:∀ h' (f:Value),EnA h' e it i->Heap.SameBut e s.heap h'->Q' false { s with heap:=h' }):wpAny (model prog w) A (Builtin.SmallTypes.ownedTupleIsFree (.ref e)) Q' E s:=by
 unfold Builtin.SmallTypes.ownedTupleIsFree;rcases hf with rfl|⟨T,rfl⟩
 ·exact wpAny_bind (wpAny_field hz rfl (x:=.none) rfl (wpAny_pure h1))
 ·refine wpAny_bind (wpAny_field hz rfl (x:=rawInt T) rfl ?_)
  show wpAny _ _ (loadIfAlive (Int.toNat (T:Int)) >>= _) _ _ _;refine wpAny_bind (Xp3 ?_);cases s.heap.get? (Int.toNat (T:Int)) with
  | none =>
   simp only[Option.isNone_none,if_true];exact wpAny_pure h1
  | some o =>
   simp only[Option.isNone_some,Bool.false_eq_true,if_false];refine wpAny_bind (wpAny_field hz rfl (x:=f1) rfl ?_);split
   ·exact wpAny_bind (wpAny_setField_rec hz (by simp) fun g5 e5 c5=>wpAny_pure (h2 g5 f1 ⟨_,_,_,e5,.inr ⟨T,rfl⟩⟩ c5))
   ·exact wpAny_pure (h2 s.heap f1 ⟨_,_,_,hz,.inr ⟨T,rfl⟩⟩ (Heap.SameBut.refl ..))
theorem Xv4{hp g4:Heap}{g d tk os}{i:Int}{f0 f1 old:Value}{T:Addr}{Q:Fin->Shared->Prop}(e4:Xcn g4 e it i f0 f1 old)
  (hQ:∀ g7,EnA g7 e it i->(∀ b o,b≠e->g4.get? b=some o->g7.get? b=some o)->Q (.done (.ret (.ref T))) ⟨g7,g,d,tk,os⟩) :
  wpAny (model prog w) A (do
   rule "enumerate.__next__.owned-tuple-again"
   let old <- field (.ref e) 5
   setField (.ref e) 5 x
   Builtin.SmallTypes.ownedTupleHandOut (.ref e) (.ref T)
   letGo [old] [.ref T]
   ret (.ref T)) Q E ⟨g4,g,d,tk,os⟩:=by
 refine wpAny_bind (wpAny_rule (wpAny_bind (wpAny_field e4 rfl (x:=old) rfl (wpAny_bind (wpAny_setField_rec e4 (by simp) fun g5 e5 c5=>?_)))))
 replace c5:Heap.SameBut e g4 g5:=c5;replace e5:Xcn g5 e it i f0 f1 x:=e5
 refine wpAny_bind ?_;unfold Builtin.SmallTypes.ownedTupleHandOut;refine wpAny_bind (wpAny_setField_rec e5 (by simp) fun g6 e6 c6=>?_);replace c6:Heap.SameBut e g5 g6:=c6;replace e6:Xcn g6 e it i (rawInt T) f1 x:=e6
 refine wpAny_setField_rec e6 (by simp) fun g7 e7 c7=>?_;replace c7:Heap.SameBut e g6 g7:=c7;replace e7:Xcn g7 e it i (rawInt T) (.bool false) x:=e7
 exact wpAny_bind (wpAny_letGo (wpAny_pure (hQ g7 ⟨_,_,_,e7,.inr ⟨T,rfl⟩⟩ fun b o h1 q=>c7.extBut b o h1 (c6.extBut b o h1 (c5.extBut b o h1 q)))))
theorem Xsf{Q:Value->Shared->Prop}(hne:e≠it)(he:EnA s.heap e it n)(hi:ItK k s.heap it a n)(ha:SqK k s.heap a xs)(hx:xs[n]?=some x)
  (hQ:∀ h',EnA h' e it ((n:Int)+1)->ItK k h' it a (n+1)->h'.get? s.heap.objs.size=some { cls:=.type "tuple",data:=.seq #[.int n s.toks,x] } ->
   (∀ b o,b≠e->b≠it->s.heap.get? b=some o->h'.get? b=some o)->Q (.ref s.heap.objs.size) { s with heap:=h',toks:=s.toks+1 }) :
  wpAny (model prog w) A (Builtin.«enumerate.__next__» ⟨[.ref e],[]⟩) (fun fin s'=>∃ v,fin=.done (.ret v)/\Q v s') E s:=by
 obtain⟨f0,f1,old,he,hf⟩:=he;obtain⟨hp,g,d,tk,os⟩:=s;show wpAny _ _ (field (.ref e) 2 >>= _) _ _ _;refine wpAny_bind (wpAny_field he rfl (x:=.ref it) rfl (wpAny_bind (nxK hi ha hx fun g1 i1 c1=>?_)))
 replace c1:Heap.SameBut it hp g1:=c1;have e1:Xcn g1 e it n f0 f1 old:=(c1.2 e hne).trans he
 show wpAny _ _ (field (.ref e) 3 >>= _) _ _ ⟨g1,g,d,tk,os⟩;refine wpAny_bind (wpAny_field e1 rfl (x:=rawInt n) rfl ?_);show wpAny _ _ (field (.ref e) 4 >>= _) _ _ ⟨g1,g,d,tk,os⟩;refine wpAny_bind (wpAny_field e1 rfl (x:=.none) rfl ?_);show wpAny _ _ (mkInt n >>= _) _ _ ⟨g1,g,d,tk,os⟩;refine wpAny_bind (wpAny_mkInt ?_);show wpAny _ _ (setField (.ref e) 3 (rawInt ((n:Int)+1)) >>= _) _ _ ⟨g1,g,d,tk+1,os⟩;refine wpAny_bind (wpAny_setField_rec e1 (by simp) fun g2 e2 c2=>?_);replace c2:Heap.SameBut e g1 g2:=c2;replace e2:Xcn g2 e it ((n:Int)+1) f0 f1 old:=e2
 show wpAny _ _ (setField (.ref e) 4 .none >>= _) _ _ ⟨g2,g,d,tk+1,os⟩;refine wpAny_bind (wpAny_setField_rec e2 (by simp) fun g3 e3 c3=>?_);replace c3:Heap.SameBut e g2 g3:=c3;replace e3:Xcn g3 e it ((n:Int)+1) f0 f1 old:=e3
 show wpAny _ _ (newTuple [.int n tk,x] >>= _) _ _ ⟨g3,g,d,tk+1,os⟩;refine wpAny_bind (wpAny_newTuple ?_);have e4:Xcn (g3.push { cls:=.type "tuple",data:=.seq #[.int n tk,x] }) e it ((n:Int)+1) f0 f1 old:=Heap.get?_push_of_some _ e3;generalize q4:g3.push { cls:=.type "tuple",data:=.seq #[.int n tk,x] }=g4 at e4;have sz:g3.objs.size=hp.objs.size:=by rw[c3.1,c2.1,c1.1]
 have el:e<hp.objs.size:=Heap.lt_size he;have t4:g4.get? hp.objs.size=some { cls:=.type "tuple",data:=.seq #[.int n tk,x] }:=by rw[<- q4,<- sz];exact Heap.get?_push_size _ rfl
 have k4:∀ b o,b≠e->b≠it->hp.get? b=some o->g4.get? b=some o:=fun b o h1 h2 hb=>by rw[<- q4];exact Heap.get?_push_of_some _ (c3.extBut b o h1 (c2.extBut b o h1 (c1.extBut b o h2 hb)))
 have i4:ItK k g4 it a (n+1):=i1.at fun o q=>by rw[<- q4];exact Heap.get?_push_of_some _ (c3.extBut _ _ (Ne.symm hne) (c2.extBut _ _ (Ne.symm hne) q))
 show wpAny _ _ (Builtin.SmallTypes.ownedTupleIsFree (.ref e) >>= _) _ _ ⟨g4,g,d,tk+1,os⟩;rw[sz];clear q4 e3 c3 e2 c2 e1 c1 i1 sz g3 g2 g1;have fin:∀ g7,EnA g7 e it ((n:Int)+1)->(∀ b o,b≠e->g4.get? b=some o->g7.get? b=some o)->∃ v,(Fin.done (.ret (.ref hp.objs.size)))=.done (.ret v)/\Q v ⟨g7,g,d,tk+1,os⟩:=fun g7 e7 up =>
  ⟨_,rfl,hQ g7 e7 (i4.at fun o q=>up _ o (Ne.symm hne) q) (up _ _ (Nat.ne_of_gt el) t4) fun b o h1 h2 hb=>up b o h1 (k4 b o h1 h2 hb)⟩
 refine wpAny_bind (Xz3 e4 hf ?_ fun g5 f5 e5 c5=>?_)
 ·simp only[if_true]
  exact Xv4 (hp:=hp) e4 fin
 ·simp only[Bool.false_eq_true,if_false]
  exact wpAny_pure (fin g5 e5 fun b o h1 q=>c5.extBut b o h1 q)
theorem Xj7(hne:e≠it)(he:EnA s.heap e it n)(hi:ItK k s.heap it a n)(ha:SqK k s.heap a xs)(hx:xs[n]?=some x)
  (hQ:∀ h',EnA h' e it ((n:Int)+1)->ItK k h' it a (n+1)->h'.get? s.heap.objs.size=some { cls:=.type "tuple",data:=.seq #[.int n s.toks,x] } ->
   (∀ b o,b≠e->b≠it->s.heap.get? b=some o->h'.get? b=some o)->Q (some (.ref s.heap.objs.size)) { s with heap:=h',toks:=s.toks+1 }):wpAny (model prog w) A (pyNext (.ref e)) Q E s:=by
 have hT:s.TypeIs (.ref e) "enumerate" := by obtain⟨f0,f1,old,he,_⟩:=he;exact⟨_,he,rfl⟩
 unfold pyNext;exact wpAny_bind (wpAny_attempt (wpAny_callSpecial?_slot (name:=Str.ofString "__next__") hT F.slot_enumerate_next (wpAny_call_entry F.slot_enumerate_next hT F.entry_enumerate_next (Xsf hne he hi ha hx fun h' q1 q2 q3 q4=>wpAny_pure (hQ h' q1 q2 q3 q4)) (F.args_enumerate_next_1 _))))
theorem Xj8(hh:A.handled=none)(he:EnA s.heap e it n)(hi:ItK k s.heap it a n)(ha:SqK k s.heap a xs)(hx:xs[n]?=none)
  (hQ:∀ h',Heap.ExtBut it s.heap h'->Q none { s with heap:=h' }):wpAny (model prog w) A (pyNext (.ref e)) Q E s:=by
 obtain⟨f0,f1,old,he,_⟩:=he;have hT:s.TypeIs (.ref e) "enumerate" := ⟨_,he,rfl⟩;unfold pyNext;refine wpAny_bind (wpAny_attempt (wpAny_callSpecial?_slot (name:=Str.ofString "__next__") hT F.slot_enumerate_next (wpAny_call_entry F.slot_enumerate_next hT F.entry_enumerate_next ?_ (F.args_enumerate_next_1 _))));show wpAny _ _ (field (.ref e) 2 >>= _) _ _ _;refine wpAny_bind (wpAny_field he rfl (x:=.ref it) rfl (wpAny_bind (X5a hh hi ha hx fun h' x he' hx'=>?_)))
 obtain⟨o,ho,hc⟩:=hx';exact wpAny_bind (wpAny_isInstance (T := "StopIteration") (b:=true) ⟨o,ho,hc⟩ isSubtype_stop (wpAny_pure (hQ _ he')))
theorem Xz4(hz:EnA s.heap e it i)(hQ:∀ h',EnA h' e it i->Heap.SameBut e s.heap h'->Q () { s with heap:=h' }) :
  wpAny (model prog w) A (letOwnedTupleGo (.Tuple elts x1 pos) (.ref e) (.ref T)) Q E s:=by
 obtain⟨f0,f1,old,hz,hf⟩:=hz;unfold letOwnedTupleGo;refine wpAny_bind (wpAny_load hz ?_);show wpAny _ _ (if (["enumerate","zip","dict_itemiterator","dict_reverseitemiterator","odict_iterator","itertools.zip_longest","itertools.pairwise"].contains "enumerate" && (#[f0,f1,.ref it,rawInt i,.none,old]:Array Value)[0]?==some (rawInt T))=true then _ else _) Q E s
 split
 ·refine wpAny_bind (wpAny_rule ?_)
  show wpAny _ _ (setField (.ref e) 0 .none) Q E s;exact wpAny_setField_rec hz (by simp) fun h' z' c'=>hQ h' ⟨_,_,_,z',.inl rfl⟩ c'
 ·exact wpAny_pure (hQ s.heap ⟨f0,f1,old,hz,hf⟩ (Heap.SameBut.refl ..))
end
theorem Xfj(he:EnA s.heap e it i)(h:Q (.ref e) s):wpAny (model prog w) A (pyIter (.ref e)) Q E s:=by
 obtain⟨f0,f1,old,q,_⟩:=he;have ty:s.TypeIs (.ref e) "enumerate" := ⟨_,q,rfl⟩;exact wpAny_pyIter_slot ty F.slot_enumerate_iter (wpAny_call_entry F.slot_enumerate_iter ty F.entry_enumerate_iter (show wpAny _ _ (ret (.ref e)) _ _ s from wpAny_pure ⟨_,rfl,"enumerate",_,ty,F.slot_enumerate_next.lookup,h⟩) (F.args_enumerate_iter_1 _))
open AutoSeq1 (wpAny_loadPart')
noncomputable def Xz5(k:Bool):String:=match k with
 | true => "list"
 | false => "tuple"
theorem Xsg(k:Bool)(a:Addr)(xs:Array Value)(n:Nat)(dct:Option Addr)(sl:Array (Option Value)):Meets (Builtin.«enumerate.__new__» ⟨[.type "enumerate",.ref a],[]⟩) (fun _ R s=>s.heap.get? a=some { cls:=.type (Xz5 k),dict:=dct,data:=.seq xs n,slots:=sl } /\
   R (.ok (.ret (.ref (s.heap.push { cls:=.type (Xfi k),data:=.fields #[.ref a,.int 0 0] }).objs.size))) { s with heap:=(s.heap.push { cls:=.type (Xfi k),data:=.fields #[.ref a,.int 0 0] }).push { cls:=.type "enumerate",data:=.fields #[.none,.bool false,.ref s.heap.objs.size,rawInt 0,.none,.none] } }) :=
 .of_wp fun prog w A R s h=>by
  obtain⟨hp,g,d,tk,os⟩:=s;obtain⟨hl,h⟩:=h;have hsub:=sub_enumerate;have L:SqK k (Shared.heap ⟨hp,g,d,tk,os⟩) a xs:=by cases k<;>exact⟨_,hl,rfl,n,rfl⟩
  wp_walk using wpAny_loadPart' hl
  refine wpAny_stack_any fun st=>wpAny_pure ?_
  split
  ·rename_i c _ _ _ _ _
   cases (c==Value.type "enumerate")<;>(wp_walk using wpAny_loadPart' hl,Xu4 L;exact⟨_,rfl,h⟩)
  ·wp_walk using wpAny_loadPart' hl,Xu4 L
   exact⟨_,rfl,h⟩
theorem Xmh(hL:SqK k s.heap a xs)
  (h:∀ h',NSt k (s.heap.objs.size+1) s.heap.objs.size a 0 h'->(∀ b o,s.heap.get? b=some o->h'.get? b=some o)->Q (.ref (s.heap.objs.size+1)) { s with heap:=h' }) :
  wpAny (model prog w) A (call (.type "enumerate") [.ref a]) Q E s:=by
 obtain⟨n,dct,sl,hl⟩:∃ n dct sl,s.heap.get? a=some { cls:=.type (Xz5 k),dict:=dct,data:=.seq xs n,slots:=sl }:=by
  cases k<;>(obtain⟨⟨c,dct,dt,sl⟩,hl,hc,n,hd⟩:=hL;cases hc;cases hd;exact⟨n,dct,sl,hl⟩)
 refine callType_new F.called_enumerate (by decide) (F.typeCall_enumerate_1 _) (F.newCall_enumerate_1 _) (fun obj=>F.args_object_init_2 obj _) F.entry_enumerate_new (Xsg k a xs n dct sl) ⟨hl,?_⟩
 have hz:(s.heap.push { cls:=.type (Xfi k),data:=.fields #[.ref a,.int 0 0] }).objs.size=s.heap.objs.size+1:=Heap.size_push ..;show _/\_;rw[hz];have he:Xcn ((s.heap.push { cls:=.type (Xfi k),data:=.fields #[.ref a,.int 0 0] }).push { cls:=.type "enumerate",data:=.fields #[.none,.bool false,.ref s.heap.objs.size,rawInt 0,.none,.none] }) (s.heap.objs.size+1) s.heap.objs.size 0 .none (.bool false) .none:=by
  have:=Heap.get?_push_size (s.heap.push { cls:=.type (Xfi k),data:=.fields #[.ref a,.int 0 0] }) (o:={ cls:=.type "enumerate",data:=.fields #[.none,.bool false,.ref s.heap.objs.size,rawInt 0,.none,.none] }) rfl;rw[hz] at this;exact this
 exact⟨⟨_,he,rfl⟩,h _ ⟨⟨_,_,_,he,.inl rfl⟩,Xv3 (Heap.get?_push_of_some _ (Heap.get?_push_size _ rfl))⟩ fun b o q=>Heap.get?_push_of_some _ (Heap.get?_push_of_some _ q)⟩
noncomputable def Ite(K:PySem.W.Frag)(k:Bool)(a:Addr):L2.It :=
 ⟨fun n H=>∃ xs x,SqH k K H a xs/\xs[n]?=some x,
   fun n H v H'=>∃ T x,v=.ref T/\H T=none/\H'=upd H T (.tup [.int n,x])/\∀ xs,SqH k K H a xs->xs[n]?=some x,
   fun n H=>∃ xs,SqH k K H a xs/\xs.length<=n⟩
theorem NSt.at(x:NSt k e it a n h)(q:∀ c∈[e,it],∀ o,h.get? c=some o->h'.get? c=some o):NSt k e it a n h' :=
 ⟨let ⟨f0,f1,old,z,r⟩:=x.eo;⟨f0,f1,old,q e (by simp) _ z,r⟩,x.io.at fun o z=>q it (by simp) o z⟩
theorem NSt.some(x:NSt k e it a n h):∀ c∈[e,it],∃ o,h.get? c=some o/\∀ v,o.data≠.cell v:=fun c hc=>by
 simp only[List.mem_cons,List.not_mem_nil,or_false] at hc;rcases hc with z|z<;>subst z
 ·obtain⟨f0,f1,old,z,_⟩:=x.eo;exact⟨_,z,fun v q=>nomatch q⟩
 ·obtain⟨o,z,_,d⟩:=x.io.obj;exact⟨o,z,d⟩
theorem Xv5{P:Program}{w:World}{K:PySem.W.Frag}{es:List Expr}{x0:Nat}{tp:Pos}{k:Bool}{e it a:Addr}(hne:e≠it) :
  Turn P w K (.Tuple es x0 tp) (Ite K k a) [e,it] e (fun n h=>NSt k e it a n h) where
 mem:=by simp
 obj:=fun n h st c hc=>st.some c hc
 keep:=fun n h h' st q=>st.at q
 item:=by
  intro X hP hw hK hc n pins s σ H E J hf st hg;subst hP hw hK;obtain⟨xs,x,q1,hx⟩:=hg;obtain⟨its,rv,p⟩:=Xhd J q1;obtain⟨u,hu,ru⟩:=rv.get hx;have hT:H s.heap.objs.size=none:=J.hok.fresh (Nat.le_refl _);have old':∀ c∈[e,it],c≠s.heap.objs.size:=fun c hc=>by obtain⟨o,z,_⟩:=st.some c hc;exact Nat.ne_of_lt (Heap.lt_size z)
  refine Xj7 hne st.eo st.io p (x:=u) (by simpa using hu) fun h' eo' io' pr kp=>⟨_,rfl,Xz4 eo' fun h2 e2 c2=>?_⟩
  have J1:Inv X pins σ (upd H s.heap.objs.size (.tup [.int n,x])) { s with heap:=s.heap.push { cls:=.type "tuple",data:=.seq #[.int n s.toks,u] } }:=J.laid (t':=s.toks) (fun c o z=>Heap.get?_push_of_some _ z) (Nat.le_refl _) ⟨by show 2<=sizeLine;decide,[.int n s.toks,u],.cons ⟨_,rfl⟩ (.cons ru .nil),⟨_,Heap.get?_push_size _ rfl,rfl,_,rfl⟩⟩
  have hf1:∀ c∈[e,it],Xak X pins (upd H s.heap.objs.size (.tup [.int n,x])) c:=fun c hc=>⟨by rw[Xf (old' c hc)];exact(hf c hc).1,(hf c hc).2⟩
  have J2:Inv X pins σ (upd H s.heap.objs.size (.tup [.int n,x])) { s with heap:=h2,toks:=s.toks+1 }:=Xer (s:={ s with heap:=s.heap.push { cls:=.type "tuple",data:=.seq #[.int n s.toks,u] } }) (h':=h2) (t':=s.toks+1) J1 hf1 fun c o hc z=>by
   simp only[List.mem_cons,List.not_mem_nil,or_false,not_or] at hc;refine c2.extBut _ _ hc.1 ?_
   by_cases q:c=s.heap.objs.size
   ·subst q
    have z':=(Heap.get?_push_size s.heap (o:={ cls:=.type "tuple",data:=.seq #[.int n s.toks,u] }) rfl).symm.trans z;rw[<- z'];exact pr
   ·exact kp c o hc.1 hc.2 (Xj6 z q)
  refine⟨.ref s.heap.objs.size,_,J2,rfl,⟨s.heap.objs.size,x,rfl,hT,rfl,fun zs hz=>?_⟩,?_,fun c hc=>(hf1 c hc).1⟩
  ·rw[Xsd J hz q1];exact hx
  ·exact⟨e2,io'.at fun o z=>c2.extBut _ _ (Ne.symm hne) z⟩
 done:=by
  intro X hP hw hK hc n pins s σ H E J hf st hg;subst hP hw hK;obtain⟨xs,q1,hl⟩:=hg;obtain⟨its,rv,p⟩:=Xhd J q1;have l1:=rv.length;refine Xj8 (J.ok.hd hc) st.eo st.io p (by simp;omega) fun h' kp=>⟨rfl,Xer (t':=s.toks) J hf fun c o hc z=>?_⟩
  simp only[List.mem_cons,List.not_mem_nil,or_false,not_or] at hc;exact kp c o hc.2 z
 self:=fun _ _ _ _ _ st h=>Xfj st.eo h
section
variable{prog:Program}{w:World}{A:Around}{E:Value->Shared->Prop}{s:Shared}{k1 k2:Bool}{e z I O i j a b:Addr}{n:Nat}{xs ys:Array Value}{x y:Value}
end
structure EZ(k1 k2:Bool)(e z I O i j a b:Addr)(n:Nat)(h:Heap):Prop where
 eo:EnA h e z n
 zo:ZSa k1 k2 z I O i j a b n n h
theorem EZ.some{k1 k2:Bool}{e z I O i j a b:Addr}{n:Nat}(x:EZ k1 k2 e z I O i j a b n h):∀ c∈[e,z,I,O,i,j],∃ o,h.get? c=some o/\∀ v,o.data≠.cell v:=fun c hc=>by
 obtain⟨⟨f0,f1,old,q1,q2⟩,⟨⟨g0,g1,r1,r2⟩,io,⟨p,q,oo⟩,i1,i2⟩⟩:=x;simp only[List.mem_cons,List.not_mem_nil,or_false] at hc;rcases hc with u|u|u|u|u|u<;>subst u
 ·exact⟨_,q1,fun v q=>nomatch q⟩
 ·exact⟨_,r1,fun v q=>nomatch q⟩
 ·exact⟨_,io,fun v q=>nomatch q⟩
 ·exact⟨_,oo,fun v q=>nomatch q⟩
 ·obtain⟨o,u,_,d⟩:=i1.obj;exact⟨o,u,d⟩
 ·obtain⟨o,u,_,d⟩:=i2.obj;exact⟨o,u,d⟩
end Z
end
section
namespace Z
open PySem PySem.Spec PyProof.Rows L2
open AutoSeq1 (wpAny_loadPart')
end Z
end
section
namespace Z
open PySem PySem.Spec PyProof.Rows L2
theorem Xiv(a b:Int):Builtin.Range.rangeSize a b (-1)=if a>b then a-b else 0:=by
 unfold Builtin.Range.rangeSize;rw[if_neg (by decide)]
 split<;>simp<;>omega
theorem Xnv(ha:-(2^62)<=a)(ha':a<2^62)(hb:-(2^62)<=b)(hb':b<2^62):Builtin.Range.small a b (-1)=true:=by
 unfold Builtin.Range.small;rw[Xiv];simp only[Builtin.Range.rangeFitsLong,bA0,Bool.or_eq_true,decide_eq_true_eq,beq_iff_eq,show ¬ (-1:Int)>0 by decide,if_false]
 split<;>omega
noncomputable def Itd(lo:Int)(n:Nat):L2.It where
 go:=fun i _=>i<n
 yld:=fun i H x H'=>H'=H/\x=.int (lo-i)
 stop:=fun i _=>n<=i
theorem Xp4{P:Program}{w:World}{K:PySem.W.Frag}{tg:Expr}(it:Addr)(lo:Int)(n:Nat):Turn P w K tg (Itd lo n) [it] it (fun i h=>IsRangeIter h it (lo+(i:Nat)*(-1)) ((n:Int)-(i:Nat)) (-1)) where
 mem:=by simp
 obj:=fun i h st b hb=>by
  obtain rfl:b=it:=by simpa using hb
  exact⟨_,st,fun v z=>nomatch z⟩
 keep:=fun i h h' st k=>k it (by simp) _ st
 item:=by
  intro X hP hw hK hc i pins s σ H E I hf st hg;subst hP hw hK;obtain⟨f0,f1,f2,f3,f4,f5⟩:=hf it (by simp)
  refine(Walks.range (prog:=X.prog) (w:=X.w) (I.ok.hd hc) it lo (-1) n).item i s _ _ hg st fun v h' tk hv st' kk=>?_
  obtain⟨t,rfl⟩:=hv;have I1:Inv X pins σ H { s with heap:=h',toks:=tk }:=I.turned (fun b o hb e=>kk b o (by simpa using hb) e) f0 f1 f3 f4 f5
  refine⟨_,rfl,Xjg (s:={ s with heap:=h',toks:=tk }) (n := "range_iterator") st' rfl rfl (by decide) ⟨.int (lo-i),H,I1,⟨t,?_⟩,⟨rfl,rfl⟩,st',fun b hb=>(hf b hb).1⟩⟩
  have e:lo+(i:Int)*(-1)=lo-i:=by omega
  rw[e]
 done:=by
  intro X hP hw hK hc i pins s σ H E I hf st hg;subst hP hw hK;obtain⟨f0,f1,f2,f3,f4,f5⟩:=hf it (by simp)
  have hn:n<=i:=hg;exact wpAny_pyNext_range_end (I.ok.hd hc) st (by omega) fun h' eb=>⟨rfl,I.turned (t':=s.toks) (fun b o hb e=>eb b o hb e) f0 f1 f3 f4 f5⟩
 self:=fun _ _ _ _ _ st h=>wpAny_pyIter_rangeiter st h
section
variable{X:Cx}{tg:Expr}
theorem Xv6{pins:List (Addr×Obj)}{R:L2.It->Hp->Prop}{E:Value->Shared->Prop}{lo hi:Int}{tk:Nat}(I:Inv X pins σ H s)(h1:-(2^62)<=lo)(h2:lo<2^62)(h3:-(2^62)<=hi)(h4:hi<2^62)
  (q:R (Itd lo (lo-hi).toNat) H):wpAny (model X.prog X.w) X.A (pyIter (.ref s.heap.objs.size)) (PIE X pins σ tg R) E { s with heap:=s.heap.push { cls:=.type "range",data:=.fields #[.int lo t,.int hi u,.int (-1) v] },toks:=tk }:=by
 refine wpAny_pyIter_range (IsRange.new ..) (Xnv h1 h2 h3 h4) ?_;generalize hR:({ cls:=.type "range",data:=.fields #[.int lo t,.int hi u,.int (-1) v] }:Obj)=ro;have I1:Inv X pins σ H { s with heap:=s.heap.push ro,toks:=tk }:=I.kept fun b o e=>Heap.get?_push_of_some _ e
 refine⟨(s.heap.push ro).objs.size,[(s.heap.push ro).objs.size],_,_,H,rfl,I1.kept (t':=tk) fun b o e=>Heap.get?_push_of_some _ e,Xp4 _ lo (lo-hi).toNat,?_,fun b hb=>?_,q⟩
 ·have e1:lo+((0:Nat):Int)*(-1)=lo:=by simp
  have e2:(((lo-hi).toNat:Nat):Int)-((0:Nat):Int)=Builtin.Range.rangeSize lo hi (-1):=by rw[Xiv];split<;>omega
  show IsRangeIter _ _ (lo+((0:Nat):Int)*(-1)) ((((lo-hi).toNat:Nat):Int)-((0:Nat):Int)) (-1);rw[e1,e2];exact Heap.get?_push_size _ rfl
 ·obtain rfl:b=(s.heap.push ro).objs.size:=by simpa using hb
  exact I1.fpOk (Nat.le_refl _) (I1.hok.fresh (Nat.le_refl _))
end
section
variable{X:Cx}{pins:List (Addr×Obj)}{σ:L2.St}{H:Hp}{s:Shared}{ρ:List Addr}{S S':Sto}{env:En}{Q:Value->Shared->Prop}{E:Value->Shared->Prop}{a b c e tg iter:Expr}{f fa fb fc:En->Sto->R D}{pos:Pos}
def DG(X:Cx)(tg:Expr)(t:Tg):Prop :=
 ∀ (pins:List (Addr×Obj)) (s:Shared) (σ:L2.St) (H:Hp) (ρ:List Addr) (S:Sto) (env:En) (d:D) (v:V) (u:Value) (env':En) (Q:Unit->Shared->Prop) (E:Value->Shared->Prop),S0 X pins σ H s ρ S env->Xp t d env=some env'->RD X.K ρ H d v->RelV v u ->
  (∀ s' σ',S0 X pins σ' H s' ρ S env'->Q () s')->wpAny (model X.prog X.w) X.A (assign tg X.env u) Q E s
theorem Xv7(hN:X.N.Nodup)(hi:X.N[i]?=some x)(hx:Loc X.env.scope x)(hf:X.fn x=true\/X.env.scope.names.lookup x=some .local):DG X (.Name x pos) (.var i):=by
 intro pins s σ H ρ S env d v u env' Q E I h rd rv hQ;simp only[Xp,Option.some.injEq] at h;subst h;exact wpAny_assign_Name (Xba I.inv hN hi hx rv (fun s' I'=>hQ s' _ ⟨I',I.sr,I.er.set i rd⟩) hf)
noncomputable def gNs:List Nat->TGs
 | []=>Xzh
 | i::is=>Xuy (Xux i) (gNs is)
theorem Xp5:∀ (is:List Nat) (vs:List V) (σ:L2.St) (H:Hp) (Q:L2.St->Hp->Prop),is.length=vs.length->Q ((is.zip vs).foldl (fun e p=>e.set p.1 (some p.2)) σ) H->gNs is vs σ H Q
 | [],vs,σ,H,Q,hl,h=>by
  have:vs=[]:=by simpa using hl.symm
  subst this;exact⟨rfl,h⟩
 | i::is,[],σ,H,Q,hl,h=>by simp at hl
 | i::is,v::vs,σ,H,Q,hl,h=>⟨v,vs,rfl,Xp5 is vs _ H Q (by simpa using hl) h⟩
theorem ER.sets{K:PySem.W.Frag}:∀ (is:List Nat) (ds:List D) (vs:List V) (env:En) (σ:L2.St),RDs K ρ H ds vs->ER K ρ H env σ->ER K ρ H ((is.zip ds).foldl (fun e p=>e.set p.1 (some p.2)) env) ((is.zip vs).foldl (fun e p=>e.set p.1 (some p.2)) σ)
 | [],ds,vs,env,σ,r,e=>by simpa using e
 | i::is,[],vs,env,σ,r,e=>by simp only[RDs] at r;subst r;simpa using e
 | i::is,d::ds,vs,env,σ,r,e=>by
  simp only[RDs] at r;obtain⟨v,vs',rfl,h1,h2⟩:=r;exact ER.sets is ds vs' _ _ h2 (e.set i h1)
theorem Xz6(hc:X.calm=true)(h:∀ E,PGs (X.wish E) es (gNs is))(hn:(assignEach es X.env).length=is.length)(hst:(assignEach es X.env).findIdx? (·.1)=none):DG X (.Tuple es k pos) (.tup is):=by
 intro pins s σ H ρ S env d v u env' Q E I hd rd rv hQ;cases d with
 | tup ds =>
  simp only[Xp] at hd;split at hd
  ·rename_i hl
   cases hd;simp only[RD] at rd;obtain⟨a,vs,rfl,hs,hr⟩:=rd;have hlv:is.length=vs.length:=by rw[hl,hr.length]
   refine thn (Xzi (X:=X.wish E) (n:=is.length) hc (h E) hn hst pins s σ H (.ref a) u (fun σ' H'=>H'=H/\σ'=(is.zip vs).foldl (fun e p=>e.set p.1 (some p.2)) σ) (I.inv.wish E) rv ⟨a,vs,rfl,hs,hlv.symm,Xp5 is vs σ H _ hlv ⟨rfl,rfl⟩⟩) fun _ s' ⟨σ',H',J,e1,e2⟩=>?_
   subst e1 e2;exact hQ s' _ ⟨J.unwish,I.sr,ER.sets is ds vs env σ hr I.er⟩
  ·cases hd
 | _=>cases hd
theorem Xp6:∀ (is:List Nat) (xs:List (Str×Pos)),X.N.Nodup->is.length=xs.length->(∀ (j i:Nat) (x:Str×Pos),is[j]?=some i->xs[j]?=some x->X.N[i]?=some x.1/\Loc X.env.scope x.1/\(X.fn x.1=true\/X.env.scope.names.lookup x.1=some .local)) ->
  PGs X (xs.map fun x=>Expr.Name x.1 x.2) (gNs is)
 | [],xs,_,hl,_=>by
  have:xs=[]:=by simpa using hl.symm
  subst this;exact Xvr
 | i::is,[],_,hl,_=>by simp at hl
 | i::is,x::xs,hN,hl,h=>by
  obtain⟨h1,h2,h3⟩:=h 0 i x rfl rfl;exact Xr5 (Xvq hN h1 h2 h3) (Xp6 is xs hN (by simpa using hl) fun j i' x' e1 e2=>h (j+1) i' x' (by simpa using e1) (by simpa using e2)) rfl
theorem Xgd:∀ (xs:List (Str×Pos)) (env:PySem.Env),(assignEach (xs.map fun x=>Expr.Name x.1 x.2) env).length=xs.length/\(assignEach (xs.map fun x=>Expr.Name x.1 x.2) env).findIdx? (·.1)=none
 | [],env=>⟨rfl,rfl⟩
 | x::xs,env=>by
  have h:=Xgd xs env;have e:assignEach ((x::xs).map fun x=>Expr.Name x.1 x.2) env=(false,assign (.Name x.1 x.2) env)::assignEach (xs.map fun x=>Expr.Name x.1 x.2) env:=rfl
  rw[e];refine⟨by simp[h.1],?_⟩
  rw[List.findIdx?_cons];simp[h.2]
def SrcK(K:PySem.W.Frag)(ρ:List Addr)(H:Hp):Src->Bool->Addr->Prop
 | .con xs,false,a=>∃ vs,SqT K H a vs/\RDs K ρ H xs vs
 | .ref n,true,a=>ρ[n]?=some a
 | _,_,_=>False
theorem SrcK.mono'{K:PySem.W.Frag}{ρ':List Addr}{H':Hp}{src:Src}{k:Bool}{a:Addr}(x:Mon K ρ ρ' H H')(h:SrcK K ρ H src k a):SrcK K ρ' H' src k a:=by
 cases src with
 | con xs=>cases k with
  | false=>obtain⟨vs,h1,h2⟩:=h;exact⟨vs,x.tup _ _ h1,RDs.mono' x _ _ h2⟩
  | true=>exact h.elim
 | ref n=>cases k with
  | false=>exact h.elim
  | true=>exact x.pre _ _ h
 | enm _=>exact h.elim
theorem SrcK.get{src:Src}{k:Bool}{a:Addr}{i:Nat}{o:Option D}(h:SrcK X.K ρ H src k a)(I:S0 X pins σ H s ρ S env)(g:src.get S i=some o):∃ vs,SqH k X.K H a vs/\match o with
  | some d=>∃ v,vs[i]?=some v/\RD X.K ρ H d v
  | none=>vs.length<=i:=by
 cases src with
 | con xs=>cases k with
  | false =>
   obtain⟨vs,h1,h2⟩:=h;simp only[Src.get,Option.some.injEq] at g;refine⟨vs,h1,?_⟩;cases o with
   | some d=>exact h2.get g
   | none=>have:=h2.none g;rw[List.getElem?_eq_none_iff] at this;exact this
  | true=>exact h.elim
 | ref n=>cases k with
  | false=>exact h.elim
  | true =>
   simp only[Src.get,Option.map_eq_some_iff] at g;obtain⟨xs,g1,g2⟩:=g;obtain⟨a',vs,k1,k2,k3⟩:=I.list g1;have h':ρ[n]?=some a:=h;rw[h'] at k1;cases k1;refine⟨vs,.of k2,?_⟩;cases o with
   | some d=>exact k3.get g2
   | none=>have:=k3.none g2;rw[List.getElem?_eq_none_iff] at this;exact this
 | enm _=>exact h.elim
inductive SrcR(K:PySem.W.Frag)(ρ:List Addr)(H:Hp):Src->L2.It->Prop where
 | tup {a:Addr} {xs:List D} {vs:List V}:SqT K H a vs->RDs K ρ H xs vs->SrcR K ρ H (.con xs) (Itt K a)
 | rng (lo:Int) (n:Nat):SrcR K ρ H (.con ((List.range n).map fun(k:Nat)=>D.int (lo+k))) (Itr lo n)
 | lst {n:Nat} {a:Addr}:ρ[n]?=some a->SrcR K ρ H (.ref n) (Itl K a)
 | dwn (lo:Int) (n:Nat):SrcR K ρ H (.con ((List.range n).map fun(k:Nat)=>D.int (lo-k))) (Itd lo n)
 | enm {s1:Src} {k:Bool} {a:Addr}:SrcK K ρ H s1 k a->SrcR K ρ H (.enm s1) (Ite K k a)
theorem SrcR.mono'{K:PySem.W.Frag}{ρ':List Addr}{H':Hp}{src:Src}{J:L2.It}(x:Mon K ρ ρ' H H')(h:SrcR K ρ H src J):SrcR K ρ' H' src J:=by
 cases h with
 | tup h1 h2=>exact .tup (x.tup _ _ h1) (RDs.mono' x _ _ h2)
 | rng lo n=>exact .rng lo n
 | lst h=>exact .lst (x.pre _ _ h)
 | dwn lo n=>exact .dwn lo n
 | enm h1=>exact .enm (h1.mono' x)
theorem SrcR.mono{K:PySem.W.Frag}{ρ':List Addr}{H':Hp}{src:Src}{J:L2.It}(x:Stp K ρ ρ' H H')(h:SrcR K ρ H src J):SrcR K ρ' H' src J:=h.mono' x.toMon
theorem Xmi(g:(Src.enm s1).get S i=some o):∃ o1,s1.get S i=some o1/\match o with
  | some d=>∃ x,o1=some x/\d=.tup [.int i,x]
  | none=>o1=none:=by
 simp only[Src.get] at g;split at g
 ·rename_i x e1;cases g;exact⟨_,e1,x,rfl,rfl⟩
 ·rename_i hn
  refine⟨o,g,?_⟩;cases o with
  | none=>rfl
  | some x=>exact(hn x g).elim
theorem SrcR.go(h:SrcR X.K ρ H src J)(I:S0 X pins σ H s ρ S env)(g:src.get S i=some (some d)) :
  J.go i H/\∀ x H',J.yld i H x H'->SR X.K ρ S H'/\Stp X.K ρ ρ H H'/\RD X.K ρ H' d x:=by
 cases h with
 | @tup a xs vs h1 h2 =>
  simp only[Src.get,Option.some.injEq] at g;obtain⟨v,e1,e2⟩:=h2.get g;refine⟨⟨vs,v,h1,e1⟩,fun x H' y=>?_⟩
  obtain⟨rfl,y⟩:=y;have:=y vs h1;rw[e1] at this;cases this;exact⟨I.sr,.refl,e2⟩
 | rng lo n =>
  simp only[Src.get,Option.some.injEq] at g;rw[List.getElem?_map] at g;have hi:i<n:=by
   by_cases hi:i<n
   ·exact hi
   ·rw[List.getElem?_eq_none (by simpa using hi)] at g;cases g
  rw[List.getElem?_range hi] at g;simp only[Option.map_some,Option.some.injEq] at g;subst g;refine⟨hi,fun x H' y=>?_⟩
  obtain⟨rfl,rfl⟩:=y;exact⟨I.sr,.refl,by simp only[RD]⟩
 | @lst n a h =>
  simp only[Src.get,Option.map_eq_some_iff] at g;obtain⟨xs,g1,g2⟩:=g;obtain⟨a',vs,k1,k2,k3⟩:=I.list g1;rw[h] at k1;cases k1;obtain⟨v,e1,e2⟩:=k3.get g2;refine⟨⟨vs,v,.of k2,e1⟩,fun x H' y=>?_⟩
  obtain⟨rfl,y⟩:=y;have:=y vs (.of k2);rw[e1] at this;cases this;exact⟨I.sr,.refl,e2⟩
 | dwn lo n =>
  simp only[Src.get,Option.some.injEq] at g;rw[List.getElem?_map] at g;have hi:i<n:=by
   by_cases hi:i<n
   ·exact hi
   ·rw[List.getElem?_eq_none (by simpa using hi)] at g;cases g
  rw[List.getElem?_range hi] at g;simp only[Option.map_some,Option.some.injEq] at g;subst g;refine⟨hi,fun x H' y=>?_⟩
  obtain⟨rfl,rfl⟩:=y;exact⟨I.sr,.refl,by simp only[RD]⟩
 | @enm s1 k a h1 =>
  obtain⟨o1,g1,x,rfl,rfl⟩:=Xmi g;obtain⟨vs,q1,v,e1,r1⟩:=h1.get I g1;refine⟨⟨vs,v,q1,e1⟩,fun w H' yd=>?_⟩
  obtain⟨T,v',rfl,hT,rfl,z1⟩:=yd;have z1':=z1 vs q1;rw[e1] at z1';cases z1';have st:Stp X.K ρ ρ H (upd H T (.tup [.int i,v])):=Stp.upd hT;refine⟨I.sr.upd hT,st,?_⟩;simp only[RD];exact⟨T,[.int i,v],rfl,.of Yb,.cons (by simp only[RD]) (.cons (r1.mono st) .nil)⟩
theorem SrcR.stop(h:SrcR X.K ρ H src J)(I:S0 X pins σ H s ρ S env)(g:src.get S i=some none):J.stop i H:=by
 cases h with
 | @tup a xs vs h1 h2 =>
  simp only[Src.get,Option.some.injEq] at g;exact⟨vs,h1,by have:=h2.none g;rw[List.getElem?_eq_none_iff] at this;exact this⟩
 | rng lo n =>
  simp only[Src.get,Option.some.injEq] at g;rw[List.getElem?_eq_none_iff] at g;show n<=i
  simpa using g
 | @lst n a h =>
  simp only[Src.get,Option.map_eq_some_iff] at g;obtain⟨xs,g1,g2⟩:=g;obtain⟨a',vs,k1,k2,k3⟩:=I.list g1;rw[h] at k1;cases k1;exact⟨vs,.of k2,by have:=k3.none g2;rw[List.getElem?_eq_none_iff] at this;exact this⟩
 | dwn lo n =>
  simp only[Src.get,Option.some.injEq] at g;rw[List.getElem?_eq_none_iff] at g;show n<=i
  simpa using g
 | @enm s1 k a h1 =>
  obtain⟨o1,g1,ho⟩:=Xmi g;obtain⟨vs,q1,r1⟩:=h1.get I g1;cases ho;exact⟨vs,q1,r1⟩
def ItP(X:Cx)(pins:List (Addr×Obj))(σ:L2.St)(ρ:List Addr)(H:Hp)(tg:Expr)(r:R Src)(itv:Value)(s2:Shared):Prop :=
 ∃ src S' it fp tn J H' ρ',r=.ok src S'/\itv=.ref it/\Inv X pins σ H' s2/\Turn X.prog X.w X.K tg J fp it tn/\tn 0 s2.heap/\(∀ b∈fp,Xak X pins H' b)/\SrcR X.K ρ' H' src J/\SR X.K ρ' S' H'/\Stp X.K ρ ρ' H H'
def DI(X:Cx)(tg iter:Expr)(f:En->Sto->R Src):Prop :=
 ∀ (pins:List (Addr×Obj)) (s:Shared) (σ:L2.St) (H:Hp) (ρ:List Addr) (S:Sto) (env:En) (E:Value->Shared->Prop),S0 X pins σ H s ρ S env->f env S≠.bad->(∀ x s',ExP X pins σ ρ H (f env S) x s'->E x s') ->
  wpAny (model X.prog X.w) X.A (eval iter X.env) (fun v s1=>wpAny (model X.prog X.w) X.A (pyIter v) (ItP X pins σ ρ H tg (f env S)) E s1) E s
theorem Xz7(he:DE X iter f):DI X tg iter (fun env S=>(f env S).bind fun x S=>match Yk S x with|some r=>.ok r S|none=>.bad):=by
 intro pins s σ H ρ S env E I nb hE;dsimp only at nb hE ⊢;cases q:f env S with
 | bad=>rw[q] at nb;exact absurd rfl nb
 | ex n S1=>rw[q] at hE;exact he.ex I q fun x s' z=>hE x s' ⟨n,S1,rfl,z⟩
 | ok d S1 =>
  rw[q] at nb;simp only[Rk0] at nb ⊢;refine he.ok I q fun u s1 v H1 ρ1 I1 rv rd st1=>?_
  cases d with
  | tup xs =>
   simp only[RD] at rd;obtain⟨a,vs,rfl,h1,h2⟩:=rd;cases rv;obtain⟨its,rvs,p,hz⟩:=I1.inv.tuple h1;refine wpAny_pyIter_tuple (show s1.heap.IsTuple a its.toArray from p) ?_;refine⟨_,S1,s1.heap.objs.size,[s1.heap.objs.size],_,_,H1,ρ1,rfl,rfl,I1.inv.kept (t':=s1.toks) fun b o e=>Heap.get?_push_of_some _ e,Xnl a _,⟨_,Heap.get?_push_size _ rfl,rfl,rfl⟩,fun b hb=>?_,.tup h1 h2,I1.sr,st1⟩
   have e:b=s1.heap.objs.size:=by simpa using hb
   subst e;exact I1.inv.fpOk (Nat.le_refl _) (I1.inv.hok.fresh (Nat.le_refl _))
  | ref n =>
   cases e1:Xb S1 n with
   | none=>simp[Yk,e1] at nb
   | some xs =>
    obtain⟨a,vs,k1,k2,k3⟩:=I1.list e1;simp only[RD] at rd;obtain⟨a',rfl,k4⟩:=rd;rw[k1] at k4;cases k4;cases rv;obtain⟨its,rvs,p,hz⟩:=I1.inv.list (.of k2);refine wpAny_pyIter_list p.isList ?_;refine⟨.ref n,S1,s1.heap.objs.size,[s1.heap.objs.size],_,_,H1,ρ1,by simp[Yk,e1],rfl,I1.inv.kept (t':=s1.toks) fun b o e=>Heap.get?_push_of_some _ e,Xpp a _,⟨_,Heap.get?_push_size _ rfl,rfl,rfl⟩,fun b hb=>?_,.lst k1,I1.sr,st1⟩
    have e:b=s1.heap.objs.size:=by simpa using hb
    subst e;exact I1.inv.fpOk (Nat.le_refl _) (I1.inv.hok.fresh (Nat.le_refl _))
  | non=>simp[Yk] at nb
  | bl _=>simp[Yk] at nb
  | int _=>simp[Yk] at nb
  | str _=>simp[Yk] at nb
  | fro _=>simp[Yk] at nb
  | fn _ _=>simp[Yk] at nb
theorem Xp7{tk:Nat}{lo hi:Int}{ds:List D}(I:S0 X pins σ H s ρ S env)(h1:-(2^62)<=lo)(h2:lo<2^62)(h3:-(2^62)<=hi)(h4:hi<2^62)(hds:ds=(List.range (hi-lo).toNat).map fun(k:Nat)=>D.int (lo+k)) :
  wpAny (model X.prog X.w) X.A (pyIter (.ref s.heap.objs.size)) (ItP X pins σ ρ H tg (.ok (.con ds) S)) E { s with heap:=s.heap.push { cls:=.type "range",data:=.fields #[.int lo t,.int hi u,.int 1 v] },toks:=tk }:=by
 refine thn (Xr6 (X:=X.wish E) (tg:=tg) (R:=fun J H'=>J=Itr lo (hi-lo).toNat/\H'=H) (I.inv.wish E) h1 h2 h3 h4 ⟨rfl,rfl⟩) fun itv s2 ⟨it,fp,tn,J,H',e1,J',T,t0,fo,e2,e3⟩=>?_
 subst e2 e3;exact⟨_,S,it,fp,tn,_,H',ρ,rfl,e1,J'.unwish,T,t0,fo,by rw[hds];exact .rng _ _,I.sr,.refl⟩
theorem Xsh{tk:Nat}{lo hi:Int}(I:S0 X pins σ H s ρ S env)(h1:-(2^62)<=lo)(h2:lo<2^62)(h3:-(2^62)<=hi)(h4:hi<2^62) :
  wpAny (model X.prog X.w) X.A (pyIter (.ref s.heap.objs.size)) (ItP X pins σ ρ H tg (.ok (.con ((List.range (lo-hi).toNat).map fun(k:Nat)=>D.int (lo-k))) S)) E { s with heap:=s.heap.push { cls:=.type "range",data:=.fields #[.int lo t,.int hi u,.int (-1) v] },toks:=tk }:=by
 refine thn (Xv6 (X:=X.wish E) (tg:=tg) (R:=fun J H'=>J=Itd lo (lo-hi).toNat/\H'=H) (I.inv.wish E) h1 h2 h3 h4 ⟨rfl,rfl⟩) fun itv s2 ⟨it,fp,tn,J,H',e1,J',T,t0,fo,e2,e3⟩=>?_
 subst e2 e3;exact⟨_,S,it,fp,tn,_,H',ρ,rfl,e1,J'.unwish,T,t0,fo,.dwn _ _,I.sr,.refl⟩
theorem Xz8 {es:List Expr} {g:En->Sto->R (List D)} (hg:Gl X "range") (hm:X.mg "range" = none) (ha:DA X (a::es) g) (hs:starEach (a::es) X.env=(false,eval a X.env)::starEach es X.env) (hpl:(backTo pos (starEach es X.env)).any (·.1)=false) :
  DI X tg (.Call (.Name "range" p) (a::es) [] pos) (fun env S=>(g env S).bind fun xs S=>match Yh xs with|some ds=>.ok (.con ds) S|none=>.bad):=by
 intro pins s σ H ρ S env E I nb hE;dsimp only at nb hE ⊢;refine Call_ (Xaj I.inv hg hm boot_range (PyProof.Rows.callWith_type1 ?_ hs hpl));cases q:g env S with
 | bad=>rw[q] at nb;exact absurd rfl nb
 | ex n S1=>rw[q] at hE;exact ha.ex I q fun x s' z=>hE x s' ⟨n,S1,rfl,z⟩
 | ok ds S1 =>
  rw[q] at nb;simp only[Rk0] at nb ⊢;refine ha.ok I q fun us s1 vs H1 ρ1 I1 rv rd st1=>?_
  have fin:∀ {tk:Nat} {lo hi:Int} {t u v:Tok} {xs:List D},-(2^62)<=lo->lo<2^62->-(2^62)<=hi->hi<2^62->xs=(List.range (hi-lo).toNat).map (fun(k:Nat)=>D.int (lo+k)) ->
    wpAny (model X.prog X.w) X.A (pyIter (.ref s1.heap.objs.size)) (ItP X pins σ ρ H tg (.ok (.con xs) S1)) E { s1 with heap:=s1.heap.push { cls:=.type "range",data:=.fields #[.int lo t,.int hi u,.int 1 v] },toks:=tk }:=fun h1 h2 h3 h4 h5 =>
   wpAny_mono (Xp7 I1 h1 h2 h3 h4 h5) (fun itv s2 ⟨src,S2,it,fp,tn,J,H2,ρ2,z1,z2,z3,z4,z5,z6,z7,z8,z9⟩=>⟨src,S2,it,fp,tn,J,H2,ρ2,z1,z2,z3,z4,z5,z6,z7,z8,st1.trans z9⟩) fun _ _ z=>z
  match ds,rd,nb with
  | [],rd,nb=>simp[Yh] at nb
  | [d],rd,nb =>
   cases d with
   | int j =>
    simp only[Yh] at nb ⊢
    by_cases hz:-(1048576)<j/\j<1048576
    ·rw[if_pos hz] at nb ⊢
     simp only[RDs] at rd;obtain⟨v,r,rfl,r1,rfl⟩:=rd;simp only[RD] at r1;subst r1;cases rv with
     | cons q1 q2 =>
      cases q2;obtain⟨t,rfl⟩:=q1;refine call_range_1 (fin (by omega) (by omega) (by omega) (by omega) ?_)
      simp
    ·rw[if_neg hz] at nb;exact absurd rfl nb
   | _=>simp[Yh] at nb
  | [d1,d2],rd,nb =>
   cases d1 with
   | int i=>cases d2 with
    | int j =>
     simp only[Yh] at nb ⊢
     by_cases hz:-(1048576)<i/\i<1048576/\-(1048576)<j/\j<1048576
     ·rw[if_pos hz] at nb ⊢
      simp only[RDs] at rd;obtain⟨v,r,rfl,r1,v2,r2,rfl,r3,rfl⟩:=rd;simp only[RD] at r1 r3;subst r1 r3;cases rv with
      | cons q1 q2 =>
       cases q2 with
       | cons q3 q4 =>
        cases q4;obtain⟨t,rfl⟩:=q1;obtain⟨t',rfl⟩:=q3;exact call_range_2 (fin (by omega) (by omega) (by omega) (by omega) rfl)
     ·rw[if_neg hz] at nb;exact absurd rfl nb
    | _=>simp[Yh] at nb
   | _=>simp[Yh] at nb
  | [d1,d2,d3],rd,nb =>
   cases d1 with
   | int i=>cases d2 with
    | int j=>cases d3 with
     | int c =>
      simp only[Yh] at nb ⊢
      by_cases hz:c = -1/\-(1048576)<i/\i<1048576/\-(1048576)<j/\j<1048576
      ·rw[if_pos hz] at nb ⊢
       simp only[RDs] at rd;obtain⟨v,r,rfl,r1,v2,r2,rfl,r3,v3,r4,rfl,r5,rfl⟩:=rd;simp only[RD] at r1 r3 r5;subst r1 r3 r5;obtain⟨rfl,hz⟩:=hz;cases rv with
       | cons q1 q2 =>
        cases q2 with
        | cons q3 q4 =>
         cases q4 with
         | cons q5 q6 =>
          cases q6;obtain⟨t,rfl⟩:=q1;obtain⟨t',rfl⟩:=q3;obtain⟨t'',rfl⟩:=q5;exact call_range_3 (by decide) (wpAny_mono (Xsh I1 (by omega) (by omega) (by omega) (by omega)) (fun itv s2 ⟨src,S2,it,fp,tn,J,H2,ρ2,z1,z2,z3,z4,z5,z6,z7,z8,z9⟩=>⟨src,S2,it,fp,tn,J,H2,ρ2,z1,z2,z3,z4,z5,z6,z7,z8,st1.trans z9⟩) fun _ _ z=>z)
      ·rw[if_neg hz] at nb;exact absurd rfl nb
     | _=>simp[Yh] at nb
    | _=>simp[Yh] at nb
   | _=>simp[Yh] at nb
  | _::_::_::_::_,rd,nb=>simp[Yh] at nb
theorem X3l(I:S0 X pins σ H s ρ S env)(e:Yk S d=some src)(rd:RD X.K ρ H d v)(rv:RelV v u):∃ k a vs,u=.ref a/\SqH k X.K H a vs/\SrcK X.K ρ H src k a:=by
 cases d with
 | tup xs =>
  have e':some (Src.con xs)=some src:=e;cases e';simp only[RD] at rd;obtain⟨a,vs,rfl,h1,h2⟩:=rd;cases rv;exact⟨false,a,vs,rfl,h1,vs,h1,h2⟩
 | ref n =>
  cases e1:Xb S n with
  | none=>simp[Yk,e1] at e
  | some xs =>
   simp only[Yk,e1,Option.map_some,Option.some.injEq] at e;subst e;obtain⟨a,vs,k1,k2,k3⟩:=I.list e1;simp only[RD] at rd;obtain⟨a',rfl,k4⟩:=rd;rw[k1] at k4;cases k4;cases rv;exact⟨true,a,vs,rfl,.of k2,k1⟩
 | _=>cases e
theorem Xz9 (hg:Gl X "enumerate") (hm:X.mg "enumerate" = none) (ha:DA X (a::es) g) (hs:starEach (a::es) X.env=(false,eval a X.env)::starEach es X.env) (hpl:(backTo pos (starEach es X.env)).any (·.1)=false) :
  DI X (.Tuple ts x0 tp) (.Call (.Name "enumerate" p) (a::es) [] pos) (fun env S=>(g env S).bind fun xs S=>match xs with
   | [x]=>match Yk S x with
    | some s=>.ok (.enm s) S
    | none=>.bad
   | _=>.bad):=by
 intro pins s σ H ρ S env E I nb hE;dsimp only at nb hE ⊢;refine Call_ (Xaj I.inv hg hm (u:=.type "enumerate") (by decide+kernel) (PyProof.Rows.callWith_type1 ?_ hs hpl))
 cases q:g env S with
 | bad=>rw[q] at nb;exact absurd rfl nb
 | ex n S1=>rw[q] at hE;exact ha.ex I q fun x s' z=>hE x s' ⟨n,S1,rfl,z⟩
 | ok ds S1 =>
  rw[q] at nb;simp only[Rk0] at nb ⊢;refine ha.ok I q fun us s1 vs H1 ρ1 I1 rv rd st1=>?_
  match ds,rd,nb with
  | [],rd,nb=>exact absurd rfl nb
  | _::_::_,rd,nb=>exact absurd rfl nb
  | [x],rd,nb =>
   cases e1:Yk S1 x with
   | none=>simp only[e1] at nb;exact absurd rfl nb
   | some sx =>
    simp only[RDs] at rd;obtain⟨v1,r1,rfl,rd1,rfl⟩:=rd;cases rv with
    | cons q1 q2 =>
     cases q2;obtain⟨k1,b1,w1,rfl,m1,c1⟩:=X3l I1 e1 rd1 q1;obtain⟨its1,_,p1⟩:=Xhd I1.inv m1;refine Xmh p1 fun h' ns kp=>by
      refine Xfj ns.eo ?_;have J:Inv X pins σ H1 { s1 with heap:=h' }:=I1.inv.kept (t':=s1.toks) kp
      refine⟨.enm sx,S1,_,[s1.heap.objs.size+1,s1.heap.objs.size],_,_,H1,ρ1,by simp only[e1],rfl,J,Xv5 (fun z=>by have z':(_:Nat)=_:=z;omega),ns,fun b hb=>?_,.enm c1,I1.sr,st1⟩
      have hb':s1.heap.objs.size<=b:=by
       simp only[List.mem_cons,List.not_mem_nil,or_false] at hb;rcases hb with z|z<;>(have z':(_:Nat)=_:=z;omega)
      exact I1.inv.fpOk hb' (I1.inv.hok.fresh hb')
theorem DSs.ok{st:List Stmt}{na:Bool}{g:En->Sto->R Fl}{Q:Flow->Shared->Prop}(h:DSs X st na g)(I:S0 X pins σ H s ρ S env)(r:g env S=.ok x S')(hQ:∀ fl s',FlP X pins σ ρ H na S' s' x fl->Q fl s') :
  wpAny (model X.prog X.w) X.A (execs st X.env) Q E s:=by
 refine wpAny_mono (h pins s σ H ρ S env I (by rw[r];exact fun z=>nomatch z)) (fun fl s' z=>?_) fun x s' z=>?_
 ·obtain⟨y,S1,e,z⟩:=z
  rw[r] at e;cases e;exact hQ fl s' z
 ·obtain⟨n,S1,_,e,_⟩:=z
  rw[r] at e;cases e
theorem S0.rep(I:S0 X pins σ H s ρ S env)(J:Inv X pl σ H s):S0 X pl σ H s ρ S env:=⟨J,I.sr,I.er⟩
theorem X0a(hc:X.calm=true)(hi:DI X tg iter fi)(hg:DG X tg t)(hb:DSs X body na g)(hs:∀ x,foldedSetIterable iter X.env x=pure x) :
  DS X (.For tg iter body [] pos) false (fun env S=>(fi env S).bind fun src S=>Yz src.get t g (src.most S+1) 0 env S):=by
 intro pins s σ H ρ S env I nb;dsimp only at nb ⊢;cases q:fi env S with
 | bad=>rw[q] at nb;exact absurd rfl nb
 | ex n S1 =>
  refine wpAny_For (wpAny_mono (hi pins s σ H ρ S env _ I (by rw[q];exact fun z=>nomatch z) fun x s' z=>?_) (fun v s1 h1=>wpAny_mono h1 (fun itv s2 h2=>?_) fun _ _ z=>z) fun _ _ z=>z) hs
  ·rw[q] at z;obtain⟨m,S2,e,z⟩:=z;cases e;exact .of .refl z rfl
  ·obtain⟨src,S2,_,_,_,_,_,_,e,_⟩:=h2
   rw[q] at e;cases e
 | ok src S1 =>
  rw[q] at nb;simp only[Rk0] at nb ⊢;refine wpAny_mono (E:=fun _ _=>False) (wpAny_For (wpAny_mono (hi pins s σ H ρ S env (fun _ _=>False) I (by rw[q];exact fun z=>nomatch z) fun x s' z=>?_) (fun v s1 h1=>wpAny_mono h1 (fun itv s2 h2=>?_) fun _ _ z=>z) fun _ _ z=>z) hs) (fun _ _ z=>z) fun _ _ z=>z.elim
  ·rw[q] at z;obtain⟨m,S2,e,z⟩:=z;cases e
  ·obtain⟨src',S2,it,fp,tn,J,H2,ρ2,e1,rfl,I2,T,t0,f2,sr2,srr,st2⟩:=h2
   rw[q] at e1;cases e1;have hp:PassesOwn (model X.prog X.w) X.A X.env (fun _ _=>False):=PassesOwn.never
   have stat:∀ {H':Hp},(∀ b∈fp,H' b=none)->∀ b∈fp,Xak X pins H' b:=fun hn b hb=>⟨hn b hb,(f2 b hb).2⟩
   generalize hr0:Yz src.get t g (src.most S1+1) 0 env S1=r0;refine codeAny_forLoop_any (fun n s'=>∃ i σ' H' ρ' S' env',S0 X pins σ' H' s' ρ' S' env'/\tn i s'.heap/\(∀ b∈fp,H' b=none)/\SrcR X.K ρ' H' src J/\Stp X.K ρ ρ' H H'/\Yz src.get t g n i env' S'≠.bad/\Yz src.get t g n i env' S'=r0)
    ?_ (src.most S1+1) ⟨0,σ,H2,ρ2,S1,env,I.step I2 srr st2,t0,fun b hb=>(f2 b hb).1,sr2,st2,nb,hr0⟩
   rintro n s3 ⟨i,σ3,H3,ρ3,S3,env3,I3,t3,fr3,sr3,st3,nb3,eq3⟩
   cases n with
   | zero=>exact absurd rfl nb3
   | succ n =>
    simp only[Yz] at nb3;cases g1:src.get S3 i with
    | none=>rw[g1] at nb3;exact absurd rfl nb3
    | some o =>
     rw[g1] at nb3;cases o with
     | none =>
      refine wpAny_passesOwn hp (thn (T.done X rfl rfl rfl hc i pins s3 σ3 H3 _ I3.inv (stat fr3) t3 (sr3.stop I3 g1)) fun r s4 ⟨hr,I4⟩=>?_)
      subst hr;exact wpAny_execs_nil ⟨.nx env3,S3,by rw[<- eq3];simp only[Yz,g1],rfl,σ3,H3,ρ3,⟨I4,I3.sr,I3.er⟩,st3,fun z=>nomatch z⟩
     | some d =>
      dsimp only at nb3;obtain⟨go,yl⟩:=sr3.go I3 g1;refine wpAny_passesOwn hp (thn (T.item X rfl rfl rfl hc i pins s3 σ3 H3 _ I3.inv (stat fr3) t3 go) fun r s4 ⟨u,hr,h4⟩=>?_)
      subst hr;refine wpAny_passesOwn hp (thn h4 fun _ s5 ⟨x,H5,I5,r5,y5,t5,fr5⟩=>?_)
      obtain⟨sr5,st5,rd5⟩:=yl x H5 y5;have I5':=I5.pinned (stat fr5) (T.obj _ _ t5);cases e6:Xp t d env3 with
      | none=>rw[e6] at nb3;exact absurd rfl nb3
      | some env6 =>
       rw[e6] at nb3;dsimp only at nb3;refine wpAny_passesOwn hp (hg (pins++Xbj fp s5.heap) s5 σ3 H5 ρ3 S3 env3 d x u env6 _ _ ⟨I5',sr5,I3.er.mono st5⟩ e6 rd5 r5 fun s6 σ6 I6=>?_)
       cases e7:g env6 S3 with
       | bad=>rw[e7] at nb3;exact absurd rfl nb3
       | ex m S7=>rw[e7] at nb3;exact absurd rfl nb3
       | ok x7 S7 =>
        rw[e7] at nb3;refine wpAny_passesOwn hp (hb.ok I6 e7 fun fl s7 z7=>?_)
        have again:∀ {σ7:L2.St} {H7:Hp} {ρ7:List Addr} {env7:En},S0 X (pins++Xbj fp s5.heap) σ7 H7 s7 ρ7 S7 env7->Stp X.K ρ3 ρ7 H5 H7->Yz src.get t g n (i+1) env7 S7≠.bad->Yz src.get t g n (i+1) env7 S7=r0 ->
          ∃ m,m<n+1/\∃ i σ' H' ρ' S' env',S0 X pins σ' H' s7 ρ' S' env'/\tn i s7.heap/\(∀ b∈fp,H' b=none)/\SrcR X.K ρ' H' src J/\Stp X.K ρ ρ' H H'/\Yz src.get t g m i env' S'≠.bad/\Yz src.get t g m i env' S'=r0 :=
         fun {σ7 H7 ρ7 env7} I7 st7 nb7 eq7=>by
          refine⟨n,Nat.lt_succ_self _,i+1,σ7,H7,ρ7,S7,env7,I7.rep I7.inv.unpinned,T.keep _ _ _ t5 fun b hb o e=>(I7.inv.pin (b,o) (List.mem_append_right _ (List.mem_append_right _ (Xcb hb e)))).1,fun b hb=>?_,sr3.mono (st5.trans st7),st3.trans (st5.trans st7),nb7,eq7⟩
          obtain⟨o,e,_⟩:=T.obj _ _ t5 b hb;exact(I7.inv.pin (b,o) (List.mem_append_right _ (List.mem_append_right _ (Xcb hb e)))).2.1
        have eq3':=eq3;simp only[Yz,g1,e6,e7] at eq3';cases x7 with
        | nx e =>
         obtain⟨rfl,σ7,H7,ρ7,I7,st7,_⟩:=z7;exact again I7 st7 nb3 eq3'
        | cnt e =>
         obtain⟨rfl,σ7,H7,ρ7,I7,st7⟩:=z7;exact again I7 st7 nb3 eq3'
        | brk e =>
         obtain⟨rfl,σ7,H7,ρ7,I7,st7⟩:=z7;exact⟨.nx e,S7,eq3'.symm,rfl,σ7,H7,ρ7,I7.rep I7.inv.unpinned,st3.trans (st5.trans st7),fun z=>nomatch z⟩
        | rt d' =>
         obtain⟨u',v',σ7,H7,ρ7,rfl,I7,rv7,rd7,sr7,st7⟩:=z7;exact⟨.rt d',S7,eq3'.symm,u',v',σ7,H7,ρ7,rfl,I7.unpinned,rv7,rd7,sr7,st3.trans (st5.trans st7)⟩
end
theorem Xdw(env:PySem.Env)(P:Str->Addr->Prop):∀ (names:List (Str×NameKind)) (cs:List (Str×Addr)),(∀ x∈names,x.2=.free->∃ c,env.cells.lookup x.1=some c/\P x.1 c)->(∀ x c,cs.lookup x=some c->P x c) ->
  ∃ cl,(forIn names cs fun(x:Str×NameKind) (r:List (Str×Addr))=>(match x with
   | (name,kind)=>if (kind==NameKind.free)=true then do
     let a <- cellOf env name
     pure (ForInStep.yield ((name,a)::r))
    else pure (ForInStep.yield r):Sem (ForInStep (List (Str×Addr)))))=(pure cl:Sem (List (Str×Addr)))/\(∀ x c,cl.lookup x=some c->P x c)/\(∀ x c,cs.lookup x=some c->∃ c',cl.lookup x=some c')/\∀ x∈names,x.2=.free->∃ c,cl.lookup x.1=some c
 | [],cs,_,hc=>⟨cs,rfl,hc,fun x c h=>⟨c,h⟩,fun _ h=>nomatch h⟩
 | (n,k)::r,cs,hf,hc=>by
  by_cases hk:k=.free
  ·subst hk
   obtain⟨c,hcell,hpc⟩:=hf (n,.free) List.mem_cons_self rfl;obtain⟨cl,e,h1,h2,h3⟩:=Xdw env P r ((n,c)::cs) (fun x hx=>hf x (List.mem_cons_of_mem _ hx)) (fun x d h=>by
    rw[List.lookup_cons] at h
    by_cases hx:x==n
    ·rw[hx] at h;cases h;rw[eq_of_beq hx];exact hpc
    ·have hx':(x==n)=false:=by simpa using hx
     rw[hx'] at h;exact hc x d h)
   refine⟨cl,?_,h1,fun x d h=>?_,fun x hx hx2=>?_⟩
   ·rw[List.forIn_cons]
    simp only[beq_self_eq_true,if_true,cellOf,hcell,pure_bind];exact e
   ·by_cases hx:x==n
    ·exact h2 x c (by rw[List.lookup_cons,hx])
    ·have hx':(x==n)=false:=by simpa using hx
     exact h2 x d (by rw[List.lookup_cons,hx'];exact h)
   ·rcases List.mem_cons.mp hx with rfl|hx
    ·exact h2 n c (by rw[List.lookup_cons,beq_self_eq_true])
    ·exact h3 x hx hx2
  ·obtain⟨cl,e,h1,h2,h3⟩:=Xdw env P r cs (fun x hx=>hf x (List.mem_cons_of_mem _ hx)) hc
   refine⟨cl,?_,h1,h2,fun x hx hx2=>?_⟩
   ·rw[List.forIn_cons]
    have hk':(k==NameKind.free)=false:=by simpa using hk
    simp only[hk',Bool.false_eq_true,if_false,pure_bind];exact e
   ·rcases List.mem_cons.mp hx with rfl|hx
    ·exact absurd hx2 hk
    ·exact h3 x hx hx2
theorem Xge(hf:∀ x∈scope.names,x.2=.free->∃ c,env.cells.lookup x.1=some c) :
  ∃ cl,closureFor scope env=pure cl/\(∀ x c,cl.lookup x=some c->env.cells.lookup x=some c/\(x,.free)∈scope.names)/\∀ x∈scope.names,x.2=.free->∃ c,cl.lookup x.1=some c:=by
 obtain⟨cl,e,h1,_,h3⟩:=Xdw env (fun x c=>env.cells.lookup x=some c/\(x,.free)∈scope.names) scope.names [] (fun x hx hk=>let ⟨c,hc⟩:=hf x hx hk;⟨c,hc,hc,hk▸hx⟩) (fun x c h=>by simp at h)
 refine⟨cl,?_,h1,h3⟩;unfold closureFor;simp only[bind_pure];exact e
noncomputable abbrev Xnw(ifs:List Expr)(env:PySem.Env):Sem Bool:=forIn ifs true fun c r=>if r=true then do let ok <- isTrue c env (eval c env);pure (ForInStep.yield ok) else pure (ForInStep.yield r)
def Xj9(M:Model)(A:Around)(elt:Expr)(gens:List Comprehension)(scope:Scope)(pos:Pos)(d:Nat)(acc:Value)(env:PySem.Env)(P:Shared->Prop)(s:Shared):Prop :=
 match gens[d+1]? with
 | none=>wpAny M A (eval elt env) (fun x s4=>wpAny M A (call (.builtin "list.append") [acc,x]) (fun _ s5=>P s5) (fun _ _=>False) s4) (fun _ _=>False) s
 | some g'=>g'.is_async=0/\(∀ x,foldedSetIterable g'.iter env x=pure x)/\wpAny M A (eval g'.iter env) (fun x s4=>wpAny M A (pyIter x) (fun it' s5 =>
   codeAny M A (.compStart (.ListComp elt gens scope pos) (d+1) it' acc env) (fun r s6=>match r with | .ok _=>P s6 | .error _=>False) s5) (fun _ _=>False) s4) (fun _ _=>False) s
section
variable{prog:Program}{w:World}{A:Around}{s:Shared}{R:Result->Shared->Prop}
theorem Xp8(hg:gens[d]?=some ⟨target,iter,ifs,0⟩)(hm:A.mark none=A)(I:Nat->Shared->Prop)
  (turn:∀ n s,I n s->wpAny (model prog w) A (pyNext it) (fun r s₁=>match r with
   | none=>R (.ok .next) s₁
   | some v=>wpAny (model prog w) A (letOwnedTupleGo target it v) (fun _ s₁'=>wpAny (model prog w) A (assign target env v) (fun _ s₂ =>
     wpAny (model prog w) A (Xnw ifs env) (fun ok s₃=>if ok=true then Xj9 (model prog w) A elt gens scope pos d acc env (fun s₅=>∃ m,m<n/\I m s₅) s₃ else ∃ m,m<n/\I m s₃) (fun _ _=>False) s₂) (fun _ _=>False) s₁') (fun _ _=>False) s₁) (fun _ _=>False) s)
  (n:Nat) (h:I n s):codeAny (model prog w) A (.compLoop (.ListComp elt gens scope pos) d it acc env) R s:=by
 refine codeAny_loop rfl I (fun n s hI=>?_) n h
 show wpAny _ A ((compTurn (.ListComp elt gens scope pos) d it acc env).onRaise (fun x=>do noteFrame x env;theTreesLotGoes x)) _ _ s
 refine wpAny_noted (wpAny_mono (E:=fun _ _=>False) ?_ (fun _ _ z=>z) fun _ _ z=>z.elim)
 unfold compTurn;simp only[hg,show((0:Nat) != 0)=false from rfl,Bool.false_eq_true,if_false];refine wpAny_bind (wpAny_standAt (wpAny_bind (wpAny_mono (turn n s hI) (fun r s₁ h₁=>?_) fun _ _ z=>z)))
 cases r with
 | none=>exact wpAny_pure h₁
 | some v =>
  refine wpAny_bind (wpAny_mono h₁ (fun _ s₁' h₁'=>wpAny_bind (wpAny_mono h₁' (fun _ s₂ h₂=>wpAny_bind (wpAny_mono h₂ (fun ok s₃ h₃=>?_) fun _ _ z=>z)) fun _ _ z=>z)) fun _ _ z=>z)
  cases ok with
  | false =>
   rw[if_neg Bool.false_ne_true] at h₃;simp only[Bool.false_eq_true,if_false];exact wpAny_pure ⟨rfl,h₃⟩
  | true =>
   rw[if_pos rfl] at h₃;simp only[if_true];unfold Xj9 at h₃;cases hq:gens[d+1]? with
   | none =>
    rw[hq] at h₃;simp only[bind_assoc,pure_bind];exact wpAny_bind (wpAny_mono h₃ (fun x s₄ h₄=>wpAny_bind (wpAny_mono h₄ (fun _ s₅ h₅=>wpAny_pure ⟨rfl,h₅⟩) fun _ _ z=>z)) fun _ _ z=>z)
   | some g' =>
    rw[hq] at h₃;obtain⟨ha,hf,h₃⟩:=h₃;simp only[ha,show((0:Nat) != 0)=false from rfl,Bool.false_eq_true,if_false];refine wpAny_bind (wpAny_mono h₃ (fun x s₄ h₄=>wpAny_bind (wpAny_standAt (wpAny_bind (wpAny_of_eq (hf x) (wpAny_bind (wpAny_holding (wpAny_mono h₄ (fun it' s₅ h₅=>?_) fun _ _ z=>z))))))) fun _ _ z=>z)
    refine wpAny_bind (wpAny_runOwn ?_);rw[hm];refine codeAny_mono h₅ fun r s₆ h₆=>?_
    cases r with
    | ok f=>exact wpAny_pure ⟨rfl,h₆⟩
    | error e=>exact h₆.elim
theorem Xnx(hg:gens[d]?=some ⟨target,iter,ifs,0⟩)
  (h0:codeAny (model prog w) A (.compLoop (.ListComp elt gens scope pos) d it acc env) R s)
  (h:wpAny (model prog w) A (pyIter it) (fun it' s'=>codeAny (model prog w) A (.compLoop (.ListComp elt gens scope pos) d it' acc env) R s') (fun _ _=>False) s) :
  codeAny (model prog w) A (.compStart (.ListComp elt gens scope pos) d it acc env) R s:=by
 refine codeAny_of_tree ?_;show wpAny _ _ ((compStart (.ListComp elt gens scope pos) d it acc env).onRaise (fun x=>do noteFrame x env;standAt theWindowsPlace)) _ _ s
 refine wpAny_notedAt ?_;unfold compStart;have hcl:clausesOf (.ListComp elt gens scope pos)=gens:=rfl;simp only[hcl,hg,Option.elim,show((0:Nat) != 0)=false from rfl,Bool.false_eq_true,if_false];refine wpAny_bind (wpAny_askSetting (wpAny_ite ?_));split
 ·first
   | exact wpAny_bind (wpAny_pure (wpAny_pure (And.intro rfl h0)))
   | exact wpAny_pure (And.intro rfl h0)
 ·refine wpAny_bind (wpAny_rule ?_)
  refine wpAny_bind (wpAny_standAt (wpAny_bind (wpAny_mono h (fun it' s' h'=>wpAny_pure (And.intro rfl h')) fun _ _ x=>x.elim)))
end
section
variable{X:Cx}{pins:List (Addr×Obj)}{σ:L2.St}{H:Hp}{s:Shared}{ρ:List Addr}{S S':Sto}{env:En}{Q:Value->Shared->Prop}{E:Value->Shared->Prop}
def DTs(X:Cx)(ifs:List Expr)(f:En->Sto->R Bool):Prop :=
 ∀ (pins:List (Addr×Obj)) (s:Shared) (σ:L2.St) (H:Hp) (ρ:List Addr) (S:Sto) (env:En) (b:Bool) (S':Sto) (Q:Bool->Shared->Prop) (E:Value->Shared->Prop),S0 X pins σ H s ρ S env->f env S=.ok b S' ->
  (∀ s' H' ρ',S0 X pins σ H' s' ρ' S' env->Stp X.K ρ ρ' H H'->Q b s')->wpAny (model X.prog X.w) X.A (Xnw ifs X.env) Q E s
theorem Xe8{M:Model}{A:Around}{env:PySem.Env}{s:Shared}{Q:Bool->Shared->Prop}{E:Value->Shared->Prop}(h:Q false s):∀ ifs:List Expr,
  wpAny M A (forIn ifs false fun c r=>if r=true then do let ok <- isTrue c env (eval c env);pure (ForInStep.yield ok) else pure (ForInStep.yield r)) Q E s
 | []=>wpAny_pure h
 | c::r=>by
  rw[List.forIn_cons];simp only[Bool.false_eq_true,if_false];exact wpAny_bind (wpAny_pure (Xe8 h r))
theorem Xv8:DTs X [] (fun _ S=>.ok true S):=by
 intro pins s σ H ρ S env b S' Q E I h hQ;cases h;exact wpAny_pure (hQ s H ρ I .refl)
theorem Xsi{cs:List Expr}{fc:En->Sto->R D}{g:En->Sto->R Bool}(hc:DT X c (fun env S=>tst (fc env S)))(hr:DTs X cs g) :
  DTs X (c::cs) (fun env S=>(fc env S).bind fun x S=>match Xl S x with|some true=>g env S|some false=>.ok false S|none=>.bad):=by
 intro pins s σ H ρ S env b S' Q E I h hQ;dsimp only at h;cases q:fc env S with
 | bad=>rw[q] at h;cases h
 | ex n S1=>rw[q] at h;cases h
 | ok x S1 =>
  rw[q] at h;simp only[Rk0] at h;unfold Xnw;rw[List.forIn_cons];simp only[if_true];cases t:Xl S1 x with
  | none=>rw[t] at h;cases h
  | some r =>
   rw[t] at h;refine wpAny_bind (wpAny_bind (hc.ok I (by simp only[q];exact Xbo t) fun s2 H2 ρ2 I2 st2=>wpAny_pure ?_))
   cases r with
   | true=>exact hr pins s2 σ H2 ρ2 S1 env b S' Q E I2 h fun s3 H3 ρ3 I3 st3=>hQ s3 H3 ρ3 I3 (st2.trans st3)
   | false=>cases h;exact Xe8 (hQ s2 H2 ρ2 I2 st2) cs
theorem Mon.trans{K:PySem.W.Frag}{ρ' ρ'':List Addr}{H' H'':Hp}(x:Mon K ρ ρ' H H')(y:Mon K ρ' ρ'' H' H''):Mon K ρ ρ'' H H'' :=
 ⟨fun n a h=>y.pre n a (x.pre n a h),fun a xs h=>y.tup a xs (x.tup a xs h),fun a xs h=>y.fro a xs (x.fro a xs h)⟩
theorem Xny:∀ (is:List Nat) (ds:List D) (env:En),i ∉ is->((is.zip ds).foldl (fun e p=>e.set p.1 (some p.2)) env)[i]?=env[i]?:=by
 intro is
 induction is with
 | nil=>intro ds env _;simp
 | cons j js ih =>
  intro ds env hn;cases ds with
  | nil=>simp
  | cons d ds =>
   simp only[List.zip_cons_cons,List.foldl_cons];rw[ih ds _ (fun z=>hn (List.mem_cons_of_mem _ z)),List.getElem?_set_ne (fun z=>hn (by simp[z]))]
theorem Xln{t:Tg}{d:D}{env env':En}(h:Xp t d env=some env'){i:Nat}(hi:i ∉ slots t):env'[i]?=env[i]?:=by
 cases t with
 | var j =>
  simp only[Xp,Option.some.injEq] at h;subst h;have:j≠i:=fun z=>hi (by simp[slots,z])
  rw[List.getElem?_set_ne this]
 | tup is =>
  cases d with
  | tup ds =>
   simp only[Xp] at h;split at h
   ·cases h
    exact Xny is ds env hi
   ·cases h
  | _=>cases h
def Xc1(Y:Cx)(Da:Addr)(elt:Expr)(gens:List Comprehension)(scope:Scope)(cpos:Pos)(d:Nat)(body:En->List D->Sto->R (List D)):Prop :=
 ∀ (pins:List (Addr×Obj)) (s:Shared) (σ:L2.St) (H:Hp) (ρ:List Addr) (S S':Sto) (env:En) (acc acc':List D) (vs:List V) (H0:Hp) (ρ0:List Addr) (P:Shared->Prop),S0 Y pins σ H s ρ S env->Da ∉ ρ->H Da=some (.lst vs)->RDs Y.K ρ H acc vs->H0 Da=none->Stp Y.K ρ0 ρ H0 H ->
  body env acc S=.ok acc' S'->(∀ s' σ' H' ρ' vs',S0 Y pins σ' H' s' ρ' S' env->Da ∉ ρ'->H' Da=some (.lst vs')->RDs Y.K ρ' H' acc' vs'->Stp Y.K ρ0 ρ' H0 H'->Mon Y.K ρ ρ' H H'->P s') ->
  Xj9 (model Y.prog Y.w) Y.A elt gens scope cpos d (.ref Da) Y.env P s
theorem Stp.out{K:PySem.W.Frag}{ρ':List Addr}{H':Hp}{Da:Addr}{o:HO}(st:Stp K ρ ρ' H H')(hD:H Da=some o)(hn:Da ∉ ρ):Da ∉ ρ'/\H' Da=some o :=
 ⟨fun hm=>(st.new Da hm).elim hn (fun z=>by rw[hD] at z;cases z),st.keep Da o hD hn⟩
theorem Xp9{Y:Cx}{Da it:Addr}{elt tg iter:Expr}{gens:List Comprehension}{ifs:List Expr}{scope:Scope}{cpos:Pos}{d:Nat}{t:Tg}{src:Src}{J:L2.It}{fp:List Addr}{tn:Nat->Heap->Prop}{tf:En->Sto->R Bool}{body:En->List D->Sto->R (List D)}
  {pins:List (Addr×Obj)} {σ:L2.St} {H H0:Hp} {s:Shared} {ρ ρ0:List Addr} {S Sf:Sto} {env:En} {acc accf:List D} {vs:List V} {P:Shared->Prop} (hc:Y.calm=true) (hg:gens[d]?=some ⟨tg,iter,ifs,0⟩)
  (T:Turn Y.prog Y.w Y.K tg J fp it tn) (hG:DG Y tg t) (hT:DTs Y ifs tf) (hB:Xc1 Y Da elt gens scope cpos d body) (h0:H0 Da=none)
  (I:S0 Y pins σ H s ρ S env) (t0:tn 0 s.heap) (f0:∀ b∈fp,Xak Y pins H b) (sr:SrcR Y.K ρ H src J) (hn:Da ∉ ρ) (hD:H Da=some (.lst vs)) (ra:RDs Y.K ρ H acc vs) (st0:Stp Y.K ρ0 ρ H0 H)
  (hr:Yn src.get t (Yy tf body) (src.most S+1) 0 env acc S=.ok accf Sf)
  (hP:∀ s' σ' H' ρ' vs' env',S0 Y pins σ' H' s' ρ' Sf env'->(∀ i,i ∉ slots t->env'[i]?=env[i]?)->Da ∉ ρ'->H' Da=some (.lst vs')->RDs Y.K ρ' H' accf vs'->Stp Y.K ρ0 ρ' H0 H'->Mon Y.K ρ ρ' H H'->P s') :
  codeAny (model Y.prog Y.w) Y.A (.compStart (.ListComp elt gens scope cpos) d (.ref it) (.ref Da) Y.env) (fun r s'=>match r with | .ok _=>P s' | .error _=>False) s:=by
 have loop:codeAny (model Y.prog Y.w) Y.A (.compLoop (.ListComp elt gens scope cpos) d (.ref it) (.ref Da) Y.env) (fun r s'=>match r with | .ok _=>P s' | .error _=>False) s:=by
  have stat:∀ {H':Hp},(∀ b∈fp,H' b=none)->∀ b∈fp,Xak Y pins H' b:=fun hn b hb=>⟨hn b hb,(f0 b hb).2⟩
  refine Xp8 hg rfl (fun n s'=>∃ i σ' H' ρ' S' env' acc' vs',S0 Y pins σ' H' s' ρ' S' env'/\tn i s'.heap/\(∀ b∈fp,H' b=none)/\SrcR Y.K ρ' H' src J/\Mon Y.K ρ ρ' H H'/\Stp Y.K ρ0 ρ' H0 H'/\Da ∉ ρ'/\H' Da=some (.lst vs')/\RDs Y.K ρ' H' acc' vs' /\
   (∀ i,i ∉ slots t->env'[i]?=env[i]?)/\Yn src.get t (Yy tf body) n i env' acc' S'=.ok accf Sf) ?_ (src.most S+1) ⟨0,σ,H,ρ,S,env,acc,vs,I,t0,fun b hb=>(f0 b hb).1,sr,Stp.refl.toMon,st0,hn,hD,ra,fun _ _=>rfl,hr⟩
  rintro n s3 ⟨i,σ3,H3,ρ3,S3,env3,acc3,vs3,I3,t3,fr3,sr3,mo3,st3,hn3,hD3,ra3,hs3,eq3⟩
  cases n with
  | zero=>cases eq3
  | succ n =>
   simp only[Yn] at eq3;cases g1:src.get S3 i with
   | none=>rw[g1] at eq3;cases eq3
   | some o =>
    rw[g1] at eq3;cases o with
    | none =>
     cases eq3;refine thn (T.done Y rfl rfl rfl hc i pins s3 σ3 H3 _ I3.inv (stat fr3) t3 (sr3.stop I3 g1)) fun r s4 ⟨hr,I4⟩=>?_
     subst hr;exact hP s4 σ3 H3 ρ3 vs3 env3 ⟨I4,I3.sr,I3.er⟩ hs3 hn3 hD3 ra3 st3 mo3
    | some dd =>
     dsimp only at eq3;obtain⟨go,yl⟩:=sr3.go I3 g1;refine thn (T.item Y rfl rfl rfl hc i pins s3 σ3 H3 _ I3.inv (stat fr3) t3 go) fun r s4 ⟨u,hr,h4⟩=>?_
     subst hr;refine thn h4 fun _ s5 ⟨x,H5,I5,r5,y5,t5,fr5⟩=>?_
     obtain⟨sr5,st5,rd5⟩:=yl x H5 y5;have I5':=I5.pinned (stat fr5) (T.obj _ _ t5);cases e6:Xp t dd env3 with
     | none=>rw[e6] at eq3;cases eq3
     | some env6 =>
      rw[e6] at eq3;dsimp only at eq3;refine hG (pins++Xbj fp s5.heap) s5 σ3 H5 ρ3 S3 env3 dd x u env6 _ _ ⟨I5',sr5,I3.er.mono st5⟩ e6 rd5 r5 fun s6 σ6 I6=>?_
      obtain⟨_,hD6⟩:=st5.out hD3 hn3;have ra6:=ra3.mono st5;cases e7:Yy tf body env6 acc3 S3 with
      | bad=>rw[e7] at eq3;cases eq3
      | ex m S7=>rw[e7] at eq3;cases eq3
      | ok acc7 S7 =>
       rw[e7] at eq3;dsimp only at eq3;have hs6:∀ i,i ∉ slots t->env6[i]?=env[i]?:=fun i hi=>(Xln e6 hi).trans (hs3 i hi)
       have again:∀ {s7:Shared} {σ7:L2.St} {H7:Hp} {ρ7:List Addr} {vs7:List V},S0 Y (pins++Xbj fp s5.heap) σ7 H7 s7 ρ7 S7 env6->SrcR Y.K ρ7 H7 src J->Mon Y.K ρ ρ7 H H7->Stp Y.K ρ0 ρ7 H0 H7->Da ∉ ρ7->H7 Da=some (.lst vs7)->RDs Y.K ρ7 H7 acc7 vs7 ->
         ∃ m,m<n+1/\∃ i σ' H' ρ' S' env' acc' vs',S0 Y pins σ' H' s7 ρ' S' env'/\tn i s7.heap/\(∀ b∈fp,H' b=none)/\SrcR Y.K ρ' H' src J/\Mon Y.K ρ ρ' H H'/\Stp Y.K ρ0 ρ' H0 H'/\Da ∉ ρ'/\H' Da=some (.lst vs')/\RDs Y.K ρ' H' acc' vs' /\
          (∀ i,i ∉ slots t->env'[i]?=env[i]?)/\Yn src.get t (Yy tf body) m i env' acc' S'=.ok accf Sf:=fun {s7 σ7 H7 ρ7 vs7} I7 sr7 mo7 st7 hn7 hD7 ra7=>by
        refine⟨n,Nat.lt_succ_self _,i+1,σ7,H7,ρ7,S7,env6,acc7,vs7,I7.rep I7.inv.unpinned,T.keep _ _ _ t5 fun b hb o e=>(I7.inv.pin (b,o) (List.mem_append_right _ (List.mem_append_right _ (Xcb hb e)))).1,fun b hb=>?_,sr7,mo7,st7,hn7,hD7,ra7,hs6,eq3⟩
        obtain⟨o,e,_⟩:=T.obj _ _ t5 b hb;exact(I7.inv.pin (b,o) (List.mem_append_right _ (List.mem_append_right _ (Xcb hb e)))).2.1
       unfold Yy at e7;cases e8:tf env6 S3 with
       | bad=>rw[e8] at e7;cases e7
       | ex m S8=>rw[e8] at e7;cases e7
       | ok b8 S8 =>
        rw[e8] at e7;simp only[Rk0] at e7;refine hT (pins++Xbj fp s5.heap) s6 σ6 H5 ρ3 S3 env6 b8 S8 _ _ I6 e8 fun s8 H8 ρ8 I8 st8=>?_
        obtain⟨hn8,hD8⟩:=st8.out hD6 hn3;have ra8:=ra6.mono st8;have st08:=st3.trans (st5.trans st8);have sr8:SrcR Y.K ρ8 H8 src J:=sr3.mono (st5.trans st8);cases b8 with
        | false =>
         rw[if_neg Bool.false_ne_true] at e7 ⊢;cases e7;exact again I8 sr8 (mo3.trans (st5.trans st8).toMon) st08 hn8 hD8 ra8
        | true =>
         rw[if_pos rfl] at e7 ⊢;exact hB (pins++Xbj fp s5.heap) s8 σ6 H8 ρ8 S8 S7 env6 acc3 acc7 vs3 H0 ρ0 _ I8 hn8 hD8 ra8 h0 st08 e7 fun s9 σ9 H9 ρ9 vs9 I9 hn9 hD9 ra9 st9 mo9=>again I9 (sr8.mono' mo9) ((mo3.trans (st5.trans st8).toMon).trans mo9) st9 hn9 hD9 ra9
 exact Xnx hg loop (T.self Y.A 0 s _ _ t0 loop)
theorem Xiw(hg:gens[d+1]?=none)(he:DE Y elt fe) :
  Xc1 Y Da elt gens scope cpos d (fun env acc S=>(fe env S).bind fun y S=>if acc.length<big then .ok (acc++[y]) S else .bad):=by
 intro pins s σ H ρ S S' env acc acc' vs H0 ρ0 P I hn hD ra h0 st0 hb hP;unfold Xj9;rw[hg];dsimp only at hb ⊢;cases q:fe env S with
 | bad=>rw[q] at hb;cases hb
 | ex n S1=>rw[q] at hb;cases hb
 | ok y S1 =>
  rw[q] at hb;simp only[Rk0] at hb;split at hb
  ·rename_i hz
   cases hb;refine he.ok I q fun u s1 v H1 ρ1 I1 rv rd st1=>?_
   obtain⟨hn1,hD1⟩:=st1.out hD hn;have hlen:vs.length<sizeLine:=by rw[<- ra.length];exact Nat.lt_of_lt_of_le hz Xgc
   refine mtd (X:=Y) (Q':=fun z H'=>z=.non/\H'=upd H1 Da (.lst (vs++[v]))) Xis I1.inv (show RelV (.ref Da) (.ref Da) from rfl) (.cons rv .nil) ⟨Da,vs,v,rfl,rfl,hD1,hlen,rfl,rfl⟩ fun w s2 z H2 J rz ⟨e1,e2⟩=>?_
   subst e1 e2;have mo:Mon Y.K ρ1 ρ1 H1 (upd H1 Da (.lst (vs++[v]))):=Mon.own hD1;refine hP s2 σ _ ρ1 (vs++[v]) ⟨J,I1.sr.own hD1 hn1,I1.er.mono' mo⟩ hn1 Yb ((RDs.mono' mo _ _ (ra.mono st1)).append (.cons (RD.mono' mo _ _ rd) .nil)) ((st0.trans st1).own h0 hD1) ⟨fun n a h=>st1.pre n a h,fun a xs h=>mo.tup a xs (st1.tup a xs h),fun a xs h=>mo.fro a xs (st1.fro a xs h)⟩
  ·cases hb
theorem Xqa(hc:Y.calm=true)
  (hg:gens[d+1]?=some ⟨tg2,iter2,ifs2,0⟩) (hi:DI Y tg2 iter2 fi) (hs:∀ x,foldedSetIterable iter2 Y.env x=pure x) (hG:DG Y tg2 t2) (hT:DTs Y ifs2 tf) (hB:Xc1 Y Da elt gens scope cpos (d+1) body) :
  Xc1 Y Da elt gens scope cpos d (fun env acc S=>if Xea t2 env then (fi env S).bind fun src S=>Yn src.get t2 (Yy tf body) (src.most S+1) 0 env acc S else .bad):=by
 intro pins s σ H ρ S S' env acc acc' vs H0 ρ0 P I hn hD ra h0 st0 hb hP;unfold Xj9;rw[hg];dsimp only at hb ⊢;split at hb
 ·rename_i hno
  refine⟨rfl,hs,?_⟩;cases q:fi env S with
  | bad=>rw[q] at hb;cases hb
  | ex n S1=>rw[q] at hb;cases hb
  | ok src S1 =>
   rw[q] at hb;simp only[Rk0] at hb;refine wpAny_mono (hi pins s σ H ρ S env (fun _ _=>False) I (by rw[q];exact fun z=>nomatch z) fun x s' z=>?_) (fun v s1 h1=>wpAny_mono h1 (fun itv s2 h2=>?_) fun _ _ z=>z) fun _ _ z=>z
   ·rw[q] at z;obtain⟨m,S2,e,z⟩:=z;cases e
   ·obtain⟨src',S2,it,fp,tn,J,H2,ρ2,e1,rfl,I2,T,t0,f2,sr2,srr,st2⟩:=h2
    rw[q] at e1;cases e1;obtain⟨hn2,hD2⟩:=st2.out hD hn;refine Xp9 (ρ0:=ρ0) (H0:=H0) hc hg T hG hT hB h0 (I.step I2 srr st2) t0 f2 sr2 hn2 hD2 (ra.mono st2) (st0.trans st2) hb fun s' σ' H' ρ' vs' env' I' hs' hn' hD' ra' st' mo'=>?_
    refine hP s' σ' H' ρ' vs' ⟨I'.inv,I'.sr,⟨?_,fun i d e=>?_⟩⟩ hn' hD' ra' st' (st2.toMon.trans mo')
    ·have h1:=I.er.len
     have h2:=I.inv.len;have h3:=I'.inv.len;omega
    ·by_cases hi:i∈slots t2
     ·have z:=List.all_eq_true.mp hno i hi
      rw[e] at z;cases z
     ·exact I'.er.val i d ((hs' i hi).trans e)
 ·cases hb
end
noncomputable def hid(own:List Str)(y:Str):Str:=if own.contains y then Str.ofString "0" ++ y else y
noncomputable def Xap(N own:List Str):List Str:=N.map (hid own)++own
structure ScOk(outer sc:Scope)(N own:List Str):Prop where
 kind:sc.kind=.function
 okind:outer.kind=.function
 nd:(Xap N own).Nodup
 cel:∀ y∈sc.names,y.2=.cell->y.1∈own
 apart:∀ y∈sc.names,y.2=.free->y.1 ∉ own
 free:∀ y∈sc.names,y.2=.free->outer.names.lookup y.1=some .cell\/outer.names.lookup y.1=some .free
 loc:∀ y,sc.names.lookup y=some .local->y∈own
 names:∀ x∈sc.names,x.2=.local->sc.names.lookup x.1=some .local
 hidn:∀ y∈N,own.contains y=true->sc.names.lookup (Str.ofString "0" ++ y)=none
section
variable{X:Cx}{pins:List (Addr×Obj)}{σ:L2.St}{H:Hp}{s:Shared}{ρ:List Addr}{S S':Sto}{env:En}{Q:Value->Shared->Prop}{E:Value->Shared->Prop}
noncomputable def blk(X:Cx)(pins:List (Addr×Obj))(s:Shared)(H:Hp)(sc:Scope)(cl:List (Str×Addr))(C:Addr)(own:List Str)(fp:List Addr):Cx :=
 { X with N:=Xap X.N own,s₀:=s,H₀:=H,env:=compEnvC sc cl C X.env,outer:=X.stack,stack:=X.stack,ex:=fp,fn:=fun x=>own.contains x,pn:=X.pn++pins }
theorem Xcc{names:List (Str×NameKind)}(h:names.lookup x=some k):(x,k)∈names:=PySem.mem_of_lookup h
theorem Xlo{cs:List (Str×Addr)}(h:cs.lookup x=some c):(x,c)∈cs:=PySem.mem_of_lookup h
theorem Xby(sc:Scope)(env:PySem.Env)(x:Str):(relabel sc env).names.lookup x=(sc.names.lookup x).map fun k=>if (k == .free&&env.scope.kind == .function&&env.kindOf x==some .cell)=true then .cell else k:=by
 unfold relabel;dsimp only
 induction sc.names with
 | nil=>rfl
 | cons y r ih =>
  obtain⟨n,k⟩:=y;show List.lookup x ((if (k==NameKind.free&&env.scope.kind == .function&&env.kindOf n==some .cell)=true then (n,NameKind.cell) else (n,k))::_)=_
  by_cases hx:x==n
  ·have e:=eq_of_beq hx
   subst e
   by_cases hc:(k==NameKind.free&&env.scope.kind == .function&&env.kindOf x==some .cell)=true
   ·rw[if_pos hc,List.lookup_cons,beq_self_eq_true,List.lookup_cons,beq_self_eq_true];exact congrArg some (if_pos hc).symm
   ·rw[if_neg hc,List.lookup_cons,beq_self_eq_true,List.lookup_cons,beq_self_eq_true];exact congrArg some (if_neg hc).symm
  ·have hx':(x==n)=false:=by simpa using hx
   by_cases hc:(k==NameKind.free&&env.scope.kind == .function&&env.kindOf n==some .cell)=true
   ·rw[if_pos hc,List.lookup_cons,hx',List.lookup_cons,hx'];exact ih
   ·rw[if_neg hc,List.lookup_cons,hx',List.lookup_cons,hx'];exact ih
theorem X0b{own:List Str}{cl:List (Str×Addr)}{fp:List Addr}{m:Str->Option Value}(so:ScOk X.env.scope sc X.N own)(I:Inv X pins σ H s)(hf:∀ b∈fp,Xak X pins H b)
  (hcl:∀ x c,cl.lookup x=some c->(x ∉ own/\X.env.cells.lookup x=some c)\/(x∈own/\C<c/\s4.heap.IsCell c none)) (hinj:∀ x y c,cl.lookup x=some c->cl.lookup y=some c->x=y) (hclf:∀ x,sc.names.lookup x=some .cell\/sc.names.lookup x=some .free->∃ c,cl.lookup x=some c)
  (hDa:Da=s.heap.objs.size) (hC:C=s.heap.objs.size+1) (hos:s4.os=s.os) (hgens:s4.gens=s.gens) (keep:∀ b o,s.heap.get? b=some o->s4.heap.get? b=some o)
  (hns:s4.heap.Ns C m) (hacc:∃ n,s4.heap.get? Da=some { cls:=.type "list",data:=.seq #[] n }) (hfp:∀ b∈fp,b<s.heap.objs.size) :
  Inv (blk X pins s H sc cl C own fp) [] (σ++List.replicate own.length none) (upd H Da (.lst [])) s4:=by
 have hD:H Da=none:=by rw[hDa];exact I.hok.fresh (Nat.le_refl _)
 have hCn:H C=none:=by rw[hC];exact I.hok.fresh (Nat.le_succ _)
 have hCD:C≠Da:=by rw[hC,hDa];exact Nat.ne_of_gt (Nat.lt_succ_self _)
 have lt_ne:∀ b,b<s.heap.objs.size->b≠C/\b≠Da:=fun b hb=>⟨by rw[hC];exact Nat.ne_of_lt (Nat.lt_succ_of_lt hb),by rw[hDa];exact Nat.ne_of_lt hb⟩
 have cell_lt:∀ x c,X.env.cells.lookup x=some c->c<s.heap.objs.size:=fun x c e=>by obtain⟨v,q⟩:=I.cell x c e;exact q.lt
 refine⟨⟨I.ok.mod,so.kind,I.ok.glob,I.ok.blt,?_,?_,?_,?_,I.ok.hd,I.ok.frames,.inl rfl,?_,I.bs,?_,?_,?_,I.stack,I.stkFree⟩,hos,?_,?_,?_,?_,?_,?_,?_,?_,?_⟩
 ·show s.heap.objs.size<=C;rw[hC];exact Nat.le_succ _
 ·exact hinj
 ·intro x hx
  have hx':(relabel sc X.env).names.lookup x=some .cell\/(relabel sc X.env).names.lookup x=some .free:=hx;rw[Xby] at hx';cases e:sc.names.lookup x with
  | none=>rw[e] at hx';simp at hx'
  | some k =>
   rw[e] at hx';have hk:k=.cell\/k=.free:=by
    rcases hx' with h|h
    ·simp only[Option.map_some,Option.some.injEq] at h
     split at h
     ·rename_i hc
      simp only[bA0,beq_iff_eq] at hc;exact .inr hc.1.1
     ·exact .inl h
    ·simp only[Option.map_some,Option.some.injEq] at h
     split at h
     ·cases h
     ·exact .inr h
   exact hclf x (hk.elim (fun z=>.inl (z▸e)) fun z=>.inr (z▸e))
 ·intro x c h e
  have hx:x∈own:=by simpa using (show own.contains x=true from h)
  rcases hcl x c e with⟨z,_⟩|⟨_,z,_⟩
  ·exact absurd hx z
  ·show s.heap.objs.size<=c;rw[hC] at z;exact Nat.le_of_lt (Nat.lt_of_succ_lt z)
 ·intro b hb
  refine⟨(lt_ne b (hfp b hb)).1,fun x c h=>?_⟩
  rcases hcl x c h with⟨_,z⟩|⟨_,z,_⟩
  ·exact(hf b hb).2.2.2.2.1 x c z
  ·rw[hC] at z
   exact Nat.ne_of_gt (Nat.lt_trans (hfp b hb) (Nat.lt_of_succ_lt z))
 ·exact Nat.le_trans I.ok.bsz I.sz
 ·intro b o e hb
  rcases (hf b hb).2.2.2.1 with z|z
  ·exact I.ok.noex b o e z
  ·exact absurd (Nat.lt_of_lt_of_le (Heap.lt_size e) (Nat.le_trans I.ok.bsz z)) (Nat.lt_irrefl _)
 ·intro b hb hm
  rcases List.mem_cons.mp (I.stkSub b hm) with z|z
  ·exact(hf b hb).2.1 z
  ·exact(hf b hb).2.2.1 z
 ·rw[hgens];exact I.bare
 ·refine⟨fun b o e _ _ _=>keep b o e,fun b o e _ _ _=>⟨o.slots,keep b o e⟩,fun b o e n _=>?_,fun b o e _=>⟨o,keep b o e⟩,fun b xs e=>?_,fun b o u e=>?_,fun b ps e=>⟨#[],?_⟩⟩
  ·show upd H Da _ b=none
   rw[Xf (lt_ne b (Heap.lt_size e)).2];exact n
  ·rw[Xf (Xq e hD)];exact e
  ·rw[Xf (Xq e hD)];exact e
  ·rw[Xf (Xq e hD),show H b=some (.tbl ps) from e];simp
 ·refine⟨m,hns,fun i x v h1 h2 h3=>?_⟩
  have hi:i<X.N.length:=by
   by_cases hi:i < σ.length
   ·rw[I.len] at hi;exact hi
   ·rw[List.getElem?_append_right (by omega),List.getElem?_replicate] at h2
    split at h2<;>cases h2
  have h1':(Xap X.N own)[i]?=some x:=h1;unfold Xap at h1';rw[List.getElem?_append_left (by simpa using hi),List.getElem?_map] at h1'
  rw[List.getElem?_append_left (by rw[I.len];exact hi)] at h2
  cases ey:X.N[i]? with
  | none=>rw[ey] at h1';cases h1'
  | some y =>
   rw[ey] at h1';simp only[Option.map_some,Option.some.injEq] at h1';have h3':Vis (relabel sc X.env) x:=h3;have nloc:=so.loc;have hxo:x ∉ own:=fun hm=>by
    have nd:=so.nd;unfold Xap at nd;rw[List.nodup_append] at nd;exact nd.2.2 x (List.mem_map.mpr ⟨y,List.mem_of_getElem? ey,h1'⟩) x hm rfl
   have hfree:sc.names.lookup x=some .free:=by
    have:(relabel sc X.env).names.lookup x=some .local\/(relabel sc X.env).names.lookup x=some .cell\/(relabel sc X.env).names.lookup x=some .free:=h3';rw[Xby] at this;cases e:sc.names.lookup x with
    | none=>rw[e] at this;simp at this
    | some k =>
     cases k with
     | free=>rfl
     | «local»=>exact absurd (nloc x e) hxo
     | cell=>exact absurd (so.cel _ (Xcc e) rfl) hxo
     | _=>rw[e] at this;simp at this
   have hxy:x=y:=by
    unfold hid at h1';split at h1'
    ·rename_i hc
     have z:=so.hidn y (List.mem_of_getElem? ey) hc;rw[h1',hfree] at z;cases z
    ·exact h1'.symm
   subst hxy;obtain⟨c,hc⟩:=hclf x (.inr hfree);have hcX:=((hcl x c hc).resolve_right fun z=>hxo z.1).2
   have kx:=so.free (x,.free) (Xcc hfree) rfl;obtain⟨m0,hn0,hl⟩:=I.loc;obtain⟨u,ru,lk⟩:=hl i x v ey h2 (kx.elim (fun z=>.inr (.inl z)) fun z=>.inr (.inr z))
   refine⟨u,ru,.inr ⟨?_,c,hc,?_⟩⟩
   ·show(relabel sc X.env).names.lookup x=some .cell\/(relabel sc X.env).names.lookup x=some .free
    rw[Xby,hfree];simp only[Option.map_some];split
    ·exact .inl rfl
    ·exact .inr rfl
   ·rcases lk with⟨k,_⟩|⟨_,c',hc',hcell⟩
    ·have k':X.env.scope.names.lookup x=some .local:=k
     rcases kx with z|z<;>(rw[k'] at z;cases z)
    ·rw[hcX] at hc';cases hc'
     exact⟨_,keep _ _ hcell.choose_spec.1,hcell.choose_spec.2⟩
 ·intro x c h
  rcases hcl x c h with⟨_,z⟩|⟨_,_,z⟩
  ·obtain⟨v,o,ho,hd⟩:=I.cell x c z
   exact⟨v,o,keep _ _ ho,hd⟩
  ·exact⟨none,z⟩
 ·show upd H Da _ C=none
  rw[Xf hCD];exact hCn
 ·intro x c h
  rcases hcl x c h with⟨_,z⟩|⟨_,z,_⟩
  ·rw[Xf (lt_ne c (cell_lt x c z)).2]
   exact I.freeC x c z
  ·rw[hC] at z
   rw[Xf (by rw[hDa];exact Nat.ne_of_gt (Nat.lt_of_succ_lt z))]
   exact I.hok.fresh (Nat.le_of_lt (Nat.lt_of_succ_lt z))
 ·intro p hp
  rw[List.append_nil] at hp;obtain⟨e,n,ne,nf,d⟩:=I.pin p hp;refine⟨keep _ _ e,?_,(lt_ne _ (Heap.lt_size e)).1,fun hm=>?_,d⟩
  ·rw[Xf (lt_ne _ (Heap.lt_size e)).2];exact n
  ·rcases List.mem_cons.mp (I.stkSub _ hm) with z|z
   ·exact ne z
   ·exact nf z
 ·intro b o e
  by_cases hb:b=Da
  ·subst hb
   rw[Yb] at e;cases e;obtain⟨n,hn⟩:=hacc;exact⟨Nat.zero_le _,[],n,.nil,hn⟩
  ·rw[Xf hb] at e
   exact(I.hok b o e).stay (fun c v _ q=>keep c v q) (fun c q=>by rw[Xf (Xq q hD)];exact q) fun c xs q=>by rw[Xf (Xq q hD)];exact q
 ·show(σ++List.replicate own.length none).length=(Xap X.N own).length
  unfold Xap;simp[I.len]
theorem Xv9(I:Inv X pins σ H s)(hf:∀ b∈fp,Xak X pins H b)(J:Inv (blk X pins s H sc cl C own fp) [] σ' H' s') :
  Inv X pins σ H' s' :=
 I.call' J.os J.base J.hok J.bare fun b hb=>⟨(hf b hb).2.2.2.1,(hf b hb).2.1,(hf b hb).2.2.2.2.1,(hf b hb).2.2.2.2.2⟩
theorem Xeb:∀ (names:List (Str×NameKind)) (n:Nat) (acc:List (Str×Addr)),cellsFrom n names acc=cellsFrom n names []++acc
 | [],_,_=>rfl
 | (x,k)::r,n,acc=>by
  unfold cellsFrom;split
  ·rw[Xeb r (n+1) ((x,n)::acc),Xeb r (n+1) [(x,n)],List.append_assoc];rfl
  ·exact Xeb r n acc
theorem Xka:∀ (names:List (Str×NameKind)) (n:Nat),(x,c)∈cellsFrom n names []->(x,.cell)∈names
 | [],_,h=>nomatch h
 | (y,k)::r,n,h=>by
  unfold cellsFrom at h;split at h
  ·rename_i hk
   rw[Xeb] at h;rcases List.mem_append.mp h with h|h
   ·exact List.mem_cons_of_mem _ (Xka r (n+1) h)
   ·have e:=List.mem_singleton.mp h
    cases e;rw[eq_of_beq hk];exact List.mem_cons_self
  ·exact List.mem_cons_of_mem _ (Xka r n h)
theorem Xwa {M:Model} {sc:Scope} {g:Addr} {cl:List (Str×Addr)} {q:Str} {env:PySem.Env} {R:PySem.Env->Shared->Prop} (h:R { scope:=sc,locals:=s.heap.objs.size,globals:=g,cells:=cellsFrom (s.heap.objs.size+1) sc.names cl,qual:=q,func:=none,code:=env.code,frame:=env.frame,builtins:=env.builtins } { s with heap:=pushCells (s.heap.push { cls:=.type "dict",data:=.dict #[] }) sc.names }) :
  wpAny M A (newFunctionEnv sc g cl [] q none .none (some env)) R E s:=by
 simp only[newFunctionEnv,Option.isSome_some,if_true];refine wpAny_bind (wpAny_alloc ?_);refine wpAny_bind (wpAny_layCells _ (fun name kind cells=>by cases hkc:kind==NameKind.cell<;>simp[hkc]) _ _ _ _ ?_)
 rw[show({ s with heap:=s.heap.push { cls:=.type "dict",data:=.dict #[] } }:Shared).heap.objs.size=s.heap.objs.size+1 from Heap.size_push ..]
 exact wpAny_bind (by rw[List.forIn_nil];exact wpAny_pure (wpAny_pure h))
theorem Xix
  (hc:X.calm=true) (so:ScOk X.env.scope sc X.N own) (hon:own.length=n) (hg:gens=⟨tg,iter,ifs,0⟩::gens.tail) (hi:DI X tg iter fi) (hs:∀ x,foldedSetIterable iter X.env x=pure x)
  (hG:∀ pins s H cl C fp,DG (blk X pins s H sc cl C own fp) tg t) (hT:∀ pins s H cl C fp,DTs (blk X pins s H sc cl C own fp) ifs tf) (hB:∀ pins s H cl C fp Da,Xc1 (blk X pins s H sc cl C own fp) Da elt gens sc cpos 0 body)
  (I:S0 X pins σ H s ρ S env) (q:fi env S=.ok src S1) (hr:Yn src.get t (Yy tf body) (src.most S1+1) 0 (env++List.replicate n none) [] S1=.ok accf Sf)
  (hQ:∀ s' H' ρ' Da vs C m,S0 X pins σ H' s' ρ' Sf env->Stp X.K ρ ρ' H H'->Da ∉ ρ'->H Da=none->H' Da=some (.lst vs)->RDs X.K ρ' H' accf vs->s'.heap.Ns C m->(∀ x c,X.env.cells.lookup x=some c->c≠C)->C≠X.env.locals->H' C=none->(∀ s'' σ'' H'' h',Inv X pins σ'' H'' s''->H'' C=none->Heap.SameBut C s''.heap h'->Inv X pins σ'' H'' { s'' with heap:=h' }) ->
   compPost (model X.prog X.w) X.A E use Q (.ref Da) C (.ok .next) s') :
  wpAny (model X.prog X.w) X.A (comprehension (.ListComp elt gens sc cpos) sc X.env (firstIterPos gens cpos) (newList []) false (eval iter X.env) use) Q E s:=by
 have hfree:∀ x∈sc.names,x.2=.free->∃ c,X.env.cells.lookup x.1=some c:=fun x hx hf=>by
  rcases so.free x hx hf with z|z
  ·exact I.inv.ok.has x.1 (.inl z)
  ·exact I.inv.ok.has x.1 (.inr z)
 obtain⟨cl,hclos,hcl,hclf⟩:=Xge hfree;refine wpAny_comprehension_free (g:=⟨tg,iter,ifs,0⟩) (gs:=gens.tail) hg hs hclos so.kind so.names ?_;refine wpAny_mono (E:=fun _ _=>False) (hi pins s σ H ρ S env (fun _ _=>False) I (by rw[q];exact fun z=>nomatch z) fun x s' z=>?_) (fun v s1 h1=>wpAny_mono h1 (fun itv s2 h2=>?_) fun _ _ z=>z.elim) fun _ _ z=>z.elim
 ·rw[q] at z;obtain⟨k,S2,e,z⟩:=z;cases e
 ·obtain⟨src',S2,it,fp,tn,J,H2,ρ2,e1,rfl,I2,T,t0,f2,sr2,srr,st2⟩:=h2
  rw[q] at e1;cases e1;have J2:=I.step I2 srr st2;refine wpAny_newObj_type (Xwa ?_);dsimp only;generalize hH2:s2.heap.push { cls:=.type "list",dict:=none,data:=.seq ([]:List Value).toArray }=G2;have hC:G2.objs.size=s2.heap.objs.size+1:=by rw[<- hH2,Heap.size_push]
  have below:∀ b,b<s2.heap.objs.size->b≠G2.objs.size:=fun b hb=>by rw[hC];exact Nat.ne_of_lt (Nat.lt_succ_of_lt hb)
  have cok:=cellsFrom_ok sc.names (G2.push { cls:=.type "dict",data:=.dict #[] }) (G2.objs.size+1) [] ⟨fun _ _ hm=>(nomatch hm),List.Pairwise.nil⟩ (by rw[Heap.size_push];exact Nat.le_refl _)
  rw[Heap.size_push] at cok;obtain⟨m1,hns₁⟩:∃ m1,(pushCells (G2.push { cls:=.type "dict",data:=.dict #[] }) sc.names).Ns G2.objs.size m1:=by
   obtain⟨o,es,ep,ho,Xao⟩:=(Heap.Ns.new ..:(G2.push { cls:=.type "dict",data:=.dict #[] }).Ns G2.objs.size _);exact⟨_,o,es,ep,pushCells_keeps _ _ _ _ ho,Xao⟩
  have ok0:∀ b o,G2.get? b=some o->(pushCells (G2.push { cls:=.type "dict",data:=.dict #[] }) sc.names).get? b=some o:=fun b o e=>pushCells_keeps _ _ b o (Heap.get?_push_of_some _ e)
  generalize pushCells (G2.push { cls:=.type "dict",data:=.dict #[] }) sc.names=h₁ at cok hns₁ ok0 ⊢;have old:∀ b o,s2.heap.get? b=some o->h₁.get? b=some o:=fun b o e=>ok0 b o (hH2▸Heap.get?_push_of_some _ e)
  have hacc:h₁.get? s2.heap.objs.size=some { cls:=.type "list",data:=.seq #[] 0 }:=ok0 _ _ (hH2▸Heap.get?_push_size _ rfl);have ofnew:∀ x c,(x,c)∈cellsFrom (G2.objs.size+1) sc.names []->x∈own/\G2.objs.size<c/\h₁.IsCell c none:=fun x c hm=>⟨so.cel _ (Xka _ _ hm) rfl,(cok.empty x c hm).2,(cok.empty x c hm).1⟩
  have two:∀ x c,(cellsFrom (G2.objs.size+1) sc.names cl).lookup x=some c->(x,c)∈cellsFrom (G2.objs.size+1) sc.names []\/(x ∉ own/\X.env.cells.lookup x=some c):=fun x c h=>by
   rw[Xeb,List.lookup_append,Option.or_eq_some_iff] at h;rcases h with h|⟨_,h⟩
   ·exact .inl (Xlo h)
   ·exact .inr ⟨so.apart _ (hcl x c h).2 rfl,(hcl x c h).1⟩
  have hclN:∀ x c,(cellsFrom (G2.objs.size+1) sc.names cl).lookup x=some c->(x ∉ own/\X.env.cells.lookup x=some c)\/(x∈own/\G2.objs.size<c/\h₁.IsCell c none):=fun x c h=>(two x c h).elim (fun z=>.inr (ofnew x c z)) .inl
  have old_lt:∀ x c,X.env.cells.lookup x=some c->c<G2.objs.size:=fun x c e=>by obtain⟨v,z⟩:=I2.cell x c e;rw[hC];exact Nat.lt_succ_of_lt z.lt
  have hinj:∀ x y c,(cellsFrom (G2.objs.size+1) sc.names cl).lookup x=some c->(cellsFrom (G2.objs.size+1) sc.names cl).lookup y=some c->x=y:=fun x y c h1 h2=>by
   rcases two x c h1 with a|⟨_,a⟩<;>rcases two y c h2 with b|⟨_,b⟩
   ·exact name_of_addr cok.apart a b
   ·exact absurd (old_lt y c b) (Nat.lt_asymm (ofnew x c a).2.1)
   ·exact absurd (old_lt x c a) (Nat.lt_asymm (ofnew y c b).2.1)
   ·exact I2.ok.inj x y c a b
  have hclfN:∀ x,sc.names.lookup x=some .cell\/sc.names.lookup x=some .free->∃ c,(cellsFrom (G2.objs.size+1) sc.names cl).lookup x=some c:=fun x h=>Option.isSome_iff_exists.mp (PySem.W.cellsFrom_some sc.names _ cl (h.imp id fun z=>by
   obtain⟨c,hc⟩:=hclf (x,.free) (Xcc z) rfl;exact Option.isSome_iff_exists.mpr ⟨c,hc⟩))
  generalize cellsFrom (G2.objs.size+1) sc.names cl=cl1 at hclN hinj hclfN two ⊢;have hfp:∀ b∈fp,b<s2.heap.objs.size:=fun b hb=>by obtain⟨o,e,_⟩:=T.obj _ _ t0 b hb;exact Heap.lt_size e
  have hD0:H2 s2.heap.objs.size=none:=I2.hok.fresh (Nat.le_refl _);have hDn:s2.heap.objs.size ∉ ρ2:=fun hm=>by obtain⟨w,hw,_⟩:=srr.mem hm;rw[hD0] at hw;cases hw
  generalize hs4:({ s2 with heap:=h₁ }:Shared)=s4
  have IY:Inv (blk X pins s2 H2 sc cl1 G2.objs.size own fp) [] (σ++List.replicate own.length none) (upd H2 s2.heap.objs.size (.lst [])) s4:=by
   subst hs4;exact X0b so I2 f2 hclN hinj hclfN rfl hC rfl rfl old hns₁ ⟨0,hacc⟩ hfp
  have stD:Stp X.K ρ2 ρ2 H2 (upd H2 s2.heap.objs.size (.lst [])):=Stp.upd hD0;have SY:S0 (blk X pins s2 H2 sc cl1 G2.objs.size own fp) [] (σ++List.replicate own.length none) (upd H2 s2.heap.objs.size (.lst [])) s4 ρ2 S1 (env++List.replicate n none):=by
   refine⟨IY,srr.upd hD0,⟨by simp[J2.er.len,hon],fun i d e=>?_⟩⟩
   have hi:i<env.length:=by
    by_cases hi:i<env.length
    ·exact hi
    ·rw[List.getElem?_append_right (by omega),List.getElem?_replicate] at e
     split at e<;>cases e
   rw[List.getElem?_append_left hi] at e;obtain⟨v,h1,h2⟩:=J2.er.val i d e;exact⟨v,by rw[List.getElem?_append_left (by rw[<- J2.er.len];exact hi)];exact h1,h2.mono stD⟩
  have t4:tn 0 s4.heap:=by
   subst hs4;exact T.keep 0 _ _ t0 fun b hb o e=>old b o e
  have fY:∀ b∈fp,Xak (blk X pins s2 H2 sc cl1 G2.objs.size own fp) [] (upd H2 s2.heap.objs.size (.lst [])) b:=fun b hb=>by
   obtain⟨a1,a2,a3,a4,a5,a6⟩:=f2 b hb;refine⟨by rw[Xf (Nat.ne_of_lt (hfp b hb))];exact a1,below b (hfp b hb),fun hm=>?_,.inl hb,fun x c h=>(hclN x c h).elim (fun z=>a5 x c z.2) (fun z=>Nat.ne_of_gt (Nat.lt_trans (by rw[hC];exact Nat.lt_succ_of_lt (hfp b hb)) z.2.1)),fun p hp=>?_⟩
   ·rcases List.mem_cons.mp (I2.stkSub b hm) with z|z
    ·exact a2 z
    ·exact a3 z
   ·rw[List.append_nil] at hp;exact a6 p hp
  refine codeAny_mono (Xp9 (Y:=blk X pins s2 H2 sc cl1 G2.objs.size own fp) (H0:=H2) (ρ0:=ρ2) (P:=compPost (model X.prog X.w) X.A E use Q (.ref s2.heap.objs.size) G2.objs.size (.ok .next)) hc (by rw[hg];rfl) T (hG _ _ _ _ _ _) (hT _ _ _ _ _ _) (hB _ _ _ _ _ _ _) hD0 SY t4 fY (sr2.mono stD) hDn Yb RDs.nil stD hr
   fun s' σ' H' ρ' vs' env' I' _ hn' hD' ra' st' _=>?_) fun r s' h=>?_
  ·have JX:=Xv9 I2 f2 I'.inv
   have hCn:H' G2.objs.size=none:=I'.inv.free;have hCle:s2.heap.objs.size<=G2.objs.size:=by rw[hC];exact Nat.le_succ _
   obtain⟨m',hm',_⟩:=I'.inv.loc;have fo:=I2.fpOk (H':=H') hCle hCn;have hDX:H s2.heap.objs.size=none:=by
    cases e:H s2.heap.objs.size with
    | none=>rfl
    | some o =>
     by_cases hm:s2.heap.objs.size∈ρ
     ·obtain⟨k,hk,ek⟩:=List.mem_iff_getElem.mp hm
      exact absurd (List.mem_of_getElem? (st2.pre k _ (by simp[hk,ek]))) hDn
     ·rw[st2.keep _ o e hm] at hD0;cases hD0
   refine hQ s' H' ρ' s2.heap.objs.size vs' G2.objs.size m' ⟨JX,I'.sr,I.er.mono (st2.trans st')⟩ (st2.trans st') hn' hDX hD' ra' hm' fo.2.2.2.2.1 (fun z=>fo.2.1 z) hCn fun s'' σ'' H'' h' J'' hn'' hs''=>?_
   have q'':Xak X pins H'' G2.objs.size:=⟨hn'',fo.2⟩;exact J''.turned (t':=s''.toks) (fun b o hb e=>(hs''.2 b hb).trans e) hn'' q''.2.1 q''.2.2.2.1 q''.2.2.2.2.1 q''.2.2.2.2.2
  ·cases r with
   | ok f=>cases use<;>exact h
   | error e=>exact h.elim
end
theorem Xdx{get:Sto->Nat->Option (Option D)}{body:En->List D->Sto->R (List D)}:∀ (k i:Nat) (env:En) (acc:List D) (S:Sto) (n:Nat) (S':Sto),Yn get t body k i env acc S≠.ex n S'
 | 0,i,env,acc,S,n,S'=>fun z=>nomatch z
 | k+1,i,env,acc,S,n,S'=>by
  simp only[Yn];cases get S i with
  | none=>exact fun z=>nomatch z
  | some o =>
   cases o with
   | none=>exact fun z=>nomatch z
   | some d =>
    dsimp only;cases Xp t d env with
    | none=>exact fun z=>nomatch z
    | some env' =>
     dsimp only;cases body env' acc S with
     | ok a S1=>exact Xdx k (i+1) env' a S1 n S'
     | ex _ _=>exact fun z=>nomatch z
     | bad=>exact fun z=>nomatch z
section
variable{X:Cx}{pins:List (Addr×Obj)}{σ:L2.St}{H:Hp}{s:Shared}{ρ:List Addr}{S S':Sto}{env:En}{Q:Value->Shared->Prop}{E:Value->Shared->Prop}
theorem SR.adopt{K:PySem.W.Frag}{Da:Addr}{vs:List V}{xs:List D}(r:SR K ρ S H)(hn:Da ∉ ρ)(hD:H Da=some (.lst vs))(rd:RDs K ρ H xs vs):SR K (ρ++[Da]) (S++[.lst xs]) H:=by
 have mo:Mon K ρ (ρ++[Da]) H H:=⟨fun n a h=>by rw[List.getElem?_append_left (List.getElem?_eq_some_iff.mp h).1];exact h,fun _ _ h=>h,fun _ _ h=>h⟩
 refine⟨by simp[r.len],?_,fun n a ob h1 h2=>?_⟩
 ·rw[List.nodup_append]
  refine⟨r.nd,by simp,fun x hx y hy=>?_⟩
  rw[List.mem_singleton.mp hy];exact fun z=>hn (z▸hx)
 ·by_cases hk:n < ρ.length
  ·rw[List.getElem?_append_left hk] at h1
   rw[List.getElem?_append_left (by rw[<- r.len];exact hk)] at h2
   exact(r.ob n a ob h1 h2).mono' mo rfl
  ·have e:n=ρ.length:=by
    have:=(List.getElem?_eq_some_iff.mp h1).1;simp at this;omega
   subst e;simp at h1;rw[r.len] at h2;simp at h2;subst h1 h2;exact⟨vs,hD,RDs.mono' mo _ _ rd⟩
theorem Stp.adopt{K:PySem.W.Frag}{Da:Addr}{ρ':List Addr}{H':Hp}(st:Stp K ρ ρ' H H')(h0:H Da=none):Stp K ρ (ρ'++[Da]) H H' where
 pre:=fun n a h=>by have z:=st.pre n a h;rw[List.getElem?_append_left (List.getElem?_eq_some_iff.mp z).1];exact z
 tup:=st.tup
 fro:=st.fro
 new:=fun a h=>by
  rcases List.mem_append.mp h with h|h
  ·exact st.new a h
  ·rw[List.mem_singleton.mp h];exact .inr h0
 keep:=st.keep
variable{elt:Expr}{gens:List Comprehension}{sc:Scope}{cpos:Pos}{tg iter:Expr}{ifs:List Expr}{own:List Str}{t:Tg}{n:Nat}{fi:En->Sto->R Src}{tf:En->Sto->R Bool}{body:En->List D->Sto->R (List D)}
noncomputable def Xec(fi:En->Sto->R Src)(t:Tg)(n:Nat)(tf:En->Sto->R Bool)(body:En->List D->Sto->R (List D))(env:En)(S:Sto):R D :=
 (fi env S).bind fun src S=>(Yn src.get t (Yy tf body) (src.most S+1) 0 (env++List.replicate n none) [] S).bind fun acc S=>.ok (.ref S.length) (S++[.lst acc])
theorem Xmj{use:Option (Value->Sem Unit)}{m:Nat}(so:ScOk X.env.scope sc X.N own)(hg:gens=⟨tg,iter,ifs,0⟩::gens.tail)(hi:DI X tg iter fi)(hs:∀ x,foldedSetIterable iter X.env x=pure x)
  (I:S0 X pins σ H s ρ S env) (q:fi env S=.ex m S1) (hE:∀ x s',XPd X pins σ ρ H m S1 x s'->E x s') :
  wpAny (model X.prog X.w) X.A (comprehension (.ListComp elt gens sc cpos) sc X.env (firstIterPos gens cpos) (newList []) false (eval iter X.env) use) Q E s:=by
 have hfree:∀ x∈sc.names,x.2=.free->∃ c,X.env.cells.lookup x.1=some c:=fun x hx hf=>by
  rcases so.free x hx hf with z|z
  ·exact I.inv.ok.has x.1 (.inl z)
  ·exact I.inv.ok.has x.1 (.inr z)
 obtain⟨cl,hclos,hcl,hclf⟩:=Xge hfree;refine wpAny_comprehension_free (g:=⟨tg,iter,ifs,0⟩) (gs:=gens.tail) hg hs hclos so.kind so.names ?_;refine wpAny_mono (hi pins s σ H ρ S env E I (by rw[q];exact fun z=>nomatch z) fun x s' z=>?_) (fun v s1 h1=>wpAny_mono h1 (fun itv s2 h2=>?_) fun _ _ z=>z) fun _ _ z=>z
 ·rw[q] at z;obtain⟨k,S2,e,z⟩:=z;cases e;exact hE x s' z
 ·obtain⟨src',S2,_,_,_,_,_,_,e1,_⟩:=h2
  rw[q] at e1;cases e1
theorem X0c(hc:X.calm=true)(so:ScOk X.env.scope sc X.N own)(hon:own.length=n)(hg:gens=⟨tg,iter,ifs,0⟩::gens.tail)(hi:DI X tg iter fi)(hs:∀ x,foldedSetIterable iter X.env x=pure x)
  (hG:∀ pins s H cl C fp,DG (blk X pins s H sc cl C own fp) tg t) (hT:∀ pins s H cl C fp,DTs (blk X pins s H sc cl C own fp) ifs tf) (hB:∀ pins s H cl C fp Da,Xc1 (blk X pins s H sc cl C own fp) Da elt gens sc cpos 0 body) :
  DE X (.ListComp elt gens sc cpos) (Xec fi t n tf body):=by
 intro pins s σ H ρ S env I nb;have hfi:firstIter gens X.env=eval iter X.env:=by rw[hg];rfl
 have hfa:firstAsync gens=false:=by rw[hg];rfl
 rw[eval_ListComp,hfi,hfa];unfold Xec at nb ⊢;cases q:fi env S with
 | bad=>rw[q] at nb;exact absurd rfl nb
 | ex m S1=>exact Xmj so hg hi hs I q fun x s' z=>⟨m,S1,rfl,z⟩
 | ok src S1 =>
  rw[q] at nb;simp only[Rk0] at nb ⊢;cases q2:Yn src.get t (Yy tf body) (src.most S1+1) 0 (env++List.replicate n none) [] S1 with
  | bad=>rw[q2] at nb;exact absurd rfl nb
  | ex m S2=>exact absurd q2 (Xdx _ _ _ _ _ _ _)
  | ok accf Sf =>
   refine Xix hc so hon hg hi hs hG hT hB I q q2 fun s' H' ρ' Da vs C m I' st' hn' h0 hD' ra' hns hcells hCl hCn back=>?_
   refine⟨m,hns,fun h' hs'=>?_⟩
   refine .mk (v:=.ref Da) (st'.adopt h0) (back s' σ H' h' I'.inv hCn hs') rfl ?_ (I'.sr.adopt hn' hD' ra');simp only[RD];exact⟨Da,rfl,by rw[<- I'.sr.len];simp⟩
theorem Xwb{i:Nat}(hN:X.N.Nodup)(hi':X.N[i]?=some x)(hx:X.env.scope.names.lookup x=some .local)(hsw:swapsWith (.ListComp elt gens sc cpos) (some (.Name x py)) spos.line X.env=pure true)
  (hc:X.calm=true) (so:ScOk X.env.scope sc X.N own) (hon:own.length=n) (hg:gens=⟨tg,iter,ifs,0⟩::gens.tail) (hi:DI X tg iter fi) (hs:∀ x,foldedSetIterable iter X.env x=pure x)
  (hG:∀ pins s H cl C fp,DG (blk X pins s H sc cl C own fp) tg t) (hT:∀ pins s H cl C fp,DTs (blk X pins s H sc cl C own fp) ifs tf) (hB:∀ pins s H cl C fp Da,Xc1 (blk X pins s H sc cl C own fp) Da elt gens sc cpos 0 body) :
  DS X (.Assign [.Name x py] (.ListComp elt gens sc cpos) spos) false (fun env S=>(Xec fi t n tf body env S).bind fun d S=>match Xp (.var i) d env with|some env=>.ok (.nx env) S|none=>.bad):=by
 intro pins s σ H ρ S env I nb;dsimp only at nb ⊢;have hfi:firstIter gens X.env=eval iter X.env:=by rw[hg];rfl
 have hfa:firstAsync gens=false:=by rw[hg];rfl
 rw[exec_Assign_Name_used _ _ _ _ hsw];refine wpAny_bind (wpAny_standAt (wpAny_bind ?_));show wpAny _ X.A (do let _ <- comprehension (.ListComp elt gens sc cpos) sc X.env (firstIterPos gens cpos) (newList []) (firstAsync gens) (firstIter gens X.env) (some (assign (.Name x py) X.env))) _ _ s
 rw[hfi,hfa];refine wpAny_bind (wpAny_mono (Q:=fun _ s'=>OkS X pins σ ρ H false ((Xec fi t n tf body env S).bind fun d S=>match Xp (.var i) d env with|some env=>.ok (.nx env) S|none=>.bad) .next s') ?_ (fun _ s' hq=>wpAny_pure (wpAny_pure hq)) fun _ _ z=>z)
 unfold Xec at nb ⊢;cases q:fi env S with
 | bad=>rw[q] at nb;exact absurd rfl nb
 | ex m S1=>exact Xmj so hg hi hs I q fun x s' z=>.of .refl z rfl
 | ok src S1 =>
  rw[q] at nb;simp only[Rk0] at nb ⊢;cases q2:Yn src.get t (Yy tf body) (src.most S1+1) 0 (env++List.replicate n none) [] S1 with
  | bad=>rw[q2] at nb;exact absurd rfl nb
  | ex m S2=>exact absurd q2 (Xdx _ _ _ _ _ _ _)
  | ok accf Sf =>
   refine Xix (use:=some (assign (.Name x py) X.env)) hc so hon hg hi hs hG hT hB I q q2 fun s' H' ρ' Da vs C m I' st' hn' h0 hD' ra' hns hcells hCl hCn back=>?_
   show wpAny _ X.A (assign (.Name x py) X.env (.ref Da)) _ _ s';refine wpAny_assign_Name (Xim I'.inv hN hi' (.inl hx) (show RelV (.ref Da) (.ref Da) from rfl) (fun s2 I2 hsb=>?_) (.inr hx))
   obtain⟨ad,hsb,had⟩:=hsb;have hne:ad≠C:=by
    rcases had with z|z
    ·rw[z];exact Ne.symm hCl
    ·exact hcells x ad z
   refine⟨m,hns.sameBut hsb (Ne.symm hne),fun h' hs'=>?_⟩
   have J:=back s2 _ H' h' I2 hCn hs';refine⟨.nx (env.set i (some (.ref Sf.length))),Sf++[.lst accf],rfl,rfl,_,H',ρ'++[Da],⟨J,I'.sr.adopt hn' hD' ra',?_⟩,st'.adopt h0,fun z=>nomatch z⟩
   have mo:Mon X.K ρ' (ρ'++[Da]) H' H':=⟨fun n a h=>by rw[List.getElem?_append_left (List.getElem?_eq_some_iff.mp h).1];exact h,fun _ _ h=>h,fun _ _ h=>h⟩
   refine(I'.er.mono' mo).set i ?_;simp only[RD];exact⟨Da,rfl,by rw[<- I'.sr.len];simp⟩
def BlR(X:Cx)(k:Bl)(f:Value):Prop :=
 ∀ (pins:List (Addr×Obj)) (s:Shared) (σ:L2.St) (H:Hp) (ρ:List Addr) (S:Sto) (env:En) (ds:List D) (vs:List V) (us:List Value) (E:Value->Shared->Prop),S0 X pins σ H s ρ S env->RDs X.K ρ H ds vs->Vals vs us->Xh k ds S≠.bad ->
  wpAny (model X.prog X.w) X.A (call f us) (OkP X pins σ ρ H (Xh k ds S)) E s
theorem RDs.one{K:PySem.W.Frag}{d:D}{vs:List V}(h:RDs K ρ H [d] vs):∃ v,vs=[v]/\RD K ρ H d v:=by
 simp only[RDs] at h;obtain⟨v,r,rfl,h1,rfl⟩:=h;exact⟨v,rfl,h1⟩
theorem RDs.two{K:PySem.W.Frag}{d e:D}{vs:List V}(h:RDs K ρ H [d,e] vs):∃ v u,vs=[v,u]/\RD K ρ H d v/\RD K ρ H e u:=by
 simp only[RDs] at h;obtain⟨v,r,rfl,h1,u,r',rfl,h2,rfl⟩:=h;exact⟨v,u,rfl,h1,h2⟩
theorem X3m:BlR X .len (.builtin "len"):=by
 intro pins s σ H ρ S env ds vs us E I rd rv nb
 match ds,rd,nb with
 | [],_,nb=>exact absurd rfl nb
 | _::_::_,_,nb=>exact absurd rfl nb
 | [d],rd,nb =>
  obtain⟨v,rfl,r1⟩:=rd.one;have go:∀ xs,Xn S d=some xs->wpAny (model X.prog X.w) X.A (call (.builtin "len") us) (OkP X pins σ ρ H (.ok (.int xs.length) S)) E s:=fun xs h=>by
   obtain⟨a,ws,rfl,hq,hr⟩:=I.seq h r1;refine Xdv (Q':=fun z H'=>z=.int ws.length/\H'=H) Xjw I.inv rv ⟨a,ws,rfl,hq,rfl,rfl⟩ fun w s' z H' J rz ⟨e1,e2⟩=>?_
   subst e1 e2;obtain⟨t,rfl⟩:=rz;rw[<- hr.length];exact Y5 I.sr J
  cases d with
  | str z =>
   simp only[Xh] at nb ⊢;split at nb
   ·rename_i hz
    rw[if_pos hz];simp only[RD] at r1;subst r1;refine Xdv (Q':=fun y H'=>y=.int z.length/\H'=H) Xjx I.inv rv ⟨z,rfl,Y0 hz,rfl,rfl⟩ fun w s' y H' J rz ⟨e1,e2⟩=>?_
    subst e1 e2;obtain⟨t,rfl⟩:=rz;exact Y5 I.sr J
   ·exact absurd rfl nb
  | tup xs=>exact go xs rfl
  | fro xs=>exact go xs rfl
  | ref n =>
   simp only[Xh,Xn] at nb ⊢;cases e:Xb S n with
   | none=>rw[e] at nb;exact absurd rfl nb
   | some xs=>exact go xs e
  | non=>exact absurd rfl nb
  | bl _=>exact absurd rfl nb
  | int _=>exact absurd rfl nb
  | fn _ _=>exact absurd rfl nb
theorem Xwc:BlR X .tuple (.type "tuple"):=by
 intro pins s σ H ρ S env ds vs us E I rd rv nb
 match ds,rd,nb with
 | [],_,nb=>exact absurd rfl nb
 | _::_::_,_,nb=>exact absurd rfl nb
 | [d],rd,nb =>
  obtain⟨v,rfl,r1⟩:=rd.one;simp only[Xh] at nb ⊢;cases e:Xn S d with
  | none=>rw[e] at nb;exact absurd rfl nb
  | some xs =>
   dsimp only;obtain⟨a,ws,rfl,hq,hr⟩:=I.seq e r1;rcases hq with hq|hq
   ·refine Xdv (Q':=fun z H'=>∃ p,H p=none/\z=.ref p/\H'=upd H p (.tup ws)) Xd6 I.inv rv ⟨a,ws,rfl,.inl ⟨hq,fun l hl=>⟨l,hl,rfl,rfl⟩⟩⟩ fun w s' z H' J rz ⟨p,hp,e1,e2⟩=>?_
    subst e1 e2;cases rz;exact Xcd J hp I.sr hr
   ·refine Xdv (Q':=fun z H'=>z=.ref a/\H'=H) Xd6 I.inv rv ⟨a,ws,rfl,.inr ⟨hq,rfl,rfl⟩⟩ fun w s' z H' J rz ⟨e1,e2⟩=>?_
    subst e1 e2;refine .mk .refl J rz ?_ I.sr;simp only[RD];exact⟨a,ws,rfl,hq,hr⟩
theorem X0d:BlR X .list (.type "list"):=by
 intro pins s σ H ρ S env ds vs us E I rd rv nb
 match ds,rd,nb with
 | [],_,nb=>exact absurd rfl nb
 | _::_::_,_,nb=>exact absurd rfl nb
 | [d],rd,nb =>
  obtain⟨v,rfl,r1⟩:=rd.one;simp only[Xh] at nb ⊢;cases e:Xn S d with
  | none=>rw[e] at nb;exact absurd rfl nb
  | some xs =>
   dsimp only;obtain⟨a,ws,rfl,hq,hr⟩:=I.seq e r1;refine Xdv (Q':=fun z H'=>∃ p,H p=none/\z=.ref p/\H'=upd H p (.lst ws)) Xjy I.inv rv ⟨a,ws,rfl,hq,fun l hl=>⟨l,hl,rfl,rfl⟩⟩ fun w s' z H' J rz ⟨p,hp,e1,e2⟩=>?_
   subst e1 e2;cases rz;exact Xbe J hp I.sr hr
theorem Xb4:∀ {xs:List D} {bs:List Bool},Xz xs=some bs->xs=bs.map D.bl
 | [],ns,h=>by simp only[Xz,Option.some.injEq] at h;subst h;rfl
 | .bl i::r,ns,h=>by
  simp only[Xz,Option.map_eq_some_iff] at h;obtain⟨ms,h1,rfl⟩:=h;rw[Xb4 h1];rfl
 | .non::_,_,h=>by simp[Xz] at h
 | .int _::_,_,h=>by simp[Xz] at h
 | .str _::_,_,h=>by simp[Xz] at h
 | .tup _::_,_,h=>by simp[Xz] at h
 | .ref _::_,_,h=>by simp[Xz] at h
 | .fro _::_,_,h=>by simp[Xz] at h
 | .fn _ _::_,_,h=>by simp[Xz] at h
theorem Xqb(bs:List Bool)(f:Nat->Bool)(h:∀ i,f i=(bs[i]?).getD false):(List.range bs.length).all f=bs.all id:=by
 rw[Bool.eq_iff_iff,List.all_eq_true,List.all_eq_true];constructor
 ·intro q b hb
  obtain⟨i,hi,rfl⟩:=List.mem_iff_getElem.mp hb;have:=q i (by simpa using hi)
  rw[h i] at this
  simpa [hi] using this
 ·intro q i hi
  have hi':i<bs.length:=by simpa using hi
  rw[h i];simp only[hi',getElem?_pos,Option.getD_some];exact q _ (List.getElem_mem hi')
theorem Xu5{K:PySem.W.Frag}:∀ {bs:List Bool} {vs:List V},RDs K ρ H (bs.map D.bl) vs->vs=bs.map V.bl
 | [],vs,h=>by simp only[List.map,RDs] at h;exact h
 | n::ns,vs,h=>by
  simp only[List.map,RDs] at h;obtain⟨v,r,rfl,h1,h2⟩:=h;simp only[RD] at h1;subst h1;rw[Xu5 h2];rfl
theorem S0.its(I:S0 X pins σ H s ρ S env)(h:Xb S n=some xs)(rd:RD X.K ρ H (.ref n) v)(rv:RelV v u):∃ a vs its,u=.ref a/\s.heap.IsList a its.toArray/\RDs X.K ρ H xs vs/\Vals vs its/\vs.length<=sizeLine:=by
 obtain⟨a,vs,rfl,h1,h2,h3⟩:=I.lstR h rd;cases rv;obtain⟨its,r,p,hz⟩:=I.inv.list (.of h2);exact⟨a,vs,its,rfl,p.isList,h3,r,hz⟩
theorem Xfk{its:List Value}{Q:Value->Shared->Prop}(hh:A.handled=none)(hq:s.heap.IsList a its.toArray\/s.heap.IsTuple a its.toArray)
  (h:∀ I fp wr St s₂,Walks prog w A I fp wr its.length (fun i v=>its[i]?=some v) St->St 0 s₂.heap->(∀ b∈fp,b<s₂.heap.objs.size) ->
   (∀ h' tk,(∀ b o,b ∉ wr->s₂.heap.get? b=some o->h'.get? b=some o)->({ s₂ with heap:=h',toks:=tk }:Shared)={ s with heap:=h',toks:=tk }/\∀ b o,s.heap.get? b=some o->h'.get? b=some o)->Q (.ref I) s₂) :
  wpAny (model prog w) A (pyIter (.ref a)) Q E s:=by
 have key:∀ {o:Obj},∀ h' tk,(∀ b ob,b ∉ [s.heap.objs.size]->({ s with heap:=s.heap.push o }:Shared).heap.get? b=some ob->h'.get? b=some ob)->({ ({ s with heap:=s.heap.push o }:Shared) with heap:=h',toks:=tk }:Shared)={ s with heap:=h',toks:=tk }/\∀ b ob,s.heap.get? b=some ob->h'.get? b=some ob :=
  fun {o} h' tk hk=>⟨rfl,fun b ob e=>hk b ob (by simp;exact Nat.ne_of_lt (Heap.lt_size e)) (Heap.get?_push_of_some _ e)⟩
 have fpk:∀ {o:Obj} (ha:a<s.heap.objs.size),∀ b∈[s.heap.objs.size,a],b<(s.heap.push o).objs.size:=fun {o} ha b hb=>by
  rw[Heap.size_push];simp at hb;rcases hb with rfl|rfl
  ·exact Nat.lt_succ_self _
  ·exact Nat.lt_succ_of_lt ha
 rcases hq with hq|hq
 ·have ha:a<s.heap.objs.size:=Heap.lt_size hq.choose_spec.1
  refine wpAny_pyIter_list hq ?_;have W:=Walks.list (prog:=prog) (w:=w) hh s.heap.objs.size a (Nat.ne_of_lt ha) its.toArray;simp only[List.size_toArray,List.getElem?_toArray] at W;exact h _ _ _ _ _ W ⟨⟨_,Heap.get?_push_size _ rfl,rfl,rfl⟩,hq.at fun o e=>Heap.get?_push_of_some _ e⟩ (fpk ha) key
 ·have ha:a<s.heap.objs.size:=Heap.lt_size hq.choose_spec.1
  refine wpAny_pyIter_tuple hq ?_;have W:=Walks.tuple (prog:=prog) (w:=w) hh s.heap.objs.size a (Nat.ne_of_lt ha) its.toArray;simp only[List.size_toArray,List.getElem?_toArray] at W;exact h _ _ _ _ _ W ⟨⟨_,Heap.get?_push_size _ rfl,rfl,rfl⟩,hq.at fun o e=>Heap.get?_push_of_some _ e⟩ (fpk ha) key
theorem S0.seqI(I:S0 X pins σ H s ρ S env)(h:Xn S d=some xs)(rd:RD X.K ρ H d v)(rv:RelV v u):∃ a vs its,u=.ref a/\(s.heap.IsList a its.toArray\/s.heap.IsTuple a its.toArray)/\RDs X.K ρ H xs vs/\Vals vs its/\vs.length<=sizeLine:=by
 obtain⟨a,vs,rfl,hq,hr⟩:=I.seq h rd;cases rv;rcases hq with hq|hq
 ·obtain⟨its,r,p,hz⟩:=I.inv.list hq
  exact⟨a,vs,its,rfl,.inl p.isList,hr,r,hz⟩
 ·obtain⟨its,r,p,hz⟩:=I.inv.tuple hq
  exact⟨a,vs,its,rfl,.inr p,hr,r,hz⟩
theorem Xwd{i:Nat}{v:Value}:∀ {bs:List Bool} {its:List Value},Vals (bs.map V.bl) its->its[i]?=some v->v=.bool ((bs[i]?).getD false):=fun {bs its} hv e=>by
 have hl:i<bs.length:=by
  have h1:=hv.length;have h2:=(List.getElem?_eq_some_iff.mp e).1;simp at h1;omega
 obtain⟨u,h1,h2⟩:=hv.get (i:=i) (x:=.bl bs[i]) (by simp[hl])
 rw[e] at h1;cases h1;simp[hl];exact h2
theorem X3n(hc:X.calm=true):BlR X .all (.builtin "all"):=by
 intro pins s σ H ρ S env ds vs us E I rd rv nb
 match ds,rd,nb with
 | [],_,nb=>exact absurd rfl nb
 | d::_::_,_,nb=>cases d<;>exact absurd rfl nb
 | [d],rd,nb =>
  cases d with
  | ref n =>
   obtain⟨v,rfl,r1⟩:=rd.one;simp only[Xh] at nb ⊢;cases e:Xb S n with
   | none=>rw[e] at nb;exact absurd rfl nb
   | some xs =>
    rw[e] at nb;simp only[Option.bind_some] at nb ⊢;cases e2:Xz xs with
    | none=>rw[e2] at nb;exact absurd rfl nb
    | some bs =>
     dsimp only;have q:=Xb4 e2;subst q;cases rv with
     | cons ru rr =>
      cases rr;obtain⟨a,ws,its,rfl,hl,hr,hv,hz⟩:=I.its e r1 ru;have hw:=Xu5 hr;subst hw;have hlen:its.length=bs.length:=by rw[<- hv.length];simp
      refine call_all_walk (Xfk (I.inv.ok.hd hc) (.inl hl) fun It fp wr St s₂ W st hf key=>?_)
      refine⟨It,fp,wr,_,_,St,fun i=>(bs[i]?).getD false,rfl,W,st,fun i v s' Q' E' hP hQ=>?_,fun h' tk hk=>?_⟩
      ·rw[Xwd hv hP];exact wpAny_truthy_bool hQ
      ·obtain⟨e3,k3⟩:=key h' tk hk
       rw[e3,hlen,Xqb bs _ fun _=>rfl]
       exact Xj I.sr (I.inv.kept k3)
  | _=>exact absurd rfl nb
theorem Xdy{i:Nat}{v:Value}{ns:List Int}{its:List Value}(hv:Vals (ns.map V.int) its)(e:its[i]?=some v):∃ t,v=.int ((ns[i]?).getD 0) t:=by
 have hl:i<ns.length:=by
  have h1:=hv.length;have h2:=(List.getElem?_eq_some_iff.mp e).1;simp at h1;omega
 obtain⟨u,h1,h2⟩:=hv.get (i:=i) (x:=.int ns[i]) (by simp[hl])
 rw[e] at h1;cases h1;simp[hl];exact h2
theorem Xe9(ns:List Int):∀ k,k<=ns.length->preSum (fun i=>(ns[i]?).getD 0) k=(ns.take k).sum
 | 0,_=>by simp[preSum]
 | k+1,h=>by
  have hk:k<ns.length:=by omega
  rw[preSum,Xe9 ns k (by omega),List.take_succ_eq_append_getElem hk,List.sum_append]
  simp[hk]
theorem X3o(hc:X.calm=true):BlR X .sum (.builtin "sum"):=by
 intro pins s σ H ρ S env ds vs us E I rd rv nb
 match ds,rd,nb with
 | [],_,nb=>exact absurd rfl nb
 | _::_::_,_,nb=>exact absurd rfl nb
 | [d],rd,nb =>
  obtain⟨v,rfl,r1⟩:=rd.one;simp only[Xh] at nb ⊢;cases e:Xn S d with
  | none=>rw[e] at nb;exact absurd rfl nb
  | some xs =>
   rw[e] at nb;simp only[Option.bind_some] at nb ⊢;cases e2:Xu xs with
   | none=>rw[e2] at nb;exact absurd rfl nb
   | some ns =>
    dsimp only;have q:=Xaz e2;subst q;cases rv with
    | cons ru rr =>
     cases rr;obtain⟨a,ws,its,rfl,hl,hr,hv,hz⟩:=I.seqI e r1 ru;have hw:=hr.ints_of;subst hw;have hlen:its.length=ns.length:=by rw[<- hv.length];simp
     refine call_sum_walkAnyS (Xfk (I.inv.ok.hd hc) hl fun It fp wr St s₂ W st hf key=>?_)
     refine⟨It,fp,wr,_,_,_,_,fun i=>(ns[i]?).getD 0,rfl,W.toS,st,hf,fun i v hP=>Xdy hv hP,fun s' t' hm=>?_⟩
     obtain⟨h1,h2,h3,h4,h5⟩:=hm;obtain⟨e3,k3⟩:=key s'.heap s'.toks h1;have e4:s'={ s₂ with heap:=s'.heap,toks:=s'.toks }:=by
      cases s';cases s₂;simp only at h2 h3 h4;subst h2 h3 h4;rfl
     rw[e4,e3,hlen,Xe9 ns _ (Nat.le_refl _),List.take_length];exact Y5 I.sr (I.inv.kept k3)
theorem X0e(hc:X.calm=true)(I:S0 X pins σ H s ρ S env)(rv:RelV (.int i) v')(ru:RelV (.int j) u'):wpAny (model X.prog X.w) X.A (call (.builtin "max") [v',u']) (OkP X pins σ ρ H (Xh .max [.int i,.int j] S)) E s :=
 Xdv (Q':=fun z H'=>z=.int (if j>i then j else i)/\H'=H) (Xpr hc) I.inv (.cons rv (.cons ru .nil)) ⟨i,j,rfl,rfl,rfl⟩ fun w s' z H' J rz ⟨e1,e2⟩=>by
  subst e1 e2;obtain⟨t,rfl⟩:=rz;exact Y5 I.sr J
theorem X0f(hc:X.calm=true){i j:Int}{v' u':Value}(I:S0 X pins σ H s ρ S env)(rv:RelV (.int i) v')(ru:RelV (.int j) u'):wpAny (model X.prog X.w) X.A (call (.builtin "min") [v',u']) (OkP X pins σ ρ H (Xh .min [.int i,.int j] S)) E s :=
 Xdv (Q':=fun z H'=>z=.int (if j<i then j else i)/\H'=H) (Xps hc) I.inv (.cons rv (.cons ru .nil)) ⟨i,j,rfl,rfl,rfl⟩ fun w s' z H' J rz ⟨e1,e2⟩=>by
  subst e1 e2;obtain⟨t,rfl⟩:=rz;exact Y5 I.sr J
theorem X3p(hc:X.calm=true):BlR X .max (.builtin "max"):=by
 intro pins s σ H ρ S env ds vs us E I rd rv nb
 match ds,rd,nb with
 | [],_,nb=>exact absurd rfl nb
 | [d],rd,nb=>cases d<;>exact absurd rfl nb
 | [d,e],rd,nb =>
  obtain⟨v,u,rfl,r1,r2⟩:=rd.two;cases d with
  | int i=>cases e with
   | int j =>
    simp only[RD] at r1 r2;subst r1 r2;cases rv with
    | cons ru rr=>cases rr with
     | cons rw' rr=>cases rr;exact X0e hc I ru rw'
   | _=>exact absurd rfl nb
  | _=>cases e<;>exact absurd rfl nb
 | d::e::_::_,_,nb=>cases d<;>(try cases e)<;>exact absurd rfl nb
theorem X3q(hc:X.calm=true):BlR X .min (.builtin "min"):=by
 intro pins s σ H ρ S env ds vs us E I rd rv nb
 match ds,rd,nb with
 | [],_,nb=>exact absurd rfl nb
 | [d],rd,nb=>cases d<;>exact absurd rfl nb
 | [d,e],rd,nb =>
  obtain⟨v,u,rfl,r1,r2⟩:=rd.two;cases d with
  | int i=>cases e with
   | int j =>
    simp only[RD] at r1 r2;subst r1 r2;cases rv with
    | cons ru rr=>cases rr with
     | cons rw' rr=>cases rr;exact X0f hc I ru rw'
   | _=>exact absurd rfl nb
  | _=>cases e<;>exact absurd rfl nb
 | d::e::_::_,_,nb=>cases d<;>(try cases e)<;>exact absurd rfl nb
theorem Xfa(ns:List Int):∀ k,k<ns.length->(ns[argBest (fun i j=>decide ((ns[i]?).getD 0>(ns[j]?).getD 0)) k]?).getD 0=(ns.take (k+1)).tail.foldl max ((ns[0]?).getD 0)
 | 0,h=>by
  cases ns with
  | nil=>simp at h
  | cons n r=>simp[argBest]
 | k+1,h=>by
  have ih:=Xfa ns k (by omega)
  simp only[argBest];have ht:(ns.take (k+1+1)).tail=(ns.take (k+1)).tail++[ns[k+1]]:=by
   rw[List.take_succ_eq_append_getElem h];cases ns with
   | nil=>simp at h
   | cons n r=>simp
  rw[ht,List.foldl_append];simp only[List.foldl_cons,List.foldl_nil];generalize hm:List.foldl max ((ns[0]?).getD 0) (ns.take (k+1)).tail=m at ih ⊢;have h1:(ns[k+1]?).getD 0=ns[k+1]:=by simp[h]
  split
  ·rename_i hc
   have hc':=of_decide_eq_true hc;rw[ih,h1] at hc';rw[h1];omega
  ·rename_i hc
   have hc':¬ ((ns[k+1]?).getD 0>(ns[argBest (fun i j=>decide ((ns[i]?).getD 0>(ns[j]?).getD 0)) k]?).getD 0):=fun z=>hc (decide_eq_true z)
   rw[ih,h1] at hc';rw[ih];omega
theorem X0g(hc:X.calm=true){d:D}{v:V}{u:Value}(I:S0 X pins σ H s ρ S env)(rd:RD X.K ρ H d v)(rv:RelV v u)(nb:Xh .mxl [d] S≠.bad):wpAny (model X.prog X.w) X.A (call (.builtin "max") [u]) (OkP X pins σ ρ H (Xh .mxl [d] S)) E s:=by
 simp only[Xh] at nb ⊢;cases e:Xn S d with
 | none=>rw[e] at nb;exact absurd rfl nb
 | some xs =>
  rw[e] at nb;simp only[Option.bind_some] at nb ⊢;cases e2:Xu xs with
  | none=>rw[e2] at nb;exact absurd rfl nb
  | some ns =>
   rw[e2] at nb;cases ns with
   | nil=>exact absurd rfl nb
   | cons n ns =>
    dsimp only;have q:=Xaz e2;subst q;obtain⟨a,ws,its,rfl,hl,hr,hv,hz⟩:=I.seqI e rd rv;have hw:=hr.ints_of;subst hw;have hlen:its.length=(n::ns).length:=by rw[<- hv.length];simp
    refine call_max_walk (Xfk (I.inv.ok.hd hc) hl fun It fp wr St s₂ W st hf key=>?_)
    refine⟨It,fp,wr,_,_,St,fun i j=>decide (((n::ns)[i]?).getD 0>((n::ns)[j]?).getD 0),rfl,W,st,hf,by rw[hlen];simp,fun i j vi vj s' Q' E' hi hj hQ=>?_,fun v' h' tk hP hk=>?_⟩
    ·obtain⟨t,rfl⟩:=Xdy hv hi
     obtain⟨t',rfl⟩:=Xdy hv hj;exact gt_int hQ
    ·obtain⟨t,rfl⟩:=Xdy hv hP
     obtain⟨e3,k3⟩:=key h' tk hk;rw[e3];have:=Xfa (n::ns) (its.length-1) (by rw[hlen];simp)
     rw[this,hlen];simp only[List.length_cons,Nat.add_sub_cancel,List.take_of_length_le (Nat.le_refl (n::ns).length),List.tail_cons];have e5:List.take (ns.length+1) (n::ns)=n::ns:=by simp
     rw[e5];exact Y5 I.sr (I.inv.kept k3)
theorem X3r(hc:X.calm=true):BlR X .mxl (.builtin "max"):=by
 intro pins s σ H ρ S env ds vs us E I rd rv nb
 match ds,rd,nb with
 | [],_,nb=>exact absurd rfl nb
 | _::_::_,_,nb=>exact absurd rfl nb
 | [d],rd,nb =>
  obtain⟨v,rfl,r1⟩:=rd.one;obtain⟨u,rfl,ru⟩:=rv.one;exact X0g hc I r1 ru nb
def MtD(X:Cx)(k:Mt)(id:String):Prop :=
 ∀ (pins:List (Addr×Obj)) (s:Shared) (σ:L2.St) (H:Hp) (ρ:List Addr) (S:Sto) (env:En) (d:D) (v:V) (u:Value) (ds:List D) (vs:List V) (us:List Value) (E:Value->Shared->Prop),S0 X pins σ H s ρ S env->RD X.K ρ H d v->RelV v u->RDs X.K ρ H ds vs->Vals vs us->Yj k d ds S≠.bad ->
  wpAny (model X.prog X.w) X.A (call (.builtin id) (u::us)) (OkP X pins σ ρ H (Yj k d ds S)) E s
theorem Xmk{n:Nat}{a:Addr}{xs:List D}{vs:List V}{s':Shared}{d:D}{v:V}{u:Value}(I:S0 X pins σ H s ρ S env)(ha:ρ[n]?=some a)(J:Inv X pins σ (upd H a (.lst vs)) s')(rd:RDs X.K ρ H xs vs)(rv:RelV v u)(rdv:RD X.K ρ H d v) :
  OkP X pins σ ρ H (.ok d (S.set n (.lst xs))) u s':=by
 have st:Stp X.K ρ ρ H (upd H a (.lst vs)):=Stp.chg (S:=S) (o:=.lst xs) I.sr ha;exact .mk st J rv (rdv.mono st) (I.sr.chg ha ⟨vs,Yb,rd.mono st⟩)
theorem Xsj:MtD X .append "list.append" := by
 intro pins s σ H ρ S env d v u ds vs us E I rd rv rds rvs nb
 match d,ds,rds,rd,nb with
 | .ref n,[x],rds,rd,nb =>
  obtain⟨y,rfl,r1⟩:=rds.one;simp only[Yj] at nb ⊢;cases e:Z.lstM S n with
  | none=>rw[e] at nb;exact absurd rfl nb
  | some xs =>
   rw[e] at nb;dsimp only at nb ⊢;split at nb
   ·rename_i hz
    rw[if_pos hz];obtain⟨a,ws,rfl,ha,hv,hr⟩:=I.lstR e rd;refine mtd (Q':=fun z H'=>z=.non/\H'=upd H a (.lst (ws++[y]))) Xis I.inv rv rvs ⟨a,ws,y,rfl,rfl,hv,by rw[<- hr.length];exact Nat.lt_of_lt_of_le hz Xgc,rfl,rfl⟩ fun w s' z H' J rz ⟨e1,e2⟩=>?_
    subst e1 e2;exact Xmk I ha J (hr.append (.cons r1 .nil)) rz (by simp only[RD])
   ·exact absurd rfl nb
 | .ref n,[],_,_,nb=>exact absurd rfl nb
 | .ref n,_::_::_,_,_,nb=>exact absurd rfl nb
 | .non,ds,_,_,nb=>cases ds<;>exact absurd rfl nb
 | .bl _,ds,_,_,nb=>cases ds<;>exact absurd rfl nb
 | .int _,ds,_,_,nb=>cases ds<;>exact absurd rfl nb
 | .str _,ds,_,_,nb=>cases ds<;>exact absurd rfl nb
 | .tup _,ds,_,_,nb=>cases ds<;>exact absurd rfl nb
 | .fro _,ds,_,_,nb=>cases ds<;>exact absurd rfl nb
theorem X3s:MtD X .xtd "list.extend" := by
 intro pins s σ H ρ S env d v u ds vs us E I rd rv rds rvs nb
 match d,ds,rds,rd,nb with
 | .ref n,[x],rds,rd,nb =>
  obtain⟨y,rfl,r1⟩:=rds.one;cases x with
  | ref k =>
   simp only[Yj] at nb ⊢;cases e:Z.lstM S n with
   | none=>rw[e] at nb;exact absurd rfl nb
   | some xs =>
    rw[e] at nb;dsimp only at nb ⊢;cases e2:Xb S k with
    | none=>rw[e2] at nb;exact absurd rfl nb
    | some ys =>
     rw[e2] at nb;dsimp only at nb ⊢;split at nb
     ·rename_i hz
      rw[if_pos hz];obtain⟨a,ws,rfl,ha,hv,hr⟩:=I.lstR e rd;obtain⟨b,zs,rfl,hb,hw,hq⟩:=I.lstR e2 r1;refine mtd (Q':=fun z H'=>z=.non/\H'=upd H a (.lst (ws++zs))) Xpv I.inv rv rvs ⟨a,b,ws,zs,rfl,rfl,hv,hw,by rw[<- hr.length,<- hq.length];exact Nat.le_trans hz Xgc,rfl,rfl⟩ fun w s' z H' J rz ⟨e1,e2⟩=>?_
      subst e1 e2;exact Xmk I ha J (hr.append hq) rz (by simp only[RD])
     ·exact absurd rfl nb
  | _=>exact absurd rfl nb
 | .ref n,[],_,_,nb=>exact absurd rfl nb
 | .ref n,_::_::_,_,_,nb=>exact absurd rfl nb
 | .non,ds,_,_,nb=>cases ds<;>exact absurd rfl nb
 | .bl _,ds,_,_,nb=>cases ds<;>exact absurd rfl nb
 | .int _,ds,_,_,nb=>cases ds<;>exact absurd rfl nb
 | .str _,ds,_,_,nb=>cases ds<;>exact absurd rfl nb
 | .tup _,ds,_,_,nb=>cases ds<;>exact absurd rfl nb
 | .fro _,ds,_,_,nb=>cases ds<;>exact absurd rfl nb
end
section
variable{X:Cx}{pins:List (Addr×Obj)}{σ:L2.St}{H:Hp}{s:Shared}{ρ:List Addr}{S S':Sto}{env:En}{a b c e:Expr}{f fa fb fc:En->Sto->R D}{pos:Pos}
theorem Xu6(ha:DE X a fa):DE X (.UnaryOp .USub a pos) (fun env S=>(fa env S).bind fun x S=>match x with | .int i=>.ok (.int (-i)) S|_=>.bad):=by
 intro pins s σ H ρ S env I nb;dsimp only at nb ⊢;cases q:fa env S with
 | bad=>rw[q] at nb;exact absurd rfl nb
 | ex n S1=>exact UnaryOp_ (ha.ex I q fun x s' z=>⟨n,S1,rfl,z⟩)
 | ok x S1 =>
  rw[q] at nb;simp only[Rk0] at nb ⊢;refine UnaryOp_ (ha.ok I q fun u s1 v H1 ρ1 I1 rv rd st1=>?_)
  cases x with
  | int i =>
   simp only[RD] at rd;subst rd;obtain⟨t,rfl⟩:=rv;exact neg_int (OkP.pre st1 (Y5 I1.sr (I1.inv.tok _)))
  | _=>exact absurd rfl nb
theorem X0h(hc:DT X c (fun env S=>tst (fc env S)))(ha:DT X a (fun env S=>tst (fa env S)))(hb:DT X b (fun env S=>tst (fb env S))) :
  DT X (.IfExp c a b pos) (fun env S=>tst ((fc env S).bind fun x S=>match Xl S x with|some true=>fa env S|some false=>fb env S|none=>.bad)):=by
 intro pins s σ H ρ S env I nb;dsimp only at nb ⊢;show wpAny _ _ (do if <- isTrue c X.env (eval c X.env) then isTrue a X.env (eval a X.env) else isTrue b X.env (eval b X.env)) _ _ s
 cases q:fc env S with
 | bad=>rw[q] at nb;exact absurd rfl nb
 | ex n S1=>exact wpAny_bind (hc.ex I (by simp only[q];rfl) fun x s' z=>⟨n,S1,rfl,z⟩)
 | ok x S1 =>
  rw[q] at nb;simp only[Rk0] at nb ⊢;cases t:Xl S1 x with
  | none=>rw[t] at nb;exact absurd rfl nb
  | some r =>
   rw[t] at nb;refine wpAny_bind (hc.ok I (by simp only[q];exact Xbo t) fun s2 H2 ρ2 I2 st2=>?_)
   cases r with
   | true=>exact wpAny_mono (ha pins s2 σ H2 ρ2 S1 env I2 nb) (fun w s3 ⟨S3,e3,H3,ρ3,J3,sr3,st3⟩=>⟨S3,e3,H3,ρ3,J3,sr3,st2.trans st3⟩) fun x s' z=>z.pre st2
   | false=>exact wpAny_mono (hb pins s2 σ H2 ρ2 S1 env I2 nb) (fun w s3 ⟨S3,e3,H3,ρ3,J3,sr3,st3⟩=>⟨S3,e3,H3,ρ3,J3,sr3,st2.trans st3⟩) fun x s' z=>z.pre st2
noncomputable def Xaa(o1 o2:Co)(fa fb fc:En->Sto->R D)(env:En)(S:Sto):R D:=(fa env S).bind fun x S=>(fb env S).bind fun y S=>match Yg o1 x y S with
  | some true=>(fc env S).bind fun z S=>Xo o2 y z S
  | some false=>.ok (.bl false) S
  | none=>.bad
theorem Xkb(ho1:Op2 X (compareOp (opC o1)) (Xo o1))(ha:DE X a fa)(hb:DE X b fb)(I:S0 X pins σ H s ρ S env)(nb:Xaa o1 o2 fa fb fc env S≠.bad)
  {W:Value->Value->Bool->Shared->Prop} (hE:∀ x s',ExP X pins σ ρ H (Xaa o1 o2 fa fb fc env S) x s'->Ev x s')
  (hF:∀ v u s3 S2 H2 ρ2,Xaa o1 o2 fa fb fc env S=.ok (.bl false) S2->S0 X pins σ H2 s3 ρ2 S2 env->Stp X.K ρ ρ2 H H2->W v u false s3)
  (hT:∀ v u s3 S2 y vy H2 ρ2,Xaa o1 o2 fa fb fc env S=((fc env S2).bind fun z S=>Xo o2 y z S)->S0 X pins σ H2 s3 ρ2 S2 env->RelV vy u->RD X.K ρ2 H2 y vy->Stp X.K ρ ρ2 H H2->W v u true s3) :
  wpAny (model X.prog X.w) X.A (eval a X.env) (fun v s1=>wpAny (model X.prog X.w) X.A (eval b X.env) (fun u s2=>wpAny (model X.prog X.w) X.A (compareOp (opC o1) v u) (fun d s3=>∃ r,d=.bool r/\W v u r s3) Ev s2) Ev s1) Ev s:=by
 cases q:fa env S with
 | bad=>rw[Xaa,q] at nb;exact absurd rfl nb
 | ex n S1=>exact ha.ex I q fun x s' z=>hE x s' ⟨n,S1,by rw[Xaa,q];rfl,z⟩
 | ok x S1 =>
  refine ha.ok I q fun v s1 vx H1 ρ1 I1 rv rd st1=>?_
  cases q2:fb env S1 with
  | bad=>rw[Xaa,q] at nb;simp only[Rk0] at nb;rw[q2] at nb;exact absurd rfl nb
  | ex n S2=>exact hb.ex I1 q2 fun x s' z=>hE x s' ⟨n,S2,by rw[Xaa,q];simp only[Rk0];rw[q2];rfl,z.pre st1⟩
  | ok y S2 =>
   refine hb.ok I1 q2 fun u s2 vy H2 ρ2 I2 ru rdu st2=>?_
   have eq:Xaa o1 o2 fa fb fc env S=(match Yg o1 x y S2 with
     | some true=>(fc env S2).bind fun z S=>Xo o2 y z S
     | some false=>.ok (.bl false) S2
     | none=>.bad):=by rw[Xaa,q];simp only[Rk0];rw[q2];rfl
   cases q3:Yg o1 x y S2 with
   | none=>rw[eq,q3] at nb;exact absurd rfl nb
   | some r =>
    have e3:Xo o1 x y S2=.ok (.bl r) S2:=by unfold Xo;rw[q3]
    refine wpAny_mono (ho1 pins s2 σ H2 ρ2 S2 env x y vx vy v u (fun _ _=>False) I2 (by rw[e3];exact fun z=>nomatch z) (rd.mono st2) rv rdu ru) (fun d s3 z=>?_) fun _ _ z=>z.elim
    rw[e3] at z;obtain⟨d',S3,e4,w,H3,ρ3,J3,rw3,rd3,sr3,st3⟩:=z;cases e4;simp only[RD] at rd3;subst rd3;cases rw3;refine⟨r,rfl,?_⟩;have I3:S0 X pins σ H3 s3 ρ3 S2 env:=I2.step J3 sr3 st3;cases r with
    | false=>exact hF v u s3 S2 H3 ρ3 (by rw[eq,q3]) I3 (st1.trans (st2.trans st3))
    | true=>exact hT v u s3 S2 y vy H3 ρ3 (by rw[eq,q3]) I3 ru (rdu.mono st3) (st1.trans (st2.trans st3))
theorem Xkc(ho2:Op2 X (compareOp (opC o2)) (Xo o2))(hc:DE X c fc)(I:S0 X pins σ H s ρ S env)(ru:RelV vy u)(rd:RD X.K ρ H y vy)(st0:Stp X.K ρ0 ρ H0 H)
  (nb:((fc env S).bind fun z S=>Xo o2 y z S)≠.bad) (hE:∀ x s',ExP X pins σ ρ0 H0 ((fc env S).bind fun z S=>Xo o2 y z S) x s'->Ev x s')
  (hW:∀ r S3 s3 H3 ρ3,((fc env S).bind fun z S=>Xo o2 y z S)=.ok (.bl r) S3->S0 X pins σ H3 s3 ρ3 S3 env->Stp X.K ρ0 ρ3 H0 H3->W (.bool r) s3) :
  wpAny (model X.prog X.w) X.A (eval c X.env) (fun w s1=>wpAny (model X.prog X.w) X.A (compareOp (opC o2) u w) W Ev s1) Ev s:=by
 cases q:fc env S with
 | bad=>rw[q] at nb;exact absurd rfl nb
 | ex n S1=>exact hc.ex I q fun x s' z=>hE x s' ⟨n,S1,by rw[q];rfl,z.pre st0⟩
 | ok z S1 =>
  rw[q] at nb;simp only[Rk0] at nb;refine hc.ok I q fun w s1 vz H1 ρ1 I1 rv rdz st1=>?_
  obtain⟨r,e1,e2⟩:=Xce nb;refine wpAny_mono (ho2 pins s1 σ H1 ρ1 S1 env y z vy vz u w (fun _ _=>False) I1 nb (rd.mono st1) ru rdz rv) (fun d s3 zz=>?_) fun _ _ z=>z.elim
  rw[e2] at zz;obtain⟨d',S3,e4,w',H3,ρ3,J3,rw3,rd3,sr3,st3⟩:=zz;cases e4;simp only[RD] at rd3;subst rd3;cases rw3;exact hW r S1 s3 H3 ρ3 (by rw[q];exact e2) (I1.step J3 sr3 st3) (st0.trans (st1.trans st3))
theorem X3t(ho1:Op2 X (compareOp (opC o1)) (Xo o1))(ho2:Op2 X (compareOp (opC o2)) (Xo o2))(ha:DE X a fa)(hb:DE X b fb)(hc:DE X c fc)(hm:lastMarks [opC o1,opC o2] [b,c]=false) :
  DE X (.Compare a [opC o1,opC o2] [b,c] pos) (Xaa o1 o2 fa fb fc):=by
 intro pins s σ H ρ S env I nb;refine Compare_chain (wpAny_mono (Xkb (W:=fun v u r s3=>if r=true then wpAny (model X.prog X.w) X.A (compareChain pos u [opC o2] [eval c X.env]) (OkP X pins σ ρ H (Xaa o1 o2 fa fb fc env S)) (ExP X pins σ ρ H (Xaa o1 o2 fa fb fc env S)) s3 else OkP X pins σ ρ H (Xaa o1 o2 fa fb fc env S) (.bool false) s3) ho1 ha hb I nb (fun _ _ z=>z) ?_ ?_)
  (fun v s1 h1=>chain_link (wpAny_mono h1 (fun u s2 h2=>wpAny_mono h2 (fun d s3 ⟨r,e,w⟩=>?_) fun _ _ z=>z) fun _ _ z=>z)) fun _ _ z=>z) hm
 ·intro v u s3 S2 H2 ρ2 e I2 st2
  rw[if_neg Bool.false_ne_true,e];exact OkP.pre st2 (Xj I2.sr I2.inv)
 ·intro v u s3 S2 y vy H2 ρ2 e I2 ru rd st2
  rw[if_pos rfl];refine chain_last (Xkc ho2 hc I2 ru rd st2 (by rw[<- e];exact nb) (fun x s' z=>by rw[e];exact z) fun r S3 s4 H3 ρ3 e3 I3 st3=>?_)
  rw[e,e3];exact OkP.pre st3 (Xj I3.sr I3.inv)
 ·subst e
  refine wpAny_truthy_bool ?_;cases r with
  | true=>rw[if_pos rfl] at w;exact ite_tt w
  | false=>rw[if_neg Bool.false_ne_true] at w;exact ite_ff w
theorem X0i(ho1:Op2 X (compareOp (opC o1)) (Xo o1))(ho2:Op2 X (compareOp (opC o2)) (Xo o2))(ha:DE X a fa)(hb:DE X b fb)(hc:DE X c fc)(hm:lastMarks [opC o1,opC o2] [b,c]=false) :
  DT X (.Compare a [opC o1,opC o2] [b,c] pos) (fun env S=>tst (Xaa o1 o2 fa fb fc env S)):=by
 intro pins s σ H ρ S env I nb;dsimp only at nb ⊢;have nb':Xaa o1 o2 fa fb fc env S≠.bad:=fun z=>nb (by rw[z];rfl)
 have ex:∀ x s',ExP X pins σ ρ H (Xaa o1 o2 fa fb fc env S) x s'->ExP X pins σ ρ H (tst (Xaa o1 o2 fa fb fc env S)) x s':=fun x s' ⟨n,S1,e,z⟩=>⟨n,S1,by rw[e];rfl,z⟩
 refine isTrue_chain (wpAny_mono (Xkb (W:=fun v u r s3=>if r=true then wpAny (model X.prog X.w) X.A (testChain pos u [opC o2] [eval c X.env]) (fun b s'=>∃ S',tst (Xaa o1 o2 fa fb fc env S)=.ok b S'/\∃ H' ρ',Inv X pins σ H' s'/\SR X.K ρ' S' H'/\Stp X.K ρ ρ' H H') (ExP X pins σ ρ H (tst (Xaa o1 o2 fa fb fc env S))) s3
   else ∃ S',tst (Xaa o1 o2 fa fb fc env S)=.ok false S'/\∃ H' ρ',Inv X pins σ H' s3/\SR X.K ρ' S' H'/\Stp X.K ρ ρ' H H') ho1 ha hb I nb' ex ?_ ?_)
  (fun v s1 h1=>test_link (wpAny_mono h1 (fun u s2 h2=>wpAny_mono h2 (fun d s3 ⟨r,e,w⟩=>?_) fun _ _ z=>z) fun _ _ z=>z)) fun _ _ z=>z) hm
 ·intro v u s3 S2 H2 ρ2 e I2 st2
  rw[if_neg Bool.false_ne_true,e];exact⟨S2,rfl,H2,ρ2,I2.inv,I2.sr,st2⟩
 ·intro v u s3 S2 y vy H2 ρ2 e I2 ru rd st2
  rw[if_pos rfl];refine test_last (Xkc ho2 hc I2 ru rd st2 (by rw[<- e];exact nb') (fun x s' z=>ex x s' (by rw[e];exact z)) fun r S3 s4 H3 ρ3 e3 I3 st3=>?_)
  exact wpAny_truthy_bool ⟨S3,by rw[e,e3];rfl,H3,ρ3,I3.inv,I3.sr,st3⟩
 ·subst e
  refine wpAny_truthy_bool ?_;cases r with
  | true=>rw[if_pos rfl] at w;exact ite_tt w
  | false=>rw[if_neg Bool.false_ne_true] at w;exact ite_ff w
variable{x:Str}{p:Pos}{es:List Expr}{g:En->Sto->R (List D)}{k:Bl}{id T:String}
theorem X0j (hB:BlR X k (.builtin id)) (hg:Gl X x) (hm:X.mg x=none) (hv:bootBuiltins x=some (.builtin id)) (ha:DA X (e::es) g) (hn:x ≠ "__name__") (hdb:(x==("__debug__" : Str))=false)
  (he:starEach (e::es) X.env=(false,eval e X.env)::starEach es X.env) (hpl:(backTo pos (starEach es X.env)).any (·.1)=false):DE X (.Call (.Name x p) (e::es) [] pos) (fun env S=>(g env S).bind fun xs S=>Xh k xs S):=by
 intro pins s σ H ρ S env I nb;dsimp only at nb ⊢;refine wpAny_Call_Name_kw (Xaj I.inv hg hm hv ?_ hn hdb);cases q:g env S with
 | bad=>rw[q] at nb;exact absurd rfl nb
 | ex n S1=>exact PyProof.Rows.callWith_builtin1 (ha.ex I q fun x s' z=>⟨n,S1,rfl,z⟩) he hpl
 | ok ds S1 =>
  rw[q] at nb;refine PyProof.Rows.callWith_builtin1 (ha.ok I q fun us s1 vs H1 ρ1 I1 rv rd st1=>?_) he hpl
  exact wpAny_mono (hB pins s1 σ H1 ρ1 S1 env ds vs us (fun _ _=>False) I1 rd rv nb) (fun w s2 z=>z.pre st1) fun _ _ z=>z.elim
theorem X0k (hB:BlR X k (.type T)) (hg:Gl X x) (hm:X.mg x=none) (hv:bootBuiltins x=some (.type T)) (ha:DA X (e::es) g) (hn:x ≠ "__name__") (hdb:(x==("__debug__" : Str))=false)
  (he:starEach (e::es) X.env=(false,eval e X.env)::starEach es X.env) (hpl:(backTo pos (starEach es X.env)).any (·.1)=false):DE X (.Call (.Name x p) (e::es) [] pos) (fun env S=>(g env S).bind fun xs S=>Xh k xs S):=by
 intro pins s σ H ρ S env I nb;dsimp only at nb ⊢;refine wpAny_Call_Name_kw (Xaj I.inv hg hm hv ?_ hn hdb);cases q:g env S with
 | bad=>rw[q] at nb;exact absurd rfl nb
 | ex n S1=>exact PyProof.Rows.callWith_type1 (ha.ex I q fun x s' z=>⟨n,S1,rfl,z⟩) he hpl
 | ok ds S1 =>
  rw[q] at nb;refine PyProof.Rows.callWith_type1 (ha.ok I q fun us s1 vs H1 ρ1 I1 rv rd st1=>?_) he hpl
  exact wpAny_mono (hB pins s1 σ H1 ρ1 S1 env ds vs us (fun _ _=>False) I1 rd rv nb) (fun w s2 z=>z.pre st1) fun _ _ z=>z.elim
theorem X3u (hg:Gl X x) (hm:X.mg x=some u) (hd:∀ ρ H,∃ v,RelV v u/\RD X.K ρ H d v) (hdb:(x==("__debug__" : Str))=false):DE X (.Name x p) (fun _ S=>.ok d S):=by
 intro pins s σ H ρ S env I nb;obtain⟨v,rv,rd⟩:=hd ρ H;exact Xdc I.inv hg hm (.mk .refl I.inv rv rd I.sr) hdb
theorem Xgf (slot:Slot "list" name id) (hty:typeOf (.builtin id)=pure (.type "method_descriptor")) (hM:MtD X m id) (hr:∀ x S,Xag m x S=true->∃ n xs,x=.ref n/\Xb S n=some xs) (ho:DE X o fo) (ha:DA X (e::es) g)
  (hbase:attributeBase o name X.env (eval o X.env)=eval o X.env)
  (hfew:((backTo cpos (starEach (e::es) X.env)).all (fun x=>!x.1)&&(backToKw cpos (keywordEach [] X.env)).all (fun x=>x.1.isSome)&&decide ((e::es).length+([]:List Keyword).length+(if ([]:List Keyword).isEmpty then 0 else 1)<30))=true)
  (hline:(apos.endLine==cpos.line)=true) (hs:starEach (e::es) X.env=(false,eval e X.env)::starEach es X.env) (hplain:(backTo cpos (starEach es X.env)).any (·.1)=false) :
  DE X (.Call (.Attribute o name apos) (e::es) [] cpos) (fun env S=>(fo env S).bind fun x S=>if Xag m x S then (g env S).bind fun xs S=>Yj m x xs S else .bad):=by
 intro pins s σ H ρ S env I nb;dsimp only at nb ⊢;cases q:fo env S with
 | bad=>rw[q] at nb;exact absurd rfl nb
 | ex n S1=>exact wpAny_Call_method_late hbase hfew hline rfl (ho.ex I q fun x s' z=>⟨n,S1,rfl,z⟩)
 | ok x S1 =>
  rw[q] at nb;simp only[Rk0] at nb ⊢;split at nb
  ·rename_i hk
   rw[if_pos hk];obtain⟨n,xs,rfl,hx⟩:=hr x S1 hk;refine wpAny_Call_method_late hbase hfew hline rfl (ho.ok I q fun v s1 vx H1 ρ1 I1 rv rd st1=>?_)
   obtain⟨a,ws,rfl,k1,k2,k3⟩:=I1.lstR hx rd;cases rv;obtain⟨its,_,pl,_⟩:=I1.inv.list (.of k2);refine⟨"list",id,PySem.F.plainAttrs_list,slot,hty,pl.isList.typeIs,fun b eb=>?_,?_⟩
   ·cases eb
    obtain⟨ob,n',e1,c1,hd,_⟩:=pl;exact⟨ob,e1,hd⟩
   ·cases q2:g env S1 with
    | bad=>rw[q2] at nb;exact absurd rfl nb
    | ex k S2 =>
     have hA:=ha.ex (pos:=cpos) (E:=ExP X pins σ ρ H (.ex k S2:R D)) (Q:=fun us s2=>wpAny (model X.prog X.w) X.A (call (.builtin id) (.ref a::us)) (OkP X pins σ ρ H (.ex k S2)) (ExP X pins σ ρ H (.ex k S2:R D)) s2) I1 q2 fun x s' z=>.mk st1 z
     rw[hs] at hA ⊢;exact Calls.callWith_builtin (by show(false||(backTo cpos (starEach es X.env)).any (·.1))=false;rw[hplain];rfl) (Calls.evalArgs_plain hA)
    | ok ds S2 =>
     rw[q2] at nb;simp only[Rk0] at nb ⊢;have hA:=ha.ok (pos:=cpos) (E:=ExP X pins σ ρ H (Yj m (.ref n) ds S2)) (Q:=fun us s2=>wpAny (model X.prog X.w) X.A (call (.builtin id) (.ref a::us)) (OkP X pins σ ρ H (Yj m (.ref n) ds S2)) (ExP X pins σ ρ H (Yj m (.ref n) ds S2)) s2) I1 q2 fun us s2 vs H2 ρ2 I2 rvs rds st2 =>
      wpAny_mono (hM pins s2 σ H2 ρ2 S2 env (.ref n) (.ref a) (.ref a) ds vs us (fun _ _=>False) I2 (rd.mono st2) rfl rds rvs nb) (fun w s3 z=>z.pre (st1.trans st2)) fun _ _ z=>z.elim
     rw[hs] at hA ⊢;exact Calls.callWith_builtin (by show(false||(backTo cpos (starEach es X.env)).any (·.1))=false;rw[hplain];rfl) (Calls.evalArgs_plain hA)
  ·exact absurd rfl nb
end
section
variable{X:Cx}{pins:List (Addr×Obj)}{σ:L2.St}{H:Hp}{s:Shared}{ρ:List Addr}{S S':Sto}{env:En}
theorem Xkd:∀ (ts:List Str) (k:Nat) (acc:Str),(textFrom k acc ts).length<=acc.length+piled ts
 | [],k,acc=>by simp[textFrom,piled]
 | t::ts,k,acc=>by
  have ih:=Xkd ts (k+1) (acc++(if k>0 then ", " else "" : String)++t)
  have e:(Str.ofString (if k>0 then ", " else "")).length<=2:=by split<;>decide
  rw[textFrom,piled_cons];simp only[Str.length_append] at ih;omega
mutual
theorem Xke:∀ p:PyData,p.showable=true->Xaw p=true->p.shown.length<=szD p
 | .none,_,_=>by simp only[PyData.shown,szD];decide
 | .bool b,_,_=>by simp only[PyData.shown,szD];cases b<;>decide
 | .int i,h,_=>by
  simp only[PyData.showable,decide_eq_true_eq] at h;simp only[PyData.shown,szD];have:=int_text_length_le (by decide) h
  rw[PySem.ofString_length];omega
 | .str x,_,_=>by simp only[PyData.shown,szD];exact Nat.le_refl _
 | .list xs,h,h2=>by
  simp only[PyData.showable] at h;simp only[Xaw] at h2;have ih:=shownAll_le xs h h2;simp only[PyData.shown,szD,listText,Str.length_append];have:=Xkd (PyData.shownAll xs) 0 "[";have e1:(Str.ofString "[").length=1:=by decide
  have e2:(Str.ofString "]").length=1:=by decide
  omega
 | .tuple xs,h,h2=>by
  simp only[PyData.showable] at h;simp only[Xaw] at h2;have ih:=shownAll_le xs h h2;simp only[PyData.shown,szD,tupleText,Str.length_append];have e1:(Str.ofString "(").length=1:=by decide
  have e2:(Str.ofString (if (PyData.shownAll xs).length==1 then ",)" else ")")).length<=2:=by split<;>decide
  have e3:(Str.join ", " (PyData.shownAll xs)).length<=piled (PyData.shownAll xs):=by
   cases e:PyData.shownAll xs with
   | nil=>decide
   | cons t ts=>have:=join_length_add (t::ts) (by simp);omega
  omega
 | .dict kvs,_,h2=>by
  simp only[Xaw] at h2;cases kvs with
  | nil=>simp only[PyData.shown,PyData.shownKv,szD];decide
  | cons x r=>cases h2
theorem shownAll_le:∀ ps:List PyData,PyData.showableAll ps=true->dctEs ps=true->piled (PyData.shownAll ps)<=szDs ps
 | [],_,_=>by simp[PyData.shownAll,szDs,piled]
 | p::ps,h,h2=>by
  simp only[PyData.showableAll,bA0] at h;simp only[dctEs,bA0] at h2;have i1:=Xke p h.1 h2.1;have i2:=shownAll_le ps h.2 h2.2;rw[PyData.shownAll,piled_cons,szDs];omega
end
theorem X0l(hsm:∃ o,X.K.lookup sysModules=some o)(hg:X.A.guards=some [])(hu:X.A.units+200<cLine):BlR X .repr (.builtin "repr"):=by
 intro pins s σ H ρ S env ds vs us E I rd rv nb
 match ds,rd,nb with
 | [],_,nb=>exact absurd rfl nb
 | d::_::_,_,nb=>cases d<;>exact absurd rfl nb
 | [d],rd,nb =>
  obtain⟨v,rfl,r1⟩:=rd.one;obtain⟨u,rfl,ru⟩:=rv.one;simp only[Xh] at nb ⊢;cases e:Xbc S d with
  | none=>rw[e] at nb;exact absurd rfl nb
  | some t =>
   dsimp only;unfold Xbc at e;cases e1:Ys S d with
   | none=>rw[e1] at e;cases e
   | some p =>
    rw[e1] at e;dsimp only at e;split at e
    ·rename_i hz
     simp only[bA0,decide_eq_true_eq] at hz;obtain⟨⟨⟨z1,z2⟩,z3⟩,z4⟩:=hz;cases e;obtain⟨as,rr,hoff⟩:=Xp0 I hsm e1 r1 ru;have hsz:p.shown.length<=sizeLine:=Y0 (Nat.le_trans (Xke p z1 z2) z4);have ref:∀ a,u=.ref a->wpAny (model X.prog X.w) X.A (call (.builtin "repr") [u]) (OkP X pins σ ρ H (.ok (.str p.shown) S)) E s:=fun a ea=>by
      subst ea;exact repr_of_reads' rr z1 (fun _=>hoff) hg (by omega) (fun _ _ q=>q) (fun h' u tk hk=>Xep I.sr (I.inv.kept hk)) hsz
     cases rr with
     | none=>exact PySem.P.repr_of_none (Xep I.sr (I.inv.tok _))
     | bool b=>exact PySem.P.repr_of_bool (by cases b<;>exact Xep I.sr (I.inv.tok _))
     | int i t=>exact PySem.P.repr_of_int (by simpa only[PyData.showable,decide_eq_true_eq] using z1) (Xep I.sr (I.inv.tok _))
     | str x t=>exact PySem.P.repr_of_str (Xep I.sr (I.inv.tok _)) hsz
     | _=>exact ref _ rfl
    ·cases e
theorem X3v:BlR X .int (.type "int"):=by
 intro pins s σ H ρ S env ds vs us E I rd rv nb
 match ds,rd,nb with
 | [],_,nb=>exact absurd rfl nb
 | d::_::_,_,nb=>cases d<;>exact absurd rfl nb
 | [d],rd,nb =>
  obtain⟨v,rfl,r1⟩:=rd.one;obtain⟨u,rfl,ru⟩:=rv.one;cases d with
  | bl b =>
   simp only[RD] at r1;subst r1;cases ru;simp only[Xh];refine call_int_bool ?_;cases b<;>exact Y5 I.sr (I.inv.tok _)
  | _=>exact absurd rfl nb
theorem Xiy:∀ {ns:List Int} {us:List Value},Vals (ns.map V.int) us->IntsAre us ns
 | [],_,.nil=>.nil
 | n::ns,_,.cons r t=>by obtain⟨k,rfl⟩:=r;exact .cons n k (Xiy t)
theorem Xc0:∀ {ns:List Int} {us:List Value},IntsAre us ns->Vals (ns.map V.int) us
 | [],_,.nil=>.nil
 | _::ns,_,.cons n k t=>.cons ⟨_,rfl⟩ (Xc0 t)
theorem Xkf:∀ {bs:List Bool} {us:List Value},Vals (bs.map V.bl) us->us=bs.map Value.bool
 | [],_,.nil=>rfl
 | b::bs,_,.cons r t=>by cases r;rw[Xkf t];rfl
theorem Xml{K:PySem.W.Frag}{ρ:List Addr}{H:Hp}:∀ {bs:List Bool} {ws:List V},RDs K ρ H (bs.map D.bl) ws->ws=bs.map V.bl
 | [],ws,h=>by simp only[List.map,RDs] at h;exact h
 | b::bs,ws,h=>by
  simp only[List.map,RDs] at h;obtain⟨v,r,rfl,h1,h2⟩:=h;simp only[RD] at h1;subst h1;rw[Xml h2];rfl
theorem Xqc(I:S0 X pins σ H s ρ S env){n:Nat}{xs:List D}{bs:List Bool}{v:V}(h:Xb S n=some xs)(hb:Xz xs=some bs)(r:RD X.K ρ H (.ref n) v):∃ a k,v=.ref a/\s.heap.get? a=some { cls:=.type "list",data:=.seq (bs.map Value.bool).toArray k }:=by
 obtain⟨a,ws,rfl,ha,hv,hr⟩:=I.lstR h r;obtain⟨_,its,k,rv,e⟩:=(show ObjOk X.prog X.w H s.heap a (.lst ws) from I.inv.hok a _ hv);have e1:=Xb4 hb;subst e1;have e2:=Xml hr;subst e2;rw[Xkf rv] at e;exact⟨a,k,rfl,e⟩
theorem Xqd(hk:k=.count\/k=.index)(nb:Yj k d ds S≠.bad):∃ n b,d=.ref n/\ds=[.bl b]:=by
 rcases hk with rfl|rfl<;>(
  cases d with
  | ref n =>
   cases ds with
   | nil=>exact absurd rfl nb
   | cons x r =>
    cases r with
    | nil =>
     cases x with
     | bl b=>exact⟨n,b,rfl,rfl⟩
     | _=>exact absurd rfl nb
    | cons _ _=>cases x<;>exact absurd rfl nb
  | _=>cases ds<;>exact absurd rfl nb)
theorem Xwe:MtD X .count "list.count" := by
 intro pins s σ H ρ S env d v u ds vs us E I rd rv rds rvs nb;obtain⟨n,b,rfl,rfl⟩:=Xqd (.inl rfl) nb;obtain⟨y,rfl,r1⟩:=rds.one;simp only[RD] at r1;subst r1;obtain⟨w,rfl,rw1⟩:=rvs.one;cases rw1;simp only[Yj] at nb ⊢;cases e:Xb S n with
 | none=>rw[e] at nb;exact absurd rfl nb
 | some xs =>
  rw[e] at nb;simp only[Option.bind_some] at nb ⊢;cases e2:Xz xs with
  | none=>rw[e2] at nb;exact absurd rfl nb
  | some bs =>
   dsimp only;obtain⟨a,k,rfl,ha⟩:=Xqc I e e2 rd;cases rv;refine call_meets PySem.F.slot_list_count ⟨_,ha,rfl⟩ PySem.F.entry_list_count (PySem.F.args_list_count_2 _ _) (SeqAt.list_countAt a _ k none #[] (.bool b) fun y=>match y with | .bool c=>c==b|_=>false) ⟨ha,fun y hy=>?_,?_⟩
   ·have hy':y∈bs.map Value.bool:=by simpa using hy
    obtain⟨c,_,rfl⟩:=List.mem_map.mp hy';exact SeqAt.EqAt.bool_bool c b
   ·have ec:(bs.map Value.bool).countP (fun y=>match y with | .bool c=>c==b|_=>false)=bs.countP (· == b):=by rw[List.countP_map];rfl
    simp only[List.toList_toArray] at *;rw[ec];exact Y5 I.sr (I.inv.tok _)
theorem Xwf:MtD X .index "list.index" := by
 intro pins s σ H ρ S env d v u ds vs us E I rd rv rds rvs nb;obtain⟨n,b,rfl,rfl⟩:=Xqd (.inr rfl) nb;obtain⟨y,rfl,r1⟩:=rds.one;simp only[RD] at r1;subst r1;obtain⟨w,rfl,rw1⟩:=rvs.one;cases rw1;simp only[Yj] at nb ⊢;cases e:Xb S n with
 | none=>rw[e] at nb;exact absurd rfl nb
 | some xs =>
  rw[e] at nb;simp only[Option.bind_some] at nb ⊢;cases e2:Xz xs with
  | none=>rw[e2] at nb;exact absurd rfl nb
  | some bs =>
   rw[e2] at nb;dsimp only at nb ⊢;cases e3:bs.findIdx? (· == b) with
   | none=>rw[e3] at nb;exact absurd rfl nb
   | some i =>
    dsimp only;obtain⟨a,k,rfl,ha⟩:=Xqc I e e2 rd;cases rv;obtain⟨hi,h1,h2⟩:=List.findIdx?_eq_some_iff_getElem.mp e3;have hsz:bs.length<=sizeLine:=by
     obtain⟨a',ws,_,_,hv,hr⟩:=I.lstR e rd;obtain⟨z,_⟩:=(show ObjOk X.prog X.w H s.heap a' (.lst ws) from I.inv.hok a' _ hv);rw[<- hr.length,Xb4 e2,List.length_map] at z;exact z
    have hsm:(i:Int)<2^63-1:=by
     have:sizeLine<2^62:=by decide
     have e62:(2:Int)^63-1=9223372036854775807:=by decide
     have e63:(2:Nat)^62=4611686018427387904:=by decide
     omega
    refine call_meets PySem.F.slot_list_index ⟨_,ha,rfl⟩ PySem.F.entry_list_index (PySem.F.args_list_index_2 _ _) (SeqAt.list_indexAt a (bs.map Value.bool).toArray k none #[] (.bool b) (fun y=>match y with | .bool c=>c==b|_=>false) i (by simpa using hi) hsm (by simpa using h1) fun m hm hlt=>?_) ⟨ha,fun y hy=>?_,Y5 I.sr (I.inv.tok _)⟩
    ·have:=h2 m hlt
     simpa using this
    ·have hy':y∈bs.map Value.bool:=by simpa using hy
     obtain⟨c,_,rfl⟩:=List.mem_map.mp hy';exact SeqAt.EqAt.bool_bool c b
end
theorem Xmm{α:Type}{cmp:Nat->Nat->(Bool->Shared->Prop)->Shared->Prop}{lt:Nat->Nat->Option Bool}{Q:α->Shared->Prop}(hc:∀ i j b C,lt i j=some b->C b s->cmp i j C s) :
  ∀ (t:PySem.W.KasT α) (r:α),Xd9 lt t=some r->Q r s->t.kasWp cmp Q s
 | .ret a,r,h,q=>by cases h;exact q
 | .ask i j k,r,h,q=>by
  simp only[Xd9] at h;cases e:lt i j with
  | none=>rw[e] at h;cases h
  | some b =>
   rw[e] at h;exact hc i j b _ e (Xmm hc (k b) r h q)
section
variable{prog:Program}{w:World}{A:Around}{E:Value->Shared->Prop}{s:Shared}
theorem X0m(h:Q (decide (x<y)) s):wpAny (model prog w) A (oneLt' b (.int x t) (.int y u)) Q E s:=by
 cases b with
 | true=>exact PySem.W.kat_lt_int h
 | false=>exact PySem.W.kat_one _ _ (lt_int (show PySem.W.BoolBack Q _ s from h))
theorem Xqe:∀ (xs ys:List Int) (us vs:List Value) (i:Nat),IntsAre us xs->IntsAre vs ys->Q (ltL xs ys) s->PySem.W.KatLex prog w A true (decide (us.length<vs.length)) Q (us.zip vs) i s
 | [],[],_,_,i,.nil,.nil,h=>h
 | [],_::_,_,_,i,.nil,.cons _ _ _,h=>h
 | _::_,[],_,_,i,.cons _ _ _,.nil,h=>h
 | _::xs,_::ys,_,_,i,.cons x t (vs:=us) ha,.cons y u (vs:=vs) hb,h=>by
  have hl:decide (us.length+1<vs.length+1)=decide (us.length<vs.length):=by
   by_cases z:us.length<vs.length
   ·rw[decide_eq_true z,decide_eq_true (by omega)]
   ·rw[decide_eq_false z,decide_eq_false (by omega)]
  simp only[List.length_cons,List.zip_cons_cons,hl];simp only[ltL] at h;refine PySem.W.kat_cons (wpAny_eqBool_int (PySem.W.kat_go (fun e=>?_) fun e=>?_))
  ·rw[if_pos (eq_of_beq e)] at h
   exact PySem.W.kat_yes (Xqe xs ys us vs (i+1) ha hb h)
  ·rw[if_neg (fun z=>by rw[z,beq_self_eq_true] at e;cases e)] at h
   exact PySem.W.kat_no (X0m h)
theorem X0n {vs:List Value} {n:Nat} {lt:Nat->Nat->Option Bool} {out:Array Value} {P:PySem.Fin->Shared->Prop} (ho:s.heap.get? a=some (seqObj "list" vs.toArray n)) (h64:vs.length<64)
  (hk:2<=vs.length->∀ h':Heap,(∀ b o,b≠a->s.heap.get? b=some o->h'.get? b=some o)->∀ Q':SortKind->Shared->Prop,Q' κ { s with heap:=h' }->wpAny (model prog w) A (keyKind' vs.toArray) Q' E { s with heap:=h' })
  (hc:∀ h':Heap,(∀ b o,b≠a->s.heap.get? b=some o->h'.get? b=some o)->∀ i j b C,lt i j=some b->C b { s with heap:=h' }->PySem.W.kas_ask prog w A κ vs i j C { s with heap:=h' })
  (h1:vs.length<2->out=vs.toArray) (h2:2<=vs.length->∃ p,Xd9 lt (PySem.W.kas_sort vs.length)=some p/\out=(p.toList.map fun i=>vs.getD i Value.none).toArray)
  (hsz:out.size=vs.length) (h:P (.done (.ret .none)) { s with heap:=sortedHeap s.heap a vs out }):wpAny (model prog w) A (Builtin.«list.sort» ⟨[.ref a],[]⟩) P E s:=by
 have lim:vs.length<=sizeLine:=by rw[sizeLine_eq];omega
 have lt0:a<s.heap.objs.size:=Heap.lt_size ho;obtain⟨e1,o1⟩:∃ e1,(s.heap.update a (Obj.mapSeq fun _=>(#[]:Array Value))).get? a=some (seqObj "list" #[] e1):=⟨_,get?_update_seq ho fun _=>#[]⟩
 have up:∀ b o,(s.heap.update a (Obj.mapSeq fun _=>(#[]:Array Value))).get? b=some o->(((s.heap.update a (Obj.mapSeq fun _=>(#[]:Array Value))).push (seqObj "tuple" vs.toArray 0)).push (seqObj "list" #[] 0)).get? b=some o:=fun b o q=>Heap.get?_push_of_some _ (Heap.get?_push_of_some _ q)
 have kp:∀ b o,b≠a->s.heap.get? b=some o->(((s.heap.update a (Obj.mapSeq fun _=>(#[]:Array Value))).push (seqObj "tuple" vs.toArray 0)).push (seqObj "list" #[] 0)).get? b=some o:=fun b o hb q=>up b o ((Heap.get?_update_ne _ _ _ _ hb).trans q)
 have o2:=up a _ o1;rw[list_sort_plain];refine wpAny_bind (listItems_at ho rfl (wpAny_bind (listUpdate_at ho rfl (wpAny_bind (seqEpoch_at o1 rfl (wpAny_bind (wpAny_newTuple (wpAny_bind (wpAny_newList (wpAny_holding ?_) (Nat.zero_le _))) (by show vs.length<=_;exact lim))))) (by rw[List.size_toArray];exact lim) (Nat.zero_le _))))
 change wpAny (model prog w) A _ P E { s with heap:=((s.heap.update a (Obj.mapSeq fun _=>(#[]:Array Value))).push (seqObj "tuple" vs.toArray 0)).push (seqObj "list" #[] 0) }
 dsimp only;have zz:vs.toArray.size=vs.length:=List.size_toArray
 by_cases q:vs.length<2
 ·have q':vs.toArray.size<2:=by rw[zz];exact q
  have em:(arrOf (SortSt.mk' general' (vs.toArray.zip vs.toArray) #[] 7 none)).map (·.2)=out:=by
   rw[h1 q];show(vs.toArray.zip vs.toArray).map (·.2)=_;apply Array.toList_inj.mp;rw[Array.toList_map,Array.toList_zip,List.map_snd_zip (Nat.le_refl _)]
  rw[if_pos q',if_pos q'];refine wpAny_bind (wpAny_pure ?_);rw[StateT.run_pure];refine wpAny_bind (wpAny_pure (wpAny_bind (seqEpoch_at o2 rfl (wpAny_bind (listUpdate_at o2 rfl ?_ (Nat.zero_le _) (by rw[em,hsz];omega))))))
  rw[em,bne_self_eq_false];exact wpAny_pure h
 ·have q':¬ vs.toArray.size<2:=by rw[zz];exact q
  obtain⟨p,hp,ep⟩:=h2 (by omega)
  rw[if_neg q',if_neg q'];refine wpAny_bind (hk (by omega) _ kp _ (wpAny_bind (wpAny_mono (PySem.W.kat_run (ks:=vs) (κ:=κ) (E:=E) (Q:=fun st s'=>(arrOf st).map (·.2)=out/\failedOf st=none/\s'={ s with heap:=((s.heap.update a (Obj.mapSeq fun _=>(#[]:Array Value))).push (seqObj "tuple" vs.toArray 0)).push (seqObj "list" #[] 0) })
   (G:=fun r s'=>r=p/\s'={ s with heap:=((s.heap.update a (Obj.mapSeq fun _=>(#[]:Array Value))).push (seqObj "tuple" vs.toArray 0)).push (seqObj "list" #[] 0) }) rfl (by omega) h64
   (fun r st s' _ k2 k3 ⟨k4,k5⟩=>by subst k4;exact⟨by rw[ep];exact PySem.W.kat_snds rfl k2,k3,k5⟩) (Xmm (hc _ kp) _ p hp ⟨rfl,rfl⟩)) ?_ fun _ _ z=>z)))
  rintro ⟨⟨⟩,st⟩ s' ⟨k1,k2,rfl⟩
  dsimp only at k1 k2 ⊢;refine wpAny_bind (seqEpoch_at o2 rfl (wpAny_bind (listUpdate_at o2 rfl ?_ (Nat.zero_le _) (by rw[k1,hsz];omega))))
  rw[k1,k2,bne_self_eq_false];exact wpAny_pure h
theorem Xqf(hl:s.heap.IsList l vs.toArray)(h64:vs.length<64)
  (hk:∀ (A:Around) (E:Value->Shared->Prop),2<=vs.length->∀ h':Heap,(∀ b o,s.heap.get? b=some o->h'.get? b=some o)->∀ Q':SortKind->Shared->Prop,Q' κ { s with heap:=h' }->wpAny (model prog w) A (keyKind' vs.toArray) Q' E { s with heap:=h' })
  (hc:∀ (A:Around) (h':Heap),(∀ b o,s.heap.get? b=some o->h'.get? b=some o)->∀ i j b C,lt i j=some b->C b { s with heap:=h' }->PySem.W.kas_ask prog w A κ vs i j C { s with heap:=h' })
  (h1:vs.length<2->out=vs.toArray) (h2:2<=vs.length->∃ p,Xd9 lt (PySem.W.kas_sort vs.length)=some p/\out=(p.toList.map fun i=>vs.getD i Value.none).toArray)
  (hsz:out.size=vs.length) (h:Q (.ref (s.heap.objs.size+1)) { s with heap:=sortedAll s.heap vs out }):wpAny (model prog w) A (call (.builtin "sorted") [.ref l]) Q E s:=by
 have lim:vs.length<=sizeLine:=by rw[sizeLine_eq];omega
 have sz:((s.heap.push (seqObj "list" #[] 0)).update s.heap.objs.size (Obj.mapSeq (·++vs.toArray))).objs.size=s.heap.objs.size+1:=by rw[Heap.size_update,size_push']
 have oL:(((s.heap.push (seqObj "list" #[] 0)).update s.heap.objs.size (Obj.mapSeq (·++vs.toArray))).push (seqObj "list" vs.toArray 0)).get? (s.heap.objs.size+1)=some (seqObj "list" vs.toArray 0):=sz▸Heap.get?_push_size _ rfl;have old:∀ b o,s.heap.get? b=some o->b≠s.heap.objs.size+1/\(((s.heap.push (seqObj "list" #[] 0)).update s.heap.objs.size (Obj.mapSeq (·++vs.toArray))).push (seqObj "list" vs.toArray 0)).get? b=some o:=fun b o q=>by
  have lt:=Heap.lt_size q;exact⟨Nat.ne_of_lt (Nat.lt_succ_of_lt lt),Heap.get?_push_of_some _ ((Heap.get?_update_ne _ _ _ _ (Nat.ne_of_lt lt)).trans (Heap.get?_push_of_some _ q))⟩
 refine Calls.call_function_entry kind_sorted plain_sorted entry_sorted (args_sorted1 _) ?_;unfold Builtin.«sorted»;refine wpAny_bind (m:=checkCount "sorted" 1 1 _) (wpAny_pure (wpAny_bind (collect_list hl (wpAny_bind (wpAny_newList ?_ (by show vs.length<=_;exact lim))) lim)))
 change wpAny _ _ _ _ _ { s with heap:=((s.heap.push (seqObj "list" #[] 0)).update s.heap.objs.size (Obj.mapSeq (·++vs.toArray))).push (seqObj "list" vs.toArray 0) }
 rw[sz];refine wpAny_bind (wpAny_holding (wpAny_call_entry slot_list_sort ⟨_,oL,rfl⟩ entry_list_sort (X0n (κ:=κ) (lt:=lt) oL h64 (fun g h' kp=>hk _ _ g h' fun b o q=>kp b o (old b o q).1 (old b o q).2) (fun h' kp=>hc _ h' fun b o q=>kp b o (old b o q).1 (old b o q).2) h1 h2 hsz ⟨_,rfl,?_⟩) (args_list_sort _)))
 exact wpAny_pure ⟨_,rfl,h⟩
end
def Row(h:Heap)(k:List Int)(u:Value):Prop:=∃ a us,u=.ref a/\IsTup h a us.toArray/\IntsAre us k
theorem Row.keep(r:Row h k u)(kp:∀ b o,h.get? b=some o->h'.get? b=some o):Row h' k u:=by
 obtain⟨a,us,e,⟨o,ho,hc⟩,hi⟩:=r;exact⟨a,us,e,⟨o,kp _ _ ho,hc⟩,hi⟩
theorem Xbp:∀ {xs:List D} {ks:List (List Int)},Yq xs=some ks->xs=ks.map fun k=>.tup (k.map D.int)
 | [],ks,h=>by cases h;rfl
 | x::xs,ks,h=>by
  cases x with
  | tup ds =>
   simp only[Yq] at h;cases e:Xu ds with
   | none=>rw[e] at h;cases h
   | some k =>
    rw[e] at h;dsimp only at h;cases e2:Yq xs with
    | none=>rw[e2] at h;cases h
    | some r =>
     rw[e2] at h;cases h;rw[Xaz e,Xbp e2];rfl
  | _=>cases h
theorem Xkg:∀ (ks:List (List Int)) (its:List Value),its.length=ks.length->(∀ (i:Nat) (k:List Int),ks[i]?=some k->∃ u,its[i]?=some u/\Row h k u)->ks.all (fun k=>!k.isEmpty)=true->∃ fs,PySem.W.KatTups h its fs/\fs.length=its.length/\∀ v∈fs,∃ n t,v=Value.int n t
 | [],its,hl,_,_=>by
  cases its with
  | nil=>exact⟨[],.nil,rfl,fun v hv=>by cases hv⟩
  | cons _ _=>simp at hl
 | k::ks,its,hl,hr,hn=>by
  cases its with
  | nil=>simp at hl
  | cons u its =>
   rw[List.all_cons,bA0] at hn;obtain⟨u',eu,a,us,rfl,⟨o,ho,hc,n,hd⟩,hi⟩:=hr 0 k rfl;cases eu;obtain⟨fs,f1,f2,f3⟩:=Xkg ks its (by simpa using hl) (fun i k' hk=>hr (i+1) k' hk) hn.2
   cases hi with
   | nil=>simp at hn
   | cons x t hi' =>
    refine⟨.int x t::fs,.cons ho hc hd rfl f1,by simp[f2],fun v hv=>?_⟩
    rcases List.mem_cons.mp hv with rfl|hv
    ·exact⟨x,t,rfl⟩
    ·exact f3 v hv
theorem Xhe{α:Type}{l:List α}{i:Nat}{x d:α}(h:l[i]?=some x):l.getD i d=x:=by rw[List.getD_eq_getElem?_getD,h];rfl
section
variable{X:Cx}{pins:List (Addr×Obj)}{σ:L2.St}{H:Hp}{s:Shared}{ρ:List Addr}{S S':Sto}{env:En}
theorem Xmn{ks:List (List Int)}{ws:List V}{its:List Value}(hr:RDs X.K ρ H (ks.map fun k=>.tup (k.map D.int)) ws)(hv:Vals ws its):∀ (p:List Nat) (r:List (List Int)),Xgb ks p=some r ->
  ∃ zs,RDs X.K ρ H (r.map fun k=>.tup (k.map D.int)) zs/\Vals zs (p.map fun i=>its.getD i Value.none)/\zs.length=p.length
 | [],r,h=>by cases h;exact⟨[],.nil,.nil,rfl⟩
 | i::p,r,h=>by
  simp only[Xgb] at h;cases e:ks[i]? with
  | none=>rw[e] at h;cases h
  | some k =>
   rw[e] at h;dsimp only at h;cases e2:Xgb ks p with
   | none=>rw[e2] at h;cases h
   | some r' =>
    rw[e2] at h;cases h;obtain⟨zs,z1,z2,z3⟩:=Xmn hr hv p r' e2;obtain⟨v,hv1,hd⟩:=hr.get (i:=i) (d:=.tup (k.map D.int)) (by rw[List.getElem?_map,e];rfl)
    obtain⟨u,hu,ru⟩:=hv.get hv1;refine⟨v::zs,.cons hd z1,?_,by simp[z3]⟩
    rw[List.map_cons,Xhe hu];exact .cons ru z2
theorem X3w:BlR X .srt (.builtin "sorted"):=by
 intro pins s σ H ρ S env ds vs us E I rd rv nb
 match ds,rd,nb with
 | [],_,nb=>exact absurd rfl nb
 | d::_::_,_,nb=>cases d<;>exact absurd rfl nb
 | [d],rd,nb =>
  obtain⟨v,rfl,r1⟩:=rd.one;obtain⟨u,rfl,ru⟩:=rv.one;cases d with
  | ref n =>
   simp only[Xh] at nb ⊢;cases e:Xb S n with
   | none=>rw[e] at nb;exact absurd rfl nb
   | some xs =>
    rw[e] at nb;simp only[Option.bind_some] at nb ⊢;cases e2:Yq xs with
    | none=>rw[e2] at nb;exact absurd rfl nb
    | some ks =>
     rw[e2] at nb;dsimp only at nb ⊢;cases e3:Xbb ks with
     | none=>rw[e3] at nb;exact absurd rfl nb
     | some r =>
      dsimp only;have q:=Xbp e2;subst q;obtain⟨a,ws,rfl,ha,hv,hr⟩:=I.lstR e r1;obtain⟨hle,its,c,rvs,eo⟩:=(show ObjOk X.prog X.w H s.heap a (.lst ws) from I.inv.hok a _ hv);cases ru;have hl1:its.length=ks.length:=by rw[<- rvs.length,<- hr.length,List.length_map]
      have rows:∀ (i:Nat) (k:List Int),ks[i]?=some k->∃ u,its[i]?=some u/\Row s.heap k u:=fun i k hk=>by
       obtain⟨v,hv1,hd⟩:=hr.get (i:=i) (d:=.tup (k.map D.int)) (by rw[List.getElem?_map,hk];rfl)
       obtain⟨u,hu,ru⟩:=rvs.get hv1;simp only[RD] at hd;obtain⟨b,zs,rfl,hs,hz⟩:=hd;have ez:=hz.ints_of;subst ez;cases ru;obtain⟨us,h1,h2,_⟩:=I.inv.tuple hs;exact⟨_,hu,b,us,rfl,h2,Xiy h1⟩
      have key:ks.length<64/\∃ (out:Array Value) (zs:List V),RDs X.K ρ H (r.map fun k=>.tup (k.map D.int)) zs/\Vals zs out.toList/\out.size=its.length/\(its.length<2->out=its.toArray)/\(2<=its.length->(ks.all fun k=>!k.isEmpty)=true/\∃ p,Xd9 (ltK ks) (PySem.W.kas_sort its.length)=some p/\out=(p.toList.map fun i=>its.getD i Value.none).toArray):=by
       unfold Xbb at e3
       by_cases h2:ks.length<2
       ·rw[if_pos h2] at e3
        cases e3;exact⟨by omega,its.toArray,ws,hr,rvs,by simp,fun _=>rfl,fun z=>by omega⟩
       ·rw[if_neg h2] at e3
        split at e3
        ·rename_i hc
         simp only[bA0,decide_eq_true_eq] at hc;cases e4:Xd9 (ltK ks) (PySem.W.kas_sort ks.length) with
         | none=>rw[e4] at e3;cases e3
         | some p =>
          rw[e4] at e3;simp only[Option.bind_some] at e3;split at e3
          case isFalse=>cases e3
          rename_i hps
          obtain⟨zs,z1,z2,z3⟩:=Xmn hr rvs p.toList r e3;exact⟨hc.1,(p.toList.map fun i=>its.getD i Value.none).toArray,zs,z1,z2,by simp[hps,hl1],fun z=>by omega,fun _=>⟨hc.2,p,by rw[hl1];exact e4,rfl⟩⟩
        ·cases e3
      obtain⟨h64,out,zs,z1,z2,z0,z3,z4⟩:=key;have looks:∀ (M:Model) (h:Heap) (v:Value),(∃ n t,v=Value.int n t)->PySem.W.Looks M h (typeOf v) (.type "int"):=fun M h v z=>by obtain⟨n,t,rfl⟩:=z;exact .now
      refine Xqf (κ:=tuples' true) (lt:=ltK ks) (out:=out) ⟨_,eo,rfl,c,rfl⟩ (by omega) (fun A E g h' kp Q' hq=>?_) (fun A h' kp i j b C hb hC=>?_) z3 (fun g=>(z4 g).2) z0 ?_
      ·obtain⟨fs,f1,f2,f3⟩:=Xkg (h:=h') ks its hl1 (fun i k hk=>let ⟨u,hu,hr⟩:=rows i k hk;⟨u,hu,hr.keep kp⟩) (z4 g).1
       exact PySem.W.kat_kind (T:=.type "int") f1 (by omega) (fun v hv=>looks _ _ v (f3 v hv)) rfl hq
      ·unfold ltK at hb
       cases e5:ks[i]? with
       | none=>rw[e5] at hb;cases hb
       | some k =>
        rw[e5] at hb;dsimp only at hb;cases e6:ks[j]? with
        | none=>rw[e6] at hb;cases hb
        | some k' =>
         rw[e6] at hb;cases hb;obtain⟨u,hu,hr1⟩:=rows i k e5;obtain⟨u',hu',hr2⟩:=rows j k' e6;obtain⟨a1,us1,rfl,⟨o1,ho1,hc1,n1,hd1⟩,hi1⟩:=hr1.keep kp;obtain⟨a2,us2,rfl,⟨o2,ho2,hc2,n2,hd2⟩,hi2⟩:=hr2.keep kp;unfold PySem.W.kas_ask;rw[Xhe hu,Xhe hu'];refine PySem.W.kat_lt ho1 hd1 ho2 hd2 ?_;simp only[List.size_toArray];exact Xqe k k' us1 us2 0 hi1 hi2 hC
      ·obtain⟨e8,he8⟩:=sortedAll_at s.heap its out
       have hnew:s.heap.objs.size<=s.heap.objs.size+1:=Nat.le_succ _;have J:=I.inv.laid (o:=.lst zs) (t':=s.toks) (h':=sortedAll s.heap its out) (fun b u hb=>sortedAll_old hb) hnew
        ⟨by rw[z2.length,Array.length_toList,z0,sizeLine_eq];omega,out.toList,e8,z2,by simpa [seqObj] using he8⟩
       exact Xbe J (I.inv.hok.fresh hnew) I.sr z1
  | _=>exact absurd rfl nb
end
theorem Xkh:∀ (n:Nat) (l:List D) (x:D),Xay n (l++[x])=Xay n l++[.tup [.int (n+l.length:Nat),x]]
 | n,[],x=>by simp only[List.nil_append,Xay,List.length_nil,Nat.add_zero]
 | n,y::l,x=>by
  have ih:=Xkh (n+1) l x;simp only[List.cons_append,Xay,ih,List.length_cons];have e:n+1+l.length=n+(l.length+1):=by omega
  rw[e]
theorem Xsk(h:a≠b):upd (upd H a o) b u=upd (upd H b u) a o:=by
 funext c
 unfold upd
 by_cases h1:c=a
 ·subst h1;simp[h]
 ·by_cases h2:c=b
  ·subst h2;simp[h1]
  ·simp[h1,h2]
section
variable{prog:Program}{w:World}{A:Around}{E:Value->Shared->Prop}{s:Shared}{k:Bool}{e it a:Addr}{n:Nat}{xs:Array Value}{x:Value}
end
section
variable{X:Cx}{pins:List (Addr×Obj)}{σ:L2.St}{ρ:List Addr}{S:Sto}
theorem Xqg(h:Rd H a u)(hp:H p=none):Rd (upd H p o) a u:=by
 rcases h with h|⟨ob,h⟩
 ·exact .inl ((Xf (Xq h hp)).trans h)
 ·exact .inr ⟨ob,(Xf (Xq h hp)).trans h⟩
theorem Xhf{k:Bool}{K:PySem.W.Frag}{H:Hp}{a p:Addr}{vs:List V}{o:HO}(h:SqH k K H a vs)(hp:H p=none):SqH k K (upd H p o) a vs:=by
 cases k
 ·rcases h with h|h
  ·exact .inl (Xqg h hp)
  ·exact .inr h
 ·rcases h with h|h
  ·exact .inl (Xqg h hp)
  ·exact .inr h
theorem Xki(h:Xak X pins H b)(hb:b≠p):Xak X pins (upd H p o) b:=⟨(Xf hb).trans h.1,h.2⟩
theorem Xiz{R:Result->Shared->Prop}{k:Bool}{xs:List D}{ws:List V}(hA:A.in1.handled=none)(hne:e≠it)(hz:ws.length<=sizeLine) :
  ∀ (m i:Nat) (s:Shared) (Hb:Hp) (rs:List V),i+m=ws.length->Inv X pins σ (upd Hb L (.lst rs)) s->(∀ b∈[e,it],Xak X pins (upd Hb L (.lst rs)) b)->EnA s.heap e it i->ItK k s.heap it a i->SqH k X.K Hb a ws->Hb L=none->SR X.K ρ S Hb->RDs X.K ρ Hb xs ws->RDs X.K ρ Hb (Xay 0 (xs.take i)) rs ->
  (∀ s' Hb' rs',Inv X pins σ (upd Hb' L (.lst rs')) s'->Hb' L=none->Stp X.K ρ ρ Hb Hb'->SR X.K ρ S Hb'->RDs X.K ρ Hb' (Xay 0 xs) rs'->R (.ok (.ret res)) s') ->
  codeAny (model X.prog X.w) A (.builtin "list.extend.loop" ⟨[.ref L,.ref e,res],[]⟩) R s
 | 0,i,s,Hb,rs,hm,J,hf,en,io,hsq,hL,sr,rd,rn,hR=>by
  have hlx:xs.length=ws.length:=rd.length;obtain⟨its,rv,p⟩:=Xhd J (Xhf hsq hL);have hl:=rv.length;refine codeAny_builtin F.entry_extend_loop ?_;rw[Around.under_plainId F.plain_extend_loop _];show wpAny _ A.in1 (pyNext (.ref e) >>= _) _ _ s;refine wpAny_bind (Xj8 hA en io p (by simp;omega) fun h' kp=>?_)
  have J':Inv X pins σ (upd Hb L (.lst rs)) { s with heap:=h',toks:=s.toks }:=Xer (t':=s.toks) J hf fun c o hc z=>by
   simp only[List.mem_cons,List.not_mem_nil,or_false,not_or] at hc;exact kp c o hc.2 z
  have e1:xs.take i=xs:=List.take_of_length_le (by omega)
  rw[e1] at rn;exact wpAny_pure (hR _ Hb rs J' hL .refl sr rn)
 | m+1,i,s,Hb,rs,hm,J,hf,en,io,hsq,hL,sr,rd,rn,hR=>by
  have hlx:xs.length=ws.length:=rd.length;obtain⟨its,rv,p⟩:=Xhd J (Xhf hsq hL);have hl:=rv.length;obtain⟨v,hv⟩:∃ v,ws[i]?=some v:=⟨ws[i]'(by omega),List.getElem?_eq_getElem _⟩
  obtain⟨x,hx⟩:∃ x,xs[i]?=some x:=⟨xs[i]'(by omega),List.getElem?_eq_getElem _⟩
  obtain⟨u,hu,ru⟩:=rv.get hv;have hT:upd Hb L (.lst rs) s.heap.objs.size=none:=J.hok.fresh (Nat.le_refl _);have hLT:L≠s.heap.objs.size:=fun z=>by rw[<- z,Yb] at hT;cases hT
  have hTb:Hb s.heap.objs.size=none:=by rw[<- Xf (H:=Hb) (o:=.lst rs) (Ne.symm hLT)];exact hT
  have hle:∀ b∈[e,it],b≠L:=fun b hb z=>by have:=(hf b hb).1;rw[z,Yb] at this;cases this
  obtain⟨hrl,acc,c,ra,eo⟩:=(show ObjOk X.prog X.w (upd Hb L (.lst rs)) s.heap L (.lst rs) from J.hok L _ Yb);have hacc:=ra.length;have hrs:rs.length=i:=by
   have:=rn.length;have q:∀ (n:Nat) (l:List D),(Xay n l).length=l.length:=fun n l=>by
    induction l generalizing n with
    | nil=>rfl
    | cons y l ih=>simp only[Xay,List.length_cons,ih]
   rw[q,List.length_take] at this;omega
  refine codeAny_builtin F.entry_extend_loop ?_;rw[Around.under_plainId F.plain_extend_loop _];show wpAny _ A.in1 (pyNext (.ref e) >>= _) _ _ s;refine wpAny_bind (Xj7 hne en io p (x:=u) (by simpa using hu) fun h' en' io' pr kp=>?_)
  have eo':h'.get? L=some { cls:=.type "list",data:=.seq acc.toArray c }:=kp L _ (Ne.symm (hle e (by simp))) (Ne.symm (hle it (by simp))) eo
  show wpAny _ A.in1 (updateSeq L (·.push (.ref s.heap.objs.size)) >>= _) _ _ _;refine wpAny_bind ?_;have J1:Inv X pins σ (upd (upd Hb L (.lst rs)) s.heap.objs.size (.tup [.int i,v])) { s with heap:=s.heap.push { cls:=.type "tuple",data:=.seq #[.int i s.toks,u] } }:=J.laid (t':=s.toks) (fun c o z=>Heap.get?_push_of_some _ z) (Nat.le_refl _) ⟨by show 2<=sizeLine;decide,[.int i s.toks,u],.cons ⟨_,rfl⟩ (.cons ru .nil),⟨_,Heap.get?_push_size _ rfl,rfl,_,rfl⟩⟩
  have old:∀ c∈[e,it],c≠s.heap.objs.size:=fun c hc=>by
   simp only[List.mem_cons,List.not_mem_nil,or_false] at hc;rcases hc with rfl|rfl
   ·obtain⟨f0,f1,o,q,_⟩:=en;exact Nat.ne_of_lt (Heap.lt_size q)
   ·obtain⟨o,z,_⟩:=io.obj;exact Nat.ne_of_lt (Heap.lt_size z)
  have hf1:∀ c∈[e,it],Xak X pins (upd (upd Hb L (.lst rs)) s.heap.objs.size (.tup [.int i,v])) c:=fun c hc=>Xki (hf c hc) (old c hc)
  have J2:Inv X pins σ (upd (upd Hb L (.lst rs)) s.heap.objs.size (.tup [.int i,v])) { s with heap:=h',toks:=s.toks+1 }:=Xer (s:={ s with heap:=s.heap.push { cls:=.type "tuple",data:=.seq #[.int i s.toks,u] } }) (h':=h') (t':=s.toks+1) J1 hf1 fun c o hc z=>by
   simp only[List.mem_cons,List.not_mem_nil,or_false,not_or] at hc
   by_cases q:c=s.heap.objs.size
   ·subst q
    have z':=(Heap.get?_push_size s.heap (o:={ cls:=.type "tuple",data:=.seq #[.int i s.toks,u] }) rfl).symm.trans z;rw[<- z'];exact pr
   ·exact kp c o hc.1 hc.2 (Xj6 z q)
  have hmut:Mut (upd (upd Hb L (.lst rs)) s.heap.objs.size (.tup [.int i,v]) L):=by rw[Xf hLT,Yb];exact trivial
  have eS:=Heap.get?_update_self (Obj.mapSeq (·.push (Value.ref s.heap.objs.size))) eo' rfl;have oth:∀ b o,b≠L->h'.get? b=some o->(h'.update L (Obj.mapSeq (·.push (Value.ref s.heap.objs.size)))).get? b=some o:=fun b o hb q=>(Heap.get?_update_other _ _ (Ne.symm hb)).trans q
  have J3:=J2.write (x:=L) (e:=L) (o:=.lst (rs++[.ref s.heap.objs.size])) (t':=s.toks+1) (h':=h'.update L (Obj.mapSeq (·.push (Value.ref s.heap.objs.size)))) hmut (.inl rfl) (fun b o hb q=>oth b o hb q) ⟨_,eS⟩
   ⟨by rw[List.length_append];simp only[List.length_cons,List.length_nil];omega,acc++[.ref s.heap.objs.size],_,ra.append (.cons (show L2.RelV (.ref s.heap.objs.size) (.ref s.heap.objs.size) from rfl) .nil),by rw[eS];simp[Obj.mapSeq];rfl⟩
  have eH:upd (upd (upd Hb L (.lst rs)) s.heap.objs.size (.tup [.int i,v])) L (.lst (rs++[.ref s.heap.objs.size]))=upd (upd Hb s.heap.objs.size (.tup [.int i,v])) L (.lst (rs++[.ref s.heap.objs.size])):=by
   rw[Xsk hLT,Xvn]
  rw[eH] at J3;have st:Stp X.K ρ ρ Hb (upd Hb s.heap.objs.size (.tup [.int i,v])):=Stp.upd hTb;have xd:RD X.K ρ Hb x v:=by
   have:=rd.get hx;obtain⟨v',h1,h2⟩:=this;rw[hv] at h1;cases h1;exact h2
  refine wpAny_updateSeq eo' rfl (wpAny_pure ⟨plainId_quiet F.plain_extend_loop _,Xiz hA hne hz m (i+1) _ (upd Hb s.heap.objs.size (.tup [.int i,v])) (rs++[.ref s.heap.objs.size]) (by omega) J3 (fun b hb=>?_) ?_ ?_ (Xhf hsq hTb) ((Xf hLT).trans hL) (sr.upd hTb) (RDs.mono st _ _ rd) ?_ fun s' Hb' rs' q1 q2 q3 q4 q5=>hR s' Hb' rs' q1 q2 (st.trans q3) q4 q5⟩) (by simp;omega) (by simp;omega)
  ·exact Xki ⟨(Xf (old b hb)).trans (by have:=(hf b hb).1;rwa [Xf (hle b hb)] at this),(hf b hb).2⟩ (hle b hb)
  ·obtain⟨f0,f1,o,q,q2⟩:=en';exact⟨f0,f1,o,by push_cast;exact oth _ _ (hle e (by simp)) q,q2⟩
  ·exact io'.at fun o q=>oth _ _ (hle it (by simp)) q
  ·have et:xs.take (i+1)=xs.take i++[x]:=by rw[List.take_succ,hx];rfl
   have en2:0+(xs.take i).length=i:=by rw[List.length_take];omega
   rw[et,Xkh,en2];refine RDs.append (RDs.mono st _ _ rn) ?_;simp only[RDs];refine⟨_,_,rfl,?_,rfl⟩;simp only[RD];refine⟨s.heap.objs.size,[.int i,v],rfl,.of Yb,?_⟩;simp only[RDs];exact⟨_,_,rfl,rfl,_,_,rfl,xd.mono st,rfl⟩
theorem Xqh:typeLookup (.type "enumerate") "__len__" = pure none:=by rw[typeLookup_type,builtinLookup_eq_fast];kernel_rfl
theorem Xnz:typeLookup (.type "enumerate") "__length_hint__" = pure none:=by rw[typeLookup_type,builtinLookup_eq_fast];kernel_rfl
structure Lnm(X:Cx)(pins:List (Addr×Obj))(σ:L2.St)(ρ:List Addr)(S:Sto)(H:Hp)(s:Shared)(k:Bool)(e it a:Addr)(xs:List D)(ws:List V):Prop where
 inv:Inv X pins σ H s
 fp:∀ b∈[e,it],Xak X pins H b
 en:EnA s.heap e it 0
 io:ItK k s.heap it a 0
 sq:SqH k X.K H a ws
 sr:SR X.K ρ S H
 rd:RDs X.K ρ H xs ws
 ln:ws.length<=sizeLine
 ne:e≠it
theorem Xqi{R:Result->Shared->Prop}{k:Bool}{xs:List D}{ws:List V}(hA:A.in1.handled=none)(q:Lnm X pins σ ρ S H s k e it a xs ws)
  (hR:∀ s' Hb' rs',Inv X pins σ (upd Hb' s.heap.objs.size (.lst rs')) s'->Hb' s.heap.objs.size=none->Stp X.K ρ ρ H Hb'->SR X.K ρ S Hb'->RDs X.K ρ Hb' (Xay 0 xs) rs'->R (.ok (.ret .none)) s') :
  wpAny (model X.prog X.w) A.in1 (Builtin.«list.__init__» ⟨[.ref s.heap.objs.size,.ref e],[]⟩)
   (fun fin s'=>match fin with | .done f=>R (.ok f) s' | .again c'=>c'.quiet=true/\codeAny (model X.prog X.w) A c' R s') (fun e s'=>R (.error e) s') { s with heap:=s.heap.push { cls:=.type "list",data:=.seq #[] } }:=by
 obtain⟨f0,f1,old,eo,ef⟩:=q.en;have hL:H s.heap.objs.size=none:=q.inv.hok.fresh (Nat.le_refl _);have hS:(s.heap.push { cls:=.type "list",data:=.seq #[] }).get? s.heap.objs.size=some { cls:=.type "list",data:=.seq #[] }:=Heap.get?_push_size _ rfl;generalize hLe:s.heap.objs.size=L at hS hL hR;have he:e≠L:=by rw[<- hLe];exact Nat.ne_of_lt (Heap.lt_size eo)
 have hi:it≠L:=by obtain⟨o,z,_⟩:=q.io.obj;rw[<- hLe];exact Nat.ne_of_lt (Heap.lt_size z)
 show wpAny _ A.in1 (do let old <- Builtin.List.listItems (.ref L);Builtin.List.listUpdate (.ref L) (fun _=>#[]);letGo old.toList.reverse;Builtin.List.listExtendWith (.ref L) (.ref e) .none) _ _ _
 refine wpAny_bind ?_;unfold Builtin.List.listItems;refine wpAny_bind (wpAny_seqItems hS rfl (wpAny_pure ?_));show wpAny _ A.in1 (updateSeq L (fun _=>#[]) >>= fun _=>letGo (#[]:Array Value).toList.reverse >>= fun _=>Builtin.List.listExtendWith (.ref L) (.ref e) .none) _ _ _
 refine wpAny_bind (wpAny_updateSeq hS rfl ?_);have hS2:=Heap.get?_update_self (Obj.mapSeq (fun _=>(#[]:Array Value))) hS rfl
 have oth:∀ b o,s.heap.get? b=some o->((s.heap.push { cls:=.type "list",data:=.seq #[] }).update L (Obj.mapSeq (fun _=>(#[]:Array Value)))).get? b=some o :=
  fun b o z=>(Heap.get?_update_other _ _ (fun h:L=b=>by rw[<- h,<- hLe] at z;exact Nat.lt_irrefl _ (Heap.lt_size z))).trans (Heap.get?_push_of_some _ z)
 refine wpAny_bind (wpAny_letGo ?_);obtain⟨c2,hS2'⟩:∃ c2,((s.heap.push { cls:=.type "list",data:=.seq #[] }).update L (Obj.mapSeq (fun _=>(#[]:Array Value)))).get? L=some { cls:=.type "list",data:=.seq #[] c2 }:=⟨_,hS2⟩
 clear hS2;generalize (s.heap.push { cls:=.type "list",data:=.seq #[] }).update L (Obj.mapSeq (fun _=>(#[]:Array Value)))=h1 at hS2' oth
 have eo1:=oth _ _ eo;have hT:Shared.TypeIs { s with heap:=h1 } (.ref e) "enumerate" := ⟨_,eo1,rfl⟩
 unfold Builtin.List.listExtendWith;refine wpAny_bind (wpAny_typeOf hT ?_);have b1:Builtin.List.listSameRef (.ref L) (.ref e)=false:=by simp[Builtin.List.listSameRef,Ne.symm he]
 have b2:(Value.type "enumerate" == Value.type "list")=false:=by decide
 have b3:(Value.type "enumerate" == Value.type "tuple")=false:=by decide
 simp only[b1,b2,b3,Bool.or_false,Bool.false_eq_true,if_false];refine wpAny_bind (Xfj ⟨f0,f1,old,eo1,ef⟩ ?_);refine wpAny_bind (wpAny_holding ?_);unfold Builtin.List.listLengthHint;refine wpAny_bind (wpAny_specialOf hT Xqh ?_);show wpAny _ A.in1 (specialOf (Value.ref e) (Str.ofString "__length_hint__") >>= _) _ _ _;refine wpAny_bind (wpAny_specialOf hT Xnz ?_);refine wpAny_pure ?_;show wpAny _ A.in1 (rule "list.extend.makes-room" >>= fun _=>Builtin.List.listTouch (.ref L) >>= fun _ =>
  again (.builtin "list.extend.loop" ⟨[.ref L,.ref e,.none],[]⟩)) _ _ _
 refine wpAny_bind (wpAny_rule ?_);refine wpAny_bind ?_;show wpAny _ A.in1 (updateSeq L (·.push .none) >>= fun _=>updateSeq L (·.pop)) _ _ _
 refine wpAny_bind (wpAny_updateSeq hS2' rfl ?_);have hS3:=Heap.get?_update_self (Obj.mapSeq (·.push Value.none)) hS2' rfl;refine wpAny_updateSeq (hz:=by seq_fits) hS3 rfl ?_
 have hS4:=Heap.get?_update_self (Obj.mapSeq (·.pop)) hS3 rfl;have oth2:∀ b o,s.heap.get? b=some o->((h1.update L (Obj.mapSeq (·.push Value.none))).update L (Obj.mapSeq (·.pop))).get? b=some o:=fun b o z=>by
  have hb:L≠b:=fun h=>by rw[<- h,<- hLe] at z;exact Nat.lt_irrefl _ (Heap.lt_size z)
  exact(Heap.get?_update_other _ _ hb).trans ((Heap.get?_update_other _ _ hb).trans (oth b o z))
 have J:=q.inv.laid (o:=.lst []) (t':=s.toks) (h':=(h1.update L (Obj.mapSeq (·.push Value.none))).update L (Obj.mapSeq (·.pop))) oth2 (Nat.le_of_eq hLe) ⟨Nat.zero_le _,[],_,.nil,hS4⟩;have eo2:=oth2 _ _ eo;refine wpAny_pure ⟨plainId_quiet F.plain_extend_loop _,Xiz hA q.ne q.ln ws.length 0 _ H [] (Nat.zero_add _) J (fun b hb=>Xki (q.fp b hb) ?_) ⟨_,_,_,eo2,ef⟩ (q.io.at fun o z=>oth2 _ _ z) q.sq hL q.sr q.rd ?_ hR⟩
 ·simp only[List.mem_cons,List.not_mem_nil,or_false] at hb
  rcases hb with rfl|rfl
  ·exact he
  ·exact hi
 ·simp only[List.take_zero,Xay,RDs]
theorem Xqj{k:Bool}{xs:List D}{ws:List V}{E:Value->Shared->Prop}(hh:X.A.handled=none)(q:Lnm X pins σ ρ S H s k e it a xs ws) :
  wpAny (model X.prog X.w) X.A (call (.type "list") [.ref e]) (OkP X pins σ ρ H (.ok (.ref S.length) (S++[.lst (Xay 0 xs)]))) E s:=by
 refine callType_codes (Q₁:=fun obj s₁=>obj=.ref s.heap.objs.size/\s₁={ s with heap:=s.heap.push { cls:=.type "list",data:=.seq #[] } }) F.called_list (F.typeCall_list_1 _) F.entry_list_init
  (code_list_new _ ⟨rfl,rfl⟩) fun obj s₁ h₁=>?_
 obtain⟨rfl,rfl⟩:=h₁;have hS:(s.heap.push { cls:=.type "list",data:=.seq #[] }).get? s.heap.objs.size=some { cls:=.type "list",data:=.seq #[] }:=Heap.get?_push_size _ rfl;refine⟨⟨_,hS,rfl⟩,F.args_list_init_2 _ _,Xqi (show X.A.in1.in1.handled=none from hh) q fun s' Hb rs J hL st sr rd=>?_⟩
 exact⟨rfl,(Xbe J hL sr rd).pre st⟩
theorem Xsl(I:Inv X pins σ H s)(h:SqH k X.K H a vs):vs.length<=sizeLine:=by
 cases k
 ·obtain⟨its,rv,p,z⟩:=I.tuple h;exact z
 ·obtain⟨its,rv,p,z⟩:=I.list h;exact z
theorem X0o (hc:X.calm=true) (hgl:Gl X "list") (hml:X.mg "list" = none) (hge:Gl X "enumerate") (hme:X.mg "enumerate" = none) (ha:DE X a f) (hs:starEach [a] X.env=(false,eval a X.env)::starEach [] X.env) :
  DE X (.Call (.Name "list" p) [.Call (.Name "enumerate" p2) [a] [] pos2] [] pos) (fun env S=>(f env S).bind fun x S=>match Xn S x with|some xs=>.ok (.ref S.length) (S++[.lst (Xay 0 xs)])|none=>.bad):=by
 intro pins s σ H ρ S env I nb;dsimp only at nb ⊢;refine wpAny_Call_Name_kw (Xaj I.inv hgl hml (u:=.type "list") (by decide+kernel) (PyProof.Rows.callWith_type1 (PyProof.Rows.spliced_more ?_ rfl) rfl rfl) (by decide) rfl)
 refine wpAny_Call_Name_kw (Xaj I.inv hge hme (u:=.type "enumerate") (by decide+kernel) (PyProof.Rows.callWith_type1 (PyProof.Rows.spliced_more ?_ hs) hs rfl) (by decide) rfl)
 cases q:f env S with
 | bad=>rw[q] at nb;exact absurd rfl nb
 | ex n S1=>exact ha.ex I q fun x s' z=>⟨n,S1,rfl,z⟩
 | ok d S1 =>
  rw[q] at nb;simp only[Rk0] at nb ⊢;cases e:Xn S1 d with
  | none=>rw[e] at nb;exact absurd rfl nb
  | some xs =>
   dsimp only;refine ha.ok I q fun u s1 v H1 ρ1 I1 rv rd st1=>PyProof.Rows.spliced_none ?_
   obtain⟨b,ws,rfl,hq,hr⟩:=I1.seq e rd;cases rv;obtain⟨k,hk⟩:∃ k,SqH k X.K H1 b ws:=by
    rcases hq with hq|hq
    ·exact⟨true,hq⟩
    ·exact⟨false,hq⟩
   obtain⟨its,rvs,pk⟩:=Xhd I1.inv hk;refine Xmh pk fun h' st kp=>PyProof.Rows.spliced_none ?_
   have J:Inv X pins σ H1 { s1 with heap:=h' }:=I1.inv.kept (t':=s1.toks) kp
   have L:Lnm X pins σ ρ1 S1 H1 { s1 with heap:=h' } k (s1.heap.objs.size+1) s1.heap.objs.size b xs ws:=⟨J,fun c hb=>by
    have hb':s1.heap.objs.size<=c:=by
     simp only[List.mem_cons,List.not_mem_nil,or_false] at hb;rcases hb with rfl|rfl
     ·exact Nat.le_succ _
     ·exact Nat.le_refl _
    exact I1.inv.fpOk hb' (I1.inv.hok.fresh hb'),st.eo,st.io,hk,I1.sr,hr,Xsl I1.inv hk,Nat.succ_ne_self _⟩
   exact wpAny_mono (Xqj (E:=fun _ _=>False) (I1.inv.ok.hd hc) L) (fun w s2 z=>z.pre st1) fun _ _ z=>z.elim
end
noncomputable def Xn0(sc:Scope)(x:Str):Bool:=match sc.names.lookup x with
 | some .local=>true
 | some .cell=>true
 | some .free=>true
 | _=>false
noncomputable def glB(sc:Scope)(x:Str):Bool:=match sc.names.lookup x with
 | some .globalImplicit=>true
 | _=>false
noncomputable def Xhg(top:Str->Bool)(sc:Scope)(x:Str):Bool:=match sc.names.lookup x with
 | some .local=>true
 | some .cell=>top x
 | _=>false
noncomputable def Xab(x:Str):Bool:=!(x==("__debug__" : Str)) && !(x==("__classdict__" : Str)) && !decide (x = "__name__")
theorem Xwg(h:Xn0 sc x=true):Vis sc x:=by
 unfold Xn0 at h;split at h
 ·exact .inl (by assumption)
 ·exact .inr (.inl (by assumption))
 ·exact .inr (.inr (by assumption))
 ·cases h
theorem Xal(hs:X.env.scope=sc)(h:glB sc x=true):Gl X x:=by
 subst hs;unfold glB at h;split at h
 ·assumption
 ·cases h
theorem Xes{X:Cx}{top:Str->Bool}{sc:Scope}{x:Str}(hs:X.env.scope=sc)(ht:∀ x,top x=true->X.fn x=true)(h:Xhg top sc x=true):Loc X.env.scope x/\(X.fn x=true\/X.env.scope.names.lookup x=some .local):=by
 subst hs;unfold Xhg at h;split at h
 ·exact⟨.inl (by assumption),.inr (by assumption)⟩
 ·exact⟨.inr (by assumption),.inl (ht x h)⟩
 ·cases h
theorem Xat(h:Xab x=true):(x==("__debug__" : Str))=false/\(x==("__classdict__" : Str))=false/\x ≠ "__name__" := by
 simp only[Xab,bA0,Bool.not_eq_true',decide_eq_false_iff_not] at h;exact⟨h.1.1,h.1.2,h.2⟩
noncomputable def Yw:Expr->Bool
 | .Starred _ _=>false
 | _=>true
theorem Xs(h:Yw e=true):starEach (e::es) env=(false,eval e env)::starEach es env:=by
 cases e<;>first|rfl|cases h
theorem Xaq(h:es.all Yw=true):(backTo pos (starEach es env)).any (·.1)=false:=by
 induction es with
 | nil=>rfl
 | cons e es ih =>
  rw[List.all_cons,bA0] at h;rw[Xs h.1];show(false||(backTo pos (starEach es env)).any (·.1))=false;rw[ih h.2];rfl
theorem Xsm(h:es.all Yw=true):(backTo pos (starEach es env)).all (fun x=>!x.1)=true:=by
 induction es with
 | nil=>rfl
 | cons e es ih =>
  rw[List.all_cons,bA0] at h;rw[Xs h.1];show(true&&(backTo pos (starEach es env)).all (fun x=>!x.1))=true
  rw[ih h.2];rfl
noncomputable def Xdd:Expr->Bool
 | .Name _ _=>true
 | .Constant _ _ _=>true
 | .BinOp _ _ _ _=>true
 | .UnaryOp _ _ _=>true
 | .Call _ _ _ _=>true
 | .Subscript _ _ _=>true
 | .IfExp _ _ _ _=>true
 | .Compare _ _ _ _=>true
 | _=>false
theorem Xn1(h:Xdd b=true):Xha b:=by
 cases b<;>first|(intro o i;rfl)|cases h
noncomputable def Xbq:Expr->Bool
 | .Set _ _ _=>false
 | _=>true
theorem Xdz(h:Xbq e=true)(x:Value):foldedSetIterable e env x=pure x:=by
 cases e<;>first|rfl|cases h
noncomputable def Xn2:Expr->Bool
 | .Name _ _=>true
 | .Subscript _ _ _=>true
 | .Constant _ _ _=>true
 | _=>false
theorem Xet(h:Xn2 o=true):attributeBase o name env (eval o env)=eval o env:=by
 cases o<;>first|rfl|cases h
noncomputable def Xn3(c:Co)(o:CmpOp):Bool:=decide (o=opC c)
theorem Xhh{c:Co}{o:CmpOp}(h:Xn3 c o=true):o=opC c:=of_decide_eq_true h
noncomputable def Xn4(c:Bo)(o:Operator):Bool:=decide (o=opB c)
theorem Xmo{c:Bo}{o:Operator}(h:Xn4 c o=true):o=opB c:=of_decide_eq_true h
noncomputable def Xhi:D->Const->Bool
 | .int i,.int j=>i==j
 | .bl i,.bool j=>i==j
 | .non,.none=>true
 | .str i,.str j=>decide (i=j)
 | _,_=>false
noncomputable def Xn5:Bl->Option (Str×Bool×String)
 | .len=>some ("len",true,"len")
 | .tuple=>some ("tuple",false,"tuple")
 | .list=>some ("list",false,"list")
 | .all=>some ("all",true,"all")
 | .sum=>some ("sum",true,"sum")
 | .max=>some ("max",true,"max")
 | .mxl=>some ("max",true,"max")
 | .min=>some ("min",true,"min")
 | .repr=>some ("repr",true,"repr")
 | .int=>some ("int",false,"int")
 | .srt=>some ("sorted",true,"sorted")
noncomputable def Xn6:Bl->Bool
 | .len=>true
 | .tuple=>true
 | .list=>true
 | .repr=>true
 | .int=>true
 | .srt=>true
 | _=>false
noncomputable def X0p:Tg->Bool
 | .var _=>true
 | _=>false
noncomputable def tyB(sc:Scope)(t:Ty)(nm:Str):Bool:=match t with
 | .cls c=>decide (Xbm c=some nm)
 | .int=>decide (nm = "int")
 | .bool=>decide (nm = "bool")
 | .str=>decide (nm = "str")
 | .tuple=>decide (nm = "tuple")
 | .list=>decide (nm = "list")
 | .dict=>decide (nm = "dict")
 | .valueError=>decide (nm = "ValueError")
noncomputable def Xkj:Ty->Bool
 | .cls _=>false
 | .valueError=>false
 | _=>true
noncomputable def tyM(sc:Scope)(ts:List Ty)(y:Expr):Bool:=match y with
 | .Name nm _=>glB sc nm&&Xab nm&&(match ts with|[t]=>tyB sc t nm|_=>false)
 | .Tuple ys _ _=>(match ys with
  | [.Name n1 _,.Name n2 _]=>glB sc n1&&Xab n1&&glB sc n2&&Xab n2&&(match ts with|[t1,t2]=>Xkj t1&&Xkj t2&&tyB sc t1 n1&&tyB sc t2 n2|_=>false)
  | _=>false)
 | _=>false
noncomputable def X5b:Mt->Option Str
 | .append=>some "append"
 | .xtd=>some "extend"
 | .count=>some "count"
 | .index=>some "index"
noncomputable def Xfl(scope sc:Scope):Scope:={ scope with names:=scope.names.map fun(n,k)=>if (k == .free&&sc.kind == .function&&sc.names.lookup n==some .cell) then (n,.cell) else (n,k) }
noncomputable def Xac(scope:Scope):List Str:=scope.names.filterMap fun x=>match x.2 with
 | .local=>some x.1
 | .cell=>some x.1
 | _=>none
noncomputable def Xbz(N N2:List Str)(x:Str):Bool:=(N2.drop N.length).contains x
theorem Xwh(h:Xbz N (Xap N own) x=true):own.contains x=true:=by
 unfold Xbz Xap at h;rw[List.drop_left' (by simp)] at h
 exact h
noncomputable def isFn(k:ScopeKind):Bool:=match k with
 | .function=>true
 | _=>false
theorem Xhj(h:isFn k=true):k=.function:=by cases k<;>first|rfl|cases h
noncomputable def Xkk(k:Option NameKind):Bool:=match k with
 | some .cell=>true
 | some .free=>true
 | _=>false
noncomputable def Xc2(k:Option NameKind):Bool:=match k with
 | some .local=>true
 | _=>false
noncomputable def Xed:List Str->Bool
 | []=>true
 | x::r=>!(r.contains x)&&Xed r
theorem Xee:∀ {l:List Str},Xed l=true->l.Nodup
 | [],_=>List.nodup_nil
 | x::r,h=>by
  simp only[Xed,bA0,Bool.not_eq_true',List.contains_eq_mem] at h;exact List.nodup_cons.mpr ⟨by simpa using h.1,Xee h.2⟩
noncomputable def scB(outer sc:Scope)(N:List Str):Bool :=
 isFn sc.kind&&isFn outer.kind&&Xed (Xap N (Xac sc)) &&
 sc.names.all (fun y=>match y.2 with | .free=>Xkk (outer.names.lookup y.1) && !(Xac sc).contains y.1 | .local=>Xc2 (sc.names.lookup y.1)|_=>true) &&
 N.all (fun y=>!((Xac sc).contains y)||(sc.names.lookup (Str.ofString "0" ++ y)).isNone)
theorem Xqk(h:scB outer sc N=true):ScOk outer sc N (Xac sc):=by
 simp only[scB,bA0] at h;obtain⟨⟨⟨⟨h1,h2⟩,h3⟩,h5⟩,h6⟩:=h;have hfr:∀ y∈sc.names,y.2=.free->Xkk (outer.names.lookup y.1)=true/\y.1 ∉ Xac sc:=fun y hy hf=>by
  have:=List.all_eq_true.mp h5 y hy;rw[hf] at this
  simpa using this
 have hcel:∀ y∈sc.names,y.2=.cell->y.1∈Xac sc:=fun y hy hk=>List.mem_filterMap.mpr ⟨y,hy,by rw[hk]⟩
 refine⟨Xhj h1,Xhj h2,Xee h3,hcel,fun y hy hf=>(hfr y hy hf).2,fun y hy hf=>?_,fun y hy=>?_,fun x hx hl=>?_,fun y hy hc=>?_⟩
 ·have:=(hfr y hy hf).1
  unfold Xkk at this;split at this
  ·exact .inl (by assumption)
  ·exact .inr (by assumption)
  ·cases this
 ·exact List.mem_filterMap.mpr ⟨(y,.local),Xcc hy,rfl⟩
 ·have:=List.all_eq_true.mp h5 x hx
  rw[hl] at this;dsimp only at this;unfold Xc2 at this;split at this
  ·assumption
  ·cases this
 ·have:=List.all_eq_true.mp h6 y hy
  rw[hc] at this;simp only[Bool.not_true,Bool.false_or,Option.isNone_iff_eq_none] at this;exact this
noncomputable def Xn7:It->Bool
 | .enm _=>true
 | _=>false
noncomputable def Xd0(t:Tg)(it:It):Bool:=!Xn7 it || !X0p t
noncomputable def Xsn:Expr->Bool
 | .Name _ _=>true
 | .Subscript _ _ _=>true
 | _=>false
noncomputable def mnC(i:Int)(e:Expr):Bool:=match e with
 | .UnaryOp .USub x _=>(match x with
  | .Constant (.int j) _ _=>i==j
  | _=>false)
 | _=>false
noncomputable def Xn8(i:Int)(l:Option Int)(e:Expr):Bool:=match e with
 | .Slice lo none (some st) _=>mnC i st&&(match l,lo with
  | none,none=>true
  | some k,some x=>mnC k x
  | _,_=>false)
 | _=>false
theorem Xc{α:Type}{o:Option α}{p:α->Bool}(h:o.any p=true):∃ x,o=some x/\p x=true:=by
 cases o with
 | none=>cases h
 | some x=>exact⟨x,rfl,h⟩
noncomputable def vNm(e:Expr):Option Str:=match e with
 | .Name x _=>some x
 | _=>none
theorem Xa8{e:Expr}{x:Str}(h:vNm e=some x):∃ p,e=.Name x p:=by
 unfold vNm at h;split at h
 ·cases h;exact⟨_,rfl⟩
 ·cases h
noncomputable def Xso(e:Expr):Option Const:=match e with
 | .Constant c _ _=>some c
 | _=>none
theorem Xwi{e:Expr}{x:Const}(h:Xso e=some x):∃ k p,e=.Constant x k p:=by
 unfold Xso at h;split at h
 ·cases h;exact⟨_,_,rfl⟩
 ·cases h
noncomputable def vUn(e:Expr):Option (UnaryOp×Expr):=match e with
 | .UnaryOp o x _=>some (o,x)
 | _=>none
theorem Xql{e:Expr}{z:UnaryOp×Expr}(h:vUn e=some z):∃ p,e=.UnaryOp z.1 z.2 p:=by
 unfold vUn at h;split at h
 ·cases h;exact⟨_,rfl⟩
 ·cases h
noncomputable def X0q(o:UnaryOp):Bool:=decide (o=.USub)
theorem Xwj(h:X0q o=true):o=.USub:=of_decide_eq_true h
noncomputable def X0r(o:UnaryOp):Bool:=decide (o=.Not)
theorem Xwk(h:X0r o=true):o=.Not:=of_decide_eq_true h
noncomputable def Xhk(e:Expr):Option (List Expr):=match e with
 | .Tuple xs _ _=>some xs
 | _=>none
theorem Xcf{e:Expr}{x:List Expr}(h:Xhk e=some x):∃ k p,e=.Tuple x k p:=by
 unfold Xhk at h;split at h
 ·cases h;exact⟨_,_,rfl⟩
 ·cases h
noncomputable def Xsp(e:Expr):Option (List Expr):=match e with
 | .List xs _=>some xs
 | _=>none
theorem Xwl{e:Expr}{x:List Expr}(h:Xsp e=some x):∃ p,e=.List x p:=by
 unfold Xsp at h;split at h
 ·cases h;exact⟨_,rfl⟩
 ·cases h
noncomputable def Xsq(e:Expr):Bool:=match e with
 | .Dict ks vs _=>ks.isEmpty&&vs.isEmpty
 | _=>false
theorem Xwm{e:Expr}(h:Xsq e=true):∃ p,e=.Dict [] [] p:=by
 unfold Xsq at h;split at h
 ·simp only[bA0,List.isEmpty_iff] at h
  obtain⟨rfl,rfl⟩:=h;exact⟨_,rfl⟩
 ·cases h
noncomputable def Xsr(e:Expr):Option (Expr×Operator×Expr):=match e with
 | .BinOp x o y _=>some (x,o,y)
 | _=>none
theorem Xwn{e:Expr}{z:Expr×Operator×Expr}(h:Xsr e=some z):∃ p,e=.BinOp z.1 z.2.1 z.2.2 p:=by
 unfold Xsr at h;split at h
 ·cases h;exact⟨_,rfl⟩
 ·cases h
noncomputable def Xda{α:Type}(l:List α):Option α:=match l with
 | [x]=>some x
 | _=>none
theorem Xbf{α:Type}{l:List α}{x:α}(h:Xda l=some x):l=[x]:=by
 unfold Xda at h;split at h
 ·cases h;rfl
 ·cases h
noncomputable def Xfm{α:Type}(l:List α):Option (α×α):=match l with
 | [x,y]=>some (x,y)
 | _=>none
theorem Xde{α:Type}{l:List α}{z:α×α}(h:Xfm l=some z):l=[z.1,z.2]:=by
 unfold Xfm at h;split at h
 ·cases h;rfl
 ·cases h
noncomputable def Xn9(e:Expr):Option (Expr×List CmpOp×List Expr):=match e with
 | .Compare x os ys _=>some (x,os,ys)
 | _=>none
theorem Xmp{e:Expr}{z:Expr×List CmpOp×List Expr}(h:Xn9 e=some z):∃ p,e=.Compare z.1 z.2.1 z.2.2 p:=by
 unfold Xn9 at h;split at h
 ·cases h;exact⟨_,rfl⟩
 ·cases h
noncomputable def Xkl(e:Expr):Option (BoolOp×List Expr×Pos):=match e with
 | .BoolOp o xs p=>some (o,xs,p)
 | _=>none
theorem Xwo{e:Expr}{z:BoolOp×List Expr×Pos}(h:Xkl e=some z):e=.BoolOp z.1 z.2.1 z.2.2:=by
 unfold Xkl at h;split at h
 ·cases h;rfl
 ·cases h
noncomputable def opA(an:Bool):BoolOp:=if an then .And else .Or
noncomputable def Xoa(an:Bool)(o:BoolOp):Bool:=decide (o=opA an)
theorem Xwp{an:Bool}{o:BoolOp}(h:Xoa an o=true):o=opA an:=of_decide_eq_true h
noncomputable def Xkm(an:Bool)(p:Pos)(l:List Expr):Option (Expr×Expr):=match l with
 | [x,y]=>some (x,y)
 | x::y::z::r=>some (x,.BoolOp (opA an) (y::z::r) p)
 | _=>none
theorem Xwq(h:Xkm an p l=some z):l=[z.1,z.2]\/∃ y y2 r,l=z.1::y::y2::r/\z.2=.BoolOp (opA an) (y::y2::r) p:=by
 unfold Xkm at h;split at h
 ·cases h;exact .inl rfl
 ·cases h;exact .inr ⟨_,_,_,rfl,rfl⟩
 ·cases h
noncomputable def vIf(e:Expr):Option (Expr×Expr×Expr):=match e with
 | .IfExp x y z _=>some (x,y,z)
 | _=>none
theorem X0s{e:Expr}{z:Expr×Expr×Expr}(h:vIf e=some z):∃ p,e=.IfExp z.1 z.2.1 z.2.2 p:=by
 unfold vIf at h;split at h
 ·cases h;exact⟨_,rfl⟩
 ·cases h
noncomputable def Xhl(e:Expr):Option (Expr×Expr):=match e with
 | .Subscript x y _=>some (x,y)
 | _=>none
theorem Xeu{e:Expr}{z:Expr×Expr}(h:Xhl e=some z):∃ p,e=.Subscript z.1 z.2 p:=by
 unfold Xhl at h;split at h
 ·cases h;exact⟨_,rfl⟩
 ·cases h
noncomputable def Xss(e:Expr):Option (Option Expr×Option Expr):=match e with
 | .Slice l h none _=>some (l,h)
 | _=>none
theorem Xwr(h:Xss e=some z):∃ p,e=.Slice z.1 z.2 none p:=by
 unfold Xss at h;split at h
 ·cases h;exact⟨_,rfl⟩
 ·cases h
noncomputable def Xbr(e:Expr):Option (Expr×Expr×List Expr×Pos):=match e with
 | .Call f (y::ys) [] p=>some (f,y,ys,p)
 | _=>none
theorem Xhm{e:Expr}{z:Expr×Expr×List Expr×Pos}(h:Xbr e=some z):e=.Call z.1 (z.2.1::z.2.2.1) [] z.2.2.2:=by
 unfold Xbr at h;split at h
 ·cases h;rfl
 ·cases h
noncomputable def Xob(e:Expr):Option (Expr×Str×Pos):=match e with
 | .Attribute o nm p=>some (o,nm,p)
 | _=>none
theorem Xws(h:Xob e=some z):e=.Attribute z.1 z.2.1 z.2.2:=by
 unfold Xob at h;split at h
 ·cases h;rfl
 ·cases h
noncomputable def vLC(e:Expr):Option (Expr×List Comprehension×Scope):=match e with
 | .ListComp e gens scope _=>some (e,gens,scope)
 | _=>none
theorem X0t{e:Expr}{z:Expr×List Comprehension×Scope}(h:vLC e=some z):∃ p,e=.ListComp z.1 z.2.1 z.2.2 p:=by
 unfold vLC at h;split at h
 ·cases h;exact⟨_,rfl⟩
 ·cases h
section
variable(cm:Bool)(fns:List (Str×Nat×Bool))(gns:List Str)
noncomputable def mtT(top:Str->Bool)(sc:Scope)(N:List Str):Tg->Expr->Bool
 | .var i,e=>(vNm e).any fun x=>decide (N[i]?=some x)&&Xhg top sc x
 | .tup is,e=>(Xhk e).any fun es=>namesB is es
where namesB:List Nat->List Expr->Bool
 | [],[]=>true
 | i::is,e::es=>((vNm e).any fun x=>decide (N[i]?=some x)&&Xhg top sc x)&&namesB is es
 | _,_=>false
noncomputable def fnB(f:Nat)(x:Str)(n:Nat):Bool:=match fns[f]? with
 | some (nm,ar,fl)=>decide (nm=x)&&decide (ar=n)&&(cm || !fl)
 | none=>false
noncomputable def blB(k:Bl)(x:Str):Bool:=match Xn5 k with
 | some (nm,_,_)=>decide (x=nm)
 | none=>false
noncomputable def mtB(k:Mt)(nm:Str):Bool:=match X5b k with
 | some m=>decide (nm=m)
 | none=>false
mutual
noncomputable def mt(sc:Scope)(N:List Str):Ex->Expr->Bool
 | .nev,_=>true
 | .var i,e=>(vNm e).any fun x=>decide (N[i]?=some x)&&Xn0 sc x&&Xab x
 | .cst d,e=>(Xso e).any fun c=>Xhi d c
 | .neg a,e=>(vUn e).any fun z=>X0q z.1&&mt sc N a z.2
 | .glb k,e=>(vNm e).any fun x=>decide (gns[k]?=some x)&&glB sc x&&Xab x
 | .tup es,e=>(Xhk e).any fun xs=>mts sc N es xs
 | .lst es,e=>(Xsp e).any fun xs=>mts sc N es xs
 | .dct0,e=>Xsq e
 | .isi a ts,e=>(Xbr e).any fun z=>(vNm z.1).any fun(f:Str)=>decide (f = "isinstance")&&glB sc f&&Yw z.2.1&&mt sc N a z.2.1&&(Xda z.2.2.1).any fun y=>tyM sc ts y
 | .bin op a b,e=>(Xsr e).any fun z=>Xn4 op z.2.1&&mt sc N a z.1&&mt sc N b z.2.2
 | .cmp op a b,e=>(Xn9 e).any fun z=>(Xda z.2.1).any fun o=>(Xda z.2.2).any fun y=>Xn3 op o && !(behindInMarks (opC op) y)&&mt sc N a z.1&&mt sc N b y
 | .chn o1 o2 a b c,e=>(Xn9 e).any fun z=>(Xfm z.2.1).any fun o=>(Xfm z.2.2).any fun y=>Xn3 o1 o.1&&Xn3 o2 o.2 && !(lastMarks [opC o1,opC o2] [y.1,y.2])&&mt sc N a z.1&&mt sc N b y.1&&mt sc N c y.2
 | .and a b,e=>(Xkl e).any fun z=>Xoa true z.1&&(Xkm true z.2.2 z.2.1).any fun y=>mt sc N a y.1&&mt sc N b y.2
 | .or a b,e=>(Xkl e).any fun z=>Xoa false z.1&&(Xkm false z.2.2 z.2.1).any fun y=>mt sc N a y.1&&mt sc N b y.2
 | .not a,e=>(vUn e).any fun z=>X0r z.1&&mt sc N a z.2
 | .ite c a b,e=>(vIf e).any fun z=>mt sc N c z.1&&mt sc N a z.2.1&&mt sc N b z.2.2
 | .idx a i,e=>(Xhl e).any fun z=>Xdd z.2&&mt sc N a z.1&&mt sc N i z.2
 | .call f es,e=>(Xbr e).any fun z=>(vNm z.1).any fun x=>fnB cm fns f x (z.2.1::z.2.2.1).length&&glB sc x&&Xab x&&mts sc N es (z.2.1::z.2.2.1)
 | .blt k es,e=>(Xbr e).any fun z=>(vNm z.1).any fun x=>blB k x&&(cm||Xn6 k)&&glB sc x&&Xab x&&mts sc N es (z.2.1::z.2.2.1)
 | .mth k o es,e=>(Xbr e).any fun z=>(Xob z.1).any fun x=>mtB k x.2.1&&Xn2 x.1&&(x.2.2.endLine==z.2.2.2.line)&&decide ((z.2.1::z.2.2.1).length<29)&&mt sc N o x.1&&mts sc N es (z.2.1::z.2.2.1)
 | .cmr k n gs elt,e=>(vLC e).any fun z=>cm && !k&&decide ((Xac z.2.2).length=n)&&scB sc z.2.2 N&&mtG sc N (Xfl z.2.2 sc) (Xap N (Xac z.2.2)) gs z.2.1&&mt (Xfl z.2.2 sc) (Xap N (Xac z.2.2)) elt z.1
 | .sli a lo hi,e=>(Xhl e).any fun z=>(Xss z.2).any fun y=>mt sc N a z.1&&mto sc N lo y.1&&mto sc N hi y.2
 | .cal f es,e=>(Xbr e).any fun z=>cm&&Xsn z.1&&mt sc N f z.1&&mts sc N es (z.2.1::z.2.2.1)
 | .rev a,e=>(Xhl e).any fun z=>Xn8 1 none z.2&&mt sc N a z.1
 | .lenm a,e=>(Xbr e).any fun z=>(vNm z.1).any fun(x:Str)=>decide (x = "list")&&cm&&glB sc x&&z.2.2.1.isEmpty&&(Xbr z.2.1).any fun y=>(vNm y.1).any fun(x2:Str)=>decide (x2 = "enumerate")&&glB sc x2&&y.2.2.1.isEmpty&&Yw y.2.1&&mt sc N a y.2.1
noncomputable def mto(sc:Scope)(N:List Str):Op->Option Expr->Bool
 | .none,none=>true
 | .some e,some x=>mt sc N e x
 | _,_=>false
noncomputable def mts(sc:Scope)(N:List Str):Exs->List Expr->Bool
 | .nil,[]=>true
 | .cons e es,x::xs=>Yw x&&mt sc N e x&&mts sc N es xs
 | _,_=>false
noncomputable def mtG(sc:Scope)(N:List Str)(sc2:Scope)(N2:List Str):Gens->List Comprehension->Bool
 | .cons t it ifs .nil,[⟨tg,iter,cs,a⟩]=>(a==0)&&Xbq iter&&mtT (Xbz N N2) sc2 N2 t tg&&mtI sc N it iter&&mts sc2 N2 ifs cs&&Xd0 t it
 | .cons t it ifs (.cons t2 it2 ifs2 .nil),[⟨tg,iter,cs,a⟩,⟨tg2,iter2,cs2,a2⟩]=>(a==0)&&(a2==0)&&Xbq iter&&Xbq iter2&&mtT (Xbz N N2) sc2 N2 t tg&&mtI sc N it iter&&mts sc2 N2 ifs cs&&mtT (Xbz N N2) sc2 N2 t2 tg2&&mtI sc2 N2 it2 iter2&&mts sc2 N2 ifs2 cs2&&Xd0 t it&&Xd0 t2 it2
 | _,_=>false
noncomputable def mtI(sc:Scope)(N:List Str):It->Expr->Bool
 | .val e,x=>mt sc N e x
 | .rng es,e=>(Xbr e).any fun z=>(vNm z.1).any fun(x:Str)=>decide (x = "range")&&glB sc x&&mts sc N es (z.2.1::z.2.2.1)
 | .enm es,e=>(Xbr e).any fun z=>(vNm z.1).any fun(x:Str)=>decide (x = "enumerate")&&glB sc x&&mts sc N es (z.2.1::z.2.2.1)
end
end
section
variable{cm:Bool}{fns:List (Str×Nat×Bool)}{gns:List Str}{sc sc2:Scope}{N N2:List Str}{t t2:Tg}{it it2:It}{ifs ifs2:Exs}
theorem X3x(h:mtG cm fns gns sc N sc2 N2 .nil gens=true):False:=by
 cases h
theorem X3y(h:mtG cm fns gns sc N sc2 N2 (.cons t it ifs .nil) gens=true):∃ tg iter cs,gens=[⟨tg,iter,cs,0⟩]/\Xbq iter=true/\mtT (Xbz N N2) sc2 N2 t tg=true/\mtI cm fns gns sc N it iter=true/\mts cm fns gns sc2 N2 ifs cs=true/\Xd0 t it=true:=by
 match gens,h with
 | [⟨tg,iter,cs,a⟩],h =>
  simp only[mtG,bA0,beq_iff_eq] at h;obtain⟨⟨⟨⟨⟨h1,h2⟩,h3⟩,h4⟩,h5⟩,h6⟩:=h;subst h1;exact⟨tg,iter,cs,rfl,h2,h3,h4,h5,h6⟩
 | [],h=>cases h
 | ⟨_,_,_,_⟩::_::_,h=>cases h
theorem X3z(h:mtG cm fns gns sc N sc2 N2 (.cons t it ifs (.cons t2 it2 ifs2 .nil)) gens=true):∃ tg iter cs tg2 iter2 cs2,gens=[⟨tg,iter,cs,0⟩,⟨tg2,iter2,cs2,0⟩]/\Xbq iter=true/\Xbq iter2=true/\mtT (Xbz N N2) sc2 N2 t tg=true/\mtI cm fns gns sc N it iter=true/\mts cm fns gns sc2 N2 ifs cs=true/\mtT (Xbz N N2) sc2 N2 t2 tg2=true/\mtI cm fns gns sc2 N2 it2 iter2=true/\mts cm fns gns sc2 N2 ifs2 cs2=true/\Xd0 t it=true/\Xd0 t2 it2=true:=by
 match gens,h with
 | [⟨tg,iter,cs,a⟩,⟨tg2,iter2,cs2,a2⟩],h =>
  simp only[mtG,bA0,beq_iff_eq] at h;obtain⟨⟨⟨⟨⟨⟨⟨⟨⟨⟨⟨h1,h2⟩,h3⟩,h4⟩,h5⟩,h6⟩,h7⟩,h8⟩,h9⟩,h10⟩,h11⟩,h12⟩:=h;subst h1 h2;exact⟨tg,iter,cs,tg2,iter2,cs2,rfl,h3,h4,h5,h6,h7,h8,h9,h10,h11,h12⟩
 | [],h=>cases h
 | [⟨_,_,_,_⟩],h=>cases h
 | ⟨_,_,_,_⟩::⟨_,_,_,_⟩::_::_,h=>cases h
theorem X30(h:mtG cm fns gns sc N sc2 N2 (.cons t it ifs (.cons t2 it2 ifs2 (.cons t3 it3 ifs3 gs3))) gens=true):False:=by
 match gens,h with
 | [],h=>cases h
 | [⟨_,_,_,_⟩],h=>cases h
 | ⟨_,_,_,_⟩::⟨_,_,_,_⟩::_ ,h=>cases h
theorem Xco{e:Expr}{q:Expr×Expr×List Expr×Pos->Str->Bool}(h:((Xbr e).any fun z=>(vNm z.1).any fun x=>q z x)=true):∃ x p y ys cp,e=.Call (.Name x p) (y::ys) [] cp/\q (.Name x p,y,ys,cp) x=true:=by
 obtain⟨⟨f,y,ys,cp⟩,h1,h2⟩:=Xc h;obtain⟨x,h3,h4⟩:=Xc h2;have e1:=Xhm h1;subst e1;have h3':vNm f=some x:=h3;obtain⟨p,e2⟩:=Xa8 h3';subst e2;exact⟨x,p,y,ys,cp,rfl,h4⟩
theorem X0u{i:Nat}{e:Expr}(h:mt cm fns gns sc N (.var i) e=true):∃ x p,e=.Name x p/\N[i]?=some x/\Xn0 sc x=true/\Xab x=true:=by
 simp only[mt] at h;obtain⟨x,h1,h2⟩:=Xc h;obtain⟨p,rfl⟩:=Xa8 h1;simp only[bA0,decide_eq_true_eq] at h2;exact⟨x,p,rfl,h2.1.1,h2.1.2,h2.2⟩
theorem X0v{d:D}{e:Expr}(h:mt cm fns gns sc N (.cst d) e=true):∃ c k p,e=.Constant c k p/\Xhi d c=true:=by
 simp only[mt] at h;obtain⟨c,h1,h2⟩:=Xc h;obtain⟨k,p,rfl⟩:=Xwi h1;exact⟨c,k,p,rfl,h2⟩
theorem X0w{a:Ex}{e:Expr}(h:mt cm fns gns sc N (.neg a) e=true):∃ x p,e=.UnaryOp .USub x p/\mt cm fns gns sc N a x=true:=by
 simp only[mt] at h;obtain⟨⟨o,x⟩,h1,h2⟩:=Xc h;obtain⟨p,rfl⟩:=Xql h1;rw[bA0] at h2;have e1:=Xwj h2.1;dsimp only at e1;subst e1;exact⟨x,p,rfl,h2.2⟩
theorem X0x{a:Ex}{e:Expr}(h:mt cm fns gns sc N (.not a) e=true):∃ x p,e=.UnaryOp .Not x p/\mt cm fns gns sc N a x=true:=by
 simp only[mt] at h;obtain⟨⟨o,x⟩,h1,h2⟩:=Xc h;obtain⟨p,rfl⟩:=Xql h1;rw[bA0] at h2;have e1:=Xwk h2.1;dsimp only at e1;subst e1;exact⟨x,p,rfl,h2.2⟩
theorem X0y{k:Nat}{e:Expr}(h:mt cm fns gns sc N (.glb k) e=true):∃ x p,e=.Name x p/\gns[k]?=some x/\glB sc x=true/\Xab x=true:=by
 simp only[mt] at h;obtain⟨x,h1,h2⟩:=Xc h;obtain⟨p,rfl⟩:=Xa8 h1;simp only[bA0,decide_eq_true_eq] at h2;exact⟨x,p,rfl,h2.1.1,h2.1.2,h2.2⟩
theorem X0z{es:Exs}{e:Expr}(h:mt cm fns gns sc N (.tup es) e=true):∃ xs k p,e=.Tuple xs k p/\mts cm fns gns sc N es xs=true:=by
 simp only[mt] at h;obtain⟨x,h1,h2⟩:=Xc h;obtain⟨k,p,rfl⟩:=Xcf h1;exact⟨x,k,p,rfl,h2⟩
theorem X00{es:Exs}{e:Expr}(h:mt cm fns gns sc N (.lst es) e=true):∃ xs p,e=.List xs p/\mts cm fns gns sc N es xs=true:=by
 simp only[mt] at h;obtain⟨x,h1,h2⟩:=Xc h;obtain⟨p,rfl⟩:=Xwl h1;exact⟨x,p,rfl,h2⟩
theorem Xwt(h:mt cm fns gns sc N .dct0 e=true):∃ p,e=.Dict [] [] p:=by
 simp only[mt] at h;exact Xwm h
theorem X01{op:Bo}{a b:Ex}{e:Expr}(h:mt cm fns gns sc N (.bin op a b) e=true):∃ x y p,e=.BinOp x (opB op) y p/\mt cm fns gns sc N a x=true/\mt cm fns gns sc N b y=true:=by
 simp only[mt] at h;obtain⟨⟨x,o,y⟩,h1,h2⟩:=Xc h;obtain⟨p,rfl⟩:=Xwn h1;simp only[bA0] at h2;have e1:=Xmo h2.1.1;subst e1;exact⟨x,y,p,rfl,h2.1.2,h2.2⟩
theorem X02{op:Co}{a b:Ex}{e:Expr}(h:mt cm fns gns sc N (.cmp op a b) e=true):∃ x y p,e=.Compare x [opC op] [y] p/\behindInMarks (opC op) y=false/\mt cm fns gns sc N a x=true/\mt cm fns gns sc N b y=true:=by
 simp only[mt] at h;obtain⟨⟨x,os,ys⟩,h1,h2⟩:=Xc h;obtain⟨o,h3,h4⟩:=Xc h2;obtain⟨y,h5,h6⟩:=Xc h4;obtain⟨p,rfl⟩:=Xmp h1;have e1:os=[o]:=Xbf h3;have e2:ys=[y]:=Xbf h5;subst e1 e2;simp only[bA0,Bool.not_eq_true'] at h6;have e3:=Xhh h6.1.1.1;subst e3;exact⟨x,y,p,rfl,h6.1.1.2,h6.1.2,h6.2⟩
theorem X03{o1 o2:Co}{a b c:Ex}{e:Expr}(h:mt cm fns gns sc N (.chn o1 o2 a b c) e=true):∃ x y z p,e=.Compare x [opC o1,opC o2] [y,z] p/\lastMarks [opC o1,opC o2] [y,z]=false/\mt cm fns gns sc N a x=true/\mt cm fns gns sc N b y=true/\mt cm fns gns sc N c z=true:=by
 simp only[mt] at h;obtain⟨⟨x,os,ys⟩,h1,h2⟩:=Xc h;obtain⟨⟨p1,p2⟩,h3,h4⟩:=Xc h2;obtain⟨⟨y,z⟩,h5,h6⟩:=Xc h4;obtain⟨p,rfl⟩:=Xmp h1;have e1:os=[p1,p2]:=Xde h3;have e2:ys=[y,z]:=Xde h5;subst e1 e2;rw[bA0,bA0,bA0,bA0,bA0,Bool.not_eq_true'] at h6;obtain⟨⟨⟨⟨⟨k1,k2⟩,k3⟩,k4⟩,k5⟩,k6⟩:=h6;have e3:=Xhh k1;have e4:=Xhh k2;dsimp only at e3 e4;subst e3 e4;exact⟨x,y,z,p,rfl,k3,k4,k5,k6⟩
theorem Xmq{an:Bool}{a b:Ex}{e:Expr}(h:((Xkl e).any fun z=>Xoa an z.1&&(Xkm an z.2.2 z.2.1).any fun y=>mt cm fns gns sc N a y.1&&mt cm fns gns sc N b y.2)=true) :
  (∃ x y p,e=.BoolOp (opA an) [x,y] p/\mt cm fns gns sc N a x=true/\mt cm fns gns sc N b y=true)\/∃ x y z r p,e=.BoolOp (opA an) (x::y::z::r) p/\mt cm fns gns sc N a x=true/\mt cm fns gns sc N b (.BoolOp (opA an) (y::z::r) p)=true:=by
 obtain⟨⟨o,xs,p⟩,h1,h2⟩:=Xc h;have e1:=Xwo h1;subst e1;rw[bA0] at h2;have e2:=Xwp h2.1;dsimp only at e2;subst e2;obtain⟨⟨x,y⟩,h3,h4⟩:=Xc h2.2;rw[bA0] at h4;rcases Xwq h3 with e3|⟨y1,y2,r,e3,e4⟩
 ·dsimp only at e3
  subst e3;exact .inl ⟨x,y,p,rfl,h4.1,h4.2⟩
 ·dsimp only at e3 e4
  subst e3 e4;exact .inr ⟨x,y1,y2,r,p,rfl,h4.1,h4.2⟩
theorem X04(h:mt cm fns gns sc N (.and a b) e=true):(∃ x y p,e=.BoolOp .And [x,y] p/\mt cm fns gns sc N a x=true/\mt cm fns gns sc N b y=true)\/∃ x y z r p,e=.BoolOp .And (x::y::z::r) p/\mt cm fns gns sc N a x=true/\mt cm fns gns sc N b (.BoolOp .And (y::z::r) p)=true:=by
 simp only[mt] at h;exact Xmq (an:=true) h
theorem X31(h:mt cm fns gns sc N (.or a b) e=true):(∃ x y p,e=.BoolOp .Or [x,y] p/\mt cm fns gns sc N a x=true/\mt cm fns gns sc N b y=true)\/∃ x y z r p,e=.BoolOp .Or (x::y::z::r) p/\mt cm fns gns sc N a x=true/\mt cm fns gns sc N b (.BoolOp .Or (y::z::r) p)=true:=by
 simp only[mt] at h;exact Xmq (an:=false) h
theorem X05{c a b:Ex}{e:Expr}(h:mt cm fns gns sc N (.ite c a b) e=true):∃ x y z p,e=.IfExp x y z p/\mt cm fns gns sc N c x=true/\mt cm fns gns sc N a y=true/\mt cm fns gns sc N b z=true:=by
 simp only[mt] at h;obtain⟨⟨x,y,z⟩,h1,h2⟩:=Xc h;obtain⟨p,rfl⟩:=X0s h1;simp only[bA0] at h2;exact⟨x,y,z,p,rfl,h2.1.1,h2.1.2,h2.2⟩
theorem X06{a i:Ex}{e:Expr}(h:mt cm fns gns sc N (.idx a i) e=true):∃ x y p,e=.Subscript x y p/\Xdd y=true/\mt cm fns gns sc N a x=true/\mt cm fns gns sc N i y=true:=by
 simp only[mt] at h;obtain⟨⟨x,y⟩,h1,h2⟩:=Xc h;obtain⟨p,rfl⟩:=Xeu h1;simp only[bA0] at h2;exact⟨x,y,p,rfl,h2.1.1,h2.1.2,h2.2⟩
theorem Xqm{k:Bool}{n:Nat}{gs:Gens}{elt:Ex}{e:Expr}(h:mt cm fns gns sc N (.cmr k n gs elt) e=true):∃ ee gens scope p,e=.ListComp ee gens scope p/\cm=true/\k=false/\(Xac scope).length=n/\scB sc scope N=true/\mtG cm fns gns sc N (Xfl scope sc) (Xap N (Xac scope)) gs gens=true/\mt cm fns gns (Xfl scope sc) (Xap N (Xac scope)) elt ee=true:=by
 simp only[mt] at h;obtain⟨⟨ee,gens,scope⟩,h1,h2⟩:=Xc h;obtain⟨p,rfl⟩:=X0t h1;simp only[bA0,decide_eq_true_eq,Bool.not_eq_true'] at h2;obtain⟨⟨⟨⟨⟨h0,h1⟩,h2⟩,h3⟩,h4⟩,h5⟩:=h2;exact⟨ee,gens,scope,p,rfl,h0,h1,h2,h3,h4,h5⟩
theorem Xwu(h:mt cm fns gns sc N (.lenm a) e=true):∃ p p2 x cp cp2,e=.Call (.Name "list" p) [.Call (.Name "enumerate" p2) [x] [] cp2] [] cp/\cm=true/\glB sc "list" = true/\glB sc "enumerate" = true/\Yw x=true/\mt cm fns gns sc N a x=true:=by
 simp only[mt] at h;obtain⟨x,p,y,ys,cp,rfl,h1⟩:=Xco h;rw[bA0,bA0,bA0,bA0] at h1;obtain⟨⟨⟨⟨e1,e2⟩,e3⟩,e4⟩,h2⟩:=h1;obtain⟨x2,p2,y2,ys2,cp2,rfl,h3⟩:=Xco h2;rw[bA0,bA0,bA0,bA0] at h3;obtain⟨⟨⟨⟨f1,f2⟩,f3⟩,f4⟩,f5⟩:=h3;have e1':=of_decide_eq_true e1;have f1':=of_decide_eq_true f1;subst e1' f1';have e4':=List.isEmpty_iff.mp e4;have f3':=List.isEmpty_iff.mp f3;dsimp only at e4' f3';subst e4' f3';exact⟨p,p2,y2,cp,cp2,rfl,e2,e3,f2,f4,f5⟩
theorem X07(h:mt cm fns gns sc N (.blt k es) e=true):∃ x p y ys cp,e=.Call (.Name x p) (y::ys) [] cp/\blB k x=true/\(cm||Xn6 k)=true/\glB sc x=true/\Xab x=true/\mts cm fns gns sc N es (y::ys)=true:=by
 simp only[mt] at h;obtain⟨x,p,y,ys,cp,rfl,h1⟩:=Xco h;rw[bA0,bA0,bA0,bA0] at h1;exact⟨x,p,y,ys,cp,rfl,h1.1.1.1.1,h1.1.1.1.2,h1.1.1.2,h1.1.2,h1.2⟩
theorem Xwv{k:Nat}(h:mt cm fns gns sc N (.call k es) e=true):∃ x p y ys cp,e=.Call (.Name x p) (y::ys) [] cp/\(∃ fl,fns[k]?=some (x,(y::ys).length,fl)/\(fl=true->cm=true))/\glB sc x=true/\Xab x=true/\mts cm fns gns sc N es (y::ys)=true:=by
 simp only[mt] at h;obtain⟨x,p,y,ys,cp,rfl,h1⟩:=Xco h;rw[bA0,bA0,bA0] at h1;refine⟨x,p,y,ys,cp,rfl,?_,h1.1.1.2,h1.1.2,h1.2⟩;have h2:=h1.1.1.1;unfold fnB at h2;split at h2
 ·rename_i nm ar fl e
  simp only[bA0,decide_eq_true_eq,Bool.or_eq_true,Bool.not_eq_true'] at h2;obtain⟨⟨rfl,rfl⟩,h2⟩:=h2;exact⟨fl,e,fun z=>by rcases h2 with h2|h2;exact h2;rw[z] at h2;cases h2⟩
 ·cases h2
theorem X08{k:Mt}{o:Ex}{es:Exs}{e:Expr}(h:mt cm fns gns sc N (.mth k o es) e=true):∃ ox nm ap y ys cp,e=.Call (.Attribute ox nm ap) (y::ys) [] cp/\mtB k nm=true/\Xn2 ox=true/\(ap.endLine==cp.line)=true/\(y::ys).length<29/\mt cm fns gns sc N o ox=true/\mts cm fns gns sc N es (y::ys)=true:=by
 simp only[mt] at h;obtain⟨⟨f,y,ys,cp⟩,h1,h2⟩:=Xc h;obtain⟨⟨ox,nm,ap⟩,h3,h4⟩:=Xc h2;have e1:=Xhm h1;subst e1;have h3':Xob f=some (ox,nm,ap):=h3;have e2:=Xws h3';subst e2;rw[bA0,bA0,bA0,bA0,bA0] at h4;exact⟨ox,nm,ap,y,ys,cp,rfl,h4.1.1.1.1.1,h4.1.1.1.1.2,h4.1.1.1.2,of_decide_eq_true h4.1.1.2,h4.1.2,h4.2⟩
theorem X09{a:Ex}{ts:List Ty}{e:Expr}(h:mt cm fns gns sc N (.isi a ts) e=true):∃ p0 x y cp,e=.Call (.Name "isinstance" p0) [x,y] [] cp/\glB sc "isinstance" = true/\Yw x=true/\mt cm fns gns sc N a x=true/\tyM sc ts y=true:=by
 simp only[mt] at h;obtain⟨f,p,y,ys,cp,rfl,h1⟩:=Xco h;rw[bA0,bA0,bA0,bA0] at h1;obtain⟨⟨⟨⟨h2,h3⟩,h4⟩,h5⟩,h6⟩:=h1;have e1:f = "isinstance" := of_decide_eq_true h2;subst e1;obtain⟨y2,h7,h8⟩:=Xc h6;have e2:ys=[y2]:=Xbf h7;subst e2;exact⟨p,y,y2,cp,rfl,h3,h4,h5,h8⟩
theorem X1a(h:tyM sc ts y=true):(∃ t nm p,ts=[t]/\y=.Name nm p/\glB sc nm=true/\Xab nm=true/\tyB sc t nm=true) \/
  ∃ t1 t2 n1 n2 p1 p2 k p,ts=[t1,t2]/\y=.Tuple [.Name n1 p1,.Name n2 p2] k p/\glB sc n1=true/\Xab n1=true/\glB sc n2=true/\Xab n2=true/\Xkj t1=true/\Xkj t2=true/\tyB sc t1 n1=true/\tyB sc t2 n2=true:=by
 unfold tyM at h;split at h
 ·simp only[bA0] at h
  obtain⟨⟨h1,h2⟩,h3⟩:=h;split at h3
  ·exact .inl ⟨_,_,_,rfl,rfl,h1,h2,h3⟩
  ·cases h3
 ·split at h
  ·simp only[bA0] at h
   obtain⟨⟨⟨⟨h1,h2⟩,h3⟩,h4⟩,h5⟩:=h;split at h5
   ·simp only[bA0] at h5
    obtain⟨⟨⟨h6,h7⟩,h8⟩,h9⟩:=h5;exact .inr ⟨_,_,_,_,_,_,_,_,rfl,rfl,h1,h2,h3,h4,h6,h7,h8,h9⟩
   ·cases h5
  ·cases h
 ·cases h
theorem X1b{a:Ex}{lo hi:Op}{e:Expr}(h:mt cm fns gns sc N (.sli a lo hi) e=true):∃ x l u p2 p,e=.Subscript x (.Slice l u none p2) p/\mt cm fns gns sc N a x=true/\mto cm fns gns sc N lo l=true/\mto cm fns gns sc N hi u=true:=by
 simp only[mt] at h;obtain⟨⟨x,y⟩,h1,h2⟩:=Xc h;obtain⟨⟨l,u⟩,h3,h4⟩:=Xc h2;obtain⟨p,rfl⟩:=Xeu h1;obtain⟨p2,e2⟩:=Xwr h3;dsimp only at e2;subst e2;simp only[bA0] at h4;exact⟨x,l,u,p2,p,rfl,h4.1.1,h4.1.2,h4.2⟩
theorem Xu7{w:Str}{es:Exs}{e:Expr}(h:((Xbr e).any fun z=>(vNm z.1).any fun x=>decide (x=w)&&glB sc x&&mts cm fns gns sc N es (z.2.1::z.2.2.1))=true):∃ p y ys cp,e=.Call (.Name w p) (y::ys) [] cp/\glB sc w=true/\mts cm fns gns sc N es (y::ys)=true:=by
 obtain⟨x,p,y,ys,cp,rfl,h1⟩:=Xco h;rw[bA0,bA0] at h1;have e1:x=w:=of_decide_eq_true h1.1.1;subst e1;exact⟨p,y,ys,cp,rfl,h1.1.2,h1.2⟩
theorem Xww(h:mtI cm fns gns sc N (.enm es) e=true):∃ p y ys cp,e=.Call (.Name "enumerate" p) (y::ys) [] cp/\glB sc "enumerate" = true/\mts cm fns gns sc N es (y::ys)=true:=by
 simp only[mtI] at h;exact Xu7 h
theorem Xwx(h:mtI cm fns gns sc N (.rng es) e=true):∃ p y ys cp,e=.Call (.Name "range" p) (y::ys) [] cp/\glB sc "range" = true/\mts cm fns gns sc N es (y::ys)=true:=by
 simp only[mtI] at h;exact Xu7 h
theorem X1c{f:Ex}{es:Exs}{e:Expr}(h:mt cm fns gns sc N (.cal f es) e=true):∃ fx y ys cp,e=.Call fx (y::ys) [] cp/\cm=true/\Xsn fx=true/\mt cm fns gns sc N f fx=true/\mts cm fns gns sc N es (y::ys)=true:=by
 simp only[mt] at h;obtain⟨⟨fx,y,ys,cp⟩,h1,h2⟩:=Xc h;have e1:=Xhm h1;subst e1;rw[bA0,bA0,bA0] at h2;exact⟨fx,y,ys,cp,rfl,h2.1.1.1,h2.1.1.2,h2.1.2,h2.2⟩
theorem X1d{a:Ex}{e:Expr}(h:mt cm fns gns sc N (.rev a) e=true):∃ x y p,e=.Subscript x y p/\Xn8 1 none y=true/\mt cm fns gns sc N a x=true:=by
 simp only[mt] at h;obtain⟨⟨x,y⟩,h1,h2⟩:=Xc h;obtain⟨p,rfl⟩:=Xeu h1;rw[bA0] at h2;exact⟨x,y,p,rfl,h2.1,h2.2⟩
theorem Xgg{top:Str->Bool}{tg:Expr}(h1:Xd0 t it=true)(h2:mtT top sc N t tg=true)(h3:Xn7 it=true):∃ es k p,tg=.Tuple es k p:=by
 unfold Xd0 at h1;rw[h3] at h1;cases t with
 | var i=>cases h1
 | tup is =>
  simp only[mtT] at h2;obtain⟨es,h4,_⟩:=Xc h2;obtain⟨k,p,rfl⟩:=Xcf h4;exact⟨es,k,p,rfl⟩
end
noncomputable def blts:List Str:=["len","tuple","list","all","any","sum","max","min","range","isinstance","sorted","set","str","repr","zip","enumerate","abs","ValueError","int","bool","dict"]
noncomputable def bmV:List Value:=[.type "ValueError",.type "Exception",.type "BaseException",.type "object"]
noncomputable def Xst(K:PySem.W.Frag):Bool :=
 (K.lookup sysModules).isSome&&PySem.W.specialIn K (.builtin "object.__class__") "__get__" == some (some (.builtin "getset_descriptor.__get__"))&&PySem.W.takesIn K (.builtin "object.__class__")==some true &&
 (List.range clsNames.length).all fun c=>match Xah K c with
  | some C=>PySem.W.excIn K C bmV "ValueError.__new__" && (PySem.W.findIn K (.ref C) "__getattribute__" == some (some (.builtin "BaseException.__getattribute__"))&&PySem.W.findIn K (.ref C) "__getattr__" == some none&&PySem.W.mroIn K C (.type "BaseException")==some true)&&(PySem.W.clsIn K C).isSome&&PySem.W.findIn K (.ref C) "__class__" == some (some (.builtin "object.__class__"))&&PySem.W.mroIn K C (.type "object")==some true &&
   PySem.W.kitOne K (.ref C) (.type "ValueError")==some true&&(List.range clsNames.length).all fun c0=>match Xah K c0 with
    | some C0=>PySem.W.kitOne K (.ref C) (.ref C0)==some (c0==0||c0==c)&&(!(c0==0||c0==c)||PySem.W.exmOne K (.ref C) (.ref C0)==some true)
    | none=>true
  | none=>(Xbm c).isNone
structure ErrOk(K:PySem.W.Frag):Prop where
 sm:∃ o,K.lookup sysModules=some o
 gt:PySem.W.specialIn K (.builtin "object.__class__") "__get__" = some (some (.builtin "getset_descriptor.__get__"))
 tk:PySem.W.takesIn K (.builtin "object.__class__")=some true
 at_:∀ c nm,Xbm c=some nm->∃ C,Xah K c=some C/\PySem.W.nsIn K mainGlobals nm=some (some (.ref C))
 cls:∀ c C,Xah K c=some C->PySem.W.excIn K C bmV "ValueError.__new__" = true/\(PySem.W.findIn K (.ref C) "__getattribute__" = some (some (.builtin "BaseException.__getattribute__"))/\PySem.W.findIn K (.ref C) "__getattr__" = some none/\PySem.W.mroIn K C (.type "BaseException")=some true)/\(PySem.W.clsIn K C).isSome=true/\PySem.W.findIn K (.ref C) "__class__" = some (some (.builtin "object.__class__"))/\PySem.W.mroIn K C (.type "object")=some true/\PySem.W.kitOne K (.ref C) (.type "ValueError")=some true
 sub:∀ c C c0 C0,Xah K c=some C->Xah K c0=some C0->PySem.W.kitOne K (.ref C) (.ref C0)=some (c0==0||c0==c)/\((c0==0||c0==c)=true->PySem.W.exmOne K (.ref C) (.ref C0)=some true)
theorem Xfn{K:PySem.W.Frag}{c:Nat}{C:Addr}(h:Xah K c=some C):c<clsNames.length:=by
 unfold Xah at h;cases q:Xbm c with
 | none=>rw[q] at h;cases h
 | some _=>exact Xj0 q
theorem Xwy{K:PySem.W.Frag}(h:Xst K=true):ErrOk K:=by
 simp only[Xst,bA0,beq_iff_eq,List.all_eq_true,List.mem_range] at h;obtain⟨⟨⟨h0,h1⟩,h2⟩,h3⟩:=h;refine⟨Option.isSome_iff_exists.mp h0,h1,h2,fun c nm e=>?_,fun c C e=>?_,fun c C c0 C0 e e0=>?_⟩
 ·have:=h3 c (Xj0 e)
  split at this
  ·rename_i C q
   refine⟨C,q,?_⟩;unfold Xah at q;rw[e,Option.bind_some] at q;split at q
   ·rename_i q2;cases q;exact q2
   ·cases q
  ·rw[e] at this;cases this
 ·have:=h3 c (Xfn e)
  rw[e] at this;simp only[bA0,beq_iff_eq] at this;obtain⟨⟨⟨⟨⟨⟨a1,⟨⟨a2,a2'⟩,a2''⟩⟩,a3⟩,a4⟩,a5⟩,a6⟩,_⟩:=this;exact⟨a1,⟨a2,a2',a2''⟩,a3,a4,a5,a6⟩
 ·have:=h3 c (Xfn e)
  rw[e] at this;simp only[bA0,beq_iff_eq,List.all_eq_true,List.mem_range] at this;have z:=this.2 c0 (Xfn e0);rw[e0] at z;simp only[bA0,beq_iff_eq,Bool.or_eq_true,Bool.not_eq_true'] at z;refine⟨z.1,fun y=>?_⟩
  rcases z.2 with z2|z2
  ·rw[y] at z2;cases z2
  ·exact z2
end Z
end
section
namespace Z
open PySem PySem.Spec PySem.Calls PyProof.Rows L2 PySem.W Builtin Builtin.ObjectAttr Builtin.Getset_descriptor
section
variable{prog:Program}{w:World}{A:Around}{E:Value->Shared->Prop}{K:Frag}{y D:Addr}
theorem Xcp(e:ExcO D y h):Looks M h (typeOf (.ref y)) (.ref D):=by
 obtain⟨ob,_,_,q,cl,_⟩:=e;exact cl▸(Looks.ld q).andThen .now
theorem Xwz {R:Result->Shared->Prop} (hK:K.In s.heap) (e:ExcO D y s.heap) (mo:mroIn K D (.type "object")=some true) (q:R (.ok (.ret (.ref D))) s) :
  codeAny (model prog w) A (.call (.builtin "getset_descriptor.__get__") ⟨[.builtin "object.__class__",.ref y,tv],[]⟩) R s:=by
 obtain⟨hp,gn,dw,tk,os⟩:=s;have T0:=Xcp (M:=model prog w) e;have T1:=looks_mroIn (M:=model prog w) hK mo;refine codeAny_call_builtin KF.slot_gs.plain KF.entry_gs (KF.slot_gs.check _ _ _ _ _ _ _ _ KF.type_class (KF.args_gs _ _ _) ?_);unfold Builtin.«getset_descriptor.__get__» descrGet;rw[dga_obj];refine wpAny_bind (wpAny_pure ?_);unfold descrGetter descrCheckInstance descrNameAndClass isInstance;simp only[KF.owner_class]
 repeat lk
 refine⟨Code.quiet_builtin _ (by decide+kernel),codeAny_builtin KF.entry_class ?_⟩
 unfold Builtin.«object.__class__» shownTypeOf
 repeat lk
 exact q
theorem Xsu (hK:K.In h) (h1:findIn K (.ref D) nm=some (some v)) (h2:specialIn K v "__get__" = some (some g)) (h3:takesIn K v=some true):Looks M h (find (.ref y) (.ref D) nm) (.bind g v):=by
 have a1:=looks_findIn (M:=M) hK h1;have a2:Looks M h (getOf (some v)) (some g):=looks_specialIn hK h2;have a3:=looks_takesIn (M:=M) hK h3;exact a1.andThen (a2.andThen ((show Looks M h (dataDescriptor? (some v) (some g)) (some (g,v)) from a3.andThen .now).andThen (Looks.tag .now)))
theorem Xqn (hK:K.In s.heap) (e:ExcO D y s.heap) (h1:findIn K (.ref D) nm=some (some v)) (h2:specialIn K v "__get__" = some (some g)) (h3:takesIn K v=some true)
  (z:wpAny (model prog w) A (call g [v,.ref y,.ref D]) (fun r s1=>Q (.done (.ret r)) s1) E s) :
  wpAny (model prog w) A (Builtin.«object.__getattribute__» ⟨[.ref y,.str nm tk],[]⟩) Q E s:=by
 obtain⟨hp,gn,dw,t0,os⟩:=s;have T0:=Xcp (M:=model prog w) e;have T1:=Xsu (M:=model prog w) (y:=y) hK h1 h2 h3;unfold Builtin.«object.__getattribute__»;refine wpAny_bind (wpAny_pure ?_);refine wpAny_bind (wpAny_pure ?_);refine wpAny_bind (T0.at (wpAny_bind (T1.at ?_)));show wpAny (model prog w) A (holding [v] (call g [v,.ref y,.ref D]) >>= ret) _ _ _;exact wpAny_bind (wpAny_holding (wpAny_mono z (fun r s1 q=>wpAny_pure q) fun _ _ q=>q))
theorem Xqo (hK:K.In s.heap) (e:ExcO D y s.heap) (hm:mroIn K D (.type "BaseException")=some true) (q:Q () s) :
  wpAny (model prog w) A (checkBuiltinCall "BaseException.__getattribute__" ⟨[.ref y,nv],[]⟩) Q E s:=by
 obtain⟨hp,gn,dw,t0,os⟩:=s;have T0:=Xcp (M:=model prog w) e;have T3:=looks_mroIn (M:=model prog w) hK hm;have kd:builtinKind "BaseException.__getattribute__" = some .slot:=by decide+kernel
 have sp:splitId "BaseException.__getattribute__" = some ("BaseException","__getattribute__"):=by decide+kernel
 have ao:=PySem.F.args_bexc_ga (.ref y) nv;simp only[checkBuiltinCall,kd,sp];unfold isInstance;refine wpAny_bind (wpAny_bind (T0.at (T3.at ?_)));rw[if_neg (by decide)]
 exact wpAny_of_eq ao q
theorem Xsv (hK:K.In s.heap) (e:ExcO D y s.heap) (ga:findIn K (.ref D) "__getattribute__" = some (some (.builtin "BaseException.__getattribute__"))) (gn:findIn K (.ref D) "__getattr__" = some none)
  (hm:mroIn K D (.type "BaseException")=some true) (h1:findIn K (.ref D) nm=some (some v)) (h2:specialIn K v "__get__" = some (some g)) (h3:takesIn K v=some true) (hh:handedIn (.ref D)=true)
  (z:∀ A':Around,wpAny (model prog w) A' (call g [v,.ref y,.ref D]) (fun r s1=>r=.ref D/\Q (some (.ref D)) s1) (fun _ _=>False) { s with toks:=s.toks+1 }) :
  wpAny (model prog w) A (getAttr? (.ref y) nm) Q E s:=by
 obtain⟨hp,gs,dw,tk,os⟩:=s;have T0:=Xcp (M:=model prog w) e;have T1:=looks_findIn (M:=model prog w) hK ga;have T2:=looks_findIn (M:=model prog w) hK gn;have T3:=looks_mroIn (M:=model prog w) hK hm;unfold getAttr? getAttrBy? getAttrBy;refine wpAny_bind (wpAny_mkText (wpAny_bind (wpAny_attempt (wpAny_holding (wpAny_bind (T0.at (wpAny_bind (T1.at ?_))))))));have hno:(onTheHeap (Value.ref D)&&Value.builtin "BaseException.__getattribute__" == Value.builtin "object.__getattribute__")=false:=by
  have:(Value.builtin "BaseException.__getattribute__" == Value.builtin "object.__getattribute__")=false:=by decide+kernel
  rw[this,Bool.and_false]
 dsimp only;rw[if_neg (by rw[hno];exact Bool.false_ne_true)]
 unfold getAttrByItsOwn hookBefore;rw[if_pos (by rfl)]
 refine wpAny_bind (T2.at (wpAny_bind (wpAny_attempt (wpAny_holding ?_))));unfold callGetattribute boundAndCalled;rw[if_neg (by simp)]
 have f3:=PySem.F.excAttr_ValueError.ga.bind (.ref y);rw[f3];refine wpAny_bind (wpAny_pure ?_);refine wpAny_call (codeAny_call_builtin PySem.F.excAttr_ValueError.ga.plain PySem.F.entry_bexc_ga (Xqo (s:=⟨hp,gs,dw,tk+1,os⟩) hK e hm ?_));refine Xqn (s:=⟨hp,gs,dw,tk+1,os⟩) hK e h1 h2 h3 (wpAny_mono (z _) (fun r s1 q=>?_) fun _ _ q=>q.elim)
 obtain⟨rfl,q⟩:=q;exact handed_on hh (wpAny_pure q)
theorem Xsw (p1:findIn K (.ref D) "__getattribute__" = some (some (.builtin "BaseException.__getattribute__"))) (p0:findIn K (.ref D) "__getattr__" = some none) (p7:mroIn K D (.type "BaseException")=some true) (p2:(clsIn K D).isSome=true) (p3:findIn K (.ref D) "__class__" = some (some (.builtin "object.__class__")))
  (p4:specialIn K (.builtin "object.__class__") "__get__" = some (some (.builtin "getset_descriptor.__get__"))) (p5:takesIn K (.builtin "object.__class__")=some true) (p6:mroIn K D (.type "object")=some true):KitX K (.ref y) (.ref D) (ExcO D y) where
 ty:=fun _ _ _ e=>Xcp e
 it:=fun _ _ hK _=>by
  unfold clsIn at p2;split at p2
  ·rename_i lk
   intro B Q' E' s' k q;unfold isType loadHead;exact wpAny_bind (wpAny_loadPart (k _ _ (hK _ _ lk)) (wpAny_pure q))
  ·cases p2
 ne:=fun hp tp dd its n sl hK ht=>by
  refine Bool.eq_false_iff.mpr fun q=>?_
  have q':D=tp:=Value.ref.inj (beq_iff_eq.mp q);subst q';unfold clsIn at p2;split at p2
  ·rename_i lk
   cases (hK _ _ lk).symm.trans ht
  ·cases p2
 ca:=fun {prog w B E' Q' s'} hK e k=>Xsv hK e p1 p0 p7 p3 p4 p5 rfl fun A'=>wpAny_call (Xwz (s:={ s' with toks:=s'.toks+1 }) hK e p6 ⟨rfl,k⟩)
end
end Z
end
section
namespace Z
open PySem PySem.Spec PyProof.Rows L2
noncomputable def Xbs:Ty->Option (Str×String)
 | .int=>some ("int","int")
 | .bool=>some ("bool","bool")
 | .str=>some ("str","str")
 | .tuple=>some ("tuple","tuple")
 | .list=>some ("list","list")
 | .dict=>some ("dict","dict")
 | _=>none
noncomputable def Xfo:Kd->Option String
 | .non=>some "NoneType"
 | .bool=>some "bool"
 | .int=>some "int"
 | .str=>some "str"
 | .tuple=>some "tuple"
 | .list=>some "list"
 | .dict=>some "dict"
 | .exc _=>none
theorem Xef(h:Xbs t=some (nm,T)):bootBuiltins nm=some (.type T):=by
 cases t<;>simp only[Xbs,Option.some.injEq,Prod.mk.injEq,reduceCtorEq] at h<;>obtain⟨rfl,rfl⟩:=h<;>decide+kernel
theorem Xfp(h:Xbs t=some (nm,T)):nm∈blts:=by
 cases t<;>simp only[Xbs,Option.some.injEq,Prod.mk.injEq,reduceCtorEq] at h<;>obtain⟨rfl,rfl⟩:=h<;>decide
theorem Xhn(ht:Xbs t=some (nm,T))(hk:Xfo k=some U)(h:isT k t=some b)(K:PySem.W.Frag):PySem.W.kitOne K (.type U) (.type T)=some b:=by
 cases k<;>simp only[Xfo,Option.some.injEq,reduceCtorEq] at hk<;>subst hk<;>cases t<;>simp only[Xbs,Option.some.injEq,Prod.mk.injEq,reduceCtorEq] at ht<;>obtain⟨rfl,rfl⟩:=ht<;>simp only[isT,Option.some.injEq] at h<;>subst h<;>kernel_rfl
section
variable{X:Cx}{pins:List (Addr×Obj)}{σ:L2.St}{H:Hp}{s:Shared}{ρ:List Addr}{S S':Sto}{env:En}{a:Expr}{fa:En->Sto->R D}{pos:Pos}
theorem Xu8(I:S0 X pins σ H s ρ S env)(h:kdD S d=some k)(hU:Xfo k=some U)(rd:RD X.K ρ H d v)(rv:RelV v u) :
  ∃ P:Heap->Prop,PySem.W.KitX X.K u (.type U) P/\P s.heap/\u≠.builtin "__main__.__loader__#opaque" := by
 cases d with
 | non=>cases h;cases hU;simp only[RD] at rd;subst rd;cases rv;exact⟨_,PySem.W.kitx_none,trivial,fun z=>nomatch z⟩
 | bl b=>cases h;cases hU;simp only[RD] at rd;subst rd;cases rv;exact⟨_,PySem.W.kitx_bool,trivial,fun z=>nomatch z⟩
 | int i=>cases h;cases hU;simp only[RD] at rd;subst rd;obtain⟨t,rfl⟩:=rv;exact⟨_,PySem.W.kitx_int,trivial,fun z=>nomatch z⟩
 | str x=>cases h;cases hU;simp only[RD] at rd;subst rd;obtain⟨t,rfl⟩:=rv;exact⟨_,PySem.W.kitx_str,trivial,fun z=>nomatch z⟩
 | tup xs =>
  cases h;cases hU;simp only[RD] at rd;obtain⟨p,vs,rfl,hq,_⟩:=rd;cases rv;obtain⟨its,_,pl,_⟩:=I.inv.tuple hq;obtain⟨o,h1,h2,_⟩:=pl;exact⟨_,PySem.W.kitx_tuple,⟨o,h1,h2⟩,fun z=>nomatch z⟩
 | fro xs =>
  cases h;cases hU;simp only[RD] at rd;obtain⟨p,vs,rfl,hq,_⟩:=rd;cases rv;obtain⟨its,_,pl,_⟩:=I.inv.list hq.sq;obtain⟨o,n,h1,h2,_⟩:=pl;exact⟨_,PySem.W.kitx_list,⟨o,h1,h2⟩,fun z=>nomatch z⟩
 | fn _ _=>cases h
 | ref n =>
  simp only[kdD] at h;simp only[RD] at rd;obtain⟨p,rfl,hp⟩:=rd;cases rv;split at h
  ·rename_i xs e
   cases h;cases hU;obtain⟨vs,hv,_⟩:=I.sr.ob n p _ hp e;obtain⟨_,its,n',_,h1⟩:=(show ObjOk X.prog X.w H s.heap p (.lst vs) from I.inv.hok p _ hv);exact⟨_,PySem.W.kitx_list,⟨_,h1,rfl⟩,fun z=>nomatch z⟩
  ·rename_i xs e
   cases h;cases hU;obtain⟨_,hv⟩:=I.sr.ob n p _ hp e;obtain⟨_,_,vs,_,o,es,ep,h1,h2,_⟩:=(show ObjOk X.prog X.w H s.heap p (.dK []) from I.inv.hok p _ hv);exact⟨_,PySem.W.kitx_dict,⟨o,h1,h2.1⟩,fun z=>nomatch z⟩
  ·cases h;cases hU
  ·cases h
theorem Xdf (ht:Xbs t=some (nm,T)) (hb:∀ x∈blts,X.mg x=none) (hg0:Gl X "isinstance") (hg:Gl X nm) (hok:Xab nm=true) (ha:DE X a fa) (hst:Yw a=true) :
  DE X (.Call (.Name "isinstance" p0) [a,.Name nm p1] [] pos) (fun env S=>(fa env S).bind fun x S=>match (kdD S x).bind fun k=>Yu k [t] with|some r=>.ok (.bl r) S|none=>.bad):=by
 intro pins s σ H ρ S env I nb;dsimp only at nb ⊢;obtain⟨o1,_,o3⟩:=Xat hok;refine wpAny_Call_Name_kw (Xaj I.inv hg0 (hb _ (by decide)) (u:=.builtin "isinstance") (by decide+kernel) ?_)
 refine PyProof.Rows.callWith_builtin1 ?_ (Xs hst) rfl;rw[Xs hst];generalize hr:((fa env S).bind fun x S=>match (kdD S x).bind fun k=>Yu k [t] with|some r=>R.ok (D.bl r) S|none=>R.bad)=r at nb ⊢
 refine Calls.spliced_cons (ha.bind I (by rw[hr];exact nb) hr.symm (fun d S1 u s1 v H1 ρ1 e1 nb1 I1 rv rd st1=>?_) fun _ _ z=>z)
 refine Calls.spliced_cons (Xaj I1.inv hg (hb _ (Xfp ht)) (Xef ht) ?_ o3 o1);refine Calls.spliced_nil ?_;cases q:(kdD S1 d).bind fun k=>Yu k [t] with
 | none=>rw[q] at nb1;exact absurd rfl nb1
 | some b =>
  obtain⟨k,q1,q2⟩:=Option.bind_eq_some_iff.mp q;have q3:isT k t=some b:=by
   unfold Yu at q2;cases e:isT k t with
   | none=>rw[e] at q2;cases q2
   | some c=>rw[e] at q2;cases c<;>simp[Yu] at q2<;>rw[q2]
  rw[e1,q];cases hU:Xfo k with
  | none=>cases k<;>simp only[Xfo,reduceCtorEq] at hU;cases t<;>simp only[Xbs,reduceCtorEq] at ht<;>simp only[isT,reduceCtorEq] at q3
  | some U =>
   obtain⟨P,k1,k2,k3⟩:=Xu8 I1 q1 hU rd rv;exact PySem.W.kia_one k1 I1.inv.kIn k2 (Xhn ht hU q3 X.K) k3 fun tk=>OkP.pre st1 (Xj I1.sr (I1.inv.tok tk))
theorem Xqp (er:ErrOk X.K) (ht:(∃ c,t=.cls c/\Xbm c=some nm)\/(t=.valueError/\nm = "ValueError")) (hb:∀ x∈blts,X.mg x=none) (hg0:Gl X "isinstance") (hg:Gl X nm) (hok:Xab nm=true) (ha:DE X a fa) (hst:Yw a=true) :
  DE X (.Call (.Name "isinstance" p0) [a,.Name nm p1] [] pos) (fun env S=>(fa env S).bind fun x S=>match (kdD S x).bind fun k=>Yu k [t] with|some r=>.ok (.bl r) S|none=>.bad):=by
 intro pins s σ H ρ S env I nb;dsimp only at nb ⊢;obtain⟨o1,_,o3⟩:=Xat hok;refine wpAny_Call_Name_kw (Xaj I.inv hg0 (hb _ (by decide)) (u:=.builtin "isinstance") (by decide+kernel) ?_)
 refine PyProof.Rows.callWith_builtin1 ?_ (Xs hst) rfl;rw[Xs hst];generalize hr:((fa env S).bind fun x S=>match (kdD S x).bind fun k=>Yu k [t] with|some r=>R.ok (D.bl r) S|none=>R.bad)=r at nb ⊢
 refine Calls.spliced_cons (ha.bind I (by rw[hr];exact nb) hr.symm (fun d S1 u s1 v H1 ρ1 e1 nb1 I1 rv rd st1=>?_) fun _ _ z=>z)
 /- the value is an error -/
 cases q:(kdD S1 d).bind fun k=>Yu k [t] with
 | none=>rw[q] at nb1;exact absurd rfl nb1
 | some b =>
  rw[e1,q];obtain⟨k,q1,q2⟩:=Option.bind_eq_some_iff.mp q;have q3:isT k t=some b:=by
   unfold Yu at q2;cases e:isT k t with
   | none=>rw[e] at q2;cases q2
   | some c=>rw[e] at q2;cases c<;>simp[Yu] at q2<;>rw[q2]
  obtain⟨c',rfl⟩:∃ c',k=.exc c':=by
   rcases ht with⟨c,rfl,_⟩|⟨rfl,_⟩<;>cases k<;>first|exact⟨_,rfl⟩|(simp only[isT,reduceCtorEq] at q3)
  obtain⟨n,rfl,hS⟩:∃ n,d=.ref n/\S1[n]?=some (.exc c'):=by
   cases d with
   | ref n =>
    refine⟨n,rfl,?_⟩;simp only[kdD] at q1;split at q1
    ·cases q1
    ·cases q1
    ·rename_i c2 e;cases q1;exact e
    ·cases q1
   | _=>cases q1
  simp only[RD] at rd;obtain⟨p,rfl,hp⟩:=rd;cases rv;obtain⟨C,hC,hH⟩:=(show ∃ C,Xah X.K c'=some C/\H1 p=some (.ext (ExcO C p)) from I1.sr.ob n p _ hp hS);obtain⟨_,⟨b1,b2,b3⟩,a3,a4,a5,a6⟩:=er.cls c' C hC;have hE:ExcO C p s1.heap:=(show ObjOk X.prog X.w H1 s1.heap p (.ext (ExcO C p)) from I1.inv.hok p _ hH).1;have kx:=Xsw (y:=p) b1 b2 b3 a3 a4 er.gt er.tk a5;rcases ht with⟨c,rfl,hc⟩|⟨rfl,rfl⟩
  ·obtain⟨C0,h1,h2⟩:=er.at_ c nm hc
   have e3:b=(c==0||c==c'):=by simp only[isT,Option.some.injEq] at q3;exact q3.symm
   subst e3;refine Calls.spliced_cons (Xdc I1.inv hg (PySem.W.mg_of I1.inv.mod.kin I1.inv.mod.glob h2) (Calls.spliced_nil ?_) o1);exact PySem.W.kia_one kx I1.inv.kIn hE (er.sub c' C c C0 hC h1).1 (fun z=>nomatch z) fun tk=>OkP.pre st1 (Xj I1.sr (I1.inv.tok tk))
  ·have e3:b=true:=by simp only[isT,Option.some.injEq] at q3;exact q3.symm
   subst e3;refine Calls.spliced_cons (Xaj I1.inv hg (hb _ (by decide)) (u:=.type "ValueError") (by decide+kernel) (Calls.spliced_nil ?_) o3 o1)
   exact PySem.W.kia_one kx I1.inv.kIn hE a6 (fun z=>nomatch z) fun tk=>OkP.pre st1 (Xj I1.sr (I1.inv.tok tk))
end
theorem Xsx(I:Inv X pins σ H s):sysModules<s.heap.objs.size:=by
 have hm:=(I.mod.glob.keeps I.bk).lt;exact Nat.lt_of_lt_of_le (show sysModules<mainGlobals from by decide) (Nat.le_of_lt hm)
theorem d_dct0:DE X (.Dict [] [] pos) (fun _ S=>.ok (.ref S.length) (S++[.dct []])):=by
 intro pins s σ H ρ S env I _;have hp:H s.heap.objs.size=none:=I.inv.hok.fresh (Nat.le_refl _);have hb:=Xsx I.inv;have new:ObjOk X.prog X.w (upd H s.heap.objs.size (.dK [])) (s.heap.push { cls:=.type "dict",data:=.dict #[] }) s.heap.objs.size (.dK []) :=
  ⟨Nat.zero_le _,beq_eq_false_iff_ne.mpr (fun z=>by rw[z] at hb;exact absurd hb (Nat.lt_irrefl _)),[],.nil,Heap.DictOf.new s.heap⟩
 have J:=I.inv.laid (t':=s.toks) (fun b u e=>Heap.get?_push_of_some _ e) (Nat.le_refl _) new
 refine wpAny_Dict_empty ?_;refine .mk (v:=.ref s.heap.objs.size) (ρ':=ρ++[s.heap.objs.size]) (Stp.new1 hp) J rfl ?_ (I.sr.new1 (o:=.dct []) hp ⟨rfl,Yb⟩);simp only[RD];exact⟨_,rfl,by rw[<- I.sr.len];simp⟩
theorem Xev(n d:Nat)(o:Option Int):Xhc n d o=HT.sIx n d o:=by
 cases o with
 | none=>rfl
 | some i =>
  simp only[Xhc,HT.sIx]
  by_cases h:i<0
  ·rw[if_pos h,if_neg (by omega)]
  ·rw[if_neg h,if_pos (by omega)]
theorem Xqq{K:PySem.W.Frag}{ρ:List Addr}{H:Hp}{xs:List D}{vs:List V}(h:RDs K ρ H xs vs)(lo hi:Option Int):RDs K ρ H (cut xs lo hi) (Xg8 vs lo hi):=by
 unfold cut Xg8;rw[Xev,Xev,h.length];exact(h.drop _).take _
section
variable{prog:Program}{w:World}{A:Around}{E:Value->Shared->Prop}{s:Shared}
theorem Xlp{items:Array Value}{lo hi:Option Int}{Q:Value->Shared->Prop}(ht:IsTup s.heap t items)(hs:s.heap.IsSliceOf sl vl vu .none)(pl:IsPart vl lo)(pu:IsPart vu hi)
  (h1:HT.sIx items.size 0 lo=0) (h2:HT.sIx items.size items.size hi=items.size) (h:Q (.ref t) s):wpAny (model prog w) A (getItem (.ref t) (.ref sl)) Q E s:=by
 obtain⟨os,hos,hcs,hds⟩:=id hs;have hTs:s.TypeIs (.ref sl) "slice" := ⟨os,hos,hcs⟩;unfold getItem
 try with_reducible refine wpAny_holding ?_
 first|refine wpAny_bind (wpAny_pure ?_)|skip
 refine wpAny_bind (wpAny_sequenceKey ht.typeIs (by decide) (wpAny_bind (wpAny_callSpecial?_slot (name:=Str.ofString "__getitem__") ht.typeIs PyProof.Rows.slot_tuple_getitem (wpAny_call_entry PyProof.Rows.slot_tuple_getitem ht.typeIs entry_tuple_getitem ?_ (args_tuple_getitem _ _)))))
 show wpAny _ _ (Builtin.Tuple.tupleItemsOf (.ref t) >>= _) _ _ s;refine wpAny_bind (tupleItemsOf_ ht (wpAny_bind (wpAny_typeOf hTs ?_)));rw[if_pos (by decide)]
 refine wpAny_bind (HT.sliceApplied_gen hs pl pu ?_);show wpAny _ _ (if (((HT.sIx items.size 0 lo:Nat):Int)==0&&(1:Int)==1&&(HT.sIx items.size items.size hi-HT.sIx items.size 0 lo)==items.size)=true then _ else _) _ _ s
 rw[h1,h2,if_pos (by simp)]
 refine wpAny_bind ?_;unfold Builtin.Tuple.tupleIsExact;refine wpAny_bind (wpAny_typeOf ht.typeIs (wpAny_pure ?_));rw[if_pos (by decide)]
 exact wpAny_bind (wpAny_rule (wpAny_pure ⟨_,rfl,wpAny_pure h⟩))
end
def PartR(K:PySem.W.Frag)(ρ:List Addr)(H:Hp)(o:Option D)(u:Value):Prop:=match o with
 | none=>u=.none
 | some d=>∃ v,RelV v u/\RD K ρ H d v
def DO(X:Cx)(e:Option Expr)(f:En->Sto->R (Option D)):Prop :=
 ∀ (pins:List (Addr×Obj)) (s:Shared) (σ:L2.St) (H:Hp) (ρ:List Addr) (S:Sto) (env:En),S0 X pins σ H s ρ S env->f env S≠.bad ->
  wpAny (model X.prog X.w) X.A (evalPart e X.env) (fun u s'=>∃ o S',f env S=.ok o S'/\∃ H' ρ',Inv X pins σ H' s'/\SR X.K ρ' S' H'/\Stp X.K ρ ρ' H H'/\PartR X.K ρ' H' o u) (ExP X pins σ ρ H (f env S)) s
section
variable{X:Cx}{pins:List (Addr×Obj)}{σ:L2.St}{H:Hp}{s:Shared}{ρ:List Addr}{S S':Sto}{env:En}{a:Expr}{fa:En->Sto->R D}{pos p2:Pos}
theorem Xmr:DO X none (fun _ S=>.ok none S):=by
 intro pins s σ H ρ S env I nb;rw[evalPart_none];exact wpAny_pure ⟨none,S,rfl,H,ρ,I.inv,I.sr,.refl,rfl⟩
theorem Xms(h:DE X a fa):DO X (some a) (fun env S=>(fa env S).bind fun x S=>.ok (some x) S):=by
 intro pins s σ H ρ S env I nb;dsimp only at nb ⊢;rw[evalPart_some];refine h.bind I nb rfl (fun d S1 u s1 v H1 ρ1 e1 nb1 I1 rv rd st1=>?_) fun _ _ z=>z
 exact⟨some d,S1,e1,H1,ρ1,I1.inv,I1.sr,st1,v,rv,rd⟩
theorem DO.bind{α:Type}{e:Option Expr}{f:En->Sto->R (Option D)}(h:DO X e f)(I:S0 X pins σ H s ρ S env){k:Option D->Sto->R α}{r:R α}{Q:Value->Shared->Prop}{E:Value->Shared->Prop}(nb:(f env S).bind k≠.bad)(hr:r=(f env S).bind k)
  (hQ:∀ o S1 u s' H' ρ',r=k o S1->k o S1≠.bad->S0 X pins σ H' s' ρ' S1 env->PartR X.K ρ' H' o u->Stp X.K ρ ρ' H H'->Q u s') (hE:∀ x s',ExP X pins σ ρ H r x s'->E x s'):wpAny (model X.prog X.w) X.A (evalPart e X.env) Q E s:=by
 cases q:f env S with
 | bad=>rw[q] at nb;exact absurd rfl nb
 | ex n S1 =>
  rw[q] at hr;refine wpAny_mono (h pins s σ H ρ S env I (by rw[q];exact fun z=>nomatch z)) (fun u s' z=>?_) fun x s' z=>?_
  ·obtain⟨o,S2,e,_⟩:=z;rw[q] at e;cases e
  ·obtain⟨m,S2,e,z⟩:=z;rw[q] at e;cases e;exact hE x s' ⟨n,S1,hr,z⟩
 | ok o S1 =>
  rw[q] at hr nb;refine wpAny_mono (h pins s σ H ρ S env I (by rw[q];exact fun z=>nomatch z)) (fun u s' z=>?_) fun x s' z=>?_
  ·obtain⟨o',S2,e,H',ρ',J,sr,st,pr⟩:=z
   rw[q] at e;cases e;exact hQ o S1 u s' H' ρ' hr nb (I.step J sr st) pr st
  ·obtain⟨m,S2,e,z⟩:=z;rw[q] at e;cases e
theorem Xew{K:PySem.W.Frag}{o:Option D}{u:Value}{oi:Option Int}(h:PartR K ρ H o u)(e:Xbk o=some oi):IsPart u oi:=by
 cases o with
 | none =>
  have e':some none=some oi:=e;cases e';have h':u=.none:=h;subst h';exact .none
 | some d =>
  cases d with
  | int i =>
   have e':some (some i)=some oi:=e;cases e';obtain⟨v,rv,rd⟩:=h;simp only[RD] at rd;subst rd;obtain⟨t,rfl⟩:=rv;exact .int i t
  | _=>cases e
theorem PartR.mono{K:PySem.W.Frag}{ρ':List Addr}{H':Hp}{o:Option D}{u:Value}(h:PartR K ρ H o u)(st:Stp K ρ ρ' H H'):PartR K ρ' H' o u:=by
 cases o with
 | none=>exact h
 | some d=>obtain⟨v,rv,rd⟩:=h;exact⟨v,rv,rd.mono st⟩
theorem X32{lo hi:Option Expr}{fl fh:En->Sto->R (Option D)}(ha:DE X a fa)(hl:DO X lo fl)(hh:DO X hi fh) :
  DE X (.Subscript a (.Slice lo hi none p2) pos) (fun env S=>(fa env S).bind fun x S=>(fl env S).bind fun l S=>(fh env S).bind fun h S=>match Xbk l,Xbk h with
   | some l,some h=>Xax x l h S
   | _,_=>.bad):=by
 intro pins s σ H ρ S env I nb;dsimp only at nb ⊢;refine Subscript_ (ha.bind I nb rfl (fun d S1 u s1 v H1 ρ1 e1 nb1 I1 rv rd st1=>?_) fun _ _ z=>z)
 rw[e1];refine wpAny_Slice (hl.bind I1 nb1 rfl (fun l S2 vl s2 H2 ρ2 e2 nb2 I2 pl st2=>?_) fun x s' z=>z.pre st1)
 rw[e2];refine hh.bind I2 nb2 rfl (fun h S3 vu s3 H3 ρ3 e3 nb3 I3 pu st3=>?_) fun x s' z=>(z.pre st2).pre st1
 rw[e3];cases q1:Xbk l with
 | none=>rw[q1] at nb3;exact absurd rfl nb3
 | some li =>
  cases q2:Xbk h with
  | none=>rw[q1,q2] at nb3;exact absurd rfl nb3
  | some hi' =>
   rw[q1,q2] at nb3;dsimp only at nb3 ⊢;rw[evalPart_none];refine wpAny_pure ?_;have P1:=Xew pl q1;have P2:=Xew pu q2;have rd3:=(rd.mono st2).mono st3;have J:Inv X pins σ H3 { s3 with heap:=s3.heap.push { cls:=.type "slice",data:=.fields #[vl,vu,.none] } }:=I3.inv.kept (t':=s3.toks) fun b ob q=>Heap.get?_push_of_some _ q
   have fin:∀ {T id:String},typeLookup (.type T) "__getitem__" = pure (some (.builtin id))->({ s3 with heap:=s3.heap.push { cls:=.type "slice",data:=.fields #[vl,vu,.none] } }:Shared).TypeIs u T ->
     wpAny (model X.prog X.w) X.A (getItem u (.ref s3.heap.objs.size)) (OkP X pins σ ρ3 H3 (Xax d li hi' S3)) (ExP X pins σ ρ3 H3 (Xax d li hi' S3)) { s3 with heap:=s3.heap.push { cls:=.type "slice",data:=.fields #[vl,vu,.none] } } ->
     wpAny (model X.prog X.w) X.A (subscriptTail a (.Slice lo hi none p2) u (.ref s3.heap.objs.size)) (OkP X pins σ ρ H (Xax d li hi' S3)) (ExP X pins σ ρ H (Xax d li hi' S3)) { s3 with heap:=s3.heap.push { cls:=.type "slice",data:=.fields #[vl,vu,.none] } }:=fun t1 t2 g =>
    tail_any (ops:=[.ref s3.heap.objs.size,u]) t2 t1 (wpAny_mono g (fun _ _ z=>OkP.pre ((st1.trans st2).trans st3) z) fun _ _ z=>ExP.pre ((st1.trans st2).trans st3) z) (by with_unfolding_all rfl)
   cases d with
   | tup xs =>
    simp only[RD] at rd3;obtain⟨p,vs,rfl,hq,hr⟩:=rd3;cases rv;obtain⟨its,r,ht,hz⟩:=J.tuple hq;have hlen:its.toArray.size=vs.length:=by rw[List.size_toArray];exact r.length.symm
    refine fin PyProof.Rows.slot_tuple_getitem.lookup ht.typeIs ?_
    by_cases hw:HT.sIx vs.length 0 li=0/\HT.sIx vs.length vs.length hi'=vs.length
    ·refine Xlp ht (Heap.IsSliceOf.new ..) P1 P2 (by rw[hlen];exact hw.1) (by rw[hlen];exact hw.2) ?_
     have e:cut xs li hi'=xs:=by
      unfold cut;rw[Xev,Xev,hr.length,hw.1,hw.2,List.drop_zero,Nat.sub_zero,<- hr.length,List.take_length]
     refine .mk (v:=.ref p) .refl J rfl ?_ I3.sr;rw[e];simp only[RD];exact⟨p,vs,rfl,hq,hr⟩
    ·refine HT.getItem_tuple_cut ht (Heap.IsSliceOf.new ..) P1 P2 (by rw[hlen];exact hw) ?_ (by rw[hlen];exact hz)
     rw[hlen];refine Xcd (vs:=Xg8 vs li hi') (J.laid (t':=s3.toks) (fun b ob q=>Heap.get?_push_of_some _ q) (Nat.le_refl _) ?_) (J.hok.fresh (Nat.le_refl _)) I3.sr (Xqq hr li hi')
     exact⟨Nat.le_trans (Xe7 vs li hi') hz,_,(r.drop (HT.sIx vs.length 0 li)).take (HT.sIx vs.length vs.length hi'-HT.sIx vs.length 0 li),⟨_,Heap.get?_push_size _ rfl,rfl,_,rfl⟩⟩
   | ref n =>
    cases e4:Xb S3 n with
    | none=>simp[Xax,e4] at nb3
    | some xs =>
     obtain⟨b,vs,k1,k2,k3⟩:=I3.list e4;simp only[RD] at rd3;obtain⟨b',rfl,k4⟩:=rd3;rw[k1] at k4;cases k4;cases rv;obtain⟨its,r,ht,hz⟩:=J.list (.of k2);have hlen:=r.length;refine fin slot_list_getitem.lookup ht.isList.typeIs ?_;refine wpAny_getItem_list_slice ht.isList (Heap.IsSliceOf.new ..) P1 P2 .none (by simp) ?_ (by rw[List.size_toArray]<;>omega)
     rw[Xi6,<- hlen];have e5:Xax (.ref n) li hi' S3=.ok (.ref S3.length) (S3++[.lst (cut xs li hi')]):=by simp only[Xax,e4]
     rw[e5];refine Xbe (vs:=Xg8 vs li hi') (J.laid (t':=s3.toks) (fun b ob q=>Heap.get?_push_of_some _ q) (Nat.le_refl _) ?_) (J.hok.fresh (Nat.le_refl _)) I3.sr (Xqq k3 li hi')
     exact⟨Nat.le_trans (Xe7 vs li hi') hz,_,0,(r.drop (HT.sIx vs.length 0 li)).take (HT.sIx vs.length vs.length hi'-HT.sIx vs.length 0 li),Heap.get?_push_size _ rfl⟩
   | _=>exact absurd rfl nb3
end
theorem Xw0{K:PySem.W.Frag}{k:Kd}{t1 t2:Ty}{n1 n2:Str}{T1 T2 U:String}{b:Bool}(h1:Xbs t1=some (n1,T1))(h2:Xbs t2=some (n2,T2))(hk:Xfo k=some U)(h:Yu k [t1,t2]=some b) :
  PySem.W.kitAny K (.type U) [.type T1,.type T2]=some b:=by
 simp only[Yu] at h;unfold PySem.W.kitAny;cases e1:isT k t1 with
 | none=>rw[e1] at h;cases h
 | some c1 =>
  rw[e1] at h;rw[Xhn h1 hk e1 K];cases c1 with
  | true=>cases h;rfl
  | false =>
   dsimp only at h ⊢;unfold PySem.W.kitAny;cases e2:isT k t2 with
   | none=>rw[e2] at h;cases h
   | some c2 =>
    rw[e2] at h;rw[Xhn h2 hk e2 K];cases c2 with
    | true=>cases h;rfl
    | false=>cases h;rfl
section
variable{X:Cx}{pins:List (Addr×Obj)}{σ:L2.St}{H:Hp}{s:Shared}{ρ:List Addr}{S S':Sto}{env:En}{a:Expr}{fa:En->Sto->R D}{pos:Pos}
theorem X1e (h1:Xbs t1=some (n1,T1)) (h2:Xbs t2=some (n2,T2)) (hb:∀ x∈blts,X.mg x=none) (hg0:Gl X "isinstance") (g1:Gl X n1) (g2:Gl X n2) (o1:Xab n1=true) (o2:Xab n2=true) (ha:DE X a fa) (hst:Yw a=true) :
  DE X (.Call (.Name "isinstance" p0) [a,.Tuple [.Name n1 q1,.Name n2 q2] k3 p3] [] pos) (fun env S=>(fa env S).bind fun x S=>match (kdD S x).bind fun k=>Yu k [t1,t2] with|some r=>.ok (.bl r) S|none=>.bad):=by
 intro pins s σ H ρ S env I nb;dsimp only at nb ⊢;obtain⟨a1,_,a3⟩:=Xat o1;obtain⟨b1,_,b3⟩:=Xat o2;refine wpAny_Call_Name_kw (Xaj I.inv hg0 (hb _ (by decide)) (u:=.builtin "isinstance") (by decide+kernel) ?_)
 refine PyProof.Rows.callWith_builtin1 ?_ (Xs hst) rfl;rw[Xs hst];generalize hr:((fa env S).bind fun x S=>match (kdD S x).bind fun k=>Yu k [t1,t2] with|some r=>R.ok (D.bl r) S|none=>R.bad)=r at nb ⊢
 refine Calls.spliced_cons (ha.bind I (by rw[hr];exact nb) hr.symm (fun d S1 u s1 v H1 ρ1 e1 nb1 I1 rv rd st1=>?_) fun _ _ z=>z)
 refine Calls.spliced_cons (wpAny_Tuple_spliced (x1:=k3) (Calls.spliced_cons (Xaj I1.inv g1 (hb _ (Xfp h1)) (Xef h1) (Calls.spliced_cons (Xaj I1.inv g2 (hb _ (Xfp h2)) (Xef h2) (Calls.spliced_nil ⟨by show 2<=sizeLine;decide,?_⟩) b3 b1)) a3 a1)))
 refine Calls.spliced_nil ?_;cases q:(kdD S1 d).bind fun k=>Yu k [t1,t2] with
 | none=>rw[q] at nb1;exact absurd rfl nb1
 | some b =>
  obtain⟨k,k1,k2⟩:=Option.bind_eq_some_iff.mp q;rw[e1,q];have J:Inv X pins σ H1 { s1 with heap:=s1.heap.push { cls:=.type "tuple",data:=.seq #[.type T1,.type T2] } }:=I1.inv.kept (t':=s1.toks) fun b ob q=>Heap.get?_push_of_some _ q
  have I2:S0 X pins σ H1 { s1 with heap:=s1.heap.push { cls:=.type "tuple",data:=.seq #[.type T1,.type T2] } } ρ1 S1 env:=⟨J,I1.sr,I1.er⟩
  cases hU:Xfo k with
  | none =>
   cases k with
   | exc c =>
    simp only[Yu] at k2;have z:isT (.exc c) t1=none:=by cases t1<;>simp only[Xbs,reduceCtorEq] at h1<;>rfl
    rw[z] at k2;cases k2
   | _=>cases hU
  | some U =>
   obtain⟨P,z1,z2,z3⟩:=Xu8 I2 k1 hU rd rv;exact PySem.W.kia_tup (its:=[.type T1,.type T2]) z1 J.kIn z2 (Heap.get?_push_size _ rfl) (Xw0 h1 h2 hU k2) z3 fun tk=>OkP.pre st1 (Xj I1.sr (J.tok tk))
end
end Z
end
section
namespace Z
open PySem PySem.Spec PyProof.Rows L2
open Builtin.Slice (sliceAdjust slicePlaces)
noncomputable def Xkn{α:Type}(lo c:Int)(n:Nat)(xs:List α):List α:=(List.range n).filterMap fun(k:Nat)=>xs[(lo+(k:Int)*c).toNat]?
noncomputable def Xad{α:Type}(xs:List α)(l:Option Int)(c:Int):List α:=Xkn (sliceAdjust l none c xs.length).1 c (slicePlaces (sliceAdjust l none c xs.length).1 (sliceAdjust l none c xs.length).2 c) xs
theorem Xoc{K:PySem.W.Frag}{ρ:List Addr}{H:Hp}{xs:List D}{vs:List V}(h:RDs K ρ H xs vs)(ix:Nat->Nat):∀ ks:List Nat,RDs K ρ H (ks.filterMap fun k=>xs[ix k]?) (ks.filterMap fun k=>vs[ix k]?)
 | []=>.nil
 | k::ks=>by
  cases e:xs[ix k]? with
  | none =>
   have e2:=h.none e;simp only[List.filterMap_cons,e,e2];exact Xoc h ix ks
  | some d =>
   obtain⟨v,e2,r⟩:=h.get e;simp only[List.filterMap_cons,e,e2];exact .cons r (Xoc h ix ks)
theorem Xho{xs:List V}{us:List Value}(h:Vals xs us)(ix:Nat->Nat):∀ ks:List Nat,Vals (ks.filterMap fun k=>xs[ix k]?) (ks.filterMap fun k=>us[ix k]?)
 | []=>.nil
 | k::ks=>by
  cases e:xs[ix k]? with
  | none =>
   have e2:us[ix k]?=none:=by rw[List.getElem?_eq_none_iff] at e ⊢;rw[<- h.length];exact e
   simp only[List.filterMap_cons,e,e2];exact Xho h ix ks
  | some d =>
   obtain⟨v,e2,r⟩:=h.get e;simp only[List.filterMap_cons,e,e2];exact .cons r (Xho h ix ks)
theorem Xqr{K:PySem.W.Frag}{ρ:List Addr}{H:Hp}{xs:List D}{vs:List V}(h:RDs K ρ H xs vs)(l:Option Int)(c:Int):RDs K ρ H (Xad xs l c) (Xad vs l c):=by
 unfold Xad;rw[h.length];exact Xoc h _ _
theorem Xko(h:Vals xs us)(l:Option Int)(c:Int):Vals (Xad xs l c) (Xad us l c):=by
 unfold Xad;rw[h.length];exact Xho h _ _
theorem Xqs{lo hi c:Int}{n:Nat}(hc:c<0)(h1:lo<=(n:Int)-1)(h2:-1<=hi):slicePlaces lo hi c<=n:=by
 unfold slicePlaces;rw[if_neg (by omega)]
 split
 ·have:(lo-hi-1)/(-c)<=lo-hi-1:=Int.ediv_le_self _ (by omega)
  omega
 ·simp
theorem Xkp{l:Option Int}{c:Int}{n:Nat}(hc:c<0):(sliceAdjust l none c n).1<=(n:Int)-1/\(sliceAdjust l none c n).2 = -1:=by
 unfold sliceAdjust;simp only[hc,if_true,and_true];cases l with
 | none=>exact Int.le_refl _
 | some v=>dsimp only;split<;>omega
theorem Xhp{α:Type}(xs:List α){l:Option Int}{c:Int}(hc:c<0):(Xad xs l c).length<=xs.length:=by
 unfold Xad Xkn;refine Nat.le_trans (List.length_filterMap_le _ _) ?_;rw[List.length_range];exact Xqs hc (Xkp hc).1 (by rw[(Xkp hc).2];omega)
section
variable{prog:Program}{w:World}{A:Around}{E:Value->Shared->Prop}{s:Shared}
theorem Xkq{lo:Option Int}{c:Int}{n:Nat}{Q:Int×Int×Nat->Shared->Prop}(hc:c<0)(hs:s.heap.IsSliceOf sl vl .none vs)(pl:IsPart vl lo)(ps:IsPart vs (some c))
  (h:Q ((sliceAdjust lo none c n).1,c,slicePlaces (sliceAdjust lo none c n).1 (sliceAdjust lo none c n).2 c) s):wpAny (model prog w) A (Builtin.Slice.sliceApplied (.ref sl) (pure (n:Int))) Q E s:=by
 obtain⟨os,hos,hcs,hds⟩:=id hs;unfold Builtin.Slice.sliceApplied Builtin.Slice.sliceFields;refine wpAny_bind (wpAny_bind (wpAny_field hos hds (x:=vl) rfl (wpAny_bind (wpAny_field hos hds (x:=.none) rfl (wpAny_bind (wpAny_field hos hds (x:=vs) rfl (wpAny_pure ?_)))))));refine wpAny_bind (HT.slicePart_ ps ?_);show wpAny _ _ (if (c==0)=true then _ else _) _ _ s
 rw[if_neg (by simp;omega)]
 refine wpAny_bind (HT.slicePart_ pl (wpAny_bind (HT.slicePart_ .none (wpAny_bind (wpAny_pure ?_)))));exact wpAny_pure h
theorem Xod{its:List Value}{lo:Option Int}{c:Int}{Q:Value->Shared->Prop}(hc:c<0)(ht:IsTup s.heap t its.toArray)(hs:s.heap.IsSliceOf sl vl .none vs)(pl:IsPart vl lo)(ps:IsPart vs (some c))
  (h:Q (.ref s.heap.objs.size) { s with heap:=s.heap.push { cls:=.type "tuple",data:=.seq (Xad its lo c).toArray } }) (hsz:its.length<=sizeLine):wpAny (model prog w) A (getItem (.ref t) (.ref sl)) Q E s:=by
 have hso:sizeOk (.seq (Xad its lo c).toArray):=by
  show(Xad its lo c).toArray.size<=sizeLine;rw[List.size_toArray];exact Nat.le_trans (Xhp its hc) hsz
 obtain⟨os,hos,hcs,hds⟩:=id hs;have hTs:s.TypeIs (.ref sl) "slice" := ⟨os,hos,hcs⟩;unfold getItem
 try with_reducible refine wpAny_holding ?_
 first|refine wpAny_bind (wpAny_pure ?_)|skip
 refine wpAny_bind (wpAny_sequenceKey ht.typeIs (by decide) (wpAny_bind (wpAny_callSpecial?_slot (name:=Str.ofString "__getitem__") ht.typeIs PyProof.Rows.slot_tuple_getitem (wpAny_call_entry PyProof.Rows.slot_tuple_getitem ht.typeIs entry_tuple_getitem ?_ (args_tuple_getitem _ _)))))
 show wpAny _ _ (Builtin.Tuple.tupleItemsOf (.ref t) >>= _) _ _ s;refine wpAny_bind (tupleItemsOf_ ht (wpAny_bind (wpAny_typeOf hTs ?_)));rw[if_pos (by decide),List.size_toArray]
 refine wpAny_bind (Xkq hc hs pl ps ?_);show wpAny _ _ (if ((sliceAdjust lo none c its.length).1==0&&c==1&&slicePlaces (sliceAdjust lo none c its.length).1 (sliceAdjust lo none c its.length).2 c==its.length)=true then _ else _) _ _ s
 have hn:(c==1)=false:=by simp;omega
 rw[if_neg (by rw[hn];simp)]
 have e:((List.range (slicePlaces (sliceAdjust lo none c its.length).1 (sliceAdjust lo none c its.length).2 c)).filterMap fun(k:Nat)=>its.toArray[((sliceAdjust lo none c its.length).1+(k:Int)*c).toNat]?)=Xad its lo c:=by
  unfold Xad Xkn;simp
 rw[e]
 first
  | exact wpAny_bind (m:=Builtin.Tuple.tupleExact _) (wpAny_newObj_type (wpAny_pure ⟨_,rfl,wpAny_pure h⟩) hso)
  | exact wpAny_bind (wpAny_bind (m:=Builtin.Tuple.tupleExact _) (wpAny_newObj_type (wpAny_pure ⟨_,rfl,wpAny_pure h⟩) hso))
end
theorem Xqt(its:List Value)(lo:Option Int)(hc:c<0):slicePick its.toArray lo none (some c)=(Xad its lo c).toArray:=by
 have hn:¬ c>0:=by omega
 have e1:(sliceBounds lo none (some c) its.length).1=(sliceAdjust lo none c its.length).1:=by
  unfold sliceBounds sliceAdjust;simp only[Option.getD_some,hn,hc,if_true,if_false];cases lo with
  | none=>rfl
  | some v=>dsimp only;split<;>omega
 have e2:(sliceBounds lo none (some c) its.length).2.1 = -1:=by
  unfold sliceBounds;simp only[Option.getD_some,hn,if_false]
 have e3:(sliceBounds lo none (some c) its.length).2.2=c:=rfl;unfold slicePick Xad Xkn;rw[List.size_toArray,e1,e2,e3,(Xkp hc).2];generalize (sliceAdjust lo none c its.length).1=a;have e4:slicePlaces a (-1) c=(if a > -1 then (a - -1-c-1)/(-c) else 0).toNat:=by
  unfold slicePlaces;rw[if_neg hn];congr 1;split
  ·have:a - -1-c-1=(a - -1-1)+1*(-c):=by omega
   rw[this,Int.add_mul_ediv_right _ _ (by omega)]
  ·rfl
 unfold sliceRange;simp only[hn,if_false];rw[e4,List.filterMap_map];congr 2
 funext k
 simp only[Function.comp,List.getElem?_toArray];rw[Int.mul_comm]
theorem Xkr{α β:Type}{f g:α->Option β}:∀ {l:List α},(∀ x∈l,f x=g x)->l.filterMap f=l.filterMap g
 | [],_=>rfl
 | x::l,h=>by rw[List.filterMap_cons,List.filterMap_cons,h x (by simp),Xkr fun y hy=>h y (by simp[hy])]
theorem Xw1{α:Type}(xs:List α):Xad xs none (-1)=xs.reverse:=by
 unfold Xad Xkn;have e1:(sliceAdjust none none (-1) (xs.length:Int))=((xs.length:Int)-1,-1):=rfl;rw[e1];have e2:slicePlaces ((xs.length:Int)-1) (-1) (-1)=xs.length:=by
  unfold slicePlaces;rw[if_neg (by decide)]
  split
  ·simp
  ·omega
 dsimp only;rw[e2];have:∀ (n:Nat) (ys:List α),ys.length=n->(List.range n).filterMap (fun k=>ys[k]?)=ys:=by
  intro n
  induction n with
  | zero=>intro ys h;rw[List.eq_nil_of_length_eq_zero h];rfl
  | succ n ih =>
   intro ys h;cases ys with
   | nil=>cases h
   | cons y ys =>
    rw[List.range_succ_eq_map,List.filterMap_cons,List.filterMap_map];simp only[gZ0];congr 1;exact ih ys (by simpa using h)
 rw[<- this xs.length xs.reverse (by simp)]
 refine Xkr fun k hk=>?_
 have hk:=List.mem_range.mp hk;rw[List.getElem?_reverse hk];congr 1;omega
noncomputable def Xcq(l:Option Int)(c:Int)(x:D)(S:Sto):R D :=
 match x with
 | .tup xs=>.ok (.tup (Xad xs l c)) S
 | .ref n=>match Xb S n with
  | some xs=>.ok (.ref S.length) (S++[.lst (Xad xs l c)])
  | none=>.bad
 | _=>.bad
theorem Xsy(x:D)(S:Sto):Xcq none (-1) x S=Xdu x S:=by
 cases x<;>simp only[Xcq,Xdu,Xw1]<;>rfl
section
variable{X:Cx}{pins:List (Addr×Obj)}{σ:L2.St}{H:Hp}{s:Shared}{ρ:List Addr}{S S':Sto}{env:En}{a:Expr}{fa:En->Sto->R D}{pos p2:Pos}
theorem X33{lo:Option Expr}{st:Expr}{l:Option Int}{c:Int}(hc:c<0)(ha:DE X a fa)(hl:DO X lo (fun _ S=>.ok (l.map D.int) S))(hh:DO X (some st) (fun _ S=>.ok (some (.int c)) S)) :
  DE X (.Subscript a (.Slice lo none (some st) p2) pos) (fun env S=>(fa env S).bind fun x S=>Xcq l c x S):=by
 intro pins s σ H ρ S env I nb;dsimp only at nb ⊢;refine Subscript_ (ha.bind I nb rfl (fun d S1 u s1 v H1 ρ1 e1 nb1 I1 rv rd st1=>?_) fun _ _ z=>z)
 rw[e1];have cst:∀ {e:Option Expr} {o:Option D} {s2:Shared} {H2:Hp} {ρ2:List Addr} {Q:Value->Shared->Prop} {E:Value->Shared->Prop},DO X e (fun _ S=>.ok o S)->S0 X pins σ H2 s2 ρ2 S1 env->(∀ u s' H' ρ',S0 X pins σ H' s' ρ' S1 env->PartR X.K ρ' H' o u->Stp X.K ρ2 ρ' H2 H'->Q u s') ->
   wpAny (model X.prog X.w) X.A (evalPart e X.env) Q E s2:=fun he I2 hQ=>by
  refine wpAny_mono (he pins _ σ _ _ S1 env I2 (fun z=>nomatch z)) (fun u s' ⟨o',S2,e,H',ρ',J,sr,st,pr⟩=>?_) fun x s' ⟨_,_,e,_⟩=>nomatch e
  cases e;exact hQ u s' H' ρ' (I2.step J sr st) pr st
 refine wpAny_Slice (cst hl I1 fun vl s2 H2 ρ2 I2 pl st2=>?_)
 rw[evalPart_none];refine wpAny_pure ?_;refine cst hh I2 fun vs s3 H3 ρ3 I3 ps st3=>?_
 have P1:IsPart vl l:=Xew pl (by cases l<;>rfl)
 have P2:IsPart vs (some c):=Xew ps rfl;have rd3:=(rd.mono st2).mono st3;have J:Inv X pins σ H3 { s3 with heap:=s3.heap.push { cls:=.type "slice",data:=.fields #[vl,.none,vs] } }:=I3.inv.kept (t':=s3.toks) fun b ob q=>Heap.get?_push_of_some _ q
 have fin:∀ {T id:String},typeLookup (.type T) "__getitem__" = pure (some (.builtin id))->({ s3 with heap:=s3.heap.push { cls:=.type "slice",data:=.fields #[vl,.none,vs] } }:Shared).TypeIs u T ->
   wpAny (model X.prog X.w) X.A (getItem u (.ref s3.heap.objs.size)) (OkP X pins σ ρ3 H3 (Xcq l c d S1)) (ExP X pins σ ρ3 H3 (Xcq l c d S1)) { s3 with heap:=s3.heap.push { cls:=.type "slice",data:=.fields #[vl,.none,vs] } } ->
   wpAny (model X.prog X.w) X.A (subscriptTail a (.Slice lo none (some st) p2) u (.ref s3.heap.objs.size)) (OkP X pins σ ρ H (Xcq l c d S1)) (ExP X pins σ ρ H (Xcq l c d S1)) { s3 with heap:=s3.heap.push { cls:=.type "slice",data:=.fields #[vl,.none,vs] } }:=fun t1 t2 g =>
  tail_any (ops:=[u,.ref s3.heap.objs.size]) t2 t1 (wpAny_mono g (fun _ _ z=>OkP.pre ((st1.trans st2).trans st3) z) fun _ _ z=>ExP.pre ((st1.trans st2).trans st3) z) (by with_unfolding_all rfl)
 cases d with
 | tup xs =>
  simp only[RD] at rd3;obtain⟨p,ws,rfl,hq,hr⟩:=rd3;cases rv;obtain⟨its,r,ht,hz⟩:=J.tuple hq;have hlen:=r.length;refine fin PyProof.Rows.slot_tuple_getitem.lookup ht.typeIs ?_;refine Xod hc ht (Heap.IsSliceOf.new ..) P1 P2 ?_ (by omega)
  refine Xcd (vs:=Xad ws l c) (J.laid (t':=s3.toks) (fun b ob q=>Heap.get?_push_of_some _ q) (Nat.le_refl _) ?_) (J.hok.fresh (Nat.le_refl _)) I3.sr (Xqr hr l c)
  exact⟨Nat.le_trans (Xhp ws hc) hz,_,Xko r l c,⟨_,Heap.get?_push_size _ rfl,rfl,_,rfl⟩⟩
 | ref n =>
  cases e4:Xb S1 n with
  | none=>simp[Xcq,e4] at nb1
  | some xs =>
   obtain⟨b,ws,k1,k2,k3⟩:=I3.list e4;simp only[RD] at rd3;obtain⟨b',rfl,k4⟩:=rd3;rw[k1] at k4;cases k4;cases rv;obtain⟨its,r,ht,hz⟩:=J.list (.of k2);have hlen:=r.length;refine fin slot_list_getitem.lookup ht.isList.typeIs ?_;refine wpAny_getItem_list_slice ht.isList (Heap.IsSliceOf.new ..) P1 .none P2 (by intro z;cases z;omega) ?_ (by rw[List.size_toArray]<;>omega)
   rw[Xqt _ _ hc];have e5:Xcq l c (.ref n) S1=.ok (.ref S1.length) (S1++[.lst (Xad xs l c)]):=by simp only[Xcq,e4]
   rw[e5];refine Xbe (vs:=Xad ws l c) (J.laid (t':=s3.toks) (fun b ob q=>Heap.get?_push_of_some _ q) (Nat.le_refl _) ?_) (J.hok.fresh (Nat.le_refl _)) I3.sr (Xqr k3 l c)
   exact⟨Nat.le_trans (Xhp ws hc) hz,_,0,Xko r l c,Heap.get?_push_size _ rfl⟩
 | _=>exact absurd rfl nb1
theorem Xu9{i:Int}{e:Expr}(h:mnC i e=true):DO X (some e) (fun _ S=>.ok (some (.int (-i))) S):=by
 unfold mnC at h;split at h
 ·rename_i x p
  split at h
  ·rename_i j u q
   have:=eq_of_beq h;subst this;exact Xms (Xu6 (fa:=fun _ S=>.ok (.int i) S) d_int)
  ·cases h
 ·cases h
theorem X1f{i:Int}{l:Option Int}{e:Expr}(hi:0<i)(ha:DE X a fa)(h:Xn8 i l e=true):DE X (.Subscript a e pos) (fun env S=>(fa env S).bind fun x S=>Xcq (l.map (- ·)) (-i) x S):=by
 unfold Xn8 at h;split at h
 ·rename_i lo st p
  rw[bA0] at h;refine X33 (by omega) ha ?_ (Xu9 h.1)
  have h2:=h.2;split at h2
  ·exact Xmr
  ·exact Xu9 h2
  ·cases h2
 ·cases h
end
end Z
end
section
namespace Z
open PySem PySem.Spec PyProof.Rows L2
section
variable{X:Cx}{pins:List (Addr×Obj)}{σ:L2.St}{H:Hp}{s:Shared}{ρ:List Addr}{S:Sto}{env:En}{a b:Expr}{es:List Expr}{fa:En->Sto->R D}{g:En->Sto->R (List D)}{p pos pos':Pos}
end
section
variable(cm:Bool)(F:Fn)(G:List D)(fns:List (Str×Nat×Bool))(gns:List Str)
structure PF(X:Cx):Prop where
 blt:∀ x∈blts,X.mg x=none
 fn:∀ (f:Nat) nm ar fl,fns[f]?=some (nm,ar,fl)->(fl=true->cm=true)->∃ g fd ps k,FnD fl X.prog X.w X.K X.mg X.base k g fd ps (F f)/\RoomC fl k X.A/\Binds X.K fd ps []/\X.mg nm=some (.ref g)/\PySem.W.keepIn X.K (.ref g)=true/\ps.length=ar
 glb:∀ (k:Nat) nm,gns[k]?=some nm->∃ u d,X.mg nm=some u/\G[k]?=some d/\∀ ρ H,∃ v,RelV v u/\RD X.K ρ H d v
 cal:∀ (f:Nat) (nm:Str),Xbx f nm G=true->∃ ar fl,fns[f]?=some (nm,ar,fl)/\(∀ a,PySem.W.nsIn X.K mainGlobals nm=some (some (.ref a))->X.mg nm=some (.ref a))/\∀ xs S,F f xs S≠.bad->xs.length=ar
 units:X.A.units+200<cLine
 gd:X.A.guards=some []
 calm:cm=true->X.calm=true
 err:ErrOk X.K
theorem PF.blk(h:PF cm F G fns gns X)(pins:List (Addr×Obj))(s:Shared)(H:Hp)(sc:Scope)(cl:List (Str×Addr))(C:Addr)(own:List Str)(fp:List Addr):PF cm F G fns gns (blk X pins s H sc cl C own fp) :=
 ⟨h.blt,h.fn,h.glb,h.cal,h.units,h.gd,h.calm,h.err⟩
end
section
variable{X:Cx}{e:Expr}{f g:En->Sto->R D}
theorem DE.congr(h:DE X e f)(q:∀ env S,g env S=f env S):DE X e g:=by
 have:g=f:=funext fun env=>funext fun S=>q env S
 rw[this];exact h
theorem DT.congr{f g:En->Sto->R Bool}(h:DT X e f)(q:∀ env S,g env S=f env S):DT X e g:=by
 have:g=f:=funext fun env=>funext fun S=>q env S
 rw[this];exact h
theorem X5c(hnd:X.N.Nodup)(ht:∀ x,top x=true->X.fn x=true)(is:List Nat)(es:List Expr)(h:mtT.namesB top X.env.scope X.N is es=true):(∀ E,PGs (X.wish E) es (gNs is))/\(assignEach es X.env).length=is.length/\(assignEach es X.env).findIdx? (·.1)=none:=by
 have key:∀ (is:List Nat) (es:List Expr),mtT.namesB top X.env.scope X.N is es=true->∃ xs:List (Str×Pos),es=xs.map (fun x=>Expr.Name x.1 x.2)/\is.length=xs.length/\∀ (j i:Nat) (x:Str×Pos),is[j]?=some i->xs[j]?=some x->X.N[i]?=some x.1/\Loc X.env.scope x.1/\(X.fn x.1=true\/X.env.scope.names.lookup x.1=some .local):=by
  intro is
  induction is with
  | nil =>
   intro es h;cases es with
   | nil=>exact⟨[],rfl,rfl,fun j i x e1 _=>by simp at e1⟩
   | cons _ _=>simp[mtT.namesB] at h
  | cons i is ih =>
   intro es h;cases es with
   | nil=>simp[mtT.namesB] at h
   | cons e es =>
    simp only[mtT.namesB,bA0] at h;obtain⟨x,h1,h2⟩:=Xc h.1;obtain⟨p,rfl⟩:=Xa8 h1;rw[bA0,decide_eq_true_eq] at h2;obtain⟨xs,e1,e2,e3⟩:=ih es h.2;obtain⟨l1,l2⟩:=Xes rfl ht h2.2;refine⟨(x,p)::xs,by rw[e1];rfl,by simp[e2],fun j i' x' q1 q2=>?_⟩
    cases j with
    | zero=>simp at q1 q2;subst q1 q2;exact⟨h2.1,l1,l2⟩
    | succ j=>exact e3 j i' x' (by simpa using q1) (by simpa using q2)
 obtain⟨xs,e1,e2,e3⟩:=key is es h;subst e1;have nm:=Xgd xs X.env;exact⟨fun E=>Xp6 (X:=X.wish E) is xs hnd e2 e3,by rw[nm.1,e2],nm.2⟩
theorem X5d(hnd:X.N.Nodup)(ht:∀ x,top x=true->X.fn x=true)(h:mtT top X.env.scope X.N (.tup is) tg=true):∃ es k p,tg=.Tuple es k p/\(∀ E,PGs (X.wish E) es (gNs is))/\(assignEach es X.env).length=is.length/\(assignEach es X.env).findIdx? (·.1)=none:=by
 simp only[mtT] at h;obtain⟨es,h1,h⟩:=Xc h;obtain⟨k,p,rfl⟩:=Xcf h1;exact⟨es,k,p,rfl,X5c hnd ht is es h⟩
theorem dgB(hN:X.N=N)(hs:X.env.scope=sc)(hnd:N.Nodup)(hc:X0p t=false->X.calm=true)(ht:∀ x,top x=true->X.fn x=true)(h:mtT top sc N t tg=true):DG X tg t:=by
 subst hN hs;cases t with
 | var i =>
  simp only[mtT] at h;obtain⟨x,h1,h2⟩:=Xc h;obtain⟨p,rfl⟩:=Xa8 h1;rw[bA0,decide_eq_true_eq] at h2;obtain⟨l1,l2⟩:=Xes rfl ht h2.2;exact Xv7 hnd h2.1 l1 l2
 | tup is =>
  obtain⟨es,k,p,rfl,q1,q2,q3⟩:=X5d hnd ht h;exact Xz6 (hc rfl) q1 q2 q3
end
theorem Xmt:∀ (es:Exs) (xs:List Expr),mts cm fns gns sc N es xs=true->∀ env S ds S',evs F G es env S=.ok ds S'->ds.length=xs.length
 | .nil,[],_,env,S,ds,S',h=>by simp only[evs] at h;cases h;rfl
 | .nil,_::_,h,_,_,_,_,_=>by simp[mts] at h
 | .cons _ _,[],h,_,_,_,_,_=>by simp[mts] at h
 | .cons e es,x::xs,h,env,S,ds,S',q=>by
  simp only[mts,bA0] at h;simp only[evs] at q;cases q1:ev F G e env S with
  | bad=>rw[q1] at q;cases q
  | ex _ _=>rw[q1] at q;cases q
  | ok d S1 =>
   rw[q1] at q;simp only[Rk0] at q;cases q2:evs F G es env S1 with
   | bad=>rw[q2] at q;cases q
   | ex _ _=>rw[q2] at q;cases q
   | ok ds' S2 =>
    rw[q2] at q;simp only[Rk0] at q;cases q;simp[Xmt es xs h.2 env S1 ds' _ q2]
theorem Xbd:∀ (es:Exs) (xs:List Expr),mts cm fns gns sc N es xs=true->xs.all Yw=true
 | .nil,[],_=>rfl
 | .nil,_::_,h=>by simp[mts] at h
 | .cons _ _,[],h=>by simp[mts] at h
 | .cons e es,x::xs,h=>by
  simp only[mts,bA0] at h;rw[List.all_cons,h.1.1,Xbd es xs h.2];rfl
theorem Xw2{k:Bl}{nm:Str}{b:Bool}{id:String}(h:Xn5 k=some (nm,b,id))(hsm:∃ o,X.K.lookup sysModules=some o)(hgd:X.A.guards=some [])(hun:X.A.units+200<cLine)(hc:Xn6 k=false->X.calm=true):nm∈blts/\(if b then bootBuiltins nm=some (.builtin id)/\BlR X k (.builtin id) else bootBuiltins nm=some (.type id)/\BlR X k (.type id)):=by
 cases k<;>simp only[Xn5,Option.some.injEq,Prod.mk.injEq,reduceCtorEq] at h<;>obtain⟨rfl,rfl,rfl⟩:=h
 case len=>exact⟨by decide,PySem.boot_len,X3m⟩
 case min=>exact⟨by decide,by decide+kernel,X3q (hc rfl)⟩
 case max=>exact⟨by decide,by decide+kernel,X3p (hc rfl)⟩
 case mxl=>exact⟨by decide,by decide+kernel,X3r (hc rfl)⟩
 case sum=>exact⟨by decide,by decide+kernel,X3o (hc rfl)⟩
 case srt=>exact⟨by decide,by decide+kernel,X3w⟩
 case all=>exact⟨by decide,by decide+kernel,X3n (hc rfl)⟩
 case tuple=>exact⟨by decide,by decide+kernel,Xwc⟩
 case list=>exact⟨by decide,by decide+kernel,X0d⟩
 case repr=>exact⟨by decide,by decide+kernel,X0l hsm hgd hun⟩
 case int=>exact⟨by decide,by decide+kernel,X3v⟩
section
variable{F:Fn}{G:List D}{cm:Bool}{fns:List (Str×Nat×Bool)}{gns:List Str}
theorem Xw3(h:Xsn fx=true)(args:List Expr)(pos:Pos)(env:PySem.Env):eval (.Call fx args [] pos) env=(do callWith pos (<- eval fx env) [] (backTo pos (starEach args env)) (backToKw pos (keywordEach [] env))):=by
 cases fx<;>first|rfl|cases h
theorem X34(hp:PF cm F G fns gns X)(hc:cm=true)(hx:∀ (args:List Expr) (pos:Pos) (env:PySem.Env),eval (.Call fx args [] pos) env=(do callWith pos (<- eval fx env) [] (backTo pos (starEach args env)) (backToKw pos (keywordEach [] env))))
  (hf:DE X fx f) (ha:DA X (e::es) ga) (he:starEach (e::es) X.env=(false,eval e X.env)::starEach es X.env) (hpl:(backTo pos (starEach es X.env)).any (·.1)=false) :
  DE X (.Call fx (e::es) [] pos) (fun env S=>(f env S).bind fun x S=>match x with
   | .fn k nm=>if Xbx k nm G then (ga env S).bind fun xs S=>F k xs S else .bad
   | _=>.bad):=by
 intro pins s σ H ρ S env I nb;dsimp only at nb ⊢;rw[hx];refine wpAny_bind (hf.bind I nb rfl (fun d S1 u s1 v H1 ρ1 e1 nb1 I1 rv rd st1=>?_) fun _ _ z=>z)
 rw[e1];cases d with
 | fn k nm =>
  dsimp only at nb1 ⊢
  by_cases hi:Xbx k nm G=true
  ·rw[if_pos hi] at nb1 ⊢
   obtain⟨ar,fl,q1,q2,q3⟩:=hp.cal k nm hi;obtain⟨g,fd,ps,kk,c1,c2,c3,c4,c5,c6⟩:=hp.fn k nm ar fl q1 fun _=>hc
   simp only[RD] at rd;obtain⟨a,rfl,hn⟩:=rd;have:=(q2 a hn).symm.trans c4;cases this;cases rv;cases q:ga env S1 with
   | bad=>rw[q] at nb1;exact absurd rfl nb1
   | ex n S2=>exact PySem.W.callWith_K (h₀:=X.base) I1.inv.ok.mod.kin c5 (ha.ex I1 q fun x s' z=>⟨n,S2,rfl,z.pre st1⟩) he hpl
   | ok ds S2 =>
    rw[q] at nb1;simp only[Rk0] at nb1 ⊢;refine PySem.W.callWith_K (h₀:=X.base) I1.inv.ok.mod.kin c5 (ha.ok I1 q fun us s2 vs H2 ρ2 I2 rv2 rd2 st2=>⟨I2.inv.kIn,?_⟩) he hpl
    exact wpAny_mono (Xu3 c1 c2 c3 I2 rv2 rd2 (by rw[c6];exact q3 _ _ nb1) nb1) (fun u s2 z=>(z.pre st2).pre st1) fun x s2 z=>(z.pre st2).pre st1
  ·rw[if_neg hi] at nb1;exact absurd rfl nb1
 | _=>exact absurd rfl nb1
theorem Yr(h:DE X e f)(he:∀ whole,isTrue e X.env whole=(do let v <- whole;standAt e.pos;holding [v] (truthy v))):DE X e f/\DT X e (fun env S=>tst (f env S)):=⟨h,.of h he⟩
theorem DW.of(h:DT X (.BoolOp op ys p) g):DW X (.BoolOp op ys p) g:=fun _=>h
def X1g(F:Fn)(G:List D)(X:Cx)(sc2:Scope)(N2:List Str)(PFY:Cx->Prop):Gens->List Comprehension->Prop
 | .cons t it ifs .nil,gens=>∃ tg iter cs,gens=[⟨tg,iter,cs,0⟩]/\Xbq iter=true/\mtT (Xbz X.N N2) sc2 N2 t tg=true/\DI X tg iter (evit F G it)/\∀ Y:Cx,Y.N=N2->Y.env.scope=sc2->PFY Y->DTs Y cs (evts F G ifs)
 | .cons t it ifs (.cons t2 it2 ifs2 .nil),gens=>∃ tg iter cs tg2 iter2 cs2,gens=[⟨tg,iter,cs,0⟩,⟨tg2,iter2,cs2,0⟩]/\Xbq iter=true/\Xbq iter2=true/\mtT (Xbz X.N N2) sc2 N2 t tg=true/\mtT (Xbz X.N N2) sc2 N2 t2 tg2=true/\DI X tg iter (evit F G it) /\
   (∀ Y:Cx,Y.N=N2->Y.env.scope=sc2->PFY Y->DTs Y cs (evts F G ifs))/\(∀ Y:Cx,Y.N=N2->Y.env.scope=sc2->PFY Y->DI Y tg2 iter2 (evit F G it2))/\∀ Y:Cx,Y.N=N2->Y.env.scope=sc2->PFY Y->DTs Y cs2 (evts F G ifs2)
 | _,_=>False
structure CompP(X:Cx)(elt:Expr)(gens:List Comprehension)(scope:Scope)(cpos:Pos)(own:List Str)(f:En->Sto->R D) where
 tg:Expr
 iter:Expr
 ifs:List Expr
 t:Tg
 fi:En->Sto->R Src
 tf:En->Sto->R Bool
 body:En->List D->Sto->R (List D)
 hg:gens=⟨tg,iter,ifs,0⟩::gens.tail
 hi:DI X tg iter fi
 hs:∀ x,foldedSetIterable iter X.env x=pure x
 hG:∀ pins s H cl C fp,DG (blk X pins s H scope cl C own fp) tg t
 hT:∀ pins s H cl C fp,DTs (blk X pins s H scope cl C own fp) ifs tf
 hB:∀ pins s H cl C fp Da,Xc1 (blk X pins s H scope cl C own fp) Da elt gens scope cpos 0 body
 eq:f=Xec fi t own.length tf body
theorem Xmu(hN:X.N=N)(hs:X.env.scope=sc)(hp:PF cm F G fns gns X)(hc:X.calm=true)(so:ScOk sc scope N (Xac scope))
  (hg:X1g F G X (Xfl scope sc) (Xap N (Xac scope)) (PF cm F G fns gns) gs gens) (he:∀ Y:Cx,Y.N=Xap N (Xac scope)->Y.env.scope=Xfl scope sc->PF cm F G fns gns Y->DE Y elt (ev F G xe)) :
  Nonempty (CompP X elt gens scope p (Xac scope) (ev F G (.cmr false (Xac scope).length gs xe))):=by
 subst hN hs;have hY:∀ pins s H cl C fp,PF cm F G fns gns (blk X pins s H scope cl C (Xac scope) fp):=fun pins s H cl C fp=>PF.blk cm F G fns gns hp pins s H scope cl C (Xac scope) fp
 have hTg:∀ {t:Tg} {tg:Expr},mtT (Xbz X.N (Xap X.N (Xac scope))) (Xfl scope X.env.scope) (Xap X.N (Xac scope)) t tg=true->∀ pins s H cl C fp,DG (blk X pins s H scope cl C (Xac scope) fp) tg t:=fun h pins s H cl C fp=>dgB (top:=Xbz X.N (Xap X.N (Xac scope))) rfl rfl so.nd (fun _=>hc) (fun _ z=>Xwh z) h
 match gs,hg with
 | .cons t it ifs .nil,hg =>
  obtain⟨tg,iter,cs,rfl,n1,m1,i1,t1⟩:=hg;refine⟨⟨tg,iter,cs,t,evit F G it,evts F G ifs,_,rfl,i1,Xdz n1,hTg m1,fun pins s H cl C fp=>t1 _ rfl rfl (hY pins s H cl C fp),fun pins s H cl C fp Da=>Xiw rfl (he _ rfl rfl (hY pins s H cl C fp)),?_⟩⟩
  funext env S
  simp only[ev,Xec];rfl
 | .cons t it ifs (.cons t2 it2 ifs2 .nil),hg =>
  obtain⟨tg,iter,cs,tg2,iter2,cs2,rfl,n1,n2,m1,m2,i1,t1,i2,t2'⟩:=hg;refine⟨⟨tg,iter,cs,t,evit F G it,evts F G ifs,_,rfl,i1,Xdz n1,hTg m1,fun pins s H cl C fp=>t1 _ rfl rfl (hY pins s H cl C fp),
   fun pins s H cl C fp Da=>Xqa hc rfl (i2 _ rfl rfl (hY pins s H cl C fp)) (Xdz n2) (hTg m2 pins s H cl C fp) (t2' _ rfl rfl (hY pins s H cl C fp)) (Xiw rfl (he _ rfl rfl (hY pins s H cl C fp))),?_⟩⟩
  funext env S
  simp only[ev,Xec];rfl
theorem Xsz {k:Bl} {es:Exs} {x:Str} {ys:List Expr} (hsm:∃ o,X.K.lookup sysModules=some o) (hgd:X.A.guards=some []) (hun:X.A.units+200<cLine) (hg:Gl X x) (hb:∀ x∈blts,X.mg x=none) (hc:Xn6 k=false->X.calm=true) (h1:blB k x=true) (o1:(x==("__debug__" : Str))=false) (o3:x ≠ "__name__") (ih:DA X (y::ys) (evs F G es))
  (he:starEach (y::ys) X.env=(false,eval y X.env)::starEach ys X.env) (hpl:(backTo p (starEach ys X.env)).any (·.1)=false):DE X (.Call (.Name x p0) (y::ys) [] p) (ev F G (.blt k es)):=by
 unfold blB at h1;cases q:Xn5 k with
 | none=>rw[q] at h1;cases h1
 | some z =>
  obtain⟨nm,b,id⟩:=z;rw[q] at h1;dsimp only at h1;have e1:x=nm:=of_decide_eq_true h1;subst e1;obtain⟨m1,m2⟩:=Xw2 q hsm hgd hun hc;cases b with
  | true =>
   rw[if_pos rfl] at m2;exact(X0j m2.2 hg (hb _ m1) m2.1 ih o3 o1 he hpl).congr fun env S=>by simp only[ev]
  | false =>
   rw[if_neg Bool.false_ne_true] at m2;exact(X0k m2.2 hg (hb _ m1) m2.1 ih o3 o1 he hpl).congr fun env S=>by simp only[ev]
theorem Xs0(h1:mtB k nm=true)(h2:Xn2 ox=true)(h3:(ap.endLine==cp.line)=true)(h4:(y::ys).length<29)(io:DE X ox (ev F G o))(ih:DA X (y::ys) (evs F G es))(st:(y::ys).all Yw=true) :
  DE X (.Call (.Attribute ox nm ap) (y::ys) [] cp) (ev F G (.mth k o es)):=by
 have hfew:((backTo cp (starEach (y::ys) X.env)).all (fun x=>!x.1)&&(backToKw cp (keywordEach [] X.env)).all (fun x=>x.1.isSome)&&decide ((y::ys).length+([]:List Keyword).length+(if ([]:List Keyword).isEmpty then 0 else 1)<30))=true:=by
  rw[Xsm st];have:(y::ys).length+([]:List Keyword).length+(if ([]:List Keyword).isEmpty then 0 else 1)<30:=by
   simp only[List.length_nil,List.isEmpty_nil,if_true];omega
  rw[decide_eq_true this];rfl
 rw[List.all_cons,bA0] at st;have rcv:∀ {m:Mt} (x:D) (S:Sto),Xag m x S=true->∃ n xs,x=.ref n/\Xb S n=some xs:=fun {m} x S h=>by
  cases x with
  | ref n =>
   have h':(Xb S n).isSome=true:=h;obtain⟨xs,e⟩:=Option.isSome_iff_exists.mp h';exact⟨n,xs,rfl,e⟩
  | _=>cases h
 cases k with
 | append =>
  have e1:nm = "append" := of_decide_eq_true h1;subst e1;exact(Xgf (m:=.append) (id := "list.append") PySem.F.slot_list_append PySem.F.type_list_append Xsj rcv io ih (Xet h2) hfew h3 (Xs st.1) (Xaq st.2)).congr fun env S=>by simp only[ev]
 | xtd =>
  have e1:nm = "extend" := of_decide_eq_true h1;subst e1;exact(Xgf (m:=.xtd) (id := "list.extend") PySem.F.slot_list_extend PySem.F.type_list_extend X3s rcv io ih (Xet h2) hfew h3 (Xs st.1) (Xaq st.2)).congr fun env S=>by simp only[ev]
 | count =>
  have e1:nm = "count" := of_decide_eq_true h1;subst e1;exact(Xgf (m:=.count) (id := "list.count") PySem.F.slot_list_count PySem.F.type_list_count Xwe rcv io ih (Xet h2) hfew h3 (Xs st.1) (Xaq st.2)).congr fun env S=>by simp only[ev]
 | index =>
  have e1:nm = "index" := of_decide_eq_true h1;subst e1;exact(Xgf (m:=.index) (id := "list.index") PySem.F.slot_list_index PySem.F.type_list_index Xwf rcv io ih (Xet h2) hfew h3 (Xs st.1) (Xaq st.2)).congr fun env S=>by simp only[ev]
theorem Xs1 (er:ErrOk X.K) (hb:∀ x∈blts,X.mg x=none) (hg0:Gl X "isinstance") (hg:Gl X nm) (hok:Xab nm=true) (ht:tyB sc t nm=true) (ha:DE X a fa) (hst:Yw a=true) :
  DE X (.Call (.Name "isinstance" p0) [a,.Name nm p1] [] pos) (fun env S=>(fa env S).bind fun x S=>match (kdD S x).bind fun k=>Yu k [t] with|some r=>.ok (.bl r) S|none=>.bad):=by
 cases t with
 | cls c=>exact Xqp er (.inl ⟨c,rfl,of_decide_eq_true ht⟩) hb hg0 hg hok ha hst
 | valueError=>exact Xqp er (.inr ⟨rfl,of_decide_eq_true ht⟩) hb hg0 hg hok ha hst
 | int=>have e:=of_decide_eq_true ht;subst e;exact Xdf (t:=.int) rfl hb hg0 hg hok ha hst
 | bool=>have e:=of_decide_eq_true ht;subst e;exact Xdf (t:=.bool) rfl hb hg0 hg hok ha hst
 | str=>have e:=of_decide_eq_true ht;subst e;exact Xdf (t:=.str) rfl hb hg0 hg hok ha hst
 | tuple=>have e:=of_decide_eq_true ht;subst e;exact Xdf (t:=.tuple) rfl hb hg0 hg hok ha hst
 | list=>have e:=of_decide_eq_true ht;subst e;exact Xdf (t:=.list) rfl hb hg0 hg hok ha hst
 | dict=>have e:=of_decide_eq_true ht;subst e;exact Xdf (t:=.dict) rfl hb hg0 hg hok ha hst
theorem Xva(hb:Xkj t=true)(h:tyB sc t nm=true):∃ T,Xbs t=some (nm,T):=by
 cases t with
 | cls c=>cases hb
 | valueError=>cases hb
 | _=>have e:=of_decide_eq_true h;subst e;exact⟨_,rfl⟩
theorem Xw4 (er:ErrOk X.K) (hb:∀ x∈blts,X.mg x=none) (hs:X.env.scope=sc) (hg0:Gl X "isinstance") (ht:tyM sc ts y=true) (ha:DE X a fa) (hst:Yw a=true) :
  DE X (.Call (.Name "isinstance" p0) [a,y] [] pos) (fun env S=>(fa env S).bind fun x S=>match (kdD S x).bind fun k=>Yu k ts with|some r=>.ok (.bl r) S|none=>.bad):=by
 rcases X1a ht with⟨t,nm,p,rfl,rfl,h1,h2,h3⟩|⟨t1,t2,n1,n2,p1,p2,k,p,rfl,rfl,h1,h2,h3,h4,h5,h6,h7,h8⟩
 ·exact Xs1 er hb hg0 (Xal hs h1) h2 h3 ha hst
 ·obtain⟨T1,q1⟩:=Xva h5 h7
  obtain⟨T2,q2⟩:=Xva h6 h8;exact X1e q1 q2 hb hg0 (Xal hs h1) (Xal hs h3) h2 h4 ha hst
set_option maxHeartbeats 0 in
theorem X1h{k:Nat}(h:Xhi d c=true):DE X (.Constant c k p) (ev F G (.cst d)):=by
 cases d with
 | int i=>cases c with
  | int j=>simp only[Xhi,beq_iff_eq] at h;subst h;exact d_int.congr fun env S=>by simp only[ev]
  | _=>cases h
 | bl i=>cases c with
  | bool j=>simp only[Xhi,beq_iff_eq] at h;subst h;exact d_bl.congr fun env S=>by simp only[ev]
  | _=>cases h
 | non=>cases c with
  | none=>exact d_non.congr fun env S=>by simp only[ev]
  | _=>cases h
 | str i=>cases c with
  | str j=>simp only[Xhi,decide_eq_true_eq] at h;subst h;exact d_str.congr fun env S=>by simp only[ev]
  | _=>cases h
 | _=>cases h
mutual
theorem snd:∀ (x:Ex) (X:Cx) (sc:Scope) (N:List Str) (e:Expr),X.N=N->X.env.scope=sc->PF cm F G fns gns X->mt cm fns gns sc N x e=true->DE X e (ev F G x)/\DT X e (fun env S=>tst (ev F G x env S))
 | .nev,X,sc,N,e,hN,hs,hp,h=>⟨fun _ _ _ _ _ _ _ _ nb=>absurd (by simp only[ev]) nb,fun _ _ _ _ _ _ _ _ nb=>absurd (by simp only[ev]<;>rfl) nb⟩
 | .var i,X,sc,N,e,hN,hs,hp,h=>by
  obtain⟨x,p,rfl,h1,h2,h3⟩:=X0u h;subst hN hs;obtain⟨o1,o2,_⟩:=Xat h3;exact Yr ((X22 h1 (Xwg h2) o1 o2).congr fun env S=>by simp only[ev]<;>rfl) fun _=>rfl
 | .cst d,X,sc,N,e,hN,hs,hp,h=>by
  obtain⟨c,k,p,rfl,h⟩:=X0v h;exact Yr (X1h h) fun _=>rfl
 | .neg a,X,sc,N,e,hN,hs,hp,h=>by
  obtain⟨x,p,rfl,h⟩:=X0w h;exact Yr ((Xu6 (snd a X sc N x hN hs hp h).1).congr fun env S=>by simp only[ev]<;>rfl) fun _=>rfl
 | .glb k,X,sc,N,e,hN,hs,hp,h=>by
  obtain⟨x,p,rfl,h1,h2,h3⟩:=X0y h;obtain⟨o1,o2,_⟩:=Xat h3;obtain⟨u,d,q1,q2,q3⟩:=hp.glb k x h1;exact Yr ((X3u (Xal hs h2) q1 q3 o1).congr fun env S=>by simp only[ev,q2]) fun _=>rfl
 | .tup es,X,sc,N,e,hN,hs,hp,h=>by
  obtain⟨xs,k,p,rfl,h⟩:=X0z h;exact Yr ((X23 (snds es X sc N xs hN hs hp h)).congr fun env S=>by simp only[ev]) fun _=>rfl
 | .lst es,X,sc,N,e,hN,hs,hp,h=>by
  obtain⟨xs,p,rfl,h⟩:=X00 h;exact Yr ((X24 (snds es X sc N xs hN hs hp h)).congr fun env S=>by simp only[ev]) fun _=>rfl
 | .dct0,X,sc,N,e,hN,hs,hp,h=>by
  obtain⟨p,rfl⟩:=Xwt h;exact Yr (d_dct0.congr fun env S=>by simp only[ev]) fun _=>rfl
 | .bin op a b,X,sc,N,e,hN,hs,hp,h=>by
  obtain⟨x,y,p,rfl,h1,h2⟩:=X01 h;exact Yr ((X25 (X3h op) (snd a X sc N x hN hs hp h1).1 (snd b X sc N y hN hs hp h2).1).congr fun env S=>by simp only[ev]) fun _=>rfl
 | .cmp op a b,X,sc,N,e,hN,hs,hp,h=>by
  obtain⟨x,y,p,rfl,h1,h2,h3⟩:=X02 h;have ha:=(snd a X sc N x hN hs hp h2).1;have hb:=(snd b X sc N y hN hs hp h3).1;exact⟨(X26 (Xeq hp.units op) ha hb h1).congr fun env S=>by simp only[ev],(Xzt (Xeq hp.units op) ha hb h1).congr fun env S=>by simp only[ev]⟩
 | .chn o1 o2 a b c,X,sc,N,e,hN,hs,hp,h=>by
  obtain⟨x,y,z,p,rfl,h1,h2,h3,h4⟩:=X03 h;have ha:=(snd a X sc N x hN hs hp h2).1;have hb:=(snd b X sc N y hN hs hp h3).1;have hc:=(snd c X sc N z hN hs hp h4).1;exact⟨(X3t (Xeq hp.units o1) (Xeq hp.units o2) ha hb hc h1).congr fun env S=>by simp only[ev,Xaa]<;>rfl,(X0i (Xeq hp.units o1) (Xeq hp.units o2) ha hb hc h1).congr fun env S=>by simp only[ev,Xaa]<;>rfl⟩
 | .and a b,X,sc,N,e,hN,hs,hp,h=>by
  rcases X04 h with⟨x,y,p,rfl,h1,h2⟩|⟨x,y,z,r,p,rfl,h1,h2⟩
  ·have ha:=snd a X sc N x hN hs hp h1
   have hb:=snd b X sc N y hN hs hp h2;exact⟨(Xu0 ha.1 (Xu1 hb.1)).congr fun env S=>by simp only[ev]<;>rfl,((Xpy ha.2 (Xvw hb.2)).dt).congr fun env S=>by simp only[ev]<;>rfl⟩
  ·have ha:=snd a X sc N x hN hs hp h1
   have hb:=snd b X sc N (.BoolOp .And (y::z::r) p) hN hs hp h2;exact⟨(Xu0 ha.1 hb.1).congr fun env S=>by simp only[ev]<;>rfl,((Xpy ha.2 (.of hb.2)).dt).congr fun env S=>by simp only[ev]<;>rfl⟩
 | .or a b,X,sc,N,e,hN,hs,hp,h=>by
  rcases X31 h with⟨x,y,p,rfl,h1,h2⟩|⟨x,y,z,r,p,rfl,h1,h2⟩
  ·have ha:=snd a X sc N x hN hs hp h1
   have hb:=snd b X sc N y hN hs hp h2;exact⟨(Xzu ha.1 (Xu1 hb.1)).congr fun env S=>by simp only[ev]<;>rfl,((Xu2 ha.2 (Xzw hb.2)).dt).congr fun env S=>by simp only[ev]<;>rfl⟩
  ·have ha:=snd a X sc N x hN hs hp h1
   have hb:=snd b X sc N (.BoolOp .Or (y::z::r) p) hN hs hp h2;exact⟨(Xzu ha.1 hb.1).congr fun env S=>by simp only[ev]<;>rfl,((Xu2 ha.2 (.of hb.2)).dt).congr fun env S=>by simp only[ev]<;>rfl⟩
 | .not a,X,sc,N,e,hN,hs,hp,h=>by
  obtain⟨x,p,rfl,h⟩:=X0x h;have ha:=snd a X sc N x hN hs hp h;exact⟨(X27 ha.2 ha.1).congr fun env S=>by simp only[ev]<;>rfl,(Xzv ha.2).congr fun env S=>by simp only[ev]<;>rfl⟩
 | .ite c a b,X,sc,N,e,hN,hs,hp,h=>by
  obtain⟨x,y,z,p,rfl,h1,h2,h3⟩:=X05 h;have hc:=snd c X sc N x hN hs hp h1;have ha:=snd a X sc N y hN hs hp h2;have hb:=snd b X sc N z hN hs hp h3;exact⟨(X28 hc.2 ha.1 hb.1).congr fun env S=>by simp only[ev]<;>rfl,(X0h hc.2 ha.2 hb.2).congr fun env S=>by simp only[ev]<;>rfl⟩
 | .idx a i,X,sc,N,e,hN,hs,hp,h=>by
  obtain⟨x,y,p,rfl,h1,h2,h3⟩:=X06 h;exact Yr ((X3j (Xn1 h1) (snd a X sc N x hN hs hp h2).1 (snd i X sc N y hN hs hp h3).1).congr fun env S=>by simp only[ev]) fun _=>rfl
 | .sli a lo hi,X,sc,N,e,hN,hs,hp,h=>by
  obtain⟨x,l,u,p2,p,rfl,h1,h2,h3⟩:=X1b h;exact Yr ((X32 (snd a X sc N x hN hs hp h1).1 (sndo lo X sc N l hN hs hp h2) (sndo hi X sc N u hN hs hp h3)).congr fun env S=>by simp only[ev]<;>rfl) fun _=>rfl
 | .rev a,X,sc,N,e,hN,hs,hp,h=>by
  obtain⟨x,y,p,rfl,h1,h2⟩:=X1d h;exact Yr ((X1f (by decide) (snd a X sc N x hN hs hp h2).1 h1).congr fun env S=>by simp only[ev];congr 1;funext x S;exact(Xsy x S).symm) fun _=>rfl
 | .cal f es,X,sc,N,e,hN,hs,hp,h=>by
  obtain⟨fx,y,ys,p,rfl,h1,h2,h3,h4⟩:=X1c h;have st:=Xbd es (y::ys) h4;rw[List.all_cons,bA0] at st;exact Yr ((X34 hp h1 (Xw3 h2) (snd f X sc N fx hN hs hp h3).1 (snds es X sc N (y::ys) hN hs hp h4) (Xs st.1) (Xaq st.2)).congr fun env S=>by simp only[ev]<;>rfl) fun _=>rfl
 | .lenm a,X,sc,N,e,hN,hs,hp,h=>by
  obtain⟨p,p2,x,cp,cp2,rfl,h1,h2,h3,h4,h5⟩:=Xwu h;have ih:=(snd a X sc N x hN hs hp h5).1;exact Yr ((X0o (hp.calm h1) (Xal hs h2) (hp.blt _ (by decide)) (Xal hs h3) (hp.blt _ (by decide)) ih (Xs h4)).congr fun env S=>by simp only[ev]<;>rfl) fun _=>rfl
 | .isi a ts,X,sc,N,e,hN,hs,hp,h=>by
  obtain⟨p0,x,y,cp,rfl,h1,h2,h3,h4⟩:=X09 h;have ih:=(snd a X sc N x hN hs hp h3).1;exact Yr ((Xw4 hp.err hp.blt hs (Xal hs h1) h4 ih h2).congr fun env S=>by simp only[ev]<;>rfl) fun _=>rfl
 | .call f es,X,sc,N,e,hN,hs,hp,h=>by
  obtain⟨x,p0,y,ys,p,rfl,h1,h2,h3,h4⟩:=Xwv h;obtain⟨o1,o2,_⟩:=Xat h3;obtain⟨fl,h1,hfl⟩:=h1;obtain⟨g,fd,ps,k,c1,c2,c3,c4,c5,c6⟩:=hp.fn f x _ fl h1 hfl;have st:=Xbd es (y::ys) h4;rw[List.all_cons,bA0] at st;exact Yr ((Xzz c1 c2 c3 (Xal hs h2) c4 c5 (snds es X sc N (y::ys) hN hs hp h4) (fun env S ds S' q=>by rw[c6];exact Xmt es (y::ys) h4 env S ds S' q) o1 (Xs st.1) (Xaq st.2)).congr fun env S=>by simp only[ev]) fun _=>rfl
 | .blt k es,X,sc,N,e,hN,hs,hp,h=>by
  obtain⟨x,p0,y,ys,p,rfl,h1,hq,h2,h3,h4⟩:=X07 h;obtain⟨o1,o2,o3⟩:=Xat h3;have st:=Xbd es (y::ys) h4;rw[List.all_cons,bA0] at st;have ih:=snds es X sc N (y::ys) hN hs hp h4;exact Yr (Xsz hp.err.sm hp.gd hp.units (Xal hs h2) hp.blt (fun z=>hp.calm (by rw[z,Bool.or_false] at hq;exact hq)) h1 o1 o3 ih (Xs st.1) (Xaq st.2)) fun _=>rfl
 | .mth k o es,X,sc,N,e,hN,hs,hp,h=>by
  obtain⟨ox,nm,ap,y,ys,cp,rfl,h1,h2,h3,h4,h5,h6⟩:=X08 h;have st:=Xbd es (y::ys) h6;have ih:=snds es X sc N (y::ys) hN hs hp h6;have io:=(snd o X sc N ox hN hs hp h5).1;exact Yr (Xs0 h1 h2 h3 h4 io ih st) fun _=>rfl
 | .cmr k n gs elt,X,sc,N,e,hN,hs,hp,h=>by
  obtain⟨ee,gens,scope,p,rfl,h0,h1,h2,h3,h4,h5⟩:=Xqm h;subst h1 h2;have so:=Xqk h3;have hcl:=hp.calm h0;obtain⟨c⟩:=Xmu (p:=p) hN hs hp hcl so (sndg gs X sc N _ _ gens hN hs hp h4) (fun Y y1 y2 y3=>(snd elt Y _ _ ee y1 y2 y3 h5).1)
  subst hN hs;refine Yr ?_ fun _=>rfl
  rw[c.eq];exact X0c hcl so rfl c.hg c.hi c.hs c.hG c.hT c.hB
theorem sndo:∀ (o:Op) (X:Cx) (sc:Scope) (N:List Str) (x:Option Expr),X.N=N->X.env.scope=sc->PF cm F G fns gns X->mto cm fns gns sc N o x=true->DO X x (evo F G o)
 | .none,X,sc,N,x,hN,hs,hp,h=>by
  cases x with
  | none =>
   have:evo F G .none=fun _ S=>.ok none S:=by funext env S;simp only[evo]
   rw[this];exact Xmr
  | some _=>cases h
 | .some e,X,sc,N,x,hN,hs,hp,h=>by
  cases x with
  | none=>cases h
  | some x =>
   have h':mt cm fns gns sc N e x=true:=h;have:evo F G (.some e)=fun env S=>(ev F G e env S).bind fun x S=>.ok (some x) S:=by funext env S;simp only[evo]
   rw[this];exact Xms (snd e X sc N x hN hs hp h').1
theorem snds:∀ (es:Exs) (X:Cx) (sc:Scope) (N:List Str) (xs:List Expr),X.N=N->X.env.scope=sc->PF cm F G fns gns X->mts cm fns gns sc N es xs=true->DA X xs (evs F G es)
 | .nil,X,sc,N,[],hN,hs,hp,h=>by
  have:evs F G .nil=fun _ S=>.ok [] S:=by funext env S;simp only[evs]
  rw[this];exact Xzs
 | .cons e es,X,sc,N,x::xs,hN,hs,hp,h=>by
  simp only[mts,bA0] at h;have:evs F G (.cons e es)=fun env S=>(ev F G e env S).bind fun x S=>(evs F G es env S).bind fun xs S=>.ok (x::xs) S:=by funext env S;simp only[evs]
  rw[this];exact Xvv (snd e X sc N x hN hs hp h.1.2).1 (snds es X sc N xs hN hs hp h.2) (Xs h.1.1)
 | .nil,X,sc,N,_::_,hN,hs,hp,h=>by simp[mts] at h
 | .cons _ _,X,sc,N,[],hN,hs,hp,h=>by simp[mts] at h
theorem Xoe:∀ (es:Exs) (X:Cx) (sc:Scope) (N:List Str) (xs:List Expr),X.N=N->X.env.scope=sc->PF cm F G fns gns X->mts cm fns gns sc N es xs=true->DTs X xs (evts F G es)
 | .nil,X,sc,N,[],hN,hs,hp,h=>by
  have:evts F G .nil=fun _ S=>.ok true S:=by funext env S;simp only[evts]
  rw[this];exact Xv8
 | .cons e es,X,sc,N,x::xs,hN,hs,hp,h=>by
  simp only[mts,bA0] at h;have:evts F G (.cons e es)=fun env S=>(ev F G e env S).bind fun x S=>match Xl S x with|some true=>evts F G es env S|some false=>.ok false S|none=>.bad:=by funext env S;simp only[evts]<;>rfl
  rw[this];exact Xsi (snd e X sc N x hN hs hp h.1.2).2 (Xoe es X sc N xs hN hs hp h.2)
 | .nil,X,sc,N,_::_,hN,hs,hp,h=>by simp[mts] at h
 | .cons _ _,X,sc,N,[],hN,hs,hp,h=>by simp[mts] at h
theorem Xof:∀ (it:It) (X:Cx) (sc:Scope) (N:List Str) (tg x:Expr),X.N=N->X.env.scope=sc->PF cm F G fns gns X->(Xn7 it=true->∃ es k p,tg=.Tuple es k p)->mtI cm fns gns sc N it x=true->DI X tg x (evit F G it)
 | .val e,X,sc,N,tg,x,hN,hs,hp,_,h=>by
  simp only[mtI] at h;have:evit F G (.val e)=fun env S=>(ev F G e env S).bind fun x S=>match Yk S x with|some r=>.ok r S|none=>.bad:=by funext env S;simp only[evit]<;>rfl
  rw[this];exact Xz7 (snd e X sc N x hN hs hp h).1
 | .rng es,X,sc,N,tg,x,hN,hs,hp,_,h=>by
  obtain⟨p0,y,ys,p,rfl,h2,h3⟩:=Xwx h;have st:=Xbd es (y::ys) h3;rw[List.all_cons,bA0] at st;have:evit F G (.rng es)=fun env S=>(evs F G es env S).bind fun xs S=>match Yh xs with|some ds=>.ok (.con ds) S|none=>.bad:=by funext env S;simp only[evit]<;>rfl
  rw[this];exact Xz8 (Xal hs h2) (hp.blt _ (by decide)) (snds es X sc N (y::ys) hN hs hp h3) (Xs st.1) (Xaq st.2)
 | .enm es,X,sc,N,tg,x,hN,hs,hp,ht,h=>by
  obtain⟨p0,y,ys,p,rfl,h2,h3⟩:=Xww h;obtain⟨ts,k,tp,rfl⟩:=ht rfl;have st:=Xbd es (y::ys) h3;rw[List.all_cons,bA0] at st;have:evit F G (.enm es)=fun env S=>(evs F G es env S).bind fun xs S=>match xs with
   | [x]=>match Yk S x with
    | some s=>.ok (.enm s) S
    | none=>.bad
   | _=>.bad:=by funext env S;simp only[evit]<;>rfl
  rw[this];exact Xz9 (Xal hs h2) (hp.blt _ (by decide)) (snds es X sc N (y::ys) hN hs hp h3) (Xs st.1) (Xaq st.2)
theorem sndg:∀ (gs:Gens) (X:Cx) (sc:Scope) (N:List Str) (sc2:Scope) (N2:List Str) (gens:List Comprehension),X.N=N->X.env.scope=sc->PF cm F G fns gns X->mtG cm fns gns sc N sc2 N2 gs gens=true->X1g F G X sc2 N2 (PF cm F G fns gns) gs gens
 | .nil,X,sc,N,sc2,N2,gens,hN,hs,hp,h=>(X3x h).elim
 | .cons t it ifs .nil,X,sc,N,sc2,N2,gens,hN,hs,hp,h=>by
  obtain⟨tg,iter,cs,rfl,h2,h3,h4,h5,h6⟩:=X3y h;exact⟨tg,iter,cs,rfl,h2,hN▸h3,Xof it X sc N tg iter hN hs hp (Xgg h6 h3) h4,fun Y y1 y2 y3=>Xoe ifs Y sc2 N2 cs y1 y2 y3 h5⟩
 | .cons t it ifs (.cons t2 it2 ifs2 .nil),X,sc,N,sc2,N2,gens,hN,hs,hp,h=>by
  obtain⟨tg,iter,cs,tg2,iter2,cs2,rfl,h3,h4,h5,h6,h7,h8,h9,h10,h11,h12⟩:=X3z h;exact⟨tg,iter,cs,tg2,iter2,cs2,rfl,h3,h4,hN▸h5,hN▸h8,Xof it X sc N tg iter hN hs hp (Xgg h11 h5) h6,fun Y y1 y2 y3=>Xoe ifs Y sc2 N2 cs y1 y2 y3 h7,fun Y y1 y2 y3=>Xof it2 Y sc2 N2 tg2 iter2 y1 y2 y3 (Xgg h12 h8) h9,fun Y y1 y2 y3=>Xoe ifs2 Y sc2 N2 cs2 y1 y2 y3 h10⟩
 | .cons t it ifs (.cons t2 it2 ifs2 (.cons _ _ _ _)),X,sc,N,sc2,N2,gens,hN,hs,hp,h=>(X30 h).elim
end
end
section
variable{X:Cx}{pins:List (Addr×Obj)}{σ:L2.St}{H:Hp}{s:Shared}{ρ:List Addr}{S S':Sto}{env:En}{a b c e tg:Expr}{f fa fb fc:En->Sto->R D}{pos:Pos}
theorem X1i(he:DE X e f)(hg:DG X tg t)(hs:swapsWithSole [tg] e pos.line X.env=pure false)(hw:swappedStores [tg] e X.env=pure none)(h1:(assignEach [tg] X.env).map (·.2)=[assign tg X.env]) :
  DS X (.Assign [tg] e pos) false (fun env S=>(f env S).bind fun x S=>match Xp t x env with|some env=>.ok (.nx env) S|none=>.bad):=by
 intro pins s σ H ρ S env I nb;dsimp only at nb ⊢;cases q:f env S with
 | bad=>rw[q] at nb;exact absurd rfl nb
 | ex n S1=>exact wpAny_Assign_stores (he.ex I q fun x s' z=>.of .refl z rfl) hs hw
 | ok d S1 =>
  rw[q] at nb;simp only[Rk0] at nb ⊢;cases q2:Xp t d env with
  | none=>rw[q2] at nb;exact absurd rfl nb
  | some env' =>
   refine wpAny_Assign_stores (he.ok I q fun u s' v H' ρ' J rv rd st=>?_) hs hw
   rw[h1];exact hg pins s' σ H' ρ' S1 env d v u env' _ _ J q2 rd rv fun s2 σ2 I2=>⟨.nx env',S1,rfl,rfl,σ2,H',ρ',I2,st,fun z=>nomatch z⟩
theorem Xw5{kt k2 pt2}(hc:X.calm=true)(hN:X.N.Nodup)(hi:X.N[i]?=some x)(hj:X.N[j]?=some y)(hij:i≠j)
  (hx:X.env.scope.names.lookup x=some .local) (hy:X.env.scope.names.lookup y=some .local) (ha:DA X [a,b] ga)
  (hw:swappedStores [.Tuple [.Name x px,.Name y py] kt pt] (.Tuple [a,b] k2 pt2) X.env=pure (some [x,y]))
  (hs:swapsWithSole [.Tuple [.Name x px,.Name y py] kt pt] (.Tuple [a,b] k2 pt2) pos.line X.env=pure false) :
  DS X (.Assign [.Tuple [.Name x px,.Name y py] kt pt] (.Tuple [a,b] k2 pt2) pos) false (fun env S=>(ga env S).bind fun xs S=>if [i,j].length=xs.length then .ok (.nx (([i,j].zip xs).foldl (fun e p=>e.set p.1 (some p.2)) env)) S else .bad):=by
 intro pins s σ H ρ S env I nb;dsimp only at nb ⊢;rw[exec_Assign_arm];refine wpAny_bind (wpAny_standAt ?_);rw[hs];refine wpAny_bind (wpAny_pure ?_);rw[if_neg (by decide)]
 cases q:ga env S with
 | bad=>rw[q] at nb;exact absurd rfl nb
 | ex n S1=>exact wpAny_bind (Tuple_ (ha.ex I q fun x s' z=>.of .refl z rfl))
 | ok ds S1 =>
  rw[q] at nb;simp only[Rk0] at nb ⊢;split at nb
  ·rename_i hl
   rw[if_pos hl];obtain⟨d1,d2,rfl⟩:∃ d1 d2,ds=[d1,d2]:=by
    match ds,hl with
    | [d1,d2],_=>exact⟨d1,d2,rfl⟩
   refine wpAny_bind (Tuple_ (ha.ok I q fun us s1 vs H1 ρ1 I1 rvs rds st1=>?_))
   obtain⟨v,w,rfl,rd1,rd2⟩:=rds.two;obtain⟨u1,u2,rfl,rv,rw'⟩:∃ u1 u2,us=[u1,u2]/\RelV v u1/\RelV w u2:=by
    cases rvs with
    | cons p q =>
     cases q with
     | cons p' q' =>
      cases q';exact⟨_,_,rfl,p,p'⟩
   refine wpAny_newObj_type ?_ (by show 2<=sizeLine;decide)
   have I2:Inv X pins σ H1 { s1 with heap:=s1.heap.push { cls:=.type "tuple",data:=.seq [u1,u2].toArray } }:=I1.inv.kept (t':=s1.toks) fun b o e=>Heap.get?_push_of_some _ e
   rw[hw];refine wpAny_bind (wpAny_pure ?_);show wpAny (model X.prog X.w) X.A (do rule "assign.swapped-stores";let items <- unpackItems (.ref s1.heap.objs.size) 2 none;assignInOrder [fun v=>bindName X.env y v,fun v=>bindName X.env x v] items.reverse;pure Flow.next) _ _ _
   refine wpAny_bind (wpAny_rule (wpAny_bind (unpackItems_tuple (items:=#[u1,u2]) (I.inv.ok.hd hc) (IsTup.new s1.heap _) fun h' hx'=>?_)))
   have I3:=I2.kept (h':=h') (t':=s1.toks) fun b o e=>hx' b o (Nat.ne_of_lt (Heap.lt_size e)) e
   show wpAny _ _ (assignInOrder [fun v=>bindName X.env y v,fun v=>bindName X.env x v] [u2,u1] >>= fun _=>pure Flow.next) _ _ _
   refine wpAny_bind (assignInOrder_cons (wpAny_bindName (Xba I3 hN hj (.inl hy) rw' (fun s2 I4=>?_) (.inr hy))))
   refine assignInOrder_cons (wpAny_bindName (Xba I4 hN hi (.inl hx) rv (fun s3 I5=>assignInOrder_nil (wpAny_pure ?_)) (.inr hx)))
   rw[List.set_comm _ _ (Ne.symm hij)] at I5;exact⟨.nx ((env.set i (some d1)).set j (some d2)),S1,rfl,rfl,_,H1,ρ1,⟨I5,I1.sr,(I1.er.set i rd1).set j rd2⟩,st1,fun z=>nomatch z⟩
  ·exact absurd rfl nb
theorem X1j(I:S0 X pins σ H s ρ S env)(nb:Xa3 x y d S≠.bad)(rx:RD X.K ρ H x vx)(qx:RelV vx ux)(ry:RD X.K ρ H y vy)(qy:RelV vy uy)(rd:RD X.K ρ H d v)(rv:RelV v u)
  (hQ:∀ S' s' H',Xa3 x y d S=.ok () S'->S0 X pins σ H' s' ρ S' env->Stp X.K ρ ρ H H'->Q () s'):wpAny (model X.prog X.w) X.A (setItem ux uy u) Q Ev s:=by
 unfold Xa3 at nb hQ;cases x with
 | ref n=>cases y with
  | int k =>
   dsimp only at nb hQ;cases e:Z.lstM S n with
   | none=>rw[e] at nb;exact absurd rfl nb
   | some xs =>
    rw[e] at nb hQ;dsimp only at nb hQ;cases e2:Z.ixN xs.length k with
    | none=>rw[e2] at nb;exact absurd rfl nb
    | some j =>
     rw[e2] at hQ;obtain⟨a,ws,rfl,ha,hv,hr⟩:=I.lstR e rx;simp only[RD] at ry;subst ry;have hl:L2.ixN ws.length k=some j:=by rw[<- hr.length];exact e2
     refine thn (Xr8 (X:=X.wish Ev) pins s σ H (.ref a) (.int k) v ux uy u (fun H'=>H'=upd H a (.lst (ws.set j v))) (I.inv.wish Ev) qx qy rv ⟨a,ws,k,j,rfl,rfl,hv,hl,rfl⟩) fun _ s' ⟨H',J,e3⟩=>?_
     subst e3;have st:Stp X.K ρ ρ H (upd H a (.lst (ws.set j v))):=Stp.chg (S:=S) (o:=.lst (xs.set j d)) I.sr ha;exact hQ _ s' _ rfl ⟨J.unwish,I.sr.chg ha ⟨ws.set j v,Yb,(hr.set rd j).mono st⟩,I.er.mono st⟩ st
  | _=>exact absurd rfl nb
 | _=>cases y<;>exact absurd rfl nb
end
section
variable{X:Cx}{pins:List (Addr×Obj)}{σ:L2.St}{H:Hp}{s:Shared}{ρ:List Addr}{S S':Sto}{env:En}{a b c e o i:Expr}{f fa fb fc fo fi:En->Sto->R D}{pos spos:Pos}
theorem Xw6(he:DE X e f)(ho:DE X o fo)(hi:DE X i fi)(hs:swapsWithSole [.Subscript o i spos] e pos.line X.env=pure false)(hw:swappedStores [.Subscript o i spos] e X.env=pure none)
  (hA:∀ v,assign (.Subscript o i spos) X.env v=(do
   let ov <- holding [v] (eval o X.env)
   let iv <- holding [v,ov] (eval i X.env)
   standAt spos
   holding [v,ov,iv] (setItem ov iv v)
   release [v,ov,iv] [])) :
  DS X (.Assign [.Subscript o i spos] e pos) true (fun env S=>(f env S).bind fun v S=>(fo env S).bind fun x S=>(fi env S).bind fun y S=>(Xa3 x y v S).bind fun _ S=>.ok (.nx env) S):=by
 intro pins s σ H ρ S env I nb;dsimp only at nb ⊢;generalize hr:(f env S).bind (fun v S=>(fo env S).bind fun x S=>(fi env S).bind fun y S=>(Xa3 x y v S).bind fun _ S=>R.ok (Fl.nx env) S)=r at nb ⊢
 have h1:(assignEach [Expr.Subscript o i spos] X.env).map (·.2)=[assign (.Subscript o i spos) X.env]:=rfl;refine wpAny_Assign_stores (he.bind I (by rw[hr];exact nb) hr.symm (fun d S1 u s1 v H1 ρ1 e1 nb1 I1 rv rd st1=>?_) fun x s' ⟨n,S2,e2,z⟩=>.of .refl z e2) hs hw
 rw[h1];show wpAny _ _ (assign (.Subscript o i spos) X.env u) _ _ _;rw[hA];refine wpAny_bind (wpAny_holding (ho.bind I1 nb1 e1 (fun x S2 ux s2 vx H2 ρ2 e2 nb2 I2 rvx rdx st2=>?_) fun x s' ⟨n,S3,e3,z⟩=>.of st1 z e3))
 refine wpAny_bind (wpAny_holding (hi.bind I2 nb2 e2 (fun y S3 uy s3 vy H3 ρ3 e3 nb3 I3 rvy rdy st3=>?_) fun x s' ⟨n,S4,e4,z⟩=>.of (st1.trans st2) z e4))
 refine wpAny_bind (wpAny_standAt (wpAny_bind (wpAny_holding (X1j I3 (fun z=>nb3 (by rw[z];rfl)) (rdx.mono st3) rvx rdy rvy ((rd.mono st2).mono st3) rv fun S4 s4 H4 e4 I4 st4=>?_))))
 refine wpAny_release ⟨.nx env,S4,by rw[e3,e4];rfl,rfl,σ,H4,ρ3,I4,st1.trans (st2.trans (st3.trans st4)),fun _=>rfl⟩
theorem X35(I:S0 X pins σ H s ρ S env)(nb:Xbw op x y S≠.bad)(rx:RD X.K ρ H x vx)(qx:RelV vx ux)(ry:RD X.K ρ H y vy)(qy:RelV vy uy) :
  wpAny (model X.prog X.w) X.A (inplaceOp (opB op) ux uy) (OkP X pins σ ρ H (Xbw op x y S)) Ev s:=by
 unfold Xbw at nb ⊢;split at nb
 ·simp only[RD] at rx ry;subst rx ry
  obtain⟨t,rfl⟩:=qx;obtain⟨t',rfl⟩:=qy;exact iadd_int (Y5 I.sr (I.inv.tok _))
 ·simp only[RD] at rx ry;subst rx ry
  obtain⟨t,rfl⟩:=qx;obtain⟨t',rfl⟩:=qy;exact isub_int (Y5 I.sr (I.inv.tok _))
 ·simp only[RD] at rx ry;subst rx ry
  obtain⟨t,rfl⟩:=qx;obtain⟨t',rfl⟩:=qy;split at nb
  ·rename_i hm
   rw[if_pos hm];exact imul_int (Y5 I.sr (I.inv.tok _)) (Xj5 hm)
  ·exact absurd rfl nb
 ·exact absurd rfl nb
theorem X1k(hN:X.N.Nodup)(hi:X.N[k]?=some x)(hx:Loc X.env.scope x)(hf:X.fn x=true\/X.env.scope.names.lookup x=some .local)(he:DE X e f) :
  DS X (.AugAssign (.Name x spos) (opB op) e pos) false (fun env S=>match env[k]? with
   | some (some x)=>(f env S).bind fun y S=>(Xbw op x y S).bind fun z S=>.ok (.nx (env.set k (some z))) S
   | _=>.bad):=by
 intro pins s σ H ρ S env I nb;dsimp only at nb ⊢;split at nb
 ·rename_i d hd
  obtain⟨v,e1,rd⟩:=I.er.2 k d hd;generalize hr:((f env S).bind fun y S=>(Xbw op d y S).bind fun z S=>R.ok (Fl.nx (env.set k (some z))) S)=r at nb ⊢
  obtain⟨m,hn,hl⟩:=I.inv.loc;have vis:Vis X.env.scope x:=by rcases hx with k|k;exact .inl k;exact .inr (.inl k)
  obtain⟨u,rv,l⟩:=hl k x v hi e1 vis;refine wpAny_AugAssign_Name ?_;have go:wpAny (model X.prog X.w) X.A (eval e X.env) (fun w s₂=>wpAny (model X.prog X.w) X.A (inplaceOp (opB op) u w) (fun z s₃=>wpAny (model X.prog X.w) X.A (storeName X.env x z) (fun _=>OkS X pins σ ρ H false r .next) (ExS X pins σ ρ H false r) s₃) (ExS X pins σ ρ H false r) s₂) (ExS X pins σ ρ H false r) s:=by
   refine he.bind I (by rw[hr];exact nb) hr.symm (fun d2 S1 w s1 v2 H1 ρ1 e2 nb2 I1 rv2 rd2 st1=>?_) fun x s' ⟨n,S2,e2,z⟩=>.of .refl z e2
   refine wpAny_mono (X35 (Ev:=fun _ _=>False) I1 (fun z=>nb2 (by rw[z];rfl)) (rd.mono st1) rv rd2 rv2) (fun z s3 hz=>?_) fun _ _ z=>z.elim
   obtain⟨d3,S3,e3,v3,H3,ρ3,J3,rv3,rd3,sr3,st3⟩:=hz;exact Xba J3 hN hi hx rv3 (fun s4 I4=>⟨.nx (env.set k (some d3)),S3,by rw[e2,e3];rfl,rfl,_,H3,ρ3,⟨I4,sr3,(I1.er.mono st3).set k rd3⟩,st1.trans st3,fun z=>nomatch z⟩) hf
  rcases l with⟨hk,hm⟩|⟨hk,c,hc,hcell⟩
  ·exact wpAny_loadName_local I.inv.ok.kind hk hn hm go
  ·rcases hk with hk|hk
   ·exact wpAny_loadName_cell I.inv.ok.kind hk hc hcell go
   ·rcases hx with k|k
    ·have:X.env.scope.names.lookup x=some .free:=hk
     rw[k] at this;cases this
    ·have:X.env.scope.names.lookup x=some .free:=hk
     rw[k] at this;cases this
 ·exact absurd rfl nb
theorem X1l(hc:DT X c (fun env S=>tst (fc env S)))(hb:DSs X body na g) :
  DS X (.While c body [] pos) false (fun env S=>Xbl (fun env S=>tst (fc env S)) g 100000 env S):=by
 intro pins s σ H ρ S env I nb;dsimp only at nb ⊢;have hp:PassesOwn (model X.prog X.w) X.A X.env (fun _ _=>False):=PassesOwn.never
 generalize hn:100000=n0 at nb ⊢;generalize hr0:Xbl (fun env S=>tst (fc env S)) g n0 env S=r0 at nb ⊢
 refine wpAny_mono (E:=fun _ _=>False) (wpAny_While (codeAny_whileLoop (fun n s'=>∃ σ' H' ρ' S' env',S0 X pins σ' H' s' ρ' S' env'/\Stp X.K ρ ρ' H H'/\Xbl (fun env S=>tst (fc env S)) g n env' S'≠.bad/\Xbl (fun env S=>tst (fc env S)) g n env' S'=r0) ?_ n0 ⟨σ,H,ρ,S,env,I,.refl,by rw[hr0];exact nb,hr0⟩)) (fun _ _ z=>z) fun _ _ z=>z.elim
 rintro n s3 ⟨σ3,H3,ρ3,S3,env3,I3,st3,nb3,eq3⟩
 cases n with
 | zero=>exact absurd rfl nb3
 | succ n =>
  simp only[Xbl] at nb3 eq3;cases e4:tst (fc env3 S3) with
  | bad=>rw[e4] at nb3;exact absurd rfl nb3
  | ex m S4=>rw[e4] at nb3;exact absurd rfl nb3
  | ok t S4 =>
   refine wpAny_passesOwn hp (hc.ok I3 e4 fun s4 H4 ρ4 I4 st4=>?_)
   rw[e4] at nb3 eq3;cases t with
   | false =>
    rw[if_neg Bool.false_ne_true];exact wpAny_execs_nil ⟨.nx env3,S4,eq3.symm,rfl,σ3,H4,ρ4,I4,st3.trans st4,fun z=>nomatch z⟩
   | true =>
    rw[if_pos rfl];dsimp only at nb3 eq3;cases e5:g env3 S4 with
    | bad=>rw[e5] at nb3;exact absurd rfl nb3
    | ex m S5=>rw[e5] at nb3;exact absurd rfl nb3
    | ok x5 S5 =>
     rw[e5] at nb3 eq3;refine wpAny_passesOwn hp (hb.ok I4 e5 fun fl s5 z5=>?_)
     cases x5 with
     | nx e=>obtain⟨rfl,σ5,H5,ρ5,I5,st5,_⟩:=z5;exact⟨n,Nat.lt_succ_self _,σ5,H5,ρ5,S5,e,I5,st3.trans (st4.trans st5),nb3,eq3⟩
     | cnt e=>obtain⟨rfl,σ5,H5,ρ5,I5,st5⟩:=z5;exact⟨n,Nat.lt_succ_self _,σ5,H5,ρ5,S5,e,I5,st3.trans (st4.trans st5),nb3,eq3⟩
     | brk e=>obtain⟨rfl,σ5,H5,ρ5,I5,st5⟩:=z5;exact⟨.nx e,S5,eq3.symm,rfl,σ5,H5,ρ5,I5,st3.trans (st4.trans st5),fun z=>nomatch z⟩
     | rt d=>obtain⟨u,v,σ5,H5,ρ5,rfl,J5,rv5,rd5,sr5,st5⟩:=z5;exact⟨.rt d,S5,eq3.symm,u,v,σ5,H5,ρ5,rfl,J5,rv5,rd5,sr5,st3.trans (st4.trans st5)⟩
end
def X1m(C:Addr)(h:Heap):Prop:=∃ tl N nm qn bs hd sn sub ab col dd k0 k1 k2 k3 k5 mN,
 h.get? C=some (excClassObj nm qn C N bs tl hd sn sub ab col dd k0 k1 k2 k3 k5 "ValueError.__new__")/\h.Ns N mN/\mN "__init__" = none/\OwnTail h bmV tl
theorem Xw7 {K:PySem.W.Frag} {h:Heap} {C:Addr} (hK:K.In h) (hq:PySem.W.excIn K C bmV "ValueError.__new__" = true):X1m C h:=by
 unfold PySem.W.excIn at hq;split at hq
 case h_2=>cases hq
 rename_i _ dct cdt slt lk
 split at hq
 case h_2=>cases hq
 rename_i _ C1 tl s0 s1 s2 s3 nw s5 em es
 simp only[bA0,beq_iff_eq,Bool.not_eq_true'] at hq;obtain⟨⟨⟨⟨⟨e1,e2⟩,e3⟩,e4⟩,e5⟩,e6⟩:=hq;subst e1 e2;cases cdt;dsimp only at em e3 e5 e6;subst em e3;have esl:slt=#[s0,s1,s2,s3,some (.builtin "ValueError.__new__"),s5]:=by
  cases slt;dsimp only at es;rw[es]
 subst esl;exact⟨tl,_,_,_,_,_,_,_,_,_,_,_,_,_,_,_,_,hK _ _ lk,.of_isNs (PySem.W.isNs_of_in hK e5),PySem.W.nsMap_none_of_in hK e5 e6,PySem.W.tail_of_in hK e4⟩
theorem _root_.L2.Inv.newX(I:Inv X pins σ H s)(k:∀ b u,s.heap.get? b=some u->h'.get? b=some u)(hn:s.heap.get? a=none)
  (new:ObjOk X.prog X.w (upd H a o) h' a o):Inv X pins σ (upd H a o) { s with heap:=h' }/\HOk X.prog X.w (upd H a o) h':=by
 have hna:H a=none:=by
  cases z:H a with
  | none=>rfl
  | some w=>obtain⟨q,e⟩:=Xcz (I.hok a w z);rw[hn] at e;cases e
 have ne:∀ b u,H b=some u->b≠a:=fun b u q=>Xq q hna
 have hok:HOk X.prog X.w (upd H a o) h':=fun b u q=>by
  by_cases hb:b=a
  ·subst hb;rw[Yb] at q;cases q;exact new
  ·rw[Xf hb] at q
   exact(I.hok b u q).stay (fun c v _ e=>k c v e) (fun c z=>by rw[Xf (ne c _ z)];exact z) fun c xs z=>by rw[Xf (ne c _ z)];exact z
 refine⟨I.un (t':=s.toks) ⟨fun b u e _ _ _=>k b u e,fun b u e _ _ _=>⟨u.slots,k b u e⟩,fun b u e n _=>?_,fun b u e _=>⟨u,k b u e⟩,fun b xs z=>by rw[Xf (ne b _ z)];exact z,fun b u xs z=>by rw[Xf (ne b _ z)];exact z,fun b ps z=>⟨#[],by rw[Xf (ne b _ z),z];simp⟩⟩ hok,hok⟩
 rw[Xf (fun z=>by rw[z,hn] at e;cases e)];exact n
section
variable{X:Cx}{pins:List (Addr×Obj)}{σ:L2.St}{H:Hp}{s:Shared}{ρ:List Addr}{S S':Sto}{env:En}{e:Expr}{f:En->Sto->R D}{pos np cpos:Pos}
theorem X1n {c:Nat} {x:Str} {C:Addr} (hc:X.calm=true) (hx:Xbm c=some x) (hn:PySem.W.nsIn X.K mainGlobals x=some (some (.ref C))) (hq:PySem.W.excIn X.K C bmV "ValueError.__new__" = true)
  (hg:Gl X x) (hdb:(x==("__debug__" : Str))=false) (he:DE X e f) (hst:Yw e=true):DS X (.Raise (some (.Call (.Name x np) [e] [] cpos)) none pos) true (fun env S=>(f env S).bind fun _ S=>.ex S.length (S++[.exc c])):=by
 intro pins s σ H ρ S env I nb;dsimp only at nb ⊢;have hm:X.mg x=some (.ref C):=PySem.W.mg_of I.inv.mod.kin I.inv.mod.glob hn;have hcl:Xah X.K c=some C:=by unfold Xah;rw[hx];simp only[Option.bind_some,hn]
 obtain⟨tl,N,nm,qn,bs,hd,sn,sub,ab,col,dd,k0,k1,k2,k3,k5,mN,hC,hN,hni,T⟩:=Xw7 I.inv.mod.kin hq;refine wpAny_Raise_call_subT (C:=C) (nm:=nm) (q:=qn) (N:=N) (bs:=bs) (bm:=tl) (hdct:=hd) (sn:=sn) (sub:=sub) (ab:=ab) (col:=col) (dd:=dd) (k0:=k0) (k1:=k1) (k2:=k2) (k3:=k3) (k5:=k5)
  PySem.F.excBase_ValueError (mN:=mN) (T.hasType PySem.F.excBase_ValueError.hasBase) (I.inv.ok.hd hc) (by rw[Xs hst];rfl) hni (Xdc I.inv hg hm ⟨rfl,?_⟩ hdb)
 rw[Xs hst];refine Calls.evalArgs_plain ?_;generalize hr:((f env S).bind fun _ S=>(R.ex S.length (S++[.exc c]):R Fl))=r at nb ⊢
 refine Calls.spliced_cons (he.bind I (by rw[hr];exact nb) hr.symm (fun d S1 u s1 v H1 ρ1 e1 nb1 I1 rv rd st1=>Calls.spliced_nil ?_) fun y s' ⟨n,S2,z1,z2⟩=>⟨n,S2,σ,z1,fun _=>rfl,z2⟩)
 refine⟨rfl,by simp[sizeLine],I1.inv.bk _ _ hC,hN.keeps I1.inv.bk,T.keeps I1.inv.bk,fun h' a hmk=>?_⟩
 obtain⟨t,h1,h2,h3⟩:=hmk.there;have hna:H1 a=none:=by
  cases z:H1 a with
  | none=>rfl
  | some w=>obtain⟨o,e⟩:=Xcz (I1.inv.hok a w z);rw[hmk.new] at e;cases e
 have xo:ExcO C a h':=⟨_,_,_,h1,rfl,rfl,rfl,by simp⟩
 obtain⟨J,hok⟩:=I1.inv.newX hmk.keeps hmk.new xo.ok;refine⟨S1.length,S1++[.exc c],σ,e1,fun _=>rfl,_,ρ1++[a],a,c,J,rfl,?_,by simp,I1.sr.new1 (o:=.exc c) hna ⟨C,hcl,Yb⟩,st1.trans (Stp.new1 hna),.inl ⟨_,_,h1,rfl,rfl⟩⟩
 rw[<- I1.sr.len];simp
end
noncomputable def inH(X:Cx)(a:Addr):Cx:={ X with A:=X.A.mark (some (.ref a)),calm:=false }
section
variable{X:Cx}{pins:List (Addr×Obj)}{σ:L2.St}{H:Hp}{s:Shared}{a:Addr}
theorem Inv.inH(I:Inv X pins σ H s)(a:Addr):Inv (inH X a) pins σ H s :=
 ⟨⟨I.ok.mod,I.ok.kind,I.ok.glob,I.ok.blt,I.ok.above,I.ok.inj,I.ok.has,I.ok.cab,(fun z=>nomatch z),I.ok.frames,I.ok.stk,I.ok.exf,I.ok.bs,I.ok.bsz,I.ok.noex,I.ok.exfs,I.ok.funs,I.ok.frf⟩,I.os,I.bare,I.base,I.loc,I.cell,I.free,I.freeC,I.pin,I.hok,I.len⟩
theorem Inv.outH(I:Inv (Z.inH X a) pins σ H s)(ok:X.Ok):Inv X pins σ H s:=⟨ok,I.os,I.bare,I.base,I.loc,I.cell,I.free,I.freeC,I.pin,I.hok,I.len⟩
theorem Inv.fly(I:Inv X pins σ H s)(ha:H a=some (.ext (ExcO C a)))(hl:Hid X H a s.heap l)
  (hnew:∀ b∈l,b≠a->b ∉ frs X.stack->(b∈X.ex\/X.s₀.heap.get? b=none)/\∀ p∈X.pn++pins,p.1≠b) (k1:(PySem.W.hideAll s.heap l).StaysIn h') (k4:s.heap.UpToSlots h') (he:ExcO C a h') :
  Inv X pins σ H { s with heap:=h' }:=by
 have keep:∀ b o,s.heap.get? b=some o->b ∉ l->h'.get? b=some o:=fun b o e hb=>k1 b o (PySem.W.hideAll_get l e hb)
 have nfr:∀ b∈frs X.stack,∃ o,s.heap.get? b=some o/\∀ vs,o.data≠.fields vs:=fun b hb=>(I.stack.mem hb).2
 have old:∀ b o,X.s₀.heap.get? b=some o->b≠X.env.locals:=fun b o e=>Nat.ne_of_lt (Nat.lt_of_lt_of_le (Heap.lt_size e) I.ok.above)
 have cellK:∀ x c,X.env.cells.lookup x=some c->∀ v,s.heap.IsCell c v->h'.IsCell c v:=fun x c e v ⟨o,ho,hd⟩=>by
  obtain⟨sl,q⟩:=k4 c o ho fun vs z=>by rw[hd] at z;cases z
  exact⟨_,q,hd⟩
 refine⟨I.ok,I.os,I.bare,⟨fun b o e n hb hx=>?_,fun b o e n hb hx=>?_,fun b o e n hx=>I.base.free b o e n hx,fun b o e hx=>?_,I.base.tups,I.base.frzs,I.base.tbls⟩,?_,fun x c e=>?_,I.free,I.freeC,fun p hp=>?_,Xmg I ha hl keep he,I.len⟩
 ·refine keep b o (I.base.keep b o e n hb hx) fun hm=>?_
  have fb:=I.base.free b o e n hx
  by_cases h1:b=a
  ·rw[h1,ha] at fb;cases fb
  ·by_cases h2:b∈frs X.stack
   ·rcases List.mem_cons.mp (I.stkSub b h2) with z|z
    ·exact old b o e z
    ·exact hb z
   ·rcases (hnew b hm h1 h2).1 with z|z
    ·exact hx z
    ·rw[z] at e;cases e
 ·obtain⟨sl,e1⟩:=I.base.slot b o e n hb hx
  obtain⟨_,o',e',nd⟩:=I.funs.mem hb;rw[e1] at e';cases e';obtain⟨sl',e2⟩:=k4 b _ e1 nd;exact⟨sl',e2⟩
 ·obtain⟨o',e1⟩:=I.base.there b o e hx
  by_cases hm:b∈l
  ·by_cases h1:b=a
   ·subst h1;obtain⟨oe,_,_,q,_⟩:=he;exact⟨_,q⟩
   ·by_cases h2:b∈frs X.stack
    ·obtain⟨o2,e2,nd⟩:=nfr b h2
     rw[e1] at e2;cases e2;obtain⟨sl,e3⟩:=k4 b _ e1 nd;exact⟨_,e3⟩
    ·rcases (hnew b hm h1 h2).1 with z|z
     ·exact absurd z hx
     ·rw[z] at e;cases e
  ·exact⟨_,keep b o' e1 hm⟩
 ·obtain⟨m,hn,hlk⟩:=I.loc
  refine⟨m,k4.ns hn,fun i x v e1 e2 e3=>?_⟩
  obtain⟨u,r,lk⟩:=hlk i x v e1 e2 e3;refine⟨u,r,?_⟩;rcases lk with lk|⟨kd,c,e,z⟩
  ·exact .inl lk
  ·exact .inr ⟨kd,c,e,cellK x c e _ z⟩
 ·obtain⟨v,z⟩:=I.cell x c e
  exact⟨v,cellK x c e v z⟩
 ·obtain⟨e,n,ne,nf,d⟩:=I.pin p hp
  refine⟨keep p.1 p.2 e fun hm=>?_,n,ne,nf,d⟩
  by_cases h1:p.1=a
  ·rw[h1,ha] at n;cases n
  ·by_cases h2:p.1∈frs X.stack
   ·rcases List.mem_cons.mp (I.stkSub p.1 h2) with z|z
    ·exact ne z
    ·exact nf z
   ·exact(hnew p.1 hm h1 h2).2 p hp rfl
theorem Inv.goes(I:Inv X pins σ H s)(hl:X.env.scope.names.lookup n=some .local)
  (h:∀ s',Inv X pins (List.replicate σ.length none) H s'->Q () s'):wpAny M A (do bindName X.env n .none;unbindBehindTheSuite X.env n p) Q E s:=by
 obtain⟨m,hn,_⟩:=I.loc;refine wpAny_nameGoes hl hn (by rw[I.ok.kind];rfl) fun h' m' hn' sb=>h _ ?_
 obtain⟨o,es,ep,ho,r⟩:=id hn;obtain⟨o',es',ep',ho',r'⟩:=id hn';have old:∀ b u,X.s₀.heap.get? b=some u->b≠X.env.locals:=fun b u e=>Nat.ne_of_lt (Nat.lt_of_lt_of_le (Heap.lt_size e) I.ok.above)
 have cellK:∀ x c,X.env.cells.lookup x=some c->∀ v,s.heap.IsCell c v->h'.IsCell c v:=fun x c e v ⟨u,hu,hd⟩=>⟨u,(sb.2 c (I.cne x c e)).trans hu,hd⟩
 refine⟨I.ok,I.os,I.bare,⟨fun b u e q hb hx=>(sb.2 b (old b u e)).trans (I.base.keep b u e q hb hx),fun b u e q hb hx=>?_,I.base.free,fun b u e hx=>?_,I.base.tups,I.base.frzs,I.base.tbls⟩,⟨m',hn',fun i x v _ e2 _=>?_⟩,fun x c e=>?_,I.free,I.freeC,fun p hp=>?_,fun b u q=>?_,by rw[List.length_replicate];exact I.len⟩
 ·obtain⟨sl,z⟩:=I.base.slot b u e q hb hx
  exact⟨sl,(sb.2 b (old b u e)).trans z⟩
 ·obtain⟨w,z⟩:=I.base.there b u e hx
  exact⟨w,(sb.2 b (old b u e)).trans z⟩
 ·rw[List.getElem?_replicate] at e2
  split at e2<;>cases e2
 ·obtain⟨v,z⟩:=I.cell x c e
  exact⟨v,cellK x c e v z⟩
 ·obtain⟨e,n,ne,r⟩:=I.pin p hp
  exact⟨(sb.2 _ ne).trans e,n,ne,r⟩
 ·have ne:∀ c v,H c=some v->c≠X.env.locals:=fun c v z=>Xq z I.free
  refine(I.hok b u q).stay (fun c v hc e=>?_) (fun _ z=>z) fun _ _ z=>z
  rcases hc with rfl|hc
  ·exact(sb.2 _ (ne _ _ q)).trans e
  ·exact(sb.2 _ (ne _ _ hc)).trans e
noncomputable def Xs2(c i:Nat)(g gh:En->Sto->R Fl)(env:En)(S:Sto):R Fl:=match g env S with
 | .ex m S'=>match S'[m]? with
  | some (.exc c')=>if c==0||c==c' then
    match gh (env.set i (some (.ref m))) S' with
    | .ok (.rt d) S''=>.ok (.rt d) S''
    | _=>.bad
   else .bad
  | _=>.bad
 | r=>r
theorem X1o(hs:X.stack=X.env::X.outer)(hf:X.env.frame=some X.env.locals)
  (hN:X.N.Nodup) (hi:X.N[i]?=some n) (hl:X.env.scope.names.lookup n=some .local) (hn:PySem.W.nsIn X.K mainGlobals x=some (some (.ref C0))) (hg:Gl X x) (hdb:(x==("__debug__" : Str))=false)
  (hm:∀ c' C,Xah X.K c'=some C->(c==0||c==c')=true->PySem.W.exmOne X.K (.ref C) (.ref C0)=some true) (hb:DSs X body true g) (hh:∀ a,DSs (Z.inH X a) (b0::suite) na gh) :
  DS X (.Try body [.ExceptHandler (some (.Name x np)) (some n) (b0::suite) hp] [] [] pos) false (Xs2 c i g gh):=by
 intro pins s σ H ρ S env I nb;unfold Xs2 at nb ⊢;refine wpAny_Try_except ?_;cases q:g env S with
 | bad=>rw[q] at nb;exact absurd rfl nb
 | ok y S1 =>
  refine wpAny_mono (hb pins s σ H ρ S env I (by rw[q];exact fun z=>nomatch z)) (fun fl s1 z=>?_) fun x s1 z=>?_
  ·rw[q] at z
   have z':=z.pre (σ:=σ) (na':=false) .refl fun w=>nomatch w
   obtain⟨y',S2,e,z2⟩:=z;cases e;cases y with
   | nx e=>obtain⟨rfl,_⟩:=z2;exact wpAny_execs_nil z'
   | brk e=>obtain⟨rfl,_⟩:=z2;exact z'
   | cnt e=>obtain⟨rfl,_⟩:=z2;exact z'
   | rt d=>obtain⟨u,v,σ',H',ρ',rfl,_⟩:=z2;exact z'
  ·obtain⟨k,S2,σ2,e,_⟩:=z
   rw[q] at e;cases e
 | ex m S1 =>
  rw[q] at nb;dsimp only at nb ⊢;refine wpAny_mono (hb pins s σ H ρ S env I (by rw[q];exact fun z=>nomatch z)) (fun fl s1 z=>?_) fun x1 s1 z=>?_
  ·obtain⟨y,S2,e,_⟩:=z
   rw[q] at e;cases e
  obtain⟨m',S2,σ',e,hσ,H1,ρ1,a,c',J,rfl,hρ,hc,sr,st,fl⟩:=z;rw[q] at e;cases e;cases hσ rfl;rw[hc] at nb ⊢;dsimp only at nb ⊢;have hcc:(c==0||c==c')=true:=by
   cases z:(c==0||c==c') with
   | true=>rfl
   | false=>rw[z] at nb;exact absurd rfl nb
  rw[if_pos hcc] at nb ⊢;obtain⟨d,S2,hgh⟩:∃ d S2,gh (env.set i (some (.ref m))) S1=.ok (.rt d) S2:=by
   cases z:gh (env.set i (some (.ref m))) S1 with
   | bad=>rw[z] at nb;exact absurd rfl nb
   | ex _ _=>rw[z] at nb;exact absurd rfl nb
   | ok y S2 =>
    rw[z] at nb;cases y with
    | rt d=>exact⟨d,S2,rfl⟩
    | nx _=>exact absurd rfl nb
    | brk _=>exact absurd rfl nb
    | cnt _=>exact absurd rfl nb
  rw[hgh];dsimp only;obtain⟨C,hC,ha⟩:=(show ∃ C,Xah X.K c'=some C/\H1 a=some (.ext (ExcO C a)) from sr.ob m a _ hρ hc);have hex:=hm c' C hC hcc;obtain⟨⟨oa,va,a0,ea,ca,da,v0,vz⟩,_,_⟩:=(show ObjOk X.prog X.w H1 s1.heap a (.ext (ExcO C a)) from J.hok a _ ha);have hA:X.A.frames=some (X.env::X.outer):=by rw[<- hs];exact J.ok.frames
  have main:∀ (l:List Addr),Hid X H1 a s1.heap l->(∀ b∈l,b≠a->b ∉ frs X.stack->(b∈X.ex\/X.s₀.heap.get? b=none)/\∀ p∈X.pn++pins,p.1≠b) ->
    ∀ h2,Heap.HeldW (PySem.W.hideAll s1.heap l) (X.env::X.outer) a (.ref C) a0 X.env.locals h2->s1.heap.UpToSlots h2 ->
    wpAny (model X.prog X.w) X.A (setFlight (.ref a) none) (fun _ s3=>wpAny (model X.prog X.w) X.A (handleBy (.ref a) X.env [.ExceptHandler (some (.Name x np)) (some n) (b0::suite) hp])
     (OkS X pins σ ρ H false (.ok (.rt d) S2)) (ExS X pins σ ρ H false (.ok (.rt d) S2)) s3) (ExS X pins σ ρ H false (.ok (.rt d) S2)) { s1 with heap:=h2 }:=by
   intro l hid hnew h2 hh2 up2;have inv:∀ {h':Heap},Heap.FlyingW (PySem.W.hideAll s1.heap l) (X.env::X.outer) a (.ref C) a0 h'->s1.heap.UpToSlots h'->Inv X pins σ H1 { s1 with heap:=h' }:=fun {h'} fw up=>by
    obtain⟨f1,_,_,oe,vs,T,oT,ts,t1,⟨t2,t3⟩,t4,t5,_⟩:=fw;exact Inv.fly J ha hid hnew f1 up ⟨oe,vs,a0,t1,t2,t4,t3,(Array.getElem?_eq_some_iff.mp t5).1⟩
   refine wpAny_landsW hh2 fun h3 fw3 up3=>?_
   have J3:=inv fw3 (up2.trans up3);obtain⟨ob,hob,hobc⟩:=fw3.there;refine wpAny_handleBy_cons (codeAny_handlers_test (Xdc (Inv.inH J3 a) hg (PySem.W.mg_of J.mod.kin J.mod.glob hn) ?_ hdb)) (by intro z;cases z)
   have LT:PySem.W.Looks (model X.prog X.w) h3 (typeOf (.ref a)) (.ref C):=hobc▸(PySem.W.Looks.ld hob).andThen .now;refine(PySem.W.exm_one J3.kIn LT hex).at ?_;refine codeAny_handlers_suite_as (lands_againW fw3 fun h4 fw4 up4=>?_)
   have J4:=inv fw4 ((up2.trans up3).trans up4);refine Xba (X:=Z.inH X a) (v:=.ref a) (Inv.inH J4 a) hN hi (.inl hl) rfl (fun s5 J5=>?_) (.inr hl)
   have er:ER X.K ρ1 H1 (env.set i (some (.ref m))) (σ.set i (some (.ref a))):=(I.er.mono st).set i (by simp only[RD];exact⟨a,rfl,hρ⟩)
   refine wpAny_mono (hh a pins s5 (σ.set i (some (.ref a))) H1 ρ1 S1 (env.set i (some (.ref m))) ⟨J5,sr,er⟩ (by rw[hgh];exact fun z=>nomatch z)) (fun f6 s6 z=>?_) fun y s6 z=>?_
   ·rw[hgh] at z
    obtain⟨y,S3,e,z⟩:=z;cases e;obtain⟨u,v,σ6,H6,ρ6,rfl,J6,rv,rd,sr6,st6⟩:=z;exact Inv.goes (Inv.outH J6 J.ok) hl fun s7 J7=>⟨.rt d,S2,rfl,u,v,_,H6,ρ6,rfl,J7,rv,rd,sr6,st.trans st6⟩
   ·rw[hgh] at z
    obtain⟨_,_,_,e,_⟩:=z;cases e
  have hI:=J.stack;rcases fl with⟨oe,vs,e1,e2,e3⟩|⟨oe,vs,T,oT,ts,e1,e2,e3,⟨e4,e5⟩,e6,e7,e8,e9,e10⟩
  ·have hid:Hid X H1 a s1.heap (a::frs X.stack):=⟨.head _,fun b hb=>.tail _ hb,fun b hb=>by
    rcases List.mem_cons.mp hb with z|z
    ·exact .inl z
    ·exact .inr (.inl z)⟩
   rw[ea] at e1;cases e1;rw[da] at e2;cases e2;unfold noteFrame;simp only[hf];refine wpAny_bind (wpAny_field ea da e3 ?_);rw[if_neg (by decide)]
   refine wpAny_entryW (base:=PySem.W.hideAll s1.heap (a::frs X.stack)) hA (by rw[<- hs];exact Xa7 hI fun b hb=>PySem.W.hideAll_none _ (.tail _ hb)) hf ea (fun b o e=>PySem.W.of_hideAll _ e) (PySem.W.hideAll_none _ (.head _)) da vz v0 fun h2 ⟨k1,k2,k3,k4⟩=>?_
   rw[ca] at k3;exact main _ hid (fun b hb h1 h2=>by
    rcases List.mem_cons.mp hb with z|z
    ·exact absurd z h1
    ·exact absurd z h2) h2 ⟨k1,PySem.W.hideAll_none _ (.head _),k2,k3⟩ k4
  ·have hid:Hid X H1 a s1.heap (a::T::frs X.stack):=⟨.head _,fun b hb=>.tail _ (.tail _ hb),fun b hb=>by
    rcases List.mem_cons.mp hb with z|z
    ·exact .inl z
    ·rcases List.mem_cons.mp z with z|z
     ·subst z;exact .inr (.inr ⟨e7,oT,ts,e8,e9⟩)
     ·exact .inr (.inl z)⟩
   rw[ea] at e1;cases e1;rw[da] at e2;cases e2;refine wpAny_looks_onW (base:=PySem.W.hideAll s1.heap (a::T::frs X.stack)) (cls:=.ref C) (a0:=a0) hA hf ⟨fun b o e=>PySem.W.of_hideAll _ e,PySem.W.hideAll_none _ (.head _),by rw[<- hs];exact Xa7 hI fun b hb=>PySem.W.hideAll_none _ (.tail _ (.tail _ hb)),oa,va,T,oT,ts,ea,⟨ca,v0⟩,da,e3,PySem.W.hideAll_none _ (.tail _ (.head _)),e6,e8,e9,e10⟩ fun h2 hh2 up2=>?_
   exact main _ hid (fun b hb h1 h2=>by
    rcases List.mem_cons.mp hb with z|z
    ·exact absurd z h1
    ·rcases List.mem_cons.mp z with z|z
     ·subst z;exact⟨e4,e5⟩
     ·exact absurd z h2) h2 hh2 up2
end
noncomputable def Xb9(sc:Scope):PySem.Env:={ scope:=sc,locals:=0,globals:=0,cells:=[] }
noncomputable def Xeg(b:Bool):Sem Bool->Bool
 | .pure c=>b==c
 | _=>false
noncomputable def Xks(l:Option (List Str)):Sem (Option (List Str))->Bool
 | .pure m=>decide (l=m)
 | _=>false
theorem Xcg(h:Xeg b m=true):m=pure b:=by
 cases m<;>first|cases h|skip
 simp only[Xeg,beq_iff_eq] at h;subst h;rfl
theorem Xhq(h:Xks b m=true):m=pure b:=by
 cases m<;>first|cases h|skip
 simp only[Xks,decide_eq_true_eq] at h;subst h;rfl
theorem Xkt(v:Expr)(t:Option Expr)(l:Nat)(env:PySem.Env):swapsWith v t l env=swapsWith v t l (Xb9 env.scope):=rfl
theorem Xhr(t v:Expr)(l:Nat)(env:PySem.Env):swapsWithSole [t] v l env=swapsWithSole [t] v l (Xb9 env.scope):=rfl
theorem Xhs(ts:List Expr)(v:Expr)(env:PySem.Env):swappedStores ts v env=swappedStores ts v (Xb9 env.scope):=rfl
theorem Xku(h:Xdd i=true)(v:Value):assign (.Subscript o i spos) env v=(do
   let ov <- holding [v] (eval o env)
   let iv <- holding [v,ov] (eval i env)
   standAt spos
   holding [v,ov,iv] (setItem ov iv v)
   release [v,ov,iv] []):=by
 cases i<;>first|rfl|cases h
noncomputable def X1p:Expr->Bool
 | .ListComp _ _ _ _=>true
 | _=>false
noncomputable def Xht(s:Stmt):Option (List Expr×Expr×Pos):=match s with
 | .Assign ts v p=>some (ts,v,p)
 | _=>none
theorem Xex(h:Xht s=some z):s=.Assign z.1 z.2.1 z.2.2:=by
 unfold Xht at h;split at h
 ·cases h;rfl
 ·cases h
noncomputable def Xs3(s:Stmt):Option (Expr×Operator×Expr×Pos):=match s with
 | .AugAssign t o v p=>some (t,o,v,p)
 | _=>none
theorem Xw8(h:Xs3 s=some z):s=.AugAssign z.1 z.2.1 z.2.2.1 z.2.2.2:=by
 unfold Xs3 at h;split at h
 ·cases h;rfl
 ·cases h
noncomputable def Xs4(s:Stmt):Option (Expr×Pos):=match s with
 | .Expr v p=>some (v,p)
 | _=>none
theorem Xw9(h:Xs4 s=some z):s=.Expr z.1 z.2:=by
 unfold Xs4 at h;split at h
 ·cases h;rfl
 ·cases h
noncomputable def Xs5(s:Stmt):Option (Option Expr):=match s with
 | .Return v _=>some v
 | _=>none
theorem Xxa(h:Xs5 s=some z):∃ p,s=.Return z p:=by
 unfold Xs5 at h;split at h
 ·cases h;exact⟨_,rfl⟩
 ·cases h
noncomputable def Xs6(s:Stmt):Option (Expr×List Stmt×List Stmt):=match s with
 | .If c a b _=>some (c,a,b)
 | _=>none
theorem Xxb{s:Stmt}{z:Expr×List Stmt×List Stmt}(h:Xs6 s=some z):∃ p,s=.If z.1 z.2.1 z.2.2 p:=by
 unfold Xs6 at h;split at h
 ·cases h;exact⟨_,rfl⟩
 ·cases h
noncomputable def Xs7(s:Stmt):Option (Expr×Expr×List Stmt×List Stmt):=match s with
 | .For t i b oe _=>some (t,i,b,oe)
 | _=>none
theorem Xxc(h:Xs7 s=some z):∃ p,s=.For z.1 z.2.1 z.2.2.1 z.2.2.2 p:=by
 unfold Xs7 at h;split at h
 ·cases h;exact⟨_,rfl⟩
 ·cases h
noncomputable def Xs8(s:Stmt):Option (Expr×List Stmt×List Stmt):=match s with
 | .While c b oe _=>some (c,b,oe)
 | _=>none
theorem Xxd(h:Xs8 s=some z):∃ p,s=.While z.1 z.2.1 z.2.2 p:=by
 unfold Xs8 at h;split at h
 ·cases h;exact⟨_,rfl⟩
 ·cases h
noncomputable def Xs9(s:Stmt):Option (Option Expr×Option Expr):=match s with
 | .Raise v w _=>some (v,w)
 | _=>none
theorem Xxe(h:Xs9 s=some z):∃ p,s=.Raise z.1 z.2 p:=by
 unfold Xs9 at h;split at h
 ·cases h;exact⟨_,rfl⟩
 ·cases h
noncomputable def Xta(s:Stmt):Option (List Stmt×List ExceptHandler×List Stmt×List Stmt):=match s with
 | .Try b hs oe fb _=>some (b,hs,oe,fb)
 | _=>none
theorem Xxf(h:Xta s=some z):∃ p,s=.Try z.1 z.2.1 z.2.2.1 z.2.2.2 p:=by
 unfold Xta at h;split at h
 ·cases h;exact⟨_,rfl⟩
 ·cases h
noncomputable def Xtb(h:ExceptHandler):Option (Expr×Str×Stmt×List Stmt):=match h with
 | .ExceptHandler (some e) (some n) (b::su) _=>some (e,n,b,su)
 | _=>none
theorem Xxg(q:Xtb h=some z):∃ p,h=.ExceptHandler (some z.1) (some z.2.1) (z.2.2.1::z.2.2.2) p:=by
 unfold Xtb at q;split at q
 ·cases q;exact⟨_,rfl⟩
 ·cases q
noncomputable def Xfq(s:Stmt):Nat:=match s with
 | .Pass _=>1
 | .Break _=>2
 | .Continue _=>3
 | _=>0
theorem vEnd_ok:(Xfq s=1->∃ p,s=.Pass p)/\(Xfq s=2->∃ p,s=.Break p)/\(Xfq s=3->∃ p,s=.Continue p):=by
 unfold Xfq;split
 ·exact⟨fun _=>⟨_,rfl⟩,fun z=>(nomatch z),fun z=>(nomatch z)⟩
 ·exact⟨fun z=>(nomatch z),fun _=>⟨_,rfl⟩,fun z=>(nomatch z)⟩
 ·exact⟨fun z=>(nomatch z),fun z=>(nomatch z),fun _=>⟨_,rfl⟩⟩
 ·exact⟨fun z=>(nomatch z),fun z=>(nomatch z),fun z=>(nomatch z)⟩
section
variable(cm:Bool)(fns:List (Str×Nat×Bool))(gns:List Str)(sc:Scope)(N:List Str)
noncomputable def X1q(i:Nat)(e:Ex)(v:Expr)(p:Pos)(ts:List Expr):Bool:=(Xda ts).any fun t=>(vNm t).any fun x=>decide (N[i]?=some x)&&Xhg (fun _=>true) sc x&&mt cm fns gns sc N e v&&(Xeg false (swapsWith v (some t) p.line (Xb9 sc))||(X1p v&&Xc2 (sc.names.lookup x)&&Xeg true (swapsWith v (some t) p.line (Xb9 sc))))
noncomputable def Xvb(is:List Nat)(e:Ex)(v:Expr)(p:Pos)(ts:List Expr):Bool:=(Xda ts).any fun t=>cm&&mtT (fun _=>true) sc N (.tup is) t&&mt cm fns gns sc N e v&&Xeg false (swapsWithSole [t] v p.line (Xb9 sc))&&Xks none (swappedStores [t] v (Xb9 sc))
noncomputable def X36(es:Exs)(p:Pos)(i j:Nat)(a b x y t v:Expr):Bool:=(vNm x).any fun xn=>(vNm y).any fun yn=>cm&&decide (N[i]?=some xn)&&decide (N[j]?=some yn)&&decide (i≠j)&&Xc2 (sc.names.lookup xn)&&Xc2 (sc.names.lookup yn)&&mts cm fns gns sc N es [a,b] &&
   Xks (some [xn,yn]) (swappedStores [t] v (Xb9 sc))&&Xeg false (swapsWithSole [t] v p.line (Xb9 sc))
noncomputable def X1r(es:Exs)(p:Pos)(is:List Nat)(ts:List Expr)(v:Expr):Bool:=(Xda ts).any fun t=>(Xhk t).any fun tn=>(Xhk v).any fun vs =>
 (Xfm is).any fun i=>(Xfm tn).any fun x=>(Xfm vs).any fun a=>X36 cm fns gns sc N es p i.1 i.2 a.1 a.2 x.1 x.2 t v
noncomputable def Xvc(o i e:Ex)(v:Expr)(p:Pos)(ts:List Expr):Bool:=(Xda ts).any fun t=>(Xhl t).any fun z=>Xdd z.2&&mt cm fns gns sc N o z.1&&mt cm fns gns sc N i z.2&&mt cm fns gns sc N e v&&Xeg false (swapsWithSole [t] v p.line (Xb9 sc))&&Xks none (swappedStores [t] v (Xb9 sc))
noncomputable def X1s(i:Nat)(t:Expr):Bool:=(vNm t).any fun x=>decide (N[i]?=some x)&&Xhg (fun _=>true) sc x
noncomputable def Xtc(c:Nat)(e:Ex)(v w:Option Expr):Bool:=w.isNone&&v.any fun r=>(Xbr r).any fun z=>(vNm z.1).any fun x=>decide (Xbm c=some x)&&glB sc x&&Xab x&&Yw z.2.1&&z.2.2.1.isEmpty&&mt cm fns gns sc N e z.2.1
end
section
variable(fns:List (Str×Nat×Bool))(gns:List Str)(sc:Scope)(N:List Str)
mutual
noncomputable def mtS(cm:Bool):St->Stmt->Bool
 | .nev,_=>true
 | .asg (.var i) e,st=>(Xht st).any fun z=>X1q cm fns gns sc N i e z.2.1 z.2.2 z.1
 | .asg (.tup is) e,st=>(Xht st).any fun z=>Xvb cm fns gns sc N is e z.2.1 z.2.2 z.1
 | .par is es,st=>(Xht st).any fun z=>X1r cm fns gns sc N es z.2.2 is z.1 z.2.1
 | .aset o i e,st=>(Xht st).any fun z=>Xvc cm fns gns sc N o i e z.2.1 z.2.2 z.1
 | .aug i op e,st=>(Xs3 st).any fun z=>X1s sc N i z.1&&Xn4 op z.2.1&&mt cm fns gns sc N e z.2.2.1
 | .expr e,st=>(Xs4 st).any fun z=>Xeg false (swapsWith z.1 none z.2.line (Xb9 sc))&&mt cm fns gns sc N e z.1
 | .ret e,st=>(Xs5 st).any fun z=>z.any fun v=>mt cm fns gns sc N e v
 | .ite c a b,st=>(Xs6 st).any fun z=>mt cm fns gns sc N c z.1&&mtSs cm a z.2.1&&mtSs cm b z.2.2
 | .for t it b,st=>(Xs7 st).any fun z=>cm&&z.2.2.2.isEmpty&&Xbq z.2.1&&mtT (fun _=>true) sc N t z.1&&mtI cm fns gns sc N it z.2.1&&mtSs cm b z.2.2.1&&Xd0 t it
 | .whl c b,st=>(Xs8 st).any fun z=>z.2.2.isEmpty&&mt cm fns gns sc N c z.1&&mtSs cm b z.2.1
 | .rse c e,st=>(Xs9 st).any fun z=>cm&&Xtc cm fns gns sc N c e z.1 z.2
 | .try b c i h,st=>(Xta st).any fun z=>(Xda z.2.1).any fun y=>(Xtb y).any fun q=>(vNm q.1).any fun x=>z.2.2.1.isEmpty&&z.2.2.2.isEmpty&&nasgs b&&decide (Xbm c=some x)&&glB sc x&&Xab x&&decide (N[i]?=some q.2.1)&&Xc2 (sc.names.lookup q.2.1)&&mtSs cm b z.1&&mtSs false h (q.2.2.1::q.2.2.2)
 | .pass,st=>Xfq st==1
 | .brk,st=>Xfq st==2
 | .cnt,st=>Xfq st==3
noncomputable def mtSs(cm:Bool):Sts->List Stmt->Bool
 | .nil,[]=>true
 | .cons s ss,x::xs=>mtS cm s x&&mtSs cm ss xs
 | _,_=>false
end
end
theorem Xd1(h:Xc2 k=true):k=some .local:=by
 unfold Xc2 at h;split at h
 ·rfl
 ·cases h
section
variable{F:Fn}{G:List D}{cm:Bool}{fns:List (Str×Nat×Bool)}{gns:List Str}{X:Cx}
theorem DS.congr{st:Stmt}{na:Bool}{f g:En->Sto->R Fl}(h:DS X st na f)(q:∀ env S,g env S=f env S):DS X st na g:=by
 have:g=f:=funext fun env=>funext fun S=>q env S
 rw[this];exact h
theorem DSs.congr{st:List Stmt}{na:Bool}{f g:En->Sto->R Fl}(h:DSs X st na f)(q:∀ env S,g env S=f env S):DSs X st na g:=by
 have:g=f:=funext fun env=>funext fun S=>q env S
 rw[this];exact h
theorem X1t{st:Stmt}{na:Bool}:DS X st na (exe F G .nev):=fun _ _ _ _ _ _ _ _ nb=>absurd (by simp only[exe]) nb
structure TopOk(cm:Bool)(F:Fn)(G:List D)(fns:List (Str×Nat×Bool))(gns:List Str)(X:Cx)(sc:Scope)(N:List Str):Prop where
 hN:X.N=N
 hs:X.env.scope=sc
 nd:N.Nodup
 fn:∀ x,X.fn x=true
 pf:PF cm F G fns gns X
 stk:X.stack=X.env::X.outer
 frm:X.env.frame=some X.env.locals
theorem TopOk.inH(T:TopOk cm F G fns gns X sc N)(a:Addr):TopOk false F G fns gns (Z.inH X a) sc N :=
 ⟨T.hN,T.hs,T.nd,T.fn,⟨T.pf.blt,fun f nm ar fl h hf=>by
  obtain⟨g,fd,ps,k,c1,c2,r⟩:=T.pf.fn f nm ar fl h (fun z=>nomatch (hf z))
  refine⟨g,fd,ps,k,c1,?_,r⟩;cases fl with
  | true=>exact nomatch (hf rfl)
  | false=>exact c2.mark,T.pf.glb,T.pf.cal,T.pf.units,T.pf.gd,(fun z=>nomatch z),T.pf.err⟩,T.stk,T.frm⟩
variable{sc:Scope}{N:List Str}
noncomputable def isC:Ex->Bool
 | .nev=>true
 | .cmr _ _ _ _=>true
 | _=>false
theorem X37(h4:X1p v=true)(hn:isC e=false)(h:mt cm fns gns sc N e v=true):False:=by
 cases v with
 | ListComp ee gens scope cp =>
  cases e with
  | nev=>cases hn
  | cmr _ _ _ _=>cases hn
  | _=>cases h
 | _=>cases h4
theorem Xtd{i:Nat}{e:Ex}{ts:List Expr}(T:TopOk cm F G fns gns X sc N)(h:X1q cm fns gns sc N i e v p ts=true):DS X (.Assign ts v p) false (exe F G (.asg (.var i) e)):=by
 obtain⟨t,k1,hq1⟩:=Xc h;obtain⟨x,k2,hq2⟩:=Xc hq1;clear h hq1;have h:=hq2;clear hq2;have k3:=Xbf k1;obtain⟨py,k4⟩:=Xa8 k2;subst k4 k3
 ·rw[bA0,bA0,bA0,decide_eq_true_eq,Bool.or_eq_true,bA0,bA0] at h
  obtain⟨⟨⟨h1,h2⟩,h3⟩,h4⟩:=h;obtain⟨l1,l2⟩:=Xes (X:=X) T.hs (fun x _=>T.fn x) h2
  have ihe:=(snd e X sc N v T.hN T.hs T.pf h3).1;have hN:=T.hN;have hs:=T.hs;subst hN hs;rcases h4 with h4|⟨⟨h4,h5⟩,h6⟩
  ·have hw:=Xcg h4
   rw[<- Xkt] at hw;exact(Xz1 T.nd h1 l1 l2 ihe hw).congr fun env S=>by simp only[exe]<;>rfl
  ·have hw:=Xcg h6
   rw[<- Xkt] at hw;cases e with
   | nev=>exact fun _ _ _ _ _ _ _ _ nb=>absurd (by simp only[exe,ev,R.bind_bad]) nb
   | cmr k n gs elt =>
    obtain⟨ee,gens,scope,cp,rfl,m0,m1,m2,m3,m4,m5⟩:=Xqm h3;subst m1 m2;have so:=Xqk m3;have hcl:=T.pf.calm m0;obtain⟨c⟩:=Xmu (p:=cp) rfl rfl T.pf hcl so (sndg gs X _ _ _ _ gens rfl rfl T.pf m4) (fun Y y1 y2 y3=>(snd elt Y _ _ ee y1 y2 y3 m5).1)
    refine(Xwb (py:=py) (spos:=p) T.nd h1 (Xd1 h5) hw hcl so rfl c.hg c.hi c.hs c.hG c.hT c.hB).congr fun env S=>?_
    simp only[exe];have:=congrFun (congrFun c.eq env) S;rw[this]
    all_goals rfl
   | _=>exact(X37 h4 rfl h3).elim
theorem Xte{is:List Nat}{e:Ex}{ts:List Expr}(T:TopOk cm F G fns gns X sc N)(h:Xvb cm fns gns sc N is e v p ts=true):DS X (.Assign ts v p) false (exe F G (.asg (.tup is) e)):=by
 obtain⟨t,k1,hq1⟩:=Xc h;clear h;have h:=hq1;clear hq1;have k3:=Xbf k1;subst k3
 ·rw[bA0,bA0,bA0,bA0] at h
  obtain⟨⟨⟨⟨h0,h1⟩,h2⟩,h3⟩,h4⟩:=h;have h1':=h1;simp only[mtT] at h1';obtain⟨tes,q1,_⟩:=Xc h1';obtain⟨tkk,tpp,q2⟩:=Xcf q1;subst q2;have ihe:=(snd e X sc N v T.hN T.hs T.pf h2).1;have hg:=dgB (top:=fun _=>true) T.hN T.hs T.nd (fun _=>T.pf.calm h0) (fun x _=>T.fn x) h1
  have w1:=Xcg h3;have w2:=Xhq h4;rw[<- T.hs] at w1 w2;rw[<- Xhr] at w1;rw[<- Xhs] at w2;exact(X1i ihe hg w1 w2 rfl).congr fun env S=>by simp only[exe]<;>rfl
theorem Xxh{is:List Nat}{es:Exs}{ts:List Expr}(T:TopOk cm F G fns gns X sc N)(h:X1r cm fns gns sc N es p is ts v=true):DS X (.Assign ts v p) false (exe F G (.par is es)):=by
 obtain⟨t,k1,hq⟩:=Xc h;clear h;have h:=hq;clear hq;obtain⟨tn,k2,hq⟩:=Xc h;clear h;have h:=hq;clear hq;obtain⟨vs,k3,hq⟩:=Xc h;clear h;have h:=hq;clear hq;have e1:=Xbf k1;obtain⟨kt,pt,e2⟩:=Xcf k2;obtain⟨kv,pv,e3⟩:=Xcf k3;subst e1 e2 e3;obtain⟨⟨i,j⟩,k4,hq⟩:=Xc h;clear h;have h:=hq;clear hq;obtain⟨⟨x,y⟩,k5,hq⟩:=Xc h;clear h;have h:=hq;clear hq;obtain⟨⟨a,b⟩,k6,hq⟩:=Xc h;clear h;have h:=hq;clear hq;have e4:=Xde k4;have e5:=Xde k5;have e6:=Xde k6;subst e4 e5 e6;obtain⟨xn,k7,hq⟩:=Xc h;clear h;have h:=hq;clear hq;obtain⟨yn,k8,hq⟩:=Xc h;clear h;have h:=hq;clear hq;obtain⟨px,e7⟩:=Xa8 k7;obtain⟨py,e8⟩:=Xa8 k8;dsimp only at e7 e8;subst e7 e8
 iterate 8 rw[bA0] at h
 obtain⟨⟨⟨⟨⟨⟨⟨⟨h0,h1⟩,h2⟩,h3⟩,h4⟩,h5⟩,h6⟩,h7⟩,h8⟩:=h;have ihe:=snds es X sc N _ T.hN T.hs T.pf h6;have hN:=T.hN;have hs:=T.hs;subst hN hs;have w1:=Xcg h8;have w2:=Xhq h7;rw[<- Xhr] at w1;rw[<- Xhs] at w2;exact(Xw5 (T.pf.calm h0) T.nd (of_decide_eq_true h1) (of_decide_eq_true h2) (of_decide_eq_true h3) (Xd1 h4) (Xd1 h5) ihe w2 w1).congr fun env S=>by simp only[exe]
theorem Xtf{o i e:Ex}{ts:List Expr}(T:TopOk cm F G fns gns X sc N)(h:Xvc cm fns gns sc N o i e v p ts=true):DS X (.Assign ts v p) false (exe F G (.aset o i e)):=by
 obtain⟨t,k1,hq1⟩:=Xc h;obtain⟨⟨ox,ix⟩,k2,hq2⟩:=Xc hq1;clear h hq1;have h:=hq2;clear hq2;have k3:=Xbf k1;obtain⟨sp,k4⟩:=Xeu k2;dsimp only at k4;subst k4 k3
 ·iterate 5 rw[bA0] at h
  obtain⟨⟨⟨⟨⟨h1,h2⟩,h3⟩,h4⟩,h5⟩,h6⟩:=h;have w1:=Xcg h5;have w2:=Xhq h6;rw[<- T.hs] at w1 w2;rw[<- Xhr] at w1;rw[<- Xhs] at w2;exact((Xw6 (snd e X sc N v T.hN T.hs T.pf h4).1 (snd o X sc N _ T.hN T.hs T.pf h2).1 (snd i X sc N _ T.hN T.hs T.pf h3).1 w1 w2 (Xku h1)).weak (na2:=false) fun z=>nomatch z).congr fun env S=>by simp only[exe]
theorem Xxi{i:Nat}{op:Bo}{e:Ex}{o:Operator}(T:TopOk cm F G fns gns X sc N)(h:(X1s sc N i t&&Xn4 op o&&mt cm fns gns sc N e v)=true):DS X (.AugAssign t o v p) false (exe F G (.aug i op e)):=by
 simp only[bA0] at h;obtain⟨⟨h1,h2⟩,h3⟩:=h;obtain⟨x,k1,hq⟩:=Xc h1;clear h1;have h1:=hq;clear hq;obtain⟨px,k2⟩:=Xa8 k1;subst k2;have e1:=Xmo h2;subst e1
 ·rw[bA0,decide_eq_true_eq] at h1
  obtain⟨l1,l2⟩:=Xes (X:=X) T.hs (fun x _=>T.fn x) h1.2
  have ihe:=(snd e X sc N v T.hN T.hs T.pf h3).1;have hN:=T.hN;have hs:=T.hs;subst hN hs;exact(X1k T.nd h1.1 l1 l2 ihe).congr fun env S=>by simp only[exe]<;>rfl
theorem Xxj{e:Ex}{v:Option Expr}(T:TopOk cm F G fns gns X sc N)(h:(v.any fun v=>mt cm fns gns sc N e v)=true):DS X (.Return v p) true (exe F G (.ret e)):=by
 obtain⟨v,rfl,h⟩:=Xc h;exact(Xz0 (snd e X sc N v T.hN T.hs T.pf h).1).congr fun env S=>by simp only[exe]
theorem Xxk{c:Nat}{e:Ex}{v w:Option Expr}(T:TopOk cm F G fns gns X sc N)(h0:cm=true)(h:Xtc cm fns gns sc N c e v w=true):DS X (.Raise v w p) true (exe F G (.rse c e)):=by
 unfold Xtc at h;rw[bA0] at h;obtain⟨hw,h⟩:=h;cases w with
 | some _=>cases hw
 | none =>
  obtain⟨r,er,hq⟩:=Xc h;obtain⟨x,px,y,ys,cp,er2,hq2⟩:=Xco hq;clear h hq;have h:=hq2;clear hq2;subst er2 er
  iterate 5 rw[bA0] at h
  obtain⟨⟨⟨⟨⟨h1,h2⟩,h3⟩,h4⟩,h6⟩,h5⟩:=h;have h1:=of_decide_eq_true h1;have e6:=List.isEmpty_iff.mp h6;dsimp only at e6;subst e6;obtain⟨C,k1,k2⟩:=T.pf.err.at_ c x h1;exact(X1n (T.pf.calm h0) h1 k2 (T.pf.err.cls c C k1).1 (Xal T.hs h2) (Xat h3).1 (snd e X sc N y T.hN T.hs T.pf h5).1 h4).congr fun env S=>by simp only[exe]
mutual
theorem X5e{cm:Bool}{X:Cx}:∀ (x:St) (st:Stmt),TopOk cm F G fns gns X sc N->mtS fns gns sc N cm x st=true->DS X st (Xzr x) (exe F G x)
 | .nev,st,T,h=>X1t
 | .asg (.var i) e,st,T,h=>by
  simp only[mtS] at h;obtain⟨z,h1,hq⟩:=Xc h;clear h;have h:=hq;clear hq;rw[Xex h1];exact Xtd T h
 | .asg (.tup is) e,st,T,h=>by
  simp only[mtS] at h;obtain⟨z,h1,hq⟩:=Xc h;clear h;have h:=hq;clear hq;rw[Xex h1];exact Xte T h
 | .par is es,st,T,h=>by
  simp only[mtS] at h;obtain⟨z,h1,hq⟩:=Xc h;clear h;have h:=hq;clear hq;rw[Xex h1];exact Xxh T h
 | .aset o i e,st,T,h=>by
  simp only[mtS] at h;obtain⟨z,h1,hq⟩:=Xc h;clear h;have h:=hq;clear hq;rw[Xex h1];exact Xtf T h
 | .aug i op e,st,T,h=>by
  simp only[mtS] at h;obtain⟨z,h1,hq⟩:=Xc h;clear h;have h:=hq;clear hq;rw[Xw8 h1];exact Xxi T h
 | .expr e,st,T,h=>by
  simp only[mtS] at h;obtain⟨z,h1,hq⟩:=Xc h;clear h;have h:=hq;clear hq;rw[Xw9 h1];rw[bA0] at h;have w1:=Xcg h.1;rw[<- T.hs,<- Xkt] at w1;exact(Xv0 (snd e X sc N z.1 T.hN T.hs T.pf h.2).1 w1).congr fun env S=>by simp only[exe]
 | .ret e,st,T,h=>by
  simp only[mtS] at h;obtain⟨z,h1,hq⟩:=Xc h;clear h;have h:=hq;clear hq;obtain⟨p,rfl⟩:=Xxa h1;exact Xxj T h
 | .ite c a b,st,T,h=>by
  simp only[mtS] at h;obtain⟨z,h1,hq⟩:=Xc h;clear h;have h:=hq;clear hq;obtain⟨p,rfl⟩:=Xxb h1;rw[bA0,bA0] at h;exact(X3k (snd c X sc N z.1 T.hN T.hs T.pf h.1.1).2 (sndSs a z.2.1 T h.1.2) (sndSs b z.2.2 T h.2)).congr fun env S=>by simp only[exe]<;>rfl
 | .for t it b,st,T,h=>by
  simp only[mtS] at h;obtain⟨⟨tg,iter,body,oe⟩,h1,hq⟩:=Xc h;clear h;have h:=hq;clear hq;obtain⟨p,rfl⟩:=Xxc h1
  iterate 6 rw[bA0] at h
  obtain⟨⟨⟨⟨⟨⟨h0,h1⟩,h2⟩,h3⟩,h4⟩,h5⟩,h6⟩:=h;have e1:=List.isEmpty_iff.mp h1;dsimp only at e1;subst e1;have hg:=dgB (top:=fun _=>true) T.hN T.hs T.nd (fun _=>T.pf.calm h0) (fun x _=>T.fn x) h3
  exact(X0a (T.pf.calm h0) (Xof it X sc N tg iter T.hN T.hs T.pf (Xgg h6 h3) h4) hg (sndSs b body T h5) (Xdz h2)).congr fun env S=>by simp only[exe]
 | .whl c b,st,T,h=>by
  simp only[mtS] at h;obtain⟨⟨cx,body,oe⟩,h1,hq⟩:=Xc h;clear h;have h:=hq;clear hq;obtain⟨p,rfl⟩:=Xxd h1;rw[bA0,bA0] at h;obtain⟨⟨h1,h2⟩,h3⟩:=h;have e1:=List.isEmpty_iff.mp h1;dsimp only at e1;subst e1;exact(X1l (snd c X sc N cx T.hN T.hs T.pf h2).2 (sndSs b body T h3)).congr fun env S=>by simp only[exe]<;>rfl
 | .rse c e,st,T,h=>by
  simp only[mtS] at h;obtain⟨z,h1,hq⟩:=Xc h;clear h;have h:=hq;clear hq;obtain⟨p,rfl⟩:=Xxe h1;rw[bA0] at h;exact Xxk T h.1 h.2
 | .try b c i hd,st,T,h=>by
  simp only[mtS] at h;obtain⟨⟨body,hs,oe,fb⟩,k1,hq⟩:=Xc h;clear h;have h:=hq;clear hq;obtain⟨y,k2,hq⟩:=Xc h;clear h;have h:=hq;clear hq;obtain⟨⟨te,n,b0,su⟩,k3,hq⟩:=Xc h;clear h;have h:=hq;clear hq;obtain⟨x,k4,hq⟩:=Xc h;clear h;have h:=hq;clear hq;obtain⟨p,e1⟩:=Xxf k1;have e2:=Xbf k2;obtain⟨hp,e3⟩:=Xxg k3;obtain⟨np,e4⟩:=Xa8 k4;dsimp only at e1 e2 e3 e4;subst e4 e3 e2 e1
  iterate 9 rw[bA0] at h
  obtain⟨⟨⟨⟨⟨⟨⟨⟨⟨h1,h2⟩,h3⟩,h4⟩,h5⟩,h6⟩,h7⟩,h8⟩,h9⟩,h10⟩:=h;have e1:=List.isEmpty_iff.mp h1;have e2:=List.isEmpty_iff.mp h2;have h4:=of_decide_eq_true h4;have h7:=of_decide_eq_true h7;dsimp only at e1 e2 h7;subst e1 e2;have ib:=sndSs b body T h9;rw[h3] at ib;have ih:∀ a,DSs (Z.inH X a) (b0::su) (nasgs hd) (exes F G hd):=fun a=>sndSs hd (b0::su) (T.inH a) h10
  obtain⟨C0,k1,k2⟩:=T.pf.err.at_ c x h4;have hN:=T.hN;have hs:=T.hs;subst hN hs;refine(X1o (c:=c) T.stk T.frm T.nd h7 (Xd1 h8) k2 (Xal rfl h5) (Xat h6).1 (fun c' C e1 e2=>(T.pf.err.sub c' C c C0 e1 k1).2 e2) ib ih).congr fun env S=>?_
  simp only[exe,h3,if_true,Xs2]
  all_goals rfl
 | .pass,st,T,h=>by
  simp only[mtS,beq_iff_eq] at h;obtain⟨p,rfl⟩:=vEnd_ok.1 h;exact ds_pass.congr fun env S=>by simp only[exe]
 | .brk,st,T,h=>by
  simp only[mtS,beq_iff_eq] at h;obtain⟨p,rfl⟩:=vEnd_ok.2.1 h;exact ds_brk.congr fun env S=>by simp only[exe]
 | .cnt,st,T,h=>by
  simp only[mtS,beq_iff_eq] at h;obtain⟨p,rfl⟩:=vEnd_ok.2.2 h;exact ds_cnt.congr fun env S=>by simp only[exe]
theorem sndSs{cm:Bool}{X:Cx}:∀ (x:Sts) (st:List Stmt),TopOk cm F G fns gns X sc N->mtSs fns gns sc N cm x st=true->DSs X st (nasgs x) (exes F G x)
 | .nil,[],T,h=>dss_nil.congr fun env S=>by simp only[exes]
 | .cons s ss,x::xs,T,h=>by
  have h':(mtS fns gns sc N cm s x&&mtSs fns gns sc N cm ss xs)=true:=h;rw[bA0] at h';exact(Xsc (X5e s x T h'.1) (sndSs ss xs T h'.2)).congr fun env S=>by simp only[exes]<;>rfl
 | .nil,_::_,T,h=>by cases h
 | .cons _ _,[],T,h=>by cases h
end
end
noncomputable def Xc3(N ps:List Str)(sc:Scope):Bool:=isFn sc.kind && !sc.isCoroutine && !sc.isGenerator&&Xed N&&decide (N.take ps.length=ps)&&ps.all (fun x=>match sc.names.lookup x with|some .local=>true|some .cell=>true|_=>false)&&sc.names.all (fun y=>match y.2 with | .free=>false|_=>true)
theorem Xtg(h:Xc3 N ps sc=true):FnScope N ps sc:=by
 simp only[Xc3,bA0,Bool.not_eq_true',decide_eq_true_eq] at h;obtain⟨⟨⟨⟨⟨⟨h1,h2⟩,h3⟩,h4⟩,h5⟩,h6⟩,h7⟩:=h;refine⟨Xhj h1,h2,h3,Xee h4,h5,fun x hx=>?_,fun y hy e=>?_⟩
 ·have:=List.all_eq_true.mp h6 x hx
  split at this
  ·exact .inl (by assumption)
  ·exact .inr (by assumption)
  ·cases this
 ·have:=List.all_eq_true.mp h7 y hy
  rw[e] at this;cases this
structure DefOk(K:PySem.W.Frag)(mg:Str->Option Value)(fns:List (Str×Nat×Bool))(gns:List Str)(d:Df)(nm:Str)(ar:Nat)(fl:Bool):Prop where
 ex:∃ g fd st qual N ps,Fun K nm qual st g fd/\mg nm=some (.ref g)/\Xc3 N ps (Xx st)=true/\mtSs fns gns (Xx st) N fl d.body (Yp st)=true/\d.np=ps.length/\d.nl=N.length/\ps.length=ar/\Binds K fd ps []
section
variable{P:Program}{w:World}{K:PySem.W.Frag}{mg:Str->Option Value}{base:Heap}{T:List Df}{G:List D}{fns:List (Str×Nat×Bool)}{gns:List Str}
theorem Xkv(hcl:∀ (f:Nat) (nm:Str),Xbx f nm G=true->∃ ar fl,fns[f]?=some (nm,ar,fl)/\(∀ a,PySem.W.nsIn K mainGlobals nm=some (some (.ref a))->mg nm=some (.ref a))/\∀ k xs S,FT T G k f xs S≠.bad->xs.length=ar)(er:ErrOk K)(hb:∀ x∈blts,mg x=none)(hg:∀ (k:Nat) nm,gns[k]?=some nm->∃ u d,mg nm=some u/\G[k]?=some d/\∀ ρ H,∃ v,RelV v u/\RD K ρ H d v){k:Nat}
  (ih:∀ (f:Nat) nm ar fl,fns[f]?=some (nm,ar,fl)->∃ g fd ps,FnD fl P w K mg base k g fd ps (FT T G k f)/\Binds K fd ps []/\mg nm=some (.ref g)/\PySem.W.keepIn K (.ref g)=true/\ps.length=ar)
  {f:Nat} {nm qual:Str} {fl:Bool} {d:Df} {g:Addr} {fd:FuncData} {st:Stmt} {N ps:List Str} (hT:T[f]?=some d) (F:Fun K nm qual st g fd) (hS:Xc3 N ps (Xx st)=true) (hM:mtSs fns gns (Xx st) N fl d.body (Yp st)=true) (hp:d.np=ps.length) (hn:d.nl=N.length) :
  FnD fl P w K mg base (k+1) g fd ps (FT T G (k+1) f):=by
 obtain⟨oc,od,kV,doc,pm,an,cdv,ct,osl,rfl,lk,hcd⟩:=F.ex;have hS':=Xtg hS;have key:=Xz2 (cm:=fl) (P:=P) (w:=w) (mg:=mg) (base:=base) (k:=k) (G:=exes (FT T G k) G d.body) (na:=nasgs d.body) lk hcd hS' fun A outer s H E hr=>by
  refine sndSs (fns:=fns) (gns:=gns) (sc:=Xx st) (N:=N) d.body (Yp st) ⟨rfl,rfl,hS'.nd,fun _=>rfl,⟨hb,fun f nm ar fl' h hfl=>?_,hg,fun f nm h=>let ⟨ar,fl,h1,h2,h3⟩:=hcl f nm h;⟨ar,fl,h1,h2,h3 k⟩,?_,hr.gd,id,er⟩,rfl,rfl⟩ hM
  ·obtain⟨g,fd,ps,h1,h2,h3,h4,h5⟩:=ih f nm ar fl' h
   exact⟨g,fd,ps,k,h1,hr.less hfl,h2,h3,h4,h5⟩
  ·have:=hr.un
   show(A.deeper _).units+200<cLine;omega
 have e:FT T G (k+1) f=(fun ds S=>if ds.length=ps.length then
  match exes (FT T G k) G d.body (ds.map some++List.replicate (N.length-ps.length) none) S with
  | .ok (.rt v) S=>.ok v S
  | .ok (.nx _) S=>.ok .non S
  | .ok _ _=>.bad
  | .ex n S=>.ex n S
  | .bad=>.bad else .bad):=by
  funext ds S
  simp only[FT,hT,den,hp,hn]
  all_goals rfl
 rw[e];exact key
theorem X38(hcl:∀ (f:Nat) (nm:Str),Xbx f nm G=true->∃ ar fl,fns[f]?=some (nm,ar,fl)/\(∀ a,PySem.W.nsIn K mainGlobals nm=some (some (.ref a))->mg nm=some (.ref a))/\∀ k xs S,FT T G k f xs S≠.bad->xs.length=ar)(er:ErrOk K)(hb:∀ x∈blts,mg x=none)(hg:∀ (k:Nat) nm,gns[k]?=some nm->∃ u d,mg nm=some u/\G[k]?=some d/\∀ ρ H,∃ v,RelV v u/\RD K ρ H d v)
  (hd:∀ (f:Nat) nm ar fl,fns[f]?=some (nm,ar,fl)->∃ d,T[f]?=some d/\DefOk K mg fns gns d nm ar fl) :
  ∀ (k f:Nat) nm ar fl,fns[f]?=some (nm,ar,fl)->∃ g fd ps,FnD fl P w K mg base k g fd ps (FT T G k f)/\Binds K fd ps []/\mg nm=some (.ref g)/\PySem.W.keepIn K (.ref g)=true/\ps.length=ar:=by
 intro k
 induction k with
 | zero =>
  intro f nm ar fl h;obtain⟨d,_,⟨g,fd,st,qual,N,ps,F,hm,_,_,_,_,hl,hB⟩⟩:=hd f nm ar fl h;refine⟨g,fd,ps,⟨fun A outer s H args us vs Q E _ _ _ _ hsp=>?_⟩,hB,hm,F.kp,hl⟩
  obtain⟨ds,ρ,S',_,_,_,nb,_⟩:=hsp;exact absurd rfl nb
 | succ k ih =>
  intro f nm ar fl h;obtain⟨d,hT,⟨g,fd,st,qual,N,ps,F,hm,hS,hM,hp,hn,hl,hB⟩⟩:=hd f nm ar fl h;exact⟨g,fd,ps,Xkv hcl er hb hg ih hT F hS hM hp hn,hB,hm,F.kp,hl⟩
end
structure FunAt(K:PySem.W.Frag)(nm:Str)(st:Stmt):Prop where
 ex:∃ g fd,Fun K nm nm st g fd/\PySem.W.nsIn K mainGlobals nm=some (some (.ref g))
theorem funAt_mk{K:PySem.W.Frag}{nm:Str}{st:Stmt}{f:Addr}{oc:Value}{od an:Option Addr}{osl:Array (Option Value)}{kV doc pm cdv ct:Value}(a:PySem.W.nsIn K mainGlobals nm=some (some (.ref f)))
  (l:K.lookup f=some ⟨oc,od,.func (PySem.W.fnOf nm nm (Xa2 st) (Yp st) (Xx st) .none kV doc pm an cdv ct),osl⟩) (c:PySem.W.codeIn K cdv nm=true) (k:PySem.W.keepIn K (.ref f)=true):FunAt K nm st:=⟨⟨f,_,Xzq l c k,a⟩⟩
def Xey(nm:Str)(st:Stmt)(ps:List Str):Prop:=∀ (kV doc pm:Value) (an:Option Addr) (cdv ct:Value) (us:List Value),us.length=ps.length->bindArgs (PySem.W.fnOf nm nm (Xa2 st) (Yp st) (Xx st) .none kV doc pm an cdv ct) ⟨us,[]⟩=pure (ps.zip us)
theorem Xdb{nm a:Str}{st:Stmt}(h:∀ kV doc pm an cdv ct u,bindArgs (PySem.W.fnOf nm nm (Xa2 st) (Yp st) (Xx st) .none kV doc pm an cdv ct) ⟨[u],[]⟩=pure [(a,u)]:=by intros;rfl):Xey nm st [a]:=fun kV doc pm an cdv ct us hl=>match us,hl with
 | [u],_=>h kV doc pm an cdv ct u
theorem Xam{nm a b:Str}{st:Stmt}(h:∀ kV doc pm an cdv ct u v,bindArgs (PySem.W.fnOf nm nm (Xa2 st) (Yp st) (Xx st) .none kV doc pm an cdv ct) ⟨[u,v],[]⟩=pure [(a,u),(b,v)]:=by intros;rfl):Xey nm st [a,b]:=fun kV doc pm an cdv ct us hl=>match us,hl with
 | [u,v],_=>h kV doc pm an cdv ct u v
theorem Xth{nm a b c:Str}{st:Stmt}(h:∀ kV doc pm an cdv ct u v x,bindArgs (PySem.W.fnOf nm nm (Xa2 st) (Yp st) (Xx st) .none kV doc pm an cdv ct) ⟨[u,v,x],[]⟩=pure [(a,u),(b,v),(c,x)]:=by intros;rfl):Xey nm st [a,b,c]:=fun kV doc pm an cdv ct us hl=>match us,hl with
 | [u,v,x],_=>h kV doc pm an cdv ct u v x
theorem Xti{K:PySem.W.Frag}{h:Heap}{mg:Str->Option Value}{fns:List (Str×Nat×Bool)}{gns:List Str}{d:Df}{nm:Str}{ar:Nat}{fl:Bool}{st:Stmt}{N ps:List Str}(X:K.In h)(Gm:h.Ns mainGlobals mg)(F:FunAt K nm st)
  (hS:Xc3 N ps (Xx st)=true) (hM:mtSs fns gns (Xx st) N fl d.body (Yp st)=true) (hp:d.np=ps.length) (hn:d.nl=N.length) (hl:ps.length=ar) (hB:Xey nm st ps):DefOk K mg fns gns d nm ar fl:=by
 obtain⟨g,fd,h1,h2⟩:=F.ex;exact⟨g,fd,st,nm,N,ps,h1,PySem.W.mg_of X Gm h2,hS,hM,hp,hn,hl,h1.binds hB⟩
abbrev MD(fns:List (Str×Nat×Bool))(gns:List Str)(st:Stmt)(N:List Str)(fl:Bool)(d:Df):Prop:=(mtSs fns gns (Xx st) N fl d.body (Yp st)&&Xc3 N (N.take d.np) (Xx st))=true
theorem mm{fns:List (Str×Nat×Bool)}{gns:List Str}{st:Stmt}{N:List Str}{fl:Bool}{d:Df}(h:MD fns gns st N fl d):mtSs fns gns (Xx st) N fl d.body (Yp st)=true:=((bA0 _ _).mp h).1
theorem ms{fns:List (Str×Nat×Bool)}{gns:List Str}{st:Stmt}{N:List Str}{fl:Bool}{d:Df}(h:MD fns gns st N fl d):Xc3 N (N.take d.np) (Xx st)=true:=((bA0 _ _).mp h).2
theorem dk{K:PySem.W.Frag}{h:Heap}{mg:Str->Option Value}{fns:List (Str×Nat×Bool)}{gns:List Str}{d:Df}{nm:Str}{ar:Nat}{fl:Bool}{st:Stmt}{N:List Str}(X:K.In h)(Gm:h.Ns mainGlobals mg)(F:FunAt K nm st)
  (hM:MD fns gns st N fl d) (hB:Xey nm st (N.take d.np)) (hp:d.np=(N.take d.np).length:=by rfl) (hn:d.nl=N.length:=by rfl) (hl:(N.take d.np).length=ar:=by rfl):DefOk K mg fns gns d nm ar fl:=Xti X Gm F (ms hM) (mm hM) hp hn hl hB
def AllD(K:PySem.W.Frag)(mg:Str->Option Value)(fns:List (Str×Nat×Bool))(gns:List Str):List (Str×Nat×Bool)->List Df->Prop
 | [],[]=>True
 | x::r,d::ds=>DefOk K mg fns gns d x.1 x.2.1 x.2.2/\AllD K mg fns gns r ds
 | _,_=>False
theorem AllD.c{K:PySem.W.Frag}{mg:Str->Option Value}{fns:List (Str×Nat×Bool)}{gns:List Str}{x:Str×Nat×Bool}{r:List (Str×Nat×Bool)}{d:Df}{ds:List Df}(h:DefOk K mg fns gns d x.1 x.2.1 x.2.2)(t:AllD K mg fns gns r ds):AllD K mg fns gns (x::r) (d::ds):=⟨h,t⟩
theorem AllD.get{K:PySem.W.Frag}{mg:Str->Option Value}{fns:List (Str×Nat×Bool)}{gns:List Str}:∀ {fs:List (Str×Nat×Bool)} {ds:List Df},AllD K mg fns gns fs ds->∀ (f:Nat) nm ar fl,fs[f]?=some (nm,ar,fl)->∃ d,ds[f]?=some d/\DefOk K mg fns gns d nm ar fl
 | [],[],_,f,nm,ar,fl,e=>by cases e
 | x::r,d::ds,h,0,nm,ar,fl,e=>by cases e;exact⟨d,rfl,h.1⟩
 | x::r,d::ds,h,f+1,nm,ar,fl,e=>AllD.get h.2 f nm ar fl e
noncomputable def X1u(K:PySem.W.Frag):Bool:=blts.all fun x=>match PySem.W.nsIn K mainGlobals x with
 | some none=>true
 | _=>false
theorem Xxl{K:PySem.W.Frag}{h:Heap}{mg:Str->Option Value}(X:K.In h)(Gm:h.Ns mainGlobals mg)(e:X1u K=true):∀ x∈blts,mg x=none:=fun x hx=>by
 have:=List.all_eq_true.mp e x hx;split at this
 ·rename_i q;exact PySem.W.mg_none_of X Gm q
 ·cases this
theorem Xch{K:PySem.W.Frag}{h:Heap}{mg:Str->Option Value}{nm:Str}{i:Int}{t:Tok}(X:K.In h)(Gm:h.Ns mainGlobals mg)(e:PySem.W.nsIn K mainGlobals nm=some (some (.int i t))):∃ u d,mg nm=some u/\some (D.int i)=some d/\∀ ρ H,∃ v,RelV v u/\RD K ρ H d v :=
 ⟨_,_,PySem.W.mg_of X Gm e,rfl,fun _ _=>⟨.int i,⟨t,rfl⟩,by simp only[RD]⟩⟩
theorem Xkw{K:PySem.W.Frag}{h:Heap}{mg:Str->Option Value}{nm:Str}{st:Stmt}{f:Nat}(X:K.In h)(Gm:h.Ns mainGlobals mg)(F:FunAt K nm st):∃ u d,mg nm=some u/\some (D.fn f nm)=some d/\∀ ρ H,∃ v,RelV v u/\RD K ρ H d v:=by
 obtain⟨g,fd,_,h2⟩:=F.ex;exact⟨_,_,PySem.W.mg_of X Gm h2,rfl,fun _ _=>⟨.ref g,rfl,by simp only[RD];exact⟨g,rfl,h2⟩⟩⟩
noncomputable def Xhu(fns:List (Str×Nat×Bool)):List D->Bool
 | []=>true
 | .fn f nm::r=>(match fns[f]? with|some (m,_,_)=>decide (m=nm)|none=>false)&&Xhu fns r
 | _::r=>Xhu fns r
theorem Xhv:∀ {G:List D},Xhu fns G=true->Xbx f nm G=true->∃ ar fl,fns[f]?=some (nm,ar,fl)
 | [],_,h=>by cases h
 | d::r,hc,h=>by
  cases d with
  | fn g m =>
   simp only[Xhu,bA0] at hc;simp only[Xbx,Bool.or_eq_true,bA0,beq_iff_eq,decide_eq_true_eq] at h;rcases h with⟨rfl,rfl⟩|h
   ·have h1:=hc.1
    split at h1
    ·rename_i m' ar fl e
     have:=of_decide_eq_true h1;subst this;exact⟨ar,fl,e⟩
    ·cases h1
   ·exact Xhv hc.2 h
  | _=>exact Xhv (by simpa only[Xhu] using hc) (by simpa only[Xbx] using h)
theorem X1v(hT:T[f]?=some d):∀ (k:Nat) (xs:List D) (S:Sto),FT T G k f xs S≠.bad->xs.length=d.np
 | 0,xs,S,h=>absurd rfl h
 | k+1,xs,S,h=>by
  simp only[FT,hT,den] at h;split at h
  ·assumption
  ·exact absurd rfl h
theorem law_fn {P:Program} {w:World} {K:PySem.W.Frag} {h:Heap} {mg:Str->Option Value} {T:List Df} {G:List D} {fns:List (Str×Nat×Bool)} {gns:List Str} {fa:Addr} {k f:Nat} {d:Df} {st:Stmt} {N:List Str} {x:Str} (X:K.In h) (Gm:h.Ns mainGlobals mg) (hfa:mg "law" = some (.ref fa))
  (er:ErrOk K) (hb:∀ x∈blts,mg x=none) (hg:∀ (k:Nat) nm,gns[k]?=some nm->∃ u d,mg nm=some u/\G[k]?=some d/\∀ ρ H,∃ v,RelV v u/\RD K ρ H d v)
  (hd:∀ (f:Nat) nm ar fl,fns[f]?=some (nm,ar,fl)->∃ d,T[f]?=some d/\DefOk K mg fns gns d nm ar fl)
  (hT:T[f]?=some d) (F:FunAt K "law" st) (hS:Xc3 N [x] (Xx st)=true) (hM:mtSs fns gns (Xx st) N true d.body (Yp st)=true) (hp:d.np=1) (hn:d.nl=N.length) (hB:Xey "law" st [x]) (hcb:Xhu fns G=true:=by rfl) :
  ∃ fd:FuncData,(∀ (s:Shared) (u:Value),BindsTo s fd ⟨[u],[]⟩ [(x,u)])/\∀ base:Heap,K.In base->base.Ns mainGlobals mg->FnOk P w K mg base (CXd P w) (k+1) fa fd [x] (spD K 1 (FT T G (k+1) f)):=by
 obtain⟨g,fd,h1,h2⟩:=F.ex;have e:=hfa.symm.trans (PySem.W.mg_of X Gm h2);cases e;refine⟨fd,fun s u=>?_,fun base _ _=>?_⟩
 ·obtain⟨oc,od,kV,doc,pm,an,cdv,ct,osl,rfl,_⟩:=h1.ex
  exact .of_eq (hB kV doc pm an cdv ct [u] rfl)
 ·have hcl:∀ (f:Nat) (nm:Str),Xbx f nm G=true->∃ ar fl,fns[f]?=some (nm,ar,fl)/\(∀ a,PySem.W.nsIn K mainGlobals nm=some (some (.ref a))->mg nm=some (.ref a))/\∀ k xs S,FT T G k f xs S≠.bad->xs.length=ar:=fun f nm h=>by
   obtain⟨ar,fl,q⟩:=Xhv hcb h;obtain⟨d',hT',⟨_,_,_,_,_,ps',_,_,_,_,e1,_,e2,_⟩⟩:=hd f nm ar fl q;exact⟨ar,fl,q,fun a z=>PySem.W.mg_of X Gm z,fun k xs S z=>by rw[X1v hT' k xs S z,e1,e2]⟩
  have:=Xkv (P:=P) (w:=w) (base:=base) hcl er hb hg (fun f nm ar fl q=>X38 hcl er hb hg hd k f nm ar fl q) hT h1 hS hM hp hn
  exact⟨fun vs H Q E z=>let ⟨_,_,_,q,_⟩:=z;q,fun A outer s H args us vs Q E hr=>this.run A outer s H args us vs Q E (.of hr)⟩
theorem X1w{K:PySem.W.Frag}{F:List D->Sto->R D}{H:Hp}{a:Addr}{ns:List Int}(hO:Xnt H)(hS:SqL K H a (ns.map V.int))(hF:∃ S',F [.fro (ns.map D.int)] []=.ok (.bl true) S') :
  spD K 1 F [.ref a] H (fun v _=>v=.bl true) fun _ _ _=>False:=by
 obtain⟨S',e⟩:=hF;have hfr:FrL K H a (ns.map V.int):=by
  rcases hS with(h|⟨o,h⟩)|h
  ·rcases hO a with z|⟨o,xs,z⟩
   ·rw[h] at z;cases z
   ·rw[h] at z;cases z
  ·exact .inl ⟨o,h⟩
  ·exact .inr h
 refine⟨[.fro (ns.map D.int)],[],[],rfl,.cons ?_ .nil,⟨rfl,List.nodup_nil,fun n a o q=>by simp at q⟩,(by rw[e];exact fun z=>nomatch z),fun d S2 v H' ρ' q rd _ _=>?_,fun n c S2 a H' ρ' q=>?_⟩
 ·simp only[RD]
  exact⟨a,_,rfl,hfr,RDs.ints ns⟩
 ·rw[e] at q;cases q
  simpa only[RD] using rd
 ·rw[e] at q;cases q
theorem X1x(H:Hp)(s:Shared)(e:Value)(s':Shared)(z:CXd P w [] H s (fun _ _ _=>False) e s'):False:=by
 obtain⟨_,_,_,_,_,_,q⟩:=z;exact q
theorem walk_z{l:PySem.W.OpenLaw}{loose:List Str}{XP:(Str->Option Value)->Heap->Prop}{YP:World->Heap->Prop}{d:DefRec}{K:Params->PySem.W.Frag}{T:List Df}{G:List D}{k f:Nat}{x:Str}(hn:l.most=some 63)(hdf:d.params.defaults=[])(hr:Room k callerA)
  (hY:∀ (w:World) (h:Heap),YP w h->(K w.params).In h)
  (F:∀ (w:World) (mg:Str->Option Value) (fa:Addr) (h:Heap),(K w.params).In h->h.Ns mainGlobals mg->mg d.name=some (.ref fa) ->
   ∃ fd:FuncData,(∀ (s:Shared) (u:Value),BindsTo s fd ⟨[u],[]⟩ [(x,u)])/\∀ base:Heap,(K w.params).In base->base.Ns mainGlobals mg->FnOk l.prog w (K w.params) mg base (CXd l.prog w) k fa fd [x] (spD (K w.params) 1 (FT T G k f)))
  (hL:∀ ns:List Int,ns.length<=63->∃ S',FT T G k f [.fro (ns.map D.int)] []=.ok (.bl true) S') :
  PySem.W.WalkO q loose XP YP l.row.toRowW d [] (fun f vs=>PySem.call f vs) :=
 L2.walk_of (n:=63) (k:=k) (x:=x) (CX:=fun w=>CXd l.prog w) (sp:=fun w=>spD (K w.params) 1 (FT T G k f)) hn (by decide) hdf hr hY F (fun _ _ _ ns hl hO hS=>X1w hO hS (hL ns hl)) fun _ H s e s' z=>X1x H s e s' z
end Z
end
section
namespace Z
open PySem
section
variable{F:Fn}{G:List D}{s:St}{ss:Sts}{env e:En}{S S1:Sto}
theorem Xd(h:exe F G s env S=.ok (.nx e) S1):exes F G (.cons s ss) env S=exes F G ss e S1:=by simp only[exes,h]
theorem X7(h:exe F G s env S=.ok (.rt d) S1):exes F G (.cons s ss) env S=.ok (.rt d) S1:=by simp only[exes,h]
theorem Xci(h:exe F G s env S=.ex n S1):exes F G (.cons s ss) env S=.ex n S1:=by simp only[exes,h]
theorem Xc4{get:Sto->Nat->Option (Option D)}{body:En->Sto->R Fl}(xs:List D)(P:Nat->En->Sto->Prop)(hget:∀ i e S,P i e S->get S i=some xs[i]?)
  (step:∀ i d e S,xs[i]?=some d->P i e S->∃ e1 e2 S2,Xp t d e=some e1/\body e1 S=.ok (.nx e2) S2/\P (i+1) e2 S2) :
  ∀ (fuel i:Nat) (e:En) (S:Sto),P i e S->i<=xs.length->xs.length<fuel+i->∃ e' S',Yz get t body fuel i e S=.ok (.nx e') S'/\P xs.length e' S'
 | 0,i,e,S,h,h1,h2=>by omega
 | fuel+1,i,e,S,h,h1,h2=>by
  cases q:xs[i]? with
  | none =>
   have hi:i=xs.length:=by
    have:=List.getElem?_eq_none_iff.mp q;omega
   refine⟨e,S,?_,hi▸h⟩;simp only[Yz,hget i e S h,q]
  | some d =>
   obtain⟨e1,e2,S2,a1,a2,a3⟩:=step i d e S q h;have hi:i<xs.length:=(List.getElem?_eq_some_iff.mp q).1;obtain⟨e',S',b1,b2⟩:=Xc4 xs P hget step fuel (i+1) e2 S2 a3 (by omega) (by omega)
   refine⟨e',S',?_,b2⟩;simp only[Yz,hget i e S h,q,a1,a2];exact b1
theorem Xcj{ds xs:List D}(P:Nat->En->Sto->Prop)(h1:evs F G es env S=.ok ds S1)(h2:Yh ds=some xs)(h0:P 0 env S1)
  (step:∀ i d e S,xs[i]?=some d->P i e S->∃ e1 e2 S2,Xp t d e=some e1/\exes F G b e1 S=.ok (.nx e2) S2/\P (i+1) e2 S2) :
  ∃ e' S',exe F G (.for t (.rng es) b) env S=.ok (.nx e') S'/\P xs.length e' S':=by
 obtain⟨e',S',a,b'⟩:=Xc4 (get:=(Src.con xs).get) (t:=t) (body:=fun env S=>exes F G b env S) xs P (fun _ _ _ _=>rfl) step (xs.length+1) 0 env S1 h0 (Nat.zero_le _) (by omega)
 refine⟨e',S',?_,b'⟩;simp only[exe,evit,h1,Rk0,h2,Src.most];exact a
end
theorem Xaf(h:Yh [.int m]=some xs)(q:xs[i]?=some d):d=.int i/\i<m.toNat:=by
 simp only[Yh] at h;split at h
 ·cases h
  rw[List.getElem?_map] at q;cases z:(List.range m.toNat)[i]? with
  | none=>rw[z] at q;cases q
  | some j =>
   rw[z] at q;obtain⟨hi,e⟩:=List.getElem?_eq_some_iff.mp z;simp at e hi;subst e;simp at q;exact⟨q.symm,by omega⟩
 ·cases h
theorem Yx(h0:0<=m)(h:m<1048576):∃ xs,Yh [.int m]=some xs/\xs.length=m.toNat:=by
 refine⟨_,by simp only[Yh];rw[if_pos ⟨by omega,h⟩],by simp⟩
noncomputable def C:Nat->Nat->Nat
 | _,0=>1
 | 0,_+1=>0
 | n+1,k+1=>C n k+C n (k+1)
theorem Xcr(n:Nat):C n 0=1:=by cases n<;>rfl
theorem Xd2:∀ (n k:Nat),n<k->C n k=0
 | 0,k+1,_=>rfl
 | n+1,k+1,h=>by simp only[C];rw[Xd2 n k (by omega),Xd2 n (k+1) (by omega)]
theorem Xdg:∀ (n k:Nat),C n (k+1)*(k+1)=C n k*(n-k)
 | 0,k=>by simp[C]
 | n+1,0=>by
  have:=Xdg n 0;simp only[Xcr,Nat.sub_zero,Nat.one_mul,Nat.mul_one,Nat.zero_add] at this ⊢;simp only[C,Xcr];rw[this];omega
 | n+1,k+1=>by
  have h1:=Xdg n (k+1);have h2:=Xdg n k;have e:n+1-(k+1)=n-k:=by omega
  rw[e];simp only[C]
  by_cases hk:k+1<=n
  ·obtain⟨d,rfl⟩:∃ d,n=k+1+d:=⟨n-(k+1),by omega⟩
   have e1:k+1+d-(k+1)=d:=by omega
   have e2:k+1+d-k=d+1:=by omega
   rw[e1] at h1;rw[e2] at h2 ⊢;rw[Nat.add_mul,Nat.add_mul,h1,<- h2,<- Nat.mul_add,<- Nat.mul_add];congr 1;omega
  ·rw[Xd2 n (k+1) (by omega),Xd2 n (k+1+1) (by omega),Nat.add_zero,Nat.add_zero,Nat.zero_mul]
   have:n-k=0:=by omega
   rw[this,Nat.mul_zero]
theorem X39(n k:Nat):(C n k:Int)*((n:Int)-k)=(C n (k+1):Int)*((k:Int)+1):=by
 by_cases h:k<=n
 ·have:=Xdg n k
  have e:((n-k:Nat):Int)=(n:Int)-k:=by omega
  rw[<- e];have e2:((k:Int)+1)=((k+1:Nat):Int):=by omega
  rw[e2,<- Int.natCast_mul,<- Int.natCast_mul,this]
 ·rw[Xd2 n k (by omega),Xd2 n (k+1) (by omega)];simp
theorem X4a(n k:Nat):((C n k:Int)*((n:Int)-k))/((k:Int)+1)=C n (k+1):=by
 rw[X39,Int.mul_ediv_cancel _ (by omega)]
noncomputable def fac:Nat->Nat
 | 0=>1
 | n+1=>fac n*(n+1)
theorem Xmv:∀ n,0<fac n
 | 0=>by decide
 | n+1=>Nat.mul_pos (Xmv n) (by omega)
theorem Xtj(s:String):PyData.strOk (Str.ofString s)=true:=by
 rw[Str.ofString_eq_toList];unfold PyData.strOk;rw[<- Array.all_toList,List.all_eq_true];intro n hn;have hn':n∈s.toList.map Char.toNat:=by simpa using hn
 obtain⟨c,_,rfl⟩:=List.mem_map.mp hn';refine decide_eq_true ?_;have:=c.valid;rcases this with h|⟨_,h⟩
 ·have:c.toNat<0xd800:=h
  omega
 ·exact h
theorem ne_str(s:String):Xo .ne (.str (Str.ofString s)) (.str (Str.ofString s)) S=.ok (.bl false) S:=by
 simp only[Xo,Yg,eqD,Xb8,Ys,Xw,PyData.canLay0,Xtj,PyData.depth];simp[PyData.eqv]
theorem Yd(i j:Int)(S:Sto):Xm .add (.int i) (.int j) S=.ok (.int (i+j)) S:=rfl
theorem Xau(i j:Int)(S:Sto):Xm .sub (.int i) (.int j) S=.ok (.int (i-j)) S:=rfl
theorem Xav(h:Yl i j=true)(S:Sto):Xm .mul (.int i) (.int j) S=.ok (.int (i*j)) S:=by simp only[Xm,h,if_true]
theorem Xb0(h:Xae j=true)(S:Sto):Xm .fdiv (.int i) (.int j) S=.ok (.int (i/j)) S:=by simp only[Xm,h,if_true]
theorem Xez(h:0<j)(S:Sto):Xm .mod (.int i) (.int j) S=.ok (.int (i%j)) S:=by simp only[Xm,h,if_true]
theorem Xhw(h:0<=j/\j<=1000/\i.natAbs<2^63)(S:Sto):Xm .pow (.int i) (.int j) S=.ok (.int (i^j.toNat)) S:=by simp only[Xm,h,and_self,if_true]
theorem Xb1(h1:-1000000000000000<j)(h2:j<1000000000000000):Yl i j=true:=by
 unfold Yl;simp only[Bool.or_eq_true,bA0,decide_eq_true_eq];left;right;constructor<;>omega
theorem Xmw(h1:-1000000000000000<i)(h2:i<1000000000000000):Yl i j=true:=by
 unfold Yl;simp only[Bool.or_eq_true,bA0,decide_eq_true_eq];left;left;constructor<;>omega
theorem Xxm(h1:i.natAbs.log2<100000)(h2:j.natAbs.log2<100000):Yl i j=true:=by
 unfold Yl;simp only[Bool.or_eq_true,bA0,decide_eq_true_eq];right;exact⟨h1,h2⟩
end Z
end
section
namespace Z
open PySem PySem.W
section
variable(tb:String->Option Builtin)(p:Program)(w:World)(m:Nat)(ann:Option Value)
noncomputable def topT:Nat->SharedT->Thread->Option SharedT
 | 0,_,_=>none
 | n+1,s,t=>match through t with
  | true=>some s
  | false=>match stepOk m ann t with
   | false=>none
   | true=>match stepT (denote tb) p w s t with
    | some (s',t')=>topT n s' t'
    | none=>none
end
theorem Xmx{tb:String->Option Builtin}{p:Program}{w:World}{m:Nat}{ann:Option Value}:∀ {n:Nat} {s s':SharedT} {t:Thread},topT tb p w m ann n s t=some s'->topRun tb p w m ann n s.abs t=some s'.abs
 | 0,_,_,_,h=>by cases h
 | n+1,s,s',t,h=>by
  unfold topT at h;unfold topRun;cases ht:through t with
  | true=>rw[ht] at h;cases h;rfl
  | false =>
   rw[ht] at h;cases hk:stepOk m ann t with
   | false=>rw[hk] at h;cases h
   | true =>
    rw[hk] at h;cases hs:stepT (denote tb) p w s t with
    | none=>rw[hs] at h;cases h
    | some r=>obtain⟨a,b⟩:=r;rw[hs] at h;rw[stepT_spec hs];exact Xmx h
noncomputable def Xjj(P:Params):BT :=
 .node (boot_o_0 P) (.node (boot_o_1 P) (.node (boot_o_3 P) (.node (boot_o_7 P) .nil .nil) .nil) (.node (boot_o_5 P) (.node (boot_o_9 P) .nil .nil) .nil))
  (.node (boot_o_2 P) (.node (boot_o_4 P) (.node (boot_o_8 P) .nil .nil) .nil) (.node (boot_o_6 P) (.node (boot_o_10 P) .nil .nil) .nil))
noncomputable def Xjk:Life:={ debug:=0,thresholds:=[2000,10,10] }
theorem Xtk(P:Params):absHeap (Xjj P) 11 Xjk=boot_heap P:=by kernel_rfl
theorem Xqu(P:Params):((boot_heap P).isNs mainGlobals&&(Array.mk ([]:List GenState)).size==0,(boot_heap P).objs.size,(boot_heap P).nsMap mainGlobals "__annotations__")=(true,11,some (.ref 6)):=by kernel_rfl
noncomputable def Xqv{α:Type}(p q:Program)(loose:List Str)(Xt:Shared->Bool)(Yf:Shared->α)(P:Params)(s:Shared):=((staticsOk (importedModules p.main.body) (boot_heap P) s.heap&&namesBound p s.heap&&gensDone s&&laidKept (boot_heap P) s.heap),openSeen q loose (importedModules p.main.body) Xt true s,Yf s)
theorem Xqw{p q:Program}{loose:List Str}{Xt:Shared->Bool}{α:Type}{Yf:Shared->α}{Ya:World->α}{N:Nat}
  (e:opening p=plainProg p.main.scope.names) (hN:Nat.ble 600 N=true) (f:∀ s,fenceModules? p s=some s)
  (all:∀ w os,(topT treeTable p w 11 (some (.ref 6)) N ⟨Xjj w.params,11,Xjk,Array.mk [],boot_drawn,boot_toks,os⟩ (topStub p)).map (fun s=>Xqv p q loose Xt Yf w.params s.abs)=some (true,openGood q loose,Ya w)) :
  LeftO p q loose Xt Yf Ya N:=fun w=>by
 obtain⟨⟨h,gs,d,k,os⟩,e1,e2⟩:=Option.map_eq_some_iff.mp (boot_open e hN f w);obtain⟨rfl,rfl,rfl,rfl⟩:h=boot_heap w.params/\gs=Array.mk []/\d=boot_drawn/\k=boot_toks:=by simpa using e2
 obtain⟨z1,z2,z3⟩:_/\_/\_:=by simpa only[Prod.mk.injEq] using Xqu w.params
 obtain⟨s,r,l⟩:=Option.map_eq_some_iff.mp (all w os);have r':=Xmx r;have e0:SharedT.abs ⟨Xjj w.params,11,Xjk,Array.mk [],boot_drawn,boot_toks,os⟩=⟨boot_heap w.params,Array.mk [],boot_drawn,boot_toks,os⟩:=by
  unfold SharedT.abs;dsimp only;rw[Xtk]
 rw[e0] at r';unfold Xqv at l;obtain⟨l1,l2,l3⟩:_/\_/\_:=by simpa only[Prod.mk.injEq] using l
 have t:topFrom treeTable p w N ⟨boot_heap w.params,Array.mk [],boot_drawn,boot_toks,os⟩=some s.abs:=by
  unfold topFrom;dsimp only;rw[z1,z2,z3,r'];dsimp only[Option.bind];rw[l1]
 unfold openEnds;rw[e1];show(topFrom treeTable p w N _).map _=_;rw[t];exact congrArg some (Prod.ext l2 l3)
abbrev RunT{β:Type}(p:Program)(g:World->SharedT->β)(r:World->β):Prop:=∀ w os,(topT treeTable p w 11 (some (.ref 6)) 40000 ⟨Xjj w.params,11,Xjk,Array.mk [],boot_drawn,boot_toks,os⟩ (topStub p)).map (g w)=some (r w)
theorem left_tree3{p q:Program}{loose:List Str}{Xt:Shared->Bool}{α:Type}{Yf:Shared->α}{Ya:World->α}(e:opening p=plainProg p.main.scope.names)(f:∀ s,fenceModules? p s=some s)
  (a1:RunT p (fun w s=>staticsOk (importedModules p.main.body) (boot_heap w.params) s.abs.heap&&namesBound p s.abs.heap&&gensDone s.abs&&laidKept (boot_heap w.params) s.abs.heap) fun _=>true)
  (a2:RunT p (fun _ s=>openSeen q loose (importedModules p.main.body) Xt true s.abs) fun _=>openGood q loose) (a3:RunT p (fun _ s=>Yf s.abs) Ya):LeftO p q loose Xt Yf Ya 40000:=Xqw e rfl f fun w os=>by
 obtain⟨s,h,x1⟩:=Option.map_eq_some_iff.mp (a1 w os);have x2:=a2 w os;have x3:=a3 w os;rw[h] at x2 x3 ⊢;exact congrArg some (Prod.ext x1 (Prod.ext (Option.some.inj x2) (Option.some.inj x3)))
end Z
end
section
namespace Z
open PySem
mutual
noncomputable def sh(n:Nat):D->D
 | .non=>.non
 | .bl b=>.bl b
 | .int i=>.int i
 | .str x=>.str x
 | .tup xs=>.tup (shs n xs)
 | .ref k=>.ref (n+k)
 | .fro xs=>.fro (shs n xs)
 | .fn f nm=>.fn f nm
noncomputable def shs(n:Nat):List D->List D
 | []=>[]
 | x::xs=>sh n x::shs n xs
end
theorem Yo(n:Nat):∀ xs:List D,shs n xs=xs.map (sh n)
 | []=>rfl
 | x::xs=>by simp only[shs,List.map,Yo n xs]
theorem Xkx(n:Nat)(xs:List D):sh n (.tup xs)=.tup (xs.map (sh n)):=by simp only[sh,Yo]
theorem Xqx(n:Nat)(xs:List D):sh n (.fro xs)=.fro (xs.map (sh n)):=by simp only[sh,Yo]
theorem Xa0(n k:Nat):sh n (.ref k)=.ref (n+k):=by simp only[sh]
theorem Xog(n:Nat)(i:Bool):sh n (.bl i)=.bl i:=by simp only[sh]
theorem X1y(n:Nat):sh n .non=.non:=by simp only[sh]
noncomputable def shO(n:Nat):O->O
 | .lst xs=>.lst (xs.map (sh n))
 | .set xs=>.set (xs.map (sh n))
 | .dct kvs=>.dct (kvs.map fun p=>(sh n p.1,sh n p.2))
 | .exc c=>.exc c
noncomputable def shS(P S:Sto):Sto:=P++S.map (shO P.length)
noncomputable def shE(n:Nat)(e:En):En:=e.map (Option.map (sh n))
noncomputable def shR{α β:Type}(P:Sto)(f:α->β):R α->R β
 | .ok a S=>.ok (f a) (shS P S)
 | .ex k S=>.ex (P.length+k) (shS P S)
 | .bad=>.bad
section
variable{P S:Sto}
theorem Y7:(shS P S).length=P.length+S.length:=by simp[shS]
theorem Xeh(k:Nat):(shS P S)[P.length+k]?=(S[k]?).map (shO P.length):=by
 unfold shS;rw[List.getElem?_append_right (by omega),show P.length+k-P.length=k by omega,List.getElem?_map]
theorem Y8(o:O):shS P (S++[o])=shS P S++[shO P.length o]:=by simp[shS]
theorem Xhx(k:Nat)(o:O):shS P (S.set k o)=(shS P S).set (P.length+k) (shO P.length o):=by
 unfold shS;rw[List.map_set,List.set_append_right (h:=by omega),show P.length+k-P.length=k by omega]
theorem Yi(k:Nat):Xb (shS P S) (P.length+k)=(Xb S k).map (·.map (sh P.length)):=by
 unfold Xb;rw[Xeh];cases S[k]? with
 | none=>rfl
 | some o=>cases o<;>rfl
theorem Xdh(k:Nat):lstM (shS P S) (P.length+k)=(lstM S k).map (·.map (sh P.length)):=Yi k
theorem Xhy(d:D):Xn (shS P S) (sh P.length d)=(Xn S d).map (·.map (sh P.length)):=by
 cases d with
 | tup xs=>rw[Xkx];rfl
 | fro xs=>rw[Xqx];rfl
 | ref k=>rw[Xa0];exact Yi k
 | _=>simp only[sh,Xn,Option.map_none]
mutual
theorem Xmy(h:∀ k,look' (n+k)=look k):∀ d:D,Xw look' (sh n d)=Xw look d
 | .non=>by simp only[sh,Xw]
 | .bl b=>by simp only[sh,Xw]
 | .int i=>by simp only[sh,Xw]
 | .str x=>by simp only[sh,Xw]
 | .tup xs=>by simp only[sh,Xw,datFs_sh h xs]
 | .fro xs=>by simp only[sh,Xw]
 | .fn _ _=>by simp only[sh,Xw]
 | .ref k=>by simp only[sh,Xw,h]
theorem datFs_sh(h:∀ k,look' (n+k)=look k):∀ ds:List D,datFs look' (shs n ds)=datFs look ds
 | []=>by simp only[shs,datFs]
 | d::ds=>by simp only[shs,datFs,Xmy h d,datFs_sh h ds]
end
theorem Xky:∀ (k m:Nat),Ye (shS P S) k (P.length+m)=Ye S k m
 | 0,m=>rfl
 | k+1,m=>by
  unfold Ye;rw[Xeh];cases S[m]? with
  | none=>rfl
  | some o =>
   cases o with
   | lst xs=>simp only[Option.map_some,shO];rw[<- Yo,datFs_sh (fun j=>Xky k j)]
   | dct kvs=>cases kvs<;>rfl
   | _=>rfl
theorem Xdi(d:D):Ys (shS P S) (sh P.length d)=Ys S d:=Xmy (fun k=>Xky 4 k) d
theorem Xqy(x y:D):eqD (shS P S) (sh P.length x) (sh P.length y)=eqD S x y:=by
 have e:Xb8 (sh P.length x) (sh P.length y)=Xb8 x y:=by cases x<;>first|(cases y<;>rfl)|rfl
 have e2:Xdt (shS P S) (sh P.length x) (sh P.length y)=Xdt S x y:=by
  cases x with
  | ref a=>cases y with
   | ref b =>
    simp only[sh,Xdt,Yi];cases Xb S a<;>cases Xb S b<;>simp only[Option.map_none,Option.map_some,List.length_map]
   | _=>rfl
  | _=>cases y<;>rfl
 unfold eqD;rw[Xdi,Xdi,e,e2]
theorem Xqz(x y:D):inD (shS P S) (sh P.length x) (sh P.length y)=inD S x y:=by unfold inD;rw[Xdi,Xdi]
theorem Xbt(n:Nat):∀ xs:List D,Xu (xs.map (sh n))=Xu xs
 | []=>rfl
 | x::xs=>by cases x<;>simp only[List.map,sh,Xu,Xbt n xs]
theorem Xc5(n:Nat):∀ xs:List D,Xz (xs.map (sh n))=Xz xs
 | []=>rfl
 | x::xs=>by cases x<;>simp only[List.map,sh,Xz,Xc5 n xs]
theorem X1z(n:Nat)(x y:D):ltD (sh n x) (sh n y)=ltD x y:=by
 cases x<;>cases y<;>simp only[sh,ltD,Yo,Xbt]
theorem Xmz(op:Co)(x y:D):Yg op (sh P.length x) (sh P.length y) (shS P S)=Yg op x y S:=by
 cases op with
 | eq=>simp only[Yg,Xqy]
 | ne=>simp only[Yg,Xqy]
 | lt=>simp only[Yg,X1z]
 | isin=>simp only[Yg,Xqz]
 | notin=>simp only[Yg,Xqz]
 | is=>cases x<;>cases y<;>simp only[sh,Yg]
 | isnot=>cases x<;>cases y<;>simp only[sh,Yg]
 | _=>cases x<;>cases y<;>simp only[sh,Yg]
theorem Xb2(d:D):Xl (shS P S) (sh P.length d)=Xl S d:=by
 cases d with
 | ref k =>
  simp only[sh,Xl,Xeh];cases S[k]? with
  | none=>rfl
  | some o=>cases o<;>simp[shO]
 | tup xs=>simp only[sh,Xl,Yo,List.isEmpty_map]
 | fro xs=>simp only[sh,Xl,Yo,List.isEmpty_map]
 | _=>simp only[sh,Xl]
theorem X10(d:D):kdD (shS P S) (sh P.length d)=kdD S d:=by
 cases d with
 | ref k =>
  simp only[sh,kdD,Xeh];cases S[k]? with
  | none=>rfl
  | some o=>cases o<;>rfl
 | _=>simp only[sh,kdD]
theorem Xxn(op:Bo)(x y:D):Xm op (sh P.length x) (sh P.length y) (shS P S)=shR P (sh P.length) (Xm op x y S):=by
 cases op with
 | add =>
  cases x with
  | ref n =>
   cases y with
   | ref m =>
    simp only[sh,Xm,Xdh];cases lstM S n with
    | none=>rfl
    | some a =>
     cases lstM S m with
     | none=>rfl
     | some b =>
      simp only[Option.map_some,List.length_map];split
      ·simp only[shR,sh,Y7,Y8,shO,List.map_append]
      ·rfl
   | _=>simp only[sh,Xm,shR]
  | tup a =>
   cases y with
   | tup b =>
    simp only[sh,Xm,Yo,List.length_map];split
    ·simp only[shR,sh,Yo,List.map_append]
    ·rfl
   | _=>simp only[sh,Xm,shR]
  | str a =>
   cases y with
   | str b =>
    simp only[sh,Xm];split
    ·simp only[shR,sh]
    ·rfl
   | _=>simp only[sh,Xm,shR]
  | int a=>cases y<;>simp only[sh,Xm,shR]
  | _=>cases y<;>simp only[sh,Xm,shR]
 | mul =>
  cases x with
  | ref n =>
   cases y with
   | int k =>
    simp only[sh,Xm,Xdh];cases lstM S n with
    | none=>rfl
    | some a =>
     simp only[Option.map_some,List.length_map];split
     ·simp only[shR,sh,Y7,Y8,shO,List.map_flatten,List.map_replicate]
     ·rfl
   | _=>simp only[sh,Xm,shR]
  | tup a =>
   cases y with
   | int k =>
    have e:(shs P.length a).isEmpty=a.isEmpty:=by cases a<;>simp only[shs,List.isEmpty]
    simp only[sh,Xm,e];rw[Yo,List.length_map];split
    ·simp only[shR,sh,Yo,List.map_flatten,List.map_replicate]
    ·rfl
   | _=>simp only[sh,Xm,shR]
  | int a =>
   cases y with
   | int k =>
    simp only[sh,Xm];split<;>simp only[shR,sh]
   | _=>simp only[sh,Xm,shR]
  | _=>cases y<;>simp only[sh,Xm,shR]
 | sub=>cases x<;>cases y<;>simp only[sh,Xm,shR]
 | _ =>
  cases x with
  | int a =>
   cases y with
   | int k =>
    simp only[sh,Xm];split<;>simp only[shR,sh]
   | _=>simp only[sh,Xm,shR]
  | _=>cases y<;>simp only[sh,Xm,shR]
theorem Xxo(op:Bo)(x y:D):Xbw op (sh P.length x) (sh P.length y) (shS P S)=shR P (sh P.length) (Xbw op x y S):=by
 cases op with
 | mul =>
  cases x with
  | int a =>
   cases y with
   | int k =>
    simp only[sh,Xbw];split<;>simp only[shR,sh]
   | _=>simp only[sh,Xbw,shR]
  | _=>cases y<;>simp only[sh,Xbw,shR]
 | _=>cases x<;>cases y<;>simp only[sh,Xbw,shR]
theorem Xm0(op:Co)(x y:D):Xo op (sh P.length x) (sh P.length y) (shS P S)=shR P (sh P.length) (Xo op x y S):=by
 unfold Xo;rw[Xmz];cases Yg op x y S<;>simp only[shR,sh]
theorem Xxp(x i:D):Ym (sh P.length x) (sh P.length i) (shS P S)=(Ym x i S).map (sh P.length):=by
 cases i with
 | int k =>
  have key:∀ x:D,(Xn (shS P S) (sh P.length x)).bind (fun xs=>(ixN xs.length k).bind fun j=>xs[j]?)=((Xn S x).bind fun xs=>(ixN xs.length k).bind fun j=>xs[j]?).map (sh P.length):=fun x=>by
   rw[Xhy];cases Xn S x with
   | none=>rfl
   | some xs =>
    simp only[Option.map_some,Option.bind_some,List.length_map];cases ixN xs.length k with
    | none=>rfl
    | some j=>simp only[Option.bind_some,List.getElem?_map]
  cases x with
  | str z =>
   simp only[sh,Ym];split
   ·cases ixN z.length k with
    | none=>rfl
    | some j =>
     simp only[Option.bind_some];cases z.cps.toList[j]? with
     | none=>rfl
     | some c=>simp only[Option.map_some,sh]
   ·rfl
  | non=>have:=key .non;simpa only[sh,Ym] using this
  | bl b=>have:=key (.bl b);simpa only[sh,Ym] using this
  | int b=>have:=key (.int b);simpa only[sh,Ym] using this
  | tup b=>have:=key (.tup b);simpa only[sh,Ym] using this
  | fro b=>have:=key (.fro b);simpa only[sh,Ym] using this
  | ref b=>have:=key (.ref b);simpa only[sh,Ym] using this
  | fn f b=>have:=key (.fn f b);simpa only[sh,Ym] using this
 | _=>simp only[sh,Ym,Option.map_none]
theorem Xxq(x i:D):Yt (sh P.length x) (sh P.length i) (shS P S)=shR P (sh P.length) (Yt x i S):=by
 unfold Yt;rw[Xxp];cases Ym x i S<;>simp only[Option.map_none,Option.map_some,shR]
theorem Xtl(o i v:D):Xa3 (sh P.length o) (sh P.length i) (sh P.length v) (shS P S)=shR P id (Xa3 o i v S):=by
 cases o with
 | ref n =>
  cases i with
  | int k =>
   simp only[sh,Xa3,Xdh];cases lstM S n with
   | none=>rfl
   | some xs =>
    simp only[Option.map_some,List.length_map];cases ixN xs.length k with
    | none=>rfl
    | some j=>simp only[shR,Xhx,shO,List.map_set,id]
  | _=>simp only[sh,Xa3,shR]
 | _=>cases i<;>simp only[sh,Xa3,shR]
theorem Xm1(n:Nat)(o:Option D):Xbk (o.map (sh n))=Xbk o:=by
 cases o with
 | none=>rfl
 | some d=>cases d<;>simp only[Option.map_some,sh,Xbk]
theorem Xm2{α β:Type}(f:α->β)(xs:List α)(lo hi:Option Int):cut (xs.map f) lo hi=(cut xs lo hi).map f:=by
 unfold cut;simp only[List.length_map,List.map_take,List.map_drop]
theorem Xxr(x:D)(lo hi:Option Int):Xax (sh P.length x) lo hi (shS P S)=shR P (sh P.length) (Xax x lo hi S):=by
 cases x with
 | tup xs=>simp only[sh,Xax,shR,Yo,Xm2]
 | ref n =>
  simp only[sh,Xax,Yi];cases Xb S n with
  | none=>rfl
  | some xs=>simp only[Option.map_some,shR,sh,Y7,Y8,shO,Xm2]
 | _=>simp only[sh,Xax,shR]
theorem Xxs(x:D):Xdu (sh P.length x) (shS P S)=shR P (sh P.length) (Xdu x S):=by
 cases x with
 | tup xs=>simp only[sh,Xdu,shR,Yo,List.map_reverse]
 | ref n =>
  simp only[sh,Xdu,Yi];cases Xb S n with
  | none=>rfl
  | some xs=>simp only[Option.map_some,shR,sh,Y7,Y8,shO,List.map_reverse]
 | _=>simp only[sh,Xdu,shR]
theorem Xm3(n:Nat):∀ (m:Nat) (xs:List D),Xay m (xs.map (sh n))=(Xay m xs).map (sh n)
 | _,[]=>rfl
 | m,x::xs=>by simp only[List.map,Xay,Xm3 n (m+1) xs,sh,shs]
theorem Xxt(n:Nat)(l:List Int):(l.map D.int).map (sh n)=l.map D.int:=by
 rw[List.map_map];exact List.map_congr_left fun _ _=>by simp only[Function.comp,sh]
theorem Xgh(n:Nat):∀ xs:List D,Yq (xs.map (sh n))=Yq xs
 | []=>rfl
 | x::xs=>by cases x<;>simp only[List.map,sh,Yq,Yo,Xbt,Xgh n xs]
theorem Xhz(n:Nat)(r:List (List Int)):(r.map fun k=>D.tup (k.map D.int)).map (sh n)=r.map fun k=>.tup (k.map D.int):=by
 rw[List.map_map];exact List.map_congr_left fun k _=>by simp only[Function.comp,sh,Yo,Xxt]
theorem Xxu(k:Bl)(x:D):Xh k [sh P.length x] (shS P S)=shR P (sh P.length) (Xh k [x] S):=by
 have sq:=Xhy (P:=P) (S:=S) x;cases k with
 | len =>
  cases x with
  | str z=>simp only[sh,Xh];split<;>simp only[shR,sh]
  | non=>rfl
  | bl _=>rfl
  | int _=>rfl
  | fn _ _=>simp only[sh,Xh,Xn,shR]
  | tup b=>simp only[Xkx] at sq ⊢;simp only[Xh,sq];simp only[Xn,Option.map_some,List.length_map,shR,sh]
  | fro b=>simp only[Xqx] at sq ⊢;simp only[Xh,sq];simp only[Xn,Option.map_some,List.length_map,shR,sh]
  | ref b =>
   simp only[Xa0] at sq ⊢;simp only[Xh,sq];cases Xn S (.ref b)<;>simp only[Option.map_none,Option.map_some,List.length_map,shR,sh]
 | tuple =>
  simp only[Xh,sq];cases Xn S x<;>simp only[Option.map_none,Option.map_some,shR,sh,Yo]
 | list =>
  simp only[Xh,sq];cases Xn S x<;>simp only[Option.map_none,Option.map_some,shR,sh,Y7,Y8,shO]
 | sum =>
  simp only[Xh,sq];cases Xn S x with
  | none=>rfl
  | some xs =>
   simp only[Option.map_some,Option.bind_some,Xbt];cases Xu xs<;>simp only[shR,sh]
 | max=>cases x<;>rfl
 | mxl =>
  simp only[Xh,sq];cases Xn S x with
  | none=>rfl
  | some xs =>
   simp only[Option.map_some,Option.bind_some,Xbt];cases Xu xs with
   | none=>rfl
   | some ns=>cases ns<;>simp only[shR,sh]
 | srt =>
  cases x with
  | ref b =>
   simp only[sh,Xh,Yi];cases Xb S b with
   | none=>rfl
   | some xs =>
    simp only[Option.map_some,Option.bind_some,Xgh];cases Yq xs with
    | none=>rfl
    | some ks =>
     dsimp only;cases Xbb ks with
     | none=>rfl
     | some r=>simp only[shR,sh,Y7,Y8,shO,Xhz]
  | _=>simp only[sh,Xh,shR]
 | min=>cases x<;>rfl
 | all =>
  cases x with
  | ref b =>
   simp only[sh,Xh,Yi];cases Xb S b with
   | none=>rfl
   | some xs =>
    simp only[Option.map_some,Option.bind_some,Xc5];cases Xz xs<;>simp only[shR,sh]
  | _=>simp only[sh,Xh,shR]
 | repr =>
  have e:Xbc (shS P S) (sh P.length x)=Xbc S x:=by unfold Xbc;rw[Xdi]
  simp only[Xh,e];cases Xbc S x<;>simp only[shR,sh]
 | int=>cases x<;>simp only[sh,Xh,shR]
theorem X5f(k:Bl)(a b c:D)(r:List D)(S:Sto):Xh k (a::b::c::r) S=.bad:=by
 cases k<;>first|rfl|(cases a<;>first|rfl|(cases b<;>rfl))
theorem X5g(k:Mt)(o a b:D)(r:List D)(S:Sto):Yj k o (a::b::r) S=.bad:=by
 cases o<;>cases k<;>first|rfl|(cases a<;>rfl)
theorem X5h(a b c d:D)(r:List D):Yh (a::b::c::d::r)=none:=by
 cases a<;>first|rfl|(cases b<;>first|rfl|(cases c<;>rfl))
theorem Xxv(k:Bl)(xs:List D):Xh k (xs.map (sh P.length)) (shS P S)=shR P (sh P.length) (Xh k xs S):=by
 match xs with
 | []=>cases k<;>rfl
 | [x]=>exact Xxu k x
 | [x,y]=>cases k<;>first|rfl|(cases x<;>cases y<;>simp only[List.map,sh,Xh,shR])
 | _::_::_::_=>simp only[List.map,X5f,shR]
theorem Xtm(k:Mt)(x:D):Xag k (sh P.length x) (shS P S)=Xag k x S:=by
 cases x with
 | ref n=>cases k<;>simp only[sh,Xag,Yi,Option.isSome_map]
 | _=>cases k<;>simp only[sh,Xag]
theorem Xxw(k:Mt)(o:D)(xs:List D):Yj k (sh P.length o) (xs.map (sh P.length)) (shS P S)=shR P (sh P.length) (Yj k o xs S):=by
 cases o with
 | ref n =>
  match xs with
  | [x] =>
   simp only[List.map];cases k with
   | append =>
    simp only[sh,Yj,Xdh];cases lstM S n with
    | none=>rfl
    | some a =>
     simp only[Option.map_some,List.length_map];split
     ·simp only[shR,sh,Xhx,shO,List.map_append,List.map]
     ·rfl
   | xtd =>
    cases x with
    | ref k =>
     simp only[sh,Yj,Xdh,Yi];cases lstM S n with
     | none=>rfl
     | some a =>
      simp only[Option.map_some];cases Xb S k with
      | none=>rfl
      | some b =>
       simp only[Option.map_some,List.length_map];split
       ·simp only[shR,sh,Xhx,shO,List.map_append]
       ·rfl
    | _=>simp only[sh,Yj,shR]
   | index =>
    cases x with
    | bl i =>
     simp only[sh,Yj,Yi];cases Xb S n with
     | none=>rfl
     | some a =>
      simp only[Option.map_some,Option.bind_some,Xc5];cases Xz a with
      | none=>rfl
      | some bs =>
       dsimp only;cases bs.findIdx? (· == i)<;>simp only[shR,sh]
    | _=>simp only[sh,Yj,shR]
   | count =>
    cases x with
    | bl i =>
     simp only[sh,Yj,Yi];cases Xb S n with
     | none=>rfl
     | some a =>
      simp only[Option.map_some,Option.bind_some,Xc5];cases Xz a<;>simp only[shR,sh]
    | _=>simp only[sh,Yj,shR]
  | []=>cases k<;>simp only[List.map,sh,Yj,shR]
  | _::_::_=>simp only[List.map,X5g,shR]
 | _=>cases k<;>simp only[sh,Yj,shR]
noncomputable def shC(n:Nat):Src->Src
 | .con xs=>.con (xs.map (sh n))
 | .ref k=>.ref (n+k)
 | .enm a=>.enm (shC n a)
theorem Xm4(d:D):Yk (shS P S) (sh P.length d)=(Yk S d).map (shC P.length):=by
 cases d with
 | tup xs=>simp only[sh,Yk,Yo,Option.map_some,shC]
 | ref n=>simp only[sh,Yk,Yi,Option.map_map];cases Xb S n<;>rfl
 | _=>simp only[sh,Yk,Option.map_none]
theorem Xkz(i:Nat):∀ s:Src,(shC P.length s).get (shS P S) i=(s.get S i).map (Option.map (sh P.length))
 | .con xs=>by simp only[shC,Src.get,List.getElem?_map,Option.map_some]
 | .ref n=>by
  simp only[shC,Src.get,Yi,Option.map_map];cases Xb S n with
  | none=>rfl
  | some xs=>simp only[Option.map_some,Function.comp,List.getElem?_map]
 | .enm a=>by
  simp only[shC,Src.get,Xkz i a];cases a.get S i with
  | none=>rfl
  | some o=>cases o<;>simp only[Option.map_some,Option.map_none,sh,shs]
theorem Xck:∀ s:Src,(shC P.length s).most (shS P S)=s.most S
 | .con xs=>by simp only[shC,Src.most,List.length_map]
 | .ref n=>by
  simp only[shC,Src.most,Yi];cases Xb S n<;>simp
 | .enm a=>by simp only[shC,Src.most,Xck a]
theorem Xxx(n:Nat)(xs:List D):Yh (xs.map (sh n))=(Yh xs).map (·.map (sh n)):=by
 match xs with
 | []=>rfl
 | [x] =>
  cases x with
  | int j =>
   simp only[List.map,sh,Yh];split
   ·simp only[Option.map_some,List.map_map];congr 2
   ·rfl
  | _=>simp only[List.map,sh,Yh,Option.map_none]
 | [x,y] =>
  cases x with
  | int i =>
   cases y with
   | int j =>
    simp only[List.map,sh,Yh];split
    ·simp only[Option.map_some,List.map_map];congr 2
    ·rfl
   | _=>simp only[List.map,sh,Yh,Option.map_none]
  | _=>cases y<;>simp only[List.map,sh,Yh,Option.map_none]
 | [x,y,z] =>
  cases x with
  | int i =>
   cases y with
   | int j =>
    cases z with
    | int c =>
     simp only[List.map,sh,Yh];split
     ·simp only[Option.map_some,List.map_map];congr 2
     ·rfl
    | _=>simp only[List.map,sh,Yh,Option.map_none]
   | _=>cases z<;>simp only[List.map,sh,Yh,Option.map_none]
  | _=>cases y<;>cases z<;>simp only[List.map,sh,Yh,Option.map_none]
 | _::_::_::_::_=>simp only[List.map,X5h,Option.map_none]
theorem Xh0(n:Nat):∀ (is:List Nat) (ds:List D) (env:En),(is.zip (ds.map (sh n))).foldl (fun e p=>e.set p.1 (some p.2)) (shE n env)=shE n ((is.zip ds).foldl (fun e p=>e.set p.1 (some p.2)) env)
 | [],ds,env=>by simp
 | i::is,[],env=>by simp
 | i::is,d::ds,env=>by
  simp only[List.map,List.zip_cons_cons,List.foldl_cons];rw[<- Xh0 n is ds];congr 1;unfold shE;rw[List.map_set];rfl
theorem Xfr(n:Nat)(t:Tg)(d:D)(env:En):Xp t (sh n d) (shE n env)=(Xp t d env).map (shE n):=by
 cases t with
 | var i=>simp only[Xp,Option.map_some,shE,List.map_set]
 | tup is =>
  cases d with
  | tup ds =>
   simp only[sh,Xp,Yo,List.length_map];split
   ·simp only[Option.map_some,Xh0]
   ·rfl
  | _=>simp only[sh,Xp,Option.map_none]
theorem Xq0(n:Nat)(t:Tg)(env:En):Xea t (shE n env)=Xea t env:=by
 unfold Xea;congr 1
 funext i
 unfold shE;rw[List.getElem?_map];cases env[i]? with
 | none=>rfl
 | some o=>cases o<;>rfl
theorem Xq1(n i:Nat)(env:En):(shE n env)[i]?=(env[i]?).map (Option.map (sh n)):=by unfold shE;rw[List.getElem?_map]
theorem Xm5(n i:Nat)(env:En)(d:D):shE n (env.set i (some d))=(shE n env).set i (some (sh n d)):=by unfold shE;rw[List.map_set];rfl
theorem Xe0(n:Nat)(env:En)(m:Nat):shE n (env++List.replicate m none)=shE n env++List.replicate m none:=by unfold shE;simp
theorem Xe{α α' β β':Type}{r:R α}{r':R α'}{f:α->α'}{g:β->β'}{k:α->Sto->R β}{k':α'->Sto->R β'}(h:r'=shR P f r)(hk:∀ a S,k' (f a) (shS P S)=shR P g (k a S)):r'.bind k'=shR P g (r.bind k):=by
 subst h;cases r with
 | ok a S=>exact hk a S
 | ex n S=>rfl
 | bad=>rfl
noncomputable def shF(n:Nat):Fl->Fl
 | .nx e=>.nx (shE n e)
 | .brk e=>.brk (shE n e)
 | .cnt e=>.cnt (shE n e)
 | .rt d=>.rt (sh n d)
theorem Xk0{get get':Sto->Nat->Option (Option D)}{body body':En->List D->Sto->R (List D)}(hg:∀ S i,get' (shS P S) i=(get S i).map (Option.map (sh P.length)))
  (hb:∀ env acc S,body' (shE P.length env) (acc.map (sh P.length)) (shS P S)=shR P (·.map (sh P.length)) (body env acc S)) :
  ∀ (k i:Nat) (env:En) (acc:List D) (S:Sto),Yn get' t body' k i (shE P.length env) (acc.map (sh P.length)) (shS P S)=shR P (·.map (sh P.length)) (Yn get t body k i env acc S)
 | 0,i,env,acc,S=>rfl
 | k+1,i,env,acc,S=>by
  simp only[Yn,hg];cases get S i with
  | none=>rfl
  | some o =>
   cases o with
   | none=>rfl
   | some d =>
    simp only[Option.map_some,Xfr];cases Xp t d env with
    | none=>rfl
    | some env' =>
     simp only[Option.map_some,hb];cases body env' acc S with
     | ok a S1=>exact Xk0 hg hb k (i+1) env' a S1
     | ex _ _=>rfl
     | bad=>rfl
theorem Xfs{get get':Sto->Nat->Option (Option D)}{body body':En->Sto->R Fl}(hg:∀ S i,get' (shS P S) i=(get S i).map (Option.map (sh P.length)))
  (hb:∀ env S,body' (shE P.length env) (shS P S)=shR P (shF P.length) (body env S)) :
  ∀ (k i:Nat) (env:En) (S:Sto),Yz get' t body' k i (shE P.length env) (shS P S)=shR P (shF P.length) (Yz get t body k i env S)
 | 0,i,env,S=>rfl
 | k+1,i,env,S=>by
  simp only[Yz,hg];cases get S i with
  | none=>rfl
  | some o =>
   cases o with
   | none=>rfl
   | some d =>
    simp only[Option.map_some,Xfr];cases Xp t d env with
    | none=>rfl
    | some env' =>
     simp only[Option.map_some,hb];cases body env' S with
     | ok a S1 =>
      cases a with
      | nx e=>exact Xfs hg hb k (i+1) e S1
      | cnt e=>exact Xfs hg hb k (i+1) e S1
      | brk e=>rfl
      | rt d=>rfl
     | ex _ _=>rfl
     | bad=>rfl
theorem Xft(ht:∀ env S,test' (shE P.length env) (shS P S)=shR P id (test env S))(hb:∀ env S,body' (shE P.length env) (shS P S)=shR P (shF P.length) (body env S)) :
  ∀ (k:Nat) (env:En) (S:Sto),Xbl test' body' k (shE P.length env) (shS P S)=shR P (shF P.length) (Xbl test body k env S)
 | 0,env,S=>rfl
 | k+1,env,S=>by
  simp only[Xbl,ht];cases test env S with
  | ok b S1 =>
   cases b with
   | false=>rfl
   | true =>
    simp only[shR,id,hb];cases body env S1 with
    | ok a S2 =>
     cases a with
     | nx e=>exact Xft ht hb k e S2
     | cnt e=>exact Xft ht hb k e S2
     | brk e=>rfl
     | rt d=>rfl
    | ex _ _=>rfl
    | bad=>rfl
  | ex _ _=>rfl
  | bad=>rfl
end
noncomputable def X11:D->Bool
 | .non=>true
 | .bl _=>true
 | .int _=>true
 | .str _=>true
 | _=>false
theorem Xxy(h:X11 d=true):sh n d=d:=by cases d<;>first|(simp only[sh];done)|cases h
mutual
noncomputable def cln:Ex->Bool
 | .nev=>true
 | .var _=>true
 | .cst d=>X11 d
 | .neg a=>cln a
 | .glb _=>true
 | .tup es=>clns es
 | .lst es=>clns es
 | .dct0=>true
 | .bin _ a b=>cln a&&cln b
 | .cmp _ a b=>cln a&&cln b
 | .chn _ _ a b c=>cln a&&cln b&&cln c
 | .and a b=>cln a&&cln b
 | .or a b=>cln a&&cln b
 | .not a=>cln a
 | .ite c a b=>cln c&&cln a&&cln b
 | .idx a i=>cln a&&cln i
 | .sli a lo hi=>cln a&&clno lo&&clno hi
 | .rev a=>cln a
 | .call _ es=>clns es
 | .cal f es=>cln f&&clns es
 | .lenm a=>cln a
 | .blt _ es=>clns es
 | .mth _ o es=>cln o&&clns es
 | .isi a _=>cln a
 | .cmr _ _ gs elt=>clng gs&&cln elt
noncomputable def clno:Op->Bool
 | .none=>true
 | .some e=>cln e
noncomputable def clns:Exs->Bool
 | .nil=>true
 | .cons e es=>cln e&&clns es
noncomputable def clng:Gens->Bool
 | .nil=>true
 | .cons _ it ifs gs=>clni it&&clns ifs&&clng gs
noncomputable def clni:It->Bool
 | .val e=>cln e
 | .rng es=>clns es
 | .enm es=>clns es
end
section
variable{F:Fn}{G:List D}{P:Sto}
theorem Xar{α β:Type}{f:α->β}{a:α}{b:β}(h1:b=f a)(h2:S'=shS P S):(R.ok b S':R β)=shR P f (.ok a S):=by subst h1 h2;rfl
theorem Xtn(h1:∀ env S,ifs' (shE P.length env) (shS P S)=shR P id (ifs env S))
  (hb:∀ env acc S,body' (shE P.length env) (acc.map (sh P.length)) (shS P S)=shR P (·.map (sh P.length)) (body env acc S)) (env:En) (acc:List D) (S:Sto) :
  Yy ifs' body' (shE P.length env) (acc.map (sh P.length)) (shS P S)=shR P (·.map (sh P.length)) (Yy ifs body env acc S):=by
 unfold Yy;refine Xe (h1 env S) fun b S=>?_
 cases b
 ·rfl
 ·exact hb env acc S
theorem Xjl(h1:∀ env S,ifs' (shE P.length env) (shS P S)=shR P id (ifs env S))
  (hb:∀ env acc S,body' (shE P.length env) (acc.map (sh P.length)) (shS P S)=shR P (·.map (sh P.length)) (body env acc S)) (m i:Nat) (env:En) (acc:List D) (S:Sto) :
  Yn (shC P.length src).get t (Yy ifs' body') m i (shE P.length env) (acc.map (sh P.length)) (shS P S)=shR P (·.map (sh P.length)) (Yn src.get t (Yy ifs body) m i env acc S) :=
 Xk0 (fun S i=>Xkz i src) (fun env acc S=>Xtn h1 hb env acc S) m i env acc S
theorem Xm6{r r':R D}{acc:List D}(h:r'=shR P (sh P.length) r):(r'.bind fun y S=>if (acc.map (sh P.length)).length<big then .ok (acc.map (sh P.length)++[y]) S else .bad)=shR P (·.map (sh P.length)) (r.bind fun y S=>if acc.length<big then .ok (acc++[y]) S else .bad):=by
 refine Xe h fun y S=>?_
 simp only[List.length_map];split
 ·exact Xar (by simp) rfl
 ·rfl
set_option maxHeartbeats 0 in
mutual
theorem Xr(HF:∀ f ds S,F f (ds.map (sh P.length)) (shS P S)=shR P (sh P.length) (F f ds S))(HG:∀ d∈G,sh P.length d=d):∀ (e:Ex),cln e=true->∀ (env:En) (S:Sto),ev F G e (shE P.length env) (shS P S)=shR P (sh P.length) (ev F G e env S)
 | .nev,h,env,S=>by simp only[ev,shR]
 | .var i,h,env,S=>by
  simp only[ev,Xq1];cases env[i]? with
  | none=>rfl
  | some o=>cases o<;>rfl
 | .cst d,h,env,S=>by
  simp only[ev];exact Xar (Xxy (by simpa only[cln] using h)).symm rfl
 | .neg a,h,env,S=>by
  simp only[cln] at h;simp only[ev];refine Xe (Xr HF HG a h env S) fun x S=>?_
  cases x<;>simp only[sh,shR]
 | .glb k,h,env,S=>by
  simp only[ev];cases e:G[k]? with
  | none=>rfl
  | some d=>exact Xar (HG d (List.mem_of_getElem? e)).symm rfl
 | .tup es,h,env,S=>by
  simp only[cln] at h;simp only[ev];refine Xe (evs_sh HF HG es h env S) fun x S=>?_
  simp only[List.length_map];split
  ·exact Xar (by rw[Xkx]) rfl
  ·rfl
 | .lst es,h,env,S=>by
  simp only[cln] at h;simp only[ev];refine Xe (evs_sh HF HG es h env S) fun x S=>?_
  simp only[List.length_map];split
  ·exact Xar (by rw[Xa0,Y7]) (by rw[Y8];rfl)
  ·rfl
 | .dct0,h,env,S=>by
  simp only[ev];exact Xar (by rw[Xa0,Y7]) (by rw[Y8];rfl)
 | .bin op a b,h,env,S=>by
  simp only[cln,bA0] at h;simp only[ev];exact Xe (Xr HF HG a h.1 env S) fun x S=>Xe (Xr HF HG b h.2 env S) fun y S=>Xxn op x y
 | .cmp op a b,h,env,S=>by
  simp only[cln,bA0] at h;simp only[ev];exact Xe (Xr HF HG a h.1 env S) fun x S=>Xe (Xr HF HG b h.2 env S) fun y S=>Xm0 op x y
 | .chn o1 o2 a b c,h,env,S=>by
  simp only[cln,bA0] at h;simp only[ev];refine Xe (Xr HF HG a h.1.1 env S) fun x S=>Xe (Xr HF HG b h.1.2 env S) fun y S=>?_
  rw[Xmz];cases Yg o1 x y S with
  | none=>rfl
  | some r =>
   cases r with
   | false=>exact Xar (by rw[Xog]) rfl
   | true=>exact Xe (Xr HF HG c h.2 env S) fun z S=>Xm0 o2 y z
 | .and a b,h,env,S=>by
  simp only[cln,bA0] at h;simp only[ev];refine Xe (Xr HF HG a h.1 env S) fun x S=>?_
  rw[Xb2];cases Xl S x with
  | none=>rfl
  | some r =>
   cases r with
   | false=>rfl
   | true=>exact Xr HF HG b h.2 env S
 | .or a b,h,env,S=>by
  simp only[cln,bA0] at h;simp only[ev];refine Xe (Xr HF HG a h.1 env S) fun x S=>?_
  rw[Xb2];cases Xl S x with
  | none=>rfl
  | some r =>
   cases r with
   | false=>exact Xr HF HG b h.2 env S
   | true=>rfl
 | .not a,h,env,S=>by
  simp only[cln] at h;simp only[ev];refine Xe (Xr HF HG a h env S) fun x S=>?_
  rw[Xb2];cases Xl S x with
  | none=>rfl
  | some r=>exact Xar (by rw[Xog]) rfl
 | .ite c a b,h,env,S=>by
  simp only[cln,bA0] at h;simp only[ev];refine Xe (Xr HF HG c h.1.1 env S) fun x S=>?_
  rw[Xb2];cases Xl S x with
  | none=>rfl
  | some r =>
   cases r with
   | false=>exact Xr HF HG b h.2 env S
   | true=>exact Xr HF HG a h.1.2 env S
 | .idx a i,h,env,S=>by
  simp only[cln,bA0] at h;simp only[ev];exact Xe (Xr HF HG a h.1 env S) fun x S=>Xe (Xr HF HG i h.2 env S) fun y S=>Xxq x y
 | .sli a lo hi,h,env,S=>by
  simp only[cln,bA0] at h;simp only[ev];refine Xe (Xr HF HG a h.1.1 env S) fun x S=>Xe (evo_sh HF HG lo h.1.2 env S) fun l S=>Xe (evo_sh HF HG hi h.2 env S) fun u S=>?_
  rw[Xm1,Xm1];cases Xbk l with
  | none=>rfl
  | some l' =>
   cases Xbk u with
   | none=>rfl
   | some u'=>exact Xxr x l' u'
 | .rev a,h,env,S=>by
  simp only[cln] at h;simp only[ev];exact Xe (Xr HF HG a h env S) fun x S=>Xxs x
 | .call f es,h,env,S=>by
  simp only[cln] at h;simp only[ev];exact Xe (evs_sh HF HG es h env S) fun x S=>HF f x S
 | .cal f es,h,env,S=>by
  simp only[cln,bA0] at h;simp only[ev];refine Xe (Xr HF HG f h.1 env S) fun x S=>?_
  cases x with
  | fn k nm =>
   simp only[sh];split
   ·exact Xe (evs_sh HF HG es h.2 env S) fun x S=>HF k x S
   ·rfl
  | _=>simp only[sh,shR]
 | .lenm a,h,env,S=>by
  simp only[cln] at h;simp only[ev];refine Xe (Xr HF HG a h env S) fun x S=>?_
  rw[Xhy];cases Xn S x with
  | none=>rfl
  | some xs=>exact Xar (by rw[Xa0,Y7]) (by rw[Y8];simp only[Xm3,shO])
 | .blt k es,h,env,S=>by
  simp only[cln] at h;simp only[ev];exact Xe (evs_sh HF HG es h env S) fun x S=>Xxv k x
 | .mth k o es,h,env,S=>by
  simp only[cln,bA0] at h;simp only[ev];refine Xe (Xr HF HG o h.1 env S) fun x S=>?_
  rw[Xtm];split
  ·exact Xe (evs_sh HF HG es h.2 env S) fun xs S=>Xxw k x xs
  ·rfl
 | .isi a ts,h,env,S=>by
  simp only[cln] at h;simp only[ev];refine Xe (Xr HF HG a h env S) fun x S=>?_
  rw[X10];cases (kdD S x).bind fun k=>Yu k ts with
  | none=>rfl
  | some r=>exact Xar (by rw[Xog]) rfl
 | .cmr k n .nil elt,h,env,S=>by simp only[ev,shR]
 | .cmr k n (.cons t it ifs .nil) elt,h,env,S=>by
  simp only[cln,clng,bA0] at h;simp only[ev];refine Xe (evit_sh HF HG it h.1.1.1 env S) fun src S=>?_
  rw[Xck,<- Xe0];refine Xe (f:=(·.map (sh P.length))) (Xjl (fun env S=>evts_sh HF HG ifs h.1.1.2 env S) (fun env acc S=>Xm6 (Xr HF HG elt h.2 env S)) _ _ _ [] _) fun acc S=>?_
  cases k with
  | true=>rfl
  | false=>exact Xar (by rw[Xa0,Y7]) (by rw[Y8];rfl)
 | .cmr k n (.cons t it ifs (.cons t2 it2 ifs2 .nil)) elt,h,env,S=>by
  simp only[cln,clng,bA0] at h;simp only[ev];refine Xe (evit_sh HF HG it h.1.1.1 env S) fun src S=>?_
  rw[Xck,<- Xe0];refine Xe (f:=(·.map (sh P.length))) (Xjl (fun env S=>evts_sh HF HG ifs h.1.1.2 env S) (fun env acc S=>?_) _ _ _ [] _) fun acc S=>?_
  ·rw[Xq0]
   split
   ·refine Xe (evit_sh HF HG it2 h.1.2.1.1 env S) fun src2 S=>?_
    rw[Xck];exact Xjl (fun env S=>evts_sh HF HG ifs2 h.1.2.1.2 env S) (fun env acc S=>Xm6 (Xr HF HG elt h.2 env S)) _ _ _ _ _
   ·rfl
  ·cases k with
   | true=>rfl
   | false=>exact Xar (by rw[Xa0,Y7]) (by rw[Y8];rfl)
 | .cmr k n (.cons t it ifs (.cons t2 it2 ifs2 (.cons t3 it3 ifs3 gs3))) elt,h,env,S=>by
  simp only[cln,clng,bA0] at h;simp only[ev];refine Xe (evit_sh HF HG it h.1.1.1 env S) fun src S=>?_
  rw[Xck,<- Xe0];refine Xe (f:=(·.map (sh P.length))) (Xjl (fun env S=>evts_sh HF HG ifs h.1.1.2 env S) (fun env acc S=>rfl) _ _ _ [] _) fun acc S=>?_
  cases k with
  | true=>rfl
  | false=>exact Xar (by rw[Xa0,Y7]) (by rw[Y8];rfl)
theorem evo_sh(HF:∀ f ds S,F f (ds.map (sh P.length)) (shS P S)=shR P (sh P.length) (F f ds S))(HG:∀ d∈G,sh P.length d=d):∀ (o:Op),clno o=true->∀ (env:En) (S:Sto),evo F G o (shE P.length env) (shS P S)=shR P (Option.map (sh P.length)) (evo F G o env S)
 | .none,h,env,S=>by simp only[evo];rfl
 | .some e,h,env,S=>by
  simp only[clno] at h;simp only[evo];exact Xe (Xr HF HG e h env S) fun x S=>rfl
theorem evs_sh(HF:∀ f ds S,F f (ds.map (sh P.length)) (shS P S)=shR P (sh P.length) (F f ds S))(HG:∀ d∈G,sh P.length d=d):∀ (es:Exs),clns es=true->∀ (env:En) (S:Sto),evs F G es (shE P.length env) (shS P S)=shR P (·.map (sh P.length)) (evs F G es env S)
 | .nil,h,env,S=>by simp only[evs];rfl
 | .cons e es,h,env,S=>by
  simp only[clns,bA0] at h;simp only[evs];exact Xe (Xr HF HG e h.1 env S) fun x S=>Xe (evs_sh HF HG es h.2 env S) fun xs S=>rfl
theorem evts_sh(HF:∀ f ds S,F f (ds.map (sh P.length)) (shS P S)=shR P (sh P.length) (F f ds S))(HG:∀ d∈G,sh P.length d=d):∀ (es:Exs),clns es=true->∀ (env:En) (S:Sto),evts F G es (shE P.length env) (shS P S)=shR P id (evts F G es env S)
 | .nil,h,env,S=>by simp only[evts];rfl
 | .cons e es,h,env,S=>by
  simp only[clns,bA0] at h;simp only[evts];refine Xe (Xr HF HG e h.1 env S) fun x S=>?_
  rw[Xb2];cases Xl S x with
  | none=>rfl
  | some r =>
   cases r with
   | false=>rfl
   | true=>exact evts_sh HF HG es h.2 env S
theorem evit_sh(HF:∀ f ds S,F f (ds.map (sh P.length)) (shS P S)=shR P (sh P.length) (F f ds S))(HG:∀ d∈G,sh P.length d=d):∀ (it:It),clni it=true->∀ (env:En) (S:Sto),evit F G it (shE P.length env) (shS P S)=shR P (shC P.length) (evit F G it env S)
 | .val e,h,env,S=>by
  simp only[clni] at h;simp only[evit];refine Xe (Xr HF HG e h env S) fun x S=>?_
  rw[Xm4];cases Yk S x<;>rfl
 | .rng es,h,env,S=>by
  simp only[clni] at h;simp only[evit];refine Xe (evs_sh HF HG es h env S) fun x S=>?_
  rw[Xxx];cases Yh x<;>rfl
 | .enm es,h,env,S=>by
  simp only[clni] at h;simp only[evit];refine Xe (evs_sh HF HG es h env S) fun xs S=>?_
  match xs with
  | []=>rfl
  | [x] =>
   simp only[List.map,Xm4];cases Yk S x<;>rfl
  | _::_::_=>rfl
end
end
mutual
noncomputable def Xb3:St->Bool
 | .nev=>true
 | .asg _ e=>cln e
 | .par _ es=>clns es
 | .aset o i e=>cln o&&cln i&&cln e
 | .aug _ _ e=>cln e
 | .expr e=>cln e
 | .ret e=>cln e
 | .ite c a b=>cln c&&clnSs a&&clnSs b
 | .for _ it b=>clni it&&clnSs b
 | .whl c b=>cln c&&clnSs b
 | .rse _ e=>cln e
 | .try b _ _ h=>clnSs b&&clnSs h
 | .pass=>true
 | .brk=>true
 | .cnt=>true
noncomputable def clnSs:Sts->Bool
 | .nil=>true
 | .cons s ss=>Xb3 s&&clnSs ss
end
section
variable{F:Fn}{G:List D}{P:Sto}
set_option maxHeartbeats 0 in
mutual
theorem X12(HF:∀ f ds S,F f (ds.map (sh P.length)) (shS P S)=shR P (sh P.length) (F f ds S))(HG:∀ d∈G,sh P.length d=d):∀ (s:St),Xb3 s=true->∀ (env:En) (S:Sto),exe F G s (shE P.length env) (shS P S)=shR P (shF P.length) (exe F G s env S)
 | .nev,h,env,S=>by simp only[exe,shR]
 | .asg t e,h,env,S=>by
  simp only[Xb3] at h;simp only[exe];refine Xe (Xr HF HG e h env S) fun x S=>?_
  rw[Xfr];cases Xp t x env<;>rfl
 | .par is es,h,env,S=>by
  simp only[Xb3] at h;simp only[exe];refine Xe (evs_sh HF HG es h env S) fun x S=>?_
  simp only[List.length_map];split
  ·rw[Xh0];rfl
  ·rfl
 | .aset o i e,h,env,S=>by
  simp only[Xb3,bA0] at h;simp only[exe];exact Xe (Xr HF HG e h.2 env S) fun v S=>Xe (Xr HF HG o h.1.1 env S) fun x S=>Xe (Xr HF HG i h.1.2 env S) fun y S=>Xe (Xtl x y v) fun _ S=>rfl
 | .aug i op e,h,env,S=>by
  simp only[Xb3] at h;simp only[exe,Xq1];cases env[i]? with
  | none=>rfl
  | some o =>
   cases o with
   | none=>rfl
   | some x =>
    refine Xe (Xr HF HG e h env S) fun y S=>Xe (Xxo op x y) fun z S=>?_
    exact Xar (by rw[shF,Xm5]) rfl
 | .expr e,h,env,S=>by
  simp only[Xb3] at h;simp only[exe];exact Xe (Xr HF HG e h env S) fun x S=>rfl
 | .ret e,h,env,S=>by
  simp only[Xb3] at h;simp only[exe];exact Xe (Xr HF HG e h env S) fun x S=>rfl
 | .ite c a b,h,env,S=>by
  simp only[Xb3,bA0] at h;simp only[exe];refine Xe (Xr HF HG c h.1.1 env S) fun x S=>?_
  rw[Xb2];cases Xl S x with
  | none=>rfl
  | some r =>
   cases r with
   | true=>exact exes_sh HF HG a h.1.2 env S
   | false=>exact exes_sh HF HG b h.2 env S
 | .for t it b,h,env,S=>by
  simp only[Xb3,bA0] at h;simp only[exe];refine Xe (evit_sh HF HG it h.1 env S) fun src S=>?_
  rw[Xck];exact Xfs (fun S i=>Xkz i src) (fun env S=>exes_sh HF HG b h.2 env S) _ _ _ _
 | .whl c b,h,env,S=>by
  simp only[Xb3,bA0] at h;simp only[exe];refine Xft (fun env S=>?_) (fun env S=>exes_sh HF HG b h.2 env S) _ _ _
  refine Xe (Xr HF HG c h.1 env S) fun x S=>?_
  rw[Xb2];cases Xl S x<;>rfl
 | .rse c e,h,env,S=>by
  simp only[Xb3] at h;simp only[exe];refine Xe (Xr HF HG e h env S) fun x S=>?_
  simp only[shR,Y8,shO,Y7]
 | .try b c x hd,h,env,S=>by
  simp only[Xb3,bA0] at h;simp only[exe];split
  ·rw[exes_sh HF HG b h.1 env S]
   cases exes F G b env S with
   | ok a S1=>rfl
   | bad=>rfl
   | ex n S1 =>
    simp only[shR,Xeh];cases S1[n]? with
    | none=>rfl
    | some o =>
     cases o with
     | exc c' =>
      simp only[Option.map_some,shO];split
      ·have e:=exes_sh HF HG hd h.2 (env.set x (some (.ref n))) S1
       rw[Xm5,Xa0] at e;rw[e];cases exes F G hd (env.set x (some (.ref n))) S1 with
       | ok a S2=>cases a<;>rfl
       | ex _ _=>rfl
       | bad=>rfl
      ·rfl
     | _=>rfl
  ·rfl
 | .pass,h,env,S=>by simp only[exe];rfl
 | .brk,h,env,S=>by simp only[exe];rfl
 | .cnt,h,env,S=>by simp only[exe];rfl
theorem exes_sh(HF:∀ f ds S,F f (ds.map (sh P.length)) (shS P S)=shR P (sh P.length) (F f ds S))(HG:∀ d∈G,sh P.length d=d):∀ (ss:Sts),clnSs ss=true->∀ (env:En) (S:Sto),exes F G ss (shE P.length env) (shS P S)=shR P (shF P.length) (exes F G ss env S)
 | .nil,h,env,S=>by simp only[exes];rfl
 | .cons s ss,h,env,S=>by
  simp only[clnSs,bA0] at h;simp only[exes];rw[X12 HF HG s h.1 env S];cases exe F G s env S with
  | ok a S1 =>
   cases a with
   | nx e=>exact exes_sh HF HG ss h.2 e S1
   | _=>rfl
  | ex _ _=>rfl
  | bad=>rfl
end
theorem X13(HF:∀ f ds S,F f (ds.map (sh P.length)) (shS P S)=shR P (sh P.length) (F f ds S))(HG:∀ d∈G,sh P.length d=d)(d:Df)(hd:clnSs d.body=true)(ds:List D)(S:Sto) :
  den F G d (ds.map (sh P.length)) (shS P S)=shR P (sh P.length) (den F G d ds S):=by
 unfold den;simp only[List.length_map];split
 ·have e:(ds.map (sh P.length)).map some++List.replicate (d.nl-d.np) none=shE P.length (ds.map some++List.replicate (d.nl-d.np) none):=by
   rw[Xe0];unfold shE;simp
  rw[e,exes_sh HF HG d.body hd];cases exes F G d.body (ds.map some++List.replicate (d.nl-d.np) none) S with
  | ok a S1=>cases a<;>first|rfl|exact Xar (by rw[X1y]) rfl
  | ex _ _=>rfl
  | bad=>rfl
 ·rfl
end
theorem Xvd(hT:(T.all fun d=>clnSs d.body)=true)(P:Sto)(HG:∀ d∈G,sh P.length d=d):∀ (k f:Nat) (ds:List D) (S:Sto),FT T G k f (ds.map (sh P.length)) (shS P S)=shR P (sh P.length) (FT T G k f ds S)
 | 0,f,ds,S=>rfl
 | k+1,f,ds,S=>by
  simp only[FT];cases e:T[f]? with
  | none=>rfl
  | some d=>exact X13 (fun f ds S=>Xvd hT P HG k f ds S) HG d (List.all_eq_true.mp hT d (List.mem_of_getElem? e)) ds S
mutual
noncomputable def flt:D->Bool
 | .tup xs=>flts xs
 | .fro xs=>flts xs
 | .ref _=>false
 | _=>true
noncomputable def flts:List D->Bool
 | []=>true
 | x::r=>flt x&&flts r
end
mutual
theorem Xq2(n:Nat):∀ d:D,flt d=true->sh n d=d
 | .non,_=>by simp only[sh]
 | .bl _,_=>by simp only[sh]
 | .int _,_=>by simp only[sh]
 | .str _,_=>by simp only[sh]
 | .fn _ _,_=>by simp only[sh]
 | .ref _,h=>by simp[flt] at h
 | .tup xs,h=>by
  have h':flts xs=true:=by simpa only[flt] using h
  simp only[sh,flts_sh n xs h']
 | .fro xs,h=>by
  have h':flts xs=true:=by simpa only[flt] using h
  simp only[sh,flts_sh n xs h']
theorem flts_sh(n:Nat):∀ ds:List D,flts ds=true->shs n ds=ds
 | [],_=>by simp only[shs]
 | x::r,h=>by
  have h':flt x=true/\flts r=true:=by simpa only[flts,bA0] using h
  simp only[shs,Xq2 n x h'.1,flts_sh n r h'.2]
end
theorem Xfu(n:Nat)(h:flts ds=true):ds.map (sh n)=ds:=by rw[<- Yo];exact flts_sh n ds h
noncomputable def Xto{α:Type}:R α->Option α
 | .ok a _=>some a
 | _=>none
noncomputable def X14{α:Type}:R α->Sto
 | .ok _ S=>S
 | _=>[]
theorem X15{α:Type}{r:R α}{a:α}(h:Xto r=some a):r=.ok a (X14 r):=by
 cases r with
 | ok b S=>cases h;rfl
 | _=>cases h
structure Le(e1 e2:En):Prop where
 len:e1.length=e2.length
 val:∀ (i:Nat) d,e1[i]?=some (some d)->e2[i]?=some (some d)
theorem Le.set(h:Le e1 e2)(i:Nat)(d:D):Le (e1.set i (some d)) (e2.set i (some d)) :=
 ⟨by simp[h.len],fun j x e=>by
  by_cases z:i=j
  ·subst z
   have hj:i<e1.length:=by have:=(List.getElem?_eq_some_iff.mp e).1;simpa using this
   rw[List.getElem?_set_self hj] at e;rw[List.getElem?_set_self (by rw[<- h.len];exact hj)]
   exact e
  ·rw[List.getElem?_set_ne z] at e ⊢
   exact h.val j x e⟩
theorem Le.sets:∀ (is:List Nat) (ds:List D) {e1 e2:En},Le e1 e2->Le ((is.zip ds).foldl (fun e p=>e.set p.1 (some p.2)) e1) ((is.zip ds).foldl (fun e p=>e.set p.1 (some p.2)) e2)
 | [],ds,e1,e2,h=>by simpa using h
 | i::is,[],e1,e2,h=>by simpa using h
 | i::is,d::ds,e1,e2,h=>Le.sets is ds (h.set i d)
section
variable{F:Fn}{G:List D}{e1 e2:En}
end
def LeF:Fl->Fl->Prop
 | .nx e,.nx e'=>Le e e'
 | .brk e,.brk e'=>Le e e'
 | .cnt e,.cnt e'=>Le e e'
 | .rt d,.rt d'=>d=d'
 | _,_=>False
def LeR(r1 r2:R Fl):Prop:=match r1 with
 | .ok a S=>∃ b,r2=.ok b S/\LeF a b
 | .ex n S=>r2=.ex n S
 | .bad=>True
theorem LeR.bind{α:Type}{r1 r2:R α}{k1 k2:α->Sto->R Fl}(h:r1≠.bad->r2=r1)(hk:∀ a S,LeR (k1 a S) (k2 a S)):LeR (r1.bind k1) (r2.bind k2):=by
 cases r1 with
 | ok a S=>rw[h (fun z=>nomatch z)];exact hk a S
 | ex n S=>rw[h (fun z=>nomatch z)];exact rfl
 | bad=>exact trivial
section
variable{F:Fn}{G:List D}
end
theorem Xh1{m:Int}(h:m<1000000):m<1048576:=by omega
theorem Xi:Xb (S++[.lst xs]) S.length=some xs:=by
 unfold Xb;rw[List.getElem?_append_right (Nat.le_refl _),Nat.sub_self];rfl
theorem Xg(h:Xb S q=some xs):Xb (S++X) q=some xs:=by
 unfold Xb at h ⊢;cases e:S[q]? with
 | none=>rw[e] at h;cases h
 | some o=>rw[List.getElem?_append_left (List.getElem?_eq_some_iff.mp e).1];exact h
theorem Xei(hp:Xb S p=some xs):p<S.length:=by
 unfold Xb at hp;cases e:S[p]? with
 | none=>rw[e] at hp;cases hp
 | some o=>exact(List.getElem?_eq_some_iff.mp e).1
theorem Xh2{S:Sto}{p:Nat}{x:List D}(h:p<S.length):Xb (S.set p (.lst x)) p=some x:=by
 unfold Xb;rw[List.getElem?_set_self h]
theorem Xq3(h:p≠q):Xb (S.set p o) q=Xb S q:=by
 unfold Xb;rw[List.getElem?_set_ne h]
theorem X5i(h:Xb S p=some [.int v]):Yt (.ref p) (.int 0) S=.ok (.int v) S:=by
 simp only[Yt,Ym,Xn,h,Option.bind_some,Z.ixN,List.length];rfl
theorem X4b(h:Xb S p=some [.int v]):Xa3 (.ref p) (.int 0) d S=.ok () (S.set p (.lst [d])):=by
 have h':Z.lstM S p=some [.int v]:=h;simp only[Xa3,h',Z.ixN,List.length];rfl
section
variable{F:Fn}{G:List D}
noncomputable def Xoh:Sts:=.cons (.ite (.cmp .lt (.var 1) (.blt .len (.cons (.var 0) .nil))) (.cons (.ret (.idx (.var 0) (.var 1))) .nil) .nil) (.cons (.ret (.cst (.int 0))) .nil)
noncomputable def Xjm:Df:=⟨2,2,Xoh⟩
theorem Xtp(ns:List Int)(j:Nat)(S:Sto):∃ c,den F G Xjm [.fro (ns.map D.int),.int j] S=.ok (.int c) S:=by
 have hlen:Xh .len [.fro (ns.map D.int)] S=.ok (.int ns.length) S:=by simp only[Xh,Xn,List.length_map]
 by_cases h:j<ns.length
 ·refine⟨ns[j],?_⟩
  have hi:Yt (.fro (ns.map D.int)) (.int j) S=.ok (.int ns[j]) S:=by
   simp only[Yt,Ym,Xn,Option.bind_some,Z.ixN,List.length_map];rw[if_pos (by omega),if_pos (by omega)]
   simp[h]
  simp only[den,Xjm,Xoh,List.length,if_true,List.map,List.replicate,Nat.sub_self,List.append_nil];rw[X7 (d:=.int ns[j]) (S1:=S) (by
   have hc:decide ((j:Int)<(ns.length:Int))=true:=decide_eq_true (by omega)
   simp only[exe,ev,evs,gZ0,gS0,Rk0,hlen,Xo,Yg,ltD,hc,Xl];simp only[exes,exe,ev,gZ0,gS0,Rk0,hi])]
 ·refine⟨0,?_⟩
  simp only[den,Xjm,Xoh,List.length,if_true,List.map,List.replicate,Nat.sub_self,List.append_nil];rw[Xd (e:=[some (.fro (ns.map D.int)),some (.int j)]) (S1:=S) (by
   have hc:decide ((j:Int)<(ns.length:Int))=false:=decide_eq_false (by omega)
   simp only[exe,ev,evs,gZ0,gS0,Rk0,hlen,Xo,Yg,ltD,hc,Xl];simp only[exes])]
  simp only[exes,exe,ev,Rk0]
noncomputable def Xve:Sts:=.cons (.asg (.var 2) (.bin .mod (.idx (.var 0) (.cst (.int 0))) (.var 1))) (.cons (.aset (.var 0) (.cst (.int 0)) (.bin .fdiv (.idx (.var 0) (.cst (.int 0))) (.var 1))) (.cons (.ret (.var 2)) .nil))
noncomputable def Xjn:Df:=⟨2,3,Xve⟩
theorem Xtq{p:Nat}{v far:Int}{S:Sto}(h:Xb S p=some [.int v])(h0:0<far)(hd:Xae far=true):den F G Xjn [.ref p,.int far] S=.ok (.int (v%far)) (S.set p (.lst [.int (v/far)])):=by
 have i0:=X5i h;have a0:=X4b (d:=.int (v/far)) h;simp only[den,Xjn,Xve,List.length,if_true,List.map,List.replicate];rw[Xd (e:=[some (.ref p),some (.int far),some (.int (v%far))]) (S1:=S) (by simp only[exe,ev,List.cons_append,List.nil_append,gZ0,gS0,Rk0,i0,Xez h0,Xp,List.set])]
 rw[Xd (e:=[some (.ref p),some (.int far),some (.int (v%far))]) (S1:=S.set p (.lst [.int (v/far)])) (by simp only[exe,ev,gZ0,gS0,Rk0,i0,Xb0 hd,a0])]
 rw[X7 (d:=.int (v%far)) (S1:=S.set p (.lst [.int (v/far)])) (by simp only[exe,ev,gZ0,gS0,Rk0])]
noncomputable def Xgi:Sts:=.cons (.asg (.var 3) (.bin .mod (.bin .mul (.bin .add (.bin .add (.bin .mod (.var 0) (.cst (.int 2147483629))) (.bin .mul (.cst (.int 7919)) (.var 2))) (.cst (.int 1))) (.cst (.int 48271))) (.cst (.int 2147483647))))
  (.cons (.asg (.var 3) (.bin .mod (.bin .add (.bin .add (.bin .mul (.var 3) (.var 3)) (.bin .mul (.cst (.int 69621)) (.var 2))) (.cst (.int 7))) (.cst (.int 2147483587))))
  (.cons (.asg (.var 1) (.bin .add (.bin .mul (.var 1) (.cst (.int 2147483587))) (.var 3)))
  .nil))
noncomputable def Xtr:Sts:=.cons (.ite (.cmp .ge (.var 0) (.bin .pow (.cst (.int 10)) (.cst (.int 18)))) (.cons (.ret (.lst (.cons (.bin .sub (.var 0) (.bin .pow (.cst (.int 10)) (.cst (.int 18)))) .nil))) .nil) .nil)
 (.cons (.asg (.var 1) (.cst (.int 0))) (.cons (.for (.var 2) (.rng (.cons (.cst (.int 64)) .nil)) Xgi) (.cons (.ret (.lst (.cons (.var 1) .nil))) .nil)))
noncomputable def Xh3:Df:=⟨1,4,Xtr⟩
theorem Xts(c a j:Int)(x:Option D)(S:Sto):∃ a' b',exes F G Xgi [some (.int c),some (.int a),some (.int j),x] S=.ok (.nx [some (.int c),some (.int a'),some (.int j),some (.int b')]) S:=by
 have m1:Yl 7919 j=true:=Xmw (by decide) (by decide)
 have m2:∀ y,Yl y 48271=true:=fun y=>Xb1 (by decide) (by decide)
 have m3:Yl 69621 j=true:=Xmw (by decide) (by decide)
 have m4:∀ y,Yl y 2147483587=true:=fun y=>Xb1 (by decide) (by decide)
 have p1:(0:Int)<2147483629:=by decide
 have p2:(0:Int)<2147483647:=by decide
 have p3:(0:Int)<2147483587:=by decide
 generalize hb:((c%2147483629+7919*j+1)*48271)%2147483647=b;have b1:0<=b:=by rw[<- hb];exact Int.emod_nonneg _ (by decide)
 have b2:b<2147483647:=by rw[<- hb];exact Int.emod_lt_of_pos _ (by decide)
 have m5:Yl b b=true:=Xb1 (by omega) (by omega)
 refine⟨a*2147483587+(b*b+69621*j+7)%2147483587,(b*b+69621*j+7)%2147483587,?_⟩;unfold Xgi;rw[Xd (e:=[some (.int c),some (.int a),some (.int j),some (.int b)]) (S1:=S) (by
  simp only[exe,ev,gZ0,gS0,Rk0,Xez p1,Xav m1,Yd,Xav (m2 _),Xez p2,Xp,List.set,hb])]
 rw[Xd (e:=[some (.int c),some (.int a),some (.int j),some (.int ((b*b+69621*j+7)%2147483587))]) (S1:=S) (by
  simp only[exe,ev,gZ0,gS0,Rk0,Xav m5,Xav m3,Yd,Xez p3,Xp,List.set])]
 rw[Xd (e:=[some (.int c),some (.int (a*2147483587+(b*b+69621*j+7)%2147483587)),some (.int j),some (.int ((b*b+69621*j+7)%2147483587))]) (S1:=S) (by
  simp only[exe,ev,gZ0,gS0,Rk0,Xav (m4 _),Yd,Xp,List.set])]
 simp only[exes]
theorem Xxz(c a:Int)(S:Sto)(e':En)(hc:¬ (10:Int)^(18:Int).toNat<=c)(h1:exe F G (.for (.var 2) (.rng (.cons (.cst (.int 64)) .nil)) Xgi) [some (.int c),some (.int 0),none,none] S=.ok (.nx e') S)(h2:e'[1]?=some (some (.int a))) :
  den F G Xh3 [.int c] S=.ok (.ref S.length) (S++[.lst [.int a]]):=by
 have hp:Xm .pow (.int 10) (.int 18) S=.ok (.int (10^(18:Int).toNat)) S:=Xhw (by decide+kernel) S
 generalize (10:Int)^(18:Int).toNat=w at hp hc;simp only[den,Xh3,Xtr,List.length,if_true,List.map,List.replicate];rw[Xd (e:=[some (.int c),none,none,none]) (S1:=S) (by
  simp only[exe,ev,List.cons_append,List.nil_append,gZ0,gS0,Rk0,hp,Xo,Yg,Xl,decide_eq_false hc];simp only[exes])]
 rw[Xd (e:=[some (.int c),some (.int 0),none,none]) (S1:=S) (by simp only[exe,ev,Rk0,Xp,List.set])]
 have h1':=Xd (ss:=.cons (.ret (.lst (.cons (.var 1) .nil))) .nil) h1;rw[h1'];rw[X7 (d:=.ref S.length) (S1:=S++[.lst [.int a]]) (by
  simp only[exe,ev,evs,h2,Rk0,List.length];rfl)]
theorem Xq4(c:Int)(S:Sto)(hc:(10:Int)^(18:Int).toNat<=c):∃ a,den F G Xh3 [.int c] S=.ok (.ref S.length) (S++[.lst [.int a]]):=by
 have hp:Xm .pow (.int 10) (.int 18) S=.ok (.int (10^(18:Int).toNat)) S:=Xhw (by decide+kernel) S
 generalize (10:Int)^(18:Int).toNat=w at hp hc;refine⟨c-w,?_⟩;simp only[den,Xh3,Xtr,List.length,if_true,List.map,List.replicate];rw[X7 (d:=.ref S.length) (S1:=S++[.lst [.int (c-w)]]) (by
  simp only[exe,ev,List.cons_append,List.nil_append,gZ0,gS0,Rk0,hp,Xo,Yg,Xl,decide_eq_true hc];rw[X7 (d:=.ref S.length) (S1:=S++[.lst [.int (c-w)]]) (by
   simp only[exe,ev,evs,gZ0,Rk0,hp,Xau,List.length];rfl)])]
theorem Xx0(c:Int)(S:Sto):∃ a,den F G Xh3 [.int c] S=.ok (.ref S.length) (S++[.lst [.int a]]):=by
 by_cases hc:(10:Int)^(18:Int).toNat<=c
 ·exact Xq4 c S hc
 obtain⟨xs,hx,hl⟩:=Yx (m:=(64:Int)) (by decide) (Xh1 (by decide))
 have loop:=Xcj (F:=F) (G:=G) (t:=.var 2) (es:=.cons (.cst (.int 64)) .nil) (b:=Xgi)
  (env:=[some (.int c),some (.int 0),none,none]) (S:=S) (S1:=S) (ds:=[.int 64]) (xs:=xs) (fun i e S'=>S'=S/\∃ a x y,e=[some (.int c),some (.int a),x,y])
  (by simp only[evs,ev,Rk0]) hx ⟨rfl,0,none,none,rfl⟩ (fun i d e S' hd hP=>by
   obtain⟨rfl,a,x,y,rfl⟩:=hP;obtain⟨rfl,hi⟩:=Xaf hx hd;obtain⟨a',b',st⟩:=Xts (F:=F) (G:=G) c a i y S';exact⟨_,_,S',rfl,st,rfl,a',_,_,rfl⟩)
 obtain⟨e',S',h1,rfl,a,x,y,rfl⟩:=loop;exact⟨a,Xxz c a S' _ hc h1 rfl⟩
noncomputable def wh:D->Bool
 | .int _=>true
 | _=>false
def good(S:Sto)(d:D):Prop:=∃ k,kdD S d=some k/\∀ c,k≠.exc c
theorem Xx1(h:∀ c,k≠.exc c):∃ b,Yu k [.int]=some b/\(b=true ↔ k=.int\/k=.bool):=by
 cases k<;>first|exact⟨_,rfl,by simp⟩|exact absurd rfl (h _)
theorem Xtt(h:∀ c,k≠.exc c):∃ b,Yu k [.bool]=some b/\(b=true ↔ k=.bool):=by
 cases k<;>first|exact⟨_,rfl,by simp⟩|exact absurd rfl (h _)
theorem X4c(h:kdD S d=some k):wh d=true ↔ k=.int:=by
 cases d with
 | ref n =>
  simp only[kdD] at h;split at h<;>first|(cases h;simp[wh])|cases h
 | fn _ _=>cases h
 | _=>cases h;simp[wh]
noncomputable def Xq5:Sts:=.cons (.ret (.and (.isi (.var 0) [.int]) (.not (.isi (.var 0) [.bool])))) .nil
noncomputable def Xgj:Df:=⟨1,1,Xq5⟩
theorem Xq6(h:good S d):den F G Xgj [d] S=.ok (.bl (wh d)) S:=by
 obtain⟨kd,h1,h2⟩:=h;obtain⟨b1,i1,j1⟩:=Xx1 h2;obtain⟨b2,i2,j2⟩:=Xtt h2;have hw:=X4c h1;simp only[den,Xgj,Xq5,List.length,exes,exe,ev,List.map,List.replicate,if_true,Nat.sub_self,List.append_nil,gZ0,Rk0,h1,Option.bind_some,i1,i2,Xl];cases b1 with
 | false =>
  have e:wh d=false:=by
   cases q:wh d with
   | false=>rfl
   | true=>exact absurd (j1.mpr (.inl (hw.mp q))) Bool.false_ne_true
  rw[e];rfl
 | true =>
  cases b2 with
  | false =>
   have e:wh d=true:=hw.mpr (by rcases j1.mp rfl with z|z;exact z;exact absurd (j2.mpr z) Bool.false_ne_true)
   rw[e];rfl
  | true =>
   have e:wh d=false:=by
    cases q:wh d with
    | false=>rfl
    | true=>have z1:=hw.mp q;have z2:=j2.mp rfl;rw[z1] at z2;cases z2
   rw[e];rfl
noncomputable def wi(d:D)(lo hi:Int):Bool:=match d with
 | .int i=>decide (lo<=i)&&decide (i<=hi)
 | _=>false
noncomputable def Xm7(f:Nat):Sts:=.cons (.ret (.and (.call f (.cons (.var 0) .nil)) (.chn .le .le (.var 1) (.var 0) (.var 2)))) .nil
noncomputable def Xh4(f:Nat):Df:=⟨3,3,Xm7 f⟩
theorem Xoi(h:F f [d] S=.ok (.bl (wh d)) S):den F G (Xh4 f) [d,.int lo,.int hi] S=.ok (.bl (wi d lo hi)) S:=by
 simp only[den,Xh4,Xm7,List.length,exes,exe,ev,evs,List.map,List.replicate,if_true,Nat.sub_self,List.append_nil,gZ0,gS0,Rk0,h,Xl];cases d with
 | int i =>
  simp only[wh,wi,Yg,Xo];cases decide (lo<=i)<;>rfl
 | _=>rfl
theorem Xq7(h1:lo<=i)(h2:i<=hi):wi (.int i) lo hi=true:=by
 simp only[wi,decide_eq_true h1,decide_eq_true h2,Bool.and_self]
theorem Xa1(S:Sto)(i:Int):good S (.int i):=⟨.int,rfl,fun c z=>nomatch z⟩
theorem Xd3(h:good S d):good (S++X) d:=by
 obtain⟨k,h1,h2⟩:=h;cases d with
 | ref n =>
  refine⟨k,?_,h2⟩;simp only[kdD] at h1 ⊢;cases e:S[n]? with
  | none=>rw[e] at h1;cases h1
  | some o=>rw[List.getElem?_append_left (List.getElem?_eq_some_iff.mp e).1,e];rw[e] at h1;exact h1
 | _=>exact⟨k,h1,h2⟩
theorem Xbg(S:Sto)(d:D)(h:∀ n,d≠.ref n)(hf:∀ f m,d≠.fn f m:=by intro _ _ z;cases z):good S d:=by
 cases d with
 | fn f m=>exact absurd rfl (hf f m)
 | ref n=>exact absurd rfl (h n)
 | non=>exact⟨.non,rfl,fun _ z=>nomatch z⟩
 | bl _=>exact⟨.bool,rfl,fun _ z=>nomatch z⟩
 | int _=>exact⟨.int,rfl,fun _ z=>nomatch z⟩
 | str _=>exact⟨.str,rfl,fun _ z=>nomatch z⟩
 | tup _=>exact⟨.tuple,rfl,fun _ z=>nomatch z⟩
 | fro _=>exact⟨.list,rfl,fun _ z=>nomatch z⟩
theorem Xa4(h:ev F G c env S=.ok (.bl false) S'):exe F G (.ite c a .nil) env S=.ok (.nx env) S':=by
 rw[exe,h,Rk0];simp only[Xl,exes]
end
noncomputable def Xej(c1 c2 c3 c4:Nat):Ex:=.lst (.cons (.isi (.var 0) [.cls c1]) (.cons (.isi (.var 0) [.cls c2]) (.cons (.isi (.var 0) [.cls c3]) (.cons (.isi (.var 0) [.cls c4]) .nil))))
noncomputable def words1:List D:=[.str "net",.str "face",.str "point",.str "apart",.str "many",.str "text",.str "row",.str "number",.str "level",.str "crowd",.str "way",.str "closed"]
noncomputable def words2:List D:=[.str "swap",.str "places",.str "deed",.str "line"]
noncomputable def Xdj:List D->Exs
 | []=>.nil
 | d::r=>.cons (.cst d) (Xdj r)
noncomputable def Xoj:Sts:=.cons (.asg (.var 1) (Xej 1 2 3 4)) (.cons (.asg (.var 1) (.bin .add (.var 1) (Xej 5 6 7 8))) (.cons (.asg (.var 1) (.bin .add (.var 1) (Xej 9 10 11 12))) (.cons (.asg (.var 1) (.bin .add (.var 1) (Xej 13 14 15 16)))
  (.cons (.ite (.or (.cmp .ne (.mth .count (.var 1) (.cons (.cst (.bl true)) .nil)) (.cst (.int 1))) (.not (.isi (.var 0) [.valueError]))) (.cons (.ret (.cst (.str "other"))) .nil) .nil)
  (.cons (.asg (.var 2) (.lst (Xdj words1))) (.cons (.ret (.idx (.bin .add (.var 2) (.lst (Xdj words2))) (.mth .index (.var 1) (.cons (.cst (.bl true)) .nil)))) .nil))))))
noncomputable def Xjo:Df:=⟨1,3,Xoj⟩
noncomputable def Xdk(c:Nat):D:=(words1++words2).getD (c-1) .non
section
variable{F:Fn}{G:List D}{n c:Nat}{env:En}{S:Sto}
noncomputable def isK(c x:Nat):D:=.bl (x==0||x==c)
theorem Xm8(h0:env[0]?=some (some (.ref n)))(hn:S[n]?=some (.exc c))(x1 x2 x3 x4:Nat):ev F G (Xej x1 x2 x3 x4) env S=.ok (.ref S.length) (S++[.lst [isK c x1,isK c x2,isK c x3,isK c x4]]):=by
 have q:∀ x,ev F G (.isi (.var 0) [.cls x]) env S=.ok (isK c x) S:=fun x=>by
  simp only[ev,h0,Rk0,kdD,hn,Option.bind_some,Yu,isT,isK];cases (x==0||x==c)<;>rfl
 unfold Xej;rw[ev];simp only[evs,q,Rk0];exact if_pos (show 4<=big by decide)
theorem Xfv{r:Nat}{xs:List D}(h0:env[0]?=some (some (.ref n)))(hn:S[n]?=some (.exc c))(he:1<env.length)(hr:env[1]?=some (some (.ref r)))(hx:Xb S r=some xs)(hl:xs.length<=12)(x1 x2 x3 x4:Nat) :
  ∃ q Y,exe F G (.asg (.var 1) (.bin .add (.var 1) (Xej x1 x2 x3 x4))) env S=.ok (.nx (env.set 1 (some (.ref q)))) (S++Y)/\Xb (S++Y) q=some (xs++[isK c x1,isK c x2,isK c x3,isK c x4])/\(S++Y)[n]?=some (.exc c):=by
 refine⟨(S++[O.lst [isK c x1,isK c x2,isK c x3,isK c x4]]).length,[.lst [isK c x1,isK c x2,isK c x3,isK c x4]]++[.lst (xs++[isK c x1,isK c x2,isK c x3,isK c x4])],?_,?_,?_⟩
 ·have h16:(16:Nat)<=big:=by decide
  have h4:xs.length+4<=big:=by omega
  have l1:lstM (S++[O.lst [isK c x1,isK c x2,isK c x3,isK c x4]]) r=some xs:=Xg hx;have l2:lstM (S++[O.lst [isK c x1,isK c x2,isK c x3,isK c x4]]) S.length=some [isK c x1,isK c x2,isK c x3,isK c x4]:=Xi;rw[exe,ev,ev,hr];simp only[Rk0,Xm8 h0 hn,Xm,l1,l2,List.length_cons,List.length_nil,h4,if_true,Xp,List.append_assoc]
 ·rw[<- List.append_assoc];exact Xi
 ·rw[List.getElem?_append_left (List.getElem?_eq_some_iff.mp hn).1];exact hn
theorem Xx2(hn:S[n]?=some (.exc c))(h1:1<=c)(h2:c<=16):∃ X,den F G Xjo [.ref n] S=.ok (Xdk c) (S++X):=by
 have s1:exe F G (.asg (.var 1) (Xej 1 2 3 4)) [some (.ref n),none,none] S=.ok (.nx [some (.ref n),some (.ref S.length),none]) (S++[.lst [isK c 1,isK c 2,isK c 3,isK c 4]]):=by
  rw[exe,Xm8 rfl hn];rfl
 obtain⟨q2,Y2,s2,l2,n2⟩:=Xfv (F:=F) (G:=G) (env:=[some (.ref n),some (.ref S.length),none]) (S:=S++[.lst [isK c 1,isK c 2,isK c 3,isK c 4]]) (c:=c) (n:=n) rfl (by rw[List.getElem?_append_left (List.getElem?_eq_some_iff.mp hn).1];exact hn) (by simp) rfl Xi (by simp) 5 6 7 8
 generalize hS2:S++[O.lst [isK c 1,isK c 2,isK c 3,isK c 4]]++Y2=S2 at s2 l2 n2;obtain⟨q3,Y3,s3,l3,n3⟩:=Xfv (F:=F) (G:=G) (env:=[some (.ref n),some (.ref q2),none]) rfl n2 (by simp) rfl l2 (by simp) 9 10 11 12
 generalize hS3:S2++Y3=S3 at s3 l3 n3;obtain⟨q4,Y4,s4,l4,n4⟩:=Xfv (F:=F) (G:=G) (env:=[some (.ref n),some (.ref q3),none]) rfl n3 (by simp) rfl l3 (by simp) 13 14 15 16
 generalize hS4:S3++Y4=S4 at s4 l4 n4;simp only[List.cons_append,List.nil_append] at l4;have ab:Xz [isK c 1,isK c 2,isK c 3,isK c 4,isK c 5,isK c 6,isK c 7,isK c 8,isK c 9,isK c 10,isK c 11,isK c 12,isK c 13,isK c 14,isK c 15,isK c 16]=some ([1,2,3,4,5,6,7,8,9,10,11,12,13,14,15,16].map fun x=>(x==0||x==c)):=rfl
 have key:∀ c:Fin 17,1<=c.val->([1,2,3,4,5,6,7,8,9,10,11,12,13,14,15,16].map fun x=>(x==0||x==c.val)).countP (· == true)=1/\([1,2,3,4,5,6,7,8,9,10,11,12,13,14,15,16].map fun x=>(x==0||x==c.val)).findIdx? (· == true)=some (c.val-1):=by decide+kernel
 obtain⟨k1,k2⟩:=key ⟨c,by omega⟩ h1
 generalize [isK c 1,isK c 2,isK c 3,isK c 4,isK c 5,isK c 6,isK c 7,isK c 8,isK c 9,isK c 10,isK c 11,isK c 12,isK c 13,isK c 14,isK c 15,isK c 16]=L at l4 ab;generalize ([1,2,3,4,5,6,7,8,9,10,11,12,13,14,15,16].map fun x=>(x==0||x==c))=B at ab k1 k2
 have c1:∀ Y,Yj .count (.ref q4) [.bl true] (S4++Y)=.ok (.int 1) (S4++Y):=fun Y=>by
  simp only[Yj,Xg l4,Option.bind_some,ab,k1];rfl
 have c2:∀ Y,Yj .index (.ref q4) [.bl true] (S4++Y)=.ok (.int (c-1:Nat)) (S4++Y):=fun Y=>by
  simp only[Yj,Xg l4,Option.bind_some,ab,k2]
 have rc:∀ k Y,Xag k (.ref q4) (S4++Y)=true:=fun k Y=>by simp only[Xag,Xg l4,Option.isSome]
 have s5:exe F G (.ite (.or (.cmp .ne (.mth .count (.var 1) (.cons (.cst (.bl true)) .nil)) (.cst (.int 1))) (.not (.isi (.var 0) [.valueError]))) (.cons (.ret (.cst (.str "other"))) .nil) .nil) [some (.ref n),some (.ref q4),none] S4=.ok (.nx [some (.ref n),some (.ref q4),none]) S4:=by
  have c1':=c1 [];have rc':=rc .count [];rw[List.append_nil] at c1' rc';have e1:Xo .ne (.int 1) (.int 1) S4=.ok (.bl false) S4:=rfl;refine Xa4 ?_;simp only[ev,evs,gZ0,gS0,Rk0,rc',if_true,c1',e1,Xl,kdD,n4,Option.bind_some,Yu,isT,Bool.not_true]
 have s6:exe F G (.asg (.var 2) (.lst (Xdj words1))) [some (.ref n),some (.ref q4),none] S4=.ok (.nx [some (.ref n),some (.ref q4),some (.ref S4.length)]) (S4++[.lst words1]):=by kernel_rfl
 have e7:∀ env S,evs F G (Xdj words2) env S=.ok words2 S:=fun env S=>by kernel_rfl
 have a5:words2.length<=big:=by decide
 have s7:exe F G (.ret (.idx (.bin .add (.var 2) (.lst (Xdj words2))) (.mth .index (.var 1) (.cons (.cst (.bl true)) .nil)))) [some (.ref n),some (.ref q4),some (.ref S4.length)] (S4++[O.lst words1])=.ok (.rt (Xdk c)) (S4++([O.lst words1]++[O.lst words2]++[O.lst (words1++words2)])):=by
  have a1:lstM (S4++[O.lst words1]++[O.lst words2]) S4.length=some words1:=Xg Xi;have a2:lstM (S4++[O.lst words1]++[O.lst words2]) (S4++[O.lst words1]).length=some words2:=Xi;have a3:words1.length+words2.length<=big:=by decide
  have a4:=Xg (X:=[]) (Xi (S:=S4++[O.lst words1]++[O.lst words2]) (xs:=words1++words2));have c2':=c2 ([O.lst words1]++[O.lst words2]++[O.lst (words1++words2)]);have rc':=rc .index ([O.lst words1]++[O.lst words2]++[O.lst (words1++words2)]);simp only[<- List.append_assoc] at c2' rc' ⊢;have ix:Yt (.ref (S4++[O.lst words1]++[O.lst words2]).length) (.int (c-1:Nat)) (S4++[O.lst words1]++[O.lst words2]++[O.lst (words1++words2)])=.ok (Xdk c) (S4++[O.lst words1]++[O.lst words2]++[O.lst (words1++words2)]):=by
   rw[List.append_nil] at a4;have hl:(words1++words2).length=16:=rfl;have hi:ixN 16 ((c-1:Nat):Int)=some (c-1):=by unfold ixN;rw[if_pos (by omega),if_pos (by omega),Int.toNat_natCast]
   have hg:(words1++words2)[c-1]?=some (Xdk c):=by
    have:c-1<(words1++words2).length:=by rw[hl];omega
    unfold Xdk;rw[List.getElem?_eq_getElem this,List.getD_eq_getElem?_getD,List.getElem?_eq_getElem this];rfl
   simp only[Yt,Ym,Xn,a4,Option.bind_some,hl,hi,hg]
  rw[exe];simp only[ev,evs,gZ0,gS0,Rk0,e7,a5,Xm,a1,a2,a3,if_true,rc',c2',ix]
 refine⟨[O.lst [isK c 1,isK c 2,isK c 3,isK c 4]]++(Y2++(Y3++(Y4++([O.lst words1]++([O.lst words2]++[O.lst (words1++words2)]))))),?_⟩;have e:den F G Xjo [.ref n] S=match exes F G Xoj [some (.ref n),none,none] S with
  | .ok (.rt v) S=>.ok v S
  | .ok (.nx _) S=>.ok .non S
  | .ok _ _=>.bad
  | .ex n S=>.ex n S
  | .bad=>.bad:=rfl
 rw[e];unfold Xoj;rw[Xd s1,Xd s2];dsimp only[List.set];rw[Xd s3];dsimp only[List.set];rw[Xd s4];dsimp only[List.set];rw[Xd s5,Xd s6,X7 s7,<- hS4,<- hS3,<- hS2];simp only[List.append_assoc]
theorem Xx3{T:List Df}{k f:Nat}(hf:T[f]?=some Xjo)(h1:1<=c)(h2:c<=16)(P:Sto):∃ X,FT T G (k+1) f [.ref P.length] (P++[.exc c])=.ok (Xdk c) (P++X):=by
 obtain⟨X,h⟩:=Xx2 (F:=FT T G k) (G:=G) (n:=P.length) (S:=P++[.exc c]) (by simp) h1 h2
 simp only[FT,hf];exact⟨_,by rw[h,List.append_assoc]⟩
end
def Xok(F:Fn)(f:Nat):Prop:=∀ (p:Nat) (v far:Int) (S:Sto),Xb S p=some [.int v]->0<far->Xae far=true->F f [.ref p,.int far] S=.ok (.int (v%far)) (S.set p (.lst [.int (v/far)]))
theorem Xtu(hf:T[f]?=some Xjn)(k:Nat):Xok (FT T G (k+1)) f:=fun p v far S h h0 hd=>by
 simp only[FT,hf];exact Xtq h h0 hd
theorem Xtv(hF:Xok F f)(he:evs F G es env S=.ok ds S')(hc:(ds.length:Int)=c)(h0:0<c)(hz:ds.length<=big)(hd:Xae c=true)(h5:env[q]?=some (some (.ref p)))(hp:Xb S' p=some [.int v]) :
  ∃ d∈ds,ev F G (.idx (.lst es) (.call f (.cons (.var q) (.cons (.cst (.int c)) .nil)))) env S=.ok d ((S'++[O.lst ds]).set p (.lst [.int (v/c)])):=by
 have tk:=hF p v c (S'++[.lst ds]) (Xg hp) h0 hd;have r0:=Int.emod_nonneg v (Int.ne_of_gt h0);have r1:=Int.emod_lt_of_pos v h0;have hlt:(v%c).toNat<ds.length:=by omega
 have hpl:=Xei hp;have hl:Xb ((S'++[O.lst ds]).set p (.lst [.int (v/c)])) S'.length=some ds:=by
  rw[Xq3 (by omega)]
  exact Xi
 refine⟨ds[(v%c).toNat],List.getElem_mem hlt,?_⟩;have hi:Yt (.ref S'.length) (.int (v%c)) ((S'++[O.lst ds]).set p (.lst [.int (v/c)]))=.ok ds[(v%c).toNat] ((S'++[O.lst ds]).set p (.lst [.int (v/c)])):=by
  simp only[Yt,Ym,Xn,hl,Option.bind_some,Z.ixN];rw[if_pos r0,if_pos (by omega)]
  simp only[Option.bind_some,List.getElem?_eq_getElem hlt]
 simp only[ev,he,evs,h5,Rk0,hz,if_true,tk,hi]
theorem Xi0(hp:Xb S' p=some [.int v]):Xb ((S'++[O.lst ds]).set p (.lst [.int (v/c)])) p=some [.int (v/c)]:=by
 refine Xh2 ?_;have:=Xei hp;simp;omega
theorem turns{G:List D}{ns:List Int}(c:Int)(h1:1<=c)(h2:c<1000000)(h0:env[0]?=some (some (.fro (ns.map D.int)))) :
  ∃ m:Int,evs F G (.cons (.blt .max (.cons (.cst (.int 1)) (.cons (.blt .min (.cons (.blt .len (.cons (.var 0) .nil)) (.cons (.cst (.int c)) .nil))) .nil))) .nil) env S=.ok [.int m] S/\0<=m/\m<=c:=by
 have hlen:Xh .len [.fro (ns.map D.int)] S=.ok (.int ns.length) S:=by simp only[Xh,Xn,List.length_map]
 have hmin:∀ i j:Int,Xh .min [.int i,.int j] S=.ok (.int (if j<i then j else i)) S:=fun _ _=>rfl
 have hmax:∀ i j:Int,Xh .max [.int i,.int j] S=.ok (.int (if j>i then j else i)) S:=fun _ _=>rfl
 refine⟨if (if c<(ns.length:Int) then c else (ns.length:Int))>1 then (if c<(ns.length:Int) then c else (ns.length:Int)) else 1,by simp only[evs,ev,h0,Rk0,hlen,hmin,hmax],?_,?_⟩
 ·split
  ·split<;>omega
  ·omega
 ·split
  ·split<;>omega
  ·omega
end Z
end
section
namespace Z
noncomputable def tG(s:Int):List Int->Nat->Int
 | [],_=>0
 | x::r,0=>x
 | x::r,p+1=>x*(s^(p+1)*(C r.length (p+1):Int))+tG s r p
noncomputable def tT(s:Int)(row:List Int):List Int:=(List.range row.length).map (tG s row)
noncomputable def Xvf(s:Int)(f:List Int):List Int:=List.zipWith (fun a b=>a+s*b) (f++[0]) (0::f)
noncomputable def stepT(s:Int)(f:List Int)(n:Int):List Int:=(Xvf s f).set f.length ((Xvf s f).getD f.length 0+n)
theorem Xx4{u v:List Int}(hl:u.length=v.length)(h:∀ p,u.getD p 0=v.getD p 0):u=v:=by
 refine List.ext_getElem hl fun i h1 h2=>?_
 have:=h i
 simpa [List.getD_eq_getElem?_getD,h1,h2] using this
end Z
end
section
namespace Z
open PySem
section
variable{F:Fn}{G:List D}
theorem Xi1{get:Sto->Nat->Option (Option D)}{body:En->List D->Sto->R (List D)}(xs:List D)(y:Nat->D)(P:Nat->En->Sto->Prop)(hget:∀ i e S,P i e S->get S i=some xs[i]?)
  (step:∀ i d e S,xs[i]?=some d->P i e S->∃ e1 S2,Xp t d e=some e1/\body e1 ((List.range i).map y) S=.ok ((List.range (i+1)).map y) S2/\P (i+1) e1 S2) :
  ∀ (fuel i:Nat) (e:En) (S:Sto),P i e S->i<=xs.length->xs.length<fuel+i->∃ e' S',Yn get t body fuel i e ((List.range i).map y) S=.ok ((List.range xs.length).map y) S'/\P xs.length e' S'
 | 0,i,e,S,h,h1,h2=>by omega
 | fuel+1,i,e,S,h,h1,h2=>by
  cases q:xs[i]? with
  | none =>
   have hi:i=xs.length:=by
    have:=List.getElem?_eq_none_iff.mp q;omega
   refine⟨e,S,?_,hi▸h⟩;simp only[Yn,hget i e S h,q];rw[hi]
  | some d =>
   obtain⟨e1,S2,a1,a2,a3⟩:=step i d e S q h;have hi:i<xs.length:=(List.getElem?_eq_some_iff.mp q).1;obtain⟨e',S',b1,b2⟩:=Xi1 xs y P hget step fuel (i+1) e1 S2 a3 (by omega) (by omega)
   refine⟨e',S',?_,b2⟩;simp only[Yn,hget i e S h,q,a1,a2];exact b1
theorem Xan(h:n<=1000):n<=big:=Nat.le_trans h (by decide)
theorem Xbu{n:Nat}(xs:List D)(y:Nat->D)(P:Nat->En->Sto->Prop)(hit:evit F G it env S=.ok src S1)(hm:src.most S1=xs.length)(hb:xs.length<=big)
  (h0:P 0 (env++List.replicate n none) S1) (hget:∀ i e S,P i e S->src.get S i=some xs[i]?)
  (step:∀ i d e S,xs[i]?=some d->P i e S->∃ e1 S2,Xp t d e=some e1/\ev F G elt e1 S=.ok (y i) S2/\P (i+1) e1 S2) :
  ∃ e' S',ev F G (.cmr false n (.cons t it .nil .nil) elt) env S=.ok (.ref S'.length) (S'++[.lst ((List.range xs.length).map y)])/\P xs.length e' S':=by
 obtain⟨e',S',a,b⟩:=Xi1 (get:=src.get) (t:=t) (body:=Yy (fun env S=>evts F G .nil env S) (fun env acc S=>(ev F G elt env S).bind fun y S=>if acc.length<big then .ok (acc++[y]) S else .bad)) xs y P hget
  (fun i d e S hd hP=>by
   obtain⟨e1,S2,a1,a2,a3⟩:=step i d e S hd hP;refine⟨e1,S2,a1,?_,a3⟩;have hi:i<xs.length:=(List.getElem?_eq_some_iff.mp hd).1;simp only[Yy,evts,Rk0,if_true,a2,List.length_map,List.length_range];rw[if_pos (by omega),List.range_succ,List.map_append]
   rfl) (xs.length+1) 0 _ S1 h0 (Nat.zero_le _) (by omega)
 refine⟨e',S',?_,b⟩;simp only[ev,hit,Rk0,hm];have a':Yn src.get t (Yy (fun env S=>evts F G .nil env S) (fun env acc S=>(ev F G elt env S).bind fun y S=>if acc.length<big then .ok (acc++[y]) S else .bad)) (xs.length+1) 0 (env++List.replicate n none) [] S1=.ok ((List.range xs.length).map y) S':=a
 rw[a'];simp only[Rk0];rfl
theorem Xek(h1:evs F G es env S=.ok ds S1)(h2:Yh ds=some xs):evit F G (.rng es) env S=.ok (.con xs) S1:=by simp only[evit,h1,Rk0,h2]
theorem Xq8(h1:ev F G e env S=.ok (.tup xs) S1):evit F G (.val e) env S=.ok (.con xs) S1:=by simp only[evit,h1,Rk0,Yk]
noncomputable def Xdl:Sts:=.cons (.asg (.var 2) (.bin .fdiv (.bin .mul (.var 2) (.bin .sub (.var 0) (.var 3))) (.bin .add (.var 3) (.cst (.int 1))))) .nil
noncomputable def Xjp:Df:=⟨2,4,.cons (.asg (.var 2) (.cst (.int 1))) (.cons (.for (.var 3) (.rng (.cons (.var 1) .nil)) Xdl) (.cons (.ret (.var 2)) .nil))⟩
theorem X4d{i:Nat}(h:i<13):Xae ((i:Int)+1)=true:=by
 have:∀ j:Fin 13,Xae ((j.val:Int)+1)=true:=by decide+kernel
 exact this ⟨i,h⟩
theorem Xtw(n m t i:Int)(S:Sto)(hmul:Yl t (n-i)=true)(hdiv:Xae (i+1)=true):exes F G Xdl [some (.int n),some (.int m),some (.int t),some (.int i)] S=.ok (.nx [some (.int n),some (.int m),some (.int (t*(n-i)/(i+1))),some (.int i)]) S:=by
 unfold Xdl;refine Xd (e:=[some (.int n),some (.int m),some (.int (t*(n-i)/(i+1))),some (.int i)]) (S1:=S) ?_;simp only[exe,ev,gZ0,gS0,Rk0,Xau,Xav hmul,Yd,Xb0 hdiv,Xp,List.set]
theorem Xq9(n m i:Nat)(S:Sto)(hn:n<=1000000000000)(hi:i<12):exes F G Xdl [some (.int n),some (.int m),some (.int (C n i)),some (.int i)] S=.ok (.nx [some (.int n),some (.int m),some (.int (C n (i+1))),some (.int i)]) S:=by
 have:=Xtw (F:=F) (G:=G) n m (C n i) i S (Xb1 (by omega) (by omega)) (X4d (by omega))
 rw[X4a] at this;exact this
theorem Xtx(n m t:Int)(S:Sto)(e':En)(S':Sto)(h1:exe F G (.for (.var 3) (.rng (.cons (.var 1) .nil)) Xdl) [some (.int n),some (.int m),some (.int 1),none] S=.ok (.nx e') S')(h2:e'[2]?=some (some (.int t))) :
  den F G Xjp [.int n,.int m] S=.ok (.int t) S':=by
 simp only[den,Xjp,List.length,if_true,List.map,List.replicate];rw[Xd (e:=[some (.int n),some (.int m),some (.int 1),none]) (S1:=S) (by simp only[exe,ev,Rk0,Xp];rfl)]
 rw[Xd (ss:=.cons (.ret (.var 2)) .nil) h1];rw[X7 (d:=.int t) (S1:=S') (by simp only[exe,ev,h2,Rk0])]
theorem Xty(n m:Nat)(S:Sto)(hn:n<=1000000000000)(hm:m<=12):den F G Xjp [.int n,.int m] S=.ok (.int (C n m)) S:=by
 obtain⟨xs,hx,hl⟩:=Yx (m:=(m:Int)) (by omega) (Xh1 (by omega))
 have hl':xs.length=m:=by omega
 obtain⟨e',S',h1,rfl,x,rfl⟩:=Xcj (F:=F) (G:=G) (t:=.var 3) (es:=.cons (.var 1) .nil) (b:=Xdl)
  (env:=[some (.int n),some (.int m),some (.int 1),none]) (S:=S) (S1:=S) (ds:=[.int m]) (xs:=xs) (fun i e S'=>S'=S/\∃ x,e=[some (.int n),some (.int m),some (.int (C n i)),x])
  (by simp only[evs,ev,gZ0,gS0,Rk0]) hx ⟨rfl,none,by rw[Xcr];rfl⟩ (fun i d e S' hd hP=>by
   obtain⟨rfl,x,rfl⟩:=hP;obtain⟨rfl,hi⟩:=Xaf hx hd;exact⟨_,_,S',rfl,Xq9 n m i S' hn (by omega),rfl,some (.int i),rfl⟩)
 rw[hl'] at h1;exact Xtx _ _ _ _ _ _ h1 rfl
noncomputable def Xgk(iw:Nat):Df:=⟨2,3,.cons (.asg (.var 2) (.bin .sub (.blt .len (.cons (.var 0) .nil)) (.cst (.int 1))))
  (.cons (.ret (.cmr false 2 (.cons (.var 4) (.rng (.cons (.bin .add (.var 1) (.cst (.int 1))) .nil)) .nil .nil) (.bin .mul (.idx (.var 0) (.var 4)) (.call iw (.cons (.bin .sub (.var 2) (.var 4)) (.cons (.bin .sub (.var 1) (.var 4)) .nil)))))) .nil)⟩
noncomputable def Y1(row:List Int)(p a:Nat):Int:=row.getD a 0*(C (row.length-1-a) (p-a):Int)
noncomputable def Xcs(row:List Int)(p:Nat):List D:=(List.range (p+1)).map fun a=>.int (Y1 row p a)
theorem Xol:∀ n m:Nat,C n m<=2^n
 | n,0=>by rw[Xcr];exact Nat.one_le_two_pow
 | 0,m+1=>by rw[Xd2 0 (m+1) (by omega)];exact Nat.zero_le _
 | n+1,m+1=>by
  have h1:=Xol n m;have h2:=Xol n (m+1);rw[C,Nat.pow_succ];omega
theorem Xm9(h:n<=12):C n m<=4096:=Nat.le_trans (Xol n m) (Nat.pow_le_pow_right (by decide) h)
theorem Xra(x c:Int)(h0:0<=c)(h:c<=4096):Yl x c=true:=Xb1 (by omega) (by omega)
theorem Xtz(h1:Yt row (.int i) S=.ok (.int r0) S)(h2:F iw [.int (w-i),.int (p-i)] S=.ok (.int c) S)(h3:Yl r0 c=true) :
  ev F G (.bin .mul (.idx (.var 0) (.var 4)) (.call iw (.cons (.bin .sub (.var 2) (.var 4)) (.cons (.bin .sub (.var 1) (.var 4)) .nil)))) [some row,some (.int p),some (.int w),none,some (.int i)] S=.ok (.int (r0*c)) S:=by
 simp only[ev,evs,gZ0,gS0,Rk0,h1,Xau,h2,Xav h3]
theorem Xna(row:List Int)(a:Nat)(S:Sto)(h:a<row.length):Yt (.tup (row.map D.int)) (.int a) S=.ok (.int (row.getD a 0)) S:=by
 simp only[Yt,Ym,Xn,Option.bind_some,Z.ixN,List.length_map];rw[if_pos (by omega),if_pos (by omega)]
 simp[h]
theorem Xh5(xs:List D)(S:Sto):Xh .len [.tup xs] S=.ok (.int xs.length) S:=rfl
noncomputable def Xh6(iw:Nat):Ex:=.bin .mul (.idx (.var 0) (.var 4)) (.call iw (.cons (.bin .sub (.var 2) (.var 4)) (.cons (.bin .sub (.var 1) (.var 4)) .nil)))
noncomputable def Xom(row:D)(p w:Int)(x:Option D):En:=[some row,some (.int p),some (.int w),none,x]
theorem Xrb(hw:∀ (n m:Nat) (S:Sto),n<=12->m<=12->F iw [.int n,.int m] S=.ok (.int (C n m)) S)(row:List Int)(p i:Nat)(S:Sto)(h:p<row.length)(hl:row.length<=12)(hi:i<=p) :
  ev F G (Xh6 iw) (Xom (.tup (row.map D.int)) p ((row.length:Int)-1) (some (.int i))) S=.ok (.int (Y1 row p i)) S:=by
 have e1:((row.length:Int)-1)-i=((row.length-1-i:Nat):Int):=by omega
 have e2:(p:Int)-i=((p-i:Nat):Int):=by omega
 have hF:F iw [.int (((row.length:Int)-1)-i),.int ((p:Int)-i)] S=.ok (.int (C (row.length-1-i) (p-i))) S:=by
  rw[e1,e2];exact hw _ _ S (by omega) (by omega)
 have hc:C (row.length-1-i) (p-i)<=4096:=Xm9 (by omega)
 unfold Y1;generalize C (row.length-1-i) (p-i)=c at hF hc ⊢;exact Xtz (Xna row i S (by omega)) hF (Xra _ _ (by omega) (by omega))
theorem Xon(row:D)(y:Nat->D)(p w:Int)(S:Sto)(h0:0<=p)(h1:p<12)(ht:∀ i:Nat,(i:Int)<=p->ev F G (Xh6 iw) (Xom row p w (some (.int i))) S=.ok (y i) S) :
  ev F G (.cmr false 2 (.cons (.var 4) (.rng (.cons (.bin .add (.var 1) (.cst (.int 1))) .nil)) .nil .nil) (Xh6 iw)) [some row,some (.int p),some (.int w)] S=.ok (.ref S.length) (S++[.lst ((List.range (p+1).toNat).map y)]):=by
 obtain⟨xs,hx,hxl⟩:=Yx (m:=p+1) (by omega) (Xh1 (by omega))
 obtain⟨e',S',h2,h3,h4⟩:=Xbu (F:=F) (G:=G) (t:=.var 4) (n:=2) (elt:=Xh6 iw) (env:=[some row,some (.int p),some (.int w)]) (S:=S) (S1:=S) xs y
  (fun i e S'=>S'=S/\∃ x,e=Xom row p w x)
  (Xek (es:=.cons (.bin .add (.var 1) (.cst (.int 1))) .nil) (by simp only[evs,ev,gZ0,gS0,Rk0,Yd]) hx) rfl (Xan (by omega)) ⟨rfl,none,rfl⟩ (fun _ _ _ _=>rfl)
  (fun i d e S' hd hP=>by
   obtain⟨rfl,x,rfl⟩:=hP;obtain⟨rfl,hi⟩:=Xaf hx hd;exact⟨Xom row p w (some (.int i)),S',rfl,ht i (by omega),rfl,some (.int i),rfl⟩)
 have h3':S'=S:=h3;subst h3';rw[h2,hxl]
theorem Xrc(hl:Xh .len [row] S=.ok (.int n) S)(h:ev F G (.cmr false 2 (.cons (.var 4) (.rng (.cons (.bin .add (.var 1) (.cst (.int 1))) .nil)) .nil .nil) (Xh6 iw)) [some row,some (.int p),some (.int (n-1))] S=.ok r S') :
  den F G (Xgk iw) [row,.int p] S=.ok r S':=by
 have h':=h;unfold Xh6 at h';simp only[den,Xgk,List.length,if_true,List.map,List.replicate];rw[Xd (e:=[some row,some (.int p),some (.int (n-1))]) (S1:=S) (by
  simp only[exe,ev,evs,List.cons_append,List.nil_append,gZ0,Rk0,hl,Xau,Xp,List.set])]
 rw[X7 (d:=r) (S1:=S') (by simp only[exe];rw[h',Rk0])]
theorem Xrd(hw:∀ (n m:Nat) (S:Sto),n<=12->m<=12->F iw [.int n,.int m] S=.ok (.int (C n m)) S)(row:List Int)(p:Nat)(S:Sto)(h:p<row.length)(hl:row.length<=12) :
  den F G (Xgk iw) [.tup (row.map D.int),.int p] S=.ok (.ref S.length) (S++[.lst (Xcs row p)]):=by
 have h1:=Xon (F:=F) (G:=G) (iw:=iw) (.tup (row.map D.int)) (fun a=>.int (Y1 row p a)) p ((row.length:Int)-1) S (by omega) (by omega) (fun i hi=>Xrb hw row p i S h hl (by omega))
 have e:((p:Int)+1).toNat=p+1:=by omega
 rw[e] at h1;have hn:Xh .len [.tup (row.map D.int)] S=.ok (.int row.length) S:=by rw[Xh5,List.length_map]
 exact Xrc hn h1
theorem Xk1(row:List Int):∀ p,((List.range (p+1)).map (Y1 row p)).sum=tG 1 row p:=by
 induction row with
 | nil =>
  intro p;have:∀ a,Y1 [] p a=0:=fun a=>by simp[Y1]
  have e:(List.range (p+1)).map (Y1 [] p)=List.replicate (p+1) 0:=by
   rw[List.eq_replicate_iff];exact⟨by simp,fun b hb=>by obtain⟨a,_,rfl⟩:=List.mem_map.mp hb;exact this a⟩
  rw[e];simp[tG]
 | cons x r ih =>
  intro p;rw[List.range_succ_eq_map,List.map_cons,List.map_map,List.sum_cons];have e0:Y1 (x::r) p 0=x*(C r.length p:Int):=by simp[Y1]
  cases p with
  | zero=>simp[tG,e0,Xcr]
  | succ p =>
   have e1:(Y1 (x::r) (p+1)∘Nat.succ)=Y1 r p:=by
    funext a
    simp only[Function.comp,Y1,List.length_cons,List.getD_cons_succ];have:r.length+1-1-(a+1)=r.length-1-a:=by omega
    rw[this,Nat.succ_sub_succ]
   rw[e1,ih p,e0,tG,Int.one_pow,Int.one_mul]
theorem Xfb:∀ l:List Int,Xu (l.map D.int)=some l
 | []=>rfl
 | x::l=>by simp only[List.map,Xu,Xfb l,Option.map_some]
theorem Xh7{q:Nat}{l:List Int}(h:Xb S q=some (l.map D.int)):Xh .sum [.ref q] S=.ok (.int l.sum) S:=by
 simp only[Xh,Xn,h,Option.bind_some,Xfb]
noncomputable def Xfw(row:D)(x:Option D):En:=[some row,none,x]
theorem Xre{L:Nat}{y:Nat->Int}(hl:∀ S,Xh .len [row] S=.ok (.int L) S)(hL:L<=12)(ht:∀ (i:Nat) (S:Sto),i<L->∃ X,ev F G elt (Xfw row (some (.int i))) S=.ok (.int (y i)) (S++X)) :
  ∃ X,ev F G (.blt .tuple (.cons (.cmr false 2 (.cons (.var 2) (.rng (.cons (.blt .len (.cons (.var 0) .nil)) .nil)) .nil .nil) elt) .nil)) [some row] S=.ok (.tup ((List.range L).map fun i=>.int (y i))) (S++X):=by
 obtain⟨xs,hx,hxl⟩:=Yx (m:=(L:Int)) (by omega) (Xh1 (by omega))
 have hxl':xs.length=L:=by omega
 obtain⟨e',S',h2,⟨X,h3⟩,h4⟩:=Xbu (F:=F) (G:=G) (t:=.var 2) (n:=2) (elt:=elt) (env:=[some row]) (S:=S) (S1:=S) xs (fun i=>.int (y i))
  (fun i e S'=>(∃ X,S'=S++X)/\∃ x,e=Xfw row x)
  (Xek (es:=.cons (.blt .len (.cons (.var 0) .nil)) .nil) (by simp only[evs,ev,gZ0,Rk0,hl]) hx) rfl (Xan (by omega)) ⟨⟨[],by simp⟩,none,rfl⟩ (fun _ _ _ _=>rfl)
  (fun i d e S' hd hP=>by
   obtain⟨⟨X,rfl⟩,x,rfl⟩:=hP;obtain⟨rfl,hi⟩:=Xaf hx hd;obtain⟨X',h⟩:=ht i (S++X) (by omega)
   exact⟨Xfw row (some (.int i)),S++X++X',rfl,h,⟨X++X',by simp⟩,some (.int i),rfl⟩)
 refine⟨X++[.lst ((List.range L).map fun i=>.int (y i))],?_⟩
 rw[hxl'] at h2;have h3':S'=S++X:=h3;subst h3';simp only[ev,evs] at h2 ⊢;rw[h2];simp only[Rk0,Xh,Xn,Xi];rw[List.append_assoc]
noncomputable def Xoo(ic:Nat)(elt:Ex):Df:=⟨1,1,.cons (.expr (.call ic (.cons (.var 0) .nil))) (.cons (.ret (.blt .tuple (.cons (.cmr false 2 (.cons (.var 2) (.rng (.cons (.blt .len (.cons (.var 0) .nil)) .nil)) .nil .nil) elt) .nil))) .nil)⟩
theorem Xx5(hc:F ic [row] S=.ok .non S1)(h:ev F G (.blt .tuple (.cons (.cmr false 2 (.cons (.var 2) (.rng (.cons (.blt .len (.cons (.var 0) .nil)) .nil)) .nil .nil) elt) .nil)) [some row] S1=.ok d S2) :
  den F G (Xoo ic elt) [row] S=.ok d S2:=by
 simp only[den,Xoo,List.length,if_true,List.map,List.replicate,Nat.sub_self,List.append_nil];rw[Xd (e:=[some row]) (S1:=S1) (by simp only[exe,ev,evs,gZ0,Rk0,hc])]
 rw[X7 (d:=d) (S1:=S2) (by simp only[exe];rw[h,Rk0])]
noncomputable def Xa(l:List Int):D:=.tup (l.map D.int)
theorem Xx6(s:Int)(row:List Int):D.tup ((List.range row.length).map fun i=>.int (tG s row i))=Xa (tT s row):=by simp[Xa,tT]
noncomputable def Xop(ip:Nat):Ex:=.blt .sum (.cons (.call ip (.cons (.var 0) (.cons (.var 2) .nil))) .nil)
theorem Xrf(row:List Int)(p:Nat):Xcs row p=((List.range (p+1)).map (Y1 row p)).map D.int:=by simp[Xcs]
theorem Xfx(row:List Int)(S:Sto):Xh .len [Xa row] S=.ok (.int row.length) S:=by unfold Xa;rw[Xh5,List.length_map]
theorem Xt0{ic ip:Nat}{row:List Int}(hl:row.length<=12)(hc:F ic [Xa row] S=.ok .non S1)
  (hp:∀ (p:Nat) (S:Sto),p<row.length->F ip [Xa row,.int p] S=.ok (.ref S.length) (S++[.lst (Xcs row p)])) :
  ∃ X,den F G (Xoo ic (Xop ip)) [Xa row] S=.ok (Xa (tT 1 row)) (S1++X):=by
 obtain⟨X,h⟩:=Xre (F:=F) (G:=G) (elt:=Xop ip) (row:=Xa row) (L:=row.length) (y:=tG 1 row) (S:=S1) (Xfx row) hl fun i S hh=>by
  have h:=Xh7 (S:=S++[.lst (Xcs row i)]) (q:=S.length) (l:=(List.range (i+1)).map (Y1 row i)) (by rw[<- Xrf];exact Xi)
  rw[Xk1] at h;refine⟨[.lst (Xcs row i)],?_⟩;simp only[Xop,Xfw,ev,evs,gZ0,gS0,Rk0,hp i S hh,h]
 rw[Xx6] at h;exact⟨X,Xx5 hc h⟩
def Xel(F:Fn)(i:Nat):Prop:=∀ (d:D) (S:Sto),good S d->F i [d] S=.ok (.bl (wh d)) S
theorem Xgl:∀ l:List Bool,Xz (l.map D.bl)=some l
 | []=>rfl
 | x::l=>by simp only[List.map,Xz,Xgl l,Option.map_some]
noncomputable def Xoq(i0:Nat):Ex:=.blt .all (.cons (.cmr false 2 (.cons (.var 2) (.val (.var 0)) .nil .nil) (.call i0 (.cons (.var 2) .nil))) .nil)
noncomputable def Xe1(i0:Nat):Df:=⟨1,1,.cons (.ret (.and (.isi (.var 0) [.tuple]) (Xoq i0))) .nil⟩
theorem Xx7{l:List Bool}:Xh .all [.ref S.length] (S++[.lst (l.map D.bl)])=.ok (.bl (l.all id)) (S++[.lst (l.map D.bl)]):=by
 simp only[Xh,Xi,Option.bind_some,Xgl]
theorem Xb7{α β:Type}[Inhabited α](f:α->β)(xs:List α):(List.range xs.length).map (fun i=>f (xs.getD i default))=xs.map f:=by
 refine List.ext_getElem (by simp) fun i h1 h2=>?_
 have:i<xs.length:=by simpa using h2
 simp[this]
theorem Xt1(hw:Xel F i0)(hg:∀ d∈xs,good S d)(hl:xs.length<=1000):ev F G (Xoq i0) [some (.tup xs)] S=.ok (.bl (xs.all wh)) (S++[.lst ((xs.map wh).map D.bl)]):=by
 obtain⟨e',S',h2,h3,h4⟩:=Xbu (F:=F) (G:=G) (t:=.var 2) (n:=2) (elt:=.call i0 (.cons (.var 2) .nil)) (env:=[some (.tup xs)]) (S:=S) (S1:=S) xs (fun i=>.bl (wh (xs.getD i default)))
  (fun i e S'=>S'=S/\∃ x,e=Xfw (.tup xs) x)
  (Xq8 (e:=.var 0) (by simp only[ev,gZ0])) rfl (Xan hl) ⟨rfl,none,rfl⟩ (fun _ _ _ _=>rfl)
  (fun i d e S' hd hP=>by
   obtain⟨rfl,x,rfl⟩:=hP;have hm:d∈xs:=List.mem_of_getElem? hd;have e:xs.getD i default=d:=by rw[List.getD_eq_getElem?_getD,hd];rfl
   refine⟨Xfw (.tup xs) (some d),S',rfl,?_,rfl,some d,rfl⟩;rw[e];simp only[ev,evs,Xfw,gZ0,gS0,Rk0,hw d S' (hg d hm)])
 have h3':S'=S:=h3;subst h3';have e1:((List.range xs.length).map fun i=>D.bl (wh (xs.getD i default)))=(xs.map wh).map D.bl:=by
  rw[Xb7 (fun d=>D.bl (wh d)) xs,List.map_map];rfl
 rw[e1] at h2;simp only[Xoq,ev,evs] at h2 ⊢;rw[h2];simp only[Rk0];rw[Xx7];simp[Function.comp]
theorem Xt2(hw:Xel F i0)(hg:∀ d∈xs,good S d)(hl:xs.length<=1000):den F G (Xe1 i0) [.tup xs] S=.ok (.bl (xs.all wh)) (S++[.lst ((xs.map wh).map D.bl)]):=by
 have h:=Xt1 (G:=G) hw hg hl;have hk:kdD S (.tup xs)=some .tuple:=rfl;simp only[den,Xe1,List.length,if_true,List.map,List.replicate,Nat.sub_self,List.append_nil];rw[X7 (d:=.bl (xs.all wh)) (S1:=S++[.lst ((xs.map wh).map D.bl)]) (by
  simp only[exe];rw[ev,ev];simp only[ev,gZ0,Rk0,hk,Option.bind_some,Yu,isT,Xl];rw[h,Rk0])]
theorem X16(h:∀ c,k≠.exc c)(hn:k≠.tuple):Yu k [.tuple]=some false:=by
 cases k<;>first|rfl|exact absurd rfl (h _)|exact absurd rfl hn
theorem Xx8(hk:kdD S d=some k)(h:∀ c,k≠.exc c)(hn:k≠.tuple):den F G (Xe1 i0) [d] S=.ok (.bl false) S:=by
 have hi:=X16 h hn;simp only[den,Xe1,List.length,if_true,List.map,List.replicate,Nat.sub_self,List.append_nil];rw[X7 (d:=.bl false) (S1:=S) (by
  simp only[exe];rw[ev,ev];simp only[ev,gZ0,Rk0,hk,Option.bind_some,hi,Xl])]
noncomputable def wt:D->Bool
 | .tup xs=>xs.all wh
 | _=>false
def Xvg(F:Fn)(i:Nat):Prop:=∀ (d:D) (S:Sto),good S d->(∀ xs,d=.tup xs->(∀ x∈xs,good S x)/\xs.length<=1000)->∃ X,F i [d] S=.ok (.bl (wt d)) (S++X)
theorem Xt3(hf:T[i]?=some (Xe1 i0))(k:Nat)(hw:Xel (FT T G k) i0):Xvg (FT T G (k+1)) i:=fun d S hg ht=>by
 simp only[FT,hf]
 by_cases h:∃ xs,d=.tup xs
 ·obtain⟨xs,rfl⟩:=h
  obtain⟨h1,h2⟩:=ht xs rfl;exact⟨_,Xt2 hw h1 h2⟩
 ·obtain⟨kd,h1,h2⟩:=hg
  have hn:kd≠.tuple:=fun z=>by
   subst z;cases d with
   | tup xs=>exact h ⟨xs,rfl⟩
   | ref n =>
    simp only[kdD] at h1;split at h1<;>cases h1
   | _=>cases h1
  have e:wt d=false:=by
   cases d with
   | tup xs=>exact absurd ⟨xs,rfl⟩ h
   | _=>rfl
  refine⟨[],?_⟩;rw[e,List.append_nil];exact Xx8 h1 h2 hn
theorem Xrg(hf:T[i]?=some Xgj)(k:Nat):Xel (FT T G (k+1)) i:=fun d S h=>by
 simp only[FT,hf];exact Xq6 h
theorem Xx9(l:List Int):wt (Xa l)=true:=by
 unfold Xa wt;rw[List.all_eq_true];intro d hd;obtain⟨i,_,rfl⟩:=List.mem_map.mp hd;rfl
theorem Xrh(l:List Int)(S:Sto):∀ x∈l.map D.int,good S x:=fun x hx=>by
 obtain⟨i,_,rfl⟩:=List.mem_map.mp hx;exact Xa1 S i
noncomputable def Xk2(i2:Nat)(ig:Nat:=0):Df:=⟨1,1,.cons (.ret (.and (.call i2 (.cons (.var 0) .nil)) (.chn .le .le (.cst (.int 1)) (.blt .len (.cons (.var 0) .nil)) (.bin .add (.glb ig) (.cst (.int 1)))))) .nil⟩
theorem Xt4{i2:Nat}{n g:Int}(h1:F i2 [d] S=.ok (.bl true) S1)(h2:Xh .len [d] S1=.ok (.int n) S1)(hg:G[0]?=some (.int g))(h3:1<=n)(h4:n<=g+1):den F G (Xk2 i2) [d] S=.ok (.bl true) S1:=by
 simp only[den,Xk2,List.length,if_true,List.map,List.replicate,Nat.sub_self,List.append_nil];rw[X7 (d:=.bl true) (S1:=S1) (by
  simp only[exe,ev,evs,gZ0,Rk0,h1,Xl,h2,hg,Yd,Yg,Xo,decide_eq_true h3,decide_eq_true h4])]
noncomputable def Xt5(i4:Nat):Df:=⟨1,1,.cons (.ite (.not (.call i4 (.cons (.var 0) .nil))) (.cons (.rse 7 (.cst (.str "a row is due"))) .nil) .nil) .nil⟩
theorem X17(h:F i4 [d] S=.ok (.bl true) S1):den F G (Xt5 i4) [d] S=.ok .non S1:=by
 simp only[den,Xt5,List.length,if_true,List.map,List.replicate,Nat.sub_self,List.append_nil];rw[Xd (e:=[some d]) (S1:=S1) (Xa4 (by simp only[ev,evs,gZ0,Rk0,h,Xl];rfl))]
 simp only[exes]
noncomputable def Xe2:Df:=⟨2,2,.cons (.ret (.bin .add (.var 1) (.rev (.sli (.var 1) .none (.some (.bin .sub (.bin .add (.var 0) (.cst (.int 1))) (.blt .len (.cons (.var 1) .nil)))))))) .nil⟩
theorem Xk3{α:Type}(xs:List α)(n:Nat):cut xs none (some (n:Int))=xs.take n:=by
 unfold cut Xhc;simp only[List.drop_zero,Nat.sub_zero];rw[if_pos (by omega)]
 simp only[Int.toNat_natCast]
 by_cases h:n<=xs.length
 ·rw[Nat.min_eq_left h]
 ·rw[Nat.min_eq_right (by omega),List.take_of_length_le (by omega),List.take_of_length_le (by omega)]
theorem Xor{w a:Int}{xs:List D}{S:Sto}(h1:(xs++(cut xs none (some (w+1-xs.length))).reverse).length=xs.length+(cut xs none (some (w+1-xs.length))).length)(h2:xs.length+(cut xs none (some (w+1-xs.length))).reverse.length<=big) :
  den F G Xe2 [.int w,.tup xs] S=.ok (.tup (xs++(cut xs none (some (w+1-xs.length))).reverse)) S:=by
 simp only[den,Xe2,List.length,if_true,List.map,List.replicate,Nat.sub_self,List.append_nil];rw[X7 (d:=.tup (xs++(cut xs none (some (w+1-xs.length))).reverse)) (S1:=S) (by
  simp only[exe,ev,evo,evs,gZ0,gS0,Rk0,Xh5,Yd,Xau,Xbk,Xax,Xdu,Xm];rw[if_pos h2,Rk0])]
end
noncomputable def ps(l:List Int)(k:Nat):Int:=(l.take k).sum
noncomputable def pre(l:List Int)(n:Nat):List Int:=(List.range n).map fun j=>ps l (j+1)
noncomputable def mir(w:Nat)(h:List Int):List Int:=h++(h.take (w+1-h.length)).reverse
theorem Xdm(hl:h.length=w/2+1):(mir w h).length=w+1:=by
 simp only[mir,List.length_append,List.length_reverse,List.length_take];omega
theorem Xya(hl:h.length=w/2+1)(hp:p<=w):(mir w h).getD p 0=h.getD (min p (w-p)) 0:=by
 simp only[mir,List.getD_eq_getElem?_getD,List.getElem?_append]
 by_cases h1:p<h.length
 ·rw[if_pos h1,Nat.min_eq_left (by omega)]
 ·rw[if_neg h1]
  have hlen:(h.take (w+1-h.length)).length=w+1-h.length:=by rw[List.length_take];omega
  rw[List.getElem?_reverse (by rw[hlen];omega),hlen,List.getElem?_take,if_pos (by omega)]
  congr 2;omega
theorem Xfy(hl:l.length=w/2+1):(List.range (w+1)).map (fun p=>ps l (min p (w-p)+1))=mir w (pre l (w/2+1)):=by
 have hp:(pre l (w/2+1)).length=w/2+1:=by simp[pre]
 refine Xx4 (by rw[Xdm hp];simp) fun p=>?_
 by_cases h:p<=w
 ·rw[Xya hp h]
  have h2:min p (w-p)<w/2+1:=by omega
  have h3:p<w+1:=by omega
  simp[List.getD_eq_getElem?_getD,pre,h2,h3]
 ·have l1:(mir w (pre l (w/2+1))).length=w+1:=Xdm hp
  simp only[List.getD_eq_getElem?_getD];rw[List.getElem?_eq_none (by simp;omega),List.getElem?_eq_none (by omega)]
section
variable{F:Fn}{G:List D}
theorem Xi2(h:ev F G c env S=.ok (.bl true) S1):exe F G (.ite c (.cons (.rse k (.cst (.str s))) .nil) .nil) env S=.ex S1.length (S1++[.exc k]):=by
 rw[exe,h,Rk0];simp only[Xl,exes,exe,ev,Rk0]
noncomputable def Xos:Df:=⟨1,1,.cons (.ret (.bin .add (.bin .fdiv (.var 0) (.cst (.int 2))) (.cst (.int 1)))) .nil⟩
theorem Xt6(w:Int)(S:Sto):den F G Xos [.int w] S=.ok (.int (w/2+1)) S:=by
 have hd:Xae 2=true:=by decide+kernel
 simp only[den,Xos,List.length,if_true,List.map,List.replicate,Nat.sub_self,List.append_nil];rw[X7 (d:=.int (w/2+1)) (S1:=S) (by simp only[exe,ev,gZ0,Rk0,Xb0 hd,Yd])]
noncomputable def Xfz(i1 i2 ih:Nat)(ig:Nat:=0):Df:=⟨2,2,.cons (.ite (.not (.call i1 (.cons (.var 0) (.cons (.cst (.int 0)) (.cons (.glb ig) .nil))))) (.cons (.rse 8 (.cst (.str "a width from 0 to 11 is due"))) .nil) .nil)
  (.cons (.ite (.or (.not (.call i2 (.cons (.var 1) .nil))) (.cmp .ne (.blt .len (.cons (.var 1) .nil)) (.call ih (.cons (.var 0) .nil)))) (.cons (.rse 7 (.cst (.str "a tuple of one more whole numbers than half of the width is due"))) .nil) .nil) .nil)⟩
variable{i1 i2 ih ig:Nat}{d e:D}{g:Int}{S S1:Sto}
theorem Xri(i j:Int)(S:Sto):Xo .ne (.int i) (.int j) S=.ok (.bl (!(i==j))) S:=by
 simp only[Xo,Yg,eqD,Xb8,Ys,Xw,PyData.canLay0,PyData.depth,PyData.eqv];rfl
theorem Xt7(hg:G[ig]?=some (.int g))(h:F i1 [d,.int 0,.int g] S=.ok (.bl true) S)(h2:F i2 [e] S=.ok (.bl true) S1)(h3:Xh .len [e] S1=.ok (.int n) S1)(h4:F ih [d] S1=.ok (.int n) S1):den F G (Xfz i1 i2 ih ig) [d,e] S=.ok .non S1:=by
 have hb:(!(n==n))=false:=by simp
 simp only[den,Xfz,List.length,if_true,List.map,List.replicate,Nat.sub_self,List.append_nil];rw[Xd (e:=[some d,some e]) (S1:=S) (Xa4 (by simp only[ev,evs,gZ0,Rk0,hg,h,Xl];rfl))]
 rw[Xd (e:=[some d,some e]) (S1:=S1) (Xa4 (by simp only[ev,evs,gZ0,gS0,Rk0,h2,Xl,Bool.not_true,h3,h4,Xri,hb]))]
 simp only[exes]
theorem Xyb(w:Nat)(h:List Int)(hl:h.length=w/2+1):h.map D.int++(cut (h.map D.int) none (some ((w:Int)+1-(h.map D.int).length))).reverse=(mir w h).map D.int:=by
 have e:(w:Int)+1-((h.map D.int).length:Int)=((w+1-h.length:Nat):Int):=by rw[List.length_map];omega
 rw[e,Xk3];simp[mir]
theorem Xot{w:Nat}{h:List Int}(hl:h.length=w/2+1)(hw:w<=11):den F G Xe2 [.int w,Xa h] S=.ok (Xa (mir w h)) S:=by
 have e:=Xyb w h hl;have hn:((mir w h).map D.int).length=w+1:=by rw[List.length_map,Xdm hl]
 have h2:(h.map D.int).length+(cut (h.map D.int) none (some ((w:Int)+1-(h.map D.int).length))).reverse.length<=big:=by
  rw[<- List.length_append,e,hn];exact Xan (by omega)
 have:=Xor (F:=F) (G:=G) (a:=0) (w:=w) (xs:=h.map D.int) (S:=S) (by rw[List.length_append,List.length_reverse]) h2
 rw[e] at this;exact this
theorem Xyc(P:Nat->En->Sto->Prop)(h1:ev F G e0 env S=.ok (.tup xs) S1)(h0:P 0 env S1)
  (step:∀ i d e S,xs[i]?=some d->P i e S->∃ e1 e2 S2,Xp t d e=some e1/\exes F G b e1 S=.ok (.nx e2) S2/\P (i+1) e2 S2) :
  ∃ e' S',exe F G (.for t (.val e0) b) env S=.ok (.nx e') S'/\P xs.length e' S':=by
 obtain⟨e',S',a,b'⟩:=Xc4 (get:=(Src.con xs).get) (t:=t) (body:=fun env S=>exes F G b env S) xs P (fun _ _ _ _=>rfl) step (xs.length+1) 0 env S1 h0 (Nat.zero_le _) (by omega)
 refine⟨e',S',?_,b'⟩;simp only[exe,Xq8 h1,Rk0,Src.most];exact a
noncomputable def Xgm:Sts:=.cons (.aug 3 .add (.var 4)) (.cons (.expr (.mth .append (.var 2) (.cons (.var 3) .nil))) .nil)
noncomputable def X18:St:=.for (.var 4) (.val (.var 1)) Xgm
noncomputable def Xk4(ic ib im:Nat):Df:=⟨2,5,.cons (.expr (.call ic (.cons (.var 0) (.cons (.var 1) .nil)))) (.cons (.asg (.var 2) (.lst .nil)) (.cons (.asg (.var 3) (.cst (.int 0))) (.cons X18
  (.cons (.ret (.call ib (.cons (.call im (.cons (.var 0) (.cons (.blt .tuple (.cons (.var 2) .nil)) .nil))) .nil))) .nil))))⟩
theorem Xnb(h:Xb S q=some xs)(hl:xs.length<1000):Yj .append (.ref q) [x] S=.ok .non (S.set q (.lst (xs++[x]))):=by
 have h':lstM S q=some xs:=h;simp only[Yj,h'];rw[if_pos (Nat.lt_of_lt_of_le hl (by decide))]
theorem Xrj(h:Xb S q=some xs)(hl:xs.length<1000) :
  exes F G Xgm [some (.int w),some ns,some (.ref q),some (.int r),some (.int x)] S=.ok (.nx [some (.int w),some ns,some (.ref q),some (.int (r+x)),some (.int x)]) (S.set q (.lst (xs++[.int (r+x)]))):=by
 have ha:=Xnb (x:=.int (r+x)) h hl;have hr:Xag .append (.ref q) S=true:=by simp only[Xag,h,Option.isSome]
 unfold Xgm;rw[Xd (e:=[some (.int w),some ns,some (.ref q),some (.int (r+x)),some (.int x)]) (S1:=S) (by simp only[exe,ev,gZ0,gS0,Rk0,Xbw,List.set])]
 rw[Xd (e:=[some (.int w),some ns,some (.ref q),some (.int (r+x)),some (.int x)]) (S1:=S.set q (.lst (xs++[.int (r+x)]))) (by
  simp only[exe,ev,evs,gZ0,gS0,Rk0,hr,if_true,ha])]
 simp only[exes]
theorem Xnc(l:List Int)(i:Nat)(h:i<l.length):ps l (i+1)=ps l i+l.getD i 0:=by
 unfold ps;rw[List.take_succ,List.sum_append];simp[h]
theorem Xou(hl:l.length<1000) :
  ∃ e',exe F G X18 [some (.int w),some (Xa l),some (.ref S.length),some (.int 0),none] (S++[.lst []])=.ok (.nx e') (S++[.lst ((pre l l.length).map D.int)])/\∃ r x,e'=[some (.int w),some (Xa l),some (.ref S.length),some (.int r),x]:=by
 obtain⟨e',S',h1,h2,r,x,h3⟩:=Xyc (F:=F) (G:=G) (t:=.var 4) (e0:=.var 1) (b:=Xgm) (xs:=l.map D.int) (env:=[some (.int w),some (Xa l),some (.ref S.length),some (.int 0),none]) (S:=S++[.lst []]) (S1:=S++[.lst []])
  (fun i e S'=>S'=S++[.lst ((pre l i).map D.int)]/\∃ r x,e=[some (.int w),some (Xa l),some (.ref S.length),some (.int r),x]/\r=ps l i)
  (by simp only[ev,gZ0,gS0,Xa]) ⟨rfl,0,none,rfl,rfl⟩
  (fun i d e S' hd hP=>by
   obtain⟨rfl,r,x,rfl,hr⟩:=hP;rw[List.getElem?_map] at hd;cases q:l[i]? with
   | none=>rw[q] at hd;cases hd
   | some y =>
    rw[q] at hd;have hd':d=.int y:=by simpa using hd.symm
    subst hd';have hi:i<l.length:=(List.getElem?_eq_some_iff.mp q).1;have hy:l.getD i 0=y:=by rw[List.getD_eq_getElem?_getD,q];rfl
    have st:=Xrj (F:=F) (G:=G) (w:=w) (r:=r) (x:=y) (ns:=Xa l) (Xi (S:=S) (xs:=(pre l i).map D.int)) (by simp[pre];omega)
    refine⟨[some (.int w),some (Xa l),some (.ref S.length),some (.int r),some (.int y)],_,_,rfl,st,?_,_,_,rfl,?_⟩
    ·rw[List.set_append_right _ _ (Nat.le_refl _),Nat.sub_self,List.set_cons_zero]
     congr 3;rw[hr,<- hy,<- Xnc l i hi];simp[pre,List.range_succ]
    ·rw[hr,Xnc l i hi,hy])
 rw[List.length_map] at h2;exact⟨e',by rw[<- h2];exact h1,r,x,h3.1⟩
theorem Xrk{ic ib im:Nat}{w:Nat}{l:List Int}(hl:l.length=w/2+1)(hw:w<=11)(hc:F ic [.int w,Xa l] S=.ok .non S1)
  (hm:∀ S,F im [.int w,Xa (pre l l.length)] S=.ok (Xa (mir w (pre l l.length))) S)
  (hb:∀ S,∃ X,F ib [Xa (mir w (pre l l.length))] S=.ok (Xa (tT 1 (mir w (pre l l.length)))) (S++X)) :
  ∃ X,den F G (Xk4 ic ib im) [.int w,Xa l] S=.ok (Xa (tT 1 (mir w (pre l l.length)))) (S1++X):=by
 obtain⟨e',h1,r,x,rfl⟩:=Xou (F:=F) (G:=G) (w:=w) (l:=l) (S:=S1) (by omega)
 obtain⟨X,h2⟩:=hb (S1++[.lst ((pre l l.length).map D.int)]);refine⟨[.lst ((pre l l.length).map D.int)]++X,?_⟩;have ht:Xh .tuple [.ref S1.length] (S1++[.lst ((pre l l.length).map D.int)])=.ok (Xa (pre l l.length)) (S1++[.lst ((pre l l.length).map D.int)]):=by simp only[Xh,Xn,Xi,Xa]
 simp only[den,Xk4,List.length,if_true,List.map,List.replicate];rw[Xd (e:=[some (.int w),some (Xa l),none,none,none]) (S1:=S1) (by simp only[exe,ev,evs,List.cons_append,List.nil_append,gZ0,gS0,Rk0,hc])]
 rw[Xd (e:=[some (.int w),some (Xa l),some (.ref S1.length),none,none]) (S1:=S1++[.lst []]) (by
  simp only[exe,ev,evs,Rk0,List.length];rfl)]
 rw[Xd (e:=[some (.int w),some (Xa l),some (.ref S1.length),some (.int 0),none]) (S1:=S1++[.lst []]) (by simp only[exe,ev,Rk0,Xp,List.set])]
 rw[Xd h1];rw[X7 (d:=Xa (tT 1 (mir w (pre l l.length)))) (S1:=S1++([.lst ((pre l l.length).map D.int)]++X)) (by
  simp only[exe,ev,evs,gZ0,gS0,Rk0,ht,hm,h2,List.append_assoc])]
theorem Xyd(h1:Xb S a=some x)(h2:Xb S b=some y)(hl:x.length+y.length<=1000):Xm .add (.ref a) (.ref b) S=.ok (.ref S.length) (S++[.lst (x++y)]):=by
 have h1':lstM S a=some x:=h1;have h2':lstM S b=some y:=h2;simp only[Xm,h1',h2'];exact if_pos (Xan hl)
theorem Xye(P:Nat->En->Sto->Prop)(h1:ev F G e0 env S=.ok (.ref r) S1)(hr:Xb S1 r=some xs)(hk:∀ i e S',P i e S'->Xb S' r=some xs)(h0:P 0 env S1)
  (step:∀ i d e S,xs[i]?=some d->P i e S->∃ e1 e2 S2,Xp t d e=some e1/\exes F G b e1 S=.ok (.nx e2) S2/\P (i+1) e2 S2) :
  ∃ e' S',exe F G (.for t (.val e0) b) env S=.ok (.nx e') S'/\P xs.length e' S':=by
 obtain⟨e',S',a,b'⟩:=Xc4 (get:=(Src.ref r).get) (t:=t) (body:=fun env S=>exes F G b env S) xs P (fun i e S' hP=>by simp only[Src.get,hk i e S' hP,Option.map_some]) step (xs.length+1) 0 env S1 h0 (Nat.zero_le _) (by omega)
 refine⟨e',S',?_,b'⟩;have hs:Yk S1 (.ref r)=some (.ref r):=by simp only[Yk,hr,Option.map_some]
 simp only[exe,evit,h1,Rk0,hs,Src.most,hr,Option.getD_some];exact a
end
mutual
theorem Xem(h:∀ n p,look n=some p->look' n=some p):∀ (d:D) (p:PyData),Xw look d=some p->Xw look' d=some p
 | .non,p,e=>by simpa only[Xw] using e
 | .bl b,p,e=>by simpa only[Xw] using e
 | .int i,p,e=>by simpa only[Xw] using e
 | .str x,p,e=>by simpa only[Xw] using e
 | .tup xs,p,e=>by
  simp only[Xw,Option.map_eq_some_iff] at e ⊢;obtain⟨ps,e1,e2⟩:=e;exact⟨ps,datFs_mono h xs ps e1,e2⟩
 | .fro _,p,e=>by simp[Xw] at e
 | .fn _ _,p,e=>by simp[Xw] at e
 | .ref n,p,e=>by simp only[Xw] at e ⊢;exact h n p e
theorem datFs_mono(h:∀ n p,look n=some p->look' n=some p):∀ (ds:List D) (ps:List PyData),datFs look ds=some ps->datFs look' ds=some ps
 | [],ps,e=>by simpa only[datFs] using e
 | d::ds,ps,e=>by
  simp only[datFs] at e ⊢;cases e1:Xw look d with
  | none=>rw[e1] at e;cases e
  | some q =>
   cases e2:datFs look ds with
   | none=>rw[e1,e2] at e;cases e
   | some qs =>
    rw[e1,e2] at e;rw[Xem h d q e1,datFs_mono h ds qs e2];exact e
end
theorem Xc6:∀ (k n:Nat) (p:PyData),Ye S k n=some p->Ye (S++X) k n=some p
 | 0,n,p,e=>by cases e
 | k+1,n,p,e=>by
  simp only[Ye] at e ⊢;cases q:S[n]? with
  | none=>rw[q] at e;cases e
  | some o =>
   rw[List.getElem?_append_left (List.getElem?_eq_some_iff.mp q).1,q];rw[q] at e;cases o with
   | lst xs =>
    simp only[Option.map_eq_some_iff] at e ⊢;obtain⟨ps,e1,e2⟩:=e;exact⟨ps,datFs_mono (Xc6 k) xs ps e1,e2⟩
   | dct kvs=>cases kvs<;>exact e
   | set _=>cases e
   | exc _=>cases e
structure Shw(S:Sto)(ds:List D)(ps:List PyData):Prop where
 dat:datFs (Ye S 3) ds=some ps
 shw:PyData.showableAll ps=true
 nod:dctEs ps=true
 dep:(PyData.list ps).depth<=60
 siz:szD (.list ps)<=big
theorem Shw.app{ds:List D}{ps:List PyData}(h:Shw S ds ps):Shw (S++X) ds ps:=⟨datFs_mono (Xc6 3) ds ps h.dat,h.shw,h.nod,h.dep,h.siz⟩
theorem Shw.rep{ds:List D}{ps:List PyData}(h:Shw S ds ps):Xbc (S++[.lst ds]) (.ref S.length)=some (PyData.list ps).shown:=by
 have e:Ys (S++[.lst ds]) (.ref S.length)=some (.list ps):=by
  have hd:=(h.app (X:=[.lst ds])).dat;have hg:(S++[O.lst ds])[S.length]?=some (.lst ds):=by rw[List.getElem?_append_right (Nat.le_refl _),Nat.sub_self];rfl
  show Ye (S++[.lst ds]) 4 S.length=_;rw[Ye,hg];dsimp only;rw[hd,Option.map_some]
 have h1:(PyData.list ps).showable=true:=by simpa only[PyData.showable] using h.shw
 have h2:Xaw (PyData.list ps)=true:=by simpa only[Xaw] using h.nod
 simp only[Xbc,e,h1,h2,decide_eq_true h.dep,decide_eq_true h.siz];rfl
section
variable{F:Fn}{G:List D}
theorem eq_str(t:Str)(S:Sto):Xo .eq (.str t) (.str t) S=.ok (.bl true) S:=by
 simp only[Xo,Yg,eqD,Xb8,beq_self_eq_true]
end
def Sm(S:Sto)(dep siz:Nat)(d:D):Prop:=∃ p,Xw (Ye S 3) d=some p/\p.showable=true/\Xaw p=true/\p.depth<=dep/\szD p<=siz
theorem Sm.mono(h:Sm S a b d)(h1:a<=a')(h2:b<=b'):Sm S a' b' d:=by
 obtain⟨p,q1,q2,q3,q4,q5⟩:=h;exact⟨p,q1,q2,q3,Nat.le_trans q4 h1,Nat.le_trans q5 h2⟩
theorem Sm.app(h:Sm S a b d):Sm (S++X) a b d:=by
 obtain⟨p,q1,q⟩:=h;exact⟨p,Xem (Xc6 3) d p q1,q⟩
theorem X19(h:n<=900000):n<=big:=Nat.le_trans h (by decide)
def Ext(p:Nat)(S S':Sto):Prop:=∀ n o,n≠p->S[n]?=some o->S'[n]?=some o
section
variable{p:Nat}{S S' S1 S2 X:Sto}
theorem Ext.refl:Ext p S S:=fun _ _ _ h=>h
theorem Ext.trans(a:Ext p S S1)(b:Ext p S1 S2):Ext p S S2:=fun n o h e=>b n o h (a n o h e)
theorem Ext.app:Ext p S (S++X):=fun n o _ e=>by rw[List.getElem?_append_left (List.getElem?_eq_some_iff.mp e).1];exact e
theorem Ext.set:Ext p S (S.set p o):=fun n o h e=>by rw[List.getElem?_set_ne (Ne.symm h)];exact e
theorem Xct(h:Xb S q=some xs):S[q]?=some (.lst xs):=by
 unfold Xb at h;split at h
 ·rename_i ys hh;cases h;exact hh
 ·cases h
theorem Xrl(h:S[q]?=some (.lst xs)):Xb S q=some xs:=by unfold Xb;rw[h]
theorem Ext.lst(x:Ext p S S')(hq:q≠p)(h:Xb S q=some xs):Xb S' q=some xs:=Xrl (x q _ hq (Xct h))
end
def FSm(dep siz:Nat)(d:D):Prop:=∃ p,(∀ look,Xw look d=some p)/\p.showable=true/\Xaw p=true/\p.depth<=dep/\szD p<=siz
theorem FSm.mono(h:FSm a b d)(h1:a<=a')(h2:b<=b'):FSm a' b' d:=by
 obtain⟨p,q1,q2,q3,q4,q5⟩:=h;exact⟨p,q1,q2,q3,Nat.le_trans q4 h1,Nat.le_trans q5 h2⟩
theorem FSm.sm(h:FSm a b d)(S:Sto):Sm S a b d:=by
 obtain⟨p,q1,q⟩:=h;exact⟨p,q1 _,q⟩
theorem FSm.good(h:FSm a b d)(S:Sto):good S d:=by
 obtain⟨p,q1,q⟩:=h;refine Xbg S d (fun n z=>?_) (fun f m z=>?_)
 ·subst z;have:=q1 (fun _=>none);cases this
 ·subst z;have:=q1 (fun _=>none);cases this
theorem Xrm(h:i.natAbs.log2<1920):FSm 0 1921 (.int i):=⟨.int i,fun _=>by simp only[Xw],by simp only[PyData.showable,decide_eq_true h],by simp only[Xaw],by simp only[PyData.depth];exact Nat.le_refl _,by simp only[szD];exact Nat.le_refl _⟩
theorem X2a:FSm 0 1921 .non:=⟨.none,fun _=>by simp only[Xw],by simp only[PyData.showable],by simp only[Xaw],by simp only[PyData.depth];exact Nat.le_refl _,by simp only[szD];omega⟩
theorem Xvh:FSm 0 1921 (.bl b):=⟨.bool b,fun _=>by simp only[Xw],by simp only[PyData.showable],by simp only[Xaw],by simp only[PyData.depth];exact Nat.le_refl _,by simp only[szD];omega⟩
theorem X2b(h:(reprText t).length<=1921):FSm 0 1921 (.str t):=⟨.str t,fun _=>by simp only[Xw],by simp only[PyData.showable],by simp only[Xaw],by simp only[PyData.depth];exact Nat.le_refl _,by simp only[szD];exact h⟩
theorem fss:∀ ds:List D,(∀ d∈ds,FSm a b d) ->
  ∃ ps,(∀ look,datFs look ds=some ps)/\PyData.showableAll ps=true/\dctEs ps=true/\PyData.depthAll ps<=a/\szDs ps<=ds.length*(b+2)
 | [],_=>⟨[],fun _=>by simp only[datFs],by simp only[PyData.showableAll],by simp only[dctEs],by simp only[PyData.depthAll];exact Nat.zero_le _,by simp only[szDs];exact Nat.zero_le _⟩
 | d::ds,h=>by
  obtain⟨p,p1,p2,p3,p4,p5⟩:=h d (by simp)
  obtain⟨ps,q1,q2,q3,q4,q5⟩:=fss ds fun x hx=>h x (by simp[hx])
  refine⟨p::ps,fun look=>by simp only[datFs,p1 look,q1 look],by simp only[PyData.showableAll,p2,q2,Bool.and_self],by simp only[dctEs,p3,q3,Bool.and_self],by simp only[PyData.depthAll];exact Nat.max_le.mpr ⟨p4,q4⟩,?_⟩
  simp only[szDs,List.length_cons,Nat.succ_mul];omega
theorem X2c(h:∀ d∈ds,FSm a b d):FSm (a+1) (ds.length*(b+2)+3) (.tup ds):=by
 obtain⟨ps,q1,q2,q3,q4,q5⟩:=fss ds h;refine⟨.tuple ps,fun look=>by simp only[Xw,q1 look,Option.map_some],by simp only[PyData.showable,q2],by simp only[Xaw,q3],by simp only[PyData.depth];omega,by simp only[szD];omega⟩
theorem X2d(h:FSm a b d):FSm (a+1) (b+5) (.tup [d]):=by
 have:=X2c (ds:=[d]) (a:=a) (b:=b) (fun x hx=>by rw[List.mem_singleton] at hx;subst hx;exact h)
 exact this.mono (Nat.le_refl _) (by simp)
theorem Xyf(hn:Xb S n=some xs)(h:∀ x∈xs,FSm a b x):Sm S (a+1) (xs.length*(b+2)+2) (.ref n):=by
 obtain⟨ps,q1,q2,q3,q4,q5⟩:=fss xs h;refine⟨.list ps,?_,by simp only[PyData.showable,q2],by simp only[Xaw,q3],by simp only[PyData.depth];omega,by simp only[szD];omega⟩
 show Ye S 3 n=_;rw[Ye,Xct hn];dsimp only;rw[q1,Option.map_some]
theorem X2e(hn:S[n]?=some (.dct [])):Sm S 1 2 (.ref n):=by
 refine⟨.dict [],?_,by simp only[PyData.showable,PyData.showableKv],by simp only[Xaw];rfl,by simp only[PyData.depth,PyData.depthKv];exact Nat.le_refl _,by simp only[szD];exact Nat.le_refl _⟩
 show Ye S 3 n=_;rw[Ye,hn]
theorem Xt8(hn:S[n]?=some (.dct kvs)):good S (.ref n):=⟨.dict,by simp only[kdD];rw[hn],fun _ z=>nomatch z⟩
theorem Xrn(h:Xb S q=some xs):good S (.ref q):=⟨.list,by simp only[kdD];rw[Xct h],fun _ z=>nomatch z⟩
structure Thing(S:Sto)(d:D):Prop where
 sm:Sm S 20 400000 d
 gd:good S d
 el:∀ xs,d=.tup xs->(∀ x∈xs,good S x)/\xs.length<=200
def Kp(p:Nat)(S:Sto)(d:D):Prop:=∀ S',Ext p S S'->Thing S' d
def El(p:Nat)(S:Sto)(d:D):Prop:=∀ S',Ext p S S'->Sm S' 5 30000 d/\good S' d
section
variable{p:Nat}{S S':Sto}{d:D}
theorem Kp.mono(h:Kp p S d)(x:Ext p S S'):Kp p S' d:=fun S2 y=>h S2 (x.trans y)
theorem Kp.now(h:Kp p S d):Thing S d:=h S .refl
theorem El.mono(h:El p S d)(x:Ext p S S'):El p S' d:=fun S2 y=>h S2 (x.trans y)
theorem Xcl(h:FSm a b d)(ha:a<=5)(hb:b<=30000):El p S d:=fun S' _=>⟨(h.sm S').mono ha hb,h.good S'⟩
theorem X2f(hq:q≠p)(hl:Xb S q=some xs)(h:∀ x∈xs,FSm a b x)(ha:a<=4)(hb:xs.length*(b+2)+2<=30000):El p S (.ref q):=fun S' x=>⟨(Xyf (x.lst hq hl) h).mono (by omega) hb,Xrn (x.lst hq hl)⟩
theorem X2g(hq:q≠p)(h:S[q]?=some (.dct [])):El p S (.ref q):=fun S' x=>⟨(X2e (x q _ hq h)).mono (by omega) (by omega),Xt8 (x q _ hq h)⟩
end
theorem Thing.app(h:Thing S d):Thing (S++X) d:=⟨h.sm.app,Xd3 h.gd,fun xs z=>⟨fun x hx=>Xd3 ((h.el xs z).1 x hx),(h.el xs z).2⟩⟩
theorem X2h(h:i.natAbs.log2<1920):El p S (.int i):=Xcl (Xrm h) (by omega) (by omega)
theorem Xnd:∀ {xs:List D},xs.all wh=true->∃ l:List Int,xs=l.map D.int
 | [],_=>⟨[],rfl⟩
 | x::xs,h=>by
  simp only[List.all_cons,bA0] at h;obtain⟨l,rfl⟩:=Xnd h.2;cases x with
  | int i=>exact⟨i::l,rfl⟩
  | _=>cases h.1
section
variable{F:Fn}{G:List D}
theorem Xyg(h:ev F G c env S=.ok (.bl true) S'):exe F G (.ite c (.cons (.ret (.cst d)) .nil) .nil) env S=.ok (.rt d) S':=by
 rw[exe,h,Rk0];simp only[Xl,exes,exe,ev,Rk0]
end
def Bd(B:Nat)(l:List Int):Prop:=∀ x∈l,x.natAbs<=B
theorem Bd.mono{B C:Nat}{l:List Int}(h:Bd B l)(hc:B<=C):Bd C l:=fun x hx=>Nat.le_trans (h x hx) hc
noncomputable def vsq(v m:Int):Nat->Int
 | 0=>v
 | n+1=>vsq v m n/m
noncomputable def drawn(v far:Int)(n:Nat):List Int:=(List.range n).map fun i=>vsq v (2*far+1) i%(2*far+1)-far
section
variable{F:Fn}{G:List D}
theorem Xbh(he:env.length=L)(x:Option D)(d:D):Xp (.var (L+1)) d (env++[none,x])=some (env++[none,some d]):=by
 simp only[Xp];rw[List.set_append_right _ _ (by omega),he,Nat.add_sub_cancel_left]
 rfl
theorem Y9{env X:En}{i:Nat}{d:D}(h:env[i]?=some (some d)):(env++X)[i]?=some (some d):=by
 rw[List.getElem?_append_left (List.getElem?_eq_some_iff.mp h).1];exact h
theorem Xbi{env:En}{L:Nat}(he:env.length=L)(d:D):(env++[none,some d])[L+1]?=some (some d):=by
 rw[List.getElem?_append_right (by omega),he,Nat.add_sub_cancel_left];rfl
theorem Xai(h:ev F G e env S=.ok d S'):exe F G (.asg (.var i) e) env S=.ok (.nx (env.set i (some d))) S':=by
 simp only[exe,h,Rk0,Xp]
end
theorem Xk5:∀ (k n:Nat) (p:PyData),Ye S k n=some p->Ye S (k+1) n=some p
 | 0,n,p,e=>by cases e
 | k+1,n,p,e=>by
  rw[Ye] at e ⊢;cases q:S[n]? with
  | none=>rw[q] at e;cases e
  | some o =>
   rw[q] at e;cases o with
   | lst xs =>
    simp only[Option.map_eq_some_iff] at e ⊢;obtain⟨ps,e1,e2⟩:=e;exact⟨ps,datFs_mono (Xk5 k) xs ps e1,e2⟩
   | dct kvs=>cases kvs<;>exact e
   | set _=>cases e
   | exc _=>cases e
theorem Sm.rep(h:Sm S 20 400000 d):∃ t,∀ Y,Xbc (S++Y) d=some t:=by
 obtain⟨p,q1,q2,q3,q4,q5⟩:=h;refine⟨p.shown,fun Y=>?_⟩
 have e:Ys (S++Y) d=some p:=Xem (fun n q z=>Xk5 3 n q (Xc6 3 n q z)) d p q1
 have c1:p.depth<=60:=by omega
 have c2:szD p<=big:=X19 (by omega)
 simp only[Xbc,e,q2,q3,decide_eq_true c1,decide_eq_true c2,Bool.and_self,if_true]
theorem Xne(t:Str)(S:Sto):Xo .ne (.str t) (.str t) S=.ok (.bl false) S:=by
 simp only[Xo,Yg,eqD,Xb8,beq_self_eq_true,Option.map_some,Bool.not_true]
end Z
end
section
namespace Z
def X5j(n k m:Nat):Prop:=k<=m/\C m k<=n/\n<C (m+1) k
def Wr:Nat->Nat->List Int->Prop
 | 0,n,l=>n=0/\l=[]
 | k+1,n,l=>(n=0/\l=[])\/∃ (m:Nat) (r:List Int),l=(m:Int)::r/\0<n/\X5j n (k+1) m/\Wr k (n-C m (k+1)) r
theorem Wr.nil(h:Wr k n []):n=0:=by
 cases k with
 | zero=>exact h.1
 | succ k=>rcases h with h|⟨m,r,e,_⟩;exact h.1;cases e
theorem Wr.zero(h:Wr k 0 l):l=[]:=by
 cases k with
 | zero=>exact h.2
 | succ k=>rcases h with h|⟨m,r,e,h,_⟩;exact h.2;omega
end Z
end
section
namespace Z
open PySem
section
variable{F:Fn}{G:List D}
def Xjq(F:Fn)(iw:Nat):Prop:=∀ (n m:Nat) (S:Sto),n<=10000000000000->m<=12->F iw [.int n,.int m] S=.ok (.int (C n m)) S
end
theorem Xro(n i:Nat)(h:i<=n):((C n i*fac i:Nat):Int)*((n:Int)-i)=((C n (i+1)*fac (i+1):Nat):Int):=by
 have e:(n:Int)-i=((n-i:Nat):Int):=by omega
 rw[e,<- Int.natCast_mul];congr 1;have:=Xdg n i;simp only[fac]
 calc C n i*fac i*(n-i)=C n i*(n-i)*fac i:=by rw[Nat.mul_assoc,Nat.mul_comm (fac i),<- Nat.mul_assoc]
  _=C n (i+1)*(i+1)*fac i:=by rw[this]
  _=C n (i+1)*(fac i*(i+1)):=by rw[Nat.mul_assoc,Nat.mul_comm (i+1)]
theorem Xnf(n:Nat):∀ i,C n i*fac i<=n^i
 | 0=>by rw[Xcr];simp[fac]
 | i+1=>by
  by_cases h:i<=n
  ·have:=Xdg n i
   have ih:=Xnf n i;have e:C n (i+1)*fac (i+1)=C n i*fac i*(n-i):=by
    simp only[fac]
    calc C n (i+1)*(fac i*(i+1))=C n (i+1)*(i+1)*fac i:=by rw[Nat.mul_assoc,Nat.mul_comm (i+1)]
     _=C n i*(n-i)*fac i:=by rw[this]
     _=C n i*fac i*(n-i):=by rw[Nat.mul_assoc,Nat.mul_comm (n-i),<- Nat.mul_assoc]
   rw[e,Nat.pow_succ];exact Nat.mul_le_mul ih (Nat.sub_le _ _)
  ·rw[Xd2 n (i+1) (by omega),Nat.zero_mul]
   exact Nat.zero_le _
theorem Xrp(h:n<2^k)(hk:0<k):n.log2<k:=by
 by_cases h0:n=0
 ·subst h0;exact hk
 ·exact(Nat.log2_lt h0).mpr h
theorem Xt9(hn:n<2^300)(hi:i<=12):((C n i*fac i:Nat):Int).natAbs.log2<100000:=by
 rw[Int.natAbs_natCast];refine Xrp (Nat.lt_of_le_of_lt (Xnf n i) ?_) (by decide)
 refine Nat.lt_of_le_of_lt (Nat.pow_le_pow_left (Nat.le_of_lt hn) i) ?_;rw[<- Nat.pow_mul];exact Nat.pow_lt_pow_right (by decide) (by omega)
section
variable{F:Fn}{G:List D}
noncomputable def lwB:Sts:=.cons (.asg (.var 3) (.bin .mul (.var 3) (.bin .sub (.var 0) (.var 2)))) (.cons (.asg (.var 4) (.bin .mul (.var 4) (.bin .add (.var 2) (.cst (.int 1))))) .nil)
noncomputable def Xcu:Df:=⟨2,5,.cons (.ite (.cmp .gt (.var 1) (.var 0)) (.cons (.ret (.cst (.int 0))) .nil) .nil) (.cons (.asg (.tup [3,4]) (.tup (.cons (.cst (.int 1)) (.cons (.cst (.int 1)) .nil)))) (.cons (.for (.var 2) (.rng (.cons (.var 1) .nil)) lwB) (.cons (.ret (.bin .fdiv (.var 3) (.var 4))) .nil)))⟩
theorem X2i(h1:Yl t (n-i)=true)(h2:Yl b (i+1)=true):exes F G lwB [some (.int n),some (.int m),some (.int i),some (.int t),some (.int b)] S=.ok (.nx [some (.int n),some (.int m),some (.int i),some (.int (t*(n-i))),some (.int (b*(i+1)))]) S:=by
 have s1:=Xai (i:=3) (F:=F) (G:=G) (e:=.bin .mul (.var 3) (.bin .sub (.var 0) (.var 2))) (env:=[some (.int n),some (.int m),some (.int i),some (.int t),some (.int b)]) (S:=S) (d:=.int (t*(n-i))) (S':=S) (by
  simp only[ev,gZ0,gS0,Rk0,Xau,Xav h1])
 have s2:=Xai (i:=4) (F:=F) (G:=G) (e:=.bin .mul (.var 4) (.bin .add (.var 2) (.cst (.int 1)))) (env:=[some (.int n),some (.int m),some (.int i),some (.int (t*(n-i))),some (.int b)]) (S:=S) (d:=.int (b*(i+1))) (S':=S) (by
  simp only[ev,gZ0,gS0,Rk0,Yd,Xav h2])
 unfold lwB;exact(Xd s1).trans ((Xd s2).trans (by simp only[exes,List.set]))
theorem X2j(h0:decide (n<m)=false)(h1:exe F G (.for (.var 2) (.rng (.cons (.var 1) .nil)) lwB) [some (.int n),some (.int m),none,some (.int 1),some (.int 1)] S=.ok (.nx e') S)(h3:e'[3]?=some (some (.int t)))(h4:e'[4]?=some (some (.int b)))(hd:Xae b=true)(hr:t/b=r):den F G Xcu [.int n,.int m] S=.ok (.int r) S:=by
 simp only[den,Xcu,List.length,if_true,List.map,List.replicate,List.cons_append,List.nil_append];rw[Xd (e:=[some (.int n),some (.int m),none,none,none]) (S1:=S) (Xa4 (by
  simp only[ev,List.cons_append,List.nil_append,gZ0,gS0,Rk0,Xo,Yg,h0]))]
 rw[Xd (e:=[some (.int n),some (.int m),none,some (.int 1),some (.int 1)]) (S1:=S) (by
  simp only[exe,ev,evs,Rk0];rfl)]
 rw[Xd h1];rw[X7 (d:=.int r) (S1:=S) (by simp only[exe,ev,h3,h4,Rk0,Xb0 hd,hr])]
theorem Xyh(h0:decide (n<m)=true):den F G Xcu [.int n,.int m] S=.ok (.int 0) S:=by
 simp only[den,Xcu,List.length,if_true,List.map,List.replicate,List.cons_append,List.nil_append];rw[X7 (d:=.int 0) (S1:=S) (Xyg (by
  simp only[ev,List.cons_append,List.nil_append,gZ0,gS0,Rk0,Xo,Yg,h0]))]
theorem Xyi(h:i<=12):Xae (fac i:Int)=true:=by
 have:∀ j:Fin 13,Xae (fac j.val:Int)=true:=by decide+kernel
 exact this ⟨i,by omega⟩
theorem Xyj(h:i<12):Yl (fac i:Int) ((i:Int)+1)=true:=Xb1 (by omega) (by omega)
theorem Xyk{n i:Nat}(hn:n<2^300)(hi:i<=n):((n:Int)-i).natAbs.log2<100000:=by
 have e:((n:Int)-i).natAbs=n-i:=by omega
 rw[e];exact Xrp (Nat.lt_of_le_of_lt (Nat.sub_le n i) (Nat.lt_of_lt_of_le hn (Nat.pow_le_pow_right (by decide) (by decide)))) (by decide)
theorem Xyl{n m i:Nat}(hn:n<2^300)(hi:i<12)(hin:i<=n):exes F G lwB [some (.int n),some (.int m),some (.int i),some (.int ((C n i*fac i:Nat):Int)),some (.int (fac i))] S=.ok (.nx [some (.int n),some (.int m),some (.int i),some (.int ((C n (i+1)*fac (i+1):Nat):Int)),some (.int (fac (i+1)))]) S:=by
 have h:=X2i (F:=F) (G:=G) (n:=n) (m:=m) (t:=((C n i*fac i:Nat):Int)) (b:=(fac i:Int)) (i:=i) (S:=S) (Xxm (Xt9 hn (Nat.le_of_lt hi)) (Xyk hn hin)) (Xyj hi);rw[Xro n i hin] at h;have e:(fac i:Int)*((i:Int)+1)=(fac (i+1):Int):=by simp only[fac];rw[Int.natCast_mul];rfl
 rw[e] at h;exact h
theorem Xrq{n m:Nat}(hn:n<2^300)(hm:m<=12):den F G Xcu [.int n,.int m] S=.ok (.int (C n m)) S:=by
 by_cases h:n<m
 ·rw[Xd2 n m h]
  exact Xyh (decide_eq_true (by omega))
 ·obtain⟨xs,hx,hl⟩:=Yx (m:=(m:Int)) (by omega) (Xh1 (by omega))
  have hl':xs.length=m:=by omega
  obtain⟨e',S',h1,rfl,x,rfl⟩:=Xcj (F:=F) (G:=G) (t:=.var 2) (es:=.cons (.var 1) .nil) (b:=lwB) (env:=[some (.int n),some (.int m),none,some (.int 1),some (.int 1)]) (S:=S) (S1:=S) (ds:=[.int m]) (xs:=xs)
   (fun i e S'=>S'=S/\∃ x,e=[some (.int n),some (.int m),x,some (.int ((C n i*fac i:Nat):Int)),some (.int (fac i))]) (by simp only[evs,ev,gZ0,gS0,Rk0]) hx ⟨rfl,none,by rw[Xcr];rfl⟩ (fun i d e S' hd hP=>by
    obtain⟨rfl,x,rfl⟩:=hP;obtain⟨rfl,hi⟩:=Xaf hx hd;exact⟨_,_,S',rfl,Xyl hn (by omega) (by omega),rfl,_,rfl⟩)
  rw[hl'] at h1;refine X2j (decide_eq_false (by omega)) h1 rfl rfl (Xyi hm) ?_
  rw[Int.natCast_mul,Int.mul_ediv_cancel _ (by have:=Xmv m;omega)]
def LWaysF(F:Fn)(il:Nat):Prop:=∀ (n m:Nat) (S:Sto),n<2^300->m<=12->F il [.int n,.int m] S=.ok (.int (C n m)) S
theorem Xrr{T:List Df}{il:Nat}(h:T[il]?=some Xcu)(k:Nat):LWaysF (FT T G (k+1)) il:=fun n m S hn hm=>by
 simp only[FT,h];exact Xrq hn hm
theorem Xk6(h:wt d=true):∃ l,d=Xa l:=by
 cases d with
 | tup xs=>obtain⟨l,rfl⟩:=Xnd h;exact⟨l,rfl⟩
 | _=>cases h
variable{i1:Nat}{d e:D}{x y:Str}{g1 g2:Int}{S:Sto}
end
structure Up(g:Nat->Nat->Nat):Prop where
 mono:∀ {m n:Nat} (k:Nat),m<=n->g m k<=g n k
 step:∀ a k:Nat,g a (k+2)+g a (k+1)<=g (a+1) (k+2)
section
variable{F:Fn}{G:List D}
theorem LWaysF.ways(h:LWaysF F il):Xjq F il:=fun n m S hn hm=>h n m S (Nat.lt_of_le_of_lt hn (by decide)) hm
theorem Xng(h:Xb S q=some xs):Xh .len [.ref q] S=.ok (.int xs.length) S:=by simp only[Xh,Xn,h]
theorem Xgn(h0:ds.length=d.np)(he:ds.map some++List.replicate (d.nl-d.np) none=env)(h:exes F G d.body env S=.ok (.rt r) S'):den F G d ds S=.ok r S':=by
 subst he;unfold den;rw[if_pos h0,h]
theorem X5k{l:List Int}{i:Nat}(h:i<l.length):(l.map D.int)[i]?=some (.int (l.getD i 0)):=by
 rw[List.getElem?_map,List.getD_eq_getElem?_getD,List.getElem?_eq_getElem h];rfl
end
end Z
end
section
namespace Z
end Z
end
section
namespace Z
open PySem
section
variable{F:Fn}{G:List D}
theorem ixn{N i:Nat}{x:Int}(h:i<N)(e:x=(i:Int)):ixN N x=some i:=by
 subst e;unfold ixN;rw[if_pos (by omega),if_pos (by omega)]
 simp
end
structure Kq(p q:Nat)(S0:Sto)(l:List Int)(S:Sto):Prop where
 ex:Ext p S0 S
 pot:∃ v,Xb S p=some [.int v]
 row:Xb S q=some (l.map D.int)
section
variable{p q:Nat}{S0 S X:Sto}{l:List Int}
theorem Kq.app(h:Kq p q S0 l S):Kq p q S0 l (S++X):=⟨h.ex.trans .app,let ⟨v,e⟩:=h.pot;⟨v,Xg e⟩,Xg h.row⟩
end
section
variable{F:Fn}{G:List D}
theorem Xnh{L m:Nat}{y:Nat->D}(he:env.length=L)(hc:evs F G cnt env S=.ok [.int m] S)(hm:m<=1000)(ht:∀ a<m,ev F G elt (env++[none,some (.int a)]) S=.ok (y a) S) :
  ev F G (.cmr false 2 (.cons (.var (L+1)) (.rng cnt) .nil .nil) elt) env S=.ok (.ref S.length) (S++[.lst ((List.range m).map y)]):=by
 obtain⟨xs,hx,hxl⟩:=Yx (m:=(m:Int)) (by omega) (by omega)
 have hxl':xs.length=m:=by omega
 obtain⟨e',S',h2,rfl,_⟩:=Xbu (F:=F) (G:=G) (t:=.var (L+1)) (n:=2) (elt:=elt) (env:=env) (S:=S) (S1:=S) (src:=.con xs) xs y
  (fun k e S'=>S'=S/\∃ x,e=env++[none,x]) (Xek hc hx) rfl (Xan (by omega)) ⟨rfl,none,rfl⟩ (fun _ _ _ _=>rfl)
  (fun k dd ee S' hd hP=>by
   obtain⟨rfl,x,rfl⟩:=hP;obtain⟨rfl,hk⟩:=Xaf hx hd;exact⟨env++[none,some (.int k)],S',Xbh he x _,ht k (by omega),rfl,_,rfl⟩)
 rw[hxl'] at h2;exact h2
theorem Xk7{q i:Nat}{x:Int}{xs:List D}(h:Xb S q=some xs)(hd:xs[i]?=some d)(e:x=(i:Int)):Yt (.ref q) (.int x) S=.ok d S:=by
 have hi:=(List.getElem?_eq_some_iff.mp hd).1;simp only[Yt,Ym,Xn,h,Option.bind_some,ixn hi e,hd]
theorem X5l{q i:Nat}{x:Int}{h:List Int}(hq:Xb S q=some (h.map D.int))(hi:i<h.length)(e:x=(i:Int)):Yt (.ref q) (.int x) S=.ok (.int (h.getD i 0)) S:=Xk7 hq (X5k hi) e
theorem Xf0{L m:Nat}{y:Nat->D}(he:env.length=L)(hc:evs F G cnt env S=.ok [.int m] S)(hm:m<=1000)(ht:∀ a<m,∀ X,∃ X',ev F G elt (env++[none,some (.int a)]) (S++X)=.ok (y a) (S++X')) :
  ∃ X,ev F G (.cmr false 2 (.cons (.var (L+1)) (.rng cnt) .nil .nil) elt) env S=.ok (.ref (S++X).length) (S++X++[.lst ((List.range m).map y)]):=by
 obtain⟨xs,hx,hxl⟩:=Yx (m:=(m:Int)) (by omega) (by omega)
 have hxl':xs.length=m:=by omega
 obtain⟨e',S',h2,⟨X,rfl⟩,_⟩:=Xbu (F:=F) (G:=G) (t:=.var (L+1)) (n:=2) (elt:=elt) (env:=env) (S:=S) (S1:=S) (src:=.con xs) xs y
  (fun k e S'=>(∃ X,S'=S++X)/\∃ x,e=env++[none,x]) (Xek hc hx) rfl (Xan (by omega)) ⟨⟨[],by simp⟩,none,rfl⟩ (fun _ _ _ _=>rfl)
  (fun k dd ee S' hd hP=>by
   obtain⟨⟨X,rfl⟩,x,rfl⟩:=hP;obtain⟨rfl,hk⟩:=Xaf hx hd;obtain⟨X',q⟩:=ht k (by omega) X
   exact⟨env++[none,some (.int k)],_,Xbh he x _,q,⟨X',rfl⟩,_,rfl⟩)
 rw[hxl'] at h2;exact⟨X,h2⟩
noncomputable def hfE:Ex:=.blt .sum (.cons (.sli (.var 1) .none (.some (.bin .add (.var 7) (.cst (.int 1))))) .nil)
theorem X4e(he:env.length=6)(h1:env[1]?=some (some (.ref q)))(hq:Xb S q=some (l.map D.int)):∃ X',ev F G hfE (env++[none,some (.int a)]) (S++X)=.ok (.int (ps l (a+1))) (S++X'):=by
 have g1:(env++[none,some (D.int a)])[1]?=some (some (.ref q)):=Y9 h1;have g7:(env++[none,some (D.int a)])[7]?=some (some (.int a)):=Xbi he _;have hc:cut (l.map D.int) none (some ((a:Int)+1))=(l.take (a+1)).map D.int:=by
  have:=Xk3 (l.map D.int) (a+1);rw[List.map_take];exact this
 have hs:Xax (.ref q) none (some ((a:Int)+1)) (S++X)=.ok (.ref (S++X).length) (S++X++[.lst ((l.take (a+1)).map D.int)]):=by
  simp only[Xax,Xg hq,hc]
 have hv:Xh .sum [.ref (S++X).length] (S++X++[.lst ((l.take (a+1)).map D.int)])=.ok (.int (ps l (a+1))) (S++X++[.lst ((l.take (a+1)).map D.int)]):=Xh7 Xi;refine⟨X++[.lst ((l.take (a+1)).map D.int)],?_⟩;rw[<- List.append_assoc];simp only[hfE,ev,evs,evo,g1,g7,Rk0,Yd,Xbk,hs,hv]
noncomputable def Y6(l:List Int)(w:Nat):List Int:=(List.range (w+1)).map fun p=>ps l (min p (w-p)+1)
theorem Xk8(l:List Int)(w:Nat):(Y6 l w).length=w+1:=by simp[Y6]
noncomputable def loE:Ex:=.idx (.var 2) (.blt .min (.cons (.var 7) (.cons (.bin .sub (.var 0) (.var 7)) .nil)))
theorem X4f{l:List Int}{r w a:Nat}(he:env.length=6)(h0:env[0]?=some (some (.int w)))(h2:env[2]?=some (some (.ref r)))(hr:Xb S r=some ((List.range l.length).map fun i=>.int (ps l (i+1))))(hl:l.length=w/2+1)(ha:a<=w) :
  ev F G loE (env++[none,some (.int a)]) S=.ok (.int (ps l (min a (w-a)+1))) S:=by
 have g0:(env++[none,some (D.int a)])[0]?=some (some (.int w)):=Y9 h0;have g2:(env++[none,some (D.int a)])[2]?=some (some (.ref r)):=Y9 h2;have g7:(env++[none,some (D.int a)])[7]?=some (some (.int a)):=Xbi he _;have hm:Xh .min [.int a,.int ((w:Int)-a)] S=.ok (.int ((min a (w-a):Nat):Int)) S:=by
  show R.ok (D.int (if (w:Int)-a<a then (w:Int)-a else a)) S=_
  congr 2;split<;>omega
 have hx:Yt (.ref r) (.int ((min a (w-a):Nat):Int)) S=.ok (.int (ps l (min a (w-a)+1))) S:=Xk7 hr (by simp[show min a (w-a)<l.length by omega]) rfl
 simp only[loE,ev,evs,g0,g2,g7,Rk0,Xau,hm,hx]
noncomputable def evE:Ex:=.bin .mul (.idx (.var 3) (.var 7)) (.call 25 (.cons (.bin .sub (.var 0) (.var 7)) (.cons (.bin .sub (.var 5) (.var 7)) .nil)))
theorem X4g(hw:Xjq F 25)(he:env.length=6)(h0:env[0]?=some (some (.int w)))(h3:env[3]?=some (some (.ref r)))(h5:env[5]?=some (some (.int p)))(hr:Xb S r=some (lo.map D.int))(hl:lo.length=w+1)(h12:w<=11)(hp:p<=w)(ha:a<=p) :
  ev F G evE (env++[none,some (.int a)]) S=.ok (.int (Y1 lo p a)) S:=by
 have g0:(env++[none,some (D.int a)])[0]?=some (some (.int w)):=Y9 h0;have g3:(env++[none,some (D.int a)])[3]?=some (some (.ref r)):=Y9 h3;have g5:(env++[none,some (D.int a)])[5]?=some (some (.int p)):=Y9 h5;have g7:(env++[none,some (D.int a)])[7]?=some (some (.int a)):=Xbi he _;have e1:(w:Int)-a=((w-a:Nat):Int):=by omega
 have e2:(p:Int)-a=((p-a:Nat):Int):=by omega
 have hc:=hw (w-a) (p-a) S (by omega) (by omega)
 have hb:C (w-a) (p-a)<=4096:=Xm9 (by omega)
 have m1:Yl (lo.getD a 0) (C (w-a) (p-a):Int)=true:=Xb1 (by omega) (by omega)
 have hx:Yt (.ref r) (.int a) S=.ok (.int (lo.getD a 0)) S:=X5l hr (by omega) rfl
 have hv:lo.getD a 0*(C (w-a) (p-a):Int)=Y1 lo p a:=by unfold Y1;rw[show lo.length-1-a=w-a by omega]
 simp only[evE,ev,evs,g0,g3,g5,g7,Rk0,hx,Xau,e1,e2,hc,Xav m1,hv]
noncomputable def erB:Sts:=.cons (.expr (.mth .append (.var 4) (.cons (.blt .sum (.cons (.cmr false 2 (.cons (.var 7) (.rng (.cons (.bin .add (.var 5) (.cst (.int 1))) .nil)) .nil .nil) evE) .nil)) .nil))) .nil
theorem Xym(hi:env[i]?=some (some (.ref P.length)))(hl:xs.length<1000)(he:ev F G e env (P++[.lst xs]++Y)=.ok y (P++[.lst xs]++Y')) :
  exe F G (.expr (.mth .append (.var i) (.cons e .nil))) env (P++[.lst xs]++Y)=.ok (.nx env) (P++[.lst (xs++[y])]++Y'):=by
 have hq:∀ Y:Sto,Xb (P++[O.lst xs]++Y) P.length=some xs:=fun Y=>Xg Xi
 have hm:lstM (P++[O.lst xs]++Y') P.length=some xs:=hq Y';have hb:xs.length<big:=Nat.lt_of_lt_of_le hl (by decide)
 have hr:Xag .append (.ref P.length) (P++[O.lst xs]++Y)=true:=by simp only[Xag,hq,Option.isSome_some]
 have hs:(P++[O.lst xs]++Y').set P.length (.lst (xs++[y]))=P++[.lst (xs++[y])]++Y':=by
  rw[List.append_assoc,List.set_append_right _ _ (Nat.le_refl _),Nat.sub_self,List.singleton_append,List.set_cons_zero,List.append_assoc];rfl
 have ha:Yj .append (.ref P.length) [y] (P++[O.lst xs]++Y')=.ok .non (P++[.lst (xs++[y])]++Y'):=by
  simp only[Yj,hm,hb,if_true,hs]
 simp only[exe,ev,evs,hi,Rk0,hr,if_true,he,ha]
theorem X2k{lo:List Int}{r w p:Nat}{a1 a2:Option D}{xs:List D}(hw:Xjq F 25)(hr:Xb P r=some (lo.map D.int))(hl:lo.length=w+1)(h12:w<=11)(hp:p<=w)(hx:xs.length<=100) :
  ∃ Y',exes F G erB [some (.int w),a1,a2,some (.ref r),some (.ref P.length),some (.int p)] (P++[.lst xs]++Y)=.ok (.nx [some (.int w),a1,a2,some (.ref r),some (.ref P.length),some (.int p)]) (P++[.lst (xs++[.int (tG 1 lo p)])]++Y'):=by
 have c1:=Xnh (F:=F) (G:=G) (env:=[some (.int w),a1,a2,some (.ref r),some (.ref P.length),some (.int p)]) (L:=6) (m:=p+1) (cnt:=.cons (.bin .add (.var 5) (.cst (.int 1))) .nil) (elt:=evE) (y:=fun a=>.int (Y1 lo p a)) (S:=P++[.lst xs]++Y) rfl (by
  simp only[evs,ev,gZ0,gS0,Rk0,Yd];rfl) (by omega) (fun a ha=>X4g hw rfl rfl rfl rfl (Xg (Xg hr)) hl h12 hp (by omega))
 have hm:((List.range (p+1)).map fun a=>D.int (Y1 lo p a))=((List.range (p+1)).map (Y1 lo p)).map D.int:=by simp[Function.comp_def]
 rw[hm] at c1;have hs:Xh .sum [.ref (P++[O.lst xs]++Y).length] (P++[.lst xs]++Y++[.lst (((List.range (p+1)).map (Y1 lo p)).map D.int)])=.ok (.int (tG 1 lo p)) (P++[.lst xs]++Y++[.lst (((List.range (p+1)).map (Y1 lo p)).map D.int)]):=by
  rw[<- Xk1 lo p];exact Xh7 Xi
 refine⟨Y++[.lst (((List.range (p+1)).map (Y1 lo p)).map D.int)],?_⟩;have s:=Xym (F:=F) (G:=G) (P:=P) (xs:=xs) (y:=.int (tG 1 lo p)) (e:=.blt .sum (.cons (.cmr false 2 (.cons (.var 7) (.rng (.cons (.bin .add (.var 5) (.cst (.int 1))) .nil)) .nil .nil) evE) .nil)) (env:=[some (.int w),a1,a2,some (.ref r),some (.ref P.length),some (.int p)]) (Y:=Y) (Y':=Y++[.lst (((List.range (p+1)).map (Y1 lo p)).map D.int)]) (i:=4) rfl (by omega) (by
  rw[<- List.append_assoc,ev,evs,c1,Rk0,evs,Rk0,Rk0];exact hs)
 unfold erB;exact(Xd s).trans (by simp only[exes])
noncomputable def Xov:Df:=⟨2,6,.cons (.asg (.var 2) (.cmr false 2 (.cons (.var 7) (.rng (.cons (.blt .len (.cons (.var 1) .nil)) .nil)) .nil .nil) hfE)) (.cons (.asg (.var 3) (.cmr false 2 (.cons (.var 7) (.rng (.cons (.bin .add (.var 0) (.cst (.int 1))) .nil)) .nil .nil) loE))
 (.cons (.asg (.var 4) (.lst .nil)) (.cons (.for (.var 5) (.rng (.cons (.bin .add (.var 0) (.cst (.int 1))) .nil)) erB) (.cons (.ret (.blt .tuple (.cons (.var 4) .nil))) .nil))))⟩
theorem Xua(hF:Xjq F 25){l:List Int}{w q:Nat}(hq:Xb S q=some (l.map D.int))(hl:l.length=w/2+1)(hw:w<=11):∃ X,den F G Xov [.int w,.ref q] S=.ok (Xa (tT 1 (Y6 l w))) (S++X):=by
 have hn:Xh .len [.ref q] S=.ok (.int l.length) S:=by rw[Xng hq,List.length_map]
 obtain⟨X1,e1⟩:=Xf0 (F:=F) (G:=G) (env:=[some (.int w),some (.ref q),none,none,none,none]) (L:=6) (m:=l.length) (cnt:=.cons (.blt .len (.cons (.var 1) .nil)) .nil) (elt:=hfE) (y:=fun a=>.int (ps l (a+1))) (S:=S) rfl (by
  simp only[evs,ev,gZ0,gS0,Rk0,hn]) (by omega) (fun a ha X=>X4e rfl rfl hq)
 have s1:=Xai (i:=2) e1;obtain⟨S1,hS1⟩:∃ S1,S1=S++X1:=⟨_,rfl⟩;rw[<- hS1] at s1;have e2:=Xnh (F:=F) (G:=G) (env:=[some (.int w),some (.ref q),some (.ref S1.length),none,none,none]) (L:=6) (m:=w+1) (cnt:=.cons (.bin .add (.var 0) (.cst (.int 1))) .nil) (elt:=loE) (y:=fun a=>.int (ps l (min a (w-a)+1))) (S:=S1++[.lst ((List.range l.length).map fun a=>.int (ps l (a+1)))]) rfl (by
  simp only[evs,ev,gZ0,Rk0,Yd];rfl) (by omega) (fun a ha=>X4f rfl rfl rfl Xi hl (by omega))
 have hm:((List.range (w+1)).map fun a=>D.int (ps l (min a (w-a)+1)))=(Y6 l w).map D.int:=by simp[Y6,Function.comp_def]
 rw[hm] at e2;have s2:=Xai (i:=3) e2;obtain⟨S2,hS2⟩:∃ S2,S2=S1++[O.lst ((List.range l.length).map fun a=>.int (ps l (a+1)))]:=⟨_,rfl⟩
 rw[<- hS2] at s1 s2;have r3:Xb (S2++[O.lst ((Y6 l w).map D.int)]) S2.length=some ((Y6 l w).map D.int):=Xi;obtain⟨S3,hS3⟩:∃ S3,S3=S2++[O.lst ((Y6 l w).map D.int)]:=⟨_,rfl⟩;rw[<- hS3] at s2 r3;have s3:=Xai (i:=4) (F:=F) (G:=G) (e:=.lst .nil) (env:=[some (.int w),some (.ref q),some (.ref S1.length),some (.ref S2.length),none,none]) (S:=S3) (d:=.ref S3.length) (S':=S3++[.lst []]) (by
  simp only[ev,evs,Rk0];exact if_pos (Xan (by simp)))
 obtain⟨xs,hx,hxl⟩:=Yx (m:=(w:Int)+1) (by omega) (by omega)
 obtain⟨e',S',f4,⟨x5,rfl⟩,Y,rfl⟩:=Xcj (F:=F) (G:=G) (t:=.var 5) (b:=erB) (xs:=xs) (es:=.cons (.bin .add (.var 0) (.cst (.int 1))) .nil) (env:=[some (.int w),some (.ref q),some (.ref S1.length),some (.ref S2.length),some (.ref S3.length),none]) (S:=S3++[.lst []]) (S1:=S3++[.lst []]) (ds:=[.int ((w:Int)+1)])
  (fun i e S'=>(∃ x5,e=[some (.int w),some (.ref q),some (.ref S1.length),some (.ref S2.length),some (.ref S3.length),x5])/\∃ Y,S'=S3++[.lst (((List.range i).map (tG 1 (Y6 l w))).map D.int)]++Y)
  (by simp only[evs,ev,gZ0,Rk0,Yd]) hx ⟨⟨none,rfl⟩,[],by simp⟩ (fun i d e S' hd hP=>by
   obtain⟨⟨x5,rfl⟩,Y,rfl⟩:=hP;obtain⟨rfl,hi⟩:=Xaf hx hd;obtain⟨Y',q'⟩:=X2k (F:=F) (G:=G) (lo:=Y6 l w) (w:=w) (p:=i) (r:=S2.length) (a1:=some (.ref q)) (a2:=some (.ref S1.length)) (P:=S3) (Y:=Y) (xs:=((List.range i).map (tG 1 (Y6 l w))).map D.int) hF r3 (Xk8 l w) hw (by omega) (by simp;omega)
   refine⟨_,_,_,rfl,q',⟨_,rfl⟩,Y',?_⟩;rw[List.range_succ,List.map_append,List.map_append];rfl)
 have hn':xs.length=w+1:=by omega
 have hT:((List.range xs.length).map (tG 1 (Y6 l w))).map D.int=(tT 1 (Y6 l w)).map D.int:=by rw[hn'];unfold tT;rw[Xk8]
 rw[hT] at f4;have ht:Xh .tuple [.ref S3.length] (S3++[.lst ((tT 1 (Y6 l w)).map D.int)]++Y)=.ok (Xa (tT 1 (Y6 l w))) (S3++[.lst ((tT 1 (Y6 l w)).map D.int)]++Y):=by simp only[Xh,Xn,Xg Xi,Xa]
 refine⟨X1++[O.lst ((List.range l.length).map fun a=>.int (ps l (a+1)))]++[O.lst ((Y6 l w).map D.int)]++[.lst ((tT 1 (Y6 l w)).map D.int)]++Y,?_⟩
 have hf:S++(X1++[O.lst ((List.range l.length).map fun a=>.int (ps l (a+1)))]++[O.lst ((Y6 l w).map D.int)]++[.lst ((tT 1 (Y6 l w)).map D.int)]++Y)=S3++[.lst ((tT 1 (Y6 l w)).map D.int)]++Y:=by rw[hS3,hS2,hS1];simp
 rw[hf];unfold Xov;refine Xgn (env:=[some (.int w),some (.ref q),none,none,none,none]) rfl rfl ((Xd s1).trans ((Xd s2).trans ((Xd s3).trans ((Xd f4).trans (X7 ?_)))));simp only[exe,ev,evs,gZ0,gS0,Rk0,ht]
end
end Z
end
section
namespace K52
open PySem PySem.Spec PyProof.Rows L2 Z
noncomputable def top(i:Nat):Stmt:=PySem.Challenge.pw_facecounts_k52_rows_between_least_and_gr.main.body.getD i (.Pass ⟨0,0,0,0⟩)
noncomputable def gns:List Str:=["GREATEST_NUMBER","MOST_CHOSEN","GREATEST_WIDTH","LEAST_TOLD_WIDTH","GREATEST_TOLD_WIDTH","MOST_MORE_POINTS","least_row","greatest_row","all_rows"]
noncomputable def G:List D:=[.int 1000000000000,.int 12,.int 11,.int 2,.int 7,.int 4,.fn 17 "least_row",.fn 18 "greatest_row",.fn 19 "all_rows"]
noncomputable def fns:List (Str×Nat×Bool):=([("is_whole",1,true),("is_whole_within",3,true),("is_whole_tuple",1,true),("writing",2,true),("bags_above",2,true),("check_written",2,true),("ways",2,true),("most_things",2,true),("written_parts",2,true),("is_row",1,true),("turned_back",1,true),("by_steps",2,true),("check_row",1,true),("check_half",2,true),("half_size",1,true),("parts_at",2,true),("mirrored",2,true),("least_row",2,true),("greatest_row",2,true),("all_rows",2,true)]:List (Str×Nat×Bool))++([("first_steps",2,true),("_law_cell_at",2,true),("_law_pot",1,true),("_law_take",2,true),("_law_word",1,false),("_law_ways",2,true),("_law_writing",2,true),("_law_next_by",3,true),("_law_even_row",2,true),("_law_said",3,true),("_law_all_steps",2,true),("law",1,true)]:List (Str×Nat×Bool))
noncomputable def Xow:Sts:=(.cons (.ret (.and (.isi (.var 0) [.int]) (.not (.isi (.var 0) [.bool]))))
  .nil)
noncomputable def Xgo:Df:=⟨1,1,Xow⟩
noncomputable def Xox:List Str:=["thing"]
noncomputable def Xe4:Sts:=(.cons (.ret (.and (.call 0 (.cons (.var 0) .nil)) (.chn .le .le (.var 1) (.var 0) (.var 2))))
  .nil)
noncomputable def Xca:Df:=⟨3,3,Xe4⟩
noncomputable def Xe5:List Str:=["thing","low","high"]
noncomputable def Xf1:Sts:=(.cons (.ret (.and (.isi (.var 0) [.tuple]) (.blt .all (.cons (.cmr false 2 (.cons (.var 2) (.val (.var 0)) .nil .nil) (.call 0 (.cons (.var 2) .nil))) .nil))))
  .nil)
noncomputable def Xcv:Df:=⟨1,1,Xf1⟩
noncomputable def Xf2:List Str:=["thing"]
noncomputable def Xrs:Sts:=(.cons (.expr (.call 5 (.cons (.var 0) (.cons (.var 1) .nil))))
  (.cons (.asg (.var 2) (.lst .nil))
  (.cons (.asg (.var 3) (.var 0))
  (.cons (.for (.var 4) (.rng (.cons (.var 1) (.cons (.cst (.int 0)) (.cons (.neg (.cst (.int 1))) .nil)))) (.cons (.ite (.cmp .eq (.var 3) (.cst (.int 0))) (.cons .brk
  .nil) .nil)
  (.cons (.asg (.var 5) (.call 7 (.cons (.var 3) (.cons (.var 4) .nil))))
  (.cons (.expr (.mth .append (.var 2) (.cons (.var 5) .nil)))
  (.cons (.aug 3 .sub (.call 6 (.cons (.var 5) (.cons (.var 4) .nil))))
  .nil)))))
  (.cons (.ret (.blt .tuple (.cons (.var 2) .nil)))
  .nil)))))
noncomputable def Xi3:Df:=⟨2,6,Xrs⟩
noncomputable def Xrt:List Str:=["number","size","told","rest","chosen","things"]
noncomputable def Xk9:Sts:=(.cons (.ret (.blt .sum (.cons (.cmr false 3 (.cons (.tup [3,4]) (.val (.call 8 (.cons (.var 0) (.cons (.var 1) .nil)))) .nil .nil) (.call 6 (.cons (.bin .add (.var 3) (.cst (.int 1))) (.cons (.bin .add (.var 4) (.cst (.int 1))) .nil)))) .nil)))
  .nil)
noncomputable def Xen:Df:=⟨2,2,Xk9⟩
noncomputable def Xla:List Str:=["number","size"]
noncomputable def Xgp:Sts:=(.cons (.ite (.not (.call 1 (.cons (.var 0) (.cons (.cst (.int 0)) (.cons (.glb 0) .nil))))) (.cons (.rse 8 (.cst (.str "a number from 0 to 10 ** 12 is due")))
  .nil) .nil)
  (.cons (.ite (.not (.call 1 (.cons (.var 1) (.cons (.cst (.int 1)) (.cons (.glb 1) .nil))))) (.cons (.rse 8 (.cst (.str "a size from 1 to 12 is due")))
  .nil) .nil)
  .nil))
noncomputable def Xc7:Df:=⟨2,2,Xgp⟩
noncomputable def Xgq:List Str:=["number","size"]
noncomputable def X2l:Sts:=(.cons (.asg (.var 2) (.cst (.int 1)))
  (.cons (.for (.var 3) (.rng (.cons (.var 1) .nil)) (.cons (.asg (.var 2) (.bin .fdiv (.bin .mul (.var 2) (.bin .sub (.var 0) (.var 3))) (.bin .add (.var 3) (.cst (.int 1)))))
  .nil))
  (.cons (.ret (.var 2))
  .nil)))
noncomputable def Xru:Df:=⟨2,4,X2l⟩
noncomputable def X2m:List Str:=["things","number","told","at"]
noncomputable def Xi7:Sts:=(.cons (.asg (.var 2) (.var 1))
  (.cons (.asg (.var 3) (.bin .add (.var 1) (.var 0)))
  (.cons (.whl (.cmp .gt (.bin .sub (.var 3) (.var 2)) (.cst (.int 1))) (.cons (.asg (.var 4) (.bin .fdiv (.bin .add (.var 2) (.var 3)) (.cst (.int 2))))
  (.cons (.ite (.cmp .le (.call 6 (.cons (.var 4) (.cons (.var 1) .nil))) (.var 0)) (.cons (.asg (.var 2) (.var 4))
  .nil) (.cons (.asg (.var 3) (.var 4))
  .nil))
  .nil)))
  (.cons (.ret (.var 2))
  .nil))))
noncomputable def Xd7:Df:=⟨2,5,Xi7⟩
noncomputable def Xi8:List Str:=["number","chosen","low","high","middle"]
noncomputable def Xgr:Sts:=(.cons (.ret (.cmr false 3 (.cons (.tup [3,4]) (.enm (.cons (.call 3 (.cons (.var 0) (.cons (.var 1) .nil))) .nil)) .nil .nil) (.tup (.cons (.var 4) (.cons (.bin .sub (.var 1) (.var 3)) .nil)))))
  .nil)
noncomputable def Xc8:Df:=⟨2,2,Xgr⟩
noncomputable def Xgs:List Str:=["number","size"]
noncomputable def Xub:Sts:=(.cons (.ret (.and (.call 2 (.cons (.var 0) .nil)) (.chn .le .le (.cst (.int 1)) (.blt .len (.cons (.var 0) .nil)) (.bin .add (.glb 2) (.cst (.int 1))))))
  .nil)
noncomputable def Xlb:Df:=⟨1,1,Xub⟩
noncomputable def Xuc:List Str:=["thing"]
noncomputable def Xi9:Sts:=(.cons (.expr (.call 12 (.cons (.var 0) .nil)))
  (.cons (.ret (.blt .tuple (.cons (.cmr false 2 (.cons (.var 2) (.rng (.cons (.blt .len (.cons (.var 0) .nil)) .nil)) .nil .nil) (.blt .sum (.cons (.call 15 (.cons (.var 0) (.cons (.var 2) .nil))) .nil))) .nil)))
  .nil))
noncomputable def Xd8:Df:=⟨1,1,Xi9⟩
noncomputable def Xja:List Str:=["row"]
noncomputable def Xoy:Sts:=(.cons (.expr (.call 13 (.cons (.var 0) (.cons (.var 1) .nil))))
  (.cons (.asg (.var 2) (.lst .nil))
  (.cons (.asg (.var 3) (.cst (.int 0)))
  (.cons (.for (.var 4) (.val (.var 1)) (.cons (.aug 3 .add (.var 4))
  (.cons (.expr (.mth .append (.var 2) (.cons (.var 3) .nil)))
  .nil)))
  (.cons (.ret (.call 10 (.cons (.call 16 (.cons (.var 0) (.cons (.blt .tuple (.cons (.var 2) .nil)) .nil))) .nil)))
  .nil)))))
noncomputable def Xgt:Df:=⟨2,5,Xoy⟩
noncomputable def Xoz:List Str:=["width","numbers","half","reached","number"]
noncomputable def Xlq:Sts:=(.cons (.ite (.not (.call 9 (.cons (.var 0) .nil))) (.cons (.rse 7 (.cst (.str "a row is due")))
  .nil) .nil)
  .nil)
noncomputable def Xfc:Df:=⟨1,1,Xlq⟩
noncomputable def Xlr:List Str:=["thing"]
noncomputable def Xlc:Sts:=(.cons (.ite (.not (.call 1 (.cons (.var 0) (.cons (.cst (.int 0)) (.cons (.glb 2) .nil))))) (.cons (.rse 8 (.cst (.str "a width from 0 to 11 is due")))
  .nil) .nil)
  (.cons (.ite (.or (.not (.call 2 (.cons (.var 1) .nil))) (.cmp .ne (.blt .len (.cons (.var 1) .nil)) (.call 14 (.cons (.var 0) .nil)))) (.cons (.rse 7 (.cst (.str "a tuple of one more whole numbers than half of the width is due")))
  .nil) .nil)
  .nil))
noncomputable def Xeo:Df:=⟨2,2,Xlc⟩
noncomputable def Xld:List Str:=["width","numbers"]
noncomputable def Xls:Sts:=(.cons (.ret (.bin .add (.bin .fdiv (.var 0) (.cst (.int 2))) (.cst (.int 1))))
  .nil)
noncomputable def Xfd:Df:=⟨1,1,Xls⟩
noncomputable def Xlt:List Str:=["width"]
noncomputable def Xo0:Sts:=(.cons (.asg (.var 2) (.bin .sub (.blt .len (.cons (.var 0) .nil)) (.cst (.int 1))))
  (.cons (.ret (.cmr false 2 (.cons (.var 4) (.rng (.cons (.bin .add (.var 1) (.cst (.int 1))) .nil)) .nil .nil) (.bin .mul (.idx (.var 0) (.var 4)) (.call 6 (.cons (.bin .sub (.var 2) (.var 4)) (.cons (.bin .sub (.var 1) (.var 4)) .nil))))))
  .nil))
noncomputable def Xgu:Df:=⟨2,3,Xo0⟩
noncomputable def Xo1:List Str:=["row","place","width"]
noncomputable def Xo2:Sts:=(.cons (.ret (.bin .add (.var 1) (.rev (.sli (.var 1) .none (.some (.bin .sub (.bin .add (.var 0) (.cst (.int 1))) (.blt .len (.cons (.var 1) .nil))))))))
  .nil)
noncomputable def Xgv:Df:=⟨2,2,Xo2⟩
noncomputable def Xo3:List Str:=["width","half"]
noncomputable def Xfe:Sts:=(.cons (.asg (.var 2) (.call 20 (.cons (.var 0) (.cons (.var 1) .nil))))
  (.cons (.ret (.call 11 (.cons (.var 0) (.cons (.bin .add (.var 2) (.bin .mul (.tup (.cons (.cst (.int 0)) .nil)) (.bin .sub (.call 14 (.cons (.var 0) .nil)) (.blt .len (.cons (.var 2) .nil))))) .nil))))
  .nil))
noncomputable def Xb5:Df:=⟨2,3,Xfe⟩
noncomputable def Xlu:List Str:=["width","points","told"]
noncomputable def Xdn:Sts:=(.cons (.asg (.var 2) (.call 20 (.cons (.var 0) (.cons (.var 1) .nil))))
  (.cons (.for (.var 3) (.rng (.cons (.cst (.int 1)) (.cons (.bin .sub (.call 14 (.cons (.var 0) .nil)) (.cst (.int 1))) .nil))) (.cons (.asg (.var 2) (.bin .add (.var 2) (.tup (.cons (.call 4 (.cons (.idx (.var 2) (.var 3)) (.cons (.var 3) .nil))) .nil))))
  .nil))
  (.cons (.ret (.call 11 (.cons (.var 0) (.cons (.var 2) .nil))))
  .nil)))
noncomputable def Xa5:Df:=⟨2,4,Xdn⟩
noncomputable def Xh8:List Str:=["width","points","told","size"]
noncomputable def Xgw:Sts:=(.cons (.asg (.var 2) (.lst (.cons (.call 20 (.cons (.var 0) (.cons (.var 1) .nil))) .nil)))
  (.cons (.for (.var 3) (.rng (.cons (.cst (.int 1)) (.cons (.bin .sub (.call 14 (.cons (.var 0) .nil)) (.cst (.int 1))) .nil))) (.cons (.asg (.var 2) (.cmr false 3 (.cons (.var 5) (.val (.var 2)) .nil (.cons (.var 6) (.rng (.cons (.bin .add (.call 4 (.cons (.idx (.var 5) (.var 3)) (.cons (.var 3) .nil))) (.cst (.int 1))) .nil)) .nil .nil)) (.bin .add (.var 5) (.tup (.cons (.var 6) .nil)))))
  .nil))
  (.cons (.ret (.blt .srt (.cons (.cmr false 2 (.cons (.var 5) (.val (.var 2)) .nil .nil) (.call 11 (.cons (.var 0) (.cons (.var 5) .nil)))) .nil)))
  .nil)))
noncomputable def Xa6:Df:=⟨2,4,Xgw⟩
noncomputable def Xo4:List Str:=["width","points","some","size"]
noncomputable def Xjb:Sts:=(.cons (.ite (.not (.call 1 (.cons (.var 0) (.cons (.glb 3) (.cons (.glb 4) .nil))))) (.cons (.rse 8 (.cst (.str "a width from 2 to 7 is due")))
  .nil) .nil)
  (.cons (.ite (.not (.call 1 (.cons (.var 1) (.cons (.bin .add (.var 0) (.cst (.int 1))) (.cons (.bin .add (.var 0) (.glb 5)) .nil))))) (.cons (.rse 8 (.cst (.str "a number of points from one to four more than the width is due")))
  .nil) .nil)
  (.cons (.ret (.tup (.cons (.cst (.int 1)) (.cons (.bin .sub (.bin .sub (.var 1) (.var 0)) (.cst (.int 1))) .nil))))
  .nil)))
noncomputable def Xa9:Df:=⟨2,2,Xjb⟩
noncomputable def Xjc:List Str:=["width","points"]
noncomputable def Xh9:Sts:=(.cons (.ite (.cmp .lt (.var 1) (.blt .len (.cons (.var 0) .nil))) (.cons (.ret (.idx (.var 0) (.var 1)))
  .nil) .nil)
  (.cons (.ret (.cst (.int 0)))
  .nil))
noncomputable def Xdo:Df:=⟨2,2,Xh9⟩
noncomputable def Xia:List Str:=["_law_script","_law_k"]
noncomputable def Xo5:Sts:=(.cons (.ite (.cmp .ge (.var 0) (.bin .pow (.cst (.int 10)) (.cst (.int 18)))) (.cons (.ret (.lst (.cons (.bin .sub (.var 0) (.bin .pow (.cst (.int 10)) (.cst (.int 18)))) .nil)))
  .nil) .nil)
  (.cons (.asg (.var 1) (.cst (.int 0)))
  (.cons (.for (.var 2) (.rng (.cons (.cst (.int 64)) .nil)) (.cons (.asg (.var 3) (.bin .mod (.bin .mul (.bin .add (.bin .add (.bin .mod (.var 0) (.cst (.int 2147483629))) (.bin .mul (.cst (.int 7919)) (.var 2))) (.cst (.int 1))) (.cst (.int 48271))) (.cst (.int 2147483647))))
  (.cons (.asg (.var 3) (.bin .mod (.bin .add (.bin .add (.bin .mul (.var 3) (.var 3)) (.bin .mul (.cst (.int 69621)) (.var 2))) (.cst (.int 7))) (.cst (.int 2147483587))))
  (.cons (.asg (.var 1) (.bin .add (.bin .mul (.var 1) (.cst (.int 2147483587))) (.var 3)))
  .nil))))
  (.cons (.ret (.lst (.cons (.var 1) .nil)))
  .nil))))
noncomputable def Xgx:Df:=⟨1,4,Xo5⟩
noncomputable def Xo6:List Str:=["_law_cell","_law_number","_law_j","_law_more"]
noncomputable def Xlv:Sts:=(.cons (.asg (.var 2) (.bin .mod (.idx (.var 0) (.cst (.int 0))) (.var 1)))
  (.cons (.aset (.var 0) (.cst (.int 0)) (.bin .fdiv (.idx (.var 0) (.cst (.int 0))) (.var 1)))
  (.cons (.ret (.var 2))
  .nil)))
noncomputable def Xff:Df:=⟨2,3,Xlv⟩
noncomputable def Xlw:List Str:=["_law_pot_here","_law_far","_law_found"]
noncomputable def Xlx:Sts:=(.cons (.asg (.var 1) (.lst (.cons (.isi (.var 0) [.cls 1]) (.cons (.isi (.var 0) [.cls 2]) (.cons (.isi (.var 0) [.cls 3]) (.cons (.isi (.var 0) [.cls 4]) .nil))))))
  (.cons (.asg (.var 1) (.bin .add (.var 1) (.lst (.cons (.isi (.var 0) [.cls 5]) (.cons (.isi (.var 0) [.cls 6]) (.cons (.isi (.var 0) [.cls 7]) (.cons (.isi (.var 0) [.cls 8]) .nil)))))))
  (.cons (.asg (.var 1) (.bin .add (.var 1) (.lst (.cons (.isi (.var 0) [.cls 9]) (.cons (.isi (.var 0) [.cls 10]) (.cons (.isi (.var 0) [.cls 11]) (.cons (.isi (.var 0) [.cls 12]) .nil)))))))
  (.cons (.asg (.var 1) (.bin .add (.var 1) (.lst (.cons (.isi (.var 0) [.cls 13]) (.cons (.isi (.var 0) [.cls 14]) (.cons (.isi (.var 0) [.cls 15]) (.cons (.isi (.var 0) [.cls 16]) .nil)))))))
  (.cons (.ite (.or (.cmp .ne (.mth .count (.var 1) (.cons (.cst (.bl true)) .nil)) (.cst (.int 1))) (.not (.isi (.var 0) [.valueError]))) (.cons (.ret (.cst (.str "other")))
  .nil) .nil)
  (.cons (.asg (.var 2) (.lst (.cons (.cst (.str "net")) (.cons (.cst (.str "face")) (.cons (.cst (.str "point")) (.cons (.cst (.str "apart")) (.cons (.cst (.str "many")) (.cons (.cst (.str "text")) (.cons (.cst (.str "row")) (.cons (.cst (.str "number")) (.cons (.cst (.str "level")) (.cons (.cst (.str "crowd")) (.cons (.cst (.str "way")) (.cons (.cst (.str "closed")) .nil))))))))))))))
  (.cons (.ret (.idx (.bin .add (.var 2) (.lst (.cons (.cst (.str "swap")) (.cons (.cst (.str "places")) (.cons (.cst (.str "deed")) (.cons (.cst (.str "line")) .nil)))))) (.mth .index (.var 1) (.cons (.cst (.bl true)) .nil))))
  .nil)))))))
noncomputable def Xfg:Df:=⟨1,3,Xlx⟩
noncomputable def Xly:List Str:=["_law_e","_law_some","_law_words"]
noncomputable def Xlz:Sts:=(.cons (.ite (.cmp .gt (.var 1) (.var 0)) (.cons (.ret (.cst (.int 0)))
  .nil) .nil)
  (.cons (.asg (.tup [3,4]) (.tup (.cons (.cst (.int 1)) (.cons (.cst (.int 1)) .nil))))
  (.cons (.for (.var 2) (.rng (.cons (.var 1) .nil)) (.cons (.asg (.var 3) (.bin .mul (.var 3) (.bin .sub (.var 0) (.var 2))))
  (.cons (.asg (.var 4) (.bin .mul (.var 4) (.bin .add (.var 2) (.cst (.int 1)))))
  .nil)))
  (.cons (.ret (.bin .fdiv (.var 3) (.var 4)))
  .nil))))
noncomputable def Xfh:Df:=⟨2,5,Xlz⟩
noncomputable def Xl0:List Str:=["_law_things","_law_number","_law_at","_law_top","_law_bottom"]
noncomputable def Xib:Sts:=(.cons (.par [2,3] (.cons (.lst .nil) (.cons (.var 0) .nil)))
  (.cons (.whl (.cmp .gt (.var 3) (.cst (.int 0))) (.cons (.asg (.var 4) (.bin .sub (.var 1) (.blt .len (.cons (.var 2) .nil))))
  (.cons (.par [5,6] (.cons (.var 4) (.cons (.bin .add (.var 4) (.var 3)) .nil)))
  (.cons (.whl (.cmp .gt (.bin .sub (.var 6) (.var 5)) (.cst (.int 1))) (.cons (.asg (.var 7) (.bin .fdiv (.bin .add (.var 5) (.var 6)) (.cst (.int 2))))
  (.cons (.ite (.cmp .le (.call 25 (.cons (.var 7) (.cons (.var 4) .nil))) (.var 3)) (.cons (.asg (.var 5) (.var 7))
  .nil) (.cons (.asg (.var 6) (.var 7))
  .nil))
  .nil)))
  (.cons (.expr (.mth .append (.var 2) (.cons (.var 5) .nil)))
  (.cons (.asg (.var 3) (.bin .sub (.var 3) (.call 25 (.cons (.var 5) (.cons (.var 4) .nil)))))
  .nil))))))
  (.cons (.ret (.blt .tuple (.cons (.var 2) .nil)))
  .nil)))
noncomputable def Xdp:Df:=⟨2,8,Xib⟩
noncomputable def Xic:List Str:=["_law_number","_law_size","_law_found","_law_left","_law_at","_law_low","_law_high","_law_middle"]
noncomputable def Xid:Sts:=(.cons (.asg (.var 3) (.lenm (.call 26 (.cons (.var 1) (.cons (.var 2) .nil)))))
  (.cons (.ite (.cmp .eq (.var 0) (.cst (.int 1))) (.cons (.ret (.blt .sum (.cons (.cmr false 3 (.cons (.tup [5,6]) (.val (.var 3)) .nil .nil) (.call 25 (.cons (.var 6) (.cons (.bin .sub (.bin .sub (.var 2) (.var 5)) (.cst (.int 1))) .nil)))) .nil)))
  .nil) .nil)
  (.cons (.ret (.blt .sum (.cons (.cmr false 3 (.cons (.tup [5,6]) (.val (.var 3)) .nil .nil) (.call 25 (.cons (.bin .add (.var 6) (.blt .int (.cons (.cmp .eq (.var 0) (.cst (.int 2))) .nil))) (.cons (.bin .add (.bin .sub (.var 2) (.var 5)) (.cst (.int 1))) .nil)))) .nil)))
  .nil)))
noncomputable def Xdq:Df:=⟨3,4,Xid⟩
noncomputable def Xie:List Str:=["_law_kind","_law_number","_law_size","_law_some"]
noncomputable def Xgy:Sts:=(.cons (.asg (.var 2) (.cmr false 2 (.cons (.var 7) (.rng (.cons (.blt .len (.cons (.var 1) .nil)) .nil)) .nil .nil) (.blt .sum (.cons (.sli (.var 1) .none (.some (.bin .add (.var 7) (.cst (.int 1))))) .nil))))
  (.cons (.asg (.var 3) (.cmr false 2 (.cons (.var 7) (.rng (.cons (.bin .add (.var 0) (.cst (.int 1))) .nil)) .nil .nil) (.idx (.var 2) (.blt .min (.cons (.var 7) (.cons (.bin .sub (.var 0) (.var 7)) .nil))))))
  (.cons (.asg (.var 4) (.lst .nil))
  (.cons (.for (.var 5) (.rng (.cons (.bin .add (.var 0) (.cst (.int 1))) .nil)) (.cons (.expr (.mth .append (.var 4) (.cons (.blt .sum (.cons (.cmr false 2 (.cons (.var 7) (.rng (.cons (.bin .add (.var 5) (.cst (.int 1))) .nil)) .nil .nil) (.bin .mul (.idx (.var 3) (.var 7)) (.call 25 (.cons (.bin .sub (.var 0) (.var 7)) (.cons (.bin .sub (.var 5) (.var 7)) .nil))))) .nil)) .nil)))
  .nil))
  (.cons (.ret (.blt .tuple (.cons (.var 4) .nil)))
  .nil)))))
noncomputable def Xc9:Df:=⟨2,6,Xgy⟩
noncomputable def Xgz:List Str:=["_law_width","_law_numbers","_law_half","_law_low","_law_found","_law_place"]
noncomputable def Xl1:Sts:=(.cons (.try (.cons (.ret (.cal (.idx (.lst (.cons (.glb 6) (.cons (.glb 7) (.cons (.glb 8) .nil)))) (.var 0)) (.cons (.var 1) (.cons (.var 2) .nil))))
  .nil) 0 3 (.cons (.ret (.call 24 (.cons (.var 3) .nil)))
  .nil))
  .nil)
noncomputable def Xb6:Df:=⟨3,4,Xl1⟩
noncomputable def Xl2:List Str:=["_law_way","_law_width","_law_points","_law_e"]
noncomputable def Xf3:Sts:=(.cons (.asg (.var 2) (.lst (.cons (.tup (.cons (.cst (.int 1)) (.cons (.bin .sub (.bin .sub (.var 1) (.var 0)) (.cst (.int 1))) .nil))) .nil)))
  (.cons (.for (.var 3) (.rng (.cons (.cst (.int 2)) (.cons (.bin .add (.bin .fdiv (.var 0) (.cst (.int 2))) (.cst (.int 1))) .nil))) (.cons (.asg (.var 4) (.lst .nil))
  (.cons (.for (.var 5) (.val (.var 2)) (.cons (.expr (.mth .xtd (.var 4) (.cons (.cmr false 2 (.cons (.var 7) (.rng (.cons (.bin .add (.call 27 (.cons (.cst (.int 2)) (.cons (.idx (.var 5) (.neg (.cst (.int 1)))) (.cons (.bin .sub (.var 3) (.cst (.int 1))) .nil)))) (.cst (.int 1))) .nil)) .nil .nil) (.bin .add (.var 5) (.tup (.cons (.var 7) .nil)))) .nil)))
  .nil))
  (.cons (.asg (.var 2) (.var 4))
  .nil))))
  (.cons (.ret (.var 2))
  .nil)))
noncomputable def Xcw:Df:=⟨2,6,Xf3⟩
noncomputable def Xf4:List Str:=["_law_width","_law_points","_law_found","_law_place","_law_longer","_law_one"]
noncomputable def Xvi:Sts:=(.cons (.for (.var 1) (.rng (.cons (.blt .max (.cons (.cst (.int 1)) (.cons (.blt .min (.cons (.blt .len (.cons (.var 0) .nil)) (.cons (.cst (.int 6)) .nil))) .nil))) .nil)) (.cons (.asg (.var 2) (.call 22 (.cons (.call 21 (.cons (.var 0) (.cons (.var 1) .nil))) .nil)))
  (.cons (.asg (.tup [13,14]) (.tup (.cons (.bin .add (.cst (.int 2)) (.call 23 (.cons (.var 2) (.cons (.cst (.int 6)) .nil)))) (.cons (.bin .add (.cst (.int 1)) (.call 23 (.cons (.var 2) (.cons (.cst (.int 4)) .nil)))) .nil))))
  (.cons (.asg (.var 3) (.call 30 (.cons (.var 13) (.cons (.bin .add (.var 13) (.var 14)) .nil))))
  (.cons (.asg (.var 4) (.blt .srt (.cons (.cmr false 2 (.cons (.var 19) (.val (.var 3)) .nil .nil) (.call 28 (.cons (.var 13) (.cons (.blt .list (.cons (.var 19) .nil)) .nil)))) .nil)))
  (.cons (.asg (.var 5) (.call 28 (.cons (.var 13) (.cons (.bin .add (.lst (.cons (.cst (.int 1)) (.cons (.bin .sub (.var 14) (.cst (.int 1))) .nil))) (.bin .mul (.lst (.cons (.cst (.int 0)) .nil)) (.bin .sub (.bin .fdiv (.var 13) (.cst (.int 2))) (.cst (.int 1))))) .nil))))
  (.cons (.asg (.var 6) (.call 28 (.cons (.var 13) (.cons (.cmr false 2 (.cons (.var 19) (.rng (.cons (.bin .add (.bin .fdiv (.var 13) (.cst (.int 2))) (.cst (.int 1))) .nil)) .nil .nil) (.blt .mxl (.cons (.cmr false 2 (.cons (.var 21) (.val (.var 3)) .nil .nil) (.idx (.var 21) (.var 19))) .nil))) .nil))))
  (.cons (.for (.var 7) (.rng (.cons (.cst (.int 2)) .nil)) (.cons (.asg (.var 15) (.cmr false 2 (.cons (.var 19) (.rng (.cons (.cst (.int 3)) .nil)) .nil .nil) (.call 29 (.cons (.var 19) (.cons (.var 13) (.cons (.bin .add (.var 13) (.var 14)) .nil))))))
  (.cons (.ite (.cmp .ne (.blt .repr (.cons (.var 15) .nil)) (.blt .repr (.cons (.lst (.cons (.var 5) (.cons (.var 6) (.cons (.var 4) .nil)))) .nil))) (.cons (.ret (.cst (.bl false)))
  .nil) .nil)
  (.cons (.expr (.mth .append (.idx (.var 15) (.cst (.int 2))) (.cons (.cst (.int 0)) .nil)))
  .nil))))
  (.cons (.asg (.var 8) (.call 29 (.cons (.cst (.int 2)) (.cons (.var 13) (.cons (.bin .add (.var 13) (.var 14)) .nil)))))
  (.cons (.asg (.var 9) (.call 29 (.cons (.cst (.int 2)) (.cons (.cst (.int 3)) (.cons (.cst (.int 6)) .nil)))))
  (.cons (.ite (.or (.cmp .ne (.blt .repr (.cons (.var 8) .nil)) (.blt .repr (.cons (.var 4) .nil))) (.cmp .ne (.blt .len (.cons (.var 9) .nil)) (.cst (.int 1)))) (.cons (.ret (.cst (.bl false)))
  .nil) .nil)
  (.cons (.asg (.var 10) (.idx (.lst (.cons (.cst (.int 0)) (.cons (.cst (.int 5)) (.cons (.neg (.cst (.int 1))) (.cons (.bin .pow (.cst (.int 10)) (.cst (.int 30))) (.cons (.neg (.cst (.int 2))) (.cons (.cst (.int 6)) (.cons (.cst (.int 7)) (.cons (.neg (.cst (.int 9))) .nil))))))))) (.call 23 (.cons (.var 2) (.cons (.cst (.int 8)) .nil)))))
  (.cons (.asg (.var 11) (.idx (.lst (.cons (.cst (.bl true)) (.cons (.cst .non) (.cons (.cst (.str "3")) (.cons (.tup (.cons (.cst (.int 3)) .nil)) (.cons (.lst (.cons (.cst (.int 3)) .nil)) (.cons (.cst (.bl false)) (.cons .dct0 (.cons (.cst (.int 1)) .nil))))))))) (.call 23 (.cons (.var 2) (.cons (.cst (.int 8)) .nil)))))
  (.cons (.asg (.var 12) (.idx (.lst (.cons (.cst (.int 1)) (.cons (.cst (.int 8)) (.cons (.neg (.cst (.int 1))) (.cons (.cst (.bl true)) (.cons (.cst .non) (.cons (.cst (.str "2")) (.cons (.tup (.cons (.cst (.int 2)) .nil)) (.cons (.bin .pow (.cst (.int 10)) (.cst (.int 30))) .nil))))))))) (.call 23 (.cons (.var 2) (.cons (.cst (.int 8)) .nil)))))
  (.cons (.for (.tup [16,17]) (.val (.lst (.cons (.tup (.cons (.var 13) (.cons (.bin .add (.var 13) (.var 10)) .nil))) (.cons (.tup (.cons (.var 13) (.cons (.var 11) .nil))) (.cons (.tup (.cons (.var 12) (.cons (.cst (.int 4)) .nil))) (.cons (.tup (.cons (.var 12) (.cons (.var 11) .nil))) (.cons (.tup (.cons (.var 11) (.cons (.bin .add (.var 13) (.var 14)) .nil))) .nil))))))) (.cons (.ite (.cmp .ne (.cmr false 2 (.cons (.var 19) (.rng (.cons (.cst (.int 3)) .nil)) .nil .nil) (.call 29 (.cons (.var 19) (.cons (.var 16) (.cons (.var 17) .nil))))) (.bin .mul (.lst (.cons (.cst (.str "number")) .nil)) (.cst (.int 3)))) (.cons (.ret (.cst (.bl false)))
  .nil) .nil)
  .nil))
  .nil)))))))))))))))
  (.cons (.ret (.cst (.bl true)))
  .nil))
noncomputable def Xg0:Df:=⟨1,18,Xvi⟩
noncomputable def Xvj:List Str:=["_law_script","_law_k","_law_pot_here","_law_some","_law_rows","_law_low","_law_high","_law_lap","_law_first","_law_later","_law_off","_law_odd","_law_wide","_law_width","_law_more","_law_told","_law_one","_law_other"]
noncomputable def T:List Df:=[Xgo,Xca,Xcv,Xi3,Xen,Xc7,Xru,Xd7,Xc8,Xlb,Xd8,Xgt,Xfc,Xeo,Xfd,Xgu,Xgv,Xb5,Xa5,Xa6,Xa9,Xdo,Xgx,Xff,Xfg,Xfh,Xdp,Xdq,Xc9,Xb6,Xcw,Xg0]
abbrev MS(p:Nat)(N:List Str)(fl:Bool)(d:Df):Prop:=Z.MD fns gns (top p) N fl d
theorem Xo7:MS 19 Xox true Xgo:=by decide+kernel
theorem Xe6:MS 20 Xe5 true Xca:=by decide+kernel
theorem Xf5:MS 21 Xf2 true Xcv:=by decide+kernel
theorem Xrv:MS 25 Xrt true Xi3:=by decide+kernel
theorem Xle:MS 26 Xla true Xen:=by decide+kernel
theorem Xg1:MS 27 Xgq true Xc7:=by decide+kernel
theorem X2n:MS 28 X2m true Xru:=by decide+kernel
theorem Xjd:MS 29 Xi8 true Xd7:=by decide+kernel
theorem Xg2:MS 30 Xgs true Xc8:=by decide+kernel
theorem Xud:MS 33 Xuc true Xlb:=by decide+kernel
theorem Xje:MS 34 Xja true Xd8:=by decide+kernel
theorem Xo8:MS 35 Xoz true Xgt:=by decide+kernel
theorem Xl3:MS 36 Xlr true Xfc:=by decide+kernel
theorem Xlf:MS 37 Xld true Xeo:=by decide+kernel
theorem Xl4:MS 38 Xlt true Xfd:=by decide+kernel
theorem Xo9:MS 39 Xo1 true Xgu:=by decide+kernel
theorem Xpa:MS 40 Xo3 true Xgv:=by decide+kernel
theorem Xl5:MS 45 Xlu true Xb5:=by decide+kernel
theorem Xif:MS 46 Xh8 true Xa5:=by decide+kernel
theorem Xpb:MS 47 Xo4 true Xa6:=by decide+kernel
theorem Xjf:MS 48 Xjc true Xa9:=by decide+kernel
theorem Xig:MS 50 Xia true Xdo:=by decide+kernel
theorem Xpc:MS 51 Xo6 true Xgx:=by decide+kernel
theorem Xl6:MS 52 Xlw true Xff:=by decide+kernel
theorem Xl7:MS 53 Xly false Xfg:=by decide+kernel
theorem Xl8:MS 54 Xl0 true Xfh:=by decide+kernel
theorem Xih:MS 55 Xic true Xdp:=by decide+kernel
theorem Xii:MS 56 Xie true Xdq:=by decide+kernel
theorem Xg3:MS 57 Xgz true Xc9:=by decide+kernel
theorem Xl9:MS 58 Xl2 true Xb6:=by decide+kernel
theorem Xf6:MS 59 Xf4 true Xcw:=by decide+kernel
theorem Xpd:MS 60 Xvj true Xg0:=by decide+kernel
end K52
end
section
namespace K52
open PySem Z
theorem X4h:(T.all fun d=>clnSs d.body)=true:=by decide+kernel
theorem X4i:flts G=true:=by decide+kernel
theorem t0:T[0]?=some Xgj:=rfl
theorem t1:T[1]?=some (Xh4 0):=rfl
theorem t2:T[2]?=some (Xe1 0):=rfl
theorem t6:T[6]?=some Xjp:=rfl
theorem t9:T[9]?=some (Xk2 2 2):=rfl
theorem t10:T[10]?=some (Xoo 12 (Xop 15)):=rfl
theorem t11:T[11]?=some (Xk4 13 10 16):=rfl
theorem t12:T[12]?=some (Xt5 9):=rfl
theorem t13:T[13]?=some (Xfz 1 2 14 2):=rfl
theorem t14:T[14]?=some Xos:=rfl
theorem t15:T[15]?=some (Xgk 6):=rfl
theorem t16:T[16]?=some Xe2:=rfl
theorem t21:T[21]?=some Xjm:=rfl
theorem t22:T[22]?=some Xh3:=rfl
theorem t23:T[23]?=some Xjn:=rfl
theorem t24:T[24]?=some Xjo:=rfl
theorem t25:T[25]?=some Xcu:=rfl
theorem g2:G[2]?=some (.int 11):=rfl
theorem ftx{k f:Nat}{d:Df}{ds:List D}{S:Sto}(h:T[f]?=some d):FT T G (k+1) f ds S=den (FT T G k) G d ds S:=by simp only[FT,h]
theorem whole(k:Nat):Xel (FT T G (k+1)) 0:=Xrg t0 k
theorem Xg4(k:Nat)(d:D)(lo hi:Int)(S:Sto)(h:good S d):FT T G (k+2) 1 [d,.int lo,.int hi] S=.ok (.bl (wi d lo hi)) S:=by
 rw[ftx t1];exact Xoi (whole k d S h)
theorem X4j(k:Nat):Xvg (FT T G (k+2)) 2:=Xt3 t2 (k+1) (whole k)
theorem ways(k n m:Nat)(S:Sto)(hn:n<=12)(hm:m<=12):FT T G (k+1) 6 [.int n,.int m] S=.ok (.int (C n m)) S:=by
 rw[ftx t6];exact Xty n m S (by omega) hm
theorem Xk6(k:Nat)(l:List Int)(S:Sto)(hl:l.length<=12):∃ X,FT T G (k+2) 2 [Xa l] S=.ok (.bl true) (S++X):=by
 obtain⟨X,h⟩:=X4j k (Xa l) S (Xbg S _ (fun n z=>by cases z) (fun f m z=>by cases z)) (fun xs e=>by
  have e':l.map D.int=xs:=by injection e
  subst e';exact⟨Xrh l S,by rw[List.length_map];omega⟩)
 rw[Xx9] at h;exact⟨X,h⟩
theorem Xrw(k:Nat)(l:List Int)(S:Sto)(h1:1<=l.length)(hl:l.length<=12):∃ X,FT T G (k+4) 12 [Xa l] S=.ok .non (S++X):=by
 obtain⟨X,h⟩:=Xk6 k l S hl;have e:FT T G (k+3) 9 [Xa l] S=.ok (.bl true) (S++X):=by rw[ftx t9];exact Xt4 h (Xfx l _) g2 (by omega) (by omega)
 exact⟨X,by rw[ftx t12];exact X17 e⟩
theorem parts(k:Nat)(l:List Int)(p:Nat)(S:Sto)(h:p<l.length)(hl:l.length<=12):FT T G (k+2) 15 [Xa l,.int p] S=.ok (.ref S.length) (S++[.lst (Xcs l p)]):=by
 rw[ftx t15];exact Xrd (fun n m S hn hm=>ways k n m S hn hm) l p S h hl
theorem Xma(k:Nat)(l:List Int)(S:Sto)(h1:1<=l.length)(hl:l.length<=12):∃ X,FT T G (k+5) 10 [Xa l] S=.ok (Xa (tT 1 l)) (S++X):=by
 obtain⟨X,hc⟩:=Xrw k l S h1 hl;obtain⟨Y,h⟩:=Xt0 (F:=FT T G (k+4)) (G:=G) (ip:=15) hl hc (fun p S h=>parts (k+2) l p S h hl)
 exact⟨X++Y,by rw[ftx t10,<- List.append_assoc];exact h⟩
theorem Xrx(k:Nat)(w:Int)(S:Sto):FT T G (k+1) 14 [.int w] S=.ok (.int (w/2+1)) S:=by
 rw[ftx t14];exact Xt6 w S
theorem Xue(k w:Nat)(h:List Int)(S:Sto)(hl:h.length=w/2+1)(hw:w<=11):FT T G (k+1) 16 [.int w,Xa h] S=.ok (Xa (mir w h)) S:=by
 rw[ftx t16];exact Xot hl hw
theorem Xpe(k w:Nat)(l:List Int)(S:Sto)(hl:l.length=w/2+1)(hw:w<=11):∃ X,FT T G (k+3) 13 [.int w,Xa l] S=.ok .non (S++X):=by
 obtain⟨X,h⟩:=Xk6 k l S (by omega)
 have h1:=Xg4 k (.int w) 0 11 S (Xa1 S w);rw[Xq7 (by omega) (by omega)] at h1
 have h4:=Xrx (k+1) w (S++X);have e:(w:Int)/2+1=(l.length:Int):=by omega
 rw[e] at h4;exact⟨X,by rw[ftx t13];exact Xt7 g2 h1 h (Xfx l _) h4⟩
theorem Xyn(l:List Int)(n:Nat):(pre l n).length=n:=by simp[pre]
noncomputable def bs(w:Nat)(l:List Int):List Int:=tT 1 (mir w (pre l l.length))
theorem Xuf(k w:Nat)(l:List Int)(S:Sto)(hl:l.length=w/2+1)(hw:w<=11):∃ X,FT T G (k+6) 11 [.int w,Xa l] S=.ok (Xa (bs w l)) (S++X):=by
 obtain⟨X,hc⟩:=Xpe (k+2) w l S hl hw;have hp:(pre l l.length).length=w/2+1:=by rw[Xyn];exact hl
 obtain⟨Y,h⟩:=Xrk (F:=FT T G (k+5)) (G:=G) (ib:=10) (im:=16) hl hw hc (fun S=>Xue (k+4) w _ S hp hw) (fun S=>Xma k _ S (by rw[Xdm hp];omega) (by rw[Xdm hp];omega))
 exact⟨X++Y,by rw[ftx t11,<- List.append_assoc];exact h⟩
theorem X2o{G:List D}(hG:flts G=true)(n:Nat):∀ d∈G,sh n d=d:=fun d hd=>by
 have z:=Xfu n hG;obtain⟨i,hi,rfl⟩:=List.mem_iff_getElem.mp hd;have:=congrArg (·[i]?) z;simp[hi] at this;exact this
theorem HG(P:Sto):∀ d∈G,sh P.length d=d:=X2o X4i _
theorem HF(P:Sto)(k:Nat):∀ f ds S,FT T G k f (ds.map (sh P.length)) (shS P S)=shR P (sh P.length) (FT T G k f ds S):=fun f ds S=>Xvd X4h P (HG P) k f ds S
theorem Xlg(P:Sto):shS P []=P:=by simp[shS]
theorem Xyo{k f:Nat}{ds:List D}{d:D}(hv:Xto (FT T G k f ds [])=some d)(hd:flts ds=true)(hf:flt d=true)(P:Sto):∃ X,FT T G k f ds P=.ok d (P++X):=by
 have e:=X15 hv;have m:=HF P k f ds [];rw[Xfu _ hd,e,Xlg] at m;rw[m];refine⟨(X14 (FT T G k f ds [])).map (shO P.length),?_⟩;simp only[shR,Xq2 _ _ hf,shS]
noncomputable def Xug:R D->Option (List (List Int))
 | .ok (.ref n) S=>(Xb S n).bind Yq
 | _=>none
theorem Xyp{k f:Nat}{ds:List D}{ks:List (List Int)}(hv:Xug (FT T G k f ds [])=some ks)(hd:flts ds=true)(P:Sto):∃ q X,FT T G k f ds P=.ok (.ref q) (P++X)/\Xb (P++X) q=some (ks.map fun l=>Xa l)/\P.length<=q:=by
 have m:=HF P k f ds [];rw[Xfu _ hd,Xlg] at m;cases e:FT T G k f ds [] with
 | bad=>rw[e] at hv;cases hv
 | ex _ _=>rw[e] at hv;cases hv
 | ok d S =>
  rw[e] at hv m;cases d with
  | ref n =>
   simp only[Xug] at hv;cases e2:Xb S n with
   | none=>rw[e2] at hv;cases hv
   | some xs =>
    rw[e2] at hv;simp only[Option.bind_some] at hv;have hx:=Xbp hv;have l2:=Yi (P:=P) (S:=S) n;rw[e2,hx] at l2;refine⟨P.length+n,S.map (shO P.length),?_,?_,Nat.le_add_right _ _⟩
    ·rw[m];simp only[shR,Xa0,shS]
    ·have e3:P++S.map (shO P.length)=shS P S:=by simp only[shS]
     rw[e3,l2];simp only[Option.map_some,Xhz,Xa]
  | _=>cases hv
noncomputable def tab(s n:Nat):Nat:=if s=1 then [0,1,3,6].getD n 0 else [0,1,2,4,5,7,10].getD n 0
noncomputable def X5m(s:Nat)(t:List Int):List (List Int):=(List.range (tab s (t.getD s 0).toNat+1)).map fun(x:Nat)=>t++[Int.ofNat x]
noncomputable def Xk(w m:Nat):List (List Int):=(List.range (w/2-1)).foldl (fun ks s=>ks.flatMap (X5m (s+1))) [[1,(m:Int)]]
noncomputable def Xij:Sts:=.cons (.asg (.var 2) (.lst (.cons (.call 20 (.cons (.var 0) (.cons (.var 1) .nil))) .nil)))
  (.cons (.for (.var 3) (.rng (.cons (.cst (.int 1)) (.cons (.bin .sub (.call 14 (.cons (.var 0) .nil)) (.cst (.int 1))) .nil))) (.cons (.asg (.var 2) (.cmr false 3 (.cons (.var 5) (.val (.var 2)) .nil (.cons (.var 6) (.rng (.cons (.bin .add (.call 4 (.cons (.idx (.var 5) (.var 3)) (.cons (.var 3) .nil))) (.cst (.int 1))) .nil)) .nil .nil)) (.bin .add (.var 5) (.tup (.cons (.var 6) .nil))))) .nil)) .nil)
noncomputable def Xvk:Ex:=.blt .srt (.cons (.cmr false 2 (.cons (.var 5) (.val (.var 2)) .nil .nil) (.call 11 (.cons (.var 0) (.cons (.var 5) .nil)))) .nil)
noncomputable def cat:Sts->Sts->Sts
 | .nil,b=>b
 | .cons s r,b=>.cons s (cat r b)
theorem X2p:Xa6=⟨2,4,cat Xij (.cons (.ret Xvk) .nil)⟩:=rfl
noncomputable def Xuh:R Fl->Option (Int×List (List Int))
 | .ok (.nx [some (.int a),_,some (.ref n),_]) S=>((Xb S n).bind Yq).map fun ks=>(a,ks)
 | _=>none
noncomputable def Xd4(w m:Nat):En:=[some (.int w),some (.int ((w+m+1:Nat):Int)),none,none]
theorem Xry:∀ w:Fin 6,∀ m:Fin 4,Xug (FT T G 14 30 [.int ((w.val+2:Nat):Int),.int ((w.val+2+m.val+1:Nat):Int)] [])=some (Xk (w.val+2) m.val):=by decide+kernel
theorem Xpf:∀ w:Fin 6,∀ m:Fin 4,Xuh (exes (FT T G 12) G Xij (Xd4 (w.val+2) m.val) [])=some (((w.val+2:Nat):Int),Xk (w.val+2) m.val):=by decide+kernel
noncomputable def Yc(w m:Nat):List (List Int):=(Xk w m).map (bs w)
theorem Xrz:∀ w:Fin 6,∀ m:Fin 4,(Xbb (Yc (w.val+2) m.val)).isSome=true:=by decide+kernel
theorem Xf7{F:Fn}{b:Sts}:∀ (a:Sts) {e e':En} {S S':Sto},exes F G a e S=.ok (.nx e') S'->exes F G (cat a b) e S=exes F G b e' S'
 | .nil,e,e',S,S',h=>by simp only[exes] at h;cases h;rfl
 | .cons s r,e,e',S,S',h=>by
  simp only[exes,cat] at h ⊢;cases q:exe F G s e S with
  | bad=>rw[q] at h;cases h
  | ex n S1=>rw[q] at h;cases h
  | ok f S1 =>
   rw[q] at h;cases f with
   | nx e1=>exact Xf7 r h
   | _=>cases h
theorem Xcx:∀ l:List Int,Xu (l.map D.int)=some l
 | []=>rfl
 | x::r=>by simp only[List.map,Xu,Xcx r,Option.map_some]
theorem Xcy:∀ ks:List (List Int),Yq (ks.map fun l=>Xa l)=some ks
 | []=>rfl
 | k::ks=>by
  have:=Xcy ks;simp only[List.map,Xa,Yq,Xcx] at this ⊢;rw[this];rfl
theorem Xr0{r:R Fl}{a:Int}{ks:List (List Int)}(h:Xuh r=some (a,ks)):∃ x y n S xs,r=.ok (.nx [some (.int a),x,some (.ref n),y]) S/\Xb S n=some xs/\Yq xs=some ks:=by
 unfold Xuh at h;split at h
 ·rename_i a' x n y S
  cases e:Xb S n with
  | none=>rw[e] at h;cases h
  | some xs =>
   rw[e] at h;simp only[Option.bind_some] at h;cases e2:Yq xs with
   | none=>rw[e2] at h;cases h
   | some k =>
    rw[e2] at h;cases h;exact⟨x,y,n,S,xs,rfl,e,e2⟩
 ·cases h
theorem Xb7{α:Type}(f:List Int->α)(ks:List (List Int)):((List.range ks.length).map fun i=>f (ks.getD i []))=ks.map f:=by
 apply List.ext_getElem
 ·simp
 ·intro i h1 h2
  have hi:i<ks.length:=by simpa using h2
  simp[hi]
theorem X2q:∀ w:Fin 6,∀ m:Fin 4,((Xk (w.val+2) m.val).all fun l=>l.length==(w.val+2)/2+1)=true:=by decide+kernel
theorem Xui:clnSs Xij=true:=by decide+kernel
theorem Xyq(w m:Nat)(h2:2<=w)(h7:w<=7)(hm:m<4)(P:Sto):∃ x y q X,exes (FT T G 12) G Xij (Xd4 w m) P=.ok (.nx [some (.int w),x,some (.ref q),y]) (P++X)/\Xb (P++X) q=some ((Xk w m).map fun l=>Xa l):=by
 have ps:=Xpf ⟨w-2,by omega⟩ ⟨m,hm⟩
 simp only[show w-2+2=w by omega] at ps
 obtain⟨x,y,n,S,xs,e,hl,hx⟩:=Xr0 ps;have z:=exes_sh (HF P 12) (HG P) Xij Xui (Xd4 w m) [];rw[e,Xlg] at z;have ee:shE P.length (Xd4 w m)=Xd4 w m:=by simp only[shE,Xd4,List.map,Option.map_some,Option.map_none,sh]
 rw[ee] at z;have l2:=Yi (P:=P) (S:=S) n;rw[hl,Xbp hx] at l2;have e3:shS P S=P++S.map (shO P.length):=by simp only[shS]
 refine⟨x.map (sh P.length),y.map (sh P.length),P.length+n,S.map (shO P.length),?_,?_⟩
 ·rw[z,<- e3]
  simp only[shR,shF,shE,List.map,Option.map_some,sh,Xa0]
 ·rw[<- e3,l2]
  simp only[Option.map_some,Xhz,Xa]
theorem Xr1{w m:Nat}{x y:Option D}{q:Nat}{S:Sto}(h7:w<=7)(hl:∀ l∈Xk w m,l.length=w/2+1)(hq:Xb S q=some ((Xk w m).map fun l=>Xa l))(hz:(Xk w m).length<=1000) :
  ∃ X,ev (FT T G 12) G (.cmr false 2 (.cons (.var 5) (.val (.var 2)) .nil .nil) (.call 11 (.cons (.var 0) (.cons (.var 5) .nil)))) [some (.int w),x,some (.ref q),y] S=.ok (.ref (S++X).length) (S++X++[.lst ((Yc w m).map fun l=>Xa l)]):=by
 obtain⟨e',S',h2,⟨X,rfl⟩,_⟩:=Xbu (F:=FT T G 12) (G:=G) (t:=.var 5) (n:=2) (elt:=.call 11 (.cons (.var 0) (.cons (.var 5) .nil))) (env:=[some (.int w),x,some (.ref q),y]) (S:=S) (S1:=S) (src:=.ref q) (it:=.val (.var 2)) ((Xk w m).map fun l=>Xa l) (fun i=>Xa (bs w ((Xk w m).getD i [])))
  (fun i e S'=>(∃ X,S'=S++X)/\∃ z,e=[some (.int w),x,some (.ref q),y]++[none,z])
  (by simp only[evit,ev,gZ0,gS0,Rk0,Yk,hq,Option.map_some]) (by simp only[Src.most,hq,Option.map_some,Option.getD_some]) (Xan (by rw[List.length_map];omega)) ⟨⟨[],by simp⟩,none,rfl⟩
  (fun i e S' ⟨⟨X,h⟩,_⟩=>by rw[h];simp only[Src.get,Xg hq,Option.map_some])
  (fun i d e S' hd hP=>by
   obtain⟨⟨X,rfl⟩,z,rfl⟩:=hP;have hi:i<(Xk w m).length:=by have:=(List.getElem?_eq_some_iff.mp hd).1;simpa using this
   have hd':d=Xa ((Xk w m).getD i []):=by
    rw[List.getElem?_map,List.getElem?_eq_getElem hi,Option.map_some] at hd;cases hd;rw[List.getD_eq_getElem?_getD,List.getElem?_eq_getElem hi];rfl
   have hm:(Xk w m).getD i []∈Xk w m:=by
    rw[List.getD_eq_getElem?_getD,List.getElem?_eq_getElem hi];exact List.getElem_mem hi
   subst hd';obtain⟨X',hb⟩:=Xuf 6 w ((Xk w m).getD i []) (S++X) (hl _ hm) (by omega)
   refine⟨_,S++X++X',Xbh rfl z _,?_,⟨X++X',by rw[List.append_assoc]⟩,_,rfl⟩
   simp only[ev,evs,List.cons_append,List.nil_append,gZ0,gS0,Rk0];exact hb)
 have e1:((List.range ((Xk w m).map fun l=>Xa l).length).map fun i=>Xa (bs w ((Xk w m).getD i [])))=(Yc w m).map fun l=>Xa l:=by
  rw[List.length_map,Xb7 (fun l=>Xa (bs w l))]
  simp[Yc,Function.comp_def]
 rw[e1] at h2;exact⟨X,h2⟩
theorem Xuj(w m:Nat)(h2:2<=w)(h7:w<=7)(hm:m<4)(P:Sto):∃ r,Xbb (Yc w m)=some r/\∃ q X,FT T G 13 19 [.int w,.int ((w+m+1:Nat):Int)] P=.ok (.ref q) (P++X)/\Xb (P++X) q=some (r.map fun l=>Xa l)/\P.length<=q:=by
 obtain⟨r,hr⟩:=Option.isSome_iff_exists.mp (Xrz ⟨w-2,by omega⟩ ⟨m,hm⟩)
 simp only[show w-2+2=w by omega] at hr
 obtain⟨x,y,q,X,e1,hq⟩:=Xyq w m h2 h7 hm P;have lo:=X2q ⟨w-2,by omega⟩ ⟨m,hm⟩
 simp only[show w-2+2=w by omega,List.all_eq_true,beq_iff_eq] at lo
 have hz:(Xk w m).length<=1000:=by
  have:∀ w:Fin 6,∀ m:Fin 4,(Xk (w.val+2) m.val).length<=1000:=by decide+kernel
  have:=this ⟨w-2,by omega⟩ ⟨m,hm⟩
  simpa only[show w-2+2=w by omega] using this
 obtain⟨Y,e2⟩:=Xr1 (x:=x) (y:=y) h7 lo hq hz;refine⟨r,hr,(P++X++Y++[O.lst ((Yc w m).map fun l=>Xa l)]).length,X++Y++[O.lst ((Yc w m).map fun l=>Xa l)]++[.lst (r.map fun l=>Xa l)],?_,?_,?_⟩
 ·have hs:Xh .srt [.ref (P++X++Y).length] (P++X++Y++[.lst ((Yc w m).map fun l=>Xa l)])=.ok (.ref (P++X++Y++[O.lst ((Yc w m).map fun l=>Xa l)]).length) (P++X++Y++[O.lst ((Yc w m).map fun l=>Xa l)]++[.lst (r.map fun l=>Xa l)]):=by
   have ha:=Xcy (Yc w m);simp only[Xa] at ha;simp only[Xh,Xi,Option.bind_some,Xa,ha,hr]
  have hf:P++(X++Y++[O.lst ((Yc w m).map fun l=>Xa l)]++[.lst (r.map fun l=>Xa l)])=P++X++Y++[O.lst ((Yc w m).map fun l=>Xa l)]++[.lst (r.map fun l=>Xa l)]:=by simp
  rw[hf,ftx (show T[19]?=some Xa6 from rfl),X2p];refine Xgn (env:=Xd4 w m) rfl rfl ((Xf7 Xij e1).trans (X7 ?_));unfold Xvk;rw[exe,ev,evs,e2,Rk0,evs,Rk0,Rk0,hs,Rk0]
 ·have hf:P++(X++Y++[O.lst ((Yc w m).map fun l=>Xa l)]++[.lst (r.map fun l=>Xa l)])=P++X++Y++[O.lst ((Yc w m).map fun l=>Xa l)]++[.lst (r.map fun l=>Xa l)]:=by simp
  rw[hf];exact Xi
 ·simp only[List.length_append];omega
noncomputable def Xuk:R D->Option (List Int)
 | .ok (.tup xs) _=>Xu xs
 | _=>none
theorem Xi4:∀ l:List Int,flts (l.map D.int)=true
 | []=>by simp only[List.map,flts]
 | x::r=>by simp only[List.map,flts,flt,Xi4 r,Bool.and_self]
theorem Xni{k f:Nat}{ds:List D}{l:List Int}(hv:Xuk (FT T G k f ds [])=some l)(hd:flts ds=true)(P:Sto):∃ X,FT T G k f ds P=.ok (Xa l) (P++X):=by
 have e:Xto (FT T G k f ds [])=some (Xa l):=by
  cases q:FT T G k f ds [] with
  | bad=>rw[q] at hv;cases hv
  | ex _ _=>rw[q] at hv;cases hv
  | ok d S =>
   rw[q] at hv;cases d with
   | tup xs =>
    have hx:Xu xs=some l:=hv;rw[Xaz hx];rfl
   | _=>cases hv
 exact Xyo e hd (by unfold Xa;simp only[flt,Xi4]) P
noncomputable def Xy(w m:Nat):List Int:=[1,(m:Int)]++List.replicate (w/2-1) 0
noncomputable def X8(w m:Nat):List Int:=(List.range (w/2-1)).foldl (fun t s=>t++[((tab (s+1) (t.getD (s+1) 0).toNat:Nat):Int)]) [1,(m:Int)]
theorem Xul:∀ w:Fin 6,∀ m:Fin 4,Xuk (FT T G 13 17 [.int ((w.val+2:Nat):Int),.int ((w.val+2+m.val+1:Nat):Int)] [])=some (bs (w.val+2) (Xy (w.val+2) m.val)):=by decide+kernel
theorem Xum:∀ w:Fin 6,∀ m:Fin 4,Xuk (FT T G 13 18 [.int ((w.val+2:Nat):Int),.int ((w.val+2+m.val+1:Nat):Int)] [])=some (bs (w.val+2) (X8 (w.val+2) m.val)):=by decide+kernel
noncomputable def Xbv:Exs:=.cons (.glb 6) (.cons (.glb 7) (.cons (.glb 8) .nil))
noncomputable def Xd5:Sts:=.cons (.ret (.cal (.idx (.lst Xbv) (.var 0)) (.cons (.var 1) (.cons (.var 2) .nil)))) .nil
noncomputable def Xv:List D:=[.fn 17 "least_row",.fn 18 "greatest_row",.fn 19 "all_rows"]
theorem Xnj:Xb6=⟨3,4,.cons (.try Xd5 0 3 (.cons (.ret (.call 24 (.cons (.var 3) .nil))) .nil)) .nil⟩:=rfl
theorem t29:T[29]?=some Xb6:=rfl
theorem Xlh(v:Nat)(hv:v<3):∃ nm,Xv[v]?=some (.fn (17+v) nm)/\Xbx (17+v) nm G=true:=by
 match v,hv with
 | 0,_=>exact⟨"least_row",rfl,rfl⟩
 | 1,_=>exact⟨"greatest_row",rfl,rfl⟩
 | 2,_=>exact⟨"all_rows",rfl,rfl⟩
theorem Xik{v:Nat}(hv:v<3){c d r:D}{S S':Sto}(h:FT T G 13 (17+v) [c,d] (S++[.lst Xv])=.ok r S'):FT T G 14 29 [.int v,c,d] S=.ok r S':=by
 obtain⟨nm,hf,hi⟩:=Xlh v hv;have hes:evs (FT T G 13) G Xbv [some (.int v),some c,some d,none] S=.ok Xv S:=by
  simp only[Xbv,evs,ev,G,gZ0,gS0,Rk0,Xv]
 have hll:ev (FT T G 13) G (.lst Xbv) [some (.int v),some c,some d,none] S=.ok (.ref S.length) (S++[.lst Xv]):=by
  rw[ev,hes,Rk0];exact if_pos (by show 3<=big;decide)
 have hx:Yt (.ref S.length) (.int v) (S++[.lst Xv])=.ok (.fn (17+v) nm) (S++[.lst Xv]):=Xk7 Xi hf rfl;have he:ev (FT T G 13) G (.idx (.lst Xbv) (.var 0)) [some (.int v),some c,some d,none] S=.ok (.fn (17+v) nm) (S++[.lst Xv]):=by
  rw[ev,hll,Rk0];simp only[ev,gZ0,Rk0,hx]
 have hc:ev (FT T G 13) G (.cal (.idx (.lst Xbv) (.var 0)) (.cons (.var 1) (.cons (.var 2) .nil))) [some (.int v),some c,some d,none] S=.ok r S':=by
  rw[ev,he,Rk0];simp only[hi,if_true,evs,ev,gZ0,gS0,Rk0];exact h
 have ha:exes (FT T G 13) G Xd5 [some (.int v),some c,some d,none] S=.ok (.rt r) S':=by
  unfold Xd5;exact X7 (by rw[exe,hc,Rk0])
 rw[ftx t29,Xnj];refine Xgn (env:=[some (.int v),some c,some d,none]) rfl rfl (X7 ?_);rw[exe,if_pos (show nasgs Xd5=true from rfl),ha]
section
variable{w m:Nat}(h2:2<=w)(h7:w<=7)(hm:m<4)
include h2 h7 hm
theorem X4k(P:Sto):∃ X,FT T G 14 29 [.int 0,.int w,.int ((w+m+1:Nat):Int)] P=.ok (Xa (bs w (Xy w m))) (P++X):=by
 have l:=Xul ⟨w-2,by omega⟩ ⟨m,hm⟩
 simp only[show w-2+2=w by omega] at l
 obtain⟨X,e⟩:=Xni l (by simp only[flts,flt,Bool.and_self]) (P++[.lst Xv])
 exact⟨[.lst Xv]++X,by rw[<- List.append_assoc];exact Xik (v:=0) (by omega) e⟩
theorem X4l(P:Sto):∃ X,FT T G 14 29 [.int 1,.int w,.int ((w+m+1:Nat):Int)] P=.ok (Xa (bs w (X8 w m))) (P++X):=by
 have l:=Xum ⟨w-2,by omega⟩ ⟨m,hm⟩
 simp only[show w-2+2=w by omega] at l
 obtain⟨X,e⟩:=Xni l (by simp only[flts,flt,Bool.and_self]) (P++[.lst Xv])
 exact⟨[.lst Xv]++X,by rw[<- List.append_assoc];exact Xik (v:=1) (by omega) e⟩
theorem Xpg(P:Sto):∃ r,Xbb (Yc w m)=some r/\∃ q X,FT T G 14 29 [.int 2,.int w,.int ((w+m+1:Nat):Int)] P=.ok (.ref q) (P++X)/\Xb (P++X) q=some (r.map fun l=>Xa l)/\P.length<=q:=by
 obtain⟨r,hr,q,X,e,hq,hl⟩:=Xuj w m h2 h7 hm (P++[.lst Xv]);refine⟨r,hr,q,[.lst Xv]++X,?_,by rw[<- List.append_assoc];exact hq,by simp only[List.length_append] at hl;omega⟩
 rw[<- List.append_assoc];exact Xik (v:=2) (by omega) e
end
theorem Xun{l:List Int}{w q:Nat}{S:Sto}(hq:Xb S q=some (l.map D.int))(hl:l.length=w/2+1)(hw:w<=11):∃ X,FT T G 14 28 [.int w,.ref q] S=.ok (Xa (tT 1 (Y6 l w))) (S++X):=by
 rw[ftx (show T[28]?=some Xov from rfl)];exact Xua (Xrr t25 12).ways hq hl hw
theorem Xyr:∀ w:Fin 6,∀ m:Fin 4,((Xy (w.val+2) m.val::X8 (w.val+2) m.val::Xk (w.val+2) m.val).all fun l=>l.length==(w.val+2)/2+1&&bs (w.val+2) l==tT 1 (Y6 l (w.val+2)))=true:=by decide+kernel
theorem t20:T[20]?=some Xa9:=rfl
noncomputable def fs2:Sts:=.cons (.ite (.not (.call 1 (.cons (.var 1) (.cons (.bin .add (.var 0) (.cst (.int 1))) (.cons (.bin .add (.var 0) (.glb 5)) .nil))))) (.cons (.rse 8 (.cst (.str "a number of points from one to four more than the width is due"))) .nil) .nil)
  (.cons (.ret (.tup (.cons (.cst (.int 1)) (.cons (.bin .sub (.bin .sub (.var 1) (.var 0)) (.cst (.int 1))) .nil)))) .nil)
theorem Xfy:Xa9=⟨2,2,.cons (.ite (.not (.call 1 (.cons (.var 0) (.cons (.glb 3) (.cons (.glb 4) .nil))))) (.cons (.rse 8 (.cst (.str "a width from 2 to 7 is due"))) .nil) .nil) fs2⟩:=rfl
theorem g3:G[3]?=some (.int 2):=rfl
theorem g4:G[4]?=some (.int 7):=rfl
theorem g5:G[5]?=some (.int 4):=rfl
theorem Xys{a b:D}{S:Sto}(ga:good S a)(h:wi a 2 7=false):FT T G 12 20 [a,b] S=.ex S.length (S++[.exc 8]):=by
 have hw:=Xg4 9 a 2 7 S ga;rw[h] at hw;have hw':FT T G 11 1 [a,.int 2,.int 7] S=.ok (.bl false) S:=hw;rw[ftx t20,Xfy];simp only[den,List.length,if_true,List.map,List.replicate,Nat.sub_self,List.append_nil];rw[Xci (n:=S.length) (S1:=S++[.exc 8]) (Xi2 (by simp only[ev,evs,gZ0,Rk0,g3,g4,hw',Xl];rfl))]
theorem Xyt{w:Int}{b:D}{S:Sto}(h0:wi (.int w) 2 7=true)(gb:good S b)(h:wi b (w+1) (w+4)=false):FT T G 12 20 [.int w,b] S=.ex S.length (S++[.exc 8]):=by
 have h1:=Xg4 9 (.int w) 2 7 S (Xa1 S w);rw[h0] at h1;have h2:=Xg4 9 b (w+1) (w+4) S gb;rw[h] at h2;have h1':FT T G 11 1 [.int w,.int 2,.int 7] S=.ok (.bl true) S:=h1;have h2':FT T G 11 1 [b,.int (w+1),.int (w+4)] S=.ok (.bl false) S:=h2;rw[ftx t20,Xfy];simp only[den,List.length,if_true,List.map,List.replicate,Nat.sub_self,List.append_nil];rw[Xd (e:=[some (.int w),some b]) (S1:=S) (Xa4 (by simp only[ev,evs,gZ0,Rk0,g3,g4,h1',Xl];rfl))]
 unfold fs2;rw[Xci (n:=S.length) (S1:=S++[.exc 8]) (Xi2 (by simp only[ev,evs,gZ0,gS0,Rk0,g5,Yd,h2',Xl];rfl))]
theorem Xyu{v:Nat}(hv:v<3){a b:D}{S:Sto}(h:FT T G 12 20 [a,b] S=.ex S.length (S++[.exc 8])):FT T G 13 (17+v) [a,b] S=.ex S.length (S++[.exc 8]):=by
 match v,hv with
 | 0,_ =>
  rw[ftx (show T[17+0]?=some Xb5 from rfl)];simp only[den,Xb5,List.length,if_true,List.map,List.replicate];unfold Xfe;rw[Xci (n:=S.length) (S1:=S++[.exc 8]) (by simp only[exe,ev,evs,List.cons_append,gZ0,gS0,Rk0,h,R.bind_ex])]
 | 1,_ =>
  rw[ftx (show T[17+1]?=some Xa5 from rfl)];simp only[den,Xa5,List.length,if_true,List.map,List.replicate];unfold Xdn;rw[Xci (n:=S.length) (S1:=S++[.exc 8]) (by simp only[exe,ev,evs,List.cons_append,gZ0,gS0,Rk0,h,R.bind_ex])]
 | 2,_ =>
  rw[ftx (show T[17+2]?=some Xa6 from rfl)];simp only[den,Xa6,List.length,if_true,List.map,List.replicate];unfold Xgw;rw[Xci (n:=S.length) (S1:=S++[.exc 8]) (by simp only[exe,ev,evs,List.cons_append,gZ0,gS0,Rk0,h,R.bind_ex])]
theorem Xyv{v:Nat}(hv:v<3){c d:D}{S:Sto}(h:FT T G 13 (17+v) [c,d] (S++[.lst Xv])=.ex (S++[O.lst Xv]).length (S++[.lst Xv]++[.exc 8])):∃ X,FT T G 14 29 [.int v,c,d] S=.ok (.str "number") (S++X):=by
 obtain⟨nm,hf,hi⟩:=Xlh v hv;obtain⟨Y,hk⟩:=Xx3 (G:=G) (k:=12) t24 (c:=8) (by omega) (by omega) (S++[.lst Xv])
 have hes:evs (FT T G 13) G Xbv [some (.int v),some c,some d,none] S=.ok Xv S:=by
  simp only[Xbv,evs,ev,G,gZ0,gS0,Rk0,Xv]
 have hll:ev (FT T G 13) G (.lst Xbv) [some (.int v),some c,some d,none] S=.ok (.ref S.length) (S++[.lst Xv]):=by
  rw[ev,hes,Rk0];exact if_pos (by show 3<=big;decide)
 have hx:Yt (.ref S.length) (.int v) (S++[.lst Xv])=.ok (.fn (17+v) nm) (S++[.lst Xv]):=Xk7 Xi hf rfl;have he:ev (FT T G 13) G (.idx (.lst Xbv) (.var 0)) [some (.int v),some c,some d,none] S=.ok (.fn (17+v) nm) (S++[.lst Xv]):=by
  rw[ev,hll,Rk0];simp only[ev,gZ0,Rk0,hx]
 have hc:ev (FT T G 13) G (.cal (.idx (.lst Xbv) (.var 0)) (.cons (.var 1) (.cons (.var 2) .nil))) [some (.int v),some c,some d,none] S=.ex (S++[O.lst Xv]).length (S++[.lst Xv]++[.exc 8]):=by
  rw[ev,he,Rk0];simp only[hi,if_true,evs,ev,gZ0,gS0,Rk0];exact h
 have ha:exes (FT T G 13) G Xd5 [some (.int v),some c,some d,none] S=.ex (S++[O.lst Xv]).length (S++[.lst Xv]++[.exc 8]):=by
  unfold Xd5;exact Xci (by rw[exe,hc,R.bind_ex])
 have hg:(S++[O.lst Xv]++[O.exc 8])[(S++[O.lst Xv]).length]?=some (.exc 8):=by rw[List.getElem?_append_right (Nat.le_refl _),Nat.sub_self];rfl
 have hh:exes (FT T G 13) G (.cons (.ret (.call 24 (.cons (.var 3) .nil))) .nil) [some (.int v),some c,some d,some (.ref (S++[O.lst Xv]).length)] (S++[.lst Xv]++[.exc 8])=.ok (.rt (.str "number")) (S++([.lst Xv]++Y)):=by
  refine X7 ?_;simp only[exe,ev,evs,gZ0,gS0,Rk0,hk];rw[List.append_assoc];rfl
 refine⟨[.lst Xv]++Y,?_⟩;rw[ftx t29,Xnj];refine Xgn (env:=[some (.int v),some c,some d,none]) rfl rfl (X7 ?_);rw[exe,if_pos (show nasgs Xd5=true from rfl),ha];dsimp only;rw[hg];dsimp only;rw[if_pos (by rfl)]
 have hh':exes (FT T G 13) G (.cons (.ret (.call 24 (.cons (.var 3) .nil))) .nil) (([some (D.int v),some c,some d,none]:En).set 3 (some (.ref (S++[O.lst Xv]).length))) (S++[.lst Xv]++[.exc 8])=_:=hh;rw[hh']
def Bad(S:Sto)(a b:D):Prop:=(good S a/\wi a 2 7=false)\/∃ w:Int,a=.int w/\wi (.int w) 2 7=true/\good S b/\wi b (w+1) (w+4)=false
theorem Bad.app{S X:Sto}{a b:D}(h:Bad S a b):Bad (S++X) a b:=by
 rcases h with⟨h1,h2⟩|⟨w,h1,h2,h3,h4⟩
 ·exact .inl ⟨Xd3 h1,h2⟩
 ·exact .inr ⟨w,h1,h2,Xd3 h3,h4⟩
theorem Xyw{v:Nat}(hv:v<3){a b:D}{S:Sto}(h:Bad S a b):∃ X,FT T G 14 29 [.int v,a,b] S=.ok (.str "number") (S++X):=by
 refine Xyv hv (Xyu hv ?_);rcases h.app (X:=[.lst Xv]) with⟨h1,h2⟩|⟨w,rfl,h2,h3,h4⟩
 ·exact Xys h1 h2
 ·exact Xyt h2 h3 h4
noncomputable def elR:Ex:=.call 28 (.cons (.var 13) (.cons (.blt .list (.cons (.var 19) .nil)) .nil))
noncomputable def Xph:Ex:=.blt .srt (.cons (.cmr false 2 (.cons (.var 19) (.val (.var 3)) .nil .nil) elR) .nil)
theorem Xpi{w m:Nat}(h2:2<=w)(h7:w<=7)(hm:m<4):∀ l∈Xy w m::X8 w m::Xk w m,l.length=w/2+1/\bs w l=tT 1 (Y6 l w):=by
 have b:=Xyr ⟨w-2,by omega⟩ ⟨m,hm⟩
 simp only[show w-2+2=w by omega,List.all_eq_true,bA0,beq_iff_eq] at b
 exact b
section
variable{w m q:Nat}{env:En}{S:Sto}
theorem Xyx(h2:2<=w)(h7:w<=7)(hm:m<4)(he:env.length=18)(h13:env[13]?=some (some (.int w)))(h3:env[3]?=some (some (.ref q)))(hq:Xb S q=some ((Xk w m).map fun l=>Xa l)){r:List (List Int)}(hr:Xbb (Yc w m)=some r) :
  ∃ X,ev (FT T G 14) G Xph env S=.ok (.ref (S++X).length) (S++X++[.lst (r.map fun l=>Xa l)]):=by
 have hb:=Xpi h2 h7 hm;have hz:(Xk w m).length<=1000:=by
  have:∀ w:Fin 6,∀ m:Fin 4,(Xk (w.val+2) m.val).length<=1000:=by decide+kernel
  have:=this ⟨w-2,by omega⟩ ⟨m,hm⟩
  simpa only[show w-2+2=w by omega] using this
 obtain⟨e',S',c2,⟨X,rfl⟩,_⟩:=Xbu (F:=FT T G 14) (G:=G) (t:=.var 19) (n:=2) (elt:=elR) (env:=env) (S:=S) (S1:=S) (src:=.ref q) (it:=.val (.var 3)) ((Xk w m).map fun l=>Xa l) (fun i=>Xa (bs w ((Xk w m).getD i [])))
  (fun i e S'=>(∃ X,S'=S++X)/\∃ z,e=env++[none,z])
  (by simp only[evit,ev,h3,Rk0,Yk,hq,Option.map_some]) (by simp only[Src.most,hq,Option.map_some,Option.getD_some]) (Xan (by rw[List.length_map];omega)) ⟨⟨[],by simp⟩,none,rfl⟩
  (fun i e S' ⟨⟨X,h⟩,_⟩=>by rw[h];simp only[Src.get,Xg hq,Option.map_some])
  (fun i d e S' hd hP=>by
   obtain⟨⟨X,rfl⟩,z,rfl⟩:=hP;have hi:i<(Xk w m).length:=by have:=(List.getElem?_eq_some_iff.mp hd).1;simpa using this
   have hd':d=Xa ((Xk w m).getD i []):=by
    rw[List.getElem?_map,List.getElem?_eq_getElem hi,Option.map_some] at hd;cases hd;rw[List.getD_eq_getElem?_getD,List.getElem?_eq_getElem hi];rfl
   have hmm:(Xk w m).getD i []∈Xk w m:=by
    rw[List.getD_eq_getElem?_getD,List.getElem?_eq_getElem hi];exact List.getElem_mem hi
   subst hd';generalize (Xk w m).getD i []=l at hmm;obtain⟨hl,hbs⟩:=hb l (by simp[hmm])
   obtain⟨X',hv⟩:=Xun (l:=l) (w:=w) (q:=(S++X).length) (S:=S++X++[.lst (l.map D.int)]) Xi hl (by omega)
   refine⟨_,S++X++[.lst (l.map D.int)]++X',Xbh he z _,?_,⟨X++[.lst (l.map D.int)]++X',by simp⟩,_,rfl⟩
   have g13:(env++[none,some (Xa l)])[13]?=some (some (.int w)):=Y9 h13;have g19:(env++[none,some (Xa l)])[19]?=some (some (Xa l)):=Xbi he _;have hlist:Xh .list [Xa l] (S++X)=.ok (.ref (S++X).length) (S++X++[.lst (l.map D.int)]):=by simp only[Xh,Xa,Xn]
   simp only[elR,ev,evs,g13,g19,Rk0,hlist];rw[hv,hbs])
 have e1:((List.range ((Xk w m).map fun l=>Xa l).length).map fun i=>Xa (bs w ((Xk w m).getD i [])))=(Yc w m).map fun l=>Xa l:=by
  rw[List.length_map,Xb7 (fun l=>Xa (bs w l))]
  simp[Yc,Function.comp_def]
 rw[e1] at c2;have ha:=Xcy (Yc w m);have hs:Xh .srt [.ref (S++X).length] (S++X++[.lst ((Yc w m).map fun l=>Xa l)])=.ok (.ref (S++X++[O.lst ((Yc w m).map fun l=>Xa l)]).length) (S++X++[O.lst ((Yc w m).map fun l=>Xa l)]++[.lst (r.map fun l=>Xa l)]):=by
  simp only[Xa] at ha;simp only[Xh,Xi,Option.bind_some,Xa,ha,hr]
 refine⟨X++[O.lst ((Yc w m).map fun l=>Xa l)],?_⟩
 unfold Xph;rw[ev,evs,c2,Rk0,evs,Rk0,Rk0,hs,<- List.append_assoc]
noncomputable def Xuo:Ex:=.call 28 (.cons (.var 13) (.cons (.bin .add (.lst (.cons (.cst (.int 1)) (.cons (.bin .sub (.var 14) (.cst (.int 1))) .nil))) (.bin .mul (.lst (.cons (.cst (.int 0)) .nil)) (.bin .sub (.bin .fdiv (.var 13) (.cst (.int 2))) (.cst (.int 1))))) .nil))
theorem X5n(n:Nat):(List.replicate n [D.int 0]).flatten=(List.replicate n (0:Int)).map D.int:=by
 induction n with
 | zero=>rfl
 | succ n ih=>rw[List.replicate_succ,List.flatten_cons,ih,List.replicate_succ];rfl
theorem d2:Xae 2=true:=by decide+kernel
theorem X2r(h2:2<=w)(h7:w<=7)(hm:m<4)(h13:env[13]?=some (some (.int w)))(h14:env[14]?=some (some (.int ((m+1:Nat):Int)))):∃ X,ev (FT T G 14) G Xuo env S=.ok (Xa (bs w (Xy w m))) (S++X):=by
 have e1:(((m+1:Nat):Int))-1=(m:Int):=by omega
 have e2:(w:Int)/2-1=((w/2-1:Nat):Int):=by omega
 have l1:ev (FT T G 14) G (.lst (.cons (.cst (.int 1)) (.cons (.bin .sub (.var 14) (.cst (.int 1))) .nil))) env S=.ok (.ref S.length) (S++[.lst [.int 1,.int m]]):=by
  simp only[ev,evs,h14,Rk0,Xau,e1];exact if_pos (by show 2<=big;decide)
 generalize hS1:S++[O.lst [.int 1,.int m]]=S1 at l1;have q1:Xb S1 S.length=some [.int 1,.int m]:=by rw[<- hS1];exact Xi
 have hl1:lstM (S1++[O.lst [.int 0]]) S1.length=some [.int 0]:=Xi;have l2:ev (FT T G 14) G (.bin .mul (.lst (.cons (.cst (.int 0)) .nil)) (.bin .sub (.bin .fdiv (.var 13) (.cst (.int 2))) (.cst (.int 1)))) env S1=.ok (.ref (S1++[O.lst [.int 0]]).length) (S1++[.lst [.int 0]]++[.lst ((List.replicate (w/2-1) (0:Int)).map D.int)]):=by
  simp only[ev,evs,h13,Rk0];rw[if_pos (show([D.int 0]:List D).length<=big by decide),Rk0]
  simp only[Xb0 d2,Rk0,Xau,e2];simp only[Xm,hl1];have hb':([D.int 0]:List D).length*(((w/2-1:Nat):Int)).toNat<=big:=Xan (by simp;omega)
  rw[if_pos ⟨by omega,hb',by omega⟩,Int.toNat_natCast,X5n]
 have a3:=Xyd (S:=S1++[.lst [.int 0]]++[.lst ((List.replicate (w/2-1) (0:Int)).map D.int)]) (Xg (Xg q1)) (Xi (S:=S1++[O.lst [.int 0]]) (xs:=(List.replicate (w/2-1) (0:Int)).map D.int)) (by simp;omega)
 have em:[D.int 1,.int m]++(List.replicate (w/2-1) (0:Int)).map D.int=(Xy w m).map D.int:=by simp[Xy]
 rw[em] at a3;obtain⟨hl,hbs⟩:=Xpi h2 h7 hm (Xy w m) (by simp)
 generalize hS3:S1++[O.lst [.int 0]]++[.lst ((List.replicate (w/2-1) (0:Int)).map D.int)]=S3 at l2 a3;obtain⟨X,hv⟩:=Xun (l:=Xy w m) (w:=w) (q:=S3.length) (S:=S3++[.lst ((Xy w m).map D.int)]) Xi hl (by omega)
 rw[<- hbs] at hv;refine⟨[O.lst [.int 1,.int m]]++[O.lst [.int 0]]++[.lst ((List.replicate (w/2-1) (0:Int)).map D.int)]++[.lst ((Xy w m).map D.int)]++X,?_⟩;have ef:S++([O.lst [.int 1,.int m]]++[O.lst [.int 0]]++[.lst ((List.replicate (w/2-1) (0:Int)).map D.int)]++[.lst ((Xy w m).map D.int)]++X)=S3++[.lst ((Xy w m).map D.int)]++X:=by rw[<- hS3,<- hS1];simp
 rw[ef];unfold Xuo;rw[ev,evs,ev,h13];simp only[Rk0];rw[evs,ev,l1,Rk0,l2,Rk0,a3,Rk0,evs,Rk0,Rk0,Rk0];exact hv
end
noncomputable def mxC:List Int->Int
 | n::r=>r.foldl max n
 | []=>0
noncomputable def col(w m a:Nat):List Int:=(Xk w m).map fun l=>l.getD a 0
theorem X2s:∀ w:Fin 6,∀ m:Fin 4,(((List.range ((w.val+2)/2+1)).map fun a=>mxC (col (w.val+2) m.val a))==X8 (w.val+2) m.val&&decide (1<=(Xk (w.val+2) m.val).length)&&decide ((Xk (w.val+2) m.val).length<=1000))=true:=by decide+kernel
noncomputable def X2t:Ex:=.cmr false 2 (.cons (.var 21) (.val (.var 3)) .nil .nil) (.idx (.var 21) (.var 19))
noncomputable def Xup:Ex:=.blt .mxl (.cons X2t .nil)
noncomputable def Xpj:Ex:=.call 28 (.cons (.var 13) (.cons (.cmr false 2 (.cons (.var 19) (.rng (.cons (.bin .add (.bin .fdiv (.var 13) (.cst (.int 2))) (.cst (.int 1))) .nil)) .nil .nil) Xup) .nil))
section
variable{w m q:Nat}{env:En}{S:Sto}
theorem X2u{a:Nat}(he:env.length=20)(h3:env[3]?=some (some (.ref q)))(h19:env[19]?=some (some (.int a)))(hq:Xb S q=some ((Xk w m).map fun l=>Xa l))(hl:∀ l∈Xk w m,a<l.length)(hz:(Xk w m).length<=1000) :
  ev (FT T G 14) G X2t env S=.ok (.ref S.length) (S++[.lst ((col w m a).map D.int)]):=by
 obtain⟨e',S',c2,hS,_⟩:=Xbu (F:=FT T G 14) (G:=G) (t:=.var 21) (n:=2) (elt:=.idx (.var 21) (.var 19)) (env:=env) (S:=S) (S1:=S) (src:=.ref q) (it:=.val (.var 3)) ((Xk w m).map fun l=>Xa l) (fun i=>.int (((Xk w m).getD i []).getD a 0))
  (fun i e S'=>S'=S/\∃ z,e=env++[none,z])
  (by simp only[evit,ev,h3,Rk0,Yk,hq,Option.map_some]) (by simp only[Src.most,hq,Option.map_some,Option.getD_some]) (Xan (by rw[List.length_map];omega)) ⟨rfl,none,rfl⟩
  (fun i e S' ⟨h,_⟩=>by rw[h];simp only[Src.get,hq,Option.map_some])
  (fun i d e S' hd hP=>by
   obtain⟨rfl,z,rfl⟩:=hP;have hi:i<(Xk w m).length:=by have:=(List.getElem?_eq_some_iff.mp hd).1;simpa using this
   have hd':d=Xa ((Xk w m).getD i []):=by
    rw[List.getElem?_map,List.getElem?_eq_getElem hi,Option.map_some] at hd;cases hd;rw[List.getD_eq_getElem?_getD,List.getElem?_eq_getElem hi];rfl
   have hmm:(Xk w m).getD i []∈Xk w m:=by
    rw[List.getD_eq_getElem?_getD,List.getElem?_eq_getElem hi];exact List.getElem_mem hi
   subst hd';generalize (Xk w m).getD i []=l at hmm;have g19:(env++[none,some (Xa l)])[19]?=some (some (.int a)):=Y9 h19;have g21:(env++[none,some (Xa l)])[21]?=some (some (Xa l)):=Xbi he _;have hix:Yt (Xa l) (.int a) S'=.ok (.int (l.getD a 0)) S':=Xna l a S' (hl l hmm);refine⟨_,S',Xbh he z _,?_,rfl,_,rfl⟩;simp only[ev,g19,g21,Rk0,hix])
 have hS':S'=S:=hS;have e1:((List.range ((Xk w m).map fun l=>Xa l).length).map fun i=>D.int (((Xk w m).getD i []).getD a 0))=(col w m a).map D.int:=by
  rw[List.length_map,Xb7 (fun l=>D.int (l.getD a 0))]
  simp[col,Function.comp_def]
 rw[e1,hS'] at c2;exact c2
theorem X2v{l:List Int}{r:Nat}(h1:1<=l.length)(hr:Xb S r=some (l.map D.int)):Xh .mxl [.ref r] S=.ok (.int (mxC l)) S:=by
 cases l with
 | nil=>simp at h1
 | cons n t=>simp only[Xh,Xn,hr,Option.bind_some,Xcx,mxC]
theorem Xyy(h2:2<=w)(h7:w<=7)(hm:m<4)(he:env.length=18)(h13:env[13]?=some (some (.int w)))(h3:env[3]?=some (some (.ref q)))(hq:Xb S q=some ((Xk w m).map fun l=>Xa l)):∃ X,ev (FT T G 14) G Xpj env S=.ok (Xa (bs w (X8 w m))) (S++X):=by
 have to:=X2s ⟨w-2,by omega⟩ ⟨m,hm⟩
 simp only[show w-2+2=w by omega,bA0,beq_iff_eq,decide_eq_true_eq] at to
 have hb:=Xpi h2 h7 hm;have e2:(w:Int)/2+1=((w/2+1:Nat):Int):=by omega
 obtain⟨X,c⟩:=Xf0 (F:=FT T G 14) (G:=G) (env:=env) (L:=18) (m:=w/2+1) (cnt:=.cons (.bin .add (.bin .fdiv (.var 13) (.cst (.int 2))) (.cst (.int 1))) .nil) (elt:=Xup) (y:=fun a=>.int (mxC (col w m a))) (S:=S) he (by
  simp only[evs,ev,h13,Rk0,Xb0 d2,Yd,e2]) (by omega) (fun a ha X=>by
   have hi:=X2u (w:=w) (m:=m) (q:=q) (env:=env++[none,some (.int a)]) (S:=S++X) (a:=a) (by simp[he]) (Y9 h3) (Xbi he _) (Xg hq) (fun l hl=>by have:=(hb l (by simp[hl])).1;omega) to.2
   have hx:=X2v (S:=S++X++[.lst ((col w m a).map D.int)]) (l:=col w m a) (r:=(S++X).length) (by simp[col];omega) Xi
   refine⟨X++[.lst ((col w m a).map D.int)],?_⟩;unfold Xup;rw[ev,evs,hi,Rk0,evs,Rk0,Rk0,hx,List.append_assoc])
 have em:((List.range (w/2+1)).map fun a=>D.int (mxC (col w m a)))=(X8 w m).map D.int:=by rw[<- to.1.1];simp[Function.comp_def]
 rw[em] at c;obtain⟨hl,hbs⟩:=hb (X8 w m) (by simp)
 obtain⟨Y,hv⟩:=Xun (l:=X8 w m) (w:=w) (q:=(S++X).length) (S:=S++X++[.lst ((X8 w m).map D.int)]) Xi hl (by omega)
 rw[<- hbs] at hv;refine⟨X++[.lst ((X8 w m).map D.int)]++Y,?_⟩;rw[show S++(X++[O.lst ((X8 w m).map D.int)]++Y)=S++X++[.lst ((X8 w m).map D.int)]++Y by simp]
 unfold Xpj;rw[ev,evs,ev,h13];simp only[Rk0];rw[evs,c,Rk0,evs,Rk0,Rk0,Rk0];exact hv
theorem Xuq(h2:2<=w)(h7:w<=7)(hm:m<4)(S:Sto):∃ q X,FT T G 14 30 [.int w,.int ((w+m+1:Nat):Int)] S=.ok (.ref q) (S++X)/\Xb (S++X) q=some ((Xk w m).map fun l=>Xa l)/\S.length<=q:=by
 have l:=Xry ⟨w-2,by omega⟩ ⟨m,hm⟩
 simp only[show w-2+2=w by omega] at l
 exact Xyp l (by simp only[flts,flt,Bool.and_self]) S
end
noncomputable def pT(l:List Int):PyData:=.tuple (l.map PyData.int)
noncomputable def pR(r:List (List Int)):PyData:=.list (r.map pT)
noncomputable def pL(a b:List Int)(r:List (List Int)):PyData:=.list [pT a,pT b,pR r]
noncomputable def okP(p:PyData):Bool:=p.showable&&Xaw p&&decide (p.depth<=60)&&decide (szD p<=big)
theorem Xli(look:Nat->Option PyData):∀ l:List Int,datFs look (l.map D.int)=some (l.map PyData.int)
 | []=>by simp only[List.map,datFs]
 | x::r=>by simp only[List.map,datFs,Xw,Xli look r]
theorem Xnk(look:Nat->Option PyData)(l:List Int):Xw look (Xa l)=some (pT l):=by simp only[Xa,Xw,Xli,Option.map_some,pT]
theorem Xlj(look:Nat->Option PyData):∀ r:List (List Int),datFs look (r.map fun l=>Xa l)=some (r.map pT)
 | []=>by simp only[List.map,datFs]
 | x::r=>by simp only[List.map,datFs,Xnk,Xlj look r]
section
variable{S:Sto}{q t:Nat}{r:List (List Int)}{a b:List Int}
theorem Xi5(k:Nat)(hq:Xb S q=some (r.map fun l=>Xa l)):Ye S (k+1) q=some (pR r):=by
 rw[Ye,Xct hq];simp only[Xlj,Option.map_some,pR]
theorem Xlk(hq:Xb S q=some (r.map fun l=>Xa l))(hc:okP (pR r)=true):Xh .repr [.ref q] S=.ok (.str (pR r).shown) S:=by
 have e:Ys S (.ref q)=some (pR r):=Xi5 3 hq;have h:Xbc S (.ref q)=some (pR r).shown:=by
  unfold Xbc;rw[e];exact if_pos hc
 simp only[Xh,h]
theorem Xll(ht:Xb S t=some [Xa a,Xa b,.ref q])(hq:Xb S q=some (r.map fun l=>Xa l))(hc:okP (pL a b r)=true):Xh .repr [.ref t] S=.ok (.str (pL a b r).shown) S:=by
 have e:Ys S (.ref t)=some (pL a b r):=by
  show Ye S 4 t=_;rw[Ye,Xct ht];have h3:=Xi5 2 hq;simp only[datFs,Xnk,Xw,h3,Option.map_some,pL]
 have h:Xbc S (.ref t)=some (pL a b r).shown:=by
  unfold Xbc;rw[e];exact if_pos hc
 simp only[Xh,h]
end
theorem Xr2:∀ w:Fin 6,∀ m:Fin 4,(match Xbb (Yc (w.val+2) m.val) with
  | some r=>okP (pR r)&&okP (pL (bs (w.val+2) (Xy (w.val+2) m.val)) (bs (w.val+2) (X8 (w.val+2) m.val)) r)
  | none=>false)=true:=by decide+kernel
noncomputable def Xvl:Ex:=.cmr false 2 (.cons (.var 19) (.rng (.cons (.cst (.int 3)) .nil)) .nil .nil) (.call 29 (.cons (.var 19) (.cons (.var 13) (.cons (.bin .add (.var 13) (.var 14)) .nil))))
section
variable{w m:Nat}{env:En}{S:Sto}
theorem Xyz(h2:2<=w)(h7:w<=7)(hm:m<4)(he:env.length=18)(h13:env[13]?=some (some (.int w)))(h14:env[14]?=some (some (.int ((m+1:Nat):Int)))){r:List (List Int)}(hr:Xbb (Yc w m)=some r) :
  ∃ q X,ev (FT T G 14) G Xvl env S=.ok (.ref (S++X).length) (S++X++[.lst [Xa (bs w (Xy w m)),Xa (bs w (X8 w m)),.ref q]])/\Xb (S++X) q=some (r.map fun l=>Xa l)/\S.length<=q:=by
 have ep:(w:Int)+((m+1:Nat):Int)=((w+m+1:Nat):Int):=by omega
 obtain⟨X0,s0⟩:=X4k h2 h7 hm S;obtain⟨X1,s1⟩:=X4l h2 h7 hm (S++X0);obtain⟨r',hr',q,X2,s2,hq,hl⟩:=Xpg h2 h7 hm (S++X0++X1);rw[hr] at hr';cases hr';obtain⟨xs,hx,hxl⟩:=Yx (m:=3) (by omega) (by omega)
 have el:∀ (i:Nat) (d:D) (Sa Sb:Sto) (z:Option D),FT T G 14 29 [.int i,.int w,.int ((w+m+1:Nat):Int)] Sa=.ok d Sb->ev (FT T G 14) G (.call 29 (.cons (.var 19) (.cons (.var 13) (.cons (.bin .add (.var 13) (.var 14)) .nil)))) (env++[none,some (.int i)]) Sa=.ok d Sb:=fun i d Sa Sb z h=>by
  have g13:(env++[none,some (D.int i)])[13]?=some (some (.int w)):=Y9 h13;have g14:(env++[none,some (D.int i)])[14]?=some (some (.int ((m+1:Nat):Int))):=Y9 h14;have g19:(env++[none,some (D.int i)])[19]?=some (some (.int i)):=Xbi he _;simp only[ev,evs,g13,g14,g19,Rk0,Yd,ep];exact h
 obtain⟨e',S',c,hS,_⟩:=Xbu (F:=FT T G 14) (G:=G) (t:=.var 19) (n:=2) (elt:=.call 29 (.cons (.var 19) (.cons (.var 13) (.cons (.bin .add (.var 13) (.var 14)) .nil)))) (env:=env) (S:=S) (S1:=S) (src:=.con xs) xs (fun i=>([Xa (bs w (Xy w m)),Xa (bs w (X8 w m)),.ref q]:List D).getD i .non)
  (fun i e S'=>S'=([S,S++X0,S++X0++X1,S++X0++X1++X2]:List Sto).getD i []/\∃ z,e=env++[none,z]) (Xek (es:=.cons (.cst (.int 3)) .nil) (ds:=[.int 3]) (by simp only[evs,ev,Rk0]) hx) rfl (Xan (by omega)) ⟨rfl,none,rfl⟩ (fun _ _ _ _=>rfl)
  (fun i d e S' hd hP=>by
   obtain⟨rfl,z,rfl⟩:=hP;obtain⟨rfl,hi⟩:=Xaf hx hd;have hi':i<3:=by omega
   match i,hi' with
   | 0,_=>exact⟨_,S++X0,Xbh he z _,el 0 _ _ _ z s0,rfl,_,rfl⟩
   | 1,_=>exact⟨_,S++X0++X1,Xbh he z _,el 1 _ _ _ z s1,rfl,_,rfl⟩
   | 2,_=>exact⟨_,S++X0++X1++X2,Xbh he z _,el 2 _ _ _ z s2,rfl,_,rfl⟩)
 have hn:xs.length=3:=by omega
 have hS':S'=S++X0++X1++X2:=by rw[hS,hn];rfl
 rw[hn,hS'] at c;refine⟨q,X0++X1++X2,?_,?_,?_⟩
 ·rw[show S++(X0++X1++X2)=S++X0++X1++X2 by simp]
  exact c
 ·rw[show S++(X0++X1++X2)=S++X0++X1++X2 by simp]
  exact hq
 ·simp only[List.length_append] at hl;omega
end
def Up(S S':Sto):Prop:=∀ (n:Nat) o,S[n]?=some o->S'[n]?=some o
section
variable{S S' S2 X:Sto}
theorem Up.refl:Up S S:=fun _ _ h=>h
theorem Up.trans(a:Up S S')(b:Up S' S2):Up S S2:=fun n o h=>b n o (a n o h)
theorem Up.app:Up S (S++X):=fun n o h=>by rw[List.getElem?_append_left (List.getElem?_eq_some_iff.mp h).1];exact h
theorem Up.set{q:Nat}{o:O}(a:Up S S')(hq:S.length<=q):Up S (S'.set q o):=fun n u h=>by
 have:=(List.getElem?_eq_some_iff.mp h).1;rw[List.getElem?_set_ne (by omega)]
 exact a n u h
theorem Up.lst{q:Nat}{xs:List D}(a:Up S S')(h:Xb S q=some xs):Xb S' q=some xs:=Xrl (a q _ (Xct h))
end
structure Same(is:List Nat)(e env:En):Prop where
 len:e.length=env.length
 at':∀ i:Nat,i ∉ is->e[i]?=env[i]?
theorem Same.set{is:List Nat}{e env:En}{i:Nat}{x:Option D}(h:Same is e env)(hi:i∈is):Same is (e.set i x) env:=⟨by simp[h.len],fun j hj=>by
 have hne:i≠j:=fun z=>hj (z▸hi)
 rw[List.getElem?_set_ne hne];exact h.at' j hj⟩
theorem Same.refl{is:List Nat}{env:En}:Same is env env:=⟨rfl,fun _ _=>rfl⟩
noncomputable def no:Sts:=.cons (.ret (.cst (.bl false))) .nil
noncomputable def c7:Ex:=.cmp .ne (.blt .repr (.cons (.var 15) .nil)) (.blt .repr (.cons (.lst (.cons (.var 5) (.cons (.var 6) (.cons (.var 4) .nil)))) .nil))
noncomputable def a7:St:=.expr (.mth .append (.idx (.var 15) (.cst (.int 2))) (.cons (.cst (.int 0)) .nil))
noncomputable def Xpk:Sts:=.cons (.asg (.var 15) Xvl) (.cons (.ite c7 no .nil) (.cons a7 .nil))
section
variable{w m q4:Nat}{env:En}{S:Sto}{r:List (List Int)}
theorem X2w(h2:2<=w)(h7:w<=7)(hm:m<4)(he:env.length=18)(h13:env[13]?=some (some (.int w)))(h14:env[14]?=some (some (.int ((m+1:Nat):Int))))(h5:env[5]?=some (some (Xa (bs w (Xy w m)))))(h6:env[6]?=some (some (Xa (bs w (X8 w m)))))(h4:env[4]?=some (some (.ref q4)))
  (hr:Xbb (Yc w m)=some r) (hq4:Xb S q4=some (r.map fun l=>Xa l)):∃ x S',exes (FT T G 14) G Xpk env S=.ok (.nx (env.set 15 x)) S'/\Up S S':=by
 have ro:=Xr2 ⟨w-2,by omega⟩ ⟨m,hm⟩
 simp only[show w-2+2=w by omega,hr,bA0] at ro
 obtain⟨q,X,e1,hq,hql⟩:=Xyz (S:=S) h2 h7 hm he h13 h14 hr;have s1:=Xai (i:=15) e1;have ht:Xb (S++X++[O.lst [Xa (bs w (Xy w m)),Xa (bs w (X8 w m)),.ref q]]) (S++X).length=some [Xa (bs w (Xy w m)),Xa (bs w (X8 w m)),.ref q]:=Xi;have hq':Xb (S++X++[O.lst [Xa (bs w (Xy w m)),Xa (bs w (X8 w m)),.ref q]]) q=some (r.map fun l=>Xa l):=Xg hq
 have hq4':Xb (S++X++[O.lst [Xa (bs w (Xy w m)),Xa (bs w (X8 w m)),.ref q]]) q4=some (r.map fun l=>Xa l):=Xg (Xg hq4)
 have u1:Up S (S++X++[O.lst [Xa (bs w (Xy w m)),Xa (bs w (X8 w m)),.ref q]]):=Up.app.trans .app;generalize (S++X).length=t at s1 ht;generalize S++X++[O.lst [Xa (bs w (Xy w m)),Xa (bs w (X8 w m)),.ref q]]=S1 at s1 ht hq' hq4' u1;have g15:(env.set 15 (some (D.ref t)))[15]?=some (some (.ref t)):=by rw[List.getElem?_set_self (by omega)]
 have g5:(env.set 15 (some (D.ref t)))[5]?=some (some (Xa (bs w (Xy w m)))):=by rw[List.getElem?_set_ne (by omega)];exact h5
 have g6:(env.set 15 (some (D.ref t)))[6]?=some (some (Xa (bs w (X8 w m)))):=by rw[List.getElem?_set_ne (by omega)];exact h6
 have g4:(env.set 15 (some (D.ref t)))[4]?=some (some (.ref q4)):=by rw[List.getElem?_set_ne (by omega)];exact h4
 have r1:=Xll ht hq' ro.2;have r2:=Xll (S:=S1++[.lst [Xa (bs w (Xy w m)),Xa (bs w (X8 w m)),.ref q4]]) (t:=S1.length) Xi (Xg hq4') ro.2;have hb3:([Xa (bs w (Xy w m)),Xa (bs w (X8 w m)),.ref q4]:List D).length<=big:=by show 3<=big;decide
 have hc:ev (FT T G 14) G c7 (env.set 15 (some (.ref t))) S1=.ok (.bl false) (S1++[.lst [Xa (bs w (Xy w m)),Xa (bs w (X8 w m)),.ref q4]]):=by
  simp only[c7,ev,evs,g15,g5,g6,g4,Rk0,r1,hb3,if_true,r2,Xne]
 have u2:Up S (S1++[.lst [Xa (bs w (Xy w m)),Xa (bs w (X8 w m)),.ref q4]]):=u1.trans .app;have ht2:Xb (S1++[.lst [Xa (bs w (Xy w m)),Xa (bs w (X8 w m)),.ref q4]]) t=some [Xa (bs w (Xy w m)),Xa (bs w (X8 w m)),.ref q]:=Xg ht;have hq2:Xb (S1++[.lst [Xa (bs w (Xy w m)),Xa (bs w (X8 w m)),.ref q4]]) q=some (r.map fun l=>Xa l):=Xg hq'
 generalize S1++[.lst [Xa (bs w (Xy w m)),Xa (bs w (X8 w m)),.ref q4]]=S2 at hc u2 ht2 hq2;have hi:Yt (.ref t) (.int 2) S2=.ok (.ref q) S2:=Xk7 ht2 (i:=2) rfl rfl;have hrl:r.length<1000:=by
  have:∀ w:Fin 6,∀ m:Fin 4,(match Xbb (Yc (w.val+2) m.val) with|some r=>decide (r.length<1000)|none=>false)=true:=by decide+kernel
  have:=this ⟨w-2,by omega⟩ ⟨m,hm⟩
  simp only[show w-2+2=w by omega,hr,decide_eq_true_eq] at this
  exact this
 have hrv:Xag .append (.ref q) S2=true:=by simp only[Xag,hq2,Option.isSome_some]
 have ha:=Xnb (x:=.int 0) hq2 (by rw[List.length_map];exact hrl)
 have s3:exe (FT T G 14) G a7 (env.set 15 (some (.ref t))) S2=.ok (.nx (env.set 15 (some (.ref t)))) (S2.set q (.lst ((r.map fun l=>Xa l)++[.int 0]))):=by
  simp only[a7,exe,ev,evs,g15,Rk0,hi,hrv,if_true,ha]
 refine⟨some (.ref t),S2.set q (.lst ((r.map fun l=>Xa l)++[.int 0])),?_,u2.set hql⟩
 unfold Xpk;rw[Xd s1,Xd (Xa4 hc),Xd s3,exes]
noncomputable def M7:St:=.for (.var 7) (.rng (.cons (.cst (.int 2)) .nil)) Xpk
theorem Xy0(h2:2<=w)(h7:w<=7)(hm:m<4)(he:env.length=18)(h13:env[13]?=some (some (.int w)))(h14:env[14]?=some (some (.int ((m+1:Nat):Int))))(h5:env[5]?=some (some (Xa (bs w (Xy w m)))))(h6:env[6]?=some (some (Xa (bs w (X8 w m)))))(h4:env[4]?=some (some (.ref q4)))
  (hr:Xbb (Yc w m)=some r) (hq4:Xb S q4=some (r.map fun l=>Xa l)):∃ e S',exe (FT T G 14) G M7 env S=.ok (.nx e) S'/\Same [7,15] e env/\Up S S':=by
 obtain⟨xs,hx,hxl⟩:=Yx (m:=2) (by omega) (by omega)
 obtain⟨e',S',f,sm,up⟩:=Xcj (F:=FT T G 14) (G:=G) (t:=.var 7) (b:=Xpk) (xs:=xs) (es:=.cons (.cst (.int 2)) .nil) (env:=env) (S:=S) (S1:=S) (ds:=[.int 2])
  (fun i e S'=>Same [7,15] e env/\Up S S') (by simp only[evs,ev,Rk0]) hx ⟨.refl,.refl⟩ (fun i d e S' hd hP=>by
   obtain⟨sm,up⟩:=hP;have s7:Same [7,15] (e.set 7 (some d)) env:=sm.set (by simp)
   have g:∀ j,j ∉ [7,15]->(e.set 7 (some d))[j]?=env[j]?:=s7.at';obtain⟨x,S2,hl,u⟩:=X2w (env:=e.set 7 (some d)) (S:=S') h2 h7 hm (by rw[s7.len];exact he) ((g 13 (by decide)).trans h13) ((g 14 (by decide)).trans h14) ((g 5 (by decide)).trans h5) ((g 6 (by decide)).trans h6) ((g 4 (by decide)).trans h4) hr (up.lst hq4)
   exact⟨_,_,S2,rfl,hl,s7.set (by simp),up.trans u⟩)
 exact⟨e',S',f,sm,up⟩
end
noncomputable def M8:St:=.asg (.var 8) (.call 29 (.cons (.cst (.int 2)) (.cons (.var 13) (.cons (.bin .add (.var 13) (.var 14)) .nil))))
noncomputable def M9:St:=.asg (.var 9) (.call 29 (.cons (.cst (.int 2)) (.cons (.cst (.int 3)) (.cons (.cst (.int 6)) .nil))))
noncomputable def c10:Ex:=.or (.cmp .ne (.blt .repr (.cons (.var 8) .nil)) (.blt .repr (.cons (.var 4) .nil))) (.cmp .ne (.blt .len (.cons (.var 9) .nil)) (.cst (.int 1)))
noncomputable def mid:Sts:=.cons M8 (.cons M9 (.cons (.ite c10 no .nil) .nil))
theorem X2x:((Xbb (Yc 3 2)).map List.length)=some 1:=by decide+kernel
section
variable{w m q4:Nat}{env:En}{S:Sto}{r:List (List Int)}
theorem X2y(h2:2<=w)(h7:w<=7)(hm:m<4)(he:env.length=18)(h13:env[13]?=some (some (.int w)))(h14:env[14]?=some (some (.int ((m+1:Nat):Int))))(h4:env[4]?=some (some (.ref q4)))
  (hr:Xbb (Yc w m)=some r) (hq4:Xb S q4=some (r.map fun l=>Xa l)):∃ e S',exes (FT T G 14) G mid env S=.ok (.nx e) S'/\Same [8,9] e env/\Up S S':=by
 have ro:=Xr2 ⟨w-2,by omega⟩ ⟨m,hm⟩
 simp only[show w-2+2=w by omega,hr,bA0] at ro
 have ep:(w:Int)+((m+1:Nat):Int)=((w+m+1:Nat):Int):=by omega
 obtain⟨r',hr',q,X,e1,hq,_⟩:=Xpg h2 h7 hm S;rw[hr] at hr';cases hr';have s1:exe (FT T G 14) G M8 env S=.ok (.nx (env.set 8 (some (.ref q)))) (S++X):=Xai (by
  simp only[ev,evs,h13,h14,Rk0,Yd,ep];exact e1)
 obtain⟨r9,hr9,q9,X9,e9,hq9,_⟩:=Xpg (w:=3) (m:=2) (by omega) (by omega) (by omega) (S++X)
 have h1:r9.length=1:=by
  have:=X2x;rw[hr9] at this
  simpa using this
 have s2:exe (FT T G 14) G M9 (env.set 8 (some (.ref q))) (S++X)=.ok (.nx ((env.set 8 (some (.ref q))).set 9 (some (.ref q9)))) (S++X++X9):=Xai (by
  simp only[ev,evs,Rk0];exact e9)
 have sm:Same [8,9] ((env.set 8 (some (.ref q))).set 9 (some (.ref q9))) env:=(Same.refl.set (by simp)).set (by simp)
 have g4:((env.set 8 (some (D.ref q))).set 9 (some (.ref q9)))[4]?=some (some (.ref q4)):=(sm.at' 4 (by decide)).trans h4
 have g8:((env.set 8 (some (D.ref q))).set 9 (some (.ref q9)))[8]?=some (some (.ref q)):=by rw[List.getElem?_set_ne (by omega),List.getElem?_set_self (by omega)]
 have g9:((env.set 8 (some (D.ref q))).set 9 (some (.ref q9)))[9]?=some (some (.ref q9)):=by rw[List.getElem?_set_self (by simp;omega)]
 have r1:=Xlk (S:=S++X++X9) (Xg hq) ro.1;have r2:=Xlk (S:=S++X++X9) (Xg (Xg hq4)) ro.1;have l9:Xh .len [.ref q9] (S++X++X9)=.ok (.int 1) (S++X++X9):=by rw[Xng hq9,List.length_map,h1];rfl
 have hc:ev (FT T G 14) G c10 ((env.set 8 (some (.ref q))).set 9 (some (.ref q9))) (S++X++X9)=.ok (.bl false) (S++X++X9):=by
  simp only[c10,ev,evs,g4,g8,g9,Rk0,r1,r2,Xne,Xl,l9,Xri];rfl
 refine⟨_,S++X++X9,?_,sm,Up.app.trans .app⟩;unfold mid;rw[Xd s1,Xd s2,Xd (Xa4 hc),exes]
noncomputable def noE:Ex:=.cmr false 2 (.cons (.var 19) (.rng (.cons (.cst (.int 3)) .nil)) .nil .nil) (.call 29 (.cons (.var 19) (.cons (.var 16) (.cons (.var 17) .nil))))
noncomputable def Xpl:Ex:=.bin .mul (.lst (.cons (.cst (.str "number")) .nil)) (.cst (.int 3))
noncomputable def Xjr:Sts:=.cons (.ite (.cmp .ne noE Xpl) no .nil) .nil
noncomputable def pn:PyData:=.list [.str "number",.str "number",.str "number"]
theorem X5o {S:Sto} {a b:Nat} (ha:Xb S a=some [.str "number",.str "number",.str "number"]) (hb:Xb S b=some [.str "number",.str "number",.str "number"]):Xo .ne (.ref a) (.ref b) S=.ok (.bl false) S:=by
 have dd:∀ a:Nat,Xb S a=some [.str "number",.str "number",.str "number"]->Ys S (.ref a)=some pn:=fun a h=>by
  show Ye S 4 a=_;rw[Ye,Xct h];simp only[datFs,Xw,Option.map_some];rfl
 have c1:(pn.canLay0&&pn.canLay0&&decide (pn.depth<=60))=true:=by decide+kernel
 have c2:PyData.eqv pn pn=true:=by decide+kernel
 have ts:Xb8 (.ref a) (.ref b)=none:=rfl;have key:eqD S (.ref a) (.ref b)=some true:=by simp only[eqD,ts,dd a ha,dd b hb,c1,c2,if_true]
 simp only[Xo,Yg,key,Option.map_some,Bool.not_true]
theorem Xy1{a b:D}(he:env.length=18)(h16:env[16]?=some (some a))(h17:env[17]?=some (some b))(hb:Bad S a b):∃ X,exes (FT T G 14) G Xjr env S=.ok (.nx env) (S++X):=by
 obtain⟨X,c⟩:=Xf0 (F:=FT T G 14) (G:=G) (env:=env) (L:=18) (m:=3) (cnt:=.cons (.cst (.int 3)) .nil) (elt:=.call 29 (.cons (.var 19) (.cons (.var 16) (.cons (.var 17) .nil)))) (y:=fun _=>.str "number") (S:=S) he (by
  simp only[evs,ev,Rk0];rfl) (by omega) (fun i hi X=>by
   obtain⟨Y,h⟩:=Xyw (v:=i) hi (hb.app (X:=X));have g16:(env++[none,some (D.int i)])[16]?=some (some a):=Y9 h16;have g17:(env++[none,some (D.int i)])[17]?=some (some b):=Y9 h17;have g19:(env++[none,some (D.int i)])[19]?=some (some (.int i)):=Xbi he _;refine⟨X++Y,?_⟩;simp only[ev,evs,g16,g17,g19,Rk0];rw[h,List.append_assoc])
 have em:((List.range 3).map fun _=>D.str "number")=[.str "number",.str "number",.str "number"]:=rfl
 rw[em] at c;generalize hS1:S++X++[O.lst [.str "number",.str "number",.str "number"]]=S1 at c;have q1:Xb S1 (S++X).length=some [.str "number",.str "number",.str "number"]:=by rw[<- hS1];exact Xi
 have hl1:lstM (S1++[O.lst [.str "number"]]) S1.length=some [.str "number"]:=Xi;have t:ev (FT T G 14) G Xpl env S1=.ok (.ref (S1++[O.lst [.str "number"]]).length) (S1++[.lst [.str "number"]]++[.lst [.str "number",.str "number",.str "number"]]):=by
  simp only[Xpl,ev,evs,Rk0];rw[if_pos (show([D.str "number"]:List D).length<=big by decide),Rk0]
  simp only[Xm,hl1];rw[if_pos ⟨by decide,by decide,by decide⟩]
  rfl
 have hn:=X5o (S:=S1++[.lst [.str "number"]]++[.lst [.str "number",.str "number",.str "number"]]) (Xg (Xg q1)) (Xi (S:=S1++[O.lst [.str "number"]]));have hc:ev (FT T G 14) G (.cmp .ne noE Xpl) env S=.ok (.bl false) (S1++[.lst [.str "number"]]++[.lst [.str "number",.str "number",.str "number"]]):=by
  rw[ev];unfold noE;rw[c,Rk0,t,Rk0];exact hn
 refine⟨X++[O.lst [.str "number",.str "number",.str "number"]]++[.lst [.str "number"]]++[.lst [.str "number",.str "number",.str "number"]],?_⟩;rw[show S++(X++[O.lst [.str "number",.str "number",.str "number"]]++[.lst [.str "number"]]++[.lst [.str "number",.str "number",.str "number"]])=S1++[.lst [.str "number"]]++[.lst [.str "number",.str "number",.str "number"]] by rw[<- hS1];simp]
 unfold Xjr;rw[Xd (Xa4 hc),exes]
end
noncomputable def tkp(c:Int):Ex:=.call 23 (.cons (.var 2) (.cons (.cst (.int c)) .nil))
noncomputable def i30:Ex:=.bin .pow (.cst (.int 10)) (.cst (.int 30))
noncomputable def ng(i:Int):Ex:=.neg (.cst (.int i))
noncomputable def Xur:Exs:=.cons (.cst (.int 0)) (.cons (.cst (.int 5)) (.cons (ng 1) (.cons i30 (.cons (ng 2) (.cons (.cst (.int 6)) (.cons (.cst (.int 7)) (.cons (ng 9) .nil)))))))
noncomputable def Xus:Exs:=.cons (.cst (.bl true)) (.cons (.cst .non) (.cons (.cst (.str "3")) (.cons (.tup (.cons (.cst (.int 3)) .nil)) (.cons (.lst (.cons (.cst (.int 3)) .nil)) (.cons (.cst (.bl false)) (.cons .dct0 (.cons (.cst (.int 1)) .nil)))))))
noncomputable def Xpm:Exs:=.cons (.cst (.int 1)) (.cons (.cst (.int 8)) (.cons (ng 1) (.cons (.cst (.bl true)) (.cons (.cst .non) (.cons (.cst (.str "2")) (.cons (.tup (.cons (.cst (.int 2)) .nil)) (.cons i30 .nil)))))))
noncomputable def Xg5:Exs:=.cons (.tup (.cons (.var 13) (.cons (.bin .add (.var 13) (.var 10)) .nil))) (.cons (.tup (.cons (.var 13) (.cons (.var 11) .nil))) (.cons (.tup (.cons (.var 12) (.cons (.cst (.int 4)) .nil))) (.cons (.tup (.cons (.var 12) (.cons (.var 11) .nil))) (.cons (.tup (.cons (.var 11) (.cons (.bin .add (.var 13) (.var 14)) .nil))) .nil))))
noncomputable def M1:St:=.asg (.var 2) (.call 22 (.cons (.call 21 (.cons (.var 0) (.cons (.var 1) .nil))) .nil))
noncomputable def M2:St:=.asg (.tup [13,14]) (.tup (.cons (.bin .add (.cst (.int 2)) (tkp 6)) (.cons (.bin .add (.cst (.int 1)) (tkp 4)) .nil)))
noncomputable def M3:St:=.asg (.var 3) (.call 30 (.cons (.var 13) (.cons (.bin .add (.var 13) (.var 14)) .nil)))
noncomputable def M4:St:=.asg (.var 4) Xph
noncomputable def M5:St:=.asg (.var 5) Xuo
noncomputable def M6:St:=.asg (.var 6) Xpj
noncomputable def M11:St:=.asg (.var 10) (.idx (.lst Xur) (tkp 8))
noncomputable def M12:St:=.asg (.var 11) (.idx (.lst Xus) (tkp 8))
noncomputable def M13:St:=.asg (.var 12) (.idx (.lst Xpm) (tkp 8))
noncomputable def M14:St:=.for (.tup [16,17]) (.val (.lst Xg5)) Xjr
noncomputable def Xpn:Sts:=.cons M11 (.cons M12 (.cons M13 (.cons M14 .nil)))
noncomputable def Xjs:Sts:=.cons M1 (.cons M2 (.cons M3 (.cons M4 (.cons M5 (.cons M6 (.cons M7 (cat mid Xpn)))))))
theorem Xut:Xvi=.cons (.for (.var 1) (.rng (.cons (.blt .max (.cons (.cst (.int 1)) (.cons (.blt .min (.cons (.blt .len (.cons (.var 0) .nil)) (.cons (.cst (.int 6)) .nil))) .nil))) .nil)) Xjs) (.cons (.ret (.cst (.bl true))) .nil):=rfl
noncomputable def Xlm:Int:=10^(30:Int).toNat
theorem Xvm(S:Sto):Xm .pow (.int 10) (.int 30) S=.ok (.int Xlm) S:=Xhw (by decide+kernel) S
noncomputable def Xil:List D:=[.int 0,.int 5,.int (-1),.int Xlm,.int (-2),.int 6,.int 7,.int (-9)]
noncomputable def Xf8(q:Nat):List D:=[.bl true,.non,.str "3",.tup [.int 3],.ref q,.bl false,.ref (q+1),.int 1]
noncomputable def Xe3:List D:=[.int 1,.int 8,.int (-1),.bl true,.non,.str "2",.tup [.int 2],.int Xlm]
section
variable{F:Fn}
theorem Xr3(i:Int)(env:En)(S:Sto):ev F G (ng i) env S=.ok (.int (-i)) S:=rfl
theorem Xy2(env:En)(S:Sto):evs F G Xur env S=.ok Xil S:=by
 simp only[Xur,Xil,i30,evs,Xr3,ev,Rk0,Xvm]
theorem Xuu(env:En)(S:Sto):evs F G Xpm env S=.ok Xe3 S:=by
 have h1:([D.int 2]:List D).length<=big:=by decide
 simp only[Xpm,Xe3,i30,evs,Xr3,ev,Rk0,Xvm,h1,if_true]
theorem Xy3(env:En)(S:Sto):evs F G Xus env S=.ok (Xf8 S.length) (S++[.lst [.int 3]]++[.dct []]):=by
 have h1:([D.int 3]:List D).length<=big:=by decide
 simp only[Xus,Xf8,evs,ev,Rk0,h1,if_true];rw[List.length_append];rfl
end
theorem d8:Xae 8=true:=by decide+kernel
theorem Xy4{d:D}(h:d∈Xil):∃ i:Int,d=.int i/\∀ w:Int,wi (.int (w+i)) (w+1) (w+4)=false:=by
 have e:Xlm=1000000000000000000000000000000:=by decide+kernel
 unfold Xil at h;rw[e] at h;simp only[List.mem_cons,List.not_mem_nil,or_false] at h;rcases h with rfl|rfl|rfl|rfl|rfl|rfl|rfl|rfl<;>refine⟨_,rfl,fun w=>?_⟩<;>(simp only[wi,Bool.and_eq_false_iff,decide_eq_false_iff_not];omega)
theorem Xuv{d:D}(h:d∈Xe3)(S:Sto):good S d/\wi d 2 7=false:=by
 have e:wi (.int Xlm) 2 7=false:=by decide+kernel
 unfold Xe3 at h;simp only[List.mem_cons,List.not_mem_nil,or_false] at h;rcases h with rfl|rfl|rfl|rfl|rfl|rfl|rfl|rfl
 ·exact⟨Xa1 S _,rfl⟩
 ·exact⟨Xa1 S _,rfl⟩
 ·exact⟨Xa1 S _,rfl⟩
 ·exact⟨Xbg S _ (fun _ z=>nomatch z) (fun _ _ z=>nomatch z),rfl⟩
 ·exact⟨Xbg S _ (fun _ z=>nomatch z) (fun _ _ z=>nomatch z),rfl⟩
 ·exact⟨Xbg S _ (fun _ z=>nomatch z) (fun _ _ z=>nomatch z),rfl⟩
 ·exact⟨Xbg S _ (fun _ z=>nomatch z) (fun _ _ z=>nomatch z),rfl⟩
 ·exact⟨Xa1 S _,e⟩
theorem Xy5{p:Nat}{d:D}{S:Sto}(hp:p<S.length)(h:d∈Xf8 S.length):El p (S++[.lst [.int 3]]++[.dct []]) d/\wi d 2 7=false/\∀ w:Int,2<=w->wi d (w+1) (w+4)=false:=by
 have a1:Xb (S++[O.lst [.int 3]]++[O.dct []]) S.length=some [.int 3]:=Xg Xi;have a2:(S++[O.lst [.int 3]]++[O.dct []])[S.length+1]?=some (.dct []):=by
  rw[List.getElem?_append_right (by simp)];simp
 have i3:FSm 0 1921 (.int 3):=Xrm (by decide)
 unfold Xf8 at h;simp only[List.mem_cons,List.not_mem_nil,or_false] at h;rcases h with rfl|rfl|rfl|rfl|rfl|rfl|rfl|rfl
 ·exact⟨Xcl Xvh (by omega) (by omega),rfl,fun _ _=>rfl⟩
 ·exact⟨Xcl X2a (by omega) (by omega),rfl,fun _ _=>rfl⟩
 ·exact⟨Xcl (X2b (by decide+kernel)) (by omega) (by omega),rfl,fun _ _=>rfl⟩
 ·exact⟨Xcl (X2d i3) (by omega) (by omega),rfl,fun _ _=>rfl⟩
 ·exact⟨X2f (by omega) a1 (fun x hx=>by rw[List.mem_singleton.mp hx];exact i3) (by omega) (by decide),rfl,fun _ _=>rfl⟩
 ·exact⟨Xcl Xvh (by omega) (by omega),rfl,fun _ _=>rfl⟩
 ·exact⟨X2g (by omega) a2,rfl,fun _ _=>rfl⟩
 ·exact⟨X2h (by decide),rfl,fun w hw=>by simp only[wi,Bool.and_eq_false_iff,decide_eq_false_iff_not];omega⟩
theorem Xg6:Xok (FT T G 14) 23:=Xtu t23 13
theorem gs{e:En}{i:Nat}{x:Option D}(h:i<e.length):(e.set i x)[i]?=some x:=List.getElem?_set_self h
theorem gn{e:En}{i j:Nat}{x:Option D}(h:i≠j):(e.set i x)[j]?=e[j]?:=List.getElem?_set_ne h
section
variable{w m p:Nat}{env:En}{S:Sto}{v:Int}
theorem Xy6(h2:2<=w)(h7:w<=7)(hm:m<4)(he:env.length=18)(hP:env[2]?=some (some (.ref p)))(h13:env[13]?=some (some (.int w)))(h14:env[14]?=some (some (.int ((m+1:Nat):Int))))(hp:Xb S p=some [.int v]) :
  ∃ e S',exes (FT T G 14) G Xpn env S=.ok (.nx e) S'/\e.length=18/\e[0]?=env[0]?:=by
 obtain⟨o1,m1,e1⟩:=Xtv (G:=G) Xg6 (q:=2) (c:=8) (p:=p) (v:=v) (env:=env) (Xy2 env S) rfl (by decide) (by show 8<=big;decide) d8 hP hp
 have p1:=Xi0 (ds:=Xil) (c:=8) hp;have s1:exe (FT T G 14) G M11 env S=.ok (.nx (env.set 10 (some o1))) _:=Xai e1;generalize (S++[O.lst Xil]).set p (.lst [.int (v/8)])=S1 at s1 p1;generalize v/8=v1 at p1;obtain⟨o2,m2,e2⟩:=Xtv (G:=G) Xg6 (q:=2) (c:=8) (p:=p) (v:=v1) (env:=env.set 10 (some o1)) (Xy3 _ S1) rfl (by decide) (by show 8<=big;decide) d8 ((gn (by omega)).trans hP) (Xg (Xg p1))
 have p2:=Xi0 (ds:=Xf8 S1.length) (c:=8) (Xg (X:=[.dct []]) (Xg (X:=[.lst [.int 3]]) p1));obtain⟨el2,b2,c2⟩:=Xy5 (Xei p1) m2;have el3:El p ((S1++[O.lst [.int 3]]++[O.dct []]++[O.lst (Xf8 S1.length)]).set p (.lst [.int (v1/8)])) o2:=el2.mono (Ext.app.trans .set);have s2:exe (FT T G 14) G M12 (env.set 10 (some o1)) S1=.ok (.nx ((env.set 10 (some o1)).set 11 (some o2))) _:=Xai e2;generalize (S1++[O.lst [.int 3]]++[O.dct []]++[O.lst (Xf8 S1.length)]).set p (.lst [.int (v1/8)])=S2 at s2 p2 el3;generalize v1/8=v2 at p2;obtain⟨o3,m3,e3⟩:=Xtv (G:=G) Xg6 (q:=2) (c:=8) (p:=p) (v:=v2) (env:=(env.set 10 (some o1)).set 11 (some o2)) (Xuu _ S2) rfl (by decide) (by show 8<=big;decide) d8 ((gn (by omega)).trans ((gn (by omega)).trans hP)) p2
 have el4:El p ((S2++[O.lst Xe3]).set p (.lst [.int (v2/8)])) o2:=el3.mono (Ext.app.trans .set);have s3:exe (FT T G 14) G M13 ((env.set 10 (some o1)).set 11 (some o2)) S2=.ok (.nx (((env.set 10 (some o1)).set 11 (some o2)).set 12 (some o3))) _:=Xai e3;generalize (S2++[O.lst Xe3]).set p (.lst [.int (v2/8)])=S3 at s3 el4;have hE:(((env.set 10 (some o1)).set 11 (some o2)).set 12 (some o3)).length=18:=by simp[he]
 have g0:(((env.set 10 (some o1)).set 11 (some o2)).set 12 (some o3))[0]?=env[0]?:=by rw[gn (by omega),gn (by omega),gn (by omega)]
 have g10:(((env.set 10 (some o1)).set 11 (some o2)).set 12 (some o3))[10]?=some (some o1):=by rw[gn (by omega),gn (by omega),gs (by omega)]
 have g11:(((env.set 10 (some o1)).set 11 (some o2)).set 12 (some o3))[11]?=some (some o2):=by rw[gn (by omega),gs (by simp;omega)]
 have g12:(((env.set 10 (some o1)).set 11 (some o2)).set 12 (some o3))[12]?=some (some o3):=gs (by simp;omega)
 have g13:(((env.set 10 (some o1)).set 11 (some o2)).set 12 (some o3))[13]?=some (some (.int w)):=by rw[gn (by omega),gn (by omega),gn (by omega)];exact h13
 have g14:(((env.set 10 (some o1)).set 11 (some o2)).set 12 (some o3))[14]?=some (some (.int ((m+1:Nat):Int))):=by rw[gn (by omega),gn (by omega),gn (by omega)];exact h14
 generalize ((env.set 10 (some o1)).set 11 (some o2)).set 12 (some o3)=E at s3 hE g0 g10 g11 g12 g13 g14;obtain⟨i1,rfl,b1⟩:=Xy4 m1;have b3:=Xuv m3;have wt:wi (.int w) 2 7=true:=Xq7 (by omega) (by omega)
 have hb2:(2:Nat)<=big:=by decide
 have hl:ev (FT T G 14) G (.lst Xg5) E S3=.ok (.ref S3.length) (S3++[.lst [.tup [.int w,.int ((w:Int)+i1)],.tup [.int w,o2],.tup [o3,.int 4],.tup [o3,o2],.tup [o2,.int ((w:Int)+((m+1:Nat):Int))]]]):=by
  have t:∀ {a b:Ex} {x y:D},(∀ S,ev (FT T G 14) G a E S=.ok x S)->(∀ S,ev (FT T G 14) G b E S=.ok y S)->∀ S,ev (FT T G 14) G (.tup (.cons a (.cons b .nil))) E S=.ok (.tup [x,y]) S:=fun ha hb S=>by
   simp only[ev,evs,ha,hb,Rk0];exact if_pos hb2
  have v10:∀ S,ev (FT T G 14) G (.bin .add (.var 13) (.var 10)) E S=.ok (.int ((w:Int)+i1)) S:=fun S=>by simp only[ev,g13,g10,Rk0,Yd]
  have v14:∀ S,ev (FT T G 14) G (.bin .add (.var 13) (.var 14)) E S=.ok (.int ((w:Int)+((m+1:Nat):Int))) S:=fun S=>by simp only[ev,g13,g14,Rk0,Yd]
  have v13:∀ S,ev (FT T G 14) G (.var 13) E S=.ok (.int w) S:=fun S=>by simp only[ev,g13]
  have v11:∀ S,ev (FT T G 14) G (.var 11) E S=.ok o2 S:=fun S=>by simp only[ev,g11]
  have v12:∀ S,ev (FT T G 14) G (.var 12) E S=.ok o3 S:=fun S=>by simp only[ev,g12]
  have v4:∀ S,ev (FT T G 14) G (.cst (.int 4)) E S=.ok (.int 4) S:=fun S=>by simp only[ev]
  rw[ev];unfold Xg5;rw[evs,t v13 v10,Rk0,evs,t v13 v11,Rk0,evs,t v12 v4,Rk0,evs,t v12 v11,Rk0,evs,t v11 v14,Rk0,evs];simp only[Rk0];exact if_pos (by show 5<=big;decide)
 have bad:∀ d∈[D.tup [.int w,.int ((w:Int)+i1)],.tup [.int w,o2],.tup [o3,.int 4],.tup [o3,o2],.tup [o2,.int ((w:Int)+((m+1:Nat):Int))]],∃ a b,d=.tup [a,b]/\Bad S3 a b:=fun d hd=>by
  have go2:good S3 o2:=(el4 S3 .refl).2;simp only[List.mem_cons,List.not_mem_nil,or_false] at hd;rcases hd with rfl|rfl|rfl|rfl|rfl
  ·exact⟨_,_,rfl,.inr ⟨w,rfl,wt,Xa1 S3 _,b1 w⟩⟩
  ·exact⟨_,_,rfl,.inr ⟨w,rfl,wt,go2,c2 w (by omega)⟩⟩
  ·exact⟨_,_,rfl,.inl (b3 S3)⟩
  ·exact⟨_,_,rfl,.inl (b3 S3)⟩
  ·exact⟨_,_,rfl,.inl ⟨go2,b2⟩⟩
 generalize [D.tup [.int w,.int ((w:Int)+i1)],.tup [.int w,o2],.tup [o3,.int 4],.tup [o3,o2],.tup [o2,.int ((w:Int)+((m+1:Nat):Int))]]=xs at hl bad;obtain⟨e',S',f,sm,X,rfl⟩:=Xye (F:=FT T G 14) (G:=G) (t:=.tup [16,17]) (e0:=.lst Xg5) (b:=Xjr) (xs:=xs) (r:=S3.length) (env:=E) (S:=S3) (S1:=S3++[.lst xs])
  (fun i e S'=>Same [16,17] e E/\∃ X,S'=S3++[.lst xs]++X) hl Xi (fun i e S' ⟨_,X,h⟩=>by rw[h];exact Xg Xi) ⟨.refl,[],by simp⟩ (fun i d e S' hd hP=>by
   obtain⟨sm,X,rfl⟩:=hP;obtain⟨a,b,rfl,hb⟩:=bad d (List.mem_of_getElem? hd);have sm2:Same [16,17] ((e.set 16 (some a)).set 17 (some b)) E:=(sm.set (by simp)).set (by simp)
   obtain⟨Y,hy⟩:=Xy1 (env:=(e.set 16 (some a)).set 17 (some b)) (S:=S3++[.lst xs]++X) (a:=a) (b:=b) (by rw[sm2.len];exact hE) (by rw[gn (by omega),gs (by rw[sm.len];omega)]) (gs (by simp[sm.len];omega)) (hb.app.app)
   exact⟨_,_,_,rfl,hy,sm2,X++Y,by rw[List.append_assoc]⟩)
 refine⟨e',S3++[.lst xs]++X,?_,by rw[sm.len];exact hE,by rw[sm.at' 0 (by decide)];exact g0⟩
 unfold Xpn;have f':exe (FT T G 14) G M14 E S3=_:=f;rw[Xd s1,Xd s2,Xd s3,Xd f',exes]
end
theorem d6:Xae 6=true:=by decide+kernel
theorem d4:Xae 4=true:=by decide+kernel
theorem Xy7(x y:D)(e:En)(S:Sto):(match Xp (.tup [13,14]) (.tup [x,y]) e with
  | some e'=>R.ok (Fl.nx e') S
  | none=>.bad)=.ok (.nx ((e.set 13 (some x)).set 14 (some y))) S:=rfl
theorem w3{F:Fn}{env:En}{S S':Sto}{d:D}(h:ev F G (.call 30 (.cons (.var 13) (.cons (.bin .add (.var 13) (.var 14)) .nil))) env S=.ok d S'):exe F G M3 env S=.ok (.nx (env.set 3 (some d))) S':=Xai h
theorem w4{F:Fn}{w x:Int}{y:Int}{env:En}(h13:env[13]?=some (some (.int w)))(h14:env[14]?=some (some (.int x)))(ep:w+x=y)(S:Sto):ev F G (.call 30 (.cons (.var 13) (.cons (.bin .add (.var 13) (.var 14)) .nil))) env S=F 30 [.int w,.int y] S:=by
 simp only[ev,evs,h13,h14,Rk0,Yd,ep]
theorem X4m{w m:Nat}{env:En}(h2:2<=w)(h7:w<=7)(hm:m<4)(h13:env[13]?=some (some (.int w)))(h14:env[14]?=some (some (.int ((m+1:Nat):Int))))(S:Sto):∃ q X,exe (FT T G 14) G M3 env S=.ok (.nx (env.set 3 (some (.ref q)))) (S++X)/\Xb (S++X) q=some ((Xk w m).map fun l=>Xa l):=by
 obtain⟨q,X,f,hq,_⟩:=Xuq h2 h7 hm S;have ep:(w:Int)+((m+1:Nat):Int)=((w+m+1:Nat):Int):=by omega
 exact⟨q,X,w3 ((w4 h13 h14 ep S).trans f),hq⟩
theorem turn{ns:List Int}{i:Nat}{env:En}{S:Sto}(he:env.length=18)(h0:env[0]?=some (some (.fro (ns.map D.int))))(h1:env[1]?=some (some (.int i))) :
  ∃ e S',exes (FT T G 14) G Xjs env S=.ok (.nx e) S'/\e.length=18/\e[0]?=some (some (.fro (ns.map D.int))):=by
 obtain⟨c,hc⟩:=Xtp (F:=FT T G 13) (G:=G) ns i S;obtain⟨v,hv⟩:=Xx0 (F:=FT T G 13) (G:=G) c S;have f8:FT T G 14 21 [.fro (ns.map D.int),.int i] S=.ok (.int c) S:=by rw[ftx t21];exact hc
 have f9:FT T G 14 22 [.int c] S=.ok (.ref S.length) (S++[.lst [.int v]]):=by rw[ftx t22];exact hv
 have s1:exe (FT T G 14) G M1 env S=.ok (.nx (env.set 2 (some (.ref S.length)))) (S++[.lst [.int v]]):=Xai (by
  simp only[ev,evs,h0,h1,Rk0,f8,f9])
 have p1:Xb (S++[O.lst [.int v]]) S.length=some [.int v]:=Xi;generalize S++[O.lst [.int v]]=S1 at s1 p1;generalize S.length=p at s1 p1;have k2:(env.set 2 (some (D.ref p)))[2]?=some (some (.ref p)):=gs (by omega)
 have t1:=Xg6 p v 6 S1 p1 (by omega) d6
 have p2:Xb (S1.set p (.lst [.int (v/6)])) p=some [.int (v/6)]:=Xh2 (Xei p1);have t2:=Xg6 p (v/6) 4 _ p2 (by omega) d4
 have p3:Xb ((S1.set p (.lst [.int (v/6)])).set p (.lst [.int (v/6/4)])) p=some [.int (v/6/4)]:=Xh2 (Xei p2);have n0:=Int.emod_nonneg v (show(6:Int)≠0 by omega)
 have n1:=Int.emod_lt_of_pos v (show(0:Int)<6 by omega)
 have n2:=Int.emod_nonneg (v/6) (show(4:Int)≠0 by omega)
 have n3:=Int.emod_lt_of_pos (v/6) (show(0:Int)<4 by omega)
 obtain⟨w,hw⟩:∃ w:Nat,2+v%6=(w:Int):=⟨(2+v%6).toNat,by omega⟩
 obtain⟨m,hmm⟩:∃ m:Nat,v/6%4=(m:Int):=⟨(v/6%4).toNat,by omega⟩
 have em:1+v/6%4=((m+1:Nat):Int):=by omega
 have h2:2<=w:=by omega
 have h7:w<=7:=by omega
 have hm:m<4:=by omega
 have s2:exe (FT T G 14) G M2 (env.set 2 (some (.ref p))) S1=.ok (.nx (((env.set 2 (some (.ref p))).set 13 (some (.int w))).set 14 (some (.int ((m+1:Nat):Int))))) ((S1.set p (.lst [.int (v/6)])).set p (.lst [.int (v/6/4)])):=by
  have hb:([D.int w,.int ((m+1:Nat):Int)]:List D).length<=big:=by show 2<=big;decide
  have hev:ev (FT T G 14) G (.tup (.cons (.bin .add (.cst (.int 2)) (tkp 6)) (.cons (.bin .add (.cst (.int 1)) (tkp 4)) .nil))) (env.set 2 (some (.ref p))) S1=.ok (.tup [.int w,.int ((m+1:Nat):Int)]) ((S1.set p (.lst [.int (v/6)])).set p (.lst [.int (v/6/4)])):=by
   simp only[tkp,ev,evs,k2,Rk0,t1,t2,Yd,hw,em,hb,if_true]
  unfold M2;rw[exe,hev,Rk0];exact Xy7 _ _ _ _
 generalize (S1.set p (.lst [.int (v/6)])).set p (.lst [.int (v/6/4)])=S2 at s2 p3;generalize v/6/4=v3 at p3;have l2:(((env.set 2 (some (D.ref p))).set 13 (some (.int w))).set 14 (some (.int ((m+1:Nat):Int)))).length=18:=by simp[he]
 have a0:(((env.set 2 (some (D.ref p))).set 13 (some (.int w))).set 14 (some (.int ((m+1:Nat):Int))))[0]?=some (some (.fro (ns.map D.int))):=by rw[gn (by omega),gn (by omega),gn (by omega)];exact h0
 have a2:(((env.set 2 (some (D.ref p))).set 13 (some (.int w))).set 14 (some (.int ((m+1:Nat):Int))))[2]?=some (some (.ref p)):=by rw[gn (by omega),gn (by omega)];exact k2
 have a13:(((env.set 2 (some (D.ref p))).set 13 (some (.int w))).set 14 (some (.int ((m+1:Nat):Int))))[13]?=some (some (.int w)):=by rw[gn (by omega),gs (by simp;omega)]
 have a14:(((env.set 2 (some (D.ref p))).set 13 (some (.int w))).set 14 (some (.int ((m+1:Nat):Int))))[14]?=some (some (.int ((m+1:Nat):Int))):=gs (by simp;omega)
 generalize ((env.set 2 (some (D.ref p))).set 13 (some (.int w))).set 14 (some (.int ((m+1:Nat):Int)))=E at s2 l2 a0 a2 a13 a14;have ep:(w:Int)+((m+1:Nat):Int)=((w+m+1:Nat):Int):=by omega
 obtain⟨q3,X3,s3,hq3⟩:=X4m h2 h7 hm a13 a14 S2;obtain⟨r,hr⟩:=Option.isSome_iff_exists.mp (Xrz ⟨w-2,by omega⟩ ⟨m,hm⟩)
 simp only[show w-2+2=w by omega] at hr
 obtain⟨X4,f4⟩:=Xyx (env:=E.set 3 (some (.ref q3))) (S:=S2++X3) h2 h7 hm (by simp[l2]) ((gn (by omega)).trans a13) (gs (by omega)) hq3 hr
 have s4:exe (FT T G 14) G M4 (E.set 3 (some (.ref q3))) (S2++X3)=.ok (.nx ((E.set 3 (some (.ref q3))).set 4 (some (.ref (S2++X3++X4).length)))) (S2++X3++X4++[.lst (r.map fun l=>Xa l)]):=Xai f4
 have hq4:Xb (S2++X3++X4++[O.lst (r.map fun l=>Xa l)]) (S2++X3++X4).length=some (r.map fun l=>Xa l):=Xi
 have hq3':Xb (S2++X3++X4++[O.lst (r.map fun l=>Xa l)]) q3=some ((Xk w m).map fun l=>Xa l):=Xg (Xg hq3)
 have p4:Xb (S2++X3++X4++[O.lst (r.map fun l=>Xa l)]) p=some [.int v3]:=Xg (Xg (Xg p3))
 generalize (S2++X3++X4).length=q4 at s4 hq4;generalize S2++X3++X4++[O.lst (r.map fun l=>Xa l)]=S4 at s4 hq4 hq3' p4
 obtain⟨X5,f5⟩:=X2r (env:=(E.set 3 (some (.ref q3))).set 4 (some (.ref q4))) (S:=S4) h2 h7 hm ((gn (by omega)).trans ((gn (by omega)).trans a13)) ((gn (by omega)).trans ((gn (by omega)).trans a14))
 have s5:exe (FT T G 14) G M5 ((E.set 3 (some (.ref q3))).set 4 (some (.ref q4))) S4=.ok (.nx (((E.set 3 (some (.ref q3))).set 4 (some (.ref q4))).set 5 (some (Xa (bs w (Xy w m)))))) (S4++X5):=Xai f5;obtain⟨X6,f6⟩:=Xyy (env:=((E.set 3 (some (.ref q3))).set 4 (some (.ref q4))).set 5 (some (Xa (bs w (Xy w m))))) (S:=S4++X5) (q:=q3) h2 h7 hm (by simp[l2]) (by rw[gn (by omega),gn (by omega),gn (by omega)];exact a13) (by rw[gn (by omega),gn (by omega),gs (by omega)]) (Xg hq3')
 have s6:exe (FT T G 14) G M6 (((E.set 3 (some (.ref q3))).set 4 (some (.ref q4))).set 5 (some (Xa (bs w (Xy w m))))) (S4++X5)=.ok (.nx ((((E.set 3 (some (.ref q3))).set 4 (some (.ref q4))).set 5 (some (Xa (bs w (Xy w m))))).set 6 (some (Xa (bs w (X8 w m)))))) (S4++X5++X6):=Xai f6;have hL:((((E.set 3 (some (D.ref q3))).set 4 (some (.ref q4))).set 5 (some (Xa (bs w (Xy w m))))).set 6 (some (Xa (bs w (X8 w m))))).length=18:=by simp[l2]
 have b:∀ j,j≠3->j≠4->j≠5->j≠6->((((E.set 3 (some (D.ref q3))).set 4 (some (.ref q4))).set 5 (some (Xa (bs w (Xy w m))))).set 6 (some (Xa (bs w (X8 w m)))))[j]?=E[j]?:=fun j x3 x4 x5 x6=>by rw[gn (Ne.symm x6),gn (Ne.symm x5),gn (Ne.symm x4),gn (Ne.symm x3)]
 have b4:((((E.set 3 (some (D.ref q3))).set 4 (some (.ref q4))).set 5 (some (Xa (bs w (Xy w m))))).set 6 (some (Xa (bs w (X8 w m)))))[4]?=some (some (.ref q4)):=by rw[gn (by omega),gn (by omega),gs (by simp;omega)]
 have b5:((((E.set 3 (some (D.ref q3))).set 4 (some (.ref q4))).set 5 (some (Xa (bs w (Xy w m))))).set 6 (some (Xa (bs w (X8 w m)))))[5]?=some (some (Xa (bs w (Xy w m)))):=by rw[gn (by omega),gs (by simp;omega)]
 have b6:((((E.set 3 (some (D.ref q3))).set 4 (some (.ref q4))).set 5 (some (Xa (bs w (Xy w m))))).set 6 (some (Xa (bs w (X8 w m)))))[6]?=some (some (Xa (bs w (X8 w m)))):=gs (by simp;omega)
 generalize (((E.set 3 (some (D.ref q3))).set 4 (some (.ref q4))).set 5 (some (Xa (bs w (Xy w m))))).set 6 (some (Xa (bs w (X8 w m))))=E6 at s6 hL b b4 b5 b6;have c13:=(b 13 (by decide) (by decide) (by decide) (by decide)).trans a13
 have c14:=(b 14 (by decide) (by decide) (by decide) (by decide)).trans a14
 have c2:=(b 2 (by decide) (by decide) (by decide) (by decide)).trans a2
 have c0:=(b 0 (by decide) (by decide) (by decide) (by decide)).trans a0
 obtain⟨E7,S7,f7,sm7,u7⟩:=Xy0 (env:=E6) (S:=S4++X5++X6) h2 h7 hm hL c13 c14 b5 b6 b4 hr (Xg (Xg hq4));obtain⟨E8,S8,f8',sm8,u8⟩:=X2y (env:=E7) (S:=S7) h2 h7 hm (by rw[sm7.len];exact hL) ((sm7.at' 13 (by decide)).trans c13) ((sm7.at' 14 (by decide)).trans c14) ((sm7.at' 4 (by decide)).trans b4) hr (u7.lst (Xg (Xg hq4)))
 have p8:Xb S8 p=some [.int v3]:=u8.lst (u7.lst (Xg (Xg p4)));obtain⟨e,S9,f9',l9,z9⟩:=Xy6 (env:=E8) (S:=S8) (p:=p) (v:=v3) h2 h7 hm (by rw[sm8.len,sm7.len];exact hL) ((sm8.at' 2 (by decide)).trans ((sm7.at' 2 (by decide)).trans c2)) ((sm8.at' 13 (by decide)).trans ((sm7.at' 13 (by decide)).trans c13)) ((sm8.at' 14 (by decide)).trans ((sm7.at' 14 (by decide)).trans c14)) p8
 refine⟨e,S9,?_,l9,?_⟩
 ·unfold Xjs
  rw[Xd s1,Xd s2,Xd s3,Xd s4,Xd s5,Xd s6,Xd f7,Xf7 mid f8'];exact f9'
 ·rw[z9,sm8.at' 0 (by decide),sm7.at' 0 (by decide)]
  exact c0
theorem law_true(ns:List Int)(h:ns.length<=63):∃ S',FT T G 15 31 [.fro (ns.map D.int)] []=.ok (.bl true) S':=by
 show ∃ S',den (FT T G 14) G Xg0 [.fro (ns.map D.int)] []=_;obtain⟨m,hm,m0,m1⟩:=Z.turns (F:=FT T G 14) (G:=G) (env:=some (D.fro (ns.map D.int))::List.replicate 17 none) (S:=[]) (ns:=ns) 6 (by decide) (by decide) rfl
 obtain⟨xs,hx,hl⟩:=Yx (m:=m) m0 (Xh1 (by omega))
 obtain⟨e',S',f2,_,_⟩:=Xcj (F:=FT T G 14) (G:=G) (t:=.var 1) (b:=Xjs) (xs:=xs)
  (fun i e S'=>e.length=18/\e[0]?=some (some (.fro (ns.map D.int)))) hm hx ⟨rfl,rfl⟩ (fun i d e S' hd hP=>by
   obtain⟨l,z⟩:=hP;obtain⟨rfl,hi⟩:=Xaf hx hd;obtain⟨e2,S2,t1,t2⟩:=turn (env:=e.set 1 (some (.int i))) (S:=S') (by simp[l]) ((gn (by omega)).trans z) (gs (by omega))
   exact⟨_,e2,S2,rfl,t1,t2⟩)
 refine⟨S',?_⟩;have c1:([D.fro (ns.map D.int)].map some++List.replicate (18-1) none:En)=some (D.fro (ns.map D.int))::List.replicate 17 none:=rfl;simp only[den,Xg0,List.length,if_true];rw[Xut,c1,Xd f2];rfl
end K52
end
section
namespace K52
open PySem PySem.Spec PyProof.Rows L2 Z
set_option maxHeartbeats 0 in
theorem all_mk {P:Program} {w:World} {K:PySem.W.Frag} {h:Heap} {mg:Str->Option Value} {fa:Addr} {t0 t1 t2 t3 t4 t5:Tok} (X:K.In h) (Gm:h.Ns mainGlobals mg) (hfa:mg "law" = some (.ref fa))
  (er:Xst K=true) (bl:X1u K=true) (g0:PySem.W.nsIn K mainGlobals "GREATEST_NUMBER" = some (some (.int 1000000000000 t0))) (g1:PySem.W.nsIn K mainGlobals "MOST_CHOSEN" = some (some (.int 12 t1))) (g2:PySem.W.nsIn K mainGlobals "GREATEST_WIDTH" = some (some (.int 11 t2))) (g3:PySem.W.nsIn K mainGlobals "LEAST_TOLD_WIDTH" = some (some (.int 2 t3))) (g4:PySem.W.nsIn K mainGlobals "GREATEST_TOLD_WIDTH" = some (some (.int 7 t4))) (g5:PySem.W.nsIn K mainGlobals "MOST_MORE_POINTS" = some (some (.int 4 t5)))
  (f0:FunAt K "is_whole" (top 19)) (f1:FunAt K "is_whole_within" (top 20)) (f2:FunAt K "is_whole_tuple" (top 21)) (f3:FunAt K "writing" (top 25)) (f4:FunAt K "bags_above" (top 26)) (f5:FunAt K "check_written" (top 27)) (f6:FunAt K "ways" (top 28)) (f7:FunAt K "most_things" (top 29)) (f8:FunAt K "written_parts" (top 30)) (f9:FunAt K "is_row" (top 33)) (f10:FunAt K "turned_back" (top 34)) (f11:FunAt K "by_steps" (top 35)) (f12:FunAt K "check_row" (top 36)) (f13:FunAt K "check_half" (top 37)) (f14:FunAt K "half_size" (top 38)) (f15:FunAt K "parts_at" (top 39)) (f16:FunAt K "mirrored" (top 40)) (f17:FunAt K "least_row" (top 45)) (f18:FunAt K "greatest_row" (top 46)) (f19:FunAt K "all_rows" (top 47)) (f20:FunAt K "first_steps" (top 48)) (f21:FunAt K "_law_cell_at" (top 50)) (f22:FunAt K "_law_pot" (top 51)) (f23:FunAt K "_law_take" (top 52)) (f24:FunAt K "_law_word" (top 53)) (f25:FunAt K "_law_ways" (top 54)) (f26:FunAt K "_law_writing" (top 55)) (f27:FunAt K "_law_next_by" (top 56)) (f28:FunAt K "_law_even_row" (top 57)) (f29:FunAt K "_law_said" (top 58)) (f30:FunAt K "_law_all_steps" (top 59)) (f31:FunAt K "law" (top 60)) :
  ∃ fd:FuncData,(∀ (s:Shared) (u:Value),BindsTo s fd ⟨[u],[]⟩ [("_law_script",u)])/\∀ base:Heap,K.In base->base.Ns mainGlobals mg->FnOk P w K mg base (CXd P w) 15 fa fd ["_law_script"] (spD K 1 (FT T G 15 31)):=by
 have er':=Xwy er;have bl':=Xxl X Gm bl;have hg:∀ (k:Nat) nm,gns[k]?=some nm->∃ u d,mg nm=some u/\G[k]?=some d/\∀ ρ H,∃ v,RelV v u/\RD K ρ H d v:=fun k nm e=>by
  match k,e with
  | 0,e=>cases e;exact Xch X Gm g0
  | 1,e=>cases e;exact Xch X Gm g1
  | 2,e=>cases e;exact Xch X Gm g2
  | 3,e=>cases e;exact Xch X Gm g3
  | 4,e=>cases e;exact Xch X Gm g4
  | 5,e=>cases e;exact Xch X Gm g5
  | 6,e=>cases e;exact Xkw X Gm f17
  | 7,e=>cases e;exact Xkw X Gm f18
  | 8,e=>cases e;exact Xkw X Gm f19
  | k+9,e=>cases e
 have hD:AllD K mg fns gns fns T:=AllD.c (dk X Gm f0 Xo7 Xdb) <| AllD.c (dk X Gm f1 Xe6 Xth) <| AllD.c (dk X Gm f2 Xf5 Xdb) <| AllD.c (dk X Gm f3 Xrv Xam) <| AllD.c (dk X Gm f4 Xle Xam) <| AllD.c (dk X Gm f5 Xg1 Xam) <| AllD.c (dk X Gm f6 X2n Xam) <| AllD.c (dk X Gm f7 Xjd Xam) <| AllD.c (dk X Gm f8 Xg2 Xam) <| AllD.c (dk X Gm f9 Xud Xdb) <| AllD.c (dk X Gm f10 Xje Xdb) <| AllD.c (dk X Gm f11 Xo8 Xam) <| AllD.c (dk X Gm f12 Xl3 Xdb) <| AllD.c (dk X Gm f13 Xlf Xam) <| AllD.c (dk X Gm f14 Xl4 Xdb) <| AllD.c (dk X Gm f15 Xo9 Xam) <| AllD.c (dk X Gm f16 Xpa Xam) <| AllD.c (dk X Gm f17 Xl5 Xam) <| AllD.c (dk X Gm f18 Xif Xam) <| AllD.c (dk X Gm f19 Xpb Xam) <| AllD.c (dk X Gm f20 Xjf Xam) <| AllD.c (dk X Gm f21 Xig Xam) <| AllD.c (dk X Gm f22 Xpc Xdb) <| AllD.c (dk X Gm f23 Xl6 Xam) <| AllD.c (dk X Gm f24 Xl7 Xdb) <| AllD.c (dk X Gm f25 Xl8 Xam) <| AllD.c (dk X Gm f26 Xih Xam) <| AllD.c (dk X Gm f27 Xii Xth) <| AllD.c (dk X Gm f28 Xg3 Xam) <| AllD.c (dk X Gm f29 Xl9 Xth) <| AllD.c (dk X Gm f30 Xf6 Xam) <| AllD.c (dk X Gm f31 Xpd Xdb) <| True.intro;exact law_fn (k:=14) (d:=Xg0) (st:=top 60) (N:=Xvj) X Gm hfa er' bl' hg hD.get rfl f31 (ms Xpd) (mm Xpd) rfl rfl Xdb
noncomputable def kept:List Stmt:=[top 1,top 2,top 3,top 4,top 5,top 6,top 7,top 8,top 9,top 10,top 11,top 12,top 13,top 14,top 15,top 16,top 17,top 19,top 20,top 21,top 23,top 24,top 25,top 26,top 27,top 28,top 29,top 30,top 32,top 33,top 34,top 35,top 36,top 37,top 38,top 39,top 40,top 42,top 43,top 44,top 45,top 46,top 47,top 48,top 50,top 51,top 52,top 53,top 54,top 55,top 56,top 57,top 58,top 59,top 60]
noncomputable def Q:Program:={ PySem.Challenge.pw_facecounts_k52_rows_between_least_and_gr with main:={ PySem.Challenge.pw_facecounts_k52_rows_between_least_and_gr.main with body:=kept } }
end K52
open PySem PySem.W PyProof.Rows
noncomputable def PySem.W.Fast.tw17867783552208556268:PySem.Program:=PySem.Challenge.pw_facecounts_k52_rows_between_least_and_gr
theorem PySem.W.Fast.te17867783552208556268:PySem.Challenge.pw_facecounts_k52_rows_between_least_and_gr=PySem.W.Fast.tw17867783552208556268:=rfl
lay_quick Z.topT PySem.W.topStub
set_option maxRecDepth 100000 in
set_option maxHeartbeats 0 in
theorem K52.st_ok:Z.RunT PySem.Challenge.pw_facecounts_k52_rows_between_least_and_gr (fun w s=>staticsOk (importedModules PySem.Challenge.pw_facecounts_k52_rows_between_least_and_gr.main.body) (boot_heap w.params) s.abs.heap&&namesBound PySem.Challenge.pw_facecounts_k52_rows_between_least_and_gr s.abs.heap&&gensDone s.abs&&laidKept (boot_heap w.params) s.abs.heap) fun _=>true:=by
 intro w os;rw[PySem.W.Fast.te15842407815417585275,PySem.W.Fast.te2530740449226627131,PySem.W.Fast.te14364793385576792824]
 kernel_rfl
set_option maxRecDepth 100000 in
set_option maxHeartbeats 0 in
theorem K52.seen_ok:Z.RunT PySem.Challenge.pw_facecounts_k52_rows_between_least_and_gr (fun _ s=>openSeen K52.Q [] (importedModules PySem.Challenge.pw_facecounts_k52_rows_between_least_and_gr.main.body) (fun s=>PySem.W.xlAt K52.Q [] s&&PySem.W.recOk [] s) true s.abs) fun _=>openGood K52.Q []:=by
 intro w os;unfold K52.Q K52.kept K52.top;rw[PySem.W.Fast.te4187177175401517315,PySem.W.Fast.te15842407815417585275,PySem.W.Fast.te2530740449226627131,PySem.W.Fast.te14364793385576792824]
 kernel_rfl
local macro_rules | `(tactic| o_head $H)=>`(tactic|
 refine PySem.W.holds_open (q:=K52.Q) (loose:=[]) (Xt:=fun s=>PySem.W.xlAt K52.Q [] s&&PySem.W.recOk [] s)
  (XP:=PySem.W.XL K52.Q []) (Yf:=PySem.W.Hook.obs $H) (Ya:=PySem.W.Hook.val $H)
  (YP:=PySem.W.Hook.says $H) (N:=40000) ?hl (PySem.W.Hook.of $H) (PySem.W.Hook.keeps $H)
  (fun s e=>PySem.W.xl_of s (Bool.and_eq_true_iff.mp e).1) PySem.W.XL.keeps
  (by rfl) (by rfl) (by rfl)
  (fun s e=>PySem.W.recFacts_of (Bool.and_eq_true_iff.mp e).2)
  (by rfl) (by first|assumption|decide+kernel) (by decide+kernel)
  ⟨rfl,rfl,rfl,rfl,rfl,by decide+kernel⟩ ?hw ?hc)
set_option maxRecDepth 100000 in
set_option maxHeartbeats 0 in
theorem PySem.Challenge.cw_facecounts_k52_rows_between_least_and_gr_holds : PySem.Challenge.rw_facecounts_k52_rows_between_least_and_gr.Holds := by
 w_on;o_law;x_head
 (case hl =>
  refine Z.left_tree3 (p:=PySem.Challenge.pw_facecounts_k52_rows_between_least_and_gr) (by kernel_rfl) (fun s=>by kernel_rfl) K52.st_ok K52.seen_ok ?_
  intro w os;dsimp only[PySem.W.kHook];rw[PySem.W.Fast.te15842407815417585275,PySem.W.Fast.te2530740449226627131,PySem.W.Fast.te14364793385576792824]
  kernel_rfl)
 (case hw=>w_witness2)
 k_fill
 refine Z.walk_z (l:=PySem.Challenge.rw_facecounts_k52_rows_between_least_and_gr) (T:=K52.T) (G:=K52.G) (k:=15) (f:=31) (x := "_law_script") rfl rfl ⟨rfl,rfl,by decide,by decide⟩ (fun w h Y=>PySem.W.kIn_of Y) ?F K52.law_true
 case F =>
  as_aux_lemma =>
   intro w mg fa h KX G hmg;refine' K52.all_mk KX G hmg ?er ?bl ?g0 ?g1 ?g2 ?g3 ?g4 ?g5 ?f0 ?f1 ?f2 ?f3 ?f4 ?f5 ?f6 ?f7 ?f8 ?f9 ?f10 ?f11 ?f12 ?f13 ?f14 ?f15 ?f16 ?f17 ?f18 ?f19 ?f20 ?f21 ?f22 ?f23 ?f24 ?f25 ?f26 ?f27 ?f28 ?f29 ?f30 ?f31
   (case g0=>k_is)
   (case g1=>k_is)
   (case g2=>k_is)
   (case g3=>k_is)
   (case g4=>k_is)
   (case g5=>k_is)
   (case er=>kernel_rfl)
   (case bl=>kernel_rfl)
   all_goals (refine' Z.funAt_mk ?a ?l ?c ?k;(case a=>k_is);(case l=>k_is);(case c=>k_is);(case k=>k_is))
end
