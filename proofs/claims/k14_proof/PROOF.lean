import PyProof.Rows.All
import Wide.All
import OpenK.AllK
import Wide.FinOn
import Lean
import PyProof.EqAt
import PyProof.EqKinds
import PyProof.TupleCall
import PySem.Challenge.RW_facecounts_k14_whole_rows
set_option Elab.async false
set_option linter.all false
set_option maxRecDepth 100000
set_option genSizeOf false
set_option genSizeOfSpec false
universe u
theorem gZ0{α:Type u}{a:α}{l:List α}:(a::l)[0]?=some a:=rfl
theorem gS0{α:Type u}{a:α}{i:Nat}{l:List α}:(a::l)[i+1]?=l[i]?:=rfl
theorem bA0(a b:Bool):((a&&b)=true)=(a=true∧b=true):=Bool.and_eq_true a b
section
namespace L2
open PySem PySem.Spec PyProof.Rows
noncomputable abbrev Key:=Sum Int Str
noncomputable def Xsi:Key->Value->Bool
 | .inl k,v=>Value.isInt k v
 | .inr x,v=>Value.isStrOf x v
noncomputable def X1o(w:World):Key->Int
 | .inl k=>hashInt k
 | .inr x=>hashStr w x
theorem Yd:∀ {k:Key} {v:Value},Xsi k v=true->(∃ i t,k=Sum.inl i/\v=Value.int i t)\/(∃ x t,k=Sum.inr x/\v=Value.str x t)
 | .inl i,v,h=>by
  obtain⟨t,e⟩:=Value.isInt_shape (k:=i) (v:=v) h;exact .inl ⟨i,t,rfl,e⟩
 | .inr x,v,h=>by
  obtain⟨t,e⟩:=Value.isStrOf_shape (x:=x) (v:=v) h;exact .inr ⟨x,t,rfl,e⟩
theorem Xwh(a b:Int):decide ((Sum.inl a:Key)=Sum.inl b)=(a==b):=by
 by_cases e:a=b
 ·subst e;simp
 ·have h:¬ (Sum.inl a:Key)=Sum.inl b:=fun q=>e (Sum.inl.inj q)
  rw[decide_eq_false h];exact(beq_eq_false_iff_ne.mpr e).symm
theorem Xwi(a b:Str):decide ((Sum.inr a:Key)=Sum.inr b)=decide (a=b):=by
 by_cases e:a=b
 ·subst e;simp
 ·have h:¬ (Sum.inr a:Key)=Sum.inr b:=fun q=>e (Sum.inr.inj q)
  rw[decide_eq_false h,decide_eq_false e]
theorem Xwj(a:Int)(b:Str):decide ((Sum.inl a:Key)=Sum.inr b)=false:=decide_eq_false (fun q=>nomatch q)
theorem Xwk(a:Str)(b:Int):decide ((Sum.inr a:Key)=Sum.inl b)=false:=decide_eq_false (fun q=>nomatch q)
noncomputable def Xfq(prog:Program)(w:World):PySem.KeyKind prog w Key where
 is:=Xsi
 hash:=X1o w
 inj:=fun v a b ha hb=>by
  rcases Yd ha with⟨i,t,rfl,rfl⟩|⟨x,t,rfl,rfl⟩
  ·rcases Yd hb with⟨j,u,rfl,e⟩|⟨y,u,rfl,e⟩
   ·injection e with e1 _;rw[e1]
   ·exact nomatch e
  ·rcases Yd hb with⟨j,u,rfl,e⟩|⟨y,u,rfl,e⟩
   ·exact nomatch e
   ·injection e with e1 _;rw[e1]
 byValue:=fun k v h=>by
  rcases Yd h with⟨i,t,rfl,rfl⟩|⟨x,t,rfl,rfl⟩<;>rfl
 pyHash:=fun hv h=>by
  rcases Yd hv with⟨i,t,rfl,rfl⟩|⟨x,t,rfl,rfl⟩
  ·exact wpAny_pyHash_int h
  ·exact wpAny_pyHash_str h
 eqBool:=fun hu hv h=>by
  rcases Yd hu with⟨i,t,rfl,rfl⟩|⟨x,t,rfl,rfl⟩
  ·rcases Yd hv with⟨j,u,rfl,rfl⟩|⟨y,u,rfl,rfl⟩
   ·rw[Xwh] at h;exact wpAny_eqBool_int h
   ·rw[Xwj] at h;exact SeqAt.EqAt.int_str i t y u _ _ _ _ h
  ·rcases Yd hv with⟨j,u,rfl,rfl⟩|⟨y,u,rfl,rfl⟩
   ·rw[Xwk] at h;exact SeqAt.EqAt.str_int x t j u _ _ _ _ h
   ·rw[Xwi] at h;exact wpAny_eqBool_str h
 «strs»:=fun k x t v h=>by
  rcases Yd h with⟨i,u,rfl,e⟩|⟨y,u,rfl,e⟩
  ·exact nomatch e
  ·injection e with e1 _
   subst e1;cases v<;>rfl
end L2
namespace L2
open PySem PySem.Spec PyProof.Rows
inductive V where
 | non|bl (b:Bool)|int (i:Int)|str (x:Str)|byt (b:Array UInt8)|flt (b:UInt64)|ref (a:Addr)|ty (n:String)
 deriving DecidableEq
def RelV:V->Value->Prop
 | .non,u=>u=Value.none
 | .bl b,u=>u=Value.bool b
 | .int i,u=>∃ t,u=Value.int i t
 | .str x,u=>∃ t,u=Value.str x t
 | .byt b,u=>∃ t,u=Value.bytes b t
 | .flt b,u=>∃ t,u=Value.float b t
 | .ref a,u=>u=Value.ref a
 | .ty n,u=>u=Value.type n
abbrev Vals:List V->List Value->Prop:=Paired RelV
theorem Vals.length{xs:List V}{us:List Value}(r:Vals xs us):xs.length=us.length:=Paired.length r
theorem Vals.get:∀ {xs:List V} {us:List Value} {i:Nat} {x:V},Vals xs us->xs[i]?=some x->∃ u,us[i]?=some u/\RelV x u
 | _,_,_,_,.nil,e=>by simp at e
 | _,_,0,_,.cons r _,e=>by simp at e;subst e;exact⟨_,rfl,r⟩
 | _,_,i+1,x,.cons _ t,e=>by
  obtain⟨u,h1,h2⟩:=Vals.get (i:=i) (x:=x) t (by simpa using e)
  exact⟨u,by simpa using h1,h2⟩
theorem Vals.set{x:V}{u:Value}(r:RelV x u):∀ {xs:List V} {us:List Value} (i:Nat),Vals xs us->Vals (xs.set i x) (us.set i u)
 | _,_,_,.nil=>.nil
 | _,_,0,.cons _ t=>.cons r t
 | _,_,i+1,.cons q t=>.cons q (Vals.set r i t)
theorem Vals.append:∀ {xs ys:List V} {us ws:List Value},Vals xs us->Vals ys ws->Vals (xs++ys) (us++ws)
 | _,_,_,_,.nil,s=>s
 | _,_,_,_,.cons r t,s=>.cons r (Vals.append t s)
theorem Vals.take:∀ {xs:List V} {us:List Value} (n:Nat),Vals xs us->Vals (xs.take n) (us.take n)
 | _,_,0,_=>.nil
 | _,_,_+1,.nil=>.nil
 | _,_,n+1,.cons r t=>.cons r (Vals.take n t)
theorem Vals.drop:∀ {xs:List V} {us:List Value} (n:Nat),Vals xs us->Vals (xs.drop n) (us.drop n)
 | _,_,0,r=>r
 | _,_,_+1,.nil=>.nil
 | _,_,n+1,.cons _ t=>Vals.drop n t
def Xwl:Option V->Option Value->Prop
 | some v,some u=>RelV v u
 | none,none=>True
 | _,_=>False
def KV{κ:Type}:List (κ×V)->List (κ×Value)->Prop:=Paired fun(p:κ×V) (q:κ×Value)=>p.1=q.1/\RelV p.2 q.2
noncomputable def kV:Key->V
 | .inl i=>.int i
 | .inr x=>.str x
inductive HO where
 | lst (xs:List V)
 | tup (xs:List V)
 | dK (kvs:List (Key×V))|dT (kvs:List (List Key×V))
 | set (S:Int->Bool) (n:Nat)
 | ins (C dx:Addr) (fs:List (Str×V))
 | own (x:Addr)
 | xd (fs:List (Str×V))
 | met (f x:Addr)
 | rng (lo hi:Int)
 | frz (o:Obj) (u:HO)
 | tbl (ps:Array Value)
 | ext (φ:Heap->Prop)
noncomputable abbrev Hp:=Addr->Option HO
noncomputable def upd(H:Hp)(a:Addr)(o:HO):Hp:=fun b=>if b=a then some o else H b
theorem Xz{H:Hp}{a:Addr}{o:HO}:upd H a o a=some o:=by unfold upd;rw[if_pos rfl]
theorem Xf{H:Hp}{a b:Addr}{o:HO}(h:b≠a):upd H a o b=H b:=by unfold upd;rw[if_neg h]
theorem Xn{H:Hp}{a b:Addr}{o:HO}(h:H a=some o)(h':H b=none):a≠b:=by
 intro e;subst e;rw[h] at h';cases h'
section
variable(P:Program)(w:World)
def ObjOk(H:Hp)(h:Heap)(a:Addr):HO->Prop
 | .lst xs=>xs.length<=sizeLine/\∃ (its:List Value) (n:Nat),Vals xs its/\h.get? a=some { cls:=.type "list",data:=.seq its.toArray n }
 | .tup xs=>xs.length<=sizeLine/\∃ its:List Value,Vals xs its/\IsTup h a its.toArray
 | .dK kvs=>kvs.length<=sizeLine/\(a==sysModules)=false/\∃ vs,KV kvs vs/\h.DictOf (Xfq P w) a vs
 | .dT kvs=>kvs.length<=sizeLine/\(a==sysModules)=false/\∃ xs:List (List Key×Addr×Value),
   Paired (fun(p:List Key×V) (q:List Key×Addr×Value)=>p.1=q.1/\H q.2.1=some (.tup (p.1.map kV))/\RelV p.2 q.2.2) kvs xs /\
   ∃ o es ep,h.get? a=some o/\o.ExactDict/\o.data=.dict es ep/\es.toList=xs.map (entryOfKey (tupleKind (Xfq P w)))/\(xs.map (·.1)).Nodup
 | .set S n=>h.SetOf (intKind P w) a S n
 | .ins C dx fs=>H dx=some (.own a)/\fs.length<=1000/\dx≠a/\h.get? a=some (PySem.W.instObj C dx) /\
   ∃ mA,h.Ns1 dx mA/\(∀ f,Xwl (fs.lookup f) (mA f))/\PySem.Within mA (fs.map (·.1))
 | .own _=>∃ o,h.get? a=some o
 | .xd fs=>∃ mA,h.Ns1 a mA/\∀ f,Xwl (fs.lookup f) (mA f)
 | .rng lo hi=>∃ t u v,h.get? a=some { cls:=.type "range",data:=.fields #[.int lo t,.int hi u,.int 1 v] }
 | .frz o u=>h.get? a=some o/\ObjOk H h a u
 | .tbl ps=>h.get? a=some { cls:=.none,data:=.fields ps }
 | .met f x=>h.get? a=some (PySem.W.methodObj (.ref f) (.ref x))
 | .ext φ=>φ h/\(∃ o,h.get? a=some o)/\∀ h1 h2:Heap,φ h1->(∀ o,h1.get? a=some o->h2.get? a=some o)->φ h2
def HOk(H:Hp)(h:Heap):Prop:=∀ a o,H a=some o->ObjOk P w H h a o
end
section
variable{P:Program}{w:World}{H H':Hp}{h h':Heap}{a:Addr}{o:HO}
theorem ObjOk.lt(x:ObjOk P w H h a o):a<h.objs.size:=by
 cases o with
 | lst xs=>obtain⟨_,_,_,_,e⟩:=x;exact Heap.lt_size e
 | tup xs=>obtain⟨_,_,_,p⟩:=x;exact p.lt
 | dK kvs=>obtain⟨_,_,_,_,o,_,_,e,_⟩:=x;exact Heap.lt_size e
 | dT kvs=>obtain⟨_,_,_,_,o,_,_,e,_⟩:=x;exact Heap.lt_size e
 | set S n=>obtain⟨o,_,_,_,e,_⟩:=x;exact Heap.lt_size e
 | ins C dx fs=>obtain⟨_,_,_,e,_⟩:=x;exact Heap.lt_size e
 | own y=>obtain⟨_,e⟩:=x;exact Heap.lt_size e
 | xd fs=>obtain⟨_,⟨_,_,_,e,_⟩,_⟩:=x;exact Heap.lt_size e
 | rng lo hi=>obtain⟨_,_,_,e⟩:=x;exact Heap.lt_size e
 | frz ob u=>obtain⟨e,_⟩:=x;exact Heap.lt_size e
 | tbl ps=>exact Heap.lt_size (show h.get? a=some _ from x)
 | met f y=>exact Heap.lt_size (show h.get? a=some _ from x)
 | ext φ=>obtain⟨_,⟨_,e⟩,_⟩:=x;exact Heap.lt_size e
theorem Paired.mapP{α β:Type}{F G:α->β->Prop}:∀ {l₁:List α} {l₂:List β},Paired F l₁ l₂->(∀ a b,F a b->G a b)->Paired G l₁ l₂
 | _,_,.nil,_=>.nil
 | _,_,.cons r t,f=>.cons (f _ _ r) (Paired.mapP t f)
theorem ObjOk.stay(x:ObjOk P w H h a o)(k:∀ b u,(b=a\/H b=some (.own a))->h.get? b=some u->h'.get? b=some u)
  (ho:∀ b,H b=some (.own a)->H' b=some (.own a)) (ht:∀ b xs,H b=some (.tup xs)->H' b=some (.tup xs)):ObjOk P w H' h' a o:=by
 induction o with
 | lst xs=>obtain⟨z,its,n,r,e⟩:=x;exact⟨z,its,n,r,k _ _ (.inl rfl) e⟩
 | tup xs=>obtain⟨z,its,r,ob,e,c⟩:=x;exact⟨z,its,r,ob,k _ _ (.inl rfl) e,c⟩
 | dK kvs=>obtain⟨z,y,vs,r,ob,es,ep,e,c⟩:=x;exact⟨z,y,vs,r,ob,es,ep,k _ _ (.inl rfl) e,c⟩
 | dT kvs =>
  obtain⟨z,y,xs,r,ob,es,ep,e,c⟩:=x;exact⟨z,y,xs,Paired.mapP r fun p q z=>⟨z.1,ht _ _ z.2.1,z.2.2⟩,ob,es,ep,k _ _ (.inl rfl) e,c⟩
 | set S n=>obtain⟨ob,es,ep,t,e,c⟩:=x;exact⟨ob,es,ep,t,k _ _ (.inl rfl) e,c⟩
 | ins C dx fs =>
  obtain⟨d,z,ne,e,mA,⟨od,es,ep,e2,c⟩,r⟩:=x;exact⟨ho _ d,z,ne,k _ _ (.inl rfl) e,mA,⟨od,es,ep,k _ _ (.inr d) e2,c⟩,r⟩
 | own y=>obtain⟨ob,e⟩:=x;exact⟨ob,k _ _ (.inl rfl) e⟩
 | xd fs=>obtain⟨mA,⟨od,es,ep,e,c⟩,r⟩:=x;exact⟨mA,⟨od,es,ep,k _ _ (.inl rfl) e,c⟩,r⟩
 | rng lo hi=>obtain⟨t,u,v,e⟩:=x;exact⟨t,u,v,k _ _ (.inl rfl) e⟩
 | frz ob u ih=>obtain⟨e,q⟩:=x;exact⟨k _ _ (.inl rfl) e,ih q⟩
 | tbl ps =>
  have e:h.get? a=some { cls:=.none,data:=.fields ps }:=x;show h'.get? a=some { cls:=.none,data:=.fields ps };exact k a _ (.inl rfl) e
 | met f y =>
  have e:h.get? a=some (PySem.W.methodObj (.ref f) (.ref y)):=x;show h'.get? a=some (PySem.W.methodObj (.ref f) (.ref y));exact k a _ (.inl rfl) e
 | ext φ=>obtain⟨p,⟨o,e⟩,st⟩:=x;exact⟨st _ _ p fun o q=>k _ _ (.inl rfl) q,⟨o,k _ _ (.inl rfl) e⟩,st⟩
theorem HOk.lt(x:HOk P w H h)(e:H a=some o):a<h.objs.size:=(x a o e).lt
theorem HOk.fresh(x:HOk P w H h)(e:h.objs.size<=a):H a=none:=by
 cases q:H a with
 | none=>rfl
 | some u=>exact absurd (Nat.lt_of_lt_of_le (x.lt q) e) (Nat.lt_irrefl _)
theorem HOk.kept(x:HOk P w H h)(k:∀ b u,h.get? b=some u->h'.get? b=some u):HOk P w H h':=fun a o e =>
 (x a o e).stay (fun b u _ q=>k b u q) (fun _ q=>q) fun _ _ q=>q
theorem HOk.laid(x:HOk P w H h)(k:∀ b u,h.get? b=some u->h'.get? b=some u)(hp:h.objs.size<=a)(new:ObjOk P w (upd H a o) h' a o):HOk P w (upd H a o) h':=fun b u e=>by
 have hn:=x.fresh hp
 by_cases hb:b=a
 ·subst hb;rw[Xz] at e;cases e;exact new
 ·rw[Xf hb] at e
  exact(x b u e).stay (fun c v _ q=>k c v q) (fun c q=>by rw[Xf (Xn q hn)];exact q) fun c xs q=>by rw[Xf (Xn q hn)];exact q
end
def Rd(H:Hp)(a:Addr)(u:HO):Prop:=H a=some u\/∃ o,H a=some (.frz o u)
theorem Rd.ok{P:Program}{w:World}{H:Hp}{h:Heap}{a:Addr}{u:HO}(r:Rd H a u)(x:HOk P w H h):ObjOk P w H h a u:=by
 rcases r with r|⟨o,r⟩
 ·exact x a u r
 ·obtain⟨_,q⟩:=x a _ r
  exact q
def Mut:Option HO->Prop
 | some (.lst _)=>True
 | some (.dK _)=>True
 | some (.dT _)=>True
 | some (.set _ _)=>True
 | some (.ins _ _ _)=>True
 | some (.ext _)=>True
 | _=>False
section
variable{P:Program}{w:World}{H:Hp}{h h':Heap}{x e:Addr}{o':HO}
theorem HOk.write(ok:HOk P w H h)(mu:Mut (H x))(he:e=x\/H e=some (.own x))(k:∀ b u,b≠e->h.get? b=some u->h'.get? b=some u)(heo:∃ u,h'.get? e=some u)
  (new:ObjOk P w (upd H x o') h' x o'):HOk P w (upd H x o') h':=fun b u q=>by
 have nown:∀ c y,H c=some (.own y)->c≠x:=fun c y r z=>by subst z;rw[r] at mu;exact mu
 have ntup:∀ c xs,H c=some (.tup xs)->c≠x:=fun c xs r z=>by subst z;rw[r] at mu;exact mu
 by_cases hb:b=x
 ·subst hb;rw[Xz] at q;cases q;exact new
 ·rw[Xf hb] at q
  by_cases hbe:b=e
  ·have q':H b=some (.own x):=by
    rcases he with z|z
    ·exact absurd (hbe.trans z) hb
    ·rw[hbe];exact z
   rw[q] at q';cases q';obtain⟨v,hv⟩:=heo;exact⟨v,by rw[hbe];exact hv⟩
  ·refine(ok b u q).stay (fun c v hc r=>k c v ?_ r) (fun c r=>by rw[Xf (nown c b r)];exact r) fun c xs r=>by rw[Xf (ntup c xs r)];exact r
   rcases hc with rfl|hc
   ·exact hbe
   ·rintro rfl
    rcases he with z|z
    ·exact nown c b hc z
    ·rw[hc] at z;cases z;exact hb rfl
end
structure Un(fs ex:List Addr)(H H':Hp)(h h':Heap):Prop where
 keep:∀ b o,h.get? b=some o->H b=none->b ∉ fs->b ∉ ex->h'.get? b=some o
 slot:∀ b o,h.get? b=some o->H b=none->b∈fs->b ∉ ex->∃ sl,h'.get? b=some { o with slots:=sl }
 free:∀ b o,h.get? b=some o->H b=none->b ∉ ex->H' b=none
 there:∀ b o,h.get? b=some o->b ∉ ex->∃ o',h'.get? b=some o'
 tups:∀ b xs,H b=some (.tup xs)->H' b=some (.tup xs)
 frzs:∀ b o u,H b=some (.frz o u)->H' b=some (.frz o u)
 tbls:∀ b ps,H b=some (.tbl ps)->∃ more,H' b=some (.tbl (ps++more))
section
variable{fs fs' ex ex':List Addr}{H H1 H2:Hp}{h h1 h2 h':Heap}{a x e:Addr}{o:HO}
theorem Un.any(u:Un fs ex H H1 h h1){b:Addr}{ob:Obj}(q:h.get? b=some ob)(n:H b=none)(hx:b ∉ ex):∃ sl,h1.get? b=some { ob with slots:=sl }:=by
 by_cases hb:b∈fs
 ·exact u.slot b ob q n hb hx
 ·exact⟨ob.slots,u.keep b ob q n hb hx⟩
theorem Un.trans(a:Un fs ex H H1 h h1)(b:Un fs ex H1 H2 h1 h2):Un fs ex H H2 h h2 where
 keep:=fun c ob q n hc hx=>b.keep c ob (a.keep c ob q n hc hx) (a.free c ob q n hx) hc hx
 slot:=fun c ob q n hc hx=>by
  obtain⟨sl,e1⟩:=a.slot c ob q n hc hx;obtain⟨sl',e2⟩:=b.slot c _ e1 (a.free c ob q n hx) hc hx;exact⟨sl',e2⟩
 free:=fun c ob q n hx=>by
  obtain⟨o',e1⟩:=a.there c ob q hx;exact b.free c o' e1 (a.free c ob q n hx) hx
 there:=fun c ob q hx=>by
  obtain⟨o',e1⟩:=a.there c ob q hx;exact b.there c o' e1 hx
 tups:=fun c xs q=>b.tups c xs (a.tups c xs q)
 frzs:=fun c ob xs q=>b.frzs c ob xs (a.frzs c ob xs q)
 tbls:=fun c ps q=>by
  obtain⟨m1,e1⟩:=a.tbls c ps q;obtain⟨m2,e2⟩:=b.tbls c _ e1;exact⟨m1++m2,by rw[e2,Array.append_assoc]⟩
theorem Un.kept(k:∀ b u,h.get? b=some u->h'.get? b=some u):Un fs ex H H h h' :=
 ⟨fun b ob q _ _ _=>k b ob q,fun b ob q _ _ _=>⟨ob.slots,k b ob q⟩,fun _ _ _ n _=>n,fun b ob q _=>⟨ob,k b ob q⟩,fun _ _ q=>q,fun _ _ _ q=>q,fun _ ps q=>⟨#[],by rw[q];simp⟩⟩
theorem Un.refl:Un fs ex H H h h:=Un.kept fun _ _ q=>q
theorem Un.laid(k:∀ b u,h.get? b=some u->h'.get? b=some u)(hp:h.objs.size<=a)(hn:H a=none):Un fs ex H (upd H a o) h h' where
 keep:=fun b u q _ _ _=>k b u q
 slot:=fun b u q _ _ _=>⟨u.slots,k b u q⟩
 free:=fun b u q n _=>by rw[Xf (Nat.ne_of_lt (Nat.lt_of_lt_of_le (Heap.lt_size q) hp))];exact n
 there:=fun b u q _=>⟨u,k b u q⟩
 tups:=fun b xs q=>by rw[Xf (Xn q hn)];exact q
 frzs:=fun b u xs q=>by rw[Xf (Xn q hn)];exact q
 tbls:=fun b ps q=>⟨#[],by rw[Xf (Xn q hn),q];simp⟩
theorem Un.write(mu:Mut (H x))(he:e=x\/H e=some (.own x))(k:∀ b u,b≠e->h.get? b=some u->h'.get? b=some u)(heo:∃ u,h'.get? e=some u):Un fs ex H (upd H x o) h h':=by
 have hx:∀ b,H b=none->b≠x:=fun b n z=>by subst z;rw[n] at mu;exact mu
 have hb:∀ b,H b=none->b≠e:=fun b n z=>by
  subst z;rcases he with r|r
  ·exact hx b n r
  ·rw[n] at r;cases r
 have hm:∀ b u,H b=some u->¬ Mut (some u)->b≠x:=fun b u q nm z=>by subst z;rw[q] at mu;exact nm mu
 refine⟨fun b u q n _ _=>k b u (hb b n) q,fun b u q n _ _=>⟨u.slots,k b u (hb b n) q⟩,fun b u q n _=>by rw[Xf (hx b n)];exact n,fun b u q _=>?_,
  fun b xs q=>by rw[Xf (hm b _ q fun z=>z)];exact q,fun b u xs q=>by rw[Xf (hm b _ q fun z=>z)];exact q,fun b ps q=>⟨#[],by rw[Xf (hm b _ q fun z=>z),q];simp⟩⟩
 by_cases hbe:b=e
 ·subst hbe;exact heo
 ·exact⟨u,k b u hbe q⟩
theorem Un.mono(u:Un fs ex H H1 h h1)(hs:∀ b∈fs,b∈fs')(hx:∀ b∈ex,b∈ex'):Un fs' ex' H H1 h h1 :=
 ⟨fun b ob q n hb he=>u.keep b ob q n (fun z=>hb (hs b z)) fun z=>he (hx b z),fun _ _ q n _ he=>u.any q n fun z=>he (hx _ z),fun b ob q n he=>u.free b ob q n fun z=>he (hx b z),fun b ob q he=>u.there b ob q fun z=>he (hx b z),u.tups,u.frzs,u.tbls⟩
end
noncomputable def trk(h:Heap)(H:Hp):List Addr:=(List.range h.objs.size).filter fun a=>(H a).isSome
noncomputable def Xcp(h:Heap)(H:Hp):Heap:=PySem.W.hideAll h (trk h H)
theorem Xm7(h:Heap)(H:Hp):(Xcp h H).objs.size=h.objs.size:=PySem.W.hideAll_size _ _
theorem Xpk{h:Heap}{H:Hp}{b:Addr}{o:Obj}(e:h.get? b=some o)(n:H b=none):(Xcp h H).get? b=some o :=
 PySem.W.hideAll_get _ e fun hm=>by
  have q:(H b).isSome=true:=(List.mem_filter.mp hm).2;rw[n] at q;simp at q
theorem Xtc{h:Heap}{H:Hp}{b:Addr}{o:Obj}(e:(Xcp h H).get? b=some o):h.get? b=some o/\H b=none:=by
 have e':h.get? b=some o:=PySem.W.of_hideAll (trk h H) e;refine⟨e',?_⟩;cases q:H b with
 | none=>rfl
 | some x =>
  have hm:b∈trk h H:=List.mem_filter.mpr ⟨List.mem_range.mpr (Heap.lt_size e'),by simp[q]⟩
  have z:(Xcp h H).get? b=none:=PySem.W.hideAll_none (trk h H) hm;rw[z] at e;cases e
noncomputable def Xtd(g h:Heap)(L:Addr):List (Addr×Obj):=(List.range h.objs.size).filterMap fun a=>if a=L\/(g.get? a).isSome=true then none else (h.get? a).map fun o=>(a,o)
noncomputable def Xae(g h:Heap)(L d:Addr):List (Addr×Obj):=(Xtd g h L).filter fun p=>decide (p.1≠d)
end L2
namespace L2
open PySem PySem.Spec PyProof.Rows
structure Mod(K:PySem.W.Frag)(mg:Str->Option Value)(base:Heap):Prop where
 kin:K.In base
 glob:base.Ns mainGlobals mg
 blt:∃ mb,base.Ns builtinsNs mb/\∀ x:Str,x ≠ "__name__" -> mb x=bootBuiltins x
 nolimit:base.NoLimit
structure Cx where
 prog:Program
 w:World
 K:PySem.W.Frag
 mg:Str->Option Value
 base:Heap
 A:Around
 N:List Str
 s₀:Shared
 H₀:Hp
 env:Env
 outer:List Env
 stack:List Env
 ex:List Addr
 fn:Str->Bool
 calm:Bool
 pn:List (Addr×Obj)
 xe:Value->Shared->Prop
noncomputable def frs(l:List Env):List Addr:=l.filterMap (·.frame)
noncomputable abbrev Cx.fs(X:Cx):List Addr:=frs X.outer
def Vis(sc:Scope)(x:Str):Prop:=sc.names.lookup x=some .local\/sc.names.lookup x=some .cell\/sc.names.lookup x=some .free
def Loc(sc:Scope)(x:Str):Prop:=sc.names.lookup x=some .local\/sc.names.lookup x=some .cell
def X1p(env:Env)(h:Heap)(m:Str->Option Value)(x:Str)(u:Value):Prop :=
 (env.kindOf x=some .local/\m x=some u)\/((env.kindOf x=some .cell\/env.kindOf x=some .free)/\∃ c,env.cells.lookup x=some c/\h.IsCell c (some u))
structure Cx.Ok(X:Cx):Prop where
 mod:Mod X.K X.mg X.base
 kind:X.env.scope.kind=.function
 glob:X.env.globals=mainGlobals
 blt:X.env.builtins=builtinsNs
 above:X.s₀.heap.objs.size<=X.env.locals
 inj:∀ x y c,X.env.cells.lookup x=some c->X.env.cells.lookup y=some c->x=y
 has:∀ x,(X.env.kindOf x=some .cell\/X.env.kindOf x=some .free)->∃ c,X.env.cells.lookup x=some c
 cab:∀ x c,X.fn x=true->X.env.cells.lookup x=some c->X.s₀.heap.objs.size<=c
 hd:X.calm=true->X.A.handled=none
 frames:X.A.frames=some X.stack
 stk:X.stack=X.outer\/(X.stack=X.env::X.outer/\X.env.frame=some X.env.locals)
 exf:∀ b∈X.ex,b≠X.env.locals/\∀ x c,X.env.cells.lookup x=some c->c≠b
 bs:∀ b o,X.base.get? b=some o->X.s₀.heap.get? b=some o/\X.H₀ b=none
 bsz:X.base.objs.size<=X.s₀.heap.objs.size
 noex:∀ b o,X.base.get? b=some o->b ∉ X.ex
 exfs:∀ b∈X.ex,b ∉ X.fs
 funs:X.s₀.heap.FunFrames X.base X.outer
 frf:∀ b∈X.fs,X.H₀ b=none
structure Inv(X:Cx)(pins:List (Addr×Obj))(σ:List (Option V))(H:Hp)(s:Shared):Prop where
 ok:X.Ok
 os:s.os=X.s₀.os
 bare:AllBare s.gens
 base:Un X.fs X.ex X.H₀ H X.s₀.heap s.heap
 loc:∃ m,s.heap.Ns X.env.locals m/\∀ (i:Nat) (x:Str) (v:V),X.N[i]?=some x->σ[i]?=some (some v)->Vis X.env.scope x->∃ u,RelV v u/\X1p X.env s.heap m x u
 cell:∀ x c,X.env.cells.lookup x=some c->∃ v,s.heap.IsCell c v
 free:H X.env.locals=none
 freeC:∀ x c,X.env.cells.lookup x=some c->H c=none
 pin:∀ p∈X.pn++pins,s.heap.get? p.1=some p.2/\H p.1=none/\p.1≠X.env.locals/\p.1 ∉ X.fs/\∀ v,p.2.data≠.cell v
 hok:HOk X.prog X.w H s.heap
 len:σ.length=X.N.length
section
variable{X:Cx}{pins:List (Addr×Obj)}{σ:List (Option V)}{H H':Hp}{s:Shared}{h':Heap}
theorem Cx.Ok.nofr(ok:X.Ok){b:Addr}{o:Obj}(e:X.base.get? b=some o):b ∉ X.fs:=fun hb=>by
 have:=(ok.funs.mem hb).1;rw[e] at this;cases this
theorem Inv.bs(I:Inv X pins σ H s):∀ b o,X.base.get? b=some o->s.heap.get? b=some o/\H b=none:=fun b o e =>
 ⟨I.base.keep b o (I.ok.bs b o e).1 (I.ok.bs b o e).2 (I.ok.nofr e) (I.ok.noex b o e),I.base.free b o (I.ok.bs b o e).1 (I.ok.bs b o e).2 (I.ok.noex b o e)⟩
theorem Inv.bk(I:Inv X pins σ H s):∀ b o,X.base.get? b=some o->s.heap.get? b=some o:=fun b o e=>(I.bs b o e).1
theorem Inv.mod(I:Inv X pins σ H s):Mod X.K X.mg X.base:=I.ok.mod
theorem Inv.kIn(I:Inv X pins σ H s):X.K.In s.heap:=I.ok.mod.kin.keeps I.bk
theorem Inv.nolimit(I:Inv X pins σ H s):s.heap.NoLimit:=I.ok.mod.nolimit.keeps I.bk
theorem Inv.lt(I:Inv X pins σ H s):X.env.locals<s.heap.objs.size:=let ⟨_,hn,_⟩:=I.loc;hn.lt
theorem Inv.sz(I:Inv X pins σ H s):X.s₀.heap.objs.size<=s.heap.objs.size:=Nat.le_trans I.ok.above (Nat.le_of_lt I.lt)
theorem Inv.nofs(I:Inv X pins σ H s){a:Addr}(h:s.heap.objs.size<=a):a ∉ X.fs:=fun hb=>by
 obtain⟨_,o,ho,_⟩:=I.ok.funs.mem hb;exact absurd (Nat.lt_of_lt_of_le (Heap.lt_size ho) (Nat.le_trans I.sz h)) (Nat.lt_irrefl _)
theorem Inv.cne(I:Inv X pins σ H s):∀ x c,X.env.cells.lookup x=some c->c≠X.env.locals:=fun x c e z=>by
 obtain⟨v,o,ho,hd⟩:=I.cell x c e;obtain⟨m,⟨o',es,ep,ho',hd',_⟩,_⟩:=I.loc;rw[z,ho'] at ho;cases ho;rw[hd'] at hd;cases hd
theorem Inv.funs(I:Inv X pins σ H s):s.heap.FunFrames X.base X.outer:=by
 have all:∀ (l:List Env),(∀ b∈frs l,b∈X.fs)->X.s₀.heap.FunFrames X.base l->s.heap.FunFrames X.base l:=by
  intro l
  induction l with
  | nil=>intro _ _;trivial
  | cons env r ih =>
   intro hs hl;obtain⟨hk,⟨L,o,hf,hn,ho,hd⟩,hr⟩:=hl;have hL:L∈X.fs:=hs L (by unfold frs;rw[List.filterMap_cons,hf];exact List.mem_cons_self)
   obtain⟨sl,e⟩:=I.base.slot L o ho (I.ok.frf L hL) hL fun z=>I.ok.exfs L z hL
   exact⟨hk,⟨L,_,hf,hn,e,hd⟩,ih (fun b hb=>hs b (by unfold frs;rw[List.filterMap_cons,hf];exact List.mem_cons_of_mem _ hb)) hr⟩
 exact all X.outer (fun _ hb=>hb) I.ok.funs
theorem Inv.stack(I:Inv X pins σ H s):s.heap.FunFrames X.base X.stack:=by
 rcases I.ok.stk with e|⟨e,hf⟩
 ·rw[e];exact I.funs
 ·rw[e]
  obtain⟨m,hn,_⟩:=I.loc;refine .cons (by rw[I.ok.kind];decide) hf hn ?_ I.funs
  exact Heap.get?_none_of_le (Nat.le_trans I.ok.bsz I.ok.above)
theorem Inv.stkSub(I:Inv X pins σ H s):∀ b∈frs X.stack,b∈X.env.locals::X.fs:=fun b hb=>by
 rcases I.ok.stk with e|⟨e,hf⟩
 ·rw[e] at hb;exact List.mem_cons_of_mem _ hb
 ·rw[e] at hb
  unfold frs at hb;rw[List.filterMap_cons,hf] at hb;exact hb
theorem Inv.stkFree(I:Inv X pins σ H s):∀ b∈frs X.stack,H b=none:=fun b hb=>by
 rcases List.mem_cons.mp (I.stkSub b hb) with e|hb
 ·rw[e];exact I.free
 ·obtain⟨_,o,ho,_⟩:=I.ok.funs.mem hb
  exact I.base.free b o ho (I.ok.frf b hb) fun z=>I.ok.exfs b z hb
theorem Inv.step{g':Array GenState}{t':Nat}{d':Drawn}{ch:List Addr}(I:Inv X pins σ H s)
  (hch:∀ b∈ch,(b∈X.ex\/X.s₀.heap.objs.size<=b)/\b≠X.env.locals/\(∀ x c,X.env.cells.lookup x=some c->c≠b)/\∀ p∈X.pn++pins,p.1≠b)
  (keep:∀ b o,b≠X.env.locals->b ∉ X.fs->b ∉ ch->s.heap.get? b=some o->H b=none->h'.get? b=some o)
  (slot:∀ b o,b≠X.env.locals->b∈X.fs->b ∉ ch->s.heap.get? b=some o->H b=none->∃ sl,h'.get? b=some { o with slots:=sl }) (free:∀ b o,b ∉ ch->s.heap.get? b=some o->H b=none->H' b=none)
  (there:∀ b o,b ∉ ch->s.heap.get? b=some o->∃ o',h'.get? b=some o')
  (tups:∀ b xs,H b=some (.tup xs)->H' b=some (.tup xs)) (frzs:∀ b o u,H b=some (.frz o u)->H' b=some (.frz o u)) (tbls:∀ b ps,H b=some (.tbl ps)->∃ more,H' b=some (.tbl (ps++more)))
  (ns:∀ m,s.heap.Ns X.env.locals m->h'.Ns X.env.locals m) (hok:HOk X.prog X.w H' h') (hg:AllBare g') :
  Inv X pins σ H' { s with heap:=h',gens:=g',drawn:=d',toks:=t' }:=by
 have neL:∀ b o,X.s₀.heap.get? b=some o->b≠X.env.locals:=fun b o e=>Nat.ne_of_lt (Nat.lt_of_lt_of_le (Heap.lt_size e) I.ok.above)
 have neC:∀ b o,X.s₀.heap.get? b=some o->b ∉ X.ex->b ∉ ch:=fun b o e hx hb=>by
  rcases (hch b hb).1 with z|z
  ·exact hx z
  ·exact absurd (Nat.lt_of_lt_of_le (Heap.lt_size e) z) (Nat.lt_irrefl _)
 have cellK:∀ x c,X.env.cells.lookup x=some c->∀ v,s.heap.IsCell c v->h'.IsCell c v:=fun x c e v ⟨o,ho,hd⟩=>by
  have nch:c ∉ ch:=fun z=>(hch c z).2.2.1 x c e rfl
  by_cases hc:c∈X.fs
  ·obtain⟨sl,q⟩:=slot c o (I.cne x c e) hc nch ho (I.freeC x c e)
   exact⟨_,q,hd⟩
  ·exact⟨o,keep c o (I.cne x c e) hc nch ho (I.freeC x c e),hd⟩
 refine⟨I.ok,I.os,hg,⟨fun b o e n hb hx=>?_,fun b o e n hb hx=>?_,fun b o e n hx=>?_,fun b o e hx=>?_,fun b xs e=>tups b xs (I.base.tups b xs e),fun b o xs e=>frzs b o xs (I.base.frzs b o xs e),fun b ps e=>?_⟩,?_,fun x c e=>?_,?_,fun x c e=>?_,fun p hp=>?_,hok,I.len⟩
 ·exact keep b o (neL b o e) hb (neC b o e hx) (I.base.keep b o e n hb hx) (I.base.free b o e n hx)
 ·obtain⟨sl,e1⟩:=I.base.slot b o e n hb hx
  obtain⟨sl',e2⟩:=slot b _ (neL b o e) hb (neC b o e hx) e1 (I.base.free b o e n hx);exact⟨sl',e2⟩
 ·obtain⟨o',e1⟩:=I.base.there b o e hx
  exact free b o' (neC b o e hx) e1 (I.base.free b o e n hx)
 ·obtain⟨o',e1⟩:=I.base.there b o e hx
  exact there b o' (neC b o e hx) e1
 ·obtain⟨m1,e1⟩:=I.base.tbls b ps e
  obtain⟨m2,e2⟩:=tbls b _ e1;exact⟨m1++m2,by rw[e2,Array.append_assoc]⟩
 ·obtain⟨m,hn,hl⟩:=I.loc
  refine⟨m,ns m hn,fun i x v e1 e2 e3=>?_⟩
  obtain⟨u,r,l⟩:=hl i x v e1 e2 e3;refine⟨u,r,?_⟩;rcases l with l|⟨k,c,e,z⟩
  ·exact .inl l
  ·exact .inr ⟨k,c,e,cellK x c e _ z⟩
 ·obtain⟨v,z⟩:=I.cell x c e
  exact⟨v,cellK x c e v z⟩
 ·obtain⟨m,⟨o,_,_,ho,_⟩,_⟩:=I.loc
  exact free _ o (fun z=>(hch _ z).2.1 rfl) ho I.free
 ·obtain⟨v,o,ho,hd⟩:=I.cell x c e
  exact free c o (fun z=>(hch c z).2.2.1 x c e rfl) ho (I.freeC x c e)
 ·obtain⟨e,n,ne,nf,d⟩:=I.pin p hp
  have nch:p.1 ∉ ch:=fun z=>(hch p.1 z).2.2.2 p hp rfl
  exact⟨keep p.1 p.2 ne nf nch e n,free p.1 p.2 nch e n,ne,nf,d⟩
theorem Inv.un{t':Nat}(I:Inv X pins σ H s)(u:Un X.fs [] H H' s.heap h')(hok:HOk X.prog X.w H' h'):Inv X pins σ H' { s with heap:=h',toks:=t' }:=by
 obtain⟨m,⟨o,es,ep,ho,r⟩,_⟩:=id I.loc;obtain⟨sl,hL⟩:=u.any ho I.free (by simp)
 exact I.step (g':=s.gens) (d':=s.drawn) (ch:=[]) (fun _ z=>nomatch z) (fun b o _ hb _ e n=>u.keep b o e n hb (by simp)) (fun b o _ hb _ e n=>u.slot b o e n hb (by simp)) (fun b o _ e n=>u.free b o e n (by simp)) (fun b o _ e=>u.there b o e (by simp)) u.tups u.frzs u.tbls (fun m' hm=>by
  obtain⟨o',es',ep',ho',r'⟩:=hm;rw[ho] at ho';cases ho';exact⟨_,es',ep',hL,r'⟩) hok I.bare
theorem Inv.call{g':Array GenState}{t':Nat}{d':Drawn}{ch:List Addr}(I:Inv X pins σ H s)(u:Un (frs X.stack) ch H H' s.heap h')(hok:HOk X.prog X.w H' h')(hg:AllBare g')
  (hch:∀ b∈ch,(b∈X.ex\/X.s₀.heap.objs.size<=b)/\b≠X.env.locals/\(∀ x c,X.env.cells.lookup x=some c->c≠b)/\∀ p∈X.pn++pins,p.1≠b) :
  Inv X pins σ H' { s with heap:=h',gens:=g',drawn:=d',toks:=t' }:=by
 obtain⟨m,⟨o,es,ep,ho,r⟩,_⟩:=id I.loc;obtain⟨sl,hL⟩:=u.any ho I.free fun z=>(hch _ z).2.1 rfl
 exact I.step (ch:=ch) hch (fun b o hL hb hc e n=>u.keep b o e n (fun z=>(List.mem_cons.mp (I.stkSub b z)).elim hL hb) hc) (fun b o _ _ hc e n=>u.any e n hc) (fun b o hc e n=>u.free b o e n hc) (fun b o hc e=>u.there b o e hc) u.tups u.frzs u.tbls (fun m' hm=>by
  obtain⟨o',es',ep',ho',r'⟩:=hm;rw[ho] at ho';cases ho';exact⟨_,es',ep',hL,r'⟩) hok hg
theorem Inv.turned{t':Nat}{it:Addr}(I:Inv X pins σ H s)(k:∀ b o,b≠it->s.heap.get? b=some o->h'.get? b=some o)(hn:H it=none)(hL:it≠X.env.locals)
  (h1:it∈X.ex\/X.s₀.heap.objs.size<=it) (h2:∀ x c,X.env.cells.lookup x=some c->c≠it) (h3:∀ p∈X.pn++pins,p.1≠it):Inv X pins σ H { s with heap:=h',toks:=t' }:=by
 have nit:∀ b u,H b=some u->b≠it:=fun b u e z=>by rw[z,hn] at e;cases e
 refine I.step (g':=s.gens) (d':=s.drawn) (ch:=[it]) (fun b hb=>?_) (fun b o _ _ hc e _=>k b o (fun z=>hc (by simp[z])) e) (fun b o _ _ hc e _=>⟨o.slots,k b o (fun z=>hc (by simp[z])) e⟩) (fun _ _ _ _ n=>n)
  (fun b o hc e=>⟨o,k b o (fun z=>hc (by simp[z])) e⟩) (fun _ _ e=>e) (fun _ _ _ e=>e) (fun b ps e=>⟨#[],by rw[e];simp⟩) (fun m hm=>?_) (fun b u e=>?_) I.bare
 ·have e:b=it:=by simpa using hb
  subst e;exact⟨h1,hL,h2,h3⟩
 ·obtain⟨o,es,ep,ho,r⟩:=hm
  exact⟨o,es,ep,k _ o (Ne.symm hL) ho,r⟩
 ·refine(I.hok b u e).stay (fun c v hc q=>k c v ?_ q) (fun _ q=>q) fun _ _ q=>q
  rcases hc with z|z
  ·rw[z];exact nit b u e
  ·exact nit c _ z
theorem Inv.tok(I:Inv X pins σ H s)(t:Nat):Inv X pins σ H { s with toks:=t }:=I.un (h':=s.heap) (t':=t) Un.refl I.hok
theorem Inv.kept{t':Nat}(I:Inv X pins σ H s)(k:∀ b u,s.heap.get? b=some u->h'.get? b=some u):Inv X pins σ H { s with heap:=h',toks:=t' }:=I.un (Un.kept k) (I.hok.kept k)
theorem Inv.laid{a:Addr}{o:HO}{t':Nat}(I:Inv X pins σ H s)(k:∀ b u,s.heap.get? b=some u->h'.get? b=some u)(hp:s.heap.objs.size<=a)(new:ObjOk X.prog X.w (upd H a o) h' a o) :
  Inv X pins σ (upd H a o) { s with heap:=h',toks:=t' }:=I.un (Un.laid k hp (I.hok.fresh hp)) (I.hok.laid k hp new)
theorem Inv.write{x e:Addr}{o:HO}{t':Nat}(I:Inv X pins σ H s)(mu:Mut (H x))(he:e=x\/H e=some (.own x))(k:∀ b u,b≠e->s.heap.get? b=some u->h'.get? b=some u)(heo:∃ u,h'.get? e=some u)
  (new:ObjOk X.prog X.w (upd H x o) h' x o):Inv X pins σ (upd H x o) { s with heap:=h',toks:=t' }:=I.un (Un.write mu he k heo) (I.hok.write mu he k heo new)
theorem Inv.weak{σ':List (Option V)}(I:Inv X pins σ H s)(hl:σ'.length=σ.length)(w:∀ (i:Nat) v,σ'[i]?=some (some v)->σ[i]?=some (some v)):Inv X pins σ' H s :=
 ⟨I.ok,I.os,I.bare,I.base,let ⟨m,hn,hl'⟩:=I.loc;⟨m,hn,fun i x v e1 e2 e3=>hl' i x v e1 (w i v e2) e3⟩,I.cell,I.free,I.freeC,I.pin,I.hok,hl.trans I.len⟩
theorem Inv.pins_of{pins':List (Addr×Obj)}(I:Inv X pins σ H s)(h:∀ p∈pins',s.heap.get? p.1=some p.2/\H p.1=none/\p.1≠X.env.locals/\p.1 ∉ X.fs/\∀ v,p.2.data≠.cell v):Inv X pins' σ H s :=
 ⟨I.ok,I.os,I.bare,I.base,I.loc,I.cell,I.free,I.freeC,fun p hp=>(List.mem_append.mp hp).elim (fun z=>I.pin p (List.mem_append_left _ z)) (h p),I.hok,I.len⟩
theorem Xh2{N:List Str}(hN:N.Nodup){i j:Nat}{x:Str}(a:N[i]?=some x)(b:N[j]?=some x):i=j:=by
 obtain⟨h1,e1⟩:=List.getElem?_eq_some_iff.mp a;obtain⟨h2,e2⟩:=List.getElem?_eq_some_iff.mp b;exact(List.getElem_inj hN).mp (e1.trans e2.symm)
theorem Xgv{M:Model}{A:Around}{E:Value->Shared->Prop}{i:Nat}{x:Str}{v:V}{u:Value}{Q:Unit->Shared->Prop}(I:Inv X pins σ H s)(hN:X.N.Nodup)(hi:X.N[i]?=some x)(hx:Loc X.env.scope x)(r:RelV v u)
  (h:∀ s',Inv X pins (σ.set i (some v)) H s'->(∃ a,Heap.SameBut a s.heap s'.heap/\(a=X.env.locals\/X.env.cells.lookup x=some a))->Q () s') (hf:X.fn x=true\/X.env.scope.names.lookup x=some .local:=by first|exact .inl rfl|exact .inr rfl|assumption):wpAny M A (storeName X.env x u) Q E s:=by
 obtain⟨m,hn,hl⟩:=id I.loc;have hcls:(X.env.scope.kind == .class||(X.env.scope.kind == .module&&X.env.locals != X.env.globals))=false:=by rw[I.ok.kind];rfl
 have hiσ:i < σ.length:=by rw[I.len];exact(List.getElem?_eq_some_iff.mp hi).1
 have cne:=I.cne;have tracked:∀ {a:Addr} {h':Heap},(∃ o,s.heap.get? a=some o/\H a=none)->Heap.SameBut a s.heap h'->HOk X.prog X.w H h':=fun {a h'} ha hs b ob e=>by
  obtain⟨_,_,hfree⟩:=ha;refine(I.hok b ob e).stay (fun c w' hc q=>(hs.2 c ?_).trans q) (fun _ q=>q) fun _ _ q=>q
  rintro rfl
  rcases hc with rfl|hc
  ·rw[hfree] at e;cases e
  ·rw[hfree] at hc;cases hc
 rcases hx with hk|hk
 ·refine wpAny_storeName_local hk hn (fun h' hn' hs=>?_) hcls
  obtain⟨oL,_,_,hoL,_⟩:=id hn;refine h _ ⟨I.ok,I.os,I.bare,⟨fun b o e n hb hx=>?_,fun b o e n hb hx=>?_,I.base.free,fun b o e hx=>?_,I.base.tups,I.base.frzs,I.base.tbls⟩,⟨_,hn',fun j y v' e1 e2 e3=>?_⟩,fun y c e=>?_,I.free,I.freeC,fun p hp=>?_,tracked ⟨oL,hoL,I.free⟩ hs,by simpa using I.len⟩ ⟨_,hs,.inl rfl⟩
  ·exact(hs.2 b (Nat.ne_of_lt (Nat.lt_of_lt_of_le (Heap.lt_size e) I.ok.above))).trans (I.base.keep b o e n hb hx)
  ·obtain⟨sl,e1⟩:=I.base.slot b o e n hb hx
   exact⟨sl,(hs.2 b (Nat.ne_of_lt (Nat.lt_of_lt_of_le (Heap.lt_size e) I.ok.above))).trans e1⟩
  ·obtain⟨o',e1⟩:=I.base.there b o e hx
   exact⟨o',(hs.2 b (Nat.ne_of_lt (Nat.lt_of_lt_of_le (Heap.lt_size e) I.ok.above))).trans e1⟩
  ·by_cases hj:j=i
   ·subst hj
    rw[hi] at e1;cases e1;rw[List.getElem?_set_self hiσ] at e2;cases e2;exact⟨u,r,.inl ⟨hk,by simp⟩⟩
   ·rw[List.getElem?_set_ne (Ne.symm hj)] at e2
    obtain⟨u',r',q⟩:=hl j y v' e1 e2 e3;refine⟨u',r',?_⟩;rcases q with⟨k,e⟩|⟨k,c,e,z⟩
    ·refine .inl ⟨k,?_⟩
     have:y≠x:=fun e=>hj (Xh2 hN e1 (e▸hi))
     simp[this,e]
    ·exact .inr ⟨k,c,e,z.sameBut hs (cne y c e)⟩
  ·obtain⟨w',z⟩:=I.cell y c e
   exact⟨w',z.sameBut hs (cne y c e)⟩
  ·obtain⟨e,n,ne,nf,d⟩:=I.pin p hp
   exact⟨(hs.2 p.1 ne).trans e,n,ne,nf,d⟩
 ·have hfn:X.fn x=true:=by
   rcases hf with z|z
   ·exact z
   ·rw[z] at hk;cases hk
  obtain⟨c,hc⟩:=I.ok.has x (.inl hk);obtain⟨w',z⟩:=I.cell x c hc;refine wpAny_storeName_cell I.ok.kind hk hc z (fun h' hc' hs=>?_)
  obtain⟨oc,hoc,hocd⟩:=id z;refine h { s with heap:=h' } ⟨I.ok,I.os,I.bare,⟨fun b o e n hb hx=>?_,fun b o e n hb hx=>?_,I.base.free,fun b o e hx=>?_,I.base.tups,I.base.frzs,I.base.tbls⟩,⟨m,hn.sameBut hs (Ne.symm (cne x c hc)),fun j y v' e1 e2 e3=>?_⟩,fun y c' e=>?_,I.free,I.freeC,fun p hp=>?_,tracked ⟨oc,hoc,I.freeC x c hc⟩ hs,by simpa using I.len⟩ ⟨c,hs,.inr hc⟩
  ·exact(hs.2 b (Nat.ne_of_lt (Nat.lt_of_lt_of_le (Heap.lt_size e) (I.ok.cab x c hfn hc)))).trans (I.base.keep b o e n hb hx)
  ·obtain⟨sl,e1⟩:=I.base.slot b o e n hb hx
   exact⟨sl,(hs.2 b (Nat.ne_of_lt (Nat.lt_of_lt_of_le (Heap.lt_size e) (I.ok.cab x c hfn hc)))).trans e1⟩
  ·obtain⟨o',e1⟩:=I.base.there b o e hx
   exact⟨o',(hs.2 b (Nat.ne_of_lt (Nat.lt_of_lt_of_le (Heap.lt_size e) (I.ok.cab x c hfn hc)))).trans e1⟩
  ·by_cases hj:j=i
   ·subst hj
    rw[hi] at e1;cases e1;rw[List.getElem?_set_self hiσ] at e2;cases e2;exact⟨u,r,.inr ⟨.inl hk,c,hc,hc'⟩⟩
   ·rw[List.getElem?_set_ne (Ne.symm hj)] at e2
    obtain⟨u',r',q⟩:=hl j y v' e1 e2 e3;refine⟨u',r',?_⟩;rcases q with q|⟨k,c',e,z'⟩
    ·exact .inl q
    ·refine .inr ⟨k,c',e,z'.sameBut hs ?_⟩
     rintro rfl
     exact hj (Xh2 hN e1 (I.ok.inj _ _ _ e hc▸hi))
  ·by_cases hcc:c'=c
   ·subst hcc;exact⟨_,hc'⟩
   ·obtain⟨w2,z2⟩:=I.cell y c' e
    exact⟨w2,z2.sameBut hs hcc⟩
  ·obtain⟨e,n,ne,nf,d⟩:=I.pin p hp
   refine⟨(hs.2 p.1 ?_).trans e,n,ne,nf,d⟩;intro q;rw[q,hoc] at e;have q':oc=p.2:=Option.some.inj e;exact d w' (by rw[<- q'];exact hocd)
theorem Xa3{M:Model}{A:Around}{E:Value->Shared->Prop}{i:Nat}{x:Str}{v:V}{u:Value}{Q:Unit->Shared->Prop}(I:Inv X pins σ H s)(hN:X.N.Nodup)(hi:X.N[i]?=some x)(hx:Loc X.env.scope x)(r:RelV v u)
  (h:∀ s',Inv X pins (σ.set i (some v)) H s'->Q () s') (hf:X.fn x=true\/X.env.scope.names.lookup x=some .local:=by first|exact .inl rfl|exact .inr rfl|assumption):wpAny M A (storeName X.env x u) Q E s :=
 Xgv I hN hi hx r (fun s' I' _=>h s' I') hf
theorem Inv.call'{s':Shared}{ch:List Addr}(I:Inv X pins σ H s)(ho:s'.os=s.os)(u:Un (frs X.stack) ch H H' s.heap s'.heap)(hok:HOk X.prog X.w H' s'.heap)(hg:AllBare s'.gens)
  (hch:∀ b∈ch,(b∈X.ex\/X.s₀.heap.objs.size<=b)/\b≠X.env.locals/\(∀ x c,X.env.cells.lookup x=some c->c≠b)/\∀ p∈X.pn++pins,p.1≠b):Inv X pins σ H' s':=by
 obtain⟨h',g',d',t',o'⟩:=s';have e:o'=s.os:=ho;subst e;exact I.call (g':=g') (t':=t') (d':=d') u hok hg hch
end
abbrev XK:=Value->Option Addr->Hp->Prop
noncomputable abbrev St:=List (Option V)
abbrev VK:=V->Hp->Prop
abbrev TE:=St->Hp->VK->Prop
structure Ends where
 nx:St->Hp->Prop
 rt:VK
 bk:St->Hp->Prop:=fun _ _=>False
 ct:St->Hp->Prop:=fun _ _=>False
def EP(X:Cx)(pins:List (Addr×Obj))(σ:St)(Q:VK)(u:Value)(s':Shared):Prop:=∃ v H',Inv X pins σ H' s'/\RelV v u/\Q v H'
def TP(X:Cx)(pins:List (Addr×Obj))(σ:St)(Q:Bool->Hp->Prop)(b:Bool)(s':Shared):Prop:=∃ H',Inv X pins σ H' s'/\Q b H'
def SP(X:Cx)(pins:List (Addr×Obj))(D:Ends)(f:Flow)(s':Shared):Prop :=
 match f with
 | .next=>∃ σ' H',Inv X pins σ' H' s'/\D.nx σ' H'
 | .brk=>∃ σ' H',Inv X pins σ' H' s'/\D.bk σ' H'
 | .cont=>∃ σ' H',Inv X pins σ' H' s'/\D.ct σ' H'
 | .ret u=>∃ v σ' H',Inv X pins σ' H' s'/\RelV v u/\D.rt v H'
def PE(X:Cx)(e:Expr)(t:TE):Prop :=
 ∀ (pins:List (Addr×Obj)) (s:Shared) (σ:St) (H:Hp) (Q:VK),Inv X pins σ H s->t σ H Q->wpAny (model X.prog X.w) X.A (eval e X.env) (EP X pins σ Q) X.xe s
theorem thn{α:Type}{t:Sem α}{Q Q':α->Shared->Prop}{M:Model}{A:Around}{E:Value->Shared->Prop}{s:Shared}(h:wpAny M A t Q E s)(hQ:∀ a s,Q a s->Q' a s):wpAny M A t Q' E s:=wpAny_mono h hQ fun _ _ x=>x
end L2
namespace L2
open PySem PySem.Spec PyProof.Rows
section
variable{X:Cx}
theorem bin{a b:Expr}{ta tb:TE}(ha:PE X a ta)(hb:PE X b tb){pins:List (Addr×Obj)}{s:Shared}{σ:St}{H:Hp}{R:V->V->Hp->Prop}(I:Inv X pins σ H s)(h:ta σ H fun x H1=>tb σ H1 fun y H2=>R x y H2)
  {α:Type} {Q:α->Shared->Prop} {f:Value->Value->Sem α}
  (hf:∀ v u s2 x y H2,Inv X pins σ H2 s2->RelV x v->RelV y u->R x y H2->wpAny (model X.prog X.w) X.A (f v u) Q X.xe s2) :
  wpAny (model X.prog X.w) X.A (eval a X.env) (fun v s₁=>wpAny (model X.prog X.w) X.A (eval b X.env) (fun u s₂=>wpAny (model X.prog X.w) X.A (f v u) Q X.xe s₂) X.xe s₁) X.xe s:=by
 refine thn (ha pins s σ H _ I h) fun v s1 ⟨x,H1,I1,r1,q1⟩=>?_
 refine thn (hb pins s1 σ H1 _ I1 q1) fun u s2 ⟨y,H2,I2,r2,q2⟩=>?_
 exact hf v u s2 x y H2 I2 r1 r2 q2
noncomputable def X1q(i:Nat):TE:=fun σ H Q=>∃ v,σ[i]?=some (some v)/\Q v H
noncomputable def tC(v:V):TE:=fun _ H Q=>Q v H
theorem Xwm {i:Nat} {x:Str} {pos:Pos} (hN:X.N[i]?=some x) (hv:Vis X.env.scope x) (hd:(x==("__debug__" : Str))=false:=by decide) (hcd:(x==("__classdict__" : Str))=false:=by decide):PE X (.Name x pos) (X1q i):=by
 intro pins s σ H Q I h;obtain⟨v,e,h⟩:=h;obtain⟨m,hn,hl⟩:=I.loc;obtain⟨u,r,l⟩:=hl i x v hN e hv;have fin:EP X pins σ Q u s:=⟨v,H,I,r,h⟩;rcases l with⟨hk,hm⟩|⟨hk,c,hc,hcell⟩
 ·exact wpAny_Name (wpAny_loadName_local I.ok.kind hk hn hm fin) hd
 ·rcases hk with hk|hk
  ·exact wpAny_Name (wpAny_loadName_cell I.ok.kind hk hc hcell fin) hd
  ·exact wpAny_Name (wpAny_loadName_free I.ok.kind hk hc hcell fin hcd) hd
theorem Xwn{i j pos}:PE X (.Constant (.int i) j pos) (tC (.int i)):=fun _ _ _ H _ I h=>wpAny_Constant_int ⟨.int i,H,I.tok _,⟨_,rfl⟩,h⟩
theorem Xz0{b j pos}:PE X (.Constant (.bool b) j pos) (tC (.bl b)):=fun _ _ _ H _ I h=>Constant_bool ⟨.bl b,H,I,rfl,h⟩
theorem Xwo{j pos}:PE X (.Constant .none j pos) (tC .non):=fun _ _ _ H _ I h=>Constant_none ⟨.non,H,I,rfl,h⟩
theorem Xwp{x j pos}:PE X (.Constant (.str x) j pos) (tC (.str x)):=fun _ _ _ H _ I h=>Calls.Constant_str ⟨.str x,H,I.tok _,⟨_,rfl⟩,h⟩
def Gl(X:Cx)(x:Str):Prop:=X.env.kindOf x=some .globalImplicit
theorem Xdm{E:Value->Shared->Prop}{pins:List (Addr×Obj)}{s:Shared}{σ:St}{H:Hp}{x:Str}{u:Value}{pos:Pos}{Q:Value->Shared->Prop}(I:Inv X pins σ H s)(hg:Gl X x)(hm:X.mg x=some u)(h:Q u s)
  (hd:(x==("__debug__" : Str))=false:=by decide):wpAny (model X.prog X.w) X.A (eval (.Name x pos) X.env) Q E s :=
 Calls.Name_function_global I.ok.kind hg (Calls.loadGlobal_global (by rw[I.ok.glob];exact I.mod.glob.keeps I.bk) hm h) hd
theorem Yn{E:Value->Shared->Prop}{pins:List (Addr×Obj)}{s:Shared}{σ:St}{H:Hp}{x:Str}{u:Value}{pos:Pos}{Q:Value->Shared->Prop}(I:Inv X pins σ H s)(hg:Gl X x)(hm:X.mg x=none)(hv:bootBuiltins x=some u)(h:Q u s)
  (hn:x ≠ "__name__" := by decide) (hd:(x==("__debug__" : Str))=false:=by decide):wpAny (model X.prog X.w) X.A (eval (.Name x pos) X.env) Q E s:=by
 obtain⟨mb,h1,h2⟩:=I.mod.blt;exact Calls.Name_function_global I.ok.kind hg (Calls.loadGlobal_builtin (by rw[I.ok.glob];exact I.mod.glob.keeps I.bk) hm (by rw[I.ok.blt];exact h1.keeps I.bk) ((h2 x hn).trans hv) h) hd
variable{a b:Expr}{ta tb:TE}{pos:Pos}
variable{tA tB':TT}{Xae:List Expr}
end
end L2
namespace L2
open PySem PySem.Spec PyProof.Rows
def SqL(K:PySem.W.Frag)(H:Hp)(a:Addr)(xs:List V):Prop :=
 Rd H a (.lst xs) \/
  ∃ (o:Obj) (its:Array Value) (n:Nat),K.lookup a=some o/\o.cls=.type "list" /\ o.dict=none/\o.data=.seq its n/\its.size<=sizeLine/\Vals xs its.toList
def SqT(K:PySem.W.Frag)(H:Hp)(a:Addr)(xs:List V):Prop :=
 Rd H a (.tup xs) \/
  ∃ (o:Obj) (its:Array Value) (n:Nat),K.lookup a=some o/\o.cls=.type "tuple" /\ o.data=.seq its n/\its.size<=sizeLine/\Vals xs its.toList
noncomputable def X1r:Value->Option V
 | .none=>some .non
 | .bool b=>some (.bl b)
 | .int i _=>some (.int i)
 | .str x _=>some (.str x)
 | .bytes b _=>some (.byt b)
 | .float b _=>some (.flt b)
 | .ref a=>some (.ref a)
 | .type n=>some (.ty n)
 | _=>none
theorem RelV.abs{x:V}{u:Value}(r:RelV x u):X1r u=some x:=by
 cases x with
 | non=>cases r;rfl
 | bl _=>cases r;rfl
 | int _=>obtain⟨t,rfl⟩:=r;rfl
 | str _=>obtain⟨t,rfl⟩:=r;rfl
 | byt _=>obtain⟨t,rfl⟩:=r;rfl
 | flt _=>obtain⟨t,rfl⟩:=r;rfl
 | ref _=>cases r;rfl
 | ty _=>cases r;rfl
theorem RelV.inj{x y:V}{u:Value}(r:RelV x u)(q:RelV y u):x=y:=Option.some.inj (r.abs.symm.trans q.abs)
theorem Vals.inj:∀ {xs ys:List V} {us:List Value},Vals xs us->Vals ys us->xs=ys
 | _,_,_,.nil,.nil=>rfl
 | _,_,_,.cons r t,.cons r' t'=>by rw[r.inj r',Vals.inj t t']
section
variable{X:Cx}{pins:List (Addr×Obj)}{σ:St}{H:Hp}{s:Shared}{a:Addr}{xs ys:List V}
theorem SqL.of{K:PySem.W.Frag}(h:H a=some (.lst xs)):SqL K H a xs:=.inl (.inl h)
theorem SqT.of{K:PySem.W.Frag}(h:H a=some (.tup xs)):SqT K H a xs:=.inl (.inl h)
theorem Inv.list(I:Inv X pins σ H s)(h:SqL X.K H a xs):∃ its:List Value,Vals xs its/\PlainL s.heap a its.toArray/\xs.length<=sizeLine:=by
 rcases h with h|⟨o,its,n,hk,hc,hd,hs,hz,r⟩
 ·obtain⟨z,its,n,r,e⟩:=h.ok I.hok
  exact⟨its,r,⟨_,n,e,rfl,rfl,rfl⟩,z⟩
 ·refine⟨its.toList,r,⟨o,n,I.kIn a o hk,hc,hd,by simpa using hs⟩,?_⟩
  have e:=r.length;simp only[Array.length_toList] at e;omega
theorem Inv.tuple(I:Inv X pins σ H s)(h:SqT X.K H a xs):∃ its:List Value,Vals xs its/\IsTup s.heap a its.toArray/\xs.length<=sizeLine:=by
 rcases h with h|⟨o,its,n,hk,hc,hs,hz,r⟩
 ·obtain⟨z,its,r,p⟩:=h.ok I.hok
  exact⟨its,r,p,z⟩
 ·refine⟨its.toList,r,⟨o,I.kIn a o hk,hc,n,by simpa using hs⟩,?_⟩
  have e:=r.length;simp only[Array.length_toList] at e;omega
theorem Inv.list_inj(I:Inv X pins σ H s)(h:SqL X.K H a xs)(h':SqL X.K H a ys):xs=ys:=by
 obtain⟨its,r,⟨o,n,e,_,_,d⟩,_⟩:=I.list h;obtain⟨its',r',⟨o',n',e',_,_,d'⟩,_⟩:=I.list h';rw[e] at e';cases e';rw[d] at d';injection d' with d1 _
 have:its=its':=by simpa using congrArg Array.toList d1
 subst this;exact r.inj r'
theorem Inv.tuple_inj(I:Inv X pins σ H s)(h:SqT X.K H a xs)(h':SqT X.K H a ys):xs=ys:=by
 obtain⟨its,r,⟨o,e,_,n,d⟩,_⟩:=I.tuple h;obtain⟨its',r',⟨o',e',_,n',d'⟩,_⟩:=I.tuple h';rw[e] at e';cases e';rw[d] at d';injection d' with d1 _
 have:its=its':=by simpa using congrArg Array.toList d1
 subst this;exact r.inj r'
end
noncomputable abbrev Cx.wish(X:Cx)(E:Value->Shared->Prop):Cx:={ X with xe:=E }
theorem Cx.Ok.wish{X:Cx}(ok:X.Ok)(E:Value->Shared->Prop):(X.wish E).Ok :=
 ⟨ok.mod,ok.kind,ok.glob,ok.blt,ok.above,ok.inj,ok.has,ok.cab,ok.hd,ok.frames,ok.stk,ok.exf,ok.bs,ok.bsz,ok.noex,ok.exfs,ok.funs,ok.frf⟩
theorem Cx.Ok.unwish{X:Cx}{E:Value->Shared->Prop}(ok:(X.wish E).Ok):X.Ok :=
 ⟨ok.mod,ok.kind,ok.glob,ok.blt,ok.above,ok.inj,ok.has,ok.cab,ok.hd,ok.frames,ok.stk,ok.exf,ok.bs,ok.bsz,ok.noex,ok.exfs,ok.funs,ok.frf⟩
section
variable{X:Cx}{pins:List (Addr×Obj)}{σ:St}{H:Hp}{s:Shared}{E:Value->Shared->Prop}
theorem Inv.wish(I:Inv X pins σ H s)(E:Value->Shared->Prop):Inv (X.wish E) pins σ H s:=⟨I.ok.wish E,I.os,I.bare,I.base,I.loc,I.cell,I.free,I.freeC,I.pin,I.hok,I.len⟩
theorem Inv.unwish(I:Inv (X.wish E) pins σ H s):Inv X pins σ H s:=⟨I.ok.unwish,I.os,I.bare,I.base,I.loc,I.cell,I.free,I.freeC,I.pin,I.hok,I.len⟩
theorem SP.unwish{D:Ends}{f:Flow}{s':Shared}(h:SP (X.wish E) pins D f s'):SP X pins D f s':=by
 cases f with
 | next=>obtain⟨σ',H',I,q⟩:=h;exact⟨σ',H',I.unwish,q⟩
 | brk=>obtain⟨σ',H',I,q⟩:=h;exact⟨σ',H',I.unwish,q⟩
 | cont=>obtain⟨σ',H',I,q⟩:=h;exact⟨σ',H',I.unwish,q⟩
 | ret u=>obtain⟨v,σ',H',I,r,q⟩:=h;exact⟨v,σ',H',I.unwish,r,q⟩
end
section
variable{X:Cx}{st:Stmt}{Xae:List Stmt}{t u:TS}{e:Expr}{te:TE}{pos:Pos}
theorem Inv.quiet{pins:List (Addr×Obj)}{σ:St}{H:Hp}{s:Shared}(I:Inv X pins σ H s):interactive X.env=false:=by simp[interactive,I.ok.kind]
end
abbrev TG:=V->St->Hp->(St->Hp->Prop)->Prop
abbrev TGs:=List V->St->Hp->(St->Hp->Prop)->Prop
def PG(X:Cx)(target:Expr)(t:TG):Prop :=
 ∀ (pins:List (Addr×Obj)) (s:Shared) (σ:St) (H:Hp) (v:V) (u:Value) (Q:St->Hp->Prop),Inv X pins σ H s->RelV v u->t v σ H Q ->
  wpAny (model X.prog X.w) X.A (assign target X.env u) (fun _ s'=>∃ σ' H',Inv X pins σ' H' s'/\Q σ' H') X.xe s
def PGs(X:Cx)(ts:List Expr)(t:TGs):Prop :=
 ∀ (pins:List (Addr×Obj)) (s:Shared) (σ:St) (H:Hp) (vs:List V) (us:List Value) (Q:St->Hp->Prop),Inv X pins σ H s->Vals vs us->t vs σ H Q ->
  wpAny (model X.prog X.w) X.A (assignInOrder ((assignEach ts X.env).map (·.2)) us) (fun _ s'=>∃ σ' H',Inv X pins σ' H' s'/\Q σ' H') X.xe s
abbrev X1s:=V->V->V->Hp->(Hp->Prop)->Prop
def X1t(X:Cx)(t:X1s):Prop :=
 ∀ (pins:List (Addr×Obj)) (s:Shared) (σ:St) (H:Hp) (o i v:V) (ov iv u:Value) (Q:Hp->Prop),Inv X pins σ H s->RelV o ov->RelV i iv->RelV v u->t o i v H Q ->
  wpAny (model X.prog X.w) X.A (setItem ov iv u) (fun _ s'=>∃ H',Inv X pins σ H' s'/\Q H') X.xe s
section
variable{X:Cx}{pos:Pos}
noncomputable def Xk6(i:Nat):TG:=fun v σ H Q=>Q (σ.set i (some v)) H
theorem Xj4{i:Nat}{x:Str}(hN:X.N.Nodup)(hi:X.N[i]?=some x)(hx:Loc X.env.scope x)(hf:X.fn x=true\/X.env.scope.names.lookup x=some .local:=by first|exact .inl rfl|exact .inr rfl|assumption):PG X (.Name x pos) (Xk6 i):=by
 intro pins s σ H v u Q I r h;exact wpAny_assign_Name (Xa3 I hN hi hx r (fun s' I'=>⟨_,H,I',h⟩) hf)
noncomputable def Xwq:TGs:=fun vs σ H Q=>vs=[]/\Q σ H
noncomputable def Xsj(t:TG)(u:TGs):TGs:=fun vs σ H Q=>∃ v r,vs=v::r/\t v σ H fun σ' H'=>u r σ' H' Q
theorem Xj5:PGs X [] Xwq:=by
 intro pins s σ H vs us Q I r h;obtain⟨e,h⟩:=h;subst e;cases r;exact assignInOrder_nil ⟨σ,H,I,h⟩
theorem Xef{e:Expr}{es:List Expr}{t:TG}{u:TGs}(h1:PG X e t)(h2:PGs X es u)
  (hs:(assignEach (e::es) X.env).map (·.2)=assign e X.env::(assignEach es X.env).map (·.2):=by rfl):PGs X (e::es) (Xsj t u):=by
 intro pins s σ H vs us Q I r h;obtain⟨v,vr,e1,h⟩:=h;subst e1;cases r with
 | cons r rr =>
  rw[hs];refine assignInOrder_cons (thn (h1 pins s σ H _ _ _ I r h) fun _ s1 ⟨σ1,H1,I1,q1⟩=>?_)
  exact h2 pins s1 σ1 H1 _ _ Q I1 rr q1
noncomputable def X1u(K:PySem.W.Frag)(n:Nat)(t:TGs):TG:=fun v σ H Q=>∃ a xs,v=.ref a/\SqT K H a xs/\xs.length=n/\t xs σ H Q
theorem Xh3{es:List Expr}{k:Nat}{t:TGs}{n:Nat}(hc:X.calm=true)(h:PGs X es t)
  (hn:(assignEach es X.env).length=n:=by rfl) (hst:(assignEach es X.env).findIdx? (·.1)=none:=by rfl):PG X (.Tuple es k pos) (X1u X.K n t):=by
 intro pins s σ H v u Q I r hw;obtain⟨a,xs,e1,hq,hl,hw⟩:=hw;subst e1;cases r;obtain⟨its,rv,ht,hz⟩:=I.tuple hq;refine assign_Tuple_tuple (I.ok.hd hc) ht (by simp[hn,<- hl,rv.length]) hst fun h' hx=>?_
 have I1:Inv X pins σ H { s with heap:=h' }:=I.kept (t':=s.toks) fun b o e=>hx b o (Nat.ne_of_lt (Heap.lt_size e)) e
 exact h pins _ σ H xs _ Q I1 (by simpa using rv) hw
end
section
variable{X:Cx}{pos:Pos}
end
structure It where
 go:Nat->Hp->Prop
 yld:Nat->Hp->V->Hp->Prop
 stop:Nat->Hp->Prop
def Y9(X:Cx)(pins:List (Addr×Obj))(H:Hp)(b:Addr):Prop :=
 H b=none/\b≠X.env.locals/\b ∉ X.fs/\(b∈X.ex\/X.s₀.heap.objs.size<=b)/\(∀ x c,X.env.cells.lookup x=some c->c≠b)/\∀ p∈X.pn++pins,p.1≠b
theorem Inv.fpOk{X:Cx}{pins:List (Addr×Obj)}{σ:St}{H H':Hp}{s:Shared}{b:Addr}(I:Inv X pins σ H s)(hb:s.heap.objs.size<=b)(hn:H' b=none):Y9 X pins H' b:=by
 refine⟨hn,Nat.ne_of_gt (Nat.lt_of_lt_of_le I.lt hb),I.nofs hb,.inr (Nat.le_trans I.sz hb),fun x c e z=>?_,fun p hp z=>?_⟩
 ·obtain⟨v,q⟩:=I.cell x c e
  exact absurd (Nat.lt_of_lt_of_le q.lt (by rw[z];exact hb)) (Nat.lt_irrefl _)
 ·exact absurd (Nat.lt_of_lt_of_le (Heap.lt_size (I.pin p hp).1) (by rw[z];exact hb)) (Nat.lt_irrefl _)
structure Turn(P:Program)(w:World)(K:PySem.W.Frag)(tg:Expr)(J:It)(fp:List Addr)(it:Addr)(tn:Nat->Heap->Prop):Prop where
 mem:it∈fp
 obj:∀ i h,tn i h->∀ b∈fp,∃ o,h.get? b=some o/\∀ v,o.data≠.cell v
 keep:∀ i h h',tn i h->(∀ b∈fp,∀ o,h.get? b=some o->h'.get? b=some o)->tn i h'
 item:∀ (X:Cx),X.prog=P->X.w=w->X.K=K->X.calm=true->∀ (i:Nat) (pins:List (Addr×Obj)) (s:Shared) (σ:St) (H:Hp) (E:Value->Shared->Prop),Inv X pins σ H s->(∀ b∈fp,Y9 X pins H b)->tn i s.heap->J.go i H ->
  wpAny (model P w) X.A (pyNext (.ref it)) (fun r s1=>∃ u,r=some u /\
   wpAny (model P w) X.A (letOwnedTupleGo tg (.ref it) u) (fun _ s2=>∃ x H',Inv X pins σ H' s2/\RelV x u/\J.yld i H x H'/\tn (i+1) s2.heap/\∀ b∈fp,H' b=none) E s1) E s
 done:∀ (X:Cx),X.prog=P->X.w=w->X.K=K->X.calm=true->∀ (i:Nat) (pins:List (Addr×Obj)) (s:Shared) (σ:St) (H:Hp) (E:Value->Shared->Prop),Inv X pins σ H s->(∀ b∈fp,Y9 X pins H b)->tn i s.heap->J.stop i H ->
  wpAny (model P w) X.A (pyNext (.ref it)) (fun r s1=>r=none/\Inv X pins σ H s1) E s
 self:∀ (A:Around) (i:Nat) (s:Shared) (Q:Value->Shared->Prop) (E:Value->Shared->Prop),tn i s.heap->Q (.ref it) s->wpAny (model P w) A (pyIter (.ref it)) Q E s
def PIE(X:Cx)(pins:List (Addr×Obj))(σ:St)(tg:Expr)(R:It->Hp->Prop)(itv:Value)(s2:Shared):Prop :=
 ∃ (it:Addr) (fp:List Addr) (tn:Nat->Heap->Prop) (J:It) (H':Hp),itv=.ref it/\Inv X pins σ H' s2/\Turn X.prog X.w X.K tg J fp it tn/\tn 0 s2.heap/\(∀ b∈fp,Y9 X pins H' b)/\R J H'
theorem Xhp{M:Model}{A:Around}{E:Value->Shared->Prop}{s:Shared}{tg:Expr}{it:Addr}{u:Value}{o:Obj}{n:String}{vs:Array Value}{Q:Unit->Shared->Prop}(ho:s.heap.get? it=some o)(hc:o.cls=.type n)(hd:o.data=.fields vs)
  (hn:["enumerate","zip","dict_itemiterator","dict_reverseitemiterator","odict_iterator","itertools.zip_longest","itertools.pairwise"].contains n=false) (hQ:Q () s):wpAny M A (letOwnedTupleGo tg (.ref it) u) Q E s:=by
 unfold letOwnedTupleGo;cases tg<;>first
  | exact wpAny_pure hQ
  | (cases u<;>first
    | exact wpAny_pure hQ
    | (refine wpAny_bind (wpAny_load ho ?_)
       rw[hc,hd];show wpAny M A (if (["enumerate","zip","dict_itemiterator","dict_reverseitemiterator","odict_iterator","itertools.zip_longest","itertools.pairwise"].contains n&&vs[0]?==some (rawInt _))=true then _ else _) Q E s
       rw[if_neg (by intro h;rw[hn,Bool.false_and] at h;cases h)]
       exact wpAny_pure hQ))
noncomputable def Itl(K:PySem.W.Frag)(a:Addr):It :=
 ⟨fun i H=>∃ xs x,SqL K H a xs/\xs[i]?=some x,fun i H x H'=>H'=H/\∀ xs,SqL K H a xs->xs[i]?=some x,fun i H=>∃ xs,SqL K H a xs/\xs.length<=i⟩
noncomputable def Itt(K:PySem.W.Frag)(a:Addr):It :=
 ⟨fun i H=>∃ xs x,SqT K H a xs/\xs[i]?=some x,fun i H x H'=>H'=H/\∀ xs,SqT K H a xs->xs[i]?=some x,fun i H=>∃ xs,SqT K H a xs/\xs.length<=i⟩
noncomputable def Itr(lo:Int)(n:Nat):It:=⟨fun i _=>i<n,fun i H x H'=>H'=H/\x=.int (lo+i),fun i _=>n<=i⟩
theorem Xm8{P:Program}{w:World}{K:PySem.W.Frag}{tg:Expr}(a it:Addr):Turn P w K tg (Itl K a) [it] it (fun i h=>h.IsListIter it a i) where
 mem:=by simp
 obj:=fun i h st b hb=>by
  have e:b=it:=by simpa using hb
  subst e;obtain⟨o,e,c,d⟩:=st;exact⟨o,e,fun v z=>by rw[d] at z;cases z⟩
 keep:=fun i h h' st k=>st.at fun o e=>k it (by simp) o e
 item:=by
  intro X hP hw hK hc i pins s σ H E I hf st hg;subst hP hw hK;obtain⟨xs,x,hq,hx⟩:=hg;obtain⟨its,rv,p,hz⟩:=I.list hq;obtain⟨u,hu,ru⟩:=rv.get hx;obtain⟨f0,f1,f2,f3,f4,f5⟩:=hf it (by simp)
  refine wpAny_pyNext_list_item st p.isList (x:=u) (by simpa using hu) fun h' st' sb=>?_
  have I1:Inv X pins σ H { s with heap:=h' }:=I.turned (t':=s.toks) (fun b o hb e=>(sb.2 b hb).trans e) f0 f1 f3 f4 f5
  obtain⟨o,e,c,d⟩:=id st';exact⟨u,rfl,Xhp (s:={ s with heap:=h' }) e c d (by decide) ⟨x,H,I1,ru,⟨rfl,fun ys hy=>by rw[I.list_inj hy hq];exact hx⟩,st',fun b hb=>(hf b hb).1⟩⟩
 done:=by
  intro X hP hw hK hc i pins s σ H E I hf st hg;subst hP hw hK;obtain⟨xs,hq,hx⟩:=hg;obtain⟨its,rv,p,hz⟩:=I.list hq;obtain⟨f0,f1,f2,f3,f4,f5⟩:=hf it (by simp)
  have hl:=rv.length;exact wpAny_pyNext_list_end (I.ok.hd hc) st p.isList (by simp;omega) fun h' eb=>⟨rfl,I.turned (t':=s.toks) (fun b o hb e=>eb b o hb e) f0 f1 f3 f4 f5⟩
 self:=fun _ _ _ _ _ st h=>wpAny_pyIter_listiter st h
theorem Xk7{P:Program}{w:World}{K:PySem.W.Frag}{tg:Expr}(a it:Addr):Turn P w K tg (Itt K a) [it] it (fun i h=>h.IsTupleIter it a i) where
 mem:=by simp
 obj:=fun i h st b hb=>by
  have e:b=it:=by simpa using hb
  subst e;obtain⟨o,e,c,d⟩:=st;exact⟨o,e,fun v z=>by rw[d] at z;cases z⟩
 keep:=fun i h h' st k=>st.at fun o e=>k it (by simp) o e
 item:=by
  intro X hP hw hK hc i pins s σ H E I hf st hg;subst hP hw hK;obtain⟨xs,x,hq,hx⟩:=hg;obtain⟨its,rv,p,hz⟩:=I.tuple hq;obtain⟨u,hu,ru⟩:=rv.get hx;obtain⟨f0,f1,f2,f3,f4,f5⟩:=hf it (by simp)
  refine wpAny_pyNext_tuple_item st (show s.heap.IsTuple a its.toArray from p) (x:=u) (by simpa using hu) fun h' st' sb=>?_
  have I1:Inv X pins σ H { s with heap:=h' }:=I.turned (t':=s.toks) (fun b o hb e=>(sb.2 b hb).trans e) f0 f1 f3 f4 f5
  obtain⟨o,e,c,d⟩:=id st';exact⟨u,rfl,Xhp (s:={ s with heap:=h' }) e c d (by decide) ⟨x,H,I1,ru,⟨rfl,fun ys hy=>by rw[I.tuple_inj hy hq];exact hx⟩,st',fun b hb=>(hf b hb).1⟩⟩
 done:=by
  intro X hP hw hK hc i pins s σ H E I hf st hg;subst hP hw hK;obtain⟨xs,hq,hx⟩:=hg;obtain⟨its,rv,p,hz⟩:=I.tuple hq;obtain⟨f0,f1,f2,f3,f4,f5⟩:=hf it (by simp)
  have hl:=rv.length;exact wpAny_pyNext_tuple_end (I.ok.hd hc) st (show s.heap.IsTuple a its.toArray from p) (by simp;omega) fun h' eb=>⟨rfl,I.turned (t':=s.toks) (fun b o hb e=>eb b o hb e) f0 f1 f3 f4 f5⟩
 self:=fun _ _ _ _ _ st h=>wpAny_pyIter_tupleiter st h
theorem Xk8{P:Program}{w:World}{K:PySem.W.Frag}{tg:Expr}(it:Addr)(lo:Int)(n:Nat):Turn P w K tg (Itr lo n) [it] it (fun i h=>IsRangeIter h it (lo+(i:Nat)*1) ((n:Int)-(i:Nat)) 1) where
 mem:=by simp
 obj:=fun i h st b hb=>by
  have e:b=it:=by simpa using hb
  subst e;exact⟨_,st,fun v z=>by
   have z':Data.fields _=Data.cell v:=z;cases z'⟩
 keep:=fun i h h' st k=>k it (by simp) _ st
 item:=by
  intro X hP hw hK hc i pins s σ H E I hf st hg;subst hP hw hK;obtain⟨f0,f1,f2,f3,f4,f5⟩:=hf it (by simp)
  have W:=Walks.range (prog:=X.prog) (w:=X.w) (I.ok.hd hc) it lo 1 n;refine W.item i s _ _ hg st fun v h' tk hv st' kk=>?_
  obtain⟨t,rfl⟩:=hv;have I1:Inv X pins σ H { s with heap:=h',toks:=tk }:=I.turned (fun b o hb e=>kk b o (by simpa using hb) e) f0 f1 f3 f4 f5
  refine⟨_,rfl,Xhp (s:={ s with heap:=h',toks:=tk }) (n := "range_iterator") st' rfl rfl (by decide) ⟨.int (lo+i),H,I1,⟨t,?_⟩,⟨rfl,rfl⟩,st',fun b hb=>(hf b hb).1⟩⟩
  rw[Int.mul_one]
 done:=by
  intro X hP hw hK hc i pins s σ H E I hf st hg;subst hP hw hK;obtain⟨f0,f1,f2,f3,f4,f5⟩:=hf it (by simp)
  exact wpAny_pyNext_range_end (I.ok.hd hc) st (by have:n<=i:=hg;omega) fun h' eb=>⟨rfl,I.turned (t':=s.toks) (fun b o hb e=>eb b o hb e) f0 f1 f3 f4 f5⟩
 self:=fun _ _ _ _ _ st h=>wpAny_pyIter_rangeiter st h
end L2
namespace L2
open PySem PySem.Spec PyProof.Rows
section
variable{X:Cx}{tg:Expr}
theorem Xpl{pins:List (Addr×Obj)}{σ:St}{H:Hp}{s:Shared}{R:It->Hp->Prop}{E:Value->Shared->Prop}{lo hi:Int}{t u v:Tok}{tk:Nat}(I:Inv X pins σ H s)(h1:-(2^62)<=lo)(h2:lo<2^62)(h3:-(2^62)<=hi)(h4:hi<2^62)
  (q:R (Itr lo (hi-lo).toNat) H):wpAny (model X.prog X.w) X.A (pyIter (.ref s.heap.objs.size)) (PIE X pins σ tg R) E { s with heap:=s.heap.push { cls:=.type "range",data:=.fields #[.int lo t,.int hi u,.int 1 v] },toks:=tk }:=by
 refine wpAny_pyIter_range (IsRange.new ..) (small_one h1 h2 h3 h4) ?_;have I1:Inv X pins σ H { s with heap:=s.heap.push { cls:=.type "range",data:=.fields #[.int lo t,.int hi u,.int 1 v] },toks:=tk }:=I.kept fun b o e=>Heap.get?_push_of_some _ e
 refine⟨(s.heap.push { cls:=.type "range",data:=.fields #[.int lo t,.int hi u,.int 1 v] }).objs.size,[(s.heap.push { cls:=.type "range",data:=.fields #[.int lo t,.int hi u,.int 1 v] }).objs.size],_,_,H,rfl,
  I1.kept (t':=tk) fun b o e=>Heap.get?_push_of_some _ e,Xk8 _ lo (hi-lo).toNat,?_,fun b hb=>?_,q⟩
 ·have e1:lo+((0:Nat):Int)*1=lo:=by simp
  have e2:(((hi-lo).toNat:Nat):Int)-((0:Nat):Int)=Builtin.Range.rangeSize lo hi 1:=by rw[rangeSize_one];split<;>omega
  show IsRangeIter _ _ (lo+((0:Nat):Int)*1) ((((hi-lo).toNat:Nat):Int)-((0:Nat):Int)) 1;rw[e1,e2];exact Heap.get?_push_size _ rfl
 ·have e:b=(s.heap.push { cls:=.type "range",data:=.fields #[.int lo t,.int hi u,.int 1 v] }).objs.size:=by simpa using hb
  subst e;exact I1.fpOk (Nat.le_refl _) (I1.hok.fresh (Nat.le_refl _))
noncomputable def Xav(fp:List Addr)(h:Heap):List (Addr×Obj):=fp.filterMap fun b=>(h.get? b).map fun o=>(b,o)
theorem Xbj{fp:List Addr}{h:Heap}{b:Addr}{o:Obj}(hb:b∈fp)(e:h.get? b=some o):(b,o)∈Xav fp h:=List.mem_filterMap.mpr ⟨b,hb,by rw[e];rfl⟩
theorem Xm9{fp:List Addr}{h:Heap}{p:Addr×Obj}(hp:p∈Xav fp h):p.1∈fp/\h.get? p.1=some p.2:=by
 obtain⟨b,hb,e⟩:=List.mem_filterMap.mp hp;cases q:h.get? b with
 | none=>rw[q] at e;cases e
 | some o =>
  rw[q] at e;have e':(b,o)=p:=Option.some.inj e;subst e';exact⟨hb,q⟩
theorem Inv.pinned{pins:List (Addr×Obj)}{σ:St}{H:Hp}{s:Shared}{fp:List Addr}(I:Inv X pins σ H s)(hf:∀ b∈fp,Y9 X pins H b)(ho:∀ b∈fp,∃ o,s.heap.get? b=some o/\∀ v,o.data≠.cell v):Inv X (pins++Xav fp s.heap) σ H s :=
 I.pins_of fun p hp=>(List.mem_append.mp hp).elim (fun z=>I.pin p (List.mem_append_right _ z)) fun z=>by
  obtain⟨hb,e⟩:=Xm9 z;obtain⟨f0,f1,f2,_⟩:=hf p.1 hb;obtain⟨o,e',d⟩:=ho p.1 hb;rw[e] at e';cases e';exact⟨e,f0,f1,f2,d⟩
theorem Inv.unpinned{pins pl:List (Addr×Obj)}{σ:St}{H:Hp}{s:Shared}(I:Inv X (pins++pl) σ H s):Inv X pins σ H s:=I.pins_of fun p hp=>I.pin p (List.mem_append_right _ (List.mem_append_left _ hp))
end
end L2
namespace L2
open PySem PySem.Spec PyProof.Rows
abbrev R2:=V->V->Hp->VK->Prop
def OpR(X:Cx)(f:Value->Value->Sem Value)(r:R2):Prop :=
 ∀ (pins:List (Addr×Obj)) (s:Shared) (σ:St) (H:Hp) (x y:V) (v u:Value) (Q:VK),Inv X pins σ H s->RelV x v->RelV y u->r x y H Q ->
  wpAny (model X.prog X.w) X.A (f v u) (EP X pins σ Q) X.xe s
def Xcq(X:Cx)(f:Value)(r:List V->Hp->VK->Prop):Prop :=
 ∀ (pins:List (Addr×Obj)) (s:Shared) (σ:St) (H:Hp) (xs:List V) (us:List Value) (Q:VK),Inv X pins σ H s->Vals xs us->r xs H Q ->
  wpAny (model X.prog X.w) X.A (call f us) (EP X pins σ Q) X.xe s
def X1v(X:Cx)(r:V->Hp->(Bool->Hp->Prop)->Prop):Prop :=
 ∀ (pins:List (Addr×Obj)) (s:Shared) (σ:St) (H:Hp) (x:V) (v:Value) (Q:Bool->Hp->Prop),Inv X pins σ H s->RelV x v->r x H Q ->
  wpAny (model X.prog X.w) X.A (truthy v) (TP X pins σ Q) X.xe s
section
variable{X:Cx}{a b c:Expr}{ta tb tc:TE}{pos:Pos}
def CMul(i j:Int):Prop:=(-(2^64)<i/\i<2^64)\/(-(2^64)<j/\j<2^64)
theorem CMul.ok{i j:Int}(h:CMul i j):IntMulOk i j:=by
 rcases h with⟨h1,h2⟩|⟨h1,h2⟩
 ·exact .of_left (intBits_le_64 h1 h2)
 ·exact .of_right (intBits_le_64 h1 h2)
end
section
variable{X:Cx}{a b c:Expr}{ta tb tc:TE}{pos:Pos}
noncomputable def Xz1:HO->Bool
 | .lst _=>true
 | .ins _ _ _=>true
 | _=>false
theorem Xb1{pins:List (Addr×Obj)}{s:Shared}{σ:St}{H:Hp}{a:Addr}{o:HO}(I:Inv X pins σ H s)(h:H a=some o)(p:Xz1 o=true):∃ ob,s.heap.get? a=some ob/\ob.cls≠.type "tuple" := by
 cases o with
 | lst xs =>
  obtain⟨_,its,n,_,e⟩:xs.length<=sizeLine/\∃ (its:List Value) (n:Nat),Vals xs its/\s.heap.get? a=some { cls:=.type "list",data:=.seq its.toArray n }:=I.hok a _ h;exact⟨_,e,(by show Value.type "list" ≠ .type "tuple";decide+kernel)⟩
 | ins C dx fs =>
  have x:=I.hok a _ h;obtain⟨_,_,_,e,_⟩:=x;exact⟨_,e,(by show Value.ref C≠.type "tuple";exact fun z=>by cases z)⟩
 | _=>exact absurd (show false=true from p) Bool.false_ne_true
def Xwr(K:PySem.W.Frag)(x:V)(H:Hp)(k:Bool):Prop :=
 match x with
 | .non=>k=false
 | .bl b=>k=b
 | .int i=>k=(i != 0)
 | .str y=>y.length<=sizeLine/\k=((y.length:Int) != 0)
 | .byt y=>y.size<=sizeLine/\k=((y.size:Int) != 0)
 | .ref p=>(∃ xs,SqL K H p xs/\k = !xs.isEmpty)\/(∃ xs,SqT K H p xs/\k = !xs.isEmpty)\/∃ kvs,H p=some (.dK kvs)/\k = !kvs.isEmpty
 | _=>False
theorem Xk9{κ:Type}{kvs:List (κ×V)}{vs:List (κ×Value)}(r:KV kvs vs):(!vs.isEmpty) = !kvs.isEmpty:=by
 cases r<;>rfl
theorem Xey{xs:List V}{its:List Value}(r:Vals xs its):(!its.toArray.isEmpty) = !xs.isEmpty:=by
 cases r<;>simp
theorem Xbt:(sizeLine:Nat)<2^63:=by rw[sizeLine_eq];decide
theorem Xws:X1v X (fun x H Q=>∃ k,Xwr X.K x H k/\Q k H):=by
 intro pins s σ H x v Q I rx h;obtain⟨k,e,q⟩:=h;have hl:=Xbt;have hs:sizeLine=16777216:=sizeLine_eq;cases x with
 | non =>
  cases rx;have e':k=false:=e;subst e';exact truthy_none ⟨H,I,q⟩
 | bl b =>
  cases rx;have e':k=b:=e;subst e';exact wpAny_truthy_bool ⟨H,I,q⟩
 | int i =>
  obtain⟨t,rfl⟩:=rx;have e':k=(i != 0):=e;subst e';exact PySem.P.truthy_int ⟨H,I,q⟩
 | str y =>
  obtain⟨t,rfl⟩:=rx;obtain⟨hy,e'⟩:y.length<=sizeLine/\k=((y.length:Int) != 0):=e;subst e';exact PySem.P.truthy_str (by omega) ⟨H,I.tok _,q⟩
 | byt y =>
  obtain⟨t,rfl⟩:=rx;obtain⟨hy,e'⟩:y.size<=sizeLine/\k=((y.size:Int) != 0):=e;subst e';exact PySem.W.truthy_bytes (by omega) ⟨H,I.tok _,q⟩
 | ref p =>
  cases rx;have e':(∃ xs,SqL X.K H p xs/\k = !xs.isEmpty)\/(∃ xs,SqT X.K H p xs/\k = !xs.isEmpty)\/∃ kvs,H p=some (.dK kvs)/\k = !kvs.isEmpty:=e;rcases e' with⟨xs,hx,e'⟩|⟨xs,hx,e'⟩|⟨kvs,hx,e'⟩
  ·subst e'
   obtain⟨its,r,pl,hz⟩:=I.list hx;have hlen:=r.length;exact wpAny_truthy_list pl.isList (by simp only[List.size_toArray];omega) ⟨H,I.tok _,by rw[Xey r];exact q⟩
  ·subst e'
   obtain⟨its,r,pl,hz⟩:=I.tuple hx;have hlen:=r.length;exact truthy_tuple pl (by simp only[List.size_toArray];omega) ⟨H,I.tok _,by rw[Xey r];exact q⟩
  ·subst e'
   obtain⟨hz,hS,vs,r,m⟩:kvs.length<=sizeLine/\(p==sysModules)=false/\∃ vs,KV kvs vs/\s.heap.DictOf (Xfq X.prog X.w) p vs:=I.hok p _ hx;have hlen:kvs.length=vs.length:=Paired.length r;exact wpAny_truthy_dict hS m (by omega) ⟨H,I.tok _,by rw[Xk9 r];exact q⟩
 | _=>exact(show False from e).elim
theorem Xla:OpR X (binaryOp .Add) (fun x y H Q=>∃ i j,x=.str i/\y=.str j/\i.length+j.length<=sizeLine/\Q (.str (i++j)) H):=by
 intro pins s σ H x y v u Q I rx ry h;obtain⟨i,j,rfl,rfl,hz,q⟩:=h;obtain⟨t,rfl⟩:=rx;obtain⟨t',rfl⟩:=ry;exact add_str (fun t' tk=>⟨.str (i++j),H,I.tok _,⟨_,rfl⟩,q⟩) hz
theorem Xhq{x:V}{us:List Value}(r:Vals [x] us):∃ u,us=[u]/\RelV x u:=by
 cases r with
 | cons r1 r2=>cases r2;exact⟨_,rfl,r1⟩
theorem Xsk{x y:V}{us:List Value}(r:Vals [x,y] us):∃ u w',us=[u,w']/\RelV x u/\RelV y w':=by
 cases r with
 | cons r1 r2 =>
  cases r2 with
  | cons r3 r4=>cases r4;exact⟨_,_,rfl,r1,r3⟩
theorem Xna(hc:X.calm=true):Xcq X (.builtin "max") (fun xs H Q=>∃ i j,xs=[.int i,.int j]/\Q (.int (if j>i then j else i)) H):=by
 intro pins s σ H xs us Q I r h;obtain⟨i,j,rfl,q⟩:=h;obtain⟨u,w',rfl,⟨t,rfl⟩,⟨t',rfl⟩⟩:=Xsk r;refine max_two_ints (I.ok.hd hc) fun h' tk k=>⟨_,H,I.kept k,?_,q⟩
 by_cases hj:j>i
 ·rw[if_pos hj,if_pos hj];exact⟨_,rfl⟩
 ·rw[if_neg hj,if_neg hj];exact⟨_,rfl⟩
theorem Xnb(hc:X.calm=true):Xcq X (.builtin "min") (fun xs H Q=>∃ i j,xs=[.int i,.int j]/\Q (.int (if j<i then j else i)) H):=by
 intro pins s σ H xs us Q I r h;obtain⟨i,j,rfl,q⟩:=h;obtain⟨u,w',rfl,⟨t,rfl⟩,⟨t',rfl⟩⟩:=Xsk r;refine min_two_ints (I.ok.hd hc) fun h' tk k=>⟨_,H,I.kept k,?_,q⟩
 by_cases hj:j<i
 ·rw[if_pos hj,if_pos hj];exact⟨_,rfl⟩
 ·rw[if_neg hj,if_neg hj];exact⟨_,rfl⟩
end
end L2
namespace L2
open PySem PySem.Spec PyProof.Rows
structure ObjM(h:Heap)(x dx C:Addr)(mA:Str->Option Value):Prop where
 obj:h.get? x=some (PySem.W.instObj C dx)
 ns:h.Ns1 dx mA
 ne:dx≠x
theorem Xnc{h:Heap}{dx:Addr}{mA:Str->Option Value}(n:h.Ns1 dx mA):∃ od,h.get? dx=some od/\∀ name,PySem.W.lookIn name od=some (mA name):=by
 obtain⟨o,es,ep,ho,hd,hk,_,hm⟩:=n;refine⟨o,ho,fun name=>?_⟩
 have e:=hm name;unfold nsFind findBy at e;rw[<- Array.find?_toList] at e;unfold PySem.W.lookIn;rw[hd];dsimp only;split
 ·rename_i y q
  rw[q] at e;exact congrArg some e
 ·rename_i q
  rw[q] at e;have a:es.toList.any (·.refKey)=false:=by
   rw[List.any_eq_false];intro y hy;obtain⟨z,t,hkey⟩:=hk y (Array.mem_toList_iff.mp hy);simp[DictEntry.refKey,hkey]
  have a':¬ es.toList.any (·.refKey)=true:=by rw[a];exact Bool.false_ne_true
  rw[if_neg a'];exact congrArg some e
theorem ObjM.look{h:Heap}{x dx C:Addr}{mA:Str->Option Value}(I:ObjM h x dx C mA):∃ od,PySem.W.InstAt h x (PySem.W.instObj C dx) C (some od)/\∀ name,PySem.W.lookIn name od=some (mA name) :=
 let ⟨od,ho,hl⟩:=Xnc I.ns
 ⟨od,⟨I.obj,rfl,rfl,ho⟩,hl⟩
section
variable{prog:Program}{w:World}{A:Around}{E:Value->Shared->Prop}{s:Shared}{K:PySem.W.Frag}{x dx C f:Addr}{mA:Str->Option Value}{name:Str}{v:Value}
end
section
variable{P:Program}{w:World}{H H':Hp}{h h':Heap}{a C dx:Addr}{fs fs':List (Str×V)}
end
structure Cls(K:PySem.W.Frag)(C:Addr):Prop where
 pg:PySem.W.plainGet K C Str.empty=true
 hd:PySem.W.hasDictIn K C=true
 po:PySem.W.plainOver K C=true
 sa:PySem.W.findIn K (.ref C) "__setattr__" = some (some (.builtin "object.__setattr__"))
theorem Cls.get{K:PySem.W.Frag}{C:Addr}(c:Cls K C)(f:Str):PySem.W.plainGet K C f=true:=c.pg
structure Con(K:PySem.W.Frag)(C:Addr)(f:Str)(v:V)(u:Value):Prop where
 at_:PySem.W.findIn K (.ref C) f=some (some u)
 rel:RelV v u
 get:PySem.W.specialIn K u "__get__" = some none
 cp:PySem.W.copiedNames.contains f=false
structure Meth(K:PySem.W.Frag)(C:Addr)(m:Str)(f:Addr):Prop where
 at_:PySem.W.findIn K (.ref C) m=some (some (.ref f))
 fn:PySem.W.isFn K (.ref f)=true
 kp:PySem.W.keepIn K (.ref f)=true
section
variable{X:Cx}{pins:List (Addr×Obj)}{σ:St}{H:Hp}{s:Shared}{a C dx:Addr}{fs:List (Str×V)}{f:Str}{v:V}{A:Around}{E:Value->Shared->Prop}
theorem Inv.made(I:Inv X pins σ H s):Inv X pins σ (upd (upd H s.heap.objs.size (.own (s.heap.objs.size+1))) (s.heap.objs.size+1) (.ins C s.heap.objs.size []))
  { s with heap:=(s.heap.push PySem.W.emptyDict).push (PySem.W.instObj C s.heap.objs.size) }:=by
 have e1:(s.heap.push PySem.W.emptyDict).get? s.heap.objs.size=some PySem.W.emptyDict:=Heap.get?_push_size s.heap rfl;have e2:((s.heap.push PySem.W.emptyDict).push (PySem.W.instObj C s.heap.objs.size)).get? (s.heap.objs.size+1)=some (PySem.W.instObj C s.heap.objs.size):=by
  have:=Heap.get?_push_size (s.heap.push PySem.W.emptyDict) (o:=PySem.W.instObj C s.heap.objs.size) rfl
  rwa [Heap.size_push] at this
 have e3:(s.heap.push PySem.W.emptyDict).Ns s.heap.objs.size (fun _=>none):=⟨PySem.W.emptyDict,#[],_,e1,rfl,(fun e he=>absurd he (by simp)),fun _=>rfl⟩
 have I1:=I.laid (a:=s.heap.objs.size) (o:=.own (s.heap.objs.size+1)) (h':=s.heap.push PySem.W.emptyDict) (t':=s.toks) (fun b u q=>Heap.get?_push_of_some _ q) (Nat.le_refl _) ⟨_,e1⟩
 refine I1.laid (a:=s.heap.objs.size+1) (o:=.ins C s.heap.objs.size []) (t':=s.toks) (fun b u q=>Heap.get?_push_of_some _ q) (Nat.le_of_eq (Heap.size_push _ _)) ?_
 have ne:s.heap.objs.size≠s.heap.objs.size+1:=Nat.ne_of_lt (Nat.lt_succ_self _);refine⟨by rw[Xf ne,Xz],Nat.zero_le _,ne,e2,fun _=>none,(Heap.Ns1.of_empty e3).at fun o q=>Heap.get?_push_of_some _ q,fun _=>True.intro,fun y hy=>absurd rfl hy⟩
end
section
variable{X:Cx}{o e value:Expr}{f:Str}{pos pos' tpos:Pos}{ta tv:TE}
end
section
variable{X:Cx}{pins:List (Addr×Obj)}{σ:St}{H:Hp}{s:Shared}{A:Around}{E:Value->Shared->Prop}{Q:Value->Shared->Prop}{c:Value}{b:Bool}
inductive TyOf(K:PySem.W.Frag)(H:Hp):V->Value->Prop where
 | non:TyOf K H .non (.type "NoneType")
 | bl (x:Bool):TyOf K H (.bl x) (.type "bool")
 | int (i:Int):TyOf K H (.int i) (.type "int")
 | str (x:Str):TyOf K H (.str x) (.type "str")
 | flt (x:UInt64):TyOf K H (.flt x) (.type "float")
 | lst {a:Addr} {xs:List V} (e:H a=some (.lst xs)):TyOf K H (.ref a) (.type "list")
 | frz {a:Addr} {o:Obj} {xs:List V} (e:H a=some (.frz o (.lst xs))):TyOf K H (.ref a) (.type "list")
 | tup {a:Addr} {xs:List V} (e:H a=some (.tup xs)):TyOf K H (.ref a) (.type "tuple")
 | dK {a:Addr} {kvs:List (Key×V)} (e:H a=some (.dK kvs)):TyOf K H (.ref a) (.type "dict")
 | dT {a:Addr} {kvs:List (List Key×V)} (e:H a=some (.dT kvs)):TyOf K H (.ref a) (.type "dict")
 | ins {a C dx:Addr} {fs:List (Str×V)} (e:H a=some (.ins C dx fs)) (cl:Cls K C) (ha:PySem.W.findIn K (.ref C) "__class__" = some (some (.builtin "object.__class__")))
   (hn:PySem.W.specialIn K (.builtin "object.__class__") "__get__" = some (some (.builtin "getset_descriptor.__get__"))) (htk:PySem.W.takesIn K (.builtin "object.__class__")=some true)
   (hm:PySem.W.mroIn K C (.type "object")=some true):TyOf K H (.ref a) (.ref C)
end
end L2
namespace L2
open PySem PySem.Spec PyProof.Rows
structure Room(k:Nat)(A:Around):Prop where
 gd:A.guards=some []
 hd:A.handled=none
 dp:A.depth+3*k+5<recursionLimit
 un:A.units+16*k+200<cLine
theorem Room.mono{j k:Nat}{A:Around}(r:Room k A)(h:j<=k):Room j A:=⟨(by first|exact r.gd|(have:=r.gd;simpa [Around.under,Code.guards,pushGuards,Code.isGuard,guardIds] using this)),r.hd,by have:=r.dp;omega,by have:=r.un;omega⟩
theorem Room.deeper{k:Nat}{A:Around}(r:Room (k+1) A)(env:Env):Room k (A.deeper env) :=
 ⟨(by first|exact r.gd|(have:=r.gd;simpa [Around.under,Code.guards,pushGuards,Code.isGuard,guardIds] using this)),r.hd,by have:=r.dp;show A.depth+1+3*k+5<_;omega,by have:=r.un;show A.units+3+16*k+200<_;omega⟩
theorem Room.in1{k:Nat}{A:Around}(r:Room (k+1) A):Room k A.in1 :=
 ⟨(by first|exact r.gd|(have:=r.gd;simpa [Around.under,Code.guards,pushGuards,Code.isGuard,guardIds] using this)),r.hd,by have:=r.dp;show A.depth+3*k+5<_;omega,by have:=r.un;show A.units+1+16*k+200<_;omega⟩
theorem Room.depth{k:Nat}{A:Around}(r:Room k A):A.depth<recursionLimit:=by have:=r.dp;omega
theorem Room.units{k:Nat}{A:Around}(r:Room k A):A.units+64<cLine:=by have:=r.un;omega
section
variable{X:Cx}{e:Expr}{es:List Expr}{te:TE}{t:TA}{pos:Pos}
end
abbrev Sp:=List V->Hp->VK->XK->Prop
abbrev CXT:=List Env->Hp->Shared->XK->Value->Shared->Prop
structure Env0(P:Program)(w:World)(K:PySem.W.Frag)(mg:Str->Option Value)(base:Heap)(A:Around)(outer:List Env)(s:Shared)(H:Hp):Prop where
 frames:A.frames=some outer
 mod:Mod K mg base
 bs:∀ b o,base.get? b=some o->s.heap.get? b=some o/\H b=none
 bsz:base.objs.size<=s.heap.objs.size
 funs:s.heap.FunFrames base outer
 frf:∀ b∈frs outer,H b=none
 hok:HOk P w H s.heap
 bare:AllBare s.gens
def CE(outer:List Env)(P:Program)(w:World)(H:Hp)(s:Shared)(Q:VK)(u:Value)(s':Shared):Prop :=
 ∃ v H',s'.os=s.os/\AllBare s'.gens/\Un (frs outer) [] H H' s.heap s'.heap/\HOk P w H' s'.heap/\RelV v u/\Q v H'
def CR(CX:CXT)(outer:List Env)(P:Program)(w:World)(H:Hp)(s:Shared)(Q:VK)(E:XK)(r:Result)(s':Shared):Prop :=
 match r with
 | .ok (.ret u)=>CE outer P w H s Q u s'
 | .ok _=>False
 | .error e=>CX outer H s E e s'
structure FnOk(P:Program)(w:World)(K:PySem.W.Frag)(mg:Str->Option Value)(base:Heap)(CX:CXT)(k:Nat)(f:Addr)(fd:FuncData)(ps:List Str)(sp:Sp):Prop where
 len:∀ vs H Q E,sp vs H Q E->vs.length=ps.length
 run:∀ (A:Around) (outer:List Env) (s:Shared) (H:Hp) (args:Args) (us:List Value) (vs:List V) (Q:VK) (E:XK),Room k A->Env0 P w K mg base A outer s H->BindsTo s fd args (ps.zip us)->Vals vs us->sp vs H Q E ->
  codeAny (model P w) A (.call (.ref f) args) (CR CX outer P w H s Q E) s
theorem FnOk.mono{P:Program}{w:World}{K:PySem.W.Frag}{mg:Str->Option Value}{base:Heap}{CX:CXT}{j k:Nat}{f:Addr}{fd:FuncData}{ps:List Str}{sp:Sp}(F:FnOk P w K mg base CX j f fd ps sp)(h:j<=k) :
  FnOk P w K mg base CX k f fd ps sp:=⟨F.len,fun A outer s H args us vs Q E hr=>F.run A outer s H args us vs Q E (hr.mono h)⟩
theorem FnOk.imp{P:Program}{w:World}{K:PySem.W.Frag}{mg:Str->Option Value}{base:Heap}{CX:CXT}{k:Nat}{f:Addr}{fd:FuncData}{ps:List Str}{sp sp':Sp}(F:FnOk P w K mg base CX k f fd ps sp)
  (h:∀ vs H Q E,sp' vs H Q E->sp vs H Q E):FnOk P w K mg base CX k f fd ps sp' :=
 ⟨fun vs H Q E q=>F.len vs H Q E (h _ _ _ _ q),fun A outer s H args us vs Q E hr he hb hv hs=>F.run A outer s H args us vs Q E hr he hb hv (h _ _ _ _ hs)⟩
theorem Env0.in1{P:Program}{w:World}{K:PySem.W.Frag}{mg:Str->Option Value}{base:Heap}{A:Around}{outer:List Env}{s:Shared}{H:Hp}(e:Env0 P w K mg base A outer s H) :
  Env0 P w K mg base A.in1 outer s H:=⟨e.frames,e.mod,e.bs,e.bsz,e.funs,e.frf,e.hok,e.bare⟩
section
variable{X:Cx}{pins:List (Addr×Obj)}{σ:St}{H:Hp}{s s':Shared}
theorem Inv.env0(I:Inv X pins σ H s):Env0 X.prog X.w X.K X.mg X.base X.A X.stack s H :=
 ⟨I.ok.frames,I.ok.mod,I.bs,Nat.le_trans I.ok.bsz I.sz,I.stack,I.stkFree,I.hok,I.bare⟩
theorem Inv.after{Q:VK}{u:Value}(I:Inv X pins σ H s)(h:CE X.stack X.prog X.w H s Q u s'):EP X pins σ Q u s':=by
 obtain⟨v,H',os,bare,un,hok,r,q⟩:=h;obtain⟨hh,g,d,t,os'⟩:=s';obtain rfl:os'=s.os:=os;exact⟨v,H',I.call (h':=hh) (g':=g) (d':=d) (t':=t) (ch:=[]) un hok bare (fun b z=>absurd z (by simp)),r,q⟩
end
def Binds(K:PySem.W.Frag)(fd:FuncData)(ps:List Str)(ds:List Value):Prop :=
 ∀ (s:Shared) (us:List Value),K.In s.heap->(us++ds).length=ps.length->BindsTo s fd ⟨us,[]⟩ (ps.zip (us++ds))
theorem Binds.all{K:PySem.W.Frag}{fd:FuncData}{ps:List Str}(h:∀ us:List Value,us.length=ps.length->bindArgs fd ⟨us,[]⟩=pure (ps.zip us)):Binds K fd ps []:=fun s us _ hl=>by
 rw[List.append_nil] at hl ⊢;exact .of_eq (h us hl)
section
variable{X:Cx}{CX:CXT}{k:Nat}{f C:Addr}{fd:FuncData}{ps:List Str}{sp:Sp}{dvs:List V}{ds:List Value}{E:XK}{x m:Str}{p pos apos:Pos}{e o:Expr}{es:List Expr}{ta:TE}{t:TA}
end
section
variable{X:Cx}{CX:CXT}{k:Nat}{f C:Addr}{fd:FuncData}{ps ks:List Str}{sp:Sp}{E:XK}{x m:Str}{p pos apos kpos:Pos}{e o:Expr}{es:List Expr}{kws:List Keyword}{te ta:TE}{t tk:TA}{nm:Option Str}
structure KBinds(K:PySem.W.Frag)(fd:FuncData)(ps ks:List Str)(g:List Value->List Value->List Value)(gV:List V->List V->List V):Prop where
 to:∀ (s:Shared) (us ws:List Value),K.In s.heap->(g us ws).length=ps.length->BindsTo s fd ⟨us,ks.zip ws⟩ (ps.zip (g us ws))
 rel:∀ {vs:List V} {us:List Value} {zs:List V} {ws:List Value},Vals vs us->Vals zs ws->Vals (gV vs zs) (g us ws)
variable{g:List Value->List Value->List Value}{gV:List V->List V->List V}
end
structure FnScope(N P:List Str)(sc:Scope):Prop where
 kind:sc.kind=.function
 co:sc.isCoroutine=false
 gen:sc.isGenerator=false
 nd:N.Nodup
 pre:N.take P.length=P
 par:∀ x∈P,sc.names.lookup x=some .local\/sc.names.lookup x=some .cell
 nofree:∀ y∈sc.names,y.2≠.free
theorem Xgw{kindOf:Str->Option NameKind}{x:Str}:∀ {binds:List (Str×Value)} {m:Str->Option Value},(∀ v,(x,v) ∉ binds)->bindL kindOf binds m x=m x
 | [],_,_=>rfl
 | (n,v)::r,m,h=>by
  unfold bindL;rw[Xgw fun w hw=>h w (List.mem_cons_of_mem _ hw)]
  split
  ·have:x≠n:=by rintro rfl;exact h v List.mem_cons_self
   simp[this]
  ·rfl
theorem Xgx{kindOf:Str->Option NameKind}{x:Str}:∀ {binds:List (Str×Value)} {m:Str->Option Value},(∀ v,(x,v) ∉ binds)->bindC kindOf binds m x=m x
 | [],_,_=>rfl
 | (n,v)::r,m,h=>by
  unfold bindC;rw[Xgx fun w hw=>h w (List.mem_cons_of_mem _ hw)]
  split
  ·rfl
  ·have:x≠n:=by rintro rfl;exact h v List.mem_cons_self
   simp[this]
theorem Xgy{kindOf:Str->Option NameKind}{x:Str}{v:Value}:∀ {P:List Str} {vs:List Value} {i:Nat} {m:Str->Option Value},P.Nodup->P[i]?=some x->vs[i]?=some v->kindOf x=some .local ->
  bindL kindOf (P.zip vs) m x=some v
 | [],_,_,_,_,h,_,_=>by simp at h
 | _::_,[],_,_,_,_,h,_=>by simp at h
 | p::P,w::vs,0,m,nd,h1,h2,hk=>by
  simp at h1 h2;subst h1;subst h2;show bindL kindOf ((p,w)::P.zip vs) m p=_;unfold bindL;rw[Xgw fun v hv=>(List.nodup_cons.mp nd).1 (List.of_mem_zip hv).1,if_pos hk]
  simp
 | p::P,w::vs,i+1,m,nd,h1,h2,hk=>by
  show bindL kindOf ((p,w)::P.zip vs) m x=_;unfold bindL;exact Xgy (i:=i) (List.nodup_cons.mp nd).2 (by simpa using h1) (by simpa using h2) hk
theorem Xgz{kindOf:Str->Option NameKind}{x:Str}{v:Value}:∀ {P:List Str} {vs:List Value} {i:Nat} {m:Str->Option Value},P.Nodup->P[i]?=some x->vs[i]?=some v->kindOf x≠some .local ->
  bindC kindOf (P.zip vs) m x=some v
 | [],_,_,_,_,h,_,_=>by simp at h
 | _::_,[],_,_,_,_,h,_=>by simp at h
 | p::P,w::vs,0,m,nd,h1,h2,hk=>by
  simp at h1 h2;subst h1;subst h2;show bindC kindOf ((p,w)::P.zip vs) m p=_;unfold bindC;rw[Xgx fun v hv=>(List.nodup_cons.mp nd).1 (List.of_mem_zip hv).1,if_neg hk]
  simp
 | p::P,w::vs,i+1,m,nd,h1,h2,hk=>by
  show bindC kindOf ((p,w)::P.zip vs) m x=_;unfold bindC;exact Xgz (i:=i) (List.nodup_cons.mp nd).2 (by simpa using h1) (by simpa using h2) hk
noncomputable def start(N:List Str)(vs:List V):St:=vs.map some++List.replicate (N.length-vs.length) none
noncomputable def Xlb(CX:CXT)(P:Program)(w:World)(K:PySem.W.Frag)(mg:Str->Option Value)(base:Heap)(N:List Str)(qual:Str)(scope:Scope)(f:Addr)(cd:Value)(A:Around)(outer:List Env)(s:Shared)(H:Hp)(E:XK):Cx where
 prog:=P
 w:=w
 K:=K
 mg:=mg
 base:=base
 A:=A.deeper (envOfC qual scope s.heap.objs.size f cd)
 N:=N
 s₀:=s
 H₀:=H
 env:=envOfC qual scope s.heap.objs.size f cd
 outer:=outer
 stack:=envOfC qual scope s.heap.objs.size f cd::outer
 ex:=[]
 calm:=true
 fn:=fun _=>true
 pn:=[]
 xe:=fun e s'=>wpAny (model P w) (A.deeper (envOfC qual scope s.heap.objs.size f cd)) (leaving (envOfC qual scope s.heap.objs.size f cd) e) (fun _ s''=>CX outer H s E e s'') (fun e' s''=>CX outer H s E e' s'') s'
theorem Xh4{sc:Scope}{n:Nat}{x:Str}(h:sc.names.lookup x=some .cell):∃ c,(cellsFrom n sc.names []).lookup x=some c:=by
 have q:=PySem.W.cellsFrom_some sc.names n [] (.inl h);exact Option.isSome_iff_exists.mp q
theorem Xnd{CX:CXT}{P:Program}{w:World}{K:PySem.W.Frag}{mg:Str->Option Value}{base:Heap}{N ps:List Str}{qual:Str}{scope:Scope}{f:Addr}{cd:Value}{A:Around}{outer:List Env}{s s1:Shared}{H:Hp}{E:XK}{us:List Value}{vs:List V}
  (S:FnScope N ps scope) (hd:A.handled=none) (e0:Env0 P w K mg base A outer s H) (hl:vs.length=ps.length) (r:Vals vs us)
  (x:InCallC s s.heap.objs.size (bindL (envOfC qual scope s.heap.objs.size f cd).kindOf (ps.zip us) fun _=>none) (cellsFrom (s.heap.objs.size+1) scope.names []) (bindC (envOfC qual scope s.heap.objs.size f cd).kindOf (ps.zip us) fun _=>none) s1) :
  Inv (Xlb CX P w K mg base N qual scope f cd A outer s H E) [] (start N vs) H s1:=by
 have hpl:ps.length<=N.length:=by have:=congrArg List.length S.pre;rw[List.length_take] at this;omega
 obtain⟨h1,tk,rfl,hk⟩:=x.done;have noA:∀ b:Addr,b ∉ (Xlb CX P w K mg base N qual scope f cd A outer s H E).ex:=fun b z=>absurd (show b∈([]:List Addr) from z) (by simp)
 refine⟨⟨e0.mod,S.kind,rfl,rfl,Nat.le_refl _,fun y z c h1 h2=>?_,fun y hy=>?_,fun y c _ h=>?_,fun _=>hd,Around.frames_deeper e0.frames,.inr ⟨rfl,rfl⟩,fun b z=>absurd z (noA b),e0.bs,e0.bsz,fun b _ _=>noA b,fun b z=>absurd z (noA b),e0.funs,e0.frf⟩,
  rfl,e0.bare,Un.kept hk,⟨_,x.toInCall.ns,fun i y v h1 h2 h3=>?_⟩,fun y c h=>⟨_,x.cell y c h⟩,e0.hok.fresh (Nat.le_refl _),fun y c h=>?_,fun p hp=>absurd (show p∈([]:List (Addr×Obj)) from hp) (by simp),e0.hok.kept hk,?_⟩
 ·exact name_of_addr x.apart (PySem.mem_of_lookup h1) (PySem.mem_of_lookup h2)
 ·have hy:scope.names.lookup y=some .cell\/scope.names.lookup y=some .free:=hy
  rcases hy with hy|hy
  ·exact Xh4 hy
  ·exact absurd rfl (S.nofree _ (PySem.mem_of_lookup hy))
 ·exact Nat.le_of_lt (x.above y c (PySem.mem_of_lookup h))
 ·have hi:i<vs.length:=by
   unfold start at h2
   by_cases hi:i<vs.length
   ·exact hi
   ·rw[List.getElem?_append_right (by simpa using hi)] at h2
    rw[List.getElem?_replicate] at h2;split at h2<;>cases h2
  have ha:vs[i]?=some v:=by
   unfold start at h2;rw[List.getElem?_append_left (by simpa using hi),List.getElem?_map] at h2
   cases e:vs[i]? with
   | none=>rw[e] at h2;cases h2
   | some a=>rw[e] at h2;cases h2;rfl
  obtain⟨u,hu,rv⟩:=r.get ha;have hp:ps[i]?=some y:=by
   rw[<- S.pre,List.getElem?_take_of_lt (by omega)];exact h1
  have ndP:ps.Nodup:=by rw[<- S.pre];exact S.nd.sublist (List.take_sublist _ _)
  refine⟨u,rv,?_⟩;rcases S.par y (List.mem_of_getElem? hp) with k|k
  ·exact .inl ⟨k,Xgy ndP hp hu k⟩
  ·obtain⟨c,e⟩:=Xh4 (n:=s.heap.objs.size+1) k
   refine .inr ⟨.inl k,c,e,?_⟩;have q:=x.cell y c e;rw[Xgz ndP hp hu (by show scope.names.lookup y≠_;rw[k];decide)] at q
   exact q
 ·exact e0.hok.fresh (Nat.le_of_lt (x.above y c (PySem.mem_of_lookup h)))
 ·unfold start
  show _=N.length;rw[List.length_append,List.length_map,List.length_replicate];omega
end L2
namespace L2
open PySem PySem.Spec PyProof.Rows
section
variable{X:Cx}{x:Str}{p pos:Pos}{e:Expr}{es:List Expr}{t:TA}{id T:String}{r:List V->Hp->VK->Prop}
end
end L2
namespace HT
open PySem PyProof.Rows
section
open PySem.SeqAt
open PySem.AutoSeq1 (wpAny_loadPart')
open PySem.MeetsSeq PySem.MeetsSeq2 PySem.MeetsSeq3
end
section
variable{prog:Program}{w:World}{A:Around}{E:Value->Shared->Prop}{s:Shared}
theorem cat_tup{t b:Addr}{vs ws:List Value}{Q:Value->Shared->Prop}(ht:IsTup s.heap t vs.toArray)(hb:IsTup s.heap b ws.toArray)(hv:vs≠[])
  (h1:ws=[]->Q (.ref t) s) (h2:ws≠[]->Q (.ref s.heap.objs.size) { s with heap:=s.heap.push { cls:=.type "tuple",data:=.seq (vs++ws).toArray } })
  (hsz:vs.length+ws.length<=sizeLine):wpAny (model prog w) A (binaryOp .Add (.ref t) (.ref b)) Q E s:=by
 obtain⟨⟨cls,dd,data,sl⟩,ho,hc,n,hd⟩:=id ht;obtain⟨⟨cls2,dd2,data2,sl2⟩,ho2,hc2,n2,hd2⟩:=id hb;simp only at hc hd hc2 hd2;subst hc hd hc2 hd2;have e:vs.toArray++ws.toArray=(vs++ws).toArray:=by simp
 by_cases hw:ws=[]
 ·exact concat_meets ⟨_,ho,rfl⟩ ⟨_,ho2,rfl⟩ noFill_tuple_add seq_tuple_add PySem.F.slot_tuple_add PySem.F.entry_tuple_add (PySem.F.args_tuple_add_2 _ _)
   (tuple_addW1 t b vs.toArray ws.toArray n n2 dd dd2 sl sl2 (by simpa using hv) (by simp[hw])) ⟨ho,ho2,h1 hw⟩
 ·refine concat_meets ⟨_,ho,rfl⟩ ⟨_,ho2,rfl⟩ noFill_tuple_add seq_tuple_add PySem.F.slot_tuple_add PySem.F.entry_tuple_add (PySem.F.args_tuple_add_2 _ _)
   (tuple_addW2 t b vs.toArray ws.toArray n n2 dd dd2 sl sl2 (by simpa using hv) (by simpa using hw) (by rw[List.size_toArray,List.size_toArray];exact hsz)) ⟨ho,ho2,?_⟩
  rw[e];exact h2 hw
noncomputable def sIx(n d:Nat):Option Int->Nat
 | none=>d
 | some v=>if v<0 then (v+(n:Int)).toNat else min v.toNat n
theorem Xwt(n d:Nat)(hd:d<=n)(o:Option Int):sIx n d o<=n:=by
 cases o with
 | none=>exact hd
 | some v =>
  show(if v<0 then (v+(n:Int)).toNat else min v.toNat n)<=n
  by_cases hv:v<0
  ·rw[if_pos hv];omega
  ·rw[if_neg hv];exact Nat.min_le_right _ _
theorem Xj6(v:Int)(n d:Nat):(if v<0 then max (v+(n:Int)) 0 else min v (n:Int))=((sIx n d (some v):Nat):Int):=by
 show(if v<0 then max (v+(n:Int)) 0 else min v (n:Int))=(((if v<0 then (v+(n:Int)).toNat else min v.toNat n):Nat):Int)
 by_cases hv:v<0
 ·simp only[if_pos hv];omega
 ·simp only[if_neg hv];omega
theorem Xlc(lo hi:Option Int)(n:Nat):Builtin.Slice.sliceAdjust lo hi 1 (n:Int)=(((sIx n 0 lo:Nat):Int),((sIx n n hi:Nat):Int)):=by
 have h1:¬ ((1:Int)<0):=by omega
 unfold Builtin.Slice.sliceAdjust;simp only[h1,if_false];refine Prod.ext ?_ ?_
 ·cases lo with
  | none=>rfl
  | some v=>exact Xj6 v n 0
 ·cases hi with
  | none=>rfl
  | some v=>exact Xj6 v n n
theorem Xld(i j:Nat):Builtin.Slice.slicePlaces (i:Int) (j:Int) 1=j-i:=by
 unfold Builtin.Slice.slicePlaces;have h1:(1:Int)>0:=by omega
 simp only[h1,if_true,Int.ediv_one];split<;>omega
theorem slicePart_{v:Value}{o:Option Int}{Q:Option Int->Shared->Prop}(p:IsPart v o)(h:Q o s):wpAny (model prog w) A (Builtin.Slice.slicePartIndex v) Q E s:=by
 cases p with
 | none=>exact slicePart_none h
 | int i t=>exact slicePart_int h
theorem sliceApplied_gen{sl:Addr}{vl vu:Value}{lo hi:Option Int}{n:Nat}{Q:Int×Int×Nat->Shared->Prop}(hs:s.heap.IsSliceOf sl vl vu .none)(pl:IsPart vl lo)(pu:IsPart vu hi)
  (h:Q (((sIx n 0 lo:Nat):Int),1,sIx n n hi-sIx n 0 lo) s):wpAny (model prog w) A (Builtin.Slice.sliceApplied (.ref sl) (pure (n:Int))) Q E s:=by
 obtain⟨os,hos,hcs,hds⟩:=id hs;unfold Builtin.Slice.sliceApplied Builtin.Slice.sliceFields;refine wpAny_bind (wpAny_bind (wpAny_field hos hds (x:=vl) rfl (wpAny_bind (wpAny_field hos hds (x:=vu) rfl (wpAny_bind (wpAny_field hos hds (x:=.none) rfl (wpAny_pure ?_)))))));refine wpAny_bind (slicePart_none ?_);show wpAny _ _ (if ((1:Int)==0)=true then _ else _) _ _ s
 rw[if_neg (by decide)]
 refine wpAny_bind (slicePart_ pl (wpAny_bind (slicePart_ pu (wpAny_bind (wpAny_pure ?_)))));show wpAny _ _ (match Builtin.Slice.sliceAdjust lo hi 1 (n:Int) with|(lo,hi)=>pure (lo,(1:Int),Builtin.Slice.slicePlaces lo hi 1)) _ _ s
 rw[Xlc lo hi n];show wpAny _ _ (pure (((sIx n 0 lo:Nat):Int),(1:Int),Builtin.Slice.slicePlaces ((sIx n 0 lo:Nat):Int) ((sIx n n hi:Nat):Int) 1)) _ _ s;rw[Xld];exact wpAny_pure h
theorem Xpm(xs:Array Value)(i k:Nat):((List.range k).filterMap fun(m:Nat)=>xs[((i:Int)+(m:Int)*1).toNat]?).toArray=((xs.toList.drop i).take k).toArray:=by
 have e:(fun(m:Nat)=>xs[((i:Int)+(m:Int)*1).toNat]?)=fun m=>xs[i+m]?:=by
  funext m
  have:((i:Int)+(m:Int)*1).toNat=i+m:=by omega
  rw[this]
 rw[e];have:=pick_run xs i k;rw[List.filterMap_map] at this;have e2:((fun x=>xs[x]?)∘fun x=>i+x)=fun m=>xs[i+m]?:=rfl
 rw[e2] at this;rw[this]
theorem getItem_tuple_cut{t sl:Addr}{items:Array Value}{vl vu:Value}{lo hi:Option Int}{Q:Value->Shared->Prop}(ht:IsTup s.heap t items)(hs:s.heap.IsSliceOf sl vl vu .none)(pl:IsPart vl lo)(pu:IsPart vu hi)
  (hw:¬ (sIx items.size 0 lo=0/\sIx items.size items.size hi=items.size))
  (h:Q (.ref s.heap.objs.size) { s with heap:=s.heap.push { cls:=.type "tuple",data:=.seq ((items.toList.drop (sIx items.size 0 lo)).take (sIx items.size items.size hi-sIx items.size 0 lo)).toArray } })
  (hsz:items.size<=sizeLine):wpAny (model prog w) A (getItem (.ref t) (.ref sl)) Q E s:=by
 have htake:sizeOk (.seq ((items.toList.drop (sIx items.size 0 lo)).take (sIx items.size items.size hi-sIx items.size 0 lo)).toArray):=by
  show((items.toList.drop (sIx items.size 0 lo)).take (sIx items.size items.size hi-sIx items.size 0 lo)).toArray.size<=sizeLine;rw[List.size_toArray,List.length_take,List.length_drop,Array.length_toList];omega
 have hj:sIx items.size items.size hi<=items.size:=Xwt _ _ (Nat.le_refl _) hi;obtain⟨os,hos,hcs,hds⟩:=id hs;have hTs:s.TypeIs (.ref sl) "slice" := ⟨os,hos,hcs⟩;unfold getItem
 try with_reducible refine wpAny_holding ?_
 first|refine wpAny_bind (wpAny_pure ?_)|skip
 refine wpAny_bind (wpAny_sequenceKey ht.typeIs (by decide) ?_)
 refine wpAny_bind (wpAny_callSpecial?_slot (name:=Str.ofString "__getitem__") ht.typeIs PyProof.Rows.slot_tuple_getitem
  (wpAny_call_entry PyProof.Rows.slot_tuple_getitem ht.typeIs entry_tuple_getitem ?_ (args_tuple_getitem _ _)))
 show wpAny _ _ (Builtin.Tuple.tupleItemsOf (.ref t) >>= _) _ _ s;refine wpAny_bind (tupleItemsOf_ ht ?_);refine wpAny_bind (wpAny_typeOf hTs ?_);rw[if_pos (by decide)]
 refine wpAny_bind (sliceApplied_gen hs pl pu ?_);have hno:¬ ((((sIx items.size 0 lo:Nat):Int)==0&&(1:Int)==1&&(sIx items.size items.size hi-sIx items.size 0 lo)==items.size)=true):=by
  intro q;rw[bA0,bA0] at q;have q1:((sIx items.size 0 lo:Nat):Int)=0:=eq_of_beq q.1.1;have q2:sIx items.size items.size hi-sIx items.size 0 lo=items.size:=eq_of_beq q.2;exact hw ⟨by omega,by omega⟩
 show wpAny _ _ (if (((sIx items.size 0 lo:Nat):Int)==0&&(1:Int)==1&&(sIx items.size items.size hi-sIx items.size 0 lo)==items.size)=true then _ else _) _ _ s
 rw[if_neg hno,Xpm]
 first
  | exact wpAny_bind (m:=Builtin.Tuple.tupleExact _) (wpAny_newObj_type (wpAny_pure ⟨_,rfl,wpAny_pure h⟩) htake)
  | exact wpAny_bind (m:=Builtin.Tuple.tupleExact _) (wpAny_newObj_type (wpAny_bind (wpAny_pure (wpAny_pure ⟨_,rfl,wpAny_pure h⟩))) htake)
  | exact wpAny_bind (wpAny_bind (m:=Builtin.Tuple.tupleExact _) (wpAny_newObj_type (wpAny_pure (wpAny_pure ⟨_,rfl,wpAny_pure h⟩)) htake))
  | exact wpAny_bind (wpAny_bind (m:=Builtin.Tuple.tupleExact _) (wpAny_newObj_type (wpAny_pure ⟨_,rfl,wpAny_pure h⟩) htake))
end
end HT
namespace L2
open PySem PySem.Spec PyProof.Rows
section
variable{X:Cx}{e:Expr}{te:TE}{lo hi:Option Expr}{tl th:TO}{pos p2:Pos}
noncomputable def Xfr(xs:List V)(lo hi:Option Int):List V:=(xs.drop (HT.sIx xs.length 0 lo)).take (HT.sIx xs.length xs.length hi-HT.sIx xs.length 0 lo)
theorem Xd7(xs:List V)(lo hi:Option Int):(Xfr xs lo hi).length<=xs.length:=by
 unfold Xfr;rw[List.length_take,List.length_drop];omega
end
end L2
namespace L2
open PySem PySem.Spec PyProof.Rows
noncomputable def ixN(n:Nat)(i:Int):Option Nat:=if 0<=i then (if i<n then some i.toNat else none) else if-(n:Int)<=i then some (i+n).toNat else none
noncomputable def atI{α:Type}(xs:List α)(i:Int):Option α:=(ixN xs.length i).bind fun j=>xs[j]?
theorem Xj7{n:Nat}{i:Int}{j:Nat}(h:ixN n i=some j):seqIndex? i n=some j/\j<n/\-(n:Int)<=i/\i<n:=by
 unfold ixN at h
 by_cases h0:0<=i
 ·rw[if_pos h0] at h
  by_cases h1:i<n
  ·rw[if_pos h1] at h
   have e:i.toNat=j:=Option.some.inj h;exact⟨by rw[seqIndex_of h0 h1,e],by omega,by omega,h1⟩
  ·rw[if_neg h1] at h;cases h
 ·rw[if_neg h0] at h
  by_cases h1:-(n:Int)<=i
  ·rw[if_pos h1] at h
   have e:(i+n).toNat=j:=Option.some.inj h;exact⟨by rw[seqIndex_neg (by omega) h1,e],by omega,h1,by omega⟩
  ·rw[if_neg h1] at h;cases h
theorem Xfs{α:Type}{xs:List α}{i:Int}{v:α}(h:atI xs i=some v):∃ j,seqIndex? i xs.length=some j/\xs[j]?=some v/\j<xs.length/\-(xs.length:Int)<=i/\i<xs.length:=by
 unfold atI at h;cases e:ixN xs.length i with
 | none=>rw[e] at h;cases h
 | some j =>
  rw[e] at h;obtain⟨h1,h2,h3,h4⟩:=Xj7 e;exact⟨j,h1,h,h2,h3,h4⟩
def Xft(b:Expr):Prop:=∀ o i,subscripted b false o i=operate [o,i] (getItem o i)
def IxR(X:Cx)(r:R2):Prop :=
 ∀ (value slice:Expr) (pins:List (Addr×Obj)) (s:Shared) (σ:St) (H:Hp) (x y:V) (v u:Value) (Q:VK),Inv X pins σ H s->RelV x v->RelV y u->r x y H Q ->
  subscripted slice false v u=operate [v,u] (getItem v u)->wpAny (model X.prog X.w) X.A (subscriptTail value slice v u) (EP X pins σ Q) X.xe s
section
variable{X:Cx}{a b:Expr}{ta tb:TE}{pos:Pos}
noncomputable def X1w(K:PySem.W.Frag):R2:=fun x y H Q=>∃ p xs i v,x=.ref p/\y=.int i/\SqL K H p xs/\atI xs i=some v/\Q v H
noncomputable def X1x(K:PySem.W.Frag):R2:=fun x y H Q=>∃ p xs i v,x=.ref p/\y=.int i/\SqT K H p xs/\atI xs i=some v/\Q v H
noncomputable def X1y:R2:=fun x y H Q=>∃ z i c,x=.str z/\y=.int i/\z.length<=sizeLine/\atI z.cps.toList i=some c/\Q (.str ⟨#[c]⟩) H
theorem Xte:IxR X (X1w X.K):=by
 intro value slice pins s σ H x y v u Q I rx ry h hs;obtain⟨p,xs,i,z,rfl,rfl,hq,he,q⟩:=h;cases rx;obtain⟨t,rfl⟩:=ry;obtain⟨its,r,pl,hz⟩:=I.list hq;obtain⟨j,h1,h2,h3,h4,h5⟩:=Xfs he;obtain⟨w,ew,rw'⟩:=r.get h2;have hl:=r.length;have hn:=Xbt;have fin:EP X pins σ Q w s:=⟨z,H,I,rw',q⟩
 by_cases h0:0<=i
 ·have hj:i.toNat=j:=by
   rw[seqIndex_of h0 h5] at h1;exact Option.some.inj h1
  exact item_listR pl.isList h0 (by omega) (by rw[hj];simpa using ew) fin hs
 ·have hj:(i+(its.toArray.size:Int)).toNat=j:=by
   rw[seqIndex_neg (by omega) h4] at h1
   rw[List.size_toArray,<- hl];exact Option.some.inj h1
  exact subscriptTail_builtinR (x:=w) pl.isList.typeIs slot_list_getitem.lookup
   (wpAny_getItem_list_neg (Q:=fun r s'=>r=w/\EP X pins σ Q r s') pl.isList (by omega) (by rw[List.size_toArray]<;>omega) (by omega) (by rw[hj];simpa using ew) ⟨rfl,fin⟩) hs
theorem Xwu:IxR X (X1x X.K):=by
 intro value slice pins s σ H x y v u Q I rx ry h hs;obtain⟨p,xs,i,z,rfl,rfl,hq,he,q⟩:=h;cases rx;obtain⟨t,rfl⟩:=ry;obtain⟨its,r,pl,hz⟩:=I.tuple hq;obtain⟨j,h1,h2,h3,h4,h5⟩:=Xfs he;obtain⟨w,ew,rw'⟩:=r.get h2;have hl:=r.length;have hn:=Xbt;have fin:EP X pins σ Q w s:=⟨z,H,I,rw',q⟩;exact subscriptTail_builtinR (x:=w) pl.typeIs slot_tuple_getitem.lookup
  (getItem_tuple (j:=j) (Q:=fun r s'=>r=w/\EP X pins σ Q r s') pl (by omega) (by omega) (by rw[List.size_toArray,<- hl];exact h1) (by simpa using ew) ⟨rfl,fin⟩) hs
theorem Xwv:IxR X X1y:=by
 intro value slice pins s σ H x y v u Q I rx ry h hs;obtain⟨z,i,c,rfl,rfl,hz,he,q⟩:=h;obtain⟨t,rfl⟩:=rx;obtain⟨t',rfl⟩:=ry;obtain⟨j,h1,h2,h3,h4,h5⟩:=Xfs he;have hl:z.cps.toList.length=z.length:=by simp[Str.length]
 rw[hl] at h1 h4 h5;have hn:=Xbt;exact tail_any (typeIs_str s z t) slot_str_getitem.lookup (getItem_str (c:=c) (by
  have e1:decide (i < -(2^63:Int))=false:=decide_eq_false (by omega)
  have e2:decide (i ≥ 2^63)=false:=decide_eq_false (by omega)
  rw[e1,e2,Bool.or_false]) (by rw[h1];simpa using h2) ⟨.str ⟨#[c]⟩,H,I.tok _,⟨_,rfl⟩,q⟩) hs
theorem Xle(its:List Value)(n j:Nat)(u:Value):Obj.mapSeq (·.setIfInBounds j u) { cls:=.type "list",data:=.seq its.toArray n }={ cls:=.type "list",data:=.seq (its.set j u).toArray n }:=by
 simp[Obj.mapSeq]
theorem Inv.lst{pins:List (Addr×Obj)}{σ:St}{H:Hp}{s:Shared}{p:Addr}{xs:List V}(I:Inv X pins σ H s)(h:H p=some (.lst xs)) :
  ∃ (its:List Value) (n:Nat),Vals xs its/\s.heap.get? p=some { cls:=.type "list",data:=.seq its.toArray n }/\xs.length<=sizeLine:=by
 obtain⟨z,its,n,r,e⟩:=I.hok p _ h;exact⟨its,n,r,e,z⟩
theorem Inv.lstUpd{pins:List (Addr×Obj)}{σ:St}{H:Hp}{s:Shared}{p:Addr}{xs ys:List V}{its its':List Value}{n n':Nat}{f:Obj->Obj}(I:Inv X pins σ H s)(h:H p=some (.lst xs))
  (ho:s.heap.get? p=some { cls:=.type "list",data:=.seq its.toArray n }) (hf:f { cls:=.type "list",data:=.seq its.toArray n }={ cls:=.type "list",data:=.seq its'.toArray n' }) (r:Vals ys its') (hz:ys.length<=sizeLine) (t:Nat) :
  Inv X pins σ (upd H p (.lst ys)) { s with heap:=s.heap.update p f,toks:=t }:=by
 have e:(s.heap.update p f).get? p=some { cls:=.type "list",data:=.seq its'.toArray n' }:=by
  rw[Heap.get?_update_self f ho (by rw[hf]<;>rfl),hf]
 refine I.write (x:=p) (e:=p) (by rw[h];trivial) (.inl rfl) (fun b u hb q=>(Heap.get?_update_other _ _ (Ne.symm hb)).trans q) ⟨_,e⟩ ?_
 exact⟨hz,its',n',r,e⟩
def Xz2:V->V->V->Hp->(Hp->Prop)->Prop:=fun o i v H Q=>∃ p xs k j,o=.ref p/\i=.int k/\H p=some (.lst xs)/\ixN xs.length k=some j/\Q (upd H p (.lst (xs.set j v)))
theorem Xpn:X1t X Xz2:=by
 intro pins s σ H o i v ov iv u Q I ro ri rv h;obtain⟨p,xs,k,j,rfl,rfl,hp,hj,q⟩:=h;cases ro;obtain⟨t,rfl⟩:=ri;obtain⟨its,n,r,ho,hz⟩:=I.lst hp;obtain⟨h1,h2,h3,h4⟩:=Xj7 hj;have hl:=r.length;have hn:=Xbt;have I':Inv X pins σ (upd H p (.lst (xs.set j v))) { s with heap:=s.heap.update p (Obj.mapSeq (·.setIfInBounds j u)) } :=
  I.lstUpd hp ho (Xle its n j u) (r.set rv j) (by rw[List.length_set];exact hz) s.toks
 by_cases h0:0<=k
 ·have hk:k.toNat=j:=by
   rw[seqIndex_of h0 h4] at h1;exact Option.some.inj h1
  exact PySem.W.ki_setAt ho h0 (by omega) (by rw[List.size_toArray,<- hl];exact h4) (by rw[hk];exact⟨_,I',q⟩)
 ·have hk:(k+(its.toArray.size:Int)).toNat=j:=by
   rw[seqIndex_neg (by omega) h3] at h1
   rw[List.size_toArray,<- hl];exact Option.some.inj h1
  exact PySem.W.ki_setBack ho (by omega) (by rw[List.size_toArray,<- hl];exact h3) (by omega) (by rw[hk];exact⟨_,I',q⟩)
theorem Xh5(lo hi:Option Int)(n:Nat):(sliceBounds lo hi none n).1=((HT.sIx n 0 lo:Nat):Int)/\(sliceBounds lo hi none n).2.1=((HT.sIx n n hi:Nat):Int)/\(sliceBounds lo hi none n).2.2=1:=by
 refine⟨?_,?_,rfl⟩
 ·cases lo with
  | none=>simp[sliceBounds,HT.sIx]
  | some i =>
   simp only[sliceBounds,HT.sIx,Option.getD_none,show(1:Int)>0 by decide,if_true]
   by_cases h:i<0
   ·simp only[h,if_true]<;>omega
   ·simp only[h,if_false]<;>omega
 ·cases hi with
  | none=>simp[sliceBounds,HT.sIx]
  | some i =>
   simp only[sliceBounds,HT.sIx,Option.getD_none,show(1:Int)>0 by decide,if_true]
   by_cases h:i<0
   ·simp only[h,if_true]<;>omega
   ·simp only[h,if_false]<;>omega
theorem Xhk(its:List Value)(lo hi:Option Int):slicePick its.toArray lo hi none=((its.drop (HT.sIx its.length 0 lo)).take (HT.sIx its.length its.length hi-HT.sIx its.length 0 lo)).toArray:=by
 obtain⟨h1,h2,h3⟩:=Xh5 lo hi its.toArray.size;unfold slicePick;rw[h1,h2,h3];simp only[sliceRange_one,pick_run,List.size_toArray]<;>rfl
theorem Xh6:Xcq X (.builtin "len") (fun xs H Q=>∃ p ys,xs=[.ref p]/\(SqL X.K H p ys\/SqT X.K H p ys)/\Q (.int ys.length) H):=by
 intro pins s σ H xs us Q I r h;obtain⟨p,ys,rfl,hq,q⟩:=h;obtain⟨u,rfl,rx⟩:=Xhq r;cases rx;have hn:=Xbt;rcases hq with hq|hq
 ·obtain⟨its,r',pl,hz⟩:=I.list hq
  have hlen:=r'.length;exact Calls.call_len_list pl.isList (by simp only[List.size_toArray]<;>omega) ⟨.int ys.length,H,I.tok _,⟨s.toks+1,by rw[List.size_toArray,hlen]⟩,q⟩
 ·obtain⟨its,r',pl,hz⟩:=I.tuple hq
  have hlen:=r'.length;exact len_tuple pl (by simp only[List.size_toArray]<;>omega) ⟨.int ys.length,H,I.tok _,⟨s.toks+1,by rw[List.size_toArray,hlen]⟩,q⟩
theorem Xh7:Xcq X (.builtin "len") (fun xs H Q=>∃ z,xs=[.str z]/\z.length<=sizeLine/\Q (.int z.length) H):=by
 intro pins s σ H xs us Q I r h;obtain⟨z,rfl,hz,q⟩:=h;obtain⟨u,rfl,t,rfl⟩:=Xhq r;have hn:=Xbt;exact len_str (by omega) ⟨.int z.length,H,I.tok _,⟨_,rfl⟩,q⟩
theorem Xh8:Xcq X (.type "list") (fun xs H Q=>∃ p ys,xs=[.ref p]/\(SqL X.K H p ys\/SqT X.K H p ys)/\∀ l,H l=none->Q (.ref l) (upd H l (.lst ys))):=by
 intro pins s σ H xs us Q I r h;obtain⟨p,ys,rfl,hq,q⟩:=h;obtain⟨u,rfl,rx⟩:=Xhq r;cases rx;have fin:∀ (its:List Value),Vals ys its->ys.length<=sizeLine->∀ (h':Heap) (c':Nat),(∀ b o',s.heap.get? b=some o'->h'.get? b=some o') ->
   h'.get? s.heap.objs.size=some { cls:=.type "list",dict:=none,data:=.seq its.toArray c',slots:=#[] }->EP X pins σ Q (.ref s.heap.objs.size) { s with heap:=h' }:=fun its r' hz h' c' kp e =>
  ⟨.ref s.heap.objs.size,_,I.laid (t':=s.toks) kp (Nat.le_refl _) (show ObjOk X.prog X.w _ h' _ (.lst ys) from⟨hz,its,c',r',e⟩),rfl,q _ (I.hok.fresh (Nat.le_refl _))⟩
 rcases hq with hq|hq
 ·obtain⟨its,r',pl,hz⟩:=I.list hq
  have hlen:=r'.length;obtain⟨o,ho,hc,n,hd⟩:=pl.isList;exact call_list_seq p (.inl rfl) ho hc hd (fun h' c' kp e=>fin its r' hz h' c' kp e) (by simp only[List.size_toArray]<;>omega)
 ·obtain⟨its,r',pl,hz⟩:=I.tuple hq
  have hlen:=r'.length;obtain⟨o,ho,hc,n,hd⟩:=pl;exact call_list_seq p (.inr rfl) ho hc hd (fun h' c' kp e=>fin its r' hz h' c' kp e) (by simp only[List.size_toArray]<;>omega)
theorem Xc4:Xcq X (.type "tuple") (fun xs H Q=>∃ p ys,xs=[.ref p]/\((SqL X.K H p ys/\∀ l,H l=none->Q (.ref l) (upd H l (.tup ys)))\/(SqT X.K H p ys/\Q (.ref p) H))):=by
 intro pins s σ H xs us Q I r h;obtain⟨p,ys,rfl,h⟩:=h;obtain⟨u,rfl,rx⟩:=Xhq r;cases rx;rcases h with⟨hq,q⟩|⟨hq,q⟩
 ·obtain⟨its,r',pl,hz⟩:=I.list hq
  have hlen:=r'.length;refine call_tuple_list pl.isList (fun h' kp=>?_) (by simp only[List.size_toArray]<;>omega)
  have I1:Inv X pins σ H { s with heap:=h' }:=I.kept (t':=s.toks) kp
  have I2:Inv X pins σ (upd H h'.objs.size (.tup ys)) { s with heap:=h'.push { cls:=.type "tuple",data:=.seq its.toArray } } :=
   I1.laid (t':=s.toks) (fun b o e=>Heap.get?_push_of_some _ e) (Nat.le_refl _) (show ObjOk X.prog X.w _ _ _ (.tup ys) from⟨hz,its,r',IsTup.new _ _⟩)
  exact⟨.ref h'.objs.size,_,I2,rfl,q _ (I1.hok.fresh (Nat.le_refl _))⟩
 ·obtain⟨its,r',pl,hz⟩:=I.tuple hq
  exact call_tuple_same pl ⟨.ref p,H,I,rfl,q⟩
variable{o e:Expr}{es:List Expr}{to:TE}{t:TA}{name:Str}{apos cpos:Pos}{T id:String}{r:V->List V->Hp->VK->Prop}
/- xs.append(e),list.index on a module's tuple .. are MtR facts of 06m -/
end
end L2
namespace L2
open PySem PySem.Spec PyProof.Rows
def MtM(X:Cx)(id:String)(r:V->List V->Hp->VK->Prop):Prop :=
 ∀ (pins:List (Addr×Obj)) (s:Shared) (σ:St) (H:Hp) (x:V) (xs:List V) (v:Value) (us:List Value) (Q:VK),Inv X pins σ H s->RelV x v->Vals xs us->r x xs H Q ->
  wpAny (model X.prog X.w) X.A (call (.builtin id) (v::us)) (EP X pins σ Q) X.xe s
theorem Vals.one:∀ {x:V} {us:List Value},Vals [x] us->∃ u,us=[u]/\RelV x u
 | _,_,.cons r .nil=>⟨_,rfl,r⟩
theorem Vals.two:∀ {x y:V} {us:List Value},Vals [x,y] us->∃ u v,us=[u,v]/\RelV x u/\RelV y v
 | _,_,_,.cons r (.cons q .nil)=>⟨_,_,rfl,r,q⟩
theorem Vals.zero:∀ {us:List Value},Vals [] us->us=[]
 | _,.nil=>rfl
theorem Vals.dropLast{xs:List V}{us:List Value}(h:Vals xs us):Vals xs.dropLast us.dropLast:=by
 induction h with
 | nil=>exact .nil
 | cons r t ih =>
  cases t with
  | nil=>exact .nil
  | cons q t'=>exact .cons r ih
theorem Vals.eraseIdx:∀ {xs:List V} {us:List Value} (i:Nat),Vals xs us->Vals (xs.eraseIdx i) (us.eraseIdx i)
 | _,_,_,.nil=>.nil
 | _,_,0,.cons _ t=>t
 | _,_,i+1,.cons r t=>.cons r (Vals.eraseIdx i t)
theorem Vals.reverse{xs:List V}{us:List Value}(h:Vals xs us):Vals xs.reverse us.reverse:=by
 induction h with
 | nil=>exact .nil
 | cons r t ih=>rw[List.reverse_cons,List.reverse_cons];exact Vals.append ih (.cons r .nil)
theorem Vals.rep{xs:List V}{us:List Value}(h:Vals xs us):∀ k:Nat,Vals (List.replicate k xs).flatten (List.replicate k us).flatten
 | 0=>.nil
 | k+1=>by
  rw[List.replicate_succ,List.replicate_succ,List.flatten_cons,List.flatten_cons];exact Vals.append h (Vals.rep h k)
theorem Xg0(its:List Value):∀ (k:Nat) (acc:List Value),
  List.foldl (fun x1 x2=>x1++x2) acc.toArray (List.replicate k its.toArray)=(acc++(List.replicate k its).flatten).toArray
 | 0,acc=>by simp
 | k+1,acc=>by
  have e:acc.toArray++its.toArray=(acc++its).toArray:=by simp
  have e2:(acc++its)++(List.replicate k its).flatten=acc++(List.replicate (k+1) its).flatten:=by
   rw[List.replicate_succ,List.flatten_cons,List.append_assoc]
  rw[<- e2,<- Xg0 its k (acc++its),<- e,List.replicate_succ,List.foldl_cons]
section
variable{X:Cx}{pins:List (Addr×Obj)}{σ:St}{H:Hp}{s:Shared}{l b:Addr}{xs ys zs:List V}
theorem Inv.lset{its its':List Value}{n:Nat}{f:Array Value->Array Value}{t':Nat}(I:Inv X pins σ H s)(hH:H l=some (.lst xs))
  (e:s.heap.get? l=some { cls:=.type "list",data:=.seq its.toArray n }) (hf:f its.toArray=its'.toArray) (hv:Vals ys its') (hz:ys.length<=sizeLine) :
  Inv X pins σ (upd H l (.lst ys)) { s with heap:=s.heap.update l (Obj.mapSeq f),toks:=t' }:=by
 have q:=PySem.IsL.update e f;rw[hf] at q;refine I.write (x:=l) (e:=l) (by rw[hH];exact trivial) (.inl rfl) (fun b' u hb hu=>(Heap.get?_update_other s.heap (Obj.mapSeq f) (Ne.symm hb)).trans hu) ⟨_,q⟩ ?_
 exact⟨hz,its',_,hv,q⟩
theorem Inv.lnew{its:List Value}{t':Nat}(I:Inv X pins σ H s)(hv:Vals ys its)(hz:ys.length<=sizeLine) :
  Inv X pins σ (upd H s.heap.objs.size (.lst ys)) { s with heap:=s.heap.push { cls:=.type "list",data:=.seq its.toArray },toks:=t' } :=
 I.laid (fun _ _ q=>Heap.get?_push_of_some _ q) (Nat.le_refl _) ⟨hz,its,0,hv,Heap.get?_push_size _ rfl⟩
theorem Inv.fresh(I:Inv X pins σ H s):H s.heap.objs.size=none:=I.hok.fresh (Nat.le_refl _)
theorem Inv.lstM(I:Inv X pins σ H s)(hH:H l=some (.lst xs)):xs.length<=sizeLine/\∃ (its:List Value) (n:Nat),Vals xs its/\xs.length=its.length/\s.heap.get? l=some { cls:=.type "list",data:=.seq its.toArray n }:=by
 obtain⟨z,its,n,r,e⟩:=I.hok l _ hH;exact⟨z,its,n,r,r.length,e⟩
theorem Xpo{n:Nat}(h:n<=sizeLine):Builtin.List.listTooLong n=false:=by
 unfold Builtin.List.listTooLong;exact decide_eq_false (by omega)
end
section
variable{X:Cx}
def Xtf:V->List V->Hp->VK->Prop:=fun x vs H Q=>∃ l xs y,x=.ref l/\vs=[y]/\H l=some (.lst xs)/\xs.length<sizeLine/\Q .non (upd H l (.lst (xs++[y])))
theorem Xg1:MtM X "list.append" Xtf:=by
 intro pins s σ H x vs v us Q I rx rv h;obtain⟨l,xs,y,rfl,rfl,hH,hz,q⟩:=h;cases rx;obtain⟨u,rfl,ru⟩:=rv.one;obtain⟨z,its,n,r,hl,e⟩:=I.lstM hH;refine call_meets F.slot_list_append ⟨_,e,rfl⟩ F.entry_list_append (F.args_list_append_2 _ _) (PySem.list_append l its.toArray n u (by rw[List.size_toArray];omega)) ⟨e,?_⟩
 refine⟨.non,_,I.lset (its':=its++[u]) hH e (by simp) (r.append (.cons ru .nil)) ?_,rfl,q⟩
 rw[List.length_append,List.length_singleton];omega
noncomputable def X1z:R2:=fun x y H Q=>∃ l b xs zs,x=.ref l/\y=.ref b/\H l=some (.lst xs)/\H b=some (.lst zs)/\xs.length+zs.length<=sizeLine/\∀ p,H p=none->Q (.ref p) (upd H p (.lst (xs++zs)))
theorem Xww:OpR X (binaryOp .Add) X1z:=by
 intro pins s σ H x y v u Q I rx ry h;obtain⟨l,b,xs,zs,rfl,rfl,hH,hB,hz,q⟩:=h;cases rx;cases ry;obtain⟨z,its,n,r,hl,e⟩:=I.lstM hH;obtain⟨z2,its2,n2,r2,hl2,e2⟩:=I.lstM hB;refine PySem.P.add_list e e2 ?_ (by rw[List.size_toArray,List.size_toArray];omega)
 have ea:its.toArray++its2.toArray=(its++its2).toArray:=by simp
 rw[ea];exact⟨.ref _,_,I.lnew (t':=s.toks) (r.append r2) (by rw[List.length_append];omega),rfl,q _ I.fresh⟩
noncomputable def X10:R2:=fun x y H Q=>∃ l k xs,x=.ref l/\y=.int k/\H l=some (.lst xs)/\-(2^63)<=k/\k<2^63/\xs.length*k.toNat<=sizeLine /\
 ∀ p,H p=none->Q (.ref p) (upd H p (.lst (List.replicate k.toNat xs).flatten))
theorem Xfu{α:Type}(xs:List α)(k:Nat):(List.replicate k xs).flatten.length=k*xs.length:=by
 induction k with
 | zero=>simp
 | succ k ih=>rw[List.replicate_succ,List.flatten_cons,List.length_append,ih,Nat.succ_mul,Nat.add_comm]
theorem Xwx:OpR X (binaryOp .Mult) X10:=by
 intro pins s σ H x y v u Q I rx ry h;obtain⟨l,k,xs,rfl,rfl,hH,h1,h2,hz,q⟩:=h;cases rx;obtain⟨t,rfl⟩:=ry;obtain⟨z,its,n,r,hl,e⟩:=I.lstM hH;have hlen:its.toArray.size*k.toNat<=sizeLine:=by rw[List.size_toArray,<- hl];exact hz
 have hcap:¬ its.toArray.size*k.toNat>(2^63-1)/8:=by
  have:(sizeLine:Nat)<=(2^63-1)/8:=by decide
  omega
 have hfit:¬ (!Builtin.List.listFitsIndex k)=true:=by
  rw[fitsIndex_both h1 h2];exact Bool.false_ne_true
 have hlong:¬ Builtin.List.listTooLong (its.toArray.size*k.toNat)=true:=by
  rw[Xpo hlen];exact Bool.false_ne_true
 have hnew:List.foldl (fun x1 x2=>x1++x2) #[] (List.replicate (if its.toArray.isEmpty=true then 0 else k.toNat) its.toArray)=(List.replicate k.toNat its).flatten.toArray:=by
  have f0:∀ m:Nat,List.foldl (fun x1 x2=>x1++x2) #[] (List.replicate m its.toArray)=(List.replicate m its).flatten.toArray:=fun m=>by
   have:=Xg0 its m [];rw[List.nil_append] at this;exact this
  rw[f0];cases its with
  | nil=>simp
  | cons a r'=>rw[if_neg (by simp)]
 refine wpAny_binaryOp_repeat_ref (T := "list") (U := "int") (by decide) ⟨_,e,rfl⟩ (fun s'=>typeIs_int s' k t) noFill_list_mul F.fills_int_mul F.slot_int_rmul repeat_list F.slot_int_index.lookup
  (call_meets F.slot_int_rmul (typeIs_int s k t) F.entry_int_rmul (F.args_int_rmul_2 _ _) (int___rmul___int_list k t l its.toArray n)
   ⟨e,rfl,⟨_,e,rfl⟩,call_meets F.slot_list_mul ⟨_,e,rfl⟩ F.entry_list_mul (F.args_list_mul_2 _ _) (AutoListH.list___mul___list_int_3 l its.toArray n k t hfit hcap hlong) ⟨e,?_⟩⟩)
 rw[hnew];exact⟨.ref _,_,I.lnew (t':=s.toks) (r.rep k.toNat) (by rw[Xfu,Nat.mul_comm];exact hz),rfl,q _ I.fresh⟩
end
section
variable{prog:Program}{w:World}{A:Around}{E:Value->Shared->Prop}{s:Shared}
end
section
variable{X:Cx}
end
end L2
namespace Att
open PySem PySem.W PySem.Calls PyProof.Rows
theorem Xez{P:Params}{h:Heap}:∀ (ns:List Int) (vs:List Value),WellAll P h vs (ns.map WData.int)->IntsAre vs ns:=by
 intro ns
 induction ns with
 | nil =>
  intro vs w;rw[List.map_nil] at w;cases w;exact .nil
 | cons n ns ih =>
  intro vs w;rw[List.map_cons] at w;cases w with
  | cons a b =>
   cases a;exact .cons _ _ (ih _ b)
theorem Xne{l:OpenLaw}{n:Nat}(hn:l.most=some n){P:Params}{h:Heap}{args:List WData}{vals:List Value}
  (hpre:l.row.toRowW.claim.pre args=true) (hwl:WellAll P h vals args) :
  ∃ a vs ns,vals=[Value.ref a]/\args=[WData.list (ns.map WData.int)]/\h.get? a=some { cls:=.type "list",data:=.seq vs.toArray }/\IntsAre vs ns/\ns.length<=n:=by
 have hsh:WShape.hasAll [] args [.list .int]=true:=(pre_splitW hpre).1;have hc:l.pre.holds [] { args:=args }=true:=(pre_splitW hpre).2;obtain⟨d,r,rfl,h1,h2⟩:=hasAllW_cons hsh;obtain rfl:=hasAllW_nil h2;obtain⟨xs,rfl,h3⟩:=hasW_list h1;obtain⟨ns,rfl⟩:=items_int h3;have hlen:ns.length<=n:=by
  unfold OpenLaw.pre at hc;have h4:(WTm.not (.lt (.lit (.int (n:Int))) (.len (.arg 0)))).holds [] { args:=[.list (ns.map .int)] }=true:=by
   have h4:=(holds_andW hc).1;rw[hn] at h4;exact h4
  have h5:=condW_of h4 (w_not (w_lt w_lit (w_len_list (w_arg rfl))));rw[List.length_map] at h5;refine Nat.le_of_not_lt fun q=>?_
  have q':(n:Int)<((ns.length:Nat):Int):=by omega
  first
   | (rw[decide_eq_true q'] at h5;exact absurd h5 (by decide))
   | (simp at h5;omega)
 cases hwl with
 | cons w1 w2 =>
  cases w2;cases w1 with
  | list ho hall=>exact⟨_,_,ns,rfl,rfl,ho,Xez ns _ hall,hlen⟩
theorem Xnf(l:OpenLaw)(args:List WData):l.row.toRowW.claim.post args (.bool true) args=true :=
 postW_of (r:=l.row.toRowW) (X:=(true==true))
  (show WShape.has [] (.bool true) .bool=true by first|rfl|decide|simp[WShape.has,WShape.arms,WShape.armsAll])
  (show(WTm.eq .res (.lit (.bool true))).value [] { args:=args,res:=some (.bool true),after:=args }=some (.bool (true==true)) from w_eq_bool (w_res rfl) w_lit) rfl
theorem attach_call{l:OpenLaw}{n:Nat}{q:Program}{loose:List Str}{XP:(Str->Option Value)->Heap->Prop}{YP:World->Heap->Prop}{d:DefRec}
  (hn:l.most=some n) (hdf:d.params.defaults=[])
  (call:∀ (w:World) (s₀ s₁:Shared) (mg mb:Str->Option Value) (fa:Addr) (o:Obj) (pm cd doc:Value) (a:Addr) (vs:List Value) (ns:List Int),
   Ground q loose [] XP w s₀ mg mb s₁.heap->YP w s₁.heap ->
   s₁.heap.get? fa=some o->o.data=.func (docDef d.name d.params d.body d.scope pm cd doc)->s₁.heap.CodeRec cd d.name->mg d.name=some (.ref fa) ->
   s₁.heap.get? a=some { cls:=.type "list",data:=.seq vs.toArray }->IntsAre vs ns->ns.length<=n->s₁.gens=#[] ->
   codeAny (model l.prog w) callerA (.call (.ref fa) ⟨[.ref a],[]⟩) (fun r s'=>r=.ok (.ret (.bool true))/\OldK s₁.heap s'.heap/\s'.os=s₁.os/\AllBare s'.gens) s₁) :
  WalkO q loose XP YP l.row.toRowW d [] (fun f vs=>PySem.call f vs):=by
 intro w s₀ s₁ mg mb G Y fa o pm cd doc dV kV ho hd hcd hD hmg hg args vals as hpre hlay hrd hwl hlo;obtain rfl:dV=.none:=Dflts.none hD hdf;obtain rfl:kV=.none:=Dflts.noKw hD;obtain⟨a,vs,ns,rfl,rfl,hobj,hints,hlen⟩:=Xne hn hpre hwl;refine enter_call (codeAny_mono (call w s₀ s₁ mg mb fa o pm cd doc a vs ns G Y ho (fd_plain hd) hcd hmg hobj hints hlen hg) fun r s' hq=>?_)
 obtain⟨rfl,h2,h3,h4⟩:=hq;exact⟨.inl ⟨.bool true,.bool true,[],rfl,fun _=>rfl,.bool true,Xnf l _,fun _=>⟨List.Pairwise.nil,fun _ hm=>(nomatch hm)⟩⟩,h2,h3,h4⟩
section
variable{prog:Program}{w:World}{A:Around}{E:Value->Shared->Prop}{s:Shared}{K:Frag}
end
end Att
namespace L2
open PySem PySem.Spec PyProof.Rows
theorem Xb2:∀ {vs:List Value} {ns:List Int},IntsAre vs ns->Vals (ns.map V.int) vs
 | _,_,.nil=>.nil
 | _,_,.cons n t h=>.cons ⟨t,rfl⟩ (Xb2 h)
def Xlf(H:Hp):Prop:=∀ b,H b=none\/∃ o xs,H b=some (.frz o (.lst xs))
theorem Xpp{P:Program}{w:World}{K:PySem.W.Frag}{mg mb:Str->Option Value}{CX:CXT}{k:Nat}{fa a:Addr}{fd:FuncData}{x:Str}{sp:Sp}{s₁:Shared}{vs:List Value}{ns:List Int}
  (KX:K.In s₁.heap) (hns:s₁.heap.Ns mainGlobals mg) (hb:s₁.heap.Ns builtinsNs mb) (hbb:∀ x:Str,x ≠ "__name__" -> mb x=bootBuiltins x) (hlim:s₁.heap.NoLimit) (hg:s₁.gens=#[])
  (ha:s₁.heap.get? a=some { cls:=.type "list",data:=.seq vs.toArray }) (hi:IntsAre vs ns) (hl:ns.length<=sizeLine) (hr:Room k callerA)
  (F:∀ base:Heap,K.In base->base.Ns mainGlobals mg->FnOk P w K mg base CX k fa fd [x] sp) (hbind:∀ (s:Shared) (u:Value),BindsTo s fd ⟨[u],[]⟩ [(x,u)])
  (hsp:∀ H:Hp,Xlf H->SqL K H a (ns.map V.int)->sp [.ref a] H (fun v _=>v=.bl true) fun _ _ _=>False)
  (hCX:∀ H e s',CX [] H s₁ (fun _ _ _=>False) e s'->False) :
  codeAny (model P w) callerA (.call (.ref fa) ⟨[.ref a],[]⟩) (fun r s'=>r=.ok (.ret (.bool true))/\OldK s₁.heap s'.heap/\s'.os=s₁.os/\AllBare s'.gens) s₁:=by
 have rv:=Xb2 hi;have lenV:=hi.length;have core:∀ H:Hp,Xlf H->SqL K H a (ns.map V.int)->HOk P w H s₁.heap->(∀ b,H b≠none->b=a)->(H a≠none->K.lookup a=none) ->
   codeAny (model P w) callerA (.call (.ref fa) ⟨[.ref a],[]⟩) (fun r s'=>r=.ok (.ret (.bool true))/\OldK s₁.heap s'.heap/\s'.os=s₁.os/\AllBare s'.gens) s₁:=by
  intro H hO hS hok hA hK;have base_of:∀ {b:Addr} {o:Obj},s₁.heap.get? b=some o->H b=none->(Xcp s₁.heap H).get? b=some o:=fun e n=>Xpk e n
  have noA:∀ {b:Addr} {o:Obj} {es:Array DictEntry} {ep:Nat},s₁.heap.get? b=some o->o.data=.dict es ep->H b=none:=fun {b o es ep} e d=>by
   cases q:H b with
   | none=>rfl
   | some u =>
    have e':b=a:=hA b (by rw[q];simp)
    subst e';rw[ha] at e;cases e;have d':Data.seq vs.toArray _=Data.dict es ep:=d;cases d'
  have nsK:∀ {b:Addr} {m:Str->Option Value},s₁.heap.Ns b m->(Xcp s₁.heap H).Ns b m:=fun {b m} ⟨o,es,ep,e,d,r⟩=>⟨o,es,ep,base_of e (noA e d),d,r⟩
  have hKb:K.In (Xcp s₁.heap H):=fun b o e=>base_of (KX b o e) (by
   cases q:H b with
   | none=>rfl
   | some u =>
    have e':b=a:=hA b (by rw[q];simp)
    subst e';rw[hK (by rw[q];simp)] at e;cases e)
  have hM:Mod K mg (Xcp s₁.heap H):=⟨hKb,nsK hns,⟨mb,nsK hb,hbb⟩,let ⟨mc,h1,h2⟩:=hlim;⟨mc,nsK h1,h2⟩⟩
  have e0:Env0 P w K mg (Xcp s₁.heap H) callerA [] s₁ H:=⟨rfl,hM,fun b o e=>Xtc e,Nat.le_of_eq (Xm7 _ _),trivial,fun b hb=>absurd (show b∈([]:List Addr) from hb) (by simp),hok,.of_eq hg⟩
  refine codeAny_mono ((F _ hKb (nsK hns)).run callerA [] s₁ H ⟨[.ref a],[]⟩ [.ref a] [.ref a] _ _ hr e0 (hbind s₁ (.ref a)) (.cons rfl .nil) (hsp H hO hS)) fun r s' h=>?_
  cases r with
  | error e=>exact(hCX H e s' h).elim
  | ok fl =>
   cases fl with
   | next=>exact False.elim h
   | brk=>exact False.elim h
   | cont=>exact False.elim h
   | ret u =>
    obtain⟨v,H',os,bare,un,hok',r',q⟩:=h;have q':v=.bl true:=q;subst q';obtain rfl:u=Value.bool true:=r';refine⟨rfl,OldK.of_keep fun b o e=>?_,os,bare⟩
    cases q:H b with
    | none=>exact un.keep b o e q (by intro z;exact absurd (show b∈([]:List Addr) from z) (by simp)) (by simp)
    | some u =>
     rcases hO b with z|⟨ob,xs,z⟩
     ·rw[q] at z;cases z
     ·have z2:=un.frzs b ob _ z
      obtain⟨e1,_⟩:=hok b _ z;obtain⟨e2,_⟩:=hok' b _ z2;rw[e] at e1;cases e1;exact e2
 cases hk:K.lookup a with
 | some o =>
  have e:=KX a o hk;rw[ha] at e;cases e;refine core (fun _=>none) (fun _=>.inl rfl) (.inr ⟨_,vs.toArray,_,hk,rfl,rfl,rfl,by rw[List.size_toArray,lenV];exact hl,by simpa using rv⟩) (fun b u z=>by have z':(none:Option HO)=some u:=z;cases z') (fun b z=>absurd rfl z) fun z=>absurd rfl z
 | none =>
  refine core (fun b=>if b=a then some (.frz { cls:=.type "list",data:=.seq vs.toArray } (.lst (ns.map V.int))) else none) (fun b=>?_) (.inl (.inr ⟨{ cls:=.type "list",data:=.seq vs.toArray },if_pos rfl⟩)) (fun b u z=>?_) (fun b z=>?_) fun _=>hk
  ·by_cases hb:b=a
   ·exact .inr ⟨_,_,if_pos hb⟩
   ·exact .inl (if_neg hb)
  ·by_cases hb:b=a
   ·have z':=(if_pos hb).symm.trans z
    cases z';subst hb;exact⟨ha,by rw[List.length_map];exact hl,vs,_,rv,ha⟩
   ·have z':=(if_neg hb).symm.trans z
    cases z'
  ·by_cases hb:b=a
   ·exact hb
   ·exact absurd (if_neg hb) z
end L2
namespace L2
open PySem PySem.Spec PyProof.Rows
theorem walk_of{l:PySem.W.OpenLaw}{n k:Nat}{q:Program}{loose:List Str}{XP:(Str->Option Value)->Heap->Prop}{YP:World->Heap->Prop}{d:DefRec}{K:Params->PySem.W.Frag}{CX:World->CXT}{sp:World->Sp}{x:Str}
  (hn:l.most=some n) (hn2:n<=sizeLine) (hdf:d.params.defaults=[]) (hr:Room k callerA)
  (hY:∀ (w:World) (h:Heap),YP w h->(K w.params).In h)
  (F:∀ (w:World) (mg:Str->Option Value) (fa:Addr) (h:Heap),(K w.params).In h->h.Ns mainGlobals mg->mg d.name=some (.ref fa) ->
   ∃ fd:FuncData,(∀ (s:Shared) (u:Value),BindsTo s fd ⟨[u],[]⟩ [(x,u)]) /\
    ∀ base:Heap,(K w.params).In base->base.Ns mainGlobals mg->FnOk l.prog w (K w.params) mg base (CX w) k fa fd [x] (sp w))
  (hsp:∀ (w:World) (H:Hp) (a:Addr) (ns:List Int),ns.length<=n->Xlf H->SqL (K w.params) H a (ns.map V.int)->sp w [.ref a] H (fun v _=>v=.bl true) fun _ _ _=>False)
  (hCX:∀ (w:World) (H:Hp) (s:Shared) (e:Value) (s':Shared),CX w [] H s (fun _ _ _=>False) e s'->False) :
  PySem.W.WalkO q loose XP YP l.row.toRowW d [] (fun f vs=>PySem.call f vs):=by
 refine Att.attach_call hn hdf fun w s₀ s₁ mg mb fa o pm cd doc a vs ns G Y ho hd hcd hmg hobj hints hlen hg=>?_
 have KX:=hY w _ Y;obtain⟨fd,hb,hF⟩:=F w mg fa _ KX G.T.g hmg;exact Xpp KX G.T.g G.T.b G.T.builtins G.T.nolimit hg hobj hints (Nat.le_trans hlen hn2) hr hF hb (fun H hO hS=>hsp w H a ns hlen hO hS) fun H e s'=>hCX w H s₁ e s'
end L2
/- THE LAST THEOREM (shape;LID,My.* are yours):
   My.Adr: a structure of the addresses that your layer names (classes,functions);My.Txt K t: a structure (Prop) of the equations over K;
   My.txt_mk:{K} {implicit addresses ..} (e1:nsIn K mainGlobals "law" = some (some (.ref f))) (e2:K.lookup f=some ⟨oc,od,.func (fnOf "law" "law" params body scope dV kV doc pm an cdv ct),sl⟩) (e3:codeIn K cdv "law" = true) ..:∃ t,My.Txt K t
set_option maxRecDepth 100000 in
set_option maxHeartbeats 0 in
theorem PySem.Challenge.cw_LID_holds : PySem.Challenge.rw_LID.Holds := by
 w_on;o_law;k_head;(case hw=>w_witness2)
 k_fill
 refine L2.walk_of (l:=PySem.Challenge.rw_LID) (n:=63) (k:=40) (x := "script") (CX:=fun w=>..) (sp:=fun _=>My.sp_law) rfl (by decide) rfl ⟨rfl,by decide,by decide⟩ (fun w h Y=>PySem.W.kIn_of Y) ?F ?S ?C
 case F =>
  intro w mg fa h KX G hmg;have T:∃ t,My.Txt (L2.KOf KX) t:=by
   dsimp only[L2.KOf]                          -- K must stand as «<heap const> w.params» for k_is;refine' My.txt_mk ?e1 ?e2 ?e3 ..
   (case e1=>PySem.W.k_is)                    -- in the order: a name -> its address -> its object -> its parts
   (case e2=>PySem.W.k_is)
   ..
  obtain⟨t,T⟩:=T;have e0:=hmg.symm.trans (PySem.W.mg_of KX G T.law);cases e0                                       -- fa is the law's own address;exact⟨_,fun s u=>.of_eq rfl,fun base kb nb=>My.law_fn T kb nb⟩     -- if «.of_eq rfl» comes too early: refine' ⟨_,?b,fun base kb nb=>My.law_fn T kb nb⟩;exact fun s u=>.of_eq rfl
 case S=>exact fun w H a ns hl hO hS=>..
 case C=>exact ..
(the tactic k_is has no namespace: write k_is) -/
namespace L2
open PySem PySem.Spec PyProof.Rows
noncomputable def Xbk(s:Stmt):Arguments:=match s with
 | .FunctionDef _ a _ _ _ _ _ _ _ _=>a
 | _=>{ posonlyargs:=[],args:=[],vararg:=none,kwonlyargs:=[],kw_defaults:=[],kwarg:=none,defaults:=[] }
noncomputable def Xh(s:Stmt):List Stmt:=match s with
 | .FunctionDef _ _ b _ _ _ _ _ _ _=>b
 | _=>[]
noncomputable def Xb(s:Stmt):Scope:=match s with
 | .FunctionDef _ _ _ _ _ _ sc _ _ _=>sc
 | _=>{ kind:=.function,names:=[],isGenerator:=false,isCoroutine:=false }
structure Fun(K:PySem.W.Frag)(x qual:Str)(st:Stmt)(f:Addr)(fd:FuncData):Prop where
 ex:∃ (oc:Value) (od:Option Addr) (kV doc pm:Value) (an:Option Addr) (cdv ct:Value) (osl:Array (Option Value)),
  fd=PySem.W.fnOf x qual (Xbk st) (Xh st) (Xb st) .none kV doc pm an cdv ct/\K.lookup f=some ⟨oc,od,.func fd,osl⟩/\PySem.W.codeIn K cdv qual=true
 kp:PySem.W.keepIn K (.ref f)=true
section
variable{P:Program}{w:World}{K:PySem.W.Frag}{mg:Str->Option Value}{base:Heap}
theorem Fun.binds{x qual:Str}{st:Stmt}{f:Addr}{fd:FuncData}{ps:List Str}(F:Fun K x qual st f fd)
  (h:∀ (kV doc pm:Value) (an:Option Addr) (cdv ct:Value) (us:List Value),us.length=ps.length->bindArgs (PySem.W.fnOf x qual (Xbk st) (Xh st) (Xb st) .none kV doc pm an cdv ct) ⟨us,[]⟩=pure (ps.zip us)):Binds K fd ps []:=by
 obtain⟨oc,od,kV,doc,pm,an,cdv,ct,osl,rfl,lk,hcd⟩:=F.ex;exact .all (h kV doc pm an cdv ct)
theorem Xwy{x qual:Str}{st:Stmt}{f:Addr}{oc:Value}{od an:Option Addr}{osl:Array (Option Value)}{kV doc pm cdv ct:Value}(l:K.lookup f=some ⟨oc,od,.func (PySem.W.fnOf x qual (Xbk st) (Xh st) (Xb st) .none kV doc pm an cdv ct),osl⟩)
  (c:PySem.W.codeIn K cdv qual=true) (k:PySem.W.keepIn K (.ref f)=true):Fun K x qual st f (PySem.W.fnOf x qual (Xbk st) (Xh st) (Xb st) .none kV doc pm an cdv ct):=⟨⟨oc,od,kV,doc,pm,an,cdv,ct,osl,rfl,l,c⟩,k⟩
end
section
variable{X:Cx}
end
def Same(H H':Hp):Prop:=∀ b o,H b=some o->H' b=some o
theorem Same.refl(H:Hp):Same H H:=fun _ _ h=>h
theorem Same.trans{H H1 H2:Hp}(a:Same H H1)(b:Same H1 H2):Same H H2:=fun c o h=>b c o (a c o h)
theorem Same.free{H H':Hp}(e:Same H H'){l:Addr}(h:H' l=Option.none):H l=Option.none:=by
 cases q:H l with
 | none=>rfl
 | some o =>
  rw[e l o q] at h;cases h
theorem Same.seq{K:PySem.W.Frag}{H H':Hp}{a:Addr}{xs:List V}(e:Same H H')(h:SqL K H a xs):SqL K H' a xs:=by
 rcases h with(h|⟨o,h⟩)|h
 ·exact .inl (.inl (e _ _ h))
 ·exact .inl (.inr ⟨o,e _ _ h⟩)
 ·exact .inr h
end L2
end
section
namespace Z
open PySem PyProof.Rows
inductive D where
 | non|bl (b:Bool)|int (i:Int)|str (x:Str)|tup (xs:List D)|ref (n:Nat)|fro (xs:List D)|fn (f:Nat) (nm:Str)
 deriving Inhabited
inductive O where
 | lst (xs:List D)|set (xs:List D)|dct (kvs:List (D×D))|exc (c:Nat)
noncomputable abbrev Sto:=List O
noncomputable abbrev En:=List (Option D)
inductive R(α:Type) where
 | ok (a:α) (S:Sto)|ex (n:Nat) (S:Sto)|bad
noncomputable def R.bind{α β:Type}:R α->(α->Sto->R β)->R β
 | .ok a S,f=>f a S
 | .ex n S,_=>.ex n S
 | .bad,_=>.bad
@[simp] theorem Rk0{α β:Type}(a:α)(S:Sto)(f:α->Sto->R β):(R.ok a S).bind f=f a S:=rfl
@[simp] theorem R.bind_bad{α β:Type}(f:α->Sto->R β):(R.bad:R α).bind f=.bad:=rfl
noncomputable def big:Nat:=1000000
set_option genInjectivity false
inductive Bo where|add|sub|mul|fdiv|mod|pow
 deriving DecidableEq
inductive Co where|eq|ne|lt|le|gt|ge|isin|notin|is|isnot
 deriving DecidableEq
inductive Ty where|int|bool|str|tuple|list|dict|cls(c:Nat)|valueError
 deriving DecidableEq
inductive Bl where
 | len|min|max|sum|all|tuple|list|set|str|repr|abs|int
 deriving DecidableEq
inductive Mt where|append|extend|pop|index|count|join|split|add
 deriving DecidableEq
inductive Tg where
 | var (i:Nat)
 | tup (is:List Nat)
 | nst (i:Nat) (is:List Nat)
mutual
inductive Ex where
 | nev
 | var (i:Nat)
 | cst (d:D)
 | neg (a:Ex)
 | glb (k:Nat)
 | tup (es:Exs)
 | lst (es:Exs)
 | bin (op:Bo) (a b:Ex)
 | cmp (op:Co) (a b:Ex)
 | chn (o1 o2:Co) (a b c:Ex)
 | and (a b:Ex)
 | or (a b:Ex)
 | not (a:Ex)
 | ite (c a b:Ex)
 | idx (a i:Ex)
 | sli (a:Ex) (lo hi:Op)
 | rev (a:Ex)
 | call (f:Nat) (es:Exs)
 | cal (e:Ex) (es:Exs)
 | rv2 (k:Bool) (a:Ex)
 | blt (k:Bl) (es:Exs)
 | mth (k:Mt) (o:Ex) (es:Exs)
 | isi (a:Ex) (ts:List Ty)
 | cmr (k:Bool) (n:Nat) (gs:Gens) (elt:Ex)
inductive Op where
 | none|some (e:Ex)
inductive Exs where
 | nil|cons (e:Ex) (es:Exs)
inductive Gens where
 | nil|cons (t:Tg) (it:It) (ifs:Exs) (gs:Gens)
inductive It where
 | val (e:Ex)|rng (es:Exs)|zpp (es:Exs)|enm (es:Exs)|ezp (es:Exs)
end
mutual
inductive St where
 | nev
 | asg (t:Tg) (e:Ex)
 | par (is:List Nat) (es:Exs)
 | aset (o i e:Ex)
 | aug (i:Nat) (op:Bo) (e:Ex)
 | expr (e:Ex)
 | ret (e:Ex)
 | ite (c:Ex) (a b:Sts)
 | for (t:Tg) (it:It) (b:Sts)
 | rse (c:Nat) (e:Ex)
 | pass
 | brk
 | cnt
inductive Sts where
 | nil|cons (s:St) (ss:Sts)
end
set_option genInjectivity true
inductive Fl where
 | nx (e:En)|brk (e:En)|cnt (e:En)|rt (d:D)
noncomputable def Xd(S:Sto)(n:Nat):Option (List D) :=
 match S[n]? with
 | some (.lst xs)=>some xs
 | _=>none
noncomputable def lstM(S:Sto)(n:Nat):Option (List D) :=
 match S[n]? with
 | some (.lst xs)=>some xs
 | _=>none
noncomputable def i2(b:Bool):Int:=if b then 1 else 0
mutual
noncomputable def X7(look:Nat->Option PyData):D->Option PyData
 | .non=>some .none
 | .bl b=>some (.bool b)
 | .int i=>some (.int i)
 | .str x=>some (.str x)
 | .tup xs=>(datFs look xs).map PyData.tuple
 | .fro _=>none
 | .fn _ _=>none
 | .ref n=>look n
noncomputable def datFs(look:Nat->Option PyData):List D->Option (List PyData)
 | []=>some []
 | x::xs=>match X7 look x,datFs look xs with
  | some p,some ps=>some (p::ps)
  | _,_=>none
end
noncomputable def Y1(S:Sto):Nat->Nat->Option PyData
 | 0,_=>none
 | k+1,n=>match S[n]? with
  | some (.lst xs)=>(datFs (Y1 S k) xs).map PyData.list
  | some (.dct [])=>some (.dict [])
  | _=>none
noncomputable def Yj(S:Sto)(d:D):Option PyData:=X7 (Y1 S 4) d
noncomputable def Xb6(x y:D):Option Bool:=match x with
 | .str a=>(match y with
  | .str b=>some (a.cps.toList==b.cps.toList)
  | _=>none)
 | _=>none
noncomputable def Xfv(S:Sto)(x y:D):Option Bool:=match x with
 | .ref a=>(match y with
  | .ref b=>(match Xd S a,Xd S b with
   | some xs,some ys=>if xs.length=ys.length then none else some false
   | _,_=>none)
  | _=>none)
 | _=>none
noncomputable def eqD(S:Sto)(x y:D):Option Bool:=match Xb6 x y with
 | some r=>some r
 | none=>match Yj S x,Yj S y with
  | some p,some q=>if p.canLay0&&q.canLay0&&decide (p.depth<=60) then some (PyData.eqv p q) else Xfv S x y
  | _,_=>Xfv S x y
noncomputable def inD(S:Sto)(x y:D):Option Bool:=match Yj S x,Yj S y with
 | some p,some (.list qs)=>if p.canLay0&&PyData.canLayAll0 qs&&decide (p.depth<=60) then some (qs.any fun q=>PyData.eqv q p) else none
 | some p,some (.tuple qs)=>if p.canLay0&&PyData.canLayAll0 qs&&decide (p.depth<=60) then some (qs.any fun q=>PyData.eqv q p) else none
 | _,_=>none
noncomputable def Xw(S:Sto):D->Option (List D)
 | .tup xs=>some xs
 | .fro xs=>some xs
 | .ref n=>Xd S n
 | _=>none
noncomputable def Yg:List D->Option (List Int)
 | []=>some []
 | .int i::r=>(Yg r).map (i :: ·)
 | _::_=>none
noncomputable def X0:List D->Option (List Bool)
 | []=>some []
 | .bl i::r=>(X0 r).map (i :: ·)
 | _::_=>none
noncomputable def ltD:D->D->Option Bool
 | .int i,.int j=>some (decide (i<j))
 | _,_=>none
noncomputable def Xj(S:Sto):D->Option Bool
 | .non=>some false
 | .bl b=>some b
 | .int i=>some (i != 0)
 | .str x=>if x.length<=big then some ((x.length:Int) != 0) else none
 | .tup xs=>some (!xs.isEmpty)
 | .fro xs=>some (!xs.isEmpty)
 | .fn _ _=>none
 | .ref n=>match S[n]? with
  | some (.lst xs)=>some (!xs.isEmpty)
  | _=>none
noncomputable def Xy(i j:Int):Bool:=(decide (-(18446744073709551616)<i)&&decide (i<18446744073709551616))||(decide (-(18446744073709551616)<j)&&decide (j<18446744073709551616))||(decide (i.natAbs.log2<100000)&&decide (j.natAbs.log2<100000))
noncomputable def Yq(j:Int):Bool:=decide (0<j)&&decide (j.natAbs.log2<9000)
noncomputable def Xm:Bo->D->D->Sto->R D
 | .add,.int i,.int j,S=>.ok (.int (i+j)) S
 | .add,.tup x,.tup y,S=>if x.length+y.length<=big then .ok (.tup (x++y)) S else .bad
 | .add,.str x,.str y,S=>if x.length+y.length<=big then .ok (.str (x++y)) S else .bad
 | .add,.ref n,.ref m,S=>match lstM S n,lstM S m with
  | some x,some y=>if x.length+y.length<=big then .ok (.ref S.length) (S++[.lst (x++y)]) else .bad
  | _,_=>.bad
 | .sub,.int i,.int j,S=>.ok (.int (i-j)) S
 | .mul,.int i,.int j,S=>if Xy i j then .ok (.int (i*j)) S else .bad
 | .mul,.tup x,.int k,S=>if k<1048576/\x.length*k.toNat<=big/\-(1048576)<k/\x.isEmpty=false then .ok (.tup (List.replicate k.toNat x).flatten) S else .bad
 | .mul,.ref n,.int k,S=>match lstM S n with
  | some x=>if k<1048576/\x.length*k.toNat<=big/\-(1048576)<k then .ok (.ref S.length) (S++[.lst (List.replicate k.toNat x).flatten]) else .bad
  | none=>.bad
 | .fdiv,.int i,.int j,S=>if Yq j then .ok (.int (i/j)) S else .bad
 | .mod,.int i,.int j,S=>if 0<j then .ok (.int (i%j)) S else .bad
 | .pow,.int i,.int j,S=>if 0<=j/\j<=1000/\i.natAbs<2^63 then .ok (.int (i^j.toNat)) S else .bad
 | _,_,_,_=>.bad
noncomputable def Xeg:Bo->D->D->Sto->R D
 | .add,.int i,.int j,S=>.ok (.int (i+j)) S
 | .sub,.int i,.int j,S=>.ok (.int (i-j)) S
 | .mul,.int i,.int j,S=>if Xy i j then .ok (.int (i*j)) S else .bad
 | _,_,_,_=>.bad
noncomputable def Yy:Co->D->D->Sto->Option Bool
 | .eq,x,y,S=>eqD S x y
 | .ne,x,y,S=>(eqD S x y).map (!·)
 | .lt,x,y,_=>ltD x y
 | .le,.int i,.int j,_=>some (decide (i<=j))
 | .gt,.int i,.int j,_=>some (decide (j<i))
 | .ge,.int i,.int j,_=>some (decide (j<=i))
 | .isin,x,y,S=>inD S x y
 | .notin,x,y,S=>(inD S x y).map (!·)
 | .is,x,.non,_=>some (match x with | .non=>true|_=>false)
 | .is,x,.bl b,_=>some (match x with | .bl c=>b==c|_=>false)
 | .isnot,x,.non,_=>some (match x with | .non=>false|_=>true)
 | .isnot,x,.bl b,_=>some (match x with | .bl c=>b != c|_=>true)
 | _,_,_,_=>none
noncomputable def ixN(n:Nat)(i:Int):Option Nat:=if 0<=i then (if i<n then some i.toNat else none) else if-(n:Int)<=i then some (i+n).toNat else none
noncomputable def Xaf(x:D)(i:D)(S:Sto):Option D :=
 match i with
 | .int k=>match x with
  | .str z=>if z.length<=big then (ixN z.length k).bind fun j=>z.cps.toList[j]?.map fun c=>.str ⟨#[c]⟩ else none
  | _=>(Xw S x).bind fun xs=>(ixN xs.length k).bind fun j=>xs[j]?
 | _=>none
noncomputable def Xi(op:Co)(x y:D)(S:Sto):R D:=match Yy op x y S with
 | some r=>.ok (.bl r) S
 | none=>.bad
noncomputable def Xag(x i:D)(S:Sto):R D:=match Xaf x i S with
 | some d=>.ok d S
 | none=>.bad
noncomputable def Y4(ifs:En->Sto->R Bool)(body:En->List D->Sto->R (List D))(env:En)(acc:List D)(S:Sto):R (List D):=(ifs env S).bind fun b S=>if b then body env acc S else .ok acc S
noncomputable def Xeh(n:Nat)(d:Nat):Option Int->Nat
 | none=>d
 | some i=>if 0<=i then min i.toNat n else (i+n).toNat
noncomputable def cut{α:Type}(xs:List α)(lo hi:Option Int):List α :=
 (xs.drop (Xeh xs.length 0 lo)).take (Xeh xs.length xs.length hi-Xeh xs.length 0 lo)
noncomputable def Xam:Option D->Option (Option Int)
 | none=>some none
 | some (.int i)=>some (some i)
 | _=>none
noncomputable def Xaa(x:D)(lo hi:Option Int)(S:Sto):R D :=
 match x with
 | .tup xs=>.ok (.tup (cut xs lo hi)) S
 | .ref n=>match Xd S n with
  | some xs=>.ok (.ref S.length) (S++[.lst (cut xs lo hi)])
  | none=>.bad
 | _=>.bad
noncomputable def Xfw(x:D)(S:Sto):R D :=
 match x with
 | .tup xs=>.ok (.tup xs.reverse) S
 | .ref n=>match Xd S n with
  | some xs=>.ok (.ref S.length) (S++[.lst xs.reverse])
  | none=>.bad
 | _=>.bad
noncomputable def alt{α:Type}:List α->List α
 | []=>[]
 | [x]=>[x]
 | x::_::r=>x::alt r
noncomputable def Xei(k:Bool)(x:D)(S:Sto):R D :=
 match x with
 | .tup xs=>.ok (.tup (alt (xs.reverse.drop (if k then 1 else 0)))) S
 | .ref n=>match Xd S n with
  | some xs=>.ok (.ref S.length) (S++[.lst (alt (xs.reverse.drop (if k then 1 else 0)))])
  | none=>.bad
 | _=>.bad
noncomputable def Xbg(f:Nat)(nm:Str):List D->Bool
 | []=>false
 | .fn g m::r=>(g==f&&decide (m=nm))||Xbg f nm r
 | _::r=>Xbg f nm r
inductive Kd where|non|bool|int|str|tuple|list|dict|exc(c:Nat)
 deriving DecidableEq
noncomputable def kdD(S:Sto):D->Option Kd
 | .non=>some .non
 | .bl _=>some .bool
 | .int _=>some .int
 | .str _=>some .str
 | .tup _=>some .tuple
 | .fro _=>some .list
 | .fn _ _=>none
 | .ref n=>match S[n]? with
  | some (.lst _)=>some .list
  | some (.dct _)=>some .dict
  | some (.exc c)=>some (.exc c)
  | _=>none
noncomputable def isT:Kd->Ty->Option Bool
 | .exc c',.cls c=>some (c==0||c==c')
 | .exc _,.valueError=>some true
 | .exc _,_=>none
 | _,.cls _=>none
 | _,.valueError=>none
 | .bool,.int=>some true
 | .int,.int=>some true
 | .bool,.bool=>some true
 | .str,.str=>some true
 | .tuple,.tuple=>some true
 | .list,.list=>some true
 | .dict,.dict=>some true
 | _,_=>some false
noncomputable def Yl(k:Kd):List Ty->Option Bool
 | []=>some false
 | t::r=>match isT k t with
  | some true=>some true
  | some false=>Yl k r
  | none=>none
noncomputable def Xtg(i:Int):Str:=Str.ofString (toString i)
noncomputable def X11:D->Option Str
 | .int i=>if i.natAbs<10^600 then some (Xtg i) else none
 | .str x=>some x
 | _=>none
mutual
noncomputable def szD:PyData->Nat
 | .none=>4
 | .bool _=>5
 | .int _=>1921
 | .str x=>(reprText x).length
 | .list xs=>szDs xs+2
 | .tuple xs=>szDs xs+3
 | .dict _=>2
noncomputable def szDs:List PyData->Nat
 | []=>0
 | x::xs=>szD x+2+szDs xs
end
mutual
noncomputable def Xb7:PyData->Bool
 | .none=>true
 | .bool _=>true
 | .int _=>true
 | .str _=>true
 | .list xs=>dctEs xs
 | .tuple xs=>dctEs xs
 | .dict kvs=>kvs.isEmpty
noncomputable def dctEs:List PyData->Bool
 | []=>true
 | x::xs=>Xb7 x&&dctEs xs
end
noncomputable def Xej(S:Sto)(x:D):Option Str:=match Yj S x with
 | some p=>if p.showable&&Xb7 p&&decide (p.depth<=60)&&decide (szD p<=big) then some p.shown else none
 | none=>none
noncomputable def Xr:Bl->List D->Sto->R D
 | .len,[x],S=>match x with
  | .str z=>if z.length<=big then .ok (.int z.length) S else .bad
  | _=>match Xw S x with
   | some xs=>.ok (.int xs.length) S
   | none=>.bad
 | .tuple,[x],S=>match Xw S x with
  | some xs=>.ok (.tup xs) S
  | none=>.bad
 | .list,[x],S=>match Xw S x with
  | some xs=>.ok (.ref S.length) (S++[.lst xs])
  | none=>.bad
 | .all,[.ref n],S=>match (Xd S n).bind X0 with
  | some bs=>.ok (.bl (bs.all id)) S
  | none=>.bad
 | .sum,[x],S=>match (Xw S x).bind Yg with
  | some ns=>.ok (.int ns.sum) S
  | none=>.bad
 | .max,[.int i,.int j],S=>.ok (.int (if j>i then j else i)) S
 | .min,[.int i,.int j],S=>.ok (.int (if j<i then j else i)) S
 | .abs,[.int i],S=>.ok (.int i.natAbs) S
 | .str,[x],S=>match X11 x with
  | some t=>.ok (.str t) S
  | none=>.bad
 | .int,[.bl b],S=>.ok (.int (i2 b)) S
 | .repr,[x],S=>match Xej S x with
  | some t=>.ok (.str t) S
  | none=>.bad
 | _,_,_=>.bad
noncomputable def Xa4:Mt->D->List D->Sto->R D
 | .append,.ref n,[x],S=>match lstM S n with
  | some xs=>if xs.length<big then .ok .non (S.set n (.lst (xs++[x]))) else .bad
  | none=>.bad
 | .extend,.ref n,[x],S=>match lstM S n,Xw S x with
  | some xs,some ys=>if xs.length+ys.length<=big then .ok .non (S.set n (.lst (xs++ys))) else .bad
  | _,_=>.bad
 | .pop,.ref n,[.int i],S=>match lstM S n with
  | some xs=>match ixN xs.length i with
   | some k=>match xs[k]? with
    | some y=>.ok y (S.set n (.lst (xs.eraseIdx k)))
    | none=>.bad
   | none=>.bad
  | none=>.bad
 | .index,.ref n,[.bl b],S=>match (Xd S n).bind X0 with
  | some bs=>match bs.findIdx? (· == b) with
   | some i=>.ok (.int i) S
   | none=>.bad
  | none=>.bad
 | .count,.ref n,[.bl b],S=>match (Xd S n).bind X0 with
  | some bs=>.ok (.int (bs.countP (· == b):Nat)) S
  | none=>.bad
 | _,_,_,_=>.bad
noncomputable def Xdn(k:Mt)(x:D)(S:Sto):Bool:=match k,x with
 | .join,.str _=>true
 | .split,.str _=>true
 | .join,_=>false
 | .split,_=>false
 | .add,_=>false
 | _,.ref n=>(Xd S n).isSome
 | _,_=>false
noncomputable def Xap(o i v:D)(S:Sto):R Unit :=
 match o,i with
 | .ref n,.int k=>match lstM S n with
  | some xs=>match ixN xs.length k with
   | some j=>.ok () (S.set n (.lst (xs.set j v)))
   | none=>.bad
  | none=>.bad
 | _,_=>.bad
inductive Src where
 | con (xs:List D)|ref (n:Nat)|zpp (a b:Src)|enm (a:Src)
noncomputable def Src.get:Src->Sto->Nat->Option (Option D)
 | .con xs,_,i=>some xs[i]?
 | .ref n,S,i=>(Xd S n).map fun xs=>xs[i]?
 | .zpp a b,S,i=>match a.get S i,b.get S i with
  | some (some x),some (some y)=>some (some (.tup [x,y]))
  | some _,some _=>some none
  | _,_=>none
 | .enm a,S,i=>match a.get S i with
  | some (some x)=>some (some (.tup [.int i,x]))
  | r=>r
noncomputable def Src.most:Src->Sto->Nat
 | .con xs,_=>xs.length
 | .ref n,S=>((Xd S n).getD []).length
 | .zpp a b,S=>min (a.most S) (b.most S)
 | .enm a,S=>a.most S
noncomputable def Xs(S:Sto):D->Option Src
 | .tup xs=>some (.con xs)
 | .ref n=>(Xd S n).map fun _=>.ref n
 | _=>none
noncomputable def Y2:List D->Option (List D)
 | [.int j]=>if-(1048576)<j/\j<1048576 then some ((List.range j.toNat).map fun(k:Nat)=>D.int (k:Int)) else none
 | [.int i,.int j]=>if-(1048576)<i/\i<1048576/\-(1048576)<j/\j<1048576 then some ((List.range (j-i).toNat).map fun(k:Nat)=>D.int (i+k)) else none
 | [.int i,.int j,.int s]=>if s = -1/\-(1048576)<i/\i<1048576/\-(1048576)<j/\j<1048576 then some ((List.range (i-j).toNat).map fun(k:Nat)=>D.int (i-k)) else none
 | _=>none
noncomputable def Xo(t:Tg)(d:D)(env:En):Option En :=
 match t with
 | .var i=>some (env.set i (some d))
 | .tup is=>match d with
  | .tup ds=>if is.length=ds.length then some ((is.zip ds).foldl (fun e p=>e.set p.1 (some p.2)) env) else none
  | _=>none
 | .nst i is=>match d with
  | .tup [d,.tup ds]=>if is.length=ds.length then some ((is.zip ds).foldl (fun e p=>e.set p.1 (some p.2)) (env.set i (some d))) else none
  | _=>none
noncomputable def slots:Tg->List Nat
 | .var i=>[i]
 | .tup is=>is
 | .nst i is=>i::is
noncomputable def Xng(t:Tg)(env:En):Bool:=(slots t).all fun i=>match env[i]? with
 | some (some _)=>false
 | _=>true
noncomputable def Yr(get:Sto->Nat->Option (Option D))(t:Tg)(body:En->List D->Sto->R (List D)):Nat->Nat->En->List D->Sto->R (List D)
 | 0,_,_,_,_=>.bad
 | k+1,i,env,acc,S=>match get S i with
  | none=>.bad
  | some none=>.ok acc S
  | some (some d)=>match Xo t d env with
   | none=>.bad
   | some env'=>match body env' acc S with
    | .ok acc' S'=>Yr get t body k (i+1) env' acc' S'
    | _=>.bad
noncomputable abbrev Fn:=Nat->List D->Sto->R D
section
variable(F:Fn)(G:List D)
mutual
noncomputable def ev:Ex->En->Sto->R D
 | .nev,_,_=>.bad
 | .var i,env,S=>match env[i]? with
  | some (some d)=>.ok d S
  | _=>.bad
 | .cst d,_,S=>.ok d S
 | .neg a,env,S=>(ev a env S).bind fun x S=>match x with
  | .int i=>.ok (.int (-i)) S
  | _=>.bad
 | .glb k,_,S=>match G[k]? with
  | some d=>.ok d S
  | none=>.bad
 | .tup es,env,S=>(evs es env S).bind fun xs S=>if xs.length<=big then .ok (.tup xs) S else .bad
 | .lst es,env,S=>(evs es env S).bind fun xs S=>if xs.length<=big then .ok (.ref S.length) (S++[.lst xs]) else .bad
 | .bin op a b,env,S=>(ev a env S).bind fun x S=>(ev b env S).bind fun y S=>Xm op x y S
 | .cmp op a b,env,S=>(ev a env S).bind fun x S=>(ev b env S).bind fun y S=>Xi op x y S
 | .chn o1 o2 a b c,env,S=>(ev a env S).bind fun x S=>(ev b env S).bind fun y S=>match Yy o1 x y S with
  | some true=>(ev c env S).bind fun z S=>Xi o2 y z S
  | some false=>.ok (.bl false) S
  | none=>.bad
 | .and a b,env,S=>(ev a env S).bind fun x S=>match Xj S x with
  | some true=>ev b env S
  | some false=>.ok x S
  | none=>.bad
 | .or a b,env,S=>(ev a env S).bind fun x S=>match Xj S x with
  | some true=>.ok x S
  | some false=>ev b env S
  | none=>.bad
 | .not a,env,S=>(ev a env S).bind fun x S=>match Xj S x with
  | some r=>.ok (.bl (!r)) S
  | none=>.bad
 | .ite c a b,env,S=>(ev c env S).bind fun x S=>match Xj S x with
  | some true=>ev a env S
  | some false=>ev b env S
  | none=>.bad
 | .idx a i,env,S=>(ev a env S).bind fun x S=>(ev i env S).bind fun y S=>Xag x y S
 | .sli a lo hi,env,S=>(ev a env S).bind fun x S=>(evo lo env S).bind fun l S=>(evo hi env S).bind fun h S=>match Xam l,Xam h with
  | some l,some h=>Xaa x l h S
  | _,_=>.bad
 | .rev a,env,S=>(ev a env S).bind fun x S=>Xfw x S
 | .call f es,env,S=>(evs es env S).bind fun xs S=>F f xs S
 | .cal e es,env,S=>(ev e env S).bind fun x S=>match x with
  | .fn f nm=>if Xbg f nm G then (evs es env S).bind fun xs S=>F f xs S else .bad
  | _=>.bad
 | .rv2 k a,env,S=>(ev a env S).bind fun x S=>Xei k x S
 | .blt k es,env,S=>(evs es env S).bind fun xs S=>Xr k xs S
 | .mth k o es,env,S=>(ev o env S).bind fun x S=>if Xdn k x S then (evs es env S).bind fun xs S=>Xa4 k x xs S else .bad
 | .isi a ts,env,S=>(ev a env S).bind fun x S=>match (kdD S x).bind fun k=>Yl k ts with
  | some r=>.ok (.bl r) S
  | none=>.bad
 | .cmr k n gs elt,env,S=>match gs with
  | .nil=>.bad
  | .cons t it ifs gs=>(evit it env S).bind fun src S =>
   (Yr (src.get) t (Y4 (fun env S=>evts ifs env S) (fun env acc S =>
     match gs with
     | .nil=>(ev elt env S).bind fun y S=>if acc.length<big then .ok (acc++[y]) S else .bad
     | .cons t2 it2 ifs2 gs2=>match gs2 with
      | .nil=>if Xng t2 env then (evit it2 env S).bind fun src2 S =>
       Yr (src2.get) t2 (Y4 (fun env S=>evts ifs2 env S) (fun env acc S =>
        (ev elt env S).bind fun y S=>if acc.length<big then .ok (acc++[y]) S else .bad)) (src2.most S+1) 0 env acc S else .bad
      | .cons ..=>.bad)) (src.most S+1) 0 (env++List.replicate n none) [] S).bind fun acc S =>
   if k then .bad else .ok (.ref S.length) (S++[.lst acc])
noncomputable def evo:Op->En->Sto->R (Option D)
 | .none,_,S=>.ok none S
 | .some e,env,S=>(ev e env S).bind fun x S=>.ok (some x) S
noncomputable def evs:Exs->En->Sto->R (List D)
 | .nil,_,S=>.ok [] S
 | .cons e es,env,S=>(ev e env S).bind fun x S=>(evs es env S).bind fun xs S=>.ok (x::xs) S
noncomputable def evts:Exs->En->Sto->R Bool
 | .nil,_,S=>.ok true S
 | .cons e es,env,S=>(ev e env S).bind fun x S=>match Xj S x with
  | some true=>evts es env S
  | some false=>.ok false S
  | none=>.bad
noncomputable def evit:It->En->Sto->R Src
 | .val e,env,S=>(ev e env S).bind fun x S=>match Xs S x with
  | some s=>.ok s S
  | none=>.bad
 | .rng es,env,S=>(evs es env S).bind fun xs S=>match Y2 xs with
  | some ds=>.ok (.con ds) S
  | none=>.bad
 | .zpp es,env,S=>(evs es env S).bind fun xs S=>match xs with
  | [x,y]=>match Xs S x,Xs S y with
   | some s,some t=>.ok (.zpp s t) S
   | _,_=>.bad
  | _=>.bad
 | .enm es,env,S=>(evs es env S).bind fun xs S=>match xs with
  | [x]=>match Xs S x with
   | some s=>.ok (.enm s) S
   | none=>.bad
  | _=>.bad
 | .ezp es,env,S=>(evs es env S).bind fun xs S=>match xs with
  | [x,y]=>match Xs S x,Xs S y with
   | some s,some t=>.ok (.enm (.zpp s t)) S
   | _,_=>.bad
  | _=>.bad
end
mutual
noncomputable def Xwz:St->Bool
 | .expr _=>true
 | .ret _=>true
 | .pass=>true
 | .ite _ a b=>nasgs a&&nasgs b
 | .rse _ _=>true
 | _=>false
noncomputable def nasgs:Sts->Bool
 | .nil=>true
 | .cons s ss=>Xwz s&&nasgs ss
end
noncomputable def X8(get:Sto->Nat->Option (Option D))(t:Tg)(body:En->Sto->R Fl):Nat->Nat->En->Sto->R Fl
 | 0,_,_,_=>.bad
 | k+1,i,env,S=>match get S i with
  | none=>.bad
  | some none=>.ok (.nx env) S
  | some (some d)=>match Xo t d env with
   | none=>.bad
   | some env'=>match body env' S with
    | .ok (.nx e) S'=>X8 get t body k (i+1) e S'
    | .ok (.cnt e) S'=>X8 get t body k (i+1) e S'
    | .ok (.brk e) S'=>.ok (.nx e) S'
    | .ok (.rt d) S'=>.ok (.rt d) S'
    | _=>.bad
mutual
noncomputable def exe:St->En->Sto->R Fl
 | .nev,_,_=>.bad
 | .asg t e,env,S=>(ev F G e env S).bind fun x S=>match Xo t x env with
  | some env=>.ok (.nx env) S
  | none=>.bad
 | .par is es,env,S=>(evs F G es env S).bind fun xs S=>if is.length=xs.length then .ok (.nx ((is.zip xs).foldl (fun e p=>e.set p.1 (some p.2)) env)) S else .bad
 | .aset o i e,env,S=>(ev F G e env S).bind fun v S=>(ev F G o env S).bind fun x S=>(ev F G i env S).bind fun y S=>(Xap x y v S).bind fun _ S=>.ok (.nx env) S
 | .aug i op e,env,S=>match env[i]? with
  | some (some x)=>(ev F G e env S).bind fun y S=>(Xeg op x y S).bind fun z S=>.ok (.nx (env.set i (some z))) S
  | _=>.bad
 | .expr e,env,S=>(ev F G e env S).bind fun _ S=>.ok (.nx env) S
 | .ret e,env,S=>(ev F G e env S).bind fun x S=>.ok (.rt x) S
 | .ite c a b,env,S=>(ev F G c env S).bind fun x S=>match Xj S x with
  | some true=>exes a env S
  | some false=>exes b env S
  | none=>.bad
 | .for t it b,env,S=>(evit F G it env S).bind fun src S=>X8 src.get t (fun env S=>exes b env S) (src.most S+1) 0 env S
 | .rse c e,env,S=>(ev F G e env S).bind fun _ S=>.ex S.length (S++[.exc c])
 | .pass,env,S=>.ok (.nx env) S
 | .brk,env,S=>.ok (.brk env) S
 | .cnt,env,S=>.ok (.cnt env) S
noncomputable def exes:Sts->En->Sto->R Fl
 | .nil,env,S=>.ok (.nx env) S
 | .cons s ss,env,S=>match exe s env S with
  | .ok (.nx e) S'=>exes ss e S'
  | r=>r
end
structure Df where
 np:Nat
 nl:Nat
 body:Sts
noncomputable def den(d:Df)(ds:List D)(S:Sto):R D :=
 if ds.length=d.np then
  match exes F G d.body (ds.map some++List.replicate (d.nl-d.np) none) S with
  | .ok (.rt v) S=>.ok v S
  | .ok (.nx _) S=>.ok .non S
  | .ok _ _=>.bad
  | .ex n S=>.ex n S
  | .bad=>.bad
 else .bad
end
noncomputable def FT(T:List Df)(G:List D):Nat->Fn
 | 0=>fun _ _ _=>.bad
 | k+1=>fun f ds S=>match T[f]? with
  | some d=>den (FT T G k) G d ds S
  | none=>.bad
end Z
end
section
namespace Z
open PySem PySem.Spec PyProof.Rows L2
def FrL(K:PySem.W.Frag)(H:Hp)(a:Addr)(vs:List V):Prop :=
 (∃ o,H a=some (.frz o (.lst vs))) \/
  ∃ (o:Obj) (its:Array Value) (n:Nat),K.lookup a=some o/\o.cls=.type "list" /\ o.dict=none/\o.data=.seq its n/\its.size<=sizeLine/\Vals vs its.toList
theorem FrL.sq{K:PySem.W.Frag}{H:Hp}{a:Addr}{vs:List V}(h:FrL K H a vs):SqL K H a vs:=by
 rcases h with⟨o,h⟩|h
 ·exact .inl (.inr ⟨o,h⟩)
 ·exact .inr h
mutual
def RD(K:PySem.W.Frag)(ρ:List Addr)(H:Hp):D->V->Prop
 | .non,v=>v=.non
 | .bl b,v=>v=.bl b
 | .int i,v=>v=.int i
 | .str x,v=>v=.str x
 | .tup xs,v=>∃ a vs,v=.ref a/\SqT K H a vs/\RDs K ρ H xs vs
 | .fro xs,v=>∃ a vs,v=.ref a/\FrL K H a vs/\RDs K ρ H xs vs
 | .ref n,v=>∃ a,v=.ref a/\ρ[n]?=some a
 | .fn _ nm,v=>∃ a,v=.ref a/\PySem.W.nsIn K mainGlobals nm=some (some (.ref a))
def RDs(K:PySem.W.Frag)(ρ:List Addr)(H:Hp):List D->List V->Prop
 | [],vs=>vs=[]
 | x::xs,vs=>∃ v r,vs=v::r/\RD K ρ H x v/\RDs K ρ H xs r
end
noncomputable def clsNames:List Str:=["FaceError","","","","","","","NoRow","NoNumber","","","","","","","",""]
noncomputable def Xbb(c:Nat):Option Str:=(clsNames[c]?).filter fun x=>!decide (x = "")
theorem Xh9{c:Nat}{x:Str}(h:Xbb c=some x):c<clsNames.length:=by
 unfold Xbb at h;cases q:clsNames[c]? with
 | none=>rw[q] at h;cases h
 | some _=>exact(List.getElem?_eq_some_iff.mp q).1
noncomputable def Xac(K:PySem.W.Frag)(c:Nat):Option Addr:=(Xbb c).bind fun nm=>match PySem.W.nsIn K mainGlobals nm with
 | some (some (.ref C))=>some C
 | _=>none
def ExcO(C a:Addr)(h:Heap):Prop:=∃ oe vs a0,h.get? a=some oe/\oe.cls=.ref C/\oe.data=.fields vs/\vs[0]?=some a0/\1<vs.size
theorem ExcO.ok{P:Program}{w:World}{H:Hp}{C a:Addr}{h:Heap}(x:ExcO C a h):ObjOk P w H h a (.ext (ExcO C a)) :=
 ⟨x,let ⟨oe,_,_,e,_⟩:=x;⟨oe,e⟩,fun h1 h2 ⟨oe,vs,a0,e,r⟩ k=>⟨oe,vs,a0,k _ e,r⟩⟩
def OR(K:PySem.W.Frag)(ρ:List Addr)(H:Hp)(a:Addr):O->Prop
 | .lst xs=>∃ vs,H a=some (.lst vs)/\RDs K ρ H xs vs
 | .dct kvs=>kvs=[]/\H a=some (.dK [])
 | .set _=>False
 | .exc c=>∃ C,Xac K c=some C/\H a=some (.ext (ExcO C a))
theorem OR.some{K:PySem.W.Frag}{ρ:List Addr}{H:Hp}{a:Addr}{o:O}(h:OR K ρ H a o):∃ u,H a=some u/\(∀ xs,u≠.tup xs)/\∀ o' u',u≠.frz o' u':=by
 cases o with
 | lst xs=>obtain⟨vs,e,_⟩:=h;exact⟨_,e,fun _ z=>(nomatch z),fun _ _ z=>(nomatch z)⟩
 | dct kvs=>obtain⟨_,e⟩:=h;exact⟨_,e,fun _ z=>(nomatch z),fun _ _ z=>(nomatch z)⟩
 | set _=>exact h.elim
 | exc c=>obtain⟨C,_,e⟩:=h;exact⟨_,e,fun _ z=>(nomatch z),fun _ _ z=>(nomatch z)⟩
structure SR(K:PySem.W.Frag)(ρ:List Addr)(S:Sto)(H:Hp):Prop where
 len:ρ.length=S.length
 nd:ρ.Nodup
 ob:∀ (n:Nat) a o,ρ[n]?=some a->S[n]?=some o->OR K ρ H a o
structure Mon(K:PySem.W.Frag)(ρ ρ':List Addr)(H H':Hp):Prop where
 pre:∀ (n:Nat) a,ρ[n]?=some a->ρ'[n]?=some a
 tup:∀ a xs,SqT K H a xs->SqT K H' a xs
 fro:∀ a xs,FrL K H a xs->FrL K H' a xs
structure Stp(K:PySem.W.Frag)(ρ ρ':List Addr)(H H':Hp):Prop extends Mon K ρ ρ' H H' where
 new:∀ a∈ρ',a∈ρ\/H a=none
 keep:∀ a o,H a=some o->a ∉ ρ->H' a=some o
section
variable{K:PySem.W.Frag}{ρ ρ' ρ'':List Addr}{H H' H'':Hp}{S S':Sto}
theorem Stp.refl:Stp K ρ ρ H H:=⟨⟨fun _ _ h=>h,fun _ _ h=>h,fun _ _ h=>h⟩,fun _ h=>.inl h,fun _ _ h _=>h⟩
theorem Stp.trans(x:Stp K ρ ρ' H H')(y:Stp K ρ' ρ'' H' H''):Stp K ρ ρ'' H H'' where
 pre:=fun n a h=>y.pre n a (x.pre n a h)
 new:=fun a h=>by
  rcases y.new a h with h|h
  ·exact x.new a h
  ·cases e:H a with
   | none=>exact .inr rfl
   | some o =>
    by_cases hm:a∈ρ
    ·exact .inl hm
    ·rw[x.keep a o e hm] at h;cases h
 keep:=fun a o h n=>y.keep a o (x.keep a o h n) fun hm=>by
  rcases x.new a hm with z|z
  ·exact n z
  ·rw[h] at z;cases z
 tup:=fun a xs h=>y.tup a xs (x.tup a xs h)
 fro:=fun a xs h=>y.fro a xs (x.fro a xs h)
mutual
theorem RD.mono'(x:Mon K ρ ρ' H H'):∀ (d:D) (v:V),RD K ρ H d v->RD K ρ' H' d v
 | .non,v,h=>by simpa only[RD] using h
 | .bl b,v,h=>by simpa only[RD] using h
 | .int i,v,h=>by simpa only[RD] using h
 | .str y,v,h=>by simpa only[RD] using h
 | .tup xs,v,h=>by
  simp only[RD] at h ⊢;obtain⟨a,vs,e,h1,h2⟩:=h;exact⟨a,vs,e,x.tup a vs h1,RDs.mono' x xs vs h2⟩
 | .fro xs,v,h=>by
  simp only[RD] at h ⊢;obtain⟨a,vs,e,h1,h2⟩:=h;exact⟨a,vs,e,x.fro a vs h1,RDs.mono' x xs vs h2⟩
 | .ref n,v,h=>by
  simp only[RD] at h ⊢;obtain⟨a,e,h⟩:=h;exact⟨a,e,x.pre n a h⟩
 | .fn f nm,v,h=>by simpa only[RD] using h
theorem RDs.mono'(x:Mon K ρ ρ' H H'):∀ (ds:List D) (vs:List V),RDs K ρ H ds vs->RDs K ρ' H' ds vs
 | [],vs,h=>by simpa only[RDs] using h
 | d::ds,vs,h=>by
  simp only[RDs] at h ⊢;obtain⟨v,r,e,h1,h2⟩:=h;exact⟨v,r,e,RD.mono' x d v h1,RDs.mono' x ds r h2⟩
end
theorem RD.mono(x:Stp K ρ ρ' H H')(d:D)(v:V)(h:RD K ρ H d v):RD K ρ' H' d v:=RD.mono' x.toMon d v h
theorem RDs.mono(x:Stp K ρ ρ' H H')(ds:List D)(vs:List V)(h:RDs K ρ H ds vs):RDs K ρ' H' ds vs:=RDs.mono' x.toMon ds vs h
theorem RDs.nil:RDs K ρ H [] []:=by simp only[RDs]
theorem RDs.cons{d:D}{v:V}{ds:List D}{vs:List V}(h:RD K ρ H d v)(t:RDs K ρ H ds vs):RDs K ρ H (d::ds) (v::vs):=by
 simp only[RDs];exact⟨v,vs,rfl,h,t⟩
theorem RDs.length:∀ {ds:List D} {vs:List V},RDs K ρ H ds vs->ds.length=vs.length
 | [],vs,h=>by simp only[RDs] at h;subst h;rfl
 | d::ds,vs,h=>by
  simp only[RDs] at h;obtain⟨v,r,rfl,_,h2⟩:=h;simp[RDs.length h2]
theorem RDs.append:∀ {ds es:List D} {vs us:List V},RDs K ρ H ds vs->RDs K ρ H es us->RDs K ρ H (ds++es) (vs++us)
 | [],es,vs,us,h,t=>by simp only[RDs] at h;subst h;exact t
 | d::ds,es,vs,us,h,t=>by
  simp only[RDs] at h;obtain⟨v,r,rfl,h1,h2⟩:=h;exact RDs.cons h1 (RDs.append h2 t)
theorem RDs.get:∀ {ds:List D} {vs:List V} {i:Nat} {d:D},RDs K ρ H ds vs->ds[i]?=some d->∃ v,vs[i]?=some v/\RD K ρ H d v
 | [],vs,i,d,h,e=>by simp at e
 | x::ds,vs,0,d,h,e=>by
  simp only[RDs] at h;obtain⟨v,r,rfl,h1,h2⟩:=h;simp at e;subst e;exact⟨v,rfl,h1⟩
 | x::ds,vs,i+1,d,h,e=>by
  simp only[RDs] at h;obtain⟨v,r,rfl,h1,h2⟩:=h;obtain⟨v',e',h'⟩:=RDs.get (i:=i) h2 (by simpa using e)
  exact⟨v',by simpa using e',h'⟩
theorem RDs.none{ds:List D}{vs:List V}{i:Nat}(h:RDs K ρ H ds vs)(e:ds[i]?=none):vs[i]?=none:=by
 have:=h.length;rw[List.getElem?_eq_none_iff] at e ⊢;omega
theorem RDs.set{d:D}{v:V}(hv:RD K ρ H d v):∀ {ds:List D} {vs:List V} (i:Nat),RDs K ρ H ds vs->RDs K ρ H (ds.set i d) (vs.set i v)
 | [],vs,i,h=>by simp only[RDs] at h;subst h;exact RDs.nil
 | x::ds,vs,0,h=>by
  simp only[RDs] at h;obtain⟨w,r,rfl,h1,h2⟩:=h;exact RDs.cons hv h2
 | x::ds,vs,i+1,h=>by
  simp only[RDs] at h;obtain⟨w,r,rfl,h1,h2⟩:=h;exact RDs.cons h1 (RDs.set hv i h2)
theorem RDs.drop:∀ {ds:List D} {vs:List V} (n:Nat),RDs K ρ H ds vs->RDs K ρ H (ds.drop n) (vs.drop n)
 | ds,vs,0,h=>h
 | [],vs,n+1,h=>by simp only[RDs] at h;subst h;exact RDs.nil
 | x::ds,vs,n+1,h=>by
  simp only[RDs] at h;obtain⟨w,r,rfl,h1,h2⟩:=h;exact RDs.drop n h2
theorem RDs.take:∀ {ds:List D} {vs:List V} (n:Nat),RDs K ρ H ds vs->RDs K ρ H (ds.take n) (vs.take n)
 | ds,vs,0,h=>RDs.nil
 | [],vs,n+1,h=>by simp only[RDs] at h;subst h;exact RDs.nil
 | x::ds,vs,n+1,h=>by
  simp only[RDs] at h;obtain⟨w,r,rfl,h1,h2⟩:=h;exact RDs.cons h1 (RDs.take n h2)
theorem RDs.reverse{ds:List D}{vs:List V}(h:RDs K ρ H ds vs):RDs K ρ H ds.reverse vs.reverse:=by
 induction ds generalizing vs with
 | nil=>simp only[RDs] at h;subst h;exact RDs.nil
 | cons d ds ih =>
  simp only[RDs] at h;obtain⟨w,r,rfl,h1,h2⟩:=h;rw[List.reverse_cons,List.reverse_cons];exact(ih h2).append (RDs.cons h1 RDs.nil)
theorem RDs.eraseIdx:∀ {ds:List D} {vs:List V} (n:Nat),RDs K ρ H ds vs->RDs K ρ H (ds.eraseIdx n) (vs.eraseIdx n)
 | [],vs,n,h=>by simp only[RDs] at h;subst h;exact RDs.nil
 | x::ds,vs,0,h=>by
  simp only[RDs] at h;obtain⟨w,r,rfl,h1,h2⟩:=h;exact h2
 | x::ds,vs,n+1,h=>by
  simp only[RDs] at h;obtain⟨w,r,rfl,h1,h2⟩:=h;exact RDs.cons h1 (RDs.eraseIdx n h2)
theorem RDs.ints:∀ (ns:List Int),RDs K ρ H (ns.map D.int) (ns.map V.int)
 | []=>RDs.nil
 | n::ns=>RDs.cons (by simp only[RD]) (RDs.ints ns)
theorem RDs.ints_of:∀ {ns:List Int} {vs:List V},RDs K ρ H (ns.map D.int) vs->vs=ns.map V.int
 | [],vs,h=>by simp only[List.map,RDs] at h;exact h
 | n::ns,vs,h=>by
  simp only[List.map,RDs] at h;obtain⟨v,r,rfl,h1,h2⟩:=h;simp only[RD] at h1;subst h1;rw[RDs.ints_of h2];rfl
theorem OR.mono'(x:Mon K ρ ρ' H H'){a:Addr}{o:O}(h:OR K ρ H a o)(e:H' a=H a):OR K ρ' H' a o:=by
 cases o with
 | lst xs=>obtain⟨vs,h1,h2⟩:=h;exact⟨vs,e.trans h1,RDs.mono' x xs vs h2⟩
 | dct kvs=>obtain⟨h1,h2⟩:=h;exact⟨h1,e.trans h2⟩
 | set _=>exact h.elim
 | exc c=>obtain⟨C,h1,h2⟩:=h;exact⟨C,h1,e.trans h2⟩
theorem OR.mono(x:Stp K ρ ρ' H H'){a:Addr}{o:O}(h:OR K ρ H a o)(e:H' a=H a):OR K ρ' H' a o:=OR.mono' x.toMon h e
theorem SR.at(r:SR K ρ S H){n:Nat}{a:Addr}(h:ρ[n]?=some a):∃ o,S[n]?=some o/\OR K ρ H a o:=by
 have hn:n<S.length:=by rw[<- r.len];exact(List.getElem?_eq_some_iff.mp h).1
 exact⟨S[n],by simp[hn],r.ob n a _ h (by simp[hn])⟩
theorem SR.adr(r:SR K ρ S H){n:Nat}{o:O}(h:S[n]?=some o):∃ a,ρ[n]?=some a/\OR K ρ H a o:=by
 have hn:n < ρ.length:=by rw[r.len];exact(List.getElem?_eq_some_iff.mp h).1
 exact⟨ρ[n],by simp[hn],r.ob n _ o (by simp[hn]) h⟩
theorem SR.mem(r:SR K ρ S H){a:Addr}(h:a∈ρ):∃ u,H a=some u/\(∀ xs,u≠.tup xs)/\∀ o' u',u≠.frz o' u':=by
 obtain⟨n,hn,e⟩:=List.mem_iff_getElem.mp h;obtain⟨o,_,q⟩:=r.at (n:=n) (a:=a) (by simp[hn,e])
 exact q.some
theorem Stp.upd{p:Addr}{o:HO}(hp:H p=none):Stp K ρ ρ H (L2.upd H p o) where
 pre:=fun _ _ h=>h
 new:=fun _ h=>.inl h
 keep:=fun a u h _=>by rw[Xf (Xn h hp)];exact h
 tup:=fun a xs h=>by
  rcases h with(h|⟨u,h⟩)|h
  ·exact .inl (.inl (by rw[Xf (Xn h hp)];exact h))
  ·exact .inl (.inr ⟨u,by rw[Xf (Xn h hp)];exact h⟩)
  ·exact .inr h
 fro:=fun a xs h=>by
  rcases h with⟨u,h⟩|h
  ·exact .inl ⟨u,by rw[Xf (Xn h hp)];exact h⟩
  ·exact .inr h
theorem SR.upd(r:SR K ρ S H){p:Addr}{o:HO}(hp:H p=none):SR K ρ S (L2.upd H p o) :=
 ⟨r.len,r.nd,fun n a ob h1 h2=>by
  have q:=r.ob n a ob h1 h2;obtain⟨u,hu,_⟩:=q.some;exact q.mono (Stp.upd hp) (Xf (Xn hu hp))⟩
theorem Stp.new1{p:Addr}{o:HO}(hp:H p=none):Stp K ρ (ρ++[p]) H (L2.upd H p o) where
 pre:=fun n a h=>by rw[List.getElem?_append_left (List.getElem?_eq_some_iff.mp h).1];exact h
 new:=fun a h=>by
  rcases List.mem_append.mp h with h|h
  ·exact .inl h
  ·rw[List.mem_singleton.mp h];exact .inr hp
 keep:=(Stp.upd (ρ:=ρ) (K:=K) hp).keep
 tup:=(Stp.upd (ρ:=ρ) (K:=K) hp).tup
 fro:=(Stp.upd (ρ:=ρ) (K:=K) hp).fro
theorem SR.new1(r:SR K ρ S H){p:Addr}{u:HO}{o:O}(hp:H p=none)(ho:OR K (ρ++[p]) (L2.upd H p u) p o):SR K (ρ++[p]) (S++[o]) (L2.upd H p u):=by
 have hpm:p ∉ ρ:=fun h=>by obtain⟨w,hw,_⟩:=r.mem h;rw[hp] at hw;cases hw
 refine⟨by simp[r.len],?_,fun n a ob h1 h2=>?_⟩
 ·rw[List.nodup_append]
  refine⟨r.nd,by simp,fun x hx y hy=>?_⟩
  rw[List.mem_singleton.mp hy];exact fun z=>hpm (z▸hx)
 ·by_cases hn:n < ρ.length
  ·rw[List.getElem?_append_left hn] at h1
   rw[List.getElem?_append_left (by rw[<- r.len];exact hn)] at h2
   have q:=r.ob n a ob h1 h2;obtain⟨w,hw,_⟩:=q.some;exact q.mono (Stp.new1 hp) (Xf (Xn hw hp))
  ·have e:n=ρ.length:=by
    have:=(List.getElem?_eq_some_iff.mp h1).1;simp at this;omega
   subst e;simp at h1;rw[r.len] at h2;simp at h2;subst h1 h2;exact ho
theorem Stp.chg{n:Nat}{a:Addr}{o:O}{u:HO}(r:SR K ρ S H)(ha:ρ[n]?=some a):Stp K ρ ρ H (L2.upd H a u):=by
 have hm:a∈ρ:=List.mem_of_getElem? ha;obtain⟨w,hw,h1,h2⟩:=r.mem hm;refine⟨⟨fun _ _ h=>h,fun b xs h=>?_,fun b xs h=>?_⟩,fun _ h=>.inl h,fun b o h hb=>?_⟩
 ·rcases h with(h|⟨v,h⟩)|h
  ·exact .inl (.inl (by rw[Xf (fun z=>by subst z;rw[hw] at h;exact h1 _ (Option.some.inj h))];exact h))
  ·exact .inl (.inr ⟨v,by rw[Xf (fun z=>by subst z;rw[hw] at h;exact h2 _ _ (Option.some.inj h))];exact h⟩)
  ·exact .inr h
 ·rcases h with⟨v,h⟩|h
  ·exact .inl ⟨v,by rw[Xf (fun z=>by subst z;rw[hw] at h;exact h2 _ _ (Option.some.inj h))];exact h⟩
  ·exact .inr h
 ·rw[Xf (fun z=>hb (by rw[z];exact hm))];exact h
theorem SR.chg{n:Nat}{a:Addr}{o:O}{u:HO}(r:SR K ρ S H)(ha:ρ[n]?=some a)(ho:OR K ρ (L2.upd H a u) a o):SR K ρ (S.set n o) (L2.upd H a u):=by
 refine⟨by simp[r.len],r.nd,fun m b ob h1 h2=>?_⟩
 have hn:n<S.length:=by rw[<- r.len];exact(List.getElem?_eq_some_iff.mp ha).1
 by_cases e:m=n
 ·subst e
  rw[ha] at h1;cases h1;rw[List.getElem?_set_self hn] at h2;cases h2;exact ho
 ·rw[List.getElem?_set_ne (Ne.symm e)] at h2
  have q:=r.ob m b ob h1 h2;refine q.mono (Stp.chg (S:=S) (o:=o) r ha) (Xf fun z=>e ?_)
  subst z;obtain⟨h3,e3⟩:=List.getElem?_eq_some_iff.mp h1;obtain⟨h4,e4⟩:=List.getElem?_eq_some_iff.mp ha;exact(List.getElem_inj r.nd).mp (e3.trans e4.symm)
end
section
variable{K:PySem.W.Frag}{ρ ρ':List Addr}{H H':Hp}{S S':Sto}
theorem Mon.own{D:Addr}{u:HO}{vs:List V}(hd:H D=some (.lst vs)):Mon K ρ ρ H (L2.upd H D u) where
 pre:=fun _ _ h=>h
 tup:=fun a xs h=>by
  rcases h with(h|⟨v,h⟩)|h
  ·exact .inl (.inl (by rw[Xf (fun z=>by subst z;rw[hd] at h;cases h)];exact h))
  ·exact .inl (.inr ⟨v,by rw[Xf (fun z=>by subst z;rw[hd] at h;cases h)];exact h⟩)
  ·exact .inr h
 fro:=fun a xs h=>by
  rcases h with⟨v,h⟩|h
  ·exact .inl ⟨v,by rw[Xf (fun z=>by subst z;rw[hd] at h;cases h)];exact h⟩
  ·exact .inr h
theorem SR.own{D:Addr}{u:HO}{vs:List V}(r:SR K ρ S H)(hd:H D=some (.lst vs))(hn:D ∉ ρ):SR K ρ S (L2.upd H D u) :=
 ⟨r.len,r.nd,fun n a ob h1 h2=>(r.ob n a ob h1 h2).mono' (Mon.own hd) (Xf fun z=>hn (by rw[<- z];exact List.mem_of_getElem? h1))⟩
theorem Stp.own{D:Addr}{u:HO}{vs:List V}{H0:Hp}{ρ0:List Addr}(x:Stp K ρ0 ρ H0 H)(h0:H0 D=none)(hd:H D=some (.lst vs)):Stp K ρ0 ρ H0 (L2.upd H D u) where
 pre:=x.pre
 tup:=fun a xs h=>(Mon.own (ρ:=ρ) hd).tup a xs (x.tup a xs h)
 fro:=fun a xs h=>(Mon.own (ρ:=ρ) hd).fro a xs (x.fro a xs h)
 new:=x.new
 keep:=fun a o h hn=>by rw[Xf (Xn h h0)];exact x.keep a o h hn
end
structure ER(K:PySem.W.Frag)(ρ:List Addr)(H:Hp)(env:En)(σ:L2.St):Prop where
 len:env.length=σ.length
 val:∀ (i:Nat) d,env[i]?=some (some d)->∃ v,σ[i]?=some (some v)/\RD K ρ H d v
theorem ER.mono{K:PySem.W.Frag}{ρ ρ':List Addr}{H H':Hp}{env:En}{σ:L2.St}(r:ER K ρ H env σ)(x:Stp K ρ ρ' H H'):ER K ρ' H' env σ :=
 ⟨r.len,fun i d e=>let ⟨v,h1,h2⟩:=r.val i d e;⟨v,h1,h2.mono x⟩⟩
theorem ER.mono'{K:PySem.W.Frag}{ρ ρ':List Addr}{H H':Hp}{env:En}{σ:L2.St}(r:ER K ρ H env σ)(x:Mon K ρ ρ' H H'):ER K ρ' H' env σ :=
 ⟨r.len,fun i d e=>let ⟨v,h1,h2⟩:=r.val i d e;⟨v,h1,RD.mono' x d v h2⟩⟩
theorem ER.set{K:PySem.W.Frag}{ρ:List Addr}{H:Hp}{env:En}{σ:L2.St}(r:ER K ρ H env σ)(i:Nat){d:D}{v:V}(h:RD K ρ H d v):ER K ρ H (env.set i (some d)) (σ.set i (some v)) :=
 ⟨by simp[r.len],fun j e h1=>by
  by_cases z:j=i
  ·subst z
   have hj:j<env.length:=by
    have:=(List.getElem?_eq_some_iff.mp h1).1
    simpa using this
   rw[List.getElem?_set_self hj] at h1;cases h1;exact⟨v,by rw[List.getElem?_set_self (by rw[<- r.len];exact hj)],h⟩
  ·rw[List.getElem?_set_ne (Ne.symm z)] at h1
   obtain⟨v',h2,h3⟩:=r.val j e h1;exact⟨v',by rw[List.getElem?_set_ne (Ne.symm z)];exact h2,h3⟩⟩
structure S0(X:Cx)(pins:List (Addr×Obj))(σ:L2.St)(H:Hp)(s:Shared)(ρ:List Addr)(S:Sto)(env:En):Prop where
 inv:Inv X pins σ H s
 sr:SR X.K ρ S H
 er:ER X.K ρ H env σ
theorem S0.step{X:Cx}{pins:List (Addr×Obj)}{σ:L2.St}{H H':Hp}{s s':Shared}{ρ ρ':List Addr}{S S':Sto}{env:En}(I:S0 X pins σ H s ρ S env)(J:Inv X pins σ H' s')(r:SR X.K ρ' S' H')(x:Stp X.K ρ ρ' H H') :
  S0 X pins σ H' s' ρ' S' env:=⟨J,r,I.er.mono x⟩
def EPd(X:Cx)(pins:List (Addr×Obj))(σ:L2.St)(ρ:List Addr)(H:Hp)(d:D)(S':Sto)(u:Value)(s':Shared):Prop :=
 ∃ v H' ρ',Inv X pins σ H' s'/\RelV v u/\RD X.K ρ' H' d v/\SR X.K ρ' S' H'/\Stp X.K ρ ρ' H H'
def Trc(ok:Addr->Prop)(H':Hp)(a:Addr)(h:Heap):Prop :=
 ∃ oe vs T oT ts,h.get? a=some oe/\oe.data=.fields vs/\vs[1]?=some (.ref T)/\ok T/\T≠a/\H' T=none/\h.get? T=some oT/\oT.data=.fields ts/\ts[3]?=some .none
theorem Trc.imp{ok ok':Addr->Prop}{H':Hp}{a:Addr}{h:Heap}(x:Trc ok H' a h)(k:∀ T,ok T->ok' T):Trc ok' H' a h:=by
 obtain⟨oe,vs,T,oT,ts,h1,h2,h3,h4,r⟩:=x;exact⟨oe,vs,T,oT,ts,h1,h2,h3,k T h4,r⟩
def Fly(X:Cx)(pins:List (Addr×Obj))(H':Hp)(a:Addr)(h:Heap):Prop :=
 (∃ oe vs,h.get? a=some oe/\oe.data=.fields vs/\vs[1]?=some .none)\/Trc (fun T=>(T∈X.ex\/X.s₀.heap.get? T=none)/\∀ p∈X.pn++pins,p.1≠T) H' a h
def XPd(X:Cx)(pins:List (Addr×Obj))(σ:L2.St)(ρ:List Addr)(H:Hp)(n:Nat)(S':Sto)(e:Value)(s':Shared):Prop :=
 ∃ H' ρ' a c,Inv X pins σ H' s'/\e=.ref a/\ρ'[n]?=some a/\S'[n]?=some (.exc c)/\SR X.K ρ' S' H'/\Stp X.K ρ ρ' H H'/\Fly X pins H' a s'.heap
def OkP(X:Cx)(pins:List (Addr×Obj))(σ:L2.St)(ρ:List Addr)(H:Hp)(r:R D)(u:Value)(s':Shared):Prop:=∃ d S',r=.ok d S'/\EPd X pins σ ρ H d S' u s'
def ExP(X:Cx)(pins:List (Addr×Obj))(σ:L2.St)(ρ:List Addr)(H:Hp){α:Type}(r:R α)(e:Value)(s':Shared):Prop:=∃ n S',r=.ex n S'/\XPd X pins σ ρ H n S' e s'
def DE(X:Cx)(e:Expr)(f:En->Sto->R D):Prop :=
 ∀ (pins:List (Addr×Obj)) (s:Shared) (σ:L2.St) (H:Hp) (ρ:List Addr) (S:Sto) (env:En),S0 X pins σ H s ρ S env->f env S≠.bad ->
  wpAny (model X.prog X.w) X.A (eval e X.env) (OkP X pins σ ρ H (f env S)) (ExP X pins σ ρ H (f env S)) s
def DT(X:Cx)(e:Expr)(f:En->Sto->R Bool):Prop :=
 ∀ (pins:List (Addr×Obj)) (s:Shared) (σ:L2.St) (H:Hp) (ρ:List Addr) (S:Sto) (env:En),S0 X pins σ H s ρ S env->f env S≠.bad ->
  wpAny (model X.prog X.w) X.A (isTrue e X.env (eval e X.env)) (fun b s'=>∃ S',f env S=.ok b S'/\∃ H' ρ',Inv X pins σ H' s'/\SR X.K ρ' S' H'/\Stp X.K ρ ρ' H H') (ExP X pins σ ρ H (f env S)) s
section
variable{X:Cx}{pins:List (Addr×Obj)}{σ:L2.St}{H:Hp}{s:Shared}{ρ:List Addr}{S S':Sto}{env:En}{e:Expr}{f:En->Sto->R D}{g:En->Sto->R Bool}{Q:Value->Shared->Prop}{E:Value->Shared->Prop}
theorem DE.ok{d:D}(h:DE X e f)(I:S0 X pins σ H s ρ S env)(r:f env S=.ok d S')(hQ:∀ u s' v H' ρ',S0 X pins σ H' s' ρ' S' env->RelV v u->RD X.K ρ' H' d v->Stp X.K ρ ρ' H H'->Q u s') :
  wpAny (model X.prog X.w) X.A (eval e X.env) Q E s:=by
 have nb:f env S≠.bad:=by rw[r];exact fun z=>nomatch z
 refine wpAny_mono (h pins s σ H ρ S env I nb) (fun u s' q=>?_) fun x s' q=>?_
 ·obtain⟨d',S1,e1,v,H',ρ',J,rv,rd,sr,st⟩:=q
  rw[r] at e1;cases e1;exact hQ u s' v H' ρ' (I.step J sr st) rv rd st
 ·obtain⟨n,S1,e1,_⟩:=q
  rw[r] at e1;cases e1
theorem DE.ex{n:Nat}(h:DE X e f)(I:S0 X pins σ H s ρ S env)(r:f env S=.ex n S')(hE:∀ x s',XPd X pins σ ρ H n S' x s'->E x s') :
  wpAny (model X.prog X.w) X.A (eval e X.env) Q E s:=by
 have nb:f env S≠.bad:=by rw[r];exact fun z=>nomatch z
 refine wpAny_mono (h pins s σ H ρ S env I nb) (fun u s' q=>?_) fun x s' q=>?_
 ·obtain⟨d',S1,e1,_⟩:=q
  rw[r] at e1;cases e1
 ·obtain⟨m,S1,e1,q⟩:=q
  rw[r] at e1;cases e1;exact hE x s' q
theorem DT.ok{Q:Bool->Shared->Prop}{b:Bool}(h:DT X e g)(I:S0 X pins σ H s ρ S env)(r:g env S=.ok b S')(hQ:∀ s' H' ρ',S0 X pins σ H' s' ρ' S' env->Stp X.K ρ ρ' H H'->Q b s') :
  wpAny (model X.prog X.w) X.A (isTrue e X.env (eval e X.env)) Q E s:=by
 have nb:g env S≠.bad:=by rw[r];exact fun z=>nomatch z
 refine wpAny_mono (h pins s σ H ρ S env I nb) (fun u s' q=>?_) fun x s' q=>?_
 ·obtain⟨S1,e1,H',ρ',J,sr,st⟩:=q
  rw[r] at e1;cases e1;exact hQ s' H' ρ' (I.step J sr st) st
 ·obtain⟨n,S1,e1,_⟩:=q
  rw[r] at e1;cases e1
theorem DT.ex{Q:Bool->Shared->Prop}{n:Nat}(h:DT X e g)(I:S0 X pins σ H s ρ S env)(r:g env S=.ex n S')(hE:∀ x s',XPd X pins σ ρ H n S' x s'->E x s') :
  wpAny (model X.prog X.w) X.A (isTrue e X.env (eval e X.env)) Q E s:=by
 have nb:g env S≠.bad:=by rw[r];exact fun z=>nomatch z
 refine wpAny_mono (h pins s σ H ρ S env I nb) (fun u s' q=>?_) fun x s' q=>?_
 ·obtain⟨S1,e1,_⟩:=q
  rw[r] at e1;cases e1
 ·obtain⟨m,S1,e1,q⟩:=q
  rw[r] at e1;cases e1;exact hE x s' q
theorem XPd.pre{ρ':List Addr}{H':Hp}{n:Nat}{x:Value}{s':Shared}(st:Stp X.K ρ ρ' H H')(h:XPd X pins σ ρ' H' n S' x s'):XPd X pins σ ρ H n S' x s':=by
 obtain⟨H2,ρ2,a,c,J,e,hn,hc,sr,st2,fl⟩:=h;exact⟨H2,ρ2,a,c,J,e,hn,hc,sr,st.trans st2,fl⟩
theorem ExP.mk{α:Type}{ρ':List Addr}{H':Hp}{n:Nat}{x:Value}{s':Shared}(st:Stp X.K ρ ρ' H H')(h:XPd X pins σ ρ' H' n S' x s'):ExP X pins σ ρ H (.ex n S':R α) x s':=⟨n,S',rfl,h.pre st⟩
theorem OkP.mk{ρ':List Addr}{H':Hp}{d:D}{v:V}{u:Value}{s':Shared}(st:Stp X.K ρ ρ' H H')(J:Inv X pins σ H' s')(rv:RelV v u)(rd:RD X.K ρ' H' d v)(sr:SR X.K ρ' S' H'):OkP X pins σ ρ H (.ok d S') u s' :=
 ⟨d,S',rfl,v,H',ρ',J,rv,rd,sr,st⟩
theorem OkP.pre{ρ':List Addr}{H':Hp}{r:R D}{u:Value}{s':Shared}(st:Stp X.K ρ ρ' H H')(h:OkP X pins σ ρ' H' r u s'):OkP X pins σ ρ H r u s':=by
 obtain⟨d,S1,e,v,H2,ρ2,J,rv,rd,sr,st2⟩:=h;exact⟨d,S1,e,v,H2,ρ2,J,rv,rd,sr,st.trans st2⟩
theorem ExP.pre{α:Type}{ρ':List Addr}{H':Hp}{r:R α}{x:Value}{s':Shared}(st:Stp X.K ρ ρ' H H')(h:ExP X pins σ ρ' H' r x s'):ExP X pins σ ρ H r x s':=by
 obtain⟨n,S1,e,q⟩:=h;exact⟨n,S1,e,q.pre st⟩
theorem DE.bind{α:Type}(h:DE X e f)(I:S0 X pins σ H s ρ S env){k:D->Sto->R α}(nb:(f env S).bind k≠.bad){r:R α}(hr:r=(f env S).bind k)
  (hQ:∀ d S1 u s' v H' ρ',r=k d S1->k d S1≠.bad->S0 X pins σ H' s' ρ' S1 env->RelV v u->RD X.K ρ' H' d v->Stp X.K ρ ρ' H H'->Q u s') (hE:∀ x s',ExP X pins σ ρ H r x s'->E x s') :
  wpAny (model X.prog X.w) X.A (eval e X.env) Q E s:=by
 cases q:f env S with
 | bad=>rw[q] at nb;exact absurd rfl nb
 | ex n S1 =>
  rw[q] at hr;exact h.ex I q fun x s' z=>hE x s' ⟨n,S1,hr,z⟩
 | ok d S1 =>
  rw[q] at hr nb;exact h.ok I q fun u s' v H' ρ' J rv rd st=>hQ d S1 u s' v H' ρ' hr nb J rv rd st
end
end Z
end
section
namespace Z
open PySem PySem.Spec PyProof.Rows L2
theorem Xia:big<=sizeLine:=by rw[sizeLine_eq];decide
theorem Yh{n:Nat}(h:n<=big):n<=sizeLine:=Nat.le_trans h Xia
noncomputable def tst(r:R D):R Bool:=r.bind fun x S=>match Xj S x with
 | some b=>.ok b S
 | none=>.bad
section
variable{X:Cx}{pins:List (Addr×Obj)}{σ:L2.St}{H:Hp}{s:Shared}{ρ:List Addr}{S S':Sto}{env:En}{e a b c:Expr}{f fa fb fc:En->Sto->R D}{Q:Value->Shared->Prop}{E:Value->Shared->Prop}{pos:Pos}
theorem opd{f:Value->Value->Sem Value}{r:R2}{x y:V}{v u:Value}{Q':VK}(ho:OpR (X.wish E) f r)(I:Inv X pins σ H s)(rx:RelV x v)(ry:RelV y u)(h:r x y H Q')
  (hQ:∀ w s' z H',Inv X pins σ H' s'->RelV z w->Q' z H'->Q w s'):wpAny (model X.prog X.w) X.A (f v u) Q E s :=
 thn (ho pins s σ H x y v u Q' (I.wish E) rx ry h) fun w s' ⟨z,H',J,rz,q⟩=>hQ w s' z H' J.unwish rz q
theorem ped{t:TE}{Q':VK}(ho:PE (X.wish E) e t)(I:Inv X pins σ H s)(h:t σ H Q')(hQ:∀ w s' z H',Inv X pins σ H' s'->RelV z w->Q' z H'->Q w s'):wpAny (model X.prog X.w) X.A (eval e X.env) Q E s :=
 thn (ho pins s σ H Q' (I.wish E) h) fun w s' ⟨z,H',J,rz,q⟩=>hQ w s' z H' J.unwish rz q
theorem Xcr{f:Value}{r:List V->Hp->VK->Prop}{xs:List V}{us:List Value}{Q':VK}(ho:Xcq (X.wish E) f r)(I:Inv X pins σ H s)(rx:Vals xs us)(h:r xs H Q')
  (hQ:∀ w s' z H',Inv X pins σ H' s'->RelV z w->Q' z H'->Q w s'):wpAny (model X.prog X.w) X.A (call f us) Q E s :=
 thn (ho pins s σ H xs us Q' (I.wish E) rx h) fun w s' ⟨z,H',J,rz,q⟩=>hQ w s' z H' J.unwish rz q
theorem mtd{id:String}{r:V->List V->Hp->VK->Prop}{x:V}{xs:List V}{v:Value}{us:List Value}{Q':VK}(ho:MtM (X.wish E) id r)(I:Inv X pins σ H s)(rx:RelV x v)(rs:Vals xs us)(h:r x xs H Q')
  (hQ:∀ w s' z H',Inv X pins σ H' s'->RelV z w->Q' z H'->Q w s'):wpAny (model X.prog X.w) X.A (call (.builtin id) (v::us)) Q E s :=
 thn (ho pins s σ H x xs v us Q' (I.wish E) rx rs h) fun w s' ⟨z,H',J,rz,q⟩=>hQ w s' z H' J.unwish rz q
theorem S0.list(I:S0 X pins σ H s ρ S env){n:Nat}{xs:List D}(h:Xd S n=some xs):∃ a vs,ρ[n]?=some a/\H a=some (.lst vs)/\RDs X.K ρ H xs vs:=by
 unfold Xd at h;cases e:S[n]? with
 | none=>rw[e] at h;cases h
 | some o =>
  rw[e] at h;cases o with
  | lst ys =>
   cases h;obtain⟨a,ha,vs,hv,hr⟩:=I.sr.adr e;exact⟨a,vs,ha,hv,hr⟩
  | set _=>cases h
  | dct _=>cases h
  | exc _=>cases h
theorem S0.seq(I:S0 X pins σ H s ρ S env){d:D}{v:V}{xs:List D}(h:Xw S d=some xs)(r:RD X.K ρ H d v):∃ a vs,v=.ref a/\(SqL X.K H a vs\/SqT X.K H a vs)/\RDs X.K ρ H xs vs:=by
 cases d with
 | tup ys =>
  simp only[Xw,Option.some.injEq] at h;subst h;simp only[RD] at r;obtain⟨a,vs,e,h1,h2⟩:=r;exact⟨a,vs,e,.inr h1,h2⟩
 | fro ys =>
  simp only[Xw,Option.some.injEq] at h;subst h;simp only[RD] at r;obtain⟨a,vs,e,h1,h2⟩:=r;exact⟨a,vs,e,.inl h1.sq,h2⟩
 | ref n =>
  simp only[RD] at r;obtain⟨a,e,h1⟩:=r;obtain⟨a',vs,h2,h3,h4⟩:=I.list (xs:=xs) (n:=n) h;rw[h1] at h2;cases h2;exact⟨a,vs,e,.inl (.of h3),h4⟩
 | non=>cases h
 | bl _=>cases h
 | int _=>cases h
 | str _=>cases h
 | fn _ _=>cases h
theorem Xaw{ds:List D}{vs:List V}(h:RDs X.K ρ H ds vs):(!vs.isEmpty) = !ds.isEmpty:=by
 have:=h.length;cases ds<;>cases vs<;>simp_all
theorem Xhr(I:S0 X pins σ H s ρ S env){d:D}{v:V}{u:Value}{k:Bool}{Q:Bool->Shared->Prop}(h:Xj S d=some k)(rd:RD X.K ρ H d v)(rv:RelV v u)(hQ:∀ s',Inv X pins σ H s'->Q k s') :
  wpAny (model X.prog X.w) X.A (truthy u) Q E s:=by
 have key:Xwr X.K v H k:=by
  cases d with
  | non=>simp only[RD] at rd;subst rd;simp only[Xj,Option.some.injEq] at h;exact h.symm
  | bl b=>simp only[RD] at rd;subst rd;simp only[Xj,Option.some.injEq] at h;exact h.symm
  | int i=>simp only[RD] at rd;subst rd;simp only[Xj,Option.some.injEq] at h;exact h.symm
  | str x =>
   simp only[RD] at rd;subst rd;simp only[Xj] at h;split at h
   ·rename_i hb
    exact⟨Yh hb,(Option.some.inj h).symm⟩
   ·cases h
  | fn _ _=>cases h
  | tup xs =>
   simp only[Xj,Option.some.injEq] at h;obtain⟨a,vs,e,h1,h2⟩:=I.seq (d:=.tup xs) rfl rd;subst e;rcases h1 with h1|h1
   ·exact .inl ⟨vs,h1,by rw[Xaw h2];exact h.symm⟩
   ·exact .inr (.inl ⟨vs,h1,by rw[Xaw h2];exact h.symm⟩)
  | fro xs =>
   simp only[Xj,Option.some.injEq] at h;obtain⟨a,vs,e,h1,h2⟩:=I.seq (d:=.fro xs) rfl rd;subst e;rcases h1 with h1|h1
   ·exact .inl ⟨vs,h1,by rw[Xaw h2];exact h.symm⟩
   ·exact .inr (.inl ⟨vs,h1,by rw[Xaw h2];exact h.symm⟩)
  | ref n =>
   simp only[Xj] at h;cases e:S[n]? with
   | none=>rw[e] at h;cases h
   | some o =>
    rw[e] at h;cases o with
    | lst ys =>
     obtain⟨a,vs,h1,h2,h3⟩:=I.list (n:=n) (xs:=ys) (by unfold Xd;rw[e])
     simp only[RD] at rd;obtain⟨a',e',h1'⟩:=rd;rw[h1] at h1';cases h1';subst e';exact .inl ⟨vs,.of h2,by rw[Xaw h3];exact(Option.some.inj h).symm⟩
    | set _=>cases h
    | dct _=>cases h
    | exc _=>cases h
 exact thn (Xws (X:=X.wish E) pins s σ H v u (fun k' H'=>k'=k/\H'=H) (I.inv.wish E) rv ⟨k,key,rfl,rfl⟩) fun b s' ⟨H',J,e1,e2⟩=>by subst e1 e2;exact hQ s' J.unwish
theorem DT.of(h:DE X e f)(he:∀ whole,isTrue e X.env whole=(do let v <- whole;standAt e.pos;holding [v] (truthy v))):DT X e (fun env S=>tst (f env S)):=by
 intro pins s σ H ρ S env I nb;dsimp only at nb ⊢;cases q:f env S with
 | bad=>rw[q] at nb;exact absurd rfl nb
 | ex n S1=>exact isTrue_plain (h.ex I q fun x s' z=>⟨n,S1,rfl,z⟩) (he _)
 | ok d S1 =>
  rw[q] at nb;cases t:Xj S1 d with
  | none=>simp[tst,t] at nb
  | some k =>
   refine isTrue_plain (h.ok I q fun u s' v H' ρ' J rv rd st=>?_) (he _)
   exact Xhr J t rd rv fun s2 J2=>⟨S1,by simp[tst,t],H',ρ',J2,J.sr,st⟩
theorem Xz3 {i:Nat} {x:Str} (hN:X.N[i]?=some x) (hv:Vis X.env.scope x) (hd:(x==("__debug__" : Str))=false) (hcd:(x==("__classdict__" : Str))=false) :
  DE X (.Name x pos) (fun env S=>match env[i]? with|some (some d)=>.ok d S|_=>.bad):=by
 intro pins s σ H ρ S env I nb;dsimp only at nb ⊢;cases q:env[i]? with
 | none=>rw[q] at nb;exact absurd rfl nb
 | some o =>
  cases o with
  | none=>rw[q] at nb;exact absurd rfl nb
  | some d =>
   obtain⟨v,h1,h2⟩:=I.er.val i d q;exact ped (Q':=fun z H'=>z=v/\H'=H) (Xwm hN hv hd hcd) I.inv ⟨v,h1,rfl,rfl⟩ fun u s' z H' J rz ⟨e1,e2⟩=>by
    subst e1 e2;exact .mk .refl J rz h2 I.sr
theorem d_int{i:Int}{j:Nat}:DE X (.Constant (.int i) j pos) (fun _ S=>.ok (.int i) S):=fun pins s σ H ρ S env I _ =>
 ped (Q':=fun z H'=>z=.int i/\H'=H) Xwn I.inv ⟨rfl,rfl⟩ fun u s' z H' J rz ⟨e1,e2⟩=>by
  subst e1 e2;exact .mk .refl J rz (by simp only[RD]) I.sr
theorem d_bl{i:Bool}{j:Nat}:DE X (.Constant (.bool i) j pos) (fun _ S=>.ok (.bl i) S):=fun pins s σ H ρ S env I _ =>
 ped (Q':=fun z H'=>z=.bl i/\H'=H) Xz0 I.inv ⟨rfl,rfl⟩ fun u s' z H' J rz ⟨e1,e2⟩=>by
  subst e1 e2;exact .mk .refl J rz (by simp only[RD]) I.sr
theorem d_non{j:Nat}:DE X (.Constant .none j pos) (fun _ S=>.ok .non S):=fun pins s σ H ρ S env I _ =>
 ped (Q':=fun z H'=>z=.non/\H'=H) Xwo I.inv ⟨rfl,rfl⟩ fun u s' z H' J rz ⟨e1,e2⟩=>by
  subst e1 e2;exact .mk .refl J rz (by simp only[RD]) I.sr
theorem d_str{i:Str}{j:Nat}:DE X (.Constant (.str i) j pos) (fun _ S=>.ok (.str i) S):=fun pins s σ H ρ S env I _ =>
 ped (Q':=fun z H'=>z=.str i/\H'=H) Xwp I.inv ⟨rfl,rfl⟩ fun u s' z H' J rz ⟨e1,e2⟩=>by
  subst e1 e2;exact .mk .refl J rz (by simp only[RD]) I.sr
def DA(X:Cx)(es:List Expr)(f:En->Sto->R (List D)):Prop :=
 ∀ (pos:Pos) (pins:List (Addr×Obj)) (s:Shared) (σ:L2.St) (H:Hp) (ρ:List Addr) (S:Sto) (env:En),S0 X pins σ H s ρ S env->f env S≠.bad ->
  wpAny (model X.prog X.w) X.A (spliced (backTo pos (starEach es X.env)))
   (fun us s'=>∃ ds S' vs H' ρ',f env S=.ok ds S'/\Inv X pins σ H' s'/\Vals vs us/\RDs X.K ρ' H' ds vs/\SR X.K ρ' S' H'/\Stp X.K ρ ρ' H H') (ExP X pins σ ρ H (f env S)) s
theorem DA.ok{es:List Expr}{g:En->Sto->R (List D)}{Q:List Value->Shared->Prop}{ds:List D}(h:DA X es g)(I:S0 X pins σ H s ρ S env)(r:g env S=.ok ds S')
  (hQ:∀ us s' vs H' ρ',S0 X pins σ H' s' ρ' S' env->Vals vs us->RDs X.K ρ' H' ds vs->Stp X.K ρ ρ' H H'->Q us s') :
  wpAny (model X.prog X.w) X.A (spliced (backTo pos (starEach es X.env))) Q E s:=by
 have nb:g env S≠.bad:=by rw[r];exact fun z=>nomatch z
 refine wpAny_mono (h pos pins s σ H ρ S env I nb) (fun u s' q=>?_) fun x s' q=>?_
 ·obtain⟨d',S1,vs,H',ρ',e1,J,rv,rd,sr,st⟩:=q
  rw[r] at e1;cases e1;exact hQ u s' vs H' ρ' (I.step J sr st) rv rd st
 ·obtain⟨n,S1,e1,_⟩:=q
  rw[r] at e1;cases e1
theorem DA.ex{es:List Expr}{g:En->Sto->R (List D)}{Q:List Value->Shared->Prop}{n:Nat}(h:DA X es g)(I:S0 X pins σ H s ρ S env)(r:g env S=.ex n S')(hE:∀ x s',XPd X pins σ ρ H n S' x s'->E x s') :
  wpAny (model X.prog X.w) X.A (spliced (backTo pos (starEach es X.env))) Q E s:=by
 have nb:g env S≠.bad:=by rw[r];exact fun z=>nomatch z
 refine wpAny_mono (h pos pins s σ H ρ S env I nb) (fun u s' q=>?_) fun x s' q=>?_
 ·obtain⟨d',S1,_,_,_,e1,_⟩:=q
  rw[r] at e1;cases e1
 ·obtain⟨m,S1,e1,q⟩:=q
  rw[r] at e1;cases e1;exact hE x s' q
theorem Xw0:DA X [] (fun _ S=>.ok [] S):=fun _ pins s σ H ρ S env I _=>Calls.spliced_nil ⟨[],S,[],H,ρ,rfl,I.inv,.nil,.nil,I.sr,.refl⟩
theorem Xth{es:List Expr}{g:En->Sto->R (List D)}(ha:DE X a fa)(hr:DA X es g)(hs:starEach (a::es) X.env=(false,eval a X.env)::starEach es X.env) :
  DA X (a::es) (fun env S=>(fa env S).bind fun x S=>(g env S).bind fun xs S=>.ok (x::xs) S):=by
 intro pos pins s σ H ρ S env I nb;dsimp only at nb ⊢;rw[hs];show wpAny _ _ (spliced ((false,eval a X.env)::backTo pos (starEach es X.env))) _ _ s;cases q:fa env S with
 | bad=>rw[q] at nb;exact absurd rfl nb
 | ex n S1=>exact Calls.spliced_cons (ha.ex I q fun x s' z=>⟨n,S1,rfl,z⟩)
 | ok d S1 =>
  rw[q] at nb;simp only[Rk0] at nb ⊢;refine Calls.spliced_cons (ha.ok I q fun u s1 v H1 ρ1 I1 rv rd st1=>?_)
  cases q2:g env S1 with
  | bad=>rw[q2] at nb;exact absurd rfl nb
  | ex n S2=>exact hr.ex I1 q2 fun x s' z=>.mk st1 z
  | ok ds S2 =>
   refine hr.ok I1 q2 fun us s2 vs H2 ρ2 I2 rvs rds st2=>?_
   exact⟨d::ds,S2,v::vs,H2,ρ2,rfl,I2.inv,.cons rv rvs,.cons (rd.mono st2) rds,I2.sr,st1.trans st2⟩
theorem Xbl{p:Addr}{xs:List D}{vs:List V}{s':Shared}(J:Inv X pins σ (upd H p (.tup vs)) s')(hp:H p=none)(sr:SR X.K ρ S H)(rd:RDs X.K ρ H xs vs):OkP X pins σ ρ H (.ok (.tup xs) S) (.ref p) s':=by
 refine .mk (v:=.ref p) (Stp.upd hp) J rfl ?_ (sr.upd hp);simp only[RD];exact⟨p,vs,rfl,.of Xz,RDs.mono (Stp.upd hp) xs vs rd⟩
theorem Xbm{p:Addr}{xs:List D}{vs:List V}{s':Shared}(J:Inv X pins σ (upd H p (.lst vs)) s')(hp:H p=none)(sr:SR X.K ρ S H)(rd:RDs X.K ρ H xs vs):OkP X pins σ ρ H (.ok (.ref S.length) (S++[.lst xs])) (.ref p) s':=by
 refine .mk (v:=.ref p) (ρ':=ρ++[p]) (Stp.new1 hp) J rfl ?_ (sr.new1 hp ⟨vs,Xz,RDs.mono (Stp.new1 hp) xs vs rd⟩);simp only[RD];exact⟨p,rfl,by rw[<- sr.len];simp⟩
theorem Xz4{es:List Expr}{x1:Nat}{g:En->Sto->R (List D)}(h:DA X es g):DE X (.Tuple es x1 pos) (fun env S=>(g env S).bind fun xs S=>if xs.length<=big then .ok (.tup xs) S else .bad):=by
 intro pins s σ H ρ S env I nb;dsimp only at nb ⊢;cases q:g env S with
 | bad=>rw[q] at nb;exact absurd rfl nb
 | ex n S1=>exact wpAny_Tuple_spliced (h.ex I q fun x s' z=>⟨n,S1,rfl,z⟩)
 | ok ds S1 =>
  rw[q] at nb;simp only[Rk0] at nb ⊢;split at nb
  ·rename_i hz
   rw[if_pos hz];refine wpAny_Tuple_spliced (h.ok I q fun us s1 vs H1 ρ1 I1 rv rd st1=>⟨by rw[<- rv.length,<- rd.length];exact Yh hz,?_⟩)
   have hf:H1 s1.heap.objs.size=none:=I1.inv.hok.fresh (Nat.le_refl _);refine OkP.pre st1 (Xbl (I1.inv.laid (t':=s1.toks) (fun b u e=>Heap.get?_push_of_some _ e) (Nat.le_refl _) ?_) hf I1.sr rd)
   exact⟨by rw[<- rd.length];exact Yh hz,us,rv,⟨_,Heap.get?_push_size _ rfl,rfl,_,rfl⟩⟩
  ·exact absurd rfl nb
theorem Xz5{es:List Expr}{g:En->Sto->R (List D)}(h:DA X es g):DE X (.List es pos) (fun env S=>(g env S).bind fun xs S=>if xs.length<=big then .ok (.ref S.length) (S++[.lst xs]) else .bad):=by
 intro pins s σ H ρ S env I nb;dsimp only at nb ⊢;cases q:g env S with
 | bad=>rw[q] at nb;exact absurd rfl nb
 | ex n S1=>exact wpAny_List_spliced (h.ex I q fun x s' z=>⟨n,S1,rfl,z⟩)
 | ok ds S1 =>
  rw[q] at nb;simp only[Rk0] at nb ⊢;split at nb
  ·rename_i hz
   rw[if_pos hz];refine wpAny_List_spliced (h.ok I q fun us s1 vs H1 ρ1 I1 rv rd st1=>⟨by rw[<- rv.length,<- rd.length];exact Yh hz,?_⟩)
   have hf:H1 s1.heap.objs.size=none:=I1.inv.hok.fresh (Nat.le_refl _);refine OkP.pre st1 (Xbm (I1.inv.laid (t':=s1.toks) (fun b u e=>Heap.get?_push_of_some _ e) (Nat.le_refl _) ?_) hf I1.sr rd)
   exact⟨by rw[<- rd.length];exact Yh hz,us,0,rv,Heap.get?_push_size _ rfl⟩
  ·exact absurd rfl nb
def Op2(X:Cx)(m:Value->Value->Sem Value)(k:D->D->Sto->R D):Prop :=
 ∀ (pins:List (Addr×Obj)) (s:Shared) (σ:L2.St) (H:Hp) (ρ:List Addr) (S:Sto) (env:En) (x y:D) (v u:V) (v' u':Value) (E:Value->Shared->Prop),S0 X pins σ H s ρ S env->k x y S≠.bad ->
  RD X.K ρ H x v->RelV v v'->RD X.K ρ H y u->RelV u u'->wpAny (model X.prog X.w) X.A (m v' u') (OkP X pins σ ρ H (k x y S)) E s
theorem two{m:Value->Value->Sem Value}{k:D->D->Sto->R D}(ho:Op2 X m k)(ha:DE X a fa)(hb:DE X b fb)(I:S0 X pins σ H s ρ S env)
  (nb:(fa env S).bind (fun x S=>(fb env S).bind fun y S=>k x y S)≠.bad) :
  wpAny (model X.prog X.w) X.A (eval a X.env) (fun v s₁=>wpAny (model X.prog X.w) X.A (eval b X.env) (fun u s₂=>wpAny (model X.prog X.w) X.A (m v u)
   (OkP X pins σ ρ H ((fa env S).bind fun x S=>(fb env S).bind fun y S=>k x y S)) (ExP X pins σ ρ H ((fa env S).bind fun x S=>(fb env S).bind fun y S=>k x y S)) s₂)
   (ExP X pins σ ρ H ((fa env S).bind fun x S=>(fb env S).bind fun y S=>k x y S)) s₁) (ExP X pins σ ρ H ((fa env S).bind fun x S=>(fb env S).bind fun y S=>k x y S)) s:=by
 cases q:fa env S with
 | bad=>rw[q] at nb;exact absurd rfl nb
 | ex n S1=>exact ha.ex I q fun x s' z=>⟨n,S1,rfl,z⟩
 | ok x S1 =>
  rw[q] at nb;simp only[Rk0] at nb ⊢;refine ha.ok I q fun v' s1 v H1 ρ1 I1 rv rd st1=>?_
  cases q2:fb env S1 with
  | bad=>rw[q2] at nb;exact absurd rfl nb
  | ex n S2=>exact hb.ex I1 q2 fun x s' z=>.mk st1 z
  | ok y S2 =>
   rw[q2] at nb;simp only[Rk0] at nb ⊢;refine hb.ok I1 q2 fun u' s2 u H2 ρ2 I2 ru rdu st2=>?_
   exact wpAny_mono (ho pins s2 σ H2 ρ2 S2 env x y v u v' u' (fun _ _=>False) I2 nb (rd.mono st2) rv rdu ru) (fun w s3 z=>z.pre (st1.trans st2)) fun _ _ z=>z.elim
noncomputable def opB:Bo->Operator
 | .add=>.Add | .sub=>.Sub | .mul=>.Mult | .fdiv=>.FloorDiv | .mod=>.Mod | .pow=>.Pow
theorem Xz6{op:Bo}(ho:Op2 X (binaryOp (opB op)) (Xm op))(ha:DE X a fa)(hb:DE X b fb):DE X (.BinOp a (opB op) b pos) (fun env S=>(fa env S).bind fun x S=>(fb env S).bind fun y S=>Xm op x y S) :=
 fun pins s σ H ρ S env I nb=>wpAny_BinOp (two ho ha hb I nb)
noncomputable def opC:Co->CmpOp
 | .eq=>.Eq | .ne=>.NotEq | .lt=>.Lt | .le=>.LtE | .gt=>.Gt | .ge=>.GtE | .isin=>.In | .notin=>.NotIn | .is=>.Is | .isnot=>.IsNot
theorem Xz7{op:Co}(ho:Op2 X (compareOp (opC op)) (Xi op))(ha:DE X a fa)(hb:DE X b fb)(hm:behindInMarks (opC op) b=false) :
  DE X (.Compare a [opC op] [b] pos) (fun env S=>(fa env S).bind fun x S=>(fb env S).bind fun y S=>Xi op x y S) :=
 fun pins s σ H ρ S env I nb=>wpAny_Compare1 (two ho ha hb I nb) hm
theorem Xbn{op:Co}{x y:D}{S:Sto}(h:Xi op x y S≠.bad):∃ r,Yy op x y S=some r/\Xi op x y S=.ok (.bl r) S:=by
 unfold Xi at h ⊢;cases e:Yy op x y S with
 | none=>rw[e] at h;exact absurd rfl h
 | some r=>exact⟨r,rfl,rfl⟩
theorem Xax{d:D}{S:Sto}{r:Bool}(h:Xj S d=some r):tst (.ok d S)=.ok r S:=by simp[tst,h]
theorem Xw1{op:Co}(ho:Op2 X (compareOp (opC op)) (Xi op))(ha:DE X a fa)(hb:DE X b fb)(hm:behindInMarks (opC op) b=false) :
  DT X (.Compare a [opC op] [b] pos) (fun env S=>tst ((fa env S).bind fun x S=>(fb env S).bind fun y S=>Xi op x y S)):=by
 intro pins s σ H ρ S env I nb;dsimp only at nb ⊢;have nb':((fa env S).bind fun x S=>(fb env S).bind fun y S=>Xi op x y S)≠.bad:=fun z=>nb (by rw[z];rfl)
 refine wpAny_isTrue_Compare1 (wpAny_mono (two ho ha hb I nb') (fun v s1 h1=>wpAny_mono h1 (fun u s2 h2=>wpAny_mono h2 (fun w s3 h3=>?_) fun x s' z=>?_) fun x s' z=>?_) fun x s' z=>?_) hm
 ·obtain⟨d,S1,e,v1,H1,ρ1,J,rv,rd,sr,st⟩:=h3
  have hb':∃ r,d=.bl r:=by
   cases q:fa env S with
   | bad=>rw[q] at e;cases e
   | ex n S1=>rw[q] at e;cases e
   | ok x S1 =>
    rw[q] at e;simp only[Rk0] at e;cases q2:fb env S1 with
    | bad=>rw[q2] at e;cases e
    | ex n S1=>rw[q2] at e;cases e
    | ok y S2 =>
     rw[q2] at e;simp only[Rk0] at e;obtain⟨r,_,e2⟩:=Xbn (op:=op) (x:=x) (y:=y) (S:=S2) (by rw[e];exact fun z=>nomatch z)
     rw[e2] at e;cases e;exact⟨r,rfl⟩
  obtain⟨r,rfl⟩:=hb';simp only[RD] at rd;subst rd;cases rv;exact wpAny_truthy_bool ⟨S1,by rw[e];rfl,H1,ρ1,J,sr,st⟩
 all_goals (obtain⟨n,S1,e,q⟩:=z;exact⟨n,S1,by rw[e];rfl,q⟩)
theorem Xsl{Xae:List Expr}(ha:DE X a fa)(hb:DE X (.BoolOp .And (b::Xae) pos) fb):DE X (.BoolOp .And (a::b::Xae) pos)
  (fun env S=>(fa env S).bind fun x S=>match Xj S x with|some true=>fb env S|some false=>.ok x S|none=>.bad):=by
 intro pins s σ H ρ S env I nb;dsimp only at nb ⊢;cases q:fa env S with
 | bad=>rw[q] at nb;exact absurd rfl nb
 | ex n S1=>exact BoolOp_and (ha.ex I q fun x s' z=>⟨n,S1,rfl,z⟩)
 | ok x S1 =>
  rw[q] at nb;simp only[Rk0] at nb ⊢;refine BoolOp_and (ha.ok I q fun u s1 v H1 ρ1 I1 rv rd st1=>?_)
  cases t:Xj S1 x with
  | none=>rw[t] at nb;exact absurd rfl nb
  | some r =>
   rw[t] at nb;refine Xhr I1 t rd rv fun s2 J2=>?_
   cases r with
   | true=>exact wpAny_mono (hb pins s2 σ H1 ρ1 S1 env ⟨J2,I1.sr,I1.er⟩ nb) (fun w s3 z=>z.pre st1) fun x s' z=>z.pre st1
   | false=>exact .mk st1 J2 rv rd I1.sr
theorem Xw2{Xae:List Expr}(ha:DE X a fa)(hb:DE X (.BoolOp .Or (b::Xae) pos) fb):DE X (.BoolOp .Or (a::b::Xae) pos)
  (fun env S=>(fa env S).bind fun x S=>match Xj S x with|some true=>.ok x S|some false=>fb env S|none=>.bad):=by
 intro pins s σ H ρ S env I nb;dsimp only at nb ⊢;cases q:fa env S with
 | bad=>rw[q] at nb;exact absurd rfl nb
 | ex n S1=>exact BoolOp_or (ha.ex I q fun x s' z=>⟨n,S1,rfl,z⟩)
 | ok x S1 =>
  rw[q] at nb;simp only[Rk0] at nb ⊢;refine BoolOp_or (ha.ok I q fun u s1 v H1 ρ1 I1 rv rd st1=>?_)
  cases t:Xj S1 x with
  | none=>rw[t] at nb;exact absurd rfl nb
  | some r =>
   rw[t] at nb;refine Xhr I1 t rd rv fun s2 J2=>?_
   cases r with
   | false=>exact wpAny_mono (hb pins s2 σ H1 ρ1 S1 env ⟨J2,I1.sr,I1.er⟩ nb) (fun w s3 z=>z.pre st1) fun x s' z=>z.pre st1
   | true=>exact .mk st1 J2 rv rd I1.sr
theorem Xsm{op:BoolOp}(h:DE X a f):DE X (.BoolOp op [a] pos) f:=fun pins s σ H ρ S env I nb=>BoolOp_one (h pins s σ H ρ S env I nb)
theorem Xz8(ha:DT X a (fun env S=>tst (fa env S)))(hv:DE X a fa):DE X (.UnaryOp .Not a pos) (fun env S=>(fa env S).bind fun x S=>match Xj S x with|some r=>.ok (.bl (!r)) S|none=>.bad):=by
 intro pins s σ H ρ S env I nb;dsimp only at nb ⊢;cases q:fa env S with
 | bad=>rw[q] at nb;exact absurd rfl nb
 | ex n S1=>exact UnaryOp_ (hv.ex I q fun x s' z=>⟨n,S1,rfl,z⟩)
 | ok x S1 =>
  rw[q] at nb;simp only[Rk0] at nb ⊢;refine UnaryOp_ (hv.ok I q fun u s1 v H1 ρ1 I1 rv rd st1=>?_)
  cases t:Xj S1 x with
  | none=>rw[t] at nb;exact absurd rfl nb
  | some r=>exact not_of (Xhr I1 t rd rv fun s2 J2=>.mk (v:=.bl (!r)) st1 J2 rfl (by simp only[RD]) I1.sr)
theorem Xw3(ha:DT X a (fun env S=>tst (fa env S))):DT X (.UnaryOp .Not a pos) (fun env S=>tst ((fa env S).bind fun x S=>match Xj S x with|some r=>.ok (.bl (!r)) S|none=>.bad)):=by
 intro pins s σ H ρ S env I nb;dsimp only at nb ⊢;cases q:fa env S with
 | bad=>rw[q] at nb;exact absurd rfl nb
 | ex n S1=>exact isTrue_not (ha.ex I (by simp only[q];rfl) fun x s' z=>⟨n,S1,rfl,z⟩)
 | ok x S1 =>
  rw[q] at nb;simp only[Rk0] at nb ⊢;cases t:Xj S1 x with
  | none=>rw[t] at nb;exact absurd rfl nb
  | some r=>exact isTrue_not (ha.ok I (by simp only[q];exact Xax t) fun s2 H2 ρ2 I2 st2=>⟨S1,rfl,H2,ρ2,I2.inv,I2.sr,st2⟩)
theorem Xz9(hc:DT X c (fun env S=>tst (fc env S)))(ha:DE X a fa)(hb:DE X b fb) :
  DE X (.IfExp c a b pos) (fun env S=>(fc env S).bind fun x S=>match Xj S x with|some true=>fa env S|some false=>fb env S|none=>.bad):=by
 intro pins s σ H ρ S env I nb;dsimp only at nb ⊢;cases q:fc env S with
 | bad=>rw[q] at nb;exact absurd rfl nb
 | ex n S1=>exact wpAny_IfExp (hc.ex I (by simp only[q];rfl) fun x s' z=>⟨n,S1,rfl,z⟩)
 | ok x S1 =>
  rw[q] at nb;simp only[Rk0] at nb ⊢;cases t:Xj S1 x with
  | none=>rw[t] at nb;exact absurd rfl nb
  | some r =>
   rw[t] at nb;refine wpAny_IfExp (hc.ok I (by simp only[q];exact Xax t) fun s2 H2 ρ2 I2 st2=>?_)
   cases r with
   | true=>exact wpAny_mono (ha pins s2 σ H2 ρ2 S1 env I2 nb) (fun w s3 z=>z.pre st2) fun x s' z=>z.pre st2
   | false=>exact wpAny_mono (hb pins s2 σ H2 ρ2 S1 env I2 nb) (fun w s3 z=>z.pre st2) fun x s' z=>z.pre st2
def DW(X:Cx)(e:Expr)(f:En->Sto->R Bool):Prop :=
 ∀ (whole:Sem Value) (pins:List (Addr×Obj)) (s:Shared) (σ:L2.St) (H:Hp) (ρ:List Addr) (S:Sto) (env:En),S0 X pins σ H s ρ S env->f env S≠.bad ->
  wpAny (model X.prog X.w) X.A (isTrue e X.env whole) (fun b s'=>∃ S',f env S=.ok b S'/\∃ H' ρ',Inv X pins σ H' s'/\SR X.K ρ' S' H'/\Stp X.K ρ ρ' H H') (ExP X pins σ ρ H (f env S)) s
theorem DW.dt{g:En->Sto->R Bool}(h:DW X e g):DT X e g:=h _
theorem Xti{g:En->Sto->R Bool}(ha:DT X a g):DW X (.BoolOp .And [a] pos) g:=by
 intro wh pins s σ H ρ S env I nb;refine isTrue_and (wpAny_mono (ha pins s σ H ρ S env I nb) (fun c s1 z=>?_) fun _ _ z=>z)
 cases c with
 | true=>exact isTrue_and_nil z
 | false=>exact z
theorem Xw4{g:En->Sto->R Bool}(ha:DT X a g):DW X (.BoolOp .Or [a] pos) g:=by
 intro wh pins s σ H ρ S env I nb;refine isTrue_or (wpAny_mono (ha pins s σ H ρ S env I nb) (fun c s1 z=>?_) fun _ _ z=>z)
 cases c with
 | false=>exact isTrue_or_nil z
 | true=>exact z
theorem Xnh{Xae:List Expr}(ha:DT X a (fun env S=>tst (fa env S)))(hb:DW X (.BoolOp .And (b::Xae) pos) (fun env S=>tst (fb env S))):DW X (.BoolOp .And (a::b::Xae) pos)
  (fun env S=>tst ((fa env S).bind fun x S=>match Xj S x with|some true=>fb env S|some false=>.ok x S|none=>.bad)):=by
 intro wh pins s σ H ρ S env I nb;dsimp only at nb ⊢;cases q:fa env S with
 | bad=>rw[q] at nb;exact absurd rfl nb
 | ex n S1=>exact isTrue_and (ha.ex I (by simp only[q];rfl) fun x s' z=>⟨n,S1,rfl,z⟩)
 | ok x S1 =>
  rw[q] at nb;simp only[Rk0] at nb ⊢;cases t:Xj S1 x with
  | none=>rw[t] at nb;exact absurd rfl nb
  | some r =>
   rw[t] at nb;refine isTrue_and (ha.ok I (by simp only[q];exact Xax t) fun s2 H2 ρ2 I2 st2=>?_)
   cases r with
   | true=>exact wpAny_mono (hb wh pins s2 σ H2 ρ2 S1 env I2 nb) (fun w s3 ⟨S3,e3,H3,ρ3,J3,sr3,st3⟩=>⟨S3,e3,H3,ρ3,J3,sr3,st2.trans st3⟩) fun x s' z=>z.pre st2
   | false=>exact⟨S1,Xax t,H2,ρ2,I2.inv,I2.sr,st2⟩
theorem Xsn{Xae:List Expr}(ha:DT X a (fun env S=>tst (fa env S)))(hb:DW X (.BoolOp .Or (b::Xae) pos) (fun env S=>tst (fb env S))):DW X (.BoolOp .Or (a::b::Xae) pos)
  (fun env S=>tst ((fa env S).bind fun x S=>match Xj S x with|some true=>.ok x S|some false=>fb env S|none=>.bad)):=by
 intro wh pins s σ H ρ S env I nb;dsimp only at nb ⊢;cases q:fa env S with
 | bad=>rw[q] at nb;exact absurd rfl nb
 | ex n S1=>exact isTrue_or (ha.ex I (by simp only[q];rfl) fun x s' z=>⟨n,S1,rfl,z⟩)
 | ok x S1 =>
  rw[q] at nb;simp only[Rk0] at nb ⊢;cases t:Xj S1 x with
  | none=>rw[t] at nb;exact absurd rfl nb
  | some r =>
   rw[t] at nb;refine isTrue_or (ha.ok I (by simp only[q];exact Xax t) fun s2 H2 ρ2 I2 st2=>?_)
   cases r with
   | false=>exact wpAny_mono (hb wh pins s2 σ H2 ρ2 S1 env I2 nb) (fun w s3 ⟨S3,e3,H3,ρ3,J3,sr3,st3⟩=>⟨S3,e3,H3,ρ3,J3,sr3,st2.trans st3⟩) fun x s' z=>z.pre st2
   | true=>exact⟨S1,Xax t,H2,ρ2,I2.inv,I2.sr,st2⟩
end
end Z
end
section
namespace Z
open PySem PySem.Spec PyProof.Rows L2 PySem.SeqAt
open AutoSeq1 (wpAny_loadPart')
theorem X12:fillsNumberSlot (.type "tuple") "mul" = pure false :=
 PySem.fillsNumberSlot_seq (r:=some (.builtin "tuple.__rmul__")) PySem.F.slot_tuple_mul.lookup (by decide+kernel) (by rw[typeLookup_type,builtinLookup_eq_fast];kernel_rfl) (by decide+kernel)
theorem X13:seqRepeat? (.type "tuple")=pure (some (.builtin "tuple.__mul__")):=by
 unfold seqRepeat?;rw[PySem.seqSlot_of (T := "tuple") (name := "__mul__") (id := "tuple.__mul__") PySem.F.slot_tuple_mul.lookup (by decide+kernel),PySem.seqSlot_of (T := "tuple") (name := "__rmul__") (id := "tuple.__rmul__") (by rw[typeLookup_type,builtinLookup_eq_fast];kernel_rfl) (by decide+kernel)]
 rfl
noncomputable abbrev Xlg(items:Array Value)(n:Nat)(dd:Option Addr)(sl:Array (Option Value)):Obj:={ cls:=.type "tuple",dict:=dd,data:=.seq items n,slots:=sl }
theorem Xni(a:Int)(t:Tok)(l:Addr)(items:Array Value)(n:Nat)(dd:Option Addr)(sl:Array (Option Value)) :
  Meets (Builtin.«int.__rmul__» ⟨[.int a t,.ref l],[]⟩) (fun _ R s=>s.heap.get? l=some (Xlg items n dd sl)/\R (.ok (.ret Value.notImplemented)) s) :=
 .of_wp fun prog w A R s ⟨hl,h⟩=>by
  obtain⟨hp,g,d,tk,os⟩:=s
  wp_walk
  exact⟨_,rfl,h⟩
section
variable(l:Addr)(items:Array Value)(n:Nat)(dd:Option Addr)(sl:Array (Option Value))(k:Int)(u:Tok)
theorem X0a :
  Meets (Builtin.«tuple.__mul__» ⟨[.ref l,.int 1 u],[]⟩) (fun _ R s=>s.heap.get? l=some (Xlg items n dd sl)/\R (.ok (.ret (.ref l))) s) :=
 .of_wp fun prog w A R s ⟨hl,h⟩=>by
  obtain⟨hp,g,d,tk,os⟩:=s;have f1:=AutoSeq1.idx_int;have f2:=AutoSeq1.sub_tuple_tuple
  wp_walk using wpAny_loadPart' hl
  exact⟨_,rfl,h⟩
theorem X0b(h0:¬ (decide (k < -2^63)||decide (k ≥ 2^63))=true)(h1:¬ (items.isEmpty||k==1)=true)(h2:(decide (k<=0)||items.isEmpty)=true) :
  Meets (Builtin.«tuple.__mul__» ⟨[.ref l,.int k u],[]⟩) (fun _ R s=>s.heap.get? l=some (Xlg items n dd sl)/\R (.ok (.ret (.ref s.heap.objs.size))) { s with heap:=s.heap.push { cls:=.type "tuple",data:=.seq #[] } }) :=
 .of_wp fun prog w A R s ⟨hl,h⟩=>by
  obtain⟨hp,g,d,tk,os⟩:=s;have f1:=AutoSeq1.idx_int;have f2:=AutoSeq1.sub_tuple_tuple
  wp_walk using wpAny_loadPart' hl
  refine wpAny_ite_false (decide_eq_false h0) ?_
  wp_walk using wpAny_loadPart' hl
  exact⟨_,rfl,h⟩
theorem X0c(h0:¬ (decide (k < -2^63)||decide (k ≥ 2^63))=true)(h1:¬ (items.isEmpty||k==1)=true)(h2:¬ (decide (k<=0)||items.isEmpty)=true)(h3:¬ (items.size:Int)*k>(2^63-1)/8)
  (h4:¬ Builtin.Tuple.tupleTooMany (items.size*k)=true) (h5:(List.foldl (fun x1 x2=>x1++x2) #[] (List.replicate k.toNat items)).size<=sizeLine) :
  Meets (Builtin.«tuple.__mul__» ⟨[.ref l,.int k u],[]⟩) (fun _ R s=>s.heap.get? l=some (Xlg items n dd sl)/\R (.ok (.ret (.ref s.heap.objs.size))) { s with heap:=s.heap.push { cls:=.type "tuple",data:=.seq (List.foldl (fun x1 x2=>x1++x2) #[] (List.replicate k.toNat items)) } }) :=
 .of_wp fun prog w A R s ⟨hl,h⟩=>by
  obtain⟨hp,g,d,tk,os⟩:=s;have f1:=AutoSeq1.idx_int;have f2:=AutoSeq1.sub_tuple_tuple
  wp_walk using wpAny_loadPart' hl
  refine wpAny_ite_false (decide_eq_false h0) ?_
  wp_walk using wpAny_loadPart' hl
  refine wpAny_ite_false (decide_eq_false h3) ?_
  wp_walk using wpAny_loadPart' hl
  exact⟨_,rfl,h⟩
end
section
variable{X:Cx}{E:Value->Shared->Prop}{s:Shared}
theorem Xg2(its:List Value):∀ (m:Nat) (acc:List Value),List.foldl (fun x1 x2=>x1++x2) acc.toArray (List.replicate m its.toArray)=(acc++(List.replicate m its).flatten).toArray
 | 0,acc=>by simp
 | m+1,acc=>by
  rw[List.replicate_succ,List.foldl_cons,List.append_toArray,Xg2 its m];simp[List.replicate_succ]
theorem Xtj{A:Around}{prog:Program}{w:World}{t:Addr}{vs:List Value}{k:Int}{u:Tok}{Q:Value->Shared->Prop}(ht:IsTup s.heap t vs.toArray)(hv:vs≠[])(hk:-(1048576)<k)(hk':k<1048576)(hz:vs.length*k.toNat<=1000000)
  (h1:k=1->Q (.ref t) s) (h2:k≠1->Q (.ref s.heap.objs.size) { s with heap:=s.heap.push { cls:=.type "tuple",data:=.seq (List.replicate k.toNat vs).flatten.toArray } }) :
  wpAny (model prog w) A (binaryOp .Mult (.ref t) (.int k u)) Q E s:=by
 obtain⟨⟨cls,dd,data,sl⟩,ho,hc,n,hd⟩:=id ht;simp only at hc hd;subst hc hd;have ez:(vs.toArray.isEmpty)=false:=by cases vs with|nil=>exact absurd rfl hv|cons _ _=>rfl
 have h0:¬ (decide (k < -2^63)||decide (k ≥ 2^63))=true:=by simp;omega
 have go:∀ {S:PySem.Spec},Meets (Builtin.«tuple.__mul__» ⟨[.ref t,.int k u],[]⟩) S->S A (wants Q E) s->wpAny (model prog w) A (binaryOp .Mult (.ref t) (.int k u)) Q E s:=fun g hS =>
  wpAny_binaryOp_repeat_ref (T := "tuple") (U := "int") (by decide) ⟨_,ho,rfl⟩ (fun s'=>typeIs_int s' k u) X12 PySem.F.fills_int_mul PySem.F.slot_int_rmul X13 PySem.F.slot_int_index.lookup
   (call_meets PySem.F.slot_int_rmul (typeIs_int s k u) PySem.F.entry_int_rmul (PySem.F.args_int_rmul_2 _ _) (Xni k u t vs.toArray n dd sl)
    ⟨ho,rfl,⟨_,ho,rfl⟩,call_meets PySem.F.slot_tuple_mul ⟨_,ho,rfl⟩ PySem.F.entry_tuple_mul (PySem.F.args_tuple_mul_2 _ _) g hS⟩)
 by_cases e1:k=1
 ·subst e1
  exact go (X0a t vs.toArray n dd sl u) ⟨ho,h1 rfl⟩
 ·have hn1:¬ (vs.toArray.isEmpty||k==1)=true:=by rw[ez];simpa using e1
  by_cases e0:k<=0
  ·refine go (X0b t vs.toArray n dd sl k u h0 hn1 (by simp[e0])) ⟨ho,?_⟩
   have:=h2 e1;have e2:k.toNat=0:=by omega
   rw[e2] at this;exact this
  ·have ef:=Xg2 vs k.toNat []
   rw[List.nil_append] at ef;have hl:(List.replicate k.toNat vs).flatten.length=k.toNat*vs.length:=Xfu vs k.toNat;have hz':vs.length*k.toNat<=sizeLine:=Nat.le_trans hz (by decide)
   have hzi:(vs.length:Int)*k<=1000000:=by
    have hkk:(k.toNat:Int)=k:=by omega
    rw[<- hkk,<- Int.natCast_mul];exact Int.ofNat_le.mpr hz
   refine go (X0c t vs.toArray n dd sl k u h0 hn1 (by rw[ez];simpa using e0) ?_ ?_ ?_) ⟨ho,?_⟩
   ·rw[List.size_toArray];omega
   ·rw[List.size_toArray]
    unfold Builtin.Tuple.tupleTooMany;have:(1000000:Int)<=(sizeLine:Int):=by decide
    intro hh;have hh:=of_decide_eq_true hh;omega
   ·rw[show(#[]:Array Value)=([]:List Value).toArray from rfl,ef,List.size_toArray,hl,Nat.mul_comm];exact hz'
   ·rw[show(#[]:Array Value)=([]:List Value).toArray from rfl,ef];exact h2 e1
end
end Z
end
section
namespace Z
open PySem PySem.Spec PyProof.Rows L2
section
variable{X:Cx}{pins:List (Addr×Obj)}{σ:L2.St}{H:Hp}{s:Shared}{ρ:List Addr}{S S':Sto}{env:En}{Q:Value->Shared->Prop}{E:Value->Shared->Prop}
mutual
theorem Xj8(I:S0 X pins σ H s ρ S env){look:Nat->Option PyData}(hl:∀ n p a,look n=some p->ρ[n]?=some a->∃ as,Reads s.heap (.ref a) p as/\∀ b∈as,b∈ρ) :
  ∀ (d:D) (v:V) (u:Value) (p:PyData),X7 look d=some p->RD X.K ρ H d v->RelV v u->∃ as,Reads s.heap u p as/\∀ b∈as,b∈ρ
 | .non,v,u,p,h,rd,rv=>by
  simp only[X7,Option.some.injEq] at h;simp only[RD] at rd;subst h rd;cases rv;exact⟨_,.none,fun _ z=>nomatch z⟩
 | .bl b,v,u,p,h,rd,rv=>by
  simp only[X7,Option.some.injEq] at h;simp only[RD] at rd;subst h rd;cases rv;exact⟨_,.bool b,fun _ z=>nomatch z⟩
 | .int i,v,u,p,h,rd,rv=>by
  simp only[X7,Option.some.injEq] at h;simp only[RD] at rd;subst h rd;obtain⟨t,rfl⟩:=rv;exact⟨_,.int i t,fun _ z=>nomatch z⟩
 | .str i,v,u,p,h,rd,rv=>by
  simp only[X7,Option.some.injEq] at h;simp only[RD] at rd;subst h rd;obtain⟨t,rfl⟩:=rv;exact⟨_,.str i t,fun _ z=>nomatch z⟩
 | .fro _,v,u,p,h,rd,rv=>by simp only[X7] at h;cases h
 | .tup xs,v,u,p,h,rd,rv=>by
  simp only[X7] at h;cases e:datFs look xs with
  | none=>rw[e] at h;cases h
  | some ps =>
   rw[e] at h;cases h;simp only[RD] at rd;obtain⟨a,vs,rfl,ht,hs⟩:=rd;cases rv;obtain⟨its,r,⟨o,ho,hc,n,hd⟩,hz⟩:=I.inv.tuple ht;obtain⟨as,q,qm⟩:=reads_Fs I hl xs vs its ps e hs r;exact⟨_,.tuple ho hc hd (by simpa using q),qm⟩
 | .ref n,v,u,p,h,rd,rv=>by
  simp only[X7] at h;simp only[RD] at rd;obtain⟨a,rfl,ha⟩:=rd;cases rv;exact hl n p a h ha
theorem reads_Fs(I:S0 X pins σ H s ρ S env){look:Nat->Option PyData}(hl:∀ n p a,look n=some p->ρ[n]?=some a->∃ as,Reads s.heap (.ref a) p as/\∀ b∈as,b∈ρ) :
  ∀ (ds:List D) (vs:List V) (us:List Value) (ps:List PyData),datFs look ds=some ps->RDs X.K ρ H ds vs->Vals vs us->∃ as,ReadsAll s.heap us ps as/\∀ b∈as,b∈ρ
 | [],vs,us,ps,h,rd,rv=>by
  simp only[datFs,Option.some.injEq] at h;simp only[RDs] at rd;subst h rd;cases rv;exact⟨_,.nil,fun _ z=>nomatch z⟩
 | d::ds,vs,us,ps,h,rd,rv=>by
  simp only[datFs] at h;simp only[RDs] at rd;obtain⟨v,r,rfl,h1,h2⟩:=rd;cases e1:X7 look d with
  | none=>rw[e1] at h;cases h
  | some p =>
   cases e2:datFs look ds with
   | none=>rw[e1,e2] at h;cases h
   | some ps' =>
    rw[e1,e2] at h;cases h;cases rv with
    | cons ru rus =>
     obtain⟨as,q,qm⟩:=Xj8 I hl d v _ p e1 h1 ru;obtain⟨bs,q2,qm2⟩:=reads_Fs I hl ds r _ ps' e2 h2 rus;exact⟨_,.cons q q2,fun b hb=>(List.mem_append.mp hb).elim (qm b) (qm2 b)⟩
end
theorem Xj9(I:S0 X pins σ H s ρ S env):∀ (k n:Nat) (p:PyData) (a:Addr),Y1 S k n=some p->ρ[n]?=some a->∃ as,Reads s.heap (.ref a) p as/\∀ b∈as,b∈ρ
 | 0,n,p,a,h,ha=>by simp only[Y1] at h;cases h
 | k+1,n,p,a,h,ha=>by
  simp only[Y1] at h;cases e:S[n]? with
  | none=>rw[e] at h;cases h
  | some o =>
   rw[e] at h;have q:=I.sr.ob n a o ha e;cases o with
   | lst xs =>
    dsimp only at h;cases e2:datFs (Y1 S k) xs with
    | none=>rw[e2] at h;cases h
    | some ps =>
     rw[e2] at h;cases h;obtain⟨vs,hv,hr⟩:=q;obtain⟨_,its,n',r,ho⟩:=I.inv.hok a _ hv;obtain⟨as,z,zm⟩:=reads_Fs I (Xj9 I k) xs vs its ps e2 hr r;exact⟨_,.list ho rfl rfl (by simpa using z),fun b hb=>(List.mem_cons.mp hb).elim (fun q=>q▸List.mem_of_getElem? ha) (zm b)⟩
   | dct kvs =>
    obtain⟨rfl,hv⟩:=q;cases h;obtain⟨_,_,vs,r,ob,es,ep,ho,hx,hd,hh⟩:=I.inv.hok a _ hv;cases r;have hes:es.toList=[]:=by
     have z:=hh.2.1;cases q:es.toList with
     | nil=>rfl
     | cons x r=>rw[q] at z;cases z
    refine⟨_,.dict (kvs:=[]) (as:=[]) (bs:=[]) ho hx.1 hd ?_ ?_,fun b hb=>(List.mem_cons.mp hb).elim (fun q=>q▸List.mem_of_getElem? ha) (fun z=>nomatch z)⟩
    ·rw[hes];exact .nil
    ·rw[hes];exact .nil
   | set _=>cases h
   | exc _=>cases h
theorem Xib(I:S0 X pins σ H s ρ S env){d:D}{v:V}{u:Value}{p:PyData}(h:Yj S d=some p)(rd:RD X.K ρ H d v)(rv:RelV v u):∃ as,Reads s.heap u p as/\∀ b∈as,b∈ρ :=
 Xj8 I (Xj9 I 4) d v u p h rd rv
theorem Y6(I:S0 X pins σ H s ρ S env){d:D}{v:V}{u:Value}{p:PyData}(h:Yj S d=some p)(rd:RD X.K ρ H d v)(rv:RelV v u):∃ as,Reads s.heap u p as :=
 let ⟨as,r,_⟩:=Xib I h rd rv
 ⟨as,r⟩
theorem Xnj(I:S0 X pins σ H s ρ S env)(hsm:∃ o,X.K.lookup sysModules=some o){d:D}{v:V}{u:Value}{p:PyData}(h:Yj S d=some p)(rd:RD X.K ρ H d v)(rv:RelV v u):∃ as,Reads s.heap u p as/\sysModules ∉ as:=by
 obtain⟨as,r,hm⟩:=Xib I h rd rv;refine⟨as,r,fun hb=>?_⟩
 obtain⟨o,ho⟩:=hsm;obtain⟨w,hw,_⟩:=I.sr.mem (hm _ hb);have:=(I.inv.bs _ _ (I.inv.mod.kin _ _ ho)).2;rw[hw] at this;cases this
theorem Xg{r:Bool}{s':Shared}(sr:SR X.K ρ S H)(J:Inv X pins σ H s'):OkP X pins σ ρ H (.ok (.bl r) S) (.bool r) s':=.mk (v:=.bl r) .refl J rfl (by simp only[RD]) sr
theorem Ys{i:Int}{t:Tok}{s':Shared}(sr:SR X.K ρ S H)(J:Inv X pins σ H s'):OkP X pins σ ρ H (.ok (.int i) S) (.int i t) s':=.mk (v:=.int i) .refl J ⟨t,rfl⟩ (by simp only[RD]) sr
theorem Xdo{x:Str}{t:Tok}{s':Shared}(sr:SR X.K ρ S H)(J:Inv X pins σ H s'):OkP X pins σ ρ H (.ok (.str x) S) (.str x t) s':=.mk (v:=.str x) .refl J ⟨t,rfl⟩ (by simp only[RD]) sr
theorem Xpq{a b c:Bool}(h:(a&&b&&c)=true):a=true/\b=true/\c=true:=by
 rw[bA0,bA0] at h;exact⟨h.1.1,h.1.2,h.2⟩
theorem Xg3{x y:D}{r:Bool}(h:Xb6 x y=some r):∃ a b,x=.str a/\y=.str b/\r=(a.cps.toList==b.cps.toList):=by
 cases x with
 | str a=>cases y with
  | str b=>exact⟨a,b,rfl,rfl,(Option.some.inj h).symm⟩
  | _=>cases h
 | _=>cases h
theorem Xnk{x y:D}{r:Bool}(h:Xfv S x y=some r):∃ a b xs ys,x=.ref a/\y=.ref b/\Xd S a=some xs/\Xd S b=some ys/\xs.length≠ys.length/\r=false:=by
 cases x with
 | ref a=>cases y with
  | ref b =>
   simp only[Xfv] at h;cases e1:Xd S a with
   | none=>rw[e1] at h;cases h
   | some xs =>
    cases e2:Xd S b with
    | none=>rw[e1,e2] at h;cases h
    | some ys =>
     rw[e1,e2] at h;dsimp only at h;split at h
     ·cases h
     ·cases h;exact⟨a,b,xs,ys,rfl,rfl,e1,e2,by assumption,rfl⟩
  | _=>cases h
 | _=>cases h
theorem Xic{x y:D}{r:Bool}(h0:eqD S x y=some r)(hn:Xb6 x y=none):(∃ p q,Yj S x=some p/\Yj S y=some q/\p.canLay0=true/\q.canLay0=true/\p.depth<=60/\r=PyData.eqv p q)\/Xfv S x y=some r:=by
 have h:=h0;unfold eqD at h;rw[hn] at h;dsimp only at h;cases e1:Yj S x with
 | none=>rw[e1] at h;exact .inr h
 | some p =>
  cases e2:Yj S y with
  | none=>rw[e1,e2] at h;exact .inr h
  | some q =>
   rw[e1,e2] at h;dsimp only at h;split at h
   ·rename_i hc
    obtain⟨h1,h2,h3⟩:=Xpq hc;exact .inl ⟨p,q,rfl,rfl,h1,h2,of_decide_eq_true h3,(Option.some.inj h).symm⟩
   ·exact .inr h
theorem S0.lstM(I:S0 X pins σ H s ρ S env){n:Nat}{xs:List D}(h:lstM S n=some xs):∃ a vs,ρ[n]?=some a/\H a=some (.lst vs)/\RDs X.K ρ H xs vs:=I.list h
theorem S0.lstR(I:S0 X pins σ H s ρ S env){n:Nat}{xs:List D}{v:V}(h:Z.lstM S n=some xs)(r:RD X.K ρ H (.ref n) v):∃ a vs,v=.ref a/\ρ[n]?=some a/\H a=some (.lst vs)/\RDs X.K ρ H xs vs:=by
 simp only[RD] at r;obtain⟨a,e,h1⟩:=r;obtain⟨a',vs,h2,h3,h4⟩:=I.lstM h;rw[h1] at h2;cases h2;exact⟨a,vs,e,h1,h3,h4⟩
theorem Xid(I:S0 X pins σ H s ρ S env){x y:D}{v v':V}{u u':Value}{r:Bool}(h:Xfv S x y=some r)(rx:RD X.K ρ H x v)(rv:RelV v u)(ry:RD X.K ρ H y v')(ru:RelV v' u') :
  r=false/\∃ a b its its',u=.ref a/\u'=.ref b/\s.heap.IsList a its/\s.heap.IsList b its'/\(its.size != its'.size)=true:=by
 obtain⟨n,m,xs,ys,rfl,rfl,h1,h2,hne,rfl⟩:=Xnk h;obtain⟨a,vs,rfl,ha,hva,ra⟩:=I.lstR h1 rx;obtain⟨b,us,rfl,hb,hvb,rb⟩:=I.lstR h2 ry;cases rv;cases ru;obtain⟨_,i1,n1,q1,o1⟩:=I.inv.hok a _ hva;obtain⟨_,i2,n2,q2,o2⟩:=I.inv.hok b _ hvb;refine⟨rfl,a,b,i1.toArray,i2.toArray,rfl,rfl,⟨_,o1,rfl,_,rfl⟩,⟨_,o2,rfl,_,rfl⟩,?_⟩;have e1:i1.length=xs.length:=by rw[ra.length];exact q1.length.symm
 have e2:i2.length=ys.length:=by rw[rb.length];exact q2.length.symm
 simp only[List.size_toArray,bne_iff_ne,ne_eq];omega
theorem X14(hu:X.A.units+200<cLine):Op2 X (compareOp .Eq) (Xi .eq):=by
 intro pins s σ H ρ S env x y v u v' u' E I nb rx rv ry ru;obtain⟨r,e,e2⟩:=Xbn nb;rw[e2];cases hn:Xb6 x y with
 | some r' =>
  obtain⟨a,b,rfl,rfl,hr⟩:=Xg3 hn;have er:r=r':=by
   have e':eqD S (.str a) (.str b)=some r:=e;unfold eqD at e';rw[hn] at e';exact(Option.some.inj e').symm
  subst er hr;simp only[RD] at rx ry;subst rx ry;obtain⟨t,rfl⟩:=rv;obtain⟨t',rfl⟩:=ru;exact PySem.P.eq_str (Xg I.sr I.inv)
 | none =>
 rcases Xic e hn with⟨p,q,h1,h2,h3,h4,h5,rfl⟩|hl
 rotate_left
 ·obtain⟨rfl,a,b,i1,i2,rfl,rfl,l1,l2,l3⟩:=Xid I hl rx rv ry ru
  exact SeqAt.RcAt.lists_lengths l1 l2 l3 (by omega) X.prog X.w E _ (Xg I.sr I.inv)
 obtain⟨as,ra⟩:=Y6 I h1 rx rv;obtain⟨bs,rb⟩:=Y6 I h2 ry ru;exact SeqAt.rcAt_reads ra rb h3 h4 (by omega) X.prog X.w E _ (Xg I.sr I.inv)
theorem X15(hu:X.A.units+200<cLine):Op2 X (compareOp .NotEq) (Xi .ne):=by
 intro pins s σ H ρ S env x y v u v' u' E I nb rx rv ry ru;obtain⟨r,e,e2⟩:=Xbn nb;rw[e2];simp only[Yy,Option.map_eq_some_iff] at e;obtain⟨r',e,rfl⟩:=e;cases hn:Xb6 x y with
 | some r2 =>
  obtain⟨a,b,rfl,rfl,hr⟩:=Xg3 hn;have er:r'=r2:=by
   have e':eqD S (.str a) (.str b)=some r':=e;unfold eqD at e';rw[hn] at e';exact(Option.some.inj e').symm
  subst er hr;simp only[RD] at rx ry;subst rx ry;obtain⟨t,rfl⟩:=rv;obtain⟨t',rfl⟩:=ru;exact PySem.P.ne_str (Xg I.sr I.inv)
 | none =>
 rcases Xic e hn with⟨p,q,h1,h2,h3,h4,h5,rfl⟩|hl
 rotate_left
 ·obtain⟨rfl,a,b,i1,i2,rfl,rfl,l1,l2,l3⟩:=Xid I hl rx rv ry ru
  exact SeqAt.RcNeAt.lists_lengths l1 l2 l3 (by omega) X.prog X.w E _ (Xg I.sr I.inv)
 obtain⟨as,ra⟩:=Y6 I h1 rx rv;obtain⟨bs,rb⟩:=Y6 I h2 ry ru;exact SeqAt.rcNeAt_reads ra rb h3 h4 (by omega) X.prog X.w E _ (Xg I.sr I.inv)
theorem Xie{x y:D}{r:Bool}(h:inD S x y=some r):∃ p qs,Yj S x=some p/\(Yj S y=some (.list qs)\/Yj S y=some (.tuple qs))/\p.canLay0=true/\PyData.canLayAll0 qs=true/\p.depth<=60/\r=qs.any fun q=>PyData.eqv q p:=by
 unfold inD at h;cases e1:Yj S x with
 | none=>rw[e1] at h;cases h
 | some p =>
  cases e2:Yj S y with
  | none=>rw[e1,e2] at h;cases h
  | some q =>
   rw[e1,e2] at h;cases q with
   | list qs =>
    dsimp only at h;split at h
    ·rename_i hc
     obtain⟨h1,h2,h3⟩:=Xpq hc;exact⟨p,qs,rfl,.inl rfl,h1,h2,of_decide_eq_true h3,(Option.some.inj h).symm⟩
    ·cases h
   | tuple qs =>
    dsimp only at h;split at h
    ·rename_i hc
     obtain⟨h1,h2,h3⟩:=Xpq hc;exact⟨p,qs,rfl,.inr rfl,h1,h2,of_decide_eq_true h3,(Option.some.inj h).symm⟩
    ·cases h
   | none=>cases h
   | bool _=>cases h
   | int _=>cases h
   | str _=>cases h
   | dict _=>cases h
theorem X16(hu:X.A.units+200<cLine):Op2 X (compareOp .In) (Xi .isin):=by
 intro pins s σ H ρ S env x y v u v' u' E I nb rx rv ry ru;obtain⟨r,e,e2⟩:=Xbn nb;rw[e2];obtain⟨p,qs,h1,h2,h3,h4,h5,rfl⟩:=Xie e;obtain⟨as,ra⟩:=Y6 I h1 rx rv;rcases h2 with h2|h2
 ·obtain⟨bs,rb⟩:=Y6 I h2 ry ru
  exact SeqAt.in_list_reads rb ra h4 h3 (by omega) (Xg I.sr I.inv)
 ·obtain⟨bs,rb⟩:=Y6 I h2 ry ru
  exact SeqAt.in_tuple_reads rb ra h4 h3 (by omega) (Xg I.sr I.inv)
theorem Xtk(hu:X.A.units+200<cLine):Op2 X (compareOp .NotIn) (Xi .notin):=by
 intro pins s σ H ρ S env x y v u v' u' E I nb rx rv ry ru;obtain⟨r,e,e2⟩:=Xbn nb;rw[e2];simp only[Yy,Option.map_eq_some_iff] at e;obtain⟨r',e,rfl⟩:=e;obtain⟨p,qs,h1,h2,h3,h4,h5,rfl⟩:=Xie e;obtain⟨as,ra⟩:=Y6 I h1 rx rv;rcases h2 with h2|h2
 ·obtain⟨bs,rb⟩:=Y6 I h2 ry ru
  exact SeqAt.notIn_list_reads rb ra h4 h3 (by omega) (Xg I.sr I.inv)
 ·obtain⟨bs,rb⟩:=Y6 I h2 ry ru
  exact SeqAt.notIn_tuple_reads rb ra h4 h3 (by omega) (Xg I.sr I.inv)
theorem X17:Op2 X (compareOp .LtE) (Xi .le):=by
 intro pins s σ H ρ S env x y v u v' u' E I nb rx rv ry ru;cases x with
 | int i=>cases y with
  | int j =>
   simp only[RD] at rx ry;subst rx ry;obtain⟨t,rfl⟩:=rv;obtain⟨t',rfl⟩:=ru;exact le_int (Xg I.sr I.inv)
  | _=>exact absurd rfl nb
 | _=>cases y<;>exact absurd rfl nb
theorem X18:Op2 X (compareOp .Gt) (Xi .gt):=by
 intro pins s σ H ρ S env x y v u v' u' E I nb rx rv ry ru;cases x with
 | int i=>cases y with
  | int j =>
   simp only[RD] at rx ry;subst rx ry;obtain⟨t,rfl⟩:=rv;obtain⟨t',rfl⟩:=ru;exact gt_int (Xg I.sr I.inv)
  | _=>exact absurd rfl nb
 | _=>cases y<;>exact absurd rfl nb
theorem X19:Op2 X (compareOp .GtE) (Xi .ge):=by
 intro pins s σ H ρ S env x y v u v' u' E I nb rx rv ry ru;cases x with
 | int i=>cases y with
  | int j =>
   simp only[RD] at rx ry;subst rx ry;obtain⟨t,rfl⟩:=rv;obtain⟨t',rfl⟩:=ru;exact ge_int (Xg I.sr I.inv)
  | _=>exact absurd rfl nb
 | _=>cases y<;>exact absurd rfl nb
theorem Xc7:∀ {xs:List D} {ns:List Int},Yg xs=some ns->xs=ns.map D.int
 | [],ns,h=>by simp only[Yg,Option.some.injEq] at h;subst h;rfl
 | .int i::r,ns,h=>by
  simp only[Yg,Option.map_eq_some_iff] at h;obtain⟨ms,h1,rfl⟩:=h;rw[Xc7 h1];rfl
 | .non::_,_,h=>by simp[Yg] at h
 | .bl _::_,_,h=>by simp[Yg] at h
 | .str _::_,_,h=>by simp[Yg] at h
 | .tup _::_,_,h=>by simp[Yg] at h
 | .ref _::_,_,h=>by simp[Yg] at h
 | .fro _::_,_,h=>by simp[Yg] at h
theorem X2a(hu:X.A.units+200<cLine):Op2 X (compareOp .Lt) (Xi .lt):=by
 intro pins s σ H ρ S env x y v u v' u' E I nb rx rv ry ru;cases x with
 | int i=>cases y with
  | int j =>
   simp only[RD] at rx ry;subst rx ry;obtain⟨t,rfl⟩:=rv;obtain⟨t',rfl⟩:=ru;exact lt_int (Xg I.sr I.inv)
  | _=>exact absurd rfl nb
 | _=>cases y<;>exact absurd rfl nb
theorem X2b:Op2 X (compareOp .Is) (Xi .is):=by
 intro pins s σ H ρ S env x y v u v' u' E I nb rx rv ry ru;cases y with
 | non =>
  simp only[RD] at ry;subst ry;cases ru;cases x with
  | non=>simp only[RD] at rx;subst rx;cases rv;exact wpAny_is_plain rfl (Xg I.sr I.inv)
  | bl b=>simp only[RD] at rx;subst rx;cases rv;exact wpAny_is_plain rfl (Xg I.sr I.inv)
  | int b=>simp only[RD] at rx;subst rx;obtain⟨t,rfl⟩:=rv;exact wpAny_is_plain rfl (Xg I.sr I.inv)
  | str b=>simp only[RD] at rx;subst rx;obtain⟨t,rfl⟩:=rv;exact wpAny_is_plain rfl (Xg I.sr I.inv)
  | tup b=>simp only[RD] at rx;obtain⟨a,_,rfl,_⟩:=rx;cases rv;exact wpAny_is_plain rfl (Xg I.sr I.inv)
  | fro b=>simp only[RD] at rx;obtain⟨a,_,rfl,_⟩:=rx;cases rv;exact wpAny_is_plain rfl (Xg I.sr I.inv)
  | ref b=>simp only[RD] at rx;obtain⟨a,rfl,_⟩:=rx;cases rv;exact wpAny_is_plain rfl (Xg I.sr I.inv)
  | fn _ _=>simp only[RD] at rx;obtain⟨a,rfl,_⟩:=rx;cases rv;exact wpAny_is_plain rfl (Xg I.sr I.inv)
 | bl c =>
  simp only[RD] at ry;subst ry;cases ru;cases x with
  | non=>simp only[RD] at rx;subst rx;cases rv;exact wpAny_is_plain rfl (Xg I.sr I.inv)
  | bl b =>
   simp only[RD] at rx;subst rx;cases rv;refine is_bool ?_;have e:(b==c)=(c==b):=by cases b<;>cases c<;>rfl
   rw[e];exact Xg I.sr I.inv
  | int b=>simp only[RD] at rx;subst rx;obtain⟨t,rfl⟩:=rv;exact wpAny_is_plain rfl (Xg I.sr I.inv)
  | str b=>simp only[RD] at rx;subst rx;obtain⟨t,rfl⟩:=rv;exact wpAny_is_plain rfl (Xg I.sr I.inv)
  | tup b=>simp only[RD] at rx;obtain⟨a,_,rfl,_⟩:=rx;cases rv;exact wpAny_is_plain rfl (Xg I.sr I.inv)
  | fro b=>simp only[RD] at rx;obtain⟨a,_,rfl,_⟩:=rx;cases rv;exact wpAny_is_plain rfl (Xg I.sr I.inv)
  | ref b=>simp only[RD] at rx;obtain⟨a,rfl,_⟩:=rx;cases rv;exact wpAny_is_plain rfl (Xg I.sr I.inv)
  | fn _ _=>simp only[RD] at rx;obtain⟨a,rfl,_⟩:=rx;cases rv;exact wpAny_is_plain rfl (Xg I.sr I.inv)
 | _=>cases x<;>exact absurd rfl nb
theorem Xtl:Op2 X (compareOp .IsNot) (Xi .isnot):=by
 intro pins s σ H ρ S env x y v u v' u' E I nb rx rv ry ru;cases y with
 | non =>
  simp only[RD] at ry;subst ry;cases ru;cases x with
  | non=>simp only[RD] at rx;subst rx;cases rv;exact wpAny_isNot_plain rfl (Xg I.sr I.inv)
  | bl b=>simp only[RD] at rx;subst rx;cases rv;exact wpAny_isNot_plain rfl (Xg I.sr I.inv)
  | int b=>simp only[RD] at rx;subst rx;obtain⟨t,rfl⟩:=rv;exact wpAny_isNot_plain rfl (Xg I.sr I.inv)
  | str b=>simp only[RD] at rx;subst rx;obtain⟨t,rfl⟩:=rv;exact wpAny_isNot_plain rfl (Xg I.sr I.inv)
  | tup b=>simp only[RD] at rx;obtain⟨a,_,rfl,_⟩:=rx;cases rv;exact wpAny_isNot_plain rfl (Xg I.sr I.inv)
  | fro b=>simp only[RD] at rx;obtain⟨a,_,rfl,_⟩:=rx;cases rv;exact wpAny_isNot_plain rfl (Xg I.sr I.inv)
  | ref b=>simp only[RD] at rx;obtain⟨a,rfl,_⟩:=rx;cases rv;exact wpAny_isNot_plain rfl (Xg I.sr I.inv)
  | fn _ _=>simp only[RD] at rx;obtain⟨a,rfl,_⟩:=rx;cases rv;exact wpAny_isNot_plain rfl (Xg I.sr I.inv)
 | bl c =>
  simp only[RD] at ry;subst ry;cases ru;cases x with
  | non=>simp only[RD] at rx;subst rx;cases rv;exact wpAny_isNot_plain rfl (Xg I.sr I.inv)
  | bl b =>
   simp only[RD] at rx;subst rx;cases rv;refine isnot_bool ?_;have e:(b != c)=(c != b):=by cases b<;>cases c<;>rfl
   rw[e];exact Xg I.sr I.inv
  | int b=>simp only[RD] at rx;subst rx;obtain⟨t,rfl⟩:=rv;exact wpAny_isNot_plain rfl (Xg I.sr I.inv)
  | str b=>simp only[RD] at rx;subst rx;obtain⟨t,rfl⟩:=rv;exact wpAny_isNot_plain rfl (Xg I.sr I.inv)
  | tup b=>simp only[RD] at rx;obtain⟨a,_,rfl,_⟩:=rx;cases rv;exact wpAny_isNot_plain rfl (Xg I.sr I.inv)
  | fro b=>simp only[RD] at rx;obtain⟨a,_,rfl,_⟩:=rx;cases rv;exact wpAny_isNot_plain rfl (Xg I.sr I.inv)
  | ref b=>simp only[RD] at rx;obtain⟨a,rfl,_⟩:=rx;cases rv;exact wpAny_isNot_plain rfl (Xg I.sr I.inv)
  | fn _ _=>simp only[RD] at rx;obtain⟨a,rfl,_⟩:=rx;cases rv;exact wpAny_isNot_plain rfl (Xg I.sr I.inv)
 | _=>cases x<;>exact absurd rfl nb
theorem Xdp(hu:X.A.units+200<cLine):∀ op:Co,Op2 X (compareOp (opC op)) (Xi op)
 | .eq=>X14 hu | .ne=>X15 hu | .lt=>X2a hu | .le=>X17 | .gt=>X18 | .ge=>X19 | .isin=>X16 hu | .notin=>Xtk hu | .is=>X2b | .isnot=>Xtl
theorem Xpr{prog:Program}{w:World}{A:Around}{t b:Addr}{ws:List Value}(ht:IsTup s.heap t #[])(hb:IsTup s.heap b ws.toArray)(h:Q (.ref b) s):wpAny (model prog w) A (binaryOp .Add (.ref t) (.ref b)) Q E s:=by
 obtain⟨⟨cls,dd,data,sl⟩,ho,hc,n,hd⟩:=id ht;obtain⟨⟨cls2,dd2,data2,sl2⟩,ho2,hc2,n2,hd2⟩:=id hb;simp only at hc hd hc2 hd2;subst hc hd hc2 hd2;exact concat_meets ⟨_,ho,rfl⟩ ⟨_,ho2,rfl⟩ noFill_tuple_add seq_tuple_add PySem.F.slot_tuple_add PySem.F.entry_tuple_add (PySem.F.args_tuple_add_2 _ _)
   (tuple_addW0 t b #[] ws.toArray n n2 dd dd2 sl sl2 rfl) ⟨ho,ho2,h⟩
theorem X0d:Op2 X (binaryOp .Add) (Xm .add):=by
 intro pins s σ H ρ S env x y v u v' u' E I nb rx rv ry ru;cases x with
 | int i=>cases y with
  | int j =>
   simp only[RD] at rx ry;subst rx ry;obtain⟨t,rfl⟩:=rv;obtain⟨t',rfl⟩:=ru;exact add_int (Ys I.sr (I.inv.tok _))
  | _=>exact absurd rfl nb
 | str i=>cases y with
  | str j =>
   simp only[RD] at rx ry;subst rx ry;simp only[Xm] at nb ⊢;split at nb
   ·rename_i hz
    rw[if_pos hz];exact opd (Q':=fun z H'=>z=.str (i++j)/\H'=H) Xla I.inv rv ru ⟨i,j,rfl,rfl,Yh hz,rfl,rfl⟩ fun w s' z H' J rz ⟨z1,z2⟩=>by
     subst z1 z2;obtain⟨t,rfl⟩:=rz;exact Xdo I.sr J
   ·exact absurd rfl nb
  | _=>exact absurd rfl nb
 | tup xs=>cases y with
  | tup ys =>
   simp only[Xm] at nb ⊢;split at nb
   ·rename_i hz
    rw[if_pos hz];have rx':=rx;have ry':=ry;simp only[RD] at rx ry;obtain⟨a,vs,rfl,s1,r1⟩:=rx;obtain⟨b,us,rfl,s2,r2⟩:=ry;cases rv;cases ru;obtain⟨i1,q1,p1,z1⟩:=I.inv.tuple s1;obtain⟨i2,q2,p2,z2⟩:=I.inv.tuple s2;have hl1:=r1.length;have hl2:=r2.length;have hk1:=q1.length;have hk2:=q2.length
    by_cases hx:xs=[]
    ·subst hx
     have:vs=[]:=by simpa [RDs] using r1
     subst this;cases q1;refine Xpr p1 p2 ?_;exact .mk (v:=.ref b) .refl I.inv rfl ry' I.sr
    ·refine HT.cat_tup p1 p2 (fun z=>hx ?_) (fun z=>?_) (fun z=>?_) ?_
     ·subst z;simp at hk1;rw[hk1] at hl1;simpa using hl1
     ·have:ys=[]:=by subst z;simp at hk2;rw[hk2] at hl2;simpa using hl2
      subst this;rw[List.append_nil];exact .mk (v:=.ref a) .refl I.inv rfl rx' I.sr
     ·refine Xbl (I.inv.laid (t':=s.toks) (o:=.tup (vs++us)) (fun b ob q=>Heap.get?_push_of_some _ q) (Nat.le_refl _) ?_) (I.inv.hok.fresh (Nat.le_refl _)) I.sr (r1.append r2)
      exact⟨by rw[List.length_append,<- hl1,<- hl2];exact Yh hz,_,q1.append q2,IsTup.new _ _⟩
     ·rw[<- hk1,<- hk2,<- hl1,<- hl2];exact Yh hz
   ·exact absurd rfl nb
  | _=>exact absurd rfl nb
 | ref n=>cases y with
  | ref m =>
   simp only[Xm] at nb ⊢;cases h1:Z.lstM S n with
   | none=>rw[h1] at nb;exact absurd rfl nb
   | some xs =>
    cases h2:Z.lstM S m with
    | none=>rw[h1,h2] at nb;exact absurd rfl nb
    | some ys =>
     rw[h1,h2] at nb;dsimp only at nb ⊢;split at nb
     ·rename_i hz
      rw[if_pos hz];obtain⟨a,vs,rfl,ha,hva,ra⟩:=I.lstR h1 rx;obtain⟨b,us,rfl,hb,hvb,rb⟩:=I.lstR h2 ry;exact opd (Q':=fun z H'=>∃ p,H p=none/\z=.ref p/\H'=upd H p (.lst (vs++us))) Xww I.inv rv ru ⟨a,b,vs,us,rfl,rfl,hva,hvb,by rw[<- ra.length,<- rb.length];exact Yh hz,fun p hp=>⟨p,hp,rfl,rfl⟩⟩
       fun w s' z H' J rz ⟨p,hp,z1,z2⟩=>by subst z1 z2;cases rz;exact Xbm J hp I.sr (ra.append rb)
     ·exact absurd rfl nb
  | _=>exact absurd rfl nb
 | _=>cases y<;>exact absurd rfl nb
theorem X0e:Op2 X (binaryOp .Sub) (Xm .sub):=by
 intro pins s σ H ρ S env x y v u v' u' E I nb rx rv ry ru;cases x with
 | int i=>cases y with
  | int j =>
   simp only[RD] at rx ry;subst rx ry;obtain⟨t,rfl⟩:=rv;obtain⟨t',rfl⟩:=ru;exact sub_int (Ys I.sr (I.inv.tok _))
  | _=>exact absurd rfl nb
 | _=>cases y<;>exact absurd rfl nb
theorem Xka{i:Int}(h:i.natAbs.log2<100000):Builtin.Int.intBits i<=2^20:=by
 unfold Builtin.Int.intBits;split
 ·exact Nat.zero_le _
 ·omega
theorem Xif{i j:Int}(h:Xy i j=true):IntMulOk i j:=by
 simp only[Xy,Bool.or_eq_true,bA0,decide_eq_true_eq] at h;rcases h with h|h
 ·have:CMul i j:=h
  exact this.ok
 ·exact IntMulOk.of_bits (Xka h.1) (Xka h.2)
theorem X0f:Op2 X (binaryOp .Mult) (Xm .mul):=by
 intro pins s σ H ρ S env x y v u v' u' E I nb rx rv ry ru;cases x with
 | int i=>cases y with
  | int j =>
   simp only[RD] at rx ry;subst rx ry;obtain⟨t,rfl⟩:=rv;obtain⟨t',rfl⟩:=ru;simp only[Xm] at nb ⊢;split at nb
   ·rename_i hz
    rw[if_pos hz];exact mul_int (Ys I.sr (I.inv.tok _)) (Xif hz)
   ·exact absurd rfl nb
  | _=>exact absurd rfl nb
 | tup xs=>cases y with
  | int k =>
   simp only[Xm] at nb ⊢;split at nb
   ·rename_i hz
    rw[if_pos hz];have rx':=rx;simp only[RD] at rx ry;subst ry;obtain⟨a,vs,rfl,s1,r1⟩:=rx;cases rv;obtain⟨t',rfl⟩:=ru;obtain⟨i1,q1,p1,z1⟩:=I.inv.tuple s1;have hl1:=r1.length;have hk1:=q1.length;have hne:i1≠[]:=fun z=>by
     subst z;have:xs=[]:=List.eq_nil_of_length_eq_zero (by rw[hl1,hk1];rfl)
     subst this;exact absurd hz.2.2.2 (by simp)
    refine Xtj p1 hne hz.2.2.1 hz.1 (by rw[<- hk1,<- hl1];exact hz.2.1) (fun e=>?_) (fun e=>?_)
    ·subst e
     have e1:(List.replicate (1:Int).toNat xs).flatten=xs:=by simp
     rw[e1];exact .mk (v:=.ref a) .refl I.inv rfl rx' I.sr
    ·have hr:∀ m:Nat,RDs X.K ρ H (List.replicate m xs).flatten (List.replicate m vs).flatten:=fun m=>by
      induction m with
      | zero=>simpa using RDs.nil
      | succ m ih=>rw[List.replicate_succ,List.replicate_succ,List.flatten_cons,List.flatten_cons];exact r1.append ih
     refine Xbl (I.inv.laid (t':=s.toks) (o:=.tup (List.replicate k.toNat vs).flatten) (fun b ob q=>Heap.get?_push_of_some _ q) (Nat.le_refl _) ?_) (I.inv.hok.fresh (Nat.le_refl _)) I.sr (hr _)
     exact⟨by rw[Xfu,<- hl1,Nat.mul_comm];exact Yh hz.2.1,_,q1.rep _,IsTup.new _ _⟩
   ·exact absurd rfl nb
  | _=>exact absurd rfl nb
 | ref n=>cases y with
  | int k =>
   simp only[Xm] at nb ⊢;cases h1:Z.lstM S n with
   | none=>rw[h1] at nb;exact absurd rfl nb
   | some xs =>
    rw[h1] at nb;dsimp only at nb ⊢;split at nb
    ·rename_i hz
     rw[if_pos hz];obtain⟨a,vs,rfl,ha,hva,ra⟩:=I.lstR h1 rx;simp only[RD] at ry;subst ry;have hr:RDs X.K ρ H (List.replicate k.toNat xs).flatten (List.replicate k.toNat vs).flatten:=by
      induction k.toNat with
      | zero=>simpa using RDs.nil
      | succ m ih=>rw[List.replicate_succ,List.replicate_succ,List.flatten_cons,List.flatten_cons];exact ra.append ih
     exact opd (Q':=fun z H'=>∃ p,H p=none/\z=.ref p/\H'=upd H p (.lst (List.replicate k.toNat vs).flatten)) Xwx I.inv rv ru
      ⟨a,k,vs,rfl,rfl,hva,by omega,by omega,by rw[<- ra.length];exact Yh hz.2.1,fun p hp=>⟨p,hp,rfl,rfl⟩⟩
      fun w s' z H' J rz ⟨p,hp,z1,z2⟩=>by subst z1 z2;cases rz;exact Xbm J hp I.sr hr
    ·exact absurd rfl nb
  | _=>exact absurd rfl nb
 | _=>cases y<;>exact absurd rfl nb
theorem Xw5:Op2 X (binaryOp .FloorDiv) (Xm .fdiv):=by
 intro pins s σ H ρ S env x y v u v' u' E I nb rx rv ry ru;cases x with
 | int i=>cases y with
  | int j =>
   simp only[RD] at rx ry;subst rx ry;obtain⟨t,rfl⟩:=rv;obtain⟨t',rfl⟩:=ru;simp only[Xm] at nb ⊢;split at nb
   ·rename_i hz
    rw[if_pos hz];simp only[Yq,bA0,decide_eq_true_eq] at hz;have hj:(0:Int)<j:=hz.1;exact floordiv_int (by omega) (by rw[Int.fdiv_eq_ediv_of_nonneg i (by omega)];exact Ys I.sr (I.inv.tok _)) (.inl (PyProof.noPylong_of_log2 hz.2))
   ·exact absurd rfl nb
  | _=>exact absurd rfl nb
 | _=>cases y<;>exact absurd rfl nb
theorem X0g:Op2 X (binaryOp .Mod) (Xm .mod):=by
 intro pins s σ H ρ S env x y v u v' u' E I nb rx rv ry ru;cases x with
 | int i=>cases y with
  | int j =>
   simp only[RD] at rx ry;subst rx ry;obtain⟨t,rfl⟩:=rv;obtain⟨t',rfl⟩:=ru;simp only[Xm] at nb ⊢;split at nb
   ·rename_i hz
    rw[if_pos hz];exact mod_int' (by omega) (by rw[Int.fmod_eq_emod_of_nonneg i (by omega)];exact Ys I.sr (I.inv.tok _))
   ·exact absurd rfl nb
  | _=>exact absurd rfl nb
 | _=>cases y<;>exact absurd rfl nb
theorem X0h:Op2 X (binaryOp .Pow) (Xm .pow):=by
 intro pins s σ H ρ S env x y v u v' u' E I nb rx rv ry ru;cases x with
 | int i=>cases y with
  | int j =>
   simp only[RD] at rx ry;subst rx ry;obtain⟨t,rfl⟩:=rv;obtain⟨t',rfl⟩:=ru;simp only[Xm] at nb ⊢;split at nb
   ·rename_i hz
    rw[if_pos hz];exact pow_int_small hz.1 (by omega) (by omega) (Ys I.sr (I.inv.tok _))
   ·exact absurd rfl nb
  | _=>exact absurd rfl nb
 | _=>cases y<;>exact absurd rfl nb
theorem X0i:∀ op:Bo,Op2 X (binaryOp (opB op)) (Xm op)
 | .add=>X0d | .sub=>X0e | .mul=>X0f | .fdiv=>Xw5 | .mod=>X0g | .pow=>X0h
end
end Z
end
section
namespace Z
open PySem PySem.Spec PyProof.Rows L2
theorem Xnl(n:Nat)(i:Int):Z.ixN n i=L2.ixN n i:=rfl
section
variable{X:Cx}{pins:List (Addr×Obj)}{σ:L2.St}{H:Hp}{s:Shared}{ρ:List Addr}{S S':Sto}{env:En}{Q:Value->Shared->Prop}{E:Value->Shared->Prop}{a b c e:Expr}{f fa fb fc:En->Sto->R D}{pos:Pos}
theorem Xw6{xs:List D}{vs:List V}{k:Int}{d:D}(r:RDs X.K ρ H xs vs)(h:((Z.ixN xs.length k).bind fun j=>xs[j]?)=some d):∃ v,atI vs k=some v/\RD X.K ρ H d v:=by
 cases e:Z.ixN xs.length k with
 | none=>rw[e] at h;cases h
 | some j =>
  rw[e] at h;obtain⟨v,h1,h2⟩:=r.get (i:=j) (d:=d) h;refine⟨v,?_,h2⟩;show((L2.ixN vs.length k).bind fun j=>vs[j]?)=some v
  rw[<- r.length];rw[Xnl] at e;rw[e];exact h1
theorem X0j(hs:Xft b):Op2 X (subscriptTail a b) Xag:=by
 intro pins s σ H ρ S env x y v u v' u' E I nb rx rv ry ru;unfold Xag at nb ⊢;cases e:Xaf x y S with
 | none=>rw[e] at nb;exact absurd rfl nb
 | some d =>
  cases y with
  | int k =>
   simp only[RD] at ry;subst ry;have ixr:∀ {r:R2} (hr:IxR (X.wish E) r) (z:V),r v (.int k) H (fun z' H'=>z'=z/\H'=H)->RD X.K ρ H d z->wpAny (model X.prog X.w) X.A (subscriptTail a b v' u') (OkP X pins σ ρ H (.ok d S)) E s:=fun {r} hr z h1 h2 =>
    thn (hr a b pins s σ H v (.int k) v' u' _ (I.inv.wish E) rv ru h1 (hs _ _)) fun w s' ⟨z',H',J,rz,e1,e2⟩=>by subst e1 e2;exact .mk .refl J.unwish rz h2 I.sr
   have seq:∀ xs,Xw S x=some xs->((Z.ixN xs.length k).bind fun j=>xs[j]?)=some d->wpAny (model X.prog X.w) X.A (subscriptTail a b v' u') (OkP X pins σ ρ H (.ok d S)) E s:=fun xs h1 h2=>by
    obtain⟨p,vs,rfl,hq,hr⟩:=I.seq h1 rx;obtain⟨z,hz,rz⟩:=Xw6 hr h2;rcases hq with hq|hq
    ·exact ixr Xte z ⟨p,vs,k,z,rfl,rfl,hq,hz,rfl,rfl⟩ rz
    ·exact ixr Xwu z ⟨p,vs,k,z,rfl,rfl,hq,hz,rfl,rfl⟩ rz
   cases x with
   | str z =>
    simp only[Xaf] at e;simp only[RD] at rx;subst rx;split at e
    ·rename_i hz
     cases e1:Z.ixN z.length k with
     | none=>rw[e1] at e;cases e
     | some j =>
      rw[e1] at e;simp only[Option.bind_some,Option.map_eq_some_iff] at e;obtain⟨c,hc,rfl⟩:=e;refine ixr Xwv (.str ⟨#[c]⟩) ⟨z,k,c,rfl,rfl,Yh hz,?_,rfl,rfl⟩ (by simp only[RD])
      show((L2.ixN z.cps.toList.length k).bind fun j=>z.cps.toList[j]?)=some c
      have:z.cps.toList.length=z.length:=by simp[Str.length]
      rw[this,<- Xnl,e1];exact hc
    ·cases e
   | tup xs=>exact seq xs rfl (by simpa [Xaf,Xw] using e)
   | fro xs=>exact seq xs rfl (by simpa [Xaf,Xw] using e)
   | ref n =>
    simp only[Xaf,Xw] at e;cases e1:Xd S n with
    | none=>rw[e1] at e;cases e
    | some xs=>rw[e1] at e;exact seq xs e1 e
   | non=>simp[Xaf,Xw] at e
   | bl _=>simp[Xaf,Xw] at e
   | int _=>simp[Xaf,Xw] at e
   | fn _ _=>simp[Xaf,Xw] at e
  | _=>simp[Xaf] at e
theorem X0k(hs:Xft b)(ha:DE X a fa)(hb:DE X b fb):DE X (.Subscript a b pos) (fun env S=>(fa env S).bind fun x S=>(fb env S).bind fun y S=>Xag x y S) :=
 fun pins s σ H ρ S env I nb=>Subscript_ (two (X0j hs) ha hb I nb)
noncomputable def spD(K:PySem.W.Frag)(n:Nat)(F:List D->Sto->R D):Sp:=fun vs H Q E=>∃ ds ρ S,vs.length=n/\RDs K ρ H ds vs/\SR K ρ S H/\F ds S≠.bad /\
 (∀ d S' v H' ρ',F ds S=.ok d S'->RD K ρ' H' d v->SR K ρ' S' H'->Stp K ρ ρ' H H'->Q v H') /\
 ∀ n c S' a H' ρ',F ds S=.ex n S'->ρ'[n]?=some a->S'[n]?=some (.exc c)->SR K ρ' S' H'->Stp K ρ ρ' H H'->E (.ref a) none H'
noncomputable def CXd(P:Program)(w:World):CXT:=fun outer H s E e s'=>∃ H',s'.os=s.os/\AllBare s'.gens/\Un (frs outer) [] H H' s.heap s'.heap/\HOk P w H' s'.heap/\(∃ a,e=.ref a/\Trc (fun T=>s.heap.get? T=none) H' a s'.heap)/\E e none H'
structure RoomC(cm:Bool)(k:Nat)(A:Around):Prop where
 gd:A.guards=some []
 hd:cm=true->A.handled=none
 dp:A.depth+3*k+5<recursionLimit
 un:A.units+16*k+200<cLine
theorem RoomC.of{cm:Bool}{k:Nat}{A:Around}(r:Room k A):RoomC cm k A:=⟨r.gd,fun _=>r.hd,r.dp,r.un⟩
theorem RoomC.less{cm cm2:Bool}{k:Nat}{A:Around}(r:RoomC cm k A)(h:cm2=true->cm=true):RoomC cm2 k A:=⟨r.gd,fun z=>r.hd (h z),r.dp,r.un⟩
theorem RoomC.deeper{cm:Bool}{k:Nat}{A:Around}(r:RoomC cm (k+1) A)(env:PySem.Env):RoomC cm k (A.deeper env) :=
 ⟨r.gd,r.hd,by have:=r.dp;show A.depth+1+3*k+5<_;omega,by have:=r.un;show A.units+3+16*k+200<_;omega⟩
theorem RoomC.mark{cm:Bool}{k:Nat}{A:Around}{h:Option Value}(r:RoomC cm k A):RoomC false k (A.mark h):=⟨r.gd,(fun z=>nomatch z),r.dp,r.un⟩
structure FnD(cm:Bool)(P:Program)(w:World)(K:PySem.W.Frag)(mg:Str->Option Value)(base:Heap)(k:Nat)(f:Addr)(fd:FuncData)(ps:List Str)(F:List D->Sto->R D):Prop where
 run:∀ (A:Around) (outer:List PySem.Env) (s:Shared) (H:Hp) (args:Args) (us:List Value) (vs:List V) (Q:VK) (E:XK),RoomC cm k A->Env0 P w K mg base A outer s H->BindsTo s fd args (ps.zip us)->Vals vs us->spD K ps.length F vs H Q E ->
  codeAny (model P w) A (.call (.ref f) args) (CR (CXd P w) outer P w H s Q E) s
theorem Xso{cm:Bool}{k:Nat}{g:Addr}{fd:FuncData}{ps:List Str}{F:List D->Sto->R D}{us:List Value}{vs:List V}{ds:List D}(G:FnD cm X.prog X.w X.K X.mg X.base k g fd ps F)(hr:RoomC cm k X.A)(hb:Binds X.K fd ps [])
  (I:S0 X pins σ H s ρ S env) (rv:Vals vs us) (rd:RDs X.K ρ H ds vs) (hl:ds.length=ps.length) (nb:F ds S≠.bad) :
  wpAny (model X.prog X.w) X.A (call (.ref g) us) (OkP X pins σ ρ H (F ds S)) (ExP X pins σ ρ H (F ds S)) s:=by
 have hlv:vs.length=ps.length:=by rw[<- rd.length];exact hl
 have hb':BindsTo s fd ⟨us,[]⟩ (ps.zip us):=by
  have:=hb s us I.inv.kIn (by rw[List.append_nil,<- rv.length];exact hlv)
  rwa [List.append_nil] at this
 have hsp:spD X.K ps.length F vs H (fun v H'=>∃ d S' ρ',F ds S=.ok d S'/\RD X.K ρ' H' d v/\SR X.K ρ' S' H'/\Stp X.K ρ ρ' H H')
   (fun e _ H'=>∃ n c S' a ρ',F ds S=.ex n S'/\e=.ref a/\ρ'[n]?=some a/\S'[n]?=some (.exc c)/\SR X.K ρ' S' H'/\Stp X.K ρ ρ' H H') :=
  ⟨ds,ρ,S,hlv,rd,I.sr,nb,fun d S' v H' ρ' h1 h2 h3 h4=>⟨d,S',ρ',h1,h2,h3,h4⟩,fun n c S' a H' ρ' h1 h2 h3 h4 h5=>⟨n,c,S',a,ρ',h1,rfl,h2,h3,h4,h5⟩⟩
 refine wpAny_call (codeAny_mono (G.run X.A X.stack s H ⟨us,[]⟩ us vs _ _ hr I.inv.env0 hb' rv hsp) fun r s' hq=>?_)
 cases r with
 | error e =>
  obtain⟨H',os,bare,un,hok,⟨a',h0,tr⟩,n,c,S',a,ρ',h1,h2,h3,h4,h5,h6⟩:=hq;refine⟨n,S',h1,H',ρ',a,c,I.inv.call' os un hok bare (fun b z=>absurd z (by simp)),h2,h3,h4,h5,h6,.inr ?_⟩
  rw[h2] at h0;cases h0;refine tr.imp fun T hT=>⟨?_,fun p hp z=>?_⟩
  ·by_cases hx:T∈X.ex
   ·exact .inl hx
   ·cases q:X.s₀.heap.get? T with
    | none=>exact .inr rfl
    | some o=>obtain⟨o',e⟩:=I.inv.base.there T o q hx;rw[hT] at e;cases e
  ·have:=(I.inv.pin p hp).1
   rw[z,hT] at this;cases this
 | ok fl =>
  cases fl with
  | ret u =>
   obtain⟨v,H',J,rv',d,S',ρ',h1,h2,h3,h4⟩:=I.inv.after hq;exact⟨d,S',h1,v,H',ρ',J,rv',h2,h3,h4⟩
  | next=>exact False.elim hq
  | brk=>exact False.elim hq
  | cont=>exact False.elim hq
theorem Xw7{cm:Bool}{k:Nat}{g:Addr}{fd:FuncData}{ps:List Str}{F:List D->Sto->R D}{x:Str}{p:Pos}{es:List Expr}{ga:En->Sto->R (List D)}(G:FnD cm X.prog X.w X.K X.mg X.base k g fd ps F)(hr:RoomC cm k X.A)(hb:Binds X.K fd ps [])
  (hg:Gl X x) (hm:X.mg x=some (.ref g)) (hk:PySem.W.keepIn X.K (.ref g)=true) (ha:DA X (e::es) ga) (hl:∀ env S ds S',ga env S=.ok ds S'->ds.length=ps.length)
  (hdb:(x==("__debug__" : Str))=false) (he:starEach (e::es) X.env=(false,eval e X.env)::starEach es X.env) (hpl:(backTo pos (starEach es X.env)).any (·.1)=false) :
  DE X (.Call (.Name x p) (e::es) [] pos) (fun env S=>(ga env S).bind fun xs S=>F xs S):=by
 intro pins s σ H ρ S env I nb;dsimp only at nb ⊢;refine wpAny_Call_Name_kw (Xdm I.inv hg hm ?_ hdb);cases q:ga env S with
 | bad=>rw[q] at nb;exact absurd rfl nb
 | ex n S1=>exact PySem.W.callWith_K (h₀:=X.base) I.inv.ok.mod.kin hk (ha.ex I q fun x s' z=>⟨n,S1,rfl,z⟩) he hpl
 | ok ds S1 =>
  rw[q] at nb;simp only[Rk0] at nb ⊢;refine PySem.W.callWith_K (h₀:=X.base) I.inv.ok.mod.kin hk (ha.ok I q fun us s1 vs H1 ρ1 I1 rv rd st1=>⟨I1.inv.kIn,?_⟩) he hpl
  exact wpAny_mono (Xso G hr hb I1 rv rd (hl env S ds S1 q) nb) (fun u s2 z=>z.pre st1) fun x s2 z=>z.pre st1
def FlP(X:Cx)(pins:List (Addr×Obj))(σ:L2.St)(ρ:List Addr)(H:Hp)(na:Bool)(S':Sto)(s':Shared):Fl->Flow->Prop
 | .nx e,fl=>fl=.next/\∃ σ' H' ρ',S0 X pins σ' H' s' ρ' S' e/\Stp X.K ρ ρ' H H'/\(na=true->σ'=σ)
 | .brk e,fl=>fl=.brk/\∃ σ' H' ρ',S0 X pins σ' H' s' ρ' S' e/\Stp X.K ρ ρ' H H'
 | .cnt e,fl=>fl=.cont/\∃ σ' H' ρ',S0 X pins σ' H' s' ρ' S' e/\Stp X.K ρ ρ' H H'
 | .rt d,fl=>∃ u v σ' H' ρ',fl=.ret u/\Inv X pins σ' H' s'/\RelV v u/\RD X.K ρ' H' d v/\SR X.K ρ' S' H'/\Stp X.K ρ ρ' H H'
def OkS(X:Cx)(pins:List (Addr×Obj))(σ:L2.St)(ρ:List Addr)(H:Hp)(na:Bool)(r:R Fl)(fl:Flow)(s':Shared):Prop:=∃ x S',r=.ok x S'/\FlP X pins σ ρ H na S' s' x fl
def ExS(X:Cx)(pins:List (Addr×Obj))(σ:L2.St)(ρ:List Addr)(H:Hp)(na:Bool)(r:R Fl)(e:Value)(s':Shared):Prop:=∃ n S' σ',r=.ex n S'/\(na=true->σ'=σ)/\XPd X pins σ' ρ H n S' e s'
def DS(X:Cx)(st:Stmt)(na:Bool)(f:En->Sto->R Fl):Prop :=
 ∀ (pins:List (Addr×Obj)) (s:Shared) (σ:L2.St) (H:Hp) (ρ:List Addr) (S:Sto) (env:En),S0 X pins σ H s ρ S env->f env S≠.bad ->
  wpAny (model X.prog X.w) X.A (exec st X.env) (OkS X pins σ ρ H na (f env S)) (ExS X pins σ ρ H na (f env S)) s
def DSs(X:Cx)(st:List Stmt)(na:Bool)(f:En->Sto->R Fl):Prop :=
 ∀ (pins:List (Addr×Obj)) (s:Shared) (σ:L2.St) (H:Hp) (ρ:List Addr) (S:Sto) (env:En),S0 X pins σ H s ρ S env->f env S≠.bad ->
  wpAny (model X.prog X.w) X.A (execs st X.env) (OkS X pins σ ρ H na (f env S)) (ExS X pins σ ρ H na (f env S)) s
theorem FlP.pre{x:Fl}{fl:Flow}{s':Shared}{σ':L2.St}{ρ':List Addr}{H':Hp}{na na':Bool}(st:Stp X.K ρ ρ' H H')(hn:na'=true->na=true/\σ'=σ)(h:FlP X pins σ' ρ' H' na S' s' x fl):FlP X pins σ ρ H na' S' s' x fl:=by
 cases x with
 | nx e=>obtain⟨h1,σ2,H2,ρ2,h2,h3,h4⟩:=h;exact⟨h1,σ2,H2,ρ2,h2,st.trans h3,fun z=>(h4 (hn z).1).trans (hn z).2⟩
 | brk e=>obtain⟨h1,σ2,H2,ρ2,h2,h3⟩:=h;exact⟨h1,σ2,H2,ρ2,h2,st.trans h3⟩
 | cnt e=>obtain⟨h1,σ2,H2,ρ2,h2,h3⟩:=h;exact⟨h1,σ2,H2,ρ2,h2,st.trans h3⟩
 | rt d=>obtain⟨u,v,σ2,H2,ρ2,h1,h2,h3,h4,h5,h6⟩:=h;exact⟨u,v,σ2,H2,ρ2,h1,h2,h3,h4,h5,st.trans h6⟩
theorem OkS.pre{r:R Fl}{fl:Flow}{s':Shared}{σ':L2.St}{ρ':List Addr}{H':Hp}{na na':Bool}(st:Stp X.K ρ ρ' H H')(hn:na'=true->na=true/\σ'=σ)(h:OkS X pins σ' ρ' H' na r fl s'):OkS X pins σ ρ H na' r fl s':=by
 obtain⟨x,S1,e,h⟩:=h;exact⟨x,S1,e,h.pre st hn⟩
theorem ExS.of{na:Bool}{r:R Fl}{x:Value}{s':Shared}{n:Nat}{ρ':List Addr}{H':Hp}(st:Stp X.K ρ ρ' H H')(h:XPd X pins σ ρ' H' n S' x s')(e:r=.ex n S'):ExS X pins σ ρ H na r x s':=⟨n,S',σ,e,fun _=>rfl,h.pre st⟩
theorem ExS.pre{na na':Bool}{σ':L2.St}{r:R Fl}{x:Value}{s':Shared}{ρ':List Addr}{H':Hp}(st:Stp X.K ρ ρ' H H')(hn:na'=true->na=true/\σ'=σ)(h:ExS X pins σ' ρ' H' na r x s'):ExS X pins σ ρ H na' r x s':=by
 obtain⟨n,S1,σ2,e,h1,h2⟩:=h;exact⟨n,S1,σ2,e,fun z=>(h1 (hn z).1).trans (hn z).2,h2.pre st⟩
variable{st:Stmt}{Xae sa sb:List Stmt}{g g2:En->Sto->R Fl}{na na2:Bool}
theorem DS.weak(h:DS X st na g)(hn:na2=true->na=true):DS X st na2 g:=fun pins s σ H ρ S env I nb =>
 wpAny_mono (h pins s σ H ρ S env I nb) (fun _ _ z=>z.pre .refl fun q=>⟨hn q,rfl⟩) fun _ _ z=>z.pre .refl fun q=>⟨hn q,rfl⟩
theorem dss_nil:DSs X [] true (fun env S=>.ok (.nx env) S):=fun pins s σ H ρ S env I _=>wpAny_execs_nil ⟨.nx env,S,rfl,rfl,σ,H,ρ,I,.refl,fun _=>rfl⟩
theorem Xps(h1:DS X st na g)(h2:DSs X Xae na2 g2):DSs X (st::Xae) (na&&na2) (fun env S=>match g env S with | .ok (.nx e) S'=>g2 e S'|r=>r):=by
 intro pins s σ H ρ S env I nb;dsimp only at nb ⊢;refine wpAny_execs_cons ?_;cases q:g env S with
 | bad=>rw[q] at nb;exact absurd rfl nb
 | ex n S1 =>
  refine wpAny_mono (h1 pins s σ H ρ S env I (by rw[q];exact fun z=>nomatch z)) (fun fl s1 z=>?_) fun x s1 z=>?_
  ·obtain⟨x,S2,e,_⟩:=z;rw[q] at e;cases e
  ·rw[q] at z
   exact z.pre .refl fun w=>⟨by rw[bA0] at w;exact w.1,rfl⟩
 | ok x S1 =>
  rw[q] at nb;refine wpAny_mono (h1 pins s σ H ρ S env I (by rw[q];exact fun z=>nomatch z)) (fun fl s1 z=>?_) fun x s1 z=>?_
  ·obtain⟨y,S2,e,z⟩:=z
   rw[q] at e;cases e;cases x with
   | nx e =>
    obtain⟨rfl,σ1,H1,ρ1,I1,st1,hσ⟩:=z;exact wpAny_mono (h2 pins s1 σ1 H1 ρ1 S1 e I1 nb) (fun fl s2 z=>z.pre st1 fun w=>by rw[bA0] at w;exact⟨w.2,hσ w.1⟩) fun x s2 z=>z.pre st1 fun w=>by rw[bA0] at w;exact⟨w.2,hσ w.1⟩
   | brk e=>obtain⟨rfl,σ1,H1,ρ1,I1,st1⟩:=z;exact⟨.brk e,S1,rfl,rfl,σ1,H1,ρ1,I1,st1⟩
   | cnt e=>obtain⟨rfl,σ1,H1,ρ1,I1,st1⟩:=z;exact⟨.cnt e,S1,rfl,rfl,σ1,H1,ρ1,I1,st1⟩
   | rt d=>obtain⟨u,v,σ1,H1,ρ1,rfl,r⟩:=z;exact⟨.rt d,S1,rfl,u,v,σ1,H1,ρ1,rfl,r⟩
  ·obtain⟨k,S2,σ2,e,_⟩:=z
   rw[q] at e;cases e
theorem ds_pass:DS X (.Pass pos) true (fun env S=>.ok (.nx env) S):=fun pins s σ H ρ S env I _=>wpAny_Pass ⟨.nx env,S,rfl,rfl,σ,H,ρ,I,.refl,fun _=>rfl⟩
theorem ds_brk:DS X (.Break pos) false (fun env S=>.ok (.brk env) S):=fun pins s σ H ρ S env I _=>wpAny_Break ⟨.brk env,S,rfl,rfl,σ,H,ρ,I,.refl⟩
theorem ds_cnt:DS X (.Continue pos) false (fun env S=>.ok (.cnt env) S):=fun pins s σ H ρ S env I _=>wpAny_Continue ⟨.cnt env,S,rfl,rfl,σ,H,ρ,I,.refl⟩
theorem Xtm(he:DE X e f)(hs:swapsWith e none pos.line X.env=pure false):DS X (.Expr e pos) true (fun env S=>(f env S).bind fun _ S=>.ok (.nx env) S):=by
 intro pins s σ H ρ S env I nb;dsimp only at nb ⊢;cases q:f env S with
 | bad=>rw[q] at nb;exact absurd rfl nb
 | ex n S1=>exact wpAny_Expr_any (he.ex I q fun x s' z=>.of .refl z rfl) I.inv.quiet hs
 | ok d S1=>exact wpAny_Expr_any (he.ok I q fun u s' v H' ρ' J rv rd st=>⟨.nx env,S1,rfl,rfl,σ,H',ρ',J,st,fun _=>rfl⟩) I.inv.quiet hs
theorem Xw8(he:DE X e f):DS X (.Return (some e) pos) true (fun env S=>(f env S).bind fun x S=>.ok (.rt x) S):=by
 intro pins s σ H ρ S env I nb;dsimp only at nb ⊢;cases q:f env S with
 | bad=>rw[q] at nb;exact absurd rfl nb
 | ex n S1=>exact wpAny_Return_some (he.ex I q fun x s' z=>.of .refl z rfl)
 | ok d S1=>exact wpAny_Return_some (he.ok I q fun u s' v H' ρ' J rv rd st=>⟨.rt d,S1,rfl,u,v,σ,H',ρ',rfl,J.inv,rv,rd,J.sr,st⟩)
theorem X0l(hc:DT X c (fun env S=>tst (fc env S)))(ha:DSs X sa na g)(hb:DSs X sb na2 g2) :
  DS X (.If c sa sb pos) (na&&na2) (fun env S=>(fc env S).bind fun x S=>match Xj S x with|some true=>g env S|some false=>g2 env S|none=>.bad):=by
 intro pins s σ H ρ S env I nb;dsimp only at nb ⊢;cases q:fc env S with
 | bad=>rw[q] at nb;exact absurd rfl nb
 | ex n S1=>exact wpAny_If (hc.ex I (by simp only[q];rfl) fun x s' z=>.of .refl z rfl)
 | ok x S1 =>
  rw[q] at nb;simp only[Rk0] at nb ⊢;cases t:Xj S1 x with
  | none=>rw[t] at nb;exact absurd rfl nb
  | some r =>
   rw[t] at nb;refine wpAny_If (hc.ok I (by simp only[q];exact Xax t) fun s2 H2 ρ2 I2 st2=>?_)
   cases r with
   | true=>exact wpAny_mono (ha pins s2 σ H2 ρ2 S1 env I2 nb) (fun w s3 z=>z.pre st2 fun w=>by rw[bA0] at w;exact⟨w.1,rfl⟩) fun x s' z=>z.pre st2 fun w=>by rw[bA0] at w;exact⟨w.1,rfl⟩
   | false=>exact wpAny_mono (hb pins s2 σ H2 ρ2 S1 env I2 nb) (fun w s3 z=>z.pre st2 fun w=>by rw[bA0] at w;exact⟨w.2,rfl⟩) fun x s' z=>z.pre st2 fun w=>by rw[bA0] at w;exact⟨w.2,rfl⟩
theorem Xw9{i:Nat}{x:Str}{pos':Pos}(hN:X.N.Nodup)(hi:X.N[i]?=some x)(hx:Loc X.env.scope x)(hf:X.fn x=true\/X.env.scope.names.lookup x=some .local)(he:DE X e f)(hs:swapsWith e (some (.Name x pos')) pos.line X.env=pure false) :
  DS X (.Assign [.Name x pos'] e pos) false (fun env S=>(f env S).bind fun x S=>match Xo (.var i) x env with|some env=>.ok (.nx env) S|none=>.bad):=by
 intro pins s σ H ρ S env I nb;dsimp only at nb ⊢;cases q:f env S with
 | bad=>rw[q] at nb;exact absurd rfl nb
 | ex n S1=>exact wpAny_Assign_Name (he.ex I q fun x s' z=>.of .refl z rfl) hs
 | ok d S1 =>
  refine wpAny_Assign_Name (he.ok I q fun u s' v H' ρ' J rv rd st=>?_) hs
  exact Xa3 J.inv hN hi hx rv (fun s2 I2=>⟨.nx (env.set i (some d)),S1,rfl,rfl,_,H',ρ',⟨I2,J.sr,J.er.set i rd⟩,st,fun z=>nomatch z⟩) hf
theorem Xb1{P:Program}{w:World}{h:Heap}{b:Addr}{u:HO}(x:ObjOk P w H h b u):∃ o,h.get? b=some o:=by
 cases u with
 | lst xs=>obtain⟨_,_,_,_,e⟩:=x;exact⟨_,e⟩
 | tup xs=>obtain⟨_,_,_,o,e,_⟩:=x;exact⟨_,e⟩
 | dK kvs=>obtain⟨_,_,_,_,o,_,_,e,_⟩:=x;exact⟨_,e⟩
 | dT kvs=>obtain⟨_,_,_,_,o,_,_,e,_⟩:=x;exact⟨_,e⟩
 | set S n=>obtain⟨o,_,_,_,e,_⟩:=x;exact⟨_,e⟩
 | ins C dx fs=>obtain⟨_,_,_,e,_⟩:=x;exact⟨_,e⟩
 | own y=>exact x
 | xd fs=>obtain⟨_,⟨_,_,_,e,_⟩,_⟩:=x;exact⟨_,e⟩
 | rng lo hi=>obtain⟨_,_,_,e⟩:=x;exact⟨_,e⟩
 | frz ob u=>obtain⟨e,_⟩:=x;exact⟨_,e⟩
 | tbl ps=>exact⟨_,(show h.get? b=some _ from x)⟩
 | met f y=>exact⟨_,(show h.get? b=some _ from x)⟩
 | ext φ=>exact x.2.1
theorem Xb8{h g g':Heap}:∀ {l:List PySem.Env},h.FunFrames g l->(∀ b∈frs l,g'.get? b=none)->h.FunFrames g' l
 | [],_,_=>trivial
 | env::r,⟨hk,⟨L,o,hf,_,ho,hd⟩,hr⟩,k=>by
  have e:frs (env::r)=L::frs r:=by unfold frs;rw[List.filterMap_cons,hf]
  rw[e] at k;exact⟨hk,⟨L,o,hf,k L (.head _),ho,hd⟩,Xb8 hr fun b hb=>k b (.tail _ hb)⟩
structure Hid(X:Cx)(H':Hp)(a:Addr)(h:Heap)(l:List Addr):Prop where
 er:a∈l
 fr:∀ b∈frs X.stack,b∈l
 of:∀ b∈l,b=a\/b∈frs X.stack\/(H' b=none/\∃ o vs,h.get? b=some o/\o.data=.fields vs)
theorem Xtn{X:Cx}{pins:List (Addr×Obj)}{σ:L2.St}{H':Hp}{s':Shared}{a C:Addr}{h':Heap}{l:List Addr}(I:Inv X pins σ H' s')(ha:H' a=some (.ext (ExcO C a)))(hl:Hid X H' a s'.heap l)
  (keep:∀ b o,s'.heap.get? b=some o->b ∉ l->h'.get? b=some o) (he:ExcO C a h'):HOk X.prog X.w H' h':=by
 have out:∀ b u,b≠a->H' b=some u->b ∉ l:=fun b u hb q hm=>by
  rcases hl.of b hm with z|z|⟨z,_⟩
  ·exact hb z
  ·rw[I.stkFree b z] at q;cases q
  ·rw[z] at q;cases q
 intro b u q
 by_cases hb:b=a
 ·subst hb;rw[ha] at q;cases q;exact he.ok
 ·refine(I.hok b u q).stay (fun c v hc e=>?_) (fun _ z=>z) fun _ _ z=>z
  rcases hc with rfl|hc
  ·exact keep c v e (out c u hb q)
  ·exact keep c v e (out c _ (fun z=>by rw[z,ha] at hc;cases hc) hc)
theorem Xto{X:Cx}{pins:List (Addr×Obj)}{σ:L2.St}{H':Hp}{s':Shared}{a C:Addr}{Q:Unit->Shared->Prop}{E:Value->Shared->Prop}(I:Inv X pins σ H' s')(hs:X.stack=X.env::X.outer)(hf:X.env.frame=some X.env.locals)(hx:X.ex=[])
  (ha:H' a=some (.ext (ExcO C a))) (fl:Fly X pins H' a s'.heap)
  (hQ:∀ h',Un X.fs [] X.H₀ H' X.s₀.heap h'->HOk X.prog X.w H' h'->Trc (fun T=>X.s₀.heap.get? T=none) H' a h'->Q () { s' with heap:=h' }):wpAny (model X.prog X.w) X.A (leaving X.env (.ref a)) Q E s':=by
 have hfrs:frs X.stack=X.env.locals::X.fs:=by rw[hs];unfold frs;rw[List.filterMap_cons,hf];rfl
 have hA:X.A.frames=some (X.env::X.outer):=by rw[<- hs];exact I.ok.frames
 have hI:=I.stack;obtain⟨⟨oa,va,a0,ea,ca,da,v0,vz⟩,_,_⟩:=(show ObjOk X.prog X.w H' s'.heap a (.ext (ExcO C a)) from I.hok a _ ha);have fin:∀ (l:List Addr) (h':Heap),Hid X H' a s'.heap l->(∀ b∈l,b≠a->b ∉ frs X.stack->X.s₀.heap.get? b=none)->Heap.LeftW (PySem.W.hideAll s'.heap l) (X.env::X.outer) a (.ref C) a0 s'.heap h'->Q () { s' with heap:=h' }:=by
  intro l h' hl hnew ⟨k1,k2,⟨oe,vs,T,oT,ts,t1,⟨t2,t3⟩,t4,t5,t6,t7,t8,t9,t10⟩,k4⟩;have keep:∀ b o,s'.heap.get? b=some o->b ∉ l->h'.get? b=some o:=fun b o e hb=>k1 b o (PySem.W.hideAll_get l e hb)
  have nfr:∀ b∈frs X.stack,∃ o,s'.heap.get? b=some o/\∀ vs,o.data≠.fields vs:=fun b hb=>(hI.mem hb).2
  have frk:∀ b∈frs X.stack,∀ o,s'.heap.get? b=some o->∃ sl,h'.get? b=some { o with slots:=sl }:=fun b hb o e=>by
   obtain⟨o',e',nd⟩:=nfr b hb;rw[e] at e';cases e';exact k4 b o e nd
  have old:∀ b o,X.s₀.heap.get? b=some o->b≠X.env.locals:=fun b o e=>Nat.ne_of_lt (Nat.lt_of_lt_of_le (Heap.lt_size e) I.ok.above)
  have nx:∀ b:Addr,b ∉ X.ex:=fun b z=>by rw[hx] at z;cases z
  have hT:∀ o,s'.heap.get? T=some o->T∈l:=fun o e=>by
   by_cases hm:T∈l
   ·exact hm
   ·rw[PySem.W.hideAll_get l e hm] at t6;cases t6
  have nT:T ∉ frs X.stack:=fun hm=>by
   obtain⟨o,e,nd⟩:=nfr T hm;obtain⟨sl,e'⟩:=frk T hm o e;rw[t8] at e';cases e';exact nd ts t9
  refine hQ h' ⟨fun b o e n hb _=>?_,fun b o e n hb _=>?_,fun b o e n _=>I.base.free b o e n (nx b),fun b o e _=>?_,I.base.tups,I.base.frzs,I.base.tbls⟩ (Xtn I ha hl keep ⟨oe,vs,a0,t1,t2,t4,t3,(Array.getElem?_eq_some_iff.mp t5).1⟩) ⟨oe,vs,T,oT,ts,t1,t4,t5,?_,t7,?_,t8,t9,t10⟩
  ·refine keep b o (I.base.keep b o e n hb (nx b)) fun hm=>?_
   have fb:=I.base.free b o e n (nx b)
   by_cases h1:b=a
   ·rw[h1,ha] at fb;cases fb
   ·by_cases h2:b∈frs X.stack
    ·rw[hfrs] at h2
     rcases List.mem_cons.mp h2 with z|z
     ·exact old b o e z
     ·exact hb z
    ·rw[hnew b hm h1 h2] at e;cases e
  ·obtain⟨sl,e1⟩:=I.base.slot b o e n hb (nx b)
   obtain⟨sl',e2⟩:=frk b (by rw[hfrs];exact .tail _ hb) _ e1
   exact⟨sl',e2⟩
  ·obtain⟨o',e1⟩:=I.base.there b o e (nx b)
   by_cases hm:b∈l
   ·by_cases h1:b=a
    ·subst h1;exact⟨_,t1⟩
    ·by_cases h2:b∈frs X.stack
     ·obtain⟨sl,e2⟩:=frk b h2 o' e1;exact⟨_,e2⟩
     ·rw[hnew b hm h1 h2] at e;cases e
   ·exact⟨_,keep b o' e1 hm⟩
  ·cases q:X.s₀.heap.get? T with
   | none=>exact q
   | some o =>
    obtain⟨o',e1⟩:=I.base.there T o q (nx T);rw[hnew T (hT o' e1) t7 nT] at q;cases q
  ·cases q:H' T with
   | none=>rfl
   | some u =>
    obtain⟨o',e1⟩:=Xb1 (I.hok T u q);rcases hl.of T (hT o' e1) with z|z|⟨z,_⟩
    ·exact absurd z t7
    ·exact absurd z nT
    ·rw[z] at q;cases q
 rcases fl with⟨oe,vs,e1,e2,e3⟩|⟨oe,vs,T,oT,ts,e1,e2,e3,⟨e4,e5⟩,e6,e7,e8,e9,e10⟩
 ·have hl:Hid X H' a s'.heap (a::frs X.stack):=⟨.head _,fun b hb=>.tail _ hb,fun b hb=>by
   rcases List.mem_cons.mp hb with z|z
   ·exact .inl z
   ·exact .inr (.inl z)⟩
  rw[ea] at e1;cases e1;rw[da] at e2;cases e2;refine wpAny_leaving_firstW (base:=PySem.W.hideAll s'.heap (a::frs X.stack)) (a0:=a0) hA (by rw[<- hs];exact Xb8 hI fun b hb=>PySem.W.hideAll_none _ (.tail _ hb)) hf ea (fun b o e=>PySem.W.of_hideAll _ e) (PySem.W.hideAll_none _ (.head _)) da e3 v0 fun h' hL=>?_
  rw[ca] at hL;exact fin _ h' hl (fun b hb h1 h2=>by
   rcases List.mem_cons.mp hb with z|z
   ·exact absurd z h1
   ·exact absurd z h2) hL
 ·have hl:Hid X H' a s'.heap (a::T::frs X.stack):=⟨.head _,fun b hb=>.tail _ (.tail _ hb),fun b hb=>by
   rcases List.mem_cons.mp hb with z|z
   ·exact .inl z
   ·rcases List.mem_cons.mp z with z|z
    ·subst z;exact .inr (.inr ⟨e7,oT,ts,e8,e9⟩)
    ·exact .inr (.inl z)⟩
  rw[ea] at e1;cases e1;rw[da] at e2;cases e2;refine wpAny_leaving_nextW (base:=PySem.W.hideAll s'.heap (a::T::frs X.stack)) (cls:=.ref C) (a0:=a0) hA (by rw[<- hs];exact Xb8 hI fun b hb=>PySem.W.hideAll_none _ (.tail _ (.tail _ hb))) hf ⟨oa,va,T,oT,ts,ea,⟨ca,v0⟩,da,e3,PySem.W.hideAll_none _ (.tail _ (.head _)),e6,e8,e9,e10⟩ (fun b o e=>PySem.W.of_hideAll _ e) (PySem.W.hideAll_none _ (.head _)) fun h' hL=>?_
  exact fin _ h' hl (fun b hb h1 h2=>by
   rcases List.mem_cons.mp hb with z|z
   ·exact absurd z h1
   ·rcases List.mem_cons.mp z with z|z
    ·subst z
     rcases e4 with e4|e4
     ·rw[hx] at e4;cases e4
     ·exact e4
    ·exact absurd z h2) hL
noncomputable def cxC(cm:Bool)(P:Program)(w:World)(K:PySem.W.Frag)(mg:Str->Option Value)(base:Heap)(N:List Str)(qual:Str)(scope:Scope)(f:Addr)(cd:Value)(A:Around)(outer:List PySem.Env)(s:Shared)(H:Hp)(E:XK):Cx :=
 { Xlb (CXd P w) P w K mg base N qual scope f cd A outer s H E with calm:=cm }
theorem Xxa{cm:Bool}{P:Program}{w:World}{K:PySem.W.Frag}{mg:Str->Option Value}{base:Heap}{k:Nat}{f:Addr}{name qual:Str}{params:Arguments}{body:List Stmt}{scope:Scope}{dV kV doc pm cdv ct oc:Value}{an od:Option Addr}
  {osl:Array (Option Value)} {N ps:List Str} {G:En->Sto->R Fl} {na:Bool} (lk:K.lookup f=some ⟨oc,od,.func (PySem.W.fnOf name qual params body scope dV kV doc pm an cdv ct),osl⟩) (hcd:PySem.W.codeIn K cdv qual=true) (S:FnScope N ps scope)
  (hbody:∀ (A:Around) (outer:List PySem.Env) (s:Shared) (H:Hp) (E:XK),RoomC cm k (A.deeper (envOfC qual scope s.heap.objs.size f cdv))->DSs (cxC cm P w K mg base N qual scope f cdv A outer s H E) body na G) :
  FnD cm P w K mg base (k+1) f (PySem.W.fnOf name qual params body scope dV kV doc pm an cdv ct) ps (fun ds S=>if ds.length=ps.length then
   match G (ds.map some++List.replicate (N.length-ps.length) none) S with
   | .ok (.rt v) S=>.ok v S
   | .ok (.nx _) S=>.ok .non S
   | .ok _ _=>.bad
   | .ex n S=>.ex n S
   | .bad=>.bad else .bad):=by
 refine⟨fun A outer s H args us vs Q E hr e0 hb r hsp=>?_⟩
 obtain⟨ds,ρ,S0',hl,rd,sr,nb,hok,hex⟩:=hsp;have hl':ds.length=ps.length:=by rw[rd.length];exact hl
 dsimp only at nb hok hex;rw[if_pos hl'] at nb;simp only[if_pos hl'] at hok hex;have KX:K.In s.heap:=e0.mod.kin.keeps fun b o e=>(e0.bs b o e).1
 have lim:s.heap.NoLimit:=e0.mod.nolimit.keeps fun b o e=>(e0.bs b o e).1
 have hkind:∀ y∈ps.zip us,scope.names.lookup y.1=some .local\/(scope.names.lookup y.1=some .cell/\((cellsFrom (s.heap.objs.size+1) scope.names []).lookup y.1).isSome=true):=fun⟨n,v⟩ hy=>by
  rcases S.par n (List.of_mem_zip hy).1 with q|q
  ·exact .inl q
  ·exact .inr ⟨q,PySem.W.cellsFrom_some _ _ _ (.inl q)⟩
 refine codeAny_call_function (by have:=hr.dp;omega) (KX _ _ lk) rfl S.co S.gen rfl (PySem.W.codeRec_of KX hcd) (hb _ _ _ _ ?_)
 refine wpAny_newFunctionEnv_cells S.kind hkind fun env he s1 x=>?_
 subst he;refine⟨lim.keeps x.toInCall.keep,codeAny_func ?_⟩;have hD:=hbody A outer s H E (hr.deeper _);have e0':Env0 P w K mg base { A with handled:=none } outer s H:=⟨e0.frames,e0.mod,e0.bs,e0.bsz,e0.funs,e0.frf,e0.hok,e0.bare⟩
 have I:Inv (cxC cm P w K mg base N qual scope f cdv A outer s H E) [] (start N vs) H s1:=by
  have I0:Inv (Xlb (CXd P w) P w K mg base N qual scope f cdv { A with handled:=none } outer s H E) [] (start N vs) H s1:=Xnd S rfl e0' hl r x
  exact⟨⟨I0.ok.mod,I0.ok.kind,I0.ok.glob,I0.ok.blt,I0.ok.above,I0.ok.inj,I0.ok.has,I0.ok.cab,(fun z=>hr.hd z),I0.ok.frames,I0.ok.stk,I0.ok.exf,I0.ok.bs,I0.ok.bsz,I0.ok.noex,I0.ok.exfs,I0.ok.funs,I0.ok.frf⟩,I0.os,I0.bare,I0.base,I0.loc,I0.cell,I0.free,I0.freeC,I0.pin,I0.hok,I0.len⟩
 have J:S0 (cxC cm P w K mg base N qual scope f cdv A outer s H E) [] (start N vs) H s1 ρ S0' (ds.map some++List.replicate (N.length-ps.length) none):=by
  refine⟨I,sr,⟨?_,fun i d e=>?_⟩⟩
  ·unfold L2.start;simp[rd.length,hl]
  ·by_cases hi:i<ds.length
   ·rw[List.getElem?_append_left (by simpa using hi),List.getElem?_map] at e
    cases q:ds[i]? with
    | none=>rw[q] at e;cases e
    | some d' =>
     rw[q] at e;cases e;obtain⟨v,h1,h2⟩:=rd.get q;refine⟨v,?_,h2⟩;unfold L2.start;rw[List.getElem?_append_left (by rw[List.length_map,<- rd.length];exact hi),List.getElem?_map,h1];rfl
   ·rw[List.getElem?_append_right (by simpa using hi),List.getElem?_replicate] at e
    split at e<;>cases e
 have nb':G (ds.map some++List.replicate (N.length-ps.length) none) S0'≠.bad:=fun z=>nb (by rw[z])
 refine wpAny_mono (hD [] s1 (start N vs) H ρ S0' _ J nb') (fun fl s' hs=>?_) fun e s' hs=>?_
 ·obtain⟨y,S1,e1,hs⟩:=hs
  rw[e1] at nb hok;cases y with
  | nx e =>
   obtain⟨rfl,σ',H',ρ',J',st',_⟩:=hs;exact⟨.non,H',J'.inv.os,J'.inv.bare,J'.inv.base,J'.inv.hok,rfl,hok .non S1 .non H' ρ' rfl (by simp only[RD]) J'.sr st'⟩
  | rt d =>
   obtain⟨u,v,σ',H',ρ',rfl,J',rv,rd',sr',st'⟩:=hs;exact⟨v,H',J'.os,J'.bare,J'.base,J'.hok,rv,hok d S1 v H' ρ' rfl rd' sr' st'⟩
  | brk e=>exact absurd rfl nb
  | cnt e=>exact absurd rfl nb
 ·obtain⟨n,S1,σ',e1,_,H',ρ',a,c,J',rfl,hn,hc,sr',st',fl⟩:=hs
  rw[e1] at hex;obtain⟨C,_,ha⟩:=(show ∃ C,Xac K c=some C/\H' a=some (.ext (ExcO C a)) from sr'.ob n a _ hn hc);exact Xto J' rfl rfl rfl ha fl fun h' un hok tr=>⟨H',J'.os,J'.bare,un,hok,⟨a,rfl,tr⟩,hex n c S1 a H' ρ' rfl hn hc sr' st'⟩
end
end Z
end
section
namespace Z
open PySem PySem.Spec PyProof.Rows L2
theorem Xbo{X:Cx}{pins:List (Addr×Obj)}{σ:L2.St}{H:Hp}{s:Shared}{h':Heap}{t':Nat}{fp:List Addr}(I:Inv X pins σ H s)(hf:∀ b∈fp,Y9 X pins H b)
  (k:∀ b o,b ∉ fp->s.heap.get? b=some o->h'.get? b=some o):Inv X pins σ H { s with heap:=h',toks:=t' }:=by
 have nit:∀ b u,H b=some u->b ∉ fp:=fun b u e z=>by rw[(hf b z).1] at e;cases e
 refine I.step (g':=s.gens) (d':=s.drawn) (ch:=fp) (fun b hb=>⟨(hf b hb).2.2.2.1,(hf b hb).2.1,(hf b hb).2.2.2.2.1,(hf b hb).2.2.2.2.2⟩)
  (fun b o _ _ hc e _=>k b o hc e) (fun b o _ _ hc e _=>⟨o.slots,k b o hc e⟩) (fun _ _ _ _ n=>n)
  (fun b o hc e=>⟨o,k b o hc e⟩) (fun _ _ e=>e) (fun _ _ _ e=>e) (fun b ps e=>⟨#[],by rw[e];simp⟩) (fun m hm=>?_) (fun b u e=>?_) I.bare
 ·obtain⟨o,es,ep,ho,r⟩:=hm
  exact⟨o,es,ep,k _ o (fun z=>(hf _ z).2.1 rfl) ho,r⟩
 ·refine(I.hok b u e).stay (fun c v hc q=>k c v ?_ q) (fun _ q=>q) fun _ _ q=>q
  rcases hc with z|z
  ·rw[z];exact nit b u e
  ·exact nit c _ z
def SqK(k:Bool)(h:Heap)(a:Addr)(xs:Array Value):Prop:=match k with
 | true=>h.IsList a xs
 | false=>h.IsTuple a xs
def ItK(k:Bool)(h:Heap)(i a:Addr)(n:Nat):Prop:=match k with
 | true=>h.IsListIter i a n
 | false=>h.IsTupleIter i a n
def SqH(k:Bool)(K:PySem.W.Frag)(H:Hp)(a:Addr)(vs:List V):Prop:=match k with
 | true=>SqL K H a vs
 | false=>SqT K H a vs
section
variable{k:Bool}{h h':Heap}{a b i:Addr}{n:Nat}{xs:Array Value}
theorem SqK.at(x:SqK k h a xs)(e:∀ o,h.get? a=some o->h'.get? a=some o):SqK k h' a xs:=by
 cases k<;>(obtain⟨o,ho,r⟩:=x;exact⟨o,e _ ho,r⟩)
theorem ItK.at(x:ItK k h i a n)(e:∀ o,h.get? i=some o->h'.get? i=some o):ItK k h' i a n:=by
 cases k<;>(obtain⟨o,ho,r⟩:=x;exact⟨o,e _ ho,r⟩)
theorem SqK.obj(x:SqK k h a xs):∃ o,h.get? a=some o/\(o.cls=.type "list" \/ o.cls=.type "tuple"):=by
 cases k
 ·obtain⟨o,e,c,_⟩:=x;exact⟨o,e,.inr c⟩
 ·obtain⟨o,e,c,_⟩:=x;exact⟨o,e,.inl c⟩
theorem ItK.obj(x:ItK k h i a n):∃ o,h.get? i=some o/\(o.cls=.type "list_iterator" \/ o.cls=.type "tuple_iterator")/\∀ v,o.data≠.cell v:=by
 cases k
 ·obtain⟨o,e,c,d⟩:=x;exact⟨o,e,.inr c,fun v z=>by rw[d] at z;cases z⟩
 ·obtain⟨o,e,c,d⟩:=x;exact⟨o,e,.inl c,fun v z=>by rw[d] at z;cases z⟩
end
theorem Xay{X:Cx}{pins:List (Addr×Obj)}{σ:L2.St}{H:Hp}{s:Shared}{k:Bool}{a:Addr}{vs:List V}(I:Inv X pins σ H s)(h:SqH k X.K H a vs):∃ its:List Value,Vals vs its/\SqK k s.heap a its.toArray:=by
 cases k
 ·obtain⟨its,rv,p,_⟩:=I.tuple h;exact⟨its,rv,show s.heap.IsTuple a its.toArray from p⟩
 ·obtain⟨its,rv,p,_⟩:=I.list h;exact⟨its,rv,p.isList⟩
theorem Xbu{X:Cx}{pins:List (Addr×Obj)}{σ:L2.St}{H:Hp}{s:Shared}{k:Bool}{a:Addr}{vs us:List V}(I:Inv X pins σ H s)(h:SqH k X.K H a vs)(h':SqH k X.K H a us):vs=us:=by
 cases k
 ·exact I.tuple_inj h h'
 ·exact I.list_inj h h'
section
variable{prog:Program}{w:World}{A:Around}{E:Value->Shared->Prop}{s:Shared}
theorem Xpt{it t:Addr}{i:Nat}{items:Array Value}{x:Value}{Q:Value->Shared->Prop}(hit:s.heap.IsTupleIter it t i)(ht:s.heap.IsTuple t items)(hx:items[i]?=some x)
  (hQ:∀ h',h'.IsTupleIter it t (i+1)->Heap.SameBut it s.heap h'->Q x { s with heap:=h' }):wpAny (model prog w) A (Builtin.SmallTypes.nextOf (.ref it)) Q E s:=by
 obtain⟨o,ho,hc,hd⟩:=id hit;obtain⟨ol,hol,_,nl,hdl⟩:=ht;unfold Builtin.SmallTypes.nextOf;refine wpAny_bind (wpAny_callSpecial?_slot (name:=Str.ofString "__next__") hit.typeIs F.slot_tuple_iterator_next (wpAny_call_entry F.slot_tuple_iterator_next hit.typeIs F.entry_tuple_iterator_next ?_ (F.args_tuple_iterator_next_1 _)));show wpAny _ _ (field (.ref it) 0 >>= _) _ _ s;refine wpAny_bind (wpAny_field ho hd (x:=.ref t) rfl ?_);show wpAny _ _ (if (Value.ref t==Value.none)=true then _ else _) _ _ s;rw[if_neg (show ¬ ((Value.ref t==Value.none)=true) from Bool.false_ne_true)]
 show wpAny _ _ (field (.ref it) 1 >>= _) _ _ s;refine wpAny_bind (wpAny_field ho hd (x:=.int i 0) rfl ?_);show wpAny _ _ (seqItems? (.ref t) >>= _) _ _ s;refine wpAny_bind (wpAny_seqItems hol hdl ?_);simp only[Int.toNat_natCast,hx];refine wpAny_bind (wpAny_setField ho hd (by simp) (wpAny_pure ⟨x,rfl,wpAny_pure (hQ _ ⟨_,Heap.get?_update_self _ ho (Obj.isFreed_of_fields (Obj.data_mapFields hd _)),(Obj.cls_mapFields ..).trans hc,by rw[Obj.data_mapFields hd];simp[rawInt]⟩ (Heap.SameBut.update ..))⟩))
theorem Xtp{it t:Addr}{i:Nat}{items:Array Value}{Q:Value->Shared->Prop}(hh:A.handled=none)(hit:s.heap.IsTupleIter it t i)(ht:s.heap.IsTuple t items)(hx:items[i]?=none)
  (hE:∀ h' e,Heap.ExtBut it s.heap h'->(∃ o,h'.get? e=some o/\o.cls=.type "StopIteration")->E (.ref e) { s with heap:=h' }):wpAny (model prog w) A (Builtin.SmallTypes.nextOf (.ref it)) Q E s:=by
 obtain⟨o,ho,hc,hd⟩:=id hit;obtain⟨ol,hol,_,nl,hdl⟩:=ht;unfold Builtin.SmallTypes.nextOf;refine wpAny_bind (wpAny_callSpecial?_slot (name:=Str.ofString "__next__") hit.typeIs F.slot_tuple_iterator_next (wpAny_call_entry F.slot_tuple_iterator_next hit.typeIs F.entry_tuple_iterator_next ?_ (F.args_tuple_iterator_next_1 _)));show wpAny _ _ (field (.ref it) 0 >>= _) _ _ s;refine wpAny_bind (wpAny_field ho hd (x:=.ref t) rfl ?_);show wpAny _ _ (if (Value.ref t==Value.none)=true then _ else _) _ _ s;rw[if_neg (show ¬ ((Value.ref t==Value.none)=true) from Bool.false_ne_true)]
 show wpAny _ _ (field (.ref it) 1 >>= _) _ _ s;refine wpAny_bind (wpAny_field ho hd (x:=.int i 0) rfl ?_);show wpAny _ _ (seqItems? (.ref t) >>= _) _ _ s;refine wpAny_bind (wpAny_seqItems hol hdl ?_);simp only[Int.toNat_natCast,hx];refine wpAny_bind (wpAny_rule (wpAny_bind (wpAny_setField ho hd (by simp) ?_)))
 show wpAny _ _ (newExc (.type "StopIteration") [] >>= _) _ _ _;refine wpAny_bind ?_;simp only[newExc,newTuple];refine wpAny_bind (wpAny_newObj_type ?_ (by size_fits));refine wpAny_bind (m:=firstArgMember _ _) (wpAny_of_eq (a:=Value.none) (by first|rfl|(simp only[firstArgMember];rfl)) ?_)
 refine wpAny_newObj_type ?_ (by size_fits);simp only[raiseNew];refine wpAny_bind (wpAny_handled ?_)
 first|rw[show A.in1.handled=none from hh]|rw[hh]
 exact wpAny_bind (wpAny_pure (wpAny_throw (hE _ _ (((Heap.SameBut.update ..).extBut.push _).push _) ⟨_,Heap.get?_push_size _ rfl,rfl⟩)))
theorem nxK{k:Bool}{it t:Addr}{i:Nat}{items:Array Value}{x:Value}{Q:Value->Shared->Prop}(hit:ItK k s.heap it t i)(ht:SqK k s.heap t items)(hx:items[i]?=some x)
  (hQ:∀ h',ItK k h' it t (i+1)->Heap.SameBut it s.heap h'->Q x { s with heap:=h' }):wpAny (model prog w) A (Builtin.SmallTypes.nextOf (.ref it)) Q E s:=by
 cases k
 ·exact Xpt hit ht hx hQ
 ·exact wpAny_nextOf_list_item hit ht hx hQ
theorem Xig{k:Bool}{it t:Addr}{i:Nat}{items:Array Value}{Q:Value->Shared->Prop}(hh:A.handled=none)(hit:ItK k s.heap it t i)(ht:SqK k s.heap t items)(hx:items[i]?=none)
  (hE:∀ h' e,Heap.ExtBut it s.heap h'->(∃ o,h'.get? e=some o/\o.cls=.type "StopIteration")->E (.ref e) { s with heap:=h' }):wpAny (model prog w) A (Builtin.SmallTypes.nextOf (.ref it)) Q E s:=by
 cases k
 ·exact Xtp hh hit ht hx hE
 ·exact wpAny_nextOf_list_end hh hit ht hx hE
noncomputable def Xb9(k:Bool):String:=match k with
 | true => "list_iterator"
 | false => "tuple_iterator"
theorem Xhs{k:Bool}{a:Addr}{xs:Array Value}{Q:Value->Shared->Prop}(h:SqK k s.heap a xs)(hQ:Q (.ref s.heap.objs.size) { s with heap:=s.heap.push { cls:=.type (Xb9 k),data:=.fields #[.ref a,.int 0 0] } }) :
  wpAny (model prog w) A (pyIter (.ref a)) Q E s:=by
 cases k
 ·exact wpAny_pyIter_tuple h hQ
 ·exact wpAny_pyIter_list h hQ
theorem Xfx{k:Bool}{h:Heap}{i a:Addr}(e:h.get? i=some { cls:=.type (Xb9 k),data:=.fields #[.ref a,.int 0 0] }):ItK k h i a 0:=by
 cases k<;>exact⟨_,e,rfl,rfl⟩
end
structure ZAp(z I O i j a b:Addr):Prop where
 Iz:I≠z
 Oz:O≠z
 iz:i≠z
 jz:j≠z
 IO:I≠O
 Ii:I≠i
 Ij:I≠j
 Oi:O≠i
 Oj:O≠j
 ij:i≠j
 a_:a≠z/\a≠O/\a≠i/\a≠j
 b_:b≠z/\b≠O/\b≠i/\b≠j
abbrev IsZ(h:Heap)(z I O:Addr)(f0 f1:Value):Prop :=
 h.get? z=some { cls:=.type "zip",dict:=none,data:=.fields #[f0,f1,.bool false,.ref I,.ref O],slots:=#[] }
structure ZSa(k1 k2:Bool)(z I O i j a b:Addr)(n m:Nat)(h:Heap):Prop where
 zo:∃ f0 f1,IsZ h z I O f0 f1/\(f0=.none\/∃ T:Nat,f0=rawInt T)
 io:IsPair h I (.ref i) (.ref j)
 oo:∃ x y,IsPair h O x y
 i1:ItK k1 h i a n
 i2:ItK k2 h j b m
section
variable(k1 k2:Bool)(h:Heap)(a b:Addr)
noncomputable abbrev zp1:Heap:=h.push { cls:=.type (Xb9 k1),data:=.fields #[.ref a,.int 0 0] }
noncomputable abbrev zp2:Heap:=(zp1 k1 h a).push { cls:=.type (Xb9 k2),data:=.fields #[.ref b,.int 0 0] }
noncomputable abbrev zp3:Heap:=(zp2 k1 k2 h a b).push { cls:=.type "tuple",data:=.seq #[.ref h.objs.size,.ref (zp1 k1 h a).objs.size] }
noncomputable abbrev zp4:Heap:=(zp3 k1 k2 h a b).push { cls:=.type "tuple",data:=.seq #[.none,.none] }
noncomputable abbrev zp5:Heap:=(zp4 k1 k2 h a b).push { cls:=.type "zip",data:=.fields #[.none,.bool false,.bool false,.ref (zp2 k1 k2 h a b).objs.size,.ref (zp3 k1 k2 h a b).objs.size] }
end
theorem Xnm(k1 k2:Bool)(a b:Addr)(xs ys:Array Value):Meets (Builtin.«zip.__new__» ⟨[.type "zip",.ref a,.ref b],[]⟩) (fun _ R s=>SqK k1 s.heap a xs/\SqK k2 s.heap b ys/\R (.ok (.ret (.ref (zp4 k1 k2 s.heap a b).objs.size))) { s with heap:=zp5 k1 k2 s.heap a b }) :=
 .of_wp fun prog w A R s h=>by
  obtain⟨hp,g,d,tk,os⟩:=s;obtain⟨h1,h2,h⟩:=h;have hsub:=sub_zip;have L1:SqK k1 (Shared.heap ⟨hp,g,d,tk,os⟩) a xs:=h1;have L2:SqK k2 (Shared.heap ⟨hp.push { cls:=.type (Xb9 k1),data:=.fields #[.ref a,.int 0 0] },g,d,tk,os⟩) b ys:=h2.at fun o e=>Heap.get?_push_of_some _ e
  wp_walk using Xhs L1,Xhs L2
  exact⟨_,rfl,h⟩
theorem Xpu{prog:Program}{w:World}{A:Around}{E:Value->Shared->Prop}{s:Shared}{k1 k2:Bool}{a b:Addr}{xs ys:Array Value}{Q:Value->Shared->Prop}(h1:SqK k1 s.heap a xs)(h2:SqK k2 s.heap b ys)
  (h:∀ h',ZSa k1 k2 (s.heap.objs.size+4) (s.heap.objs.size+2) (s.heap.objs.size+3) s.heap.objs.size (s.heap.objs.size+1) a b 0 0 h'->(∀ c o,s.heap.get? c=some o->h'.get? c=some o)->Q (.ref (s.heap.objs.size+4)) { s with heap:=h' }) :
  wpAny (model prog w) A (call (.type "zip") [.ref a,.ref b]) Q E s:=by
 refine callType_new F.called_zip (by decide) (F.typeCall_zip_2 _ _) (F.newCall_zip_2 _ _) (fun obj=>F.args_object_init_3 obj _ _) F.entry_zip_new (Xnm k1 k2 a b xs ys) ⟨h1,h2,?_⟩
 have z1:(zp1 k1 s.heap a).objs.size=s.heap.objs.size+1:=Heap.size_push ..;have z2:(zp2 k1 k2 s.heap a b).objs.size=s.heap.objs.size+2:=by rw[Heap.size_push,z1]
 have z3:(zp3 k1 k2 s.heap a b).objs.size=s.heap.objs.size+3:=by rw[Heap.size_push,z2]
 have z4:(zp4 k1 k2 s.heap a b).objs.size=s.heap.objs.size+4:=by rw[Heap.size_push,z3]
 have g5:(zp5 k1 k2 s.heap a b).get? (zp4 k1 k2 s.heap a b).objs.size=some _:=Heap.get?_push_size _ rfl;have g4:(zp5 k1 k2 s.heap a b).get? (zp3 k1 k2 s.heap a b).objs.size=some _:=Heap.get?_push_of_some _ (Heap.get?_push_size _ rfl);have g3:(zp5 k1 k2 s.heap a b).get? (zp2 k1 k2 s.heap a b).objs.size=some _:=Heap.get?_push_of_some _ (Heap.get?_push_of_some _ (Heap.get?_push_size _ rfl));have g2:(zp5 k1 k2 s.heap a b).get? (zp1 k1 s.heap a).objs.size=some _:=Heap.get?_push_of_some _ (Heap.get?_push_of_some _ (Heap.get?_push_of_some _ (Heap.get?_push_size _ rfl)));have g1:(zp5 k1 k2 s.heap a b).get? s.heap.objs.size=some _:=Heap.get?_push_of_some _ (Heap.get?_push_of_some _ (Heap.get?_push_of_some _ (Heap.get?_push_of_some _ (Heap.get?_push_size _ rfl))));show _/\_;rw[z2,z3,z4] at g5;rw[z1,z2] at g3;rw[z3] at g4;rw[z1] at g2;rw[z4];exact⟨⟨_,g5,rfl⟩,h _ ⟨⟨_,_,g5,.inl rfl⟩,g3,⟨_,_,g4⟩,Xfx g1,Xfx g2⟩ fun c o q=>Heap.get?_push_of_some _ (Heap.get?_push_of_some _ (Heap.get?_push_of_some _ (Heap.get?_push_of_some _ (Heap.get?_push_of_some _ q))))⟩
noncomputable def Itz(K:PySem.W.Frag)(k1 k2:Bool)(a b:Addr):L2.It :=
 ⟨fun n H=>∃ xs x ys y,SqH k1 K H a xs/\xs[n]?=some x/\SqH k2 K H b ys/\ys[n]?=some y,
   fun n H v H'=>∃ T x y,v=.ref T/\H T=none/\H'=upd H T (.tup [x,y])/\(∀ xs,SqH k1 K H a xs->xs[n]?=some x)/\∀ ys,SqH k2 K H b ys->ys[n]?=some y,
   fun n H=>∃ xs ys,SqH k1 K H a xs/\SqH k2 K H b ys/\(xs.length<=n\/ys.length<=n)⟩
theorem Xcs{h:Heap}{o u:Obj}{c:Addr}(e:(h.push o).get? c=some u)(hc:c≠h.objs.size):h.get? c=some u:=by
 rw[Heap.get?_push_ne h c o hc] at e;exact e
end Z
end
section
namespace Z
open PySem PySem.Spec PyProof.Rows L2
section
variable{prog:Program}{w:World}{A:Around}{E:Value->Shared->Prop}{s:Shared}{k1 k2:Bool}{z I O i j a b:Addr}{f0 f1:Value}{n:Nat}{xs ys:Array Value}{x y:Value}
theorem Xg4{M:Model}{a:Addr}{Q:Option Obj->Shared->Prop}(h:Q (s.heap.get? a) s):wpAny M A (loadIfAlive a) Q E s:=fun _ _ _=>h
theorem Xih{Q':Bool->Shared->Prop}(hz:IsZ s.heap z I O f0 f1)(hf:f0=.none\/∃ T:Nat,f0=rawInt T)(h1:Q' true s)(h2:∀ h' (T:Nat),IsZ h' z I O (rawInt T) (.bool true)->Heap.SameBut z s.heap h'->Q' false { s with heap:=h' }):wpAny (model prog w) A (Builtin.SmallTypes.ownedTupleIsFree (.ref z)) Q' E s:=by
 unfold Builtin.SmallTypes.ownedTupleIsFree;rcases hf with rfl|⟨T,rfl⟩
 ·exact wpAny_bind (wpAny_field hz rfl (x:=.none) rfl (wpAny_pure h1))
 ·refine wpAny_bind (wpAny_field hz rfl (x:=rawInt T) rfl ?_)
  show wpAny _ _ (loadIfAlive (Int.toNat (T:Int)) >>= _) _ _ _;refine wpAny_bind (Xg4 ?_);cases s.heap.get? (Int.toNat (T:Int)) with
  | none =>
   simp only[Option.isNone_none,if_true];exact wpAny_pure h1
  | some o =>
   simp only[Option.isNone_some,Bool.false_eq_true,if_false];refine wpAny_bind (wpAny_field hz rfl (x:=f1) rfl ?_);split
   ·exact wpAny_bind (wpAny_setField_rec hz (by simp) fun g5 e5 c5=>wpAny_pure (h2 g5 T e5 c5))
   ·rename_i hf
    have:f1=.bool true:=by simpa using hf
    subst this;exact wpAny_pure (h2 s.heap T hz (Heap.SameBut.refl ..))
theorem Xkb{Q:Value->Shared->Prop}(D:ZAp z I O i j a b)(st:ZSa k1 k2 z I O i j a b n n s.heap)(ha:SqK k1 s.heap a xs)(hb:SqK k2 s.heap b ys)(hx:xs[n]?=some x)(hy:ys[n]?=some y)
  (hQ:∀ h',h'.objs.size=s.heap.objs.size+1->ZSa k1 k2 z I O i j a b (n+1) (n+1) h'->IsPair h' s.heap.objs.size x y->(∀ c o,c≠z->c≠O->c≠i->c≠j->s.heap.get? c=some o->h'.get? c=some o)->Q (.ref s.heap.objs.size) { s with heap:=h' }) :
  wpAny (model prog w) A (Builtin.«zip.__next__» ⟨[.ref z],[]⟩) (fun fin s'=>∃ v,fin=.done (.ret v)/\Q v s') E s:=by
 obtain⟨⟨f0,f1,hz,hf⟩,hI,⟨a0,b0,hO⟩,h1,h2⟩:=st;show wpAny _ _ (field (.ref z) 2 >>= _) _ _ _;refine wpAny_bind (wpAny_field hz rfl (x:=.bool false) rfl ?_);show wpAny _ _ (field (.ref z) 3 >>= _) _ _ _;refine wpAny_bind (wpAny_field hz rfl (x:=.ref I) rfl (wpAny_bind (wpAny_seqItems hI rfl ?_)));show wpAny _ _ (Builtin.SmallTypes.ownedTupleIsFree (.ref z) >>= _) _ _ _;refine wpAny_bind (Xih hz hf ?_ fun g1 T z1 c1=>?_)
 ·simp only[if_true]
  refine wpAny_bind (wpAny_rule (wpAny_bind (wpAny_field hz rfl (x:=.ref O) rfl (wpAny_bind (wpAny_setField_rec hz (by simp) fun g1 z1 c1=>?_)))))
  replace z1:IsZ g1 z I O .ellipsis f1:=z1
  refine wpAny_bind ?_;simp only[List.zipIdx_cons,List.zipIdx_nil,List.forIn_cons,List.forIn_nil];refine wpAny_bind (wpAny_bind (wpAny_onRaise ?_));show wpAny _ _ (Builtin.SmallTypes.nextOf (.ref i) >>= _) _ _ _;refine wpAny_bind (nxK (h1.at fun o e=>c1.extBut _ _ D.iz e) (ha.at fun o e=>c1.extBut _ _ D.a_.1 e) hx fun g2 i2 c2=>wpAny_pure ?_)
  have o2:IsPair g2 O a0 b0:=c2.extBut _ _ D.Oi (c1.extBut _ _ D.Oz hO);refine wpAny_bind (wpAny_seqItems o2 rfl (wpAny_bind (wpAny_updateSeq_pair o2 fun g3 o3 c3=>?_)))
  replace o3:IsPair g3 O x b0:=o3
  refine wpAny_bind (wpAny_letGo (wpAny_pure (wpAny_bind (wpAny_bind (wpAny_onRaise ?_)))));show wpAny _ _ (Builtin.SmallTypes.nextOf (.ref j) >>= _) _ _ _;have u3:∀ c o,c≠z->c≠O->c≠i->s.heap.get? c=some o->g3.get? c=some o:=fun c o e1 e2 e3 e=>c3.extBut _ _ e2 (c2.extBut _ _ e3 (c1.extBut _ _ e1 e))
  refine wpAny_bind (nxK (h2.at fun o e=>u3 j o D.jz D.Oj.symm D.ij.symm e) (hb.at fun o e=>u3 b o D.b_.1 D.b_.2.1 D.b_.2.2.1 e) hy fun g4 j4 c4=>wpAny_pure ?_)
  have o4:IsPair g4 O x b0:=c4.extBut _ _ D.Oj o3;refine wpAny_bind (wpAny_seqItems o4 rfl (wpAny_bind (wpAny_updateSeq_pair o4 fun g5 o5 c5=>?_)))
  replace o5:IsPair g5 O x y:=o5
  refine wpAny_bind (wpAny_letGo (wpAny_pure (wpAny_pure (wpAny_bind (wpAny_seqItems o5 rfl (wpAny_bind (wpAny_newTuple ?_)))))));have sz:g5.objs.size=s.heap.objs.size:=by rw[c5.1,c4.1,c3.1,c2.1,c1.1]
  have z5:IsZ g5 z I O .ellipsis f1:=c5.extBut _ _ D.Oz.symm (c4.extBut _ _ D.jz.symm (c3.extBut _ _ D.Oz.symm (c2.extBut _ _ D.iz.symm z1)));have u5:∀ c o,c≠z->c≠O->c≠i->c≠j->s.heap.get? c=some o->g5.get? c=some o:=fun c o e1 e2 e3 e4 e=>c5.extBut _ _ e2 (c4.extBut _ _ e4 (u3 c o e1 e2 e3 e))
  have i5:ItK k1 g5 i a (n+1):=i2.at fun o e=>c5.extBut _ _ D.Oi.symm (c4.extBut _ _ D.ij (c3.extBut _ _ D.Oi.symm e))
  have j5:ItK k2 g5 j b (n+1):=j4.at fun o e=>c5.extBut _ _ D.Oj.symm e
  have zlt:z<g5.objs.size:=Heap.lt_size z5;show wpAny _ _ (Builtin.SmallTypes.ownedTupleHandOut (.ref z) (.ref g5.objs.size) >>= _) _ _ _;refine wpAny_bind ?_;unfold Builtin.SmallTypes.ownedTupleHandOut;refine wpAny_bind (wpAny_setField_rec (Heap.get?_push_of_some _ z5:IsZ (g5.push { cls:=.type "tuple",data:=.seq #[x,y] }) z I O .ellipsis f1) (by simp) fun g7 z7 c7=>?_)
  replace z7:IsZ g7 z I O (rawInt g5.objs.size) f1:=z7
  refine wpAny_setField_rec z7 (by simp) fun g8 z8 c8=>?_
  replace z8:IsZ g8 z I O (rawInt g5.objs.size) (.bool false):=z8
  have up:∀ c o,c≠z->g5.get? c=some o->g8.get? c=some o:=fun c o e1 e=>c8.extBut _ _ e1 (c7.extBut _ _ e1 (Heap.get?_push_of_some _ e))
  have t8:IsPair g8 g5.objs.size x y:=c8.extBut _ _ (Nat.ne_of_gt zlt) (c7.extBut _ _ (Nat.ne_of_gt zlt) (Heap.get?_push_size _ rfl));rw[sz] at z8 t8;refine wpAny_pure ⟨_,rfl,?_⟩;show Q (.ref g5.objs.size) _;rw[sz];exact hQ g8 (by rw[c8.1,c7.1,Heap.size_push,sz]) ⟨⟨_,_,z8,.inr ⟨_,rfl⟩⟩,up _ _ D.Iz (u5 _ _ D.Iz D.IO D.Ii D.Ij hI),⟨_,_,up _ _ D.Oz o5⟩,i5.at fun o e=>up _ o D.iz e,j5.at fun o e=>up _ o D.jz e⟩ t8 fun c o e1 e2 e3 e4 e=>up c o e1 (u5 c o e1 e2 e3 e4 e)
 ·replace c1:Heap.SameBut z s.heap g1:=c1
  simp only[Bool.false_eq_true,if_false];rw[show(#[Value.ref i,Value.ref j]:Array Value)=[Value.ref i,Value.ref j].toArray from rfl];refine wpAny_bind ?_;simp only[List.forIn_toArray,List.forIn_cons,List.forIn_nil];refine wpAny_bind (wpAny_bind (wpAny_holding ?_));show wpAny _ _ (Builtin.SmallTypes.nextOf (.ref i) >>= _) _ _ _;refine wpAny_bind (nxK (h1.at fun o e=>c1.extBut _ _ D.iz e) (ha.at fun o e=>c1.extBut _ _ D.a_.1 e) hx fun g2 i2 c2=>wpAny_pure ?_)
  replace c2:Heap.SameBut i g1 g2:=c2
  refine wpAny_pure ?_;dsimp only;refine wpAny_bind (wpAny_bind (wpAny_holding ?_));show wpAny _ _ (Builtin.SmallTypes.nextOf (.ref j) >>= _) _ _ _;have u2:∀ c o,c≠z->c≠i->s.heap.get? c=some o->g2.get? c=some o:=fun c o e1 e3 e=>c2.extBut _ _ e3 (c1.extBut _ _ e1 e)
  refine wpAny_bind (nxK (h2.at fun o e=>u2 j o D.jz D.ij.symm e) (hb.at fun o e=>u2 b o D.b_.1 D.b_.2.2.1 e) hy fun g4 j4 c4=>wpAny_pure ?_)
  replace c4:Heap.SameBut j g2 g4:=c4
  refine wpAny_pure ?_;dsimp only;refine wpAny_pure ?_;dsimp only;show wpAny _ _ (newTuple [x,y] >>= _) _ _ _;refine wpAny_bind (wpAny_newTuple ?_);have sz:g4.objs.size=s.heap.objs.size:=by rw[c4.1,c2.1,c1.1]
  have z4:IsZ g4 z I O (rawInt T) (.bool true):=c4.extBut _ _ D.jz.symm (c2.extBut _ _ D.iz.symm z1);have u4:∀ c o,c≠z->c≠i->c≠j->s.heap.get? c=some o->g4.get? c=some o:=fun c o e1 e3 e4 e=>c4.extBut _ _ e4 (u2 c o e1 e3 e)
  have i4:ItK k1 g4 i a (n+1):=i2.at fun o e=>c4.extBut _ _ D.ij e
  refine wpAny_pure ⟨_,rfl,?_⟩;show Q (.ref g4.objs.size) _;rw[sz];refine hQ _ (by rw[Heap.size_push,sz]) ⟨⟨_,_,Heap.get?_push_of_some _ z4,.inr ⟨T,rfl⟩⟩,Heap.get?_push_of_some _ (u4 _ _ D.Iz D.Ii D.Ij hI),⟨_,_,Heap.get?_push_of_some _ (u4 _ _ D.Oz D.Oi D.Oj hO)⟩,i4.at fun o e=>Heap.get?_push_of_some _ e,j4.at fun o e=>Heap.get?_push_of_some _ e⟩ ?_ fun c o e1 _ e3 e4 e=>Heap.get?_push_of_some _ (u4 c o e1 e3 e4 e)
  have:IsPair (g4.push { cls:=.type "tuple",data:=.seq #[x,y] }) g4.objs.size x y:=Heap.get?_push_size _ rfl;rw[sz] at this;exact this
theorem Xii{Q:Fin->Shared->Prop}(hh:A.handled=none)(D:ZAp z I O i j a b)(st:ZSa k1 k2 z I O i j a b n n s.heap)(ha:SqK k1 s.heap a xs)(hb:SqK k2 s.heap b ys)(hend:xs[n]?=none\/ys[n]?=none)
  (hE:∀ h' e,(∀ c o,c≠z->c≠O->c≠i->c≠j->s.heap.get? c=some o->h'.get? c=some o)->(∃ o,h'.get? e=some o/\o.cls=.type "StopIteration")->E (.ref e) { s with heap:=h' }) :
  wpAny (model prog w) A (Builtin.«zip.__next__» ⟨[.ref z],[]⟩) Q E s:=by
 obtain⟨⟨f0,f1,hz,hf⟩,hI,⟨a0,b0,hO⟩,h1,h2⟩:=st;show wpAny _ _ (field (.ref z) 2 >>= _) _ _ _;refine wpAny_bind (wpAny_field hz rfl (x:=.bool false) rfl ?_);show wpAny _ _ (field (.ref z) 3 >>= _) _ _ _;refine wpAny_bind (wpAny_field hz rfl (x:=.ref I) rfl (wpAny_bind (wpAny_seqItems hI rfl ?_)));show wpAny _ _ (Builtin.SmallTypes.ownedTupleIsFree (.ref z) >>= _) _ _ _;refine wpAny_bind (Xih hz hf ?_ fun g1 T z1 c1=>?_)
 ·simp only[if_true]
  refine wpAny_bind (wpAny_rule (wpAny_bind (wpAny_field hz rfl (x:=.ref O) rfl (wpAny_bind (wpAny_setField_rec hz (by simp) fun g1 z1 c1=>?_)))))
  replace z1:IsZ g1 z I O .ellipsis f1:=z1
  refine wpAny_bind ?_;simp only[List.zipIdx_cons,List.zipIdx_nil,List.forIn_cons,List.forIn_nil];refine wpAny_bind (wpAny_bind (wpAny_onRaise ?_));show wpAny _ _ (Builtin.SmallTypes.nextOf (.ref i) >>= _) _ _ _;cases hx:xs[n]? with
  | none =>
   refine wpAny_bind (Xig hh (h1.at fun o e=>c1.extBut _ _ D.iz e) (ha.at fun o e=>c1.extBut _ _ D.a_.1 e) hx fun g2 e c2 he=>?_)
   obtain⟨oe,hoe,hce⟩:=he;have z2:IsZ g2 z I O .ellipsis f1:=c2 _ _ D.iz.symm z1;have ez:e≠z:=fun q=>by subst q;rw[z2] at hoe;cases hoe;simp at hce
   exact wpAny_setField_rec z2 (by simp) fun g3 _ c3=>hE g3 e (fun c o e1 _ e3 _ q=>c3.extBut _ _ e1 (c2 _ _ e3 (c1.extBut _ _ e1 q))) ⟨oe,c3.extBut _ _ ez hoe,hce⟩
  | some x =>
   have hy:ys[n]?=none:=by rcases hend with q|q;rw[hx] at q;cases q;exact q
   refine wpAny_bind (nxK (h1.at fun o e=>c1.extBut _ _ D.iz e) (ha.at fun o e=>c1.extBut _ _ D.a_.1 e) hx fun g2 i2 c2=>wpAny_pure ?_)
   have o2:IsPair g2 O a0 b0:=c2.extBut _ _ D.Oi (c1.extBut _ _ D.Oz hO);refine wpAny_bind (wpAny_seqItems o2 rfl (wpAny_bind (wpAny_updateSeq_pair o2 fun g3 o3 c3=>wpAny_bind (wpAny_letGo (wpAny_pure (wpAny_bind (wpAny_bind (wpAny_onRaise ?_))))))))
   show wpAny _ _ (Builtin.SmallTypes.nextOf (.ref j) >>= _) _ _ _;have u3:∀ c o,c≠z->c≠O->c≠i->s.heap.get? c=some o->g3.get? c=some o:=fun c o e1 e2 e3 e=>c3.extBut _ _ e2 (c2.extBut _ _ e3 (c1.extBut _ _ e1 e))
   refine wpAny_bind (Xig hh (h2.at fun o e=>u3 j o D.jz D.Oj.symm D.ij.symm e) (hb.at fun o e=>u3 b o D.b_.1 D.b_.2.1 D.b_.2.2.1 e) hy fun g4 e c4 he=>?_)
   obtain⟨oe,hoe,hce⟩:=he;have z4:IsZ g4 z I O .ellipsis f1:=c4 _ _ D.jz.symm (c3.extBut _ _ D.Oz.symm (c2.extBut _ _ D.iz.symm z1));have ez:e≠z:=fun q=>by subst q;rw[z4] at hoe;cases hoe;simp at hce
   exact wpAny_setField_rec z4 (by simp) fun g5 _ c5=>hE g5 e (fun c o e1 e2 e3 e4 q=>c5.extBut _ _ e1 (c4 _ _ e4 (u3 c o e1 e2 e3 q))) ⟨oe,c5.extBut _ _ ez hoe,hce⟩
 ·replace c1:Heap.SameBut z s.heap g1:=c1
  simp only[Bool.false_eq_true,if_false];rw[show(#[Value.ref i,Value.ref j]:Array Value)=[Value.ref i,Value.ref j].toArray from rfl];refine wpAny_bind ?_;simp only[List.forIn_toArray,List.forIn_cons,List.forIn_nil];refine wpAny_bind (wpAny_bind (wpAny_holding ?_));show wpAny _ _ (Builtin.SmallTypes.nextOf (.ref i) >>= _) _ _ _;cases hx:xs[n]? with
  | none =>
   exact wpAny_bind (Xig hh (h1.at fun o e=>c1.extBut _ _ D.iz e) (ha.at fun o e=>c1.extBut _ _ D.a_.1 e) hx fun g2 e c2 he=>hE g2 e (fun c o e1 _ e3 _ q=>c2 _ _ e3 (c1.extBut _ _ e1 q)) he)
  | some x =>
   have hy:ys[n]?=none:=by rcases hend with q|q;rw[hx] at q;cases q;exact q
   refine wpAny_bind (nxK (h1.at fun o e=>c1.extBut _ _ D.iz e) (ha.at fun o e=>c1.extBut _ _ D.a_.1 e) hx fun g2 i2 c2=>wpAny_pure ?_)
   replace c2:Heap.SameBut i g1 g2:=c2
   refine wpAny_pure ?_;dsimp only;refine wpAny_bind (wpAny_bind (wpAny_holding ?_));show wpAny _ _ (Builtin.SmallTypes.nextOf (.ref j) >>= _) _ _ _;have u2:∀ c o,c≠z->c≠i->s.heap.get? c=some o->g2.get? c=some o:=fun c o e1 e3 e=>c2.extBut _ _ e3 (c1.extBut _ _ e1 e)
   exact wpAny_bind (Xig hh (h2.at fun o e=>u2 j o D.jz D.ij.symm e) (hb.at fun o e=>u2 b o D.b_.1 D.b_.2.2.1 e) hy fun g4 e c4 he=>hE g4 e (fun c o e1 _ e3 e4 q=>c4 _ _ e4 (u2 c o e1 e3 q)) he)
theorem ZSa.ty(st:ZSa k1 k2 z I O i j a b n n s.heap):s.TypeIs (.ref z) "zip" := let ⟨_,_,q,_⟩:=st.zo;⟨_,q,rfl⟩
theorem Xpv{Q:Option Value->Shared->Prop}(D:ZAp z I O i j a b)(st:ZSa k1 k2 z I O i j a b n n s.heap)(ha:SqK k1 s.heap a xs)(hb:SqK k2 s.heap b ys)(hx:xs[n]?=some x)(hy:ys[n]?=some y)
  (hQ:∀ h',ZSa k1 k2 z I O i j a b (n+1) (n+1) h'->IsPair h' s.heap.objs.size x y->(∀ c o,c≠z->c≠O->c≠i->c≠j->s.heap.get? c=some o->h'.get? c=some o)->Q (some (.ref s.heap.objs.size)) { s with heap:=h' }) :
  wpAny (model prog w) A (pyNext (.ref z)) Q E s:=by
 unfold pyNext;exact wpAny_bind (wpAny_attempt (wpAny_callSpecial?_slot (name:=Str.ofString "__next__") st.ty F.slot_zip_next (wpAny_call_entry F.slot_zip_next st.ty F.entry_zip_next (Xkb D st ha hb hx hy fun h' _ q1 q2 q3=>wpAny_pure (hQ h' q1 q2 q3)) (F.args_zip_next_1 _))))
theorem Xpw{Q:Option Value->Shared->Prop}(hh:A.handled=none)(D:ZAp z I O i j a b)(st:ZSa k1 k2 z I O i j a b n n s.heap)(ha:SqK k1 s.heap a xs)(hb:SqK k2 s.heap b ys)(hend:xs[n]?=none\/ys[n]?=none)
  (hQ:∀ h',(∀ c o,c≠z->c≠O->c≠i->c≠j->s.heap.get? c=some o->h'.get? c=some o)->Q none { s with heap:=h' }):wpAny (model prog w) A (pyNext (.ref z)) Q E s:=by
 unfold pyNext;refine wpAny_bind (wpAny_attempt (wpAny_callSpecial?_slot (name:=Str.ofString "__next__") st.ty F.slot_zip_next (wpAny_call_entry F.slot_zip_next st.ty F.entry_zip_next (Xii hh D st ha hb hend fun h' e hk he=>?_) (F.args_zip_next_1 _))))
 obtain⟨o,ho,hc⟩:=he;exact wpAny_bind (wpAny_isInstance (T := "StopIteration") (b:=true) ⟨o,ho,hc⟩ isSubtype_stop (wpAny_pure (hQ _ hk)))
theorem Xxb{elts:List Expr}{x1:Nat}{pos:Pos}{T:Addr}{Q:Unit->Shared->Prop}(hz:∃ f0 f1,IsZ s.heap z I O f0 f1/\(f0=.none\/∃ T:Nat,f0=rawInt T))(hQ:∀ h',(∃ f0 f1,IsZ h' z I O f0 f1/\(f0=.none\/∃ T:Nat,f0=rawInt T))->Heap.SameBut z s.heap h'->Q () { s with heap:=h' }) :
  wpAny (model prog w) A (letOwnedTupleGo (.Tuple elts x1 pos) (.ref z) (.ref T)) Q E s:=by
 obtain⟨f0,f1,hz,hf⟩:=hz;unfold letOwnedTupleGo;refine wpAny_bind (wpAny_load hz ?_);show wpAny _ _ (if (["enumerate","zip","dict_itemiterator","dict_reverseitemiterator","odict_iterator","itertools.zip_longest","itertools.pairwise"].contains "zip" && (#[f0,f1,.bool false,.ref I,.ref O]:Array Value)[0]?==some (rawInt T))=true then _ else _) Q E s
 split
 ·refine wpAny_bind (wpAny_rule ?_)
  show wpAny _ _ (setField (.ref z) 0 .none) Q E s;exact wpAny_setField_rec hz (by simp) fun h' z' c'=>hQ h' ⟨_,_,z',.inl rfl⟩ c'
 ·exact wpAny_pure (hQ s.heap ⟨f0,f1,hz,hf⟩ (Heap.SameBut.refl ..))
theorem Xct{Q:Value->Shared->Prop}(hz:IsZ s.heap z I O f0 f1)(h:Q (.ref z) s):wpAny (model prog w) A (pyIter (.ref z)) Q E s:=by
 have ty:s.TypeIs (.ref z) "zip" := ⟨_,hz,rfl⟩;exact wpAny_pyIter_slot ty F.slot_zip_iter (wpAny_call_entry F.slot_zip_iter ty F.entry_zip_iter (show wpAny _ _ (ret (.ref z)) _ _ s from wpAny_pure ⟨_,rfl,"zip",_,ty,F.slot_zip_next.lookup,h⟩) (F.args_zip_iter_1 _))
end
theorem ZSa.at{k1 k2:Bool}{z I O i j a b:Addr}{n m:Nat}{h h':Heap}(x:ZSa k1 k2 z I O i j a b n m h)(k:∀ c∈[z,I,O,i,j],∀ o,h.get? c=some o->h'.get? c=some o):ZSa k1 k2 z I O i j a b n m h' :=
 ⟨let ⟨f0,f1,q,r⟩:=x.zo;⟨f0,f1,k z (by simp) _ q,r⟩,k I (by simp) _ x.io,let ⟨p,q,e⟩:=x.oo;⟨p,q,k O (by simp) _ e⟩,x.i1.at fun o e=>k i (by simp) o e,x.i2.at fun o e=>k j (by simp) o e⟩
theorem ZSa.some{k1 k2:Bool}{z I O i j a b:Addr}{n m:Nat}{h:Heap}(x:ZSa k1 k2 z I O i j a b n m h):∀ c∈[z,I,O,i,j],∃ o,h.get? c=some o/\∀ v,o.data≠.cell v:=fun c hc=>by
 simp only[List.mem_cons,List.not_mem_nil,or_false] at hc;rcases hc with e|e|e|e|e<;>subst e
 ·obtain⟨f0,f1,q,_⟩:=x.zo;exact⟨_,q,fun v q=>nomatch q⟩
 ·exact⟨_,x.io,fun v q=>nomatch q⟩
 ·obtain⟨p,q,e⟩:=x.oo;exact⟨_,e,fun v q=>nomatch q⟩
 ·obtain⟨o,e,_,d⟩:=x.i1.obj;exact⟨o,e,d⟩
 ·obtain⟨o,e,_,d⟩:=x.i2.obj;exact⟨o,e,d⟩
theorem Xpx{P:Program}{w:World}{K:PySem.W.Frag}{es:List Expr}{x0:Nat}{tp:Pos}{k1 k2:Bool}{z I O i j a b:Addr}(D:ZAp z I O i j a b) :
  Turn P w K (.Tuple es x0 tp) (Itz K k1 k2 a b) [z,I,O,i,j] z (fun n h=>ZSa k1 k2 z I O i j a b n n h) where
 mem:=by simp
 obj:=fun n h st c hc=>st.some c hc
 keep:=fun n h h' st k=>st.at k
 item:=by
  intro X hP hw hK hc n pins s σ H E J hf st hg;subst hP hw hK;obtain⟨xs,x,ys,y,q1,hx,q2,hy⟩:=hg;obtain⟨its1,rv1,p1⟩:=Xay J q1;obtain⟨its2,rv2,p2⟩:=Xay J q2;obtain⟨u1,hu1,ru1⟩:=rv1.get hx;obtain⟨u2,hu2,ru2⟩:=rv2.get hy;have hT:H s.heap.objs.size=none:=J.hok.fresh (Nat.le_refl _);have old:∀ c∈[z,I,O,i,j],c≠s.heap.objs.size:=fun c hc=>by obtain⟨o,e,_⟩:=st.some c hc;exact Nat.ne_of_lt (Heap.lt_size e)
  refine Xpv D st p1 p2 (x:=u1) (y:=u2) (by simpa using hu1) (by simpa using hu2) fun h' st' pr kp=>⟨_,rfl,Xxb st'.zo fun h2 z2 c2=>?_⟩
  have J1:Inv X pins σ (upd H s.heap.objs.size (.tup [x,y])) { s with heap:=s.heap.push { cls:=.type "tuple",data:=.seq #[u1,u2] } }:=J.laid (t':=s.toks) (fun c o e=>Heap.get?_push_of_some _ e) (Nat.le_refl _) ⟨by show 2<=sizeLine;decide,[u1,u2],.cons ru1 (.cons ru2 .nil),⟨_,Heap.get?_push_size _ rfl,rfl,_,rfl⟩⟩
  have hf1:∀ c∈[z,I,O,i,j],Y9 X pins (upd H s.heap.objs.size (.tup [x,y])) c:=fun c hc=>⟨by rw[Xf (old c hc)];exact(hf c hc).1,(hf c hc).2⟩
  have J2:Inv X pins σ (upd H s.heap.objs.size (.tup [x,y])) { s with heap:=h2 }:=Xbo (s:={ s with heap:=s.heap.push { cls:=.type "tuple",data:=.seq #[u1,u2] } }) (h':=h2) (t':=s.toks) J1 hf1 fun c o hc e=>by
   simp only[List.mem_cons,List.not_mem_nil,or_false,not_or] at hc;refine c2.extBut _ _ hc.1 ?_
   by_cases q:c=s.heap.objs.size
   ·subst q
    have e':=(Heap.get?_push_size s.heap (o:={ cls:=.type "tuple",data:=.seq #[u1,u2] }) rfl).symm.trans e;rw[<- e'];exact pr
   ·exact kp c o hc.1 hc.2.2.1 hc.2.2.2.1 hc.2.2.2.2 (Xcs e q)
  refine⟨.ref s.heap.objs.size,_,J2,rfl,⟨s.heap.objs.size,x,y,rfl,hT,rfl,fun zs hz=>?_,fun zs hz=>?_⟩,?_,fun c hc=>(hf1 c hc).1⟩
  ·rw[Xbu J hz q1];exact hx
  ·rw[Xbu J hz q2];exact hy
  ·have k2':∀ c o,c≠z->h'.get? c=some o->h2.get? c=some o:=fun c o e1 e=>c2.extBut _ _ e1 e
   exact⟨z2,k2' _ _ D.Iz st'.io,let ⟨p,q,e⟩:=st'.oo;⟨p,q,k2' _ _ D.Oz e⟩,st'.i1.at fun o e=>k2' _ o D.iz e,st'.i2.at fun o e=>k2' _ o D.jz e⟩
 done:=by
  intro X hP hw hK hc n pins s σ H E J hf st hg;subst hP hw hK;obtain⟨xs,ys,q1,q2,hl⟩:=hg;obtain⟨its1,rv1,p1⟩:=Xay J q1;obtain⟨its2,rv2,p2⟩:=Xay J q2;have l1:=rv1.length;have l2:=rv2.length;refine Xpw (J.ok.hd hc) D st p1 p2 ?_ fun h' kp=>⟨rfl,Xbo (t':=s.toks) J hf fun c o hc e=>?_⟩
  ·rcases hl with hl|hl
   ·exact .inl (by simp;omega)
   ·exact .inr (by simp;omega)
  ·simp only[List.mem_cons,List.not_mem_nil,or_false,not_or] at hc
   exact kp c o hc.1 hc.2.2.1 hc.2.2.2.1 hc.2.2.2.2 e
 self:=fun _ _ _ _ _ st h=>let ⟨_,_,q,_⟩:=st.zo;Xct q h
end Z
end
section
namespace Z
open PySem PySem.Spec PyProof.Rows L2
abbrev Xaq(h:Heap)(e it:Addr)(i:Int)(f0 f1 old:Value):Prop :=
 h.get? e=some { cls:=.type "enumerate",dict:=none,data:=.fields #[f0,f1,.ref it,rawInt i,.none,old],slots:=#[] }
def EnA(h:Heap)(e it:Addr)(i:Int):Prop:=∃ f0 f1 old,Xaq h e it i f0 f1 old/\(f0=.none\/∃ a:Nat,f0=rawInt a)
structure NSt(k:Bool)(e it a:Addr)(n:Nat)(h:Heap):Prop where
 eo:EnA h e it n
 io:ItK k h it a n
section
variable{prog:Program}{w:World}{A:Around}{E:Value->Shared->Prop}{s:Shared}{k:Bool}{e it a:Addr}{n:Nat}{xs:Array Value}{x:Value}
theorem Xnn{i:Int}{f0 f1 old:Value}{Q':Bool->Shared->Prop}(hz:Xaq s.heap e it i f0 f1 old)(hf:f0=.none\/∃ a:Nat,f0=rawInt a)(h1:Q' true s)(h2:∀ h' (f:Value),EnA h' e it i->Heap.SameBut e s.heap h'->Q' false { s with heap:=h' }):wpAny (model prog w) A (Builtin.SmallTypes.ownedTupleIsFree (.ref e)) Q' E s:=by
 unfold Builtin.SmallTypes.ownedTupleIsFree;rcases hf with rfl|⟨T,rfl⟩
 ·exact wpAny_bind (wpAny_field hz rfl (x:=.none) rfl (wpAny_pure h1))
 ·refine wpAny_bind (wpAny_field hz rfl (x:=rawInt T) rfl ?_)
  show wpAny _ _ (loadIfAlive (Int.toNat (T:Int)) >>= _) _ _ _;refine wpAny_bind (Xg4 ?_);cases s.heap.get? (Int.toNat (T:Int)) with
  | none =>
   simp only[Option.isNone_none,if_true];exact wpAny_pure h1
  | some o =>
   simp only[Option.isNone_some,Bool.false_eq_true,if_false];refine wpAny_bind (wpAny_field hz rfl (x:=f1) rfl ?_);split
   ·exact wpAny_bind (wpAny_setField_rec hz (by simp) fun g5 e5 c5=>wpAny_pure (h2 g5 f1 ⟨_,_,_,e5,.inr ⟨T,rfl⟩⟩ c5))
   ·exact wpAny_pure (h2 s.heap f1 ⟨_,_,_,hz,.inr ⟨T,rfl⟩⟩ (Heap.SameBut.refl ..))
theorem Xkc{hp g4:Heap}{g d tk os}{i:Int}{f0 f1 old:Value}{T:Addr}{Q:Fin->Shared->Prop}(e4:Xaq g4 e it i f0 f1 old)
  (hQ:∀ g7,EnA g7 e it i->(∀ b o,b≠e->g4.get? b=some o->g7.get? b=some o)->Q (.done (.ret (.ref T))) ⟨g7,g,d,tk,os⟩) :
  wpAny (model prog w) A (do
   rule "enumerate.__next__.owned-tuple-again"
   let old <- field (.ref e) 5
   setField (.ref e) 5 x
   Builtin.SmallTypes.ownedTupleHandOut (.ref e) (.ref T)
   letGo [old] [.ref T]
   ret (.ref T)) Q E ⟨g4,g,d,tk,os⟩:=by
 refine wpAny_bind (wpAny_rule (wpAny_bind (wpAny_field e4 rfl (x:=old) rfl (wpAny_bind (wpAny_setField_rec e4 (by simp) fun g5 e5 c5=>?_)))))
 replace c5:Heap.SameBut e g4 g5:=c5;replace e5:Xaq g5 e it i f0 f1 x:=e5
 refine wpAny_bind ?_;unfold Builtin.SmallTypes.ownedTupleHandOut;refine wpAny_bind (wpAny_setField_rec e5 (by simp) fun g6 e6 c6=>?_);replace c6:Heap.SameBut e g5 g6:=c6;replace e6:Xaq g6 e it i (rawInt T) f1 x:=e6
 refine wpAny_setField_rec e6 (by simp) fun g7 e7 c7=>?_;replace c7:Heap.SameBut e g6 g7:=c7;replace e7:Xaq g7 e it i (rawInt T) (.bool false) x:=e7
 exact wpAny_bind (wpAny_letGo (wpAny_pure (hQ g7 ⟨_,_,_,e7,.inr ⟨T,rfl⟩⟩ fun b o h1 q=>c7.extBut b o h1 (c6.extBut b o h1 (c5.extBut b o h1 q)))))
theorem Xpy{Q:Value->Shared->Prop}(hne:e≠it)(he:EnA s.heap e it n)(hi:ItK k s.heap it a n)(ha:SqK k s.heap a xs)(hx:xs[n]?=some x)
  (hQ:∀ h',EnA h' e it ((n:Int)+1)->ItK k h' it a (n+1)->h'.get? s.heap.objs.size=some { cls:=.type "tuple",data:=.seq #[.int n s.toks,x] } ->
   (∀ b o,b≠e->b≠it->s.heap.get? b=some o->h'.get? b=some o)->Q (.ref s.heap.objs.size) { s with heap:=h',toks:=s.toks+1 }) :
  wpAny (model prog w) A (Builtin.«enumerate.__next__» ⟨[.ref e],[]⟩) (fun fin s'=>∃ v,fin=.done (.ret v)/\Q v s') E s:=by
 obtain⟨f0,f1,old,he,hf⟩:=he;obtain⟨hp,g,d,tk,os⟩:=s;show wpAny _ _ (field (.ref e) 2 >>= _) _ _ _;refine wpAny_bind (wpAny_field he rfl (x:=.ref it) rfl (wpAny_bind (nxK hi ha hx fun g1 i1 c1=>?_)))
 replace c1:Heap.SameBut it hp g1:=c1;have e1:Xaq g1 e it n f0 f1 old:=(c1.2 e hne).trans he
 show wpAny _ _ (field (.ref e) 3 >>= _) _ _ ⟨g1,g,d,tk,os⟩;refine wpAny_bind (wpAny_field e1 rfl (x:=rawInt n) rfl ?_);show wpAny _ _ (field (.ref e) 4 >>= _) _ _ ⟨g1,g,d,tk,os⟩;refine wpAny_bind (wpAny_field e1 rfl (x:=.none) rfl ?_);show wpAny _ _ (mkInt n >>= _) _ _ ⟨g1,g,d,tk,os⟩;refine wpAny_bind (wpAny_mkInt ?_);show wpAny _ _ (setField (.ref e) 3 (rawInt ((n:Int)+1)) >>= _) _ _ ⟨g1,g,d,tk+1,os⟩;refine wpAny_bind (wpAny_setField_rec e1 (by simp) fun g2 e2 c2=>?_);replace c2:Heap.SameBut e g1 g2:=c2;replace e2:Xaq g2 e it ((n:Int)+1) f0 f1 old:=e2
 show wpAny _ _ (setField (.ref e) 4 .none >>= _) _ _ ⟨g2,g,d,tk+1,os⟩;refine wpAny_bind (wpAny_setField_rec e2 (by simp) fun g3 e3 c3=>?_);replace c3:Heap.SameBut e g2 g3:=c3;replace e3:Xaq g3 e it ((n:Int)+1) f0 f1 old:=e3
 show wpAny _ _ (newTuple [.int n tk,x] >>= _) _ _ ⟨g3,g,d,tk+1,os⟩;refine wpAny_bind (wpAny_newTuple ?_);have e4:Xaq (g3.push { cls:=.type "tuple",data:=.seq #[.int n tk,x] }) e it ((n:Int)+1) f0 f1 old:=Heap.get?_push_of_some _ e3;generalize q4:g3.push { cls:=.type "tuple",data:=.seq #[.int n tk,x] }=g4 at e4;have sz:g3.objs.size=hp.objs.size:=by rw[c3.1,c2.1,c1.1]
 have el:e<hp.objs.size:=Heap.lt_size he;have t4:g4.get? hp.objs.size=some { cls:=.type "tuple",data:=.seq #[.int n tk,x] }:=by rw[<- q4,<- sz];exact Heap.get?_push_size _ rfl
 have k4:∀ b o,b≠e->b≠it->hp.get? b=some o->g4.get? b=some o:=fun b o h1 h2 hb=>by rw[<- q4];exact Heap.get?_push_of_some _ (c3.extBut b o h1 (c2.extBut b o h1 (c1.extBut b o h2 hb)))
 have i4:ItK k g4 it a (n+1):=i1.at fun o q=>by rw[<- q4];exact Heap.get?_push_of_some _ (c3.extBut _ _ (Ne.symm hne) (c2.extBut _ _ (Ne.symm hne) q))
 show wpAny _ _ (Builtin.SmallTypes.ownedTupleIsFree (.ref e) >>= _) _ _ ⟨g4,g,d,tk+1,os⟩;rw[sz];clear q4 e3 c3 e2 c2 e1 c1 i1 sz g3 g2 g1;have fin:∀ g7,EnA g7 e it ((n:Int)+1)->(∀ b o,b≠e->g4.get? b=some o->g7.get? b=some o)->∃ v,(Fin.done (.ret (.ref hp.objs.size)))=.done (.ret v)/\Q v ⟨g7,g,d,tk+1,os⟩:=fun g7 e7 up =>
  ⟨_,rfl,hQ g7 e7 (i4.at fun o q=>up _ o (Ne.symm hne) q) (up _ _ (Nat.ne_of_gt el) t4) fun b o h1 h2 hb=>up b o h1 (k4 b o h1 h2 hb)⟩
 refine wpAny_bind (Xnn e4 hf ?_ fun g5 f5 e5 c5=>?_)
 ·simp only[if_true]
  exact Xkc (hp:=hp) e4 fin
 ·simp only[Bool.false_eq_true,if_false]
  exact wpAny_pure (fin g5 e5 fun b o h1 q=>c5.extBut b o h1 q)
theorem Xpz{Q:Option Value->Shared->Prop}(hne:e≠it)(he:EnA s.heap e it n)(hi:ItK k s.heap it a n)(ha:SqK k s.heap a xs)(hx:xs[n]?=some x)
  (hQ:∀ h',EnA h' e it ((n:Int)+1)->ItK k h' it a (n+1)->h'.get? s.heap.objs.size=some { cls:=.type "tuple",data:=.seq #[.int n s.toks,x] } ->
   (∀ b o,b≠e->b≠it->s.heap.get? b=some o->h'.get? b=some o)->Q (some (.ref s.heap.objs.size)) { s with heap:=h',toks:=s.toks+1 }):wpAny (model prog w) A (pyNext (.ref e)) Q E s:=by
 have hT:s.TypeIs (.ref e) "enumerate" := by obtain⟨f0,f1,old,he,_⟩:=he;exact⟨_,he,rfl⟩
 unfold pyNext;exact wpAny_bind (wpAny_attempt (wpAny_callSpecial?_slot (name:=Str.ofString "__next__") hT F.slot_enumerate_next (wpAny_call_entry F.slot_enumerate_next hT F.entry_enumerate_next (Xpy hne he hi ha hx fun h' q1 q2 q3 q4=>wpAny_pure (hQ h' q1 q2 q3 q4)) (F.args_enumerate_next_1 _))))
theorem Xp0{Q:Option Value->Shared->Prop}(hh:A.handled=none)(he:EnA s.heap e it n)(hi:ItK k s.heap it a n)(ha:SqK k s.heap a xs)(hx:xs[n]?=none)
  (hQ:∀ h',Heap.ExtBut it s.heap h'->Q none { s with heap:=h' }):wpAny (model prog w) A (pyNext (.ref e)) Q E s:=by
 obtain⟨f0,f1,old,he,_⟩:=he;have hT:s.TypeIs (.ref e) "enumerate" := ⟨_,he,rfl⟩;unfold pyNext;refine wpAny_bind (wpAny_attempt (wpAny_callSpecial?_slot (name:=Str.ofString "__next__") hT F.slot_enumerate_next (wpAny_call_entry F.slot_enumerate_next hT F.entry_enumerate_next ?_ (F.args_enumerate_next_1 _))));show wpAny _ _ (field (.ref e) 2 >>= _) _ _ _;refine wpAny_bind (wpAny_field he rfl (x:=.ref it) rfl (wpAny_bind (Xig hh hi ha hx fun h' x he' hx'=>?_)))
 obtain⟨o,ho,hc⟩:=hx';exact wpAny_bind (wpAny_isInstance (T := "StopIteration") (b:=true) ⟨o,ho,hc⟩ isSubtype_stop (wpAny_pure (hQ _ he')))
theorem Xno{elts:List Expr}{x1:Nat}{pos:Pos}{T it:Addr}{i:Int}{Q:Unit->Shared->Prop}(hz:EnA s.heap e it i)(hQ:∀ h',EnA h' e it i->Heap.SameBut e s.heap h'->Q () { s with heap:=h' }) :
  wpAny (model prog w) A (letOwnedTupleGo (.Tuple elts x1 pos) (.ref e) (.ref T)) Q E s:=by
 obtain⟨f0,f1,old,hz,hf⟩:=hz;unfold letOwnedTupleGo;refine wpAny_bind (wpAny_load hz ?_);show wpAny _ _ (if (["enumerate","zip","dict_itemiterator","dict_reverseitemiterator","odict_iterator","itertools.zip_longest","itertools.pairwise"].contains "enumerate" && (#[f0,f1,.ref it,rawInt i,.none,old]:Array Value)[0]?==some (rawInt T))=true then _ else _) Q E s
 split
 ·refine wpAny_bind (wpAny_rule ?_)
  show wpAny _ _ (setField (.ref e) 0 .none) Q E s;exact wpAny_setField_rec hz (by simp) fun h' z' c'=>hQ h' ⟨_,_,_,z',.inl rfl⟩ c'
 ·exact wpAny_pure (hQ s.heap ⟨f0,f1,old,hz,hf⟩ (Heap.SameBut.refl ..))
end
theorem Xcu{prog:Program}{w:World}{A:Around}{E:Value->Shared->Prop}{s:Shared}{e it:Addr}{i:Int}{Q:Value->Shared->Prop}(he:EnA s.heap e it i)(h:Q (.ref e) s):wpAny (model prog w) A (pyIter (.ref e)) Q E s:=by
 obtain⟨f0,f1,old,q,_⟩:=he;have ty:s.TypeIs (.ref e) "enumerate" := ⟨_,q,rfl⟩;exact wpAny_pyIter_slot ty F.slot_enumerate_iter (wpAny_call_entry F.slot_enumerate_iter ty F.entry_enumerate_iter (show wpAny _ _ (ret (.ref e)) _ _ s from wpAny_pure ⟨_,rfl,"enumerate",_,ty,F.slot_enumerate_next.lookup,h⟩) (F.args_enumerate_iter_1 _))
open AutoSeq1 (wpAny_loadPart')
noncomputable def Xxc(k:Bool):String:=match k with
 | true => "list"
 | false => "tuple"
theorem Xp1(k:Bool)(a:Addr)(xs:Array Value)(n:Nat)(dct:Option Addr)(sl:Array (Option Value)):Meets (Builtin.«enumerate.__new__» ⟨[.type "enumerate",.ref a],[]⟩) (fun _ R s=>s.heap.get? a=some { cls:=.type (Xxc k),dict:=dct,data:=.seq xs n,slots:=sl } /\
   R (.ok (.ret (.ref (s.heap.push { cls:=.type (Xb9 k),data:=.fields #[.ref a,.int 0 0] }).objs.size))) { s with heap:=(s.heap.push { cls:=.type (Xb9 k),data:=.fields #[.ref a,.int 0 0] }).push { cls:=.type "enumerate",data:=.fields #[.none,.bool false,.ref s.heap.objs.size,rawInt 0,.none,.none] } }) :=
 .of_wp fun prog w A R s h=>by
  obtain⟨hp,g,d,tk,os⟩:=s;obtain⟨hl,h⟩:=h;have hsub:=sub_enumerate;have L:SqK k (Shared.heap ⟨hp,g,d,tk,os⟩) a xs:=by cases k<;>exact⟨_,hl,rfl,n,rfl⟩
  wp_walk using wpAny_loadPart' hl
  refine wpAny_stack_any fun st=>wpAny_pure ?_
  split
  ·rename_i c _ _ _ _ _
   cases (c==Value.type "enumerate")<;>(wp_walk using wpAny_loadPart' hl,Xhs L;exact⟨_,rfl,h⟩)
  ·wp_walk using wpAny_loadPart' hl,Xhs L
   exact⟨_,rfl,h⟩
theorem Xtq{prog:Program}{w:World}{A:Around}{E:Value->Shared->Prop}{s:Shared}{k:Bool}{a:Addr}{xs:Array Value}{Q:Value->Shared->Prop}(hL:SqK k s.heap a xs)
  (h:∀ h',NSt k (s.heap.objs.size+1) s.heap.objs.size a 0 h'->(∀ b o,s.heap.get? b=some o->h'.get? b=some o)->Q (.ref (s.heap.objs.size+1)) { s with heap:=h' }) :
  wpAny (model prog w) A (call (.type "enumerate") [.ref a]) Q E s:=by
 obtain⟨n,dct,sl,hl⟩:∃ n dct sl,s.heap.get? a=some { cls:=.type (Xxc k),dict:=dct,data:=.seq xs n,slots:=sl }:=by
  cases k<;>(obtain⟨⟨c,dct,dt,sl⟩,hl,hc,n,hd⟩:=hL;cases hc;cases hd;exact⟨n,dct,sl,hl⟩)
 refine callType_new F.called_enumerate (by decide) (F.typeCall_enumerate_1 _) (F.newCall_enumerate_1 _) (fun obj=>F.args_object_init_2 obj _) F.entry_enumerate_new (Xp1 k a xs n dct sl) ⟨hl,?_⟩
 have hz:(s.heap.push { cls:=.type (Xb9 k),data:=.fields #[.ref a,.int 0 0] }).objs.size=s.heap.objs.size+1:=Heap.size_push ..;show _/\_;rw[hz];have he:Xaq ((s.heap.push { cls:=.type (Xb9 k),data:=.fields #[.ref a,.int 0 0] }).push { cls:=.type "enumerate",data:=.fields #[.none,.bool false,.ref s.heap.objs.size,rawInt 0,.none,.none] }) (s.heap.objs.size+1) s.heap.objs.size 0 .none (.bool false) .none:=by
  have:=Heap.get?_push_size (s.heap.push { cls:=.type (Xb9 k),data:=.fields #[.ref a,.int 0 0] }) (o:={ cls:=.type "enumerate",data:=.fields #[.none,.bool false,.ref s.heap.objs.size,rawInt 0,.none,.none] }) rfl;rw[hz] at this;exact this
 exact⟨⟨_,he,rfl⟩,h _ ⟨⟨_,_,_,he,.inl rfl⟩,Xfx (Heap.get?_push_of_some _ (Heap.get?_push_size _ rfl))⟩ fun b o q=>Heap.get?_push_of_some _ (Heap.get?_push_of_some _ q)⟩
noncomputable def Ite(K:PySem.W.Frag)(k:Bool)(a:Addr):L2.It :=
 ⟨fun n H=>∃ xs x,SqH k K H a xs/\xs[n]?=some x,
   fun n H v H'=>∃ T x,v=.ref T/\H T=none/\H'=upd H T (.tup [.int n,x])/\∀ xs,SqH k K H a xs->xs[n]?=some x,
   fun n H=>∃ xs,SqH k K H a xs/\xs.length<=n⟩
theorem NSt.at{k:Bool}{e it a:Addr}{n:Nat}{h h':Heap}(x:NSt k e it a n h)(q:∀ c∈[e,it],∀ o,h.get? c=some o->h'.get? c=some o):NSt k e it a n h' :=
 ⟨let ⟨f0,f1,old,z,r⟩:=x.eo;⟨f0,f1,old,q e (by simp) _ z,r⟩,x.io.at fun o z=>q it (by simp) o z⟩
theorem NSt.some{k:Bool}{e it a:Addr}{n:Nat}{h:Heap}(x:NSt k e it a n h):∀ c∈[e,it],∃ o,h.get? c=some o/\∀ v,o.data≠.cell v:=fun c hc=>by
 simp only[List.mem_cons,List.not_mem_nil,or_false] at hc;rcases hc with z|z<;>subst z
 ·obtain⟨f0,f1,old,z,_⟩:=x.eo;exact⟨_,z,fun v q=>nomatch q⟩
 ·obtain⟨o,z,_,d⟩:=x.io.obj;exact⟨o,z,d⟩
theorem Xtr{P:Program}{w:World}{K:PySem.W.Frag}{es:List Expr}{x0:Nat}{tp:Pos}{k:Bool}{e it a:Addr}(hne:e≠it) :
  Turn P w K (.Tuple es x0 tp) (Ite K k a) [e,it] e (fun n h=>NSt k e it a n h) where
 mem:=by simp
 obj:=fun n h st c hc=>st.some c hc
 keep:=fun n h h' st q=>st.at q
 item:=by
  intro X hP hw hK hc n pins s σ H E J hf st hg;subst hP hw hK;obtain⟨xs,x,q1,hx⟩:=hg;obtain⟨its,rv,p⟩:=Xay J q1;obtain⟨u,hu,ru⟩:=rv.get hx;have hT:H s.heap.objs.size=none:=J.hok.fresh (Nat.le_refl _);have old':∀ c∈[e,it],c≠s.heap.objs.size:=fun c hc=>by obtain⟨o,z,_⟩:=st.some c hc;exact Nat.ne_of_lt (Heap.lt_size z)
  refine Xpz hne st.eo st.io p (x:=u) (by simpa using hu) fun h' eo' io' pr kp=>⟨_,rfl,Xno eo' fun h2 e2 c2=>?_⟩
  have J1:Inv X pins σ (upd H s.heap.objs.size (.tup [.int n,x])) { s with heap:=s.heap.push { cls:=.type "tuple",data:=.seq #[.int n s.toks,u] } }:=J.laid (t':=s.toks) (fun c o z=>Heap.get?_push_of_some _ z) (Nat.le_refl _) ⟨by show 2<=sizeLine;decide,[.int n s.toks,u],.cons ⟨_,rfl⟩ (.cons ru .nil),⟨_,Heap.get?_push_size _ rfl,rfl,_,rfl⟩⟩
  have hf1:∀ c∈[e,it],Y9 X pins (upd H s.heap.objs.size (.tup [.int n,x])) c:=fun c hc=>⟨by rw[Xf (old' c hc)];exact(hf c hc).1,(hf c hc).2⟩
  have J2:Inv X pins σ (upd H s.heap.objs.size (.tup [.int n,x])) { s with heap:=h2,toks:=s.toks+1 }:=Xbo (s:={ s with heap:=s.heap.push { cls:=.type "tuple",data:=.seq #[.int n s.toks,u] } }) (h':=h2) (t':=s.toks+1) J1 hf1 fun c o hc z=>by
   simp only[List.mem_cons,List.not_mem_nil,or_false,not_or] at hc;refine c2.extBut _ _ hc.1 ?_
   by_cases q:c=s.heap.objs.size
   ·subst q
    have z':=(Heap.get?_push_size s.heap (o:={ cls:=.type "tuple",data:=.seq #[.int n s.toks,u] }) rfl).symm.trans z;rw[<- z'];exact pr
   ·exact kp c o hc.1 hc.2 (Xcs z q)
  refine⟨.ref s.heap.objs.size,_,J2,rfl,⟨s.heap.objs.size,x,rfl,hT,rfl,fun zs hz=>?_⟩,?_,fun c hc=>(hf1 c hc).1⟩
  ·rw[Xbu J hz q1];exact hx
  ·exact⟨e2,io'.at fun o z=>c2.extBut _ _ (Ne.symm hne) z⟩
 done:=by
  intro X hP hw hK hc n pins s σ H E J hf st hg;subst hP hw hK;obtain⟨xs,q1,hl⟩:=hg;obtain⟨its,rv,p⟩:=Xay J q1;have l1:=rv.length;refine Xp0 (J.ok.hd hc) st.eo st.io p (by simp;omega) fun h' kp=>⟨rfl,Xbo (t':=s.toks) J hf fun c o hc z=>?_⟩
  simp only[List.mem_cons,List.not_mem_nil,or_false,not_or] at hc;exact kp c o hc.2 z
 self:=fun _ _ _ _ _ st h=>Xcu st.eo h
end Z
end
section
namespace Z
open PySem PySem.Spec PyProof.Rows L2
section
variable{prog:Program}{w:World}{A:Around}{E:Value->Shared->Prop}{s:Shared}{k1 k2:Bool}{e z I O i j a b:Addr}{n:Nat}{xs ys:Array Value}{x y:Value}
theorem nxZ{Q:Value->Shared->Prop}(D:ZAp z I O i j a b)(st:ZSa k1 k2 z I O i j a b n n s.heap)(ha:SqK k1 s.heap a xs)(hb:SqK k2 s.heap b ys)(hx:xs[n]?=some x)(hy:ys[n]?=some y)
  (hQ:∀ h',h'.objs.size=s.heap.objs.size+1->ZSa k1 k2 z I O i j a b (n+1) (n+1) h'->IsPair h' s.heap.objs.size x y->(∀ c o,c≠z->c≠O->c≠i->c≠j->s.heap.get? c=some o->h'.get? c=some o)->Q (.ref s.heap.objs.size) { s with heap:=h' }) :
  wpAny (model prog w) A (Builtin.SmallTypes.nextOf (.ref z)) Q E s:=by
 unfold Builtin.SmallTypes.nextOf;exact wpAny_bind (wpAny_callSpecial?_slot (name:=Str.ofString "__next__") st.ty F.slot_zip_next (wpAny_call_entry F.slot_zip_next st.ty F.entry_zip_next (Xkb D st ha hb hx hy fun h' q0 q1 q2 q3=>wpAny_pure (hQ h' q0 q1 q2 q3)) (F.args_zip_next_1 _)))
theorem X2c{Q:Value->Shared->Prop}(hh:A.handled=none)(D:ZAp z I O i j a b)(st:ZSa k1 k2 z I O i j a b n n s.heap)(ha:SqK k1 s.heap a xs)(hb:SqK k2 s.heap b ys)(hend:xs[n]?=none\/ys[n]?=none)
  (hE:∀ h' e,(∀ c o,c≠z->c≠O->c≠i->c≠j->s.heap.get? c=some o->h'.get? c=some o)->(∃ o,h'.get? e=some o/\o.cls=.type "StopIteration")->E (.ref e) { s with heap:=h' }) :
  wpAny (model prog w) A (Builtin.SmallTypes.nextOf (.ref z)) Q E s:=by
 unfold Builtin.SmallTypes.nextOf;exact wpAny_bind (wpAny_callSpecial?_slot (name:=Str.ofString "__next__") st.ty F.slot_zip_next (wpAny_call_entry F.slot_zip_next st.ty F.entry_zip_next (Xii hh D st ha hb hend hE) (F.args_zip_next_1 _)))
structure Eap(e z I O i j:Addr):Prop where
 z_:e≠z
 I_:e≠I
 O_:e≠O
 i_:e≠i
 j_:e≠j
theorem Xp2{Q:Value->Shared->Prop}(De:Eap e z I O i j)(D:ZAp z I O i j a b)(he:EnA s.heap e z n)(st:ZSa k1 k2 z I O i j a b n n s.heap)(ha:SqK k1 s.heap a xs)(hb:SqK k2 s.heap b ys)(hx:xs[n]?=some x)(hy:ys[n]?=some y)
  (hQ:∀ h' T,EnA h' e z ((n:Int)+1)->ZSa k1 k2 z I O i j a b (n+1) (n+1) h'->IsPair h' s.heap.objs.size x y->T=s.heap.objs.size+1->h'.get? T=some { cls:=.type "tuple",data:=.seq #[.int n s.toks,.ref s.heap.objs.size] } ->
   (∀ c o,c≠e->c≠z->c≠O->c≠i->c≠j->s.heap.get? c=some o->h'.get? c=some o)->Q (.ref T) { s with heap:=h',toks:=s.toks+1 }) :
  wpAny (model prog w) A (Builtin.«enumerate.__next__» ⟨[.ref e],[]⟩) (fun fin s'=>∃ v,fin=.done (.ret v)/\Q v s') E s:=by
 obtain⟨f0,f1,old,he,hf⟩:=he;obtain⟨hp,g,d,tk,os⟩:=s;show wpAny _ _ (field (.ref e) 2 >>= _) _ _ _;refine wpAny_bind (wpAny_field he rfl (x:=.ref z) rfl (wpAny_bind (nxZ D st ha hb hx hy fun g1 w1 z1 t1 c1=>?_)))
 replace c1:∀ c o,c≠z->c≠O->c≠i->c≠j->hp.get? c=some o->g1.get? c=some o:=c1
 replace t1:IsPair g1 hp.objs.size x y:=t1
 have e1:Xaq g1 e z n f0 f1 old:=c1 _ _ De.z_ De.O_ De.i_ De.j_ he;show wpAny _ _ (field (.ref e) 3 >>= _) _ _ ⟨g1,g,d,tk,os⟩;refine wpAny_bind (wpAny_field e1 rfl (x:=rawInt n) rfl ?_);show wpAny _ _ (field (.ref e) 4 >>= _) _ _ ⟨g1,g,d,tk,os⟩;refine wpAny_bind (wpAny_field e1 rfl (x:=.none) rfl ?_);show wpAny _ _ (mkInt n >>= _) _ _ ⟨g1,g,d,tk,os⟩;refine wpAny_bind (wpAny_mkInt ?_);show wpAny _ _ (setField (.ref e) 3 (rawInt ((n:Int)+1)) >>= _) _ _ ⟨g1,g,d,tk+1,os⟩;refine wpAny_bind (wpAny_setField_rec e1 (by simp) fun g2 e2 c2=>?_);replace c2:Heap.SameBut e g1 g2:=c2;replace e2:Xaq g2 e z ((n:Int)+1) f0 f1 old:=e2
 show wpAny _ _ (setField (.ref e) 4 .none >>= _) _ _ ⟨g2,g,d,tk+1,os⟩;refine wpAny_bind (wpAny_setField_rec e2 (by simp) fun g3 e3 c3=>?_);replace c3:Heap.SameBut e g2 g3:=c3;replace e3:Xaq g3 e z ((n:Int)+1) f0 f1 old:=e3
 show wpAny _ _ (newTuple [.int n tk,.ref hp.objs.size] >>= _) _ _ ⟨g3,g,d,tk+1,os⟩;refine wpAny_bind (wpAny_newTuple ?_);have e4:Xaq (g3.push { cls:=.type "tuple",data:=.seq #[.int n tk,.ref hp.objs.size] }) e z ((n:Int)+1) f0 f1 old:=Heap.get?_push_of_some _ e3;have el:e<hp.objs.size:=Heap.lt_size he
 replace w1:g1.objs.size=hp.objs.size+1:=w1
 have hT:g3.objs.size=hp.objs.size+1:=by rw[c3.1,c2.1];exact w1
 have t4:(g3.push { cls:=.type "tuple",data:=.seq #[.int n tk,.ref hp.objs.size] }).get? g3.objs.size=some { cls:=.type "tuple",data:=.seq #[.int n tk,.ref hp.objs.size] }:=Heap.get?_push_size _ rfl;have k14:∀ c o,c≠e->g1.get? c=some o->(g3.push { cls:=.type "tuple",data:=.seq #[.int n tk,.ref hp.objs.size] }).get? c=some o:=fun c o h1 hb=>Heap.get?_push_of_some _ (c3.extBut c o h1 (c2.extBut c o h1 hb))
 show wpAny _ _ (Builtin.SmallTypes.ownedTupleIsFree (.ref e) >>= _) _ _ ⟨g3.push { cls:=.type "tuple",data:=.seq #[.int n tk,.ref hp.objs.size] },g,d,tk+1,os⟩;generalize g3.push { cls:=.type "tuple",data:=.seq #[.int n tk,.ref hp.objs.size] }=g4 at e4 t4 k14 ⊢;dsimp only;generalize g3.objs.size=T at hT t4 ⊢;clear e3 c3 e2 c2 g3 g2;have fin:∀ g7,EnA g7 e z ((n:Int)+1)->(∀ b o,b≠e->g4.get? b=some o->g7.get? b=some o)->∃ v,(Fin.done (.ret (.ref T)))=.done (.ret v)/\Q v ⟨g7,g,d,tk+1,os⟩:=fun g7 e7 up=>by
  have u:∀ c o,c≠e->g1.get? c=some o->g7.get? c=some o:=fun c o h q=>up c o h (k14 c o h q)
  refine⟨_,rfl,hQ g7 T e7 ⟨?_,u _ _ De.I_.symm z1.io,?_,z1.i1.at fun o q=>u _ o De.i_.symm q,z1.i2.at fun o q=>u _ o De.j_.symm q⟩ (u _ _ (Nat.ne_of_gt el) t1) hT (up _ _ (by rw[hT];exact Nat.ne_of_gt (Nat.lt_succ_of_lt el)) t4) fun c o h1 h2 h3 h4 h5 q=>u c o h1 (c1 c o h2 h3 h4 h5 q)⟩
  ·obtain⟨f0,f1,q,q2⟩:=z1.zo;exact⟨f0,f1,u _ _ De.z_.symm q,q2⟩
  ·obtain⟨u1,u2,q⟩:=z1.oo;exact⟨u1,u2,u _ _ De.O_.symm q⟩
 refine wpAny_bind (Xnn e4 hf ?_ fun g5 f5 e5 c5=>?_)
 ·simp only[if_true]
  exact Xkc (hp:=hp) e4 fin
 ·simp only[Bool.false_eq_true,if_false]
  exact wpAny_pure (fin g5 e5 fun b o h1 q=>c5.extBut b o h1 q)
theorem Xp3{Q:Option Value->Shared->Prop}(De:Eap e z I O i j)(D:ZAp z I O i j a b)(he:EnA s.heap e z n)(st:ZSa k1 k2 z I O i j a b n n s.heap)(ha:SqK k1 s.heap a xs)(hb:SqK k2 s.heap b ys)(hx:xs[n]?=some x)(hy:ys[n]?=some y)
  (hQ:∀ h' T,EnA h' e z ((n:Int)+1)->ZSa k1 k2 z I O i j a b (n+1) (n+1) h'->IsPair h' s.heap.objs.size x y->T=s.heap.objs.size+1->h'.get? T=some { cls:=.type "tuple",data:=.seq #[.int n s.toks,.ref s.heap.objs.size] } ->
   (∀ c o,c≠e->c≠z->c≠O->c≠i->c≠j->s.heap.get? c=some o->h'.get? c=some o)->Q (some (.ref T)) { s with heap:=h',toks:=s.toks+1 }) :
  wpAny (model prog w) A (pyNext (.ref e)) Q E s:=by
 have hT:s.TypeIs (.ref e) "enumerate" := by obtain⟨f0,f1,old,he,_⟩:=he;exact⟨_,he,rfl⟩
 unfold pyNext;exact wpAny_bind (wpAny_attempt (wpAny_callSpecial?_slot (name:=Str.ofString "__next__") hT F.slot_enumerate_next (wpAny_call_entry F.slot_enumerate_next hT F.entry_enumerate_next (Xp2 De D he st ha hb hx hy fun h' T q1 q2 q3 q4 q5 q6=>wpAny_pure (hQ h' T q1 q2 q3 q4 q5 q6)) (F.args_enumerate_next_1 _))))
theorem Xp4{Q:Option Value->Shared->Prop}(hh:A.handled=none)(De:Eap e z I O i j)(D:ZAp z I O i j a b)(he:EnA s.heap e z n)(st:ZSa k1 k2 z I O i j a b n n s.heap)(ha:SqK k1 s.heap a xs)(hb:SqK k2 s.heap b ys)(hend:xs[n]?=none\/ys[n]?=none)
  (hQ:∀ h',(∀ c o,c≠z->c≠O->c≠i->c≠j->s.heap.get? c=some o->h'.get? c=some o)->Q none { s with heap:=h' }):wpAny (model prog w) A (pyNext (.ref e)) Q E s:=by
 obtain⟨f0,f1,old,he,_⟩:=he;have hT:s.TypeIs (.ref e) "enumerate" := ⟨_,he,rfl⟩;unfold pyNext;refine wpAny_bind (wpAny_attempt (wpAny_callSpecial?_slot (name:=Str.ofString "__next__") hT F.slot_enumerate_next (wpAny_call_entry F.slot_enumerate_next hT F.entry_enumerate_next ?_ (F.args_enumerate_next_1 _))));show wpAny _ _ (field (.ref e) 2 >>= _) _ _ _;refine wpAny_bind (wpAny_field he rfl (x:=.ref z) rfl (wpAny_bind (X2c hh D st ha hb hend fun h' x he' hx'=>?_)))
 obtain⟨o,ho,hc⟩:=hx';exact wpAny_bind (wpAny_isInstance (T := "StopIteration") (b:=true) ⟨o,ho,hc⟩ isSubtype_stop (wpAny_pure (hQ _ he')))
end
end Z
end
section
namespace Z
open PySem PySem.Spec PyProof.Rows L2
noncomputable def Itn(K:PySem.W.Frag)(k1 k2:Bool)(a b:Addr):L2.It :=
 ⟨fun n H=>∃ xs x ys y,SqH k1 K H a xs/\xs[n]?=some x/\SqH k2 K H b ys/\ys[n]?=some y,
   fun n H v H'=>∃ T U x y,v=.ref U/\H T=none/\H U=none/\T≠U/\H'=upd (upd H T (.tup [x,y])) U (.tup [.int n,.ref T])/\(∀ xs,SqH k1 K H a xs->xs[n]?=some x)/\∀ ys,SqH k2 K H b ys->ys[n]?=some y,
   fun n H=>∃ xs ys,SqH k1 K H a xs/\SqH k2 K H b ys/\(xs.length<=n\/ys.length<=n)⟩
structure EZ(k1 k2:Bool)(e z I O i j a b:Addr)(n:Nat)(h:Heap):Prop where
 eo:EnA h e z n
 zo:ZSa k1 k2 z I O i j a b n n h
theorem EZ.at{k1 k2:Bool}{e z I O i j a b:Addr}{n:Nat}{h h':Heap}(x:EZ k1 k2 e z I O i j a b n h)(k:∀ c∈[e,z,I,O,i,j],∀ o,h.get? c=some o->h'.get? c=some o):EZ k1 k2 e z I O i j a b n h':=by
 obtain⟨⟨f0,f1,old,q1,q2⟩,⟨⟨g0,g1,r1,r2⟩,io,⟨p,q,oo⟩,i1,i2⟩⟩:=x;exact⟨⟨f0,f1,old,k e (by simp) _ q1,q2⟩,⟨⟨g0,g1,k z (by simp) _ r1,r2⟩,k I (by simp) _ io,⟨p,q,k O (by simp) _ oo⟩,i1.at fun o u=>k i (by simp) o u,i2.at fun o u=>k j (by simp) o u⟩⟩
theorem EZ.some{k1 k2:Bool}{e z I O i j a b:Addr}{n:Nat}{h:Heap}(x:EZ k1 k2 e z I O i j a b n h):∀ c∈[e,z,I,O,i,j],∃ o,h.get? c=some o/\∀ v,o.data≠.cell v:=fun c hc=>by
 obtain⟨⟨f0,f1,old,q1,q2⟩,⟨⟨g0,g1,r1,r2⟩,io,⟨p,q,oo⟩,i1,i2⟩⟩:=x;simp only[List.mem_cons,List.not_mem_nil,or_false] at hc;rcases hc with u|u|u|u|u|u<;>subst u
 ·exact⟨_,q1,fun v q=>nomatch q⟩
 ·exact⟨_,r1,fun v q=>nomatch q⟩
 ·exact⟨_,io,fun v q=>nomatch q⟩
 ·exact⟨_,oo,fun v q=>nomatch q⟩
 ·obtain⟨o,u,_,d⟩:=i1.obj;exact⟨o,u,d⟩
 ·obtain⟨o,u,_,d⟩:=i2.obj;exact⟨o,u,d⟩
theorem Xp5{P:Program}{w:World}{K:PySem.W.Frag}{es:List Expr}{x0:Nat}{tp:Pos}{k1 k2:Bool}{e z I O i j a b:Addr}(De:Eap e z I O i j)(D:ZAp z I O i j a b)
  (hself:∀ (A:Around) (n:Nat) (s:Shared) (Q:Value->Shared->Prop) (E:Value->Shared->Prop),EZ k1 k2 e z I O i j a b n s.heap->Q (.ref e) s->wpAny (model P w) A (pyIter (.ref e)) Q E s) :
  Turn P w K (.Tuple es x0 tp) (Itn K k1 k2 a b) [e,z,I,O,i,j] e (fun n h=>EZ k1 k2 e z I O i j a b n h) where
 mem:=by simp
 obj:=fun n h st c hc=>st.some c hc
 keep:=fun n h h' st k=>st.at k
 item:=by
  intro X hP hw hK hc n pins s σ H E J hf st hg;subst hP hw hK;obtain⟨xs,x,ys,y,q1,hx,q2,hy⟩:=hg;obtain⟨its1,rv1,p1⟩:=Xay J q1;obtain⟨its2,rv2,p2⟩:=Xay J q2;obtain⟨u1,hu1,ru1⟩:=rv1.get hx;obtain⟨u2,hu2,ru2⟩:=rv2.get hy;have hT:H s.heap.objs.size=none:=J.hok.fresh (Nat.le_refl _);have hU:H (s.heap.objs.size+1)=none:=J.hok.fresh (Nat.le_succ _);have old:∀ c∈[e,z,I,O,i,j],c<s.heap.objs.size:=fun c hc=>by obtain⟨o,u,_⟩:=st.some c hc;exact Heap.lt_size u
  refine Xp3 De D st.eo st.zo p1 p2 (x:=u1) (y:=u2) (by simpa using hu1) (by simpa using hu2) fun h' T eo' zo' pr hTe tu kp=>⟨_,rfl,Xno eo' fun h2 e2 c2=>?_⟩
  subst hTe;have J1:Inv X pins σ (upd H s.heap.objs.size (.tup [x,y])) { s with heap:=s.heap.push { cls:=.type "tuple",data:=.seq #[u1,u2] } }:=J.laid (t':=s.toks) (fun c o u=>Heap.get?_push_of_some _ u) (Nat.le_refl _) ⟨by show 2<=sizeLine;decide,[u1,u2],.cons ru1 (.cons ru2 .nil),⟨_,Heap.get?_push_size _ rfl,rfl,_,rfl⟩⟩
  have sz1:(s.heap.push { cls:=.type "tuple",data:=.seq #[u1,u2] }).objs.size=s.heap.objs.size+1:=Heap.size_push ..;have J2:Inv X pins σ (upd (upd H s.heap.objs.size (.tup [x,y])) (s.heap.objs.size+1) (.tup [.int n,.ref s.heap.objs.size])) { s with heap:=(s.heap.push { cls:=.type "tuple",data:=.seq #[u1,u2] }).push { cls:=.type "tuple",data:=.seq #[.int n s.toks,.ref s.heap.objs.size] } } :=
   J1.laid (t':=s.toks) (fun c o u=>Heap.get?_push_of_some _ u) (by rw[sz1];exact Nat.le_refl _) ⟨by show 2<=sizeLine;decide,[.int n s.toks,.ref s.heap.objs.size],.cons ⟨_,rfl⟩ (.cons rfl .nil),⟨_,by rw[<- sz1];exact Heap.get?_push_size _ rfl,rfl,_,rfl⟩⟩
  have hf1:∀ c∈[e,z,I,O,i,j],Y9 X pins (upd (upd H s.heap.objs.size (.tup [x,y])) (s.heap.objs.size+1) (.tup [.int n,.ref s.heap.objs.size])) c:=fun c hc=>by
   have:=old c hc;exact⟨by rw[Xf (Nat.ne_of_lt (Nat.lt_succ_of_lt this)),Xf (Nat.ne_of_lt this)];exact(hf c hc).1,(hf c hc).2⟩
  have J3:Inv X pins σ (upd (upd H s.heap.objs.size (.tup [x,y])) (s.heap.objs.size+1) (.tup [.int n,.ref s.heap.objs.size])) { s with heap:=h2,toks:=s.toks+1 }:=Xbo (s:={ s with heap:=(s.heap.push { cls:=.type "tuple",data:=.seq #[u1,u2] }).push { cls:=.type "tuple",data:=.seq #[.int n s.toks,.ref s.heap.objs.size] } }) (h':=h2) (t':=s.toks+1) J2 hf1 fun c o hc u=>by
   simp only[List.mem_cons,List.not_mem_nil,or_false,not_or] at hc;refine c2.extBut _ _ hc.1 ?_
   by_cases r2:c=s.heap.objs.size+1
   ·subst r2
    have u':some _=some o:=(by rw[<- sz1];exact(Heap.get?_push_size (s.heap.push { cls:=.type "tuple",data:=.seq #[u1,u2] }) (o:={ cls:=.type "tuple",data:=.seq #[.int n s.toks,.ref s.heap.objs.size] }) rfl):((s.heap.push { cls:=.type "tuple",data:=.seq #[u1,u2] }).push { cls:=.type "tuple",data:=.seq #[.int n s.toks,.ref s.heap.objs.size] }).get? (s.heap.objs.size+1)=_).symm.trans u
    rw[<- u'];exact tu
   ·have u2':=Xcs u (by rw[sz1];exact r2)
    by_cases r:c=s.heap.objs.size
    ·subst r
     have u':=(Heap.get?_push_size s.heap (o:={ cls:=.type "tuple",data:=.seq #[u1,u2] }) rfl).symm.trans u2';rw[<- u'];exact pr
    ·exact kp c o hc.1 hc.2.1 hc.2.2.2.1 hc.2.2.2.2.1 hc.2.2.2.2.2 (Xcs u2' r)
  refine⟨.ref (s.heap.objs.size+1),_,J3,rfl,⟨s.heap.objs.size,s.heap.objs.size+1,x,y,rfl,hT,hU,Nat.ne_of_lt (Nat.lt_succ_self _),rfl,fun zs hz=>?_,fun zs hz=>?_⟩,?_,fun c hc=>(hf1 c hc).1⟩
  ·rw[Xbu J hz q1];exact hx
  ·rw[Xbu J hz q2];exact hy
  ·refine⟨e2,?_⟩
   obtain⟨⟨g0,g1,r1,r2⟩,io,⟨p,q,oo⟩,i1,i2⟩:=zo';have k2':∀ c o,c≠e->h'.get? c=some o->h2.get? c=some o:=fun c o e1 u=>c2.extBut _ _ e1 u
   exact⟨⟨g0,g1,k2' _ _ De.z_.symm r1,r2⟩,k2' _ _ De.I_.symm io,⟨p,q,k2' _ _ De.O_.symm oo⟩,i1.at fun o u=>k2' _ o De.i_.symm u,i2.at fun o u=>k2' _ o De.j_.symm u⟩
 done:=by
  intro X hP hw hK hc n pins s σ H E J hf st hg;subst hP hw hK;obtain⟨xs,ys,q1,q2,hl⟩:=hg;obtain⟨its1,rv1,p1⟩:=Xay J q1;obtain⟨its2,rv2,p2⟩:=Xay J q2;have l1:=rv1.length;have l2:=rv2.length;refine Xp4 (J.ok.hd hc) De D st.eo st.zo p1 p2 ?_ fun h' kp=>⟨rfl,Xbo (t':=s.toks) J hf fun c o hc u=>?_⟩
  ·rcases hl with hl|hl
   ·exact .inl (by simp;omega)
   ·exact .inr (by simp;omega)
  ·simp only[List.mem_cons,List.not_mem_nil,or_false,not_or] at hc
   exact kp c o hc.2.1 hc.2.2.2.1 hc.2.2.2.2.1 hc.2.2.2.2.2 u
 self:=hself
end Z
end
section
namespace Z
open PySem PySem.Spec PyProof.Rows L2
open AutoSeq1 (wpAny_loadPart')
theorem Xnp(z I O:Addr)(f0 f1:Value):Meets (Builtin.«enumerate.__new__» ⟨[.type "enumerate",.ref z],[]⟩) (fun _ R s=>IsZ s.heap z I O f0 f1 /\
   R (.ok (.ret (.ref s.heap.objs.size))) { s with heap:=s.heap.push { cls:=.type "enumerate",data:=.fields #[.none,.bool false,.ref z,rawInt 0,.none,.none] } }) :=
 .of_wp fun prog w A R s h=>by
  obtain⟨hp,g,d,tk,os⟩:=s;obtain⟨hl,h⟩:=h;have hsub:=sub_enumerate;have L:IsZ (Shared.heap ⟨hp,g,d,tk,os⟩) z I O f0 f1:=hl
  wp_walk using wpAny_loadPart' hl
  refine wpAny_stack_any fun st=>wpAny_pure ?_
  split
  ·rename_i c _ _ _ _ _
   cases (c==Value.type "enumerate")<;>(wp_walk using wpAny_loadPart' hl,Xct L;exact⟨_,rfl,h⟩)
  ·wp_walk using wpAny_loadPart' hl,Xct L
   exact⟨_,rfl,h⟩
theorem Xp6{prog:Program}{w:World}{A:Around}{E:Value->Shared->Prop}{s:Shared}{k1 k2:Bool}{z I O i j a b:Addr}{Q:Value->Shared->Prop}(st:ZSa k1 k2 z I O i j a b 0 0 s.heap)
  (h:∀ h',EZ k1 k2 s.heap.objs.size z I O i j a b 0 h'->(∀ c o,s.heap.get? c=some o->h'.get? c=some o)->Q (.ref s.heap.objs.size) { s with heap:=h' }) :
  wpAny (model prog w) A (call (.type "enumerate") [.ref z]) Q E s:=by
 obtain⟨⟨f0,f1,z1,zf⟩,z2,⟨x,y,z3⟩,z4,z5⟩:=st;refine callType_new F.called_enumerate (by decide) (F.typeCall_enumerate_1 _) (F.newCall_enumerate_1 _) (fun obj=>F.args_object_init_2 obj _) F.entry_enumerate_new (Xnp z I O f0 f1) ⟨z1,?_⟩
 have he:=Heap.get?_push_size s.heap (o:={ cls:=.type "enumerate",data:=.fields #[.none,.bool false,.ref z,rawInt 0,.none,.none] }) rfl;exact⟨⟨_,he,rfl⟩,h _ ⟨⟨_,_,_,he,.inl rfl⟩,⟨⟨_,_,Heap.get?_push_of_some _ z1,zf⟩,Heap.get?_push_of_some _ z2,⟨_,_,Heap.get?_push_of_some _ z3⟩,z4.at fun o q=>Heap.get?_push_of_some _ q,z5.at fun o q=>Heap.get?_push_of_some _ q⟩⟩ fun c o q=>Heap.get?_push_of_some _ q⟩
end Z
end
section
namespace Z
open PySem PySem.Spec PyProof.Rows L2
theorem Xg5(a b:Int):Builtin.Range.rangeSize a b (-1)=if a>b then a-b else 0:=by
 unfold Builtin.Range.rangeSize;rw[if_neg (by decide)]
 split<;>simp<;>omega
theorem Xlh{a b:Int}(ha:-(2^62)<=a)(ha':a<2^62)(hb:-(2^62)<=b)(hb':b<2^62):Builtin.Range.small a b (-1)=true:=by
 unfold Builtin.Range.small;rw[Xg5];simp only[Builtin.Range.rangeFitsLong,bA0,Bool.or_eq_true,decide_eq_true_eq,beq_iff_eq,show ¬ (-1:Int)>0 by decide,if_false]
 split<;>omega
noncomputable def Itd(lo:Int)(n:Nat):L2.It where
 go:=fun i _=>i<n
 yld:=fun i H x H'=>H'=H/\x=.int (lo-i)
 stop:=fun i _=>n<=i
theorem Xnq{P:Program}{w:World}{K:PySem.W.Frag}{tg:Expr}(it:Addr)(lo:Int)(n:Nat):Turn P w K tg (Itd lo n) [it] it (fun i h=>IsRangeIter h it (lo+(i:Nat)*(-1)) ((n:Int)-(i:Nat)) (-1)) where
 mem:=by simp
 obj:=fun i h st b hb=>by
  obtain rfl:b=it:=by simpa using hb
  exact⟨_,st,fun v z=>nomatch z⟩
 keep:=fun i h h' st k=>k it (by simp) _ st
 item:=by
  intro X hP hw hK hc i pins s σ H E I hf st hg;subst hP hw hK;obtain⟨f0,f1,f2,f3,f4,f5⟩:=hf it (by simp)
  refine(Walks.range (prog:=X.prog) (w:=X.w) (I.ok.hd hc) it lo (-1) n).item i s _ _ hg st fun v h' tk hv st' kk=>?_
  obtain⟨t,rfl⟩:=hv;have I1:Inv X pins σ H { s with heap:=h',toks:=tk }:=I.turned (fun b o hb e=>kk b o (by simpa using hb) e) f0 f1 f3 f4 f5
  refine⟨_,rfl,Xhp (s:={ s with heap:=h',toks:=tk }) (n := "range_iterator") st' rfl rfl (by decide) ⟨.int (lo-i),H,I1,⟨t,?_⟩,⟨rfl,rfl⟩,st',fun b hb=>(hf b hb).1⟩⟩
  have e:lo+(i:Int)*(-1)=lo-i:=by omega
  rw[e]
 done:=by
  intro X hP hw hK hc i pins s σ H E I hf st hg;subst hP hw hK;obtain⟨f0,f1,f2,f3,f4,f5⟩:=hf it (by simp)
  have hn:n<=i:=hg;exact wpAny_pyNext_range_end (I.ok.hd hc) st (by omega) fun h' eb=>⟨rfl,I.turned (t':=s.toks) (fun b o hb e=>eb b o hb e) f0 f1 f3 f4 f5⟩
 self:=fun _ _ _ _ _ st h=>wpAny_pyIter_rangeiter st h
section
variable{X:Cx}{tg:Expr}
theorem Xts{pins:List (Addr×Obj)}{σ:L2.St}{H:Hp}{s:Shared}{R:L2.It->Hp->Prop}{E:Value->Shared->Prop}{lo hi:Int}{t u v:Tok}{tk:Nat}(I:Inv X pins σ H s)(h1:-(2^62)<=lo)(h2:lo<2^62)(h3:-(2^62)<=hi)(h4:hi<2^62)
  (q:R (Itd lo (lo-hi).toNat) H):wpAny (model X.prog X.w) X.A (pyIter (.ref s.heap.objs.size)) (PIE X pins σ tg R) E { s with heap:=s.heap.push { cls:=.type "range",data:=.fields #[.int lo t,.int hi u,.int (-1) v] },toks:=tk }:=by
 refine wpAny_pyIter_range (IsRange.new ..) (Xlh h1 h2 h3 h4) ?_;generalize hR:({ cls:=.type "range",data:=.fields #[.int lo t,.int hi u,.int (-1) v] }:Obj)=ro;have I1:Inv X pins σ H { s with heap:=s.heap.push ro,toks:=tk }:=I.kept fun b o e=>Heap.get?_push_of_some _ e
 refine⟨(s.heap.push ro).objs.size,[(s.heap.push ro).objs.size],_,_,H,rfl,I1.kept (t':=tk) fun b o e=>Heap.get?_push_of_some _ e,Xnq _ lo (lo-hi).toNat,?_,fun b hb=>?_,q⟩
 ·have e1:lo+((0:Nat):Int)*(-1)=lo:=by simp
  have e2:(((lo-hi).toNat:Nat):Int)-((0:Nat):Int)=Builtin.Range.rangeSize lo hi (-1):=by rw[Xg5];split<;>omega
  show IsRangeIter _ _ (lo+((0:Nat):Int)*(-1)) ((((lo-hi).toNat:Nat):Int)-((0:Nat):Int)) (-1);rw[e1,e2];exact Heap.get?_push_size _ rfl
 ·obtain rfl:b=(s.heap.push ro).objs.size:=by simpa using hb
  exact I1.fpOk (Nat.le_refl _) (I1.hok.fresh (Nat.le_refl _))
end
end Z
end
section
namespace Z
open PySem PySem.Spec PyProof.Rows L2
section
variable{X:Cx}{pins:List (Addr×Obj)}{σ:L2.St}{H:Hp}{s:Shared}{ρ:List Addr}{S S':Sto}{env:En}{Q:Value->Shared->Prop}{E:Value->Shared->Prop}{a b c e tg iter:Expr}{f fa fb fc:En->Sto->R D}{pos:Pos}
def DG(X:Cx)(tg:Expr)(t:Tg):Prop :=
 ∀ (pins:List (Addr×Obj)) (s:Shared) (σ:L2.St) (H:Hp) (ρ:List Addr) (S:Sto) (env:En) (d:D) (v:V) (u:Value) (env':En) (Q:Unit->Shared->Prop) (E:Value->Shared->Prop),S0 X pins σ H s ρ S env->Xo t d env=some env'->RD X.K ρ H d v->RelV v u ->
  (∀ s' σ',S0 X pins σ' H s' ρ S env'->Q () s')->wpAny (model X.prog X.w) X.A (assign tg X.env u) Q E s
theorem Xtt{i:Nat}{x:Str}(hN:X.N.Nodup)(hi:X.N[i]?=some x)(hx:Loc X.env.scope x)(hf:X.fn x=true\/X.env.scope.names.lookup x=some .local):DG X (.Name x pos) (.var i):=by
 intro pins s σ H ρ S env d v u env' Q E I h rd rv hQ;simp only[Xo,Option.some.injEq] at h;subst h;exact wpAny_assign_Name (Xa3 I.inv hN hi hx rv (fun s' I'=>hQ s' _ ⟨I',I.sr,I.er.set i rd⟩) hf)
noncomputable def gNs:List Nat->TGs
 | []=>Xwq
 | i::is=>Xsj (Xk6 i) (gNs is)
theorem Xij:∀ (is:List Nat) (vs:List V) (σ:L2.St) (H:Hp) (Q:L2.St->Hp->Prop),is.length=vs.length->Q ((is.zip vs).foldl (fun e p=>e.set p.1 (some p.2)) σ) H->gNs is vs σ H Q
 | [],vs,σ,H,Q,hl,h=>by
  have:vs=[]:=by simpa using hl.symm
  subst this;exact⟨rfl,h⟩
 | i::is,[],σ,H,Q,hl,h=>by simp at hl
 | i::is,v::vs,σ,H,Q,hl,h=>⟨v,vs,rfl,Xij is vs _ H Q (by simpa using hl) h⟩
theorem ER.sets{K:PySem.W.Frag}:∀ (is:List Nat) (ds:List D) (vs:List V) (env:En) (σ:L2.St),RDs K ρ H ds vs->ER K ρ H env σ->ER K ρ H ((is.zip ds).foldl (fun e p=>e.set p.1 (some p.2)) env) ((is.zip vs).foldl (fun e p=>e.set p.1 (some p.2)) σ)
 | [],ds,vs,env,σ,r,e=>by simpa using e
 | i::is,[],vs,env,σ,r,e=>by simp only[RDs] at r;subst r;simpa using e
 | i::is,d::ds,vs,env,σ,r,e=>by
  simp only[RDs] at r;obtain⟨v,vs',rfl,h1,h2⟩:=r;exact ER.sets is ds vs' _ _ h2 (e.set i h1)
theorem Xxd{es:List Expr}{k:Nat}{is:List Nat}(hc:X.calm=true)(h:∀ E,PGs (X.wish E) es (gNs is))(hn:(assignEach es X.env).length=is.length)(hst:(assignEach es X.env).findIdx? (·.1)=none):DG X (.Tuple es k pos) (.tup is):=by
 intro pins s σ H ρ S env d v u env' Q E I hd rd rv hQ;cases d with
 | tup ds =>
  simp only[Xo] at hd;split at hd
  ·rename_i hl
   cases hd;simp only[RD] at rd;obtain⟨a,vs,rfl,hs,hr⟩:=rd;have hlv:is.length=vs.length:=by rw[hl,hr.length]
   refine thn (Xh3 (X:=X.wish E) (n:=is.length) hc (h E) hn hst pins s σ H (.ref a) u (fun σ' H'=>H'=H/\σ'=(is.zip vs).foldl (fun e p=>e.set p.1 (some p.2)) σ) (I.inv.wish E) rv ⟨a,vs,rfl,hs,hlv.symm,Xij is vs σ H _ hlv ⟨rfl,rfl⟩⟩) fun _ s' ⟨σ',H',J,e1,e2⟩=>?_
   subst e1 e2;exact hQ s' _ ⟨J.unwish,I.sr,ER.sets is ds vs env σ hr I.er⟩
  ·cases hd
 | _=>cases hd
theorem Xxe{es:List Expr}{x:Str}{p0 p2:Pos}{k k2:Nat}{i:Nat}{is:List Nat}(hc:X.calm=true)(h0:∀ E,PG (X.wish E) (.Name x p0) (Xk6 i))(h:∀ E,PGs (X.wish E) es (gNs is))(hn:(assignEach es X.env).length=is.length)(hst:(assignEach es X.env).findIdx? (·.1)=none):DG X (.Tuple [.Name x p0,.Tuple es k2 p2] k pos) (.nst i is):=by
 intro pins s σ H ρ S env d v u env' Q E I hd rd rv hQ
 match d,hd,rd with
 | .tup [d0,.tup ds],hd,rd =>
  simp only[Xo] at hd;split at hd
  ·rename_i hl
   cases hd;simp only[RD,RDs] at rd;obtain⟨a,vs,rfl,hs,v0,r0,rfl,rd0,v1,r1,rfl,⟨a1,vs1,rfl,hs1,hr1⟩,rfl⟩:=rd;have hlv:is.length=vs1.length:=by rw[hl,hr1.length]
   refine thn (Xh3 (X:=X.wish E) (n:=2) hc (Xef (h0 E) (Xef (Xh3 (X:=X.wish E) (n:=is.length) hc (h E) hn hst) Xj5)) rfl rfl pins s σ H (.ref a) u (fun σ' H'=>H'=H/\σ'=(is.zip vs1).foldl (fun e p=>e.set p.1 (some p.2)) (σ.set i (some v0))) (I.inv.wish E) rv
    ⟨a,_,rfl,hs,rfl,v0,_,rfl,_,_,rfl,a1,vs1,rfl,hs1,hlv.symm,Xij is vs1 _ H _ hlv ⟨rfl,rfl,rfl⟩⟩) fun _ s' ⟨σ',H',J,e1,e2⟩=>?_
   subst e1 e2;exact hQ s' _ ⟨J.unwish,I.sr,ER.sets is ds vs1 _ _ hr1 (I.er.set i rd0)⟩
  ·cases hd
theorem Xnr:∀ (is:List Nat) (xs:List (Str×Pos)),X.N.Nodup->is.length=xs.length->(∀ (j i:Nat) (x:Str×Pos),is[j]?=some i->xs[j]?=some x->X.N[i]?=some x.1/\Loc X.env.scope x.1/\(X.fn x.1=true\/X.env.scope.names.lookup x.1=some .local)) ->
  PGs X (xs.map fun x=>Expr.Name x.1 x.2) (gNs is)
 | [],xs,_,hl,_=>by
  have:xs=[]:=by simpa using hl.symm
  subst this;exact Xj5
 | i::is,[],_,hl,_=>by simp at hl
 | i::is,x::xs,hN,hl,h=>by
  obtain⟨h1,h2,h3⟩:=h 0 i x rfl rfl;exact Xef (Xj4 hN h1 h2 h3) (Xnr is xs hN (by simpa using hl) fun j i' x' e1 e2=>h (j+1) i' x' (by simpa using e1) (by simpa using e2)) rfl
theorem Xe0:∀ (xs:List (Str×Pos)) (env:PySem.Env),(assignEach (xs.map fun x=>Expr.Name x.1 x.2) env).length=xs.length/\(assignEach (xs.map fun x=>Expr.Name x.1 x.2) env).findIdx? (·.1)=none
 | [],env=>⟨rfl,rfl⟩
 | x::xs,env=>by
  have h:=Xe0 xs env;have e:assignEach ((x::xs).map fun x=>Expr.Name x.1 x.2) env=(false,assign (.Name x.1 x.2) env)::assignEach (xs.map fun x=>Expr.Name x.1 x.2) env:=rfl
  rw[e];refine⟨by simp[h.1],?_⟩
  rw[List.findIdx?_cons];simp[h.2]
def SrcK(K:PySem.W.Frag)(ρ:List Addr)(H:Hp):Src->Bool->Addr->Prop
 | .con xs,false,a=>∃ vs,SqT K H a vs/\RDs K ρ H xs vs
 | .ref n,true,a=>ρ[n]?=some a
 | _,_,_=>False
theorem SrcK.mono'{K:PySem.W.Frag}{ρ':List Addr}{H':Hp}{src:Src}{k:Bool}{a:Addr}(x:Mon K ρ ρ' H H')(h:SrcK K ρ H src k a):SrcK K ρ' H' src k a:=by
 cases src with
 | con xs=>cases k with
  | false=>obtain⟨vs,h1,h2⟩:=h;exact⟨vs,x.tup _ _ h1,RDs.mono' x _ _ h2⟩
  | true=>exact h.elim
 | ref n=>cases k with
  | false=>exact h.elim
  | true=>exact x.pre _ _ h
 | zpp _ _=>exact h.elim
 | enm _=>exact h.elim
theorem SrcK.get{src:Src}{k:Bool}{a:Addr}{i:Nat}{o:Option D}(h:SrcK X.K ρ H src k a)(I:S0 X pins σ H s ρ S env)(g:src.get S i=some o):∃ vs,SqH k X.K H a vs/\match o with
  | some d=>∃ v,vs[i]?=some v/\RD X.K ρ H d v
  | none=>vs.length<=i:=by
 cases src with
 | con xs=>cases k with
  | false =>
   obtain⟨vs,h1,h2⟩:=h;simp only[Src.get,Option.some.injEq] at g;refine⟨vs,h1,?_⟩;cases o with
   | some d=>exact h2.get g
   | none=>have:=h2.none g;rw[List.getElem?_eq_none_iff] at this;exact this
  | true=>exact h.elim
 | ref n=>cases k with
  | false=>exact h.elim
  | true =>
   simp only[Src.get,Option.map_eq_some_iff] at g;obtain⟨xs,g1,g2⟩:=g;obtain⟨a',vs,k1,k2,k3⟩:=I.list g1;have h':ρ[n]?=some a:=h;rw[h'] at k1;cases k1;refine⟨vs,.of k2,?_⟩;cases o with
   | some d=>exact k3.get g2
   | none=>have:=k3.none g2;rw[List.getElem?_eq_none_iff] at this;exact this
 | zpp _ _=>exact h.elim
 | enm _=>exact h.elim
inductive SrcR(K:PySem.W.Frag)(ρ:List Addr)(H:Hp):Src->L2.It->Prop where
 | tup {a:Addr} {xs:List D} {vs:List V}:SqT K H a vs->RDs K ρ H xs vs->SrcR K ρ H (.con xs) (Itt K a)
 | rng (lo:Int) (n:Nat):SrcR K ρ H (.con ((List.range n).map fun(k:Nat)=>D.int (lo+k))) (Itr lo n)
 | lst {n:Nat} {a:Addr}:ρ[n]?=some a->SrcR K ρ H (.ref n) (Itl K a)
 | zpp {s1 s2:Src} {k1 k2:Bool} {a b:Addr}:SrcK K ρ H s1 k1 a->SrcK K ρ H s2 k2 b->SrcR K ρ H (.zpp s1 s2) (Itz K k1 k2 a b)
 | dwn (lo:Int) (n:Nat):SrcR K ρ H (.con ((List.range n).map fun(k:Nat)=>D.int (lo-k))) (Itd lo n)
 | enm {s1:Src} {k:Bool} {a:Addr}:SrcK K ρ H s1 k a->SrcR K ρ H (.enm s1) (Ite K k a)
 | ezp {s1 s2:Src} {k1 k2:Bool} {a b:Addr}:SrcK K ρ H s1 k1 a->SrcK K ρ H s2 k2 b->SrcR K ρ H (.enm (.zpp s1 s2)) (Itn K k1 k2 a b)
theorem SrcR.mono'{K:PySem.W.Frag}{ρ':List Addr}{H':Hp}{src:Src}{J:L2.It}(x:Mon K ρ ρ' H H')(h:SrcR K ρ H src J):SrcR K ρ' H' src J:=by
 cases h with
 | tup h1 h2=>exact .tup (x.tup _ _ h1) (RDs.mono' x _ _ h2)
 | rng lo n=>exact .rng lo n
 | lst h=>exact .lst (x.pre _ _ h)
 | zpp h1 h2=>exact .zpp (h1.mono' x) (h2.mono' x)
 | dwn lo n=>exact .dwn lo n
 | enm h1=>exact .enm (h1.mono' x)
 | ezp h1 h2=>exact .ezp (h1.mono' x) (h2.mono' x)
theorem SrcR.mono{K:PySem.W.Frag}{ρ':List Addr}{H':Hp}{src:Src}{J:L2.It}(x:Stp K ρ ρ' H H')(h:SrcR K ρ H src J):SrcR K ρ' H' src J:=h.mono' x.toMon
theorem Xdq{s1 s2:Src}{i:Nat}{o:Option D}(g:(Src.zpp s1 s2).get S i=some o):∃ o1 o2,s1.get S i=some o1/\s2.get S i=some o2/\match o with
  | some d=>∃ x y,o1=some x/\o2=some y/\d=.tup [x,y]
  | none=>o1=none\/o2=none:=by
 simp only[Src.get] at g;split at g
 ·rename_i x y e1 e2;cases g;exact⟨_,_,e1,e2,x,y,rfl,rfl,rfl⟩
 ·rename_i o1 o2 hn e1 e2
  cases g;refine⟨o1,o2,e1,e2,?_⟩;cases o1 with
  | none=>exact .inl rfl
  | some x =>
   cases o2 with
   | none=>exact .inr rfl
   | some y=>exact(hn x y rfl rfl).elim
 ·cases g
theorem Xdr{s1:Src}{i:Nat}{o:Option D}(g:(Src.enm s1).get S i=some o):∃ o1,s1.get S i=some o1/\match o with
  | some d=>∃ x,o1=some x/\d=.tup [.int i,x]
  | none=>o1=none:=by
 simp only[Src.get] at g;split at g
 ·rename_i x e1;cases g;exact⟨_,e1,x,rfl,rfl⟩
 ·rename_i hn
  refine⟨o,g,?_⟩;cases o with
  | none=>rfl
  | some x=>exact(hn x g).elim
theorem SrcR.go{src:Src}{J:L2.It}{i:Nat}{d:D}(h:SrcR X.K ρ H src J)(I:S0 X pins σ H s ρ S env)(g:src.get S i=some (some d)) :
  J.go i H/\∀ x H',J.yld i H x H'->SR X.K ρ S H'/\Stp X.K ρ ρ H H'/\RD X.K ρ H' d x:=by
 cases h with
 | @tup a xs vs h1 h2 =>
  simp only[Src.get,Option.some.injEq] at g;obtain⟨v,e1,e2⟩:=h2.get g;refine⟨⟨vs,v,h1,e1⟩,fun x H' y=>?_⟩
  obtain⟨rfl,y⟩:=y;have:=y vs h1;rw[e1] at this;cases this;exact⟨I.sr,.refl,e2⟩
 | rng lo n =>
  simp only[Src.get,Option.some.injEq] at g;rw[List.getElem?_map] at g;have hi:i<n:=by
   by_cases hi:i<n
   ·exact hi
   ·rw[List.getElem?_eq_none (by simpa using hi)] at g;cases g
  rw[List.getElem?_range hi] at g;simp only[Option.map_some,Option.some.injEq] at g;subst g;refine⟨hi,fun x H' y=>?_⟩
  obtain⟨rfl,rfl⟩:=y;exact⟨I.sr,.refl,by simp only[RD]⟩
 | @lst n a h =>
  simp only[Src.get,Option.map_eq_some_iff] at g;obtain⟨xs,g1,g2⟩:=g;obtain⟨a',vs,k1,k2,k3⟩:=I.list g1;rw[h] at k1;cases k1;obtain⟨v,e1,e2⟩:=k3.get g2;refine⟨⟨vs,v,.of k2,e1⟩,fun x H' y=>?_⟩
  obtain⟨rfl,y⟩:=y;have:=y vs (.of k2);rw[e1] at this;cases this;exact⟨I.sr,.refl,e2⟩
 | @zpp s1 s2 k1 k2 a b h1 h2 =>
  obtain⟨o1,o2,g1,g2,x,y,rfl,rfl,rfl⟩:=Xdq g;obtain⟨vs,q1,v,e1,r1⟩:=h1.get I g1;obtain⟨us,q2,u,e2,r2⟩:=h2.get I g2;refine⟨⟨vs,v,us,u,q1,e1,q2,e2⟩,fun w H' yd=>?_⟩
  obtain⟨T,v',u',rfl,hT,rfl,z1,z2⟩:=yd;have z1':=z1 vs q1;have z2':=z2 us q2;rw[e1] at z1';cases z1';rw[e2] at z2';cases z2';have st:Stp X.K ρ ρ H (upd H T (.tup [v,u])):=Stp.upd hT;refine⟨I.sr.upd hT,st,?_⟩;simp only[RD];exact⟨T,[v,u],rfl,.of Xz,.cons (r1.mono st) (.cons (r2.mono st) .nil)⟩
 | dwn lo n =>
  simp only[Src.get,Option.some.injEq] at g;rw[List.getElem?_map] at g;have hi:i<n:=by
   by_cases hi:i<n
   ·exact hi
   ·rw[List.getElem?_eq_none (by simpa using hi)] at g;cases g
  rw[List.getElem?_range hi] at g;simp only[Option.map_some,Option.some.injEq] at g;subst g;refine⟨hi,fun x H' y=>?_⟩
  obtain⟨rfl,rfl⟩:=y;exact⟨I.sr,.refl,by simp only[RD]⟩
 | @enm s1 k a h1 =>
  obtain⟨o1,g1,x,rfl,rfl⟩:=Xdr g;obtain⟨vs,q1,v,e1,r1⟩:=h1.get I g1;refine⟨⟨vs,v,q1,e1⟩,fun w H' yd=>?_⟩
  obtain⟨T,v',rfl,hT,rfl,z1⟩:=yd;have z1':=z1 vs q1;rw[e1] at z1';cases z1';have st:Stp X.K ρ ρ H (upd H T (.tup [.int i,v])):=Stp.upd hT;refine⟨I.sr.upd hT,st,?_⟩;simp only[RD];exact⟨T,[.int i,v],rfl,.of Xz,.cons (by simp only[RD]) (.cons (r1.mono st) .nil)⟩
 | @ezp s1 s2 k1 k2 a b h1 h2 =>
  obtain⟨o,g0,x0,rfl,rfl⟩:=Xdr g;obtain⟨o1,o2,g1,g2,x,y,rfl,rfl,rfl⟩:=Xdq g0;obtain⟨vs,q1,v,e1,r1⟩:=h1.get I g1;obtain⟨us,q2,u,e2,r2⟩:=h2.get I g2;refine⟨⟨vs,v,us,u,q1,e1,q2,e2⟩,fun w H' yd=>?_⟩
  obtain⟨T,U,v',u',rfl,hT,hU,hTU,rfl,z1,z2⟩:=yd;have z1':=z1 vs q1;have z2':=z2 us q2;rw[e1] at z1';cases z1';rw[e2] at z2';cases z2';have st1:Stp X.K ρ ρ H (upd H T (.tup [v,u])):=Stp.upd hT;have hU':upd H T (.tup [v,u]) U=none:=by rw[Xf hTU.symm];exact hU
  have st2:Stp X.K ρ ρ _ (upd (upd H T (.tup [v,u])) U (.tup [.int i,.ref T])):=Stp.upd hU';have rt:RD X.K ρ (upd H T (.tup [v,u])) (.tup [x,y]) (.ref T):=by simp only[RD];exact⟨T,[v,u],rfl,.of Xz,.cons (r1.mono st1) (.cons (r2.mono st1) .nil)⟩
  refine⟨(I.sr.upd hT).upd hU',st1.trans st2,?_⟩;rw[RD];exact⟨U,[.int i,.ref T],rfl,.of Xz,.cons (by simp only[RD]) (.cons (rt.mono st2) .nil)⟩
theorem SrcR.stop{src:Src}{J:L2.It}{i:Nat}(h:SrcR X.K ρ H src J)(I:S0 X pins σ H s ρ S env)(g:src.get S i=some none):J.stop i H:=by
 cases h with
 | @tup a xs vs h1 h2 =>
  simp only[Src.get,Option.some.injEq] at g;exact⟨vs,h1,by have:=h2.none g;rw[List.getElem?_eq_none_iff] at this;exact this⟩
 | rng lo n =>
  simp only[Src.get,Option.some.injEq] at g;rw[List.getElem?_eq_none_iff] at g;show n<=i
  simpa using g
 | @lst n a h =>
  simp only[Src.get,Option.map_eq_some_iff] at g;obtain⟨xs,g1,g2⟩:=g;obtain⟨a',vs,k1,k2,k3⟩:=I.list g1;rw[h] at k1;cases k1;exact⟨vs,.of k2,by have:=k3.none g2;rw[List.getElem?_eq_none_iff] at this;exact this⟩
 | @zpp s1 s2 k1 k2 a b h1 h2 =>
  obtain⟨o1,o2,g1,g2,ho⟩:=Xdq g;obtain⟨vs,q1,r1⟩:=h1.get I g1;obtain⟨us,q2,r2⟩:=h2.get I g2;refine⟨vs,us,q1,q2,?_⟩;rcases ho with e|e<;>subst e
  ·exact .inl r1
  ·exact .inr r2
 | dwn lo n =>
  simp only[Src.get,Option.some.injEq] at g;rw[List.getElem?_eq_none_iff] at g;show n<=i
  simpa using g
 | @enm s1 k a h1 =>
  obtain⟨o1,g1,ho⟩:=Xdr g;obtain⟨vs,q1,r1⟩:=h1.get I g1;cases ho;exact⟨vs,q1,r1⟩
 | @ezp s1 s2 k1 k2 a b h1 h2 =>
  obtain⟨o,g0,hn⟩:=Xdr g;cases hn;obtain⟨o1,o2,g1,g2,ho⟩:=Xdq g0;obtain⟨vs,q1,r1⟩:=h1.get I g1;obtain⟨us,q2,r2⟩:=h2.get I g2;refine⟨vs,us,q1,q2,?_⟩;rcases ho with e|e<;>subst e
  ·exact .inl r1
  ·exact .inr r2
def ItP(X:Cx)(pins:List (Addr×Obj))(σ:L2.St)(ρ:List Addr)(H:Hp)(tg:Expr)(r:R Src)(itv:Value)(s2:Shared):Prop :=
 ∃ src S' it fp tn J H' ρ',r=.ok src S'/\itv=.ref it/\Inv X pins σ H' s2/\Turn X.prog X.w X.K tg J fp it tn/\tn 0 s2.heap/\(∀ b∈fp,Y9 X pins H' b)/\SrcR X.K ρ' H' src J/\SR X.K ρ' S' H'/\Stp X.K ρ ρ' H H'
def DI(X:Cx)(tg iter:Expr)(f:En->Sto->R Src):Prop :=
 ∀ (pins:List (Addr×Obj)) (s:Shared) (σ:L2.St) (H:Hp) (ρ:List Addr) (S:Sto) (env:En) (E:Value->Shared->Prop),S0 X pins σ H s ρ S env->f env S≠.bad->(∀ x s',ExP X pins σ ρ H (f env S) x s'->E x s') ->
  wpAny (model X.prog X.w) X.A (eval iter X.env) (fun v s1=>wpAny (model X.prog X.w) X.A (pyIter v) (ItP X pins σ ρ H tg (f env S)) E s1) E s
theorem Xxf(he:DE X iter f):DI X tg iter (fun env S=>(f env S).bind fun x S=>match Xs S x with|some r=>.ok r S|none=>.bad):=by
 intro pins s σ H ρ S env E I nb hE;dsimp only at nb hE ⊢;cases q:f env S with
 | bad=>rw[q] at nb;exact absurd rfl nb
 | ex n S1=>rw[q] at hE;exact he.ex I q fun x s' z=>hE x s' ⟨n,S1,rfl,z⟩
 | ok d S1 =>
  rw[q] at nb;simp only[Rk0] at nb ⊢;refine he.ok I q fun u s1 v H1 ρ1 I1 rv rd st1=>?_
  cases d with
  | tup xs =>
   simp only[RD] at rd;obtain⟨a,vs,rfl,h1,h2⟩:=rd;cases rv;obtain⟨its,rvs,p,hz⟩:=I1.inv.tuple h1;refine wpAny_pyIter_tuple (show s1.heap.IsTuple a its.toArray from p) ?_;refine⟨_,S1,s1.heap.objs.size,[s1.heap.objs.size],_,_,H1,ρ1,rfl,rfl,I1.inv.kept (t':=s1.toks) fun b o e=>Heap.get?_push_of_some _ e,Xk7 a _,⟨_,Heap.get?_push_size _ rfl,rfl,rfl⟩,fun b hb=>?_,.tup h1 h2,I1.sr,st1⟩
   have e:b=s1.heap.objs.size:=by simpa using hb
   subst e;exact I1.inv.fpOk (Nat.le_refl _) (I1.inv.hok.fresh (Nat.le_refl _))
  | ref n =>
   cases e1:Xd S1 n with
   | none=>simp[Xs,e1] at nb
   | some xs =>
    obtain⟨a,vs,k1,k2,k3⟩:=I1.list e1;simp only[RD] at rd;obtain⟨a',rfl,k4⟩:=rd;rw[k1] at k4;cases k4;cases rv;obtain⟨its,rvs,p,hz⟩:=I1.inv.list (.of k2);refine wpAny_pyIter_list p.isList ?_;refine⟨.ref n,S1,s1.heap.objs.size,[s1.heap.objs.size],_,_,H1,ρ1,by simp[Xs,e1],rfl,I1.inv.kept (t':=s1.toks) fun b o e=>Heap.get?_push_of_some _ e,Xm8 a _,⟨_,Heap.get?_push_size _ rfl,rfl,rfl⟩,fun b hb=>?_,.lst k1,I1.sr,st1⟩
    have e:b=s1.heap.objs.size:=by simpa using hb
    subst e;exact I1.inv.fpOk (Nat.le_refl _) (I1.inv.hok.fresh (Nat.le_refl _))
  | non=>simp[Xs] at nb
  | bl _=>simp[Xs] at nb
  | int _=>simp[Xs] at nb
  | str _=>simp[Xs] at nb
  | fro _=>simp[Xs] at nb
  | fn _ _=>simp[Xs] at nb
theorem Xns{tk:Nat}{lo hi:Int}{t u v:Tok}{ds:List D}(I:S0 X pins σ H s ρ S env)(h1:-(2^62)<=lo)(h2:lo<2^62)(h3:-(2^62)<=hi)(h4:hi<2^62)(hds:ds=(List.range (hi-lo).toNat).map fun(k:Nat)=>D.int (lo+k)) :
  wpAny (model X.prog X.w) X.A (pyIter (.ref s.heap.objs.size)) (ItP X pins σ ρ H tg (.ok (.con ds) S)) E { s with heap:=s.heap.push { cls:=.type "range",data:=.fields #[.int lo t,.int hi u,.int 1 v] },toks:=tk }:=by
 refine thn (Xpl (X:=X.wish E) (tg:=tg) (R:=fun J H'=>J=Itr lo (hi-lo).toNat/\H'=H) (I.inv.wish E) h1 h2 h3 h4 ⟨rfl,rfl⟩) fun itv s2 ⟨it,fp,tn,J,H',e1,J',T,t0,fo,e2,e3⟩=>?_
 subst e2 e3;exact⟨_,S,it,fp,tn,_,H',ρ,rfl,e1,J'.unwish,T,t0,fo,by rw[hds];exact .rng _ _,I.sr,.refl⟩
theorem Xp7{tk:Nat}{lo hi:Int}{t u v:Tok}(I:S0 X pins σ H s ρ S env)(h1:-(2^62)<=lo)(h2:lo<2^62)(h3:-(2^62)<=hi)(h4:hi<2^62) :
  wpAny (model X.prog X.w) X.A (pyIter (.ref s.heap.objs.size)) (ItP X pins σ ρ H tg (.ok (.con ((List.range (lo-hi).toNat).map fun(k:Nat)=>D.int (lo-k))) S)) E { s with heap:=s.heap.push { cls:=.type "range",data:=.fields #[.int lo t,.int hi u,.int (-1) v] },toks:=tk }:=by
 refine thn (Xts (X:=X.wish E) (tg:=tg) (R:=fun J H'=>J=Itd lo (lo-hi).toNat/\H'=H) (I.inv.wish E) h1 h2 h3 h4 ⟨rfl,rfl⟩) fun itv s2 ⟨it,fp,tn,J,H',e1,J',T,t0,fo,e2,e3⟩=>?_
 subst e2 e3;exact⟨_,S,it,fp,tn,_,H',ρ,rfl,e1,J'.unwish,T,t0,fo,.dwn _ _,I.sr,.refl⟩
theorem Xxg {p:Pos} {es:List Expr} {g:En->Sto->R (List D)} (hg:Gl X "range") (hm:X.mg "range" = none) (ha:DA X (a::es) g) (hs:starEach (a::es) X.env=(false,eval a X.env)::starEach es X.env) (hpl:(backTo pos (starEach es X.env)).any (·.1)=false) :
  DI X tg (.Call (.Name "range" p) (a::es) [] pos) (fun env S=>(g env S).bind fun xs S=>match Y2 xs with|some ds=>.ok (.con ds) S|none=>.bad):=by
 intro pins s σ H ρ S env E I nb hE;dsimp only at nb hE ⊢;refine Call_ (Yn I.inv hg hm boot_range (PyProof.Rows.callWith_type1 ?_ hs hpl));cases q:g env S with
 | bad=>rw[q] at nb;exact absurd rfl nb
 | ex n S1=>rw[q] at hE;exact ha.ex I q fun x s' z=>hE x s' ⟨n,S1,rfl,z⟩
 | ok ds S1 =>
  rw[q] at nb;simp only[Rk0] at nb ⊢;refine ha.ok I q fun us s1 vs H1 ρ1 I1 rv rd st1=>?_
  have fin:∀ {tk:Nat} {lo hi:Int} {t u v:Tok} {xs:List D},-(2^62)<=lo->lo<2^62->-(2^62)<=hi->hi<2^62->xs=(List.range (hi-lo).toNat).map (fun(k:Nat)=>D.int (lo+k)) ->
    wpAny (model X.prog X.w) X.A (pyIter (.ref s1.heap.objs.size)) (ItP X pins σ ρ H tg (.ok (.con xs) S1)) E { s1 with heap:=s1.heap.push { cls:=.type "range",data:=.fields #[.int lo t,.int hi u,.int 1 v] },toks:=tk }:=fun h1 h2 h3 h4 h5 =>
   wpAny_mono (Xns I1 h1 h2 h3 h4 h5) (fun itv s2 ⟨src,S2,it,fp,tn,J,H2,ρ2,z1,z2,z3,z4,z5,z6,z7,z8,z9⟩=>⟨src,S2,it,fp,tn,J,H2,ρ2,z1,z2,z3,z4,z5,z6,z7,z8,st1.trans z9⟩) fun _ _ z=>z
  match ds,rd,nb with
  | [],rd,nb=>simp[Y2] at nb
  | [d],rd,nb =>
   cases d with
   | int j =>
    simp only[Y2] at nb ⊢
    by_cases hz:-(1048576)<j/\j<1048576
    ·rw[if_pos hz] at nb ⊢
     simp only[RDs] at rd;obtain⟨v,r,rfl,r1,rfl⟩:=rd;simp only[RD] at r1;subst r1;cases rv with
     | cons q1 q2 =>
      cases q2;obtain⟨t,rfl⟩:=q1;refine call_range_1 (fin (by omega) (by omega) (by omega) (by omega) ?_)
      simp
    ·rw[if_neg hz] at nb;exact absurd rfl nb
   | _=>simp[Y2] at nb
  | [d1,d2],rd,nb =>
   cases d1 with
   | int i=>cases d2 with
    | int j =>
     simp only[Y2] at nb ⊢
     by_cases hz:-(1048576)<i/\i<1048576/\-(1048576)<j/\j<1048576
     ·rw[if_pos hz] at nb ⊢
      simp only[RDs] at rd;obtain⟨v,r,rfl,r1,v2,r2,rfl,r3,rfl⟩:=rd;simp only[RD] at r1 r3;subst r1 r3;cases rv with
      | cons q1 q2 =>
       cases q2 with
       | cons q3 q4 =>
        cases q4;obtain⟨t,rfl⟩:=q1;obtain⟨t',rfl⟩:=q3;exact call_range_2 (fin (by omega) (by omega) (by omega) (by omega) rfl)
     ·rw[if_neg hz] at nb;exact absurd rfl nb
    | _=>simp[Y2] at nb
   | _=>simp[Y2] at nb
  | [d1,d2,d3],rd,nb =>
   cases d1 with
   | int i=>cases d2 with
    | int j=>cases d3 with
     | int c =>
      simp only[Y2] at nb ⊢
      by_cases hz:c = -1/\-(1048576)<i/\i<1048576/\-(1048576)<j/\j<1048576
      ·rw[if_pos hz] at nb ⊢
       simp only[RDs] at rd;obtain⟨v,r,rfl,r1,v2,r2,rfl,r3,v3,r4,rfl,r5,rfl⟩:=rd;simp only[RD] at r1 r3 r5;subst r1 r3 r5;obtain⟨rfl,hz⟩:=hz;cases rv with
       | cons q1 q2 =>
        cases q2 with
        | cons q3 q4 =>
         cases q4 with
         | cons q5 q6 =>
          cases q6;obtain⟨t,rfl⟩:=q1;obtain⟨t',rfl⟩:=q3;obtain⟨t'',rfl⟩:=q5;exact call_range_3 (by decide) (wpAny_mono (Xp7 I1 (by omega) (by omega) (by omega) (by omega)) (fun itv s2 ⟨src,S2,it,fp,tn,J,H2,ρ2,z1,z2,z3,z4,z5,z6,z7,z8,z9⟩=>⟨src,S2,it,fp,tn,J,H2,ρ2,z1,z2,z3,z4,z5,z6,z7,z8,st1.trans z9⟩) fun _ _ z=>z)
      ·rw[if_neg hz] at nb;exact absurd rfl nb
     | _=>simp[Y2] at nb
    | _=>simp[Y2] at nb
   | _=>simp[Y2] at nb
  | _::_::_::_::_,rd,nb=>simp[Y2] at nb
theorem Xli{d:D}{v:V}{u:Value}{src:Src}(I:S0 X pins σ H s ρ S env)(e:Xs S d=some src)(rd:RD X.K ρ H d v)(rv:RelV v u):∃ k a vs,u=.ref a/\SqH k X.K H a vs/\SrcK X.K ρ H src k a:=by
 cases d with
 | tup xs =>
  have e':some (Src.con xs)=some src:=e;cases e';simp only[RD] at rd;obtain⟨a,vs,rfl,h1,h2⟩:=rd;cases rv;exact⟨false,a,vs,rfl,h1,vs,h1,h2⟩
 | ref n =>
  cases e1:Xd S n with
  | none=>simp[Xs,e1] at e
  | some xs =>
   simp only[Xs,e1,Option.map_some,Option.some.injEq] at e;subst e;obtain⟨a,vs,k1,k2,k3⟩:=I.list e1;simp only[RD] at rd;obtain⟨a',rfl,k4⟩:=rd;rw[k1] at k4;cases k4;cases rv;exact⟨true,a,vs,rfl,.of k2,k1⟩
 | _=>cases e
theorem Xtu{n a b:Nat}(h1:a<n)(h2:b<n):ZAp (n+4) (n+2) (n+3) n (n+1) a b:=by
 constructor<;>(try refine⟨?_,?_,?_,?_⟩)<;>(intro z;first|omega|(have z':(_:Nat)=_:=z;omega))
theorem Xnt{n b:Nat}(h:b∈[n+4,n+2,n+3,n,n+1]):n<=b:=by
 simp only[List.mem_cons,List.not_mem_nil,or_false] at h;omega
theorem Xkd{k:Bool}{a:Addr}{vs:List V}(I:Inv X pins σ H s)(h:SqH k X.K H a vs):a<s.heap.objs.size:=by
 obtain⟨its,_,q⟩:=Xay I h;obtain⟨o,e,_⟩:=q.obj;exact Heap.lt_size e
theorem Xnu {p:Pos} {es:List Expr} {g:En->Sto->R (List D)} {x y:D} {sx sy:Src} {S1:Sto} (hg:Gl X "zip") (hm:X.mg "zip" = none) (ha:DA X (a::es) g) (hs:starEach (a::es) X.env=(false,eval a X.env)::starEach es X.env) (hpl:(backTo pos (starEach es X.env)).any (·.1)=false) (I:S0 X pins σ H s ρ S env) (q:g env S=.ok [x,y] S1) (e1:Xs S1 x=some sx) (e2:Xs S1 y=some sy)
  (hQ:∀ s1 h' H1 ρ1 k1 k2 b1 b2,S0 X pins σ H1 s1 ρ1 S1 env->ZAp (s1.heap.objs.size+4) (s1.heap.objs.size+2) (s1.heap.objs.size+3) s1.heap.objs.size (s1.heap.objs.size+1) b1 b2->ZSa k1 k2 (s1.heap.objs.size+4) (s1.heap.objs.size+2) (s1.heap.objs.size+3) s1.heap.objs.size (s1.heap.objs.size+1) b1 b2 0 0 h'->SrcK X.K ρ1 H1 sx k1 b1->SrcK X.K ρ1 H1 sy k2 b2->Stp X.K ρ ρ1 H H1->(∀ c o,s1.heap.get? c=some o->h'.get? c=some o)->Q (.ref (s1.heap.objs.size+4)) { s1 with heap:=h' }) :
  wpAny (model X.prog X.w) X.A (eval (.Call (.Name "zip" p) (a::es) [] pos) X.env) Q E s:=by
 refine Call_ (Yn I.inv hg hm (u:=.type "zip") (by decide+kernel) (PyProof.Rows.callWith_type1 (ha.ok I q fun us s1 vs H1 ρ1 I1 rv rd st1=>?_) hs hpl))
 simp only[RDs] at rd;obtain⟨v1,r1,rfl,rd1,v2,r2,rfl,rd2,rfl⟩:=rd;cases rv with
 | cons q1 q2 =>
  cases q2 with
  | cons q3 q4 =>
   cases q4;obtain⟨k1,b1,w1,rfl,m1,c1⟩:=Xli I1 e1 rd1 q1;obtain⟨k2,b2,w2,rfl,m2,c2⟩:=Xli I1 e2 rd2 q3;obtain⟨its1,_,p1⟩:=Xay I1.inv m1;obtain⟨its2,_,p2⟩:=Xay I1.inv m2;exact Xpu p1 p2 fun h' zs kp=>hQ s1 h' H1 ρ1 k1 k2 b1 b2 I1 (Xtu (Xkd I1.inv m1) (Xkd I1.inv m2)) zs c1 c2 st1 kp
theorem Xxh {p tp:Pos} {x0:Nat} {ts es:List Expr} {g:En->Sto->R (List D)} (hg:Gl X "zip") (hm:X.mg "zip" = none) (ha:DA X (a::es) g) (hs:starEach (a::es) X.env=(false,eval a X.env)::starEach es X.env) (hpl:(backTo pos (starEach es X.env)).any (·.1)=false) :
  DI X (.Tuple ts x0 tp) (.Call (.Name "zip" p) (a::es) [] pos) (fun env S=>(g env S).bind fun xs S=>match xs with
   | [x,y]=>match Xs S x,Xs S y with
    | some s,some t=>.ok (.zpp s t) S
    | _,_=>.bad
   | _=>.bad):=by
 intro pins s σ H ρ S env E I nb hE;dsimp only at nb hE ⊢;cases q:g env S with
 | bad=>rw[q] at nb;exact absurd rfl nb
 | ex n S1=>rw[q] at hE;exact Call_ (Yn I.inv hg hm (u:=.type "zip") (by decide+kernel) (PyProof.Rows.callWith_type1 (ha.ex I q fun x s' z=>hE x s' ⟨n,S1,rfl,z⟩) hs hpl))
 | ok ds S1 =>
  rw[q] at nb;simp only[Rk0] at nb ⊢
  match ds,q,nb with
  | [],q,nb=>exact absurd rfl nb
  | [_],q,nb=>exact absurd rfl nb
  | _::_::_::_,q,nb=>exact absurd rfl nb
  | [x,y],q,nb =>
   cases e1:Xs S1 x with
   | none=>simp only[e1] at nb;exact absurd rfl nb
   | some sx =>
    cases e2:Xs S1 y with
    | none=>simp only[e1,e2] at nb;exact absurd rfl nb
    | some sy =>
     refine Xnu hg hm ha hs hpl I q e1 e2 fun s1 h' H1 ρ1 k1 k2 b1 b2 I1 za zs c1 c2 st1 kp=>let ⟨_,_,zq,_⟩:=zs.zo;Xct zq ?_
     refine⟨.zpp sx sy,S1,_,[s1.heap.objs.size+4,s1.heap.objs.size+2,s1.heap.objs.size+3,s1.heap.objs.size,s1.heap.objs.size+1],_,_,H1,ρ1,by simp only[e1,e2],rfl,I1.inv.kept (t':=s1.toks) kp,Xpx za,zs,fun b hb=>?_,.zpp c1 c2,I1.sr,st1⟩
     have hb':s1.heap.objs.size<=b:=Xnt hb;exact I1.inv.fpOk hb' (I1.inv.hok.fresh hb')
theorem Xxi {p p' tp pos':Pos} {x0:Nat} {ts es:List Expr} {g:En->Sto->R (List D)} (hg0:Gl X "enumerate") (hm0:X.mg "enumerate" = none) (hg:Gl X "zip") (hm:X.mg "zip" = none) (ha:DA X (a::es) g) (hs:starEach (a::es) X.env=(false,eval a X.env)::starEach es X.env) (hpl:(backTo pos (starEach es X.env)).any (·.1)=false) :
  DI X (.Tuple ts x0 tp) (.Call (.Name "enumerate" p') [.Call (.Name "zip" p) (a::es) [] pos] [] pos') (fun env S=>(g env S).bind fun xs S=>match xs with
   | [x,y]=>match Xs S x,Xs S y with
    | some s,some t=>.ok (.enm (.zpp s t)) S
    | _,_=>.bad
   | _=>.bad):=by
 intro pins s σ H ρ S env E I nb hE;dsimp only at nb hE ⊢;refine Call_ (Yn I.inv hg0 hm0 (u:=.type "enumerate") (by decide+kernel) (PyProof.Rows.callWith_type1 ?_ rfl rfl))
 show wpAny _ _ (spliced ((false,eval (.Call (.Name "zip" p) (a::es) [] pos) X.env)::backTo pos' (starEach [] X.env))) _ _ s;refine Calls.spliced_cons ?_;cases q:g env S with
 | bad=>rw[q] at nb;exact absurd rfl nb
 | ex n S1=>rw[q] at hE;exact Call_ (Yn I.inv hg hm (u:=.type "zip") (by decide+kernel) (PyProof.Rows.callWith_type1 (ha.ex I q fun x s' z=>hE x s' ⟨n,S1,rfl,z⟩) hs hpl))
 | ok ds S1 =>
  rw[q] at nb;simp only[Rk0] at nb ⊢
  match ds,q,nb with
  | [],q,nb=>exact absurd rfl nb
  | [_],q,nb=>exact absurd rfl nb
  | _::_::_::_,q,nb=>exact absurd rfl nb
  | [x,y],q,nb =>
   cases e1:Xs S1 x with
   | none=>simp only[e1] at nb;exact absurd rfl nb
   | some sx =>
    cases e2:Xs S1 y with
    | none=>simp only[e1,e2] at nb;exact absurd rfl nb
    | some sy =>
     refine Xnu hg hm ha hs hpl I q e1 e2 fun s1 h' H1 ρ1 k1 k2 b1 b2 I1 za zs c1 c2 st1 kp=>Calls.spliced_nil (Xp6 (s:={ s1 with heap:=h' }) zs fun h2 ez kp2=>Xcu ez.eo ?_)
     have lt:s1.heap.objs.size+4<h'.objs.size:=let ⟨_,_,zq,_⟩:=zs.zo;Heap.lt_size zq
     have nn:∀ {m:Nat},m<=4->h'.objs.size≠s1.heap.objs.size+m:=fun hm z=>by have z':(_:Nat)=_:=z;omega
     refine⟨.enm (.zpp sx sy),S1,_,[h'.objs.size,s1.heap.objs.size+4,s1.heap.objs.size+2,s1.heap.objs.size+3,s1.heap.objs.size,s1.heap.objs.size+1],_,_,H1,ρ1,by simp only[e1,e2],rfl,I1.inv.kept (t':=s1.toks) fun c o u=>kp2 c o (kp c o u),
      Xp5 ⟨nn (by omega),nn (by omega),nn (by omega),nn (m:=0) (by omega),nn (by omega)⟩ za (fun _ _ _ _ _ st h=>Xcu st.eo h),ez,fun b hb=>?_,.ezp c1 c2,I1.sr,st1⟩
     have hb':s1.heap.objs.size<=b:=by
      rcases List.mem_cons.mp hb with z|z
      ·subst z;have lt':(_:Nat)<_:=lt;show(_:Nat)<=_;omega
      ·exact Xnt z
     exact I1.inv.fpOk hb' (I1.inv.hok.fresh hb')
theorem Xxj {p tp:Pos} {x0:Nat} {ts es:List Expr} {g:En->Sto->R (List D)} (hg:Gl X "enumerate") (hm:X.mg "enumerate" = none) (ha:DA X (a::es) g) (hs:starEach (a::es) X.env=(false,eval a X.env)::starEach es X.env) (hpl:(backTo pos (starEach es X.env)).any (·.1)=false) :
  DI X (.Tuple ts x0 tp) (.Call (.Name "enumerate" p) (a::es) [] pos) (fun env S=>(g env S).bind fun xs S=>match xs with
   | [x]=>match Xs S x with
    | some s=>.ok (.enm s) S
    | none=>.bad
   | _=>.bad):=by
 intro pins s σ H ρ S env E I nb hE;dsimp only at nb hE ⊢;refine Call_ (Yn I.inv hg hm (u:=.type "enumerate") (by decide+kernel) (PyProof.Rows.callWith_type1 ?_ hs hpl))
 cases q:g env S with
 | bad=>rw[q] at nb;exact absurd rfl nb
 | ex n S1=>rw[q] at hE;exact ha.ex I q fun x s' z=>hE x s' ⟨n,S1,rfl,z⟩
 | ok ds S1 =>
  rw[q] at nb;simp only[Rk0] at nb ⊢;refine ha.ok I q fun us s1 vs H1 ρ1 I1 rv rd st1=>?_
  match ds,rd,nb with
  | [],rd,nb=>exact absurd rfl nb
  | _::_::_,rd,nb=>exact absurd rfl nb
  | [x],rd,nb =>
   cases e1:Xs S1 x with
   | none=>simp only[e1] at nb;exact absurd rfl nb
   | some sx =>
    simp only[RDs] at rd;obtain⟨v1,r1,rfl,rd1,rfl⟩:=rd;cases rv with
    | cons q1 q2 =>
     cases q2;obtain⟨k1,b1,w1,rfl,m1,c1⟩:=Xli I1 e1 rd1 q1;obtain⟨its1,_,p1⟩:=Xay I1.inv m1;refine Xtq p1 fun h' ns kp=>by
      refine Xcu ns.eo ?_;have J:Inv X pins σ H1 { s1 with heap:=h' }:=I1.inv.kept (t':=s1.toks) kp
      refine⟨.enm sx,S1,_,[s1.heap.objs.size+1,s1.heap.objs.size],_,_,H1,ρ1,by simp only[e1],rfl,J,Xtr (fun z=>by have z':(_:Nat)=_:=z;omega),ns,fun b hb=>?_,.enm c1,I1.sr,st1⟩
      have hb':s1.heap.objs.size<=b:=by
       simp only[List.mem_cons,List.not_mem_nil,or_false] at hb;rcases hb with z|z<;>(have z':(_:Nat)=_:=z;omega)
      exact I1.inv.fpOk hb' (I1.inv.hok.fresh hb')
theorem DSs.ok{st:List Stmt}{na:Bool}{g:En->Sto->R Fl}{x:Fl}{Q:Flow->Shared->Prop}(h:DSs X st na g)(I:S0 X pins σ H s ρ S env)(r:g env S=.ok x S')(hQ:∀ fl s',FlP X pins σ ρ H na S' s' x fl->Q fl s') :
  wpAny (model X.prog X.w) X.A (execs st X.env) Q E s:=by
 refine wpAny_mono (h pins s σ H ρ S env I (by rw[r];exact fun z=>nomatch z)) (fun fl s' z=>?_) fun x s' z=>?_
 ·obtain⟨y,S1,e,z⟩:=z
  rw[r] at e;cases e;exact hQ fl s' z
 ·obtain⟨n,S1,_,e,_⟩:=z
  rw[r] at e;cases e
theorem S0.rep{pl:List (Addr×Obj)}(I:S0 X pins σ H s ρ S env)(J:Inv X pl σ H s):S0 X pl σ H s ρ S env:=⟨J,I.sr,I.er⟩
theorem Xxk{t:Tg}{body:List Stmt}{na:Bool}{g:En->Sto->R Fl}{fi:En->Sto->R Src}(hc:X.calm=true)(hi:DI X tg iter fi)(hg:DG X tg t)(hb:DSs X body na g)(hs:∀ x,foldedSetIterable iter X.env x=pure x) :
  DS X (.For tg iter body [] pos) false (fun env S=>(fi env S).bind fun src S=>X8 src.get t g (src.most S+1) 0 env S):=by
 intro pins s σ H ρ S env I nb;dsimp only at nb ⊢;cases q:fi env S with
 | bad=>rw[q] at nb;exact absurd rfl nb
 | ex n S1 =>
  refine wpAny_For (wpAny_mono (hi pins s σ H ρ S env _ I (by rw[q];exact fun z=>nomatch z) fun x s' z=>?_) (fun v s1 h1=>wpAny_mono h1 (fun itv s2 h2=>?_) fun _ _ z=>z) fun _ _ z=>z) hs
  ·rw[q] at z;obtain⟨m,S2,e,z⟩:=z;cases e;exact .of .refl z rfl
  ·obtain⟨src,S2,_,_,_,_,_,_,e,_⟩:=h2
   rw[q] at e;cases e
 | ok src S1 =>
  rw[q] at nb;simp only[Rk0] at nb ⊢;refine wpAny_mono (E:=fun _ _=>False) (wpAny_For (wpAny_mono (hi pins s σ H ρ S env (fun _ _=>False) I (by rw[q];exact fun z=>nomatch z) fun x s' z=>?_) (fun v s1 h1=>wpAny_mono h1 (fun itv s2 h2=>?_) fun _ _ z=>z) fun _ _ z=>z) hs) (fun _ _ z=>z) fun _ _ z=>z.elim
  ·rw[q] at z;obtain⟨m,S2,e,z⟩:=z;cases e
  ·obtain⟨src',S2,it,fp,tn,J,H2,ρ2,e1,rfl,I2,T,t0,f2,sr2,srr,st2⟩:=h2
   rw[q] at e1;cases e1;have hp:PassesOwn (model X.prog X.w) X.A X.env (fun _ _=>False):=PassesOwn.never
   have stat:∀ {H':Hp},(∀ b∈fp,H' b=none)->∀ b∈fp,Y9 X pins H' b:=fun hn b hb=>⟨hn b hb,(f2 b hb).2⟩
   generalize hr0:X8 src.get t g (src.most S1+1) 0 env S1=r0;refine codeAny_forLoop_any (fun n s'=>∃ i σ' H' ρ' S' env',S0 X pins σ' H' s' ρ' S' env'/\tn i s'.heap/\(∀ b∈fp,H' b=none)/\SrcR X.K ρ' H' src J/\Stp X.K ρ ρ' H H'/\X8 src.get t g n i env' S'≠.bad/\X8 src.get t g n i env' S'=r0)
    ?_ (src.most S1+1) ⟨0,σ,H2,ρ2,S1,env,I.step I2 srr st2,t0,fun b hb=>(f2 b hb).1,sr2,st2,nb,hr0⟩
   rintro n s3 ⟨i,σ3,H3,ρ3,S3,env3,I3,t3,fr3,sr3,st3,nb3,eq3⟩
   cases n with
   | zero=>exact absurd rfl nb3
   | succ n =>
    simp only[X8] at nb3;cases g1:src.get S3 i with
    | none=>rw[g1] at nb3;exact absurd rfl nb3
    | some o =>
     rw[g1] at nb3;cases o with
     | none =>
      refine wpAny_passesOwn hp (thn (T.done X rfl rfl rfl hc i pins s3 σ3 H3 _ I3.inv (stat fr3) t3 (sr3.stop I3 g1)) fun r s4 ⟨hr,I4⟩=>?_)
      subst hr;exact wpAny_execs_nil ⟨.nx env3,S3,by rw[<- eq3];simp only[X8,g1],rfl,σ3,H3,ρ3,⟨I4,I3.sr,I3.er⟩,st3,fun z=>nomatch z⟩
     | some d =>
      dsimp only at nb3;obtain⟨go,yl⟩:=sr3.go I3 g1;refine wpAny_passesOwn hp (thn (T.item X rfl rfl rfl hc i pins s3 σ3 H3 _ I3.inv (stat fr3) t3 go) fun r s4 ⟨u,hr,h4⟩=>?_)
      subst hr;refine wpAny_passesOwn hp (thn h4 fun _ s5 ⟨x,H5,I5,r5,y5,t5,fr5⟩=>?_)
      obtain⟨sr5,st5,rd5⟩:=yl x H5 y5;have I5':=I5.pinned (stat fr5) (T.obj _ _ t5);cases e6:Xo t d env3 with
      | none=>rw[e6] at nb3;exact absurd rfl nb3
      | some env6 =>
       rw[e6] at nb3;dsimp only at nb3;refine wpAny_passesOwn hp (hg (pins++Xav fp s5.heap) s5 σ3 H5 ρ3 S3 env3 d x u env6 _ _ ⟨I5',sr5,I3.er.mono st5⟩ e6 rd5 r5 fun s6 σ6 I6=>?_)
       cases e7:g env6 S3 with
       | bad=>rw[e7] at nb3;exact absurd rfl nb3
       | ex m S7=>rw[e7] at nb3;exact absurd rfl nb3
       | ok x7 S7 =>
        rw[e7] at nb3;refine wpAny_passesOwn hp (hb.ok I6 e7 fun fl s7 z7=>?_)
        have again:∀ {σ7:L2.St} {H7:Hp} {ρ7:List Addr} {env7:En},S0 X (pins++Xav fp s5.heap) σ7 H7 s7 ρ7 S7 env7->Stp X.K ρ3 ρ7 H5 H7->X8 src.get t g n (i+1) env7 S7≠.bad->X8 src.get t g n (i+1) env7 S7=r0 ->
          ∃ m,m<n+1/\∃ i σ' H' ρ' S' env',S0 X pins σ' H' s7 ρ' S' env'/\tn i s7.heap/\(∀ b∈fp,H' b=none)/\SrcR X.K ρ' H' src J/\Stp X.K ρ ρ' H H'/\X8 src.get t g m i env' S'≠.bad/\X8 src.get t g m i env' S'=r0 :=
         fun {σ7 H7 ρ7 env7} I7 st7 nb7 eq7=>by
          refine⟨n,Nat.lt_succ_self _,i+1,σ7,H7,ρ7,S7,env7,I7.rep I7.inv.unpinned,T.keep _ _ _ t5 fun b hb o e=>(I7.inv.pin (b,o) (List.mem_append_right _ (List.mem_append_right _ (Xbj hb e)))).1,fun b hb=>?_,sr3.mono (st5.trans st7),st3.trans (st5.trans st7),nb7,eq7⟩
          obtain⟨o,e,_⟩:=T.obj _ _ t5 b hb;exact(I7.inv.pin (b,o) (List.mem_append_right _ (List.mem_append_right _ (Xbj hb e)))).2.1
        have eq3':=eq3;simp only[X8,g1,e6,e7] at eq3';cases x7 with
        | nx e =>
         obtain⟨rfl,σ7,H7,ρ7,I7,st7,_⟩:=z7;exact again I7 st7 nb3 eq3'
        | cnt e =>
         obtain⟨rfl,σ7,H7,ρ7,I7,st7⟩:=z7;exact again I7 st7 nb3 eq3'
        | brk e =>
         obtain⟨rfl,σ7,H7,ρ7,I7,st7⟩:=z7;exact⟨.nx e,S7,eq3'.symm,rfl,σ7,H7,ρ7,I7.rep I7.inv.unpinned,st3.trans (st5.trans st7),fun z=>nomatch z⟩
        | rt d' =>
         obtain⟨u',v',σ7,H7,ρ7,rfl,I7,rv7,rd7,sr7,st7⟩:=z7;exact⟨.rt d',S7,eq3'.symm,u',v',σ7,H7,ρ7,rfl,I7.unpinned,rv7,rd7,sr7,st3.trans (st5.trans st7)⟩
end
end Z
end
section
namespace Z
open PySem PySem.Spec PyProof.Rows L2
theorem Xcv(env:PySem.Env):∀ (names:List (Str×NameKind)) (cs:List (Str×Addr)),(∀ x∈names,x.2=.free->∃ c,env.cells.lookup x.1=some c)->(∀ x c,cs.lookup x=some c->env.cells.lookup x=some c) ->
  ∃ cl,(forIn names cs fun(x:Str×NameKind) (r:List (Str×Addr))=>(match x with
   | (name,kind)=>if (kind==NameKind.free)=true then do
     let a <- cellOf env name
     pure (ForInStep.yield ((name,a)::r))
    else pure (ForInStep.yield r):Sem (ForInStep (List (Str×Addr)))))=(pure cl:Sem (List (Str×Addr)))/\(∀ x c,cl.lookup x=some c->env.cells.lookup x=some c)/\(∀ x c,cs.lookup x=some c->∃ c',cl.lookup x=some c')/\∀ x∈names,x.2=.free->∃ c,cl.lookup x.1=some c
 | [],cs,_,hc=>⟨cs,rfl,hc,fun x c h=>⟨c,h⟩,fun _ h=>nomatch h⟩
 | (n,k)::r,cs,hf,hc=>by
  by_cases hk:k=.free
  ·subst hk
   obtain⟨c,hcell⟩:=hf (n,.free) List.mem_cons_self rfl;obtain⟨cl,e,h1,h2,h3⟩:=Xcv env r ((n,c)::cs) (fun x hx=>hf x (List.mem_cons_of_mem _ hx)) (fun x d h=>by
    rw[List.lookup_cons] at h
    by_cases hx:x==n
    ·rw[hx] at h;cases h;rw[eq_of_beq hx];exact hcell
    ·have hx':(x==n)=false:=by simpa using hx
     rw[hx'] at h;exact hc x d h)
   refine⟨cl,?_,h1,fun x d h=>?_,fun x hx hx2=>?_⟩
   ·rw[List.forIn_cons]
    simp only[beq_self_eq_true,if_true,cellOf,hcell,pure_bind];exact e
   ·by_cases hx:x==n
    ·exact h2 x c (by rw[List.lookup_cons,hx])
    ·have hx':(x==n)=false:=by simpa using hx
     exact h2 x d (by rw[List.lookup_cons,hx'];exact h)
   ·rcases List.mem_cons.mp hx with rfl|hx
    ·exact h2 n c (by rw[List.lookup_cons,beq_self_eq_true])
    ·exact h3 x hx hx2
  ·obtain⟨cl,e,h1,h2,h3⟩:=Xcv env r cs (fun x hx=>hf x (List.mem_cons_of_mem _ hx)) hc
   refine⟨cl,?_,h1,h2,fun x hx hx2=>?_⟩
   ·rw[List.forIn_cons]
    have hk':(k==NameKind.free)=false:=by simpa using hk
    simp only[hk',Bool.false_eq_true,if_false,pure_bind];exact e
   ·rcases List.mem_cons.mp hx with rfl|hx
    ·exact absurd hx2 hk
    ·exact h3 x hx hx2
theorem Xe1{scope:Scope}{env:PySem.Env}(hf:∀ x∈scope.names,x.2=.free->∃ c,env.cells.lookup x.1=some c) :
  ∃ cl,closureFor scope env=pure cl/\(∀ x c,cl.lookup x=some c->env.cells.lookup x=some c)/\∀ x∈scope.names,x.2=.free->∃ c,cl.lookup x.1=some c:=by
 obtain⟨cl,e,h1,_,h3⟩:=Xcv env scope.names [] hf (fun x c h=>by simp at h)
 refine⟨cl,?_,h1,h3⟩;unfold closureFor;simp only[bind_pure];exact e
noncomputable abbrev Xlj(ifs:List Expr)(env:PySem.Env):Sem Bool:=forIn ifs true fun c r=>if r=true then do let ok <- isTrue c env (eval c env);pure (ForInStep.yield ok) else pure (ForInStep.yield r)
def Xik(M:Model)(A:Around)(elt:Expr)(gens:List Comprehension)(scope:Scope)(pos:Pos)(d:Nat)(acc:Value)(env:PySem.Env)(P:Shared->Prop)(s:Shared):Prop :=
 match gens[d+1]? with
 | none=>wpAny M A (eval elt env) (fun x s4=>wpAny M A (call (.builtin "list.append") [acc,x]) (fun _ s5=>P s5) (fun _ _=>False) s4) (fun _ _=>False) s
 | some g'=>g'.is_async=0/\(∀ x,foldedSetIterable g'.iter env x=pure x)/\wpAny M A (eval g'.iter env) (fun x s4=>wpAny M A (pyIter x) (fun it' s5 =>
   codeAny M A (.compStart (.ListComp elt gens scope pos) (d+1) it' acc env) (fun r s6=>match r with | .ok _=>P s6 | .error _=>False) s5) (fun _ _=>False) s4) (fun _ _=>False) s
section
variable{prog:Program}{w:World}{A:Around}{s:Shared}{R:Result->Shared->Prop}
theorem Xnv{elt target iter:Expr}{gens:List Comprehension}{ifs:List Expr}{scope:Scope}{pos:Pos}{d:Nat}{it acc:Value}{env:PySem.Env}(hg:gens[d]?=some ⟨target,iter,ifs,0⟩)(hm:A.mark none=A)(I:Nat->Shared->Prop)
  (turn:∀ n s,I n s->wpAny (model prog w) A (pyNext it) (fun r s₁=>match r with
   | none=>R (.ok .next) s₁
   | some v=>wpAny (model prog w) A (letOwnedTupleGo target it v) (fun _ s₁'=>wpAny (model prog w) A (assign target env v) (fun _ s₂ =>
     wpAny (model prog w) A (Xlj ifs env) (fun ok s₃=>if ok=true then Xik (model prog w) A elt gens scope pos d acc env (fun s₅=>∃ m,m<n/\I m s₅) s₃ else ∃ m,m<n/\I m s₃) (fun _ _=>False) s₂) (fun _ _=>False) s₁') (fun _ _=>False) s₁) (fun _ _=>False) s)
  (n:Nat) (h:I n s):codeAny (model prog w) A (.compLoop (.ListComp elt gens scope pos) d it acc env) R s:=by
 refine codeAny_loop rfl I (fun n s hI=>?_) n h
 show wpAny _ A ((compTurn (.ListComp elt gens scope pos) d it acc env).onRaise (fun x=>do noteFrame x env;theTreesLotGoes x)) _ _ s
 refine wpAny_noted (wpAny_mono (E:=fun _ _=>False) ?_ (fun _ _ z=>z) fun _ _ z=>z.elim)
 unfold compTurn;simp only[hg,show((0:Nat) != 0)=false from rfl,Bool.false_eq_true,if_false];refine wpAny_bind (wpAny_standAt (wpAny_bind (wpAny_mono (turn n s hI) (fun r s₁ h₁=>?_) fun _ _ z=>z)))
 cases r with
 | none=>exact wpAny_pure h₁
 | some v =>
  refine wpAny_bind (wpAny_mono h₁ (fun _ s₁' h₁'=>wpAny_bind (wpAny_mono h₁' (fun _ s₂ h₂=>wpAny_bind (wpAny_mono h₂ (fun ok s₃ h₃=>?_) fun _ _ z=>z)) fun _ _ z=>z)) fun _ _ z=>z)
  cases ok with
  | false =>
   rw[if_neg Bool.false_ne_true] at h₃;simp only[Bool.false_eq_true,if_false];exact wpAny_pure ⟨rfl,h₃⟩
  | true =>
   rw[if_pos rfl] at h₃;simp only[if_true];unfold Xik at h₃;cases hq:gens[d+1]? with
   | none =>
    rw[hq] at h₃;simp only[bind_assoc,pure_bind];exact wpAny_bind (wpAny_mono h₃ (fun x s₄ h₄=>wpAny_bind (wpAny_mono h₄ (fun _ s₅ h₅=>wpAny_pure ⟨rfl,h₅⟩) fun _ _ z=>z)) fun _ _ z=>z)
   | some g' =>
    rw[hq] at h₃;obtain⟨ha,hf,h₃⟩:=h₃;simp only[ha,show((0:Nat) != 0)=false from rfl,Bool.false_eq_true,if_false];refine wpAny_bind (wpAny_mono h₃ (fun x s₄ h₄=>wpAny_bind (wpAny_standAt (wpAny_bind (wpAny_of_eq (hf x) (wpAny_bind (wpAny_holding (wpAny_mono h₄ (fun it' s₅ h₅=>?_) fun _ _ z=>z))))))) fun _ _ z=>z)
    refine wpAny_bind (wpAny_runOwn ?_);rw[hm];refine codeAny_mono h₅ fun r s₆ h₆=>?_
    cases r with
    | ok f=>exact wpAny_pure ⟨rfl,h₆⟩
    | error e=>exact h₆.elim
theorem Xlk{elt:Expr}{gens:List Comprehension}{scope:Scope}{pos:Pos}{d:Nat}{it acc:Value}{env:PySem.Env}{target iter:Expr}{ifs:List Expr}(hg:gens[d]?=some ⟨target,iter,ifs,0⟩)
  (h0:codeAny (model prog w) A (.compLoop (.ListComp elt gens scope pos) d it acc env) R s)
  (h:wpAny (model prog w) A (pyIter it) (fun it' s'=>codeAny (model prog w) A (.compLoop (.ListComp elt gens scope pos) d it' acc env) R s') (fun _ _=>False) s) :
  codeAny (model prog w) A (.compStart (.ListComp elt gens scope pos) d it acc env) R s:=by
 refine codeAny_of_tree ?_;show wpAny _ _ ((compStart (.ListComp elt gens scope pos) d it acc env).onRaise (fun x=>do noteFrame x env;standAt theWindowsPlace)) _ _ s
 refine wpAny_notedAt ?_;unfold compStart;have hcl:clausesOf (.ListComp elt gens scope pos)=gens:=rfl;simp only[hcl,hg,Option.elim,show((0:Nat) != 0)=false from rfl,Bool.false_eq_true,if_false];refine wpAny_bind (wpAny_askSetting (wpAny_ite ?_));split
 ·first
   | exact wpAny_bind (wpAny_pure (wpAny_pure (And.intro rfl h0)))
   | exact wpAny_pure (And.intro rfl h0)
 ·refine wpAny_bind (wpAny_rule ?_)
  refine wpAny_bind (wpAny_standAt (wpAny_bind (wpAny_mono h (fun it' s' h'=>wpAny_pure (And.intro rfl h')) fun _ _ x=>x.elim)))
end
end Z
end
section
namespace Z
open PySem PySem.Spec PyProof.Rows L2
section
variable{X:Cx}{pins:List (Addr×Obj)}{σ:L2.St}{H:Hp}{s:Shared}{ρ:List Addr}{S S':Sto}{env:En}{Q:Value->Shared->Prop}{E:Value->Shared->Prop}
def DTs(X:Cx)(ifs:List Expr)(f:En->Sto->R Bool):Prop :=
 ∀ (pins:List (Addr×Obj)) (s:Shared) (σ:L2.St) (H:Hp) (ρ:List Addr) (S:Sto) (env:En) (b:Bool) (S':Sto) (Q:Bool->Shared->Prop) (E:Value->Shared->Prop),S0 X pins σ H s ρ S env->f env S=.ok b S' ->
  (∀ s' H' ρ',S0 X pins σ H' s' ρ' S' env->Stp X.K ρ ρ' H H'->Q b s')->wpAny (model X.prog X.w) X.A (Xlj ifs X.env) Q E s
theorem Xd8{M:Model}{A:Around}{env:PySem.Env}{s:Shared}{Q:Bool->Shared->Prop}{E:Value->Shared->Prop}(h:Q false s):∀ ifs:List Expr,
  wpAny M A (forIn ifs false fun c r=>if r=true then do let ok <- isTrue c env (eval c env);pure (ForInStep.yield ok) else pure (ForInStep.yield r)) Q E s
 | []=>wpAny_pure h
 | c::r=>by
  rw[List.forIn_cons];simp only[Bool.false_eq_true,if_false];exact wpAny_bind (wpAny_pure (Xd8 h r))
theorem Xtv:DTs X [] (fun _ S=>.ok true S):=by
 intro pins s σ H ρ S env b S' Q E I h hQ;cases h;exact wpAny_pure (hQ s H ρ I .refl)
theorem Xp8{c:Expr}{cs:List Expr}{fc:En->Sto->R D}{g:En->Sto->R Bool}(hc:DT X c (fun env S=>tst (fc env S)))(hr:DTs X cs g) :
  DTs X (c::cs) (fun env S=>(fc env S).bind fun x S=>match Xj S x with|some true=>g env S|some false=>.ok false S|none=>.bad):=by
 intro pins s σ H ρ S env b S' Q E I h hQ;dsimp only at h;cases q:fc env S with
 | bad=>rw[q] at h;cases h
 | ex n S1=>rw[q] at h;cases h
 | ok x S1 =>
  rw[q] at h;simp only[Rk0] at h;unfold Xlj;rw[List.forIn_cons];simp only[if_true];cases t:Xj S1 x with
  | none=>rw[t] at h;cases h
  | some r =>
   rw[t] at h;refine wpAny_bind (wpAny_bind (hc.ok I (by simp only[q];exact Xax t) fun s2 H2 ρ2 I2 st2=>wpAny_pure ?_))
   cases r with
   | true=>exact hr pins s2 σ H2 ρ2 S1 env b S' Q E I2 h fun s3 H3 ρ3 I3 st3=>hQ s3 H3 ρ3 I3 (st2.trans st3)
   | false=>cases h;exact Xd8 (hQ s2 H2 ρ2 I2 st2) cs
theorem Mon.trans{K:PySem.W.Frag}{ρ' ρ'':List Addr}{H' H'':Hp}(x:Mon K ρ ρ' H H')(y:Mon K ρ' ρ'' H' H''):Mon K ρ ρ'' H H'' :=
 ⟨fun n a h=>y.pre n a (x.pre n a h),fun a xs h=>y.tup a xs (x.tup a xs h),fun a xs h=>y.fro a xs (x.fro a xs h)⟩
theorem Xe2{i:Nat}:∀ (is:List Nat) (ds:List D) (env:En),i ∉ is->((is.zip ds).foldl (fun e p=>e.set p.1 (some p.2)) env)[i]?=env[i]?:=by
 intro is
 induction is with
 | nil=>intro ds env _;simp
 | cons j js ih =>
  intro ds env hn;cases ds with
  | nil=>simp
  | cons d ds =>
   simp only[List.zip_cons_cons,List.foldl_cons];rw[ih ds _ (fun z=>hn (List.mem_cons_of_mem _ z)),List.getElem?_set_ne (fun z=>hn (by simp[z]))]
theorem Xjw{t:Tg}{d:D}{env env':En}(h:Xo t d env=some env'){i:Nat}(hi:i ∉ slots t):env'[i]?=env[i]?:=by
 cases t with
 | var j =>
  simp only[Xo,Option.some.injEq] at h;subst h;have:j≠i:=fun z=>hi (by simp[slots,z])
  rw[List.getElem?_set_ne this]
 | tup is =>
  cases d with
  | tup ds =>
   simp only[Xo] at h;split at h
   ·cases h
    exact Xe2 is ds env hi
   ·cases h
  | _=>cases h
 | nst j is =>
  simp only[Xo] at h;split at h
  ·split at h
   ·cases h
    have hi':¬ (i=j\/i∈is):=fun z=>hi (List.mem_cons.mpr z)
    rw[Xe2 is _ _ fun z=>hi' (.inr z),List.getElem?_set_ne fun z=>hi' (.inl z.symm)]
   ·cases h
  ·cases h
def Xb3(Y:Cx)(Da:Addr)(elt:Expr)(gens:List Comprehension)(scope:Scope)(cpos:Pos)(d:Nat)(body:En->List D->Sto->R (List D)):Prop :=
 ∀ (pins:List (Addr×Obj)) (s:Shared) (σ:L2.St) (H:Hp) (ρ:List Addr) (S S':Sto) (env:En) (acc acc':List D) (vs:List V) (H0:Hp) (ρ0:List Addr) (P:Shared->Prop),S0 Y pins σ H s ρ S env->Da ∉ ρ->H Da=some (.lst vs)->RDs Y.K ρ H acc vs->H0 Da=none->Stp Y.K ρ0 ρ H0 H ->
  body env acc S=.ok acc' S'->(∀ s' σ' H' ρ' vs',S0 Y pins σ' H' s' ρ' S' env->Da ∉ ρ'->H' Da=some (.lst vs')->RDs Y.K ρ' H' acc' vs'->Stp Y.K ρ0 ρ' H0 H'->Mon Y.K ρ ρ' H H'->P s') ->
  Xik (model Y.prog Y.w) Y.A elt gens scope cpos d (.ref Da) Y.env P s
theorem Stp.out{K:PySem.W.Frag}{ρ':List Addr}{H':Hp}{Da:Addr}{o:HO}(st:Stp K ρ ρ' H H')(hD:H Da=some o)(hn:Da ∉ ρ):Da ∉ ρ'/\H' Da=some o :=
 ⟨fun hm=>(st.new Da hm).elim hn (fun z=>by rw[hD] at z;cases z),st.keep Da o hD hn⟩
theorem Xnw{Y:Cx}{Da it:Addr}{elt tg iter:Expr}{gens:List Comprehension}{ifs:List Expr}{scope:Scope}{cpos:Pos}{d:Nat}{t:Tg}{src:Src}{J:L2.It}{fp:List Addr}{tn:Nat->Heap->Prop}{tf:En->Sto->R Bool}{body:En->List D->Sto->R (List D)}
  {pins:List (Addr×Obj)} {σ:L2.St} {H H0:Hp} {s:Shared} {ρ ρ0:List Addr} {S Sf:Sto} {env:En} {acc accf:List D} {vs:List V} {P:Shared->Prop} (hc:Y.calm=true) (hg:gens[d]?=some ⟨tg,iter,ifs,0⟩)
  (T:Turn Y.prog Y.w Y.K tg J fp it tn) (hG:DG Y tg t) (hT:DTs Y ifs tf) (hB:Xb3 Y Da elt gens scope cpos d body) (h0:H0 Da=none)
  (I:S0 Y pins σ H s ρ S env) (t0:tn 0 s.heap) (f0:∀ b∈fp,Y9 Y pins H b) (sr:SrcR Y.K ρ H src J) (hn:Da ∉ ρ) (hD:H Da=some (.lst vs)) (ra:RDs Y.K ρ H acc vs) (st0:Stp Y.K ρ0 ρ H0 H)
  (hr:Yr src.get t (Y4 tf body) (src.most S+1) 0 env acc S=.ok accf Sf)
  (hP:∀ s' σ' H' ρ' vs' env',S0 Y pins σ' H' s' ρ' Sf env'->(∀ i,i ∉ slots t->env'[i]?=env[i]?)->Da ∉ ρ'->H' Da=some (.lst vs')->RDs Y.K ρ' H' accf vs'->Stp Y.K ρ0 ρ' H0 H'->Mon Y.K ρ ρ' H H'->P s') :
  codeAny (model Y.prog Y.w) Y.A (.compStart (.ListComp elt gens scope cpos) d (.ref it) (.ref Da) Y.env) (fun r s'=>match r with | .ok _=>P s' | .error _=>False) s:=by
 have loop:codeAny (model Y.prog Y.w) Y.A (.compLoop (.ListComp elt gens scope cpos) d (.ref it) (.ref Da) Y.env) (fun r s'=>match r with | .ok _=>P s' | .error _=>False) s:=by
  have stat:∀ {H':Hp},(∀ b∈fp,H' b=none)->∀ b∈fp,Y9 Y pins H' b:=fun hn b hb=>⟨hn b hb,(f0 b hb).2⟩
  refine Xnv hg rfl (fun n s'=>∃ i σ' H' ρ' S' env' acc' vs',S0 Y pins σ' H' s' ρ' S' env'/\tn i s'.heap/\(∀ b∈fp,H' b=none)/\SrcR Y.K ρ' H' src J/\Mon Y.K ρ ρ' H H'/\Stp Y.K ρ0 ρ' H0 H'/\Da ∉ ρ'/\H' Da=some (.lst vs')/\RDs Y.K ρ' H' acc' vs' /\
   (∀ i,i ∉ slots t->env'[i]?=env[i]?)/\Yr src.get t (Y4 tf body) n i env' acc' S'=.ok accf Sf) ?_ (src.most S+1) ⟨0,σ,H,ρ,S,env,acc,vs,I,t0,fun b hb=>(f0 b hb).1,sr,Stp.refl.toMon,st0,hn,hD,ra,fun _ _=>rfl,hr⟩
  rintro n s3 ⟨i,σ3,H3,ρ3,S3,env3,acc3,vs3,I3,t3,fr3,sr3,mo3,st3,hn3,hD3,ra3,hs3,eq3⟩
  cases n with
  | zero=>cases eq3
  | succ n =>
   simp only[Yr] at eq3;cases g1:src.get S3 i with
   | none=>rw[g1] at eq3;cases eq3
   | some o =>
    rw[g1] at eq3;cases o with
    | none =>
     cases eq3;refine thn (T.done Y rfl rfl rfl hc i pins s3 σ3 H3 _ I3.inv (stat fr3) t3 (sr3.stop I3 g1)) fun r s4 ⟨hr,I4⟩=>?_
     subst hr;exact hP s4 σ3 H3 ρ3 vs3 env3 ⟨I4,I3.sr,I3.er⟩ hs3 hn3 hD3 ra3 st3 mo3
    | some dd =>
     dsimp only at eq3;obtain⟨go,yl⟩:=sr3.go I3 g1;refine thn (T.item Y rfl rfl rfl hc i pins s3 σ3 H3 _ I3.inv (stat fr3) t3 go) fun r s4 ⟨u,hr,h4⟩=>?_
     subst hr;refine thn h4 fun _ s5 ⟨x,H5,I5,r5,y5,t5,fr5⟩=>?_
     obtain⟨sr5,st5,rd5⟩:=yl x H5 y5;have I5':=I5.pinned (stat fr5) (T.obj _ _ t5);cases e6:Xo t dd env3 with
     | none=>rw[e6] at eq3;cases eq3
     | some env6 =>
      rw[e6] at eq3;dsimp only at eq3;refine hG (pins++Xav fp s5.heap) s5 σ3 H5 ρ3 S3 env3 dd x u env6 _ _ ⟨I5',sr5,I3.er.mono st5⟩ e6 rd5 r5 fun s6 σ6 I6=>?_
      obtain⟨_,hD6⟩:=st5.out hD3 hn3;have ra6:=ra3.mono st5;cases e7:Y4 tf body env6 acc3 S3 with
      | bad=>rw[e7] at eq3;cases eq3
      | ex m S7=>rw[e7] at eq3;cases eq3
      | ok acc7 S7 =>
       rw[e7] at eq3;dsimp only at eq3;have hs6:∀ i,i ∉ slots t->env6[i]?=env[i]?:=fun i hi=>(Xjw e6 hi).trans (hs3 i hi)
       have again:∀ {s7:Shared} {σ7:L2.St} {H7:Hp} {ρ7:List Addr} {vs7:List V},S0 Y (pins++Xav fp s5.heap) σ7 H7 s7 ρ7 S7 env6->SrcR Y.K ρ7 H7 src J->Mon Y.K ρ ρ7 H H7->Stp Y.K ρ0 ρ7 H0 H7->Da ∉ ρ7->H7 Da=some (.lst vs7)->RDs Y.K ρ7 H7 acc7 vs7 ->
         ∃ m,m<n+1/\∃ i σ' H' ρ' S' env' acc' vs',S0 Y pins σ' H' s7 ρ' S' env'/\tn i s7.heap/\(∀ b∈fp,H' b=none)/\SrcR Y.K ρ' H' src J/\Mon Y.K ρ ρ' H H'/\Stp Y.K ρ0 ρ' H0 H'/\Da ∉ ρ'/\H' Da=some (.lst vs')/\RDs Y.K ρ' H' acc' vs' /\
          (∀ i,i ∉ slots t->env'[i]?=env[i]?)/\Yr src.get t (Y4 tf body) m i env' acc' S'=.ok accf Sf:=fun {s7 σ7 H7 ρ7 vs7} I7 sr7 mo7 st7 hn7 hD7 ra7=>by
        refine⟨n,Nat.lt_succ_self _,i+1,σ7,H7,ρ7,S7,env6,acc7,vs7,I7.rep I7.inv.unpinned,T.keep _ _ _ t5 fun b hb o e=>(I7.inv.pin (b,o) (List.mem_append_right _ (List.mem_append_right _ (Xbj hb e)))).1,fun b hb=>?_,sr7,mo7,st7,hn7,hD7,ra7,hs6,eq3⟩
        obtain⟨o,e,_⟩:=T.obj _ _ t5 b hb;exact(I7.inv.pin (b,o) (List.mem_append_right _ (List.mem_append_right _ (Xbj hb e)))).2.1
       unfold Y4 at e7;cases e8:tf env6 S3 with
       | bad=>rw[e8] at e7;cases e7
       | ex m S8=>rw[e8] at e7;cases e7
       | ok b8 S8 =>
        rw[e8] at e7;simp only[Rk0] at e7;refine hT (pins++Xav fp s5.heap) s6 σ6 H5 ρ3 S3 env6 b8 S8 _ _ I6 e8 fun s8 H8 ρ8 I8 st8=>?_
        obtain⟨hn8,hD8⟩:=st8.out hD6 hn3;have ra8:=ra6.mono st8;have st08:=st3.trans (st5.trans st8);have sr8:SrcR Y.K ρ8 H8 src J:=sr3.mono (st5.trans st8);cases b8 with
        | false =>
         rw[if_neg Bool.false_ne_true] at e7 ⊢;cases e7;exact again I8 sr8 (mo3.trans (st5.trans st8).toMon) st08 hn8 hD8 ra8
        | true =>
         rw[if_pos rfl] at e7 ⊢;exact hB (pins++Xav fp s5.heap) s8 σ6 H8 ρ8 S8 S7 env6 acc3 acc7 vs3 H0 ρ0 _ I8 hn8 hD8 ra8 h0 st08 e7 fun s9 σ9 H9 ρ9 vs9 I9 hn9 hD9 ra9 st9 mo9=>again I9 (sr8.mono' mo9) ((mo3.trans (st5.trans st8).toMon).trans mo9) st9 hn9 hD9 ra9
 exact Xlk hg loop (T.self Y.A 0 s _ _ t0 loop)
theorem Xg6{Y:Cx}{Da:Addr}{elt:Expr}{gens:List Comprehension}{scope:Scope}{cpos:Pos}{d:Nat}{fe:En->Sto->R D}(hg:gens[d+1]?=none)(he:DE Y elt fe) :
  Xb3 Y Da elt gens scope cpos d (fun env acc S=>(fe env S).bind fun y S=>if acc.length<big then .ok (acc++[y]) S else .bad):=by
 intro pins s σ H ρ S S' env acc acc' vs H0 ρ0 P I hn hD ra h0 st0 hb hP;unfold Xik;rw[hg];dsimp only at hb ⊢;cases q:fe env S with
 | bad=>rw[q] at hb;cases hb
 | ex n S1=>rw[q] at hb;cases hb
 | ok y S1 =>
  rw[q] at hb;simp only[Rk0] at hb;split at hb
  ·rename_i hz
   cases hb;refine he.ok I q fun u s1 v H1 ρ1 I1 rv rd st1=>?_
   obtain⟨hn1,hD1⟩:=st1.out hD hn;have hlen:vs.length<sizeLine:=by rw[<- ra.length];exact Nat.lt_of_lt_of_le hz Xia
   refine mtd (X:=Y) (Q':=fun z H'=>z=.non/\H'=upd H1 Da (.lst (vs++[v]))) Xg1 I1.inv (show RelV (.ref Da) (.ref Da) from rfl) (.cons rv .nil) ⟨Da,vs,v,rfl,rfl,hD1,hlen,rfl,rfl⟩ fun w s2 z H2 J rz ⟨e1,e2⟩=>?_
   subst e1 e2;have mo:Mon Y.K ρ1 ρ1 H1 (upd H1 Da (.lst (vs++[v]))):=Mon.own hD1;refine hP s2 σ _ ρ1 (vs++[v]) ⟨J,I1.sr.own hD1 hn1,I1.er.mono' mo⟩ hn1 Xz ((RDs.mono' mo _ _ (ra.mono st1)).append (.cons (RD.mono' mo _ _ rd) .nil)) ((st0.trans st1).own h0 hD1) ⟨fun n a h=>st1.pre n a h,fun a xs h=>mo.tup a xs (st1.tup a xs h),fun a xs h=>mo.fro a xs (st1.fro a xs h)⟩
  ·cases hb
theorem Xnx{Y:Cx}{Da:Addr}{elt tg2 iter2:Expr}{ifs2:List Expr}{gens:List Comprehension}{scope:Scope}{cpos:Pos}{d:Nat}{t2:Tg}{fi:En->Sto->R Src}{tf:En->Sto->R Bool}{body:En->List D->Sto->R (List D)}(hc:Y.calm=true)
  (hg:gens[d+1]?=some ⟨tg2,iter2,ifs2,0⟩) (hi:DI Y tg2 iter2 fi) (hs:∀ x,foldedSetIterable iter2 Y.env x=pure x) (hG:DG Y tg2 t2) (hT:DTs Y ifs2 tf) (hB:Xb3 Y Da elt gens scope cpos (d+1) body) :
  Xb3 Y Da elt gens scope cpos d (fun env acc S=>if Xng t2 env then (fi env S).bind fun src S=>Yr src.get t2 (Y4 tf body) (src.most S+1) 0 env acc S else .bad):=by
 intro pins s σ H ρ S S' env acc acc' vs H0 ρ0 P I hn hD ra h0 st0 hb hP;unfold Xik;rw[hg];dsimp only at hb ⊢;split at hb
 ·rename_i hno
  refine⟨rfl,hs,?_⟩;cases q:fi env S with
  | bad=>rw[q] at hb;cases hb
  | ex n S1=>rw[q] at hb;cases hb
  | ok src S1 =>
   rw[q] at hb;simp only[Rk0] at hb;refine wpAny_mono (hi pins s σ H ρ S env (fun _ _=>False) I (by rw[q];exact fun z=>nomatch z) fun x s' z=>?_) (fun v s1 h1=>wpAny_mono h1 (fun itv s2 h2=>?_) fun _ _ z=>z) fun _ _ z=>z
   ·rw[q] at z;obtain⟨m,S2,e,z⟩:=z;cases e
   ·obtain⟨src',S2,it,fp,tn,J,H2,ρ2,e1,rfl,I2,T,t0,f2,sr2,srr,st2⟩:=h2
    rw[q] at e1;cases e1;obtain⟨hn2,hD2⟩:=st2.out hD hn;refine Xnw (ρ0:=ρ0) (H0:=H0) hc hg T hG hT hB h0 (I.step I2 srr st2) t0 f2 sr2 hn2 hD2 (ra.mono st2) (st0.trans st2) hb fun s' σ' H' ρ' vs' env' I' hs' hn' hD' ra' st' mo'=>?_
    refine hP s' σ' H' ρ' vs' ⟨I'.inv,I'.sr,⟨?_,fun i d e=>?_⟩⟩ hn' hD' ra' st' (st2.toMon.trans mo')
    ·have h1:=I.er.len
     have h2:=I.inv.len;have h3:=I'.inv.len;omega
    ·by_cases hi:i∈slots t2
     ·have z:=List.all_eq_true.mp hno i hi
      rw[e] at z;cases z
     ·exact I'.er.val i d ((hs' i hi).trans e)
 ·cases hb
end
end Z
end
section
namespace Z
open PySem PySem.Spec PyProof.Rows L2
noncomputable def hid(own:List Str)(y:Str):Str:=if own.contains y then Str.ofString "0" ++ y else y
noncomputable def Xar(N own:List Str):List Str:=N.map (hid own)++own
structure ScOk(outer sc:Scope)(N own:List Str):Prop where
 kind:sc.kind=.function
 okind:outer.kind=.function
 nd:(Xar N own).Nodup
 nocell:∀ y∈sc.names,y.2≠.cell
 free:∀ y∈sc.names,y.2=.free->outer.names.lookup y.1=some .cell\/outer.names.lookup y.1=some .free
 loc:∀ y,sc.names.lookup y=some .local->y∈own
 ownl:∀ y∈own,sc.names.lookup y=some .local
 names:∀ x∈sc.names,x.2=.local->sc.names.lookup x.1=some .local
 hidn:∀ y∈N,own.contains y=true->sc.names.lookup (Str.ofString "0" ++ y)=none
section
variable{X:Cx}{pins:List (Addr×Obj)}{σ:L2.St}{H:Hp}{s:Shared}{ρ:List Addr}{S S':Sto}{env:En}{Q:Value->Shared->Prop}{E:Value->Shared->Prop}
noncomputable def blk(X:Cx)(pins:List (Addr×Obj))(s:Shared)(H:Hp)(sc:Scope)(cl:List (Str×Addr))(C:Addr)(own:List Str)(fp:List Addr):Cx :=
 { X with N:=Xar X.N own,s₀:=s,H₀:=H,env:=compEnvC sc cl C X.env,outer:=X.stack,stack:=X.stack,ex:=fp,fn:=fun _=>false,pn:=X.pn++pins }
theorem Xaj{names:List (Str×NameKind)}{x:Str}{k:NameKind}(h:names.lookup x=some k):(x,k)∈names:=PySem.mem_of_lookup h
theorem Xa5(sc:Scope)(env:PySem.Env)(x:Str):(relabel sc env).names.lookup x=(sc.names.lookup x).map fun k=>if (k == .free&&env.scope.kind == .function&&env.kindOf x==some .cell)=true then .cell else k:=by
 unfold relabel;dsimp only
 induction sc.names with
 | nil=>rfl
 | cons y r ih =>
  obtain⟨n,k⟩:=y;show List.lookup x ((if (k==NameKind.free&&env.scope.kind == .function&&env.kindOf n==some .cell)=true then (n,NameKind.cell) else (n,k))::_)=_
  by_cases hx:x==n
  ·have e:=eq_of_beq hx
   subst e
   by_cases hc:(k==NameKind.free&&env.scope.kind == .function&&env.kindOf x==some .cell)=true
   ·rw[if_pos hc,List.lookup_cons,beq_self_eq_true,List.lookup_cons,beq_self_eq_true];exact congrArg some (if_pos hc).symm
   ·rw[if_neg hc,List.lookup_cons,beq_self_eq_true,List.lookup_cons,beq_self_eq_true];exact congrArg some (if_neg hc).symm
  ·have hx':(x==n)=false:=by simpa using hx
   by_cases hc:(k==NameKind.free&&env.scope.kind == .function&&env.kindOf n==some .cell)=true
   ·rw[if_pos hc,List.lookup_cons,hx',List.lookup_cons,hx'];exact ih
   ·rw[if_neg hc,List.lookup_cons,hx',List.lookup_cons,hx'];exact ih
theorem Xxl{sc:Scope}{own:List Str}{cl:List (Str×Addr)}{fp:List Addr}{Da C:Addr}{s4:Shared}{m:Str->Option Value}(so:ScOk X.env.scope sc X.N own)(I:Inv X pins σ H s)(hf:∀ b∈fp,Y9 X pins H b)
  (hcl:∀ x c,cl.lookup x=some c->X.env.cells.lookup x=some c) (hclf:∀ x∈sc.names,x.2=.free->∃ c,cl.lookup x.1=some c)
  (hDa:Da=s.heap.objs.size) (hC:C=s.heap.objs.size+1) (hos:s4.os=s.os) (hgens:s4.gens=s.gens) (keep:∀ b o,s.heap.get? b=some o->s4.heap.get? b=some o)
  (hns:s4.heap.Ns C m) (hacc:∃ n,s4.heap.get? Da=some { cls:=.type "list",data:=.seq #[] n }) (hfp:∀ b∈fp,b<s.heap.objs.size) :
  Inv (blk X pins s H sc cl C own fp) [] (σ++List.replicate own.length none) (upd H Da (.lst [])) s4:=by
 have hD:H Da=none:=by rw[hDa];exact I.hok.fresh (Nat.le_refl _)
 have hCn:H C=none:=by rw[hC];exact I.hok.fresh (Nat.le_succ _)
 have hCD:C≠Da:=by rw[hC,hDa];exact Nat.ne_of_gt (Nat.lt_succ_self _)
 have lt_ne:∀ b,b<s.heap.objs.size->b≠C/\b≠Da:=fun b hb=>⟨by rw[hC];exact Nat.ne_of_lt (Nat.lt_succ_of_lt hb),by rw[hDa];exact Nat.ne_of_lt hb⟩
 have cell_lt:∀ x c,X.env.cells.lookup x=some c->c<s.heap.objs.size:=fun x c e=>by obtain⟨v,q⟩:=I.cell x c e;exact q.lt
 refine⟨⟨I.ok.mod,so.kind,I.ok.glob,I.ok.blt,?_,?_,?_,?_,I.ok.hd,I.ok.frames,.inl rfl,?_,I.bs,?_,?_,?_,I.stack,I.stkFree⟩,hos,?_,?_,?_,?_,?_,?_,?_,?_,?_⟩
 ·show s.heap.objs.size<=C;rw[hC];exact Nat.le_succ _
 ·exact fun x y c h1 h2=>I.ok.inj x y c (hcl x c h1) (hcl y c h2)
 ·intro x hx
  have hx':(relabel sc X.env).names.lookup x=some .cell\/(relabel sc X.env).names.lookup x=some .free:=hx;rw[Xa5] at hx';cases e:sc.names.lookup x with
  | none=>rw[e] at hx';simp at hx'
  | some k =>
   rw[e] at hx';have hk:k=.free:=by
    rcases hx' with h|h
    ·simp only[Option.map_some,Option.some.injEq] at h
     split at h
     ·rename_i hc
      simp only[bA0,beq_iff_eq] at hc;exact hc.1.1
     ·exact absurd h (so.nocell _ (Xaj e))
    ·simp only[Option.map_some,Option.some.injEq] at h
     split at h
     ·cases h
     ·exact h
   subst hk;exact hclf (x,.free) (Xaj e) rfl
 ·intro x c h;exact absurd h Bool.false_ne_true
 ·intro b hb
  refine⟨(lt_ne b (hfp b hb)).1,fun x c h=>(hf b hb).2.2.2.2.1 x c (hcl x c h)⟩
 ·exact Nat.le_trans I.ok.bsz I.sz
 ·intro b o e hb
  rcases (hf b hb).2.2.2.1 with z|z
  ·exact I.ok.noex b o e z
  ·exact absurd (Nat.lt_of_lt_of_le (Heap.lt_size e) (Nat.le_trans I.ok.bsz z)) (Nat.lt_irrefl _)
 ·intro b hb hm
  rcases List.mem_cons.mp (I.stkSub b hm) with z|z
  ·exact(hf b hb).2.1 z
  ·exact(hf b hb).2.2.1 z
 ·rw[hgens];exact I.bare
 ·refine⟨fun b o e _ _ _=>keep b o e,fun b o e _ _ _=>⟨o.slots,keep b o e⟩,fun b o e n _=>?_,fun b o e _=>⟨o,keep b o e⟩,fun b xs e=>?_,fun b o u e=>?_,fun b ps e=>⟨#[],?_⟩⟩
  ·show upd H Da _ b=none
   rw[Xf (lt_ne b (Heap.lt_size e)).2];exact n
  ·rw[Xf (Xn e hD)];exact e
  ·rw[Xf (Xn e hD)];exact e
  ·rw[Xf (Xn e hD),show H b=some (.tbl ps) from e];simp
 ·refine⟨m,hns,fun i x v h1 h2 h3=>?_⟩
  have hi:i<X.N.length:=by
   by_cases hi:i < σ.length
   ·rw[I.len] at hi;exact hi
   ·rw[List.getElem?_append_right (by omega),List.getElem?_replicate] at h2
    split at h2<;>cases h2
  have h1':(Xar X.N own)[i]?=some x:=h1;unfold Xar at h1';rw[List.getElem?_append_left (by simpa using hi),List.getElem?_map] at h1'
  rw[List.getElem?_append_left (by rw[I.len];exact hi)] at h2
  cases ey:X.N[i]? with
  | none=>rw[ey] at h1';cases h1'
  | some y =>
   rw[ey] at h1';simp only[Option.map_some,Option.some.injEq] at h1';have h3':Vis (relabel sc X.env) x:=h3;have nloc:∀ z,sc.names.lookup z=some .local->z∈own:=so.loc;have hxo:x ∉ own:=fun hm=>by
    have nd:=so.nd;unfold Xar at nd;rw[List.nodup_append] at nd;exact nd.2.2 x (List.mem_map.mpr ⟨y,List.mem_of_getElem? ey,h1'⟩) x hm rfl
   have hfree:sc.names.lookup x=some .free:=by
    have:(relabel sc X.env).names.lookup x=some .local\/(relabel sc X.env).names.lookup x=some .cell\/(relabel sc X.env).names.lookup x=some .free:=h3';rw[Xa5] at this;cases e:sc.names.lookup x with
    | none=>rw[e] at this;simp at this
    | some k =>
     cases k with
     | free=>rfl
     | «local»=>exact absurd (nloc x e) hxo
     | cell=>exact absurd rfl (so.nocell _ (Xaj e))
     | _=>rw[e] at this;simp at this
   have hxy:x=y:=by
    unfold hid at h1';split at h1'
    ·rename_i hc
     have z:=so.hidn y (List.mem_of_getElem? ey) hc;rw[h1',hfree] at z;cases z
    ·exact h1'.symm
   subst hxy;obtain⟨c,hc⟩:=hclf (x,.free) (Xaj hfree) rfl;have hcX:=hcl x c hc;have kx:=so.free (x,.free) (Xaj hfree) rfl;obtain⟨m0,hn0,hl⟩:=I.loc;obtain⟨u,ru,lk⟩:=hl i x v ey h2 (kx.elim (fun z=>.inr (.inl z)) fun z=>.inr (.inr z))
   refine⟨u,ru,.inr ⟨?_,c,hc,?_⟩⟩
   ·show(relabel sc X.env).names.lookup x=some .cell\/(relabel sc X.env).names.lookup x=some .free
    rw[Xa5,hfree];simp only[Option.map_some];split
    ·exact .inl rfl
    ·exact .inr rfl
   ·rcases lk with⟨k,_⟩|⟨_,c',hc',hcell⟩
    ·have k':X.env.scope.names.lookup x=some .local:=k
     rcases kx with z|z<;>(rw[k'] at z;cases z)
    ·rw[hcX] at hc';cases hc'
     exact⟨_,keep _ _ hcell.choose_spec.1,hcell.choose_spec.2⟩
 ·intro x c h
  obtain⟨v,o,ho,hd⟩:=I.cell x c (hcl x c h);exact⟨v,o,keep _ _ ho,hd⟩
 ·show upd H Da _ C=none
  rw[Xf hCD];exact hCn
 ·intro x c h
  rw[Xf (lt_ne c (cell_lt x c (hcl x c h))).2];exact I.freeC x c (hcl x c h)
 ·intro p hp
  rw[List.append_nil] at hp;obtain⟨e,n,ne,nf,d⟩:=I.pin p hp;refine⟨keep _ _ e,?_,(lt_ne _ (Heap.lt_size e)).1,fun hm=>?_,d⟩
  ·rw[Xf (lt_ne _ (Heap.lt_size e)).2];exact n
  ·rcases List.mem_cons.mp (I.stkSub _ hm) with z|z
   ·exact ne z
   ·exact nf z
 ·intro b o e
  by_cases hb:b=Da
  ·subst hb
   rw[Xz] at e;cases e;obtain⟨n,hn⟩:=hacc;exact⟨Nat.zero_le _,[],n,.nil,hn⟩
  ·rw[Xf hb] at e
   exact(I.hok b o e).stay (fun c v _ q=>keep c v q) (fun c q=>by rw[Xf (Xn q hD)];exact q) fun c xs q=>by rw[Xf (Xn q hD)];exact q
 ·show(σ++List.replicate own.length none).length=(Xar X.N own).length
  unfold Xar;simp[I.len]
theorem Xtw{sc:Scope}{own:List Str}{cl:List (Str×Addr)}{fp:List Addr}{C:Addr}{σ':L2.St}{H':Hp}{s':Shared}(I:Inv X pins σ H s)(hf:∀ b∈fp,Y9 X pins H b)(J:Inv (blk X pins s H sc cl C own fp) [] σ' H' s') :
  Inv X pins σ H' s' :=
 I.call' J.os J.base J.hok J.bare fun b hb=>⟨(hf b hb).2.2.2.1,(hf b hb).2.1,(hf b hb).2.2.2.2.1,(hf b hb).2.2.2.2.2⟩
theorem Xg7{elt:Expr}{gens:List Comprehension}{sc:Scope}{cpos:Pos}{tg iter:Expr}{ifs:List Expr}{own:List Str}{t:Tg}{n:Nat}{fi:En->Sto->R Src}{tf:En->Sto->R Bool}{body:En->List D->Sto->R (List D)}{use:Option (Value->Sem Unit)}{Sf:Sto}{src:Src}{S1:Sto}{accf:List D}
  (hc:X.calm=true) (so:ScOk X.env.scope sc X.N own) (hon:own.length=n) (hg:gens=⟨tg,iter,ifs,0⟩::gens.tail) (hi:DI X tg iter fi) (hs:∀ x,foldedSetIterable iter X.env x=pure x)
  (hG:∀ pins s H cl C fp,DG (blk X pins s H sc cl C own fp) tg t) (hT:∀ pins s H cl C fp,DTs (blk X pins s H sc cl C own fp) ifs tf) (hB:∀ pins s H cl C fp Da,Xb3 (blk X pins s H sc cl C own fp) Da elt gens sc cpos 0 body)
  (I:S0 X pins σ H s ρ S env) (q:fi env S=.ok src S1) (hr:Yr src.get t (Y4 tf body) (src.most S1+1) 0 (env++List.replicate n none) [] S1=.ok accf Sf)
  (hQ:∀ s' H' ρ' Da vs C m,S0 X pins σ H' s' ρ' Sf env->Stp X.K ρ ρ' H H'->Da ∉ ρ'->H Da=none->H' Da=some (.lst vs)->RDs X.K ρ' H' accf vs->s'.heap.Ns C m->(∀ x c,X.env.cells.lookup x=some c->c≠C)->C≠X.env.locals->H' C=none->(∀ s'' σ'' H'' h',Inv X pins σ'' H'' s''->H'' C=none->Heap.SameBut C s''.heap h'->Inv X pins σ'' H'' { s'' with heap:=h' }) ->
   compPost (model X.prog X.w) X.A E use Q (.ref Da) C (.ok .next) s') :
  wpAny (model X.prog X.w) X.A (comprehension (.ListComp elt gens sc cpos) sc X.env (firstIterPos gens cpos) (newList []) false (eval iter X.env) use) Q E s:=by
 have hfree:∀ x∈sc.names,x.2=.free->∃ c,X.env.cells.lookup x.1=some c:=fun x hx hf=>by
  rcases so.free x hx hf with z|z
  ·exact I.inv.ok.has x.1 (.inl z)
  ·exact I.inv.ok.has x.1 (.inr z)
 obtain⟨cl,hclos,hcl,hclf⟩:=Xe1 hfree;refine wpAny_comprehension_free (g:=⟨tg,iter,ifs,0⟩) (gs:=gens.tail) hg hs hclos so.kind so.names ?_;refine wpAny_mono (E:=fun _ _=>False) (hi pins s σ H ρ S env (fun _ _=>False) I (by rw[q];exact fun z=>nomatch z) fun x s' z=>?_) (fun v s1 h1=>wpAny_mono h1 (fun itv s2 h2=>?_) fun _ _ z=>z.elim) fun _ _ z=>z.elim
 ·rw[q] at z;obtain⟨k,S2,e,z⟩:=z;cases e
 ·obtain⟨src',S2,it,fp,tn,J,H2,ρ2,e1,rfl,I2,T,t0,f2,sr2,srr,st2⟩:=h2
  rw[q] at e1;cases e1;have J2:=I.step I2 srr st2;refine wpAny_newObj_type (wpAny_newFunctionEnv so.nocell (by intro y hy;simp at hy) (fun h₁ hns₁ hsb₁=>?_) so.kind)
  dsimp only at hns₁ hsb₁ ⊢;generalize hH2:s2.heap.push { cls:=.type "list",dict:=none,data:=.seq ([]:List Value).toArray }=G2 at hns₁ hsb₁ ⊢;have hC:G2.objs.size=s2.heap.objs.size+1:=by rw[<- hH2,Heap.size_push]
  have below:∀ b,b<s2.heap.objs.size->b≠G2.objs.size:=fun b hb=>by rw[hC];exact Nat.ne_of_lt (Nat.lt_succ_of_lt hb)
  have old:∀ b o,s2.heap.get? b=some o->h₁.get? b=some o:=fun b o e=>hsb₁.extBut b o (below b (Heap.lt_size e)) (Heap.get?_push_of_some _ (hH2▸Heap.get?_push_of_some _ e))
  have hacc:h₁.get? s2.heap.objs.size=some { cls:=.type "list",data:=.seq #[] 0 }:=hsb₁.extBut _ _ (by rw[hC];exact Nat.ne_of_lt (Nat.lt_succ_self _)) (Heap.get?_push_of_some _ (hH2▸Heap.get?_push_size _ rfl))
  have hfp:∀ b∈fp,b<s2.heap.objs.size:=fun b hb=>by obtain⟨o,e,_⟩:=T.obj _ _ t0 b hb;exact Heap.lt_size e
  have hD0:H2 s2.heap.objs.size=none:=I2.hok.fresh (Nat.le_refl _);have hDn:s2.heap.objs.size ∉ ρ2:=fun hm=>by obtain⟨w,hw,_⟩:=srr.mem hm;rw[hD0] at hw;cases hw
  generalize hs4:({ s2 with heap:=h₁,toks:=s2.toks+([]:List (Str×Value)).length }:Shared)=s4
  have IY:Inv (blk X pins s2 H2 sc cl G2.objs.size own fp) [] (σ++List.replicate own.length none) (upd H2 s2.heap.objs.size (.lst [])) s4:=by
   subst hs4;exact Xxl so I2 f2 hcl hclf rfl hC rfl rfl old hns₁ ⟨0,hacc⟩ hfp
  have stD:Stp X.K ρ2 ρ2 H2 (upd H2 s2.heap.objs.size (.lst [])):=Stp.upd hD0;have SY:S0 (blk X pins s2 H2 sc cl G2.objs.size own fp) [] (σ++List.replicate own.length none) (upd H2 s2.heap.objs.size (.lst [])) s4 ρ2 S1 (env++List.replicate n none):=by
   refine⟨IY,srr.upd hD0,⟨by simp[J2.er.len,hon],fun i d e=>?_⟩⟩
   have hi:i<env.length:=by
    by_cases hi:i<env.length
    ·exact hi
    ·rw[List.getElem?_append_right (by omega),List.getElem?_replicate] at e
     split at e<;>cases e
   rw[List.getElem?_append_left hi] at e;obtain⟨v,h1,h2⟩:=J2.er.val i d e;exact⟨v,by rw[List.getElem?_append_left (by rw[<- J2.er.len];exact hi)];exact h1,h2.mono stD⟩
  have t4:tn 0 s4.heap:=by
   subst hs4;exact T.keep 0 _ _ t0 fun b hb o e=>old b o e
  have fY:∀ b∈fp,Y9 (blk X pins s2 H2 sc cl G2.objs.size own fp) [] (upd H2 s2.heap.objs.size (.lst [])) b:=fun b hb=>by
   obtain⟨a1,a2,a3,a4,a5,a6⟩:=f2 b hb;refine⟨by rw[Xf (Nat.ne_of_lt (hfp b hb))];exact a1,below b (hfp b hb),fun hm=>?_,.inl hb,fun x c h=>a5 x c (hcl x c h),fun p hp=>?_⟩
   ·rcases List.mem_cons.mp (I2.stkSub b hm) with z|z
    ·exact a2 z
    ·exact a3 z
   ·rw[List.append_nil] at hp;exact a6 p hp
  refine codeAny_mono (Xnw (Y:=blk X pins s2 H2 sc cl G2.objs.size own fp) (H0:=H2) (ρ0:=ρ2) (P:=compPost (model X.prog X.w) X.A E use Q (.ref s2.heap.objs.size) G2.objs.size (.ok .next)) hc (by rw[hg];rfl) T (hG _ _ _ _ _ _) (hT _ _ _ _ _ _) (hB _ _ _ _ _ _ _) hD0 SY t4 fY (sr2.mono stD) hDn Xz RDs.nil stD hr
   fun s' σ' H' ρ' vs' env' I' _ hn' hD' ra' st' _=>?_) fun r s' h=>?_
  ·have JX:=Xtw I2 f2 I'.inv
   have hCn:H' G2.objs.size=none:=I'.inv.free;have hCle:s2.heap.objs.size<=G2.objs.size:=by rw[hC];exact Nat.le_succ _
   obtain⟨m',hm',_⟩:=I'.inv.loc;have fo:=I2.fpOk (H':=H') hCle hCn;have hDX:H s2.heap.objs.size=none:=by
    cases e:H s2.heap.objs.size with
    | none=>rfl
    | some o =>
     by_cases hm:s2.heap.objs.size∈ρ
     ·obtain⟨k,hk,ek⟩:=List.mem_iff_getElem.mp hm
      exact absurd (List.mem_of_getElem? (st2.pre k _ (by simp[hk,ek]))) hDn
     ·rw[st2.keep _ o e hm] at hD0;cases hD0
   refine hQ s' H' ρ' s2.heap.objs.size vs' G2.objs.size m' ⟨JX,I'.sr,I.er.mono (st2.trans st')⟩ (st2.trans st') hn' hDX hD' ra' hm' fo.2.2.2.2.1 (fun z=>fo.2.1 z) hCn fun s'' σ'' H'' h' J'' hn'' hs''=>?_
   have q'':Y9 X pins H'' G2.objs.size:=⟨hn'',fo.2⟩;exact J''.turned (t':=s''.toks) (fun b o hb e=>(hs''.2 b hb).trans e) hn'' q''.2.1 q''.2.2.2.1 q''.2.2.2.2.1 q''.2.2.2.2.2
  ·cases r with
   | ok f=>cases use<;>exact h
   | error e=>exact h.elim
end
end Z
end
section
namespace Z
open PySem PySem.Spec PyProof.Rows L2
theorem Xcw{get:Sto->Nat->Option (Option D)}{t:Tg}{body:En->List D->Sto->R (List D)}:∀ (k i:Nat) (env:En) (acc:List D) (S:Sto) (n:Nat) (S':Sto),Yr get t body k i env acc S≠.ex n S'
 | 0,i,env,acc,S,n,S'=>fun z=>nomatch z
 | k+1,i,env,acc,S,n,S'=>by
  simp only[Yr];cases get S i with
  | none=>exact fun z=>nomatch z
  | some o =>
   cases o with
   | none=>exact fun z=>nomatch z
   | some d =>
    dsimp only;cases Xo t d env with
    | none=>exact fun z=>nomatch z
    | some env' =>
     dsimp only;cases body env' acc S with
     | ok a S1=>exact Xcw k (i+1) env' a S1 n S'
     | ex _ _=>exact fun z=>nomatch z
     | bad=>exact fun z=>nomatch z
section
variable{X:Cx}{pins:List (Addr×Obj)}{σ:L2.St}{H:Hp}{s:Shared}{ρ:List Addr}{S S':Sto}{env:En}{Q:Value->Shared->Prop}{E:Value->Shared->Prop}
theorem SR.adopt{K:PySem.W.Frag}{Da:Addr}{vs:List V}{xs:List D}(r:SR K ρ S H)(hn:Da ∉ ρ)(hD:H Da=some (.lst vs))(rd:RDs K ρ H xs vs):SR K (ρ++[Da]) (S++[.lst xs]) H:=by
 have mo:Mon K ρ (ρ++[Da]) H H:=⟨fun n a h=>by rw[List.getElem?_append_left (List.getElem?_eq_some_iff.mp h).1];exact h,fun _ _ h=>h,fun _ _ h=>h⟩
 refine⟨by simp[r.len],?_,fun n a ob h1 h2=>?_⟩
 ·rw[List.nodup_append]
  refine⟨r.nd,by simp,fun x hx y hy=>?_⟩
  rw[List.mem_singleton.mp hy];exact fun z=>hn (z▸hx)
 ·by_cases hk:n < ρ.length
  ·rw[List.getElem?_append_left hk] at h1
   rw[List.getElem?_append_left (by rw[<- r.len];exact hk)] at h2
   exact(r.ob n a ob h1 h2).mono' mo rfl
  ·have e:n=ρ.length:=by
    have:=(List.getElem?_eq_some_iff.mp h1).1;simp at this;omega
   subst e;simp at h1;rw[r.len] at h2;simp at h2;subst h1 h2;exact⟨vs,hD,RDs.mono' mo _ _ rd⟩
theorem Stp.adopt{K:PySem.W.Frag}{Da:Addr}{ρ':List Addr}{H':Hp}(st:Stp K ρ ρ' H H')(h0:H Da=none):Stp K ρ (ρ'++[Da]) H H' where
 pre:=fun n a h=>by have z:=st.pre n a h;rw[List.getElem?_append_left (List.getElem?_eq_some_iff.mp z).1];exact z
 tup:=st.tup
 fro:=st.fro
 new:=fun a h=>by
  rcases List.mem_append.mp h with h|h
  ·exact st.new a h
  ·rw[List.mem_singleton.mp h];exact .inr h0
 keep:=st.keep
variable{elt:Expr}{gens:List Comprehension}{sc:Scope}{cpos:Pos}{tg iter:Expr}{ifs:List Expr}{own:List Str}{t:Tg}{n:Nat}{fi:En->Sto->R Src}{tf:En->Sto->R Bool}{body:En->List D->Sto->R (List D)}
noncomputable def Xc8(fi:En->Sto->R Src)(t:Tg)(n:Nat)(tf:En->Sto->R Bool)(body:En->List D->Sto->R (List D))(env:En)(S:Sto):R D :=
 (fi env S).bind fun src S=>(Yr src.get t (Y4 tf body) (src.most S+1) 0 (env++List.replicate n none) [] S).bind fun acc S=>.ok (.ref S.length) (S++[.lst acc])
theorem Xke{use:Option (Value->Sem Unit)}{m:Nat}{S1:Sto}(so:ScOk X.env.scope sc X.N own)(hg:gens=⟨tg,iter,ifs,0⟩::gens.tail)(hi:DI X tg iter fi)(hs:∀ x,foldedSetIterable iter X.env x=pure x)
  (I:S0 X pins σ H s ρ S env) (q:fi env S=.ex m S1) (hE:∀ x s',XPd X pins σ ρ H m S1 x s'->E x s') :
  wpAny (model X.prog X.w) X.A (comprehension (.ListComp elt gens sc cpos) sc X.env (firstIterPos gens cpos) (newList []) false (eval iter X.env) use) Q E s:=by
 have hfree:∀ x∈sc.names,x.2=.free->∃ c,X.env.cells.lookup x.1=some c:=fun x hx hf=>by
  rcases so.free x hx hf with z|z
  ·exact I.inv.ok.has x.1 (.inl z)
  ·exact I.inv.ok.has x.1 (.inr z)
 obtain⟨cl,hclos,hcl,hclf⟩:=Xe1 hfree;refine wpAny_comprehension_free (g:=⟨tg,iter,ifs,0⟩) (gs:=gens.tail) hg hs hclos so.kind so.names ?_;refine wpAny_mono (hi pins s σ H ρ S env E I (by rw[q];exact fun z=>nomatch z) fun x s' z=>?_) (fun v s1 h1=>wpAny_mono h1 (fun itv s2 h2=>?_) fun _ _ z=>z) fun _ _ z=>z
 ·rw[q] at z;obtain⟨k,S2,e,z⟩:=z;cases e;exact hE x s' z
 ·obtain⟨src',S2,_,_,_,_,_,_,e1,_⟩:=h2
  rw[q] at e1;cases e1
theorem Xxm(hc:X.calm=true)(so:ScOk X.env.scope sc X.N own)(hon:own.length=n)(hg:gens=⟨tg,iter,ifs,0⟩::gens.tail)(hi:DI X tg iter fi)(hs:∀ x,foldedSetIterable iter X.env x=pure x)
  (hG:∀ pins s H cl C fp,DG (blk X pins s H sc cl C own fp) tg t) (hT:∀ pins s H cl C fp,DTs (blk X pins s H sc cl C own fp) ifs tf) (hB:∀ pins s H cl C fp Da,Xb3 (blk X pins s H sc cl C own fp) Da elt gens sc cpos 0 body) :
  DE X (.ListComp elt gens sc cpos) (Xc8 fi t n tf body):=by
 intro pins s σ H ρ S env I nb;have hfi:firstIter gens X.env=eval iter X.env:=by rw[hg];rfl
 have hfa:firstAsync gens=false:=by rw[hg];rfl
 rw[eval_ListComp,hfi,hfa];unfold Xc8 at nb ⊢;cases q:fi env S with
 | bad=>rw[q] at nb;exact absurd rfl nb
 | ex m S1=>exact Xke so hg hi hs I q fun x s' z=>⟨m,S1,rfl,z⟩
 | ok src S1 =>
  rw[q] at nb;simp only[Rk0] at nb ⊢;cases q2:Yr src.get t (Y4 tf body) (src.most S1+1) 0 (env++List.replicate n none) [] S1 with
  | bad=>rw[q2] at nb;exact absurd rfl nb
  | ex m S2=>exact absurd q2 (Xcw _ _ _ _ _ _ _)
  | ok accf Sf =>
   refine Xg7 hc so hon hg hi hs hG hT hB I q q2 fun s' H' ρ' Da vs C m I' st' hn' h0 hD' ra' hns hcells hCl hCn back=>?_
   refine⟨m,hns,fun h' hs'=>?_⟩
   refine .mk (v:=.ref Da) (st'.adopt h0) (back s' σ H' h' I'.inv hCn hs') rfl ?_ (I'.sr.adopt hn' hD' ra');simp only[RD];exact⟨Da,rfl,by rw[<- I'.sr.len];simp⟩
theorem Xtx{i:Nat}{x:Str}{py spos:Pos}(hN:X.N.Nodup)(hi':X.N[i]?=some x)(hx:X.env.scope.names.lookup x=some .local)(hsw:swapsWith (.ListComp elt gens sc cpos) (some (.Name x py)) spos.line X.env=pure true)
  (hc:X.calm=true) (so:ScOk X.env.scope sc X.N own) (hon:own.length=n) (hg:gens=⟨tg,iter,ifs,0⟩::gens.tail) (hi:DI X tg iter fi) (hs:∀ x,foldedSetIterable iter X.env x=pure x)
  (hG:∀ pins s H cl C fp,DG (blk X pins s H sc cl C own fp) tg t) (hT:∀ pins s H cl C fp,DTs (blk X pins s H sc cl C own fp) ifs tf) (hB:∀ pins s H cl C fp Da,Xb3 (blk X pins s H sc cl C own fp) Da elt gens sc cpos 0 body) :
  DS X (.Assign [.Name x py] (.ListComp elt gens sc cpos) spos) false (fun env S=>(Xc8 fi t n tf body env S).bind fun d S=>match Xo (.var i) d env with|some env=>.ok (.nx env) S|none=>.bad):=by
 intro pins s σ H ρ S env I nb;dsimp only at nb ⊢;have hfi:firstIter gens X.env=eval iter X.env:=by rw[hg];rfl
 have hfa:firstAsync gens=false:=by rw[hg];rfl
 rw[exec_Assign_Name_used _ _ _ _ hsw];refine wpAny_bind (wpAny_standAt (wpAny_bind ?_));show wpAny _ X.A (do let _ <- comprehension (.ListComp elt gens sc cpos) sc X.env (firstIterPos gens cpos) (newList []) (firstAsync gens) (firstIter gens X.env) (some (assign (.Name x py) X.env))) _ _ s
 rw[hfi,hfa];refine wpAny_bind (wpAny_mono (Q:=fun _ s'=>OkS X pins σ ρ H false ((Xc8 fi t n tf body env S).bind fun d S=>match Xo (.var i) d env with|some env=>.ok (.nx env) S|none=>.bad) .next s') ?_ (fun _ s' hq=>wpAny_pure (wpAny_pure hq)) fun _ _ z=>z)
 unfold Xc8 at nb ⊢;cases q:fi env S with
 | bad=>rw[q] at nb;exact absurd rfl nb
 | ex m S1=>exact Xke so hg hi hs I q fun x s' z=>.of .refl z rfl
 | ok src S1 =>
  rw[q] at nb;simp only[Rk0] at nb ⊢;cases q2:Yr src.get t (Y4 tf body) (src.most S1+1) 0 (env++List.replicate n none) [] S1 with
  | bad=>rw[q2] at nb;exact absurd rfl nb
  | ex m S2=>exact absurd q2 (Xcw _ _ _ _ _ _ _)
  | ok accf Sf =>
   refine Xg7 (use:=some (assign (.Name x py) X.env)) hc so hon hg hi hs hG hT hB I q q2 fun s' H' ρ' Da vs C m I' st' hn' h0 hD' ra' hns hcells hCl hCn back=>?_
   show wpAny _ X.A (assign (.Name x py) X.env (.ref Da)) _ _ s';refine wpAny_assign_Name (Xgv I'.inv hN hi' (.inl hx) (show RelV (.ref Da) (.ref Da) from rfl) (fun s2 I2 hsb=>?_) (.inr hx))
   obtain⟨ad,hsb,had⟩:=hsb;have hne:ad≠C:=by
    rcases had with z|z
    ·rw[z];exact Ne.symm hCl
    ·exact hcells x ad z
   refine⟨m,hns.sameBut hsb (Ne.symm hne),fun h' hs'=>?_⟩
   have J:=back s2 _ H' h' I2 hCn hs';refine⟨.nx (env.set i (some (.ref Sf.length))),Sf++[.lst accf],rfl,rfl,_,H',ρ'++[Da],⟨J,I'.sr.adopt hn' hD' ra',?_⟩,st'.adopt h0,fun z=>nomatch z⟩
   have mo:Mon X.K ρ' (ρ'++[Da]) H' H':=⟨fun n a h=>by rw[List.getElem?_append_left (List.getElem?_eq_some_iff.mp h).1];exact h,fun _ _ h=>h,fun _ _ h=>h⟩
   refine(I'.er.mono' mo).set i ?_;simp only[RD];exact⟨Da,rfl,by rw[<- I'.sr.len];simp⟩
end
end Z
end
section
namespace Z
open PySem PySem.Spec PyProof.Rows L2
section
variable{X:Cx}{pins:List (Addr×Obj)}{σ:L2.St}{H:Hp}{s:Shared}{ρ:List Addr}{S S':Sto}{env:En}{Q:Value->Shared->Prop}{E:Value->Shared->Prop}
def BlR(X:Cx)(k:Bl)(f:Value):Prop :=
 ∀ (pins:List (Addr×Obj)) (s:Shared) (σ:L2.St) (H:Hp) (ρ:List Addr) (S:Sto) (env:En) (ds:List D) (vs:List V) (us:List Value) (E:Value->Shared->Prop),S0 X pins σ H s ρ S env->RDs X.K ρ H ds vs->Vals vs us->Xr k ds S≠.bad ->
  wpAny (model X.prog X.w) X.A (call f us) (OkP X pins σ ρ H (Xr k ds S)) E s
theorem RDs.one{K:PySem.W.Frag}{d:D}{vs:List V}(h:RDs K ρ H [d] vs):∃ v,vs=[v]/\RD K ρ H d v:=by
 simp only[RDs] at h;obtain⟨v,r,rfl,h1,rfl⟩:=h;exact⟨v,rfl,h1⟩
theorem RDs.two{K:PySem.W.Frag}{d e:D}{vs:List V}(h:RDs K ρ H [d,e] vs):∃ v u,vs=[v,u]/\RD K ρ H d v/\RD K ρ H e u:=by
 simp only[RDs] at h;obtain⟨v,r,rfl,h1,u,r',rfl,h2,rfl⟩:=h;exact⟨v,u,rfl,h1,h2⟩
theorem X0m:BlR X .len (.builtin "len"):=by
 intro pins s σ H ρ S env ds vs us E I rd rv nb
 match ds,rd,nb with
 | [],_,nb=>exact absurd rfl nb
 | _::_::_,_,nb=>exact absurd rfl nb
 | [d],rd,nb =>
  obtain⟨v,rfl,r1⟩:=rd.one;have go:∀ xs,Xw S d=some xs->wpAny (model X.prog X.w) X.A (call (.builtin "len") us) (OkP X pins σ ρ H (.ok (.int xs.length) S)) E s:=fun xs h=>by
   obtain⟨a,ws,rfl,hq,hr⟩:=I.seq h r1;refine Xcr (Q':=fun z H'=>z=.int ws.length/\H'=H) Xh6 I.inv rv ⟨a,ws,rfl,hq,rfl,rfl⟩ fun w s' z H' J rz ⟨e1,e2⟩=>?_
   subst e1 e2;obtain⟨t,rfl⟩:=rz;rw[<- hr.length];exact Ys I.sr J
  cases d with
  | str z =>
   simp only[Xr] at nb ⊢;split at nb
   ·rename_i hz
    rw[if_pos hz];simp only[RD] at r1;subst r1;refine Xcr (Q':=fun y H'=>y=.int z.length/\H'=H) Xh7 I.inv rv ⟨z,rfl,Yh hz,rfl,rfl⟩ fun w s' y H' J rz ⟨e1,e2⟩=>?_
    subst e1 e2;obtain⟨t,rfl⟩:=rz;exact Ys I.sr J
   ·exact absurd rfl nb
  | tup xs=>exact go xs rfl
  | fro xs=>exact go xs rfl
  | ref n =>
   simp only[Xr,Xw] at nb ⊢;cases e:Xd S n with
   | none=>rw[e] at nb;exact absurd rfl nb
   | some xs=>exact go xs e
  | non=>exact absurd rfl nb
  | bl _=>exact absurd rfl nb
  | int _=>exact absurd rfl nb
  | fn _ _=>exact absurd rfl nb
theorem Xty:BlR X .tuple (.type "tuple"):=by
 intro pins s σ H ρ S env ds vs us E I rd rv nb
 match ds,rd,nb with
 | [],_,nb=>exact absurd rfl nb
 | _::_::_,_,nb=>exact absurd rfl nb
 | [d],rd,nb =>
  obtain⟨v,rfl,r1⟩:=rd.one;simp only[Xr] at nb ⊢;cases e:Xw S d with
  | none=>rw[e] at nb;exact absurd rfl nb
  | some xs =>
   dsimp only;obtain⟨a,ws,rfl,hq,hr⟩:=I.seq e r1;rcases hq with hq|hq
   ·refine Xcr (Q':=fun z H'=>∃ p,H p=none/\z=.ref p/\H'=upd H p (.tup ws)) Xc4 I.inv rv ⟨a,ws,rfl,.inl ⟨hq,fun l hl=>⟨l,hl,rfl,rfl⟩⟩⟩ fun w s' z H' J rz ⟨p,hp,e1,e2⟩=>?_
    subst e1 e2;cases rz;exact Xbl J hp I.sr hr
   ·refine Xcr (Q':=fun z H'=>z=.ref a/\H'=H) Xc4 I.inv rv ⟨a,ws,rfl,.inr ⟨hq,rfl,rfl⟩⟩ fun w s' z H' J rz ⟨e1,e2⟩=>?_
    subst e1 e2;refine .mk .refl J rz ?_ I.sr;simp only[RD];exact⟨a,ws,rfl,hq,hr⟩
theorem Xxn:BlR X .list (.type "list"):=by
 intro pins s σ H ρ S env ds vs us E I rd rv nb
 match ds,rd,nb with
 | [],_,nb=>exact absurd rfl nb
 | _::_::_,_,nb=>exact absurd rfl nb
 | [d],rd,nb =>
  obtain⟨v,rfl,r1⟩:=rd.one;simp only[Xr] at nb ⊢;cases e:Xw S d with
  | none=>rw[e] at nb;exact absurd rfl nb
  | some xs =>
   dsimp only;obtain⟨a,ws,rfl,hq,hr⟩:=I.seq e r1;refine Xcr (Q':=fun z H'=>∃ p,H p=none/\z=.ref p/\H'=upd H p (.lst ws)) Xh8 I.inv rv ⟨a,ws,rfl,hq,fun l hl=>⟨l,hl,rfl,rfl⟩⟩ fun w s' z H' J rz ⟨p,hp,e1,e2⟩=>?_
   subst e1 e2;cases rz;exact Xbm J hp I.sr hr
theorem Xbc:∀ {xs:List D} {bs:List Bool},X0 xs=some bs->xs=bs.map D.bl
 | [],ns,h=>by simp only[X0,Option.some.injEq] at h;subst h;rfl
 | .bl i::r,ns,h=>by
  simp only[X0,Option.map_eq_some_iff] at h;obtain⟨ms,h1,rfl⟩:=h;rw[Xbc h1];rfl
 | .non::_,_,h=>by simp[X0] at h
 | .int _::_,_,h=>by simp[X0] at h
 | .str _::_,_,h=>by simp[X0] at h
 | .tup _::_,_,h=>by simp[X0] at h
 | .ref _::_,_,h=>by simp[X0] at h
 | .fro _::_,_,h=>by simp[X0] at h
 | .fn _ _::_,_,h=>by simp[X0] at h
theorem Xny(bs:List Bool)(f:Nat->Bool)(h:∀ i,f i=(bs[i]?).getD false):(List.range bs.length).all f=bs.all id:=by
 rw[Bool.eq_iff_iff,List.all_eq_true,List.all_eq_true];constructor
 ·intro q b hb
  obtain⟨i,hi,rfl⟩:=List.mem_iff_getElem.mp hb;have:=q i (by simpa using hi)
  rw[h i] at this
  simpa [hi] using this
 ·intro q i hi
  have hi':i<bs.length:=by simpa using hi
  rw[h i];simp only[hi',getElem?_pos,Option.getD_some];exact q _ (List.getElem_mem hi')
theorem Xsp{K:PySem.W.Frag}:∀ {bs:List Bool} {vs:List V},RDs K ρ H (bs.map D.bl) vs->vs=bs.map V.bl
 | [],vs,h=>by simp only[List.map,RDs] at h;exact h
 | n::ns,vs,h=>by
  simp only[List.map,RDs] at h;obtain⟨v,r,rfl,h1,h2⟩:=h;simp only[RD] at h1;subst h1;rw[Xsp h2];rfl
theorem S0.its(I:S0 X pins σ H s ρ S env){n:Nat}{xs:List D}{v:V}{u:Value}(h:Xd S n=some xs)(rd:RD X.K ρ H (.ref n) v)(rv:RelV v u):∃ a vs its,u=.ref a/\s.heap.IsList a its.toArray/\RDs X.K ρ H xs vs/\Vals vs its/\vs.length<=sizeLine:=by
 obtain⟨a,vs,rfl,h1,h2,h3⟩:=I.lstR h rd;cases rv;obtain⟨its,r,p,hz⟩:=I.inv.list (.of h2);exact⟨a,vs,its,rfl,p.isList,h3,r,hz⟩
theorem Xil{prog:Program}{w:World}{A:Around}{a:Addr}{its:List Value}{Q:Value->Shared->Prop}(hh:A.handled=none)(hq:s.heap.IsList a its.toArray\/s.heap.IsTuple a its.toArray)
  (h:∀ I fp wr St s₂,Walks prog w A I fp wr its.length (fun i v=>its[i]?=some v) St->St 0 s₂.heap->(∀ b∈fp,b<s₂.heap.objs.size) ->
   (∀ h' tk,(∀ b o,b ∉ wr->s₂.heap.get? b=some o->h'.get? b=some o)->({ s₂ with heap:=h',toks:=tk }:Shared)={ s with heap:=h',toks:=tk }/\∀ b o,s.heap.get? b=some o->h'.get? b=some o)->Q (.ref I) s₂) :
  wpAny (model prog w) A (pyIter (.ref a)) Q E s:=by
 have key:∀ {o:Obj},∀ h' tk,(∀ b ob,b ∉ [s.heap.objs.size]->({ s with heap:=s.heap.push o }:Shared).heap.get? b=some ob->h'.get? b=some ob)->({ ({ s with heap:=s.heap.push o }:Shared) with heap:=h',toks:=tk }:Shared)={ s with heap:=h',toks:=tk }/\∀ b ob,s.heap.get? b=some ob->h'.get? b=some ob :=
  fun {o} h' tk hk=>⟨rfl,fun b ob e=>hk b ob (by simp;exact Nat.ne_of_lt (Heap.lt_size e)) (Heap.get?_push_of_some _ e)⟩
 have fpk:∀ {o:Obj} (ha:a<s.heap.objs.size),∀ b∈[s.heap.objs.size,a],b<(s.heap.push o).objs.size:=fun {o} ha b hb=>by
  rw[Heap.size_push];simp at hb;rcases hb with rfl|rfl
  ·exact Nat.lt_succ_self _
  ·exact Nat.lt_succ_of_lt ha
 rcases hq with hq|hq
 ·have ha:a<s.heap.objs.size:=Heap.lt_size hq.choose_spec.1
  refine wpAny_pyIter_list hq ?_;have W:=Walks.list (prog:=prog) (w:=w) hh s.heap.objs.size a (Nat.ne_of_lt ha) its.toArray;simp only[List.size_toArray,List.getElem?_toArray] at W;exact h _ _ _ _ _ W ⟨⟨_,Heap.get?_push_size _ rfl,rfl,rfl⟩,hq.at fun o e=>Heap.get?_push_of_some _ e⟩ (fpk ha) key
 ·have ha:a<s.heap.objs.size:=Heap.lt_size hq.choose_spec.1
  refine wpAny_pyIter_tuple hq ?_;have W:=Walks.tuple (prog:=prog) (w:=w) hh s.heap.objs.size a (Nat.ne_of_lt ha) its.toArray;simp only[List.size_toArray,List.getElem?_toArray] at W;exact h _ _ _ _ _ W ⟨⟨_,Heap.get?_push_size _ rfl,rfl,rfl⟩,hq.at fun o e=>Heap.get?_push_of_some _ e⟩ (fpk ha) key
theorem S0.seqI(I:S0 X pins σ H s ρ S env){d:D}{v:V}{u:Value}{xs:List D}(h:Xw S d=some xs)(rd:RD X.K ρ H d v)(rv:RelV v u):∃ a vs its,u=.ref a/\(s.heap.IsList a its.toArray\/s.heap.IsTuple a its.toArray)/\RDs X.K ρ H xs vs/\Vals vs its/\vs.length<=sizeLine:=by
 obtain⟨a,vs,rfl,hq,hr⟩:=I.seq h rd;cases rv;rcases hq with hq|hq
 ·obtain⟨its,r,p,hz⟩:=I.inv.list hq
  exact⟨a,vs,its,rfl,.inl p.isList,hr,r,hz⟩
 ·obtain⟨its,r,p,hz⟩:=I.inv.tuple hq
  exact⟨a,vs,its,rfl,.inr p,hr,r,hz⟩
theorem Xtz{i:Nat}{v:Value}:∀ {bs:List Bool} {its:List Value},Vals (bs.map V.bl) its->its[i]?=some v->v=.bool ((bs[i]?).getD false):=fun {bs its} hv e=>by
 have hl:i<bs.length:=by
  have h1:=hv.length;have h2:=(List.getElem?_eq_some_iff.mp e).1;simp at h1;omega
 obtain⟨u,h1,h2⟩:=hv.get (i:=i) (x:=.bl bs[i]) (by simp[hl])
 rw[e] at h1;cases h1;simp[hl];exact h2
theorem X0n(hc:X.calm=true):BlR X .all (.builtin "all"):=by
 intro pins s σ H ρ S env ds vs us E I rd rv nb
 match ds,rd,nb with
 | [],_,nb=>exact absurd rfl nb
 | d::_::_,_,nb=>cases d<;>exact absurd rfl nb
 | [.ref n],rd,nb =>
  obtain⟨v,rfl,r1⟩:=rd.one;simp only[Xr] at nb ⊢;cases e:Xd S n with
  | none=>rw[e] at nb;exact absurd rfl nb
  | some xs =>
   rw[e] at nb;simp only[Option.bind_some] at nb ⊢;cases e2:X0 xs with
   | none=>rw[e2] at nb;exact absurd rfl nb
   | some bs =>
    dsimp only;have q:=Xbc e2;subst q;cases rv with
    | cons ru rr =>
     cases rr;obtain⟨a,ws,its,rfl,hl,hr,hv,hz⟩:=I.its e r1 ru;have hw:=Xsp hr;subst hw;have hlen:its.length=bs.length:=by rw[<- hv.length];simp
     refine call_all_walk (Xil (I.inv.ok.hd hc) (.inl hl) fun It fp wr St s₂ W st hf key=>?_)
     refine⟨It,fp,wr,_,_,St,fun i=>(bs[i]?).getD false,rfl,W,st,fun i v s' Q' E' hP hQ=>?_,fun h' tk hk=>?_⟩
     ·rw[Xtz hv hP];exact wpAny_truthy_bool hQ
     ·obtain⟨e3,k3⟩:=key h' tk hk
      rw[e3,hlen,Xny bs _ fun _=>rfl]
      exact Xg I.sr (I.inv.kept k3)
 | [.non],_,nb=>exact absurd rfl nb
 | [.bl _],_,nb=>exact absurd rfl nb
 | [.int _],_,nb=>exact absurd rfl nb
 | [.str _],_,nb=>exact absurd rfl nb
 | [.tup _],_,nb=>exact absurd rfl nb
 | [.fro _],_,nb=>exact absurd rfl nb
theorem Xp9{i:Nat}{v:Value}{ns:List Int}{its:List Value}(hv:Vals (ns.map V.int) its)(e:its[i]?=some v):∃ t,v=.int ((ns[i]?).getD 0) t:=by
 have hl:i<ns.length:=by
  have h1:=hv.length;have h2:=(List.getElem?_eq_some_iff.mp e).1;simp at h1;omega
 obtain⟨u,h1,h2⟩:=hv.get (i:=i) (x:=.int ns[i]) (by simp[hl])
 rw[e] at h1;cases h1;simp[hl];exact h2
theorem Xd9(ns:List Int):∀ k,k<=ns.length->preSum (fun i=>(ns[i]?).getD 0) k=(ns.take k).sum
 | 0,_=>by simp[preSum]
 | k+1,h=>by
  have hk:k<ns.length:=by omega
  rw[preSum,Xd9 ns k (by omega),List.take_succ_eq_append_getElem hk,List.sum_append]
  simp[hk]
theorem X0o(hc:X.calm=true):BlR X .sum (.builtin "sum"):=by
 intro pins s σ H ρ S env ds vs us E I rd rv nb
 match ds,rd,nb with
 | [],_,nb=>exact absurd rfl nb
 | _::_::_,_,nb=>exact absurd rfl nb
 | [d],rd,nb =>
  obtain⟨v,rfl,r1⟩:=rd.one;simp only[Xr] at nb ⊢;cases e:Xw S d with
  | none=>rw[e] at nb;exact absurd rfl nb
  | some xs =>
   rw[e] at nb;simp only[Option.bind_some] at nb ⊢;cases e2:Yg xs with
   | none=>rw[e2] at nb;exact absurd rfl nb
   | some ns =>
    dsimp only;have q:=Xc7 e2;subst q;cases rv with
    | cons ru rr =>
     cases rr;obtain⟨a,ws,its,rfl,hl,hr,hv,hz⟩:=I.seqI e r1 ru;have hw:=hr.ints_of;subst hw;have hlen:its.length=ns.length:=by rw[<- hv.length];simp
     refine call_sum_walkAnyS (Xil (I.inv.ok.hd hc) hl fun It fp wr St s₂ W st hf key=>?_)
     refine⟨It,fp,wr,_,_,_,_,fun i=>(ns[i]?).getD 0,rfl,W.toS,st,hf,fun i v hP=>Xp9 hv hP,fun s' t' hm=>?_⟩
     obtain⟨h1,h2,h3,h4,h5⟩:=hm;obtain⟨e3,k3⟩:=key s'.heap s'.toks h1;have e4:s'={ s₂ with heap:=s'.heap,toks:=s'.toks }:=by
      cases s';cases s₂;simp only at h2 h3 h4;subst h2 h3 h4;rfl
     rw[e4,e3,hlen,Xd9 ns _ (Nat.le_refl _),List.take_length];exact Ys I.sr (I.inv.kept k3)
theorem Xxo(hc:X.calm=true){i j:Int}{v' u':Value}(I:S0 X pins σ H s ρ S env)(rv:RelV (.int i) v')(ru:RelV (.int j) u'):wpAny (model X.prog X.w) X.A (call (.builtin "max") [v',u']) (OkP X pins σ ρ H (Xr .max [.int i,.int j] S)) E s :=
 Xcr (Q':=fun z H'=>z=.int (if j>i then j else i)/\H'=H) (Xna hc) I.inv (.cons rv (.cons ru .nil)) ⟨i,j,rfl,rfl,rfl⟩ fun w s' z H' J rz ⟨e1,e2⟩=>by
  subst e1 e2;obtain⟨t,rfl⟩:=rz;exact Ys I.sr J
theorem Xxp(hc:X.calm=true){i j:Int}{v' u':Value}(I:S0 X pins σ H s ρ S env)(rv:RelV (.int i) v')(ru:RelV (.int j) u'):wpAny (model X.prog X.w) X.A (call (.builtin "min") [v',u']) (OkP X pins σ ρ H (Xr .min [.int i,.int j] S)) E s :=
 Xcr (Q':=fun z H'=>z=.int (if j<i then j else i)/\H'=H) (Xnb hc) I.inv (.cons rv (.cons ru .nil)) ⟨i,j,rfl,rfl,rfl⟩ fun w s' z H' J rz ⟨e1,e2⟩=>by
  subst e1 e2;obtain⟨t,rfl⟩:=rz;exact Ys I.sr J
theorem X0p(hc:X.calm=true):BlR X .max (.builtin "max"):=by
 intro pins s σ H ρ S env ds vs us E I rd rv nb
 match ds,rd,nb with
 | [],_,nb=>exact absurd rfl nb
 | [d],rd,nb=>cases d<;>exact absurd rfl nb
 | [d,e],rd,nb =>
  obtain⟨v,u,rfl,r1,r2⟩:=rd.two;cases d with
  | int i=>cases e with
   | int j =>
    simp only[RD] at r1 r2;subst r1 r2;cases rv with
    | cons ru rr=>cases rr with
     | cons rw' rr=>cases rr;exact Xxo hc I ru rw'
   | _=>exact absurd rfl nb
  | _=>cases e<;>exact absurd rfl nb
 | d::e::_::_,_,nb=>cases d<;>(try cases e)<;>exact absurd rfl nb
theorem X0q(hc:X.calm=true):BlR X .min (.builtin "min"):=by
 intro pins s σ H ρ S env ds vs us E I rd rv nb
 match ds,rd,nb with
 | [],_,nb=>exact absurd rfl nb
 | [d],rd,nb=>cases d<;>exact absurd rfl nb
 | [d,e],rd,nb =>
  obtain⟨v,u,rfl,r1,r2⟩:=rd.two;cases d with
  | int i=>cases e with
   | int j =>
    simp only[RD] at r1 r2;subst r1 r2;cases rv with
    | cons ru rr=>cases rr with
     | cons rw' rr=>cases rr;exact Xxp hc I ru rw'
   | _=>exact absurd rfl nb
  | _=>cases e<;>exact absurd rfl nb
 | d::e::_::_,_,nb=>cases d<;>(try cases e)<;>exact absurd rfl nb
def MtD(X:Cx)(k:Mt)(id:String):Prop :=
 ∀ (pins:List (Addr×Obj)) (s:Shared) (σ:L2.St) (H:Hp) (ρ:List Addr) (S:Sto) (env:En) (d:D) (v:V) (u:Value) (ds:List D) (vs:List V) (us:List Value) (E:Value->Shared->Prop),S0 X pins σ H s ρ S env->RD X.K ρ H d v->RelV v u->RDs X.K ρ H ds vs->Vals vs us->Xa4 k d ds S≠.bad ->
  wpAny (model X.prog X.w) X.A (call (.builtin id) (u::us)) (OkP X pins σ ρ H (Xa4 k d ds S)) E s
theorem Xt0{n:Nat}{a:Addr}{xs:List D}{vs:List V}{s':Shared}{d:D}{v:V}{u:Value}(I:S0 X pins σ H s ρ S env)(ha:ρ[n]?=some a)(J:Inv X pins σ (upd H a (.lst vs)) s')(rd:RDs X.K ρ H xs vs)(rv:RelV v u)(rdv:RD X.K ρ H d v) :
  OkP X pins σ ρ H (.ok d (S.set n (.lst xs))) u s':=by
 have st:Stp X.K ρ ρ H (upd H a (.lst vs)):=Stp.chg (S:=S) (o:=.lst xs) I.sr ha;exact .mk st J rv (rdv.mono st) (I.sr.chg ha ⟨vs,Xz,rd.mono st⟩)
theorem Xqa:MtD X .append "list.append" := by
 intro pins s σ H ρ S env d v u ds vs us E I rd rv rds rvs nb
 match d,ds,rds,rd,nb with
 | .ref n,[x],rds,rd,nb =>
  obtain⟨y,rfl,r1⟩:=rds.one;simp only[Xa4] at nb ⊢;cases e:Z.lstM S n with
  | none=>rw[e] at nb;exact absurd rfl nb
  | some xs =>
   rw[e] at nb;dsimp only at nb ⊢;split at nb
   ·rename_i hz
    rw[if_pos hz];obtain⟨a,ws,rfl,ha,hv,hr⟩:=I.lstR e rd;refine mtd (Q':=fun z H'=>z=.non/\H'=upd H a (.lst (ws++[y]))) Xg1 I.inv rv rvs ⟨a,ws,y,rfl,rfl,hv,by rw[<- hr.length];exact Nat.lt_of_lt_of_le hz Xia,rfl,rfl⟩ fun w s' z H' J rz ⟨e1,e2⟩=>?_
    subst e1 e2;exact Xt0 I ha J (hr.append (.cons r1 .nil)) rz (by simp only[RD])
   ·exact absurd rfl nb
 | .ref n,[],_,_,nb=>exact absurd rfl nb
 | .ref n,_::_::_,_,_,nb=>exact absurd rfl nb
 | .non,ds,_,_,nb=>cases ds<;>exact absurd rfl nb
 | .bl _,ds,_,_,nb=>cases ds<;>exact absurd rfl nb
 | .int _,ds,_,_,nb=>cases ds<;>exact absurd rfl nb
 | .str _,ds,_,_,nb=>cases ds<;>exact absurd rfl nb
 | .tup _,ds,_,_,nb=>cases ds<;>exact absurd rfl nb
 | .fro _,ds,_,_,nb=>cases ds<;>exact absurd rfl nb
end
end Z
end
section
namespace Z
open PySem PySem.Spec PyProof.Rows L2
section
variable{X:Cx}{pins:List (Addr×Obj)}{σ:L2.St}{H:Hp}{s:Shared}{ρ:List Addr}{S S':Sto}{env:En}{a b c e:Expr}{f fa fb fc:En->Sto->R D}{pos:Pos}
theorem Xsq(ha:DE X a fa):DE X (.UnaryOp .USub a pos) (fun env S=>(fa env S).bind fun x S=>match x with | .int i=>.ok (.int (-i)) S|_=>.bad):=by
 intro pins s σ H ρ S env I nb;dsimp only at nb ⊢;cases q:fa env S with
 | bad=>rw[q] at nb;exact absurd rfl nb
 | ex n S1=>exact UnaryOp_ (ha.ex I q fun x s' z=>⟨n,S1,rfl,z⟩)
 | ok x S1 =>
  rw[q] at nb;simp only[Rk0] at nb ⊢;refine UnaryOp_ (ha.ok I q fun u s1 v H1 ρ1 I1 rv rd st1=>?_)
  cases x with
  | int i =>
   simp only[RD] at rd;subst rd;obtain⟨t,rfl⟩:=rv;exact neg_int (OkP.pre st1 (Ys I1.sr (I1.inv.tok _)))
  | _=>exact absurd rfl nb
theorem Xxq(hc:DT X c (fun env S=>tst (fc env S)))(ha:DT X a (fun env S=>tst (fa env S)))(hb:DT X b (fun env S=>tst (fb env S))) :
  DT X (.IfExp c a b pos) (fun env S=>tst ((fc env S).bind fun x S=>match Xj S x with|some true=>fa env S|some false=>fb env S|none=>.bad)):=by
 intro pins s σ H ρ S env I nb;dsimp only at nb ⊢;show wpAny _ _ (do if <- isTrue c X.env (eval c X.env) then isTrue a X.env (eval a X.env) else isTrue b X.env (eval b X.env)) _ _ s
 cases q:fc env S with
 | bad=>rw[q] at nb;exact absurd rfl nb
 | ex n S1=>exact wpAny_bind (hc.ex I (by simp only[q];rfl) fun x s' z=>⟨n,S1,rfl,z⟩)
 | ok x S1 =>
  rw[q] at nb;simp only[Rk0] at nb ⊢;cases t:Xj S1 x with
  | none=>rw[t] at nb;exact absurd rfl nb
  | some r =>
   rw[t] at nb;refine wpAny_bind (hc.ok I (by simp only[q];exact Xax t) fun s2 H2 ρ2 I2 st2=>?_)
   cases r with
   | true=>exact wpAny_mono (ha pins s2 σ H2 ρ2 S1 env I2 nb) (fun w s3 ⟨S3,e3,H3,ρ3,J3,sr3,st3⟩=>⟨S3,e3,H3,ρ3,J3,sr3,st2.trans st3⟩) fun x s' z=>z.pre st2
   | false=>exact wpAny_mono (hb pins s2 σ H2 ρ2 S1 env I2 nb) (fun w s3 ⟨S3,e3,H3,ρ3,J3,sr3,st3⟩=>⟨S3,e3,H3,ρ3,J3,sr3,st2.trans st3⟩) fun x s' z=>z.pre st2
noncomputable def Yo(o1 o2:Co)(fa fb fc:En->Sto->R D)(env:En)(S:Sto):R D:=(fa env S).bind fun x S=>(fb env S).bind fun y S=>match Yy o1 x y S with
  | some true=>(fc env S).bind fun z S=>Xi o2 y z S
  | some false=>.ok (.bl false) S
  | none=>.bad
theorem Xim{o1 o2:Co}{Ev:Value->Shared->Prop}(ho1:Op2 X (compareOp (opC o1)) (Xi o1))(ha:DE X a fa)(hb:DE X b fb)(I:S0 X pins σ H s ρ S env)(nb:Yo o1 o2 fa fb fc env S≠.bad)
  {W:Value->Value->Bool->Shared->Prop} (hE:∀ x s',ExP X pins σ ρ H (Yo o1 o2 fa fb fc env S) x s'->Ev x s')
  (hF:∀ v u s3 S2 H2 ρ2,Yo o1 o2 fa fb fc env S=.ok (.bl false) S2->S0 X pins σ H2 s3 ρ2 S2 env->Stp X.K ρ ρ2 H H2->W v u false s3)
  (hT:∀ v u s3 S2 y vy H2 ρ2,Yo o1 o2 fa fb fc env S=((fc env S2).bind fun z S=>Xi o2 y z S)->S0 X pins σ H2 s3 ρ2 S2 env->RelV vy u->RD X.K ρ2 H2 y vy->Stp X.K ρ ρ2 H H2->W v u true s3) :
  wpAny (model X.prog X.w) X.A (eval a X.env) (fun v s1=>wpAny (model X.prog X.w) X.A (eval b X.env) (fun u s2=>wpAny (model X.prog X.w) X.A (compareOp (opC o1) v u) (fun d s3=>∃ r,d=.bool r/\W v u r s3) Ev s2) Ev s1) Ev s:=by
 cases q:fa env S with
 | bad=>rw[Yo,q] at nb;exact absurd rfl nb
 | ex n S1=>exact ha.ex I q fun x s' z=>hE x s' ⟨n,S1,by rw[Yo,q];rfl,z⟩
 | ok x S1 =>
  refine ha.ok I q fun v s1 vx H1 ρ1 I1 rv rd st1=>?_
  cases q2:fb env S1 with
  | bad=>rw[Yo,q] at nb;simp only[Rk0] at nb;rw[q2] at nb;exact absurd rfl nb
  | ex n S2=>exact hb.ex I1 q2 fun x s' z=>hE x s' ⟨n,S2,by rw[Yo,q];simp only[Rk0];rw[q2];rfl,z.pre st1⟩
  | ok y S2 =>
   refine hb.ok I1 q2 fun u s2 vy H2 ρ2 I2 ru rdu st2=>?_
   have eq:Yo o1 o2 fa fb fc env S=(match Yy o1 x y S2 with
     | some true=>(fc env S2).bind fun z S=>Xi o2 y z S
     | some false=>.ok (.bl false) S2
     | none=>.bad):=by rw[Yo,q];simp only[Rk0];rw[q2];rfl
   cases q3:Yy o1 x y S2 with
   | none=>rw[eq,q3] at nb;exact absurd rfl nb
   | some r =>
    have e3:Xi o1 x y S2=.ok (.bl r) S2:=by unfold Xi;rw[q3]
    refine wpAny_mono (ho1 pins s2 σ H2 ρ2 S2 env x y vx vy v u (fun _ _=>False) I2 (by rw[e3];exact fun z=>nomatch z) (rd.mono st2) rv rdu ru) (fun d s3 z=>?_) fun _ _ z=>z.elim
    rw[e3] at z;obtain⟨d',S3,e4,w,H3,ρ3,J3,rw3,rd3,sr3,st3⟩:=z;cases e4;simp only[RD] at rd3;subst rd3;cases rw3;refine⟨r,rfl,?_⟩;have I3:S0 X pins σ H3 s3 ρ3 S2 env:=I2.step J3 sr3 st3;cases r with
    | false=>exact hF v u s3 S2 H3 ρ3 (by rw[eq,q3]) I3 (st1.trans (st2.trans st3))
    | true=>exact hT v u s3 S2 y vy H3 ρ3 (by rw[eq,q3]) I3 ru (rdu.mono st3) (st1.trans (st2.trans st3))
theorem Xin{o2:Co}{y:D}{vy:V}{u:Value}{W:Value->Shared->Prop}{Ev:Value->Shared->Prop}{ρ0:List Addr}{H0:Hp}(ho2:Op2 X (compareOp (opC o2)) (Xi o2))(hc:DE X c fc)(I:S0 X pins σ H s ρ S env)(ru:RelV vy u)(rd:RD X.K ρ H y vy)(st0:Stp X.K ρ0 ρ H0 H)
  (nb:((fc env S).bind fun z S=>Xi o2 y z S)≠.bad) (hE:∀ x s',ExP X pins σ ρ0 H0 ((fc env S).bind fun z S=>Xi o2 y z S) x s'->Ev x s')
  (hW:∀ r S3 s3 H3 ρ3,((fc env S).bind fun z S=>Xi o2 y z S)=.ok (.bl r) S3->S0 X pins σ H3 s3 ρ3 S3 env->Stp X.K ρ0 ρ3 H0 H3->W (.bool r) s3) :
  wpAny (model X.prog X.w) X.A (eval c X.env) (fun w s1=>wpAny (model X.prog X.w) X.A (compareOp (opC o2) u w) W Ev s1) Ev s:=by
 cases q:fc env S with
 | bad=>rw[q] at nb;exact absurd rfl nb
 | ex n S1=>exact hc.ex I q fun x s' z=>hE x s' ⟨n,S1,by rw[q];rfl,z.pre st0⟩
 | ok z S1 =>
  rw[q] at nb;simp only[Rk0] at nb;refine hc.ok I q fun w s1 vz H1 ρ1 I1 rv rdz st1=>?_
  obtain⟨r,e1,e2⟩:=Xbn nb;refine wpAny_mono (ho2 pins s1 σ H1 ρ1 S1 env y z vy vz u w (fun _ _=>False) I1 nb (rd.mono st1) ru rdz rv) (fun d s3 zz=>?_) fun _ _ z=>z.elim
  rw[e2] at zz;obtain⟨d',S3,e4,w',H3,ρ3,J3,rw3,rd3,sr3,st3⟩:=zz;cases e4;simp only[RD] at rd3;subst rd3;cases rw3;exact hW r S1 s3 H3 ρ3 (by rw[q];exact e2) (I1.step J3 sr3 st3) (st0.trans (st1.trans st3))
theorem X0r{o1 o2:Co}(ho1:Op2 X (compareOp (opC o1)) (Xi o1))(ho2:Op2 X (compareOp (opC o2)) (Xi o2))(ha:DE X a fa)(hb:DE X b fb)(hc:DE X c fc)(hm:lastMarks [opC o1,opC o2] [b,c]=false) :
  DE X (.Compare a [opC o1,opC o2] [b,c] pos) (Yo o1 o2 fa fb fc):=by
 intro pins s σ H ρ S env I nb;refine Compare_chain (wpAny_mono (Xim (W:=fun v u r s3=>if r=true then wpAny (model X.prog X.w) X.A (compareChain pos u [opC o2] [eval c X.env]) (OkP X pins σ ρ H (Yo o1 o2 fa fb fc env S)) (ExP X pins σ ρ H (Yo o1 o2 fa fb fc env S)) s3 else OkP X pins σ ρ H (Yo o1 o2 fa fb fc env S) (.bool false) s3) ho1 ha hb I nb (fun _ _ z=>z) ?_ ?_)
  (fun v s1 h1=>chain_link (wpAny_mono h1 (fun u s2 h2=>wpAny_mono h2 (fun d s3 ⟨r,e,w⟩=>?_) fun _ _ z=>z) fun _ _ z=>z)) fun _ _ z=>z) hm
 ·intro v u s3 S2 H2 ρ2 e I2 st2
  rw[if_neg Bool.false_ne_true,e];exact OkP.pre st2 (Xg I2.sr I2.inv)
 ·intro v u s3 S2 y vy H2 ρ2 e I2 ru rd st2
  rw[if_pos rfl];refine chain_last (Xin ho2 hc I2 ru rd st2 (by rw[<- e];exact nb) (fun x s' z=>by rw[e];exact z) fun r S3 s4 H3 ρ3 e3 I3 st3=>?_)
  rw[e,e3];exact OkP.pre st3 (Xg I3.sr I3.inv)
 ·subst e
  refine wpAny_truthy_bool ?_;cases r with
  | true=>rw[if_pos rfl] at w;exact ite_tt w
  | false=>rw[if_neg Bool.false_ne_true] at w;exact ite_ff w
theorem Xxr{o1 o2:Co}(ho1:Op2 X (compareOp (opC o1)) (Xi o1))(ho2:Op2 X (compareOp (opC o2)) (Xi o2))(ha:DE X a fa)(hb:DE X b fb)(hc:DE X c fc)(hm:lastMarks [opC o1,opC o2] [b,c]=false) :
  DT X (.Compare a [opC o1,opC o2] [b,c] pos) (fun env S=>tst (Yo o1 o2 fa fb fc env S)):=by
 intro pins s σ H ρ S env I nb;dsimp only at nb ⊢;have nb':Yo o1 o2 fa fb fc env S≠.bad:=fun z=>nb (by rw[z];rfl)
 have ex:∀ x s',ExP X pins σ ρ H (Yo o1 o2 fa fb fc env S) x s'->ExP X pins σ ρ H (tst (Yo o1 o2 fa fb fc env S)) x s':=fun x s' ⟨n,S1,e,z⟩=>⟨n,S1,by rw[e];rfl,z⟩
 refine isTrue_chain (wpAny_mono (Xim (W:=fun v u r s3=>if r=true then wpAny (model X.prog X.w) X.A (testChain pos u [opC o2] [eval c X.env]) (fun b s'=>∃ S',tst (Yo o1 o2 fa fb fc env S)=.ok b S'/\∃ H' ρ',Inv X pins σ H' s'/\SR X.K ρ' S' H'/\Stp X.K ρ ρ' H H') (ExP X pins σ ρ H (tst (Yo o1 o2 fa fb fc env S))) s3
   else ∃ S',tst (Yo o1 o2 fa fb fc env S)=.ok false S'/\∃ H' ρ',Inv X pins σ H' s3/\SR X.K ρ' S' H'/\Stp X.K ρ ρ' H H') ho1 ha hb I nb' ex ?_ ?_)
  (fun v s1 h1=>test_link (wpAny_mono h1 (fun u s2 h2=>wpAny_mono h2 (fun d s3 ⟨r,e,w⟩=>?_) fun _ _ z=>z) fun _ _ z=>z)) fun _ _ z=>z) hm
 ·intro v u s3 S2 H2 ρ2 e I2 st2
  rw[if_neg Bool.false_ne_true,e];exact⟨S2,rfl,H2,ρ2,I2.inv,I2.sr,st2⟩
 ·intro v u s3 S2 y vy H2 ρ2 e I2 ru rd st2
  rw[if_pos rfl];refine test_last (Xin ho2 hc I2 ru rd st2 (by rw[<- e];exact nb') (fun x s' z=>ex x s' (by rw[e];exact z)) fun r S3 s4 H3 ρ3 e3 I3 st3=>?_)
  exact wpAny_truthy_bool ⟨S3,by rw[e,e3];rfl,H3,ρ3,I3.inv,I3.sr,st3⟩
 ·subst e
  refine wpAny_truthy_bool ?_;cases r with
  | true=>rw[if_pos rfl] at w;exact ite_tt w
  | false=>rw[if_neg Bool.false_ne_true] at w;exact ite_ff w
variable{x:Str}{p:Pos}{es:List Expr}{g:En->Sto->R (List D)}{k:Bl}{id T:String}
theorem Xxs (hB:BlR X k (.builtin id)) (hg:Gl X x) (hm:X.mg x=none) (hv:bootBuiltins x=some (.builtin id)) (ha:DA X (e::es) g) (hn:x ≠ "__name__") (hdb:(x==("__debug__" : Str))=false)
  (he:starEach (e::es) X.env=(false,eval e X.env)::starEach es X.env) (hpl:(backTo pos (starEach es X.env)).any (·.1)=false):DE X (.Call (.Name x p) (e::es) [] pos) (fun env S=>(g env S).bind fun xs S=>Xr k xs S):=by
 intro pins s σ H ρ S env I nb;dsimp only at nb ⊢;refine wpAny_Call_Name_kw (Yn I.inv hg hm hv ?_ hn hdb);cases q:g env S with
 | bad=>rw[q] at nb;exact absurd rfl nb
 | ex n S1=>exact PyProof.Rows.callWith_builtin1 (ha.ex I q fun x s' z=>⟨n,S1,rfl,z⟩) he hpl
 | ok ds S1 =>
  rw[q] at nb;refine PyProof.Rows.callWith_builtin1 (ha.ok I q fun us s1 vs H1 ρ1 I1 rv rd st1=>?_) he hpl
  exact wpAny_mono (hB pins s1 σ H1 ρ1 S1 env ds vs us (fun _ _=>False) I1 rd rv nb) (fun w s2 z=>z.pre st1) fun _ _ z=>z.elim
theorem Xxt (hB:BlR X k (.type T)) (hg:Gl X x) (hm:X.mg x=none) (hv:bootBuiltins x=some (.type T)) (ha:DA X (e::es) g) (hn:x ≠ "__name__") (hdb:(x==("__debug__" : Str))=false)
  (he:starEach (e::es) X.env=(false,eval e X.env)::starEach es X.env) (hpl:(backTo pos (starEach es X.env)).any (·.1)=false):DE X (.Call (.Name x p) (e::es) [] pos) (fun env S=>(g env S).bind fun xs S=>Xr k xs S):=by
 intro pins s σ H ρ S env I nb;dsimp only at nb ⊢;refine wpAny_Call_Name_kw (Yn I.inv hg hm hv ?_ hn hdb);cases q:g env S with
 | bad=>rw[q] at nb;exact absurd rfl nb
 | ex n S1=>exact PyProof.Rows.callWith_type1 (ha.ex I q fun x s' z=>⟨n,S1,rfl,z⟩) he hpl
 | ok ds S1 =>
  rw[q] at nb;refine PyProof.Rows.callWith_type1 (ha.ok I q fun us s1 vs H1 ρ1 I1 rv rd st1=>?_) he hpl
  exact wpAny_mono (hB pins s1 σ H1 ρ1 S1 env ds vs us (fun _ _=>False) I1 rd rv nb) (fun w s2 z=>z.pre st1) fun _ _ z=>z.elim
theorem X0s {u:Value} {d:D} (hg:Gl X x) (hm:X.mg x=some u) (hd:∀ ρ H,∃ v,RelV v u/\RD X.K ρ H d v) (hdb:(x==("__debug__" : Str))=false):DE X (.Name x p) (fun _ S=>.ok d S):=by
 intro pins s σ H ρ S env I nb;obtain⟨v,rv,rd⟩:=hd ρ H;exact Xdm I.inv hg hm (.mk .refl I.inv rv rd I.sr) hdb
theorem Xio {m:Mt} {name:Str} {apos cpos:Pos} {o:Expr} {fo:En->Sto->R D} (slot:Slot "list" name id) (hty:typeOf (.builtin id)=pure (.type "method_descriptor")) (hM:MtD X m id) (hr:∀ x S,Xdn m x S=true->∃ n xs,x=.ref n/\Xd S n=some xs) (ho:DE X o fo) (ha:DA X (e::es) g)
  (hbase:attributeBase o name X.env (eval o X.env)=eval o X.env)
  (hfew:((backTo cpos (starEach (e::es) X.env)).all (fun x=>!x.1)&&(backToKw cpos (keywordEach [] X.env)).all (fun x=>x.1.isSome)&&decide ((e::es).length+([]:List Keyword).length+(if ([]:List Keyword).isEmpty then 0 else 1)<30))=true)
  (hline:(apos.endLine==cpos.line)=true) (hs:starEach (e::es) X.env=(false,eval e X.env)::starEach es X.env) (hplain:(backTo cpos (starEach es X.env)).any (·.1)=false) :
  DE X (.Call (.Attribute o name apos) (e::es) [] cpos) (fun env S=>(fo env S).bind fun x S=>if Xdn m x S then (g env S).bind fun xs S=>Xa4 m x xs S else .bad):=by
 intro pins s σ H ρ S env I nb;dsimp only at nb ⊢;cases q:fo env S with
 | bad=>rw[q] at nb;exact absurd rfl nb
 | ex n S1=>exact wpAny_Call_method_late hbase hfew hline rfl (ho.ex I q fun x s' z=>⟨n,S1,rfl,z⟩)
 | ok x S1 =>
  rw[q] at nb;simp only[Rk0] at nb ⊢;split at nb
  ·rename_i hk
   rw[if_pos hk];obtain⟨n,xs,rfl,hx⟩:=hr x S1 hk;refine wpAny_Call_method_late hbase hfew hline rfl (ho.ok I q fun v s1 vx H1 ρ1 I1 rv rd st1=>?_)
   obtain⟨a,ws,rfl,k1,k2,k3⟩:=I1.lstR hx rd;cases rv;obtain⟨its,_,pl,_⟩:=I1.inv.list (.of k2);refine⟨"list",id,PySem.F.plainAttrs_list,slot,hty,pl.isList.typeIs,fun b eb=>?_,?_⟩
   ·cases eb
    obtain⟨ob,n',e1,c1,hd,_⟩:=pl;exact⟨ob,e1,hd⟩
   ·cases q2:g env S1 with
    | bad=>rw[q2] at nb;exact absurd rfl nb
    | ex k S2 =>
     have hA:=ha.ex (pos:=cpos) (E:=ExP X pins σ ρ H (.ex k S2:R D)) (Q:=fun us s2=>wpAny (model X.prog X.w) X.A (call (.builtin id) (.ref a::us)) (OkP X pins σ ρ H (.ex k S2)) (ExP X pins σ ρ H (.ex k S2:R D)) s2) I1 q2 fun x s' z=>.mk st1 z
     rw[hs] at hA ⊢;exact Calls.callWith_builtin (by show(false||(backTo cpos (starEach es X.env)).any (·.1))=false;rw[hplain];rfl) (Calls.evalArgs_plain hA)
    | ok ds S2 =>
     rw[q2] at nb;simp only[Rk0] at nb ⊢;have hA:=ha.ok (pos:=cpos) (E:=ExP X pins σ ρ H (Xa4 m (.ref n) ds S2)) (Q:=fun us s2=>wpAny (model X.prog X.w) X.A (call (.builtin id) (.ref a::us)) (OkP X pins σ ρ H (Xa4 m (.ref n) ds S2)) (ExP X pins σ ρ H (Xa4 m (.ref n) ds S2)) s2) I1 q2 fun us s2 vs H2 ρ2 I2 rvs rds st2 =>
      wpAny_mono (hM pins s2 σ H2 ρ2 S2 env (.ref n) (.ref a) (.ref a) ds vs us (fun _ _=>False) I2 (rd.mono st2) rfl rds rvs nb) (fun w s3 z=>z.pre (st1.trans st2)) fun _ _ z=>z.elim
     rw[hs] at hA ⊢;exact Calls.callWith_builtin (by show(false||(backTo cpos (starEach es X.env)).any (·.1))=false;rw[hplain];rfl) (Calls.evalArgs_plain hA)
  ·exact absurd rfl nb
end
end Z
end
section
namespace Z
open PySem PySem.Spec PyProof.Rows L2
section
variable{X:Cx}{pins:List (Addr×Obj)}{σ:L2.St}{H:Hp}{s:Shared}{ρ:List Addr}{S S':Sto}{env:En}
theorem Xip:∀ (ts:List Str) (k:Nat) (acc:Str),(textFrom k acc ts).length<=acc.length+piled ts
 | [],k,acc=>by simp[textFrom,piled]
 | t::ts,k,acc=>by
  have ih:=Xip ts (k+1) (acc++(if k>0 then ", " else "" : String)++t)
  have e:(Str.ofString (if k>0 then ", " else "")).length<=2:=by split<;>decide
  rw[textFrom,piled_cons];simp only[Str.length_append] at ih;omega
mutual
theorem Xiq:∀ p:PyData,p.showable=true->Xb7 p=true->p.shown.length<=szD p
 | .none,_,_=>by simp only[PyData.shown,szD];decide
 | .bool b,_,_=>by simp only[PyData.shown,szD];cases b<;>decide
 | .int i,h,_=>by
  simp only[PyData.showable,decide_eq_true_eq] at h;simp only[PyData.shown,szD];have:=int_text_length_le (by decide) h
  rw[PySem.ofString_length];omega
 | .str x,_,_=>by simp only[PyData.shown,szD];exact Nat.le_refl _
 | .list xs,h,h2=>by
  simp only[PyData.showable] at h;simp only[Xb7] at h2;have ih:=shownAll_le xs h h2;simp only[PyData.shown,szD,listText,Str.length_append];have:=Xip (PyData.shownAll xs) 0 "[";have e1:(Str.ofString "[").length=1:=by decide
  have e2:(Str.ofString "]").length=1:=by decide
  omega
 | .tuple xs,h,h2=>by
  simp only[PyData.showable] at h;simp only[Xb7] at h2;have ih:=shownAll_le xs h h2;simp only[PyData.shown,szD,tupleText,Str.length_append];have e1:(Str.ofString "(").length=1:=by decide
  have e2:(Str.ofString (if (PyData.shownAll xs).length==1 then ",)" else ")")).length<=2:=by split<;>decide
  have e3:(Str.join ", " (PyData.shownAll xs)).length<=piled (PyData.shownAll xs):=by
   cases e:PyData.shownAll xs with
   | nil=>decide
   | cons t ts=>have:=join_length_add (t::ts) (by simp);omega
  omega
 | .dict kvs,_,h2=>by
  simp only[Xb7] at h2;cases kvs with
  | nil=>simp only[PyData.shown,PyData.shownKv,szD];decide
  | cons x r=>cases h2
theorem shownAll_le:∀ ps:List PyData,PyData.showableAll ps=true->dctEs ps=true->piled (PyData.shownAll ps)<=szDs ps
 | [],_,_=>by simp[PyData.shownAll,szDs,piled]
 | p::ps,h,h2=>by
  simp only[PyData.showableAll,bA0] at h;simp only[dctEs,bA0] at h2;have i1:=Xiq p h.1 h2.1;have i2:=shownAll_le ps h.2 h2.2;rw[PyData.shownAll,piled_cons,szDs];omega
end
theorem Xxu(hsm:∃ o,X.K.lookup sysModules=some o)(hg:X.A.guards=some [])(hu:X.A.units+200<cLine):BlR X .repr (.builtin "repr"):=by
 intro pins s σ H ρ S env ds vs us E I rd rv nb
 match ds,rd,nb with
 | [],_,nb=>exact absurd rfl nb
 | d::_::_,_,nb=>cases d<;>exact absurd rfl nb
 | [d],rd,nb =>
  obtain⟨v,rfl,r1⟩:=rd.one;obtain⟨u,rfl,ru⟩:=rv.one;simp only[Xr] at nb ⊢;cases e:Xej S d with
  | none=>rw[e] at nb;exact absurd rfl nb
  | some t =>
   dsimp only;unfold Xej at e;cases e1:Yj S d with
   | none=>rw[e1] at e;cases e
   | some p =>
    rw[e1] at e;dsimp only at e;split at e
    ·rename_i hz
     simp only[bA0,decide_eq_true_eq] at hz;obtain⟨⟨⟨z1,z2⟩,z3⟩,z4⟩:=hz;cases e;obtain⟨as,rr,hoff⟩:=Xnj I hsm e1 r1 ru;have hsz:p.shown.length<=sizeLine:=Yh (Nat.le_trans (Xiq p z1 z2) z4);have ref:∀ a,u=.ref a->wpAny (model X.prog X.w) X.A (call (.builtin "repr") [u]) (OkP X pins σ ρ H (.ok (.str p.shown) S)) E s:=fun a ea=>by
      subst ea;exact repr_of_reads' rr z1 (fun _=>hoff) hg (by omega) (fun _ _ q=>q) (fun h' u tk hk=>Xdo I.sr (I.inv.kept hk)) hsz
     cases rr with
     | none=>exact PySem.P.repr_of_none (Xdo I.sr (I.inv.tok _))
     | bool b=>exact PySem.P.repr_of_bool (by cases b<;>exact Xdo I.sr (I.inv.tok _))
     | int i t=>exact PySem.P.repr_of_int (by simpa only[PyData.showable,decide_eq_true_eq] using z1) (Xdo I.sr (I.inv.tok _))
     | str x t=>exact PySem.P.repr_of_str (Xdo I.sr (I.inv.tok _)) hsz
     | _=>exact ref _ rfl
    ·cases e
theorem X0t:BlR X .int (.type "int"):=by
 intro pins s σ H ρ S env ds vs us E I rd rv nb
 match ds,rd,nb with
 | [],_,nb=>exact absurd rfl nb
 | d::_::_,_,nb=>cases d<;>exact absurd rfl nb
 | [d],rd,nb =>
  obtain⟨v,rfl,r1⟩:=rd.one;obtain⟨u,rfl,ru⟩:=rv.one;cases d with
  | bl b =>
   simp only[RD] at r1;subst r1;cases ru;simp only[Xr];refine call_int_bool ?_;cases b<;>exact Ys I.sr (I.inv.tok _)
  | _=>exact absurd rfl nb
theorem Xb2:∀ {ns:List Int} {us:List Value},IntsAre us ns->Vals (ns.map V.int) us
 | [],_,.nil=>.nil
 | _::ns,_,.cons n k t=>.cons ⟨_,rfl⟩ (Xb2 t)
theorem Xir:∀ {bs:List Bool} {us:List Value},Vals (bs.map V.bl) us->us=bs.map Value.bool
 | [],_,.nil=>rfl
 | b::bs,_,.cons r t=>by cases r;rw[Xir t];rfl
theorem Xkf{K:PySem.W.Frag}{ρ:List Addr}{H:Hp}:∀ {bs:List Bool} {ws:List V},RDs K ρ H (bs.map D.bl) ws->ws=bs.map V.bl
 | [],ws,h=>by simp only[List.map,RDs] at h;exact h
 | b::bs,ws,h=>by
  simp only[List.map,RDs] at h;obtain⟨v,r,rfl,h1,h2⟩:=h;simp only[RD] at h1;subst h1;rw[Xkf h2];rfl
theorem Xnz(I:S0 X pins σ H s ρ S env){n:Nat}{xs:List D}{bs:List Bool}{v:V}(h:Xd S n=some xs)(hb:X0 xs=some bs)(r:RD X.K ρ H (.ref n) v):∃ a k,v=.ref a/\s.heap.get? a=some { cls:=.type "list",data:=.seq (bs.map Value.bool).toArray k }:=by
 obtain⟨a,ws,rfl,ha,hv,hr⟩:=I.lstR h r;obtain⟨_,its,k,rv,e⟩:=(show ObjOk X.prog X.w H s.heap a (.lst ws) from I.inv.hok a _ hv);have e1:=Xbc hb;subst e1;have e2:=Xkf hr;subst e2;rw[Xir rv] at e;exact⟨a,k,rfl,e⟩
theorem Xn0{k:Mt}(hk:k=.count\/k=.index){d:D}{ds:List D}{S:Sto}(nb:Xa4 k d ds S≠.bad):∃ n b,d=.ref n/\ds=[.bl b]:=by
 rcases hk with rfl|rfl<;>(
  cases d with
  | ref n =>
   cases ds with
   | nil=>exact absurd rfl nb
   | cons x r =>
    cases r with
    | nil =>
     cases x with
     | bl b=>exact⟨n,b,rfl,rfl⟩
     | _=>exact absurd rfl nb
    | cons _ _=>cases x<;>exact absurd rfl nb
  | _=>cases ds<;>exact absurd rfl nb)
theorem Xt1:MtD X .count "list.count" := by
 intro pins s σ H ρ S env d v u ds vs us E I rd rv rds rvs nb;obtain⟨n,b,rfl,rfl⟩:=Xn0 (.inl rfl) nb;obtain⟨y,rfl,r1⟩:=rds.one;simp only[RD] at r1;subst r1;obtain⟨w,rfl,rw1⟩:=rvs.one;cases rw1;simp only[Xa4] at nb ⊢;cases e:Xd S n with
 | none=>rw[e] at nb;exact absurd rfl nb
 | some xs =>
  rw[e] at nb;simp only[Option.bind_some] at nb ⊢;cases e2:X0 xs with
  | none=>rw[e2] at nb;exact absurd rfl nb
  | some bs =>
   dsimp only;obtain⟨a,k,rfl,ha⟩:=Xnz I e e2 rd;cases rv;refine call_meets PySem.F.slot_list_count ⟨_,ha,rfl⟩ PySem.F.entry_list_count (PySem.F.args_list_count_2 _ _) (SeqAt.list_countAt a _ k none #[] (.bool b) fun y=>match y with | .bool c=>c==b|_=>false) ⟨ha,fun y hy=>?_,?_⟩
   ·have hy':y∈bs.map Value.bool:=by simpa using hy
    obtain⟨c,_,rfl⟩:=List.mem_map.mp hy';exact SeqAt.EqAt.bool_bool c b
   ·have ec:(bs.map Value.bool).countP (fun y=>match y with | .bool c=>c==b|_=>false)=bs.countP (· == b):=by rw[List.countP_map];rfl
    simp only[List.toList_toArray] at *;rw[ec];exact Ys I.sr (I.inv.tok _)
theorem Xt2:MtD X .index "list.index" := by
 intro pins s σ H ρ S env d v u ds vs us E I rd rv rds rvs nb;obtain⟨n,b,rfl,rfl⟩:=Xn0 (.inr rfl) nb;obtain⟨y,rfl,r1⟩:=rds.one;simp only[RD] at r1;subst r1;obtain⟨w,rfl,rw1⟩:=rvs.one;cases rw1;simp only[Xa4] at nb ⊢;cases e:Xd S n with
 | none=>rw[e] at nb;exact absurd rfl nb
 | some xs =>
  rw[e] at nb;simp only[Option.bind_some] at nb ⊢;cases e2:X0 xs with
  | none=>rw[e2] at nb;exact absurd rfl nb
  | some bs =>
   rw[e2] at nb;dsimp only at nb ⊢;cases e3:bs.findIdx? (· == b) with
   | none=>rw[e3] at nb;exact absurd rfl nb
   | some i =>
    dsimp only;obtain⟨a,k,rfl,ha⟩:=Xnz I e e2 rd;cases rv;obtain⟨hi,h1,h2⟩:=List.findIdx?_eq_some_iff_getElem.mp e3;have hsz:bs.length<=sizeLine:=by
     obtain⟨a',ws,_,_,hv,hr⟩:=I.lstR e rd;obtain⟨z,_⟩:=(show ObjOk X.prog X.w H s.heap a' (.lst ws) from I.inv.hok a' _ hv);rw[<- hr.length,Xbc e2,List.length_map] at z;exact z
    have hsm:(i:Int)<2^63-1:=by
     have:sizeLine<2^62:=by decide
     have e62:(2:Int)^63-1=9223372036854775807:=by decide
     have e63:(2:Nat)^62=4611686018427387904:=by decide
     omega
    refine call_meets PySem.F.slot_list_index ⟨_,ha,rfl⟩ PySem.F.entry_list_index (PySem.F.args_list_index_2 _ _) (SeqAt.list_indexAt a (bs.map Value.bool).toArray k none #[] (.bool b) (fun y=>match y with | .bool c=>c==b|_=>false) i (by simpa using hi) hsm (by simpa using h1) fun m hm hlt=>?_) ⟨ha,fun y hy=>?_,Ys I.sr (I.inv.tok _)⟩
    ·have:=h2 m hlt
     simpa using this
    ·have hy':y∈bs.map Value.bool:=by simpa using hy
     obtain⟨c,_,rfl⟩:=List.mem_map.mp hy';exact SeqAt.EqAt.bool_bool c b
end
end Z
end
section
namespace Z
open PySem PySem.Spec PyProof.Rows L2
section
variable{prog:Program}{w:World}{A:Around}{E:Value->Shared->Prop}{s:Shared}{k:Bool}{e it a:Addr}{n:Nat}{xs:Array Value}{x:Value}
end
section
variable{X:Cx}{pins:List (Addr×Obj)}{σ:L2.St}{ρ:List Addr}{S:Sto}
structure Lnm(X:Cx)(pins:List (Addr×Obj))(σ:L2.St)(ρ:List Addr)(S:Sto)(H:Hp)(s:Shared)(k:Bool)(e it a:Addr)(xs:List D)(ws:List V):Prop where
 inv:Inv X pins σ H s
 fp:∀ b∈[e,it],Y9 X pins H b
 en:EnA s.heap e it 0
 io:ItK k s.heap it a 0
 sq:SqH k X.K H a ws
 sr:SR X.K ρ S H
 rd:RDs X.K ρ H xs ws
 ln:ws.length<=sizeLine
 ne:e≠it
end
end Z
end
section
namespace Z
open PySem PySem.Spec PyProof.Rows L2
noncomputable def Xll(sc:Scope)(x:Str):Bool:=match sc.names.lookup x with
 | some .local=>true
 | some .cell=>true
 | some .free=>true
 | _=>false
noncomputable def glB(sc:Scope)(x:Str):Bool:=match sc.names.lookup x with
 | some .globalImplicit=>true
 | _=>false
noncomputable def Xek(top:Bool)(sc:Scope)(x:Str):Bool:=match sc.names.lookup x with
 | some .local=>true
 | some .cell=>top
 | _=>false
noncomputable def Yt(x:Str):Bool:=!(x==("__debug__" : Str)) && !(x==("__classdict__" : Str)) && !decide (x = "__name__")
theorem Xt3{sc:Scope}{x:Str}(h:Xll sc x=true):Vis sc x:=by
 unfold Xll at h;split at h
 ·exact .inl (by assumption)
 ·exact .inr (.inl (by assumption))
 ·exact .inr (.inr (by assumption))
 ·cases h
theorem Y3{X:Cx}{sc:Scope}{x:Str}(hs:X.env.scope=sc)(h:glB sc x=true):Gl X x:=by
 subst hs;unfold glB at h;split at h
 ·assumption
 ·cases h
theorem Xcc{X:Cx}{top:Bool}{sc:Scope}{x:Str}(hs:X.env.scope=sc)(ht:top=true->∀ x,X.fn x=true)(h:Xek top sc x=true):Loc X.env.scope x/\(X.fn x=true\/X.env.scope.names.lookup x=some .local):=by
 subst hs;unfold Xek at h;split at h
 ·exact⟨.inl (by assumption),.inr (by assumption)⟩
 ·exact⟨.inr (by assumption),.inl (ht h x)⟩
 ·cases h
theorem Xak{x:Str}(h:Yt x=true):(x==("__debug__" : Str))=false/\(x==("__classdict__" : Str))=false/\x ≠ "__name__" := by
 simp only[Yt,bA0,Bool.not_eq_true',decide_eq_false_iff_not] at h;exact⟨h.1.1,h.1.2,h.2⟩
noncomputable def Yp:Expr->Bool
 | .Starred _ _=>false
 | _=>true
theorem Xp{e:Expr}{es:List Expr}{env:PySem.Env}(h:Yp e=true):starEach (e::es) env=(false,eval e env)::starEach es env:=by
 cases e<;>first|rfl|cases h
theorem Yz{es:List Expr}{env:PySem.Env}{pos:Pos}(h:es.all Yp=true):(backTo pos (starEach es env)).any (·.1)=false:=by
 induction es with
 | nil=>rfl
 | cons e es ih =>
  rw[List.all_cons,bA0] at h;rw[Xp h.1];show(false||(backTo pos (starEach es env)).any (·.1))=false;rw[ih h.2];rfl
theorem Xqb{es:List Expr}{env:PySem.Env}{pos:Pos}(h:es.all Yp=true):(backTo pos (starEach es env)).all (fun x=>!x.1)=true:=by
 induction es with
 | nil=>rfl
 | cons e es ih =>
  rw[List.all_cons,bA0] at h;rw[Xp h.1];show(true&&(backTo pos (starEach es env)).all (fun x=>!x.1))=true
  rw[ih h.2];rfl
noncomputable def Xcd:Expr->Bool
 | .Name _ _=>true
 | .Constant _ _ _=>true
 | .BinOp _ _ _ _=>true
 | .UnaryOp _ _ _=>true
 | .Call _ _ _ _=>true
 | .Subscript _ _ _=>true
 | .IfExp _ _ _ _=>true
 | .Compare _ _ _ _=>true
 | _=>false
theorem Xlm{b:Expr}(h:Xcd b=true):Xft b:=by
 cases b<;>first|(intro o i;rfl)|cases h
noncomputable def Xaz:Expr->Bool
 | .Set _ _ _=>false
 | _=>true
theorem Xcx{e:Expr}{env:PySem.Env}(h:Xaz e=true)(x:Value):foldedSetIterable e env x=pure x:=by
 cases e<;>first|rfl|cases h
noncomputable def Xln:Expr->Bool
 | .Name _ _=>true
 | .Constant _ _ _=>true
 | _=>false
theorem Xfy{o:Expr}{name:Str}{env:PySem.Env}(h:Xln o=true):attributeBase o name env (eval o env)=eval o env:=by
 cases o<;>first|rfl|cases h
noncomputable def Xlo(c:Co)(o:CmpOp):Bool:=decide (o=opC c)
theorem Xfz{c:Co}{o:CmpOp}(h:Xlo c o=true):o=opC c:=of_decide_eq_true h
noncomputable def Xlp(c:Bo)(o:Operator):Bool:=decide (o=opB c)
theorem Xkg{c:Bo}{o:Operator}(h:Xlp c o=true):o=opB c:=of_decide_eq_true h
noncomputable def Xf0:D->Const->Bool
 | .int i,.int j=>i==j
 | .bl i,.bool j=>i==j
 | .non,.none=>true
 | .str i,.str j=>decide (i=j)
 | _,_=>false
noncomputable def Xlq:Bl->Option (Str×Bool×String)
 | .len=>some ("len",true,"len")
 | .tuple=>some ("tuple",false,"tuple")
 | .list=>some ("list",false,"list")
 | .all=>some ("all",true,"all")
 | .sum=>some ("sum",true,"sum")
 | .max=>some ("max",true,"max")
 | .min=>some ("min",true,"min")
 | .repr=>some ("repr",true,"repr")
 | .int=>some ("int",false,"int")
 | _=>none
noncomputable def Xlr:Bl->Bool
 | .len=>true
 | .tuple=>true
 | .list=>true
 | .repr=>true
 | .int=>true
 | _=>false
noncomputable def Xxv:Tg->Bool
 | .var _=>true
 | _=>false
noncomputable def tyB(sc:Scope)(t:Ty)(nm:Str):Bool:=match t with
 | .cls c=>decide (Xbb c=some nm)
 | .int=>decide (nm = "int")
 | .bool=>decide (nm = "bool")
 | .str=>decide (nm = "str")
 | .tuple=>decide (nm = "tuple")
 | .list=>decide (nm = "list")
 | .dict=>decide (nm = "dict")
 | .valueError=>decide (nm = "ValueError")
noncomputable def Xis:Ty->Bool
 | .cls _=>false
 | .valueError=>false
 | _=>true
noncomputable def tyM(sc:Scope)(ts:List Ty)(y:Expr):Bool:=match y with
 | .Name nm _=>glB sc nm&&Yt nm&&(match ts with|[t]=>tyB sc t nm|_=>false)
 | .Tuple ys _ _=>(match ys with
  | [.Name n1 _,.Name n2 _]=>glB sc n1&&Yt n1&&glB sc n2&&Yt n2&&(match ts with|[t1,t2]=>Xis t1&&Xis t2&&tyB sc t1 n1&&tyB sc t2 n2|_=>false)
  | _=>false)
 | _=>false
noncomputable def X2d:Mt->Option Str
 | .append=>some "append"
 | .count=>some "count"
 | .index=>some "index"
 | _=>none
noncomputable def Xel(scope sc:Scope):Scope:={ scope with names:=scope.names.map fun(n,k)=>if (k == .free&&sc.kind == .function&&sc.names.lookup n==some .cell) then (n,.cell) else (n,k) }
noncomputable def Xab(scope:Scope):List Str:=scope.names.filterMap fun x=>match x.2 with
 | .local=>some x.1
 | _=>none
noncomputable def isFn(k:ScopeKind):Bool:=match k with
 | .function=>true
 | _=>false
theorem Xf1{k:ScopeKind}(h:isFn k=true):k=.function:=by cases k<;>first|rfl|cases h
noncomputable def Xn1(k:Option NameKind):Bool:=match k with
 | some .cell=>true
 | some .free=>true
 | _=>false
noncomputable def Xt4(k:NameKind):Bool:=match k with
 | .cell=>false
 | _=>true
noncomputable def Xcy(k:Option NameKind):Bool:=match k with
 | some .local=>true
 | _=>false
noncomputable def Xc9:List Str->Bool
 | []=>true
 | x::r=>!(r.contains x)&&Xc9 r
theorem Xda:∀ {l:List Str},Xc9 l=true->l.Nodup
 | [],_=>List.nodup_nil
 | x::r,h=>by
  simp only[Xc9,bA0,Bool.not_eq_true',List.contains_eq_mem] at h;exact List.nodup_cons.mpr ⟨by simpa using h.1,Xda h.2⟩
noncomputable def scB(outer sc:Scope)(N:List Str):Bool :=
 isFn sc.kind&&isFn outer.kind&&Xc9 (Xar N (Xab sc))&&sc.names.all (fun y=>Xt4 y.2) &&
 sc.names.all (fun y=>match y.2 with | .free=>Xn1 (outer.names.lookup y.1) | .local=>Xcy (sc.names.lookup y.1)|_=>true) &&
 N.all (fun y=>!((Xab sc).contains y)||(sc.names.lookup (Str.ofString "0" ++ y)).isNone)
theorem Xn2{outer sc:Scope}{N:List Str}(h:scB outer sc N=true):ScOk outer sc N (Xab sc):=by
 simp only[scB,bA0] at h;obtain⟨⟨⟨⟨⟨h1,h2⟩,h3⟩,h4⟩,h5⟩,h6⟩:=h;have hloc:∀ x∈sc.names,x.2=.local->sc.names.lookup x.1=some .local:=fun x hx hl=>by
  have:=List.all_eq_true.mp h5 x hx;rw[hl] at this;dsimp only at this;unfold Xcy at this;split at this
  ·assumption
  ·cases this
 refine⟨Xf1 h1,Xf1 h2,Xda h3,fun y hy hk=>?_,fun y hy hf=>?_,fun y hy=>?_,fun y hy=>?_,hloc,fun y hy hc=>?_⟩
 ·have:=List.all_eq_true.mp h4 y hy
  rw[hk] at this;cases this
 ·have:=List.all_eq_true.mp h5 y hy
  rw[hf] at this;dsimp only at this;unfold Xn1 at this;split at this
  ·exact .inl (by assumption)
  ·exact .inr (by assumption)
  ·cases this
 ·exact List.mem_filterMap.mpr ⟨(y,.local),Xaj hy,rfl⟩
 ·obtain⟨x,hx,e⟩:=List.mem_filterMap.mp hy
  obtain⟨n,k⟩:=x;cases k with
  | «local» =>
   have e':n=y:=Option.some.inj e;subst e';exact hloc (n,.local) hx rfl
  | _=>cases e
 ·have:=List.all_eq_true.mp h6 y hy
  rw[hc] at this;simp only[Bool.not_true,Bool.false_or,Option.isNone_iff_eq_none] at this;exact this
noncomputable def Xls:It->Bool
 | .zpp _=>true
 | .enm _=>true
 | .ezp _=>true
 | _=>false
noncomputable def Xcz(t:Tg)(it:It):Bool:=!Xls it || !Xxv t
noncomputable def Xqc:Expr->Bool
 | .Name _ _=>true
 | .Subscript _ _ _=>true
 | _=>false
noncomputable def mnC(i:Int)(e:Expr):Bool:=match e with
 | .UnaryOp .USub x _=>(match x with
  | .Constant (.int j) _ _=>i==j
  | _=>false)
 | _=>false
noncomputable def Xf2(i:Int)(l:Option Int)(e:Expr):Bool:=match e with
 | .Slice lo none (some st) _=>mnC i st&&(match l,lo with
  | none,none=>true
  | some k,some x=>mnC k x
  | _,_=>false)
 | _=>false
theorem Xc{α:Type}{o:Option α}{p:α->Bool}(h:o.any p=true):∃ x,o=some x/\p x=true:=by
 cases o with
 | none=>cases h
 | some x=>exact⟨x,rfl,h⟩
noncomputable def vNm(e:Expr):Option Str:=match e with
 | .Name x _=>some x
 | _=>none
theorem Xan{e:Expr}{x:Str}(h:vNm e=some x):∃ p,e=.Name x p:=by
 unfold vNm at h;split at h
 ·cases h;exact⟨_,rfl⟩
 ·cases h
noncomputable def Xqd(e:Expr):Option Const:=match e with
 | .Constant c _ _=>some c
 | _=>none
theorem Xt5{e:Expr}{x:Const}(h:Xqd e=some x):∃ k p,e=.Constant x k p:=by
 unfold Xqd at h;split at h
 ·cases h;exact⟨_,_,rfl⟩
 ·cases h
noncomputable def vUn(e:Expr):Option (UnaryOp×Expr):=match e with
 | .UnaryOp o x _=>some (o,x)
 | _=>none
theorem Xn3{e:Expr}{z:UnaryOp×Expr}(h:vUn e=some z):∃ p,e=.UnaryOp z.1 z.2 p:=by
 unfold vUn at h;split at h
 ·cases h;exact⟨_,rfl⟩
 ·cases h
noncomputable def Xxw(o:UnaryOp):Bool:=decide (o=.USub)
theorem Xt6{o:UnaryOp}(h:Xxw o=true):o=.USub:=of_decide_eq_true h
noncomputable def Xxx(o:UnaryOp):Bool:=decide (o=.Not)
theorem Xt7{o:UnaryOp}(h:Xxx o=true):o=.Not:=of_decide_eq_true h
noncomputable def Xdb(e:Expr):Option (List Expr):=match e with
 | .Tuple xs _ _=>some xs
 | _=>none
theorem Xal{e:Expr}{x:List Expr}(h:Xdb e=some x):∃ k p,e=.Tuple x k p:=by
 unfold Xdb at h;split at h
 ·cases h;exact⟨_,_,rfl⟩
 ·cases h
noncomputable def Xqe(e:Expr):Option (List Expr):=match e with
 | .List xs _=>some xs
 | _=>none
theorem Xt8{e:Expr}{x:List Expr}(h:Xqe e=some x):∃ p,e=.List x p:=by
 unfold Xqe at h;split at h
 ·cases h;exact⟨_,rfl⟩
 ·cases h
noncomputable def Xqf(e:Expr):Option (Expr×Operator×Expr):=match e with
 | .BinOp x o y _=>some (x,o,y)
 | _=>none
theorem Xt9{e:Expr}{z:Expr×Operator×Expr}(h:Xqf e=some z):∃ p,e=.BinOp z.1 z.2.1 z.2.2 p:=by
 unfold Xqf at h;split at h
 ·cases h;exact⟨_,rfl⟩
 ·cases h
noncomputable def Xqg{α:Type}(l:List α):Option (α×α):=match l with
 | [x,y]=>some (x,y)
 | _=>none
theorem Xua{α:Type}{l:List α}{z:α×α}(h:Xqg l=some z):l=[z.1,z.2]:=by
 unfold Xqg at h;split at h
 ·cases h;rfl
 ·cases h
noncomputable def Xc0{α:Type}(l:List α):Option α:=match l with
 | [x]=>some x
 | _=>none
theorem Xa6{α:Type}{l:List α}{x:α}(h:Xc0 l=some x):l=[x]:=by
 unfold Xc0 at h;split at h
 ·cases h;rfl
 ·cases h
noncomputable def Xem{α:Type}(l:List α):Option (α×α):=match l with
 | [x,y]=>some (x,y)
 | _=>none
theorem Xce{α:Type}{l:List α}{z:α×α}(h:Xem l=some z):l=[z.1,z.2]:=by
 unfold Xem at h;split at h
 ·cases h;rfl
 ·cases h
noncomputable def Xlt(e:Expr):Option (Expr×List CmpOp×List Expr):=match e with
 | .Compare x os ys _=>some (x,os,ys)
 | _=>none
theorem Xkh{e:Expr}{z:Expr×List CmpOp×List Expr}(h:Xlt e=some z):∃ p,e=.Compare z.1 z.2.1 z.2.2 p:=by
 unfold Xlt at h;split at h
 ·cases h;exact⟨_,rfl⟩
 ·cases h
noncomputable def Xit(e:Expr):Option (BoolOp×List Expr×Pos):=match e with
 | .BoolOp o xs p=>some (o,xs,p)
 | _=>none
theorem Xub{e:Expr}{z:BoolOp×List Expr×Pos}(h:Xit e=some z):e=.BoolOp z.1 z.2.1 z.2.2:=by
 unfold Xit at h;split at h
 ·cases h;rfl
 ·cases h
noncomputable def opA(an:Bool):BoolOp:=if an then .And else .Or
noncomputable def Xlu(an:Bool)(o:BoolOp):Bool:=decide (o=opA an)
theorem Xuc{an:Bool}{o:BoolOp}(h:Xlu an o=true):o=opA an:=of_decide_eq_true h
noncomputable def Xiu(an:Bool)(p:Pos)(l:List Expr):Option (Expr×Expr):=match l with
 | [x,y]=>some (x,y)
 | x::y::z::r=>some (x,.BoolOp (opA an) (y::z::r) p)
 | _=>none
theorem Xud{an:Bool}{p:Pos}{l:List Expr}{z:Expr×Expr}(h:Xiu an p l=some z):l=[z.1,z.2]\/∃ y y2 r,l=z.1::y::y2::r/\z.2=.BoolOp (opA an) (y::y2::r) p:=by
 unfold Xiu at h;split at h
 ·cases h;exact .inl rfl
 ·cases h;exact .inr ⟨_,_,_,rfl,rfl⟩
 ·cases h
noncomputable def vIf(e:Expr):Option (Expr×Expr×Expr):=match e with
 | .IfExp x y z _=>some (x,y,z)
 | _=>none
theorem Xxy{e:Expr}{z:Expr×Expr×Expr}(h:vIf e=some z):∃ p,e=.IfExp z.1 z.2.1 z.2.2 p:=by
 unfold vIf at h;split at h
 ·cases h;exact⟨_,rfl⟩
 ·cases h
noncomputable def Xen(e:Expr):Option (Expr×Expr):=match e with
 | .Subscript x y _=>some (x,y)
 | _=>none
theorem Xcf{e:Expr}{z:Expr×Expr}(h:Xen e=some z):∃ p,e=.Subscript z.1 z.2 p:=by
 unfold Xen at h;split at h
 ·cases h;exact⟨_,rfl⟩
 ·cases h
noncomputable def Xqh(e:Expr):Option (Option Expr×Option Expr):=match e with
 | .Slice l h none _=>some (l,h)
 | _=>none
theorem Xue{e:Expr}{z:Option Expr×Option Expr}(h:Xqh e=some z):∃ p,e=.Slice z.1 z.2 none p:=by
 unfold Xqh at h;split at h
 ·cases h;exact⟨_,rfl⟩
 ·cases h
noncomputable def Xas(e:Expr):Option (Expr×Expr×List Expr×Pos):=match e with
 | .Call f (y::ys) [] p=>some (f,y,ys,p)
 | _=>none
theorem Xf3{e:Expr}{z:Expr×Expr×List Expr×Pos}(h:Xas e=some z):e=.Call z.1 (z.2.1::z.2.2.1) [] z.2.2.2:=by
 unfold Xas at h;split at h
 ·cases h;rfl
 ·cases h
noncomputable def Xlv(e:Expr):Option (Expr×Str×Pos):=match e with
 | .Attribute o nm p=>some (o,nm,p)
 | _=>none
theorem Xuf{e:Expr}{z:Expr×Str×Pos}(h:Xlv e=some z):e=.Attribute z.1 z.2.1 z.2.2:=by
 unfold Xlv at h;split at h
 ·cases h;rfl
 ·cases h
noncomputable def vLC(e:Expr):Option (Expr×List Comprehension×Scope):=match e with
 | .ListComp e gens scope _=>some (e,gens,scope)
 | _=>none
theorem Xxz{e:Expr}{z:Expr×List Comprehension×Scope}(h:vLC e=some z):∃ p,e=.ListComp z.1 z.2.1 z.2.2 p:=by
 unfold vLC at h;split at h
 ·cases h;exact⟨_,rfl⟩
 ·cases h
section
variable(cm:Bool)(fns:List (Str×Nat×Bool))(gns:List Str)
noncomputable def mtT(top:Bool)(sc:Scope)(N:List Str):Tg->Expr->Bool
 | .var i,e=>(vNm e).any fun x=>decide (N[i]?=some x)&&Xek top sc x
 | .tup is,e=>(Xdb e).any fun es=>namesB is es
 | .nst i is,e=>(Xdb e).any fun es=>(Xqg es).any fun z=>((vNm z.1).any fun x=>decide (N[i]?=some x)&&Xek top sc x)&&(Xdb z.2).any fun es=>namesB is es
where namesB:List Nat->List Expr->Bool
 | [],[]=>true
 | i::is,e::es=>((vNm e).any fun x=>decide (N[i]?=some x)&&Xek top sc x)&&namesB is es
 | _,_=>false
noncomputable def fnB(f:Nat)(x:Str)(n:Nat):Bool:=match fns[f]? with
 | some (nm,ar,fl)=>decide (nm=x)&&decide (ar=n)&&(cm || !fl)
 | none=>false
noncomputable def blB(k:Bl)(x:Str):Bool:=match Xlq k with
 | some (nm,_,_)=>decide (x=nm)
 | none=>false
noncomputable def mtB(k:Mt)(nm:Str):Bool:=match X2d k with
 | some m=>decide (nm=m)
 | none=>false
mutual
noncomputable def mt(sc:Scope)(N:List Str):Ex->Expr->Bool
 | .nev,_=>true
 | .var i,e=>(vNm e).any fun x=>decide (N[i]?=some x)&&Xll sc x&&Yt x
 | .cst d,e=>(Xqd e).any fun c=>Xf0 d c
 | .neg a,e=>(vUn e).any fun z=>Xxw z.1&&mt sc N a z.2
 | .glb k,e=>(vNm e).any fun x=>decide (gns[k]?=some x)&&glB sc x&&Yt x
 | .tup es,e=>(Xdb e).any fun xs=>mts sc N es xs
 | .lst es,e=>(Xqe e).any fun xs=>mts sc N es xs
 | .isi a ts,e=>(Xas e).any fun z=>(vNm z.1).any fun(f:Str)=>decide (f = "isinstance")&&glB sc f&&Yp z.2.1&&mt sc N a z.2.1&&(Xc0 z.2.2.1).any fun y=>tyM sc ts y
 | .bin op a b,e=>(Xqf e).any fun z=>Xlp op z.2.1&&mt sc N a z.1&&mt sc N b z.2.2
 | .cmp op a b,e=>(Xlt e).any fun z=>(Xc0 z.2.1).any fun o=>(Xc0 z.2.2).any fun y=>Xlo op o && !(behindInMarks (opC op) y)&&mt sc N a z.1&&mt sc N b y
 | .chn o1 o2 a b c,e=>(Xlt e).any fun z=>(Xem z.2.1).any fun o=>(Xem z.2.2).any fun y=>Xlo o1 o.1&&Xlo o2 o.2 && !(lastMarks [opC o1,opC o2] [y.1,y.2])&&mt sc N a z.1&&mt sc N b y.1&&mt sc N c y.2
 | .and a b,e=>(Xit e).any fun z=>Xlu true z.1&&(Xiu true z.2.2 z.2.1).any fun y=>mt sc N a y.1&&mt sc N b y.2
 | .or a b,e=>(Xit e).any fun z=>Xlu false z.1&&(Xiu false z.2.2 z.2.1).any fun y=>mt sc N a y.1&&mt sc N b y.2
 | .not a,e=>(vUn e).any fun z=>Xxx z.1&&mt sc N a z.2
 | .ite c a b,e=>(vIf e).any fun z=>mt sc N c z.1&&mt sc N a z.2.1&&mt sc N b z.2.2
 | .idx a i,e=>(Xen e).any fun z=>Xcd z.2&&mt sc N a z.1&&mt sc N i z.2
 | .call f es,e=>(Xas e).any fun z=>(vNm z.1).any fun x=>fnB cm fns f x (z.2.1::z.2.2.1).length&&glB sc x&&Yt x&&mts sc N es (z.2.1::z.2.2.1)
 | .blt k es,e=>(Xas e).any fun z=>(vNm z.1).any fun x=>blB k x&&(cm||Xlr k)&&glB sc x&&Yt x&&mts sc N es (z.2.1::z.2.2.1)
 | .mth k o es,e=>(Xas e).any fun z=>(Xlv z.1).any fun x=>mtB k x.2.1&&Xln x.1&&(x.2.2.endLine==z.2.2.2.line)&&decide ((z.2.1::z.2.2.1).length<29)&&mt sc N o x.1&&mts sc N es (z.2.1::z.2.2.1)
 | .cmr k n gs elt,e=>(vLC e).any fun z=>cm && !k&&decide ((Xab z.2.2).length=n)&&scB sc z.2.2 N&&mtG sc N (Xel z.2.2 sc) (Xar N (Xab z.2.2)) gs z.2.1&&mt (Xel z.2.2 sc) (Xar N (Xab z.2.2)) elt z.1
 | .sli a lo hi,e=>(Xen e).any fun z=>(Xqh z.2).any fun y=>mt sc N a z.1&&mto sc N lo y.1&&mto sc N hi y.2
 | .cal f es,e=>(Xas e).any fun z=>cm&&Xqc z.1&&mt sc N f z.1&&mts sc N es (z.2.1::z.2.2.1)
 | .rev a,e=>(Xen e).any fun z=>Xf2 1 none z.2&&mt sc N a z.1
 | .rv2 k a,e=>(Xen e).any fun z=>Xf2 2 (if k then some 2 else none) z.2&&mt sc N a z.1
noncomputable def mto(sc:Scope)(N:List Str):Op->Option Expr->Bool
 | .none,none=>true
 | .some e,some x=>mt sc N e x
 | _,_=>false
noncomputable def mts(sc:Scope)(N:List Str):Exs->List Expr->Bool
 | .nil,[]=>true
 | .cons e es,x::xs=>Yp x&&mt sc N e x&&mts sc N es xs
 | _,_=>false
noncomputable def mtG(sc:Scope)(N:List Str)(sc2:Scope)(N2:List Str):Gens->List Comprehension->Bool
 | .cons t it ifs .nil,[⟨tg,iter,cs,a⟩]=>(a==0)&&Xaz iter&&mtT false sc2 N2 t tg&&mtI sc N it iter&&mts sc2 N2 ifs cs&&Xcz t it
 | .cons t it ifs (.cons t2 it2 ifs2 .nil),[⟨tg,iter,cs,a⟩,⟨tg2,iter2,cs2,a2⟩]=>(a==0)&&(a2==0)&&Xaz iter&&Xaz iter2&&mtT false sc2 N2 t tg&&mtI sc N it iter&&mts sc2 N2 ifs cs&&mtT false sc2 N2 t2 tg2&&mtI sc2 N2 it2 iter2&&mts sc2 N2 ifs2 cs2&&Xcz t it&&Xcz t2 it2
 | _,_=>false
noncomputable def mtI(sc:Scope)(N:List Str):It->Expr->Bool
 | .val e,x=>mt sc N e x
 | .rng es,e=>(Xas e).any fun z=>(vNm z.1).any fun(x:Str)=>decide (x = "range")&&glB sc x&&mts sc N es (z.2.1::z.2.2.1)
 | .zpp es,e=>(Xas e).any fun z=>(vNm z.1).any fun(x:Str)=>decide (x = "zip")&&glB sc x&&mts sc N es (z.2.1::z.2.2.1)
 | .enm es,e=>(Xas e).any fun z=>(vNm z.1).any fun(x:Str)=>decide (x = "enumerate")&&glB sc x&&mts sc N es (z.2.1::z.2.2.1)
 | .ezp es,e=>(Xas e).any fun z=>(vNm z.1).any fun(x:Str)=>decide (x = "enumerate")&&glB sc x&&z.2.2.1.isEmpty&&(Xas z.2.1).any fun z=>(vNm z.1).any fun(x:Str)=>decide (x = "zip")&&glB sc x&&mts sc N es (z.2.1::z.2.2.1)
end
end
section
variable{cm:Bool}{fns:List (Str×Nat×Bool)}{gns:List Str}{sc sc2:Scope}{N N2:List Str}{t t2:Tg}{it it2:It}{ifs ifs2:Exs}
theorem X0u{gens:List Comprehension}(h:mtG cm fns gns sc N sc2 N2 .nil gens=true):False:=by
 cases h
theorem X0v{gens:List Comprehension}(h:mtG cm fns gns sc N sc2 N2 (.cons t it ifs .nil) gens=true):∃ tg iter cs,gens=[⟨tg,iter,cs,0⟩]/\Xaz iter=true/\mtT false sc2 N2 t tg=true/\mtI cm fns gns sc N it iter=true/\mts cm fns gns sc2 N2 ifs cs=true/\Xcz t it=true:=by
 match gens,h with
 | [⟨tg,iter,cs,a⟩],h =>
  simp only[mtG,bA0,beq_iff_eq] at h;obtain⟨⟨⟨⟨⟨h1,h2⟩,h3⟩,h4⟩,h5⟩,h6⟩:=h;subst h1;exact⟨tg,iter,cs,rfl,h2,h3,h4,h5,h6⟩
 | [],h=>cases h
 | ⟨_,_,_,_⟩::_::_,h=>cases h
theorem X0w{gens:List Comprehension}(h:mtG cm fns gns sc N sc2 N2 (.cons t it ifs (.cons t2 it2 ifs2 .nil)) gens=true):∃ tg iter cs tg2 iter2 cs2,gens=[⟨tg,iter,cs,0⟩,⟨tg2,iter2,cs2,0⟩]/\Xaz iter=true/\Xaz iter2=true/\mtT false sc2 N2 t tg=true/\mtI cm fns gns sc N it iter=true/\mts cm fns gns sc2 N2 ifs cs=true/\mtT false sc2 N2 t2 tg2=true/\mtI cm fns gns sc2 N2 it2 iter2=true/\mts cm fns gns sc2 N2 ifs2 cs2=true/\Xcz t it=true/\Xcz t2 it2=true:=by
 match gens,h with
 | [⟨tg,iter,cs,a⟩,⟨tg2,iter2,cs2,a2⟩],h =>
  simp only[mtG,bA0,beq_iff_eq] at h;obtain⟨⟨⟨⟨⟨⟨⟨⟨⟨⟨⟨h1,h2⟩,h3⟩,h4⟩,h5⟩,h6⟩,h7⟩,h8⟩,h9⟩,h10⟩,h11⟩,h12⟩:=h;subst h1 h2;exact⟨tg,iter,cs,tg2,iter2,cs2,rfl,h3,h4,h5,h6,h7,h8,h9,h10,h11,h12⟩
 | [],h=>cases h
 | [⟨_,_,_,_⟩],h=>cases h
 | ⟨_,_,_,_⟩::⟨_,_,_,_⟩::_::_,h=>cases h
theorem X0x{gens:List Comprehension}{t3:Tg}{it3:It}{ifs3:Exs}{gs3:Gens}(h:mtG cm fns gns sc N sc2 N2 (.cons t it ifs (.cons t2 it2 ifs2 (.cons t3 it3 ifs3 gs3))) gens=true):False:=by
 match gens,h with
 | [],h=>cases h
 | [⟨_,_,_,_⟩],h=>cases h
 | ⟨_,_,_,_⟩::⟨_,_,_,_⟩::_ ,h=>cases h
theorem Xcg{e:Expr}{q:Expr×Expr×List Expr×Pos->Str->Bool}(h:((Xas e).any fun z=>(vNm z.1).any fun x=>q z x)=true):∃ x p y ys cp,e=.Call (.Name x p) (y::ys) [] cp/\q (.Name x p,y,ys,cp) x=true:=by
 obtain⟨⟨f,y,ys,cp⟩,h1,h2⟩:=Xc h;obtain⟨x,h3,h4⟩:=Xc h2;have e1:=Xf3 h1;subst e1;have h3':vNm f=some x:=h3;obtain⟨p,e2⟩:=Xan h3';subst e2;exact⟨x,p,y,ys,cp,rfl,h4⟩
theorem Xx0{i:Nat}{e:Expr}(h:mt cm fns gns sc N (.var i) e=true):∃ x p,e=.Name x p/\N[i]?=some x/\Xll sc x=true/\Yt x=true:=by
 simp only[mt] at h;obtain⟨x,h1,h2⟩:=Xc h;obtain⟨p,rfl⟩:=Xan h1;simp only[bA0,decide_eq_true_eq] at h2;exact⟨x,p,rfl,h2.1.1,h2.1.2,h2.2⟩
theorem Xx1{d:D}{e:Expr}(h:mt cm fns gns sc N (.cst d) e=true):∃ c k p,e=.Constant c k p/\Xf0 d c=true:=by
 simp only[mt] at h;obtain⟨c,h1,h2⟩:=Xc h;obtain⟨k,p,rfl⟩:=Xt5 h1;exact⟨c,k,p,rfl,h2⟩
theorem Xx2{a:Ex}{e:Expr}(h:mt cm fns gns sc N (.neg a) e=true):∃ x p,e=.UnaryOp .USub x p/\mt cm fns gns sc N a x=true:=by
 simp only[mt] at h;obtain⟨⟨o,x⟩,h1,h2⟩:=Xc h;obtain⟨p,rfl⟩:=Xn3 h1;rw[bA0] at h2;have e1:=Xt6 h2.1;dsimp only at e1;subst e1;exact⟨x,p,rfl,h2.2⟩
theorem Xx3{a:Ex}{e:Expr}(h:mt cm fns gns sc N (.not a) e=true):∃ x p,e=.UnaryOp .Not x p/\mt cm fns gns sc N a x=true:=by
 simp only[mt] at h;obtain⟨⟨o,x⟩,h1,h2⟩:=Xc h;obtain⟨p,rfl⟩:=Xn3 h1;rw[bA0] at h2;have e1:=Xt7 h2.1;dsimp only at e1;subst e1;exact⟨x,p,rfl,h2.2⟩
theorem Xx4{k:Nat}{e:Expr}(h:mt cm fns gns sc N (.glb k) e=true):∃ x p,e=.Name x p/\gns[k]?=some x/\glB sc x=true/\Yt x=true:=by
 simp only[mt] at h;obtain⟨x,h1,h2⟩:=Xc h;obtain⟨p,rfl⟩:=Xan h1;simp only[bA0,decide_eq_true_eq] at h2;exact⟨x,p,rfl,h2.1.1,h2.1.2,h2.2⟩
theorem Xx5{es:Exs}{e:Expr}(h:mt cm fns gns sc N (.tup es) e=true):∃ xs k p,e=.Tuple xs k p/\mts cm fns gns sc N es xs=true:=by
 simp only[mt] at h;obtain⟨x,h1,h2⟩:=Xc h;obtain⟨k,p,rfl⟩:=Xal h1;exact⟨x,k,p,rfl,h2⟩
theorem Xx6{es:Exs}{e:Expr}(h:mt cm fns gns sc N (.lst es) e=true):∃ xs p,e=.List xs p/\mts cm fns gns sc N es xs=true:=by
 simp only[mt] at h;obtain⟨x,h1,h2⟩:=Xc h;obtain⟨p,rfl⟩:=Xt8 h1;exact⟨x,p,rfl,h2⟩
theorem Xx7{op:Bo}{a b:Ex}{e:Expr}(h:mt cm fns gns sc N (.bin op a b) e=true):∃ x y p,e=.BinOp x (opB op) y p/\mt cm fns gns sc N a x=true/\mt cm fns gns sc N b y=true:=by
 simp only[mt] at h;obtain⟨⟨x,o,y⟩,h1,h2⟩:=Xc h;obtain⟨p,rfl⟩:=Xt9 h1;simp only[bA0] at h2;have e1:=Xkg h2.1.1;subst e1;exact⟨x,y,p,rfl,h2.1.2,h2.2⟩
theorem Xx8{op:Co}{a b:Ex}{e:Expr}(h:mt cm fns gns sc N (.cmp op a b) e=true):∃ x y p,e=.Compare x [opC op] [y] p/\behindInMarks (opC op) y=false/\mt cm fns gns sc N a x=true/\mt cm fns gns sc N b y=true:=by
 simp only[mt] at h;obtain⟨⟨x,os,ys⟩,h1,h2⟩:=Xc h;obtain⟨o,h3,h4⟩:=Xc h2;obtain⟨y,h5,h6⟩:=Xc h4;obtain⟨p,rfl⟩:=Xkh h1;have e1:os=[o]:=Xa6 h3;have e2:ys=[y]:=Xa6 h5;subst e1 e2;simp only[bA0,Bool.not_eq_true'] at h6;have e3:=Xfz h6.1.1.1;subst e3;exact⟨x,y,p,rfl,h6.1.1.2,h6.1.2,h6.2⟩
theorem Xx9{o1 o2:Co}{a b c:Ex}{e:Expr}(h:mt cm fns gns sc N (.chn o1 o2 a b c) e=true):∃ x y z p,e=.Compare x [opC o1,opC o2] [y,z] p/\lastMarks [opC o1,opC o2] [y,z]=false/\mt cm fns gns sc N a x=true/\mt cm fns gns sc N b y=true/\mt cm fns gns sc N c z=true:=by
 simp only[mt] at h;obtain⟨⟨x,os,ys⟩,h1,h2⟩:=Xc h;obtain⟨⟨p1,p2⟩,h3,h4⟩:=Xc h2;obtain⟨⟨y,z⟩,h5,h6⟩:=Xc h4;obtain⟨p,rfl⟩:=Xkh h1;have e1:os=[p1,p2]:=Xce h3;have e2:ys=[y,z]:=Xce h5;subst e1 e2;rw[bA0,bA0,bA0,bA0,bA0,Bool.not_eq_true'] at h6;obtain⟨⟨⟨⟨⟨k1,k2⟩,k3⟩,k4⟩,k5⟩,k6⟩:=h6;have e3:=Xfz k1;have e4:=Xfz k2;dsimp only at e3 e4;subst e3 e4;exact⟨x,y,z,p,rfl,k3,k4,k5,k6⟩
theorem Xki{an:Bool}{a b:Ex}{e:Expr}(h:((Xit e).any fun z=>Xlu an z.1&&(Xiu an z.2.2 z.2.1).any fun y=>mt cm fns gns sc N a y.1&&mt cm fns gns sc N b y.2)=true) :
  (∃ x y p,e=.BoolOp (opA an) [x,y] p/\mt cm fns gns sc N a x=true/\mt cm fns gns sc N b y=true)\/∃ x y z r p,e=.BoolOp (opA an) (x::y::z::r) p/\mt cm fns gns sc N a x=true/\mt cm fns gns sc N b (.BoolOp (opA an) (y::z::r) p)=true:=by
 obtain⟨⟨o,xs,p⟩,h1,h2⟩:=Xc h;have e1:=Xub h1;subst e1;rw[bA0] at h2;have e2:=Xuc h2.1;dsimp only at e2;subst e2;obtain⟨⟨x,y⟩,h3,h4⟩:=Xc h2.2;rw[bA0] at h4;rcases Xud h3 with e3|⟨y1,y2,r,e3,e4⟩
 ·dsimp only at e3
  subst e3;exact .inl ⟨x,y,p,rfl,h4.1,h4.2⟩
 ·dsimp only at e3 e4
  subst e3 e4;exact .inr ⟨x,y1,y2,r,p,rfl,h4.1,h4.2⟩
theorem Xya{a b:Ex}{e:Expr}(h:mt cm fns gns sc N (.and a b) e=true):(∃ x y p,e=.BoolOp .And [x,y] p/\mt cm fns gns sc N a x=true/\mt cm fns gns sc N b y=true)\/∃ x y z r p,e=.BoolOp .And (x::y::z::r) p/\mt cm fns gns sc N a x=true/\mt cm fns gns sc N b (.BoolOp .And (y::z::r) p)=true:=by
 simp only[mt] at h;exact Xki (an:=true) h
theorem X0y{a b:Ex}{e:Expr}(h:mt cm fns gns sc N (.or a b) e=true):(∃ x y p,e=.BoolOp .Or [x,y] p/\mt cm fns gns sc N a x=true/\mt cm fns gns sc N b y=true)\/∃ x y z r p,e=.BoolOp .Or (x::y::z::r) p/\mt cm fns gns sc N a x=true/\mt cm fns gns sc N b (.BoolOp .Or (y::z::r) p)=true:=by
 simp only[mt] at h;exact Xki (an:=false) h
theorem Xyb{c a b:Ex}{e:Expr}(h:mt cm fns gns sc N (.ite c a b) e=true):∃ x y z p,e=.IfExp x y z p/\mt cm fns gns sc N c x=true/\mt cm fns gns sc N a y=true/\mt cm fns gns sc N b z=true:=by
 simp only[mt] at h;obtain⟨⟨x,y,z⟩,h1,h2⟩:=Xc h;obtain⟨p,rfl⟩:=Xxy h1;simp only[bA0] at h2;exact⟨x,y,z,p,rfl,h2.1.1,h2.1.2,h2.2⟩
theorem Xyc{a i:Ex}{e:Expr}(h:mt cm fns gns sc N (.idx a i) e=true):∃ x y p,e=.Subscript x y p/\Xcd y=true/\mt cm fns gns sc N a x=true/\mt cm fns gns sc N i y=true:=by
 simp only[mt] at h;obtain⟨⟨x,y⟩,h1,h2⟩:=Xc h;obtain⟨p,rfl⟩:=Xcf h1;simp only[bA0] at h2;exact⟨x,y,p,rfl,h2.1.1,h2.1.2,h2.2⟩
theorem Xn4{k:Bool}{n:Nat}{gs:Gens}{elt:Ex}{e:Expr}(h:mt cm fns gns sc N (.cmr k n gs elt) e=true):∃ ee gens scope p,e=.ListComp ee gens scope p/\cm=true/\k=false/\(Xab scope).length=n/\scB sc scope N=true/\mtG cm fns gns sc N (Xel scope sc) (Xar N (Xab scope)) gs gens=true/\mt cm fns gns (Xel scope sc) (Xar N (Xab scope)) elt ee=true:=by
 simp only[mt] at h;obtain⟨⟨ee,gens,scope⟩,h1,h2⟩:=Xc h;obtain⟨p,rfl⟩:=Xxz h1;simp only[bA0,decide_eq_true_eq,Bool.not_eq_true'] at h2;obtain⟨⟨⟨⟨⟨h0,h1⟩,h2⟩,h3⟩,h4⟩,h5⟩:=h2;exact⟨ee,gens,scope,p,rfl,h0,h1,h2,h3,h4,h5⟩
theorem Xyd{k:Bl}{es:Exs}{e:Expr}(h:mt cm fns gns sc N (.blt k es) e=true):∃ x p y ys cp,e=.Call (.Name x p) (y::ys) [] cp/\blB k x=true/\(cm||Xlr k)=true/\glB sc x=true/\Yt x=true/\mts cm fns gns sc N es (y::ys)=true:=by
 simp only[mt] at h;obtain⟨x,p,y,ys,cp,rfl,h1⟩:=Xcg h;rw[bA0,bA0,bA0,bA0] at h1;exact⟨x,p,y,ys,cp,rfl,h1.1.1.1.1,h1.1.1.1.2,h1.1.1.2,h1.1.2,h1.2⟩
theorem Xug{k:Nat}{es:Exs}{e:Expr}(h:mt cm fns gns sc N (.call k es) e=true):∃ x p y ys cp,e=.Call (.Name x p) (y::ys) [] cp/\(∃ fl,fns[k]?=some (x,(y::ys).length,fl)/\(fl=true->cm=true))/\glB sc x=true/\Yt x=true/\mts cm fns gns sc N es (y::ys)=true:=by
 simp only[mt] at h;obtain⟨x,p,y,ys,cp,rfl,h1⟩:=Xcg h;rw[bA0,bA0,bA0] at h1;refine⟨x,p,y,ys,cp,rfl,?_,h1.1.1.2,h1.1.2,h1.2⟩;have h2:=h1.1.1.1;unfold fnB at h2;split at h2
 ·rename_i nm ar fl e
  simp only[bA0,decide_eq_true_eq,Bool.or_eq_true,Bool.not_eq_true'] at h2;obtain⟨⟨rfl,rfl⟩,h2⟩:=h2;exact⟨fl,e,fun z=>by rcases h2 with h2|h2;exact h2;rw[z] at h2;cases h2⟩
 ·cases h2
theorem Xye{k:Mt}{o:Ex}{es:Exs}{e:Expr}(h:mt cm fns gns sc N (.mth k o es) e=true):∃ ox nm ap y ys cp,e=.Call (.Attribute ox nm ap) (y::ys) [] cp/\mtB k nm=true/\Xln ox=true/\(ap.endLine==cp.line)=true/\(y::ys).length<29/\mt cm fns gns sc N o ox=true/\mts cm fns gns sc N es (y::ys)=true:=by
 simp only[mt] at h;obtain⟨⟨f,y,ys,cp⟩,h1,h2⟩:=Xc h;obtain⟨⟨ox,nm,ap⟩,h3,h4⟩:=Xc h2;have e1:=Xf3 h1;subst e1;have h3':Xlv f=some (ox,nm,ap):=h3;have e2:=Xuf h3';subst e2;rw[bA0,bA0,bA0,bA0,bA0] at h4;exact⟨ox,nm,ap,y,ys,cp,rfl,h4.1.1.1.1.1,h4.1.1.1.1.2,h4.1.1.1.2,of_decide_eq_true h4.1.1.2,h4.1.2,h4.2⟩
theorem Xyf{a:Ex}{ts:List Ty}{e:Expr}(h:mt cm fns gns sc N (.isi a ts) e=true):∃ p0 x y cp,e=.Call (.Name "isinstance" p0) [x,y] [] cp/\glB sc "isinstance" = true/\Yp x=true/\mt cm fns gns sc N a x=true/\tyM sc ts y=true:=by
 simp only[mt] at h;obtain⟨f,p,y,ys,cp,rfl,h1⟩:=Xcg h;rw[bA0,bA0,bA0,bA0] at h1;obtain⟨⟨⟨⟨h2,h3⟩,h4⟩,h5⟩,h6⟩:=h1;have e1:f = "isinstance" := of_decide_eq_true h2;subst e1;obtain⟨y2,h7,h8⟩:=Xc h6;have e2:ys=[y2]:=Xa6 h7;subst e2;exact⟨p,y,y2,cp,rfl,h3,h4,h5,h8⟩
theorem Xyg{ts:List Ty}{y:Expr}(h:tyM sc ts y=true):(∃ t nm p,ts=[t]/\y=.Name nm p/\glB sc nm=true/\Yt nm=true/\tyB sc t nm=true) \/
  ∃ t1 t2 n1 n2 p1 p2 k p,ts=[t1,t2]/\y=.Tuple [.Name n1 p1,.Name n2 p2] k p/\glB sc n1=true/\Yt n1=true/\glB sc n2=true/\Yt n2=true/\Xis t1=true/\Xis t2=true/\tyB sc t1 n1=true/\tyB sc t2 n2=true:=by
 unfold tyM at h;split at h
 ·simp only[bA0] at h
  obtain⟨⟨h1,h2⟩,h3⟩:=h;split at h3
  ·exact .inl ⟨_,_,_,rfl,rfl,h1,h2,h3⟩
  ·cases h3
 ·split at h
  ·simp only[bA0] at h
   obtain⟨⟨⟨⟨h1,h2⟩,h3⟩,h4⟩,h5⟩:=h;split at h5
   ·simp only[bA0] at h5
    obtain⟨⟨⟨h6,h7⟩,h8⟩,h9⟩:=h5;exact .inr ⟨_,_,_,_,_,_,_,_,rfl,rfl,h1,h2,h3,h4,h6,h7,h8,h9⟩
   ·cases h5
  ·cases h
 ·cases h
theorem Xyh{a:Ex}{lo hi:Op}{e:Expr}(h:mt cm fns gns sc N (.sli a lo hi) e=true):∃ x l u p2 p,e=.Subscript x (.Slice l u none p2) p/\mt cm fns gns sc N a x=true/\mto cm fns gns sc N lo l=true/\mto cm fns gns sc N hi u=true:=by
 simp only[mt] at h;obtain⟨⟨x,y⟩,h1,h2⟩:=Xc h;obtain⟨⟨l,u⟩,h3,h4⟩:=Xc h2;obtain⟨p,rfl⟩:=Xcf h1;obtain⟨p2,e2⟩:=Xue h3;dsimp only at e2;subst e2;simp only[bA0] at h4;exact⟨x,l,u,p2,p,rfl,h4.1.1,h4.1.2,h4.2⟩
theorem Xht{w:Str}{es:Exs}{e:Expr}(h:((Xas e).any fun z=>(vNm z.1).any fun x=>decide (x=w)&&glB sc x&&mts cm fns gns sc N es (z.2.1::z.2.2.1))=true):∃ p y ys cp,e=.Call (.Name w p) (y::ys) [] cp/\glB sc w=true/\mts cm fns gns sc N es (y::ys)=true:=by
 obtain⟨x,p,y,ys,cp,rfl,h1⟩:=Xcg h;rw[bA0,bA0] at h1;have e1:x=w:=of_decide_eq_true h1.1.1;subst e1;exact⟨p,y,ys,cp,rfl,h1.1.2,h1.2⟩
theorem Xuh{es:Exs}{e:Expr}(h:mtI cm fns gns sc N (.zpp es) e=true):∃ p y ys cp,e=.Call (.Name "zip" p) (y::ys) [] cp/\glB sc "zip" = true/\mts cm fns gns sc N es (y::ys)=true:=by
 simp only[mtI] at h;exact Xht h
theorem Xui{es:Exs}{e:Expr}(h:mtI cm fns gns sc N (.enm es) e=true):∃ p y ys cp,e=.Call (.Name "enumerate" p) (y::ys) [] cp/\glB sc "enumerate" = true/\mts cm fns gns sc N es (y::ys)=true:=by
 simp only[mtI] at h;exact Xht h
theorem Xuj{es:Exs}{e:Expr}(h:mtI cm fns gns sc N (.ezp es) e=true):∃ p cp q y ys cq,e=.Call (.Name "enumerate" p) [.Call (.Name "zip" q) (y::ys) [] cq] [] cp/\glB sc "enumerate" = true/\glB sc "zip" = true/\mts cm fns gns sc N es (y::ys)=true:=by
 simp only[mtI] at h;obtain⟨x,p,y,ys,cp,rfl,h1⟩:=Xcg h;rw[bA0,bA0,bA0] at h1;obtain⟨⟨⟨a1,a2⟩,a3⟩,a4⟩:=h1;have e1:x = "enumerate" := of_decide_eq_true a1;have e2:ys=[]:=List.isEmpty_iff.mp a3;subst e1 e2;obtain⟨q,z,zs,cq,rfl,b1,b2⟩:=Xht a4;exact⟨p,cp,q,z,zs,cq,rfl,a2,b1,b2⟩
theorem Xuk{es:Exs}{e:Expr}(h:mtI cm fns gns sc N (.rng es) e=true):∃ p y ys cp,e=.Call (.Name "range" p) (y::ys) [] cp/\glB sc "range" = true/\mts cm fns gns sc N es (y::ys)=true:=by
 simp only[mtI] at h;exact Xht h
theorem Xyi{f:Ex}{es:Exs}{e:Expr}(h:mt cm fns gns sc N (.cal f es) e=true):∃ fx y ys cp,e=.Call fx (y::ys) [] cp/\cm=true/\Xqc fx=true/\mt cm fns gns sc N f fx=true/\mts cm fns gns sc N es (y::ys)=true:=by
 simp only[mt] at h;obtain⟨⟨fx,y,ys,cp⟩,h1,h2⟩:=Xc h;have e1:=Xf3 h1;subst e1;rw[bA0,bA0,bA0] at h2;exact⟨fx,y,ys,cp,rfl,h2.1.1.1,h2.1.1.2,h2.1.2,h2.2⟩
theorem Xyj{a:Ex}{e:Expr}(h:mt cm fns gns sc N (.rev a) e=true):∃ x y p,e=.Subscript x y p/\Xf2 1 none y=true/\mt cm fns gns sc N a x=true:=by
 simp only[mt] at h;obtain⟨⟨x,y⟩,h1,h2⟩:=Xc h;obtain⟨p,rfl⟩:=Xcf h1;rw[bA0] at h2;exact⟨x,y,p,rfl,h2.1,h2.2⟩
theorem Xyk{k:Bool}{a:Ex}{e:Expr}(h:mt cm fns gns sc N (.rv2 k a) e=true):∃ x y p,e=.Subscript x y p/\Xf2 2 (if k then some 2 else none) y=true/\mt cm fns gns sc N a x=true:=by
 simp only[mt] at h;obtain⟨⟨x,y⟩,h1,h2⟩:=Xc h;obtain⟨p,rfl⟩:=Xcf h1;rw[bA0] at h2;exact⟨x,y,p,rfl,h2.1,h2.2⟩
theorem Xe3{top:Bool}{tg:Expr}(h1:Xcz t it=true)(h2:mtT top sc N t tg=true)(h3:Xls it=true):∃ es k p,tg=.Tuple es k p:=by
 unfold Xcz at h1;rw[h3] at h1;cases t with
 | var i=>cases h1
 | tup is =>
  simp only[mtT] at h2;obtain⟨es,h4,_⟩:=Xc h2;obtain⟨k,p,rfl⟩:=Xal h4;exact⟨es,k,p,rfl⟩
 | nst i is =>
  simp only[mtT] at h2;obtain⟨es,h4,_⟩:=Xc h2;obtain⟨k,p,rfl⟩:=Xal h4;exact⟨es,k,p,rfl⟩
end
noncomputable def blts:List Str:=["len","tuple","list","all","any","sum","max","min","range","isinstance","sorted","set","str","repr","zip","enumerate","abs","ValueError","int","bool","dict"]
noncomputable def bmV:List Value:=[.type "ValueError",.type "Exception",.type "BaseException",.type "object"]
noncomputable def Xqi(K:PySem.W.Frag):Bool :=
 (K.lookup sysModules).isSome&&PySem.W.specialIn K (.builtin "object.__class__") "__get__" == some (some (.builtin "getset_descriptor.__get__"))&&PySem.W.takesIn K (.builtin "object.__class__")==some true &&
 (List.range clsNames.length).all fun c=>match Xac K c with
  | some C=>PySem.W.excIn K C bmV "ValueError.__new__" && (PySem.W.findIn K (.ref C) "__getattribute__" == some (some (.builtin "BaseException.__getattribute__"))&&PySem.W.findIn K (.ref C) "__getattr__" == some none&&PySem.W.mroIn K C (.type "BaseException")==some true)&&(PySem.W.clsIn K C).isSome&&PySem.W.findIn K (.ref C) "__class__" == some (some (.builtin "object.__class__"))&&PySem.W.mroIn K C (.type "object")==some true &&
   PySem.W.kitOne K (.ref C) (.type "ValueError")==some true&&(List.range clsNames.length).all fun c0=>match Xac K c0 with
    | some C0=>PySem.W.kitOne K (.ref C) (.ref C0)==some (c0==0||c0==c)&&(!(c0==0||c0==c)||PySem.W.exmOne K (.ref C) (.ref C0)==some true)
    | none=>true
  | none=>(Xbb c).isNone
structure ErrOk(K:PySem.W.Frag):Prop where
 sm:∃ o,K.lookup sysModules=some o
 gt:PySem.W.specialIn K (.builtin "object.__class__") "__get__" = some (some (.builtin "getset_descriptor.__get__"))
 tk:PySem.W.takesIn K (.builtin "object.__class__")=some true
 at_:∀ c nm,Xbb c=some nm->∃ C,Xac K c=some C/\PySem.W.nsIn K mainGlobals nm=some (some (.ref C))
 cls:∀ c C,Xac K c=some C->PySem.W.excIn K C bmV "ValueError.__new__" = true/\(PySem.W.findIn K (.ref C) "__getattribute__" = some (some (.builtin "BaseException.__getattribute__"))/\PySem.W.findIn K (.ref C) "__getattr__" = some none/\PySem.W.mroIn K C (.type "BaseException")=some true)/\(PySem.W.clsIn K C).isSome=true/\PySem.W.findIn K (.ref C) "__class__" = some (some (.builtin "object.__class__"))/\PySem.W.mroIn K C (.type "object")=some true/\PySem.W.kitOne K (.ref C) (.type "ValueError")=some true
 sub:∀ c C c0 C0,Xac K c=some C->Xac K c0=some C0->PySem.W.kitOne K (.ref C) (.ref C0)=some (c0==0||c0==c)/\((c0==0||c0==c)=true->PySem.W.exmOne K (.ref C) (.ref C0)=some true)
theorem Xeo{K:PySem.W.Frag}{c:Nat}{C:Addr}(h:Xac K c=some C):c<clsNames.length:=by
 unfold Xac at h;cases q:Xbb c with
 | none=>rw[q] at h;cases h
 | some _=>exact Xh9 q
theorem Xul{K:PySem.W.Frag}(h:Xqi K=true):ErrOk K:=by
 simp only[Xqi,bA0,beq_iff_eq,List.all_eq_true,List.mem_range] at h;obtain⟨⟨⟨h0,h1⟩,h2⟩,h3⟩:=h;refine⟨Option.isSome_iff_exists.mp h0,h1,h2,fun c nm e=>?_,fun c C e=>?_,fun c C c0 C0 e e0=>?_⟩
 ·have:=h3 c (Xh9 e)
  split at this
  ·rename_i C q
   refine⟨C,q,?_⟩;unfold Xac at q;rw[e,Option.bind_some] at q;split at q
   ·rename_i q2;cases q;exact q2
   ·cases q
  ·rw[e] at this;cases this
 ·have:=h3 c (Xeo e)
  rw[e] at this;simp only[bA0,beq_iff_eq] at this;obtain⟨⟨⟨⟨⟨⟨a1,⟨⟨a2,a2'⟩,a2''⟩⟩,a3⟩,a4⟩,a5⟩,a6⟩,_⟩:=this;exact⟨a1,⟨a2,a2',a2''⟩,a3,a4,a5,a6⟩
 ·have:=h3 c (Xeo e)
  rw[e] at this;simp only[bA0,beq_iff_eq,List.all_eq_true,List.mem_range] at this;have z:=this.2 c0 (Xeo e0);rw[e0] at z;simp only[bA0,beq_iff_eq,Bool.or_eq_true,Bool.not_eq_true'] at z;refine⟨z.1,fun y=>?_⟩
  rcases z.2 with z2|z2
  ·rw[y] at z2;cases z2
  ·exact z2
end Z
end
section
namespace Z
open PySem PySem.Spec PySem.Calls PyProof.Rows L2 PySem.W Builtin Builtin.ObjectAttr Builtin.Getset_descriptor
section
variable{prog:Program}{w:World}{A:Around}{E:Value->Shared->Prop}{K:Frag}{y D:Addr}
theorem Xbv{M:Model}{h:Heap}(e:ExcO D y h):Looks M h (typeOf (.ref y)) (.ref D):=by
 obtain⟨ob,_,_,q,cl,_⟩:=e;exact cl▸(Looks.ld q).andThen .now
theorem Xum {R:Result->Shared->Prop} {tv:Value} {s:Shared} (hK:K.In s.heap) (e:ExcO D y s.heap) (mo:mroIn K D (.type "object")=some true) (q:R (.ok (.ret (.ref D))) s) :
  codeAny (model prog w) A (.call (.builtin "getset_descriptor.__get__") ⟨[.builtin "object.__class__",.ref y,tv],[]⟩) R s:=by
 obtain⟨hp,gn,dw,tk,os⟩:=s;have T0:=Xbv (M:=model prog w) e;have T1:=looks_mroIn (M:=model prog w) hK mo;refine codeAny_call_builtin KF.slot_gs.plain KF.entry_gs (KF.slot_gs.check _ _ _ _ _ _ _ _ KF.type_class (KF.args_gs _ _ _) ?_);unfold Builtin.«getset_descriptor.__get__» descrGet;rw[dga_obj];refine wpAny_bind (wpAny_pure ?_);unfold descrGetter descrCheckInstance descrNameAndClass isInstance;simp only[KF.owner_class]
 repeat lk
 refine⟨Code.quiet_builtin _ (by decide+kernel),codeAny_builtin KF.entry_class ?_⟩
 unfold Builtin.«object.__class__» shownTypeOf
 repeat lk
 exact q
theorem Xqj {M:Model} {h:Heap} {nm:Str} {v g:Value} (hK:K.In h) (h1:findIn K (.ref D) nm=some (some v)) (h2:specialIn K v "__get__" = some (some g)) (h3:takesIn K v=some true):Looks M h (find (.ref y) (.ref D) nm) (.bind g v):=by
 have a1:=looks_findIn (M:=M) hK h1;have a2:Looks M h (getOf (some v)) (some g):=looks_specialIn hK h2;have a3:=looks_takesIn (M:=M) hK h3;exact a1.andThen (a2.andThen ((show Looks M h (dataDescriptor? (some v) (some g)) (some (g,v)) from a3.andThen .now).andThen (Looks.tag .now)))
theorem Xn5 {Q:Fin->Shared->Prop} {s:Shared} {nm:Str} {tk:Tok} {v g:Value} (hK:K.In s.heap) (e:ExcO D y s.heap) (h1:findIn K (.ref D) nm=some (some v)) (h2:specialIn K v "__get__" = some (some g)) (h3:takesIn K v=some true)
  (z:wpAny (model prog w) A (call g [v,.ref y,.ref D]) (fun r s1=>Q (.done (.ret r)) s1) E s) :
  wpAny (model prog w) A (Builtin.«object.__getattribute__» ⟨[.ref y,.str nm tk],[]⟩) Q E s:=by
 obtain⟨hp,gn,dw,t0,os⟩:=s;have T0:=Xbv (M:=model prog w) e;have T1:=Xqj (M:=model prog w) (y:=y) hK h1 h2 h3;unfold Builtin.«object.__getattribute__»;refine wpAny_bind (wpAny_pure ?_);refine wpAny_bind (wpAny_pure ?_);refine wpAny_bind (T0.at (wpAny_bind (T1.at ?_)));show wpAny (model prog w) A (holding [v] (call g [v,.ref y,.ref D]) >>= ret) _ _ _;exact wpAny_bind (wpAny_holding (wpAny_mono z (fun r s1 q=>wpAny_pure q) fun _ _ q=>q))
theorem Xn6 {Q:Unit->Shared->Prop} {s:Shared} {nv:Value} (hK:K.In s.heap) (e:ExcO D y s.heap) (hm:mroIn K D (.type "BaseException")=some true) (q:Q () s) :
  wpAny (model prog w) A (checkBuiltinCall "BaseException.__getattribute__" ⟨[.ref y,nv],[]⟩) Q E s:=by
 obtain⟨hp,gn,dw,t0,os⟩:=s;have T0:=Xbv (M:=model prog w) e;have T3:=looks_mroIn (M:=model prog w) hK hm;have kd:builtinKind "BaseException.__getattribute__" = some .slot:=by decide+kernel
 have sp:splitId "BaseException.__getattribute__" = some ("BaseException","__getattribute__"):=by decide+kernel
 have ao:=PySem.F.args_bexc_ga (.ref y) nv;simp only[checkBuiltinCall,kd,sp];unfold isInstance;refine wpAny_bind (wpAny_bind (T0.at (T3.at ?_)));rw[if_neg (by decide)]
 exact wpAny_of_eq ao q
theorem Xqk {Q:Option Value->Shared->Prop} {s:Shared} {nm:Str} {v g:Value} (hK:K.In s.heap) (e:ExcO D y s.heap) (ga:findIn K (.ref D) "__getattribute__" = some (some (.builtin "BaseException.__getattribute__"))) (gn:findIn K (.ref D) "__getattr__" = some none)
  (hm:mroIn K D (.type "BaseException")=some true) (h1:findIn K (.ref D) nm=some (some v)) (h2:specialIn K v "__get__" = some (some g)) (h3:takesIn K v=some true) (hh:handedIn (.ref D)=true)
  (z:∀ A':Around,wpAny (model prog w) A' (call g [v,.ref y,.ref D]) (fun r s1=>r=.ref D/\Q (some (.ref D)) s1) (fun _ _=>False) { s with toks:=s.toks+1 }) :
  wpAny (model prog w) A (getAttr? (.ref y) nm) Q E s:=by
 obtain⟨hp,gs,dw,tk,os⟩:=s;have T0:=Xbv (M:=model prog w) e;have T1:=looks_findIn (M:=model prog w) hK ga;have T2:=looks_findIn (M:=model prog w) hK gn;have T3:=looks_mroIn (M:=model prog w) hK hm;unfold getAttr? getAttrBy? getAttrBy;refine wpAny_bind (wpAny_mkText (wpAny_bind (wpAny_attempt (wpAny_holding (wpAny_bind (T0.at (wpAny_bind (T1.at ?_))))))));have hno:(onTheHeap (Value.ref D)&&Value.builtin "BaseException.__getattribute__" == Value.builtin "object.__getattribute__")=false:=by
  have:(Value.builtin "BaseException.__getattribute__" == Value.builtin "object.__getattribute__")=false:=by decide+kernel
  rw[this,Bool.and_false]
 dsimp only;rw[if_neg (by rw[hno];exact Bool.false_ne_true)]
 unfold getAttrByItsOwn hookBefore;rw[if_pos (by rfl)]
 refine wpAny_bind (T2.at (wpAny_bind (wpAny_attempt (wpAny_holding ?_))));unfold callGetattribute boundAndCalled;rw[if_neg (by simp)]
 have f3:=PySem.F.excAttr_ValueError.ga.bind (.ref y);rw[f3];refine wpAny_bind (wpAny_pure ?_);refine wpAny_call (codeAny_call_builtin PySem.F.excAttr_ValueError.ga.plain PySem.F.entry_bexc_ga (Xn6 (s:=⟨hp,gs,dw,tk+1,os⟩) hK e hm ?_));refine Xn5 (s:=⟨hp,gs,dw,tk+1,os⟩) hK e h1 h2 h3 (wpAny_mono (z _) (fun r s1 q=>?_) fun _ _ q=>q.elim)
 obtain⟨rfl,q⟩:=q;exact handed_on hh (wpAny_pure q)
theorem Xql (p1:findIn K (.ref D) "__getattribute__" = some (some (.builtin "BaseException.__getattribute__"))) (p0:findIn K (.ref D) "__getattr__" = some none) (p7:mroIn K D (.type "BaseException")=some true) (p2:(clsIn K D).isSome=true) (p3:findIn K (.ref D) "__class__" = some (some (.builtin "object.__class__")))
  (p4:specialIn K (.builtin "object.__class__") "__get__" = some (some (.builtin "getset_descriptor.__get__"))) (p5:takesIn K (.builtin "object.__class__")=some true) (p6:mroIn K D (.type "object")=some true):KitX K (.ref y) (.ref D) (ExcO D y) where
 ty:=fun _ _ _ e=>Xbv e
 it:=fun _ _ hK _=>by
  unfold clsIn at p2;split at p2
  ·rename_i lk
   intro B Q' E' s' k q;unfold isType loadHead;exact wpAny_bind (wpAny_loadPart (k _ _ (hK _ _ lk)) (wpAny_pure q))
  ·cases p2
 ne:=fun hp tp dd its n sl hK ht=>by
  refine Bool.eq_false_iff.mpr fun q=>?_
  have q':D=tp:=Value.ref.inj (beq_iff_eq.mp q);subst q';unfold clsIn at p2;split at p2
  ·rename_i lk
   cases (hK _ _ lk).symm.trans ht
  ·cases p2
 ca:=fun {prog w B E' Q' s'} hK e k=>Xqk hK e p1 p0 p7 p3 p4 p5 rfl fun A'=>wpAny_call (Xum (s:={ s' with toks:=s'.toks+1 }) hK e p6 ⟨rfl,k⟩)
end
end Z
end
section
namespace Z
open PySem PySem.Spec PyProof.Rows L2
noncomputable def Xa0:Ty->Option (Str×String)
 | .int=>some ("int","int")
 | .bool=>some ("bool","bool")
 | .str=>some ("str","str")
 | .tuple=>some ("tuple","tuple")
 | .list=>some ("list","list")
 | .dict=>some ("dict","dict")
 | _=>none
noncomputable def Xep:Kd->Option String
 | .non=>some "NoneType"
 | .bool=>some "bool"
 | .int=>some "int"
 | .str=>some "str"
 | .tuple=>some "tuple"
 | .list=>some "list"
 | .dict=>some "dict"
 | .exc _=>none
theorem Xdc{t:Ty}{nm:Str}{T:String}(h:Xa0 t=some (nm,T)):bootBuiltins nm=some (.type T):=by
 cases t<;>simp only[Xa0,Option.some.injEq,Prod.mk.injEq,reduceCtorEq] at h<;>obtain⟨rfl,rfl⟩:=h<;>decide+kernel
theorem Xeq{t:Ty}{nm:Str}{T:String}(h:Xa0 t=some (nm,T)):nm∈blts:=by
 cases t<;>simp only[Xa0,Option.some.injEq,Prod.mk.injEq,reduceCtorEq] at h<;>obtain⟨rfl,rfl⟩:=h<;>decide
theorem Xf4{k:Kd}{t:Ty}{nm:Str}{T U:String}{b:Bool}(ht:Xa0 t=some (nm,T))(hk:Xep k=some U)(h:isT k t=some b)(K:PySem.W.Frag):PySem.W.kitOne K (.type U) (.type T)=some b:=by
 cases k<;>simp only[Xep,Option.some.injEq,reduceCtorEq] at hk<;>subst hk<;>cases t<;>simp only[Xa0,Option.some.injEq,Prod.mk.injEq,reduceCtorEq] at ht<;>obtain⟨rfl,rfl⟩:=ht<;>simp only[isT,Option.some.injEq] at h<;>subst h<;>kernel_rfl
section
variable{X:Cx}{pins:List (Addr×Obj)}{σ:L2.St}{H:Hp}{s:Shared}{ρ:List Addr}{S S':Sto}{env:En}{a:Expr}{fa:En->Sto->R D}{pos:Pos}
theorem Xsr(I:S0 X pins σ H s ρ S env){d:D}{v:V}{u:Value}{k:Kd}{U:String}(h:kdD S d=some k)(hU:Xep k=some U)(rd:RD X.K ρ H d v)(rv:RelV v u) :
  ∃ P:Heap->Prop,PySem.W.KitX X.K u (.type U) P/\P s.heap/\u≠.builtin "__main__.__loader__#opaque" := by
 cases d with
 | non=>cases h;cases hU;simp only[RD] at rd;subst rd;cases rv;exact⟨_,PySem.W.kitx_none,trivial,fun z=>nomatch z⟩
 | bl b=>cases h;cases hU;simp only[RD] at rd;subst rd;cases rv;exact⟨_,PySem.W.kitx_bool,trivial,fun z=>nomatch z⟩
 | int i=>cases h;cases hU;simp only[RD] at rd;subst rd;obtain⟨t,rfl⟩:=rv;exact⟨_,PySem.W.kitx_int,trivial,fun z=>nomatch z⟩
 | str x=>cases h;cases hU;simp only[RD] at rd;subst rd;obtain⟨t,rfl⟩:=rv;exact⟨_,PySem.W.kitx_str,trivial,fun z=>nomatch z⟩
 | tup xs =>
  cases h;cases hU;simp only[RD] at rd;obtain⟨p,vs,rfl,hq,_⟩:=rd;cases rv;obtain⟨its,_,pl,_⟩:=I.inv.tuple hq;obtain⟨o,h1,h2,_⟩:=pl;exact⟨_,PySem.W.kitx_tuple,⟨o,h1,h2⟩,fun z=>nomatch z⟩
 | fro xs =>
  cases h;cases hU;simp only[RD] at rd;obtain⟨p,vs,rfl,hq,_⟩:=rd;cases rv;obtain⟨its,_,pl,_⟩:=I.inv.list hq.sq;obtain⟨o,n,h1,h2,_⟩:=pl;exact⟨_,PySem.W.kitx_list,⟨o,h1,h2⟩,fun z=>nomatch z⟩
 | fn _ _=>cases h
 | ref n =>
  simp only[kdD] at h;simp only[RD] at rd;obtain⟨p,rfl,hp⟩:=rd;cases rv;split at h
  ·rename_i xs e
   cases h;cases hU;obtain⟨vs,hv,_⟩:=I.sr.ob n p _ hp e;obtain⟨_,its,n',_,h1⟩:=(show ObjOk X.prog X.w H s.heap p (.lst vs) from I.inv.hok p _ hv);exact⟨_,PySem.W.kitx_list,⟨_,h1,rfl⟩,fun z=>nomatch z⟩
  ·rename_i xs e
   cases h;cases hU;obtain⟨_,hv⟩:=I.sr.ob n p _ hp e;obtain⟨_,_,vs,_,o,es,ep,h1,h2,_⟩:=(show ObjOk X.prog X.w H s.heap p (.dK []) from I.inv.hok p _ hv);exact⟨_,PySem.W.kitx_dict,⟨o,h1,h2.1⟩,fun z=>nomatch z⟩
  ·cases h;cases hU
  ·cases h
theorem Xch {t:Ty} {nm:Str} {T:String} {p0 p1:Pos} (ht:Xa0 t=some (nm,T)) (hb:∀ x∈blts,X.mg x=none) (hg0:Gl X "isinstance") (hg:Gl X nm) (hok:Yt nm=true) (ha:DE X a fa) (hst:Yp a=true) :
  DE X (.Call (.Name "isinstance" p0) [a,.Name nm p1] [] pos) (fun env S=>(fa env S).bind fun x S=>match (kdD S x).bind fun k=>Yl k [t] with|some r=>.ok (.bl r) S|none=>.bad):=by
 intro pins s σ H ρ S env I nb;dsimp only at nb ⊢;obtain⟨o1,_,o3⟩:=Xak hok;refine wpAny_Call_Name_kw (Yn I.inv hg0 (hb _ (by decide)) (u:=.builtin "isinstance") (by decide+kernel) ?_)
 refine PyProof.Rows.callWith_builtin1 ?_ (Xp hst) rfl;rw[Xp hst];generalize hr:((fa env S).bind fun x S=>match (kdD S x).bind fun k=>Yl k [t] with|some r=>R.ok (D.bl r) S|none=>R.bad)=r at nb ⊢
 refine Calls.spliced_cons (ha.bind I (by rw[hr];exact nb) hr.symm (fun d S1 u s1 v H1 ρ1 e1 nb1 I1 rv rd st1=>?_) fun _ _ z=>z)
 refine Calls.spliced_cons (Yn I1.inv hg (hb _ (Xeq ht)) (Xdc ht) ?_ o3 o1);refine Calls.spliced_nil ?_;cases q:(kdD S1 d).bind fun k=>Yl k [t] with
 | none=>rw[q] at nb1;exact absurd rfl nb1
 | some b =>
  obtain⟨k,q1,q2⟩:=Option.bind_eq_some_iff.mp q;have q3:isT k t=some b:=by
   unfold Yl at q2;cases e:isT k t with
   | none=>rw[e] at q2;cases q2
   | some c=>rw[e] at q2;cases c<;>simp[Yl] at q2<;>rw[q2]
  rw[e1,q];cases hU:Xep k with
  | none=>cases k<;>simp only[Xep,reduceCtorEq] at hU;cases t<;>simp only[Xa0,reduceCtorEq] at ht<;>simp only[isT,reduceCtorEq] at q3
  | some U =>
   obtain⟨P,k1,k2,k3⟩:=Xsr I1 q1 hU rd rv;exact PySem.W.kia_one k1 I1.inv.kIn k2 (Xf4 ht hU q3 X.K) k3 fun tk=>OkP.pre st1 (Xg I1.sr (I1.inv.tok tk))
theorem Xn7 {t:Ty} {nm:Str} {p0 p1:Pos} (er:ErrOk X.K) (ht:(∃ c,t=.cls c/\Xbb c=some nm)\/(t=.valueError/\nm = "ValueError")) (hb:∀ x∈blts,X.mg x=none) (hg0:Gl X "isinstance") (hg:Gl X nm) (hok:Yt nm=true) (ha:DE X a fa) (hst:Yp a=true) :
  DE X (.Call (.Name "isinstance" p0) [a,.Name nm p1] [] pos) (fun env S=>(fa env S).bind fun x S=>match (kdD S x).bind fun k=>Yl k [t] with|some r=>.ok (.bl r) S|none=>.bad):=by
 intro pins s σ H ρ S env I nb;dsimp only at nb ⊢;obtain⟨o1,_,o3⟩:=Xak hok;refine wpAny_Call_Name_kw (Yn I.inv hg0 (hb _ (by decide)) (u:=.builtin "isinstance") (by decide+kernel) ?_)
 refine PyProof.Rows.callWith_builtin1 ?_ (Xp hst) rfl;rw[Xp hst];generalize hr:((fa env S).bind fun x S=>match (kdD S x).bind fun k=>Yl k [t] with|some r=>R.ok (D.bl r) S|none=>R.bad)=r at nb ⊢
 refine Calls.spliced_cons (ha.bind I (by rw[hr];exact nb) hr.symm (fun d S1 u s1 v H1 ρ1 e1 nb1 I1 rv rd st1=>?_) fun _ _ z=>z)
 /- the value is an error -/
 cases q:(kdD S1 d).bind fun k=>Yl k [t] with
 | none=>rw[q] at nb1;exact absurd rfl nb1
 | some b =>
  rw[e1,q];obtain⟨k,q1,q2⟩:=Option.bind_eq_some_iff.mp q;have q3:isT k t=some b:=by
   unfold Yl at q2;cases e:isT k t with
   | none=>rw[e] at q2;cases q2
   | some c=>rw[e] at q2;cases c<;>simp[Yl] at q2<;>rw[q2]
  obtain⟨c',rfl⟩:∃ c',k=.exc c':=by
   rcases ht with⟨c,rfl,_⟩|⟨rfl,_⟩<;>cases k<;>first|exact⟨_,rfl⟩|(simp only[isT,reduceCtorEq] at q3)
  obtain⟨n,rfl,hS⟩:∃ n,d=.ref n/\S1[n]?=some (.exc c'):=by
   cases d with
   | ref n =>
    refine⟨n,rfl,?_⟩;simp only[kdD] at q1;split at q1
    ·cases q1
    ·cases q1
    ·rename_i c2 e;cases q1;exact e
    ·cases q1
   | _=>cases q1
  simp only[RD] at rd;obtain⟨p,rfl,hp⟩:=rd;cases rv;obtain⟨C,hC,hH⟩:=(show ∃ C,Xac X.K c'=some C/\H1 p=some (.ext (ExcO C p)) from I1.sr.ob n p _ hp hS);obtain⟨_,⟨b1,b2,b3⟩,a3,a4,a5,a6⟩:=er.cls c' C hC;have hE:ExcO C p s1.heap:=(show ObjOk X.prog X.w H1 s1.heap p (.ext (ExcO C p)) from I1.inv.hok p _ hH).1;have kx:=Xql (y:=p) b1 b2 b3 a3 a4 er.gt er.tk a5;rcases ht with⟨c,rfl,hc⟩|⟨rfl,rfl⟩
  ·obtain⟨C0,h1,h2⟩:=er.at_ c nm hc
   have e3:b=(c==0||c==c'):=by simp only[isT,Option.some.injEq] at q3;exact q3.symm
   subst e3;refine Calls.spliced_cons (Xdm I1.inv hg (PySem.W.mg_of I1.inv.mod.kin I1.inv.mod.glob h2) (Calls.spliced_nil ?_) o1);exact PySem.W.kia_one kx I1.inv.kIn hE (er.sub c' C c C0 hC h1).1 (fun z=>nomatch z) fun tk=>OkP.pre st1 (Xg I1.sr (I1.inv.tok tk))
  ·have e3:b=true:=by simp only[isT,Option.some.injEq] at q3;exact q3.symm
   subst e3;refine Calls.spliced_cons (Yn I1.inv hg (hb _ (by decide)) (u:=.type "ValueError") (by decide+kernel) (Calls.spliced_nil ?_) o3 o1)
   exact PySem.W.kia_one kx I1.inv.kIn hE a6 (fun z=>nomatch z) fun tk=>OkP.pre st1 (Xg I1.sr (I1.inv.tok tk))
end
end Z
end
section
namespace Z
open PySem PySem.Spec PyProof.Rows L2
end Z
end
section
namespace Z
open PySem PySem.Spec PyProof.Rows L2
theorem Xds(n d:Nat)(o:Option Int):Xeh n d o=HT.sIx n d o:=by
 cases o with
 | none=>rfl
 | some i =>
  simp only[Xeh,HT.sIx]
  by_cases h:i<0
  ·rw[if_pos h,if_neg (by omega)]
  ·rw[if_neg h,if_pos (by omega)]
theorem Xn8{K:PySem.W.Frag}{ρ:List Addr}{H:Hp}{xs:List D}{vs:List V}(h:RDs K ρ H xs vs)(lo hi:Option Int):RDs K ρ H (cut xs lo hi) (Xfr vs lo hi):=by
 unfold cut Xfr;rw[Xds,Xds,h.length];exact(h.drop _).take _
section
variable{prog:Program}{w:World}{A:Around}{E:Value->Shared->Prop}{s:Shared}
theorem Xjx{t sl:Addr}{items:Array Value}{vl vu:Value}{lo hi:Option Int}{Q:Value->Shared->Prop}(ht:IsTup s.heap t items)(hs:s.heap.IsSliceOf sl vl vu .none)(pl:IsPart vl lo)(pu:IsPart vu hi)
  (h1:HT.sIx items.size 0 lo=0) (h2:HT.sIx items.size items.size hi=items.size) (h:Q (.ref t) s):wpAny (model prog w) A (getItem (.ref t) (.ref sl)) Q E s:=by
 obtain⟨os,hos,hcs,hds⟩:=id hs;have hTs:s.TypeIs (.ref sl) "slice" := ⟨os,hos,hcs⟩;unfold getItem
 try with_reducible refine wpAny_holding ?_
 first|refine wpAny_bind (wpAny_pure ?_)|skip
 refine wpAny_bind (wpAny_sequenceKey ht.typeIs (by decide) (wpAny_bind (wpAny_callSpecial?_slot (name:=Str.ofString "__getitem__") ht.typeIs PyProof.Rows.slot_tuple_getitem (wpAny_call_entry PyProof.Rows.slot_tuple_getitem ht.typeIs entry_tuple_getitem ?_ (args_tuple_getitem _ _)))))
 show wpAny _ _ (Builtin.Tuple.tupleItemsOf (.ref t) >>= _) _ _ s;refine wpAny_bind (tupleItemsOf_ ht (wpAny_bind (wpAny_typeOf hTs ?_)));rw[if_pos (by decide)]
 refine wpAny_bind (HT.sliceApplied_gen hs pl pu ?_);show wpAny _ _ (if (((HT.sIx items.size 0 lo:Nat):Int)==0&&(1:Int)==1&&(HT.sIx items.size items.size hi-HT.sIx items.size 0 lo)==items.size)=true then _ else _) _ _ s
 rw[h1,h2,if_pos (by simp)]
 refine wpAny_bind ?_;unfold Builtin.Tuple.tupleIsExact;refine wpAny_bind (wpAny_typeOf ht.typeIs (wpAny_pure ?_));rw[if_pos (by decide)]
 exact wpAny_bind (wpAny_rule (wpAny_pure ⟨_,rfl,wpAny_pure h⟩))
end
def PartR(K:PySem.W.Frag)(ρ:List Addr)(H:Hp)(o:Option D)(u:Value):Prop:=match o with
 | none=>u=.none
 | some d=>∃ v,RelV v u/\RD K ρ H d v
def DO(X:Cx)(e:Option Expr)(f:En->Sto->R (Option D)):Prop :=
 ∀ (pins:List (Addr×Obj)) (s:Shared) (σ:L2.St) (H:Hp) (ρ:List Addr) (S:Sto) (env:En),S0 X pins σ H s ρ S env->f env S≠.bad ->
  wpAny (model X.prog X.w) X.A (evalPart e X.env) (fun u s'=>∃ o S',f env S=.ok o S'/\∃ H' ρ',Inv X pins σ H' s'/\SR X.K ρ' S' H'/\Stp X.K ρ ρ' H H'/\PartR X.K ρ' H' o u) (ExP X pins σ ρ H (f env S)) s
section
variable{X:Cx}{pins:List (Addr×Obj)}{σ:L2.St}{H:Hp}{s:Shared}{ρ:List Addr}{S S':Sto}{env:En}{a:Expr}{fa:En->Sto->R D}{pos p2:Pos}
theorem Xkj:DO X none (fun _ S=>.ok none S):=by
 intro pins s σ H ρ S env I nb;rw[evalPart_none];exact wpAny_pure ⟨none,S,rfl,H,ρ,I.inv,I.sr,.refl,rfl⟩
theorem Xkk(h:DE X a fa):DO X (some a) (fun env S=>(fa env S).bind fun x S=>.ok (some x) S):=by
 intro pins s σ H ρ S env I nb;dsimp only at nb ⊢;rw[evalPart_some];refine h.bind I nb rfl (fun d S1 u s1 v H1 ρ1 e1 nb1 I1 rv rd st1=>?_) fun _ _ z=>z
 exact⟨some d,S1,e1,H1,ρ1,I1.inv,I1.sr,st1,v,rv,rd⟩
theorem DO.bind{α:Type}{e:Option Expr}{f:En->Sto->R (Option D)}(h:DO X e f)(I:S0 X pins σ H s ρ S env){k:Option D->Sto->R α}{r:R α}{Q:Value->Shared->Prop}{E:Value->Shared->Prop}(nb:(f env S).bind k≠.bad)(hr:r=(f env S).bind k)
  (hQ:∀ o S1 u s' H' ρ',r=k o S1->k o S1≠.bad->S0 X pins σ H' s' ρ' S1 env->PartR X.K ρ' H' o u->Stp X.K ρ ρ' H H'->Q u s') (hE:∀ x s',ExP X pins σ ρ H r x s'->E x s'):wpAny (model X.prog X.w) X.A (evalPart e X.env) Q E s:=by
 cases q:f env S with
 | bad=>rw[q] at nb;exact absurd rfl nb
 | ex n S1 =>
  rw[q] at hr;refine wpAny_mono (h pins s σ H ρ S env I (by rw[q];exact fun z=>nomatch z)) (fun u s' z=>?_) fun x s' z=>?_
  ·obtain⟨o,S2,e,_⟩:=z;rw[q] at e;cases e
  ·obtain⟨m,S2,e,z⟩:=z;rw[q] at e;cases e;exact hE x s' ⟨n,S1,hr,z⟩
 | ok o S1 =>
  rw[q] at hr nb;refine wpAny_mono (h pins s σ H ρ S env I (by rw[q];exact fun z=>nomatch z)) (fun u s' z=>?_) fun x s' z=>?_
  ·obtain⟨o',S2,e,H',ρ',J,sr,st,pr⟩:=z
   rw[q] at e;cases e;exact hQ o S1 u s' H' ρ' hr nb (I.step J sr st) pr st
  ·obtain⟨m,S2,e,z⟩:=z;rw[q] at e;cases e
theorem Xdt{K:PySem.W.Frag}{o:Option D}{u:Value}{oi:Option Int}(h:PartR K ρ H o u)(e:Xam o=some oi):IsPart u oi:=by
 cases o with
 | none =>
  have e':some none=some oi:=e;cases e';have h':u=.none:=h;subst h';exact .none
 | some d =>
  cases d with
  | int i =>
   have e':some (some i)=some oi:=e;cases e';obtain⟨v,rv,rd⟩:=h;simp only[RD] at rd;subst rd;obtain⟨t,rfl⟩:=rv;exact .int i t
  | _=>cases e
theorem PartR.mono{K:PySem.W.Frag}{ρ':List Addr}{H':Hp}{o:Option D}{u:Value}(h:PartR K ρ H o u)(st:Stp K ρ ρ' H H'):PartR K ρ' H' o u:=by
 cases o with
 | none=>exact h
 | some d=>obtain⟨v,rv,rd⟩:=h;exact⟨v,rv,rd.mono st⟩
theorem X0z{lo hi:Option Expr}{fl fh:En->Sto->R (Option D)}(ha:DE X a fa)(hl:DO X lo fl)(hh:DO X hi fh) :
  DE X (.Subscript a (.Slice lo hi none p2) pos) (fun env S=>(fa env S).bind fun x S=>(fl env S).bind fun l S=>(fh env S).bind fun h S=>match Xam l,Xam h with
   | some l,some h=>Xaa x l h S
   | _,_=>.bad):=by
 intro pins s σ H ρ S env I nb;dsimp only at nb ⊢;refine Subscript_ (ha.bind I nb rfl (fun d S1 u s1 v H1 ρ1 e1 nb1 I1 rv rd st1=>?_) fun _ _ z=>z)
 rw[e1];refine wpAny_Slice (hl.bind I1 nb1 rfl (fun l S2 vl s2 H2 ρ2 e2 nb2 I2 pl st2=>?_) fun x s' z=>z.pre st1)
 rw[e2];refine hh.bind I2 nb2 rfl (fun h S3 vu s3 H3 ρ3 e3 nb3 I3 pu st3=>?_) fun x s' z=>(z.pre st2).pre st1
 rw[e3];cases q1:Xam l with
 | none=>rw[q1] at nb3;exact absurd rfl nb3
 | some li =>
  cases q2:Xam h with
  | none=>rw[q1,q2] at nb3;exact absurd rfl nb3
  | some hi' =>
   rw[q1,q2] at nb3;dsimp only at nb3 ⊢;rw[evalPart_none];refine wpAny_pure ?_;have P1:=Xdt pl q1;have P2:=Xdt pu q2;have rd3:=(rd.mono st2).mono st3;have J:Inv X pins σ H3 { s3 with heap:=s3.heap.push { cls:=.type "slice",data:=.fields #[vl,vu,.none] } }:=I3.inv.kept (t':=s3.toks) fun b ob q=>Heap.get?_push_of_some _ q
   have fin:∀ {T id:String},typeLookup (.type T) "__getitem__" = pure (some (.builtin id))->({ s3 with heap:=s3.heap.push { cls:=.type "slice",data:=.fields #[vl,vu,.none] } }:Shared).TypeIs u T ->
     wpAny (model X.prog X.w) X.A (getItem u (.ref s3.heap.objs.size)) (OkP X pins σ ρ3 H3 (Xaa d li hi' S3)) (ExP X pins σ ρ3 H3 (Xaa d li hi' S3)) { s3 with heap:=s3.heap.push { cls:=.type "slice",data:=.fields #[vl,vu,.none] } } ->
     wpAny (model X.prog X.w) X.A (subscriptTail a (.Slice lo hi none p2) u (.ref s3.heap.objs.size)) (OkP X pins σ ρ H (Xaa d li hi' S3)) (ExP X pins σ ρ H (Xaa d li hi' S3)) { s3 with heap:=s3.heap.push { cls:=.type "slice",data:=.fields #[vl,vu,.none] } }:=fun t1 t2 g =>
    tail_any (ops:=[.ref s3.heap.objs.size,u]) t2 t1 (wpAny_mono g (fun _ _ z=>OkP.pre ((st1.trans st2).trans st3) z) fun _ _ z=>ExP.pre ((st1.trans st2).trans st3) z) (by with_unfolding_all rfl)
   cases d with
   | tup xs =>
    simp only[RD] at rd3;obtain⟨p,vs,rfl,hq,hr⟩:=rd3;cases rv;obtain⟨its,r,ht,hz⟩:=J.tuple hq;have hlen:its.toArray.size=vs.length:=by rw[List.size_toArray];exact r.length.symm
    refine fin PyProof.Rows.slot_tuple_getitem.lookup ht.typeIs ?_
    by_cases hw:HT.sIx vs.length 0 li=0/\HT.sIx vs.length vs.length hi'=vs.length
    ·refine Xjx ht (Heap.IsSliceOf.new ..) P1 P2 (by rw[hlen];exact hw.1) (by rw[hlen];exact hw.2) ?_
     have e:cut xs li hi'=xs:=by
      unfold cut;rw[Xds,Xds,hr.length,hw.1,hw.2,List.drop_zero,Nat.sub_zero,<- hr.length,List.take_length]
     refine .mk (v:=.ref p) .refl J rfl ?_ I3.sr;rw[e];simp only[RD];exact⟨p,vs,rfl,hq,hr⟩
    ·refine HT.getItem_tuple_cut ht (Heap.IsSliceOf.new ..) P1 P2 (by rw[hlen];exact hw) ?_ (by rw[hlen];exact hz)
     rw[hlen];refine Xbl (vs:=Xfr vs li hi') (J.laid (t':=s3.toks) (fun b ob q=>Heap.get?_push_of_some _ q) (Nat.le_refl _) ?_) (J.hok.fresh (Nat.le_refl _)) I3.sr (Xn8 hr li hi')
     exact⟨Nat.le_trans (Xd7 vs li hi') hz,_,(r.drop (HT.sIx vs.length 0 li)).take (HT.sIx vs.length vs.length hi'-HT.sIx vs.length 0 li),⟨_,Heap.get?_push_size _ rfl,rfl,_,rfl⟩⟩
   | ref n =>
    cases e4:Xd S3 n with
    | none=>simp[Xaa,e4] at nb3
    | some xs =>
     obtain⟨b,vs,k1,k2,k3⟩:=I3.list e4;simp only[RD] at rd3;obtain⟨b',rfl,k4⟩:=rd3;rw[k1] at k4;cases k4;cases rv;obtain⟨its,r,ht,hz⟩:=J.list (.of k2);have hlen:=r.length;refine fin slot_list_getitem.lookup ht.isList.typeIs ?_;refine wpAny_getItem_list_slice ht.isList (Heap.IsSliceOf.new ..) P1 P2 .none (by simp) ?_ (by rw[List.size_toArray]<;>omega)
     rw[Xhk,<- hlen];have e5:Xaa (.ref n) li hi' S3=.ok (.ref S3.length) (S3++[.lst (cut xs li hi')]):=by simp only[Xaa,e4]
     rw[e5];refine Xbm (vs:=Xfr vs li hi') (J.laid (t':=s3.toks) (fun b ob q=>Heap.get?_push_of_some _ q) (Nat.le_refl _) ?_) (J.hok.fresh (Nat.le_refl _)) I3.sr (Xn8 k3 li hi')
     exact⟨Nat.le_trans (Xd7 vs li hi') hz,_,0,(r.drop (HT.sIx vs.length 0 li)).take (HT.sIx vs.length vs.length hi'-HT.sIx vs.length 0 li),Heap.get?_push_size _ rfl⟩
   | _=>exact absurd rfl nb3
end
theorem Xun{K:PySem.W.Frag}{k:Kd}{t1 t2:Ty}{n1 n2:Str}{T1 T2 U:String}{b:Bool}(h1:Xa0 t1=some (n1,T1))(h2:Xa0 t2=some (n2,T2))(hk:Xep k=some U)(h:Yl k [t1,t2]=some b) :
  PySem.W.kitAny K (.type U) [.type T1,.type T2]=some b:=by
 simp only[Yl] at h;unfold PySem.W.kitAny;cases e1:isT k t1 with
 | none=>rw[e1] at h;cases h
 | some c1 =>
  rw[e1] at h;rw[Xf4 h1 hk e1 K];cases c1 with
  | true=>cases h;rfl
  | false =>
   dsimp only at h ⊢;unfold PySem.W.kitAny;cases e2:isT k t2 with
   | none=>rw[e2] at h;cases h
   | some c2 =>
    rw[e2] at h;rw[Xf4 h2 hk e2 K];cases c2 with
    | true=>cases h;rfl
    | false=>cases h;rfl
section
variable{X:Cx}{pins:List (Addr×Obj)}{σ:L2.St}{H:Hp}{s:Shared}{ρ:List Addr}{S S':Sto}{env:En}{a:Expr}{fa:En->Sto->R D}{pos:Pos}
theorem Xyl {t1 t2:Ty} {n1 n2:Str} {T1 T2:String} {p0 q1 q2 p3:Pos} {k3:Nat} (h1:Xa0 t1=some (n1,T1)) (h2:Xa0 t2=some (n2,T2)) (hb:∀ x∈blts,X.mg x=none) (hg0:Gl X "isinstance") (g1:Gl X n1) (g2:Gl X n2) (o1:Yt n1=true) (o2:Yt n2=true) (ha:DE X a fa) (hst:Yp a=true) :
  DE X (.Call (.Name "isinstance" p0) [a,.Tuple [.Name n1 q1,.Name n2 q2] k3 p3] [] pos) (fun env S=>(fa env S).bind fun x S=>match (kdD S x).bind fun k=>Yl k [t1,t2] with|some r=>.ok (.bl r) S|none=>.bad):=by
 intro pins s σ H ρ S env I nb;dsimp only at nb ⊢;obtain⟨a1,_,a3⟩:=Xak o1;obtain⟨b1,_,b3⟩:=Xak o2;refine wpAny_Call_Name_kw (Yn I.inv hg0 (hb _ (by decide)) (u:=.builtin "isinstance") (by decide+kernel) ?_)
 refine PyProof.Rows.callWith_builtin1 ?_ (Xp hst) rfl;rw[Xp hst];generalize hr:((fa env S).bind fun x S=>match (kdD S x).bind fun k=>Yl k [t1,t2] with|some r=>R.ok (D.bl r) S|none=>R.bad)=r at nb ⊢
 refine Calls.spliced_cons (ha.bind I (by rw[hr];exact nb) hr.symm (fun d S1 u s1 v H1 ρ1 e1 nb1 I1 rv rd st1=>?_) fun _ _ z=>z)
 refine Calls.spliced_cons (wpAny_Tuple_spliced (x1:=k3) (Calls.spliced_cons (Yn I1.inv g1 (hb _ (Xeq h1)) (Xdc h1) (Calls.spliced_cons (Yn I1.inv g2 (hb _ (Xeq h2)) (Xdc h2) (Calls.spliced_nil ⟨by show 2<=sizeLine;decide,?_⟩) b3 b1)) a3 a1)))
 refine Calls.spliced_nil ?_;cases q:(kdD S1 d).bind fun k=>Yl k [t1,t2] with
 | none=>rw[q] at nb1;exact absurd rfl nb1
 | some b =>
  obtain⟨k,k1,k2⟩:=Option.bind_eq_some_iff.mp q;rw[e1,q];have J:Inv X pins σ H1 { s1 with heap:=s1.heap.push { cls:=.type "tuple",data:=.seq #[.type T1,.type T2] } }:=I1.inv.kept (t':=s1.toks) fun b ob q=>Heap.get?_push_of_some _ q
  have I2:S0 X pins σ H1 { s1 with heap:=s1.heap.push { cls:=.type "tuple",data:=.seq #[.type T1,.type T2] } } ρ1 S1 env:=⟨J,I1.sr,I1.er⟩
  cases hU:Xep k with
  | none =>
   cases k with
   | exc c =>
    simp only[Yl] at k2;have z:isT (.exc c) t1=none:=by cases t1<;>simp only[Xa0,reduceCtorEq] at h1<;>rfl
    rw[z] at k2;cases k2
   | _=>cases hU
  | some U =>
   obtain⟨P,z1,z2,z3⟩:=Xsr I2 k1 hU rd rv;exact PySem.W.kia_tup (its:=[.type T1,.type T2]) z1 J.kIn z2 (Heap.get?_push_size _ rfl) (Xun h1 h2 hU k2) z3 fun tk=>OkP.pre st1 (Xg I1.sr (J.tok tk))
end
end Z
end
section
namespace Z
open PySem PySem.Spec PyProof.Rows L2
open Builtin.Slice (sliceAdjust slicePlaces)
noncomputable def Xdu{α:Type}(lo c:Int)(n:Nat)(xs:List α):List α:=(List.range n).filterMap fun(k:Nat)=>xs[(lo+(k:Int)*c).toNat]?
noncomputable def Yk{α:Type}(xs:List α)(l:Option Int)(c:Int):List α:=Xdu (sliceAdjust l none c xs.length).1 c (slicePlaces (sliceAdjust l none c xs.length).1 (sliceAdjust l none c xs.length).2 c) xs
theorem Xlw{K:PySem.W.Frag}{ρ:List Addr}{H:Hp}{xs:List D}{vs:List V}(h:RDs K ρ H xs vs)(ix:Nat->Nat):∀ ks:List Nat,RDs K ρ H (ks.filterMap fun k=>xs[ix k]?) (ks.filterMap fun k=>vs[ix k]?)
 | []=>.nil
 | k::ks=>by
  cases e:xs[ix k]? with
  | none =>
   have e2:=h.none e;simp only[List.filterMap_cons,e,e2];exact Xlw h ix ks
  | some d =>
   obtain⟨v,e2,r⟩:=h.get e;simp only[List.filterMap_cons,e,e2];exact .cons r (Xlw h ix ks)
theorem Xf5{xs:List V}{us:List Value}(h:Vals xs us)(ix:Nat->Nat):∀ ks:List Nat,Vals (ks.filterMap fun k=>xs[ix k]?) (ks.filterMap fun k=>us[ix k]?)
 | []=>.nil
 | k::ks=>by
  cases e:xs[ix k]? with
  | none =>
   have e2:us[ix k]?=none:=by rw[List.getElem?_eq_none_iff] at e ⊢;rw[<- h.length];exact e
   simp only[List.filterMap_cons,e,e2];exact Xf5 h ix ks
  | some d =>
   obtain⟨v,e2,r⟩:=h.get e;simp only[List.filterMap_cons,e,e2];exact .cons r (Xf5 h ix ks)
theorem Xn9{K:PySem.W.Frag}{ρ:List Addr}{H:Hp}{xs:List D}{vs:List V}(h:RDs K ρ H xs vs)(l:Option Int)(c:Int):RDs K ρ H (Yk xs l c) (Yk vs l c):=by
 unfold Yk;rw[h.length];exact Xlw h _ _
theorem Xiv{xs:List V}{us:List Value}(h:Vals xs us)(l:Option Int)(c:Int):Vals (Yk xs l c) (Yk us l c):=by
 unfold Yk;rw[h.length];exact Xf5 h _ _
theorem Xoa{lo hi c:Int}{n:Nat}(hc:c<0)(h1:lo<=(n:Int)-1)(h2:-1<=hi):slicePlaces lo hi c<=n:=by
 unfold slicePlaces;rw[if_neg (by omega)]
 split
 ·have:(lo-hi-1)/(-c)<=lo-hi-1:=Int.ediv_le_self _ (by omega)
  omega
 ·simp
theorem Xe4{l:Option Int}{c:Int}{n:Nat}(hc:c<0):(sliceAdjust l none c n).1<=(n:Int)-1/\(sliceAdjust l none c n).2 = -1:=by
 unfold sliceAdjust;simp only[hc,if_true,and_true];cases l with
 | none=>exact Int.le_refl _
 | some v=>dsimp only;split<;>omega
theorem Xf6{α:Type}(xs:List α){l:Option Int}{c:Int}(hc:c<0):(Yk xs l c).length<=xs.length:=by
 unfold Yk Xdu;refine Nat.le_trans (List.length_filterMap_le _ _) ?_;rw[List.length_range];exact Xoa hc (Xe4 hc).1 (by rw[(Xe4 hc).2];omega)
section
variable{prog:Program}{w:World}{A:Around}{E:Value->Shared->Prop}{s:Shared}
theorem Xiw{sl:Addr}{vl vs:Value}{lo:Option Int}{c:Int}{n:Nat}{Q:Int×Int×Nat->Shared->Prop}(hc:c<0)(hs:s.heap.IsSliceOf sl vl .none vs)(pl:IsPart vl lo)(ps:IsPart vs (some c))
  (h:Q ((sliceAdjust lo none c n).1,c,slicePlaces (sliceAdjust lo none c n).1 (sliceAdjust lo none c n).2 c) s):wpAny (model prog w) A (Builtin.Slice.sliceApplied (.ref sl) (pure (n:Int))) Q E s:=by
 obtain⟨os,hos,hcs,hds⟩:=id hs;unfold Builtin.Slice.sliceApplied Builtin.Slice.sliceFields;refine wpAny_bind (wpAny_bind (wpAny_field hos hds (x:=vl) rfl (wpAny_bind (wpAny_field hos hds (x:=.none) rfl (wpAny_bind (wpAny_field hos hds (x:=vs) rfl (wpAny_pure ?_)))))));refine wpAny_bind (HT.slicePart_ ps ?_);show wpAny _ _ (if (c==0)=true then _ else _) _ _ s
 rw[if_neg (by simp;omega)]
 refine wpAny_bind (HT.slicePart_ pl (wpAny_bind (HT.slicePart_ .none (wpAny_bind (wpAny_pure ?_)))));exact wpAny_pure h
theorem Xlx{t sl:Addr}{its:List Value}{vl vs:Value}{lo:Option Int}{c:Int}{Q:Value->Shared->Prop}(hc:c<0)(ht:IsTup s.heap t its.toArray)(hs:s.heap.IsSliceOf sl vl .none vs)(pl:IsPart vl lo)(ps:IsPart vs (some c))
  (h:Q (.ref s.heap.objs.size) { s with heap:=s.heap.push { cls:=.type "tuple",data:=.seq (Yk its lo c).toArray } }) (hsz:its.length<=sizeLine):wpAny (model prog w) A (getItem (.ref t) (.ref sl)) Q E s:=by
 have hso:sizeOk (.seq (Yk its lo c).toArray):=by
  show(Yk its lo c).toArray.size<=sizeLine;rw[List.size_toArray];exact Nat.le_trans (Xf6 its hc) hsz
 obtain⟨os,hos,hcs,hds⟩:=id hs;have hTs:s.TypeIs (.ref sl) "slice" := ⟨os,hos,hcs⟩;unfold getItem
 try with_reducible refine wpAny_holding ?_
 first|refine wpAny_bind (wpAny_pure ?_)|skip
 refine wpAny_bind (wpAny_sequenceKey ht.typeIs (by decide) (wpAny_bind (wpAny_callSpecial?_slot (name:=Str.ofString "__getitem__") ht.typeIs PyProof.Rows.slot_tuple_getitem (wpAny_call_entry PyProof.Rows.slot_tuple_getitem ht.typeIs entry_tuple_getitem ?_ (args_tuple_getitem _ _)))))
 show wpAny _ _ (Builtin.Tuple.tupleItemsOf (.ref t) >>= _) _ _ s;refine wpAny_bind (tupleItemsOf_ ht (wpAny_bind (wpAny_typeOf hTs ?_)));rw[if_pos (by decide),List.size_toArray]
 refine wpAny_bind (Xiw hc hs pl ps ?_);show wpAny _ _ (if ((sliceAdjust lo none c its.length).1==0&&c==1&&slicePlaces (sliceAdjust lo none c its.length).1 (sliceAdjust lo none c its.length).2 c==its.length)=true then _ else _) _ _ s
 have hn:(c==1)=false:=by simp;omega
 rw[if_neg (by rw[hn];simp)]
 have e:((List.range (slicePlaces (sliceAdjust lo none c its.length).1 (sliceAdjust lo none c its.length).2 c)).filterMap fun(k:Nat)=>its.toArray[((sliceAdjust lo none c its.length).1+(k:Int)*c).toNat]?)=Yk its lo c:=by
  unfold Yk Xdu;simp
 rw[e]
 first
  | exact wpAny_bind (m:=Builtin.Tuple.tupleExact _) (wpAny_newObj_type (wpAny_pure ⟨_,rfl,wpAny_pure h⟩) hso)
  | exact wpAny_bind (wpAny_bind (m:=Builtin.Tuple.tupleExact _) (wpAny_newObj_type (wpAny_pure ⟨_,rfl,wpAny_pure h⟩) hso))
end
theorem Xob(its:List Value)(lo:Option Int){c:Int}(hc:c<0):slicePick its.toArray lo none (some c)=(Yk its lo c).toArray:=by
 have hn:¬ c>0:=by omega
 have e1:(sliceBounds lo none (some c) its.length).1=(sliceAdjust lo none c its.length).1:=by
  unfold sliceBounds sliceAdjust;simp only[Option.getD_some,hn,hc,if_true,if_false];cases lo with
  | none=>rfl
  | some v=>dsimp only;split<;>omega
 have e2:(sliceBounds lo none (some c) its.length).2.1 = -1:=by
  unfold sliceBounds;simp only[Option.getD_some,hn,if_false]
 have e3:(sliceBounds lo none (some c) its.length).2.2=c:=rfl;unfold slicePick Yk Xdu;rw[List.size_toArray,e1,e2,e3,(Xe4 hc).2];generalize (sliceAdjust lo none c its.length).1=a;have e4:slicePlaces a (-1) c=(if a > -1 then (a - -1-c-1)/(-c) else 0).toNat:=by
  unfold slicePlaces;rw[if_neg hn];congr 1;split
  ·have:a - -1-c-1=(a - -1-1)+1*(-c):=by omega
   rw[this,Int.add_mul_ediv_right _ _ (by omega)]
  ·rfl
 unfold sliceRange;simp only[hn,if_false];rw[e4,List.filterMap_map];congr 2
 funext k
 simp only[Function.comp,List.getElem?_toArray];rw[Int.mul_comm]
theorem Xer{α β:Type}{f g:α->Option β}:∀ {l:List α},(∀ x∈l,f x=g x)->l.filterMap f=l.filterMap g
 | [],_=>rfl
 | x::l,h=>by rw[List.filterMap_cons,List.filterMap_cons,h x (by simp),Xer fun y hy=>h y (by simp[hy])]
theorem Xix{α:Type}:∀ (zs:List α),(List.range ((zs.length+1)/2)).filterMap (fun j=>zs[2*j]?)=alt zs
 | []=>by simp[alt]
 | [x]=>by simp[alt,List.range_succ]
 | x::y::r=>by
  have e:((x::y::r).length+1)/2=(r.length+1)/2+1:=by simp only[List.length_cons];omega
  rw[e,List.range_succ_eq_map,List.filterMap_cons,List.filterMap_map];simp only[Nat.mul_zero,gZ0,alt];congr 1;rw[<- Xix r];congr 1
theorem Xuo{α:Type}(xs:List α):Yk xs none (-1)=xs.reverse:=by
 unfold Yk Xdu;have e1:(sliceAdjust none none (-1) (xs.length:Int))=((xs.length:Int)-1,-1):=rfl;rw[e1];have e2:slicePlaces ((xs.length:Int)-1) (-1) (-1)=xs.length:=by
  unfold slicePlaces;rw[if_neg (by decide)]
  split
  ·simp
  ·omega
 dsimp only;rw[e2];have:∀ (n:Nat) (ys:List α),ys.length=n->(List.range n).filterMap (fun k=>ys[k]?)=ys:=by
  intro n
  induction n with
  | zero=>intro ys h;rw[List.eq_nil_of_length_eq_zero h];rfl
  | succ n ih =>
   intro ys h;cases ys with
   | nil=>cases h
   | cons y ys =>
    rw[List.range_succ_eq_map,List.filterMap_cons,List.filterMap_map];simp only[gZ0];congr 1;exact ih ys (by simpa using h)
 rw[<- this xs.length xs.reverse (by simp)]
 refine Xer fun k hk=>?_
 have hk:=List.mem_range.mp hk;rw[List.getElem?_reverse hk];congr 1;omega
theorem Xup{α:Type}(k:Bool)(xs:List α):Yk xs (if k then some (-2) else none) (-2)=alt (xs.reverse.drop (if k then 1 else 0)):=by
 have key:∀ (lo:Option Int) (d:Nat),(sliceAdjust lo none (-2) (xs.length:Int)).1=max ((xs.length:Int)-1-d) (-1)->Yk xs lo (-2)=alt (xs.reverse.drop d):=by
  intro lo d h1;rw[<- Xix];unfold Yk Xdu;rw[h1,(Xe4 (by decide)).2]
  have e2:slicePlaces (max ((xs.length:Int)-1-d) (-1)) (-1) (-2)=((xs.reverse.drop d).length+1)/2:=by
   unfold slicePlaces;rw[if_neg (by decide),List.length_drop,List.length_reverse]
   have:(- -2:Int)=2:=rfl;rw[this];split<;>omega
  rw[e2];refine Xer fun j hj=>?_
  have hj:=List.mem_range.mp hj;rw[List.length_drop,List.length_reverse] at hj;rw[List.getElem?_drop,List.getElem?_reverse (by omega)]
  congr 1;omega
 cases k with
 | false=>exact key none 0 (by unfold sliceAdjust;simp;omega)
 | true=>exact key (some (-2)) 1 (by unfold sliceAdjust;simp;omega)
noncomputable def Xa7(l:Option Int)(c:Int)(x:D)(S:Sto):R D :=
 match x with
 | .tup xs=>.ok (.tup (Yk xs l c)) S
 | .ref n=>match Xd S n with
  | some xs=>.ok (.ref S.length) (S++[.lst (Yk xs l c)])
  | none=>.bad
 | _=>.bad
theorem Xqm(x:D)(S:Sto):Xa7 none (-1) x S=Xfw x S:=by
 cases x<;>simp only[Xa7,Xfw,Xuo]<;>rfl
theorem Xqn(k:Bool)(x:D)(S:Sto):Xa7 (if k then some (-2) else none) (-2) x S=Xei k x S:=by
 cases x<;>simp only[Xa7,Xei,Xup]<;>rfl
section
variable{X:Cx}{pins:List (Addr×Obj)}{σ:L2.St}{H:Hp}{s:Shared}{ρ:List Addr}{S S':Sto}{env:En}{a:Expr}{fa:En->Sto->R D}{pos p2:Pos}
theorem X00{lo:Option Expr}{st:Expr}{l:Option Int}{c:Int}(hc:c<0)(ha:DE X a fa)(hl:DO X lo (fun _ S=>.ok (l.map D.int) S))(hh:DO X (some st) (fun _ S=>.ok (some (.int c)) S)) :
  DE X (.Subscript a (.Slice lo none (some st) p2) pos) (fun env S=>(fa env S).bind fun x S=>Xa7 l c x S):=by
 intro pins s σ H ρ S env I nb;dsimp only at nb ⊢;refine Subscript_ (ha.bind I nb rfl (fun d S1 u s1 v H1 ρ1 e1 nb1 I1 rv rd st1=>?_) fun _ _ z=>z)
 rw[e1];have cst:∀ {e:Option Expr} {o:Option D} {s2:Shared} {H2:Hp} {ρ2:List Addr} {Q:Value->Shared->Prop} {E:Value->Shared->Prop},DO X e (fun _ S=>.ok o S)->S0 X pins σ H2 s2 ρ2 S1 env->(∀ u s' H' ρ',S0 X pins σ H' s' ρ' S1 env->PartR X.K ρ' H' o u->Stp X.K ρ2 ρ' H2 H'->Q u s') ->
   wpAny (model X.prog X.w) X.A (evalPart e X.env) Q E s2:=fun he I2 hQ=>by
  refine wpAny_mono (he pins _ σ _ _ S1 env I2 (fun z=>nomatch z)) (fun u s' ⟨o',S2,e,H',ρ',J,sr,st,pr⟩=>?_) fun x s' ⟨_,_,e,_⟩=>nomatch e
  cases e;exact hQ u s' H' ρ' (I2.step J sr st) pr st
 refine wpAny_Slice (cst hl I1 fun vl s2 H2 ρ2 I2 pl st2=>?_)
 rw[evalPart_none];refine wpAny_pure ?_;refine cst hh I2 fun vs s3 H3 ρ3 I3 ps st3=>?_
 have P1:IsPart vl l:=Xdt pl (by cases l<;>rfl)
 have P2:IsPart vs (some c):=Xdt ps rfl;have rd3:=(rd.mono st2).mono st3;have J:Inv X pins σ H3 { s3 with heap:=s3.heap.push { cls:=.type "slice",data:=.fields #[vl,.none,vs] } }:=I3.inv.kept (t':=s3.toks) fun b ob q=>Heap.get?_push_of_some _ q
 have fin:∀ {T id:String},typeLookup (.type T) "__getitem__" = pure (some (.builtin id))->({ s3 with heap:=s3.heap.push { cls:=.type "slice",data:=.fields #[vl,.none,vs] } }:Shared).TypeIs u T ->
   wpAny (model X.prog X.w) X.A (getItem u (.ref s3.heap.objs.size)) (OkP X pins σ ρ3 H3 (Xa7 l c d S1)) (ExP X pins σ ρ3 H3 (Xa7 l c d S1)) { s3 with heap:=s3.heap.push { cls:=.type "slice",data:=.fields #[vl,.none,vs] } } ->
   wpAny (model X.prog X.w) X.A (subscriptTail a (.Slice lo none (some st) p2) u (.ref s3.heap.objs.size)) (OkP X pins σ ρ H (Xa7 l c d S1)) (ExP X pins σ ρ H (Xa7 l c d S1)) { s3 with heap:=s3.heap.push { cls:=.type "slice",data:=.fields #[vl,.none,vs] } }:=fun t1 t2 g =>
  tail_any (ops:=[u,.ref s3.heap.objs.size]) t2 t1 (wpAny_mono g (fun _ _ z=>OkP.pre ((st1.trans st2).trans st3) z) fun _ _ z=>ExP.pre ((st1.trans st2).trans st3) z) (by with_unfolding_all rfl)
 cases d with
 | tup xs =>
  simp only[RD] at rd3;obtain⟨p,ws,rfl,hq,hr⟩:=rd3;cases rv;obtain⟨its,r,ht,hz⟩:=J.tuple hq;have hlen:=r.length;refine fin PyProof.Rows.slot_tuple_getitem.lookup ht.typeIs ?_;refine Xlx hc ht (Heap.IsSliceOf.new ..) P1 P2 ?_ (by omega)
  refine Xbl (vs:=Yk ws l c) (J.laid (t':=s3.toks) (fun b ob q=>Heap.get?_push_of_some _ q) (Nat.le_refl _) ?_) (J.hok.fresh (Nat.le_refl _)) I3.sr (Xn9 hr l c)
  exact⟨Nat.le_trans (Xf6 ws hc) hz,_,Xiv r l c,⟨_,Heap.get?_push_size _ rfl,rfl,_,rfl⟩⟩
 | ref n =>
  cases e4:Xd S1 n with
  | none=>simp[Xa7,e4] at nb1
  | some xs =>
   obtain⟨b,ws,k1,k2,k3⟩:=I3.list e4;simp only[RD] at rd3;obtain⟨b',rfl,k4⟩:=rd3;rw[k1] at k4;cases k4;cases rv;obtain⟨its,r,ht,hz⟩:=J.list (.of k2);have hlen:=r.length;refine fin slot_list_getitem.lookup ht.isList.typeIs ?_;refine wpAny_getItem_list_slice ht.isList (Heap.IsSliceOf.new ..) P1 .none P2 (by intro z;cases z;omega) ?_ (by rw[List.size_toArray]<;>omega)
   rw[Xob _ _ hc];have e5:Xa7 l c (.ref n) S1=.ok (.ref S1.length) (S1++[.lst (Yk xs l c)]):=by simp only[Xa7,e4]
   rw[e5];refine Xbm (vs:=Yk ws l c) (J.laid (t':=s3.toks) (fun b ob q=>Heap.get?_push_of_some _ q) (Nat.le_refl _) ?_) (J.hok.fresh (Nat.le_refl _)) I3.sr (Xn9 k3 l c)
   exact⟨Nat.le_trans (Xf6 ws hc) hz,_,0,Xiv r l c,Heap.get?_push_size _ rfl⟩
 | _=>exact absurd rfl nb1
theorem Xss{i:Int}{e:Expr}(h:mnC i e=true):DO X (some e) (fun _ S=>.ok (some (.int (-i))) S):=by
 unfold mnC at h;split at h
 ·rename_i x p
  split at h
  ·rename_i j u q
   have:=eq_of_beq h;subst this;exact Xkk (Xsq (fa:=fun _ S=>.ok (.int i) S) d_int)
  ·cases h
 ·cases h
theorem Xoc{i:Int}{l:Option Int}{e:Expr}(hi:0<i)(ha:DE X a fa)(h:Xf2 i l e=true):DE X (.Subscript a e pos) (fun env S=>(fa env S).bind fun x S=>Xa7 (l.map (- ·)) (-i) x S):=by
 unfold Xf2 at h;split at h
 ·rename_i lo st p
  rw[bA0] at h;refine X00 (by omega) ha ?_ (Xss h.1)
  have h2:=h.2;split at h2
  ·exact Xkj
  ·exact Xss h2
  ·cases h2
 ·cases h
end
end Z
end
section
namespace Z
open PySem PySem.Spec PyProof.Rows L2
section
variable{X:Cx}{pins:List (Addr×Obj)}{σ:L2.St}{H:Hp}{s:Shared}{ρ:List Addr}{S:Sto}{env:En}{a b:Expr}{es:List Expr}{fa:En->Sto->R D}{g:En->Sto->R (List D)}{p pos pos':Pos}
end
end Z
end
section
namespace Z
open PySem PySem.Spec PyProof.Rows L2
section
variable(cm:Bool)(F:Fn)(G:List D)(fns:List (Str×Nat×Bool))(gns:List Str)
structure PF(X:Cx):Prop where
 blt:∀ x∈blts,X.mg x=none
 fn:∀ (f:Nat) nm ar fl,fns[f]?=some (nm,ar,fl)->(fl=true->cm=true)->∃ g fd ps k,FnD fl X.prog X.w X.K X.mg X.base k g fd ps (F f)/\RoomC fl k X.A/\Binds X.K fd ps []/\X.mg nm=some (.ref g)/\PySem.W.keepIn X.K (.ref g)=true/\ps.length=ar
 glb:∀ (k:Nat) nm,gns[k]?=some nm->∃ u d,X.mg nm=some u/\G[k]?=some d/\∀ ρ H,∃ v,RelV v u/\RD X.K ρ H d v
 cal:∀ (f:Nat) (nm:Str),Xbg f nm G=true->∃ ar fl,fns[f]?=some (nm,ar,fl)/\(∀ a,PySem.W.nsIn X.K mainGlobals nm=some (some (.ref a))->X.mg nm=some (.ref a))/\∀ xs S,F f xs S≠.bad->xs.length=ar
 units:X.A.units+200<cLine
 gd:X.A.guards=some []
 calm:cm=true->X.calm=true
 err:ErrOk X.K
theorem PF.blk{X:Cx}(h:PF cm F G fns gns X)(pins:List (Addr×Obj))(s:Shared)(H:Hp)(sc:Scope)(cl:List (Str×Addr))(C:Addr)(own:List Str)(fp:List Addr):PF cm F G fns gns (blk X pins s H sc cl C own fp) :=
 ⟨h.blt,h.fn,h.glb,h.cal,h.units,h.gd,h.calm,h.err⟩
end
section
variable{X:Cx}{e:Expr}{f g:En->Sto->R D}
theorem DE.congr(h:DE X e f)(q:∀ env S,g env S=f env S):DE X e g:=by
 have:g=f:=funext fun env=>funext fun S=>q env S
 rw[this];exact h
theorem DT.congr{f g:En->Sto->R Bool}(h:DT X e f)(q:∀ env S,g env S=f env S):DT X e g:=by
 have:g=f:=funext fun env=>funext fun S=>q env S
 rw[this];exact h
theorem Xym{top:Bool}(hnd:X.N.Nodup)(ht:top=true->∀ x,X.fn x=true)(is:List Nat)(es:List Expr)(h:mtT.namesB top X.env.scope X.N is es=true):(∀ E,PGs (X.wish E) es (gNs is))/\(assignEach es X.env).length=is.length/\(assignEach es X.env).findIdx? (·.1)=none:=by
 have key:∀ (is:List Nat) (es:List Expr),mtT.namesB top X.env.scope X.N is es=true->∃ xs:List (Str×Pos),es=xs.map (fun x=>Expr.Name x.1 x.2)/\is.length=xs.length/\∀ (j i:Nat) (x:Str×Pos),is[j]?=some i->xs[j]?=some x->X.N[i]?=some x.1/\Loc X.env.scope x.1/\(X.fn x.1=true\/X.env.scope.names.lookup x.1=some .local):=by
  intro is
  induction is with
  | nil =>
   intro es h;cases es with
   | nil=>exact⟨[],rfl,rfl,fun j i x e1 _=>by simp at e1⟩
   | cons _ _=>simp[mtT.namesB] at h
  | cons i is ih =>
   intro es h;cases es with
   | nil=>simp[mtT.namesB] at h
   | cons e es =>
    simp only[mtT.namesB,bA0] at h;obtain⟨x,h1,h2⟩:=Xc h.1;obtain⟨p,rfl⟩:=Xan h1;rw[bA0,decide_eq_true_eq] at h2;obtain⟨xs,e1,e2,e3⟩:=ih es h.2;obtain⟨l1,l2⟩:=Xcc rfl ht h2.2;refine⟨(x,p)::xs,by rw[e1];rfl,by simp[e2],fun j i' x' q1 q2=>?_⟩
    cases j with
    | zero=>simp at q1 q2;subst q1 q2;exact⟨h2.1,l1,l2⟩
    | succ j=>exact e3 j i' x' (by simpa using q1) (by simpa using q2)
 obtain⟨xs,e1,e2,e3⟩:=key is es h;subst e1;have nm:=Xe0 xs X.env;exact⟨fun E=>Xnr (X:=X.wish E) is xs hnd e2 e3,by rw[nm.1,e2],nm.2⟩
theorem X2e{top:Bool}{is:List Nat}{tg:Expr}(hnd:X.N.Nodup)(ht:top=true->∀ x,X.fn x=true)(h:mtT top X.env.scope X.N (.tup is) tg=true):∃ es k p,tg=.Tuple es k p/\(∀ E,PGs (X.wish E) es (gNs is))/\(assignEach es X.env).length=is.length/\(assignEach es X.env).findIdx? (·.1)=none:=by
 simp only[mtT] at h;obtain⟨es,h1,h⟩:=Xc h;obtain⟨k,p,rfl⟩:=Xal h1;exact⟨es,k,p,rfl,Xym hnd ht is es h⟩
theorem dgB{top:Bool}{sc:Scope}{N:List Str}{t:Tg}{tg:Expr}(hN:X.N=N)(hs:X.env.scope=sc)(hnd:N.Nodup)(hc:Xxv t=false->X.calm=true)(ht:top=true->∀ x,X.fn x=true)(h:mtT top sc N t tg=true):DG X tg t:=by
 subst hN hs;cases t with
 | var i =>
  simp only[mtT] at h;obtain⟨x,h1,h2⟩:=Xc h;obtain⟨p,rfl⟩:=Xan h1;rw[bA0,decide_eq_true_eq] at h2;obtain⟨l1,l2⟩:=Xcc rfl ht h2.2;exact Xtt hnd h2.1 l1 l2
 | tup is =>
  obtain⟨es,k,p,rfl,q1,q2,q3⟩:=X2e hnd ht h;exact Xxd (hc rfl) q1 q2 q3
 | nst i is =>
  simp only[mtT] at h;obtain⟨es,h1,hq⟩:=Xc h;obtain⟨k,p,rfl⟩:=Xal h1;clear h;obtain⟨⟨a,b⟩,h2,h⟩:=Xc hq;have e:=Xua h2;subst e;rw[bA0] at h;obtain⟨x,h3,h4⟩:=Xc h.1;obtain⟨es2,h5,h6⟩:=Xc h.2;obtain⟨p2,e2⟩:=Xan h3;obtain⟨k3,p3,e3⟩:=Xal h5;dsimp only at e2 e3;subst e2 e3;rw[bA0,decide_eq_true_eq] at h4;obtain⟨l1,l2⟩:=Xcc rfl ht h4.2;obtain⟨q1,q2,q3⟩:=Xym hnd ht is es2 h6;exact Xxe (hc rfl) (fun E=>Xj4 (X:=X.wish E) hnd h4.1 l1 l2) q1 q2 q3
end
theorem Xkl{F:Fn}{G:List D}{cm:Bool}{fns:List (Str×Nat×Bool)}{gns:List Str}{sc:Scope}{N:List Str}:∀ (es:Exs) (xs:List Expr),mts cm fns gns sc N es xs=true->∀ env S ds S',evs F G es env S=.ok ds S'->ds.length=xs.length
 | .nil,[],_,env,S,ds,S',h=>by simp only[evs] at h;cases h;rfl
 | .nil,_::_,h,_,_,_,_,_=>by simp[mts] at h
 | .cons _ _,[],h,_,_,_,_,_=>by simp[mts] at h
 | .cons e es,x::xs,h,env,S,ds,S',q=>by
  simp only[mts,bA0] at h;simp only[evs] at q;cases q1:ev F G e env S with
  | bad=>rw[q1] at q;cases q
  | ex _ _=>rw[q1] at q;cases q
  | ok d S1 =>
   rw[q1] at q;simp only[Rk0] at q;cases q2:evs F G es env S1 with
   | bad=>rw[q2] at q;cases q
   | ex _ _=>rw[q2] at q;cases q
   | ok ds' S2 =>
    rw[q2] at q;simp only[Rk0] at q;cases q;simp[Xkl es xs h.2 env S1 ds' _ q2]
theorem Y5{cm:Bool}{fns:List (Str×Nat×Bool)}{gns:List Str}{sc:Scope}{N:List Str}:∀ (es:Exs) (xs:List Expr),mts cm fns gns sc N es xs=true->xs.all Yp=true
 | .nil,[],_=>rfl
 | .nil,_::_,h=>by simp[mts] at h
 | .cons _ _,[],h=>by simp[mts] at h
 | .cons e es,x::xs,h=>by
  simp only[mts,bA0] at h;rw[List.all_cons,h.1.1,Y5 es xs h.2];rfl
theorem Xuq{k:Bl}{nm:Str}{b:Bool}{id:String}(h:Xlq k=some (nm,b,id)){X:Cx}(hsm:∃ o,X.K.lookup sysModules=some o)(hgd:X.A.guards=some [])(hun:X.A.units+200<cLine)(hc:Xlr k=false->X.calm=true):nm∈blts/\(if b then bootBuiltins nm=some (.builtin id)/\BlR X k (.builtin id) else bootBuiltins nm=some (.type id)/\BlR X k (.type id)):=by
 cases k<;>simp only[Xlq,Option.some.injEq,Prod.mk.injEq,reduceCtorEq] at h<;>obtain⟨rfl,rfl,rfl⟩:=h
 case len=>exact⟨by decide,PySem.boot_len,X0m⟩
 case min=>exact⟨by decide,by decide+kernel,X0q (hc rfl)⟩
 case max=>exact⟨by decide,by decide+kernel,X0p (hc rfl)⟩
 case sum=>exact⟨by decide,by decide+kernel,X0o (hc rfl)⟩
 case all=>exact⟨by decide,by decide+kernel,X0n (hc rfl)⟩
 case tuple=>exact⟨by decide,by decide+kernel,Xty⟩
 case list=>exact⟨by decide,by decide+kernel,Xxn⟩
 case repr=>exact⟨by decide,by decide+kernel,Xxu hsm hgd hun⟩
 case int=>exact⟨by decide,by decide+kernel,X0t⟩
section
variable{F:Fn}{G:List D}{cm:Bool}{fns:List (Str×Nat×Bool)}{gns:List Str}
theorem Xur{fx:Expr}(h:Xqc fx=true)(args:List Expr)(pos:Pos)(env:PySem.Env):eval (.Call fx args [] pos) env=(do callWith pos (<- eval fx env) [] (backTo pos (starEach args env)) (backToKw pos (keywordEach [] env))):=by
 cases fx<;>first|rfl|cases h
theorem X01{X:Cx}{fx e:Expr}{es:List Expr}{pos:Pos}{f:En->Sto->R D}{ga:En->Sto->R (List D)}(hp:PF cm F G fns gns X)(hc:cm=true)(hx:∀ (args:List Expr) (pos:Pos) (env:PySem.Env),eval (.Call fx args [] pos) env=(do callWith pos (<- eval fx env) [] (backTo pos (starEach args env)) (backToKw pos (keywordEach [] env))))
  (hf:DE X fx f) (ha:DA X (e::es) ga) (he:starEach (e::es) X.env=(false,eval e X.env)::starEach es X.env) (hpl:(backTo pos (starEach es X.env)).any (·.1)=false) :
  DE X (.Call fx (e::es) [] pos) (fun env S=>(f env S).bind fun x S=>match x with
   | .fn k nm=>if Xbg k nm G then (ga env S).bind fun xs S=>F k xs S else .bad
   | _=>.bad):=by
 intro pins s σ H ρ S env I nb;dsimp only at nb ⊢;rw[hx];refine wpAny_bind (hf.bind I nb rfl (fun d S1 u s1 v H1 ρ1 e1 nb1 I1 rv rd st1=>?_) fun _ _ z=>z)
 rw[e1];cases d with
 | fn k nm =>
  dsimp only at nb1 ⊢
  by_cases hi:Xbg k nm G=true
  ·rw[if_pos hi] at nb1 ⊢
   obtain⟨ar,fl,q1,q2,q3⟩:=hp.cal k nm hi;obtain⟨g,fd,ps,kk,c1,c2,c3,c4,c5,c6⟩:=hp.fn k nm ar fl q1 fun _=>hc
   simp only[RD] at rd;obtain⟨a,rfl,hn⟩:=rd;have:=(q2 a hn).symm.trans c4;cases this;cases rv;cases q:ga env S1 with
   | bad=>rw[q] at nb1;exact absurd rfl nb1
   | ex n S2=>exact PySem.W.callWith_K (h₀:=X.base) I1.inv.ok.mod.kin c5 (ha.ex I1 q fun x s' z=>⟨n,S2,rfl,z.pre st1⟩) he hpl
   | ok ds S2 =>
    rw[q] at nb1;simp only[Rk0] at nb1 ⊢;refine PySem.W.callWith_K (h₀:=X.base) I1.inv.ok.mod.kin c5 (ha.ok I1 q fun us s2 vs H2 ρ2 I2 rv2 rd2 st2=>⟨I2.inv.kIn,?_⟩) he hpl
    exact wpAny_mono (Xso c1 c2 c3 I2 rv2 rd2 (by rw[c6];exact q3 _ _ nb1) nb1) (fun u s2 z=>(z.pre st2).pre st1) fun x s2 z=>(z.pre st2).pre st1
  ·rw[if_neg hi] at nb1;exact absurd rfl nb1
 | _=>exact absurd rfl nb1
theorem Ye{X:Cx}{e:Expr}{f:En->Sto->R D}(h:DE X e f)(he:∀ whole,isTrue e X.env whole=(do let v <- whole;standAt e.pos;holding [v] (truthy v))):DE X e f/\DT X e (fun env S=>tst (f env S)):=⟨h,.of h he⟩
theorem DW.of{X:Cx}{op:BoolOp}{ys:List Expr}{p:Pos}{g:En->Sto->R Bool}(h:DT X (.BoolOp op ys p) g):DW X (.BoolOp op ys p) g:=fun _=>h
def Xyn(F:Fn)(G:List D)(X:Cx)(sc2:Scope)(N2:List Str)(PFY:Cx->Prop):Gens->List Comprehension->Prop
 | .cons t it ifs .nil,gens=>∃ tg iter cs,gens=[⟨tg,iter,cs,0⟩]/\Xaz iter=true/\mtT false sc2 N2 t tg=true/\DI X tg iter (evit F G it)/\∀ Y:Cx,Y.N=N2->Y.env.scope=sc2->PFY Y->DTs Y cs (evts F G ifs)
 | .cons t it ifs (.cons t2 it2 ifs2 .nil),gens=>∃ tg iter cs tg2 iter2 cs2,gens=[⟨tg,iter,cs,0⟩,⟨tg2,iter2,cs2,0⟩]/\Xaz iter=true/\Xaz iter2=true/\mtT false sc2 N2 t tg=true/\mtT false sc2 N2 t2 tg2=true/\DI X tg iter (evit F G it) /\
   (∀ Y:Cx,Y.N=N2->Y.env.scope=sc2->PFY Y->DTs Y cs (evts F G ifs))/\(∀ Y:Cx,Y.N=N2->Y.env.scope=sc2->PFY Y->DI Y tg2 iter2 (evit F G it2))/\∀ Y:Cx,Y.N=N2->Y.env.scope=sc2->PFY Y->DTs Y cs2 (evts F G ifs2)
 | _,_=>False
structure CompP(X:Cx)(elt:Expr)(gens:List Comprehension)(scope:Scope)(cpos:Pos)(own:List Str)(f:En->Sto->R D) where
 tg:Expr
 iter:Expr
 ifs:List Expr
 t:Tg
 fi:En->Sto->R Src
 tf:En->Sto->R Bool
 body:En->List D->Sto->R (List D)
 hg:gens=⟨tg,iter,ifs,0⟩::gens.tail
 hi:DI X tg iter fi
 hs:∀ x,foldedSetIterable iter X.env x=pure x
 hG:∀ pins s H cl C fp,DG (blk X pins s H scope cl C own fp) tg t
 hT:∀ pins s H cl C fp,DTs (blk X pins s H scope cl C own fp) ifs tf
 hB:∀ pins s H cl C fp Da,Xb3 (blk X pins s H scope cl C own fp) Da elt gens scope cpos 0 body
 eq:f=Xc8 fi t own.length tf body
theorem Xkm{X:Cx}{sc scope:Scope}{N:List Str}{gs:Gens}{elt:Expr}{xe:Ex}{gens:List Comprehension}{p:Pos}(hN:X.N=N)(hs:X.env.scope=sc)(hp:PF cm F G fns gns X)(hc:X.calm=true)(so:ScOk sc scope N (Xab scope))
  (hg:Xyn F G X (Xel scope sc) (Xar N (Xab scope)) (PF cm F G fns gns) gs gens) (he:∀ Y:Cx,Y.N=Xar N (Xab scope)->Y.env.scope=Xel scope sc->PF cm F G fns gns Y->DE Y elt (ev F G xe)) :
  Nonempty (CompP X elt gens scope p (Xab scope) (ev F G (.cmr false (Xab scope).length gs xe))):=by
 subst hN hs;have hY:∀ pins s H cl C fp,PF cm F G fns gns (blk X pins s H scope cl C (Xab scope) fp):=fun pins s H cl C fp=>PF.blk cm F G fns gns hp pins s H scope cl C (Xab scope) fp
 have hTg:∀ {t:Tg} {tg:Expr},mtT false (Xel scope X.env.scope) (Xar X.N (Xab scope)) t tg=true->∀ pins s H cl C fp,DG (blk X pins s H scope cl C (Xab scope) fp) tg t:=fun h pins s H cl C fp=>dgB (top:=false) rfl rfl so.nd (fun _=>hc) (fun z=>nomatch z) h
 match gs,hg with
 | .cons t it ifs .nil,hg =>
  obtain⟨tg,iter,cs,rfl,n1,m1,i1,t1⟩:=hg;refine⟨⟨tg,iter,cs,t,evit F G it,evts F G ifs,_,rfl,i1,Xcx n1,hTg m1,fun pins s H cl C fp=>t1 _ rfl rfl (hY pins s H cl C fp),fun pins s H cl C fp Da=>Xg6 rfl (he _ rfl rfl (hY pins s H cl C fp)),?_⟩⟩
  funext env S
  simp only[ev,Xc8];rfl
 | .cons t it ifs (.cons t2 it2 ifs2 .nil),hg =>
  obtain⟨tg,iter,cs,tg2,iter2,cs2,rfl,n1,n2,m1,m2,i1,t1,i2,t2'⟩:=hg;refine⟨⟨tg,iter,cs,t,evit F G it,evts F G ifs,_,rfl,i1,Xcx n1,hTg m1,fun pins s H cl C fp=>t1 _ rfl rfl (hY pins s H cl C fp),
   fun pins s H cl C fp Da=>Xnx hc rfl (i2 _ rfl rfl (hY pins s H cl C fp)) (Xcx n2) (hTg m2 pins s H cl C fp) (t2' _ rfl rfl (hY pins s H cl C fp)) (Xg6 rfl (he _ rfl rfl (hY pins s H cl C fp))),?_⟩⟩
  funext env S
  simp only[ev,Xc8];rfl
theorem Xqo {X:Cx} {k:Bl} {es:Exs} {x:Str} {p0 p:Pos} {y:Expr} {ys:List Expr} (hsm:∃ o,X.K.lookup sysModules=some o) (hgd:X.A.guards=some []) (hun:X.A.units+200<cLine) (hg:Gl X x) (hb:∀ x∈blts,X.mg x=none) (hc:Xlr k=false->X.calm=true) (h1:blB k x=true) (o1:(x==("__debug__" : Str))=false) (o3:x ≠ "__name__") (ih:DA X (y::ys) (evs F G es))
  (he:starEach (y::ys) X.env=(false,eval y X.env)::starEach ys X.env) (hpl:(backTo p (starEach ys X.env)).any (·.1)=false):DE X (.Call (.Name x p0) (y::ys) [] p) (ev F G (.blt k es)):=by
 unfold blB at h1;cases q:Xlq k with
 | none=>rw[q] at h1;cases h1
 | some z =>
  obtain⟨nm,b,id⟩:=z;rw[q] at h1;dsimp only at h1;have e1:x=nm:=of_decide_eq_true h1;subst e1;obtain⟨m1,m2⟩:=Xuq q hsm hgd hun hc;cases b with
  | true =>
   rw[if_pos rfl] at m2;exact(Xxs m2.2 hg (hb _ m1) m2.1 ih o3 o1 he hpl).congr fun env S=>by simp only[ev]
  | false =>
   rw[if_neg Bool.false_ne_true] at m2;exact(Xxt m2.2 hg (hb _ m1) m2.1 ih o3 o1 he hpl).congr fun env S=>by simp only[ev]
theorem Xqp{X:Cx}{k:Mt}{o:Ex}{es:Exs}{ox:Expr}{nm:Str}{ap cp:Pos}{y:Expr}{ys:List Expr}(h1:mtB k nm=true)(h2:Xln ox=true)(h3:(ap.endLine==cp.line)=true)(h4:(y::ys).length<29)(io:DE X ox (ev F G o))(ih:DA X (y::ys) (evs F G es))(st:(y::ys).all Yp=true) :
  DE X (.Call (.Attribute ox nm ap) (y::ys) [] cp) (ev F G (.mth k o es)):=by
 have hfew:((backTo cp (starEach (y::ys) X.env)).all (fun x=>!x.1)&&(backToKw cp (keywordEach [] X.env)).all (fun x=>x.1.isSome)&&decide ((y::ys).length+([]:List Keyword).length+(if ([]:List Keyword).isEmpty then 0 else 1)<30))=true:=by
  rw[Xqb st];have:(y::ys).length+([]:List Keyword).length+(if ([]:List Keyword).isEmpty then 0 else 1)<30:=by
   simp only[List.length_nil,List.isEmpty_nil,if_true];omega
  rw[decide_eq_true this];rfl
 rw[List.all_cons,bA0] at st;have rcv:∀ {m:Mt} (x:D) (S:Sto),(m=.append\/m=.count\/m=.index)->Xdn m x S=true->∃ n xs,x=.ref n/\Xd S n=some xs:=fun {m} x S hm h=>by
  rcases hm with rfl|rfl|rfl<;>(
   cases x with
   | ref n =>
    have h':(Xd S n).isSome=true:=h;obtain⟨xs,e⟩:=Option.isSome_iff_exists.mp h';exact⟨n,xs,rfl,e⟩
   | _=>cases h)
 cases k with
 | append =>
  have e1:nm = "append" := of_decide_eq_true h1;subst e1;exact(Xio (m:=.append) (id := "list.append") PySem.F.slot_list_append PySem.F.type_list_append Xqa (fun x S h=>rcv x S (.inl rfl) h) io ih (Xfy h2) hfew h3 (Xp st.1) (Yz st.2)).congr fun env S=>by simp only[ev]
 | count =>
  have e1:nm = "count" := of_decide_eq_true h1;subst e1;exact(Xio (m:=.count) (id := "list.count") PySem.F.slot_list_count PySem.F.type_list_count Xt1 (fun x S h=>rcv x S (.inr (.inl rfl)) h) io ih (Xfy h2) hfew h3 (Xp st.1) (Yz st.2)).congr fun env S=>by simp only[ev]
 | index =>
  have e1:nm = "index" := of_decide_eq_true h1;subst e1;exact(Xio (m:=.index) (id := "list.index") PySem.F.slot_list_index PySem.F.type_list_index Xt2 (fun x S h=>rcv x S (.inr (.inr rfl)) h) io ih (Xfy h2) hfew h3 (Xp st.1) (Yz st.2)).congr fun env S=>by simp only[ev]
 | _=>cases h1
theorem Xqq {X:Cx} {sc:Scope} {a:Expr} {fa:En->Sto->R D} {pos p0 p1:Pos} {t:Ty} {nm:Str} (er:ErrOk X.K) (hb:∀ x∈blts,X.mg x=none) (hg0:Gl X "isinstance") (hg:Gl X nm) (hok:Yt nm=true) (ht:tyB sc t nm=true) (ha:DE X a fa) (hst:Yp a=true) :
  DE X (.Call (.Name "isinstance" p0) [a,.Name nm p1] [] pos) (fun env S=>(fa env S).bind fun x S=>match (kdD S x).bind fun k=>Yl k [t] with|some r=>.ok (.bl r) S|none=>.bad):=by
 cases t with
 | cls c=>exact Xn7 er (.inl ⟨c,rfl,of_decide_eq_true ht⟩) hb hg0 hg hok ha hst
 | valueError=>exact Xn7 er (.inr ⟨rfl,of_decide_eq_true ht⟩) hb hg0 hg hok ha hst
 | int=>have e:=of_decide_eq_true ht;subst e;exact Xch (t:=.int) rfl hb hg0 hg hok ha hst
 | bool=>have e:=of_decide_eq_true ht;subst e;exact Xch (t:=.bool) rfl hb hg0 hg hok ha hst
 | str=>have e:=of_decide_eq_true ht;subst e;exact Xch (t:=.str) rfl hb hg0 hg hok ha hst
 | tuple=>have e:=of_decide_eq_true ht;subst e;exact Xch (t:=.tuple) rfl hb hg0 hg hok ha hst
 | list=>have e:=of_decide_eq_true ht;subst e;exact Xch (t:=.list) rfl hb hg0 hg hok ha hst
 | dict=>have e:=of_decide_eq_true ht;subst e;exact Xch (t:=.dict) rfl hb hg0 hg hok ha hst
theorem Xst{sc:Scope}{t:Ty}{nm:Str}(hb:Xis t=true)(h:tyB sc t nm=true):∃ T,Xa0 t=some (nm,T):=by
 cases t with
 | cls c=>cases hb
 | valueError=>cases hb
 | _=>have e:=of_decide_eq_true h;subst e;exact⟨_,rfl⟩
theorem Xus {X:Cx} {sc:Scope} {a y:Expr} {fa:En->Sto->R D} {pos p0:Pos} {ts:List Ty} (er:ErrOk X.K) (hb:∀ x∈blts,X.mg x=none) (hs:X.env.scope=sc) (hg0:Gl X "isinstance") (ht:tyM sc ts y=true) (ha:DE X a fa) (hst:Yp a=true) :
  DE X (.Call (.Name "isinstance" p0) [a,y] [] pos) (fun env S=>(fa env S).bind fun x S=>match (kdD S x).bind fun k=>Yl k ts with|some r=>.ok (.bl r) S|none=>.bad):=by
 rcases Xyg ht with⟨t,nm,p,rfl,rfl,h1,h2,h3⟩|⟨t1,t2,n1,n2,p1,p2,k,p,rfl,rfl,h1,h2,h3,h4,h5,h6,h7,h8⟩
 ·exact Xqq er hb hg0 (Y3 hs h1) h2 h3 ha hst
 ·obtain⟨T1,q1⟩:=Xst h5 h7
  obtain⟨T2,q2⟩:=Xst h6 h8;exact Xyl q1 q2 hb hg0 (Y3 hs h1) (Y3 hs h3) h2 h4 ha hst
set_option maxHeartbeats 0 in
theorem Xyo{X:Cx}{d:D}{c:Const}{k:Nat}{p:Pos}(h:Xf0 d c=true):DE X (.Constant c k p) (ev F G (.cst d)):=by
 cases d with
 | int i=>cases c with
  | int j=>simp only[Xf0,beq_iff_eq] at h;subst h;exact d_int.congr fun env S=>by simp only[ev]
  | _=>cases h
 | bl i=>cases c with
  | bool j=>simp only[Xf0,beq_iff_eq] at h;subst h;exact d_bl.congr fun env S=>by simp only[ev]
  | _=>cases h
 | non=>cases c with
  | none=>exact d_non.congr fun env S=>by simp only[ev]
  | _=>cases h
 | str i=>cases c with
  | str j=>simp only[Xf0,decide_eq_true_eq] at h;subst h;exact d_str.congr fun env S=>by simp only[ev]
  | _=>cases h
 | _=>cases h
mutual
theorem snd:∀ (x:Ex) (X:Cx) (sc:Scope) (N:List Str) (e:Expr),X.N=N->X.env.scope=sc->PF cm F G fns gns X->mt cm fns gns sc N x e=true->DE X e (ev F G x)/\DT X e (fun env S=>tst (ev F G x env S))
 | .nev,X,sc,N,e,hN,hs,hp,h=>⟨fun _ _ _ _ _ _ _ _ nb=>absurd (by simp only[ev]) nb,fun _ _ _ _ _ _ _ _ nb=>absurd (by simp only[ev]<;>rfl) nb⟩
 | .var i,X,sc,N,e,hN,hs,hp,h=>by
  obtain⟨x,p,rfl,h1,h2,h3⟩:=Xx0 h;subst hN hs;obtain⟨o1,o2,_⟩:=Xak h3;exact Ye ((Xz3 h1 (Xt3 h2) o1 o2).congr fun env S=>by simp only[ev]<;>rfl) fun _=>rfl
 | .cst d,X,sc,N,e,hN,hs,hp,h=>by
  obtain⟨c,k,p,rfl,h⟩:=Xx1 h;exact Ye (Xyo h) fun _=>rfl
 | .neg a,X,sc,N,e,hN,hs,hp,h=>by
  obtain⟨x,p,rfl,h⟩:=Xx2 h;exact Ye ((Xsq (snd a X sc N x hN hs hp h).1).congr fun env S=>by simp only[ev]<;>rfl) fun _=>rfl
 | .glb k,X,sc,N,e,hN,hs,hp,h=>by
  obtain⟨x,p,rfl,h1,h2,h3⟩:=Xx4 h;obtain⟨o1,o2,_⟩:=Xak h3;obtain⟨u,d,q1,q2,q3⟩:=hp.glb k x h1;exact Ye ((X0s (Y3 hs h2) q1 q3 o1).congr fun env S=>by simp only[ev,q2]) fun _=>rfl
 | .tup es,X,sc,N,e,hN,hs,hp,h=>by
  obtain⟨xs,k,p,rfl,h⟩:=Xx5 h;exact Ye ((Xz4 (snds es X sc N xs hN hs hp h)).congr fun env S=>by simp only[ev]) fun _=>rfl
 | .lst es,X,sc,N,e,hN,hs,hp,h=>by
  obtain⟨xs,p,rfl,h⟩:=Xx6 h;exact Ye ((Xz5 (snds es X sc N xs hN hs hp h)).congr fun env S=>by simp only[ev]) fun _=>rfl
 | .bin op a b,X,sc,N,e,hN,hs,hp,h=>by
  obtain⟨x,y,p,rfl,h1,h2⟩:=Xx7 h;exact Ye ((Xz6 (X0i op) (snd a X sc N x hN hs hp h1).1 (snd b X sc N y hN hs hp h2).1).congr fun env S=>by simp only[ev]) fun _=>rfl
 | .cmp op a b,X,sc,N,e,hN,hs,hp,h=>by
  obtain⟨x,y,p,rfl,h1,h2,h3⟩:=Xx8 h;have ha:=(snd a X sc N x hN hs hp h2).1;have hb:=(snd b X sc N y hN hs hp h3).1;exact⟨(Xz7 (Xdp hp.units op) ha hb h1).congr fun env S=>by simp only[ev],(Xw1 (Xdp hp.units op) ha hb h1).congr fun env S=>by simp only[ev]⟩
 | .chn o1 o2 a b c,X,sc,N,e,hN,hs,hp,h=>by
  obtain⟨x,y,z,p,rfl,h1,h2,h3,h4⟩:=Xx9 h;have ha:=(snd a X sc N x hN hs hp h2).1;have hb:=(snd b X sc N y hN hs hp h3).1;have hc:=(snd c X sc N z hN hs hp h4).1;exact⟨(X0r (Xdp hp.units o1) (Xdp hp.units o2) ha hb hc h1).congr fun env S=>by simp only[ev,Yo]<;>rfl,(Xxr (Xdp hp.units o1) (Xdp hp.units o2) ha hb hc h1).congr fun env S=>by simp only[ev,Yo]<;>rfl⟩
 | .and a b,X,sc,N,e,hN,hs,hp,h=>by
  rcases Xya h with⟨x,y,p,rfl,h1,h2⟩|⟨x,y,z,r,p,rfl,h1,h2⟩
  ·have ha:=snd a X sc N x hN hs hp h1
   have hb:=snd b X sc N y hN hs hp h2;exact⟨(Xsl ha.1 (Xsm hb.1)).congr fun env S=>by simp only[ev]<;>rfl,((Xnh ha.2 (Xti hb.2)).dt).congr fun env S=>by simp only[ev]<;>rfl⟩
  ·have ha:=snd a X sc N x hN hs hp h1
   have hb:=snd b X sc N (.BoolOp .And (y::z::r) p) hN hs hp h2;exact⟨(Xsl ha.1 hb.1).congr fun env S=>by simp only[ev]<;>rfl,((Xnh ha.2 (.of hb.2)).dt).congr fun env S=>by simp only[ev]<;>rfl⟩
 | .or a b,X,sc,N,e,hN,hs,hp,h=>by
  rcases X0y h with⟨x,y,p,rfl,h1,h2⟩|⟨x,y,z,r,p,rfl,h1,h2⟩
  ·have ha:=snd a X sc N x hN hs hp h1
   have hb:=snd b X sc N y hN hs hp h2;exact⟨(Xw2 ha.1 (Xsm hb.1)).congr fun env S=>by simp only[ev]<;>rfl,((Xsn ha.2 (Xw4 hb.2)).dt).congr fun env S=>by simp only[ev]<;>rfl⟩
  ·have ha:=snd a X sc N x hN hs hp h1
   have hb:=snd b X sc N (.BoolOp .Or (y::z::r) p) hN hs hp h2;exact⟨(Xw2 ha.1 hb.1).congr fun env S=>by simp only[ev]<;>rfl,((Xsn ha.2 (.of hb.2)).dt).congr fun env S=>by simp only[ev]<;>rfl⟩
 | .not a,X,sc,N,e,hN,hs,hp,h=>by
  obtain⟨x,p,rfl,h⟩:=Xx3 h;have ha:=snd a X sc N x hN hs hp h;exact⟨(Xz8 ha.2 ha.1).congr fun env S=>by simp only[ev]<;>rfl,(Xw3 ha.2).congr fun env S=>by simp only[ev]<;>rfl⟩
 | .ite c a b,X,sc,N,e,hN,hs,hp,h=>by
  obtain⟨x,y,z,p,rfl,h1,h2,h3⟩:=Xyb h;have hc:=snd c X sc N x hN hs hp h1;have ha:=snd a X sc N y hN hs hp h2;have hb:=snd b X sc N z hN hs hp h3;exact⟨(Xz9 hc.2 ha.1 hb.1).congr fun env S=>by simp only[ev]<;>rfl,(Xxq hc.2 ha.2 hb.2).congr fun env S=>by simp only[ev]<;>rfl⟩
 | .idx a i,X,sc,N,e,hN,hs,hp,h=>by
  obtain⟨x,y,p,rfl,h1,h2,h3⟩:=Xyc h;exact Ye ((X0k (Xlm h1) (snd a X sc N x hN hs hp h2).1 (snd i X sc N y hN hs hp h3).1).congr fun env S=>by simp only[ev]) fun _=>rfl
 | .sli a lo hi,X,sc,N,e,hN,hs,hp,h=>by
  obtain⟨x,l,u,p2,p,rfl,h1,h2,h3⟩:=Xyh h;exact Ye ((X0z (snd a X sc N x hN hs hp h1).1 (sndo lo X sc N l hN hs hp h2) (sndo hi X sc N u hN hs hp h3)).congr fun env S=>by simp only[ev]<;>rfl) fun _=>rfl
 | .rev a,X,sc,N,e,hN,hs,hp,h=>by
  obtain⟨x,y,p,rfl,h1,h2⟩:=Xyj h;exact Ye ((Xoc (by decide) (snd a X sc N x hN hs hp h2).1 h1).congr fun env S=>by simp only[ev];congr 1;funext x S;exact(Xqm x S).symm) fun _=>rfl
 | .rv2 k a,X,sc,N,e,hN,hs,hp,h=>by
  obtain⟨x,y,p,rfl,h1,h2⟩:=Xyk h;exact Ye ((Xoc (by decide) (snd a X sc N x hN hs hp h2).1 h1).congr fun env S=>by simp only[ev];congr 1;funext x S;rw[<- Xqn k x S];cases k<;>rfl) fun _=>rfl
 | .cal f es,X,sc,N,e,hN,hs,hp,h=>by
  obtain⟨fx,y,ys,p,rfl,h1,h2,h3,h4⟩:=Xyi h;have st:=Y5 es (y::ys) h4;rw[List.all_cons,bA0] at st;exact Ye ((X01 hp h1 (Xur h2) (snd f X sc N fx hN hs hp h3).1 (snds es X sc N (y::ys) hN hs hp h4) (Xp st.1) (Yz st.2)).congr fun env S=>by simp only[ev]<;>rfl) fun _=>rfl
 | .isi a ts,X,sc,N,e,hN,hs,hp,h=>by
  obtain⟨p0,x,y,cp,rfl,h1,h2,h3,h4⟩:=Xyf h;have ih:=(snd a X sc N x hN hs hp h3).1;exact Ye ((Xus hp.err hp.blt hs (Y3 hs h1) h4 ih h2).congr fun env S=>by simp only[ev]<;>rfl) fun _=>rfl
 | .call f es,X,sc,N,e,hN,hs,hp,h=>by
  obtain⟨x,p0,y,ys,p,rfl,h1,h2,h3,h4⟩:=Xug h;obtain⟨o1,o2,_⟩:=Xak h3;obtain⟨fl,h1,hfl⟩:=h1;obtain⟨g,fd,ps,k,c1,c2,c3,c4,c5,c6⟩:=hp.fn f x _ fl h1 hfl;have st:=Y5 es (y::ys) h4;rw[List.all_cons,bA0] at st;exact Ye ((Xw7 c1 c2 c3 (Y3 hs h2) c4 c5 (snds es X sc N (y::ys) hN hs hp h4) (fun env S ds S' q=>by rw[c6];exact Xkl es (y::ys) h4 env S ds S' q) o1 (Xp st.1) (Yz st.2)).congr fun env S=>by simp only[ev]) fun _=>rfl
 | .blt k es,X,sc,N,e,hN,hs,hp,h=>by
  obtain⟨x,p0,y,ys,p,rfl,h1,hq,h2,h3,h4⟩:=Xyd h;obtain⟨o1,o2,o3⟩:=Xak h3;have st:=Y5 es (y::ys) h4;rw[List.all_cons,bA0] at st;have ih:=snds es X sc N (y::ys) hN hs hp h4;exact Ye (Xqo hp.err.sm hp.gd hp.units (Y3 hs h2) hp.blt (fun z=>hp.calm (by rw[z,Bool.or_false] at hq;exact hq)) h1 o1 o3 ih (Xp st.1) (Yz st.2)) fun _=>rfl
 | .mth k o es,X,sc,N,e,hN,hs,hp,h=>by
  obtain⟨ox,nm,ap,y,ys,cp,rfl,h1,h2,h3,h4,h5,h6⟩:=Xye h;have st:=Y5 es (y::ys) h6;have ih:=snds es X sc N (y::ys) hN hs hp h6;have io:=(snd o X sc N ox hN hs hp h5).1;exact Ye (Xqp h1 h2 h3 h4 io ih st) fun _=>rfl
 | .cmr k n gs elt,X,sc,N,e,hN,hs,hp,h=>by
  obtain⟨ee,gens,scope,p,rfl,h0,h1,h2,h3,h4,h5⟩:=Xn4 h;subst h1 h2;have so:=Xn2 h3;have hcl:=hp.calm h0;obtain⟨c⟩:=Xkm (p:=p) hN hs hp hcl so (sndg gs X sc N _ _ gens hN hs hp h4) (fun Y y1 y2 y3=>(snd elt Y _ _ ee y1 y2 y3 h5).1)
  subst hN hs;refine Ye ?_ fun _=>rfl
  rw[c.eq];exact Xxm hcl so rfl c.hg c.hi c.hs c.hG c.hT c.hB
theorem sndo:∀ (o:Op) (X:Cx) (sc:Scope) (N:List Str) (x:Option Expr),X.N=N->X.env.scope=sc->PF cm F G fns gns X->mto cm fns gns sc N o x=true->DO X x (evo F G o)
 | .none,X,sc,N,x,hN,hs,hp,h=>by
  cases x with
  | none =>
   have:evo F G .none=fun _ S=>.ok none S:=by funext env S;simp only[evo]
   rw[this];exact Xkj
  | some _=>cases h
 | .some e,X,sc,N,x,hN,hs,hp,h=>by
  cases x with
  | none=>cases h
  | some x =>
   have h':mt cm fns gns sc N e x=true:=h;have:evo F G (.some e)=fun env S=>(ev F G e env S).bind fun x S=>.ok (some x) S:=by funext env S;simp only[evo]
   rw[this];exact Xkk (snd e X sc N x hN hs hp h').1
theorem snds:∀ (es:Exs) (X:Cx) (sc:Scope) (N:List Str) (xs:List Expr),X.N=N->X.env.scope=sc->PF cm F G fns gns X->mts cm fns gns sc N es xs=true->DA X xs (evs F G es)
 | .nil,X,sc,N,[],hN,hs,hp,h=>by
  have:evs F G .nil=fun _ S=>.ok [] S:=by funext env S;simp only[evs]
  rw[this];exact Xw0
 | .cons e es,X,sc,N,x::xs,hN,hs,hp,h=>by
  simp only[mts,bA0] at h;have:evs F G (.cons e es)=fun env S=>(ev F G e env S).bind fun x S=>(evs F G es env S).bind fun xs S=>.ok (x::xs) S:=by funext env S;simp only[evs]
  rw[this];exact Xth (snd e X sc N x hN hs hp h.1.2).1 (snds es X sc N xs hN hs hp h.2) (Xp h.1.1)
 | .nil,X,sc,N,_::_,hN,hs,hp,h=>by simp[mts] at h
 | .cons _ _,X,sc,N,[],hN,hs,hp,h=>by simp[mts] at h
theorem Xly:∀ (es:Exs) (X:Cx) (sc:Scope) (N:List Str) (xs:List Expr),X.N=N->X.env.scope=sc->PF cm F G fns gns X->mts cm fns gns sc N es xs=true->DTs X xs (evts F G es)
 | .nil,X,sc,N,[],hN,hs,hp,h=>by
  have:evts F G .nil=fun _ S=>.ok true S:=by funext env S;simp only[evts]
  rw[this];exact Xtv
 | .cons e es,X,sc,N,x::xs,hN,hs,hp,h=>by
  simp only[mts,bA0] at h;have:evts F G (.cons e es)=fun env S=>(ev F G e env S).bind fun x S=>match Xj S x with|some true=>evts F G es env S|some false=>.ok false S|none=>.bad:=by funext env S;simp only[evts]<;>rfl
  rw[this];exact Xp8 (snd e X sc N x hN hs hp h.1.2).2 (Xly es X sc N xs hN hs hp h.2)
 | .nil,X,sc,N,_::_,hN,hs,hp,h=>by simp[mts] at h
 | .cons _ _,X,sc,N,[],hN,hs,hp,h=>by simp[mts] at h
theorem Xlz:∀ (it:It) (X:Cx) (sc:Scope) (N:List Str) (tg x:Expr),X.N=N->X.env.scope=sc->PF cm F G fns gns X->(Xls it=true->∃ es k p,tg=.Tuple es k p)->mtI cm fns gns sc N it x=true->DI X tg x (evit F G it)
 | .val e,X,sc,N,tg,x,hN,hs,hp,_,h=>by
  simp only[mtI] at h;have:evit F G (.val e)=fun env S=>(ev F G e env S).bind fun x S=>match Xs S x with|some r=>.ok r S|none=>.bad:=by funext env S;simp only[evit]<;>rfl
  rw[this];exact Xxf (snd e X sc N x hN hs hp h).1
 | .rng es,X,sc,N,tg,x,hN,hs,hp,_,h=>by
  obtain⟨p0,y,ys,p,rfl,h2,h3⟩:=Xuk h;have st:=Y5 es (y::ys) h3;rw[List.all_cons,bA0] at st;have:evit F G (.rng es)=fun env S=>(evs F G es env S).bind fun xs S=>match Y2 xs with|some ds=>.ok (.con ds) S|none=>.bad:=by funext env S;simp only[evit]<;>rfl
  rw[this];exact Xxg (Y3 hs h2) (hp.blt _ (by decide)) (snds es X sc N (y::ys) hN hs hp h3) (Xp st.1) (Yz st.2)
 | .zpp es,X,sc,N,tg,x,hN,hs,hp,ht,h=>by
  obtain⟨p0,y,ys,p,rfl,h2,h3⟩:=Xuh h;obtain⟨ts,k,tp,rfl⟩:=ht rfl;have st:=Y5 es (y::ys) h3;rw[List.all_cons,bA0] at st;have:evit F G (.zpp es)=fun env S=>(evs F G es env S).bind fun xs S=>match xs with
   | [x,y]=>match Xs S x,Xs S y with
    | some s,some t=>.ok (.zpp s t) S
    | _,_=>.bad
   | _=>.bad:=by funext env S;simp only[evit]<;>rfl
  rw[this];exact Xxh (Y3 hs h2) (hp.blt _ (by decide)) (snds es X sc N (y::ys) hN hs hp h3) (Xp st.1) (Yz st.2)
 | .enm es,X,sc,N,tg,x,hN,hs,hp,ht,h=>by
  obtain⟨p0,y,ys,p,rfl,h2,h3⟩:=Xui h;obtain⟨ts,k,tp,rfl⟩:=ht rfl;have st:=Y5 es (y::ys) h3;rw[List.all_cons,bA0] at st;have:evit F G (.enm es)=fun env S=>(evs F G es env S).bind fun xs S=>match xs with
   | [x]=>match Xs S x with
    | some s=>.ok (.enm s) S
    | none=>.bad
   | _=>.bad:=by funext env S;simp only[evit]<;>rfl
  rw[this];exact Xxj (Y3 hs h2) (hp.blt _ (by decide)) (snds es X sc N (y::ys) hN hs hp h3) (Xp st.1) (Yz st.2)
 | .ezp es,X,sc,N,tg,x,hN,hs,hp,ht,h=>by
  obtain⟨p0,p1,q0,y,ys,p,rfl,h1,h2,h3⟩:=Xuj h;obtain⟨ts,k,tp,rfl⟩:=ht rfl;have st:=Y5 es (y::ys) h3;rw[List.all_cons,bA0] at st;have:evit F G (.ezp es)=fun env S=>(evs F G es env S).bind fun xs S=>match xs with
   | [x,y]=>match Xs S x,Xs S y with
    | some s,some t=>.ok (.enm (.zpp s t)) S
    | _,_=>.bad
   | _=>.bad:=by funext env S;simp only[evit]<;>rfl
  rw[this];exact Xxi (Y3 hs h1) (hp.blt _ (by decide)) (Y3 hs h2) (hp.blt _ (by decide)) (snds es X sc N (y::ys) hN hs hp h3) (Xp st.1) (Yz st.2)
theorem sndg:∀ (gs:Gens) (X:Cx) (sc:Scope) (N:List Str) (sc2:Scope) (N2:List Str) (gens:List Comprehension),X.N=N->X.env.scope=sc->PF cm F G fns gns X->mtG cm fns gns sc N sc2 N2 gs gens=true->Xyn F G X sc2 N2 (PF cm F G fns gns) gs gens
 | .nil,X,sc,N,sc2,N2,gens,hN,hs,hp,h=>(X0u h).elim
 | .cons t it ifs .nil,X,sc,N,sc2,N2,gens,hN,hs,hp,h=>by
  obtain⟨tg,iter,cs,rfl,h2,h3,h4,h5,h6⟩:=X0v h;exact⟨tg,iter,cs,rfl,h2,h3,Xlz it X sc N tg iter hN hs hp (Xe3 h6 h3) h4,fun Y y1 y2 y3=>Xly ifs Y sc2 N2 cs y1 y2 y3 h5⟩
 | .cons t it ifs (.cons t2 it2 ifs2 .nil),X,sc,N,sc2,N2,gens,hN,hs,hp,h=>by
  obtain⟨tg,iter,cs,tg2,iter2,cs2,rfl,h3,h4,h5,h6,h7,h8,h9,h10,h11,h12⟩:=X0w h;exact⟨tg,iter,cs,tg2,iter2,cs2,rfl,h3,h4,h5,h8,Xlz it X sc N tg iter hN hs hp (Xe3 h11 h5) h6,fun Y y1 y2 y3=>Xly ifs Y sc2 N2 cs y1 y2 y3 h7,fun Y y1 y2 y3=>Xlz it2 Y sc2 N2 tg2 iter2 y1 y2 y3 (Xe3 h12 h8) h9,fun Y y1 y2 y3=>Xly ifs2 Y sc2 N2 cs2 y1 y2 y3 h10⟩
 | .cons t it ifs (.cons t2 it2 ifs2 (.cons _ _ _ _)),X,sc,N,sc2,N2,gens,hN,hs,hp,h=>(X0x h).elim
end
end
end Z
end
section
namespace Z
open PySem PySem.Spec PyProof.Rows L2
section
variable{X:Cx}{pins:List (Addr×Obj)}{σ:L2.St}{H:Hp}{s:Shared}{ρ:List Addr}{S S':Sto}{env:En}{a b c e tg:Expr}{f fa fb fc:En->Sto->R D}{pos:Pos}
theorem Xyp{t:Tg}(he:DE X e f)(hg:DG X tg t)(hs:swapsWithSole [tg] e pos.line X.env=pure false)(hw:swappedStores [tg] e X.env=pure none)(h1:(assignEach [tg] X.env).map (·.2)=[assign tg X.env]) :
  DS X (.Assign [tg] e pos) false (fun env S=>(f env S).bind fun x S=>match Xo t x env with|some env=>.ok (.nx env) S|none=>.bad):=by
 intro pins s σ H ρ S env I nb;dsimp only at nb ⊢;cases q:f env S with
 | bad=>rw[q] at nb;exact absurd rfl nb
 | ex n S1=>exact wpAny_Assign_stores (he.ex I q fun x s' z=>.of .refl z rfl) hs hw
 | ok d S1 =>
  rw[q] at nb;simp only[Rk0] at nb ⊢;cases q2:Xo t d env with
  | none=>rw[q2] at nb;exact absurd rfl nb
  | some env' =>
   refine wpAny_Assign_stores (he.ok I q fun u s' v H' ρ' J rv rd st=>?_) hs hw
   rw[h1];exact hg pins s' σ H' ρ' S1 env d v u env' _ _ J q2 rd rv fun s2 σ2 I2=>⟨.nx env',S1,rfl,rfl,σ2,H',ρ',I2,st,fun z=>nomatch z⟩
theorem Xut{i j:Nat}{x y:Str}{ga:En->Sto->R (List D)}{px py pt:Pos}{kt k2 pt2}(hc:X.calm=true)(hN:X.N.Nodup)(hi:X.N[i]?=some x)(hj:X.N[j]?=some y)(hij:i≠j)
  (hx:X.env.scope.names.lookup x=some .local) (hy:X.env.scope.names.lookup y=some .local) (ha:DA X [a,b] ga)
  (hw:swappedStores [.Tuple [.Name x px,.Name y py] kt pt] (.Tuple [a,b] k2 pt2) X.env=pure (some [x,y]))
  (hs:swapsWithSole [.Tuple [.Name x px,.Name y py] kt pt] (.Tuple [a,b] k2 pt2) pos.line X.env=pure false) :
  DS X (.Assign [.Tuple [.Name x px,.Name y py] kt pt] (.Tuple [a,b] k2 pt2) pos) false (fun env S=>(ga env S).bind fun xs S=>if [i,j].length=xs.length then .ok (.nx (([i,j].zip xs).foldl (fun e p=>e.set p.1 (some p.2)) env)) S else .bad):=by
 intro pins s σ H ρ S env I nb;dsimp only at nb ⊢;rw[exec_Assign_arm];refine wpAny_bind (wpAny_standAt ?_);rw[hs];refine wpAny_bind (wpAny_pure ?_);rw[if_neg (by decide)]
 cases q:ga env S with
 | bad=>rw[q] at nb;exact absurd rfl nb
 | ex n S1=>exact wpAny_bind (Tuple_ (ha.ex I q fun x s' z=>.of .refl z rfl))
 | ok ds S1 =>
  rw[q] at nb;simp only[Rk0] at nb ⊢;split at nb
  ·rename_i hl
   rw[if_pos hl];obtain⟨d1,d2,rfl⟩:∃ d1 d2,ds=[d1,d2]:=by
    match ds,hl with
    | [d1,d2],_=>exact⟨d1,d2,rfl⟩
   refine wpAny_bind (Tuple_ (ha.ok I q fun us s1 vs H1 ρ1 I1 rvs rds st1=>?_))
   obtain⟨v,w,rfl,rd1,rd2⟩:=rds.two;obtain⟨u1,u2,rfl,rv,rw'⟩:∃ u1 u2,us=[u1,u2]/\RelV v u1/\RelV w u2:=by
    cases rvs with
    | cons p q =>
     cases q with
     | cons p' q' =>
      cases q';exact⟨_,_,rfl,p,p'⟩
   refine wpAny_newObj_type ?_ (by show 2<=sizeLine;decide)
   have I2:Inv X pins σ H1 { s1 with heap:=s1.heap.push { cls:=.type "tuple",data:=.seq [u1,u2].toArray } }:=I1.inv.kept (t':=s1.toks) fun b o e=>Heap.get?_push_of_some _ e
   rw[hw];refine wpAny_bind (wpAny_pure ?_);show wpAny (model X.prog X.w) X.A (do rule "assign.swapped-stores";let items <- unpackItems (.ref s1.heap.objs.size) 2 none;assignInOrder [fun v=>bindName X.env y v,fun v=>bindName X.env x v] items.reverse;pure Flow.next) _ _ _
   refine wpAny_bind (wpAny_rule (wpAny_bind (unpackItems_tuple (items:=#[u1,u2]) (I.inv.ok.hd hc) (IsTup.new s1.heap _) fun h' hx'=>?_)))
   have I3:=I2.kept (h':=h') (t':=s1.toks) fun b o e=>hx' b o (Nat.ne_of_lt (Heap.lt_size e)) e
   show wpAny _ _ (assignInOrder [fun v=>bindName X.env y v,fun v=>bindName X.env x v] [u2,u1] >>= fun _=>pure Flow.next) _ _ _
   refine wpAny_bind (assignInOrder_cons (wpAny_bindName (Xa3 I3 hN hj (.inl hy) rw' (fun s2 I4=>?_) (.inr hy))))
   refine assignInOrder_cons (wpAny_bindName (Xa3 I4 hN hi (.inl hx) rv (fun s3 I5=>assignInOrder_nil (wpAny_pure ?_)) (.inr hx)))
   rw[List.set_comm _ _ (Ne.symm hij)] at I5;exact⟨.nx ((env.set i (some d1)).set j (some d2)),S1,rfl,rfl,_,H1,ρ1,⟨I5,I1.sr,(I1.er.set i rd1).set j rd2⟩,st1,fun z=>nomatch z⟩
  ·exact absurd rfl nb
theorem Xyq{x y d:D}{vx vy v:V}{ux uy u:Value}{Ev:Value->Shared->Prop}{Q:Unit->Shared->Prop}(I:S0 X pins σ H s ρ S env)(nb:Xap x y d S≠.bad)(rx:RD X.K ρ H x vx)(qx:RelV vx ux)(ry:RD X.K ρ H y vy)(qy:RelV vy uy)(rd:RD X.K ρ H d v)(rv:RelV v u)
  (hQ:∀ S' s' H',Xap x y d S=.ok () S'->S0 X pins σ H' s' ρ S' env->Stp X.K ρ ρ H H'->Q () s'):wpAny (model X.prog X.w) X.A (setItem ux uy u) Q Ev s:=by
 unfold Xap at nb hQ
 match x,y,rx,ry,nb,hQ with
 | .ref n,.int k,rx,ry,nb,hQ =>
  dsimp only at nb hQ;cases e:Z.lstM S n with
  | none=>rw[e] at nb;exact absurd rfl nb
  | some xs =>
   rw[e] at nb hQ;dsimp only at nb hQ;cases e2:Z.ixN xs.length k with
   | none=>rw[e2] at nb;exact absurd rfl nb
   | some j =>
    rw[e2] at hQ;obtain⟨a,ws,rfl,ha,hv,hr⟩:=I.lstR e rx;simp only[RD] at ry;subst ry;have hl:L2.ixN ws.length k=some j:=by rw[<- hr.length];exact e2
    refine thn (Xpn (X:=X.wish Ev) pins s σ H (.ref a) (.int k) v ux uy u (fun H'=>H'=upd H a (.lst (ws.set j v))) (I.inv.wish Ev) qx qy rv ⟨a,ws,k,j,rfl,rfl,hv,hl,rfl⟩) fun _ s' ⟨H',J,e3⟩=>?_
    subst e3;have st:Stp X.K ρ ρ H (upd H a (.lst (ws.set j v))):=Stp.chg (S:=S) (o:=.lst (xs.set j d)) I.sr ha;exact hQ _ s' _ rfl ⟨J.unwish,I.sr.chg ha ⟨ws.set j v,Xz,(hr.set rd j).mono st⟩,I.er.mono st⟩ st
 | .ref n,.non,_,_,nb,_=>exact absurd rfl nb
 | .ref n,.bl _,_,_,nb,_=>exact absurd rfl nb
 | .ref n,.str _,_,_,nb,_=>exact absurd rfl nb
 | .ref n,.tup _,_,_,nb,_=>exact absurd rfl nb
 | .ref n,.ref _,_,_,nb,_=>exact absurd rfl nb
 | .ref n,.fro _,_,_,nb,_=>exact absurd rfl nb
 | .non,_,_,_,nb,_=>exact absurd rfl nb
 | .bl _,_,_,_,nb,_=>exact absurd rfl nb
 | .int _,_,_,_,nb,_=>exact absurd rfl nb
 | .str _,_,_,_,nb,_=>exact absurd rfl nb
 | .tup _,_,_,_,nb,_=>exact absurd rfl nb
 | .fro _,_,_,_,nb,_=>exact absurd rfl nb
end
section
variable{X:Cx}{pins:List (Addr×Obj)}{σ:L2.St}{H:Hp}{s:Shared}{ρ:List Addr}{S S':Sto}{env:En}{a b c e o i:Expr}{f fa fb fc fo fi:En->Sto->R D}{pos spos:Pos}
theorem Xuu(he:DE X e f)(ho:DE X o fo)(hi:DE X i fi)(hs:swapsWithSole [.Subscript o i spos] e pos.line X.env=pure false)(hw:swappedStores [.Subscript o i spos] e X.env=pure none)
  (hA:∀ v,assign (.Subscript o i spos) X.env v=(do
   let ov <- holding [v] (eval o X.env)
   let iv <- holding [v,ov] (eval i X.env)
   standAt spos
   holding [v,ov,iv] (setItem ov iv v)
   release [v,ov,iv] [])) :
  DS X (.Assign [.Subscript o i spos] e pos) true (fun env S=>(f env S).bind fun v S=>(fo env S).bind fun x S=>(fi env S).bind fun y S=>(Xap x y v S).bind fun _ S=>.ok (.nx env) S):=by
 intro pins s σ H ρ S env I nb;dsimp only at nb ⊢;generalize hr:(f env S).bind (fun v S=>(fo env S).bind fun x S=>(fi env S).bind fun y S=>(Xap x y v S).bind fun _ S=>R.ok (Fl.nx env) S)=r at nb ⊢
 have h1:(assignEach [Expr.Subscript o i spos] X.env).map (·.2)=[assign (.Subscript o i spos) X.env]:=rfl;refine wpAny_Assign_stores (he.bind I (by rw[hr];exact nb) hr.symm (fun d S1 u s1 v H1 ρ1 e1 nb1 I1 rv rd st1=>?_) fun x s' ⟨n,S2,e2,z⟩=>.of .refl z e2) hs hw
 rw[h1];show wpAny _ _ (assign (.Subscript o i spos) X.env u) _ _ _;rw[hA];refine wpAny_bind (wpAny_holding (ho.bind I1 nb1 e1 (fun x S2 ux s2 vx H2 ρ2 e2 nb2 I2 rvx rdx st2=>?_) fun x s' ⟨n,S3,e3,z⟩=>.of st1 z e3))
 refine wpAny_bind (wpAny_holding (hi.bind I2 nb2 e2 (fun y S3 uy s3 vy H3 ρ3 e3 nb3 I3 rvy rdy st3=>?_) fun x s' ⟨n,S4,e4,z⟩=>.of (st1.trans st2) z e4))
 refine wpAny_bind (wpAny_standAt (wpAny_bind (wpAny_holding (Xyq I3 (fun z=>nb3 (by rw[z];rfl)) (rdx.mono st3) rvx rdy rvy ((rd.mono st2).mono st3) rv fun S4 s4 H4 e4 I4 st4=>?_))))
 refine wpAny_release ⟨.nx env,S4,by rw[e3,e4];rfl,rfl,σ,H4,ρ3,I4,st1.trans (st2.trans (st3.trans st4)),fun _=>rfl⟩
theorem X02{op:Bo}{x y:D}{vx vy:V}{ux uy:Value}{Ev:Value->Shared->Prop}(I:S0 X pins σ H s ρ S env)(nb:Xeg op x y S≠.bad)(rx:RD X.K ρ H x vx)(qx:RelV vx ux)(ry:RD X.K ρ H y vy)(qy:RelV vy uy) :
  wpAny (model X.prog X.w) X.A (inplaceOp (opB op) ux uy) (OkP X pins σ ρ H (Xeg op x y S)) Ev s:=by
 unfold Xeg at nb ⊢;split at nb
 ·simp only[RD] at rx ry;subst rx ry
  obtain⟨t,rfl⟩:=qx;obtain⟨t',rfl⟩:=qy;exact iadd_int (Ys I.sr (I.inv.tok _))
 ·simp only[RD] at rx ry;subst rx ry
  obtain⟨t,rfl⟩:=qx;obtain⟨t',rfl⟩:=qy;exact isub_int (Ys I.sr (I.inv.tok _))
 ·simp only[RD] at rx ry;subst rx ry
  obtain⟨t,rfl⟩:=qx;obtain⟨t',rfl⟩:=qy;split at nb
  ·rename_i hm
   rw[if_pos hm];exact imul_int (Ys I.sr (I.inv.tok _)) (Xif hm)
  ·exact absurd rfl nb
 ·exact absurd rfl nb
theorem Xyr{op:Bo}{k:Nat}{x:Str}(hN:X.N.Nodup)(hi:X.N[k]?=some x)(hx:Loc X.env.scope x)(hf:X.fn x=true\/X.env.scope.names.lookup x=some .local)(he:DE X e f) :
  DS X (.AugAssign (.Name x spos) (opB op) e pos) false (fun env S=>match env[k]? with
   | some (some x)=>(f env S).bind fun y S=>(Xeg op x y S).bind fun z S=>.ok (.nx (env.set k (some z))) S
   | _=>.bad):=by
 intro pins s σ H ρ S env I nb;dsimp only at nb ⊢;split at nb
 ·rename_i d hd
  obtain⟨v,e1,rd⟩:=I.er.2 k d hd;generalize hr:((f env S).bind fun y S=>(Xeg op d y S).bind fun z S=>R.ok (Fl.nx (env.set k (some z))) S)=r at nb ⊢
  obtain⟨m,hn,hl⟩:=I.inv.loc;have vis:Vis X.env.scope x:=by rcases hx with k|k;exact .inl k;exact .inr (.inl k)
  obtain⟨u,rv,l⟩:=hl k x v hi e1 vis;refine wpAny_AugAssign_Name ?_;have go:wpAny (model X.prog X.w) X.A (eval e X.env) (fun w s₂=>wpAny (model X.prog X.w) X.A (inplaceOp (opB op) u w) (fun z s₃=>wpAny (model X.prog X.w) X.A (storeName X.env x z) (fun _=>OkS X pins σ ρ H false r .next) (ExS X pins σ ρ H false r) s₃) (ExS X pins σ ρ H false r) s₂) (ExS X pins σ ρ H false r) s:=by
   refine he.bind I (by rw[hr];exact nb) hr.symm (fun d2 S1 w s1 v2 H1 ρ1 e2 nb2 I1 rv2 rd2 st1=>?_) fun x s' ⟨n,S2,e2,z⟩=>.of .refl z e2
   refine wpAny_mono (X02 (Ev:=fun _ _=>False) I1 (fun z=>nb2 (by rw[z];rfl)) (rd.mono st1) rv rd2 rv2) (fun z s3 hz=>?_) fun _ _ z=>z.elim
   obtain⟨d3,S3,e3,v3,H3,ρ3,J3,rv3,rd3,sr3,st3⟩:=hz;exact Xa3 J3 hN hi hx rv3 (fun s4 I4=>⟨.nx (env.set k (some d3)),S3,by rw[e2,e3];rfl,rfl,_,H3,ρ3,⟨I4,sr3,(I1.er.mono st3).set k rd3⟩,st1.trans st3,fun z=>nomatch z⟩) hf
  rcases l with⟨hk,hm⟩|⟨hk,c,hc,hcell⟩
  ·exact wpAny_loadName_local I.inv.ok.kind hk hn hm go
  ·rcases hk with hk|hk
   ·exact wpAny_loadName_cell I.inv.ok.kind hk hc hcell go
   ·rcases hx with k|k
    ·have:X.env.scope.names.lookup x=some .free:=hk
     rw[k] at this;cases this
    ·have:X.env.scope.names.lookup x=some .free:=hk
     rw[k] at this;cases this
 ·exact absurd rfl nb
end
section
variable{X:Cx}{pins:List (Addr×Obj)}{σ:L2.St}{H:Hp}{s:Shared}{ρ:List Addr}{S S':Sto}{env:En}{a b c e o i:Expr}{f fa fb fc fo fi:En->Sto->R D}{pos spos:Pos}
end
end Z
end
section
namespace Z
open PySem PySem.Spec PyProof.Rows L2
def Xys(C:Addr)(h:Heap):Prop:=∃ tl N nm qn bs hd sn sub ab col dd k0 k1 k2 k3 k5 mN,
 h.get? C=some (excClassObj nm qn C N bs tl hd sn sub ab col dd k0 k1 k2 k3 k5 "ValueError.__new__")/\h.Ns N mN/\mN "__init__" = none/\OwnTail h bmV tl
theorem Xuv {K:PySem.W.Frag} {h:Heap} {C:Addr} (hK:K.In h) (hq:PySem.W.excIn K C bmV "ValueError.__new__" = true):Xys C h:=by
 unfold PySem.W.excIn at hq;split at hq
 case h_2=>cases hq
 rename_i _ dct cdt slt lk
 split at hq
 case h_2=>cases hq
 rename_i _ C1 tl s0 s1 s2 s3 nw s5 em es
 simp only[bA0,beq_iff_eq,Bool.not_eq_true'] at hq;obtain⟨⟨⟨⟨⟨e1,e2⟩,e3⟩,e4⟩,e5⟩,e6⟩:=hq;subst e1 e2;cases cdt;dsimp only at em e3 e5 e6;subst em e3;have esl:slt=#[s0,s1,s2,s3,some (.builtin "ValueError.__new__"),s5]:=by
  cases slt;dsimp only at es;rw[es]
 subst esl;exact⟨tl,_,_,_,_,_,_,_,_,_,_,_,_,_,_,_,_,hK _ _ lk,.of_isNs (PySem.W.isNs_of_in hK e5),PySem.W.nsMap_none_of_in hK e5 e6,PySem.W.tail_of_in hK e4⟩
theorem _root_.L2.Inv.newX{X:Cx}{pins:List (Addr×Obj)}{σ:L2.St}{H:Hp}{s:Shared}{h':Heap}{a:Addr}{o:HO}(I:Inv X pins σ H s)(k:∀ b u,s.heap.get? b=some u->h'.get? b=some u)(hn:s.heap.get? a=none)
  (new:ObjOk X.prog X.w (upd H a o) h' a o):Inv X pins σ (upd H a o) { s with heap:=h' }/\HOk X.prog X.w (upd H a o) h':=by
 have hna:H a=none:=by
  cases z:H a with
  | none=>rfl
  | some w=>obtain⟨q,e⟩:=Xb1 (I.hok a w z);rw[hn] at e;cases e
 have ne:∀ b u,H b=some u->b≠a:=fun b u q=>Xn q hna
 have hok:HOk X.prog X.w (upd H a o) h':=fun b u q=>by
  by_cases hb:b=a
  ·subst hb;rw[Xz] at q;cases q;exact new
  ·rw[Xf hb] at q
   exact(I.hok b u q).stay (fun c v _ e=>k c v e) (fun c z=>by rw[Xf (ne c _ z)];exact z) fun c xs z=>by rw[Xf (ne c _ z)];exact z
 refine⟨I.un (t':=s.toks) ⟨fun b u e _ _ _=>k b u e,fun b u e _ _ _=>⟨u.slots,k b u e⟩,fun b u e n _=>?_,fun b u e _=>⟨u,k b u e⟩,fun b xs z=>by rw[Xf (ne b _ z)];exact z,fun b u xs z=>by rw[Xf (ne b _ z)];exact z,fun b ps z=>⟨#[],by rw[Xf (ne b _ z),z];simp⟩⟩ hok,hok⟩
 rw[Xf (fun z=>by rw[z,hn] at e;cases e)];exact n
section
variable{X:Cx}{pins:List (Addr×Obj)}{σ:L2.St}{H:Hp}{s:Shared}{ρ:List Addr}{S S':Sto}{env:En}{e:Expr}{f:En->Sto->R D}{pos np cpos:Pos}
theorem Xyt {c:Nat} {x:Str} {C:Addr} (hc:X.calm=true) (hx:Xbb c=some x) (hn:PySem.W.nsIn X.K mainGlobals x=some (some (.ref C))) (hq:PySem.W.excIn X.K C bmV "ValueError.__new__" = true)
  (hg:Gl X x) (hdb:(x==("__debug__" : Str))=false) (he:DE X e f) (hst:Yp e=true):DS X (.Raise (some (.Call (.Name x np) [e] [] cpos)) none pos) true (fun env S=>(f env S).bind fun _ S=>.ex S.length (S++[.exc c])):=by
 intro pins s σ H ρ S env I nb;dsimp only at nb ⊢;have hm:X.mg x=some (.ref C):=PySem.W.mg_of I.inv.mod.kin I.inv.mod.glob hn;have hcl:Xac X.K c=some C:=by unfold Xac;rw[hx];simp only[Option.bind_some,hn]
 obtain⟨tl,N,nm,qn,bs,hd,sn,sub,ab,col,dd,k0,k1,k2,k3,k5,mN,hC,hN,hni,T⟩:=Xuv I.inv.mod.kin hq;refine wpAny_Raise_call_subT (C:=C) (nm:=nm) (q:=qn) (N:=N) (bs:=bs) (bm:=tl) (hdct:=hd) (sn:=sn) (sub:=sub) (ab:=ab) (col:=col) (dd:=dd) (k0:=k0) (k1:=k1) (k2:=k2) (k3:=k3) (k5:=k5)
  PySem.F.excBase_ValueError (mN:=mN) (T.hasType PySem.F.excBase_ValueError.hasBase) (I.inv.ok.hd hc) (by rw[Xp hst];rfl) hni (Xdm I.inv hg hm ⟨rfl,?_⟩ hdb)
 rw[Xp hst];refine Calls.evalArgs_plain ?_;generalize hr:((f env S).bind fun _ S=>(R.ex S.length (S++[.exc c]):R Fl))=r at nb ⊢
 refine Calls.spliced_cons (he.bind I (by rw[hr];exact nb) hr.symm (fun d S1 u s1 v H1 ρ1 e1 nb1 I1 rv rd st1=>Calls.spliced_nil ?_) fun y s' ⟨n,S2,z1,z2⟩=>⟨n,S2,σ,z1,fun _=>rfl,z2⟩)
 refine⟨rfl,by simp[sizeLine],I1.inv.bk _ _ hC,hN.keeps I1.inv.bk,T.keeps I1.inv.bk,fun h' a hmk=>?_⟩
 obtain⟨t,h1,h2,h3⟩:=hmk.there;have hna:H1 a=none:=by
  cases z:H1 a with
  | none=>rfl
  | some w=>obtain⟨o,e⟩:=Xb1 (I1.inv.hok a w z);rw[hmk.new] at e;cases e
 have xo:ExcO C a h':=⟨_,_,_,h1,rfl,rfl,rfl,by simp⟩
 obtain⟨J,hok⟩:=I1.inv.newX hmk.keeps hmk.new xo.ok;refine⟨S1.length,S1++[.exc c],σ,e1,fun _=>rfl,_,ρ1++[a],a,c,J,rfl,?_,by simp,I1.sr.new1 (o:=.exc c) hna ⟨C,hcl,Xz⟩,st1.trans (Stp.new1 hna),.inl ⟨_,_,h1,rfl,rfl⟩⟩
 rw[<- I1.sr.len];simp
end
end Z
end
section
namespace Z
open PySem PySem.Spec PyProof.Rows L2
section
variable{X:Cx}{pins:List (Addr×Obj)}{σ:L2.St}{H:Hp}{s:Shared}{a:Addr}
theorem Inv.goes{n:Str}{p:Pos}{Q:Unit->Shared->Prop}{E:Value->Shared->Prop}{M:Model}{A:Around}(I:Inv X pins σ H s)(hl:X.env.scope.names.lookup n=some .local)
  (h:∀ s',Inv X pins (List.replicate σ.length none) H s'->Q () s'):wpAny M A (do bindName X.env n .none;unbindBehindTheSuite X.env n p) Q E s:=by
 obtain⟨m,hn,_⟩:=I.loc;refine wpAny_nameGoes hl hn (by rw[I.ok.kind];rfl) fun h' m' hn' sb=>h _ ?_
 obtain⟨o,es,ep,ho,r⟩:=id hn;obtain⟨o',es',ep',ho',r'⟩:=id hn';have old:∀ b u,X.s₀.heap.get? b=some u->b≠X.env.locals:=fun b u e=>Nat.ne_of_lt (Nat.lt_of_lt_of_le (Heap.lt_size e) I.ok.above)
 have cellK:∀ x c,X.env.cells.lookup x=some c->∀ v,s.heap.IsCell c v->h'.IsCell c v:=fun x c e v ⟨u,hu,hd⟩=>⟨u,(sb.2 c (I.cne x c e)).trans hu,hd⟩
 refine⟨I.ok,I.os,I.bare,⟨fun b u e q hb hx=>(sb.2 b (old b u e)).trans (I.base.keep b u e q hb hx),fun b u e q hb hx=>?_,I.base.free,fun b u e hx=>?_,I.base.tups,I.base.frzs,I.base.tbls⟩,⟨m',hn',fun i x v _ e2 _=>?_⟩,fun x c e=>?_,I.free,I.freeC,fun p hp=>?_,fun b u q=>?_,by rw[List.length_replicate];exact I.len⟩
 ·obtain⟨sl,z⟩:=I.base.slot b u e q hb hx
  exact⟨sl,(sb.2 b (old b u e)).trans z⟩
 ·obtain⟨w,z⟩:=I.base.there b u e hx
  exact⟨w,(sb.2 b (old b u e)).trans z⟩
 ·rw[List.getElem?_replicate] at e2
  split at e2<;>cases e2
 ·obtain⟨v,z⟩:=I.cell x c e
  exact⟨v,cellK x c e v z⟩
 ·obtain⟨e,n,ne,r⟩:=I.pin p hp
  exact⟨(sb.2 _ ne).trans e,n,ne,r⟩
 ·have ne:∀ c v,H c=some v->c≠X.env.locals:=fun c v z=>Xn z I.free
  refine(I.hok b u q).stay (fun c v hc e=>?_) (fun _ z=>z) fun _ _ z=>z
  rcases hc with rfl|hc
  ·exact(sb.2 _ (ne _ _ q)).trans e
  ·exact(sb.2 _ (ne _ _ hc)).trans e
end
end Z
end
section
namespace Z
open PySem PySem.Spec PyProof.Rows L2
noncomputable def Xbh(sc:Scope):PySem.Env:={ scope:=sc,locals:=0,globals:=0,cells:=[] }
noncomputable def Xdd(b:Bool):Sem Bool->Bool
 | .pure c=>b==c
 | _=>false
noncomputable def Xiy(l:Option (List Str)):Sem (Option (List Str))->Bool
 | .pure m=>decide (l=m)
 | _=>false
theorem Xbp{b:Bool}{m:Sem Bool}(h:Xdd b m=true):m=pure b:=by
 cases m<;>first|cases h|skip
 simp only[Xdd,beq_iff_eq] at h;subst h;rfl
theorem Xf7{b:Option (List Str)}{m:Sem (Option (List Str))}(h:Xiy b m=true):m=pure b:=by
 cases m<;>first|cases h|skip
 simp only[Xiy,decide_eq_true_eq] at h;subst h;rfl
theorem Xiz(v:Expr)(t:Option Expr)(l:Nat)(env:PySem.Env):swapsWith v t l env=swapsWith v t l (Xbh env.scope):=rfl
theorem Xf8(t v:Expr)(l:Nat)(env:PySem.Env):swapsWithSole [t] v l env=swapsWithSole [t] v l (Xbh env.scope):=rfl
theorem Xf9(ts:List Expr)(v:Expr)(env:PySem.Env):swappedStores ts v env=swappedStores ts v (Xbh env.scope):=rfl
theorem Xi0{o i:Expr}{spos:Pos}{env:PySem.Env}(h:Xcd i=true)(v:Value):assign (.Subscript o i spos) env v=(do
   let ov <- holding [v] (eval o env)
   let iv <- holding [v,ov] (eval i env)
   standAt spos
   holding [v,ov,iv] (setItem ov iv v)
   release [v,ov,iv] []):=by
 cases i<;>first|rfl|cases h
noncomputable def Xyu:Expr->Bool
 | .ListComp _ _ _ _=>true
 | _=>false
noncomputable def Xga(s:Stmt):Option (List Expr×Expr×Pos):=match s with
 | .Assign ts v p=>some (ts,v,p)
 | _=>none
theorem Xdv{s:Stmt}{z:List Expr×Expr×Pos}(h:Xga s=some z):s=.Assign z.1 z.2.1 z.2.2:=by
 unfold Xga at h;split at h
 ·cases h;rfl
 ·cases h
noncomputable def Xqr(s:Stmt):Option (Expr×Operator×Expr×Pos):=match s with
 | .AugAssign t o v p=>some (t,o,v,p)
 | _=>none
theorem Xuw{s:Stmt}{z:Expr×Operator×Expr×Pos}(h:Xqr s=some z):s=.AugAssign z.1 z.2.1 z.2.2.1 z.2.2.2:=by
 unfold Xqr at h;split at h
 ·cases h;rfl
 ·cases h
noncomputable def Xqs(s:Stmt):Option (Expr×Pos):=match s with
 | .Expr v p=>some (v,p)
 | _=>none
theorem Xux{s:Stmt}{z:Expr×Pos}(h:Xqs s=some z):s=.Expr z.1 z.2:=by
 unfold Xqs at h;split at h
 ·cases h;rfl
 ·cases h
noncomputable def Xqt(s:Stmt):Option (Option Expr):=match s with
 | .Return v _=>some v
 | _=>none
theorem Xuy{s:Stmt}{z:Option Expr}(h:Xqt s=some z):∃ p,s=.Return z p:=by
 unfold Xqt at h;split at h
 ·cases h;exact⟨_,rfl⟩
 ·cases h
noncomputable def Xqu(s:Stmt):Option (Expr×List Stmt×List Stmt):=match s with
 | .If c a b _=>some (c,a,b)
 | _=>none
theorem Xuz{s:Stmt}{z:Expr×List Stmt×List Stmt}(h:Xqu s=some z):∃ p,s=.If z.1 z.2.1 z.2.2 p:=by
 unfold Xqu at h;split at h
 ·cases h;exact⟨_,rfl⟩
 ·cases h
noncomputable def Xqv(s:Stmt):Option (Expr×Expr×List Stmt×List Stmt):=match s with
 | .For t i b oe _=>some (t,i,b,oe)
 | _=>none
theorem Xu0{s:Stmt}{z:Expr×Expr×List Stmt×List Stmt}(h:Xqv s=some z):∃ p,s=.For z.1 z.2.1 z.2.2.1 z.2.2.2 p:=by
 unfold Xqv at h;split at h
 ·cases h;exact⟨_,rfl⟩
 ·cases h
noncomputable def Xqw(s:Stmt):Option (Option Expr×Option Expr):=match s with
 | .Raise v w _=>some (v,w)
 | _=>none
theorem Xu1{s:Stmt}{z:Option Expr×Option Expr}(h:Xqw s=some z):∃ p,s=.Raise z.1 z.2 p:=by
 unfold Xqw at h;split at h
 ·cases h;exact⟨_,rfl⟩
 ·cases h
noncomputable def Xes(s:Stmt):Nat:=match s with
 | .Pass _=>1
 | .Break _=>2
 | .Continue _=>3
 | _=>0
theorem vEnd_ok{s:Stmt}:(Xes s=1->∃ p,s=.Pass p)/\(Xes s=2->∃ p,s=.Break p)/\(Xes s=3->∃ p,s=.Continue p):=by
 unfold Xes;split
 ·exact⟨fun _=>⟨_,rfl⟩,fun z=>(nomatch z),fun z=>(nomatch z)⟩
 ·exact⟨fun z=>(nomatch z),fun _=>⟨_,rfl⟩,fun z=>(nomatch z)⟩
 ·exact⟨fun z=>(nomatch z),fun z=>(nomatch z),fun _=>⟨_,rfl⟩⟩
 ·exact⟨fun z=>(nomatch z),fun z=>(nomatch z),fun z=>(nomatch z)⟩
section
variable(cm:Bool)(fns:List (Str×Nat×Bool))(gns:List Str)(sc:Scope)(N:List Str)
noncomputable def Xyv(i:Nat)(e:Ex)(v:Expr)(p:Pos)(ts:List Expr):Bool:=(Xc0 ts).any fun t=>(vNm t).any fun x=>decide (N[i]?=some x)&&Xek true sc x&&mt cm fns gns sc N e v&&(Xdd false (swapsWith v (some t) p.line (Xbh sc))||(Xyu v&&Xcy (sc.names.lookup x)&&Xdd true (swapsWith v (some t) p.line (Xbh sc))))
noncomputable def Xsu(is:List Nat)(e:Ex)(v:Expr)(p:Pos)(ts:List Expr):Bool:=(Xc0 ts).any fun t=>cm&&mtT true sc N (.tup is) t&&mt cm fns gns sc N e v&&Xdd false (swapsWithSole [t] v p.line (Xbh sc))&&Xiy none (swappedStores [t] v (Xbh sc))
noncomputable def X03(es:Exs)(p:Pos)(i j:Nat)(a b x y t v:Expr):Bool:=(vNm x).any fun xn=>(vNm y).any fun yn=>cm&&decide (N[i]?=some xn)&&decide (N[j]?=some yn)&&decide (i≠j)&&Xcy (sc.names.lookup xn)&&Xcy (sc.names.lookup yn)&&mts cm fns gns sc N es [a,b] &&
   Xiy (some [xn,yn]) (swappedStores [t] v (Xbh sc))&&Xdd false (swapsWithSole [t] v p.line (Xbh sc))
noncomputable def Xyw(es:Exs)(p:Pos)(is:List Nat)(ts:List Expr)(v:Expr):Bool:=(Xc0 ts).any fun t=>(Xdb t).any fun tn=>(Xdb v).any fun vs =>
 (Xem is).any fun i=>(Xem tn).any fun x=>(Xem vs).any fun a=>X03 cm fns gns sc N es p i.1 i.2 a.1 a.2 x.1 x.2 t v
noncomputable def Xsv(o i e:Ex)(v:Expr)(p:Pos)(ts:List Expr):Bool:=(Xc0 ts).any fun t=>(Xen t).any fun z=>Xcd z.2&&mt cm fns gns sc N o z.1&&mt cm fns gns sc N i z.2&&mt cm fns gns sc N e v&&Xdd false (swapsWithSole [t] v p.line (Xbh sc))&&Xiy none (swappedStores [t] v (Xbh sc))
noncomputable def Xyx(i:Nat)(t:Expr):Bool:=(vNm t).any fun x=>decide (N[i]?=some x)&&Xek true sc x
noncomputable def Xqx(c:Nat)(e:Ex)(v w:Option Expr):Bool:=w.isNone&&v.any fun r=>(Xas r).any fun z=>(vNm z.1).any fun x=>decide (Xbb c=some x)&&glB sc x&&Yt x&&Yp z.2.1&&z.2.2.1.isEmpty&&mt cm fns gns sc N e z.2.1
end
section
variable(fns:List (Str×Nat×Bool))(gns:List Str)(sc:Scope)(N:List Str)
mutual
noncomputable def mtS(cm:Bool):St->Stmt->Bool
 | .nev,_=>true
 | .asg (.var i) e,st=>(Xga st).any fun z=>Xyv cm fns gns sc N i e z.2.1 z.2.2 z.1
 | .asg (.tup is) e,st=>(Xga st).any fun z=>Xsu cm fns gns sc N is e z.2.1 z.2.2 z.1
 | .asg (.nst _ _) _,_=>false
 | .par is es,st=>(Xga st).any fun z=>Xyw cm fns gns sc N es z.2.2 is z.1 z.2.1
 | .aset o i e,st=>(Xga st).any fun z=>Xsv cm fns gns sc N o i e z.2.1 z.2.2 z.1
 | .aug i op e,st=>(Xqr st).any fun z=>Xyx sc N i z.1&&Xlp op z.2.1&&mt cm fns gns sc N e z.2.2.1
 | .expr e,st=>(Xqs st).any fun z=>Xdd false (swapsWith z.1 none z.2.line (Xbh sc))&&mt cm fns gns sc N e z.1
 | .ret e,st=>(Xqt st).any fun z=>z.any fun v=>mt cm fns gns sc N e v
 | .ite c a b,st=>(Xqu st).any fun z=>mt cm fns gns sc N c z.1&&mtSs cm a z.2.1&&mtSs cm b z.2.2
 | .for t it b,st=>(Xqv st).any fun z=>cm&&z.2.2.2.isEmpty&&Xaz z.2.1&&mtT true sc N t z.1&&mtI cm fns gns sc N it z.2.1&&mtSs cm b z.2.2.1&&Xcz t it
 | .rse c e,st=>(Xqw st).any fun z=>cm&&Xqx cm fns gns sc N c e z.1 z.2
 | .pass,st=>Xes st==1
 | .brk,st=>Xes st==2
 | .cnt,st=>Xes st==3
noncomputable def mtSs(cm:Bool):Sts->List Stmt->Bool
 | .nil,[]=>true
 | .cons s ss,x::xs=>mtS cm s x&&mtSs cm ss xs
 | _,_=>false
end
end
theorem Xet{k:Option NameKind}(h:Xcy k=true):k=some .local:=by
 unfold Xcy at h;split at h
 ·rfl
 ·cases h
section
variable{F:Fn}{G:List D}{cm:Bool}{fns:List (Str×Nat×Bool)}{gns:List Str}{X:Cx}
theorem DS.congr{st:Stmt}{na:Bool}{f g:En->Sto->R Fl}(h:DS X st na f)(q:∀ env S,g env S=f env S):DS X st na g:=by
 have:g=f:=funext fun env=>funext fun S=>q env S
 rw[this];exact h
theorem DSs.congr{st:List Stmt}{na:Bool}{f g:En->Sto->R Fl}(h:DSs X st na f)(q:∀ env S,g env S=f env S):DSs X st na g:=by
 have:g=f:=funext fun env=>funext fun S=>q env S
 rw[this];exact h
theorem Xyy{st:Stmt}{na:Bool}:DS X st na (exe F G .nev):=fun _ _ _ _ _ _ _ _ nb=>absurd (by simp only[exe]) nb
structure TopOk(cm:Bool)(F:Fn)(G:List D)(fns:List (Str×Nat×Bool))(gns:List Str)(X:Cx)(sc:Scope)(N:List Str):Prop where
 hN:X.N=N
 hs:X.env.scope=sc
 nd:N.Nodup
 fn:∀ x,X.fn x=true
 pf:PF cm F G fns gns X
 stk:X.stack=X.env::X.outer
 frm:X.env.frame=some X.env.locals
variable{sc:Scope}{N:List Str}
noncomputable def isC:Ex->Bool
 | .nev=>true
 | .cmr _ _ _ _=>true
 | _=>false
theorem X04{e:Ex}{v:Expr}(h4:Xyu v=true)(hn:isC e=false)(h:mt cm fns gns sc N e v=true):False:=by
 cases v with
 | ListComp ee gens scope cp =>
  cases e with
  | nev=>cases hn
  | cmr _ _ _ _=>cases hn
  | _=>cases h
 | _=>cases h4
theorem Xqy{i:Nat}{e:Ex}{ts:List Expr}{v:Expr}{p:Pos}(T:TopOk cm F G fns gns X sc N)(h:Xyv cm fns gns sc N i e v p ts=true):DS X (.Assign ts v p) false (exe F G (.asg (.var i) e)):=by
 obtain⟨t,k1,hq1⟩:=Xc h;obtain⟨x,k2,hq2⟩:=Xc hq1;clear h hq1;have h:=hq2;clear hq2;have k3:=Xa6 k1;obtain⟨py,k4⟩:=Xan k2;subst k4 k3
 ·rw[bA0,bA0,bA0,decide_eq_true_eq,Bool.or_eq_true,bA0,bA0] at h
  obtain⟨⟨⟨h1,h2⟩,h3⟩,h4⟩:=h;obtain⟨l1,l2⟩:=Xcc (X:=X) T.hs (fun _=>T.fn) h2
  have ihe:=(snd e X sc N v T.hN T.hs T.pf h3).1;have hN:=T.hN;have hs:=T.hs;subst hN hs;rcases h4 with h4|⟨⟨h4,h5⟩,h6⟩
  ·have hw:=Xbp h4
   rw[<- Xiz] at hw;exact(Xw9 T.nd h1 l1 l2 ihe hw).congr fun env S=>by simp only[exe]<;>rfl
  ·have hw:=Xbp h6
   rw[<- Xiz] at hw;cases e with
   | nev=>exact fun _ _ _ _ _ _ _ _ nb=>absurd (by simp only[exe,ev,R.bind_bad]) nb
   | cmr k n gs elt =>
    obtain⟨ee,gens,scope,cp,rfl,m0,m1,m2,m3,m4,m5⟩:=Xn4 h3;subst m1 m2;have so:=Xn2 m3;have hcl:=T.pf.calm m0;obtain⟨c⟩:=Xkm (p:=cp) rfl rfl T.pf hcl so (sndg gs X _ _ _ _ gens rfl rfl T.pf m4) (fun Y y1 y2 y3=>(snd elt Y _ _ ee y1 y2 y3 m5).1)
    refine(Xtx (py:=py) (spos:=p) T.nd h1 (Xet h5) hw hcl so rfl c.hg c.hi c.hs c.hG c.hT c.hB).congr fun env S=>?_
    simp only[exe];have:=congrFun (congrFun c.eq env) S;rw[this]
    all_goals rfl
   | _=>exact(X04 h4 rfl h3).elim
theorem Xqz{is:List Nat}{e:Ex}{ts:List Expr}{v:Expr}{p:Pos}(T:TopOk cm F G fns gns X sc N)(h:Xsu cm fns gns sc N is e v p ts=true):DS X (.Assign ts v p) false (exe F G (.asg (.tup is) e)):=by
 obtain⟨t,k1,hq1⟩:=Xc h;clear h;have h:=hq1;clear hq1;have k3:=Xa6 k1;subst k3
 ·rw[bA0,bA0,bA0,bA0] at h
  obtain⟨⟨⟨⟨h0,h1⟩,h2⟩,h3⟩,h4⟩:=h;have h1':=h1;simp only[mtT] at h1';obtain⟨tes,q1,_⟩:=Xc h1';obtain⟨tkk,tpp,q2⟩:=Xal q1;subst q2;have ihe:=(snd e X sc N v T.hN T.hs T.pf h2).1;have hg:=dgB (top:=true) T.hN T.hs T.nd (fun _=>T.pf.calm h0) (fun _=>T.fn) h1
  have w1:=Xbp h3;have w2:=Xf7 h4;rw[<- T.hs] at w1 w2;rw[<- Xf8] at w1;rw[<- Xf9] at w2;exact(Xyp ihe hg w1 w2 rfl).congr fun env S=>by simp only[exe]<;>rfl
theorem Xu2{is:List Nat}{es:Exs}{ts:List Expr}{v:Expr}{p:Pos}(T:TopOk cm F G fns gns X sc N)(h:Xyw cm fns gns sc N es p is ts v=true):DS X (.Assign ts v p) false (exe F G (.par is es)):=by
 obtain⟨t,k1,hq⟩:=Xc h;clear h;have h:=hq;clear hq;obtain⟨tn,k2,hq⟩:=Xc h;clear h;have h:=hq;clear hq;obtain⟨vs,k3,hq⟩:=Xc h;clear h;have h:=hq;clear hq;have e1:=Xa6 k1;obtain⟨kt,pt,e2⟩:=Xal k2;obtain⟨kv,pv,e3⟩:=Xal k3;subst e1 e2 e3;obtain⟨⟨i,j⟩,k4,hq⟩:=Xc h;clear h;have h:=hq;clear hq;obtain⟨⟨x,y⟩,k5,hq⟩:=Xc h;clear h;have h:=hq;clear hq;obtain⟨⟨a,b⟩,k6,hq⟩:=Xc h;clear h;have h:=hq;clear hq;have e4:=Xce k4;have e5:=Xce k5;have e6:=Xce k6;subst e4 e5 e6;obtain⟨xn,k7,hq⟩:=Xc h;clear h;have h:=hq;clear hq;obtain⟨yn,k8,hq⟩:=Xc h;clear h;have h:=hq;clear hq;obtain⟨px,e7⟩:=Xan k7;obtain⟨py,e8⟩:=Xan k8;dsimp only at e7 e8;subst e7 e8
 iterate 8 rw[bA0] at h
 obtain⟨⟨⟨⟨⟨⟨⟨⟨h0,h1⟩,h2⟩,h3⟩,h4⟩,h5⟩,h6⟩,h7⟩,h8⟩:=h;have ihe:=snds es X sc N _ T.hN T.hs T.pf h6;have hN:=T.hN;have hs:=T.hs;subst hN hs;have w1:=Xbp h8;have w2:=Xf7 h7;rw[<- Xf8] at w1;rw[<- Xf9] at w2;exact(Xut (T.pf.calm h0) T.nd (of_decide_eq_true h1) (of_decide_eq_true h2) (of_decide_eq_true h3) (Xet h4) (Xet h5) ihe w2 w1).congr fun env S=>by simp only[exe]
theorem Xq0{o i e:Ex}{ts:List Expr}{v:Expr}{p:Pos}(T:TopOk cm F G fns gns X sc N)(h:Xsv cm fns gns sc N o i e v p ts=true):DS X (.Assign ts v p) false (exe F G (.aset o i e)):=by
 obtain⟨t,k1,hq1⟩:=Xc h;obtain⟨⟨ox,ix⟩,k2,hq2⟩:=Xc hq1;clear h hq1;have h:=hq2;clear hq2;have k3:=Xa6 k1;obtain⟨sp,k4⟩:=Xcf k2;dsimp only at k4;subst k4 k3
 ·iterate 5 rw[bA0] at h
  obtain⟨⟨⟨⟨⟨h1,h2⟩,h3⟩,h4⟩,h5⟩,h6⟩:=h;have w1:=Xbp h5;have w2:=Xf7 h6;rw[<- T.hs] at w1 w2;rw[<- Xf8] at w1;rw[<- Xf9] at w2;exact((Xuu (snd e X sc N v T.hN T.hs T.pf h4).1 (snd o X sc N _ T.hN T.hs T.pf h2).1 (snd i X sc N _ T.hN T.hs T.pf h3).1 w1 w2 (Xi0 h1)).weak (na2:=false) fun z=>nomatch z).congr fun env S=>by simp only[exe]
theorem Xu3{i:Nat}{op:Bo}{e:Ex}{t:Expr}{o:Operator}{v:Expr}{p:Pos}(T:TopOk cm F G fns gns X sc N)(h:(Xyx sc N i t&&Xlp op o&&mt cm fns gns sc N e v)=true):DS X (.AugAssign t o v p) false (exe F G (.aug i op e)):=by
 simp only[bA0] at h;obtain⟨⟨h1,h2⟩,h3⟩:=h;obtain⟨x,k1,hq⟩:=Xc h1;clear h1;have h1:=hq;clear hq;obtain⟨px,k2⟩:=Xan k1;subst k2;have e1:=Xkg h2;subst e1
 ·rw[bA0,decide_eq_true_eq] at h1
  obtain⟨l1,l2⟩:=Xcc (X:=X) T.hs (fun _=>T.fn) h1.2
  have ihe:=(snd e X sc N v T.hN T.hs T.pf h3).1;have hN:=T.hN;have hs:=T.hs;subst hN hs;exact(Xyr T.nd h1.1 l1 l2 ihe).congr fun env S=>by simp only[exe]<;>rfl
theorem Xu4{e:Ex}{v:Option Expr}{p:Pos}(T:TopOk cm F G fns gns X sc N)(h:(v.any fun v=>mt cm fns gns sc N e v)=true):DS X (.Return v p) true (exe F G (.ret e)):=by
 obtain⟨v,rfl,h⟩:=Xc h;exact(Xw8 (snd e X sc N v T.hN T.hs T.pf h).1).congr fun env S=>by simp only[exe]
theorem Xu5{c:Nat}{e:Ex}{v w:Option Expr}{p:Pos}(T:TopOk cm F G fns gns X sc N)(h0:cm=true)(h:Xqx cm fns gns sc N c e v w=true):DS X (.Raise v w p) true (exe F G (.rse c e)):=by
 unfold Xqx at h;rw[bA0] at h;obtain⟨hw,h⟩:=h;cases w with
 | some _=>cases hw
 | none =>
  obtain⟨r,er,hq⟩:=Xc h;obtain⟨x,px,y,ys,cp,er2,hq2⟩:=Xcg hq;clear h hq;have h:=hq2;clear hq2;subst er2 er
  iterate 5 rw[bA0] at h
  obtain⟨⟨⟨⟨⟨h1,h2⟩,h3⟩,h4⟩,h6⟩,h5⟩:=h;have h1:=of_decide_eq_true h1;have e6:=List.isEmpty_iff.mp h6;dsimp only at e6;subst e6;obtain⟨C,k1,k2⟩:=T.pf.err.at_ c x h1;exact(Xyt (T.pf.calm h0) h1 k2 (T.pf.err.cls c C k1).1 (Y3 T.hs h2) (Xak h3).1 (snd e X sc N y T.hN T.hs T.pf h5).1 h4).congr fun env S=>by simp only[exe]
mutual
theorem X2f{cm:Bool}{X:Cx}:∀ (x:St) (st:Stmt),TopOk cm F G fns gns X sc N->mtS fns gns sc N cm x st=true->DS X st (Xwz x) (exe F G x)
 | .nev,st,T,h=>Xyy
 | .asg (.var i) e,st,T,h=>by
  simp only[mtS] at h;obtain⟨z,h1,hq⟩:=Xc h;clear h;have h:=hq;clear hq;rw[Xdv h1];exact Xqy T h
 | .asg (.tup is) e,st,T,h=>by
  simp only[mtS] at h;obtain⟨z,h1,hq⟩:=Xc h;clear h;have h:=hq;clear hq;rw[Xdv h1];exact Xqz T h
 | .asg (.nst _ _) _,st,T,h=>by cases h
 | .par is es,st,T,h=>by
  simp only[mtS] at h;obtain⟨z,h1,hq⟩:=Xc h;clear h;have h:=hq;clear hq;rw[Xdv h1];exact Xu2 T h
 | .aset o i e,st,T,h=>by
  simp only[mtS] at h;obtain⟨z,h1,hq⟩:=Xc h;clear h;have h:=hq;clear hq;rw[Xdv h1];exact Xq0 T h
 | .aug i op e,st,T,h=>by
  simp only[mtS] at h;obtain⟨z,h1,hq⟩:=Xc h;clear h;have h:=hq;clear hq;rw[Xuw h1];exact Xu3 T h
 | .expr e,st,T,h=>by
  simp only[mtS] at h;obtain⟨z,h1,hq⟩:=Xc h;clear h;have h:=hq;clear hq;rw[Xux h1];rw[bA0] at h;have w1:=Xbp h.1;rw[<- T.hs,<- Xiz] at w1;exact(Xtm (snd e X sc N z.1 T.hN T.hs T.pf h.2).1 w1).congr fun env S=>by simp only[exe]
 | .ret e,st,T,h=>by
  simp only[mtS] at h;obtain⟨z,h1,hq⟩:=Xc h;clear h;have h:=hq;clear hq;obtain⟨p,rfl⟩:=Xuy h1;exact Xu4 T h
 | .ite c a b,st,T,h=>by
  simp only[mtS] at h;obtain⟨z,h1,hq⟩:=Xc h;clear h;have h:=hq;clear hq;obtain⟨p,rfl⟩:=Xuz h1;rw[bA0,bA0] at h;exact(X0l (snd c X sc N z.1 T.hN T.hs T.pf h.1.1).2 (sndSs a z.2.1 T h.1.2) (sndSs b z.2.2 T h.2)).congr fun env S=>by simp only[exe]<;>rfl
 | .for t it b,st,T,h=>by
  simp only[mtS] at h;obtain⟨⟨tg,iter,body,oe⟩,h1,hq⟩:=Xc h;clear h;have h:=hq;clear hq;obtain⟨p,rfl⟩:=Xu0 h1
  iterate 6 rw[bA0] at h
  obtain⟨⟨⟨⟨⟨⟨h0,h1⟩,h2⟩,h3⟩,h4⟩,h5⟩,h6⟩:=h;have e1:=List.isEmpty_iff.mp h1;dsimp only at e1;subst e1;have hg:=dgB (top:=true) T.hN T.hs T.nd (fun _=>T.pf.calm h0) (fun _=>T.fn) h3
  exact(Xxk (T.pf.calm h0) (Xlz it X sc N tg iter T.hN T.hs T.pf (Xe3 h6 h3) h4) hg (sndSs b body T h5) (Xcx h2)).congr fun env S=>by simp only[exe]
 | .rse c e,st,T,h=>by
  simp only[mtS] at h;obtain⟨z,h1,hq⟩:=Xc h;clear h;have h:=hq;clear hq;obtain⟨p,rfl⟩:=Xu1 h1;rw[bA0] at h;exact Xu5 T h.1 h.2
 | .pass,st,T,h=>by
  simp only[mtS,beq_iff_eq] at h;obtain⟨p,rfl⟩:=vEnd_ok.1 h;exact ds_pass.congr fun env S=>by simp only[exe]
 | .brk,st,T,h=>by
  simp only[mtS,beq_iff_eq] at h;obtain⟨p,rfl⟩:=vEnd_ok.2.1 h;exact ds_brk.congr fun env S=>by simp only[exe]
 | .cnt,st,T,h=>by
  simp only[mtS,beq_iff_eq] at h;obtain⟨p,rfl⟩:=vEnd_ok.2.2 h;exact ds_cnt.congr fun env S=>by simp only[exe]
theorem sndSs{cm:Bool}{X:Cx}:∀ (x:Sts) (st:List Stmt),TopOk cm F G fns gns X sc N->mtSs fns gns sc N cm x st=true->DSs X st (nasgs x) (exes F G x)
 | .nil,[],T,h=>dss_nil.congr fun env S=>by simp only[exes]
 | .cons s ss,x::xs,T,h=>by
  have h':(mtS fns gns sc N cm s x&&mtSs fns gns sc N cm ss xs)=true:=h;rw[bA0] at h';exact(Xps (X2f s x T h'.1) (sndSs ss xs T h'.2)).congr fun env S=>by simp only[exes]<;>rfl
 | .nil,_::_,T,h=>by cases h
 | .cons _ _,[],T,h=>by cases h
end
end
end Z
end
section
namespace Z
open PySem PySem.Spec PyProof.Rows L2
noncomputable def Xu(N ps:List Str)(sc:Scope):Bool:=isFn sc.kind && !sc.isCoroutine && !sc.isGenerator&&Xc9 N&&decide (N.take ps.length=ps)&&ps.all (fun x=>match sc.names.lookup x with|some .local=>true|some .cell=>true|_=>false)&&sc.names.all (fun y=>match y.2 with | .free=>false|_=>true)
theorem Xq1{N ps:List Str}{sc:Scope}(h:Xu N ps sc=true):FnScope N ps sc:=by
 simp only[Xu,bA0,Bool.not_eq_true',decide_eq_true_eq] at h;obtain⟨⟨⟨⟨⟨⟨h1,h2⟩,h3⟩,h4⟩,h5⟩,h6⟩,h7⟩:=h;refine⟨Xf1 h1,h2,h3,Xda h4,h5,fun x hx=>?_,fun y hy e=>?_⟩
 ·have:=List.all_eq_true.mp h6 x hx
  split at this
  ·exact .inl (by assumption)
  ·exact .inr (by assumption)
  ·cases this
 ·have:=List.all_eq_true.mp h7 y hy
  rw[e] at this;cases this
structure DefOk(K:PySem.W.Frag)(mg:Str->Option Value)(fns:List (Str×Nat×Bool))(gns:List Str)(d:Df)(nm:Str)(ar:Nat)(fl:Bool):Prop where
 ex:∃ g fd st qual N ps,Fun K nm qual st g fd/\mg nm=some (.ref g)/\Xu N ps (Xb st)=true/\mtSs fns gns (Xb st) N fl d.body (Xh st)=true/\d.np=ps.length/\d.nl=N.length/\ps.length=ar/\Binds K fd ps []
section
variable{P:Program}{w:World}{K:PySem.W.Frag}{mg:Str->Option Value}{base:Heap}{T:List Df}{G:List D}{fns:List (Str×Nat×Bool)}{gns:List Str}
theorem Xi1(hcl:∀ (f:Nat) (nm:Str),Xbg f nm G=true->∃ ar fl,fns[f]?=some (nm,ar,fl)/\(∀ a,PySem.W.nsIn K mainGlobals nm=some (some (.ref a))->mg nm=some (.ref a))/\∀ k xs S,FT T G k f xs S≠.bad->xs.length=ar)(er:ErrOk K)(hb:∀ x∈blts,mg x=none)(hg:∀ (k:Nat) nm,gns[k]?=some nm->∃ u d,mg nm=some u/\G[k]?=some d/\∀ ρ H,∃ v,RelV v u/\RD K ρ H d v){k:Nat}
  (ih:∀ (f:Nat) nm ar fl,fns[f]?=some (nm,ar,fl)->∃ g fd ps,FnD fl P w K mg base k g fd ps (FT T G k f)/\Binds K fd ps []/\mg nm=some (.ref g)/\PySem.W.keepIn K (.ref g)=true/\ps.length=ar)
  {f:Nat} {nm qual:Str} {fl:Bool} {d:Df} {g:Addr} {fd:FuncData} {st:Stmt} {N ps:List Str} (hT:T[f]?=some d) (F:Fun K nm qual st g fd) (hS:Xu N ps (Xb st)=true) (hM:mtSs fns gns (Xb st) N fl d.body (Xh st)=true) (hp:d.np=ps.length) (hn:d.nl=N.length) :
  FnD fl P w K mg base (k+1) g fd ps (FT T G (k+1) f):=by
 obtain⟨oc,od,kV,doc,pm,an,cdv,ct,osl,rfl,lk,hcd⟩:=F.ex;have hS':=Xq1 hS;have key:=Xxa (cm:=fl) (P:=P) (w:=w) (mg:=mg) (base:=base) (k:=k) (G:=exes (FT T G k) G d.body) (na:=nasgs d.body) lk hcd hS' fun A outer s H E hr=>by
  refine sndSs (fns:=fns) (gns:=gns) (sc:=Xb st) (N:=N) d.body (Xh st) ⟨rfl,rfl,hS'.nd,fun _=>rfl,⟨hb,fun f nm ar fl' h hfl=>?_,hg,fun f nm h=>let ⟨ar,fl,h1,h2,h3⟩:=hcl f nm h;⟨ar,fl,h1,h2,h3 k⟩,?_,hr.gd,id,er⟩,rfl,rfl⟩ hM
  ·obtain⟨g,fd,ps,h1,h2,h3,h4,h5⟩:=ih f nm ar fl' h
   exact⟨g,fd,ps,k,h1,hr.less hfl,h2,h3,h4,h5⟩
  ·have:=hr.un
   show(A.deeper _).units+200<cLine;omega
 have e:FT T G (k+1) f=(fun ds S=>if ds.length=ps.length then
  match exes (FT T G k) G d.body (ds.map some++List.replicate (N.length-ps.length) none) S with
  | .ok (.rt v) S=>.ok v S
  | .ok (.nx _) S=>.ok .non S
  | .ok _ _=>.bad
  | .ex n S=>.ex n S
  | .bad=>.bad else .bad):=by
  funext ds S
  simp only[FT,hT,den,hp,hn]
  all_goals rfl
 rw[e];exact key
theorem X05(hcl:∀ (f:Nat) (nm:Str),Xbg f nm G=true->∃ ar fl,fns[f]?=some (nm,ar,fl)/\(∀ a,PySem.W.nsIn K mainGlobals nm=some (some (.ref a))->mg nm=some (.ref a))/\∀ k xs S,FT T G k f xs S≠.bad->xs.length=ar)(er:ErrOk K)(hb:∀ x∈blts,mg x=none)(hg:∀ (k:Nat) nm,gns[k]?=some nm->∃ u d,mg nm=some u/\G[k]?=some d/\∀ ρ H,∃ v,RelV v u/\RD K ρ H d v)
  (hd:∀ (f:Nat) nm ar fl,fns[f]?=some (nm,ar,fl)->∃ d,T[f]?=some d/\DefOk K mg fns gns d nm ar fl) :
  ∀ (k f:Nat) nm ar fl,fns[f]?=some (nm,ar,fl)->∃ g fd ps,FnD fl P w K mg base k g fd ps (FT T G k f)/\Binds K fd ps []/\mg nm=some (.ref g)/\PySem.W.keepIn K (.ref g)=true/\ps.length=ar:=by
 intro k
 induction k with
 | zero =>
  intro f nm ar fl h;obtain⟨d,_,⟨g,fd,st,qual,N,ps,F,hm,_,_,_,_,hl,hB⟩⟩:=hd f nm ar fl h;refine⟨g,fd,ps,⟨fun A outer s H args us vs Q E _ _ _ _ hsp=>?_⟩,hB,hm,F.kp,hl⟩
  obtain⟨ds,ρ,S',_,_,_,nb,_⟩:=hsp;exact absurd rfl nb
 | succ k ih =>
  intro f nm ar fl h;obtain⟨d,hT,⟨g,fd,st,qual,N,ps,F,hm,hS,hM,hp,hn,hl,hB⟩⟩:=hd f nm ar fl h;exact⟨g,fd,ps,Xi1 hcl er hb hg ih hT F hS hM hp hn,hB,hm,F.kp,hl⟩
end
structure FunAt(K:PySem.W.Frag)(nm:Str)(st:Stmt):Prop where
 ex:∃ g fd,Fun K nm nm st g fd/\PySem.W.nsIn K mainGlobals nm=some (some (.ref g))
theorem funAt_mk{K:PySem.W.Frag}{nm:Str}{st:Stmt}{f:Addr}{oc:Value}{od an:Option Addr}{osl:Array (Option Value)}{kV doc pm cdv ct:Value}(a:PySem.W.nsIn K mainGlobals nm=some (some (.ref f)))
  (l:K.lookup f=some ⟨oc,od,.func (PySem.W.fnOf nm nm (Xbk st) (Xh st) (Xb st) .none kV doc pm an cdv ct),osl⟩) (c:PySem.W.codeIn K cdv nm=true) (k:PySem.W.keepIn K (.ref f)=true):FunAt K nm st:=⟨⟨f,_,Xwy l c k,a⟩⟩
def Xsw(nm:Str)(st:Stmt)(ps:List Str):Prop:=∀ (kV doc pm:Value) (an:Option Addr) (cdv ct:Value) (us:List Value),us.length=ps.length->bindArgs (PySem.W.fnOf nm nm (Xbk st) (Xh st) (Xb st) .none kV doc pm an cdv ct) ⟨us,[]⟩=pure (ps.zip us)
theorem Xk{K:PySem.W.Frag}{h:Heap}{mg:Str->Option Value}{fns:List (Str×Nat×Bool)}{gns:List Str}{d:Df}{nm:Str}{ar:Nat}{fl:Bool}{st:Stmt}{N ps:List Str}(X:K.In h)(Gm:h.Ns mainGlobals mg)(F:FunAt K nm st)
  (hS:Xu N ps (Xb st)=true) (hM:mtSs fns gns (Xb st) N fl d.body (Xh st)=true) (hp:d.np=ps.length) (hn:d.nl=N.length) (hl:ps.length=ar) (hB:Xsw nm st ps):DefOk K mg fns gns d nm ar fl:=by
 obtain⟨g,fd,h1,h2⟩:=F.ex;exact⟨g,fd,st,nm,N,ps,h1,PySem.W.mg_of X Gm h2,hS,hM,hp,hn,hl,h1.binds hB⟩
noncomputable def Xyz(K:PySem.W.Frag):Bool:=blts.all fun x=>match PySem.W.nsIn K mainGlobals x with
 | some none=>true
 | _=>false
theorem Xu6{K:PySem.W.Frag}{h:Heap}{mg:Str->Option Value}(X:K.In h)(Gm:h.Ns mainGlobals mg)(e:Xyz K=true):∀ x∈blts,mg x=none:=fun x hx=>by
 have:=List.all_eq_true.mp e x hx;split at this
 ·rename_i q;exact PySem.W.mg_none_of X Gm q
 ·cases this
theorem Xu7{K:PySem.W.Frag}{h:Heap}{mg:Str->Option Value}{nm:Str}{i:Int}{t:Tok}(X:K.In h)(Gm:h.Ns mainGlobals mg)(e:PySem.W.nsIn K mainGlobals nm=some (some (.int i t))):∃ u d,mg nm=some u/\some (D.int i)=some d/\∀ ρ H,∃ v,RelV v u/\RD K ρ H d v :=
 ⟨_,_,PySem.W.mg_of X Gm e,rfl,fun _ _=>⟨.int i,⟨t,rfl⟩,by simp only[RD]⟩⟩
noncomputable def Xgb(fns:List (Str×Nat×Bool)):List D->Bool
 | []=>true
 | .fn f nm::r=>(match fns[f]? with|some (m,_,_)=>decide (m=nm)|none=>false)&&Xgb fns r
 | _::r=>Xgb fns r
theorem Xgc{fns:List (Str×Nat×Bool)}{f:Nat}{nm:Str}:∀ {G:List D},Xgb fns G=true->Xbg f nm G=true->∃ ar fl,fns[f]?=some (nm,ar,fl)
 | [],_,h=>by cases h
 | d::r,hc,h=>by
  cases d with
  | fn g m =>
   simp only[Xgb,bA0] at hc;simp only[Xbg,Bool.or_eq_true,bA0,beq_iff_eq,decide_eq_true_eq] at h;rcases h with⟨rfl,rfl⟩|h
   ·have h1:=hc.1
    split at h1
    ·rename_i m' ar fl e
     have:=of_decide_eq_true h1;subst this;exact⟨ar,fl,e⟩
    ·cases h1
   ·exact Xgc hc.2 h
  | _=>exact Xgc (by simpa only[Xgb] using hc) (by simpa only[Xbg] using h)
theorem Xy0{T:List Df}{G:List D}{f:Nat}{d:Df}(hT:T[f]?=some d):∀ (k:Nat) (xs:List D) (S:Sto),FT T G k f xs S≠.bad->xs.length=d.np
 | 0,xs,S,h=>absurd rfl h
 | k+1,xs,S,h=>by
  simp only[FT,hT,den] at h;split at h
  ·assumption
  ·exact absurd rfl h
theorem law_fn {P:Program} {w:World} {K:PySem.W.Frag} {h:Heap} {mg:Str->Option Value} {T:List Df} {G:List D} {fns:List (Str×Nat×Bool)} {gns:List Str} {fa:Addr} {k f:Nat} {d:Df} {st:Stmt} {N:List Str} {x:Str} (X:K.In h) (Gm:h.Ns mainGlobals mg) (hfa:mg "law" = some (.ref fa))
  (er:ErrOk K) (hb:∀ x∈blts,mg x=none) (hg:∀ (k:Nat) nm,gns[k]?=some nm->∃ u d,mg nm=some u/\G[k]?=some d/\∀ ρ H,∃ v,RelV v u/\RD K ρ H d v)
  (hd:∀ (f:Nat) nm ar fl,fns[f]?=some (nm,ar,fl)->∃ d,T[f]?=some d/\DefOk K mg fns gns d nm ar fl)
  (hT:T[f]?=some d) (F:FunAt K "law" st) (hS:Xu N [x] (Xb st)=true) (hM:mtSs fns gns (Xb st) N true d.body (Xh st)=true) (hp:d.np=1) (hn:d.nl=N.length) (hB:Xsw "law" st [x]) (hcb:Xgb fns G=true:=by rfl) :
  ∃ fd:FuncData,(∀ (s:Shared) (u:Value),BindsTo s fd ⟨[u],[]⟩ [(x,u)])/\∀ base:Heap,K.In base->base.Ns mainGlobals mg->FnOk P w K mg base (CXd P w) (k+1) fa fd [x] (spD K 1 (FT T G (k+1) f)):=by
 obtain⟨g,fd,h1,h2⟩:=F.ex;have e:=hfa.symm.trans (PySem.W.mg_of X Gm h2);cases e;refine⟨fd,fun s u=>?_,fun base _ _=>?_⟩
 ·obtain⟨oc,od,kV,doc,pm,an,cdv,ct,osl,rfl,_⟩:=h1.ex
  exact .of_eq (hB kV doc pm an cdv ct [u] rfl)
 ·have hcl:∀ (f:Nat) (nm:Str),Xbg f nm G=true->∃ ar fl,fns[f]?=some (nm,ar,fl)/\(∀ a,PySem.W.nsIn K mainGlobals nm=some (some (.ref a))->mg nm=some (.ref a))/\∀ k xs S,FT T G k f xs S≠.bad->xs.length=ar:=fun f nm h=>by
   obtain⟨ar,fl,q⟩:=Xgc hcb h;obtain⟨d',hT',⟨_,_,_,_,_,ps',_,_,_,_,e1,_,e2,_⟩⟩:=hd f nm ar fl q;exact⟨ar,fl,q,fun a z=>PySem.W.mg_of X Gm z,fun k xs S z=>by rw[Xy0 hT' k xs S z,e1,e2]⟩
  have:=Xi1 (P:=P) (w:=w) (base:=base) hcl er hb hg (fun f nm ar fl q=>X05 hcl er hb hg hd k f nm ar fl q) hT h1 hS hM hp hn
  exact⟨fun vs H Q E z=>let ⟨_,_,_,q,_⟩:=z;q,fun A outer s H args us vs Q E hr=>this.run A outer s H args us vs Q E (.of hr)⟩
theorem Xy1{K:PySem.W.Frag}{F:List D->Sto->R D}{H:Hp}{a:Addr}{ns:List Int}(hO:Xlf H)(hS:SqL K H a (ns.map V.int))(hF:∃ S',F [.fro (ns.map D.int)] []=.ok (.bl true) S') :
  spD K 1 F [.ref a] H (fun v _=>v=.bl true) fun _ _ _=>False:=by
 obtain⟨S',e⟩:=hF;have hfr:FrL K H a (ns.map V.int):=by
  rcases hS with(h|⟨o,h⟩)|h
  ·rcases hO a with z|⟨o,xs,z⟩
   ·rw[h] at z;cases z
   ·rw[h] at z;cases z
  ·exact .inl ⟨o,h⟩
  ·exact .inr h
 refine⟨[.fro (ns.map D.int)],[],[],rfl,.cons ?_ .nil,⟨rfl,List.nodup_nil,fun n a o q=>by simp at q⟩,(by rw[e];exact fun z=>nomatch z),fun d S2 v H' ρ' q rd _ _=>?_,fun n c S2 a H' ρ' q=>?_⟩
 ·simp only[RD]
  exact⟨a,_,rfl,hfr,RDs.ints ns⟩
 ·rw[e] at q;cases q
  simpa only[RD] using rd
 ·rw[e] at q;cases q
theorem Xy2{P:Program}{w:World}(H:Hp)(s:Shared)(e:Value)(s':Shared)(z:CXd P w [] H s (fun _ _ _=>False) e s'):False:=by
 obtain⟨_,_,_,_,_,_,q⟩:=z;exact q
theorem walk_z{l:PySem.W.OpenLaw}{q:Program}{loose:List Str}{XP:(Str->Option Value)->Heap->Prop}{YP:World->Heap->Prop}{d:DefRec}{K:Params->PySem.W.Frag}{T:List Df}{G:List D}{k f:Nat}{x:Str}(hn:l.most=some 63)(hdf:d.params.defaults=[])(hr:Room k callerA)
  (hY:∀ (w:World) (h:Heap),YP w h->(K w.params).In h)
  (F:∀ (w:World) (mg:Str->Option Value) (fa:Addr) (h:Heap),(K w.params).In h->h.Ns mainGlobals mg->mg d.name=some (.ref fa) ->
   ∃ fd:FuncData,(∀ (s:Shared) (u:Value),BindsTo s fd ⟨[u],[]⟩ [(x,u)])/\∀ base:Heap,(K w.params).In base->base.Ns mainGlobals mg->FnOk l.prog w (K w.params) mg base (CXd l.prog w) k fa fd [x] (spD (K w.params) 1 (FT T G k f)))
  (hL:∀ ns:List Int,ns.length<=63->∃ S',FT T G k f [.fro (ns.map D.int)] []=.ok (.bl true) S') :
  PySem.W.WalkO q loose XP YP l.row.toRowW d [] (fun f vs=>PySem.call f vs) :=
 L2.walk_of (n:=63) (k:=k) (x:=x) (CX:=fun w=>CXd l.prog w) (sp:=fun w=>spD (K w.params) 1 (FT T G k f)) hn (by decide) hdf hr hY F (fun _ _ _ ns hl hO hS=>Xy1 hO hS (hL ns hl)) fun _ H s e s' z=>Xy2 H s e s' z
end Z
end
section
namespace Z
open PySem
section
variable{F:Fn}{G:List D}{s:St}{ss:Sts}{env e:En}{S S1:Sto}
theorem Xe(h:exe F G s env S=.ok (.nx e) S1):exes F G (.cons s ss) env S=exes F G ss e S1:=by simp only[exes,h]
theorem Xl{d:D}(h:exe F G s env S=.ok (.rt d) S1):exes F G (.cons s ss) env S=.ok (.rt d) S1:=by simp only[exes,h]
theorem Xat{get:Sto->Nat->Option (Option D)}{t:Tg}{body:En->Sto->R Fl}(xs:List D)(P:Nat->En->Sto->Prop)(hget:∀ i e S,P i e S->get S i=some xs[i]?)
  (step:∀ i d e S,xs[i]?=some d->P i e S->∃ e1 e2 S2,Xo t d e=some e1/\body e1 S=.ok (.nx e2) S2/\P (i+1) e2 S2) :
  ∀ (fuel i:Nat) (e:En) (S:Sto),P i e S->i<=xs.length->xs.length<fuel+i->∃ e' S',X8 get t body fuel i e S=.ok (.nx e') S'/\P xs.length e' S'
 | 0,i,e,S,h,h1,h2=>by omega
 | fuel+1,i,e,S,h,h1,h2=>by
  cases q:xs[i]? with
  | none =>
   have hi:i=xs.length:=by
    have:=List.getElem?_eq_none_iff.mp q;omega
   refine⟨e,S,?_,hi▸h⟩;simp only[X8,hget i e S h,q]
  | some d =>
   obtain⟨e1,e2,S2,a1,a2,a3⟩:=step i d e S q h;have hi:i<xs.length:=(List.getElem?_eq_some_iff.mp q).1;obtain⟨e',S',b1,b2⟩:=Xat xs P hget step fuel (i+1) e2 S2 a3 (by omega) (by omega)
   refine⟨e',S',?_,b2⟩;simp only[X8,hget i e S h,q,a1,a2];exact b1
theorem Xgd{t:Tg}{es:Exs}{b:Sts}{ds xs:List D}(P:Nat->En->Sto->Prop)(h1:evs F G es env S=.ok ds S1)(h2:Y2 ds=some xs)(h0:P 0 env S1)
  (step:∀ i d e S,xs[i]?=some d->P i e S->∃ e1 e2 S2,Xo t d e=some e1/\exes F G b e1 S=.ok (.nx e2) S2/\P (i+1) e2 S2) :
  ∃ e' S',exe F G (.for t (.rng es) b) env S=.ok (.nx e') S'/\P xs.length e' S':=by
 obtain⟨e',S',a,b'⟩:=Xat (get:=(Src.con xs).get) (t:=t) (body:=fun env S=>exes F G b env S) xs P (fun _ _ _ _=>rfl) step (xs.length+1) 0 env S1 h0 (Nat.zero_le _) (by omega)
 refine⟨e',S',?_,b'⟩;simp only[exe,evit,h1,Rk0,h2,Src.most];exact a
end
theorem Xa8{m:Int}{xs:List D}(h:Y2 [.int m]=some xs){i:Nat}{d:D}(q:xs[i]?=some d):d=.int i/\i<m.toNat:=by
 simp only[Y2] at h;split at h
 ·cases h
  rw[List.getElem?_map] at q;cases z:(List.range m.toNat)[i]? with
  | none=>rw[z] at q;cases q
  | some j =>
   rw[z] at q;obtain⟨hi,e⟩:=List.getElem?_eq_some_iff.mp z;simp at e hi;subst e;simp at q;exact⟨q.symm,by omega⟩
 ·cases h
theorem Xah{m:Int}(h0:0<=m)(h:m<1048576):∃ xs,Y2 [.int m]=some xs/\xs.length=m.toNat:=by
 refine⟨_,by simp only[Y2];rw[if_pos ⟨by omega,h⟩],by simp⟩
noncomputable def C:Nat->Nat->Nat
 | _,0=>1
 | 0,_+1=>0
 | n+1,k+1=>C n k+C n (k+1)
theorem Xbe(n:Nat):C n 0=1:=by cases n<;>rfl
theorem Xc1:∀ (n k:Nat),n<k->C n k=0
 | 0,k+1,_=>rfl
 | n+1,k+1,h=>by simp only[C];rw[Xc1 n k (by omega),Xc1 n (k+1) (by omega)]
theorem Xe5:∀ (n k:Nat),C n (k+1)*(k+1)=C n k*(n-k)
 | 0,k=>by simp[C]
 | n+1,0=>by
  have:=Xe5 n 0;simp only[Xbe,Nat.sub_zero,Nat.one_mul,Nat.mul_one,Nat.zero_add] at this ⊢;simp only[C,Xbe];rw[this];omega
 | n+1,k+1=>by
  have h1:=Xe5 n (k+1);have h2:=Xe5 n k;have e:n+1-(k+1)=n-k:=by omega
  rw[e];simp only[C]
  by_cases hk:k+1<=n
  ·obtain⟨d,rfl⟩:∃ d,n=k+1+d:=⟨n-(k+1),by omega⟩
   have e1:k+1+d-(k+1)=d:=by omega
   have e2:k+1+d-k=d+1:=by omega
   rw[e1] at h1;rw[e2] at h2 ⊢;rw[Nat.add_mul,Nat.add_mul,h1,<- h2,<- Nat.mul_add,<- Nat.mul_add];congr 1;omega
  ·rw[Xc1 n (k+1) (by omega),Xc1 n (k+1+1) (by omega),Nat.add_zero,Nat.add_zero,Nat.zero_mul]
   have:n-k=0:=by omega
   rw[this,Nat.mul_zero]
theorem X06(n k:Nat):(C n k:Int)*((n:Int)-k)=(C n (k+1):Int)*((k:Int)+1):=by
 by_cases h:k<=n
 ·have:=Xe5 n k
  have e:((n-k:Nat):Int)=(n:Int)-k:=by omega
  rw[<- e];have e2:((k:Int)+1)=((k+1:Nat):Int):=by omega
  rw[e2,<- Int.natCast_mul,<- Int.natCast_mul,this]
 ·rw[Xc1 n k (by omega),Xc1 n (k+1) (by omega)];simp
theorem X07(n k:Nat):((C n k:Int)*((n:Int)-k))/((k:Int)+1)=C n (k+1):=by
 rw[X06,Int.mul_ediv_cancel _ (by omega)]
theorem Xq2(s:String):PyData.strOk (Str.ofString s)=true:=by
 rw[Str.ofString_eq_toList];unfold PyData.strOk;rw[<- Array.all_toList,List.all_eq_true];intro n hn;have hn':n∈s.toList.map Char.toNat:=by simpa using hn
 obtain⟨c,_,rfl⟩:=List.mem_map.mp hn';refine decide_eq_true ?_;have:=c.valid;rcases this with h|⟨_,h⟩
 ·have:c.toNat<0xd800:=h
  omega
 ·exact h
theorem ne_str{S:Sto}(s:String):Xi .ne (.str (Str.ofString s)) (.str (Str.ofString s)) S=.ok (.bl false) S:=by
 simp only[Xi,Yy,eqD,Xb6,Yj,X7,PyData.canLay0,Xq2,PyData.depth];simp[PyData.eqv]
theorem Xx(i j:Int)(S:Sto):Xm .add (.int i) (.int j) S=.ok (.int (i+j)) S:=rfl
theorem Yb(i j:Int)(S:Sto):Xm .sub (.int i) (.int j) S=.ok (.int (i-j)) S:=rfl
theorem Yu{i j:Int}(h:Xy i j=true)(S:Sto):Xm .mul (.int i) (.int j) S=.ok (.int (i*j)) S:=by simp only[Xm,h,if_true]
theorem Xc2{i j:Int}(h:Yq j=true)(S:Sto):Xm .fdiv (.int i) (.int j) S=.ok (.int (i/j)) S:=by simp only[Xm,h,if_true]
theorem Xdw{i j:Int}(h:0<j)(S:Sto):Xm .mod (.int i) (.int j) S=.ok (.int (i%j)) S:=by simp only[Xm,h,if_true]
theorem Xdx{i j:Int}(h:0<=j/\j<=1000/\i.natAbs<2^63)(S:Sto):Xm .pow (.int i) (.int j) S=.ok (.int (i^j.toNat)) S:=by simp only[Xm,h,and_self,if_true]
theorem Xci{i j:Int}(h1:-1000000000000000<j)(h2:j<1000000000000000):Xy i j=true:=by
 unfold Xy;simp only[Bool.or_eq_true,bA0,decide_eq_true_eq];left;right;constructor<;>omega
theorem Xbq{i j:Int}(h1:-1000000000000000<i)(h2:i<1000000000000000):Xy i j=true:=by
 unfold Xy;simp only[Bool.or_eq_true,bA0,decide_eq_true_eq];left;left;constructor<;>omega
theorem Xu8{i j:Int}(h1:i.natAbs.log2<100000)(h2:j.natAbs.log2<100000):Xy i j=true:=by
 unfold Xy;simp only[Bool.or_eq_true,bA0,decide_eq_true_eq];right;exact⟨h1,h2⟩
end Z
end
section
namespace Z
open PySem PySem.W
section
variable(tb:String->Option Builtin)(p:Program)(w:World)(m:Nat)(ann:Option Value)
noncomputable def topT:Nat->SharedT->Thread->Option SharedT
 | 0,_,_=>none
 | n+1,s,t=>match through t with
  | true=>some s
  | false=>match stepOk m ann t with
   | false=>none
   | true=>match stepT (denote tb) p w s t with
    | some (s',t')=>topT n s' t'
    | none=>none
end
theorem Xkn{tb:String->Option Builtin}{p:Program}{w:World}{m:Nat}{ann:Option Value}:∀ {n:Nat} {s s':SharedT} {t:Thread},topT tb p w m ann n s t=some s'->topRun tb p w m ann n s.abs t=some s'.abs
 | 0,_,_,_,h=>by cases h
 | n+1,s,s',t,h=>by
  unfold topT at h;unfold topRun;cases ht:through t with
  | true=>rw[ht] at h;cases h;rfl
  | false =>
   rw[ht] at h;cases hk:stepOk m ann t with
   | false=>rw[hk] at h;cases h
   | true =>
    rw[hk] at h;cases hs:stepT (denote tb) p w s t with
    | none=>rw[hs] at h;cases h
    | some r=>obtain⟨a,b⟩:=r;rw[hs] at h;rw[stepT_spec hs];exact Xkn h
noncomputable def Xl0(P:Params):BT :=
 .node (boot_o_0 P) (.node (boot_o_1 P) (.node (boot_o_3 P) (.node (boot_o_7 P) .nil .nil) .nil) (.node (boot_o_5 P) (.node (boot_o_9 P) .nil .nil) .nil))
  (.node (boot_o_2 P) (.node (boot_o_4 P) (.node (boot_o_8 P) .nil .nil) .nil) (.node (boot_o_6 P) (.node (boot_o_10 P) .nil .nil) .nil))
noncomputable def Xl1:Life:={ debug:=0,thresholds:=[2000,10,10] }
theorem Xq3(P:Params):absHeap (Xl0 P) 11 Xl1=boot_heap P:=by kernel_rfl
theorem Xod(P:Params):((boot_heap P).isNs mainGlobals&&(Array.mk ([]:List GenState)).size==0,(boot_heap P).objs.size,(boot_heap P).nsMap mainGlobals "__annotations__")=(true,11,some (.ref 6)):=by kernel_rfl
noncomputable def looksT{α:Type}(p q:Program)(loose:List Str)(Xt:Shared->Bool)(Yf:Shared->α)(P:Params)(s:Shared):=((staticsOk (importedModules p.main.body) (boot_heap P) s.heap&&namesBound p s.heap&&gensDone s&&laidKept (boot_heap P) s.heap),openSeen q loose (importedModules p.main.body) Xt true s,Yf s)
theorem left_tree{p q:Program}{loose:List Str}{Xt:Shared->Bool}{α:Type}{Yf:Shared->α}{Ya:World->α}{N:Nat}
  (e:opening p=plainProg p.main.scope.names) (hN:Nat.ble 600 N=true) (f:∀ s,fenceModules? p s=some s)
  (all:∀ w os,(topT treeTable p w 11 (some (.ref 6)) N ⟨Xl0 w.params,11,Xl1,Array.mk [],boot_drawn,boot_toks,os⟩ (topStub p)).map (fun s=>looksT p q loose Xt Yf w.params s.abs)=some (true,openGood q loose,Ya w)) :
  LeftO p q loose Xt Yf Ya N:=fun w=>by
 obtain⟨⟨h,gs,d,k,os⟩,e1,e2⟩:=Option.map_eq_some_iff.mp (boot_open e hN f w);obtain⟨rfl,rfl,rfl,rfl⟩:h=boot_heap w.params/\gs=Array.mk []/\d=boot_drawn/\k=boot_toks:=by simpa using e2
 obtain⟨z1,z2,z3⟩:_/\_/\_:=by simpa only[Prod.mk.injEq] using Xod w.params
 obtain⟨s,r,l⟩:=Option.map_eq_some_iff.mp (all w os);have r':=Xkn r;have e0:SharedT.abs ⟨Xl0 w.params,11,Xl1,Array.mk [],boot_drawn,boot_toks,os⟩=⟨boot_heap w.params,Array.mk [],boot_drawn,boot_toks,os⟩:=by
  unfold SharedT.abs;dsimp only;rw[Xq3]
 rw[e0] at r';unfold looksT at l;obtain⟨l1,l2,l3⟩:_/\_/\_:=by simpa only[Prod.mk.injEq] using l
 have t:topFrom treeTable p w N ⟨boot_heap w.params,Array.mk [],boot_drawn,boot_toks,os⟩=some s.abs:=by
  unfold topFrom;dsimp only;rw[z1,z2,z3,r'];dsimp only[Option.bind];rw[l1]
 unfold openEnds;rw[e1];show(topFrom treeTable p w N _).map _=_;rw[t];exact congrArg some (Prod.ext l2 l3)
end Z
end
section
namespace Z
open PySem
section
variable{P S:Sto}
theorem Xko{α β:Type}(f:α->β):∀ l:List α,alt (l.map f)=(alt l).map f
 | []=>rfl
 | [x]=>rfl
 | x::y::r=>by simp only[List.map,alt,Xko f r]
end
end Z
end
section
namespace Z
open PySem
section
variable{P S:Sto}
end
end Z
end
section
namespace Z
open PySem
section
variable{F:Fn}{G:List D}{P:Sto}
end
end Z
end
section
namespace Z
open PySem
section
variable{F:Fn}{G:List D}{P:Sto}
end
mutual
noncomputable def flt:D->Bool
 | .tup xs=>flts xs
 | .fro xs=>flts xs
 | .ref _=>false
 | _=>true
noncomputable def flts:List D->Bool
 | []=>true
 | x::r=>flt x&&flts r
end
end Z
end
section
namespace Z
open PySem
structure Le(e1 e2:En):Prop where
 len:e1.length=e2.length
 val:∀ (i:Nat) d,e1[i]?=some (some d)->e2[i]?=some (some d)
theorem Le.set{e1 e2:En}(h:Le e1 e2)(i:Nat)(d:D):Le (e1.set i (some d)) (e2.set i (some d)) :=
 ⟨by simp[h.len],fun j x e=>by
  by_cases z:i=j
  ·subst z
   have hj:i<e1.length:=by have:=(List.getElem?_eq_some_iff.mp e).1;simpa using this
   rw[List.getElem?_set_self hj] at e;rw[List.getElem?_set_self (by rw[<- h.len];exact hj)]
   exact e
  ·rw[List.getElem?_set_ne z] at e ⊢
   exact h.val j x e⟩
theorem Le.sets:∀ (is:List Nat) (ds:List D) {e1 e2:En},Le e1 e2->Le ((is.zip ds).foldl (fun e p=>e.set p.1 (some p.2)) e1) ((is.zip ds).foldl (fun e p=>e.set p.1 (some p.2)) e2)
 | [],ds,e1,e2,h=>by simpa using h
 | i::is,[],e1,e2,h=>by simpa using h
 | i::is,d::ds,e1,e2,h=>Le.sets is ds (h.set i d)
section
variable{F:Fn}{G:List D}{e1 e2:En}
end
def LeF:Fl->Fl->Prop
 | .nx e,.nx e'=>Le e e'
 | .brk e,.brk e'=>Le e e'
 | .cnt e,.cnt e'=>Le e e'
 | .rt d,.rt d'=>d=d'
 | _,_=>False
def LeR(r1 r2:R Fl):Prop:=match r1 with
 | .ok a S=>∃ b,r2=.ok b S/\LeF a b
 | .ex n S=>r2=.ex n S
 | .bad=>True
theorem LeR.bind{α:Type}{r1 r2:R α}{k1 k2:α->Sto->R Fl}(h:r1≠.bad->r2=r1)(hk:∀ a S,LeR (k1 a S) (k2 a S)):LeR (r1.bind k1) (r2.bind k2):=by
 cases r1 with
 | ok a S=>rw[h (fun z=>nomatch z)];exact hk a S
 | ex n S=>rw[h (fun z=>nomatch z)];exact rfl
 | bad=>exact trivial
section
variable{F:Fn}{G:List D}
end
end Z
end
section
namespace Z
open PySem
theorem Xde{m:Int}(h:m<1000000):m<1048576:=by omega
theorem Xq{S:Sto}{xs:List D}:Xd (S++[.lst xs]) S.length=some xs:=by
 unfold Xd;rw[List.getElem?_append_right (Nat.le_refl _),Nat.sub_self];rfl
theorem Yv{S X:Sto}{q:Nat}{xs:List D}(h:Xd S q=some xs):Xd (S++X) q=some xs:=by
 unfold Xd at h ⊢;cases e:S[q]? with
 | none=>rw[e] at h;cases h
 | some o=>rw[List.getElem?_append_left (List.getElem?_eq_some_iff.mp e).1];exact h
theorem Xbf{S:Sto}{p:Nat}{xs:List D}(hp:Xd S p=some xs):p<S.length:=by
 unfold Xd at hp;cases e:S[p]? with
 | none=>rw[e] at hp;cases hp
 | some o=>exact(List.getElem?_eq_some_iff.mp e).1
theorem Xa9{S:Sto}{p:Nat}{x:List D}(h:p<S.length):Xd (S.set p (.lst x)) p=some x:=by
 unfold Xd;rw[List.getElem?_set_self h]
theorem Xoe{S:Sto}{p q:Nat}{o:O}(h:p≠q):Xd (S.set p o) q=Xd S q:=by
 unfold Xd;rw[List.getElem?_set_ne h]
theorem X2g{S:Sto}{p:Nat}{v:Int}(h:Xd S p=some [.int v]):Xag (.ref p) (.int 0) S=.ok (.int v) S:=by
 simp only[Xag,Xaf,Xw,h,Option.bind_some,Z.ixN,List.length];rfl
theorem X08{S:Sto}{p:Nat}{v:Int}{d:D}(h:Xd S p=some [.int v]):Xap (.ref p) (.int 0) d S=.ok () (S.set p (.lst [d])):=by
 have h':Z.lstM S p=some [.int v]:=h;simp only[Xap,h',Z.ixN,List.length];rfl
section
variable{F:Fn}{G:List D}
noncomputable def Xl2:Sts:=.cons (.ite (.cmp .lt (.var 1) (.blt .len (.cons (.var 0) .nil))) (.cons (.ret (.idx (.var 0) (.var 1))) .nil) .nil) (.cons (.ret (.cst (.int 0))) .nil)
noncomputable def Xl3:Df:=⟨2,2,Xl2⟩
theorem Xq4(ns:List Int)(j:Nat)(S:Sto):∃ c,den F G Xl3 [.fro (ns.map D.int),.int j] S=.ok (.int c) S:=by
 have hlen:Xr .len [.fro (ns.map D.int)] S=.ok (.int ns.length) S:=by simp only[Xr,Xw,List.length_map]
 by_cases h:j<ns.length
 ·refine⟨ns[j],?_⟩
  have hi:Xag (.fro (ns.map D.int)) (.int j) S=.ok (.int ns[j]) S:=by
   simp only[Xag,Xaf,Xw,Option.bind_some,Z.ixN,List.length_map];rw[if_pos (by omega),if_pos (by omega)]
   simp[h]
  simp only[den,Xl3,Xl2,List.length,if_true,List.map,List.replicate,Nat.sub_self,List.append_nil];rw[Xl (d:=.int ns[j]) (S1:=S) (by
   have hc:decide ((j:Int)<(ns.length:Int))=true:=decide_eq_true (by omega)
   simp only[exe,ev,evs,gZ0,gS0,Rk0,hlen,Xi,Yy,ltD,hc,Xj];simp only[exes,exe,ev,gZ0,gS0,Rk0,hi])]
 ·refine⟨0,?_⟩
  simp only[den,Xl3,Xl2,List.length,if_true,List.map,List.replicate,Nat.sub_self,List.append_nil];rw[Xe (e:=[some (.fro (ns.map D.int)),some (.int j)]) (S1:=S) (by
   have hc:decide ((j:Int)<(ns.length:Int))=false:=decide_eq_false (by omega)
   simp only[exe,ev,evs,gZ0,gS0,Rk0,hlen,Xi,Yy,ltD,hc,Xj];simp only[exes])]
  simp only[exes,exe,ev,Rk0]
noncomputable def Xsx:Sts:=.cons (.asg (.var 2) (.bin .mod (.idx (.var 0) (.cst (.int 0))) (.var 1))) (.cons (.aset (.var 0) (.cst (.int 0)) (.bin .fdiv (.idx (.var 0) (.cst (.int 0))) (.var 1))) (.cons (.ret (.var 2)) .nil))
noncomputable def Xhu:Df:=⟨2,3,Xsx⟩
theorem Xq5{p:Nat}{v far:Int}{S:Sto}(h:Xd S p=some [.int v])(h0:0<far)(hd:Yq far=true):den F G Xhu [.ref p,.int far] S=.ok (.int (v%far)) (S.set p (.lst [.int (v/far)])):=by
 have i0:=X2g h;have a0:=X08 (d:=.int (v/far)) h;simp only[den,Xhu,Xsx,List.length,if_true,List.map,List.replicate];rw[Xe (e:=[some (.ref p),some (.int far),some (.int (v%far))]) (S1:=S) (by simp only[exe,ev,List.cons_append,List.nil_append,gZ0,gS0,Rk0,i0,Xdw h0,Xo,List.set])]
 rw[Xe (e:=[some (.ref p),some (.int far),some (.int (v%far))]) (S1:=S.set p (.lst [.int (v/far)])) (by simp only[exe,ev,gZ0,gS0,Rk0,i0,Xc2 hd,a0])]
 rw[Xl (d:=.int (v%far)) (S1:=S.set p (.lst [.int (v/far)])) (by simp only[exe,ev,gZ0,gS0,Rk0])]
noncomputable def Xe6:Sts:=.cons (.asg (.var 3) (.bin .mod (.bin .mul (.bin .add (.bin .add (.bin .mod (.var 0) (.cst (.int 2147483629))) (.bin .mul (.cst (.int 7919)) (.var 2))) (.cst (.int 1))) (.cst (.int 48271))) (.cst (.int 2147483647))))
  (.cons (.asg (.var 3) (.bin .mod (.bin .add (.bin .add (.bin .mul (.var 3) (.var 3)) (.bin .mul (.cst (.int 69621)) (.var 2))) (.cst (.int 7))) (.cst (.int 2147483587))))
  (.cons (.asg (.var 1) (.bin .add (.bin .mul (.var 1) (.cst (.int 2147483587))) (.var 3)))
  .nil))
noncomputable def Xq6:Sts:=.cons (.ite (.cmp .ge (.var 0) (.bin .pow (.cst (.int 10)) (.cst (.int 18)))) (.cons (.ret (.lst (.cons (.bin .sub (.var 0) (.bin .pow (.cst (.int 10)) (.cst (.int 18)))) .nil))) .nil) .nil)
 (.cons (.asg (.var 1) (.cst (.int 0))) (.cons (.for (.var 2) (.rng (.cons (.cst (.int 64)) .nil)) Xe6) (.cons (.ret (.lst (.cons (.var 1) .nil))) .nil)))
noncomputable def Xi2:Df:=⟨1,4,Xq6⟩
theorem Xq7(c a j:Int)(x:Option D)(S:Sto):∃ a' b',exes F G Xe6 [some (.int c),some (.int a),some (.int j),x] S=.ok (.nx [some (.int c),some (.int a'),some (.int j),some (.int b')]) S:=by
 have m1:Xy 7919 j=true:=Xbq (by decide) (by decide)
 have m2:∀ y,Xy y 48271=true:=fun y=>Xci (by decide) (by decide)
 have m3:Xy 69621 j=true:=Xbq (by decide) (by decide)
 have m4:∀ y,Xy y 2147483587=true:=fun y=>Xci (by decide) (by decide)
 have p1:(0:Int)<2147483629:=by decide
 have p2:(0:Int)<2147483647:=by decide
 have p3:(0:Int)<2147483587:=by decide
 generalize hb:((c%2147483629+7919*j+1)*48271)%2147483647=b;have b1:0<=b:=by rw[<- hb];exact Int.emod_nonneg _ (by decide)
 have b2:b<2147483647:=by rw[<- hb];exact Int.emod_lt_of_pos _ (by decide)
 have m5:Xy b b=true:=Xci (by omega) (by omega)
 refine⟨a*2147483587+(b*b+69621*j+7)%2147483587,(b*b+69621*j+7)%2147483587,?_⟩;unfold Xe6;rw[Xe (e:=[some (.int c),some (.int a),some (.int j),some (.int b)]) (S1:=S) (by
  simp only[exe,ev,gZ0,gS0,Rk0,Xdw p1,Yu m1,Xx,Yu (m2 _),Xdw p2,Xo,List.set,hb])]
 rw[Xe (e:=[some (.int c),some (.int a),some (.int j),some (.int ((b*b+69621*j+7)%2147483587))]) (S1:=S) (by
  simp only[exe,ev,gZ0,gS0,Rk0,Yu m5,Yu m3,Xx,Xdw p3,Xo,List.set])]
 rw[Xe (e:=[some (.int c),some (.int (a*2147483587+(b*b+69621*j+7)%2147483587)),some (.int j),some (.int ((b*b+69621*j+7)%2147483587))]) (S1:=S) (by
  simp only[exe,ev,gZ0,gS0,Rk0,Yu (m4 _),Xx,Xo,List.set])]
 simp only[exes]
theorem Xu9(c a:Int)(S:Sto)(e':En)(hc:¬ (10:Int)^(18:Int).toNat<=c)(h1:exe F G (.for (.var 2) (.rng (.cons (.cst (.int 64)) .nil)) Xe6) [some (.int c),some (.int 0),none,none] S=.ok (.nx e') S)(h2:e'[1]?=some (some (.int a))) :
  den F G Xi2 [.int c] S=.ok (.ref S.length) (S++[.lst [.int a]]):=by
 have hp:Xm .pow (.int 10) (.int 18) S=.ok (.int (10^(18:Int).toNat)) S:=Xdx (by decide+kernel) S
 generalize (10:Int)^(18:Int).toNat=w at hp hc;simp only[den,Xi2,Xq6,List.length,if_true,List.map,List.replicate];rw[Xe (e:=[some (.int c),none,none,none]) (S1:=S) (by
  simp only[exe,ev,List.cons_append,List.nil_append,gZ0,gS0,Rk0,hp,Xi,Yy,Xj,decide_eq_false hc];simp only[exes])]
 rw[Xe (e:=[some (.int c),some (.int 0),none,none]) (S1:=S) (by simp only[exe,ev,Rk0,Xo,List.set])]
 have h1':=Xe (ss:=.cons (.ret (.lst (.cons (.var 1) .nil))) .nil) h1;rw[h1'];rw[Xl (d:=.ref S.length) (S1:=S++[.lst [.int a]]) (by
  simp only[exe,ev,evs,h2,Rk0,List.length];rfl)]
theorem Xof(c:Int)(S:Sto)(hc:(10:Int)^(18:Int).toNat<=c):∃ a,den F G Xi2 [.int c] S=.ok (.ref S.length) (S++[.lst [.int a]]):=by
 have hp:Xm .pow (.int 10) (.int 18) S=.ok (.int (10^(18:Int).toNat)) S:=Xdx (by decide+kernel) S
 generalize (10:Int)^(18:Int).toNat=w at hp hc;refine⟨c-w,?_⟩;simp only[den,Xi2,Xq6,List.length,if_true,List.map,List.replicate];rw[Xl (d:=.ref S.length) (S1:=S++[.lst [.int (c-w)]]) (by
  simp only[exe,ev,List.cons_append,List.nil_append,gZ0,gS0,Rk0,hp,Xi,Yy,Xj,decide_eq_true hc];rw[Xl (d:=.ref S.length) (S1:=S++[.lst [.int (c-w)]]) (by
   simp only[exe,ev,evs,gZ0,Rk0,hp,Yb,List.length];rfl)])]
theorem Xva(c:Int)(S:Sto):∃ a,den F G Xi2 [.int c] S=.ok (.ref S.length) (S++[.lst [.int a]]):=by
 by_cases hc:(10:Int)^(18:Int).toNat<=c
 ·exact Xof c S hc
 obtain⟨xs,hx,hl⟩:=Xah (m:=(64:Int)) (by decide) (Xde (by decide))
 have loop:=Xgd (F:=F) (G:=G) (t:=.var 2) (es:=.cons (.cst (.int 64)) .nil) (b:=Xe6)
  (env:=[some (.int c),some (.int 0),none,none]) (S:=S) (S1:=S) (ds:=[.int 64]) (xs:=xs) (fun i e S'=>S'=S/\∃ a x y,e=[some (.int c),some (.int a),x,y])
  (by simp only[evs,ev,Rk0]) hx ⟨rfl,0,none,none,rfl⟩ (fun i d e S' hd hP=>by
   obtain⟨rfl,a,x,y,rfl⟩:=hP;obtain⟨rfl,hi⟩:=Xa8 hx hd;obtain⟨a',b',st⟩:=Xq7 (F:=F) (G:=G) c a i y S';exact⟨_,_,S',rfl,st,rfl,a',_,_,rfl⟩)
 obtain⟨e',S',h1,rfl,a,x,y,rfl⟩:=loop;exact⟨a,Xu9 c a S' _ hc h1 rfl⟩
noncomputable def wh:D->Bool
 | .int _=>true
 | _=>false
def good(S:Sto)(d:D):Prop:=∃ k,kdD S d=some k/\∀ c,k≠.exc c
theorem Xvb{k:Kd}(h:∀ c,k≠.exc c):∃ b,Yl k [.int]=some b/\(b=true ↔ k=.int\/k=.bool):=by
 cases k<;>first|exact⟨_,rfl,by simp⟩|exact absurd rfl (h _)
theorem Xq8{k:Kd}(h:∀ c,k≠.exc c):∃ b,Yl k [.bool]=some b/\(b=true ↔ k=.bool):=by
 cases k<;>first|exact⟨_,rfl,by simp⟩|exact absurd rfl (h _)
theorem X09{S:Sto}{d:D}{k:Kd}(h:kdD S d=some k):wh d=true ↔ k=.int:=by
 cases d with
 | ref n =>
  simp only[kdD] at h;split at h<;>first|(cases h;simp[wh])|cases h
 | fn _ _=>cases h
 | _=>cases h;simp[wh]
noncomputable def Xog:Sts:=.cons (.ret (.and (.isi (.var 0) [.int]) (.not (.isi (.var 0) [.bool])))) .nil
noncomputable def Xe7:Df:=⟨1,1,Xog⟩
theorem Xoh{d:D}{S:Sto}(h:good S d):den F G Xe7 [d] S=.ok (.bl (wh d)) S:=by
 obtain⟨kd,h1,h2⟩:=h;obtain⟨b1,i1,j1⟩:=Xvb h2;obtain⟨b2,i2,j2⟩:=Xq8 h2;have hw:=X09 h1;simp only[den,Xe7,Xog,List.length,exes,exe,ev,List.map,List.replicate,if_true,Nat.sub_self,List.append_nil,gZ0,Rk0,h1,Option.bind_some,i1,i2,Xj];cases b1 with
 | false =>
  have e:wh d=false:=by
   cases q:wh d with
   | false=>rfl
   | true=>exact absurd (j1.mpr (.inl (hw.mp q))) Bool.false_ne_true
  rw[e];rfl
 | true =>
  cases b2 with
  | false =>
   have e:wh d=true:=hw.mpr (by rcases j1.mp rfl with z|z;exact z;exact absurd (j2.mpr z) Bool.false_ne_true)
   rw[e];rfl
  | true =>
   have e:wh d=false:=by
    cases q:wh d with
    | false=>rfl
    | true=>have z1:=hw.mp q;have z2:=j2.mp rfl;rw[z1] at z2;cases z2
   rw[e];rfl
noncomputable def wi(d:D)(lo hi:Int):Bool:=match d with
 | .int i=>decide (lo<=i)&&decide (i<=hi)
 | _=>false
noncomputable def Xkp(f:Nat):Sts:=.cons (.ret (.and (.call f (.cons (.var 0) .nil)) (.chn .le .le (.var 1) (.var 0) (.var 2)))) .nil
noncomputable def Xge(f:Nat):Df:=⟨3,3,Xkp f⟩
theorem Xl4{f:Nat}{d:D}{lo hi:Int}{S:Sto}(h:F f [d] S=.ok (.bl (wh d)) S):den F G (Xge f) [d,.int lo,.int hi] S=.ok (.bl (wi d lo hi)) S:=by
 simp only[den,Xge,Xkp,List.length,exes,exe,ev,evs,List.map,List.replicate,if_true,Nat.sub_self,List.append_nil,gZ0,gS0,Rk0,h,Xj];cases d with
 | int i =>
  simp only[wh,wi,Yy,Xi];cases decide (lo<=i)<;>rfl
 | _=>rfl
theorem Xy3{i lo hi:Int}(h1:lo<=i)(h2:i<=hi):wi (.int i) lo hi=true:=by
 simp only[wi,decide_eq_true h1,decide_eq_true h2,Bool.and_self]
theorem Xi3(S:Sto)(i:Int):good S (.int i):=⟨.int,rfl,fun c z=>nomatch z⟩
theorem Xi4{S X:Sto}{d:D}(h:good S d):good (S++X) d:=by
 obtain⟨k,h1,h2⟩:=h;cases d with
 | ref n =>
  refine⟨k,?_,h2⟩;simp only[kdD] at h1 ⊢;cases e:S[n]? with
  | none=>rw[e] at h1;cases h1
  | some o=>rw[List.getElem?_append_left (List.getElem?_eq_some_iff.mp e).1,e];rw[e] at h1;exact h1
 | _=>exact⟨k,h1,h2⟩
theorem Xg8(S:Sto)(d:D)(h:∀ n,d≠.ref n)(hf:∀ f m,d≠.fn f m:=by intro _ _ z;cases z):good S d:=by
 cases d with
 | fn f m=>exact absurd rfl (hf f m)
 | ref n=>exact absurd rfl (h n)
 | non=>exact⟨.non,rfl,fun _ z=>nomatch z⟩
 | bl _=>exact⟨.bool,rfl,fun _ z=>nomatch z⟩
 | int _=>exact⟨.int,rfl,fun _ z=>nomatch z⟩
 | str _=>exact⟨.str,rfl,fun _ z=>nomatch z⟩
 | tup _=>exact⟨.tuple,rfl,fun _ z=>nomatch z⟩
 | fro _=>exact⟨.list,rfl,fun _ z=>nomatch z⟩
theorem Yw{c:Ex}{a:Sts}{env:En}{S S':Sto}(h:ev F G c env S=.ok (.bl false) S'):exe F G (.ite c a .nil) env S=.ok (.nx env) S':=by
 rw[exe,h,Rk0];simp only[Xj,exes]
end
def Xe8(F:Fn)(f:Nat):Prop:=∀ (p:Nat) (v far:Int) (S:Sto),Xd S p=some [.int v]->0<far->Yq far=true->F f [.ref p,.int far] S=.ok (.int (v%far)) (S.set p (.lst [.int (v/far)]))
theorem Xq9{T:List Df}{G:List D}{f:Nat}(hf:T[f]?=some Xhu)(k:Nat):Xe8 (FT T G (k+1)) f:=fun p v far S h h0 hd=>by
 simp only[FT,hf];exact Xq5 h h0 hd
theorem X2h{F:Fn}{G:List D}{f q:Nat}(hF:Xe8 F f){es:Exs}{ds:List D}{c:Int}{p:Nat}{v:Int}{env:En}{S S':Sto}(he:evs F G es env S=.ok ds S')(hc:(ds.length:Int)=c)(h0:0<c)(hz:ds.length<=big)(hd:Yq c=true)(h5:env[q]?=some (some (.ref p)))(hp:Xd S' p=some [.int v]) :
  ∃ d∈ds,ev F G (.idx (.lst es) (.call f (.cons (.var q) (.cons (.cst (.int c)) .nil)))) env S=.ok d ((S'++[O.lst ds]).set p (.lst [.int (v/c)])):=by
 have tk:=hF p v c (S'++[.lst ds]) (Yv hp) h0 hd;have r0:=Int.emod_nonneg v (Int.ne_of_gt h0);have r1:=Int.emod_lt_of_pos v h0;have hlt:(v%c).toNat<ds.length:=by omega
 have hpl:=Xbf hp;have hl:Xd ((S'++[O.lst ds]).set p (.lst [.int (v/c)])) S'.length=some ds:=by
  rw[Xoe (by omega)]
  exact Xq
 refine⟨ds[(v%c).toNat],List.getElem_mem hlt,?_⟩;have hi:Xag (.ref S'.length) (.int (v%c)) ((S'++[O.lst ds]).set p (.lst [.int (v/c)]))=.ok ds[(v%c).toNat] ((S'++[O.lst ds]).set p (.lst [.int (v/c)])):=by
  simp only[Xag,Xaf,Xw,hl,Option.bind_some,Z.ixN];rw[if_pos r0,if_pos (by omega)]
  simp only[Option.bind_some,List.getElem?_eq_getElem hlt]
 simp only[ev,he,evs,h5,Rk0,hz,if_true,tk,hi]
theorem Xoi{S':Sto}{ds:List D}{p:Nat}{v c:Int}(hp:Xd S' p=some [.int v]):Xd ((S'++[O.lst ds]).set p (.lst [.int (v/c)])) p=some [.int (v/c)]:=by
 refine Xa9 ?_;have:=Xbf hp;simp;omega
theorem turns{F:Fn}{G:List D}{env:En}{S:Sto}{ns:List Int}(c:Int)(h1:1<=c)(h2:c<1000000)(h0:env[0]?=some (some (.fro (ns.map D.int)))) :
  ∃ m:Int,evs F G (.cons (.blt .max (.cons (.cst (.int 1)) (.cons (.blt .min (.cons (.blt .len (.cons (.var 0) .nil)) (.cons (.cst (.int c)) .nil))) .nil))) .nil) env S=.ok [.int m] S/\0<=m/\m<=c:=by
 have hlen:Xr .len [.fro (ns.map D.int)] S=.ok (.int ns.length) S:=by simp only[Xr,Xw,List.length_map]
 have hmin:∀ i j:Int,Xr .min [.int i,.int j] S=.ok (.int (if j<i then j else i)) S:=fun _ _=>rfl
 have hmax:∀ i j:Int,Xr .max [.int i,.int j] S=.ok (.int (if j>i then j else i)) S:=fun _ _=>rfl
 refine⟨if (if c<(ns.length:Int) then c else (ns.length:Int))>1 then (if c<(ns.length:Int) then c else (ns.length:Int)) else 1,by simp only[evs,ev,h0,Rk0,hlen,hmin,hmax],?_,?_⟩
 ·split
  ·split<;>omega
  ·omega
 ·split
  ·split<;>omega
  ·omega
end Z
end
section
namespace Z
noncomputable def tG(s:Int):List Int->Nat->Int
 | [],_=>0
 | x::r,0=>x
 | x::r,p+1=>x*(s^(p+1)*(C r.length (p+1):Int))+tG s r p
noncomputable def tT(s:Int)(row:List Int):List Int:=(List.range row.length).map (tG s row)
theorem Xoj(s:Int):∀ (r:List Int) (p:Nat),r.length<=p->tG s r p=0
 | [],p,_=>rfl
 | x::r,0,h=>by simp at h
 | x::r,p+1,h=>by
  have h':r.length<=p:=by simpa using h
  rw[tG,Xc1 _ _ (by omega),Xoj s r p h']
  simp
noncomputable def bef(f:Nat->Int):Nat->Int
 | 0=>0
 | p+1=>f p
theorem Xsy(s:Int)(n:Nat):s^(n+1)=s*s^n:=by rw[Int.pow_succ,Int.mul_comm]
theorem Xsz(x s q c d g h e:Int):x*(s*q*(c+d))+(g+s*h+e)=x*(s*q*d)+g+s*(x*(q*c)+h)+e:=by
 have e1:x*(s*q*(c+d))=x*(s*q*d)+s*(x*(q*c)):=by
  rw[Int.mul_add,Int.mul_add];have:x*(s*q*c)=s*(x*(q*c)):=by simp only[Int.mul_assoc,Int.mul_comm,Int.mul_left_comm]
  omega
 rw[e1,Int.mul_add];omega
theorem Xbw(s:Int)(n:Int):∀ (r:List Int) (p:Nat),tG s (r++[n]) p=tG s r p+s*bef (tG s r) p+(if p=r.length then n else 0)
 | [],0=>by simp[tG,bef]
 | [],p+1=>by
  show n*(s^(p+1)*(C 0 (p+1):Int))+0=0+s*0+(if p+1=0 then n else 0)
  rw[Xc1 0 (p+1) (by omega)];simp
 | x::r,0=>by simp[tG,bef]
 | x::r,p+1=>by
  have ih:=Xbw s n r p;have e0:(if p+1=(x::r).length then n else 0)=(if p=r.length then n else 0):=by simp
  rw[List.cons_append,tG,ih,e0,List.length_append,List.length_singleton,C];cases p with
  | zero =>
   simp only[bef,tG,Xbe];rw[Int.natCast_add,Xsy,Int.pow_zero];have:=Xsz x s 1 ((1:Nat):Int) (C r.length 1:Int) (tG s r 0) 0 (if 0=r.length then n else 0)
   simp only[Int.mul_one,Int.one_mul,Int.natCast_one,Int.add_zero,Int.mul_zero,Xbe,Nat.zero_add] at this ⊢;exact this
  | succ p =>
   simp only[bef];rw[tG,Int.natCast_add,Xsy s (p+1),tG];exact Xsz x s (s^(p+1)) _ _ _ _ _
noncomputable def Yi(s:Int)(f:List Int):List Int:=List.zipWith (fun a b=>a+s*b) (f++[0]) (0::f)
noncomputable def stepT(s:Int)(f:List Int)(n:Int):List Int:=(Yi s f).set f.length ((Yi s f).getD f.length 0+n)
theorem Xai(s:Int)(f:List Int):(Yi s f).length=f.length+1:=by simp[Yi]
theorem Xok(s:Int)(f:List Int)(n:Int):(stepT s f n).length=f.length+1:=by simp[stepT,Xai]
theorem Xv(s:Int)(r:List Int):(tT s r).length=r.length:=by simp[tT]
theorem Xa1(s:Int)(r:List Int)(p:Nat):(tT s r).getD p 0=tG s r p:=by
 by_cases h:p<r.length
 ·simp[tT,List.getD_eq_getElem?_getD,h]
 ·rw[Xoj s r p (by omega)]
  simp[tT,List.getD_eq_getElem?_getD,h]
theorem Xol(s:Int)(f:List Int)(p:Nat):(Yi s f).getD p 0=f.getD p 0+s*bef (fun q=>f.getD q 0) p:=by
 have e1:∀ q,(f++[0]).getD q 0=f.getD q 0:=fun q=>by
  simp only[List.getD_eq_getElem?_getD,List.getElem?_append];split
  ·rfl
  ·rename_i h
   rw[List.getElem?_eq_none (l:=f) (by omega)]
   cases q':q-f.length with
   | zero=>simp
   | succ m=>simp
 have e2:∀ q,(0::f:List Int).getD q 0=bef (fun q=>f.getD q 0) q:=fun q=>by cases q<;>simp[bef]
 by_cases h:p<f.length+1
 ·have l1:p<(f++[0]).length:=by simp;omega
  have l2:p<(0::f).length:=by simp;omega
  have:(Yi s f).getD p 0=(f++[0]).getD p 0+s*(0::f:List Int).getD p 0:=by
   simp only[Yi,List.getD_eq_getElem?_getD,List.getElem?_zipWith];rw[List.getElem?_eq_getElem l1,List.getElem?_eq_getElem l2];rfl
  rw[this,e1,e2]
 ·have h1:(Yi s f).getD p 0=0:=by rw[List.getD_eq_getElem?_getD,List.getElem?_eq_none (by rw[Xai];omega)];rfl
  have h2:f.getD p 0=0:=by rw[List.getD_eq_getElem?_getD,List.getElem?_eq_none (by omega)];rfl
  rw[h1,h2];cases p with
  | zero=>simp[bef]
  | succ p =>
   have h3:f.getD p 0=0:=by rw[List.getD_eq_getElem?_getD,List.getElem?_eq_none (by omega)];rfl
   simp only[bef];rw[h3];simp
theorem Xom(s:Int)(f:List Int)(n:Int)(p:Nat):(stepT s f n).getD p 0=f.getD p 0+s*bef (fun q=>f.getD q 0) p+(if p=f.length then n else 0):=by
 rw[<- Xol];unfold stepT
 by_cases h:p=f.length
 ·subst h
  simp[List.getD_eq_getElem?_getD,Xai]
 ·rw[if_neg h]
  simp only[List.getD_eq_getElem?_getD,List.getElem?_set_ne (Ne.symm h)];omega
theorem Y7{u v:List Int}(hl:u.length=v.length)(h:∀ p,u.getD p 0=v.getD p 0):u=v:=by
 refine List.ext_getElem hl fun i h1 h2=>?_
 have:=h i
 simpa [List.getD_eq_getElem?_getD,h1,h2] using this
theorem Xg9{f g:Nat->Int}(h:∀ q,f q=g q)(p:Nat):bef f p=bef g p:=by cases p<;>simp[bef,h]
theorem Xi5(s:Int)(r:List Int)(n:Int):stepT s (tT s r) n=tT s (r++[n]):=by
 refine Y7 (by rw[Xok,Xv,Xv];simp) fun p=>?_
 rw[Xom,Xa1,Xa1,Xbw,Xv,Xg9 (Xa1 s r)]
theorem Xi6(s c:Int):∀ (u v:List Int),u.length=v.length->∀ p,tG s (List.zipWith (fun a b=>a+c*b) u v) p=tG s u p+c*tG s v p
 | [],[],_,p=>by simp[tG]
 | x::u,y::v,h,0=>by simp[tG]
 | x::u,y::v,h,p+1=>by
  have hl:u.length=v.length:=by simpa using h
  have e:(List.zipWith (fun a b=>a+c*b) u v).length=u.length:=by simp[hl]
  rw[List.zipWith_cons_cons,tG,tG,tG,Xi6 s c u v hl p,e,<- hl,Int.add_mul];have:c*y*(s^(p+1)*(C u.length (p+1):Int))=c*(y*(s^(p+1)*(C u.length (p+1):Int))):=Int.mul_assoc _ _ _;rw[this,Int.mul_add];omega
 | [],_::_,h,_=>by simp at h
 | _::_,[],h,_=>by simp at h
theorem Xkq(s:Int)(f:List Int)(p:Nat):tG s (0::f) p=bef (tG s f) p:=by
 cases p<;>simp[tG,bef]
theorem Xra(f:List Int)(n:Int)(k:Nat)(h:f.length=k+1)(s:Int)(p:Nat):tG s (f.set k (f.getD k 0+n)) p=tG s f p+(if p=k then n else 0):=by
 have hf:f=f.take k++[f.getD k 0]:=by
  refine Y7 (by simp[h]) fun p=>?_
  simp only[List.getD_eq_getElem?_getD,List.getElem?_append,List.length_take,h,List.getElem?_take]
  by_cases hp:p<k
  ·simp[hp,Nat.min_eq_left (Nat.le_succ k)]
  ·by_cases hk:p=k
   ·subst hk;simp
   ·rw[List.getElem?_eq_none (by omega)]
    have:¬ p<min k (k+1):=by omega
    rw[if_neg this];have:p-min k (k+1)=(p-k-1)+1:=by omega
    rw[this];simp
 have hl:(f.take k).length=k:=by simp[h]
 have hs:f.set k (f.getD k 0+n)=f.take k++[f.getD k 0+n]:=by
  refine Y7 (by simp[h]) fun p=>?_
  by_cases hk:p=k
  ·subst hk
   simp only[List.getD_eq_getElem?_getD,List.getElem?_append,hl];simp[h]
  ·have:(f.set k (f.getD k 0+n)).getD p 0=f.getD p 0:=by simp only[List.getD_eq_getElem?_getD,List.getElem?_set_ne (Ne.symm hk)]
   rw[this];simp only[List.getD_eq_getElem?_getD,List.getElem?_append,hl,List.getElem?_take]
   by_cases hp:p<k
   ·simp[hp]
   ·rw[List.getElem?_eq_none (by omega),if_neg hp]
    have:p-k=(p-k-1)+1:=by omega
    rw[this];simp
 rw[hs,Xbw]
 conv=>rhs;rw[hf]
 rw[Xbw,hl];split<;>omega
theorem Xy4(s:Int):∀ (m:Nat) (r:List Int),r.length=m->∀ p,tG (-s) (tT s r) p=r.getD p 0:=by
 intro m
 induction m with
 | zero =>
  intro r h p;have:r=[]:=List.eq_nil_of_length_eq_zero h;subst this;simp[tT,tG]
 | succ m ih =>
  intro r h p;have hne:r≠[]:=fun z=>by subst z;simp at h
  obtain⟨r',n,rfl⟩:∃ r' n,r=r'++[n]:=⟨r.dropLast,r.getLast hne,(List.dropLast_concat_getLast hne).symm⟩;have hl:r'.length=m:=by simpa using h
  have ih':=ih r' hl;rw[<- Xi5];unfold stepT;rw[Xra _ _ _ (Xai s _),Yi,Xi6 _ _ _ _ (by simp),Xbw,Xkq,Xv]
  have e1:(if p=r'.length then (0:Int) else 0)=0:=by split<;>rfl
  rw[e1,ih' p];have e2:(-s)*bef (tG (-s) (tT s r')) p+s*bef (tG (-s) (tT s r')) p=0:=by rw[<- Int.add_mul];simp[Int.add_left_neg]
  have e3:(r'++[n]).getD p 0=r'.getD p 0+(if p=r'.length then n else 0):=by
   simp only[List.getD_eq_getElem?_getD,List.getElem?_append]
   by_cases hp:p<r'.length
   ·rw[if_pos hp,if_neg (by omega)];omega
   ·rw[if_neg hp,List.getElem?_eq_none (l:=r') (by omega)]
    by_cases hk:p=r'.length
    ·subst hk;simp
    ·have:p-r'.length=(p-r'.length-1)+1:=by omega
     rw[this,if_neg hk];simp
  rw[e3];omega
theorem Xi7(s:Int)(r:List Int):tT (-s) (tT s r)=r :=
 Y7 (by rw[Xv,Xv]) fun p=>by rw[Xa1];exact Xy4 s r.length r rfl p
end Z
end
section
namespace Z
open PySem
section
variable{F:Fn}{G:List D}
theorem Xha{get:Sto->Nat->Option (Option D)}{t:Tg}{body:En->List D->Sto->R (List D)}(xs:List D)(y:Nat->D)(P:Nat->En->Sto->Prop)(hget:∀ i e S,P i e S->get S i=some xs[i]?)
  (step:∀ i d e S,xs[i]?=some d->P i e S->∃ e1 S2,Xo t d e=some e1/\body e1 ((List.range i).map y) S=.ok ((List.range (i+1)).map y) S2/\P (i+1) e1 S2) :
  ∀ (fuel i:Nat) (e:En) (S:Sto),P i e S->i<=xs.length->xs.length<fuel+i->∃ e' S',Yr get t body fuel i e ((List.range i).map y) S=.ok ((List.range xs.length).map y) S'/\P xs.length e' S'
 | 0,i,e,S,h,h1,h2=>by omega
 | fuel+1,i,e,S,h,h1,h2=>by
  cases q:xs[i]? with
  | none =>
   have hi:i=xs.length:=by
    have:=List.getElem?_eq_none_iff.mp q;omega
   refine⟨e,S,?_,hi▸h⟩;simp only[Yr,hget i e S h,q];rw[hi]
  | some d =>
   obtain⟨e1,S2,a1,a2,a3⟩:=step i d e S q h;have hi:i<xs.length:=(List.getElem?_eq_some_iff.mp q).1;obtain⟨e',S',b1,b2⟩:=Xha xs y P hget step fuel (i+1) e1 S2 a3 (by omega) (by omega)
   refine⟨e',S',?_,b2⟩;simp only[Yr,hget i e S h,q,a1,a2];exact b1
theorem X9{n:Nat}(h:n<=1000):n<=big:=Nat.le_trans h (by decide)
theorem Xbx{it:It}{t:Tg}{n:Nat}{elt:Ex}{env:En}{S S1:Sto}{src:Src}(xs:List D)(y:Nat->D)(P:Nat->En->Sto->Prop)(hit:evit F G it env S=.ok src S1)(hm:src.most S1=xs.length)(hb:xs.length<=big)
  (h0:P 0 (env++List.replicate n none) S1) (hget:∀ i e S,P i e S->src.get S i=some xs[i]?)
  (step:∀ i d e S,xs[i]?=some d->P i e S->∃ e1 S2,Xo t d e=some e1/\ev F G elt e1 S=.ok (y i) S2/\P (i+1) e1 S2) :
  ∃ e' S',ev F G (.cmr false n (.cons t it .nil .nil) elt) env S=.ok (.ref S'.length) (S'++[.lst ((List.range xs.length).map y)])/\P xs.length e' S':=by
 obtain⟨e',S',a,b⟩:=Xha (get:=src.get) (t:=t) (body:=Y4 (fun env S=>evts F G .nil env S) (fun env acc S=>(ev F G elt env S).bind fun y S=>if acc.length<big then .ok (acc++[y]) S else .bad)) xs y P hget
  (fun i d e S hd hP=>by
   obtain⟨e1,S2,a1,a2,a3⟩:=step i d e S hd hP;refine⟨e1,S2,a1,?_,a3⟩;have hi:i<xs.length:=(List.getElem?_eq_some_iff.mp hd).1;simp only[Y4,evts,Rk0,if_true,a2,List.length_map,List.length_range];rw[if_pos (by omega),List.range_succ,List.map_append]
   rfl) (xs.length+1) 0 _ S1 h0 (Nat.zero_le _) (by omega)
 refine⟨e',S',?_,b⟩;simp only[ev,hit,Rk0,hm];have a':Yr src.get t (Y4 (fun env S=>evts F G .nil env S) (fun env acc S=>(ev F G elt env S).bind fun y S=>if acc.length<big then .ok (acc++[y]) S else .bad)) (xs.length+1) 0 (env++List.replicate n none) [] S1=.ok ((List.range xs.length).map y) S':=a
 rw[a'];simp only[Rk0];rfl
theorem Xe9{es:Exs}{env:En}{S S1:Sto}{ds xs:List D}(h1:evs F G es env S=.ok ds S1)(h2:Y2 ds=some xs):evit F G (.rng es) env S=.ok (.con xs) S1:=by simp only[evit,h1,Rk0,h2]
theorem Xon{e:Ex}{env:En}{S S1:Sto}{xs:List D}(h1:ev F G e env S=.ok (.tup xs) S1):evit F G (.val e) env S=.ok (.con xs) S1:=by simp only[evit,h1,Rk0,Xs]
noncomputable def Xcj:Sts:=.cons (.asg (.var 2) (.bin .fdiv (.bin .mul (.var 2) (.bin .sub (.var 0) (.var 3))) (.bin .add (.var 3) (.cst (.int 1))))) .nil
noncomputable def Xhv:Df:=⟨2,4,.cons (.asg (.var 2) (.cst (.int 1))) (.cons (.for (.var 3) (.rng (.cons (.var 1) .nil)) Xcj) (.cons (.ret (.var 2)) .nil))⟩
theorem X1a{i:Nat}(h:i<13):Yq ((i:Int)+1)=true:=by
 have:∀ j:Fin 13,Yq ((j.val:Int)+1)=true:=by decide+kernel
 exact this ⟨i,h⟩
theorem Xrb(n m t i:Int)(S:Sto)(hmul:Xy t (n-i)=true)(hdiv:Yq (i+1)=true):exes F G Xcj [some (.int n),some (.int m),some (.int t),some (.int i)] S=.ok (.nx [some (.int n),some (.int m),some (.int (t*(n-i)/(i+1))),some (.int i)]) S:=by
 unfold Xcj;refine Xe (e:=[some (.int n),some (.int m),some (.int (t*(n-i)/(i+1))),some (.int i)]) (S1:=S) ?_;simp only[exe,ev,gZ0,gS0,Rk0,Yb,Yu hmul,Xx,Xc2 hdiv,Xo,List.set]
theorem Xoo(n m i:Nat)(S:Sto)(hn:n<=1000000000000)(hi:i<12):exes F G Xcj [some (.int n),some (.int m),some (.int (C n i)),some (.int i)] S=.ok (.nx [some (.int n),some (.int m),some (.int (C n (i+1))),some (.int i)]) S:=by
 have:=Xrb (F:=F) (G:=G) n m (C n i) i S (Xci (by omega) (by omega)) (X1a (by omega))
 rw[X07] at this;exact this
theorem Xrc(n m t:Int)(S:Sto)(e':En)(S':Sto)(h1:exe F G (.for (.var 3) (.rng (.cons (.var 1) .nil)) Xcj) [some (.int n),some (.int m),some (.int 1),none] S=.ok (.nx e') S')(h2:e'[2]?=some (some (.int t))) :
  den F G Xhv [.int n,.int m] S=.ok (.int t) S':=by
 simp only[den,Xhv,List.length,if_true,List.map,List.replicate];rw[Xe (e:=[some (.int n),some (.int m),some (.int 1),none]) (S1:=S) (by simp only[exe,ev,Rk0,Xo];rfl)]
 rw[Xe (ss:=.cons (.ret (.var 2)) .nil) h1];rw[Xl (d:=.int t) (S1:=S') (by simp only[exe,ev,h2,Rk0])]
theorem Xrd(n m:Nat)(S:Sto)(hn:n<=1000000000000)(hm:m<=12):den F G Xhv [.int n,.int m] S=.ok (.int (C n m)) S:=by
 obtain⟨xs,hx,hl⟩:=Xah (m:=(m:Int)) (by omega) (Xde (by omega))
 have hl':xs.length=m:=by omega
 obtain⟨e',S',h1,rfl,x,rfl⟩:=Xgd (F:=F) (G:=G) (t:=.var 3) (es:=.cons (.var 1) .nil) (b:=Xcj)
  (env:=[some (.int n),some (.int m),some (.int 1),none]) (S:=S) (S1:=S) (ds:=[.int m]) (xs:=xs) (fun i e S'=>S'=S/\∃ x,e=[some (.int n),some (.int m),some (.int (C n i)),x])
  (by simp only[evs,ev,gZ0,gS0,Rk0]) hx ⟨rfl,none,by rw[Xbe];rfl⟩ (fun i d e S' hd hP=>by
   obtain⟨rfl,x,rfl⟩:=hP;obtain⟨rfl,hi⟩:=Xa8 hx hd;exact⟨_,_,S',rfl,Xoo n m i S' hn (by omega),rfl,some (.int i),rfl⟩)
 rw[hl'] at h1;exact Xrc _ _ _ _ _ _ h1 rfl
noncomputable def Xfa(iw:Nat):Df:=⟨2,3,.cons (.asg (.var 2) (.bin .sub (.blt .len (.cons (.var 0) .nil)) (.cst (.int 1))))
  (.cons (.ret (.cmr false 2 (.cons (.var 4) (.rng (.cons (.bin .add (.var 1) (.cst (.int 1))) .nil)) .nil .nil) (.bin .mul (.idx (.var 0) (.var 4)) (.call iw (.cons (.bin .sub (.var 2) (.var 4)) (.cons (.bin .sub (.var 1) (.var 4)) .nil)))))) .nil)⟩
noncomputable def Ym(row:List Int)(p a:Nat):Int:=row.getD a 0*(C (row.length-1-a) (p-a):Int)
noncomputable def Xao(row:List Int)(p:Nat):List D:=(List.range (p+1)).map fun a=>.int (Ym row p a)
theorem Xhw:∀ n m:Nat,C n m<=2^n
 | n,0=>by rw[Xbe];exact Nat.one_le_two_pow
 | 0,m+1=>by rw[Xc1 0 (m+1) (by omega)];exact Nat.zero_le _
 | n+1,m+1=>by
  have h1:=Xhw n m;have h2:=Xhw n (m+1);rw[C,Nat.pow_succ];omega
theorem Xvc{n m:Nat}(h:n<=12):C n m<=4096:=Nat.le_trans (Xhw n m) (Nat.pow_le_pow_right (by decide) h)
theorem Xop(x c:Int)(h0:0<=c)(h:c<=4096):Xy x c=true:=Xci (by omega) (by omega)
theorem Xre{iw:Nat}{row:D}{r0 w p i c:Int}{S:Sto}(h1:Xag row (.int i) S=.ok (.int r0) S)(h2:F iw [.int (w-i),.int (p-i)] S=.ok (.int c) S)(h3:Xy r0 c=true) :
  ev F G (.bin .mul (.idx (.var 0) (.var 4)) (.call iw (.cons (.bin .sub (.var 2) (.var 4)) (.cons (.bin .sub (.var 1) (.var 4)) .nil)))) [some row,some (.int p),some (.int w),none,some (.int i)] S=.ok (.int (r0*c)) S:=by
 simp only[ev,evs,gZ0,gS0,Rk0,h1,Yb,h2,Yu h3]
theorem Xgf(row:List Int)(a:Nat)(S:Sto)(h:a<row.length):Xag (.tup (row.map D.int)) (.int a) S=.ok (.int (row.getD a 0)) S:=by
 simp only[Xag,Xaf,Xw,Option.bind_some,Z.ixN,List.length_map];rw[if_pos (by omega),if_pos (by omega)]
 simp[h]
theorem Xgg(xs:List D)(S:Sto):Xr .len [.tup xs] S=.ok (.int xs.length) S:=rfl
noncomputable def Xgh(iw:Nat):Ex:=.bin .mul (.idx (.var 0) (.var 4)) (.call iw (.cons (.bin .sub (.var 2) (.var 4)) (.cons (.bin .sub (.var 1) (.var 4)) .nil)))
noncomputable def Xl5(row:D)(p w:Int)(x:Option D):En:=[some row,some (.int p),some (.int w),none,x]
theorem Xoq{iw:Nat}(hw:∀ (n m:Nat) (S:Sto),n<=12->m<=12->F iw [.int n,.int m] S=.ok (.int (C n m)) S)(row:List Int)(p i:Nat)(S:Sto)(h:p<row.length)(hl:row.length<=12)(hi:i<=p) :
  ev F G (Xgh iw) (Xl5 (.tup (row.map D.int)) p ((row.length:Int)-1) (some (.int i))) S=.ok (.int (Ym row p i)) S:=by
 have e1:((row.length:Int)-1)-i=((row.length-1-i:Nat):Int):=by omega
 have e2:(p:Int)-i=((p-i:Nat):Int):=by omega
 have hF:F iw [.int (((row.length:Int)-1)-i),.int ((p:Int)-i)] S=.ok (.int (C (row.length-1-i) (p-i))) S:=by
  rw[e1,e2];exact hw _ _ S (by omega) (by omega)
 have hc:C (row.length-1-i) (p-i)<=4096:=Xvc (by omega)
 unfold Ym;generalize C (row.length-1-i) (p-i)=c at hF hc ⊢;exact Xre (Xgf row i S (by omega)) hF (Xop _ _ (by omega) (by omega))
theorem Xl6{iw:Nat}(row:D)(y:Nat->D)(p w:Int)(S:Sto)(h0:0<=p)(h1:p<12)(ht:∀ i:Nat,(i:Int)<=p->ev F G (Xgh iw) (Xl5 row p w (some (.int i))) S=.ok (y i) S) :
  ev F G (.cmr false 2 (.cons (.var 4) (.rng (.cons (.bin .add (.var 1) (.cst (.int 1))) .nil)) .nil .nil) (Xgh iw)) [some row,some (.int p),some (.int w)] S=.ok (.ref S.length) (S++[.lst ((List.range (p+1).toNat).map y)]):=by
 obtain⟨xs,hx,hxl⟩:=Xah (m:=p+1) (by omega) (Xde (by omega))
 obtain⟨e',S',h2,h3,h4⟩:=Xbx (F:=F) (G:=G) (t:=.var 4) (n:=2) (elt:=Xgh iw) (env:=[some row,some (.int p),some (.int w)]) (S:=S) (S1:=S) xs y
  (fun i e S'=>S'=S/\∃ x,e=Xl5 row p w x)
  (Xe9 (es:=.cons (.bin .add (.var 1) (.cst (.int 1))) .nil) (by simp only[evs,ev,gZ0,gS0,Rk0,Xx]) hx) rfl (X9 (by omega)) ⟨rfl,none,rfl⟩ (fun _ _ _ _=>rfl)
  (fun i d e S' hd hP=>by
   obtain⟨rfl,x,rfl⟩:=hP;obtain⟨rfl,hi⟩:=Xa8 hx hd;exact⟨Xl5 row p w (some (.int i)),S',rfl,ht i (by omega),rfl,some (.int i),rfl⟩)
 have h3':S'=S:=h3;subst h3';rw[h2,hxl]
theorem Xor{iw:Nat}{row:D}{n p:Int}{r:D}{S S':Sto}(hl:Xr .len [row] S=.ok (.int n) S)(h:ev F G (.cmr false 2 (.cons (.var 4) (.rng (.cons (.bin .add (.var 1) (.cst (.int 1))) .nil)) .nil .nil) (Xgh iw)) [some row,some (.int p),some (.int (n-1))] S=.ok r S') :
  den F G (Xfa iw) [row,.int p] S=.ok r S':=by
 have h':=h;unfold Xgh at h';simp only[den,Xfa,List.length,if_true,List.map,List.replicate];rw[Xe (e:=[some row,some (.int p),some (.int (n-1))]) (S1:=S) (by
  simp only[exe,ev,evs,List.cons_append,List.nil_append,gZ0,Rk0,hl,Yb,Xo,List.set])]
 rw[Xl (d:=r) (S1:=S') (by simp only[exe];rw[h',Rk0])]
theorem Xos{iw:Nat}(hw:∀ (n m:Nat) (S:Sto),n<=12->m<=12->F iw [.int n,.int m] S=.ok (.int (C n m)) S)(row:List Int)(p:Nat)(S:Sto)(h:p<row.length)(hl:row.length<=12) :
  den F G (Xfa iw) [.tup (row.map D.int),.int p] S=.ok (.ref S.length) (S++[.lst (Xao row p)]):=by
 have h1:=Xl6 (F:=F) (G:=G) (iw:=iw) (.tup (row.map D.int)) (fun a=>.int (Ym row p a)) p ((row.length:Int)-1) S (by omega) (by omega) (fun i hi=>Xoq hw row p i S h hl (by omega))
 have e:((p:Int)+1).toNat=p+1:=by omega
 rw[e] at h1;have hn:Xr .len [.tup (row.map D.int)] S=.ok (.int row.length) S:=by rw[Xgg,List.length_map]
 exact Xor hn h1
theorem Xrf(row:List Int):∀ p,((List.range (p+1)).map (Ym row p)).sum=tG 1 row p:=by
 induction row with
 | nil =>
  intro p;have:∀ a,Ym [] p a=0:=fun a=>by simp[Ym]
  have e:(List.range (p+1)).map (Ym [] p)=List.replicate (p+1) 0:=by
   rw[List.eq_replicate_iff];exact⟨by simp,fun b hb=>by obtain⟨a,_,rfl⟩:=List.mem_map.mp hb;exact this a⟩
  rw[e];simp[tG]
 | cons x r ih =>
  intro p;rw[List.range_succ_eq_map,List.map_cons,List.map_map,List.sum_cons];have e0:Ym (x::r) p 0=x*(C r.length p:Int):=by simp[Ym]
  cases p with
  | zero=>simp[tG,e0,Xbe]
  | succ p =>
   have e1:(Ym (x::r) (p+1)∘Nat.succ)=Ym r p:=by
    funext a
    simp only[Function.comp,Ym,List.length_cons,List.getD_cons_succ];have:r.length+1-1-(a+1)=r.length-1-a:=by omega
    rw[this,Nat.succ_sub_succ]
   rw[e1,ih p,e0,tG,Int.one_pow,Int.one_mul]
noncomputable def Xa2(l:List Int):Int:=(alt l).sum-(alt (l.drop 1)).sum
theorem Xrg{α:Type}(x:α)(r:List α):alt (x::r)=x::alt (r.drop 1):=by
 cases r<;>rfl
theorem Xdf(x:Int)(r:List Int):Xa2 (x::r)=x-Xa2 r:=by
 unfold Xa2;rw[Xrg,List.sum_cons];have:(x::r).drop 1=r:=rfl;rw[this];omega
theorem Xvd(n:Nat):(-1:Int)^(n+1) = -((-1)^n):=by rw[Int.pow_succ];omega
theorem Xi8(x:Int):∀ u:List Int,Xa2 (u++[x])=Xa2 u+(-1)^u.length*x
 | []=>by simp[Xa2,alt]
 | y::u=>by
  rw[List.cons_append,Xdf,Xdf,Xi8 x u,List.length_cons,Xvd,Int.neg_mul];omega
theorem Xrh(x:Int)(l:List Int):Xa2 (x::l).reverse=Xa2 l.reverse+(-1)^l.length*x:=by
 rw[List.reverse_cons,Xi8,List.length_reverse]
theorem Xri(row:List Int):∀ p,Xa2 ((List.range (p+1)).map (Ym row p)).reverse=tG (-1) row p:=by
 induction row with
 | nil =>
  intro p;have key:∀ l:List Int,(∀ b∈l,b=0)->Xa2 l=0:=by
   intro l
   induction l with
   | nil=>intro _;rfl
   | cons y l ih=>intro h;rw[Xdf,ih fun b hb=>h b (by simp[hb]),h y (by simp)];rfl
  rw[key _ fun b hb=>by
   obtain⟨a,_,rfl⟩:=List.mem_map.mp (List.mem_reverse.mp hb);simp[Ym]]
  rfl
 | cons x r ih =>
  intro p;rw[List.range_succ_eq_map,List.map_cons,List.map_map,Xrh];have e0:Ym (x::r) p 0=x*(C r.length p:Int):=by simp[Ym]
  have el:(List.map (Ym (x::r) p∘Nat.succ) (List.range p)).length=p:=by simp
  rw[e0,el];cases p with
  | zero=>simp[tG,Xbe,Xa2,alt]
  | succ p =>
   have e1:(Ym (x::r) (p+1)∘Nat.succ)=Ym r p:=by
    funext a
    simp only[Function.comp,Ym,List.length_cons,List.getD_cons_succ];have:r.length+1-1-(a+1)=r.length-1-a:=by omega
    rw[this,Nat.succ_sub_succ]
   rw[e1,ih p,tG];have:(-1:Int)^(p+1)*(x*(C r.length (p+1):Int))=x*((-1)^(p+1)*(C r.length (p+1):Int)):=Int.mul_left_comm _ _ _;rw[this];omega
end
end Z
end
section
namespace Z
open PySem
section
variable{F:Fn}{G:List D}
theorem Xea:∀ l:List Int,Yg (l.map D.int)=some l
 | []=>rfl
 | x::l=>by simp only[List.map,Yg,Xea l,Option.map_some]
theorem Xgi{S:Sto}{q:Nat}{l:List Int}(h:Xd S q=some (l.map D.int)):Xr .sum [.ref q] S=.ok (.int l.sum) S:=by
 simp only[Xr,Xw,h,Option.bind_some,Xea]
theorem Xkr{S:Sto}{q:Nat}{l:List Int}{k:Bool}(h:Xd S q=some (l.map D.int)):Xei k (.ref q) S=.ok (.ref S.length) (S++[.lst ((alt (l.reverse.drop (if k then 1 else 0))).map D.int)]):=by
 simp only[Xei,h,<- List.map_reverse,<- List.map_drop,Xko]
noncomputable def Xfb:Df:=⟨1,1,.cons (.ret (.bin .sub (.blt .sum (.cons (.rv2 false (.var 0)) .nil)) (.blt .sum (.cons (.rv2 true (.var 0)) .nil)))) .nil⟩
theorem Xrj{S:Sto}{q:Nat}{A B:List Int}(h1:Xei false (.ref q) S=.ok (.ref S.length) (S++[.lst (A.map D.int)]))(h3:Xei true (.ref q) (S++[.lst (A.map D.int)])=.ok (.ref (S++[O.lst (A.map D.int)]).length) (S++[.lst (A.map D.int)]++[.lst (B.map D.int)])) :
  den F G Xfb [.ref q] S=.ok (.int (A.sum-B.sum)) (S++[.lst (A.map D.int)]++[.lst (B.map D.int)]):=by
 have h2:=Xgi (Xq (S:=S) (xs:=A.map D.int));have h4:=Xgi (Xq (S:=S++[O.lst (A.map D.int)]) (xs:=B.map D.int));simp only[den,Xfb,List.map,List.replicate,Nat.sub_self,List.append_nil,exes,exe,ev,evs,gZ0,Rk0,h1,h2,h3,h4,Yb];rfl
theorem Xot{S:Sto}{q:Nat}{l:List Int}(h:Xd S q=some (l.map D.int)):∃ X,den F G Xfb [.ref q] S=.ok (.int (Xa2 l.reverse)) (S++X):=by
 have h1:=Xkr (k:=false) h;have h3:=Xkr (k:=true) (Yv (X:=[.lst ((alt (l.reverse.drop 0)).map D.int)]) h);have:=Xrj (F:=F) (G:=G) (A:=alt (l.reverse.drop 0)) (B:=alt (l.reverse.drop 1)) h1 h3;rw[List.append_assoc] at this;exact⟨_,this⟩
noncomputable def Xdg(row:D)(x:Option D):En:=[some row,none,x]
theorem Xhb{elt:Ex}{row:D}{L:Nat}{y:Nat->Int}{S:Sto}(hl:∀ S,Xr .len [row] S=.ok (.int L) S)(hL:L<=12)(ht:∀ (i:Nat) (S:Sto),i<L->∃ X,ev F G elt (Xdg row (some (.int i))) S=.ok (.int (y i)) (S++X)) :
  ∃ X,ev F G (.blt .tuple (.cons (.cmr false 2 (.cons (.var 2) (.rng (.cons (.blt .len (.cons (.var 0) .nil)) .nil)) .nil .nil) elt) .nil)) [some row] S=.ok (.tup ((List.range L).map fun i=>.int (y i))) (S++X):=by
 obtain⟨xs,hx,hxl⟩:=Xah (m:=(L:Int)) (by omega) (Xde (by omega))
 have hxl':xs.length=L:=by omega
 obtain⟨e',S',h2,⟨X,h3⟩,h4⟩:=Xbx (F:=F) (G:=G) (t:=.var 2) (n:=2) (elt:=elt) (env:=[some row]) (S:=S) (S1:=S) xs (fun i=>.int (y i))
  (fun i e S'=>(∃ X,S'=S++X)/\∃ x,e=Xdg row x)
  (Xe9 (es:=.cons (.blt .len (.cons (.var 0) .nil)) .nil) (by simp only[evs,ev,gZ0,Rk0,hl]) hx) rfl (X9 (by omega)) ⟨⟨[],by simp⟩,none,rfl⟩ (fun _ _ _ _=>rfl)
  (fun i d e S' hd hP=>by
   obtain⟨⟨X,rfl⟩,x,rfl⟩:=hP;obtain⟨rfl,hi⟩:=Xa8 hx hd;obtain⟨X',h⟩:=ht i (S++X) (by omega)
   exact⟨Xdg row (some (.int i)),S++X++X',rfl,h,⟨X++X',by simp⟩,some (.int i),rfl⟩)
 refine⟨X++[.lst ((List.range L).map fun i=>.int (y i))],?_⟩
 rw[hxl'] at h2;have h3':S'=S++X:=h3;subst h3';simp only[ev,evs] at h2 ⊢;rw[h2];simp only[Rk0,Xr,Xw,Xq];rw[List.append_assoc]
noncomputable def Xgj(ic:Nat)(elt:Ex):Df:=⟨1,1,.cons (.expr (.call ic (.cons (.var 0) .nil))) (.cons (.ret (.blt .tuple (.cons (.cmr false 2 (.cons (.var 2) (.rng (.cons (.blt .len (.cons (.var 0) .nil)) .nil)) .nil .nil) elt) .nil))) .nil)⟩
theorem Xks{ic:Nat}{elt:Ex}{row:D}{d:D}{S S1 S2:Sto}(hc:F ic [row] S=.ok .non S1)(h:ev F G (.blt .tuple (.cons (.cmr false 2 (.cons (.var 2) (.rng (.cons (.blt .len (.cons (.var 0) .nil)) .nil)) .nil .nil) elt) .nil)) [some row] S1=.ok d S2) :
  den F G (Xgj ic elt) [row] S=.ok d S2:=by
 simp only[den,Xgj,List.length,if_true,List.map,List.replicate,Nat.sub_self,List.append_nil];rw[Xe (e:=[some row]) (S1:=S1) (by simp only[exe,ev,evs,gZ0,Rk0,hc])]
 rw[Xl (d:=d) (S1:=S2) (by simp only[exe];rw[h,Rk0])]
noncomputable def Xa(l:List Int):D:=.tup (l.map D.int)
theorem Xkt(s:Int)(row:List Int):D.tup ((List.range row.length).map fun i=>.int (tG s row i))=Xa (tT s row):=by simp[Xa,tT]
noncomputable def Xl7(ii ip:Nat):Ex:=.call ii (.cons (.call ip (.cons (.var 0) (.cons (.var 2) .nil))) .nil)
noncomputable def Xl8(ip:Nat):Ex:=.blt .sum (.cons (.call ip (.cons (.var 0) (.cons (.var 2) .nil))) .nil)
theorem Xhc(row:List Int)(p:Nat):Xao row p=((List.range (p+1)).map (Ym row p)).map D.int:=by simp[Xao]
theorem Y0(row:List Int)(S:Sto):Xr .len [Xa row] S=.ok (.int row.length) S:=by unfold Xa;rw[Xgg,List.length_map]
theorem Xl9{ic ii ip:Nat}{row:List Int}{S S1:Sto}(hl:row.length<=12)(hc:F ic [Xa row] S=.ok .non S1)
  (hp:∀ (p:Nat) (S:Sto),p<row.length->F ip [Xa row,.int p] S=.ok (.ref S.length) (S++[.lst (Xao row p)]))
  (hi:∀ (S:Sto) (q:Nat) (l:List Int),Xd S q=some (l.map D.int)->∃ X,F ii [.ref q] S=.ok (.int (Xa2 l.reverse)) (S++X)) :
  ∃ X,den F G (Xgj ic (Xl7 ii ip)) [Xa row] S=.ok (Xa (tT (-1) row)) (S1++X):=by
 obtain⟨X,h⟩:=Xhb (F:=F) (G:=G) (elt:=Xl7 ii ip) (row:=Xa row) (L:=row.length) (y:=tG (-1) row) (S:=S1) (Y0 row) hl fun i S hh=>by
  obtain⟨X,h⟩:=hi (S++[.lst (Xao row i)]) S.length ((List.range (i+1)).map (Ym row i)) (by rw[<- Xhc];exact Xq)
  rw[Xri] at h;refine⟨[.lst (Xao row i)]++X,?_⟩;simp only[Xl7,Xdg,ev,evs,gZ0,gS0,Rk0,hp i S hh,h,List.append_assoc]
 rw[Xkt] at h;exact⟨X,Xks hc h⟩
theorem Xrk{ic ip:Nat}{row:List Int}{S S1:Sto}(hl:row.length<=12)(hc:F ic [Xa row] S=.ok .non S1)
  (hp:∀ (p:Nat) (S:Sto),p<row.length->F ip [Xa row,.int p] S=.ok (.ref S.length) (S++[.lst (Xao row p)])) :
  ∃ X,den F G (Xgj ic (Xl8 ip)) [Xa row] S=.ok (Xa (tT 1 row)) (S1++X):=by
 obtain⟨X,h⟩:=Xhb (F:=F) (G:=G) (elt:=Xl8 ip) (row:=Xa row) (L:=row.length) (y:=tG 1 row) (S:=S1) (Y0 row) hl fun i S hh=>by
  have h:=Xgi (S:=S++[.lst (Xao row i)]) (q:=S.length) (l:=(List.range (i+1)).map (Ym row i)) (by rw[<- Xhc];exact Xq)
  rw[Xrf] at h;refine⟨[.lst (Xao row i)],?_⟩;simp only[Xl8,Xdg,ev,evs,gZ0,gS0,Rk0,hp i S hh,h]
 rw[Xkt] at h;exact⟨X,Xks hc h⟩
end
end Z
end
section
namespace Z
open PySem
section
variable{F:Fn}{G:List D}
def Xdh(F:Fn)(i:Nat):Prop:=∀ (d:D) (S:Sto),good S d->F i [d] S=.ok (.bl (wh d)) S
theorem Xfc:∀ l:List Bool,X0 (l.map D.bl)=some l
 | []=>rfl
 | x::l=>by simp only[List.map,X0,Xfc l,Option.map_some]
noncomputable def Xma(i0:Nat):Ex:=.blt .all (.cons (.cmr false 2 (.cons (.var 2) (.val (.var 0)) .nil .nil) (.call i0 (.cons (.var 2) .nil))) .nil)
noncomputable def Xdy(i0:Nat):Df:=⟨1,1,.cons (.ret (.and (.isi (.var 0) [.tuple]) (Xma i0))) .nil⟩
theorem Xve{S:Sto}{l:List Bool}:Xr .all [.ref S.length] (S++[.lst (l.map D.bl)])=.ok (.bl (l.all id)) (S++[.lst (l.map D.bl)]):=by
 simp only[Xr,Xq,Option.bind_some,Xfc]
theorem Xou{α β:Type}[Inhabited α](f:α->β)(xs:List α):(List.range xs.length).map (fun i=>f (xs.getD i default))=xs.map f:=by
 refine List.ext_getElem (by simp) fun i h1 h2=>?_
 have:i<xs.length:=by simpa using h2
 simp[this]
theorem Xrl{i0:Nat}(hw:Xdh F i0){xs:List D}{S:Sto}(hg:∀ d∈xs,good S d)(hl:xs.length<=1000):ev F G (Xma i0) [some (.tup xs)] S=.ok (.bl (xs.all wh)) (S++[.lst ((xs.map wh).map D.bl)]):=by
 obtain⟨e',S',h2,h3,h4⟩:=Xbx (F:=F) (G:=G) (t:=.var 2) (n:=2) (elt:=.call i0 (.cons (.var 2) .nil)) (env:=[some (.tup xs)]) (S:=S) (S1:=S) xs (fun i=>.bl (wh (xs.getD i default)))
  (fun i e S'=>S'=S/\∃ x,e=Xdg (.tup xs) x)
  (Xon (e:=.var 0) (by simp only[ev,gZ0])) rfl (X9 hl) ⟨rfl,none,rfl⟩ (fun _ _ _ _=>rfl)
  (fun i d e S' hd hP=>by
   obtain⟨rfl,x,rfl⟩:=hP;have hm:d∈xs:=List.mem_of_getElem? hd;have e:xs.getD i default=d:=by rw[List.getD_eq_getElem?_getD,hd];rfl
   refine⟨Xdg (.tup xs) (some d),S',rfl,?_,rfl,some d,rfl⟩;rw[e];simp only[ev,evs,Xdg,gZ0,gS0,Rk0,hw d S' (hg d hm)])
 have h3':S'=S:=h3;subst h3';have e1:((List.range xs.length).map fun i=>D.bl (wh (xs.getD i default)))=(xs.map wh).map D.bl:=by
  rw[Xou (fun d=>D.bl (wh d)) xs,List.map_map];rfl
 rw[e1] at h2;simp only[Xma,ev,evs] at h2 ⊢;rw[h2];simp only[Rk0];rw[Xve];simp[Function.comp]
theorem Xrm{i0:Nat}(hw:Xdh F i0){xs:List D}{S:Sto}(hg:∀ d∈xs,good S d)(hl:xs.length<=1000):den F G (Xdy i0) [.tup xs] S=.ok (.bl (xs.all wh)) (S++[.lst ((xs.map wh).map D.bl)]):=by
 have h:=Xrl (G:=G) hw hg hl;have hk:kdD S (.tup xs)=some .tuple:=rfl;simp only[den,Xdy,List.length,if_true,List.map,List.replicate,Nat.sub_self,List.append_nil];rw[Xl (d:=.bl (xs.all wh)) (S1:=S++[.lst ((xs.map wh).map D.bl)]) (by
  simp only[exe];rw[ev,ev];simp only[ev,gZ0,Rk0,hk,Option.bind_some,Yl,isT,Xj];rw[h,Rk0])]
theorem Xy5{k:Kd}(h:∀ c,k≠.exc c)(hn:k≠.tuple):Yl k [.tuple]=some false:=by
 cases k<;>first|rfl|exact absurd rfl (h _)|exact absurd rfl hn
theorem Xvf{i0:Nat}{d:D}{k:Kd}{S:Sto}(hk:kdD S d=some k)(h:∀ c,k≠.exc c)(hn:k≠.tuple):den F G (Xdy i0) [d] S=.ok (.bl false) S:=by
 have hi:=Xy5 h hn;simp only[den,Xdy,List.length,if_true,List.map,List.replicate,Nat.sub_self,List.append_nil];rw[Xl (d:=.bl false) (S1:=S) (by
  simp only[exe];rw[ev,ev];simp only[ev,gZ0,Rk0,hk,Option.bind_some,hi,Xj])]
noncomputable def wt:D->Bool
 | .tup xs=>xs.all wh
 | _=>false
def Xs0(F:Fn)(i:Nat):Prop:=∀ (d:D) (S:Sto),good S d->(∀ xs,d=.tup xs->(∀ x∈xs,good S x)/\xs.length<=1000)->∃ X,F i [d] S=.ok (.bl (wt d)) (S++X)
theorem Xrn{T:List Df}{i0 i:Nat}(hf:T[i]?=some (Xdy i0))(k:Nat)(hw:Xdh (FT T G k) i0):Xs0 (FT T G (k+1)) i:=fun d S hg ht=>by
 simp only[FT,hf]
 by_cases h:∃ xs,d=.tup xs
 ·obtain⟨xs,rfl⟩:=h
  obtain⟨h1,h2⟩:=ht xs rfl;exact⟨_,Xrm hw h1 h2⟩
 ·obtain⟨kd,h1,h2⟩:=hg
  have hn:kd≠.tuple:=fun z=>by
   subst z;cases d with
   | tup xs=>exact h ⟨xs,rfl⟩
   | ref n =>
    simp only[kdD] at h1;split at h1<;>cases h1
   | _=>cases h1
  have e:wt d=false:=by
   cases d with
   | tup xs=>exact absurd ⟨xs,rfl⟩ h
   | _=>rfl
  refine⟨[],?_⟩;rw[e,List.append_nil];exact Xvf h1 h2 hn
theorem Xov{T:List Df}{i:Nat}(hf:T[i]?=some Xe7)(k:Nat):Xdh (FT T G (k+1)) i:=fun d S h=>by
 simp only[FT,hf];exact Xoh h
theorem Xvg(l:List Int):wt (Xa l)=true:=by
 unfold Xa wt;rw[List.all_eq_true];intro d hd;obtain⟨i,_,rfl⟩:=List.mem_map.mp hd;rfl
theorem Xow(l:List Int)(S:Sto):∀ x∈l.map D.int,good S x:=fun x hx=>by
 obtain⟨i,_,rfl⟩:=List.mem_map.mp hx;exact Xi3 S i
noncomputable def Xi9(i2:Nat)(ig:Nat:=0):Df:=⟨1,1,.cons (.ret (.and (.call i2 (.cons (.var 0) .nil)) (.chn .le .le (.cst (.int 1)) (.blt .len (.cons (.var 0) .nil)) (.bin .add (.glb ig) (.cst (.int 1)))))) .nil⟩
theorem Xro{i2:Nat}{d:D}{n g:Int}{S S1:Sto}(h1:F i2 [d] S=.ok (.bl true) S1)(h2:Xr .len [d] S1=.ok (.int n) S1)(hg:G[0]?=some (.int g))(h3:1<=n)(h4:n<=g+1):den F G (Xi9 i2) [d] S=.ok (.bl true) S1:=by
 simp only[den,Xi9,List.length,if_true,List.map,List.replicate,Nat.sub_self,List.append_nil];rw[Xl (d:=.bl true) (S1:=S1) (by
  simp only[exe,ev,evs,gZ0,Rk0,h1,Xj,h2,hg,Xx,Yy,Xi,decide_eq_true h3,decide_eq_true h4])]
noncomputable def Xrp(i4:Nat):Df:=⟨1,1,.cons (.ite (.not (.call i4 (.cons (.var 0) .nil))) (.cons (.rse 7 (.cst (.str "a row is due"))) .nil) .nil) .nil⟩
theorem Xy6{i4:Nat}{d:D}{S S1:Sto}(h:F i4 [d] S=.ok (.bl true) S1):den F G (Xrp i4) [d] S=.ok .non S1:=by
 simp only[den,Xrp,List.length,if_true,List.map,List.replicate,Nat.sub_self,List.append_nil];rw[Xe (e:=[some d]) (S1:=S1) (Yw (by simp only[ev,evs,gZ0,Rk0,h,Xj];rfl))]
 simp only[exes]
noncomputable def Xdz:Df:=⟨2,2,.cons (.ret (.bin .add (.var 1) (.rev (.sli (.var 1) .none (.some (.bin .sub (.bin .add (.var 0) (.cst (.int 1))) (.blt .len (.cons (.var 1) .nil)))))))) .nil⟩
theorem Xja{α:Type}(xs:List α)(n:Nat):cut xs none (some (n:Int))=xs.take n:=by
 unfold cut Xeh;simp only[List.drop_zero,Nat.sub_zero];rw[if_pos (by omega)]
 simp only[Int.toNat_natCast]
 by_cases h:n<=xs.length
 ·rw[Nat.min_eq_left h]
 ·rw[Nat.min_eq_right (by omega),List.take_of_length_le (by omega),List.take_of_length_le (by omega)]
theorem Xmb{w a:Int}{xs:List D}{S:Sto}(h1:(xs++(cut xs none (some (w+1-xs.length))).reverse).length=xs.length+(cut xs none (some (w+1-xs.length))).length)(h2:xs.length+(cut xs none (some (w+1-xs.length))).reverse.length<=big) :
  den F G Xdz [.int w,.tup xs] S=.ok (.tup (xs++(cut xs none (some (w+1-xs.length))).reverse)) S:=by
 simp only[den,Xdz,List.length,if_true,List.map,List.replicate,Nat.sub_self,List.append_nil];rw[Xl (d:=.tup (xs++(cut xs none (some (w+1-xs.length))).reverse)) (S1:=S) (by
  simp only[exe,ev,evo,evs,gZ0,gS0,Rk0,Xgg,Xx,Yb,Xam,Xaa,Xfw,Xm];rw[if_pos h2,Rk0])]
end
end Z
end
section
namespace Z
open PySem
noncomputable def ps(l:List Int)(k:Nat):Int:=(l.take k).sum
noncomputable def pre(l:List Int)(n:Nat):List Int:=(List.range n).map fun j=>ps l (j+1)
noncomputable def mir(w:Nat)(h:List Int):List Int:=h++(h.take (w+1-h.length)).reverse
theorem Y8{w:Nat}{h:List Int}(hl:h.length=w/2+1):(mir w h).length=w+1:=by
 simp only[mir,List.length_append,List.length_reverse,List.length_take];omega
theorem Xgk{w p:Nat}{h:List Int}(hl:h.length=w/2+1)(hp:p<=w):(mir w h).getD p 0=h.getD (min p (w-p)) 0:=by
 simp only[mir,List.getD_eq_getElem?_getD,List.getElem?_append]
 by_cases h1:p<h.length
 ·rw[if_pos h1,Nat.min_eq_left (by omega)]
 ·rw[if_neg h1]
  have hlen:(h.take (w+1-h.length)).length=w+1-h.length:=by rw[List.length_take];omega
  rw[List.getElem?_reverse (by rw[hlen];omega),hlen,List.getElem?_take,if_pos (by omega)]
  congr 2;omega
theorem Xvh{w:Nat}{h:List Int}(hl:h.length=w/2+1):(mir w h).reverse=mir w h:=by
 refine Y7 (by simp) fun p=>?_
 by_cases hp:p<=w
 ·have e:(mir w h).reverse.getD p 0=(mir w h).getD (w-p) 0:=by
   simp only[List.getD_eq_getElem?_getD];rw[List.getElem?_reverse (by rw[Y8 hl];omega),Y8 hl]
   congr 2
  rw[e,Xgk hl hp,Xgk hl (by omega)]
  congr 1;omega
 ·have l1:(mir w h).length=w+1:=Y8 hl
  simp only[List.getD_eq_getElem?_getD];rw[List.getElem?_eq_none (by simp[l1];omega),List.getElem?_eq_none (by omega)]
theorem Xjb(s:Int):∀ (u v:List Int) (p:Nat),u.length=v.length->(∀ a,a<=p->u.getD a 0=v.getD a 0)->tG s u p=tG s v p
 | [],[],_,_,_=>rfl
 | x::u,y::v,0,_,h=>by have:=h 0 (Nat.le_refl _);simpa [tG] using this
 | x::u,y::v,p+1,hl,h=>by
  have hl':u.length=v.length:=by simpa using hl
  have h0:x=y:=by have:=h 0 (Nat.zero_le _);simpa using this
  rw[tG,tG,h0,hl',Xjb s u v p hl' fun a ha=>by have:=h (a+1) (by omega);simpa using this]
 | [],_::_,_,hl,_=>by simp at hl
 | _::_,[],_,hl,_=>by simp at hl
section
variable{F:Fn}{G:List D}
noncomputable def Xmc:Df:=⟨1,1,.cons (.ret (.bin .add (.bin .fdiv (.var 0) (.cst (.int 2))) (.cst (.int 1)))) .nil⟩
theorem Xrq(w:Int)(S:Sto):den F G Xmc [.int w] S=.ok (.int (w/2+1)) S:=by
 have hd:Yq 2=true:=by decide+kernel
 simp only[den,Xmc,List.length,if_true,List.map,List.replicate,Nat.sub_self,List.append_nil];rw[Xl (d:=.int (w/2+1)) (S1:=S) (by simp only[exe,ev,gZ0,Rk0,Xc2 hd,Xx])]
noncomputable def Xeu(i1 i2 ih:Nat):Df:=⟨2,2,.cons (.ite (.not (.call i1 (.cons (.var 0) (.cons (.cst (.int 0)) (.cons (.glb 0) .nil))))) (.cons (.rse 8 (.cst (.str "a width from 0 to 11 is due"))) .nil) .nil)
  (.cons (.ite (.or (.not (.call i2 (.cons (.var 1) .nil))) (.cmp .ne (.blt .len (.cons (.var 1) .nil)) (.call ih (.cons (.var 0) .nil)))) (.cons (.rse 7 (.cst (.str "a tuple of one more whole numbers than half of the width is due"))) .nil) .nil) .nil)⟩
variable{i1 i2 ih:Nat}{d e:D}{g:Int}{S S1:Sto}
theorem Xox(i j:Int)(S:Sto):Xi .ne (.int i) (.int j) S=.ok (.bl (!(i==j))) S:=by
 simp only[Xi,Yy,eqD,Xb6,Yj,X7,PyData.canLay0,PyData.depth,PyData.eqv];rfl
theorem Xrr{n:Int}(hg:G[0]?=some (.int g))(h:F i1 [d,.int 0,.int g] S=.ok (.bl true) S)(h2:F i2 [e] S=.ok (.bl true) S1)(h3:Xr .len [e] S1=.ok (.int n) S1)(h4:F ih [d] S1=.ok (.int n) S1):den F G (Xeu i1 i2 ih) [d,e] S=.ok .non S1:=by
 have hb:(!(n==n))=false:=by simp
 simp only[den,Xeu,List.length,if_true,List.map,List.replicate,Nat.sub_self,List.append_nil];rw[Xe (e:=[some d,some e]) (S1:=S) (Yw (by simp only[ev,evs,gZ0,Rk0,hg,h,Xj];rfl))]
 rw[Xe (e:=[some d,some e]) (S1:=S1) (Yw (by simp only[ev,evs,gZ0,gS0,Rk0,h2,Xj,Bool.not_true,h3,h4,Xox,hb]))]
 simp only[exes]
end
end Z
end
section
namespace Z
open PySem
section
variable{F:Fn}{G:List D}
theorem Xvi(w:Nat)(h:List Int)(hl:h.length=w/2+1):h.map D.int++(cut (h.map D.int) none (some ((w:Int)+1-(h.map D.int).length))).reverse=(mir w h).map D.int:=by
 have e:(w:Int)+1-((h.map D.int).length:Int)=((w+1-h.length:Nat):Int):=by rw[List.length_map];omega
 rw[e,Xja];simp[mir]
theorem Xmd{w:Nat}{h:List Int}{S:Sto}(hl:h.length=w/2+1)(hw:w<=11):den F G Xdz [.int w,Xa h] S=.ok (Xa (mir w h)) S:=by
 have e:=Xvi w h hl;have hn:((mir w h).map D.int).length=w+1:=by rw[List.length_map,Y8 hl]
 have h2:(h.map D.int).length+(cut (h.map D.int) none (some ((w:Int)+1-(h.map D.int).length))).reverse.length<=big:=by
  rw[<- List.length_append,e,hn];exact X9 (by omega)
 have:=Xmb (F:=F) (G:=G) (a:=0) (w:=w) (xs:=h.map D.int) (S:=S) (by rw[List.length_append,List.length_reverse]) h2
 rw[e] at this;exact this
theorem Xvj{t:Tg}{e0:Ex}{b:Sts}{xs:List D}{env:En}{S S1:Sto}(P:Nat->En->Sto->Prop)(h1:ev F G e0 env S=.ok (.tup xs) S1)(h0:P 0 env S1)
  (step:∀ i d e S,xs[i]?=some d->P i e S->∃ e1 e2 S2,Xo t d e=some e1/\exes F G b e1 S=.ok (.nx e2) S2/\P (i+1) e2 S2) :
  ∃ e' S',exe F G (.for t (.val e0) b) env S=.ok (.nx e') S'/\P xs.length e' S':=by
 obtain⟨e',S',a,b'⟩:=Xat (get:=(Src.con xs).get) (t:=t) (body:=fun env S=>exes F G b env S) xs P (fun _ _ _ _=>rfl) step (xs.length+1) 0 env S1 h0 (Nat.zero_le _) (by omega)
 refine⟨e',S',?_,b'⟩;simp only[exe,Xon h1,Rk0,Src.most];exact a
noncomputable def Xfd:Sts:=.cons (.aug 3 .add (.var 4)) (.cons (.expr (.mth .append (.var 2) (.cons (.var 3) .nil))) .nil)
noncomputable def Xy7:St:=.for (.var 4) (.val (.var 1)) Xfd
noncomputable def Xjc(ic ib im:Nat):Df:=⟨2,5,.cons (.expr (.call ic (.cons (.var 0) (.cons (.var 1) .nil)))) (.cons (.asg (.var 2) (.lst .nil)) (.cons (.asg (.var 3) (.cst (.int 0))) (.cons Xy7
  (.cons (.ret (.call ib (.cons (.call im (.cons (.var 0) (.cons (.blt .tuple (.cons (.var 2) .nil)) .nil))) .nil))) .nil))))⟩
theorem Xvk{S:Sto}{q:Nat}{xs:List D}{x:D}(h:Xd S q=some xs)(hl:xs.length<1000):Xa4 .append (.ref q) [x] S=.ok .non (S.set q (.lst (xs++[x]))):=by
 have h':lstM S q=some xs:=h;simp only[Xa4,h'];rw[if_pos (Nat.lt_of_lt_of_le hl (by decide))]
theorem Xoy{w r x:Int}{ns:D}{q:Nat}{S:Sto}{xs:List D}(h:Xd S q=some xs)(hl:xs.length<1000) :
  exes F G Xfd [some (.int w),some ns,some (.ref q),some (.int r),some (.int x)] S=.ok (.nx [some (.int w),some ns,some (.ref q),some (.int (r+x)),some (.int x)]) (S.set q (.lst (xs++[.int (r+x)]))):=by
 have ha:=Xvk (x:=.int (r+x)) h hl;have hr:Xdn .append (.ref q) S=true:=by simp only[Xdn,h,Option.isSome]
 unfold Xfd;rw[Xe (e:=[some (.int w),some ns,some (.ref q),some (.int (r+x)),some (.int x)]) (S1:=S) (by simp only[exe,ev,gZ0,gS0,Rk0,Xeg,List.set])]
 rw[Xe (e:=[some (.int w),some ns,some (.ref q),some (.int (r+x)),some (.int x)]) (S1:=S.set q (.lst (xs++[.int (r+x)]))) (by
  simp only[exe,ev,evs,gZ0,gS0,Rk0,hr,if_true,ha])]
 simp only[exes]
theorem Xd0(l:List Int)(i:Nat)(h:i<l.length):ps l (i+1)=ps l i+l.getD i 0:=by
 unfold ps;rw[List.take_succ,List.sum_append];simp[h]
theorem Xme{w:Int}{l:List Int}{S:Sto}(hl:l.length<1000) :
  ∃ e',exe F G Xy7 [some (.int w),some (Xa l),some (.ref S.length),some (.int 0),none] (S++[.lst []])=.ok (.nx e') (S++[.lst ((pre l l.length).map D.int)])/\∃ r x,e'=[some (.int w),some (Xa l),some (.ref S.length),some (.int r),x]:=by
 obtain⟨e',S',h1,h2,r,x,h3⟩:=Xvj (F:=F) (G:=G) (t:=.var 4) (e0:=.var 1) (b:=Xfd) (xs:=l.map D.int) (env:=[some (.int w),some (Xa l),some (.ref S.length),some (.int 0),none]) (S:=S++[.lst []]) (S1:=S++[.lst []])
  (fun i e S'=>S'=S++[.lst ((pre l i).map D.int)]/\∃ r x,e=[some (.int w),some (Xa l),some (.ref S.length),some (.int r),x]/\r=ps l i)
  (by simp only[ev,gZ0,gS0,Xa]) ⟨rfl,0,none,rfl,rfl⟩
  (fun i d e S' hd hP=>by
   obtain⟨rfl,r,x,rfl,hr⟩:=hP;rw[List.getElem?_map] at hd;cases q:l[i]? with
   | none=>rw[q] at hd;cases hd
   | some y =>
    rw[q] at hd;have hd':d=.int y:=by simpa using hd.symm
    subst hd';have hi:i<l.length:=(List.getElem?_eq_some_iff.mp q).1;have hy:l.getD i 0=y:=by rw[List.getD_eq_getElem?_getD,q];rfl
    have st:=Xoy (F:=F) (G:=G) (w:=w) (r:=r) (x:=y) (ns:=Xa l) (Xq (S:=S) (xs:=(pre l i).map D.int)) (by simp[pre];omega)
    refine⟨[some (.int w),some (Xa l),some (.ref S.length),some (.int r),some (.int y)],_,_,rfl,st,?_,_,_,rfl,?_⟩
    ·rw[List.set_append_right _ _ (Nat.le_refl _),Nat.sub_self,List.set_cons_zero]
     congr 3;rw[hr,<- hy,<- Xd0 l i hi];simp[pre,List.range_succ]
    ·rw[hr,Xd0 l i hi,hy])
 rw[List.length_map] at h2;exact⟨e',by rw[<- h2];exact h1,r,x,h3.1⟩
theorem Xoz{ic ib im:Nat}{w:Nat}{l:List Int}{S S1:Sto}(hl:l.length=w/2+1)(hw:w<=11)(hc:F ic [.int w,Xa l] S=.ok .non S1)
  (hm:∀ S,F im [.int w,Xa (pre l l.length)] S=.ok (Xa (mir w (pre l l.length))) S)
  (hb:∀ S,∃ X,F ib [Xa (mir w (pre l l.length))] S=.ok (Xa (tT 1 (mir w (pre l l.length)))) (S++X)) :
  ∃ X,den F G (Xjc ic ib im) [.int w,Xa l] S=.ok (Xa (tT 1 (mir w (pre l l.length)))) (S1++X):=by
 obtain⟨e',h1,r,x,rfl⟩:=Xme (F:=F) (G:=G) (w:=w) (l:=l) (S:=S1) (by omega)
 obtain⟨X,h2⟩:=hb (S1++[.lst ((pre l l.length).map D.int)]);refine⟨[.lst ((pre l l.length).map D.int)]++X,?_⟩;have ht:Xr .tuple [.ref S1.length] (S1++[.lst ((pre l l.length).map D.int)])=.ok (Xa (pre l l.length)) (S1++[.lst ((pre l l.length).map D.int)]):=by simp only[Xr,Xw,Xq,Xa]
 simp only[den,Xjc,List.length,if_true,List.map,List.replicate];rw[Xe (e:=[some (.int w),some (Xa l),none,none,none]) (S1:=S1) (by simp only[exe,ev,evs,List.cons_append,List.nil_append,gZ0,gS0,Rk0,hc])]
 rw[Xe (e:=[some (.int w),some (Xa l),some (.ref S1.length),none,none]) (S1:=S1++[.lst []]) (by
  simp only[exe,ev,evs,Rk0,List.length];rfl)]
 rw[Xe (e:=[some (.int w),some (Xa l),some (.ref S1.length),some (.int 0),none]) (S1:=S1++[.lst []]) (by simp only[exe,ev,Rk0,Xo,List.set])]
 rw[Xe h1];rw[Xl (d:=Xa (tT 1 (mir w (pre l l.length)))) (S1:=S1++([.lst ((pre l l.length).map D.int)]++X)) (by
  simp only[exe,ev,evs,gZ0,gS0,Rk0,ht,hm,h2,List.append_assoc])]
noncomputable def Xd1(ic ib im it:Nat):Df:=⟨2,3,.cons (.expr (.call ic (.cons (.var 0) (.cons (.var 1) .nil))))
  (.cons (.asg (.var 2) (.bin .add (.var 1) (.bin .mul (.tup (.cons (.cst (.int 0)) .nil)) (.bin .sub (.bin .add (.var 0) (.cst (.int 1))) (.blt .len (.cons (.var 1) .nil))))))
  (.cons (.ret (.call ib (.cons (.call im (.cons (.var 0) (.cons (.sli (.call it (.cons (.var 2) .nil)) .none (.some (.blt .len (.cons (.var 1) .nil)))) .nil))) .nil))) .nil))⟩
noncomputable def fil(w:Nat)(l:List Int):List Int:=l++List.replicate (w+1-l.length) 0
theorem Xvl{x:List D}{k:Int}{S:Sto}(h1:k<1048576)(h2:x.length*k.toNat<=big)(h3:-(1048576)<k)(h4:x.isEmpty=false):Xm .mul (.tup x) (.int k) S=.ok (.tup (List.replicate k.toNat x).flatten) S:=by
 simp only[Xm];rw[if_pos ⟨h1,h2,h3,h4⟩]
theorem Xev{α:Type}(x:α):∀ n,(List.replicate n [x]).flatten=List.replicate n x
 | 0=>rfl
 | n+1=>by rw[List.replicate_succ,List.flatten_cons,Xev x n,List.replicate_succ];rfl
theorem X2i{m:Int}(h:0<=m):-(1048576)<m:=by omega
theorem Xo0(n:Nat)(S:Sto)(h:n<1000):Xm .mul (.tup [.int 0]) (.int n) S=.ok (Xa (List.replicate n 0)) S:=by
 have h2:([D.int 0]:List D).length*(n:Int).toNat<=big:=by rw[Int.toNat_natCast,List.length_singleton,Nat.one_mul];exact X9 (by omega)
 rw[Xvl (Xde (by omega)) h2 (X2i (by omega)) rfl,Int.toNat_natCast,Xev]
 unfold Xa;rw[List.map_replicate]
theorem Xjd(a b:List Int)(S:Sto)(h:a.length+b.length<=1000):Xm .add (Xa a) (Xa b) S=.ok (Xa (a++b)) S:=by
 unfold Xa;simp only[Xm];rw[if_pos (by rw[List.length_map,List.length_map];exact X9 h),List.map_append]
theorem Xba(a:List Int)(n:Nat)(S:Sto):Xaa (Xa a) none (some (n:Int)) S=.ok (Xa (a.take n)) S:=by
 unfold Xa;simp only[Xaa,Xja,List.map_take]
theorem X2j(env:En)(S:Sto):ev F G (.tup (.cons (.cst (.int 0)) .nil)) env S=.ok (.tup [.int 0]) S:=by
 simp only[ev,evs,Rk0];exact if_pos (X9 (by simp))
theorem Xmf{ic ib im it:Nat}{w n:Int}{ns zs fl tu cu mi re:D}{S S1 S2 S3:Sto}(hc:F ic [.int w,ns] S=.ok .non S1)(hl1:Xr .len [ns] S1=.ok (.int n) S1)(hmul:Xm .mul (.tup [.int 0]) (.int (w+1-n)) S1=.ok zs S1)(hadd:Xm .add ns zs S1=.ok fl S1)
  (ht:F it [fl] S1=.ok tu S2) (hl2:Xr .len [ns] S2=.ok (.int n) S2) (hs:Xaa tu none (some n) S2=.ok cu S2) (hm:F im [.int w,cu] S2=.ok mi S2) (hb:F ib [mi] S2=.ok re S3):den F G (Xd1 ic ib im it) [.int w,ns] S=.ok re S3:=by
 simp only[den,Xd1,List.length,if_true,List.map,List.replicate];rw[Xe (e:=[some (.int w),some ns,none]) (S1:=S1) (by simp only[exe,ev,evs,List.cons_append,List.nil_append,gZ0,gS0,Rk0,hc])]
 rw[Xe (e:=[some (.int w),some ns,some fl]) (S1:=S1) (by
  have ht0:=X2j (F:=F) (G:=G) [some (.int w),some ns,none] S1;have hv:ev F G (.var 1) [some (.int w),some ns,none] S1=.ok ns S1:=by simp only[ev,gZ0,gS0]
  have hz:ev F G (.bin .mul (.tup (.cons (.cst (.int 0)) .nil)) (.bin .sub (.bin .add (.var 0) (.cst (.int 1))) (.blt .len (.cons (.var 1) .nil)))) [some (.int w),some ns,none] S1=.ok zs S1:=by
   rw[ev,ht0];simp only[ev,evs,gZ0,gS0,Rk0,hl1,Xx,Yb,hmul]
  rw[exe,ev,hv,Rk0,hz,Rk0,hadd,Rk0];rfl)]
 rw[Xl (d:=re) (S1:=S3) (by
  simp only[exe,ev,evo,evs,gZ0,gS0,Rk0,ht,hl2,Xam,hs,hm,hb])]
theorem Xmg{ic ib im it:Nat}{w:Nat}{l:List Int}{S S1:Sto}(hl:l.length=w/2+1)(hw:w<=11)(hc:F ic [.int w,Xa l] S=.ok .non S1)
  (ht:∀ S,∃ X,F it [Xa (fil w l)] S=.ok (Xa (tT (-1) (fil w l))) (S++X))
  (hm:∀ S,F im [.int w,Xa ((tT (-1) (fil w l)).take l.length)] S=.ok (Xa (mir w ((tT (-1) (fil w l)).take l.length))) S)
  (hb:∀ S,∃ X,F ib [Xa (mir w ((tT (-1) (fil w l)).take l.length))] S=.ok (Xa (tT 1 (mir w ((tT (-1) (fil w l)).take l.length)))) (S++X)) :
  ∃ X,den F G (Xd1 ic ib im it) [.int w,Xa l] S=.ok (Xa (tT 1 (mir w ((tT (-1) (fil w l)).take l.length)))) (S1++X):=by
 obtain⟨X1,h1⟩:=ht S1;obtain⟨X2,h2⟩:=hb (S1++X1);rw[List.append_assoc] at h2;have e:(w:Int)+1-(l.length:Int)=((w+1-l.length:Nat):Int):=by omega
 have hz:=Xo0 (w+1-l.length) S1 (by omega)
 rw[<- e] at hz;exact⟨X1++X2,Xmf hc (Y0 l S1) hz (Xjd l _ S1 (by simp;omega)) h1 (Y0 l _) (Xba _ l.length _) (hm _) h2⟩
end
end Z
end
section
namespace Z
open PySem
section
variable{F:Fn}{G:List D}
noncomputable def Xje:Ex:=.bin .add (.var 5) (.bin .mul (.var 1) (.var 6))
noncomputable def Xmh:Exs:=.cons (.bin .add (.var 2) (.lst (.cons (.cst (.int 0)) .nil))) (.cons (.bin .add (.lst (.cons (.cst (.int 0)) .nil)) (.var 2)) .nil)
noncomputable def bLT:Sts:=.cons (.asg (.var 2) (.cmr false 3 (.cons (.tup [5,6]) (.zpp Xmh) .nil .nil) Xje))
 (.cons (.aset (.var 2) (.neg (.cst (.int 1))) (.bin .add (.idx (.var 2) (.neg (.cst (.int 1)))) (.var 3))) .nil)
noncomputable def Xfe:Df:=⟨2,4,.cons (.asg (.var 2) (.lst .nil)) (.cons (.for (.var 3) (.val (.var 0)) bLT) (.cons (.ret (.blt .tuple (.cons (.var 2) .nil))) .nil))⟩
theorem Xy8(env:En)(S:Sto):ev F G (.lst (.cons (.cst (.int 0)) .nil)) env S=.ok (.ref S.length) (S++[.lst [.int 0]]):=by
 simp only[ev,evs,Rk0];exact if_pos (X9 (by simp))
theorem Xku{S:Sto}{a b:Nat}{x y:List D}(h1:Xd S a=some x)(h2:Xd S b=some y)(hl:x.length+y.length<=1000):Xm .add (.ref a) (.ref b) S=.ok (.ref S.length) (S++[.lst (x++y)]):=by
 have h1':lstM S a=some x:=h1;have h2':lstM S b=some y:=h2;simp only[Xm,h1',h2'];exact if_pos (X9 hl)
theorem Xo1{env:En}{S:Sto}{q:Nat}{f:List D}(hv:env[2]?=some (some (.ref q)))(h:Xd S q=some f)(hl:f.length<=100) :
  ∃ X a b,evit F G (.zpp Xmh) env S=.ok (.zpp (.ref a) (.ref b)) (S++X)/\Xd (S++X) a=some (f++[.int 0])/\Xd (S++X) b=some (.int 0::f):=by
 have v1:∀ S,ev F G (.var 2) env S=.ok (.ref q) S:=fun S=>by simp only[ev,hv]
 obtain⟨S1,e1⟩:∃ S1,S1=S++[O.lst [.int 0]]:=⟨_,rfl⟩;obtain⟨S2,e2⟩:∃ S2,S2=S1++[O.lst (f++[.int 0])]:=⟨_,rfl⟩;obtain⟨S3,e3⟩:∃ S3,S3=S2++[O.lst [.int 0]]:=⟨_,rfl⟩;obtain⟨S4,e4⟩:∃ S4,S4=S3++[O.lst ([.int 0]++f)]:=⟨_,rfl⟩;have a1:Xm .add (.ref q) (.ref S.length) S1=.ok (.ref S1.length) S2:=by
  rw[e2];exact Xku (by rw[e1];exact Yv h) (by rw[e1];exact Xq) (by simp;omega)
 have h3:Xd S3 q=some f:=by rw[e3,e2,e1];exact Yv (Yv (Yv h))
 have a2:Xm .add (.ref S2.length) (.ref q) S3=.ok (.ref S3.length) S4:=by
  rw[e4];exact Xku (by rw[e3];exact Xq) h3 (by simp;omega)
 have l1:Xd S4 S1.length=some (f++[.int 0]):=by rw[e4,e3];refine Yv (Yv ?_);rw[e2];exact Xq
 have l2:Xd S4 S3.length=some (.int 0::f):=by rw[e4];exact Xq
 have s1:Xs S4 (.ref S1.length)=some (.ref S1.length):=by simp only[Xs,l1,Option.map_some]
 have s2:Xs S4 (.ref S3.length)=some (.ref S3.length):=by simp only[Xs,l2,Option.map_some]
 have g1:ev F G (.bin .add (.var 2) (.lst (.cons (.cst (.int 0)) .nil))) env S=.ok (.ref S1.length) S2:=by
  rw[ev,v1,Rk0,Xy8,Rk0,<- e1,a1]
 have g2:ev F G (.bin .add (.lst (.cons (.cst (.int 0)) .nil)) (.var 2)) env S2=.ok (.ref S3.length) S4:=by
  rw[ev,Xy8,Rk0,v1,Rk0,<- e3,a2]
 obtain⟨X,eX⟩:∃ X,S4=S++X:=⟨[O.lst [.int 0]]++[O.lst (f++[.int 0])]++[O.lst [.int 0]]++[O.lst ([.int 0]++f)],by rw[e4,e3,e2,e1];simp⟩
 refine⟨X,S1.length,S3.length,?_,?_,?_⟩
 ·rw[<- eX]
  simp only[evit,Xmh,evs,g1,g2,Rk0,s1,s2]
 ·rw[<- eX];exact l1
 ·rw[<- eX];exact l2
theorem Xy9{env:En}{S:Sto}{x y s:Int}(h5:env[5]?=some (some (.int x)))(h6:env[6]?=some (some (.int y)))(h1:env[1]?=some (some (.int s)))(hm:Xy s y=true):ev F G Xje env S=.ok (.int (x+s*y)) S:=by
 simp only[Xje,ev,h5,h6,h1,Rk0,Yu hm,Xx]
noncomputable def Xza(row:D)(s:Int)(q:Nat)(x u v:Option D):En:=[some row,some (.int s),some (.ref q),x,none,u,v]
theorem Xvm{row:D}{s:Int}{q:Nat}{x:Option D}{S:Sto}{f:List Int}(h:Xd S q=some (f.map D.int))(hl:f.length<=100)(hs:-2<s)(hs':s<2) :
  ∃ X,ev F G (.cmr false 3 (.cons (.tup [5,6]) (.zpp Xmh) .nil .nil) Xje) [some row,some (.int s),some (.ref q),x] S=.ok (.ref (S++X).length) (S++X++[.lst ((Yi s f).map D.int)]):=by
 obtain⟨X,a,b,h1,ha,hb⟩:=Xo1 (F:=F) (G:=G) (env:=[some row,some (.int s),some (.ref q),x]) rfl h (by simpa using hl)
 have la:((f++[0]).map D.int)=f.map D.int++[.int 0]:=by simp
 have lb:((0::f).map D.int)=.int 0::f.map D.int:=rfl;rw[<- la] at ha;rw[<- lb] at hb;have hz:(Yi s f).length=f.length+1:=Xai s f
 let xs:List D:=(List.range (f.length+1)).map fun i=>.tup [.int ((f++[0]).getD i 0),.int ((0::f).getD i 0)]
 have hxl:xs.length=f.length+1:=by simp[xs]
 have hget:∀ i,(Src.zpp (.ref a) (.ref b)).get (S++X) i=some xs[i]?:=fun i=>by
  simp only[Src.get,ha,hb,Option.map_some,List.getElem?_map]
  by_cases hi:i<f.length+1
  ·have i1:(f++[0])[i]?=some ((f++[0]).getD i 0):=by
    have:i<(f++[0]).length:=by simp;omega
    rw[List.getD_eq_getElem?_getD,List.getElem?_eq_getElem this];rfl
   have i2:(0::f)[i]?=some ((0::f).getD i 0):=by
    have:i<(0::f).length:=by simp;omega
    rw[List.getD_eq_getElem?_getD,List.getElem?_eq_getElem this];rfl
   rw[i1,i2];simp[xs,hi]
  ·rw[List.getElem?_eq_none (l:=f++[0]) (by simp;omega),List.getElem?_eq_none (l:=0::f) (by simp;omega),List.getElem?_eq_none (l:=xs) (by omega)]
   rfl
 obtain⟨e',S',h2,h3,h4⟩:=Xbx (F:=F) (G:=G) (t:=.tup [5,6]) (n:=3) (elt:=Xje) (env:=[some row,some (.int s),some (.ref q),x]) (S:=S) (S1:=S++X) xs (fun i=>.int ((Yi s f).getD i 0))
  (fun i e S'=>S'=S++X/\∃ u v,e=Xza row s q x u v) h1
  (by simp only[Src.most,ha,hb,Option.getD_some,List.length_map];rw[hxl];simp) (X9 (by omega)) ⟨rfl,none,none,rfl⟩
  (fun i e S' hP=>by obtain⟨rfl,_⟩:=hP;exact hget i)
  (fun i d e S' hd hP=>by
   obtain⟨rfl,u,v,rfl⟩:=hP;have hi:i<f.length+1:=by have:=(List.getElem?_eq_some_iff.mp hd).1;omega
   have hd':d=.tup [.int ((f++[0]).getD i 0),.int ((0::f).getD i 0)]:=by
    have:xs[i]?=some (.tup [.int ((f++[0]).getD i 0),.int ((0::f).getD i 0)]):=by simp[xs,hi]
    rw[this] at hd;exact(Option.some.inj hd).symm
   subst hd';refine⟨Xza row s q x (some (.int ((f++[0]).getD i 0))) (some (.int ((0::f).getD i 0))),S++X,rfl,?_,rfl,_,_,rfl⟩;have e1:(Yi s f).getD i 0=(f++[0]).getD i 0+s*(0::f).getD i 0:=by
    have l1:i<(f++[0]).length:=by simp;omega
    have l2:i<(0::f).length:=by simp;omega
    simp only[Yi,List.getD_eq_getElem?_getD,List.getElem?_zipWith];rw[List.getElem?_eq_getElem l1,List.getElem?_eq_getElem l2];rfl
   rw[e1];exact Xy9 rfl rfl rfl (Xbq (by omega) (by omega)))
 have h3':S'=S++X:=h3;subst h3';refine⟨X,?_⟩;rw[h2,hxl];congr 4;refine List.ext_getElem (by simp[hz]) fun i i1 i2=>?_
 have:i<(Yi s f).length:=by simpa using i2
 simp[this]
end
end Z
end
section
namespace Z
open PySem
section
variable{F:Fn}{G:List D}
theorem Xkv(n:Nat):Z.ixN (n+1) (-1)=some n:=by
 unfold Z.ixN;rw[if_neg (by omega),if_pos (by omega)]
 congr 1;omega
theorem Xrs{S:Sto}{q n:Nat}{l:List Int}(h:Xd S q=some (l.map D.int))(hl:l.length=n+1):Xag (.ref q) (.int (-1)) S=.ok (.int (l.getD n 0)) S:=by
 have hn:n<l.length:=by omega
 simp only[Xag,Xaf,Xw,h,Option.bind_some,List.length_map,hl,Xkv];simp[hn]
theorem Xo2{S:Sto}{q n:Nat}{l:List Int}{v:Int}(h:Xd S q=some (l.map D.int))(hl:l.length=n+1):Xap (.ref q) (.int (-1)) (.int v) S=.ok () (S.set q (.lst ((l.set n v).map D.int))):=by
 have h':lstM S q=some (l.map D.int):=h;simp only[Xap,h',List.length_map,hl,Xkv,List.map_set]
theorem Xo3{row:D}{s n:Int}{q:Nat}{S:Sto}{f:List Int}(h:Xd S q=some (f.map D.int))(hl:f.length<=100)(hs:-2<s)(hs':s<2) :
  ∃ X q',exes F G bLT [some row,some (.int s),some (.ref q),some (.int n)] S=.ok (.nx [some row,some (.int s),some (.ref q'),some (.int n)]) (S++X)/\Xd (S++X) q'=some ((stepT s f n).map D.int):=by
 obtain⟨X,hc⟩:=Xvm (F:=F) (G:=G) (row:=row) (s:=s) (q:=q) (x:=some (.int n)) h hl hs hs';obtain⟨S5,e5⟩:∃ S5,S5=S++X++[O.lst ((Yi s f).map D.int)]:=⟨_,rfl⟩;have l5:Xd S5 (S++X).length=some ((Yi s f).map D.int):=by rw[e5];exact Xq
 have i5:=Xrs l5 (Xai s f);have a5:=Xo2 (v:=(Yi s f).getD f.length 0+n) l5 (Xai s f);have e6:S5.set (S++X).length (.lst (((Yi s f).set f.length ((Yi s f).getD f.length 0+n)).map D.int))=S++(X++[.lst ((stepT s f n).map D.int)]):=by
  rw[e5,List.set_append_right _ _ (Nat.le_refl _),Nat.sub_self,List.set_cons_zero,List.append_assoc];rfl
 rw[e6] at a5;refine⟨X++[.lst ((stepT s f n).map D.int)],(S++X).length,?_,?_⟩
 ·unfold bLT
  rw[Xe (e:=[some row,some (.int s),some (.ref (S++X).length),some (.int n)]) (S1:=S5) (by rw[exe,hc,Rk0,e5];rfl)]
  rw[Xe (e:=[some row,some (.int s),some (.ref (S++X).length),some (.int n)]) (S1:=S++(X++[.lst ((stepT s f n).map D.int)])) (by
   simp only[exe,ev,gZ0,gS0,Rk0,i5,Xx,a5])]
  simp only[exes]
 ·rw[<- List.append_assoc];exact Xq
theorem Xvn(s:Int)(l:List Int)(i:Nat)(y:Int)(h:l[i]?=some y):stepT s (tT s (l.take i)) y=tT s (l.take (i+1)):=by
 rw[Xi5,List.take_succ,h];rfl
theorem Xvo{t:Tg}{e0:Ex}{b:Sts}{xs:List D}{r:Nat}{env:En}{S S1:Sto}(P:Nat->En->Sto->Prop)(h1:ev F G e0 env S=.ok (.ref r) S1)(hr:Xd S1 r=some xs)(hk:∀ i e S',P i e S'->Xd S' r=some xs)(h0:P 0 env S1)
  (step:∀ i d e S,xs[i]?=some d->P i e S->∃ e1 e2 S2,Xo t d e=some e1/\exes F G b e1 S=.ok (.nx e2) S2/\P (i+1) e2 S2) :
  ∃ e' S',exe F G (.for t (.val e0) b) env S=.ok (.nx e') S'/\P xs.length e' S':=by
 obtain⟨e',S',a,b'⟩:=Xat (get:=(Src.ref r).get) (t:=t) (body:=fun env S=>exes F G b env S) xs P (fun i e S' hP=>by simp only[Src.get,hk i e S' hP,Option.map_some]) step (xs.length+1) 0 env S1 h0 (Nat.zero_le _) (by omega)
 refine⟨e',S',?_,b'⟩;have hs:Xs S1 (.ref r)=some (.ref r):=by simp only[Xs,hr,Option.map_some]
 simp only[exe,evit,h1,Rk0,hs,Src.most,hr,Option.getD_some];exact a
def PT(row:D)(s:Int)(l:List Int)(S:Sto)(i:Nat)(e:En)(S':Sto):Prop:=∃ X q x,S'=S++X/\e=[some row,some (.int s),some (.ref q),x]/\Xd S' q=some ((tT s (l.take i)).map D.int)
theorem Xvp{row:D}{s:Int}{l:List Int}{S:Sto}(hl:l.length<=100)(hs:-2<s)(hs':s<2):∀ (i:Nat) (d:D) (e:En) (S':Sto),(l.map D.int)[i]?=some d->PT row s l S i e S'->∃ e1 e2 S2,Xo (.var 3) d e=some e1/\exes F G bLT e1 S'=.ok (.nx e2) S2/\PT row s l S (i+1) e2 S2:=by
 intro i d e S' hd hP;obtain⟨X,q,x,rfl,rfl,hq⟩:=hP;rw[List.getElem?_map] at hd;cases hy:l[i]? with
 | none=>rw[hy] at hd;cases hd
 | some y =>
  rw[hy] at hd;have hd':d=.int y:=by simpa using hd.symm
  subst hd';obtain⟨X',q',h1,h2⟩:=Xo3 (F:=F) (G:=G) (row:=row) (s:=s) (n:=y) hq (by rw[Xv,List.length_take];omega) hs hs'
  rw[Xvn s l i y hy] at h2;exact⟨[some row,some (.int s),some (.ref q),some (.int y)],_,_,rfl,h1,X++X',q',some (.int y),by rw[List.append_assoc],rfl,h2⟩
theorem Xvq{row:D}{s:Int}{l:List Int}{S S':Sto}{e:En}(h1:exe F G (.for (.var 3) (.val (.var 0)) bLT) [some row,some (.int s),some (.ref S.length),none] (S++[.lst []])=.ok (.nx e) S')(h2:PT row s l S l.length e S') :
  ∃ X,den F G Xfe [row,.int s] S=.ok (Xa (tT s l)) (S++X):=by
 obtain⟨X,q,x,rfl,rfl,hq⟩:=h2;rw[List.take_length] at hq;refine⟨X,?_⟩;have ht:Xr .tuple [.ref q] (S++X)=.ok (Xa (tT s l)) (S++X):=by simp only[Xr,Xw,hq,Xa]
 simp only[den,Xfe,List.length,if_true,List.map,List.replicate];rw[Xe (e:=[some row,some (.int s),some (.ref S.length),none]) (S1:=S++[.lst []]) (by
  simp only[exe,ev,evs,Rk0,List.length];rfl)]
 rw[Xe h1];rw[Xl (d:=Xa (tT s l)) (S1:=S++X) (by simp only[exe,ev,evs,gZ0,gS0,Rk0,ht])]
theorem Xvr{row:D}{s:Int}{l:List Int}{S:Sto}:PT row s l S 0 [some row,some (.int s),some (.ref S.length),none] (S++[.lst []]):=⟨[.lst []],S.length,none,rfl,rfl,Xq⟩
theorem Xmi{s:Int}{l:List Int}{S:Sto}{r:Nat}(hr:Xd S r=some (l.map D.int))(hl:l.length<=100)(hs:-2<s)(hs':s<2):∃ X,den F G Xfe [.ref r,.int s] S=.ok (Xa (tT s l)) (S++X):=by
 obtain⟨e',S',h1,h2⟩:=Xvo (F:=F) (G:=G) (t:=.var 3) (e0:=.var 0) (b:=bLT) (xs:=l.map D.int) (r:=r) (env:=[some (.ref r),some (.int s),some (.ref S.length),none]) (S:=S++[.lst []]) (PT (.ref r) s l S)
  (by simp only[ev,gZ0]) (Yv hr) (fun i e S' hP=>by obtain⟨X,q,x,rfl,_⟩:=hP;exact Yv hr) Xvr (Xvp hl hs hs')
 rw[List.length_map] at h2;exact Xvq h1 h2
end
end Z
end
section
namespace Z
open PySem
section
variable{F:Fn}{G:List D}
theorem Xo4(i j:Int)(S:Sto):Xi .eq (.int i) (.int j) S=.ok (.bl (i==j)) S:=by
 simp only[Xi,Yy,eqD,Xb6,Yj,X7,PyData.canLay0,PyData.depth,PyData.eqv];rfl
theorem X1b(a b:Bool)(S:Sto):Xi .ne (.bl a) (.bl b) S=.ok (.bl (!(a==b))) S:=by
 cases a<;>cases b<;>rfl
end
end Z
end
section
namespace Z
open PySem
mutual
theorem Xdi{look look':Nat->Option PyData}(h:∀ n p,look n=some p->look' n=some p):∀ (d:D) (p:PyData),X7 look d=some p->X7 look' d=some p
 | .non,p,e=>by simpa only[X7] using e
 | .bl b,p,e=>by simpa only[X7] using e
 | .int i,p,e=>by simpa only[X7] using e
 | .str x,p,e=>by simpa only[X7] using e
 | .tup xs,p,e=>by
  simp only[X7,Option.map_eq_some_iff] at e ⊢;obtain⟨ps,e1,e2⟩:=e;exact⟨ps,datFs_mono h xs ps e1,e2⟩
 | .fro _,p,e=>by simp[X7] at e
 | .fn _ _,p,e=>by simp[X7] at e
 | .ref n,p,e=>by simp only[X7] at e ⊢;exact h n p e
theorem datFs_mono{look look':Nat->Option PyData}(h:∀ n p,look n=some p->look' n=some p):∀ (ds:List D) (ps:List PyData),datFs look ds=some ps->datFs look' ds=some ps
 | [],ps,e=>by simpa only[datFs] using e
 | d::ds,ps,e=>by
  simp only[datFs] at e ⊢;cases e1:X7 look d with
  | none=>rw[e1] at e;cases e
  | some q =>
   cases e2:datFs look ds with
   | none=>rw[e1,e2] at e;cases e
   | some qs =>
    rw[e1,e2] at e;rw[Xdi h d q e1,datFs_mono h ds qs e2];exact e
end
theorem Xb4{S X:Sto}:∀ (k n:Nat) (p:PyData),Y1 S k n=some p->Y1 (S++X) k n=some p
 | 0,n,p,e=>by cases e
 | k+1,n,p,e=>by
  simp only[Y1] at e ⊢;cases q:S[n]? with
  | none=>rw[q] at e;cases e
  | some o =>
   rw[List.getElem?_append_left (List.getElem?_eq_some_iff.mp q).1,q];rw[q] at e;cases o with
   | lst xs =>
    simp only[Option.map_eq_some_iff] at e ⊢;obtain⟨ps,e1,e2⟩:=e;exact⟨ps,datFs_mono (Xb4 k) xs ps e1,e2⟩
   | dct kvs=>cases kvs<;>exact e
   | set _=>cases e
   | exc _=>cases e
structure Shw(S:Sto)(ds:List D)(ps:List PyData):Prop where
 dat:datFs (Y1 S 3) ds=some ps
 shw:PyData.showableAll ps=true
 nod:dctEs ps=true
 dep:(PyData.list ps).depth<=60
 siz:szD (.list ps)<=big
theorem Shw.app{S X:Sto}{ds:List D}{ps:List PyData}(h:Shw S ds ps):Shw (S++X) ds ps:=⟨datFs_mono (Xb4 3) ds ps h.dat,h.shw,h.nod,h.dep,h.siz⟩
theorem Shw.rep{S:Sto}{ds:List D}{ps:List PyData}(h:Shw S ds ps):Xej (S++[.lst ds]) (.ref S.length)=some (PyData.list ps).shown:=by
 have e:Yj (S++[.lst ds]) (.ref S.length)=some (.list ps):=by
  have hd:=(h.app (X:=[.lst ds])).dat;have hg:(S++[O.lst ds])[S.length]?=some (.lst ds):=by rw[List.getElem?_append_right (Nat.le_refl _),Nat.sub_self];rfl
  show Y1 (S++[.lst ds]) 4 S.length=_;rw[Y1,hg];dsimp only;rw[hd,Option.map_some]
 have h1:(PyData.list ps).showable=true:=by simpa only[PyData.showable] using h.shw
 have h2:Xb7 (PyData.list ps)=true:=by simpa only[Xb7] using h.nod
 simp only[Xej,e,h1,h2,decide_eq_true h.dep,decide_eq_true h.siz];rfl
section
variable{F:Fn}{G:List D}
theorem eq_str(t:Str)(S:Sto):Xi .eq (.str t) (.str t) S=.ok (.bl true) S:=by
 simp only[Xi,Yy,eqD,Xb6,beq_self_eq_true]
end
end Z
end
section
namespace Z
open PySem
def Sm(S:Sto)(dep siz:Nat)(d:D):Prop:=∃ p,X7 (Y1 S 3) d=some p/\p.showable=true/\Xb7 p=true/\p.depth<=dep/\szD p<=siz
theorem Sm.mono{S:Sto}{a b a' b':Nat}{d:D}(h:Sm S a b d)(h1:a<=a')(h2:b<=b'):Sm S a' b' d:=by
 obtain⟨p,q1,q2,q3,q4,q5⟩:=h;exact⟨p,q1,q2,q3,Nat.le_trans q4 h1,Nat.le_trans q5 h2⟩
theorem Sm.app{S X:Sto}{a b:Nat}{d:D}(h:Sm S a b d):Sm (S++X) a b d:=by
 obtain⟨p,q1,q⟩:=h;exact⟨p,Xdi (Xb4 3) d p q1,q⟩
theorem Xzb{n:Nat}(h:n<=900000):n<=big:=Nat.le_trans h (by decide)
end Z
end
section
namespace Z
open PySem
def Ext(p:Nat)(S S':Sto):Prop:=∀ n o,n≠p->S[n]?=some o->S'[n]?=some o
section
variable{p:Nat}{S S' S1 S2 X:Sto}
theorem Ext.refl:Ext p S S:=fun _ _ _ h=>h
theorem Ext.trans(a:Ext p S S1)(b:Ext p S1 S2):Ext p S S2:=fun n o h e=>b n o h (a n o h e)
theorem Ext.app:Ext p S (S++X):=fun n o _ e=>by rw[List.getElem?_append_left (List.getElem?_eq_some_iff.mp e).1];exact e
theorem Ext.set{o:O}:Ext p S (S.set p o):=fun n o h e=>by rw[List.getElem?_set_ne (Ne.symm h)];exact e
theorem Xo5{q:Nat}{xs:List D}(h:Xd S q=some xs):S[q]?=some (.lst xs):=by
 unfold Xd at h;split at h
 ·rename_i ys hh;cases h;exact hh
 ·cases h
theorem Xzc{q:Nat}{xs:List D}(h:S[q]?=some (.lst xs)):Xd S q=some xs:=by unfold Xd;rw[h]
theorem Ext.lst{q:Nat}{xs:List D}(x:Ext p S S')(hq:q≠p)(h:Xd S q=some xs):Xd S' q=some xs:=Xzc (x q _ hq (Xo5 h))
end
def FSm(dep siz:Nat)(d:D):Prop:=∃ p,(∀ look,X7 look d=some p)/\p.showable=true/\Xb7 p=true/\p.depth<=dep/\szD p<=siz
theorem FSm.mono{a b a' b':Nat}{d:D}(h:FSm a b d)(h1:a<=a')(h2:b<=b'):FSm a' b' d:=by
 obtain⟨p,q1,q2,q3,q4,q5⟩:=h;exact⟨p,q1,q2,q3,Nat.le_trans q4 h1,Nat.le_trans q5 h2⟩
theorem FSm.good{a b:Nat}{d:D}(h:FSm a b d)(S:Sto):good S d:=by
 obtain⟨p,q1,q⟩:=h;refine Xg8 S d (fun n z=>?_) (fun f m z=>?_)
 ·subst z;have:=q1 (fun _=>none);cases this
 ·subst z;have:=q1 (fun _=>none);cases this
structure Thing(S:Sto)(d:D):Prop where
 sm:Sm S 20 400000 d
 gd:good S d
 el:∀ xs,d=.tup xs->(∀ x∈xs,good S x)/\xs.length<=30
def Kp(p:Nat)(S:Sto)(d:D):Prop:=∀ S',Ext p S S'->Thing S' d
def El(p:Nat)(S:Sto)(d:D):Prop:=∀ S',Ext p S S'->Sm S' 5 30000 d/\good S' d
section
variable{p:Nat}{S S':Sto}{d:D}
theorem Kp.mono(h:Kp p S d)(x:Ext p S S'):Kp p S' d:=fun S2 y=>h S2 (x.trans y)
theorem Kp.now(h:Kp p S d):Thing S d:=h S .refl
theorem El.mono(h:El p S d)(x:Ext p S S'):El p S' d:=fun S2 y=>h S2 (x.trans y)
end
theorem Thing.app{S X:Sto}{d:D}(h:Thing S d):Thing (S++X) d:=⟨h.sm.app,Xi4 h.gd,fun xs z=>⟨fun x hx=>Xi4 ((h.el xs z).1 x hx),(h.el xs z).2⟩⟩
def X2k(l:List Int):Prop:=∀ x∈l,x.natAbs.log2<1920
end Z
end
section
namespace Z
open PySem
theorem Xkw:∀ {xs:List D},xs.all wh=true->∃ l:List Int,xs=l.map D.int
 | [],_=>⟨[],rfl⟩
 | x::xs,h=>by
  simp only[List.all_cons,bA0] at h;obtain⟨l,rfl⟩:=Xkw h.2;cases x with
  | int i=>exact⟨i::l,rfl⟩
  | _=>cases h.1
section
variable{F:Fn}{G:List D}
end
end Z
end
section
namespace Z
open PySem
def Bd(B:Nat)(l:List Int):Prop:=∀ x∈l,x.natAbs<=B
theorem Bd.mono{B C:Nat}{l:List Int}(h:Bd B l)(hc:B<=C):Bd C l:=fun x hx=>Nat.le_trans (h x hx) hc
theorem Xs1{s:Int}(hs:s.natAbs=1){B:Nat}:∀ (r:List Int) (p:Nat),Bd B r->(tG s r p).natAbs<=B*2^r.length
 | [],_,_=>by simp[tG]
 | x::r,0,h=>by
  have h1:x.natAbs<=B:=h x (by simp)
  have h2:1<=2^(r.length+1):=Nat.one_le_two_pow;simp only[tG,List.length_cons];exact Nat.le_trans h1 (by have:=Nat.mul_le_mul_left B h2;omega)
 | x::r,p+1,h=>by
  have h1:x.natAbs<=B:=h x (by simp)
  have ih:=Xs1 hs r p fun y hy=>h y (by simp[hy])
  have hp:(s^(p+1)).natAbs=1:=by rw[Int.natAbs_pow,hs,Nat.one_pow]
  have e:(x*(s^(p+1)*(C r.length (p+1):Int))).natAbs<=B*2^r.length:=by
   rw[Int.natAbs_mul,Int.natAbs_mul,hp,Nat.one_mul,Int.natAbs_natCast];exact Nat.mul_le_mul h1 (Xhw _ _)
  simp only[tG,List.length_cons,Nat.pow_succ];have:=Int.natAbs_add_le (x*(s^(p+1)*(C r.length (p+1):Int))) (tG s r p);have e2:B*(2^r.length*2)=B*2^r.length+B*2^r.length:=by rw[<- Nat.mul_assoc,Nat.mul_two]
  rw[e2];omega
theorem Xs2{s:Int}(hs:s.natAbs=1){B:Nat}{r:List Int}(h:Bd B r):Bd (B*2^r.length) (tT s r):=fun x hx=>by
 obtain⟨p,_,rfl⟩:=List.mem_map.mp hx;exact Xs1 hs r p h
theorem Xvs{B:Nat}{l:List Int}(h:Bd B l)(hB:B<2^1000):X2k l:=fun x hx=>by
 by_cases h0:x.natAbs=0
 ·rw[h0];decide
 ·exact Nat.lt_of_lt_of_le ((Nat.log2_lt h0).mpr (Nat.lt_of_le_of_lt (h x hx) hB)) (by decide)
noncomputable def vsq(v m:Int):Nat->Int
 | 0=>v
 | n+1=>vsq v m n/m
noncomputable def drawn(v far:Int)(n:Nat):List Int:=(List.range n).map fun i=>vsq v (2*far+1) i%(2*far+1)-far
theorem Xrt{v:Int}{m n:Nat}:Bd m (drawn v m n):=fun x hx=>by
 obtain⟨i,_,rfl⟩:=List.mem_map.mp hx;have h1:=Int.emod_nonneg (vsq v (2*m+1) i) (show 2*(m:Int)+1≠0 by omega)
 have h2:=Int.emod_lt_of_pos (vsq v (2*m+1) i) (show 0<2*(m:Int)+1 by omega)
 omega
theorem Xo6(v far:Int)(n:Nat):(drawn v far n).length=n:=by simp[drawn]
section
variable{F:Fn}{G:List D}
theorem Xkx{env:En}{L:Nat}(he:env.length=L)(x:Option D)(d:D):Xo (.var (L+1)) d (env++[none,x])=some (env++[none,some d]):=by
 simp only[Xo];rw[List.set_append_right _ _ (by omega),he,Nat.add_sub_cancel_left]
 rfl
theorem Xd2{env X:En}{i:Nat}{d:D}(h:env[i]?=some (some d)):(env++X)[i]?=some (some d):=by
 rw[List.getElem?_append_left (List.getElem?_eq_some_iff.mp h).1];exact h
theorem Xvt{env:En}{L:Nat}(he:env.length=L)(d:D):(env++[none,some d])[L+1]?=some (some d):=by
 rw[List.getElem?_append_right (by omega),he,Nat.add_sub_cancel_left];rfl
theorem Xru{S:Sto}{p:Nat}{v:Int}(hp:Xd S p=some [.int v]):S.set p (.lst [.int v])=S:=by
 obtain⟨hlt,hv⟩:=List.getElem?_eq_some_iff.mp (Xo5 hp);rw[<- hv];exact List.set_getElem_self hlt
theorem Xvu{p L:Nat}{env:En}{elt:Ex}{cnt:Exs}{far v:Int}{n:Nat}{S:Sto}(he:env.length=L)(hcnt:evs F G cnt env S=.ok [.int n] S)(hp:Xd S p=some [.int v])(hn:n<=100)
  (helt:∀ (d:D) (S:Sto) (v:Int),Xd S p=some [.int v]->ev F G elt (env++[none,some d]) S=.ok (.int (v%(2*far+1)-far)) (S.set p (.lst [.int (v/(2*far+1))]))) :
  ∃ v',ev F G (.blt .tuple (.cons (.cmr false 2 (.cons (.var (L+1)) (.rng cnt) .nil .nil) elt) .nil)) env S=.ok (Xa (drawn v far n)) (S.set p (.lst [.int v'])++[.lst ((drawn v far n).map D.int)]):=by
 obtain⟨xs,hx,hxl⟩:=Xah (m:=(n:Int)) (by omega) (Xde (by omega))
 have hxl':xs.length=n:=by omega
 have hpl:=Xbf hp;obtain⟨e',S',q2,⟨q3,q4⟩⟩:=Xbx (F:=F) (G:=G) (t:=.var (L+1)) (n:=2) (elt:=elt) (env:=env) (S:=S) (S1:=S) xs (fun i=>D.int (vsq v (2*far+1) i%(2*far+1)-far))
  (fun i e S'=>S'=S.set p (.lst [.int (vsq v (2*far+1) i)])/\∃ x,e=env++[none,x])
  (Xe9 hcnt hx) rfl (X9 (by omega)) ⟨(Xru hp).symm,none,rfl⟩ (fun _ _ _ _=>rfl)
  (fun i d e S' hd' hP=>by
   obtain⟨rfl,x,rfl⟩:=hP;refine⟨env++[none,some d],_,Xkx he x d,helt d _ _ (Xa9 hpl),?_,some d,rfl⟩;rw[List.set_set];rfl)
 refine⟨vsq v (2*far+1) xs.length,?_⟩;have q3':S'=S.set p (.lst [.int (vsq v (2*far+1) xs.length)]):=q3;rw[hxl'] at q2;have e1:((List.range n).map fun i=>D.int (vsq v (2*far+1) i%(2*far+1)-far))=(drawn v far n).map D.int:=by simp[drawn]
 rw[e1] at q2;simp only[ev,evs] at q2 ⊢;rw[q2,q3'];simp only[Rk0,Xr,Xw,Xq,Xa]
noncomputable def Xjf:Ex:=.idx (.var 4) (.blt .min (.cons (.var 8) (.cons (.bin .sub (.var 2) (.var 8)) .nil)))
noncomputable def pal(w:Nat)(l:List Int):List Int:=(List.range (w+1)).map fun i=>l.getD (min i (w-i)) 0
theorem Xck(w:Nat)(l:List Int):(pal w l).length=w+1:=by simp[pal]
theorem Xzd{w B:Nat}{l:List Int}(h:Bd B l):Bd B (pal w l):=fun x hx=>by
 obtain⟨i,_,rfl⟩:=List.mem_map.mp hx;rw[List.getD_eq_getElem?_getD];cases e:l[min i (w-i)]? with
 | none=>exact Nat.zero_le _
 | some y=>exact h y (List.mem_of_getElem? e)
theorem Xze{env:En}{w:Nat}{l:List Int}{S:Sto}(he:env.length=7)(h2:env[2]?=some (some (.int w)))(h4:env[4]?=some (some (Xa l)))(hw:w<=50)(hl:l.length=w+1) :
  ev F G (.cmr false 2 (.cons (.var 8) (.rng (.cons (.bin .add (.var 2) (.cst (.int 1))) .nil)) .nil .nil) Xjf) env S=.ok (.ref S.length) (S++[.lst ((pal w l).map D.int)]):=by
 obtain⟨xs,hx,hxl⟩:=Xah (m:=(w:Int)+1) (by omega) (Xde (by omega))
 have hxl':xs.length=w+1:=by omega
 obtain⟨e',S',q2,⟨q3,q4⟩⟩:=Xbx (F:=F) (G:=G) (t:=.var 8) (n:=2) (elt:=Xjf) (env:=env) (S:=S) (S1:=S) xs (fun i=>D.int (l.getD (min i (w-i)) 0))
  (fun i e S'=>S'=S/\∃ x,e=env++[none,x])
  (Xe9 (es:=.cons (.bin .add (.var 2) (.cst (.int 1))) .nil) (ds:=[.int ((w:Int)+1)]) (by simp only[evs,ev,h2,Rk0,Xx]) hx) rfl (X9 (by omega)) ⟨rfl,none,rfl⟩ (fun _ _ _ _=>rfl)
  (fun i d e S' hd' hP=>by
   obtain⟨rfl,x,rfl⟩:=hP;obtain⟨rfl,hi⟩:=Xa8 hx hd';refine⟨env++[none,some (.int i)],S',Xkx he x _,?_,rfl,_,rfl⟩;have hm:Xr .min [.int i,.int ((w:Int)-i)] S'=.ok (.int ((min i (w-i):Nat):Int)) S':=by
    have e:(if (w:Int)-i<i then (w:Int)-i else (i:Int))=((min i (w-i):Nat):Int):=by split<;>omega
    rw[<- e];rfl
   have hix:=Xgf l (min i (w-i)) S' (by omega)
   have h8:(env++[none,some (D.int i)])[8]?=some (some (.int i)):=Xvt he _;simp only[Xjf,ev,evs,Xd2 h4,Xd2 h2,h8,Rk0,Yb,hm,Xa];exact hix)
 have q3':S'=S:=q3;rw[hxl',q3'] at q2;have e1:((List.range (w+1)).map fun i=>D.int (l.getD (min i (w-i)) 0))=(pal w l).map D.int:=by simp[pal]
 rw[e1] at q2;exact q2
end
end Z
end
section
namespace Z
open PySem
section
variable{F:Fn}{G:List D}
theorem Xad{e:Ex}{i:Nat}{env:En}{S S':Sto}{d:D}(h:ev F G e env S=.ok d S'):exe F G (.asg (.var i) e) env S=.ok (.nx (env.set i (some d))) S':=by
 simp only[exe,h,Rk0,Xo]
theorem Xhd(a:List Int)(n:Nat)(S:Sto):Xaa (Xa a) (some (n:Int)) none S=.ok (Xa (a.drop n)) S:=by
 have c:cut (a.map D.int) (some (n:Int)) none=(a.map D.int).drop n:=by
  unfold cut Xeh;simp only;rw[if_pos (by omega)]
  simp only[Int.toNat_natCast]
  by_cases h:n<=(a.map D.int).length
  ·rw[Nat.min_eq_left h,List.take_of_length_le (by rw[List.length_drop];omega)]
  ·rw[Nat.min_eq_right (by omega),List.drop_of_length_le (by omega),List.drop_of_length_le (by omega)];simp
 unfold Xa;simp only[Xaa,c,List.map_drop]
theorem Xvv{e:Ex}{d:D}{env:En}{S:Sto}(h:ev F G e env S=.ok d S):ev F G (.tup (.cons e .nil)) env S=.ok (.tup [d]) S:=by
 simp only[ev,evs,h,Rk0];exact if_pos (X9 (by simp))
theorem Xjg(x y:List D)(S:Sto)(h:x.length+y.length<=1000):Xm .add (.tup x) (.tup y) S=.ok (.tup (x++y)) S:=by
 simp only[Xm];exact if_pos (X9 h)
theorem Xzf{ir ia:Nat}{e eb:Ex}{env:En}{l:List Int}{a b:Nat}{od:D}{S:Sto}(hr:env[ir]?=some (some (Xa l)))(ha:env[ia]?=some (some (.int a)))(he:ev F G e env S=.ok od S)(hb:ev F G eb env S=.ok (.int b) S)(hl:l.length<=100) :
  ev F G (.bin .add (.bin .add (.sli (.var ir) .none (.some (.var ia))) (.tup (.cons e .nil))) (.sli (.var ir) (.some eb) .none)) env S=.ok (.tup ((l.take a).map D.int++[od]++(l.drop b).map D.int)) S:=by
 have h1:ev F G (.sli (.var ir) .none (.some (.var ia))) env S=.ok (Xa (l.take a)) S:=by
  simp only[ev,evo,hr,ha,Rk0,Xam,Xba]
 have h2:=Xvv he;have h3:ev F G (.sli (.var ir) (.some eb) .none) env S=.ok (Xa (l.drop b)) S:=by
  simp only[ev,evo,hr,hb,Rk0,Xam];exact Xhd l b S
 have h4:=Xjg ((l.take a).map D.int) [od] S (by simp;omega)
 have h5:=Xjg ((l.take a).map D.int++[od]) ((l.drop b).map D.int) S (by simp;omega)
 have h4':Xm .add (Xa (l.take a)) (.tup [od]) S=_:=h4;have h5':Xm .add (.tup ((l.take a).map D.int++[od])) (Xa (l.drop b)) S=_:=h5;rw[ev,ev,h1,Rk0,h2,Rk0,h4',Rk0,h3,Rk0,h5']
noncomputable def Xgl(it:Nat):Ex:=.bin .sub (.call it (.cons (.var 0) (.cons (.bin .add (.bin .mul (.cst (.int 2)) (.var 3)) (.cst (.int 1))) .nil))) (.var 3)
theorem Xvw{it p:Nat}(hF:Xe8 F it){env:En}{far v:Int}{S:Sto}(h0:env[0]?=some (some (.ref p)))(h3:env[3]?=some (some (.int far)))(hp:Xd S p=some [.int v])(hpos:0<2*far+1)(hd:Yq (2*far+1)=true) :
  ev F G (Xgl it) env S=.ok (.int (v%(2*far+1)-far)) (S.set p (.lst [.int (v/(2*far+1))])):=by
 have hm:Xy 2 far=true:=Xbq (by omega) (by omega)
 have ht:=hF p v (2*far+1) S hp hpos hd;simp only[Xgl,ev,evs,h0,h3,Rk0,Yu hm,Xx,ht,Yb]
noncomputable def Xs3:Ex:=.bin .add (.bin .add (.sli (.var 4) .none (.some (.var 5))) (.tup (.cons (.bin .add (.idx (.var 4) (.var 5)) (.var 6)) .nil))) (.sli (.var 4) (.some (.bin .add (.var 5) (.cst (.int 1)))) .none)
noncomputable def tk(it:Nat)(e:Ex):Ex:=.call it (.cons (.var 0) (.cons e .nil))
noncomputable def Xdj:Exs:=.cons (.bin .add (.var 2) (.cst (.int 1))) .nil
noncomputable def Xhx:Sts:=.cons (.ite (.cmp .eq (.var 1) (.cst (.int 1))) (.cons (.asg (.var 4) Xs3) .nil) .nil) (.cons (.ret (.var 4)) .nil)
noncomputable def Xd3(lt:Nat):Sts:=.cons (.ite (.cmp .eq (.var 1) (.cst (.int 0))) (.cons (.ret (.var 4)) .nil) .nil)
  (.cons (.asg (.var 4) (.call lt (.cons (.cmr false 2 (.cons (.var 8) (.rng Xdj) .nil .nil) Xjf) (.cons (.cst (.int 1)) .nil)))) Xhx)
noncomputable def Xmj(it lt:Nat)(fars:Exs):Df:=⟨1,7,.cons (.asg (.var 1) (tk it (.cst (.int 4)))) (.cons (.asg (.var 2) (tk it (.cst (.int 12)))) (.cons (.asg (.var 3) (.idx (.lst fars) (tk it (.cst (.int 4)))))
  (.cons (.par [5,6] (.cons (tk it (.bin .add (.var 2) (.cst (.int 1)))) (.cons (.bin .sub (.bin .mul (.cst (.int 2)) (tk it (.cst (.int 2)))) (.cst (.int 1))) .nil)))
  (.cons (.asg (.var 4) (.blt .tuple (.cons (.cmr false 2 (.cons (.var 8) (.rng Xdj) .nil .nil) (Xgl it)) .nil))) (Xd3 lt)))))⟩
def Xs4(d:D):Prop:=∃ m:Nat,d=.int m/\m<2^200/\Yq (2*(m:Int)+1)=true
theorem Xvx{B a:Nat}{l:List Int}{t:Int}(h:Bd B l)(ht:t.natAbs<=1):Bd (B+1) (l.take a++[l.getD a 0+t]++l.drop (a+1)):=fun x hx=>by
 simp only[List.mem_append,List.mem_singleton] at hx;rcases hx with(hx|rfl)|hx
 ·have:=h x (List.mem_of_mem_take hx);omega
 ·have e:(l.getD a 0).natAbs<=B:=by
   rw[List.getD_eq_getElem?_getD];cases e:l[a]? with
   | none=>exact Nat.zero_le _
   | some y=>exact h y (List.mem_of_getElem? e)
  have:=Int.natAbs_add_le (l.getD a 0) t;omega
 ·have:=h x (List.mem_of_mem_drop hx);omega
theorem Xrv{p w a:Nat}{way far t:Int}{l:List Int}{S:Sto}(hl:l.length=w+1)(hw:w<=11)(ha:a<=w):∃ l',(l'=l\/l'=l.take a++[l.getD a 0+t]++l.drop (a+1)) /\
  exes F G Xhx [some (.ref p),some (.int way),some (.int w),some (.int far),some (Xa l),some (.int a),some (.int t)] S=.ok (.rt (Xa l')) S:=by
 have hc:ev F G (.cmp .eq (.var 1) (.cst (.int 1))) [some (.ref p),some (.int way),some (.int w),some (.int far),some (Xa l),some (.int a),some (.int t)] S=.ok (.bl (way==1)) S:=by
  simp only[ev,gZ0,gS0,Rk0,Xo4]
 cases hb:way==1 with
 | false =>
  rw[hb] at hc;refine⟨l,.inl rfl,?_⟩;unfold Xhx;rw[Xe (Yw hc)];rw[Xl (d:=Xa l) (S1:=S) (by simp only[exe,ev,gZ0,gS0,Rk0])]
 | true =>
  rw[hb] at hc;refine⟨_,.inr rfl,?_⟩;have hi:=Xgf l a S (by omega)
  have hm:=Xzf (F:=F) (G:=G) (ir:=4) (ia:=5) (e:=.bin .add (.idx (.var 4) (.var 5)) (.var 6)) (eb:=.bin .add (.var 5) (.cst (.int 1))) (env:=[some (.ref p),some (.int way),some (.int w),some (.int far),some (Xa l),some (.int a),some (.int t)]) (l:=l) (a:=a) (b:=a+1) (od:=.int (l.getD a 0+t)) (S:=S) rfl rfl
   (by simp only[ev,gZ0,gS0,Rk0,Xa];rw[hi,Rk0,Xx]) (by simp only[ev,gZ0,gS0,Rk0,Xx];rfl) (by omega)
  have hs:=Xad (i:=4) hm;unfold Xhx;rw[Xe (e:=[some (.ref p),some (.int way),some (.int w),some (.int far),some (Xa (l.take a++[l.getD a 0+t]++l.drop (a+1))),some (.int a),some (.int t)]) (S1:=S) (by
   rw[exe,hc,Rk0];simp only[Xj];rw[Xs3,Xe hs,exes];simp only[List.set,Xa,List.map_append,List.map_cons,List.map_nil])]
  rw[Xl (d:=Xa (l.take a++[l.getD a 0+t]++l.drop (a+1))) (S1:=S) (by simp only[exe,ev,gZ0,gS0,Rk0])]
theorem Xrw{l:List Int}{a w:Nat}{y:Int}(hl:l.length=w+1)(ha:a<=w):(l.take a++[y]++l.drop (a+1)).length=w+1:=by simp;omega
theorem Xrx{lt p w a:Nat}{way far t:Int}{l:List Int}{S:Sto}(hT:∀ (l:List Int) (r:Nat) (S:Sto),Xd S r=some (l.map D.int)->l.length<=100->∃ X,F lt [.ref r,.int 1] S=.ok (Xa (tT 1 l)) (S++X))(hl:l.length=w+1)(hw:w<=11)(ha:a<=w)(hb:Bd (2^200) l)(ht:t.natAbs<=1) :
  ∃ l' X,l'.length=w+1/\Bd (2^300) l'/\exes F G (Xd3 lt) [some (.ref p),some (.int way),some (.int w),some (.int far),some (Xa l),some (.int a),some (.int t)] S=.ok (.rt (Xa l')) (S++X):=by
 have hc:ev F G (.cmp .eq (.var 1) (.cst (.int 0))) [some (.ref p),some (.int way),some (.int w),some (.int far),some (Xa l),some (.int a),some (.int t)] S=.ok (.bl (way==0)) S:=by
  simp only[ev,gZ0,gS0,Rk0,Xo4]
 cases hq:way==0 with
 | true =>
  rw[hq] at hc;refine⟨l,[],hl,hb.mono (by decide+kernel),?_⟩
  unfold Xd3;rw[Xl (d:=Xa l) (S1:=S) (by
   rw[exe,hc,Rk0];simp only[Xj,exes,exe,ev,gZ0,gS0,Rk0]),List.append_nil]
 | false =>
  rw[hq] at hc;have hp:=Xze (F:=F) (G:=G) (env:=[some (.ref p),some (.int way),some (.int w),some (.int far),some (Xa l),some (.int a),some (.int t)]) (S:=S) rfl rfl rfl (by omega) hl
  obtain⟨X,hX⟩:=hT (pal w l) S.length (S++[.lst ((pal w l).map D.int)]) Xq (by rw[Xck];omega)
  have hs:=Xad (i:=4) (F:=F) (G:=G) (e:=.call lt (.cons (.cmr false 2 (.cons (.var 8) (.rng Xdj) .nil .nil) Xjf) (.cons (.cst (.int 1)) .nil))) (env:=[some (.ref p),some (.int way),some (.int w),some (.int far),some (Xa l),some (.int a),some (.int t)]) (S:=S) (d:=Xa (tT 1 (pal w l))) (S':=S++[.lst ((pal w l).map D.int)]++X) (by
   rw[ev,evs,Xdj,hp,Rk0,evs,ev,Rk0,evs,Rk0,Rk0,Rk0,hX])
  have b1:Bd (2^200*2^(w+1)) (tT 1 (pal w l)):=by
   have:=Xs2 (s:=1) rfl (Xzd (w:=w) hb)
   rwa [Xck] at this
  have b2:Bd (2^212) (tT 1 (pal w l)):=b1.mono (by
   rw[<- Nat.pow_add];exact Nat.pow_le_pow_right (by decide) (by omega))
  obtain⟨l',h1,h2⟩:=Xrv (F:=F) (G:=G) (p:=p) (way:=way) (far:=far) (t:=t) (l:=tT 1 (pal w l)) (S:=S++[.lst ((pal w l).map D.int)]++X) (by rw[Xv,Xck]) hw ha
  refine⟨l',[.lst ((pal w l).map D.int)]++X,?_,?_,?_⟩
  ·rcases h1 with rfl|rfl
   ·rw[Xv,Xck]
   ·exact Xrw (by rw[Xv,Xck]) ha
  ·rcases h1 with rfl|rfl
   ·exact b2.mono (by decide+kernel)
   ·exact(Xvx b2 ht).mono (by decide+kernel)
  ·unfold Xd3
   rw[Xe (Yw hc),Xe hs,<- List.append_assoc];exact h2
theorem d12:Yq 12=true:=by decide+kernel
theorem d4:Yq 4=true:=by decide+kernel
theorem d2:Yq 2=true:=by decide+kernel
theorem dw{w:Nat}(h:w<=20):Yq ((w:Int)+1)=true:=by
 have:∀ j:Fin 21,Yq (((j.val:Int))+1)=true:=by decide+kernel
 exact this ⟨w,by omega⟩
theorem Xry{it lt:Nat}{fars:Exs}{ds:List D}(hF:Xe8 F it)(hT:∀ (l:List Int) (r:Nat) (S:Sto),Xd S r=some (l.map D.int)->l.length<=100->∃ X,F lt [.ref r,.int 1] S=.ok (Xa (tT 1 l)) (S++X))
  (hfar:∀ env S,evs F G fars env S=.ok ds S) (hds:ds.length=4) (hok:∀ d∈ds,Xs4 d) {p:Nat} {v:Int} {S:Sto} (hp:Xd S p=some [.int v]) :
  ∃ l S' v',den F G (Xmj it lt fars) [.ref p] S=.ok (Xa l) S'/\Ext p S S'/\Xd S' p=some [.int v']/\1<=l.length/\l.length<=12/\Bd (2^300) l:=by
 have t1:=hF p v 4 S hp (by decide) d4
 have s1:=Xad (i:=1) (F:=F) (G:=G) (e:=tk it (.cst (.int 4))) (env:=[some (.ref p),none,none,none,none,none,none]) (S:=S) (d:=.int (v%4)) (S':=S.set p (.lst [.int (v/4)])) (by
  simp only[tk,ev,evs,gZ0,Rk0,t1])
 have p1:Xd (S.set p (.lst [.int (v/4)])) p=some [.int (v/4)]:=Xa9 (Xbf hp);have x1:Ext p S (S.set p (.lst [.int (v/4)])):=.set;generalize S.set p (.lst [.int (v/4)])=S1 at s1 p1 x1;generalize v/4=v1 at p1;generalize v%4=way at s1;have t2:=hF p v1 12 S1 p1 (by decide) d12
 have r0:=Int.emod_nonneg v1 (show(12:Int)≠0 by decide)
 have r1:=Int.emod_lt_of_pos v1 (show(0:Int)<12 by decide)
 obtain⟨w,hw⟩:∃ w:Nat,v1%12=(w:Int):=⟨(v1%12).toNat,by omega⟩
 have hw11:w<=11:=by omega
 rw[hw] at t2;have s2:=Xad (i:=2) (F:=F) (G:=G) (e:=tk it (.cst (.int 12))) (env:=[some (.ref p),some (.int way),none,none,none,none,none]) (S:=S1) (d:=.int w) (S':=S1.set p (.lst [.int (v1/12)])) (by
  simp only[tk,ev,evs,gZ0,Rk0,t2])
 have p2:Xd (S1.set p (.lst [.int (v1/12)])) p=some [.int (v1/12)]:=Xa9 (Xbf p1);have x2:Ext p S (S1.set p (.lst [.int (v1/12)])):=x1.trans .set;generalize S1.set p (.lst [.int (v1/12)])=S2 at s2 p2 x2;generalize v1/12=v2 at p2;obtain⟨d3,m3,e3⟩:=X2h (G:=G) hF (q:=0) (c:=4) (p:=p) (v:=v2) (env:=[some (.ref p),some (.int way),some (.int w),none,none,none,none]) (hfar _ S2) (by rw[hds];rfl) (by decide) (X9 (by omega)) d4 rfl p2
 have p3:=Xoi (ds:=ds) (c:=4) p2;obtain⟨m,rfl,hm,hdm⟩:=hok d3 m3;have s3:=Xad (i:=3) e3;have x3:Ext p S ((S2++[O.lst ds]).set p (.lst [.int (v2/4)])):=x2.trans (Ext.app.trans .set);generalize (S2++[O.lst ds]).set p (.lst [.int (v2/4)])=S3 at s3 p3 x3;generalize v2/4=v3 at p3;have t4:=hF p v3 ((w:Int)+1) S3 p3 (by omega) (dw (by omega))
 have a0:=Int.emod_nonneg v3 (show((w:Int)+1)≠0 by omega)
 have a1:=Int.emod_lt_of_pos v3 (show(0:Int)<((w:Int)+1) by omega)
 obtain⟨a,ha⟩:∃ a:Nat,v3%((w:Int)+1)=(a:Int):=⟨(v3%((w:Int)+1)).toNat,by omega⟩
 have haw:a<=w:=by omega
 rw[ha] at t4;have p4:Xd (S3.set p (.lst [.int (v3/((w:Int)+1))])) p=some [.int (v3/((w:Int)+1))]:=Xa9 (Xbf p3);have x4:Ext p S (S3.set p (.lst [.int (v3/((w:Int)+1))])):=x3.trans .set;generalize S3.set p (.lst [.int (v3/((w:Int)+1))])=S4 at t4 p4 x4;generalize v3/((w:Int)+1)=v4 at p4;have t5:=hF p v4 2 S4 p4 (by decide) d2
 have b0:=Int.emod_nonneg v4 (show(2:Int)≠0 by decide)
 have b1:=Int.emod_lt_of_pos v4 (show(0:Int)<2 by decide)
 have p5:Xd (S4.set p (.lst [.int (v4/2)])) p=some [.int (v4/2)]:=Xa9 (Xbf p4);have x5:Ext p S (S4.set p (.lst [.int (v4/2)])):=x4.trans .set;have hmul:Xy 2 (v4%2)=true:=Xbq (by decide) (by decide)
 have s4:exe F G (.par [5,6] (.cons (tk it (.bin .add (.var 2) (.cst (.int 1)))) (.cons (.bin .sub (.bin .mul (.cst (.int 2)) (tk it (.cst (.int 2)))) (.cst (.int 1))) .nil))) [some (.ref p),some (.int way),some (.int w),some (.int m),none,none,none] S3=.ok (.nx [some (.ref p),some (.int way),some (.int w),some (.int m),none,some (.int a),some (.int (2*(v4%2)-1))]) (S4.set p (.lst [.int (v4/2)])):=by
  simp only[exe,tk,evs,ev,gZ0,gS0,Rk0,Xx,t4,t5,Yu hmul,Yb];rfl
 have ht:(2*(v4%2)-1).natAbs<=1:=by omega
 generalize 2*(v4%2)-1=t at s4 ht;generalize S4.set p (.lst [.int (v4/2)])=S5 at s4 p5 x5;generalize v4/2=v5 at p5;obtain⟨v6,e6⟩:=Xvu (F:=F) (G:=G) (p:=p) (L:=7) (env:=[some (.ref p),some (.int way),some (.int w),some (.int m),none,some (.int a),some (.int t)]) (elt:=Xgl it) (cnt:=Xdj) (far:=m) (v:=v5) (n:=w+1) (S:=S5) rfl (by simp only[Xdj,evs,ev,gZ0,gS0,Rk0,Xx];rfl) p5 (by omega)
  (fun d S v hv=>Xvw hF (Xd2 rfl) (Xd2 rfl) hv (by omega) hdm)
 have s6:=Xad (i:=4) e6;have x6:Ext p S (S5.set p (.lst [.int v6])++[.lst ((drawn v5 m (w+1)).map D.int)]):=x5.trans (Ext.set.trans .app);have p6:Xd (S5.set p (.lst [.int v6])++[.lst ((drawn v5 m (w+1)).map D.int)]) p=some [.int v6]:=Yv (Xa9 (Xbf p5));generalize S5.set p (.lst [.int v6])++[.lst ((drawn v5 m (w+1)).map D.int)]=S6 at s6 p6 x6;obtain⟨l',X,q1,q2,q3⟩:=Xrx (F:=F) (G:=G) (p:=p) (way:=way) (far:=m) (t:=t) (S:=S6) hT (Xo6 v5 m (w+1)) hw11 haw ((Xrt (v:=v5) (m:=m) (n:=w+1)).mono (by omega)) ht
 refine⟨l',S6++X,v6,?_,x6.trans .app,Yv p6,by omega,by omega,q2⟩
 simp only[den,Xmj,List.length,if_true,List.map,List.replicate];have q:=(Xe (ss:=.cons (.asg (.var 2) (tk it (.cst (.int 12)))) (.cons (.asg (.var 3) (.idx (.lst fars) (tk it (.cst (.int 4)))))
  (.cons (.par [5,6] (.cons (tk it (.bin .add (.var 2) (.cst (.int 1)))) (.cons (.bin .sub (.bin .mul (.cst (.int 2)) (tk it (.cst (.int 2)))) (.cst (.int 1))) .nil)))
  (.cons (.asg (.var 4) (.blt .tuple (.cons (.cmr false 2 (.cons (.var 8) (.rng Xdj) .nil .nil) (Xgl it)) .nil))) (Xd3 lt))))) s1).trans ((Xe s2).trans ((Xe s3).trans ((Xe s4).trans ((Xe s6).trans q3))))
 have q':exes F G (.cons (.asg (.var 1) (tk it (.cst (.int 4)))) (.cons (.asg (.var 2) (tk it (.cst (.int 12)))) (.cons (.asg (.var 3) (.idx (.lst fars) (tk it (.cst (.int 4)))))
  (.cons (.par [5,6] (.cons (tk it (.bin .add (.var 2) (.cst (.int 1)))) (.cons (.bin .sub (.bin .mul (.cst (.int 2)) (tk it (.cst (.int 2)))) (.cst (.int 1))) .nil)))
  (.cons (.asg (.var 4) (.blt .tuple (.cons (.cmr false 2 (.cons (.var 8) (.rng Xdj) .nil .nil) (Xgl it)) .nil))) (Xd3 lt)))))) ([some (.ref p)]++[none,none,none,none,none,none]) S=.ok (.rt (Xa l')) (S6++X):=q
 rw[q']
end
end Z
end
section
namespace Z
open PySem
section
variable{F:Fn}{G:List D}
end
end Z
end
section
namespace Z
open PySem
section
variable{F:Fn}{G:List D}
end
theorem Xjh{S:Sto}:∀ (k n:Nat) (p:PyData),Y1 S k n=some p->Y1 S (k+1) n=some p
 | 0,n,p,e=>by cases e
 | k+1,n,p,e=>by
  rw[Y1] at e ⊢;cases q:S[n]? with
  | none=>rw[q] at e;cases e
  | some o =>
   rw[q] at e;cases o with
   | lst xs =>
    simp only[Option.map_eq_some_iff] at e ⊢;obtain⟨ps,e1,e2⟩:=e;exact⟨ps,datFs_mono (Xjh k) xs ps e1,e2⟩
   | dct kvs=>cases kvs<;>exact e
   | set _=>cases e
   | exc _=>cases e
theorem Sm.rep{S:Sto}{d:D}(h:Sm S 20 400000 d):∃ t,∀ Y,Xej (S++Y) d=some t:=by
 obtain⟨p,q1,q2,q3,q4,q5⟩:=h;refine⟨p.shown,fun Y=>?_⟩
 have e:Yj (S++Y) d=some p:=Xdi (fun n q z=>Xjh 3 n q (Xb4 3 n q z)) d p q1
 have c1:p.depth<=60:=by omega
 have c2:szD p<=big:=Xzb (by omega)
 simp only[Xej,e,q2,q3,decide_eq_true c1,decide_eq_true c2,Bool.and_self,if_true]
end Z
end
section
namespace Z
def X2l(n k m:Nat):Prop:=k<=m/\C m k<=n/\n<C (m+1) k
def Wr:Nat->Nat->List Int->Prop
 | 0,n,l=>n=0/\l=[]
 | k+1,n,l=>(n=0/\l=[])\/∃ (m:Nat) (r:List Int),l=(m:Int)::r/\0<n/\X2l n (k+1) m/\Wr k (n-C m (k+1)) r
theorem Wr.nil{k n:Nat}(h:Wr k n []):n=0:=by
 cases k with
 | zero=>exact h.1
 | succ k=>rcases h with h|⟨m,r,e,_⟩;exact h.1;cases e
theorem Wr.zero{k:Nat}{l:List Int}(h:Wr k 0 l):l=[]:=by
 cases k with
 | zero=>exact h.2
 | succ k=>rcases h with h|⟨m,r,e,h,_⟩;exact h.2;omega
end Z
end
section
namespace Z
open PySem
section
variable{F:Fn}{G:List D}
def X1c(F:Fn)(iw:Nat):Prop:=∀ (n m:Nat) (S:Sto),n<=10000000000000->m<=12->F iw [.int n,.int m] S=.ok (.int (C n m)) S
end
end Z
end
section
set_option exponentiation.threshold 3000
namespace Z
open PySem
section
variable{F:Fn}{G:List D}
def LWaysF(F:Fn)(il:Nat):Prop:=∀ (n m:Nat) (S:Sto),n<2^300->m<=12->F il [.int n,.int m] S=.ok (.int (C n m)) S
end
end Z
end
section
set_option exponentiation.threshold 3000
namespace Z
open PySem
section
variable{F:Fn}{G:List D}
theorem Xo7{l:List Int}{S:Sto}{i:Nat}:(Src.enm (.con (l.map D.int))).get S i=some ((l[i]?).map fun x=>D.tup [.int i,.int x]):=by
 simp only[Src.get,List.getElem?_map];cases l[i]?<;>rfl
end
end Z
end
section
set_option exponentiation.threshold 3000
namespace Z
open PySem
section
variable{F:Fn}{G:List D}
theorem Xji{d:D}(h:wt d=true):∃ l,d=Xa l:=by
 cases d with
 | tup xs=>obtain⟨l,rfl⟩:=Xkw h;exact⟨l,rfl⟩
 | _=>cases h
end
end Z
end
section
set_option exponentiation.threshold 3000
namespace Z
open PySem
theorem Xhe:∀ l w:List Int,PyData.eqvAll (l.map PyData.int) (w.map PyData.int)=decide (l=w)
 | [],[]=>by simp[PyData.eqvAll]
 | [],_::_=>by simp[PyData.eqvAll]
 | _::_,[]=>by simp[PyData.eqvAll]
 | x::l,y::w=>by
  have ih:=Xhe l w;simp only[List.map,PyData.eqvAll,PyData.eqv,ih]
  by_cases e:x=y
  ·subst e;simp
  ·simp[e]
theorem Xzg(look:Nat->Option PyData):∀ l:List Int,datFs look (l.map D.int)=some (l.map PyData.int)
 | []=>by simp only[List.map,datFs]
 | x::l=>by simp only[List.map,datFs,X7,Xzg look l]
theorem Xzh:∀ l:List Int,PyData.canLayAll0 (l.map PyData.int)=true
 | []=>by simp only[List.map,PyData.canLayAll0]
 | x::l=>by simp only[List.map,PyData.canLayAll0,PyData.canLay0,Xzh l,Bool.and_self]
theorem Xzi:∀ l:List Int,PyData.depthAll (l.map PyData.int)=0
 | []=>by simp only[List.map,PyData.depthAll]
 | x::l=>by simp only[List.map,PyData.depthAll,PyData.depth,Xzi l,Nat.max_self]
theorem Xky(l w:List Int)(S:Sto):Xi .eq (Xa l) (Xa w) S=.ok (.bl (decide (l=w))) S:=by
 have hd:∀ l:List Int,Yj S (Xa l)=some (.tuple (l.map PyData.int)):=fun l=>by simp only[Yj,Xa,X7,Xzg,Option.map_some]
 have h1:∀ l:List Int,(PyData.tuple (l.map PyData.int)).canLay0=true:=fun l=>by simp only[PyData.canLay0,Xzh]
 have h2:(PyData.tuple (l.map PyData.int)).depth<=60:=by simp only[PyData.depth,Xzi];omega
 have h3:PyData.eqv (.tuple (l.map PyData.int)) (.tuple (w.map PyData.int))=decide (l=w):=by simp only[PyData.eqv,Xhe]
 have hs:Xb6 (Xa l) (Xa w)=none:=rfl;have key:eqD S (Xa l) (Xa w)=some (decide (l=w)):=by
  simp only[eqD,hs,hd,h1,h3,decide_eq_true h2,Bool.and_self,if_true]
 simp only[Xi,Yy,key]
theorem Xgm(l w:List Int)(S:Sto):Xi .ne (Xa l) (Xa w) S=.ok (.bl (!decide (l=w))) S:=by
 have h:=Xky l w S;simp only[Xi,Yy] at h ⊢;cases e:eqD S (Xa l) (Xa w) with
 | none=>rw[e] at h;cases h
 | some b =>
  rw[e] at h;simp only[R.ok.injEq,D.bl.injEq,and_true] at h;subst h;rfl
section
variable{F:Fn}{G:List D}
variable{i1:Nat}{d e:D}{x y:Str}{g1 g2:Int}{S:Sto}
end
end Z
end
section
namespace Z
open PySem
structure Up(g:Nat->Nat->Nat):Prop where
 mono:∀ {m n:Nat} (k:Nat),m<=n->g m k<=g n k
 step:∀ a k:Nat,g a (k+2)+g a (k+1)<=g (a+1) (k+2)
end Z
end
section
namespace Z
open PySem
section
variable{F:Fn}{G:List D}
end
end Z
end
section
set_option exponentiation.threshold 3000
namespace Z
open PySem
section
variable{F:Fn}{G:List D}
theorem LWaysF.ways{il:Nat}(h:LWaysF F il):X1c F il:=fun n m S hn hm=>h n m S (Nat.lt_of_le_of_lt hn (by decide)) hm
end
end Z
end
section
set_option exponentiation.threshold 3000
namespace Z
open PySem
section
variable{F:Fn}{G:List D}
noncomputable def Xhy(w:List Int)(i:Nat):D:=.tup [.int i,.int (w.getD i 0)]
end
end Z
end
section
set_option exponentiation.threshold 3000
namespace Z
open PySem
section
variable{F:Fn}{G:List D}
theorem Xeb{get:Sto->Nat->Option (Option D)}{t:Tg}{body:En->Sto->R Fl}{xs:List D}(bad:Nat->Bool)(val:Nat->D)(P:En->Sto->Prop)(Q:Sto->Prop)
  (hget:∀ i S,get S i=some xs[i]?)
  (step:∀ i d e S,xs[i]?=some d->(∀ j<i,bad j=false)->P e S->∃ e1,Xo t d e=some e1/\((bad i=true/\∃ S',body e1 S=.ok (.rt (val i)) S'/\Q S')\/(bad i=false/\∃ e2 S',body e1 S=.ok (.nx e2) S'/\P e2 S'))) :
  ∀ (fuel i:Nat) (e:En) (S:Sto),xs.length<fuel+i->i<=xs.length->(∀ j<i,bad j=false)->P e S ->
   (∃ p S',p<xs.length/\bad p=true/\(∀ j<p,bad j=false)/\X8 get t body fuel i e S=.ok (.rt (val p)) S'/\Q S')\/((∀ j<xs.length,bad j=false)/\∃ e' S',X8 get t body fuel i e S=.ok (.nx e') S'/\P e' S')
 | 0,i,e,S,h1,h2,h3,h4=>by omega
 | fuel+1,i,e,S,h1,h2,h3,h4=>by
  cases q:xs[i]? with
  | none =>
   have hi:i=xs.length:=by have:=List.getElem?_eq_none_iff.mp q;omega
   right;refine⟨by rw[<- hi];exact h3,e,S,?_,h4⟩
   simp only[X8,hget,q]
  | some d =>
   have hi:i<xs.length:=(List.getElem?_eq_some_iff.mp q).1;obtain⟨e1,a1,a2⟩:=step i d e S q h3 h4;rcases a2 with⟨b1,S',b2,b3⟩|⟨b1,e2,S',b2,b3⟩
   ·left
    refine⟨i,S',hi,b1,h3,?_,b3⟩;simp only[X8,hget,q,a1,b2]
   ·have h3':∀ j<i+1,bad j=false:=fun j hj=>by
     by_cases z:j=i
     ·rw[z];exact b1
     ·exact h3 j (by omega)
    have ih:=Xeb bad val P Q hget step fuel (i+1) e2 S' (by omega) hi h3' b3
    simp only[X8,hget,q,a1,b2];exact ih
end
end Z
end
section
set_option exponentiation.threshold 3000
namespace Z
open PySem
section
variable{F:Fn}{G:List D}
end
end Z
end
section
set_option exponentiation.threshold 3000
namespace Z
open PySem
section
variable{F:Fn}{G:List D}
theorem Xby{d:Df}{ds:List D}{env:En}{r:D}{S S':Sto}(h0:ds.length=d.np)(he:ds.map some++List.replicate (d.nl-d.np) none=env)(h:exes F G d.body env S=.ok (.rt r) S'):den F G d ds S=.ok r S':=by
 subst he;unfold den;rw[if_pos h0,h]
end
end Z
end
section
set_option exponentiation.threshold 3000
namespace Z
open PySem
section
variable{F:Fn}{G:List D}
end
end Z
end
section
namespace Z
open PySem
section
variable{F:Fn}{G:List D}
theorem X2m(l:List Int)(S:Sto):Xfw (Xa l) S=.ok (Xa l.reverse) S:=by
 unfold Xa;simp only[Xfw,List.map_reverse]
theorem Xmk{l:List Int}{i:Nat}(h:i<l.length):(l.map D.int)[i]?=some (.int (l.getD i 0)):=by
 rw[List.getElem?_map,List.getD_eq_getElem?_getD,List.getElem?_eq_getElem h];rfl
noncomputable def Xgn:Sts:=.cons (.ite (.cmp .ne (.var 3) (.var 4)) (.cons (.ret (.var 2)) .nil) .nil) .nil
noncomputable def Xml:Exs:=.cons (.var 1) (.cons (.rev (.var 1)) .nil)
noncomputable def Xmm(it:Nat):Df:=⟨1,5,.cons (.asg (.var 1) (.call it (.cons (.var 0) .nil))) (.cons (.for (.nst 2 [3,4]) (.ezp Xml) Xgn) (.cons (.ret (.cst .non)) .nil))⟩
noncomputable def Xca(h:List Int)(i:Nat):Bool:=!(h.getD i 0==h.reverse.getD i 0)
noncomputable def Yc(h:List Int):Option Nat:=(List.range h.length).find? (Xca h)
noncomputable def Xcb:Option Nat->D
 | some n=>.int n
 | none=>.non
theorem Xvy{h:List Int}{p:Nat}(hp:p<h.length)(h1:Xca h p=true)(h2:∀ j<p,Xca h j=false):Yc h=some p:=by
 unfold Yc;rw[List.find?_range_eq_some];exact⟨h1,List.mem_range.mpr hp,fun j hj=>by rw[h2 j hj];rfl⟩
theorem Xkz{h:List Int}(h2:∀ j<h.length,Xca h j=false):Yc h=none:=by
 unfold Yc;rw[List.find?_eq_none];exact fun j hj=>by rw[h2 j (List.mem_range.mp hj)];exact Bool.false_ne_true
theorem Xrz{a0 a1:Option D}{i x y:Int}{S:Sto}:exes F G Xgn [a0,a1,some (.int i),some (.int x),some (.int y)] S=if x=y then .ok (.nx [a0,a1,some (.int i),some (.int x),some (.int y)]) S else .ok (.rt (.int i)) S:=by
 have hc:ev F G (.cmp .ne (.var 3) (.var 4)) [a0,a1,some (.int i),some (.int x),some (.int y)] S=.ok (.bl (!(x==y))) S:=by
  simp only[ev,gZ0,gS0,Rk0,Xox]
 unfold Xgn
 by_cases z:x=y
 ·rw[if_pos z]
  have hb:(!(x==y))=false:=by rw[beq_iff_eq.mpr z];rfl
  rw[hb] at hc;rw[Xe (Yw hc)];simp only[exes]
 ·rw[if_neg z]
  have hb:(!(x==y))=true:=by rw[beq_eq_false_iff_ne.mpr z];rfl
  rw[hb] at hc;refine Xl ?_;rw[exe,hc,Rk0];simp only[Xj,exes,exe,ev,gZ0,gS0,Rk0]
noncomputable def ezL(h:List Int):List D:=(List.range h.length).map fun(i:Nat)=>D.tup [.int i,.tup [.int (h.getD i 0),.int (h.reverse.getD i 0)]]
theorem Xzj(h:List Int)(i:Nat)(S:Sto):(Src.enm (.zpp (.con (h.map D.int)) (.con (h.reverse.map D.int)))).get S i=some (ezL h)[i]?:=by
 by_cases hi:i<h.length
 ·have e1:=Xmk hi
  have e2:=Xmk (l:=h.reverse) (i:=i) (by simpa using hi)
  simp only[Src.get,e1,e2,ezL];simp[hi]
 ·have e1:(h.map D.int)[i]?=none:=List.getElem?_eq_none (by simpa using hi)
  simp only[Src.get,e1,ezL];rw[List.getElem?_eq_none (by simpa using hi)]
theorem Xvz{it:Nat}{l h:List Int}{S S1:Sto}(ht:F it [Xa l] S=.ok (Xa h) S1)(hl:h.length<=1000):den F G (Xmm it) [Xa l] S=.ok (Xcb (Yc h)) S1:=by
 have s1:=Xad (i:=1) (F:=F) (G:=G) (e:=.call it (.cons (.var 0) .nil)) (env:=[some (Xa l),none,none,none,none]) (S:=S) (d:=Xa h) (S':=S1) (by simp only[ev,evs,gZ0,Rk0,ht])
 have hit:evit F G (.ezp Xml) [some (Xa l),some (Xa h),none,none,none] S1=.ok (.enm (.zpp (.con (h.map D.int)) (.con (h.reverse.map D.int)))) S1:=by
  simp only[evit,Xml,evs,ev,gZ0,gS0,Rk0,X2m];rfl
 have lp:=Xeb (get:=(Src.enm (.zpp (.con (h.map D.int)) (.con (h.reverse.map D.int)))).get) (t:=.nst 2 [3,4]) (body:=fun env S=>exes F G Xgn env S) (xs:=ezL h) (Xca h) (fun i=>.int (i:Int))
  (fun e S'=>∃ x y z,S'=S1/\e=[some (Xa l),some (Xa h),x,y,z]) (fun S'=>S'=S1) (fun i S=>Xzj h i S)
  (fun i d e S' hd hb hP=>by
   obtain⟨x,y,z,rfl,rfl⟩:=hP;have hi:i<h.length:=by have:=(List.getElem?_eq_some_iff.mp hd).1;simpa [ezL] using this
   have hd2:d=.tup [.int i,.tup [.int (h.getD i 0),.int (h.reverse.getD i 0)]]:=by
    simp only[ezL,List.getElem?_map,List.getElem?_range hi,Option.map_some,Option.some.injEq] at hd;exact hd.symm
   subst hd2;refine⟨[some (Xa l),some (Xa h),some (.int i),some (.int (h.getD i 0)),some (.int (h.reverse.getD i 0))],rfl,?_⟩;have hbd:=Xrz (F:=F) (G:=G) (a0:=some (Xa l)) (a1:=some (Xa h)) (i:=i) (x:=h.getD i 0) (y:=h.reverse.getD i 0) (S:=S')
   by_cases q:h.getD i 0=h.reverse.getD i 0
   ·rw[if_pos q] at hbd
    exact .inr ⟨by unfold Xca;rw[beq_iff_eq.mpr q];rfl,_,_,hbd,_,_,_,rfl,rfl⟩
   ·rw[if_neg q] at hbd
    exact .inl ⟨by unfold Xca;rw[beq_eq_false_iff_ne.mpr q];rfl,_,hbd,rfl⟩)
  (h.length+1) 0 [some (Xa l),some (Xa h),none,none,none] S1 (by simp[ezL]) (Nat.zero_le _) (fun j hj=>by omega) ⟨none,none,none,rfl,rfl⟩
 have hfor:exe F G (.for (.nst 2 [3,4]) (.ezp Xml) Xgn) [some (Xa l),some (Xa h),none,none,none] S1=X8 (Src.enm (.zpp (.con (h.map D.int)) (.con (h.reverse.map D.int)))).get (.nst 2 [3,4]) (fun env S=>exes F G Xgn env S) (h.length+1) 0 [some (Xa l),some (Xa h),none,none,none] S1:=by
  have hm:Src.most (.enm (.zpp (.con (h.map D.int)) (.con (h.reverse.map D.int)))) S1=h.length:=by simp[Src.most]
  simp only[exe,hit,Rk0,hm]
 rcases lp with⟨p,S',p1,p2,p3,p4,rfl⟩|⟨p1,e',S',p2,x,y,z,rfl,rfl⟩
 ·refine Xby rfl rfl ?_
  unfold Xmm;rw[Xvy (by simpa [ezL] using p1) p2 p3]
  exact(Xe s1).trans (Xl (hfor.trans p4))
 ·refine Xby rfl rfl ?_
  unfold Xmm;rw[Xkz (fun j hj=>p1 j (by simpa [ezL] using hj))]
  exact(Xe s1).trans ((Xe (hfor.trans p2)).trans (Xl (by simp only[exe,ev,Rk0,Xcb])))
noncomputable def Xzk(i:Nat):Df:=⟨1,1,.cons (.ret (.cmp .is (.call i (.cons (.var 0) .nil)) (.cst .non))) .nil⟩
theorem Xo8(o:Option Nat)(S:Sto):Xi .is (Xcb o) .non S=.ok (.bl o.isNone) S:=by cases o<;>rfl
theorem Xv0{i:Nat}{d:D}{o:Option Nat}{S S1:Sto}(h:F i [d] S=.ok (Xcb o) S1):den F G (Xzk i) [d] S=.ok (.bl o.isNone) S1:=by
 refine Xby (env:=[some d]) rfl rfl ?_;exact Xl (by simp only[exe,ev,evs,gZ0,Rk0,h,Xo8])
noncomputable def Xmn:Ex:=.cmr false 3 (.cons (.tup [3,4]) (.zpp (.cons (.var 1) (.cons (.sli (.var 1) (.some (.cst (.int 1))) .none) .nil))) .nil .nil) (.bin .sub (.var 4) (.var 3))
noncomputable def Xs5(ih:Nat):Df:=⟨1,2,.cons (.asg (.var 1) (.sli (.var 0) .none (.some (.call ih (.cons (.bin .sub (.blt .len (.cons (.var 0) .nil)) (.cst (.int 1))) .nil)))))
 (.cons (.ret (.bin .add (.sli (.var 1) .none (.some (.cst (.int 1)))) (.blt .tuple (.cons Xmn .nil)))) .nil)⟩
noncomputable def stp(h:List Int):List Int:=h.getD 0 0::(List.range ((h.length+1)/2-1)).map fun i=>h.getD (i+1) 0-h.getD i 0
noncomputable def gpr(h:List Int)(i:Nat):D:=.tup [.int (h.getD i 0),.int (h.getD (i+1) 0)]
theorem Xzl(h:List Int)(i:Nat)(S:Sto):(Src.zpp (.con (h.map D.int)) (.con ((h.drop 1).map D.int))).get S i=some ((List.range (h.length-1)).map (gpr h))[i]?:=by
 by_cases hi:i<h.length-1
 ·have e1:=Xmk (l:=h) (i:=i) (by omega)
  have e2:=Xmk (l:=h.drop 1) (i:=i) (by simpa using hi)
  have e3:(h.drop 1).getD i 0=h.getD (i+1) 0:=by simp[List.getD,Nat.add_comm]
  rw[e3] at e2;simp only[Src.get,e1,e2];simp[hi,gpr]
 ·have e2:((h.drop 1).map D.int)[i]?=none:=List.getElem?_eq_none (by simpa using hi)
  rw[List.getElem?_eq_none (l:=(List.range (h.length-1)).map (gpr h)) (by simpa using hi)]
  simp only[Src.get,e2];cases (h.map D.int)[i]?<;>rfl
theorem Xv1{a:Option D}{h:List Int}{S:Sto}(hl:h.length<=1000):ev F G Xmn [a,some (Xa h)] S=.ok (.ref S.length) (S++[.lst (((List.range (h.length-1)).map fun i=>h.getD (i+1) 0-h.getD i 0).map D.int)]):=by
 have h1:Xaa (Xa h) (some 1) none S=.ok (Xa (h.drop 1)) S:=Xhd h 1 S;have hit:evit F G (.zpp (.cons (.var 1) (.cons (.sli (.var 1) (.some (.cst (.int 1))) .none) .nil))) [a,some (Xa h)] S=.ok (.zpp (.con (h.map D.int)) (.con ((h.drop 1).map D.int))) S:=by
  simp only[evit,evs,ev,evo,gZ0,gS0,Rk0,Xam,h1];rfl
 obtain⟨e',S',h2,rfl,_⟩:=Xbx (F:=F) (G:=G) (t:=.tup [3,4]) (n:=3) (elt:=.bin .sub (.var 4) (.var 3)) ((List.range (h.length-1)).map (gpr h)) (fun i=>.int (h.getD (i+1) 0-h.getD i 0))
  (fun i e S'=>S'=S/\∃ x y,e=[a,some (Xa h),none,x,y]) hit (by simp[Src.most]) (X9 (by simp;omega)) ⟨rfl,none,none,rfl⟩
  (fun i e S' hP=>by obtain⟨rfl,_⟩:=hP;exact Xzl h i S')
  (fun i d e S' hd hP=>by
   obtain⟨rfl,x,y,rfl⟩:=hP;have hi:i<h.length-1:=by have:=(List.getElem?_eq_some_iff.mp hd).1;simpa using this
   simp only[List.getElem?_map,List.getElem?_range hi,Option.map_some,Option.some.injEq] at hd;subst hd;exact⟨[a,some (Xa h),none,some (.int (h.getD i 0)),some (.int (h.getD (i+1) 0))],_,rfl,by simp only[ev,gZ0,gS0,Rk0,Yb],rfl,_,_,rfl⟩)
 unfold Xmn;rw[h2];simp[Function.comp_def]
theorem Xo9{h:List Int}(h1:1<=h.length):let hh:=h.take ((h.length-1)/2+1);hh.take 1++(List.range (hh.length-1)).map (fun i=>hh.getD (i+1) 0-hh.getD i 0)=stp h:=by
 have hd:∀ {n i:Nat},i<n->(h.take n).getD i 0=h.getD i 0:=fun {n i} q=>by simp[List.getD,List.getElem?_take,q]
 intro hh;have lh:hh.length=(h.length+1)/2:=by simp only[hh,List.length_take];omega
 have e1:hh.take 1=[h.getD 0 0]:=by
  show(h.take ((h.length-1)/2+1)).take 1=_;rw[List.take_take,Nat.min_eq_left (by omega)]
  match h,h1 with
  | x::xs,_=>rfl
 unfold stp;rw[e1,lh];show _::_=_::_;congr 1;refine List.map_congr_left fun i hi=>?_
 have:=List.mem_range.mp hi;show(h.take _).getD (i+1) 0-(h.take _).getD i 0=_;rw[hd (by omega),hd (by omega)]
theorem Xr0{ih:Nat}{h:List Int}{S:Sto}(hh:∀ (w:Int) (S:Sto),F ih [.int w] S=.ok (.int (w/2+1)) S)(h1:1<=h.length)(hl:h.length<=12):∃ X,den F G (Xs5 ih) [Xa h] S=.ok (Xa (stp h)) (S++X):=by
 have hn:((h.length:Int)-1)/2+1=((h.length-1)/2+1:Nat):=by omega
 have s1:=Xad (i:=1) (F:=F) (G:=G) (e:=.sli (.var 0) .none (.some (.call ih (.cons (.bin .sub (.blt .len (.cons (.var 0) .nil)) (.cst (.int 1))) .nil)))) (env:=[some (Xa h),none]) (S:=S) (d:=Xa (h.take ((h.length-1)/2+1))) (S':=S) (by
  simp only[ev,evo,evs,gZ0,Rk0,Y0,Yb,hh,hn,Xam];exact Xba h _ S)
 have hs:=Xo9 h1;have hln:(h.take ((h.length-1)/2+1)).length<=12:=by rw[List.length_take];omega
 generalize h.take ((h.length-1)/2+1)=hf at s1 hs hln;have g:=Xv1 (F:=F) (G:=G) (a:=some (Xa h)) (h:=hf) (S:=S) (by omega)
 have h3:Xaa (Xa hf) none (some 1) S=.ok (Xa (hf.take 1)) S:=Xba hf 1 S;refine⟨[.lst (((List.range (hf.length-1)).map fun i=>hf.getD (i+1) 0-hf.getD i 0).map D.int)],Xby (env:=[some (Xa h),none]) rfl rfl ?_⟩
 refine(Xe s1).trans (Xl ?_);have ht:Xr .tuple [.ref S.length] (S++[.lst (((List.range (hf.length-1)).map fun i=>hf.getD (i+1) 0-hf.getD i 0).map D.int)])=.ok (Xa ((List.range (hf.length-1)).map fun i=>hf.getD (i+1) 0-hf.getD i 0)) (S++[.lst (((List.range (hf.length-1)).map fun i=>hf.getD (i+1) 0-hf.getD i 0).map D.int)]):=by simp only[Xr,Xw,Xq,Xa]
 simp only[exe,ev,evo,evs,List.set,gZ0,gS0,Rk0,Xam,h3,g,ht];rw[Xjd _ _ _ (by simp;omega),hs]
 rfl
noncomputable def Xzm(ig it:Nat):Df:=⟨1,1,.cons (.ret (.call ig (.cons (.call it (.cons (.var 0) .nil)) .nil))) .nil⟩
theorem Xv2{ig it:Nat}{d t r:D}{S S1 S2:Sto}(h:F it [d] S=.ok t S1)(h2:F ig [t] S1=.ok r S2):den F G (Xzm ig it) [d] S=.ok r S2:=by
 refine Xby (env:=[some d]) rfl rfl ?_;exact Xl (by simp only[exe,ev,evs,gZ0,Rk0,h,h2])
end
end Z
end
section
namespace Z
noncomputable def gd(l:List Int)(p:Nat):Int:=l.getD p 0
noncomputable def cv(f g:Nat->Int)(n:Nat):Int:=((List.range (n+1)).map fun i=>f i*g (n-i)).sum
noncomputable def cvL(a b:List Int):List Int:=(List.range (a.length+b.length-1)).map (cv (gd a) (gd b))
theorem Xk0(f g:Nat->Int):∀ l:List Nat,(l.map fun i=>f i+g i).sum=(l.map f).sum+(l.map g).sum
 | []=>rfl
 | x::l=>by simp only[List.map,List.sum_cons,Xk0 f g l];omega
theorem Xk1(c:Int)(f:Nat->Int):∀ l:List Nat,(l.map fun i=>c*f i).sum=c*(l.map f).sum
 | []=>by simp
 | x::l=>by simp only[List.map,List.sum_cons,Xk1 c f l,Int.mul_add]
theorem Xc3(f:Nat->Int):∀ l:List Nat,(∀ x∈l,f x=0)->(l.map f).sum=0
 | [],_=>rfl
 | x::l,h=>by simp only[List.map,List.sum_cons,h x (by simp),Xc3 f l fun y hy=>h y (by simp[hy])];rfl
theorem Xbz{f f' g g':Nat->Int}(h1:∀ p,f p=f' p)(h2:∀ p,g p=g' p)(n:Nat):cv f g n=cv f' g' n:=by
 have e1:f=f':=funext h1;have e2:g=g':=funext h2;rw[e1,e2]
theorem Xff(f g h:Nat->Int)(c:Int)(n:Nat):cv f (fun p=>g p+c*h p) n=cv f g n+c*cv f h n:=by
 unfold cv;rw[<- Xk1,<- Xk0];congr 1;refine List.map_congr_left fun i _=>?_
 rw[Int.mul_add,Int.mul_left_comm]
theorem Xjj(f g:Nat->Int)(n:Nat):cv f (bef g) n=bef (cv f g) n:=by
 cases n with
 | zero=>simp[cv,bef]
 | succ n =>
  show((List.range (n+1+1)).map fun i=>f i*bef g (n+1-i)).sum=((List.range (n+1)).map fun i=>f i*g (n-i)).sum
  rw[List.range_succ,List.map_append,List.sum_append];have e:((List.range (n+1)).map fun i=>f i*bef g (n+1-i))=(List.range (n+1)).map fun i=>f i*g (n-i):=by
   refine List.map_congr_left fun i hi=>?_
   have:=List.mem_range.mp hi;rw[show n+1-i=(n-i)+1 by omega]
   rfl
  rw[e];simp[bef]
theorem Xk2(f g:Nat->Int)(h:∀ p,g p=0)(n:Nat):cv f g n=0:=Xc3 _ _ fun x _=>by rw[h];simp
noncomputable def dl(k p:Nat):Int:=if p=k then 1 else 0
noncomputable def sk(k:Nat)(f:Nat->Int)(p:Nat):Int:=if k<=p then f (p-k) else 0
theorem Xhz(f:Nat->Int):∀ (k n:Nat),cv f (dl k) n=sk k f n
 | 0,n=>by
  unfold cv;rw[List.range_succ,List.map_append,List.sum_append];rw[Xc3 _ _ fun x hx=>by
   have:=List.mem_range.mp hx;unfold dl;rw[if_neg (by omega)];simp]
  simp[dl,sk]
 | k+1,n=>by
  have e:∀ p,dl (k+1) p=bef (dl k) p:=fun p=>by cases p<;>simp[dl,bef]
  rw[Xbz (fun _=>rfl) e,Xjj]
  cases n with
  | zero=>simp[bef,sk]
  | succ n =>
   show cv f (dl k) n=_;rw[Xhz f k n];unfold sk
   by_cases q:k<=n
   ·rw[if_pos q,if_pos (by omega)];congr 1;omega
   ·rw[if_neg q,if_neg (by omega)]
theorem Xpa(b:List Int)(y:Int)(p:Nat):gd (b++[y]) p=gd b p+y*dl b.length p:=by
 unfold gd dl;rw[List.getD_eq_getElem?_getD,List.getD_eq_getElem?_getD]
 by_cases h:p<b.length
 ·rw[List.getElem?_append_left h,if_neg (by omega)];simp
 ·rw[List.getElem?_append_right (by omega),List.getElem?_eq_none (l:=b) (by omega)]
  by_cases q:p=b.length
  ·subst q;simp
  ·rw[if_neg q,List.getElem?_eq_none (by simp;omega)];simp
theorem Xk3(b:List Int)(y:Int)(p:Nat):gd (y::b) p=bef (gd b) p+y*dl 0 p:=by
 cases p<;>simp[gd,dl,bef]
theorem Xzn(a b:List Int)(n:Nat)(h:a.length+b.length<=n+1):cv (gd a) (gd b) n=0:=Xc3 _ _ fun x hx=>by
 have:=List.mem_range.mp hx;unfold gd
 by_cases q:x<a.length
 ·rw[List.getD_eq_getElem?_getD (l:=b),List.getElem?_eq_none (l:=b) (by omega)];simp
 ·rw[List.getD_eq_getElem?_getD (l:=a),List.getElem?_eq_none (l:=a) (by omega)];simp
theorem Yx(a b:List Int):(cvL a b).length=a.length+b.length-1:=by simp[cvL]
theorem Xbr(a b:List Int)(p:Nat):gd (cvL a b) p=cv (gd a) (gd b) p:=by
 by_cases h:p<a.length+b.length-1
 ·simp[gd,cvL,List.getD_eq_getElem?_getD,h]
 ·rw[Xzn a b p (by omega)]
  simp only[gd,cvL,List.getD_eq_getElem?_getD];rw[List.getElem?_eq_none (by simp;omega)];rfl
theorem Xjk(c:Int)(u v:List Int)(hl:u.length=v.length)(p:Nat):gd (List.zipWith (fun a b=>a+c*b) u v) p=gd u p+c*gd v p:=by
 simp only[gd,List.getD_eq_getElem?_getD,List.getElem?_zipWith]
 by_cases h:p<u.length
 ·rw[List.getElem?_eq_getElem h,List.getElem?_eq_getElem (l:=v) (by omega)];rfl
 ·rw[List.getElem?_eq_none (l:=u) (by omega),List.getElem?_eq_none (l:=v) (by omega)];simp
theorem Xzo(k:Nat)(a:List Int)(p:Nat):gd (List.replicate k 0++a) p=sk k (gd a) p:=by
 unfold gd sk;rw[List.getD_eq_getElem?_getD]
 by_cases h:k<=p
 ·rw[if_pos h,List.getElem?_append_right (by simpa using h)];simp
 ·rw[if_neg h,List.getElem?_append_left (by simp;omega)];simp[show p<k by omega]
theorem Xv3(k:Nat)(a:List Int)(p:Nat):gd (a++List.replicate k 0) p=gd a p:=by
 unfold gd;rw[List.getD_eq_getElem?_getD,List.getD_eq_getElem?_getD]
 by_cases h:p<a.length
 ·rw[List.getElem?_append_left h]
 ·rw[List.getElem?_append_right (by omega),List.getElem?_eq_none (l:=a) (by omega)]
  by_cases q:p-a.length<k
  ·simp[q]
  ·rw[List.getElem?_eq_none (by simp;omega)]
theorem Xfg{u v:List Int}(hl:u.length=v.length)(h:∀ p,gd u p=gd v p):u=v:=Y7 hl h
theorem Xk4(a b:List Int)(y:Int)(h1:1<=a.length):cvL a (b++[y])=List.zipWith (fun u v=>u+y*v) (cvL a b++[0]) (List.replicate b.length 0++a):=by
 have hl:(cvL a b++[0]).length=(List.replicate b.length 0++a).length:=by simp[Yx];omega
 refine Xfg ?_ fun p=>?_
 ·rw[Yx,List.length_zipWith,<- hl];simp[Yx];omega
 ·rw[Xjk _ _ _ hl,Xzo,Xbr,Xpa,Xbr,Xbz (fun _=>rfl) (Xpa b y),Xff,Xhz]
  simp
theorem Xr1(a b:List Int)(y:Int)(h1:1<=a.length):cvL a (y::b)=List.zipWith (fun u v=>u+y*v) (0::cvL a b) (a++List.replicate b.length 0):=by
 have hl:(0::cvL a b).length=(a++List.replicate b.length 0).length:=by simp[Yx];omega
 refine Xfg ?_ fun p=>?_
 ·rw[Yx,List.length_zipWith,<- hl];simp[Yx];omega
 ·have e:∀ p,gd (0::cvL a b) p=bef (cv (gd a) (gd b)) p:=fun p=>by
   rw[Xk3,Xg9 (Xbr a b)];simp
  rw[Xjk _ _ _ hl,Xv3,Xbr,e,Xbz (fun _=>rfl) (Xk3 b y),Xff,Xhz,Xjj]
  simp[sk]
theorem Xgo(a:List Int):cvL a []=List.replicate (a.length-1) 0:=by
 refine Xfg (by simp[Yx]) fun p=>?_
 rw[Xbr,Xk2 _ _ fun q=>by simp[gd]]
 unfold gd;rw[List.getD_eq_getElem?_getD,List.getElem?_replicate]
 by_cases h:p<a.length-1
 ·rw[if_pos h];rfl
 ·rw[if_neg h];rfl
theorem Xjl(s:Int)(a:List Int):∀ (k p:Nat),tG s (List.replicate k 0++a) p=sk k (tG s a) p
 | 0,p=>by simp[sk]
 | k+1,p=>by
  rw[List.replicate_succ,List.cons_append,Xkq];cases p with
  | zero=>simp[bef,sk]
  | succ p =>
   show tG s (List.replicate k 0++a) p=_;rw[Xjl s a k p];unfold sk
   by_cases q:k<=p
   ·rw[if_pos q,if_pos (by omega)];congr 1;omega
   ·rw[if_neg q,if_neg (by omega)]
theorem Xr2(s:Int)(k p:Nat):tG s (List.replicate k 0) p=0:=by
 have:=Xjl s [] k p;rw[List.append_nil] at this;rw[this];unfold sk;split<;>rfl
theorem X1d(s:Int)(a:List Int)(h1:1<=a.length):∀ (m:Nat) (b:List Int),b.length=m->∀ p,tG s (cvL a b) p=cv (tG s a) (tG s b) p:=by
 intro m
 induction m with
 | zero =>
  intro b hb p;have:b=[]:=List.length_eq_zero_iff.mp hb;subst this;rw[Xgo,Xr2,Xk2 _ (tG s []) fun q=>by cases q<;>rfl]
 | succ m ih =>
  intro b hb p;obtain⟨b',y,rfl⟩:∃ b' y,b=b'++[y]:=⟨b.dropLast,b.getLast (fun z=>by subst z;simp at hb),(List.dropLast_concat_getLast _).symm⟩
  have hb':b'.length=m:=by simpa using hb
  have hl:(cvL a b'++[0]).length=(List.replicate b'.length 0++a).length:=by simp[Yx];omega
  have ihf:tG s (cvL a b')=cv (tG s a) (tG s b'):=funext (ih b' hb');have e:∀ q,tG s (b'++[y]) q=(tG s b' q+s*bef (tG s b') q)+y*dl b'.length q:=fun q=>by
   rw[Xbw];unfold dl;split<;>simp
  rw[Xk4 a b' y h1,Xi6 s y _ _ hl,Xbw,Xjl,ihf,Xbz (fun _=>rfl) e,Xff,Xff,Xhz,Xjj]
  simp
theorem Xs6(s:Int)(a b:List Int)(h1:1<=a.length):tT s (cvL a b)=cvL (tT s a) (tT s b):=by
 refine Xfg (by simp[Xv,Yx]) fun p=>?_
 rw[Xbr,Xbz (f:=gd (tT s a)) (f':=tG s a) (fun q=>Xa1 s a q) (g:=gd (tT s b)) (g':=tG s b) (fun q=>Xa1 s b q),<- X1d s a h1 b.length b rfl p]
 exact Xa1 s _ p
theorem Xv4(c:Int)(u v:List Int)(hl:u.length=v.length):(List.zipWith (fun a b=>a+c*b) u v).reverse=List.zipWith (fun a b=>a+c*b) u.reverse v.reverse:=by
 rw[List.reverse_zipWith hl]
theorem Xv5(a:List Int)(h1:1<=a.length):∀ (m:Nat) (b:List Int),b.length=m->(cvL a b).reverse=cvL a.reverse b.reverse:=by
 intro m
 induction m with
 | zero =>
  intro b hb;have:b=[]:=List.length_eq_zero_iff.mp hb;subst this;rw[List.reverse_nil,Xgo,Xgo];simp
 | succ m ih =>
  intro b hb;obtain⟨b',y,rfl⟩:∃ b' y,b=b'++[y]:=⟨b.dropLast,b.getLast (fun z=>by subst z;simp at hb),(List.dropLast_concat_getLast _).symm⟩
  have hb':b'.length=m:=by simpa using hb
  have hl:(cvL a b'++[0]).length=(List.replicate b'.length 0++a).length:=by simp[Yx];omega
  have er:(b'++[y]).reverse=y::b'.reverse:=by simp
  rw[Xk4 a b' y h1,Xv4 _ _ _ hl,er,Xr1 a.reverse b'.reverse y (by simpa using h1),<- ih b' hb']
  simp
end Z
end
section
namespace Z
open PySem
theorem Xgp{h:List Int}{i:Nat}(hi:i<h.length):h.reverse.getD i 0=h.getD (h.length-1-i) 0:=by
 rw[List.getD_eq_getElem?_getD,List.getD_eq_getElem?_getD,List.getElem?_reverse hi]
theorem Xjm{h:List Int}(h1:1<=h.length):(stp h).length=(h.length+1)/2:=by
 unfold stp;simp only[List.length_cons,List.length_map,List.length_range];omega
theorem Xpb{h:List Int}(h1:1<=h.length):∀ i,i<(h.length+1)/2->ps (stp h) (i+1)=h.getD i 0
 | 0,hi=>by
  rw[Xd0 _ _ (by rw[Xjm h1];omega)]
  simp[ps,stp]
 | i+1,hi=>by
  rw[Xd0 _ _ (by rw[Xjm h1];omega),Xpb h1 i (by omega)]
  have e:(stp h).getD (i+1) 0=h.getD (i+1) 0-h.getD i 0:=by
   simp only[stp,List.getD_eq_getElem?_getD,gS0,List.getElem?_map];rw[List.getElem?_range (by omega)]
   rfl
  omega
theorem Xv6{h:List Int}(h1:1<=h.length):pre (stp h) (stp h).length=h.take ((h.length+1)/2):=by
 refine Y7 ?_ fun p=>?_
 ·simp[pre,Xjm h1];omega
 ·rw[Xjm h1]
  by_cases q:p<(h.length+1)/2
  ·have e1:(pre (stp h) ((h.length+1)/2)).getD p 0=ps (stp h) (p+1):=by simp[pre,q]
   rw[e1,Xpb h1 p q];simp[List.getD,List.getElem?_take,q]
  ·have e1:(pre (stp h) ((h.length+1)/2)).getD p 0=0:=by
    rw[List.getD_eq_getElem?_getD,List.getElem?_eq_none (by simp[pre];omega)];rfl
   rw[e1];simp[List.getD,List.getElem?_take,q]
theorem unlk_f{h:List Int}{p:Nat}:Xca h p=false ↔ h.getD p 0=h.reverse.getD p 0:=by
 unfold Xca;generalize h.getD p 0=a;generalize h.reverse.getD p 0=b;constructor
 ·intro z
  cases q:(a==b) with
  | true=>exact eq_of_beq q
  | false=>rw[q] at z;cases z
 ·intro z
  rw[z,beq_self_eq_true];rfl
theorem fu_pal{h:List Int}:Yc h=none ↔ h.reverse=h:=by
 constructor
 ·intro z
  unfold Yc at z;rw[List.find?_eq_none] at z;refine Y7 (by simp) fun p=>?_
  by_cases q:p<h.length
  ·exact(unlk_f.mp (Bool.eq_false_iff.mpr (z p (List.mem_range.mpr q)))).symm
  ·rw[List.getD_eq_getElem?_getD,List.getD_eq_getElem?_getD,List.getElem?_eq_none (by simp;omega),List.getElem?_eq_none (l:=h) (by omega)]
 ·intro z
  exact Xkz fun j _=>unlk_f.mpr (by rw[z])
theorem Xjn{h:List Int}{w:Nat}(hl:h.length=w+1)(hp:h.reverse=h):mir w (h.take ((h.length+1)/2))=h:=by
 have hln:(h.take ((h.length+1)/2)).length=w/2+1:=by rw[List.length_take];omega
 refine Y7 (by rw[Y8 hln,hl]) fun p=>?_
 by_cases q:p<=w
 ·rw[Xgk hln q]
  have e:(h.take ((h.length+1)/2)).getD (min p (w-p)) 0=h.getD (min p (w-p)) 0:=by simp[List.getD,List.getElem?_take,show min p (w-p)<(h.length+1)/2 by omega]
  rw[e]
  by_cases q2:p<=w-p
  ·rw[Nat.min_eq_left q2]
  ·rw[Nat.min_eq_right (by omega)]
   have:=Xgp (h:=h) (i:=p) (by omega)
   rw[hp,hl] at this;exact this.symm
 ·rw[List.getD_eq_getElem?_getD,List.getD_eq_getElem?_getD,List.getElem?_eq_none (by rw[Y8 hln];omega),List.getElem?_eq_none (l:=h) (by omega)]
theorem Xmo{l:List Int}{w:Nat}(hl:l.length=w+1):(tT (-1) (fil w (l.take (w/2+1)))).take (w/2+1)=(tT (-1) l).take (w/2+1):=by
 have hf:(fil w (l.take (w/2+1))).length=l.length:=by simp[fil];omega
 refine Y7 (by simp[Xv,hf]) fun p=>?_
 by_cases q:p<w/2+1
 ·have e:∀ u:List Int,(u.take (w/2+1)).getD p 0=u.getD p 0:=fun u=>by simp[List.getD,List.getElem?_take,q]
  rw[e,e,Xa1,Xa1];refine Xjb (-1) _ _ p hf fun a ha=>?_
  unfold fil;rw[List.getD_eq_getElem?_getD,List.getElem?_append_left (by rw[List.length_take];omega),List.getElem?_take_of_lt (by omega),List.getD_eq_getElem?_getD]
 ·rw[List.getD_eq_getElem?_getD,List.getD_eq_getElem?_getD,List.getElem?_eq_none (by simp;omega),List.getElem?_eq_none (by simp;omega)]
theorem Xzp{h:List Int}{w p:Nat}(hl:h.length=w+1)(e:Yc h=some p):2*p<w:=by
 unfold Yc at e;rw[List.find?_range_eq_some] at e;obtain⟨e1,e2,e3⟩:=e;have hp:=List.mem_range.mp e2
 replace e1:¬ h.getD p 0=h.reverse.getD p 0:=fun z=>by rw[unlk_f.mpr z] at e1;cases e1
 rw[Xgp hp] at e1
 by_cases q:2*p<w
 ·exact q
 ·exfalso
  by_cases q2:h.length-1-p=p
  ·rw[q2] at e1;exact e1 rfl
  ·have:=(unlk_f (h:=h) (p:=h.length-1-p)).mp (by have:=e3 (h.length-1-p) (by omega);cases q3:Xca h (h.length-1-p) with|true=>rw[q3] at this;cases this|false=>rfl)
   rw[Xgp (by omega),show h.length-1-(h.length-1-p)=p by omega] at this
   exact e1 this.symm
theorem Xmp(r:List Int):tT 1 (tT (-1) r)=r:=by
 have h:=Xi7 (-1) r;rw[show-(-1:Int)=1 by decide] at h
 exact h
theorem Xhf{l:List Int}{w:Nat}(hl:l.length=w+1):tT 1 (mir w (pre (stp (tT (-1) l)) (stp (tT (-1) l)).length))=l ↔ Yc (tT (-1) l)=none:=by
 have hh:(tT (-1) l).length=w+1:=by rw[Xv,hl]
 rw[Xv6 (by omega)]
 have back:∀ r:List Int,tT 1 (tT (-1) r)=r:=Xmp;have back':∀ r:List Int,tT (-1) (tT 1 r)=r:=fun r=>Xi7 1 r
 constructor
 ·intro z
  have:=congrArg (tT (-1)) z;rw[back'] at this;rw[fu_pal,<- this];exact Xvh (by rw[List.length_take];omega)
 ·intro z
  rw[Xjn hh (fu_pal.mp z),back]
theorem Xr3{l:List Int}{w:Nat}(hl:l.length=w+1)(z:Yc (tT (-1) l)=none):tT 1 (mir w ((tT (-1) (fil w (l.take (w/2+1)))).take (w/2+1)))=l:=by
 have hh:(tT (-1) l).length=w+1:=by rw[Xv,hl]
 rw[Xmo hl,show w/2+1=((tT (-1) l).length+1)/2 by omega,Xjn hh (fu_pal.mp z)]
 exact Xmp l
noncomputable def bsm(a b:List Int)(i n:Nat):Int:=((List.range i).map fun i'=>gd a i'*sk i' (gd b) n).sum
theorem Xr4(a b:List Int)(i n:Nat):bsm a b (i+1) n=bsm a b i n+gd a i*sk i (gd b) n:=by
 unfold bsm;rw[List.range_succ,List.map_append,List.sum_append];simp
theorem Xgq(f:Nat->Int)(m:Nat):∀ k,(∀ x,m<=x->f x=0)->((List.range (m+k)).map f).sum=((List.range m).map f).sum
 | 0,_=>rfl
 | k+1,h=>by
  rw[<- Nat.add_assoc,List.range_succ,List.map_append,List.sum_append,Xgq f m k h];simp[h (m+k) (by omega)]
theorem Xv7(a b:List Int)(n:Nat):bsm a b a.length n=cv (gd a) (gd b) n:=by
 have e1:bsm a b a.length n=((List.range (a.length+(n+1))).map fun i'=>gd a i'*sk i' (gd b) n).sum:=by
  rw[Xgq _ a.length (n+1) fun x hx=>by
   unfold gd;rw[List.getD_eq_getElem?_getD,List.getElem?_eq_none hx];simp]
  rfl
 have e2:cv (gd a) (gd b) n=((List.range (n+1)).map fun i'=>gd a i'*sk i' (gd b) n).sum:=by
  unfold cv;congr 1;refine List.map_congr_left fun i hi=>?_
  have:=List.mem_range.mp hi;unfold sk;rw[if_pos (by omega)]
 rw[e1,e2,Nat.add_comm,Xgq _ (n+1) a.length fun x hx=>by
  unfold sk;rw[if_neg (by omega)];simp]
section
variable{F:Fn}{G:List D}
noncomputable def fnD(N:Nat)(f:Nat->Int):List D:=(List.range N).map fun n=>.int (f n)
theorem Xbs(N:Nat)(f:Nat->Int):(fnD N f).length=N:=by simp[fnD]
theorem Xd4{N:Nat}{f:Nat->Int}{i:Nat}(h:i<N):(fnD N f)[i]?=some (.int (f i)):=by simp[fnD,h]
theorem Xv8{N:Nat}{f:Nat->Int}{i:Nat}{v:Int}:(fnD N f).set i (.int v)=fnD N fun n=>if n=i then v else f n:=by
 refine List.ext_getElem? fun n=>?_
 by_cases q:n=i
 ·subst q
  by_cases hn:n<N
  ·rw[List.getElem?_set_self (by rw[Xbs];exact hn),Xd4 hn];simp
  ·rw[List.getElem?_eq_none (by rw[List.length_set,Xbs];omega),List.getElem?_eq_none (by rw[Xbs];omega)]
 ·rw[List.getElem?_set_ne (Ne.symm q)]
  by_cases hn:n<N
  ·rw[Xd4 hn,Xd4 hn,if_neg q]
  ·rw[List.getElem?_eq_none (by rw[Xbs];omega),List.getElem?_eq_none (by rw[Xbs];omega)]
theorem Xb5{N:Nat}{f g:Nat->Int}(h:∀ n,f n=g n):fnD N f=fnD N g:=by rw[show f=g from funext h]
theorem ixn{N i:Nat}{x:Int}(h:i<N)(e:x=(i:Int)):ixN N x=some i:=by
 subst e;unfold ixN;rw[if_pos (by omega),if_pos (by omega)]
 simp
noncomputable def eaB:Sts:=.cons (.aset (.var 2) (.bin .add (.var 3) (.var 5)) (.bin .add (.idx (.var 2) (.bin .add (.var 3) (.var 5))) (.bin .mul (.var 4) (.var 6)))) .nil
noncomputable def eaI:Sts:=.cons (.for (.tup [5,6]) (.enm (.cons (.var 1) .nil)) eaB) .nil
noncomputable def Xs7:Df:=⟨2,7,.cons (.asg (.var 2) (.bin .mul (.lst (.cons (.cst (.int 0)) .nil)) (.bin .sub (.bin .add (.blt .len (.cons (.var 0) .nil)) (.blt .len (.cons (.var 1) .nil))) (.cst (.int 1)))))
 (.cons (.for (.tup [3,4]) (.enm (.cons (.var 0) .nil)) eaI) (.cons (.ret (.blt .tuple (.cons (.var 2) .nil))) .nil))⟩
theorem Xv9{a0 a1:Option D}{i j N:Nat}{x y:Int}{f:Nat->Int}{P:Sto}(h:i+j<N)(hm:Xy x y=true) :
  exes F G eaB [a0,a1,some (.ref P.length),some (.int i),some (.int x),some (.int j),some (.int y)] (P++[.lst (fnD N f)])=.ok (.nx [a0,a1,some (.ref P.length),some (.int i),some (.int x),some (.int j),some (.int y)]) (P++[.lst (fnD N fun n=>if n=i+j then f (i+j)+x*y else f n)]):=by
 have hl:Xd (P++[O.lst (fnD N f)]) P.length=some (fnD N f):=Xq;have hl':lstM (P++[O.lst (fnD N f)]) P.length=some (fnD N f):=hl;have hx:ixN (fnD N f).length ((i:Int)+j)=some (i+j):=by rw[Xbs];exact ixn h (by omega)
 have e1:Xag (.ref P.length) (.int ((i:Int)+j)) (P++[O.lst (fnD N f)])=.ok (.int (f (i+j))) (P++[O.lst (fnD N f)]):=by
  simp only[Xag,Xaf,Xw,hl,Option.bind_some,hx,Xd4 h]
 have e2:Xap (.ref P.length) (.int ((i:Int)+j)) (.int (f (i+j)+x*y)) (P++[O.lst (fnD N f)])=.ok () (P++[.lst (fnD N fun n=>if n=i+j then f (i+j)+x*y else f n)]):=by
  simp only[Xap,hl',hx,Xv8];rw[List.set_append_right _ _ (Nat.le_refl _),Nat.sub_self,List.set_cons_zero]
 unfold eaB;rw[Xe (e:=[a0,a1,some (.ref P.length),some (.int i),some (.int x),some (.int j),some (.int y)]) (S1:=P++[.lst (fnD N fun n=>if n=i+j then f (i+j)+x*y else f n)]) (by
  simp only[exe,ev,gZ0,gS0,Rk0,Xx,e1,Yu hm,e2])]
 simp only[exes]
noncomputable def prt(x:Int)(b:List Int)(i j n:Nat):Int:=if i<=n/\n<i+j then x*gd b (n-i) else 0
theorem Xr5{a0:Option D}{b:List Int}{i N:Nat}{x:Int}{f:Nat->Int}{P:Sto}{u v:Option D}(h:i+b.length<=N)(hm:∀ y∈b,Xy x y=true) :
  ∃ u' v',exe F G (.for (.tup [5,6]) (.enm (.cons (.var 1) .nil)) eaB) [a0,some (Xa b),some (.ref P.length),some (.int i),some (.int x),u,v] (P++[.lst (fnD N f)])=.ok (.nx [a0,some (Xa b),some (.ref P.length),some (.int i),some (.int x),u',v']) (P++[.lst (fnD N fun n=>f n+x*sk i (gd b) n)]):=by
 have hit:evit F G (.enm (.cons (.var 1) .nil)) [a0,some (Xa b),some (.ref P.length),some (.int i),some (.int x),u,v] (P++[.lst (fnD N f)])=.ok (.enm (.con (b.map D.int))) (P++[.lst (fnD N f)]):=by
  simp only[evit,evs,ev,gZ0,gS0,Rk0,Xa,Xs]
 obtain⟨e',S',q1,⟨u',v',rfl,rfl⟩⟩:=Xat (get:=(Src.enm (.con (b.map D.int))).get) (t:=.tup [5,6]) (body:=fun env S=>exes F G eaB env S) ((List.range b.length).map (Xhy b))
  (fun j e S=>∃ u v,e=[a0,some (Xa b),some (.ref P.length),some (.int i),some (.int x),u,v]/\S=P++[.lst (fnD N fun n=>f n+prt x b i j n)])
  (fun j e S _=>by
   rw[Xo7];congr 1;simp only[List.getElem?_map]
   by_cases q:j<b.length
   ·simp[q,List.getD,Xhy]
   ·simp[q])
  (fun j d e S hd hP=>by
   obtain⟨u,v,rfl,rfl⟩:=hP;have hj:j<b.length:=by have:=(List.getElem?_eq_some_iff.mp hd).1;simpa using this
   simp only[List.getElem?_map,List.getElem?_range hj,Option.map_some,Option.some.injEq] at hd;subst hd;have hb:b.getD j 0∈b:=by rw[List.getD_eq_getElem?_getD,List.getElem?_eq_getElem hj];exact List.getElem_mem hj
   refine⟨[a0,some (Xa b),some (.ref P.length),some (.int i),some (.int x),some (.int j),some (.int (b.getD j 0))],_,_,rfl,Xv9 (f:=fun n=>f n+prt x b i j n) (show i+j<N by omega) (hm _ hb),_,_,rfl,?_⟩
   congr 2;refine congrArg O.lst (Xb5 fun n=>?_)
   unfold prt
   by_cases z:n=i+j
   ·subst z
    rw[if_pos rfl,if_neg (by omega),if_pos (by omega),show i+j-i=j by omega]
    simp only[gd];omega
   ·rw[if_neg z]
    by_cases z2:i<=n/\n<i+j
    ·rw[if_pos z2,if_pos (by omega)]
    ·rw[if_neg z2,if_neg (by omega)])
  (b.length+1) 0 [a0,some (Xa b),some (.ref P.length),some (.int i),some (.int x),u,v] (P++[.lst (fnD N f)]) ⟨u,v,rfl,by
   congr 2;refine congrArg O.lst (Xb5 fun n=>?_)
   unfold prt;rw[if_neg (by omega)];simp⟩ (Nat.zero_le _) (by simp)
 refine⟨u',v',?_⟩;simp only[exe,hit,Rk0,Src.most,List.length_map];refine q1.trans ?_;simp only[List.length_map,List.length_range];congr 2;congr 1;refine congrArg O.lst (Xb5 fun n=>?_)
 unfold prt sk
 by_cases z:i<=n
 ·rw[if_pos z]
  by_cases z2:n<i+b.length
  ·rw[if_pos ⟨z,z2⟩]
  ·rw[if_neg (by omega)]
   unfold gd;rw[List.getD_eq_getElem?_getD,List.getElem?_eq_none (by omega)];simp
 ·rw[if_neg z,if_neg (by omega)];simp
theorem Xr6{a b:List Int}{S:Sto}(h1:1<=a.length)(h2:1<=b.length)(hl:a.length+b.length<=30)(hm:∀ x∈a,∀ y∈b,Xy x y=true):∃ X,den F G Xs7 [Xa a,Xa b] S=.ok (Xa (cvL a b)) (S++X):=by
 have hn:(a.length:Int)+b.length-1=((a.length+b.length-1:Nat):Int):=by omega
 have ez:ev F G (.bin .mul (.lst (.cons (.cst (.int 0)) .nil)) (.bin .sub (.bin .add (.blt .len (.cons (.var 0) .nil)) (.blt .len (.cons (.var 1) .nil))) (.cst (.int 1)))) [some (Xa a),some (Xa b),none,none,none,none,none] S=.ok (.ref (S++[O.lst [.int 0]]).length) (S++[.lst [.int 0]]++[.lst (fnD (a.length+b.length-1) fun _=>0)]):=by
  have hl1:lstM (S++[O.lst [.int 0]]) S.length=some [.int 0]:=Xq;simp only[ev,evs,gZ0,gS0,Rk0];rw[if_pos (X9 (by simp)),Rk0]
  simp only[Y0,Rk0,Xx,Yb,hn,Xm,hl1];have hb:([D.int 0]:List D).length*(((a.length+b.length-1:Nat):Int)).toNat<=big:=X9 (by simp;omega)
  rw[if_pos ⟨by omega,hb,by omega⟩,Int.toNat_natCast,Xev]
  congr 3;unfold fnD;rw[List.map_const',List.length_range]
 have s1:=Xad (i:=2) ez;refine⟨[.lst [.int 0]]++[.lst ((cvL a b).map D.int)],?_⟩;rw[<- List.append_assoc];generalize S++[O.lst [.int 0]]=P at s1;have hit:evit F G (.enm (.cons (.var 0) .nil)) [some (Xa a),some (Xa b),some (.ref P.length),none,none,none,none] (P++[.lst (fnD (a.length+b.length-1) fun _=>0)])=.ok (.enm (.con (a.map D.int))) (P++[.lst (fnD (a.length+b.length-1) fun _=>0)]):=by
  simp only[evit,evs,ev,gZ0,gS0,Rk0,Xa,Xs]
 obtain⟨e',S',q1,⟨u3,u4,u5,u6,rfl,rfl⟩⟩:=Xat (get:=(Src.enm (.con (a.map D.int))).get) (t:=.tup [3,4]) (body:=fun env S=>exes F G eaI env S) ((List.range a.length).map (Xhy a))
  (fun i e S=>∃ u3 u4 u5 u6,e=[some (Xa a),some (Xa b),some (.ref P.length),u3,u4,u5,u6]/\S=P++[.lst (fnD (a.length+b.length-1) (bsm a b i))])
  (fun j e S _=>by
   rw[Xo7];congr 1;simp only[List.getElem?_map]
   by_cases q:j<a.length
   ·simp[q,List.getD,Xhy]
   ·simp[q])
  (fun i d e S hd hP=>by
   obtain⟨u3,u4,u5,u6,rfl,rfl⟩:=hP;have hi:i<a.length:=by have:=(List.getElem?_eq_some_iff.mp hd).1;simpa using this
   simp only[List.getElem?_map,List.getElem?_range hi,Option.map_some,Option.some.injEq] at hd;subst hd;have ha:a.getD i 0∈a:=by rw[List.getD_eq_getElem?_getD,List.getElem?_eq_getElem hi];exact List.getElem_mem hi
   obtain⟨v5,v6,hin⟩:=Xr5 (F:=F) (G:=G) (a0:=some (Xa a)) (b:=b) (i:=i) (N:=a.length+b.length-1) (x:=a.getD i 0) (f:=bsm a b i) (P:=P) (u:=u5) (v:=u6) (by omega) (hm _ ha)
   refine⟨[some (Xa a),some (Xa b),some (.ref P.length),some (.int i),some (.int (a.getD i 0)),u5,u6],_,_,rfl,?_,some (.int i),some (.int (a.getD i 0)),v5,v6,rfl,rfl⟩;unfold eaI;rw[Xe hin];simp only[exes];congr 2;congr 1;refine congrArg O.lst (Xb5 fun n=>?_)
   rw[Xr4];rfl)
  (a.length+1) 0 [some (Xa a),some (Xa b),some (.ref P.length),none,none,none,none] (P++[.lst (fnD (a.length+b.length-1) fun _=>0)]) ⟨none,none,none,none,rfl,rfl⟩ (Nat.zero_le _) (by simp)
 have s2:exe F G (.for (.tup [3,4]) (.enm (.cons (.var 0) .nil)) eaI) [some (Xa a),some (Xa b),some (.ref P.length),none,none,none,none] (P++[.lst (fnD (a.length+b.length-1) fun _=>0)])=.ok (.nx [some (Xa a),some (Xa b),some (.ref P.length),u3,u4,u5,u6]) (P++[.lst ((cvL a b).map D.int)]):=by
  simp only[exe,hit,Rk0,Src.most,List.length_map];refine q1.trans ?_;simp only[List.length_map,List.length_range];congr 2;congr 1;unfold fnD cvL;rw[List.map_map];refine congrArg O.lst (List.map_congr_left fun n _=>?_)
  rw[Xv7];rfl
 have ht:Xr .tuple [.ref P.length] (P++[.lst ((cvL a b).map D.int)])=.ok (Xa (cvL a b)) (P++[.lst ((cvL a b).map D.int)]):=by simp only[Xr,Xw,Xq,Xa]
 exact Xby (env:=[some (Xa a),some (Xa b),none,none,none,none,none]) rfl rfl ((Xe s1).trans ((Xe s2).trans (Xl (by simp only[exe,ev,evs,gZ0,gS0,Rk0,ht]))))
end
end Z
end
section
namespace K14
open PySem PySem.Spec PyProof.Rows L2 Z
noncomputable def top(i:Nat):Stmt:=PySem.Challenge.pw_facecounts_k14_whole_rows.main.body.getD i (.Pass ⟨0,0,0,0⟩)
noncomputable def gns:List Str:=["GREATEST_WIDTH"]
noncomputable def G:List D:=[.int 11]
noncomputable def fns:List (Str×Nat×Bool):=[("is_whole",1,true),("is_whole_within",3,true),("is_whole_tuple",1,true),("ways",2,true),("is_row",1,true),("turned",1,true),("turned_back",1,true),("is_even",1,true),("first_uneven",1,true),("steps",1,true),("by_steps",2,true),("by_half",2,true),("check_row",1,true),("check_half",2,true),("growth",1,true),("half_size",1,true),("parts_at",2,true),("in_turns",1,true),("mirrored",2,true),("_law_cell_at",2,true),("_law_pot",1,true),("_law_take",2,true),("_law_turned",2,true),("_law_row",1,true),("_law_each_with_each",2,true),("_law_right",1,true),("law",1,true)]
noncomputable def Xfh:Sts:=(.cons (.ret (.and (.isi (.var 0) [.int]) (.not (.isi (.var 0) [.bool]))))
  .nil)
noncomputable def d_is_whole:Df:=⟨1,1,Xfh⟩
noncomputable def n_is_whole:List Str:=["thing"]
noncomputable def Xbi:Sts:=(.cons (.ret (.and (.call 0 (.cons (.var 0) .nil)) (.chn .le .le (.var 1) (.var 0) (.var 2))))
  .nil)
noncomputable def d_is_whole_within:Df:=⟨3,3,Xbi⟩
noncomputable def n_is_whole_within:List Str:=["thing","low","high"]
noncomputable def Xb0:Sts:=(.cons (.ret (.and (.isi (.var 0) [.tuple]) (.blt .all (.cons (.cmr false 2 (.cons (.var 2) (.val (.var 0)) .nil .nil) (.call 0 (.cons (.var 2) .nil))) .nil))))
  .nil)
noncomputable def d_is_whole_tuple:Df:=⟨1,1,Xb0⟩
noncomputable def n_is_whole_tuple:List Str:=["thing"]
noncomputable def Xpc:Sts:=(.cons (.asg (.var 2) (.cst (.int 1)))
  (.cons (.for (.var 3) (.rng (.cons (.var 1) .nil)) (.cons (.asg (.var 2) (.bin .fdiv (.bin .mul (.var 2) (.bin .sub (.var 0) (.var 3))) (.bin .add (.var 3) (.cst (.int 1)))))
  .nil))
  (.cons (.ret (.var 2))
  .nil)))
noncomputable def d_ways:Df:=⟨2,4,Xpc⟩
noncomputable def n_ways:List Str:=["things","number","told","at"]
noncomputable def Xjo:Sts:=(.cons (.ret (.and (.call 2 (.cons (.var 0) .nil)) (.chn .le .le (.cst (.int 1)) (.blt .len (.cons (.var 0) .nil)) (.bin .add (.glb 0) (.cst (.int 1))))))
  .nil)
noncomputable def d_is_row:Df:=⟨1,1,Xjo⟩
noncomputable def n_is_row:List Str:=["thing"]
noncomputable def Xjp:Sts:=(.cons (.expr (.call 12 (.cons (.var 0) .nil)))
  (.cons (.ret (.blt .tuple (.cons (.cmr false 2 (.cons (.var 2) (.rng (.cons (.blt .len (.cons (.var 0) .nil)) .nil)) .nil .nil) (.call 17 (.cons (.call 16 (.cons (.var 0) (.cons (.var 2) .nil))) .nil))) .nil)))
  .nil))
noncomputable def d_turned:Df:=⟨1,1,Xjp⟩
noncomputable def n_turned:List Str:=["row"]
noncomputable def Xc5:Sts:=(.cons (.expr (.call 12 (.cons (.var 0) .nil)))
  (.cons (.ret (.blt .tuple (.cons (.cmr false 2 (.cons (.var 2) (.rng (.cons (.blt .len (.cons (.var 0) .nil)) .nil)) .nil .nil) (.blt .sum (.cons (.call 16 (.cons (.var 0) (.cons (.var 2) .nil))) .nil))) .nil)))
  .nil))
noncomputable def d_turned_back:Df:=⟨1,1,Xc5⟩
noncomputable def n_turned_back:List Str:=["row"]
noncomputable def Xhg:Sts:=(.cons (.ret (.cmp .is (.call 8 (.cons (.var 0) .nil)) (.cst .non)))
  .nil)
noncomputable def d_is_even:Df:=⟨1,1,Xhg⟩
noncomputable def n_is_even:List Str:=["row"]
noncomputable def Xcl:Sts:=(.cons (.asg (.var 1) (.call 5 (.cons (.var 0) .nil)))
  (.cons (.for (.nst 2 [3,4]) (.ezp (.cons (.var 1) (.cons (.rev (.var 1)) .nil))) (.cons (.ite (.cmp .ne (.var 3) (.var 4)) (.cons (.ret (.var 2))
  .nil) .nil)
  .nil))
  (.cons (.ret (.cst .non))
  .nil)))
noncomputable def d_first_uneven:Df:=⟨1,5,Xcl⟩
noncomputable def n_first_uneven:List Str:=["row","there","place","number","behind"]
noncomputable def Xk5:Sts:=(.cons (.ret (.call 14 (.cons (.call 5 (.cons (.var 0) .nil)) .nil)))
  .nil)
noncomputable def d_steps:Df:=⟨1,1,Xk5⟩
noncomputable def n_steps:List Str:=["row"]
noncomputable def Xfi:Sts:=(.cons (.expr (.call 13 (.cons (.var 0) (.cons (.var 1) .nil))))
  (.cons (.asg (.var 2) (.lst .nil))
  (.cons (.asg (.var 3) (.cst (.int 0)))
  (.cons (.for (.var 4) (.val (.var 1)) (.cons (.aug 3 .add (.var 4))
  (.cons (.expr (.mth .append (.var 2) (.cons (.var 3) .nil)))
  .nil)))
  (.cons (.ret (.call 6 (.cons (.call 18 (.cons (.var 0) (.cons (.blt .tuple (.cons (.var 2) .nil)) .nil))) .nil)))
  .nil)))))
noncomputable def d_by_steps:Df:=⟨2,5,Xfi⟩
noncomputable def n_by_steps:List Str:=["width","numbers","half","reached","number"]
noncomputable def Xhh:Sts:=(.cons (.expr (.call 13 (.cons (.var 0) (.cons (.var 1) .nil))))
  (.cons (.asg (.var 2) (.bin .add (.var 1) (.bin .mul (.tup (.cons (.cst (.int 0)) .nil)) (.bin .sub (.bin .add (.var 0) (.cst (.int 1))) (.blt .len (.cons (.var 1) .nil))))))
  (.cons (.ret (.call 6 (.cons (.call 18 (.cons (.var 0) (.cons (.sli (.call 5 (.cons (.var 2) .nil)) .none (.some (.blt .len (.cons (.var 1) .nil)))) .nil))) .nil)))
  .nil)))
noncomputable def d_by_half:Df:=⟨2,3,Xhh⟩
noncomputable def n_by_half:List Str:=["width","numbers","filled"]
noncomputable def Xec:Sts:=(.cons (.ite (.not (.call 4 (.cons (.var 0) .nil))) (.cons (.rse 7 (.cst (.str "a row is due")))
  .nil) .nil)
  .nil)
noncomputable def d_check_row:Df:=⟨1,1,Xec⟩
noncomputable def n_check_row:List Str:=["thing"]
noncomputable def Xdk:Sts:=(.cons (.ite (.not (.call 1 (.cons (.var 0) (.cons (.cst (.int 0)) (.cons (.glb 0) .nil))))) (.cons (.rse 8 (.cst (.str "a width from 0 to 11 is due")))
  .nil) .nil)
  (.cons (.ite (.or (.not (.call 2 (.cons (.var 1) .nil))) (.cmp .ne (.blt .len (.cons (.var 1) .nil)) (.call 15 (.cons (.var 0) .nil)))) (.cons (.rse 7 (.cst (.str "a tuple of one more whole numbers than half of the width is due")))
  .nil) .nil)
  .nil))
noncomputable def d_check_half:Df:=⟨2,2,Xdk⟩
noncomputable def n_check_half:List Str:=["width","numbers"]
noncomputable def Xjq:Sts:=(.cons (.asg (.var 1) (.sli (.var 0) .none (.some (.call 15 (.cons (.bin .sub (.blt .len (.cons (.var 0) .nil)) (.cst (.int 1))) .nil)))))
  (.cons (.ret (.bin .add (.sli (.var 1) .none (.some (.cst (.int 1)))) (.blt .tuple (.cons (.cmr false 3 (.cons (.tup [3,4]) (.zpp (.cons (.var 1) (.cons (.sli (.var 1) (.some (.cst (.int 1))) .none) .nil))) .nil .nil) (.bin .sub (.var 4) (.var 3))) .nil))))
  .nil))
noncomputable def d_growth:Df:=⟨1,2,Xjq⟩
noncomputable def n_growth:List Str:=["there","half"]
noncomputable def Xed:Sts:=(.cons (.ret (.bin .add (.bin .fdiv (.var 0) (.cst (.int 2))) (.cst (.int 1))))
  .nil)
noncomputable def d_half_size:Df:=⟨1,1,Xed⟩
noncomputable def n_half_size:List Str:=["width"]
noncomputable def Xfj:Sts:=(.cons (.asg (.var 2) (.bin .sub (.blt .len (.cons (.var 0) .nil)) (.cst (.int 1))))
  (.cons (.ret (.cmr false 2 (.cons (.var 4) (.rng (.cons (.bin .add (.var 1) (.cst (.int 1))) .nil)) .nil .nil) (.bin .mul (.idx (.var 0) (.var 4)) (.call 3 (.cons (.bin .sub (.var 2) (.var 4)) (.cons (.bin .sub (.var 1) (.var 4)) .nil))))))
  .nil))
noncomputable def d_parts_at:Df:=⟨2,3,Xfj⟩
noncomputable def n_parts_at:List Str:=["row","place","width"]
noncomputable def Xfk:Sts:=(.cons (.ret (.bin .sub (.blt .sum (.cons (.rv2 false (.var 0)) .nil)) (.blt .sum (.cons (.rv2 true (.var 0)) .nil))))
  .nil)
noncomputable def d_in_turns:Df:=⟨1,1,Xfk⟩
noncomputable def n_in_turns:List Str:=["parts"]
noncomputable def Xfl:Sts:=(.cons (.ret (.bin .add (.var 1) (.rev (.sli (.var 1) .none (.some (.bin .sub (.bin .add (.var 0) (.cst (.int 1))) (.blt .len (.cons (.var 1) .nil))))))))
  .nil)
noncomputable def d_mirrored:Df:=⟨2,2,Xfl⟩
noncomputable def n_mirrored:List Str:=["width","half"]
noncomputable def Xcm:Sts:=(.cons (.ite (.cmp .lt (.var 1) (.blt .len (.cons (.var 0) .nil))) (.cons (.ret (.idx (.var 0) (.var 1)))
  .nil) .nil)
  (.cons (.ret (.cst (.int 0)))
  .nil))
noncomputable def d__law_cell_at:Df:=⟨2,2,Xcm⟩
noncomputable def n__law_cell_at:List Str:=["_law_script","_law_k"]
noncomputable def Xfm:Sts:=(.cons (.ite (.cmp .ge (.var 0) (.bin .pow (.cst (.int 10)) (.cst (.int 18)))) (.cons (.ret (.lst (.cons (.bin .sub (.var 0) (.bin .pow (.cst (.int 10)) (.cst (.int 18)))) .nil)))
  .nil) .nil)
  (.cons (.asg (.var 1) (.cst (.int 0)))
  (.cons (.for (.var 2) (.rng (.cons (.cst (.int 64)) .nil)) (.cons (.asg (.var 3) (.bin .mod (.bin .mul (.bin .add (.bin .add (.bin .mod (.var 0) (.cst (.int 2147483629))) (.bin .mul (.cst (.int 7919)) (.var 2))) (.cst (.int 1))) (.cst (.int 48271))) (.cst (.int 2147483647))))
  (.cons (.asg (.var 3) (.bin .mod (.bin .add (.bin .add (.bin .mul (.var 3) (.var 3)) (.bin .mul (.cst (.int 69621)) (.var 2))) (.cst (.int 7))) (.cst (.int 2147483587))))
  (.cons (.asg (.var 1) (.bin .add (.bin .mul (.var 1) (.cst (.int 2147483587))) (.var 3)))
  .nil))))
  (.cons (.ret (.lst (.cons (.var 1) .nil)))
  .nil))))
noncomputable def d__law_pot:Df:=⟨1,4,Xfm⟩
noncomputable def n__law_pot:List Str:=["_law_cell","_law_number","_law_j","_law_more"]
noncomputable def Xee:Sts:=(.cons (.asg (.var 2) (.bin .mod (.idx (.var 0) (.cst (.int 0))) (.var 1)))
  (.cons (.aset (.var 0) (.cst (.int 0)) (.bin .fdiv (.idx (.var 0) (.cst (.int 0))) (.var 1)))
  (.cons (.ret (.var 2))
  .nil)))
noncomputable def d__law_take:Df:=⟨2,3,Xee⟩
noncomputable def n__law_take:List Str:=["_law_pot_here","_law_far","_law_found"]
noncomputable def Xc6:Sts:=(.cons (.asg (.var 2) (.lst .nil))
  (.cons (.for (.var 3) (.val (.var 0)) (.cons (.asg (.var 2) (.cmr false 3 (.cons (.tup [5,6]) (.zpp (.cons (.bin .add (.var 2) (.lst (.cons (.cst (.int 0)) .nil))) (.cons (.bin .add (.lst (.cons (.cst (.int 0)) .nil)) (.var 2)) .nil))) .nil .nil) (.bin .add (.var 5) (.bin .mul (.var 1) (.var 6)))))
  (.cons (.aset (.var 2) (.neg (.cst (.int 1))) (.bin .add (.idx (.var 2) (.neg (.cst (.int 1)))) (.var 3)))
  .nil)))
  (.cons (.ret (.blt .tuple (.cons (.var 2) .nil)))
  .nil)))
noncomputable def d__law_turned:Df:=⟨2,4,Xc6⟩
noncomputable def n__law_turned:List Str:=["_law_row_here","_law_sign","_law_found","_law_number"]
noncomputable def Xfn:Sts:=(.cons (.asg (.var 1) (.call 21 (.cons (.var 0) (.cons (.cst (.int 4)) .nil))))
  (.cons (.asg (.var 2) (.call 21 (.cons (.var 0) (.cons (.cst (.int 12)) .nil))))
  (.cons (.asg (.var 3) (.idx (.lst (.cons (.cst (.int 4)) (.cons (.cst (.int 1000)) (.cons (.bin .pow (.cst (.int 10)) (.cst (.int 9))) (.cons (.bin .pow (.cst (.int 10)) (.cst (.int 20))) .nil))))) (.call 21 (.cons (.var 0) (.cons (.cst (.int 4)) .nil)))))
  (.cons (.par [5,6] (.cons (.call 21 (.cons (.var 0) (.cons (.bin .add (.var 2) (.cst (.int 1))) .nil))) (.cons (.bin .sub (.bin .mul (.cst (.int 2)) (.call 21 (.cons (.var 0) (.cons (.cst (.int 2)) .nil)))) (.cst (.int 1))) .nil)))
  (.cons (.asg (.var 4) (.blt .tuple (.cons (.cmr false 2 (.cons (.var 8) (.rng (.cons (.bin .add (.var 2) (.cst (.int 1))) .nil)) .nil .nil) (.bin .sub (.call 21 (.cons (.var 0) (.cons (.bin .add (.bin .mul (.cst (.int 2)) (.var 3)) (.cst (.int 1))) .nil))) (.var 3))) .nil)))
  (.cons (.ite (.cmp .eq (.var 1) (.cst (.int 0))) (.cons (.ret (.var 4))
  .nil) .nil)
  (.cons (.asg (.var 4) (.call 22 (.cons (.cmr false 2 (.cons (.var 8) (.rng (.cons (.bin .add (.var 2) (.cst (.int 1))) .nil)) .nil .nil) (.idx (.var 4) (.blt .min (.cons (.var 8) (.cons (.bin .sub (.var 2) (.var 8)) .nil))))) (.cons (.cst (.int 1)) .nil))))
  (.cons (.ite (.cmp .eq (.var 1) (.cst (.int 1))) (.cons (.asg (.var 4) (.bin .add (.bin .add (.sli (.var 4) .none (.some (.var 5))) (.tup (.cons (.bin .add (.idx (.var 4) (.var 5)) (.var 6)) .nil))) (.sli (.var 4) (.some (.bin .add (.var 5) (.cst (.int 1)))) .none)))
  .nil) .nil)
  (.cons (.ret (.var 4))
  .nil)))))))))
noncomputable def d__law_row:Df:=⟨1,7,Xfn⟩
noncomputable def n__law_row:List Str:=["_law_pot_here","_law_way","_law_width","_law_far","_law_row_here","_law_at","_law_more"]
noncomputable def Xau:Sts:=(.cons (.asg (.var 2) (.bin .mul (.lst (.cons (.cst (.int 0)) .nil)) (.bin .sub (.bin .add (.blt .len (.cons (.var 0) .nil)) (.blt .len (.cons (.var 1) .nil))) (.cst (.int 1)))))
  (.cons (.for (.tup [3,4]) (.enm (.cons (.var 0) .nil)) (.cons (.for (.tup [5,6]) (.enm (.cons (.var 1) .nil)) (.cons (.aset (.var 2) (.bin .add (.var 3) (.var 5)) (.bin .add (.idx (.var 2) (.bin .add (.var 3) (.var 5))) (.bin .mul (.var 4) (.var 6))))
  .nil))
  .nil))
  (.cons (.ret (.blt .tuple (.cons (.var 2) .nil)))
  .nil)))
noncomputable def d__law_each_with_each:Df:=⟨2,7,Xau⟩
noncomputable def n__law_each_with_each:List Str:=["_law_one","_law_other","_law_found","_law_place","_law_mine","_law_spot","_law_own"]
noncomputable def Xdl:Sts:=(.cons (.asg (.var 1) (.bin .sub (.blt .len (.cons (.var 0) .nil)) (.cst (.int 1))))
  (.cons (.ite (.or (.cmp .ne (.call 6 (.cons (.call 5 (.cons (.var 0) .nil)) .nil)) (.var 0)) (.or (.cmp .ne (.call 5 (.cons (.call 6 (.cons (.var 0) .nil)) .nil)) (.var 0)) (.cmp .isnot (.call 4 (.cons (.call 5 (.cons (.var 0) .nil)) .nil)) (.cst (.bl true))))) (.cons (.ret (.cst (.bl false)))
  .nil) .nil)
  (.cons (.asg (.var 2) (.call 8 (.cons (.var 0) .nil)))
  (.cons (.ite (.cmp .ne (.cmp .is (.var 2) (.cst .non)) (.call 7 (.cons (.var 0) .nil))) (.cons (.ret (.cst (.bl false)))
  .nil) .nil)
  (.cons (.ite (.cmp .isnot (.var 2) (.cst .non)) (.cons (.ret (.and (.cmp .lt (.bin .mul (.cst (.int 2)) (.var 2)) (.var 1)) (.cmp .ne (.call 10 (.cons (.var 1) (.cons (.call 9 (.cons (.var 0) .nil)) .nil))) (.var 0))))
  .nil) .nil)
  (.cons (.ret (.and (.cmp .eq (.call 10 (.cons (.var 1) (.cons (.call 9 (.cons (.var 0) .nil)) .nil))) (.var 0)) (.cmp .eq (.call 11 (.cons (.var 1) (.cons (.sli (.var 0) .none (.some (.bin .add (.bin .fdiv (.var 1) (.cst (.int 2))) (.cst (.int 1))))) .nil))) (.var 0))))
  .nil))))))
noncomputable def d__law_right:Df:=⟨1,3,Xdl⟩
noncomputable def n__law_right:List Str:=["_law_row_here","_law_width","_law_place"]
noncomputable def Xh0:Sts:=(.cons (.for (.var 1) (.rng (.cons (.blt .max (.cons (.cst (.int 1)) (.cons (.blt .min (.cons (.blt .len (.cons (.var 0) .nil)) (.cons (.cst (.int 12)) .nil))) .nil))) .nil)) (.cons (.asg (.var 2) (.call 20 (.cons (.call 19 (.cons (.var 0) (.cons (.var 1) .nil))) .nil)))
  (.cons (.par [5,3] (.cons (.call 23 (.cons (.var 2) .nil)) (.cons (.call 23 (.cons (.var 2) .nil)) .nil)))
  (.cons (.ite (.or (.not (.call 25 (.cons (.var 5) .nil))) (.not (.call 25 (.cons (.call 5 (.cons (.var 5) .nil)) .nil)))) (.cons (.ret (.cst (.bl false)))
  .nil) .nil)
  (.cons (.asg (.var 3) (.sli (.var 3) .none (.some (.bin .sub (.cst (.int 13)) (.blt .len (.cons (.var 5) .nil))))))
  (.cons (.asg (.var 4) (.call 24 (.cons (.var 5) (.cons (.var 3) .nil))))
  (.cons (.ite (.cmp .ne (.call 5 (.cons (.var 4) .nil)) (.call 24 (.cons (.call 5 (.cons (.var 5) .nil)) (.cons (.call 5 (.cons (.var 3) .nil)) .nil)))) (.cons (.ret (.cst (.bl false)))
  .nil) .nil)
  (.cons (.ite (.and (.call 7 (.cons (.var 5) .nil)) (.and (.call 7 (.cons (.var 3) .nil)) (.not (.call 7 (.cons (.var 4) .nil))))) (.cons (.ret (.cst (.bl false)))
  .nil) .nil)
  .nil))))))))
  (.cons (.ret (.cst (.bl true)))
  .nil))
noncomputable def d_law:Df:=⟨1,6,Xh0⟩
noncomputable def n_law:List Str:=["_law_script","_law_k","_law_pot_here","_law_other","_law_whole","_law_row_here"]
noncomputable def T:List Df:=[d_is_whole,d_is_whole_within,d_is_whole_tuple,d_ways,d_is_row,d_turned,d_turned_back,d_is_even,d_first_uneven,d_steps,d_by_steps,d_by_half,d_check_row,d_check_half,d_growth,d_half_size,d_parts_at,d_in_turns,d_mirrored,d__law_cell_at,d__law_pot,d__law_take,d__law_turned,d__law_row,d__law_each_with_each,d__law_right,d_law]
theorem Xmq:mtSs fns gns (Xb (top 5)) n_is_whole true Xfh (Xh (top 5))=true:=by decide+kernel
theorem Xmr:Xu n_is_whole (n_is_whole.take d_is_whole.np) (Xb (top 5))=true:=by decide+kernel
theorem Xd5:mtSs fns gns (Xb (top 6)) n_is_whole_within true Xbi (Xh (top 6))=true:=by decide+kernel
theorem Xd6:Xu n_is_whole_within (n_is_whole_within.take d_is_whole_within.np) (Xb (top 6))=true:=by decide+kernel
theorem Xew:mtSs fns gns (Xb (top 7)) n_is_whole_tuple true Xb0 (Xh (top 7))=true:=by decide+kernel
theorem Xex:Xu n_is_whole_tuple (n_is_whole_tuple.take d_is_whole_tuple.np) (Xb (top 7))=true:=by decide+kernel
theorem Xzq:mtSs fns gns (Xb (top 9)) n_ways true Xpc (Xh (top 9))=true:=by decide+kernel
theorem Xzr:Xu n_ways (n_ways.take d_ways.np) (Xb (top 9))=true:=by decide+kernel
theorem Xr7:mtSs fns gns (Xb (top 12)) n_is_row true Xjo (Xh (top 12))=true:=by decide+kernel
theorem Xr8:Xu n_is_row (n_is_row.take d_is_row.np) (Xb (top 12))=true:=by decide+kernel
theorem Xr9:mtSs fns gns (Xb (top 13)) n_turned true Xjp (Xh (top 13))=true:=by decide+kernel
theorem Xsa:Xu n_turned (n_turned.take d_turned.np) (Xb (top 13))=true:=by decide+kernel
theorem Xhl:mtSs fns gns (Xb (top 14)) n_turned_back true Xc5 (Xh (top 14))=true:=by decide+kernel
theorem Xhm:Xu n_turned_back (n_turned_back.take d_turned_back.np) (Xb (top 14))=true:=by decide+kernel
theorem Xpd:mtSs fns gns (Xb (top 15)) n_is_even true Xhg (Xh (top 15))=true:=by decide+kernel
theorem Xpe:Xu n_is_even (n_is_even.take d_is_even.np) (Xb (top 15))=true:=by decide+kernel
theorem Xgr:mtSs fns gns (Xb (top 16)) n_first_uneven true Xcl (Xh (top 16))=true:=by decide+kernel
theorem Xgs:Xu n_first_uneven (n_first_uneven.take d_first_uneven.np) (Xb (top 16))=true:=by decide+kernel
theorem Xwa:mtSs fns gns (Xb (top 17)) n_steps true Xk5 (Xh (top 17))=true:=by decide+kernel
theorem Xwb:Xu n_steps (n_steps.take d_steps.np) (Xb (top 17))=true:=by decide+kernel
theorem Xms:mtSs fns gns (Xb (top 18)) n_by_steps true Xfi (Xh (top 18))=true:=by decide+kernel
theorem Xmt:Xu n_by_steps (n_by_steps.take d_by_steps.np) (Xb (top 18))=true:=by decide+kernel
theorem Xpf:mtSs fns gns (Xb (top 19)) n_by_half true Xhh (Xh (top 19))=true:=by decide+kernel
theorem Xpg:Xu n_by_half (n_by_half.take d_by_half.np) (Xb (top 19))=true:=by decide+kernel
theorem Xjy:mtSs fns gns (Xb (top 20)) n_check_row true Xec (Xh (top 20))=true:=by decide+kernel
theorem Xjz:Xu n_check_row (n_check_row.take d_check_row.np) (Xb (top 20))=true:=by decide+kernel
theorem Xjr:mtSs fns gns (Xb (top 21)) n_check_half true Xdk (Xh (top 21))=true:=by decide+kernel
theorem Xjs:Xu n_check_half (n_check_half.take d_check_half.np) (Xb (top 21))=true:=by decide+kernel
theorem Xsb:mtSs fns gns (Xb (top 22)) n_growth true Xjq (Xh (top 22))=true:=by decide+kernel
theorem Xsc:Xu n_growth (n_growth.take d_growth.np) (Xb (top 22))=true:=by decide+kernel
theorem Xj0:mtSs fns gns (Xb (top 23)) n_half_size true Xed (Xh (top 23))=true:=by decide+kernel
theorem Xj1:Xu n_half_size (n_half_size.take d_half_size.np) (Xb (top 23))=true:=by decide+kernel
theorem Xmu:mtSs fns gns (Xb (top 24)) n_parts_at true Xfj (Xh (top 24))=true:=by decide+kernel
theorem Xmv:Xu n_parts_at (n_parts_at.take d_parts_at.np) (Xb (top 24))=true:=by decide+kernel
theorem Xmw:mtSs fns gns (Xb (top 25)) n_in_turns true Xfk (Xh (top 25))=true:=by decide+kernel
theorem Xmx:Xu n_in_turns (n_in_turns.take d_in_turns.np) (Xb (top 25))=true:=by decide+kernel
theorem Xmy:mtSs fns gns (Xb (top 26)) n_mirrored true Xfl (Xh (top 26))=true:=by decide+kernel
theorem Xmz:Xu n_mirrored (n_mirrored.take d_mirrored.np) (Xb (top 26))=true:=by decide+kernel
theorem Xgt:mtSs fns gns (Xb (top 28)) n__law_cell_at true Xcm (Xh (top 28))=true:=by decide+kernel
theorem Xgu:Xu n__law_cell_at (n__law_cell_at.take d__law_cell_at.np) (Xb (top 28))=true:=by decide+kernel
theorem Xm0:mtSs fns gns (Xb (top 29)) n__law_pot true Xfm (Xh (top 29))=true:=by decide+kernel
theorem Xm1:Xu n__law_pot (n__law_pot.take d__law_pot.np) (Xb (top 29))=true:=by decide+kernel
theorem Xj2:mtSs fns gns (Xb (top 30)) n__law_take true Xee (Xh (top 30))=true:=by decide+kernel
theorem Xj3:Xu n__law_take (n__law_take.take d__law_take.np) (Xb (top 30))=true:=by decide+kernel
theorem Xhn:mtSs fns gns (Xb (top 31)) n__law_turned true Xc6 (Xh (top 31))=true:=by decide+kernel
theorem Xho:Xu n__law_turned (n__law_turned.take d__law_turned.np) (Xb (top 31))=true:=by decide+kernel
theorem Xm2:mtSs fns gns (Xb (top 32)) n__law_row true Xfn (Xh (top 32))=true:=by decide+kernel
theorem Xm3:Xu n__law_row (n__law_row.take d__law_row.np) (Xb (top 32))=true:=by decide+kernel
theorem Xcn:mtSs fns gns (Xb (top 33)) n__law_each_with_each true Xau (Xh (top 33))=true:=by decide+kernel
theorem Xco:Xu n__law_each_with_each (n__law_each_with_each.take d__law_each_with_each.np) (Xb (top 33))=true:=by decide+kernel
theorem Xjt:mtSs fns gns (Xb (top 34)) n__law_right true Xdl (Xh (top 34))=true:=by decide+kernel
theorem Xju:Xu n__law_right (n__law_right.take d__law_right.np) (Xb (top 34))=true:=by decide+kernel
theorem Xs8:mtSs fns gns (Xb (top 35)) n_law true Xh0 (Xh (top 35))=true:=by decide+kernel
theorem Xs9:Xu n_law (n_law.take d_law.np) (Xb (top 35))=true:=by decide+kernel
end K14
end
section
namespace K14
open PySem Z
noncomputable def Xm4:Exs:=.cons (.cst (.int 4)) (.cons (.cst (.int 1000)) (.cons (.bin .pow (.cst (.int 10)) (.cst (.int 9))) (.cons (.bin .pow (.cst (.int 10)) (.cst (.int 20))) .nil)))
theorem t0:T[0]?=some Xe7:=rfl
theorem t1:T[1]?=some (Xge 0):=rfl
theorem t2:T[2]?=some (Xdy 0):=rfl
theorem t3:T[3]?=some Xhv:=rfl
theorem t4:T[4]?=some (Xi9 2):=rfl
theorem t5:T[5]?=some (Xgj 12 (Xl7 17 16)):=rfl
theorem t6:T[6]?=some (Xgj 12 (Xl8 16)):=rfl
theorem t7:T[7]?=some (Xzk 8):=rfl
theorem t8:T[8]?=some (Xmm 5):=rfl
theorem t9:T[9]?=some (Xzm 14 5):=rfl
theorem t10:T[10]?=some (Xjc 13 6 18):=rfl
theorem t11:T[11]?=some (Xd1 13 6 18 5):=rfl
theorem t12:T[12]?=some (Xrp 4):=rfl
theorem t13:T[13]?=some (Xeu 1 2 15):=rfl
theorem t14:T[14]?=some (Xs5 15):=rfl
theorem t15:T[15]?=some Xmc:=rfl
theorem t16:T[16]?=some (Xfa 3):=rfl
theorem t17:T[17]?=some Xfb:=rfl
theorem t18:T[18]?=some Xdz:=rfl
theorem t21:T[21]?=some Xhu:=rfl
theorem t22:T[22]?=some Xfe:=rfl
theorem t23:T[23]?=some (Xmj 21 22 Xm4):=rfl
theorem t24:T[24]?=some Xs7:=rfl
theorem g0:G[0]?=some (.int 11):=rfl
theorem ftx{k f:Nat}{d:Df}{ds:List D}{S:Sto}(h:T[f]?=some d):FT T G (k+1) f ds S=den (FT T G k) G d ds S:=by simp only[FT,h]
theorem whole(k:Nat):Xdh (FT T G (k+1)) 0:=Xov t0 k
theorem Xzs(k:Nat)(d:D)(S:Sto)(h:good S d):FT T G (k+2) 1 [d,.int 0,.int 11] S=.ok (.bl (wi d 0 11)) S:=by
 rw[ftx t1];exact Xl4 (whole k d S h)
theorem X1e(k:Nat):Xs0 (FT T G (k+2)) 2:=Xrn t2 (k+1) (whole k)
theorem ways(k n m:Nat)(S:Sto)(hn:n<=12)(hm:m<=12):FT T G (k+1) 3 [.int n,.int m] S=.ok (.int (C n m)) S:=by
 rw[ftx t3];exact Xrd n m S (by omega) hm
theorem Xji(k:Nat)(l:List Int)(S:Sto)(hl:l.length<=12):∃ X,FT T G (k+2) 2 [Xa l] S=.ok (.bl true) (S++X):=by
 obtain⟨X,h⟩:=X1e k (Xa l) S (Xg8 S _ (fun n z=>by cases z) (fun f m z=>by cases z)) (fun xs e=>by
  have e':l.map D.int=xs:=by injection e
  subst e';exact⟨Xow l S,by rw[List.length_map];omega⟩)
 rw[Xvg] at h;exact⟨X,h⟩
theorem Xph(k:Nat)(l:List Int)(S:Sto)(h1:1<=l.length)(hl:l.length<=12):∃ X,FT T G (k+3) 4 [Xa l] S=.ok (.bl true) (S++X):=by
 obtain⟨X,h⟩:=Xji k l S hl;exact⟨X,by rw[ftx t4];exact Xro h (Y0 l _) g0 (by omega) (by omega)⟩
theorem Xhi(k:Nat)(l:List Int)(S:Sto)(h1:1<=l.length)(hl:l.length<=12):∃ X,FT T G (k+4) 12 [Xa l] S=.ok .non (S++X):=by
 obtain⟨X,h⟩:=Xph k l S h1 hl;exact⟨X,by rw[ftx t12];exact Xy6 h⟩
theorem parts(k:Nat)(l:List Int)(p:Nat)(S:Sto)(h:p<l.length)(hl:l.length<=12):FT T G (k+2) 16 [Xa l,.int p] S=.ok (.ref S.length) (S++[.lst (Xao l p)]):=by
 rw[ftx t16];exact Xos (fun n m S hn hm=>ways k n m S hn hm) l p S h hl
theorem turns(k:Nat)(S:Sto)(q:Nat)(l:List Int)(h:Xd S q=some (l.map D.int)):∃ X,FT T G (k+1) 17 [.ref q] S=.ok (.int (Xa2 l.reverse)) (S++X):=by
 rw[ftx t17];exact Xot h
theorem turned(k:Nat)(l:List Int)(S:Sto)(h1:1<=l.length)(hl:l.length<=12):∃ X,FT T G (k+5) 5 [Xa l] S=.ok (Xa (tT (-1) l)) (S++X):=by
 obtain⟨X,hc⟩:=Xhi k l S h1 hl;obtain⟨Y,h⟩:=Xl9 (F:=FT T G (k+4)) (G:=G) (ii:=17) (ip:=16) hl hc (fun p S h=>parts (k+2) l p S h hl) (fun S q l' h=>turns (k+3) S q l' h)
 exact⟨X++Y,by rw[ftx t5,<- List.append_assoc];exact h⟩
theorem Xbd(k:Nat)(l:List Int)(S:Sto)(h1:1<=l.length)(hl:l.length<=12):∃ X,FT T G (k+5) 6 [Xa l] S=.ok (Xa (tT 1 l)) (S++X):=by
 obtain⟨X,hc⟩:=Xhi k l S h1 hl;obtain⟨Y,h⟩:=Xrk (F:=FT T G (k+4)) (G:=G) (ip:=16) hl hc (fun p S h=>parts (k+2) l p S h hl)
 exact⟨X++Y,by rw[ftx t6,<- List.append_assoc];exact h⟩
theorem Xhj(k:Nat)(w:Int)(S:Sto):FT T G (k+1) 15 [.int w] S=.ok (.int (w/2+1)) S:=by
 rw[ftx t15];exact Xrq w S
theorem Xjv(k w:Nat)(h:List Int)(S:Sto)(hl:h.length=w/2+1)(hw:w<=11):FT T G (k+1) 18 [.int w,Xa h] S=.ok (Xa (mir w h)) S:=by
 rw[ftx t18];exact Xmd hl hw
theorem Xfo(k w:Nat)(l:List Int)(S:Sto)(hl:l.length=w/2+1)(hw:w<=11):∃ X,FT T G (k+3) 13 [.int w,Xa l] S=.ok .non (S++X):=by
 obtain⟨X,h⟩:=Xji k l S (by omega)
 have h1:=Xzs k (.int w) S (Xi3 S w);rw[Xy3 (by omega) (by omega)] at h1
 have h4:=Xhj (k+1) w (S++X);have e:(w:Int)/2+1=(l.length:Int):=by omega
 rw[e] at h4;exact⟨X,by rw[ftx t13];exact Xrr g0 h1 h (Y0 l _) h4⟩
theorem Xwc(l:List Int)(n:Nat):(pre l n).length=n:=by simp[pre]
theorem Xsd(k w:Nat)(l:List Int)(S:Sto)(hl:l.length=w/2+1)(hw:w<=11):∃ X,FT T G (k+6) 10 [.int w,Xa l] S=.ok (Xa (tT 1 (mir w (pre l l.length)))) (S++X):=by
 obtain⟨X,hc⟩:=Xfo (k+2) w l S hl hw;have hp:(pre l l.length).length=w/2+1:=by rw[Xwc];exact hl
 obtain⟨Y,h⟩:=Xoz (F:=FT T G (k+5)) (G:=G) (ib:=6) (im:=18) hl hw hc (fun S=>Xjv (k+4) w _ S hp hw) (fun S=>Xbd k _ S (by rw[Y8 hp];omega) (by rw[Y8 hp];omega))
 exact⟨X++Y,by rw[ftx t10,<- List.append_assoc];exact h⟩
theorem Xwd(w:Nat)(l:List Int)(hl:l.length=w/2+1):(fil w l).length=w+1:=by simp[fil];omega
theorem Xwe(k w:Nat)(l:List Int)(S:Sto)(hl:l.length=w/2+1)(hw:w<=11):∃ X,FT T G (k+6) 11 [.int w,Xa l] S=.ok (Xa (tT 1 (mir w ((tT (-1) (fil w l)).take l.length)))) (S++X):=by
 obtain⟨X,hc⟩:=Xfo (k+2) w l S hl hw;have hf:=Xwd w l hl;have hp:((tT (-1) (fil w l)).take l.length).length=w/2+1:=by rw[List.length_take,Xv,hf];omega
 obtain⟨Y,h⟩:=Xmg (F:=FT T G (k+5)) (G:=G) (ib:=6) (im:=18) (it:=5) hl hw hc (fun S=>turned k _ S (by omega) (by omega)) (fun S=>Xjv (k+4) w _ S hp hw) (fun S=>Xbd k _ S (by rw[Y8 hp];omega) (by rw[Y8 hp];omega))
 exact⟨X++Y,by rw[ftx t11,<- List.append_assoc];exact h⟩
theorem Xzt(k:Nat)(l:List Int)(S:Sto)(h1:1<=l.length)(hl:l.length<=12):∃ X,FT T G (k+6) 8 [Xa l] S=.ok (Xcb (Yc (tT (-1) l))) (S++X):=by
 obtain⟨X,h⟩:=turned k l S h1 hl;exact⟨X,by rw[ftx t8];exact Xvz h (by rw[Xv];omega)⟩
theorem evn(k:Nat)(l:List Int)(S:Sto)(h1:1<=l.length)(hl:l.length<=12):∃ X,FT T G (k+7) 7 [Xa l] S=.ok (.bl (Yc (tT (-1) l)).isNone) (S++X):=by
 obtain⟨X,h⟩:=Xzt k l S h1 hl;exact⟨X,by rw[ftx t7];exact Xv0 h⟩
theorem X1f(k:Nat)(l:List Int)(S:Sto)(h1:1<=l.length)(hl:l.length<=12):∃ X,FT T G (k+6) 9 [Xa l] S=.ok (Xa (stp (tT (-1) l))) (S++X):=by
 obtain⟨X,h⟩:=turned k l S h1 hl;obtain⟨Y,g⟩:=Xr0 (F:=FT T G (k+4)) (G:=G) (ih:=15) (h:=tT (-1) l) (S:=S++X) (fun w S=>Xhj (k+3) w S) (by rw[Xv];omega) (by rw[Xv];omega)
 have g':FT T G (k+5) 14 [Xa (tT (-1) l)] (S++X)=.ok (Xa (stp (tT (-1) l))) (S++X++Y):=by rw[ftx t14];exact g
 exact⟨X++Y,by rw[ftx t9,<- List.append_assoc];exact Xv2 h g'⟩
theorem Xzu(k:Nat)(a b:List Int)(S:Sto)(h1:1<=a.length)(h2:1<=b.length)(hl:a.length+b.length<=30)(hm:∀ x∈a,∀ y∈b,Xy x y=true):∃ X,FT T G (k+1) 24 [Xa a,Xa b] S=.ok (Xa (cvL a b)) (S++X):=by
 obtain⟨X,h⟩:=Xr6 (F:=FT T G k) (G:=G) (S:=S) h1 h2 hl hm;exact⟨X,by rw[ftx t24];exact h⟩
theorem X1g(k:Nat):Xe8 (FT T G (k+1)) 21:=Xq9 t21 k
theorem Xzv(k:Nat)(l:List Int)(r:Nat)(S:Sto)(hr:Xd S r=some (l.map D.int))(hl:l.length<=100):∃ X,FT T G (k+1) 22 [.ref r,.int 1] S=.ok (Xa (tT 1 l)) (S++X):=by
 rw[ftx t22];exact Xmi hr hl (by omega) (by omega)
noncomputable def e9:Int:=10^(9:Int).toNat
noncomputable def e20:Int:=10^(20:Int).toNat
theorem pw9(S:Sto):Xm .pow (.int 10) (.int 9) S=.ok (.int e9) S:=Xdx (by decide+kernel) S
theorem X2n(S:Sto):Xm .pow (.int 10) (.int 20) S=.ok (.int e20) S:=Xdx (by decide+kernel) S
theorem Xwf{F:Fn}(env:En)(S:Sto):evs F G Xm4 env S=.ok [.int 4,.int 1000,.int e9,.int e20] S:=by
 simp only[Xm4,evs,ev,Rk0,pw9,X2n]
theorem Xzw:∀ d∈[D.int 4,.int 1000,.int e9,.int e20],Xs4 d:=by
 intro d hd;simp only[List.mem_cons,List.not_mem_nil,or_false] at hd;rcases hd with rfl|rfl|rfl|rfl
 ·exact⟨4,rfl,by decide+kernel,by decide+kernel⟩
 ·exact⟨1000,rfl,by decide+kernel,by decide+kernel⟩
 ·exact⟨10^9,congrArg D.int (show e9=((10^9:Nat):Int) by decide+kernel),by decide+kernel,by decide+kernel⟩
 ·exact⟨10^20,congrArg D.int (show e20=((10^20:Nat):Int) by decide+kernel),by decide+kernel,by decide+kernel⟩
theorem Xzx{p:Nat}{v:Int}{S:Sto}(hp:Xd S p=some [.int v]):∃ l S' v',FT T G 12 23 [.ref p] S=.ok (Xa l) S'/\Ext p S S'/\Xd S' p=some [.int v']/\1<=l.length/\l.length<=12/\Bd (2^300) l:=by
 obtain⟨l,S',v',h1,h2⟩:=Xry (F:=FT T G 11) (G:=G) (X1g 10) (fun l r S h hl=>Xzv 10 l r S h hl) Xwf rfl Xzw hp
 exact⟨l,S',v',by rw[ftx t23];exact h1,h2⟩
end K14
end
section
namespace K14
open PySem Z
noncomputable def c1:Ex:=.or (.cmp .ne (.call 6 (.cons (.call 5 (.cons (.var 0) .nil)) .nil)) (.var 0)) (.or (.cmp .ne (.call 5 (.cons (.call 6 (.cons (.var 0) .nil)) .nil)) (.var 0)) (.cmp .isnot (.call 4 (.cons (.call 5 (.cons (.var 0) .nil)) .nil)) (.cst (.bl true))))
noncomputable def c2:Ex:=.cmp .ne (.cmp .is (.var 2) (.cst .non)) (.call 7 (.cons (.var 0) .nil))
noncomputable def c3:Ex:=.cmp .isnot (.var 2) (.cst .non)
noncomputable def stE:Ex:=.call 10 (.cons (.var 1) (.cons (.call 9 (.cons (.var 0) .nil)) .nil))
noncomputable def r3:Ex:=.and (.cmp .lt (.bin .mul (.cst (.int 2)) (.var 2)) (.var 1)) (.cmp .ne stE (.var 0))
noncomputable def r4:Ex:=.and (.cmp .eq stE (.var 0)) (.cmp .eq (.call 11 (.cons (.var 1) (.cons (.sli (.var 0) .none (.some (.bin .add (.bin .fdiv (.var 1) (.cst (.int 2))) (.cst (.int 1))))) .nil))) (.var 0))
theorem Xse:d__law_right=⟨1,3,.cons (.asg (.var 1) (.bin .sub (.blt .len (.cons (.var 0) .nil)) (.cst (.int 1)))) (.cons (.ite c1 (.cons (.ret (.cst (.bl false))) .nil) .nil)
 (.cons (.asg (.var 2) (.call 8 (.cons (.var 0) .nil))) (.cons (.ite c2 (.cons (.ret (.cst (.bl false))) .nil) .nil) (.cons (.ite c3 (.cons (.ret r3) .nil) .nil) (.cons (.ret r4) .nil)))))⟩:=rfl
theorem t25:T[25]?=some d__law_right:=rfl
theorem Xm5(b:Bool)(S:Sto):Xi .isnot (.bl b) (.bl true) S=.ok (.bl (!b)) S:=by cases b<;>rfl
theorem Xpi(o:Option Nat)(S:Sto):Xi .isnot (Xcb o) .non S=.ok (.bl (!o.isNone)) S:=by cases o<;>rfl
theorem Xwg(i j:Int)(S:Sto):Xi .lt (.int i) (.int j) S=.ok (.bl (decide (i<j))) S:=rfl
theorem Xsf{F:Fn}{a b:Ex}{env:En}{S S1:Sto}(h:ev F G a env S=.ok (.bl false) S1):ev F G (.or a b) env S=ev F G b env S1:=by
 rw[ev,h,Rk0];simp only[Xj]
theorem Xfp{F:Fn}{a b:Ex}{env:En}{S S1:Sto}(h:ev F G a env S=.ok (.bl true) S1):ev F G (.and a b) env S=ev F G b env S1:=by
 rw[ev,h,Rk0];simp only[Xj]
theorem Xta{F:Fn}{a b:Ex}{env:En}{S S1:Sto}(h:ev F G a env S=.ok (.bl false) S1):ev F G (.and a b) env S=.ok (.bl false) S1:=by
 rw[ev,h,Rk0];simp only[Xj]
theorem X1h{l:List Int}{a b:Option D}{S:Sto}(h1:1<=l.length)(hl:l.length<=12):∃ X,ev (FT T G 11) G c1 [some (Xa l),a,b] S=.ok (.bl false) (S++X):=by
 obtain⟨X1,e1⟩:=turned 6 l S h1 hl;have lt:(tT (-1) l).length=l.length:=Xv _ _;have lb:(tT 1 l).length=l.length:=Xv _ _;obtain⟨X2,e2⟩:=Xbd 6 (tT (-1) l) (S++X1) (by omega) (by omega)
 rw[Xmp] at e2;obtain⟨X3,e3⟩:=Xbd 6 l (S++X1++X2) h1 hl;obtain⟨X4,e4⟩:=turned 6 (tT 1 l) (S++X1++X2++X3) (by omega) (by omega)
 rw[show tT (-1) (tT 1 l)=l from Xi7 1 l] at e4;obtain⟨X5,e5⟩:=turned 6 l (S++X1++X2++X3++X4) h1 hl;obtain⟨X6,e6⟩:=Xph 8 (tT (-1) l) (S++X1++X2++X3++X4++X5) (by omega) (by omega)
 have n:∀ S:Sto,Xi .ne (Xa l) (Xa l) S=.ok (.bl false) S:=fun S=>by rw[Xgm];simp
 refine⟨X1++X2++X3++X4++X5++X6,?_⟩;rw[show S++(X1++X2++X3++X4++X5++X6)=S++X1++X2++X3++X4++X5++X6 by simp]
 have e6':FT T G 11 4 [Xa (tT (-1) l)] (S++X1++X2++X3++X4++X5)=.ok (.bl true) (S++X1++X2++X3++X4++X5++X6):=e6;have f1:ev (FT T G 11) G (.cmp .ne (.call 6 (.cons (.call 5 (.cons (.var 0) .nil)) .nil)) (.var 0)) [some (Xa l),a,b] S=.ok (.bl false) (S++X1++X2):=by
  simp only[ev,evs,gZ0,Rk0,e1,e2,n]
 have f2:ev (FT T G 11) G (.cmp .ne (.call 5 (.cons (.call 6 (.cons (.var 0) .nil)) .nil)) (.var 0)) [some (Xa l),a,b] (S++X1++X2)=.ok (.bl false) (S++X1++X2++X3++X4):=by
  simp only[ev,evs,gZ0,Rk0,e3,e4,n]
 have f3:ev (FT T G 11) G (.cmp .isnot (.call 4 (.cons (.call 5 (.cons (.var 0) .nil)) .nil)) (.cst (.bl true))) [some (Xa l),a,b] (S++X1++X2++X3++X4)=.ok (.bl false) (S++X1++X2++X3++X4++X5++X6):=by
  simp only[ev,evs,gZ0,Rk0,e5,e6',Xm5];rfl
 unfold c1;exact(Xsf f1).trans ((Xsf f2).trans f3)
theorem Xtb{l:List Int}{w:Nat}{c:Option D}{S:Sto}(hl:l.length=w+1)(hw:w<=11):∃ X,ev (FT T G 11) G stE [some (Xa l),some (.int w),c] S=.ok (Xa (tT 1 (mir w (pre (stp (tT (-1) l)) (stp (tT (-1) l)).length)))) (S++X):=by
 obtain⟨X1,e1⟩:=X1f 5 l S (by omega) (by omega)
 have hh:(tT (-1) l).length=w+1:=by rw[Xv,hl]
 obtain⟨X2,e2⟩:=Xsd 5 w (stp (tT (-1) l)) (S++X1) (by rw[Xjm (by omega),hh];omega) hw
 refine⟨X1++X2,?_⟩;rw[<- List.append_assoc];simp only[stE,ev,evs,gZ0,gS0,Rk0,e1,e2]
theorem X1i{l:List Int}{w p:Nat}{S:Sto}(hl:l.length=w+1)(hw:w<=11)(hf:Yc (tT (-1) l)=some p):∃ X,ev (FT T G 11) G r3 [some (Xa l),some (.int w),some (.int p)] S=.ok (.bl true) (S++X):=by
 have hh:(tT (-1) l).length=w+1:=by rw[Xv,hl]
 have lo:=Xzp hh hf;have f1:ev (FT T G 11) G (.cmp .lt (.bin .mul (.cst (.int 2)) (.var 2)) (.var 1)) [some (Xa l),some (.int w),some (.int p)] S=.ok (.bl true) S:=by
  have hm:Xy 2 (p:Int)=true:=Xbq (by decide) (by decide)
  simp only[ev,gZ0,gS0,Rk0,Yu hm,Xwg];rw[decide_eq_true (by omega)]
 obtain⟨X,e⟩:=Xtb (c:=some (.int p)) (S:=S) hl hw;refine⟨X,?_⟩;have hne:¬ tT 1 (mir w (pre (stp (tT (-1) l)) (stp (tT (-1) l)).length))=l:=fun z=>by
  have:=(Xhf hl).mp z;rw[hf] at this;cases this
 unfold r3;refine(Xfp f1).trans ?_;rw[ev,e,Rk0];simp only[ev,gZ0,Rk0,Xgm,decide_eq_false hne];rfl
theorem X1j{l:List Int}{w:Nat}{c:Option D}{S:Sto}(hl:l.length=w+1)(hw:w<=11)(hf:Yc (tT (-1) l)=none):∃ X,ev (FT T G 11) G r4 [some (Xa l),some (.int w),c] S=.ok (.bl true) (S++X):=by
 obtain⟨X1,e1⟩:=Xtb (c:=c) (S:=S) hl hw;rw[(Xhf hl).mpr hf] at e1;have q:∀ S:Sto,Xi .eq (Xa l) (Xa l) S=.ok (.bl true) S:=fun S=>by rw[Xky];simp
 have f1:ev (FT T G 11) G (.cmp .eq stE (.var 0)) [some (Xa l),some (.int w),c] S=.ok (.bl true) (S++X1):=by
  rw[ev,e1,Rk0];simp only[ev,gZ0,Rk0,q]
 have hn:(w:Int)/2+1=((w/2+1:Nat):Int):=by omega
 have ht:(l.take (w/2+1)).length=w/2+1:=by rw[List.length_take];omega
 obtain⟨X2,e2⟩:=Xwe 5 w (l.take (w/2+1)) (S++X1) ht hw;rw[ht,Xr3 hl hf] at e2;have hs:∀ S:Sto,Xaa (Xa l) none (some ((w:Int)/2+1)) S=.ok (Xa (l.take (w/2+1))) S:=fun S=>by rw[hn];exact Xba l _ S
 refine⟨X1++X2,?_⟩;rw[<- List.append_assoc];unfold r4;refine(Xfp f1).trans ?_;simp only[ev,evs,evo,gZ0,gS0,Rk0,Xc2 (show Yq 2=true by decide+kernel),Xx,Xam,hs,e2,q]
theorem right(l:List Int)(S:Sto)(h1:1<=l.length)(hl:l.length<=12):∃ X,FT T G 12 25 [Xa l] S=.ok (.bl true) (S++X):=by
 obtain⟨w,hw⟩:∃ w,l.length=w+1:=⟨l.length-1,by omega⟩
 have s1:=Xad (i:=1) (F:=FT T G 11) (G:=G) (e:=.bin .sub (.blt .len (.cons (.var 0) .nil)) (.cst (.int 1))) (env:=[some (Xa l),none,none]) (S:=S) (d:=.int w) (S':=S) (by
  simp only[ev,evs,gZ0,Rk0,Y0,Yb];rw[show(l.length:Int)-1=(w:Int) by omega])
 obtain⟨X2,e2⟩:=X1h (a:=some (.int w)) (b:=none) (S:=S) h1 hl;have s2:=Yw (a:=.cons (.ret (.cst (.bl false))) .nil) e2;obtain⟨X3,e3⟩:=Xzt 5 l (S++X2) h1 hl;have s3:=Xad (i:=2) (F:=FT T G 11) (G:=G) (e:=.call 8 (.cons (.var 0) .nil)) (env:=[some (Xa l),some (.int w),none]) (S:=S++X2) (d:=Xcb (Yc (tT (-1) l))) (S':=S++X2++X3) (by
  simp only[ev,evs,gZ0,Rk0];exact e3)
 obtain⟨X4,e4⟩:=evn 4 l (S++X2++X3) h1 hl;have f4:ev (FT T G 11) G c2 [some (Xa l),some (.int w),some (Xcb (Yc (tT (-1) l)))] (S++X2++X3)=.ok (.bl false) (S++X2++X3++X4):=by
  simp only[c2,ev,evs,gZ0,gS0,Rk0,Xo8,e4,X1b,beq_self_eq_true,Bool.not_true]
 have s4:=Yw (a:=.cons (.ret (.cst (.bl false))) .nil) f4;have f5:ev (FT T G 11) G c3 [some (Xa l),some (.int w),some (Xcb (Yc (tT (-1) l)))] (S++X2++X3++X4)=.ok (.bl (!(Yc (tT (-1) l)).isNone)) (S++X2++X3++X4):=by
  simp only[c3,ev,gZ0,gS0,Rk0,Xpi]
 have top:∀ {X:Sto},exes (FT T G 11) G (.cons (.ite c3 (.cons (.ret r3) .nil) .nil) (.cons (.ret r4) .nil)) [some (Xa l),some (.int w),some (Xcb (Yc (tT (-1) l)))] (S++X2++X3++X4)=.ok (.rt (.bl true)) (S++X2++X3++X4++X)->∃ X,FT T G 12 25 [Xa l] S=.ok (.bl true) (S++X):=fun {X} q=>by
  refine⟨X2++X3++X4++X,?_⟩;rw[show S++(X2++X3++X4++X)=S++X2++X3++X4++X by simp,ftx t25,Xse]
  exact Xby (env:=[some (Xa l),none,none]) rfl rfl ((Xe s1).trans ((Xe s2).trans ((Xe s3).trans ((Xe s4).trans q))))
 cases hf:Yc (tT (-1) l) with
 | none =>
  rw[hf] at f5 top;obtain⟨X5,e5⟩:=X1j (c:=some .non) (S:=S++X2++X3++X4) hw (by omega) hf
  exact top ((Xe (Yw f5)).trans (Xl (by rw[exe];exact congrArg (fun r=>R.bind r _) e5)))
 | some p =>
  rw[hf] at f5 top;obtain⟨X5,e5⟩:=X1i (S:=S++X2++X3++X4) hw (by omega) hf
  refine top (X:=X5) (Xl ?_);rw[exe];refine(congrArg (fun r=>R.bind r _) f5).trans ?_
  show exes (FT T G 11) G (.cons (.ret r3) .nil) _ _=_;exact Xl (by rw[exe];exact congrArg (fun r=>R.bind r _) e5)
end K14
end
section
namespace K14
open PySem Z
noncomputable def Xzy:Sts->St
 | .cons s _=>s
 | .nil=>.nev
noncomputable def Xzz:St->Sts
 | .for _ _ b=>b
 | _=>.nil
noncomputable def Xh1:Sts:=Xzz (Xzy Xh0)
noncomputable def q3:Ex:=.or (.not (.call 25 (.cons (.var 5) .nil))) (.not (.call 25 (.cons (.call 5 (.cons (.var 5) .nil)) .nil)))
noncomputable def q6:Ex:=.cmp .ne (.call 5 (.cons (.var 4) .nil)) (.call 24 (.cons (.call 5 (.cons (.var 5) .nil)) (.cons (.call 5 (.cons (.var 3) .nil)) .nil)))
noncomputable def q7:Ex:=.and (.call 7 (.cons (.var 5) .nil)) (.and (.call 7 (.cons (.var 3) .nil)) (.not (.call 7 (.cons (.var 4) .nil))))
noncomputable def rF:Sts:=.cons (.ret (.cst (.bl false))) .nil
noncomputable def b4:Sts:=.cons (.asg (.var 3) (.sli (.var 3) .none (.some (.bin .sub (.cst (.int 13)) (.blt .len (.cons (.var 5) .nil)))))) (.cons (.asg (.var 4) (.call 24 (.cons (.var 5) (.cons (.var 3) .nil)))) (.cons (.ite q6 rF .nil) (.cons (.ite q7 rF .nil) .nil)))
theorem Xsg:Xh1=.cons (.asg (.var 2) (.call 20 (.cons (.call 19 (.cons (.var 0) (.cons (.var 1) .nil))) .nil))) (.cons (.par [5,3] (.cons (.call 23 (.cons (.var 2) .nil)) (.cons (.call 23 (.cons (.var 2) .nil)) .nil))) (.cons (.ite q3 rF .nil) b4)):=rfl
theorem Xpj{B C:Nat}{a b:List Int}(ha:Bd B a)(hb:Bd C b)(h1:B<2^1000)(h2:C<2^1000):∀ x∈a,∀ y∈b,Xy x y=true:=fun x hx y hy=>by
 have k:∀ {D:Nat} {l:List Int} {z:Int},Bd D l->D<2^1000->z∈l->z.natAbs.log2<100000:=fun {D l z} hl hD hz=>Nat.lt_trans (Xvs hl hD z hz) (by decide)
 exact Xu8 (k ha h1 hx) (k hb h2 hy)
theorem Xm6{F:Fn}{e:Ex}{env:En}{S S1:Sto}(h:ev F G e env S=.ok (.bl true) S1):ev F G (.not e) env S=.ok (.bl false) S1:=by
 rw[ev,h,Rk0];rfl
theorem X1k{l:List Int}{a0 a1 a2 a3 a4:Option D}{S:Sto}(h1:1<=l.length)(hl:l.length<=12):∃ X,ev (FT T G 12) G q3 [a0,a1,a2,a3,a4,some (Xa l)] S=.ok (.bl false) (S++X):=by
 have lt:(tT (-1) l).length=l.length:=Xv _ _;obtain⟨X1,e1⟩:=right l S h1 hl;obtain⟨X2,e2⟩:=turned 7 l (S++X1) h1 hl;obtain⟨X3,e3⟩:=right (tT (-1) l) (S++X1++X2) (by omega) (by omega)
 refine⟨X1++X2++X3,?_⟩;rw[show S++(X1++X2++X3)=S++X1++X2++X3 by simp]
 unfold q3;refine(Xsf (Xm6 (S1:=S++X1) ?_)).trans (Xm6 ?_)
 ·simp only[ev,evs,gZ0,gS0,Rk0,e1]
 ·simp only[ev,evs,gZ0,gS0,Rk0,e2,e3]
theorem X1l{l m:List Int}{a0 a1 a2:Option D}{S:Sto}(h1:1<=l.length)(h2:1<=m.length)(hl:l.length+m.length<=13)(bl:Bd (2^300) l)(bm:Bd (2^300) m):∃ X,ev (FT T G 12) G q6 [a0,a1,a2,some (Xa m),some (Xa (cvL l m)),some (Xa l)] S=.ok (.bl false) (S++X):=by
 have lc:(cvL l m).length=l.length+m.length-1:=Yx l m;have ll:(tT (-1) l).length=l.length:=Xv _ _;have lm:(tT (-1) m).length=m.length:=Xv _ _;have bt:∀ {r:List Int},r.length<=12->Bd (2^300) r->Bd (2^312) (tT (-1) r):=fun {r} h b=>(Xs2 (by decide) b).mono (by rw[<- Nat.pow_add];exact Nat.pow_le_pow_right (by decide) (by omega))
 obtain⟨X1,e1⟩:=turned 7 (cvL l m) S (by omega) (by omega)
 obtain⟨X2,e2⟩:=turned 7 l (S++X1) h1 (by omega)
 obtain⟨X3,e3⟩:=turned 7 m (S++X1++X2) h2 (by omega)
 obtain⟨X4,e4⟩:=Xzu 11 (tT (-1) l) (tT (-1) m) (S++X1++X2++X3) (by omega) (by omega) (by omega) (Xpj (bt (by omega) bl) (bt (by omega) bm) (by decide+kernel) (by decide+kernel))
 refine⟨X1++X2++X3++X4,?_⟩;rw[show S++(X1++X2++X3++X4)=S++X1++X2++X3++X4 by simp]
 rw[Xs6 (-1) l m h1] at e1;simp only[q6,ev,evs,gZ0,gS0,Rk0,e1,e2,e3,e4,Xgm,decide_true,Bool.not_true]
theorem X1m{l m:List Int}{a0 a1 a2:Option D}{S:Sto}(h1:1<=l.length)(h2:1<=m.length)(hl:l.length+m.length<=13):∃ X,ev (FT T G 12) G q7 [a0,a1,a2,some (Xa m),some (Xa (cvL l m)),some (Xa l)] S=.ok (.bl false) (S++X):=by
 have lc:(cvL l m).length=l.length+m.length-1:=Yx l m;obtain⟨X1,e1⟩:=evn 5 l S h1 (by omega)
 have f1:ev (FT T G 12) G (.call 7 (.cons (.var 5) .nil)) [a0,a1,a2,some (Xa m),some (Xa (cvL l m)),some (Xa l)] S=.ok (.bl (Yc (tT (-1) l)).isNone) (S++X1):=by
  simp only[ev,evs,gZ0,gS0,Rk0,e1]
 obtain⟨X2,e2⟩:=evn 5 m (S++X1) h2 (by omega)
 have f2:ev (FT T G 12) G (.call 7 (.cons (.var 3) .nil)) [a0,a1,a2,some (Xa m),some (Xa (cvL l m)),some (Xa l)] (S++X1)=.ok (.bl (Yc (tT (-1) m)).isNone) (S++X1++X2):=by
  simp only[ev,evs,gZ0,gS0,Rk0,e2]
 obtain⟨X3,e3⟩:=evn 5 (cvL l m) (S++X1++X2) (by omega) (by omega)
 have f3:ev (FT T G 12) G (.call 7 (.cons (.var 4) .nil)) [a0,a1,a2,some (Xa m),some (Xa (cvL l m)),some (Xa l)] (S++X1++X2)=.ok (.bl (Yc (tT (-1) (cvL l m))).isNone) (S++X1++X2++X3):=by
  simp only[ev,evs,gZ0,gS0,Rk0,e3]
 cases hf:Yc (tT (-1) l) with
 | some p =>
  rw[hf] at f1;exact⟨X1,Xta f1⟩
 | none =>
  rw[hf] at f1;cases hg:Yc (tT (-1) m) with
  | some p =>
   rw[hg] at f2;exact⟨X1++X2,by rw[<- List.append_assoc];exact(Xfp f1).trans (Xta f2)⟩
  | none =>
   rw[hg] at f2;have hp:Yc (tT (-1) (cvL l m))=none:=by
    rw[Xs6 (-1) l m h1,fu_pal,Xv5 _ (by rw[Xv];exact h1) _ _ rfl,fu_pal.mp hf,fu_pal.mp hg]
   rw[hp] at f3;exact⟨X1++X2++X3,by rw[<- List.append_assoc,<- List.append_assoc];exact(Xfp f1).trans ((Xfp f2).trans (Xm6 f3))⟩
theorem X1n{l m:List Int}{a0 a1 a2 a4:Option D}{S:Sto}(h1:1<=l.length)(hl:l.length<=12)(h2:1<=m.length)(hm:m.length<=12)(bl:Bd (2^300) l)(bm:Bd (2^300) m) :
  ∃ b3 b4' X,exes (FT T G 12) G b4 [a0,a1,a2,some (Xa m),a4,some (Xa l)] S=.ok (.nx [a0,a1,a2,b3,b4',some (Xa l)]) (S++X):=by
 have hn:(13:Int)-l.length=((13-l.length:Nat):Int):=by omega
 have s1:=Xad (i:=3) (F:=FT T G 12) (G:=G) (e:=.sli (.var 3) .none (.some (.bin .sub (.cst (.int 13)) (.blt .len (.cons (.var 5) .nil))))) (env:=[a0,a1,a2,some (Xa m),a4,some (Xa l)]) (S:=S) (d:=Xa (m.take (13-l.length))) (S':=S) (by
  simp only[ev,evo,evs,gZ0,gS0,Rk0,Y0,Yb,hn,Xam];exact Xba m _ S)
 have hk:(m.take (13-l.length)).length=min (13-l.length) m.length:=List.length_take;have bk:Bd (2^300) (m.take (13-l.length)):=fun x hx=>bm x (List.mem_of_mem_take hx)
 generalize m.take (13-l.length)=k at s1 hk bk;obtain⟨X2,e2⟩:=Xzu 11 l k S h1 (by omega) (by omega) (Xpj bl bk (by decide+kernel) (by decide+kernel))
 have s2:=Xad (i:=4) (F:=FT T G 12) (G:=G) (e:=.call 24 (.cons (.var 5) (.cons (.var 3) .nil))) (env:=[a0,a1,a2,some (Xa k),a4,some (Xa l)]) (S:=S) (d:=Xa (cvL l k)) (S':=S++X2) (by
  simp only[ev,evs,gZ0,gS0,Rk0,e2])
 obtain⟨X3,e3⟩:=X1l (a0:=a0) (a1:=a1) (a2:=a2) (S:=S++X2) h1 (m:=k) (by omega) (by omega) bl bk
 have s3:=Yw (a:=rF) e3;obtain⟨X4,e4⟩:=X1m (a0:=a0) (a1:=a1) (a2:=a2) (S:=S++X2++X3) h1 (m:=k) (by omega) (by omega)
 have s4:=Yw (a:=rF) e4;refine⟨some (Xa k),some (Xa (cvL l k)),X2++X3++X4,?_⟩;rw[show S++(X2++X3++X4)=S++X2++X3++X4 by simp]
 exact(Xe s1).trans ((Xe s2).trans ((Xe s3).trans ((Xe s4).trans (by simp only[exes]))))
theorem turn(ns:List Int)(i:Nat)(a2 a3 a4 a5:Option D)(S:Sto) :
  ∃ e S',exes (FT T G 12) G Xh1 [some (.fro (ns.map D.int)),some (.int i),a2,a3,a4,a5] S=.ok (.nx e) S'/\∃ b1 b2 b3 b4 b5,e=[some (.fro (ns.map D.int)),b1,b2,b3,b4,b5]:=by
 generalize hsc:some (D.fro (ns.map D.int))=sc;obtain⟨c,hc⟩:=Xq4 (F:=FT T G 11) (G:=G) ns i S;obtain⟨v,hv⟩:=Xva (F:=FT T G 11) (G:=G) c S;have f9:FT T G 12 19 [.fro (ns.map D.int),.int i] S=.ok (.int c) S:=hc;have f10:FT T G 12 20 [.int c] S=.ok (.ref S.length) (S++[.lst [.int v]]):=hv;have s1:=Xad (i:=2) (F:=FT T G 12) (G:=G) (e:=.call 20 (.cons (.call 19 (.cons (.var 0) (.cons (.var 1) .nil))) .nil)) (env:=[sc,some (.int i),a2,a3,a4,a5]) (S:=S) (d:=.ref S.length) (S':=S++[.lst [.int v]]) (by
  subst hsc;simp only[ev,evs,gZ0,gS0,Rk0,f9,f10])
 have p1:Xd (S++[O.lst [.int v]]) S.length=some [.int v]:=Xq;generalize S++[O.lst [.int v]]=S1 at s1 p1;generalize S.length=p at s1 p1;obtain⟨l,S2,v2,h2,x2,p2,hl1,hl,bl⟩:=Xzx p1;obtain⟨m,S3,v3,h3,x3,p3,hm1,hm,bm⟩:=Xzx p2;have s2:exe (FT T G 12) G (.par [5,3] (.cons (.call 23 (.cons (.var 2) .nil)) (.cons (.call 23 (.cons (.var 2) .nil)) .nil))) [sc,some (.int i),some (.ref p),a3,a4,a5] S1=.ok (.nx [sc,some (.int i),some (.ref p),some (Xa m),a4,some (Xa l)]) S3:=by
  simp only[exe,ev,evs,gZ0,gS0,Rk0,h2,h3];rfl
 obtain⟨X4,e4⟩:=X1k (a0:=sc) (a1:=some (.int i)) (a2:=some (.ref p)) (a3:=some (Xa m)) (a4:=a4) (S:=S3) hl1 hl;have s4:=Yw (a:=rF) e4;obtain⟨b3,b4',X5,s5⟩:=X1n (a0:=sc) (a1:=some (.int i)) (a2:=some (.ref p)) (a4:=a4) (S:=S3++X4) hl1 hl hm1 hm bl bm;refine⟨_,S3++X4++X5,?_,some (.int i),some (.ref p),b3,b4',some (Xa l),rfl⟩;rw[Xsg];exact(Xe s1).trans ((Xe s2).trans ((Xe s4).trans s5))
theorem Xsh:Xh0=.cons (.for (.var 1) (.rng (.cons (.blt .max (.cons (.cst (.int 1)) (.cons (.blt .min (.cons (.blt .len (.cons (.var 0) .nil)) (.cons (.cst (.int 12)) .nil))) .nil))) .nil)) Xh1) (.cons (.ret (.cst (.bl true))) .nil):=rfl
theorem law_true(ns:List Int)(h:ns.length<=63):∃ S',FT T G 13 26 [.fro (ns.map D.int)] []=.ok (.bl true) S':=by
 show ∃ S',den (FT T G 12) G d_law [.fro (ns.map D.int)] []=_;have c1:([D.fro (ns.map D.int)].map some++List.replicate (6-1) none:En)=[some (.fro (ns.map D.int)),none,none,none,none,none]:=rfl;obtain⟨m,hm,m0,m1⟩:=Z.turns (F:=FT T G 12) (G:=G) (env:=[some (.fro (ns.map D.int)),none,none,none,none,none]) (S:=[]) (ns:=ns) 12 (by decide) (by decide) rfl
 obtain⟨xs,hx,hl⟩:=Xah (m:=m) m0 (Xde (by omega))
 obtain⟨e',S',f2,b1,b2,b3,b4,b5,rfl⟩:=Xgd (F:=FT T G 12) (G:=G) (t:=.var 1) (b:=Xh1) (xs:=xs)
  (fun i e S'=>∃ b1 b2 b3 b4 b5,e=[some (.fro (ns.map D.int)),b1,b2,b3,b4,b5]) hm hx ⟨none,none,none,none,none,rfl⟩ (fun i d e S' hd hP=>by
   obtain⟨b1,b2,b3,b4,b5,rfl⟩:=hP;obtain⟨rfl,hi⟩:=Xa8 hx hd;obtain⟨e2,S2,t1,t2⟩:=turn ns i b2 b3 b4 b5 S';exact⟨_,e2,S2,rfl,t1,t2⟩)
 refine⟨S',?_⟩;simp only[den,d_law,List.length,if_true];rw[Xsh,c1,Xe f2];simp only[exes,exe,ev,Rk0]
end K14
end
section
namespace K14
open PySem PySem.Spec PyProof.Rows L2 Z
def AllD(K:PySem.W.Frag)(mg:Str->Option Value)(fns:List (Str×Nat×Bool))(gns:List Str):List (Str×Nat×Bool)->List Df->Prop
 | [],[]=>True
 | x::r,d::ds=>DefOk K mg fns gns d x.1 x.2.1 x.2.2/\AllD K mg fns gns r ds
 | _,_=>False
theorem AllD.get{K:PySem.W.Frag}{mg:Str->Option Value}{fns:List (Str×Nat×Bool)}{gns:List Str}:∀ {fs:List (Str×Nat×Bool)} {ds:List Df},AllD K mg fns gns fs ds->∀ (f:Nat) nm ar fl,fs[f]?=some (nm,ar,fl)->∃ d,ds[f]?=some d/\DefOk K mg fns gns d nm ar fl
 | [],[],_,f,nm,ar,fl,e=>by cases e
 | x::r,d::ds,h,0,nm,ar,fl,e=>by cases e;exact⟨d,rfl,h.1⟩
 | x::r,d::ds,h,f+1,nm,ar,fl,e=>AllD.get h.2 f nm ar fl e
theorem all_mk {P:Program} {w:World} {K:PySem.W.Frag} {h:Heap} {mg:Str->Option Value} {fa:Addr} {t0:Tok} (X:K.In h) (Gm:h.Ns mainGlobals mg) (hfa:mg "law" = some (.ref fa))
  (er:Xqi K=true) (bl:Xyz K=true) (g0:PySem.W.nsIn K mainGlobals "GREATEST_WIDTH" = some (some (.int 11 t0)))
  (f0:FunAt K "is_whole" (top 5)) (f1:FunAt K "is_whole_within" (top 6)) (f2:FunAt K "is_whole_tuple" (top 7)) (f3:FunAt K "ways" (top 9)) (f4:FunAt K "is_row" (top 12)) (f5:FunAt K "turned" (top 13)) (f6:FunAt K "turned_back" (top 14)) (f7:FunAt K "is_even" (top 15)) (f8:FunAt K "first_uneven" (top 16)) (f9:FunAt K "steps" (top 17)) (f10:FunAt K "by_steps" (top 18)) (f11:FunAt K "by_half" (top 19)) (f12:FunAt K "check_row" (top 20)) (f13:FunAt K "check_half" (top 21)) (f14:FunAt K "growth" (top 22)) (f15:FunAt K "half_size" (top 23)) (f16:FunAt K "parts_at" (top 24)) (f17:FunAt K "in_turns" (top 25)) (f18:FunAt K "mirrored" (top 26)) (f19:FunAt K "_law_cell_at" (top 28)) (f20:FunAt K "_law_pot" (top 29)) (f21:FunAt K "_law_take" (top 30)) (f22:FunAt K "_law_turned" (top 31)) (f23:FunAt K "_law_row" (top 32)) (f24:FunAt K "_law_each_with_each" (top 33)) (f25:FunAt K "_law_right" (top 34)) (f26:FunAt K "law" (top 35)) :
  ∃ fd:FuncData,(∀ (s:Shared) (u:Value),BindsTo s fd ⟨[u],[]⟩ [("_law_script",u)])/\∀ base:Heap,K.In base->base.Ns mainGlobals mg->FnOk P w K mg base (CXd P w) 13 fa fd ["_law_script"] (spD K 1 (FT T G 13 26)):=by
 have er':=Xul er;have bl':=Xu6 X Gm bl;have hg:∀ (k:Nat) nm,gns[k]?=some nm->∃ u d,mg nm=some u/\G[k]?=some d/\∀ ρ H,∃ v,RelV v u/\RD K ρ H d v:=fun k nm e=>by
  match k,e with
  | 0,e=>cases e;exact Xu7 X Gm g0
  | k+1,e=>cases e
 have hD:AllD K mg fns gns fns T :=
  And.intro (Xk (st:=top 5) (N:=n_is_whole) X Gm f0 Xmr Xmq rfl rfl rfl fun _ _ _ _ _ _ us hl=>match us,hl with|[_],_=>rfl) (
  And.intro (Xk (st:=top 6) (N:=n_is_whole_within) X Gm f1 Xd6 Xd5 rfl rfl rfl fun _ _ _ _ _ _ us hl=>match us,hl with|[_,_,_],_=>rfl) (
  And.intro (Xk (st:=top 7) (N:=n_is_whole_tuple) X Gm f2 Xex Xew rfl rfl rfl fun _ _ _ _ _ _ us hl=>match us,hl with|[_],_=>rfl) (
  And.intro (Xk (st:=top 9) (N:=n_ways) X Gm f3 Xzr Xzq rfl rfl rfl fun _ _ _ _ _ _ us hl=>match us,hl with|[_,_],_=>rfl) (
  And.intro (Xk (st:=top 12) (N:=n_is_row) X Gm f4 Xr8 Xr7 rfl rfl rfl fun _ _ _ _ _ _ us hl=>match us,hl with|[_],_=>rfl) (
  And.intro (Xk (st:=top 13) (N:=n_turned) X Gm f5 Xsa Xr9 rfl rfl rfl fun _ _ _ _ _ _ us hl=>match us,hl with|[_],_=>rfl) (
  And.intro (Xk (st:=top 14) (N:=n_turned_back) X Gm f6 Xhm Xhl rfl rfl rfl fun _ _ _ _ _ _ us hl=>match us,hl with|[_],_=>rfl) (
  And.intro (Xk (st:=top 15) (N:=n_is_even) X Gm f7 Xpe Xpd rfl rfl rfl fun _ _ _ _ _ _ us hl=>match us,hl with|[_],_=>rfl) (
  And.intro (Xk (st:=top 16) (N:=n_first_uneven) X Gm f8 Xgs Xgr rfl rfl rfl fun _ _ _ _ _ _ us hl=>match us,hl with|[_],_=>rfl) (
  And.intro (Xk (st:=top 17) (N:=n_steps) X Gm f9 Xwb Xwa rfl rfl rfl fun _ _ _ _ _ _ us hl=>match us,hl with|[_],_=>rfl) (
  And.intro (Xk (st:=top 18) (N:=n_by_steps) X Gm f10 Xmt Xms rfl rfl rfl fun _ _ _ _ _ _ us hl=>match us,hl with|[_,_],_=>rfl) (
  And.intro (Xk (st:=top 19) (N:=n_by_half) X Gm f11 Xpg Xpf rfl rfl rfl fun _ _ _ _ _ _ us hl=>match us,hl with|[_,_],_=>rfl) (
  And.intro (Xk (st:=top 20) (N:=n_check_row) X Gm f12 Xjz Xjy rfl rfl rfl fun _ _ _ _ _ _ us hl=>match us,hl with|[_],_=>rfl) (
  And.intro (Xk (st:=top 21) (N:=n_check_half) X Gm f13 Xjs Xjr rfl rfl rfl fun _ _ _ _ _ _ us hl=>match us,hl with|[_,_],_=>rfl) (
  And.intro (Xk (st:=top 22) (N:=n_growth) X Gm f14 Xsc Xsb rfl rfl rfl fun _ _ _ _ _ _ us hl=>match us,hl with|[_],_=>rfl) (
  And.intro (Xk (st:=top 23) (N:=n_half_size) X Gm f15 Xj1 Xj0 rfl rfl rfl fun _ _ _ _ _ _ us hl=>match us,hl with|[_],_=>rfl) (
  And.intro (Xk (st:=top 24) (N:=n_parts_at) X Gm f16 Xmv Xmu rfl rfl rfl fun _ _ _ _ _ _ us hl=>match us,hl with|[_,_],_=>rfl) (
  And.intro (Xk (st:=top 25) (N:=n_in_turns) X Gm f17 Xmx Xmw rfl rfl rfl fun _ _ _ _ _ _ us hl=>match us,hl with|[_],_=>rfl) (
  And.intro (Xk (st:=top 26) (N:=n_mirrored) X Gm f18 Xmz Xmy rfl rfl rfl fun _ _ _ _ _ _ us hl=>match us,hl with|[_,_],_=>rfl) (
  And.intro (Xk (st:=top 28) (N:=n__law_cell_at) X Gm f19 Xgu Xgt rfl rfl rfl fun _ _ _ _ _ _ us hl=>match us,hl with|[_,_],_=>rfl) (
  And.intro (Xk (st:=top 29) (N:=n__law_pot) X Gm f20 Xm1 Xm0 rfl rfl rfl fun _ _ _ _ _ _ us hl=>match us,hl with|[_],_=>rfl) (
  And.intro (Xk (st:=top 30) (N:=n__law_take) X Gm f21 Xj3 Xj2 rfl rfl rfl fun _ _ _ _ _ _ us hl=>match us,hl with|[_,_],_=>rfl) (
  And.intro (Xk (st:=top 31) (N:=n__law_turned) X Gm f22 Xho Xhn rfl rfl rfl fun _ _ _ _ _ _ us hl=>match us,hl with|[_,_],_=>rfl) (
  And.intro (Xk (st:=top 32) (N:=n__law_row) X Gm f23 Xm3 Xm2 rfl rfl rfl fun _ _ _ _ _ _ us hl=>match us,hl with|[_],_=>rfl) (
  And.intro (Xk (st:=top 33) (N:=n__law_each_with_each) X Gm f24 Xco Xcn rfl rfl rfl fun _ _ _ _ _ _ us hl=>match us,hl with|[_,_],_=>rfl) (
  And.intro (Xk (st:=top 34) (N:=n__law_right) X Gm f25 Xju Xjt rfl rfl rfl fun _ _ _ _ _ _ us hl=>match us,hl with|[_],_=>rfl) (
  And.intro (Xk (st:=top 35) (N:=n_law) X Gm f26 Xs9 Xs8 rfl rfl rfl fun _ _ _ _ _ _ us hl=>match us,hl with|[_],_=>rfl) (True.intro)))))))))))))))))))))))))))
 exact law_fn (k:=12) (d:=d_law) (st:=top 35) (N:=n_law) X Gm hfa er' bl' hg hD.get rfl f26 Xs9 Xs8 rfl rfl fun _ _ _ _ _ _ us hl=>match us,hl with|[_],_=>rfl
noncomputable def kept:List Stmt:=[top 1,top 2,top 3,top 5,top 6,top 7,top 9,top 11,top 12,top 13,top 14,top 15,top 16,top 17,top 18,top 19,top 20,top 21,top 22,top 23,top 24,top 25,top 26,top 28,top 29,top 30,top 31,top 32,top 33,top 34,top 35]
noncomputable def Q:Program:={ PySem.Challenge.pw_facecounts_k14_whole_rows with main:={ PySem.Challenge.pw_facecounts_k14_whole_rows.main with body:=kept } }
end K14
open PySem PySem.W PyProof.Rows
noncomputable def PySem.W.Fast.tw18432087286576029938:PySem.Program:=PySem.Challenge.pw_facecounts_k14_whole_rows
theorem PySem.W.Fast.te18432087286576029938:PySem.Challenge.pw_facecounts_k14_whole_rows=PySem.W.Fast.tw18432087286576029938:=rfl
lay_quick Z.topT PySem.W.topStub
local macro_rules | `(tactic| o_head $H)=>`(tactic|
 refine PySem.W.holds_open (q:=K14.Q) (loose:=[]) (Xt:=fun s=>PySem.W.xlAt K14.Q [] s&&PySem.W.recOk [] s)
  (XP:=PySem.W.XL K14.Q []) (Yf:=PySem.W.Hook.obs $H) (Ya:=PySem.W.Hook.val $H)
  (YP:=PySem.W.Hook.says $H) (N:=40000) ?hl (PySem.W.Hook.of $H) (PySem.W.Hook.keeps $H)
  (fun s e=>PySem.W.xl_of s (Bool.and_eq_true_iff.mp e).1) PySem.W.XL.keeps
  (by rfl) (by rfl) (by rfl)
  (fun s e=>PySem.W.recFacts_of (Bool.and_eq_true_iff.mp e).2)
  (by rfl) (by first|assumption|decide+kernel) (by decide+kernel)
  ⟨rfl,rfl,rfl,rfl,rfl,by decide+kernel⟩ ?hw ?hc)
set_option maxRecDepth 100000 in
set_option maxHeartbeats 0 in
theorem PySem.Challenge.cw_facecounts_k14_whole_rows_holds : PySem.Challenge.rw_facecounts_k14_whole_rows.Holds := by
 w_on;o_law;x_head
 (case hl =>
  refine Z.left_tree (p:=PySem.Challenge.pw_facecounts_k14_whole_rows) (by kernel_rfl) (by rfl) (fun s=>by kernel_rfl) ?_
  intro w os;unfold Z.looksT K14.Q K14.kept K14.top;dsimp only[PySem.W.kHook];rw[PySem.W.Fast.te4187177175401517315,PySem.W.Fast.te15842407815417585275,PySem.W.Fast.te2530740449226627131,PySem.W.Fast.te14364793385576792824]
  kernel_rfl)
 (case hw=>w_witness2)
 k_fill
 refine Z.walk_z (l:=PySem.Challenge.rw_facecounts_k14_whole_rows) (T:=K14.T) (G:=K14.G) (k:=13) (f:=26) (x := "_law_script") rfl rfl ⟨rfl,rfl,by decide,by decide⟩ (fun w h Y=>PySem.W.kIn_of Y) ?F K14.law_true
 case F =>
  intro w mg fa h KX G hmg;refine' K14.all_mk KX G hmg ?er ?bl ?g0 ?f0 ?f1 ?f2 ?f3 ?f4 ?f5 ?f6 ?f7 ?f8 ?f9 ?f10 ?f11 ?f12 ?f13 ?f14 ?f15 ?f16 ?f17 ?f18 ?f19 ?f20 ?f21 ?f22 ?f23 ?f24 ?f25 ?f26
  (case g0=>k_is)
  (case f0=>(refine' Z.funAt_mk ?a ?l ?c ?k;(case a=>k_is);(case l=>k_is);(case c=>k_is);(case k=>k_is)))
  (case f1=>(refine' Z.funAt_mk ?a ?l ?c ?k;(case a=>k_is);(case l=>k_is);(case c=>k_is);(case k=>k_is)))
  (case f2=>(refine' Z.funAt_mk ?a ?l ?c ?k;(case a=>k_is);(case l=>k_is);(case c=>k_is);(case k=>k_is)))
  (case f3=>(refine' Z.funAt_mk ?a ?l ?c ?k;(case a=>k_is);(case l=>k_is);(case c=>k_is);(case k=>k_is)))
  (case f4=>(refine' Z.funAt_mk ?a ?l ?c ?k;(case a=>k_is);(case l=>k_is);(case c=>k_is);(case k=>k_is)))
  (case f5=>(refine' Z.funAt_mk ?a ?l ?c ?k;(case a=>k_is);(case l=>k_is);(case c=>k_is);(case k=>k_is)))
  (case f6=>(refine' Z.funAt_mk ?a ?l ?c ?k;(case a=>k_is);(case l=>k_is);(case c=>k_is);(case k=>k_is)))
  (case f7=>(refine' Z.funAt_mk ?a ?l ?c ?k;(case a=>k_is);(case l=>k_is);(case c=>k_is);(case k=>k_is)))
  (case f8=>(refine' Z.funAt_mk ?a ?l ?c ?k;(case a=>k_is);(case l=>k_is);(case c=>k_is);(case k=>k_is)))
  (case f9=>(refine' Z.funAt_mk ?a ?l ?c ?k;(case a=>k_is);(case l=>k_is);(case c=>k_is);(case k=>k_is)))
  (case f10=>(refine' Z.funAt_mk ?a ?l ?c ?k;(case a=>k_is);(case l=>k_is);(case c=>k_is);(case k=>k_is)))
  (case f11=>(refine' Z.funAt_mk ?a ?l ?c ?k;(case a=>k_is);(case l=>k_is);(case c=>k_is);(case k=>k_is)))
  (case f12=>(refine' Z.funAt_mk ?a ?l ?c ?k;(case a=>k_is);(case l=>k_is);(case c=>k_is);(case k=>k_is)))
  (case f13=>(refine' Z.funAt_mk ?a ?l ?c ?k;(case a=>k_is);(case l=>k_is);(case c=>k_is);(case k=>k_is)))
  (case f14=>(refine' Z.funAt_mk ?a ?l ?c ?k;(case a=>k_is);(case l=>k_is);(case c=>k_is);(case k=>k_is)))
  (case f15=>(refine' Z.funAt_mk ?a ?l ?c ?k;(case a=>k_is);(case l=>k_is);(case c=>k_is);(case k=>k_is)))
  (case f16=>(refine' Z.funAt_mk ?a ?l ?c ?k;(case a=>k_is);(case l=>k_is);(case c=>k_is);(case k=>k_is)))
  (case f17=>(refine' Z.funAt_mk ?a ?l ?c ?k;(case a=>k_is);(case l=>k_is);(case c=>k_is);(case k=>k_is)))
  (case f18=>(refine' Z.funAt_mk ?a ?l ?c ?k;(case a=>k_is);(case l=>k_is);(case c=>k_is);(case k=>k_is)))
  (case f19=>(refine' Z.funAt_mk ?a ?l ?c ?k;(case a=>k_is);(case l=>k_is);(case c=>k_is);(case k=>k_is)))
  (case f20=>(refine' Z.funAt_mk ?a ?l ?c ?k;(case a=>k_is);(case l=>k_is);(case c=>k_is);(case k=>k_is)))
  (case f21=>(refine' Z.funAt_mk ?a ?l ?c ?k;(case a=>k_is);(case l=>k_is);(case c=>k_is);(case k=>k_is)))
  (case f22=>(refine' Z.funAt_mk ?a ?l ?c ?k;(case a=>k_is);(case l=>k_is);(case c=>k_is);(case k=>k_is)))
  (case f23=>(refine' Z.funAt_mk ?a ?l ?c ?k;(case a=>k_is);(case l=>k_is);(case c=>k_is);(case k=>k_is)))
  (case f24=>(refine' Z.funAt_mk ?a ?l ?c ?k;(case a=>k_is);(case l=>k_is);(case c=>k_is);(case k=>k_is)))
  (case f25=>(refine' Z.funAt_mk ?a ?l ?c ?k;(case a=>k_is);(case l=>k_is);(case c=>k_is);(case k=>k_is)))
  (case f26=>(refine' Z.funAt_mk ?a ?l ?c ?k;(case a=>k_is);(case l=>k_is);(case c=>k_is);(case k=>k_is)))
  (case er=>kernel_rfl)
  (case bl=>kernel_rfl)
end
