import PyProof.Rows.All
import Wide.All
import OpenK.AllK
import Wide.FinOn
import Lean
import PyProof.EqAt
import PyProof.EqKinds
import PyProof.TupleCall
import PySem.Challenge.RW_facecounts_k34_whole_chosen
set_option Elab.async false
set_option linter.all false
set_option maxRecDepth 100000
section
namespace L2
open PySem PySem.Spec PyProof.Rows
noncomputable abbrev Key:=Sum Int Str
noncomputable def keyIs:Key→Value→Bool
 | .inl k,v=>Value.isInt k v
 | .inr x,v=>Value.isStrOf x v
noncomputable def keyH (w:World):Key→Int
 | .inl k=>hashInt k
 | .inr x=>hashStr w x
theorem keyIs_shape:∀ {k:Key} {v:Value},keyIs k v=true→(∃ i t,k=Sum.inl i∧v=Value.int i t)∨(∃ x t,k=Sum.inr x∧v=Value.str x t)
 | .inl i,v,h=>by
  obtain ⟨t,e⟩:=Value.isInt_shape (k:=i) (v:=v) h
  exact .inl ⟨i,t,rfl,e⟩
 | .inr x,v,h=>by
  obtain ⟨t,e⟩:=Value.isStrOf_shape (x:=x) (v:=v) h
  exact .inr ⟨x,t,rfl,e⟩
theorem key_ll (a b:Int):decide ((Sum.inl a:Key)=Sum.inl b)=(a == b):=by
 by_cases e:a=b
 ·subst e; simp
 ·have h:¬ (Sum.inl a:Key)=Sum.inl b:=fun q=>e (Sum.inl.inj q)
  rw [decide_eq_false h]
  exact (beq_eq_false_iff_ne.mpr e).symm
theorem key_rr (a b:Str):decide ((Sum.inr a:Key)=Sum.inr b)=decide (a=b):=by
 by_cases e:a=b
 ·subst e; simp
 ·have h:¬ (Sum.inr a:Key)=Sum.inr b:=fun q=>e (Sum.inr.inj q)
  rw [decide_eq_false h,decide_eq_false e]
theorem key_lr (a:Int) (b:Str):decide ((Sum.inl a:Key)=Sum.inr b)=false:=decide_eq_false (fun q=>nomatch q)
theorem key_rl (a:Str) (b:Int):decide ((Sum.inr a:Key)=Sum.inl b)=false:=decide_eq_false (fun q=>nomatch q)
noncomputable def mixKind (prog:Program) (w:World):PySem.KeyKind prog w Key where
 is:=keyIs
 hash:=keyH w
 inj:=fun v a b ha hb=>by
  rcases keyIs_shape ha with ⟨i,t,rfl,rfl⟩ | ⟨x,t,rfl,rfl⟩
  ·rcases keyIs_shape hb with ⟨j,u,rfl,e⟩ | ⟨y,u,rfl,e⟩
   ·injection e with e1 _; rw [e1]
   ·exact nomatch e
  ·rcases keyIs_shape hb with ⟨j,u,rfl,e⟩ | ⟨y,u,rfl,e⟩
   ·exact nomatch e
   ·injection e with e1 _; rw [e1]
 byValue:=fun k v h=>by
  rcases keyIs_shape h with ⟨i,t,rfl,rfl⟩ | ⟨x,t,rfl,rfl⟩ <;> rfl
 pyHash:=fun hv h=>by
  rcases keyIs_shape hv with ⟨i,t,rfl,rfl⟩ | ⟨x,t,rfl,rfl⟩
  ·exact wpAny_pyHash_int h
  ·exact wpAny_pyHash_str h
 eqBool:=fun hu hv h=>by
  rcases keyIs_shape hu with ⟨i,t,rfl,rfl⟩ | ⟨x,t,rfl,rfl⟩
  ·rcases keyIs_shape hv with ⟨j,u,rfl,rfl⟩ | ⟨y,u,rfl,rfl⟩
   ·rw [key_ll] at h; exact wpAny_eqBool_int h
   ·rw [key_lr] at h; exact SeqAt.EqAt.int_str i t y u _ _ _ _ h
  ·rcases keyIs_shape hv with ⟨j,u,rfl,rfl⟩ | ⟨y,u,rfl,rfl⟩
   ·rw [key_rl] at h; exact SeqAt.EqAt.str_int x t j u _ _ _ _ h
   ·rw [key_rr] at h; exact wpAny_eqBool_str h
 «strs»:=fun k x t v h=>by
  rcases keyIs_shape h with ⟨i,u,rfl,e⟩ | ⟨y,u,rfl,e⟩
  ·exact nomatch e
  ·injection e with e1 _
   subst e1
   cases v <;> rfl
end L2
namespace L2
open PySem PySem.Spec PyProof.Rows
inductive V where
 | non | bl (b:Bool) | int (i:Int) | str (x:Str) | byt (b:Array UInt8) | flt (b:UInt64) | ref (a:Addr) | ty (n:String)
 deriving DecidableEq
noncomputable def RelV:V→Value→Prop
 | .non,u=>u=Value.none
 | .bl b,u=>u=Value.bool b
 | .int i,u=>∃ t,u=Value.int i t
 | .str x,u=>∃ t,u=Value.str x t
 | .byt b,u=>∃ t,u=Value.bytes b t
 | .flt b,u=>∃ t,u=Value.float b t
 | .ref a,u=>u=Value.ref a
 | .ty n,u=>u=Value.type n
noncomputable abbrev Vals:List V→List Value→Prop:=Paired RelV
theorem Vals.length {xs:List V} {us:List Value} (r:Vals xs us):xs.length=us.length:=Paired.length r
theorem Vals.get:∀ {xs:List V} {us:List Value} {i:Nat} {x:V},Vals xs us→xs[i]?=some x→∃ u,us[i]?=some u∧RelV x u
 | _,_,_,_,.nil,e=>by simp at e
 | _,_,0,_,.cons r _,e=>by simp at e; subst e; exact ⟨_,rfl,r⟩
 | _,_,i + 1,x,.cons _ t,e=>by
  obtain ⟨u,h1,h2⟩:=Vals.get (i:=i) (x:=x) t (by simpa using e)
  exact ⟨u,by simpa using h1,h2⟩
theorem Vals.set {x:V} {u:Value} (r:RelV x u):∀ {xs:List V} {us:List Value} (i:Nat),Vals xs us→Vals (xs.set i x) (us.set i u)
 | _,_,_,.nil=>.nil
 | _,_,0,.cons _ t=>.cons r t
 | _,_,i + 1,.cons q t=>.cons q (Vals.set r i t)
theorem Vals.append:∀ {xs ys:List V} {us ws:List Value},Vals xs us→Vals ys ws→Vals (xs++ys) (us++ws)
 | _,_,_,_,.nil,s=>s
 | _,_,_,_,.cons r t,s=>.cons r (Vals.append t s)
theorem Vals.take:∀ {xs:List V} {us:List Value} (n:Nat),Vals xs us→Vals (xs.take n) (us.take n)
 | _,_,0,_=>.nil
 | _,_,_ + 1,.nil=>.nil
 | _,_,n + 1,.cons r t=>.cons r (Vals.take n t)
theorem Vals.drop:∀ {xs:List V} {us:List Value} (n:Nat),Vals xs us→Vals (xs.drop n) (us.drop n)
 | _,_,0,r=>r
 | _,_,_ + 1,.nil=>.nil
 | _,_,n + 1,.cons _ t=>Vals.drop n t
noncomputable def RelO:Option V→Option Value→Prop
 | some v,some u=>RelV v u
 | none,none=>True
 | _,_=>False
noncomputable def KV {κ:Type}:List (κ×V)→List (κ×Value)→Prop:=Paired fun (p:κ×V) (q:κ×Value)=>p.1=q.1∧RelV p.2 q.2
noncomputable def kV:Key→V
 | .inl i=>.int i
 | .inr x=>.str x
inductive HO where
 | lst (xs:List V)
 | tup (xs:List V)
 | dK (kvs:List (Key×V)) | dT (kvs:List (List Key×V))
 | set (S:Int→Bool) (n:Nat)
 | ins (C dx:Addr) (fs:List (Str×V))
 | own (x:Addr)
 | xd (fs:List (Str×V))
 | met (f x:Addr)
 | rng (lo hi:Int)
 | frz (o:Obj) (u:HO)
 | tbl (ps:Array Value)
 | ext (φ:Heap→Prop)
noncomputable abbrev Hp:=Addr→Option HO
noncomputable def upd (H:Hp) (a:Addr) (o:HO):Hp:=fun b=>if b=a then some o else H b
theorem upd_same {H:Hp} {a:Addr} {o:HO}:upd H a o a=some o:=by unfold upd; rw [if_pos rfl]
theorem upd_ne {H:Hp} {a b:Addr} {o:HO} (h:b≠a):upd H a o b=H b:=by unfold upd; rw [if_neg h]
theorem ne_of_none {H:Hp} {a b:Addr} {o:HO} (h:H a=some o) (h':H b=none):a≠b:=by
 intro e; subst e; rw [h] at h'; cases h'
section
variable (P:Program) (w:World)
noncomputable def ObjOk (H:Hp) (h:Heap) (a:Addr):HO→Prop
 | .lst xs=>xs.length≤sizeLine∧∃ (its:List Value) (n:Nat),Vals xs its∧h.get? a=some { cls:=.type "list",data:=.seq its.toArray n }
 | .tup xs=>xs.length≤sizeLine∧∃ its:List Value,Vals xs its∧IsTup h a its.toArray
 | .dK kvs=>kvs.length≤sizeLine∧(a == sysModules)=false∧∃ vs,KV kvs vs∧h.DictOf (mixKind P w) a vs
 | .dT kvs=>kvs.length≤sizeLine∧(a == sysModules)=false∧∃ xs:List (List Key×Addr×Value),
   Paired (fun (p:List Key×V) (q:List Key×Addr×Value)=>p.1=q.1∧H q.2.1=some (.tup (p.1.map kV))∧RelV p.2 q.2.2) kvs xs ∧
   ∃ o es ep,h.get? a=some o∧o.ExactDict∧o.data=.dict es ep∧es.toList=xs.map (entryOfKey (tupleKind (mixKind P w)))∧(xs.map (·.1)).Nodup
 | .set S n=>h.SetOf (intKind P w) a S n
 | .ins C dx fs=>H dx=some (.own a)∧fs.length≤1000∧dx≠a∧h.get? a=some (PySem.W.instObj C dx) ∧
   ∃ mA,h.Ns1 dx mA∧(∀ f,RelO (fs.lookup f) (mA f))∧PySem.Within mA (fs.map (·.1))
 | .own _=>∃ o,h.get? a=some o
 | .xd fs=>∃ mA,h.Ns1 a mA∧∀ f,RelO (fs.lookup f) (mA f)
 | .rng lo hi=>∃ t u v,h.get? a=some { cls:=.type "range",data:=.fields #[.int lo t,.int hi u,.int 1 v] }
 | .frz o u=>h.get? a=some o∧ObjOk H h a u
 | .tbl ps=>h.get? a=some { cls:=.none,data:=.fields ps }
 | .met f x=>h.get? a=some (PySem.W.methodObj (.ref f) (.ref x))
 | .ext φ=>φ h∧(∃ o,h.get? a=some o)∧∀ h1 h2:Heap,φ h1→(∀ o,h1.get? a=some o→h2.get? a=some o)→φ h2
noncomputable def HOk (H:Hp) (h:Heap):Prop:=∀ a o,H a=some o→ObjOk P w H h a o
end
section
variable {P:Program} {w:World} {H H':Hp} {h h':Heap} {a:Addr} {o:HO}
theorem ObjOk.lt (x:ObjOk P w H h a o):a < h.objs.size:=by
 cases o with
 | lst xs=>obtain ⟨_,_,_,_,e⟩:=x; exact Heap.lt_size e
 | tup xs=>obtain ⟨_,_,_,p⟩:=x; exact p.lt
 | dK kvs=>obtain ⟨_,_,_,_,o,_,_,e,_⟩:=x; exact Heap.lt_size e
 | dT kvs=>obtain ⟨_,_,_,_,o,_,_,e,_⟩:=x; exact Heap.lt_size e
 | set S n=>obtain ⟨o,_,_,_,e,_⟩:=x; exact Heap.lt_size e
 | ins C dx fs=>obtain ⟨_,_,_,e,_⟩:=x; exact Heap.lt_size e
 | own y=>obtain ⟨_,e⟩:=x; exact Heap.lt_size e
 | xd fs=>obtain ⟨_,⟨_,_,_,e,_⟩,_⟩:=x; exact Heap.lt_size e
 | rng lo hi=>obtain ⟨_,_,_,e⟩:=x; exact Heap.lt_size e
 | frz ob u=>obtain ⟨e,_⟩:=x; exact Heap.lt_size e
 | tbl ps=>exact Heap.lt_size (show h.get? a=some _ from x)
 | met f y=>exact Heap.lt_size (show h.get? a=some _ from x)
 | ext φ=>obtain ⟨_,⟨_,e⟩,_⟩:=x; exact Heap.lt_size e
theorem Paired.mapP {α β:Type} {F G:α→β→Prop}:∀ {l₁:List α} {l₂:List β},Paired F l₁ l₂→(∀ a b,F a b→G a b)→Paired G l₁ l₂
 | _,_,.nil,_=>.nil
 | _,_,.cons r t,f=>.cons (f _ _ r) (Paired.mapP t f)
theorem ObjOk.stay (x:ObjOk P w H h a o) (k:∀ b u,(b=a∨H b=some (.own a))→h.get? b=some u→h'.get? b=some u)
  (ho:∀ b,H b=some (.own a)→H' b=some (.own a)) (ht:∀ b xs,H b=some (.tup xs)→H' b=some (.tup xs)):ObjOk P w H' h' a o:=by
 induction o with
 | lst xs=>obtain ⟨z,its,n,r,e⟩:=x; exact ⟨z,its,n,r,k _ _ (.inl rfl) e⟩
 | tup xs=>obtain ⟨z,its,r,ob,e,c⟩:=x; exact ⟨z,its,r,ob,k _ _ (.inl rfl) e,c⟩
 | dK kvs=>obtain ⟨z,y,vs,r,ob,es,ep,e,c⟩:=x; exact ⟨z,y,vs,r,ob,es,ep,k _ _ (.inl rfl) e,c⟩
 | dT kvs =>
  obtain ⟨z,y,xs,r,ob,es,ep,e,c⟩:=x
  exact ⟨z,y,xs,Paired.mapP r fun p q z=>⟨z.1,ht _ _ z.2.1,z.2.2⟩,ob,es,ep,k _ _ (.inl rfl) e,c⟩
 | set S n=>obtain ⟨ob,es,ep,t,e,c⟩:=x; exact ⟨ob,es,ep,t,k _ _ (.inl rfl) e,c⟩
 | ins C dx fs =>
  obtain ⟨d,z,ne,e,mA,⟨od,es,ep,e2,c⟩,r⟩:=x
  exact ⟨ho _ d,z,ne,k _ _ (.inl rfl) e,mA,⟨od,es,ep,k _ _ (.inr d) e2,c⟩,r⟩
 | own y=>obtain ⟨ob,e⟩:=x; exact ⟨ob,k _ _ (.inl rfl) e⟩
 | xd fs=>obtain ⟨mA,⟨od,es,ep,e,c⟩,r⟩:=x; exact ⟨mA,⟨od,es,ep,k _ _ (.inl rfl) e,c⟩,r⟩
 | rng lo hi=>obtain ⟨t,u,v,e⟩:=x; exact ⟨t,u,v,k _ _ (.inl rfl) e⟩
 | frz ob u ih=>obtain ⟨e,q⟩:=x; exact ⟨k _ _ (.inl rfl) e,ih q⟩
 | tbl ps =>
  have e:h.get? a=some { cls:=.none,data:=.fields ps }:=x
  show h'.get? a=some { cls:=.none,data:=.fields ps }
  exact k a _ (.inl rfl) e
 | met f y =>
  have e:h.get? a=some (PySem.W.methodObj (.ref f) (.ref y)):=x
  show h'.get? a=some (PySem.W.methodObj (.ref f) (.ref y))
  exact k a _ (.inl rfl) e
 | ext φ=>obtain ⟨p,⟨o,e⟩,st⟩:=x; exact ⟨st _ _ p fun o q=>k _ _ (.inl rfl) q,⟨o,k _ _ (.inl rfl) e⟩,st⟩
theorem HOk.lt (x:HOk P w H h) (e:H a=some o):a < h.objs.size:=(x a o e).lt
theorem HOk.fresh (x:HOk P w H h) (e:h.objs.size≤a):H a=none:=by
 cases q:H a with
 | none=>rfl
 | some u=>exact absurd (Nat.lt_of_lt_of_le (x.lt q) e) (Nat.lt_irrefl _)
theorem HOk.kept (x:HOk P w H h) (k:∀ b u,h.get? b=some u→h'.get? b=some u):HOk P w H h':=fun a o e =>
 (x a o e).stay (fun b u _ q=>k b u q) (fun _ q=>q) fun _ _ q=>q
theorem HOk.laid (x:HOk P w H h) (k:∀ b u,h.get? b=some u→h'.get? b=some u) (hp:h.objs.size≤a) (new:ObjOk P w (upd H a o) h' a o):HOk P w (upd H a o) h':=fun b u e=>by
 have hn:=x.fresh hp
 by_cases hb:b=a
 ·subst hb; rw [upd_same] at e; cases e; exact new
 ·rw [upd_ne hb] at e
  exact (x b u e).stay (fun c v _ q=>k c v q) (fun c q=>by rw [upd_ne (ne_of_none q hn)]; exact q) fun c xs q=>by rw [upd_ne (ne_of_none q hn)]; exact q
end
noncomputable def Rd (H:Hp) (a:Addr) (u:HO):Prop:=H a=some u∨∃ o,H a=some (.frz o u)
theorem Rd.ok {P:Program} {w:World} {H:Hp} {h:Heap} {a:Addr} {u:HO} (r:Rd H a u) (x:HOk P w H h):ObjOk P w H h a u:=by
 rcases r with r | ⟨o,r⟩
 ·exact x a u r
 ·obtain ⟨_,q⟩:=x a _ r
  exact q
noncomputable def Mut:Option HO→Prop
 | some (.lst _)=>True
 | some (.dK _)=>True
 | some (.dT _)=>True
 | some (.set _ _)=>True
 | some (.ins _ _ _)=>True
 | some (.ext _)=>True
 | _=>False
section
variable {P:Program} {w:World} {H:Hp} {h h':Heap} {x e:Addr} {o':HO}
theorem HOk.write (ok:HOk P w H h) (mu:Mut (H x)) (he:e=x∨H e=some (.own x)) (k:∀ b u,b≠e→h.get? b=some u→h'.get? b=some u) (heo:∃ u,h'.get? e=some u)
  (new:ObjOk P w (upd H x o') h' x o'):HOk P w (upd H x o') h':=fun b u q=>by
 have nown:∀ c y,H c=some (.own y)→c≠x:=fun c y r z=>by subst z; rw [r] at mu; exact mu
 have ntup:∀ c xs,H c=some (.tup xs)→c≠x:=fun c xs r z=>by subst z; rw [r] at mu; exact mu
 by_cases hb:b=x
 ·subst hb; rw [upd_same] at q; cases q; exact new
 ·rw [upd_ne hb] at q
  by_cases hbe:b=e
  ·have q':H b=some (.own x):=by
    rcases he with z | z
    ·exact absurd (hbe.trans z) hb
    ·rw [hbe]; exact z
   rw [q] at q'; cases q'
   obtain ⟨v,hv⟩:=heo
   exact ⟨v,by rw [hbe]; exact hv⟩
  ·refine (ok b u q).stay (fun c v hc r=>k c v ?_ r) (fun c r=>by rw [upd_ne (nown c b r)]; exact r) fun c xs r=>by rw [upd_ne (ntup c xs r)]; exact r
   rcases hc with rfl | hc
   ·exact hbe
   ·rintro rfl
    rcases he with z | z
    ·exact nown c b hc z
    ·rw [hc] at z; cases z; exact hb rfl
end
structure Un (fs ex:List Addr) (H H':Hp) (h h':Heap):Prop where
 keep:∀ b o,h.get? b=some o→H b=none→b ∉ fs→b ∉ ex→h'.get? b=some o
 slot:∀ b o,h.get? b=some o→H b=none→b∈fs→b ∉ ex→∃ sl,h'.get? b=some { o with slots:=sl }
 free:∀ b o,h.get? b=some o→H b=none→b ∉ ex→H' b=none
 there:∀ b o,h.get? b=some o→b ∉ ex→∃ o',h'.get? b=some o'
 tups:∀ b xs,H b=some (.tup xs)→H' b=some (.tup xs)
 frzs:∀ b o u,H b=some (.frz o u)→H' b=some (.frz o u)
 tbls:∀ b ps,H b=some (.tbl ps)→∃ more,H' b=some (.tbl (ps++more))
section
variable {fs fs' ex ex':List Addr} {H H1 H2:Hp} {h h1 h2 h':Heap} {a x e:Addr} {o:HO}
theorem Un.any (u:Un fs ex H H1 h h1) {b:Addr} {ob:Obj} (q:h.get? b=some ob) (n:H b=none) (hx:b ∉ ex):∃ sl,h1.get? b=some { ob with slots:=sl }:=by
 by_cases hb:b∈fs
 ·exact u.slot b ob q n hb hx
 ·exact ⟨ob.slots,u.keep b ob q n hb hx⟩
theorem Un.trans (a:Un fs ex H H1 h h1) (b:Un fs ex H1 H2 h1 h2):Un fs ex H H2 h h2 where
 keep:=fun c ob q n hc hx=>b.keep c ob (a.keep c ob q n hc hx) (a.free c ob q n hx) hc hx
 slot:=fun c ob q n hc hx=>by
  obtain ⟨sl,e1⟩:=a.slot c ob q n hc hx
  obtain ⟨sl',e2⟩:=b.slot c _ e1 (a.free c ob q n hx) hc hx
  exact ⟨sl',e2⟩
 free:=fun c ob q n hx=>by
  obtain ⟨o',e1⟩:=a.there c ob q hx
  exact b.free c o' e1 (a.free c ob q n hx) hx
 there:=fun c ob q hx=>by
  obtain ⟨o',e1⟩:=a.there c ob q hx
  exact b.there c o' e1 hx
 tups:=fun c xs q=>b.tups c xs (a.tups c xs q)
 frzs:=fun c ob xs q=>b.frzs c ob xs (a.frzs c ob xs q)
 tbls:=fun c ps q=>by
  obtain ⟨m1,e1⟩:=a.tbls c ps q
  obtain ⟨m2,e2⟩:=b.tbls c _ e1
  exact ⟨m1++m2,by rw [e2,Array.append_assoc]⟩
theorem Un.kept (k:∀ b u,h.get? b=some u→h'.get? b=some u):Un fs ex H H h h' :=
 ⟨fun b ob q _ _ _=>k b ob q,fun b ob q _ _ _=>⟨ob.slots,k b ob q⟩,fun _ _ _ n _=>n,fun b ob q _=>⟨ob,k b ob q⟩,fun _ _ q=>q,fun _ _ _ q=>q,fun _ ps q=>⟨#[],by rw [q]; simp⟩⟩
theorem Un.refl:Un fs ex H H h h:=Un.kept fun _ _ q=>q
theorem Un.laid (k:∀ b u,h.get? b=some u→h'.get? b=some u) (hp:h.objs.size≤a) (hn:H a=none):Un fs ex H (upd H a o) h h' where
 keep:=fun b u q _ _ _=>k b u q
 slot:=fun b u q _ _ _=>⟨u.slots,k b u q⟩
 free:=fun b u q n _=>by rw [upd_ne (Nat.ne_of_lt (Nat.lt_of_lt_of_le (Heap.lt_size q) hp))]; exact n
 there:=fun b u q _=>⟨u,k b u q⟩
 tups:=fun b xs q=>by rw [upd_ne (ne_of_none q hn)]; exact q
 frzs:=fun b u xs q=>by rw [upd_ne (ne_of_none q hn)]; exact q
 tbls:=fun b ps q=>⟨#[],by rw [upd_ne (ne_of_none q hn),q]; simp⟩
theorem Un.write (mu:Mut (H x)) (he:e=x∨H e=some (.own x)) (k:∀ b u,b≠e→h.get? b=some u→h'.get? b=some u) (heo:∃ u,h'.get? e=some u):Un fs ex H (upd H x o) h h':=by
 have hx:∀ b,H b=none→b≠x:=fun b n z=>by subst z; rw [n] at mu; exact mu
 have hb:∀ b,H b=none→b≠e:=fun b n z=>by
  subst z
  rcases he with r | r
  ·exact hx b n r
  ·rw [n] at r; cases r
 have hm:∀ b u,H b=some u→¬ Mut (some u)→b≠x:=fun b u q nm z=>by subst z; rw [q] at mu; exact nm mu
 refine ⟨fun b u q n _ _=>k b u (hb b n) q,fun b u q n _ _=>⟨u.slots,k b u (hb b n) q⟩,fun b u q n _=>by rw [upd_ne (hx b n)]; exact n,fun b u q _=>?_,
  fun b xs q=>by rw [upd_ne (hm b _ q fun z=>z)]; exact q,fun b u xs q=>by rw [upd_ne (hm b _ q fun z=>z)]; exact q,fun b ps q=>⟨#[],by rw [upd_ne (hm b _ q fun z=>z),q]; simp⟩⟩
 by_cases hbe:b=e
 ·subst hbe; exact heo
 ·exact ⟨u,k b u hbe q⟩
theorem Un.mono (u:Un fs ex H H1 h h1) (hs:∀ b∈fs,b∈fs') (hx:∀ b∈ex,b∈ex'):Un fs' ex' H H1 h h1 :=
 ⟨fun b ob q n hb he=>u.keep b ob q n (fun z=>hb (hs b z)) fun z=>he (hx b z),fun _ _ q n _ he=>u.any q n fun z=>he (hx _ z),fun b ob q n he=>u.free b ob q n fun z=>he (hx b z),fun b ob q he=>u.there b ob q fun z=>he (hx b z),u.tups,u.frzs,u.tbls⟩
end
noncomputable def trk (h:Heap) (H:Hp):List Addr:=(List.range h.objs.size).filter fun a=>(H a).isSome
noncomputable def hidT (h:Heap) (H:Hp):Heap:=PySem.W.hideAll h (trk h H)
theorem hidT_size (h:Heap) (H:Hp):(hidT h H).objs.size=h.objs.size:=PySem.W.hideAll_size _ _
theorem hidT_get {h:Heap} {H:Hp} {b:Addr} {o:Obj} (e:h.get? b=some o) (n:H b=none):(hidT h H).get? b=some o :=
 PySem.W.hideAll_get _ e fun hm=>by
  have q:(H b).isSome=true:=(List.mem_filter.mp hm).2
  rw [n] at q; simp at q
theorem of_hidT {h:Heap} {H:Hp} {b:Addr} {o:Obj} (e:(hidT h H).get? b=some o):h.get? b=some o∧H b=none:=by
 have e':h.get? b=some o:=PySem.W.of_hideAll (trk h H) e
 refine ⟨e',?_⟩
 cases q:H b with
 | none=>rfl
 | some x =>
  have hm:b∈trk h H:=List.mem_filter.mpr ⟨List.mem_range.mpr (Heap.lt_size e'),by simp [q]⟩
  have z:(hidT h H).get? b=none:=PySem.W.hideAll_none (trk h H) hm
  rw [z] at e; cases e
noncomputable def allNews (g h:Heap) (L:Addr):List (Addr×Obj):=(List.range h.objs.size).filterMap fun a=>if a=L∨(g.get? a).isSome=true then none else (h.get? a).map fun o=>(a,o)
noncomputable def rest (g h:Heap) (L d:Addr):List (Addr×Obj):=(allNews g h L).filter fun p=>decide (p.1≠d)
end L2
namespace L2
open PySem PySem.Spec PyProof.Rows
structure Mod (K:PySem.W.Frag) (mg:Str→Option Value) (base:Heap):Prop where
 kin:K.In base
 glob:base.Ns mainGlobals mg
 blt:∃ mb,base.Ns builtinsNs mb∧∀ x:Str,x ≠ "__name__" → mb x=bootBuiltins x
 nolimit:base.NoLimit
structure Cx where
 prog:Program
 w:World
 K:PySem.W.Frag
 mg:Str→Option Value
 base:Heap
 A:Around
 N:List Str
 s₀:Shared
 H₀:Hp
 env:Env
 outer:List Env
 stack:List Env
 ex:List Addr
 fn:Str→Bool
 calm:Bool
 pn:List (Addr×Obj)
 xe:Value→Shared→Prop
noncomputable def frs (l:List Env):List Addr:=l.filterMap (·.frame)
noncomputable abbrev Cx.fs (X:Cx):List Addr:=frs X.outer
noncomputable def Vis (sc:Scope) (x:Str):Prop:=sc.names.lookup x=some .local∨sc.names.lookup x=some .cell∨sc.names.lookup x=some .free
noncomputable def Loc (sc:Scope) (x:Str):Prop:=sc.names.lookup x=some .local∨sc.names.lookup x=some .cell
noncomputable def Look (env:Env) (h:Heap) (m:Str→Option Value) (x:Str) (u:Value):Prop :=
 (env.kindOf x=some .local∧m x=some u)∨((env.kindOf x=some .cell∨env.kindOf x=some .free)∧∃ c,env.cells.lookup x=some c∧h.IsCell c (some u))
structure Cx.Ok (X:Cx):Prop where
 mod:Mod X.K X.mg X.base
 kind:X.env.scope.kind=.function
 glob:X.env.globals=mainGlobals
 blt:X.env.builtins=builtinsNs
 above:X.s₀.heap.objs.size≤X.env.locals
 inj:∀ x y c,X.env.cells.lookup x=some c→X.env.cells.lookup y=some c→x=y
 has:∀ x,(X.env.kindOf x=some .cell∨X.env.kindOf x=some .free)→∃ c,X.env.cells.lookup x=some c
 cab:∀ x c,X.fn x=true→X.env.cells.lookup x=some c→X.s₀.heap.objs.size≤c
 hd:X.calm=true→X.A.handled=none
 frames:X.A.frames=some X.stack
 stk:X.stack=X.outer∨(X.stack=X.env :: X.outer∧X.env.frame=some X.env.locals)
 exf:∀ b∈X.ex,b≠X.env.locals∧∀ x c,X.env.cells.lookup x=some c→c≠b
 bs:∀ b o,X.base.get? b=some o→X.s₀.heap.get? b=some o∧X.H₀ b=none
 bsz:X.base.objs.size≤X.s₀.heap.objs.size
 noex:∀ b o,X.base.get? b=some o→b ∉ X.ex
 exfs:∀ b∈X.ex,b ∉ X.fs
 funs:X.s₀.heap.FunFrames X.base X.outer
 frf:∀ b∈X.fs,X.H₀ b=none
structure Inv (X:Cx) (pins:List (Addr×Obj)) (σ:List (Option V)) (H:Hp) (s:Shared):Prop where
 ok:X.Ok
 os:s.os=X.s₀.os
 bare:AllBare s.gens
 base:Un X.fs X.ex X.H₀ H X.s₀.heap s.heap
 loc:∃ m,s.heap.Ns X.env.locals m∧∀ (i:Nat) (x:Str) (v:V),X.N[i]?=some x→σ[i]?=some (some v)→Vis X.env.scope x→∃ u,RelV v u∧Look X.env s.heap m x u
 cell:∀ x c,X.env.cells.lookup x=some c→∃ v,s.heap.IsCell c v
 free:H X.env.locals=none
 freeC:∀ x c,X.env.cells.lookup x=some c→H c=none
 pin:∀ p∈X.pn++pins,s.heap.get? p.1=some p.2∧H p.1=none∧p.1≠X.env.locals∧p.1 ∉ X.fs∧∀ v,p.2.data≠.cell v
 hok:HOk X.prog X.w H s.heap
 len:σ.length=X.N.length
section
variable {X:Cx} {pins:List (Addr×Obj)} {σ:List (Option V)} {H H':Hp} {s:Shared} {h':Heap}
theorem Cx.Ok.nofr (ok:X.Ok) {b:Addr} {o:Obj} (e:X.base.get? b=some o):b ∉ X.fs:=fun hb=>by
 have:=(ok.funs.mem hb).1
 rw [e] at this; cases this
theorem Inv.bs (I:Inv X pins σ H s):∀ b o,X.base.get? b=some o→s.heap.get? b=some o∧H b=none:=fun b o e =>
 ⟨I.base.keep b o (I.ok.bs b o e).1 (I.ok.bs b o e).2 (I.ok.nofr e) (I.ok.noex b o e),I.base.free b o (I.ok.bs b o e).1 (I.ok.bs b o e).2 (I.ok.noex b o e)⟩
theorem Inv.bk (I:Inv X pins σ H s):∀ b o,X.base.get? b=some o→s.heap.get? b=some o:=fun b o e=>(I.bs b o e).1
theorem Inv.mod (I:Inv X pins σ H s):Mod X.K X.mg X.base:=I.ok.mod
theorem Inv.kIn (I:Inv X pins σ H s):X.K.In s.heap:=I.ok.mod.kin.keeps I.bk
theorem Inv.nolimit (I:Inv X pins σ H s):s.heap.NoLimit:=I.ok.mod.nolimit.keeps I.bk
theorem Inv.lt (I:Inv X pins σ H s):X.env.locals < s.heap.objs.size:=let ⟨_,hn,_⟩:=I.loc; hn.lt
theorem Inv.sz (I:Inv X pins σ H s):X.s₀.heap.objs.size≤s.heap.objs.size:=Nat.le_trans I.ok.above (Nat.le_of_lt I.lt)
theorem Inv.nofs (I:Inv X pins σ H s) {a:Addr} (h:s.heap.objs.size≤a):a ∉ X.fs:=fun hb=>by
 obtain ⟨_,o,ho,_⟩:=I.ok.funs.mem hb
 exact absurd (Nat.lt_of_lt_of_le (Heap.lt_size ho) (Nat.le_trans I.sz h)) (Nat.lt_irrefl _)
theorem Inv.cne (I:Inv X pins σ H s):∀ x c,X.env.cells.lookup x=some c→c≠X.env.locals:=fun x c e z=>by
 obtain ⟨v,o,ho,hd⟩:=I.cell x c e
 obtain ⟨m,⟨o',es,ep,ho',hd',_⟩,_⟩:=I.loc
 rw [z,ho'] at ho; cases ho; rw [hd'] at hd; cases hd
theorem Inv.funs (I:Inv X pins σ H s):s.heap.FunFrames X.base X.outer:=by
 have all:∀ (l:List Env),(∀ b∈frs l,b∈X.fs)→X.s₀.heap.FunFrames X.base l→s.heap.FunFrames X.base l:=by
  intro l
  induction l with
  | nil=>intro _ _; trivial
  | cons env r ih =>
   intro hs hl
   obtain ⟨hk,⟨L,o,hf,hn,ho,hd⟩,hr⟩:=hl
   have hL:L∈X.fs:=hs L (by unfold frs; rw [List.filterMap_cons,hf]; exact List.mem_cons_self)
   obtain ⟨sl,e⟩:=I.base.slot L o ho (I.ok.frf L hL) hL fun z=>I.ok.exfs L z hL
   exact ⟨hk,⟨L,_,hf,hn,e,hd⟩,ih (fun b hb=>hs b (by unfold frs; rw [List.filterMap_cons,hf]; exact List.mem_cons_of_mem _ hb)) hr⟩
 exact all X.outer (fun _ hb=>hb) I.ok.funs
theorem Inv.stack (I:Inv X pins σ H s):s.heap.FunFrames X.base X.stack:=by
 rcases I.ok.stk with e | ⟨e,hf⟩
 ·rw [e]; exact I.funs
 ·rw [e]
  obtain ⟨m,hn,_⟩:=I.loc
  refine .cons (by rw [I.ok.kind]; decide) hf hn ?_ I.funs
  exact Heap.get?_none_of_le (Nat.le_trans I.ok.bsz I.ok.above)
theorem Inv.stkSub (I:Inv X pins σ H s):∀ b∈frs X.stack,b∈X.env.locals :: X.fs:=fun b hb=>by
 rcases I.ok.stk with e | ⟨e,hf⟩
 ·rw [e] at hb; exact List.mem_cons_of_mem _ hb
 ·rw [e] at hb
  unfold frs at hb
  rw [List.filterMap_cons,hf] at hb
  exact hb
theorem Inv.stkFree (I:Inv X pins σ H s):∀ b∈frs X.stack,H b=none:=fun b hb=>by
 rcases List.mem_cons.mp (I.stkSub b hb) with e | hb
 ·rw [e]; exact I.free
 ·obtain ⟨_,o,ho,_⟩:=I.ok.funs.mem hb
  exact I.base.free b o ho (I.ok.frf b hb) fun z=>I.ok.exfs b z hb
theorem Inv.step {g':Array GenState} {t':Nat} {d':Drawn} {ch:List Addr} (I:Inv X pins σ H s)
  (hch:∀ b∈ch,(b∈X.ex∨X.s₀.heap.objs.size≤b)∧b≠X.env.locals∧(∀ x c,X.env.cells.lookup x=some c→c≠b)∧∀ p∈X.pn++pins,p.1≠b)
  (keep:∀ b o,b≠X.env.locals→b ∉ X.fs→b ∉ ch→s.heap.get? b=some o→H b=none→h'.get? b=some o)
  (slot:∀ b o,b≠X.env.locals→b∈X.fs→b ∉ ch→s.heap.get? b=some o→H b=none→∃ sl,h'.get? b=some { o with slots:=sl }) (free:∀ b o,b ∉ ch→s.heap.get? b=some o→H b=none→H' b=none)
  (there:∀ b o,b ∉ ch→s.heap.get? b=some o→∃ o',h'.get? b=some o')
  (tups:∀ b xs,H b=some (.tup xs)→H' b=some (.tup xs)) (frzs:∀ b o u,H b=some (.frz o u)→H' b=some (.frz o u)) (tbls:∀ b ps,H b=some (.tbl ps)→∃ more,H' b=some (.tbl (ps++more)))
  (ns:∀ m,s.heap.Ns X.env.locals m→h'.Ns X.env.locals m) (hok:HOk X.prog X.w H' h') (hg:AllBare g') :
  Inv X pins σ H' { s with heap:=h',gens:=g',drawn:=d',toks:=t' }:=by
 have neL:∀ b o,X.s₀.heap.get? b=some o→b≠X.env.locals:=fun b o e=>Nat.ne_of_lt (Nat.lt_of_lt_of_le (Heap.lt_size e) I.ok.above)
 have neC:∀ b o,X.s₀.heap.get? b=some o→b ∉ X.ex→b ∉ ch:=fun b o e hx hb=>by
  rcases (hch b hb).1 with z | z
  ·exact hx z
  ·exact absurd (Nat.lt_of_lt_of_le (Heap.lt_size e) z) (Nat.lt_irrefl _)
 have cellK:∀ x c,X.env.cells.lookup x=some c→∀ v,s.heap.IsCell c v→h'.IsCell c v:=fun x c e v ⟨o,ho,hd⟩=>by
  have nch:c ∉ ch:=fun z=>(hch c z).2.2.1 x c e rfl
  by_cases hc:c∈X.fs
  ·obtain ⟨sl,q⟩:=slot c o (I.cne x c e) hc nch ho (I.freeC x c e)
   exact ⟨_,q,hd⟩
  ·exact ⟨o,keep c o (I.cne x c e) hc nch ho (I.freeC x c e),hd⟩
 refine ⟨I.ok,I.os,hg,⟨fun b o e n hb hx=>?_,fun b o e n hb hx=>?_,fun b o e n hx=>?_,fun b o e hx=>?_,fun b xs e=>tups b xs (I.base.tups b xs e),fun b o xs e=>frzs b o xs (I.base.frzs b o xs e),fun b ps e=>?_⟩,?_,fun x c e=>?_,?_,fun x c e=>?_,fun p hp=>?_,hok,I.len⟩
 ·exact keep b o (neL b o e) hb (neC b o e hx) (I.base.keep b o e n hb hx) (I.base.free b o e n hx)
 ·obtain ⟨sl,e1⟩:=I.base.slot b o e n hb hx
  obtain ⟨sl',e2⟩:=slot b _ (neL b o e) hb (neC b o e hx) e1 (I.base.free b o e n hx)
  exact ⟨sl',e2⟩
 ·obtain ⟨o',e1⟩:=I.base.there b o e hx
  exact free b o' (neC b o e hx) e1 (I.base.free b o e n hx)
 ·obtain ⟨o',e1⟩:=I.base.there b o e hx
  exact there b o' (neC b o e hx) e1
 ·obtain ⟨m1,e1⟩:=I.base.tbls b ps e
  obtain ⟨m2,e2⟩:=tbls b _ e1
  exact ⟨m1++m2,by rw [e2,Array.append_assoc]⟩
 ·obtain ⟨m,hn,hl⟩:=I.loc
  refine ⟨m,ns m hn,fun i x v e1 e2 e3=>?_⟩
  obtain ⟨u,r,l⟩:=hl i x v e1 e2 e3
  refine ⟨u,r,?_⟩
  rcases l with l | ⟨k,c,e,z⟩
  ·exact .inl l
  ·exact .inr ⟨k,c,e,cellK x c e _ z⟩
 ·obtain ⟨v,z⟩:=I.cell x c e
  exact ⟨v,cellK x c e v z⟩
 ·obtain ⟨m,⟨o,_,_,ho,_⟩,_⟩:=I.loc
  exact free _ o (fun z=>(hch _ z).2.1 rfl) ho I.free
 ·obtain ⟨v,o,ho,hd⟩:=I.cell x c e
  exact free c o (fun z=>(hch c z).2.2.1 x c e rfl) ho (I.freeC x c e)
 ·obtain ⟨e,n,ne,nf,d⟩:=I.pin p hp
  have nch:p.1 ∉ ch:=fun z=>(hch p.1 z).2.2.2 p hp rfl
  exact ⟨keep p.1 p.2 ne nf nch e n,free p.1 p.2 nch e n,ne,nf,d⟩
theorem Inv.un {t':Nat} (I:Inv X pins σ H s) (u:Un X.fs [] H H' s.heap h') (hok:HOk X.prog X.w H' h'):Inv X pins σ H' { s with heap:=h',toks:=t' }:=by
 obtain ⟨m,⟨o,es,ep,ho,r⟩,_⟩:=id I.loc
 obtain ⟨sl,hL⟩:=u.any ho I.free (by simp)
 exact I.step (g':=s.gens) (d':=s.drawn) (ch:=[]) (fun _ z=>nomatch z) (fun b o _ hb _ e n=>u.keep b o e n hb (by simp)) (fun b o _ hb _ e n=>u.slot b o e n hb (by simp)) (fun b o _ e n=>u.free b o e n (by simp)) (fun b o _ e=>u.there b o e (by simp)) u.tups u.frzs u.tbls (fun m' hm=>by
  obtain ⟨o',es',ep',ho',r'⟩:=hm
  rw [ho] at ho'; cases ho'
  exact ⟨_,es',ep',hL,r'⟩) hok I.bare
theorem Inv.call {g':Array GenState} {t':Nat} {d':Drawn} {ch:List Addr} (I:Inv X pins σ H s) (u:Un (frs X.stack) ch H H' s.heap h') (hok:HOk X.prog X.w H' h') (hg:AllBare g')
  (hch:∀ b∈ch,(b∈X.ex∨X.s₀.heap.objs.size≤b)∧b≠X.env.locals∧(∀ x c,X.env.cells.lookup x=some c→c≠b)∧∀ p∈X.pn++pins,p.1≠b) :
  Inv X pins σ H' { s with heap:=h',gens:=g',drawn:=d',toks:=t' }:=by
 obtain ⟨m,⟨o,es,ep,ho,r⟩,_⟩:=id I.loc
 obtain ⟨sl,hL⟩:=u.any ho I.free fun z=>(hch _ z).2.1 rfl
 exact I.step (ch:=ch) hch (fun b o hL hb hc e n=>u.keep b o e n (fun z=>(List.mem_cons.mp (I.stkSub b z)).elim hL hb) hc) (fun b o _ _ hc e n=>u.any e n hc) (fun b o hc e n=>u.free b o e n hc) (fun b o hc e=>u.there b o e hc) u.tups u.frzs u.tbls (fun m' hm=>by
  obtain ⟨o',es',ep',ho',r'⟩:=hm
  rw [ho] at ho'; cases ho'
  exact ⟨_,es',ep',hL,r'⟩) hok hg
theorem Inv.turned {t':Nat} {it:Addr} (I:Inv X pins σ H s) (k:∀ b o,b≠it→s.heap.get? b=some o→h'.get? b=some o) (hn:H it=none) (hL:it≠X.env.locals)
  (h1:it∈X.ex∨X.s₀.heap.objs.size≤it) (h2:∀ x c,X.env.cells.lookup x=some c→c≠it) (h3:∀ p∈X.pn++pins,p.1≠it):Inv X pins σ H { s with heap:=h',toks:=t' }:=by
 have nit:∀ b u,H b=some u→b≠it:=fun b u e z=>by rw [z,hn] at e; cases e
 refine I.step (g':=s.gens) (d':=s.drawn) (ch:=[it]) (fun b hb=>?_) (fun b o _ _ hc e _=>k b o (fun z=>hc (by simp [z])) e) (fun b o _ _ hc e _=>⟨o.slots,k b o (fun z=>hc (by simp [z])) e⟩) (fun _ _ _ _ n=>n)
  (fun b o hc e=>⟨o,k b o (fun z=>hc (by simp [z])) e⟩) (fun _ _ e=>e) (fun _ _ _ e=>e) (fun b ps e=>⟨#[],by rw [e]; simp⟩) (fun m hm=>?_) (fun b u e=>?_) I.bare
 ·have e:b=it:=by simpa using hb
  subst e
  exact ⟨h1,hL,h2,h3⟩
 ·obtain ⟨o,es,ep,ho,r⟩:=hm
  exact ⟨o,es,ep,k _ o (Ne.symm hL) ho,r⟩
 ·refine (I.hok b u e).stay (fun c v hc q=>k c v ?_ q) (fun _ q=>q) fun _ _ q=>q
  rcases hc with z | z
  ·rw [z]; exact nit b u e
  ·exact nit c _ z
theorem Inv.tok (I:Inv X pins σ H s) (t:Nat):Inv X pins σ H { s with toks:=t }:=I.un (h':=s.heap) (t':=t) Un.refl I.hok
theorem Inv.kept {t':Nat} (I:Inv X pins σ H s) (k:∀ b u,s.heap.get? b=some u→h'.get? b=some u):Inv X pins σ H { s with heap:=h',toks:=t' }:=I.un (Un.kept k) (I.hok.kept k)
theorem Inv.laid {a:Addr} {o:HO} {t':Nat} (I:Inv X pins σ H s) (k:∀ b u,s.heap.get? b=some u→h'.get? b=some u) (hp:s.heap.objs.size≤a) (new:ObjOk X.prog X.w (upd H a o) h' a o) :
  Inv X pins σ (upd H a o) { s with heap:=h',toks:=t' }:=I.un (Un.laid k hp (I.hok.fresh hp)) (I.hok.laid k hp new)
theorem Inv.write {x e:Addr} {o:HO} {t':Nat} (I:Inv X pins σ H s) (mu:Mut (H x)) (he:e=x∨H e=some (.own x)) (k:∀ b u,b≠e→s.heap.get? b=some u→h'.get? b=some u) (heo:∃ u,h'.get? e=some u)
  (new:ObjOk X.prog X.w (upd H x o) h' x o):Inv X pins σ (upd H x o) { s with heap:=h',toks:=t' }:=I.un (Un.write mu he k heo) (I.hok.write mu he k heo new)
theorem Inv.weak {σ':List (Option V)} (I:Inv X pins σ H s) (hl:σ'.length=σ.length) (w:∀ (i:Nat) v,σ'[i]?=some (some v)→σ[i]?=some (some v)):Inv X pins σ' H s :=
 ⟨I.ok,I.os,I.bare,I.base,let ⟨m,hn,hl'⟩:=I.loc; ⟨m,hn,fun i x v e1 e2 e3=>hl' i x v e1 (w i v e2) e3⟩,I.cell,I.free,I.freeC,I.pin,I.hok,hl.trans I.len⟩
theorem Inv.pins_of {pins':List (Addr×Obj)} (I:Inv X pins σ H s) (h:∀ p∈pins',s.heap.get? p.1=some p.2∧H p.1=none∧p.1≠X.env.locals∧p.1 ∉ X.fs∧∀ v,p.2.data≠.cell v):Inv X pins' σ H s :=
 ⟨I.ok,I.os,I.bare,I.base,I.loc,I.cell,I.free,I.freeC,fun p hp=>(List.mem_append.mp hp).elim (fun z=>I.pin p (List.mem_append_left _ z)) (h p),I.hok,I.len⟩
theorem nodup_ix {N:List Str} (hN:N.Nodup) {i j:Nat} {x:Str} (a:N[i]?=some x) (b:N[j]?=some x):i=j:=by
 obtain ⟨h1,e1⟩:=List.getElem?_eq_some_iff.mp a
 obtain ⟨h2,e2⟩:=List.getElem?_eq_some_iff.mp b
 exact (List.getElem_inj hN).mp (e1.trans e2.symm)
theorem store_ok2 {M:Model} {A:Around} {E:Value→Shared→Prop} {i:Nat} {x:Str} {v:V} {u:Value} {Q:Unit→Shared→Prop} (I:Inv X pins σ H s) (hN:X.N.Nodup) (hi:X.N[i]?=some x) (hx:Loc X.env.scope x) (r:RelV v u)
  (h:∀ s',Inv X pins (σ.set i (some v)) H s'→(∃ a,Heap.SameBut a s.heap s'.heap∧(a=X.env.locals∨X.env.cells.lookup x=some a))→Q () s') (hf:X.fn x=true∨X.env.scope.names.lookup x=some .local:=by first | exact .inl rfl | exact .inr rfl | assumption):wpAny M A (storeName X.env x u) Q E s:=by
 obtain ⟨m,hn,hl⟩:=id I.loc
 have hcls:(X.env.scope.kind == .class || (X.env.scope.kind == .module && X.env.locals != X.env.globals))=false:=by rw [I.ok.kind]; rfl
 have hiσ:i < σ.length:=by rw [I.len]; exact (List.getElem?_eq_some_iff.mp hi).1
 have cne:=I.cne
 have tracked:∀ {a:Addr} {h':Heap},(∃ o,s.heap.get? a=some o∧H a=none)→Heap.SameBut a s.heap h'→HOk X.prog X.w H h':=fun {a h'} ha hs b ob e=>by
  obtain ⟨_,_,hfree⟩:=ha
  refine (I.hok b ob e).stay (fun c w' hc q=>(hs.2 c ?_).trans q) (fun _ q=>q) fun _ _ q=>q
  rintro rfl
  rcases hc with rfl | hc
  ·rw [hfree] at e; cases e
  ·rw [hfree] at hc; cases hc
 rcases hx with hk | hk
 ·refine wpAny_storeName_local hk hn (fun h' hn' hs=>?_) hcls
  obtain ⟨oL,_,_,hoL,_⟩:=id hn
  refine h _ ⟨I.ok,I.os,I.bare,⟨fun b o e n hb hx=>?_,fun b o e n hb hx=>?_,I.base.free,fun b o e hx=>?_,I.base.tups,I.base.frzs,I.base.tbls⟩,⟨_,hn',fun j y v' e1 e2 e3=>?_⟩,fun y c e=>?_,I.free,I.freeC,fun p hp=>?_,tracked ⟨oL,hoL,I.free⟩ hs,by simpa using I.len⟩ ⟨_,hs,.inl rfl⟩
  ·exact (hs.2 b (Nat.ne_of_lt (Nat.lt_of_lt_of_le (Heap.lt_size e) I.ok.above))).trans (I.base.keep b o e n hb hx)
  ·obtain ⟨sl,e1⟩:=I.base.slot b o e n hb hx
   exact ⟨sl,(hs.2 b (Nat.ne_of_lt (Nat.lt_of_lt_of_le (Heap.lt_size e) I.ok.above))).trans e1⟩
  ·obtain ⟨o',e1⟩:=I.base.there b o e hx
   exact ⟨o',(hs.2 b (Nat.ne_of_lt (Nat.lt_of_lt_of_le (Heap.lt_size e) I.ok.above))).trans e1⟩
  ·by_cases hj:j=i
   ·subst hj
    rw [hi] at e1; cases e1
    rw [List.getElem?_set_self hiσ] at e2
    cases e2
    exact ⟨u,r,.inl ⟨hk,by simp⟩⟩
   ·rw [List.getElem?_set_ne (Ne.symm hj)] at e2
    obtain ⟨u',r',q⟩:=hl j y v' e1 e2 e3
    refine ⟨u',r',?_⟩
    rcases q with ⟨k,e⟩ | ⟨k,c,e,z⟩
    ·refine .inl ⟨k,?_⟩
     have:y≠x:=fun e=>hj (nodup_ix hN e1 (e ▸ hi))
     simp [this,e]
    ·exact .inr ⟨k,c,e,z.sameBut hs (cne y c e)⟩
  ·obtain ⟨w',z⟩:=I.cell y c e
   exact ⟨w',z.sameBut hs (cne y c e)⟩
  ·obtain ⟨e,n,ne,nf,d⟩:=I.pin p hp
   exact ⟨(hs.2 p.1 ne).trans e,n,ne,nf,d⟩
 ·have hfn:X.fn x=true:=by
   rcases hf with z | z
   ·exact z
   ·rw [z] at hk; cases hk
  obtain ⟨c,hc⟩:=I.ok.has x (.inl hk)
  obtain ⟨w',z⟩:=I.cell x c hc
  refine wpAny_storeName_cell I.ok.kind hk hc z (fun h' hc' hs=>?_)
  obtain ⟨oc,hoc,hocd⟩:=id z
  refine h { s with heap:=h' } ⟨I.ok,I.os,I.bare,⟨fun b o e n hb hx=>?_,fun b o e n hb hx=>?_,I.base.free,fun b o e hx=>?_,I.base.tups,I.base.frzs,I.base.tbls⟩,⟨m,hn.sameBut hs (Ne.symm (cne x c hc)),fun j y v' e1 e2 e3=>?_⟩,fun y c' e=>?_,I.free,I.freeC,fun p hp=>?_,tracked ⟨oc,hoc,I.freeC x c hc⟩ hs,by simpa using I.len⟩ ⟨c,hs,.inr hc⟩
  ·exact (hs.2 b (Nat.ne_of_lt (Nat.lt_of_lt_of_le (Heap.lt_size e) (I.ok.cab x c hfn hc)))).trans (I.base.keep b o e n hb hx)
  ·obtain ⟨sl,e1⟩:=I.base.slot b o e n hb hx
   exact ⟨sl,(hs.2 b (Nat.ne_of_lt (Nat.lt_of_lt_of_le (Heap.lt_size e) (I.ok.cab x c hfn hc)))).trans e1⟩
  ·obtain ⟨o',e1⟩:=I.base.there b o e hx
   exact ⟨o',(hs.2 b (Nat.ne_of_lt (Nat.lt_of_lt_of_le (Heap.lt_size e) (I.ok.cab x c hfn hc)))).trans e1⟩
  ·by_cases hj:j=i
   ·subst hj
    rw [hi] at e1; cases e1
    rw [List.getElem?_set_self hiσ] at e2
    cases e2
    exact ⟨u,r,.inr ⟨.inl hk,c,hc,hc'⟩⟩
   ·rw [List.getElem?_set_ne (Ne.symm hj)] at e2
    obtain ⟨u',r',q⟩:=hl j y v' e1 e2 e3
    refine ⟨u',r',?_⟩
    rcases q with q | ⟨k,c',e,z'⟩
    ·exact .inl q
    ·refine .inr ⟨k,c',e,z'.sameBut hs ?_⟩
     rintro rfl
     exact hj (nodup_ix hN e1 (I.ok.inj _ _ _ e hc ▸ hi))
  ·by_cases hcc:c'=c
   ·subst hcc; exact ⟨_,hc'⟩
   ·obtain ⟨w2,z2⟩:=I.cell y c' e
    exact ⟨w2,z2.sameBut hs hcc⟩
  ·obtain ⟨e,n,ne,nf,d⟩:=I.pin p hp
   refine ⟨(hs.2 p.1 ?_).trans e,n,ne,nf,d⟩
   intro q
   rw [q,hoc] at e
   have q':oc=p.2:=Option.some.inj e
   exact d w' (by rw [← q']; exact hocd)
theorem store_ok {M:Model} {A:Around} {E:Value→Shared→Prop} {i:Nat} {x:Str} {v:V} {u:Value} {Q:Unit→Shared→Prop} (I:Inv X pins σ H s) (hN:X.N.Nodup) (hi:X.N[i]?=some x) (hx:Loc X.env.scope x) (r:RelV v u)
  (h:∀ s',Inv X pins (σ.set i (some v)) H s'→Q () s') (hf:X.fn x=true∨X.env.scope.names.lookup x=some .local:=by first | exact .inl rfl | exact .inr rfl | assumption):wpAny M A (storeName X.env x u) Q E s :=
 store_ok2 I hN hi hx r (fun s' I' _=>h s' I') hf
theorem Inv.call' {s':Shared} {ch:List Addr} (I:Inv X pins σ H s) (ho:s'.os=s.os) (u:Un (frs X.stack) ch H H' s.heap s'.heap) (hok:HOk X.prog X.w H' s'.heap) (hg:AllBare s'.gens)
  (hch:∀ b∈ch,(b∈X.ex∨X.s₀.heap.objs.size≤b)∧b≠X.env.locals∧(∀ x c,X.env.cells.lookup x=some c→c≠b)∧∀ p∈X.pn++pins,p.1≠b):Inv X pins σ H' s':=by
 obtain ⟨h',g',d',t',o'⟩:=s'
 have e:o'=s.os:=ho
 subst e
 exact I.call (g':=g') (t':=t') (d':=d') u hok hg hch
end
noncomputable abbrev XK:=Value→Option Addr→Hp→Prop
noncomputable abbrev St:=List (Option V)
noncomputable abbrev VK:=V→Hp→Prop
noncomputable abbrev TE:=St→Hp→VK→Prop
structure Ends where
 nx:St→Hp→Prop
 rt:VK
 bk:St→Hp→Prop:=fun _ _=>False
 ct:St→Hp→Prop:=fun _ _=>False
noncomputable def EP (X:Cx) (pins:List (Addr×Obj)) (σ:St) (Q:VK) (u:Value) (s':Shared):Prop:=∃ v H',Inv X pins σ H' s'∧RelV v u∧Q v H'
noncomputable def TP (X:Cx) (pins:List (Addr×Obj)) (σ:St) (Q:Bool→Hp→Prop) (b:Bool) (s':Shared):Prop:=∃ H',Inv X pins σ H' s'∧Q b H'
noncomputable def SP (X:Cx) (pins:List (Addr×Obj)) (D:Ends) (f:Flow) (s':Shared):Prop :=
 match f with
 | .next=>∃ σ' H',Inv X pins σ' H' s'∧D.nx σ' H'
 | .brk=>∃ σ' H',Inv X pins σ' H' s'∧D.bk σ' H'
 | .cont=>∃ σ' H',Inv X pins σ' H' s'∧D.ct σ' H'
 | .ret u=>∃ v σ' H',Inv X pins σ' H' s'∧RelV v u∧D.rt v H'
noncomputable def PE (X:Cx) (e:Expr) (t:TE):Prop :=
 ∀ (pins:List (Addr×Obj)) (s:Shared) (σ:St) (H:Hp) (Q:VK),Inv X pins σ H s→t σ H Q→wpAny (model X.prog X.w) X.A (eval e X.env) (EP X pins σ Q) X.xe s
theorem thn {α:Type} {t:Sem α} {Q Q':α→Shared→Prop} {M:Model} {A:Around} {E:Value→Shared→Prop} {s:Shared} (h:wpAny M A t Q E s) (hQ:∀ a s,Q a s→Q' a s):wpAny M A t Q' E s:=wpAny_mono h hQ fun _ _ x=>x
end L2
namespace L2
open PySem PySem.Spec PyProof.Rows
section
variable {X:Cx}
theorem bin {a b:Expr} {ta tb:TE} (ha:PE X a ta) (hb:PE X b tb) {pins:List (Addr×Obj)} {s:Shared} {σ:St} {H:Hp} {R:V→V→Hp→Prop} (I:Inv X pins σ H s) (h:ta σ H fun x H1=>tb σ H1 fun y H2=>R x y H2)
  {α:Type} {Q:α→Shared→Prop} {f:Value→Value→Sem α}
  (hf:∀ v u s2 x y H2,Inv X pins σ H2 s2→RelV x v→RelV y u→R x y H2→wpAny (model X.prog X.w) X.A (f v u) Q X.xe s2) :
  wpAny (model X.prog X.w) X.A (eval a X.env) (fun v s₁=>wpAny (model X.prog X.w) X.A (eval b X.env) (fun u s₂=>wpAny (model X.prog X.w) X.A (f v u) Q X.xe s₂) X.xe s₁) X.xe s:=by
 refine thn (ha pins s σ H _ I h) fun v s1 ⟨x,H1,I1,r1,q1⟩=>?_
 refine thn (hb pins s1 σ H1 _ I1 q1) fun u s2 ⟨y,H2,I2,r2,q2⟩=>?_
 exact hf v u s2 x y H2 I2 r1 r2 q2
noncomputable def tVar (i:Nat):TE:=fun σ H Q=>∃ v,σ[i]?=some (some v)∧Q v H
noncomputable def tC (v:V):TE:=fun _ H Q=>Q v H
theorem pe_var {i:Nat} {x:Str} {pos:Pos} (hN:X.N[i]?=some x) (hv:Vis X.env.scope x) (hd:(x == ("__debug__" : Str))=false:=by decide) (hcd:(x == ("__classdict__" : Str))=false:=by decide):PE X (.Name x pos) (tVar i):=by
 intro pins s σ H Q I h
 obtain ⟨v,e,h⟩:=h
 obtain ⟨m,hn,hl⟩:=I.loc
 obtain ⟨u,r,l⟩:=hl i x v hN e hv
 have fin:EP X pins σ Q u s:=⟨v,H,I,r,h⟩
 rcases l with ⟨hk,hm⟩ | ⟨hk,c,hc,hcell⟩
 ·exact wpAny_Name (wpAny_loadName_local I.ok.kind hk hn hm fin) hd
 ·rcases hk with hk | hk
  ·exact wpAny_Name (wpAny_loadName_cell I.ok.kind hk hc hcell fin) hd
  ·exact wpAny_Name (wpAny_loadName_free I.ok.kind hk hc hcell fin hcd) hd
theorem pe_int {i j pos}:PE X (.Constant (.int i) j pos) (tC (.int i)):=fun _ _ _ H _ I h=>wpAny_Constant_int ⟨.int i,H,I.tok _,⟨_,rfl⟩,h⟩
theorem pe_bl {b j pos}:PE X (.Constant (.bool b) j pos) (tC (.bl b)):=fun _ _ _ H _ I h=>Constant_bool ⟨.bl b,H,I,rfl,h⟩
theorem pe_non {j pos}:PE X (.Constant .none j pos) (tC .non):=fun _ _ _ H _ I h=>Constant_none ⟨.non,H,I,rfl,h⟩
theorem pe_str {x j pos}:PE X (.Constant (.str x) j pos) (tC (.str x)):=fun _ _ _ H _ I h=>Calls.Constant_str ⟨.str x,H,I.tok _,⟨_,rfl⟩,h⟩
noncomputable def Gl (X:Cx) (x:Str):Prop:=X.env.kindOf x=some .globalImplicit
theorem ld_glob {E:Value→Shared→Prop} {pins:List (Addr×Obj)} {s:Shared} {σ:St} {H:Hp} {x:Str} {u:Value} {pos:Pos} {Q:Value→Shared→Prop} (I:Inv X pins σ H s) (hg:Gl X x) (hm:X.mg x=some u) (h:Q u s)
  (hd:(x == ("__debug__" : Str))=false:=by decide):wpAny (model X.prog X.w) X.A (eval (.Name x pos) X.env) Q E s :=
 Calls.Name_function_global I.ok.kind hg (Calls.loadGlobal_global (by rw [I.ok.glob]; exact I.mod.glob.keeps I.bk) hm h) hd
theorem ld_blt {E:Value→Shared→Prop} {pins:List (Addr×Obj)} {s:Shared} {σ:St} {H:Hp} {x:Str} {u:Value} {pos:Pos} {Q:Value→Shared→Prop} (I:Inv X pins σ H s) (hg:Gl X x) (hm:X.mg x=none) (hv:bootBuiltins x=some u) (h:Q u s)
  (hn:x ≠ "__name__" := by decide) (hd:(x == ("__debug__" : Str))=false:=by decide):wpAny (model X.prog X.w) X.A (eval (.Name x pos) X.env) Q E s:=by
 obtain ⟨mb,h1,h2⟩:=I.mod.blt
 exact Calls.Name_function_global I.ok.kind hg (Calls.loadGlobal_builtin (by rw [I.ok.glob]; exact I.mod.glob.keeps I.bk) hm (by rw [I.ok.blt]; exact h1.keeps I.bk) ((h2 x hn).trans hv) h) hd
variable {a b:Expr} {ta tb:TE} {pos:Pos}
variable {tA tB':TT} {rest:List Expr}
end
end L2
namespace L2
open PySem PySem.Spec PyProof.Rows
noncomputable def SqL (K:PySem.W.Frag) (H:Hp) (a:Addr) (xs:List V):Prop :=
 Rd H a (.lst xs) ∨
  ∃ (o:Obj) (its:Array Value) (n:Nat),K.lookup a=some o∧o.cls=.type "list" ∧ o.dict=none∧o.data=.seq its n∧its.size≤sizeLine∧Vals xs its.toList
noncomputable def SqT (K:PySem.W.Frag) (H:Hp) (a:Addr) (xs:List V):Prop :=
 Rd H a (.tup xs) ∨
  ∃ (o:Obj) (its:Array Value) (n:Nat),K.lookup a=some o∧o.cls=.type "tuple" ∧ o.data=.seq its n∧its.size≤sizeLine∧Vals xs its.toList
noncomputable def absV:Value→Option V
 | .none=>some .non
 | .bool b=>some (.bl b)
 | .int i _=>some (.int i)
 | .str x _=>some (.str x)
 | .bytes b _=>some (.byt b)
 | .float b _=>some (.flt b)
 | .ref a=>some (.ref a)
 | .type n=>some (.ty n)
 | _=>none
theorem RelV.abs {x:V} {u:Value} (r:RelV x u):absV u=some x:=by
 cases x with
 | non=>cases r; rfl
 | bl _=>cases r; rfl
 | int _=>obtain ⟨t,rfl⟩:=r; rfl
 | str _=>obtain ⟨t,rfl⟩:=r; rfl
 | byt _=>obtain ⟨t,rfl⟩:=r; rfl
 | flt _=>obtain ⟨t,rfl⟩:=r; rfl
 | ref _=>cases r; rfl
 | ty _=>cases r; rfl
theorem RelV.inj {x y:V} {u:Value} (r:RelV x u) (q:RelV y u):x=y:=Option.some.inj (r.abs.symm.trans q.abs)
theorem Vals.inj:∀ {xs ys:List V} {us:List Value},Vals xs us→Vals ys us→xs=ys
 | _,_,_,.nil,.nil=>rfl
 | _,_,_,.cons r t,.cons r' t'=>by rw [r.inj r',Vals.inj t t']
section
variable {X:Cx} {pins:List (Addr×Obj)} {σ:St} {H:Hp} {s:Shared} {a:Addr} {xs ys:List V}
theorem SqL.of {K:PySem.W.Frag} (h:H a=some (.lst xs)):SqL K H a xs:=.inl (.inl h)
theorem SqT.of {K:PySem.W.Frag} (h:H a=some (.tup xs)):SqT K H a xs:=.inl (.inl h)
theorem Inv.list (I:Inv X pins σ H s) (h:SqL X.K H a xs):∃ its:List Value,Vals xs its∧PlainL s.heap a its.toArray∧xs.length≤sizeLine:=by
 rcases h with h | ⟨o,its,n,hk,hc,hd,hs,hz,r⟩
 ·obtain ⟨z,its,n,r,e⟩:=h.ok I.hok
  exact ⟨its,r,⟨_,n,e,rfl,rfl,rfl⟩,z⟩
 ·refine ⟨its.toList,r,⟨o,n,I.kIn a o hk,hc,hd,by simpa using hs⟩,?_⟩
  have e:=r.length
  simp only [Array.length_toList] at e
  omega
theorem Inv.tuple (I:Inv X pins σ H s) (h:SqT X.K H a xs):∃ its:List Value,Vals xs its∧IsTup s.heap a its.toArray∧xs.length≤sizeLine:=by
 rcases h with h | ⟨o,its,n,hk,hc,hs,hz,r⟩
 ·obtain ⟨z,its,r,p⟩:=h.ok I.hok
  exact ⟨its,r,p,z⟩
 ·refine ⟨its.toList,r,⟨o,I.kIn a o hk,hc,n,by simpa using hs⟩,?_⟩
  have e:=r.length
  simp only [Array.length_toList] at e
  omega
theorem Inv.list_inj (I:Inv X pins σ H s) (h:SqL X.K H a xs) (h':SqL X.K H a ys):xs=ys:=by
 obtain ⟨its,r,⟨o,n,e,_,_,d⟩,_⟩:=I.list h
 obtain ⟨its',r',⟨o',n',e',_,_,d'⟩,_⟩:=I.list h'
 rw [e] at e'; cases e'
 rw [d] at d'
 injection d' with d1 _
 have:its=its':=by simpa using congrArg Array.toList d1
 subst this
 exact r.inj r'
theorem Inv.tuple_inj (I:Inv X pins σ H s) (h:SqT X.K H a xs) (h':SqT X.K H a ys):xs=ys:=by
 obtain ⟨its,r,⟨o,e,_,n,d⟩,_⟩:=I.tuple h
 obtain ⟨its',r',⟨o',e',_,n',d'⟩,_⟩:=I.tuple h'
 rw [e] at e'; cases e'
 rw [d] at d'
 injection d' with d1 _
 have:its=its':=by simpa using congrArg Array.toList d1
 subst this
 exact r.inj r'
end
noncomputable abbrev Cx.wish (X:Cx) (E:Value→Shared→Prop):Cx:={ X with xe:=E }
theorem Cx.Ok.wish {X:Cx} (ok:X.Ok) (E:Value→Shared→Prop):(X.wish E).Ok :=
 ⟨ok.mod,ok.kind,ok.glob,ok.blt,ok.above,ok.inj,ok.has,ok.cab,ok.hd,ok.frames,ok.stk,ok.exf,ok.bs,ok.bsz,ok.noex,ok.exfs,ok.funs,ok.frf⟩
theorem Cx.Ok.unwish {X:Cx} {E:Value→Shared→Prop} (ok:(X.wish E).Ok):X.Ok :=
 ⟨ok.mod,ok.kind,ok.glob,ok.blt,ok.above,ok.inj,ok.has,ok.cab,ok.hd,ok.frames,ok.stk,ok.exf,ok.bs,ok.bsz,ok.noex,ok.exfs,ok.funs,ok.frf⟩
section
variable {X:Cx} {pins:List (Addr×Obj)} {σ:St} {H:Hp} {s:Shared} {E:Value→Shared→Prop}
theorem Inv.wish (I:Inv X pins σ H s) (E:Value→Shared→Prop):Inv (X.wish E) pins σ H s:=⟨I.ok.wish E,I.os,I.bare,I.base,I.loc,I.cell,I.free,I.freeC,I.pin,I.hok,I.len⟩
theorem Inv.unwish (I:Inv (X.wish E) pins σ H s):Inv X pins σ H s:=⟨I.ok.unwish,I.os,I.bare,I.base,I.loc,I.cell,I.free,I.freeC,I.pin,I.hok,I.len⟩
theorem SP.unwish {D:Ends} {f:Flow} {s':Shared} (h:SP (X.wish E) pins D f s'):SP X pins D f s':=by
 cases f with
 | next=>obtain ⟨σ',H',I,q⟩:=h; exact ⟨σ',H',I.unwish,q⟩
 | brk=>obtain ⟨σ',H',I,q⟩:=h; exact ⟨σ',H',I.unwish,q⟩
 | cont=>obtain ⟨σ',H',I,q⟩:=h; exact ⟨σ',H',I.unwish,q⟩
 | ret u=>obtain ⟨v,σ',H',I,r,q⟩:=h; exact ⟨v,σ',H',I.unwish,r,q⟩
end
section
variable {X:Cx} {st:Stmt} {rest:List Stmt} {t u:TS} {e:Expr} {te:TE} {pos:Pos}
theorem Inv.quiet {pins:List (Addr×Obj)} {σ:St} {H:Hp} {s:Shared} (I:Inv X pins σ H s):interactive X.env=false:=by simp [interactive,I.ok.kind]
end
noncomputable abbrev TG:=V→St→Hp→(St→Hp→Prop)→Prop
noncomputable abbrev TGs:=List V→St→Hp→(St→Hp→Prop)→Prop
noncomputable def PG (X:Cx) (target:Expr) (t:TG):Prop :=
 ∀ (pins:List (Addr×Obj)) (s:Shared) (σ:St) (H:Hp) (v:V) (u:Value) (Q:St→Hp→Prop),Inv X pins σ H s→RelV v u→t v σ H Q →
  wpAny (model X.prog X.w) X.A (assign target X.env u) (fun _ s'=>∃ σ' H',Inv X pins σ' H' s'∧Q σ' H') X.xe s
noncomputable def PGs (X:Cx) (ts:List Expr) (t:TGs):Prop :=
 ∀ (pins:List (Addr×Obj)) (s:Shared) (σ:St) (H:Hp) (vs:List V) (us:List Value) (Q:St→Hp→Prop),Inv X pins σ H s→Vals vs us→t vs σ H Q →
  wpAny (model X.prog X.w) X.A (assignInOrder ((assignEach ts X.env).map (·.2)) us) (fun _ s'=>∃ σ' H',Inv X pins σ' H' s'∧Q σ' H') X.xe s
noncomputable abbrev TSet:=V→V→V→Hp→(Hp→Prop)→Prop
noncomputable def PSet (X:Cx) (t:TSet):Prop :=
 ∀ (pins:List (Addr×Obj)) (s:Shared) (σ:St) (H:Hp) (o i v:V) (ov iv u:Value) (Q:Hp→Prop),Inv X pins σ H s→RelV o ov→RelV i iv→RelV v u→t o i v H Q →
  wpAny (model X.prog X.w) X.A (setItem ov iv u) (fun _ s'=>∃ H',Inv X pins σ H' s'∧Q H') X.xe s
section
variable {X:Cx} {pos:Pos}
noncomputable def gName (i:Nat):TG:=fun v σ H Q=>Q (σ.set i (some v)) H
theorem pg_name {i:Nat} {x:Str} (hN:X.N.Nodup) (hi:X.N[i]?=some x) (hx:Loc X.env.scope x) (hf:X.fn x=true∨X.env.scope.names.lookup x=some .local:=by first | exact .inl rfl | exact .inr rfl | assumption):PG X (.Name x pos) (gName i):=by
 intro pins s σ H v u Q I r h
 exact wpAny_assign_Name (store_ok I hN hi hx r (fun s' I'=>⟨_,H,I',h⟩) hf)
noncomputable def gNil:TGs:=fun vs σ H Q=>vs=[]∧Q σ H
noncomputable def gCons (t:TG) (u:TGs):TGs:=fun vs σ H Q=>∃ v r,vs=v :: r∧t v σ H fun σ' H'=>u r σ' H' Q
theorem pgs_nil:PGs X [] gNil:=by
 intro pins s σ H vs us Q I r h
 obtain ⟨e,h⟩:=h
 subst e
 cases r
 exact assignInOrder_nil ⟨σ,H,I,h⟩
theorem pgs_cons {e:Expr} {es:List Expr} {t:TG} {u:TGs} (h1:PG X e t) (h2:PGs X es u)
  (hs:(assignEach (e :: es) X.env).map (·.2)=assign e X.env :: (assignEach es X.env).map (·.2):=by rfl):PGs X (e :: es) (gCons t u):=by
 intro pins s σ H vs us Q I r h
 obtain ⟨v,vr,e1,h⟩:=h
 subst e1
 cases r with
 | cons r rr =>
  rw [hs]
  refine assignInOrder_cons (thn (h1 pins s σ H _ _ _ I r h) fun _ s1 ⟨σ1,H1,I1,q1⟩=>?_)
  exact h2 pins s1 σ1 H1 _ _ Q I1 rr q1
noncomputable def gTup (K:PySem.W.Frag) (n:Nat) (t:TGs):TG:=fun v σ H Q=>∃ a xs,v=.ref a∧SqT K H a xs∧xs.length=n∧t xs σ H Q
theorem pg_tup {es:List Expr} {k:Nat} {t:TGs} {n:Nat} (hc:X.calm=true) (h:PGs X es t)
  (hn:(assignEach es X.env).length=n:=by rfl) (hst:(assignEach es X.env).findIdx? (·.1)=none:=by rfl):PG X (.Tuple es k pos) (gTup X.K n t):=by
 intro pins s σ H v u Q I r hw
 obtain ⟨a,xs,e1,hq,hl,hw⟩:=hw
 subst e1
 cases r
 obtain ⟨its,rv,ht,hz⟩:=I.tuple hq
 refine assign_Tuple_tuple (I.ok.hd hc) ht (by simp [hn,← hl,rv.length]) hst fun h' hx=>?_
 have I1:Inv X pins σ H { s with heap:=h' }:=I.kept (t':=s.toks) fun b o e=>hx b o (Nat.ne_of_lt (Heap.lt_size e)) e
 exact h pins _ σ H xs _ Q I1 (by simpa using rv) hw
end
section
variable {X:Cx} {pos:Pos}
end
structure It where
 go:Nat→Hp→Prop
 yld:Nat→Hp→V→Hp→Prop
 stop:Nat→Hp→Prop
noncomputable def FpOk (X:Cx) (pins:List (Addr×Obj)) (H:Hp) (b:Addr):Prop :=
 H b=none∧b≠X.env.locals∧b ∉ X.fs∧(b∈X.ex∨X.s₀.heap.objs.size≤b)∧(∀ x c,X.env.cells.lookup x=some c→c≠b)∧∀ p∈X.pn++pins,p.1≠b
theorem Inv.fpOk {X:Cx} {pins:List (Addr×Obj)} {σ:St} {H H':Hp} {s:Shared} {b:Addr} (I:Inv X pins σ H s) (hb:s.heap.objs.size≤b) (hn:H' b=none):FpOk X pins H' b:=by
 refine ⟨hn,Nat.ne_of_gt (Nat.lt_of_lt_of_le I.lt hb),I.nofs hb,.inr (Nat.le_trans I.sz hb),fun x c e z=>?_,fun p hp z=>?_⟩
 ·obtain ⟨v,q⟩:=I.cell x c e
  exact absurd (Nat.lt_of_lt_of_le q.lt (by rw [z]; exact hb)) (Nat.lt_irrefl _)
 ·exact absurd (Nat.lt_of_lt_of_le (Heap.lt_size (I.pin p hp).1) (by rw [z]; exact hb)) (Nat.lt_irrefl _)
structure Turn (P:Program) (w:World) (K:PySem.W.Frag) (tg:Expr) (J:It) (fp:List Addr) (it:Addr) (tn:Nat→Heap→Prop):Prop where
 mem:it∈fp
 obj:∀ i h,tn i h→∀ b∈fp,∃ o,h.get? b=some o∧∀ v,o.data≠.cell v
 keep:∀ i h h',tn i h→(∀ b∈fp,∀ o,h.get? b=some o→h'.get? b=some o)→tn i h'
 item:∀ (X:Cx),X.prog=P→X.w=w→X.K=K→X.calm=true→∀ (i:Nat) (pins:List (Addr×Obj)) (s:Shared) (σ:St) (H:Hp) (E:Value→Shared→Prop),Inv X pins σ H s→(∀ b∈fp,FpOk X pins H b)→tn i s.heap→J.go i H →
  wpAny (model P w) X.A (pyNext (.ref it)) (fun r s1=>∃ u,r=some u ∧
   wpAny (model P w) X.A (letOwnedTupleGo tg (.ref it) u) (fun _ s2=>∃ x H',Inv X pins σ H' s2∧RelV x u∧J.yld i H x H'∧tn (i + 1) s2.heap∧∀ b∈fp,H' b=none) E s1) E s
 done:∀ (X:Cx),X.prog=P→X.w=w→X.K=K→X.calm=true→∀ (i:Nat) (pins:List (Addr×Obj)) (s:Shared) (σ:St) (H:Hp) (E:Value→Shared→Prop),Inv X pins σ H s→(∀ b∈fp,FpOk X pins H b)→tn i s.heap→J.stop i H →
  wpAny (model P w) X.A (pyNext (.ref it)) (fun r s1=>r=none∧Inv X pins σ H s1) E s
 self:∀ (A:Around) (i:Nat) (s:Shared) (Q:Value→Shared→Prop) (E:Value→Shared→Prop),tn i s.heap→Q (.ref it) s→wpAny (model P w) A (pyIter (.ref it)) Q E s
noncomputable def PIE (X:Cx) (pins:List (Addr×Obj)) (σ:St) (tg:Expr) (R:It→Hp→Prop) (itv:Value) (s2:Shared):Prop :=
 ∃ (it:Addr) (fp:List Addr) (tn:Nat→Heap→Prop) (J:It) (H':Hp),itv=.ref it∧Inv X pins σ H' s2∧Turn X.prog X.w X.K tg J fp it tn∧tn 0 s2.heap∧(∀ b∈fp,FpOk X pins H' b)∧R J H'
theorem go_of {M:Model} {A:Around} {E:Value→Shared→Prop} {s:Shared} {tg:Expr} {it:Addr} {u:Value} {o:Obj} {n:String} {vs:Array Value} {Q:Unit→Shared→Prop} (ho:s.heap.get? it=some o) (hc:o.cls=.type n) (hd:o.data=.fields vs)
  (hn:["enumerate","zip","dict_itemiterator","dict_reverseitemiterator","odict_iterator","itertools.zip_longest","itertools.pairwise"].contains n=false) (hQ:Q () s):wpAny M A (letOwnedTupleGo tg (.ref it) u) Q E s:=by
 unfold letOwnedTupleGo
 cases tg <;> first
  | exact wpAny_pure hQ
  | (cases u <;> first
    | exact wpAny_pure hQ
    | (refine wpAny_bind (wpAny_load ho ?_)
       rw [hc,hd]
       show wpAny M A (if (["enumerate","zip","dict_itemiterator","dict_reverseitemiterator","odict_iterator","itertools.zip_longest","itertools.pairwise"].contains n && vs[0]? == some (rawInt _))=true then _ else _) Q E s
       rw [if_neg (by intro h; rw [hn,Bool.false_and] at h; cases h)]
       exact wpAny_pure hQ))
noncomputable def Itl (K:PySem.W.Frag) (a:Addr):It :=
 ⟨fun i H=>∃ xs x,SqL K H a xs∧xs[i]?=some x,fun i H x H'=>H'=H∧∀ xs,SqL K H a xs→xs[i]?=some x,fun i H=>∃ xs,SqL K H a xs∧xs.length≤i⟩
noncomputable def Itt (K:PySem.W.Frag) (a:Addr):It :=
 ⟨fun i H=>∃ xs x,SqT K H a xs∧xs[i]?=some x,fun i H x H'=>H'=H∧∀ xs,SqT K H a xs→xs[i]?=some x,fun i H=>∃ xs,SqT K H a xs∧xs.length≤i⟩
noncomputable def Itr (lo:Int) (n:Nat):It:=⟨fun i _=>i < n,fun i H x H'=>H'=H∧x=.int (lo + i),fun i _=>n≤i⟩
theorem turn_list {P:Program} {w:World} {K:PySem.W.Frag} {tg:Expr} (a it:Addr):Turn P w K tg (Itl K a) [it] it (fun i h=>h.IsListIter it a i) where
 mem:=by simp
 obj:=fun i h st b hb=>by
  have e:b=it:=by simpa using hb
  subst e
  obtain ⟨o,e,c,d⟩:=st
  exact ⟨o,e,fun v z=>by rw [d] at z; cases z⟩
 keep:=fun i h h' st k=>st.at fun o e=>k it (by simp) o e
 item:=by
  intro X hP hw hK hc i pins s σ H E I hf st hg
  subst hP hw hK
  obtain ⟨xs,x,hq,hx⟩:=hg
  obtain ⟨its,rv,p,hz⟩:=I.list hq
  obtain ⟨u,hu,ru⟩:=rv.get hx
  obtain ⟨f0,f1,f2,f3,f4,f5⟩:=hf it (by simp)
  refine wpAny_pyNext_list_item st p.isList (x:=u) (by simpa using hu) fun h' st' sb=>?_
  have I1:Inv X pins σ H { s with heap:=h' }:=I.turned (t':=s.toks) (fun b o hb e=>(sb.2 b hb).trans e) f0 f1 f3 f4 f5
  obtain ⟨o,e,c,d⟩:=id st'
  exact ⟨u,rfl,go_of (s:={ s with heap:=h' }) e c d (by decide) ⟨x,H,I1,ru,⟨rfl,fun ys hy=>by rw [I.list_inj hy hq]; exact hx⟩,st',fun b hb=>(hf b hb).1⟩⟩
 done:=by
  intro X hP hw hK hc i pins s σ H E I hf st hg
  subst hP hw hK
  obtain ⟨xs,hq,hx⟩:=hg
  obtain ⟨its,rv,p,hz⟩:=I.list hq
  obtain ⟨f0,f1,f2,f3,f4,f5⟩:=hf it (by simp)
  have hl:=rv.length
  exact wpAny_pyNext_list_end (I.ok.hd hc) st p.isList (by simp; omega) fun h' eb=>⟨rfl,I.turned (t':=s.toks) (fun b o hb e=>eb b o hb e) f0 f1 f3 f4 f5⟩
 self:=fun _ _ _ _ _ st h=>wpAny_pyIter_listiter st h
theorem turn_tuple {P:Program} {w:World} {K:PySem.W.Frag} {tg:Expr} (a it:Addr):Turn P w K tg (Itt K a) [it] it (fun i h=>h.IsTupleIter it a i) where
 mem:=by simp
 obj:=fun i h st b hb=>by
  have e:b=it:=by simpa using hb
  subst e
  obtain ⟨o,e,c,d⟩:=st
  exact ⟨o,e,fun v z=>by rw [d] at z; cases z⟩
 keep:=fun i h h' st k=>st.at fun o e=>k it (by simp) o e
 item:=by
  intro X hP hw hK hc i pins s σ H E I hf st hg
  subst hP hw hK
  obtain ⟨xs,x,hq,hx⟩:=hg
  obtain ⟨its,rv,p,hz⟩:=I.tuple hq
  obtain ⟨u,hu,ru⟩:=rv.get hx
  obtain ⟨f0,f1,f2,f3,f4,f5⟩:=hf it (by simp)
  refine wpAny_pyNext_tuple_item st (show s.heap.IsTuple a its.toArray from p) (x:=u) (by simpa using hu) fun h' st' sb=>?_
  have I1:Inv X pins σ H { s with heap:=h' }:=I.turned (t':=s.toks) (fun b o hb e=>(sb.2 b hb).trans e) f0 f1 f3 f4 f5
  obtain ⟨o,e,c,d⟩:=id st'
  exact ⟨u,rfl,go_of (s:={ s with heap:=h' }) e c d (by decide) ⟨x,H,I1,ru,⟨rfl,fun ys hy=>by rw [I.tuple_inj hy hq]; exact hx⟩,st',fun b hb=>(hf b hb).1⟩⟩
 done:=by
  intro X hP hw hK hc i pins s σ H E I hf st hg
  subst hP hw hK
  obtain ⟨xs,hq,hx⟩:=hg
  obtain ⟨its,rv,p,hz⟩:=I.tuple hq
  obtain ⟨f0,f1,f2,f3,f4,f5⟩:=hf it (by simp)
  have hl:=rv.length
  exact wpAny_pyNext_tuple_end (I.ok.hd hc) st (show s.heap.IsTuple a its.toArray from p) (by simp; omega) fun h' eb=>⟨rfl,I.turned (t':=s.toks) (fun b o hb e=>eb b o hb e) f0 f1 f3 f4 f5⟩
 self:=fun _ _ _ _ _ st h=>wpAny_pyIter_tupleiter st h
theorem turn_range {P:Program} {w:World} {K:PySem.W.Frag} {tg:Expr} (it:Addr) (lo:Int) (n:Nat):Turn P w K tg (Itr lo n) [it] it (fun i h=>IsRangeIter h it (lo + (i:Nat) * 1) ((n:Int) - (i:Nat)) 1) where
 mem:=by simp
 obj:=fun i h st b hb=>by
  have e:b=it:=by simpa using hb
  subst e
  exact ⟨_,st,fun v z=>by
   have z':Data.fields _=Data.cell v:=z
   cases z'⟩
 keep:=fun i h h' st k=>k it (by simp) _ st
 item:=by
  intro X hP hw hK hc i pins s σ H E I hf st hg
  subst hP hw hK
  obtain ⟨f0,f1,f2,f3,f4,f5⟩:=hf it (by simp)
  have W:=Walks.range (prog:=X.prog) (w:=X.w) (I.ok.hd hc) it lo 1 n
  refine W.item i s _ _ hg st fun v h' tk hv st' kk=>?_
  obtain ⟨t,rfl⟩:=hv
  have I1:Inv X pins σ H { s with heap:=h',toks:=tk }:=I.turned (fun b o hb e=>kk b o (by simpa using hb) e) f0 f1 f3 f4 f5
  refine ⟨_,rfl,go_of (s:={ s with heap:=h',toks:=tk }) (n := "range_iterator") st' rfl rfl (by decide) ⟨.int (lo + i),H,I1,⟨t,?_⟩,⟨rfl,rfl⟩,st',fun b hb=>(hf b hb).1⟩⟩
  rw [Int.mul_one]
 done:=by
  intro X hP hw hK hc i pins s σ H E I hf st hg
  subst hP hw hK
  obtain ⟨f0,f1,f2,f3,f4,f5⟩:=hf it (by simp)
  exact wpAny_pyNext_range_end (I.ok.hd hc) st (by have:n≤i:=hg; omega) fun h' eb=>⟨rfl,I.turned (t':=s.toks) (fun b o hb e=>eb b o hb e) f0 f1 f3 f4 f5⟩
 self:=fun _ _ _ _ _ st h=>wpAny_pyIter_rangeiter st h
end L2
namespace L2
open PySem PySem.Spec PyProof.Rows
section
variable {X:Cx} {tg:Expr}
theorem range_it {pins:List (Addr×Obj)} {σ:St} {H:Hp} {s:Shared} {R:It→Hp→Prop} {E:Value→Shared→Prop} {lo hi:Int} {t u v:Tok} {tk:Nat} (I:Inv X pins σ H s) (h1:-(2 ^ 62)≤lo) (h2:lo < 2 ^ 62) (h3:-(2 ^ 62)≤hi) (h4:hi < 2 ^ 62)
  (q:R (Itr lo (hi - lo).toNat) H):wpAny (model X.prog X.w) X.A (pyIter (.ref s.heap.objs.size)) (PIE X pins σ tg R) E { s with heap:=s.heap.push { cls:=.type "range",data:=.fields #[.int lo t,.int hi u,.int 1 v] },toks:=tk }:=by
 refine wpAny_pyIter_range (IsRange.new ..) (small_one h1 h2 h3 h4) ?_
 have I1:Inv X pins σ H { s with heap:=s.heap.push { cls:=.type "range",data:=.fields #[.int lo t,.int hi u,.int 1 v] },toks:=tk }:=I.kept fun b o e=>Heap.get?_push_of_some _ e
 refine ⟨(s.heap.push { cls:=.type "range",data:=.fields #[.int lo t,.int hi u,.int 1 v] }).objs.size,[(s.heap.push { cls:=.type "range",data:=.fields #[.int lo t,.int hi u,.int 1 v] }).objs.size],_,_,H,rfl,
  I1.kept (t':=tk) fun b o e=>Heap.get?_push_of_some _ e,turn_range _ lo (hi - lo).toNat,?_,fun b hb=>?_,q⟩
 ·have e1:lo + ((0:Nat):Int) * 1=lo:=by simp
  have e2:(((hi - lo).toNat:Nat):Int) - ((0:Nat):Int)=Builtin.Range.rangeSize lo hi 1:=by rw [rangeSize_one]; split <;> omega
  show IsRangeIter _ _ (lo + ((0:Nat):Int) * 1) ((((hi - lo).toNat:Nat):Int) - ((0:Nat):Int)) 1
  rw [e1,e2]
  exact Heap.get?_push_size _ rfl
 ·have e:b=(s.heap.push { cls:=.type "range",data:=.fields #[.int lo t,.int hi u,.int 1 v] }).objs.size:=by simpa using hb
  subst e
  exact I1.fpOk (Nat.le_refl _) (I1.hok.fresh (Nat.le_refl _))
noncomputable def pinsAt (fp:List Addr) (h:Heap):List (Addr×Obj):=fp.filterMap fun b=>(h.get? b).map fun o=>(b,o)
theorem mem_pinsAt {fp:List Addr} {h:Heap} {b:Addr} {o:Obj} (hb:b∈fp) (e:h.get? b=some o):(b,o)∈pinsAt fp h:=List.mem_filterMap.mpr ⟨b,hb,by rw [e]; rfl⟩
theorem of_pinsAt {fp:List Addr} {h:Heap} {p:Addr×Obj} (hp:p∈pinsAt fp h):p.1∈fp∧h.get? p.1=some p.2:=by
 obtain ⟨b,hb,e⟩:=List.mem_filterMap.mp hp
 cases q:h.get? b with
 | none=>rw [q] at e; cases e
 | some o =>
  rw [q] at e
  have e':(b,o)=p:=Option.some.inj e
  subst e'
  exact ⟨hb,q⟩
theorem Inv.pinned {pins:List (Addr×Obj)} {σ:St} {H:Hp} {s:Shared} {fp:List Addr} (I:Inv X pins σ H s) (hf:∀ b∈fp,FpOk X pins H b) (ho:∀ b∈fp,∃ o,s.heap.get? b=some o∧∀ v,o.data≠.cell v):Inv X (pins++pinsAt fp s.heap) σ H s :=
 I.pins_of fun p hp=>(List.mem_append.mp hp).elim (fun z=>I.pin p (List.mem_append_right _ z)) fun z=>by
  obtain ⟨hb,e⟩:=of_pinsAt z
  obtain ⟨f0,f1,f2,_⟩:=hf p.1 hb
  obtain ⟨o,e',d⟩:=ho p.1 hb
  rw [e] at e'; cases e'
  exact ⟨e,f0,f1,f2,d⟩
theorem Inv.unpinned {pins pl:List (Addr×Obj)} {σ:St} {H:Hp} {s:Shared} (I:Inv X (pins++pl) σ H s):Inv X pins σ H s:=I.pins_of fun p hp=>I.pin p (List.mem_append_right _ (List.mem_append_left _ hp))
end
end L2
namespace L2
open PySem PySem.Spec PyProof.Rows
noncomputable abbrev R2:=V→V→Hp→VK→Prop
noncomputable def OpR (X:Cx) (f:Value→Value→Sem Value) (r:R2):Prop :=
 ∀ (pins:List (Addr×Obj)) (s:Shared) (σ:St) (H:Hp) (x y:V) (v u:Value) (Q:VK),Inv X pins σ H s→RelV x v→RelV y u→r x y H Q →
  wpAny (model X.prog X.w) X.A (f v u) (EP X pins σ Q) X.xe s
noncomputable def CallR (X:Cx) (f:Value) (r:List V→Hp→VK→Prop):Prop :=
 ∀ (pins:List (Addr×Obj)) (s:Shared) (σ:St) (H:Hp) (xs:List V) (us:List Value) (Q:VK),Inv X pins σ H s→Vals xs us→r xs H Q →
  wpAny (model X.prog X.w) X.A (call f us) (EP X pins σ Q) X.xe s
noncomputable def TruR (X:Cx) (r:V→Hp→(Bool→Hp→Prop)→Prop):Prop :=
 ∀ (pins:List (Addr×Obj)) (s:Shared) (σ:St) (H:Hp) (x:V) (v:Value) (Q:Bool→Hp→Prop),Inv X pins σ H s→RelV x v→r x H Q →
  wpAny (model X.prog X.w) X.A (truthy v) (TP X pins σ Q) X.xe s
section
variable {X:Cx} {a b c:Expr} {ta tb tc:TE} {pos:Pos}
noncomputable def CMul (i j:Int):Prop:=(-(2 ^ 64) < i∧i < 2 ^ 64)∨(-(2 ^ 64) < j∧j < 2 ^ 64)
theorem CMul.ok {i j:Int} (h:CMul i j):IntMulOk i j:=by
 rcases h with ⟨h1,h2⟩ | ⟨h1,h2⟩
 ·exact .of_left (intBits_le_64 h1 h2)
 ·exact .of_right (intBits_le_64 h1 h2)
end
section
variable {X:Cx} {a b c:Expr} {ta tb tc:TE} {pos:Pos}
noncomputable def isObj:HO→Bool
 | .lst _=>true
 | .ins _ _ _=>true
 | _=>false
theorem obj_there {pins:List (Addr×Obj)} {s:Shared} {σ:St} {H:Hp} {a:Addr} {o:HO} (I:Inv X pins σ H s) (h:H a=some o) (p:isObj o=true):∃ ob,s.heap.get? a=some ob∧ob.cls≠.type "tuple" := by
 cases o with
 | lst xs =>
  obtain ⟨_,its,n,_,e⟩:xs.length≤sizeLine∧∃ (its:List Value) (n:Nat),Vals xs its∧s.heap.get? a=some { cls:=.type "list",data:=.seq its.toArray n }:=I.hok a _ h
  exact ⟨_,e,(by show Value.type "list" ≠ .type "tuple"; decide +kernel)⟩
 | ins C dx fs =>
  have x:=I.hok a _ h
  obtain ⟨_,_,_,e,_⟩:=x
  exact ⟨_,e,(by show Value.ref C≠.type "tuple"; exact fun z=>by cases z)⟩
 | _=>exact absurd (show false=true from p) Bool.false_ne_true
noncomputable def TruV (K:PySem.W.Frag) (x:V) (H:Hp) (k:Bool):Prop :=
 match x with
 | .non=>k=false
 | .bl b=>k=b
 | .int i=>k=(i != 0)
 | .str y=>y.length≤sizeLine∧k=((y.length:Int) != 0)
 | .byt y=>y.size≤sizeLine∧k=((y.size:Int) != 0)
 | .ref p=>(∃ xs,SqL K H p xs∧k = !xs.isEmpty)∨(∃ xs,SqT K H p xs∧k = !xs.isEmpty)∨∃ kvs,H p=some (.dK kvs)∧k = !kvs.isEmpty
 | _=>False
theorem isEmpty_kv {κ:Type} {kvs:List (κ×V)} {vs:List (κ×Value)} (r:KV kvs vs):(!vs.isEmpty) = !kvs.isEmpty:=by
 cases r <;> rfl
theorem isEmpty_of {xs:List V} {its:List Value} (r:Vals xs its):(!its.toArray.isEmpty) = !xs.isEmpty:=by
 cases r <;> simp
theorem line63:(sizeLine:Nat) < 2 ^ 63:=by rw [sizeLine_eq]; decide
theorem tru_ok:TruR X (fun x H Q=>∃ k,TruV X.K x H k∧Q k H):=by
 intro pins s σ H x v Q I rx h
 obtain ⟨k,e,q⟩:=h
 have hl:=line63
 have hs:sizeLine=16777216:=sizeLine_eq
 cases x with
 | non =>
  cases rx
  have e':k=false:=e
  subst e'
  exact truthy_none ⟨H,I,q⟩
 | bl b =>
  cases rx
  have e':k=b:=e
  subst e'
  exact wpAny_truthy_bool ⟨H,I,q⟩
 | int i =>
  obtain ⟨t,rfl⟩:=rx
  have e':k=(i != 0):=e
  subst e'
  exact PySem.P.truthy_int ⟨H,I,q⟩
 | str y =>
  obtain ⟨t,rfl⟩:=rx
  obtain ⟨hy,e'⟩:y.length≤sizeLine∧k=((y.length:Int) != 0):=e
  subst e'
  exact PySem.P.truthy_str (by omega) ⟨H,I.tok _,q⟩
 | byt y =>
  obtain ⟨t,rfl⟩:=rx
  obtain ⟨hy,e'⟩:y.size≤sizeLine∧k=((y.size:Int) != 0):=e
  subst e'
  exact PySem.W.truthy_bytes (by omega) ⟨H,I.tok _,q⟩
 | ref p =>
  cases rx
  have e':(∃ xs,SqL X.K H p xs∧k = !xs.isEmpty)∨(∃ xs,SqT X.K H p xs∧k = !xs.isEmpty)∨∃ kvs,H p=some (.dK kvs)∧k = !kvs.isEmpty:=e
  rcases e' with ⟨xs,hx,e'⟩ | ⟨xs,hx,e'⟩ | ⟨kvs,hx,e'⟩
  ·subst e'
   obtain ⟨its,r,pl,hz⟩:=I.list hx
   have hlen:=r.length
   exact wpAny_truthy_list pl.isList (by simp only [List.size_toArray]; omega) ⟨H,I.tok _,by rw [isEmpty_of r]; exact q⟩
  ·subst e'
   obtain ⟨its,r,pl,hz⟩:=I.tuple hx
   have hlen:=r.length
   exact truthy_tuple pl (by simp only [List.size_toArray]; omega) ⟨H,I.tok _,by rw [isEmpty_of r]; exact q⟩
  ·subst e'
   obtain ⟨hz,hS,vs,r,m⟩:kvs.length≤sizeLine∧(p == sysModules)=false∧∃ vs,KV kvs vs∧s.heap.DictOf (mixKind X.prog X.w) p vs:=I.hok p _ hx
   have hlen:kvs.length=vs.length:=Paired.length r
   exact wpAny_truthy_dict hS m (by omega) ⟨H,I.tok _,by rw [isEmpty_kv r]; exact q⟩
 | _=>exact (show False from e).elim
theorem op_add_str:OpR X (binaryOp .Add) (fun x y H Q=>∃ i j,x=.str i∧y=.str j∧i.length + j.length≤sizeLine∧Q (.str (i++j)) H):=by
 intro pins s σ H x y v u Q I rx ry h
 obtain ⟨i,j,rfl,rfl,hz,q⟩:=h
 obtain ⟨t,rfl⟩:=rx
 obtain ⟨t',rfl⟩:=ry
 exact add_str (fun t' tk=>⟨.str (i++j),H,I.tok _,⟨_,rfl⟩,q⟩) hz
theorem vals1 {x:V} {us:List Value} (r:Vals [x] us):∃ u,us=[u]∧RelV x u:=by
 cases r with
 | cons r1 r2=>cases r2; exact ⟨_,rfl,r1⟩
theorem vals2 {x y:V} {us:List Value} (r:Vals [x,y] us):∃ u w',us=[u,w']∧RelV x u∧RelV y w':=by
 cases r with
 | cons r1 r2 =>
  cases r2 with
  | cons r3 r4=>cases r4; exact ⟨_,_,rfl,r1,r3⟩
theorem call_max2 (hc:X.calm=true):CallR X (.builtin "max") (fun xs H Q=>∃ i j,xs=[.int i,.int j]∧Q (.int (if j > i then j else i)) H):=by
 intro pins s σ H xs us Q I r h
 obtain ⟨i,j,rfl,q⟩:=h
 obtain ⟨u,w',rfl,⟨t,rfl⟩,⟨t',rfl⟩⟩:=vals2 r
 refine max_two_ints (I.ok.hd hc) fun h' tk k=>⟨_,H,I.kept k,?_,q⟩
 by_cases hj:j > i
 ·rw [if_pos hj,if_pos hj]; exact ⟨_,rfl⟩
 ·rw [if_neg hj,if_neg hj]; exact ⟨_,rfl⟩
theorem call_min2 (hc:X.calm=true):CallR X (.builtin "min") (fun xs H Q=>∃ i j,xs=[.int i,.int j]∧Q (.int (if j < i then j else i)) H):=by
 intro pins s σ H xs us Q I r h
 obtain ⟨i,j,rfl,q⟩:=h
 obtain ⟨u,w',rfl,⟨t,rfl⟩,⟨t',rfl⟩⟩:=vals2 r
 refine min_two_ints (I.ok.hd hc) fun h' tk k=>⟨_,H,I.kept k,?_,q⟩
 by_cases hj:j < i
 ·rw [if_pos hj,if_pos hj]; exact ⟨_,rfl⟩
 ·rw [if_neg hj,if_neg hj]; exact ⟨_,rfl⟩
end
end L2
namespace L2
open PySem PySem.Spec PyProof.Rows
structure ObjM (h:Heap) (x dx C:Addr) (mA:Str→Option Value):Prop where
 obj:h.get? x=some (PySem.W.instObj C dx)
 ns:h.Ns1 dx mA
 ne:dx≠x
theorem lookIn_ns {h:Heap} {dx:Addr} {mA:Str→Option Value} (n:h.Ns1 dx mA):∃ od,h.get? dx=some od∧∀ name,PySem.W.lookIn name od=some (mA name):=by
 obtain ⟨o,es,ep,ho,hd,hk,_,hm⟩:=n
 refine ⟨o,ho,fun name=>?_⟩
 have e:=hm name
 unfold nsFind findBy at e
 rw [← Array.find?_toList] at e
 unfold PySem.W.lookIn
 rw [hd]
 dsimp only
 split
 ·rename_i y q
  rw [q] at e
  exact congrArg some e
 ·rename_i q
  rw [q] at e
  have a:es.toList.any (·.refKey)=false:=by
   rw [List.any_eq_false]
   intro y hy
   obtain ⟨z,t,hkey⟩:=hk y (Array.mem_toList_iff.mp hy)
   simp [DictEntry.refKey,hkey]
  have a':¬ es.toList.any (·.refKey)=true:=by rw [a]; exact Bool.false_ne_true
  rw [if_neg a']
  exact congrArg some e
theorem ObjM.look {h:Heap} {x dx C:Addr} {mA:Str→Option Value} (I:ObjM h x dx C mA):∃ od,PySem.W.InstAt h x (PySem.W.instObj C dx) C (some od)∧∀ name,PySem.W.lookIn name od=some (mA name) :=
 let ⟨od,ho,hl⟩:=lookIn_ns I.ns
 ⟨od,⟨I.obj,rfl,rfl,ho⟩,hl⟩
section
variable {prog:Program} {w:World} {A:Around} {E:Value→Shared→Prop} {s:Shared} {K:PySem.W.Frag} {x dx C f:Addr} {mA:Str→Option Value} {name:Str} {v:Value}
end
section
variable {P:Program} {w:World} {H H':Hp} {h h':Heap} {a C dx:Addr} {fs fs':List (Str×V)}
end
structure Cls (K:PySem.W.Frag) (C:Addr):Prop where
 pg:PySem.W.plainGet K C Str.empty=true
 hd:PySem.W.hasDictIn K C=true
 po:PySem.W.plainOver K C=true
 sa:PySem.W.findIn K (.ref C) "__setattr__" = some (some (.builtin "object.__setattr__"))
theorem Cls.get {K:PySem.W.Frag} {C:Addr} (c:Cls K C) (f:Str):PySem.W.plainGet K C f=true:=c.pg
structure Con (K:PySem.W.Frag) (C:Addr) (f:Str) (v:V) (u:Value):Prop where
 at_:PySem.W.findIn K (.ref C) f=some (some u)
 rel:RelV v u
 get:PySem.W.specialIn K u "__get__" = some none
 cp:PySem.W.copiedNames.contains f=false
structure Meth (K:PySem.W.Frag) (C:Addr) (m:Str) (f:Addr):Prop where
 at_:PySem.W.findIn K (.ref C) m=some (some (.ref f))
 fn:PySem.W.isFn K (.ref f)=true
 kp:PySem.W.keepIn K (.ref f)=true
section
variable {X:Cx} {pins:List (Addr×Obj)} {σ:St} {H:Hp} {s:Shared} {a C dx:Addr} {fs:List (Str×V)} {f:Str} {v:V} {A:Around} {E:Value→Shared→Prop}
theorem Inv.made (I:Inv X pins σ H s):Inv X pins σ (upd (upd H s.heap.objs.size (.own (s.heap.objs.size + 1))) (s.heap.objs.size + 1) (.ins C s.heap.objs.size []))
  { s with heap:=(s.heap.push PySem.W.emptyDict).push (PySem.W.instObj C s.heap.objs.size) }:=by
 have e1:(s.heap.push PySem.W.emptyDict).get? s.heap.objs.size=some PySem.W.emptyDict:=Heap.get?_push_size s.heap rfl
 have e2:((s.heap.push PySem.W.emptyDict).push (PySem.W.instObj C s.heap.objs.size)).get? (s.heap.objs.size + 1)=some (PySem.W.instObj C s.heap.objs.size):=by
  have:=Heap.get?_push_size (s.heap.push PySem.W.emptyDict) (o:=PySem.W.instObj C s.heap.objs.size) rfl
  rwa [Heap.size_push] at this
 have e3:(s.heap.push PySem.W.emptyDict).Ns s.heap.objs.size (fun _=>none):=⟨PySem.W.emptyDict,#[],_,e1,rfl,(fun e he=>absurd he (by simp)),fun _=>rfl⟩
 have I1:=I.laid (a:=s.heap.objs.size) (o:=.own (s.heap.objs.size + 1)) (h':=s.heap.push PySem.W.emptyDict) (t':=s.toks) (fun b u q=>Heap.get?_push_of_some _ q) (Nat.le_refl _) ⟨_,e1⟩
 refine I1.laid (a:=s.heap.objs.size + 1) (o:=.ins C s.heap.objs.size []) (t':=s.toks) (fun b u q=>Heap.get?_push_of_some _ q) (Nat.le_of_eq (Heap.size_push _ _)) ?_
 have ne:s.heap.objs.size≠s.heap.objs.size + 1:=Nat.ne_of_lt (Nat.lt_succ_self _)
 refine ⟨by rw [upd_ne ne,upd_same],Nat.zero_le _,ne,e2,fun _=>none,(Heap.Ns1.of_empty e3).at fun o q=>Heap.get?_push_of_some _ q,fun _=>True.intro,fun y hy=>absurd rfl hy⟩
end
section
variable {X:Cx} {o e value:Expr} {f:Str} {pos pos' tpos:Pos} {ta tv:TE}
end
section
variable {X:Cx} {pins:List (Addr×Obj)} {σ:St} {H:Hp} {s:Shared} {A:Around} {E:Value→Shared→Prop} {Q:Value→Shared→Prop} {c:Value} {b:Bool}
inductive TyOf (K:PySem.W.Frag) (H:Hp):V→Value→Prop where
 | non:TyOf K H .non (.type "NoneType")
 | bl (x:Bool):TyOf K H (.bl x) (.type "bool")
 | int (i:Int):TyOf K H (.int i) (.type "int")
 | str (x:Str):TyOf K H (.str x) (.type "str")
 | flt (x:UInt64):TyOf K H (.flt x) (.type "float")
 | lst {a:Addr} {xs:List V} (e:H a=some (.lst xs)):TyOf K H (.ref a) (.type "list")
 | frz {a:Addr} {o:Obj} {xs:List V} (e:H a=some (.frz o (.lst xs))):TyOf K H (.ref a) (.type "list")
 | tup {a:Addr} {xs:List V} (e:H a=some (.tup xs)):TyOf K H (.ref a) (.type "tuple")
 | dK {a:Addr} {kvs:List (Key×V)} (e:H a=some (.dK kvs)):TyOf K H (.ref a) (.type "dict")
 | dT {a:Addr} {kvs:List (List Key×V)} (e:H a=some (.dT kvs)):TyOf K H (.ref a) (.type "dict")
 | ins {a C dx:Addr} {fs:List (Str×V)} (e:H a=some (.ins C dx fs)) (cl:Cls K C) (ha:PySem.W.findIn K (.ref C) "__class__" = some (some (.builtin "object.__class__")))
   (hn:PySem.W.specialIn K (.builtin "object.__class__") "__get__" = some (some (.builtin "getset_descriptor.__get__"))) (htk:PySem.W.takesIn K (.builtin "object.__class__")=some true)
   (hm:PySem.W.mroIn K C (.type "object")=some true):TyOf K H (.ref a) (.ref C)
end
end L2
namespace L2
open PySem PySem.Spec PyProof.Rows
structure Room (k:Nat) (A:Around):Prop where
 gd:A.guards=some []
 hd:A.handled=none
 dp:A.depth + 3 * k + 5 < recursionLimit
 un:A.units + 16 * k + 200 < cLine
theorem Room.mono {j k:Nat} {A:Around} (r:Room k A) (h:j≤k):Room j A:=⟨(by first | exact r.gd | (have:=r.gd; simpa [Around.under,Code.guards,pushGuards,Code.isGuard,guardIds] using this)),r.hd,by have:=r.dp; omega,by have:=r.un; omega⟩
theorem Room.deeper {k:Nat} {A:Around} (r:Room (k + 1) A) (env:Env):Room k (A.deeper env) :=
 ⟨(by first | exact r.gd | (have:=r.gd; simpa [Around.under,Code.guards,pushGuards,Code.isGuard,guardIds] using this)),r.hd,by have:=r.dp; show A.depth + 1 + 3 * k + 5 < _; omega,by have:=r.un; show A.units + 3 + 16 * k + 200 < _; omega⟩
theorem Room.in1 {k:Nat} {A:Around} (r:Room (k + 1) A):Room k A.in1 :=
 ⟨(by first | exact r.gd | (have:=r.gd; simpa [Around.under,Code.guards,pushGuards,Code.isGuard,guardIds] using this)),r.hd,by have:=r.dp; show A.depth + 3 * k + 5 < _; omega,by have:=r.un; show A.units + 1 + 16 * k + 200 < _; omega⟩
theorem Room.depth {k:Nat} {A:Around} (r:Room k A):A.depth < recursionLimit:=by have:=r.dp; omega
theorem Room.units {k:Nat} {A:Around} (r:Room k A):A.units + 64 < cLine:=by have:=r.un; omega
section
variable {X:Cx} {e:Expr} {es:List Expr} {te:TE} {t:TA} {pos:Pos}
end
noncomputable abbrev Sp:=List V→Hp→VK→XK→Prop
noncomputable abbrev CXT:=List Env→Hp→Shared→XK→Value→Shared→Prop
structure Env0 (P:Program) (w:World) (K:PySem.W.Frag) (mg:Str→Option Value) (base:Heap) (A:Around) (outer:List Env) (s:Shared) (H:Hp):Prop where
 frames:A.frames=some outer
 mod:Mod K mg base
 bs:∀ b o,base.get? b=some o→s.heap.get? b=some o∧H b=none
 bsz:base.objs.size≤s.heap.objs.size
 funs:s.heap.FunFrames base outer
 frf:∀ b∈frs outer,H b=none
 hok:HOk P w H s.heap
 bare:AllBare s.gens
noncomputable def CE (outer:List Env) (P:Program) (w:World) (H:Hp) (s:Shared) (Q:VK) (u:Value) (s':Shared):Prop :=
 ∃ v H',s'.os=s.os∧AllBare s'.gens∧Un (frs outer) [] H H' s.heap s'.heap∧HOk P w H' s'.heap∧RelV v u∧Q v H'
noncomputable def CR (CX:CXT) (outer:List Env) (P:Program) (w:World) (H:Hp) (s:Shared) (Q:VK) (E:XK) (r:Result) (s':Shared):Prop :=
 match r with
 | .ok (.ret u)=>CE outer P w H s Q u s'
 | .ok _=>False
 | .error e=>CX outer H s E e s'
structure FnOk (P:Program) (w:World) (K:PySem.W.Frag) (mg:Str→Option Value) (base:Heap) (CX:CXT) (k:Nat) (f:Addr) (fd:FuncData) (ps:List Str) (sp:Sp):Prop where
 len:∀ vs H Q E,sp vs H Q E→vs.length=ps.length
 run:∀ (A:Around) (outer:List Env) (s:Shared) (H:Hp) (args:Args) (us:List Value) (vs:List V) (Q:VK) (E:XK),Room k A→Env0 P w K mg base A outer s H→BindsTo s fd args (ps.zip us)→Vals vs us→sp vs H Q E →
  codeAny (model P w) A (.call (.ref f) args) (CR CX outer P w H s Q E) s
theorem FnOk.mono {P:Program} {w:World} {K:PySem.W.Frag} {mg:Str→Option Value} {base:Heap} {CX:CXT} {j k:Nat} {f:Addr} {fd:FuncData} {ps:List Str} {sp:Sp} (F:FnOk P w K mg base CX j f fd ps sp) (h:j≤k) :
  FnOk P w K mg base CX k f fd ps sp:=⟨F.len,fun A outer s H args us vs Q E hr=>F.run A outer s H args us vs Q E (hr.mono h)⟩
theorem FnOk.imp {P:Program} {w:World} {K:PySem.W.Frag} {mg:Str→Option Value} {base:Heap} {CX:CXT} {k:Nat} {f:Addr} {fd:FuncData} {ps:List Str} {sp sp':Sp} (F:FnOk P w K mg base CX k f fd ps sp)
  (h:∀ vs H Q E,sp' vs H Q E→sp vs H Q E):FnOk P w K mg base CX k f fd ps sp' :=
 ⟨fun vs H Q E q=>F.len vs H Q E (h _ _ _ _ q),fun A outer s H args us vs Q E hr he hb hv hs=>F.run A outer s H args us vs Q E hr he hb hv (h _ _ _ _ hs)⟩
theorem Env0.in1 {P:Program} {w:World} {K:PySem.W.Frag} {mg:Str→Option Value} {base:Heap} {A:Around} {outer:List Env} {s:Shared} {H:Hp} (e:Env0 P w K mg base A outer s H) :
  Env0 P w K mg base A.in1 outer s H:=⟨e.frames,e.mod,e.bs,e.bsz,e.funs,e.frf,e.hok,e.bare⟩
section
variable {X:Cx} {pins:List (Addr×Obj)} {σ:St} {H:Hp} {s s':Shared}
theorem Inv.env0 (I:Inv X pins σ H s):Env0 X.prog X.w X.K X.mg X.base X.A X.stack s H :=
 ⟨I.ok.frames,I.ok.mod,I.bs,Nat.le_trans I.ok.bsz I.sz,I.stack,I.stkFree,I.hok,I.bare⟩
theorem Inv.after {Q:VK} {u:Value} (I:Inv X pins σ H s) (h:CE X.stack X.prog X.w H s Q u s'):EP X pins σ Q u s':=by
 obtain ⟨v,H',os,bare,un,hok,r,q⟩:=h
 obtain ⟨hh,g,d,t,os'⟩:=s'
 obtain rfl:os'=s.os:=os
 exact ⟨v,H',I.call (h':=hh) (g':=g) (d':=d) (t':=t) (ch:=[]) un hok bare (fun b z=>absurd z (by simp)),r,q⟩
end
noncomputable def Binds (K:PySem.W.Frag) (fd:FuncData) (ps:List Str) (ds:List Value):Prop :=
 ∀ (s:Shared) (us:List Value),K.In s.heap→(us++ds).length=ps.length→BindsTo s fd ⟨us,[]⟩ (ps.zip (us++ds))
theorem Binds.all {K:PySem.W.Frag} {fd:FuncData} {ps:List Str} (h:∀ us:List Value,us.length=ps.length→bindArgs fd ⟨us,[]⟩=pure (ps.zip us)):Binds K fd ps []:=fun s us _ hl=>by
 rw [List.append_nil] at hl ⊢
 exact .of_eq (h us hl)
section
variable {X:Cx} {CX:CXT} {k:Nat} {f C:Addr} {fd:FuncData} {ps:List Str} {sp:Sp} {dvs:List V} {ds:List Value} {E:XK} {x m:Str} {p pos apos:Pos} {e o:Expr} {es:List Expr} {ta:TE} {t:TA}
end
section
variable {X:Cx} {CX:CXT} {k:Nat} {f C:Addr} {fd:FuncData} {ps ks:List Str} {sp:Sp} {E:XK} {x m:Str} {p pos apos kpos:Pos} {e o:Expr} {es:List Expr} {kws:List Keyword} {te ta:TE} {t tk:TA} {nm:Option Str}
structure KBinds (K:PySem.W.Frag) (fd:FuncData) (ps ks:List Str) (g:List Value→List Value→List Value) (gV:List V→List V→List V):Prop where
 to:∀ (s:Shared) (us ws:List Value),K.In s.heap→(g us ws).length=ps.length→BindsTo s fd ⟨us,ks.zip ws⟩ (ps.zip (g us ws))
 rel:∀ {vs:List V} {us:List Value} {zs:List V} {ws:List Value},Vals vs us→Vals zs ws→Vals (gV vs zs) (g us ws)
variable {g:List Value→List Value→List Value} {gV:List V→List V→List V}
end
structure FnScope (N P:List Str) (sc:Scope):Prop where
 kind:sc.kind=.function
 co:sc.isCoroutine=false
 gen:sc.isGenerator=false
 nd:N.Nodup
 pre:N.take P.length=P
 par:∀ x∈P,sc.names.lookup x=some .local∨sc.names.lookup x=some .cell
 nofree:∀ y∈sc.names,y.2≠.free
theorem bindL_out {kindOf:Str→Option NameKind} {x:Str}:∀ {binds:List (Str×Value)} {m:Str→Option Value},(∀ v,(x,v) ∉ binds)→bindL kindOf binds m x=m x
 | [],_,_=>rfl
 | (n,v) :: r,m,h=>by
  unfold bindL
  rw [bindL_out fun w hw=>h w (List.mem_cons_of_mem _ hw)]
  split
  ·have:x≠n:=by rintro rfl; exact h v List.mem_cons_self
   simp [this]
  ·rfl
theorem bindC_out {kindOf:Str→Option NameKind} {x:Str}:∀ {binds:List (Str×Value)} {m:Str→Option Value},(∀ v,(x,v) ∉ binds)→bindC kindOf binds m x=m x
 | [],_,_=>rfl
 | (n,v) :: r,m,h=>by
  unfold bindC
  rw [bindC_out fun w hw=>h w (List.mem_cons_of_mem _ hw)]
  split
  ·rfl
  ·have:x≠n:=by rintro rfl; exact h v List.mem_cons_self
   simp [this]
theorem bindL_get {kindOf:Str→Option NameKind} {x:Str} {v:Value}:∀ {P:List Str} {vs:List Value} {i:Nat} {m:Str→Option Value},P.Nodup→P[i]?=some x→vs[i]?=some v→kindOf x=some .local →
  bindL kindOf (P.zip vs) m x=some v
 | [],_,_,_,_,h,_,_=>by simp at h
 | _ :: _,[],_,_,_,_,h,_=>by simp at h
 | p :: P,w :: vs,0,m,nd,h1,h2,hk=>by
  simp at h1 h2; subst h1; subst h2
  show bindL kindOf ((p,w) :: P.zip vs) m p=_
  unfold bindL
  rw [bindL_out fun v hv=>(List.nodup_cons.mp nd).1 (List.of_mem_zip hv).1,if_pos hk]
  simp
 | p :: P,w :: vs,i + 1,m,nd,h1,h2,hk=>by
  show bindL kindOf ((p,w) :: P.zip vs) m x=_
  unfold bindL
  exact bindL_get (i:=i) (List.nodup_cons.mp nd).2 (by simpa using h1) (by simpa using h2) hk
theorem bindC_get {kindOf:Str→Option NameKind} {x:Str} {v:Value}:∀ {P:List Str} {vs:List Value} {i:Nat} {m:Str→Option Value},P.Nodup→P[i]?=some x→vs[i]?=some v→kindOf x≠some .local →
  bindC kindOf (P.zip vs) m x=some v
 | [],_,_,_,_,h,_,_=>by simp at h
 | _ :: _,[],_,_,_,_,h,_=>by simp at h
 | p :: P,w :: vs,0,m,nd,h1,h2,hk=>by
  simp at h1 h2; subst h1; subst h2
  show bindC kindOf ((p,w) :: P.zip vs) m p=_
  unfold bindC
  rw [bindC_out fun v hv=>(List.nodup_cons.mp nd).1 (List.of_mem_zip hv).1,if_neg hk]
  simp
 | p :: P,w :: vs,i + 1,m,nd,h1,h2,hk=>by
  show bindC kindOf ((p,w) :: P.zip vs) m x=_
  unfold bindC
  exact bindC_get (i:=i) (List.nodup_cons.mp nd).2 (by simpa using h1) (by simpa using h2) hk
noncomputable def start (N:List Str) (vs:List V):St:=vs.map some++List.replicate (N.length - vs.length) none
noncomputable def cxOf (CX:CXT) (P:Program) (w:World) (K:PySem.W.Frag) (mg:Str→Option Value) (base:Heap) (N:List Str) (qual:Str) (scope:Scope) (f:Addr) (cd:Value) (A:Around) (outer:List Env) (s:Shared) (H:Hp) (E:XK):Cx where
 prog:=P
 w:=w
 K:=K
 mg:=mg
 base:=base
 A:=A.deeper (envOfC qual scope s.heap.objs.size f cd)
 N:=N
 s₀:=s
 H₀:=H
 env:=envOfC qual scope s.heap.objs.size f cd
 outer:=outer
 stack:=envOfC qual scope s.heap.objs.size f cd :: outer
 ex:=[]
 calm:=true
 fn:=fun _=>true
 pn:=[]
 xe:=fun e s'=>wpAny (model P w) (A.deeper (envOfC qual scope s.heap.objs.size f cd)) (leaving (envOfC qual scope s.heap.objs.size f cd) e) (fun _ s''=>CX outer H s E e s'') (fun e' s''=>CX outer H s E e' s'') s'
theorem cell_has {sc:Scope} {n:Nat} {x:Str} (h:sc.names.lookup x=some .cell):∃ c,(cellsFrom n sc.names []).lookup x=some c:=by
 have q:=PySem.W.cellsFrom_some sc.names n [] (.inl h)
 exact Option.isSome_iff_exists.mp q
theorem inv_start {CX:CXT} {P:Program} {w:World} {K:PySem.W.Frag} {mg:Str→Option Value} {base:Heap} {N ps:List Str} {qual:Str} {scope:Scope} {f:Addr} {cd:Value} {A:Around} {outer:List Env} {s s1:Shared} {H:Hp} {E:XK} {us:List Value} {vs:List V}
  (S:FnScope N ps scope) (hd:A.handled=none) (e0:Env0 P w K mg base A outer s H) (hl:vs.length=ps.length) (r:Vals vs us)
  (x:InCallC s s.heap.objs.size (bindL (envOfC qual scope s.heap.objs.size f cd).kindOf (ps.zip us) fun _=>none) (cellsFrom (s.heap.objs.size + 1) scope.names []) (bindC (envOfC qual scope s.heap.objs.size f cd).kindOf (ps.zip us) fun _=>none) s1) :
  Inv (cxOf CX P w K mg base N qual scope f cd A outer s H E) [] (start N vs) H s1:=by
 have hpl:ps.length≤N.length:=by have:=congrArg List.length S.pre; rw [List.length_take] at this; omega
 obtain ⟨h1,tk,rfl,hk⟩:=x.done
 have noA:∀ b:Addr,b ∉ (cxOf CX P w K mg base N qual scope f cd A outer s H E).ex:=fun b z=>absurd (show b∈([]:List Addr) from z) (by simp)
 refine ⟨⟨e0.mod,S.kind,rfl,rfl,Nat.le_refl _,fun y z c h1 h2=>?_,fun y hy=>?_,fun y c _ h=>?_,fun _=>hd,Around.frames_deeper e0.frames,.inr ⟨rfl,rfl⟩,fun b z=>absurd z (noA b),e0.bs,e0.bsz,fun b _ _=>noA b,fun b z=>absurd z (noA b),e0.funs,e0.frf⟩,
  rfl,e0.bare,Un.kept hk,⟨_,x.toInCall.ns,fun i y v h1 h2 h3=>?_⟩,fun y c h=>⟨_,x.cell y c h⟩,e0.hok.fresh (Nat.le_refl _),fun y c h=>?_,fun p hp=>absurd (show p∈([]:List (Addr×Obj)) from hp) (by simp),e0.hok.kept hk,?_⟩
 ·exact name_of_addr x.apart (PySem.mem_of_lookup h1) (PySem.mem_of_lookup h2)
 ·have hy:scope.names.lookup y=some .cell∨scope.names.lookup y=some .free:=hy
  rcases hy with hy | hy
  ·exact cell_has hy
  ·exact absurd rfl (S.nofree _ (PySem.mem_of_lookup hy))
 ·exact Nat.le_of_lt (x.above y c (PySem.mem_of_lookup h))
 ·have hi:i < vs.length:=by
   unfold start at h2
   by_cases hi:i < vs.length
   ·exact hi
   ·rw [List.getElem?_append_right (by simpa using hi)] at h2
    rw [List.getElem?_replicate] at h2
    split at h2 <;> cases h2
  have ha:vs[i]?=some v:=by
   unfold start at h2
   rw [List.getElem?_append_left (by simpa using hi),List.getElem?_map] at h2
   cases e:vs[i]? with
   | none=>rw [e] at h2; cases h2
   | some a=>rw [e] at h2; cases h2; rfl
  obtain ⟨u,hu,rv⟩:=r.get ha
  have hp:ps[i]?=some y:=by
   rw [← S.pre,List.getElem?_take_of_lt (by omega)]; exact h1
  have ndP:ps.Nodup:=by rw [← S.pre]; exact S.nd.sublist (List.take_sublist _ _)
  refine ⟨u,rv,?_⟩
  rcases S.par y (List.mem_of_getElem? hp) with k | k
  ·exact .inl ⟨k,bindL_get ndP hp hu k⟩
  ·obtain ⟨c,e⟩:=cell_has (n:=s.heap.objs.size + 1) k
   refine .inr ⟨.inl k,c,e,?_⟩
   have q:=x.cell y c e
   rw [bindC_get ndP hp hu (by show scope.names.lookup y≠_; rw [k]; decide)] at q
   exact q
 ·exact e0.hok.fresh (Nat.le_of_lt (x.above y c (PySem.mem_of_lookup h)))
 ·unfold start
  show _=N.length
  rw [List.length_append,List.length_map,List.length_replicate]
  omega
end L2
namespace L2
open PySem PySem.Spec PyProof.Rows
section
variable {X:Cx} {x:Str} {p pos:Pos} {e:Expr} {es:List Expr} {t:TA} {id T:String} {r:List V→Hp→VK→Prop}
end
end L2
namespace HT
open PySem PyProof.Rows
noncomputable def lexLt:List Int→List Int→Bool
 | [],[]=>false
 | [],_ :: _=>true
 | _ :: _,[]=>false
 | x :: xs,y :: ys=>if x=y then lexLt xs ys else decide (x < y)
theorem lexLt_cons (x y:Int) (xs ys:List Int):lexLt (x :: xs) (y :: ys)=if x=y then lexLt xs ys else decide (x < y):=rfl
theorem lexLt_nil_nil:lexLt [] []=false:=rfl
theorem lexLt_nil_cons (y:Int) (ys:List Int):lexLt [] (y :: ys)=true:=rfl
theorem lexLt_cons_nil (x:Int) (xs:List Int):lexLt (x :: xs) []=false:=rfl
theorem eqAt_int (A:Around) (s:Shared) (a:Int) (t:Tok) (c:Int) (u:Tok):∃ e,SeqAt.EqAt A s (.int a t) (.int c u) e∧(e=true ↔ a=c) :=
 ⟨(a == c),SeqAt.EqAt.int_int a t c u,by simp⟩
theorem rcLt_int (A:Around) (s:Shared) (a:Int) (t:Tok) (c:Int) (u:Tok) (prog:Program) (w:World) (E:Value→Shared→Prop) (Q:Value→Shared→Prop) (h:Q (.bool (decide (a < c))) s) :
  wpAny (model prog w) A (richCompare .Lt (.int a t) (.int c u)) Q E s :=
 (PyProof.Rows.lt_int h:wpAny (model prog w) A (compareOp .Lt (.int a t) (.int c u)) Q E s)
section
open PySem.SeqAt
open PySem.AutoSeq1 (wpAny_loadPart')
open PySem.MeetsSeq PySem.MeetsSeq2 PySem.MeetsSeq3
theorem tuple_lt_ints (l b:Addr) (items items2:Array Value) (n n2:Nat) (dd dd2:Option Addr) (sl sl2:Array (Option Value)) (ns ms:List Int) (hi:IntsAre items.toList ns) (hj:IntsAre items2.toList ms) :
  Meets (Builtin.«tuple.__lt__» ⟨[.ref l,.ref b],[]⟩)
   (fun _ R s=>s.heap.get? l=some { cls:=.type "tuple",dict:=dd,data:=.seq items n,slots:=sl }∧s.heap.get? b=some { cls:=.type "tuple",dict:=dd2,data:=.seq items2 n2,slots:=sl2 } ∧
    R (.ok (.ret (.bool (lexLt ns ms)))) s) :=
 .of_wp fun prog w A R s h=>by
  obtain ⟨hp,g,d,tk,os⟩:=s; obtain ⟨hl,hb,h⟩:=h
  have f2:=AutoSeq1.sub_tuple_tuple
  have z1:items.size=ns.length:=by rw [← hi.length]; simp
  have z2:items2.size=ms.length:=by rw [← hj.length]; simp
  wp_walk using wpAny_loadPart' hl,wpAny_loadPart' hb,wpAny_forIn_list _ (fun rest b s'=>b.1=none∧s'=⟨hp,g,d,tk,os⟩∧∃ (vs ws:List Value) (ns' ms':List Int),rest=vs.zip ws ∧
   IntsAre vs ns'∧IntsAre ws ms'∧ns'.length + items2.size=ms'.length + items.size∧R (.ok (.ret (.bool (lexLt ns' ms')))) ⟨hp,g,d,tk,os⟩) _
  case turn =>
   rintro ⟨y,x⟩ rest b s' ⟨hb',rfl,vs,ws,ns',ms',hz,hvi,hwi,hlen,hR⟩
   cases hvi with
   | nil=>rw [List.zip_nil_left] at hz; cases hz
   | cons a t hvi' =>
    cases hwi with
    | nil=>rw [List.zip_nil_right] at hz; cases hz
    | cons c u hwi' =>
     rw [List.zip_cons_cons] at hz
     injection hz with hyx hrest
     injection hyx with hy hx
     subst hy hx
     rw [lexLt_cons] at hR
     simp only [List.length_cons] at hlen
     obtain ⟨e,he,hiff⟩:=eqAt_int A.in1 ⟨hp,g,d,tk,os⟩ a t c u
     refine wpAny_bind (he prog w _ _ ?_)
     cases e with
     | true =>
      rw [if_pos (hiff.mp rfl)] at hR
      wp_walk
      exact ⟨rfl,rfl,_,_,_,_,hrest,hvi',hwi',by omega,hR⟩
     | false =>
      rw [if_neg (fun q=>absurd (hiff.mpr q) Bool.false_ne_true)] at hR
      have hri:=rcLt_int A.in1 ⟨hp,g,d,tk,os⟩ a t c u prog w
      wp_walk using hri
      exact ⟨_,rfl,by simpa using hR⟩
  case fin =>
   rintro ⟨b1,b2⟩ s' ⟨hb',rfl,vs,ws,ns',ms',hz,hvi,hwi,hlen,hR⟩
   simp only at hb'
   subst hb'
   have hv:lexLt ns' ms'=decide (items.size < items2.size):=by
    cases hvi with
    | nil =>
     cases hwi with
     | nil =>
      simp only [List.length_nil] at hlen
      rw [lexLt_nil_nil]
      exact (decide_eq_false (by omega)).symm
     | cons c u hw =>
      simp only [List.length_nil,List.length_cons] at hlen
      rw [lexLt_nil_cons]
      exact (decide_eq_true (by omega)).symm
    | cons a t hv =>
     cases hwi with
     | nil =>
      simp only [List.length_nil,List.length_cons] at hlen
      rw [lexLt_cons_nil]
      exact (decide_eq_false (by omega)).symm
     | cons c u hw =>
      rw [List.zip_cons_cons] at hz
      cases hz
   rw [hv] at hR
   wp_walk
   exact ⟨_,rfl,by simpa [Builtin.Tuple.tupleCompareSizes] using hR⟩
  case h =>
   exact ⟨rfl,rfl,items.toList,items2.toList,ns,ms,rfl,hi,hj,by omega,h⟩
end
section
variable {prog:Program} {w:World} {A:Around} {E:Value→Shared→Prop} {s:Shared}
theorem lt_tupInts {l b:Addr} {items items2:Array Value} {ns ms:List Int} {Q:Value→Shared→Prop} (hl:IsTup s.heap l items) (hb:IsTup s.heap b items2) (hi:IntsAre items.toList ns) (hj:IntsAre items2.toList ms)
  (hu:A.units < cLine) (h:Q (.bool (lexLt ns ms)) s):wpAny (model prog w) A (compareOp .Lt (.ref l) (.ref b)) Q E s:=by
 obtain ⟨⟨cls,dd,data,sl⟩,ho,hc,n,hd⟩:=id hl
 obtain ⟨⟨cls2,dd2,data2,sl2⟩,ho2,hc2,n2,hd2⟩:=id hb
 simp only at hc hd hc2 hd2
 subst hc hd hc2 hd2
 exact richCompare_meets_room (op:=.Lt) ⟨_,ho,rfl⟩ ⟨_,ho2,rfl⟩ PySem.F.slot_tuple_lt PySem.F.entry_tuple_lt (PySem.F.args_tuple_lt_2 _ _) (tuple_lt_ints l b items items2 n n2 dd dd2 sl sl2 ns ms hi hj)
  ⟨ho,ho2,show Value.bool (lexLt ns ms)≠Value.notImplemented∧Q (.bool (lexLt ns ms)) s from ⟨(fun x=>nomatch x),h⟩⟩ hu
theorem cat_tup {t b:Addr} {vs ws:List Value} {Q:Value→Shared→Prop} (ht:IsTup s.heap t vs.toArray) (hb:IsTup s.heap b ws.toArray) (hv:vs≠[])
  (h1:ws=[]→Q (.ref t) s) (h2:ws≠[]→Q (.ref s.heap.objs.size) { s with heap:=s.heap.push { cls:=.type "tuple",data:=.seq (vs++ws).toArray } })
  (hsz:vs.length + ws.length≤sizeLine):wpAny (model prog w) A (binaryOp .Add (.ref t) (.ref b)) Q E s:=by
 obtain ⟨⟨cls,dd,data,sl⟩,ho,hc,n,hd⟩:=id ht
 obtain ⟨⟨cls2,dd2,data2,sl2⟩,ho2,hc2,n2,hd2⟩:=id hb
 simp only at hc hd hc2 hd2
 subst hc hd hc2 hd2
 have e:vs.toArray++ws.toArray=(vs++ws).toArray:=by simp
 by_cases hw:ws=[]
 ·exact concat_meets ⟨_,ho,rfl⟩ ⟨_,ho2,rfl⟩ noFill_tuple_add seq_tuple_add PySem.F.slot_tuple_add PySem.F.entry_tuple_add (PySem.F.args_tuple_add_2 _ _)
   (tuple_addW1 t b vs.toArray ws.toArray n n2 dd dd2 sl sl2 (by simpa using hv) (by simp [hw])) ⟨ho,ho2,h1 hw⟩
 ·refine concat_meets ⟨_,ho,rfl⟩ ⟨_,ho2,rfl⟩ noFill_tuple_add seq_tuple_add PySem.F.slot_tuple_add PySem.F.entry_tuple_add (PySem.F.args_tuple_add_2 _ _)
   (tuple_addW2 t b vs.toArray ws.toArray n n2 dd dd2 sl sl2 (by simpa using hv) (by simpa using hw) (by rw [List.size_toArray,List.size_toArray]; exact hsz)) ⟨ho,ho2,?_⟩
  rw [e]
  exact h2 hw
noncomputable def sIx (n d:Nat):Option Int→Nat
 | none=>d
 | some v=>if v < 0 then (v + (n:Int)).toNat else min v.toNat n
theorem sIx_le (n d:Nat) (hd:d≤n) (o:Option Int):sIx n d o≤n:=by
 cases o with
 | none=>exact hd
 | some v =>
  show (if v < 0 then (v + (n:Int)).toNat else min v.toNat n)≤n
  by_cases hv:v < 0
  ·rw [if_pos hv]; omega
  ·rw [if_neg hv]; exact Nat.min_le_right _ _
theorem clip_eq (v:Int) (n d:Nat):(if v < 0 then max (v + (n:Int)) 0 else min v (n:Int))=((sIx n d (some v):Nat):Int):=by
 show (if v < 0 then max (v + (n:Int)) 0 else min v (n:Int))=(((if v < 0 then (v + (n:Int)).toNat else min v.toNat n):Nat):Int)
 by_cases hv:v < 0
 ·simp only [if_pos hv]; omega
 ·simp only [if_neg hv]; omega
theorem adjust_gen (lo hi:Option Int) (n:Nat):Builtin.Slice.sliceAdjust lo hi 1 (n:Int)=(((sIx n 0 lo:Nat):Int),((sIx n n hi:Nat):Int)):=by
 have h1:¬ ((1:Int) < 0):=by omega
 unfold Builtin.Slice.sliceAdjust
 simp only [h1,if_false]
 refine Prod.ext ?_ ?_
 ·cases lo with
  | none=>rfl
  | some v=>exact clip_eq v n 0
 ·cases hi with
  | none=>rfl
  | some v=>exact clip_eq v n n
theorem places_gen (i j:Nat):Builtin.Slice.slicePlaces (i:Int) (j:Int) 1=j - i:=by
 unfold Builtin.Slice.slicePlaces
 have h1:(1:Int) > 0:=by omega
 simp only [h1,if_true,Int.ediv_one]
 split <;> omega
theorem slicePart_ {v:Value} {o:Option Int} {Q:Option Int→Shared→Prop} (p:IsPart v o) (h:Q o s):wpAny (model prog w) A (Builtin.Slice.slicePartIndex v) Q E s:=by
 cases p with
 | none=>exact slicePart_none h
 | int i t=>exact slicePart_int h
theorem sliceApplied_gen {sl:Addr} {vl vu:Value} {lo hi:Option Int} {n:Nat} {Q:Int×Int×Nat→Shared→Prop} (hs:s.heap.IsSliceOf sl vl vu .none) (pl:IsPart vl lo) (pu:IsPart vu hi)
  (h:Q (((sIx n 0 lo:Nat):Int),1,sIx n n hi - sIx n 0 lo) s):wpAny (model prog w) A (Builtin.Slice.sliceApplied (.ref sl) (pure (n:Int))) Q E s:=by
 obtain ⟨os,hos,hcs,hds⟩:=id hs
 unfold Builtin.Slice.sliceApplied Builtin.Slice.sliceFields
 refine wpAny_bind (wpAny_bind (wpAny_field hos hds (x:=vl) rfl (wpAny_bind (wpAny_field hos hds (x:=vu) rfl (wpAny_bind (wpAny_field hos hds (x:=.none) rfl (wpAny_pure ?_)))))))
 refine wpAny_bind (slicePart_none ?_)
 show wpAny _ _ (if ((1:Int) == 0)=true then _ else _) _ _ s
 rw [if_neg (by decide)]
 refine wpAny_bind (slicePart_ pl (wpAny_bind (slicePart_ pu (wpAny_bind (wpAny_pure ?_)))))
 show wpAny _ _ (match Builtin.Slice.sliceAdjust lo hi 1 (n:Int) with | (lo,hi)=>pure (lo,(1:Int),Builtin.Slice.slicePlaces lo hi 1)) _ _ s
 rw [adjust_gen lo hi n]
 show wpAny _ _ (pure (((sIx n 0 lo:Nat):Int),(1:Int),Builtin.Slice.slicePlaces ((sIx n 0 lo:Nat):Int) ((sIx n n hi:Nat):Int) 1)) _ _ s
 rw [places_gen]
 exact wpAny_pure h
theorem pick_gen (xs:Array Value) (i k:Nat):((List.range k).filterMap fun (m:Nat)=>xs[((i:Int) + (m:Int) * 1).toNat]?).toArray=((xs.toList.drop i).take k).toArray:=by
 have e:(fun (m:Nat)=>xs[((i:Int) + (m:Int) * 1).toNat]?)=fun m=>xs[i + m]?:=by
  funext m
  have:((i:Int) + (m:Int) * 1).toNat=i + m:=by omega
  rw [this]
 rw [e]
 have:=pick_run xs i k
 rw [List.filterMap_map] at this
 have e2:((fun x=>xs[x]?) ∘ fun x=>i + x)=fun m=>xs[i + m]?:=rfl
 rw [e2] at this
 rw [this]
theorem getItem_tuple_cut {t sl:Addr} {items:Array Value} {vl vu:Value} {lo hi:Option Int} {Q:Value→Shared→Prop} (ht:IsTup s.heap t items) (hs:s.heap.IsSliceOf sl vl vu .none) (pl:IsPart vl lo) (pu:IsPart vu hi)
  (hw:¬ (sIx items.size 0 lo=0∧sIx items.size items.size hi=items.size))
  (h:Q (.ref s.heap.objs.size) { s with heap:=s.heap.push { cls:=.type "tuple",data:=.seq ((items.toList.drop (sIx items.size 0 lo)).take (sIx items.size items.size hi - sIx items.size 0 lo)).toArray } })
  (hsz:items.size≤sizeLine):wpAny (model prog w) A (getItem (.ref t) (.ref sl)) Q E s:=by
 have htake:sizeOk (.seq ((items.toList.drop (sIx items.size 0 lo)).take (sIx items.size items.size hi - sIx items.size 0 lo)).toArray):=by
  show ((items.toList.drop (sIx items.size 0 lo)).take (sIx items.size items.size hi - sIx items.size 0 lo)).toArray.size≤sizeLine
  rw [List.size_toArray,List.length_take,List.length_drop,Array.length_toList]
  omega
 have hj:sIx items.size items.size hi≤items.size:=sIx_le _ _ (Nat.le_refl _) hi
 obtain ⟨os,hos,hcs,hds⟩:=id hs
 have hTs:s.TypeIs (.ref sl) "slice" := ⟨os,hos,hcs⟩
 unfold getItem
 try with_reducible refine wpAny_holding ?_
 first | refine wpAny_bind (wpAny_pure ?_) | skip
 refine wpAny_bind (wpAny_sequenceKey ht.typeIs (by decide) ?_)
 refine wpAny_bind (wpAny_callSpecial?_slot (name:=Str.ofString "__getitem__") ht.typeIs PyProof.Rows.slot_tuple_getitem
  (wpAny_call_entry PyProof.Rows.slot_tuple_getitem ht.typeIs entry_tuple_getitem ?_ (args_tuple_getitem _ _)))
 show wpAny _ _ (Builtin.Tuple.tupleItemsOf (.ref t) >>= _) _ _ s
 refine wpAny_bind (tupleItemsOf_ ht ?_)
 refine wpAny_bind (wpAny_typeOf hTs ?_)
 rw [if_pos (by decide)]
 refine wpAny_bind (sliceApplied_gen hs pl pu ?_)
 have hno:¬ ((((sIx items.size 0 lo:Nat):Int) == 0 && (1:Int) == 1 && (sIx items.size items.size hi - sIx items.size 0 lo) == items.size)=true):=by
  intro q
  rw [Bool.and_eq_true,Bool.and_eq_true] at q
  have q1:((sIx items.size 0 lo:Nat):Int)=0:=eq_of_beq q.1.1
  have q2:sIx items.size items.size hi - sIx items.size 0 lo=items.size:=eq_of_beq q.2
  exact hw ⟨by omega,by omega⟩
 show wpAny _ _ (if (((sIx items.size 0 lo:Nat):Int) == 0 && (1:Int) == 1 && (sIx items.size items.size hi - sIx items.size 0 lo) == items.size)=true then _ else _) _ _ s
 rw [if_neg hno,pick_gen]
 first
  | exact wpAny_bind (m:=Builtin.Tuple.tupleExact _) (wpAny_newObj_type (wpAny_pure ⟨_,rfl,wpAny_pure h⟩) htake)
  | exact wpAny_bind (m:=Builtin.Tuple.tupleExact _) (wpAny_newObj_type (wpAny_bind (wpAny_pure (wpAny_pure ⟨_,rfl,wpAny_pure h⟩))) htake)
  | exact wpAny_bind (wpAny_bind (m:=Builtin.Tuple.tupleExact _) (wpAny_newObj_type (wpAny_pure (wpAny_pure ⟨_,rfl,wpAny_pure h⟩)) htake))
  | exact wpAny_bind (wpAny_bind (m:=Builtin.Tuple.tupleExact _) (wpAny_newObj_type (wpAny_pure ⟨_,rfl,wpAny_pure h⟩) htake))
end
end HT
namespace L2
open PySem PySem.Spec PyProof.Rows
theorem intsAre_of {ns:List Int}:∀ {us:List Value},Vals (ns.map V.int) us→IntsAre us ns:=by
 induction ns with
 | nil=>intro us r; rw [List.map_nil] at r; cases r; exact .nil
 | cons n ns ih =>
  intro us r
  rw [List.map_cons] at r
  cases r with
  | cons r1 r2 =>
   obtain ⟨t,e⟩:=r1
   subst e
   exact .cons n t (ih r2)
section
variable {X:Cx} {e:Expr} {te:TE} {lo hi:Option Expr} {tl th:TO} {pos p2:Pos}
noncomputable def cutV (xs:List V) (lo hi:Option Int):List V:=(xs.drop (HT.sIx xs.length 0 lo)).take (HT.sIx xs.length xs.length hi - HT.sIx xs.length 0 lo)
theorem cutV_length (xs:List V) (lo hi:Option Int):(cutV xs lo hi).length≤xs.length:=by
 unfold cutV
 rw [List.length_take,List.length_drop]
 omega
noncomputable def rLtT (K:PySem.W.Frag):R2:=fun x y H Q=>∃ a b ns ms,x=.ref a∧y=.ref b∧SqT K H a (ns.map V.int)∧SqT K H b (ms.map V.int)∧Q (.bl (HT.lexLt ns ms)) H
theorem op_ltT (hu:X.A.units < cLine):OpR X (compareOp .Lt) (rLtT X.K):=by
 intro pins s σ H x y v u Q I rx ry h
 obtain ⟨a,b,ns,ms,rfl,rfl,ha,hb,q⟩:=h
 cases rx
 cases ry
 obtain ⟨its,r1,p1,_⟩:=I.tuple ha
 obtain ⟨its2,r2,p2,_⟩:=I.tuple hb
 have i1:IntsAre its.toArray.toList ns:=intsAre_of r1
 have i2:IntsAre its2.toArray.toList ms:=intsAre_of r2
 exact HT.lt_tupInts p1 p2 i1 i2 hu ⟨.bl (HT.lexLt ns ms),H,I,rfl,q⟩
end
end L2
namespace L2
open PySem PySem.Spec PyProof.Rows
noncomputable def ixN (n:Nat) (i:Int):Option Nat:=if 0≤i then (if i < n then some i.toNat else none) else if -(n:Int)≤i then some (i + n).toNat else none
noncomputable def atI {α:Type} (xs:List α) (i:Int):Option α:=(ixN xs.length i).bind fun j=>xs[j]?
theorem ixN_seq {n:Nat} {i:Int} {j:Nat} (h:ixN n i=some j):seqIndex? i n=some j∧j < n∧-(n:Int)≤i∧i < n:=by
 unfold ixN at h
 by_cases h0:0≤i
 ·rw [if_pos h0] at h
  by_cases h1:i < n
  ·rw [if_pos h1] at h
   have e:i.toNat=j:=Option.some.inj h
   exact ⟨by rw [seqIndex_of h0 h1,e],by omega,by omega,h1⟩
  ·rw [if_neg h1] at h; cases h
 ·rw [if_neg h0] at h
  by_cases h1:-(n:Int)≤i
  ·rw [if_pos h1] at h
   have e:(i + n).toNat=j:=Option.some.inj h
   exact ⟨by rw [seqIndex_neg (by omega) h1,e],by omega,h1,by omega⟩
  ·rw [if_neg h1] at h; cases h
theorem atI_get {α:Type} {xs:List α} {i:Int} {v:α} (h:atI xs i=some v):∃ j,seqIndex? i xs.length=some j∧xs[j]?=some v∧j < xs.length∧-(xs.length:Int)≤i∧i < xs.length:=by
 unfold atI at h
 cases e:ixN xs.length i with
 | none=>rw [e] at h; cases h
 | some j =>
  rw [e] at h
  obtain ⟨h1,h2,h3,h4⟩:=ixN_seq e
  exact ⟨j,h1,h,h2,h3,h4⟩
noncomputable def PlainIx (b:Expr):Prop:=∀ o i,subscripted b false o i=operate [o,i] (getItem o i)
noncomputable def IxR (X:Cx) (r:R2):Prop :=
 ∀ (value slice:Expr) (pins:List (Addr×Obj)) (s:Shared) (σ:St) (H:Hp) (x y:V) (v u:Value) (Q:VK),Inv X pins σ H s→RelV x v→RelV y u→r x y H Q →
  subscripted slice false v u=operate [v,u] (getItem v u)→wpAny (model X.prog X.w) X.A (subscriptTail value slice v u) (EP X pins σ Q) X.xe s
section
variable {X:Cx} {a b:Expr} {ta tb:TE} {pos:Pos}
noncomputable def rIxL (K:PySem.W.Frag):R2:=fun x y H Q=>∃ p xs i v,x=.ref p∧y=.int i∧SqL K H p xs∧atI xs i=some v∧Q v H
noncomputable def rIxT (K:PySem.W.Frag):R2:=fun x y H Q=>∃ p xs i v,x=.ref p∧y=.int i∧SqT K H p xs∧atI xs i=some v∧Q v H
noncomputable def rIxS:R2:=fun x y H Q=>∃ z i c,x=.str z∧y=.int i∧z.length≤sizeLine∧atI z.cps.toList i=some c∧Q (.str ⟨#[c]⟩) H
theorem ix_list:IxR X (rIxL X.K):=by
 intro value slice pins s σ H x y v u Q I rx ry h hs
 obtain ⟨p,xs,i,z,rfl,rfl,hq,he,q⟩:=h
 cases rx
 obtain ⟨t,rfl⟩:=ry
 obtain ⟨its,r,pl,hz⟩:=I.list hq
 obtain ⟨j,h1,h2,h3,h4,h5⟩:=atI_get he
 obtain ⟨w,ew,rw'⟩:=r.get h2
 have hl:=r.length
 have hn:=line63
 have fin:EP X pins σ Q w s:=⟨z,H,I,rw',q⟩
 by_cases h0:0≤i
 ·have hj:i.toNat=j:=by
   rw [seqIndex_of h0 h5] at h1
   exact Option.some.inj h1
  exact item_listR pl.isList h0 (by omega) (by rw [hj]; simpa using ew) fin hs
 ·have hj:(i + (its.toArray.size:Int)).toNat=j:=by
   rw [seqIndex_neg (by omega) h4] at h1
   rw [List.size_toArray,← hl]
   exact Option.some.inj h1
  exact subscriptTail_builtinR (x:=w) pl.isList.typeIs slot_list_getitem.lookup
   (wpAny_getItem_list_neg (Q:=fun r s'=>r=w∧EP X pins σ Q r s') pl.isList (by omega) (by rw [List.size_toArray] <;> omega) (by omega) (by rw [hj]; simpa using ew) ⟨rfl,fin⟩) hs
theorem ix_tup:IxR X (rIxT X.K):=by
 intro value slice pins s σ H x y v u Q I rx ry h hs
 obtain ⟨p,xs,i,z,rfl,rfl,hq,he,q⟩:=h
 cases rx
 obtain ⟨t,rfl⟩:=ry
 obtain ⟨its,r,pl,hz⟩:=I.tuple hq
 obtain ⟨j,h1,h2,h3,h4,h5⟩:=atI_get he
 obtain ⟨w,ew,rw'⟩:=r.get h2
 have hl:=r.length
 have hn:=line63
 have fin:EP X pins σ Q w s:=⟨z,H,I,rw',q⟩
 exact subscriptTail_builtinR (x:=w) pl.typeIs slot_tuple_getitem.lookup
  (getItem_tuple (j:=j) (Q:=fun r s'=>r=w∧EP X pins σ Q r s') pl (by omega) (by omega) (by rw [List.size_toArray,← hl]; exact h1) (by simpa using ew) ⟨rfl,fin⟩) hs
theorem ix_str:IxR X rIxS:=by
 intro value slice pins s σ H x y v u Q I rx ry h hs
 obtain ⟨z,i,c,rfl,rfl,hz,he,q⟩:=h
 obtain ⟨t,rfl⟩:=rx
 obtain ⟨t',rfl⟩:=ry
 obtain ⟨j,h1,h2,h3,h4,h5⟩:=atI_get he
 have hl:z.cps.toList.length=z.length:=by simp [Str.length]
 rw [hl] at h1 h4 h5
 have hn:=line63
 exact tail_any (typeIs_str s z t) slot_str_getitem.lookup (getItem_str (c:=c) (by
  have e1:decide (i < -(2 ^ 63:Int))=false:=decide_eq_false (by omega)
  have e2:decide (i ≥ 2 ^ 63)=false:=decide_eq_false (by omega)
  rw [e1,e2,Bool.or_false]) (by rw [h1]; simpa using h2) ⟨.str ⟨#[c]⟩,H,I.tok _,⟨_,rfl⟩,q⟩) hs
theorem mapSeq_set (its:List Value) (n j:Nat) (u:Value):Obj.mapSeq (·.setIfInBounds j u) { cls:=.type "list",data:=.seq its.toArray n }={ cls:=.type "list",data:=.seq (its.set j u).toArray n }:=by
 simp [Obj.mapSeq]
theorem Inv.lst {pins:List (Addr×Obj)} {σ:St} {H:Hp} {s:Shared} {p:Addr} {xs:List V} (I:Inv X pins σ H s) (h:H p=some (.lst xs)) :
  ∃ (its:List Value) (n:Nat),Vals xs its∧s.heap.get? p=some { cls:=.type "list",data:=.seq its.toArray n }∧xs.length≤sizeLine:=by
 obtain ⟨z,its,n,r,e⟩:=I.hok p _ h
 exact ⟨its,n,r,e,z⟩
theorem Inv.lstUpd {pins:List (Addr×Obj)} {σ:St} {H:Hp} {s:Shared} {p:Addr} {xs ys:List V} {its its':List Value} {n n':Nat} {f:Obj→Obj} (I:Inv X pins σ H s) (h:H p=some (.lst xs))
  (ho:s.heap.get? p=some { cls:=.type "list",data:=.seq its.toArray n }) (hf:f { cls:=.type "list",data:=.seq its.toArray n }={ cls:=.type "list",data:=.seq its'.toArray n' }) (r:Vals ys its') (hz:ys.length≤sizeLine) (t:Nat) :
  Inv X pins σ (upd H p (.lst ys)) { s with heap:=s.heap.update p f,toks:=t }:=by
 have e:(s.heap.update p f).get? p=some { cls:=.type "list",data:=.seq its'.toArray n' }:=by
  rw [Heap.get?_update_self f ho (by rw [hf] <;> rfl),hf]
 refine I.write (x:=p) (e:=p) (by rw [h]; trivial) (.inl rfl) (fun b u hb q=>(Heap.get?_update_other _ _ (Ne.symm hb)).trans q) ⟨_,e⟩ ?_
 exact ⟨hz,its',n',r,e⟩
noncomputable def rSetL:V→V→V→Hp→(Hp→Prop)→Prop:=fun o i v H Q=>∃ p xs k j,o=.ref p∧i=.int k∧H p=some (.lst xs)∧ixN xs.length k=some j∧Q (upd H p (.lst (xs.set j v)))
theorem set_list:PSet X rSetL:=by
 intro pins s σ H o i v ov iv u Q I ro ri rv h
 obtain ⟨p,xs,k,j,rfl,rfl,hp,hj,q⟩:=h
 cases ro
 obtain ⟨t,rfl⟩:=ri
 obtain ⟨its,n,r,ho,hz⟩:=I.lst hp
 obtain ⟨h1,h2,h3,h4⟩:=ixN_seq hj
 have hl:=r.length
 have hn:=line63
 have I':Inv X pins σ (upd H p (.lst (xs.set j v))) { s with heap:=s.heap.update p (Obj.mapSeq (·.setIfInBounds j u)) } :=
  I.lstUpd hp ho (mapSeq_set its n j u) (r.set rv j) (by rw [List.length_set]; exact hz) s.toks
 by_cases h0:0≤k
 ·have hk:k.toNat=j:=by
   rw [seqIndex_of h0 h4] at h1
   exact Option.some.inj h1
  exact PySem.W.ki_setAt ho h0 (by omega) (by rw [List.size_toArray,← hl]; exact h4) (by rw [hk]; exact ⟨_,I',q⟩)
 ·have hk:(k + (its.toArray.size:Int)).toNat=j:=by
   rw [seqIndex_neg (by omega) h3] at h1
   rw [List.size_toArray,← hl]
   exact Option.some.inj h1
  exact PySem.W.ki_setBack ho (by omega) (by rw [List.size_toArray,← hl]; exact h3) (by omega) (by rw [hk]; exact ⟨_,I',q⟩)
theorem slice_bounds (lo hi:Option Int) (n:Nat):(sliceBounds lo hi none n).1=((HT.sIx n 0 lo:Nat):Int)∧(sliceBounds lo hi none n).2.1=((HT.sIx n n hi:Nat):Int)∧(sliceBounds lo hi none n).2.2=1:=by
 refine ⟨?_,?_,rfl⟩
 ·cases lo with
  | none=>simp [sliceBounds,HT.sIx]
  | some i =>
   simp only [sliceBounds,HT.sIx,Option.getD_none,show (1:Int) > 0 by decide,if_true]
   by_cases h:i < 0
   ·simp only [h,if_true] <;> omega
   ·simp only [h,if_false] <;> omega
 ·cases hi with
  | none=>simp [sliceBounds,HT.sIx]
  | some i =>
   simp only [sliceBounds,HT.sIx,Option.getD_none,show (1:Int) > 0 by decide,if_true]
   by_cases h:i < 0
   ·simp only [h,if_true] <;> omega
   ·simp only [h,if_false] <;> omega
theorem slicePick_cut (its:List Value) (lo hi:Option Int):slicePick its.toArray lo hi none=((its.drop (HT.sIx its.length 0 lo)).take (HT.sIx its.length its.length hi - HT.sIx its.length 0 lo)).toArray:=by
 obtain ⟨h1,h2,h3⟩:=slice_bounds lo hi its.toArray.size
 unfold slicePick
 rw [h1,h2,h3]
 simp only [sliceRange_one,pick_run,List.size_toArray] <;> rfl
theorem call_len_seq:CallR X (.builtin "len") (fun xs H Q=>∃ p ys,xs=[.ref p]∧(SqL X.K H p ys∨SqT X.K H p ys)∧Q (.int ys.length) H):=by
 intro pins s σ H xs us Q I r h
 obtain ⟨p,ys,rfl,hq,q⟩:=h
 obtain ⟨u,rfl,rx⟩:=vals1 r
 cases rx
 have hn:=line63
 rcases hq with hq | hq
 ·obtain ⟨its,r',pl,hz⟩:=I.list hq
  have hlen:=r'.length
  exact Calls.call_len_list pl.isList (by simp only [List.size_toArray] <;> omega) ⟨.int ys.length,H,I.tok _,⟨s.toks + 1,by rw [List.size_toArray,hlen]⟩,q⟩
 ·obtain ⟨its,r',pl,hz⟩:=I.tuple hq
  have hlen:=r'.length
  exact len_tuple pl (by simp only [List.size_toArray] <;> omega) ⟨.int ys.length,H,I.tok _,⟨s.toks + 1,by rw [List.size_toArray,hlen]⟩,q⟩
theorem call_len_str:CallR X (.builtin "len") (fun xs H Q=>∃ z,xs=[.str z]∧z.length≤sizeLine∧Q (.int z.length) H):=by
 intro pins s σ H xs us Q I r h
 obtain ⟨z,rfl,hz,q⟩:=h
 obtain ⟨u,rfl,t,rfl⟩:=vals1 r
 have hn:=line63
 exact len_str (by omega) ⟨.int z.length,H,I.tok _,⟨_,rfl⟩,q⟩
theorem call_list_of:CallR X (.type "list") (fun xs H Q=>∃ p ys,xs=[.ref p]∧(SqL X.K H p ys∨SqT X.K H p ys)∧∀ l,H l=none→Q (.ref l) (upd H l (.lst ys))):=by
 intro pins s σ H xs us Q I r h
 obtain ⟨p,ys,rfl,hq,q⟩:=h
 obtain ⟨u,rfl,rx⟩:=vals1 r
 cases rx
 have fin:∀ (its:List Value),Vals ys its→ys.length≤sizeLine→∀ (h':Heap) (c':Nat),(∀ b o',s.heap.get? b=some o'→h'.get? b=some o') →
   h'.get? s.heap.objs.size=some { cls:=.type "list",dict:=none,data:=.seq its.toArray c',slots:=#[] }→EP X pins σ Q (.ref s.heap.objs.size) { s with heap:=h' }:=fun its r' hz h' c' kp e =>
  ⟨.ref s.heap.objs.size,_,I.laid (t':=s.toks) kp (Nat.le_refl _) (show ObjOk X.prog X.w _ h' _ (.lst ys) from ⟨hz,its,c',r',e⟩),rfl,q _ (I.hok.fresh (Nat.le_refl _))⟩
 rcases hq with hq | hq
 ·obtain ⟨its,r',pl,hz⟩:=I.list hq
  have hlen:=r'.length
  obtain ⟨o,ho,hc,n,hd⟩:=pl.isList
  exact call_list_seq p (.inl rfl) ho hc hd (fun h' c' kp e=>fin its r' hz h' c' kp e) (by simp only [List.size_toArray] <;> omega)
 ·obtain ⟨its,r',pl,hz⟩:=I.tuple hq
  have hlen:=r'.length
  obtain ⟨o,ho,hc,n,hd⟩:=pl
  exact call_list_seq p (.inr rfl) ho hc hd (fun h' c' kp e=>fin its r' hz h' c' kp e) (by simp only [List.size_toArray] <;> omega)
theorem call_tuple_of:CallR X (.type "tuple") (fun xs H Q=>∃ p ys,xs=[.ref p]∧((SqL X.K H p ys∧∀ l,H l=none→Q (.ref l) (upd H l (.tup ys)))∨(SqT X.K H p ys∧Q (.ref p) H))):=by
 intro pins s σ H xs us Q I r h
 obtain ⟨p,ys,rfl,h⟩:=h
 obtain ⟨u,rfl,rx⟩:=vals1 r
 cases rx
 rcases h with ⟨hq,q⟩ | ⟨hq,q⟩
 ·obtain ⟨its,r',pl,hz⟩:=I.list hq
  have hlen:=r'.length
  refine call_tuple_list pl.isList (fun h' kp=>?_) (by simp only [List.size_toArray] <;> omega)
  have I1:Inv X pins σ H { s with heap:=h' }:=I.kept (t':=s.toks) kp
  have I2:Inv X pins σ (upd H h'.objs.size (.tup ys)) { s with heap:=h'.push { cls:=.type "tuple",data:=.seq its.toArray } } :=
   I1.laid (t':=s.toks) (fun b o e=>Heap.get?_push_of_some _ e) (Nat.le_refl _) (show ObjOk X.prog X.w _ _ _ (.tup ys) from ⟨hz,its,r',IsTup.new _ _⟩)
  exact ⟨.ref h'.objs.size,_,I2,rfl,q _ (I1.hok.fresh (Nat.le_refl _))⟩
 ·obtain ⟨its,r',pl,hz⟩:=I.tuple hq
  exact call_tuple_same pl ⟨.ref p,H,I,rfl,q⟩
variable {o e:Expr} {es:List Expr} {to:TE} {t:TA} {name:Str} {apos cpos:Pos} {T id:String} {r:V→List V→Hp→VK→Prop}
/- xs.append(e),list.index on a module's tuple .. are MtR facts of 06m -/
end
end L2
namespace L2
open PySem PySem.Spec PyProof.Rows
noncomputable def MtM (X:Cx) (id:String) (r:V→List V→Hp→VK→Prop):Prop :=
 ∀ (pins:List (Addr×Obj)) (s:Shared) (σ:St) (H:Hp) (x:V) (xs:List V) (v:Value) (us:List Value) (Q:VK),Inv X pins σ H s→RelV x v→Vals xs us→r x xs H Q →
  wpAny (model X.prog X.w) X.A (call (.builtin id) (v :: us)) (EP X pins σ Q) X.xe s
theorem Vals.one:∀ {x:V} {us:List Value},Vals [x] us→∃ u,us=[u]∧RelV x u
 | _,_,.cons r .nil=>⟨_,rfl,r⟩
theorem Vals.two:∀ {x y:V} {us:List Value},Vals [x,y] us→∃ u v,us=[u,v]∧RelV x u∧RelV y v
 | _,_,_,.cons r (.cons q .nil)=>⟨_,_,rfl,r,q⟩
theorem Vals.zero:∀ {us:List Value},Vals [] us→us=[]
 | _,.nil=>rfl
theorem Vals.eraseIdx:∀ {xs:List V} {us:List Value} (i:Nat),Vals xs us→Vals (xs.eraseIdx i) (us.eraseIdx i)
 | _,_,_,.nil=>.nil
 | _,_,0,.cons _ t=>t
 | _,_,i + 1,.cons r t=>.cons r (Vals.eraseIdx i t)
theorem Vals.reverse {xs:List V} {us:List Value} (h:Vals xs us):Vals xs.reverse us.reverse:=by
 induction h with
 | nil=>exact .nil
 | cons r t ih=>rw [List.reverse_cons,List.reverse_cons]; exact Vals.append ih (.cons r .nil)
theorem Vals.rep {xs:List V} {us:List Value} (h:Vals xs us):∀ k:Nat,Vals (List.replicate k xs).flatten (List.replicate k us).flatten
 | 0=>.nil
 | k + 1=>by
  rw [List.replicate_succ,List.replicate_succ,List.flatten_cons,List.flatten_cons]
  exact Vals.append h (Vals.rep h k)
theorem foldl_rep (its:List Value):∀ (k:Nat) (acc:List Value),
  List.foldl (fun x1 x2=>x1++x2) acc.toArray (List.replicate k its.toArray)=(acc++(List.replicate k its).flatten).toArray
 | 0,acc=>by simp
 | k + 1,acc=>by
  have e:acc.toArray++its.toArray=(acc++its).toArray:=by simp
  have e2:(acc++its)++(List.replicate k its).flatten=acc++(List.replicate (k + 1) its).flatten:=by
   rw [List.replicate_succ,List.flatten_cons,List.append_assoc]
  rw [← e2,← foldl_rep its k (acc++its),← e,List.replicate_succ,List.foldl_cons]
section
variable {X:Cx} {pins:List (Addr×Obj)} {σ:St} {H:Hp} {s:Shared} {l b:Addr} {xs ys zs:List V}
theorem Inv.lset {its its':List Value} {n:Nat} {f:Array Value→Array Value} {t':Nat} (I:Inv X pins σ H s) (hH:H l=some (.lst xs))
  (e:s.heap.get? l=some { cls:=.type "list",data:=.seq its.toArray n }) (hf:f its.toArray=its'.toArray) (hv:Vals ys its') (hz:ys.length≤sizeLine) :
  Inv X pins σ (upd H l (.lst ys)) { s with heap:=s.heap.update l (Obj.mapSeq f),toks:=t' }:=by
 have q:=PySem.IsL.update e f
 rw [hf] at q
 refine I.write (x:=l) (e:=l) (by rw [hH]; exact trivial) (.inl rfl) (fun b' u hb hu=>(Heap.get?_update_other s.heap (Obj.mapSeq f) (Ne.symm hb)).trans hu) ⟨_,q⟩ ?_
 exact ⟨hz,its',_,hv,q⟩
theorem Inv.lnew {its:List Value} {t':Nat} (I:Inv X pins σ H s) (hv:Vals ys its) (hz:ys.length≤sizeLine) :
  Inv X pins σ (upd H s.heap.objs.size (.lst ys)) { s with heap:=s.heap.push { cls:=.type "list",data:=.seq its.toArray },toks:=t' } :=
 I.laid (fun _ _ q=>Heap.get?_push_of_some _ q) (Nat.le_refl _) ⟨hz,its,0,hv,Heap.get?_push_size _ rfl⟩
theorem Inv.fresh (I:Inv X pins σ H s):H s.heap.objs.size=none:=I.hok.fresh (Nat.le_refl _)
theorem Inv.lstM (I:Inv X pins σ H s) (hH:H l=some (.lst xs)):xs.length≤sizeLine∧∃ (its:List Value) (n:Nat),Vals xs its∧xs.length=its.length∧s.heap.get? l=some { cls:=.type "list",data:=.seq its.toArray n }:=by
 obtain ⟨z,its,n,r,e⟩:=I.hok l _ hH
 exact ⟨z,its,n,r,r.length,e⟩
theorem notLongL {n:Nat} (h:n≤sizeLine):Builtin.List.listTooLong n=false:=by
 unfold Builtin.List.listTooLong
 exact decide_eq_false (by omega)
end
section
variable {X:Cx}
noncomputable def rAppend:V→List V→Hp→VK→Prop:=fun x vs H Q=>∃ l xs y,x=.ref l∧vs=[y]∧H l=some (.lst xs)∧xs.length < sizeLine∧Q .non (upd H l (.lst (xs++[y])))
theorem mt_append:MtM X "list.append" rAppend:=by
 intro pins s σ H x vs v us Q I rx rv h
 obtain ⟨l,xs,y,rfl,rfl,hH,hz,q⟩:=h
 cases rx
 obtain ⟨u,rfl,ru⟩:=rv.one
 obtain ⟨z,its,n,r,hl,e⟩:=I.lstM hH
 refine call_meets F.slot_list_append ⟨_,e,rfl⟩ F.entry_list_append (F.args_list_append_2 _ _) (PySem.list_append l its.toArray n u (by rw [List.size_toArray]; omega)) ⟨e,?_⟩
 refine ⟨.non,_,I.lset (its':=its++[u]) hH e (by simp) (r.append (.cons ru .nil)) ?_,rfl,q⟩
 rw [List.length_append,List.length_singleton]
 omega
noncomputable def rCat:R2:=fun x y H Q=>∃ l b xs zs,x=.ref l∧y=.ref b∧H l=some (.lst xs)∧H b=some (.lst zs)∧xs.length + zs.length≤sizeLine∧∀ p,H p=none→Q (.ref p) (upd H p (.lst (xs++zs)))
theorem op_cat:OpR X (binaryOp .Add) rCat:=by
 intro pins s σ H x y v u Q I rx ry h
 obtain ⟨l,b,xs,zs,rfl,rfl,hH,hB,hz,q⟩:=h
 cases rx
 cases ry
 obtain ⟨z,its,n,r,hl,e⟩:=I.lstM hH
 obtain ⟨z2,its2,n2,r2,hl2,e2⟩:=I.lstM hB
 refine PySem.P.add_list e e2 ?_ (by rw [List.size_toArray,List.size_toArray]; omega)
 have ea:its.toArray++its2.toArray=(its++its2).toArray:=by simp
 rw [ea]
 exact ⟨.ref _,_,I.lnew (t':=s.toks) (r.append r2) (by rw [List.length_append]; omega),rfl,q _ I.fresh⟩
noncomputable def rRep:R2:=fun x y H Q=>∃ l k xs,x=.ref l∧y=.int k∧H l=some (.lst xs)∧-(2 ^ 63)≤k∧k < 2 ^ 63∧xs.length * k.toNat≤sizeLine ∧
 ∀ p,H p=none→Q (.ref p) (upd H p (.lst (List.replicate k.toNat xs).flatten))
theorem len_rep {α:Type} (xs:List α) (k:Nat):(List.replicate k xs).flatten.length=k * xs.length:=by
 induction k with
 | zero=>simp
 | succ k ih=>rw [List.replicate_succ,List.flatten_cons,List.length_append,ih,Nat.succ_mul,Nat.add_comm]
theorem op_rep:OpR X (binaryOp .Mult) rRep:=by
 intro pins s σ H x y v u Q I rx ry h
 obtain ⟨l,k,xs,rfl,rfl,hH,h1,h2,hz,q⟩:=h
 cases rx
 obtain ⟨t,rfl⟩:=ry
 obtain ⟨z,its,n,r,hl,e⟩:=I.lstM hH
 have hlen:its.toArray.size * k.toNat≤sizeLine:=by rw [List.size_toArray,← hl]; exact hz
 have hcap:¬ its.toArray.size * k.toNat > (2 ^ 63 - 1) / 8:=by
  have:(sizeLine:Nat)≤(2 ^ 63 - 1) / 8:=by decide
  omega
 have hfit:¬ (!Builtin.List.listFitsIndex k)=true:=by
  rw [fitsIndex_both h1 h2]
  exact Bool.false_ne_true
 have hlong:¬ Builtin.List.listTooLong (its.toArray.size * k.toNat)=true:=by
  rw [notLongL hlen]
  exact Bool.false_ne_true
 have hnew:List.foldl (fun x1 x2=>x1++x2) #[] (List.replicate (if its.toArray.isEmpty=true then 0 else k.toNat) its.toArray)=(List.replicate k.toNat its).flatten.toArray:=by
  have f0:∀ m:Nat,List.foldl (fun x1 x2=>x1++x2) #[] (List.replicate m its.toArray)=(List.replicate m its).flatten.toArray:=fun m=>by
   have:=foldl_rep its m []
   rw [List.nil_append] at this
   exact this
  rw [f0]
  cases its with
  | nil=>simp
  | cons a r'=>rw [if_neg (by simp)]
 refine wpAny_binaryOp_repeat_ref (T := "list") (U := "int") (by decide) ⟨_,e,rfl⟩ (fun s'=>typeIs_int s' k t) noFill_list_mul F.fills_int_mul F.slot_int_rmul repeat_list F.slot_int_index.lookup
  (call_meets F.slot_int_rmul (typeIs_int s k t) F.entry_int_rmul (F.args_int_rmul_2 _ _) (int___rmul___int_list k t l its.toArray n)
   ⟨e,rfl,⟨_,e,rfl⟩,call_meets F.slot_list_mul ⟨_,e,rfl⟩ F.entry_list_mul (F.args_list_mul_2 _ _) (AutoListH.list___mul___list_int_3 l its.toArray n k t hfit hcap hlong) ⟨e,?_⟩⟩)
 rw [hnew]
 exact ⟨.ref _,_,I.lnew (t':=s.toks) (r.rep k.toNat) (by rw [len_rep,Nat.mul_comm]; exact hz),rfl,q _ I.fresh⟩
end
section
variable {prog:Program} {w:World} {A:Around} {E:Value→Shared→Prop} {s:Shared}
end
section
variable {X:Cx}
end
end L2
namespace Att
open PySem PySem.W PySem.Calls PyProof.Rows
theorem ints_of_wellAll {P:Params} {h:Heap}:∀ (ns:List Int) (vs:List Value),WellAll P h vs (ns.map WData.int)→IntsAre vs ns:=by
 intro ns
 induction ns with
 | nil =>
  intro vs w
  rw [List.map_nil] at w
  cases w
  exact .nil
 | cons n ns ih =>
  intro vs w
  rw [List.map_cons] at w
  cases w with
  | cons a b =>
   cases a
   exact .cons _ _ (ih _ b)
theorem script_of {l:OpenLaw} {n:Nat} (hn:l.most=some n) {P:Params} {h:Heap} {args:List WData} {vals:List Value}
  (hpre:l.row.toRowW.claim.pre args=true) (hwl:WellAll P h vals args) :
  ∃ a vs ns,vals=[Value.ref a]∧args=[WData.list (ns.map WData.int)]∧h.get? a=some { cls:=.type "list",data:=.seq vs.toArray }∧IntsAre vs ns∧ns.length≤n:=by
 have hsh:WShape.hasAll [] args [.list .int]=true:=(pre_splitW hpre).1
 have hc:l.pre.holds [] { args:=args }=true:=(pre_splitW hpre).2
 obtain ⟨d,r,rfl,h1,h2⟩:=hasAllW_cons hsh
 obtain rfl:=hasAllW_nil h2
 obtain ⟨xs,rfl,h3⟩:=hasW_list h1
 obtain ⟨ns,rfl⟩:=items_int h3
 have hlen:ns.length≤n:=by
  unfold OpenLaw.pre at hc
  have h4:(WTm.not (.lt (.lit (.int (n:Int))) (.len (.arg 0)))).holds [] { args:=[.list (ns.map .int)] }=true:=by
   have h4:=(holds_andW hc).1
   rw [hn] at h4
   exact h4
  have h5:=condW_of h4 (w_not (w_lt w_lit (w_len_list (w_arg rfl))))
  rw [List.length_map] at h5
  refine Nat.le_of_not_lt fun q=>?_
  have q':(n:Int) < ((ns.length:Nat):Int):=by omega
  first
   | (rw [decide_eq_true q'] at h5; exact absurd h5 (by decide))
   | (simp at h5; omega)
 cases hwl with
 | cons w1 w2 =>
  cases w2
  cases w1 with
  | list ho hall=>exact ⟨_,_,ns,rfl,rfl,ho,ints_of_wellAll ns _ hall,hlen⟩
theorem post_true (l:OpenLaw) (args:List WData):l.row.toRowW.claim.post args (.bool true) args=true :=
 postW_of (r:=l.row.toRowW) (X:=(true == true))
  (show WShape.has [] (.bool true) .bool=true by first | rfl | decide | simp [WShape.has,WShape.arms,WShape.armsAll])
  (show (WTm.eq .res (.lit (.bool true))).value [] { args:=args,res:=some (.bool true),after:=args }=some (.bool (true == true)) from w_eq_bool (w_res rfl) w_lit) rfl
theorem attach_call {l:OpenLaw} {n:Nat} {q:Program} {loose:List Str} {XP:(Str→Option Value)→Heap→Prop} {YP:World→Heap→Prop} {d:DefRec}
  (hn:l.most=some n) (hdf:d.params.defaults=[])
  (call:∀ (w:World) (s₀ s₁:Shared) (mg mb:Str→Option Value) (fa:Addr) (o:Obj) (pm cd doc:Value) (a:Addr) (vs:List Value) (ns:List Int),
   Ground q loose [] XP w s₀ mg mb s₁.heap→YP w s₁.heap →
   s₁.heap.get? fa=some o→o.data=.func (docDef d.name d.params d.body d.scope pm cd doc)→s₁.heap.CodeRec cd d.name→mg d.name=some (.ref fa) →
   s₁.heap.get? a=some { cls:=.type "list",data:=.seq vs.toArray }→IntsAre vs ns→ns.length≤n→s₁.gens=#[] →
   codeAny (model l.prog w) callerA (.call (.ref fa) ⟨[.ref a],[]⟩) (fun r s'=>r=.ok (.ret (.bool true))∧OldK s₁.heap s'.heap∧s'.os=s₁.os∧AllBare s'.gens) s₁) :
  WalkO q loose XP YP l.row.toRowW d [] (fun f vs=>PySem.call f vs):=by
 intro w s₀ s₁ mg mb G Y fa o pm cd doc dV kV ho hd hcd hD hmg hg args vals as hpre hlay hrd hwl hlo
 obtain rfl:dV=.none:=Dflts.none hD hdf
 obtain rfl:kV=.none:=Dflts.noKw hD
 obtain ⟨a,vs,ns,rfl,rfl,hobj,hints,hlen⟩:=script_of hn hpre hwl
 refine enter_call (codeAny_mono (call w s₀ s₁ mg mb fa o pm cd doc a vs ns G Y ho (fd_plain hd) hcd hmg hobj hints hlen hg) fun r s' hq=>?_)
 obtain ⟨rfl,h2,h3,h4⟩:=hq
 exact ⟨.inl ⟨.bool true,.bool true,[],rfl,fun _=>rfl,.bool true,post_true l _,fun _=>⟨List.Pairwise.nil,fun _ hm=>(nomatch hm)⟩⟩,h2,h3,h4⟩
section
variable {prog:Program} {w:World} {A:Around} {E:Value→Shared→Prop} {s:Shared} {K:Frag}
end
end Att
namespace L2
open PySem PySem.Spec PyProof.Rows
theorem vals_ints:∀ {vs:List Value} {ns:List Int},IntsAre vs ns→Vals (ns.map V.int) vs
 | _,_,.nil=>.nil
 | _,_,.cons n t h=>.cons ⟨t,rfl⟩ (vals_ints h)
noncomputable def Only (H:Hp):Prop:=∀ b,H b=none∨∃ o xs,H b=some (.frz o (.lst xs))
theorem law_call {P:Program} {w:World} {K:PySem.W.Frag} {mg mb:Str→Option Value} {CX:CXT} {k:Nat} {fa a:Addr} {fd:FuncData} {x:Str} {sp:Sp} {s₁:Shared} {vs:List Value} {ns:List Int}
  (KX:K.In s₁.heap) (hns:s₁.heap.Ns mainGlobals mg) (hb:s₁.heap.Ns builtinsNs mb) (hbb:∀ x:Str,x ≠ "__name__" → mb x=bootBuiltins x) (hlim:s₁.heap.NoLimit) (hg:s₁.gens=#[])
  (ha:s₁.heap.get? a=some { cls:=.type "list",data:=.seq vs.toArray }) (hi:IntsAre vs ns) (hl:ns.length≤sizeLine) (hr:Room k callerA)
  (F:∀ base:Heap,K.In base→base.Ns mainGlobals mg→FnOk P w K mg base CX k fa fd [x] sp) (hbind:∀ (s:Shared) (u:Value),BindsTo s fd ⟨[u],[]⟩ [(x,u)])
  (hsp:∀ H:Hp,Only H→SqL K H a (ns.map V.int)→sp [.ref a] H (fun v _=>v=.bl true) fun _ _ _=>False)
  (hCX:∀ H e s',CX [] H s₁ (fun _ _ _=>False) e s'→False) :
  codeAny (model P w) callerA (.call (.ref fa) ⟨[.ref a],[]⟩) (fun r s'=>r=.ok (.ret (.bool true))∧OldK s₁.heap s'.heap∧s'.os=s₁.os∧AllBare s'.gens) s₁:=by
 have rv:=vals_ints hi
 have lenV:=hi.length
 have core:∀ H:Hp,Only H→SqL K H a (ns.map V.int)→HOk P w H s₁.heap→(∀ b,H b≠none→b=a)→(H a≠none→K.lookup a=none) →
   codeAny (model P w) callerA (.call (.ref fa) ⟨[.ref a],[]⟩) (fun r s'=>r=.ok (.ret (.bool true))∧OldK s₁.heap s'.heap∧s'.os=s₁.os∧AllBare s'.gens) s₁:=by
  intro H hO hS hok hA hK
  have base_of:∀ {b:Addr} {o:Obj},s₁.heap.get? b=some o→H b=none→(hidT s₁.heap H).get? b=some o:=fun e n=>hidT_get e n
  have noA:∀ {b:Addr} {o:Obj} {es:Array DictEntry} {ep:Nat},s₁.heap.get? b=some o→o.data=.dict es ep→H b=none:=fun {b o es ep} e d=>by
   cases q:H b with
   | none=>rfl
   | some u =>
    have e':b=a:=hA b (by rw [q]; simp)
    subst e'
    rw [ha] at e; cases e
    have d':Data.seq vs.toArray _=Data.dict es ep:=d
    cases d'
  have nsK:∀ {b:Addr} {m:Str→Option Value},s₁.heap.Ns b m→(hidT s₁.heap H).Ns b m:=fun {b m} ⟨o,es,ep,e,d,r⟩=>⟨o,es,ep,base_of e (noA e d),d,r⟩
  have hKb:K.In (hidT s₁.heap H):=fun b o e=>base_of (KX b o e) (by
   cases q:H b with
   | none=>rfl
   | some u =>
    have e':b=a:=hA b (by rw [q]; simp)
    subst e'
    rw [hK (by rw [q]; simp)] at e; cases e)
  have hM:Mod K mg (hidT s₁.heap H):=⟨hKb,nsK hns,⟨mb,nsK hb,hbb⟩,let ⟨mc,h1,h2⟩:=hlim; ⟨mc,nsK h1,h2⟩⟩
  have e0:Env0 P w K mg (hidT s₁.heap H) callerA [] s₁ H:=⟨rfl,hM,fun b o e=>of_hidT e,Nat.le_of_eq (hidT_size _ _),trivial,fun b hb=>absurd (show b∈([]:List Addr) from hb) (by simp),hok,.of_eq hg⟩
  refine codeAny_mono ((F _ hKb (nsK hns)).run callerA [] s₁ H ⟨[.ref a],[]⟩ [.ref a] [.ref a] _ _ hr e0 (hbind s₁ (.ref a)) (.cons rfl .nil) (hsp H hO hS)) fun r s' h=>?_
  cases r with
  | error e=>exact (hCX H e s' h).elim
  | ok fl =>
   cases fl with
   | next=>exact False.elim h
   | brk=>exact False.elim h
   | cont=>exact False.elim h
   | ret u =>
    obtain ⟨v,H',os,bare,un,hok',r',q⟩:=h
    have q':v=.bl true:=q
    subst q'
    obtain rfl:u=Value.bool true:=r'
    refine ⟨rfl,OldK.of_keep fun b o e=>?_,os,bare⟩
    cases q:H b with
    | none=>exact un.keep b o e q (by intro z; exact absurd (show b∈([]:List Addr) from z) (by simp)) (by simp)
    | some u =>
     rcases hO b with z | ⟨ob,xs,z⟩
     ·rw [q] at z; cases z
     ·have z2:=un.frzs b ob _ z
      obtain ⟨e1,_⟩:=hok b _ z
      obtain ⟨e2,_⟩:=hok' b _ z2
      rw [e] at e1; cases e1
      exact e2
 cases hk:K.lookup a with
 | some o =>
  have e:=KX a o hk
  rw [ha] at e
  cases e
  refine core (fun _=>none) (fun _=>.inl rfl) (.inr ⟨_,vs.toArray,_,hk,rfl,rfl,rfl,by rw [List.size_toArray,lenV]; exact hl,by simpa using rv⟩) (fun b u z=>by have z':(none:Option HO)=some u:=z; cases z') (fun b z=>absurd rfl z) fun z=>absurd rfl z
 | none =>
  refine core (fun b=>if b=a then some (.frz { cls:=.type "list",data:=.seq vs.toArray } (.lst (ns.map V.int))) else none) (fun b=>?_) (.inl (.inr ⟨{ cls:=.type "list",data:=.seq vs.toArray },if_pos rfl⟩)) (fun b u z=>?_) (fun b z=>?_) fun _=>hk
  ·by_cases hb:b=a
   ·exact .inr ⟨_,_,if_pos hb⟩
   ·exact .inl (if_neg hb)
  ·by_cases hb:b=a
   ·have z':=(if_pos hb).symm.trans z
    cases z'
    subst hb
    exact ⟨ha,by rw [List.length_map]; exact hl,vs,_,rv,ha⟩
   ·have z':=(if_neg hb).symm.trans z
    cases z'
  ·by_cases hb:b=a
   ·exact hb
   ·exact absurd (if_neg hb) z
end L2
namespace L2
open PySem PySem.Spec PyProof.Rows
theorem walk_of {l:PySem.W.OpenLaw} {n k:Nat} {q:Program} {loose:List Str} {XP:(Str→Option Value)→Heap→Prop} {YP:World→Heap→Prop} {d:DefRec} {K:Params→PySem.W.Frag} {CX:World→CXT} {sp:World→Sp} {x:Str}
  (hn:l.most=some n) (hn2:n≤sizeLine) (hdf:d.params.defaults=[]) (hr:Room k callerA)
  (hY:∀ (w:World) (h:Heap),YP w h→(K w.params).In h)
  (F:∀ (w:World) (mg:Str→Option Value) (fa:Addr) (h:Heap),(K w.params).In h→h.Ns mainGlobals mg→mg d.name=some (.ref fa) →
   ∃ fd:FuncData,(∀ (s:Shared) (u:Value),BindsTo s fd ⟨[u],[]⟩ [(x,u)]) ∧
    ∀ base:Heap,(K w.params).In base→base.Ns mainGlobals mg→FnOk l.prog w (K w.params) mg base (CX w) k fa fd [x] (sp w))
  (hsp:∀ (w:World) (H:Hp) (a:Addr) (ns:List Int),ns.length≤n→Only H→SqL (K w.params) H a (ns.map V.int)→sp w [.ref a] H (fun v _=>v=.bl true) fun _ _ _=>False)
  (hCX:∀ (w:World) (H:Hp) (s:Shared) (e:Value) (s':Shared),CX w [] H s (fun _ _ _=>False) e s'→False) :
  PySem.W.WalkO q loose XP YP l.row.toRowW d [] (fun f vs=>PySem.call f vs):=by
 refine Att.attach_call hn hdf fun w s₀ s₁ mg mb fa o pm cd doc a vs ns G Y ho hd hcd hmg hobj hints hlen hg=>?_
 have KX:=hY w _ Y
 obtain ⟨fd,hb,hF⟩:=F w mg fa _ KX G.T.g hmg
 exact law_call KX G.T.g G.T.b G.T.builtins G.T.nolimit hg hobj hints (Nat.le_trans hlen hn2) hr hF hb (fun H hO hS=>hsp w H a ns hlen hO hS) fun H e s'=>hCX w H s₁ e s'
end L2
/- THE LAST THEOREM (shape; LID,My.* are yours):
   My.Adr: a structure of the addresses that your layer names (classes,functions); My.Txt K t: a structure (Prop) of the equations over K;
   My.txt_mk:{K} {implicit addresses ..} (e1:nsIn K mainGlobals "law" = some (some (.ref f))) (e2:K.lookup f=some ⟨oc,od,.func (fnOf "law" "law" params body scope dV kV doc pm an cdv ct),sl⟩) (e3:codeIn K cdv "law" = true) ..:∃ t,My.Txt K t
set_option maxRecDepth 100000 in
set_option maxHeartbeats 0 in
theorem PySem.Challenge.cw_LID_holds : PySem.Challenge.rw_LID.Holds := by
 w_on; o_law; k_head; (case hw=>w_witness2)
 k_fill
 refine L2.walk_of (l:=PySem.Challenge.rw_LID) (n:=63) (k:=40) (x := "script") (CX:=fun w=>..) (sp:=fun _=>My.sp_law) rfl (by decide) rfl ⟨rfl,by decide,by decide⟩ (fun w h Y=>PySem.W.kIn_of Y) ?F ?S ?C
 case F =>
  intro w mg fa h KX G hmg
  have T:∃ t,My.Txt (L2.KOf KX) t:=by
   dsimp only [L2.KOf]                          -- K must stand as «<heap const> w.params» for k_is
   refine' My.txt_mk ?e1 ?e2 ?e3 ..
   (case e1=>PySem.W.k_is)                    -- in the order: a name -> its address -> its object -> its parts
   (case e2=>PySem.W.k_is)
   ..
  obtain ⟨t,T⟩:=T
  have e0:=hmg.symm.trans (PySem.W.mg_of KX G T.law)
  cases e0                                       -- fa is the law's own address
  exact ⟨_,fun s u=>.of_eq rfl,fun base kb nb=>My.law_fn T kb nb⟩     -- if «.of_eq rfl» comes too early: refine' ⟨_,?b,fun base kb nb=>My.law_fn T kb nb⟩; exact fun s u=>.of_eq rfl
 case S=>exact fun w H a ns hl hO hS=>..
 case C=>exact ..
(the tactic k_is has no namespace: write k_is) -/
namespace L2
open PySem PySem.Spec PyProof.Rows
noncomputable def defArgs (s:Stmt):Arguments:=match s with
 | .FunctionDef _ a _ _ _ _ _ _ _ _=>a
 | _=>{ posonlyargs:=[],args:=[],vararg:=none,kwonlyargs:=[],kw_defaults:=[],kwarg:=none,defaults:=[] }
noncomputable def defBody (s:Stmt):List Stmt:=match s with
 | .FunctionDef _ _ b _ _ _ _ _ _ _=>b
 | _=>[]
noncomputable def defScope (s:Stmt):Scope:=match s with
 | .FunctionDef _ _ _ _ _ _ sc _ _ _=>sc
 | _=>{ kind:=.function,names:=[],isGenerator:=false,isCoroutine:=false }
structure Fun (K:PySem.W.Frag) (x qual:Str) (st:Stmt) (f:Addr) (fd:FuncData):Prop where
 ex:∃ (oc:Value) (od:Option Addr) (kV doc pm:Value) (an:Option Addr) (cdv ct:Value) (osl:Array (Option Value)),
  fd=PySem.W.fnOf x qual (defArgs st) (defBody st) (defScope st) .none kV doc pm an cdv ct∧K.lookup f=some ⟨oc,od,.func fd,osl⟩∧PySem.W.codeIn K cdv qual=true
 kp:PySem.W.keepIn K (.ref f)=true
section
variable {P:Program} {w:World} {K:PySem.W.Frag} {mg:Str→Option Value} {base:Heap}
theorem Fun.binds {x qual:Str} {st:Stmt} {f:Addr} {fd:FuncData} {ps:List Str} (F:Fun K x qual st f fd)
  (h:∀ (kV doc pm:Value) (an:Option Addr) (cdv ct:Value) (us:List Value),us.length=ps.length→bindArgs (PySem.W.fnOf x qual (defArgs st) (defBody st) (defScope st) .none kV doc pm an cdv ct) ⟨us,[]⟩=pure (ps.zip us)):Binds K fd ps []:=by
 obtain ⟨oc,od,kV,doc,pm,an,cdv,ct,osl,rfl,lk,hcd⟩:=F.ex
 exact .all (h kV doc pm an cdv ct)
theorem fun_mk {x qual:Str} {st:Stmt} {f:Addr} {oc:Value} {od an:Option Addr} {osl:Array (Option Value)} {kV doc pm cdv ct:Value} (l:K.lookup f=some ⟨oc,od,.func (PySem.W.fnOf x qual (defArgs st) (defBody st) (defScope st) .none kV doc pm an cdv ct),osl⟩)
  (c:PySem.W.codeIn K cdv qual=true) (k:PySem.W.keepIn K (.ref f)=true):Fun K x qual st f (PySem.W.fnOf x qual (defArgs st) (defBody st) (defScope st) .none kV doc pm an cdv ct):=⟨⟨oc,od,kV,doc,pm,an,cdv,ct,osl,rfl,l,c⟩,k⟩
end
section
variable {X:Cx}
end
noncomputable def Same (H H':Hp):Prop:=∀ b o,H b=some o→H' b=some o
theorem Same.refl (H:Hp):Same H H:=fun _ _ h=>h
theorem Same.trans {H H1 H2:Hp} (a:Same H H1) (b:Same H1 H2):Same H H2:=fun c o h=>b c o (a c o h)
theorem Same.free {H H':Hp} (e:Same H H') {l:Addr} (h:H' l=Option.none):H l=Option.none:=by
 cases q:H l with
 | none=>rfl
 | some o =>
  rw [e l o q] at h
  cases h
theorem Same.seq {K:PySem.W.Frag} {H H':Hp} {a:Addr} {xs:List V} (e:Same H H') (h:SqL K H a xs):SqL K H' a xs:=by
 rcases h with (h | ⟨o,h⟩) | h
 ·exact .inl (.inl (e _ _ h))
 ·exact .inl (.inr ⟨o,e _ _ h⟩)
 ·exact .inr h
end L2
end
section
namespace Z
open PySem PyProof.Rows
inductive D where
 | non | bl (b:Bool) | int (i:Int) | str (x:Str) | tup (xs:List D) | ref (n:Nat) | fro (xs:List D) | fn (f:Nat) (nm:Str)
 deriving Inhabited
inductive O where
 | lst (xs:List D) | set (xs:List D) | dct (kvs:List (D×D)) | exc (c:Nat)
noncomputable abbrev Sto:=List O
noncomputable abbrev En:=List (Option D)
inductive R (α:Type) where
 | ok (a:α) (S:Sto) | ex (n:Nat) (S:Sto) | bad
noncomputable def R.bind {α β:Type}:R α→(α→Sto→R β)→R β
 | .ok a S,f=>f a S
 | .ex n S,_=>.ex n S
 | .bad,_=>.bad
@[simp] theorem R.bind_ok {α β:Type} (a:α) (S:Sto) (f:α→Sto→R β):(R.ok a S).bind f=f a S:=rfl
@[simp] theorem R.bind_bad {α β:Type} (f:α→Sto→R β):(R.bad:R α).bind f=.bad:=rfl
noncomputable def big:Nat:=1000000
inductive Bo where | add | sub | mul | fdiv | mod | pow
 deriving DecidableEq
inductive Co where | eq | ne | lt | le | gt | ge | isin | notin | is | isnot
 deriving DecidableEq
inductive Ty where | int | bool | str | tuple | list | dict | cls (c:Nat) | valueError
 deriving DecidableEq
inductive Bl where | len | min | max | sum | sorted | all | any | tuple | list | set | str | repr | abs | int
 deriving DecidableEq
inductive Mt where | append | extend | pop | index | count | join | split | add
 deriving DecidableEq
inductive Tg where
 | var (i:Nat)
 | tup (is:List Nat)
mutual
inductive Ex where
 | nev
 | var (i:Nat)
 | cst (d:D)
 | neg (a:Ex)
 | glb (k:Nat)
 | tup (es:Exs)
 | lst (es:Exs)
 | bin (op:Bo) (a b:Ex)
 | cmp (op:Co) (a b:Ex)
 | chn (o1 o2:Co) (a b c:Ex)
 | and (a b:Ex)
 | or (a b:Ex)
 | not (a:Ex)
 | ite (c a b:Ex)
 | idx (a i:Ex)
 | sli (a:Ex) (lo hi:Op)
 | rev (a:Ex)
 | call (f:Nat) (es:Exs)
 | cal (e:Ex) (es:Exs)
 | blt (k:Bl) (es:Exs)
 | mth (k:Mt) (o:Ex) (es:Exs)
 | isi (a:Ex) (ts:List Ty)
 | cmr (k:Bool) (n:Nat) (gs:Gens) (elt:Ex)
inductive Op where
 | none | some (e:Ex)
inductive Exs where
 | nil | cons (e:Ex) (es:Exs)
inductive Gens where
 | nil | cons (t:Tg) (it:It) (ifs:Exs) (gs:Gens)
inductive It where
 | val (e:Ex) | rng (es:Exs) | zip (es:Exs) | enm (es:Exs)
end
mutual
inductive St where
 | nev
 | asg (t:Tg) (e:Ex)
 | par (is:List Nat) (es:Exs)
 | unp (is:List Nat) (e:Ex)
 | aset (o i e:Ex)
 | aug (i:Nat) (op:Bo) (e:Ex)
 | expr (e:Ex)
 | ret (e:Ex)
 | ite (c:Ex) (a b:Sts)
 | for (t:Tg) (it:It) (b:Sts)
 | whl (c:Ex) (b:Sts)
 | rse (c:Nat) (e:Ex)
 | try (b:Sts) (c:Nat) (x:Nat) (h:Sts)
 | pass
 | brk
 | cnt
inductive Sts where
 | nil | cons (s:St) (ss:Sts)
end
inductive Fl where
 | nx (e:En) | brk (e:En) | cnt (e:En) | rt (d:D)
noncomputable def lstAt (S:Sto) (n:Nat):Option (List D) :=
 match S[n]? with
 | some (.lst xs)=>some xs
 | _=>none
noncomputable def lstM (S:Sto) (n:Nat):Option (List D) :=
 match S[n]? with
 | some (.lst xs)=>some xs
 | _=>none
noncomputable def i2 (b:Bool):Int:=if b then 1 else 0
mutual
noncomputable def datF (look:Nat→Option PyData):D→Option PyData
 | .non=>some .none
 | .bl b=>some (.bool b)
 | .int i=>some (.int i)
 | .str x=>some (.str x)
 | .tup xs=>(datFs look xs).map PyData.tuple
 | .fro _=>none
 | .fn _ _=>none
 | .ref n=>look n
noncomputable def datFs (look:Nat→Option PyData):List D→Option (List PyData)
 | []=>some []
 | x :: xs=>match datF look x,datFs look xs with
  | some p,some ps=>some (p :: ps)
  | _,_=>none
end
noncomputable def lookK (S:Sto):Nat→Nat→Option PyData
 | 0,_=>none
 | k + 1,n=>match S[n]? with
  | some (.lst xs)=>(datFs (lookK S k) xs).map PyData.list
  | some (.dct [])=>some (.dict [])
  | _=>none
noncomputable def datD (S:Sto) (d:D):Option PyData:=datF (lookK S 4) d
noncomputable def twoS (x y:D):Option Bool:=match x with
 | .str a=>(match y with
  | .str b=>some (a.cps.toList == b.cps.toList)
  | _=>none)
 | _=>none
noncomputable def lenS (S:Sto) (x y:D):Option Bool:=match x with
 | .ref a=>(match y with
  | .ref b=>(match lstAt S a,lstAt S b with
   | some xs,some ys=>if xs.length=ys.length then none else some false
   | _,_=>none)
  | _=>none)
 | _=>none
noncomputable def eqD (S:Sto) (x y:D):Option Bool:=match twoS x y with
 | some r=>some r
 | none=>match datD S x,datD S y with
  | some p,some q=>if p.canLay0 && q.canLay0 && decide (p.depth≤60) then some (PyData.eqv p q) else lenS S x y
  | _,_=>lenS S x y
noncomputable def inD (S:Sto) (x y:D):Option Bool:=match datD S x,datD S y with
 | some p,some (.list qs)=>if p.canLay0 && PyData.canLayAll0 qs && decide (p.depth≤60) then some (qs.any fun q=>PyData.eqv q p) else none
 | some p,some (.tuple qs)=>if p.canLay0 && PyData.canLayAll0 qs && decide (p.depth≤60) then some (qs.any fun q=>PyData.eqv q p) else none
 | _,_=>none
noncomputable def seqD (S:Sto):D→Option (List D)
 | .tup xs=>some xs
 | .fro xs=>some xs
 | .ref n=>lstAt S n
 | _=>none
noncomputable def allInts:List D→Option (List Int)
 | []=>some []
 | .int i :: r=>(allInts r).map (i :: ·)
 | _ :: _=>none
noncomputable def allBls:List D→Option (List Bool)
 | []=>some []
 | .bl i :: r=>(allBls r).map (i :: ·)
 | _ :: _=>none
noncomputable def ltD:D→D→Option Bool
 | .int i,.int j=>some (decide (i < j))
 | .tup xs,.tup ys=>match allInts xs,allInts ys with
  | some ns,some ms=>some (HT.lexLt ns ms)
  | _,_=>none
 | _,_=>none
noncomputable def isRef:D→Bool
 | .ref _=>true
 | _=>false
noncomputable def insI (x:Int):List Int→List Int
 | []=>[x]
 | y :: r=>if x≤y then x :: y :: r else y :: insI x r
noncomputable def srtI:List Int→List Int
 | []=>[]
 | x :: r=>insI x (srtI r)
noncomputable def truD (S:Sto):D→Option Bool
 | .non=>some false
 | .bl b=>some b
 | .int i=>some (i != 0)
 | .str x=>if x.length≤big then some ((x.length:Int) != 0) else none
 | .tup xs=>some (!xs.isEmpty)
 | .fro xs=>some (!xs.isEmpty)
 | .fn _ _=>none
 | .ref n=>match S[n]? with
  | some (.lst xs)=>some (!xs.isEmpty)
  | _=>none
noncomputable def mulOk (i j:Int):Bool:=(decide (-(18446744073709551616) < i) && decide (i < 18446744073709551616)) || (decide (-(18446744073709551616) < j) && decide (j < 18446744073709551616)) || (decide (i.natAbs.log2 < 100000) && decide (j.natAbs.log2 < 100000))
noncomputable def divOk (j:Int):Bool:=decide (0 < j) && decide (j.natAbs.log2 < 9000)
noncomputable def binD:Bo→D→D→Sto→R D
 | .add,.int i,.int j,S=>.ok (.int (i + j)) S
 | .add,.tup x,.tup y,S=>if x.length + y.length≤big then .ok (.tup (x++y)) S else .bad
 | .add,.str x,.str y,S=>if x.length + y.length≤big then .ok (.str (x++y)) S else .bad
 | .add,.ref n,.ref m,S=>match lstM S n,lstM S m with
  | some x,some y=>if x.length + y.length≤big then .ok (.ref S.length) (S++[.lst (x++y)]) else .bad
  | _,_=>.bad
 | .sub,.int i,.int j,S=>.ok (.int (i - j)) S
 | .mul,.int i,.int j,S=>if mulOk i j then .ok (.int (i * j)) S else .bad
 | .mul,.tup x,.int k,S=>if k < 1048576∧x.length * k.toNat≤big∧-(1048576) < k∧x.isEmpty=false then .ok (.tup (List.replicate k.toNat x).flatten) S else .bad
 | .mul,.ref n,.int k,S=>match lstM S n with
  | some x=>if k < 1048576∧x.length * k.toNat≤big∧-(1048576) < k then .ok (.ref S.length) (S++[.lst (List.replicate k.toNat x).flatten]) else .bad
  | none=>.bad
 | .fdiv,.int i,.int j,S=>if divOk j then .ok (.int (i / j)) S else .bad
 | .mod,.int i,.int j,S=>if 0 < j then .ok (.int (i % j)) S else .bad
 | .pow,.int i,.int j,S=>if 0≤j∧j≤1000∧i.natAbs < 2 ^ 63 then .ok (.int (i ^ j.toNat)) S else .bad
 | _,_,_,_=>.bad
noncomputable def augD:Bo→D→D→Sto→R D
 | .add,.int i,.int j,S=>.ok (.int (i + j)) S
 | .sub,.int i,.int j,S=>.ok (.int (i - j)) S
 | .mul,.int i,.int j,S=>if mulOk i j then .ok (.int (i * j)) S else .bad
 | _,_,_,_=>.bad
noncomputable def cmpD:Co→D→D→Sto→Option Bool
 | .eq,x,y,S=>eqD S x y
 | .ne,x,y,S=>(eqD S x y).map (!·)
 | .lt,x,y,_=>ltD x y
 | .le,.int i,.int j,_=>some (decide (i≤j))
 | .gt,.int i,.int j,_=>some (decide (j < i))
 | .ge,.int i,.int j,_=>some (decide (j≤i))
 | .isin,x,y,S=>inD S x y
 | .notin,x,y,S=>(inD S x y).map (!·)
 | .is,x,.non,_=>some (match x with | .non=>true | _=>false)
 | .is,x,.bl b,_=>some (match x with | .bl c=>b == c | _=>false)
 | .isnot,x,.non,_=>some (match x with | .non=>false | _=>true)
 | .isnot,x,.bl b,_=>some (match x with | .bl c=>b != c | _=>true)
 | _,_,_,_=>none
noncomputable def ixN (n:Nat) (i:Int):Option Nat:=if 0≤i then (if i < n then some i.toNat else none) else if -(n:Int)≤i then some (i + n).toNat else none
noncomputable def idxD (x:D) (i:D) (S:Sto):Option D :=
 match i with
 | .int k=>match x with
  | .str z=>if z.length≤big then (ixN z.length k).bind fun j=>z.cps.toList[j]?.map fun c=>.str ⟨#[c]⟩ else none
  | _=>(seqD S x).bind fun xs=>(ixN xs.length k).bind fun j=>xs[j]?
 | _=>none
noncomputable def cmpR (op:Co) (x y:D) (S:Sto):R D:=match cmpD op x y S with
 | some r=>.ok (.bl r) S
 | none=>.bad
noncomputable def idxR (x i:D) (S:Sto):R D:=match idxD x i S with
 | some d=>.ok d S
 | none=>.bad
noncomputable def TestP (ifs:En→Sto→R Bool) (body:En→List D→Sto→R (List D)) (env:En) (acc:List D) (S:Sto):R (List D):=(ifs env S).bind fun b S=>if b then body env acc S else .ok acc S
noncomputable def clip (n:Nat) (d:Nat):Option Int→Nat
 | none=>d
 | some i=>if 0≤i then min i.toNat n else (i + n).toNat
noncomputable def cut {α:Type} (xs:List α) (lo hi:Option Int):List α :=
 (xs.drop (clip xs.length 0 lo)).take (clip xs.length xs.length hi - clip xs.length 0 lo)
noncomputable def optI:Option D→Option (Option Int)
 | none=>some none
 | some (.int i)=>some (some i)
 | _=>none
noncomputable def sliD (x:D) (lo hi:Option Int) (S:Sto):R D :=
 match x with
 | .tup xs=>.ok (.tup (cut xs lo hi)) S
 | .ref n=>match lstAt S n with
  | some xs=>.ok (.ref S.length) (S++[.lst (cut xs lo hi)])
  | none=>.bad
 | _=>.bad
noncomputable def revD (x:D) (S:Sto):R D :=
 match x with
 | .tup xs=>.ok (.tup xs.reverse) S
 | .ref n=>match lstAt S n with
  | some xs=>.ok (.ref S.length) (S++[.lst xs.reverse])
  | none=>.bad
 | _=>.bad
noncomputable def fnIn (f:Nat) (nm:Str):List D→Bool
 | []=>false
 | .fn g m :: r=>(g == f && decide (m=nm)) || fnIn f nm r
 | _ :: r=>fnIn f nm r
inductive Kd where | non | bool | int | str | tuple | list | dict | exc (c:Nat)
 deriving DecidableEq
noncomputable def kdD (S:Sto):D→Option Kd
 | .non=>some .non
 | .bl _=>some .bool
 | .int _=>some .int
 | .str _=>some .str
 | .tup _=>some .tuple
 | .fro _=>some .list
 | .fn _ _=>none
 | .ref n=>match S[n]? with
  | some (.lst _)=>some .list
  | some (.dct _)=>some .dict
  | some (.exc c)=>some (.exc c)
  | _=>none
noncomputable def isT:Kd→Ty→Option Bool
 | .exc c',.cls c=>some (c == 0 || c == c')
 | .exc _,.valueError=>some true
 | .exc _,_=>none
 | _,.cls _=>none
 | _,.valueError=>none
 | .bool,.int=>some true
 | .int,.int=>some true
 | .bool,.bool=>some true
 | .str,.str=>some true
 | .tuple,.tuple=>some true
 | .list,.list=>some true
 | .dict,.dict=>some true
 | _,_=>some false
noncomputable def isTs (k:Kd):List Ty→Option Bool
 | []=>some false
 | t :: r=>match isT k t with
  | some true=>some true
  | some false=>isTs k r
  | none=>none
noncomputable def intText (i:Int):Str:=Str.ofString (toString i)
noncomputable def strD:D→Option Str
 | .int i=>if i.natAbs < 10 ^ 600 then some (intText i) else none
 | .str x=>some x
 | _=>none
mutual
noncomputable def szD:PyData→Nat
 | .none=>4
 | .bool _=>5
 | .int _=>1921
 | .str x=>(reprText x).length
 | .list xs=>szDs xs + 2
 | .tuple xs=>szDs xs + 3
 | .dict _=>2
noncomputable def szDs:List PyData→Nat
 | []=>0
 | x :: xs=>szD x + 2 + szDs xs
end
mutual
noncomputable def dctE:PyData→Bool
 | .none=>true
 | .bool _=>true
 | .int _=>true
 | .str _=>true
 | .list xs=>dctEs xs
 | .tuple xs=>dctEs xs
 | .dict kvs=>kvs.isEmpty
noncomputable def dctEs:List PyData→Bool
 | []=>true
 | x :: xs=>dctE x && dctEs xs
end
noncomputable def repD (S:Sto) (x:D):Option Str:=match datD S x with
 | some p=>if p.showable && dctE p && decide (p.depth≤60) && decide (szD p≤big) then some p.shown else none
 | none=>none
noncomputable def bltD:Bl→List D→Sto→R D
 | .len,[x],S=>match x with
  | .str z=>if z.length≤big then .ok (.int z.length) S else .bad
  | _=>match seqD S x with
   | some xs=>.ok (.int xs.length) S
   | none=>.bad
 | .tuple,[x],S=>match seqD S x with
  | some xs=>.ok (.tup xs) S
  | none=>.bad
 | .list,[x],S=>match seqD S x with
  | some xs=>.ok (.ref S.length) (S++[.lst xs])
  | none=>.bad
 | .all,[.ref n],S=>match (lstAt S n).bind allBls with
  | some bs=>.ok (.bl (bs.all id)) S
  | none=>.bad
 | .any,[.ref n],S=>match (lstAt S n).bind allBls with
  | some bs=>.ok (.bl (bs.any id)) S
  | none=>.bad
 | .sum,[x],S=>match (seqD S x).bind allInts with
  | some ns=>.ok (.int ns.sum) S
  | none=>.bad
 | .max,[x],S=>match (seqD S x).bind allInts with
  | some (n :: ns)=>.ok (.int (ns.foldl max n)) S
  | _=>.bad
 | .min,[x],S=>match (seqD S x).bind allInts with
  | some (n :: ns)=>.ok (.int (ns.foldl min n)) S
  | _=>.bad
 | .max,[.int i,.int j],S=>.ok (.int (if j > i then j else i)) S
 | .min,[.int i,.int j],S=>.ok (.int (if j < i then j else i)) S
 | .abs,[.int i],S=>.ok (.int i.natAbs) S
 | .sorted,[x],S=>match (seqD S x).bind allInts with
  | some ns=>if isRef x && decide (ns.length < 64) then .ok (.ref S.length) (S++[.lst ((srtI ns).map D.int)]) else .bad
  | none=>.bad
 | .str,[x],S=>match strD x with
  | some t=>.ok (.str t) S
  | none=>.bad
 | .int,[.bl b],S=>.ok (.int (i2 b)) S
 | .repr,[x],S=>match repD S x with
  | some t=>.ok (.str t) S
  | none=>.bad
 | _,_,_=>.bad
noncomputable def mthD:Mt→D→List D→Sto→R D
 | .append,.ref n,[x],S=>match lstM S n with
  | some xs=>if xs.length < big then .ok .non (S.set n (.lst (xs++[x]))) else .bad
  | none=>.bad
 | .extend,.ref n,[x],S=>match lstM S n,seqD S x with
  | some xs,some ys=>if xs.length + ys.length≤big then .ok .non (S.set n (.lst (xs++ys))) else .bad
  | _,_=>.bad
 | .pop,.ref n,[.int i],S=>match lstM S n with
  | some xs=>match ixN xs.length i with
   | some k=>match xs[k]? with
    | some y=>.ok y (S.set n (.lst (xs.eraseIdx k)))
    | none=>.bad
   | none=>.bad
  | none=>.bad
 | .index,.ref n,[.bl b],S=>match (lstAt S n).bind allBls with
  | some bs=>match bs.findIdx? (· == b) with
   | some i=>.ok (.int i) S
   | none=>.bad
  | none=>.bad
 | .count,.ref n,[.bl b],S=>match (lstAt S n).bind allBls with
  | some bs=>.ok (.int (bs.countP (· == b):Nat)) S
  | none=>.bad
 | _,_,_,_=>.bad
noncomputable def rcvOk (k:Mt) (x:D) (S:Sto):Bool:=match k,x with
 | .join,.str _=>true
 | .split,.str _=>true
 | .join,_=>false
 | .split,_=>false
 | .add,_=>false
 | _,.ref n=>(lstAt S n).isSome
 | _,_=>false
noncomputable def asetD (o i v:D) (S:Sto):R Unit :=
 match o,i with
 | .ref n,.int k=>match lstM S n with
  | some xs=>match ixN xs.length k with
   | some j=>.ok () (S.set n (.lst (xs.set j v)))
   | none=>.bad
  | none=>.bad
 | _,_=>.bad
inductive Src where
 | con (xs:List D) | ref (n:Nat) | zip (a b:Src) | enm (a:Src)
noncomputable def Src.get:Src→Sto→Nat→Option (Option D)
 | .con xs,_,i=>some xs[i]?
 | .ref n,S,i=>(lstAt S n).map fun xs=>xs[i]?
 | .zip a b,S,i=>match a.get S i,b.get S i with
  | some (some x),some (some y)=>some (some (.tup [x,y]))
  | some _,some _=>some none
  | _,_=>none
 | .enm a,S,i=>match a.get S i with
  | some (some x)=>some (some (.tup [.int i,x]))
  | r=>r
noncomputable def Src.most:Src→Sto→Nat
 | .con xs,_=>xs.length
 | .ref n,S=>((lstAt S n).getD []).length
 | .zip a b,S=>min (a.most S) (b.most S)
 | .enm a,S=>a.most S
noncomputable def srcD (S:Sto):D→Option Src
 | .tup xs=>some (.con xs)
 | .ref n=>(lstAt S n).map fun _=>.ref n
 | _=>none
noncomputable def rngD:List D→Option (List D)
 | [.int j]=>if -(1048576) < j∧j < 1048576 then some ((List.range j.toNat).map fun (k:Nat)=>D.int (k:Int)) else none
 | [.int i,.int j]=>if -(1048576) < i∧i < 1048576∧-(1048576) < j∧j < 1048576 then some ((List.range (j - i).toNat).map fun (k:Nat)=>D.int (i + k)) else none
 | [.int i,.int j,.int s]=>if s = -1∧-(1048576) < i∧i < 1048576∧-(1048576) < j∧j < 1048576 then some ((List.range (i - j).toNat).map fun (k:Nat)=>D.int (i - k)) else none
 | _=>none
noncomputable def setTg (t:Tg) (d:D) (env:En):Option En :=
 match t with
 | .var i=>some (env.set i (some d))
 | .tup is=>match d with
  | .tup ds=>if is.length=ds.length then some ((is.zip ds).foldl (fun e p=>e.set p.1 (some p.2)) env) else none
  | _=>none
noncomputable def lstV (S:Sto) (x:D):Option (List D):=if isRef x then seqD S x else none
noncomputable def slots:Tg→List Nat
 | .var i=>[i]
 | .tup is=>is
noncomputable def noneAt (t:Tg) (env:En):Bool:=(slots t).all fun i=>match env[i]? with
 | some (some _)=>false
 | _=>true
noncomputable def cloop (get:Sto→Nat→Option (Option D)) (t:Tg) (body:En→List D→Sto→R (List D)):Nat→Nat→En→List D→Sto→R (List D)
 | 0,_,_,_,_=>.bad
 | k + 1,i,env,acc,S=>match get S i with
  | none=>.bad
  | some none=>.ok acc S
  | some (some d)=>match setTg t d env with
   | none=>.bad
   | some env'=>match body env' acc S with
    | .ok acc' S'=>cloop get t body k (i + 1) env' acc' S'
    | _=>.bad
noncomputable abbrev Fn:=Nat→List D→Sto→R D
section
variable (F:Fn) (G:List D)
mutual
noncomputable def ev:Ex→En→Sto→R D
 | .nev,_,_=>.bad
 | .var i,env,S=>match env[i]? with
  | some (some d)=>.ok d S
  | _=>.bad
 | .cst d,_,S=>.ok d S
 | .neg a,env,S=>(ev a env S).bind fun x S=>match x with
  | .int i=>.ok (.int (-i)) S
  | _=>.bad
 | .glb k,_,S=>match G[k]? with
  | some d=>.ok d S
  | none=>.bad
 | .tup es,env,S=>(evs es env S).bind fun xs S=>if xs.length≤big then .ok (.tup xs) S else .bad
 | .lst es,env,S=>(evs es env S).bind fun xs S=>if xs.length≤big then .ok (.ref S.length) (S++[.lst xs]) else .bad
 | .bin op a b,env,S=>(ev a env S).bind fun x S=>(ev b env S).bind fun y S=>binD op x y S
 | .cmp op a b,env,S=>(ev a env S).bind fun x S=>(ev b env S).bind fun y S=>cmpR op x y S
 | .chn o1 o2 a b c,env,S=>(ev a env S).bind fun x S=>(ev b env S).bind fun y S=>match cmpD o1 x y S with
  | some true=>(ev c env S).bind fun z S=>cmpR o2 y z S
  | some false=>.ok (.bl false) S
  | none=>.bad
 | .and a b,env,S=>(ev a env S).bind fun x S=>match truD S x with
  | some true=>ev b env S
  | some false=>.ok x S
  | none=>.bad
 | .or a b,env,S=>(ev a env S).bind fun x S=>match truD S x with
  | some true=>.ok x S
  | some false=>ev b env S
  | none=>.bad
 | .not a,env,S=>(ev a env S).bind fun x S=>match truD S x with
  | some r=>.ok (.bl (!r)) S
  | none=>.bad
 | .ite c a b,env,S=>(ev c env S).bind fun x S=>match truD S x with
  | some true=>ev a env S
  | some false=>ev b env S
  | none=>.bad
 | .idx a i,env,S=>(ev a env S).bind fun x S=>(ev i env S).bind fun y S=>idxR x y S
 | .sli a lo hi,env,S=>(ev a env S).bind fun x S=>(evo lo env S).bind fun l S=>(evo hi env S).bind fun h S=>match optI l,optI h with
  | some l,some h=>sliD x l h S
  | _,_=>.bad
 | .rev a,env,S=>(ev a env S).bind fun x S=>revD x S
 | .call f es,env,S=>(evs es env S).bind fun xs S=>F f xs S
 | .cal e es,env,S=>(ev e env S).bind fun x S=>match x with
  | .fn f nm=>if fnIn f nm G then (evs es env S).bind fun xs S=>F f xs S else .bad
  | _=>.bad
 | .blt k es,env,S=>(evs es env S).bind fun xs S=>bltD k xs S
 | .mth k o es,env,S=>(ev o env S).bind fun x S=>if rcvOk k x S then (evs es env S).bind fun xs S=>mthD k x xs S else .bad
 | .isi a ts,env,S=>(ev a env S).bind fun x S=>match (kdD S x).bind fun k=>isTs k ts with
  | some r=>.ok (.bl r) S
  | none=>.bad
 | .cmr k n gs elt,env,S=>match gs with
  | .nil=>.bad
  | .cons t it ifs gs=>(evit it env S).bind fun src S =>
   (cloop (src.get) t (TestP (fun env S=>evts ifs env S) (fun env acc S =>
     match gs with
     | .nil=>(ev elt env S).bind fun y S=>if acc.length < big then .ok (acc++[y]) S else .bad
     | .cons t2 it2 ifs2 gs2=>match gs2 with
      | .nil=>if noneAt t2 env then (evit it2 env S).bind fun src2 S =>
       cloop (src2.get) t2 (TestP (fun env S=>evts ifs2 env S) (fun env acc S =>
        (ev elt env S).bind fun y S=>if acc.length < big then .ok (acc++[y]) S else .bad)) (src2.most S + 1) 0 env acc S else .bad
      | .cons ..=>.bad)) (src.most S + 1) 0 (env++List.replicate n none) [] S).bind fun acc S =>
   if k then .bad else .ok (.ref S.length) (S++[.lst acc])
noncomputable def evo:Op→En→Sto→R (Option D)
 | .none,_,S=>.ok none S
 | .some e,env,S=>(ev e env S).bind fun x S=>.ok (some x) S
noncomputable def evs:Exs→En→Sto→R (List D)
 | .nil,_,S=>.ok [] S
 | .cons e es,env,S=>(ev e env S).bind fun x S=>(evs es env S).bind fun xs S=>.ok (x :: xs) S
noncomputable def evts:Exs→En→Sto→R Bool
 | .nil,_,S=>.ok true S
 | .cons e es,env,S=>(ev e env S).bind fun x S=>match truD S x with
  | some true=>evts es env S
  | some false=>.ok false S
  | none=>.bad
noncomputable def evit:It→En→Sto→R Src
 | .val e,env,S=>(ev e env S).bind fun x S=>match srcD S x with
  | some s=>.ok s S
  | none=>.bad
 | .rng es,env,S=>(evs es env S).bind fun xs S=>match rngD xs with
  | some ds=>.ok (.con ds) S
  | none=>.bad
 | .zip es,env,S=>(evs es env S).bind fun xs S=>match xs with
  | [x,y]=>match srcD S x,srcD S y with
   | some s,some t=>.ok (.zip s t) S
   | _,_=>.bad
  | _=>.bad
 | .enm es,env,S=>(evs es env S).bind fun xs S=>match xs with
  | [x]=>match srcD S x with
   | some s=>.ok (.enm s) S
   | none=>.bad
  | _=>.bad
end
mutual
noncomputable def nasg:St→Bool
 | .expr _=>true
 | .ret _=>true
 | .pass=>true
 | .ite _ a b=>nasgs a && nasgs b
 | .rse _ _=>true
 | _=>false
noncomputable def nasgs:Sts→Bool
 | .nil=>true
 | .cons s ss=>nasg s && nasgs ss
end
noncomputable def floop (get:Sto→Nat→Option (Option D)) (t:Tg) (body:En→Sto→R Fl):Nat→Nat→En→Sto→R Fl
 | 0,_,_,_=>.bad
 | k + 1,i,env,S=>match get S i with
  | none=>.bad
  | some none=>.ok (.nx env) S
  | some (some d)=>match setTg t d env with
   | none=>.bad
   | some env'=>match body env' S with
    | .ok (.nx e) S'=>floop get t body k (i + 1) e S'
    | .ok (.cnt e) S'=>floop get t body k (i + 1) e S'
    | .ok (.brk e) S'=>.ok (.nx e) S'
    | .ok (.rt d) S'=>.ok (.rt d) S'
    | _=>.bad
noncomputable def wloop (test:En→Sto→R Bool) (body:En→Sto→R Fl):Nat→En→Sto→R Fl
 | 0,_,_=>.bad
 | k + 1,env,S=>match test env S with
  | .ok false S'=>.ok (.nx env) S'
  | .ok true S'=>match body env S' with
   | .ok (.nx e) S'=>wloop test body k e S'
   | .ok (.cnt e) S'=>wloop test body k e S'
   | .ok (.brk e) S'=>.ok (.nx e) S'
   | .ok (.rt d) S'=>.ok (.rt d) S'
   | _=>.bad
  | _=>.bad
mutual
noncomputable def exe:St→En→Sto→R Fl
 | .nev,_,_=>.bad
 | .asg t e,env,S=>(ev F G e env S).bind fun x S=>match setTg t x env with
  | some env=>.ok (.nx env) S
  | none=>.bad
 | .par is es,env,S=>(evs F G es env S).bind fun xs S=>if is.length=xs.length then .ok (.nx ((is.zip xs).foldl (fun e p=>e.set p.1 (some p.2)) env)) S else .bad
 | .unp is e,env,S=>(ev F G e env S).bind fun x S=>match (lstV S x).bind fun ds=>setTg (.tup is) (.tup ds) env with | some env=>.ok (.nx env) S | none=>.bad
 | .aset o i e,env,S=>(ev F G e env S).bind fun v S=>(ev F G o env S).bind fun x S=>(ev F G i env S).bind fun y S=>(asetD x y v S).bind fun _ S=>.ok (.nx env) S
 | .aug i op e,env,S=>match env[i]? with
  | some (some x)=>(ev F G e env S).bind fun y S=>(augD op x y S).bind fun z S=>.ok (.nx (env.set i (some z))) S
  | _=>.bad
 | .expr e,env,S=>(ev F G e env S).bind fun _ S=>.ok (.nx env) S
 | .ret e,env,S=>(ev F G e env S).bind fun x S=>.ok (.rt x) S
 | .ite c a b,env,S=>(ev F G c env S).bind fun x S=>match truD S x with
  | some true=>exes a env S
  | some false=>exes b env S
  | none=>.bad
 | .for t it b,env,S=>(evit F G it env S).bind fun src S=>floop src.get t (fun env S=>exes b env S) (src.most S + 1) 0 env S
 | .whl c b,env,S=>wloop (fun env S=>(ev F G c env S).bind fun x S=>match truD S x with
   | some r=>.ok r S
   | none=>.bad) (fun env S=>exes b env S) 100000 env S
 | .rse c e,env,S=>(ev F G e env S).bind fun _ S=>.ex S.length (S++[.exc c])
 | .try b c x h,env,S=>if nasgs b then
   match exes b env S with
   | .ex n S'=>match S'[n]? with
    | some (.exc c')=>if c == 0 || c == c' then
      match exes h (env.set x (some (.ref n))) S' with
      | .ok (.rt d) S''=>.ok (.rt d) S''
      | _=>.bad
     else .bad
    | _=>.bad
   | r=>r
  else .bad
 | .pass,env,S=>.ok (.nx env) S
 | .brk,env,S=>.ok (.brk env) S
 | .cnt,env,S=>.ok (.cnt env) S
noncomputable def exes:Sts→En→Sto→R Fl
 | .nil,env,S=>.ok (.nx env) S
 | .cons s ss,env,S=>match exe s env S with
  | .ok (.nx e) S'=>exes ss e S'
  | r=>r
end
structure Df where
 np:Nat
 nl:Nat
 body:Sts
noncomputable def den (d:Df) (ds:List D) (S:Sto):R D :=
 if ds.length=d.np then
  match exes F G d.body (ds.map some++List.replicate (d.nl - d.np) none) S with
  | .ok (.rt v) S=>.ok v S
  | .ok (.nx _) S=>.ok .non S
  | .ok _ _=>.bad
  | .ex n S=>.ex n S
  | .bad=>.bad
 else .bad
end
noncomputable def FT (T:List Df) (G:List D):Nat→Fn
 | 0=>fun _ _ _=>.bad
 | k + 1=>fun f ds S=>match T[f]? with
  | some d=>den (FT T G k) G d ds S
  | none=>.bad
end Z
end
section
namespace Z
open PySem PySem.Spec PyProof.Rows L2
noncomputable def FrL (K:PySem.W.Frag) (H:Hp) (a:Addr) (vs:List V):Prop :=
 (∃ o,H a=some (.frz o (.lst vs))) ∨
  ∃ (o:Obj) (its:Array Value) (n:Nat),K.lookup a=some o∧o.cls=.type "list" ∧ o.dict=none∧o.data=.seq its n∧its.size≤sizeLine∧Vals vs its.toList
theorem FrL.sq {K:PySem.W.Frag} {H:Hp} {a:Addr} {vs:List V} (h:FrL K H a vs):SqL K H a vs:=by
 rcases h with ⟨o,h⟩ | h
 ·exact .inl (.inr ⟨o,h⟩)
 ·exact .inr h
mutual
noncomputable def RD (K:PySem.W.Frag) (ρ:List Addr) (H:Hp):D→V→Prop
 | .non,v=>v=.non
 | .bl b,v=>v=.bl b
 | .int i,v=>v=.int i
 | .str x,v=>v=.str x
 | .tup xs,v=>∃ a vs,v=.ref a∧SqT K H a vs∧RDs K ρ H xs vs
 | .fro xs,v=>∃ a vs,v=.ref a∧FrL K H a vs∧RDs K ρ H xs vs
 | .ref n,v=>∃ a,v=.ref a∧ρ[n]?=some a
 | .fn _ nm,v=>∃ a,v=.ref a∧PySem.W.nsIn K mainGlobals nm=some (some (.ref a))
noncomputable def RDs (K:PySem.W.Frag) (ρ:List Addr) (H:Hp):List D→List V→Prop
 | [],vs=>vs=[]
 | x :: xs,vs=>∃ v r,vs=v :: r∧RD K ρ H x v∧RDs K ρ H xs r
end
noncomputable def clsNames:List Str:=["FaceError","","","","","","","","NoNumber","","","","","","","",""]
noncomputable def clsNm (c:Nat):Option Str:=(clsNames[c]?).filter fun x=>!decide (x = "")
theorem clsNm_lt {c:Nat} {x:Str} (h:clsNm c=some x):c < clsNames.length:=by
 unfold clsNm at h
 cases q:clsNames[c]? with
 | none=>rw [q] at h; cases h
 | some _=>exact (List.getElem?_eq_some_iff.mp q).1
noncomputable def clsAt (K:PySem.W.Frag) (c:Nat):Option Addr:=(clsNm c).bind fun nm=>match PySem.W.nsIn K mainGlobals nm with
 | some (some (.ref C))=>some C
 | _=>none
noncomputable def ExcO (C a:Addr) (h:Heap):Prop:=∃ oe vs a0,h.get? a=some oe∧oe.cls=.ref C∧oe.data=.fields vs∧vs[0]?=some a0∧1 < vs.size
theorem ExcO.ok {P:Program} {w:World} {H:Hp} {C a:Addr} {h:Heap} (x:ExcO C a h):ObjOk P w H h a (.ext (ExcO C a)) :=
 ⟨x,let ⟨oe,_,_,e,_⟩:=x; ⟨oe,e⟩,fun h1 h2 ⟨oe,vs,a0,e,r⟩ k=>⟨oe,vs,a0,k _ e,r⟩⟩
noncomputable def OR (K:PySem.W.Frag) (ρ:List Addr) (H:Hp) (a:Addr):O→Prop
 | .lst xs=>∃ vs,H a=some (.lst vs)∧RDs K ρ H xs vs
 | .dct kvs=>kvs=[]∧H a=some (.dK [])
 | .set _=>False
 | .exc c=>∃ C,clsAt K c=some C∧H a=some (.ext (ExcO C a))
theorem OR.some {K:PySem.W.Frag} {ρ:List Addr} {H:Hp} {a:Addr} {o:O} (h:OR K ρ H a o):∃ u,H a=some u∧(∀ xs,u≠.tup xs)∧∀ o' u',u≠.frz o' u':=by
 cases o with
 | lst xs=>obtain ⟨vs,e,_⟩:=h; exact ⟨_,e,fun _ z=>(nomatch z),fun _ _ z=>(nomatch z)⟩
 | dct kvs=>obtain ⟨_,e⟩:=h; exact ⟨_,e,fun _ z=>(nomatch z),fun _ _ z=>(nomatch z)⟩
 | set _=>exact h.elim
 | exc c=>obtain ⟨C,_,e⟩:=h; exact ⟨_,e,fun _ z=>(nomatch z),fun _ _ z=>(nomatch z)⟩
structure SR (K:PySem.W.Frag) (ρ:List Addr) (S:Sto) (H:Hp):Prop where
 len:ρ.length=S.length
 nd:ρ.Nodup
 ob:∀ (n:Nat) a o,ρ[n]?=some a→S[n]?=some o→OR K ρ H a o
structure Mon (K:PySem.W.Frag) (ρ ρ':List Addr) (H H':Hp):Prop where
 pre:∀ (n:Nat) a,ρ[n]?=some a→ρ'[n]?=some a
 tup:∀ a xs,SqT K H a xs→SqT K H' a xs
 fro:∀ a xs,FrL K H a xs→FrL K H' a xs
structure Stp (K:PySem.W.Frag) (ρ ρ':List Addr) (H H':Hp):Prop extends Mon K ρ ρ' H H' where
 new:∀ a∈ρ',a∈ρ∨H a=none
 keep:∀ a o,H a=some o→a ∉ ρ→H' a=some o
section
variable {K:PySem.W.Frag} {ρ ρ' ρ'':List Addr} {H H' H'':Hp} {S S':Sto}
theorem Stp.refl:Stp K ρ ρ H H:=⟨⟨fun _ _ h=>h,fun _ _ h=>h,fun _ _ h=>h⟩,fun _ h=>.inl h,fun _ _ h _=>h⟩
theorem Stp.trans (x:Stp K ρ ρ' H H') (y:Stp K ρ' ρ'' H' H''):Stp K ρ ρ'' H H'' where
 pre:=fun n a h=>y.pre n a (x.pre n a h)
 new:=fun a h=>by
  rcases y.new a h with h | h
  ·exact x.new a h
  ·cases e:H a with
   | none=>exact .inr rfl
   | some o =>
    by_cases hm:a∈ρ
    ·exact .inl hm
    ·rw [x.keep a o e hm] at h; cases h
 keep:=fun a o h n=>y.keep a o (x.keep a o h n) fun hm=>by
  rcases x.new a hm with z | z
  ·exact n z
  ·rw [h] at z; cases z
 tup:=fun a xs h=>y.tup a xs (x.tup a xs h)
 fro:=fun a xs h=>y.fro a xs (x.fro a xs h)
mutual
theorem RD.mono' (x:Mon K ρ ρ' H H'):∀ (d:D) (v:V),RD K ρ H d v→RD K ρ' H' d v
 | .non,v,h=>by simpa only [RD] using h
 | .bl b,v,h=>by simpa only [RD] using h
 | .int i,v,h=>by simpa only [RD] using h
 | .str y,v,h=>by simpa only [RD] using h
 | .tup xs,v,h=>by
  simp only [RD] at h ⊢
  obtain ⟨a,vs,e,h1,h2⟩:=h
  exact ⟨a,vs,e,x.tup a vs h1,RDs.mono' x xs vs h2⟩
 | .fro xs,v,h=>by
  simp only [RD] at h ⊢
  obtain ⟨a,vs,e,h1,h2⟩:=h
  exact ⟨a,vs,e,x.fro a vs h1,RDs.mono' x xs vs h2⟩
 | .ref n,v,h=>by
  simp only [RD] at h ⊢
  obtain ⟨a,e,h⟩:=h
  exact ⟨a,e,x.pre n a h⟩
 | .fn f nm,v,h=>by simpa only [RD] using h
theorem RDs.mono' (x:Mon K ρ ρ' H H'):∀ (ds:List D) (vs:List V),RDs K ρ H ds vs→RDs K ρ' H' ds vs
 | [],vs,h=>by simpa only [RDs] using h
 | d :: ds,vs,h=>by
  simp only [RDs] at h ⊢
  obtain ⟨v,r,e,h1,h2⟩:=h
  exact ⟨v,r,e,RD.mono' x d v h1,RDs.mono' x ds r h2⟩
end
theorem RD.mono (x:Stp K ρ ρ' H H') (d:D) (v:V) (h:RD K ρ H d v):RD K ρ' H' d v:=RD.mono' x.toMon d v h
theorem RDs.mono (x:Stp K ρ ρ' H H') (ds:List D) (vs:List V) (h:RDs K ρ H ds vs):RDs K ρ' H' ds vs:=RDs.mono' x.toMon ds vs h
theorem RDs.nil:RDs K ρ H [] []:=by simp only [RDs]
theorem RDs.cons {d:D} {v:V} {ds:List D} {vs:List V} (h:RD K ρ H d v) (t:RDs K ρ H ds vs):RDs K ρ H (d :: ds) (v :: vs):=by
 simp only [RDs]; exact ⟨v,vs,rfl,h,t⟩
theorem RDs.length:∀ {ds:List D} {vs:List V},RDs K ρ H ds vs→ds.length=vs.length
 | [],vs,h=>by simp only [RDs] at h; subst h; rfl
 | d :: ds,vs,h=>by
  simp only [RDs] at h
  obtain ⟨v,r,rfl,_,h2⟩:=h
  simp [RDs.length h2]
theorem RDs.append:∀ {ds es:List D} {vs us:List V},RDs K ρ H ds vs→RDs K ρ H es us→RDs K ρ H (ds++es) (vs++us)
 | [],es,vs,us,h,t=>by simp only [RDs] at h; subst h; exact t
 | d :: ds,es,vs,us,h,t=>by
  simp only [RDs] at h
  obtain ⟨v,r,rfl,h1,h2⟩:=h
  exact RDs.cons h1 (RDs.append h2 t)
theorem RDs.get:∀ {ds:List D} {vs:List V} {i:Nat} {d:D},RDs K ρ H ds vs→ds[i]?=some d→∃ v,vs[i]?=some v∧RD K ρ H d v
 | [],vs,i,d,h,e=>by simp at e
 | x :: ds,vs,0,d,h,e=>by
  simp only [RDs] at h
  obtain ⟨v,r,rfl,h1,h2⟩:=h
  simp at e; subst e
  exact ⟨v,rfl,h1⟩
 | x :: ds,vs,i + 1,d,h,e=>by
  simp only [RDs] at h
  obtain ⟨v,r,rfl,h1,h2⟩:=h
  obtain ⟨v',e',h'⟩:=RDs.get (i:=i) h2 (by simpa using e)
  exact ⟨v',by simpa using e',h'⟩
theorem RDs.none {ds:List D} {vs:List V} {i:Nat} (h:RDs K ρ H ds vs) (e:ds[i]?=none):vs[i]?=none:=by
 have:=h.length
 rw [List.getElem?_eq_none_iff] at e ⊢
 omega
theorem RDs.set {d:D} {v:V} (hv:RD K ρ H d v):∀ {ds:List D} {vs:List V} (i:Nat),RDs K ρ H ds vs→RDs K ρ H (ds.set i d) (vs.set i v)
 | [],vs,i,h=>by simp only [RDs] at h; subst h; exact RDs.nil
 | x :: ds,vs,0,h=>by
  simp only [RDs] at h
  obtain ⟨w,r,rfl,h1,h2⟩:=h
  exact RDs.cons hv h2
 | x :: ds,vs,i + 1,h=>by
  simp only [RDs] at h
  obtain ⟨w,r,rfl,h1,h2⟩:=h
  exact RDs.cons h1 (RDs.set hv i h2)
theorem RDs.drop:∀ {ds:List D} {vs:List V} (n:Nat),RDs K ρ H ds vs→RDs K ρ H (ds.drop n) (vs.drop n)
 | ds,vs,0,h=>h
 | [],vs,n + 1,h=>by simp only [RDs] at h; subst h; exact RDs.nil
 | x :: ds,vs,n + 1,h=>by
  simp only [RDs] at h
  obtain ⟨w,r,rfl,h1,h2⟩:=h
  exact RDs.drop n h2
theorem RDs.take:∀ {ds:List D} {vs:List V} (n:Nat),RDs K ρ H ds vs→RDs K ρ H (ds.take n) (vs.take n)
 | ds,vs,0,h=>RDs.nil
 | [],vs,n + 1,h=>by simp only [RDs] at h; subst h; exact RDs.nil
 | x :: ds,vs,n + 1,h=>by
  simp only [RDs] at h
  obtain ⟨w,r,rfl,h1,h2⟩:=h
  exact RDs.cons h1 (RDs.take n h2)
theorem RDs.reverse {ds:List D} {vs:List V} (h:RDs K ρ H ds vs):RDs K ρ H ds.reverse vs.reverse:=by
 induction ds generalizing vs with
 | nil=>simp only [RDs] at h; subst h; exact RDs.nil
 | cons d ds ih =>
  simp only [RDs] at h
  obtain ⟨w,r,rfl,h1,h2⟩:=h
  rw [List.reverse_cons,List.reverse_cons]
  exact (ih h2).append (RDs.cons h1 RDs.nil)
theorem RDs.eraseIdx:∀ {ds:List D} {vs:List V} (n:Nat),RDs K ρ H ds vs→RDs K ρ H (ds.eraseIdx n) (vs.eraseIdx n)
 | [],vs,n,h=>by simp only [RDs] at h; subst h; exact RDs.nil
 | x :: ds,vs,0,h=>by
  simp only [RDs] at h
  obtain ⟨w,r,rfl,h1,h2⟩:=h
  exact h2
 | x :: ds,vs,n + 1,h=>by
  simp only [RDs] at h
  obtain ⟨w,r,rfl,h1,h2⟩:=h
  exact RDs.cons h1 (RDs.eraseIdx n h2)
theorem RDs.ints:∀ (ns:List Int),RDs K ρ H (ns.map D.int) (ns.map V.int)
 | []=>RDs.nil
 | n :: ns=>RDs.cons (by simp only [RD]) (RDs.ints ns)
theorem RDs.ints_of:∀ {ns:List Int} {vs:List V},RDs K ρ H (ns.map D.int) vs→vs=ns.map V.int
 | [],vs,h=>by simp only [List.map,RDs] at h; exact h
 | n :: ns,vs,h=>by
  simp only [List.map,RDs] at h
  obtain ⟨v,r,rfl,h1,h2⟩:=h
  simp only [RD] at h1
  subst h1
  rw [RDs.ints_of h2]; rfl
theorem OR.mono' (x:Mon K ρ ρ' H H') {a:Addr} {o:O} (h:OR K ρ H a o) (e:H' a=H a):OR K ρ' H' a o:=by
 cases o with
 | lst xs=>obtain ⟨vs,h1,h2⟩:=h; exact ⟨vs,e.trans h1,RDs.mono' x xs vs h2⟩
 | dct kvs=>obtain ⟨h1,h2⟩:=h; exact ⟨h1,e.trans h2⟩
 | set _=>exact h.elim
 | exc c=>obtain ⟨C,h1,h2⟩:=h; exact ⟨C,h1,e.trans h2⟩
theorem OR.mono (x:Stp K ρ ρ' H H') {a:Addr} {o:O} (h:OR K ρ H a o) (e:H' a=H a):OR K ρ' H' a o:=OR.mono' x.toMon h e
theorem SR.at (r:SR K ρ S H) {n:Nat} {a:Addr} (h:ρ[n]?=some a):∃ o,S[n]?=some o∧OR K ρ H a o:=by
 have hn:n < S.length:=by rw [← r.len]; exact (List.getElem?_eq_some_iff.mp h).1
 exact ⟨S[n],by simp [hn],r.ob n a _ h (by simp [hn])⟩
theorem SR.adr (r:SR K ρ S H) {n:Nat} {o:O} (h:S[n]?=some o):∃ a,ρ[n]?=some a∧OR K ρ H a o:=by
 have hn:n < ρ.length:=by rw [r.len]; exact (List.getElem?_eq_some_iff.mp h).1
 exact ⟨ρ[n],by simp [hn],r.ob n _ o (by simp [hn]) h⟩
theorem SR.mem (r:SR K ρ S H) {a:Addr} (h:a∈ρ):∃ u,H a=some u∧(∀ xs,u≠.tup xs)∧∀ o' u',u≠.frz o' u':=by
 obtain ⟨n,hn,e⟩:=List.mem_iff_getElem.mp h
 obtain ⟨o,_,q⟩:=r.at (n:=n) (a:=a) (by simp [hn,e])
 exact q.some
theorem Stp.upd {p:Addr} {o:HO} (hp:H p=none):Stp K ρ ρ H (L2.upd H p o) where
 pre:=fun _ _ h=>h
 new:=fun _ h=>.inl h
 keep:=fun a u h _=>by rw [upd_ne (ne_of_none h hp)]; exact h
 tup:=fun a xs h=>by
  rcases h with (h | ⟨u,h⟩) | h
  ·exact .inl (.inl (by rw [upd_ne (ne_of_none h hp)]; exact h))
  ·exact .inl (.inr ⟨u,by rw [upd_ne (ne_of_none h hp)]; exact h⟩)
  ·exact .inr h
 fro:=fun a xs h=>by
  rcases h with ⟨u,h⟩ | h
  ·exact .inl ⟨u,by rw [upd_ne (ne_of_none h hp)]; exact h⟩
  ·exact .inr h
theorem SR.upd (r:SR K ρ S H) {p:Addr} {o:HO} (hp:H p=none):SR K ρ S (L2.upd H p o) :=
 ⟨r.len,r.nd,fun n a ob h1 h2=>by
  have q:=r.ob n a ob h1 h2
  obtain ⟨u,hu,_⟩:=q.some
  exact q.mono (Stp.upd hp) (upd_ne (ne_of_none hu hp))⟩
theorem Stp.new1 {p:Addr} {o:HO} (hp:H p=none):Stp K ρ (ρ++[p]) H (L2.upd H p o) where
 pre:=fun n a h=>by rw [List.getElem?_append_left (List.getElem?_eq_some_iff.mp h).1]; exact h
 new:=fun a h=>by
  rcases List.mem_append.mp h with h | h
  ·exact .inl h
  ·rw [List.mem_singleton.mp h]; exact .inr hp
 keep:=(Stp.upd (ρ:=ρ) (K:=K) hp).keep
 tup:=(Stp.upd (ρ:=ρ) (K:=K) hp).tup
 fro:=(Stp.upd (ρ:=ρ) (K:=K) hp).fro
theorem SR.new1 (r:SR K ρ S H) {p:Addr} {u:HO} {o:O} (hp:H p=none) (ho:OR K (ρ++[p]) (L2.upd H p u) p o):SR K (ρ++[p]) (S++[o]) (L2.upd H p u):=by
 have hpm:p ∉ ρ:=fun h=>by obtain ⟨w,hw,_⟩:=r.mem h; rw [hp] at hw; cases hw
 refine ⟨by simp [r.len],?_,fun n a ob h1 h2=>?_⟩
 ·rw [List.nodup_append]
  refine ⟨r.nd,by simp,fun x hx y hy=>?_⟩
  rw [List.mem_singleton.mp hy]
  exact fun z=>hpm (z ▸ hx)
 ·by_cases hn:n < ρ.length
  ·rw [List.getElem?_append_left hn] at h1
   rw [List.getElem?_append_left (by rw [← r.len]; exact hn)] at h2
   have q:=r.ob n a ob h1 h2
   obtain ⟨w,hw,_⟩:=q.some
   exact q.mono (Stp.new1 hp) (upd_ne (ne_of_none hw hp))
  ·have e:n=ρ.length:=by
    have:=(List.getElem?_eq_some_iff.mp h1).1
    simp at this; omega
   subst e
   simp at h1
   rw [r.len] at h2
   simp at h2
   subst h1 h2
   exact ho
theorem Stp.chg {n:Nat} {a:Addr} {o:O} {u:HO} (r:SR K ρ S H) (ha:ρ[n]?=some a):Stp K ρ ρ H (L2.upd H a u):=by
 have hm:a∈ρ:=List.mem_of_getElem? ha
 obtain ⟨w,hw,h1,h2⟩:=r.mem hm
 refine ⟨⟨fun _ _ h=>h,fun b xs h=>?_,fun b xs h=>?_⟩,fun _ h=>.inl h,fun b o h hb=>?_⟩
 ·rcases h with (h | ⟨v,h⟩) | h
  ·exact .inl (.inl (by rw [upd_ne (fun z=>by subst z; rw [hw] at h; exact h1 _ (Option.some.inj h))]; exact h))
  ·exact .inl (.inr ⟨v,by rw [upd_ne (fun z=>by subst z; rw [hw] at h; exact h2 _ _ (Option.some.inj h))]; exact h⟩)
  ·exact .inr h
 ·rcases h with ⟨v,h⟩ | h
  ·exact .inl ⟨v,by rw [upd_ne (fun z=>by subst z; rw [hw] at h; exact h2 _ _ (Option.some.inj h))]; exact h⟩
  ·exact .inr h
 ·rw [upd_ne (fun z=>hb (by rw [z]; exact hm))]; exact h
theorem SR.chg {n:Nat} {a:Addr} {o:O} {u:HO} (r:SR K ρ S H) (ha:ρ[n]?=some a) (ho:OR K ρ (L2.upd H a u) a o):SR K ρ (S.set n o) (L2.upd H a u):=by
 refine ⟨by simp [r.len],r.nd,fun m b ob h1 h2=>?_⟩
 have hn:n < S.length:=by rw [← r.len]; exact (List.getElem?_eq_some_iff.mp ha).1
 by_cases e:m=n
 ·subst e
  rw [ha] at h1; cases h1
  rw [List.getElem?_set_self hn] at h2; cases h2
  exact ho
 ·rw [List.getElem?_set_ne (Ne.symm e)] at h2
  have q:=r.ob m b ob h1 h2
  refine q.mono (Stp.chg (S:=S) (o:=o) r ha) (upd_ne fun z=>e ?_)
  subst z
  obtain ⟨h3,e3⟩:=List.getElem?_eq_some_iff.mp h1
  obtain ⟨h4,e4⟩:=List.getElem?_eq_some_iff.mp ha
  exact (List.getElem_inj r.nd).mp (e3.trans e4.symm)
end
section
variable {K:PySem.W.Frag} {ρ ρ':List Addr} {H H':Hp} {S S':Sto}
theorem Mon.own {D:Addr} {u:HO} {vs:List V} (hd:H D=some (.lst vs)):Mon K ρ ρ H (L2.upd H D u) where
 pre:=fun _ _ h=>h
 tup:=fun a xs h=>by
  rcases h with (h | ⟨v,h⟩) | h
  ·exact .inl (.inl (by rw [upd_ne (fun z=>by subst z; rw [hd] at h; cases h)]; exact h))
  ·exact .inl (.inr ⟨v,by rw [upd_ne (fun z=>by subst z; rw [hd] at h; cases h)]; exact h⟩)
  ·exact .inr h
 fro:=fun a xs h=>by
  rcases h with ⟨v,h⟩ | h
  ·exact .inl ⟨v,by rw [upd_ne (fun z=>by subst z; rw [hd] at h; cases h)]; exact h⟩
  ·exact .inr h
theorem SR.own {D:Addr} {u:HO} {vs:List V} (r:SR K ρ S H) (hd:H D=some (.lst vs)) (hn:D ∉ ρ):SR K ρ S (L2.upd H D u) :=
 ⟨r.len,r.nd,fun n a ob h1 h2=>(r.ob n a ob h1 h2).mono' (Mon.own hd) (upd_ne fun z=>hn (by rw [← z]; exact List.mem_of_getElem? h1))⟩
theorem Stp.own {D:Addr} {u:HO} {vs:List V} {H0:Hp} {ρ0:List Addr} (x:Stp K ρ0 ρ H0 H) (h0:H0 D=none) (hd:H D=some (.lst vs)):Stp K ρ0 ρ H0 (L2.upd H D u) where
 pre:=x.pre
 tup:=fun a xs h=>(Mon.own (ρ:=ρ) hd).tup a xs (x.tup a xs h)
 fro:=fun a xs h=>(Mon.own (ρ:=ρ) hd).fro a xs (x.fro a xs h)
 new:=x.new
 keep:=fun a o h hn=>by rw [upd_ne (ne_of_none h h0)]; exact x.keep a o h hn
end
structure ER (K:PySem.W.Frag) (ρ:List Addr) (H:Hp) (env:En) (σ:L2.St):Prop where
 len:env.length=σ.length
 val:∀ (i:Nat) d,env[i]?=some (some d)→∃ v,σ[i]?=some (some v)∧RD K ρ H d v
theorem ER.mono {K:PySem.W.Frag} {ρ ρ':List Addr} {H H':Hp} {env:En} {σ:L2.St} (r:ER K ρ H env σ) (x:Stp K ρ ρ' H H'):ER K ρ' H' env σ :=
 ⟨r.len,fun i d e=>let ⟨v,h1,h2⟩:=r.val i d e; ⟨v,h1,h2.mono x⟩⟩
theorem ER.mono' {K:PySem.W.Frag} {ρ ρ':List Addr} {H H':Hp} {env:En} {σ:L2.St} (r:ER K ρ H env σ) (x:Mon K ρ ρ' H H'):ER K ρ' H' env σ :=
 ⟨r.len,fun i d e=>let ⟨v,h1,h2⟩:=r.val i d e; ⟨v,h1,RD.mono' x d v h2⟩⟩
theorem ER.set {K:PySem.W.Frag} {ρ:List Addr} {H:Hp} {env:En} {σ:L2.St} (r:ER K ρ H env σ) (i:Nat) {d:D} {v:V} (h:RD K ρ H d v):ER K ρ H (env.set i (some d)) (σ.set i (some v)) :=
 ⟨by simp [r.len],fun j e h1=>by
  by_cases z:j=i
  ·subst z
   have hj:j < env.length:=by
    have:=(List.getElem?_eq_some_iff.mp h1).1
    simpa using this
   rw [List.getElem?_set_self hj] at h1
   cases h1
   exact ⟨v,by rw [List.getElem?_set_self (by rw [← r.len]; exact hj)],h⟩
  ·rw [List.getElem?_set_ne (Ne.symm z)] at h1
   obtain ⟨v',h2,h3⟩:=r.val j e h1
   exact ⟨v',by rw [List.getElem?_set_ne (Ne.symm z)]; exact h2,h3⟩⟩
structure S0 (X:Cx) (pins:List (Addr×Obj)) (σ:L2.St) (H:Hp) (s:Shared) (ρ:List Addr) (S:Sto) (env:En):Prop where
 inv:Inv X pins σ H s
 sr:SR X.K ρ S H
 er:ER X.K ρ H env σ
theorem S0.step {X:Cx} {pins:List (Addr×Obj)} {σ:L2.St} {H H':Hp} {s s':Shared} {ρ ρ':List Addr} {S S':Sto} {env:En} (I:S0 X pins σ H s ρ S env) (J:Inv X pins σ H' s') (r:SR X.K ρ' S' H') (x:Stp X.K ρ ρ' H H') :
  S0 X pins σ H' s' ρ' S' env:=⟨J,r,I.er.mono x⟩
noncomputable def EPd (X:Cx) (pins:List (Addr×Obj)) (σ:L2.St) (ρ:List Addr) (H:Hp) (d:D) (S':Sto) (u:Value) (s':Shared):Prop :=
 ∃ v H' ρ',Inv X pins σ H' s'∧RelV v u∧RD X.K ρ' H' d v∧SR X.K ρ' S' H'∧Stp X.K ρ ρ' H H'
noncomputable def Trc (ok:Addr→Prop) (H':Hp) (a:Addr) (h:Heap):Prop :=
 ∃ oe vs T oT ts,h.get? a=some oe∧oe.data=.fields vs∧vs[1]?=some (.ref T)∧ok T∧T≠a∧H' T=none∧h.get? T=some oT∧oT.data=.fields ts∧ts[3]?=some .none
theorem Trc.imp {ok ok':Addr→Prop} {H':Hp} {a:Addr} {h:Heap} (x:Trc ok H' a h) (k:∀ T,ok T→ok' T):Trc ok' H' a h:=by
 obtain ⟨oe,vs,T,oT,ts,h1,h2,h3,h4,r⟩:=x
 exact ⟨oe,vs,T,oT,ts,h1,h2,h3,k T h4,r⟩
noncomputable def Fly (X:Cx) (pins:List (Addr×Obj)) (H':Hp) (a:Addr) (h:Heap):Prop :=
 (∃ oe vs,h.get? a=some oe∧oe.data=.fields vs∧vs[1]?=some .none)∨Trc (fun T=>(T∈X.ex∨X.s₀.heap.get? T=none)∧∀ p∈X.pn++pins,p.1≠T) H' a h
noncomputable def XPd (X:Cx) (pins:List (Addr×Obj)) (σ:L2.St) (ρ:List Addr) (H:Hp) (n:Nat) (S':Sto) (e:Value) (s':Shared):Prop :=
 ∃ H' ρ' a c,Inv X pins σ H' s'∧e=.ref a∧ρ'[n]?=some a∧S'[n]?=some (.exc c)∧SR X.K ρ' S' H'∧Stp X.K ρ ρ' H H'∧Fly X pins H' a s'.heap
noncomputable def OkP (X:Cx) (pins:List (Addr×Obj)) (σ:L2.St) (ρ:List Addr) (H:Hp) (r:R D) (u:Value) (s':Shared):Prop:=∃ d S',r=.ok d S'∧EPd X pins σ ρ H d S' u s'
noncomputable def ExP (X:Cx) (pins:List (Addr×Obj)) (σ:L2.St) (ρ:List Addr) (H:Hp) {α:Type} (r:R α) (e:Value) (s':Shared):Prop:=∃ n S',r=.ex n S'∧XPd X pins σ ρ H n S' e s'
noncomputable def DE (X:Cx) (e:Expr) (f:En→Sto→R D):Prop :=
 ∀ (pins:List (Addr×Obj)) (s:Shared) (σ:L2.St) (H:Hp) (ρ:List Addr) (S:Sto) (env:En),S0 X pins σ H s ρ S env→f env S≠.bad →
  wpAny (model X.prog X.w) X.A (eval e X.env) (OkP X pins σ ρ H (f env S)) (ExP X pins σ ρ H (f env S)) s
noncomputable def DT (X:Cx) (e:Expr) (f:En→Sto→R Bool):Prop :=
 ∀ (pins:List (Addr×Obj)) (s:Shared) (σ:L2.St) (H:Hp) (ρ:List Addr) (S:Sto) (env:En),S0 X pins σ H s ρ S env→f env S≠.bad →
  wpAny (model X.prog X.w) X.A (isTrue e X.env (eval e X.env)) (fun b s'=>∃ S',f env S=.ok b S'∧∃ H' ρ',Inv X pins σ H' s'∧SR X.K ρ' S' H'∧Stp X.K ρ ρ' H H') (ExP X pins σ ρ H (f env S)) s
section
variable {X:Cx} {pins:List (Addr×Obj)} {σ:L2.St} {H:Hp} {s:Shared} {ρ:List Addr} {S S':Sto} {env:En} {e:Expr} {f:En→Sto→R D} {g:En→Sto→R Bool} {Q:Value→Shared→Prop} {E:Value→Shared→Prop}
theorem DE.ok {d:D} (h:DE X e f) (I:S0 X pins σ H s ρ S env) (r:f env S=.ok d S') (hQ:∀ u s' v H' ρ',S0 X pins σ H' s' ρ' S' env→RelV v u→RD X.K ρ' H' d v→Stp X.K ρ ρ' H H'→Q u s') :
  wpAny (model X.prog X.w) X.A (eval e X.env) Q E s:=by
 have nb:f env S≠.bad:=by rw [r]; exact fun z=>nomatch z
 refine wpAny_mono (h pins s σ H ρ S env I nb) (fun u s' q=>?_) fun x s' q=>?_
 ·obtain ⟨d',S1,e1,v,H',ρ',J,rv,rd,sr,st⟩:=q
  rw [r] at e1; cases e1
  exact hQ u s' v H' ρ' (I.step J sr st) rv rd st
 ·obtain ⟨n,S1,e1,_⟩:=q
  rw [r] at e1; cases e1
theorem DE.ex {n:Nat} (h:DE X e f) (I:S0 X pins σ H s ρ S env) (r:f env S=.ex n S') (hE:∀ x s',XPd X pins σ ρ H n S' x s'→E x s') :
  wpAny (model X.prog X.w) X.A (eval e X.env) Q E s:=by
 have nb:f env S≠.bad:=by rw [r]; exact fun z=>nomatch z
 refine wpAny_mono (h pins s σ H ρ S env I nb) (fun u s' q=>?_) fun x s' q=>?_
 ·obtain ⟨d',S1,e1,_⟩:=q
  rw [r] at e1; cases e1
 ·obtain ⟨m,S1,e1,q⟩:=q
  rw [r] at e1; cases e1
  exact hE x s' q
theorem DT.ok {Q:Bool→Shared→Prop} {b:Bool} (h:DT X e g) (I:S0 X pins σ H s ρ S env) (r:g env S=.ok b S') (hQ:∀ s' H' ρ',S0 X pins σ H' s' ρ' S' env→Stp X.K ρ ρ' H H'→Q b s') :
  wpAny (model X.prog X.w) X.A (isTrue e X.env (eval e X.env)) Q E s:=by
 have nb:g env S≠.bad:=by rw [r]; exact fun z=>nomatch z
 refine wpAny_mono (h pins s σ H ρ S env I nb) (fun u s' q=>?_) fun x s' q=>?_
 ·obtain ⟨S1,e1,H',ρ',J,sr,st⟩:=q
  rw [r] at e1; cases e1
  exact hQ s' H' ρ' (I.step J sr st) st
 ·obtain ⟨n,S1,e1,_⟩:=q
  rw [r] at e1; cases e1
theorem DT.ex {Q:Bool→Shared→Prop} {n:Nat} (h:DT X e g) (I:S0 X pins σ H s ρ S env) (r:g env S=.ex n S') (hE:∀ x s',XPd X pins σ ρ H n S' x s'→E x s') :
  wpAny (model X.prog X.w) X.A (isTrue e X.env (eval e X.env)) Q E s:=by
 have nb:g env S≠.bad:=by rw [r]; exact fun z=>nomatch z
 refine wpAny_mono (h pins s σ H ρ S env I nb) (fun u s' q=>?_) fun x s' q=>?_
 ·obtain ⟨S1,e1,_⟩:=q
  rw [r] at e1; cases e1
 ·obtain ⟨m,S1,e1,q⟩:=q
  rw [r] at e1; cases e1
  exact hE x s' q
theorem XPd.pre {ρ':List Addr} {H':Hp} {n:Nat} {x:Value} {s':Shared} (st:Stp X.K ρ ρ' H H') (h:XPd X pins σ ρ' H' n S' x s'):XPd X pins σ ρ H n S' x s':=by
 obtain ⟨H2,ρ2,a,c,J,e,hn,hc,sr,st2,fl⟩:=h
 exact ⟨H2,ρ2,a,c,J,e,hn,hc,sr,st.trans st2,fl⟩
theorem ExP.mk {α:Type} {ρ':List Addr} {H':Hp} {n:Nat} {x:Value} {s':Shared} (st:Stp X.K ρ ρ' H H') (h:XPd X pins σ ρ' H' n S' x s'):ExP X pins σ ρ H (.ex n S':R α) x s':=⟨n,S',rfl,h.pre st⟩
theorem OkP.mk {ρ':List Addr} {H':Hp} {d:D} {v:V} {u:Value} {s':Shared} (st:Stp X.K ρ ρ' H H') (J:Inv X pins σ H' s') (rv:RelV v u) (rd:RD X.K ρ' H' d v) (sr:SR X.K ρ' S' H'):OkP X pins σ ρ H (.ok d S') u s' :=
 ⟨d,S',rfl,v,H',ρ',J,rv,rd,sr,st⟩
theorem OkP.pre {ρ':List Addr} {H':Hp} {r:R D} {u:Value} {s':Shared} (st:Stp X.K ρ ρ' H H') (h:OkP X pins σ ρ' H' r u s'):OkP X pins σ ρ H r u s':=by
 obtain ⟨d,S1,e,v,H2,ρ2,J,rv,rd,sr,st2⟩:=h
 exact ⟨d,S1,e,v,H2,ρ2,J,rv,rd,sr,st.trans st2⟩
theorem ExP.pre {α:Type} {ρ':List Addr} {H':Hp} {r:R α} {x:Value} {s':Shared} (st:Stp X.K ρ ρ' H H') (h:ExP X pins σ ρ' H' r x s'):ExP X pins σ ρ H r x s':=by
 obtain ⟨n,S1,e,q⟩:=h
 exact ⟨n,S1,e,q.pre st⟩
theorem DE.bind {α:Type} (h:DE X e f) (I:S0 X pins σ H s ρ S env) {k:D→Sto→R α} (nb:(f env S).bind k≠.bad) {r:R α} (hr:r=(f env S).bind k)
  (hQ:∀ d S1 u s' v H' ρ',r=k d S1→k d S1≠.bad→S0 X pins σ H' s' ρ' S1 env→RelV v u→RD X.K ρ' H' d v→Stp X.K ρ ρ' H H'→Q u s') (hE:∀ x s',ExP X pins σ ρ H r x s'→E x s') :
  wpAny (model X.prog X.w) X.A (eval e X.env) Q E s:=by
 cases q:f env S with
 | bad=>rw [q] at nb; exact absurd rfl nb
 | ex n S1 =>
  rw [q] at hr
  exact h.ex I q fun x s' z=>hE x s' ⟨n,S1,hr,z⟩
 | ok d S1 =>
  rw [q] at hr nb
  exact h.ok I q fun u s' v H' ρ' J rv rd st=>hQ d S1 u s' v H' ρ' hr nb J rv rd st
end
end Z
end
section
namespace Z
open PySem PySem.Spec PyProof.Rows L2
theorem big_le:big≤sizeLine:=by rw [sizeLine_eq]; decide
theorem le_line {n:Nat} (h:n≤big):n≤sizeLine:=Nat.le_trans h big_le
noncomputable def tst (r:R D):R Bool:=r.bind fun x S=>match truD S x with
 | some b=>.ok b S
 | none=>.bad
section
variable {X:Cx} {pins:List (Addr×Obj)} {σ:L2.St} {H:Hp} {s:Shared} {ρ:List Addr} {S S':Sto} {env:En} {e a b c:Expr} {f fa fb fc:En→Sto→R D} {Q:Value→Shared→Prop} {E:Value→Shared→Prop} {pos:Pos}
theorem opd {f:Value→Value→Sem Value} {r:R2} {x y:V} {v u:Value} {Q':VK} (ho:OpR (X.wish E) f r) (I:Inv X pins σ H s) (rx:RelV x v) (ry:RelV y u) (h:r x y H Q')
  (hQ:∀ w s' z H',Inv X pins σ H' s'→RelV z w→Q' z H'→Q w s'):wpAny (model X.prog X.w) X.A (f v u) Q E s :=
 thn (ho pins s σ H x y v u Q' (I.wish E) rx ry h) fun w s' ⟨z,H',J,rz,q⟩=>hQ w s' z H' J.unwish rz q
theorem ped {t:TE} {Q':VK} (ho:PE (X.wish E) e t) (I:Inv X pins σ H s) (h:t σ H Q') (hQ:∀ w s' z H',Inv X pins σ H' s'→RelV z w→Q' z H'→Q w s'):wpAny (model X.prog X.w) X.A (eval e X.env) Q E s :=
 thn (ho pins s σ H Q' (I.wish E) h) fun w s' ⟨z,H',J,rz,q⟩=>hQ w s' z H' J.unwish rz q
theorem calld {f:Value} {r:List V→Hp→VK→Prop} {xs:List V} {us:List Value} {Q':VK} (ho:CallR (X.wish E) f r) (I:Inv X pins σ H s) (rx:Vals xs us) (h:r xs H Q')
  (hQ:∀ w s' z H',Inv X pins σ H' s'→RelV z w→Q' z H'→Q w s'):wpAny (model X.prog X.w) X.A (call f us) Q E s :=
 thn (ho pins s σ H xs us Q' (I.wish E) rx h) fun w s' ⟨z,H',J,rz,q⟩=>hQ w s' z H' J.unwish rz q
theorem mtd {id:String} {r:V→List V→Hp→VK→Prop} {x:V} {xs:List V} {v:Value} {us:List Value} {Q':VK} (ho:MtM (X.wish E) id r) (I:Inv X pins σ H s) (rx:RelV x v) (rs:Vals xs us) (h:r x xs H Q')
  (hQ:∀ w s' z H',Inv X pins σ H' s'→RelV z w→Q' z H'→Q w s'):wpAny (model X.prog X.w) X.A (call (.builtin id) (v :: us)) Q E s :=
 thn (ho pins s σ H x xs v us Q' (I.wish E) rx rs h) fun w s' ⟨z,H',J,rz,q⟩=>hQ w s' z H' J.unwish rz q
theorem S0.list (I:S0 X pins σ H s ρ S env) {n:Nat} {xs:List D} (h:lstAt S n=some xs):∃ a vs,ρ[n]?=some a∧H a=some (.lst vs)∧RDs X.K ρ H xs vs:=by
 unfold lstAt at h
 cases e:S[n]? with
 | none=>rw [e] at h; cases h
 | some o =>
  rw [e] at h
  cases o with
  | lst ys =>
   cases h
   obtain ⟨a,ha,vs,hv,hr⟩:=I.sr.adr e
   exact ⟨a,vs,ha,hv,hr⟩
  | set _=>cases h
  | dct _=>cases h
  | exc _=>cases h
theorem S0.seq (I:S0 X pins σ H s ρ S env) {d:D} {v:V} {xs:List D} (h:seqD S d=some xs) (r:RD X.K ρ H d v):∃ a vs,v=.ref a∧(SqL X.K H a vs∨SqT X.K H a vs)∧RDs X.K ρ H xs vs:=by
 cases d with
 | tup ys =>
  simp only [seqD,Option.some.injEq] at h; subst h
  simp only [RD] at r
  obtain ⟨a,vs,e,h1,h2⟩:=r
  exact ⟨a,vs,e,.inr h1,h2⟩
 | fro ys =>
  simp only [seqD,Option.some.injEq] at h; subst h
  simp only [RD] at r
  obtain ⟨a,vs,e,h1,h2⟩:=r
  exact ⟨a,vs,e,.inl h1.sq,h2⟩
 | ref n =>
  simp only [RD] at r
  obtain ⟨a,e,h1⟩:=r
  obtain ⟨a',vs,h2,h3,h4⟩:=I.list (xs:=xs) (n:=n) h
  rw [h1] at h2; cases h2
  exact ⟨a,vs,e,.inl (.of h3),h4⟩
 | non=>cases h
 | bl _=>cases h
 | int _=>cases h
 | str _=>cases h
 | fn _ _=>cases h
theorem isEmpty_rd {ds:List D} {vs:List V} (h:RDs X.K ρ H ds vs):(!vs.isEmpty) = !ds.isEmpty:=by
 have:=h.length
 cases ds <;> cases vs <;> simp_all
theorem tru_d (I:S0 X pins σ H s ρ S env) {d:D} {v:V} {u:Value} {k:Bool} {Q:Bool→Shared→Prop} (h:truD S d=some k) (rd:RD X.K ρ H d v) (rv:RelV v u) (hQ:∀ s',Inv X pins σ H s'→Q k s') :
  wpAny (model X.prog X.w) X.A (truthy u) Q E s:=by
 have key:TruV X.K v H k:=by
  cases d with
  | non=>simp only [RD] at rd; subst rd; simp only [truD,Option.some.injEq] at h; exact h.symm
  | bl b=>simp only [RD] at rd; subst rd; simp only [truD,Option.some.injEq] at h; exact h.symm
  | int i=>simp only [RD] at rd; subst rd; simp only [truD,Option.some.injEq] at h; exact h.symm
  | str x =>
   simp only [RD] at rd; subst rd
   simp only [truD] at h
   split at h
   ·rename_i hb
    exact ⟨le_line hb,(Option.some.inj h).symm⟩
   ·cases h
  | fn _ _=>cases h
  | tup xs =>
   simp only [truD,Option.some.injEq] at h
   obtain ⟨a,vs,e,h1,h2⟩:=I.seq (d:=.tup xs) rfl rd
   subst e
   rcases h1 with h1 | h1
   ·exact .inl ⟨vs,h1,by rw [isEmpty_rd h2]; exact h.symm⟩
   ·exact .inr (.inl ⟨vs,h1,by rw [isEmpty_rd h2]; exact h.symm⟩)
  | fro xs =>
   simp only [truD,Option.some.injEq] at h
   obtain ⟨a,vs,e,h1,h2⟩:=I.seq (d:=.fro xs) rfl rd
   subst e
   rcases h1 with h1 | h1
   ·exact .inl ⟨vs,h1,by rw [isEmpty_rd h2]; exact h.symm⟩
   ·exact .inr (.inl ⟨vs,h1,by rw [isEmpty_rd h2]; exact h.symm⟩)
  | ref n =>
   simp only [truD] at h
   cases e:S[n]? with
   | none=>rw [e] at h; cases h
   | some o =>
    rw [e] at h
    cases o with
    | lst ys =>
     obtain ⟨a,vs,h1,h2,h3⟩:=I.list (n:=n) (xs:=ys) (by unfold lstAt; rw [e])
     simp only [RD] at rd
     obtain ⟨a',e',h1'⟩:=rd
     rw [h1] at h1'; cases h1'
     subst e'
     exact .inl ⟨vs,.of h2,by rw [isEmpty_rd h3]; exact (Option.some.inj h).symm⟩
    | set _=>cases h
    | dct _=>cases h
    | exc _=>cases h
 exact thn (tru_ok (X:=X.wish E) pins s σ H v u (fun k' H'=>k'=k∧H'=H) (I.inv.wish E) rv ⟨k,key,rfl,rfl⟩) fun b s' ⟨H',J,e1,e2⟩=>by subst e1 e2; exact hQ s' J.unwish
theorem DT.of (h:DE X e f) (he:∀ whole,isTrue e X.env whole=(do let v ← whole; standAt e.pos; holding [v] (truthy v))):DT X e (fun env S=>tst (f env S)):=by
 intro pins s σ H ρ S env I nb
 dsimp only at nb ⊢
 cases q:f env S with
 | bad=>rw [q] at nb; exact absurd rfl nb
 | ex n S1=>exact isTrue_plain (h.ex I q fun x s' z=>⟨n,S1,rfl,z⟩) (he _)
 | ok d S1 =>
  rw [q] at nb
  cases t:truD S1 d with
  | none=>simp [tst,t] at nb
  | some k =>
   refine isTrue_plain (h.ok I q fun u s' v H' ρ' J rv rd st=>?_) (he _)
   exact tru_d J t rd rv fun s2 J2=>⟨S1,by simp [tst,t],H',ρ',J2,J.sr,st⟩
theorem d_var {i:Nat} {x:Str} (hN:X.N[i]?=some x) (hv:Vis X.env.scope x) (hd:(x == ("__debug__" : Str))=false) (hcd:(x == ("__classdict__" : Str))=false) :
  DE X (.Name x pos) (fun env S=>match env[i]? with | some (some d)=>.ok d S | _=>.bad):=by
 intro pins s σ H ρ S env I nb
 dsimp only at nb ⊢
 cases q:env[i]? with
 | none=>rw [q] at nb; exact absurd rfl nb
 | some o =>
  cases o with
  | none=>rw [q] at nb; exact absurd rfl nb
  | some d =>
   obtain ⟨v,h1,h2⟩:=I.er.val i d q
   exact ped (Q':=fun z H'=>z=v∧H'=H) (pe_var hN hv hd hcd) I.inv ⟨v,h1,rfl,rfl⟩ fun u s' z H' J rz ⟨e1,e2⟩=>by
    subst e1 e2; exact .mk .refl J rz h2 I.sr
theorem d_int {i:Int} {j:Nat}:DE X (.Constant (.int i) j pos) (fun _ S=>.ok (.int i) S):=fun pins s σ H ρ S env I _ =>
 ped (Q':=fun z H'=>z=.int i∧H'=H) pe_int I.inv ⟨rfl,rfl⟩ fun u s' z H' J rz ⟨e1,e2⟩=>by
  subst e1 e2; exact .mk .refl J rz (by simp only [RD]) I.sr
theorem d_bl {i:Bool} {j:Nat}:DE X (.Constant (.bool i) j pos) (fun _ S=>.ok (.bl i) S):=fun pins s σ H ρ S env I _ =>
 ped (Q':=fun z H'=>z=.bl i∧H'=H) pe_bl I.inv ⟨rfl,rfl⟩ fun u s' z H' J rz ⟨e1,e2⟩=>by
  subst e1 e2; exact .mk .refl J rz (by simp only [RD]) I.sr
theorem d_non {j:Nat}:DE X (.Constant .none j pos) (fun _ S=>.ok .non S):=fun pins s σ H ρ S env I _ =>
 ped (Q':=fun z H'=>z=.non∧H'=H) pe_non I.inv ⟨rfl,rfl⟩ fun u s' z H' J rz ⟨e1,e2⟩=>by
  subst e1 e2; exact .mk .refl J rz (by simp only [RD]) I.sr
theorem d_str {i:Str} {j:Nat}:DE X (.Constant (.str i) j pos) (fun _ S=>.ok (.str i) S):=fun pins s σ H ρ S env I _ =>
 ped (Q':=fun z H'=>z=.str i∧H'=H) pe_str I.inv ⟨rfl,rfl⟩ fun u s' z H' J rz ⟨e1,e2⟩=>by
  subst e1 e2; exact .mk .refl J rz (by simp only [RD]) I.sr
noncomputable def DA (X:Cx) (es:List Expr) (f:En→Sto→R (List D)):Prop :=
 ∀ (pos:Pos) (pins:List (Addr×Obj)) (s:Shared) (σ:L2.St) (H:Hp) (ρ:List Addr) (S:Sto) (env:En),S0 X pins σ H s ρ S env→f env S≠.bad →
  wpAny (model X.prog X.w) X.A (spliced (backTo pos (starEach es X.env)))
   (fun us s'=>∃ ds S' vs H' ρ',f env S=.ok ds S'∧Inv X pins σ H' s'∧Vals vs us∧RDs X.K ρ' H' ds vs∧SR X.K ρ' S' H'∧Stp X.K ρ ρ' H H') (ExP X pins σ ρ H (f env S)) s
theorem DA.ok {es:List Expr} {g:En→Sto→R (List D)} {Q:List Value→Shared→Prop} {ds:List D} (h:DA X es g) (I:S0 X pins σ H s ρ S env) (r:g env S=.ok ds S')
  (hQ:∀ us s' vs H' ρ',S0 X pins σ H' s' ρ' S' env→Vals vs us→RDs X.K ρ' H' ds vs→Stp X.K ρ ρ' H H'→Q us s') :
  wpAny (model X.prog X.w) X.A (spliced (backTo pos (starEach es X.env))) Q E s:=by
 have nb:g env S≠.bad:=by rw [r]; exact fun z=>nomatch z
 refine wpAny_mono (h pos pins s σ H ρ S env I nb) (fun u s' q=>?_) fun x s' q=>?_
 ·obtain ⟨d',S1,vs,H',ρ',e1,J,rv,rd,sr,st⟩:=q
  rw [r] at e1; cases e1
  exact hQ u s' vs H' ρ' (I.step J sr st) rv rd st
 ·obtain ⟨n,S1,e1,_⟩:=q
  rw [r] at e1; cases e1
theorem DA.ex {es:List Expr} {g:En→Sto→R (List D)} {Q:List Value→Shared→Prop} {n:Nat} (h:DA X es g) (I:S0 X pins σ H s ρ S env) (r:g env S=.ex n S') (hE:∀ x s',XPd X pins σ ρ H n S' x s'→E x s') :
  wpAny (model X.prog X.w) X.A (spliced (backTo pos (starEach es X.env))) Q E s:=by
 have nb:g env S≠.bad:=by rw [r]; exact fun z=>nomatch z
 refine wpAny_mono (h pos pins s σ H ρ S env I nb) (fun u s' q=>?_) fun x s' q=>?_
 ·obtain ⟨d',S1,_,_,_,e1,_⟩:=q
  rw [r] at e1; cases e1
 ·obtain ⟨m,S1,e1,q⟩:=q
  rw [r] at e1; cases e1
  exact hE x s' q
theorem da_nil:DA X [] (fun _ S=>.ok [] S):=fun _ pins s σ H ρ S env I _=>Calls.spliced_nil ⟨[],S,[],H,ρ,rfl,I.inv,.nil,.nil,I.sr,.refl⟩
theorem da_cons {es:List Expr} {g:En→Sto→R (List D)} (ha:DE X a fa) (hr:DA X es g) (hs:starEach (a :: es) X.env=(false,eval a X.env) :: starEach es X.env) :
  DA X (a :: es) (fun env S=>(fa env S).bind fun x S=>(g env S).bind fun xs S=>.ok (x :: xs) S):=by
 intro pos pins s σ H ρ S env I nb
 dsimp only at nb ⊢
 rw [hs]
 show wpAny _ _ (spliced ((false,eval a X.env) :: backTo pos (starEach es X.env))) _ _ s
 cases q:fa env S with
 | bad=>rw [q] at nb; exact absurd rfl nb
 | ex n S1=>exact Calls.spliced_cons (ha.ex I q fun x s' z=>⟨n,S1,rfl,z⟩)
 | ok d S1 =>
  rw [q] at nb
  simp only [R.bind_ok] at nb ⊢
  refine Calls.spliced_cons (ha.ok I q fun u s1 v H1 ρ1 I1 rv rd st1=>?_)
  cases q2:g env S1 with
  | bad=>rw [q2] at nb; exact absurd rfl nb
  | ex n S2=>exact hr.ex I1 q2 fun x s' z=>.mk st1 z
  | ok ds S2 =>
   refine hr.ok I1 q2 fun us s2 vs H2 ρ2 I2 rvs rds st2=>?_
   exact ⟨d :: ds,S2,v :: vs,H2,ρ2,rfl,I2.inv,.cons rv rvs,.cons (rd.mono st2) rds,I2.sr,st1.trans st2⟩
theorem fin_tup {p:Addr} {xs:List D} {vs:List V} {s':Shared} (J:Inv X pins σ (upd H p (.tup vs)) s') (hp:H p=none) (sr:SR X.K ρ S H) (rd:RDs X.K ρ H xs vs):OkP X pins σ ρ H (.ok (.tup xs) S) (.ref p) s':=by
 refine .mk (v:=.ref p) (Stp.upd hp) J rfl ?_ (sr.upd hp)
 simp only [RD]
 exact ⟨p,vs,rfl,.of upd_same,RDs.mono (Stp.upd hp) xs vs rd⟩
theorem fin_lst {p:Addr} {xs:List D} {vs:List V} {s':Shared} (J:Inv X pins σ (upd H p (.lst vs)) s') (hp:H p=none) (sr:SR X.K ρ S H) (rd:RDs X.K ρ H xs vs):OkP X pins σ ρ H (.ok (.ref S.length) (S++[.lst xs])) (.ref p) s':=by
 refine .mk (v:=.ref p) (ρ':=ρ++[p]) (Stp.new1 hp) J rfl ?_ (sr.new1 hp ⟨vs,upd_same,RDs.mono (Stp.new1 hp) xs vs rd⟩)
 simp only [RD]
 exact ⟨p,rfl,by rw [← sr.len]; simp⟩
theorem d_tup {es:List Expr} {x1:Nat} {g:En→Sto→R (List D)} (h:DA X es g):DE X (.Tuple es x1 pos) (fun env S=>(g env S).bind fun xs S=>if xs.length≤big then .ok (.tup xs) S else .bad):=by
 intro pins s σ H ρ S env I nb
 dsimp only at nb ⊢
 cases q:g env S with
 | bad=>rw [q] at nb; exact absurd rfl nb
 | ex n S1=>exact wpAny_Tuple_spliced (h.ex I q fun x s' z=>⟨n,S1,rfl,z⟩)
 | ok ds S1 =>
  rw [q] at nb
  simp only [R.bind_ok] at nb ⊢
  split at nb
  ·rename_i hz
   rw [if_pos hz]
   refine wpAny_Tuple_spliced (h.ok I q fun us s1 vs H1 ρ1 I1 rv rd st1=>⟨by rw [← rv.length,← rd.length]; exact le_line hz,?_⟩)
   have hf:H1 s1.heap.objs.size=none:=I1.inv.hok.fresh (Nat.le_refl _)
   refine OkP.pre st1 (fin_tup (I1.inv.laid (t':=s1.toks) (fun b u e=>Heap.get?_push_of_some _ e) (Nat.le_refl _) ?_) hf I1.sr rd)
   exact ⟨by rw [← rd.length]; exact le_line hz,us,rv,⟨_,Heap.get?_push_size _ rfl,rfl,_,rfl⟩⟩
  ·exact absurd rfl nb
theorem d_lst {es:List Expr} {g:En→Sto→R (List D)} (h:DA X es g):DE X (.List es pos) (fun env S=>(g env S).bind fun xs S=>if xs.length≤big then .ok (.ref S.length) (S++[.lst xs]) else .bad):=by
 intro pins s σ H ρ S env I nb
 dsimp only at nb ⊢
 cases q:g env S with
 | bad=>rw [q] at nb; exact absurd rfl nb
 | ex n S1=>exact wpAny_List_spliced (h.ex I q fun x s' z=>⟨n,S1,rfl,z⟩)
 | ok ds S1 =>
  rw [q] at nb
  simp only [R.bind_ok] at nb ⊢
  split at nb
  ·rename_i hz
   rw [if_pos hz]
   refine wpAny_List_spliced (h.ok I q fun us s1 vs H1 ρ1 I1 rv rd st1=>⟨by rw [← rv.length,← rd.length]; exact le_line hz,?_⟩)
   have hf:H1 s1.heap.objs.size=none:=I1.inv.hok.fresh (Nat.le_refl _)
   refine OkP.pre st1 (fin_lst (I1.inv.laid (t':=s1.toks) (fun b u e=>Heap.get?_push_of_some _ e) (Nat.le_refl _) ?_) hf I1.sr rd)
   exact ⟨by rw [← rd.length]; exact le_line hz,us,0,rv,Heap.get?_push_size _ rfl⟩
  ·exact absurd rfl nb
noncomputable def Op2 (X:Cx) (m:Value→Value→Sem Value) (k:D→D→Sto→R D):Prop :=
 ∀ (pins:List (Addr×Obj)) (s:Shared) (σ:L2.St) (H:Hp) (ρ:List Addr) (S:Sto) (env:En) (x y:D) (v u:V) (v' u':Value) (E:Value→Shared→Prop),S0 X pins σ H s ρ S env→k x y S≠.bad →
  RD X.K ρ H x v→RelV v v'→RD X.K ρ H y u→RelV u u'→wpAny (model X.prog X.w) X.A (m v' u') (OkP X pins σ ρ H (k x y S)) E s
theorem two {m:Value→Value→Sem Value} {k:D→D→Sto→R D} (ho:Op2 X m k) (ha:DE X a fa) (hb:DE X b fb) (I:S0 X pins σ H s ρ S env)
  (nb:(fa env S).bind (fun x S=>(fb env S).bind fun y S=>k x y S)≠.bad) :
  wpAny (model X.prog X.w) X.A (eval a X.env) (fun v s₁=>wpAny (model X.prog X.w) X.A (eval b X.env) (fun u s₂=>wpAny (model X.prog X.w) X.A (m v u)
   (OkP X pins σ ρ H ((fa env S).bind fun x S=>(fb env S).bind fun y S=>k x y S)) (ExP X pins σ ρ H ((fa env S).bind fun x S=>(fb env S).bind fun y S=>k x y S)) s₂)
   (ExP X pins σ ρ H ((fa env S).bind fun x S=>(fb env S).bind fun y S=>k x y S)) s₁) (ExP X pins σ ρ H ((fa env S).bind fun x S=>(fb env S).bind fun y S=>k x y S)) s:=by
 cases q:fa env S with
 | bad=>rw [q] at nb; exact absurd rfl nb
 | ex n S1=>exact ha.ex I q fun x s' z=>⟨n,S1,rfl,z⟩
 | ok x S1 =>
  rw [q] at nb
  simp only [R.bind_ok] at nb ⊢
  refine ha.ok I q fun v' s1 v H1 ρ1 I1 rv rd st1=>?_
  cases q2:fb env S1 with
  | bad=>rw [q2] at nb; exact absurd rfl nb
  | ex n S2=>exact hb.ex I1 q2 fun x s' z=>.mk st1 z
  | ok y S2 =>
   rw [q2] at nb
   simp only [R.bind_ok] at nb ⊢
   refine hb.ok I1 q2 fun u' s2 u H2 ρ2 I2 ru rdu st2=>?_
   exact wpAny_mono (ho pins s2 σ H2 ρ2 S2 env x y v u v' u' (fun _ _=>False) I2 nb (rd.mono st2) rv rdu ru) (fun w s3 z=>z.pre (st1.trans st2)) fun _ _ z=>z.elim
noncomputable def opB:Bo→Operator
 | .add=>.Add | .sub=>.Sub | .mul=>.Mult | .fdiv=>.FloorDiv | .mod=>.Mod | .pow=>.Pow
theorem d_bin {op:Bo} (ho:Op2 X (binaryOp (opB op)) (binD op)) (ha:DE X a fa) (hb:DE X b fb):DE X (.BinOp a (opB op) b pos) (fun env S=>(fa env S).bind fun x S=>(fb env S).bind fun y S=>binD op x y S) :=
 fun pins s σ H ρ S env I nb=>wpAny_BinOp (two ho ha hb I nb)
noncomputable def opC:Co→CmpOp
 | .eq=>.Eq | .ne=>.NotEq | .lt=>.Lt | .le=>.LtE | .gt=>.Gt | .ge=>.GtE | .isin=>.In | .notin=>.NotIn | .is=>.Is | .isnot=>.IsNot
theorem d_cmp {op:Co} (ho:Op2 X (compareOp (opC op)) (cmpR op)) (ha:DE X a fa) (hb:DE X b fb) (hm:behindInMarks (opC op) b=false) :
  DE X (.Compare a [opC op] [b] pos) (fun env S=>(fa env S).bind fun x S=>(fb env S).bind fun y S=>cmpR op x y S) :=
 fun pins s σ H ρ S env I nb=>wpAny_Compare1 (two ho ha hb I nb) hm
theorem cmpR_bl {op:Co} {x y:D} {S:Sto} (h:cmpR op x y S≠.bad):∃ r,cmpD op x y S=some r∧cmpR op x y S=.ok (.bl r) S:=by
 unfold cmpR at h ⊢
 cases e:cmpD op x y S with
 | none=>rw [e] at h; exact absurd rfl h
 | some r=>exact ⟨r,rfl,rfl⟩
theorem tst_ok {d:D} {S:Sto} {r:Bool} (h:truD S d=some r):tst (.ok d S)=.ok r S:=by simp [tst,h]
theorem dt_cmp {op:Co} (ho:Op2 X (compareOp (opC op)) (cmpR op)) (ha:DE X a fa) (hb:DE X b fb) (hm:behindInMarks (opC op) b=false) :
  DT X (.Compare a [opC op] [b] pos) (fun env S=>tst ((fa env S).bind fun x S=>(fb env S).bind fun y S=>cmpR op x y S)):=by
 intro pins s σ H ρ S env I nb
 dsimp only at nb ⊢
 have nb':((fa env S).bind fun x S=>(fb env S).bind fun y S=>cmpR op x y S)≠.bad:=fun z=>nb (by rw [z]; rfl)
 refine wpAny_isTrue_Compare1 (wpAny_mono (two ho ha hb I nb') (fun v s1 h1=>wpAny_mono h1 (fun u s2 h2=>wpAny_mono h2 (fun w s3 h3=>?_) fun x s' z=>?_) fun x s' z=>?_) fun x s' z=>?_) hm
 ·obtain ⟨d,S1,e,v1,H1,ρ1,J,rv,rd,sr,st⟩:=h3
  have hb':∃ r,d=.bl r:=by
   cases q:fa env S with
   | bad=>rw [q] at e; cases e
   | ex n S1=>rw [q] at e; cases e
   | ok x S1 =>
    rw [q] at e
    simp only [R.bind_ok] at e
    cases q2:fb env S1 with
    | bad=>rw [q2] at e; cases e
    | ex n S1=>rw [q2] at e; cases e
    | ok y S2 =>
     rw [q2] at e
     simp only [R.bind_ok] at e
     obtain ⟨r,_,e2⟩:=cmpR_bl (op:=op) (x:=x) (y:=y) (S:=S2) (by rw [e]; exact fun z=>nomatch z)
     rw [e2] at e; cases e
     exact ⟨r,rfl⟩
  obtain ⟨r,rfl⟩:=hb'
  simp only [RD] at rd
  subst rd
  cases rv
  exact wpAny_truthy_bool ⟨S1,by rw [e]; rfl,H1,ρ1,J,sr,st⟩
 all_goals (obtain ⟨n,S1,e,q⟩:=z; exact ⟨n,S1,by rw [e]; rfl,q⟩)
theorem d_and {rest:List Expr} (ha:DE X a fa) (hb:DE X (.BoolOp .And (b :: rest) pos) fb):DE X (.BoolOp .And (a :: b :: rest) pos)
  (fun env S=>(fa env S).bind fun x S=>match truD S x with | some true=>fb env S | some false=>.ok x S | none=>.bad):=by
 intro pins s σ H ρ S env I nb
 dsimp only at nb ⊢
 cases q:fa env S with
 | bad=>rw [q] at nb; exact absurd rfl nb
 | ex n S1=>exact BoolOp_and (ha.ex I q fun x s' z=>⟨n,S1,rfl,z⟩)
 | ok x S1 =>
  rw [q] at nb
  simp only [R.bind_ok] at nb ⊢
  refine BoolOp_and (ha.ok I q fun u s1 v H1 ρ1 I1 rv rd st1=>?_)
  cases t:truD S1 x with
  | none=>rw [t] at nb; exact absurd rfl nb
  | some r =>
   rw [t] at nb
   refine tru_d I1 t rd rv fun s2 J2=>?_
   cases r with
   | true=>exact wpAny_mono (hb pins s2 σ H1 ρ1 S1 env ⟨J2,I1.sr,I1.er⟩ nb) (fun w s3 z=>z.pre st1) fun x s' z=>z.pre st1
   | false=>exact .mk st1 J2 rv rd I1.sr
theorem d_or {rest:List Expr} (ha:DE X a fa) (hb:DE X (.BoolOp .Or (b :: rest) pos) fb):DE X (.BoolOp .Or (a :: b :: rest) pos)
  (fun env S=>(fa env S).bind fun x S=>match truD S x with | some true=>.ok x S | some false=>fb env S | none=>.bad):=by
 intro pins s σ H ρ S env I nb
 dsimp only at nb ⊢
 cases q:fa env S with
 | bad=>rw [q] at nb; exact absurd rfl nb
 | ex n S1=>exact BoolOp_or (ha.ex I q fun x s' z=>⟨n,S1,rfl,z⟩)
 | ok x S1 =>
  rw [q] at nb
  simp only [R.bind_ok] at nb ⊢
  refine BoolOp_or (ha.ok I q fun u s1 v H1 ρ1 I1 rv rd st1=>?_)
  cases t:truD S1 x with
  | none=>rw [t] at nb; exact absurd rfl nb
  | some r =>
   rw [t] at nb
   refine tru_d I1 t rd rv fun s2 J2=>?_
   cases r with
   | false=>exact wpAny_mono (hb pins s2 σ H1 ρ1 S1 env ⟨J2,I1.sr,I1.er⟩ nb) (fun w s3 z=>z.pre st1) fun x s' z=>z.pre st1
   | true=>exact .mk st1 J2 rv rd I1.sr
theorem d_one {op:BoolOp} (h:DE X a f):DE X (.BoolOp op [a] pos) f:=fun pins s σ H ρ S env I nb=>BoolOp_one (h pins s σ H ρ S env I nb)
theorem d_not (ha:DT X a (fun env S=>tst (fa env S))) (hv:DE X a fa):DE X (.UnaryOp .Not a pos) (fun env S=>(fa env S).bind fun x S=>match truD S x with | some r=>.ok (.bl (!r)) S | none=>.bad):=by
 intro pins s σ H ρ S env I nb
 dsimp only at nb ⊢
 cases q:fa env S with
 | bad=>rw [q] at nb; exact absurd rfl nb
 | ex n S1=>exact UnaryOp_ (hv.ex I q fun x s' z=>⟨n,S1,rfl,z⟩)
 | ok x S1 =>
  rw [q] at nb
  simp only [R.bind_ok] at nb ⊢
  refine UnaryOp_ (hv.ok I q fun u s1 v H1 ρ1 I1 rv rd st1=>?_)
  cases t:truD S1 x with
  | none=>rw [t] at nb; exact absurd rfl nb
  | some r=>exact not_of (tru_d I1 t rd rv fun s2 J2=>.mk (v:=.bl (!r)) st1 J2 rfl (by simp only [RD]) I1.sr)
theorem dt_not (ha:DT X a (fun env S=>tst (fa env S))):DT X (.UnaryOp .Not a pos) (fun env S=>tst ((fa env S).bind fun x S=>match truD S x with | some r=>.ok (.bl (!r)) S | none=>.bad)):=by
 intro pins s σ H ρ S env I nb
 dsimp only at nb ⊢
 cases q:fa env S with
 | bad=>rw [q] at nb; exact absurd rfl nb
 | ex n S1=>exact isTrue_not (ha.ex I (by simp only [q]; rfl) fun x s' z=>⟨n,S1,rfl,z⟩)
 | ok x S1 =>
  rw [q] at nb
  simp only [R.bind_ok] at nb ⊢
  cases t:truD S1 x with
  | none=>rw [t] at nb; exact absurd rfl nb
  | some r=>exact isTrue_not (ha.ok I (by simp only [q]; exact tst_ok t) fun s2 H2 ρ2 I2 st2=>⟨S1,rfl,H2,ρ2,I2.inv,I2.sr,st2⟩)
theorem d_ite (hc:DT X c (fun env S=>tst (fc env S))) (ha:DE X a fa) (hb:DE X b fb) :
  DE X (.IfExp c a b pos) (fun env S=>(fc env S).bind fun x S=>match truD S x with | some true=>fa env S | some false=>fb env S | none=>.bad):=by
 intro pins s σ H ρ S env I nb
 dsimp only at nb ⊢
 cases q:fc env S with
 | bad=>rw [q] at nb; exact absurd rfl nb
 | ex n S1=>exact wpAny_IfExp (hc.ex I (by simp only [q]; rfl) fun x s' z=>⟨n,S1,rfl,z⟩)
 | ok x S1 =>
  rw [q] at nb
  simp only [R.bind_ok] at nb ⊢
  cases t:truD S1 x with
  | none=>rw [t] at nb; exact absurd rfl nb
  | some r =>
   rw [t] at nb
   refine wpAny_IfExp (hc.ok I (by simp only [q]; exact tst_ok t) fun s2 H2 ρ2 I2 st2=>?_)
   cases r with
   | true=>exact wpAny_mono (ha pins s2 σ H2 ρ2 S1 env I2 nb) (fun w s3 z=>z.pre st2) fun x s' z=>z.pre st2
   | false=>exact wpAny_mono (hb pins s2 σ H2 ρ2 S1 env I2 nb) (fun w s3 z=>z.pre st2) fun x s' z=>z.pre st2
noncomputable def DW (X:Cx) (e:Expr) (f:En→Sto→R Bool):Prop :=
 ∀ (whole:Sem Value) (pins:List (Addr×Obj)) (s:Shared) (σ:L2.St) (H:Hp) (ρ:List Addr) (S:Sto) (env:En),S0 X pins σ H s ρ S env→f env S≠.bad →
  wpAny (model X.prog X.w) X.A (isTrue e X.env whole) (fun b s'=>∃ S',f env S=.ok b S'∧∃ H' ρ',Inv X pins σ H' s'∧SR X.K ρ' S' H'∧Stp X.K ρ ρ' H H') (ExP X pins σ ρ H (f env S)) s
theorem DW.dt {g:En→Sto→R Bool} (h:DW X e g):DT X e g:=h _
theorem dw_and1 {g:En→Sto→R Bool} (ha:DT X a g):DW X (.BoolOp .And [a] pos) g:=by
 intro wh pins s σ H ρ S env I nb
 refine isTrue_and (wpAny_mono (ha pins s σ H ρ S env I nb) (fun c s1 z=>?_) fun _ _ z=>z)
 cases c with
 | true=>exact isTrue_and_nil z
 | false=>exact z
theorem dw_or1 {g:En→Sto→R Bool} (ha:DT X a g):DW X (.BoolOp .Or [a] pos) g:=by
 intro wh pins s σ H ρ S env I nb
 refine isTrue_or (wpAny_mono (ha pins s σ H ρ S env I nb) (fun c s1 z=>?_) fun _ _ z=>z)
 cases c with
 | false=>exact isTrue_or_nil z
 | true=>exact z
theorem dw_and {rest:List Expr} (ha:DT X a (fun env S=>tst (fa env S))) (hb:DW X (.BoolOp .And (b :: rest) pos) (fun env S=>tst (fb env S))):DW X (.BoolOp .And (a :: b :: rest) pos)
  (fun env S=>tst ((fa env S).bind fun x S=>match truD S x with | some true=>fb env S | some false=>.ok x S | none=>.bad)):=by
 intro wh pins s σ H ρ S env I nb
 dsimp only at nb ⊢
 cases q:fa env S with
 | bad=>rw [q] at nb; exact absurd rfl nb
 | ex n S1=>exact isTrue_and (ha.ex I (by simp only [q]; rfl) fun x s' z=>⟨n,S1,rfl,z⟩)
 | ok x S1 =>
  rw [q] at nb
  simp only [R.bind_ok] at nb ⊢
  cases t:truD S1 x with
  | none=>rw [t] at nb; exact absurd rfl nb
  | some r =>
   rw [t] at nb
   refine isTrue_and (ha.ok I (by simp only [q]; exact tst_ok t) fun s2 H2 ρ2 I2 st2=>?_)
   cases r with
   | true=>exact wpAny_mono (hb wh pins s2 σ H2 ρ2 S1 env I2 nb) (fun w s3 ⟨S3,e3,H3,ρ3,J3,sr3,st3⟩=>⟨S3,e3,H3,ρ3,J3,sr3,st2.trans st3⟩) fun x s' z=>z.pre st2
   | false=>exact ⟨S1,tst_ok t,H2,ρ2,I2.inv,I2.sr,st2⟩
theorem dw_or {rest:List Expr} (ha:DT X a (fun env S=>tst (fa env S))) (hb:DW X (.BoolOp .Or (b :: rest) pos) (fun env S=>tst (fb env S))):DW X (.BoolOp .Or (a :: b :: rest) pos)
  (fun env S=>tst ((fa env S).bind fun x S=>match truD S x with | some true=>.ok x S | some false=>fb env S | none=>.bad)):=by
 intro wh pins s σ H ρ S env I nb
 dsimp only at nb ⊢
 cases q:fa env S with
 | bad=>rw [q] at nb; exact absurd rfl nb
 | ex n S1=>exact isTrue_or (ha.ex I (by simp only [q]; rfl) fun x s' z=>⟨n,S1,rfl,z⟩)
 | ok x S1 =>
  rw [q] at nb
  simp only [R.bind_ok] at nb ⊢
  cases t:truD S1 x with
  | none=>rw [t] at nb; exact absurd rfl nb
  | some r =>
   rw [t] at nb
   refine isTrue_or (ha.ok I (by simp only [q]; exact tst_ok t) fun s2 H2 ρ2 I2 st2=>?_)
   cases r with
   | false=>exact wpAny_mono (hb wh pins s2 σ H2 ρ2 S1 env I2 nb) (fun w s3 ⟨S3,e3,H3,ρ3,J3,sr3,st3⟩=>⟨S3,e3,H3,ρ3,J3,sr3,st2.trans st3⟩) fun x s' z=>z.pre st2
   | true=>exact ⟨S1,tst_ok t,H2,ρ2,I2.inv,I2.sr,st2⟩
end
end Z
end
section
namespace Z
open PySem PySem.Spec PyProof.Rows L2 PySem.SeqAt
open AutoSeq1 (wpAny_loadPart')
theorem nofT:fillsNumberSlot (.type "tuple") "mul" = pure false :=
 PySem.fillsNumberSlot_seq (r:=some (.builtin "tuple.__rmul__")) PySem.F.slot_tuple_mul.lookup (by decide +kernel) (by rw [typeLookup_type,builtinLookup_eq_fast]; kernel_rfl) (by decide +kernel)
theorem repT:seqRepeat? (.type "tuple")=pure (some (.builtin "tuple.__mul__")):=by
 unfold seqRepeat?
 rw [PySem.seqSlot_of (T := "tuple") (name := "__mul__") (id := "tuple.__mul__") PySem.F.slot_tuple_mul.lookup (by decide +kernel),PySem.seqSlot_of (T := "tuple") (name := "__rmul__") (id := "tuple.__rmul__") (by rw [typeLookup_type,builtinLookup_eq_fast]; kernel_rfl) (by decide +kernel)]
 rfl
noncomputable abbrev tupO (items:Array Value) (n:Nat) (dd:Option Addr) (sl:Array (Option Value)):Obj:={ cls:=.type "tuple",dict:=dd,data:=.seq items n,slots:=sl }
theorem int_rmulT (a:Int) (t:Tok) (l:Addr) (items:Array Value) (n:Nat) (dd:Option Addr) (sl:Array (Option Value)) :
  Meets (Builtin.«int.__rmul__» ⟨[.int a t,.ref l],[]⟩) (fun _ R s=>s.heap.get? l=some (tupO items n dd sl)∧R (.ok (.ret Value.notImplemented)) s) :=
 .of_wp fun prog w A R s ⟨hl,h⟩=>by
  obtain ⟨hp,g,d,tk,os⟩:=s
  wp_walk
  exact ⟨_,rfl,h⟩
section
variable (l:Addr) (items:Array Value) (n:Nat) (dd:Option Addr) (sl:Array (Option Value)) (k:Int) (u:Tok)
theorem mulT1 :
  Meets (Builtin.«tuple.__mul__» ⟨[.ref l,.int 1 u],[]⟩) (fun _ R s=>s.heap.get? l=some (tupO items n dd sl)∧R (.ok (.ret (.ref l))) s) :=
 .of_wp fun prog w A R s ⟨hl,h⟩=>by
  obtain ⟨hp,g,d,tk,os⟩:=s
  have f1:=AutoSeq1.idx_int
  have f2:=AutoSeq1.sub_tuple_tuple
  wp_walk using wpAny_loadPart' hl
  exact ⟨_,rfl,h⟩
theorem mulT0 (h0:¬ (decide (k < -2 ^ 63) || decide (k ≥ 2 ^ 63))=true) (h1:¬ (items.isEmpty || k == 1)=true) (h2:(decide (k≤0) || items.isEmpty)=true) :
  Meets (Builtin.«tuple.__mul__» ⟨[.ref l,.int k u],[]⟩) (fun _ R s=>s.heap.get? l=some (tupO items n dd sl)∧R (.ok (.ret (.ref s.heap.objs.size))) { s with heap:=s.heap.push { cls:=.type "tuple",data:=.seq #[] } }) :=
 .of_wp fun prog w A R s ⟨hl,h⟩=>by
  obtain ⟨hp,g,d,tk,os⟩:=s
  have f1:=AutoSeq1.idx_int
  have f2:=AutoSeq1.sub_tuple_tuple
  wp_walk using wpAny_loadPart' hl
  refine wpAny_ite_false (decide_eq_false h0) ?_
  wp_walk using wpAny_loadPart' hl
  exact ⟨_,rfl,h⟩
theorem mulT2 (h0:¬ (decide (k < -2 ^ 63) || decide (k ≥ 2 ^ 63))=true) (h1:¬ (items.isEmpty || k == 1)=true) (h2:¬ (decide (k≤0) || items.isEmpty)=true) (h3:¬ (items.size:Int) * k > (2 ^ 63 - 1) / 8)
  (h4:¬ Builtin.Tuple.tupleTooMany (items.size * k)=true) (h5:(List.foldl (fun x1 x2=>x1++x2) #[] (List.replicate k.toNat items)).size≤sizeLine) :
  Meets (Builtin.«tuple.__mul__» ⟨[.ref l,.int k u],[]⟩) (fun _ R s=>s.heap.get? l=some (tupO items n dd sl)∧R (.ok (.ret (.ref s.heap.objs.size))) { s with heap:=s.heap.push { cls:=.type "tuple",data:=.seq (List.foldl (fun x1 x2=>x1++x2) #[] (List.replicate k.toNat items)) } }) :=
 .of_wp fun prog w A R s ⟨hl,h⟩=>by
  obtain ⟨hp,g,d,tk,os⟩:=s
  have f1:=AutoSeq1.idx_int
  have f2:=AutoSeq1.sub_tuple_tuple
  wp_walk using wpAny_loadPart' hl
  refine wpAny_ite_false (decide_eq_false h0) ?_
  wp_walk using wpAny_loadPart' hl
  refine wpAny_ite_false (decide_eq_false h3) ?_
  wp_walk using wpAny_loadPart' hl
  exact ⟨_,rfl,h⟩
end
section
variable {X:Cx} {E:Value→Shared→Prop} {s:Shared}
theorem foldl_app (its:List Value):∀ (m:Nat) (acc:List Value),List.foldl (fun x1 x2=>x1++x2) acc.toArray (List.replicate m its.toArray)=(acc++(List.replicate m its).flatten).toArray
 | 0,acc=>by simp
 | m + 1,acc=>by
  rw [List.replicate_succ,List.foldl_cons,List.append_toArray,foldl_app its m]
  simp [List.replicate_succ]
theorem mul_tup {A:Around} {prog:Program} {w:World} {t:Addr} {vs:List Value} {k:Int} {u:Tok} {Q:Value→Shared→Prop} (ht:IsTup s.heap t vs.toArray) (hv:vs≠[]) (hk:-(1048576) < k) (hk':k < 1048576) (hz:vs.length * k.toNat≤1000000)
  (h1:k=1→Q (.ref t) s) (h2:k≠1→Q (.ref s.heap.objs.size) { s with heap:=s.heap.push { cls:=.type "tuple",data:=.seq (List.replicate k.toNat vs).flatten.toArray } }) :
  wpAny (model prog w) A (binaryOp .Mult (.ref t) (.int k u)) Q E s:=by
 obtain ⟨⟨cls,dd,data,sl⟩,ho,hc,n,hd⟩:=id ht
 simp only at hc hd
 subst hc hd
 have ez:(vs.toArray.isEmpty)=false:=by cases vs with | nil=>exact absurd rfl hv | cons _ _=>rfl
 have h0:¬ (decide (k < -2 ^ 63) || decide (k ≥ 2 ^ 63))=true:=by simp; omega
 have go:∀ {S:PySem.Spec},Meets (Builtin.«tuple.__mul__» ⟨[.ref t,.int k u],[]⟩) S→S A (wants Q E) s→wpAny (model prog w) A (binaryOp .Mult (.ref t) (.int k u)) Q E s:=fun g hS =>
  wpAny_binaryOp_repeat_ref (T := "tuple") (U := "int") (by decide) ⟨_,ho,rfl⟩ (fun s'=>typeIs_int s' k u) nofT PySem.F.fills_int_mul PySem.F.slot_int_rmul repT PySem.F.slot_int_index.lookup
   (call_meets PySem.F.slot_int_rmul (typeIs_int s k u) PySem.F.entry_int_rmul (PySem.F.args_int_rmul_2 _ _) (int_rmulT k u t vs.toArray n dd sl)
    ⟨ho,rfl,⟨_,ho,rfl⟩,call_meets PySem.F.slot_tuple_mul ⟨_,ho,rfl⟩ PySem.F.entry_tuple_mul (PySem.F.args_tuple_mul_2 _ _) g hS⟩)
 by_cases e1:k=1
 ·subst e1
  exact go (mulT1 t vs.toArray n dd sl u) ⟨ho,h1 rfl⟩
 ·have hn1:¬ (vs.toArray.isEmpty || k == 1)=true:=by rw [ez]; simpa using e1
  by_cases e0:k≤0
  ·refine go (mulT0 t vs.toArray n dd sl k u h0 hn1 (by simp [e0])) ⟨ho,?_⟩
   have:=h2 e1
   have e2:k.toNat=0:=by omega
   rw [e2] at this
   exact this
  ·have ef:=foldl_app vs k.toNat []
   rw [List.nil_append] at ef
   have hl:(List.replicate k.toNat vs).flatten.length=k.toNat * vs.length:=len_rep vs k.toNat
   have hz':vs.length * k.toNat≤sizeLine:=Nat.le_trans hz (by decide)
   have hzi:(vs.length:Int) * k≤1000000:=by
    have hkk:(k.toNat:Int)=k:=by omega
    rw [← hkk,← Int.natCast_mul]; exact Int.ofNat_le.mpr hz
   refine go (mulT2 t vs.toArray n dd sl k u h0 hn1 (by rw [ez]; simpa using e0) ?_ ?_ ?_) ⟨ho,?_⟩
   ·rw [List.size_toArray]; omega
   ·rw [List.size_toArray]
    unfold Builtin.Tuple.tupleTooMany
    have:(1000000:Int)≤(sizeLine:Int):=by decide
    intro hh
    have hh:=of_decide_eq_true hh
    omega
   ·rw [show (#[]:Array Value)=([]:List Value).toArray from rfl,ef,List.size_toArray,hl,Nat.mul_comm]; exact hz'
   ·rw [show (#[]:Array Value)=([]:List Value).toArray from rfl,ef]; exact h2 e1
end
end Z
end
section
namespace Z
open PySem PySem.Spec PyProof.Rows L2
section
variable {X:Cx} {pins:List (Addr×Obj)} {σ:L2.St} {H:Hp} {s:Shared} {ρ:List Addr} {S S':Sto} {env:En} {Q:Value→Shared→Prop} {E:Value→Shared→Prop}
mutual
theorem reads_F (I:S0 X pins σ H s ρ S env) {look:Nat→Option PyData} (hl:∀ n p a,look n=some p→ρ[n]?=some a→∃ as,Reads s.heap (.ref a) p as∧∀ b∈as,b∈ρ) :
  ∀ (d:D) (v:V) (u:Value) (p:PyData),datF look d=some p→RD X.K ρ H d v→RelV v u→∃ as,Reads s.heap u p as∧∀ b∈as,b∈ρ
 | .non,v,u,p,h,rd,rv=>by
  simp only [datF,Option.some.injEq] at h; simp only [RD] at rd; subst h rd; cases rv; exact ⟨_,.none,fun _ z=>nomatch z⟩
 | .bl b,v,u,p,h,rd,rv=>by
  simp only [datF,Option.some.injEq] at h; simp only [RD] at rd; subst h rd; cases rv; exact ⟨_,.bool b,fun _ z=>nomatch z⟩
 | .int i,v,u,p,h,rd,rv=>by
  simp only [datF,Option.some.injEq] at h; simp only [RD] at rd; subst h rd; obtain ⟨t,rfl⟩:=rv; exact ⟨_,.int i t,fun _ z=>nomatch z⟩
 | .str i,v,u,p,h,rd,rv=>by
  simp only [datF,Option.some.injEq] at h; simp only [RD] at rd; subst h rd; obtain ⟨t,rfl⟩:=rv; exact ⟨_,.str i t,fun _ z=>nomatch z⟩
 | .fro _,v,u,p,h,rd,rv=>by simp only [datF] at h; cases h
 | .tup xs,v,u,p,h,rd,rv=>by
  simp only [datF] at h
  cases e:datFs look xs with
  | none=>rw [e] at h; cases h
  | some ps =>
   rw [e] at h; cases h
   simp only [RD] at rd
   obtain ⟨a,vs,rfl,ht,hs⟩:=rd
   cases rv
   obtain ⟨its,r,⟨o,ho,hc,n,hd⟩,hz⟩:=I.inv.tuple ht
   obtain ⟨as,q,qm⟩:=reads_Fs I hl xs vs its ps e hs r
   exact ⟨_,.tuple ho hc hd (by simpa using q),qm⟩
 | .ref n,v,u,p,h,rd,rv=>by
  simp only [datF] at h
  simp only [RD] at rd
  obtain ⟨a,rfl,ha⟩:=rd
  cases rv
  exact hl n p a h ha
theorem reads_Fs (I:S0 X pins σ H s ρ S env) {look:Nat→Option PyData} (hl:∀ n p a,look n=some p→ρ[n]?=some a→∃ as,Reads s.heap (.ref a) p as∧∀ b∈as,b∈ρ) :
  ∀ (ds:List D) (vs:List V) (us:List Value) (ps:List PyData),datFs look ds=some ps→RDs X.K ρ H ds vs→Vals vs us→∃ as,ReadsAll s.heap us ps as∧∀ b∈as,b∈ρ
 | [],vs,us,ps,h,rd,rv=>by
  simp only [datFs,Option.some.injEq] at h; simp only [RDs] at rd; subst h rd; cases rv; exact ⟨_,.nil,fun _ z=>nomatch z⟩
 | d :: ds,vs,us,ps,h,rd,rv=>by
  simp only [datFs] at h
  simp only [RDs] at rd
  obtain ⟨v,r,rfl,h1,h2⟩:=rd
  cases e1:datF look d with
  | none=>rw [e1] at h; cases h
  | some p =>
   cases e2:datFs look ds with
   | none=>rw [e1,e2] at h; cases h
   | some ps' =>
    rw [e1,e2] at h; cases h
    cases rv with
    | cons ru rus =>
     obtain ⟨as,q,qm⟩:=reads_F I hl d v _ p e1 h1 ru
     obtain ⟨bs,q2,qm2⟩:=reads_Fs I hl ds r _ ps' e2 h2 rus
     exact ⟨_,.cons q q2,fun b hb=>(List.mem_append.mp hb).elim (qm b) (qm2 b)⟩
end
theorem reads_K (I:S0 X pins σ H s ρ S env):∀ (k n:Nat) (p:PyData) (a:Addr),lookK S k n=some p→ρ[n]?=some a→∃ as,Reads s.heap (.ref a) p as∧∀ b∈as,b∈ρ
 | 0,n,p,a,h,ha=>by simp only [lookK] at h; cases h
 | k + 1,n,p,a,h,ha=>by
  simp only [lookK] at h
  cases e:S[n]? with
  | none=>rw [e] at h; cases h
  | some o =>
   rw [e] at h
   have q:=I.sr.ob n a o ha e
   cases o with
   | lst xs =>
    dsimp only at h
    cases e2:datFs (lookK S k) xs with
    | none=>rw [e2] at h; cases h
    | some ps =>
     rw [e2] at h; cases h
     obtain ⟨vs,hv,hr⟩:=q
     obtain ⟨_,its,n',r,ho⟩:=I.inv.hok a _ hv
     obtain ⟨as,z,zm⟩:=reads_Fs I (reads_K I k) xs vs its ps e2 hr r
     exact ⟨_,.list ho rfl rfl (by simpa using z),fun b hb=>(List.mem_cons.mp hb).elim (fun q=>q ▸ List.mem_of_getElem? ha) (zm b)⟩
   | dct kvs =>
    obtain ⟨rfl,hv⟩:=q
    cases h
    obtain ⟨_,_,vs,r,ob,es,ep,ho,hx,hd,hh⟩:=I.inv.hok a _ hv
    cases r
    have hes:es.toList=[]:=by
     have z:=hh.2.1
     cases q:es.toList with
     | nil=>rfl
     | cons x r=>rw [q] at z; cases z
    refine ⟨_,.dict (kvs:=[]) (as:=[]) (bs:=[]) ho hx.1 hd ?_ ?_,fun b hb=>(List.mem_cons.mp hb).elim (fun q=>q ▸ List.mem_of_getElem? ha) (fun z=>nomatch z)⟩
    ·rw [hes]; exact .nil
    ·rw [hes]; exact .nil
   | set _=>cases h
   | exc _=>cases h
theorem reads_at (I:S0 X pins σ H s ρ S env) {d:D} {v:V} {u:Value} {p:PyData} (h:datD S d=some p) (rd:RD X.K ρ H d v) (rv:RelV v u):∃ as,Reads s.heap u p as∧∀ b∈as,b∈ρ :=
 reads_F I (reads_K I 4) d v u p h rd rv
theorem reads_d (I:S0 X pins σ H s ρ S env) {d:D} {v:V} {u:Value} {p:PyData} (h:datD S d=some p) (rd:RD X.K ρ H d v) (rv:RelV v u):∃ as,Reads s.heap u p as :=
 let ⟨as,r,_⟩:=reads_at I h rd rv
 ⟨as,r⟩
theorem reads_off (I:S0 X pins σ H s ρ S env) (hsm:∃ o,X.K.lookup sysModules=some o) {d:D} {v:V} {u:Value} {p:PyData} (h:datD S d=some p) (rd:RD X.K ρ H d v) (rv:RelV v u):∃ as,Reads s.heap u p as∧sysModules ∉ as:=by
 obtain ⟨as,r,hm⟩:=reads_at I h rd rv
 refine ⟨as,r,fun hb=>?_⟩
 obtain ⟨o,ho⟩:=hsm
 obtain ⟨w,hw,_⟩:=I.sr.mem (hm _ hb)
 have:=(I.inv.bs _ _ (I.inv.mod.kin _ _ ho)).2
 rw [hw] at this
 cases this
theorem fin_b' {r:Bool} {s':Shared} (sr:SR X.K ρ S H) (J:Inv X pins σ H s'):OkP X pins σ ρ H (.ok (.bl r) S) (.bool r) s':=.mk (v:=.bl r) .refl J rfl (by simp only [RD]) sr
theorem fin_i {i:Int} {t:Tok} {s':Shared} (sr:SR X.K ρ S H) (J:Inv X pins σ H s'):OkP X pins σ ρ H (.ok (.int i) S) (.int i t) s':=.mk (v:=.int i) .refl J ⟨t,rfl⟩ (by simp only [RD]) sr
theorem fin_s {x:Str} {t:Tok} {s':Shared} (sr:SR X.K ρ S H) (J:Inv X pins σ H s'):OkP X pins σ ρ H (.ok (.str x) S) (.str x t) s':=.mk (v:=.str x) .refl J ⟨t,rfl⟩ (by simp only [RD]) sr
theorem and3 {a b c:Bool} (h:(a && b && c)=true):a=true∧b=true∧c=true:=by
 rw [Bool.and_eq_true,Bool.and_eq_true] at h
 exact ⟨h.1.1,h.1.2,h.2⟩
theorem twoS_some {x y:D} {r:Bool} (h:twoS x y=some r):∃ a b,x=.str a∧y=.str b∧r=(a.cps.toList == b.cps.toList):=by
 cases x with
 | str a=>cases y with
  | str b=>exact ⟨a,b,rfl,rfl,(Option.some.inj h).symm⟩
  | _=>cases h
 | _=>cases h
theorem lenS_some {x y:D} {r:Bool} (h:lenS S x y=some r):∃ a b xs ys,x=.ref a∧y=.ref b∧lstAt S a=some xs∧lstAt S b=some ys∧xs.length≠ys.length∧r=false:=by
 cases x with
 | ref a=>cases y with
  | ref b =>
   simp only [lenS] at h
   cases e1:lstAt S a with
   | none=>rw [e1] at h; cases h
   | some xs =>
    cases e2:lstAt S b with
    | none=>rw [e1,e2] at h; cases h
    | some ys =>
     rw [e1,e2] at h
     dsimp only at h
     split at h
     ·cases h
     ·cases h; exact ⟨a,b,xs,ys,rfl,rfl,e1,e2,by assumption,rfl⟩
  | _=>cases h
 | _=>cases h
theorem eqD_some {x y:D} {r:Bool} (h0:eqD S x y=some r) (hn:twoS x y=none):(∃ p q,datD S x=some p∧datD S y=some q∧p.canLay0=true∧q.canLay0=true∧p.depth≤60∧r=PyData.eqv p q)∨lenS S x y=some r:=by
 have h:=h0
 unfold eqD at h
 rw [hn] at h
 dsimp only at h
 cases e1:datD S x with
 | none=>rw [e1] at h; exact .inr h
 | some p =>
  cases e2:datD S y with
  | none=>rw [e1,e2] at h; exact .inr h
  | some q =>
   rw [e1,e2] at h
   dsimp only at h
   split at h
   ·rename_i hc
    obtain ⟨h1,h2,h3⟩:=and3 hc
    exact .inl ⟨p,q,rfl,rfl,h1,h2,of_decide_eq_true h3,(Option.some.inj h).symm⟩
   ·exact .inr h
theorem S0.lstM (I:S0 X pins σ H s ρ S env) {n:Nat} {xs:List D} (h:lstM S n=some xs):∃ a vs,ρ[n]?=some a∧H a=some (.lst vs)∧RDs X.K ρ H xs vs:=I.list h
theorem S0.lstR (I:S0 X pins σ H s ρ S env) {n:Nat} {xs:List D} {v:V} (h:Z.lstM S n=some xs) (r:RD X.K ρ H (.ref n) v):∃ a vs,v=.ref a∧ρ[n]?=some a∧H a=some (.lst vs)∧RDs X.K ρ H xs vs:=by
 simp only [RD] at r
 obtain ⟨a,e,h1⟩:=r
 obtain ⟨a',vs,h2,h3,h4⟩:=I.lstM h
 rw [h1] at h2; cases h2
 exact ⟨a,vs,e,h1,h3,h4⟩
theorem two_lens (I:S0 X pins σ H s ρ S env) {x y:D} {v v':V} {u u':Value} {r:Bool} (h:lenS S x y=some r) (rx:RD X.K ρ H x v) (rv:RelV v u) (ry:RD X.K ρ H y v') (ru:RelV v' u') :
  r=false∧∃ a b its its',u=.ref a∧u'=.ref b∧s.heap.IsList a its∧s.heap.IsList b its'∧(its.size != its'.size)=true:=by
 obtain ⟨n,m,xs,ys,rfl,rfl,h1,h2,hne,rfl⟩:=lenS_some h
 obtain ⟨a,vs,rfl,ha,hva,ra⟩:=I.lstR h1 rx
 obtain ⟨b,us,rfl,hb,hvb,rb⟩:=I.lstR h2 ry
 cases rv; cases ru
 obtain ⟨_,i1,n1,q1,o1⟩:=I.inv.hok a _ hva
 obtain ⟨_,i2,n2,q2,o2⟩:=I.inv.hok b _ hvb
 refine ⟨rfl,a,b,i1.toArray,i2.toArray,rfl,rfl,⟨_,o1,rfl,_,rfl⟩,⟨_,o2,rfl,_,rfl⟩,?_⟩
 have e1:i1.length=xs.length:=by rw [ra.length]; exact q1.length.symm
 have e2:i2.length=ys.length:=by rw [rb.length]; exact q2.length.symm
 simp only [List.size_toArray,bne_iff_ne,ne_eq]
 omega
theorem o_eq (hu:X.A.units + 200 < cLine):Op2 X (compareOp .Eq) (cmpR .eq):=by
 intro pins s σ H ρ S env x y v u v' u' E I nb rx rv ry ru
 obtain ⟨r,e,e2⟩:=cmpR_bl nb
 rw [e2]
 cases hn:twoS x y with
 | some r' =>
  obtain ⟨a,b,rfl,rfl,hr⟩:=twoS_some hn
  have er:r=r':=by
   have e':eqD S (.str a) (.str b)=some r:=e
   unfold eqD at e'
   rw [hn] at e'
   exact (Option.some.inj e').symm
  subst er hr
  simp only [RD] at rx ry; subst rx ry
  obtain ⟨t,rfl⟩:=rv; obtain ⟨t',rfl⟩:=ru
  exact PySem.P.eq_str (fin_b' I.sr I.inv)
 | none =>
 rcases eqD_some e hn with ⟨p,q,h1,h2,h3,h4,h5,rfl⟩ | hl
 rotate_left
 ·obtain ⟨rfl,a,b,i1,i2,rfl,rfl,l1,l2,l3⟩:=two_lens I hl rx rv ry ru
  exact SeqAt.RcAt.lists_lengths l1 l2 l3 (by omega) X.prog X.w E _ (fin_b' I.sr I.inv)
 obtain ⟨as,ra⟩:=reads_d I h1 rx rv
 obtain ⟨bs,rb⟩:=reads_d I h2 ry ru
 exact SeqAt.rcAt_reads ra rb h3 h4 (by omega) X.prog X.w E _ (fin_b' I.sr I.inv)
theorem o_ne (hu:X.A.units + 200 < cLine):Op2 X (compareOp .NotEq) (cmpR .ne):=by
 intro pins s σ H ρ S env x y v u v' u' E I nb rx rv ry ru
 obtain ⟨r,e,e2⟩:=cmpR_bl nb
 rw [e2]
 simp only [cmpD,Option.map_eq_some_iff] at e
 obtain ⟨r',e,rfl⟩:=e
 cases hn:twoS x y with
 | some r2 =>
  obtain ⟨a,b,rfl,rfl,hr⟩:=twoS_some hn
  have er:r'=r2:=by
   have e':eqD S (.str a) (.str b)=some r':=e
   unfold eqD at e'
   rw [hn] at e'
   exact (Option.some.inj e').symm
  subst er hr
  simp only [RD] at rx ry; subst rx ry
  obtain ⟨t,rfl⟩:=rv; obtain ⟨t',rfl⟩:=ru
  exact PySem.P.ne_str (fin_b' I.sr I.inv)
 | none =>
 rcases eqD_some e hn with ⟨p,q,h1,h2,h3,h4,h5,rfl⟩ | hl
 rotate_left
 ·obtain ⟨rfl,a,b,i1,i2,rfl,rfl,l1,l2,l3⟩:=two_lens I hl rx rv ry ru
  exact SeqAt.RcNeAt.lists_lengths l1 l2 l3 (by omega) X.prog X.w E _ (fin_b' I.sr I.inv)
 obtain ⟨as,ra⟩:=reads_d I h1 rx rv
 obtain ⟨bs,rb⟩:=reads_d I h2 ry ru
 exact SeqAt.rcNeAt_reads ra rb h3 h4 (by omega) X.prog X.w E _ (fin_b' I.sr I.inv)
theorem inD_some {x y:D} {r:Bool} (h:inD S x y=some r):∃ p qs,datD S x=some p∧(datD S y=some (.list qs)∨datD S y=some (.tuple qs))∧p.canLay0=true∧PyData.canLayAll0 qs=true∧p.depth≤60∧r=qs.any fun q=>PyData.eqv q p:=by
 unfold inD at h
 cases e1:datD S x with
 | none=>rw [e1] at h; cases h
 | some p =>
  cases e2:datD S y with
  | none=>rw [e1,e2] at h; cases h
  | some q =>
   rw [e1,e2] at h
   cases q with
   | list qs =>
    dsimp only at h
    split at h
    ·rename_i hc
     obtain ⟨h1,h2,h3⟩:=and3 hc
     exact ⟨p,qs,rfl,.inl rfl,h1,h2,of_decide_eq_true h3,(Option.some.inj h).symm⟩
    ·cases h
   | tuple qs =>
    dsimp only at h
    split at h
    ·rename_i hc
     obtain ⟨h1,h2,h3⟩:=and3 hc
     exact ⟨p,qs,rfl,.inr rfl,h1,h2,of_decide_eq_true h3,(Option.some.inj h).symm⟩
    ·cases h
   | none=>cases h
   | bool _=>cases h
   | int _=>cases h
   | str _=>cases h
   | dict _=>cases h
theorem o_in (hu:X.A.units + 200 < cLine):Op2 X (compareOp .In) (cmpR .isin):=by
 intro pins s σ H ρ S env x y v u v' u' E I nb rx rv ry ru
 obtain ⟨r,e,e2⟩:=cmpR_bl nb
 rw [e2]
 obtain ⟨p,qs,h1,h2,h3,h4,h5,rfl⟩:=inD_some e
 obtain ⟨as,ra⟩:=reads_d I h1 rx rv
 rcases h2 with h2 | h2
 ·obtain ⟨bs,rb⟩:=reads_d I h2 ry ru
  exact SeqAt.in_list_reads rb ra h4 h3 (by omega) (fin_b' I.sr I.inv)
 ·obtain ⟨bs,rb⟩:=reads_d I h2 ry ru
  exact SeqAt.in_tuple_reads rb ra h4 h3 (by omega) (fin_b' I.sr I.inv)
theorem o_notin (hu:X.A.units + 200 < cLine):Op2 X (compareOp .NotIn) (cmpR .notin):=by
 intro pins s σ H ρ S env x y v u v' u' E I nb rx rv ry ru
 obtain ⟨r,e,e2⟩:=cmpR_bl nb
 rw [e2]
 simp only [cmpD,Option.map_eq_some_iff] at e
 obtain ⟨r',e,rfl⟩:=e
 obtain ⟨p,qs,h1,h2,h3,h4,h5,rfl⟩:=inD_some e
 obtain ⟨as,ra⟩:=reads_d I h1 rx rv
 rcases h2 with h2 | h2
 ·obtain ⟨bs,rb⟩:=reads_d I h2 ry ru
  exact SeqAt.notIn_list_reads rb ra h4 h3 (by omega) (fin_b' I.sr I.inv)
 ·obtain ⟨bs,rb⟩:=reads_d I h2 ry ru
  exact SeqAt.notIn_tuple_reads rb ra h4 h3 (by omega) (fin_b' I.sr I.inv)
theorem o_le:Op2 X (compareOp .LtE) (cmpR .le):=by
 intro pins s σ H ρ S env x y v u v' u' E I nb rx rv ry ru
 cases x with
 | int i=>cases y with
  | int j =>
   simp only [RD] at rx ry; subst rx ry
   obtain ⟨t,rfl⟩:=rv; obtain ⟨t',rfl⟩:=ru
   exact le_int (fin_b' I.sr I.inv)
  | _=>exact absurd rfl nb
 | _=>cases y <;> exact absurd rfl nb
theorem o_gt:Op2 X (compareOp .Gt) (cmpR .gt):=by
 intro pins s σ H ρ S env x y v u v' u' E I nb rx rv ry ru
 cases x with
 | int i=>cases y with
  | int j =>
   simp only [RD] at rx ry; subst rx ry
   obtain ⟨t,rfl⟩:=rv; obtain ⟨t',rfl⟩:=ru
   exact gt_int (fin_b' I.sr I.inv)
  | _=>exact absurd rfl nb
 | _=>cases y <;> exact absurd rfl nb
theorem o_ge:Op2 X (compareOp .GtE) (cmpR .ge):=by
 intro pins s σ H ρ S env x y v u v' u' E I nb rx rv ry ru
 cases x with
 | int i=>cases y with
  | int j =>
   simp only [RD] at rx ry; subst rx ry
   obtain ⟨t,rfl⟩:=rv; obtain ⟨t',rfl⟩:=ru
   exact ge_int (fin_b' I.sr I.inv)
  | _=>exact absurd rfl nb
 | _=>cases y <;> exact absurd rfl nb
theorem allInts_some:∀ {xs:List D} {ns:List Int},allInts xs=some ns→xs=ns.map D.int
 | [],ns,h=>by simp only [allInts,Option.some.injEq] at h; subst h; rfl
 | .int i :: r,ns,h=>by
  simp only [allInts,Option.map_eq_some_iff] at h
  obtain ⟨ms,h1,rfl⟩:=h
  rw [allInts_some h1]; rfl
 | .non :: _,_,h=>by simp [allInts] at h
 | .bl _ :: _,_,h=>by simp [allInts] at h
 | .str _ :: _,_,h=>by simp [allInts] at h
 | .tup _ :: _,_,h=>by simp [allInts] at h
 | .ref _ :: _,_,h=>by simp [allInts] at h
 | .fro _ :: _,_,h=>by simp [allInts] at h
theorem o_lt (hu:X.A.units + 200 < cLine):Op2 X (compareOp .Lt) (cmpR .lt):=by
 intro pins s σ H ρ S env x y v u v' u' E I nb rx rv ry ru
 cases x with
 | int i=>cases y with
  | int j =>
   simp only [RD] at rx ry; subst rx ry
   obtain ⟨t,rfl⟩:=rv; obtain ⟨t',rfl⟩:=ru
   exact lt_int (fin_b' I.sr I.inv)
  | _=>exact absurd rfl nb
 | tup xs=>cases y with
  | tup ys =>
   obtain ⟨r,e,e2⟩:=cmpR_bl nb
   rw [e2]
   simp only [cmpD,ltD] at e
   cases h1:allInts xs with
   | none=>rw [h1] at e; cases e
   | some ns =>
    cases h2:allInts ys with
    | none=>rw [h1,h2] at e; cases e
    | some ms =>
     rw [h1,h2] at e; cases e
     have q1:=allInts_some h1
     have q2:=allInts_some h2
     subst q1 q2
     simp only [RD] at rx ry
     obtain ⟨a,vs,rfl,s1,r1⟩:=rx
     obtain ⟨b,us,rfl,s2,r2⟩:=ry
     have e1:=r1.ints_of
     have e3:=r2.ints_of
     subst e1 e3
     exact opd (Q':=fun z H'=>z=.bl (HT.lexLt ns ms)∧H'=H) (op_ltT (by show X.A.units < cLine; omega)) I.inv rv ru ⟨a,b,ns,ms,rfl,rfl,s1,s2,rfl,rfl⟩ fun w s' z H' J rz ⟨z1,z2⟩=>by
      subst z1 z2; cases rz; exact fin_b' I.sr J
  | _=>exact absurd rfl nb
 | _=>cases y <;> exact absurd rfl nb
theorem o_is:Op2 X (compareOp .Is) (cmpR .is):=by
 intro pins s σ H ρ S env x y v u v' u' E I nb rx rv ry ru
 cases y with
 | non =>
  simp only [RD] at ry; subst ry; cases ru
  cases x with
  | non=>simp only [RD] at rx; subst rx; cases rv; exact wpAny_is_plain rfl (fin_b' I.sr I.inv)
  | bl b=>simp only [RD] at rx; subst rx; cases rv; exact wpAny_is_plain rfl (fin_b' I.sr I.inv)
  | int b=>simp only [RD] at rx; subst rx; obtain ⟨t,rfl⟩:=rv; exact wpAny_is_plain rfl (fin_b' I.sr I.inv)
  | str b=>simp only [RD] at rx; subst rx; obtain ⟨t,rfl⟩:=rv; exact wpAny_is_plain rfl (fin_b' I.sr I.inv)
  | tup b=>simp only [RD] at rx; obtain ⟨a,_,rfl,_⟩:=rx; cases rv; exact wpAny_is_plain rfl (fin_b' I.sr I.inv)
  | fro b=>simp only [RD] at rx; obtain ⟨a,_,rfl,_⟩:=rx; cases rv; exact wpAny_is_plain rfl (fin_b' I.sr I.inv)
  | ref b=>simp only [RD] at rx; obtain ⟨a,rfl,_⟩:=rx; cases rv; exact wpAny_is_plain rfl (fin_b' I.sr I.inv)
  | fn _ _=>simp only [RD] at rx; obtain ⟨a,rfl,_⟩:=rx; cases rv; exact wpAny_is_plain rfl (fin_b' I.sr I.inv)
 | bl c =>
  simp only [RD] at ry; subst ry; cases ru
  cases x with
  | non=>simp only [RD] at rx; subst rx; cases rv; exact wpAny_is_plain rfl (fin_b' I.sr I.inv)
  | bl b =>
   simp only [RD] at rx; subst rx; cases rv
   refine is_bool ?_
   have e:(b == c)=(c == b):=by cases b <;> cases c <;> rfl
   rw [e]
   exact fin_b' I.sr I.inv
  | int b=>simp only [RD] at rx; subst rx; obtain ⟨t,rfl⟩:=rv; exact wpAny_is_plain rfl (fin_b' I.sr I.inv)
  | str b=>simp only [RD] at rx; subst rx; obtain ⟨t,rfl⟩:=rv; exact wpAny_is_plain rfl (fin_b' I.sr I.inv)
  | tup b=>simp only [RD] at rx; obtain ⟨a,_,rfl,_⟩:=rx; cases rv; exact wpAny_is_plain rfl (fin_b' I.sr I.inv)
  | fro b=>simp only [RD] at rx; obtain ⟨a,_,rfl,_⟩:=rx; cases rv; exact wpAny_is_plain rfl (fin_b' I.sr I.inv)
  | ref b=>simp only [RD] at rx; obtain ⟨a,rfl,_⟩:=rx; cases rv; exact wpAny_is_plain rfl (fin_b' I.sr I.inv)
  | fn _ _=>simp only [RD] at rx; obtain ⟨a,rfl,_⟩:=rx; cases rv; exact wpAny_is_plain rfl (fin_b' I.sr I.inv)
 | _=>cases x <;> exact absurd rfl nb
theorem o_isnot:Op2 X (compareOp .IsNot) (cmpR .isnot):=by
 intro pins s σ H ρ S env x y v u v' u' E I nb rx rv ry ru
 cases y with
 | non =>
  simp only [RD] at ry; subst ry; cases ru
  cases x with
  | non=>simp only [RD] at rx; subst rx; cases rv; exact wpAny_isNot_plain rfl (fin_b' I.sr I.inv)
  | bl b=>simp only [RD] at rx; subst rx; cases rv; exact wpAny_isNot_plain rfl (fin_b' I.sr I.inv)
  | int b=>simp only [RD] at rx; subst rx; obtain ⟨t,rfl⟩:=rv; exact wpAny_isNot_plain rfl (fin_b' I.sr I.inv)
  | str b=>simp only [RD] at rx; subst rx; obtain ⟨t,rfl⟩:=rv; exact wpAny_isNot_plain rfl (fin_b' I.sr I.inv)
  | tup b=>simp only [RD] at rx; obtain ⟨a,_,rfl,_⟩:=rx; cases rv; exact wpAny_isNot_plain rfl (fin_b' I.sr I.inv)
  | fro b=>simp only [RD] at rx; obtain ⟨a,_,rfl,_⟩:=rx; cases rv; exact wpAny_isNot_plain rfl (fin_b' I.sr I.inv)
  | ref b=>simp only [RD] at rx; obtain ⟨a,rfl,_⟩:=rx; cases rv; exact wpAny_isNot_plain rfl (fin_b' I.sr I.inv)
  | fn _ _=>simp only [RD] at rx; obtain ⟨a,rfl,_⟩:=rx; cases rv; exact wpAny_isNot_plain rfl (fin_b' I.sr I.inv)
 | bl c =>
  simp only [RD] at ry; subst ry; cases ru
  cases x with
  | non=>simp only [RD] at rx; subst rx; cases rv; exact wpAny_isNot_plain rfl (fin_b' I.sr I.inv)
  | bl b =>
   simp only [RD] at rx; subst rx; cases rv
   refine isnot_bool ?_
   have e:(b != c)=(c != b):=by cases b <;> cases c <;> rfl
   rw [e]
   exact fin_b' I.sr I.inv
  | int b=>simp only [RD] at rx; subst rx; obtain ⟨t,rfl⟩:=rv; exact wpAny_isNot_plain rfl (fin_b' I.sr I.inv)
  | str b=>simp only [RD] at rx; subst rx; obtain ⟨t,rfl⟩:=rv; exact wpAny_isNot_plain rfl (fin_b' I.sr I.inv)
  | tup b=>simp only [RD] at rx; obtain ⟨a,_,rfl,_⟩:=rx; cases rv; exact wpAny_isNot_plain rfl (fin_b' I.sr I.inv)
  | fro b=>simp only [RD] at rx; obtain ⟨a,_,rfl,_⟩:=rx; cases rv; exact wpAny_isNot_plain rfl (fin_b' I.sr I.inv)
  | ref b=>simp only [RD] at rx; obtain ⟨a,rfl,_⟩:=rx; cases rv; exact wpAny_isNot_plain rfl (fin_b' I.sr I.inv)
  | fn _ _=>simp only [RD] at rx; obtain ⟨a,rfl,_⟩:=rx; cases rv; exact wpAny_isNot_plain rfl (fin_b' I.sr I.inv)
 | _=>cases x <;> exact absurd rfl nb
theorem o_cmp (hu:X.A.units + 200 < cLine):∀ op:Co,Op2 X (compareOp (opC op)) (cmpR op)
 | .eq=>o_eq hu | .ne=>o_ne hu | .lt=>o_lt hu | .le=>o_le | .gt=>o_gt | .ge=>o_ge | .isin=>o_in hu | .notin=>o_notin hu | .is=>o_is | .isnot=>o_isnot
theorem cat_tup0 {prog:Program} {w:World} {A:Around} {t b:Addr} {ws:List Value} (ht:IsTup s.heap t #[]) (hb:IsTup s.heap b ws.toArray) (h:Q (.ref b) s):wpAny (model prog w) A (binaryOp .Add (.ref t) (.ref b)) Q E s:=by
 obtain ⟨⟨cls,dd,data,sl⟩,ho,hc,n,hd⟩:=id ht
 obtain ⟨⟨cls2,dd2,data2,sl2⟩,ho2,hc2,n2,hd2⟩:=id hb
 simp only at hc hd hc2 hd2
 subst hc hd hc2 hd2
 exact concat_meets ⟨_,ho,rfl⟩ ⟨_,ho2,rfl⟩ noFill_tuple_add seq_tuple_add PySem.F.slot_tuple_add PySem.F.entry_tuple_add (PySem.F.args_tuple_add_2 _ _)
   (tuple_addW0 t b #[] ws.toArray n n2 dd dd2 sl sl2 rfl) ⟨ho,ho2,h⟩
theorem o_add:Op2 X (binaryOp .Add) (binD .add):=by
 intro pins s σ H ρ S env x y v u v' u' E I nb rx rv ry ru
 cases x with
 | int i=>cases y with
  | int j =>
   simp only [RD] at rx ry; subst rx ry
   obtain ⟨t,rfl⟩:=rv; obtain ⟨t',rfl⟩:=ru
   exact add_int (fin_i I.sr (I.inv.tok _))
  | _=>exact absurd rfl nb
 | str i=>cases y with
  | str j =>
   simp only [RD] at rx ry; subst rx ry
   simp only [binD] at nb ⊢
   split at nb
   ·rename_i hz
    rw [if_pos hz]
    exact opd (Q':=fun z H'=>z=.str (i++j)∧H'=H) op_add_str I.inv rv ru ⟨i,j,rfl,rfl,le_line hz,rfl,rfl⟩ fun w s' z H' J rz ⟨z1,z2⟩=>by
     subst z1 z2; obtain ⟨t,rfl⟩:=rz; exact fin_s I.sr J
   ·exact absurd rfl nb
  | _=>exact absurd rfl nb
 | tup xs=>cases y with
  | tup ys =>
   simp only [binD] at nb ⊢
   split at nb
   ·rename_i hz
    rw [if_pos hz]
    have rx':=rx
    have ry':=ry
    simp only [RD] at rx ry
    obtain ⟨a,vs,rfl,s1,r1⟩:=rx
    obtain ⟨b,us,rfl,s2,r2⟩:=ry
    cases rv; cases ru
    obtain ⟨i1,q1,p1,z1⟩:=I.inv.tuple s1
    obtain ⟨i2,q2,p2,z2⟩:=I.inv.tuple s2
    have hl1:=r1.length
    have hl2:=r2.length
    have hk1:=q1.length
    have hk2:=q2.length
    by_cases hx:xs=[]
    ·subst hx
     have:vs=[]:=by simpa [RDs] using r1
     subst this
     cases q1
     refine cat_tup0 p1 p2 ?_
     exact .mk (v:=.ref b) .refl I.inv rfl ry' I.sr
    ·refine HT.cat_tup p1 p2 (fun z=>hx ?_) (fun z=>?_) (fun z=>?_) ?_
     ·subst z; simp at hk1; rw [hk1] at hl1; simpa using hl1
     ·have:ys=[]:=by subst z; simp at hk2; rw [hk2] at hl2; simpa using hl2
      subst this
      rw [List.append_nil]
      exact .mk (v:=.ref a) .refl I.inv rfl rx' I.sr
     ·refine fin_tup (I.inv.laid (t':=s.toks) (o:=.tup (vs++us)) (fun b ob q=>Heap.get?_push_of_some _ q) (Nat.le_refl _) ?_) (I.inv.hok.fresh (Nat.le_refl _)) I.sr (r1.append r2)
      exact ⟨by rw [List.length_append,← hl1,← hl2]; exact le_line hz,_,q1.append q2,IsTup.new _ _⟩
     ·rw [← hk1,← hk2,← hl1,← hl2]; exact le_line hz
   ·exact absurd rfl nb
  | _=>exact absurd rfl nb
 | ref n=>cases y with
  | ref m =>
   simp only [binD] at nb ⊢
   cases h1:Z.lstM S n with
   | none=>rw [h1] at nb; exact absurd rfl nb
   | some xs =>
    cases h2:Z.lstM S m with
    | none=>rw [h1,h2] at nb; exact absurd rfl nb
    | some ys =>
     rw [h1,h2] at nb
     dsimp only at nb ⊢
     split at nb
     ·rename_i hz
      rw [if_pos hz]
      obtain ⟨a,vs,rfl,ha,hva,ra⟩:=I.lstR h1 rx
      obtain ⟨b,us,rfl,hb,hvb,rb⟩:=I.lstR h2 ry
      exact opd (Q':=fun z H'=>∃ p,H p=none∧z=.ref p∧H'=upd H p (.lst (vs++us))) op_cat I.inv rv ru ⟨a,b,vs,us,rfl,rfl,hva,hvb,by rw [← ra.length,← rb.length]; exact le_line hz,fun p hp=>⟨p,hp,rfl,rfl⟩⟩
       fun w s' z H' J rz ⟨p,hp,z1,z2⟩=>by subst z1 z2; cases rz; exact fin_lst J hp I.sr (ra.append rb)
     ·exact absurd rfl nb
  | _=>exact absurd rfl nb
 | _=>cases y <;> exact absurd rfl nb
theorem o_sub:Op2 X (binaryOp .Sub) (binD .sub):=by
 intro pins s σ H ρ S env x y v u v' u' E I nb rx rv ry ru
 cases x with
 | int i=>cases y with
  | int j =>
   simp only [RD] at rx ry; subst rx ry
   obtain ⟨t,rfl⟩:=rv; obtain ⟨t',rfl⟩:=ru
   exact sub_int (fin_i I.sr (I.inv.tok _))
  | _=>exact absurd rfl nb
 | _=>cases y <;> exact absurd rfl nb
theorem bits_le {i:Int} (h:i.natAbs.log2 < 100000):Builtin.Int.intBits i≤2 ^ 20:=by
 unfold Builtin.Int.intBits
 split
 ·exact Nat.zero_le _
 ·omega
theorem mulOk_ok {i j:Int} (h:mulOk i j=true):IntMulOk i j:=by
 simp only [mulOk,Bool.or_eq_true,Bool.and_eq_true,decide_eq_true_eq] at h
 rcases h with h | h
 ·have:CMul i j:=h
  exact this.ok
 ·exact IntMulOk.of_bits (bits_le h.1) (bits_le h.2)
theorem o_mul:Op2 X (binaryOp .Mult) (binD .mul):=by
 intro pins s σ H ρ S env x y v u v' u' E I nb rx rv ry ru
 cases x with
 | int i=>cases y with
  | int j =>
   simp only [RD] at rx ry; subst rx ry
   obtain ⟨t,rfl⟩:=rv; obtain ⟨t',rfl⟩:=ru
   simp only [binD] at nb ⊢
   split at nb
   ·rename_i hz
    rw [if_pos hz]
    exact mul_int (fin_i I.sr (I.inv.tok _)) (mulOk_ok hz)
   ·exact absurd rfl nb
  | _=>exact absurd rfl nb
 | tup xs=>cases y with
  | int k =>
   simp only [binD] at nb ⊢
   split at nb
   ·rename_i hz
    rw [if_pos hz]
    have rx':=rx
    simp only [RD] at rx ry
    subst ry
    obtain ⟨a,vs,rfl,s1,r1⟩:=rx
    cases rv; obtain ⟨t',rfl⟩:=ru
    obtain ⟨i1,q1,p1,z1⟩:=I.inv.tuple s1
    have hl1:=r1.length
    have hk1:=q1.length
    have hne:i1≠[]:=fun z=>by
     subst z
     have:xs=[]:=List.eq_nil_of_length_eq_zero (by rw [hl1,hk1]; rfl)
     subst this
     exact absurd hz.2.2.2 (by simp)
    refine mul_tup p1 hne hz.2.2.1 hz.1 (by rw [← hk1,← hl1]; exact hz.2.1) (fun e=>?_) (fun e=>?_)
    ·subst e
     have e1:(List.replicate (1:Int).toNat xs).flatten=xs:=by simp
     rw [e1]
     exact .mk (v:=.ref a) .refl I.inv rfl rx' I.sr
    ·have hr:∀ m:Nat,RDs X.K ρ H (List.replicate m xs).flatten (List.replicate m vs).flatten:=fun m=>by
      induction m with
      | zero=>simpa using RDs.nil
      | succ m ih=>rw [List.replicate_succ,List.replicate_succ,List.flatten_cons,List.flatten_cons]; exact r1.append ih
     refine fin_tup (I.inv.laid (t':=s.toks) (o:=.tup (List.replicate k.toNat vs).flatten) (fun b ob q=>Heap.get?_push_of_some _ q) (Nat.le_refl _) ?_) (I.inv.hok.fresh (Nat.le_refl _)) I.sr (hr _)
     exact ⟨by rw [len_rep,← hl1,Nat.mul_comm]; exact le_line hz.2.1,_,q1.rep _,IsTup.new _ _⟩
   ·exact absurd rfl nb
  | _=>exact absurd rfl nb
 | ref n=>cases y with
  | int k =>
   simp only [binD] at nb ⊢
   cases h1:Z.lstM S n with
   | none=>rw [h1] at nb; exact absurd rfl nb
   | some xs =>
    rw [h1] at nb
    dsimp only at nb ⊢
    split at nb
    ·rename_i hz
     rw [if_pos hz]
     obtain ⟨a,vs,rfl,ha,hva,ra⟩:=I.lstR h1 rx
     simp only [RD] at ry; subst ry
     have hr:RDs X.K ρ H (List.replicate k.toNat xs).flatten (List.replicate k.toNat vs).flatten:=by
      induction k.toNat with
      | zero=>simpa using RDs.nil
      | succ m ih=>rw [List.replicate_succ,List.replicate_succ,List.flatten_cons,List.flatten_cons]; exact ra.append ih
     exact opd (Q':=fun z H'=>∃ p,H p=none∧z=.ref p∧H'=upd H p (.lst (List.replicate k.toNat vs).flatten)) op_rep I.inv rv ru
      ⟨a,k,vs,rfl,rfl,hva,by omega,by omega,by rw [← ra.length]; exact le_line hz.2.1,fun p hp=>⟨p,hp,rfl,rfl⟩⟩
      fun w s' z H' J rz ⟨p,hp,z1,z2⟩=>by subst z1 z2; cases rz; exact fin_lst J hp I.sr hr
    ·exact absurd rfl nb
  | _=>exact absurd rfl nb
 | _=>cases y <;> exact absurd rfl nb
theorem o_fdiv:Op2 X (binaryOp .FloorDiv) (binD .fdiv):=by
 intro pins s σ H ρ S env x y v u v' u' E I nb rx rv ry ru
 cases x with
 | int i=>cases y with
  | int j =>
   simp only [RD] at rx ry; subst rx ry
   obtain ⟨t,rfl⟩:=rv; obtain ⟨t',rfl⟩:=ru
   simp only [binD] at nb ⊢
   split at nb
   ·rename_i hz
    rw [if_pos hz]
    simp only [divOk,Bool.and_eq_true,decide_eq_true_eq] at hz
    have hj:(0:Int) < j:=hz.1
    exact floordiv_int (by omega) (by rw [Int.fdiv_eq_ediv_of_nonneg i (by omega)]; exact fin_i I.sr (I.inv.tok _)) (.inl (PyProof.noPylong_of_log2 hz.2))
   ·exact absurd rfl nb
  | _=>exact absurd rfl nb
 | _=>cases y <;> exact absurd rfl nb
theorem o_mod:Op2 X (binaryOp .Mod) (binD .mod):=by
 intro pins s σ H ρ S env x y v u v' u' E I nb rx rv ry ru
 cases x with
 | int i=>cases y with
  | int j =>
   simp only [RD] at rx ry; subst rx ry
   obtain ⟨t,rfl⟩:=rv; obtain ⟨t',rfl⟩:=ru
   simp only [binD] at nb ⊢
   split at nb
   ·rename_i hz
    rw [if_pos hz]
    exact mod_int' (by omega) (by rw [Int.fmod_eq_emod_of_nonneg i (by omega)]; exact fin_i I.sr (I.inv.tok _))
   ·exact absurd rfl nb
  | _=>exact absurd rfl nb
 | _=>cases y <;> exact absurd rfl nb
theorem o_pow:Op2 X (binaryOp .Pow) (binD .pow):=by
 intro pins s σ H ρ S env x y v u v' u' E I nb rx rv ry ru
 cases x with
 | int i=>cases y with
  | int j =>
   simp only [RD] at rx ry; subst rx ry
   obtain ⟨t,rfl⟩:=rv; obtain ⟨t',rfl⟩:=ru
   simp only [binD] at nb ⊢
   split at nb
   ·rename_i hz
    rw [if_pos hz]
    exact pow_int_small hz.1 (by omega) (by omega) (fin_i I.sr (I.inv.tok _))
   ·exact absurd rfl nb
  | _=>exact absurd rfl nb
 | _=>cases y <;> exact absurd rfl nb
theorem o_bin:∀ op:Bo,Op2 X (binaryOp (opB op)) (binD op)
 | .add=>o_add | .sub=>o_sub | .mul=>o_mul | .fdiv=>o_fdiv | .mod=>o_mod | .pow=>o_pow
end
end Z
end
section
namespace Z
open PySem PySem.Spec PyProof.Rows L2
theorem ixN_eq (n:Nat) (i:Int):Z.ixN n i=L2.ixN n i:=rfl
section
variable {X:Cx} {pins:List (Addr×Obj)} {σ:L2.St} {H:Hp} {s:Shared} {ρ:List Addr} {S S':Sto} {env:En} {Q:Value→Shared→Prop} {E:Value→Shared→Prop} {a b c e:Expr} {f fa fb fc:En→Sto→R D} {pos:Pos}
theorem idx_rd {xs:List D} {vs:List V} {k:Int} {d:D} (r:RDs X.K ρ H xs vs) (h:((Z.ixN xs.length k).bind fun j=>xs[j]?)=some d):∃ v,atI vs k=some v∧RD X.K ρ H d v:=by
 cases e:Z.ixN xs.length k with
 | none=>rw [e] at h; cases h
 | some j =>
  rw [e] at h
  obtain ⟨v,h1,h2⟩:=r.get (i:=j) (d:=d) h
  refine ⟨v,?_,h2⟩
  show ((L2.ixN vs.length k).bind fun j=>vs[j]?)=some v
  rw [← r.length]
  rw [ixN_eq] at e
  rw [e]
  exact h1
theorem o_idx (hs:PlainIx b):Op2 X (subscriptTail a b) idxR:=by
 intro pins s σ H ρ S env x y v u v' u' E I nb rx rv ry ru
 unfold idxR at nb ⊢
 cases e:idxD x y S with
 | none=>rw [e] at nb; exact absurd rfl nb
 | some d =>
  cases y with
  | int k =>
   simp only [RD] at ry; subst ry
   have ixr:∀ {r:R2} (hr:IxR (X.wish E) r) (z:V),r v (.int k) H (fun z' H'=>z'=z∧H'=H)→RD X.K ρ H d z→wpAny (model X.prog X.w) X.A (subscriptTail a b v' u') (OkP X pins σ ρ H (.ok d S)) E s:=fun {r} hr z h1 h2 =>
    thn (hr a b pins s σ H v (.int k) v' u' _ (I.inv.wish E) rv ru h1 (hs _ _)) fun w s' ⟨z',H',J,rz,e1,e2⟩=>by subst e1 e2; exact .mk .refl J.unwish rz h2 I.sr
   have seq:∀ xs,seqD S x=some xs→((Z.ixN xs.length k).bind fun j=>xs[j]?)=some d→wpAny (model X.prog X.w) X.A (subscriptTail a b v' u') (OkP X pins σ ρ H (.ok d S)) E s:=fun xs h1 h2=>by
    obtain ⟨p,vs,rfl,hq,hr⟩:=I.seq h1 rx
    obtain ⟨z,hz,rz⟩:=idx_rd hr h2
    rcases hq with hq | hq
    ·exact ixr ix_list z ⟨p,vs,k,z,rfl,rfl,hq,hz,rfl,rfl⟩ rz
    ·exact ixr ix_tup z ⟨p,vs,k,z,rfl,rfl,hq,hz,rfl,rfl⟩ rz
   cases x with
   | str z =>
    simp only [idxD] at e
    simp only [RD] at rx; subst rx
    split at e
    ·rename_i hz
     cases e1:Z.ixN z.length k with
     | none=>rw [e1] at e; cases e
     | some j =>
      rw [e1] at e
      simp only [Option.bind_some,Option.map_eq_some_iff] at e
      obtain ⟨c,hc,rfl⟩:=e
      refine ixr ix_str (.str ⟨#[c]⟩) ⟨z,k,c,rfl,rfl,le_line hz,?_,rfl,rfl⟩ (by simp only [RD])
      show ((L2.ixN z.cps.toList.length k).bind fun j=>z.cps.toList[j]?)=some c
      have:z.cps.toList.length=z.length:=by simp [Str.length]
      rw [this,← ixN_eq,e1]
      exact hc
    ·cases e
   | tup xs=>exact seq xs rfl (by simpa [idxD,seqD] using e)
   | fro xs=>exact seq xs rfl (by simpa [idxD,seqD] using e)
   | ref n =>
    simp only [idxD,seqD] at e
    cases e1:lstAt S n with
    | none=>rw [e1] at e; cases e
    | some xs=>rw [e1] at e; exact seq xs e1 e
   | non=>simp [idxD,seqD] at e
   | bl _=>simp [idxD,seqD] at e
   | int _=>simp [idxD,seqD] at e
   | fn _ _=>simp [idxD,seqD] at e
  | _=>simp [idxD] at e
theorem d_idx (hs:PlainIx b) (ha:DE X a fa) (hb:DE X b fb):DE X (.Subscript a b pos) (fun env S=>(fa env S).bind fun x S=>(fb env S).bind fun y S=>idxR x y S) :=
 fun pins s σ H ρ S env I nb=>Subscript_ (two (o_idx hs) ha hb I nb)
noncomputable def spD (K:PySem.W.Frag) (n:Nat) (F:List D→Sto→R D):Sp:=fun vs H Q E=>∃ ds ρ S,vs.length=n∧RDs K ρ H ds vs∧SR K ρ S H∧F ds S≠.bad ∧
 (∀ d S' v H' ρ',F ds S=.ok d S'→RD K ρ' H' d v→SR K ρ' S' H'→Stp K ρ ρ' H H'→Q v H') ∧
 ∀ n c S' a H' ρ',F ds S=.ex n S'→ρ'[n]?=some a→S'[n]?=some (.exc c)→SR K ρ' S' H'→Stp K ρ ρ' H H'→E (.ref a) none H'
noncomputable def CXd (P:Program) (w:World):CXT:=fun outer H s E e s'=>∃ H',s'.os=s.os∧AllBare s'.gens∧Un (frs outer) [] H H' s.heap s'.heap∧HOk P w H' s'.heap∧(∃ a,e=.ref a∧Trc (fun T=>s.heap.get? T=none) H' a s'.heap)∧E e none H'
structure RoomC (cm:Bool) (k:Nat) (A:Around):Prop where
 gd:A.guards=some []
 hd:cm=true→A.handled=none
 dp:A.depth + 3 * k + 5 < recursionLimit
 un:A.units + 16 * k + 200 < cLine
theorem RoomC.of {cm:Bool} {k:Nat} {A:Around} (r:Room k A):RoomC cm k A:=⟨r.gd,fun _=>r.hd,r.dp,r.un⟩
theorem RoomC.less {cm cm2:Bool} {k:Nat} {A:Around} (r:RoomC cm k A) (h:cm2=true→cm=true):RoomC cm2 k A:=⟨r.gd,fun z=>r.hd (h z),r.dp,r.un⟩
theorem RoomC.deeper {cm:Bool} {k:Nat} {A:Around} (r:RoomC cm (k + 1) A) (env:PySem.Env):RoomC cm k (A.deeper env) :=
 ⟨r.gd,r.hd,by have:=r.dp; show A.depth + 1 + 3 * k + 5 < _; omega,by have:=r.un; show A.units + 3 + 16 * k + 200 < _; omega⟩
theorem RoomC.mark {cm:Bool} {k:Nat} {A:Around} {h:Option Value} (r:RoomC cm k A):RoomC false k (A.mark h):=⟨r.gd,(fun z=>nomatch z),r.dp,r.un⟩
structure FnD (cm:Bool) (P:Program) (w:World) (K:PySem.W.Frag) (mg:Str→Option Value) (base:Heap) (k:Nat) (f:Addr) (fd:FuncData) (ps:List Str) (F:List D→Sto→R D):Prop where
 run:∀ (A:Around) (outer:List PySem.Env) (s:Shared) (H:Hp) (args:Args) (us:List Value) (vs:List V) (Q:VK) (E:XK),RoomC cm k A→Env0 P w K mg base A outer s H→BindsTo s fd args (ps.zip us)→Vals vs us→spD K ps.length F vs H Q E →
  codeAny (model P w) A (.call (.ref f) args) (CR (CXd P w) outer P w H s Q E) s
theorem run_d {cm:Bool} {k:Nat} {g:Addr} {fd:FuncData} {ps:List Str} {F:List D→Sto→R D} {us:List Value} {vs:List V} {ds:List D} (G:FnD cm X.prog X.w X.K X.mg X.base k g fd ps F) (hr:RoomC cm k X.A) (hb:Binds X.K fd ps [])
  (I:S0 X pins σ H s ρ S env) (rv:Vals vs us) (rd:RDs X.K ρ H ds vs) (hl:ds.length=ps.length) (nb:F ds S≠.bad) :
  wpAny (model X.prog X.w) X.A (call (.ref g) us) (OkP X pins σ ρ H (F ds S)) (ExP X pins σ ρ H (F ds S)) s:=by
 have hlv:vs.length=ps.length:=by rw [← rd.length]; exact hl
 have hb':BindsTo s fd ⟨us,[]⟩ (ps.zip us):=by
  have:=hb s us I.inv.kIn (by rw [List.append_nil,← rv.length]; exact hlv)
  rwa [List.append_nil] at this
 have hsp:spD X.K ps.length F vs H (fun v H'=>∃ d S' ρ',F ds S=.ok d S'∧RD X.K ρ' H' d v∧SR X.K ρ' S' H'∧Stp X.K ρ ρ' H H')
   (fun e _ H'=>∃ n c S' a ρ',F ds S=.ex n S'∧e=.ref a∧ρ'[n]?=some a∧S'[n]?=some (.exc c)∧SR X.K ρ' S' H'∧Stp X.K ρ ρ' H H') :=
  ⟨ds,ρ,S,hlv,rd,I.sr,nb,fun d S' v H' ρ' h1 h2 h3 h4=>⟨d,S',ρ',h1,h2,h3,h4⟩,fun n c S' a H' ρ' h1 h2 h3 h4 h5=>⟨n,c,S',a,ρ',h1,rfl,h2,h3,h4,h5⟩⟩
 refine wpAny_call (codeAny_mono (G.run X.A X.stack s H ⟨us,[]⟩ us vs _ _ hr I.inv.env0 hb' rv hsp) fun r s' hq=>?_)
 cases r with
 | error e =>
  obtain ⟨H',os,bare,un,hok,⟨a',h0,tr⟩,n,c,S',a,ρ',h1,h2,h3,h4,h5,h6⟩:=hq
  refine ⟨n,S',h1,H',ρ',a,c,I.inv.call' os un hok bare (fun b z=>absurd z (by simp)),h2,h3,h4,h5,h6,.inr ?_⟩
  rw [h2] at h0; cases h0
  refine tr.imp fun T hT=>⟨?_,fun p hp z=>?_⟩
  ·by_cases hx:T∈X.ex
   ·exact .inl hx
   ·cases q:X.s₀.heap.get? T with
    | none=>exact .inr rfl
    | some o=>obtain ⟨o',e⟩:=I.inv.base.there T o q hx; rw [hT] at e; cases e
  ·have:=(I.inv.pin p hp).1
   rw [z,hT] at this; cases this
 | ok fl =>
  cases fl with
  | ret u =>
   obtain ⟨v,H',J,rv',d,S',ρ',h1,h2,h3,h4⟩:=I.inv.after hq
   exact ⟨d,S',h1,v,H',ρ',J,rv',h2,h3,h4⟩
  | next=>exact False.elim hq
  | brk=>exact False.elim hq
  | cont=>exact False.elim hq
theorem d_call {cm:Bool} {k:Nat} {g:Addr} {fd:FuncData} {ps:List Str} {F:List D→Sto→R D} {x:Str} {p:Pos} {es:List Expr} {ga:En→Sto→R (List D)} (G:FnD cm X.prog X.w X.K X.mg X.base k g fd ps F) (hr:RoomC cm k X.A) (hb:Binds X.K fd ps [])
  (hg:Gl X x) (hm:X.mg x=some (.ref g)) (hk:PySem.W.keepIn X.K (.ref g)=true) (ha:DA X (e :: es) ga) (hl:∀ env S ds S',ga env S=.ok ds S'→ds.length=ps.length)
  (hdb:(x == ("__debug__" : Str))=false) (he:starEach (e :: es) X.env=(false,eval e X.env) :: starEach es X.env) (hpl:(backTo pos (starEach es X.env)).any (·.1)=false) :
  DE X (.Call (.Name x p) (e :: es) [] pos) (fun env S=>(ga env S).bind fun xs S=>F xs S):=by
 intro pins s σ H ρ S env I nb
 dsimp only at nb ⊢
 refine wpAny_Call_Name_kw (ld_glob I.inv hg hm ?_ hdb)
 cases q:ga env S with
 | bad=>rw [q] at nb; exact absurd rfl nb
 | ex n S1=>exact PySem.W.callWith_K (h₀:=X.base) I.inv.ok.mod.kin hk (ha.ex I q fun x s' z=>⟨n,S1,rfl,z⟩) he hpl
 | ok ds S1 =>
  rw [q] at nb
  simp only [R.bind_ok] at nb ⊢
  refine PySem.W.callWith_K (h₀:=X.base) I.inv.ok.mod.kin hk (ha.ok I q fun us s1 vs H1 ρ1 I1 rv rd st1=>⟨I1.inv.kIn,?_⟩) he hpl
  exact wpAny_mono (run_d G hr hb I1 rv rd (hl env S ds S1 q) nb) (fun u s2 z=>z.pre st1) fun x s2 z=>z.pre st1
noncomputable def FlP (X:Cx) (pins:List (Addr×Obj)) (σ:L2.St) (ρ:List Addr) (H:Hp) (na:Bool) (S':Sto) (s':Shared):Fl→Flow→Prop
 | .nx e,fl=>fl=.next∧∃ σ' H' ρ',S0 X pins σ' H' s' ρ' S' e∧Stp X.K ρ ρ' H H'∧(na=true→σ'=σ)
 | .brk e,fl=>fl=.brk∧∃ σ' H' ρ',S0 X pins σ' H' s' ρ' S' e∧Stp X.K ρ ρ' H H'
 | .cnt e,fl=>fl=.cont∧∃ σ' H' ρ',S0 X pins σ' H' s' ρ' S' e∧Stp X.K ρ ρ' H H'
 | .rt d,fl=>∃ u v σ' H' ρ',fl=.ret u∧Inv X pins σ' H' s'∧RelV v u∧RD X.K ρ' H' d v∧SR X.K ρ' S' H'∧Stp X.K ρ ρ' H H'
noncomputable def OkS (X:Cx) (pins:List (Addr×Obj)) (σ:L2.St) (ρ:List Addr) (H:Hp) (na:Bool) (r:R Fl) (fl:Flow) (s':Shared):Prop:=∃ x S',r=.ok x S'∧FlP X pins σ ρ H na S' s' x fl
noncomputable def ExS (X:Cx) (pins:List (Addr×Obj)) (σ:L2.St) (ρ:List Addr) (H:Hp) (na:Bool) (r:R Fl) (e:Value) (s':Shared):Prop:=∃ n S' σ',r=.ex n S'∧(na=true→σ'=σ)∧XPd X pins σ' ρ H n S' e s'
noncomputable def DS (X:Cx) (st:Stmt) (na:Bool) (f:En→Sto→R Fl):Prop :=
 ∀ (pins:List (Addr×Obj)) (s:Shared) (σ:L2.St) (H:Hp) (ρ:List Addr) (S:Sto) (env:En),S0 X pins σ H s ρ S env→f env S≠.bad →
  wpAny (model X.prog X.w) X.A (exec st X.env) (OkS X pins σ ρ H na (f env S)) (ExS X pins σ ρ H na (f env S)) s
noncomputable def DSs (X:Cx) (st:List Stmt) (na:Bool) (f:En→Sto→R Fl):Prop :=
 ∀ (pins:List (Addr×Obj)) (s:Shared) (σ:L2.St) (H:Hp) (ρ:List Addr) (S:Sto) (env:En),S0 X pins σ H s ρ S env→f env S≠.bad →
  wpAny (model X.prog X.w) X.A (execs st X.env) (OkS X pins σ ρ H na (f env S)) (ExS X pins σ ρ H na (f env S)) s
theorem FlP.pre {x:Fl} {fl:Flow} {s':Shared} {σ':L2.St} {ρ':List Addr} {H':Hp} {na na':Bool} (st:Stp X.K ρ ρ' H H') (hn:na'=true→na=true∧σ'=σ) (h:FlP X pins σ' ρ' H' na S' s' x fl):FlP X pins σ ρ H na' S' s' x fl:=by
 cases x with
 | nx e=>obtain ⟨h1,σ2,H2,ρ2,h2,h3,h4⟩:=h; exact ⟨h1,σ2,H2,ρ2,h2,st.trans h3,fun z=>(h4 (hn z).1).trans (hn z).2⟩
 | brk e=>obtain ⟨h1,σ2,H2,ρ2,h2,h3⟩:=h; exact ⟨h1,σ2,H2,ρ2,h2,st.trans h3⟩
 | cnt e=>obtain ⟨h1,σ2,H2,ρ2,h2,h3⟩:=h; exact ⟨h1,σ2,H2,ρ2,h2,st.trans h3⟩
 | rt d=>obtain ⟨u,v,σ2,H2,ρ2,h1,h2,h3,h4,h5,h6⟩:=h; exact ⟨u,v,σ2,H2,ρ2,h1,h2,h3,h4,h5,st.trans h6⟩
theorem OkS.pre {r:R Fl} {fl:Flow} {s':Shared} {σ':L2.St} {ρ':List Addr} {H':Hp} {na na':Bool} (st:Stp X.K ρ ρ' H H') (hn:na'=true→na=true∧σ'=σ) (h:OkS X pins σ' ρ' H' na r fl s'):OkS X pins σ ρ H na' r fl s':=by
 obtain ⟨x,S1,e,h⟩:=h; exact ⟨x,S1,e,h.pre st hn⟩
theorem ExS.of {na:Bool} {r:R Fl} {x:Value} {s':Shared} {n:Nat} {ρ':List Addr} {H':Hp} (st:Stp X.K ρ ρ' H H') (h:XPd X pins σ ρ' H' n S' x s') (e:r=.ex n S'):ExS X pins σ ρ H na r x s':=⟨n,S',σ,e,fun _=>rfl,h.pre st⟩
theorem ExS.pre {na na':Bool} {σ':L2.St} {r:R Fl} {x:Value} {s':Shared} {ρ':List Addr} {H':Hp} (st:Stp X.K ρ ρ' H H') (hn:na'=true→na=true∧σ'=σ) (h:ExS X pins σ' ρ' H' na r x s'):ExS X pins σ ρ H na' r x s':=by
 obtain ⟨n,S1,σ2,e,h1,h2⟩:=h
 exact ⟨n,S1,σ2,e,fun z=>(h1 (hn z).1).trans (hn z).2,h2.pre st⟩
variable {st:Stmt} {rest sa sb:List Stmt} {g g2:En→Sto→R Fl} {na na2:Bool}
theorem DS.weak (h:DS X st na g) (hn:na2=true→na=true):DS X st na2 g:=fun pins s σ H ρ S env I nb =>
 wpAny_mono (h pins s σ H ρ S env I nb) (fun _ _ z=>z.pre .refl fun q=>⟨hn q,rfl⟩) fun _ _ z=>z.pre .refl fun q=>⟨hn q,rfl⟩
theorem dss_nil:DSs X [] true (fun env S=>.ok (.nx env) S):=fun pins s σ H ρ S env I _=>wpAny_execs_nil ⟨.nx env,S,rfl,rfl,σ,H,ρ,I,.refl,fun _=>rfl⟩
theorem dss_cons (h1:DS X st na g) (h2:DSs X rest na2 g2):DSs X (st :: rest) (na && na2) (fun env S=>match g env S with | .ok (.nx e) S'=>g2 e S' | r=>r):=by
 intro pins s σ H ρ S env I nb
 dsimp only at nb ⊢
 refine wpAny_execs_cons ?_
 cases q:g env S with
 | bad=>rw [q] at nb; exact absurd rfl nb
 | ex n S1 =>
  refine wpAny_mono (h1 pins s σ H ρ S env I (by rw [q]; exact fun z=>nomatch z)) (fun fl s1 z=>?_) fun x s1 z=>?_
  ·obtain ⟨x,S2,e,_⟩:=z; rw [q] at e; cases e
  ·rw [q] at z
   exact z.pre .refl fun w=>⟨by rw [Bool.and_eq_true] at w; exact w.1,rfl⟩
 | ok x S1 =>
  rw [q] at nb
  refine wpAny_mono (h1 pins s σ H ρ S env I (by rw [q]; exact fun z=>nomatch z)) (fun fl s1 z=>?_) fun x s1 z=>?_
  ·obtain ⟨y,S2,e,z⟩:=z
   rw [q] at e; cases e
   cases x with
   | nx e =>
    obtain ⟨rfl,σ1,H1,ρ1,I1,st1,hσ⟩:=z
    exact wpAny_mono (h2 pins s1 σ1 H1 ρ1 S1 e I1 nb) (fun fl s2 z=>z.pre st1 fun w=>by rw [Bool.and_eq_true] at w; exact ⟨w.2,hσ w.1⟩) fun x s2 z=>z.pre st1 fun w=>by rw [Bool.and_eq_true] at w; exact ⟨w.2,hσ w.1⟩
   | brk e=>obtain ⟨rfl,σ1,H1,ρ1,I1,st1⟩:=z; exact ⟨.brk e,S1,rfl,rfl,σ1,H1,ρ1,I1,st1⟩
   | cnt e=>obtain ⟨rfl,σ1,H1,ρ1,I1,st1⟩:=z; exact ⟨.cnt e,S1,rfl,rfl,σ1,H1,ρ1,I1,st1⟩
   | rt d=>obtain ⟨u,v,σ1,H1,ρ1,rfl,r⟩:=z; exact ⟨.rt d,S1,rfl,u,v,σ1,H1,ρ1,rfl,r⟩
  ·obtain ⟨k,S2,σ2,e,_⟩:=z
   rw [q] at e; cases e
theorem ds_pass:DS X (.Pass pos) true (fun env S=>.ok (.nx env) S):=fun pins s σ H ρ S env I _=>wpAny_Pass ⟨.nx env,S,rfl,rfl,σ,H,ρ,I,.refl,fun _=>rfl⟩
theorem ds_brk:DS X (.Break pos) false (fun env S=>.ok (.brk env) S):=fun pins s σ H ρ S env I _=>wpAny_Break ⟨.brk env,S,rfl,rfl,σ,H,ρ,I,.refl⟩
theorem ds_cnt:DS X (.Continue pos) false (fun env S=>.ok (.cnt env) S):=fun pins s σ H ρ S env I _=>wpAny_Continue ⟨.cnt env,S,rfl,rfl,σ,H,ρ,I,.refl⟩
theorem ds_expr (he:DE X e f) (hs:swapsWith e none pos.line X.env=pure false):DS X (.Expr e pos) true (fun env S=>(f env S).bind fun _ S=>.ok (.nx env) S):=by
 intro pins s σ H ρ S env I nb
 dsimp only at nb ⊢
 cases q:f env S with
 | bad=>rw [q] at nb; exact absurd rfl nb
 | ex n S1=>exact wpAny_Expr_any (he.ex I q fun x s' z=>.of .refl z rfl) I.inv.quiet hs
 | ok d S1=>exact wpAny_Expr_any (he.ok I q fun u s' v H' ρ' J rv rd st=>⟨.nx env,S1,rfl,rfl,σ,H',ρ',J,st,fun _=>rfl⟩) I.inv.quiet hs
theorem ds_ret (he:DE X e f):DS X (.Return (some e) pos) true (fun env S=>(f env S).bind fun x S=>.ok (.rt x) S):=by
 intro pins s σ H ρ S env I nb
 dsimp only at nb ⊢
 cases q:f env S with
 | bad=>rw [q] at nb; exact absurd rfl nb
 | ex n S1=>exact wpAny_Return_some (he.ex I q fun x s' z=>.of .refl z rfl)
 | ok d S1=>exact wpAny_Return_some (he.ok I q fun u s' v H' ρ' J rv rd st=>⟨.rt d,S1,rfl,u,v,σ,H',ρ',rfl,J.inv,rv,rd,J.sr,st⟩)
theorem ds_if (hc:DT X c (fun env S=>tst (fc env S))) (ha:DSs X sa na g) (hb:DSs X sb na2 g2) :
  DS X (.If c sa sb pos) (na && na2) (fun env S=>(fc env S).bind fun x S=>match truD S x with | some true=>g env S | some false=>g2 env S | none=>.bad):=by
 intro pins s σ H ρ S env I nb
 dsimp only at nb ⊢
 cases q:fc env S with
 | bad=>rw [q] at nb; exact absurd rfl nb
 | ex n S1=>exact wpAny_If (hc.ex I (by simp only [q]; rfl) fun x s' z=>.of .refl z rfl)
 | ok x S1 =>
  rw [q] at nb
  simp only [R.bind_ok] at nb ⊢
  cases t:truD S1 x with
  | none=>rw [t] at nb; exact absurd rfl nb
  | some r =>
   rw [t] at nb
   refine wpAny_If (hc.ok I (by simp only [q]; exact tst_ok t) fun s2 H2 ρ2 I2 st2=>?_)
   cases r with
   | true=>exact wpAny_mono (ha pins s2 σ H2 ρ2 S1 env I2 nb) (fun w s3 z=>z.pre st2 fun w=>by rw [Bool.and_eq_true] at w; exact ⟨w.1,rfl⟩) fun x s' z=>z.pre st2 fun w=>by rw [Bool.and_eq_true] at w; exact ⟨w.1,rfl⟩
   | false=>exact wpAny_mono (hb pins s2 σ H2 ρ2 S1 env I2 nb) (fun w s3 z=>z.pre st2 fun w=>by rw [Bool.and_eq_true] at w; exact ⟨w.2,rfl⟩) fun x s' z=>z.pre st2 fun w=>by rw [Bool.and_eq_true] at w; exact ⟨w.2,rfl⟩
theorem ds_set {i:Nat} {x:Str} {pos':Pos} (hN:X.N.Nodup) (hi:X.N[i]?=some x) (hx:Loc X.env.scope x) (hf:X.fn x=true∨X.env.scope.names.lookup x=some .local) (he:DE X e f) (hs:swapsWith e (some (.Name x pos')) pos.line X.env=pure false) :
  DS X (.Assign [.Name x pos'] e pos) false (fun env S=>(f env S).bind fun x S=>match setTg (.var i) x env with | some env=>.ok (.nx env) S | none=>.bad):=by
 intro pins s σ H ρ S env I nb
 dsimp only at nb ⊢
 cases q:f env S with
 | bad=>rw [q] at nb; exact absurd rfl nb
 | ex n S1=>exact wpAny_Assign_Name (he.ex I q fun x s' z=>.of .refl z rfl) hs
 | ok d S1 =>
  refine wpAny_Assign_Name (he.ok I q fun u s' v H' ρ' J rv rd st=>?_) hs
  exact store_ok J.inv hN hi hx rv (fun s2 I2=>⟨.nx (env.set i (some d)),S1,rfl,rfl,_,H',ρ',⟨I2,J.sr,J.er.set i rd⟩,st,fun z=>nomatch z⟩) hf
theorem obj_there {P:Program} {w:World} {h:Heap} {b:Addr} {u:HO} (x:ObjOk P w H h b u):∃ o,h.get? b=some o:=by
 cases u with
 | lst xs=>obtain ⟨_,_,_,_,e⟩:=x; exact ⟨_,e⟩
 | tup xs=>obtain ⟨_,_,_,o,e,_⟩:=x; exact ⟨_,e⟩
 | dK kvs=>obtain ⟨_,_,_,_,o,_,_,e,_⟩:=x; exact ⟨_,e⟩
 | dT kvs=>obtain ⟨_,_,_,_,o,_,_,e,_⟩:=x; exact ⟨_,e⟩
 | set S n=>obtain ⟨o,_,_,_,e,_⟩:=x; exact ⟨_,e⟩
 | ins C dx fs=>obtain ⟨_,_,_,e,_⟩:=x; exact ⟨_,e⟩
 | own y=>exact x
 | xd fs=>obtain ⟨_,⟨_,_,_,e,_⟩,_⟩:=x; exact ⟨_,e⟩
 | rng lo hi=>obtain ⟨_,_,_,e⟩:=x; exact ⟨_,e⟩
 | frz ob u=>obtain ⟨e,_⟩:=x; exact ⟨_,e⟩
 | tbl ps=>exact ⟨_,(show h.get? b=some _ from x)⟩
 | met f y=>exact ⟨_,(show h.get? b=some _ from x)⟩
 | ext φ=>exact x.2.1
theorem frames_base {h g g':Heap}:∀ {l:List PySem.Env},h.FunFrames g l→(∀ b∈frs l,g'.get? b=none)→h.FunFrames g' l
 | [],_,_=>trivial
 | env :: r,⟨hk,⟨L,o,hf,_,ho,hd⟩,hr⟩,k=>by
  have e:frs (env :: r)=L :: frs r:=by unfold frs; rw [List.filterMap_cons,hf]
  rw [e] at k
  exact ⟨hk,⟨L,o,hf,k L (.head _),ho,hd⟩,frames_base hr fun b hb=>k b (.tail _ hb)⟩
structure Hid (X:Cx) (H':Hp) (a:Addr) (h:Heap) (l:List Addr):Prop where
 er:a∈l
 fr:∀ b∈frs X.stack,b∈l
 of:∀ b∈l,b=a∨b∈frs X.stack∨(H' b=none∧∃ o vs,h.get? b=some o∧o.data=.fields vs)
theorem hok_fly {X:Cx} {pins:List (Addr×Obj)} {σ:L2.St} {H':Hp} {s':Shared} {a C:Addr} {h':Heap} {l:List Addr} (I:Inv X pins σ H' s') (ha:H' a=some (.ext (ExcO C a))) (hl:Hid X H' a s'.heap l)
  (keep:∀ b o,s'.heap.get? b=some o→b ∉ l→h'.get? b=some o) (he:ExcO C a h'):HOk X.prog X.w H' h':=by
 have out:∀ b u,b≠a→H' b=some u→b ∉ l:=fun b u hb q hm=>by
  rcases hl.of b hm with z | z | ⟨z,_⟩
  ·exact hb z
  ·rw [I.stkFree b z] at q; cases q
  ·rw [z] at q; cases q
 intro b u q
 by_cases hb:b=a
 ·subst hb; rw [ha] at q; cases q; exact he.ok
 ·refine (I.hok b u q).stay (fun c v hc e=>?_) (fun _ z=>z) fun _ _ z=>z
  rcases hc with rfl | hc
  ·exact keep c v e (out c u hb q)
  ·exact keep c v e (out c _ (fun z=>by rw [z,ha] at hc; cases hc) hc)
theorem leave_d {X:Cx} {pins:List (Addr×Obj)} {σ:L2.St} {H':Hp} {s':Shared} {a C:Addr} {Q:Unit→Shared→Prop} {E:Value→Shared→Prop} (I:Inv X pins σ H' s') (hs:X.stack=X.env :: X.outer) (hf:X.env.frame=some X.env.locals) (hx:X.ex=[])
  (ha:H' a=some (.ext (ExcO C a))) (fl:Fly X pins H' a s'.heap)
  (hQ:∀ h',Un X.fs [] X.H₀ H' X.s₀.heap h'→HOk X.prog X.w H' h'→Trc (fun T=>X.s₀.heap.get? T=none) H' a h'→Q () { s' with heap:=h' }):wpAny (model X.prog X.w) X.A (leaving X.env (.ref a)) Q E s':=by
 have hfrs:frs X.stack=X.env.locals :: X.fs:=by rw [hs]; unfold frs; rw [List.filterMap_cons,hf]; rfl
 have hA:X.A.frames=some (X.env :: X.outer):=by rw [← hs]; exact I.ok.frames
 have hI:=I.stack
 obtain ⟨⟨oa,va,a0,ea,ca,da,v0,vz⟩,_,_⟩:=(show ObjOk X.prog X.w H' s'.heap a (.ext (ExcO C a)) from I.hok a _ ha)
 have fin:∀ (l:List Addr) (h':Heap),Hid X H' a s'.heap l→(∀ b∈l,b≠a→b ∉ frs X.stack→X.s₀.heap.get? b=none)→Heap.LeftW (PySem.W.hideAll s'.heap l) (X.env :: X.outer) a (.ref C) a0 s'.heap h'→Q () { s' with heap:=h' }:=by
  intro l h' hl hnew ⟨k1,k2,⟨oe,vs,T,oT,ts,t1,⟨t2,t3⟩,t4,t5,t6,t7,t8,t9,t10⟩,k4⟩
  have keep:∀ b o,s'.heap.get? b=some o→b ∉ l→h'.get? b=some o:=fun b o e hb=>k1 b o (PySem.W.hideAll_get l e hb)
  have nfr:∀ b∈frs X.stack,∃ o,s'.heap.get? b=some o∧∀ vs,o.data≠.fields vs:=fun b hb=>(hI.mem hb).2
  have frk:∀ b∈frs X.stack,∀ o,s'.heap.get? b=some o→∃ sl,h'.get? b=some { o with slots:=sl }:=fun b hb o e=>by
   obtain ⟨o',e',nd⟩:=nfr b hb
   rw [e] at e'; cases e'
   exact k4 b o e nd
  have old:∀ b o,X.s₀.heap.get? b=some o→b≠X.env.locals:=fun b o e=>Nat.ne_of_lt (Nat.lt_of_lt_of_le (Heap.lt_size e) I.ok.above)
  have nx:∀ b:Addr,b ∉ X.ex:=fun b z=>by rw [hx] at z; cases z
  have hT:∀ o,s'.heap.get? T=some o→T∈l:=fun o e=>by
   by_cases hm:T∈l
   ·exact hm
   ·rw [PySem.W.hideAll_get l e hm] at t6; cases t6
  have nT:T ∉ frs X.stack:=fun hm=>by
   obtain ⟨o,e,nd⟩:=nfr T hm
   obtain ⟨sl,e'⟩:=frk T hm o e
   rw [t8] at e'; cases e'
   exact nd ts t9
  refine hQ h' ⟨fun b o e n hb _=>?_,fun b o e n hb _=>?_,fun b o e n _=>I.base.free b o e n (nx b),fun b o e _=>?_,I.base.tups,I.base.frzs,I.base.tbls⟩ (hok_fly I ha hl keep ⟨oe,vs,a0,t1,t2,t4,t3,(Array.getElem?_eq_some_iff.mp t5).1⟩) ⟨oe,vs,T,oT,ts,t1,t4,t5,?_,t7,?_,t8,t9,t10⟩
  ·refine keep b o (I.base.keep b o e n hb (nx b)) fun hm=>?_
   have fb:=I.base.free b o e n (nx b)
   by_cases h1:b=a
   ·rw [h1,ha] at fb; cases fb
   ·by_cases h2:b∈frs X.stack
    ·rw [hfrs] at h2
     rcases List.mem_cons.mp h2 with z | z
     ·exact old b o e z
     ·exact hb z
    ·rw [hnew b hm h1 h2] at e; cases e
  ·obtain ⟨sl,e1⟩:=I.base.slot b o e n hb (nx b)
   obtain ⟨sl',e2⟩:=frk b (by rw [hfrs]; exact .tail _ hb) _ e1
   exact ⟨sl',e2⟩
  ·obtain ⟨o',e1⟩:=I.base.there b o e (nx b)
   by_cases hm:b∈l
   ·by_cases h1:b=a
    ·subst h1; exact ⟨_,t1⟩
    ·by_cases h2:b∈frs X.stack
     ·obtain ⟨sl,e2⟩:=frk b h2 o' e1; exact ⟨_,e2⟩
     ·rw [hnew b hm h1 h2] at e; cases e
   ·exact ⟨_,keep b o' e1 hm⟩
  ·cases q:X.s₀.heap.get? T with
   | none=>exact q
   | some o =>
    obtain ⟨o',e1⟩:=I.base.there T o q (nx T)
    rw [hnew T (hT o' e1) t7 nT] at q; cases q
  ·cases q:H' T with
   | none=>rfl
   | some u =>
    obtain ⟨o',e1⟩:=obj_there (I.hok T u q)
    rcases hl.of T (hT o' e1) with z | z | ⟨z,_⟩
    ·exact absurd z t7
    ·exact absurd z nT
    ·rw [z] at q; cases q
 rcases fl with ⟨oe,vs,e1,e2,e3⟩ | ⟨oe,vs,T,oT,ts,e1,e2,e3,⟨e4,e5⟩,e6,e7,e8,e9,e10⟩
 ·have hl:Hid X H' a s'.heap (a :: frs X.stack):=⟨.head _,fun b hb=>.tail _ hb,fun b hb=>by
   rcases List.mem_cons.mp hb with z | z
   ·exact .inl z
   ·exact .inr (.inl z)⟩
  rw [ea] at e1; cases e1
  rw [da] at e2; cases e2
  refine wpAny_leaving_firstW (base:=PySem.W.hideAll s'.heap (a :: frs X.stack)) (a0:=a0) hA (by rw [← hs]; exact frames_base hI fun b hb=>PySem.W.hideAll_none _ (.tail _ hb)) hf ea (fun b o e=>PySem.W.of_hideAll _ e) (PySem.W.hideAll_none _ (.head _)) da e3 v0 fun h' hL=>?_
  rw [ca] at hL
  exact fin _ h' hl (fun b hb h1 h2=>by
   rcases List.mem_cons.mp hb with z | z
   ·exact absurd z h1
   ·exact absurd z h2) hL
 ·have hl:Hid X H' a s'.heap (a :: T :: frs X.stack):=⟨.head _,fun b hb=>.tail _ (.tail _ hb),fun b hb=>by
   rcases List.mem_cons.mp hb with z | z
   ·exact .inl z
   ·rcases List.mem_cons.mp z with z | z
    ·subst z; exact .inr (.inr ⟨e7,oT,ts,e8,e9⟩)
    ·exact .inr (.inl z)⟩
  rw [ea] at e1; cases e1
  rw [da] at e2; cases e2
  refine wpAny_leaving_nextW (base:=PySem.W.hideAll s'.heap (a :: T :: frs X.stack)) (cls:=.ref C) (a0:=a0) hA (by rw [← hs]; exact frames_base hI fun b hb=>PySem.W.hideAll_none _ (.tail _ (.tail _ hb))) hf ⟨oa,va,T,oT,ts,ea,⟨ca,v0⟩,da,e3,PySem.W.hideAll_none _ (.tail _ (.head _)),e6,e8,e9,e10⟩ (fun b o e=>PySem.W.of_hideAll _ e) (PySem.W.hideAll_none _ (.head _)) fun h' hL=>?_
  exact fin _ h' hl (fun b hb h1 h2=>by
   rcases List.mem_cons.mp hb with z | z
   ·exact absurd z h1
   ·rcases List.mem_cons.mp z with z | z
    ·subst z
     rcases e4 with e4 | e4
     ·rw [hx] at e4; cases e4
     ·exact e4
    ·exact absurd z h2) hL
noncomputable def cxC (cm:Bool) (P:Program) (w:World) (K:PySem.W.Frag) (mg:Str→Option Value) (base:Heap) (N:List Str) (qual:Str) (scope:Scope) (f:Addr) (cd:Value) (A:Around) (outer:List PySem.Env) (s:Shared) (H:Hp) (E:XK):Cx :=
 { cxOf (CXd P w) P w K mg base N qual scope f cd A outer s H E with calm:=cm }
theorem fn_ofD {cm:Bool} {P:Program} {w:World} {K:PySem.W.Frag} {mg:Str→Option Value} {base:Heap} {k:Nat} {f:Addr} {name qual:Str} {params:Arguments} {body:List Stmt} {scope:Scope} {dV kV doc pm cdv ct oc:Value} {an od:Option Addr}
  {osl:Array (Option Value)} {N ps:List Str} {G:En→Sto→R Fl} {na:Bool} (lk:K.lookup f=some ⟨oc,od,.func (PySem.W.fnOf name qual params body scope dV kV doc pm an cdv ct),osl⟩) (hcd:PySem.W.codeIn K cdv qual=true) (S:FnScope N ps scope)
  (hbody:∀ (A:Around) (outer:List PySem.Env) (s:Shared) (H:Hp) (E:XK),RoomC cm k (A.deeper (envOfC qual scope s.heap.objs.size f cdv))→DSs (cxC cm P w K mg base N qual scope f cdv A outer s H E) body na G) :
  FnD cm P w K mg base (k + 1) f (PySem.W.fnOf name qual params body scope dV kV doc pm an cdv ct) ps (fun ds S=>if ds.length=ps.length then
   match G (ds.map some++List.replicate (N.length - ps.length) none) S with
   | .ok (.rt v) S=>.ok v S
   | .ok (.nx _) S=>.ok .non S
   | .ok _ _=>.bad
   | .ex n S=>.ex n S
   | .bad=>.bad else .bad):=by
 refine ⟨fun A outer s H args us vs Q E hr e0 hb r hsp=>?_⟩
 obtain ⟨ds,ρ,S0',hl,rd,sr,nb,hok,hex⟩:=hsp
 have hl':ds.length=ps.length:=by rw [rd.length]; exact hl
 dsimp only at nb hok hex
 rw [if_pos hl'] at nb
 simp only [if_pos hl'] at hok hex
 have KX:K.In s.heap:=e0.mod.kin.keeps fun b o e=>(e0.bs b o e).1
 have lim:s.heap.NoLimit:=e0.mod.nolimit.keeps fun b o e=>(e0.bs b o e).1
 have hkind:∀ y∈ps.zip us,scope.names.lookup y.1=some .local∨(scope.names.lookup y.1=some .cell∧((cellsFrom (s.heap.objs.size + 1) scope.names []).lookup y.1).isSome=true):=fun ⟨n,v⟩ hy=>by
  rcases S.par n (List.of_mem_zip hy).1 with q | q
  ·exact .inl q
  ·exact .inr ⟨q,PySem.W.cellsFrom_some _ _ _ (.inl q)⟩
 refine codeAny_call_function (by have:=hr.dp; omega) (KX _ _ lk) rfl S.co S.gen rfl (PySem.W.codeRec_of KX hcd) (hb _ _ _ _ ?_)
 refine wpAny_newFunctionEnv_cells S.kind hkind fun env he s1 x=>?_
 subst he
 refine ⟨lim.keeps x.toInCall.keep,codeAny_func ?_⟩
 have hD:=hbody A outer s H E (hr.deeper _)
 have e0':Env0 P w K mg base { A with handled:=none } outer s H:=⟨e0.frames,e0.mod,e0.bs,e0.bsz,e0.funs,e0.frf,e0.hok,e0.bare⟩
 have I:Inv (cxC cm P w K mg base N qual scope f cdv A outer s H E) [] (start N vs) H s1:=by
  have I0:Inv (cxOf (CXd P w) P w K mg base N qual scope f cdv { A with handled:=none } outer s H E) [] (start N vs) H s1:=inv_start S rfl e0' hl r x
  exact ⟨⟨I0.ok.mod,I0.ok.kind,I0.ok.glob,I0.ok.blt,I0.ok.above,I0.ok.inj,I0.ok.has,I0.ok.cab,(fun z=>hr.hd z),I0.ok.frames,I0.ok.stk,I0.ok.exf,I0.ok.bs,I0.ok.bsz,I0.ok.noex,I0.ok.exfs,I0.ok.funs,I0.ok.frf⟩,I0.os,I0.bare,I0.base,I0.loc,I0.cell,I0.free,I0.freeC,I0.pin,I0.hok,I0.len⟩
 have J:S0 (cxC cm P w K mg base N qual scope f cdv A outer s H E) [] (start N vs) H s1 ρ S0' (ds.map some++List.replicate (N.length - ps.length) none):=by
  refine ⟨I,sr,⟨?_,fun i d e=>?_⟩⟩
  ·unfold L2.start; simp [rd.length,hl]
  ·by_cases hi:i < ds.length
   ·rw [List.getElem?_append_left (by simpa using hi),List.getElem?_map] at e
    cases q:ds[i]? with
    | none=>rw [q] at e; cases e
    | some d' =>
     rw [q] at e; cases e
     obtain ⟨v,h1,h2⟩:=rd.get q
     refine ⟨v,?_,h2⟩
     unfold L2.start
     rw [List.getElem?_append_left (by rw [List.length_map,← rd.length]; exact hi),List.getElem?_map,h1]; rfl
   ·rw [List.getElem?_append_right (by simpa using hi),List.getElem?_replicate] at e
    split at e <;> cases e
 have nb':G (ds.map some++List.replicate (N.length - ps.length) none) S0'≠.bad:=fun z=>nb (by rw [z])
 refine wpAny_mono (hD [] s1 (start N vs) H ρ S0' _ J nb') (fun fl s' hs=>?_) fun e s' hs=>?_
 ·obtain ⟨y,S1,e1,hs⟩:=hs
  rw [e1] at nb hok
  cases y with
  | nx e =>
   obtain ⟨rfl,σ',H',ρ',J',st',_⟩:=hs
   exact ⟨.non,H',J'.inv.os,J'.inv.bare,J'.inv.base,J'.inv.hok,rfl,hok .non S1 .non H' ρ' rfl (by simp only [RD]) J'.sr st'⟩
  | rt d =>
   obtain ⟨u,v,σ',H',ρ',rfl,J',rv,rd',sr',st'⟩:=hs
   exact ⟨v,H',J'.os,J'.bare,J'.base,J'.hok,rv,hok d S1 v H' ρ' rfl rd' sr' st'⟩
  | brk e=>exact absurd rfl nb
  | cnt e=>exact absurd rfl nb
 ·obtain ⟨n,S1,σ',e1,_,H',ρ',a,c,J',rfl,hn,hc,sr',st',fl⟩:=hs
  rw [e1] at hex
  obtain ⟨C,_,ha⟩:=(show ∃ C,clsAt K c=some C∧H' a=some (.ext (ExcO C a)) from sr'.ob n a _ hn hc)
  exact leave_d J' rfl rfl rfl ha fl fun h' un hok tr=>⟨H',J'.os,J'.bare,un,hok,⟨a,rfl,tr⟩,hex n c S1 a H' ρ' rfl hn hc sr' st'⟩
end
end Z
end
section
namespace Z
open PySem PySem.Spec PyProof.Rows L2
theorem turnedM {X:Cx} {pins:List (Addr×Obj)} {σ:L2.St} {H:Hp} {s:Shared} {h':Heap} {t':Nat} {fp:List Addr} (I:Inv X pins σ H s) (hf:∀ b∈fp,FpOk X pins H b)
  (k:∀ b o,b ∉ fp→s.heap.get? b=some o→h'.get? b=some o):Inv X pins σ H { s with heap:=h',toks:=t' }:=by
 have nit:∀ b u,H b=some u→b ∉ fp:=fun b u e z=>by rw [(hf b z).1] at e; cases e
 refine I.step (g':=s.gens) (d':=s.drawn) (ch:=fp) (fun b hb=>⟨(hf b hb).2.2.2.1,(hf b hb).2.1,(hf b hb).2.2.2.2.1,(hf b hb).2.2.2.2.2⟩)
  (fun b o _ _ hc e _=>k b o hc e) (fun b o _ _ hc e _=>⟨o.slots,k b o hc e⟩) (fun _ _ _ _ n=>n)
  (fun b o hc e=>⟨o,k b o hc e⟩) (fun _ _ e=>e) (fun _ _ _ e=>e) (fun b ps e=>⟨#[],by rw [e]; simp⟩) (fun m hm=>?_) (fun b u e=>?_) I.bare
 ·obtain ⟨o,es,ep,ho,r⟩:=hm
  exact ⟨o,es,ep,k _ o (fun z=>(hf _ z).2.1 rfl) ho,r⟩
 ·refine (I.hok b u e).stay (fun c v hc q=>k c v ?_ q) (fun _ q=>q) fun _ _ q=>q
  rcases hc with z | z
  ·rw [z]; exact nit b u e
  ·exact nit c _ z
noncomputable def SqK (k:Bool) (h:Heap) (a:Addr) (xs:Array Value):Prop:=match k with
 | true=>h.IsList a xs
 | false=>h.IsTuple a xs
noncomputable def ItK (k:Bool) (h:Heap) (i a:Addr) (n:Nat):Prop:=match k with
 | true=>h.IsListIter i a n
 | false=>h.IsTupleIter i a n
noncomputable def SqH (k:Bool) (K:PySem.W.Frag) (H:Hp) (a:Addr) (vs:List V):Prop:=match k with
 | true=>SqL K H a vs
 | false=>SqT K H a vs
section
variable {k:Bool} {h h':Heap} {a b i:Addr} {n:Nat} {xs:Array Value}
theorem SqK.at (x:SqK k h a xs) (e:∀ o,h.get? a=some o→h'.get? a=some o):SqK k h' a xs:=by
 cases k <;> (obtain ⟨o,ho,r⟩:=x; exact ⟨o,e _ ho,r⟩)
theorem ItK.at (x:ItK k h i a n) (e:∀ o,h.get? i=some o→h'.get? i=some o):ItK k h' i a n:=by
 cases k <;> (obtain ⟨o,ho,r⟩:=x; exact ⟨o,e _ ho,r⟩)
theorem SqK.obj (x:SqK k h a xs):∃ o,h.get? a=some o∧(o.cls=.type "list" ∨ o.cls=.type "tuple"):=by
 cases k
 ·obtain ⟨o,e,c,_⟩:=x; exact ⟨o,e,.inr c⟩
 ·obtain ⟨o,e,c,_⟩:=x; exact ⟨o,e,.inl c⟩
theorem ItK.obj (x:ItK k h i a n):∃ o,h.get? i=some o∧(o.cls=.type "list_iterator" ∨ o.cls=.type "tuple_iterator")∧∀ v,o.data≠.cell v:=by
 cases k
 ·obtain ⟨o,e,c,d⟩:=x; exact ⟨o,e,.inr c,fun v z=>by rw [d] at z; cases z⟩
 ·obtain ⟨o,e,c,d⟩:=x; exact ⟨o,e,.inl c,fun v z=>by rw [d] at z; cases z⟩
end
theorem seqK {X:Cx} {pins:List (Addr×Obj)} {σ:L2.St} {H:Hp} {s:Shared} {k:Bool} {a:Addr} {vs:List V} (I:Inv X pins σ H s) (h:SqH k X.K H a vs):∃ its:List Value,Vals vs its∧SqK k s.heap a its.toArray:=by
 cases k
 ·obtain ⟨its,rv,p,_⟩:=I.tuple h; exact ⟨its,rv,show s.heap.IsTuple a its.toArray from p⟩
 ·obtain ⟨its,rv,p,_⟩:=I.list h; exact ⟨its,rv,p.isList⟩
theorem seqK_inj {X:Cx} {pins:List (Addr×Obj)} {σ:L2.St} {H:Hp} {s:Shared} {k:Bool} {a:Addr} {vs us:List V} (I:Inv X pins σ H s) (h:SqH k X.K H a vs) (h':SqH k X.K H a us):vs=us:=by
 cases k
 ·exact I.tuple_inj h h'
 ·exact I.list_inj h h'
section
variable {prog:Program} {w:World} {A:Around} {E:Value→Shared→Prop} {s:Shared}
theorem tup_next {it t:Addr} {i:Nat} {items:Array Value} {x:Value} {Q:Value→Shared→Prop} (hit:s.heap.IsTupleIter it t i) (ht:s.heap.IsTuple t items) (hx:items[i]?=some x)
  (hQ:∀ h',h'.IsTupleIter it t (i + 1)→Heap.SameBut it s.heap h'→Q x { s with heap:=h' }):wpAny (model prog w) A (Builtin.SmallTypes.nextOf (.ref it)) Q E s:=by
 obtain ⟨o,ho,hc,hd⟩:=id hit; obtain ⟨ol,hol,_,nl,hdl⟩:=ht; unfold Builtin.SmallTypes.nextOf
 refine wpAny_bind (wpAny_callSpecial?_slot (name:=Str.ofString "__next__") hit.typeIs F.slot_tuple_iterator_next (wpAny_call_entry F.slot_tuple_iterator_next hit.typeIs F.entry_tuple_iterator_next ?_ (F.args_tuple_iterator_next_1 _)))
 show wpAny _ _ (field (.ref it) 0 >>= _) _ _ s; refine wpAny_bind (wpAny_field ho hd (x:=.ref t) rfl ?_)
 show wpAny _ _ (if (Value.ref t == Value.none)=true then _ else _) _ _ s; rw [if_neg (show ¬ ((Value.ref t == Value.none)=true) from Bool.false_ne_true)]
 show wpAny _ _ (field (.ref it) 1 >>= _) _ _ s; refine wpAny_bind (wpAny_field ho hd (x:=.int i 0) rfl ?_)
 show wpAny _ _ (seqItems? (.ref t) >>= _) _ _ s; refine wpAny_bind (wpAny_seqItems hol hdl ?_); simp only [Int.toNat_natCast,hx]
 refine wpAny_bind (wpAny_setField ho hd (by simp) (wpAny_pure ⟨x,rfl,wpAny_pure (hQ _ ⟨_,Heap.get?_update_self _ ho (Obj.isFreed_of_fields (Obj.data_mapFields hd _)),(Obj.cls_mapFields ..).trans hc,by rw [Obj.data_mapFields hd]; simp [rawInt]⟩ (Heap.SameBut.update ..))⟩))
theorem tup_end {it t:Addr} {i:Nat} {items:Array Value} {Q:Value→Shared→Prop} (hh:A.handled=none) (hit:s.heap.IsTupleIter it t i) (ht:s.heap.IsTuple t items) (hx:items[i]?=none)
  (hE:∀ h' e,Heap.ExtBut it s.heap h'→(∃ o,h'.get? e=some o∧o.cls=.type "StopIteration")→E (.ref e) { s with heap:=h' }):wpAny (model prog w) A (Builtin.SmallTypes.nextOf (.ref it)) Q E s:=by
 obtain ⟨o,ho,hc,hd⟩:=id hit; obtain ⟨ol,hol,_,nl,hdl⟩:=ht; unfold Builtin.SmallTypes.nextOf
 refine wpAny_bind (wpAny_callSpecial?_slot (name:=Str.ofString "__next__") hit.typeIs F.slot_tuple_iterator_next (wpAny_call_entry F.slot_tuple_iterator_next hit.typeIs F.entry_tuple_iterator_next ?_ (F.args_tuple_iterator_next_1 _)))
 show wpAny _ _ (field (.ref it) 0 >>= _) _ _ s; refine wpAny_bind (wpAny_field ho hd (x:=.ref t) rfl ?_)
 show wpAny _ _ (if (Value.ref t == Value.none)=true then _ else _) _ _ s; rw [if_neg (show ¬ ((Value.ref t == Value.none)=true) from Bool.false_ne_true)]
 show wpAny _ _ (field (.ref it) 1 >>= _) _ _ s; refine wpAny_bind (wpAny_field ho hd (x:=.int i 0) rfl ?_)
 show wpAny _ _ (seqItems? (.ref t) >>= _) _ _ s; refine wpAny_bind (wpAny_seqItems hol hdl ?_); simp only [Int.toNat_natCast,hx]
 refine wpAny_bind (wpAny_rule (wpAny_bind (wpAny_setField ho hd (by simp) ?_)))
 show wpAny _ _ (newExc (.type "StopIteration") [] >>= _) _ _ _; refine wpAny_bind ?_; simp only [newExc,newTuple]
 refine wpAny_bind (wpAny_newObj_type ?_ (by size_fits)); refine wpAny_bind (m:=firstArgMember _ _) (wpAny_of_eq (a:=Value.none) (by first | rfl | (simp only [firstArgMember]; rfl)) ?_)
 refine wpAny_newObj_type ?_ (by size_fits); simp only [raiseNew]; refine wpAny_bind (wpAny_handled ?_)
 first | rw [show A.in1.handled=none from hh] | rw [hh]
 exact wpAny_bind (wpAny_pure (wpAny_throw (hE _ _ (((Heap.SameBut.update ..).extBut.push _).push _) ⟨_,Heap.get?_push_size _ rfl,rfl⟩)))
theorem nxK {k:Bool} {it t:Addr} {i:Nat} {items:Array Value} {x:Value} {Q:Value→Shared→Prop} (hit:ItK k s.heap it t i) (ht:SqK k s.heap t items) (hx:items[i]?=some x)
  (hQ:∀ h',ItK k h' it t (i + 1)→Heap.SameBut it s.heap h'→Q x { s with heap:=h' }):wpAny (model prog w) A (Builtin.SmallTypes.nextOf (.ref it)) Q E s:=by
 cases k
 ·exact tup_next hit ht hx hQ
 ·exact wpAny_nextOf_list_item hit ht hx hQ
theorem endK {k:Bool} {it t:Addr} {i:Nat} {items:Array Value} {Q:Value→Shared→Prop} (hh:A.handled=none) (hit:ItK k s.heap it t i) (ht:SqK k s.heap t items) (hx:items[i]?=none)
  (hE:∀ h' e,Heap.ExtBut it s.heap h'→(∃ o,h'.get? e=some o∧o.cls=.type "StopIteration")→E (.ref e) { s with heap:=h' }):wpAny (model prog w) A (Builtin.SmallTypes.nextOf (.ref it)) Q E s:=by
 cases k
 ·exact tup_end hh hit ht hx hE
 ·exact wpAny_nextOf_list_end hh hit ht hx hE
noncomputable def itNm (k:Bool):String:=match k with
 | true => "list_iterator"
 | false => "tuple_iterator"
theorem iterK {k:Bool} {a:Addr} {xs:Array Value} {Q:Value→Shared→Prop} (h:SqK k s.heap a xs) (hQ:Q (.ref s.heap.objs.size) { s with heap:=s.heap.push { cls:=.type (itNm k),data:=.fields #[.ref a,.int 0 0] } }) :
  wpAny (model prog w) A (pyIter (.ref a)) Q E s:=by
 cases k
 ·exact wpAny_pyIter_tuple h hQ
 ·exact wpAny_pyIter_list h hQ
theorem itK_new {k:Bool} {h:Heap} {i a:Addr} (e:h.get? i=some { cls:=.type (itNm k),data:=.fields #[.ref a,.int 0 0] }):ItK k h i a 0:=by
 cases k <;> exact ⟨_,e,rfl,rfl⟩
end
structure ZAp (z I O i j a b:Addr):Prop where
 Iz:I≠z
 Oz:O≠z
 iz:i≠z
 jz:j≠z
 IO:I≠O
 Ii:I≠i
 Ij:I≠j
 Oi:O≠i
 Oj:O≠j
 ij:i≠j
 a_:a≠z∧a≠O∧a≠i∧a≠j
 b_:b≠z∧b≠O∧b≠i∧b≠j
structure ZSt (k1 k2:Bool) (z I O i j a b:Addr) (f0:Value) (n m:Nat) (h:Heap):Prop where
 zo:IsZip h z I O f0
 io:IsPair h I (.ref i) (.ref j)
 oo:∃ x y,IsPair h O x y
 i1:ItK k1 h i a n
 i2:ItK k2 h j b m
section
variable {prog:Program} {w:World} {A:Around} {E:Value→Shared→Prop} {s:Shared} {k1 k2:Bool} {z I O i j a b:Addr} {n:Nat} {xs ys:Array Value} {x y:Value}
theorem zip_item {Q:Value→Shared→Prop} (D:ZAp z I O i j a b) (st:ZSt k1 k2 z I O i j a b .none n n s.heap) (ha:SqK k1 s.heap a xs) (hb:SqK k2 s.heap b ys) (hx:xs[n]?=some x) (hy:ys[n]?=some y)
  (hQ:∀ h',ZSt k1 k2 z I O i j a b (rawInt s.heap.objs.size) (n + 1) (n + 1) h'→IsPair h' s.heap.objs.size x y→(∀ c o,c≠z→c≠O→c≠i→c≠j→s.heap.get? c=some o→h'.get? c=some o)→Q (.ref s.heap.objs.size) { s with heap:=h' }) :
  wpAny (model prog w) A (Builtin.«zip.__next__» ⟨[.ref z],[]⟩) (fun fin s'=>∃ v,fin=.done (.ret v)∧Q v s') E s:=by
 obtain ⟨hz,hI,⟨a0,b0,hO⟩,h1,h2⟩:=st
 show wpAny _ _ (field (.ref z) 2 >>= _) _ _ _; refine wpAny_bind (wpAny_field hz rfl (x:=.bool false) rfl ?_)
 show wpAny _ _ (field (.ref z) 3 >>= _) _ _ _; refine wpAny_bind (wpAny_field hz rfl (x:=.ref I) rfl (wpAny_bind (wpAny_seqItems hI rfl ?_)))
 show wpAny _ _ (Builtin.SmallTypes.ownedTupleIsFree (.ref z) >>= _) _ _ _; refine wpAny_bind ?_; unfold Builtin.SmallTypes.ownedTupleIsFree
 refine wpAny_bind (wpAny_field hz rfl (x:=.none) rfl (wpAny_pure ?_)); simp only [if_true]
 refine wpAny_bind (wpAny_rule (wpAny_bind (wpAny_field hz rfl (x:=.ref O) rfl (wpAny_bind (wpAny_setField_rec hz (by simp) fun g1 z1 c1=>?_)))))
 replace z1:IsZip g1 z I O .ellipsis:=z1
 refine wpAny_bind ?_; simp only [List.zipIdx_cons,List.zipIdx_nil,List.forIn_cons,List.forIn_nil]; refine wpAny_bind (wpAny_bind (wpAny_onRaise ?_))
 show wpAny _ _ (Builtin.SmallTypes.nextOf (.ref i) >>= _) _ _ _
 refine wpAny_bind (nxK (h1.at fun o e=>c1.extBut _ _ D.iz e) (ha.at fun o e=>c1.extBut _ _ D.a_.1 e) hx fun g2 i2 c2=>wpAny_pure ?_)
 have o2:IsPair g2 O a0 b0:=c2.extBut _ _ D.Oi (c1.extBut _ _ D.Oz hO)
 refine wpAny_bind (wpAny_seqItems o2 rfl (wpAny_bind (wpAny_updateSeq_pair o2 fun g3 o3 c3=>?_)))
 replace o3:IsPair g3 O x b0:=o3
 refine wpAny_bind (wpAny_letGo (wpAny_pure (wpAny_bind (wpAny_bind (wpAny_onRaise ?_)))))
 show wpAny _ _ (Builtin.SmallTypes.nextOf (.ref j) >>= _) _ _ _
 have u3:∀ c o,c≠z→c≠O→c≠i→s.heap.get? c=some o→g3.get? c=some o:=fun c o e1 e2 e3 e=>c3.extBut _ _ e2 (c2.extBut _ _ e3 (c1.extBut _ _ e1 e))
 refine wpAny_bind (nxK (h2.at fun o e=>u3 j o D.jz D.Oj.symm D.ij.symm e) (hb.at fun o e=>u3 b o D.b_.1 D.b_.2.1 D.b_.2.2.1 e) hy fun g4 j4 c4=>wpAny_pure ?_)
 have o4:IsPair g4 O x b0:=c4.extBut _ _ D.Oj o3
 refine wpAny_bind (wpAny_seqItems o4 rfl (wpAny_bind (wpAny_updateSeq_pair o4 fun g5 o5 c5=>?_)))
 replace o5:IsPair g5 O x y:=o5
 refine wpAny_bind (wpAny_letGo (wpAny_pure (wpAny_pure (wpAny_bind (wpAny_seqItems o5 rfl (wpAny_bind (wpAny_newTuple ?_)))))))
 have sz:g5.objs.size=s.heap.objs.size:=by rw [c5.1,c4.1,c3.1,c2.1,c1.1]
 have z5:IsZip g5 z I O .ellipsis:=c5.extBut _ _ D.Oz.symm (c4.extBut _ _ D.jz.symm (c3.extBut _ _ D.Oz.symm (c2.extBut _ _ D.iz.symm z1)))
 have u5:∀ c o,c≠z→c≠O→c≠i→c≠j→s.heap.get? c=some o→g5.get? c=some o:=fun c o e1 e2 e3 e4 e=>c5.extBut _ _ e2 (c4.extBut _ _ e4 (u3 c o e1 e2 e3 e))
 have i5:ItK k1 g5 i a (n + 1):=i2.at fun o e=>c5.extBut _ _ D.Oi.symm (c4.extBut _ _ D.ij (c3.extBut _ _ D.Oi.symm e))
 have j5:ItK k2 g5 j b (n + 1):=j4.at fun o e=>c5.extBut _ _ D.Oj.symm e
 have zlt:z < g5.objs.size:=Heap.lt_size z5
 show wpAny _ _ (Builtin.SmallTypes.ownedTupleHandOut (.ref z) (.ref g5.objs.size) >>= _) _ _ _; refine wpAny_bind ?_; unfold Builtin.SmallTypes.ownedTupleHandOut
 refine wpAny_bind (wpAny_setField_rec (Heap.get?_push_of_some _ z5:IsZip (g5.push { cls:=.type "tuple",data:=.seq #[x,y] }) z I O .ellipsis) (by simp) fun g7 z7 c7=>?_)
 replace z7:IsZip g7 z I O (rawInt g5.objs.size):=z7
 refine wpAny_setField_rec z7 (by simp) fun g8 z8 c8=>?_
 replace z8:IsZip g8 z I O (rawInt g5.objs.size):=z8
 have up:∀ c o,c≠z→g5.get? c=some o→g8.get? c=some o:=fun c o e1 e=>c8.extBut _ _ e1 (c7.extBut _ _ e1 (Heap.get?_push_of_some _ e))
 have t8:IsPair g8 g5.objs.size x y:=c8.extBut _ _ (Nat.ne_of_gt zlt) (c7.extBut _ _ (Nat.ne_of_gt zlt) (Heap.get?_push_size _ rfl))
 rw [sz] at z8 t8
 refine wpAny_pure ⟨_,rfl,?_⟩
 show Q (.ref g5.objs.size) _
 rw [sz]
 exact hQ g8 ⟨z8,up _ _ D.Iz (u5 _ _ D.Iz D.IO D.Ii D.Ij hI),⟨_,_,up _ _ D.Oz o5⟩,i5.at fun o e=>up _ o D.iz e,j5.at fun o e=>up _ o D.jz e⟩ t8 fun c o e1 e2 e3 e4 e=>up c o e1 (u5 c o e1 e2 e3 e4 e)
theorem zip_end {Q:Fin→Shared→Prop} (hh:A.handled=none) (D:ZAp z I O i j a b) (st:ZSt k1 k2 z I O i j a b .none n n s.heap) (ha:SqK k1 s.heap a xs) (hb:SqK k2 s.heap b ys) (hend:xs[n]?=none∨ys[n]?=none)
  (hE:∀ h' e,(∀ c o,c≠z→c≠O→c≠i→c≠j→s.heap.get? c=some o→h'.get? c=some o)→(∃ o,h'.get? e=some o∧o.cls=.type "StopIteration")→E (.ref e) { s with heap:=h' }) :
  wpAny (model prog w) A (Builtin.«zip.__next__» ⟨[.ref z],[]⟩) Q E s:=by
 obtain ⟨hz,hI,⟨a0,b0,hO⟩,h1,h2⟩:=st
 show wpAny _ _ (field (.ref z) 2 >>= _) _ _ _; refine wpAny_bind (wpAny_field hz rfl (x:=.bool false) rfl ?_)
 show wpAny _ _ (field (.ref z) 3 >>= _) _ _ _; refine wpAny_bind (wpAny_field hz rfl (x:=.ref I) rfl (wpAny_bind (wpAny_seqItems hI rfl ?_)))
 show wpAny _ _ (Builtin.SmallTypes.ownedTupleIsFree (.ref z) >>= _) _ _ _; refine wpAny_bind ?_; unfold Builtin.SmallTypes.ownedTupleIsFree
 refine wpAny_bind (wpAny_field hz rfl (x:=.none) rfl (wpAny_pure ?_)); simp only [if_true]
 refine wpAny_bind (wpAny_rule (wpAny_bind (wpAny_field hz rfl (x:=.ref O) rfl (wpAny_bind (wpAny_setField_rec hz (by simp) fun g1 z1 c1=>?_)))))
 replace z1:IsZip g1 z I O .ellipsis:=z1
 refine wpAny_bind ?_; simp only [List.zipIdx_cons,List.zipIdx_nil,List.forIn_cons,List.forIn_nil]; refine wpAny_bind (wpAny_bind (wpAny_onRaise ?_))
 show wpAny _ _ (Builtin.SmallTypes.nextOf (.ref i) >>= _) _ _ _
 cases hx:xs[n]? with
 | none =>
  refine wpAny_bind (endK hh (h1.at fun o e=>c1.extBut _ _ D.iz e) (ha.at fun o e=>c1.extBut _ _ D.a_.1 e) hx fun g2 e c2 he=>?_)
  obtain ⟨oe,hoe,hce⟩:=he
  have z2:IsZip g2 z I O .ellipsis:=c2 _ _ D.iz.symm z1
  have ez:e≠z:=fun q=>by subst q; rw [z2] at hoe; cases hoe; simp at hce
  exact wpAny_setField_rec z2 (by simp) fun g3 _ c3=>hE g3 e (fun c o e1 _ e3 _ q=>c3.extBut _ _ e1 (c2 _ _ e3 (c1.extBut _ _ e1 q))) ⟨oe,c3.extBut _ _ ez hoe,hce⟩
 | some x =>
  have hy:ys[n]?=none:=by rcases hend with q | q; rw [hx] at q; cases q; exact q
  refine wpAny_bind (nxK (h1.at fun o e=>c1.extBut _ _ D.iz e) (ha.at fun o e=>c1.extBut _ _ D.a_.1 e) hx fun g2 i2 c2=>wpAny_pure ?_)
  have o2:IsPair g2 O a0 b0:=c2.extBut _ _ D.Oi (c1.extBut _ _ D.Oz hO)
  refine wpAny_bind (wpAny_seqItems o2 rfl (wpAny_bind (wpAny_updateSeq_pair o2 fun g3 o3 c3=>wpAny_bind (wpAny_letGo (wpAny_pure (wpAny_bind (wpAny_bind (wpAny_onRaise ?_))))))))
  show wpAny _ _ (Builtin.SmallTypes.nextOf (.ref j) >>= _) _ _ _
  have u3:∀ c o,c≠z→c≠O→c≠i→s.heap.get? c=some o→g3.get? c=some o:=fun c o e1 e2 e3 e=>c3.extBut _ _ e2 (c2.extBut _ _ e3 (c1.extBut _ _ e1 e))
  refine wpAny_bind (endK hh (h2.at fun o e=>u3 j o D.jz D.Oj.symm D.ij.symm e) (hb.at fun o e=>u3 b o D.b_.1 D.b_.2.1 D.b_.2.2.1 e) hy fun g4 e c4 he=>?_)
  obtain ⟨oe,hoe,hce⟩:=he
  have z4:IsZip g4 z I O .ellipsis:=c4 _ _ D.jz.symm (c3.extBut _ _ D.Oz.symm (c2.extBut _ _ D.iz.symm z1))
  have ez:e≠z:=fun q=>by subst q; rw [z4] at hoe; cases hoe; simp at hce
  exact wpAny_setField_rec z4 (by simp) fun g5 _ c5=>hE g5 e (fun c o e1 e2 e3 e4 q=>c5.extBut _ _ e1 (c4 _ _ e4 (u3 c o e1 e2 e3 q))) ⟨oe,c5.extBut _ _ ez hoe,hce⟩
theorem zip_next {Q:Option Value→Shared→Prop} (D:ZAp z I O i j a b) (st:ZSt k1 k2 z I O i j a b .none n n s.heap) (ha:SqK k1 s.heap a xs) (hb:SqK k2 s.heap b ys) (hx:xs[n]?=some x) (hy:ys[n]?=some y)
  (hQ:∀ h',ZSt k1 k2 z I O i j a b (rawInt s.heap.objs.size) (n + 1) (n + 1) h'→IsPair h' s.heap.objs.size x y→(∀ c o,c≠z→c≠O→c≠i→c≠j→s.heap.get? c=some o→h'.get? c=some o)→Q (some (.ref s.heap.objs.size)) { s with heap:=h' }) :
  wpAny (model prog w) A (pyNext (.ref z)) Q E s:=by
 have hT:s.TypeIs (.ref z) "zip" := ⟨_,st.zo,rfl⟩
 unfold pyNext
 exact wpAny_bind (wpAny_attempt (wpAny_callSpecial?_slot (name:=Str.ofString "__next__") hT F.slot_zip_next (wpAny_call_entry F.slot_zip_next hT F.entry_zip_next (zip_item D st ha hb hx hy fun h' q1 q2 q3=>wpAny_pure (hQ h' q1 q2 q3)) (F.args_zip_next_1 _))))
theorem zip_stop {Q:Option Value→Shared→Prop} (hh:A.handled=none) (D:ZAp z I O i j a b) (st:ZSt k1 k2 z I O i j a b .none n n s.heap) (ha:SqK k1 s.heap a xs) (hb:SqK k2 s.heap b ys) (hend:xs[n]?=none∨ys[n]?=none)
  (hQ:∀ h',(∀ c o,c≠z→c≠O→c≠i→c≠j→s.heap.get? c=some o→h'.get? c=some o)→Q none { s with heap:=h' }):wpAny (model prog w) A (pyNext (.ref z)) Q E s:=by
 have hT:s.TypeIs (.ref z) "zip" := ⟨_,st.zo,rfl⟩
 unfold pyNext
 refine wpAny_bind (wpAny_attempt (wpAny_callSpecial?_slot (name:=Str.ofString "__next__") hT F.slot_zip_next (wpAny_call_entry F.slot_zip_next hT F.entry_zip_next (zip_end hh D st ha hb hend fun h' e hk he=>?_) (F.args_zip_next_1 _))))
 obtain ⟨o,ho,hc⟩:=he
 exact wpAny_bind (wpAny_isInstance (T := "StopIteration") (b:=true) ⟨o,ho,hc⟩ isSubtype_stop (wpAny_pure (hQ _ hk)))
end
section
variable (k1 k2:Bool) (h:Heap) (a b:Addr)
noncomputable abbrev zp1:Heap:=h.push { cls:=.type (itNm k1),data:=.fields #[.ref a,.int 0 0] }
noncomputable abbrev zp2:Heap:=(zp1 k1 h a).push { cls:=.type (itNm k2),data:=.fields #[.ref b,.int 0 0] }
noncomputable abbrev zp3:Heap:=(zp2 k1 k2 h a b).push { cls:=.type "tuple",data:=.seq #[.ref h.objs.size,.ref (zp1 k1 h a).objs.size] }
noncomputable abbrev zp4:Heap:=(zp3 k1 k2 h a b).push { cls:=.type "tuple",data:=.seq #[.none,.none] }
noncomputable abbrev zp5:Heap:=(zp4 k1 k2 h a b).push { cls:=.type "zip",data:=.fields #[.none,.bool false,.bool false,.ref (zp2 k1 k2 h a b).objs.size,.ref (zp3 k1 k2 h a b).objs.size] }
end
theorem zip_meets (k1 k2:Bool) (a b:Addr) (xs ys:Array Value):Meets (Builtin.«zip.__new__» ⟨[.type "zip",.ref a,.ref b],[]⟩) (fun _ R s=>SqK k1 s.heap a xs∧SqK k2 s.heap b ys∧R (.ok (.ret (.ref (zp4 k1 k2 s.heap a b).objs.size))) { s with heap:=zp5 k1 k2 s.heap a b }) :=
 .of_wp fun prog w A R s h=>by
  obtain ⟨hp,g,d,tk,os⟩:=s; obtain ⟨h1,h2,h⟩:=h
  have hsub:=sub_zip
  have L1:SqK k1 (Shared.heap ⟨hp,g,d,tk,os⟩) a xs:=h1
  have L2:SqK k2 (Shared.heap ⟨hp.push { cls:=.type (itNm k1),data:=.fields #[.ref a,.int 0 0] },g,d,tk,os⟩) b ys:=h2.at fun o e=>Heap.get?_push_of_some _ e
  wp_walk using iterK L1,iterK L2
  exact ⟨_,rfl,h⟩
theorem zip_call {prog:Program} {w:World} {A:Around} {E:Value→Shared→Prop} {s:Shared} {k1 k2:Bool} {a b:Addr} {xs ys:Array Value} {Q:Value→Shared→Prop} (h1:SqK k1 s.heap a xs) (h2:SqK k2 s.heap b ys)
  (h:∀ h',ZSt k1 k2 (s.heap.objs.size + 4) (s.heap.objs.size + 2) (s.heap.objs.size + 3) s.heap.objs.size (s.heap.objs.size + 1) a b .none 0 0 h'→(∀ c o,s.heap.get? c=some o→h'.get? c=some o)→Q (.ref (s.heap.objs.size + 4)) { s with heap:=h' }) :
  wpAny (model prog w) A (call (.type "zip") [.ref a,.ref b]) Q E s:=by
 refine callType_new F.called_zip (by decide) (F.typeCall_zip_2 _ _) (F.newCall_zip_2 _ _) (fun obj=>F.args_object_init_3 obj _ _) F.entry_zip_new (zip_meets k1 k2 a b xs ys) ⟨h1,h2,?_⟩
 have z1:(zp1 k1 s.heap a).objs.size=s.heap.objs.size + 1:=Heap.size_push ..
 have z2:(zp2 k1 k2 s.heap a b).objs.size=s.heap.objs.size + 2:=by rw [Heap.size_push,z1]
 have z3:(zp3 k1 k2 s.heap a b).objs.size=s.heap.objs.size + 3:=by rw [Heap.size_push,z2]
 have z4:(zp4 k1 k2 s.heap a b).objs.size=s.heap.objs.size + 4:=by rw [Heap.size_push,z3]
 have g5:(zp5 k1 k2 s.heap a b).get? (zp4 k1 k2 s.heap a b).objs.size=some _:=Heap.get?_push_size _ rfl
 have g4:(zp5 k1 k2 s.heap a b).get? (zp3 k1 k2 s.heap a b).objs.size=some _:=Heap.get?_push_of_some _ (Heap.get?_push_size _ rfl)
 have g3:(zp5 k1 k2 s.heap a b).get? (zp2 k1 k2 s.heap a b).objs.size=some _:=Heap.get?_push_of_some _ (Heap.get?_push_of_some _ (Heap.get?_push_size _ rfl))
 have g2:(zp5 k1 k2 s.heap a b).get? (zp1 k1 s.heap a).objs.size=some _:=Heap.get?_push_of_some _ (Heap.get?_push_of_some _ (Heap.get?_push_of_some _ (Heap.get?_push_size _ rfl)))
 have g1:(zp5 k1 k2 s.heap a b).get? s.heap.objs.size=some _:=Heap.get?_push_of_some _ (Heap.get?_push_of_some _ (Heap.get?_push_of_some _ (Heap.get?_push_of_some _ (Heap.get?_push_size _ rfl))))
 show _∧_
 rw [z2,z3,z4] at g5
 rw [z1,z2] at g3
 rw [z3] at g4
 rw [z1] at g2
 rw [z4]
 exact ⟨⟨_,g5,rfl⟩,h _ ⟨g5,g3,⟨_,_,g4⟩,itK_new g1,itK_new g2⟩ fun c o q=>Heap.get?_push_of_some _ (Heap.get?_push_of_some _ (Heap.get?_push_of_some _ (Heap.get?_push_of_some _ (Heap.get?_push_of_some _ q))))⟩
noncomputable def Itz (K:PySem.W.Frag) (k1 k2:Bool) (a b:Addr):L2.It :=
 ⟨fun n H=>∃ xs x ys y,SqH k1 K H a xs∧xs[n]?=some x∧SqH k2 K H b ys∧ys[n]?=some y,
   fun n H v H'=>∃ T x y,v=.ref T∧H T=none∧H'=upd H T (.tup [x,y])∧(∀ xs,SqH k1 K H a xs→xs[n]?=some x)∧∀ ys,SqH k2 K H b ys→ys[n]?=some y,
   fun n H=>∃ xs ys,SqH k1 K H a xs∧SqH k2 K H b ys∧(xs.length≤n∨ys.length≤n)⟩
theorem push_old {h:Heap} {o u:Obj} {c:Addr} (e:(h.push o).get? c=some u) (hc:c≠h.objs.size):h.get? c=some u:=by
 rw [Heap.get?_push_ne h c o hc] at e; exact e
theorem ZSt.at {k1 k2:Bool} {z I O i j a b:Addr} {f0:Value} {n m:Nat} {h h':Heap} (x:ZSt k1 k2 z I O i j a b f0 n m h) (k:∀ c∈[z,I,O,i,j],∀ o,h.get? c=some o→h'.get? c=some o):ZSt k1 k2 z I O i j a b f0 n m h' :=
 ⟨k z (by simp) _ x.zo,k I (by simp) _ x.io,let ⟨p,q,e⟩:=x.oo; ⟨p,q,k O (by simp) _ e⟩,x.i1.at fun o e=>k i (by simp) o e,x.i2.at fun o e=>k j (by simp) o e⟩
theorem ZSt.some {k1 k2:Bool} {z I O i j a b:Addr} {f0:Value} {n m:Nat} {h:Heap} (x:ZSt k1 k2 z I O i j a b f0 n m h):∀ c∈[z,I,O,i,j],∃ o,h.get? c=some o∧∀ v,o.data≠.cell v:=fun c hc=>by
 simp only [List.mem_cons,List.not_mem_nil,or_false] at hc
 rcases hc with e | e | e | e | e <;> subst e
 ·exact ⟨_,x.zo,fun v q=>nomatch q⟩
 ·exact ⟨_,x.io,fun v q=>nomatch q⟩
 ·obtain ⟨p,q,e⟩:=x.oo; exact ⟨_,e,fun v q=>nomatch q⟩
 ·obtain ⟨o,e,_,d⟩:=x.i1.obj; exact ⟨o,e,d⟩
 ·obtain ⟨o,e,_,d⟩:=x.i2.obj; exact ⟨o,e,d⟩
theorem turn_zip {P:Program} {w:World} {K:PySem.W.Frag} {es:List Expr} {x0:Nat} {tp:Pos} {k1 k2:Bool} {z I O i j a b:Addr} (D:ZAp z I O i j a b) :
  Turn P w K (.Tuple es x0 tp) (Itz K k1 k2 a b) [z,I,O,i,j] z (fun n h=>ZSt k1 k2 z I O i j a b .none n n h) where
 mem:=by simp
 obj:=fun n h st c hc=>st.some c hc
 keep:=fun n h h' st k=>st.at k
 item:=by
  intro X hP hw hK hc n pins s σ H E J hf st hg
  subst hP hw hK
  obtain ⟨xs,x,ys,y,q1,hx,q2,hy⟩:=hg
  obtain ⟨its1,rv1,p1⟩:=seqK J q1
  obtain ⟨its2,rv2,p2⟩:=seqK J q2
  obtain ⟨u1,hu1,ru1⟩:=rv1.get hx
  obtain ⟨u2,hu2,ru2⟩:=rv2.get hy
  have hT:H s.heap.objs.size=none:=J.hok.fresh (Nat.le_refl _)
  have old:∀ c∈[z,I,O,i,j],c≠s.heap.objs.size:=fun c hc=>by obtain ⟨o,e,_⟩:=st.some c hc; exact Nat.ne_of_lt (Heap.lt_size e)
  refine zip_next D st p1 p2 (x:=u1) (y:=u2) (by simpa using hu1) (by simpa using hu2) fun h' st' pr kp=>⟨_,rfl,wpAny_letOwnedTupleGo_zip st'.zo fun h2 z2 c2=>?_⟩
  have J1:Inv X pins σ (upd H s.heap.objs.size (.tup [x,y])) { s with heap:=s.heap.push { cls:=.type "tuple",data:=.seq #[u1,u2] } }:=J.laid (t':=s.toks) (fun c o e=>Heap.get?_push_of_some _ e) (Nat.le_refl _) ⟨by show 2≤sizeLine; decide,[u1,u2],.cons ru1 (.cons ru2 .nil),⟨_,Heap.get?_push_size _ rfl,rfl,_,rfl⟩⟩
  have hf1:∀ c∈[z,I,O,i,j],FpOk X pins (upd H s.heap.objs.size (.tup [x,y])) c:=fun c hc=>⟨by rw [upd_ne (old c hc)]; exact (hf c hc).1,(hf c hc).2⟩
  have J2:Inv X pins σ (upd H s.heap.objs.size (.tup [x,y])) { s with heap:=h2 }:=turnedM (s:={ s with heap:=s.heap.push { cls:=.type "tuple",data:=.seq #[u1,u2] } }) (h':=h2) (t':=s.toks) J1 hf1 fun c o hc e=>by
   simp only [List.mem_cons,List.not_mem_nil,or_false,not_or] at hc
   refine c2.extBut _ _ hc.1 ?_
   by_cases q:c=s.heap.objs.size
   ·subst q
    have e':=(Heap.get?_push_size s.heap (o:={ cls:=.type "tuple",data:=.seq #[u1,u2] }) rfl).symm.trans e
    rw [← e']; exact pr
   ·exact kp c o hc.1 hc.2.2.1 hc.2.2.2.1 hc.2.2.2.2 (push_old e q)
  refine ⟨.ref s.heap.objs.size,_,J2,rfl,⟨s.heap.objs.size,x,y,rfl,hT,rfl,fun zs hz=>?_,fun zs hz=>?_⟩,?_,fun c hc=>(hf1 c hc).1⟩
  ·rw [seqK_inj J hz q1]; exact hx
  ·rw [seqK_inj J hz q2]; exact hy
  ·have k2':∀ c o,c≠z→h'.get? c=some o→h2.get? c=some o:=fun c o e1 e=>c2.extBut _ _ e1 e
   exact ⟨z2,k2' _ _ D.Iz st'.io,let ⟨p,q,e⟩:=st'.oo; ⟨p,q,k2' _ _ D.Oz e⟩,st'.i1.at fun o e=>k2' _ o D.iz e,st'.i2.at fun o e=>k2' _ o D.jz e⟩
 done:=by
  intro X hP hw hK hc n pins s σ H E J hf st hg
  subst hP hw hK
  obtain ⟨xs,ys,q1,q2,hl⟩:=hg
  obtain ⟨its1,rv1,p1⟩:=seqK J q1
  obtain ⟨its2,rv2,p2⟩:=seqK J q2
  have l1:=rv1.length
  have l2:=rv2.length
  refine zip_stop (J.ok.hd hc) D st p1 p2 ?_ fun h' kp=>⟨rfl,turnedM (t':=s.toks) J hf fun c o hc e=>?_⟩
  ·rcases hl with hl | hl
   ·exact .inl (by simp; omega)
   ·exact .inr (by simp; omega)
  ·simp only [List.mem_cons,List.not_mem_nil,or_false,not_or] at hc
   exact kp c o hc.1 hc.2.2.1 hc.2.2.2.1 hc.2.2.2.2 e
 self:=fun _ _ _ _ _ st h=>wpAny_pyIter_zip st.zo h
end Z
end
section
namespace Z
open PySem PySem.Spec PyProof.Rows L2
structure NSt (k:Bool) (e it a:Addr) (n:Nat) (h:Heap):Prop where
 eo:∃ old,IsEnum h e it n old
 io:ItK k h it a n
section
variable {prog:Program} {w:World} {A:Around} {E:Value→Shared→Prop} {s:Shared} {k:Bool} {e it a:Addr} {n:Nat} {xs:Array Value} {x:Value}
theorem en_item {old:Value} {Q:Value→Shared→Prop} (hne:e≠it) (he:IsEnum s.heap e it n old) (hi:ItK k s.heap it a n) (ha:SqK k s.heap a xs) (hx:xs[n]?=some x)
  (hQ:∀ h',IsEnumOut h' e it ((n:Int) + 1) x s.heap.objs.size→ItK k h' it a (n + 1)→h'.get? s.heap.objs.size=some { cls:=.type "tuple",data:=.seq #[.int n s.toks,x] } →
   (∀ b o,b≠e→b≠it→s.heap.get? b=some o→h'.get? b=some o)→Q (.ref s.heap.objs.size) { s with heap:=h',toks:=s.toks + 1 }) :
  wpAny (model prog w) A (Builtin.«enumerate.__next__» ⟨[.ref e],[]⟩) (fun fin s'=>∃ v,fin=.done (.ret v)∧Q v s') E s:=by
 obtain ⟨hp,g,d,tk,os⟩:=s
 show wpAny _ _ (field (.ref e) 2 >>= _) _ _ _; refine wpAny_bind (wpAny_field he rfl (x:=.ref it) rfl (wpAny_bind (nxK hi ha hx fun g1 i1 c1=>?_)))
 replace c1:Heap.SameBut it hp g1:=c1; have e1:IsEnum g1 e it n old:=(c1.2 e hne).trans he
 show wpAny _ _ (field (.ref e) 3 >>= _) _ _ ⟨g1,g,d,tk,os⟩; refine wpAny_bind (wpAny_field e1 rfl (x:=rawInt n) rfl ?_)
 show wpAny _ _ (field (.ref e) 4 >>= _) _ _ ⟨g1,g,d,tk,os⟩; refine wpAny_bind (wpAny_field e1 rfl (x:=.none) rfl ?_)
 show wpAny _ _ (mkInt n >>= _) _ _ ⟨g1,g,d,tk,os⟩; refine wpAny_bind (wpAny_mkInt ?_)
 show wpAny _ _ (setField (.ref e) 3 (rawInt ((n:Int) + 1)) >>= _) _ _ ⟨g1,g,d,tk + 1,os⟩
 refine wpAny_bind (wpAny_setField_rec e1 (by simp) fun g2 e2 c2=>?_); replace c2:Heap.SameBut e g1 g2:=c2; replace e2:IsEnum g2 e it ((n:Int) + 1) old:=e2
 show wpAny _ _ (setField (.ref e) 4 .none >>= _) _ _ ⟨g2,g,d,tk + 1,os⟩
 refine wpAny_bind (wpAny_setField_rec e2 (by simp) fun g3 e3 c3=>?_); replace c3:Heap.SameBut e g2 g3:=c3; replace e3:IsEnum g3 e it ((n:Int) + 1) old:=e3
 show wpAny _ _ (newTuple [.int n tk,x] >>= _) _ _ ⟨g3,g,d,tk + 1,os⟩; refine wpAny_bind (wpAny_newTuple ?_)
 have e4:IsEnum (g3.push { cls:=.type "tuple",data:=.seq #[.int n tk,x] }) e it ((n:Int) + 1) old:=Heap.get?_push_of_some _ e3
 generalize q4:g3.push { cls:=.type "tuple",data:=.seq #[.int n tk,x] }=g4 at e4
 have sz:g3.objs.size=hp.objs.size:=by rw [c3.1,c2.1,c1.1]
 have el:e < hp.objs.size:=Heap.lt_size he
 have t4:g4.get? hp.objs.size=some { cls:=.type "tuple",data:=.seq #[.int n tk,x] }:=by rw [← q4,← sz]; exact Heap.get?_push_size _ rfl
 have k4:∀ b o,b≠e→b≠it→hp.get? b=some o→g4.get? b=some o:=fun b o h1 h2 hb=>by rw [← q4]; exact Heap.get?_push_of_some _ (c3.extBut b o h1 (c2.extBut b o h1 (c1.extBut b o h2 hb)))
 have i4:ItK k g4 it a (n + 1):=i1.at fun o q=>by rw [← q4]; exact Heap.get?_push_of_some _ (c3.extBut _ _ (Ne.symm hne) (c2.extBut _ _ (Ne.symm hne) q))
 show wpAny _ _ (Builtin.SmallTypes.ownedTupleIsFree (.ref e) >>= _) _ _ ⟨g4,g,d,tk + 1,os⟩; rw [sz]
 clear q4 e3 c3 e2 c2 e1 c1 i1 sz g3 g2 g1
 refine wpAny_bind ?_; unfold Builtin.SmallTypes.ownedTupleIsFree
 refine wpAny_bind (wpAny_field e4 rfl (x:=.none) rfl (wpAny_pure ?_)); simp only [if_true]
 refine wpAny_bind (wpAny_rule (wpAny_bind (wpAny_field e4 rfl (x:=old) rfl (wpAny_bind (wpAny_setField_rec e4 (by simp) fun g5 e5 c5=>?_)))))
 replace c5:Heap.SameBut e g4 g5:=c5; replace e5:IsEnum g5 e it ((n:Int) + 1) x:=e5
 show wpAny _ _ (Builtin.SmallTypes.ownedTupleHandOut (.ref e) (.ref hp.objs.size) >>= _) _ _ ⟨g5,g,d,tk + 1,os⟩; refine wpAny_bind ?_; unfold Builtin.SmallTypes.ownedTupleHandOut
 refine wpAny_bind (wpAny_setField_rec e5 (by simp) fun g6 e6 c6=>?_); replace c6:Heap.SameBut e g5 g6:=c6; replace e6:IsEnumOut g6 e it ((n:Int) + 1) x hp.objs.size:=e6
 refine wpAny_setField_rec e6 (by simp) fun g7 e7 c7=>?_; replace c7:Heap.SameBut e g6 g7:=c7; replace e7:IsEnumOut g7 e it ((n:Int) + 1) x hp.objs.size:=e7
 have up:∀ b o,b≠e→g4.get? b=some o→g7.get? b=some o:=fun b o h1 q=>c7.extBut b o h1 (c6.extBut b o h1 (c5.extBut b o h1 q))
 exact wpAny_bind (wpAny_letGo (wpAny_pure ⟨_,rfl,hQ g7 e7 (i4.at fun o q=>up _ o (Ne.symm hne) q) (up _ _ (Nat.ne_of_gt el) t4) fun b o h1 h2 hb=>up b o h1 (k4 b o h1 h2 hb)⟩))
theorem en_next {old:Value} {Q:Option Value→Shared→Prop} (hne:e≠it) (he:IsEnum s.heap e it n old) (hi:ItK k s.heap it a n) (ha:SqK k s.heap a xs) (hx:xs[n]?=some x)
  (hQ:∀ h',IsEnumOut h' e it ((n:Int) + 1) x s.heap.objs.size→ItK k h' it a (n + 1)→h'.get? s.heap.objs.size=some { cls:=.type "tuple",data:=.seq #[.int n s.toks,x] } →
   (∀ b o,b≠e→b≠it→s.heap.get? b=some o→h'.get? b=some o)→Q (some (.ref s.heap.objs.size)) { s with heap:=h',toks:=s.toks + 1 }):wpAny (model prog w) A (pyNext (.ref e)) Q E s:=by
 have hT:s.TypeIs (.ref e) "enumerate" := ⟨_,he,rfl⟩
 unfold pyNext
 exact wpAny_bind (wpAny_attempt (wpAny_callSpecial?_slot (name:=Str.ofString "__next__") hT F.slot_enumerate_next (wpAny_call_entry F.slot_enumerate_next hT F.entry_enumerate_next (en_item hne he hi ha hx fun h' q1 q2 q3 q4=>wpAny_pure (hQ h' q1 q2 q3 q4)) (F.args_enumerate_next_1 _))))
theorem en_stop {old:Value} {Q:Option Value→Shared→Prop} (hh:A.handled=none) (he:IsEnum s.heap e it n old) (hi:ItK k s.heap it a n) (ha:SqK k s.heap a xs) (hx:xs[n]?=none)
  (hQ:∀ h',Heap.ExtBut it s.heap h'→Q none { s with heap:=h' }):wpAny (model prog w) A (pyNext (.ref e)) Q E s:=by
 have hT:s.TypeIs (.ref e) "enumerate" := ⟨_,he,rfl⟩
 unfold pyNext
 refine wpAny_bind (wpAny_attempt (wpAny_callSpecial?_slot (name:=Str.ofString "__next__") hT F.slot_enumerate_next (wpAny_call_entry F.slot_enumerate_next hT F.entry_enumerate_next ?_ (F.args_enumerate_next_1 _))))
 show wpAny _ _ (field (.ref e) 2 >>= _) _ _ _; refine wpAny_bind (wpAny_field he rfl (x:=.ref it) rfl (wpAny_bind (endK hh hi ha hx fun h' x he' hx'=>?_)))
 obtain ⟨o,ho,hc⟩:=hx'
 exact wpAny_bind (wpAny_isInstance (T := "StopIteration") (b:=true) ⟨o,ho,hc⟩ isSubtype_stop (wpAny_pure (hQ _ he')))
theorem en_go {elts:List Expr} {x1:Nat} {pos:Pos} {T:Addr} {i:Int} {item:Value} {Q:Unit→Shared→Prop} (hz:IsEnumOut s.heap e it i item T) (hQ:∀ h',IsEnum h' e it i item→Heap.SameBut e s.heap h'→Q () { s with heap:=h' }) :
  wpAny (model prog w) A (letOwnedTupleGo (.Tuple elts x1 pos) (.ref e) (.ref T)) Q E s:=by
 unfold letOwnedTupleGo
 refine wpAny_bind (wpAny_load hz ?_)
 show wpAny _ _ (if (["enumerate","zip","dict_itemiterator","dict_reverseitemiterator","odict_iterator","itertools.zip_longest","itertools.pairwise"].contains "enumerate" && (#[rawInt T,.bool false,.ref it,rawInt i,.none,item]:Array Value)[0]? == some (rawInt T))=true then _ else _) Q E s
 rw [if_pos (by simp)]
 refine wpAny_bind (wpAny_rule ?_)
 show wpAny _ _ (setField (.ref e) 0 .none) Q E s
 exact wpAny_setField_rec hz (by simp) fun h' z' c'=>hQ h' z' c'
end
open AutoSeq1 (wpAny_loadPart')
noncomputable def sqNm (k:Bool):String:=match k with
 | true => "list"
 | false => "tuple"
theorem en_meets (k:Bool) (a:Addr) (xs:Array Value) (n:Nat) (dct:Option Addr) (sl:Array (Option Value)):Meets (Builtin.«enumerate.__new__» ⟨[.type "enumerate",.ref a],[]⟩) (fun _ R s=>s.heap.get? a=some { cls:=.type (sqNm k),dict:=dct,data:=.seq xs n,slots:=sl } ∧
   R (.ok (.ret (.ref (s.heap.push { cls:=.type (itNm k),data:=.fields #[.ref a,.int 0 0] }).objs.size))) { s with heap:=(s.heap.push { cls:=.type (itNm k),data:=.fields #[.ref a,.int 0 0] }).push { cls:=.type "enumerate",data:=.fields #[.none,.bool false,.ref s.heap.objs.size,rawInt 0,.none,.none] } }) :=
 .of_wp fun prog w A R s h=>by
  obtain ⟨hp,g,d,tk,os⟩:=s; obtain ⟨hl,h⟩:=h
  have hsub:=sub_enumerate
  have L:SqK k (Shared.heap ⟨hp,g,d,tk,os⟩) a xs:=by cases k <;> exact ⟨_,hl,rfl,n,rfl⟩
  wp_walk using wpAny_loadPart' hl
  refine wpAny_stack_any fun st=>wpAny_pure ?_
  split
  ·rename_i c _ _ _ _ _
   cases (c == Value.type "enumerate") <;> (wp_walk using wpAny_loadPart' hl,iterK L; exact ⟨_,rfl,h⟩)
  ·wp_walk using wpAny_loadPart' hl,iterK L
   exact ⟨_,rfl,h⟩
theorem en_call {prog:Program} {w:World} {A:Around} {E:Value→Shared→Prop} {s:Shared} {k:Bool} {a:Addr} {xs:Array Value} {Q:Value→Shared→Prop} (hL:SqK k s.heap a xs)
  (h:∀ h',NSt k (s.heap.objs.size + 1) s.heap.objs.size a 0 h'→(∀ b o,s.heap.get? b=some o→h'.get? b=some o)→Q (.ref (s.heap.objs.size + 1)) { s with heap:=h' }) :
  wpAny (model prog w) A (call (.type "enumerate") [.ref a]) Q E s:=by
 obtain ⟨n,dct,sl,hl⟩:∃ n dct sl,s.heap.get? a=some { cls:=.type (sqNm k),dict:=dct,data:=.seq xs n,slots:=sl }:=by
  cases k <;> (obtain ⟨⟨c,dct,dt,sl⟩,hl,hc,n,hd⟩:=hL; cases hc; cases hd; exact ⟨n,dct,sl,hl⟩)
 refine callType_new F.called_enumerate (by decide) (F.typeCall_enumerate_1 _) (F.newCall_enumerate_1 _) (fun obj=>F.args_object_init_2 obj _) F.entry_enumerate_new (en_meets k a xs n dct sl) ⟨hl,?_⟩
 have hz:(s.heap.push { cls:=.type (itNm k),data:=.fields #[.ref a,.int 0 0] }).objs.size=s.heap.objs.size + 1:=Heap.size_push ..
 show _∧_
 rw [hz]
 have he:IsEnum ((s.heap.push { cls:=.type (itNm k),data:=.fields #[.ref a,.int 0 0] }).push { cls:=.type "enumerate",data:=.fields #[.none,.bool false,.ref s.heap.objs.size,rawInt 0,.none,.none] }) (s.heap.objs.size + 1) s.heap.objs.size 0 .none:=by
  have:=Heap.get?_push_size (s.heap.push { cls:=.type (itNm k),data:=.fields #[.ref a,.int 0 0] }) (o:={ cls:=.type "enumerate",data:=.fields #[.none,.bool false,.ref s.heap.objs.size,rawInt 0,.none,.none] }) rfl
  rw [hz] at this; exact this
 exact ⟨⟨_,he,rfl⟩,h _ ⟨⟨.none,he⟩,itK_new (Heap.get?_push_of_some _ (Heap.get?_push_size _ rfl))⟩ fun b o q=>Heap.get?_push_of_some _ (Heap.get?_push_of_some _ q)⟩
noncomputable def Ite (K:PySem.W.Frag) (k:Bool) (a:Addr):L2.It :=
 ⟨fun n H=>∃ xs x,SqH k K H a xs∧xs[n]?=some x,
   fun n H v H'=>∃ T x,v=.ref T∧H T=none∧H'=upd H T (.tup [.int n,x])∧∀ xs,SqH k K H a xs→xs[n]?=some x,
   fun n H=>∃ xs,SqH k K H a xs∧xs.length≤n⟩
theorem NSt.at {k:Bool} {e it a:Addr} {n:Nat} {h h':Heap} (x:NSt k e it a n h) (q:∀ c∈[e,it],∀ o,h.get? c=some o→h'.get? c=some o):NSt k e it a n h' :=
 ⟨let ⟨old,z⟩:=x.eo; ⟨old,q e (by simp) _ z⟩,x.io.at fun o z=>q it (by simp) o z⟩
theorem NSt.some {k:Bool} {e it a:Addr} {n:Nat} {h:Heap} (x:NSt k e it a n h):∀ c∈[e,it],∃ o,h.get? c=some o∧∀ v,o.data≠.cell v:=fun c hc=>by
 simp only [List.mem_cons,List.not_mem_nil,or_false] at hc
 rcases hc with z | z <;> subst z
 ·obtain ⟨old,z⟩:=x.eo; exact ⟨_,z,fun v q=>nomatch q⟩
 ·obtain ⟨o,z,_,d⟩:=x.io.obj; exact ⟨o,z,d⟩
theorem turn_en {P:Program} {w:World} {K:PySem.W.Frag} {es:List Expr} {x0:Nat} {tp:Pos} {k:Bool} {e it a:Addr} (hne:e≠it) :
  Turn P w K (.Tuple es x0 tp) (Ite K k a) [e,it] e (fun n h=>NSt k e it a n h) where
 mem:=by simp
 obj:=fun n h st c hc=>st.some c hc
 keep:=fun n h h' st q=>st.at q
 item:=by
  intro X hP hw hK hc n pins s σ H E J hf st hg
  subst hP hw hK
  obtain ⟨xs,x,q1,hx⟩:=hg
  obtain ⟨its,rv,p⟩:=seqK J q1
  obtain ⟨u,hu,ru⟩:=rv.get hx
  obtain ⟨old,eo⟩:=st.eo
  have hT:H s.heap.objs.size=none:=J.hok.fresh (Nat.le_refl _)
  have old':∀ c∈[e,it],c≠s.heap.objs.size:=fun c hc=>by obtain ⟨o,z,_⟩:=st.some c hc; exact Nat.ne_of_lt (Heap.lt_size z)
  refine en_next hne eo st.io p (x:=u) (by simpa using hu) fun h' eo' io' pr kp=>⟨_,rfl,en_go eo' fun h2 e2 c2=>?_⟩
  have J1:Inv X pins σ (upd H s.heap.objs.size (.tup [.int n,x])) { s with heap:=s.heap.push { cls:=.type "tuple",data:=.seq #[.int n s.toks,u] } }:=J.laid (t':=s.toks) (fun c o z=>Heap.get?_push_of_some _ z) (Nat.le_refl _) ⟨by show 2≤sizeLine; decide,[.int n s.toks,u],.cons ⟨_,rfl⟩ (.cons ru .nil),⟨_,Heap.get?_push_size _ rfl,rfl,_,rfl⟩⟩
  have hf1:∀ c∈[e,it],FpOk X pins (upd H s.heap.objs.size (.tup [.int n,x])) c:=fun c hc=>⟨by rw [upd_ne (old' c hc)]; exact (hf c hc).1,(hf c hc).2⟩
  have J2:Inv X pins σ (upd H s.heap.objs.size (.tup [.int n,x])) { s with heap:=h2,toks:=s.toks + 1 }:=turnedM (s:={ s with heap:=s.heap.push { cls:=.type "tuple",data:=.seq #[.int n s.toks,u] } }) (h':=h2) (t':=s.toks + 1) J1 hf1 fun c o hc z=>by
   simp only [List.mem_cons,List.not_mem_nil,or_false,not_or] at hc
   refine c2.extBut _ _ hc.1 ?_
   by_cases q:c=s.heap.objs.size
   ·subst q
    have z':=(Heap.get?_push_size s.heap (o:={ cls:=.type "tuple",data:=.seq #[.int n s.toks,u] }) rfl).symm.trans z
    rw [← z']; exact pr
   ·exact kp c o hc.1 hc.2 (push_old z q)
  refine ⟨.ref s.heap.objs.size,_,J2,rfl,⟨s.heap.objs.size,x,rfl,hT,rfl,fun zs hz=>?_⟩,?_,fun c hc=>(hf1 c hc).1⟩
  ·rw [seqK_inj J hz q1]; exact hx
  ·exact ⟨⟨_,e2⟩,io'.at fun o z=>c2.extBut _ _ (Ne.symm hne) z⟩
 done:=by
  intro X hP hw hK hc n pins s σ H E J hf st hg
  subst hP hw hK
  obtain ⟨xs,q1,hl⟩:=hg
  obtain ⟨its,rv,p⟩:=seqK J q1
  have l1:=rv.length
  obtain ⟨old,eo⟩:=st.eo
  refine en_stop (J.ok.hd hc) eo st.io p (by simp; omega) fun h' kp=>⟨rfl,turnedM (t':=s.toks) J hf fun c o hc z=>?_⟩
  simp only [List.mem_cons,List.not_mem_nil,or_false,not_or] at hc
  exact kp c o hc.2 z
 self:=fun _ _ _ _ _ st h=>by obtain ⟨old,eo⟩:=st.eo; exact wpAny_pyIter_enum eo h
end Z
end
section
namespace Z
open PySem PySem.Spec PyProof.Rows L2
theorem size_down (a b:Int):Builtin.Range.rangeSize a b (-1)=if a > b then a - b else 0:=by
 unfold Builtin.Range.rangeSize
 rw [if_neg (by decide)]
 split <;> simp <;> omega
theorem small_down {a b:Int} (ha:-(2 ^ 62)≤a) (ha':a < 2 ^ 62) (hb:-(2 ^ 62)≤b) (hb':b < 2 ^ 62):Builtin.Range.small a b (-1)=true:=by
 unfold Builtin.Range.small
 rw [size_down]
 simp only [Builtin.Range.rangeFitsLong,Bool.and_eq_true,Bool.or_eq_true,decide_eq_true_eq,beq_iff_eq,show ¬ (-1:Int) > 0 by decide,if_false]
 split <;> omega
noncomputable def Itd (lo:Int) (n:Nat):L2.It where
 go:=fun i _=>i < n
 yld:=fun i H x H'=>H'=H∧x=.int (lo - i)
 stop:=fun i _=>n≤i
theorem turn_down {P:Program} {w:World} {K:PySem.W.Frag} {tg:Expr} (it:Addr) (lo:Int) (n:Nat):Turn P w K tg (Itd lo n) [it] it (fun i h=>IsRangeIter h it (lo + (i:Nat) * (-1)) ((n:Int) - (i:Nat)) (-1)) where
 mem:=by simp
 obj:=fun i h st b hb=>by
  obtain rfl:b=it:=by simpa using hb
  exact ⟨_,st,fun v z=>nomatch z⟩
 keep:=fun i h h' st k=>k it (by simp) _ st
 item:=by
  intro X hP hw hK hc i pins s σ H E I hf st hg
  subst hP hw hK
  obtain ⟨f0,f1,f2,f3,f4,f5⟩:=hf it (by simp)
  refine (Walks.range (prog:=X.prog) (w:=X.w) (I.ok.hd hc) it lo (-1) n).item i s _ _ hg st fun v h' tk hv st' kk=>?_
  obtain ⟨t,rfl⟩:=hv
  have I1:Inv X pins σ H { s with heap:=h',toks:=tk }:=I.turned (fun b o hb e=>kk b o (by simpa using hb) e) f0 f1 f3 f4 f5
  refine ⟨_,rfl,go_of (s:={ s with heap:=h',toks:=tk }) (n := "range_iterator") st' rfl rfl (by decide) ⟨.int (lo - i),H,I1,⟨t,?_⟩,⟨rfl,rfl⟩,st',fun b hb=>(hf b hb).1⟩⟩
  have e:lo + (i:Int) * (-1)=lo - i:=by omega
  rw [e]
 done:=by
  intro X hP hw hK hc i pins s σ H E I hf st hg
  subst hP hw hK
  obtain ⟨f0,f1,f2,f3,f4,f5⟩:=hf it (by simp)
  have hn:n≤i:=hg
  exact wpAny_pyNext_range_end (I.ok.hd hc) st (by omega) fun h' eb=>⟨rfl,I.turned (t':=s.toks) (fun b o hb e=>eb b o hb e) f0 f1 f3 f4 f5⟩
 self:=fun _ _ _ _ _ st h=>wpAny_pyIter_rangeiter st h
section
variable {X:Cx} {tg:Expr}
theorem down_it {pins:List (Addr×Obj)} {σ:L2.St} {H:Hp} {s:Shared} {R:L2.It→Hp→Prop} {E:Value→Shared→Prop} {lo hi:Int} {t u v:Tok} {tk:Nat} (I:Inv X pins σ H s) (h1:-(2 ^ 62)≤lo) (h2:lo < 2 ^ 62) (h3:-(2 ^ 62)≤hi) (h4:hi < 2 ^ 62)
  (q:R (Itd lo (lo - hi).toNat) H):wpAny (model X.prog X.w) X.A (pyIter (.ref s.heap.objs.size)) (PIE X pins σ tg R) E { s with heap:=s.heap.push { cls:=.type "range",data:=.fields #[.int lo t,.int hi u,.int (-1) v] },toks:=tk }:=by
 refine wpAny_pyIter_range (IsRange.new ..) (small_down h1 h2 h3 h4) ?_
 generalize hR:({ cls:=.type "range",data:=.fields #[.int lo t,.int hi u,.int (-1) v] }:Obj)=ro
 have I1:Inv X pins σ H { s with heap:=s.heap.push ro,toks:=tk }:=I.kept fun b o e=>Heap.get?_push_of_some _ e
 refine ⟨(s.heap.push ro).objs.size,[(s.heap.push ro).objs.size],_,_,H,rfl,I1.kept (t':=tk) fun b o e=>Heap.get?_push_of_some _ e,turn_down _ lo (lo - hi).toNat,?_,fun b hb=>?_,q⟩
 ·have e1:lo + ((0:Nat):Int) * (-1)=lo:=by simp
  have e2:(((lo - hi).toNat:Nat):Int) - ((0:Nat):Int)=Builtin.Range.rangeSize lo hi (-1):=by rw [size_down]; split <;> omega
  show IsRangeIter _ _ (lo + ((0:Nat):Int) * (-1)) ((((lo - hi).toNat:Nat):Int) - ((0:Nat):Int)) (-1)
  rw [e1,e2]
  exact Heap.get?_push_size _ rfl
 ·obtain rfl:b=(s.heap.push ro).objs.size:=by simpa using hb
  exact I1.fpOk (Nat.le_refl _) (I1.hok.fresh (Nat.le_refl _))
end
end Z
end
section
namespace Z
open PySem PySem.Spec PyProof.Rows L2
section
variable {X:Cx} {pins:List (Addr×Obj)} {σ:L2.St} {H:Hp} {s:Shared} {ρ:List Addr} {S S':Sto} {env:En} {Q:Value→Shared→Prop} {E:Value→Shared→Prop} {a b c e tg iter:Expr} {f fa fb fc:En→Sto→R D} {pos:Pos}
noncomputable def DG (X:Cx) (tg:Expr) (t:Tg):Prop :=
 ∀ (pins:List (Addr×Obj)) (s:Shared) (σ:L2.St) (H:Hp) (ρ:List Addr) (S:Sto) (env:En) (d:D) (v:V) (u:Value) (env':En) (Q:Unit→Shared→Prop) (E:Value→Shared→Prop),S0 X pins σ H s ρ S env→setTg t d env=some env'→RD X.K ρ H d v→RelV v u →
  (∀ s' σ',S0 X pins σ' H s' ρ S env'→Q () s')→wpAny (model X.prog X.w) X.A (assign tg X.env u) Q E s
theorem dg_name {i:Nat} {x:Str} (hN:X.N.Nodup) (hi:X.N[i]?=some x) (hx:Loc X.env.scope x) (hf:X.fn x=true∨X.env.scope.names.lookup x=some .local):DG X (.Name x pos) (.var i):=by
 intro pins s σ H ρ S env d v u env' Q E I h rd rv hQ
 simp only [setTg,Option.some.injEq] at h
 subst h
 exact wpAny_assign_Name (store_ok I.inv hN hi hx rv (fun s' I'=>hQ s' _ ⟨I',I.sr,I.er.set i rd⟩) hf)
noncomputable def gNs:List Nat→TGs
 | []=>gNil
 | i :: is=>gCons (gName i) (gNs is)
theorem gNs_ok:∀ (is:List Nat) (vs:List V) (σ:L2.St) (H:Hp) (Q:L2.St→Hp→Prop),is.length=vs.length→Q ((is.zip vs).foldl (fun e p=>e.set p.1 (some p.2)) σ) H→gNs is vs σ H Q
 | [],vs,σ,H,Q,hl,h=>by
  have:vs=[]:=by simpa using hl.symm
  subst this
  exact ⟨rfl,h⟩
 | i :: is,[],σ,H,Q,hl,h=>by simp at hl
 | i :: is,v :: vs,σ,H,Q,hl,h=>⟨v,vs,rfl,gNs_ok is vs _ H Q (by simpa using hl) h⟩
theorem ER.sets {K:PySem.W.Frag}:∀ (is:List Nat) (ds:List D) (vs:List V) (env:En) (σ:L2.St),RDs K ρ H ds vs→ER K ρ H env σ→ER K ρ H ((is.zip ds).foldl (fun e p=>e.set p.1 (some p.2)) env) ((is.zip vs).foldl (fun e p=>e.set p.1 (some p.2)) σ)
 | [],ds,vs,env,σ,r,e=>by simpa using e
 | i :: is,[],vs,env,σ,r,e=>by simp only [RDs] at r; subst r; simpa using e
 | i :: is,d :: ds,vs,env,σ,r,e=>by
  simp only [RDs] at r
  obtain ⟨v,vs',rfl,h1,h2⟩:=r
  exact ER.sets is ds vs' _ _ h2 (e.set i h1)
theorem dg_tup {es:List Expr} {k:Nat} {is:List Nat} (hc:X.calm=true) (h:∀ E,PGs (X.wish E) es (gNs is)) (hn:(assignEach es X.env).length=is.length) (hst:(assignEach es X.env).findIdx? (·.1)=none):DG X (.Tuple es k pos) (.tup is):=by
 intro pins s σ H ρ S env d v u env' Q E I hd rd rv hQ
 cases d with
 | tup ds =>
  simp only [setTg] at hd
  split at hd
  ·rename_i hl
   cases hd
   simp only [RD] at rd
   obtain ⟨a,vs,rfl,hs,hr⟩:=rd
   have hlv:is.length=vs.length:=by rw [hl,hr.length]
   refine thn (pg_tup (X:=X.wish E) (n:=is.length) hc (h E) hn hst pins s σ H (.ref a) u (fun σ' H'=>H'=H∧σ'=(is.zip vs).foldl (fun e p=>e.set p.1 (some p.2)) σ) (I.inv.wish E) rv ⟨a,vs,rfl,hs,hlv.symm,gNs_ok is vs σ H _ hlv ⟨rfl,rfl⟩⟩) fun _ s' ⟨σ',H',J,e1,e2⟩=>?_
   subst e1 e2
   exact hQ s' _ ⟨J.unwish,I.sr,ER.sets is ds vs env σ hr I.er⟩
  ·cases hd
 | _=>cases hd
noncomputable def DGL (X:Cx) (tg:Expr) (is:List Nat):Prop :=
 ∀ (pins:List (Addr×Obj)) (s:Shared) (σ:L2.St) (H:Hp) (ρ:List Addr) (S:Sto) (env:En) (d:D) (v:V) (u:Value) (ds:List D) (env':En) (Q:Unit→Shared→Prop) (E:Value→Shared→Prop),S0 X pins σ H s ρ S env→lstV S d=some ds→setTg (.tup is) (.tup ds) env=some env'→RD X.K ρ H d v→RelV v u →
  (∀ s' σ',S0 X pins σ' H s' ρ S env'→Q () s')→wpAny (model X.prog X.w) X.A (assign tg X.env u) Q E s
theorem dg_lst {es:List Expr} {k:Nat} {is:List Nat} (hc:X.calm=true) (h:∀ E,PGs (X.wish E) es (gNs is)) (hn:(assignEach es X.env).length=is.length) (hst:(assignEach es X.env).findIdx? (·.1)=none):DGL X (.Tuple es k pos) is:=by
 intro pins s σ H ρ S env d v u ds env' Q E I hd he rd rv hQ
 cases d with
 | ref n =>
  have hd':Z.lstM S n=some ds:=hd
  simp only [setTg] at he
  split at he
  ·rename_i hl
   cases he
   obtain ⟨a,vs,rfl,ha,hv,hr⟩:=I.lstR hd' rd
   obtain ⟨hle,its,kk,rvs,eo⟩:=(show ObjOk X.prog X.w H s.heap a (.lst vs) from I.inv.hok a _ hv)
   have hlv:is.length=vs.length:=by rw [hl,hr.length]
   cases rv
   rw [assign_Tuple]
   refine wpAny_bind (wpAny_standAt ?_)
   unfold unpack
   have hsz:(assignEach es X.env).length=its.toArray.size:=by rw [hn,hlv,rvs.length]; simp
   rw [hsz,hst]
   refine wpAny_bind (wpAny_holding (PySem.W.kun_itemsOf (I.inv.ok.hd hc) ⟨_,eo,rfl,kk,rfl⟩ fun h' hx=>?_))
   have I1:Inv X pins σ H { s with heap:=h' }:=I.inv.kept (t':=s.toks) fun b o e=>hx b o (Nat.ne_of_lt (Heap.lt_size e)) e
   refine thn (h E pins _ σ H vs _ (fun σ' H'=>H'=H∧σ'=(is.zip vs).foldl (fun e p=>e.set p.1 (some p.2)) σ) (I1.wish E) (by simpa using rvs) (gNs_ok is vs σ H _ hlv ⟨rfl,rfl⟩)) fun _ s' ⟨σ',H',J,e1,e2⟩=>?_
   subst e1 e2
   exact hQ s' _ ⟨J.unwish,I.sr,ER.sets is ds vs env σ hr I.er⟩
  ·cases he
 | _=>cases hd
theorem pgs_nm:∀ (is:List Nat) (xs:List (Str×Pos)),X.N.Nodup→is.length=xs.length→(∀ (j i:Nat) (x:Str×Pos),is[j]?=some i→xs[j]?=some x→X.N[i]?=some x.1∧Loc X.env.scope x.1∧(X.fn x.1=true∨X.env.scope.names.lookup x.1=some .local)) →
  PGs X (xs.map fun x=>Expr.Name x.1 x.2) (gNs is)
 | [],xs,_,hl,_=>by
  have:xs=[]:=by simpa using hl.symm
  subst this
  exact pgs_nil
 | i :: is,[],_,hl,_=>by simp at hl
 | i :: is,x :: xs,hN,hl,h=>by
  obtain ⟨h1,h2,h3⟩:=h 0 i x rfl rfl
  exact pgs_cons (pg_name hN h1 h2 h3) (pgs_nm is xs hN (by simpa using hl) fun j i' x' e1 e2=>h (j + 1) i' x' (by simpa using e1) (by simpa using e2)) rfl
theorem names_each:∀ (xs:List (Str×Pos)) (env:PySem.Env),(assignEach (xs.map fun x=>Expr.Name x.1 x.2) env).length=xs.length∧(assignEach (xs.map fun x=>Expr.Name x.1 x.2) env).findIdx? (·.1)=none
 | [],env=>⟨rfl,rfl⟩
 | x :: xs,env=>by
  have h:=names_each xs env
  have e:assignEach ((x :: xs).map fun x=>Expr.Name x.1 x.2) env=(false,assign (.Name x.1 x.2) env) :: assignEach (xs.map fun x=>Expr.Name x.1 x.2) env:=rfl
  rw [e]
  refine ⟨by simp [h.1],?_⟩
  rw [List.findIdx?_cons]
  simp [h.2]
noncomputable def SrcK (K:PySem.W.Frag) (ρ:List Addr) (H:Hp):Src→Bool→Addr→Prop
 | .con xs,false,a=>∃ vs,SqT K H a vs∧RDs K ρ H xs vs
 | .ref n,true,a=>ρ[n]?=some a
 | _,_,_=>False
theorem SrcK.mono' {K:PySem.W.Frag} {ρ':List Addr} {H':Hp} {src:Src} {k:Bool} {a:Addr} (x:Mon K ρ ρ' H H') (h:SrcK K ρ H src k a):SrcK K ρ' H' src k a:=by
 cases src with
 | con xs=>cases k with
  | false=>obtain ⟨vs,h1,h2⟩:=h; exact ⟨vs,x.tup _ _ h1,RDs.mono' x _ _ h2⟩
  | true=>exact h.elim
 | ref n=>cases k with
  | false=>exact h.elim
  | true=>exact x.pre _ _ h
 | zip _ _=>exact h.elim
 | enm _=>exact h.elim
theorem SrcK.get {src:Src} {k:Bool} {a:Addr} {i:Nat} {o:Option D} (h:SrcK X.K ρ H src k a) (I:S0 X pins σ H s ρ S env) (g:src.get S i=some o):∃ vs,SqH k X.K H a vs∧match o with
  | some d=>∃ v,vs[i]?=some v∧RD X.K ρ H d v
  | none=>vs.length≤i:=by
 cases src with
 | con xs=>cases k with
  | false =>
   obtain ⟨vs,h1,h2⟩:=h
   simp only [Src.get,Option.some.injEq] at g
   refine ⟨vs,h1,?_⟩
   cases o with
   | some d=>exact h2.get g
   | none=>have:=h2.none g; rw [List.getElem?_eq_none_iff] at this; exact this
  | true=>exact h.elim
 | ref n=>cases k with
  | false=>exact h.elim
  | true =>
   simp only [Src.get,Option.map_eq_some_iff] at g
   obtain ⟨xs,g1,g2⟩:=g
   obtain ⟨a',vs,k1,k2,k3⟩:=I.list g1
   have h':ρ[n]?=some a:=h
   rw [h'] at k1; cases k1
   refine ⟨vs,.of k2,?_⟩
   cases o with
   | some d=>exact k3.get g2
   | none=>have:=k3.none g2; rw [List.getElem?_eq_none_iff] at this; exact this
 | zip _ _=>exact h.elim
 | enm _=>exact h.elim
inductive SrcR (K:PySem.W.Frag) (ρ:List Addr) (H:Hp):Src→L2.It→Prop where
 | tup {a:Addr} {xs:List D} {vs:List V}:SqT K H a vs→RDs K ρ H xs vs→SrcR K ρ H (.con xs) (Itt K a)
 | rng (lo:Int) (n:Nat):SrcR K ρ H (.con ((List.range n).map fun (k:Nat)=>D.int (lo + k))) (Itr lo n)
 | lst {n:Nat} {a:Addr}:ρ[n]?=some a→SrcR K ρ H (.ref n) (Itl K a)
 | zip {s1 s2:Src} {k1 k2:Bool} {a b:Addr}:SrcK K ρ H s1 k1 a→SrcK K ρ H s2 k2 b→SrcR K ρ H (.zip s1 s2) (Itz K k1 k2 a b)
 | dwn (lo:Int) (n:Nat):SrcR K ρ H (.con ((List.range n).map fun (k:Nat)=>D.int (lo - k))) (Itd lo n)
 | enm {s1:Src} {k:Bool} {a:Addr}:SrcK K ρ H s1 k a→SrcR K ρ H (.enm s1) (Ite K k a)
theorem SrcR.mono' {K:PySem.W.Frag} {ρ':List Addr} {H':Hp} {src:Src} {J:L2.It} (x:Mon K ρ ρ' H H') (h:SrcR K ρ H src J):SrcR K ρ' H' src J:=by
 cases h with
 | tup h1 h2=>exact .tup (x.tup _ _ h1) (RDs.mono' x _ _ h2)
 | rng lo n=>exact .rng lo n
 | lst h=>exact .lst (x.pre _ _ h)
 | zip h1 h2=>exact .zip (h1.mono' x) (h2.mono' x)
 | dwn lo n=>exact .dwn lo n
 | enm h1=>exact .enm (h1.mono' x)
theorem SrcR.mono {K:PySem.W.Frag} {ρ':List Addr} {H':Hp} {src:Src} {J:L2.It} (x:Stp K ρ ρ' H H') (h:SrcR K ρ H src J):SrcR K ρ' H' src J:=h.mono' x.toMon
theorem zip_get {s1 s2:Src} {i:Nat} {o:Option D} (g:(Src.zip s1 s2).get S i=some o):∃ o1 o2,s1.get S i=some o1∧s2.get S i=some o2∧match o with
  | some d=>∃ x y,o1=some x∧o2=some y∧d=.tup [x,y]
  | none=>o1=none∨o2=none:=by
 simp only [Src.get] at g
 split at g
 ·rename_i x y e1 e2; cases g; exact ⟨_,_,e1,e2,x,y,rfl,rfl,rfl⟩
 ·rename_i o1 o2 hn e1 e2
  cases g
  refine ⟨o1,o2,e1,e2,?_⟩
  cases o1 with
  | none=>exact .inl rfl
  | some x =>
   cases o2 with
   | none=>exact .inr rfl
   | some y=>exact (hn x y rfl rfl).elim
 ·cases g
theorem enm_get {s1:Src} {i:Nat} {o:Option D} (g:(Src.enm s1).get S i=some o):∃ o1,s1.get S i=some o1∧match o with
  | some d=>∃ x,o1=some x∧d=.tup [.int i,x]
  | none=>o1=none:=by
 simp only [Src.get] at g
 split at g
 ·rename_i x e1; cases g; exact ⟨_,e1,x,rfl,rfl⟩
 ·rename_i hn
  refine ⟨o,g,?_⟩
  cases o with
  | none=>rfl
  | some x=>exact (hn x g).elim
theorem SrcR.go {src:Src} {J:L2.It} {i:Nat} {d:D} (h:SrcR X.K ρ H src J) (I:S0 X pins σ H s ρ S env) (g:src.get S i=some (some d)) :
  J.go i H∧∀ x H',J.yld i H x H'→SR X.K ρ S H'∧Stp X.K ρ ρ H H'∧RD X.K ρ H' d x:=by
 cases h with
 | @tup a xs vs h1 h2 =>
  simp only [Src.get,Option.some.injEq] at g
  obtain ⟨v,e1,e2⟩:=h2.get g
  refine ⟨⟨vs,v,h1,e1⟩,fun x H' y=>?_⟩
  obtain ⟨rfl,y⟩:=y
  have:=y vs h1
  rw [e1] at this; cases this
  exact ⟨I.sr,.refl,e2⟩
 | rng lo n =>
  simp only [Src.get,Option.some.injEq] at g
  rw [List.getElem?_map] at g
  have hi:i < n:=by
   by_cases hi:i < n
   ·exact hi
   ·rw [List.getElem?_eq_none (by simpa using hi)] at g; cases g
  rw [List.getElem?_range hi] at g
  simp only [Option.map_some,Option.some.injEq] at g
  subst g
  refine ⟨hi,fun x H' y=>?_⟩
  obtain ⟨rfl,rfl⟩:=y
  exact ⟨I.sr,.refl,by simp only [RD]⟩
 | @lst n a h =>
  simp only [Src.get,Option.map_eq_some_iff] at g
  obtain ⟨xs,g1,g2⟩:=g
  obtain ⟨a',vs,k1,k2,k3⟩:=I.list g1
  rw [h] at k1; cases k1
  obtain ⟨v,e1,e2⟩:=k3.get g2
  refine ⟨⟨vs,v,.of k2,e1⟩,fun x H' y=>?_⟩
  obtain ⟨rfl,y⟩:=y
  have:=y vs (.of k2)
  rw [e1] at this; cases this
  exact ⟨I.sr,.refl,e2⟩
 | @zip s1 s2 k1 k2 a b h1 h2 =>
  obtain ⟨o1,o2,g1,g2,x,y,rfl,rfl,rfl⟩:=zip_get g
  obtain ⟨vs,q1,v,e1,r1⟩:=h1.get I g1
  obtain ⟨us,q2,u,e2,r2⟩:=h2.get I g2
  refine ⟨⟨vs,v,us,u,q1,e1,q2,e2⟩,fun w H' yd=>?_⟩
  obtain ⟨T,v',u',rfl,hT,rfl,z1,z2⟩:=yd
  have z1':=z1 vs q1
  have z2':=z2 us q2
  rw [e1] at z1'; cases z1'
  rw [e2] at z2'; cases z2'
  have st:Stp X.K ρ ρ H (upd H T (.tup [v,u])):=Stp.upd hT
  refine ⟨I.sr.upd hT,st,?_⟩
  simp only [RD]
  exact ⟨T,[v,u],rfl,.of upd_same,.cons (r1.mono st) (.cons (r2.mono st) .nil)⟩
 | dwn lo n =>
  simp only [Src.get,Option.some.injEq] at g
  rw [List.getElem?_map] at g
  have hi:i < n:=by
   by_cases hi:i < n
   ·exact hi
   ·rw [List.getElem?_eq_none (by simpa using hi)] at g; cases g
  rw [List.getElem?_range hi] at g
  simp only [Option.map_some,Option.some.injEq] at g
  subst g
  refine ⟨hi,fun x H' y=>?_⟩
  obtain ⟨rfl,rfl⟩:=y
  exact ⟨I.sr,.refl,by simp only [RD]⟩
 | @enm s1 k a h1 =>
  obtain ⟨o1,g1,x,rfl,rfl⟩:=enm_get g
  obtain ⟨vs,q1,v,e1,r1⟩:=h1.get I g1
  refine ⟨⟨vs,v,q1,e1⟩,fun w H' yd=>?_⟩
  obtain ⟨T,v',rfl,hT,rfl,z1⟩:=yd
  have z1':=z1 vs q1
  rw [e1] at z1'; cases z1'
  have st:Stp X.K ρ ρ H (upd H T (.tup [.int i,v])):=Stp.upd hT
  refine ⟨I.sr.upd hT,st,?_⟩
  simp only [RD]
  exact ⟨T,[.int i,v],rfl,.of upd_same,.cons (by simp only [RD]) (.cons (r1.mono st) .nil)⟩
theorem SrcR.stop {src:Src} {J:L2.It} {i:Nat} (h:SrcR X.K ρ H src J) (I:S0 X pins σ H s ρ S env) (g:src.get S i=some none):J.stop i H:=by
 cases h with
 | @tup a xs vs h1 h2 =>
  simp only [Src.get,Option.some.injEq] at g
  exact ⟨vs,h1,by have:=h2.none g; rw [List.getElem?_eq_none_iff] at this; exact this⟩
 | rng lo n =>
  simp only [Src.get,Option.some.injEq] at g
  rw [List.getElem?_eq_none_iff] at g
  show n≤i
  simpa using g
 | @lst n a h =>
  simp only [Src.get,Option.map_eq_some_iff] at g
  obtain ⟨xs,g1,g2⟩:=g
  obtain ⟨a',vs,k1,k2,k3⟩:=I.list g1
  rw [h] at k1; cases k1
  exact ⟨vs,.of k2,by have:=k3.none g2; rw [List.getElem?_eq_none_iff] at this; exact this⟩
 | @zip s1 s2 k1 k2 a b h1 h2 =>
  obtain ⟨o1,o2,g1,g2,ho⟩:=zip_get g
  obtain ⟨vs,q1,r1⟩:=h1.get I g1
  obtain ⟨us,q2,r2⟩:=h2.get I g2
  refine ⟨vs,us,q1,q2,?_⟩
  rcases ho with e | e <;> subst e
  ·exact .inl r1
  ·exact .inr r2
 | dwn lo n =>
  simp only [Src.get,Option.some.injEq] at g
  rw [List.getElem?_eq_none_iff] at g
  show n≤i
  simpa using g
 | @enm s1 k a h1 =>
  obtain ⟨o1,g1,ho⟩:=enm_get g
  obtain ⟨vs,q1,r1⟩:=h1.get I g1
  cases ho
  exact ⟨vs,q1,r1⟩
noncomputable def ItP (X:Cx) (pins:List (Addr×Obj)) (σ:L2.St) (ρ:List Addr) (H:Hp) (tg:Expr) (r:R Src) (itv:Value) (s2:Shared):Prop :=
 ∃ src S' it fp tn J H' ρ',r=.ok src S'∧itv=.ref it∧Inv X pins σ H' s2∧Turn X.prog X.w X.K tg J fp it tn∧tn 0 s2.heap∧(∀ b∈fp,FpOk X pins H' b)∧SrcR X.K ρ' H' src J∧SR X.K ρ' S' H'∧Stp X.K ρ ρ' H H'
noncomputable def DI (X:Cx) (tg iter:Expr) (f:En→Sto→R Src):Prop :=
 ∀ (pins:List (Addr×Obj)) (s:Shared) (σ:L2.St) (H:Hp) (ρ:List Addr) (S:Sto) (env:En) (E:Value→Shared→Prop),S0 X pins σ H s ρ S env→f env S≠.bad→(∀ x s',ExP X pins σ ρ H (f env S) x s'→E x s') →
  wpAny (model X.prog X.w) X.A (eval iter X.env) (fun v s1=>wpAny (model X.prog X.w) X.A (pyIter v) (ItP X pins σ ρ H tg (f env S)) E s1) E s
theorem di_val (he:DE X iter f):DI X tg iter (fun env S=>(f env S).bind fun x S=>match srcD S x with | some r=>.ok r S | none=>.bad):=by
 intro pins s σ H ρ S env E I nb hE
 dsimp only at nb hE ⊢
 cases q:f env S with
 | bad=>rw [q] at nb; exact absurd rfl nb
 | ex n S1=>rw [q] at hE; exact he.ex I q fun x s' z=>hE x s' ⟨n,S1,rfl,z⟩
 | ok d S1 =>
  rw [q] at nb
  simp only [R.bind_ok] at nb ⊢
  refine he.ok I q fun u s1 v H1 ρ1 I1 rv rd st1=>?_
  cases d with
  | tup xs =>
   simp only [RD] at rd
   obtain ⟨a,vs,rfl,h1,h2⟩:=rd
   cases rv
   obtain ⟨its,rvs,p,hz⟩:=I1.inv.tuple h1
   refine wpAny_pyIter_tuple (show s1.heap.IsTuple a its.toArray from p) ?_
   refine ⟨_,S1,s1.heap.objs.size,[s1.heap.objs.size],_,_,H1,ρ1,rfl,rfl,I1.inv.kept (t':=s1.toks) fun b o e=>Heap.get?_push_of_some _ e,turn_tuple a _,⟨_,Heap.get?_push_size _ rfl,rfl,rfl⟩,fun b hb=>?_,.tup h1 h2,I1.sr,st1⟩
   have e:b=s1.heap.objs.size:=by simpa using hb
   subst e
   exact I1.inv.fpOk (Nat.le_refl _) (I1.inv.hok.fresh (Nat.le_refl _))
  | ref n =>
   cases e1:lstAt S1 n with
   | none=>simp [srcD,e1] at nb
   | some xs =>
    obtain ⟨a,vs,k1,k2,k3⟩:=I1.list e1
    simp only [RD] at rd
    obtain ⟨a',rfl,k4⟩:=rd
    rw [k1] at k4; cases k4
    cases rv
    obtain ⟨its,rvs,p,hz⟩:=I1.inv.list (.of k2)
    refine wpAny_pyIter_list p.isList ?_
    refine ⟨.ref n,S1,s1.heap.objs.size,[s1.heap.objs.size],_,_,H1,ρ1,by simp [srcD,e1],rfl,I1.inv.kept (t':=s1.toks) fun b o e=>Heap.get?_push_of_some _ e,turn_list a _,⟨_,Heap.get?_push_size _ rfl,rfl,rfl⟩,fun b hb=>?_,.lst k1,I1.sr,st1⟩
    have e:b=s1.heap.objs.size:=by simpa using hb
    subst e
    exact I1.inv.fpOk (Nat.le_refl _) (I1.inv.hok.fresh (Nat.le_refl _))
  | non=>simp [srcD] at nb
  | bl _=>simp [srcD] at nb
  | int _=>simp [srcD] at nb
  | str _=>simp [srcD] at nb
  | fro _=>simp [srcD] at nb
  | fn _ _=>simp [srcD] at nb
theorem range_itD {tk:Nat} {lo hi:Int} {t u v:Tok} {ds:List D} (I:S0 X pins σ H s ρ S env) (h1:-(2 ^ 62)≤lo) (h2:lo < 2 ^ 62) (h3:-(2 ^ 62)≤hi) (h4:hi < 2 ^ 62) (hds:ds=(List.range (hi - lo).toNat).map fun (k:Nat)=>D.int (lo + k)) :
  wpAny (model X.prog X.w) X.A (pyIter (.ref s.heap.objs.size)) (ItP X pins σ ρ H tg (.ok (.con ds) S)) E { s with heap:=s.heap.push { cls:=.type "range",data:=.fields #[.int lo t,.int hi u,.int 1 v] },toks:=tk }:=by
 refine thn (range_it (X:=X.wish E) (tg:=tg) (R:=fun J H'=>J=Itr lo (hi - lo).toNat∧H'=H) (I.inv.wish E) h1 h2 h3 h4 ⟨rfl,rfl⟩) fun itv s2 ⟨it,fp,tn,J,H',e1,J',T,t0,fo,e2,e3⟩=>?_
 subst e2 e3
 exact ⟨_,S,it,fp,tn,_,H',ρ,rfl,e1,J'.unwish,T,t0,fo,by rw [hds]; exact .rng _ _,I.sr,.refl⟩
theorem down_itD {tk:Nat} {lo hi:Int} {t u v:Tok} (I:S0 X pins σ H s ρ S env) (h1:-(2 ^ 62)≤lo) (h2:lo < 2 ^ 62) (h3:-(2 ^ 62)≤hi) (h4:hi < 2 ^ 62) :
  wpAny (model X.prog X.w) X.A (pyIter (.ref s.heap.objs.size)) (ItP X pins σ ρ H tg (.ok (.con ((List.range (lo - hi).toNat).map fun (k:Nat)=>D.int (lo - k))) S)) E { s with heap:=s.heap.push { cls:=.type "range",data:=.fields #[.int lo t,.int hi u,.int (-1) v] },toks:=tk }:=by
 refine thn (down_it (X:=X.wish E) (tg:=tg) (R:=fun J H'=>J=Itd lo (lo - hi).toNat∧H'=H) (I.inv.wish E) h1 h2 h3 h4 ⟨rfl,rfl⟩) fun itv s2 ⟨it,fp,tn,J,H',e1,J',T,t0,fo,e2,e3⟩=>?_
 subst e2 e3
 exact ⟨_,S,it,fp,tn,_,H',ρ,rfl,e1,J'.unwish,T,t0,fo,.dwn _ _,I.sr,.refl⟩
theorem di_rng {p:Pos} {es:List Expr} {g:En→Sto→R (List D)} (hg:Gl X "range") (hm:X.mg "range" = none) (ha:DA X (a :: es) g) (hs:starEach (a :: es) X.env=(false,eval a X.env) :: starEach es X.env) (hpl:(backTo pos (starEach es X.env)).any (·.1)=false) :
  DI X tg (.Call (.Name "range" p) (a :: es) [] pos) (fun env S=>(g env S).bind fun xs S=>match rngD xs with | some ds=>.ok (.con ds) S | none=>.bad):=by
 intro pins s σ H ρ S env E I nb hE
 dsimp only at nb hE ⊢
 refine Call_ (ld_blt I.inv hg hm boot_range (PyProof.Rows.callWith_type1 ?_ hs hpl))
 cases q:g env S with
 | bad=>rw [q] at nb; exact absurd rfl nb
 | ex n S1=>rw [q] at hE; exact ha.ex I q fun x s' z=>hE x s' ⟨n,S1,rfl,z⟩
 | ok ds S1 =>
  rw [q] at nb
  simp only [R.bind_ok] at nb ⊢
  refine ha.ok I q fun us s1 vs H1 ρ1 I1 rv rd st1=>?_
  have fin:∀ {tk:Nat} {lo hi:Int} {t u v:Tok} {xs:List D},-(2 ^ 62)≤lo→lo < 2 ^ 62→-(2 ^ 62)≤hi→hi < 2 ^ 62→xs=(List.range (hi - lo).toNat).map (fun (k:Nat)=>D.int (lo + k)) →
    wpAny (model X.prog X.w) X.A (pyIter (.ref s1.heap.objs.size)) (ItP X pins σ ρ H tg (.ok (.con xs) S1)) E { s1 with heap:=s1.heap.push { cls:=.type "range",data:=.fields #[.int lo t,.int hi u,.int 1 v] },toks:=tk }:=fun h1 h2 h3 h4 h5 =>
   wpAny_mono (range_itD I1 h1 h2 h3 h4 h5) (fun itv s2 ⟨src,S2,it,fp,tn,J,H2,ρ2,z1,z2,z3,z4,z5,z6,z7,z8,z9⟩=>⟨src,S2,it,fp,tn,J,H2,ρ2,z1,z2,z3,z4,z5,z6,z7,z8,st1.trans z9⟩) fun _ _ z=>z
  match ds,rd,nb with
  | [],rd,nb=>simp [rngD] at nb
  | [d],rd,nb =>
   cases d with
   | int j =>
    simp only [rngD] at nb ⊢
    by_cases hz:-(1048576) < j∧j < 1048576
    ·rw [if_pos hz] at nb ⊢
     simp only [RDs] at rd
     obtain ⟨v,r,rfl,r1,rfl⟩:=rd
     simp only [RD] at r1; subst r1
     cases rv with
     | cons q1 q2 =>
      cases q2
      obtain ⟨t,rfl⟩:=q1
      refine call_range_1 (fin (by omega) (by omega) (by omega) (by omega) ?_)
      simp
    ·rw [if_neg hz] at nb; exact absurd rfl nb
   | _=>simp [rngD] at nb
  | [d1,d2],rd,nb =>
   cases d1 with
   | int i=>cases d2 with
    | int j =>
     simp only [rngD] at nb ⊢
     by_cases hz:-(1048576) < i∧i < 1048576∧-(1048576) < j∧j < 1048576
     ·rw [if_pos hz] at nb ⊢
      simp only [RDs] at rd
      obtain ⟨v,r,rfl,r1,v2,r2,rfl,r3,rfl⟩:=rd
      simp only [RD] at r1 r3; subst r1 r3
      cases rv with
      | cons q1 q2 =>
       cases q2 with
       | cons q3 q4 =>
        cases q4
        obtain ⟨t,rfl⟩:=q1
        obtain ⟨t',rfl⟩:=q3
        exact call_range_2 (fin (by omega) (by omega) (by omega) (by omega) rfl)
     ·rw [if_neg hz] at nb; exact absurd rfl nb
    | _=>simp [rngD] at nb
   | _=>simp [rngD] at nb
  | [d1,d2,d3],rd,nb =>
   cases d1 with
   | int i=>cases d2 with
    | int j=>cases d3 with
     | int c =>
      simp only [rngD] at nb ⊢
      by_cases hz:c = -1∧-(1048576) < i∧i < 1048576∧-(1048576) < j∧j < 1048576
      ·rw [if_pos hz] at nb ⊢
       simp only [RDs] at rd
       obtain ⟨v,r,rfl,r1,v2,r2,rfl,r3,v3,r4,rfl,r5,rfl⟩:=rd
       simp only [RD] at r1 r3 r5; subst r1 r3 r5
       obtain ⟨rfl,hz⟩:=hz
       cases rv with
       | cons q1 q2 =>
        cases q2 with
        | cons q3 q4 =>
         cases q4 with
         | cons q5 q6 =>
          cases q6
          obtain ⟨t,rfl⟩:=q1
          obtain ⟨t',rfl⟩:=q3
          obtain ⟨t'',rfl⟩:=q5
          exact call_range_3 (by decide) (wpAny_mono (down_itD I1 (by omega) (by omega) (by omega) (by omega)) (fun itv s2 ⟨src,S2,it,fp,tn,J,H2,ρ2,z1,z2,z3,z4,z5,z6,z7,z8,z9⟩=>⟨src,S2,it,fp,tn,J,H2,ρ2,z1,z2,z3,z4,z5,z6,z7,z8,st1.trans z9⟩) fun _ _ z=>z)
      ·rw [if_neg hz] at nb; exact absurd rfl nb
     | _=>simp [rngD] at nb
    | _=>simp [rngD] at nb
   | _=>simp [rngD] at nb
  | _ :: _ :: _ :: _ :: _,rd,nb=>simp [rngD] at nb
theorem src_k {d:D} {v:V} {u:Value} {src:Src} (I:S0 X pins σ H s ρ S env) (e:srcD S d=some src) (rd:RD X.K ρ H d v) (rv:RelV v u):∃ k a vs,u=.ref a∧SqH k X.K H a vs∧SrcK X.K ρ H src k a:=by
 cases d with
 | tup xs =>
  have e':some (Src.con xs)=some src:=e
  cases e'
  simp only [RD] at rd
  obtain ⟨a,vs,rfl,h1,h2⟩:=rd
  cases rv
  exact ⟨false,a,vs,rfl,h1,vs,h1,h2⟩
 | ref n =>
  cases e1:lstAt S n with
  | none=>simp [srcD,e1] at e
  | some xs =>
   simp only [srcD,e1,Option.map_some,Option.some.injEq] at e
   subst e
   obtain ⟨a,vs,k1,k2,k3⟩:=I.list e1
   simp only [RD] at rd
   obtain ⟨a',rfl,k4⟩:=rd
   rw [k1] at k4; cases k4
   cases rv
   exact ⟨true,a,vs,rfl,.of k2,k1⟩
 | _=>cases e
theorem zap_new {n a b:Nat} (h1:a < n) (h2:b < n):ZAp (n + 4) (n + 2) (n + 3) n (n + 1) a b:=by
 constructor <;> (try refine ⟨?_,?_,?_,?_⟩) <;> (intro z; first | omega | (have z':(_:Nat)=_:=z; omega))
theorem zap_le {n b:Nat} (h:b∈[n + 4,n + 2,n + 3,n,n + 1]):n≤b:=by
 simp only [List.mem_cons,List.not_mem_nil,or_false] at h
 omega
theorem seqH_lt {k:Bool} {a:Addr} {vs:List V} (I:Inv X pins σ H s) (h:SqH k X.K H a vs):a < s.heap.objs.size:=by
 obtain ⟨its,_,q⟩:=seqK I h
 obtain ⟨o,e,_⟩:=q.obj
 exact Heap.lt_size e
theorem di_zip {p tp:Pos} {x0:Nat} {ts es:List Expr} {g:En→Sto→R (List D)} (hg:Gl X "zip") (hm:X.mg "zip" = none) (ha:DA X (a :: es) g) (hs:starEach (a :: es) X.env=(false,eval a X.env) :: starEach es X.env) (hpl:(backTo pos (starEach es X.env)).any (·.1)=false) :
  DI X (.Tuple ts x0 tp) (.Call (.Name "zip" p) (a :: es) [] pos) (fun env S=>(g env S).bind fun xs S=>match xs with
   | [x,y]=>match srcD S x,srcD S y with
    | some s,some t=>.ok (.zip s t) S
    | _,_=>.bad
   | _=>.bad):=by
 intro pins s σ H ρ S env E I nb hE
 dsimp only at nb hE ⊢
 refine Call_ (ld_blt I.inv hg hm (u:=.type "zip") (by decide +kernel) (PyProof.Rows.callWith_type1 ?_ hs hpl))
 cases q:g env S with
 | bad=>rw [q] at nb; exact absurd rfl nb
 | ex n S1=>rw [q] at hE; exact ha.ex I q fun x s' z=>hE x s' ⟨n,S1,rfl,z⟩
 | ok ds S1 =>
  rw [q] at nb
  simp only [R.bind_ok] at nb ⊢
  refine ha.ok I q fun us s1 vs H1 ρ1 I1 rv rd st1=>?_
  match ds,rd,nb with
  | [],rd,nb=>exact absurd rfl nb
  | [_],rd,nb=>exact absurd rfl nb
  | _ :: _ :: _ :: _,rd,nb=>exact absurd rfl nb
  | [x,y],rd,nb =>
   cases e1:srcD S1 x with
   | none=>simp only [e1] at nb; exact absurd rfl nb
   | some sx =>
    cases e2:srcD S1 y with
    | none=>simp only [e1,e2] at nb; exact absurd rfl nb
    | some sy =>
     simp only [RDs] at rd
     obtain ⟨v1,r1,rfl,rd1,v2,r2,rfl,rd2,rfl⟩:=rd
     cases rv with
     | cons q1 q2 =>
      cases q2 with
      | cons q3 q4 =>
       cases q4
       obtain ⟨k1,b1,w1,rfl,m1,c1⟩:=src_k I1 e1 rd1 q1
       obtain ⟨k2,b2,w2,rfl,m2,c2⟩:=src_k I1 e2 rd2 q3
       obtain ⟨its1,_,p1⟩:=seqK I1.inv m1
       obtain ⟨its2,_,p2⟩:=seqK I1.inv m2
       have l1:=seqH_lt I1.inv m1
       have l2:=seqH_lt I1.inv m2
       refine zip_call p1 p2 fun h' zs kp=>wpAny_pyIter_zip zs.zo ?_
       have J:Inv X pins σ H1 { s1 with heap:=h' }:=I1.inv.kept (t':=s1.toks) kp
       refine ⟨.zip sx sy,S1,_,[s1.heap.objs.size + 4,s1.heap.objs.size + 2,s1.heap.objs.size + 3,s1.heap.objs.size,s1.heap.objs.size + 1],_,_,H1,ρ1,by simp only [e1,e2],rfl,J,
        turn_zip (zap_new l1 l2),zs,fun b hb=>?_,.zip c1 c2,I1.sr,st1⟩
       have hb':s1.heap.objs.size≤b:=zap_le hb
       exact I1.inv.fpOk hb' (I1.inv.hok.fresh hb')
theorem di_enm {p tp:Pos} {x0:Nat} {ts es:List Expr} {g:En→Sto→R (List D)} (hg:Gl X "enumerate") (hm:X.mg "enumerate" = none) (ha:DA X (a :: es) g) (hs:starEach (a :: es) X.env=(false,eval a X.env) :: starEach es X.env) (hpl:(backTo pos (starEach es X.env)).any (·.1)=false) :
  DI X (.Tuple ts x0 tp) (.Call (.Name "enumerate" p) (a :: es) [] pos) (fun env S=>(g env S).bind fun xs S=>match xs with
   | [x]=>match srcD S x with
    | some s=>.ok (.enm s) S
    | none=>.bad
   | _=>.bad):=by
 intro pins s σ H ρ S env E I nb hE
 dsimp only at nb hE ⊢
 refine Call_ (ld_blt I.inv hg hm (u:=.type "enumerate") (by decide +kernel) (PyProof.Rows.callWith_type1 ?_ hs hpl))
 cases q:g env S with
 | bad=>rw [q] at nb; exact absurd rfl nb
 | ex n S1=>rw [q] at hE; exact ha.ex I q fun x s' z=>hE x s' ⟨n,S1,rfl,z⟩
 | ok ds S1 =>
  rw [q] at nb
  simp only [R.bind_ok] at nb ⊢
  refine ha.ok I q fun us s1 vs H1 ρ1 I1 rv rd st1=>?_
  match ds,rd,nb with
  | [],rd,nb=>exact absurd rfl nb
  | _ :: _ :: _,rd,nb=>exact absurd rfl nb
  | [x],rd,nb =>
   cases e1:srcD S1 x with
   | none=>simp only [e1] at nb; exact absurd rfl nb
   | some sx =>
    simp only [RDs] at rd
    obtain ⟨v1,r1,rfl,rd1,rfl⟩:=rd
    cases rv with
    | cons q1 q2 =>
     cases q2
     obtain ⟨k1,b1,w1,rfl,m1,c1⟩:=src_k I1 e1 rd1 q1
     obtain ⟨its1,_,p1⟩:=seqK I1.inv m1
     refine en_call p1 fun h' ns kp=>by
      obtain ⟨old,eo⟩:=ns.eo
      refine wpAny_pyIter_enum eo ?_
      have J:Inv X pins σ H1 { s1 with heap:=h' }:=I1.inv.kept (t':=s1.toks) kp
      refine ⟨.enm sx,S1,_,[s1.heap.objs.size + 1,s1.heap.objs.size],_,_,H1,ρ1,by simp only [e1],rfl,J,turn_en (fun z=>by have z':(_:Nat)=_:=z; omega),ns,fun b hb=>?_,.enm c1,I1.sr,st1⟩
      have hb':s1.heap.objs.size≤b:=by
       simp only [List.mem_cons,List.not_mem_nil,or_false] at hb
       rcases hb with z | z <;> (have z':(_:Nat)=_:=z; omega)
      exact I1.inv.fpOk hb' (I1.inv.hok.fresh hb')
theorem DSs.ok {st:List Stmt} {na:Bool} {g:En→Sto→R Fl} {x:Fl} {Q:Flow→Shared→Prop} (h:DSs X st na g) (I:S0 X pins σ H s ρ S env) (r:g env S=.ok x S') (hQ:∀ fl s',FlP X pins σ ρ H na S' s' x fl→Q fl s') :
  wpAny (model X.prog X.w) X.A (execs st X.env) Q E s:=by
 refine wpAny_mono (h pins s σ H ρ S env I (by rw [r]; exact fun z=>nomatch z)) (fun fl s' z=>?_) fun x s' z=>?_
 ·obtain ⟨y,S1,e,z⟩:=z
  rw [r] at e; cases e
  exact hQ fl s' z
 ·obtain ⟨n,S1,_,e,_⟩:=z
  rw [r] at e; cases e
theorem S0.rep {pl:List (Addr×Obj)} (I:S0 X pins σ H s ρ S env) (J:Inv X pl σ H s):S0 X pl σ H s ρ S env:=⟨J,I.sr,I.er⟩
theorem ds_for {t:Tg} {body:List Stmt} {na:Bool} {g:En→Sto→R Fl} {fi:En→Sto→R Src} (hc:X.calm=true) (hi:DI X tg iter fi) (hg:DG X tg t) (hb:DSs X body na g) (hs:∀ x,foldedSetIterable iter X.env x=pure x) :
  DS X (.For tg iter body [] pos) false (fun env S=>(fi env S).bind fun src S=>floop src.get t g (src.most S + 1) 0 env S):=by
 intro pins s σ H ρ S env I nb
 dsimp only at nb ⊢
 cases q:fi env S with
 | bad=>rw [q] at nb; exact absurd rfl nb
 | ex n S1 =>
  refine wpAny_For (wpAny_mono (hi pins s σ H ρ S env _ I (by rw [q]; exact fun z=>nomatch z) fun x s' z=>?_) (fun v s1 h1=>wpAny_mono h1 (fun itv s2 h2=>?_) fun _ _ z=>z) fun _ _ z=>z) hs
  ·rw [q] at z; obtain ⟨m,S2,e,z⟩:=z; cases e; exact .of .refl z rfl
  ·obtain ⟨src,S2,_,_,_,_,_,_,e,_⟩:=h2
   rw [q] at e; cases e
 | ok src S1 =>
  rw [q] at nb
  simp only [R.bind_ok] at nb ⊢
  refine wpAny_mono (E:=fun _ _=>False) (wpAny_For (wpAny_mono (hi pins s σ H ρ S env (fun _ _=>False) I (by rw [q]; exact fun z=>nomatch z) fun x s' z=>?_) (fun v s1 h1=>wpAny_mono h1 (fun itv s2 h2=>?_) fun _ _ z=>z) fun _ _ z=>z) hs) (fun _ _ z=>z) fun _ _ z=>z.elim
  ·rw [q] at z; obtain ⟨m,S2,e,z⟩:=z; cases e
  ·obtain ⟨src',S2,it,fp,tn,J,H2,ρ2,e1,rfl,I2,T,t0,f2,sr2,srr,st2⟩:=h2
   rw [q] at e1; cases e1
   have hp:PassesOwn (model X.prog X.w) X.A X.env (fun _ _=>False):=PassesOwn.never
   have stat:∀ {H':Hp},(∀ b∈fp,H' b=none)→∀ b∈fp,FpOk X pins H' b:=fun hn b hb=>⟨hn b hb,(f2 b hb).2⟩
   generalize hr0:floop src.get t g (src.most S1 + 1) 0 env S1=r0
   refine codeAny_forLoop_any (fun n s'=>∃ i σ' H' ρ' S' env',S0 X pins σ' H' s' ρ' S' env'∧tn i s'.heap∧(∀ b∈fp,H' b=none)∧SrcR X.K ρ' H' src J∧Stp X.K ρ ρ' H H'∧floop src.get t g n i env' S'≠.bad∧floop src.get t g n i env' S'=r0)
    ?_ (src.most S1 + 1) ⟨0,σ,H2,ρ2,S1,env,I.step I2 srr st2,t0,fun b hb=>(f2 b hb).1,sr2,st2,nb,hr0⟩
   rintro n s3 ⟨i,σ3,H3,ρ3,S3,env3,I3,t3,fr3,sr3,st3,nb3,eq3⟩
   cases n with
   | zero=>exact absurd rfl nb3
   | succ n =>
    simp only [floop] at nb3
    cases g1:src.get S3 i with
    | none=>rw [g1] at nb3; exact absurd rfl nb3
    | some o =>
     rw [g1] at nb3
     cases o with
     | none =>
      refine wpAny_passesOwn hp (thn (T.done X rfl rfl rfl hc i pins s3 σ3 H3 _ I3.inv (stat fr3) t3 (sr3.stop I3 g1)) fun r s4 ⟨hr,I4⟩=>?_)
      subst hr
      exact wpAny_execs_nil ⟨.nx env3,S3,by rw [← eq3]; simp only [floop,g1],rfl,σ3,H3,ρ3,⟨I4,I3.sr,I3.er⟩,st3,fun z=>nomatch z⟩
     | some d =>
      dsimp only at nb3
      obtain ⟨go,yl⟩:=sr3.go I3 g1
      refine wpAny_passesOwn hp (thn (T.item X rfl rfl rfl hc i pins s3 σ3 H3 _ I3.inv (stat fr3) t3 go) fun r s4 ⟨u,hr,h4⟩=>?_)
      subst hr
      refine wpAny_passesOwn hp (thn h4 fun _ s5 ⟨x,H5,I5,r5,y5,t5,fr5⟩=>?_)
      obtain ⟨sr5,st5,rd5⟩:=yl x H5 y5
      have I5':=I5.pinned (stat fr5) (T.obj _ _ t5)
      cases e6:setTg t d env3 with
      | none=>rw [e6] at nb3; exact absurd rfl nb3
      | some env6 =>
       rw [e6] at nb3
       dsimp only at nb3
       refine wpAny_passesOwn hp (hg (pins++pinsAt fp s5.heap) s5 σ3 H5 ρ3 S3 env3 d x u env6 _ _ ⟨I5',sr5,I3.er.mono st5⟩ e6 rd5 r5 fun s6 σ6 I6=>?_)
       cases e7:g env6 S3 with
       | bad=>rw [e7] at nb3; exact absurd rfl nb3
       | ex m S7=>rw [e7] at nb3; exact absurd rfl nb3
       | ok x7 S7 =>
        rw [e7] at nb3
        refine wpAny_passesOwn hp (hb.ok I6 e7 fun fl s7 z7=>?_)
        have again:∀ {σ7:L2.St} {H7:Hp} {ρ7:List Addr} {env7:En},S0 X (pins++pinsAt fp s5.heap) σ7 H7 s7 ρ7 S7 env7→Stp X.K ρ3 ρ7 H5 H7→floop src.get t g n (i + 1) env7 S7≠.bad→floop src.get t g n (i + 1) env7 S7=r0 →
          ∃ m,m < n + 1∧∃ i σ' H' ρ' S' env',S0 X pins σ' H' s7 ρ' S' env'∧tn i s7.heap∧(∀ b∈fp,H' b=none)∧SrcR X.K ρ' H' src J∧Stp X.K ρ ρ' H H'∧floop src.get t g m i env' S'≠.bad∧floop src.get t g m i env' S'=r0 :=
         fun {σ7 H7 ρ7 env7} I7 st7 nb7 eq7=>by
          refine ⟨n,Nat.lt_succ_self _,i + 1,σ7,H7,ρ7,S7,env7,I7.rep I7.inv.unpinned,T.keep _ _ _ t5 fun b hb o e=>(I7.inv.pin (b,o) (List.mem_append_right _ (List.mem_append_right _ (mem_pinsAt hb e)))).1,fun b hb=>?_,sr3.mono (st5.trans st7),st3.trans (st5.trans st7),nb7,eq7⟩
          obtain ⟨o,e,_⟩:=T.obj _ _ t5 b hb
          exact (I7.inv.pin (b,o) (List.mem_append_right _ (List.mem_append_right _ (mem_pinsAt hb e)))).2.1
        have eq3':=eq3
        simp only [floop,g1,e6,e7] at eq3'
        cases x7 with
        | nx e =>
         obtain ⟨rfl,σ7,H7,ρ7,I7,st7,_⟩:=z7
         exact again I7 st7 nb3 eq3'
        | cnt e =>
         obtain ⟨rfl,σ7,H7,ρ7,I7,st7⟩:=z7
         exact again I7 st7 nb3 eq3'
        | brk e =>
         obtain ⟨rfl,σ7,H7,ρ7,I7,st7⟩:=z7
         exact ⟨.nx e,S7,eq3'.symm,rfl,σ7,H7,ρ7,I7.rep I7.inv.unpinned,st3.trans (st5.trans st7),fun z=>nomatch z⟩
        | rt d' =>
         obtain ⟨u',v',σ7,H7,ρ7,rfl,I7,rv7,rd7,sr7,st7⟩:=z7
         exact ⟨.rt d',S7,eq3'.symm,u',v',σ7,H7,ρ7,rfl,I7.unpinned,rv7,rd7,sr7,st3.trans (st5.trans st7)⟩
end
end Z
end
section
namespace Z
open PySem PySem.Spec PyProof.Rows L2
theorem closure_go (env:PySem.Env):∀ (names:List (Str×NameKind)) (cs:List (Str×Addr)),(∀ x∈names,x.2=.free→∃ c,env.cells.lookup x.1=some c)→(∀ x c,cs.lookup x=some c→env.cells.lookup x=some c) →
  ∃ cl,(forIn names cs fun (x:Str×NameKind) (r:List (Str×Addr))=>(match x with
   | (name,kind)=>if (kind == NameKind.free)=true then do
     let a ← cellOf env name
     pure (ForInStep.yield ((name,a) :: r))
    else pure (ForInStep.yield r):Sem (ForInStep (List (Str×Addr)))))=(pure cl:Sem (List (Str×Addr)))∧(∀ x c,cl.lookup x=some c→env.cells.lookup x=some c)∧(∀ x c,cs.lookup x=some c→∃ c',cl.lookup x=some c')∧∀ x∈names,x.2=.free→∃ c,cl.lookup x.1=some c
 | [],cs,_,hc=>⟨cs,rfl,hc,fun x c h=>⟨c,h⟩,fun _ h=>nomatch h⟩
 | (n,k) :: r,cs,hf,hc=>by
  by_cases hk:k=.free
  ·subst hk
   obtain ⟨c,hcell⟩:=hf (n,.free) List.mem_cons_self rfl
   obtain ⟨cl,e,h1,h2,h3⟩:=closure_go env r ((n,c) :: cs) (fun x hx=>hf x (List.mem_cons_of_mem _ hx)) (fun x d h=>by
    rw [List.lookup_cons] at h
    by_cases hx:x == n
    ·rw [hx] at h; cases h; rw [eq_of_beq hx]; exact hcell
    ·have hx':(x == n)=false:=by simpa using hx
     rw [hx'] at h; exact hc x d h)
   refine ⟨cl,?_,h1,fun x d h=>?_,fun x hx hx2=>?_⟩
   ·rw [List.forIn_cons]
    simp only [beq_self_eq_true,if_true,cellOf,hcell,pure_bind]
    exact e
   ·by_cases hx:x == n
    ·exact h2 x c (by rw [List.lookup_cons,hx])
    ·have hx':(x == n)=false:=by simpa using hx
     exact h2 x d (by rw [List.lookup_cons,hx']; exact h)
   ·rcases List.mem_cons.mp hx with rfl | hx
    ·exact h2 n c (by rw [List.lookup_cons,beq_self_eq_true])
    ·exact h3 x hx hx2
  ·obtain ⟨cl,e,h1,h2,h3⟩:=closure_go env r cs (fun x hx=>hf x (List.mem_cons_of_mem _ hx)) hc
   refine ⟨cl,?_,h1,h2,fun x hx hx2=>?_⟩
   ·rw [List.forIn_cons]
    have hk':(k == NameKind.free)=false:=by simpa using hk
    simp only [hk',Bool.false_eq_true,if_false,pure_bind]
    exact e
   ·rcases List.mem_cons.mp hx with rfl | hx
    ·exact absurd hx2 hk
    ·exact h3 x hx hx2
theorem closure_ok {scope:Scope} {env:PySem.Env} (hf:∀ x∈scope.names,x.2=.free→∃ c,env.cells.lookup x.1=some c) :
  ∃ cl,closureFor scope env=pure cl∧(∀ x c,cl.lookup x=some c→env.cells.lookup x=some c)∧∀ x∈scope.names,x.2=.free→∃ c,cl.lookup x.1=some c:=by
 obtain ⟨cl,e,h1,_,h3⟩:=closure_go env scope.names [] hf (fun x c h=>by simp at h)
 refine ⟨cl,?_,h1,h3⟩
 unfold closureFor
 simp only [bind_pure]
 exact e
noncomputable abbrev tests (ifs:List Expr) (env:PySem.Env):Sem Bool:=forIn ifs true fun c r=>if r=true then do let ok ← isTrue c env (eval c env); pure (ForInStep.yield ok) else pure (ForInStep.yield r)
noncomputable def Emit (M:Model) (A:Around) (elt:Expr) (gens:List Comprehension) (scope:Scope) (pos:Pos) (d:Nat) (acc:Value) (env:PySem.Env) (P:Shared→Prop) (s:Shared):Prop :=
 match gens[d + 1]? with
 | none=>wpAny M A (eval elt env) (fun x s4=>wpAny M A (call (.builtin "list.append") [acc,x]) (fun _ s5=>P s5) (fun _ _=>False) s4) (fun _ _=>False) s
 | some g'=>g'.is_async=0∧(∀ x,foldedSetIterable g'.iter env x=pure x)∧wpAny M A (eval g'.iter env) (fun x s4=>wpAny M A (pyIter x) (fun it' s5 =>
   codeAny M A (.compStart (.ListComp elt gens scope pos) (d + 1) it' acc env) (fun r s6=>match r with | .ok _=>P s6 | .error _=>False) s5) (fun _ _=>False) s4) (fun _ _=>False) s
section
variable {prog:Program} {w:World} {A:Around} {s:Shared} {R:Result→Shared→Prop}
theorem comp_loop {elt target iter:Expr} {gens:List Comprehension} {ifs:List Expr} {scope:Scope} {pos:Pos} {d:Nat} {it acc:Value} {env:PySem.Env} (hg:gens[d]?=some ⟨target,iter,ifs,0⟩) (hm:A.mark none=A) (I:Nat→Shared→Prop)
  (turn:∀ n s,I n s→wpAny (model prog w) A (pyNext it) (fun r s₁=>match r with
   | none=>R (.ok .next) s₁
   | some v=>wpAny (model prog w) A (letOwnedTupleGo target it v) (fun _ s₁'=>wpAny (model prog w) A (assign target env v) (fun _ s₂ =>
     wpAny (model prog w) A (tests ifs env) (fun ok s₃=>if ok=true then Emit (model prog w) A elt gens scope pos d acc env (fun s₅=>∃ m,m < n∧I m s₅) s₃ else ∃ m,m < n∧I m s₃) (fun _ _=>False) s₂) (fun _ _=>False) s₁') (fun _ _=>False) s₁) (fun _ _=>False) s)
  (n:Nat) (h:I n s):codeAny (model prog w) A (.compLoop (.ListComp elt gens scope pos) d it acc env) R s:=by
 refine codeAny_loop rfl I (fun n s hI=>?_) n h
 show wpAny _ A ((compTurn (.ListComp elt gens scope pos) d it acc env).onRaise (fun x=>do noteFrame x env; theTreesLotGoes x)) _ _ s
 refine wpAny_noted (wpAny_mono (E:=fun _ _=>False) ?_ (fun _ _ z=>z) fun _ _ z=>z.elim)
 unfold compTurn
 simp only [hg,show ((0:Nat) != 0)=false from rfl,Bool.false_eq_true,if_false]
 refine wpAny_bind (wpAny_standAt (wpAny_bind (wpAny_mono (turn n s hI) (fun r s₁ h₁=>?_) fun _ _ z=>z)))
 cases r with
 | none=>exact wpAny_pure h₁
 | some v =>
  refine wpAny_bind (wpAny_mono h₁ (fun _ s₁' h₁'=>wpAny_bind (wpAny_mono h₁' (fun _ s₂ h₂=>wpAny_bind (wpAny_mono h₂ (fun ok s₃ h₃=>?_) fun _ _ z=>z)) fun _ _ z=>z)) fun _ _ z=>z)
  cases ok with
  | false =>
   rw [if_neg Bool.false_ne_true] at h₃
   simp only [Bool.false_eq_true,if_false]
   exact wpAny_pure ⟨rfl,h₃⟩
  | true =>
   rw [if_pos rfl] at h₃
   simp only [if_true]
   unfold Emit at h₃
   cases hq:gens[d + 1]? with
   | none =>
    rw [hq] at h₃
    simp only [bind_assoc,pure_bind]
    exact wpAny_bind (wpAny_mono h₃ (fun x s₄ h₄=>wpAny_bind (wpAny_mono h₄ (fun _ s₅ h₅=>wpAny_pure ⟨rfl,h₅⟩) fun _ _ z=>z)) fun _ _ z=>z)
   | some g' =>
    rw [hq] at h₃
    obtain ⟨ha,hf,h₃⟩:=h₃
    simp only [ha,show ((0:Nat) != 0)=false from rfl,Bool.false_eq_true,if_false]
    refine wpAny_bind (wpAny_mono h₃ (fun x s₄ h₄=>wpAny_bind (wpAny_standAt (wpAny_bind (wpAny_of_eq (hf x) (wpAny_bind (wpAny_holding (wpAny_mono h₄ (fun it' s₅ h₅=>?_) fun _ _ z=>z))))))) fun _ _ z=>z)
    refine wpAny_bind (wpAny_runOwn ?_)
    rw [hm]
    refine codeAny_mono h₅ fun r s₆ h₆=>?_
    cases r with
    | ok f=>exact wpAny_pure ⟨rfl,h₆⟩
    | error e=>exact h₆.elim
theorem comp_start {elt:Expr} {gens:List Comprehension} {scope:Scope} {pos:Pos} {d:Nat} {it acc:Value} {env:PySem.Env} {target iter:Expr} {ifs:List Expr} (hg:gens[d]?=some ⟨target,iter,ifs,0⟩)
  (h0:codeAny (model prog w) A (.compLoop (.ListComp elt gens scope pos) d it acc env) R s)
  (h:wpAny (model prog w) A (pyIter it) (fun it' s'=>codeAny (model prog w) A (.compLoop (.ListComp elt gens scope pos) d it' acc env) R s') (fun _ _=>False) s) :
  codeAny (model prog w) A (.compStart (.ListComp elt gens scope pos) d it acc env) R s:=by
 refine codeAny_of_tree ?_
 show wpAny _ _ ((compStart (.ListComp elt gens scope pos) d it acc env).onRaise (fun x=>do noteFrame x env; standAt theWindowsPlace)) _ _ s
 refine wpAny_notedAt ?_
 unfold compStart
 have hcl:clausesOf (.ListComp elt gens scope pos)=gens:=rfl
 simp only [hcl,hg,Option.elim,show ((0:Nat) != 0)=false from rfl,Bool.false_eq_true,if_false]
 refine wpAny_bind (wpAny_askSetting (wpAny_ite ?_))
 split
 ·first
   | exact wpAny_bind (wpAny_pure (wpAny_pure (And.intro rfl h0)))
   | exact wpAny_pure (And.intro rfl h0)
 ·refine wpAny_bind (wpAny_rule ?_)
  refine wpAny_bind (wpAny_standAt (wpAny_bind (wpAny_mono h (fun it' s' h'=>wpAny_pure (And.intro rfl h')) fun _ _ x=>x.elim)))
end
end Z
end
section
namespace Z
open PySem PySem.Spec PyProof.Rows L2
section
variable {X:Cx} {pins:List (Addr×Obj)} {σ:L2.St} {H:Hp} {s:Shared} {ρ:List Addr} {S S':Sto} {env:En} {Q:Value→Shared→Prop} {E:Value→Shared→Prop}
noncomputable def DTs (X:Cx) (ifs:List Expr) (f:En→Sto→R Bool):Prop :=
 ∀ (pins:List (Addr×Obj)) (s:Shared) (σ:L2.St) (H:Hp) (ρ:List Addr) (S:Sto) (env:En) (b:Bool) (S':Sto) (Q:Bool→Shared→Prop) (E:Value→Shared→Prop),S0 X pins σ H s ρ S env→f env S=.ok b S' →
  (∀ s' H' ρ',S0 X pins σ H' s' ρ' S' env→Stp X.K ρ ρ' H H'→Q b s')→wpAny (model X.prog X.w) X.A (tests ifs X.env) Q E s
theorem tests_false {M:Model} {A:Around} {env:PySem.Env} {s:Shared} {Q:Bool→Shared→Prop} {E:Value→Shared→Prop} (h:Q false s):∀ ifs:List Expr,
  wpAny M A (forIn ifs false fun c r=>if r=true then do let ok ← isTrue c env (eval c env); pure (ForInStep.yield ok) else pure (ForInStep.yield r)) Q E s
 | []=>wpAny_pure h
 | c :: r=>by
  rw [List.forIn_cons]
  simp only [Bool.false_eq_true,if_false]
  exact wpAny_bind (wpAny_pure (tests_false h r))
theorem dts_nil:DTs X [] (fun _ S=>.ok true S):=by
 intro pins s σ H ρ S env b S' Q E I h hQ
 cases h
 exact wpAny_pure (hQ s H ρ I .refl)
theorem dts_cons {c:Expr} {cs:List Expr} {fc:En→Sto→R D} {g:En→Sto→R Bool} (hc:DT X c (fun env S=>tst (fc env S))) (hr:DTs X cs g) :
  DTs X (c :: cs) (fun env S=>(fc env S).bind fun x S=>match truD S x with | some true=>g env S | some false=>.ok false S | none=>.bad):=by
 intro pins s σ H ρ S env b S' Q E I h hQ
 dsimp only at h
 cases q:fc env S with
 | bad=>rw [q] at h; cases h
 | ex n S1=>rw [q] at h; cases h
 | ok x S1 =>
  rw [q] at h
  simp only [R.bind_ok] at h
  unfold tests
  rw [List.forIn_cons]
  simp only [if_true]
  cases t:truD S1 x with
  | none=>rw [t] at h; cases h
  | some r =>
   rw [t] at h
   refine wpAny_bind (wpAny_bind (hc.ok I (by simp only [q]; exact tst_ok t) fun s2 H2 ρ2 I2 st2=>wpAny_pure ?_))
   cases r with
   | true=>exact hr pins s2 σ H2 ρ2 S1 env b S' Q E I2 h fun s3 H3 ρ3 I3 st3=>hQ s3 H3 ρ3 I3 (st2.trans st3)
   | false=>cases h; exact tests_false (hQ s2 H2 ρ2 I2 st2) cs
theorem Mon.trans {K:PySem.W.Frag} {ρ' ρ'':List Addr} {H' H'':Hp} (x:Mon K ρ ρ' H H') (y:Mon K ρ' ρ'' H' H''):Mon K ρ ρ'' H H'' :=
 ⟨fun n a h=>y.pre n a (x.pre n a h),fun a xs h=>y.tup a xs (x.tup a xs h),fun a xs h=>y.fro a xs (x.fro a xs h)⟩
theorem setTg_other {t:Tg} {d:D} {env env':En} (h:setTg t d env=some env') {i:Nat} (hi:i ∉ slots t):env'[i]?=env[i]?:=by
 cases t with
 | var j =>
  simp only [setTg,Option.some.injEq] at h
  subst h
  have:j≠i:=fun z=>hi (by simp [slots,z])
  rw [List.getElem?_set_ne this]
 | tup is =>
  cases d with
  | tup ds =>
   simp only [setTg] at h
   split at h
   ·cases h
    have go:∀ (is:List Nat) (ds:List D) (env:En),i ∉ is→((is.zip ds).foldl (fun e p=>e.set p.1 (some p.2)) env)[i]?=env[i]?:=by
     intro is
     induction is with
     | nil=>intro ds env _; simp
     | cons j js ih =>
      intro ds env hn
      cases ds with
      | nil=>simp
      | cons d ds =>
       simp only [List.zip_cons_cons,List.foldl_cons]
       rw [ih ds _ (fun z=>hn (List.mem_cons_of_mem _ z)),List.getElem?_set_ne (fun z=>hn (by simp [z]))]
    exact go is ds env hi
   ·cases h
  | _=>cases h
noncomputable def BodyP (Y:Cx) (Da:Addr) (elt:Expr) (gens:List Comprehension) (scope:Scope) (cpos:Pos) (d:Nat) (body:En→List D→Sto→R (List D)):Prop :=
 ∀ (pins:List (Addr×Obj)) (s:Shared) (σ:L2.St) (H:Hp) (ρ:List Addr) (S S':Sto) (env:En) (acc acc':List D) (vs:List V) (H0:Hp) (ρ0:List Addr) (P:Shared→Prop),S0 Y pins σ H s ρ S env→Da ∉ ρ→H Da=some (.lst vs)→RDs Y.K ρ H acc vs→H0 Da=none→Stp Y.K ρ0 ρ H0 H →
  body env acc S=.ok acc' S'→(∀ s' σ' H' ρ' vs',S0 Y pins σ' H' s' ρ' S' env→Da ∉ ρ'→H' Da=some (.lst vs')→RDs Y.K ρ' H' acc' vs'→Stp Y.K ρ0 ρ' H0 H'→Mon Y.K ρ ρ' H H'→P s') →
  Emit (model Y.prog Y.w) Y.A elt gens scope cpos d (.ref Da) Y.env P s
theorem Stp.out {K:PySem.W.Frag} {ρ':List Addr} {H':Hp} {Da:Addr} {o:HO} (st:Stp K ρ ρ' H H') (hD:H Da=some o) (hn:Da ∉ ρ):Da ∉ ρ'∧H' Da=some o :=
 ⟨fun hm=>(st.new Da hm).elim hn (fun z=>by rw [hD] at z; cases z),st.keep Da o hD hn⟩
theorem cl_run {Y:Cx} {Da it:Addr} {elt tg iter:Expr} {gens:List Comprehension} {ifs:List Expr} {scope:Scope} {cpos:Pos} {d:Nat} {t:Tg} {src:Src} {J:L2.It} {fp:List Addr} {tn:Nat→Heap→Prop} {tf:En→Sto→R Bool} {body:En→List D→Sto→R (List D)}
  {pins:List (Addr×Obj)} {σ:L2.St} {H H0:Hp} {s:Shared} {ρ ρ0:List Addr} {S Sf:Sto} {env:En} {acc accf:List D} {vs:List V} {P:Shared→Prop} (hc:Y.calm=true) (hg:gens[d]?=some ⟨tg,iter,ifs,0⟩)
  (T:Turn Y.prog Y.w Y.K tg J fp it tn) (hG:DG Y tg t) (hT:DTs Y ifs tf) (hB:BodyP Y Da elt gens scope cpos d body) (h0:H0 Da=none)
  (I:S0 Y pins σ H s ρ S env) (t0:tn 0 s.heap) (f0:∀ b∈fp,FpOk Y pins H b) (sr:SrcR Y.K ρ H src J) (hn:Da ∉ ρ) (hD:H Da=some (.lst vs)) (ra:RDs Y.K ρ H acc vs) (st0:Stp Y.K ρ0 ρ H0 H)
  (hr:cloop src.get t (TestP tf body) (src.most S + 1) 0 env acc S=.ok accf Sf)
  (hP:∀ s' σ' H' ρ' vs' env',S0 Y pins σ' H' s' ρ' Sf env'→(∀ i,i ∉ slots t→env'[i]?=env[i]?)→Da ∉ ρ'→H' Da=some (.lst vs')→RDs Y.K ρ' H' accf vs'→Stp Y.K ρ0 ρ' H0 H'→Mon Y.K ρ ρ' H H'→P s') :
  codeAny (model Y.prog Y.w) Y.A (.compStart (.ListComp elt gens scope cpos) d (.ref it) (.ref Da) Y.env) (fun r s'=>match r with | .ok _=>P s' | .error _=>False) s:=by
 have loop:codeAny (model Y.prog Y.w) Y.A (.compLoop (.ListComp elt gens scope cpos) d (.ref it) (.ref Da) Y.env) (fun r s'=>match r with | .ok _=>P s' | .error _=>False) s:=by
  have stat:∀ {H':Hp},(∀ b∈fp,H' b=none)→∀ b∈fp,FpOk Y pins H' b:=fun hn b hb=>⟨hn b hb,(f0 b hb).2⟩
  refine comp_loop hg rfl (fun n s'=>∃ i σ' H' ρ' S' env' acc' vs',S0 Y pins σ' H' s' ρ' S' env'∧tn i s'.heap∧(∀ b∈fp,H' b=none)∧SrcR Y.K ρ' H' src J∧Mon Y.K ρ ρ' H H'∧Stp Y.K ρ0 ρ' H0 H'∧Da ∉ ρ'∧H' Da=some (.lst vs')∧RDs Y.K ρ' H' acc' vs' ∧
   (∀ i,i ∉ slots t→env'[i]?=env[i]?)∧cloop src.get t (TestP tf body) n i env' acc' S'=.ok accf Sf) ?_ (src.most S + 1) ⟨0,σ,H,ρ,S,env,acc,vs,I,t0,fun b hb=>(f0 b hb).1,sr,Stp.refl.toMon,st0,hn,hD,ra,fun _ _=>rfl,hr⟩
  rintro n s3 ⟨i,σ3,H3,ρ3,S3,env3,acc3,vs3,I3,t3,fr3,sr3,mo3,st3,hn3,hD3,ra3,hs3,eq3⟩
  cases n with
  | zero=>cases eq3
  | succ n =>
   simp only [cloop] at eq3
   cases g1:src.get S3 i with
   | none=>rw [g1] at eq3; cases eq3
   | some o =>
    rw [g1] at eq3
    cases o with
    | none =>
     cases eq3
     refine thn (T.done Y rfl rfl rfl hc i pins s3 σ3 H3 _ I3.inv (stat fr3) t3 (sr3.stop I3 g1)) fun r s4 ⟨hr,I4⟩=>?_
     subst hr
     exact hP s4 σ3 H3 ρ3 vs3 env3 ⟨I4,I3.sr,I3.er⟩ hs3 hn3 hD3 ra3 st3 mo3
    | some dd =>
     dsimp only at eq3
     obtain ⟨go,yl⟩:=sr3.go I3 g1
     refine thn (T.item Y rfl rfl rfl hc i pins s3 σ3 H3 _ I3.inv (stat fr3) t3 go) fun r s4 ⟨u,hr,h4⟩=>?_
     subst hr
     refine thn h4 fun _ s5 ⟨x,H5,I5,r5,y5,t5,fr5⟩=>?_
     obtain ⟨sr5,st5,rd5⟩:=yl x H5 y5
     have I5':=I5.pinned (stat fr5) (T.obj _ _ t5)
     cases e6:setTg t dd env3 with
     | none=>rw [e6] at eq3; cases eq3
     | some env6 =>
      rw [e6] at eq3
      dsimp only at eq3
      refine hG (pins++pinsAt fp s5.heap) s5 σ3 H5 ρ3 S3 env3 dd x u env6 _ _ ⟨I5',sr5,I3.er.mono st5⟩ e6 rd5 r5 fun s6 σ6 I6=>?_
      obtain ⟨_,hD6⟩:=st5.out hD3 hn3
      have ra6:=ra3.mono st5
      cases e7:TestP tf body env6 acc3 S3 with
      | bad=>rw [e7] at eq3; cases eq3
      | ex m S7=>rw [e7] at eq3; cases eq3
      | ok acc7 S7 =>
       rw [e7] at eq3
       dsimp only at eq3
       have hs6:∀ i,i ∉ slots t→env6[i]?=env[i]?:=fun i hi=>(setTg_other e6 hi).trans (hs3 i hi)
       have again:∀ {s7:Shared} {σ7:L2.St} {H7:Hp} {ρ7:List Addr} {vs7:List V},S0 Y (pins++pinsAt fp s5.heap) σ7 H7 s7 ρ7 S7 env6→SrcR Y.K ρ7 H7 src J→Mon Y.K ρ ρ7 H H7→Stp Y.K ρ0 ρ7 H0 H7→Da ∉ ρ7→H7 Da=some (.lst vs7)→RDs Y.K ρ7 H7 acc7 vs7 →
         ∃ m,m < n + 1∧∃ i σ' H' ρ' S' env' acc' vs',S0 Y pins σ' H' s7 ρ' S' env'∧tn i s7.heap∧(∀ b∈fp,H' b=none)∧SrcR Y.K ρ' H' src J∧Mon Y.K ρ ρ' H H'∧Stp Y.K ρ0 ρ' H0 H'∧Da ∉ ρ'∧H' Da=some (.lst vs')∧RDs Y.K ρ' H' acc' vs' ∧
          (∀ i,i ∉ slots t→env'[i]?=env[i]?)∧cloop src.get t (TestP tf body) m i env' acc' S'=.ok accf Sf:=fun {s7 σ7 H7 ρ7 vs7} I7 sr7 mo7 st7 hn7 hD7 ra7=>by
        refine ⟨n,Nat.lt_succ_self _,i + 1,σ7,H7,ρ7,S7,env6,acc7,vs7,I7.rep I7.inv.unpinned,T.keep _ _ _ t5 fun b hb o e=>(I7.inv.pin (b,o) (List.mem_append_right _ (List.mem_append_right _ (mem_pinsAt hb e)))).1,fun b hb=>?_,sr7,mo7,st7,hn7,hD7,ra7,hs6,eq3⟩
        obtain ⟨o,e,_⟩:=T.obj _ _ t5 b hb
        exact (I7.inv.pin (b,o) (List.mem_append_right _ (List.mem_append_right _ (mem_pinsAt hb e)))).2.1
       unfold TestP at e7
       cases e8:tf env6 S3 with
       | bad=>rw [e8] at e7; cases e7
       | ex m S8=>rw [e8] at e7; cases e7
       | ok b8 S8 =>
        rw [e8] at e7
        simp only [R.bind_ok] at e7
        refine hT (pins++pinsAt fp s5.heap) s6 σ6 H5 ρ3 S3 env6 b8 S8 _ _ I6 e8 fun s8 H8 ρ8 I8 st8=>?_
        obtain ⟨hn8,hD8⟩:=st8.out hD6 hn3
        have ra8:=ra6.mono st8
        have st08:=st3.trans (st5.trans st8)
        have sr8:SrcR Y.K ρ8 H8 src J:=sr3.mono (st5.trans st8)
        cases b8 with
        | false =>
         rw [if_neg Bool.false_ne_true] at e7 ⊢
         cases e7
         exact again I8 sr8 (mo3.trans (st5.trans st8).toMon) st08 hn8 hD8 ra8
        | true =>
         rw [if_pos rfl] at e7 ⊢
         exact hB (pins++pinsAt fp s5.heap) s8 σ6 H8 ρ8 S8 S7 env6 acc3 acc7 vs3 H0 ρ0 _ I8 hn8 hD8 ra8 h0 st08 e7 fun s9 σ9 H9 ρ9 vs9 I9 hn9 hD9 ra9 st9 mo9=>again I9 (sr8.mono' mo9) ((mo3.trans (st5.trans st8).toMon).trans mo9) st9 hn9 hD9 ra9
 exact comp_start hg loop (T.self Y.A 0 s _ _ t0 loop)
theorem body_last {Y:Cx} {Da:Addr} {elt:Expr} {gens:List Comprehension} {scope:Scope} {cpos:Pos} {d:Nat} {fe:En→Sto→R D} (hg:gens[d + 1]?=none) (he:DE Y elt fe) :
  BodyP Y Da elt gens scope cpos d (fun env acc S=>(fe env S).bind fun y S=>if acc.length < big then .ok (acc++[y]) S else .bad):=by
 intro pins s σ H ρ S S' env acc acc' vs H0 ρ0 P I hn hD ra h0 st0 hb hP
 unfold Emit
 rw [hg]
 dsimp only at hb ⊢
 cases q:fe env S with
 | bad=>rw [q] at hb; cases hb
 | ex n S1=>rw [q] at hb; cases hb
 | ok y S1 =>
  rw [q] at hb
  simp only [R.bind_ok] at hb
  split at hb
  ·rename_i hz
   cases hb
   refine he.ok I q fun u s1 v H1 ρ1 I1 rv rd st1=>?_
   obtain ⟨hn1,hD1⟩:=st1.out hD hn
   have hlen:vs.length < sizeLine:=by rw [← ra.length]; exact Nat.lt_of_lt_of_le hz big_le
   refine mtd (X:=Y) (Q':=fun z H'=>z=.non∧H'=upd H1 Da (.lst (vs++[v]))) mt_append I1.inv (show RelV (.ref Da) (.ref Da) from rfl) (.cons rv .nil) ⟨Da,vs,v,rfl,rfl,hD1,hlen,rfl,rfl⟩ fun w s2 z H2 J rz ⟨e1,e2⟩=>?_
   subst e1 e2
   have mo:Mon Y.K ρ1 ρ1 H1 (upd H1 Da (.lst (vs++[v]))):=Mon.own hD1
   refine hP s2 σ _ ρ1 (vs++[v]) ⟨J,I1.sr.own hD1 hn1,I1.er.mono' mo⟩ hn1 upd_same ((RDs.mono' mo _ _ (ra.mono st1)).append (.cons (RD.mono' mo _ _ rd) .nil)) ((st0.trans st1).own h0 hD1) ⟨fun n a h=>st1.pre n a h,fun a xs h=>mo.tup a xs (st1.tup a xs h),fun a xs h=>mo.fro a xs (st1.fro a xs h)⟩
  ·cases hb
theorem body_next {Y:Cx} {Da:Addr} {elt tg2 iter2:Expr} {ifs2:List Expr} {gens:List Comprehension} {scope:Scope} {cpos:Pos} {d:Nat} {t2:Tg} {fi:En→Sto→R Src} {tf:En→Sto→R Bool} {body:En→List D→Sto→R (List D)} (hc:Y.calm=true)
  (hg:gens[d + 1]?=some ⟨tg2,iter2,ifs2,0⟩) (hi:DI Y tg2 iter2 fi) (hs:∀ x,foldedSetIterable iter2 Y.env x=pure x) (hG:DG Y tg2 t2) (hT:DTs Y ifs2 tf) (hB:BodyP Y Da elt gens scope cpos (d + 1) body) :
  BodyP Y Da elt gens scope cpos d (fun env acc S=>if noneAt t2 env then (fi env S).bind fun src S=>cloop src.get t2 (TestP tf body) (src.most S + 1) 0 env acc S else .bad):=by
 intro pins s σ H ρ S S' env acc acc' vs H0 ρ0 P I hn hD ra h0 st0 hb hP
 unfold Emit
 rw [hg]
 dsimp only at hb ⊢
 split at hb
 ·rename_i hno
  refine ⟨rfl,hs,?_⟩
  cases q:fi env S with
  | bad=>rw [q] at hb; cases hb
  | ex n S1=>rw [q] at hb; cases hb
  | ok src S1 =>
   rw [q] at hb
   simp only [R.bind_ok] at hb
   refine wpAny_mono (hi pins s σ H ρ S env (fun _ _=>False) I (by rw [q]; exact fun z=>nomatch z) fun x s' z=>?_) (fun v s1 h1=>wpAny_mono h1 (fun itv s2 h2=>?_) fun _ _ z=>z) fun _ _ z=>z
   ·rw [q] at z; obtain ⟨m,S2,e,z⟩:=z; cases e
   ·obtain ⟨src',S2,it,fp,tn,J,H2,ρ2,e1,rfl,I2,T,t0,f2,sr2,srr,st2⟩:=h2
    rw [q] at e1; cases e1
    obtain ⟨hn2,hD2⟩:=st2.out hD hn
    refine cl_run (ρ0:=ρ0) (H0:=H0) hc hg T hG hT hB h0 (I.step I2 srr st2) t0 f2 sr2 hn2 hD2 (ra.mono st2) (st0.trans st2) hb fun s' σ' H' ρ' vs' env' I' hs' hn' hD' ra' st' mo'=>?_
    refine hP s' σ' H' ρ' vs' ⟨I'.inv,I'.sr,⟨?_,fun i d e=>?_⟩⟩ hn' hD' ra' st' (st2.toMon.trans mo')
    ·have h1:=I.er.len
     have h2:=I.inv.len
     have h3:=I'.inv.len
     omega
    ·by_cases hi:i∈slots t2
     ·have z:=List.all_eq_true.mp hno i hi
      rw [e] at z
      cases z
     ·exact I'.er.val i d ((hs' i hi).trans e)
 ·cases hb
end
end Z
end
section
namespace Z
open PySem PySem.Spec PyProof.Rows L2
noncomputable def hid (own:List Str) (y:Str):Str:=if own.contains y then Str.ofString "0" ++ y else y
noncomputable def blkN (N own:List Str):List Str:=N.map (hid own)++own
structure ScOk (outer sc:Scope) (N own:List Str):Prop where
 kind:sc.kind=.function
 okind:outer.kind=.function
 nd:(blkN N own).Nodup
 nocell:∀ y∈sc.names,y.2≠.cell
 free:∀ y∈sc.names,y.2=.free→outer.names.lookup y.1=some .cell∨outer.names.lookup y.1=some .free
 loc:∀ y,sc.names.lookup y=some .local→y∈own
 ownl:∀ y∈own,sc.names.lookup y=some .local
 names:∀ x∈sc.names,x.2=.local→sc.names.lookup x.1=some .local
 hidn:∀ y∈N,own.contains y=true→sc.names.lookup (Str.ofString "0" ++ y)=none
section
variable {X:Cx} {pins:List (Addr×Obj)} {σ:L2.St} {H:Hp} {s:Shared} {ρ:List Addr} {S S':Sto} {env:En} {Q:Value→Shared→Prop} {E:Value→Shared→Prop}
noncomputable def blk (X:Cx) (pins:List (Addr×Obj)) (s:Shared) (H:Hp) (sc:Scope) (cl:List (Str×Addr)) (C:Addr) (own:List Str) (fp:List Addr):Cx :=
 { X with N:=blkN X.N own,s₀:=s,H₀:=H,env:=compEnvC sc cl C X.env,outer:=X.stack,stack:=X.stack,ex:=fp,fn:=fun _=>false,pn:=X.pn++pins }
theorem lookup_mem {names:List (Str×NameKind)} {x:Str} {k:NameKind} (h:names.lookup x=some k):(x,k)∈names:=PySem.mem_of_lookup h
theorem relabel_lookup (sc:Scope) (env:PySem.Env) (x:Str):(relabel sc env).names.lookup x=(sc.names.lookup x).map fun k=>if (k == .free && env.scope.kind == .function && env.kindOf x == some .cell)=true then .cell else k:=by
 unfold relabel
 dsimp only
 induction sc.names with
 | nil=>rfl
 | cons y r ih =>
  obtain ⟨n,k⟩:=y
  show List.lookup x ((if (k == NameKind.free && env.scope.kind == .function && env.kindOf n == some .cell)=true then (n,NameKind.cell) else (n,k)) :: _)=_
  by_cases hx:x == n
  ·have e:=eq_of_beq hx
   subst e
   by_cases hc:(k == NameKind.free && env.scope.kind == .function && env.kindOf x == some .cell)=true
   ·rw [if_pos hc,List.lookup_cons,beq_self_eq_true,List.lookup_cons,beq_self_eq_true]; exact congrArg some (if_pos hc).symm
   ·rw [if_neg hc,List.lookup_cons,beq_self_eq_true,List.lookup_cons,beq_self_eq_true]; exact congrArg some (if_neg hc).symm
  ·have hx':(x == n)=false:=by simpa using hx
   by_cases hc:(k == NameKind.free && env.scope.kind == .function && env.kindOf n == some .cell)=true
   ·rw [if_pos hc,List.lookup_cons,hx',List.lookup_cons,hx']; exact ih
   ·rw [if_neg hc,List.lookup_cons,hx',List.lookup_cons,hx']; exact ih
theorem blk_ok {sc:Scope} {own:List Str} {cl:List (Str×Addr)} {fp:List Addr} {Da C:Addr} {s4:Shared} {m:Str→Option Value} (so:ScOk X.env.scope sc X.N own) (I:Inv X pins σ H s) (hf:∀ b∈fp,FpOk X pins H b)
  (hcl:∀ x c,cl.lookup x=some c→X.env.cells.lookup x=some c) (hclf:∀ x∈sc.names,x.2=.free→∃ c,cl.lookup x.1=some c)
  (hDa:Da=s.heap.objs.size) (hC:C=s.heap.objs.size + 1) (hos:s4.os=s.os) (hgens:s4.gens=s.gens) (keep:∀ b o,s.heap.get? b=some o→s4.heap.get? b=some o)
  (hns:s4.heap.Ns C m) (hacc:∃ n,s4.heap.get? Da=some { cls:=.type "list",data:=.seq #[] n }) (hfp:∀ b∈fp,b < s.heap.objs.size) :
  Inv (blk X pins s H sc cl C own fp) [] (σ++List.replicate own.length none) (upd H Da (.lst [])) s4:=by
 have hD:H Da=none:=by rw [hDa]; exact I.hok.fresh (Nat.le_refl _)
 have hCn:H C=none:=by rw [hC]; exact I.hok.fresh (Nat.le_succ _)
 have hCD:C≠Da:=by rw [hC,hDa]; exact Nat.ne_of_gt (Nat.lt_succ_self _)
 have lt_ne:∀ b,b < s.heap.objs.size→b≠C∧b≠Da:=fun b hb=>⟨by rw [hC]; exact Nat.ne_of_lt (Nat.lt_succ_of_lt hb),by rw [hDa]; exact Nat.ne_of_lt hb⟩
 have cell_lt:∀ x c,X.env.cells.lookup x=some c→c < s.heap.objs.size:=fun x c e=>by obtain ⟨v,q⟩:=I.cell x c e; exact q.lt
 refine ⟨⟨I.ok.mod,so.kind,I.ok.glob,I.ok.blt,?_,?_,?_,?_,I.ok.hd,I.ok.frames,.inl rfl,?_,I.bs,?_,?_,?_,I.stack,I.stkFree⟩,hos,?_,?_,?_,?_,?_,?_,?_,?_,?_⟩
 ·show s.heap.objs.size≤C; rw [hC]; exact Nat.le_succ _
 ·exact fun x y c h1 h2=>I.ok.inj x y c (hcl x c h1) (hcl y c h2)
 ·intro x hx
  have hx':(relabel sc X.env).names.lookup x=some .cell∨(relabel sc X.env).names.lookup x=some .free:=hx
  rw [relabel_lookup] at hx'
  cases e:sc.names.lookup x with
  | none=>rw [e] at hx'; simp at hx'
  | some k =>
   rw [e] at hx'
   have hk:k=.free:=by
    rcases hx' with h | h
    ·simp only [Option.map_some,Option.some.injEq] at h
     split at h
     ·rename_i hc
      simp only [Bool.and_eq_true,beq_iff_eq] at hc
      exact hc.1.1
     ·exact absurd h (so.nocell _ (lookup_mem e))
    ·simp only [Option.map_some,Option.some.injEq] at h
     split at h
     ·cases h
     ·exact h
   subst hk
   exact hclf (x,.free) (lookup_mem e) rfl
 ·intro x c h; exact absurd h Bool.false_ne_true
 ·intro b hb
  refine ⟨(lt_ne b (hfp b hb)).1,fun x c h=>(hf b hb).2.2.2.2.1 x c (hcl x c h)⟩
 ·exact Nat.le_trans I.ok.bsz I.sz
 ·intro b o e hb
  rcases (hf b hb).2.2.2.1 with z | z
  ·exact I.ok.noex b o e z
  ·exact absurd (Nat.lt_of_lt_of_le (Heap.lt_size e) (Nat.le_trans I.ok.bsz z)) (Nat.lt_irrefl _)
 ·intro b hb hm
  rcases List.mem_cons.mp (I.stkSub b hm) with z | z
  ·exact (hf b hb).2.1 z
  ·exact (hf b hb).2.2.1 z
 ·rw [hgens]; exact I.bare
 ·refine ⟨fun b o e _ _ _=>keep b o e,fun b o e _ _ _=>⟨o.slots,keep b o e⟩,fun b o e n _=>?_,fun b o e _=>⟨o,keep b o e⟩,fun b xs e=>?_,fun b o u e=>?_,fun b ps e=>⟨#[],?_⟩⟩
  ·show upd H Da _ b=none
   rw [upd_ne (lt_ne b (Heap.lt_size e)).2]; exact n
  ·rw [upd_ne (ne_of_none e hD)]; exact e
  ·rw [upd_ne (ne_of_none e hD)]; exact e
  ·rw [upd_ne (ne_of_none e hD),show H b=some (.tbl ps) from e]; simp
 ·refine ⟨m,hns,fun i x v h1 h2 h3=>?_⟩
  have hi:i < X.N.length:=by
   by_cases hi:i < σ.length
   ·rw [I.len] at hi; exact hi
   ·rw [List.getElem?_append_right (by omega),List.getElem?_replicate] at h2
    split at h2 <;> cases h2
  have h1':(blkN X.N own)[i]?=some x:=h1
  unfold blkN at h1'
  rw [List.getElem?_append_left (by simpa using hi),List.getElem?_map] at h1'
  rw [List.getElem?_append_left (by rw [I.len]; exact hi)] at h2
  cases ey:X.N[i]? with
  | none=>rw [ey] at h1'; cases h1'
  | some y =>
   rw [ey] at h1'
   simp only [Option.map_some,Option.some.injEq] at h1'
   have h3':Vis (relabel sc X.env) x:=h3
   have nloc:∀ z,sc.names.lookup z=some .local→z∈own:=so.loc
   have hxo:x ∉ own:=fun hm=>by
    have nd:=so.nd
    unfold blkN at nd
    rw [List.nodup_append] at nd
    exact nd.2.2 x (List.mem_map.mpr ⟨y,List.mem_of_getElem? ey,h1'⟩) x hm rfl
   have hfree:sc.names.lookup x=some .free:=by
    have:(relabel sc X.env).names.lookup x=some .local∨(relabel sc X.env).names.lookup x=some .cell∨(relabel sc X.env).names.lookup x=some .free:=h3'
    rw [relabel_lookup] at this
    cases e:sc.names.lookup x with
    | none=>rw [e] at this; simp at this
    | some k =>
     cases k with
     | free=>rfl
     | «local»=>exact absurd (nloc x e) hxo
     | cell=>exact absurd rfl (so.nocell _ (lookup_mem e))
     | _=>rw [e] at this; simp at this
   have hxy:x=y:=by
    unfold hid at h1'
    split at h1'
    ·rename_i hc
     have z:=so.hidn y (List.mem_of_getElem? ey) hc
     rw [h1',hfree] at z
     cases z
    ·exact h1'.symm
   subst hxy
   obtain ⟨c,hc⟩:=hclf (x,.free) (lookup_mem hfree) rfl
   have hcX:=hcl x c hc
   have kx:=so.free (x,.free) (lookup_mem hfree) rfl
   obtain ⟨m0,hn0,hl⟩:=I.loc
   obtain ⟨u,ru,lk⟩:=hl i x v ey h2 (kx.elim (fun z=>.inr (.inl z)) fun z=>.inr (.inr z))
   refine ⟨u,ru,.inr ⟨?_,c,hc,?_⟩⟩
   ·show (relabel sc X.env).names.lookup x=some .cell∨(relabel sc X.env).names.lookup x=some .free
    rw [relabel_lookup,hfree]
    simp only [Option.map_some]
    split
    ·exact .inl rfl
    ·exact .inr rfl
   ·rcases lk with ⟨k,_⟩ | ⟨_,c',hc',hcell⟩
    ·have k':X.env.scope.names.lookup x=some .local:=k
     rcases kx with z | z <;> (rw [k'] at z; cases z)
    ·rw [hcX] at hc'; cases hc'
     exact ⟨_,keep _ _ hcell.choose_spec.1,hcell.choose_spec.2⟩
 ·intro x c h
  obtain ⟨v,o,ho,hd⟩:=I.cell x c (hcl x c h)
  exact ⟨v,o,keep _ _ ho,hd⟩
 ·show upd H Da _ C=none
  rw [upd_ne hCD]; exact hCn
 ·intro x c h
  rw [upd_ne (lt_ne c (cell_lt x c (hcl x c h))).2]
  exact I.freeC x c (hcl x c h)
 ·intro p hp
  rw [List.append_nil] at hp
  obtain ⟨e,n,ne,nf,d⟩:=I.pin p hp
  refine ⟨keep _ _ e,?_,(lt_ne _ (Heap.lt_size e)).1,fun hm=>?_,d⟩
  ·rw [upd_ne (lt_ne _ (Heap.lt_size e)).2]; exact n
  ·rcases List.mem_cons.mp (I.stkSub _ hm) with z | z
   ·exact ne z
   ·exact nf z
 ·intro b o e
  by_cases hb:b=Da
  ·subst hb
   rw [upd_same] at e; cases e
   obtain ⟨n,hn⟩:=hacc
   exact ⟨Nat.zero_le _,[],n,.nil,hn⟩
  ·rw [upd_ne hb] at e
   exact (I.hok b o e).stay (fun c v _ q=>keep c v q) (fun c q=>by rw [upd_ne (ne_of_none q hD)]; exact q) fun c xs q=>by rw [upd_ne (ne_of_none q hD)]; exact q
 ·show (σ++List.replicate own.length none).length=(blkN X.N own).length
  unfold blkN
  simp [I.len]
theorem blk_end {sc:Scope} {own:List Str} {cl:List (Str×Addr)} {fp:List Addr} {C:Addr} {σ':L2.St} {H':Hp} {s':Shared} (I:Inv X pins σ H s) (hf:∀ b∈fp,FpOk X pins H b) (J:Inv (blk X pins s H sc cl C own fp) [] σ' H' s') :
  Inv X pins σ H' s' :=
 I.call' J.os J.base J.hok J.bare fun b hb=>⟨(hf b hb).2.2.2.1,(hf b hb).2.1,(hf b hb).2.2.2.2.1,(hf b hb).2.2.2.2.2⟩
theorem comp_core {elt:Expr} {gens:List Comprehension} {sc:Scope} {cpos:Pos} {tg iter:Expr} {ifs:List Expr} {own:List Str} {t:Tg} {n:Nat} {fi:En→Sto→R Src} {tf:En→Sto→R Bool} {body:En→List D→Sto→R (List D)} {use:Option (Value→Sem Unit)} {Sf:Sto} {src:Src} {S1:Sto} {accf:List D}
  (hc:X.calm=true) (so:ScOk X.env.scope sc X.N own) (hon:own.length=n) (hg:gens=⟨tg,iter,ifs,0⟩ :: gens.tail) (hi:DI X tg iter fi) (hs:∀ x,foldedSetIterable iter X.env x=pure x)
  (hG:∀ pins s H cl C fp,DG (blk X pins s H sc cl C own fp) tg t) (hT:∀ pins s H cl C fp,DTs (blk X pins s H sc cl C own fp) ifs tf) (hB:∀ pins s H cl C fp Da,BodyP (blk X pins s H sc cl C own fp) Da elt gens sc cpos 0 body)
  (I:S0 X pins σ H s ρ S env) (q:fi env S=.ok src S1) (hr:cloop src.get t (TestP tf body) (src.most S1 + 1) 0 (env++List.replicate n none) [] S1=.ok accf Sf)
  (hQ:∀ s' H' ρ' Da vs C m,S0 X pins σ H' s' ρ' Sf env→Stp X.K ρ ρ' H H'→Da ∉ ρ'→H Da=none→H' Da=some (.lst vs)→RDs X.K ρ' H' accf vs→s'.heap.Ns C m→(∀ x c,X.env.cells.lookup x=some c→c≠C)→C≠X.env.locals→H' C=none→(∀ s'' σ'' H'' h',Inv X pins σ'' H'' s''→H'' C=none→Heap.SameBut C s''.heap h'→Inv X pins σ'' H'' { s'' with heap:=h' }) →
   compPost (model X.prog X.w) X.A E use Q (.ref Da) C (.ok .next) s') :
  wpAny (model X.prog X.w) X.A (comprehension (.ListComp elt gens sc cpos) sc X.env (firstIterPos gens cpos) (newList []) false (eval iter X.env) use) Q E s:=by
 have hfree:∀ x∈sc.names,x.2=.free→∃ c,X.env.cells.lookup x.1=some c:=fun x hx hf=>by
  rcases so.free x hx hf with z | z
  ·exact I.inv.ok.has x.1 (.inl z)
  ·exact I.inv.ok.has x.1 (.inr z)
 obtain ⟨cl,hclos,hcl,hclf⟩:=closure_ok hfree
 refine wpAny_comprehension_free (g:=⟨tg,iter,ifs,0⟩) (gs:=gens.tail) hg hs hclos so.kind so.names ?_
 refine wpAny_mono (E:=fun _ _=>False) (hi pins s σ H ρ S env (fun _ _=>False) I (by rw [q]; exact fun z=>nomatch z) fun x s' z=>?_) (fun v s1 h1=>wpAny_mono h1 (fun itv s2 h2=>?_) fun _ _ z=>z.elim) fun _ _ z=>z.elim
 ·rw [q] at z; obtain ⟨k,S2,e,z⟩:=z; cases e
 ·obtain ⟨src',S2,it,fp,tn,J,H2,ρ2,e1,rfl,I2,T,t0,f2,sr2,srr,st2⟩:=h2
  rw [q] at e1; cases e1
  have J2:=I.step I2 srr st2
  refine wpAny_newObj_type (wpAny_newFunctionEnv so.nocell (by intro y hy; simp at hy) (fun h₁ hns₁ hsb₁=>?_) so.kind)
  dsimp only at hns₁ hsb₁ ⊢
  generalize hH2:s2.heap.push { cls:=.type "list",dict:=none,data:=.seq ([]:List Value).toArray }=G2 at hns₁ hsb₁ ⊢
  have hC:G2.objs.size=s2.heap.objs.size + 1:=by rw [← hH2,Heap.size_push]
  have below:∀ b,b < s2.heap.objs.size→b≠G2.objs.size:=fun b hb=>by rw [hC]; exact Nat.ne_of_lt (Nat.lt_succ_of_lt hb)
  have old:∀ b o,s2.heap.get? b=some o→h₁.get? b=some o:=fun b o e=>hsb₁.extBut b o (below b (Heap.lt_size e)) (Heap.get?_push_of_some _ (hH2 ▸ Heap.get?_push_of_some _ e))
  have hacc:h₁.get? s2.heap.objs.size=some { cls:=.type "list",data:=.seq #[] 0 }:=hsb₁.extBut _ _ (by rw [hC]; exact Nat.ne_of_lt (Nat.lt_succ_self _)) (Heap.get?_push_of_some _ (hH2 ▸ Heap.get?_push_size _ rfl))
  have hfp:∀ b∈fp,b < s2.heap.objs.size:=fun b hb=>by obtain ⟨o,e,_⟩:=T.obj _ _ t0 b hb; exact Heap.lt_size e
  have hD0:H2 s2.heap.objs.size=none:=I2.hok.fresh (Nat.le_refl _)
  have hDn:s2.heap.objs.size ∉ ρ2:=fun hm=>by obtain ⟨w,hw,_⟩:=srr.mem hm; rw [hD0] at hw; cases hw
  generalize hs4:({ s2 with heap:=h₁,toks:=s2.toks + ([]:List (Str×Value)).length }:Shared)=s4
  have IY:Inv (blk X pins s2 H2 sc cl G2.objs.size own fp) [] (σ++List.replicate own.length none) (upd H2 s2.heap.objs.size (.lst [])) s4:=by
   subst hs4
   exact blk_ok so I2 f2 hcl hclf rfl hC rfl rfl old hns₁ ⟨0,hacc⟩ hfp
  have stD:Stp X.K ρ2 ρ2 H2 (upd H2 s2.heap.objs.size (.lst [])):=Stp.upd hD0
  have SY:S0 (blk X pins s2 H2 sc cl G2.objs.size own fp) [] (σ++List.replicate own.length none) (upd H2 s2.heap.objs.size (.lst [])) s4 ρ2 S1 (env++List.replicate n none):=by
   refine ⟨IY,srr.upd hD0,⟨by simp [J2.er.len,hon],fun i d e=>?_⟩⟩
   have hi:i < env.length:=by
    by_cases hi:i < env.length
    ·exact hi
    ·rw [List.getElem?_append_right (by omega),List.getElem?_replicate] at e
     split at e <;> cases e
   rw [List.getElem?_append_left hi] at e
   obtain ⟨v,h1,h2⟩:=J2.er.val i d e
   exact ⟨v,by rw [List.getElem?_append_left (by rw [← J2.er.len]; exact hi)]; exact h1,h2.mono stD⟩
  have t4:tn 0 s4.heap:=by
   subst hs4
   exact T.keep 0 _ _ t0 fun b hb o e=>old b o e
  have fY:∀ b∈fp,FpOk (blk X pins s2 H2 sc cl G2.objs.size own fp) [] (upd H2 s2.heap.objs.size (.lst [])) b:=fun b hb=>by
   obtain ⟨a1,a2,a3,a4,a5,a6⟩:=f2 b hb
   refine ⟨by rw [upd_ne (Nat.ne_of_lt (hfp b hb))]; exact a1,below b (hfp b hb),fun hm=>?_,.inl hb,fun x c h=>a5 x c (hcl x c h),fun p hp=>?_⟩
   ·rcases List.mem_cons.mp (I2.stkSub b hm) with z | z
    ·exact a2 z
    ·exact a3 z
   ·rw [List.append_nil] at hp; exact a6 p hp
  refine codeAny_mono (cl_run (Y:=blk X pins s2 H2 sc cl G2.objs.size own fp) (H0:=H2) (ρ0:=ρ2) (P:=compPost (model X.prog X.w) X.A E use Q (.ref s2.heap.objs.size) G2.objs.size (.ok .next)) hc (by rw [hg]; rfl) T (hG _ _ _ _ _ _) (hT _ _ _ _ _ _) (hB _ _ _ _ _ _ _) hD0 SY t4 fY (sr2.mono stD) hDn upd_same RDs.nil stD hr
   fun s' σ' H' ρ' vs' env' I' _ hn' hD' ra' st' _=>?_) fun r s' h=>?_
  ·have JX:=blk_end I2 f2 I'.inv
   have hCn:H' G2.objs.size=none:=I'.inv.free
   have hCle:s2.heap.objs.size≤G2.objs.size:=by rw [hC]; exact Nat.le_succ _
   obtain ⟨m',hm',_⟩:=I'.inv.loc
   have fo:=I2.fpOk (H':=H') hCle hCn
   have hDX:H s2.heap.objs.size=none:=by
    cases e:H s2.heap.objs.size with
    | none=>rfl
    | some o =>
     by_cases hm:s2.heap.objs.size∈ρ
     ·obtain ⟨k,hk,ek⟩:=List.mem_iff_getElem.mp hm
      exact absurd (List.mem_of_getElem? (st2.pre k _ (by simp [hk,ek]))) hDn
     ·rw [st2.keep _ o e hm] at hD0; cases hD0
   refine hQ s' H' ρ' s2.heap.objs.size vs' G2.objs.size m' ⟨JX,I'.sr,I.er.mono (st2.trans st')⟩ (st2.trans st') hn' hDX hD' ra' hm' fo.2.2.2.2.1 (fun z=>fo.2.1 z) hCn fun s'' σ'' H'' h' J'' hn'' hs''=>?_
   have q'':FpOk X pins H'' G2.objs.size:=⟨hn'',fo.2⟩
   exact J''.turned (t':=s''.toks) (fun b o hb e=>(hs''.2 b hb).trans e) hn'' q''.2.1 q''.2.2.2.1 q''.2.2.2.2.1 q''.2.2.2.2.2
  ·cases r with
   | ok f=>cases use <;> exact h
   | error e=>exact h.elim
end
end Z
end
section
namespace Z
open PySem PySem.Spec PyProof.Rows L2
theorem cloop_noex {get:Sto→Nat→Option (Option D)} {t:Tg} {body:En→List D→Sto→R (List D)}:∀ (k i:Nat) (env:En) (acc:List D) (S:Sto) (n:Nat) (S':Sto),cloop get t body k i env acc S≠.ex n S'
 | 0,i,env,acc,S,n,S'=>fun z=>nomatch z
 | k + 1,i,env,acc,S,n,S'=>by
  simp only [cloop]
  cases get S i with
  | none=>exact fun z=>nomatch z
  | some o =>
   cases o with
   | none=>exact fun z=>nomatch z
   | some d =>
    dsimp only
    cases setTg t d env with
    | none=>exact fun z=>nomatch z
    | some env' =>
     dsimp only
     cases body env' acc S with
     | ok a S1=>exact cloop_noex k (i + 1) env' a S1 n S'
     | ex _ _=>exact fun z=>nomatch z
     | bad=>exact fun z=>nomatch z
section
variable {X:Cx} {pins:List (Addr×Obj)} {σ:L2.St} {H:Hp} {s:Shared} {ρ:List Addr} {S S':Sto} {env:En} {Q:Value→Shared→Prop} {E:Value→Shared→Prop}
theorem SR.adopt {K:PySem.W.Frag} {Da:Addr} {vs:List V} {xs:List D} (r:SR K ρ S H) (hn:Da ∉ ρ) (hD:H Da=some (.lst vs)) (rd:RDs K ρ H xs vs):SR K (ρ++[Da]) (S++[.lst xs]) H:=by
 have mo:Mon K ρ (ρ++[Da]) H H:=⟨fun n a h=>by rw [List.getElem?_append_left (List.getElem?_eq_some_iff.mp h).1]; exact h,fun _ _ h=>h,fun _ _ h=>h⟩
 refine ⟨by simp [r.len],?_,fun n a ob h1 h2=>?_⟩
 ·rw [List.nodup_append]
  refine ⟨r.nd,by simp,fun x hx y hy=>?_⟩
  rw [List.mem_singleton.mp hy]
  exact fun z=>hn (z ▸ hx)
 ·by_cases hk:n < ρ.length
  ·rw [List.getElem?_append_left hk] at h1
   rw [List.getElem?_append_left (by rw [← r.len]; exact hk)] at h2
   exact (r.ob n a ob h1 h2).mono' mo rfl
  ·have e:n=ρ.length:=by
    have:=(List.getElem?_eq_some_iff.mp h1).1
    simp at this; omega
   subst e
   simp at h1
   rw [r.len] at h2
   simp at h2
   subst h1 h2
   exact ⟨vs,hD,RDs.mono' mo _ _ rd⟩
theorem Stp.adopt {K:PySem.W.Frag} {Da:Addr} {ρ':List Addr} {H':Hp} (st:Stp K ρ ρ' H H') (h0:H Da=none):Stp K ρ (ρ'++[Da]) H H' where
 pre:=fun n a h=>by have z:=st.pre n a h; rw [List.getElem?_append_left (List.getElem?_eq_some_iff.mp z).1]; exact z
 tup:=st.tup
 fro:=st.fro
 new:=fun a h=>by
  rcases List.mem_append.mp h with h | h
  ·exact st.new a h
  ·rw [List.mem_singleton.mp h]; exact .inr h0
 keep:=st.keep
variable {elt:Expr} {gens:List Comprehension} {sc:Scope} {cpos:Pos} {tg iter:Expr} {ifs:List Expr} {own:List Str} {t:Tg} {n:Nat} {fi:En→Sto→R Src} {tf:En→Sto→R Bool} {body:En→List D→Sto→R (List D)}
noncomputable def cmrR (fi:En→Sto→R Src) (t:Tg) (n:Nat) (tf:En→Sto→R Bool) (body:En→List D→Sto→R (List D)) (env:En) (S:Sto):R D :=
 (fi env S).bind fun src S=>(cloop src.get t (TestP tf body) (src.most S + 1) 0 (env++List.replicate n none) [] S).bind fun acc S=>.ok (.ref S.length) (S++[.lst acc])
theorem comp_ex {use:Option (Value→Sem Unit)} {m:Nat} {S1:Sto} (so:ScOk X.env.scope sc X.N own) (hg:gens=⟨tg,iter,ifs,0⟩ :: gens.tail) (hi:DI X tg iter fi) (hs:∀ x,foldedSetIterable iter X.env x=pure x)
  (I:S0 X pins σ H s ρ S env) (q:fi env S=.ex m S1) (hE:∀ x s',XPd X pins σ ρ H m S1 x s'→E x s') :
  wpAny (model X.prog X.w) X.A (comprehension (.ListComp elt gens sc cpos) sc X.env (firstIterPos gens cpos) (newList []) false (eval iter X.env) use) Q E s:=by
 have hfree:∀ x∈sc.names,x.2=.free→∃ c,X.env.cells.lookup x.1=some c:=fun x hx hf=>by
  rcases so.free x hx hf with z | z
  ·exact I.inv.ok.has x.1 (.inl z)
  ·exact I.inv.ok.has x.1 (.inr z)
 obtain ⟨cl,hclos,hcl,hclf⟩:=closure_ok hfree
 refine wpAny_comprehension_free (g:=⟨tg,iter,ifs,0⟩) (gs:=gens.tail) hg hs hclos so.kind so.names ?_
 refine wpAny_mono (hi pins s σ H ρ S env E I (by rw [q]; exact fun z=>nomatch z) fun x s' z=>?_) (fun v s1 h1=>wpAny_mono h1 (fun itv s2 h2=>?_) fun _ _ z=>z) fun _ _ z=>z
 ·rw [q] at z; obtain ⟨k,S2,e,z⟩:=z; cases e; exact hE x s' z
 ·obtain ⟨src',S2,_,_,_,_,_,_,e1,_⟩:=h2
  rw [q] at e1; cases e1
theorem d_comp (hc:X.calm=true) (so:ScOk X.env.scope sc X.N own) (hon:own.length=n) (hg:gens=⟨tg,iter,ifs,0⟩ :: gens.tail) (hi:DI X tg iter fi) (hs:∀ x,foldedSetIterable iter X.env x=pure x)
  (hG:∀ pins s H cl C fp,DG (blk X pins s H sc cl C own fp) tg t) (hT:∀ pins s H cl C fp,DTs (blk X pins s H sc cl C own fp) ifs tf) (hB:∀ pins s H cl C fp Da,BodyP (blk X pins s H sc cl C own fp) Da elt gens sc cpos 0 body) :
  DE X (.ListComp elt gens sc cpos) (cmrR fi t n tf body):=by
 intro pins s σ H ρ S env I nb
 have hfi:firstIter gens X.env=eval iter X.env:=by rw [hg]; rfl
 have hfa:firstAsync gens=false:=by rw [hg]; rfl
 rw [eval_ListComp,hfi,hfa]
 unfold cmrR at nb ⊢
 cases q:fi env S with
 | bad=>rw [q] at nb; exact absurd rfl nb
 | ex m S1=>exact comp_ex so hg hi hs I q fun x s' z=>⟨m,S1,rfl,z⟩
 | ok src S1 =>
  rw [q] at nb
  simp only [R.bind_ok] at nb ⊢
  cases q2:cloop src.get t (TestP tf body) (src.most S1 + 1) 0 (env++List.replicate n none) [] S1 with
  | bad=>rw [q2] at nb; exact absurd rfl nb
  | ex m S2=>exact absurd q2 (cloop_noex _ _ _ _ _ _ _)
  | ok accf Sf =>
   refine comp_core hc so hon hg hi hs hG hT hB I q q2 fun s' H' ρ' Da vs C m I' st' hn' h0 hD' ra' hns hcells hCl hCn back=>?_
   refine ⟨m,hns,fun h' hs'=>?_⟩
   refine .mk (v:=.ref Da) (st'.adopt h0) (back s' σ H' h' I'.inv hCn hs') rfl ?_ (I'.sr.adopt hn' hD' ra')
   simp only [RD]
   exact ⟨Da,rfl,by rw [← I'.sr.len]; simp⟩
theorem ds_setc {i:Nat} {x:Str} {py spos:Pos} (hN:X.N.Nodup) (hi':X.N[i]?=some x) (hx:X.env.scope.names.lookup x=some .local) (hsw:swapsWith (.ListComp elt gens sc cpos) (some (.Name x py)) spos.line X.env=pure true)
  (hc:X.calm=true) (so:ScOk X.env.scope sc X.N own) (hon:own.length=n) (hg:gens=⟨tg,iter,ifs,0⟩ :: gens.tail) (hi:DI X tg iter fi) (hs:∀ x,foldedSetIterable iter X.env x=pure x)
  (hG:∀ pins s H cl C fp,DG (blk X pins s H sc cl C own fp) tg t) (hT:∀ pins s H cl C fp,DTs (blk X pins s H sc cl C own fp) ifs tf) (hB:∀ pins s H cl C fp Da,BodyP (blk X pins s H sc cl C own fp) Da elt gens sc cpos 0 body) :
  DS X (.Assign [.Name x py] (.ListComp elt gens sc cpos) spos) false (fun env S=>(cmrR fi t n tf body env S).bind fun d S=>match setTg (.var i) d env with | some env=>.ok (.nx env) S | none=>.bad):=by
 intro pins s σ H ρ S env I nb
 dsimp only at nb ⊢
 have hfi:firstIter gens X.env=eval iter X.env:=by rw [hg]; rfl
 have hfa:firstAsync gens=false:=by rw [hg]; rfl
 rw [exec_Assign_Name_used _ _ _ _ hsw]
 refine wpAny_bind (wpAny_standAt (wpAny_bind ?_))
 show wpAny _ X.A (do let _ ← comprehension (.ListComp elt gens sc cpos) sc X.env (firstIterPos gens cpos) (newList []) (firstAsync gens) (firstIter gens X.env) (some (assign (.Name x py) X.env))) _ _ s
 rw [hfi,hfa]
 refine wpAny_bind (wpAny_mono (Q:=fun _ s'=>OkS X pins σ ρ H false ((cmrR fi t n tf body env S).bind fun d S=>match setTg (.var i) d env with | some env=>.ok (.nx env) S | none=>.bad) .next s') ?_ (fun _ s' hq=>wpAny_pure (wpAny_pure hq)) fun _ _ z=>z)
 unfold cmrR at nb ⊢
 cases q:fi env S with
 | bad=>rw [q] at nb; exact absurd rfl nb
 | ex m S1=>exact comp_ex so hg hi hs I q fun x s' z=>.of .refl z rfl
 | ok src S1 =>
  rw [q] at nb
  simp only [R.bind_ok] at nb ⊢
  cases q2:cloop src.get t (TestP tf body) (src.most S1 + 1) 0 (env++List.replicate n none) [] S1 with
  | bad=>rw [q2] at nb; exact absurd rfl nb
  | ex m S2=>exact absurd q2 (cloop_noex _ _ _ _ _ _ _)
  | ok accf Sf =>
   refine comp_core (use:=some (assign (.Name x py) X.env)) hc so hon hg hi hs hG hT hB I q q2 fun s' H' ρ' Da vs C m I' st' hn' h0 hD' ra' hns hcells hCl hCn back=>?_
   show wpAny _ X.A (assign (.Name x py) X.env (.ref Da)) _ _ s'
   refine wpAny_assign_Name (store_ok2 I'.inv hN hi' (.inl hx) (show RelV (.ref Da) (.ref Da) from rfl) (fun s2 I2 hsb=>?_) (.inr hx))
   obtain ⟨ad,hsb,had⟩:=hsb
   have hne:ad≠C:=by
    rcases had with z | z
    ·rw [z]; exact Ne.symm hCl
    ·exact hcells x ad z
   refine ⟨m,hns.sameBut hsb (Ne.symm hne),fun h' hs'=>?_⟩
   have J:=back s2 _ H' h' I2 hCn hs'
   refine ⟨.nx (env.set i (some (.ref Sf.length))),Sf++[.lst accf],rfl,rfl,_,H',ρ'++[Da],⟨J,I'.sr.adopt hn' hD' ra',?_⟩,st'.adopt h0,fun z=>nomatch z⟩
   have mo:Mon X.K ρ' (ρ'++[Da]) H' H':=⟨fun n a h=>by rw [List.getElem?_append_left (List.getElem?_eq_some_iff.mp h).1]; exact h,fun _ _ h=>h,fun _ _ h=>h⟩
   refine (I'.er.mono' mo).set i ?_
   simp only [RD]
   exact ⟨Da,rfl,by rw [← I'.sr.len]; simp⟩
end
end Z
end
section
namespace Z
open PySem PySem.Spec PyProof.Rows L2
section
variable {X:Cx} {pins:List (Addr×Obj)} {σ:L2.St} {H:Hp} {s:Shared} {ρ:List Addr} {S S':Sto} {env:En} {Q:Value→Shared→Prop} {E:Value→Shared→Prop}
noncomputable def BlR (X:Cx) (k:Bl) (f:Value):Prop :=
 ∀ (pins:List (Addr×Obj)) (s:Shared) (σ:L2.St) (H:Hp) (ρ:List Addr) (S:Sto) (env:En) (ds:List D) (vs:List V) (us:List Value) (E:Value→Shared→Prop),S0 X pins σ H s ρ S env→RDs X.K ρ H ds vs→Vals vs us→bltD k ds S≠.bad →
  wpAny (model X.prog X.w) X.A (call f us) (OkP X pins σ ρ H (bltD k ds S)) E s
theorem RDs.one {K:PySem.W.Frag} {d:D} {vs:List V} (h:RDs K ρ H [d] vs):∃ v,vs=[v]∧RD K ρ H d v:=by
 simp only [RDs] at h
 obtain ⟨v,r,rfl,h1,rfl⟩:=h
 exact ⟨v,rfl,h1⟩
theorem RDs.two {K:PySem.W.Frag} {d e:D} {vs:List V} (h:RDs K ρ H [d,e] vs):∃ v u,vs=[v,u]∧RD K ρ H d v∧RD K ρ H e u:=by
 simp only [RDs] at h
 obtain ⟨v,r,rfl,h1,u,r',rfl,h2,rfl⟩:=h
 exact ⟨v,u,rfl,h1,h2⟩
theorem b_len:BlR X .len (.builtin "len"):=by
 intro pins s σ H ρ S env ds vs us E I rd rv nb
 match ds,rd,nb with
 | [],_,nb=>exact absurd rfl nb
 | _ :: _ :: _,_,nb=>exact absurd rfl nb
 | [d],rd,nb =>
  obtain ⟨v,rfl,r1⟩:=rd.one
  have go:∀ xs,seqD S d=some xs→wpAny (model X.prog X.w) X.A (call (.builtin "len") us) (OkP X pins σ ρ H (.ok (.int xs.length) S)) E s:=fun xs h=>by
   obtain ⟨a,ws,rfl,hq,hr⟩:=I.seq h r1
   refine calld (Q':=fun z H'=>z=.int ws.length∧H'=H) call_len_seq I.inv rv ⟨a,ws,rfl,hq,rfl,rfl⟩ fun w s' z H' J rz ⟨e1,e2⟩=>?_
   subst e1 e2
   obtain ⟨t,rfl⟩:=rz
   rw [← hr.length]
   exact fin_i I.sr J
  cases d with
  | str z =>
   simp only [bltD] at nb ⊢
   split at nb
   ·rename_i hz
    rw [if_pos hz]
    simp only [RD] at r1; subst r1
    refine calld (Q':=fun y H'=>y=.int z.length∧H'=H) call_len_str I.inv rv ⟨z,rfl,le_line hz,rfl,rfl⟩ fun w s' y H' J rz ⟨e1,e2⟩=>?_
    subst e1 e2
    obtain ⟨t,rfl⟩:=rz
    exact fin_i I.sr J
   ·exact absurd rfl nb
  | tup xs=>exact go xs rfl
  | fro xs=>exact go xs rfl
  | ref n =>
   simp only [bltD,seqD] at nb ⊢
   cases e:lstAt S n with
   | none=>rw [e] at nb; exact absurd rfl nb
   | some xs=>exact go xs e
  | non=>exact absurd rfl nb
  | bl _=>exact absurd rfl nb
  | int _=>exact absurd rfl nb
  | fn _ _=>exact absurd rfl nb
theorem b_tuple:BlR X .tuple (.type "tuple"):=by
 intro pins s σ H ρ S env ds vs us E I rd rv nb
 match ds,rd,nb with
 | [],_,nb=>exact absurd rfl nb
 | _ :: _ :: _,_,nb=>exact absurd rfl nb
 | [d],rd,nb =>
  obtain ⟨v,rfl,r1⟩:=rd.one
  simp only [bltD] at nb ⊢
  cases e:seqD S d with
  | none=>rw [e] at nb; exact absurd rfl nb
  | some xs =>
   dsimp only
   obtain ⟨a,ws,rfl,hq,hr⟩:=I.seq e r1
   rcases hq with hq | hq
   ·refine calld (Q':=fun z H'=>∃ p,H p=none∧z=.ref p∧H'=upd H p (.tup ws)) call_tuple_of I.inv rv ⟨a,ws,rfl,.inl ⟨hq,fun l hl=>⟨l,hl,rfl,rfl⟩⟩⟩ fun w s' z H' J rz ⟨p,hp,e1,e2⟩=>?_
    subst e1 e2; cases rz
    exact fin_tup J hp I.sr hr
   ·refine calld (Q':=fun z H'=>z=.ref a∧H'=H) call_tuple_of I.inv rv ⟨a,ws,rfl,.inr ⟨hq,rfl,rfl⟩⟩ fun w s' z H' J rz ⟨e1,e2⟩=>?_
    subst e1 e2
    refine .mk .refl J rz ?_ I.sr
    simp only [RD]
    exact ⟨a,ws,rfl,hq,hr⟩
theorem b_list:BlR X .list (.type "list"):=by
 intro pins s σ H ρ S env ds vs us E I rd rv nb
 match ds,rd,nb with
 | [],_,nb=>exact absurd rfl nb
 | _ :: _ :: _,_,nb=>exact absurd rfl nb
 | [d],rd,nb =>
  obtain ⟨v,rfl,r1⟩:=rd.one
  simp only [bltD] at nb ⊢
  cases e:seqD S d with
  | none=>rw [e] at nb; exact absurd rfl nb
  | some xs =>
   dsimp only
   obtain ⟨a,ws,rfl,hq,hr⟩:=I.seq e r1
   refine calld (Q':=fun z H'=>∃ p,H p=none∧z=.ref p∧H'=upd H p (.lst ws)) call_list_of I.inv rv ⟨a,ws,rfl,hq,fun l hl=>⟨l,hl,rfl,rfl⟩⟩ fun w s' z H' J rz ⟨p,hp,e1,e2⟩=>?_
   subst e1 e2; cases rz
   exact fin_lst J hp I.sr hr
theorem allBls_some:∀ {xs:List D} {bs:List Bool},allBls xs=some bs→xs=bs.map D.bl
 | [],ns,h=>by simp only [allBls,Option.some.injEq] at h; subst h; rfl
 | .bl i :: r,ns,h=>by
  simp only [allBls,Option.map_eq_some_iff] at h
  obtain ⟨ms,h1,rfl⟩:=h
  rw [allBls_some h1]; rfl
 | .non :: _,_,h=>by simp [allBls] at h
 | .int _ :: _,_,h=>by simp [allBls] at h
 | .str _ :: _,_,h=>by simp [allBls] at h
 | .tup _ :: _,_,h=>by simp [allBls] at h
 | .ref _ :: _,_,h=>by simp [allBls] at h
 | .fro _ :: _,_,h=>by simp [allBls] at h
 | .fn _ _ :: _,_,h=>by simp [allBls] at h
theorem range_all (bs:List Bool) (f:Nat→Bool) (h:∀ i,f i=(bs[i]?).getD false):(List.range bs.length).all f=bs.all id:=by
 rw [Bool.eq_iff_iff,List.all_eq_true,List.all_eq_true]
 constructor
 ·intro q b hb
  obtain ⟨i,hi,rfl⟩:=List.mem_iff_getElem.mp hb
  have:=q i (by simpa using hi)
  rw [h i] at this
  simpa [hi] using this
 ·intro q i hi
  have hi':i < bs.length:=by simpa using hi
  rw [h i]
  simp only [hi',getElem?_pos,Option.getD_some]
  exact q _ (List.getElem_mem hi')
theorem range_any (bs:List Bool) (f:Nat→Bool) (h:∀ i,f i=(bs[i]?).getD false):(List.range bs.length).any f=bs.any id:=by
 rw [Bool.eq_iff_iff,List.any_eq_true,List.any_eq_true]
 constructor
 ·rintro ⟨i,hi,q⟩
  have hi':i < bs.length:=by simpa using hi
  rw [h i] at q
  simp only [hi',getElem?_pos,Option.getD_some] at q
  exact ⟨_,List.getElem_mem hi',q⟩
 ·rintro ⟨b,hb,q⟩
  obtain ⟨i,hi,rfl⟩:=List.mem_iff_getElem.mp hb
  refine ⟨i,by simpa using hi,?_⟩
  rw [h i]
  simpa [hi] using q
theorem rd_bl {K:PySem.W.Frag}:∀ {bs:List Bool} {vs:List V},RDs K ρ H (bs.map D.bl) vs→vs=bs.map V.bl
 | [],vs,h=>by simp only [List.map,RDs] at h; exact h
 | n :: ns,vs,h=>by
  simp only [List.map,RDs] at h
  obtain ⟨v,r,rfl,h1,h2⟩:=h
  simp only [RD] at h1
  subst h1
  rw [rd_bl h2]; rfl
theorem S0.its (I:S0 X pins σ H s ρ S env) {n:Nat} {xs:List D} {v:V} {u:Value} (h:lstAt S n=some xs) (rd:RD X.K ρ H (.ref n) v) (rv:RelV v u):∃ a vs its,u=.ref a∧s.heap.IsList a its.toArray∧RDs X.K ρ H xs vs∧Vals vs its∧vs.length≤sizeLine:=by
 obtain ⟨a,vs,rfl,h1,h2,h3⟩:=I.lstR h rd
 cases rv
 obtain ⟨its,r,p,hz⟩:=I.inv.list (.of h2)
 exact ⟨a,vs,its,rfl,p.isList,h3,r,hz⟩
theorem walk_seq {prog:Program} {w:World} {A:Around} {a:Addr} {its:List Value} {Q:Value→Shared→Prop} (hh:A.handled=none) (hq:s.heap.IsList a its.toArray∨s.heap.IsTuple a its.toArray)
  (h:∀ I fp wr St s₂,Walks prog w A I fp wr its.length (fun i v=>its[i]?=some v) St→St 0 s₂.heap→(∀ b∈fp,b < s₂.heap.objs.size) →
   (∀ h' tk,(∀ b o,b ∉ wr→s₂.heap.get? b=some o→h'.get? b=some o)→({ s₂ with heap:=h',toks:=tk }:Shared)={ s with heap:=h',toks:=tk }∧∀ b o,s.heap.get? b=some o→h'.get? b=some o)→Q (.ref I) s₂) :
  wpAny (model prog w) A (pyIter (.ref a)) Q E s:=by
 have key:∀ {o:Obj},∀ h' tk,(∀ b ob,b ∉ [s.heap.objs.size]→({ s with heap:=s.heap.push o }:Shared).heap.get? b=some ob→h'.get? b=some ob)→({ ({ s with heap:=s.heap.push o }:Shared) with heap:=h',toks:=tk }:Shared)={ s with heap:=h',toks:=tk }∧∀ b ob,s.heap.get? b=some ob→h'.get? b=some ob :=
  fun {o} h' tk hk=>⟨rfl,fun b ob e=>hk b ob (by simp; exact Nat.ne_of_lt (Heap.lt_size e)) (Heap.get?_push_of_some _ e)⟩
 have fpk:∀ {o:Obj} (ha:a < s.heap.objs.size),∀ b∈[s.heap.objs.size,a],b < (s.heap.push o).objs.size:=fun {o} ha b hb=>by
  rw [Heap.size_push]
  simp at hb
  rcases hb with rfl | rfl
  ·exact Nat.lt_succ_self _
  ·exact Nat.lt_succ_of_lt ha
 rcases hq with hq | hq
 ·have ha:a < s.heap.objs.size:=Heap.lt_size hq.choose_spec.1
  refine wpAny_pyIter_list hq ?_
  have W:=Walks.list (prog:=prog) (w:=w) hh s.heap.objs.size a (Nat.ne_of_lt ha) its.toArray
  simp only [List.size_toArray,List.getElem?_toArray] at W
  exact h _ _ _ _ _ W ⟨⟨_,Heap.get?_push_size _ rfl,rfl,rfl⟩,hq.at fun o e=>Heap.get?_push_of_some _ e⟩ (fpk ha) key
 ·have ha:a < s.heap.objs.size:=Heap.lt_size hq.choose_spec.1
  refine wpAny_pyIter_tuple hq ?_
  have W:=Walks.tuple (prog:=prog) (w:=w) hh s.heap.objs.size a (Nat.ne_of_lt ha) its.toArray
  simp only [List.size_toArray,List.getElem?_toArray] at W
  exact h _ _ _ _ _ W ⟨⟨_,Heap.get?_push_size _ rfl,rfl,rfl⟩,hq.at fun o e=>Heap.get?_push_of_some _ e⟩ (fpk ha) key
theorem S0.seqI (I:S0 X pins σ H s ρ S env) {d:D} {v:V} {u:Value} {xs:List D} (h:seqD S d=some xs) (rd:RD X.K ρ H d v) (rv:RelV v u):∃ a vs its,u=.ref a∧(s.heap.IsList a its.toArray∨s.heap.IsTuple a its.toArray)∧RDs X.K ρ H xs vs∧Vals vs its∧vs.length≤sizeLine:=by
 obtain ⟨a,vs,rfl,hq,hr⟩:=I.seq h rd
 cases rv
 rcases hq with hq | hq
 ·obtain ⟨its,r,p,hz⟩:=I.inv.list hq
  exact ⟨a,vs,its,rfl,.inl p.isList,hr,r,hz⟩
 ·obtain ⟨its,r,p,hz⟩:=I.inv.tuple hq
  exact ⟨a,vs,its,rfl,.inr p,hr,r,hz⟩
theorem vals_bl {i:Nat} {v:Value}:∀ {bs:List Bool} {its:List Value},Vals (bs.map V.bl) its→its[i]?=some v→v=.bool ((bs[i]?).getD false):=fun {bs its} hv e=>by
 have hl:i < bs.length:=by
  have h1:=hv.length
  have h2:=(List.getElem?_eq_some_iff.mp e).1
  simp at h1; omega
 obtain ⟨u,h1,h2⟩:=hv.get (i:=i) (x:=.bl bs[i]) (by simp [hl])
 rw [e] at h1; cases h1
 simp [hl]
 exact h2
theorem b_all (hc:X.calm=true):BlR X .all (.builtin "all"):=by
 intro pins s σ H ρ S env ds vs us E I rd rv nb
 match ds,rd,nb with
 | [],_,nb=>exact absurd rfl nb
 | d :: _ :: _,_,nb=>cases d <;> exact absurd rfl nb
 | [.ref n],rd,nb =>
  obtain ⟨v,rfl,r1⟩:=rd.one
  simp only [bltD] at nb ⊢
  cases e:lstAt S n with
  | none=>rw [e] at nb; exact absurd rfl nb
  | some xs =>
   rw [e] at nb
   simp only [Option.bind_some] at nb ⊢
   cases e2:allBls xs with
   | none=>rw [e2] at nb; exact absurd rfl nb
   | some bs =>
    dsimp only
    have q:=allBls_some e2
    subst q
    cases rv with
    | cons ru rr =>
     cases rr
     obtain ⟨a,ws,its,rfl,hl,hr,hv,hz⟩:=I.its e r1 ru
     have hw:=rd_bl hr
     subst hw
     have hlen:its.length=bs.length:=by rw [← hv.length]; simp
     refine call_all_walk (walk_seq (I.inv.ok.hd hc) (.inl hl) fun It fp wr St s₂ W st hf key=>?_)
     refine ⟨It,fp,wr,_,_,St,fun i=>(bs[i]?).getD false,rfl,W,st,fun i v s' Q' E' hP hQ=>?_,fun h' tk hk=>?_⟩
     ·rw [vals_bl hv hP]; exact wpAny_truthy_bool hQ
     ·obtain ⟨e3,k3⟩:=key h' tk hk
      rw [e3,hlen,range_all bs _ fun _=>rfl]
      exact fin_b' I.sr (I.inv.kept k3)
 | [.non],_,nb=>exact absurd rfl nb
 | [.bl _],_,nb=>exact absurd rfl nb
 | [.int _],_,nb=>exact absurd rfl nb
 | [.str _],_,nb=>exact absurd rfl nb
 | [.tup _],_,nb=>exact absurd rfl nb
 | [.fro _],_,nb=>exact absurd rfl nb
theorem b_any (hc:X.calm=true):BlR X .any (.builtin "any"):=by
 intro pins s σ H ρ S env ds vs us E I rd rv nb
 match ds,rd,nb with
 | [],_,nb=>exact absurd rfl nb
 | d :: _ :: _,_,nb=>cases d <;> exact absurd rfl nb
 | [.ref n],rd,nb =>
  obtain ⟨v,rfl,r1⟩:=rd.one
  simp only [bltD] at nb ⊢
  cases e:lstAt S n with
  | none=>rw [e] at nb; exact absurd rfl nb
  | some xs =>
   rw [e] at nb
   simp only [Option.bind_some] at nb ⊢
   cases e2:allBls xs with
   | none=>rw [e2] at nb; exact absurd rfl nb
   | some bs =>
    dsimp only
    have q:=allBls_some e2
    subst q
    cases rv with
    | cons ru rr =>
     cases rr
     obtain ⟨a,ws,its,rfl,hl,hr,hv,hz⟩:=I.its e r1 ru
     have hw:=rd_bl hr
     subst hw
     have hlen:its.length=bs.length:=by rw [← hv.length]; simp
     refine call_any_walk (walk_seq (I.inv.ok.hd hc) (.inl hl) fun It fp wr St s₂ W st hf key=>?_)
     refine ⟨It,fp,wr,_,_,St,fun i=>(bs[i]?).getD false,rfl,W,st,fun i v s' Q' E' hP hQ=>?_,fun h' tk hk=>?_⟩
     ·rw [vals_bl hv hP]; exact wpAny_truthy_bool hQ
     ·obtain ⟨e3,k3⟩:=key h' tk hk
      rw [e3,hlen,range_any bs _ fun _=>rfl]
      exact fin_b' I.sr (I.inv.kept k3)
 | [.non],_,nb=>exact absurd rfl nb
 | [.bl _],_,nb=>exact absurd rfl nb
 | [.int _],_,nb=>exact absurd rfl nb
 | [.str _],_,nb=>exact absurd rfl nb
 | [.tup _],_,nb=>exact absurd rfl nb
 | [.fro _],_,nb=>exact absurd rfl nb
theorem vals_int {i:Nat} {v:Value} {ns:List Int} {its:List Value} (hv:Vals (ns.map V.int) its) (e:its[i]?=some v):∃ t,v=.int ((ns[i]?).getD 0) t:=by
 have hl:i < ns.length:=by
  have h1:=hv.length
  have h2:=(List.getElem?_eq_some_iff.mp e).1
  simp at h1; omega
 obtain ⟨u,h1,h2⟩:=hv.get (i:=i) (x:=.int ns[i]) (by simp [hl])
 rw [e] at h1; cases h1
 simp [hl]
 exact h2
theorem preSum_take (ns:List Int):∀ k,k≤ns.length→preSum (fun i=>(ns[i]?).getD 0) k=(ns.take k).sum
 | 0,_=>by simp [preSum]
 | k + 1,h=>by
  have hk:k < ns.length:=by omega
  rw [preSum,preSum_take ns k (by omega),List.take_succ_eq_append_getElem hk,List.sum_append]
  simp [hk]
theorem b_sum (hc:X.calm=true):BlR X .sum (.builtin "sum"):=by
 intro pins s σ H ρ S env ds vs us E I rd rv nb
 match ds,rd,nb with
 | [],_,nb=>exact absurd rfl nb
 | _ :: _ :: _,_,nb=>exact absurd rfl nb
 | [d],rd,nb =>
  obtain ⟨v,rfl,r1⟩:=rd.one
  simp only [bltD] at nb ⊢
  cases e:seqD S d with
  | none=>rw [e] at nb; exact absurd rfl nb
  | some xs =>
   rw [e] at nb
   simp only [Option.bind_some] at nb ⊢
   cases e2:allInts xs with
   | none=>rw [e2] at nb; exact absurd rfl nb
   | some ns =>
    dsimp only
    have q:=allInts_some e2
    subst q
    cases rv with
    | cons ru rr =>
     cases rr
     obtain ⟨a,ws,its,rfl,hl,hr,hv,hz⟩:=I.seqI e r1 ru
     have hw:=hr.ints_of
     subst hw
     have hlen:its.length=ns.length:=by rw [← hv.length]; simp
     refine call_sum_walkAnyS (walk_seq (I.inv.ok.hd hc) hl fun It fp wr St s₂ W st hf key=>?_)
     refine ⟨It,fp,wr,_,_,_,_,fun i=>(ns[i]?).getD 0,rfl,W.toS,st,hf,fun i v hP=>vals_int hv hP,fun s' t' hm=>?_⟩
     obtain ⟨h1,h2,h3,h4,h5⟩:=hm
     obtain ⟨e3,k3⟩:=key s'.heap s'.toks h1
     have e4:s'={ s₂ with heap:=s'.heap,toks:=s'.toks }:=by
      cases s'
      cases s₂
      simp only at h2 h3 h4
      subst h2 h3 h4
      rfl
     rw [e4,e3,hlen,preSum_take ns _ (Nat.le_refl _),List.take_length]
     exact fin_i I.sr (I.inv.kept k3)
theorem b_max2 (hc:X.calm=true) {i j:Int} {v' u':Value} (I:S0 X pins σ H s ρ S env) (rv:RelV (.int i) v') (ru:RelV (.int j) u'):wpAny (model X.prog X.w) X.A (call (.builtin "max") [v',u']) (OkP X pins σ ρ H (bltD .max [.int i,.int j] S)) E s :=
 calld (Q':=fun z H'=>z=.int (if j > i then j else i)∧H'=H) (call_max2 hc) I.inv (.cons rv (.cons ru .nil)) ⟨i,j,rfl,rfl,rfl⟩ fun w s' z H' J rz ⟨e1,e2⟩=>by
  subst e1 e2; obtain ⟨t,rfl⟩:=rz; exact fin_i I.sr J
theorem b_min2 (hc:X.calm=true) {i j:Int} {v' u':Value} (I:S0 X pins σ H s ρ S env) (rv:RelV (.int i) v') (ru:RelV (.int j) u'):wpAny (model X.prog X.w) X.A (call (.builtin "min") [v',u']) (OkP X pins σ ρ H (bltD .min [.int i,.int j] S)) E s :=
 calld (Q':=fun z H'=>z=.int (if j < i then j else i)∧H'=H) (call_min2 hc) I.inv (.cons rv (.cons ru .nil)) ⟨i,j,rfl,rfl,rfl⟩ fun w s' z H' J rz ⟨e1,e2⟩=>by
  subst e1 e2; obtain ⟨t,rfl⟩:=rz; exact fin_i I.sr J
theorem argBest_max (ns:List Int):∀ k,k < ns.length→(ns[argBest (fun i j=>decide ((ns[i]?).getD 0 > (ns[j]?).getD 0)) k]?).getD 0=(ns.take (k + 1)).tail.foldl max ((ns[0]?).getD 0)
 | 0,h=>by
  cases ns with
  | nil=>simp at h
  | cons n r=>simp [argBest]
 | k + 1,h=>by
  have ih:=argBest_max ns k (by omega)
  simp only [argBest]
  have ht:(ns.take (k + 1 + 1)).tail=(ns.take (k + 1)).tail++[ns[k + 1]]:=by
   rw [List.take_succ_eq_append_getElem h]
   cases ns with
   | nil=>simp at h
   | cons n r=>simp
  rw [ht,List.foldl_append]
  simp only [List.foldl_cons,List.foldl_nil]
  generalize hm:List.foldl max ((ns[0]?).getD 0) (ns.take (k + 1)).tail=m at ih ⊢
  have h1:(ns[k + 1]?).getD 0=ns[k + 1]:=by simp [h]
  split
  ·rename_i hc
   have hc':=of_decide_eq_true hc
   rw [ih,h1] at hc'
   rw [h1]
   omega
  ·rename_i hc
   have hc':¬ ((ns[k + 1]?).getD 0 > (ns[argBest (fun i j=>decide ((ns[i]?).getD 0 > (ns[j]?).getD 0)) k]?).getD 0):=fun z=>hc (decide_eq_true z)
   rw [ih,h1] at hc'
   rw [ih]
   omega
theorem argBest_min (ns:List Int):∀ k,k < ns.length→(ns[argBest (fun i j=>decide ((ns[i]?).getD 0 < (ns[j]?).getD 0)) k]?).getD 0=(ns.take (k + 1)).tail.foldl min ((ns[0]?).getD 0)
 | 0,h=>by
  cases ns with
  | nil=>simp at h
  | cons n r=>simp [argBest]
 | k + 1,h=>by
  have ih:=argBest_min ns k (by omega)
  simp only [argBest]
  have ht:(ns.take (k + 1 + 1)).tail=(ns.take (k + 1)).tail++[ns[k + 1]]:=by
   rw [List.take_succ_eq_append_getElem h]
   cases ns with
   | nil=>simp at h
   | cons n r=>simp
  rw [ht,List.foldl_append]
  simp only [List.foldl_cons,List.foldl_nil]
  generalize hm:List.foldl min ((ns[0]?).getD 0) (ns.take (k + 1)).tail=m at ih ⊢
  have h1:(ns[k + 1]?).getD 0=ns[k + 1]:=by simp [h]
  split
  ·rename_i hc
   have hc':=of_decide_eq_true hc
   rw [ih,h1] at hc'
   rw [h1]
   omega
  ·rename_i hc
   have hc':¬ ((ns[k + 1]?).getD 0 < (ns[argBest (fun i j=>decide ((ns[i]?).getD 0 < (ns[j]?).getD 0)) k]?).getD 0):=fun z=>hc (decide_eq_true z)
   rw [ih,h1] at hc'
   rw [ih]
   omega
theorem b_max1 (hc:X.calm=true) {d:D} {v:V} {u:Value} (I:S0 X pins σ H s ρ S env) (rd:RD X.K ρ H d v) (rv:RelV v u) (nb:bltD .max [d] S≠.bad):wpAny (model X.prog X.w) X.A (call (.builtin "max") [u]) (OkP X pins σ ρ H (bltD .max [d] S)) E s:=by
 simp only [bltD] at nb ⊢
 cases e:seqD S d with
 | none=>rw [e] at nb; exact absurd rfl nb
 | some xs =>
  rw [e] at nb
  simp only [Option.bind_some] at nb ⊢
  cases e2:allInts xs with
  | none=>rw [e2] at nb; exact absurd rfl nb
  | some ns =>
   rw [e2] at nb
   cases ns with
   | nil=>exact absurd rfl nb
   | cons n ns =>
    dsimp only
    have q:=allInts_some e2
    subst q
    obtain ⟨a,ws,its,rfl,hl,hr,hv,hz⟩:=I.seqI e rd rv
    have hw:=hr.ints_of
    subst hw
    have hlen:its.length=(n :: ns).length:=by rw [← hv.length]; simp
    refine call_max_walk (walk_seq (I.inv.ok.hd hc) hl fun It fp wr St s₂ W st hf key=>?_)
    refine ⟨It,fp,wr,_,_,St,fun i j=>decide (((n :: ns)[i]?).getD 0 > ((n :: ns)[j]?).getD 0),rfl,W,st,hf,by rw [hlen]; simp,fun i j vi vj s' Q' E' hi hj hQ=>?_,fun v' h' tk hP hk=>?_⟩
    ·obtain ⟨t,rfl⟩:=vals_int hv hi
     obtain ⟨t',rfl⟩:=vals_int hv hj
     exact gt_int hQ
    ·obtain ⟨t,rfl⟩:=vals_int hv hP
     obtain ⟨e3,k3⟩:=key h' tk hk
     rw [e3]
     have:=argBest_max (n :: ns) (its.length - 1) (by rw [hlen]; simp)
     rw [this,hlen]
     simp only [List.length_cons,Nat.add_sub_cancel,List.take_of_length_le (Nat.le_refl (n :: ns).length),List.tail_cons]
     have e5:List.take (ns.length + 1) (n :: ns)=n :: ns:=by simp
     rw [e5]
     exact fin_i I.sr (I.inv.kept k3)
theorem b_min1 (hc:X.calm=true) {d:D} {v:V} {u:Value} (I:S0 X pins σ H s ρ S env) (rd:RD X.K ρ H d v) (rv:RelV v u) (nb:bltD .min [d] S≠.bad):wpAny (model X.prog X.w) X.A (call (.builtin "min") [u]) (OkP X pins σ ρ H (bltD .min [d] S)) E s:=by
 simp only [bltD] at nb ⊢
 cases e:seqD S d with
 | none=>rw [e] at nb; exact absurd rfl nb
 | some xs =>
  rw [e] at nb
  simp only [Option.bind_some] at nb ⊢
  cases e2:allInts xs with
  | none=>rw [e2] at nb; exact absurd rfl nb
  | some ns =>
   rw [e2] at nb
   cases ns with
   | nil=>exact absurd rfl nb
   | cons n ns =>
    dsimp only
    have q:=allInts_some e2
    subst q
    obtain ⟨a,ws,its,rfl,hl,hr,hv,hz⟩:=I.seqI e rd rv
    have hw:=hr.ints_of
    subst hw
    have hlen:its.length=(n :: ns).length:=by rw [← hv.length]; simp
    refine call_min_walk (walk_seq (I.inv.ok.hd hc) hl fun It fp wr St s₂ W st hf key=>?_)
    refine ⟨It,fp,wr,_,_,St,fun i j=>decide (((n :: ns)[i]?).getD 0 < ((n :: ns)[j]?).getD 0),rfl,W,st,hf,by rw [hlen]; simp,fun i j vi vj s' Q' E' hi hj hQ=>?_,fun v' h' tk hP hk=>?_⟩
    ·obtain ⟨t,rfl⟩:=vals_int hv hi
     obtain ⟨t',rfl⟩:=vals_int hv hj
     exact lt_int hQ
    ·obtain ⟨t,rfl⟩:=vals_int hv hP
     obtain ⟨e3,k3⟩:=key h' tk hk
     rw [e3]
     have:=argBest_min (n :: ns) (its.length - 1) (by rw [hlen]; simp)
     rw [this,hlen]
     have e5:List.take ((n :: ns).length - 1 + 1) (n :: ns)=n :: ns:=by simp
     rw [e5]
     exact fin_i I.sr (I.inv.kept k3)
theorem b_max (hc:X.calm=true):BlR X .max (.builtin "max"):=by
 intro pins s σ H ρ S env ds vs us E I rd rv nb
 match ds,rd,nb with
 | [],_,nb=>exact absurd rfl nb
 | [d],rd,nb =>
  obtain ⟨v,rfl,r1⟩:=rd.one
  cases rv with
  | cons ru rr=>cases rr; exact b_max1 hc I r1 ru nb
 | [d,e],rd,nb =>
  obtain ⟨v,u,rfl,r1,r2⟩:=rd.two
  cases d with
  | int i=>cases e with
   | int j =>
    simp only [RD] at r1 r2; subst r1 r2
    cases rv with
    | cons ru rr=>cases rr with
     | cons rw' rr=>cases rr; exact b_max2 hc I ru rw'
   | _=>exact absurd rfl nb
  | _=>cases e <;> exact absurd rfl nb
 | d :: e :: _ :: _,_,nb=>cases d <;> (try cases e) <;> exact absurd rfl nb
theorem b_min (hc:X.calm=true):BlR X .min (.builtin "min"):=by
 intro pins s σ H ρ S env ds vs us E I rd rv nb
 match ds,rd,nb with
 | [],_,nb=>exact absurd rfl nb
 | [d],rd,nb =>
  obtain ⟨v,rfl,r1⟩:=rd.one
  cases rv with
  | cons ru rr=>cases rr; exact b_min1 hc I r1 ru nb
 | [d,e],rd,nb =>
  obtain ⟨v,u,rfl,r1,r2⟩:=rd.two
  cases d with
  | int i=>cases e with
   | int j =>
    simp only [RD] at r1 r2; subst r1 r2
    cases rv with
    | cons ru rr=>cases rr with
     | cons rw' rr=>cases rr; exact b_min2 hc I ru rw'
   | _=>exact absurd rfl nb
  | _=>cases e <;> exact absurd rfl nb
 | d :: e :: _ :: _,_,nb=>cases d <;> (try cases e) <;> exact absurd rfl nb
noncomputable def MtD (X:Cx) (k:Mt) (id:String):Prop :=
 ∀ (pins:List (Addr×Obj)) (s:Shared) (σ:L2.St) (H:Hp) (ρ:List Addr) (S:Sto) (env:En) (d:D) (v:V) (u:Value) (ds:List D) (vs:List V) (us:List Value) (E:Value→Shared→Prop),S0 X pins σ H s ρ S env→RD X.K ρ H d v→RelV v u→RDs X.K ρ H ds vs→Vals vs us→mthD k d ds S≠.bad →
  wpAny (model X.prog X.w) X.A (call (.builtin id) (u :: us)) (OkP X pins σ ρ H (mthD k d ds S)) E s
theorem fin_chg {n:Nat} {a:Addr} {xs:List D} {vs:List V} {s':Shared} {d:D} {v:V} {u:Value} (I:S0 X pins σ H s ρ S env) (ha:ρ[n]?=some a) (J:Inv X pins σ (upd H a (.lst vs)) s') (rd:RDs X.K ρ H xs vs) (rv:RelV v u) (rdv:RD X.K ρ H d v) :
  OkP X pins σ ρ H (.ok d (S.set n (.lst xs))) u s':=by
 have st:Stp X.K ρ ρ H (upd H a (.lst vs)):=Stp.chg (S:=S) (o:=.lst xs) I.sr ha
 exact .mk st J rv (rdv.mono st) (I.sr.chg ha ⟨vs,upd_same,rd.mono st⟩)
theorem m_append:MtD X .append "list.append" := by
 intro pins s σ H ρ S env d v u ds vs us E I rd rv rds rvs nb
 match d,ds,rds,rd,nb with
 | .ref n,[x],rds,rd,nb =>
  obtain ⟨y,rfl,r1⟩:=rds.one
  simp only [mthD] at nb ⊢
  cases e:Z.lstM S n with
  | none=>rw [e] at nb; exact absurd rfl nb
  | some xs =>
   rw [e] at nb
   dsimp only at nb ⊢
   split at nb
   ·rename_i hz
    rw [if_pos hz]
    obtain ⟨a,ws,rfl,ha,hv,hr⟩:=I.lstR e rd
    refine mtd (Q':=fun z H'=>z=.non∧H'=upd H a (.lst (ws++[y]))) mt_append I.inv rv rvs ⟨a,ws,y,rfl,rfl,hv,by rw [← hr.length]; exact Nat.lt_of_lt_of_le hz big_le,rfl,rfl⟩ fun w s' z H' J rz ⟨e1,e2⟩=>?_
    subst e1 e2
    exact fin_chg I ha J (hr.append (.cons r1 .nil)) rz (by simp only [RD])
   ·exact absurd rfl nb
 | .ref n,[],_,_,nb=>exact absurd rfl nb
 | .ref n,_ :: _ :: _,_,_,nb=>exact absurd rfl nb
 | .non,ds,_,_,nb=>cases ds <;> exact absurd rfl nb
 | .bl _,ds,_,_,nb=>cases ds <;> exact absurd rfl nb
 | .int _,ds,_,_,nb=>cases ds <;> exact absurd rfl nb
 | .str _,ds,_,_,nb=>cases ds <;> exact absurd rfl nb
 | .tup _,ds,_,_,nb=>cases ds <;> exact absurd rfl nb
 | .fro _,ds,_,_,nb=>cases ds <;> exact absurd rfl nb
end
end Z
end
section
namespace Z
open PySem PySem.Spec PyProof.Rows L2
section
variable {X:Cx} {pins:List (Addr×Obj)} {σ:L2.St} {H:Hp} {s:Shared} {ρ:List Addr} {S S':Sto} {env:En} {a b c e:Expr} {f fa fb fc:En→Sto→R D} {pos:Pos}
theorem d_neg (ha:DE X a fa):DE X (.UnaryOp .USub a pos) (fun env S=>(fa env S).bind fun x S=>match x with | .int i=>.ok (.int (-i)) S | _=>.bad):=by
 intro pins s σ H ρ S env I nb
 dsimp only at nb ⊢
 cases q:fa env S with
 | bad=>rw [q] at nb; exact absurd rfl nb
 | ex n S1=>exact UnaryOp_ (ha.ex I q fun x s' z=>⟨n,S1,rfl,z⟩)
 | ok x S1 =>
  rw [q] at nb
  simp only [R.bind_ok] at nb ⊢
  refine UnaryOp_ (ha.ok I q fun u s1 v H1 ρ1 I1 rv rd st1=>?_)
  cases x with
  | int i =>
   simp only [RD] at rd; subst rd
   obtain ⟨t,rfl⟩:=rv
   exact neg_int (OkP.pre st1 (fin_i I1.sr (I1.inv.tok _)))
  | _=>exact absurd rfl nb
theorem dt_ite (hc:DT X c (fun env S=>tst (fc env S))) (ha:DT X a (fun env S=>tst (fa env S))) (hb:DT X b (fun env S=>tst (fb env S))) :
  DT X (.IfExp c a b pos) (fun env S=>tst ((fc env S).bind fun x S=>match truD S x with | some true=>fa env S | some false=>fb env S | none=>.bad)):=by
 intro pins s σ H ρ S env I nb
 dsimp only at nb ⊢
 show wpAny _ _ (do if ← isTrue c X.env (eval c X.env) then isTrue a X.env (eval a X.env) else isTrue b X.env (eval b X.env)) _ _ s
 cases q:fc env S with
 | bad=>rw [q] at nb; exact absurd rfl nb
 | ex n S1=>exact wpAny_bind (hc.ex I (by simp only [q]; rfl) fun x s' z=>⟨n,S1,rfl,z⟩)
 | ok x S1 =>
  rw [q] at nb
  simp only [R.bind_ok] at nb ⊢
  cases t:truD S1 x with
  | none=>rw [t] at nb; exact absurd rfl nb
  | some r =>
   rw [t] at nb
   refine wpAny_bind (hc.ok I (by simp only [q]; exact tst_ok t) fun s2 H2 ρ2 I2 st2=>?_)
   cases r with
   | true=>exact wpAny_mono (ha pins s2 σ H2 ρ2 S1 env I2 nb) (fun w s3 ⟨S3,e3,H3,ρ3,J3,sr3,st3⟩=>⟨S3,e3,H3,ρ3,J3,sr3,st2.trans st3⟩) fun x s' z=>z.pre st2
   | false=>exact wpAny_mono (hb pins s2 σ H2 ρ2 S1 env I2 nb) (fun w s3 ⟨S3,e3,H3,ρ3,J3,sr3,st3⟩=>⟨S3,e3,H3,ρ3,J3,sr3,st2.trans st3⟩) fun x s' z=>z.pre st2
noncomputable def chnR (o1 o2:Co) (fa fb fc:En→Sto→R D) (env:En) (S:Sto):R D:=(fa env S).bind fun x S=>(fb env S).bind fun y S=>match cmpD o1 x y S with
  | some true=>(fc env S).bind fun z S=>cmpR o2 y z S
  | some false=>.ok (.bl false) S
  | none=>.bad
theorem chn_core {o1 o2:Co} {Ev:Value→Shared→Prop} (ho1:Op2 X (compareOp (opC o1)) (cmpR o1)) (ha:DE X a fa) (hb:DE X b fb) (I:S0 X pins σ H s ρ S env) (nb:chnR o1 o2 fa fb fc env S≠.bad)
  {W:Value→Value→Bool→Shared→Prop} (hE:∀ x s',ExP X pins σ ρ H (chnR o1 o2 fa fb fc env S) x s'→Ev x s')
  (hF:∀ v u s3 S2 H2 ρ2,chnR o1 o2 fa fb fc env S=.ok (.bl false) S2→S0 X pins σ H2 s3 ρ2 S2 env→Stp X.K ρ ρ2 H H2→W v u false s3)
  (hT:∀ v u s3 S2 y vy H2 ρ2,chnR o1 o2 fa fb fc env S=((fc env S2).bind fun z S=>cmpR o2 y z S)→S0 X pins σ H2 s3 ρ2 S2 env→RelV vy u→RD X.K ρ2 H2 y vy→Stp X.K ρ ρ2 H H2→W v u true s3) :
  wpAny (model X.prog X.w) X.A (eval a X.env) (fun v s1=>wpAny (model X.prog X.w) X.A (eval b X.env) (fun u s2=>wpAny (model X.prog X.w) X.A (compareOp (opC o1) v u) (fun d s3=>∃ r,d=.bool r∧W v u r s3) Ev s2) Ev s1) Ev s:=by
 cases q:fa env S with
 | bad=>rw [chnR,q] at nb; exact absurd rfl nb
 | ex n S1=>exact ha.ex I q fun x s' z=>hE x s' ⟨n,S1,by rw [chnR,q]; rfl,z⟩
 | ok x S1 =>
  refine ha.ok I q fun v s1 vx H1 ρ1 I1 rv rd st1=>?_
  cases q2:fb env S1 with
  | bad=>rw [chnR,q] at nb; simp only [R.bind_ok] at nb; rw [q2] at nb; exact absurd rfl nb
  | ex n S2=>exact hb.ex I1 q2 fun x s' z=>hE x s' ⟨n,S2,by rw [chnR,q]; simp only [R.bind_ok]; rw [q2]; rfl,z.pre st1⟩
  | ok y S2 =>
   refine hb.ok I1 q2 fun u s2 vy H2 ρ2 I2 ru rdu st2=>?_
   have eq:chnR o1 o2 fa fb fc env S=(match cmpD o1 x y S2 with
     | some true=>(fc env S2).bind fun z S=>cmpR o2 y z S
     | some false=>.ok (.bl false) S2
     | none=>.bad):=by rw [chnR,q]; simp only [R.bind_ok]; rw [q2]; rfl
   cases q3:cmpD o1 x y S2 with
   | none=>rw [eq,q3] at nb; exact absurd rfl nb
   | some r =>
    have e3:cmpR o1 x y S2=.ok (.bl r) S2:=by unfold cmpR; rw [q3]
    refine wpAny_mono (ho1 pins s2 σ H2 ρ2 S2 env x y vx vy v u (fun _ _=>False) I2 (by rw [e3]; exact fun z=>nomatch z) (rd.mono st2) rv rdu ru) (fun d s3 z=>?_) fun _ _ z=>z.elim
    rw [e3] at z
    obtain ⟨d',S3,e4,w,H3,ρ3,J3,rw3,rd3,sr3,st3⟩:=z
    cases e4
    simp only [RD] at rd3
    subst rd3
    cases rw3
    refine ⟨r,rfl,?_⟩
    have I3:S0 X pins σ H3 s3 ρ3 S2 env:=I2.step J3 sr3 st3
    cases r with
    | false=>exact hF v u s3 S2 H3 ρ3 (by rw [eq,q3]) I3 (st1.trans (st2.trans st3))
    | true=>exact hT v u s3 S2 y vy H3 ρ3 (by rw [eq,q3]) I3 ru (rdu.mono st3) (st1.trans (st2.trans st3))
theorem chn_last {o2:Co} {y:D} {vy:V} {u:Value} {W:Value→Shared→Prop} {Ev:Value→Shared→Prop} {ρ0:List Addr} {H0:Hp} (ho2:Op2 X (compareOp (opC o2)) (cmpR o2)) (hc:DE X c fc) (I:S0 X pins σ H s ρ S env) (ru:RelV vy u) (rd:RD X.K ρ H y vy) (st0:Stp X.K ρ0 ρ H0 H)
  (nb:((fc env S).bind fun z S=>cmpR o2 y z S)≠.bad) (hE:∀ x s',ExP X pins σ ρ0 H0 ((fc env S).bind fun z S=>cmpR o2 y z S) x s'→Ev x s')
  (hW:∀ r S3 s3 H3 ρ3,((fc env S).bind fun z S=>cmpR o2 y z S)=.ok (.bl r) S3→S0 X pins σ H3 s3 ρ3 S3 env→Stp X.K ρ0 ρ3 H0 H3→W (.bool r) s3) :
  wpAny (model X.prog X.w) X.A (eval c X.env) (fun w s1=>wpAny (model X.prog X.w) X.A (compareOp (opC o2) u w) W Ev s1) Ev s:=by
 cases q:fc env S with
 | bad=>rw [q] at nb; exact absurd rfl nb
 | ex n S1=>exact hc.ex I q fun x s' z=>hE x s' ⟨n,S1,by rw [q]; rfl,z.pre st0⟩
 | ok z S1 =>
  rw [q] at nb
  simp only [R.bind_ok] at nb
  refine hc.ok I q fun w s1 vz H1 ρ1 I1 rv rdz st1=>?_
  obtain ⟨r,e1,e2⟩:=cmpR_bl nb
  refine wpAny_mono (ho2 pins s1 σ H1 ρ1 S1 env y z vy vz u w (fun _ _=>False) I1 nb (rd.mono st1) ru rdz rv) (fun d s3 zz=>?_) fun _ _ z=>z.elim
  rw [e2] at zz
  obtain ⟨d',S3,e4,w',H3,ρ3,J3,rw3,rd3,sr3,st3⟩:=zz
  cases e4
  simp only [RD] at rd3
  subst rd3
  cases rw3
  exact hW r S1 s3 H3 ρ3 (by rw [q]; exact e2) (I1.step J3 sr3 st3) (st0.trans (st1.trans st3))
theorem d_chn {o1 o2:Co} (ho1:Op2 X (compareOp (opC o1)) (cmpR o1)) (ho2:Op2 X (compareOp (opC o2)) (cmpR o2)) (ha:DE X a fa) (hb:DE X b fb) (hc:DE X c fc) (hm:lastMarks [opC o1,opC o2] [b,c]=false) :
  DE X (.Compare a [opC o1,opC o2] [b,c] pos) (chnR o1 o2 fa fb fc):=by
 intro pins s σ H ρ S env I nb
 refine Compare_chain (wpAny_mono (chn_core (W:=fun v u r s3=>if r=true then wpAny (model X.prog X.w) X.A (compareChain pos u [opC o2] [eval c X.env]) (OkP X pins σ ρ H (chnR o1 o2 fa fb fc env S)) (ExP X pins σ ρ H (chnR o1 o2 fa fb fc env S)) s3 else OkP X pins σ ρ H (chnR o1 o2 fa fb fc env S) (.bool false) s3) ho1 ha hb I nb (fun _ _ z=>z) ?_ ?_)
  (fun v s1 h1=>chain_link (wpAny_mono h1 (fun u s2 h2=>wpAny_mono h2 (fun d s3 ⟨r,e,w⟩=>?_) fun _ _ z=>z) fun _ _ z=>z)) fun _ _ z=>z) hm
 ·intro v u s3 S2 H2 ρ2 e I2 st2
  rw [if_neg Bool.false_ne_true,e]
  exact OkP.pre st2 (fin_b' I2.sr I2.inv)
 ·intro v u s3 S2 y vy H2 ρ2 e I2 ru rd st2
  rw [if_pos rfl]
  refine chain_last (chn_last ho2 hc I2 ru rd st2 (by rw [← e]; exact nb) (fun x s' z=>by rw [e]; exact z) fun r S3 s4 H3 ρ3 e3 I3 st3=>?_)
  rw [e,e3]
  exact OkP.pre st3 (fin_b' I3.sr I3.inv)
 ·subst e
  refine wpAny_truthy_bool ?_
  cases r with
  | true=>rw [if_pos rfl] at w; exact ite_tt w
  | false=>rw [if_neg Bool.false_ne_true] at w; exact ite_ff w
theorem dt_chn {o1 o2:Co} (ho1:Op2 X (compareOp (opC o1)) (cmpR o1)) (ho2:Op2 X (compareOp (opC o2)) (cmpR o2)) (ha:DE X a fa) (hb:DE X b fb) (hc:DE X c fc) (hm:lastMarks [opC o1,opC o2] [b,c]=false) :
  DT X (.Compare a [opC o1,opC o2] [b,c] pos) (fun env S=>tst (chnR o1 o2 fa fb fc env S)):=by
 intro pins s σ H ρ S env I nb
 dsimp only at nb ⊢
 have nb':chnR o1 o2 fa fb fc env S≠.bad:=fun z=>nb (by rw [z]; rfl)
 have ex:∀ x s',ExP X pins σ ρ H (chnR o1 o2 fa fb fc env S) x s'→ExP X pins σ ρ H (tst (chnR o1 o2 fa fb fc env S)) x s':=fun x s' ⟨n,S1,e,z⟩=>⟨n,S1,by rw [e]; rfl,z⟩
 refine isTrue_chain (wpAny_mono (chn_core (W:=fun v u r s3=>if r=true then wpAny (model X.prog X.w) X.A (testChain pos u [opC o2] [eval c X.env]) (fun b s'=>∃ S',tst (chnR o1 o2 fa fb fc env S)=.ok b S'∧∃ H' ρ',Inv X pins σ H' s'∧SR X.K ρ' S' H'∧Stp X.K ρ ρ' H H') (ExP X pins σ ρ H (tst (chnR o1 o2 fa fb fc env S))) s3
   else ∃ S',tst (chnR o1 o2 fa fb fc env S)=.ok false S'∧∃ H' ρ',Inv X pins σ H' s3∧SR X.K ρ' S' H'∧Stp X.K ρ ρ' H H') ho1 ha hb I nb' ex ?_ ?_)
  (fun v s1 h1=>test_link (wpAny_mono h1 (fun u s2 h2=>wpAny_mono h2 (fun d s3 ⟨r,e,w⟩=>?_) fun _ _ z=>z) fun _ _ z=>z)) fun _ _ z=>z) hm
 ·intro v u s3 S2 H2 ρ2 e I2 st2
  rw [if_neg Bool.false_ne_true,e]
  exact ⟨S2,rfl,H2,ρ2,I2.inv,I2.sr,st2⟩
 ·intro v u s3 S2 y vy H2 ρ2 e I2 ru rd st2
  rw [if_pos rfl]
  refine test_last (chn_last ho2 hc I2 ru rd st2 (by rw [← e]; exact nb') (fun x s' z=>ex x s' (by rw [e]; exact z)) fun r S3 s4 H3 ρ3 e3 I3 st3=>?_)
  exact wpAny_truthy_bool ⟨S3,by rw [e,e3]; rfl,H3,ρ3,I3.inv,I3.sr,st3⟩
 ·subst e
  refine wpAny_truthy_bool ?_
  cases r with
  | true=>rw [if_pos rfl] at w; exact ite_tt w
  | false=>rw [if_neg Bool.false_ne_true] at w; exact ite_ff w
variable {x:Str} {p:Pos} {es:List Expr} {g:En→Sto→R (List D)} {k:Bl} {id T:String}
theorem d_bltF (hB:BlR X k (.builtin id)) (hg:Gl X x) (hm:X.mg x=none) (hv:bootBuiltins x=some (.builtin id)) (ha:DA X (e :: es) g) (hn:x ≠ "__name__") (hdb:(x == ("__debug__" : Str))=false)
  (he:starEach (e :: es) X.env=(false,eval e X.env) :: starEach es X.env) (hpl:(backTo pos (starEach es X.env)).any (·.1)=false):DE X (.Call (.Name x p) (e :: es) [] pos) (fun env S=>(g env S).bind fun xs S=>bltD k xs S):=by
 intro pins s σ H ρ S env I nb
 dsimp only at nb ⊢
 refine wpAny_Call_Name_kw (ld_blt I.inv hg hm hv ?_ hn hdb)
 cases q:g env S with
 | bad=>rw [q] at nb; exact absurd rfl nb
 | ex n S1=>exact PyProof.Rows.callWith_builtin1 (ha.ex I q fun x s' z=>⟨n,S1,rfl,z⟩) he hpl
 | ok ds S1 =>
  rw [q] at nb
  refine PyProof.Rows.callWith_builtin1 (ha.ok I q fun us s1 vs H1 ρ1 I1 rv rd st1=>?_) he hpl
  exact wpAny_mono (hB pins s1 σ H1 ρ1 S1 env ds vs us (fun _ _=>False) I1 rd rv nb) (fun w s2 z=>z.pre st1) fun _ _ z=>z.elim
theorem d_bltT (hB:BlR X k (.type T)) (hg:Gl X x) (hm:X.mg x=none) (hv:bootBuiltins x=some (.type T)) (ha:DA X (e :: es) g) (hn:x ≠ "__name__") (hdb:(x == ("__debug__" : Str))=false)
  (he:starEach (e :: es) X.env=(false,eval e X.env) :: starEach es X.env) (hpl:(backTo pos (starEach es X.env)).any (·.1)=false):DE X (.Call (.Name x p) (e :: es) [] pos) (fun env S=>(g env S).bind fun xs S=>bltD k xs S):=by
 intro pins s σ H ρ S env I nb
 dsimp only at nb ⊢
 refine wpAny_Call_Name_kw (ld_blt I.inv hg hm hv ?_ hn hdb)
 cases q:g env S with
 | bad=>rw [q] at nb; exact absurd rfl nb
 | ex n S1=>exact PyProof.Rows.callWith_type1 (ha.ex I q fun x s' z=>⟨n,S1,rfl,z⟩) he hpl
 | ok ds S1 =>
  rw [q] at nb
  refine PyProof.Rows.callWith_type1 (ha.ok I q fun us s1 vs H1 ρ1 I1 rv rd st1=>?_) he hpl
  exact wpAny_mono (hB pins s1 σ H1 ρ1 S1 env ds vs us (fun _ _=>False) I1 rd rv nb) (fun w s2 z=>z.pre st1) fun _ _ z=>z.elim
theorem d_glb {u:Value} {d:D} (hg:Gl X x) (hm:X.mg x=some u) (hd:∀ ρ H,∃ v,RelV v u∧RD X.K ρ H d v) (hdb:(x == ("__debug__" : Str))=false):DE X (.Name x p) (fun _ S=>.ok d S):=by
 intro pins s σ H ρ S env I nb
 obtain ⟨v,rv,rd⟩:=hd ρ H
 exact ld_glob I.inv hg hm (.mk .refl I.inv rv rd I.sr) hdb
theorem d_mthL {m:Mt} {name:Str} {apos cpos:Pos} {o:Expr} {fo:En→Sto→R D} (slot:Slot "list" name id) (hty:typeOf (.builtin id)=pure (.type "method_descriptor")) (hM:MtD X m id) (hr:∀ x S,rcvOk m x S=true→∃ n xs,x=.ref n∧lstAt S n=some xs) (ho:DE X o fo) (ha:DA X (e :: es) g)
  (hbase:attributeBase o name X.env (eval o X.env)=eval o X.env)
  (hfew:((backTo cpos (starEach (e :: es) X.env)).all (fun x=>!x.1) && (backToKw cpos (keywordEach [] X.env)).all (fun x=>x.1.isSome) && decide ((e :: es).length + ([]:List Keyword).length + (if ([]:List Keyword).isEmpty then 0 else 1) < 30))=true)
  (hline:(apos.endLine == cpos.line)=true) (hs:starEach (e :: es) X.env=(false,eval e X.env) :: starEach es X.env) (hplain:(backTo cpos (starEach es X.env)).any (·.1)=false) :
  DE X (.Call (.Attribute o name apos) (e :: es) [] cpos) (fun env S=>(fo env S).bind fun x S=>if rcvOk m x S then (g env S).bind fun xs S=>mthD m x xs S else .bad):=by
 intro pins s σ H ρ S env I nb
 dsimp only at nb ⊢
 cases q:fo env S with
 | bad=>rw [q] at nb; exact absurd rfl nb
 | ex n S1=>exact wpAny_Call_method_late hbase hfew hline rfl (ho.ex I q fun x s' z=>⟨n,S1,rfl,z⟩)
 | ok x S1 =>
  rw [q] at nb
  simp only [R.bind_ok] at nb ⊢
  split at nb
  ·rename_i hk
   rw [if_pos hk]
   obtain ⟨n,xs,rfl,hx⟩:=hr x S1 hk
   refine wpAny_Call_method_late hbase hfew hline rfl (ho.ok I q fun v s1 vx H1 ρ1 I1 rv rd st1=>?_)
   obtain ⟨a,ws,rfl,k1,k2,k3⟩:=I1.lstR hx rd
   cases rv
   obtain ⟨its,_,pl,_⟩:=I1.inv.list (.of k2)
   refine ⟨"list",id,PySem.F.plainAttrs_list,slot,hty,pl.isList.typeIs,fun b eb=>?_,?_⟩
   ·cases eb
    obtain ⟨ob,n',e1,c1,hd,_⟩:=pl
    exact ⟨ob,e1,hd⟩
   ·cases q2:g env S1 with
    | bad=>rw [q2] at nb; exact absurd rfl nb
    | ex k S2 =>
     have hA:=ha.ex (pos:=cpos) (E:=ExP X pins σ ρ H (.ex k S2:R D)) (Q:=fun us s2=>wpAny (model X.prog X.w) X.A (call (.builtin id) (.ref a :: us)) (OkP X pins σ ρ H (.ex k S2)) (ExP X pins σ ρ H (.ex k S2:R D)) s2) I1 q2 fun x s' z=>.mk st1 z
     rw [hs] at hA ⊢
     exact Calls.callWith_builtin (by show (false || (backTo cpos (starEach es X.env)).any (·.1))=false; rw [hplain]; rfl) (Calls.evalArgs_plain hA)
    | ok ds S2 =>
     rw [q2] at nb
     simp only [R.bind_ok] at nb ⊢
     have hA:=ha.ok (pos:=cpos) (E:=ExP X pins σ ρ H (mthD m (.ref n) ds S2)) (Q:=fun us s2=>wpAny (model X.prog X.w) X.A (call (.builtin id) (.ref a :: us)) (OkP X pins σ ρ H (mthD m (.ref n) ds S2)) (ExP X pins σ ρ H (mthD m (.ref n) ds S2)) s2) I1 q2 fun us s2 vs H2 ρ2 I2 rvs rds st2 =>
      wpAny_mono (hM pins s2 σ H2 ρ2 S2 env (.ref n) (.ref a) (.ref a) ds vs us (fun _ _=>False) I2 (rd.mono st2) rfl rds rvs nb) (fun w s3 z=>z.pre (st1.trans st2)) fun _ _ z=>z.elim
     rw [hs] at hA ⊢
     exact Calls.callWith_builtin (by show (false || (backTo cpos (starEach es X.env)).any (·.1))=false; rw [hplain]; rfl) (Calls.evalArgs_plain hA)
  ·exact absurd rfl nb
end
end Z
end
section
namespace Z
open PySem PySem.Spec PyProof.Rows L2
section
variable {X:Cx} {pins:List (Addr×Obj)} {σ:L2.St} {H:Hp} {s:Shared} {ρ:List Addr} {S S':Sto} {env:En}
theorem from_len:∀ (ts:List Str) (k:Nat) (acc:Str),(textFrom k acc ts).length≤acc.length + piled ts
 | [],k,acc=>by simp [textFrom,piled]
 | t :: ts,k,acc=>by
  have ih:=from_len ts (k + 1) (acc++(if k > 0 then ", " else "" : String)++t)
  have e:(Str.ofString (if k > 0 then ", " else "")).length≤2:=by split <;> decide
  rw [textFrom,piled_cons]
  simp only [Str.length_append] at ih
  omega
mutual
theorem shown_le:∀ p:PyData,p.showable=true→dctE p=true→p.shown.length≤szD p
 | .none,_,_=>by simp only [PyData.shown,szD]; decide
 | .bool b,_,_=>by simp only [PyData.shown,szD]; cases b <;> decide
 | .int i,h,_=>by
  simp only [PyData.showable,decide_eq_true_eq] at h
  simp only [PyData.shown,szD]
  have:=int_text_length_le (by decide) h
  rw [PySem.ofString_length]; omega
 | .str x,_,_=>by simp only [PyData.shown,szD]; exact Nat.le_refl _
 | .list xs,h,h2=>by
  simp only [PyData.showable] at h
  simp only [dctE] at h2
  have ih:=shownAll_le xs h h2
  simp only [PyData.shown,szD,listText,Str.length_append]
  have:=from_len (PyData.shownAll xs) 0 "["
  have e1:(Str.ofString "[").length=1:=by decide
  have e2:(Str.ofString "]").length=1:=by decide
  omega
 | .tuple xs,h,h2=>by
  simp only [PyData.showable] at h
  simp only [dctE] at h2
  have ih:=shownAll_le xs h h2
  simp only [PyData.shown,szD,tupleText,Str.length_append]
  have e1:(Str.ofString "(").length=1:=by decide
  have e2:(Str.ofString (if (PyData.shownAll xs).length == 1 then ",)" else ")")).length≤2:=by split <;> decide
  have e3:(Str.join ", " (PyData.shownAll xs)).length≤piled (PyData.shownAll xs):=by
   cases e:PyData.shownAll xs with
   | nil=>decide
   | cons t ts=>have:=join_length_add (t :: ts) (by simp); omega
  omega
 | .dict kvs,_,h2=>by
  simp only [dctE] at h2
  cases kvs with
  | nil=>simp only [PyData.shown,PyData.shownKv,szD]; decide
  | cons x r=>cases h2
theorem shownAll_le:∀ ps:List PyData,PyData.showableAll ps=true→dctEs ps=true→piled (PyData.shownAll ps)≤szDs ps
 | [],_,_=>by simp [PyData.shownAll,szDs,piled]
 | p :: ps,h,h2=>by
  simp only [PyData.showableAll,Bool.and_eq_true] at h
  simp only [dctEs,Bool.and_eq_true] at h2
  have i1:=shown_le p h.1 h2.1
  have i2:=shownAll_le ps h.2 h2.2
  rw [PyData.shownAll,piled_cons,szDs]
  omega
end
theorem b_repr (hsm:∃ o,X.K.lookup sysModules=some o) (hg:X.A.guards=some []) (hu:X.A.units + 200 < cLine):BlR X .repr (.builtin "repr"):=by
 intro pins s σ H ρ S env ds vs us E I rd rv nb
 match ds,rd,nb with
 | [],_,nb=>exact absurd rfl nb
 | d :: _ :: _,_,nb=>cases d <;> exact absurd rfl nb
 | [d],rd,nb =>
  obtain ⟨v,rfl,r1⟩:=rd.one
  obtain ⟨u,rfl,ru⟩:=rv.one
  simp only [bltD] at nb ⊢
  cases e:repD S d with
  | none=>rw [e] at nb; exact absurd rfl nb
  | some t =>
   dsimp only
   unfold repD at e
   cases e1:datD S d with
   | none=>rw [e1] at e; cases e
   | some p =>
    rw [e1] at e
    dsimp only at e
    split at e
    ·rename_i hz
     simp only [Bool.and_eq_true,decide_eq_true_eq] at hz
     obtain ⟨⟨⟨z1,z2⟩,z3⟩,z4⟩:=hz
     cases e
     obtain ⟨as,rr,hoff⟩:=reads_off I hsm e1 r1 ru
     have hsz:p.shown.length≤sizeLine:=le_line (Nat.le_trans (shown_le p z1 z2) z4)
     have ref:∀ a,u=.ref a→wpAny (model X.prog X.w) X.A (call (.builtin "repr") [u]) (OkP X pins σ ρ H (.ok (.str p.shown) S)) E s:=fun a ea=>by
      subst ea
      exact repr_of_reads' rr z1 (fun _=>hoff) hg (by omega) (fun _ _ q=>q) (fun h' u tk hk=>fin_s I.sr (I.inv.kept hk)) hsz
     cases rr with
     | none=>exact PySem.P.repr_of_none (fin_s I.sr (I.inv.tok _))
     | bool b=>exact PySem.P.repr_of_bool (by cases b <;> exact fin_s I.sr (I.inv.tok _))
     | int i t=>exact PySem.P.repr_of_int (by simpa only [PyData.showable,decide_eq_true_eq] using z1) (fin_s I.sr (I.inv.tok _))
     | str x t=>exact PySem.P.repr_of_str (fin_s I.sr (I.inv.tok _)) hsz
     | _=>exact ref _ rfl
    ·cases e
theorem b_int:BlR X .int (.type "int"):=by
 intro pins s σ H ρ S env ds vs us E I rd rv nb
 match ds,rd,nb with
 | [],_,nb=>exact absurd rfl nb
 | d :: _ :: _,_,nb=>cases d <;> exact absurd rfl nb
 | [d],rd,nb =>
  obtain ⟨v,rfl,r1⟩:=rd.one
  obtain ⟨u,rfl,ru⟩:=rv.one
  cases d with
  | bl b =>
   simp only [RD] at r1; subst r1
   cases ru
   simp only [bltD]
   refine call_int_bool ?_
   cases b <;> exact fin_i I.sr (I.inv.tok _)
  | _=>exact absurd rfl nb
theorem insI_perm (x:Int):∀ l:List Int,(insI x l).Perm (x :: l)
 | []=>.refl _
 | y :: r=>by
  simp only [insI]
  split
  ·exact .refl _
  ·exact (List.Perm.cons y (insI_perm x r)).trans (List.Perm.swap x y r)
theorem srtI_perm:∀ l:List Int,(srtI l).Perm l
 | []=>.refl _
 | x :: r=>(insI_perm x (srtI r)).trans (List.Perm.cons x (srtI_perm r))
theorem insI_pw (x:Int):∀ l:List Int,l.Pairwise (·≤·)→(insI x l).Pairwise (·≤·)
 | [],_=>by simp [insI]
 | y :: r,h=>by
  have ⟨h1,h2⟩:=List.pairwise_cons.mp h
  simp only [insI]
  split
  ·rename_i e
   refine List.pairwise_cons.mpr ⟨fun z hz=>?_,h⟩
   rcases List.mem_cons.mp hz with rfl | hz
   ·exact e
   ·exact Int.le_trans e (h1 z hz)
  ·rename_i e
   refine List.pairwise_cons.mpr ⟨fun z hz=>?_,insI_pw x r h2⟩
   rcases List.mem_cons.mp ((insI_perm x r).mem_iff.mp hz) with rfl | hz
   ·omega
   ·exact h1 z hz
theorem srtI_pw:∀ l:List Int,(srtI l).Pairwise (·≤·)
 | []=>List.Pairwise.nil
 | x :: r=>insI_pw x _ (srtI_pw r)
theorem ints_vals:∀ {ns:List Int} {us:List Value},Vals (ns.map V.int) us→IntsAre us ns
 | [],_,.nil=>.nil
 | n :: ns,_,.cons r t=>by obtain ⟨k,rfl⟩:=r; exact .cons n k (ints_vals t)
theorem vals_ints:∀ {ns:List Int} {us:List Value},IntsAre us ns→Vals (ns.map V.int) us
 | [],_,.nil=>.nil
 | _ :: ns,_,.cons n k t=>.cons ⟨_,rfl⟩ (vals_ints t)
theorem rds_ints {K:PySem.W.Frag} {ρ:List Addr} {H:Hp}:∀ ns:List Int,RDs K ρ H (ns.map D.int) (ns.map V.int)
 | []=>by simp only [List.map,RDs]
 | n :: ns=>by simp only [List.map,RDs]; exact ⟨_,_,rfl,by simp only [RD],rds_ints ns⟩
theorem b_sorted:BlR X .sorted (.builtin "sorted"):=by
 intro pins s σ H ρ S env ds vs us E I rd rv nb
 match ds,rd,nb with
 | [],_,nb=>exact absurd rfl nb
 | d :: _ :: _,_,nb=>cases d <;> exact absurd rfl nb
 | [d],rd,nb =>
  obtain ⟨v,rfl,r1⟩:=rd.one
  obtain ⟨u,rfl,ru⟩:=rv.one
  simp only [bltD] at nb ⊢
  cases e:seqD S d with
  | none=>rw [e] at nb; exact absurd rfl nb
  | some xs =>
   rw [e] at nb
   simp only [Option.bind_some] at nb ⊢
   cases e2:allInts xs with
   | none=>rw [e2] at nb; exact absurd rfl nb
   | some ns =>
    rw [e2] at nb
    dsimp only at nb ⊢
    split at nb
    ·rename_i hz
     rw [if_pos hz]
     simp only [Bool.and_eq_true,decide_eq_true_eq] at hz
     have q:=allInts_some e2
     subst q
     cases d with
     | ref n =>
      obtain ⟨a,ws,rfl,ha,hv,hr⟩:=I.lstR e r1
      obtain ⟨hle,its,k,rvs,eo⟩:=(show ObjOk X.prog X.w H s.heap a (.lst ws) from I.inv.hok a _ hv)
      have hw:=hr.ints_of
      subst hw
      cases ru
      have hI:=ints_vals rvs
      have hlen:its.length=ns.length:=by rw [← rvs.length]; simp
      refine sorted_ints ⟨_,eo,rfl,k,rfl⟩ hI (by omega) fun out ns' a1 a2 a3=>?_
      have hns:ns'=srtI ns:=PySem.W.ksm_same (a2.trans (srtI_perm ns).symm) a3 (srtI_pw ns)
      subst hns
      obtain ⟨e3,he3⟩:=sortedAll_at s.heap its out
      have hnew:s.heap.objs.size≤s.heap.objs.size + 1:=Nat.le_succ _
      have J:=I.inv.laid (o:=.lst ((srtI ns).map V.int)) (t':=s.toks) (h':=sortedAll s.heap its out) (fun b u hb=>sortedAll_old hb) hnew
       ⟨by rw [List.length_map,(srtI_perm ns).length_eq]; simpa using hle,out.toList,e3,vals_ints a1,by simpa [seqObj] using he3⟩
      exact fin_lst J (I.inv.hok.fresh hnew) I.sr (rds_ints _)
     | _=>cases hz.1
    ·exact absurd rfl nb
theorem vals_bls:∀ {bs:List Bool} {us:List Value},Vals (bs.map V.bl) us→us=bs.map Value.bool
 | [],_,.nil=>rfl
 | b :: bs,_,.cons r t=>by cases r; rw [vals_bls t]; rfl
theorem rds_bls {K:PySem.W.Frag} {ρ:List Addr} {H:Hp}:∀ {bs:List Bool} {ws:List V},RDs K ρ H (bs.map D.bl) ws→ws=bs.map V.bl
 | [],ws,h=>by simp only [List.map,RDs] at h; exact h
 | b :: bs,ws,h=>by
  simp only [List.map,RDs] at h
  obtain ⟨v,r,rfl,h1,h2⟩:=h
  simp only [RD] at h1
  subst h1
  rw [rds_bls h2]; rfl
theorem bls_at (I:S0 X pins σ H s ρ S env) {n:Nat} {xs:List D} {bs:List Bool} {v:V} (h:lstAt S n=some xs) (hb:allBls xs=some bs) (r:RD X.K ρ H (.ref n) v):∃ a k,v=.ref a∧s.heap.get? a=some { cls:=.type "list",data:=.seq (bs.map Value.bool).toArray k }:=by
 obtain ⟨a,ws,rfl,ha,hv,hr⟩:=I.lstR h r
 obtain ⟨_,its,k,rv,e⟩:=(show ObjOk X.prog X.w H s.heap a (.lst ws) from I.inv.hok a _ hv)
 have e1:=allBls_some hb
 subst e1
 have e2:=rds_bls hr
 subst e2
 rw [vals_bls rv] at e
 exact ⟨a,k,rfl,e⟩
theorem mth_bl {k:Mt} (hk:k=.count∨k=.index) {d:D} {ds:List D} {S:Sto} (nb:mthD k d ds S≠.bad):∃ n b,d=.ref n∧ds=[.bl b]:=by
 rcases hk with rfl | rfl <;> (
  cases d with
  | ref n =>
   cases ds with
   | nil=>exact absurd rfl nb
   | cons x r =>
    cases r with
    | nil =>
     cases x with
     | bl b=>exact ⟨n,b,rfl,rfl⟩
     | _=>exact absurd rfl nb
    | cons _ _=>cases x <;> exact absurd rfl nb
  | _=>cases ds <;> exact absurd rfl nb)
theorem m_count:MtD X .count "list.count" := by
 intro pins s σ H ρ S env d v u ds vs us E I rd rv rds rvs nb
 obtain ⟨n,b,rfl,rfl⟩:=mth_bl (.inl rfl) nb
 obtain ⟨y,rfl,r1⟩:=rds.one
 simp only [RD] at r1; subst r1
 obtain ⟨w,rfl,rw1⟩:=rvs.one
 cases rw1
 simp only [mthD] at nb ⊢
 cases e:lstAt S n with
 | none=>rw [e] at nb; exact absurd rfl nb
 | some xs =>
  rw [e] at nb
  simp only [Option.bind_some] at nb ⊢
  cases e2:allBls xs with
  | none=>rw [e2] at nb; exact absurd rfl nb
  | some bs =>
   dsimp only
   obtain ⟨a,k,rfl,ha⟩:=bls_at I e e2 rd
   cases rv
   refine call_meets PySem.F.slot_list_count ⟨_,ha,rfl⟩ PySem.F.entry_list_count (PySem.F.args_list_count_2 _ _) (SeqAt.list_countAt a _ k none #[] (.bool b) fun y=>match y with | .bool c=>c == b | _=>false) ⟨ha,fun y hy=>?_,?_⟩
   ·have hy':y∈bs.map Value.bool:=by simpa using hy
    obtain ⟨c,_,rfl⟩:=List.mem_map.mp hy'
    exact SeqAt.EqAt.bool_bool c b
   ·have ec:(bs.map Value.bool).countP (fun y=>match y with | .bool c=>c == b | _=>false)=bs.countP (· == b):=by rw [List.countP_map]; rfl
    simp only [List.toList_toArray] at *
    rw [ec]
    exact fin_i I.sr (I.inv.tok _)
theorem m_index:MtD X .index "list.index" := by
 intro pins s σ H ρ S env d v u ds vs us E I rd rv rds rvs nb
 obtain ⟨n,b,rfl,rfl⟩:=mth_bl (.inr rfl) nb
 obtain ⟨y,rfl,r1⟩:=rds.one
 simp only [RD] at r1; subst r1
 obtain ⟨w,rfl,rw1⟩:=rvs.one
 cases rw1
 simp only [mthD] at nb ⊢
 cases e:lstAt S n with
 | none=>rw [e] at nb; exact absurd rfl nb
 | some xs =>
  rw [e] at nb
  simp only [Option.bind_some] at nb ⊢
  cases e2:allBls xs with
  | none=>rw [e2] at nb; exact absurd rfl nb
  | some bs =>
   rw [e2] at nb
   dsimp only at nb ⊢
   cases e3:bs.findIdx? (· == b) with
   | none=>rw [e3] at nb; exact absurd rfl nb
   | some i =>
    dsimp only
    obtain ⟨a,k,rfl,ha⟩:=bls_at I e e2 rd
    cases rv
    obtain ⟨hi,h1,h2⟩:=List.findIdx?_eq_some_iff_getElem.mp e3
    have hsz:bs.length≤sizeLine:=by
     obtain ⟨a',ws,_,_,hv,hr⟩:=I.lstR e rd
     obtain ⟨z,_⟩:=(show ObjOk X.prog X.w H s.heap a' (.lst ws) from I.inv.hok a' _ hv)
     rw [← hr.length,allBls_some e2,List.length_map] at z
     exact z
    have hsm:(i:Int) < 2 ^ 63 - 1:=by
     have:sizeLine < 2 ^ 62:=by decide
     have e62:(2:Int) ^ 63 - 1=9223372036854775807:=by decide
     have e63:(2:Nat) ^ 62=4611686018427387904:=by decide
     omega
    refine call_meets PySem.F.slot_list_index ⟨_,ha,rfl⟩ PySem.F.entry_list_index (PySem.F.args_list_index_2 _ _) (SeqAt.list_indexAt a (bs.map Value.bool).toArray k none #[] (.bool b) (fun y=>match y with | .bool c=>c == b | _=>false) i (by simpa using hi) hsm (by simpa using h1) fun m hm hlt=>?_) ⟨ha,fun y hy=>?_,fin_i I.sr (I.inv.tok _)⟩
    ·have:=h2 m hlt
     simpa using this
    ·have hy':y∈bs.map Value.bool:=by simpa using hy
     obtain ⟨c,_,rfl⟩:=List.mem_map.mp hy'
     exact SeqAt.EqAt.bool_bool c b
end
end Z
end
section
namespace Z
open PySem PySem.Spec PyProof.Rows L2
noncomputable def visB (sc:Scope) (x:Str):Bool:=match sc.names.lookup x with
 | some .local=>true
 | some .cell=>true
 | some .free=>true
 | _=>false
noncomputable def glB (sc:Scope) (x:Str):Bool:=match sc.names.lookup x with
 | some .globalImplicit=>true
 | _=>false
noncomputable def locB (top:Bool) (sc:Scope) (x:Str):Bool:=match sc.names.lookup x with
 | some .local=>true
 | some .cell=>top
 | _=>false
noncomputable def okNm (x:Str):Bool:=!(x == ("__debug__" : Str)) && !(x == ("__classdict__" : Str)) && !decide (x = "__name__")
theorem visB_ok {sc:Scope} {x:Str} (h:visB sc x=true):Vis sc x:=by
 unfold visB at h
 split at h
 ·exact .inl (by assumption)
 ·exact .inr (.inl (by assumption))
 ·exact .inr (.inr (by assumption))
 ·cases h
theorem glB_ok {X:Cx} {sc:Scope} {x:Str} (hs:X.env.scope=sc) (h:glB sc x=true):Gl X x:=by
 subst hs
 unfold glB at h
 split at h
 ·assumption
 ·cases h
theorem locB_ok {X:Cx} {top:Bool} {sc:Scope} {x:Str} (hs:X.env.scope=sc) (ht:top=true→∀ x,X.fn x=true) (h:locB top sc x=true):Loc X.env.scope x∧(X.fn x=true∨X.env.scope.names.lookup x=some .local):=by
 subst hs
 unfold locB at h
 split at h
 ·exact ⟨.inl (by assumption),.inr (by assumption)⟩
 ·exact ⟨.inr (by assumption),.inl (ht h x)⟩
 ·cases h
theorem okNm_ok {x:Str} (h:okNm x=true):(x == ("__debug__" : Str))=false∧(x == ("__classdict__" : Str))=false∧x ≠ "__name__" := by
 simp only [okNm,Bool.and_eq_true,Bool.not_eq_true',decide_eq_false_iff_not] at h
 exact ⟨h.1.1,h.1.2,h.2⟩
noncomputable def noStar:Expr→Bool
 | .Starred _ _=>false
 | _=>true
theorem star_cons {e:Expr} {es:List Expr} {env:PySem.Env} (h:noStar e=true):starEach (e :: es) env=(false,eval e env) :: starEach es env:=by
 cases e <;> first | rfl | cases h
theorem star_any {es:List Expr} {env:PySem.Env} {pos:Pos} (h:es.all noStar=true):(backTo pos (starEach es env)).any (·.1)=false:=by
 induction es with
 | nil=>rfl
 | cons e es ih =>
  rw [List.all_cons,Bool.and_eq_true] at h
  rw [star_cons h.1]
  show (false || (backTo pos (starEach es env)).any (·.1))=false
  rw [ih h.2]; rfl
theorem star_all {es:List Expr} {env:PySem.Env} {pos:Pos} (h:es.all noStar=true):(backTo pos (starEach es env)).all (fun x=>!x.1)=true:=by
 induction es with
 | nil=>rfl
 | cons e es ih =>
  rw [List.all_cons,Bool.and_eq_true] at h
  rw [star_cons h.1]
  show (true && (backTo pos (starEach es env)).all (fun x=>!x.1))=true
  rw [ih h.2]; rfl
noncomputable def noSlice:Expr→Bool
 | .Name _ _=>true
 | .Constant _ _ _=>true
 | .BinOp _ _ _ _=>true
 | .UnaryOp _ _ _=>true
 | .Call _ _ _ _=>true
 | .Subscript _ _ _=>true
 | .IfExp _ _ _ _=>true
 | .Compare _ _ _ _=>true
 | _=>false
theorem noSlice_ok {b:Expr} (h:noSlice b=true):PlainIx b:=by
 cases b <;> first | (intro o i; rfl) | cases h
noncomputable def noSet:Expr→Bool
 | .Set _ _ _=>false
 | _=>true
theorem noSet_ok {e:Expr} {env:PySem.Env} (h:noSet e=true) (x:Value):foldedSetIterable e env x=pure x:=by
 cases e <;> first | rfl | cases h
noncomputable def rcvE:Expr→Bool
 | .Name _ _=>true
 | .Constant _ _ _=>true
 | _=>false
theorem rcvE_ok {o:Expr} {name:Str} {env:PySem.Env} (h:rcvE o=true):attributeBase o name env (eval o env)=eval o env:=by
 cases o <;> first | rfl | cases h
noncomputable def isCo (c:Co) (o:CmpOp):Bool:=decide (o=opC c)
theorem isCo_ok {c:Co} {o:CmpOp} (h:isCo c o=true):o=opC c:=of_decide_eq_true h
noncomputable def isBo (c:Bo) (o:Operator):Bool:=decide (o=opB c)
theorem isBo_ok {c:Bo} {o:Operator} (h:isBo c o=true):o=opB c:=of_decide_eq_true h
noncomputable def cstB:D→Const→Bool
 | .int i,.int j=>i == j
 | .bl i,.bool j=>i == j
 | .non,.none=>true
 | .str i,.str j=>decide (i=j)
 | _,_=>false
noncomputable def blNm:Bl→Option (Str×Bool×String)
 | .len=>some ("len",true,"len")
 | .tuple=>some ("tuple",false,"tuple")
 | .list=>some ("list",false,"list")
 | .all=>some ("all",true,"all")
 | .any=>some ("any",true,"any")
 | .sum=>some ("sum",true,"sum")
 | .max=>some ("max",true,"max")
 | .min=>some ("min",true,"min")
 | .repr=>some ("repr",true,"repr")
 | .int=>some ("int",false,"int")
 | .sorted=>some ("sorted",true,"sorted")
 | _=>none
noncomputable def quiB:Bl→Bool
 | .len=>true
 | .tuple=>true
 | .list=>true
 | .repr=>true
 | .int=>true
 | .sorted=>true
 | _=>false
noncomputable def varT:Tg→Bool
 | .var _=>true
 | _=>false
noncomputable def tyB (sc:Scope) (t:Ty) (nm:Str):Bool:=match t with
 | .cls c=>decide (clsNm c=some nm)
 | .int=>decide (nm = "int")
 | .bool=>decide (nm = "bool")
 | .str=>decide (nm = "str")
 | .tuple=>decide (nm = "tuple")
 | .list=>decide (nm = "list")
 | .dict=>decide (nm = "dict")
 | .valueError=>decide (nm = "ValueError")
noncomputable def bltT:Ty→Bool
 | .cls _=>false
 | .valueError=>false
 | _=>true
noncomputable def tyM (sc:Scope) (ts:List Ty) (y:Expr):Bool:=match y with
 | .Name nm _=>glB sc nm && okNm nm && (match ts with | [t]=>tyB sc t nm | _=>false)
 | .Tuple ys _ _=>(match ys with
  | [.Name n1 _,.Name n2 _]=>glB sc n1 && okNm n1 && glB sc n2 && okNm n2 && (match ts with | [t1,t2]=>bltT t1 && bltT t2 && tyB sc t1 n1 && tyB sc t2 n2 | _=>false)
  | _=>false)
 | _=>false
noncomputable def mtNm:Mt→Option Str
 | .append=>some "append"
 | .count=>some "count"
 | .index=>some "index"
 | _=>none
noncomputable def relS (scope sc:Scope):Scope:={ scope with names:=scope.names.map fun (n,k)=>if (k == .free && sc.kind == .function && sc.names.lookup n == some .cell) then (n,.cell) else (n,k) }
noncomputable def owns (scope:Scope):List Str:=scope.names.filterMap fun x=>match x.2 with
 | .local=>some x.1
 | _=>none
noncomputable def isFn (k:ScopeKind):Bool:=match k with
 | .function=>true
 | _=>false
theorem isFn_ok {k:ScopeKind} (h:isFn k=true):k=.function:=by cases k <;> first | rfl | cases h
noncomputable def cellOr (k:Option NameKind):Bool:=match k with
 | some .cell=>true
 | some .free=>true
 | _=>false
noncomputable def notCell (k:NameKind):Bool:=match k with
 | .cell=>false
 | _=>true
noncomputable def isLoc (k:Option NameKind):Bool:=match k with
 | some .local=>true
 | _=>false
noncomputable def nodupB:List Str→Bool
 | []=>true
 | x :: r=>!(r.contains x) && nodupB r
theorem nodupB_ok:∀ {l:List Str},nodupB l=true→l.Nodup
 | [],_=>List.nodup_nil
 | x :: r,h=>by
  simp only [nodupB,Bool.and_eq_true,Bool.not_eq_true',List.contains_eq_mem] at h
  exact List.nodup_cons.mpr ⟨by simpa using h.1,nodupB_ok h.2⟩
noncomputable def scB (outer sc:Scope) (N:List Str):Bool :=
 isFn sc.kind && isFn outer.kind && nodupB (blkN N (owns sc)) && sc.names.all (fun y=>notCell y.2) &&
 sc.names.all (fun y=>match y.2 with | .free=>cellOr (outer.names.lookup y.1) | .local=>isLoc (sc.names.lookup y.1) | _=>true) &&
 N.all (fun y=>!((owns sc).contains y) || (sc.names.lookup (Str.ofString "0" ++ y)).isNone)
theorem scB_ok {outer sc:Scope} {N:List Str} (h:scB outer sc N=true):ScOk outer sc N (owns sc):=by
 simp only [scB,Bool.and_eq_true] at h
 obtain ⟨⟨⟨⟨⟨h1,h2⟩,h3⟩,h4⟩,h5⟩,h6⟩:=h
 have hloc:∀ x∈sc.names,x.2=.local→sc.names.lookup x.1=some .local:=fun x hx hl=>by
  have:=List.all_eq_true.mp h5 x hx
  rw [hl] at this
  dsimp only at this
  unfold isLoc at this
  split at this
  ·assumption
  ·cases this
 refine ⟨isFn_ok h1,isFn_ok h2,nodupB_ok h3,fun y hy hk=>?_,fun y hy hf=>?_,fun y hy=>?_,fun y hy=>?_,hloc,fun y hy hc=>?_⟩
 ·have:=List.all_eq_true.mp h4 y hy
  rw [hk] at this
  cases this
 ·have:=List.all_eq_true.mp h5 y hy
  rw [hf] at this
  dsimp only at this
  unfold cellOr at this
  split at this
  ·exact .inl (by assumption)
  ·exact .inr (by assumption)
  ·cases this
 ·exact List.mem_filterMap.mpr ⟨(y,.local),lookup_mem hy,rfl⟩
 ·obtain ⟨x,hx,e⟩:=List.mem_filterMap.mp hy
  obtain ⟨n,k⟩:=x
  cases k with
  | «local» =>
   have e':n=y:=Option.some.inj e
   subst e'
   exact hloc (n,.local) hx rfl
  | _=>cases e
 ·have:=List.all_eq_true.mp h6 y hy
  rw [hc] at this
  simp only [Bool.not_true,Bool.false_or,Option.isNone_iff_eq_none] at this
  exact this
noncomputable def needT:It→Bool
 | .zip _=>true
 | .enm _=>true
 | _=>false
noncomputable def tgIt (t:Tg) (it:It):Bool:=!needT it || !varT t
noncomputable def calE:Expr→Bool
 | .Name _ _=>true
 | .Subscript _ _ _=>true
 | _=>false
noncomputable def mnC (i:Int) (e:Expr):Bool:=match e with
 | .UnaryOp .USub x _=>(match x with
  | .Constant (.int j) _ _=>i == j
  | _=>false)
 | _=>false
noncomputable def isRv (i:Int) (l:Option Int) (e:Expr):Bool:=match e with
 | .Slice lo none (some st) _=>mnC i st && (match l,lo with
  | none,none=>true
  | some k,some x=>mnC k x
  | _,_=>false)
 | _=>false
theorem any_some {α:Type} {o:Option α} {p:α→Bool} (h:o.any p=true):∃ x,o=some x∧p x=true:=by
 cases o with
 | none=>cases h
 | some x=>exact ⟨x,rfl,h⟩
noncomputable def vNm (e:Expr):Option Str:=match e with
 | .Name x _=>some x
 | _=>none
theorem vNm_ok {e:Expr} {x:Str} (h:vNm e=some x):∃ p,e=.Name x p:=by
 unfold vNm at h
 split at h
 ·cases h; exact ⟨_,rfl⟩
 ·cases h
noncomputable def vCst (e:Expr):Option Const:=match e with
 | .Constant c _ _=>some c
 | _=>none
theorem vCst_ok {e:Expr} {x:Const} (h:vCst e=some x):∃ k p,e=.Constant x k p:=by
 unfold vCst at h
 split at h
 ·cases h; exact ⟨_,_,rfl⟩
 ·cases h
noncomputable def vUn (e:Expr):Option (UnaryOp×Expr):=match e with
 | .UnaryOp o x _=>some (o,x)
 | _=>none
theorem vUn_ok {e:Expr} {z:UnaryOp×Expr} (h:vUn e=some z):∃ p,e=.UnaryOp z.1 z.2 p:=by
 unfold vUn at h
 split at h
 ·cases h; exact ⟨_,rfl⟩
 ·cases h
noncomputable def isUS (o:UnaryOp):Bool:=decide (o=.USub)
theorem isUS_ok {o:UnaryOp} (h:isUS o=true):o=.USub:=of_decide_eq_true h
noncomputable def isNt (o:UnaryOp):Bool:=decide (o=.Not)
theorem isNt_ok {o:UnaryOp} (h:isNt o=true):o=.Not:=of_decide_eq_true h
noncomputable def vTup (e:Expr):Option (List Expr):=match e with
 | .Tuple xs _ _=>some xs
 | _=>none
theorem vTup_ok {e:Expr} {x:List Expr} (h:vTup e=some x):∃ k p,e=.Tuple x k p:=by
 unfold vTup at h
 split at h
 ·cases h; exact ⟨_,_,rfl⟩
 ·cases h
noncomputable def vLst (e:Expr):Option (List Expr):=match e with
 | .List xs _=>some xs
 | _=>none
theorem vLst_ok {e:Expr} {x:List Expr} (h:vLst e=some x):∃ p,e=.List x p:=by
 unfold vLst at h
 split at h
 ·cases h; exact ⟨_,rfl⟩
 ·cases h
noncomputable def vBin (e:Expr):Option (Expr×Operator×Expr):=match e with
 | .BinOp x o y _=>some (x,o,y)
 | _=>none
theorem vBin_ok {e:Expr} {z:Expr×Operator×Expr} (h:vBin e=some z):∃ p,e=.BinOp z.1 z.2.1 z.2.2 p:=by
 unfold vBin at h
 split at h
 ·cases h; exact ⟨_,rfl⟩
 ·cases h
noncomputable def one1 {α:Type} (l:List α):Option α:=match l with
 | [x]=>some x
 | _=>none
theorem one1_ok {α:Type} {l:List α} {x:α} (h:one1 l=some x):l=[x]:=by
 unfold one1 at h
 split at h
 ·cases h; rfl
 ·cases h
noncomputable def two1 {α:Type} (l:List α):Option (α×α):=match l with
 | [x,y]=>some (x,y)
 | _=>none
theorem two1_ok {α:Type} {l:List α} {z:α×α} (h:two1 l=some z):l=[z.1,z.2]:=by
 unfold two1 at h
 split at h
 ·cases h; rfl
 ·cases h
noncomputable def vCmp (e:Expr):Option (Expr×List CmpOp×List Expr):=match e with
 | .Compare x os ys _=>some (x,os,ys)
 | _=>none
theorem vCmp_ok {e:Expr} {z:Expr×List CmpOp×List Expr} (h:vCmp e=some z):∃ p,e=.Compare z.1 z.2.1 z.2.2 p:=by
 unfold vCmp at h
 split at h
 ·cases h; exact ⟨_,rfl⟩
 ·cases h
noncomputable def vBoo (e:Expr):Option (BoolOp×List Expr×Pos):=match e with
 | .BoolOp o xs p=>some (o,xs,p)
 | _=>none
theorem vBoo_ok {e:Expr} {z:BoolOp×List Expr×Pos} (h:vBoo e=some z):e=.BoolOp z.1 z.2.1 z.2.2:=by
 unfold vBoo at h
 split at h
 ·cases h; rfl
 ·cases h
noncomputable def opA (an:Bool):BoolOp:=if an then .And else .Or
noncomputable def isAn (an:Bool) (o:BoolOp):Bool:=decide (o=opA an)
theorem isAn_ok {an:Bool} {o:BoolOp} (h:isAn an o=true):o=opA an:=of_decide_eq_true h
noncomputable def cutB (an:Bool) (p:Pos) (l:List Expr):Option (Expr×Expr):=match l with
 | [x,y]=>some (x,y)
 | x :: y :: z :: r=>some (x,.BoolOp (opA an) (y :: z :: r) p)
 | _=>none
theorem cutB_ok {an:Bool} {p:Pos} {l:List Expr} {z:Expr×Expr} (h:cutB an p l=some z):l=[z.1,z.2]∨∃ y y2 r,l=z.1 :: y :: y2 :: r∧z.2=.BoolOp (opA an) (y :: y2 :: r) p:=by
 unfold cutB at h
 split at h
 ·cases h; exact .inl rfl
 ·cases h; exact .inr ⟨_,_,_,rfl,rfl⟩
 ·cases h
noncomputable def vIf (e:Expr):Option (Expr×Expr×Expr):=match e with
 | .IfExp x y z _=>some (x,y,z)
 | _=>none
theorem vIf_ok {e:Expr} {z:Expr×Expr×Expr} (h:vIf e=some z):∃ p,e=.IfExp z.1 z.2.1 z.2.2 p:=by
 unfold vIf at h
 split at h
 ·cases h; exact ⟨_,rfl⟩
 ·cases h
noncomputable def vSub (e:Expr):Option (Expr×Expr):=match e with
 | .Subscript x y _=>some (x,y)
 | _=>none
theorem vSub_ok {e:Expr} {z:Expr×Expr} (h:vSub e=some z):∃ p,e=.Subscript z.1 z.2 p:=by
 unfold vSub at h
 split at h
 ·cases h; exact ⟨_,rfl⟩
 ·cases h
noncomputable def vSli (e:Expr):Option (Option Expr×Option Expr):=match e with
 | .Slice l h none _=>some (l,h)
 | _=>none
theorem vSli_ok {e:Expr} {z:Option Expr×Option Expr} (h:vSli e=some z):∃ p,e=.Slice z.1 z.2 none p:=by
 unfold vSli at h
 split at h
 ·cases h; exact ⟨_,rfl⟩
 ·cases h
noncomputable def vCal (e:Expr):Option (Expr×Expr×List Expr×Pos):=match e with
 | .Call f (y :: ys) [] p=>some (f,y,ys,p)
 | _=>none
theorem vCal_ok {e:Expr} {z:Expr×Expr×List Expr×Pos} (h:vCal e=some z):e=.Call z.1 (z.2.1 :: z.2.2.1) [] z.2.2.2:=by
 unfold vCal at h
 split at h
 ·cases h; rfl
 ·cases h
noncomputable def vAtt (e:Expr):Option (Expr×Str×Pos):=match e with
 | .Attribute o nm p=>some (o,nm,p)
 | _=>none
theorem vAtt_ok {e:Expr} {z:Expr×Str×Pos} (h:vAtt e=some z):e=.Attribute z.1 z.2.1 z.2.2:=by
 unfold vAtt at h
 split at h
 ·cases h; rfl
 ·cases h
noncomputable def vLC (e:Expr):Option (Expr×List Comprehension×Scope):=match e with
 | .ListComp e gens scope _=>some (e,gens,scope)
 | _=>none
theorem vLC_ok {e:Expr} {z:Expr×List Comprehension×Scope} (h:vLC e=some z):∃ p,e=.ListComp z.1 z.2.1 z.2.2 p:=by
 unfold vLC at h
 split at h
 ·cases h; exact ⟨_,rfl⟩
 ·cases h
section
variable (cm:Bool) (fns:List (Str×Nat×Bool)) (gns:List Str)
noncomputable def mtT (top:Bool) (sc:Scope) (N:List Str):Tg→Expr→Bool
 | .var i,e=>(vNm e).any fun x=>decide (N[i]?=some x) && locB top sc x
 | .tup is,e=>(vTup e).any fun es=>namesB is es
where namesB:List Nat→List Expr→Bool
 | [],[]=>true
 | i :: is,e :: es=>((vNm e).any fun x=>decide (N[i]?=some x) && locB top sc x) && namesB is es
 | _,_=>false
noncomputable def fnB (f:Nat) (x:Str) (n:Nat):Bool:=match fns[f]? with
 | some (nm,ar,fl)=>decide (nm=x) && decide (ar=n) && (cm || !fl)
 | none=>false
noncomputable def blB (k:Bl) (x:Str):Bool:=match blNm k with
 | some (nm,_,_)=>decide (x=nm)
 | none=>false
noncomputable def mtB (k:Mt) (nm:Str):Bool:=match mtNm k with
 | some m=>decide (nm=m)
 | none=>false
mutual
noncomputable def mt (sc:Scope) (N:List Str):Ex→Expr→Bool
 | .nev,_=>true
 | .var i,e=>(vNm e).any fun x=>decide (N[i]?=some x) && visB sc x && okNm x
 | .cst d,e=>(vCst e).any fun c=>cstB d c
 | .neg a,e=>(vUn e).any fun z=>isUS z.1 && mt sc N a z.2
 | .glb k,e=>(vNm e).any fun x=>decide (gns[k]?=some x) && glB sc x && okNm x
 | .tup es,e=>(vTup e).any fun xs=>mts sc N es xs
 | .lst es,e=>(vLst e).any fun xs=>mts sc N es xs
 | .isi a ts,e=>(vCal e).any fun z=>(vNm z.1).any fun (f:Str)=>decide (f = "isinstance") && glB sc f && noStar z.2.1 && mt sc N a z.2.1 && (one1 z.2.2.1).any fun y=>tyM sc ts y
 | .bin op a b,e=>(vBin e).any fun z=>isBo op z.2.1 && mt sc N a z.1 && mt sc N b z.2.2
 | .cmp op a b,e=>(vCmp e).any fun z=>(one1 z.2.1).any fun o=>(one1 z.2.2).any fun y=>isCo op o && !(behindInMarks (opC op) y) && mt sc N a z.1 && mt sc N b y
 | .chn o1 o2 a b c,e=>(vCmp e).any fun z=>(two1 z.2.1).any fun o=>(two1 z.2.2).any fun y=>isCo o1 o.1 && isCo o2 o.2 && !(lastMarks [opC o1,opC o2] [y.1,y.2]) && mt sc N a z.1 && mt sc N b y.1 && mt sc N c y.2
 | .and a b,e=>(vBoo e).any fun z=>isAn true z.1 && (cutB true z.2.2 z.2.1).any fun y=>mt sc N a y.1 && mt sc N b y.2
 | .or a b,e=>(vBoo e).any fun z=>isAn false z.1 && (cutB false z.2.2 z.2.1).any fun y=>mt sc N a y.1 && mt sc N b y.2
 | .not a,e=>(vUn e).any fun z=>isNt z.1 && mt sc N a z.2
 | .ite c a b,e=>(vIf e).any fun z=>mt sc N c z.1 && mt sc N a z.2.1 && mt sc N b z.2.2
 | .idx a i,e=>(vSub e).any fun z=>noSlice z.2 && mt sc N a z.1 && mt sc N i z.2
 | .call f es,e=>(vCal e).any fun z=>(vNm z.1).any fun x=>fnB cm fns f x (z.2.1 :: z.2.2.1).length && glB sc x && okNm x && mts sc N es (z.2.1 :: z.2.2.1)
 | .blt k es,e=>(vCal e).any fun z=>(vNm z.1).any fun x=>blB k x && (cm || quiB k) && glB sc x && okNm x && mts sc N es (z.2.1 :: z.2.2.1)
 | .mth k o es,e=>(vCal e).any fun z=>(vAtt z.1).any fun x=>mtB k x.2.1 && rcvE x.1 && (x.2.2.endLine == z.2.2.2.line) && decide ((z.2.1 :: z.2.2.1).length < 29) && mt sc N o x.1 && mts sc N es (z.2.1 :: z.2.2.1)
 | .cmr k n gs elt,e=>(vLC e).any fun z=>cm && !k && decide ((owns z.2.2).length=n) && scB sc z.2.2 N && mtG sc N (relS z.2.2 sc) (blkN N (owns z.2.2)) gs z.2.1 && mt (relS z.2.2 sc) (blkN N (owns z.2.2)) elt z.1
 | .sli a lo hi,e=>(vSub e).any fun z=>(vSli z.2).any fun y=>mt sc N a z.1 && mto sc N lo y.1 && mto sc N hi y.2
 | .cal f es,e=>(vCal e).any fun z=>cm && calE z.1 && mt sc N f z.1 && mts sc N es (z.2.1 :: z.2.2.1)
 | .rev a,e=>(vSub e).any fun z=>isRv 1 none z.2 && mt sc N a z.1
noncomputable def mto (sc:Scope) (N:List Str):Op→Option Expr→Bool
 | .none,none=>true
 | .some e,some x=>mt sc N e x
 | _,_=>false
noncomputable def mts (sc:Scope) (N:List Str):Exs→List Expr→Bool
 | .nil,[]=>true
 | .cons e es,x :: xs=>noStar x && mt sc N e x && mts sc N es xs
 | _,_=>false
noncomputable def mtG (sc:Scope) (N:List Str) (sc2:Scope) (N2:List Str):Gens→List Comprehension→Bool
 | .cons t it ifs .nil,[⟨tg,iter,cs,a⟩]=>(a == 0) && noSet iter && mtT false sc2 N2 t tg && mtI sc N it iter && mts sc2 N2 ifs cs && tgIt t it
 | .cons t it ifs (.cons t2 it2 ifs2 .nil),[⟨tg,iter,cs,a⟩,⟨tg2,iter2,cs2,a2⟩]=>(a == 0) && (a2 == 0) && noSet iter && noSet iter2 && mtT false sc2 N2 t tg && mtI sc N it iter && mts sc2 N2 ifs cs && mtT false sc2 N2 t2 tg2 && mtI sc2 N2 it2 iter2 && mts sc2 N2 ifs2 cs2 && tgIt t it && tgIt t2 it2
 | _,_=>false
noncomputable def mtI (sc:Scope) (N:List Str):It→Expr→Bool
 | .val e,x=>mt sc N e x
 | .rng es,e=>(vCal e).any fun z=>(vNm z.1).any fun (x:Str)=>decide (x = "range") && glB sc x && mts sc N es (z.2.1 :: z.2.2.1)
 | .zip es,e=>(vCal e).any fun z=>(vNm z.1).any fun (x:Str)=>decide (x = "zip") && glB sc x && mts sc N es (z.2.1 :: z.2.2.1)
 | .enm es,e=>(vCal e).any fun z=>(vNm z.1).any fun (x:Str)=>decide (x = "enumerate") && glB sc x && mts sc N es (z.2.1 :: z.2.2.1)
end
end
section
variable {cm:Bool} {fns:List (Str×Nat×Bool)} {gns:List Str} {sc sc2:Scope} {N N2:List Str} {t t2:Tg} {it it2:It} {ifs ifs2:Exs}
theorem mtG_0 {gens:List Comprehension} (h:mtG cm fns gns sc N sc2 N2 .nil gens=true):False:=by
 cases h
theorem mtG_1 {gens:List Comprehension} (h:mtG cm fns gns sc N sc2 N2 (.cons t it ifs .nil) gens=true):∃ tg iter cs,gens=[⟨tg,iter,cs,0⟩]∧noSet iter=true∧mtT false sc2 N2 t tg=true∧mtI cm fns gns sc N it iter=true∧mts cm fns gns sc2 N2 ifs cs=true∧tgIt t it=true:=by
 match gens,h with
 | [⟨tg,iter,cs,a⟩],h =>
  simp only [mtG,Bool.and_eq_true,beq_iff_eq] at h
  obtain ⟨⟨⟨⟨⟨h1,h2⟩,h3⟩,h4⟩,h5⟩,h6⟩:=h
  subst h1
  exact ⟨tg,iter,cs,rfl,h2,h3,h4,h5,h6⟩
 | [],h=>cases h
 | ⟨_,_,_,_⟩ :: _ :: _,h=>cases h
theorem mtG_2 {gens:List Comprehension} (h:mtG cm fns gns sc N sc2 N2 (.cons t it ifs (.cons t2 it2 ifs2 .nil)) gens=true):∃ tg iter cs tg2 iter2 cs2,gens=[⟨tg,iter,cs,0⟩,⟨tg2,iter2,cs2,0⟩]∧noSet iter=true∧noSet iter2=true∧mtT false sc2 N2 t tg=true∧mtI cm fns gns sc N it iter=true∧mts cm fns gns sc2 N2 ifs cs=true∧mtT false sc2 N2 t2 tg2=true∧mtI cm fns gns sc2 N2 it2 iter2=true∧mts cm fns gns sc2 N2 ifs2 cs2=true∧tgIt t it=true∧tgIt t2 it2=true:=by
 match gens,h with
 | [⟨tg,iter,cs,a⟩,⟨tg2,iter2,cs2,a2⟩],h =>
  simp only [mtG,Bool.and_eq_true,beq_iff_eq] at h
  obtain ⟨⟨⟨⟨⟨⟨⟨⟨⟨⟨⟨h1,h2⟩,h3⟩,h4⟩,h5⟩,h6⟩,h7⟩,h8⟩,h9⟩,h10⟩,h11⟩,h12⟩:=h
  subst h1 h2
  exact ⟨tg,iter,cs,tg2,iter2,cs2,rfl,h3,h4,h5,h6,h7,h8,h9,h10,h11,h12⟩
 | [],h=>cases h
 | [⟨_,_,_,_⟩],h=>cases h
 | ⟨_,_,_,_⟩ :: ⟨_,_,_,_⟩ :: _ :: _,h=>cases h
theorem mtG_3 {gens:List Comprehension} {t3:Tg} {it3:It} {ifs3:Exs} {gs3:Gens} (h:mtG cm fns gns sc N sc2 N2 (.cons t it ifs (.cons t2 it2 ifs2 (.cons t3 it3 ifs3 gs3))) gens=true):False:=by
 match gens,h with
 | [],h=>cases h
 | [⟨_,_,_,_⟩],h=>cases h
 | ⟨_,_,_,_⟩ :: ⟨_,_,_,_⟩ :: _ ,h=>cases h
theorem cal_nm {e:Expr} {q:Expr×Expr×List Expr×Pos→Str→Bool} (h:((vCal e).any fun z=>(vNm z.1).any fun x=>q z x)=true):∃ x p y ys cp,e=.Call (.Name x p) (y :: ys) [] cp∧q (.Name x p,y,ys,cp) x=true:=by
 obtain ⟨⟨f,y,ys,cp⟩,h1,h2⟩:=any_some h
 obtain ⟨x,h3,h4⟩:=any_some h2
 have e1:=vCal_ok h1
 subst e1
 have h3':vNm f=some x:=h3
 obtain ⟨p,e2⟩:=vNm_ok h3'
 subst e2
 exact ⟨x,p,y,ys,cp,rfl,h4⟩
theorem mt_var {i:Nat} {e:Expr} (h:mt cm fns gns sc N (.var i) e=true):∃ x p,e=.Name x p∧N[i]?=some x∧visB sc x=true∧okNm x=true:=by
 simp only [mt] at h
 obtain ⟨x,h1,h2⟩:=any_some h
 obtain ⟨p,rfl⟩:=vNm_ok h1
 simp only [Bool.and_eq_true,decide_eq_true_eq] at h2
 exact ⟨x,p,rfl,h2.1.1,h2.1.2,h2.2⟩
theorem mt_cst {d:D} {e:Expr} (h:mt cm fns gns sc N (.cst d) e=true):∃ c k p,e=.Constant c k p∧cstB d c=true:=by
 simp only [mt] at h
 obtain ⟨c,h1,h2⟩:=any_some h
 obtain ⟨k,p,rfl⟩:=vCst_ok h1
 exact ⟨c,k,p,rfl,h2⟩
theorem mt_neg {a:Ex} {e:Expr} (h:mt cm fns gns sc N (.neg a) e=true):∃ x p,e=.UnaryOp .USub x p∧mt cm fns gns sc N a x=true:=by
 simp only [mt] at h
 obtain ⟨⟨o,x⟩,h1,h2⟩:=any_some h
 obtain ⟨p,rfl⟩:=vUn_ok h1
 rw [Bool.and_eq_true] at h2
 have e1:=isUS_ok h2.1
 dsimp only at e1
 subst e1
 exact ⟨x,p,rfl,h2.2⟩
theorem mt_not {a:Ex} {e:Expr} (h:mt cm fns gns sc N (.not a) e=true):∃ x p,e=.UnaryOp .Not x p∧mt cm fns gns sc N a x=true:=by
 simp only [mt] at h
 obtain ⟨⟨o,x⟩,h1,h2⟩:=any_some h
 obtain ⟨p,rfl⟩:=vUn_ok h1
 rw [Bool.and_eq_true] at h2
 have e1:=isNt_ok h2.1
 dsimp only at e1
 subst e1
 exact ⟨x,p,rfl,h2.2⟩
theorem mt_glb {k:Nat} {e:Expr} (h:mt cm fns gns sc N (.glb k) e=true):∃ x p,e=.Name x p∧gns[k]?=some x∧glB sc x=true∧okNm x=true:=by
 simp only [mt] at h
 obtain ⟨x,h1,h2⟩:=any_some h
 obtain ⟨p,rfl⟩:=vNm_ok h1
 simp only [Bool.and_eq_true,decide_eq_true_eq] at h2
 exact ⟨x,p,rfl,h2.1.1,h2.1.2,h2.2⟩
theorem mt_tup {es:Exs} {e:Expr} (h:mt cm fns gns sc N (.tup es) e=true):∃ xs k p,e=.Tuple xs k p∧mts cm fns gns sc N es xs=true:=by
 simp only [mt] at h
 obtain ⟨x,h1,h2⟩:=any_some h
 obtain ⟨k,p,rfl⟩:=vTup_ok h1
 exact ⟨x,k,p,rfl,h2⟩
theorem mt_lst {es:Exs} {e:Expr} (h:mt cm fns gns sc N (.lst es) e=true):∃ xs p,e=.List xs p∧mts cm fns gns sc N es xs=true:=by
 simp only [mt] at h
 obtain ⟨x,h1,h2⟩:=any_some h
 obtain ⟨p,rfl⟩:=vLst_ok h1
 exact ⟨x,p,rfl,h2⟩
theorem mt_bin {op:Bo} {a b:Ex} {e:Expr} (h:mt cm fns gns sc N (.bin op a b) e=true):∃ x y p,e=.BinOp x (opB op) y p∧mt cm fns gns sc N a x=true∧mt cm fns gns sc N b y=true:=by
 simp only [mt] at h
 obtain ⟨⟨x,o,y⟩,h1,h2⟩:=any_some h
 obtain ⟨p,rfl⟩:=vBin_ok h1
 simp only [Bool.and_eq_true] at h2
 have e1:=isBo_ok h2.1.1
 subst e1
 exact ⟨x,y,p,rfl,h2.1.2,h2.2⟩
theorem mt_cmp {op:Co} {a b:Ex} {e:Expr} (h:mt cm fns gns sc N (.cmp op a b) e=true):∃ x y p,e=.Compare x [opC op] [y] p∧behindInMarks (opC op) y=false∧mt cm fns gns sc N a x=true∧mt cm fns gns sc N b y=true:=by
 simp only [mt] at h
 obtain ⟨⟨x,os,ys⟩,h1,h2⟩:=any_some h
 obtain ⟨o,h3,h4⟩:=any_some h2
 obtain ⟨y,h5,h6⟩:=any_some h4
 obtain ⟨p,rfl⟩:=vCmp_ok h1
 have e1:os=[o]:=one1_ok h3
 have e2:ys=[y]:=one1_ok h5
 subst e1 e2
 simp only [Bool.and_eq_true,Bool.not_eq_true'] at h6
 have e3:=isCo_ok h6.1.1.1
 subst e3
 exact ⟨x,y,p,rfl,h6.1.1.2,h6.1.2,h6.2⟩
theorem mt_chn {o1 o2:Co} {a b c:Ex} {e:Expr} (h:mt cm fns gns sc N (.chn o1 o2 a b c) e=true):∃ x y z p,e=.Compare x [opC o1,opC o2] [y,z] p∧lastMarks [opC o1,opC o2] [y,z]=false∧mt cm fns gns sc N a x=true∧mt cm fns gns sc N b y=true∧mt cm fns gns sc N c z=true:=by
 simp only [mt] at h
 obtain ⟨⟨x,os,ys⟩,h1,h2⟩:=any_some h
 obtain ⟨⟨p1,p2⟩,h3,h4⟩:=any_some h2
 obtain ⟨⟨y,z⟩,h5,h6⟩:=any_some h4
 obtain ⟨p,rfl⟩:=vCmp_ok h1
 have e1:os=[p1,p2]:=two1_ok h3
 have e2:ys=[y,z]:=two1_ok h5
 subst e1 e2
 rw [Bool.and_eq_true,Bool.and_eq_true,Bool.and_eq_true,Bool.and_eq_true,Bool.and_eq_true,Bool.not_eq_true'] at h6
 obtain ⟨⟨⟨⟨⟨k1,k2⟩,k3⟩,k4⟩,k5⟩,k6⟩:=h6
 have e3:=isCo_ok k1
 have e4:=isCo_ok k2
 dsimp only at e3 e4
 subst e3 e4
 exact ⟨x,y,z,p,rfl,k3,k4,k5,k6⟩
theorem boo_inv {an:Bool} {a b:Ex} {e:Expr} (h:((vBoo e).any fun z=>isAn an z.1 && (cutB an z.2.2 z.2.1).any fun y=>mt cm fns gns sc N a y.1 && mt cm fns gns sc N b y.2)=true) :
  (∃ x y p,e=.BoolOp (opA an) [x,y] p∧mt cm fns gns sc N a x=true∧mt cm fns gns sc N b y=true)∨∃ x y z r p,e=.BoolOp (opA an) (x :: y :: z :: r) p∧mt cm fns gns sc N a x=true∧mt cm fns gns sc N b (.BoolOp (opA an) (y :: z :: r) p)=true:=by
 obtain ⟨⟨o,xs,p⟩,h1,h2⟩:=any_some h
 have e1:=vBoo_ok h1
 subst e1
 rw [Bool.and_eq_true] at h2
 have e2:=isAn_ok h2.1
 dsimp only at e2
 subst e2
 obtain ⟨⟨x,y⟩,h3,h4⟩:=any_some h2.2
 rw [Bool.and_eq_true] at h4
 rcases cutB_ok h3 with e3 | ⟨y1,y2,r,e3,e4⟩
 ·dsimp only at e3
  subst e3
  exact .inl ⟨x,y,p,rfl,h4.1,h4.2⟩
 ·dsimp only at e3 e4
  subst e3 e4
  exact .inr ⟨x,y1,y2,r,p,rfl,h4.1,h4.2⟩
theorem mt_and {a b:Ex} {e:Expr} (h:mt cm fns gns sc N (.and a b) e=true):(∃ x y p,e=.BoolOp .And [x,y] p∧mt cm fns gns sc N a x=true∧mt cm fns gns sc N b y=true)∨∃ x y z r p,e=.BoolOp .And (x :: y :: z :: r) p∧mt cm fns gns sc N a x=true∧mt cm fns gns sc N b (.BoolOp .And (y :: z :: r) p)=true:=by
 simp only [mt] at h
 exact boo_inv (an:=true) h
theorem mt_or {a b:Ex} {e:Expr} (h:mt cm fns gns sc N (.or a b) e=true):(∃ x y p,e=.BoolOp .Or [x,y] p∧mt cm fns gns sc N a x=true∧mt cm fns gns sc N b y=true)∨∃ x y z r p,e=.BoolOp .Or (x :: y :: z :: r) p∧mt cm fns gns sc N a x=true∧mt cm fns gns sc N b (.BoolOp .Or (y :: z :: r) p)=true:=by
 simp only [mt] at h
 exact boo_inv (an:=false) h
theorem mt_ite {c a b:Ex} {e:Expr} (h:mt cm fns gns sc N (.ite c a b) e=true):∃ x y z p,e=.IfExp x y z p∧mt cm fns gns sc N c x=true∧mt cm fns gns sc N a y=true∧mt cm fns gns sc N b z=true:=by
 simp only [mt] at h
 obtain ⟨⟨x,y,z⟩,h1,h2⟩:=any_some h
 obtain ⟨p,rfl⟩:=vIf_ok h1
 simp only [Bool.and_eq_true] at h2
 exact ⟨x,y,z,p,rfl,h2.1.1,h2.1.2,h2.2⟩
theorem mt_idx {a i:Ex} {e:Expr} (h:mt cm fns gns sc N (.idx a i) e=true):∃ x y p,e=.Subscript x y p∧noSlice y=true∧mt cm fns gns sc N a x=true∧mt cm fns gns sc N i y=true:=by
 simp only [mt] at h
 obtain ⟨⟨x,y⟩,h1,h2⟩:=any_some h
 obtain ⟨p,rfl⟩:=vSub_ok h1
 simp only [Bool.and_eq_true] at h2
 exact ⟨x,y,p,rfl,h2.1.1,h2.1.2,h2.2⟩
theorem mt_cmr {k:Bool} {n:Nat} {gs:Gens} {elt:Ex} {e:Expr} (h:mt cm fns gns sc N (.cmr k n gs elt) e=true):∃ ee gens scope p,e=.ListComp ee gens scope p∧cm=true∧k=false∧(owns scope).length=n∧scB sc scope N=true∧mtG cm fns gns sc N (relS scope sc) (blkN N (owns scope)) gs gens=true∧mt cm fns gns (relS scope sc) (blkN N (owns scope)) elt ee=true:=by
 simp only [mt] at h
 obtain ⟨⟨ee,gens,scope⟩,h1,h2⟩:=any_some h
 obtain ⟨p,rfl⟩:=vLC_ok h1
 simp only [Bool.and_eq_true,decide_eq_true_eq,Bool.not_eq_true'] at h2
 obtain ⟨⟨⟨⟨⟨h0,h1⟩,h2⟩,h3⟩,h4⟩,h5⟩:=h2
 exact ⟨ee,gens,scope,p,rfl,h0,h1,h2,h3,h4,h5⟩
theorem mt_blt {k:Bl} {es:Exs} {e:Expr} (h:mt cm fns gns sc N (.blt k es) e=true):∃ x p y ys cp,e=.Call (.Name x p) (y :: ys) [] cp∧blB k x=true∧(cm || quiB k)=true∧glB sc x=true∧okNm x=true∧mts cm fns gns sc N es (y :: ys)=true:=by
 simp only [mt] at h
 obtain ⟨x,p,y,ys,cp,rfl,h1⟩:=cal_nm h
 rw [Bool.and_eq_true,Bool.and_eq_true,Bool.and_eq_true,Bool.and_eq_true] at h1
 exact ⟨x,p,y,ys,cp,rfl,h1.1.1.1.1,h1.1.1.1.2,h1.1.1.2,h1.1.2,h1.2⟩
theorem mt_call {k:Nat} {es:Exs} {e:Expr} (h:mt cm fns gns sc N (.call k es) e=true):∃ x p y ys cp,e=.Call (.Name x p) (y :: ys) [] cp∧(∃ fl,fns[k]?=some (x,(y :: ys).length,fl)∧(fl=true→cm=true))∧glB sc x=true∧okNm x=true∧mts cm fns gns sc N es (y :: ys)=true:=by
 simp only [mt] at h
 obtain ⟨x,p,y,ys,cp,rfl,h1⟩:=cal_nm h
 rw [Bool.and_eq_true,Bool.and_eq_true,Bool.and_eq_true] at h1
 refine ⟨x,p,y,ys,cp,rfl,?_,h1.1.1.2,h1.1.2,h1.2⟩
 have h2:=h1.1.1.1
 unfold fnB at h2
 split at h2
 ·rename_i nm ar fl e
  simp only [Bool.and_eq_true,decide_eq_true_eq,Bool.or_eq_true,Bool.not_eq_true'] at h2
  obtain ⟨⟨rfl,rfl⟩,h2⟩:=h2
  exact ⟨fl,e,fun z=>by rcases h2 with h2 | h2; exact h2; rw [z] at h2; cases h2⟩
 ·cases h2
theorem mt_mth {k:Mt} {o:Ex} {es:Exs} {e:Expr} (h:mt cm fns gns sc N (.mth k o es) e=true):∃ ox nm ap y ys cp,e=.Call (.Attribute ox nm ap) (y :: ys) [] cp∧mtB k nm=true∧rcvE ox=true∧(ap.endLine == cp.line)=true∧(y :: ys).length < 29∧mt cm fns gns sc N o ox=true∧mts cm fns gns sc N es (y :: ys)=true:=by
 simp only [mt] at h
 obtain ⟨⟨f,y,ys,cp⟩,h1,h2⟩:=any_some h
 obtain ⟨⟨ox,nm,ap⟩,h3,h4⟩:=any_some h2
 have e1:=vCal_ok h1
 subst e1
 have h3':vAtt f=some (ox,nm,ap):=h3
 have e2:=vAtt_ok h3'
 subst e2
 rw [Bool.and_eq_true,Bool.and_eq_true,Bool.and_eq_true,Bool.and_eq_true,Bool.and_eq_true] at h4
 exact ⟨ox,nm,ap,y,ys,cp,rfl,h4.1.1.1.1.1,h4.1.1.1.1.2,h4.1.1.1.2,of_decide_eq_true h4.1.1.2,h4.1.2,h4.2⟩
theorem mt_isi {a:Ex} {ts:List Ty} {e:Expr} (h:mt cm fns gns sc N (.isi a ts) e=true):∃ p0 x y cp,e=.Call (.Name "isinstance" p0) [x,y] [] cp∧glB sc "isinstance" = true∧noStar x=true∧mt cm fns gns sc N a x=true∧tyM sc ts y=true:=by
 simp only [mt] at h
 obtain ⟨f,p,y,ys,cp,rfl,h1⟩:=cal_nm h
 rw [Bool.and_eq_true,Bool.and_eq_true,Bool.and_eq_true,Bool.and_eq_true] at h1
 obtain ⟨⟨⟨⟨h2,h3⟩,h4⟩,h5⟩,h6⟩:=h1
 have e1:f = "isinstance" := of_decide_eq_true h2
 subst e1
 obtain ⟨y2,h7,h8⟩:=any_some h6
 have e2:ys=[y2]:=one1_ok h7
 subst e2
 exact ⟨p,y,y2,cp,rfl,h3,h4,h5,h8⟩
theorem tyM_ok {ts:List Ty} {y:Expr} (h:tyM sc ts y=true):(∃ t nm p,ts=[t]∧y=.Name nm p∧glB sc nm=true∧okNm nm=true∧tyB sc t nm=true) ∨
  ∃ t1 t2 n1 n2 p1 p2 k p,ts=[t1,t2]∧y=.Tuple [.Name n1 p1,.Name n2 p2] k p∧glB sc n1=true∧okNm n1=true∧glB sc n2=true∧okNm n2=true∧bltT t1=true∧bltT t2=true∧tyB sc t1 n1=true∧tyB sc t2 n2=true:=by
 unfold tyM at h
 split at h
 ·simp only [Bool.and_eq_true] at h
  obtain ⟨⟨h1,h2⟩,h3⟩:=h
  split at h3
  ·exact .inl ⟨_,_,_,rfl,rfl,h1,h2,h3⟩
  ·cases h3
 ·split at h
  ·simp only [Bool.and_eq_true] at h
   obtain ⟨⟨⟨⟨h1,h2⟩,h3⟩,h4⟩,h5⟩:=h
   split at h5
   ·simp only [Bool.and_eq_true] at h5
    obtain ⟨⟨⟨h6,h7⟩,h8⟩,h9⟩:=h5
    exact .inr ⟨_,_,_,_,_,_,_,_,rfl,rfl,h1,h2,h3,h4,h6,h7,h8,h9⟩
   ·cases h5
  ·cases h
 ·cases h
theorem mt_sli {a:Ex} {lo hi:Op} {e:Expr} (h:mt cm fns gns sc N (.sli a lo hi) e=true):∃ x l u p2 p,e=.Subscript x (.Slice l u none p2) p∧mt cm fns gns sc N a x=true∧mto cm fns gns sc N lo l=true∧mto cm fns gns sc N hi u=true:=by
 simp only [mt] at h
 obtain ⟨⟨x,y⟩,h1,h2⟩:=any_some h
 obtain ⟨⟨l,u⟩,h3,h4⟩:=any_some h2
 obtain ⟨p,rfl⟩:=vSub_ok h1
 obtain ⟨p2,e2⟩:=vSli_ok h3
 dsimp only at e2
 subst e2
 simp only [Bool.and_eq_true] at h4
 exact ⟨x,l,u,p2,p,rfl,h4.1.1,h4.1.2,h4.2⟩
theorem it_nm {w:Str} {es:Exs} {e:Expr} (h:((vCal e).any fun z=>(vNm z.1).any fun x=>decide (x=w) && glB sc x && mts cm fns gns sc N es (z.2.1 :: z.2.2.1))=true):∃ p y ys cp,e=.Call (.Name w p) (y :: ys) [] cp∧glB sc w=true∧mts cm fns gns sc N es (y :: ys)=true:=by
 obtain ⟨x,p,y,ys,cp,rfl,h1⟩:=cal_nm h
 rw [Bool.and_eq_true,Bool.and_eq_true] at h1
 have e1:x=w:=of_decide_eq_true h1.1.1
 subst e1
 exact ⟨p,y,ys,cp,rfl,h1.1.2,h1.2⟩
theorem mtI_zip {es:Exs} {e:Expr} (h:mtI cm fns gns sc N (.zip es) e=true):∃ p y ys cp,e=.Call (.Name "zip" p) (y :: ys) [] cp∧glB sc "zip" = true∧mts cm fns gns sc N es (y :: ys)=true:=by
 simp only [mtI] at h
 exact it_nm h
theorem mtI_enm {es:Exs} {e:Expr} (h:mtI cm fns gns sc N (.enm es) e=true):∃ p y ys cp,e=.Call (.Name "enumerate" p) (y :: ys) [] cp∧glB sc "enumerate" = true∧mts cm fns gns sc N es (y :: ys)=true:=by
 simp only [mtI] at h
 exact it_nm h
theorem mtI_rng {es:Exs} {e:Expr} (h:mtI cm fns gns sc N (.rng es) e=true):∃ p y ys cp,e=.Call (.Name "range" p) (y :: ys) [] cp∧glB sc "range" = true∧mts cm fns gns sc N es (y :: ys)=true:=by
 simp only [mtI] at h
 exact it_nm h
theorem mt_cal {f:Ex} {es:Exs} {e:Expr} (h:mt cm fns gns sc N (.cal f es) e=true):∃ fx y ys cp,e=.Call fx (y :: ys) [] cp∧cm=true∧calE fx=true∧mt cm fns gns sc N f fx=true∧mts cm fns gns sc N es (y :: ys)=true:=by
 simp only [mt] at h
 obtain ⟨⟨fx,y,ys,cp⟩,h1,h2⟩:=any_some h
 have e1:=vCal_ok h1
 subst e1
 rw [Bool.and_eq_true,Bool.and_eq_true,Bool.and_eq_true] at h2
 exact ⟨fx,y,ys,cp,rfl,h2.1.1.1,h2.1.1.2,h2.1.2,h2.2⟩
theorem mt_rev {a:Ex} {e:Expr} (h:mt cm fns gns sc N (.rev a) e=true):∃ x y p,e=.Subscript x y p∧isRv 1 none y=true∧mt cm fns gns sc N a x=true:=by
 simp only [mt] at h
 obtain ⟨⟨x,y⟩,h1,h2⟩:=any_some h
 obtain ⟨p,rfl⟩:=vSub_ok h1
 rw [Bool.and_eq_true] at h2
 exact ⟨x,y,p,rfl,h2.1,h2.2⟩
theorem tg_tup {top:Bool} {tg:Expr} (h1:tgIt t it=true) (h2:mtT top sc N t tg=true) (h3:needT it=true):∃ es k p,tg=.Tuple es k p:=by
 unfold tgIt at h1
 rw [h3] at h1
 cases t with
 | var i=>cases h1
 | tup is =>
  simp only [mtT] at h2
  obtain ⟨es,h4,_⟩:=any_some h2
  obtain ⟨k,p,rfl⟩:=vTup_ok h4
  exact ⟨es,k,p,rfl⟩
end
noncomputable def blts:List Str:=["len","tuple","list","all","any","sum","max","min","range","isinstance","sorted","set","str","repr","zip","enumerate","abs","ValueError","int","bool","dict"]
noncomputable def bmV:List Value:=[.type "ValueError",.type "Exception",.type "BaseException",.type "object"]
noncomputable def errB (K:PySem.W.Frag):Bool :=
 (K.lookup sysModules).isSome && PySem.W.specialIn K (.builtin "object.__class__") "__get__" == some (some (.builtin "getset_descriptor.__get__")) && PySem.W.takesIn K (.builtin "object.__class__") == some true &&
 (List.range clsNames.length).all fun c=>match clsAt K c with
  | some C=>PySem.W.excIn K C bmV "ValueError.__new__" && (PySem.W.findIn K (.ref C) "__getattribute__" == some (some (.builtin "BaseException.__getattribute__")) && PySem.W.findIn K (.ref C) "__getattr__" == some none && PySem.W.mroIn K C (.type "BaseException") == some true) && (PySem.W.clsIn K C).isSome && PySem.W.findIn K (.ref C) "__class__" == some (some (.builtin "object.__class__")) && PySem.W.mroIn K C (.type "object") == some true &&
   PySem.W.kitOne K (.ref C) (.type "ValueError") == some true && (List.range clsNames.length).all fun c0=>match clsAt K c0 with
    | some C0=>PySem.W.kitOne K (.ref C) (.ref C0) == some (c0 == 0 || c0 == c) && (!(c0 == 0 || c0 == c) || PySem.W.exmOne K (.ref C) (.ref C0) == some true)
    | none=>true
  | none=>(clsNm c).isNone
structure ErrOk (K:PySem.W.Frag):Prop where
 sm:∃ o,K.lookup sysModules=some o
 gt:PySem.W.specialIn K (.builtin "object.__class__") "__get__" = some (some (.builtin "getset_descriptor.__get__"))
 tk:PySem.W.takesIn K (.builtin "object.__class__")=some true
 at_:∀ c nm,clsNm c=some nm→∃ C,clsAt K c=some C∧PySem.W.nsIn K mainGlobals nm=some (some (.ref C))
 cls:∀ c C,clsAt K c=some C→PySem.W.excIn K C bmV "ValueError.__new__" = true∧(PySem.W.findIn K (.ref C) "__getattribute__" = some (some (.builtin "BaseException.__getattribute__"))∧PySem.W.findIn K (.ref C) "__getattr__" = some none∧PySem.W.mroIn K C (.type "BaseException")=some true)∧(PySem.W.clsIn K C).isSome=true∧PySem.W.findIn K (.ref C) "__class__" = some (some (.builtin "object.__class__"))∧PySem.W.mroIn K C (.type "object")=some true∧PySem.W.kitOne K (.ref C) (.type "ValueError")=some true
 sub:∀ c C c0 C0,clsAt K c=some C→clsAt K c0=some C0→PySem.W.kitOne K (.ref C) (.ref C0)=some (c0 == 0 || c0 == c)∧((c0 == 0 || c0 == c)=true→PySem.W.exmOne K (.ref C) (.ref C0)=some true)
theorem clsAt_lt {K:PySem.W.Frag} {c:Nat} {C:Addr} (h:clsAt K c=some C):c < clsNames.length:=by
 unfold clsAt at h
 cases q:clsNm c with
 | none=>rw [q] at h; cases h
 | some _=>exact clsNm_lt q
theorem errB_ok {K:PySem.W.Frag} (h:errB K=true):ErrOk K:=by
 simp only [errB,Bool.and_eq_true,beq_iff_eq,List.all_eq_true,List.mem_range] at h
 obtain ⟨⟨⟨h0,h1⟩,h2⟩,h3⟩:=h
 refine ⟨Option.isSome_iff_exists.mp h0,h1,h2,fun c nm e=>?_,fun c C e=>?_,fun c C c0 C0 e e0=>?_⟩
 ·have:=h3 c (clsNm_lt e)
  split at this
  ·rename_i C q
   refine ⟨C,q,?_⟩
   unfold clsAt at q
   rw [e,Option.bind_some] at q
   split at q
   ·rename_i q2; cases q; exact q2
   ·cases q
  ·rw [e] at this; cases this
 ·have:=h3 c (clsAt_lt e)
  rw [e] at this
  simp only [Bool.and_eq_true,beq_iff_eq] at this
  obtain ⟨⟨⟨⟨⟨⟨a1,⟨⟨a2,a2'⟩,a2''⟩⟩,a3⟩,a4⟩,a5⟩,a6⟩,_⟩:=this
  exact ⟨a1,⟨a2,a2',a2''⟩,a3,a4,a5,a6⟩
 ·have:=h3 c (clsAt_lt e)
  rw [e] at this
  simp only [Bool.and_eq_true,beq_iff_eq,List.all_eq_true,List.mem_range] at this
  have z:=this.2 c0 (clsAt_lt e0)
  rw [e0] at z
  simp only [Bool.and_eq_true,beq_iff_eq,Bool.or_eq_true,Bool.not_eq_true'] at z
  refine ⟨z.1,fun y=>?_⟩
  rcases z.2 with z2 | z2
  ·rw [y] at z2; cases z2
  ·exact z2
end Z
end
section
namespace Z
open PySem PySem.Spec PySem.Calls PyProof.Rows L2 PySem.W Builtin Builtin.ObjectAttr Builtin.Getset_descriptor
section
variable {prog:Program} {w:World} {A:Around} {E:Value→Shared→Prop} {K:Frag} {y D:Addr}
theorem ecl_type {M:Model} {h:Heap} (e:ExcO D y h):Looks M h (typeOf (.ref y)) (.ref D):=by
 obtain ⟨ob,_,_,q,cl,_⟩:=e
 exact cl ▸ (Looks.ld q).andThen .now
theorem ecl_get {R:Result→Shared→Prop} {tv:Value} {s:Shared} (hK:K.In s.heap) (e:ExcO D y s.heap) (mo:mroIn K D (.type "object")=some true) (q:R (.ok (.ret (.ref D))) s) :
  codeAny (model prog w) A (.call (.builtin "getset_descriptor.__get__") ⟨[.builtin "object.__class__",.ref y,tv],[]⟩) R s:=by
 obtain ⟨hp,gn,dw,tk,os⟩:=s
 have T0:=ecl_type (M:=model prog w) e
 have T1:=looks_mroIn (M:=model prog w) hK mo
 refine codeAny_call_builtin KF.slot_gs.plain KF.entry_gs (KF.slot_gs.check _ _ _ _ _ _ _ _ KF.type_class (KF.args_gs _ _ _) ?_)
 unfold Builtin.«getset_descriptor.__get__» descrGet
 rw [dga_obj]
 refine wpAny_bind (wpAny_pure ?_)
 unfold descrGetter descrCheckInstance descrNameAndClass isInstance
 simp only [KF.owner_class]
 repeat lk
 refine ⟨Code.quiet_builtin _ (by decide +kernel),codeAny_builtin KF.entry_class ?_⟩
 unfold Builtin.«object.__class__» shownTypeOf
 repeat lk
 exact q
theorem ecl_find {M:Model} {h:Heap} {nm:Str} {v g:Value} (hK:K.In h) (h1:findIn K (.ref D) nm=some (some v)) (h2:specialIn K v "__get__" = some (some g)) (h3:takesIn K v=some true):Looks M h (find (.ref y) (.ref D) nm) (.bind g v):=by
 have a1:=looks_findIn (M:=M) hK h1
 have a2:Looks M h (getOf (some v)) (some g):=looks_specialIn hK h2
 have a3:=looks_takesIn (M:=M) hK h3
 exact a1.andThen (a2.andThen ((show Looks M h (dataDescriptor? (some v) (some g)) (some (g,v)) from a3.andThen .now).andThen (Looks.tag .now)))
theorem ecl_entry {Q:Fin→Shared→Prop} {s:Shared} {nm:Str} {tk:Tok} {v g:Value} (hK:K.In s.heap) (e:ExcO D y s.heap) (h1:findIn K (.ref D) nm=some (some v)) (h2:specialIn K v "__get__" = some (some g)) (h3:takesIn K v=some true)
  (z:wpAny (model prog w) A (call g [v,.ref y,.ref D]) (fun r s1=>Q (.done (.ret r)) s1) E s) :
  wpAny (model prog w) A (Builtin.«object.__getattribute__» ⟨[.ref y,.str nm tk],[]⟩) Q E s:=by
 obtain ⟨hp,gn,dw,t0,os⟩:=s
 have T0:=ecl_type (M:=model prog w) e
 have T1:=ecl_find (M:=model prog w) (y:=y) hK h1 h2 h3
 unfold Builtin.«object.__getattribute__»
 refine wpAny_bind (wpAny_pure ?_)
 refine wpAny_bind (wpAny_pure ?_)
 refine wpAny_bind (T0.at (wpAny_bind (T1.at ?_)))
 show wpAny (model prog w) A (holding [v] (call g [v,.ref y,.ref D]) >>= ret) _ _ _
 exact wpAny_bind (wpAny_holding (wpAny_mono z (fun r s1 q=>wpAny_pure q) fun _ _ q=>q))
theorem ecl_check {Q:Unit→Shared→Prop} {s:Shared} {nv:Value} (hK:K.In s.heap) (e:ExcO D y s.heap) (hm:mroIn K D (.type "BaseException")=some true) (q:Q () s) :
  wpAny (model prog w) A (checkBuiltinCall "BaseException.__getattribute__" ⟨[.ref y,nv],[]⟩) Q E s:=by
 obtain ⟨hp,gn,dw,t0,os⟩:=s
 have T0:=ecl_type (M:=model prog w) e
 have T3:=looks_mroIn (M:=model prog w) hK hm
 have kd:builtinKind "BaseException.__getattribute__" = some .slot:=by decide +kernel
 have sp:splitId "BaseException.__getattribute__" = some ("BaseException","__getattribute__"):=by decide +kernel
 have ao:=PySem.F.args_bexc_ga (.ref y) nv
 simp only [checkBuiltinCall,kd,sp]
 unfold isInstance
 refine wpAny_bind (wpAny_bind (T0.at (T3.at ?_)))
 rw [if_neg (by decide)]
 exact wpAny_of_eq ao q
theorem ecl_attr {Q:Option Value→Shared→Prop} {s:Shared} {nm:Str} {v g:Value} (hK:K.In s.heap) (e:ExcO D y s.heap) (ga:findIn K (.ref D) "__getattribute__" = some (some (.builtin "BaseException.__getattribute__"))) (gn:findIn K (.ref D) "__getattr__" = some none)
  (hm:mroIn K D (.type "BaseException")=some true) (h1:findIn K (.ref D) nm=some (some v)) (h2:specialIn K v "__get__" = some (some g)) (h3:takesIn K v=some true) (hh:handedIn (.ref D)=true)
  (z:∀ A':Around,wpAny (model prog w) A' (call g [v,.ref y,.ref D]) (fun r s1=>r=.ref D∧Q (some (.ref D)) s1) (fun _ _=>False) { s with toks:=s.toks + 1 }) :
  wpAny (model prog w) A (getAttr? (.ref y) nm) Q E s:=by
 obtain ⟨hp,gs,dw,tk,os⟩:=s
 have T0:=ecl_type (M:=model prog w) e
 have T1:=looks_findIn (M:=model prog w) hK ga
 have T2:=looks_findIn (M:=model prog w) hK gn
 have T3:=looks_mroIn (M:=model prog w) hK hm
 unfold getAttr? getAttrBy? getAttrBy
 refine wpAny_bind (wpAny_mkText (wpAny_bind (wpAny_attempt (wpAny_holding (wpAny_bind (T0.at (wpAny_bind (T1.at ?_))))))))
 have hno:(onTheHeap (Value.ref D) && Value.builtin "BaseException.__getattribute__" == Value.builtin "object.__getattribute__")=false:=by
  have:(Value.builtin "BaseException.__getattribute__" == Value.builtin "object.__getattribute__")=false:=by decide +kernel
  rw [this,Bool.and_false]
 dsimp only
 rw [if_neg (by rw [hno]; exact Bool.false_ne_true)]
 unfold getAttrByItsOwn hookBefore
 rw [if_pos (by rfl)]
 refine wpAny_bind (T2.at (wpAny_bind (wpAny_attempt (wpAny_holding ?_))))
 unfold callGetattribute boundAndCalled
 rw [if_neg (by simp)]
 have f3:=PySem.F.excAttr_ValueError.ga.bind (.ref y)
 rw [f3]
 refine wpAny_bind (wpAny_pure ?_)
 refine wpAny_call (codeAny_call_builtin PySem.F.excAttr_ValueError.ga.plain PySem.F.entry_bexc_ga (ecl_check (s:=⟨hp,gs,dw,tk + 1,os⟩) hK e hm ?_))
 refine ecl_entry (s:=⟨hp,gs,dw,tk + 1,os⟩) hK e h1 h2 h3 (wpAny_mono (z _) (fun r s1 q=>?_) fun _ _ q=>q.elim)
 obtain ⟨rfl,q⟩:=q
 exact handed_on hh (wpAny_pure q)
theorem kitx_exc (p1:findIn K (.ref D) "__getattribute__" = some (some (.builtin "BaseException.__getattribute__"))) (p0:findIn K (.ref D) "__getattr__" = some none) (p7:mroIn K D (.type "BaseException")=some true) (p2:(clsIn K D).isSome=true) (p3:findIn K (.ref D) "__class__" = some (some (.builtin "object.__class__")))
  (p4:specialIn K (.builtin "object.__class__") "__get__" = some (some (.builtin "getset_descriptor.__get__"))) (p5:takesIn K (.builtin "object.__class__")=some true) (p6:mroIn K D (.type "object")=some true):KitX K (.ref y) (.ref D) (ExcO D y) where
 ty:=fun _ _ _ e=>ecl_type e
 it:=fun _ _ hK _=>by
  unfold clsIn at p2
  split at p2
  ·rename_i lk
   intro B Q' E' s' k q
   unfold isType loadHead
   exact wpAny_bind (wpAny_loadPart (k _ _ (hK _ _ lk)) (wpAny_pure q))
  ·cases p2
 ne:=fun hp tp dd its n sl hK ht=>by
  refine Bool.eq_false_iff.mpr fun q=>?_
  have q':D=tp:=Value.ref.inj (beq_iff_eq.mp q)
  subst q'
  unfold clsIn at p2
  split at p2
  ·rename_i lk
   cases (hK _ _ lk).symm.trans ht
  ·cases p2
 ca:=fun {prog w B E' Q' s'} hK e k=>ecl_attr hK e p1 p0 p7 p3 p4 p5 rfl fun A'=>wpAny_call (ecl_get (s:={ s' with toks:=s'.toks + 1 }) hK e p6 ⟨rfl,k⟩)
end
end Z
end
section
namespace Z
open PySem PySem.Spec PyProof.Rows L2
noncomputable def tyNm:Ty→Option (Str×String)
 | .int=>some ("int","int")
 | .bool=>some ("bool","bool")
 | .str=>some ("str","str")
 | .tuple=>some ("tuple","tuple")
 | .list=>some ("list","list")
 | .dict=>some ("dict","dict")
 | _=>none
noncomputable def kdNm:Kd→Option String
 | .non=>some "NoneType"
 | .bool=>some "bool"
 | .int=>some "int"
 | .str=>some "str"
 | .tuple=>some "tuple"
 | .list=>some "list"
 | .dict=>some "dict"
 | .exc _=>none
theorem tyNm_boot {t:Ty} {nm:Str} {T:String} (h:tyNm t=some (nm,T)):bootBuiltins nm=some (.type T):=by
 cases t <;> simp only [tyNm,Option.some.injEq,Prod.mk.injEq,reduceCtorEq] at h <;> obtain ⟨rfl,rfl⟩:=h <;> decide +kernel
theorem tyNm_mem {t:Ty} {nm:Str} {T:String} (h:tyNm t=some (nm,T)):nm∈blts:=by
 cases t <;> simp only [tyNm,Option.some.injEq,Prod.mk.injEq,reduceCtorEq] at h <;> obtain ⟨rfl,rfl⟩:=h <;> decide
theorem isT_kit {k:Kd} {t:Ty} {nm:Str} {T U:String} {b:Bool} (ht:tyNm t=some (nm,T)) (hk:kdNm k=some U) (h:isT k t=some b) (K:PySem.W.Frag):PySem.W.kitOne K (.type U) (.type T)=some b:=by
 cases k <;> simp only [kdNm,Option.some.injEq,reduceCtorEq] at hk <;> subst hk <;> cases t <;> simp only [tyNm,Option.some.injEq,Prod.mk.injEq,reduceCtorEq] at ht <;> obtain ⟨rfl,rfl⟩:=ht <;> simp only [isT,Option.some.injEq] at h <;> subst h <;> kernel_rfl
section
variable {X:Cx} {pins:List (Addr×Obj)} {σ:L2.St} {H:Hp} {s:Shared} {ρ:List Addr} {S S':Sto} {env:En} {a:Expr} {fa:En→Sto→R D} {pos:Pos}
theorem kit_d (I:S0 X pins σ H s ρ S env) {d:D} {v:V} {u:Value} {k:Kd} {U:String} (h:kdD S d=some k) (hU:kdNm k=some U) (rd:RD X.K ρ H d v) (rv:RelV v u) :
  ∃ P:Heap→Prop,PySem.W.KitX X.K u (.type U) P∧P s.heap∧u≠.builtin "__main__.__loader__#opaque" := by
 cases d with
 | non=>cases h; cases hU; simp only [RD] at rd; subst rd; cases rv; exact ⟨_,PySem.W.kitx_none,trivial,fun z=>nomatch z⟩
 | bl b=>cases h; cases hU; simp only [RD] at rd; subst rd; cases rv; exact ⟨_,PySem.W.kitx_bool,trivial,fun z=>nomatch z⟩
 | int i=>cases h; cases hU; simp only [RD] at rd; subst rd; obtain ⟨t,rfl⟩:=rv; exact ⟨_,PySem.W.kitx_int,trivial,fun z=>nomatch z⟩
 | str x=>cases h; cases hU; simp only [RD] at rd; subst rd; obtain ⟨t,rfl⟩:=rv; exact ⟨_,PySem.W.kitx_str,trivial,fun z=>nomatch z⟩
 | tup xs =>
  cases h; cases hU
  simp only [RD] at rd
  obtain ⟨p,vs,rfl,hq,_⟩:=rd
  cases rv
  obtain ⟨its,_,pl,_⟩:=I.inv.tuple hq
  obtain ⟨o,h1,h2,_⟩:=pl
  exact ⟨_,PySem.W.kitx_tuple,⟨o,h1,h2⟩,fun z=>nomatch z⟩
 | fro xs =>
  cases h; cases hU
  simp only [RD] at rd
  obtain ⟨p,vs,rfl,hq,_⟩:=rd
  cases rv
  obtain ⟨its,_,pl,_⟩:=I.inv.list hq.sq
  obtain ⟨o,n,h1,h2,_⟩:=pl
  exact ⟨_,PySem.W.kitx_list,⟨o,h1,h2⟩,fun z=>nomatch z⟩
 | fn _ _=>cases h
 | ref n =>
  simp only [kdD] at h
  simp only [RD] at rd
  obtain ⟨p,rfl,hp⟩:=rd
  cases rv
  split at h
  ·rename_i xs e
   cases h; cases hU
   obtain ⟨vs,hv,_⟩:=I.sr.ob n p _ hp e
   obtain ⟨_,its,n',_,h1⟩:=(show ObjOk X.prog X.w H s.heap p (.lst vs) from I.inv.hok p _ hv)
   exact ⟨_,PySem.W.kitx_list,⟨_,h1,rfl⟩,fun z=>nomatch z⟩
  ·rename_i xs e
   cases h; cases hU
   obtain ⟨_,hv⟩:=I.sr.ob n p _ hp e
   obtain ⟨_,_,vs,_,o,es,ep,h1,h2,_⟩:=(show ObjOk X.prog X.w H s.heap p (.dK []) from I.inv.hok p _ hv)
   exact ⟨_,PySem.W.kitx_dict,⟨o,h1,h2.1⟩,fun z=>nomatch z⟩
  ·cases h; cases hU
  ·cases h
theorem d_isi1 {t:Ty} {nm:Str} {T:String} {p0 p1:Pos} (ht:tyNm t=some (nm,T)) (hb:∀ x∈blts,X.mg x=none) (hg0:Gl X "isinstance") (hg:Gl X nm) (hok:okNm nm=true) (ha:DE X a fa) (hst:noStar a=true) :
  DE X (.Call (.Name "isinstance" p0) [a,.Name nm p1] [] pos) (fun env S=>(fa env S).bind fun x S=>match (kdD S x).bind fun k=>isTs k [t] with | some r=>.ok (.bl r) S | none=>.bad):=by
 intro pins s σ H ρ S env I nb
 dsimp only at nb ⊢
 obtain ⟨o1,_,o3⟩:=okNm_ok hok
 refine wpAny_Call_Name_kw (ld_blt I.inv hg0 (hb _ (by decide)) (u:=.builtin "isinstance") (by decide +kernel) ?_)
 refine PyProof.Rows.callWith_builtin1 ?_ (star_cons hst) rfl
 rw [star_cons hst]
 generalize hr:((fa env S).bind fun x S=>match (kdD S x).bind fun k=>isTs k [t] with | some r=>R.ok (D.bl r) S | none=>R.bad)=r at nb ⊢
 refine Calls.spliced_cons (ha.bind I (by rw [hr]; exact nb) hr.symm (fun d S1 u s1 v H1 ρ1 e1 nb1 I1 rv rd st1=>?_) fun _ _ z=>z)
 refine Calls.spliced_cons (ld_blt I1.inv hg (hb _ (tyNm_mem ht)) (tyNm_boot ht) ?_ o3 o1)
 refine Calls.spliced_nil ?_
 cases q:(kdD S1 d).bind fun k=>isTs k [t] with
 | none=>rw [q] at nb1; exact absurd rfl nb1
 | some b =>
  obtain ⟨k,q1,q2⟩:=Option.bind_eq_some_iff.mp q
  have q3:isT k t=some b:=by
   unfold isTs at q2
   cases e:isT k t with
   | none=>rw [e] at q2; cases q2
   | some c=>rw [e] at q2; cases c <;> simp [isTs] at q2 <;> rw [q2]
  rw [e1,q]
  cases hU:kdNm k with
  | none=>cases k <;> simp only [kdNm,reduceCtorEq] at hU; cases t <;> simp only [tyNm,reduceCtorEq] at ht <;> simp only [isT,reduceCtorEq] at q3
  | some U =>
   obtain ⟨P,k1,k2,k3⟩:=kit_d I1 q1 hU rd rv
   exact PySem.W.kia_one k1 I1.inv.kIn k2 (isT_kit ht hU q3 X.K) k3 fun tk=>OkP.pre st1 (fin_b' I1.sr (I1.inv.tok tk))
theorem d_isiE {t:Ty} {nm:Str} {p0 p1:Pos} (er:ErrOk X.K) (ht:(∃ c,t=.cls c∧clsNm c=some nm)∨(t=.valueError∧nm = "ValueError")) (hb:∀ x∈blts,X.mg x=none) (hg0:Gl X "isinstance") (hg:Gl X nm) (hok:okNm nm=true) (ha:DE X a fa) (hst:noStar a=true) :
  DE X (.Call (.Name "isinstance" p0) [a,.Name nm p1] [] pos) (fun env S=>(fa env S).bind fun x S=>match (kdD S x).bind fun k=>isTs k [t] with | some r=>.ok (.bl r) S | none=>.bad):=by
 intro pins s σ H ρ S env I nb
 dsimp only at nb ⊢
 obtain ⟨o1,_,o3⟩:=okNm_ok hok
 refine wpAny_Call_Name_kw (ld_blt I.inv hg0 (hb _ (by decide)) (u:=.builtin "isinstance") (by decide +kernel) ?_)
 refine PyProof.Rows.callWith_builtin1 ?_ (star_cons hst) rfl
 rw [star_cons hst]
 generalize hr:((fa env S).bind fun x S=>match (kdD S x).bind fun k=>isTs k [t] with | some r=>R.ok (D.bl r) S | none=>R.bad)=r at nb ⊢
 refine Calls.spliced_cons (ha.bind I (by rw [hr]; exact nb) hr.symm (fun d S1 u s1 v H1 ρ1 e1 nb1 I1 rv rd st1=>?_) fun _ _ z=>z)
 /- the value is an error -/
 cases q:(kdD S1 d).bind fun k=>isTs k [t] with
 | none=>rw [q] at nb1; exact absurd rfl nb1
 | some b =>
  rw [e1,q]
  obtain ⟨k,q1,q2⟩:=Option.bind_eq_some_iff.mp q
  have q3:isT k t=some b:=by
   unfold isTs at q2
   cases e:isT k t with
   | none=>rw [e] at q2; cases q2
   | some c=>rw [e] at q2; cases c <;> simp [isTs] at q2 <;> rw [q2]
  obtain ⟨c',rfl⟩:∃ c',k=.exc c':=by
   rcases ht with ⟨c,rfl,_⟩ | ⟨rfl,_⟩ <;> cases k <;> first | exact ⟨_,rfl⟩ | (simp only [isT,reduceCtorEq] at q3)
  obtain ⟨n,rfl,hS⟩:∃ n,d=.ref n∧S1[n]?=some (.exc c'):=by
   cases d with
   | ref n =>
    refine ⟨n,rfl,?_⟩
    simp only [kdD] at q1
    split at q1
    ·cases q1
    ·cases q1
    ·rename_i c2 e; cases q1; exact e
    ·cases q1
   | _=>cases q1
  simp only [RD] at rd
  obtain ⟨p,rfl,hp⟩:=rd
  cases rv
  obtain ⟨C,hC,hH⟩:=(show ∃ C,clsAt X.K c'=some C∧H1 p=some (.ext (ExcO C p)) from I1.sr.ob n p _ hp hS)
  obtain ⟨_,⟨b1,b2,b3⟩,a3,a4,a5,a6⟩:=er.cls c' C hC
  have hE:ExcO C p s1.heap:=(show ObjOk X.prog X.w H1 s1.heap p (.ext (ExcO C p)) from I1.inv.hok p _ hH).1
  have kx:=kitx_exc (y:=p) b1 b2 b3 a3 a4 er.gt er.tk a5
  rcases ht with ⟨c,rfl,hc⟩ | ⟨rfl,rfl⟩
  ·obtain ⟨C0,h1,h2⟩:=er.at_ c nm hc
   have e3:b=(c == 0 || c == c'):=by simp only [isT,Option.some.injEq] at q3; exact q3.symm
   subst e3
   refine Calls.spliced_cons (ld_glob I1.inv hg (PySem.W.mg_of I1.inv.mod.kin I1.inv.mod.glob h2) (Calls.spliced_nil ?_) o1)
   exact PySem.W.kia_one kx I1.inv.kIn hE (er.sub c' C c C0 hC h1).1 (fun z=>nomatch z) fun tk=>OkP.pre st1 (fin_b' I1.sr (I1.inv.tok tk))
  ·have e3:b=true:=by simp only [isT,Option.some.injEq] at q3; exact q3.symm
   subst e3
   refine Calls.spliced_cons (ld_blt I1.inv hg (hb _ (by decide)) (u:=.type "ValueError") (by decide +kernel) (Calls.spliced_nil ?_) o3 o1)
   exact PySem.W.kia_one kx I1.inv.kIn hE a6 (fun z=>nomatch z) fun tk=>OkP.pre st1 (fin_b' I1.sr (I1.inv.tok tk))
end
end Z
end
section
namespace Z
open PySem PySem.Spec PyProof.Rows L2
end Z
end
section
namespace Z
open PySem PySem.Spec PyProof.Rows L2
theorem clip_ix (n d:Nat) (o:Option Int):clip n d o=HT.sIx n d o:=by
 cases o with
 | none=>rfl
 | some i =>
  simp only [clip,HT.sIx]
  by_cases h:i < 0
  ·rw [if_pos h,if_neg (by omega)]
  ·rw [if_neg h,if_pos (by omega)]
theorem cut_rd {K:PySem.W.Frag} {ρ:List Addr} {H:Hp} {xs:List D} {vs:List V} (h:RDs K ρ H xs vs) (lo hi:Option Int):RDs K ρ H (cut xs lo hi) (cutV vs lo hi):=by
 unfold cut cutV
 rw [clip_ix,clip_ix,h.length]
 exact (h.drop _).take _
section
variable {prog:Program} {w:World} {A:Around} {E:Value→Shared→Prop} {s:Shared}
theorem tuple_whole {t sl:Addr} {items:Array Value} {vl vu:Value} {lo hi:Option Int} {Q:Value→Shared→Prop} (ht:IsTup s.heap t items) (hs:s.heap.IsSliceOf sl vl vu .none) (pl:IsPart vl lo) (pu:IsPart vu hi)
  (h1:HT.sIx items.size 0 lo=0) (h2:HT.sIx items.size items.size hi=items.size) (h:Q (.ref t) s):wpAny (model prog w) A (getItem (.ref t) (.ref sl)) Q E s:=by
 obtain ⟨os,hos,hcs,hds⟩:=id hs
 have hTs:s.TypeIs (.ref sl) "slice" := ⟨os,hos,hcs⟩
 unfold getItem
 try with_reducible refine wpAny_holding ?_
 first | refine wpAny_bind (wpAny_pure ?_) | skip
 refine wpAny_bind (wpAny_sequenceKey ht.typeIs (by decide) (wpAny_bind (wpAny_callSpecial?_slot (name:=Str.ofString "__getitem__") ht.typeIs PyProof.Rows.slot_tuple_getitem (wpAny_call_entry PyProof.Rows.slot_tuple_getitem ht.typeIs entry_tuple_getitem ?_ (args_tuple_getitem _ _)))))
 show wpAny _ _ (Builtin.Tuple.tupleItemsOf (.ref t) >>= _) _ _ s
 refine wpAny_bind (tupleItemsOf_ ht (wpAny_bind (wpAny_typeOf hTs ?_)))
 rw [if_pos (by decide)]
 refine wpAny_bind (HT.sliceApplied_gen hs pl pu ?_)
 show wpAny _ _ (if (((HT.sIx items.size 0 lo:Nat):Int) == 0 && (1:Int) == 1 && (HT.sIx items.size items.size hi - HT.sIx items.size 0 lo) == items.size)=true then _ else _) _ _ s
 rw [h1,h2,if_pos (by simp)]
 refine wpAny_bind ?_
 unfold Builtin.Tuple.tupleIsExact
 refine wpAny_bind (wpAny_typeOf ht.typeIs (wpAny_pure ?_))
 rw [if_pos (by decide)]
 exact wpAny_bind (wpAny_rule (wpAny_pure ⟨_,rfl,wpAny_pure h⟩))
end
noncomputable def PartR (K:PySem.W.Frag) (ρ:List Addr) (H:Hp) (o:Option D) (u:Value):Prop:=match o with
 | none=>u=.none
 | some d=>∃ v,RelV v u∧RD K ρ H d v
noncomputable def DO (X:Cx) (e:Option Expr) (f:En→Sto→R (Option D)):Prop :=
 ∀ (pins:List (Addr×Obj)) (s:Shared) (σ:L2.St) (H:Hp) (ρ:List Addr) (S:Sto) (env:En),S0 X pins σ H s ρ S env→f env S≠.bad →
  wpAny (model X.prog X.w) X.A (evalPart e X.env) (fun u s'=>∃ o S',f env S=.ok o S'∧∃ H' ρ',Inv X pins σ H' s'∧SR X.K ρ' S' H'∧Stp X.K ρ ρ' H H'∧PartR X.K ρ' H' o u) (ExP X pins σ ρ H (f env S)) s
section
variable {X:Cx} {pins:List (Addr×Obj)} {σ:L2.St} {H:Hp} {s:Shared} {ρ:List Addr} {S S':Sto} {env:En} {a:Expr} {fa:En→Sto→R D} {pos p2:Pos}
theorem do_none:DO X none (fun _ S=>.ok none S):=by
 intro pins s σ H ρ S env I nb
 rw [evalPart_none]
 exact wpAny_pure ⟨none,S,rfl,H,ρ,I.inv,I.sr,.refl,rfl⟩
theorem do_some (h:DE X a fa):DO X (some a) (fun env S=>(fa env S).bind fun x S=>.ok (some x) S):=by
 intro pins s σ H ρ S env I nb
 dsimp only at nb ⊢
 rw [evalPart_some]
 refine h.bind I nb rfl (fun d S1 u s1 v H1 ρ1 e1 nb1 I1 rv rd st1=>?_) fun _ _ z=>z
 exact ⟨some d,S1,e1,H1,ρ1,I1.inv,I1.sr,st1,v,rv,rd⟩
theorem DO.bind {α:Type} {e:Option Expr} {f:En→Sto→R (Option D)} (h:DO X e f) (I:S0 X pins σ H s ρ S env) {k:Option D→Sto→R α} {r:R α} {Q:Value→Shared→Prop} {E:Value→Shared→Prop} (nb:(f env S).bind k≠.bad) (hr:r=(f env S).bind k)
  (hQ:∀ o S1 u s' H' ρ',r=k o S1→k o S1≠.bad→S0 X pins σ H' s' ρ' S1 env→PartR X.K ρ' H' o u→Stp X.K ρ ρ' H H'→Q u s') (hE:∀ x s',ExP X pins σ ρ H r x s'→E x s'):wpAny (model X.prog X.w) X.A (evalPart e X.env) Q E s:=by
 cases q:f env S with
 | bad=>rw [q] at nb; exact absurd rfl nb
 | ex n S1 =>
  rw [q] at hr
  refine wpAny_mono (h pins s σ H ρ S env I (by rw [q]; exact fun z=>nomatch z)) (fun u s' z=>?_) fun x s' z=>?_
  ·obtain ⟨o,S2,e,_⟩:=z; rw [q] at e; cases e
  ·obtain ⟨m,S2,e,z⟩:=z; rw [q] at e; cases e; exact hE x s' ⟨n,S1,hr,z⟩
 | ok o S1 =>
  rw [q] at hr nb
  refine wpAny_mono (h pins s σ H ρ S env I (by rw [q]; exact fun z=>nomatch z)) (fun u s' z=>?_) fun x s' z=>?_
  ·obtain ⟨o',S2,e,H',ρ',J,sr,st,pr⟩:=z
   rw [q] at e; cases e
   exact hQ o S1 u s' H' ρ' hr nb (I.step J sr st) pr st
  ·obtain ⟨m,S2,e,z⟩:=z; rw [q] at e; cases e
theorem part_of {K:PySem.W.Frag} {o:Option D} {u:Value} {oi:Option Int} (h:PartR K ρ H o u) (e:optI o=some oi):IsPart u oi:=by
 cases o with
 | none =>
  have e':some none=some oi:=e
  cases e'
  have h':u=.none:=h
  subst h'
  exact .none
 | some d =>
  cases d with
  | int i =>
   have e':some (some i)=some oi:=e
   cases e'
   obtain ⟨v,rv,rd⟩:=h
   simp only [RD] at rd
   subst rd
   obtain ⟨t,rfl⟩:=rv
   exact .int i t
  | _=>cases e
theorem PartR.mono {K:PySem.W.Frag} {ρ':List Addr} {H':Hp} {o:Option D} {u:Value} (h:PartR K ρ H o u) (st:Stp K ρ ρ' H H'):PartR K ρ' H' o u:=by
 cases o with
 | none=>exact h
 | some d=>obtain ⟨v,rv,rd⟩:=h; exact ⟨v,rv,rd.mono st⟩
theorem d_sli {lo hi:Option Expr} {fl fh:En→Sto→R (Option D)} (ha:DE X a fa) (hl:DO X lo fl) (hh:DO X hi fh) :
  DE X (.Subscript a (.Slice lo hi none p2) pos) (fun env S=>(fa env S).bind fun x S=>(fl env S).bind fun l S=>(fh env S).bind fun h S=>match optI l,optI h with
   | some l,some h=>sliD x l h S
   | _,_=>.bad):=by
 intro pins s σ H ρ S env I nb
 dsimp only at nb ⊢
 refine Subscript_ (ha.bind I nb rfl (fun d S1 u s1 v H1 ρ1 e1 nb1 I1 rv rd st1=>?_) fun _ _ z=>z)
 rw [e1]
 refine wpAny_Slice (hl.bind I1 nb1 rfl (fun l S2 vl s2 H2 ρ2 e2 nb2 I2 pl st2=>?_) fun x s' z=>z.pre st1)
 rw [e2]
 refine hh.bind I2 nb2 rfl (fun h S3 vu s3 H3 ρ3 e3 nb3 I3 pu st3=>?_) fun x s' z=>(z.pre st2).pre st1
 rw [e3]
 cases q1:optI l with
 | none=>rw [q1] at nb3; exact absurd rfl nb3
 | some li =>
  cases q2:optI h with
  | none=>rw [q1,q2] at nb3; exact absurd rfl nb3
  | some hi' =>
   rw [q1,q2] at nb3
   dsimp only at nb3 ⊢
   rw [evalPart_none]
   refine wpAny_pure ?_
   have P1:=part_of pl q1
   have P2:=part_of pu q2
   have rd3:=(rd.mono st2).mono st3
   have J:Inv X pins σ H3 { s3 with heap:=s3.heap.push { cls:=.type "slice",data:=.fields #[vl,vu,.none] } }:=I3.inv.kept (t':=s3.toks) fun b ob q=>Heap.get?_push_of_some _ q
   have fin:∀ {T id:String},typeLookup (.type T) "__getitem__" = pure (some (.builtin id))→({ s3 with heap:=s3.heap.push { cls:=.type "slice",data:=.fields #[vl,vu,.none] } }:Shared).TypeIs u T →
     wpAny (model X.prog X.w) X.A (getItem u (.ref s3.heap.objs.size)) (OkP X pins σ ρ3 H3 (sliD d li hi' S3)) (ExP X pins σ ρ3 H3 (sliD d li hi' S3)) { s3 with heap:=s3.heap.push { cls:=.type "slice",data:=.fields #[vl,vu,.none] } } →
     wpAny (model X.prog X.w) X.A (subscriptTail a (.Slice lo hi none p2) u (.ref s3.heap.objs.size)) (OkP X pins σ ρ H (sliD d li hi' S3)) (ExP X pins σ ρ H (sliD d li hi' S3)) { s3 with heap:=s3.heap.push { cls:=.type "slice",data:=.fields #[vl,vu,.none] } }:=fun t1 t2 g =>
    tail_any (ops:=[.ref s3.heap.objs.size,u]) t2 t1 (wpAny_mono g (fun _ _ z=>OkP.pre ((st1.trans st2).trans st3) z) fun _ _ z=>ExP.pre ((st1.trans st2).trans st3) z) (by with_unfolding_all rfl)
   cases d with
   | tup xs =>
    simp only [RD] at rd3
    obtain ⟨p,vs,rfl,hq,hr⟩:=rd3
    cases rv
    obtain ⟨its,r,ht,hz⟩:=J.tuple hq
    have hlen:its.toArray.size=vs.length:=by rw [List.size_toArray]; exact r.length.symm
    refine fin PyProof.Rows.slot_tuple_getitem.lookup ht.typeIs ?_
    by_cases hw:HT.sIx vs.length 0 li=0∧HT.sIx vs.length vs.length hi'=vs.length
    ·refine tuple_whole ht (Heap.IsSliceOf.new ..) P1 P2 (by rw [hlen]; exact hw.1) (by rw [hlen]; exact hw.2) ?_
     have e:cut xs li hi'=xs:=by
      unfold cut
      rw [clip_ix,clip_ix,hr.length,hw.1,hw.2,List.drop_zero,Nat.sub_zero,← hr.length,List.take_length]
     refine .mk (v:=.ref p) .refl J rfl ?_ I3.sr
     rw [e]; simp only [RD]; exact ⟨p,vs,rfl,hq,hr⟩
    ·refine HT.getItem_tuple_cut ht (Heap.IsSliceOf.new ..) P1 P2 (by rw [hlen]; exact hw) ?_ (by rw [hlen]; exact hz)
     rw [hlen]
     refine fin_tup (vs:=cutV vs li hi') (J.laid (t':=s3.toks) (fun b ob q=>Heap.get?_push_of_some _ q) (Nat.le_refl _) ?_) (J.hok.fresh (Nat.le_refl _)) I3.sr (cut_rd hr li hi')
     exact ⟨Nat.le_trans (cutV_length vs li hi') hz,_,(r.drop (HT.sIx vs.length 0 li)).take (HT.sIx vs.length vs.length hi' - HT.sIx vs.length 0 li),⟨_,Heap.get?_push_size _ rfl,rfl,_,rfl⟩⟩
   | ref n =>
    cases e4:lstAt S3 n with
    | none=>simp [sliD,e4] at nb3
    | some xs =>
     obtain ⟨b,vs,k1,k2,k3⟩:=I3.list e4
     simp only [RD] at rd3
     obtain ⟨b',rfl,k4⟩:=rd3
     rw [k1] at k4; cases k4
     cases rv
     obtain ⟨its,r,ht,hz⟩:=J.list (.of k2)
     have hlen:=r.length
     refine fin slot_list_getitem.lookup ht.isList.typeIs ?_
     refine wpAny_getItem_list_slice ht.isList (Heap.IsSliceOf.new ..) P1 P2 .none (by simp) ?_ (by rw [List.size_toArray] <;> omega)
     rw [slicePick_cut,← hlen]
     have e5:sliD (.ref n) li hi' S3=.ok (.ref S3.length) (S3++[.lst (cut xs li hi')]):=by simp only [sliD,e4]
     rw [e5]
     refine fin_lst (vs:=cutV vs li hi') (J.laid (t':=s3.toks) (fun b ob q=>Heap.get?_push_of_some _ q) (Nat.le_refl _) ?_) (J.hok.fresh (Nat.le_refl _)) I3.sr (cut_rd k3 li hi')
     exact ⟨Nat.le_trans (cutV_length vs li hi') hz,_,0,(r.drop (HT.sIx vs.length 0 li)).take (HT.sIx vs.length vs.length hi' - HT.sIx vs.length 0 li),Heap.get?_push_size _ rfl⟩
   | _=>exact absurd rfl nb3
end
theorem kitAny2 {K:PySem.W.Frag} {k:Kd} {t1 t2:Ty} {n1 n2:Str} {T1 T2 U:String} {b:Bool} (h1:tyNm t1=some (n1,T1)) (h2:tyNm t2=some (n2,T2)) (hk:kdNm k=some U) (h:isTs k [t1,t2]=some b) :
  PySem.W.kitAny K (.type U) [.type T1,.type T2]=some b:=by
 simp only [isTs] at h
 unfold PySem.W.kitAny
 cases e1:isT k t1 with
 | none=>rw [e1] at h; cases h
 | some c1 =>
  rw [e1] at h
  rw [isT_kit h1 hk e1 K]
  cases c1 with
  | true=>cases h; rfl
  | false =>
   dsimp only at h ⊢
   unfold PySem.W.kitAny
   cases e2:isT k t2 with
   | none=>rw [e2] at h; cases h
   | some c2 =>
    rw [e2] at h
    rw [isT_kit h2 hk e2 K]
    cases c2 with
    | true=>cases h; rfl
    | false=>cases h; rfl
section
variable {X:Cx} {pins:List (Addr×Obj)} {σ:L2.St} {H:Hp} {s:Shared} {ρ:List Addr} {S S':Sto} {env:En} {a:Expr} {fa:En→Sto→R D} {pos:Pos}
theorem d_isi2 {t1 t2:Ty} {n1 n2:Str} {T1 T2:String} {p0 q1 q2 p3:Pos} {k3:Nat} (h1:tyNm t1=some (n1,T1)) (h2:tyNm t2=some (n2,T2)) (hb:∀ x∈blts,X.mg x=none) (hg0:Gl X "isinstance") (g1:Gl X n1) (g2:Gl X n2) (o1:okNm n1=true) (o2:okNm n2=true) (ha:DE X a fa) (hst:noStar a=true) :
  DE X (.Call (.Name "isinstance" p0) [a,.Tuple [.Name n1 q1,.Name n2 q2] k3 p3] [] pos) (fun env S=>(fa env S).bind fun x S=>match (kdD S x).bind fun k=>isTs k [t1,t2] with | some r=>.ok (.bl r) S | none=>.bad):=by
 intro pins s σ H ρ S env I nb
 dsimp only at nb ⊢
 obtain ⟨a1,_,a3⟩:=okNm_ok o1
 obtain ⟨b1,_,b3⟩:=okNm_ok o2
 refine wpAny_Call_Name_kw (ld_blt I.inv hg0 (hb _ (by decide)) (u:=.builtin "isinstance") (by decide +kernel) ?_)
 refine PyProof.Rows.callWith_builtin1 ?_ (star_cons hst) rfl
 rw [star_cons hst]
 generalize hr:((fa env S).bind fun x S=>match (kdD S x).bind fun k=>isTs k [t1,t2] with | some r=>R.ok (D.bl r) S | none=>R.bad)=r at nb ⊢
 refine Calls.spliced_cons (ha.bind I (by rw [hr]; exact nb) hr.symm (fun d S1 u s1 v H1 ρ1 e1 nb1 I1 rv rd st1=>?_) fun _ _ z=>z)
 refine Calls.spliced_cons (wpAny_Tuple_spliced (x1:=k3) (Calls.spliced_cons (ld_blt I1.inv g1 (hb _ (tyNm_mem h1)) (tyNm_boot h1) (Calls.spliced_cons (ld_blt I1.inv g2 (hb _ (tyNm_mem h2)) (tyNm_boot h2) (Calls.spliced_nil ⟨by show 2≤sizeLine; decide,?_⟩) b3 b1)) a3 a1)))
 refine Calls.spliced_nil ?_
 cases q:(kdD S1 d).bind fun k=>isTs k [t1,t2] with
 | none=>rw [q] at nb1; exact absurd rfl nb1
 | some b =>
  obtain ⟨k,k1,k2⟩:=Option.bind_eq_some_iff.mp q
  rw [e1,q]
  have J:Inv X pins σ H1 { s1 with heap:=s1.heap.push { cls:=.type "tuple",data:=.seq #[.type T1,.type T2] } }:=I1.inv.kept (t':=s1.toks) fun b ob q=>Heap.get?_push_of_some _ q
  have I2:S0 X pins σ H1 { s1 with heap:=s1.heap.push { cls:=.type "tuple",data:=.seq #[.type T1,.type T2] } } ρ1 S1 env:=⟨J,I1.sr,I1.er⟩
  cases hU:kdNm k with
  | none =>
   cases k with
   | exc c =>
    simp only [isTs] at k2
    have z:isT (.exc c) t1=none:=by cases t1 <;> simp only [tyNm,reduceCtorEq] at h1 <;> rfl
    rw [z] at k2; cases k2
   | _=>cases hU
  | some U =>
   obtain ⟨P,z1,z2,z3⟩:=kit_d I2 k1 hU rd rv
   exact PySem.W.kia_tup (its:=[.type T1,.type T2]) z1 J.kIn z2 (Heap.get?_push_size _ rfl) (kitAny2 h1 h2 hU k2) z3 fun tk=>OkP.pre st1 (fin_b' I1.sr (J.tok tk))
end
end Z
end
section
namespace Z
open PySem PySem.Spec PyProof.Rows L2
open Builtin.Slice (sliceAdjust slicePlaces)
noncomputable def pickL {α:Type} (lo c:Int) (n:Nat) (xs:List α):List α:=(List.range n).filterMap fun (k:Nat)=>xs[(lo + (k:Int) * c).toNat]?
noncomputable def stpL {α:Type} (xs:List α) (l:Option Int) (c:Int):List α:=pickL (sliceAdjust l none c xs.length).1 c (slicePlaces (sliceAdjust l none c xs.length).1 (sliceAdjust l none c xs.length).2 c) xs
theorem fm_rd {K:PySem.W.Frag} {ρ:List Addr} {H:Hp} {xs:List D} {vs:List V} (h:RDs K ρ H xs vs) (ix:Nat→Nat):∀ ks:List Nat,RDs K ρ H (ks.filterMap fun k=>xs[ix k]?) (ks.filterMap fun k=>vs[ix k]?)
 | []=>.nil
 | k :: ks=>by
  cases e:xs[ix k]? with
  | none =>
   have e2:=h.none e
   simp only [List.filterMap_cons,e,e2]
   exact fm_rd h ix ks
  | some d =>
   obtain ⟨v,e2,r⟩:=h.get e
   simp only [List.filterMap_cons,e,e2]
   exact .cons r (fm_rd h ix ks)
theorem fm_vals {xs:List V} {us:List Value} (h:Vals xs us) (ix:Nat→Nat):∀ ks:List Nat,Vals (ks.filterMap fun k=>xs[ix k]?) (ks.filterMap fun k=>us[ix k]?)
 | []=>.nil
 | k :: ks=>by
  cases e:xs[ix k]? with
  | none =>
   have e2:us[ix k]?=none:=by rw [List.getElem?_eq_none_iff] at e ⊢; rw [← h.length]; exact e
   simp only [List.filterMap_cons,e,e2]
   exact fm_vals h ix ks
  | some d =>
   obtain ⟨v,e2,r⟩:=h.get e
   simp only [List.filterMap_cons,e,e2]
   exact .cons r (fm_vals h ix ks)
theorem stp_rd {K:PySem.W.Frag} {ρ:List Addr} {H:Hp} {xs:List D} {vs:List V} (h:RDs K ρ H xs vs) (l:Option Int) (c:Int):RDs K ρ H (stpL xs l c) (stpL vs l c):=by
 unfold stpL; rw [h.length]; exact fm_rd h _ _
theorem stp_vals {xs:List V} {us:List Value} (h:Vals xs us) (l:Option Int) (c:Int):Vals (stpL xs l c) (stpL us l c):=by
 unfold stpL; rw [h.length]; exact fm_vals h _ _
theorem places_le {lo hi c:Int} {n:Nat} (hc:c < 0) (h1:lo≤(n:Int) - 1) (h2:-1≤hi):slicePlaces lo hi c≤n:=by
 unfold slicePlaces
 rw [if_neg (by omega)]
 split
 ·have:(lo - hi - 1) / (-c)≤lo - hi - 1:=Int.ediv_le_self _ (by omega)
  omega
 ·simp
theorem adj_bd {l:Option Int} {c:Int} {n:Nat} (hc:c < 0):(sliceAdjust l none c n).1≤(n:Int) - 1∧(sliceAdjust l none c n).2 = -1:=by
 unfold sliceAdjust
 simp only [hc,if_true,and_true]
 cases l with
 | none=>exact Int.le_refl _
 | some v=>dsimp only; split <;> omega
theorem stp_len {α:Type} (xs:List α) {l:Option Int} {c:Int} (hc:c < 0):(stpL xs l c).length≤xs.length:=by
 unfold stpL pickL
 refine Nat.le_trans (List.length_filterMap_le _ _) ?_
 rw [List.length_range]
 exact places_le hc (adj_bd hc).1 (by rw [(adj_bd hc).2]; omega)
section
variable {prog:Program} {w:World} {A:Around} {E:Value→Shared→Prop} {s:Shared}
theorem applied_back {sl:Addr} {vl vs:Value} {lo:Option Int} {c:Int} {n:Nat} {Q:Int×Int×Nat→Shared→Prop} (hc:c < 0) (hs:s.heap.IsSliceOf sl vl .none vs) (pl:IsPart vl lo) (ps:IsPart vs (some c))
  (h:Q ((sliceAdjust lo none c n).1,c,slicePlaces (sliceAdjust lo none c n).1 (sliceAdjust lo none c n).2 c) s):wpAny (model prog w) A (Builtin.Slice.sliceApplied (.ref sl) (pure (n:Int))) Q E s:=by
 obtain ⟨os,hos,hcs,hds⟩:=id hs
 unfold Builtin.Slice.sliceApplied Builtin.Slice.sliceFields
 refine wpAny_bind (wpAny_bind (wpAny_field hos hds (x:=vl) rfl (wpAny_bind (wpAny_field hos hds (x:=.none) rfl (wpAny_bind (wpAny_field hos hds (x:=vs) rfl (wpAny_pure ?_)))))))
 refine wpAny_bind (HT.slicePart_ ps ?_)
 show wpAny _ _ (if (c == 0)=true then _ else _) _ _ s
 rw [if_neg (by simp; omega)]
 refine wpAny_bind (HT.slicePart_ pl (wpAny_bind (HT.slicePart_ .none (wpAny_bind (wpAny_pure ?_)))))
 exact wpAny_pure h
theorem tuple_back {t sl:Addr} {its:List Value} {vl vs:Value} {lo:Option Int} {c:Int} {Q:Value→Shared→Prop} (hc:c < 0) (ht:IsTup s.heap t its.toArray) (hs:s.heap.IsSliceOf sl vl .none vs) (pl:IsPart vl lo) (ps:IsPart vs (some c))
  (h:Q (.ref s.heap.objs.size) { s with heap:=s.heap.push { cls:=.type "tuple",data:=.seq (stpL its lo c).toArray } }) (hsz:its.length≤sizeLine):wpAny (model prog w) A (getItem (.ref t) (.ref sl)) Q E s:=by
 have hso:sizeOk (.seq (stpL its lo c).toArray):=by
  show (stpL its lo c).toArray.size≤sizeLine
  rw [List.size_toArray]; exact Nat.le_trans (stp_len its hc) hsz
 obtain ⟨os,hos,hcs,hds⟩:=id hs
 have hTs:s.TypeIs (.ref sl) "slice" := ⟨os,hos,hcs⟩
 unfold getItem
 try with_reducible refine wpAny_holding ?_
 first | refine wpAny_bind (wpAny_pure ?_) | skip
 refine wpAny_bind (wpAny_sequenceKey ht.typeIs (by decide) (wpAny_bind (wpAny_callSpecial?_slot (name:=Str.ofString "__getitem__") ht.typeIs PyProof.Rows.slot_tuple_getitem (wpAny_call_entry PyProof.Rows.slot_tuple_getitem ht.typeIs entry_tuple_getitem ?_ (args_tuple_getitem _ _)))))
 show wpAny _ _ (Builtin.Tuple.tupleItemsOf (.ref t) >>= _) _ _ s
 refine wpAny_bind (tupleItemsOf_ ht (wpAny_bind (wpAny_typeOf hTs ?_)))
 rw [if_pos (by decide),List.size_toArray]
 refine wpAny_bind (applied_back hc hs pl ps ?_)
 show wpAny _ _ (if ((sliceAdjust lo none c its.length).1 == 0 && c == 1 && slicePlaces (sliceAdjust lo none c its.length).1 (sliceAdjust lo none c its.length).2 c == its.length)=true then _ else _) _ _ s
 have hn:(c == 1)=false:=by simp; omega
 rw [if_neg (by rw [hn]; simp)]
 have e:((List.range (slicePlaces (sliceAdjust lo none c its.length).1 (sliceAdjust lo none c its.length).2 c)).filterMap fun (k:Nat)=>its.toArray[((sliceAdjust lo none c its.length).1 + (k:Int) * c).toNat]?)=stpL its lo c:=by
  unfold stpL pickL
  simp
 rw [e]
 first
  | exact wpAny_bind (m:=Builtin.Tuple.tupleExact _) (wpAny_newObj_type (wpAny_pure ⟨_,rfl,wpAny_pure h⟩) hso)
  | exact wpAny_bind (wpAny_bind (m:=Builtin.Tuple.tupleExact _) (wpAny_newObj_type (wpAny_pure ⟨_,rfl,wpAny_pure h⟩) hso))
end
theorem pick_back (its:List Value) (lo:Option Int) {c:Int} (hc:c < 0):slicePick its.toArray lo none (some c)=(stpL its lo c).toArray:=by
 have hn:¬ c > 0:=by omega
 have e1:(sliceBounds lo none (some c) its.length).1=(sliceAdjust lo none c its.length).1:=by
  unfold sliceBounds sliceAdjust
  simp only [Option.getD_some,hn,hc,if_true,if_false]
  cases lo with
  | none=>rfl
  | some v=>dsimp only; split <;> omega
 have e2:(sliceBounds lo none (some c) its.length).2.1 = -1:=by
  unfold sliceBounds
  simp only [Option.getD_some,hn,if_false]
 have e3:(sliceBounds lo none (some c) its.length).2.2=c:=rfl
 unfold slicePick stpL pickL
 rw [List.size_toArray,e1,e2,e3,(adj_bd hc).2]
 generalize (sliceAdjust lo none c its.length).1=a
 have e4:slicePlaces a (-1) c=(if a > -1 then (a - -1 - c - 1) / (-c) else 0).toNat:=by
  unfold slicePlaces
  rw [if_neg hn]
  congr 1
  split
  ·have:a - -1 - c - 1=(a - -1 - 1) + 1 * (-c):=by omega
   rw [this,Int.add_mul_ediv_right _ _ (by omega)]
  ·rfl
 unfold sliceRange
 simp only [hn,if_false]
 rw [e4,List.filterMap_map]
 congr 2
 funext k
 simp only [Function.comp,List.getElem?_toArray]
 rw [Int.mul_comm]
theorem fm_congr {α β:Type} {f g:α→Option β}:∀ {l:List α},(∀ x∈l,f x=g x)→l.filterMap f=l.filterMap g
 | [],_=>rfl
 | x :: l,h=>by rw [List.filterMap_cons,List.filterMap_cons,h x (by simp),fm_congr fun y hy=>h y (by simp [hy])]
theorem stp_rev {α:Type} (xs:List α):stpL xs none (-1)=xs.reverse:=by
 unfold stpL pickL
 have e1:(sliceAdjust none none (-1) (xs.length:Int))=((xs.length:Int) - 1,-1):=rfl
 rw [e1]
 have e2:slicePlaces ((xs.length:Int) - 1) (-1) (-1)=xs.length:=by
  unfold slicePlaces
  rw [if_neg (by decide)]
  split
  ·simp
  ·omega
 dsimp only
 rw [e2]
 have:∀ (n:Nat) (ys:List α),ys.length=n→(List.range n).filterMap (fun k=>ys[k]?)=ys:=by
  intro n
  induction n with
  | zero=>intro ys h; rw [List.eq_nil_of_length_eq_zero h]; rfl
  | succ n ih =>
   intro ys h
   cases ys with
   | nil=>cases h
   | cons y ys =>
    rw [List.range_succ_eq_map,List.filterMap_cons,List.filterMap_map]
    simp only [List.getElem?_cons_zero]
    congr 1
    exact ih ys (by simpa using h)
 rw [← this xs.length xs.reverse (by simp)]
 refine fm_congr fun k hk=>?_
 have hk:=List.mem_range.mp hk
 rw [List.getElem?_reverse hk]
 congr 1
 omega
noncomputable def stpD (l:Option Int) (c:Int) (x:D) (S:Sto):R D :=
 match x with
 | .tup xs=>.ok (.tup (stpL xs l c)) S
 | .ref n=>match lstAt S n with
  | some xs=>.ok (.ref S.length) (S++[.lst (stpL xs l c)])
  | none=>.bad
 | _=>.bad
theorem stpD_rev (x:D) (S:Sto):stpD none (-1) x S=revD x S:=by
 cases x <;> simp only [stpD,revD,stp_rev] <;> rfl
section
variable {X:Cx} {pins:List (Addr×Obj)} {σ:L2.St} {H:Hp} {s:Shared} {ρ:List Addr} {S S':Sto} {env:En} {a:Expr} {fa:En→Sto→R D} {pos p2:Pos}
theorem d_stp {lo:Option Expr} {st:Expr} {l:Option Int} {c:Int} (hc:c < 0) (ha:DE X a fa) (hl:DO X lo (fun _ S=>.ok (l.map D.int) S)) (hh:DO X (some st) (fun _ S=>.ok (some (.int c)) S)) :
  DE X (.Subscript a (.Slice lo none (some st) p2) pos) (fun env S=>(fa env S).bind fun x S=>stpD l c x S):=by
 intro pins s σ H ρ S env I nb
 dsimp only at nb ⊢
 refine Subscript_ (ha.bind I nb rfl (fun d S1 u s1 v H1 ρ1 e1 nb1 I1 rv rd st1=>?_) fun _ _ z=>z)
 rw [e1]
 have cst:∀ {e:Option Expr} {o:Option D} {s2:Shared} {H2:Hp} {ρ2:List Addr} {Q:Value→Shared→Prop} {E:Value→Shared→Prop},DO X e (fun _ S=>.ok o S)→S0 X pins σ H2 s2 ρ2 S1 env→(∀ u s' H' ρ',S0 X pins σ H' s' ρ' S1 env→PartR X.K ρ' H' o u→Stp X.K ρ2 ρ' H2 H'→Q u s') →
   wpAny (model X.prog X.w) X.A (evalPart e X.env) Q E s2:=fun he I2 hQ=>by
  refine wpAny_mono (he pins _ σ _ _ S1 env I2 (fun z=>nomatch z)) (fun u s' ⟨o',S2,e,H',ρ',J,sr,st,pr⟩=>?_) fun x s' ⟨_,_,e,_⟩=>nomatch e
  cases e
  exact hQ u s' H' ρ' (I2.step J sr st) pr st
 refine wpAny_Slice (cst hl I1 fun vl s2 H2 ρ2 I2 pl st2=>?_)
 rw [evalPart_none]
 refine wpAny_pure ?_
 refine cst hh I2 fun vs s3 H3 ρ3 I3 ps st3=>?_
 have P1:IsPart vl l:=part_of pl (by cases l <;> rfl)
 have P2:IsPart vs (some c):=part_of ps rfl
 have rd3:=(rd.mono st2).mono st3
 have J:Inv X pins σ H3 { s3 with heap:=s3.heap.push { cls:=.type "slice",data:=.fields #[vl,.none,vs] } }:=I3.inv.kept (t':=s3.toks) fun b ob q=>Heap.get?_push_of_some _ q
 have fin:∀ {T id:String},typeLookup (.type T) "__getitem__" = pure (some (.builtin id))→({ s3 with heap:=s3.heap.push { cls:=.type "slice",data:=.fields #[vl,.none,vs] } }:Shared).TypeIs u T →
   wpAny (model X.prog X.w) X.A (getItem u (.ref s3.heap.objs.size)) (OkP X pins σ ρ3 H3 (stpD l c d S1)) (ExP X pins σ ρ3 H3 (stpD l c d S1)) { s3 with heap:=s3.heap.push { cls:=.type "slice",data:=.fields #[vl,.none,vs] } } →
   wpAny (model X.prog X.w) X.A (subscriptTail a (.Slice lo none (some st) p2) u (.ref s3.heap.objs.size)) (OkP X pins σ ρ H (stpD l c d S1)) (ExP X pins σ ρ H (stpD l c d S1)) { s3 with heap:=s3.heap.push { cls:=.type "slice",data:=.fields #[vl,.none,vs] } }:=fun t1 t2 g =>
  tail_any (ops:=[u,.ref s3.heap.objs.size]) t2 t1 (wpAny_mono g (fun _ _ z=>OkP.pre ((st1.trans st2).trans st3) z) fun _ _ z=>ExP.pre ((st1.trans st2).trans st3) z) (by with_unfolding_all rfl)
 cases d with
 | tup xs =>
  simp only [RD] at rd3
  obtain ⟨p,ws,rfl,hq,hr⟩:=rd3
  cases rv
  obtain ⟨its,r,ht,hz⟩:=J.tuple hq
  have hlen:=r.length
  refine fin PyProof.Rows.slot_tuple_getitem.lookup ht.typeIs ?_
  refine tuple_back hc ht (Heap.IsSliceOf.new ..) P1 P2 ?_ (by omega)
  refine fin_tup (vs:=stpL ws l c) (J.laid (t':=s3.toks) (fun b ob q=>Heap.get?_push_of_some _ q) (Nat.le_refl _) ?_) (J.hok.fresh (Nat.le_refl _)) I3.sr (stp_rd hr l c)
  exact ⟨Nat.le_trans (stp_len ws hc) hz,_,stp_vals r l c,⟨_,Heap.get?_push_size _ rfl,rfl,_,rfl⟩⟩
 | ref n =>
  cases e4:lstAt S1 n with
  | none=>simp [stpD,e4] at nb1
  | some xs =>
   obtain ⟨b,ws,k1,k2,k3⟩:=I3.list e4
   simp only [RD] at rd3
   obtain ⟨b',rfl,k4⟩:=rd3
   rw [k1] at k4; cases k4
   cases rv
   obtain ⟨its,r,ht,hz⟩:=J.list (.of k2)
   have hlen:=r.length
   refine fin slot_list_getitem.lookup ht.isList.typeIs ?_
   refine wpAny_getItem_list_slice ht.isList (Heap.IsSliceOf.new ..) P1 .none P2 (by intro z; cases z; omega) ?_ (by rw [List.size_toArray] <;> omega)
   rw [pick_back _ _ hc]
   have e5:stpD l c (.ref n) S1=.ok (.ref S1.length) (S1++[.lst (stpL xs l c)]):=by simp only [stpD,e4]
   rw [e5]
   refine fin_lst (vs:=stpL ws l c) (J.laid (t':=s3.toks) (fun b ob q=>Heap.get?_push_of_some _ q) (Nat.le_refl _) ?_) (J.hok.fresh (Nat.le_refl _)) I3.sr (stp_rd k3 l c)
   exact ⟨Nat.le_trans (stp_len ws hc) hz,_,0,stp_vals r l c,Heap.get?_push_size _ rfl⟩
 | _=>exact absurd rfl nb1
theorem do_mn {i:Int} {e:Expr} (h:mnC i e=true):DO X (some e) (fun _ S=>.ok (some (.int (-i))) S):=by
 unfold mnC at h
 split at h
 ·rename_i x p
  split at h
  ·rename_i j u q
   have:=eq_of_beq h
   subst this
   exact do_some (d_neg (fa:=fun _ S=>.ok (.int i) S) d_int)
  ·cases h
 ·cases h
theorem d_back {i:Int} {l:Option Int} {e:Expr} (hi:0 < i) (ha:DE X a fa) (h:isRv i l e=true):DE X (.Subscript a e pos) (fun env S=>(fa env S).bind fun x S=>stpD (l.map (- ·)) (-i) x S):=by
 unfold isRv at h
 split at h
 ·rename_i lo st p
  rw [Bool.and_eq_true] at h
  refine d_stp (by omega) ha ?_ (do_mn h.1)
  have h2:=h.2
  split at h2
  ·exact do_none
  ·exact do_mn h2
  ·cases h2
 ·cases h
end
end Z
end
section
namespace Z
open PySem PySem.Spec PyProof.Rows L2
section
variable {X:Cx} {pins:List (Addr×Obj)} {σ:L2.St} {H:Hp} {s:Shared} {ρ:List Addr} {S:Sto} {env:En} {a b:Expr} {es:List Expr} {fa:En→Sto→R D} {g:En→Sto→R (List D)} {p pos pos':Pos}
end
end Z
end
section
namespace Z
open PySem PySem.Spec PyProof.Rows L2
section
variable (cm:Bool) (F:Fn) (G:List D) (fns:List (Str×Nat×Bool)) (gns:List Str)
structure PF (X:Cx):Prop where
 blt:∀ x∈blts,X.mg x=none
 fn:∀ (f:Nat) nm ar fl,fns[f]?=some (nm,ar,fl)→(fl=true→cm=true)→∃ g fd ps k,FnD fl X.prog X.w X.K X.mg X.base k g fd ps (F f)∧RoomC fl k X.A∧Binds X.K fd ps []∧X.mg nm=some (.ref g)∧PySem.W.keepIn X.K (.ref g)=true∧ps.length=ar
 glb:∀ (k:Nat) nm,gns[k]?=some nm→∃ u d,X.mg nm=some u∧G[k]?=some d∧∀ ρ H,∃ v,RelV v u∧RD X.K ρ H d v
 cal:∀ (f:Nat) (nm:Str),fnIn f nm G=true→∃ ar fl,fns[f]?=some (nm,ar,fl)∧(∀ a,PySem.W.nsIn X.K mainGlobals nm=some (some (.ref a))→X.mg nm=some (.ref a))∧∀ xs S,F f xs S≠.bad→xs.length=ar
 units:X.A.units + 200 < cLine
 gd:X.A.guards=some []
 calm:cm=true→X.calm=true
 err:ErrOk X.K
theorem PF.blk {X:Cx} (h:PF cm F G fns gns X) (pins:List (Addr×Obj)) (s:Shared) (H:Hp) (sc:Scope) (cl:List (Str×Addr)) (C:Addr) (own:List Str) (fp:List Addr):PF cm F G fns gns (blk X pins s H sc cl C own fp) :=
 ⟨h.blt,h.fn,h.glb,h.cal,h.units,h.gd,h.calm,h.err⟩
end
section
variable {X:Cx} {e:Expr} {f g:En→Sto→R D}
theorem DE.congr (h:DE X e f) (q:∀ env S,g env S=f env S):DE X e g:=by
 have:g=f:=funext fun env=>funext fun S=>q env S
 rw [this]; exact h
theorem DT.congr {f g:En→Sto→R Bool} (h:DT X e f) (q:∀ env S,g env S=f env S):DT X e g:=by
 have:g=f:=funext fun env=>funext fun S=>q env S
 rw [this]; exact h
theorem tupB {top:Bool} {is:List Nat} {tg:Expr} (hnd:X.N.Nodup) (ht:top=true→∀ x,X.fn x=true) (h:mtT top X.env.scope X.N (.tup is) tg=true):∃ es k p,tg=.Tuple es k p∧(∀ E,PGs (X.wish E) es (gNs is))∧(assignEach es X.env).length=is.length∧(assignEach es X.env).findIdx? (·.1)=none:=by
 simp only [mtT] at h
 obtain ⟨es,h1,h⟩:=any_some h
 obtain ⟨k,p,rfl⟩:=vTup_ok h1
 have key:∀ (is:List Nat) (es:List Expr),mtT.namesB top X.env.scope X.N is es=true→∃ xs:List (Str×Pos),es=xs.map (fun x=>Expr.Name x.1 x.2)∧is.length=xs.length∧∀ (j i:Nat) (x:Str×Pos),is[j]?=some i→xs[j]?=some x→X.N[i]?=some x.1∧Loc X.env.scope x.1∧(X.fn x.1=true∨X.env.scope.names.lookup x.1=some .local):=by
  intro is
  induction is with
  | nil =>
   intro es h
   cases es with
   | nil=>exact ⟨[],rfl,rfl,fun j i x e1 _=>by simp at e1⟩
   | cons _ _=>simp [mtT.namesB] at h
  | cons i is ih =>
   intro es h
   cases es with
   | nil=>simp [mtT.namesB] at h
   | cons e es =>
    simp only [mtT.namesB,Bool.and_eq_true] at h
    obtain ⟨x,h1,h2⟩:=any_some h.1
    obtain ⟨p,rfl⟩:=vNm_ok h1
    rw [Bool.and_eq_true,decide_eq_true_eq] at h2
    obtain ⟨xs,e1,e2,e3⟩:=ih es h.2
    obtain ⟨l1,l2⟩:=locB_ok rfl ht h2.2
    refine ⟨(x,p) :: xs,by rw [e1]; rfl,by simp [e2],fun j i' x' q1 q2=>?_⟩
    cases j with
    | zero=>simp at q1 q2; subst q1 q2; exact ⟨h2.1,l1,l2⟩
    | succ j=>exact e3 j i' x' (by simpa using q1) (by simpa using q2)
 obtain ⟨xs,e1,e2,e3⟩:=key is es h
 subst e1
 have nm:=names_each xs X.env
 exact ⟨_,k,p,rfl,fun E=>pgs_nm (X:=X.wish E) is xs hnd e2 e3,by rw [nm.1,e2],nm.2⟩
theorem dgB {top:Bool} {sc:Scope} {N:List Str} {t:Tg} {tg:Expr} (hN:X.N=N) (hs:X.env.scope=sc) (hnd:N.Nodup) (hc:varT t=false→X.calm=true) (ht:top=true→∀ x,X.fn x=true) (h:mtT top sc N t tg=true):DG X tg t:=by
 subst hN hs
 cases t with
 | var i =>
  simp only [mtT] at h
  obtain ⟨x,h1,h2⟩:=any_some h
  obtain ⟨p,rfl⟩:=vNm_ok h1
  rw [Bool.and_eq_true,decide_eq_true_eq] at h2
  obtain ⟨l1,l2⟩:=locB_ok rfl ht h2.2
  exact dg_name hnd h2.1 l1 l2
 | tup is =>
  obtain ⟨es,k,p,rfl,q1,q2,q3⟩:=tupB hnd ht h
  exact dg_tup (hc rfl) q1 q2 q3
theorem dgL {top:Bool} {sc:Scope} {N:List Str} {is:List Nat} {tg:Expr} (hN:X.N=N) (hs:X.env.scope=sc) (hnd:N.Nodup) (hc:X.calm=true) (ht:top=true→∀ x,X.fn x=true) (h:mtT top sc N (.tup is) tg=true):DGL X tg is:=by
 subst hN hs
 obtain ⟨es,k,p,rfl,q1,q2,q3⟩:=tupB hnd ht h
 exact dg_lst hc q1 q2 q3
end
theorem evs_len {F:Fn} {G:List D} {cm:Bool} {fns:List (Str×Nat×Bool)} {gns:List Str} {sc:Scope} {N:List Str}:∀ (es:Exs) (xs:List Expr),mts cm fns gns sc N es xs=true→∀ env S ds S',evs F G es env S=.ok ds S'→ds.length=xs.length
 | .nil,[],_,env,S,ds,S',h=>by simp only [evs] at h; cases h; rfl
 | .nil,_ :: _,h,_,_,_,_,_=>by simp [mts] at h
 | .cons _ _,[],h,_,_,_,_,_=>by simp [mts] at h
 | .cons e es,x :: xs,h,env,S,ds,S',q=>by
  simp only [mts,Bool.and_eq_true] at h
  simp only [evs] at q
  cases q1:ev F G e env S with
  | bad=>rw [q1] at q; cases q
  | ex _ _=>rw [q1] at q; cases q
  | ok d S1 =>
   rw [q1] at q
   simp only [R.bind_ok] at q
   cases q2:evs F G es env S1 with
   | bad=>rw [q2] at q; cases q
   | ex _ _=>rw [q2] at q; cases q
   | ok ds' S2 =>
    rw [q2] at q
    simp only [R.bind_ok] at q
    cases q
    simp [evs_len es xs h.2 env S1 ds' _ q2]
theorem mts_star {cm:Bool} {fns:List (Str×Nat×Bool)} {gns:List Str} {sc:Scope} {N:List Str}:∀ (es:Exs) (xs:List Expr),mts cm fns gns sc N es xs=true→xs.all noStar=true
 | .nil,[],_=>rfl
 | .nil,_ :: _,h=>by simp [mts] at h
 | .cons _ _,[],h=>by simp [mts] at h
 | .cons e es,x :: xs,h=>by
  simp only [mts,Bool.and_eq_true] at h
  rw [List.all_cons,h.1.1,mts_star es xs h.2]; rfl
theorem blNm_ok {k:Bl} {nm:Str} {b:Bool} {id:String} (h:blNm k=some (nm,b,id)) {X:Cx} (hsm:∃ o,X.K.lookup sysModules=some o) (hgd:X.A.guards=some []) (hun:X.A.units + 200 < cLine) (hc:quiB k=false→X.calm=true):nm∈blts∧(if b then bootBuiltins nm=some (.builtin id)∧BlR X k (.builtin id) else bootBuiltins nm=some (.type id)∧BlR X k (.type id)):=by
 cases k <;> simp only [blNm,Option.some.injEq,Prod.mk.injEq,reduceCtorEq] at h <;> obtain ⟨rfl,rfl,rfl⟩:=h
 ·exact ⟨by decide,PySem.boot_len,b_len⟩
 ·exact ⟨by decide,by decide +kernel,b_min (hc rfl)⟩
 ·exact ⟨by decide,by decide +kernel,b_max (hc rfl)⟩
 ·exact ⟨by decide,by decide +kernel,b_sum (hc rfl)⟩
 ·exact ⟨by decide,by decide +kernel,b_sorted⟩
 ·exact ⟨by decide,by decide +kernel,b_all (hc rfl)⟩
 ·exact ⟨by decide,by decide +kernel,b_any (hc rfl)⟩
 ·exact ⟨by decide,by decide +kernel,b_tuple⟩
 ·exact ⟨by decide,by decide +kernel,b_list⟩
 ·exact ⟨by decide,by decide +kernel,b_repr hsm hgd hun⟩
 ·exact ⟨by decide,by decide +kernel,b_int⟩
section
variable {F:Fn} {G:List D} {cm:Bool} {fns:List (Str×Nat×Bool)} {gns:List Str}
theorem calE_ok {fx:Expr} (h:calE fx=true) (args:List Expr) (pos:Pos) (env:PySem.Env):eval (.Call fx args [] pos) env=(do callWith pos (← eval fx env) [] (backTo pos (starEach args env)) (backToKw pos (keywordEach [] env))):=by
 cases fx <;> first | rfl | cases h
theorem d_cal {X:Cx} {fx e:Expr} {es:List Expr} {pos:Pos} {f:En→Sto→R D} {ga:En→Sto→R (List D)} (hp:PF cm F G fns gns X) (hc:cm=true) (hx:∀ (args:List Expr) (pos:Pos) (env:PySem.Env),eval (.Call fx args [] pos) env=(do callWith pos (← eval fx env) [] (backTo pos (starEach args env)) (backToKw pos (keywordEach [] env))))
  (hf:DE X fx f) (ha:DA X (e :: es) ga) (he:starEach (e :: es) X.env=(false,eval e X.env) :: starEach es X.env) (hpl:(backTo pos (starEach es X.env)).any (·.1)=false) :
  DE X (.Call fx (e :: es) [] pos) (fun env S=>(f env S).bind fun x S=>match x with
   | .fn k nm=>if fnIn k nm G then (ga env S).bind fun xs S=>F k xs S else .bad
   | _=>.bad):=by
 intro pins s σ H ρ S env I nb
 dsimp only at nb ⊢
 rw [hx]
 refine wpAny_bind (hf.bind I nb rfl (fun d S1 u s1 v H1 ρ1 e1 nb1 I1 rv rd st1=>?_) fun _ _ z=>z)
 rw [e1]
 cases d with
 | fn k nm =>
  dsimp only at nb1 ⊢
  by_cases hi:fnIn k nm G=true
  ·rw [if_pos hi] at nb1 ⊢
   obtain ⟨ar,fl,q1,q2,q3⟩:=hp.cal k nm hi
   obtain ⟨g,fd,ps,kk,c1,c2,c3,c4,c5,c6⟩:=hp.fn k nm ar fl q1 fun _=>hc
   simp only [RD] at rd
   obtain ⟨a,rfl,hn⟩:=rd
   have:=(q2 a hn).symm.trans c4
   cases this
   cases rv
   cases q:ga env S1 with
   | bad=>rw [q] at nb1; exact absurd rfl nb1
   | ex n S2=>exact PySem.W.callWith_K (h₀:=X.base) I1.inv.ok.mod.kin c5 (ha.ex I1 q fun x s' z=>⟨n,S2,rfl,z.pre st1⟩) he hpl
   | ok ds S2 =>
    rw [q] at nb1
    simp only [R.bind_ok] at nb1 ⊢
    refine PySem.W.callWith_K (h₀:=X.base) I1.inv.ok.mod.kin c5 (ha.ok I1 q fun us s2 vs H2 ρ2 I2 rv2 rd2 st2=>⟨I2.inv.kIn,?_⟩) he hpl
    exact wpAny_mono (run_d c1 c2 c3 I2 rv2 rd2 (by rw [c6]; exact q3 _ _ nb1) nb1) (fun u s2 z=>(z.pre st2).pre st1) fun x s2 z=>(z.pre st2).pre st1
  ·rw [if_neg hi] at nb1; exact absurd rfl nb1
 | _=>exact absurd rfl nb1
theorem dt_val {X:Cx} {e:Expr} {f:En→Sto→R D} (h:DE X e f) (he:∀ whole,isTrue e X.env whole=(do let v ← whole; standAt e.pos; holding [v] (truthy v))):DE X e f∧DT X e (fun env S=>tst (f env S)):=⟨h,.of h he⟩
theorem DW.of {X:Cx} {op:BoolOp} {ys:List Expr} {p:Pos} {g:En→Sto→R Bool} (h:DT X (.BoolOp op ys p) g):DW X (.BoolOp op ys p) g:=fun _=>h
noncomputable def GenP (F:Fn) (G:List D) (X:Cx) (sc2:Scope) (N2:List Str) (PFY:Cx→Prop):Gens→List Comprehension→Prop
 | .cons t it ifs .nil,gens=>∃ tg iter cs,gens=[⟨tg,iter,cs,0⟩]∧noSet iter=true∧mtT false sc2 N2 t tg=true∧DI X tg iter (evit F G it)∧∀ Y:Cx,Y.N=N2→Y.env.scope=sc2→PFY Y→DTs Y cs (evts F G ifs)
 | .cons t it ifs (.cons t2 it2 ifs2 .nil),gens=>∃ tg iter cs tg2 iter2 cs2,gens=[⟨tg,iter,cs,0⟩,⟨tg2,iter2,cs2,0⟩]∧noSet iter=true∧noSet iter2=true∧mtT false sc2 N2 t tg=true∧mtT false sc2 N2 t2 tg2=true∧DI X tg iter (evit F G it) ∧
   (∀ Y:Cx,Y.N=N2→Y.env.scope=sc2→PFY Y→DTs Y cs (evts F G ifs))∧(∀ Y:Cx,Y.N=N2→Y.env.scope=sc2→PFY Y→DI Y tg2 iter2 (evit F G it2))∧∀ Y:Cx,Y.N=N2→Y.env.scope=sc2→PFY Y→DTs Y cs2 (evts F G ifs2)
 | _,_=>False
structure CompP (X:Cx) (elt:Expr) (gens:List Comprehension) (scope:Scope) (cpos:Pos) (own:List Str) (f:En→Sto→R D) where
 tg:Expr
 iter:Expr
 ifs:List Expr
 t:Tg
 fi:En→Sto→R Src
 tf:En→Sto→R Bool
 body:En→List D→Sto→R (List D)
 hg:gens=⟨tg,iter,ifs,0⟩ :: gens.tail
 hi:DI X tg iter fi
 hs:∀ x,foldedSetIterable iter X.env x=pure x
 hG:∀ pins s H cl C fp,DG (blk X pins s H scope cl C own fp) tg t
 hT:∀ pins s H cl C fp,DTs (blk X pins s H scope cl C own fp) ifs tf
 hB:∀ pins s H cl C fp Da,BodyP (blk X pins s H scope cl C own fp) Da elt gens scope cpos 0 body
 eq:f=cmrR fi t own.length tf body
theorem comp_of {X:Cx} {sc scope:Scope} {N:List Str} {gs:Gens} {elt:Expr} {xe:Ex} {gens:List Comprehension} {p:Pos} (hN:X.N=N) (hs:X.env.scope=sc) (hp:PF cm F G fns gns X) (hc:X.calm=true) (so:ScOk sc scope N (owns scope))
  (hg:GenP F G X (relS scope sc) (blkN N (owns scope)) (PF cm F G fns gns) gs gens) (he:∀ Y:Cx,Y.N=blkN N (owns scope)→Y.env.scope=relS scope sc→PF cm F G fns gns Y→DE Y elt (ev F G xe)) :
  Nonempty (CompP X elt gens scope p (owns scope) (ev F G (.cmr false (owns scope).length gs xe))):=by
 subst hN hs
 have hY:∀ pins s H cl C fp,PF cm F G fns gns (blk X pins s H scope cl C (owns scope) fp):=fun pins s H cl C fp=>PF.blk cm F G fns gns hp pins s H scope cl C (owns scope) fp
 have hTg:∀ {t:Tg} {tg:Expr},mtT false (relS scope X.env.scope) (blkN X.N (owns scope)) t tg=true→∀ pins s H cl C fp,DG (blk X pins s H scope cl C (owns scope) fp) tg t:=fun h pins s H cl C fp=>dgB (top:=false) rfl rfl so.nd (fun _=>hc) (fun z=>nomatch z) h
 match gs,hg with
 | .cons t it ifs .nil,hg =>
  obtain ⟨tg,iter,cs,rfl,n1,m1,i1,t1⟩:=hg
  refine ⟨⟨tg,iter,cs,t,evit F G it,evts F G ifs,_,rfl,i1,noSet_ok n1,hTg m1,fun pins s H cl C fp=>t1 _ rfl rfl (hY pins s H cl C fp),fun pins s H cl C fp Da=>body_last rfl (he _ rfl rfl (hY pins s H cl C fp)),?_⟩⟩
  funext env S
  simp only [ev,cmrR]
  rfl
 | .cons t it ifs (.cons t2 it2 ifs2 .nil),hg =>
  obtain ⟨tg,iter,cs,tg2,iter2,cs2,rfl,n1,n2,m1,m2,i1,t1,i2,t2'⟩:=hg
  refine ⟨⟨tg,iter,cs,t,evit F G it,evts F G ifs,_,rfl,i1,noSet_ok n1,hTg m1,fun pins s H cl C fp=>t1 _ rfl rfl (hY pins s H cl C fp),
   fun pins s H cl C fp Da=>body_next hc rfl (i2 _ rfl rfl (hY pins s H cl C fp)) (noSet_ok n2) (hTg m2 pins s H cl C fp) (t2' _ rfl rfl (hY pins s H cl C fp)) (body_last rfl (he _ rfl rfl (hY pins s H cl C fp))),?_⟩⟩
  funext env S
  simp only [ev,cmrR]
  rfl
theorem blt_core {X:Cx} {k:Bl} {es:Exs} {x:Str} {p0 p:Pos} {y:Expr} {ys:List Expr} (hsm:∃ o,X.K.lookup sysModules=some o) (hgd:X.A.guards=some []) (hun:X.A.units + 200 < cLine) (hg:Gl X x) (hb:∀ x∈blts,X.mg x=none) (hc:quiB k=false→X.calm=true) (h1:blB k x=true) (o1:(x == ("__debug__" : Str))=false) (o3:x ≠ "__name__") (ih:DA X (y :: ys) (evs F G es))
  (he:starEach (y :: ys) X.env=(false,eval y X.env) :: starEach ys X.env) (hpl:(backTo p (starEach ys X.env)).any (·.1)=false):DE X (.Call (.Name x p0) (y :: ys) [] p) (ev F G (.blt k es)):=by
 unfold blB at h1
 cases q:blNm k with
 | none=>rw [q] at h1; cases h1
 | some z =>
  obtain ⟨nm,b,id⟩:=z
  rw [q] at h1
  dsimp only at h1
  have e1:x=nm:=of_decide_eq_true h1
  subst e1
  obtain ⟨m1,m2⟩:=blNm_ok q hsm hgd hun hc
  cases b with
  | true =>
   rw [if_pos rfl] at m2
   exact (d_bltF m2.2 hg (hb _ m1) m2.1 ih o3 o1 he hpl).congr fun env S=>by simp only [ev]
  | false =>
   rw [if_neg Bool.false_ne_true] at m2
   exact (d_bltT m2.2 hg (hb _ m1) m2.1 ih o3 o1 he hpl).congr fun env S=>by simp only [ev]
theorem mth_core {X:Cx} {k:Mt} {o:Ex} {es:Exs} {ox:Expr} {nm:Str} {ap cp:Pos} {y:Expr} {ys:List Expr} (h1:mtB k nm=true) (h2:rcvE ox=true) (h3:(ap.endLine == cp.line)=true) (h4:(y :: ys).length < 29) (io:DE X ox (ev F G o)) (ih:DA X (y :: ys) (evs F G es)) (st:(y :: ys).all noStar=true) :
  DE X (.Call (.Attribute ox nm ap) (y :: ys) [] cp) (ev F G (.mth k o es)):=by
 have hfew:((backTo cp (starEach (y :: ys) X.env)).all (fun x=>!x.1) && (backToKw cp (keywordEach [] X.env)).all (fun x=>x.1.isSome) && decide ((y :: ys).length + ([]:List Keyword).length + (if ([]:List Keyword).isEmpty then 0 else 1) < 30))=true:=by
  rw [star_all st]
  have:(y :: ys).length + ([]:List Keyword).length + (if ([]:List Keyword).isEmpty then 0 else 1) < 30:=by
   simp only [List.length_nil,List.isEmpty_nil,if_true]; omega
  rw [decide_eq_true this]
  rfl
 rw [List.all_cons,Bool.and_eq_true] at st
 have rcv:∀ {m:Mt} (x:D) (S:Sto),(m=.append∨m=.count∨m=.index)→rcvOk m x S=true→∃ n xs,x=.ref n∧lstAt S n=some xs:=fun {m} x S hm h=>by
  rcases hm with rfl | rfl | rfl <;> (
   cases x with
   | ref n =>
    have h':(lstAt S n).isSome=true:=h
    obtain ⟨xs,e⟩:=Option.isSome_iff_exists.mp h'
    exact ⟨n,xs,rfl,e⟩
   | _=>cases h)
 cases k with
 | append =>
  have e1:nm = "append" := of_decide_eq_true h1
  subst e1
  exact (d_mthL (m:=.append) (id := "list.append") PySem.F.slot_list_append PySem.F.type_list_append m_append (fun x S h=>rcv x S (.inl rfl) h) io ih (rcvE_ok h2) hfew h3 (star_cons st.1) (star_any st.2)).congr fun env S=>by simp only [ev]
 | count =>
  have e1:nm = "count" := of_decide_eq_true h1
  subst e1
  exact (d_mthL (m:=.count) (id := "list.count") PySem.F.slot_list_count PySem.F.type_list_count m_count (fun x S h=>rcv x S (.inr (.inl rfl)) h) io ih (rcvE_ok h2) hfew h3 (star_cons st.1) (star_any st.2)).congr fun env S=>by simp only [ev]
 | index =>
  have e1:nm = "index" := of_decide_eq_true h1
  subst e1
  exact (d_mthL (m:=.index) (id := "list.index") PySem.F.slot_list_index PySem.F.type_list_index m_index (fun x S h=>rcv x S (.inr (.inr rfl)) h) io ih (rcvE_ok h2) hfew h3 (star_cons st.1) (star_any st.2)).congr fun env S=>by simp only [ev]
 | _=>cases h1
theorem isi_core {X:Cx} {sc:Scope} {a:Expr} {fa:En→Sto→R D} {pos p0 p1:Pos} {t:Ty} {nm:Str} (er:ErrOk X.K) (hb:∀ x∈blts,X.mg x=none) (hg0:Gl X "isinstance") (hg:Gl X nm) (hok:okNm nm=true) (ht:tyB sc t nm=true) (ha:DE X a fa) (hst:noStar a=true) :
  DE X (.Call (.Name "isinstance" p0) [a,.Name nm p1] [] pos) (fun env S=>(fa env S).bind fun x S=>match (kdD S x).bind fun k=>isTs k [t] with | some r=>.ok (.bl r) S | none=>.bad):=by
 cases t with
 | cls c=>exact d_isiE er (.inl ⟨c,rfl,of_decide_eq_true ht⟩) hb hg0 hg hok ha hst
 | valueError=>exact d_isiE er (.inr ⟨rfl,of_decide_eq_true ht⟩) hb hg0 hg hok ha hst
 | int=>have e:=of_decide_eq_true ht; subst e; exact d_isi1 (t:=.int) rfl hb hg0 hg hok ha hst
 | bool=>have e:=of_decide_eq_true ht; subst e; exact d_isi1 (t:=.bool) rfl hb hg0 hg hok ha hst
 | str=>have e:=of_decide_eq_true ht; subst e; exact d_isi1 (t:=.str) rfl hb hg0 hg hok ha hst
 | tuple=>have e:=of_decide_eq_true ht; subst e; exact d_isi1 (t:=.tuple) rfl hb hg0 hg hok ha hst
 | list=>have e:=of_decide_eq_true ht; subst e; exact d_isi1 (t:=.list) rfl hb hg0 hg hok ha hst
 | dict=>have e:=of_decide_eq_true ht; subst e; exact d_isi1 (t:=.dict) rfl hb hg0 hg hok ha hst
theorem ty_nm {sc:Scope} {t:Ty} {nm:Str} (hb:bltT t=true) (h:tyB sc t nm=true):∃ T,tyNm t=some (nm,T):=by
 cases t with
 | cls c=>cases hb
 | valueError=>cases hb
 | _=>have e:=of_decide_eq_true h; subst e; exact ⟨_,rfl⟩
theorem isi_all {X:Cx} {sc:Scope} {a y:Expr} {fa:En→Sto→R D} {pos p0:Pos} {ts:List Ty} (er:ErrOk X.K) (hb:∀ x∈blts,X.mg x=none) (hs:X.env.scope=sc) (hg0:Gl X "isinstance") (ht:tyM sc ts y=true) (ha:DE X a fa) (hst:noStar a=true) :
  DE X (.Call (.Name "isinstance" p0) [a,y] [] pos) (fun env S=>(fa env S).bind fun x S=>match (kdD S x).bind fun k=>isTs k ts with | some r=>.ok (.bl r) S | none=>.bad):=by
 rcases tyM_ok ht with ⟨t,nm,p,rfl,rfl,h1,h2,h3⟩ | ⟨t1,t2,n1,n2,p1,p2,k,p,rfl,rfl,h1,h2,h3,h4,h5,h6,h7,h8⟩
 ·exact isi_core er hb hg0 (glB_ok hs h1) h2 h3 ha hst
 ·obtain ⟨T1,q1⟩:=ty_nm h5 h7
  obtain ⟨T2,q2⟩:=ty_nm h6 h8
  exact d_isi2 q1 q2 hb hg0 (glB_ok hs h1) (glB_ok hs h3) h2 h4 ha hst
set_option maxHeartbeats 0 in
theorem cst_ok {X:Cx} {d:D} {c:Const} {k:Nat} {p:Pos} (h:cstB d c=true):DE X (.Constant c k p) (ev F G (.cst d)):=by
 cases d with
 | int i=>cases c with
  | int j=>simp only [cstB,beq_iff_eq] at h; subst h; exact d_int.congr fun env S=>by simp only [ev]
  | _=>cases h
 | bl i=>cases c with
  | bool j=>simp only [cstB,beq_iff_eq] at h; subst h; exact d_bl.congr fun env S=>by simp only [ev]
  | _=>cases h
 | non=>cases c with
  | none=>exact d_non.congr fun env S=>by simp only [ev]
  | _=>cases h
 | str i=>cases c with
  | str j=>simp only [cstB,decide_eq_true_eq] at h; subst h; exact d_str.congr fun env S=>by simp only [ev]
  | _=>cases h
 | _=>cases h
mutual
theorem snd:∀ (x:Ex) (X:Cx) (sc:Scope) (N:List Str) (e:Expr),X.N=N→X.env.scope=sc→PF cm F G fns gns X→mt cm fns gns sc N x e=true→DE X e (ev F G x)∧DT X e (fun env S=>tst (ev F G x env S))
 | .nev,X,sc,N,e,hN,hs,hp,h=>⟨fun _ _ _ _ _ _ _ _ nb=>absurd (by simp only [ev]) nb,fun _ _ _ _ _ _ _ _ nb=>absurd (by simp only [ev] <;> rfl) nb⟩
 | .var i,X,sc,N,e,hN,hs,hp,h=>by
  obtain ⟨x,p,rfl,h1,h2,h3⟩:=mt_var h
  subst hN hs
  obtain ⟨o1,o2,_⟩:=okNm_ok h3
  exact dt_val ((d_var h1 (visB_ok h2) o1 o2).congr fun env S=>by simp only [ev] <;> rfl) fun _=>rfl
 | .cst d,X,sc,N,e,hN,hs,hp,h=>by
  obtain ⟨c,k,p,rfl,h⟩:=mt_cst h
  exact dt_val (cst_ok h) fun _=>rfl
 | .neg a,X,sc,N,e,hN,hs,hp,h=>by
  obtain ⟨x,p,rfl,h⟩:=mt_neg h
  exact dt_val ((d_neg (snd a X sc N x hN hs hp h).1).congr fun env S=>by simp only [ev] <;> rfl) fun _=>rfl
 | .glb k,X,sc,N,e,hN,hs,hp,h=>by
  obtain ⟨x,p,rfl,h1,h2,h3⟩:=mt_glb h
  obtain ⟨o1,o2,_⟩:=okNm_ok h3
  obtain ⟨u,d,q1,q2,q3⟩:=hp.glb k x h1
  exact dt_val ((d_glb (glB_ok hs h2) q1 q3 o1).congr fun env S=>by simp only [ev,q2]) fun _=>rfl
 | .tup es,X,sc,N,e,hN,hs,hp,h=>by
  obtain ⟨xs,k,p,rfl,h⟩:=mt_tup h
  exact dt_val ((d_tup (snds es X sc N xs hN hs hp h)).congr fun env S=>by simp only [ev]) fun _=>rfl
 | .lst es,X,sc,N,e,hN,hs,hp,h=>by
  obtain ⟨xs,p,rfl,h⟩:=mt_lst h
  exact dt_val ((d_lst (snds es X sc N xs hN hs hp h)).congr fun env S=>by simp only [ev]) fun _=>rfl
 | .bin op a b,X,sc,N,e,hN,hs,hp,h=>by
  obtain ⟨x,y,p,rfl,h1,h2⟩:=mt_bin h
  exact dt_val ((d_bin (o_bin op) (snd a X sc N x hN hs hp h1).1 (snd b X sc N y hN hs hp h2).1).congr fun env S=>by simp only [ev]) fun _=>rfl
 | .cmp op a b,X,sc,N,e,hN,hs,hp,h=>by
  obtain ⟨x,y,p,rfl,h1,h2,h3⟩:=mt_cmp h
  have ha:=(snd a X sc N x hN hs hp h2).1
  have hb:=(snd b X sc N y hN hs hp h3).1
  exact ⟨(d_cmp (o_cmp hp.units op) ha hb h1).congr fun env S=>by simp only [ev],(dt_cmp (o_cmp hp.units op) ha hb h1).congr fun env S=>by simp only [ev]⟩
 | .chn o1 o2 a b c,X,sc,N,e,hN,hs,hp,h=>by
  obtain ⟨x,y,z,p,rfl,h1,h2,h3,h4⟩:=mt_chn h
  have ha:=(snd a X sc N x hN hs hp h2).1
  have hb:=(snd b X sc N y hN hs hp h3).1
  have hc:=(snd c X sc N z hN hs hp h4).1
  exact ⟨(d_chn (o_cmp hp.units o1) (o_cmp hp.units o2) ha hb hc h1).congr fun env S=>by simp only [ev,chnR] <;> rfl,(dt_chn (o_cmp hp.units o1) (o_cmp hp.units o2) ha hb hc h1).congr fun env S=>by simp only [ev,chnR] <;> rfl⟩
 | .and a b,X,sc,N,e,hN,hs,hp,h=>by
  rcases mt_and h with ⟨x,y,p,rfl,h1,h2⟩ | ⟨x,y,z,r,p,rfl,h1,h2⟩
  ·have ha:=snd a X sc N x hN hs hp h1
   have hb:=snd b X sc N y hN hs hp h2
   exact ⟨(d_and ha.1 (d_one hb.1)).congr fun env S=>by simp only [ev] <;> rfl,((dw_and ha.2 (dw_and1 hb.2)).dt).congr fun env S=>by simp only [ev] <;> rfl⟩
  ·have ha:=snd a X sc N x hN hs hp h1
   have hb:=snd b X sc N (.BoolOp .And (y :: z :: r) p) hN hs hp h2
   exact ⟨(d_and ha.1 hb.1).congr fun env S=>by simp only [ev] <;> rfl,((dw_and ha.2 (.of hb.2)).dt).congr fun env S=>by simp only [ev] <;> rfl⟩
 | .or a b,X,sc,N,e,hN,hs,hp,h=>by
  rcases mt_or h with ⟨x,y,p,rfl,h1,h2⟩ | ⟨x,y,z,r,p,rfl,h1,h2⟩
  ·have ha:=snd a X sc N x hN hs hp h1
   have hb:=snd b X sc N y hN hs hp h2
   exact ⟨(d_or ha.1 (d_one hb.1)).congr fun env S=>by simp only [ev] <;> rfl,((dw_or ha.2 (dw_or1 hb.2)).dt).congr fun env S=>by simp only [ev] <;> rfl⟩
  ·have ha:=snd a X sc N x hN hs hp h1
   have hb:=snd b X sc N (.BoolOp .Or (y :: z :: r) p) hN hs hp h2
   exact ⟨(d_or ha.1 hb.1).congr fun env S=>by simp only [ev] <;> rfl,((dw_or ha.2 (.of hb.2)).dt).congr fun env S=>by simp only [ev] <;> rfl⟩
 | .not a,X,sc,N,e,hN,hs,hp,h=>by
  obtain ⟨x,p,rfl,h⟩:=mt_not h
  have ha:=snd a X sc N x hN hs hp h
  exact ⟨(d_not ha.2 ha.1).congr fun env S=>by simp only [ev] <;> rfl,(dt_not ha.2).congr fun env S=>by simp only [ev] <;> rfl⟩
 | .ite c a b,X,sc,N,e,hN,hs,hp,h=>by
  obtain ⟨x,y,z,p,rfl,h1,h2,h3⟩:=mt_ite h
  have hc:=snd c X sc N x hN hs hp h1
  have ha:=snd a X sc N y hN hs hp h2
  have hb:=snd b X sc N z hN hs hp h3
  exact ⟨(d_ite hc.2 ha.1 hb.1).congr fun env S=>by simp only [ev] <;> rfl,(dt_ite hc.2 ha.2 hb.2).congr fun env S=>by simp only [ev] <;> rfl⟩
 | .idx a i,X,sc,N,e,hN,hs,hp,h=>by
  obtain ⟨x,y,p,rfl,h1,h2,h3⟩:=mt_idx h
  exact dt_val ((d_idx (noSlice_ok h1) (snd a X sc N x hN hs hp h2).1 (snd i X sc N y hN hs hp h3).1).congr fun env S=>by simp only [ev]) fun _=>rfl
 | .sli a lo hi,X,sc,N,e,hN,hs,hp,h=>by
  obtain ⟨x,l,u,p2,p,rfl,h1,h2,h3⟩:=mt_sli h
  exact dt_val ((d_sli (snd a X sc N x hN hs hp h1).1 (sndo lo X sc N l hN hs hp h2) (sndo hi X sc N u hN hs hp h3)).congr fun env S=>by simp only [ev] <;> rfl) fun _=>rfl
 | .rev a,X,sc,N,e,hN,hs,hp,h=>by
  obtain ⟨x,y,p,rfl,h1,h2⟩:=mt_rev h
  exact dt_val ((d_back (by decide) (snd a X sc N x hN hs hp h2).1 h1).congr fun env S=>by simp only [ev]; congr 1; funext x S; exact (stpD_rev x S).symm) fun _=>rfl
 | .cal f es,X,sc,N,e,hN,hs,hp,h=>by
  obtain ⟨fx,y,ys,p,rfl,h1,h2,h3,h4⟩:=mt_cal h
  have st:=mts_star es (y :: ys) h4
  rw [List.all_cons,Bool.and_eq_true] at st
  exact dt_val ((d_cal hp h1 (calE_ok h2) (snd f X sc N fx hN hs hp h3).1 (snds es X sc N (y :: ys) hN hs hp h4) (star_cons st.1) (star_any st.2)).congr fun env S=>by simp only [ev] <;> rfl) fun _=>rfl
 | .isi a ts,X,sc,N,e,hN,hs,hp,h=>by
  obtain ⟨p0,x,y,cp,rfl,h1,h2,h3,h4⟩:=mt_isi h
  have ih:=(snd a X sc N x hN hs hp h3).1
  exact dt_val ((isi_all hp.err hp.blt hs (glB_ok hs h1) h4 ih h2).congr fun env S=>by simp only [ev] <;> rfl) fun _=>rfl
 | .call f es,X,sc,N,e,hN,hs,hp,h=>by
  obtain ⟨x,p0,y,ys,p,rfl,h1,h2,h3,h4⟩:=mt_call h
  obtain ⟨o1,o2,_⟩:=okNm_ok h3
  obtain ⟨fl,h1,hfl⟩:=h1
  obtain ⟨g,fd,ps,k,c1,c2,c3,c4,c5,c6⟩:=hp.fn f x _ fl h1 hfl
  have st:=mts_star es (y :: ys) h4
  rw [List.all_cons,Bool.and_eq_true] at st
  exact dt_val ((d_call c1 c2 c3 (glB_ok hs h2) c4 c5 (snds es X sc N (y :: ys) hN hs hp h4) (fun env S ds S' q=>by rw [c6]; exact evs_len es (y :: ys) h4 env S ds S' q) o1 (star_cons st.1) (star_any st.2)).congr fun env S=>by simp only [ev]) fun _=>rfl
 | .blt k es,X,sc,N,e,hN,hs,hp,h=>by
  obtain ⟨x,p0,y,ys,p,rfl,h1,hq,h2,h3,h4⟩:=mt_blt h
  obtain ⟨o1,o2,o3⟩:=okNm_ok h3
  have st:=mts_star es (y :: ys) h4
  rw [List.all_cons,Bool.and_eq_true] at st
  have ih:=snds es X sc N (y :: ys) hN hs hp h4
  exact dt_val (blt_core hp.err.sm hp.gd hp.units (glB_ok hs h2) hp.blt (fun z=>hp.calm (by rw [z,Bool.or_false] at hq; exact hq)) h1 o1 o3 ih (star_cons st.1) (star_any st.2)) fun _=>rfl
 | .mth k o es,X,sc,N,e,hN,hs,hp,h=>by
  obtain ⟨ox,nm,ap,y,ys,cp,rfl,h1,h2,h3,h4,h5,h6⟩:=mt_mth h
  have st:=mts_star es (y :: ys) h6
  have ih:=snds es X sc N (y :: ys) hN hs hp h6
  have io:=(snd o X sc N ox hN hs hp h5).1
  exact dt_val (mth_core h1 h2 h3 h4 io ih st) fun _=>rfl
 | .cmr k n gs elt,X,sc,N,e,hN,hs,hp,h=>by
  obtain ⟨ee,gens,scope,p,rfl,h0,h1,h2,h3,h4,h5⟩:=mt_cmr h
  subst h1 h2
  have so:=scB_ok h3
  have hcl:=hp.calm h0
  obtain ⟨c⟩:=comp_of (p:=p) hN hs hp hcl so (sndg gs X sc N _ _ gens hN hs hp h4) (fun Y y1 y2 y3=>(snd elt Y _ _ ee y1 y2 y3 h5).1)
  subst hN hs
  refine dt_val ?_ fun _=>rfl
  rw [c.eq]
  exact d_comp hcl so rfl c.hg c.hi c.hs c.hG c.hT c.hB
theorem sndo:∀ (o:Op) (X:Cx) (sc:Scope) (N:List Str) (x:Option Expr),X.N=N→X.env.scope=sc→PF cm F G fns gns X→mto cm fns gns sc N o x=true→DO X x (evo F G o)
 | .none,X,sc,N,x,hN,hs,hp,h=>by
  cases x with
  | none =>
   have:evo F G .none=fun _ S=>.ok none S:=by funext env S; simp only [evo]
   rw [this]; exact do_none
  | some _=>cases h
 | .some e,X,sc,N,x,hN,hs,hp,h=>by
  cases x with
  | none=>cases h
  | some x =>
   have h':mt cm fns gns sc N e x=true:=h
   have:evo F G (.some e)=fun env S=>(ev F G e env S).bind fun x S=>.ok (some x) S:=by funext env S; simp only [evo]
   rw [this]; exact do_some (snd e X sc N x hN hs hp h').1
theorem snds:∀ (es:Exs) (X:Cx) (sc:Scope) (N:List Str) (xs:List Expr),X.N=N→X.env.scope=sc→PF cm F G fns gns X→mts cm fns gns sc N es xs=true→DA X xs (evs F G es)
 | .nil,X,sc,N,[],hN,hs,hp,h=>by
  have:evs F G .nil=fun _ S=>.ok [] S:=by funext env S; simp only [evs]
  rw [this]; exact da_nil
 | .cons e es,X,sc,N,x :: xs,hN,hs,hp,h=>by
  simp only [mts,Bool.and_eq_true] at h
  have:evs F G (.cons e es)=fun env S=>(ev F G e env S).bind fun x S=>(evs F G es env S).bind fun xs S=>.ok (x :: xs) S:=by funext env S; simp only [evs]
  rw [this]
  exact da_cons (snd e X sc N x hN hs hp h.1.2).1 (snds es X sc N xs hN hs hp h.2) (star_cons h.1.1)
 | .nil,X,sc,N,_ :: _,hN,hs,hp,h=>by simp [mts] at h
 | .cons _ _,X,sc,N,[],hN,hs,hp,h=>by simp [mts] at h
theorem sndt:∀ (es:Exs) (X:Cx) (sc:Scope) (N:List Str) (xs:List Expr),X.N=N→X.env.scope=sc→PF cm F G fns gns X→mts cm fns gns sc N es xs=true→DTs X xs (evts F G es)
 | .nil,X,sc,N,[],hN,hs,hp,h=>by
  have:evts F G .nil=fun _ S=>.ok true S:=by funext env S; simp only [evts]
  rw [this]; exact dts_nil
 | .cons e es,X,sc,N,x :: xs,hN,hs,hp,h=>by
  simp only [mts,Bool.and_eq_true] at h
  have:evts F G (.cons e es)=fun env S=>(ev F G e env S).bind fun x S=>match truD S x with | some true=>evts F G es env S | some false=>.ok false S | none=>.bad:=by funext env S; simp only [evts] <;> rfl
  rw [this]
  exact dts_cons (snd e X sc N x hN hs hp h.1.2).2 (sndt es X sc N xs hN hs hp h.2)
 | .nil,X,sc,N,_ :: _,hN,hs,hp,h=>by simp [mts] at h
 | .cons _ _,X,sc,N,[],hN,hs,hp,h=>by simp [mts] at h
theorem sndi:∀ (it:It) (X:Cx) (sc:Scope) (N:List Str) (tg x:Expr),X.N=N→X.env.scope=sc→PF cm F G fns gns X→(needT it=true→∃ es k p,tg=.Tuple es k p)→mtI cm fns gns sc N it x=true→DI X tg x (evit F G it)
 | .val e,X,sc,N,tg,x,hN,hs,hp,_,h=>by
  simp only [mtI] at h
  have:evit F G (.val e)=fun env S=>(ev F G e env S).bind fun x S=>match srcD S x with | some r=>.ok r S | none=>.bad:=by funext env S; simp only [evit] <;> rfl
  rw [this]
  exact di_val (snd e X sc N x hN hs hp h).1
 | .rng es,X,sc,N,tg,x,hN,hs,hp,_,h=>by
  obtain ⟨p0,y,ys,p,rfl,h2,h3⟩:=mtI_rng h
  have st:=mts_star es (y :: ys) h3
  rw [List.all_cons,Bool.and_eq_true] at st
  have:evit F G (.rng es)=fun env S=>(evs F G es env S).bind fun xs S=>match rngD xs with | some ds=>.ok (.con ds) S | none=>.bad:=by funext env S; simp only [evit] <;> rfl
  rw [this]
  exact di_rng (glB_ok hs h2) (hp.blt _ (by decide)) (snds es X sc N (y :: ys) hN hs hp h3) (star_cons st.1) (star_any st.2)
 | .zip es,X,sc,N,tg,x,hN,hs,hp,ht,h=>by
  obtain ⟨p0,y,ys,p,rfl,h2,h3⟩:=mtI_zip h
  obtain ⟨ts,k,tp,rfl⟩:=ht rfl
  have st:=mts_star es (y :: ys) h3
  rw [List.all_cons,Bool.and_eq_true] at st
  have:evit F G (.zip es)=fun env S=>(evs F G es env S).bind fun xs S=>match xs with
   | [x,y]=>match srcD S x,srcD S y with
    | some s,some t=>.ok (.zip s t) S
    | _,_=>.bad
   | _=>.bad:=by funext env S; simp only [evit] <;> rfl
  rw [this]
  exact di_zip (glB_ok hs h2) (hp.blt _ (by decide)) (snds es X sc N (y :: ys) hN hs hp h3) (star_cons st.1) (star_any st.2)
 | .enm es,X,sc,N,tg,x,hN,hs,hp,ht,h=>by
  obtain ⟨p0,y,ys,p,rfl,h2,h3⟩:=mtI_enm h
  obtain ⟨ts,k,tp,rfl⟩:=ht rfl
  have st:=mts_star es (y :: ys) h3
  rw [List.all_cons,Bool.and_eq_true] at st
  have:evit F G (.enm es)=fun env S=>(evs F G es env S).bind fun xs S=>match xs with
   | [x]=>match srcD S x with
    | some s=>.ok (.enm s) S
    | none=>.bad
   | _=>.bad:=by funext env S; simp only [evit] <;> rfl
  rw [this]
  exact di_enm (glB_ok hs h2) (hp.blt _ (by decide)) (snds es X sc N (y :: ys) hN hs hp h3) (star_cons st.1) (star_any st.2)
theorem sndg:∀ (gs:Gens) (X:Cx) (sc:Scope) (N:List Str) (sc2:Scope) (N2:List Str) (gens:List Comprehension),X.N=N→X.env.scope=sc→PF cm F G fns gns X→mtG cm fns gns sc N sc2 N2 gs gens=true→GenP F G X sc2 N2 (PF cm F G fns gns) gs gens
 | .nil,X,sc,N,sc2,N2,gens,hN,hs,hp,h=>(mtG_0 h).elim
 | .cons t it ifs .nil,X,sc,N,sc2,N2,gens,hN,hs,hp,h=>by
  obtain ⟨tg,iter,cs,rfl,h2,h3,h4,h5,h6⟩:=mtG_1 h
  exact ⟨tg,iter,cs,rfl,h2,h3,sndi it X sc N tg iter hN hs hp (tg_tup h6 h3) h4,fun Y y1 y2 y3=>sndt ifs Y sc2 N2 cs y1 y2 y3 h5⟩
 | .cons t it ifs (.cons t2 it2 ifs2 .nil),X,sc,N,sc2,N2,gens,hN,hs,hp,h=>by
  obtain ⟨tg,iter,cs,tg2,iter2,cs2,rfl,h3,h4,h5,h6,h7,h8,h9,h10,h11,h12⟩:=mtG_2 h
  exact ⟨tg,iter,cs,tg2,iter2,cs2,rfl,h3,h4,h5,h8,sndi it X sc N tg iter hN hs hp (tg_tup h11 h5) h6,fun Y y1 y2 y3=>sndt ifs Y sc2 N2 cs y1 y2 y3 h7,fun Y y1 y2 y3=>sndi it2 Y sc2 N2 tg2 iter2 y1 y2 y3 (tg_tup h12 h8) h9,fun Y y1 y2 y3=>sndt ifs2 Y sc2 N2 cs2 y1 y2 y3 h10⟩
 | .cons t it ifs (.cons t2 it2 ifs2 (.cons _ _ _ _)),X,sc,N,sc2,N2,gens,hN,hs,hp,h=>(mtG_3 h).elim
end
end
end Z
end
section
namespace Z
open PySem PySem.Spec PyProof.Rows L2
section
variable {X:Cx} {pins:List (Addr×Obj)} {σ:L2.St} {H:Hp} {s:Shared} {ρ:List Addr} {S S':Sto} {env:En} {a b c e tg:Expr} {f fa fb fc:En→Sto→R D} {pos:Pos}
theorem ds_asg {t:Tg} (he:DE X e f) (hg:DG X tg t) (hs:swapsWithSole [tg] e pos.line X.env=pure false) (hw:swappedStores [tg] e X.env=pure none) (h1:(assignEach [tg] X.env).map (·.2)=[assign tg X.env]) :
  DS X (.Assign [tg] e pos) false (fun env S=>(f env S).bind fun x S=>match setTg t x env with | some env=>.ok (.nx env) S | none=>.bad):=by
 intro pins s σ H ρ S env I nb
 dsimp only at nb ⊢
 cases q:f env S with
 | bad=>rw [q] at nb; exact absurd rfl nb
 | ex n S1=>exact wpAny_Assign_stores (he.ex I q fun x s' z=>.of .refl z rfl) hs hw
 | ok d S1 =>
  rw [q] at nb
  simp only [R.bind_ok] at nb ⊢
  cases q2:setTg t d env with
  | none=>rw [q2] at nb; exact absurd rfl nb
  | some env' =>
   refine wpAny_Assign_stores (he.ok I q fun u s' v H' ρ' J rv rd st=>?_) hs hw
   rw [h1]
   exact hg pins s' σ H' ρ' S1 env d v u env' _ _ J q2 rd rv fun s2 σ2 I2=>⟨.nx env',S1,rfl,rfl,σ2,H',ρ',I2,st,fun z=>nomatch z⟩
theorem ds_unp {is:List Nat} (he:DE X e f) (hg:DGL X tg is) (hs:swapsWithSole [tg] e pos.line X.env=pure false) (hw:swappedStores [tg] e X.env=pure none) (h1:(assignEach [tg] X.env).map (·.2)=[assign tg X.env]) :
  DS X (.Assign [tg] e pos) false (fun env S=>(f env S).bind fun x S=>match (lstV S x).bind fun ds=>setTg (.tup is) (.tup ds) env with | some env=>.ok (.nx env) S | none=>.bad):=by
 intro pins s σ H ρ S env I nb
 dsimp only at nb ⊢
 cases q:f env S with
 | bad=>rw [q] at nb; exact absurd rfl nb
 | ex n S1=>exact wpAny_Assign_stores (he.ex I q fun x s' z=>.of .refl z rfl) hs hw
 | ok d S1 =>
  rw [q] at nb
  simp only [R.bind_ok] at nb ⊢
  cases q0:lstV S1 d with
  | none=>rw [q0] at nb; exact absurd rfl nb
  | some ds =>
   rw [q0] at nb
   simp only [Option.bind_some] at nb ⊢
   cases q2:setTg (.tup is) (.tup ds) env with
   | none=>rw [q2] at nb; exact absurd rfl nb
   | some env' =>
    refine wpAny_Assign_stores (he.ok I q fun u s' v H' ρ' J rv rd st=>?_) hs hw
    rw [h1]
    exact hg pins s' σ H' ρ' S1 env d v u ds env' _ _ J q0 q2 rd rv fun s2 σ2 I2=>⟨.nx env',S1,rfl,rfl,σ2,H',ρ',I2,st,fun z=>nomatch z⟩
theorem ds_par2 {i j:Nat} {x y:Str} {ga:En→Sto→R (List D)} {px py pt:Pos} {kt k2 pt2} (hc:X.calm=true) (hN:X.N.Nodup) (hi:X.N[i]?=some x) (hj:X.N[j]?=some y) (hij:i≠j)
  (hx:X.env.scope.names.lookup x=some .local) (hy:X.env.scope.names.lookup y=some .local) (ha:DA X [a,b] ga)
  (hw:swappedStores [.Tuple [.Name x px,.Name y py] kt pt] (.Tuple [a,b] k2 pt2) X.env=pure (some [x,y]))
  (hs:swapsWithSole [.Tuple [.Name x px,.Name y py] kt pt] (.Tuple [a,b] k2 pt2) pos.line X.env=pure false) :
  DS X (.Assign [.Tuple [.Name x px,.Name y py] kt pt] (.Tuple [a,b] k2 pt2) pos) false (fun env S=>(ga env S).bind fun xs S=>if [i,j].length=xs.length then .ok (.nx (([i,j].zip xs).foldl (fun e p=>e.set p.1 (some p.2)) env)) S else .bad):=by
 intro pins s σ H ρ S env I nb
 dsimp only at nb ⊢
 rw [exec_Assign_arm]
 refine wpAny_bind (wpAny_standAt ?_)
 rw [hs]
 refine wpAny_bind (wpAny_pure ?_)
 rw [if_neg (by decide)]
 cases q:ga env S with
 | bad=>rw [q] at nb; exact absurd rfl nb
 | ex n S1=>exact wpAny_bind (Tuple_ (ha.ex I q fun x s' z=>.of .refl z rfl))
 | ok ds S1 =>
  rw [q] at nb
  simp only [R.bind_ok] at nb ⊢
  split at nb
  ·rename_i hl
   rw [if_pos hl]
   obtain ⟨d1,d2,rfl⟩:∃ d1 d2,ds=[d1,d2]:=by
    match ds,hl with
    | [d1,d2],_=>exact ⟨d1,d2,rfl⟩
   refine wpAny_bind (Tuple_ (ha.ok I q fun us s1 vs H1 ρ1 I1 rvs rds st1=>?_))
   obtain ⟨v,w,rfl,rd1,rd2⟩:=rds.two
   obtain ⟨u1,u2,rfl,rv,rw'⟩:∃ u1 u2,us=[u1,u2]∧RelV v u1∧RelV w u2:=by
    cases rvs with
    | cons p q =>
     cases q with
     | cons p' q' =>
      cases q'
      exact ⟨_,_,rfl,p,p'⟩
   refine wpAny_newObj_type ?_ (by show 2≤sizeLine; decide)
   have I2:Inv X pins σ H1 { s1 with heap:=s1.heap.push { cls:=.type "tuple",data:=.seq [u1,u2].toArray } }:=I1.inv.kept (t':=s1.toks) fun b o e=>Heap.get?_push_of_some _ e
   rw [hw]
   refine wpAny_bind (wpAny_pure ?_)
   show wpAny (model X.prog X.w) X.A (do rule "assign.swapped-stores"; let items ← unpackItems (.ref s1.heap.objs.size) 2 none; assignInOrder [fun v=>bindName X.env y v,fun v=>bindName X.env x v] items.reverse; pure Flow.next) _ _ _
   refine wpAny_bind (wpAny_rule (wpAny_bind (unpackItems_tuple (items:=#[u1,u2]) (I.inv.ok.hd hc) (IsTup.new s1.heap _) fun h' hx'=>?_)))
   have I3:=I2.kept (h':=h') (t':=s1.toks) fun b o e=>hx' b o (Nat.ne_of_lt (Heap.lt_size e)) e
   show wpAny _ _ (assignInOrder [fun v=>bindName X.env y v,fun v=>bindName X.env x v] [u2,u1] >>= fun _=>pure Flow.next) _ _ _
   refine wpAny_bind (assignInOrder_cons (wpAny_bindName (store_ok I3 hN hj (.inl hy) rw' (fun s2 I4=>?_) (.inr hy))))
   refine assignInOrder_cons (wpAny_bindName (store_ok I4 hN hi (.inl hx) rv (fun s3 I5=>assignInOrder_nil (wpAny_pure ?_)) (.inr hx)))
   rw [List.set_comm _ _ (Ne.symm hij)] at I5
   exact ⟨.nx ((env.set i (some d1)).set j (some d2)),S1,rfl,rfl,_,H1,ρ1,⟨I5,I1.sr,(I1.er.set i rd1).set j rd2⟩,st1,fun z=>nomatch z⟩
  ·exact absurd rfl nb
theorem ds_par3 {i j k:Nat} {x y z:Str} {ga:En→Sto→R (List D)} {px py pz pt:Pos} {kt k2 pt2} (hc:X.calm=true) (hN:X.N.Nodup) (hi:X.N[i]?=some x) (hj:X.N[j]?=some y) (hk:X.N[k]?=some z) (hij:i≠j) (hik:i≠k) (hjk:j≠k)
  (hx:X.env.scope.names.lookup x=some .local) (hy:X.env.scope.names.lookup y=some .local) (hz:X.env.scope.names.lookup z=some .local) (ha:DA X [a,b,c] ga)
  (hw:swappedStores [.Tuple [.Name x px,.Name y py,.Name z pz] kt pt] (.Tuple [a,b,c] k2 pt2) X.env=pure (some [x,y,z]))
  (hs:swapsWithSole [.Tuple [.Name x px,.Name y py,.Name z pz] kt pt] (.Tuple [a,b,c] k2 pt2) pos.line X.env=pure false) :
  DS X (.Assign [.Tuple [.Name x px,.Name y py,.Name z pz] kt pt] (.Tuple [a,b,c] k2 pt2) pos) false (fun env S=>(ga env S).bind fun xs S=>if [i,j,k].length=xs.length then .ok (.nx (([i,j,k].zip xs).foldl (fun e p=>e.set p.1 (some p.2)) env)) S else .bad):=by
 intro pins s σ H ρ S env I nb
 dsimp only at nb ⊢
 rw [exec_Assign_arm]
 refine wpAny_bind (wpAny_standAt ?_)
 rw [hs]
 refine wpAny_bind (wpAny_pure ?_)
 rw [if_neg (by decide)]
 cases q:ga env S with
 | bad=>rw [q] at nb; exact absurd rfl nb
 | ex n S1=>exact wpAny_bind (Tuple_ (ha.ex I q fun x s' z=>.of .refl z rfl))
 | ok ds S1 =>
  rw [q] at nb
  simp only [R.bind_ok] at nb ⊢
  split at nb
  ·rename_i hl
   rw [if_pos hl]
   obtain ⟨d1,d2,d3,rfl⟩:∃ d1 d2 d3,ds=[d1,d2,d3]:=by
    match ds,hl with
    | [d1,d2,d3],_=>exact ⟨d1,d2,d3,rfl⟩
   refine wpAny_bind (Tuple_ (ha.ok I q fun us s1 vs H1 ρ1 I1 rvs rds st1=>?_))
   simp only [RDs] at rds
   obtain ⟨v1,_,rfl,rd1,v2,_,rfl,rd2,v3,_,rfl,rd3,rfl⟩:=rds
   obtain ⟨u1,u2,u3,rfl,rv1,rv2,rv3⟩:∃ u1 u2 u3,us=[u1,u2,u3]∧RelV v1 u1∧RelV v2 u2∧RelV v3 u3:=by
    cases rvs with
    | cons p q =>
     cases q with
     | cons p' q' =>
      cases q' with
      | cons p'' q'' =>
       cases q''
       exact ⟨_,_,_,rfl,p,p',p''⟩
   refine wpAny_newObj_type ?_ (by show 3≤sizeLine; decide)
   have I2:Inv X pins σ H1 { s1 with heap:=s1.heap.push { cls:=.type "tuple",data:=.seq [u1,u2,u3].toArray } }:=I1.inv.kept (t':=s1.toks) fun b o e=>Heap.get?_push_of_some _ e
   rw [hw]
   refine wpAny_bind (wpAny_pure ?_)
   show wpAny (model X.prog X.w) X.A (do rule "assign.swapped-stores"; let items ← unpackItems (.ref s1.heap.objs.size) 3 none; assignInOrder [fun v=>bindName X.env z v,fun v=>bindName X.env y v,fun v=>bindName X.env x v] items.reverse; pure Flow.next) _ _ _
   refine wpAny_bind (wpAny_rule (wpAny_bind (unpackItems_tuple (items:=#[u1,u2,u3]) (I.inv.ok.hd hc) (IsTup.new s1.heap _) fun h' hx'=>?_)))
   have I3:=I2.kept (h':=h') (t':=s1.toks) fun b o e=>hx' b o (Nat.ne_of_lt (Heap.lt_size e)) e
   show wpAny _ _ (assignInOrder [fun v=>bindName X.env z v,fun v=>bindName X.env y v,fun v=>bindName X.env x v] [u3,u2,u1] >>= fun _=>pure Flow.next) _ _ _
   refine wpAny_bind (assignInOrder_cons (wpAny_bindName (store_ok I3 hN hk (.inl hz) rv3 (fun s2 I4=>?_) (.inr hz))))
   refine assignInOrder_cons (wpAny_bindName (store_ok I4 hN hj (.inl hy) rv2 (fun s2 I4=>?_) (.inr hy)))
   refine assignInOrder_cons (wpAny_bindName (store_ok I4 hN hi (.inl hx) rv1 (fun s3 I5=>assignInOrder_nil (wpAny_pure ?_)) (.inr hx)))
   rw [List.set_comm (i:=j) (j:=i) _ _ (Ne.symm hij),List.set_comm (i:=k) (j:=i) _ _ (Ne.symm hik),List.set_comm (i:=k) (j:=j) _ _ (Ne.symm hjk)] at I5
   exact ⟨.nx (((env.set i (some d1)).set j (some d2)).set k (some d3)),S1,rfl,rfl,_,H1,ρ1,⟨I5,I1.sr,((I1.er.set i rd1).set j rd2).set k rd3⟩,st1,fun z=>nomatch z⟩
  ·exact absurd rfl nb
theorem aset_d {x y d:D} {vx vy v:V} {ux uy u:Value} {Ev:Value→Shared→Prop} {Q:Unit→Shared→Prop} (I:S0 X pins σ H s ρ S env) (nb:asetD x y d S≠.bad) (rx:RD X.K ρ H x vx) (qx:RelV vx ux) (ry:RD X.K ρ H y vy) (qy:RelV vy uy) (rd:RD X.K ρ H d v) (rv:RelV v u)
  (hQ:∀ S' s' H',asetD x y d S=.ok () S'→S0 X pins σ H' s' ρ S' env→Stp X.K ρ ρ H H'→Q () s'):wpAny (model X.prog X.w) X.A (setItem ux uy u) Q Ev s:=by
 unfold asetD at nb hQ
 match x,y,rx,ry,nb,hQ with
 | .ref n,.int k,rx,ry,nb,hQ =>
  dsimp only at nb hQ
  cases e:Z.lstM S n with
  | none=>rw [e] at nb; exact absurd rfl nb
  | some xs =>
   rw [e] at nb hQ
   dsimp only at nb hQ
   cases e2:Z.ixN xs.length k with
   | none=>rw [e2] at nb; exact absurd rfl nb
   | some j =>
    rw [e2] at hQ
    obtain ⟨a,ws,rfl,ha,hv,hr⟩:=I.lstR e rx
    simp only [RD] at ry
    subst ry
    have hl:L2.ixN ws.length k=some j:=by rw [← hr.length]; exact e2
    refine thn (set_list (X:=X.wish Ev) pins s σ H (.ref a) (.int k) v ux uy u (fun H'=>H'=upd H a (.lst (ws.set j v))) (I.inv.wish Ev) qx qy rv ⟨a,ws,k,j,rfl,rfl,hv,hl,rfl⟩) fun _ s' ⟨H',J,e3⟩=>?_
    subst e3
    have st:Stp X.K ρ ρ H (upd H a (.lst (ws.set j v))):=Stp.chg (S:=S) (o:=.lst (xs.set j d)) I.sr ha
    exact hQ _ s' _ rfl ⟨J.unwish,I.sr.chg ha ⟨ws.set j v,upd_same,(hr.set rd j).mono st⟩,I.er.mono st⟩ st
 | .ref n,.non,_,_,nb,_=>exact absurd rfl nb
 | .ref n,.bl _,_,_,nb,_=>exact absurd rfl nb
 | .ref n,.str _,_,_,nb,_=>exact absurd rfl nb
 | .ref n,.tup _,_,_,nb,_=>exact absurd rfl nb
 | .ref n,.ref _,_,_,nb,_=>exact absurd rfl nb
 | .ref n,.fro _,_,_,nb,_=>exact absurd rfl nb
 | .non,_,_,_,nb,_=>exact absurd rfl nb
 | .bl _,_,_,_,nb,_=>exact absurd rfl nb
 | .int _,_,_,_,nb,_=>exact absurd rfl nb
 | .str _,_,_,_,nb,_=>exact absurd rfl nb
 | .tup _,_,_,_,nb,_=>exact absurd rfl nb
 | .fro _,_,_,_,nb,_=>exact absurd rfl nb
end
section
variable {X:Cx} {pins:List (Addr×Obj)} {σ:L2.St} {H:Hp} {s:Shared} {ρ:List Addr} {S S':Sto} {env:En} {a b c e o i:Expr} {f fa fb fc fo fi:En→Sto→R D} {pos spos:Pos}
theorem ds_aset (he:DE X e f) (ho:DE X o fo) (hi:DE X i fi) (hs:swapsWithSole [.Subscript o i spos] e pos.line X.env=pure false) (hw:swappedStores [.Subscript o i spos] e X.env=pure none)
  (hA:∀ v,assign (.Subscript o i spos) X.env v=(do
   let ov ← holding [v] (eval o X.env)
   let iv ← holding [v,ov] (eval i X.env)
   standAt spos
   holding [v,ov,iv] (setItem ov iv v)
   release [v,ov,iv] [])) :
  DS X (.Assign [.Subscript o i spos] e pos) true (fun env S=>(f env S).bind fun v S=>(fo env S).bind fun x S=>(fi env S).bind fun y S=>(asetD x y v S).bind fun _ S=>.ok (.nx env) S):=by
 intro pins s σ H ρ S env I nb
 dsimp only at nb ⊢
 generalize hr:(f env S).bind (fun v S=>(fo env S).bind fun x S=>(fi env S).bind fun y S=>(asetD x y v S).bind fun _ S=>R.ok (Fl.nx env) S)=r at nb ⊢
 have h1:(assignEach [Expr.Subscript o i spos] X.env).map (·.2)=[assign (.Subscript o i spos) X.env]:=rfl
 refine wpAny_Assign_stores (he.bind I (by rw [hr]; exact nb) hr.symm (fun d S1 u s1 v H1 ρ1 e1 nb1 I1 rv rd st1=>?_) fun x s' ⟨n,S2,e2,z⟩=>.of .refl z e2) hs hw
 rw [h1]
 show wpAny _ _ (assign (.Subscript o i spos) X.env u) _ _ _
 rw [hA]
 refine wpAny_bind (wpAny_holding (ho.bind I1 nb1 e1 (fun x S2 ux s2 vx H2 ρ2 e2 nb2 I2 rvx rdx st2=>?_) fun x s' ⟨n,S3,e3,z⟩=>.of st1 z e3))
 refine wpAny_bind (wpAny_holding (hi.bind I2 nb2 e2 (fun y S3 uy s3 vy H3 ρ3 e3 nb3 I3 rvy rdy st3=>?_) fun x s' ⟨n,S4,e4,z⟩=>.of (st1.trans st2) z e4))
 refine wpAny_bind (wpAny_standAt (wpAny_bind (wpAny_holding (aset_d I3 (fun z=>nb3 (by rw [z]; rfl)) (rdx.mono st3) rvx rdy rvy ((rd.mono st2).mono st3) rv fun S4 s4 H4 e4 I4 st4=>?_))))
 refine wpAny_release ⟨.nx env,S4,by rw [e3,e4]; rfl,rfl,σ,H4,ρ3,I4,st1.trans (st2.trans (st3.trans st4)),fun _=>rfl⟩
theorem aug_d {op:Bo} {x y:D} {vx vy:V} {ux uy:Value} {Ev:Value→Shared→Prop} (I:S0 X pins σ H s ρ S env) (nb:augD op x y S≠.bad) (rx:RD X.K ρ H x vx) (qx:RelV vx ux) (ry:RD X.K ρ H y vy) (qy:RelV vy uy) :
  wpAny (model X.prog X.w) X.A (inplaceOp (opB op) ux uy) (OkP X pins σ ρ H (augD op x y S)) Ev s:=by
 unfold augD at nb ⊢
 split at nb
 ·simp only [RD] at rx ry; subst rx ry
  obtain ⟨t,rfl⟩:=qx
  obtain ⟨t',rfl⟩:=qy
  exact iadd_int (fin_i I.sr (I.inv.tok _))
 ·simp only [RD] at rx ry; subst rx ry
  obtain ⟨t,rfl⟩:=qx
  obtain ⟨t',rfl⟩:=qy
  exact isub_int (fin_i I.sr (I.inv.tok _))
 ·simp only [RD] at rx ry; subst rx ry
  obtain ⟨t,rfl⟩:=qx
  obtain ⟨t',rfl⟩:=qy
  split at nb
  ·rename_i hm
   rw [if_pos hm]
   exact imul_int (fin_i I.sr (I.inv.tok _)) (mulOk_ok hm)
  ·exact absurd rfl nb
 ·exact absurd rfl nb
theorem ds_aug {op:Bo} {k:Nat} {x:Str} (hN:X.N.Nodup) (hi:X.N[k]?=some x) (hx:Loc X.env.scope x) (hf:X.fn x=true∨X.env.scope.names.lookup x=some .local) (he:DE X e f) :
  DS X (.AugAssign (.Name x spos) (opB op) e pos) false (fun env S=>match env[k]? with
   | some (some x)=>(f env S).bind fun y S=>(augD op x y S).bind fun z S=>.ok (.nx (env.set k (some z))) S
   | _=>.bad):=by
 intro pins s σ H ρ S env I nb
 dsimp only at nb ⊢
 split at nb
 ·rename_i d hd
  obtain ⟨v,e1,rd⟩:=I.er.2 k d hd
  generalize hr:((f env S).bind fun y S=>(augD op d y S).bind fun z S=>R.ok (Fl.nx (env.set k (some z))) S)=r at nb ⊢
  obtain ⟨m,hn,hl⟩:=I.inv.loc
  have vis:Vis X.env.scope x:=by rcases hx with k | k; exact .inl k; exact .inr (.inl k)
  obtain ⟨u,rv,l⟩:=hl k x v hi e1 vis
  refine wpAny_AugAssign_Name ?_
  have go:wpAny (model X.prog X.w) X.A (eval e X.env) (fun w s₂=>wpAny (model X.prog X.w) X.A (inplaceOp (opB op) u w) (fun z s₃=>wpAny (model X.prog X.w) X.A (storeName X.env x z) (fun _=>OkS X pins σ ρ H false r .next) (ExS X pins σ ρ H false r) s₃) (ExS X pins σ ρ H false r) s₂) (ExS X pins σ ρ H false r) s:=by
   refine he.bind I (by rw [hr]; exact nb) hr.symm (fun d2 S1 w s1 v2 H1 ρ1 e2 nb2 I1 rv2 rd2 st1=>?_) fun x s' ⟨n,S2,e2,z⟩=>.of .refl z e2
   refine wpAny_mono (aug_d (Ev:=fun _ _=>False) I1 (fun z=>nb2 (by rw [z]; rfl)) (rd.mono st1) rv rd2 rv2) (fun z s3 hz=>?_) fun _ _ z=>z.elim
   obtain ⟨d3,S3,e3,v3,H3,ρ3,J3,rv3,rd3,sr3,st3⟩:=hz
   exact store_ok J3 hN hi hx rv3 (fun s4 I4=>⟨.nx (env.set k (some d3)),S3,by rw [e2,e3]; rfl,rfl,_,H3,ρ3,⟨I4,sr3,(I1.er.mono st3).set k rd3⟩,st1.trans st3,fun z=>nomatch z⟩) hf
  rcases l with ⟨hk,hm⟩ | ⟨hk,c,hc,hcell⟩
  ·exact wpAny_loadName_local I.inv.ok.kind hk hn hm go
  ·rcases hk with hk | hk
   ·exact wpAny_loadName_cell I.inv.ok.kind hk hc hcell go
   ·rcases hx with k | k
    ·have:X.env.scope.names.lookup x=some .free:=hk
     rw [k] at this; cases this
    ·have:X.env.scope.names.lookup x=some .free:=hk
     rw [k] at this; cases this
 ·exact absurd rfl nb
theorem ds_whl {body:List Stmt} {na:Bool} {g:En→Sto→R Fl} (hc:DT X c (fun env S=>tst (fc env S))) (hb:DSs X body na g) :
  DS X (.While c body [] pos) false (fun env S=>wloop (fun env S=>tst (fc env S)) g 100000 env S):=by
 intro pins s σ H ρ S env I nb
 dsimp only at nb ⊢
 have hp:PassesOwn (model X.prog X.w) X.A X.env (fun _ _=>False):=PassesOwn.never
 generalize hn:100000=n0 at nb ⊢
 generalize hr0:wloop (fun env S=>tst (fc env S)) g n0 env S=r0 at nb ⊢
 refine wpAny_mono (E:=fun _ _=>False) (wpAny_While (codeAny_whileLoop (fun n s'=>∃ σ' H' ρ' S' env',S0 X pins σ' H' s' ρ' S' env'∧Stp X.K ρ ρ' H H'∧wloop (fun env S=>tst (fc env S)) g n env' S'≠.bad∧wloop (fun env S=>tst (fc env S)) g n env' S'=r0) ?_ n0 ⟨σ,H,ρ,S,env,I,.refl,by rw [hr0]; exact nb,hr0⟩)) (fun _ _ z=>z) fun _ _ z=>z.elim
 rintro n s3 ⟨σ3,H3,ρ3,S3,env3,I3,st3,nb3,eq3⟩
 cases n with
 | zero=>exact absurd rfl nb3
 | succ n =>
  simp only [wloop] at nb3 eq3
  cases e4:tst (fc env3 S3) with
  | bad=>rw [e4] at nb3; exact absurd rfl nb3
  | ex m S4=>rw [e4] at nb3; exact absurd rfl nb3
  | ok t S4 =>
   refine wpAny_passesOwn hp (hc.ok I3 e4 fun s4 H4 ρ4 I4 st4=>?_)
   rw [e4] at nb3 eq3
   cases t with
   | false =>
    rw [if_neg Bool.false_ne_true]
    exact wpAny_execs_nil ⟨.nx env3,S4,eq3.symm,rfl,σ3,H4,ρ4,I4,st3.trans st4,fun z=>nomatch z⟩
   | true =>
    rw [if_pos rfl]
    dsimp only at nb3 eq3
    cases e5:g env3 S4 with
    | bad=>rw [e5] at nb3; exact absurd rfl nb3
    | ex m S5=>rw [e5] at nb3; exact absurd rfl nb3
    | ok x5 S5 =>
     rw [e5] at nb3 eq3
     refine wpAny_passesOwn hp (hb.ok I4 e5 fun fl s5 z5=>?_)
     cases x5 with
     | nx e=>obtain ⟨rfl,σ5,H5,ρ5,I5,st5,_⟩:=z5; exact ⟨n,Nat.lt_succ_self _,σ5,H5,ρ5,S5,e,I5,st3.trans (st4.trans st5),nb3,eq3⟩
     | cnt e=>obtain ⟨rfl,σ5,H5,ρ5,I5,st5⟩:=z5; exact ⟨n,Nat.lt_succ_self _,σ5,H5,ρ5,S5,e,I5,st3.trans (st4.trans st5),nb3,eq3⟩
     | brk e=>obtain ⟨rfl,σ5,H5,ρ5,I5,st5⟩:=z5; exact ⟨.nx e,S5,eq3.symm,rfl,σ5,H5,ρ5,I5,st3.trans (st4.trans st5),fun z=>nomatch z⟩
     | rt d=>obtain ⟨u,v,σ5,H5,ρ5,rfl,J5,rv5,rd5,sr5,st5⟩:=z5; exact ⟨.rt d,S5,eq3.symm,u,v,σ5,H5,ρ5,rfl,J5,rv5,rd5,sr5,st3.trans (st4.trans st5)⟩
end
section
variable {X:Cx} {pins:List (Addr×Obj)} {σ:L2.St} {H:Hp} {s:Shared} {ρ:List Addr} {S S':Sto} {env:En} {a b c e o i:Expr} {f fa fb fc fo fi:En→Sto→R D} {pos spos:Pos}
end
end Z
end
section
namespace Z
open PySem PySem.Spec PyProof.Rows L2
noncomputable def EClsAt (C:Addr) (h:Heap):Prop:=∃ tl N nm qn bs hd sn sub ab col dd k0 k1 k2 k3 k5 mN,
 h.get? C=some (excClassObj nm qn C N bs tl hd sn sub ab col dd k0 k1 k2 k3 k5 "ValueError.__new__")∧h.Ns N mN∧mN "__init__" = none∧OwnTail h bmV tl
theorem ecls_of {K:PySem.W.Frag} {h:Heap} {C:Addr} (hK:K.In h) (hq:PySem.W.excIn K C bmV "ValueError.__new__" = true):EClsAt C h:=by
 unfold PySem.W.excIn at hq
 split at hq
 case h_2=>cases hq
 rename_i _ dct cdt slt lk
 split at hq
 case h_2=>cases hq
 rename_i _ C1 tl s0 s1 s2 s3 nw s5 em es
 simp only [Bool.and_eq_true,beq_iff_eq,Bool.not_eq_true'] at hq
 obtain ⟨⟨⟨⟨⟨e1,e2⟩,e3⟩,e4⟩,e5⟩,e6⟩:=hq
 subst e1 e2
 cases cdt
 dsimp only at em e3 e5 e6
 subst em e3
 have esl:slt=#[s0,s1,s2,s3,some (.builtin "ValueError.__new__"),s5]:=by
  cases slt
  dsimp only at es
  rw [es]
 subst esl
 exact ⟨tl,_,_,_,_,_,_,_,_,_,_,_,_,_,_,_,_,hK _ _ lk,.of_isNs (PySem.W.isNs_of_in hK e5),PySem.W.nsMap_none_of_in hK e5 e6,PySem.W.tail_of_in hK e4⟩
theorem _root_.L2.Inv.newX {X:Cx} {pins:List (Addr×Obj)} {σ:L2.St} {H:Hp} {s:Shared} {h':Heap} {a:Addr} {o:HO} (I:Inv X pins σ H s) (k:∀ b u,s.heap.get? b=some u→h'.get? b=some u) (hn:s.heap.get? a=none)
  (new:ObjOk X.prog X.w (upd H a o) h' a o):Inv X pins σ (upd H a o) { s with heap:=h' }∧HOk X.prog X.w (upd H a o) h':=by
 have hna:H a=none:=by
  cases z:H a with
  | none=>rfl
  | some w=>obtain ⟨q,e⟩:=obj_there (I.hok a w z); rw [hn] at e; cases e
 have ne:∀ b u,H b=some u→b≠a:=fun b u q=>ne_of_none q hna
 have hok:HOk X.prog X.w (upd H a o) h':=fun b u q=>by
  by_cases hb:b=a
  ·subst hb; rw [upd_same] at q; cases q; exact new
  ·rw [upd_ne hb] at q
   exact (I.hok b u q).stay (fun c v _ e=>k c v e) (fun c z=>by rw [upd_ne (ne c _ z)]; exact z) fun c xs z=>by rw [upd_ne (ne c _ z)]; exact z
 refine ⟨I.un (t':=s.toks) ⟨fun b u e _ _ _=>k b u e,fun b u e _ _ _=>⟨u.slots,k b u e⟩,fun b u e n _=>?_,fun b u e _=>⟨u,k b u e⟩,fun b xs z=>by rw [upd_ne (ne b _ z)]; exact z,fun b u xs z=>by rw [upd_ne (ne b _ z)]; exact z,fun b ps z=>⟨#[],by rw [upd_ne (ne b _ z),z]; simp⟩⟩ hok,hok⟩
 rw [upd_ne (fun z=>by rw [z,hn] at e; cases e)]; exact n
section
variable {X:Cx} {pins:List (Addr×Obj)} {σ:L2.St} {H:Hp} {s:Shared} {ρ:List Addr} {S S':Sto} {env:En} {e:Expr} {f:En→Sto→R D} {pos np cpos:Pos}
theorem ds_rse {c:Nat} {x:Str} {C:Addr} (hc:X.calm=true) (hx:clsNm c=some x) (hn:PySem.W.nsIn X.K mainGlobals x=some (some (.ref C))) (hq:PySem.W.excIn X.K C bmV "ValueError.__new__" = true)
  (hg:Gl X x) (hdb:(x == ("__debug__" : Str))=false) (he:DE X e f) (hst:noStar e=true):DS X (.Raise (some (.Call (.Name x np) [e] [] cpos)) none pos) true (fun env S=>(f env S).bind fun _ S=>.ex S.length (S++[.exc c])):=by
 intro pins s σ H ρ S env I nb
 dsimp only at nb ⊢
 have hm:X.mg x=some (.ref C):=PySem.W.mg_of I.inv.mod.kin I.inv.mod.glob hn
 have hcl:clsAt X.K c=some C:=by unfold clsAt; rw [hx]; simp only [Option.bind_some,hn]
 obtain ⟨tl,N,nm,qn,bs,hd,sn,sub,ab,col,dd,k0,k1,k2,k3,k5,mN,hC,hN,hni,T⟩:=ecls_of I.inv.mod.kin hq
 refine wpAny_Raise_call_subT (C:=C) (nm:=nm) (q:=qn) (N:=N) (bs:=bs) (bm:=tl) (hdct:=hd) (sn:=sn) (sub:=sub) (ab:=ab) (col:=col) (dd:=dd) (k0:=k0) (k1:=k1) (k2:=k2) (k3:=k3) (k5:=k5)
  PySem.F.excBase_ValueError (mN:=mN) (T.hasType PySem.F.excBase_ValueError.hasBase) (I.inv.ok.hd hc) (by rw [star_cons hst]; rfl) hni (ld_glob I.inv hg hm ⟨rfl,?_⟩ hdb)
 rw [star_cons hst]
 refine Calls.evalArgs_plain ?_
 generalize hr:((f env S).bind fun _ S=>(R.ex S.length (S++[.exc c]):R Fl))=r at nb ⊢
 refine Calls.spliced_cons (he.bind I (by rw [hr]; exact nb) hr.symm (fun d S1 u s1 v H1 ρ1 e1 nb1 I1 rv rd st1=>Calls.spliced_nil ?_) fun y s' ⟨n,S2,z1,z2⟩=>⟨n,S2,σ,z1,fun _=>rfl,z2⟩)
 refine ⟨rfl,by simp [sizeLine],I1.inv.bk _ _ hC,hN.keeps I1.inv.bk,T.keeps I1.inv.bk,fun h' a hmk=>?_⟩
 obtain ⟨t,h1,h2,h3⟩:=hmk.there
 have hna:H1 a=none:=by
  cases z:H1 a with
  | none=>rfl
  | some w=>obtain ⟨o,e⟩:=obj_there (I1.inv.hok a w z); rw [hmk.new] at e; cases e
 have xo:ExcO C a h':=⟨_,_,_,h1,rfl,rfl,rfl,by simp⟩
 obtain ⟨J,hok⟩:=I1.inv.newX hmk.keeps hmk.new xo.ok
 refine ⟨S1.length,S1++[.exc c],σ,e1,fun _=>rfl,_,ρ1++[a],a,c,J,rfl,?_,by simp,I1.sr.new1 (o:=.exc c) hna ⟨C,hcl,upd_same⟩,st1.trans (Stp.new1 hna),.inl ⟨_,_,h1,rfl,rfl⟩⟩
 rw [← I1.sr.len]; simp
end
end Z
end
section
namespace Z
open PySem PySem.Spec PyProof.Rows L2
noncomputable def inH (X:Cx) (a:Addr):Cx:={ X with A:=X.A.mark (some (.ref a)),calm:=false }
section
variable {X:Cx} {pins:List (Addr×Obj)} {σ:L2.St} {H:Hp} {s:Shared} {a:Addr}
theorem Inv.inH (I:Inv X pins σ H s) (a:Addr):Inv (inH X a) pins σ H s :=
 ⟨⟨I.ok.mod,I.ok.kind,I.ok.glob,I.ok.blt,I.ok.above,I.ok.inj,I.ok.has,I.ok.cab,(fun z=>nomatch z),I.ok.frames,I.ok.stk,I.ok.exf,I.ok.bs,I.ok.bsz,I.ok.noex,I.ok.exfs,I.ok.funs,I.ok.frf⟩,I.os,I.bare,I.base,I.loc,I.cell,I.free,I.freeC,I.pin,I.hok,I.len⟩
theorem Inv.outH (I:Inv (Z.inH X a) pins σ H s) (ok:X.Ok):Inv X pins σ H s:=⟨ok,I.os,I.bare,I.base,I.loc,I.cell,I.free,I.freeC,I.pin,I.hok,I.len⟩
theorem Inv.fly {C:Addr} {h':Heap} {l:List Addr} (I:Inv X pins σ H s) (ha:H a=some (.ext (ExcO C a))) (hl:Hid X H a s.heap l)
  (hnew:∀ b∈l,b≠a→b ∉ frs X.stack→(b∈X.ex∨X.s₀.heap.get? b=none)∧∀ p∈X.pn++pins,p.1≠b) (k1:(PySem.W.hideAll s.heap l).StaysIn h') (k4:s.heap.UpToSlots h') (he:ExcO C a h') :
  Inv X pins σ H { s with heap:=h' }:=by
 have keep:∀ b o,s.heap.get? b=some o→b ∉ l→h'.get? b=some o:=fun b o e hb=>k1 b o (PySem.W.hideAll_get l e hb)
 have nfr:∀ b∈frs X.stack,∃ o,s.heap.get? b=some o∧∀ vs,o.data≠.fields vs:=fun b hb=>(I.stack.mem hb).2
 have old:∀ b o,X.s₀.heap.get? b=some o→b≠X.env.locals:=fun b o e=>Nat.ne_of_lt (Nat.lt_of_lt_of_le (Heap.lt_size e) I.ok.above)
 have cellK:∀ x c,X.env.cells.lookup x=some c→∀ v,s.heap.IsCell c v→h'.IsCell c v:=fun x c e v ⟨o,ho,hd⟩=>by
  obtain ⟨sl,q⟩:=k4 c o ho fun vs z=>by rw [hd] at z; cases z
  exact ⟨_,q,hd⟩
 refine ⟨I.ok,I.os,I.bare,⟨fun b o e n hb hx=>?_,fun b o e n hb hx=>?_,fun b o e n hx=>I.base.free b o e n hx,fun b o e hx=>?_,I.base.tups,I.base.frzs,I.base.tbls⟩,?_,fun x c e=>?_,I.free,I.freeC,fun p hp=>?_,hok_fly I ha hl keep he,I.len⟩
 ·refine keep b o (I.base.keep b o e n hb hx) fun hm=>?_
  have fb:=I.base.free b o e n hx
  by_cases h1:b=a
  ·rw [h1,ha] at fb; cases fb
  ·by_cases h2:b∈frs X.stack
   ·rcases List.mem_cons.mp (I.stkSub b h2) with z | z
    ·exact old b o e z
    ·exact hb z
   ·rcases (hnew b hm h1 h2).1 with z | z
    ·exact hx z
    ·rw [z] at e; cases e
 ·obtain ⟨sl,e1⟩:=I.base.slot b o e n hb hx
  obtain ⟨_,o',e',nd⟩:=I.funs.mem hb
  rw [e1] at e'; cases e'
  obtain ⟨sl',e2⟩:=k4 b _ e1 nd
  exact ⟨sl',e2⟩
 ·obtain ⟨o',e1⟩:=I.base.there b o e hx
  by_cases hm:b∈l
  ·by_cases h1:b=a
   ·subst h1; obtain ⟨oe,_,_,q,_⟩:=he; exact ⟨_,q⟩
   ·by_cases h2:b∈frs X.stack
    ·obtain ⟨o2,e2,nd⟩:=nfr b h2
     rw [e1] at e2; cases e2
     obtain ⟨sl,e3⟩:=k4 b _ e1 nd
     exact ⟨_,e3⟩
    ·rcases (hnew b hm h1 h2).1 with z | z
     ·exact absurd z hx
     ·rw [z] at e; cases e
  ·exact ⟨_,keep b o' e1 hm⟩
 ·obtain ⟨m,hn,hlk⟩:=I.loc
  refine ⟨m,k4.ns hn,fun i x v e1 e2 e3=>?_⟩
  obtain ⟨u,r,lk⟩:=hlk i x v e1 e2 e3
  refine ⟨u,r,?_⟩
  rcases lk with lk | ⟨kd,c,e,z⟩
  ·exact .inl lk
  ·exact .inr ⟨kd,c,e,cellK x c e _ z⟩
 ·obtain ⟨v,z⟩:=I.cell x c e
  exact ⟨v,cellK x c e v z⟩
 ·obtain ⟨e,n,ne,nf,d⟩:=I.pin p hp
  refine ⟨keep p.1 p.2 e fun hm=>?_,n,ne,nf,d⟩
  by_cases h1:p.1=a
  ·rw [h1,ha] at n; cases n
  ·by_cases h2:p.1∈frs X.stack
   ·rcases List.mem_cons.mp (I.stkSub p.1 h2) with z | z
    ·exact ne z
    ·exact nf z
   ·exact (hnew p.1 hm h1 h2).2 p hp rfl
theorem Inv.goes {n:Str} {p:Pos} {Q:Unit→Shared→Prop} {E:Value→Shared→Prop} {M:Model} {A:Around} (I:Inv X pins σ H s) (hl:X.env.scope.names.lookup n=some .local)
  (h:∀ s',Inv X pins (List.replicate σ.length none) H s'→Q () s'):wpAny M A (do bindName X.env n .none; unbindBehindTheSuite X.env n p) Q E s:=by
 obtain ⟨m,hn,_⟩:=I.loc
 refine wpAny_nameGoes hl hn (by rw [I.ok.kind]; rfl) fun h' m' hn' sb=>h _ ?_
 obtain ⟨o,es,ep,ho,r⟩:=id hn
 obtain ⟨o',es',ep',ho',r'⟩:=id hn'
 have old:∀ b u,X.s₀.heap.get? b=some u→b≠X.env.locals:=fun b u e=>Nat.ne_of_lt (Nat.lt_of_lt_of_le (Heap.lt_size e) I.ok.above)
 have cellK:∀ x c,X.env.cells.lookup x=some c→∀ v,s.heap.IsCell c v→h'.IsCell c v:=fun x c e v ⟨u,hu,hd⟩=>⟨u,(sb.2 c (I.cne x c e)).trans hu,hd⟩
 refine ⟨I.ok,I.os,I.bare,⟨fun b u e q hb hx=>(sb.2 b (old b u e)).trans (I.base.keep b u e q hb hx),fun b u e q hb hx=>?_,I.base.free,fun b u e hx=>?_,I.base.tups,I.base.frzs,I.base.tbls⟩,⟨m',hn',fun i x v _ e2 _=>?_⟩,fun x c e=>?_,I.free,I.freeC,fun p hp=>?_,fun b u q=>?_,by rw [List.length_replicate]; exact I.len⟩
 ·obtain ⟨sl,z⟩:=I.base.slot b u e q hb hx
  exact ⟨sl,(sb.2 b (old b u e)).trans z⟩
 ·obtain ⟨w,z⟩:=I.base.there b u e hx
  exact ⟨w,(sb.2 b (old b u e)).trans z⟩
 ·rw [List.getElem?_replicate] at e2
  split at e2 <;> cases e2
 ·obtain ⟨v,z⟩:=I.cell x c e
  exact ⟨v,cellK x c e v z⟩
 ·obtain ⟨e,n,ne,r⟩:=I.pin p hp
  exact ⟨(sb.2 _ ne).trans e,n,ne,r⟩
 ·have ne:∀ c v,H c=some v→c≠X.env.locals:=fun c v z=>ne_of_none z I.free
  refine (I.hok b u q).stay (fun c v hc e=>?_) (fun _ z=>z) fun _ _ z=>z
  rcases hc with rfl | hc
  ·exact (sb.2 _ (ne _ _ q)).trans e
  ·exact (sb.2 _ (ne _ _ hc)).trans e
noncomputable def tryR (c i:Nat) (g gh:En→Sto→R Fl) (env:En) (S:Sto):R Fl:=match g env S with
 | .ex m S'=>match S'[m]? with
  | some (.exc c')=>if c == 0 || c == c' then
    match gh (env.set i (some (.ref m))) S' with
    | .ok (.rt d) S''=>.ok (.rt d) S''
    | _=>.bad
   else .bad
  | _=>.bad
 | r=>r
theorem ds_try {c i:Nat} {x n:Str} {C0:Addr} {body suite:List Stmt} {b0:Stmt} {na:Bool} {g gh:En→Sto→R Fl} {np hp pos:Pos} (hs:X.stack=X.env :: X.outer) (hf:X.env.frame=some X.env.locals)
  (hN:X.N.Nodup) (hi:X.N[i]?=some n) (hl:X.env.scope.names.lookup n=some .local) (hn:PySem.W.nsIn X.K mainGlobals x=some (some (.ref C0))) (hg:Gl X x) (hdb:(x == ("__debug__" : Str))=false)
  (hm:∀ c' C,clsAt X.K c'=some C→(c == 0 || c == c')=true→PySem.W.exmOne X.K (.ref C) (.ref C0)=some true) (hb:DSs X body true g) (hh:∀ a,DSs (Z.inH X a) (b0 :: suite) na gh) :
  DS X (.Try body [.ExceptHandler (some (.Name x np)) (some n) (b0 :: suite) hp] [] [] pos) false (tryR c i g gh):=by
 intro pins s σ H ρ S env I nb
 unfold tryR at nb ⊢
 refine wpAny_Try_except ?_
 cases q:g env S with
 | bad=>rw [q] at nb; exact absurd rfl nb
 | ok y S1 =>
  refine wpAny_mono (hb pins s σ H ρ S env I (by rw [q]; exact fun z=>nomatch z)) (fun fl s1 z=>?_) fun x s1 z=>?_
  ·rw [q] at z
   have z':=z.pre (σ:=σ) (na':=false) .refl fun w=>nomatch w
   obtain ⟨y',S2,e,z2⟩:=z
   cases e
   cases y with
   | nx e=>obtain ⟨rfl,_⟩:=z2; exact wpAny_execs_nil z'
   | brk e=>obtain ⟨rfl,_⟩:=z2; exact z'
   | cnt e=>obtain ⟨rfl,_⟩:=z2; exact z'
   | rt d=>obtain ⟨u,v,σ',H',ρ',rfl,_⟩:=z2; exact z'
  ·obtain ⟨k,S2,σ2,e,_⟩:=z
   rw [q] at e; cases e
 | ex m S1 =>
  rw [q] at nb
  dsimp only at nb ⊢
  refine wpAny_mono (hb pins s σ H ρ S env I (by rw [q]; exact fun z=>nomatch z)) (fun fl s1 z=>?_) fun x1 s1 z=>?_
  ·obtain ⟨y,S2,e,_⟩:=z
   rw [q] at e; cases e
  obtain ⟨m',S2,σ',e,hσ,H1,ρ1,a,c',J,rfl,hρ,hc,sr,st,fl⟩:=z
  rw [q] at e; cases e
  cases hσ rfl
  rw [hc] at nb ⊢
  dsimp only at nb ⊢
  have hcc:(c == 0 || c == c')=true:=by
   cases z:(c == 0 || c == c') with
   | true=>rfl
   | false=>rw [z] at nb; exact absurd rfl nb
  rw [if_pos hcc] at nb ⊢
  obtain ⟨d,S2,hgh⟩:∃ d S2,gh (env.set i (some (.ref m))) S1=.ok (.rt d) S2:=by
   cases z:gh (env.set i (some (.ref m))) S1 with
   | bad=>rw [z] at nb; exact absurd rfl nb
   | ex _ _=>rw [z] at nb; exact absurd rfl nb
   | ok y S2 =>
    rw [z] at nb
    cases y with
    | rt d=>exact ⟨d,S2,rfl⟩
    | nx _=>exact absurd rfl nb
    | brk _=>exact absurd rfl nb
    | cnt _=>exact absurd rfl nb
  rw [hgh]
  dsimp only
  obtain ⟨C,hC,ha⟩:=(show ∃ C,clsAt X.K c'=some C∧H1 a=some (.ext (ExcO C a)) from sr.ob m a _ hρ hc)
  have hex:=hm c' C hC hcc
  obtain ⟨⟨oa,va,a0,ea,ca,da,v0,vz⟩,_,_⟩:=(show ObjOk X.prog X.w H1 s1.heap a (.ext (ExcO C a)) from J.hok a _ ha)
  have hA:X.A.frames=some (X.env :: X.outer):=by rw [← hs]; exact J.ok.frames
  have main:∀ (l:List Addr),Hid X H1 a s1.heap l→(∀ b∈l,b≠a→b ∉ frs X.stack→(b∈X.ex∨X.s₀.heap.get? b=none)∧∀ p∈X.pn++pins,p.1≠b) →
    ∀ h2,Heap.HeldW (PySem.W.hideAll s1.heap l) (X.env :: X.outer) a (.ref C) a0 X.env.locals h2→s1.heap.UpToSlots h2 →
    wpAny (model X.prog X.w) X.A (setFlight (.ref a) none) (fun _ s3=>wpAny (model X.prog X.w) X.A (handleBy (.ref a) X.env [.ExceptHandler (some (.Name x np)) (some n) (b0 :: suite) hp])
     (OkS X pins σ ρ H false (.ok (.rt d) S2)) (ExS X pins σ ρ H false (.ok (.rt d) S2)) s3) (ExS X pins σ ρ H false (.ok (.rt d) S2)) { s1 with heap:=h2 }:=by
   intro l hid hnew h2 hh2 up2
   have inv:∀ {h':Heap},Heap.FlyingW (PySem.W.hideAll s1.heap l) (X.env :: X.outer) a (.ref C) a0 h'→s1.heap.UpToSlots h'→Inv X pins σ H1 { s1 with heap:=h' }:=fun {h'} fw up=>by
    obtain ⟨f1,_,_,oe,vs,T,oT,ts,t1,⟨t2,t3⟩,t4,t5,_⟩:=fw
    exact Inv.fly J ha hid hnew f1 up ⟨oe,vs,a0,t1,t2,t4,t3,(Array.getElem?_eq_some_iff.mp t5).1⟩
   refine wpAny_landsW hh2 fun h3 fw3 up3=>?_
   have J3:=inv fw3 (up2.trans up3)
   obtain ⟨ob,hob,hobc⟩:=fw3.there
   refine wpAny_handleBy_cons (codeAny_handlers_test (ld_glob (Inv.inH J3 a) hg (PySem.W.mg_of J.mod.kin J.mod.glob hn) ?_ hdb)) (by intro z; cases z)
   have LT:PySem.W.Looks (model X.prog X.w) h3 (typeOf (.ref a)) (.ref C):=hobc ▸ (PySem.W.Looks.ld hob).andThen .now
   refine (PySem.W.exm_one J3.kIn LT hex).at ?_
   refine codeAny_handlers_suite_as (lands_againW fw3 fun h4 fw4 up4=>?_)
   have J4:=inv fw4 ((up2.trans up3).trans up4)
   refine store_ok (X:=Z.inH X a) (v:=.ref a) (Inv.inH J4 a) hN hi (.inl hl) rfl (fun s5 J5=>?_) (.inr hl)
   have er:ER X.K ρ1 H1 (env.set i (some (.ref m))) (σ.set i (some (.ref a))):=(I.er.mono st).set i (by simp only [RD]; exact ⟨a,rfl,hρ⟩)
   refine wpAny_mono (hh a pins s5 (σ.set i (some (.ref a))) H1 ρ1 S1 (env.set i (some (.ref m))) ⟨J5,sr,er⟩ (by rw [hgh]; exact fun z=>nomatch z)) (fun f6 s6 z=>?_) fun y s6 z=>?_
   ·rw [hgh] at z
    obtain ⟨y,S3,e,z⟩:=z
    cases e
    obtain ⟨u,v,σ6,H6,ρ6,rfl,J6,rv,rd,sr6,st6⟩:=z
    exact Inv.goes (Inv.outH J6 J.ok) hl fun s7 J7=>⟨.rt d,S2,rfl,u,v,_,H6,ρ6,rfl,J7,rv,rd,sr6,st.trans st6⟩
   ·rw [hgh] at z
    obtain ⟨_,_,_,e,_⟩:=z
    cases e
  have hI:=J.stack
  rcases fl with ⟨oe,vs,e1,e2,e3⟩ | ⟨oe,vs,T,oT,ts,e1,e2,e3,⟨e4,e5⟩,e6,e7,e8,e9,e10⟩
  ·have hid:Hid X H1 a s1.heap (a :: frs X.stack):=⟨.head _,fun b hb=>.tail _ hb,fun b hb=>by
    rcases List.mem_cons.mp hb with z | z
    ·exact .inl z
    ·exact .inr (.inl z)⟩
   rw [ea] at e1; cases e1
   rw [da] at e2; cases e2
   unfold noteFrame
   simp only [hf]
   refine wpAny_bind (wpAny_field ea da e3 ?_)
   rw [if_neg (by decide)]
   refine wpAny_entryW (base:=PySem.W.hideAll s1.heap (a :: frs X.stack)) hA (by rw [← hs]; exact frames_base hI fun b hb=>PySem.W.hideAll_none _ (.tail _ hb)) hf ea (fun b o e=>PySem.W.of_hideAll _ e) (PySem.W.hideAll_none _ (.head _)) da vz v0 fun h2 ⟨k1,k2,k3,k4⟩=>?_
   rw [ca] at k3
   exact main _ hid (fun b hb h1 h2=>by
    rcases List.mem_cons.mp hb with z | z
    ·exact absurd z h1
    ·exact absurd z h2) h2 ⟨k1,PySem.W.hideAll_none _ (.head _),k2,k3⟩ k4
  ·have hid:Hid X H1 a s1.heap (a :: T :: frs X.stack):=⟨.head _,fun b hb=>.tail _ (.tail _ hb),fun b hb=>by
    rcases List.mem_cons.mp hb with z | z
    ·exact .inl z
    ·rcases List.mem_cons.mp z with z | z
     ·subst z; exact .inr (.inr ⟨e7,oT,ts,e8,e9⟩)
     ·exact .inr (.inl z)⟩
   rw [ea] at e1; cases e1
   rw [da] at e2; cases e2
   refine wpAny_looks_onW (base:=PySem.W.hideAll s1.heap (a :: T :: frs X.stack)) (cls:=.ref C) (a0:=a0) hA hf ⟨fun b o e=>PySem.W.of_hideAll _ e,PySem.W.hideAll_none _ (.head _),by rw [← hs]; exact frames_base hI fun b hb=>PySem.W.hideAll_none _ (.tail _ (.tail _ hb)),oa,va,T,oT,ts,ea,⟨ca,v0⟩,da,e3,PySem.W.hideAll_none _ (.tail _ (.head _)),e6,e8,e9,e10⟩ fun h2 hh2 up2=>?_
   exact main _ hid (fun b hb h1 h2=>by
    rcases List.mem_cons.mp hb with z | z
    ·exact absurd z h1
    ·rcases List.mem_cons.mp z with z | z
     ·subst z; exact ⟨e4,e5⟩
     ·exact absurd z h2) h2 hh2 up2
end
end Z
end
section
namespace Z
open PySem PySem.Spec PyProof.Rows L2
noncomputable def dumE (sc:Scope):PySem.Env:={ scope:=sc,locals:=0,globals:=0,cells:=[] }
noncomputable def isPb (b:Bool):Sem Bool→Bool
 | .pure c=>b == c
 | _=>false
noncomputable def isPo (l:Option (List Str)):Sem (Option (List Str))→Bool
 | .pure m=>decide (l=m)
 | _=>false
theorem isPb_ok {b:Bool} {m:Sem Bool} (h:isPb b m=true):m=pure b:=by
 cases m <;> first | cases h | skip
 simp only [isPb,beq_iff_eq] at h
 subst h; rfl
theorem isPo_ok {b:Option (List Str)} {m:Sem (Option (List Str))} (h:isPo b m=true):m=pure b:=by
 cases m <;> first | cases h | skip
 simp only [isPo,decide_eq_true_eq] at h
 subst h; rfl
theorem sw_dum (v:Expr) (t:Option Expr) (l:Nat) (env:PySem.Env):swapsWith v t l env=swapsWith v t l (dumE env.scope):=rfl
theorem sws_dum (t v:Expr) (l:Nat) (env:PySem.Env):swapsWithSole [t] v l env=swapsWithSole [t] v l (dumE env.scope):=rfl
theorem swp_dum (ts:List Expr) (v:Expr) (env:PySem.Env):swappedStores ts v env=swappedStores ts v (dumE env.scope):=rfl
theorem assign_plain {o i:Expr} {spos:Pos} {env:PySem.Env} (h:noSlice i=true) (v:Value):assign (.Subscript o i spos) env v=(do
   let ov ← holding [v] (eval o env)
   let iv ← holding [v,ov] (eval i env)
   standAt spos
   holding [v,ov,iv] (setItem ov iv v)
   release [v,ov,iv] []):=by
 cases i <;> first | rfl | cases h
noncomputable def isLC:Expr→Bool
 | .ListComp _ _ _ _=>true
 | _=>false
noncomputable def vAsg (s:Stmt):Option (List Expr×Expr×Pos):=match s with
 | .Assign ts v p=>some (ts,v,p)
 | _=>none
theorem vAsg_ok {s:Stmt} {z:List Expr×Expr×Pos} (h:vAsg s=some z):s=.Assign z.1 z.2.1 z.2.2:=by
 unfold vAsg at h
 split at h
 ·cases h; rfl
 ·cases h
noncomputable def vAug (s:Stmt):Option (Expr×Operator×Expr×Pos):=match s with
 | .AugAssign t o v p=>some (t,o,v,p)
 | _=>none
theorem vAug_ok {s:Stmt} {z:Expr×Operator×Expr×Pos} (h:vAug s=some z):s=.AugAssign z.1 z.2.1 z.2.2.1 z.2.2.2:=by
 unfold vAug at h
 split at h
 ·cases h; rfl
 ·cases h
noncomputable def vExp (s:Stmt):Option (Expr×Pos):=match s with
 | .Expr v p=>some (v,p)
 | _=>none
theorem vExp_ok {s:Stmt} {z:Expr×Pos} (h:vExp s=some z):s=.Expr z.1 z.2:=by
 unfold vExp at h
 split at h
 ·cases h; rfl
 ·cases h
noncomputable def vRet (s:Stmt):Option (Option Expr):=match s with
 | .Return v _=>some v
 | _=>none
theorem vRet_ok {s:Stmt} {z:Option Expr} (h:vRet s=some z):∃ p,s=.Return z p:=by
 unfold vRet at h
 split at h
 ·cases h; exact ⟨_,rfl⟩
 ·cases h
noncomputable def vIfS (s:Stmt):Option (Expr×List Stmt×List Stmt):=match s with
 | .If c a b _=>some (c,a,b)
 | _=>none
theorem vIfS_ok {s:Stmt} {z:Expr×List Stmt×List Stmt} (h:vIfS s=some z):∃ p,s=.If z.1 z.2.1 z.2.2 p:=by
 unfold vIfS at h
 split at h
 ·cases h; exact ⟨_,rfl⟩
 ·cases h
noncomputable def vFor (s:Stmt):Option (Expr×Expr×List Stmt×List Stmt):=match s with
 | .For t i b oe _=>some (t,i,b,oe)
 | _=>none
theorem vFor_ok {s:Stmt} {z:Expr×Expr×List Stmt×List Stmt} (h:vFor s=some z):∃ p,s=.For z.1 z.2.1 z.2.2.1 z.2.2.2 p:=by
 unfold vFor at h
 split at h
 ·cases h; exact ⟨_,rfl⟩
 ·cases h
noncomputable def vWhl (s:Stmt):Option (Expr×List Stmt×List Stmt):=match s with
 | .While c b oe _=>some (c,b,oe)
 | _=>none
theorem vWhl_ok {s:Stmt} {z:Expr×List Stmt×List Stmt} (h:vWhl s=some z):∃ p,s=.While z.1 z.2.1 z.2.2 p:=by
 unfold vWhl at h
 split at h
 ·cases h; exact ⟨_,rfl⟩
 ·cases h
noncomputable def vRse (s:Stmt):Option (Option Expr×Option Expr):=match s with
 | .Raise v w _=>some (v,w)
 | _=>none
theorem vRse_ok {s:Stmt} {z:Option Expr×Option Expr} (h:vRse s=some z):∃ p,s=.Raise z.1 z.2 p:=by
 unfold vRse at h
 split at h
 ·cases h; exact ⟨_,rfl⟩
 ·cases h
noncomputable def vTry (s:Stmt):Option (List Stmt×List ExceptHandler×List Stmt×List Stmt):=match s with
 | .Try b hs oe fb _=>some (b,hs,oe,fb)
 | _=>none
theorem vTry_ok {s:Stmt} {z:List Stmt×List ExceptHandler×List Stmt×List Stmt} (h:vTry s=some z):∃ p,s=.Try z.1 z.2.1 z.2.2.1 z.2.2.2 p:=by
 unfold vTry at h
 split at h
 ·cases h; exact ⟨_,rfl⟩
 ·cases h
noncomputable def vHnd (h:ExceptHandler):Option (Expr×Str×Stmt×List Stmt):=match h with
 | .ExceptHandler (some e) (some n) (b :: su) _=>some (e,n,b,su)
 | _=>none
theorem vHnd_ok {h:ExceptHandler} {z:Expr×Str×Stmt×List Stmt} (q:vHnd h=some z):∃ p,h=.ExceptHandler (some z.1) (some z.2.1) (z.2.2.1 :: z.2.2.2) p:=by
 unfold vHnd at q
 split at q
 ·cases q; exact ⟨_,rfl⟩
 ·cases q
noncomputable def vEnd (s:Stmt):Nat:=match s with
 | .Pass _=>1
 | .Break _=>2
 | .Continue _=>3
 | _=>0
theorem vEnd_ok {s:Stmt}:(vEnd s=1→∃ p,s=.Pass p)∧(vEnd s=2→∃ p,s=.Break p)∧(vEnd s=3→∃ p,s=.Continue p):=by
 unfold vEnd
 split
 ·exact ⟨fun _=>⟨_,rfl⟩,fun z=>(nomatch z),fun z=>(nomatch z)⟩
 ·exact ⟨fun z=>(nomatch z),fun _=>⟨_,rfl⟩,fun z=>(nomatch z)⟩
 ·exact ⟨fun z=>(nomatch z),fun z=>(nomatch z),fun _=>⟨_,rfl⟩⟩
 ·exact ⟨fun z=>(nomatch z),fun z=>(nomatch z),fun z=>(nomatch z)⟩
noncomputable def thr1 {α:Type} (l:List α):Option (α×α×α):=match l with
 | [x,y,z]=>some (x,y,z)
 | _=>none
theorem thr1_ok {α:Type} {l:List α} {z:α×α×α} (h:thr1 l=some z):l=[z.1,z.2.1,z.2.2]:=by
 unfold thr1 at h
 split at h
 ·cases h; rfl
 ·cases h
section
variable (cm:Bool) (fns:List (Str×Nat×Bool)) (gns:List Str) (sc:Scope) (N:List Str)
noncomputable def asgM (i:Nat) (e:Ex) (v:Expr) (p:Pos) (ts:List Expr):Bool:=(one1 ts).any fun t=>(vNm t).any fun x=>decide (N[i]?=some x) && locB true sc x && mt cm fns gns sc N e v && (isPb false (swapsWith v (some t) p.line (dumE sc)) || (isLC v && isLoc (sc.names.lookup x) && isPb true (swapsWith v (some t) p.line (dumE sc))))
noncomputable def asgtM (is:List Nat) (e:Ex) (v:Expr) (p:Pos) (ts:List Expr):Bool:=(one1 ts).any fun t=>cm && mtT true sc N (.tup is) t && mt cm fns gns sc N e v && isPb false (swapsWithSole [t] v p.line (dumE sc)) && isPo none (swappedStores [t] v (dumE sc))
noncomputable def par2M (es:Exs) (p:Pos) (i j:Nat) (a b x y t v:Expr):Bool:=(vNm x).any fun xn=>(vNm y).any fun yn=>cm && decide (N[i]?=some xn) && decide (N[j]?=some yn) && decide (i≠j) && isLoc (sc.names.lookup xn) && isLoc (sc.names.lookup yn) && mts cm fns gns sc N es [a,b] &&
   isPo (some [xn,yn]) (swappedStores [t] v (dumE sc)) && isPb false (swapsWithSole [t] v p.line (dumE sc))
noncomputable def par3M (es:Exs) (p:Pos) (i j k:Nat) (a b c x y z t v:Expr):Bool:=(vNm x).any fun xn=>(vNm y).any fun yn=>(vNm z).any fun zn=>cm && decide (N[i]?=some xn) && decide (N[j]?=some yn) && decide (N[k]?=some zn) && decide (i≠j) && decide (i≠k) && decide (j≠k) && isLoc (sc.names.lookup xn) && isLoc (sc.names.lookup yn) && isLoc (sc.names.lookup zn) && mts cm fns gns sc N es [a,b,c] &&
   isPo (some [xn,yn,zn]) (swappedStores [t] v (dumE sc)) && isPb false (swapsWithSole [t] v p.line (dumE sc))
noncomputable def parM (es:Exs) (p:Pos) (is:List Nat) (ts:List Expr) (v:Expr):Bool:=(one1 ts).any fun t=>(vTup t).any fun tn=>(vTup v).any fun vs =>
 ((two1 is).any fun i=>(two1 tn).any fun x=>(two1 vs).any fun a=>par2M cm fns gns sc N es p i.1 i.2 a.1 a.2 x.1 x.2 t v) ||
 ((thr1 is).any fun i=>(thr1 tn).any fun x=>(thr1 vs).any fun a=>par3M cm fns gns sc N es p i.1 i.2.1 i.2.2 a.1 a.2.1 a.2.2 x.1 x.2.1 x.2.2 t v)
noncomputable def asetM (o i e:Ex) (v:Expr) (p:Pos) (ts:List Expr):Bool:=(one1 ts).any fun t=>(vSub t).any fun z=>noSlice z.2 && mt cm fns gns sc N o z.1 && mt cm fns gns sc N i z.2 && mt cm fns gns sc N e v && isPb false (swapsWithSole [t] v p.line (dumE sc)) && isPo none (swappedStores [t] v (dumE sc))
noncomputable def augM (i:Nat) (t:Expr):Bool:=(vNm t).any fun x=>decide (N[i]?=some x) && locB true sc x
noncomputable def rseM (c:Nat) (e:Ex) (v w:Option Expr):Bool:=w.isNone && v.any fun r=>(vCal r).any fun z=>(vNm z.1).any fun x=>decide (clsNm c=some x) && glB sc x && okNm x && noStar z.2.1 && z.2.2.1.isEmpty && mt cm fns gns sc N e z.2.1
end
section
variable (fns:List (Str×Nat×Bool)) (gns:List Str) (sc:Scope) (N:List Str)
mutual
noncomputable def mtS (cm:Bool):St→Stmt→Bool
 | .nev,_=>true
 | .asg (.var i) e,st=>(vAsg st).any fun z=>asgM cm fns gns sc N i e z.2.1 z.2.2 z.1
 | .asg (.tup is) e,st=>(vAsg st).any fun z=>asgtM cm fns gns sc N is e z.2.1 z.2.2 z.1
 | .unp is e,st=>(vAsg st).any fun z=>asgtM cm fns gns sc N is e z.2.1 z.2.2 z.1
 | .par is es,st=>(vAsg st).any fun z=>parM cm fns gns sc N es z.2.2 is z.1 z.2.1
 | .aset o i e,st=>(vAsg st).any fun z=>asetM cm fns gns sc N o i e z.2.1 z.2.2 z.1
 | .aug i op e,st=>(vAug st).any fun z=>augM sc N i z.1 && isBo op z.2.1 && mt cm fns gns sc N e z.2.2.1
 | .expr e,st=>(vExp st).any fun z=>isPb false (swapsWith z.1 none z.2.line (dumE sc)) && mt cm fns gns sc N e z.1
 | .ret e,st=>(vRet st).any fun z=>z.any fun v=>mt cm fns gns sc N e v
 | .ite c a b,st=>(vIfS st).any fun z=>mt cm fns gns sc N c z.1 && mtSs cm a z.2.1 && mtSs cm b z.2.2
 | .for t it b,st=>(vFor st).any fun z=>cm && z.2.2.2.isEmpty && noSet z.2.1 && mtT true sc N t z.1 && mtI cm fns gns sc N it z.2.1 && mtSs cm b z.2.2.1 && tgIt t it
 | .whl c b,st=>(vWhl st).any fun z=>z.2.2.isEmpty && mt cm fns gns sc N c z.1 && mtSs cm b z.2.1
 | .rse c e,st=>(vRse st).any fun z=>cm && rseM cm fns gns sc N c e z.1 z.2
 | .try b c i h,st=>(vTry st).any fun z=>(one1 z.2.1).any fun y=>(vHnd y).any fun q=>(vNm q.1).any fun x=>z.2.2.1.isEmpty && z.2.2.2.isEmpty && nasgs b && decide (clsNm c=some x) && glB sc x && okNm x && decide (N[i]?=some q.2.1) && isLoc (sc.names.lookup q.2.1) && mtSs cm b z.1 && mtSs false h (q.2.2.1 :: q.2.2.2)
 | .pass,st=>vEnd st == 1
 | .brk,st=>vEnd st == 2
 | .cnt,st=>vEnd st == 3
noncomputable def mtSs (cm:Bool):Sts→List Stmt→Bool
 | .nil,[]=>true
 | .cons s ss,x :: xs=>mtS cm s x && mtSs cm ss xs
 | _,_=>false
end
end
theorem isLoc_ok {k:Option NameKind} (h:isLoc k=true):k=some .local:=by
 unfold isLoc at h
 split at h
 ·rfl
 ·cases h
section
variable {F:Fn} {G:List D} {cm:Bool} {fns:List (Str×Nat×Bool)} {gns:List Str} {X:Cx}
theorem DS.congr {st:Stmt} {na:Bool} {f g:En→Sto→R Fl} (h:DS X st na f) (q:∀ env S,g env S=f env S):DS X st na g:=by
 have:g=f:=funext fun env=>funext fun S=>q env S
 rw [this]; exact h
theorem DSs.congr {st:List Stmt} {na:Bool} {f g:En→Sto→R Fl} (h:DSs X st na f) (q:∀ env S,g env S=f env S):DSs X st na g:=by
 have:g=f:=funext fun env=>funext fun S=>q env S
 rw [this]; exact h
theorem ds_nev {st:Stmt} {na:Bool}:DS X st na (exe F G .nev):=fun _ _ _ _ _ _ _ _ nb=>absurd (by simp only [exe]) nb
structure TopOk (cm:Bool) (F:Fn) (G:List D) (fns:List (Str×Nat×Bool)) (gns:List Str) (X:Cx) (sc:Scope) (N:List Str):Prop where
 hN:X.N=N
 hs:X.env.scope=sc
 nd:N.Nodup
 fn:∀ x,X.fn x=true
 pf:PF cm F G fns gns X
 stk:X.stack=X.env :: X.outer
 frm:X.env.frame=some X.env.locals
theorem TopOk.inH {sc:Scope} {N:List Str} (T:TopOk cm F G fns gns X sc N) (a:Addr):TopOk false F G fns gns (Z.inH X a) sc N :=
 ⟨T.hN,T.hs,T.nd,T.fn,⟨T.pf.blt,fun f nm ar fl h hf=>by
  obtain ⟨g,fd,ps,k,c1,c2,r⟩:=T.pf.fn f nm ar fl h (fun z=>nomatch (hf z))
  refine ⟨g,fd,ps,k,c1,?_,r⟩
  cases fl with
  | true=>exact nomatch (hf rfl)
  | false=>exact c2.mark,T.pf.glb,T.pf.cal,T.pf.units,T.pf.gd,(fun z=>nomatch z),T.pf.err⟩,T.stk,T.frm⟩
variable {sc:Scope} {N:List Str}
noncomputable def isC:Ex→Bool
 | .nev=>true
 | .cmr _ _ _ _=>true
 | _=>false
theorem lc_no {e:Ex} {v:Expr} (h4:isLC v=true) (hn:isC e=false) (h:mt cm fns gns sc N e v=true):False:=by
 cases v with
 | ListComp ee gens scope cp =>
  cases e with
  | nev=>cases hn
  | cmr _ _ _ _=>cases hn
  | _=>cases h
 | _=>cases h4
theorem snd_asgv {i:Nat} {e:Ex} {ts:List Expr} {v:Expr} {p:Pos} (T:TopOk cm F G fns gns X sc N) (h:asgM cm fns gns sc N i e v p ts=true):DS X (.Assign ts v p) false (exe F G (.asg (.var i) e)):=by
 obtain ⟨t,k1,hq1⟩:=any_some h
 obtain ⟨x,k2,hq2⟩:=any_some hq1
 clear h hq1
 have h:=hq2; clear hq2
 have k3:=one1_ok k1
 obtain ⟨py,k4⟩:=vNm_ok k2
 subst k4 k3
 ·rw [Bool.and_eq_true,Bool.and_eq_true,Bool.and_eq_true,decide_eq_true_eq,Bool.or_eq_true,Bool.and_eq_true,Bool.and_eq_true] at h
  obtain ⟨⟨⟨h1,h2⟩,h3⟩,h4⟩:=h
  obtain ⟨l1,l2⟩:=locB_ok (X:=X) T.hs (fun _=>T.fn) h2
  have ihe:=(snd e X sc N v T.hN T.hs T.pf h3).1
  have hN:=T.hN
  have hs:=T.hs
  subst hN hs
  rcases h4 with h4 | ⟨⟨h4,h5⟩,h6⟩
  ·have hw:=isPb_ok h4
   rw [← sw_dum] at hw
   exact (ds_set T.nd h1 l1 l2 ihe hw).congr fun env S=>by simp only [exe] <;> rfl
  ·have hw:=isPb_ok h6
   rw [← sw_dum] at hw
   cases e with
   | nev=>exact fun _ _ _ _ _ _ _ _ nb=>absurd (by simp only [exe,ev,R.bind_bad]) nb
   | cmr k n gs elt =>
    obtain ⟨ee,gens,scope,cp,rfl,m0,m1,m2,m3,m4,m5⟩:=mt_cmr h3
    subst m1 m2
    have so:=scB_ok m3
    have hcl:=T.pf.calm m0
    obtain ⟨c⟩:=comp_of (p:=cp) rfl rfl T.pf hcl so (sndg gs X _ _ _ _ gens rfl rfl T.pf m4) (fun Y y1 y2 y3=>(snd elt Y _ _ ee y1 y2 y3 m5).1)
    refine (ds_setc (py:=py) (spos:=p) T.nd h1 (isLoc_ok h5) hw hcl so rfl c.hg c.hi c.hs c.hG c.hT c.hB).congr fun env S=>?_
    simp only [exe]
    have:=congrFun (congrFun c.eq env) S
    rw [this]
    all_goals rfl
   | _=>exact (lc_no h4 rfl h3).elim
theorem snd_asgt {is:List Nat} {e:Ex} {ts:List Expr} {v:Expr} {p:Pos} (T:TopOk cm F G fns gns X sc N) (h:asgtM cm fns gns sc N is e v p ts=true):DS X (.Assign ts v p) false (exe F G (.asg (.tup is) e)):=by
 obtain ⟨t,k1,hq1⟩:=any_some h
 clear h
 have h:=hq1; clear hq1
 have k3:=one1_ok k1
 subst k3
 ·rw [Bool.and_eq_true,Bool.and_eq_true,Bool.and_eq_true,Bool.and_eq_true] at h
  obtain ⟨⟨⟨⟨h0,h1⟩,h2⟩,h3⟩,h4⟩:=h
  have h1':=h1
  simp only [mtT] at h1'
  obtain ⟨tes,q1,_⟩:=any_some h1'
  obtain ⟨tkk,tpp,q2⟩:=vTup_ok q1
  subst q2
  have ihe:=(snd e X sc N v T.hN T.hs T.pf h2).1
  have hg:=dgB (top:=true) T.hN T.hs T.nd (fun _=>T.pf.calm h0) (fun _=>T.fn) h1
  have w1:=isPb_ok h3
  have w2:=isPo_ok h4
  rw [← T.hs] at w1 w2
  rw [← sws_dum] at w1
  rw [← swp_dum] at w2
  exact (ds_asg ihe hg w1 w2 rfl).congr fun env S=>by simp only [exe] <;> rfl
theorem snd_unp {is:List Nat} {e:Ex} {ts:List Expr} {v:Expr} {p:Pos} (T:TopOk cm F G fns gns X sc N) (h:asgtM cm fns gns sc N is e v p ts=true):DS X (.Assign ts v p) false (exe F G (.unp is e)):=by
 obtain ⟨t,k1,hq1⟩:=any_some h
 clear h
 have h:=hq1; clear hq1
 have k3:=one1_ok k1
 subst k3
 ·rw [Bool.and_eq_true,Bool.and_eq_true,Bool.and_eq_true,Bool.and_eq_true] at h
  obtain ⟨⟨⟨⟨h0,h1⟩,h2⟩,h3⟩,h4⟩:=h
  have h1':=h1
  simp only [mtT] at h1'
  obtain ⟨tes,q1,_⟩:=any_some h1'
  obtain ⟨tkk,tpp,q2⟩:=vTup_ok q1
  subst q2
  have ihe:=(snd e X sc N v T.hN T.hs T.pf h2).1
  have hg:=dgL (top:=true) T.hN T.hs T.nd (T.pf.calm h0) (fun _=>T.fn) h1
  have w1:=isPb_ok h3
  have w2:=isPo_ok h4
  rw [← T.hs] at w1 w2
  rw [← sws_dum] at w1
  rw [← swp_dum] at w2
  exact (ds_unp ihe hg w1 w2 rfl).congr fun env S=>by simp only [exe] <;> rfl
theorem snd_par {is:List Nat} {es:Exs} {ts:List Expr} {v:Expr} {p:Pos} (T:TopOk cm F G fns gns X sc N) (h:parM cm fns gns sc N es p is ts v=true):DS X (.Assign ts v p) false (exe F G (.par is es)):=by
 obtain ⟨t,k1,hq⟩:=any_some h
 clear h; have h:=hq; clear hq
 obtain ⟨tn,k2,hq⟩:=any_some h
 clear h; have h:=hq; clear hq
 obtain ⟨vs,k3,hq⟩:=any_some h
 clear h; have h:=hq; clear hq
 have e1:=one1_ok k1
 obtain ⟨kt,pt,e2⟩:=vTup_ok k2
 obtain ⟨kv,pv,e3⟩:=vTup_ok k3
 subst e1 e2 e3
 rw [Bool.or_eq_true] at h
 rcases h with h | h
 ·obtain ⟨⟨i,j⟩,k4,hq⟩:=any_some h
  clear h; have h:=hq; clear hq
  obtain ⟨⟨x,y⟩,k5,hq⟩:=any_some h
  clear h; have h:=hq; clear hq
  obtain ⟨⟨a,b⟩,k6,hq⟩:=any_some h
  clear h; have h:=hq; clear hq
  have e4:=two1_ok k4
  have e5:=two1_ok k5
  have e6:=two1_ok k6
  subst e4 e5 e6
  obtain ⟨xn,k7,hq⟩:=any_some h
  clear h; have h:=hq; clear hq
  obtain ⟨yn,k8,hq⟩:=any_some h
  clear h; have h:=hq; clear hq
  obtain ⟨px,e7⟩:=vNm_ok k7
  obtain ⟨py,e8⟩:=vNm_ok k8
  dsimp only at e7 e8
  subst e7 e8
  iterate 8 rw [Bool.and_eq_true] at h
  obtain ⟨⟨⟨⟨⟨⟨⟨⟨h0,h1⟩,h2⟩,h3⟩,h4⟩,h5⟩,h6⟩,h7⟩,h8⟩:=h
  have ihe:=snds es X sc N _ T.hN T.hs T.pf h6
  have hN:=T.hN
  have hs:=T.hs
  subst hN hs
  have w1:=isPb_ok h8
  have w2:=isPo_ok h7
  rw [← sws_dum] at w1
  rw [← swp_dum] at w2
  exact (ds_par2 (T.pf.calm h0) T.nd (of_decide_eq_true h1) (of_decide_eq_true h2) (of_decide_eq_true h3) (isLoc_ok h4) (isLoc_ok h5) ihe w2 w1).congr fun env S=>by simp only [exe]
 ·obtain ⟨⟨i,j,k⟩,k4,hq⟩:=any_some h
  clear h; have h:=hq; clear hq
  obtain ⟨⟨x,y,z⟩,k5,hq⟩:=any_some h
  clear h; have h:=hq; clear hq
  obtain ⟨⟨a,b,c⟩,k6,hq⟩:=any_some h
  clear h; have h:=hq; clear hq
  have e4:=thr1_ok k4
  have e5:=thr1_ok k5
  have e6:=thr1_ok k6
  subst e4 e5 e6
  obtain ⟨xn,k7,hq⟩:=any_some h
  clear h; have h:=hq; clear hq
  obtain ⟨yn,k8,hq⟩:=any_some h
  clear h; have h:=hq; clear hq
  obtain ⟨zn,k9,hq⟩:=any_some h
  clear h; have h:=hq; clear hq
  obtain ⟨px,e7⟩:=vNm_ok k7
  obtain ⟨py,e8⟩:=vNm_ok k8
  obtain ⟨pz,e9⟩:=vNm_ok k9
  dsimp only at e7 e8 e9
  subst e7 e8 e9
  iterate 12 rw [Bool.and_eq_true] at h
  obtain ⟨⟨⟨⟨⟨⟨⟨⟨⟨⟨⟨⟨h0,h1⟩,h2⟩,h3⟩,h4⟩,h5⟩,h6⟩,h7⟩,h8⟩,h9⟩,h10⟩,h11⟩,h12⟩:=h
  have ihe:=snds es X sc N _ T.hN T.hs T.pf h10
  have hN:=T.hN
  have hs:=T.hs
  subst hN hs
  have w1:=isPb_ok h12
  have w2:=isPo_ok h11
  rw [← sws_dum] at w1
  rw [← swp_dum] at w2
  exact (ds_par3 (T.pf.calm h0) T.nd (of_decide_eq_true h1) (of_decide_eq_true h2) (of_decide_eq_true h3) (of_decide_eq_true h4) (of_decide_eq_true h5) (of_decide_eq_true h6) (isLoc_ok h7) (isLoc_ok h8) (isLoc_ok h9) ihe w2 w1).congr fun env S=>by simp only [exe]
theorem snd_aset {o i e:Ex} {ts:List Expr} {v:Expr} {p:Pos} (T:TopOk cm F G fns gns X sc N) (h:asetM cm fns gns sc N o i e v p ts=true):DS X (.Assign ts v p) false (exe F G (.aset o i e)):=by
 obtain ⟨t,k1,hq1⟩:=any_some h
 obtain ⟨⟨ox,ix⟩,k2,hq2⟩:=any_some hq1
 clear h hq1
 have h:=hq2; clear hq2
 have k3:=one1_ok k1
 obtain ⟨sp,k4⟩:=vSub_ok k2
 dsimp only at k4
 subst k4 k3
 ·iterate 5 rw [Bool.and_eq_true] at h
  obtain ⟨⟨⟨⟨⟨h1,h2⟩,h3⟩,h4⟩,h5⟩,h6⟩:=h
  have w1:=isPb_ok h5
  have w2:=isPo_ok h6
  rw [← T.hs] at w1 w2
  rw [← sws_dum] at w1
  rw [← swp_dum] at w2
  exact ((ds_aset (snd e X sc N v T.hN T.hs T.pf h4).1 (snd o X sc N _ T.hN T.hs T.pf h2).1 (snd i X sc N _ T.hN T.hs T.pf h3).1 w1 w2 (assign_plain h1)).weak (na2:=false) fun z=>nomatch z).congr fun env S=>by simp only [exe]
theorem snd_aug {i:Nat} {op:Bo} {e:Ex} {t:Expr} {o:Operator} {v:Expr} {p:Pos} (T:TopOk cm F G fns gns X sc N) (h:(augM sc N i t && isBo op o && mt cm fns gns sc N e v)=true):DS X (.AugAssign t o v p) false (exe F G (.aug i op e)):=by
 simp only [Bool.and_eq_true] at h
 obtain ⟨⟨h1,h2⟩,h3⟩:=h
 obtain ⟨x,k1,hq⟩:=any_some h1
 clear h1
 have h1:=hq; clear hq
 obtain ⟨px,k2⟩:=vNm_ok k1
 subst k2
 have e1:=isBo_ok h2
 subst e1
 ·rw [Bool.and_eq_true,decide_eq_true_eq] at h1
  obtain ⟨l1,l2⟩:=locB_ok (X:=X) T.hs (fun _=>T.fn) h1.2
  have ihe:=(snd e X sc N v T.hN T.hs T.pf h3).1
  have hN:=T.hN
  have hs:=T.hs
  subst hN hs
  exact (ds_aug T.nd h1.1 l1 l2 ihe).congr fun env S=>by simp only [exe] <;> rfl
theorem snd_ret {e:Ex} {v:Option Expr} {p:Pos} (T:TopOk cm F G fns gns X sc N) (h:(v.any fun v=>mt cm fns gns sc N e v)=true):DS X (.Return v p) true (exe F G (.ret e)):=by
 obtain ⟨v,rfl,h⟩:=any_some h
 exact (ds_ret (snd e X sc N v T.hN T.hs T.pf h).1).congr fun env S=>by simp only [exe]
theorem snd_rse {c:Nat} {e:Ex} {v w:Option Expr} {p:Pos} (T:TopOk cm F G fns gns X sc N) (h0:cm=true) (h:rseM cm fns gns sc N c e v w=true):DS X (.Raise v w p) true (exe F G (.rse c e)):=by
 unfold rseM at h
 rw [Bool.and_eq_true] at h
 obtain ⟨hw,h⟩:=h
 cases w with
 | some _=>cases hw
 | none =>
  obtain ⟨r,er,hq⟩:=any_some h
  obtain ⟨x,px,y,ys,cp,er2,hq2⟩:=cal_nm hq
  clear h hq
  have h:=hq2; clear hq2
  subst er2 er
  iterate 5 rw [Bool.and_eq_true] at h
  obtain ⟨⟨⟨⟨⟨h1,h2⟩,h3⟩,h4⟩,h6⟩,h5⟩:=h
  have h1:=of_decide_eq_true h1
  have e6:=List.isEmpty_iff.mp h6
  dsimp only at e6
  subst e6
  obtain ⟨C,k1,k2⟩:=T.pf.err.at_ c x h1
  exact (ds_rse (T.pf.calm h0) h1 k2 (T.pf.err.cls c C k1).1 (glB_ok T.hs h2) (okNm_ok h3).1 (snd e X sc N y T.hN T.hs T.pf h5).1 h4).congr fun env S=>by simp only [exe]
mutual
theorem sndS {cm:Bool} {X:Cx}:∀ (x:St) (st:Stmt),TopOk cm F G fns gns X sc N→mtS fns gns sc N cm x st=true→DS X st (nasg x) (exe F G x)
 | .nev,st,T,h=>ds_nev
 | .asg (.var i) e,st,T,h=>by
  simp only [mtS] at h
  obtain ⟨z,h1,hq⟩:=any_some h
  clear h; have h:=hq; clear hq
  rw [vAsg_ok h1]
  exact snd_asgv T h
 | .asg (.tup is) e,st,T,h=>by
  simp only [mtS] at h
  obtain ⟨z,h1,hq⟩:=any_some h
  clear h; have h:=hq; clear hq
  rw [vAsg_ok h1]
  exact snd_asgt T h
 | .unp is e,st,T,h=>by
  simp only [mtS] at h
  obtain ⟨z,h1,hq⟩:=any_some h
  clear h; have h:=hq; clear hq
  rw [vAsg_ok h1]
  exact snd_unp T h
 | .par is es,st,T,h=>by
  simp only [mtS] at h
  obtain ⟨z,h1,hq⟩:=any_some h
  clear h; have h:=hq; clear hq
  rw [vAsg_ok h1]
  exact snd_par T h
 | .aset o i e,st,T,h=>by
  simp only [mtS] at h
  obtain ⟨z,h1,hq⟩:=any_some h
  clear h; have h:=hq; clear hq
  rw [vAsg_ok h1]
  exact snd_aset T h
 | .aug i op e,st,T,h=>by
  simp only [mtS] at h
  obtain ⟨z,h1,hq⟩:=any_some h
  clear h; have h:=hq; clear hq
  rw [vAug_ok h1]
  exact snd_aug T h
 | .expr e,st,T,h=>by
  simp only [mtS] at h
  obtain ⟨z,h1,hq⟩:=any_some h
  clear h; have h:=hq; clear hq
  rw [vExp_ok h1]
  rw [Bool.and_eq_true] at h
  have w1:=isPb_ok h.1
  rw [← T.hs,← sw_dum] at w1
  exact (ds_expr (snd e X sc N z.1 T.hN T.hs T.pf h.2).1 w1).congr fun env S=>by simp only [exe]
 | .ret e,st,T,h=>by
  simp only [mtS] at h
  obtain ⟨z,h1,hq⟩:=any_some h
  clear h; have h:=hq; clear hq
  obtain ⟨p,rfl⟩:=vRet_ok h1
  exact snd_ret T h
 | .ite c a b,st,T,h=>by
  simp only [mtS] at h
  obtain ⟨z,h1,hq⟩:=any_some h
  clear h; have h:=hq; clear hq
  obtain ⟨p,rfl⟩:=vIfS_ok h1
  rw [Bool.and_eq_true,Bool.and_eq_true] at h
  exact (ds_if (snd c X sc N z.1 T.hN T.hs T.pf h.1.1).2 (sndSs a z.2.1 T h.1.2) (sndSs b z.2.2 T h.2)).congr fun env S=>by simp only [exe] <;> rfl
 | .for t it b,st,T,h=>by
  simp only [mtS] at h
  obtain ⟨⟨tg,iter,body,oe⟩,h1,hq⟩:=any_some h
  clear h; have h:=hq; clear hq
  obtain ⟨p,rfl⟩:=vFor_ok h1
  iterate 6 rw [Bool.and_eq_true] at h
  obtain ⟨⟨⟨⟨⟨⟨h0,h1⟩,h2⟩,h3⟩,h4⟩,h5⟩,h6⟩:=h
  have e1:=List.isEmpty_iff.mp h1
  dsimp only at e1
  subst e1
  have hg:=dgB (top:=true) T.hN T.hs T.nd (fun _=>T.pf.calm h0) (fun _=>T.fn) h3
  exact (ds_for (T.pf.calm h0) (sndi it X sc N tg iter T.hN T.hs T.pf (tg_tup h6 h3) h4) hg (sndSs b body T h5) (noSet_ok h2)).congr fun env S=>by simp only [exe]
 | .whl c b,st,T,h=>by
  simp only [mtS] at h
  obtain ⟨⟨cx,body,oe⟩,h1,hq⟩:=any_some h
  clear h; have h:=hq; clear hq
  obtain ⟨p,rfl⟩:=vWhl_ok h1
  rw [Bool.and_eq_true,Bool.and_eq_true] at h
  obtain ⟨⟨h1,h2⟩,h3⟩:=h
  have e1:=List.isEmpty_iff.mp h1
  dsimp only at e1
  subst e1
  exact (ds_whl (snd c X sc N cx T.hN T.hs T.pf h2).2 (sndSs b body T h3)).congr fun env S=>by simp only [exe] <;> rfl
 | .rse c e,st,T,h=>by
  simp only [mtS] at h
  obtain ⟨z,h1,hq⟩:=any_some h
  clear h; have h:=hq; clear hq
  obtain ⟨p,rfl⟩:=vRse_ok h1
  rw [Bool.and_eq_true] at h
  exact snd_rse T h.1 h.2
 | .try b c i hd,st,T,h=>by
  simp only [mtS] at h
  obtain ⟨⟨body,hs,oe,fb⟩,k1,hq⟩:=any_some h
  clear h; have h:=hq; clear hq
  obtain ⟨y,k2,hq⟩:=any_some h
  clear h; have h:=hq; clear hq
  obtain ⟨⟨te,n,b0,su⟩,k3,hq⟩:=any_some h
  clear h; have h:=hq; clear hq
  obtain ⟨x,k4,hq⟩:=any_some h
  clear h; have h:=hq; clear hq
  obtain ⟨p,e1⟩:=vTry_ok k1
  have e2:=one1_ok k2
  obtain ⟨hp,e3⟩:=vHnd_ok k3
  obtain ⟨np,e4⟩:=vNm_ok k4
  dsimp only at e1 e2 e3 e4
  subst e4 e3 e2 e1
  iterate 9 rw [Bool.and_eq_true] at h
  obtain ⟨⟨⟨⟨⟨⟨⟨⟨⟨h1,h2⟩,h3⟩,h4⟩,h5⟩,h6⟩,h7⟩,h8⟩,h9⟩,h10⟩:=h
  have e1:=List.isEmpty_iff.mp h1
  have e2:=List.isEmpty_iff.mp h2
  have h4:=of_decide_eq_true h4
  have h7:=of_decide_eq_true h7
  dsimp only at e1 e2 h7
  subst e1 e2
  have ib:=sndSs b body T h9
  rw [h3] at ib
  have ih:∀ a,DSs (Z.inH X a) (b0 :: su) (nasgs hd) (exes F G hd):=fun a=>sndSs hd (b0 :: su) (T.inH a) h10
  obtain ⟨C0,k1,k2⟩:=T.pf.err.at_ c x h4
  have hN:=T.hN
  have hs:=T.hs
  subst hN hs
  refine (ds_try (c:=c) T.stk T.frm T.nd h7 (isLoc_ok h8) k2 (glB_ok rfl h5) (okNm_ok h6).1 (fun c' C e1 e2=>(T.pf.err.sub c' C c C0 e1 k1).2 e2) ib ih).congr fun env S=>?_
  simp only [exe,h3,if_true,tryR]
  all_goals rfl
 | .pass,st,T,h=>by
  simp only [mtS,beq_iff_eq] at h
  obtain ⟨p,rfl⟩:=vEnd_ok.1 h
  exact ds_pass.congr fun env S=>by simp only [exe]
 | .brk,st,T,h=>by
  simp only [mtS,beq_iff_eq] at h
  obtain ⟨p,rfl⟩:=vEnd_ok.2.1 h
  exact ds_brk.congr fun env S=>by simp only [exe]
 | .cnt,st,T,h=>by
  simp only [mtS,beq_iff_eq] at h
  obtain ⟨p,rfl⟩:=vEnd_ok.2.2 h
  exact ds_cnt.congr fun env S=>by simp only [exe]
theorem sndSs {cm:Bool} {X:Cx}:∀ (x:Sts) (st:List Stmt),TopOk cm F G fns gns X sc N→mtSs fns gns sc N cm x st=true→DSs X st (nasgs x) (exes F G x)
 | .nil,[],T,h=>dss_nil.congr fun env S=>by simp only [exes]
 | .cons s ss,x :: xs,T,h=>by
  have h':(mtS fns gns sc N cm s x && mtSs fns gns sc N cm ss xs)=true:=h
  rw [Bool.and_eq_true] at h'
  exact (dss_cons (sndS s x T h'.1) (sndSs ss xs T h'.2)).congr fun env S=>by simp only [exes] <;> rfl
 | .nil,_ :: _,T,h=>by cases h
 | .cons _ _,[],T,h=>by cases h
end
end
end Z
end
section
namespace Z
open PySem PySem.Spec PyProof.Rows L2
noncomputable def fnScB (N ps:List Str) (sc:Scope):Bool:=isFn sc.kind && !sc.isCoroutine && !sc.isGenerator && nodupB N && decide (N.take ps.length=ps) && ps.all (fun x=>match sc.names.lookup x with | some .local=>true | some .cell=>true | _=>false) && sc.names.all (fun y=>match y.2 with | .free=>false | _=>true)
theorem fnScB_ok {N ps:List Str} {sc:Scope} (h:fnScB N ps sc=true):FnScope N ps sc:=by
 simp only [fnScB,Bool.and_eq_true,Bool.not_eq_true',decide_eq_true_eq] at h
 obtain ⟨⟨⟨⟨⟨⟨h1,h2⟩,h3⟩,h4⟩,h5⟩,h6⟩,h7⟩:=h
 refine ⟨isFn_ok h1,h2,h3,nodupB_ok h4,h5,fun x hx=>?_,fun y hy e=>?_⟩
 ·have:=List.all_eq_true.mp h6 x hx
  split at this
  ·exact .inl (by assumption)
  ·exact .inr (by assumption)
  ·cases this
 ·have:=List.all_eq_true.mp h7 y hy
  rw [e] at this
  cases this
structure DefOk (K:PySem.W.Frag) (mg:Str→Option Value) (fns:List (Str×Nat×Bool)) (gns:List Str) (d:Df) (nm:Str) (ar:Nat) (fl:Bool):Prop where
 ex:∃ g fd st qual N ps,Fun K nm qual st g fd∧mg nm=some (.ref g)∧fnScB N ps (defScope st)=true∧mtSs fns gns (defScope st) N fl d.body (defBody st)=true∧d.np=ps.length∧d.nl=N.length∧ps.length=ar∧Binds K fd ps []
section
variable {P:Program} {w:World} {K:PySem.W.Frag} {mg:Str→Option Value} {base:Heap} {T:List Df} {G:List D} {fns:List (Str×Nat×Bool)} {gns:List Str}
theorem def_step (hcl:∀ (f:Nat) (nm:Str),fnIn f nm G=true→∃ ar fl,fns[f]?=some (nm,ar,fl)∧(∀ a,PySem.W.nsIn K mainGlobals nm=some (some (.ref a))→mg nm=some (.ref a))∧∀ k xs S,FT T G k f xs S≠.bad→xs.length=ar) (er:ErrOk K) (hb:∀ x∈blts,mg x=none) (hg:∀ (k:Nat) nm,gns[k]?=some nm→∃ u d,mg nm=some u∧G[k]?=some d∧∀ ρ H,∃ v,RelV v u∧RD K ρ H d v) {k:Nat}
  (ih:∀ (f:Nat) nm ar fl,fns[f]?=some (nm,ar,fl)→∃ g fd ps,FnD fl P w K mg base k g fd ps (FT T G k f)∧Binds K fd ps []∧mg nm=some (.ref g)∧PySem.W.keepIn K (.ref g)=true∧ps.length=ar)
  {f:Nat} {nm qual:Str} {fl:Bool} {d:Df} {g:Addr} {fd:FuncData} {st:Stmt} {N ps:List Str} (hT:T[f]?=some d) (F:Fun K nm qual st g fd) (hS:fnScB N ps (defScope st)=true) (hM:mtSs fns gns (defScope st) N fl d.body (defBody st)=true) (hp:d.np=ps.length) (hn:d.nl=N.length) :
  FnD fl P w K mg base (k + 1) g fd ps (FT T G (k + 1) f):=by
 obtain ⟨oc,od,kV,doc,pm,an,cdv,ct,osl,rfl,lk,hcd⟩:=F.ex
 have hS':=fnScB_ok hS
 have key:=fn_ofD (cm:=fl) (P:=P) (w:=w) (mg:=mg) (base:=base) (k:=k) (G:=exes (FT T G k) G d.body) (na:=nasgs d.body) lk hcd hS' fun A outer s H E hr=>by
  refine sndSs (fns:=fns) (gns:=gns) (sc:=defScope st) (N:=N) d.body (defBody st) ⟨rfl,rfl,hS'.nd,fun _=>rfl,⟨hb,fun f nm ar fl' h hfl=>?_,hg,fun f nm h=>let ⟨ar,fl,h1,h2,h3⟩:=hcl f nm h; ⟨ar,fl,h1,h2,h3 k⟩,?_,hr.gd,id,er⟩,rfl,rfl⟩ hM
  ·obtain ⟨g,fd,ps,h1,h2,h3,h4,h5⟩:=ih f nm ar fl' h
   exact ⟨g,fd,ps,k,h1,hr.less hfl,h2,h3,h4,h5⟩
  ·have:=hr.un
   show (A.deeper _).units + 200 < cLine
   omega
 have e:FT T G (k + 1) f=(fun ds S=>if ds.length=ps.length then
  match exes (FT T G k) G d.body (ds.map some++List.replicate (N.length - ps.length) none) S with
  | .ok (.rt v) S=>.ok v S
  | .ok (.nx _) S=>.ok .non S
  | .ok _ _=>.bad
  | .ex n S=>.ex n S
  | .bad=>.bad else .bad):=by
  funext ds S
  simp only [FT,hT,den,hp,hn]
  all_goals rfl
 rw [e]
 exact key
theorem table (hcl:∀ (f:Nat) (nm:Str),fnIn f nm G=true→∃ ar fl,fns[f]?=some (nm,ar,fl)∧(∀ a,PySem.W.nsIn K mainGlobals nm=some (some (.ref a))→mg nm=some (.ref a))∧∀ k xs S,FT T G k f xs S≠.bad→xs.length=ar) (er:ErrOk K) (hb:∀ x∈blts,mg x=none) (hg:∀ (k:Nat) nm,gns[k]?=some nm→∃ u d,mg nm=some u∧G[k]?=some d∧∀ ρ H,∃ v,RelV v u∧RD K ρ H d v)
  (hd:∀ (f:Nat) nm ar fl,fns[f]?=some (nm,ar,fl)→∃ d,T[f]?=some d∧DefOk K mg fns gns d nm ar fl) :
  ∀ (k f:Nat) nm ar fl,fns[f]?=some (nm,ar,fl)→∃ g fd ps,FnD fl P w K mg base k g fd ps (FT T G k f)∧Binds K fd ps []∧mg nm=some (.ref g)∧PySem.W.keepIn K (.ref g)=true∧ps.length=ar:=by
 intro k
 induction k with
 | zero =>
  intro f nm ar fl h
  obtain ⟨d,_,⟨g,fd,st,qual,N,ps,F,hm,_,_,_,_,hl,hB⟩⟩:=hd f nm ar fl h
  refine ⟨g,fd,ps,⟨fun A outer s H args us vs Q E _ _ _ _ hsp=>?_⟩,hB,hm,F.kp,hl⟩
  obtain ⟨ds,ρ,S',_,_,_,nb,_⟩:=hsp
  exact absurd rfl nb
 | succ k ih =>
  intro f nm ar fl h
  obtain ⟨d,hT,⟨g,fd,st,qual,N,ps,F,hm,hS,hM,hp,hn,hl,hB⟩⟩:=hd f nm ar fl h
  exact ⟨g,fd,ps,def_step hcl er hb hg ih hT F hS hM hp hn,hB,hm,F.kp,hl⟩
end
structure FunAt (K:PySem.W.Frag) (nm:Str) (st:Stmt):Prop where
 ex:∃ g fd,Fun K nm nm st g fd∧PySem.W.nsIn K mainGlobals nm=some (some (.ref g))
theorem funAt_mk {K:PySem.W.Frag} {nm:Str} {st:Stmt} {f:Addr} {oc:Value} {od an:Option Addr} {osl:Array (Option Value)} {kV doc pm cdv ct:Value} (a:PySem.W.nsIn K mainGlobals nm=some (some (.ref f)))
  (l:K.lookup f=some ⟨oc,od,.func (PySem.W.fnOf nm nm (defArgs st) (defBody st) (defScope st) .none kV doc pm an cdv ct),osl⟩) (c:PySem.W.codeIn K cdv nm=true) (k:PySem.W.keepIn K (.ref f)=true):FunAt K nm st:=⟨⟨f,_,fun_mk l c k,a⟩⟩
noncomputable def BindB (nm:Str) (st:Stmt) (ps:List Str):Prop:=∀ (kV doc pm:Value) (an:Option Addr) (cdv ct:Value) (us:List Value),us.length=ps.length→bindArgs (PySem.W.fnOf nm nm (defArgs st) (defBody st) (defScope st) .none kV doc pm an cdv ct) ⟨us,[]⟩=pure (ps.zip us)
theorem defOk_mk {K:PySem.W.Frag} {h:Heap} {mg:Str→Option Value} {fns:List (Str×Nat×Bool)} {gns:List Str} {d:Df} {nm:Str} {ar:Nat} {fl:Bool} {st:Stmt} {N ps:List Str} (X:K.In h) (Gm:h.Ns mainGlobals mg) (F:FunAt K nm st)
  (hS:fnScB N ps (defScope st)=true) (hM:mtSs fns gns (defScope st) N fl d.body (defBody st)=true) (hp:d.np=ps.length) (hn:d.nl=N.length) (hl:ps.length=ar) (hB:BindB nm st ps):DefOk K mg fns gns d nm ar fl:=by
 obtain ⟨g,fd,h1,h2⟩:=F.ex
 exact ⟨g,fd,st,nm,N,ps,h1,PySem.W.mg_of X Gm h2,hS,hM,hp,hn,hl,h1.binds hB⟩
noncomputable def bltB (K:PySem.W.Frag):Bool:=blts.all fun x=>match PySem.W.nsIn K mainGlobals x with
 | some none=>true
 | _=>false
theorem bltB_ok {K:PySem.W.Frag} {h:Heap} {mg:Str→Option Value} (X:K.In h) (Gm:h.Ns mainGlobals mg) (e:bltB K=true):∀ x∈blts,mg x=none:=fun x hx=>by
 have:=List.all_eq_true.mp e x hx
 split at this
 ·rename_i q; exact PySem.W.mg_none_of X Gm q
 ·cases this
theorem glb_int {K:PySem.W.Frag} {h:Heap} {mg:Str→Option Value} {nm:Str} {i:Int} {t:Tok} (X:K.In h) (Gm:h.Ns mainGlobals mg) (e:PySem.W.nsIn K mainGlobals nm=some (some (.int i t))):∃ u d,mg nm=some u∧some (D.int i)=some d∧∀ ρ H,∃ v,RelV v u∧RD K ρ H d v :=
 ⟨_,_,PySem.W.mg_of X Gm e,rfl,fun _ _=>⟨.int i,⟨t,rfl⟩,by simp only [RD]⟩⟩
theorem glb_fn {K:PySem.W.Frag} {h:Heap} {mg:Str→Option Value} {nm:Str} {st:Stmt} {f:Nat} (X:K.In h) (Gm:h.Ns mainGlobals mg) (F:FunAt K nm st):∃ u d,mg nm=some u∧some (D.fn f nm)=some d∧∀ ρ H,∃ v,RelV v u∧RD K ρ H d v:=by
 obtain ⟨g,fd,_,h2⟩:=F.ex
 exact ⟨_,_,PySem.W.mg_of X Gm h2,rfl,fun _ _=>⟨.ref g,rfl,by simp only [RD]; exact ⟨g,rfl,h2⟩⟩⟩
noncomputable def calB (fns:List (Str×Nat×Bool)):List D→Bool
 | []=>true
 | .fn f nm :: r=>(match fns[f]? with | some (m,_,_)=>decide (m=nm) | none=>false) && calB fns r
 | _ :: r=>calB fns r
theorem calB_ok {fns:List (Str×Nat×Bool)} {f:Nat} {nm:Str}:∀ {G:List D},calB fns G=true→fnIn f nm G=true→∃ ar fl,fns[f]?=some (nm,ar,fl)
 | [],_,h=>by cases h
 | d :: r,hc,h=>by
  cases d with
  | fn g m =>
   simp only [calB,Bool.and_eq_true] at hc
   simp only [fnIn,Bool.or_eq_true,Bool.and_eq_true,beq_iff_eq,decide_eq_true_eq] at h
   rcases h with ⟨rfl,rfl⟩ | h
   ·have h1:=hc.1
    split at h1
    ·rename_i m' ar fl e
     have:=of_decide_eq_true h1
     subst this
     exact ⟨ar,fl,e⟩
    ·cases h1
   ·exact calB_ok hc.2 h
  | _=>exact calB_ok (by simpa only [calB] using hc) (by simpa only [fnIn] using h)
theorem ft_len {T:List Df} {G:List D} {f:Nat} {d:Df} (hT:T[f]?=some d):∀ (k:Nat) (xs:List D) (S:Sto),FT T G k f xs S≠.bad→xs.length=d.np
 | 0,xs,S,h=>absurd rfl h
 | k + 1,xs,S,h=>by
  simp only [FT,hT,den] at h
  split at h
  ·assumption
  ·exact absurd rfl h
theorem law_fn {P:Program} {w:World} {K:PySem.W.Frag} {h:Heap} {mg:Str→Option Value} {T:List Df} {G:List D} {fns:List (Str×Nat×Bool)} {gns:List Str} {fa:Addr} {k f:Nat} {d:Df} {st:Stmt} {N:List Str} {x:Str} (X:K.In h) (Gm:h.Ns mainGlobals mg) (hfa:mg "law" = some (.ref fa))
  (er:ErrOk K) (hb:∀ x∈blts,mg x=none) (hg:∀ (k:Nat) nm,gns[k]?=some nm→∃ u d,mg nm=some u∧G[k]?=some d∧∀ ρ H,∃ v,RelV v u∧RD K ρ H d v)
  (hd:∀ (f:Nat) nm ar fl,fns[f]?=some (nm,ar,fl)→∃ d,T[f]?=some d∧DefOk K mg fns gns d nm ar fl)
  (hT:T[f]?=some d) (F:FunAt K "law" st) (hS:fnScB N [x] (defScope st)=true) (hM:mtSs fns gns (defScope st) N true d.body (defBody st)=true) (hp:d.np=1) (hn:d.nl=N.length) (hB:BindB "law" st [x]) (hcb:calB fns G=true:=by rfl) :
  ∃ fd:FuncData,(∀ (s:Shared) (u:Value),BindsTo s fd ⟨[u],[]⟩ [(x,u)])∧∀ base:Heap,K.In base→base.Ns mainGlobals mg→FnOk P w K mg base (CXd P w) (k + 1) fa fd [x] (spD K 1 (FT T G (k + 1) f)):=by
 obtain ⟨g,fd,h1,h2⟩:=F.ex
 have e:=hfa.symm.trans (PySem.W.mg_of X Gm h2)
 cases e
 refine ⟨fd,fun s u=>?_,fun base _ _=>?_⟩
 ·obtain ⟨oc,od,kV,doc,pm,an,cdv,ct,osl,rfl,_⟩:=h1.ex
  exact .of_eq (hB kV doc pm an cdv ct [u] rfl)
 ·have hcl:∀ (f:Nat) (nm:Str),fnIn f nm G=true→∃ ar fl,fns[f]?=some (nm,ar,fl)∧(∀ a,PySem.W.nsIn K mainGlobals nm=some (some (.ref a))→mg nm=some (.ref a))∧∀ k xs S,FT T G k f xs S≠.bad→xs.length=ar:=fun f nm h=>by
   obtain ⟨ar,fl,q⟩:=calB_ok hcb h
   obtain ⟨d',hT',⟨_,_,_,_,_,ps',_,_,_,_,e1,_,e2,_⟩⟩:=hd f nm ar fl q
   exact ⟨ar,fl,q,fun a z=>PySem.W.mg_of X Gm z,fun k xs S z=>by rw [ft_len hT' k xs S z,e1,e2]⟩
  have:=def_step (P:=P) (w:=w) (base:=base) hcl er hb hg (fun f nm ar fl q=>table hcl er hb hg hd k f nm ar fl q) hT h1 hS hM hp hn
  exact ⟨fun vs H Q E z=>let ⟨_,_,_,q,_⟩:=z; q,fun A outer s H args us vs Q E hr=>this.run A outer s H args us vs Q E (.of hr)⟩
theorem law_sp {K:PySem.W.Frag} {F:List D→Sto→R D} {H:Hp} {a:Addr} {ns:List Int} (hO:Only H) (hS:SqL K H a (ns.map V.int)) (hF:∃ S',F [.fro (ns.map D.int)] []=.ok (.bl true) S') :
  spD K 1 F [.ref a] H (fun v _=>v=.bl true) fun _ _ _=>False:=by
 obtain ⟨S',e⟩:=hF
 have hfr:FrL K H a (ns.map V.int):=by
  rcases hS with (h | ⟨o,h⟩) | h
  ·rcases hO a with z | ⟨o,xs,z⟩
   ·rw [h] at z; cases z
   ·rw [h] at z; cases z
  ·exact .inl ⟨o,h⟩
  ·exact .inr h
 refine ⟨[.fro (ns.map D.int)],[],[],rfl,.cons ?_ .nil,⟨rfl,List.nodup_nil,fun n a o q=>by simp at q⟩,(by rw [e]; exact fun z=>nomatch z),fun d S2 v H' ρ' q rd _ _=>?_,fun n c S2 a H' ρ' q=>?_⟩
 ·simp only [RD]
  exact ⟨a,_,rfl,hfr,RDs.ints ns⟩
 ·rw [e] at q; cases q
  simpa only [RD] using rd
 ·rw [e] at q; cases q
theorem law_cx {P:Program} {w:World} (H:Hp) (s:Shared) (e:Value) (s':Shared) (z:CXd P w [] H s (fun _ _ _=>False) e s'):False:=by
 obtain ⟨_,_,_,_,_,_,q⟩:=z
 exact q
theorem walk_z {l:PySem.W.OpenLaw} {q:Program} {loose:List Str} {XP:(Str→Option Value)→Heap→Prop} {YP:World→Heap→Prop} {d:DefRec} {K:Params→PySem.W.Frag} {T:List Df} {G:List D} {k f:Nat} {x:Str} (hn:l.most=some 63) (hdf:d.params.defaults=[]) (hr:Room k callerA)
  (hY:∀ (w:World) (h:Heap),YP w h→(K w.params).In h)
  (F:∀ (w:World) (mg:Str→Option Value) (fa:Addr) (h:Heap),(K w.params).In h→h.Ns mainGlobals mg→mg d.name=some (.ref fa) →
   ∃ fd:FuncData,(∀ (s:Shared) (u:Value),BindsTo s fd ⟨[u],[]⟩ [(x,u)])∧∀ base:Heap,(K w.params).In base→base.Ns mainGlobals mg→FnOk l.prog w (K w.params) mg base (CXd l.prog w) k fa fd [x] (spD (K w.params) 1 (FT T G k f)))
  (hL:∀ ns:List Int,ns.length≤63→∃ S',FT T G k f [.fro (ns.map D.int)] []=.ok (.bl true) S') :
  PySem.W.WalkO q loose XP YP l.row.toRowW d [] (fun f vs=>PySem.call f vs) :=
 L2.walk_of (n:=63) (k:=k) (x:=x) (CX:=fun w=>CXd l.prog w) (sp:=fun w=>spD (K w.params) 1 (FT T G k f)) hn (by decide) hdf hr hY F (fun _ _ _ ns hl hO hS=>law_sp hO hS (hL ns hl)) fun _ H s e s' z=>law_cx H s e s' z
end Z
end
section
namespace Z
open PySem
section
variable {F:Fn} {G:List D} {s:St} {ss:Sts} {env e:En} {S S1:Sto}
theorem exes_nx (h:exe F G s env S=.ok (.nx e) S1):exes F G (.cons s ss) env S=exes F G ss e S1:=by simp only [exes,h]
theorem exes_rt {d:D} (h:exe F G s env S=.ok (.rt d) S1):exes F G (.cons s ss) env S=.ok (.rt d) S1:=by simp only [exes,h]
theorem floop_inv {get:Sto→Nat→Option (Option D)} {t:Tg} {body:En→Sto→R Fl} (xs:List D) (P:Nat→En→Sto→Prop) (hget:∀ i e S,P i e S→get S i=some xs[i]?)
  (step:∀ i d e S,xs[i]?=some d→P i e S→∃ e1 e2 S2,setTg t d e=some e1∧body e1 S=.ok (.nx e2) S2∧P (i + 1) e2 S2) :
  ∀ (fuel i:Nat) (e:En) (S:Sto),P i e S→i≤xs.length→xs.length < fuel + i→∃ e' S',floop get t body fuel i e S=.ok (.nx e') S'∧P xs.length e' S'
 | 0,i,e,S,h,h1,h2=>by omega
 | fuel + 1,i,e,S,h,h1,h2=>by
  cases q:xs[i]? with
  | none =>
   have hi:i=xs.length:=by
    have:=List.getElem?_eq_none_iff.mp q
    omega
   refine ⟨e,S,?_,hi ▸ h⟩
   simp only [floop,hget i e S h,q]
  | some d =>
   obtain ⟨e1,e2,S2,a1,a2,a3⟩:=step i d e S q h
   have hi:i < xs.length:=(List.getElem?_eq_some_iff.mp q).1
   obtain ⟨e',S',b1,b2⟩:=floop_inv xs P hget step fuel (i + 1) e2 S2 a3 (by omega) (by omega)
   refine ⟨e',S',?_,b2⟩
   simp only [floop,hget i e S h,q,a1,a2]
   exact b1
theorem exe_rng {t:Tg} {es:Exs} {b:Sts} {ds xs:List D} (P:Nat→En→Sto→Prop) (h1:evs F G es env S=.ok ds S1) (h2:rngD ds=some xs) (h0:P 0 env S1)
  (step:∀ i d e S,xs[i]?=some d→P i e S→∃ e1 e2 S2,setTg t d e=some e1∧exes F G b e1 S=.ok (.nx e2) S2∧P (i + 1) e2 S2) :
  ∃ e' S',exe F G (.for t (.rng es) b) env S=.ok (.nx e') S'∧P xs.length e' S':=by
 obtain ⟨e',S',a,b'⟩:=floop_inv (get:=(Src.con xs).get) (t:=t) (body:=fun env S=>exes F G b env S) xs P (fun _ _ _ _=>rfl) step (xs.length + 1) 0 env S1 h0 (Nat.zero_le _) (by omega)
 refine ⟨e',S',?_,b'⟩
 simp only [exe,evit,h1,R.bind_ok,h2,Src.most]
 exact a
end
theorem rng1_get {m:Int} {xs:List D} (h:rngD [.int m]=some xs) {i:Nat} {d:D} (q:xs[i]?=some d):d=.int i∧i < m.toNat:=by
 simp only [rngD] at h
 split at h
 ·cases h
  rw [List.getElem?_map] at q
  cases z:(List.range m.toNat)[i]? with
  | none=>rw [z] at q; cases q
  | some j =>
   rw [z] at q
   obtain ⟨hi,e⟩:=List.getElem?_eq_some_iff.mp z
   simp at e hi
   subst e
   simp at q
   exact ⟨q.symm,by omega⟩
 ·cases h
theorem rng1_some {m:Int} (h0:0≤m) (h:m < 1048576):∃ xs,rngD [.int m]=some xs∧xs.length=m.toNat:=by
 refine ⟨_,by simp only [rngD]; rw [if_pos ⟨by omega,h⟩],by simp⟩
noncomputable def C:Nat→Nat→Nat
 | _,0=>1
 | 0,_ + 1=>0
 | n + 1,k + 1=>C n k + C n (k + 1)
theorem C_zero (n:Nat):C n 0=1:=by cases n <;> rfl
theorem C_gt:∀ (n k:Nat),n < k→C n k=0
 | 0,k + 1,_=>rfl
 | n + 1,k + 1,h=>by simp only [C]; rw [C_gt n k (by omega),C_gt n (k + 1) (by omega)]
theorem C_step:∀ (n k:Nat),C n (k + 1) * (k + 1)=C n k * (n - k)
 | 0,k=>by simp [C]
 | n + 1,0=>by
  have:=C_step n 0
  simp only [C_zero,Nat.sub_zero,Nat.one_mul,Nat.mul_one,Nat.zero_add] at this ⊢
  simp only [C,C_zero]
  rw [this]; omega
 | n + 1,k + 1=>by
  have h1:=C_step n (k + 1)
  have h2:=C_step n k
  have e:n + 1 - (k + 1)=n - k:=by omega
  rw [e]
  simp only [C]
  by_cases hk:k + 1≤n
  ·obtain ⟨d,rfl⟩:∃ d,n=k + 1 + d:=⟨n - (k + 1),by omega⟩
   have e1:k + 1 + d - (k + 1)=d:=by omega
   have e2:k + 1 + d - k=d + 1:=by omega
   rw [e1] at h1
   rw [e2] at h2 ⊢
   rw [Nat.add_mul,Nat.add_mul,h1,← h2,← Nat.mul_add,← Nat.mul_add]
   congr 1
   omega
  ·rw [C_gt n (k + 1) (by omega),C_gt n (k + 1 + 1) (by omega),Nat.add_zero,Nat.add_zero,Nat.zero_mul]
   have:n - k=0:=by omega
   rw [this,Nat.mul_zero]
theorem C_int (n k:Nat):(C n k:Int) * ((n:Int) - k)=(C n (k + 1):Int) * ((k:Int) + 1):=by
 by_cases h:k≤n
 ·have:=C_step n k
  have e:((n - k:Nat):Int)=(n:Int) - k:=by omega
  rw [← e]
  have e2:((k:Int) + 1)=((k + 1:Nat):Int):=by omega
  rw [e2,← Int.natCast_mul,← Int.natCast_mul,this]
 ·rw [C_gt n k (by omega),C_gt n (k + 1) (by omega)]; simp
theorem C_div (n k:Nat):((C n k:Int) * ((n:Int) - k)) / ((k:Int) + 1)=C n (k + 1):=by
 rw [C_int,Int.mul_ediv_cancel _ (by omega)]
theorem strOk_of (s:String):PyData.strOk (Str.ofString s)=true:=by
 rw [Str.ofString_eq_toList]
 unfold PyData.strOk
 rw [← Array.all_toList,List.all_eq_true]
 intro n hn
 have hn':n∈s.toList.map Char.toNat:=by simpa using hn
 obtain ⟨c,_,rfl⟩:=List.mem_map.mp hn'
 refine decide_eq_true ?_
 have:=c.valid
 rcases this with h | ⟨_,h⟩
 ·have:c.toNat < 0xd800:=h
  omega
 ·exact h
theorem ne_str {S:Sto} (s:String):cmpR .ne (.str (Str.ofString s)) (.str (Str.ofString s)) S=.ok (.bl false) S:=by
 simp only [cmpR,cmpD,eqD,twoS,datD,datF,PyData.canLay0,strOk_of,PyData.depth]
 simp [PyData.eqv]
theorem bin_add (i j:Int) (S:Sto):binD .add (.int i) (.int j) S=.ok (.int (i + j)) S:=rfl
theorem bin_sub (i j:Int) (S:Sto):binD .sub (.int i) (.int j) S=.ok (.int (i - j)) S:=rfl
theorem bin_mul {i j:Int} (h:mulOk i j=true) (S:Sto):binD .mul (.int i) (.int j) S=.ok (.int (i * j)) S:=by simp only [binD,h,if_true]
theorem bin_fdiv {i j:Int} (h:divOk j=true) (S:Sto):binD .fdiv (.int i) (.int j) S=.ok (.int (i / j)) S:=by simp only [binD,h,if_true]
theorem bin_mod {i j:Int} (h:0 < j) (S:Sto):binD .mod (.int i) (.int j) S=.ok (.int (i % j)) S:=by simp only [binD,h,if_true]
theorem bin_pow {i j:Int} (h:0≤j∧j≤1000∧i.natAbs < 2 ^ 63) (S:Sto):binD .pow (.int i) (.int j) S=.ok (.int (i ^ j.toNat)) S:=by simp only [binD,h,and_self,if_true]
theorem mul_okR {i j:Int} (h1:-1000000000000000 < j) (h2:j < 1000000000000000):mulOk i j=true:=by
 unfold mulOk
 simp only [Bool.or_eq_true,Bool.and_eq_true,decide_eq_true_eq]
 left; right
 constructor <;> omega
theorem mul_okL {i j:Int} (h1:-1000000000000000 < i) (h2:i < 1000000000000000):mulOk i j=true:=by
 unfold mulOk
 simp only [Bool.or_eq_true,Bool.and_eq_true,decide_eq_true_eq]
 left; left
 constructor <;> omega
end Z
end
section
namespace Z
open PySem PySem.W
section
variable (tb:String→Option Builtin) (p:Program) (w:World) (m:Nat) (ann:Option Value)
noncomputable def topT:Nat→SharedT→Thread→Option SharedT
 | 0,_,_=>none
 | n + 1,s,t=>match through t with
  | true=>some s
  | false=>match stepOk m ann t with
   | false=>none
   | true=>match stepT (denote tb) p w s t with
    | some (s',t')=>topT n s' t'
    | none=>none
end
theorem topT_of {tb:String→Option Builtin} {p:Program} {w:World} {m:Nat} {ann:Option Value}:∀ {n:Nat} {s s':SharedT} {t:Thread},topT tb p w m ann n s t=some s'→topRun tb p w m ann n s.abs t=some s'.abs
 | 0,_,_,_,h=>by cases h
 | n + 1,s,s',t,h=>by
  unfold topT at h
  unfold topRun
  cases ht:through t with
  | true=>rw [ht] at h; cases h; rfl
  | false =>
   rw [ht] at h
   cases hk:stepOk m ann t with
   | false=>rw [hk] at h; cases h
   | true =>
    rw [hk] at h
    cases hs:stepT (denote tb) p w s t with
    | none=>rw [hs] at h; cases h
    | some r=>obtain ⟨a,b⟩:=r; rw [hs] at h; rw [stepT_spec hs]; exact topT_of h
noncomputable def tree0 (P:Params):BT :=
 .node (boot_o_0 P) (.node (boot_o_1 P) (.node (boot_o_3 P) (.node (boot_o_7 P) .nil .nil) .nil) (.node (boot_o_5 P) (.node (boot_o_9 P) .nil .nil) .nil))
  (.node (boot_o_2 P) (.node (boot_o_4 P) (.node (boot_o_8 P) .nil .nil) .nil) (.node (boot_o_6 P) (.node (boot_o_10 P) .nil .nil) .nil))
noncomputable def life0:Life:={ debug:=0,thresholds:=[2000,10,10] }
theorem tree0_is (P:Params):absHeap (tree0 P) 11 life0=boot_heap P:=by kernel_rfl
theorem boot_size (P:Params):((boot_heap P).isNs mainGlobals && (Array.mk ([]:List GenState)).size == 0,(boot_heap P).objs.size,(boot_heap P).nsMap mainGlobals "__annotations__")=(true,11,some (.ref 6)):=by kernel_rfl
noncomputable def looksT {α:Type} (p q:Program) (loose:List Str) (Xt:Shared→Bool) (Yf:Shared→α) (P:Params) (s:Shared):=((staticsOk (importedModules p.main.body) (boot_heap P) s.heap && namesBound p s.heap && gensDone s && laidKept (boot_heap P) s.heap),openSeen q loose (importedModules p.main.body) Xt true s,Yf s)
theorem left_tree {p q:Program} {loose:List Str} {Xt:Shared→Bool} {α:Type} {Yf:Shared→α} {Ya:World→α} {N:Nat}
  (e:opening p=plainProg p.main.scope.names) (hN:Nat.ble 600 N=true) (f:∀ s,fenceModules? p s=some s)
  (all:∀ w os,(topT treeTable p w 11 (some (.ref 6)) N ⟨tree0 w.params,11,life0,Array.mk [],boot_drawn,boot_toks,os⟩ (topStub p)).map (fun s=>looksT p q loose Xt Yf w.params s.abs)=some (true,openGood q loose,Ya w)) :
  LeftO p q loose Xt Yf Ya N:=fun w=>by
 obtain ⟨⟨h,gs,d,k,os⟩,e1,e2⟩:=Option.map_eq_some_iff.mp (boot_open e hN f w)
 obtain ⟨rfl,rfl,rfl,rfl⟩:h=boot_heap w.params∧gs=Array.mk []∧d=boot_drawn∧k=boot_toks:=by simpa using e2
 obtain ⟨z1,z2,z3⟩:_∧_∧_:=by simpa only [Prod.mk.injEq] using boot_size w.params
 obtain ⟨s,r,l⟩:=Option.map_eq_some_iff.mp (all w os)
 have r':=topT_of r
 have e0:SharedT.abs ⟨tree0 w.params,11,life0,Array.mk [],boot_drawn,boot_toks,os⟩=⟨boot_heap w.params,Array.mk [],boot_drawn,boot_toks,os⟩:=by
  unfold SharedT.abs
  dsimp only
  rw [tree0_is]
 rw [e0] at r'
 unfold looksT at l
 obtain ⟨l1,l2,l3⟩:_∧_∧_:=by simpa only [Prod.mk.injEq] using l
 have t:topFrom treeTable p w N ⟨boot_heap w.params,Array.mk [],boot_drawn,boot_toks,os⟩=some s.abs:=by
  unfold topFrom
  dsimp only
  rw [z1,z2,z3,r']
  dsimp only [Option.bind]
  rw [l1]
 unfold openEnds
 rw [e1]
 show (topFrom treeTable p w N _).map _=_
 rw [t]
 exact congrArg some (Prod.ext l2 l3)
end Z
end
section
namespace Z
open PySem
section
variable {P S:Sto}
end
end Z
end
section
namespace Z
open PySem
section
variable {P S:Sto}
end
end Z
end
section
namespace Z
open PySem
section
variable {F:Fn} {G:List D} {P:Sto}
end
end Z
end
section
namespace Z
open PySem
section
variable {F:Fn} {G:List D} {P:Sto}
end
mutual
noncomputable def flt:D→Bool
 | .tup xs=>flts xs
 | .fro xs=>flts xs
 | .ref _=>false
 | _=>true
noncomputable def flts:List D→Bool
 | []=>true
 | x :: r=>flt x && flts r
end
end Z
end
section
namespace Z
open PySem
structure Le (e1 e2:En):Prop where
 len:e1.length=e2.length
 val:∀ (i:Nat) d,e1[i]?=some (some d)→e2[i]?=some (some d)
theorem Le.set {e1 e2:En} (h:Le e1 e2) (i:Nat) (d:D):Le (e1.set i (some d)) (e2.set i (some d)) :=
 ⟨by simp [h.len],fun j x e=>by
  by_cases z:i=j
  ·subst z
   have hj:i < e1.length:=by have:=(List.getElem?_eq_some_iff.mp e).1; simpa using this
   rw [List.getElem?_set_self hj] at e
   rw [List.getElem?_set_self (by rw [← h.len]; exact hj)]
   exact e
  ·rw [List.getElem?_set_ne z] at e ⊢
   exact h.val j x e⟩
theorem Le.sets:∀ (is:List Nat) (ds:List D) {e1 e2:En},Le e1 e2→Le ((is.zip ds).foldl (fun e p=>e.set p.1 (some p.2)) e1) ((is.zip ds).foldl (fun e p=>e.set p.1 (some p.2)) e2)
 | [],ds,e1,e2,h=>by simpa using h
 | i :: is,[],e1,e2,h=>by simpa using h
 | i :: is,d :: ds,e1,e2,h=>Le.sets is ds (h.set i d)
section
variable {F:Fn} {G:List D} {e1 e2:En}
end
noncomputable def LeF:Fl→Fl→Prop
 | .nx e,.nx e'=>Le e e'
 | .brk e,.brk e'=>Le e e'
 | .cnt e,.cnt e'=>Le e e'
 | .rt d,.rt d'=>d=d'
 | _,_=>False
noncomputable def LeR (r1 r2:R Fl):Prop:=match r1 with
 | .ok a S=>∃ b,r2=.ok b S∧LeF a b
 | .ex n S=>r2=.ex n S
 | .bad=>True
theorem LeR.bind {α:Type} {r1 r2:R α} {k1 k2:α→Sto→R Fl} (h:r1≠.bad→r2=r1) (hk:∀ a S,LeR (k1 a S) (k2 a S)):LeR (r1.bind k1) (r2.bind k2):=by
 cases r1 with
 | ok a S=>rw [h (fun z=>nomatch z)]; exact hk a S
 | ex n S=>rw [h (fun z=>nomatch z)]; exact rfl
 | bad=>exact trivial
section
variable {F:Fn} {G:List D}
end
end Z
end
section
namespace Z
open PySem
theorem lt20 {m:Int} (h:m < 1000000):m < 1048576:=by omega
theorem last_lst {S:Sto} {xs:List D}:lstAt (S++[.lst xs]) S.length=some xs:=by
 unfold lstAt
 rw [List.getElem?_append_right (Nat.le_refl _),Nat.sub_self]
 rfl
theorem lst_app {S X:Sto} {q:Nat} {xs:List D} (h:lstAt S q=some xs):lstAt (S++X) q=some xs:=by
 unfold lstAt at h ⊢
 cases e:S[q]? with
 | none=>rw [e] at h; cases h
 | some o=>rw [List.getElem?_append_left (List.getElem?_eq_some_iff.mp e).1]; exact h
theorem lst_lt {S:Sto} {p:Nat} {xs:List D} (hp:lstAt S p=some xs):p < S.length:=by
 unfold lstAt at hp
 cases e:S[p]? with
 | none=>rw [e] at hp; cases hp
 | some o=>exact (List.getElem?_eq_some_iff.mp e).1
theorem set_lst {S:Sto} {p:Nat} {x:List D} (h:p < S.length):lstAt (S.set p (.lst x)) p=some x:=by
 unfold lstAt
 rw [List.getElem?_set_self h]
theorem set_other {S:Sto} {p q:Nat} {o:O} (h:p≠q):lstAt (S.set p o) q=lstAt S q:=by
 unfold lstAt
 rw [List.getElem?_set_ne h]
theorem idx0 {S:Sto} {p:Nat} {v:Int} (h:lstAt S p=some [.int v]):idxR (.ref p) (.int 0) S=.ok (.int v) S:=by
 simp only [idxR,idxD,seqD,h,Option.bind_some,Z.ixN,List.length]
 rfl
theorem aset0 {S:Sto} {p:Nat} {v:Int} {d:D} (h:lstAt S p=some [.int v]):asetD (.ref p) (.int 0) d S=.ok () (S.set p (.lst [d])):=by
 have h':Z.lstM S p=some [.int v]:=h
 simp only [asetD,h',Z.ixN,List.length]
 rfl
section
variable {F:Fn} {G:List D}
noncomputable def bCell:Sts:=.cons (.ite (.cmp .lt (.var 1) (.blt .len (.cons (.var 0) .nil))) (.cons (.ret (.idx (.var 0) (.var 1))) .nil) .nil) (.cons (.ret (.cst (.int 0))) .nil)
noncomputable def dCell:Df:=⟨2,2,bCell⟩
theorem den_cell (ns:List Int) (j:Nat) (S:Sto):∃ c,den F G dCell [.fro (ns.map D.int),.int j] S=.ok (.int c) S:=by
 have hlen:bltD .len [.fro (ns.map D.int)] S=.ok (.int ns.length) S:=by simp only [bltD,seqD,List.length_map]
 by_cases h:j < ns.length
 ·refine ⟨ns[j],?_⟩
  have hi:idxR (.fro (ns.map D.int)) (.int j) S=.ok (.int ns[j]) S:=by
   simp only [idxR,idxD,seqD,Option.bind_some,Z.ixN,List.length_map]
   rw [if_pos (by omega),if_pos (by omega)]
   simp [h]
  simp only [den,dCell,bCell,List.length,if_true,List.map,List.replicate,Nat.sub_self,List.append_nil]
  rw [exes_rt (d:=.int ns[j]) (S1:=S) (by
   have hc:decide ((j:Int) < (ns.length:Int))=true:=decide_eq_true (by omega)
   simp only [exe,ev,evs,List.getElem?_cons_zero,List.getElem?_cons_succ,R.bind_ok,hlen,cmpR,cmpD,ltD,hc,truD]
   simp only [exes,exe,ev,List.getElem?_cons_zero,List.getElem?_cons_succ,R.bind_ok,hi])]
 ·refine ⟨0,?_⟩
  simp only [den,dCell,bCell,List.length,if_true,List.map,List.replicate,Nat.sub_self,List.append_nil]
  rw [exes_nx (e:=[some (.fro (ns.map D.int)),some (.int j)]) (S1:=S) (by
   have hc:decide ((j:Int) < (ns.length:Int))=false:=decide_eq_false (by omega)
   simp only [exe,ev,evs,List.getElem?_cons_zero,List.getElem?_cons_succ,R.bind_ok,hlen,cmpR,cmpD,ltD,hc,truD]
   simp only [exes])]
  simp only [exes,exe,ev,R.bind_ok]
noncomputable def bTake:Sts:=.cons (.asg (.var 2) (.bin .mod (.idx (.var 0) (.cst (.int 0))) (.var 1))) (.cons (.aset (.var 0) (.cst (.int 0)) (.bin .fdiv (.idx (.var 0) (.cst (.int 0))) (.var 1))) (.cons (.ret (.var 2)) .nil))
noncomputable def dTake:Df:=⟨2,3,bTake⟩
theorem den_take {p:Nat} {v far:Int} {S:Sto} (h:lstAt S p=some [.int v]) (h0:0 < far) (hd:divOk far=true):den F G dTake [.ref p,.int far] S=.ok (.int (v % far)) (S.set p (.lst [.int (v / far)])):=by
 have i0:=idx0 h
 have a0:=aset0 (d:=.int (v / far)) h
 simp only [den,dTake,bTake,List.length,if_true,List.map,List.replicate]
 rw [exes_nx (e:=[some (.ref p),some (.int far),some (.int (v % far))]) (S1:=S) (by simp only [exe,ev,List.cons_append,List.nil_append,List.getElem?_cons_zero,List.getElem?_cons_succ,R.bind_ok,i0,bin_mod h0,setTg,List.set])]
 rw [exes_nx (e:=[some (.ref p),some (.int far),some (.int (v % far))]) (S1:=S.set p (.lst [.int (v / far)])) (by simp only [exe,ev,List.getElem?_cons_zero,List.getElem?_cons_succ,R.bind_ok,i0,bin_fdiv hd,a0])]
 rw [exes_rt (d:=.int (v % far)) (S1:=S.set p (.lst [.int (v / far)])) (by simp only [exe,ev,List.getElem?_cons_zero,List.getElem?_cons_succ,R.bind_ok])]
noncomputable def bPot1:Sts:=.cons (.asg (.var 3) (.bin .mod (.bin .mul (.bin .add (.bin .add (.bin .mod (.var 0) (.cst (.int 2147483629))) (.bin .mul (.cst (.int 7919)) (.var 2))) (.cst (.int 1))) (.cst (.int 48271))) (.cst (.int 2147483647))))
  (.cons (.asg (.var 3) (.bin .mod (.bin .add (.bin .add (.bin .mul (.var 3) (.var 3)) (.bin .mul (.cst (.int 69621)) (.var 2))) (.cst (.int 7))) (.cst (.int 2147483587))))
  (.cons (.asg (.var 1) (.bin .add (.bin .mul (.var 1) (.cst (.int 2147483587))) (.var 3)))
  .nil))
noncomputable def bPot:Sts:=.cons (.ite (.cmp .ge (.var 0) (.bin .pow (.cst (.int 10)) (.cst (.int 18)))) (.cons (.ret (.lst (.cons (.bin .sub (.var 0) (.bin .pow (.cst (.int 10)) (.cst (.int 18)))) .nil))) .nil) .nil)
 (.cons (.asg (.var 1) (.cst (.int 0))) (.cons (.for (.var 2) (.rng (.cons (.cst (.int 64)) .nil)) bPot1) (.cons (.ret (.lst (.cons (.var 1) .nil))) .nil)))
noncomputable def dPot:Df:=⟨1,4,bPot⟩
theorem pot_step (c a j:Int) (x:Option D) (S:Sto):∃ a' b',exes F G bPot1 [some (.int c),some (.int a),some (.int j),x] S=.ok (.nx [some (.int c),some (.int a'),some (.int j),some (.int b')]) S:=by
 have m1:mulOk 7919 j=true:=mul_okL (by decide) (by decide)
 have m2:∀ y,mulOk y 48271=true:=fun y=>mul_okR (by decide) (by decide)
 have m3:mulOk 69621 j=true:=mul_okL (by decide) (by decide)
 have m4:∀ y,mulOk y 2147483587=true:=fun y=>mul_okR (by decide) (by decide)
 have p1:(0:Int) < 2147483629:=by decide
 have p2:(0:Int) < 2147483647:=by decide
 have p3:(0:Int) < 2147483587:=by decide
 generalize hb:((c % 2147483629 + 7919 * j + 1) * 48271) % 2147483647=b
 have b1:0≤b:=by rw [← hb]; exact Int.emod_nonneg _ (by decide)
 have b2:b < 2147483647:=by rw [← hb]; exact Int.emod_lt_of_pos _ (by decide)
 have m5:mulOk b b=true:=mul_okR (by omega) (by omega)
 refine ⟨a * 2147483587 + (b * b + 69621 * j + 7) % 2147483587,(b * b + 69621 * j + 7) % 2147483587,?_⟩
 unfold bPot1
 rw [exes_nx (e:=[some (.int c),some (.int a),some (.int j),some (.int b)]) (S1:=S) (by
  simp only [exe,ev,List.getElem?_cons_zero,List.getElem?_cons_succ,R.bind_ok,bin_mod p1,bin_mul m1,bin_add,bin_mul (m2 _),bin_mod p2,setTg,List.set,hb])]
 rw [exes_nx (e:=[some (.int c),some (.int a),some (.int j),some (.int ((b * b + 69621 * j + 7) % 2147483587))]) (S1:=S) (by
  simp only [exe,ev,List.getElem?_cons_zero,List.getElem?_cons_succ,R.bind_ok,bin_mul m5,bin_mul m3,bin_add,bin_mod p3,setTg,List.set])]
 rw [exes_nx (e:=[some (.int c),some (.int (a * 2147483587 + (b * b + 69621 * j + 7) % 2147483587)),some (.int j),some (.int ((b * b + 69621 * j + 7) % 2147483587))]) (S1:=S) (by
  simp only [exe,ev,List.getElem?_cons_zero,List.getElem?_cons_succ,R.bind_ok,bin_mul (m4 _),bin_add,setTg,List.set])]
 simp only [exes]
theorem pot_fin (c a:Int) (S:Sto) (e':En) (hc:¬ (10:Int) ^ (18:Int).toNat≤c) (h1:exe F G (.for (.var 2) (.rng (.cons (.cst (.int 64)) .nil)) bPot1) [some (.int c),some (.int 0),none,none] S=.ok (.nx e') S) (h2:e'[1]?=some (some (.int a))) :
  den F G dPot [.int c] S=.ok (.ref S.length) (S++[.lst [.int a]]):=by
 have hp:binD .pow (.int 10) (.int 18) S=.ok (.int (10 ^ (18:Int).toNat)) S:=bin_pow (by decide +kernel) S
 generalize (10:Int) ^ (18:Int).toNat=w at hp hc
 simp only [den,dPot,bPot,List.length,if_true,List.map,List.replicate]
 rw [exes_nx (e:=[some (.int c),none,none,none]) (S1:=S) (by
  simp only [exe,ev,List.cons_append,List.nil_append,List.getElem?_cons_zero,List.getElem?_cons_succ,R.bind_ok,hp,cmpR,cmpD,truD,decide_eq_false hc]
  simp only [exes])]
 rw [exes_nx (e:=[some (.int c),some (.int 0),none,none]) (S1:=S) (by simp only [exe,ev,R.bind_ok,setTg,List.set])]
 have h1':=exes_nx (ss:=.cons (.ret (.lst (.cons (.var 1) .nil))) .nil) h1
 rw [h1']
 rw [exes_rt (d:=.ref S.length) (S1:=S++[.lst [.int a]]) (by
  simp only [exe,ev,evs,h2,R.bind_ok,List.length]
  rfl)]
theorem pot_great (c:Int) (S:Sto) (hc:(10:Int) ^ (18:Int).toNat≤c):∃ a,den F G dPot [.int c] S=.ok (.ref S.length) (S++[.lst [.int a]]):=by
 have hp:binD .pow (.int 10) (.int 18) S=.ok (.int (10 ^ (18:Int).toNat)) S:=bin_pow (by decide +kernel) S
 generalize (10:Int) ^ (18:Int).toNat=w at hp hc
 refine ⟨c - w,?_⟩
 simp only [den,dPot,bPot,List.length,if_true,List.map,List.replicate]
 rw [exes_rt (d:=.ref S.length) (S1:=S++[.lst [.int (c - w)]]) (by
  simp only [exe,ev,List.cons_append,List.nil_append,List.getElem?_cons_zero,List.getElem?_cons_succ,R.bind_ok,hp,cmpR,cmpD,truD,decide_eq_true hc]
  rw [exes_rt (d:=.ref S.length) (S1:=S++[.lst [.int (c - w)]]) (by
   simp only [exe,ev,evs,List.getElem?_cons_zero,R.bind_ok,hp,bin_sub,List.length]
   rfl)])]
theorem den_pot (c:Int) (S:Sto):∃ a,den F G dPot [.int c] S=.ok (.ref S.length) (S++[.lst [.int a]]):=by
 by_cases hc:(10:Int) ^ (18:Int).toNat≤c
 ·exact pot_great c S hc
 obtain ⟨xs,hx,hl⟩:=rng1_some (m:=(64:Int)) (by decide) (lt20 (by decide))
 have loop:=exe_rng (F:=F) (G:=G) (t:=.var 2) (es:=.cons (.cst (.int 64)) .nil) (b:=bPot1)
  (env:=[some (.int c),some (.int 0),none,none]) (S:=S) (S1:=S) (ds:=[.int 64]) (xs:=xs) (fun i e S'=>S'=S∧∃ a x y,e=[some (.int c),some (.int a),x,y])
  (by simp only [evs,ev,R.bind_ok]) hx ⟨rfl,0,none,none,rfl⟩ (fun i d e S' hd hP=>by
   obtain ⟨rfl,a,x,y,rfl⟩:=hP
   obtain ⟨rfl,hi⟩:=rng1_get hx hd
   obtain ⟨a',b',st⟩:=pot_step (F:=F) (G:=G) c a i y S'
   exact ⟨_,_,S',rfl,st,rfl,a',_,_,rfl⟩)
 obtain ⟨e',S',h1,rfl,a,x,y,rfl⟩:=loop
 exact ⟨a,pot_fin c a S' _ hc h1 rfl⟩
noncomputable def wh:D→Bool
 | .int _=>true
 | _=>false
noncomputable def good (S:Sto) (d:D):Prop:=∃ k,kdD S d=some k∧∀ c,k≠.exc c
theorem isi_int {k:Kd} (h:∀ c,k≠.exc c):∃ b,isTs k [.int]=some b∧(b=true ↔ k=.int∨k=.bool):=by
 cases k <;> first | exact ⟨_,rfl,by simp⟩ | exact absurd rfl (h _)
theorem isi_bool {k:Kd} (h:∀ c,k≠.exc c):∃ b,isTs k [.bool]=some b∧(b=true ↔ k=.bool):=by
 cases k <;> first | exact ⟨_,rfl,by simp⟩ | exact absurd rfl (h _)
theorem wh_kd {S:Sto} {d:D} {k:Kd} (h:kdD S d=some k):wh d=true ↔ k=.int:=by
 cases d with
 | ref n =>
  simp only [kdD] at h
  split at h <;> first | (cases h; simp [wh]) | cases h
 | fn _ _=>cases h
 | _=>cases h; simp [wh]
noncomputable def bWhole:Sts:=.cons (.ret (.and (.isi (.var 0) [.int]) (.not (.isi (.var 0) [.bool])))) .nil
noncomputable def dWhole:Df:=⟨1,1,bWhole⟩
theorem den_whole {d:D} {S:Sto} (h:good S d):den F G dWhole [d] S=.ok (.bl (wh d)) S:=by
 obtain ⟨kd,h1,h2⟩:=h
 obtain ⟨b1,i1,j1⟩:=isi_int h2
 obtain ⟨b2,i2,j2⟩:=isi_bool h2
 have hw:=wh_kd h1
 simp only [den,dWhole,bWhole,List.length,exes,exe,ev,List.map,List.replicate,if_true,Nat.sub_self,List.append_nil,List.getElem?_cons_zero,R.bind_ok,h1,Option.bind_some,i1,i2,truD]
 cases b1 with
 | false =>
  have e:wh d=false:=by
   cases q:wh d with
   | false=>rfl
   | true=>exact absurd (j1.mpr (.inl (hw.mp q))) Bool.false_ne_true
  rw [e]; rfl
 | true =>
  cases b2 with
  | false =>
   have e:wh d=true:=hw.mpr (by rcases j1.mp rfl with z | z; exact z; exact absurd (j2.mpr z) Bool.false_ne_true)
   rw [e]; rfl
  | true =>
   have e:wh d=false:=by
    cases q:wh d with
    | false=>rfl
    | true=>have z1:=hw.mp q; have z2:=j2.mp rfl; rw [z1] at z2; cases z2
   rw [e]; rfl
noncomputable def wi (d:D) (lo hi:Int):Bool:=match d with
 | .int i=>decide (lo≤i) && decide (i≤hi)
 | _=>false
noncomputable def bWithin (f:Nat):Sts:=.cons (.ret (.and (.call f (.cons (.var 0) .nil)) (.chn .le .le (.var 1) (.var 0) (.var 2)))) .nil
noncomputable def dWithin (f:Nat):Df:=⟨3,3,bWithin f⟩
theorem den_within {f:Nat} {d:D} {lo hi:Int} {S:Sto} (h:F f [d] S=.ok (.bl (wh d)) S):den F G (dWithin f) [d,.int lo,.int hi] S=.ok (.bl (wi d lo hi)) S:=by
 simp only [den,dWithin,bWithin,List.length,exes,exe,ev,evs,List.map,List.replicate,if_true,Nat.sub_self,List.append_nil,List.getElem?_cons_zero,List.getElem?_cons_succ,R.bind_ok,h,truD]
 cases d with
 | int i =>
  simp only [wh,wi,cmpD,cmpR]
  cases decide (lo≤i) <;> rfl
 | _=>rfl
theorem wi_int {i lo hi:Int} (h1:lo≤i) (h2:i≤hi):wi (.int i) lo hi=true:=by
 simp only [wi,decide_eq_true h1,decide_eq_true h2,Bool.and_self]
theorem good_int (S:Sto) (i:Int):good S (.int i):=⟨.int,rfl,fun c z=>nomatch z⟩
theorem good_app {S X:Sto} {d:D} (h:good S d):good (S++X) d:=by
 obtain ⟨k,h1,h2⟩:=h
 cases d with
 | ref n =>
  refine ⟨k,?_,h2⟩
  simp only [kdD] at h1 ⊢
  cases e:S[n]? with
  | none=>rw [e] at h1; cases h1
  | some o=>rw [List.getElem?_append_left (List.getElem?_eq_some_iff.mp e).1,e]; rw [e] at h1; exact h1
 | _=>exact ⟨k,h1,h2⟩
theorem good_flat (S:Sto) (d:D) (h:∀ n,d≠.ref n) (hf:∀ f m,d≠.fn f m:=by intro _ _ z; cases z):good S d:=by
 cases d with
 | fn f m=>exact absurd rfl (hf f m)
 | ref n=>exact absurd rfl (h n)
 | non=>exact ⟨.non,rfl,fun _ z=>nomatch z⟩
 | bl _=>exact ⟨.bool,rfl,fun _ z=>nomatch z⟩
 | int _=>exact ⟨.int,rfl,fun _ z=>nomatch z⟩
 | str _=>exact ⟨.str,rfl,fun _ z=>nomatch z⟩
 | tup _=>exact ⟨.tuple,rfl,fun _ z=>nomatch z⟩
 | fro _=>exact ⟨.list,rfl,fun _ z=>nomatch z⟩
theorem if_pass {c:Ex} {a:Sts} {env:En} {S S':Sto} (h:ev F G c env S=.ok (.bl false) S'):exe F G (.ite c a .nil) env S=.ok (.nx env) S':=by
 rw [exe,h,R.bind_ok]
 simp only [truD,exes]
end
noncomputable def Takes (F:Fn) (f:Nat):Prop:=∀ (p:Nat) (v far:Int) (S:Sto),lstAt S p=some [.int v]→0 < far→divOk far=true→F f [.ref p,.int far] S=.ok (.int (v % far)) (S.set p (.lst [.int (v / far)]))
theorem takes_of {T:List Df} {G:List D} {f:Nat} (hf:T[f]?=some dTake) (k:Nat):Takes (FT T G (k + 1)) f:=fun p v far S h h0 hd=>by
 simp only [FT,hf]
 exact den_take h h0 hd
theorem pick {F:Fn} {G:List D} {f q:Nat} (hF:Takes F f) {es:Exs} {ds:List D} {c:Int} {p:Nat} {v:Int} {env:En} {S S':Sto} (he:evs F G es env S=.ok ds S') (hc:(ds.length:Int)=c) (h0:0 < c) (hz:ds.length≤big) (hd:divOk c=true) (h5:env[q]?=some (some (.ref p))) (hp:lstAt S' p=some [.int v]) :
  ∃ d∈ds,ev F G (.idx (.lst es) (.call f (.cons (.var q) (.cons (.cst (.int c)) .nil)))) env S=.ok d ((S'++[O.lst ds]).set p (.lst [.int (v / c)])):=by
 have tk:=hF p v c (S'++[.lst ds]) (lst_app hp) h0 hd
 have r0:=Int.emod_nonneg v (Int.ne_of_gt h0)
 have r1:=Int.emod_lt_of_pos v h0
 have hlt:(v % c).toNat < ds.length:=by omega
 have hpl:=lst_lt hp
 have hl:lstAt ((S'++[O.lst ds]).set p (.lst [.int (v / c)])) S'.length=some ds:=by
  rw [set_other (by omega)]
  exact last_lst
 refine ⟨ds[(v % c).toNat],List.getElem_mem hlt,?_⟩
 have hi:idxR (.ref S'.length) (.int (v % c)) ((S'++[O.lst ds]).set p (.lst [.int (v / c)]))=.ok ds[(v % c).toNat] ((S'++[O.lst ds]).set p (.lst [.int (v / c)])):=by
  simp only [idxR,idxD,seqD,hl,Option.bind_some,Z.ixN]
  rw [if_pos r0,if_pos (by omega)]
  simp only [Option.bind_some,List.getElem?_eq_getElem hlt]
 simp only [ev,he,evs,h5,R.bind_ok,hz,if_true,tk,hi]
theorem pot_after {S':Sto} {ds:List D} {p:Nat} {v c:Int} (hp:lstAt S' p=some [.int v]):lstAt ((S'++[O.lst ds]).set p (.lst [.int (v / c)])) p=some [.int (v / c)]:=by
 refine set_lst ?_
 have:=lst_lt hp
 simp; omega
theorem turns {F:Fn} {G:List D} {env:En} {S:Sto} {ns:List Int} (c:Int) (h1:1≤c) (h2:c < 1000000) (h0:env[0]?=some (some (.fro (ns.map D.int)))) :
  ∃ m:Int,evs F G (.cons (.blt .max (.cons (.cst (.int 1)) (.cons (.blt .min (.cons (.blt .len (.cons (.var 0) .nil)) (.cons (.cst (.int c)) .nil))) .nil))) .nil) env S=.ok [.int m] S∧0≤m∧m≤c:=by
 have hlen:bltD .len [.fro (ns.map D.int)] S=.ok (.int ns.length) S:=by simp only [bltD,seqD,List.length_map]
 have hmin:∀ i j:Int,bltD .min [.int i,.int j] S=.ok (.int (if j < i then j else i)) S:=fun _ _=>rfl
 have hmax:∀ i j:Int,bltD .max [.int i,.int j] S=.ok (.int (if j > i then j else i)) S:=fun _ _=>rfl
 refine ⟨if (if c < (ns.length:Int) then c else (ns.length:Int)) > 1 then (if c < (ns.length:Int) then c else (ns.length:Int)) else 1,by simp only [evs,ev,h0,R.bind_ok,hlen,hmin,hmax],?_,?_⟩
 ·split
  ·split <;> omega
  ·omega
 ·split
  ·split <;> omega
  ·omega
end Z
end
section
namespace Z
noncomputable def stepL (s:Int) (f:List Int):List Int:=List.zipWith (fun a b=>a + s * b) (f++[0]) (0 :: f)
noncomputable def stepT (s:Int) (f:List Int) (n:Int):List Int:=(stepL s f).set f.length ((stepL s f).getD f.length 0 + n)
end Z
end
section
namespace Z
open PySem
section
variable {F:Fn} {G:List D}
theorem cloop_inv {get:Sto→Nat→Option (Option D)} {t:Tg} {body:En→List D→Sto→R (List D)} (xs:List D) (y:Nat→D) (P:Nat→En→Sto→Prop) (hget:∀ i e S,P i e S→get S i=some xs[i]?)
  (step:∀ i d e S,xs[i]?=some d→P i e S→∃ e1 S2,setTg t d e=some e1∧body e1 ((List.range i).map y) S=.ok ((List.range (i + 1)).map y) S2∧P (i + 1) e1 S2) :
  ∀ (fuel i:Nat) (e:En) (S:Sto),P i e S→i≤xs.length→xs.length < fuel + i→∃ e' S',cloop get t body fuel i e ((List.range i).map y) S=.ok ((List.range xs.length).map y) S'∧P xs.length e' S'
 | 0,i,e,S,h,h1,h2=>by omega
 | fuel + 1,i,e,S,h,h1,h2=>by
  cases q:xs[i]? with
  | none =>
   have hi:i=xs.length:=by
    have:=List.getElem?_eq_none_iff.mp q
    omega
   refine ⟨e,S,?_,hi ▸ h⟩
   simp only [cloop,hget i e S h,q]
   rw [hi]
  | some d =>
   obtain ⟨e1,S2,a1,a2,a3⟩:=step i d e S q h
   have hi:i < xs.length:=(List.getElem?_eq_some_iff.mp q).1
   obtain ⟨e',S',b1,b2⟩:=cloop_inv xs y P hget step fuel (i + 1) e1 S2 a3 (by omega) (by omega)
   refine ⟨e',S',?_,b2⟩
   simp only [cloop,hget i e S h,q,a1,a2]
   exact b1
theorem le_big {n:Nat} (h:n≤1000):n≤big:=Nat.le_trans h (by decide)
theorem ev_cmr {it:It} {t:Tg} {n:Nat} {elt:Ex} {env:En} {S S1:Sto} {src:Src} (xs:List D) (y:Nat→D) (P:Nat→En→Sto→Prop) (hit:evit F G it env S=.ok src S1) (hm:src.most S1=xs.length) (hb:xs.length≤big)
  (h0:P 0 (env++List.replicate n none) S1) (hget:∀ i e S,P i e S→src.get S i=some xs[i]?)
  (step:∀ i d e S,xs[i]?=some d→P i e S→∃ e1 S2,setTg t d e=some e1∧ev F G elt e1 S=.ok (y i) S2∧P (i + 1) e1 S2) :
  ∃ e' S',ev F G (.cmr false n (.cons t it .nil .nil) elt) env S=.ok (.ref S'.length) (S'++[.lst ((List.range xs.length).map y)])∧P xs.length e' S':=by
 obtain ⟨e',S',a,b⟩:=cloop_inv (get:=src.get) (t:=t) (body:=TestP (fun env S=>evts F G .nil env S) (fun env acc S=>(ev F G elt env S).bind fun y S=>if acc.length < big then .ok (acc++[y]) S else .bad)) xs y P hget
  (fun i d e S hd hP=>by
   obtain ⟨e1,S2,a1,a2,a3⟩:=step i d e S hd hP
   refine ⟨e1,S2,a1,?_,a3⟩
   have hi:i < xs.length:=(List.getElem?_eq_some_iff.mp hd).1
   simp only [TestP,evts,R.bind_ok,if_true,a2,List.length_map,List.length_range]
   rw [if_pos (by omega),List.range_succ,List.map_append]
   rfl) (xs.length + 1) 0 _ S1 h0 (Nat.zero_le _) (by omega)
 refine ⟨e',S',?_,b⟩
 simp only [ev,hit,R.bind_ok,hm]
 have a':cloop src.get t (TestP (fun env S=>evts F G .nil env S) (fun env acc S=>(ev F G elt env S).bind fun y S=>if acc.length < big then .ok (acc++[y]) S else .bad)) (xs.length + 1) 0 (env++List.replicate n none) [] S1=.ok ((List.range xs.length).map y) S':=a
 rw [a']
 simp only [R.bind_ok]
 rfl
theorem it_tup {e:Ex} {env:En} {S S1:Sto} {xs:List D} (h1:ev F G e env S=.ok (.tup xs) S1):evit F G (.val e) env S=.ok (.con xs) S1:=by simp only [evit,h1,R.bind_ok,srcD]
noncomputable def bWays1:Sts:=.cons (.asg (.var 2) (.bin .fdiv (.bin .mul (.var 2) (.bin .sub (.var 0) (.var 3))) (.bin .add (.var 3) (.cst (.int 1))))) .nil
noncomputable def dWays:Df:=⟨2,4,.cons (.asg (.var 2) (.cst (.int 1))) (.cons (.for (.var 3) (.rng (.cons (.var 1) .nil)) bWays1) (.cons (.ret (.var 2)) .nil))⟩
theorem div13 {i:Nat} (h:i < 13):divOk ((i:Int) + 1)=true:=by
 have:∀ j:Fin 13,divOk ((j.val:Int) + 1)=true:=by decide +kernel
 exact this ⟨i,h⟩
theorem ways_gen (n m t i:Int) (S:Sto) (hmul:mulOk t (n - i)=true) (hdiv:divOk (i + 1)=true):exes F G bWays1 [some (.int n),some (.int m),some (.int t),some (.int i)] S=.ok (.nx [some (.int n),some (.int m),some (.int (t * (n - i) / (i + 1))),some (.int i)]) S:=by
 unfold bWays1
 refine exes_nx (e:=[some (.int n),some (.int m),some (.int (t * (n - i) / (i + 1))),some (.int i)]) (S1:=S) ?_
 simp only [exe,ev,List.getElem?_cons_zero,List.getElem?_cons_succ,R.bind_ok,bin_sub,bin_mul hmul,bin_add,bin_fdiv hdiv,setTg,List.set]
theorem ways_fin (n m t:Int) (S:Sto) (e':En) (S':Sto) (h1:exe F G (.for (.var 3) (.rng (.cons (.var 1) .nil)) bWays1) [some (.int n),some (.int m),some (.int 1),none] S=.ok (.nx e') S') (h2:e'[2]?=some (some (.int t))) :
  den F G dWays [.int n,.int m] S=.ok (.int t) S':=by
 simp only [den,dWays,List.length,if_true,List.map,List.replicate]
 rw [exes_nx (e:=[some (.int n),some (.int m),some (.int 1),none]) (S1:=S) (by simp only [exe,ev,R.bind_ok,setTg]; rfl)]
 rw [exes_nx (ss:=.cons (.ret (.var 2)) .nil) h1]
 rw [exes_rt (d:=.int t) (S1:=S') (by simp only [exe,ev,h2,R.bind_ok])]
noncomputable def part (row:List Int) (p a:Nat):Int:=row.getD a 0 * (C (row.length - 1 - a) (p - a):Int)
theorem C_two:∀ n m:Nat,C n m≤2 ^ n
 | n,0=>by rw [C_zero]; exact Nat.one_le_two_pow
 | 0,m + 1=>by rw [C_gt 0 (m + 1) (by omega)]; exact Nat.zero_le _
 | n + 1,m + 1=>by
  have h1:=C_two n m
  have h2:=C_two n (m + 1)
  rw [C,Nat.pow_succ]
  omega
theorem C_small {n m:Nat} (h:n≤12):C n m≤4096:=Nat.le_trans (C_two n m) (Nat.pow_le_pow_right (by decide) h)
end
end Z
end
section
namespace Z
open PySem
section
variable {F:Fn} {G:List D}
noncomputable def envR (row:D) (x:Option D):En:=[some row,none,x]
noncomputable def tupI (l:List Int):D:=.tup (l.map D.int)
end
end Z
end
section
namespace Z
open PySem
section
variable {F:Fn} {G:List D}
noncomputable def Wholes (F:Fn) (i:Nat):Prop:=∀ (d:D) (S:Sto),good S d→F i [d] S=.ok (.bl (wh d)) S
theorem allBls_map:∀ l:List Bool,allBls (l.map D.bl)=some l
 | []=>rfl
 | x :: l=>by simp only [List.map,allBls,allBls_map l,Option.map_some]
noncomputable def allWh (i0:Nat):Ex:=.blt .all (.cons (.cmr false 2 (.cons (.var 2) (.val (.var 0)) .nil .nil) (.call i0 (.cons (.var 2) .nil))) .nil)
noncomputable def dWTup (i0:Nat):Df:=⟨1,1,.cons (.ret (.and (.isi (.var 0) [.tuple]) (allWh i0))) .nil⟩
theorem all_lst {S:Sto} {l:List Bool}:bltD .all [.ref S.length] (S++[.lst (l.map D.bl)])=.ok (.bl (l.all id)) (S++[.lst (l.map D.bl)]):=by
 simp only [bltD,last_lst,Option.bind_some,allBls_map]
theorem range_map {α β:Type} [Inhabited α] (f:α→β) (xs:List α):(List.range xs.length).map (fun i=>f (xs.getD i default))=xs.map f:=by
 refine List.ext_getElem (by simp) fun i h1 h2=>?_
 have:i < xs.length:=by simpa using h2
 simp [this]
theorem ev_allWh {i0:Nat} (hw:Wholes F i0) {xs:List D} {S:Sto} (hg:∀ d∈xs,good S d) (hl:xs.length≤1000):ev F G (allWh i0) [some (.tup xs)] S=.ok (.bl (xs.all wh)) (S++[.lst ((xs.map wh).map D.bl)]):=by
 obtain ⟨e',S',h2,h3,h4⟩:=ev_cmr (F:=F) (G:=G) (t:=.var 2) (n:=2) (elt:=.call i0 (.cons (.var 2) .nil)) (env:=[some (.tup xs)]) (S:=S) (S1:=S) xs (fun i=>.bl (wh (xs.getD i default)))
  (fun i e S'=>S'=S∧∃ x,e=envR (.tup xs) x)
  (it_tup (e:=.var 0) (by simp only [ev,List.getElem?_cons_zero])) rfl (le_big hl) ⟨rfl,none,rfl⟩ (fun _ _ _ _=>rfl)
  (fun i d e S' hd hP=>by
   obtain ⟨rfl,x,rfl⟩:=hP
   have hm:d∈xs:=List.mem_of_getElem? hd
   have e:xs.getD i default=d:=by rw [List.getD_eq_getElem?_getD,hd]; rfl
   refine ⟨envR (.tup xs) (some d),S',rfl,?_,rfl,some d,rfl⟩
   rw [e]
   simp only [ev,evs,envR,List.getElem?_cons_zero,List.getElem?_cons_succ,R.bind_ok,hw d S' (hg d hm)])
 have h3':S'=S:=h3
 subst h3'
 have e1:((List.range xs.length).map fun i=>D.bl (wh (xs.getD i default)))=(xs.map wh).map D.bl:=by
  rw [range_map (fun d=>D.bl (wh d)) xs,List.map_map]; rfl
 rw [e1] at h2
 simp only [allWh,ev,evs] at h2 ⊢
 rw [h2]
 simp only [R.bind_ok]
 rw [all_lst]
 simp [Function.comp]
theorem wtup_yes {i0:Nat} (hw:Wholes F i0) {xs:List D} {S:Sto} (hg:∀ d∈xs,good S d) (hl:xs.length≤1000):den F G (dWTup i0) [.tup xs] S=.ok (.bl (xs.all wh)) (S++[.lst ((xs.map wh).map D.bl)]):=by
 have h:=ev_allWh (G:=G) hw hg hl
 have hk:kdD S (.tup xs)=some .tuple:=rfl
 simp only [den,dWTup,List.length,if_true,List.map,List.replicate,Nat.sub_self,List.append_nil]
 rw [exes_rt (d:=.bl (xs.all wh)) (S1:=S++[.lst ((xs.map wh).map D.bl)]) (by
  simp only [exe]
  rw [ev,ev]
  simp only [ev,List.getElem?_cons_zero,R.bind_ok,hk,Option.bind_some,isTs,isT,truD]
  rw [h,R.bind_ok])]
theorem isi_no {k:Kd} (h:∀ c,k≠.exc c) (hn:k≠.tuple):isTs k [.tuple]=some false:=by
 cases k <;> first | rfl | exact absurd rfl (h _) | exact absurd rfl hn
theorem wtup_no {i0:Nat} {d:D} {k:Kd} {S:Sto} (hk:kdD S d=some k) (h:∀ c,k≠.exc c) (hn:k≠.tuple):den F G (dWTup i0) [d] S=.ok (.bl false) S:=by
 have hi:=isi_no h hn
 simp only [den,dWTup,List.length,if_true,List.map,List.replicate,Nat.sub_self,List.append_nil]
 rw [exes_rt (d:=.bl false) (S1:=S) (by
  simp only [exe]
  rw [ev,ev]
  simp only [ev,List.getElem?_cons_zero,R.bind_ok,hk,Option.bind_some,hi,truD])]
noncomputable def wt:D→Bool
 | .tup xs=>xs.all wh
 | _=>false
noncomputable def WTups (F:Fn) (i:Nat):Prop:=∀ (d:D) (S:Sto),good S d→(∀ xs,d=.tup xs→(∀ x∈xs,good S x)∧xs.length≤1000)→∃ X,F i [d] S=.ok (.bl (wt d)) (S++X)
theorem wtups_of {T:List Df} {i0 i:Nat} (hf:T[i]?=some (dWTup i0)) (k:Nat) (hw:Wholes (FT T G k) i0):WTups (FT T G (k + 1)) i:=fun d S hg ht=>by
 simp only [FT,hf]
 by_cases h:∃ xs,d=.tup xs
 ·obtain ⟨xs,rfl⟩:=h
  obtain ⟨h1,h2⟩:=ht xs rfl
  exact ⟨_,wtup_yes hw h1 h2⟩
 ·obtain ⟨kd,h1,h2⟩:=hg
  have hn:kd≠.tuple:=fun z=>by
   subst z
   cases d with
   | tup xs=>exact h ⟨xs,rfl⟩
   | ref n =>
    simp only [kdD] at h1
    split at h1 <;> cases h1
   | _=>cases h1
  have e:wt d=false:=by
   cases d with
   | tup xs=>exact absurd ⟨xs,rfl⟩ h
   | _=>rfl
  refine ⟨[],?_⟩
  rw [e,List.append_nil]
  exact wtup_no h1 h2 hn
theorem wholes_of {T:List Df} {i:Nat} (hf:T[i]?=some dWhole) (k:Nat):Wholes (FT T G (k + 1)) i:=fun d S h=>by
 simp only [FT,hf]
 exact den_whole h
end
end Z
end
section
namespace Z
open PySem
noncomputable def ps (l:List Int) (k:Nat):Int:=(l.take k).sum
noncomputable def pre (l:List Int) (n:Nat):List Int:=(List.range n).map fun j=>ps l (j + 1)
section
variable {F:Fn} {G:List D}
variable {i1 i2 ih:Nat} {d e:D} {g:Int} {S S1:Sto}
theorem ne_int (i j:Int) (S:Sto):cmpR .ne (.int i) (.int j) S=.ok (.bl (!(i == j))) S:=by
 simp only [cmpR,cmpD,eqD,twoS,datD,datF,PyData.canLay0,PyData.depth,PyData.eqv]
 rfl
end
end Z
end
section
namespace Z
open PySem
section
variable {F:Fn} {G:List D}
theorem app_lst {S:Sto} {q:Nat} {xs:List D} {x:D} (h:lstAt S q=some xs) (hl:xs.length < 1000):mthD .append (.ref q) [x] S=.ok .non (S.set q (.lst (xs++[x]))):=by
 have h':lstM S q=some xs:=h
 simp only [mthD,h']
 rw [if_pos (Nat.lt_of_lt_of_le hl (by decide))]
end
end Z
end
section
namespace Z
open PySem
section
variable {F:Fn} {G:List D}
end
end Z
end
section
namespace Z
open PySem
section
variable {F:Fn} {G:List D}
theorem exe_lst {t:Tg} {e0:Ex} {b:Sts} {xs:List D} {r:Nat} {env:En} {S S1:Sto} (P:Nat→En→Sto→Prop) (h1:ev F G e0 env S=.ok (.ref r) S1) (hr:lstAt S1 r=some xs) (hk:∀ i e S',P i e S'→lstAt S' r=some xs) (h0:P 0 env S1)
  (step:∀ i d e S,xs[i]?=some d→P i e S→∃ e1 e2 S2,setTg t d e=some e1∧exes F G b e1 S=.ok (.nx e2) S2∧P (i + 1) e2 S2) :
  ∃ e' S',exe F G (.for t (.val e0) b) env S=.ok (.nx e') S'∧P xs.length e' S':=by
 obtain ⟨e',S',a,b'⟩:=floop_inv (get:=(Src.ref r).get) (t:=t) (body:=fun env S=>exes F G b env S) xs P (fun i e S' hP=>by simp only [Src.get,hk i e S' hP,Option.map_some]) step (xs.length + 1) 0 env S1 h0 (Nat.zero_le _) (by omega)
 refine ⟨e',S',?_,b'⟩
 have hs:srcD S1 (.ref r)=some (.ref r):=by simp only [srcD,hr,Option.map_some]
 simp only [exe,evit,h1,R.bind_ok,hs,Src.most,hr,Option.getD_some]
 exact a
end
end Z
end
section
namespace Z
open PySem
section
variable {F:Fn} {G:List D}
theorem eq_int (i j:Int) (S:Sto):cmpR .eq (.int i) (.int j) S=.ok (.bl (i == j)) S:=by
 simp only [cmpR,cmpD,eqD,twoS,datD,datF,PyData.canLay0,PyData.depth,PyData.eqv]
 rfl
end
end Z
end
section
namespace Z
open PySem
mutual
theorem datF_mono {look look':Nat→Option PyData} (h:∀ n p,look n=some p→look' n=some p):∀ (d:D) (p:PyData),datF look d=some p→datF look' d=some p
 | .non,p,e=>by simpa only [datF] using e
 | .bl b,p,e=>by simpa only [datF] using e
 | .int i,p,e=>by simpa only [datF] using e
 | .str x,p,e=>by simpa only [datF] using e
 | .tup xs,p,e=>by
  simp only [datF,Option.map_eq_some_iff] at e ⊢
  obtain ⟨ps,e1,e2⟩:=e
  exact ⟨ps,datFs_mono h xs ps e1,e2⟩
 | .fro _,p,e=>by simp [datF] at e
 | .fn _ _,p,e=>by simp [datF] at e
 | .ref n,p,e=>by simp only [datF] at e ⊢; exact h n p e
theorem datFs_mono {look look':Nat→Option PyData} (h:∀ n p,look n=some p→look' n=some p):∀ (ds:List D) (ps:List PyData),datFs look ds=some ps→datFs look' ds=some ps
 | [],ps,e=>by simpa only [datFs] using e
 | d :: ds,ps,e=>by
  simp only [datFs] at e ⊢
  cases e1:datF look d with
  | none=>rw [e1] at e; cases e
  | some q =>
   cases e2:datFs look ds with
   | none=>rw [e1,e2] at e; cases e
   | some qs =>
    rw [e1,e2] at e
    rw [datF_mono h d q e1,datFs_mono h ds qs e2]
    exact e
end
theorem lookK_app {S X:Sto}:∀ (k n:Nat) (p:PyData),lookK S k n=some p→lookK (S++X) k n=some p
 | 0,n,p,e=>by cases e
 | k + 1,n,p,e=>by
  simp only [lookK] at e ⊢
  cases q:S[n]? with
  | none=>rw [q] at e; cases e
  | some o =>
   rw [List.getElem?_append_left (List.getElem?_eq_some_iff.mp q).1,q]
   rw [q] at e
   cases o with
   | lst xs =>
    simp only [Option.map_eq_some_iff] at e ⊢
    obtain ⟨ps,e1,e2⟩:=e
    exact ⟨ps,datFs_mono (lookK_app k) xs ps e1,e2⟩
   | dct kvs=>cases kvs <;> exact e
   | set _=>cases e
   | exc _=>cases e
structure Shw (S:Sto) (ds:List D) (ps:List PyData):Prop where
 dat:datFs (lookK S 3) ds=some ps
 shw:PyData.showableAll ps=true
 nod:dctEs ps=true
 dep:(PyData.list ps).depth≤60
 siz:szD (.list ps)≤big
theorem Shw.app {S X:Sto} {ds:List D} {ps:List PyData} (h:Shw S ds ps):Shw (S++X) ds ps:=⟨datFs_mono (lookK_app 3) ds ps h.dat,h.shw,h.nod,h.dep,h.siz⟩
theorem Shw.rep {S:Sto} {ds:List D} {ps:List PyData} (h:Shw S ds ps):repD (S++[.lst ds]) (.ref S.length)=some (PyData.list ps).shown:=by
 have e:datD (S++[.lst ds]) (.ref S.length)=some (.list ps):=by
  have hd:=(h.app (X:=[.lst ds])).dat
  have hg:(S++[O.lst ds])[S.length]?=some (.lst ds):=by rw [List.getElem?_append_right (Nat.le_refl _),Nat.sub_self]; rfl
  show lookK (S++[.lst ds]) 4 S.length=_
  rw [lookK,hg]
  dsimp only
  rw [hd,Option.map_some]
 have h1:(PyData.list ps).showable=true:=by simpa only [PyData.showable] using h.shw
 have h2:dctE (PyData.list ps)=true:=by simpa only [dctE] using h.nod
 simp only [repD,e,h1,h2,decide_eq_true h.dep,decide_eq_true h.siz]
 rfl
section
variable {F:Fn} {G:List D}
theorem eq_str (t:Str) (S:Sto):cmpR .eq (.str t) (.str t) S=.ok (.bl true) S:=by
 simp only [cmpR,cmpD,eqD,twoS,beq_self_eq_true]
theorem idx_two {S:Sto} {a b:D} {w:Nat} (hw:w < 2):idxR (.ref S.length) (.int w) (S++[.lst [a,b]])=.ok ([a,b].getD w .non) (S++[.lst [a,b]]):=by
 simp only [idxR,idxD,seqD,last_lst,Option.bind_some]
 match w,hw with
 | 0,_=>rfl
 | 1,_=>rfl
end
end Z
end
section
namespace Z
open PySem
noncomputable def Sm (S:Sto) (dep siz:Nat) (d:D):Prop:=∃ p,datF (lookK S 3) d=some p∧p.showable=true∧dctE p=true∧p.depth≤dep∧szD p≤siz
theorem Sm.mono {S:Sto} {a b a' b':Nat} {d:D} (h:Sm S a b d) (h1:a≤a') (h2:b≤b'):Sm S a' b' d:=by
 obtain ⟨p,q1,q2,q3,q4,q5⟩:=h
 exact ⟨p,q1,q2,q3,Nat.le_trans q4 h1,Nat.le_trans q5 h2⟩
theorem Sm.app {S X:Sto} {a b:Nat} {d:D} (h:Sm S a b d):Sm (S++X) a b d:=by
 obtain ⟨p,q1,q⟩:=h
 exact ⟨p,datF_mono (lookK_app 3) d p q1,q⟩
theorem sms {look:Nat→Option PyData} {a b:Nat}:∀ ds:List D,(∀ d∈ds,∃ p,datF look d=some p∧p.showable=true∧dctE p=true∧p.depth≤a∧szD p≤b) →
  ∃ ps,datFs look ds=some ps∧PyData.showableAll ps=true∧dctEs ps=true∧PyData.depthAll ps≤a∧szDs ps≤ds.length * (b + 2)
 | [],_=>⟨[],by simp only [datFs],by simp only [PyData.showableAll],by simp only [dctEs],by simp only [PyData.depthAll]; exact Nat.zero_le _,by simp only [szDs]; exact Nat.zero_le _⟩
 | d :: ds,h=>by
  obtain ⟨p,p1,p2,p3,p4,p5⟩:=h d (by simp)
  obtain ⟨ps,q1,q2,q3,q4,q5⟩:=sms ds fun x hx=>h x (by simp [hx])
  refine ⟨p :: ps,by simp only [datFs,p1,q1],by simp only [PyData.showableAll,p2,q2,Bool.and_self],by simp only [dctEs,p3,q3,Bool.and_self],by simp only [PyData.depthAll]; exact Nat.max_le.mpr ⟨p4,q4⟩,?_⟩
  simp only [szDs,List.length_cons,Nat.succ_mul]
  omega
theorem sm_tup {S:Sto} {a b:Nat} {ds:List D} (h:∀ d∈ds,Sm S a b d):Sm S (a + 1) (ds.length * (b + 2) + 3) (.tup ds):=by
 obtain ⟨ps,q1,q2,q3,q4,q5⟩:=sms ds h
 refine ⟨.tuple ps,by simp only [datF,q1,Option.map_some],by simp only [PyData.showable,q2],by simp only [dctE,q3],by simp only [PyData.depth]; omega,by simp only [szD]; omega⟩
theorem big_ge {n:Nat} (h:n≤900000):n≤big:=Nat.le_trans h (by decide)
end Z
end
section
namespace Z
open PySem
noncomputable def Ext (p:Nat) (S S':Sto):Prop:=∀ n o,n≠p→S[n]?=some o→S'[n]?=some o
section
variable {p:Nat} {S S' S1 S2 X:Sto}
theorem Ext.refl:Ext p S S:=fun _ _ _ h=>h
theorem Ext.trans (a:Ext p S S1) (b:Ext p S1 S2):Ext p S S2:=fun n o h e=>b n o h (a n o h e)
theorem Ext.app:Ext p S (S++X):=fun n o _ e=>by rw [List.getElem?_append_left (List.getElem?_eq_some_iff.mp e).1]; exact e
theorem Ext.set {o:O}:Ext p S (S.set p o):=fun n o h e=>by rw [List.getElem?_set_ne (Ne.symm h)]; exact e
theorem at_lst {q:Nat} {xs:List D} (h:lstAt S q=some xs):S[q]?=some (.lst xs):=by
 unfold lstAt at h
 split at h
 ·rename_i ys hh; cases h; exact hh
 ·cases h
theorem lst_at {q:Nat} {xs:List D} (h:S[q]?=some (.lst xs)):lstAt S q=some xs:=by unfold lstAt; rw [h]
theorem Ext.lst {q:Nat} {xs:List D} (x:Ext p S S') (hq:q≠p) (h:lstAt S q=some xs):lstAt S' q=some xs:=lst_at (x q _ hq (at_lst h))
end
noncomputable def FSm (dep siz:Nat) (d:D):Prop:=∃ p,(∀ look,datF look d=some p)∧p.showable=true∧dctE p=true∧p.depth≤dep∧szD p≤siz
theorem FSm.mono {a b a' b':Nat} {d:D} (h:FSm a b d) (h1:a≤a') (h2:b≤b'):FSm a' b' d:=by
 obtain ⟨p,q1,q2,q3,q4,q5⟩:=h
 exact ⟨p,q1,q2,q3,Nat.le_trans q4 h1,Nat.le_trans q5 h2⟩
theorem FSm.sm {a b:Nat} {d:D} (h:FSm a b d) (S:Sto):Sm S a b d:=by
 obtain ⟨p,q1,q⟩:=h
 exact ⟨p,q1 _,q⟩
theorem FSm.good {a b:Nat} {d:D} (h:FSm a b d) (S:Sto):good S d:=by
 obtain ⟨p,q1,q⟩:=h
 refine good_flat S d (fun n z=>?_) (fun f m z=>?_)
 ·subst z; have:=q1 (fun _=>none); cases this
 ·subst z; have:=q1 (fun _=>none); cases this
theorem fs_int {i:Int} (h:i.natAbs.log2 < 1920):FSm 0 1921 (.int i):=⟨.int i,fun _=>by simp only [datF],by simp only [PyData.showable,decide_eq_true h],by simp only [dctE],by simp only [PyData.depth]; exact Nat.le_refl _,by simp only [szD]; exact Nat.le_refl _⟩
structure Thing (S:Sto) (d:D):Prop where
 sm:Sm S 20 400000 d
 gd:good S d
 el:∀ xs,d=.tup xs→(∀ x∈xs,good S x)∧xs.length≤30
noncomputable def Kp (p:Nat) (S:Sto) (d:D):Prop:=∀ S',Ext p S S'→Thing S' d
noncomputable def El (p:Nat) (S:Sto) (d:D):Prop:=∀ S',Ext p S S'→Sm S' 5 30000 d∧good S' d
section
variable {p:Nat} {S S':Sto} {d:D}
theorem Kp.mono (h:Kp p S d) (x:Ext p S S'):Kp p S' d:=fun S2 y=>h S2 (x.trans y)
theorem Kp.now (h:Kp p S d):Thing S d:=h S .refl
theorem El.mono (h:El p S d) (x:Ext p S S'):El p S' d:=fun S2 y=>h S2 (x.trans y)
theorem el_flat {a b:Nat} (h:FSm a b d) (ha:a≤5) (hb:b≤30000):El p S d:=fun S' _=>⟨(h.sm S').mono ha hb,h.good S'⟩
theorem kp_tup {xs:List D} (h:∀ x∈xs,El p S x) (hl:xs.length≤13):Kp p S (.tup xs):=fun S' x=>by
 refine ⟨(sm_tup (a:=5) (b:=30000) fun y hy=>(h y hy S' x).1).mono (by omega) (by omega),good_flat S' _ (fun _ z=>nomatch z) (fun _ _ z=>nomatch z),fun ys z=>?_⟩
 injection z with z
 subst z
 exact ⟨fun y hy=>(h y hy S' x).2,by omega⟩
end
theorem Thing.app {S X:Sto} {d:D} (h:Thing S d):Thing (S++X) d:=⟨h.sm.app,good_app h.gd,fun xs z=>⟨fun x hx=>good_app ((h.el xs z).1 x hx),(h.el xs z).2⟩⟩
noncomputable def Nums (l:List Int):Prop:=∀ x∈l,x.natAbs.log2 < 1920
theorem el_int {p:Nat} {S:Sto} {i:Int} (h:i.natAbs.log2 < 1920):El p S (.int i):=el_flat (fs_int h) (by omega) (by omega)
theorem kp_row {p:Nat} {S:Sto} {l:List Int} (h:Nums l) (hl:l.length≤13):Kp p S (tupI l):=kp_tup (fun x hx=>by
 obtain ⟨i,hi,rfl⟩:=List.mem_map.mp hx
 exact el_int (h i hi)) (by rw [List.length_map]; exact hl)
end Z
end
section
namespace Z
open PySem
theorem wh_ints:∀ {xs:List D},xs.all wh=true→∃ l:List Int,xs=l.map D.int
 | [],_=>⟨[],rfl⟩
 | x :: xs,h=>by
  simp only [List.all_cons,Bool.and_eq_true] at h
  obtain ⟨l,rfl⟩:=wh_ints h.2
  cases x with
  | int i=>exact ⟨i :: l,rfl⟩
  | _=>cases h.1
theorem all_wh (l:List Int):(l.map D.int).all wh=true:=by
 rw [List.all_eq_true]
 intro d hd
 obtain ⟨i,_,rfl⟩:=List.mem_map.mp hd
 rfl
section
variable {F:Fn} {G:List D}
end
end Z
end
section
namespace Z
open PySem
noncomputable def Bd (B:Nat) (l:List Int):Prop:=∀ x∈l,x.natAbs≤B
theorem Bd.mono {B C:Nat} {l:List Int} (h:Bd B l) (hc:B≤C):Bd C l:=fun x hx=>Nat.le_trans (h x hx) hc
noncomputable def vsq (v m:Int):Nat→Int
 | 0=>v
 | n + 1=>vsq v m n / m
noncomputable def drawn (v far:Int) (n:Nat):List Int:=(List.range n).map fun i=>vsq v (2 * far + 1) i % (2 * far + 1) - far
section
variable {F:Fn} {G:List D}
end
end Z
end
section
namespace Z
open PySem
section
variable {F:Fn} {G:List D}
theorem asg_v {e:Ex} {i:Nat} {env:En} {S S':Sto} {d:D} (h:ev F G e env S=.ok d S'):exe F G (.asg (.var i) e) env S=.ok (.nx (env.set i (some d))) S':=by
 simp only [exe,h,R.bind_ok,setTg]
theorem d2:divOk 2=true:=by decide +kernel
end
end Z
end
section
namespace Z
open PySem
section
variable {F:Fn} {G:List D}
end
end Z
end
section
namespace Z
open PySem
section
variable {F:Fn} {G:List D}
end
theorem lookK_up {S:Sto}:∀ (k n:Nat) (p:PyData),lookK S k n=some p→lookK S (k + 1) n=some p
 | 0,n,p,e=>by cases e
 | k + 1,n,p,e=>by
  rw [lookK] at e ⊢
  cases q:S[n]? with
  | none=>rw [q] at e; cases e
  | some o =>
   rw [q] at e
   cases o with
   | lst xs =>
    simp only [Option.map_eq_some_iff] at e ⊢
    obtain ⟨ps,e1,e2⟩:=e
    exact ⟨ps,datFs_mono (lookK_up k) xs ps e1,e2⟩
   | dct kvs=>cases kvs <;> exact e
   | set _=>cases e
   | exc _=>cases e
theorem Sm.rep {S:Sto} {d:D} (h:Sm S 20 400000 d):∃ t,∀ Y,repD (S++Y) d=some t:=by
 obtain ⟨p,q1,q2,q3,q4,q5⟩:=h
 refine ⟨p.shown,fun Y=>?_⟩
 have e:datD (S++Y) d=some p:=datF_mono (fun n q z=>lookK_up 3 n q (lookK_app 3 n q z)) d p q1
 have c1:p.depth≤60:=by omega
 have c2:szD p≤big:=big_ge (by omega)
 simp only [repD,e,q2,q3,decide_eq_true c1,decide_eq_true c2,Bool.and_self,if_true]
end Z
end
section
namespace Z
theorem C_mono {k:Nat}:∀ {m n:Nat},m≤n→C m k≤C n k:=by
 have st:∀ n,C n k≤C (n + 1) k:=fun n=>by
  cases k with
  | zero=>rw [C_zero,C_zero]; exact Nat.le_refl _
  | succ k=>simp only [C]; omega
 intro m n h
 induction n with
 | zero =>
  have:m=0:=by omega
  subst this; exact Nat.le_refl _
 | succ n ih =>
  by_cases e:m=n + 1
  ·subst e; exact Nat.le_refl _
  ·exact Nat.le_trans (ih (by omega)) (st n)
theorem C_self:∀ k:Nat,C k k=1
 | 0=>rfl
 | k + 1=>by simp only [C]; rw [C_self k,C_gt k (k + 1) (by omega)]
theorem C_one (n:Nat):C n 1=n:=by
 induction n with
 | zero=>rfl
 | succ n ih =>
  show C n 0 + C n 1=n + 1
  rw [C_zero,ih]; omega
theorem C_ge (k:Nat):∀ j:Nat,j + 1≤C (k + 1 + j) (k + 1)
 | 0=>by rw [Nat.add_zero,C_self]; exact Nat.le_refl _
 | j + 1=>by
  have ih:=C_ge k j
  have h1:1≤C (k + 1 + j) k:=by
   have:=C_mono (k:=k) (show k≤k + 1 + j by omega)
   rw [C_self] at this
   exact this
  have e:k + 1 + (j + 1)=(k + 1 + j) + 1:=by omega
  rw [e]
  simp only [C]
  omega
theorem C_pos {m k:Nat} (h:k≤m):1≤C m k:=by have:=C_mono (k:=k) h; rw [C_self] at this; exact this
noncomputable def Most (n k m:Nat):Prop:=k≤m∧C m k≤n∧n < C (m + 1) k
theorem Most.uniq {n k m m':Nat} (h:Most n k m) (h':Most n k m'):m=m':=by
 obtain ⟨_,a1,a2⟩:=h
 obtain ⟨_,b1,b2⟩:=h'
 by_cases e:m < m'
 ·have:=C_mono (k:=k) (show m + 1≤m' by omega); omega
 ·by_cases e':m' < m
  ·have:=C_mono (k:=k) (show m' + 1≤m by omega); omega
  ·omega
noncomputable def Wr:Nat→Nat→List Int→Prop
 | 0,n,l=>n=0∧l=[]
 | k + 1,n,l=>(n=0∧l=[])∨∃ (m:Nat) (r:List Int),l=(m:Int) :: r∧0 < n∧Most n (k + 1) m∧Wr k (n - C m (k + 1)) r
theorem Wr.nil {k n:Nat} (h:Wr k n []):n=0:=by
 cases k with
 | zero=>exact h.1
 | succ k=>rcases h with h | ⟨m,r,e,_⟩; exact h.1; cases e
theorem Wr.zero {k:Nat} {l:List Int} (h:Wr k 0 l):l=[]:=by
 cases k with
 | zero=>exact h.2
 | succ k=>rcases h with h | ⟨m,r,e,h,_⟩; exact h.2; omega
theorem Wr.uniq:∀ {k n:Nat} {l l':List Int},Wr k n l→Wr k n l'→l=l'
 | 0,n,l,l',h,h'=>by rw [h.2,h'.2]
 | k + 1,n,l,l',h,h'=>by
  rcases h with ⟨h0,rfl⟩ | ⟨m,r,rfl,h0,h1,h2⟩
  ·rcases h' with ⟨_,rfl⟩ | ⟨m',r',rfl,h0',_⟩
   ·rfl
   ·omega
  ·rcases h' with ⟨h0',rfl⟩ | ⟨m',r',rfl,h0',h1',h2'⟩
   ·omega
   ·have e:=h1.uniq h1'
    subst e
    rw [h2.uniq h2']
noncomputable def wok:Nat→Option Int→List Int→Bool
 | _,_,[]=>true
 | 0,_,_ :: _=>false
 | k + 1,pv,x :: r=>decide (((k + 1:Nat):Int)≤x) && (pv.all fun y=>decide (x < y)) && wok k (some x) r
noncomputable def wtot:Nat→List Int→Int
 | _,[]=>0
 | 0,_ :: _=>0
 | k + 1,x :: r=>C x.toNat (k + 1) + wtot k r
theorem wtot_nn:∀ (k:Nat) (l:List Int),0≤wtot k l
 | _,[]=>by cases ‹Nat› <;> exact Int.le_refl _
 | 0,_ :: _=>Int.le_refl _
 | k + 1,x :: r=>by have:=wtot_nn k r; simp only [wtot]; omega
theorem wtot_lt:∀ (k:Nat) (pv:Option Int) (x:Int) (r:List Int),wok k pv (x :: r)=true→wtot k (x :: r) < C (x.toNat + 1) k
 | 0,_,_,_,h=>by cases h
 | k + 1,pv,x,r,h=>by
  simp only [wok,Bool.and_eq_true,decide_eq_true_eq] at h
  obtain ⟨⟨h1,_⟩,h2⟩:=h
  simp only [wtot,C]
  cases r with
  | nil =>
   have:wtot k []=0:=by cases k <;> rfl
   rw [this]
   have:=C_pos (k:=k) (m:=x.toNat) (by omega)
   omega
  | cons y r =>
   have ih:=wtot_lt k (some x) y r h2
   have hy:y < x∧(k:Int)≤y:=by
    cases k with
    | zero=>cases h2
    | succ k =>
     simp only [wok,Bool.and_eq_true,decide_eq_true_eq,Option.all_some] at h2
     exact ⟨h2.1.2,h2.1.1⟩
   have:=C_mono (k:=k) (show y.toNat + 1≤x.toNat by omega)
   omega
theorem wr_ok:∀ {k n:Nat} {l:List Int} {pv:Option Int},Wr k n l→(∀ y,pv=some y→(n:Int) < C y.toNat k∧0≤y)→l.length≤k∧wok k pv l=true∧wtot k l=n
 | 0,n,l,pv,h,_=>by
  obtain ⟨rfl,rfl⟩:=h
  exact ⟨Nat.le_refl _,rfl,rfl⟩
 | k + 1,n,l,pv,h,hp=>by
  rcases h with ⟨rfl,rfl⟩ | ⟨m,r,rfl,h0,⟨m1,m2,m3⟩,h2⟩
  ·exact ⟨Nat.zero_le _,rfl,rfl⟩
  ·have hc:n < C m k + C m (k + 1):=m3
   obtain ⟨q1,q2,q3⟩:=wr_ok (pv:=some (m:Int)) h2 fun y e=>by
    cases e
    refine ⟨?_,by omega⟩
    rw [Int.toNat_natCast]
    omega
   refine ⟨by simp; omega,?_,?_⟩
   ·simp only [wok,Bool.and_eq_true,decide_eq_true_eq]
    refine ⟨⟨by omega,?_⟩,q2⟩
    cases pv with
    | none=>rfl
    | some y =>
     obtain ⟨p1,p2⟩:=hp y rfl
     simp only [Option.all_some,decide_eq_true_eq]
     by_cases e:(m:Int) < y
     ·exact e
     ·have:=C_mono (k:=k + 1) (show y.toNat≤m by omega)
      omega
   ·simp only [wtot,Int.toNat_natCast,q3]
    omega
theorem ok_wr:∀ {k n:Nat} {l:List Int} {pv:Option Int},l.length≤k→wok k pv l=true→wtot k l=n→Wr k n l
 | 0,n,l,pv,h1,h2,h3=>by
  cases l with
  | nil=>exact ⟨by have:wtot 0 []=0:=rfl; omega,rfl⟩
  | cons _ _=>simp at h1
 | k + 1,n,l,pv,h1,h2,h3=>by
  cases l with
  | nil=>exact .inl ⟨by have:wtot (k + 1) []=0:=rfl; omega,rfl⟩
  | cons x r =>
   have hlt:=wtot_lt (k + 1) pv x r h2
   simp only [wok,Bool.and_eq_true,decide_eq_true_eq] at h2
   obtain ⟨⟨a1,_⟩,a2⟩:=h2
   have h3':=h3
   simp only [wtot] at h3'
   have hnn:=wtot_nn k r
   have hx:x=(x.toNat:Int):=by omega
   have hp:=C_pos (k:=k + 1) (m:=x.toNat) (by omega)
   refine .inr ⟨x.toNat,r,by rw [← hx],by omega,⟨by omega,by omega,by omega⟩,?_⟩
   exact ok_wr (pv:=some x) (by simpa using h1) a2 (by omega)
theorem wr_iff {k n:Nat} {w l:List Int} (hw:Wr k n w):(l.length≤k∧wok k none l=true∧wtot k l=n) ↔ l=w:=by
 constructor
 ·intro ⟨h1,h2,h3⟩
  exact (ok_wr h1 h2 h3).uniq hw
 ·intro e
  subst e
  exact wr_ok hw fun y e=>by cases e
theorem wr_bd:∀ {k n:Nat} {l:List Int},Wr k n l→∀ x∈l,0≤x∧x≤(n:Int) + k
 | 0,n,l,h,x,hx=>by rw [h.2] at hx; cases hx
 | k + 1,n,l,h,x,hx=>by
  rcases h with ⟨_,rfl⟩ | ⟨m,r,rfl,h0,⟨m1,m2,m3⟩,h2⟩
  ·cases hx
  ·have hm:m≤n + k:=by
    obtain ⟨j,rfl⟩:∃ j,m=k + 1 + j:=⟨m - (k + 1),by omega⟩
    have:=C_ge k j
    omega
   rcases List.mem_cons.mp hx with rfl | hx
   ·omega
   ·have:=wr_bd h2 x hx
    omega
theorem wr_len {k n:Nat} {l:List Int} (h:Wr k n l):l.length≤k:=(wr_ok (pv:=none) h fun y e=>by cases e).1
end Z
end
section
namespace Z
open PySem
section
variable {F:Fn} {G:List D}
theorem ways_stepB (n m i:Nat) (S:Sto) (hn:n≤100000000000000) (hi:i < 12):exes F G bWays1 [some (.int n),some (.int m),some (.int (C n i)),some (.int i)] S=.ok (.nx [some (.int n),some (.int m),some (.int (C n (i + 1))),some (.int i)]) S:=by
 have h:=ways_gen (F:=F) (G:=G) n m (C n i) i S (mul_okR (by omega) (by omega)) (div13 (by omega))
 rw [C_div] at h
 exact h
theorem den_waysB (n m:Nat) (S:Sto) (hn:n≤100000000000000) (hm:m≤12):den F G dWays [.int n,.int m] S=.ok (.int (C n m)) S:=by
 obtain ⟨xs,hx,hl⟩:=rng1_some (m:=(m:Int)) (by omega) (lt20 (by omega))
 obtain ⟨e',S',h1,rfl,x,rfl⟩:=exe_rng (F:=F) (G:=G) (t:=.var 3) (es:=.cons (.var 1) .nil) (b:=bWays1) (env:=[some (.int n),some (.int m),some (.int 1),none]) (S:=S) (S1:=S) (ds:=[.int m]) (xs:=xs)
  (fun i e S'=>S'=S∧∃ x,e=[some (.int n),some (.int m),some (.int (C n i)),x]) (by simp only [evs,ev,List.getElem?_cons_zero,List.getElem?_cons_succ,R.bind_ok]) hx ⟨rfl,none,by rw [C_zero]; rfl⟩ (fun i d e S' hd hP=>by
   obtain ⟨rfl,x,rfl⟩:=hP
   obtain ⟨rfl,hi⟩:=rng1_get hx hd
   exact ⟨_,_,S',rfl,ways_stepB n m i S' hn (by omega),rfl,_,rfl⟩)
 have e:xs.length=m:=by omega
 rw [e] at h1
 exact ways_fin n m (C n m) S' _ S' h1 rfl
noncomputable def mostT:Ex:=.cmp .gt (.bin .sub (.var 3) (.var 2)) (.cst (.int 1))
noncomputable def mostB (iw:Nat):Sts:=.cons (.asg (.var 4) (.bin .fdiv (.bin .add (.var 2) (.var 3)) (.cst (.int 2)))) (.cons (.ite (.cmp .le (.call iw (.cons (.var 4) (.cons (.var 1) .nil))) (.var 0)) (.cons (.asg (.var 2) (.var 4)) .nil) (.cons (.asg (.var 3) (.var 4)) .nil)) .nil)
noncomputable def dMost (iw:Nat):Df:=⟨2,5,.cons (.asg (.var 2) (.var 1)) (.cons (.asg (.var 3) (.bin .add (.var 1) (.var 0))) (.cons (.whl mostT (mostB iw)) (.cons (.ret (.var 2)) .nil)))⟩
noncomputable def WaysF (F:Fn) (iw:Nat):Prop:=∀ (n m:Nat) (S:Sto),n≤10000000000000→m≤12→F iw [.int n,.int m] S=.ok (.int (C n m)) S
theorem waysF_of {T:List Df} {iw:Nat} (h:T[iw]?=some dWays) (k:Nat):WaysF (FT T G (k + 1)) iw:=fun n m S hn hm=>by
 simp only [FT,h]
 exact den_waysB n m S (by omega) hm
noncomputable def mostTst (F:Fn) (G:List D):En→Sto→R Bool:=fun env S=>(ev F G mostT env S).bind fun x S=>match truD S x with
 | some r=>.ok r S
 | none=>.bad
theorem most_tst {n k lo hi:Int} {x:Option D} {S:Sto}:mostTst F G [some (.int n),some (.int k),some (.int lo),some (.int hi),x] S=.ok (decide (1 < hi - lo)) S:=by
 unfold mostTst
 simp only [mostT,ev,List.getElem?_cons_zero,List.getElem?_cons_succ,R.bind_ok,bin_sub,cmpR,cmpD,truD]
theorem most_body {iw:Nat} (hw:WaysF F iw) {n k lo hi:Nat} {x:Option D} {S:Sto} (hk:k≤12) (h:(lo + hi) / 2≤10000000000000) :
  exes F G (mostB iw) [some (.int n),some (.int k),some (.int lo),some (.int hi),x] S=.ok (.nx (if C ((lo + hi) / 2) k≤n then [some (.int n),some (.int k),some (.int ((lo + hi) / 2:Nat)),some (.int hi),some (.int ((lo + hi) / 2:Nat))] else [some (.int n),some (.int k),some (.int lo),some (.int ((lo + hi) / 2:Nat)),some (.int ((lo + hi) / 2:Nat))])) S:=by
 have e:((lo:Int) + hi) / 2=((lo + hi) / 2:Nat):=by omega
 have s1:=asg_v (i:=4) (F:=F) (G:=G) (e:=.bin .fdiv (.bin .add (.var 2) (.var 3)) (.cst (.int 2))) (env:=[some (.int n),some (.int k),some (.int lo),some (.int hi),x]) (S:=S) (d:=.int ((lo + hi) / 2:Nat)) (S':=S) (by
  simp only [ev,List.getElem?_cons_zero,List.getElem?_cons_succ,R.bind_ok,bin_add,bin_fdiv d2,e])
 generalize (lo + hi) / 2=m at s1 h
 have hc:=hw m k S h hk
 have ht:ev F G (.cmp .le (.call iw (.cons (.var 4) (.cons (.var 1) .nil))) (.var 0)) [some (.int n),some (.int k),some (.int lo),some (.int hi),some (.int m)] S=.ok (.bl (decide ((C m k:Int)≤n))) S:=by
  simp only [ev,evs,List.getElem?_cons_zero,List.getElem?_cons_succ,R.bind_ok,hc,cmpR,cmpD]
 unfold mostB
 rw [exes_nx s1]
 by_cases q:C m k≤n
 ·have hd:decide ((C m k:Int)≤n)=true:=decide_eq_true (by omega)
  rw [hd] at ht
  rw [if_pos q]
  rw [exes_nx (e:=[some (.int n),some (.int k),some (.int m),some (.int hi),some (.int m)]) (S1:=S) (by
   show exe F G _ [some (.int n),some (.int k),some (.int lo),some (.int hi),some (.int m)] S=_
   rw [exe,ht,R.bind_ok]
   simp only [truD,exes,exe,ev,List.getElem?_cons_zero,List.getElem?_cons_succ,R.bind_ok,setTg,List.set])]
  rw [exes]
 ·have hd:decide ((C m k:Int)≤n)=false:=decide_eq_false (by omega)
  rw [hd] at ht
  rw [if_neg q]
  rw [exes_nx (e:=[some (.int n),some (.int k),some (.int lo),some (.int m),some (.int m)]) (S1:=S) (by
   show exe F G _ [some (.int n),some (.int k),some (.int lo),some (.int hi),some (.int m)] S=_
   rw [exe,ht,R.bind_ok]
   simp only [truD,exes,exe,ev,List.getElem?_cons_zero,List.getElem?_cons_succ,R.bind_ok,setTg,List.set])]
  rw [exes]
theorem most_loop {iw:Nat} (hw:WaysF F iw) {n k:Nat} {S:Sto} (hk:k≤12):∀ (j fuel lo hi:Nat) (x:Option D),hi - lo≤2 ^ j→j < fuel→lo < hi→k≤lo→hi≤5000000000000→C lo k≤n→n < C hi k →
  ∃ m h x',wloop (mostTst F G) (fun env S=>exes F G (mostB iw) env S) fuel [some (.int n),some (.int k),some (.int lo),some (.int hi),x] S=.ok (.nx [some (.int n),some (.int k),some (.int (m:Nat)),h,x']) S∧Most n k m
 | j,0,lo,hi,x,h1,h2,h3,h4,h5,h6,h7=>by omega
 | j,fuel + 1,lo,hi,x,h1,h2,h3,h4,h5,h6,h7=>by
  by_cases q:hi=lo + 1
  ·subst q
   have ht:=most_tst (F:=F) (G:=G) (n:=n) (k:=k) (lo:=lo) (hi:=(lo + 1:Nat)) (x:=x) (S:=S)
   have hd:decide ((1:Int) < ((lo + 1:Nat):Int) - lo)=false:=decide_eq_false (by omega)
   rw [hd] at ht
   refine ⟨lo,some (.int (lo + 1:Nat)),x,?_,h4,h6,h7⟩
   simp only [wloop,ht]
  ·have ht:=most_tst (F:=F) (G:=G) (n:=n) (k:=k) (lo:=lo) (hi:=hi) (x:=x) (S:=S)
   have hd:decide ((1:Int) < (hi:Int) - lo)=true:=decide_eq_true (by omega)
   rw [hd] at ht
   have hb:=most_body (G:=G) hw (n:=n) (k:=k) (lo:=lo) (hi:=hi) (x:=x) (S:=S) hk (by omega)
   obtain ⟨j,rfl⟩:∃ i,j=i + 1:=by
    cases j with
    | zero=>simp at h1; omega
    | succ j=>exact ⟨j,rfl⟩
   rw [Nat.pow_succ] at h1
   by_cases c:C ((lo + hi) / 2) k≤n
   ·rw [if_pos c] at hb
    obtain ⟨m,h,x',r1,r2⟩:=most_loop hw hk j fuel ((lo + hi) / 2) hi (some (.int ((lo + hi) / 2:Nat))) (by omega) (by omega) (by omega) (by omega) h5 c h7
    exact ⟨m,h,x',by simp only [wloop,ht,hb]; exact r1,r2⟩
   ·rw [if_neg c] at hb
    obtain ⟨m,h,x',r1,r2⟩:=most_loop hw hk j fuel lo ((lo + hi) / 2) (some (.int ((lo + hi) / 2:Nat))) (by omega) (by omega) (by omega) h4 (by omega) h6 (by omega)
    exact ⟨m,h,x',by simp only [wloop,ht,hb]; exact r1,r2⟩
theorem den_most {iw:Nat} (hw:WaysF F iw) {n k:Nat} {S:Sto} (hk1:1≤k) (hk:k≤12) (hn1:1≤n) (hn:n≤1000000000000):∃ m,den F G (dMost iw) [.int n,.int k] S=.ok (.int (m:Nat)) S∧Most n k m:=by
 have hlt:n < C (k + n) k:=by
  obtain ⟨k',rfl⟩:∃ k',k=k' + 1:=⟨k - 1,by omega⟩
  have:=C_ge k' n
  omega
 obtain ⟨m,h,x',r1,r2⟩:=most_loop (G:=G) hw (n:=n) (k:=k) (S:=S) hk 41 100000 k (k + n) none (by have h41:(2:Nat) ^ 41=2199023255552:=(by decide); omega) (by omega) (by omega) (Nat.le_refl _) (by omega) (by rw [C_self]; exact hn1) hlt
 refine ⟨m,?_,r2⟩
 have s1:=asg_v (i:=2) (F:=F) (G:=G) (e:=.var 1) (env:=[some (.int n),some (.int k),none,none,none]) (S:=S) (d:=.int k) (S':=S) (by simp only [ev,List.getElem?_cons_zero,List.getElem?_cons_succ])
 have s2:=asg_v (i:=3) (F:=F) (G:=G) (e:=.bin .add (.var 1) (.var 0)) (env:=[some (.int n),some (.int k),some (.int k),none,none]) (S:=S) (d:=.int ((k + n:Nat):Int)) (S':=S) (by
  simp only [ev,List.getElem?_cons_zero,List.getElem?_cons_succ,R.bind_ok,bin_add]
  rw [Int.natCast_add])
 have s3:exe F G (.whl mostT (mostB iw)) [some (.int n),some (.int k),some (.int k),some (.int ((k + n:Nat):Int)),none] S=.ok (.nx [some (.int n),some (.int k),some (.int m),h,x']) S:=by
  rw [exe]
  exact r1
 have s4:exe F G (.ret (.var 2)) [some (.int n),some (.int k),some (.int m),h,x'] S=.ok (.rt (.int m)) S:=by
  simp only [exe,ev,List.getElem?_cons_zero,List.getElem?_cons_succ,R.bind_ok]
 simp only [den,dMost,List.length,if_true,List.map,List.replicate]
 have q:exes F G (.cons (.asg (.var 2) (.var 1)) (.cons (.asg (.var 3) (.bin .add (.var 1) (.var 0))) (.cons (.whl mostT (mostB iw)) (.cons (.ret (.var 2)) .nil)))) ([some (.int n),some (.int k)]++[none,none,none]) S=.ok (.rt (.int m)) S :=
  (exes_nx s1).trans ((exes_nx s2).trans ((exes_nx s3).trans (exes_rt s4)))
 rw [q]
noncomputable def writB (im iw:Nat):Sts:=.cons (.ite (.cmp .eq (.var 3) (.cst (.int 0))) (.cons .brk .nil) .nil) (.cons (.asg (.var 5) (.call im (.cons (.var 3) (.cons (.var 4) .nil)))) (.cons (.expr (.mth .append (.var 2) (.cons (.var 5) .nil))) (.cons (.aug 3 .sub (.call iw (.cons (.var 5) (.cons (.var 4) .nil)))) .nil)))
noncomputable def dWrit (ic im iw:Nat):Df:=⟨2,6,.cons (.expr (.call ic (.cons (.var 0) (.cons (.var 1) .nil)))) (.cons (.asg (.var 2) (.lst .nil)) (.cons (.asg (.var 3) (.var 0)) (.cons (.for (.var 4) (.rng (.cons (.var 1) (.cons (.cst (.int 0)) (.cons (.neg (.cst (.int 1))) .nil)))) (writB im iw)) (.cons (.ret (.blt .tuple (.cons (.var 2) .nil))) .nil))))⟩
noncomputable def MostF (F:Fn) (im:Nat):Prop:=∀ (n k:Nat) (S:Sto),1≤k→k≤12→1≤n→n≤1000000000000→∃ m,F im [.int n,.int k] S=.ok (.int (m:Nat)) S∧Most n k m
theorem mostF_of {T:List Df} {im iw:Nat} (h:T[im]?=some (dMost iw)) {k:Nat} (hw:WaysF (FT T G k) iw):MostF (FT T G (k + 1)) im:=fun n k' S h1 h2 h3 h4=>by
 obtain ⟨m,r1,r2⟩:=den_most (G:=G) hw (S:=S) h1 h2 h3 h4
 exact ⟨m,by simp only [FT,h]; exact r1,r2⟩
theorem writ_zero {im iw:Nat} {n s k:Int} {q:Nat} {x5:Option D} {S:Sto}:exes F G (writB im iw) [some (.int n),some (.int s),some (.ref q),some (.int 0),some (.int k),x5] S=.ok (.brk [some (.int n),some (.int s),some (.ref q),some (.int 0),some (.int k),x5]) S:=by
 have h:exe F G (.ite (.cmp .eq (.var 3) (.cst (.int 0))) (.cons .brk .nil) .nil) [some (.int n),some (.int s),some (.ref q),some (.int 0),some (.int k),x5] S=.ok (.brk [some (.int n),some (.int s),some (.ref q),some (.int 0),some (.int k),x5]) S:=by
  rw [exe]
  simp only [ev,List.getElem?_cons_zero,List.getElem?_cons_succ,R.bind_ok,eq_int,beq_self_eq_true,truD,exes,exe]
 unfold writB
 simp only [exes,h]
theorem writ_one {im iw:Nat} (hw:WaysF F iw) (hm:MostF F im) {n s:Int} {r k q:Nat} {x5:Option D} {S:Sto} {acc:List D} (hk1:1≤k) (hk:k≤12) (hr1:1≤r) (hr:r≤1000000000000) (hq:lstAt S q=some acc) (hl:acc.length < 100) :
  ∃ m,Most r k m∧exes F G (writB im iw) [some (.int n),some (.int s),some (.ref q),some (.int r),some (.int k),x5] S=.ok (.nx [some (.int n),some (.int s),some (.ref q),some (.int ((r - C m k:Nat):Int)),some (.int k),some (.int m)]) (S.set q (.lst (acc++[.int m]))):=by
 obtain ⟨m,h1,h2⟩:=hm r k S hk1 hk hr1 hr
 refine ⟨m,h2,?_⟩
 have hm2:m≤10000000000000:=by
  obtain ⟨a1,a2,a3⟩:=h2
  obtain ⟨k',rfl⟩:∃ k',k=k' + 1:=⟨k - 1,by omega⟩
  obtain ⟨j,rfl⟩:∃ j,m=k' + 1 + j:=⟨m - (k' + 1),by omega⟩
  have:=C_ge k' j
  omega
 have hb:((r:Int) == 0)=false:=by simp; omega
 have s0:exe F G (.ite (.cmp .eq (.var 3) (.cst (.int 0))) (.cons .brk .nil) .nil) [some (.int n),some (.int s),some (.ref q),some (.int r),some (.int k),x5] S=.ok (.nx [some (.int n),some (.int s),some (.ref q),some (.int r),some (.int k),x5]) S:=by
  rw [exe]
  simp only [ev,List.getElem?_cons_zero,List.getElem?_cons_succ,R.bind_ok,eq_int,hb,truD,exes]
 have s1:=asg_v (i:=5) (F:=F) (G:=G) (e:=.call im (.cons (.var 3) (.cons (.var 4) .nil))) (env:=[some (.int n),some (.int s),some (.ref q),some (.int r),some (.int k),x5]) (S:=S) (d:=.int m) (S':=S) (by simp only [ev,evs,List.getElem?_cons_zero,List.getElem?_cons_succ,R.bind_ok,h1])
 have hap:=app_lst (x:=.int m) hq (by omega)
 have hrc:rcvOk .append (.ref q) S=true:=by simp only [rcvOk,hq,Option.isSome_some]
 have s2:exe F G (.expr (.mth .append (.var 2) (.cons (.var 5) .nil))) [some (.int n),some (.int s),some (.ref q),some (.int r),some (.int k),some (.int m)] S=.ok (.nx [some (.int n),some (.int s),some (.ref q),some (.int r),some (.int k),some (.int m)]) (S.set q (.lst (acc++[.int m]))):=by
  simp only [exe,ev,evs,List.getElem?_cons_zero,List.getElem?_cons_succ,R.bind_ok,hrc,if_true,hap]
 have hwy:=hw m k (S.set q (.lst (acc++[.int m]))) hm2 hk
 have s3:exe F G (.aug 3 .sub (.call iw (.cons (.var 5) (.cons (.var 4) .nil)))) [some (.int n),some (.int s),some (.ref q),some (.int r),some (.int k),some (.int m)] (S.set q (.lst (acc++[.int m])))=.ok (.nx [some (.int n),some (.int s),some (.ref q),some (.int ((r - C m k:Nat):Int)),some (.int k),some (.int m)]) (S.set q (.lst (acc++[.int m]))):=by
  have e:(r:Int) - (C m k:Int)=((r - C m k:Nat):Int):=by have:=h2.2.1; omega
  simp only [exe,ev,evs,List.getElem?_cons_zero,List.getElem?_cons_succ,R.bind_ok,hwy,augD,e,List.set]
 unfold writB
 exact (exes_nx s0).trans ((exes_nx s1).trans ((exes_nx s2).trans ((exes_nx s3).trans (by simp only [exes]))))
theorem writ_loop {im iw:Nat} (hw:WaysF F iw) (hm:MostF F im) {n:Int} {s q:Nat} {xs:List D} (hx:xs=(List.range s).map fun (j:Nat)=>D.int ((s:Int) - j)) (hs:s≤12):∀ (k fuel i r:Nat) (x4 x5:Option D) (S:Sto) (acc:List D),i + k=s→k < fuel→r≤1000000000000→lstAt S q=some acc→acc.length≤50 + i→(k=0→r=0) →
  ∃ w e,floop (Src.con xs).get (.var 4) (fun env S=>exes F G (writB im iw) env S) fuel i [some (.int n),some (.int s),some (.ref q),some (.int r),x4,x5] S=.ok (.nx e) (S.set q (.lst (acc++w.map D.int)))∧Wr k r w∧e[2]?=some (some (.ref q))
 | k,0,i,r,x4,x5,S,acc,h1,h2,h3,h4,h5,h6=>by omega
 | 0,fuel + 1,i,r,x4,x5,S,acc,h1,h2,h3,h4,h5,h6=>by
  have hi:xs[i]?=none:=by rw [hx]; simp; omega
  refine ⟨[],[some (.int n),some (.int s),some (.ref q),some (.int r),x4,x5],?_,⟨h6 rfl,rfl⟩,rfl⟩
  have e:S.set q (.lst (acc++([]:List Int).map D.int))=S:=by
   obtain ⟨hlt,hv⟩:=List.getElem?_eq_some_iff.mp (at_lst h4)
   rw [List.map_nil,List.append_nil,← hv]
   exact List.set_getElem_self hlt
  rw [e]
  simp only [floop,Src.get,hi]
 | k + 1,fuel + 1,i,r,x4,x5,S,acc,h1,h2,h3,h4,h5,h6=>by
  have hi:xs[i]?=some (.int ((k + 1:Nat):Int)):=by
   rw [hx,List.getElem?_map,List.getElem?_range (by omega),Option.map_some]
   congr 2
   omega
  by_cases hr:r=0
  ·subst hr
   refine ⟨[],[some (.int n),some (.int s),some (.ref q),some (.int 0),some (.int ((k + 1:Nat):Int)),x5],?_,.inl ⟨rfl,rfl⟩,rfl⟩
   have e:S.set q (.lst (acc++([]:List Int).map D.int))=S:=by
    obtain ⟨hlt,hv⟩:=List.getElem?_eq_some_iff.mp (at_lst h4)
    rw [List.map_nil,List.append_nil,← hv]
    exact List.set_getElem_self hlt
   rw [e]
   have hz:=writ_zero (F:=F) (G:=G) (im:=im) (iw:=iw) (n:=n) (s:=s) (k:=((k + 1:Nat):Int)) (q:=q) (x5:=x5) (S:=S)
   simp only [floop,Src.get,hi,setTg,List.set]
   have hz':exes F G (writB im iw) [some (.int n),some (.int s),some (.ref q),some (.int ((0:Nat):Int)),some (.int ((k + 1:Nat):Int)),x5] S=_:=hz
   rw [hz']
  ·obtain ⟨m,m1,m2⟩:=writ_one (G:=G) hw hm (n:=n) (s:=s) (r:=r) (k:=k + 1) (q:=q) (x5:=x5) (S:=S) (acc:=acc) (by omega) (by omega) (by omega) h3 h4 (by omega)
   have hrest:k=0→r - C m (k + 1)=0:=fun z=>by
    subst z
    obtain ⟨a1,a2,a3⟩:=m1
    rw [Nat.zero_add,C_one] at a2 ⊢
    rw [Nat.zero_add,C_one] at a3
    omega
   obtain ⟨w,e,r1,r2,r3⟩:=writ_loop hw hm hx hs k fuel (i + 1) (r - C m (k + 1)) (some (.int ((k + 1:Nat):Int))) (some (.int m)) (S.set q (.lst (acc++[.int m]))) (acc++[.int m]) (by omega) (by omega) (by omega) (set_lst (lst_lt h4)) (by simp; omega) hrest
   refine ⟨(m:Int) :: w,e,?_,.inr ⟨m,w,rfl,by omega,m1,r2⟩,r3⟩
   rw [List.set_set,List.append_assoc] at r1
   simp only [floop,Src.get,hi,setTg,List.set]
   rw [m2]
   exact r1
theorem rng_down {s:Nat} (hs:s≤12):rngD [.int s,.int 0,.int (-1)]=some ((List.range s).map fun (j:Nat)=>D.int ((s:Int) - j)):=by
 have h:∀ j:Fin 13,(-(1048576:Int) < (j.val:Int)∧(j.val:Int) < 1048576):=by decide
 obtain ⟨h1,h2⟩:=h ⟨s,by omega⟩
 unfold rngD
 dsimp only
 rw [if_pos ⟨rfl,h1,h2,by decide,by decide⟩,show ((s:Int) - 0).toNat=s by omega]
theorem writ_fin {ic im iw:Nat} {n s:D} {w:List Int} {xs:List D} {e:En} {S:Sto} (hc:F ic [n,s] S=.ok .non S) (hr:rngD [s,.int 0,.int (-1)]=some xs)
  (r1:floop (Src.con xs).get (.var 4) (fun env S=>exes F G (writB im iw) env S) (xs.length + 1) 0 [some n,some s,some (.ref S.length),some n,none,none] (S++[.lst []])=.ok (.nx e) (S++[.lst (w.map D.int)])) (r3:e[2]?=some (some (.ref S.length))) :
  den F G (dWrit ic im iw) [n,s] S=.ok (tupI w) (S++[.lst (w.map D.int)]):=by
 have s0:exe F G (.expr (.call ic (.cons (.var 0) (.cons (.var 1) .nil)))) [some n,some s,none,none,none,none] S=.ok (.nx [some n,some s,none,none,none,none]) S:=by
  simp only [exe,ev,evs,List.getElem?_cons_zero,List.getElem?_cons_succ,R.bind_ok,hc]
 have s1:=asg_v (i:=2) (F:=F) (G:=G) (e:=.lst .nil) (env:=[some n,some s,none,none,none,none]) (S:=S) (d:=.ref S.length) (S':=S++[.lst []]) (by
  simp only [ev,evs,R.bind_ok]
  exact if_pos (by decide))
 have s2:=asg_v (i:=3) (F:=F) (G:=G) (e:=.var 0) (env:=[some n,some s,some (.ref S.length),none,none,none]) (S:=S++[.lst []]) (d:=n) (S':=S++[.lst []]) (by simp only [ev,List.getElem?_cons_zero])
 have s3:exe F G (.for (.var 4) (.rng (.cons (.var 1) (.cons (.cst (.int 0)) (.cons (.neg (.cst (.int 1))) .nil)))) (writB im iw)) [some n,some s,some (.ref S.length),some n,none,none] (S++[.lst []])=.ok (.nx e) (S++[.lst (w.map D.int)]):=by
  simp only [exe,evit,evs,ev,List.getElem?_cons_zero,List.getElem?_cons_succ,R.bind_ok,hr,Src.most]
  exact r1
 have s4:exe F G (.ret (.blt .tuple (.cons (.var 2) .nil))) e (S++[.lst (w.map D.int)])=.ok (.rt (tupI w)) (S++[.lst (w.map D.int)]):=by
  simp only [exe,ev,evs,r3,R.bind_ok,bltD,seqD,last_lst,tupI]
 simp only [den,dWrit,List.length,if_true,List.map,List.replicate]
 have q:exes F G (.cons (.expr (.call ic (.cons (.var 0) (.cons (.var 1) .nil)))) (.cons (.asg (.var 2) (.lst .nil)) (.cons (.asg (.var 3) (.var 0)) (.cons (.for (.var 4) (.rng (.cons (.var 1) (.cons (.cst (.int 0)) (.cons (.neg (.cst (.int 1))) .nil)))) (writB im iw)) (.cons (.ret (.blt .tuple (.cons (.var 2) .nil))) .nil))))) ([some n,some s]++[none,none,none,none]) S=.ok (.rt (tupI w)) (S++[.lst (w.map D.int)]) :=
  (exes_nx s0).trans ((exes_nx s1).trans ((exes_nx s2).trans ((exes_nx s3).trans (exes_rt s4))))
 rw [q]
theorem den_writ {ic im iw n s:Nat} {S:Sto} (hw:WaysF F iw) (hm:MostF F im) (hc:F ic [.int n,.int s] S=.ok .non S) (hs1:1≤s) (hs:s≤12) (hn:n≤1000000000000):∃ w,den F G (dWrit ic im iw) [.int n,.int s] S=.ok (tupI w) (S++[.lst (w.map D.int)])∧Wr s n w:=by
 obtain ⟨w,e,r1,r2,r3⟩:=writ_loop (G:=G) hw hm (n:=n) (s:=s) (q:=S.length) rfl hs s (s + 1) 0 n none none (S++[.lst []]) [] (Nat.zero_add s) (Nat.lt_succ_self s) hn last_lst (Nat.zero_le _) (fun z=>absurd z (by omega))
 have e2:(S++[O.lst []]).set S.length (.lst ([]++w.map D.int))=S++[.lst (w.map D.int)]:=by
  rw [List.set_append_right _ _ (Nat.le_refl _),Nat.sub_self,List.nil_append]
  rfl
 rw [e2] at r1
 refine ⟨w,writ_fin hc (rng_down hs) ?_ r3,r2⟩
 rw [List.length_map,List.length_range]
 exact r1
end
end Z
end
section
set_option exponentiation.threshold 3000
namespace Z
open PySem
theorem log_le {n k:Nat} (h:n < 2 ^ k) (hk:0 < k):n.log2 < k:=by
 by_cases h0:n=0
 ·subst h0; exact hk
 ·exact (Nat.log2_lt h0).mpr h
section
variable {F:Fn} {G:List D}
end
end Z
end
section
set_option exponentiation.threshold 3000
namespace Z
open PySem
noncomputable def intsD:List D→List Int:=List.map fun | .int i=>i | _=>0
theorem intsD_map (l:List Int):intsD (l.map D.int)=l:=by simp [intsD,Function.comp_def]
noncomputable def lisw (d:D) (n s:Nat):Bool:=match d with
 | .tup xs=>decide (xs.length≤s) && xs.all wh && (wok s none (intsD xs) && decide (wtot s (intsD xs)=n))
 | _=>false
section
variable {F:Fn} {G:List D}
theorem enm_at {l:List Int} {S:Sto} {i:Nat}:(Src.enm (.con (l.map D.int))).get S i=some ((l[i]?).map fun x=>D.tup [.int i,.int x]):=by
 simp only [Src.get,List.getElem?_map]
 cases l[i]? <;> rfl
end
end Z
end
section
set_option exponentiation.threshold 3000
namespace Z
open PySem
section
variable {F:Fn} {G:List D}
theorem lisw_row {l w:List Int} {n s:Nat} (hw:Wr s n w):lisw (tupI l) n s=decide (l=w):=by
 have h:=wr_iff (l:=l) hw
 unfold tupI
 simp only [lisw,intsD_map,List.length_map,all_wh,Bool.and_true]
 by_cases e:l=w
 ·obtain ⟨h1,h2,h3⟩:=h.mpr e
  rw [decide_eq_true h1,h2,decide_eq_true h3,decide_eq_true e]; rfl
 ·rw [decide_eq_false e]
  by_cases h1:l.length≤s
  ·by_cases h2:wok s none l=true
   ·by_cases h3:wtot s l=n
    ·exact absurd (h.mp ⟨h1,h2,h3⟩) e
    ·rw [decide_eq_false h3,Bool.and_false,Bool.and_false]
   ·rw [Bool.not_eq_true] at h2
    rw [h2,Bool.false_and,Bool.and_false]
  ·rw [decide_eq_false h1,Bool.false_and]
theorem lisw_nowt {d:D} {n s:Nat} (h:wt d=false):lisw d n s=false:=by
 cases d with
 | tup xs =>
  simp only [wt] at h
  simp only [lisw,h,Bool.and_false,Bool.false_and]
 | _=>rfl
theorem wt_row {d:D} (h:wt d=true):∃ l,d=tupI l:=by
 cases d with
 | tup xs=>obtain ⟨l,rfl⟩:=wh_ints h; exact ⟨l,rfl⟩
 | _=>cases h
end
end Z
end
section
set_option exponentiation.threshold 3000
namespace Z
open PySem
theorem eqv_lists:∀ l w:List Int,PyData.eqvAll (l.map PyData.int) (w.map PyData.int)=decide (l=w)
 | [],[]=>by simp [PyData.eqvAll]
 | [],_ :: _=>by simp [PyData.eqvAll]
 | _ :: _,[]=>by simp [PyData.eqvAll]
 | x :: l,y :: w=>by
  have ih:=eqv_lists l w
  simp only [List.map,PyData.eqvAll,PyData.eqv,ih]
  by_cases e:x=y
  ·subst e; simp
  ·simp [e]
theorem datI (look:Nat→Option PyData):∀ l:List Int,datFs look (l.map D.int)=some (l.map PyData.int)
 | []=>by simp only [List.map,datFs]
 | x :: l=>by simp only [List.map,datFs,datF,datI look l]
theorem layI:∀ l:List Int,PyData.canLayAll0 (l.map PyData.int)=true
 | []=>by simp only [List.map,PyData.canLayAll0]
 | x :: l=>by simp only [List.map,PyData.canLayAll0,PyData.canLay0,layI l,Bool.and_self]
theorem depI:∀ l:List Int,PyData.depthAll (l.map PyData.int)=0
 | []=>by simp only [List.map,PyData.depthAll]
 | x :: l=>by simp only [List.map,PyData.depthAll,PyData.depth,depI l,Nat.max_self]
theorem eq_rows (l w:List Int) (S:Sto):cmpR .eq (tupI l) (tupI w) S=.ok (.bl (decide (l=w))) S:=by
 have hd:∀ l:List Int,datD S (tupI l)=some (.tuple (l.map PyData.int)):=fun l=>by simp only [datD,tupI,datF,datI,Option.map_some]
 have h1:∀ l:List Int,(PyData.tuple (l.map PyData.int)).canLay0=true:=fun l=>by simp only [PyData.canLay0,layI]
 have h2:(PyData.tuple (l.map PyData.int)).depth≤60:=by simp only [PyData.depth,depI]; omega
 have h3:PyData.eqv (.tuple (l.map PyData.int)) (.tuple (w.map PyData.int))=decide (l=w):=by simp only [PyData.eqv,eqv_lists]
 have hs:twoS (tupI l) (tupI w)=none:=rfl
 have key:eqD S (tupI l) (tupI w)=some (decide (l=w)):=by
  simp only [eqD,hs,hd,h1,h3,decide_eq_true h2,Bool.and_self,if_true]
 simp only [cmpR,cmpD,key]
theorem ne_rows (l w:List Int) (S:Sto):cmpR .ne (tupI l) (tupI w) S=.ok (.bl (!decide (l=w))) S:=by
 have h:=eq_rows l w S
 simp only [cmpR,cmpD] at h ⊢
 cases e:eqD S (tupI l) (tupI w) with
 | none=>rw [e] at h; cases h
 | some b =>
  rw [e] at h
  simp only [R.ok.injEq,D.bl.injEq,and_true] at h
  subst h
  rfl
section
variable {F:Fn} {G:List D}
noncomputable def dChkW (i1:Nat) (a b:Str):Df:=⟨2,2,.cons (.ite (.not (.call i1 (.cons (.var 0) (.cons (.cst (.int 0)) (.cons (.glb 0) .nil))))) (.cons (.rse 8 (.cst (.str a))) .nil) .nil) (.cons (.ite (.not (.call i1 (.cons (.var 1) (.cons (.cst (.int 1)) (.cons (.glb 1) .nil))))) (.cons (.rse 8 (.cst (.str b))) .nil) .nil) .nil)⟩
variable {i1:Nat} {d e:D} {x y:Str} {g1 g2:Int} {S:Sto}
theorem chkW_ok (h0:G[0]?=some (.int g1)) (h1:G[1]?=some (.int g2)) (h:F i1 [d,.int 0,.int g1] S=.ok (.bl true) S) (h':F i1 [e,.int 1,.int g2] S=.ok (.bl true) S):den F G (dChkW i1 x y) [d,e] S=.ok .non S:=by
 simp only [den,dChkW,List.length,if_true,List.map,List.replicate,Nat.sub_self,List.append_nil]
 rw [exes_nx (e:=[some d,some e]) (S1:=S) (if_pass (by simp only [ev,evs,List.getElem?_cons_zero,R.bind_ok,h0,h,truD]; rfl))]
 rw [exes_nx (e:=[some d,some e]) (S1:=S) (if_pass (by simp only [ev,evs,List.getElem?_cons_zero,List.getElem?_cons_succ,R.bind_ok,h1,h',truD]; rfl))]
 simp only [exes]
noncomputable def dIsW (ir it:Nat):Df:=⟨3,4,.cons (.asg (.var 3) (.call ir (.cons (.var 1) (.cons (.var 2) .nil)))) (.cons (.ret (.and (.call it (.cons (.var 0) .nil)) (.cmp .eq (.var 0) (.var 3)))) .nil)⟩
theorem isW_ok {ir it n s:Nat} {c:D} {w:List Int} {S1 S2:Sto} (hw:Wr s n w) (h:F ir [.int n,.int s] S=.ok (tupI w) S1) (ht:F it [c] S1=.ok (.bl (wt c)) S2):den F G (dIsW ir it) [c,.int n,.int s] S=.ok (.bl (lisw c n s)) S2:=by
 simp only [den,dIsW,List.length,if_true,List.map,List.replicate,List.cons_append,List.nil_append]
 rw [exes_nx (e:=[some c,some (.int n),some (.int s),some (tupI w)]) (S1:=S1) (by simp only [exe,ev,evs,List.getElem?_cons_zero,List.getElem?_cons_succ,R.bind_ok,h,setTg,List.set])]
 rw [exes_rt (d:=.bl (lisw c n s)) (S1:=S2) (by
  cases q:wt c with
  | false =>
   rw [q] at ht
   rw [lisw_nowt q]
   simp only [exe,ev,evs,List.getElem?_cons_zero,List.getElem?_cons_succ,R.bind_ok,ht,truD]
  | true =>
   rw [q] at ht
   obtain ⟨l,rfl⟩:=wt_row q
   rw [lisw_row hw]
   simp only [exe,ev,evs,List.getElem?_cons_zero,List.getElem?_cons_succ,R.bind_ok,ht,truD,eq_rows])]
end
end Z
end
section
namespace Z
open PySem
noncomputable def gtot (g:Nat→Nat→Nat):Nat→List Int→Nat
 | _,[]=>0
 | 0,_ :: _=>0
 | k + 1,x :: r=>g x.toNat (k + 1) + gtot g k r
structure Up (g:Nat→Nat→Nat):Prop where
 mono:∀ {m n:Nat} (k:Nat),m≤n→g m k≤g n k
 step:∀ a k:Nat,g a (k + 2) + g a (k + 1)≤g (a + 1) (k + 2)
noncomputable def gU (a k:Nat):Nat:=C a (k + 1)
noncomputable def gL (a k:Nat):Nat:=C a (k - 1)
noncomputable def gB (a k:Nat):Nat:=C (a + 1) (k + 1)
theorem C_succ (n k:Nat):C (n + 1) (k + 1)=C n k + C n (k + 1):=by simp only [C]
theorem up_U:Up gU:=⟨fun k h=>C_mono h,fun a k=>by show C a (k + 3) + C a (k + 2)≤C (a + 1) (k + 3); rw [C_succ a (k + 2)]; exact Nat.le_of_eq (Nat.add_comm _ _)⟩
theorem up_L:Up gL:=⟨fun k h=>C_mono h,fun a k=>by
 simp only [gL]
 have e1:k + 2 - 1=k + 1:=by omega
 have e2:k + 1 - 1=k:=by omega
 rw [e1,e2,C_succ a k]; omega⟩
theorem up_B:Up gB:=⟨fun k h=>C_mono (by omega),fun a k=>by show C (a + 1) (k + 3) + C (a + 1) (k + 2)≤C (a + 2) (k + 3); rw [C_succ (a + 1) (k + 2)]; exact Nat.le_of_eq (Nat.add_comm _ _)⟩
theorem wok_head {k:Nat} {pv:Option Int} {x:Int} {r:List Int} (h:wok (k + 1) pv (x :: r)=true):((k + 1:Nat):Int)≤x∧(∀ y,pv=some y→x < y)∧wok k (some x) r=true:=by
 simp only [wok,Bool.and_eq_true,decide_eq_true_eq] at h
 refine ⟨h.1.1,fun y e=>?_,h.2⟩
 subst e
 simpa using h.1.2
theorem gt_le {g:Nat→Nat→Nat} (u:Up g):∀ {k:Nat} {pv:Option Int} {x:Int} {r:List Int},wok k pv (x :: r)=true→gtot g k (x :: r)≤g (x.toNat + 1) k
 | 0,_,_,_,h=>by cases h
 | k + 1,pv,x,r,h=>by
  obtain ⟨h1,_,h3⟩:=wok_head h
  cases r with
  | nil =>
   have:=u.mono (k + 1) (Nat.le_succ x.toNat)
   have e:gtot g k []=0:=by cases k <;> rfl
   simp only [gtot,e]; exact this
  | cons y r' =>
   cases k with
   | zero=>cases h3
   | succ k =>
    have ih:=gt_le u h3
    obtain ⟨_,h4,_⟩:=wok_head h3
    have h5:=h4 x rfl
    have h6:=u.mono (k + 1) (show y.toNat + 1≤x.toNat by omega)
    have h7:g x.toNat (k + 1 + 1) + g x.toNat (k + 1)≤g (x.toNat + 1) (k + 1 + 1):=u.step x.toNat k
    simp only [gtot] at ih ⊢
    omega
theorem g_mono {g:Nat→Nat→Nat} (u:Up g):∀ {k:Nat} {pv pv':Option Int} {l l':List Int},wok k pv l=true→wok k pv' l'=true→wtot k l≤wtot k l'→gtot g k l≤gtot g k l'
 | k,_,_,[],_,_,_,_=>by
  have e:gtot g k []=0:=by cases k <;> rfl
  rw [e]; exact Nat.zero_le _
 | 0,_,_,_ :: _,_,h,_,_=>by cases h
 | k + 1,pv,pv',x :: r,[],h,h',hl=>by
  exfalso
  obtain ⟨h1,_,_⟩:=wok_head h
  have:=C_pos (m:=x.toNat) (k:=k + 1) (by omega)
  have h2:=wtot_nn k r
  simp only [wtot] at hl
  omega
 | k + 1,pv,pv',x :: r,x' :: r',h,h',hl=>by
  obtain ⟨h1,_,h3⟩:=wok_head h
  obtain ⟨h1',_,h3'⟩:=wok_head h'
  rcases Nat.lt_trichotomy x.toNat x'.toNat with c | c | c
  ·have q:=gt_le u h
   have q2:=u.mono (k + 1) (show x.toNat + 1≤x'.toNat by omega)
   have q3:gtot g (k + 1) (x' :: r')=g x'.toNat (k + 1) + gtot g k r':=rfl
   omega
  ·have hl2:wtot k r≤wtot k r':=by
    simp only [wtot,c] at hl; omega
   have ih:=g_mono u h3 h3' hl2
   simp only [gtot,c]
   omega
  ·exfalso
   have q:=wtot_lt (k + 1) pv' x' r' h'
   have q2:=C_mono (k:=k + 1) (show x'.toNat + 1≤x.toNat by omega)
   have q3:=wtot_nn k r
   simp only [wtot] at hl q
   omega
theorem Wr.wok {k n:Nat} {l:List Int} (h:Wr k n l):l.length≤k∧Z.wok k none l=true∧wtot k l=n:=wr_ok (pv:=none) h fun y e=>by cases e
theorem wr_mono {g:Nat→Nat→Nat} (u:Up g) {k n n':Nat} {l l':List Int} (h:Wr k n l) (h':Wr k n' l') (hn:n≤n'):gtot g k l≤gtot g k l':=by
 obtain ⟨_,a2,a3⟩:=h.wok
 obtain ⟨_,b2,b3⟩:=h'.wok
 exact g_mono u a2 b2 (by omega)
theorem gtot_le {g g':Nat→Nat→Nat} (h:∀ a k,g a k≤g' a k):∀ (k:Nat) (l:List Int),gtot g k l≤gtot g' k l
 | k,[]=>by cases k <;> exact Nat.le_refl _
 | 0,_ :: _=>Nat.le_refl _
 | k + 1,x :: r=>by have:=gtot_le h k r; have:=h x.toNat (k + 1); simp only [gtot]; omega
theorem U_le_B {k:Nat} {l:List Int}:gtot gU k l≤gtot gB k l:=gtot_le (fun a k=>C_mono (Nat.le_succ a)) k l
theorem wr_one {s m:Nat} (hs:1≤s) (hm:s≤m):Wr s (C m s) [(m:Int)]:=by
 obtain ⟨k,rfl⟩:∃ k,s=k + 1:=⟨s - 1,by omega⟩
 have e:wtot k []=0:=by cases k <;> rfl
 have e2:Z.wok k (some (m:Int)) []=true:=by cases k <;> rfl
 refine ok_wr (pv:=none) (by simp) ?_ ?_
 ·simp only [Z.wok,e2,Option.all_none,Bool.and_true,decide_eq_true_eq]; omega
 ·simp only [wtot,e,Int.toNat_natCast,Int.add_zero]
theorem gtot_one (g:Nat→Nat→Nat) {s:Nat} (hs:1≤s) (m:Nat):gtot g s [(m:Int)]=g m s:=by
 obtain ⟨k,rfl⟩:∃ k,s=k + 1:=⟨s - 1,by omega⟩
 have e:gtot g k []=0:=by cases k <;> rfl
 simp only [gtot,e,Int.toNat_natCast,Nat.add_zero]
theorem U_nil:∀ {k:Nat} {pv:Option Int} {x:Int} {r:List Int},wok k pv (x :: r)=true→x=(k:Int)→gtot gU k (x :: r)=0
 | 0,_,_,_,h,_=>by cases h
 | k + 1,pv,x,r,h,e=>by
  obtain ⟨_,_,h3⟩:=wok_head h
  have e1:gU x.toNat (k + 1)=0:=by
   subst e
   simp only [gU,Int.toNat_natCast]
   exact C_gt _ _ (by omega)
  have e2:gtot gU k r=0:=by
   cases r with
   | nil=>cases k <;> rfl
   | cons y r' =>
    cases k with
    | zero=>cases h3
    | succ k =>
     obtain ⟨a1,a2,_⟩:=wok_head h3
     have:=a2 x rfl
     exact U_nil h3 (by omega)
  simp only [gtot,e1,e2]
noncomputable def tr:Nat→List Int→List Int
 | _,[]=>[]
 | 0,_ :: _=>[]
 | k + 1,x :: r=>if x=((k + 1:Nat):Int) then [] else x :: tr k r
theorem tr_ok:∀ {k:Nat} {pv:Option Int} {l:List Int},wok k pv l=true→l.length≤k→(tr k l).length≤k + 1∧wok (k + 1) pv (tr k l)=true∧wtot (k + 1) (tr k l)=gtot gU k l∧(gtot gL (k + 1) (tr k l):Int)≤wtot k l
 | k,pv,[],_,_=>by
  have e1:tr k []=[]:=by cases k <;> rfl
  have e2:gtot gU k []=0:=by cases k <;> rfl
  have e3:wtot k []=0:=by cases k <;> rfl
  rw [e1,e2,e3]
  exact ⟨Nat.zero_le _,rfl,rfl,Int.le_refl _⟩
 | 0,_,_ :: _,h,_=>by cases h
 | k + 1,pv,x :: r,h,hl=>by
  have hh:=wok_head h
  by_cases e:x=((k + 1:Nat):Int)
  ·have e1:=U_nil h e
   have e2:=wtot_nn (k + 1) (x :: r)
   simp only [tr,if_pos e]
   rw [e1]
   refine ⟨Nat.zero_le _,rfl,rfl,?_⟩
   have:gtot gL (k + 2) []=0:=rfl
   rw [this]; exact e2
  ·obtain ⟨h1,h2,h3⟩:=hh
   obtain ⟨i1,i2,i3,i4⟩:=tr_ok h3 (by simp only [List.length_cons] at hl; omega)
   simp only [tr,if_neg e]
   refine ⟨by simp only [List.length_cons]; omega,?_,?_,?_⟩
   ·simp only [wok,i2,Bool.and_true,Bool.and_eq_true,decide_eq_true_eq]
    refine ⟨by omega,?_⟩
    cases pv with
    | none=>rfl
    | some y=>simpa using h2 y rfl
   ·simp only [wtot,gtot,i3,gU]
    omega
   ·have e9:k + 1 + 1 - 1=k + 1:=by omega
    simp only [wtot,gtot,gL,e9] at i4 ⊢
    omega
theorem low_up {k n:Nat} {l w:List Int} (h:Wr k n l) (hw:Wr (k + 1) (gtot gU k l) w):gtot gL (k + 1) w≤n:=by
 obtain ⟨a1,a2,a3⟩:=h.wok
 obtain ⟨b1,b2,b3,b4⟩:=tr_ok a2 a1
 have e:tr k l=w:=(wr_iff hw).mp ⟨b1,b2,b3⟩
 rw [e] at b4
 omega
noncomputable def tr2:Nat→List Int→List Int
 | k,[]=>[((k + 1:Nat):Int)]
 | 0,_ :: _=>[]
 | k + 1,x :: r=>if x=((k + 1:Nat):Int) then [((k + 2:Nat):Int)] else x :: tr2 k r
theorem wok_lone {k:Nat} {pv:Option Int} {m:Nat} (hm:k + 1≤m) (hp:∀ y,pv=some y→(m:Int) < y):wok (k + 1) pv [(m:Int)]=true:=by
 have e2:Z.wok k (some (m:Int)) []=true:=by cases k <;> rfl
 simp only [wok,e2,Bool.and_true,Bool.and_eq_true,decide_eq_true_eq]
 refine ⟨by omega,?_⟩
 cases pv with
 | none=>rfl
 | some y=>simpa using hp y rfl
theorem wtot_lone (k m:Nat):wtot (k + 1) [(m:Int)]=C m (k + 1):=by
 have e:wtot k []=0:=by cases k <;> rfl
 simp only [wtot,e,Int.toNat_natCast,Int.add_zero]
theorem C_last:∀ k:Nat,C (k + 1) k=k + 1
 | 0=>rfl
 | k + 1=>by rw [C_succ,C_last k,C_self]
theorem tr2_ok:∀ {k:Nat} {pv:Option Int} {l:List Int},wok k pv l=true→l.length≤k→(∀ y,pv=some y→((k + 1:Nat):Int) < y)→(tr2 k l).length≤k + 1∧wok (k + 1) pv (tr2 k l)=true∧wtot (k + 1) (tr2 k l)=gtot gU k l + 1∧wtot k l < (gtot gL (k + 1) (tr2 k l):Int)
 | k,pv,[],_,_,hp=>by
  have e1:tr2 k []=[((k + 1:Nat):Int)]:=by cases k <;> rfl
  have e2:gtot gU k []=0:=by cases k <;> rfl
  have e3:wtot k []=0:=by cases k <;> rfl
  rw [e1,e2,e3,wtot_lone,C_self,gtot_one gL (by omega)]
  have e4:gL (k + 1) (k + 1)=k + 1:=by simp only [gL,Nat.add_sub_cancel]; exact C_last k
  rw [e4]
  exact ⟨by simp,wok_lone (Nat.le_refl _) hp,by omega,by omega⟩
 | 0,_,_ :: _,h,_,_=>by cases h
 | k + 1,pv,x :: r,h,hl,hp=>by
  obtain ⟨h1,h2,h3⟩:=wok_head h
  by_cases e:x=((k + 1:Nat):Int)
  ·have e1:=U_nil h e
   have e2:=wtot_lt (k + 1) pv x r h
   simp only [tr2,if_pos e]
   rw [e1,wtot_lone,C_self,gtot_one gL (by omega)]
   refine ⟨by simp,wok_lone (Nat.le_refl _) hp,by omega,?_⟩
   have e3:x.toNat + 1=k + 1 + 1:=by omega
   rw [e3] at e2
   simp only [gL,Nat.add_sub_cancel]
   exact e2
  ·obtain ⟨i1,i2,i3,i4⟩:=tr2_ok h3 (by simp only [List.length_cons] at hl; omega) (fun y ey=>by cases ey; omega)
   simp only [tr2,if_neg e]
   refine ⟨by simp only [List.length_cons]; omega,?_,?_,?_⟩
   ·simp only [wok,i2,Bool.and_true,Bool.and_eq_true,decide_eq_true_eq]
    refine ⟨by omega,?_⟩
    cases pv with
    | none=>rfl
    | some y=>simpa using h2 y rfl
   ·simp only [wtot,gtot,i3,gU]
    omega
   ·have e9:k + 1 + 1 - 1=k + 1:=by omega
    simp only [wtot,gtot,gL,e9] at i4 ⊢
    omega
theorem up_low {k n:Nat} {l w:List Int} (h:Wr (k + 1) n l) (hw:Wr k (gtot gL (k + 1) l) w):n≤gtot gU k w:=by
 refine Nat.le_of_not_lt fun hn=>?_
 obtain ⟨a1,a2,a3⟩:=h.wok
 obtain ⟨b1,b2,b3⟩:=hw.wok
 obtain ⟨c1,c2,c3,c4⟩:=tr2_ok b2 b1 fun y e=>by cases e
 have q:=g_mono up_L c2 a2 (by rw [c3,a3]; omega)
 omega
end Z
end
section
namespace Z
open PySem
section
variable {F:Fn} {G:List D}
noncomputable def dWParts (iw:Nat):Df:=⟨2,2,.cons (.ret (.cmr false 3 (.cons (.tup [3,4]) (.enm (.cons (.call iw (.cons (.var 0) (.cons (.var 1) .nil))) .nil)) .nil .nil) (.tup (.cons (.var 4) (.cons (.bin .sub (.var 1) (.var 3)) .nil))))) .nil⟩
noncomputable def wpart (w:List Int) (s:Int) (i:Nat):D:=.tup [.int (w.getD i 0),.int (s - i)]
theorem two_big (x y:D) (S:Sto):(if [x,y].length≤big then R.ok (D.tup [x,y]) S else R.bad)=R.ok (D.tup [x,y]) S:=if_pos (by show 2≤big; decide)
theorem den_wparts {iw:Nat} {n s:Int} {w:List Int} {S S1:Sto} (h:F iw [.int n,.int s] S=.ok (tupI w) S1) (hl:w.length≤12) :
  den F G (dWParts iw) [.int n,.int s] S=.ok (.ref S1.length) (S1++[.lst ((List.range w.length).map (wpart w s))]):=by
 have hit:evit F G (.enm (.cons (.call iw (.cons (.var 0) (.cons (.var 1) .nil))) .nil)) [some (.int n),some (.int s)] S=.ok (.enm (.con (w.map D.int))) S1:=by
  simp only [evit,evs,ev,List.getElem?_cons_zero,List.getElem?_cons_succ,R.bind_ok,h,tupI,srcD]
 obtain ⟨e',S',a,b⟩:=ev_cmr (n:=3) (elt:=.tup (.cons (.var 4) (.cons (.bin .sub (.var 1) (.var 3)) .nil))) (t:=.tup [3,4]) ((List.range w.length).map fun (i:Nat)=>D.tup [.int (i:Int),.int (w.getD i 0)]) (wpart w s) (fun i e S=>S=S1∧∃ p q r,e=[some (.int n),some (.int s),p,q,r]) hit
  (by simp [Src.most]) (by rw [List.length_map,List.length_range]; exact le_big (by omega)) ⟨rfl,none,none,none,rfl⟩
  (fun i e S hP=>by
   rw [enm_at]
   congr 1
   simp only [List.getElem?_map,List.getElem?_range']
   by_cases q:i < w.length
   ·simp [q,List.getD]
   ·simp [q])
  (fun i d e S hd hP=>by
   obtain ⟨rfl,p,q,r,rfl⟩:=hP
   have hi:i < w.length:=by have:=(List.getElem?_eq_some_iff.mp hd).1; simpa using this
   have hd2:d=D.tup [.int (i:Int),.int (w.getD i 0)]:=by
    simp only [List.getElem?_map,List.getElem?_range hi,Option.map_some,Option.some.injEq] at hd
    exact hd.symm
   subst hd2
   refine ⟨[some (.int n),some (.int s),p,some (.int i),some (.int (w.getD i 0))],S,rfl,?_,rfl,p,_,_,rfl⟩
   simp only [ev,evs,List.getElem?_cons_zero,List.getElem?_cons_succ,R.bind_ok,bin_sub,two_big,wpart])
 obtain ⟨rfl,_⟩:=b
 simp only [den,dWParts,List.length,if_true,List.map,List.replicate,Nat.sub_self,List.append_nil]
 simp only [List.length_map,List.length_range] at a
 rw [exes_rt (d:=.ref S'.length) (S1:=S'++[.lst ((List.range w.length).map (wpart w s))]) (by simp only [exe,a,R.bind_ok])]
noncomputable def dWSum (ip:Nat) (elt:Ex):Df:=⟨2,2,.cons (.ret (.blt .sum (.cons (.cmr false 3 (.cons (.tup [3,4]) (.val (.call ip (.cons (.var 0) (.cons (.var 1) .nil)))) .nil .nil) elt) .nil))) .nil⟩
theorem sum_ref {S:Sto} {q:Nat} {l:List Int} (h:lstAt S q=some (l.map D.int)):bltD .sum [.ref q] S=.ok (.int l.sum) S:=by
 have:∀ l:List Int,allInts (l.map D.int)=some l:=fun l=>by
  induction l with
  | nil=>rfl
  | cons x r ih=>simp only [List.map,allInts,ih,Option.map_some]
 simp only [bltD,seqD,h,Option.bind_some,this]
theorem gtot_range (g:Nat→Nat→Nat):∀ (s:Nat) (w:List Int),w.length≤s→(((List.range w.length).map fun i=>((g (w.getD i 0).toNat (s - i):Nat):Int)).sum)=(gtot g s w:Nat)
 | s,[],_=>by
  have e:gtot g s []=0:=by cases s <;> rfl
  rw [e]; rfl
 | 0,_ :: _,h=>by simp at h
 | s + 1,x :: r,h=>by
  have ih:=gtot_range g s r (by simp only [List.length_cons] at h; omega)
  rw [List.length_cons,List.range_succ_eq_map,List.map_cons,List.sum_cons,List.map_map]
  simp only [gtot]
  have e:(List.range r.length).map ((fun i=>((g ((x :: r).getD i 0).toNat (s + 1 - i):Nat):Int)) ∘ Nat.succ)=(List.range r.length).map fun i=>((g (r.getD i 0).toNat (s - i):Nat):Int):=by
   refine List.map_congr_left fun i _=>?_
   simp only [Function.comp,List.getD_cons_succ]
   have:s + 1 - i.succ=s - i:=by omega
   rw [this]
  rw [e,ih]
  simp only [List.getD_cons_zero,Nat.sub_zero]
  omega
theorem den_wsum {ip:Nat} {elt:Ex} {g:Nat→Nat→Nat} {n s:Nat} {w:List Int} {S S1:Sto} (h:F ip [.int n,.int s] S=.ok (.ref S1.length) (S1++[.lst ((List.range w.length).map (wpart w s))])) (hl:w.length≤s) (hs:s≤12)
  (he:∀ (x c:Nat) (a b d:Option D) (S:Sto),(x:Int)∈w→1≤c→c≤s→ev F G elt [a,b,d,some (.int x),some (.int c)] S=.ok (.int (g x c:Nat)) S) (hw:∀ x∈w,0≤x) :
  ∃ X,den F G (dWSum ip elt) [.int n,.int s] S=.ok (.int (gtot g s w:Nat)) (S1++X):=by
 have hit:evit F G (.val (.call ip (.cons (.var 0) (.cons (.var 1) .nil)))) [some (.int n),some (.int s)] S=.ok (.ref S1.length) (S1++[.lst ((List.range w.length).map (wpart w s))]):=by
  simp only [evit,evs,ev,List.getElem?_cons_zero,List.getElem?_cons_succ,R.bind_ok,h,srcD,last_lst,Option.map_some]
 obtain ⟨e',S',a,b⟩:=ev_cmr (n:=3) (elt:=elt) (t:=.tup [3,4]) ((List.range w.length).map (wpart w s)) (fun i=>.int ((g (w.getD i 0).toNat (s - i):Nat):Int)) (fun i e S=>S=S1++[.lst ((List.range w.length).map (wpart w s))]∧∃ p q r,e=[some (.int n),some (.int s),p,q,r]) hit
  (by simp only [Src.most,last_lst,Option.getD_some]) (by rw [List.length_map,List.length_range]; exact le_big (by omega)) ⟨rfl,none,none,none,rfl⟩
  (fun i e S hP=>by
   obtain ⟨rfl,_⟩:=hP
   simp only [Src.get,last_lst,Option.map_some])
  (fun i d e S hd hP=>by
   obtain ⟨rfl,p,q,r,rfl⟩:=hP
   have hi:i < w.length:=by have:=(List.getElem?_eq_some_iff.mp hd).1; simpa using this
   have hd2:d=wpart w s i:=by
    simp only [List.getElem?_map,List.getElem?_range hi,Option.map_some,Option.some.injEq] at hd
    exact hd.symm
   subst hd2
   refine ⟨[some (.int n),some (.int s),p,some (.int (w.getD i 0)),some (.int ((s:Int) - i))],_,rfl,?_,rfl,p,_,_,rfl⟩
   have hm:w.getD i 0∈w:=by
    have:w.getD i 0=w[i]:=by simp [List.getD,hi]
    rw [this]; exact List.getElem_mem hi
   have hx:=hw _ hm
   have e1:((w.getD i 0).toNat:Int)=w.getD i 0:=by omega
   have e2:(s:Int) - i=((s - i:Nat):Int):=by omega
   have q1:=he (w.getD i 0).toNat (s - i) (some (.int n)) (some (.int s)) p (S1++[.lst ((List.range w.length).map (wpart w s))]) (by rw [e1]; exact hm) (by omega) (by omega)
   rw [e1] at q1
   rw [e2]
   exact q1)
 obtain ⟨rfl,_⟩:=b
 refine ⟨[.lst ((List.range w.length).map (wpart w s))]++[.lst ((List.range ((List.range w.length).map (wpart w s)).length).map fun i=>D.int ((g (w.getD i 0).toNat (s - i):Nat):Int))],?_⟩
 simp only [den,dWSum,List.length,if_true,List.map,List.replicate,Nat.sub_self,List.append_nil]
 rw [← List.append_assoc]
 have q:=sum_ref (S:=S1++[.lst ((List.range w.length).map (wpart w s))]++[.lst ((List.range ((List.range w.length).map (wpart w s)).length).map fun i=>D.int ((g (w.getD i 0).toNat (s - i):Nat):Int))]) (q:=(S1++[O.lst ((List.range w.length).map (wpart w s))]).length) (l:=(List.range w.length).map fun i=>((g (w.getD i 0).toNat (s - i):Nat):Int)) (by
  rw [last_lst,List.length_map,List.length_range,List.map_map]; rfl)
 rw [gtot_range g s w hl] at q
 rw [exes_rt (d:=.int (gtot g s w:Nat)) (S1:=S1++[.lst ((List.range w.length).map (wpart w s))]++[.lst ((List.range ((List.range w.length).map (wpart w s)).length).map fun i=>D.int ((g (w.getD i 0).toNat (s - i):Nat):Int))]) (by
  rw [exe,ev,evs,a,R.bind_ok,evs,R.bind_ok,R.bind_ok,q,R.bind_ok])]
theorem elt_U {iw:Nat} (hw:WaysF F iw) {x c:Nat} {a b d:Option D} {S:Sto} (hx:x≤10000000000000) (hc:c≤11):ev F G (.call iw (.cons (.var 3) (.cons (.bin .add (.var 4) (.cst (.int 1))) .nil))) [a,b,d,some (.int x),some (.int c)] S=.ok (.int (gU x c:Nat)) S:=by
 have e:(c:Int) + 1=((c + 1:Nat):Int):=by omega
 simp only [ev,evs,List.getElem?_cons_zero,List.getElem?_cons_succ,R.bind_ok,bin_add,e,hw x (c + 1) S hx (by omega),gU]
theorem elt_L {iw:Nat} (hw:WaysF F iw) {x c:Nat} {a b d:Option D} {S:Sto} (hx:x≤10000000000000) (hc1:1≤c) (hc:c≤12):ev F G (.call iw (.cons (.var 3) (.cons (.bin .sub (.var 4) (.cst (.int 1))) .nil))) [a,b,d,some (.int x),some (.int c)] S=.ok (.int (gL x c:Nat)) S:=by
 have e:(c:Int) - 1=((c - 1:Nat):Int):=by omega
 simp only [ev,evs,List.getElem?_cons_zero,List.getElem?_cons_succ,R.bind_ok,bin_sub,e,hw x (c - 1) S hx (by omega),gL]
theorem elt_B {iw:Nat} (hw:WaysF F iw) {x c:Nat} {a b d:Option D} {S:Sto} (hx:x + 1≤10000000000000) (hc:c≤11):ev F G (.call iw (.cons (.bin .add (.var 3) (.cst (.int 1))) (.cons (.bin .add (.var 4) (.cst (.int 1))) .nil))) [a,b,d,some (.int x),some (.int c)] S=.ok (.int (gB x c:Nat)) S:=by
 have e:(c:Int) + 1=((c + 1:Nat):Int):=by omega
 have e1:(x:Int) + 1=((x + 1:Nat):Int):=by omega
 simp only [ev,evs,List.getElem?_cons_zero,List.getElem?_cons_succ,R.bind_ok,bin_add,e,e1,hw (x + 1) (c + 1) S hx (by omega),gB]
theorem ne_ints {S:Sto} {p q:Nat} {l:List Int} (h1:lstAt S p=some (l.map D.int)) (h2:lstAt S q=some (l.map D.int)):cmpR .ne (.ref p) (.ref q) S=.ok (.bl false) S:=by
 have key:∀ n,lstAt S n=some (l.map D.int)→datD S (.ref n)=some (.list (l.map PyData.int)):=fun n hn=>by
  show lookK S 4 n=_
  rw [lookK,at_lst hn]
  dsimp only
  rw [datI,Option.map_some]
 have c1:(PyData.list (l.map PyData.int)).canLay0=true:=by simp only [PyData.canLay0,layI]
 have c2:(PyData.list (l.map PyData.int)).depth≤60:=by simp only [PyData.depth,depI]; omega
 have c3:PyData.eqv (.list (l.map PyData.int)) (.list (l.map PyData.int))=true:=by simp only [PyData.eqv,eqv_lists,decide_true]
 have hs:twoS (.ref p) (.ref q)=none:=rfl
 simp only [cmpR,cmpD,eqD,hs,key p h1,key q h2,c1,c3,decide_eq_true c2,Bool.and_self,if_true,Option.map_some,Bool.not_true]
theorem srt_two (a b:Int):srtI [a,b]=if a≤b then [a,b] else [b,a]:=by simp only [srtI,insI]
noncomputable def dChoose (i1 iw:Nat) (a b:Str):Df:=⟨2,2,.cons (.ite (.not (.call i1 (.cons (.var 0) (.cons (.cst (.int 0)) (.cons (.glb 0) .nil))))) (.cons (.rse 8 (.cst (.str a))) .nil) .nil) (.cons (.ite (.not (.call i1 (.cons (.var 1) (.cons (.cst (.int 0)) (.cons (.glb 1) .nil))))) (.cons (.rse 8 (.cst (.str b))) .nil) .nil) (.cons (.ret (.call iw (.cons (.var 0) (.cons (.var 1) .nil)))) .nil))⟩
theorem choose_gen {i1 iw:Nat} {a b:Str} {d e r:D} {g1 g2:Int} {S:Sto} (h0:G[0]?=some (.int g1)) (h1:G[1]?=some (.int g2)) (h:F i1 [d,.int 0,.int g1] S=.ok (.bl true) S) (h':F i1 [e,.int 0,.int g2] S=.ok (.bl true) S) (hw:F iw [d,e] S=.ok r S):den F G (dChoose i1 iw a b) [d,e] S=.ok r S:=by
 simp only [den,dChoose,List.length,if_true,List.map,List.replicate,Nat.sub_self,List.append_nil]
 rw [exes_nx (e:=[some d,some e]) (S1:=S) (if_pass (by simp only [ev,evs,List.getElem?_cons_zero,R.bind_ok,h0,h,truD]; rfl))]
 rw [exes_nx (e:=[some d,some e]) (S1:=S) (if_pass (by simp only [ev,evs,List.getElem?_cons_zero,List.getElem?_cons_succ,R.bind_ok,h1,h',truD]; rfl))]
 rw [exes_rt (d:=r) (S1:=S) (by simp only [exe,ev,evs,List.getElem?_cons_zero,List.getElem?_cons_succ,R.bind_ok,hw])]
end
end Z
end
section
namespace K34
open PySem PySem.Spec PyProof.Rows L2 Z
noncomputable def top (i:Nat):Stmt:=PySem.Challenge.pw_facecounts_k34_whole_chosen.main.body.getD i (.Pass ⟨0,0,0,0⟩)
noncomputable def gns:List Str:=["GREATEST_NUMBER","MOST_CHOSEN","most_above","least_below","bags_above"]
noncomputable def G:List D:=[.int 1000000000000,.int 12,.fn 6 "most_above",.fn 7 "least_below",.fn 8 "bags_above"]
noncomputable def fns:List (Str×Nat×Bool):=[("is_whole",1,true),("is_whole_within",3,true),("is_whole_tuple",1,true),("choose",2,true),("writing",2,true),("is_writing",3,true),("most_above",2,true),("least_below",2,true),("bags_above",2,true),("check_written",2,true),("ways",2,true),("most_things",2,true),("written_parts",2,true),("_law_cell_at",2,true),("_law_pot",1,true),("_law_take",2,true),("law",1,true)]
noncomputable def b_is_whole:Sts:=(.cons (.ret (.and (.isi (.var 0) [.int]) (.not (.isi (.var 0) [.bool]))))
  .nil)
noncomputable def d_is_whole:Df:=⟨1,1,b_is_whole⟩
noncomputable def n_is_whole:List Str:=["thing"]
noncomputable def b_is_whole_within:Sts:=(.cons (.ret (.and (.call 0 (.cons (.var 0) .nil)) (.chn .le .le (.var 1) (.var 0) (.var 2))))
  .nil)
noncomputable def d_is_whole_within:Df:=⟨3,3,b_is_whole_within⟩
noncomputable def n_is_whole_within:List Str:=["thing","low","high"]
noncomputable def b_is_whole_tuple:Sts:=(.cons (.ret (.and (.isi (.var 0) [.tuple]) (.blt .all (.cons (.cmr false 2 (.cons (.var 2) (.val (.var 0)) .nil .nil) (.call 0 (.cons (.var 2) .nil))) .nil))))
  .nil)
noncomputable def d_is_whole_tuple:Df:=⟨1,1,b_is_whole_tuple⟩
noncomputable def n_is_whole_tuple:List Str:=["thing"]
noncomputable def b_choose:Sts:=(.cons (.ite (.not (.call 1 (.cons (.var 0) (.cons (.cst (.int 0)) (.cons (.glb 0) .nil))))) (.cons (.rse 8 (.cst (.str "a number of things from 0 to 10 ** 12 is due")))
  .nil) .nil)
  (.cons (.ite (.not (.call 1 (.cons (.var 1) (.cons (.cst (.int 0)) (.cons (.glb 1) .nil))))) (.cons (.rse 8 (.cst (.str "a number of chosen things from 0 to 12 is due")))
  .nil) .nil)
  (.cons (.ret (.call 10 (.cons (.var 0) (.cons (.var 1) .nil))))
  .nil)))
noncomputable def d_choose:Df:=⟨2,2,b_choose⟩
noncomputable def n_choose:List Str:=["things","number"]
noncomputable def b_writing:Sts:=(.cons (.expr (.call 9 (.cons (.var 0) (.cons (.var 1) .nil))))
  (.cons (.asg (.var 2) (.lst .nil))
  (.cons (.asg (.var 3) (.var 0))
  (.cons (.for (.var 4) (.rng (.cons (.var 1) (.cons (.cst (.int 0)) (.cons (.neg (.cst (.int 1))) .nil)))) (.cons (.ite (.cmp .eq (.var 3) (.cst (.int 0))) (.cons .brk
  .nil) .nil)
  (.cons (.asg (.var 5) (.call 11 (.cons (.var 3) (.cons (.var 4) .nil))))
  (.cons (.expr (.mth .append (.var 2) (.cons (.var 5) .nil)))
  (.cons (.aug 3 .sub (.call 10 (.cons (.var 5) (.cons (.var 4) .nil))))
  .nil)))))
  (.cons (.ret (.blt .tuple (.cons (.var 2) .nil)))
  .nil)))))
noncomputable def d_writing:Df:=⟨2,6,b_writing⟩
noncomputable def n_writing:List Str:=["number","size","told","rest","chosen","things"]
noncomputable def b_is_writing:Sts:=(.cons (.asg (.var 3) (.call 4 (.cons (.var 1) (.cons (.var 2) .nil))))
  (.cons (.ret (.and (.call 2 (.cons (.var 0) .nil)) (.cmp .eq (.var 0) (.var 3))))
  .nil))
noncomputable def d_is_writing:Df:=⟨3,4,b_is_writing⟩
noncomputable def n_is_writing:List Str:=["thing","number","size","due"]
noncomputable def b_most_above:Sts:=(.cons (.ret (.blt .sum (.cons (.cmr false 3 (.cons (.tup [3,4]) (.val (.call 12 (.cons (.var 0) (.cons (.var 1) .nil)))) .nil .nil) (.call 10 (.cons (.var 3) (.cons (.bin .add (.var 4) (.cst (.int 1))) .nil)))) .nil)))
  .nil)
noncomputable def d_most_above:Df:=⟨2,2,b_most_above⟩
noncomputable def n_most_above:List Str:=["number","size"]
noncomputable def b_least_below:Sts:=(.cons (.ret (.blt .sum (.cons (.cmr false 3 (.cons (.tup [3,4]) (.val (.call 12 (.cons (.var 0) (.cons (.var 1) .nil)))) .nil .nil) (.call 10 (.cons (.var 3) (.cons (.bin .sub (.var 4) (.cst (.int 1))) .nil)))) .nil)))
  .nil)
noncomputable def d_least_below:Df:=⟨2,2,b_least_below⟩
noncomputable def n_least_below:List Str:=["number","size"]
noncomputable def b_bags_above:Sts:=(.cons (.ret (.blt .sum (.cons (.cmr false 3 (.cons (.tup [3,4]) (.val (.call 12 (.cons (.var 0) (.cons (.var 1) .nil)))) .nil .nil) (.call 10 (.cons (.bin .add (.var 3) (.cst (.int 1))) (.cons (.bin .add (.var 4) (.cst (.int 1))) .nil)))) .nil)))
  .nil)
noncomputable def d_bags_above:Df:=⟨2,2,b_bags_above⟩
noncomputable def n_bags_above:List Str:=["number","size"]
noncomputable def b_check_written:Sts:=(.cons (.ite (.not (.call 1 (.cons (.var 0) (.cons (.cst (.int 0)) (.cons (.glb 0) .nil))))) (.cons (.rse 8 (.cst (.str "a number from 0 to 10 ** 12 is due")))
  .nil) .nil)
  (.cons (.ite (.not (.call 1 (.cons (.var 1) (.cons (.cst (.int 1)) (.cons (.glb 1) .nil))))) (.cons (.rse 8 (.cst (.str "a size from 1 to 12 is due")))
  .nil) .nil)
  .nil))
noncomputable def d_check_written:Df:=⟨2,2,b_check_written⟩
noncomputable def n_check_written:List Str:=["number","size"]
noncomputable def b_ways:Sts:=(.cons (.asg (.var 2) (.cst (.int 1)))
  (.cons (.for (.var 3) (.rng (.cons (.var 1) .nil)) (.cons (.asg (.var 2) (.bin .fdiv (.bin .mul (.var 2) (.bin .sub (.var 0) (.var 3))) (.bin .add (.var 3) (.cst (.int 1)))))
  .nil))
  (.cons (.ret (.var 2))
  .nil)))
noncomputable def d_ways:Df:=⟨2,4,b_ways⟩
noncomputable def n_ways:List Str:=["things","number","told","at"]
noncomputable def b_most_things:Sts:=(.cons (.asg (.var 2) (.var 1))
  (.cons (.asg (.var 3) (.bin .add (.var 1) (.var 0)))
  (.cons (.whl (.cmp .gt (.bin .sub (.var 3) (.var 2)) (.cst (.int 1))) (.cons (.asg (.var 4) (.bin .fdiv (.bin .add (.var 2) (.var 3)) (.cst (.int 2))))
  (.cons (.ite (.cmp .le (.call 10 (.cons (.var 4) (.cons (.var 1) .nil))) (.var 0)) (.cons (.asg (.var 2) (.var 4))
  .nil) (.cons (.asg (.var 3) (.var 4))
  .nil))
  .nil)))
  (.cons (.ret (.var 2))
  .nil))))
noncomputable def d_most_things:Df:=⟨2,5,b_most_things⟩
noncomputable def n_most_things:List Str:=["number","chosen","low","high","middle"]
noncomputable def b_written_parts:Sts:=(.cons (.ret (.cmr false 3 (.cons (.tup [3,4]) (.enm (.cons (.call 4 (.cons (.var 0) (.cons (.var 1) .nil))) .nil)) .nil .nil) (.tup (.cons (.var 4) (.cons (.bin .sub (.var 1) (.var 3)) .nil)))))
  .nil)
noncomputable def d_written_parts:Df:=⟨2,2,b_written_parts⟩
noncomputable def n_written_parts:List Str:=["number","size"]
noncomputable def b__law_cell_at:Sts:=(.cons (.ite (.cmp .lt (.var 1) (.blt .len (.cons (.var 0) .nil))) (.cons (.ret (.idx (.var 0) (.var 1)))
  .nil) .nil)
  (.cons (.ret (.cst (.int 0)))
  .nil))
noncomputable def d__law_cell_at:Df:=⟨2,2,b__law_cell_at⟩
noncomputable def n__law_cell_at:List Str:=["_law_script","_law_k"]
noncomputable def b__law_pot:Sts:=(.cons (.ite (.cmp .ge (.var 0) (.bin .pow (.cst (.int 10)) (.cst (.int 18)))) (.cons (.ret (.lst (.cons (.bin .sub (.var 0) (.bin .pow (.cst (.int 10)) (.cst (.int 18)))) .nil)))
  .nil) .nil)
  (.cons (.asg (.var 1) (.cst (.int 0)))
  (.cons (.for (.var 2) (.rng (.cons (.cst (.int 64)) .nil)) (.cons (.asg (.var 3) (.bin .mod (.bin .mul (.bin .add (.bin .add (.bin .mod (.var 0) (.cst (.int 2147483629))) (.bin .mul (.cst (.int 7919)) (.var 2))) (.cst (.int 1))) (.cst (.int 48271))) (.cst (.int 2147483647))))
  (.cons (.asg (.var 3) (.bin .mod (.bin .add (.bin .add (.bin .mul (.var 3) (.var 3)) (.bin .mul (.cst (.int 69621)) (.var 2))) (.cst (.int 7))) (.cst (.int 2147483587))))
  (.cons (.asg (.var 1) (.bin .add (.bin .mul (.var 1) (.cst (.int 2147483587))) (.var 3)))
  .nil))))
  (.cons (.ret (.lst (.cons (.var 1) .nil)))
  .nil))))
noncomputable def d__law_pot:Df:=⟨1,4,b__law_pot⟩
noncomputable def n__law_pot:List Str:=["_law_cell","_law_number","_law_j","_law_more"]
noncomputable def b__law_take:Sts:=(.cons (.asg (.var 2) (.bin .mod (.idx (.var 0) (.cst (.int 0))) (.var 1)))
  (.cons (.aset (.var 0) (.cst (.int 0)) (.bin .fdiv (.idx (.var 0) (.cst (.int 0))) (.var 1)))
  (.cons (.ret (.var 2))
  .nil)))
noncomputable def d__law_take:Df:=⟨2,3,b__law_take⟩
noncomputable def n__law_take:List Str:=["_law_pot_here","_law_far","_law_found"]
noncomputable def b_law:Sts:=(.cons (.for (.var 1) (.rng (.cons (.blt .max (.cons (.cst (.int 1)) (.cons (.blt .min (.cons (.blt .len (.cons (.var 0) .nil)) (.cons (.cst (.int 6)) .nil))) .nil))) .nil)) (.cons (.asg (.var 2) (.call 14 (.cons (.call 13 (.cons (.var 0) (.cons (.var 1) .nil))) .nil)))
  (.cons (.asg (.var 3) (.bin .add (.cst (.int 1)) (.call 15 (.cons (.var 2) (.cons (.cst (.int 11)) .nil)))))
  (.cons (.asg (.var 4) (.bin .add (.var 3) (.call 15 (.cons (.var 2) (.cons (.idx (.lst (.cons (.cst (.int 25)) (.cons (.cst (.int 3)) .nil))) (.blt .int (.cons (.cmp .gt (.var 3) (.cst (.int 8))) .nil))) .nil)))))
  (.cons (.ite (.cmp .ne (.call 3 (.cons (.bin .add (.var 4) (.cst (.int 1))) (.cons (.var 3) .nil))) (.bin .add (.call 3 (.cons (.var 4) (.cons (.var 3) .nil))) (.call 3 (.cons (.var 4) (.cons (.bin .sub (.var 3) (.cst (.int 1))) .nil))))) (.cons (.ret (.cst (.bl false)))
  .nil) .nil)
  (.cons (.asg (.var 5) (.call 3 (.cons (.var 4) (.cons (.var 3) .nil))))
  (.cons (.ite (.or (.cmp .ne (.call 4 (.cons (.var 5) (.cons (.var 3) .nil))) (.tup (.cons (.var 4) .nil))) (.cmp .isnot (.call 5 (.cons (.tup (.cons (.var 4) .nil)) (.cons (.var 5) (.cons (.var 3) .nil)))) (.cst (.bl true)))) (.cons (.ret (.cst (.bl false)))
  .nil) .nil)
  (.cons (.asg (.var 6) (.lst (.cons (.call 6 (.cons (.var 5) (.cons (.var 3) .nil))) (.cons (.call 7 (.cons (.var 5) (.cons (.var 3) .nil))) (.cons (.call 8 (.cons (.var 5) (.cons (.var 3) .nil))) .nil)))))
  (.cons (.ite (.cmp .ne (.var 6) (.lst (.cons (.call 3 (.cons (.var 4) (.cons (.bin .add (.var 3) (.cst (.int 1))) .nil))) (.cons (.call 3 (.cons (.var 4) (.cons (.bin .sub (.var 3) (.cst (.int 1))) .nil))) (.cons (.call 3 (.cons (.bin .add (.var 4) (.cst (.int 1))) (.cons (.bin .add (.var 3) (.cst (.int 1))) .nil))) .nil))))) (.cons (.ret (.cst (.bl false)))
  .nil) .nil)
  (.cons (.asg (.var 7) (.idx (.lst (.cons (.cst (.int 30)) (.cons (.bin .pow (.cst (.int 10)) (.cst (.int 4))) (.cons (.bin .add (.bin .pow (.cst (.int 10)) (.cst (.int 12))) (.cst (.int 1))) .nil)))) (.call 15 (.cons (.var 2) (.cons (.cst (.int 3)) .nil)))))
  (.cons (.unp [9,10] (.blt .sorted (.cons (.lst (.cons (.call 15 (.cons (.var 2) (.cons (.var 7) .nil))) (.cons (.call 15 (.cons (.var 2) (.cons (.var 7) .nil))) .nil))) .nil)))
  (.cons (.for (.var 8) (.val (.lst (.cons (.glb 2) (.cons (.glb 3) (.cons (.glb 4) .nil))))) (.cons (.ite (.cmp .gt (.cal (.var 8) (.cons (.var 9) (.cons (.var 3) .nil))) (.cal (.var 8) (.cons (.var 10) (.cons (.var 3) .nil)))) (.cons (.ret (.cst (.bl false)))
  .nil) .nil)
  .nil))
  (.cons (.par [11,12] (.cons (.call 6 (.cons (.var 9) (.cons (.var 3) .nil))) (.cons (.call 7 (.cons (.var 9) (.cons (.var 3) .nil))) .nil)))
  (.cons (.ite (.or (.cmp .lt (.call 8 (.cons (.var 9) (.cons (.var 3) .nil))) (.var 11)) (.and (.cmp .le (.var 11) (.bin .pow (.cst (.int 10)) (.cst (.int 12)))) (.cmp .gt (.call 7 (.cons (.var 11) (.cons (.bin .add (.var 3) (.cst (.int 1))) .nil))) (.var 9)))) (.cons (.ret (.cst (.bl false)))
  .nil) .nil)
  (.cons (.ite (.and (.cmp .gt (.var 3) (.cst (.int 1))) (.and (.cmp .le (.var 12) (.bin .pow (.cst (.int 10)) (.cst (.int 12)))) (.cmp .lt (.call 6 (.cons (.var 12) (.cons (.bin .sub (.var 3) (.cst (.int 1))) .nil))) (.var 9)))) (.cons (.ret (.cst (.bl false)))
  .nil) .nil)
  (.cons (.ite (.cmp .isnot (.call 5 (.cons (.call 4 (.cons (.var 9) (.cons (.var 3) .nil))) (.cons (.var 9) (.cons (.var 3) .nil)))) (.cst (.bl true))) (.cons (.ret (.cst (.bl false)))
  .nil) .nil)
  .nil))))))))))))))))
  (.cons (.ret (.cst (.bl true)))
  .nil))
noncomputable def d_law:Df:=⟨1,13,b_law⟩
noncomputable def n_law:List Str:=["_law_script","_law_k","_law_pot_here","_law_size","_law_things","_law_many","_law_found","_law_far","_law_call","_law_low","_law_high","_law_above","_law_below"]
noncomputable def T:List Df:=[d_is_whole,d_is_whole_within,d_is_whole_tuple,d_choose,d_writing,d_is_writing,d_most_above,d_least_below,d_bags_above,d_check_written,d_ways,d_most_things,d_written_parts,d__law_cell_at,d__law_pot,d__law_take,d_law]
theorem m_is_whole:mtSs fns gns (defScope (top 4)) n_is_whole true b_is_whole (defBody (top 4))=true:=by decide +kernel
theorem s_is_whole:fnScB n_is_whole (n_is_whole.take d_is_whole.np) (defScope (top 4))=true:=by decide +kernel
theorem m_is_whole_within:mtSs fns gns (defScope (top 5)) n_is_whole_within true b_is_whole_within (defBody (top 5))=true:=by decide +kernel
theorem s_is_whole_within:fnScB n_is_whole_within (n_is_whole_within.take d_is_whole_within.np) (defScope (top 5))=true:=by decide +kernel
theorem m_is_whole_tuple:mtSs fns gns (defScope (top 6)) n_is_whole_tuple true b_is_whole_tuple (defBody (top 6))=true:=by decide +kernel
theorem s_is_whole_tuple:fnScB n_is_whole_tuple (n_is_whole_tuple.take d_is_whole_tuple.np) (defScope (top 6))=true:=by decide +kernel
theorem m_choose:mtSs fns gns (defScope (top 10)) n_choose true b_choose (defBody (top 10))=true:=by decide +kernel
theorem s_choose:fnScB n_choose (n_choose.take d_choose.np) (defScope (top 10))=true:=by decide +kernel
theorem m_writing:mtSs fns gns (defScope (top 11)) n_writing true b_writing (defBody (top 11))=true:=by decide +kernel
theorem s_writing:fnScB n_writing (n_writing.take d_writing.np) (defScope (top 11))=true:=by decide +kernel
theorem m_is_writing:mtSs fns gns (defScope (top 12)) n_is_writing true b_is_writing (defBody (top 12))=true:=by decide +kernel
theorem s_is_writing:fnScB n_is_writing (n_is_writing.take d_is_writing.np) (defScope (top 12))=true:=by decide +kernel
theorem m_most_above:mtSs fns gns (defScope (top 13)) n_most_above true b_most_above (defBody (top 13))=true:=by decide +kernel
theorem s_most_above:fnScB n_most_above (n_most_above.take d_most_above.np) (defScope (top 13))=true:=by decide +kernel
theorem m_least_below:mtSs fns gns (defScope (top 14)) n_least_below true b_least_below (defBody (top 14))=true:=by decide +kernel
theorem s_least_below:fnScB n_least_below (n_least_below.take d_least_below.np) (defScope (top 14))=true:=by decide +kernel
theorem m_bags_above:mtSs fns gns (defScope (top 15)) n_bags_above true b_bags_above (defBody (top 15))=true:=by decide +kernel
theorem s_bags_above:fnScB n_bags_above (n_bags_above.take d_bags_above.np) (defScope (top 15))=true:=by decide +kernel
theorem m_check_written:mtSs fns gns (defScope (top 16)) n_check_written true b_check_written (defBody (top 16))=true:=by decide +kernel
theorem s_check_written:fnScB n_check_written (n_check_written.take d_check_written.np) (defScope (top 16))=true:=by decide +kernel
theorem m_ways:mtSs fns gns (defScope (top 17)) n_ways true b_ways (defBody (top 17))=true:=by decide +kernel
theorem s_ways:fnScB n_ways (n_ways.take d_ways.np) (defScope (top 17))=true:=by decide +kernel
theorem m_most_things:mtSs fns gns (defScope (top 18)) n_most_things true b_most_things (defBody (top 18))=true:=by decide +kernel
theorem s_most_things:fnScB n_most_things (n_most_things.take d_most_things.np) (defScope (top 18))=true:=by decide +kernel
theorem m_written_parts:mtSs fns gns (defScope (top 19)) n_written_parts true b_written_parts (defBody (top 19))=true:=by decide +kernel
theorem s_written_parts:fnScB n_written_parts (n_written_parts.take d_written_parts.np) (defScope (top 19))=true:=by decide +kernel
theorem m__law_cell_at:mtSs fns gns (defScope (top 21)) n__law_cell_at true b__law_cell_at (defBody (top 21))=true:=by decide +kernel
theorem s__law_cell_at:fnScB n__law_cell_at (n__law_cell_at.take d__law_cell_at.np) (defScope (top 21))=true:=by decide +kernel
theorem m__law_pot:mtSs fns gns (defScope (top 22)) n__law_pot true b__law_pot (defBody (top 22))=true:=by decide +kernel
theorem s__law_pot:fnScB n__law_pot (n__law_pot.take d__law_pot.np) (defScope (top 22))=true:=by decide +kernel
theorem m__law_take:mtSs fns gns (defScope (top 23)) n__law_take true b__law_take (defBody (top 23))=true:=by decide +kernel
theorem s__law_take:fnScB n__law_take (n__law_take.take d__law_take.np) (defScope (top 23))=true:=by decide +kernel
theorem m_law:mtSs fns gns (defScope (top 24)) n_law true b_law (defBody (top 24))=true:=by decide +kernel
theorem s_law:fnScB n_law (n_law.take d_law.np) (defScope (top 24))=true:=by decide +kernel
end K34
end
section
set_option exponentiation.threshold 3000
namespace K34
open PySem Z
theorem t0:T[0]?=some dWhole:=rfl
theorem t1:T[1]?=some (dWithin 0):=rfl
theorem t2:T[2]?=some (dWTup 0):=rfl
theorem t3:T[3]?=some (dChoose 1 10 "a number of things from 0 to 10 ** 12 is due" "a number of chosen things from 0 to 12 is due"):=rfl
theorem t4:T[4]?=some (dWrit 9 11 10):=rfl
theorem t5:T[5]?=some (dIsW 4 2):=rfl
theorem t6:T[6]?=some (dWSum 12 (.call 10 (.cons (.var 3) (.cons (.bin .add (.var 4) (.cst (.int 1))) .nil)))):=rfl
theorem t7:T[7]?=some (dWSum 12 (.call 10 (.cons (.var 3) (.cons (.bin .sub (.var 4) (.cst (.int 1))) .nil)))):=rfl
theorem t8:T[8]?=some (dWSum 12 (.call 10 (.cons (.bin .add (.var 3) (.cst (.int 1))) (.cons (.bin .add (.var 4) (.cst (.int 1))) .nil)))):=rfl
theorem t9:T[9]?=some (dChkW 1 "a number from 0 to 10 ** 12 is due" "a size from 1 to 12 is due"):=rfl
theorem t10:T[10]?=some dWays:=rfl
theorem t11:T[11]?=some (dMost 10):=rfl
theorem t12:T[12]?=some (dWParts 4):=rfl
theorem t15:T[15]?=some dTake:=rfl
theorem g0:G[0]?=some (.int 1000000000000):=rfl
theorem g1:G[1]?=some (.int 12):=rfl
theorem ftx {k f:Nat} {d:Df} {ds:List D} {S:Sto} (h:T[f]?=some d):FT T G (k + 1) f ds S=den (FT T G k) G d ds S:=by simp only [FT,h]
theorem whole (k:Nat):Wholes (FT T G (k + 1)) 0:=wholes_of t0 k
theorem within (k:Nat) (d:D) (lo hi:Int) (S:Sto) (h:good S d):FT T G (k + 2) 1 [d,.int lo,.int hi] S=.ok (.bl (wi d lo hi)) S:=by
 rw [ftx t1]
 exact den_within (whole k d S h)
theorem wtups (k:Nat):WTups (FT T G (k + 2)) 2:=wtups_of t2 (k + 1) (whole k)
theorem chk_ok (k n s:Nat) (S:Sto) (hn:n≤1000000000000) (hs1:1≤s) (hs:s≤12):FT T G (k + 3) 9 [.int n,.int s] S=.ok .non S:=by
 have h1:=within k (.int n) 0 1000000000000 S (good_int S n)
 have h2:=within k (.int s) 1 12 S (good_int S s)
 rw [wi_int (by omega) (by omega)] at h1 h2
 rw [ftx t9]
 exact chkW_ok g0 g1 h1 h2
theorem choose (k n s:Nat) (S:Sto) (hn:n≤1000000000000) (hs:s≤12):FT T G (k + 3) 3 [.int n,.int s] S=.ok (.int (C n s)) S:=by
 have h1:=within k (.int n) 0 1000000000000 S (good_int S n)
 have h2:=within k (.int s) 0 12 S (good_int S s)
 rw [wi_int (by omega) (by omega)] at h1 h2
 rw [ftx t3]
 exact choose_gen g0 g1 h1 h2 (waysF_of t10 (k + 1) n s S (by omega) hs)
theorem writing (k n s:Nat) (S:Sto) (hn:n≤1000000000000) (hs1:1≤s) (hs:s≤12):∃ w,FT T G (k + 4) 4 [.int n,.int s] S=.ok (tupI w) (S++[.lst (w.map D.int)])∧Wr s n w:=by
 rw [ftx t4]
 exact den_writ (waysF_of t10 (k + 2)) (mostF_of t11 (waysF_of t10 (k + 1))) (chk_ok k n s S hn hs1 hs) hs1 hs hn
theorem is_writing (k n s:Nat) {c:D} {S:Sto} (t:Thing S c) (hn:n≤1000000000000) (hs1:1≤s) (hs:s≤12):∃ X,FT T G (k + 5) 5 [c,.int n,.int s] S=.ok (.bl (lisw c n s)) (S++X):=by
 obtain ⟨w,h1,h2⟩:=writing k n s S hn hs1 hs
 have t':Thing (S++[.lst (w.map D.int)]) c:=t.app
 obtain ⟨X,h3⟩:=wtups (k + 2) c (S++[.lst (w.map D.int)]) t'.gd (fun xs z=>⟨(t'.el xs z).1,Nat.le_trans (t'.el xs z).2 (by omega)⟩)
 refine ⟨[.lst (w.map D.int)]++X,?_⟩
 rw [ftx t5,← List.append_assoc]
 exact isW_ok h2 h1 h3
noncomputable def Sums (F:Fn) (f:Nat) (g:Nat→Nat→Nat) (m:Nat):Prop:=∀ (n s:Nat) (S:Sto),n≤1000000000000→1≤s→s≤m→∃ w X,Wr s n w∧F f [.int n,.int s] S=.ok (.int (gtot g s w:Nat)) (S++X)
theorem sums_gen (k:Nat) {f m:Nat} {g:Nat→Nat→Nat} {elt:Ex} (hf:T[f]?=some (dWSum 12 elt)) (hm:m≤12)
  (he:∀ (x c:Nat) (a b d:Option D) (S:Sto),x≤9000000000000→1≤c→c≤m→ev (FT T G (k + 5)) G elt [a,b,d,some (.int x),some (.int c)] S=.ok (.int (g x c:Nat)) S):Sums (FT T G (k + 6)) f g m:=by
 intro n s S hn h1 hs
 obtain ⟨w,e1,hw⟩:=writing k n s S hn h1 (by omega)
 have hl:=wr_len hw
 have hb:=wr_bd hw
 have e2:FT T G (k + 5) 12 [.int n,.int s] S=.ok (.ref (S++[O.lst (w.map D.int)]).length) (S++[.lst (w.map D.int)]++[.lst ((List.range w.length).map (wpart w s))]):=by
  rw [ftx t12]
  exact den_wparts e1 (by omega)
 obtain ⟨X,e3⟩:=den_wsum (G:=G) (elt:=elt) (g:=g) e2 hl (by omega) (fun x c a b d S hx hc1 hc=>he x c a b d S (by have:=(hb _ hx).2; omega) hc1 (by omega)) fun x hx=>(hb x hx).1
 refine ⟨w,[.lst (w.map D.int)]++X,hw,?_⟩
 rw [ftx hf,e3,List.append_assoc]
theorem sums_U (k:Nat):Sums (FT T G (k + 6)) 6 gU 11:=sums_gen k t6 (by omega) fun x c a b d S hx _ hc=>elt_U (waysF_of t10 (k + 4)) (by omega) hc
theorem sums_L (k:Nat):Sums (FT T G (k + 6)) 7 gL 12:=sums_gen k t7 (by omega) fun x c a b d S hx h1 hc=>elt_L (waysF_of t10 (k + 4)) (by omega) h1 hc
theorem sums_B (k:Nat):Sums (FT T G (k + 6)) 8 gB 11:=sums_gen k t8 (by omega) fun x c a b d S hx _ hc=>elt_B (waysF_of t10 (k + 4)) (by omega) hc
theorem takes (k:Nat):Takes (FT T G (k + 1)) 15:=takes_of t15 k
end K34
end
section
set_option exponentiation.threshold 3000
namespace K34
open PySem Z
noncomputable def tk2 (e:Ex):Ex:=.call 15 (.cons (.var 2) (.cons e .nil))
noncomputable def c2 (f:Nat) (a b:Ex):Ex:=.call f (.cons a (.cons b .nil))
noncomputable def one:Ex:=.cst (.int 1)
noncomputable def no:Sts:=.cons (.ret (.cst (.bl false))) .nil
noncomputable def e4:Int:=10 ^ (4:Int).toNat
noncomputable def e12:Int:=10 ^ (12:Int).toNat
noncomputable def p12:Ex:=.bin .pow (.cst (.int 10)) (.cst (.int 12))
theorem pw4 (S:Sto):binD .pow (.int 10) (.int 4) S=.ok (.int e4) S:=bin_pow (by decide +kernel) S
theorem pw12 (S:Sto):binD .pow (.int 10) (.int 12) S=.ok (.int e12) S:=bin_pow (by decide +kernel) S
theorem e12_eq:e12=1000000000000:=by decide +kernel
noncomputable def st1:St:=.asg (.var 2) (.call 14 (.cons (c2 13 (.var 0) (.var 1)) .nil))
noncomputable def st2:St:=.asg (.var 3) (.bin .add one (tk2 (.cst (.int 11))))
noncomputable def manE:Ex:=.idx (.lst (.cons (.cst (.int 25)) (.cons (.cst (.int 3)) .nil))) (.blt .int (.cons (.cmp .gt (.var 3) (.cst (.int 8))) .nil))
noncomputable def st3:St:=.asg (.var 4) (.bin .add (.var 3) (tk2 manE))
noncomputable def c4:Ex:=.cmp .ne (c2 3 (.bin .add (.var 4) one) (.var 3)) (.bin .add (c2 3 (.var 4) (.var 3)) (c2 3 (.var 4) (.bin .sub (.var 3) one)))
noncomputable def st5:St:=.asg (.var 5) (c2 3 (.var 4) (.var 3))
noncomputable def c6:Ex:=.or (.cmp .ne (c2 4 (.var 5) (.var 3)) (.tup (.cons (.var 4) .nil))) (.cmp .isnot (.call 5 (.cons (.tup (.cons (.var 4) .nil)) (.cons (.var 5) (.cons (.var 3) .nil)))) (.cst (.bl true)))
noncomputable def st7:St:=.asg (.var 6) (.lst (.cons (c2 6 (.var 5) (.var 3)) (.cons (c2 7 (.var 5) (.var 3)) (.cons (c2 8 (.var 5) (.var 3)) .nil))))
noncomputable def c8:Ex:=.cmp .ne (.var 6) (.lst (.cons (c2 3 (.var 4) (.bin .add (.var 3) one)) (.cons (c2 3 (.var 4) (.bin .sub (.var 3) one)) (.cons (c2 3 (.bin .add (.var 4) one) (.bin .add (.var 3) one)) .nil))))
noncomputable def farE:Exs:=.cons (.cst (.int 30)) (.cons (.bin .pow (.cst (.int 10)) (.cst (.int 4))) (.cons (.bin .add p12 one) .nil))
noncomputable def st9:St:=.asg (.var 7) (.idx (.lst farE) (tk2 (.cst (.int 3))))
noncomputable def twoE:Ex:=.lst (.cons (tk2 (.var 7)) (.cons (tk2 (.var 7)) .nil))
noncomputable def st10:St:=.unp [9,10] (.blt .sorted (.cons twoE .nil))
noncomputable def body11:Sts:=.cons (.ite (.cmp .gt (.cal (.var 8) (.cons (.var 9) (.cons (.var 3) .nil))) (.cal (.var 8) (.cons (.var 10) (.cons (.var 3) .nil)))) no .nil) .nil
noncomputable def st11:St:=.for (.var 8) (.val (.lst (.cons (.glb 2) (.cons (.glb 3) (.cons (.glb 4) .nil))))) body11
noncomputable def st12:St:=.par [11,12] (.cons (c2 6 (.var 9) (.var 3)) (.cons (c2 7 (.var 9) (.var 3)) .nil))
noncomputable def c13:Ex:=.or (.cmp .lt (c2 8 (.var 9) (.var 3)) (.var 11)) (.and (.cmp .le (.var 11) p12) (.cmp .gt (c2 7 (.var 11) (.bin .add (.var 3) one)) (.var 9)))
noncomputable def c14:Ex:=.and (.cmp .gt (.var 3) one) (.and (.cmp .le (.var 12) p12) (.cmp .lt (c2 6 (.var 12) (.bin .sub (.var 3) one)) (.var 9)))
noncomputable def c15:Ex:=.cmp .isnot (.call 5 (.cons (c2 4 (.var 9) (.var 3)) (.cons (.var 9) (.cons (.var 3) .nil)))) (.cst (.bl true))
noncomputable def ifN (c:Ex):St:=.ite c no .nil
noncomputable def tail11:Sts:=.cons st11 (.cons st12 (.cons (ifN c13) (.cons (ifN c14) (.cons (ifN c15) .nil))))
noncomputable def tail4:Sts:=.cons (ifN c4) (.cons st5 (.cons (ifN c6) (.cons st7 (.cons (ifN c8) (.cons st9 (.cons st10 tail11))))))
noncomputable def bodyL:Sts:=.cons st1 (.cons st2 (.cons st3 tail4))
noncomputable def fin:Sts:=.cons (.ret (.cst (.bl true))) .nil
theorem b_law_eq:b_law=.cons (.for (.var 1) (.rng (.cons (.blt .max (.cons (.cst (.int 1)) (.cons (.blt .min (.cons (.blt .len (.cons (.var 0) .nil)) (.cons (.cst (.int 6)) .nil))) .nil))) .nil)) bodyL) fin:=rfl
section
variable {F:Fn} {a0 a1 a2 a5 a6 a7 a8 a9 a10 a11 a12:Option D} {S S1 S2 S3:Sto}
theorem c4_gen {s t x y z:Int} (h1:F 3 [.int (t + 1),.int s] S=.ok (.int x) S) (h2:F 3 [.int t,.int s] S=.ok (.int y) S) (h3:F 3 [.int t,.int (s - 1)] S=.ok (.int z) S) (h:x=y + z) :
  ev F G c4 [a0,a1,a2,some (.int s),some (.int t),a5,a6,a7,a8,a9,a10,a11,a12] S=.ok (.bl false) S:=by
 have e:(!(x == y + z))=false:=by rw [h]; simp
 simp only [c4,c2,one,ev,evs,List.getElem?_cons_zero,List.getElem?_cons_succ,R.bind_ok,bin_add,bin_sub,h1,h2,h3,ne_int,e]
theorem one_big (t:Int) (S:Sto):(if [D.int t].length≤big then R.ok (tupI [t]) S else R.bad)=R.ok (tupI [t]) S:=if_pos (by show 1≤big; decide)
theorem isnot_t (S:Sto):cmpR .isnot (.bl true) (.bl true) S=.ok (.bl false) S:=rfl
theorem c6_gen {s t m:Int} (h1:F 4 [.int m,.int s] S=.ok (tupI [t]) S1) (h2:F 5 [tupI [t],.int m,.int s] S1=.ok (.bl true) S2) :
  ev F G c6 [a0,a1,a2,some (.int s),some (.int t),some (.int m),a6,a7,a8,a9,a10,a11,a12] S=.ok (.bl false) S2:=by
 have hne:=ne_rows [t] [t] S1
 rw [decide_eq_true rfl,Bool.not_true] at hne
 have e:D.tup [.int t]=tupI [t]:=rfl
 simp only [c6,c2,ev,evs,List.getElem?_cons_zero,List.getElem?_cons_succ,R.bind_ok,h1,one_big,e,hne,truD,h2,isnot_t]
theorem thr_big (x y z:D) (S:Sto):(if [x,y,z].length≤big then R.ok (D.ref S.length) (S++[.lst [x,y,z]]) else R.bad)=R.ok (D.ref S.length) (S++[.lst [x,y,z]]):=if_pos (by show 3≤big; decide)
theorem st7_gen {s m x y z:Int} (h1:F 6 [.int m,.int s] S=.ok (.int x) S1) (h2:F 7 [.int m,.int s] S1=.ok (.int y) S2) (h3:F 8 [.int m,.int s] S2=.ok (.int z) S3) {a4:Option D} :
  exe F G st7 [a0,a1,a2,some (.int s),a4,some (.int m),a6,a7,a8,a9,a10,a11,a12] S=.ok (.nx [a0,a1,a2,some (.int s),a4,some (.int m),some (.ref S3.length),a7,a8,a9,a10,a11,a12]) (S3++[.lst [.int x,.int y,.int z]]):=by
 exact asg_v (by simp only [c2,ev,evs,List.getElem?_cons_zero,List.getElem?_cons_succ,R.bind_ok,h1,h2,h3,thr_big])
theorem c8_gen {s t x y z:Int} {q:Nat} (h1:F 3 [.int t,.int (s + 1)] S=.ok (.int x) S) (h2:F 3 [.int t,.int (s - 1)] S=.ok (.int y) S) (h3:F 3 [.int (t + 1),.int (s + 1)] S=.ok (.int z) S) (hq:lstAt S q=some [.int x,.int y,.int z]) :
  ev F G c8 [a0,a1,a2,some (.int s),some (.int t),a5,some (.ref q),a7,a8,a9,a10,a11,a12] S=.ok (.bl false) (S++[.lst [.int x,.int y,.int z]]):=by
 have hne:cmpR .ne (.ref q) (.ref S.length) (S++[.lst [.int x,.int y,.int z]])=.ok (.bl false) (S++[.lst [.int x,.int y,.int z]]):=ne_ints (l:=[x,y,z]) (lst_app hq) last_lst
 simp only [c8,c2,one,ev,evs,List.getElem?_cons_zero,List.getElem?_cons_succ,R.bind_ok,bin_add,bin_sub,h1,h2,h3,thr_big,hne]
theorem evs_far (env:En) (S:Sto):evs F G farE env S=.ok [.int 30,.int e4,.int (e12 + 1)] S:=by
 simp only [farE,p12,one,evs,ev,R.bind_ok,pw4,pw12,bin_add]
theorem far_ok:∀ d∈[D.int 30,.int e4,.int (e12 + 1)],∃ f,d=.int f∧0 < f∧f≤1000000000001∧divOk f=true:=by
 intro d hd
 simp only [List.mem_cons,List.not_mem_nil,or_false] at hd
 rcases hd with rfl | rfl | rfl
 ·exact ⟨_,rfl,by decide +kernel,by decide +kernel,by decide +kernel⟩
 ·exact ⟨_,rfl,by decide +kernel,by decide +kernel,by decide +kernel⟩
 ·exact ⟨_,rfl,by decide +kernel,by decide +kernel,by decide +kernel⟩
theorem two_bigL (x y:D) (S:Sto):(if [x,y].length≤big then R.ok (D.ref S.length) (S++[.lst [x,y]]) else R.bad)=R.ok (D.ref S.length) (S++[.lst [x,y]]):=if_pos (by show 2≤big; decide)
theorem sorted2 {q:Nat} {a b:Int} (hq:lstAt S q=some [.int a,.int b]):bltD .sorted [.ref q] S=.ok (.ref S.length) (S++[.lst ((srtI [a,b]).map D.int)]):=by
 have e:allInts [D.int a,.int b]=some [a,b]:=rfl
 have e2:(isRef (.ref q) && decide ([a,b].length < 64))=true:=rfl
 simp only [bltD,seqD,hq,Option.bind_some,e,e2,if_true]
theorem st10_gen {p:Nat} {f v:Int} {a3 a4:Option D} (hT:Takes F 15) (hp:lstAt S p=some [.int v]) (h0:0 < f) (hd:divOk f=true) :
  ∃ lo hi S',0≤lo∧lo≤hi∧hi < f∧exe F G st10 [a0,a1,some (.ref p),a3,a4,a5,a6,some (.int f),a8,a9,a10,a11,a12] S=.ok (.nx [a0,a1,some (.ref p),a3,a4,a5,a6,some (.int f),a8,some (.int lo),some (.int hi),a11,a12]) S':=by
 have t1:=hT p v f S hp h0 hd
 have p1:lstAt (S.set p (.lst [.int (v / f)])) p=some [.int (v / f)]:=set_lst (lst_lt hp)
 have n0:=Int.emod_nonneg v (Int.ne_of_gt h0)
 have n1:=Int.emod_lt_of_pos v h0
 generalize S.set p (.lst [.int (v / f)])=S1 at t1 p1
 generalize v % f=a at t1 n0 n1
 generalize v / f=v1 at p1
 have t2:=hT p v1 f S1 p1 h0 hd
 have m0:=Int.emod_nonneg v1 (Int.ne_of_gt h0)
 have m1:=Int.emod_lt_of_pos v1 h0
 generalize S1.set p (.lst [.int (v1 / f)])=S2 at t2
 generalize v1 % f=b at t2 m0 m1
 have hs:=sorted2 (S:=S2++[.lst [.int a,.int b]]) (q:=S2.length) last_lst
 have hl:ev F G twoE [a0,a1,some (.ref p),a3,a4,a5,a6,some (.int f),a8,a9,a10,a11,a12] S=.ok (.ref S2.length) (S2++[.lst [.int a,.int b]]):=by
  simp only [twoE,tk2,ev,evs,List.getElem?_cons_zero,List.getElem?_cons_succ,R.bind_ok,t1,t2,two_bigL]
 have fin:∀ lo hi:Int,srtI [a,b]=[lo,hi]→exe F G st10 [a0,a1,some (.ref p),a3,a4,a5,a6,some (.int f),a8,a9,a10,a11,a12] S=.ok (.nx [a0,a1,some (.ref p),a3,a4,a5,a6,some (.int f),a8,some (.int lo),some (.int hi),a11,a12]) (S2++[.lst [.int a,.int b]]++[.lst [.int lo,.int hi]]):=fun lo hi e=>by
  rw [e] at hs
  have hs':bltD .sorted [.ref S2.length] (S2++[.lst [.int a,.int b]])=.ok (.ref (S2++[O.lst [.int a,.int b]]).length) (S2++[.lst [.int a,.int b]]++[.lst [.int lo,.int hi]]):=hs
  have hv:lstV (S2++[O.lst [.int a,.int b]]++[O.lst [.int lo,.int hi]]) (.ref (S2++[O.lst [.int a,.int b]]).length)=some [.int lo,.int hi]:=by
   simp only [lstV,isRef,if_true,seqD]; exact last_lst
  unfold st10
  rw [exe,ev,evs,hl,R.bind_ok,evs,R.bind_ok,R.bind_ok,hs',R.bind_ok,hv]
  rfl
 have e:=srt_two a b
 by_cases c:a≤b
 ·rw [if_pos c] at e; exact ⟨a,b,_,n0,c,m1,fin a b e⟩
 ·rw [if_neg c] at e; exact ⟨b,a,_,m0,by omega,n1,fin b a e⟩
theorem body11_gen {f:Nat} {nm:Str} {s lo hi x y:Int} {a4:Option D} (hf:fnIn f nm G=true) (h1:F f [.int lo,.int s] S=.ok (.int x) S1) (h2:F f [.int hi,.int s] S1=.ok (.int y) S2) (h:x≤y) :
  exes F G body11 [a0,a1,a2,some (.int s),a4,a5,a6,a7,some (.fn f nm),some (.int lo),some (.int hi),a11,a12] S=.ok (.nx [a0,a1,a2,some (.int s),a4,a5,a6,a7,some (.fn f nm),some (.int lo),some (.int hi),a11,a12]) S2:=by
 have e:cmpR .gt (.int x) (.int y) S2=.ok (.bl false) S2:=by
  have:decide (y < x)=false:=decide_eq_false (by omega)
  simp only [cmpR,cmpD,this]
 unfold body11
 rw [exes_nx (if_pass (S':=S2) (by simp only [ev,evs,List.getElem?_cons_zero,List.getElem?_cons_succ,R.bind_ok,hf,if_true,h1,h2,e])),exes]
theorem st12_gen {s lo x y:Int} {a4:Option D} (h1:F 6 [.int lo,.int s] S=.ok (.int x) S1) (h2:F 7 [.int lo,.int s] S1=.ok (.int y) S2) :
  exe F G st12 [a0,a1,a2,some (.int s),a4,a5,a6,a7,a8,some (.int lo),a10,a11,a12] S=.ok (.nx [a0,a1,a2,some (.int s),a4,a5,a6,a7,a8,some (.int lo),a10,some (.int x),some (.int y)]) S2:=by
 unfold st12
 rw [exe]
 simp only [c2,evs,ev,List.getElem?_cons_zero,List.getElem?_cons_succ,R.bind_ok,h1,h2]
 rfl
theorem cmp_lt (x y:Int) (S:Sto):cmpR .lt (.int x) (.int y) S=.ok (.bl (decide (x < y))) S:=rfl
theorem cmp_le (x y:Int) (S:Sto):cmpR .le (.int x) (.int y) S=.ok (.bl (decide (x≤y))) S:=rfl
theorem cmp_gt (x y:Int) (S:Sto):cmpR .gt (.int x) (.int y) S=.ok (.bl (decide (y < x))) S:=rfl
theorem c13_gen {s lo a b:Int} {a4:Option D} (h1:F 8 [.int lo,.int s] S=.ok (.int b) S1) (hb:a≤b) (h2:a≤e12→∃ l S2,F 7 [.int a,.int (s + 1)] S1=.ok (.int l) S2∧l≤lo) :
  ∃ S',ev F G c13 [a0,a1,a2,some (.int s),a4,a5,a6,a7,a8,some (.int lo),a10,some (.int a),a12] S=.ok (.bl false) S':=by
 have e1:decide (b < a)=false:=decide_eq_false (by omega)
 by_cases c:a≤e12
 ·obtain ⟨l,S2,h3,h4⟩:=h2 c
  have e2:decide (a≤e12)=true:=decide_eq_true c
  have e3:decide (lo < l)=false:=decide_eq_false (by omega)
  exact ⟨S2,by simp only [c13,c2,p12,one,ev,evs,List.getElem?_cons_zero,List.getElem?_cons_succ,R.bind_ok,h1,cmp_lt,cmp_le,cmp_gt,truD,e1,e2,e3,pw12,bin_add,h3]⟩
 ·have e2:decide (a≤e12)=false:=decide_eq_false c
  exact ⟨S1,by simp only [c13,c2,p12,one,ev,evs,List.getElem?_cons_zero,List.getElem?_cons_succ,R.bind_ok,h1,cmp_lt,cmp_le,truD,e1,e2,pw12]⟩
theorem c14_gen {s lo b:Int} {a4:Option D} (h2:1 < s→b≤e12→∃ l S2,F 6 [.int b,.int (s - 1)] S=.ok (.int l) S2∧lo≤l) :
  ∃ S',ev F G c14 [a0,a1,a2,some (.int s),a4,a5,a6,a7,a8,some (.int lo),a10,a11,some (.int b)] S=.ok (.bl false) S':=by
 by_cases c0:1 < s
 ·have e0:decide (1 < s)=true:=decide_eq_true c0
  by_cases c:b≤e12
  ·obtain ⟨l,S2,h3,h4⟩:=h2 c0 c
   have e2:decide (b≤e12)=true:=decide_eq_true c
   have e3:decide (l < lo)=false:=decide_eq_false (by omega)
   exact ⟨S2,by simp only [c14,c2,p12,one,ev,evs,List.getElem?_cons_zero,List.getElem?_cons_succ,R.bind_ok,cmp_lt,cmp_le,cmp_gt,truD,e0,e2,e3,pw12,bin_sub,h3]⟩
  ·have e2:decide (b≤e12)=false:=decide_eq_false c
   exact ⟨S,by simp only [c14,c2,p12,one,ev,evs,List.getElem?_cons_zero,List.getElem?_cons_succ,R.bind_ok,cmp_lt,cmp_le,cmp_gt,truD,e0,e2,pw12]⟩
 ·have e0:decide (1 < s)=false:=decide_eq_false c0
  exact ⟨S,by simp only [c14,c2,p12,one,ev,evs,List.getElem?_cons_zero,List.getElem?_cons_succ,R.bind_ok,cmp_gt,truD,e0]⟩
theorem c15_gen {s lo:Int} {d:D} {a4:Option D} (h1:F 4 [.int lo,.int s] S=.ok d S1) (h2:F 5 [d,.int lo,.int s] S1=.ok (.bl true) S2) :
  ev F G c15 [a0,a1,a2,some (.int s),a4,a5,a6,a7,a8,some (.int lo),a10,a11,a12] S=.ok (.bl false) S2:=by
 simp only [c15,c2,ev,evs,List.getElem?_cons_zero,List.getElem?_cons_succ,R.bind_ok,h1,h2,isnot_t]
theorem ifN_pass {c:Ex} {env:En} {S':Sto} (h:ev F G c env S=.ok (.bl false) S'):exe F G (ifN c) env S=.ok (.nx env) S':=if_pass h
end
end K34
end
section
set_option exponentiation.threshold 3000
namespace K34
open PySem Z
structure Fs (F:Fn):Prop where
 ch:∀ (n s:Nat) (S:Sto),n≤1000000000000→s≤12→F 3 [.int n,.int s] S=.ok (.int (C n s)) S
 wr:∀ (n s:Nat) (S:Sto),n≤1000000000000→1≤s→s≤12→∃ w,F 4 [.int n,.int s] S=.ok (tupI w) (S++[.lst (w.map D.int)])∧Wr s n w
 isw:∀ (n s:Nat) (w:List Int) (S:Sto),Wr s n w→n≤1000000000000→1≤s→s≤12→∃ X,F 5 [tupI w,.int n,.int s] S=.ok (.bl true) (S++X)
 up:Sums F 6 gU 11
 low:Sums F 7 gL 12
 bag:Sums F 8 gB 11
 tk:Takes F 15
theorem log_of {x:Int} (h1:0≤x) (h2:x≤2000000000010):x.natAbs.log2 < 1920:=by
 have:x.natAbs < 2 ^ 41:=by
  have e:(2:Nat) ^ 41=2199023255552:=by decide
  rw [e]; omega
 have:=log_le this (by decide)
 omega
theorem fs (k:Nat):Fs (FT T G (k + 6)) where
 ch n s S h1 h2:=choose (k + 3) n s S h1 h2
 wr n s S h1 h2 h3:=writing (k + 2) n s S h1 h2 h3
 isw n s w S hw h1 h2 h3:=by
  have t:Thing S (tupI w):=(kp_row (p:=0) (S:=S) (fun x hx=>log_of (wr_bd hw x hx).1 (by have:=(wr_bd hw x hx).2; omega)) (by have:=wr_len hw; omega)).now
  obtain ⟨X,h⟩:=is_writing (k + 1) n s t h1 h2 h3
  rw [lisw_row hw,decide_eq_true rfl] at h
  exact ⟨X,h⟩
 up:=sums_U k
 low:=sums_L k
 bag:=sums_B k
 tk:=takes (k + 5)
section
variable {F:Fn} {a0 a1 a2 a5 a6 a7 a8 a9 a10 a11 a12:Option D} {S S1 S2 S3:Sto}
theorem cast_le {x y:Nat} (h:x≤y):(x:Int)≤(y:Int):=Int.ofNat_le.mpr h
theorem tail11_ok (h:Fs F) {s lo hi:Nat} {a4:Option D} (hs1:1≤s) (hs:s≤11) (hl:lo≤hi) (hh:hi≤1000000000000) :
  ∃ e S',exes F G tail11 [a0,a1,a2,some (.int s),a4,a5,a6,a7,a8,some (.int lo),some (.int hi),a11,a12] S=.ok (.nx e) S'∧∃ b2 b3 b4 b5 b6 b7 b8 b9 b10 b11 b12,e=[a0,a1,b2,b3,b4,b5,b6,b7,b8,b9,b10,b11,b12]:=by
 have hl':lo≤1000000000000:=Nat.le_trans hl hh
 have hv:ev F G (.lst (.cons (.glb 2) (.cons (.glb 3) (.cons (.glb 4) .nil)))) [a0,a1,a2,some (.int s),a4,a5,a6,a7,a8,some (.int lo),some (.int hi),a11,a12] S=.ok (.ref S.length) (S++[.lst [.fn 6 "most_above",.fn 7 "least_below",.fn 8 "bags_above"]]):=rfl
 have one:∀ (f:Nat) (g:Nat→Nat→Nat) (S:Sto),Up g→Sums F f g 11→∃ (x y:Nat) (X Y:Sto),F f [.int lo,.int s] S=.ok (.int x) (S++X)∧F f [.int hi,.int s] (S++X)=.ok (.int y) (S++X++Y)∧x≤y:=fun f g S u hf=>by
  obtain ⟨w,X,w1,f1⟩:=hf lo s S hl' hs1 hs
  obtain ⟨w',Y,w2,f2⟩:=hf hi s (S++X) hh hs1 hs
  exact ⟨_,_,X,Y,f1,f2,wr_mono u w1 w2 hl⟩
 have low11:Sums F 7 gL 11:=fun n s S q1 q2 q3=>h.low n s S q1 q2 (by omega)
 obtain ⟨e1,S1,r1,b8,k1,rfl⟩:=exe_lst (F:=F) (G:=G) (t:=.var 8) (b:=body11) (fun i e S'=>∃ b8,lstAt S' S.length=some [.fn 6 "most_above",.fn 7 "least_below",.fn 8 "bags_above"]∧e=[a0,a1,a2,some (.int s),a4,a5,a6,a7,b8,some (.int lo),some (.int hi),a11,a12]) hv last_lst (fun i e S' ⟨_,q,_⟩=>q) ⟨a8,last_lst,rfl⟩
  (fun i d e S' hd hP=>by
   obtain ⟨b8,q,rfl⟩:=hP
   have step:∀ (f:Nat) (nm:Str) (g:Nat→Nat→Nat),d=.fn f nm→fnIn f nm G=true→Up g→Sums F f g 11→∃ e1 e2 S2,setTg (.var 8) d [a0,a1,a2,some (.int s),a4,a5,a6,a7,b8,some (.int lo),some (.int hi),a11,a12]=some e1∧exes F G body11 e1 S'=.ok (.nx e2) S2∧∃ b8,lstAt S2 S.length=some [.fn 6 "most_above",.fn 7 "least_below",.fn 8 "bags_above"]∧e2=[a0,a1,a2,some (.int s),a4,a5,a6,a7,b8,some (.int lo),some (.int hi),a11,a12]:=fun f nm g ed hf u hg=>by
    subst ed
    obtain ⟨x,y,X,Y,f1,f2,hxy⟩:=one f g S' u hg
    exact ⟨_,_,_,rfl,body11_gen hf f1 f2 (cast_le hxy),_,lst_app (lst_app q),rfl⟩
   match i,hd with
   | 0,hd=>exact step 6 "most_above" gU (by cases hd; rfl) rfl up_U h.up
   | 1,hd=>exact step 7 "least_below" gL (by cases hd; rfl) rfl up_L low11
   | 2,hd=>exact step 8 "bags_above" gB (by cases hd; rfl) rfl up_B h.bag
   | i + 3,hd=>cases hd)
 have r1':exe F G st11 [a0,a1,a2,some (.int s),a4,a5,a6,a7,a8,some (.int lo),some (.int hi),a11,a12] S=.ok (.nx [a0,a1,a2,some (.int s),a4,a5,a6,a7,b8,some (.int lo),some (.int hi),a11,a12]) S1:=r1
 obtain ⟨w,X1,hw,f1⟩:=h.up lo s S1 hl' hs1 hs
 obtain ⟨w',X2,hw',f2⟩:=h.low lo s (S1++X1) hl' hs1 (by omega)
 have ew:=hw'.uniq hw
 subst ew
 have r2:=st12_gen (a0:=a0) (a1:=a1) (a2:=a2) (a5:=a5) (a6:=a6) (a7:=a7) (a8:=b8) (a10:=some (.int hi)) (a11:=a11) (a12:=a12) (a4:=a4) f1 f2
 generalize S1++X1++X2=S2 at r2
 obtain ⟨w3,X3,hw3,f3⟩:=h.bag lo s S2 hl' hs1 hs
 have ew:=hw3.uniq hw
 subst ew
 obtain ⟨S3,r3⟩:=c13_gen (F:=F) (a0:=a0) (a1:=a1) (a2:=a2) (a5:=a5) (a6:=a6) (a7:=a7) (a8:=b8) (a10:=some (.int hi)) (a12:=some (.int (gtot gL s w3:Nat))) (a4:=a4) (a:=(gtot gU s w3:Nat)) f3 (cast_le U_le_B) (fun ha=>by
  rw [e12_eq] at ha
  obtain ⟨w4,X4,hw4,f4⟩:=h.low (gtot gU s w3) (s + 1) (S2++X3) (by omega) (by omega) (by omega)
  refine ⟨_,_,f4,cast_le (low_up hw hw4)⟩)
 obtain ⟨S4,r4⟩:=c14_gen (F:=F) (S:=S3) (a0:=a0) (a1:=a1) (a2:=a2) (a5:=a5) (a6:=a6) (a7:=a7) (a8:=b8) (a10:=some (.int hi)) (a11:=some (.int (gtot gU s w3:Nat))) (a4:=a4) (s:=s) (lo:=lo) (b:=(gtot gL s w3:Nat)) (fun hs2 hb=>by
  rw [e12_eq] at hb
  obtain ⟨k,rfl⟩:∃ k,s=k + 1:=⟨s - 1,by omega⟩
  obtain ⟨w4,X4,hw4,f4⟩:=h.up (gtot gL (k + 1) w3) k S3 (by omega) (by omega) (by omega)
  have e:((k + 1:Nat):Int) - 1=(k:Int):=by omega
  rw [e]
  exact ⟨_,_,f4,cast_le (up_low hw hw4)⟩)
 obtain ⟨w5,f5,hw5⟩:=h.wr lo s S4 hl' hs1 (by omega)
 obtain ⟨X6,f6⟩:=h.isw lo s w5 (S4++[.lst (w5.map D.int)]) hw5 hl' hs1 (by omega)
 have r5:=c15_gen (a0:=a0) (a1:=a1) (a2:=a2) (a5:=a5) (a6:=a6) (a7:=a7) (a8:=b8) (a10:=some (.int hi)) (a11:=some (.int (gtot gU s w3:Nat))) (a12:=some (.int (gtot gL s w3:Nat))) (a4:=a4) f5 f6
 refine ⟨_,S4++[.lst (w5.map D.int)]++X6,?_,a2,some (.int s),a4,a5,a6,a7,b8,some (.int lo),some (.int hi),some (.int (gtot gU s w3:Nat)),some (.int (gtot gL s w3:Nat)),rfl⟩
 unfold tail11
 rw [exes_nx r1',exes_nx r2,exes_nx (ifN_pass r3),exes_nx (ifN_pass r4),exes_nx (ifN_pass r5),exes]
end
end K34
end
section
set_option exponentiation.threshold 3000
namespace K34
open PySem Z
section
variable {F:Fn} {a0 a1 a2 a5 a6 a7 a8 a9 a10 a11 a12:Option D} {S S1 S2 S3:Sto}
theorem C_small {t s:Nat} (ht:t≤39):C t s≤1000000000000:=by
 have h1:=C_two t s
 have h2:2 ^ t≤2 ^ 39:=Nat.pow_le_pow_right (by decide) ht
 have e:(2:Nat) ^ 39=549755813888:=by decide
 rw [e] at h2
 omega
theorem pasc {t s:Nat} (hs:1≤s):(C (t + 1) s:Int)=(C t s:Int) + (C t (s - 1):Int):=by
 obtain ⟨k,rfl⟩:∃ k,s=k + 1:=⟨s - 1,by omega⟩
 rw [C_succ,Nat.add_sub_cancel]
 generalize C t k=x
 generalize C t (k + 1)=y
 omega
theorem d3:divOk 3=true:=by decide +kernel
theorem sums_one {f m s t n:Nat} {g:Nat→Nat→Nat} (h:Sums F f g m) (S:Sto) (hn:n=C t s) (hn2:n≤1000000000000) (hs1:1≤s) (hs:s≤m) (ht:s≤t):∃ X,F f [.int n,.int s] S=.ok (.int (g t s:Nat)) (S++X):=by
 obtain ⟨w,X,hw,f1⟩:=h n s S hn2 hs1 hs
 subst hn
 have e:=hw.uniq (wr_one hs1 ht)
 subst e
 rw [gtot_one g hs1] at f1
 exact ⟨X,f1⟩
theorem tail4_ok (h:Fs F) {p s t:Nat} {v:Int} (hp:lstAt S p=some [.int v]) (hs1:1≤s) (hs:s≤11) (hst:s≤t) (ht:t≤39) :
  ∃ e S',exes F G tail4 [a0,a1,some (.ref p),some (.int s),some (.int t),a5,a6,a7,a8,a9,a10,a11,a12] S=.ok (.nx e) S'∧∃ b2 b3 b4 b5 b6 b7 b8 b9 b10 b11 b12,e=[a0,a1,b2,b3,b4,b5,b6,b7,b8,b9,b10,b11,b12]:=by
 have et:(t:Int) + 1=((t + 1:Nat):Int):=by omega
 have es:(s:Int) + 1=((s + 1:Nat):Int):=by omega
 have es1:(s:Int) - 1=((s - 1:Nat):Int):=by omega
 have r1:=c4_gen (F:=F) (S:=S) (a0:=a0) (a1:=a1) (a2:=some (.ref p)) (a5:=a5) (a6:=a6) (a7:=a7) (a8:=a8) (a9:=a9) (a10:=a10) (a11:=a11) (a12:=a12) (s:=s) (t:=t) (by rw [et]; exact h.ch (t + 1) s S (by omega) (by omega)) (h.ch t s S (by omega) (by omega)) (by rw [es1]; exact h.ch t (s - 1) S (by omega) (by omega)) (pasc hs1)
 have r2:exe F G st5 [a0,a1,some (.ref p),some (.int s),some (.int t),a5,a6,a7,a8,a9,a10,a11,a12] S=.ok (.nx [a0,a1,some (.ref p),some (.int s),some (.int t),some (.int (C t s:Nat)),a6,a7,a8,a9,a10,a11,a12]) S :=
  asg_v (by simp only [c2,ev,evs,List.getElem?_cons_zero,List.getElem?_cons_succ,R.bind_ok,h.ch t s S (by omega) (by omega)])
 have hm:C t s≤1000000000000:=C_small ht
 obtain ⟨n,hn⟩:∃ n,n=C t s:=⟨_,rfl⟩
 rw [← hn] at r2 hm
 have hw1:Wr s n [(t:Int)]:=by rw [hn]; exact wr_one hs1 hst
 obtain ⟨w,f3,hw⟩:=h.wr n s S hm hs1 (by omega)
 have e:=hw.uniq hw1
 subst e
 obtain ⟨X4,f4⟩:=h.isw n s [(t:Int)] (S++[.lst ([(t:Int)].map D.int)]) hw1 hm hs1 (by omega)
 have r3:=c6_gen (a0:=a0) (a1:=a1) (a2:=some (.ref p)) (a6:=a6) (a7:=a7) (a8:=a8) (a9:=a9) (a10:=a10) (a11:=a11) (a12:=a12) f3 f4
 have p3:lstAt (S++[O.lst ([(t:Int)].map D.int)]++X4) p=some [.int v]:=lst_app (lst_app hp)
 generalize S++[O.lst ([(t:Int)].map D.int)]++X4=S3 at r3 p3
 obtain ⟨X5,f5⟩:=sums_one h.up S3 hn hm hs1 hs hst
 obtain ⟨X6,f6⟩:=sums_one h.low (S3++X5) hn hm hs1 (by omega) hst
 obtain ⟨X7,f7⟩:=sums_one h.bag (S3++X5++X6) hn hm hs1 hs hst
 have r4:=st7_gen (a0:=a0) (a1:=a1) (a2:=some (.ref p)) (a6:=a6) (a7:=a7) (a8:=a8) (a9:=a9) (a10:=a10) (a11:=a11) (a12:=a12) (a4:=some (.int t)) f5 f6 f7
 have p4:lstAt (S3++X5++X6++X7++[O.lst [.int (gU t s:Nat),.int (gL t s:Nat),.int (gB t s:Nat)]]) p=some [.int v]:=lst_app (lst_app (lst_app (lst_app p3)))
 have q4:lstAt (S3++X5++X6++X7++[O.lst [.int (gU t s:Nat),.int (gL t s:Nat),.int (gB t s:Nat)]]) (S3++X5++X6++X7).length=some [.int (gU t s:Nat),.int (gL t s:Nat),.int (gB t s:Nat)]:=last_lst
 generalize (S3++X5++X6++X7).length=q at r4 q4
 generalize S3++X5++X6++X7++[O.lst [.int (gU t s:Nat),.int (gL t s:Nat),.int (gB t s:Nat)]]=S4 at r4 p4 q4
 have r5:=c8_gen (F:=F) (S:=S4) (a0:=a0) (a1:=a1) (a2:=some (.ref p)) (a5:=some (.int n)) (a7:=a7) (a8:=a8) (a9:=a9) (a10:=a10) (a11:=a11) (a12:=a12) (s:=s) (t:=t) (by rw [es]; exact h.ch t (s + 1) S4 (by omega) (by omega)) (by rw [es1]; exact h.ch t (s - 1) S4 (by omega) (by omega)) (by rw [es,et]; exact h.ch (t + 1) (s + 1) S4 (by omega) (by omega)) q4
 have p5:lstAt (S4++[O.lst [.int (gU t s:Nat),.int (gL t s:Nat),.int (gB t s:Nat)]]) p=some [.int v]:=lst_app p4
 generalize S4++[O.lst [.int (gU t s:Nat),.int (gL t s:Nat),.int (gB t s:Nat)]]=S5 at r5 p5
 obtain ⟨df,mf,ef⟩:=pick (G:=G) h.tk (q:=2) (c:=3) (p:=p) (v:=v) (env:=[a0,a1,some (.ref p),some (.int s),some (.int t),some (.int n),some (.ref q),a7,a8,a9,a10,a11,a12]) (evs_far _ S5) rfl (by decide) (by show 3≤big; decide) d3 rfl p5
 have p6:=pot_after (ds:=[.int 30,.int e4,.int (e12 + 1)]) (c:=3) p5
 obtain ⟨f,rfl,f0,f1,fd⟩:=far_ok df mf
 generalize (S5++[O.lst [.int 30,.int e4,.int (e12 + 1)]]).set p (.lst [.int (v / 3)])=S6 at ef p6
 generalize v / 3=v6 at p6
 have r6:exe F G st9 [a0,a1,some (.ref p),some (.int s),some (.int t),some (.int n),some (.ref q),a7,a8,a9,a10,a11,a12] S5=.ok (.nx [a0,a1,some (.ref p),some (.int s),some (.int t),some (.int n),some (.ref q),some (.int f),a8,a9,a10,a11,a12]) S6:=asg_v ef
 obtain ⟨lo,hi,S7,l0,l1,l2,r7⟩:=st10_gen (a0:=a0) (a1:=a1) (a3:=some (.int s)) (a4:=some (.int t)) (a5:=some (.int n)) (a6:=some (.ref q)) (a8:=a8) (a9:=a9) (a10:=a10) (a11:=a11) (a12:=a12) h.tk p6 f0 fd
 obtain ⟨x,rfl⟩:∃ x:Nat,lo=(x:Int):=⟨lo.toNat,by omega⟩
 obtain ⟨y,rfl⟩:∃ y:Nat,hi=(y:Int):=⟨hi.toNat,by omega⟩
 obtain ⟨e,S8,r8,q8⟩:=tail11_ok (S:=S7) (a0:=a0) (a1:=a1) (a2:=some (.ref p)) (a4:=some (.int t)) (a5:=some (.int n)) (a6:=some (.ref q)) (a7:=some (.int f)) (a8:=a8) (a11:=a11) (a12:=a12) h hs1 hs (lo:=x) (hi:=y) (by omega) (by omega)
 refine ⟨e,S8,?_,q8⟩
 unfold tail4
 rw [exes_nx (ifN_pass r1),exes_nx r2,exes_nx (ifN_pass r3),exes_nx r4,exes_nx (ifN_pass r5),exes_nx r6,exes_nx r7]
 exact r8
theorem d11:divOk 11=true:=by decide +kernel
theorem d25:divOk 25=true:=by decide +kernel
theorem int_bl (b:Bool) (S:Sto):bltD .int [.bl b] S=.ok (.int (i2 b)) S:=rfl
theorem idx_two {q:Nat} {x y:D} (h:lstAt S q=some [x,y]):idxR (.ref q) (.int 0) S=.ok x S∧idxR (.ref q) (.int 1) S=.ok y S:=by
 constructor <;> simp only [idxR,idxD,seqD,h,Option.bind_some] <;> rfl
theorem man_ev {s:Int} {a3 a4:Option D} (h3:a3=some (.int s)):ev F G manE [a0,a1,a2,a3,a4,a5,a6,a7,a8,a9,a10,a11,a12] S=.ok (.int (if 8 < s then 3 else 25)) (S++[.lst [.int 25,.int 3]]):=by
 subst h3
 have hg:cmpR .gt (.int s) (.int 8) (S++[.lst [.int 25,.int 3]])=.ok (.bl (decide (8 < s))) (S++[.lst [.int 25,.int 3]]):=rfl
 by_cases c:8 < s
 ·have hi:idxR (.ref S.length) (.int 1) (S++[.lst [.int 25,.int 3]])=.ok (.int 3) (S++[.lst [.int 25,.int 3]]):=(idx_two last_lst).2
  rw [if_pos c]
  rw [decide_eq_true c] at hg
  simp only [manE,ev,evs,List.getElem?_cons_zero,List.getElem?_cons_succ,R.bind_ok,two_bigL,hg,int_bl,i2,if_true,Bool.false_eq_true,if_false,hi]
 ·have hi:idxR (.ref S.length) (.int 0) (S++[.lst [.int 25,.int 3]])=.ok (.int 25) (S++[.lst [.int 25,.int 3]]):=(idx_two last_lst).1
  rw [if_neg c]
  rw [decide_eq_false c] at hg
  simp only [manE,ev,evs,List.getElem?_cons_zero,List.getElem?_cons_succ,R.bind_ok,two_bigL,hg,int_bl,i2,if_true,Bool.false_eq_true,if_false,hi]
end
theorem turn (ns:List Int) (i:Nat) (a2 a3 a4 a5 a6 a7 a8 a9 a10 a11 a12:Option D) (S:Sto) :
  ∃ e S',exes (FT T G 12) G bodyL [some (.fro (ns.map D.int)),some (.int i),a2,a3,a4,a5,a6,a7,a8,a9,a10,a11,a12] S=.ok (.nx e) S'∧∃ b1 b2 b3 b4 b5 b6 b7 b8 b9 b10 b11 b12,e=[some (.fro (ns.map D.int)),b1,b2,b3,b4,b5,b6,b7,b8,b9,b10,b11,b12]:=by
 generalize hsc:some (D.fro (ns.map D.int))=sc
 obtain ⟨c,hc⟩:=den_cell (F:=FT T G 11) (G:=G) ns i S
 obtain ⟨v,hv⟩:=den_pot (F:=FT T G 11) (G:=G) c S
 have f8:FT T G 12 13 [.fro (ns.map D.int),.int i] S=.ok (.int c) S:=hc
 have f9:FT T G 12 14 [.int c] S=.ok (.ref S.length) (S++[.lst [.int v]]):=hv
 have s1:exe (FT T G 12) G st1 [sc,some (.int i),a2,a3,a4,a5,a6,a7,a8,a9,a10,a11,a12] S=.ok (.nx [sc,some (.int i),some (.ref S.length),a3,a4,a5,a6,a7,a8,a9,a10,a11,a12]) (S++[.lst [.int v]]):=asg_v (by
  subst hsc
  simp only [c2,ev,evs,List.getElem?_cons_zero,List.getElem?_cons_succ,R.bind_ok,f8,f9])
 have p1:lstAt (S++[O.lst [.int v]]) S.length=some [.int v]:=last_lst
 generalize S++[O.lst [.int v]]=S1 at s1 p1
 generalize S.length=p at s1 p1
 have h:Fs (FT T G 12):=fs 6
 generalize FT T G 12=F at s1 h
 have t2:=h.tk p v 11 S1 p1 (by decide) d11
 have m0:=Int.emod_nonneg v (show (11:Int)≠0 by decide)
 have m1:=Int.emod_lt_of_pos v (show (0:Int) < 11 by decide)
 obtain ⟨s,hs⟩:∃ s:Nat,1 + v % 11=(s:Int):=⟨(1 + v % 11).toNat,by omega⟩
 have s2:exe F G st2 [sc,some (.int i),some (.ref p),a3,a4,a5,a6,a7,a8,a9,a10,a11,a12] S1=.ok (.nx [sc,some (.int i),some (.ref p),some (.int s),a4,a5,a6,a7,a8,a9,a10,a11,a12]) (S1.set p (.lst [.int (v / 11)])):=asg_v (by
  simp only [tk2,one,ev,evs,List.getElem?_cons_zero,List.getElem?_cons_succ,R.bind_ok,t2,bin_add,hs])
 have p2:lstAt (S1.set p (.lst [.int (v / 11)])) p=some [.int (v / 11)]:=set_lst (lst_lt p1)
 generalize S1.set p (.lst [.int (v / 11)])=S2 at s2 p2
 have hs1:1≤s:=by omega
 have hs2:s≤11:=by omega
 generalize v / 11=v2 at p2
 have hm:=man_ev (F:=F) (S:=S2) (s:=s) (a0:=sc) (a1:=some (.int i)) (a2:=some (.ref p)) (a3:=some (.int s)) (a4:=a4) (a5:=a5) (a6:=a6) (a7:=a7) (a8:=a8) (a9:=a9) (a10:=a10) (a11:=a11) (a12:=a12) rfl
 have hq:∃ far:Int,(if (8:Int) < (s:Int) then (3:Int) else 25)=far∧0 < far∧divOk far=true∧far≤25:=by
  split
  ·exact ⟨3,rfl,by decide,d3,by decide⟩
  ·exact ⟨25,rfl,by decide,d25,by decide⟩
 obtain ⟨far,hf,f0,fd,f25⟩:=hq
 rw [hf] at hm
 have p3:lstAt (S2++[O.lst [.int 25,.int 3]]) p=some [.int v2]:=lst_app p2
 have t3:=h.tk p v2 far (S2++[O.lst [.int 25,.int 3]]) p3 f0 fd
 have n0:=Int.emod_nonneg v2 (Int.ne_of_gt f0)
 have n1:=Int.emod_lt_of_pos v2 f0
 obtain ⟨t,ht⟩:∃ t:Nat,(s:Int) + v2 % far=(t:Int):=⟨((s:Int) + v2 % far).toNat,by omega⟩
 have s3:exe F G st3 [sc,some (.int i),some (.ref p),some (.int s),a4,a5,a6,a7,a8,a9,a10,a11,a12] S2=.ok (.nx [sc,some (.int i),some (.ref p),some (.int s),some (.int t),a5,a6,a7,a8,a9,a10,a11,a12]) ((S2++[O.lst [.int 25,.int 3]]).set p (.lst [.int (v2 / far)])):=asg_v (by
  simp only [tk2,ev,evs,List.getElem?_cons_zero,List.getElem?_cons_succ,R.bind_ok,hm,t3,bin_add,ht])
 have p4:lstAt ((S2++[O.lst [.int 25,.int 3]]).set p (.lst [.int (v2 / far)])) p=some [.int (v2 / far)]:=set_lst (lst_lt p3)
 generalize (S2++[O.lst [.int 25,.int 3]]).set p (.lst [.int (v2 / far)])=S3 at s3 p4
 obtain ⟨e,S4,r4,b2,b3,b4,b5,b6,b7,b8,b9,b10,b11,b12,he⟩:=tail4_ok (a0:=sc) (a1:=some (.int i)) (a5:=a5) (a6:=a6) (a7:=a7) (a8:=a8) (a9:=a9) (a10:=a10) (a11:=a11) (a12:=a12) h p4 hs1 hs2 (t:=t) (by omega) (by omega)
 refine ⟨e,S4,?_,some (.int i),b2,b3,b4,b5,b6,b7,b8,b9,b10,b11,b12,he⟩
 unfold bodyL
 rw [exes_nx s1,exes_nx s2,exes_nx s3]
 exact r4
theorem law_true (ns:List Int) (h:ns.length≤63):∃ S',FT T G 13 16 [.fro (ns.map D.int)] []=.ok (.bl true) S':=by
 show ∃ S',den (FT T G 12) G d_law [.fro (ns.map D.int)] []=_
 have c1:([D.fro (ns.map D.int)].map some++List.replicate (13 - 1) none:En)=[some (.fro (ns.map D.int)),none,none,none,none,none,none,none,none,none,none,none,none]:=rfl
 obtain ⟨m,hm,m0,m1⟩:=Z.turns (F:=FT T G 12) (G:=G) (env:=[some (.fro (ns.map D.int)),none,none,none,none,none,none,none,none,none,none,none,none]) (S:=[]) (ns:=ns) 6 (by decide) (by decide) rfl
 obtain ⟨xs,hx,hl⟩:=rng1_some (m:=m) m0 (lt20 (by omega))
 obtain ⟨e',S',f2,b1,b2,b3,b4,b5,b6,b7,b8,b9,b10,b11,b12,rfl⟩:=exe_rng (F:=FT T G 12) (G:=G) (t:=.var 1) (b:=bodyL) (xs:=xs)
  (fun i e S'=>∃ b1 b2 b3 b4 b5 b6 b7 b8 b9 b10 b11 b12,e=[some (.fro (ns.map D.int)),b1,b2,b3,b4,b5,b6,b7,b8,b9,b10,b11,b12]) hm hx ⟨none,none,none,none,none,none,none,none,none,none,none,none,rfl⟩ (fun i d e S' hd hP=>by
   obtain ⟨b1,b2,b3,b4,b5,b6,b7,b8,b9,b10,b11,b12,rfl⟩:=hP
   obtain ⟨rfl,hi⟩:=rng1_get hx hd
   obtain ⟨e2,S2,t1,t2⟩:=turn ns i b2 b3 b4 b5 b6 b7 b8 b9 b10 b11 b12 S'
   exact ⟨_,e2,S2,rfl,t1,t2⟩)
 refine ⟨S',?_⟩
 simp only [den,d_law,List.length,if_true]
 rw [b_law_eq,c1,exes_nx f2]
 rfl
end K34
end
section
namespace K34
open PySem PySem.Spec PyProof.Rows L2 Z
noncomputable def AllD (K:PySem.W.Frag) (mg:Str→Option Value) (fns:List (Str×Nat×Bool)) (gns:List Str):List (Str×Nat×Bool)→List Df→Prop
 | [],[]=>True
 | x :: r,d :: ds=>DefOk K mg fns gns d x.1 x.2.1 x.2.2∧AllD K mg fns gns r ds
 | _,_=>False
theorem AllD.get {K:PySem.W.Frag} {mg:Str→Option Value} {fns:List (Str×Nat×Bool)} {gns:List Str}:∀ {fs:List (Str×Nat×Bool)} {ds:List Df},AllD K mg fns gns fs ds→∀ (f:Nat) nm ar fl,fs[f]?=some (nm,ar,fl)→∃ d,ds[f]?=some d∧DefOk K mg fns gns d nm ar fl
 | [],[],_,f,nm,ar,fl,e=>by cases e
 | x :: r,d :: ds,h,0,nm,ar,fl,e=>by cases e; exact ⟨d,rfl,h.1⟩
 | x :: r,d :: ds,h,f + 1,nm,ar,fl,e=>AllD.get h.2 f nm ar fl e
theorem all_mk {P:Program} {w:World} {K:PySem.W.Frag} {h:Heap} {mg:Str→Option Value} {fa:Addr} {t0 t1:Tok} (X:K.In h) (Gm:h.Ns mainGlobals mg) (hfa:mg "law" = some (.ref fa))
  (er:errB K=true) (bl:bltB K=true) (g0:PySem.W.nsIn K mainGlobals "GREATEST_NUMBER" = some (some (.int 1000000000000 t0))) (g1:PySem.W.nsIn K mainGlobals "MOST_CHOSEN" = some (some (.int 12 t1)))
  (f0:FunAt K "is_whole" (top 4)) (f1:FunAt K "is_whole_within" (top 5)) (f2:FunAt K "is_whole_tuple" (top 6)) (f3:FunAt K "choose" (top 10)) (f4:FunAt K "writing" (top 11)) (f5:FunAt K "is_writing" (top 12)) (f6:FunAt K "most_above" (top 13)) (f7:FunAt K "least_below" (top 14)) (f8:FunAt K "bags_above" (top 15)) (f9:FunAt K "check_written" (top 16)) (f10:FunAt K "ways" (top 17)) (f11:FunAt K "most_things" (top 18)) (f12:FunAt K "written_parts" (top 19)) (f13:FunAt K "_law_cell_at" (top 21)) (f14:FunAt K "_law_pot" (top 22)) (f15:FunAt K "_law_take" (top 23)) (f16:FunAt K "law" (top 24)) :
  ∃ fd:FuncData,(∀ (s:Shared) (u:Value),BindsTo s fd ⟨[u],[]⟩ [("_law_script",u)])∧∀ base:Heap,K.In base→base.Ns mainGlobals mg→FnOk P w K mg base (CXd P w) 13 fa fd ["_law_script"] (spD K 1 (FT T G 13 16)):=by
 have er':=errB_ok er
 have bl':=bltB_ok X Gm bl
 have hg:∀ (k:Nat) nm,gns[k]?=some nm→∃ u d,mg nm=some u∧G[k]?=some d∧∀ ρ H,∃ v,RelV v u∧RD K ρ H d v:=fun k nm e=>by
  match k,e with
  | 0,e=>cases e; exact glb_int X Gm g0
  | 1,e=>cases e; exact glb_int X Gm g1
  | 2,e=>cases e; exact glb_fn X Gm f6
  | 3,e=>cases e; exact glb_fn X Gm f7
  | 4,e=>cases e; exact glb_fn X Gm f8
  | k + 5,e=>cases e
 have hD:AllD K mg fns gns fns T :=
  And.intro (defOk_mk (st:=top 4) (N:=n_is_whole) X Gm f0 s_is_whole m_is_whole rfl rfl rfl fun _ _ _ _ _ _ us hl=>match us,hl with | [_],_=>rfl) (
  And.intro (defOk_mk (st:=top 5) (N:=n_is_whole_within) X Gm f1 s_is_whole_within m_is_whole_within rfl rfl rfl fun _ _ _ _ _ _ us hl=>match us,hl with | [_,_,_],_=>rfl) (
  And.intro (defOk_mk (st:=top 6) (N:=n_is_whole_tuple) X Gm f2 s_is_whole_tuple m_is_whole_tuple rfl rfl rfl fun _ _ _ _ _ _ us hl=>match us,hl with | [_],_=>rfl) (
  And.intro (defOk_mk (st:=top 10) (N:=n_choose) X Gm f3 s_choose m_choose rfl rfl rfl fun _ _ _ _ _ _ us hl=>match us,hl with | [_,_],_=>rfl) (
  And.intro (defOk_mk (st:=top 11) (N:=n_writing) X Gm f4 s_writing m_writing rfl rfl rfl fun _ _ _ _ _ _ us hl=>match us,hl with | [_,_],_=>rfl) (
  And.intro (defOk_mk (st:=top 12) (N:=n_is_writing) X Gm f5 s_is_writing m_is_writing rfl rfl rfl fun _ _ _ _ _ _ us hl=>match us,hl with | [_,_,_],_=>rfl) (
  And.intro (defOk_mk (st:=top 13) (N:=n_most_above) X Gm f6 s_most_above m_most_above rfl rfl rfl fun _ _ _ _ _ _ us hl=>match us,hl with | [_,_],_=>rfl) (
  And.intro (defOk_mk (st:=top 14) (N:=n_least_below) X Gm f7 s_least_below m_least_below rfl rfl rfl fun _ _ _ _ _ _ us hl=>match us,hl with | [_,_],_=>rfl) (
  And.intro (defOk_mk (st:=top 15) (N:=n_bags_above) X Gm f8 s_bags_above m_bags_above rfl rfl rfl fun _ _ _ _ _ _ us hl=>match us,hl with | [_,_],_=>rfl) (
  And.intro (defOk_mk (st:=top 16) (N:=n_check_written) X Gm f9 s_check_written m_check_written rfl rfl rfl fun _ _ _ _ _ _ us hl=>match us,hl with | [_,_],_=>rfl) (
  And.intro (defOk_mk (st:=top 17) (N:=n_ways) X Gm f10 s_ways m_ways rfl rfl rfl fun _ _ _ _ _ _ us hl=>match us,hl with | [_,_],_=>rfl) (
  And.intro (defOk_mk (st:=top 18) (N:=n_most_things) X Gm f11 s_most_things m_most_things rfl rfl rfl fun _ _ _ _ _ _ us hl=>match us,hl with | [_,_],_=>rfl) (
  And.intro (defOk_mk (st:=top 19) (N:=n_written_parts) X Gm f12 s_written_parts m_written_parts rfl rfl rfl fun _ _ _ _ _ _ us hl=>match us,hl with | [_,_],_=>rfl) (
  And.intro (defOk_mk (st:=top 21) (N:=n__law_cell_at) X Gm f13 s__law_cell_at m__law_cell_at rfl rfl rfl fun _ _ _ _ _ _ us hl=>match us,hl with | [_,_],_=>rfl) (
  And.intro (defOk_mk (st:=top 22) (N:=n__law_pot) X Gm f14 s__law_pot m__law_pot rfl rfl rfl fun _ _ _ _ _ _ us hl=>match us,hl with | [_],_=>rfl) (
  And.intro (defOk_mk (st:=top 23) (N:=n__law_take) X Gm f15 s__law_take m__law_take rfl rfl rfl fun _ _ _ _ _ _ us hl=>match us,hl with | [_,_],_=>rfl) (
  And.intro (defOk_mk (st:=top 24) (N:=n_law) X Gm f16 s_law m_law rfl rfl rfl fun _ _ _ _ _ _ us hl=>match us,hl with | [_],_=>rfl) (True.intro)))))))))))))))))
 exact law_fn (k:=12) (d:=d_law) (st:=top 24) (N:=n_law) X Gm hfa er' bl' hg hD.get rfl f16 s_law m_law rfl rfl fun _ _ _ _ _ _ us hl=>match us,hl with | [_],_=>rfl
noncomputable def kept:List Stmt:=[top 1,top 2,top 4,top 5,top 6,top 8,top 9,top 10,top 11,top 12,top 13,top 14,top 15,top 16,top 17,top 18,top 19,top 21,top 22,top 23,top 24]
noncomputable def Q:Program:={ PySem.Challenge.pw_facecounts_k34_whole_chosen with main:={ PySem.Challenge.pw_facecounts_k34_whole_chosen.main with body:=kept } }
end K34
open PySem PySem.W PyProof.Rows
lay_quick Z.topT PySem.W.topStub
local macro_rules | `(tactic| o_head $H)=>`(tactic|
 refine PySem.W.holds_open (q:=K34.Q) (loose:=[]) (Xt:=fun s=>PySem.W.xlAt K34.Q [] s && PySem.W.recOk [] s)
  (XP:=PySem.W.XL K34.Q []) (Yf:=PySem.W.Hook.obs $H) (Ya:=PySem.W.Hook.val $H)
  (YP:=PySem.W.Hook.says $H) (N:=40000) ?hl (PySem.W.Hook.of $H) (PySem.W.Hook.keeps $H)
  (fun s e=>PySem.W.xl_of s (Bool.and_eq_true_iff.mp e).1) PySem.W.XL.keeps
  (by rfl) (by rfl) (by rfl)
  (fun s e=>PySem.W.recFacts_of (Bool.and_eq_true_iff.mp e).2)
  (by rfl) (by first | assumption | decide +kernel) (by decide +kernel)
  ⟨rfl,rfl,rfl,rfl,rfl,by decide +kernel⟩ ?hw ?hc)
set_option maxRecDepth 100000 in
set_option maxHeartbeats 0 in
theorem PySem.Challenge.cw_facecounts_k34_whole_chosen_holds : PySem.Challenge.rw_facecounts_k34_whole_chosen.Holds := by
 w_on; o_law; x_head
 (case hl =>
  refine Z.left_tree (p:=PySem.Challenge.pw_facecounts_k34_whole_chosen) (by kernel_rfl) (by rfl) (fun s=>by kernel_rfl) ?_
  intro w os
  unfold Z.looksT K34.Q K34.kept K34.top
  dsimp only [PySem.W.kHook]
  rw [PySem.W.Fast.te4187177175401517315,PySem.W.Fast.te15842407815417585275,PySem.W.Fast.te2530740449226627131,PySem.W.Fast.te14364793385576792824]
  kernel_rfl)
 (case hw=>w_witness2)
 k_fill
 refine Z.walk_z (l:=PySem.Challenge.rw_facecounts_k34_whole_chosen) (T:=K34.T) (G:=K34.G) (k:=13) (f:=16) (x := "_law_script") rfl rfl ⟨rfl,rfl,by decide,by decide⟩ (fun w h Y=>PySem.W.kIn_of Y) ?F K34.law_true
 case F =>
  intro w mg fa h KX G hmg
  refine' K34.all_mk KX G hmg ?er ?bl ?g0 ?g1 ?f0 ?f1 ?f2 ?f3 ?f4 ?f5 ?f6 ?f7 ?f8 ?f9 ?f10 ?f11 ?f12 ?f13 ?f14 ?f15 ?f16
  (case g0=>k_is)
  (case g1=>k_is)
  (case f0=>(refine' Z.funAt_mk ?a ?l ?c ?k; (case a=>k_is); (case l=>k_is); (case c=>k_is); (case k=>k_is)))
  (case f1=>(refine' Z.funAt_mk ?a ?l ?c ?k; (case a=>k_is); (case l=>k_is); (case c=>k_is); (case k=>k_is)))
  (case f2=>(refine' Z.funAt_mk ?a ?l ?c ?k; (case a=>k_is); (case l=>k_is); (case c=>k_is); (case k=>k_is)))
  (case f3=>(refine' Z.funAt_mk ?a ?l ?c ?k; (case a=>k_is); (case l=>k_is); (case c=>k_is); (case k=>k_is)))
  (case f4=>(refine' Z.funAt_mk ?a ?l ?c ?k; (case a=>k_is); (case l=>k_is); (case c=>k_is); (case k=>k_is)))
  (case f5=>(refine' Z.funAt_mk ?a ?l ?c ?k; (case a=>k_is); (case l=>k_is); (case c=>k_is); (case k=>k_is)))
  (case f6=>(refine' Z.funAt_mk ?a ?l ?c ?k; (case a=>k_is); (case l=>k_is); (case c=>k_is); (case k=>k_is)))
  (case f7=>(refine' Z.funAt_mk ?a ?l ?c ?k; (case a=>k_is); (case l=>k_is); (case c=>k_is); (case k=>k_is)))
  (case f8=>(refine' Z.funAt_mk ?a ?l ?c ?k; (case a=>k_is); (case l=>k_is); (case c=>k_is); (case k=>k_is)))
  (case f9=>(refine' Z.funAt_mk ?a ?l ?c ?k; (case a=>k_is); (case l=>k_is); (case c=>k_is); (case k=>k_is)))
  (case f10=>(refine' Z.funAt_mk ?a ?l ?c ?k; (case a=>k_is); (case l=>k_is); (case c=>k_is); (case k=>k_is)))
  (case f11=>(refine' Z.funAt_mk ?a ?l ?c ?k; (case a=>k_is); (case l=>k_is); (case c=>k_is); (case k=>k_is)))
  (case f12=>(refine' Z.funAt_mk ?a ?l ?c ?k; (case a=>k_is); (case l=>k_is); (case c=>k_is); (case k=>k_is)))
  (case f13=>(refine' Z.funAt_mk ?a ?l ?c ?k; (case a=>k_is); (case l=>k_is); (case c=>k_is); (case k=>k_is)))
  (case f14=>(refine' Z.funAt_mk ?a ?l ?c ?k; (case a=>k_is); (case l=>k_is); (case c=>k_is); (case k=>k_is)))
  (case f15=>(refine' Z.funAt_mk ?a ?l ?c ?k; (case a=>k_is); (case l=>k_is); (case c=>k_is); (case k=>k_is)))
  (case f16=>(refine' Z.funAt_mk ?a ?l ?c ?k; (case a=>k_is); (case l=>k_is); (case c=>k_is); (case k=>k_is)))
  (case er=>kernel_rfl)
  (case bl=>kernel_rfl)
end
