import PyProof.Rows.All
import Wide.All
import OpenK.AllK
import Wide.FinOn
import Lean
import PyProof.EqAt
import PyProof.EqKinds
import PyProof.TupleCall
import PySem.Challenge.RW_mixplay_k31_whole_worth
set_option Elab.async false
set_option linter.all false
set_option maxRecDepth 100000
namespace L2
open PySem PySem.Spec PyProof.Rows
noncomputable abbrev Key:=Sum Int Str
noncomputable def keyIs:Key->Value->Bool
 | .inl k,v=>Value.isInt k v
 | .inr x,v=>Value.isStrOf x v
noncomputable def keyH (w:World):Key->Int
 | .inl k=>hashInt k
 | .inr x=>hashStr w x
theorem fT:∀ {k:Key} {v:Value},keyIs k v=true->(∃ i t,k=Sum.inl i/\v=Value.int i t)∨(∃ x t,k=Sum.inr x/\v=Value.str x t)
 | .inl i,v,h=>by
  obtain ⟨t,e⟩:=Value.isInt_shape (k:=i) (v:=v) h
  exact .inl ⟨i,t,rfl,e⟩
 | .inr x,v,h=>by
  obtain ⟨t,e⟩:=Value.isStrOf_shape (x:=x) (v:=v) h
  exact .inr ⟨x,t,rfl,e⟩
theorem key_ll (a b:Int):decide ((Sum.inl a:Key)=Sum.inl b)=(a == b):=by
 by_cases e:a=b
 ·subst e;simp
 ·have h:¬ (Sum.inl a:Key)=Sum.inl b:=fun q=>e (Sum.inl.inj q)
  rw [decide_eq_false h]
  exact (beq_eq_false_iff_ne.mpr e).symm
theorem key_rr (a b:Str):decide ((Sum.inr a:Key)=Sum.inr b)=decide (a=b):=by
 by_cases e:a=b
 ·subst e;simp
 ·have h:¬ (Sum.inr a:Key)=Sum.inr b:=fun q=>e (Sum.inr.inj q)
  rw [decide_eq_false h,decide_eq_false e]
theorem key_lr (a:Int) (b:Str):decide ((Sum.inl a:Key)=Sum.inr b)=false:=decide_eq_false (fun q=>nomatch q)
theorem key_rl (a:Str) (b:Int):decide ((Sum.inr a:Key)=Sum.inl b)=false:=decide_eq_false (fun q=>nomatch q)
noncomputable def Ly (prog:Program) (w:World):PySem.KeyKind prog w Key where
 is:=keyIs
 hash:=keyH w
 inj:=fun v a b ha hb=>by
  rcases fT ha with ⟨i,t,rfl,rfl⟩ | ⟨x,t,rfl,rfl⟩
  ·rcases fT hb with ⟨j,u,rfl,e⟩ | ⟨y,u,rfl,e⟩
   ·injection e with e1 _;rw [e1]
   ·exact nomatch e
  ·rcases fT hb with ⟨j,u,rfl,e⟩ | ⟨y,u,rfl,e⟩
   ·exact nomatch e
   ·injection e with e1 _;rw [e1]
 byValue:=fun k v h=>by
  rcases fT h with ⟨i,t,rfl,rfl⟩ | ⟨x,t,rfl,rfl⟩ <;> rfl
 pyHash:=fun hv h=>by
  rcases fT hv with ⟨i,t,rfl,rfl⟩ | ⟨x,t,rfl,rfl⟩
  ·exact wpAny_pyHash_int h
  ·exact wpAny_pyHash_str h
 eqBool:=fun hu hv h=>by
  rcases fT hu with ⟨i,t,rfl,rfl⟩ | ⟨x,t,rfl,rfl⟩
  ·rcases fT hv with ⟨j,u,rfl,rfl⟩ | ⟨y,u,rfl,rfl⟩
   ·rw [key_ll] at h;exact wpAny_eqBool_int h
   ·rw [key_lr] at h;exact SeqAt.EqAt.int_str i t y u _ _ _ _ h
  ·rcases fT hv with ⟨j,u,rfl,rfl⟩ | ⟨y,u,rfl,rfl⟩
   ·rw [key_rl] at h;exact SeqAt.EqAt.str_int x t j u _ _ _ _ h
   ·rw [key_rr] at h;exact wpAny_eqBool_str h
 «strs»:=fun k x t v h=>by
  rcases fT h with ⟨i,u,rfl,e⟩ | ⟨y,u,rfl,e⟩
  ·exact nomatch e
  ·injection e with e1 _
   subst e1
   cases v <;> rfl
end L2
namespace L2
open PySem PySem.Spec PyProof.Rows
inductive V where
 | non | bl (b:Bool) | int (i:Int) | str (x:Str) | byt (b:Array UInt8) | flt (b:UInt64) | ref (a:Addr) | ty (n:String)
 deriving DecidableEq
noncomputable def cV:V->Value->Prop
 | .non,u=>u=Value.none
 | .bl b,u=>u=Value.bool b
 | .int i,u=>∃ t,u=Value.int i t
 | .str x,u=>∃ t,u=Value.str x t
 | .byt b,u=>∃ t,u=Value.bytes b t
 | .flt b,u=>∃ t,u=Value.float b t
 | .ref a,u=>u=Value.ref a
 | .ty n,u=>u=Value.type n
noncomputable abbrev cK:List V->List Value->Prop:=Paired cV
theorem cK.length {xs:List V} {us:List Value} (r:cK xs us):xs.length=us.length:=Paired.length r
theorem cK.get:∀ {xs:List V} {us:List Value} {i:Nat} {x:V},cK xs us->xs[i]?=some x->∃ u,us[i]?=some u/\cV x u
 | _,_,_,_,.nil,e=>by simp at e
 | _,_,0,_,.cons r _,e=>by simp at e;subst e;exact ⟨_,rfl,r⟩
 | _,_,i+1,x,.cons _ t,e=>by
  obtain ⟨u,h1,h2⟩:=cK.get (i:=i) (x:=x) t (by simpa using e)
  exact ⟨u,by simpa using h1,h2⟩
theorem cK.set {x:V} {u:Value} (r:cV x u):∀ {xs:List V} {us:List Value} (i:Nat),cK xs us->cK (xs.set i x) (us.set i u)
 | _,_,_,.nil=>.nil
 | _,_,0,.cons _ t=>.cons r t
 | _,_,i+1,.cons q t=>.cons q (cK.set r i t)
theorem cK.append:∀ {xs ys:List V} {us ws:List Value},cK xs us->cK ys ws->cK (xs ++ ys) (us ++ ws)
 | _,_,_,_,.nil,s=>s
 | _,_,_,_,.cons r t,s=>.cons r (cK.append t s)
theorem cK.take:∀ {xs:List V} {us:List Value} (n:Nat),cK xs us->cK (xs.take n) (us.take n)
 | _,_,0,_=>.nil
 | _,_,_+1,.nil=>.nil
 | _,_,n+1,.cons r t=>.cons r (cK.take n t)
theorem cK.drop:∀ {xs:List V} {us:List Value} (n:Nat),cK xs us->cK (xs.drop n) (us.drop n)
 | _,_,0,r=>r
 | _,_,_+1,.nil=>.nil
 | _,_,n+1,.cons _ t=>cK.drop n t
noncomputable def Ia:Option V->Option Value->Prop
 | some v,some u=>cV v u
 | none,none=>True
 | _,_=>False
noncomputable def KV {κ:Type}:List (κ×V)->List (κ×Value)->Prop:=Paired fun (p:κ×V) (q:κ×Value)=>p.1=q.1/\cV p.2 q.2
noncomputable def kV:Key->V
 | .inl i=>.int i
 | .inr x=>.str x
inductive HO where
 /-- a list -/
 | lst (xs:List V)
 /-- a tuple (never changes) -/
 | tup (xs:List V)
 /-- a dict whose keys are ints and texts;one whose keys are tuples of ints and texts (the empty one is both) -/
 | dK (kvs:List (Key×V)) | dT (kvs:List (List Key×V))
 /-- a set of ints: its members,its size -/
 | set (S:Int->Bool) (n:Nat)
 /-- an instance of the class at C,its dict at dx,its attributes -/
 | ins (C dx:Addr) (fs:List (Str×V))
 /-- the dict of the instance at x -/
 | own (x:Addr)
 /-- the dict of an exception -/
 | xd (fs:List (Str×V))
 /-- a bound method,f of x -/
 | met (f x:Addr)
 /-- a range object lo,lo+1,.. below hi -/
 | rng (lo hi:Int)
 /-- a thing that is known to the object (the script;a dict while a loop walks it): read,never written while it is so -/
 | frz (o:Obj) (u:HO)
 /-- a code object's table -/
 | tbl (ps:Array Value)
 /-- any other thing,by what is true of its one object (a def of one's own: SetO a S n:=HO.ext fun h=>..) -/
 | ext (φ:Heap->Prop)
noncomputable abbrev Hp:=Addr->Option HO
noncomputable def upd (H:Hp) (a:Addr) (o:HO):Hp:=fun b=>if b=a then some o else H b
theorem aG {H:Hp} {a:Addr} {o:HO}:upd H a o a=some o:=by unfold upd;rw [if_pos rfl]
theorem cA {H:Hp} {a b:Addr} {o:HO} (h:b≠a):upd H a o b=H b:=by unfold upd;rw [if_neg h]
theorem Jc {H:Hp} {a b:Addr} {o u:HO} (h:H a=some o) (h':H b=some u) (d:o≠u):a≠b:=by
 intro e;subst e;rw [h] at h';exact d (Option.some.inj h')
theorem bT {H:Hp} {a b:Addr} {o:HO} (h:H a=some o) (h':H b=none):a≠b:=by
 intro e;subst e;rw [h] at h';cases h'
section
variable (P:Program) (w:World)
noncomputable def kI (H:Hp) (h:Heap) (a:Addr):HO->Prop
 | .lst xs=>xs.length<=sizeLine/\∃ (its:List Value) (n:Nat),cK xs its/\h.get? a=some { cls:=.type "list",data:=.seq its.toArray n }
 | .tup xs=>xs.length<=sizeLine/\∃ its:List Value,cK xs its/\IsTup h a its.toArray
 | .dK kvs=>kvs.length<=sizeLine/\(a == sysModules)=false/\∃ vs,KV kvs vs/\h.DictOf (Ly P w) a vs
 | .dT kvs=>kvs.length<=sizeLine/\(a == sysModules)=false/\∃ xs:List (List Key×Addr×Value),
   Paired (fun (p:List Key×V) (q:List Key×Addr×Value)=>p.1=q.1/\H q.2.1=some (.tup (p.1.map kV))/\cV p.2 q.2.2) kvs xs /\
   ∃ o es ep,h.get? a=some o/\o.ExactDict/\o.data=.dict es ep/\es.toList=xs.map (entryOfKey (tupleKind (Ly P w)))/\(xs.map (·.1)).Nodup
 | .set S n=>h.SetOf (intKind P w) a S n
 | .ins C dx fs=>H dx=some (.own a)/\fs.length<=1000/\dx≠a/\h.get? a=some (PySem.W.instObj C dx) /\
   ∃ mA,h.Ns1 dx mA/\(∀ f,Ia (fs.lookup f) (mA f))/\PySem.Within mA (fs.map (·.1))
 | .own _=>∃ o,h.get? a=some o
 | .xd fs=>∃ mA,h.Ns1 a mA/\∀ f,Ia (fs.lookup f) (mA f)
 | .rng lo hi=>∃ t u v,h.get? a=some { cls:=.type "range",data:=.fields #[.int lo t,.int hi u,.int 1 v] }
 | .frz o u=>h.get? a=some o/\kI H h a u
 | .tbl ps=>h.get? a=some { cls:=.none,data:=.fields ps }
 | .met f x=>h.get? a=some (PySem.W.methodObj (.ref f) (.ref x))
 | .ext φ=>φ h/\(∃ o,h.get? a=some o)/\∀ h1 h2:Heap,φ h1->(∀ o,h1.get? a=some o->h2.get? a=some o)->φ h2
noncomputable def HOk (H:Hp) (h:Heap):Prop:=∀ a o,H a=some o->kI P w H h a o
end
section
variable {P:Program} {w:World} {H H':Hp} {h h':Heap} {a:Addr} {o:HO}
theorem kI.lt (x:kI P w H h a o):a < h.objs.size:=by
 cases o with
 | lst xs=>obtain ⟨_,_,_,_,e⟩:=x;exact Heap.lt_size e
 | tup xs=>obtain ⟨_,_,_,p⟩:=x;exact p.lt
 | dK kvs=>obtain ⟨_,_,_,_,o,_,_,e,_⟩:=x;exact Heap.lt_size e
 | dT kvs=>obtain ⟨_,_,_,_,o,_,_,e,_⟩:=x;exact Heap.lt_size e
 | set S n=>obtain ⟨o,_,_,_,e,_⟩:=x;exact Heap.lt_size e
 | ins C dx fs=>obtain ⟨_,_,_,e,_⟩:=x;exact Heap.lt_size e
 | own y=>obtain ⟨_,e⟩:=x;exact Heap.lt_size e
 | xd fs=>obtain ⟨_,⟨_,_,_,e,_⟩,_⟩:=x;exact Heap.lt_size e
 | rng lo hi=>obtain ⟨_,_,_,e⟩:=x;exact Heap.lt_size e
 | frz ob u=>obtain ⟨e,_⟩:=x;exact Heap.lt_size e
 | tbl ps=>exact Heap.lt_size (show h.get? a=some _ from x)
 | met f y=>exact Heap.lt_size (show h.get? a=some _ from x)
 | ext φ=>obtain ⟨_,⟨_,e⟩,_⟩:=x;exact Heap.lt_size e
theorem Paired.mapP {α β:Type} {F G:α->β->Prop}:∀ {l₁:List α} {l₂:List β},Paired F l₁ l₂->(∀ a b,F a b->G a b)->Paired G l₁ l₂
 | _,_,.nil,_=>.nil
 | _,_,.cons r t,f=>.cons (f _ _ r) (Paired.mapP t f)
theorem kI.stay (x:kI P w H h a o) (k:∀ b u,(b=a∨H b=some (.own a))->h.get? b=some u->h'.get? b=some u)
  (ho:∀ b,H b=some (.own a)->H' b=some (.own a)) (ht:∀ b xs,H b=some (.tup xs)->H' b=some (.tup xs)):kI P w H' h' a o:=by
 induction o with
 | lst xs=>obtain ⟨z,its,n,r,e⟩:=x;exact ⟨z,its,n,r,k _ _ (.inl rfl) e⟩
 | tup xs=>obtain ⟨z,its,r,ob,e,c⟩:=x;exact ⟨z,its,r,ob,k _ _ (.inl rfl) e,c⟩
 | dK kvs=>obtain ⟨z,y,vs,r,ob,es,ep,e,c⟩:=x;exact ⟨z,y,vs,r,ob,es,ep,k _ _ (.inl rfl) e,c⟩
 | dT kvs =>
  obtain ⟨z,y,xs,r,ob,es,ep,e,c⟩:=x
  exact ⟨z,y,xs,Paired.mapP r fun p q z=>⟨z.1,ht _ _ z.2.1,z.2.2⟩,ob,es,ep,k _ _ (.inl rfl) e,c⟩
 | set S n=>obtain ⟨ob,es,ep,t,e,c⟩:=x;exact ⟨ob,es,ep,t,k _ _ (.inl rfl) e,c⟩
 | ins C dx fs =>
  obtain ⟨d,z,ne,e,mA,⟨od,es,ep,e2,c⟩,r⟩:=x
  exact ⟨ho _ d,z,ne,k _ _ (.inl rfl) e,mA,⟨od,es,ep,k _ _ (.inr d) e2,c⟩,r⟩
 | own y=>obtain ⟨ob,e⟩:=x;exact ⟨ob,k _ _ (.inl rfl) e⟩
 | xd fs=>obtain ⟨mA,⟨od,es,ep,e,c⟩,r⟩:=x;exact ⟨mA,⟨od,es,ep,k _ _ (.inl rfl) e,c⟩,r⟩
 | rng lo hi=>obtain ⟨t,u,v,e⟩:=x;exact ⟨t,u,v,k _ _ (.inl rfl) e⟩
 | frz ob u ih=>obtain ⟨e,q⟩:=x;exact ⟨k _ _ (.inl rfl) e,ih q⟩
 | tbl ps =>
  have e:h.get? a=some { cls:=.none,data:=.fields ps }:=x
  show h'.get? a=some { cls:=.none,data:=.fields ps }
  exact k a _ (.inl rfl) e
 | met f y =>
  have e:h.get? a=some (PySem.W.methodObj (.ref f) (.ref y)):=x
  show h'.get? a=some (PySem.W.methodObj (.ref f) (.ref y))
  exact k a _ (.inl rfl) e
 | ext φ=>obtain ⟨p,⟨o,e⟩,st⟩:=x;exact ⟨st _ _ p fun o q=>k _ _ (.inl rfl) q,⟨o,k _ _ (.inl rfl) e⟩,st⟩
theorem HOk.lt (x:HOk P w H h) (e:H a=some o):a < h.objs.size:=(x a o e).lt
theorem HOk.fresh (x:HOk P w H h) (e:h.objs.size<=a):H a=none:=by
 cases q:H a with
 | none=>rfl
 | some u=>exact absurd (Nat.lt_of_lt_of_le (x.lt q) e) (Nat.lt_irrefl _)
theorem HOk.kept (x:HOk P w H h) (k:∀ b u,h.get? b=some u->h'.get? b=some u):HOk P w H h':=fun a o e =>
 (x a o e).stay (fun b u _ q=>k b u q) (fun _ q=>q) fun _ _ q=>q
theorem HOk.laid (x:HOk P w H h) (k:∀ b u,h.get? b=some u->h'.get? b=some u) (hp:h.objs.size<=a) (new:kI P w (upd H a o) h' a o):HOk P w (upd H a o) h':=fun b u e=>by
 have hn:=x.fresh hp
 by_cases hb:b=a
 ·subst hb;rw [aG] at e;cases e;exact new
 ·rw [cA hb] at e
  exact (x b u e).stay (fun c v _ q=>k c v q) (fun c q=>by rw [cA (bT q hn)];exact q) fun c xs q=>by rw [cA (bT q hn)];exact q
end
noncomputable def Rd (H:Hp) (a:Addr) (u:HO):Prop:=H a=some u∨∃ o,H a=some (.frz o u)
theorem Rd.ok {P:Program} {w:World} {H:Hp} {h:Heap} {a:Addr} {u:HO} (r:Rd H a u) (x:HOk P w H h):kI P w H h a u:=by
 rcases r with r | ⟨o,r⟩
 ·exact x a u r
 ·obtain ⟨_,q⟩:=x a _ r
  exact q
noncomputable def Mut:Option HO->Prop
 | some (.lst _)=>True
 | some (.dK _)=>True
 | some (.dT _)=>True
 | some (.set _ _)=>True
 | some (.ins _ _ _)=>True
 | some (.ext _)=>True
 | _=>False
section
variable {P:Program} {w:World} {H:Hp} {h h':Heap} {x e:Addr} {o':HO}
theorem HOk.write (ok:HOk P w H h) (mu:Mut (H x)) (he:e=x∨H e=some (.own x)) (k:∀ b u,b≠e->h.get? b=some u->h'.get? b=some u) (heo:∃ u,h'.get? e=some u)
  (new:kI P w (upd H x o') h' x o'):HOk P w (upd H x o') h':=fun b u q=>by
 have nown:∀ c y,H c=some (.own y)->c≠x:=fun c y r z=>by subst z;rw [r] at mu;exact mu
 have ntup:∀ c xs,H c=some (.tup xs)->c≠x:=fun c xs r z=>by subst z;rw [r] at mu;exact mu
 by_cases hb:b=x
 ·subst hb;rw [aG] at q;cases q;exact new
 ·rw [cA hb] at q
  by_cases hbe:b=e
  ·have q':H b=some (.own x):=by
    rcases he with z | z
    ·exact absurd (hbe.trans z) hb
    ·rw [hbe];exact z
   rw [q] at q';cases q'
   obtain ⟨v,hv⟩:=heo
   exact ⟨v,by rw [hbe];exact hv⟩
  ·refine (ok b u q).stay (fun c v hc r=>k c v ?_ r) (fun c r=>by rw [cA (nown c b r)];exact r) fun c xs r=>by rw [cA (ntup c xs r)];exact r
   rcases hc with rfl | hc
   ·exact hbe
   ·rintro rfl
    rcases he with z | z
    ·exact nown c b hc z
    ·rw [hc] at z;cases z;exact hb rfl
end
structure Un (fs ex:List Addr) (H H':Hp) (h h':Heap):Prop where
 keep:∀ b o,h.get? b=some o->H b=none->b∉fs->b∉ex->h'.get? b=some o
 slot:∀ b o,h.get? b=some o->H b=none->b∈fs->b∉ex->∃ sl,h'.get? b=some { o with slots:=sl }
 free:∀ b o,h.get? b=some o->H b=none->b∉ex->H' b=none
 there:∀ b o,h.get? b=some o->b∉ex->∃ o',h'.get? b=some o'
 tups:∀ b xs,H b=some (.tup xs)->H' b=some (.tup xs)
 frzs:∀ b o u,H b=some (.frz o u)->H' b=some (.frz o u)
 tbls:∀ b ps,H b=some (.tbl ps)->∃ more,H' b=some (.tbl (ps ++ more))
section
variable {fs fs' ex ex':List Addr} {H H1 H2:Hp} {h h1 h2 h':Heap} {a x e:Addr} {o:HO}
theorem Un.any (u:Un fs ex H H1 h h1) {b:Addr} {ob:Obj} (q:h.get? b=some ob) (n:H b=none) (hx:b∉ex):∃ sl,h1.get? b=some { ob with slots:=sl }:=by
 by_cases hb:b∈fs
 ·exact u.slot b ob q n hb hx
 ·exact ⟨ob.slots,u.keep b ob q n hb hx⟩
theorem Un.kept (k:∀ b u,h.get? b=some u->h'.get? b=some u):Un fs ex H H h h' :=
 ⟨fun b ob q _ _ _=>k b ob q,fun b ob q _ _ _=>⟨ob.slots,k b ob q⟩,fun _ _ _ n _=>n,fun b ob q _=>⟨ob,k b ob q⟩,fun _ _ q=>q,fun _ _ _ q=>q,fun _ ps q=>⟨#[],by rw [q];simp⟩⟩
theorem Un.refl:Un fs ex H H h h:=Un.kept fun _ _ q=>q
theorem Un.laid (k:∀ b u,h.get? b=some u->h'.get? b=some u) (hp:h.objs.size<=a) (hn:H a=none):Un fs ex H (upd H a o) h h' where
 keep:=fun b u q _ _ _=>k b u q
 slot:=fun b u q _ _ _=>⟨u.slots,k b u q⟩
 free:=fun b u q n _=>by rw [cA (Nat.ne_of_lt (Nat.lt_of_lt_of_le (Heap.lt_size q) hp))];exact n
 there:=fun b u q _=>⟨u,k b u q⟩
 tups:=fun b xs q=>by rw [cA (bT q hn)];exact q
 frzs:=fun b u xs q=>by rw [cA (bT q hn)];exact q
 tbls:=fun b ps q=>⟨#[],by rw [cA (bT q hn),q];simp⟩
theorem Un.write (mu:Mut (H x)) (he:e=x∨H e=some (.own x)) (k:∀ b u,b≠e->h.get? b=some u->h'.get? b=some u) (heo:∃ u,h'.get? e=some u):Un fs ex H (upd H x o) h h':=by
 have hx:∀ b,H b=none->b≠x:=fun b n z=>by subst z;rw [n] at mu;exact mu
 have hb:∀ b,H b=none->b≠e:=fun b n z=>by
  subst z
  rcases he with r | r
  ·exact hx b n r
  ·rw [n] at r;cases r
 have hm:∀ b u,H b=some u->¬ Mut (some u)->b≠x:=fun b u q nm z=>by subst z;rw [q] at mu;exact nm mu
 refine ⟨fun b u q n _ _=>k b u (hb b n) q,fun b u q n _ _=>⟨u.slots,k b u (hb b n) q⟩,fun b u q n _=>by rw [cA (hx b n)];exact n,fun b u q _=>?_,
  fun b xs q=>by rw [cA (hm b _ q fun z=>z)];exact q,fun b u xs q=>by rw [cA (hm b _ q fun z=>z)];exact q,fun b ps q=>⟨#[],by rw [cA (hm b _ q fun z=>z),q];simp⟩⟩
 by_cases hbe:b=e
 ·subst hbe;exact heo
 ·exact ⟨u,k b u hbe q⟩
end
noncomputable def trk (h:Heap) (H:Hp):List Addr:=(List.range h.objs.size).filter fun a=>(H a).isSome
noncomputable def Kn (h:Heap) (H:Hp):Heap:=PySem.W.hideAll h (trk h H)
theorem Ws (h:Heap) (H:Hp):(Kn h H).objs.size=h.objs.size:=PySem.W.hideAll_size _ _
theorem jJa {h:Heap} {H:Hp} {b:Addr} {o:Obj} (e:h.get? b=some o) (n:H b=none):(Kn h H).get? b=some o :=
 PySem.W.hideAll_get _ e fun hm=>by
  have q:(H b).isSome=true:=(List.mem_filter.mp hm).2
  rw [n] at q;simp at q
theorem of_hidT {h:Heap} {H:Hp} {b:Addr} {o:Obj} (e:(Kn h H).get? b=some o):h.get? b=some o/\H b=none:=by
 have e':h.get? b=some o:=PySem.W.of_hideAll (trk h H) e
 refine ⟨e',?_⟩
 cases q:H b with
 | none=>rfl
 | some x =>
  have hm:b∈trk h H:=List.mem_filter.mpr ⟨List.mem_range.mpr (Heap.lt_size e'),by simp [q]⟩
  have z:(Kn h H).get? b=none:=PySem.W.hideAll_none (trk h H) hm
  rw [z] at e;cases e
end L2
namespace L2
open PySem PySem.Spec PyProof.Rows
structure Mod (K:PySem.W.Frag) (mg:Str->Option Value) (base:Heap):Prop where
 kin:K.In base
 glob:base.Ns mainGlobals mg
 blt:∃ mb,base.Ns builtinsNs mb/\∀ x:Str,x ≠ "__name__" -> mb x=bootBuiltins x
 nolimit:base.NoLimit
structure Cx where
 prog:Program
 w:World
 K:PySem.W.Frag
 mg:Str->Option Value
 base:Heap
 A:Around
 N:List Str
 s₀:Shared
 H₀:Hp
 env:Env
 outer:List Env
 stack:List Env
 ex:List Addr
 fn:Str->Bool
 calm:Bool
 pn:List (Addr×Obj)
 xe:Value->Shared->Prop
noncomputable def frs (l:List Env):List Addr:=l.filterMap (·.frame)
noncomputable abbrev Cx.fs (X:Cx):List Addr:=frs X.outer
noncomputable def Vis (sc:Scope) (x:Str):Prop:=sc.names.lookup x=some .local∨sc.names.lookup x=some .cell∨sc.names.lookup x=some .free
noncomputable def Loc (sc:Scope) (x:Str):Prop:=sc.names.lookup x=some .local∨sc.names.lookup x=some .cell
noncomputable def Look (env:Env) (h:Heap) (m:Str->Option Value) (x:Str) (u:Value):Prop :=
 (env.kindOf x=some .local/\m x=some u)∨((env.kindOf x=some .cell∨env.kindOf x=some .free)/\∃ c,env.cells.lookup x=some c/\h.IsCell c (some u))
structure Cx.Ok (X:Cx):Prop where
 mod:Mod X.K X.mg X.base
 kind:X.env.scope.kind=.function
 glob:X.env.globals=mainGlobals
 blt:X.env.builtins=builtinsNs
 above:X.s₀.heap.objs.size<=X.env.locals
 inj:∀ x y c,X.env.cells.lookup x=some c->X.env.cells.lookup y=some c->x=y
 has:∀ x,(X.env.kindOf x=some .cell∨X.env.kindOf x=some .free)->∃ c,X.env.cells.lookup x=some c
 cab:∀ x c,X.fn x=true->X.env.cells.lookup x=some c->X.s₀.heap.objs.size<=c
 hd:X.calm=true->X.A.handled=none
 frames:X.A.frames=some X.stack
 stk:X.stack=X.outer∨(X.stack=X.env :: X.outer/\X.env.frame=some X.env.locals)
 exf:∀ b∈X.ex,b≠X.env.locals/\∀ x c,X.env.cells.lookup x=some c->c≠b
 bs:∀ b o,X.base.get? b=some o->X.s₀.heap.get? b=some o/\X.H₀ b=none
 bsz:X.base.objs.size<=X.s₀.heap.objs.size
 noex:∀ b o,X.base.get? b=some o->b∉X.ex
 exfs:∀ b∈X.ex,b∉X.fs
 funs:X.s₀.heap.FunFrames X.base X.outer
 frf:∀ b∈X.fs,X.H₀ b=none
structure Inv (X:Cx) (pins:List (Addr×Obj)) (σ:List (Option V)) (H:Hp) (s:Shared):Prop where
 ok:X.Ok
 os:s.os=X.s₀.os
 bare:AllBare s.gens
 base:Un X.fs X.ex X.H₀ H X.s₀.heap s.heap
 loc:∃ m,s.heap.Ns X.env.locals m/\∀ (i:Nat) (x:Str) (v:V),X.N[i]?=some x->σ[i]?=some (some v)->Vis X.env.scope x->∃ u,cV v u/\Look X.env s.heap m x u
 cell:∀ x c,X.env.cells.lookup x=some c->∃ v,s.heap.IsCell c v
 free:H X.env.locals=none
 freeC:∀ x c,X.env.cells.lookup x=some c->H c=none
 pin:∀ p∈X.pn ++ pins,s.heap.get? p.1=some p.2/\H p.1=none/\p.1≠X.env.locals/\p.1∉X.fs/\∀ v,p.2.data≠.cell v
 hok:HOk X.prog X.w H s.heap
 len:σ.length=X.N.length
section
variable {X:Cx} {pins:List (Addr×Obj)} {σ:List (Option V)} {H H':Hp} {s:Shared} {h':Heap}
theorem Cx.Ok.nofr (ok:X.Ok) {b:Addr} {o:Obj} (e:X.base.get? b=some o):b∉X.fs:=fun hb=>by
 have:=(ok.funs.mem hb).1
 rw [e] at this;cases this
theorem Inv.bs (I:Inv X pins σ H s):∀ b o,X.base.get? b=some o->s.heap.get? b=some o/\H b=none:=fun b o e =>
 ⟨I.base.keep b o (I.ok.bs b o e).1 (I.ok.bs b o e).2 (I.ok.nofr e) (I.ok.noex b o e),I.base.free b o (I.ok.bs b o e).1 (I.ok.bs b o e).2 (I.ok.noex b o e)⟩
theorem Inv.bk (I:Inv X pins σ H s):∀ b o,X.base.get? b=some o->s.heap.get? b=some o:=fun b o e=>(I.bs b o e).1
theorem Inv.mod (I:Inv X pins σ H s):Mod X.K X.mg X.base:=I.ok.mod
theorem Inv.kIn (I:Inv X pins σ H s):X.K.In s.heap:=I.ok.mod.kin.keeps I.bk
theorem Inv.lt (I:Inv X pins σ H s):X.env.locals < s.heap.objs.size:=let ⟨_,hn,_⟩:=I.loc;hn.lt
theorem Inv.sz (I:Inv X pins σ H s):X.s₀.heap.objs.size<=s.heap.objs.size:=Nat.le_trans I.ok.above (Nat.le_of_lt I.lt)
theorem Inv.nofs (I:Inv X pins σ H s) {a:Addr} (h:s.heap.objs.size<=a):a∉X.fs:=fun hb=>by
 obtain ⟨_,o,ho,_⟩:=I.ok.funs.mem hb
 exact absurd (Nat.lt_of_lt_of_le (Heap.lt_size ho) (Nat.le_trans I.sz h)) (Nat.lt_irrefl _)
theorem Inv.cne (I:Inv X pins σ H s):∀ x c,X.env.cells.lookup x=some c->c≠X.env.locals:=fun x c e z=>by
 obtain ⟨v,o,ho,hd⟩:=I.cell x c e
 obtain ⟨m,⟨o',es,ep,ho',hd',_⟩,_⟩:=I.loc
 rw [z,ho'] at ho;cases ho;rw [hd'] at hd;cases hd
theorem Inv.funs (I:Inv X pins σ H s):s.heap.FunFrames X.base X.outer:=by
 have all:∀ (l:List Env),(∀ b∈frs l,b∈X.fs)->X.s₀.heap.FunFrames X.base l->s.heap.FunFrames X.base l:=by
  intro l
  induction l with
  | nil=>intro _ _;trivial
  | cons env r ih =>
   intro hs hl
   obtain ⟨hk,⟨L,o,hf,hn,ho,hd⟩,hr⟩:=hl
   have hL:L∈X.fs:=hs L (by unfold frs;rw [List.filterMap_cons,hf];exact List.mem_cons_self)
   obtain ⟨sl,e⟩:=I.base.slot L o ho (I.ok.frf L hL) hL fun z=>I.ok.exfs L z hL
   exact ⟨hk,⟨L,_,hf,hn,e,hd⟩,ih (fun b hb=>hs b (by unfold frs;rw [List.filterMap_cons,hf];exact List.mem_cons_of_mem _ hb)) hr⟩
 exact all X.outer (fun _ hb=>hb) I.ok.funs
theorem Inv.stack (I:Inv X pins σ H s):s.heap.FunFrames X.base X.stack:=by
 rcases I.ok.stk with e | ⟨e,hf⟩
 ·rw [e];exact I.funs
 ·rw [e]
  obtain ⟨m,hn,_⟩:=I.loc
  refine .cons (by rw [I.ok.kind];decide) hf hn ?_ I.funs
  exact Heap.get?_none_of_le (Nat.le_trans I.ok.bsz I.ok.above)
theorem Inv.stkSub (I:Inv X pins σ H s):∀ b∈frs X.stack,b∈X.env.locals :: X.fs:=fun b hb=>by
 rcases I.ok.stk with e | ⟨e,hf⟩
 ·rw [e] at hb;exact List.mem_cons_of_mem _ hb
 ·rw [e] at hb
  unfold frs at hb
  rw [List.filterMap_cons,hf] at hb
  exact hb
theorem Inv.stkFree (I:Inv X pins σ H s):∀ b∈frs X.stack,H b=none:=fun b hb=>by
 rcases List.mem_cons.mp (I.stkSub b hb) with e | hb
 ·rw [e];exact I.free
 ·obtain ⟨_,o,ho,_⟩:=I.ok.funs.mem hb
  exact I.base.free b o ho (I.ok.frf b hb) fun z=>I.ok.exfs b z hb
theorem Inv.step {g':Array GenState} {t':Nat} {d':Drawn} {ch:List Addr} (I:Inv X pins σ H s)
  (hch:∀ b∈ch,(b∈X.ex∨X.s₀.heap.objs.size<=b)/\b≠X.env.locals/\(∀ x c,X.env.cells.lookup x=some c->c≠b)/\∀ p∈X.pn ++ pins,p.1≠b)
  (keep:∀ b o,b≠X.env.locals->b∉X.fs->b∉ch->s.heap.get? b=some o->H b=none->h'.get? b=some o)
  (slot:∀ b o,b≠X.env.locals->b∈X.fs->b∉ch->s.heap.get? b=some o->H b=none->∃ sl,h'.get? b=some { o with slots:=sl }) (free:∀ b o,b∉ch->s.heap.get? b=some o->H b=none->H' b=none)
  (there:∀ b o,b∉ch->s.heap.get? b=some o->∃ o',h'.get? b=some o')
  (tups:∀ b xs,H b=some (.tup xs)->H' b=some (.tup xs)) (frzs:∀ b o u,H b=some (.frz o u)->H' b=some (.frz o u)) (tbls:∀ b ps,H b=some (.tbl ps)->∃ more,H' b=some (.tbl (ps ++ more)))
  (ns:∀ m,s.heap.Ns X.env.locals m->h'.Ns X.env.locals m) (hok:HOk X.prog X.w H' h') (hg:AllBare g') :
  Inv X pins σ H' { s with heap:=h',gens:=g',drawn:=d',toks:=t' }:=by
 have neL:∀ b o,X.s₀.heap.get? b=some o->b≠X.env.locals:=fun b o e=>Nat.ne_of_lt (Nat.lt_of_lt_of_le (Heap.lt_size e) I.ok.above)
 have neC:∀ b o,X.s₀.heap.get? b=some o->b∉X.ex->b∉ch:=fun b o e hx hb=>by
  rcases (hch b hb).1 with z | z
  ·exact hx z
  ·exact absurd (Nat.lt_of_lt_of_le (Heap.lt_size e) z) (Nat.lt_irrefl _)
 have cellK:∀ x c,X.env.cells.lookup x=some c->∀ v,s.heap.IsCell c v->h'.IsCell c v:=fun x c e v ⟨o,ho,hd⟩=>by
  have nch:c∉ch:=fun z=>(hch c z).2.2.1 x c e rfl
  by_cases hc:c∈X.fs
  ·obtain ⟨sl,q⟩:=slot c o (I.cne x c e) hc nch ho (I.freeC x c e)
   exact ⟨_,q,hd⟩
  ·exact ⟨o,keep c o (I.cne x c e) hc nch ho (I.freeC x c e),hd⟩
 refine ⟨I.ok,I.os,hg,⟨fun b o e n hb hx=>?_,fun b o e n hb hx=>?_,fun b o e n hx=>?_,fun b o e hx=>?_,fun b xs e=>tups b xs (I.base.tups b xs e),fun b o xs e=>frzs b o xs (I.base.frzs b o xs e),fun b ps e=>?_⟩,?_,fun x c e=>?_,?_,fun x c e=>?_,fun p hp=>?_,hok,I.len⟩
 ·exact keep b o (neL b o e) hb (neC b o e hx) (I.base.keep b o e n hb hx) (I.base.free b o e n hx)
 ·obtain ⟨sl,e1⟩:=I.base.slot b o e n hb hx
  obtain ⟨sl',e2⟩:=slot b _ (neL b o e) hb (neC b o e hx) e1 (I.base.free b o e n hx)
  exact ⟨sl',e2⟩
 ·obtain ⟨o',e1⟩:=I.base.there b o e hx
  exact free b o' (neC b o e hx) e1 (I.base.free b o e n hx)
 ·obtain ⟨o',e1⟩:=I.base.there b o e hx
  exact there b o' (neC b o e hx) e1
 ·obtain ⟨m1,e1⟩:=I.base.tbls b ps e
  obtain ⟨m2,e2⟩:=tbls b _ e1
  exact ⟨m1 ++ m2,by rw [e2,Array.append_assoc]⟩
 ·obtain ⟨m,hn,hl⟩:=I.loc
  refine ⟨m,ns m hn,fun i x v e1 e2 e3=>?_⟩
  obtain ⟨u,r,l⟩:=hl i x v e1 e2 e3
  refine ⟨u,r,?_⟩
  rcases l with l | ⟨k,c,e,z⟩
  ·exact .inl l
  ·exact .inr ⟨k,c,e,cellK x c e _ z⟩
 ·obtain ⟨v,z⟩:=I.cell x c e
  exact ⟨v,cellK x c e v z⟩
 ·obtain ⟨m,⟨o,_,_,ho,_⟩,_⟩:=I.loc
  exact free _ o (fun z=>(hch _ z).2.1 rfl) ho I.free
 ·obtain ⟨v,o,ho,hd⟩:=I.cell x c e
  exact free c o (fun z=>(hch c z).2.2.1 x c e rfl) ho (I.freeC x c e)
 ·obtain ⟨e,n,ne,nf,d⟩:=I.pin p hp
  have nch:p.1∉ch:=fun z=>(hch p.1 z).2.2.2 p hp rfl
  exact ⟨keep p.1 p.2 ne nf nch e n,free p.1 p.2 nch e n,ne,nf,d⟩
theorem Inv.un {t':Nat} (I:Inv X pins σ H s) (u:Un X.fs [] H H' s.heap h') (hok:HOk X.prog X.w H' h'):Inv X pins σ H' { s with heap:=h',toks:=t' }:=by
 obtain ⟨m,⟨o,es,ep,ho,r⟩,_⟩:=id I.loc
 obtain ⟨sl,hL⟩:=u.any ho I.free (by simp)
 exact I.step (g':=s.gens) (d':=s.drawn) (ch:=[]) (fun _ z=>nomatch z) (fun b o _ hb _ e n=>u.keep b o e n hb (by simp)) (fun b o _ hb _ e n=>u.slot b o e n hb (by simp)) (fun b o _ e n=>u.free b o e n (by simp)) (fun b o _ e=>u.there b o e (by simp)) u.tups u.frzs u.tbls (fun m' hm=>by
  obtain ⟨o',es',ep',ho',r'⟩:=hm
  rw [ho] at ho';cases ho'
  exact ⟨_,es',ep',hL,r'⟩) hok I.bare
theorem Inv.call {g':Array GenState} {t':Nat} {d':Drawn} {ch:List Addr} (I:Inv X pins σ H s) (u:Un (frs X.stack) ch H H' s.heap h') (hok:HOk X.prog X.w H' h') (hg:AllBare g')
  (hch:∀ b∈ch,(b∈X.ex∨X.s₀.heap.objs.size<=b)/\b≠X.env.locals/\(∀ x c,X.env.cells.lookup x=some c->c≠b)/\∀ p∈X.pn ++ pins,p.1≠b) :
  Inv X pins σ H' { s with heap:=h',gens:=g',drawn:=d',toks:=t' }:=by
 obtain ⟨m,⟨o,es,ep,ho,r⟩,_⟩:=id I.loc
 obtain ⟨sl,hL⟩:=u.any ho I.free fun z=>(hch _ z).2.1 rfl
 exact I.step (ch:=ch) hch (fun b o hL hb hc e n=>u.keep b o e n (fun z=>(List.mem_cons.mp (I.stkSub b z)).elim hL hb) hc) (fun b o _ _ hc e n=>u.any e n hc) (fun b o hc e n=>u.free b o e n hc) (fun b o hc e=>u.there b o e hc) u.tups u.frzs u.tbls (fun m' hm=>by
  obtain ⟨o',es',ep',ho',r'⟩:=hm
  rw [ho] at ho';cases ho'
  exact ⟨_,es',ep',hL,r'⟩) hok hg
theorem Inv.turned {t':Nat} {it:Addr} (I:Inv X pins σ H s) (k:∀ b o,b≠it->s.heap.get? b=some o->h'.get? b=some o) (hn:H it=none) (hL:it≠X.env.locals)
  (h1:it∈X.ex∨X.s₀.heap.objs.size<=it) (h2:∀ x c,X.env.cells.lookup x=some c->c≠it) (h3:∀ p∈X.pn ++ pins,p.1≠it):Inv X pins σ H { s with heap:=h',toks:=t' }:=by
 have nit:∀ b u,H b=some u->b≠it:=fun b u e z=>by rw [z,hn] at e;cases e
 refine I.step (g':=s.gens) (d':=s.drawn) (ch:=[it]) (fun b hb=>?_) (fun b o _ _ hc e _=>k b o (fun z=>hc (by simp [z])) e) (fun b o _ _ hc e _=>⟨o.slots,k b o (fun z=>hc (by simp [z])) e⟩) (fun _ _ _ _ n=>n)
  (fun b o hc e=>⟨o,k b o (fun z=>hc (by simp [z])) e⟩) (fun _ _ e=>e) (fun _ _ _ e=>e) (fun b ps e=>⟨#[],by rw [e];simp⟩) (fun m hm=>?_) (fun b u e=>?_) I.bare
 ·have e:b=it:=by simpa using hb
  subst e
  exact ⟨h1,hL,h2,h3⟩
 ·obtain ⟨o,es,ep,ho,r⟩:=hm
  exact ⟨o,es,ep,k _ o (Ne.symm hL) ho,r⟩
 ·refine (I.hok b u e).stay (fun c v hc q=>k c v ?_ q) (fun _ q=>q) fun _ _ q=>q
  rcases hc with z | z
  ·rw [z];exact nit b u e
  ·exact nit c _ z
theorem Inv.tok (I:Inv X pins σ H s) (t:Nat):Inv X pins σ H { s with toks:=t }:=I.un (h':=s.heap) (t':=t) Un.refl I.hok
theorem Inv.kept {t':Nat} (I:Inv X pins σ H s) (k:∀ b u,s.heap.get? b=some u->h'.get? b=some u):Inv X pins σ H { s with heap:=h',toks:=t' }:=I.un (Un.kept k) (I.hok.kept k)
theorem Inv.laid {a:Addr} {o:HO} {t':Nat} (I:Inv X pins σ H s) (k:∀ b u,s.heap.get? b=some u->h'.get? b=some u) (hp:s.heap.objs.size<=a) (new:kI X.prog X.w (upd H a o) h' a o) :
  Inv X pins σ (upd H a o) { s with heap:=h',toks:=t' }:=I.un (Un.laid k hp (I.hok.fresh hp)) (I.hok.laid k hp new)
theorem Inv.write {x e:Addr} {o:HO} {t':Nat} (I:Inv X pins σ H s) (mu:Mut (H x)) (he:e=x∨H e=some (.own x)) (k:∀ b u,b≠e->s.heap.get? b=some u->h'.get? b=some u) (heo:∃ u,h'.get? e=some u)
  (new:kI X.prog X.w (upd H x o) h' x o):Inv X pins σ (upd H x o) { s with heap:=h',toks:=t' }:=I.un (Un.write mu he k heo) (I.hok.write mu he k heo new)
theorem Inv.pins_of {pins':List (Addr×Obj)} (I:Inv X pins σ H s) (h:∀ p∈pins',s.heap.get? p.1=some p.2/\H p.1=none/\p.1≠X.env.locals/\p.1∉X.fs/\∀ v,p.2.data≠.cell v):Inv X pins' σ H s :=
 ⟨I.ok,I.os,I.bare,I.base,I.loc,I.cell,I.free,I.freeC,fun p hp=>(List.mem_append.mp hp).elim (fun z=>I.pin p (List.mem_append_left _ z)) (h p),I.hok,I.len⟩
theorem Oy {N:List Str} (hN:N.Nodup) {i j:Nat} {x:Str} (a:N[i]?=some x) (b:N[j]?=some x):i=j:=by
 obtain ⟨h1,e1⟩:=List.getElem?_eq_some_iff.mp a
 obtain ⟨h2,e2⟩:=List.getElem?_eq_some_iff.mp b
 exact (List.getElem_inj hN).mp (e1.trans e2.symm)
theorem Cc {M:Model} {A:Around} {E:Value->Shared->Prop} {i:Nat} {x:Str} {v:V} {u:Value} {Q:Unit->Shared->Prop} (I:Inv X pins σ H s) (hN:X.N.Nodup) (hi:X.N[i]?=some x) (hx:Loc X.env.scope x) (r:cV v u)
  (h:∀ s',Inv X pins (σ.set i (some v)) H s'->(∃ a,Heap.SameBut a s.heap s'.heap/\(a=X.env.locals∨X.env.cells.lookup x=some a))->Q () s') (hf:X.fn x=true∨X.env.scope.names.lookup x=some .local:=by first | exact .inl rfl | exact .inr rfl | assumption):wpAny M A (storeName X.env x u) Q E s:=by
 obtain ⟨m,hn,hl⟩:=id I.loc
 have hcls:(X.env.scope.kind == .class || (X.env.scope.kind == .module && X.env.locals != X.env.globals))=false:=by rw [I.ok.kind];rfl
 have hiσ:i < σ.length:=by rw [I.len];exact (List.getElem?_eq_some_iff.mp hi).1
 have cne:=I.cne
 have tracked:∀ {a:Addr} {h':Heap},(∃ o,s.heap.get? a=some o/\H a=none)->Heap.SameBut a s.heap h'->HOk X.prog X.w H h':=fun {a h'} ha hs b ob e=>by
  obtain ⟨_,_,hfree⟩:=ha
  refine (I.hok b ob e).stay (fun c w' hc q=>(hs.2 c ?_).trans q) (fun _ q=>q) fun _ _ q=>q
  rintro rfl
  rcases hc with rfl | hc
  ·rw [hfree] at e;cases e
  ·rw [hfree] at hc;cases hc
 rcases hx with hk | hk
 ·refine wpAny_storeName_local hk hn (fun h' hn' hs=>?_) hcls
  obtain ⟨oL,_,_,hoL,_⟩:=id hn
  refine h _ ⟨I.ok,I.os,I.bare,⟨fun b o e n hb hx=>?_,fun b o e n hb hx=>?_,I.base.free,fun b o e hx=>?_,I.base.tups,I.base.frzs,I.base.tbls⟩,⟨_,hn',fun j y v' e1 e2 e3=>?_⟩,fun y c e=>?_,I.free,I.freeC,fun p hp=>?_,tracked ⟨oL,hoL,I.free⟩ hs,by simpa using I.len⟩ ⟨_,hs,.inl rfl⟩
  ·exact (hs.2 b (Nat.ne_of_lt (Nat.lt_of_lt_of_le (Heap.lt_size e) I.ok.above))).trans (I.base.keep b o e n hb hx)
  ·obtain ⟨sl,e1⟩:=I.base.slot b o e n hb hx
   exact ⟨sl,(hs.2 b (Nat.ne_of_lt (Nat.lt_of_lt_of_le (Heap.lt_size e) I.ok.above))).trans e1⟩
  ·obtain ⟨o',e1⟩:=I.base.there b o e hx
   exact ⟨o',(hs.2 b (Nat.ne_of_lt (Nat.lt_of_lt_of_le (Heap.lt_size e) I.ok.above))).trans e1⟩
  ·by_cases hj:j=i
   ·subst hj
    rw [hi] at e1;cases e1
    rw [List.getElem?_set_self hiσ] at e2
    cases e2
    exact ⟨u,r,.inl ⟨hk,by simp⟩⟩
   ·rw [List.getElem?_set_ne (Ne.symm hj)] at e2
    obtain ⟨u',r',q⟩:=hl j y v' e1 e2 e3
    refine ⟨u',r',?_⟩
    rcases q with ⟨k,e⟩ | ⟨k,c,e,z⟩
    ·refine .inl ⟨k,?_⟩
     have:y≠x:=fun e=>hj (Oy hN e1 (e ▸ hi))
     simp [this,e]
    ·exact .inr ⟨k,c,e,z.sameBut hs (cne y c e)⟩
  ·obtain ⟨w',z⟩:=I.cell y c e
   exact ⟨w',z.sameBut hs (cne y c e)⟩
  ·obtain ⟨e,n,ne,nf,d⟩:=I.pin p hp
   exact ⟨(hs.2 p.1 ne).trans e,n,ne,nf,d⟩
 ·have hfn:X.fn x=true:=by
   rcases hf with z | z
   ·exact z
   ·rw [z] at hk;cases hk
  obtain ⟨c,hc⟩:=I.ok.has x (.inl hk)
  obtain ⟨w',z⟩:=I.cell x c hc
  refine wpAny_storeName_cell I.ok.kind hk hc z (fun h' hc' hs=>?_)
  obtain ⟨oc,hoc,hocd⟩:=id z
  refine h { s with heap:=h' } ⟨I.ok,I.os,I.bare,⟨fun b o e n hb hx=>?_,fun b o e n hb hx=>?_,I.base.free,fun b o e hx=>?_,I.base.tups,I.base.frzs,I.base.tbls⟩,⟨m,hn.sameBut hs (Ne.symm (cne x c hc)),fun j y v' e1 e2 e3=>?_⟩,fun y c' e=>?_,I.free,I.freeC,fun p hp=>?_,tracked ⟨oc,hoc,I.freeC x c hc⟩ hs,by simpa using I.len⟩ ⟨c,hs,.inr hc⟩
  ·exact (hs.2 b (Nat.ne_of_lt (Nat.lt_of_lt_of_le (Heap.lt_size e) (I.ok.cab x c hfn hc)))).trans (I.base.keep b o e n hb hx)
  ·obtain ⟨sl,e1⟩:=I.base.slot b o e n hb hx
   exact ⟨sl,(hs.2 b (Nat.ne_of_lt (Nat.lt_of_lt_of_le (Heap.lt_size e) (I.ok.cab x c hfn hc)))).trans e1⟩
  ·obtain ⟨o',e1⟩:=I.base.there b o e hx
   exact ⟨o',(hs.2 b (Nat.ne_of_lt (Nat.lt_of_lt_of_le (Heap.lt_size e) (I.ok.cab x c hfn hc)))).trans e1⟩
  ·by_cases hj:j=i
   ·subst hj
    rw [hi] at e1;cases e1
    rw [List.getElem?_set_self hiσ] at e2
    cases e2
    exact ⟨u,r,.inr ⟨.inl hk,c,hc,hc'⟩⟩
   ·rw [List.getElem?_set_ne (Ne.symm hj)] at e2
    obtain ⟨u',r',q⟩:=hl j y v' e1 e2 e3
    refine ⟨u',r',?_⟩
    rcases q with q | ⟨k,c',e,z'⟩
    ·exact .inl q
    ·refine .inr ⟨k,c',e,z'.sameBut hs ?_⟩
     rintro rfl
     exact hj (Oy hN e1 (I.ok.inj _ _ _ e hc ▸ hi))
  ·by_cases hcc:c'=c
   ·subst hcc;exact ⟨_,hc'⟩
   ·obtain ⟨w2,z2⟩:=I.cell y c' e
    exact ⟨w2,z2.sameBut hs hcc⟩
  ·obtain ⟨e,n,ne,nf,d⟩:=I.pin p hp
   refine ⟨(hs.2 p.1 ?_).trans e,n,ne,nf,d⟩
   intro q
   rw [q,hoc] at e
   have q':oc=p.2:=Option.some.inj e
   exact d w' (by rw [← q'];exact hocd)
theorem uK {M:Model} {A:Around} {E:Value->Shared->Prop} {i:Nat} {x:Str} {v:V} {u:Value} {Q:Unit->Shared->Prop} (I:Inv X pins σ H s) (hN:X.N.Nodup) (hi:X.N[i]?=some x) (hx:Loc X.env.scope x) (r:cV v u)
  (h:∀ s',Inv X pins (σ.set i (some v)) H s'->Q () s') (hf:X.fn x=true∨X.env.scope.names.lookup x=some .local:=by first | exact .inl rfl | exact .inr rfl | assumption):wpAny M A (storeName X.env x u) Q E s :=
 Cc I hN hi hx r (fun s' I' _=>h s' I') hf
theorem Inv.call' {s':Shared} {ch:List Addr} (I:Inv X pins σ H s) (ho:s'.os=s.os) (u:Un (frs X.stack) ch H H' s.heap s'.heap) (hok:HOk X.prog X.w H' s'.heap) (hg:AllBare s'.gens)
  (hch:∀ b∈ch,(b∈X.ex∨X.s₀.heap.objs.size<=b)/\b≠X.env.locals/\(∀ x c,X.env.cells.lookup x=some c->c≠b)/\∀ p∈X.pn ++ pins,p.1≠b):Inv X pins σ H' s':=by
 obtain ⟨h',g',d',t',o'⟩:=s'
 have e:o'=s.os:=ho
 subst e
 exact I.call (g':=g') (t':=t') (d':=d') u hok hg hch
end
noncomputable abbrev XK:=Value->Option Addr->Hp->Prop
noncomputable abbrev St:=List (Option V)
noncomputable abbrev VK:=V->Hp->Prop
noncomputable abbrev TE:=St->Hp->VK->Prop
noncomputable abbrev TT:=St->Hp->(Bool->Hp->Prop)->Prop
noncomputable abbrev TA:=St->Hp->(List V->Hp->Prop)->Prop
structure Be where
 nx:St->Hp->Prop
 rt:VK
 bk:St->Hp->Prop:=fun _ _=>False
 ct:St->Hp->Prop:=fun _ _=>False
noncomputable abbrev TS:=Be->St->Hp->Prop
noncomputable def EP (X:Cx) (pins:List (Addr×Obj)) (σ:St) (Q:VK) (u:Value) (s':Shared):Prop:=∃ v H',Inv X pins σ H' s'/\cV v u/\Q v H'
noncomputable def TP (X:Cx) (pins:List (Addr×Obj)) (σ:St) (Q:Bool->Hp->Prop) (b:Bool) (s':Shared):Prop:=∃ H',Inv X pins σ H' s'/\Q b H'
noncomputable def AP (X:Cx) (pins:List (Addr×Obj)) (σ:St) (Q:List V->Hp->Prop) (us:List Value) (s':Shared):Prop:=∃ vs H',Inv X pins σ H' s'/\cK vs us/\Q vs H'
noncomputable def SP (X:Cx) (pins:List (Addr×Obj)) (D:Be) (f:Flow) (s':Shared):Prop :=
 match f with
 | .next=>∃ σ' H',Inv X pins σ' H' s'/\D.nx σ' H'
 | .brk=>∃ σ' H',Inv X pins σ' H' s'/\D.bk σ' H'
 | .cont=>∃ σ' H',Inv X pins σ' H' s'/\D.ct σ' H'
 | .ret u=>∃ v σ' H',Inv X pins σ' H' s'/\cV v u/\D.rt v H'
noncomputable def PE (X:Cx) (e:Expr) (t:TE):Prop :=
 ∀ (pins:List (Addr×Obj)) (s:Shared) (σ:St) (H:Hp) (Q:VK),Inv X pins σ H s->t σ H Q->wpAny (model X.prog X.w) X.A (eval e X.env) (EP X pins σ Q) X.xe s
noncomputable def PT (X:Cx) (e:Expr) (t:TT):Prop :=
 ∀ (pins:List (Addr×Obj)) (s:Shared) (σ:St) (H:Hp) (Q:Bool->Hp->Prop),Inv X pins σ H s->t σ H Q->wpAny (model X.prog X.w) X.A (isTrue e X.env (eval e X.env)) (TP X pins σ Q) X.xe s
noncomputable def PW (X:Cx) (e:Expr) (t:TT):Prop :=
 ∀ (whole:Sem Value) (pins:List (Addr×Obj)) (s:Shared) (σ:St) (H:Hp) (Q:Bool->Hp->Prop),Inv X pins σ H s->t σ H Q->wpAny (model X.prog X.w) X.A (isTrue e X.env whole) (TP X pins σ Q) X.xe s
theorem PW.pt {X:Cx} {e:Expr} {t:TT} (h:PW X e t):PT X e t:=h _
noncomputable def PA (X:Cx) (es:List Expr) (t:TA):Prop :=
 ∀ (pos:Pos) (pins:List (Addr×Obj)) (s:Shared) (σ:St) (H:Hp) (Q:List V->Hp->Prop),Inv X pins σ H s->t σ H Q->wpAny (model X.prog X.w) X.A (spliced (backTo pos (starEach es X.env))) (AP X pins σ Q) X.xe s
noncomputable def PS (X:Cx) (st:Stmt) (t:TS):Prop :=
 ∀ (pins:List (Addr×Obj)) (s:Shared) (σ:St) (H:Hp) (D:Be),Inv X pins σ H s->t D σ H->wpAny (model X.prog X.w) X.A (exec st X.env) (SP X pins D) X.xe s
noncomputable def PSs (X:Cx) (st:List Stmt) (t:TS):Prop :=
 ∀ (pins:List (Addr×Obj)) (s:Shared) (σ:St) (H:Hp) (D:Be),Inv X pins σ H s->t D σ H->wpAny (model X.prog X.w) X.A (execs st X.env) (SP X pins D) X.xe s
theorem thn {α:Type} {t:Sem α} {Q Q':α->Shared->Prop} {M:Model} {A:Around} {E:Value->Shared->Prop} {s:Shared} (h:wpAny M A t Q E s) (hQ:∀ a s,Q a s->Q' a s):wpAny M A t Q' E s:=wpAny_mono h hQ fun _ _ x=>x
end L2
namespace L2
open PySem PySem.Spec PyProof.Rows
section
variable {X:Cx}
noncomputable def exI (x:V) (k:Int->Prop):Prop:=match x with
 | .int i=>k i
 | x=>∃ i,x=.int i/\k i
noncomputable def exB (x:V) (k:Bool->Prop):Prop:=match x with
 | .bl i=>k i
 | x=>∃ i,x=.bl i/\k i
noncomputable def exR (x:V) (k:Addr->Prop):Prop:=match x with
 | .ref i=>k i
 | x=>∃ i,x=.ref i/\k i
theorem cQ {i:Int} {k:Int->Prop}:exI (.int i) k=k i:=rfl
theorem cR {i:Bool} {k:Bool->Prop}:exB (.bl i) k=k i:=rfl
theorem cP {i:Addr} {k:Addr->Prop}:exR (.ref i) k=k i:=rfl
theorem dQ {x:V} {k:Int->Prop}:exI x k=∃ i,x=.int i/\k i:=by
 cases x <;> first | rfl | exact propext ⟨fun h=>⟨_,rfl,h⟩,fun ⟨_,e,h⟩=>by cases e;exact h⟩
theorem gQ {x:V} {k:Bool->Prop}:exB x k=∃ i,x=.bl i/\k i:=by
 cases x <;> first | rfl | exact propext ⟨fun h=>⟨_,rfl,h⟩,fun ⟨_,e,h⟩=>by cases e;exact h⟩
theorem eN {x:V} {k:Addr->Prop}:exR x k=∃ i,x=.ref i/\k i:=by
 cases x <;> first | rfl | exact propext ⟨fun h=>⟨_,rfl,h⟩,fun ⟨_,e,h⟩=>by cases e;exact h⟩
theorem jJg {x:V} {k k':Int->Prop} (h:exI x k) (m:∀ i,k i->k' i):exI x k':=by
 rw [dQ] at h ⊢
 obtain ⟨i,e,h⟩:=h
 exact ⟨i,e,m i h⟩
noncomputable def aB (i:Nat):TE:=fun σ H Q=>match σ[i]? with | some (some v)=>Q v H | _=>False
noncomputable def tC (v:V):TE:=fun _ H Q=>Q v H
theorem pe_var {i:Nat} {x:Str} {pos:Pos} (hN:X.N[i]?=some x) (hv:Vis X.env.scope x) (hd:(x == ("__debug__" : Str))=false:=by decide) (hcd:(x == ("__classdict__" : Str))=false:=by decide):PE X (.Name x pos) (aB i):=by
 intro pins s σ H Q I h
 have h:∃ v,σ[i]?=some (some v)/\Q v H:=by
  unfold aB at h
  split at h
  ·exact ⟨_,‹_›,h⟩
  ·exact h.elim
 obtain ⟨v,e,h⟩:=h
 obtain ⟨m,hn,hl⟩:=I.loc
 obtain ⟨u,r,l⟩:=hl i x v hN e hv
 have fin:EP X pins σ Q u s:=⟨v,H,I,r,h⟩
 rcases l with ⟨hk,hm⟩ | ⟨hk,c,hc,hcell⟩
 ·exact wpAny_Name (wpAny_loadName_local I.ok.kind hk hn hm fin) hd
 ·rcases hk with hk | hk
  ·exact wpAny_Name (wpAny_loadName_cell I.ok.kind hk hc hcell fin) hd
  ·exact wpAny_Name (wpAny_loadName_free I.ok.kind hk hc hcell fin hcd) hd
theorem aF {i j pos}:PE X (.Constant (.int i) j pos) (tC (.int i)):=fun _ _ _ H _ I h=>wpAny_Constant_int ⟨.int i,H,I.tok _,⟨_,rfl⟩,h⟩
theorem Cw {b j pos}:PE X (.Constant (.bool b) j pos) (tC (.bl b)):=fun _ _ _ H _ I h=>Constant_bool ⟨.bl b,H,I,rfl,h⟩
theorem oT {j pos}:PE X (.Constant .none j pos) (tC .non):=fun _ _ _ H _ I h=>Constant_none ⟨.non,H,I,rfl,h⟩
theorem Xz {x j pos}:PE X (.Constant (.str x) j pos) (tC (.str x)):=fun _ _ _ H _ I h=>Calls.Constant_str ⟨.str x,H,I.tok _,⟨_,rfl⟩,h⟩
noncomputable def Gl (X:Cx) (x:Str):Prop:=X.env.kindOf x=some .globalImplicit
theorem Ma {E:Value->Shared->Prop} {pins:List (Addr×Obj)} {s:Shared} {σ:St} {H:Hp} {x:Str} {u:Value} {pos:Pos} {Q:Value->Shared->Prop} (I:Inv X pins σ H s) (hg:Gl X x) (hm:X.mg x=some u) (h:Q u s)
  (hd:(x == ("__debug__" : Str))=false:=by decide):wpAny (model X.prog X.w) X.A (eval (.Name x pos) X.env) Q E s :=
 Calls.Name_function_global I.ok.kind hg (Calls.loadGlobal_global (by rw [I.ok.glob];exact I.mod.glob.keeps I.bk) hm h) hd
theorem rX {E:Value->Shared->Prop} {pins:List (Addr×Obj)} {s:Shared} {σ:St} {H:Hp} {x:Str} {u:Value} {pos:Pos} {Q:Value->Shared->Prop} (I:Inv X pins σ H s) (hg:Gl X x) (hm:X.mg x=none) (hv:bootBuiltins x=some u) (h:Q u s)
  (hn:x ≠ "__name__":=by decide) (hd:(x == ("__debug__" : Str))=false:=by decide):wpAny (model X.prog X.w) X.A (eval (.Name x pos) X.env) Q E s:=by
 obtain ⟨mb,h1,h2⟩:=I.mod.blt
 exact Calls.Name_function_global I.ok.kind hg (Calls.loadGlobal_builtin (by rw [I.ok.glob];exact I.mod.glob.keeps I.bk) hm (by rw [I.ok.blt];exact h1.keeps I.bk) ((h2 x hn).trans hv) h) hd
theorem pe_glob {x:Str} {v:V} {u:Value} {pos:Pos} (hg:Gl X x) (hm:X.mg x=some u) (r:cV v u) (hd:(x == ("__debug__" : Str))=false:=by decide):PE X (.Name x pos) (tC v) :=
 fun _ _ _ H _ I h=>Ma I hg hm ⟨v,H,I,r,h⟩ hd
theorem zJ {x:Str} {v:V} {u:Value} {pos:Pos} (hg:Gl X x) (hm:X.mg x=none) (hv:bootBuiltins x=some u) (r:cV v u) (hn:x ≠ "__name__":=by decide) (hd:(x == ("__debug__" : Str))=false:=by decide):PE X (.Name x pos) (tC v) :=
 fun _ _ _ H _ I h=>rX I hg hm hv ⟨v,H,I,r,h⟩ hn hd
variable {a b:Expr} {ta tb:TE} {pos:Pos}
noncomputable def tB (t:TE):TT:=fun σ H Q=>t σ H fun x H1=>∃ c,x=.bl c/\Q c H1
theorem oR {e:Expr} {t:TE} (h:PE X e t) (he:∀ whole,isTrue e X.env whole=(do let v ← whole;standAt e.pos;holding [v] (truthy v)):=by intro _;rfl):PT X e (tB t):=by
 intro pins s σ H Q I hw
 refine isTrue_plain (thn (h pins s σ H _ I hw) fun v s1 ⟨x,H1,I1,r1,q1⟩=>?_) (he _)
 obtain ⟨d,rfl,q⟩:=q1
 cases r1
 exact wpAny_truthy_bool ⟨H1,I1,q⟩
variable {tA tB':TT} {rest:List Expr}
noncomputable def Fb (t u:TT):TT:=fun σ H Q=>t σ H fun c H1=>if c=true then u σ H1 Q else Q false H1
noncomputable def tOr (t u:TT):TT:=fun σ H Q=>t σ H fun c H1=>if c=true then Q true H1 else u σ H1 Q
noncomputable def tU (t:TT):TT:=fun σ H Q=>t σ H fun c H1=>Q (!c) H1
theorem Lr (ha:PT X a tA):PW X (.BoolOp .And [a] pos) tA:=by
 intro wh pins s σ H Q I h
 refine isTrue_and (thn (ha pins s σ H Q I h) fun c s1 e=>?_)
 cases c with
 | true=>exact isTrue_and_nil e
 | false=>exact e
theorem xX (ha:PT X a tA):PW X (.BoolOp .Or [a] pos) tA:=by
 intro wh pins s σ H Q I h
 refine isTrue_or (thn (ha pins s σ H Q I h) fun c s1 e=>?_)
 cases c with
 | false=>exact isTrue_or_nil e
 | true=>exact e
theorem Qv (ha:PT X a tA) (hb:PW X (.BoolOp .And (b :: rest) pos) tB'):PW X (.BoolOp .And (a :: b :: rest) pos) (Fb tA tB'):=by
 intro wh pins s σ H Q I h
 refine isTrue_and (thn (ha pins s σ H _ I h) fun c s1 ⟨H1,I1,q1⟩=>?_)
 cases c with
 | true=>exact hb wh pins s1 σ H1 Q I1 q1
 | false=>exact ⟨H1,I1,q1⟩
theorem xD (ha:PT X a tA) (hb:PW X (.BoolOp .Or (b :: rest) pos) tB'):PW X (.BoolOp .Or (a :: b :: rest) pos) (tOr tA tB'):=by
 intro wh pins s σ H Q I h
 refine isTrue_or (thn (ha pins s σ H _ I h) fun c s1 ⟨H1,I1,q1⟩=>?_)
 cases c with
 | true=>exact ⟨H1,I1,q1⟩
 | false=>exact hb wh pins s1 σ H1 Q I1 q1
theorem uG (ha:PT X a tA):PT X (.UnaryOp .Not a pos) (tU tA):=by
 intro pins s σ H Q I h
 exact isTrue_not (ha pins s σ H (fun c H1=>Q (!c) H1) I h)
noncomputable def tL (ta tb:TE):TE:=fun σ H Q=>ta σ H fun x H1=>∃ c,x=.bl c/\if c=true then tb σ H1 Q else Q (.bl false) H1
noncomputable def Xa (ta tb:TE):TE:=fun σ H Q=>ta σ H fun x H1=>∃ c,x=.bl c/\if c=true then Q (.bl true) H1 else tb σ H1 Q
noncomputable def zA (ta:TE):TE:=fun σ H Q=>ta σ H fun x H1=>∃ c,x=.bl c/\Q (.bl (!c)) H1
theorem Kz {op} {t:TE} (h:PE X a t):PE X (.BoolOp op [a] pos) t:=fun pins s σ H Q I hw=>BoolOp_one (h pins s σ H Q I hw)
theorem La (ha:PE X a ta) (hb:PE X (.BoolOp .And (b :: rest) pos) tb):PE X (.BoolOp .And (a :: b :: rest) pos) (tL ta tb):=by
 intro pins s σ H Q I h
 refine BoolOp_and (thn (ha pins s σ H _ I h) fun v s1 ⟨x,H1,I1,r1,q1⟩=>?_)
 obtain ⟨c,rfl,q1⟩:=q1
 cases r1
 refine wpAny_truthy_bool ?_
 cases c with
 | true=>exact hb pins s1 σ H1 Q I1 q1
 | false=>exact ⟨.bl false,H1,I1,rfl,q1⟩
theorem pe_not (ha:PE X a ta):PE X (.UnaryOp .Not a pos) (zA ta):=by
 intro pins s σ H Q I h
 refine UnaryOp_ (thn (ha pins s σ H _ I h) fun v s1 ⟨x,H1,I1,r1,q1⟩=>?_)
 obtain ⟨c,rfl,q1⟩:=q1
 cases r1
 exact not_of (wpAny_truthy_bool ⟨.bl (!c),H1,I1,rfl,q1⟩)
noncomputable def tIf (t:TT) (ta tb:TE):TE:=fun σ H Q=>t σ H fun c H1=>if c=true then ta σ H1 Q else tb σ H1 Q
theorem Ga {c:Expr} (hc:PT X c tA) (ha:PE X a ta) (hb:PE X b tb):PE X (.IfExp c a b pos) (tIf tA ta tb):=by
 intro pins s σ H Q I h
 refine wpAny_IfExp (thn (hc pins s σ H _ I h) fun d s1 ⟨H1,I1,q1⟩=>?_)
 cases d with
 | true=>exact ha pins s1 σ H1 Q I1 q1
 | false=>exact hb pins s1 σ H1 Q I1 q1
end
end L2
namespace L2
open PySem PySem.Spec PyProof.Rows
noncomputable def SqL (K:PySem.W.Frag) (H:Hp) (a:Addr) (xs:List V):Prop :=
 Rd H a (.lst xs) ∨
  ∃ (o:Obj) (its:Array Value) (n:Nat),K.lookup a=some o/\o.cls=.type "list" /\ o.dict=none/\o.data=.seq its n/\its.size<=sizeLine/\cK xs its.toList
noncomputable def SqT (K:PySem.W.Frag) (H:Hp) (a:Addr) (xs:List V):Prop :=
 Rd H a (.tup xs) ∨
  ∃ (o:Obj) (its:Array Value) (n:Nat),K.lookup a=some o/\o.cls=.type "tuple" /\ o.data=.seq its n/\its.size<=sizeLine/\cK xs its.toList
noncomputable def absV:Value->Option V
 | .none=>some .non
 | .bool b=>some (.bl b)
 | .int i _=>some (.int i)
 | .str x _=>some (.str x)
 | .bytes b _=>some (.byt b)
 | .float b _=>some (.flt b)
 | .ref a=>some (.ref a)
 | .type n=>some (.ty n)
 | _=>none
theorem cV.abs {x:V} {u:Value} (r:cV x u):absV u=some x:=by
 cases x with
 | non=>cases r;rfl
 | bl _=>cases r;rfl
 | int _=>obtain ⟨t,rfl⟩:=r;rfl
 | str _=>obtain ⟨t,rfl⟩:=r;rfl
 | byt _=>obtain ⟨t,rfl⟩:=r;rfl
 | flt _=>obtain ⟨t,rfl⟩:=r;rfl
 | ref _=>cases r;rfl
 | ty _=>cases r;rfl
theorem cV.inj {x y:V} {u:Value} (r:cV x u) (q:cV y u):x=y:=Option.some.inj (r.abs.symm.trans q.abs)
theorem cK.inj:∀ {xs ys:List V} {us:List Value},cK xs us->cK ys us->xs=ys
 | _,_,_,.nil,.nil=>rfl
 | _,_,_,.cons r t,.cons r' t'=>by rw [r.inj r',cK.inj t t']
section
variable {X:Cx} {pins:List (Addr×Obj)} {σ:St} {H:Hp} {s:Shared} {a:Addr} {xs ys:List V}
theorem SqL.of {K:PySem.W.Frag} (h:H a=some (.lst xs)):SqL K H a xs:=.inl (.inl h)
theorem SqT.of {K:PySem.W.Frag} (h:H a=some (.tup xs)):SqT K H a xs:=.inl (.inl h)
theorem Inv.list (I:Inv X pins σ H s) (h:SqL X.K H a xs):∃ its:List Value,cK xs its/\PlainL s.heap a its.toArray/\xs.length<=sizeLine:=by
 rcases h with h | ⟨o,its,n,hk,hc,hd,hs,hz,r⟩
 ·obtain ⟨z,its,n,r,e⟩:=h.ok I.hok
  exact ⟨its,r,⟨_,n,e,rfl,rfl,rfl⟩,z⟩
 ·refine ⟨its.toList,r,⟨o,n,I.kIn a o hk,hc,hd,by simpa using hs⟩,?_⟩
  have e:=r.length
  simp only [Array.length_toList] at e
  omega
theorem Inv.tuple (I:Inv X pins σ H s) (h:SqT X.K H a xs):∃ its:List Value,cK xs its/\IsTup s.heap a its.toArray/\xs.length<=sizeLine:=by
 rcases h with h | ⟨o,its,n,hk,hc,hs,hz,r⟩
 ·obtain ⟨z,its,r,p⟩:=h.ok I.hok
  exact ⟨its,r,p,z⟩
 ·refine ⟨its.toList,r,⟨o,I.kIn a o hk,hc,n,by simpa using hs⟩,?_⟩
  have e:=r.length
  simp only [Array.length_toList] at e
  omega
theorem Inv.list_inj (I:Inv X pins σ H s) (h:SqL X.K H a xs) (h':SqL X.K H a ys):xs=ys:=by
 obtain ⟨its,r,⟨o,n,e,_,_,d⟩,_⟩:=I.list h
 obtain ⟨its',r',⟨o',n',e',_,_,d'⟩,_⟩:=I.list h'
 rw [e] at e';cases e'
 rw [d] at d'
 injection d' with d1 _
 have:its=its':=by simpa using congrArg Array.toList d1
 subst this
 exact r.inj r'
end
noncomputable abbrev Cx.wish (X:Cx) (E:Value->Shared->Prop):Cx:={ X with xe:=E }
noncomputable abbrev Cx.nox (X:Cx):Cx:=X.wish fun _ _=>False
theorem Cx.Ok.wish {X:Cx} (ok:X.Ok) (E:Value->Shared->Prop):(X.wish E).Ok :=
 ⟨ok.mod,ok.kind,ok.glob,ok.blt,ok.above,ok.inj,ok.has,ok.cab,ok.hd,ok.frames,ok.stk,ok.exf,ok.bs,ok.bsz,ok.noex,ok.exfs,ok.funs,ok.frf⟩
theorem Cx.Ok.unwish {X:Cx} {E:Value->Shared->Prop} (ok:(X.wish E).Ok):X.Ok :=
 ⟨ok.mod,ok.kind,ok.glob,ok.blt,ok.above,ok.inj,ok.has,ok.cab,ok.hd,ok.frames,ok.stk,ok.exf,ok.bs,ok.bsz,ok.noex,ok.exfs,ok.funs,ok.frf⟩
section
variable {X:Cx} {pins:List (Addr×Obj)} {σ:St} {H:Hp} {s:Shared} {E:Value->Shared->Prop}
theorem Inv.wish (I:Inv X pins σ H s) (E:Value->Shared->Prop):Inv (X.wish E) pins σ H s:=⟨I.ok.wish E,I.os,I.bare,I.base,I.loc,I.cell,I.free,I.freeC,I.pin,I.hok,I.len⟩
theorem Inv.unwish (I:Inv (X.wish E) pins σ H s):Inv X pins σ H s:=⟨I.ok.unwish,I.os,I.bare,I.base,I.loc,I.cell,I.free,I.freeC,I.pin,I.hok,I.len⟩
theorem SP.unwish {D:Be} {f:Flow} {s':Shared} (h:SP (X.wish E) pins D f s'):SP X pins D f s':=by
 cases f with
 | next=>obtain ⟨σ',H',I,q⟩:=h;exact ⟨σ',H',I.unwish,q⟩
 | brk=>obtain ⟨σ',H',I,q⟩:=h;exact ⟨σ',H',I.unwish,q⟩
 | cont=>obtain ⟨σ',H',I,q⟩:=h;exact ⟨σ',H',I.unwish,q⟩
 | ret u=>obtain ⟨v,σ',H',I,r,q⟩:=h;exact ⟨v,σ',H',I.unwish,r,q⟩
theorem PSs.nox {st:List Stmt} {t:TS} (h:PSs X.nox st t):PSs X st t:=fun pins s σ H D I hw =>
 wpAny_mono (h pins s σ H D (I.wish _) hw) (fun _ _ q=>q.unwish) fun _ _ z=>False.elim z
end
section
variable {X:Cx} {st:Stmt} {rest:List Stmt} {t u:TS} {e:Expr} {te:TE} {pos:Pos}
noncomputable def cE:TS:=fun D σ H=>D.nx σ H
noncomputable def aU (t u:TS):TS:=fun D σ H=>t { D with nx:=u D } σ H
theorem cC:PSs X [] cE:=fun _ _ σ H _ I h=>wpAny_execs_nil ⟨σ,H,I,h⟩
theorem aH (h1:PS X st t) (h2:PSs X rest u):PSs X (st :: rest) (aU t u):=by
 intro pins s σ H D I h
 refine wpAny_execs_cons (thn (h1 pins s σ H { D with nx:=u D } I h) fun f s1 q=>?_)
 cases f with
 | next =>
  obtain ⟨σ',H',I',q⟩:=q
  exact h2 pins s1 σ' H' D I' q
 | ret v=>exact q
 | brk=>exact q
 | cont=>exact q
theorem aL (h1:PS X st t):PSs X [st] t:=by
 intro pins s σ H D I h
 refine wpAny_execs_cons (thn (h1 pins s σ H D I h) fun f s1 q=>?_)
 cases f with
 | next=>exact wpAny_execs_nil q
 | ret v=>exact q
 | brk=>exact q
 | cont=>exact q
theorem Inv.quiet {pins:List (Addr×Obj)} {σ:St} {H:Hp} {s:Shared} (I:Inv X pins σ H s):interactive X.env=false:=by simp [interactive,I.ok.kind]
noncomputable def tK (te:TE):TS:=fun D σ H=>te σ H fun _ H1=>D.nx σ H1
theorem zI (he:PE X e te) (hs:swapsWith e none pos.line X.env=pure false:=by rfl):PS X (.Expr e pos) (tK te):=by
 intro pins s σ H D I h
 exact wpAny_Expr_any (thn (he pins s σ H _ I h) fun v s1 ⟨x,H1,I1,r1,q1⟩=>⟨σ,H1,I1,q1⟩) I.quiet hs
noncomputable def bK (te:TE):TS:=fun D σ H=>te σ H D.rt
theorem aY (he:PE X e te):PS X (.Return (some e) pos) (bK te):=by
 intro pins s σ H D I h
 exact wpAny_Return_some (thn (he pins s σ H _ I h) fun v s1 ⟨x,H1,I1,r1,q1⟩=>⟨x,σ,H1,I1,r1,q1⟩)
noncomputable def dG (c:TT) (t u:TS):TS:=fun D σ H=>c σ H fun b H1=>if b=true then t D σ H1 else u D σ H1
theorem dP {c:Expr} {a b:List Stmt} {tc:TT} (hc:PT X c tc) (ha:PSs X a t) (hb:PSs X b u):PS X (.If c a b pos) (dG tc t u):=by
 intro pins s σ H D I h
 refine wpAny_If (thn (hc pins s σ H _ I h) fun d s1 ⟨H1,I1,q1⟩=>?_)
 cases d with
 | true=>exact ha pins s1 σ H1 D I1 q1
 | false=>exact hb pins s1 σ H1 D I1 q1
noncomputable def lN:TS:=fun _ _ _=>False
theorem Fz:PS X st lN:=fun _ _ _ _ _ _ h=>h.elim
end
noncomputable abbrev TG:=V->St->Hp->(St->Hp->Prop)->Prop
noncomputable abbrev TGs:=List V->St->Hp->(St->Hp->Prop)->Prop
noncomputable def PG (X:Cx) (target:Expr) (t:TG):Prop :=
 ∀ (pins:List (Addr×Obj)) (s:Shared) (σ:St) (H:Hp) (v:V) (u:Value) (Q:St->Hp->Prop),Inv X pins σ H s->cV v u->t v σ H Q ->
  wpAny (model X.prog X.w) X.A (assign target X.env u) (fun _ s'=>∃ σ' H',Inv X pins σ' H' s'/\Q σ' H') X.xe s
noncomputable def PGs (X:Cx) (ts:List Expr) (t:TGs):Prop :=
 ∀ (pins:List (Addr×Obj)) (s:Shared) (σ:St) (H:Hp) (vs:List V) (us:List Value) (Q:St->Hp->Prop),Inv X pins σ H s->cK vs us->t vs σ H Q ->
  wpAny (model X.prog X.w) X.A (assignInOrder ((assignEach ts X.env).map (·.2)) us) (fun _ s'=>∃ σ' H',Inv X pins σ' H' s'/\Q σ' H') X.xe s
noncomputable abbrev TSet:=V->V->V->Hp->(Hp->Prop)->Prop
noncomputable def PSet (X:Cx) (t:TSet):Prop :=
 ∀ (pins:List (Addr×Obj)) (s:Shared) (σ:St) (H:Hp) (o i v:V) (ov iv u:Value) (Q:Hp->Prop),Inv X pins σ H s->cV o ov->cV i iv->cV v u->t o i v H Q ->
  wpAny (model X.prog X.w) X.A (setItem ov iv u) (fun _ s'=>∃ H',Inv X pins σ H' s'/\Q H') X.xe s
section
variable {X:Cx} {pos:Pos}
noncomputable def aK (i:Nat):TG:=fun v σ H Q=>Q (σ.set i (some v)) H
theorem cW {i:Nat} {x:Str} (hN:X.N.Nodup) (hi:X.N[i]?=some x) (hx:Loc X.env.scope x) (hf:X.fn x=true∨X.env.scope.names.lookup x=some .local:=by first | exact .inl rfl | exact .inr rfl | assumption):PG X (.Name x pos) (aK i):=by
 intro pins s σ H v u Q I r h
 exact wpAny_assign_Name (uK I hN hi hx r (fun s' I'=>⟨_,H,I',h⟩) hf)
noncomputable def kQ:TGs:=fun vs σ H Q=>vs=[]/\Q σ H
noncomputable def cT (t:TG) (u:TGs):TGs:=fun vs σ H Q=>∃ v r,vs=v :: r/\t v σ H fun σ' H'=>u r σ' H' Q
theorem fP:PGs X [] kQ:=by
 intro pins s σ H vs us Q I r h
 obtain ⟨e,h⟩:=h
 subst e
 cases r
 exact assignInOrder_nil ⟨σ,H,I,h⟩
theorem bZ {e:Expr} {es:List Expr} {t:TG} {u:TGs} (h1:PG X e t) (h2:PGs X es u)
  (hs:(assignEach (e :: es) X.env).map (·.2)=assign e X.env :: (assignEach es X.env).map (·.2):=by rfl):PGs X (e :: es) (cT t u):=by
 intro pins s σ H vs us Q I r h
 obtain ⟨v,vr,e1,h⟩:=h
 subst e1
 cases r with
 | cons r rr =>
  rw [hs]
  refine assignInOrder_cons (thn (h1 pins s σ H _ _ _ I r h) fun _ s1 ⟨σ1,H1,I1,q1⟩=>?_)
  exact h2 pins s1 σ1 H1 _ _ Q I1 rr q1
noncomputable def kP (K:PySem.W.Frag) (n:Nat) (t:TGs):TG:=fun v σ H Q=>∃ a xs,v=.ref a/\SqT K H a xs/\xs.length=n/\t xs σ H Q
theorem iL {es:List Expr} {k:Nat} {t:TGs} {n:Nat} (hc:X.calm=true) (h:PGs X es t)
  (hn:(assignEach es X.env).length=n:=by rfl) (hst:(assignEach es X.env).findIdx? (·.1)=none:=by rfl):PG X (.Tuple es k pos) (kP X.K n t):=by
 intro pins s σ H v u Q I r hw
 obtain ⟨a,xs,e1,hq,hl,hw⟩:=hw
 subst e1
 cases r
 obtain ⟨its,rv,ht,hz⟩:=I.tuple hq
 refine assign_Tuple_tuple (I.ok.hd hc) ht (by simp [hn,← hl,rv.length]) hst fun h' hx=>?_
 have I1:Inv X pins σ H { s with heap:=h' }:=I.kept (t':=s.toks) fun b o e=>hx b o (Nat.ne_of_lt (Heap.lt_size e)) e
 exact h pins _ σ H xs _ Q I1 (by simpa using rv) hw
noncomputable def Hy (to ti:TE) (t:TSet):TG:=fun v σ H Q=>to σ H fun o H1=>ti σ H1 fun i H2=>t o i v H2 fun H3=>Q σ H3
theorem Fh {o i:Expr} {to ti:TE} {t:TSet} (ho:PE X o to) (hi:PE X i ti) (hs:PSet X t)
  (ha:∀ v,assign (.Subscript o i pos) X.env v=(do
   let ov ← holding [v] (eval o X.env)
   let iv ← holding [v,ov] (eval i X.env)
   standAt pos
   holding [v,ov,iv] (setItem ov iv v)
   release [v,ov,iv] []):=by intro _;rfl):PG X (.Subscript o i pos) (Hy to ti t):=by
 intro pins s σ H v u Q I r h
 rw [ha]
 refine wpAny_bind (wpAny_holding (thn (ho pins s σ H _ I h) fun ov s1 ⟨x,H1,I1,r1,q1⟩=>?_))
 refine wpAny_bind (wpAny_holding (thn (hi pins s1 σ H1 _ I1 q1) fun iv s2 ⟨y,H2,I2,r2,q2⟩=>?_))
 refine wpAny_bind (wpAny_standAt (wpAny_bind (wpAny_holding (thn (hs pins s2 σ H2 x y v ov iv u _ I2 r1 r2 r q2) fun _ s3 ⟨H3,I3,q3⟩=>?_))))
 exact wpAny_release ⟨σ,H3,I3,q3⟩
noncomputable def bH (te:TE) (g:TG):TS:=fun D σ H=>te σ H fun x H1=>g x σ H1 D.nx
theorem uH {tg e:Expr} {te:TE} {g:TG} (he:PE X e te) (hg:PG X tg g) (hs:swapsWithSole [tg] e pos.line X.env=pure false:=by rfl) (hw:swappedStores [tg] e X.env=pure none:=by rfl)
  (h1:(assignEach [tg] X.env).map (·.2)=[assign tg X.env]:=by rfl):PS X (.Assign [tg] e pos) (bH te g):=by
 intro pins s σ H D I h
 refine wpAny_Assign_stores (thn (he pins s σ H _ I h) fun v s1 ⟨x,H1,I1,r1,q1⟩=>?_) hs hw
 rw [h1]
 exact thn (hg pins s1 σ H1 x v _ I1 r1 q1) fun _ s2 q=>q
theorem aX {i:Nat} {x:Str} {e:Expr} {te:TE} {pos':Pos} (hN:X.N.Nodup) (hi:X.N[i]?=some x) (hx:Loc X.env.scope x) (he:PE X e te) (hs:swapsWith e (some (.Name x pos')) pos.line X.env=pure false:=by rfl) (hf:X.fn x=true∨X.env.scope.names.lookup x=some .local:=by first | exact .inl rfl | exact .inr rfl | assumption) :
  PS X (.Assign [.Name x pos'] e pos) (bH te (aK i)):=by
 intro pins s σ H D I h
 refine wpAny_Assign_Name (thn (he pins s σ H _ I h) fun v s1 ⟨y,H1,I1,r1,q1⟩=>?_) hs
 exact uK I1 hN hi hx r1 (fun s2 I2=>⟨_,H1,I2,q1⟩) hf
noncomputable def Nv (i j:Nat) (ta:TA):TS:=fun D σ H=>ta σ H fun vs H1=>∃ v w,vs=[v,w]/\D.nx ((σ.set i (some v)).set j (some w)) H1
theorem ps_par {i j:Nat} {x y:Str} {a b:Expr} {ta:TA} {px py pt:Pos} {kt k2 pt2} (hc:X.calm=true) (hN:X.N.Nodup) (hi:X.N[i]?=some x) (hj:X.N[j]?=some y) (hij:i≠j)
  (hx:X.env.scope.names.lookup x=some .local) (hy:X.env.scope.names.lookup y=some .local) (ha:PA X [a,b] ta)
  (hw:swappedStores [.Tuple [.Name x px,.Name y py] kt pt] (.Tuple [a,b] k2 pt2) X.env=pure (some [x,y]))
  (hs:swapsWithSole [.Tuple [.Name x px,.Name y py] kt pt] (.Tuple [a,b] k2 pt2) pos.line X.env=pure false:=by rfl) :
  PS X (.Assign [.Tuple [.Name x px,.Name y py] kt pt] (.Tuple [a,b] k2 pt2) pos) (Nv i j ta):=by
 intro pins s σ H D I h
 rw [exec_Assign_arm]
 refine wpAny_bind (wpAny_standAt ?_)
 rw [hs]
 refine wpAny_bind (wpAny_pure ?_)
 rw [if_neg (by decide)]
 refine wpAny_bind (Tuple_ (thn (ha _ pins s σ H _ I h) fun us s1 ⟨vs,H1,I1,r1,q1⟩=>?_))
 obtain ⟨v,w,e1,q1⟩:=q1
 subst e1
 obtain ⟨u1,u2,rfl,rv,rw'⟩:∃ u1 u2,us=[u1,u2]/\cV v u1/\cV w u2:=by
  cases r1 with
  | cons p q =>
   cases q with
   | cons p' q' =>
    cases q'
    exact ⟨_,_,rfl,p,p'⟩
 refine wpAny_newObj_type ?_ (by show 2<=sizeLine;decide)
 have I2:Inv X pins σ H1 { s1 with heap:=s1.heap.push { cls:=.type "tuple",data:=.seq [u1,u2].toArray } }:=I1.kept (t':=s1.toks) fun b o e=>Heap.get?_push_of_some _ e
 rw [hw]
 refine wpAny_bind (wpAny_pure ?_)
 show wpAny (model X.prog X.w) X.A (do rule "assign.swapped-stores";let items ← unpackItems (.ref s1.heap.objs.size) 2 none;assignInOrder [fun v=>bindName X.env y v,fun v=>bindName X.env x v] items.reverse;pure Flow.next) _ _ _
 refine wpAny_bind (wpAny_rule (wpAny_bind (unpackItems_tuple (items:=#[u1,u2]) (I.ok.hd hc) (IsTup.new s1.heap _) fun h' hx'=>?_)))
 have I3:=I2.kept (h':=h') (t':=s1.toks) fun b o e=>hx' b o (Nat.ne_of_lt (Heap.lt_size e)) e
 show wpAny _ _ (assignInOrder [fun v=>bindName X.env y v,fun v=>bindName X.env x v] [u2,u1] >>= fun _=>pure Flow.next) _ _ _
 refine wpAny_bind (assignInOrder_cons (wpAny_bindName (uK I3 hN hj (.inl hy) rw' (fun s2 I4=>?_) (.inr hy))))
 refine assignInOrder_cons (wpAny_bindName (uK I4 hN hi (.inl hx) rv (fun s3 I5=>assignInOrder_nil (wpAny_pure ?_)) (.inr hx)))
 rw [List.set_comm _ _ (Ne.symm hij)] at I5
 exact ⟨_,H1,I5,q1⟩
end
section
variable {X:Cx} {pos:Pos}
noncomputable def xT (c:TT) (tb:TS):TS:=fun D σ H=>∃ W:Nat->St->Hp->Prop,(∃ m,W m σ H)/\∀ m σ H,W m σ H ->
 c σ H fun b H1=>if b=true then ∃ N:St->Hp->Prop,(∀ σ' H',N σ' H'->∃ m',m' < m/\W m' σ' H')/\tb { D with nx:=N,ct:=N,bk:=D.nx } σ H1 else D.nx σ H1
theorem zW {c:Expr} {body:List Stmt} {tc:TT} {tb:TS} (hp:PassesOwn (model X.prog X.w) X.A X.env X.xe) (hc:PT X c tc) (hb:PSs X body tb):PS X (.While c body [] pos) (xT tc tb):=by
 intro pins s σ H D I h
 obtain ⟨W,⟨m0,w0⟩,turn⟩:=h
 refine wpAny_While (codeAny_whileLoop (fun n s'=>∃ σ' H',Inv X pins σ' H' s'/\W n σ' H') ?_ m0 ⟨σ,H,I,w0⟩)
 rintro n s1 ⟨σ1,H1,I1,w1⟩
 refine wpAny_passesOwn hp (thn (hc pins s1 σ1 H1 _ I1 (turn n σ1 H1 w1)) fun b s2 ⟨H2,I2,q2⟩=>?_)
 cases b with
 | true =>
  obtain ⟨N,hN,q2⟩:=q2
  rw [if_pos rfl]
  refine wpAny_passesOwn hp (thn (hb pins s2 σ1 H2 _ I2 q2) fun f s3 q3=>?_)
  cases f with
  | next =>
   obtain ⟨σ3,H3,I3,n3⟩:=q3
   obtain ⟨m',hm,w3⟩:=hN σ3 H3 n3
   exact ⟨m',hm,σ3,H3,I3,w3⟩
  | cont =>
   obtain ⟨σ3,H3,I3,n3⟩:=q3
   obtain ⟨m',hm,w3⟩:=hN σ3 H3 n3
   exact ⟨m',hm,σ3,H3,I3,w3⟩
  | brk=>exact q3
  | ret v=>exact q3
 | false =>
  rw [if_neg Bool.false_ne_true]
  exact wpAny_execs_nil ⟨σ1,H2,I2,q2⟩
end
structure It where
 go:Nat->Hp->Prop
 yld:Nat->Hp->V->Hp->Prop
 stop:Nat->Hp->Prop
noncomputable def xP (X:Cx) (pins:List (Addr×Obj)) (H:Hp) (b:Addr):Prop :=
 H b=none/\b≠X.env.locals/\b∉X.fs/\(b∈X.ex∨X.s₀.heap.objs.size<=b)/\(∀ x c,X.env.cells.lookup x=some c->c≠b)/\∀ p∈X.pn ++ pins,p.1≠b
theorem Inv.fpOk {X:Cx} {pins:List (Addr×Obj)} {σ:St} {H H':Hp} {s:Shared} {b:Addr} (I:Inv X pins σ H s) (hb:s.heap.objs.size<=b) (hn:H' b=none):xP X pins H' b:=by
 refine ⟨hn,Nat.ne_of_gt (Nat.lt_of_lt_of_le I.lt hb),I.nofs hb,.inr (Nat.le_trans I.sz hb),fun x c e z=>?_,fun p hp z=>?_⟩
 ·obtain ⟨v,q⟩:=I.cell x c e
  exact absurd (Nat.lt_of_lt_of_le q.lt (by rw [z];exact hb)) (Nat.lt_irrefl _)
 ·exact absurd (Nat.lt_of_lt_of_le (Heap.lt_size (I.pin p hp).1) (by rw [z];exact hb)) (Nat.lt_irrefl _)
structure Kq (P:Program) (w:World) (K:PySem.W.Frag) (tg:Expr) (J:It) (fp:List Addr) (it:Addr) (tn:Nat->Heap->Prop):Prop where
 mem:it∈fp
 obj:∀ i h,tn i h->∀ b∈fp,∃ o,h.get? b=some o/\∀ v,o.data≠.cell v
 keep:∀ i h h',tn i h->(∀ b∈fp,∀ o,h.get? b=some o->h'.get? b=some o)->tn i h'
 item:∀ (X:Cx),X.prog=P->X.w=w->X.K=K->X.calm=true->∀ (i:Nat) (pins:List (Addr×Obj)) (s:Shared) (σ:St) (H:Hp) (E:Value->Shared->Prop),Inv X pins σ H s->(∀ b∈fp,xP X pins H b)->tn i s.heap->J.go i H ->
  wpAny (model P w) X.A (pyNext (.ref it)) (fun r s1=>∃ u,r=some u /\
   wpAny (model P w) X.A (letOwnedTupleGo tg (.ref it) u) (fun _ s2=>∃ x H',Inv X pins σ H' s2/\cV x u/\J.yld i H x H'/\tn (i+1) s2.heap/\∀ b∈fp,H' b=none) E s1) E s
 done:∀ (X:Cx),X.prog=P->X.w=w->X.K=K->X.calm=true->∀ (i:Nat) (pins:List (Addr×Obj)) (s:Shared) (σ:St) (H:Hp) (E:Value->Shared->Prop),Inv X pins σ H s->(∀ b∈fp,xP X pins H b)->tn i s.heap->J.stop i H ->
  wpAny (model P w) X.A (pyNext (.ref it)) (fun r s1=>r=none/\Inv X pins σ H s1) E s
 self:∀ (A:Around) (i:Nat) (s:Shared) (Q:Value->Shared->Prop) (E:Value->Shared->Prop),tn i s.heap->Q (.ref it) s->wpAny (model P w) A (pyIter (.ref it)) Q E s
noncomputable abbrev TI:=St->Hp->(It->Hp->Prop)->Prop
noncomputable def PIE (X:Cx) (pins:List (Addr×Obj)) (σ:St) (tg:Expr) (R:It->Hp->Prop) (itv:Value) (s2:Shared):Prop :=
 ∃ (it:Addr) (fp:List Addr) (tn:Nat->Heap->Prop) (J:It) (H':Hp),itv=.ref it/\Inv X pins σ H' s2/\Kq X.prog X.w X.K tg J fp it tn/\tn 0 s2.heap/\(∀ b∈fp,xP X pins H' b)/\R J H'
noncomputable def PI (X:Cx) (tg iter:Expr) (wi:TI):Prop :=
 ∀ (pins:List (Addr×Obj)) (s:Shared) (σ:St) (H:Hp) (R:It->Hp->Prop),Inv X pins σ H s->wi σ H R ->
  wpAny (model X.prog X.w) X.A (eval iter X.env) (fun v s1=>wpAny (model X.prog X.w) X.A (pyIter v) (PIE X pins σ tg R) X.xe s1) X.xe s
theorem go_of {M:Model} {A:Around} {E:Value->Shared->Prop} {s:Shared} {tg:Expr} {it:Addr} {u:Value} {o:Obj} {n:String} {vs:Array Value} {Q:Unit->Shared->Prop} (ho:s.heap.get? it=some o) (hc:o.cls=.type n) (hd:o.data=.fields vs)
  (hn:["enumerate", "zip", "dict_itemiterator", "dict_reverseitemiterator", "odict_iterator", "itertools.zip_longest", "itertools.pairwise"].contains n=false) (hQ:Q () s):wpAny M A (letOwnedTupleGo tg (.ref it) u) Q E s:=by
 unfold letOwnedTupleGo
 cases tg <;> first
  | exact wpAny_pure hQ
  | (cases u <;> first
    | exact wpAny_pure hQ
    | (refine wpAny_bind (wpAny_load ho ?_)
       rw [hc,hd]
       show wpAny M A (if (["enumerate", "zip", "dict_itemiterator", "dict_reverseitemiterator", "odict_iterator", "itertools.zip_longest", "itertools.pairwise"].contains n && vs[0]? == some (rawInt _))=true then _ else _) Q E s
       rw [if_neg (by intro h;rw [hn,Bool.false_and] at h;cases h)]
       exact wpAny_pure hQ))
noncomputable def Itl (K:PySem.W.Frag) (a:Addr):It :=
 ⟨fun i H=>∃ xs x,SqL K H a xs/\xs[i]?=some x,fun i H x H'=>H'=H/\∀ xs,SqL K H a xs->xs[i]?=some x,fun i H=>∃ xs,SqL K H a xs/\xs.length<=i⟩
noncomputable def Itr (lo:Int) (n:Nat):It:=⟨fun i _=>i < n,fun i H x H'=>H'=H/\x=.int (lo+i),fun i _=>n<=i⟩
theorem Vh {P:Program} {w:World} {K:PySem.W.Frag} {tg:Expr} (a it:Addr):Kq P w K tg (Itl K a) [it] it (fun i h=>h.IsListIter it a i) where
 mem:=by simp
 obj:=fun i h st b hb=>by
  have e:b=it:=by simpa using hb
  subst e
  obtain ⟨o,e,c,d⟩:=st
  exact ⟨o,e,fun v z=>by rw [d] at z;cases z⟩
 keep:=fun i h h' st k=>st.at fun o e=>k it (by simp) o e
 item:=by
  intro X hP hw hK hc i pins s σ H E I hf st hg
  subst hP hw hK
  obtain ⟨xs,x,hq,hx⟩:=hg
  obtain ⟨its,rv,p,hz⟩:=I.list hq
  obtain ⟨u,hu,ru⟩:=rv.get hx
  obtain ⟨f0,f1,f2,f3,f4,f5⟩:=hf it (by simp)
  refine wpAny_pyNext_list_item st p.isList (x:=u) (by simpa using hu) fun h' st' sb=>?_
  have I1:Inv X pins σ H { s with heap:=h' }:=I.turned (t':=s.toks) (fun b o hb e=>(sb.2 b hb).trans e) f0 f1 f3 f4 f5
  obtain ⟨o,e,c,d⟩:=id st'
  exact ⟨u,rfl,go_of (s:={ s with heap:=h' }) e c d (by decide) ⟨x,H,I1,ru,⟨rfl,fun ys hy=>by rw [I.list_inj hy hq];exact hx⟩,st',fun b hb=>(hf b hb).1⟩⟩
 done:=by
  intro X hP hw hK hc i pins s σ H E I hf st hg
  subst hP hw hK
  obtain ⟨xs,hq,hx⟩:=hg
  obtain ⟨its,rv,p,hz⟩:=I.list hq
  obtain ⟨f0,f1,f2,f3,f4,f5⟩:=hf it (by simp)
  have hl:=rv.length
  exact wpAny_pyNext_list_end (I.ok.hd hc) st p.isList (by simp;omega) fun h' eb=>⟨rfl,I.turned (t':=s.toks) (fun b o hb e=>eb b o hb e) f0 f1 f3 f4 f5⟩
 self:=fun _ _ _ _ _ st h=>wpAny_pyIter_listiter st h
theorem Rj {P:Program} {w:World} {K:PySem.W.Frag} {tg:Expr} (it:Addr) (lo:Int) (n:Nat):Kq P w K tg (Itr lo n) [it] it (fun i h=>IsRangeIter h it (lo+(i:Nat) * 1) ((n:Int) - (i:Nat)) 1) where
 mem:=by simp
 obj:=fun i h st b hb=>by
  have e:b=it:=by simpa using hb
  subst e
  exact ⟨_,st,fun v z=>by
   have z':Data.fields _=Data.cell v:=z
   cases z'⟩
 keep:=fun i h h' st k=>k it (by simp) _ st
 item:=by
  intro X hP hw hK hc i pins s σ H E I hf st hg
  subst hP hw hK
  obtain ⟨f0,f1,f2,f3,f4,f5⟩:=hf it (by simp)
  have W:=Walks.range (prog:=X.prog) (w:=X.w) (I.ok.hd hc) it lo 1 n
  refine W.item i s _ _ hg st fun v h' tk hv st' kk=>?_
  obtain ⟨t,rfl⟩:=hv
  have I1:Inv X pins σ H { s with heap:=h',toks:=tk }:=I.turned (fun b o hb e=>kk b o (by simpa using hb) e) f0 f1 f3 f4 f5
  refine ⟨_,rfl,go_of (s:={ s with heap:=h',toks:=tk }) (n:="range_iterator") st' rfl rfl (by decide) ⟨.int (lo+i),H,I1,⟨t,?_⟩,⟨rfl,rfl⟩,st',fun b hb=>(hf b hb).1⟩⟩
  rw [Int.mul_one]
 done:=by
  intro X hP hw hK hc i pins s σ H E I hf st hg
  subst hP hw hK
  obtain ⟨f0,f1,f2,f3,f4,f5⟩:=hf it (by simp)
  exact wpAny_pyNext_range_end (I.ok.hd hc) st (by have:n<=i:=hg;omega) fun h' eb=>⟨rfl,I.turned (t':=s.toks) (fun b o hb e=>eb b o hb e) f0 f1 f3 f4 f5⟩
 self:=fun _ _ _ _ _ st h=>wpAny_pyIter_rangeiter st h
end L2
namespace L2
open PySem PySem.Spec PyProof.Rows
section
variable {X:Cx} {tg:Expr}
noncomputable def bQ (K:PySem.W.Frag) (tl:TE):TI:=fun σ H R=>tl σ H fun x H1=>exR x fun a=>(∃ xs,SqL K H1 a xs)/\R (Itl K a) H1
theorem bY {l:Expr} {tl:TE} (hl:PE X l tl):PI X tg l (bQ X.K tl):=by
 intro pins s σ H R I h
 refine thn (hl pins s σ H _ I h) fun v s1 ⟨x,H1,I1,r1,q1⟩=>?_
 obtain ⟨a,e,⟨xs,hq⟩,q⟩:=Eq.mp eN q1
 subst e
 cases r1
 obtain ⟨its,rv,p,hz⟩:=I1.list hq
 refine wpAny_pyIter_list p.isList ?_
 refine ⟨s1.heap.objs.size,[s1.heap.objs.size],_,_,H1,rfl,I1.kept (t':=s1.toks) fun b o e=>Heap.get?_push_of_some _ e,Vh a _,⟨_,Heap.get?_push_size _ rfl,rfl,rfl⟩,fun b hb=>?_,q⟩
 have e:b=s1.heap.objs.size:=by simpa using hb
 subst e
 exact I1.fpOk (Nat.le_refl _) (I1.hok.fresh (Nat.le_refl _))
theorem Zj {pins:List (Addr×Obj)} {σ:St} {H:Hp} {s:Shared} {R:It->Hp->Prop} {E:Value->Shared->Prop} {lo hi:Int} {t u v:Tok} {tk:Nat} (I:Inv X pins σ H s) (h1:-(2 ^ 62)<=lo) (h2:lo < 2 ^ 62) (h3:-(2 ^ 62)<=hi) (h4:hi < 2 ^ 62)
  (q:R (Itr lo (hi - lo).toNat) H):wpAny (model X.prog X.w) X.A (pyIter (.ref s.heap.objs.size)) (PIE X pins σ tg R) E { s with heap:=s.heap.push { cls:=.type "range",data:=.fields #[.int lo t,.int hi u,.int 1 v] },toks:=tk }:=by
 refine wpAny_pyIter_range (IsRange.new ..) (small_one h1 h2 h3 h4) ?_
 have I1:Inv X pins σ H { s with heap:=s.heap.push { cls:=.type "range",data:=.fields #[.int lo t,.int hi u,.int 1 v] },toks:=tk }:=I.kept fun b o e=>Heap.get?_push_of_some _ e
 refine ⟨(s.heap.push { cls:=.type "range",data:=.fields #[.int lo t,.int hi u,.int 1 v] }).objs.size,[(s.heap.push { cls:=.type "range",data:=.fields #[.int lo t,.int hi u,.int 1 v] }).objs.size],_,_,H,rfl,
  I1.kept (t':=tk) fun b o e=>Heap.get?_push_of_some _ e,Rj _ lo (hi - lo).toNat,?_,fun b hb=>?_,q⟩
 ·have e1:lo+((0:Nat):Int) * 1=lo:=by simp
  have e2:(((hi - lo).toNat:Nat):Int) - ((0:Nat):Int)=Builtin.Range.rangeSize lo hi 1:=by rw [rangeSize_one];split <;> omega
  show IsRangeIter _ _ (lo+((0:Nat):Int) * 1) ((((hi - lo).toNat:Nat):Int) - ((0:Nat):Int)) 1
  rw [e1,e2]
  exact Heap.get?_push_size _ rfl
 ·have e:b=(s.heap.push { cls:=.type "range",data:=.fields #[.int lo t,.int hi u,.int 1 v] }).objs.size:=by simpa using hb
  subst e
  exact I1.fpOk (Nat.le_refl _) (I1.hok.fresh (Nat.le_refl _))
noncomputable def hE (ta:TA):TI:=fun σ H R=>ta σ H fun vs H1=>∃ j:Int,vs=[.int j]/\-(2 ^ 62)<=j/\j < 2 ^ 62/\R (Itr 0 j.toNat) H1
theorem fL {a:Expr} {ta:TA} {p pos:Pos} (hg:Gl X "range") (hm:X.mg "range" = none) (ha:PA X [a] ta) (hs:starEach [a] X.env=[(false,eval a X.env)]:=by rfl):PI X tg (.Call (.Name "range" p) [a] [] pos) (hE ta):=by
 intro pins s σ H R I h
 refine Call_ (rX I hg hm boot_range (PyProof.Rows.callWith_type1 (thn (ha pos pins s σ H _ I h) fun us s1 ⟨vs,H1,I1,r1,q1⟩=>?_) hs rfl))
 obtain ⟨j,e,q1,q2,q⟩:=q1
 subst e
 cases r1 with
 | cons r rr =>
  cases rr
  obtain ⟨t,rfl⟩:=r
  exact call_range_1 (Zj I1 (by omega) (by omega) q1 q2 (by simpa using q))
noncomputable def jX (wi:TI) (g:TG) (tb:TS):TS:=fun D σ H=>wi σ H fun J H1=>∃ W:Nat->Nat->St->Hp->Prop,(∃ m,W 0 m σ H1)/\∀ i m σ H,W i m σ H ->
 (J.stop i H/\D.nx σ H)∨(J.go i H/\∃ N:St->Hp->Prop,(∀ σ' H',N σ' H'->∃ m',m' < m/\W (i+1) m' σ' H')/\∀ x H',J.yld i H x H'->g x σ H' fun σ2 H2=>tb { D with nx:=N,ct:=N,bk:=D.nx } σ2 H2)
noncomputable def Ky (fp:List Addr) (h:Heap):List (Addr×Obj):=fp.filterMap fun b=>(h.get? b).map fun o=>(b,o)
theorem dH {fp:List Addr} {h:Heap} {b:Addr} {o:Obj} (hb:b∈fp) (e:h.get? b=some o):(b,o)∈Ky fp h:=List.mem_filterMap.mpr ⟨b,hb,by rw [e];rfl⟩
theorem Wd {fp:List Addr} {h:Heap} {p:Addr×Obj} (hp:p∈Ky fp h):p.1∈fp/\h.get? p.1=some p.2:=by
 obtain ⟨b,hb,e⟩:=List.mem_filterMap.mp hp
 cases q:h.get? b with
 | none=>rw [q] at e;cases e
 | some o =>
  rw [q] at e
  have e':(b,o)=p:=Option.some.inj e
  subst e'
  exact ⟨hb,q⟩
theorem Inv.pinned {pins:List (Addr×Obj)} {σ:St} {H:Hp} {s:Shared} {fp:List Addr} (I:Inv X pins σ H s) (hf:∀ b∈fp,xP X pins H b) (ho:∀ b∈fp,∃ o,s.heap.get? b=some o/\∀ v,o.data≠.cell v):Inv X (pins ++ Ky fp s.heap) σ H s :=
 I.pins_of fun p hp=>(List.mem_append.mp hp).elim (fun z=>I.pin p (List.mem_append_right _ z)) fun z=>by
  obtain ⟨hb,e⟩:=Wd z
  obtain ⟨f0,f1,f2,_⟩:=hf p.1 hb
  obtain ⟨o,e',d⟩:=ho p.1 hb
  rw [e] at e';cases e'
  exact ⟨e,f0,f1,f2,d⟩
theorem Inv.unpinned {pins pl:List (Addr×Obj)} {σ:St} {H:Hp} {s:Shared} (I:Inv X (pins ++ pl) σ H s):Inv X pins σ H s:=I.pins_of fun p hp=>I.pin p (List.mem_append_right _ (List.mem_append_left _ hp))
theorem kA {iter:Expr} {body:List Stmt} {wi:TI} {g:TG} {tb:TS} {pos:Pos} (hp:PassesOwn (model X.prog X.w) X.A X.env X.xe) (hc:X.calm=true) (hi:PI X tg iter wi) (hg:PG X tg g) (hb:PSs X body tb)
  (hs:∀ x,foldedSetIterable iter X.env x=pure x:=by intro _;rfl):PS X (.For tg iter body [] pos) (jX wi g tb):=by
 intro pins s σ H D I h
 refine wpAny_For (thn (hi pins s σ H _ I h) fun v s1 h1=>thn h1 fun itv s2 h2=>?_) hs
 obtain ⟨it,fp,tn,J,H2,e,I2,T,st2,f2,W,⟨m0,w0⟩,turn⟩:=h2
 subst e
 -- what stays true of the iterator's objects through the loop
 have stat:∀ {H':Hp},(∀ b∈fp,H' b=none)->∀ b∈fp,xP X pins H' b:=fun hn b hb=>⟨hn b hb,(f2 b hb).2⟩
 refine codeAny_forLoop_any (fun n s'=>∃ i σ' H',Inv X pins σ' H' s'/\tn i s'.heap/\(∀ b∈fp,H' b=none)/\W i n σ' H') ?_ m0 ⟨0,σ,H2,I2,st2,fun b hb=>(f2 b hb).1,w0⟩
 rintro n s3 ⟨i,σ3,H3,I3,st3,fr3,w3⟩
 rcases turn i n σ3 H3 w3 with ⟨stop,qn⟩ | ⟨go,N,hN,step⟩
 ·refine wpAny_passesOwn hp (thn (T.done X rfl rfl rfl hc i pins s3 σ3 H3 X.xe I3 (stat fr3) st3 stop) fun r s4 ⟨hr,I4⟩=>?_)
  subst hr
  exact wpAny_execs_nil ⟨σ3,H3,I4,qn⟩
 ·refine wpAny_passesOwn hp (thn (T.item X rfl rfl rfl hc i pins s3 σ3 H3 X.xe I3 (stat fr3) st3 go) fun r s4 ⟨u,hr,h4⟩=>?_)
  subst hr
  refine wpAny_passesOwn hp (thn h4 fun _ s5 ⟨x,H5,I5,r5,y5,st5,fr5⟩=>?_)
  have I5':=I5.pinned (stat fr5) (T.obj _ _ st5)
  refine wpAny_passesOwn hp (thn (hg _ s5 σ3 H5 x u _ I5' r5 (step x H5 y5)) fun _ s6 ⟨σ6,H6,I6,q6⟩=>?_)
  refine wpAny_passesOwn hp (thn (hb _ s6 σ6 H6 _ I6 q6) fun f s7 q7=>?_)
  have again:∀ {σ7:St} {H7:Hp},Inv X (pins ++ Ky fp s5.heap) σ7 H7 s7->N σ7 H7->∃ m,m < n/\∃ i σ' H',Inv X pins σ' H' s7/\tn i s7.heap/\(∀ b∈fp,H' b=none)/\W i m σ' H':=fun {σ7 H7} I7 n7=>by
   obtain ⟨m',hm,w7⟩:=hN σ7 H7 n7
   refine ⟨m',hm,i+1,σ7,H7,I7.unpinned,T.keep _ _ _ st5 fun b hb o e=>(I7.pin (b,o) (List.mem_append_right _ (List.mem_append_right _ (dH hb e)))).1,fun b hb=>?_,w7⟩
   obtain ⟨o,e,d⟩:=T.obj _ _ st5 b hb
   exact (I7.pin (b,o) (List.mem_append_right _ (List.mem_append_right _ (dH hb e)))).2.1
  cases f with
  | next=>obtain ⟨σ7,H7,I7,n7⟩:=q7;exact again I7 n7
  | cont=>obtain ⟨σ7,H7,I7,n7⟩:=q7;exact again I7 n7
  | brk=>obtain ⟨σ7,H7,I7,q7⟩:=q7;exact ⟨σ7,H7,I7.unpinned,q7⟩
  | ret v=>obtain ⟨x7,σ7,H7,I7,r7,q7⟩:=q7;exact ⟨x7,σ7,H7,I7.unpinned,r7,q7⟩
end
theorem mT {K:PySem.W.Frag} {a:Addr} {xs:List V} {g:TG} {tb:TS} {D:Be} {σ:St} {H:Hp} (Pv:Nat->St->Hp->Prop) (h0:Pv 0 σ H) (hl:∀ i σ H,i<=xs.length->Pv i σ H->SqL K H a xs)
  (hs:∀ i x σ H,xs[i]?=some x->Pv i σ H->g x σ H fun σ2 H2=>tb { D with nx:=Pv (i+1),ct:=Pv (i+1),bk:=D.nx } σ2 H2) (hd:∀ σ H,Pv xs.length σ H->D.nx σ H) :
  ∃ W:Nat->Nat->St->Hp->Prop,(∃ m,W 0 m σ H)/\∀ i m σ H,W i m σ H ->
   ((Itl K a).stop i H/\D.nx σ H)∨((Itl K a).go i H/\∃ N:St->Hp->Prop,(∀ σ' H',N σ' H'->∃ m',m' < m/\W (i+1) m' σ' H')/\∀ x H',(Itl K a).yld i H x H'->g x σ H' fun σ2 H2=>tb { D with nx:=N,ct:=N,bk:=D.nx } σ2 H2):=by
 refine ⟨fun i m σ H=>m=xs.length - i/\i<=xs.length/\Pv i σ H,⟨xs.length,by simp,Nat.zero_le _,h0⟩,?_⟩
 rintro i m σ H ⟨rfl,hi,p⟩
 have q:=hl i σ H hi p
 by_cases hlt:i < xs.length
 ·refine .inr ⟨⟨xs,xs[i],q,by simp [hlt]⟩,Pv (i+1),fun σ' H' p'=>⟨xs.length - (i+1),by omega,rfl,hlt,p'⟩,fun x H' y=>?_⟩
  obtain ⟨e,y⟩:=y
  subst e
  exact hs i x σ _ (y xs q) p
 ·have e:i=xs.length:=by omega
  subst e
  exact .inl ⟨⟨xs,q,Nat.le_refl _⟩,hd σ H p⟩
theorem Ch {lo:Int} {n:Nat} {g:TG} {tb:TS} {D:Be} {σ:St} {H:Hp} (Pv:Nat->St->Hp->Prop) (h0:Pv 0 σ H)
  (hs:∀ i σ H,i < n->Pv i σ H->g (.int (lo+i)) σ H fun σ2 H2=>tb { D with nx:=Pv (i+1),ct:=Pv (i+1),bk:=D.nx } σ2 H2) (hd:∀ σ H,Pv n σ H->D.nx σ H) :
  ∃ W:Nat->Nat->St->Hp->Prop,(∃ m,W 0 m σ H)/\∀ i m σ H,W i m σ H ->
   ((Itr lo n).stop i H/\D.nx σ H)∨((Itr lo n).go i H/\∃ N:St->Hp->Prop,(∀ σ' H',N σ' H'->∃ m',m' < m/\W (i+1) m' σ' H')/\∀ x H',(Itr lo n).yld i H x H'->g x σ H' fun σ2 H2=>tb { D with nx:=N,ct:=N,bk:=D.nx } σ2 H2):=by
 refine ⟨fun i m σ H=>m=n - i/\i<=n/\Pv i σ H,⟨n,by simp,Nat.zero_le _,h0⟩,?_⟩
 rintro i m σ H ⟨rfl,hi,p⟩
 by_cases hlt:i < n
 ·refine .inr ⟨hlt,Pv (i+1),fun σ' H' p'=>⟨n - (i+1),by omega,rfl,hlt,p'⟩,fun x H' y=>?_⟩
  obtain ⟨e,y⟩:=y
  subst e y
  exact hs i σ _ hlt p
 ·have e:i=n:=by omega
  subst e
  exact .inl ⟨Nat.le_refl _,hd σ H p⟩
theorem Fs {c:TT} {tb:TS} {D:Be} {σ:St} {H:Hp} (Pv:St->Hp->Prop) (μ:St->Hp->Nat) (h0:Pv σ H)
  (hs:∀ σ H,Pv σ H->c σ H fun b H1=>if b=true then tb { D with nx:=fun σ' H'=>Pv σ' H'/\μ σ' H' < μ σ H,ct:=fun σ' H'=>Pv σ' H'/\μ σ' H' < μ σ H,bk:=D.nx } σ H1 else D.nx σ H1)
  (mono:∀ σ H Q Q',(∀ b H1,Q b H1->Q' b H1)->c σ H Q->c σ H Q'):xT c tb D σ H:=by
 refine ⟨fun m σ H=>m=μ σ H/\Pv σ H,⟨_,rfl,h0⟩,?_⟩
 rintro m σ H ⟨rfl,p⟩
 refine mono σ H _ _ (fun b H1 q=>?_) (hs σ H p)
 cases b with
 | true=>exact ⟨_,fun σ' H' ⟨p',l⟩=>⟨_,l,rfl,p'⟩,q⟩
 | false=>exact q
end L2
namespace L2
open PySem PySem.Spec PyProof.Rows
noncomputable abbrev R2:=V->V->Hp->VK->Prop
noncomputable def OpR (X:Cx) (f:Value->Value->Sem Value) (r:R2):Prop :=
 ∀ (pins:List (Addr×Obj)) (s:Shared) (σ:St) (H:Hp) (x y:V) (v u:Value) (Q:VK),Inv X pins σ H s->cV x v->cV y u->r x y H Q ->
  wpAny (model X.prog X.w) X.A (f v u) (EP X pins σ Q) X.xe s
noncomputable def UnR (X:Cx) (f:Value->Sem Value) (r:V->Hp->VK->Prop):Prop :=
 ∀ (pins:List (Addr×Obj)) (s:Shared) (σ:St) (H:Hp) (x:V) (v:Value) (Q:VK),Inv X pins σ H s->cV x v->r x H Q ->
  wpAny (model X.prog X.w) X.A (f v) (EP X pins σ Q) X.xe s
noncomputable def qL (X:Cx) (f:Value) (r:List V->Hp->VK->Prop):Prop :=
 ∀ (pins:List (Addr×Obj)) (s:Shared) (σ:St) (H:Hp) (xs:List V) (us:List Value) (Q:VK),Inv X pins σ H s->cK xs us->r xs H Q ->
  wpAny (model X.prog X.w) X.A (call f us) (EP X pins σ Q) X.xe s
noncomputable def TruR (X:Cx) (r:V->Hp->(Bool->Hp->Prop)->Prop):Prop :=
 ∀ (pins:List (Addr×Obj)) (s:Shared) (σ:St) (H:Hp) (x:V) (v:Value) (Q:Bool->Hp->Prop),Inv X pins σ H s->cV x v->r x H Q ->
  wpAny (model X.prog X.w) X.A (truthy v) (TP X pins σ Q) X.xe s
noncomputable def tOp (r:R2) (ta tb:TE):TE:=fun σ H Q=>ta σ H fun x H1=>tb σ H1 fun y H2=>r x y H2 Q
noncomputable def tUn (r:V->Hp->VK->Prop) (ta:TE):TE:=fun σ H Q=>ta σ H fun x H1=>r x H1 Q
noncomputable def rI (C:Int->Int->Prop) (g:Int->Int->V):R2:=fun x y H Q=>exI x fun i=>exI y fun j=>C i j/\Q (g i j) H
noncomputable def rI0 (g:Int->Int->V):R2:=fun x y H Q=>exI x fun i=>exI y fun j=>Q (g i j) H
noncomputable def rU (g:Int->V):V->Hp->VK->Prop:=fun x H Q=>exI x fun i=>Q (g i) H
section
variable {X:Cx} {a b c:Expr} {ta tb tc:TE} {pos:Pos}
theorem binT (ha:PE X a ta) (hb:PE X b tb) {pins:List (Addr×Obj)} {s:Shared} {σ:St} {H:Hp} {R:V->V->Hp->Prop} (I:Inv X pins σ H s)
  (h:ta σ H fun x H1=>tb σ H1 fun y H2=>R x y H2) {Q:Value->Shared->Prop} {f:Value->Value->Sem Value}
  (hf:∀ v u s2 x y H2,Inv X pins σ H2 s2->cV x v->cV y u->R x y H2->wpAny (model X.prog X.w) X.A (f v u) Q X.xe s2) :
  wpAny (model X.prog X.w) X.A (eval a X.env) (fun v s₁=>wpAny (model X.prog X.w) X.A (eval b X.env) (fun u s₂=>wpAny (model X.prog X.w) X.A (f v u) Q X.xe s₂) X.xe s₁) X.xe s:=by
 refine thn (ha pins s σ H _ I h) fun v s1 ⟨x,H1,I1,r1,q1⟩=>?_
 refine thn (hb pins s1 σ H1 _ I1 q1) fun u s2 ⟨y,H2,I2,r2,q2⟩=>?_
 exact hf v u s2 x y H2 I2 r1 r2 q2
theorem aR {op:Operator} {r:R2} (ho:OpR X (binaryOp op) r) (ha:PE X a ta) (hb:PE X b tb):PE X (.BinOp a op b pos) (tOp r ta tb):=by
 intro pins s σ H Q I h
 exact wpAny_BinOp (binT ha hb I h fun v u s2 x y H2 I2 rx ry q=>ho pins s2 σ H2 x y v u Q I2 rx ry q)
theorem jO {op:UnaryOp} {r:V->Hp->VK->Prop} (ho:UnR X (unaryOp op) r) (ha:PE X a ta):PE X (.UnaryOp op a pos) (tUn r ta):=by
 intro pins s σ H Q I h
 exact UnaryOp_ (thn (ha pins s σ H _ I h) fun v s1 ⟨x,H1,I1,r1,q1⟩=>ho pins s1 σ H1 x v Q I1 r1 q1)
theorem opI {f:Value->Value->Sem Value} {C:Int->Int->Prop} {g:Int->Int->Int}
  (rule:∀ (i j:Int) (t u:Tok) (s:Shared) (Q:Value->Shared->Prop) (E:Value->Shared->Prop),C i j->Q (.int (g i j) s.toks) { s with toks:=s.toks+1 }->wpAny (model X.prog X.w) X.A (f (.int i t) (.int j u)) Q E s) :
  OpR X f (rI C fun i j=>.int (g i j)):=by
 intro pins s σ H x y v u Q I rx ry h
 obtain ⟨i,rfl,h1⟩:=Eq.mp dQ h
 obtain ⟨j,rfl,hc,q⟩:=Eq.mp dQ h1
 obtain ⟨t,rfl⟩:=rx
 obtain ⟨t',rfl⟩:=ry
 exact rule i j t t' s _ _ hc ⟨.int (g i j),H,I.tok _,⟨_,rfl⟩,q⟩
theorem opI0 {f:Value->Value->Sem Value} {g:Int->Int->Int}
  (rule:∀ (i j:Int) (t u:Tok) (s:Shared) (Q:Value->Shared->Prop) (E:Value->Shared->Prop),Q (.int (g i j) s.toks) { s with toks:=s.toks+1 }->wpAny (model X.prog X.w) X.A (f (.int i t) (.int j u)) Q E s) :
  OpR X f (rI0 fun i j=>.int (g i j)):=by
 intro pins s σ H x y v u Q I rx ry h
 obtain ⟨i,rfl,h1⟩:=Eq.mp dQ h
 obtain ⟨j,rfl,q⟩:=Eq.mp dQ h1
 obtain ⟨t,rfl⟩:=rx
 obtain ⟨t',rfl⟩:=ry
 exact rule i j t t' s _ _ ⟨.int (g i j),H,I.tok _,⟨_,rfl⟩,q⟩
theorem opB0 {f:Value->Value->Sem Value} {g:Int->Int->Bool}
  (rule:∀ (i j:Int) (t u:Tok) (s:Shared) (Q:Value->Shared->Prop) (E:Value->Shared->Prop),Q (.bool (g i j)) s->wpAny (model X.prog X.w) X.A (f (.int i t) (.int j u)) Q E s) :
  OpR X f (rI0 fun i j=>.bl (g i j)):=by
 intro pins s σ H x y v u Q I rx ry h
 obtain ⟨i,rfl,h1⟩:=Eq.mp dQ h
 obtain ⟨j,rfl,q⟩:=Eq.mp dQ h1
 obtain ⟨t,rfl⟩:=rx
 obtain ⟨t',rfl⟩:=ry
 exact rule i j t t' s _ _ ⟨.bl (g i j),H,I,rfl,q⟩
noncomputable def CDiv (i j:Int):Prop:=0 < j/\j < 1073741824
noncomputable def CPow (i j:Int):Prop:=0<=j/\j<=1000000/\i.natAbs < 2 ^ 64
theorem iC:OpR X (binaryOp .Add) (rI0 fun i j=>.int (i+j)):=opI0 fun _ _ _ _ _ _ _ q=>add_int q
theorem lO:OpR X (binaryOp .Sub) (rI0 fun i j=>.int (i - j)):=opI0 fun _ _ _ _ _ _ _ q=>sub_int q
theorem Lw:OpR X (binaryOp .FloorDiv) (rI CDiv fun i j=>.int (i / j)):=opI fun i j _ _ _ _ _ hc q=>by
 have h1:(0:Int) < j:=hc.1
 have h2:j < 1073741824:=hc.2
 exact floordiv_int (by omega) (by rw [Int.fdiv_eq_ediv_of_nonneg i (by omega)];exact q) (.inl (PyProof.noPylong_small (by omega)))
theorem eL:OpR X (binaryOp .Mod) (rI (fun _ j=>0 < j) fun i j=>.int (i % j)):=opI fun i j _ _ _ _ _ hc q=>by
 have h1:(0:Int) < j:=hc
 exact mod_int' (by omega) (by rw [Int.fmod_eq_emod_of_nonneg i (by omega)];exact q)
theorem Bl:OpR X (binaryOp .Pow) (rI CPow fun i j=>.int (i ^ j.toNat)):=opI fun _ _ _ _ _ _ _ hc q=>pow_int_small hc.1 hc.2.1 hc.2.2 q
theorem unI {f:Value->Sem Value} {g:Int->Int}
  (rule:∀ (i:Int) (t:Tok) (s:Shared) (Q:Value->Shared->Prop) (E:Value->Shared->Prop),Q (.int (g i) s.toks) { s with toks:=s.toks+1 }->wpAny (model X.prog X.w) X.A (f (.int i t)) Q E s) :
  UnR X f (rU fun i=>.int (g i)):=by
 intro pins s σ H x v Q I rx h
 obtain ⟨i,rfl,q⟩:=Eq.mp dQ h
 obtain ⟨t,rfl⟩:=rx
 exact rule i t s _ _ ⟨.int (g i),H,I.tok _,⟨_,rfl⟩,q⟩
theorem fX:UnR X (unaryOp .USub) (rU fun i=>.int (-i)):=unI fun _ _ _ _ _ q=>neg_int q
end
noncomputable def scal:V->V->Bool
 | .non,.non=>true | .non,.int _=>true | .int _,.non=>true | .non,.bl _=>true | .bl _,.non=>true | .non,.str _=>true | .str _,.non=>true
 | .int _,.int _=>true | .bl _,.bl _=>true | .str _,.str _=>true | .byt _,.byt _=>true
 | .int _,.str _=>true | .str _,.int _=>true | .bl _,.str _=>true | .str _,.bl _=>true
 | _,_=>false
noncomputable def rEq:R2:=fun x y H Q=>scal x y=true/\Q (.bl (decide (x=y))) H
theorem fH {i j:Int}:scal (.int i) (.int j)=true:=rfl
noncomputable def rNe:R2:=fun x y H Q=>scal x y=true/\Q (.bl (!decide (x=y))) H
theorem Uw {i j:Int}:decide (V.int i=V.int j)=(i == j):=by
 rw [Bool.eq_iff_iff]
 simp
theorem Ym {i j:Bool}:decide (V.bl i=V.bl j)=(i == j):=by
 rw [Bool.eq_iff_iff]
 simp
theorem Uv {i j:Str}:decide (V.str i=V.str j)=(i == j):=by
 rw [Bool.eq_iff_iff]
 simp
theorem Ux {i j:Array UInt8}:decide (V.byt i=V.byt j)=(i.toList == j.toList):=by
 rw [Bool.eq_iff_iff]
 cases i
 cases j
 simp
section
variable {X:Cx} {a b c:Expr} {ta tb tc:TE} {pos:Pos}
theorem dC {pins:List (Addr×Obj)} {σ:St} {H:Hp} {s:Shared} {Q:VK} {k k':Bool} (I:Inv X pins σ H s) (q:Q (.bl k) H) (e:k=k'):EP X pins σ Q (.bool k') s:=by
 subst e
 exact ⟨.bl k,H,I,rfl,q⟩
theorem tZ:OpR X (compareOp .Eq) rEq:=by
 intro pins s σ H x y v u Q I rx ry h
 obtain ⟨hs,q⟩:=h
 cases x with
 | non =>
  cases rx
  cases y with
  | non=>cases ry;exact PySem.EqNone.eq_none_none (dC I q (by simp))
  | bl j=>cases ry;exact PySem.EqNone.eq_none_bool (dC I q (by simp))
  | int j=>obtain ⟨t',rfl⟩:=ry;exact PySem.EqNone.eq_none_int (dC I q (by simp))
  | str j=>obtain ⟨t',rfl⟩:=ry;exact PySem.EqNone.eq_none_str (dC I q (by simp))
  | _=>exact absurd (show false=true from hs) Bool.false_ne_true
 | bl i =>
  cases rx
  cases y with
  | non=>cases ry;exact PySem.EqNone.eq_bool_none (dC I q (by simp))
  | bl j=>cases ry;exact eq_bool (dC I q Ym)
  | str j=>obtain ⟨t',rfl⟩:=ry;exact PySem.EqMixed.eq_bool_str (dC I q (by simp))
  | _=>exact absurd (show false=true from hs) Bool.false_ne_true
 | int i =>
  obtain ⟨t,rfl⟩:=rx
  cases y with
  | non=>cases ry;exact PySem.EqNone.eq_int_none (dC I q (by simp))
  | int j=>obtain ⟨t',rfl⟩:=ry;exact eq_int (dC I q Uw)
  | str j=>obtain ⟨t',rfl⟩:=ry;exact PySem.EqMixed.eq_int_str (dC I q (by simp))
  | _=>exact absurd (show false=true from hs) Bool.false_ne_true
 | str i =>
  obtain ⟨t,rfl⟩:=rx
  cases y with
  | non=>cases ry;exact PySem.EqNone.eq_str_none (dC I q (by simp))
  | bl j=>cases ry;exact PySem.EqMixed.eq_str_bool (dC I q (by simp))
  | int j=>obtain ⟨t',rfl⟩:=ry;exact PySem.EqMixed.eq_str_int (dC I q (by simp))
  | str j=>obtain ⟨t',rfl⟩:=ry;exact eq_str (dC I q Uv)
  | _=>exact absurd (show false=true from hs) Bool.false_ne_true
 | byt i =>
  obtain ⟨t,rfl⟩:=rx
  cases y with
  | byt j=>obtain ⟨t',rfl⟩:=ry;exact PySem.W.eq_bytes (dC I q Ux)
  | _=>exact absurd (show false=true from hs) Bool.false_ne_true
 | _=>cases y <;> exact absurd (show false=true from hs) Bool.false_ne_true
theorem Cy:OpR X (compareOp .NotEq) rNe:=by
 intro pins s σ H x y v u Q I rx ry h
 obtain ⟨hs,q⟩:=h
 cases x with
 | non =>
  cases rx
  cases y with
  | non=>cases ry;exact PySem.EqNone.ne_none_none (dC I q (by simp))
  | bl j=>cases ry;exact PySem.EqNone.ne_none_bool (dC I q (by simp))
  | int j=>obtain ⟨t',rfl⟩:=ry;exact PySem.EqNone.ne_none_int (dC I q (by simp))
  | str j=>obtain ⟨t',rfl⟩:=ry;exact PySem.EqNone.ne_none_str (dC I q (by simp))
  | _=>exact absurd (show false=true from hs) Bool.false_ne_true
 | bl i =>
  cases rx
  cases y with
  | non=>cases ry;exact PySem.EqNone.ne_bool_none (dC I q (by simp))
  | bl j=>cases ry;exact ne_bool (dC I q (congrArg not Ym))
  | str j=>obtain ⟨t',rfl⟩:=ry;exact PySem.EqMixed.ne_bool_str (dC I q (by simp))
  | _=>exact absurd (show false=true from hs) Bool.false_ne_true
 | int i =>
  obtain ⟨t,rfl⟩:=rx
  cases y with
  | non=>cases ry;exact PySem.EqNone.ne_int_none (dC I q (by simp))
  | int j=>obtain ⟨t',rfl⟩:=ry;exact ne_int (dC I q (congrArg not Uw))
  | str j=>obtain ⟨t',rfl⟩:=ry;exact PySem.EqMixed.ne_int_str (dC I q (by simp))
  | _=>exact absurd (show false=true from hs) Bool.false_ne_true
 | str i =>
  obtain ⟨t,rfl⟩:=rx
  cases y with
  | non=>cases ry;exact PySem.EqNone.ne_str_none (dC I q (by simp))
  | bl j=>cases ry;exact PySem.EqMixed.ne_str_bool (dC I q (by simp))
  | int j=>obtain ⟨t',rfl⟩:=ry;exact PySem.EqMixed.ne_str_int (dC I q (by simp))
  | str j=>obtain ⟨t',rfl⟩:=ry;exact ne_str (dC I q (congrArg not Uv))
  | _=>exact absurd (show false=true from hs) Bool.false_ne_true
 | byt i =>
  obtain ⟨t,rfl⟩:=rx
  cases y with
  | byt j=>obtain ⟨t',rfl⟩:=ry;exact PySem.W.ne_bytes (dC I q (congrArg not Ux))
  | _=>exact absurd (show false=true from hs) Bool.false_ne_true
 | _=>cases y <;> exact absurd (show false=true from hs) Bool.false_ne_true
theorem jP:OpR X (compareOp .Lt) (rI0 fun i j=>.bl (decide (i < j))):=opB0 fun _ _ _ _ _ _ _ q=>lt_int q
theorem Cz:OpR X (compareOp .Gt) (rI0 fun i j=>.bl (decide (j < i))):=opB0 fun _ _ _ _ _ _ _ q=>gt_int q
theorem op_ge:OpR X (compareOp .GtE) (rI0 fun i j=>.bl (decide (j<=i))):=opB0 fun _ _ _ _ _ _ _ q=>ge_int q
theorem Bm:OpR X (compareOp .Is) (fun x y H Q=>y=.non/\Q (.bl (decide (x=.non))) H):=by
 intro pins s σ H x y v u Q I rx ry h
 obtain ⟨rfl,q⟩:=h
 cases ry
 refine is_none_gen (dC I q ?_)
 cases x <;> first
  | (cases rx;rfl)
  | (obtain ⟨t,rfl⟩:=rx;rfl)
theorem Tz:OpR X (compareOp .IsNot) (fun x y H Q=>y=.non/\Q (.bl (!decide (x=.non))) H):=by
 intro pins s σ H x y v u Q I rx ry h
 obtain ⟨rfl,q⟩:=h
 cases ry
 refine isnot_none_gen (dC I q ?_)
 cases x <;> first
  | (cases rx;rfl)
  | (obtain ⟨t,rfl⟩:=rx;rfl)
theorem bU (b:Expr) {op:CmpOp} (h:op≠.In:=by decide) (h2:op≠.NotIn:=by decide):behindInMarks op b=false:=by
 have e1:(op == CmpOp.In)=false:=by cases op <;> first | rfl | exact absurd rfl h
 have e2:(op == CmpOp.NotIn)=false:=by cases op <;> first | rfl | exact absurd rfl h2
 cases b <;> simp [behindInMarks,e1,e2]
theorem nX {op:CmpOp} {r:R2} (ho:OpR X (compareOp op) r) (ha:PE X a ta) (hb:PE X b tb) (hm:behindInMarks op b=false):PE X (.Compare a [op] [b] pos) (tOp r ta tb):=by
 intro pins s σ H Q I h
 exact wpAny_Compare1 (binT ha hb I h fun v u s2 x y H2 I2 rx ry q=>ho pins s2 σ H2 x y v u Q I2 rx ry q) hm
noncomputable def bR (t:TE):TT:=fun σ H Q=>t σ H fun x H'=>exB x fun k=>Q k H'
theorem bL {op:CmpOp} {r:R2} (ho:OpR X (compareOp op) r) (ha:PE X a ta) (hb:PE X b tb) (hm:behindInMarks op b=false):PT X (.Compare a [op] [b] pos) (bR (tOp r ta tb)):=by
 intro pins s σ H Q I h
 refine wpAny_isTrue_Compare1 (thn (ha pins s σ H _ I h) fun v s1 ⟨x,H1,I1,r1,q1⟩=>thn (hb pins s1 σ H1 _ I1 q1) fun u s2 ⟨y,H2,I2,r2,q2⟩ =>
  thn (ho pins s2 σ H2 x y v u _ I2 r1 r2 q2) fun c s3 ⟨z,H3,I3,r3,q3⟩=>?_) hm
 obtain ⟨k,e,q3⟩:=Eq.mp gQ q3
 subst e
 cases r3
 exact wpAny_truthy_bool ⟨H3,I3,q3⟩
noncomputable def TruV (K:PySem.W.Frag) (x:V) (H:Hp) (k:Bool):Prop :=
 match x with
 | .non=>k=false
 | .bl b=>k=b
 | .int i=>k=(i != 0)
 | .str y=>y.length<=sizeLine/\k=((y.length:Int) != 0)
 | .byt y=>y.size<=sizeLine/\k=((y.size:Int) != 0)
 | .ref p=>(∃ xs,SqL K H p xs/\k = !xs.isEmpty)∨(∃ xs,SqT K H p xs/\k = !xs.isEmpty)∨∃ kvs,H p=some (.dK kvs)/\k = !kvs.isEmpty
 | _=>False
theorem Tc {κ:Type} {kvs:List (κ×V)} {vs:List (κ×Value)} (r:KV kvs vs):(!vs.isEmpty) = !kvs.isEmpty:=by
 cases r <;> rfl
theorem He {xs:List V} {its:List Value} (r:cK xs its):(!its.toArray.isEmpty) = !xs.isEmpty:=by
 cases r <;> simp
theorem Fi:(sizeLine:Nat) < 2 ^ 63:=by rw [sizeLine_eq];decide
theorem tru_ok:TruR X (fun x H Q=>∃ k,TruV X.K x H k/\Q k H):=by
 intro pins s σ H x v Q I rx h
 obtain ⟨k,e,q⟩:=h
 have hl:=Fi
 have hs:sizeLine=16777216:=sizeLine_eq
 cases x with
 | non =>
  cases rx
  have e':k=false:=e
  subst e'
  exact truthy_none ⟨H,I,q⟩
 | bl b =>
  cases rx
  have e':k=b:=e
  subst e'
  exact wpAny_truthy_bool ⟨H,I,q⟩
 | int i =>
  obtain ⟨t,rfl⟩:=rx
  have e':k=(i != 0):=e
  subst e'
  exact PySem.P.truthy_int ⟨H,I,q⟩
 | str y =>
  obtain ⟨t,rfl⟩:=rx
  obtain ⟨hy,e'⟩:y.length<=sizeLine/\k=((y.length:Int) != 0):=e
  subst e'
  exact PySem.P.truthy_str (by omega) ⟨H,I.tok _,q⟩
 | byt y =>
  obtain ⟨t,rfl⟩:=rx
  obtain ⟨hy,e'⟩:y.size<=sizeLine/\k=((y.size:Int) != 0):=e
  subst e'
  exact PySem.W.truthy_bytes (by omega) ⟨H,I.tok _,q⟩
 | ref p =>
  cases rx
  have e':(∃ xs,SqL X.K H p xs/\k = !xs.isEmpty)∨(∃ xs,SqT X.K H p xs/\k = !xs.isEmpty)∨∃ kvs,H p=some (.dK kvs)/\k = !kvs.isEmpty:=e
  rcases e' with ⟨xs,hx,e'⟩ | ⟨xs,hx,e'⟩ | ⟨kvs,hx,e'⟩
  ·subst e'
   obtain ⟨its,r,pl,hz⟩:=I.list hx
   have hlen:=r.length
   exact wpAny_truthy_list pl.isList (by simp only [List.size_toArray];omega) ⟨H,I.tok _,by rw [He r];exact q⟩
  ·subst e'
   obtain ⟨its,r,pl,hz⟩:=I.tuple hx
   have hlen:=r.length
   exact truthy_tuple pl (by simp only [List.size_toArray];omega) ⟨H,I.tok _,by rw [He r];exact q⟩
  ·subst e'
   obtain ⟨hz,hS,vs,r,m⟩:kvs.length<=sizeLine/\(p == sysModules)=false/\∃ vs,KV kvs vs/\s.heap.DictOf (Ly X.prog X.w) p vs:=I.hok p _ hx
   have hlen:kvs.length=vs.length:=Paired.length r
   exact wpAny_truthy_dict hS m (by omega) ⟨H,I.tok _,by rw [Tc r];exact q⟩
 | _=>exact (show False from e).elim
theorem Zk (ha:PE X a ta) (he:∀ whole,isTrue a X.env whole=(do let v ← whole;standAt a.pos;holding [v] (truthy v))) :
  PT X a (fun σ H Q=>ta σ H fun x H'=>∃ k,TruV X.K x H' k/\Q k H'):=by
 intro pins s σ H Q I h
 exact isTrue_plain (thn (ha pins s σ H _ I h) fun v s1 ⟨x,H1,I1,r1,q1⟩=>tru_ok pins s1 σ H1 x v Q I1 r1 q1) (he _)
theorem yZ {x:V} {us:List Value} (r:cK [x] us):∃ u,us=[u]/\cV x u:=by
 cases r with
 | cons r1 r2=>cases r2;exact ⟨_,rfl,r1⟩
theorem Nx {x y:V} {us:List Value} (r:cK [x,y] us):∃ u w',us=[u,w']/\cV x u/\cV y w':=by
 cases r with
 | cons r1 r2 =>
  cases r2 with
  | cons r3 r4=>cases r4;exact ⟨_,_,rfl,r1,r3⟩
theorem uR:qL X (.builtin "abs") (fun xs H Q=>∃ i,xs=[.int i]/\Q (.int (if i < 0 then -i else i)) H):=by
 intro pins s σ H xs us Q I r h
 obtain ⟨i,rfl,q⟩:=h
 obtain ⟨u,rfl,t,rfl⟩:=yZ r
 exact call_abs_int fun u tk=>⟨.int (if i < 0 then -i else i),H,I.tok _,⟨_,rfl⟩,q⟩
theorem Kh (hc:X.calm=true):qL X (.builtin "max") (fun xs H Q=>∃ i j,xs=[.int i,.int j]/\Q (.int (if j > i then j else i)) H):=by
 intro pins s σ H xs us Q I r h
 obtain ⟨i,j,rfl,q⟩:=h
 obtain ⟨u,w',rfl,⟨t,rfl⟩,⟨t',rfl⟩⟩:=Nx r
 refine max_two_ints (I.ok.hd hc) fun h' tk k=>⟨_,H,I.kept k,?_,q⟩
 by_cases hj:j > i
 ·rw [if_pos hj,if_pos hj];exact ⟨_,rfl⟩
 ·rw [if_neg hj,if_neg hj];exact ⟨_,rfl⟩
theorem Kf (hc:X.calm=true):qL X (.builtin "min") (fun xs H Q=>∃ i j,xs=[.int i,.int j]/\Q (.int (if j < i then j else i)) H):=by
 intro pins s σ H xs us Q I r h
 obtain ⟨i,j,rfl,q⟩:=h
 obtain ⟨u,w',rfl,⟨t,rfl⟩,⟨t',rfl⟩⟩:=Nx r
 refine min_two_ints (I.ok.hd hc) fun h' tk k=>⟨_,H,I.kept k,?_,q⟩
 by_cases hj:j < i
 ·rw [if_pos hj,if_pos hj];exact ⟨_,rfl⟩
 ·rw [if_neg hj,if_neg hj];exact ⟨_,rfl⟩
end
end L2
namespace L2
open PySem PySem.Spec PyProof.Rows
structure Qk (h:Heap) (x dx C:Addr) (mA:Str->Option Value):Prop where
 obj:h.get? x=some (PySem.W.instObj C dx)
 ns:h.Ns1 dx mA
 ne:dx≠x
theorem Wf {h:Heap} {dx:Addr} {mA:Str->Option Value} (n:h.Ns1 dx mA):∃ od,h.get? dx=some od/\∀ name,PySem.W.lookIn name od=some (mA name):=by
 obtain ⟨o,es,ep,ho,hd,hk,_,hm⟩:=n
 refine ⟨o,ho,fun name=>?_⟩
 have e:=hm name
 unfold nsFind findBy at e
 rw [← Array.find?_toList] at e
 unfold PySem.W.lookIn
 rw [hd]
 dsimp only
 split
 ·rename_i y q
  rw [q] at e
  exact congrArg some e
 ·rename_i q
  rw [q] at e
  have a:es.toList.any (·.refKey)=false:=by
   rw [List.any_eq_false]
   intro y hy
   obtain ⟨z,t,hkey⟩:=hk y (Array.mem_toList_iff.mp hy)
   simp [DictEntry.refKey,hkey]
  have a':¬ es.toList.any (·.refKey)=true:=by rw [a];exact Bool.false_ne_true
  rw [if_neg a']
  exact congrArg some e
theorem Qk.look {h:Heap} {x dx C:Addr} {mA:Str->Option Value} (I:Qk h x dx C mA):∃ od,PySem.W.InstAt h x (PySem.W.instObj C dx) C (some od)/\∀ name,PySem.W.lookIn name od=some (mA name) :=
 let ⟨od,ho,hl⟩:=Wf I.ns
 ⟨od,⟨I.obj,rfl,rfl,ho⟩,hl⟩
section
variable {prog:Program} {w:World} {A:Around} {E:Value->Shared->Prop} {s:Shared} {K:PySem.W.Frag} {x dx C f:Addr} {mA:Str->Option Value} {name:Str} {v:Value}
theorem get_map {expr:Bool} {Q:Value->Shared->Prop} (X:K.In s.heap) (I:Qk s.heap x dx C mA) (hg:PySem.W.plainGet K C name=true) (hh:PySem.W.hasDictIn K C=true)
  (ha:PySem.W.findIn K (.ref C) name=some none) (hv:mA name=some v) (hv':PySem.W.handedIn v=true) (h:Q v { s with toks:=s.toks+1 }) :
  wpAny (model prog w) A (getAttr (.ref x) name expr) Q E s:=by
 obtain ⟨od,J,hl⟩:=I.look
 exact PySem.W.get_value X J (PySem.W.plainGet_of hg).1 (PySem.W.findObj_own hh ha rfl (by rw [hl,hv])) hv' h
theorem jJc {pl:Sem Bool} {Q:Value×List Value->Shared->Prop} (X:K.In s.heap) (I:Qk s.heap x dx C mA) (hg:PySem.W.plainGet K C name=true)
  (hf:PySem.W.findIn K (.ref C) name=some (some (.ref f))) (ht:PySem.W.isFn K (.ref f)=true) (hv:mA name=none) (h:Q (.ref f,[.ref x]) s) :
  wpAny (model prog w) A (getMethod (.ref x) name pl) Q E s:=by
 obtain ⟨od,J,hl⟩:=I.look
 exact PySem.W.method_fn X J (PySem.W.plainGet_of hg).1 (PySem.W.plainGet_of hg).2 hf (beq_iff_eq.mp ht) (by show (PySem.W.lookIn name od).map (·.isSome)=some false;rw [hl,hv];rfl) h
theorem set_map {ns:List Str} {Q:Unit->Shared->Prop} (X:K.In s.heap) (I:Qk s.heap x dx C mA)
  (hs:PySem.W.findIn K (.ref C) "__setattr__" = some (some (.builtin "object.__setattr__"))) (hp:PySem.W.plainOver K C=true) (ht:PySem.W.takerIn K C name=some none) (hh:PySem.W.hasDictIn K C=true)
  (hw:PySem.Within mA ns) (hsz:ns.length<=sizeLine)
  (h:∀ h',Qk h' x dx C (fun y=>if y=name then some v else mA y)->Heap.SameBut dx s.heap h'->Q () { s with heap:=h',toks:=s.toks+2 }) :
  wpAny (model prog w) A (setAttr (.ref x) name v) Q E s:=by
 obtain ⟨od,J,hl⟩:=I.look
 refine PySem.W.set_plain X J hs (PySem.W.osa_open (s:={ s with toks:=s.toks+1 }) (r:=none) X J hp ht fun b=>?_)
 obtain ⟨cd,hc,hd'⟩:=PySem.W.any_some hh
 have hx:s.heap.get? x=some ⟨.ref C,some dx,.plain,#[]⟩:=I.obj
 refine wpAny_bind (wpAny_pure (wpAny_bind (wpAny_bind (wpAny_loadPart hx (wpAny_bind (PySem.W.Looks.here (s:={ s with toks:=s.toks+1 }) (PySem.W.looks_clsIn X hc) ?_))))))
 rw [hd']
 refine wpAny_pure (a:=some dx) (wpAny_bind (wpAny_pure (wpAny_bind ?_)))
 refine wpAny_nsSet1 (s:={ s with toks:=s.toks+1 }) I.ns fun h' hn2 hs2=>?_
 obtain ⟨oD,esD,epD,hoD,hdD,hcD⟩:=hn2.count (PySem.Within.cons name v hw)
 refine wpAny_bind (wpAny_lookBehind hoD (by rw [hdD];exact pastItsLine_dict (Nat.le_trans hcD (by rw [List.length_cons];omega))) ?_)
 exact wpAny_pure (h _ ⟨(hs2.2 _ (Ne.symm I.ne)).trans I.obj,hn2,I.ne⟩ hs2)
theorem Zw {R:Result->Shared->Prop} {vs:List Value} {kw:List (Str×Value)} (X:K.In s.heap) (hm:PySem.W.makesIn K C=true)
  (hi:PySem.W.findIn K (.ref C) "__init__" = some (some (.ref f))) (hf:PySem.W.typeIn K (.ref f)=some (.type "function"))
  (h:codeAny (model prog w) (A.under (.builtin "type.__call__" ⟨.ref C :: vs,kw⟩)) (.call (.ref f) ⟨.ref (s.heap.objs.size+1) :: vs,kw⟩) (PySem.W.InitBack (s.heap.objs.size+1) R)
   { s with heap:=(s.heap.push PySem.W.emptyDict).push (PySem.W.instObj C s.heap.objs.size) }) :
  codeAny (model prog w) A (.call (.ref C) ⟨vs,kw⟩) R s:=by
 obtain ⟨hh,g,d,t,os⟩:=s
 exact PySem.W.make_core (PySem.W.makes_of X hm) (PySem.W.looks_findIn X hi) (fun self=>PySem.W.bind_fn X self hf) (.inl rfl) h
end
noncomputable def fJ (f:Str) (v:V):List (Str×V)->List (Str×V)
 | []=>[(f,v)]
 | (g,x) :: r=>if g=f then (g,v) :: r else (g,x) :: fJ f v r
theorem Dw (f g:Str) (v:V):∀ fs:List (Str×V),(fJ f v fs).lookup g=if g=f then some v else fs.lookup g
 | []=>by
  show List.lookup g [(f,v)]=_
  by_cases h:g=f
  ·have hb:(g == f)=true:=beq_iff_eq.mpr h
   simp only [List.lookup,hb,if_pos h]
  ·have hb:(g == f)=false:=beq_eq_false_iff_ne.mpr h
   simp only [List.lookup,hb,if_neg h]
 | (k,x) :: r=>by
  have ih:=Dw f g v r
  rw [show fJ f v ((k,x) :: r)=(if k=f then (k,v) :: r else (k,x) :: fJ f v r) from rfl]
  by_cases hk:k=f
  ·rw [if_pos hk]
   by_cases h:g=k
   ·have hb:(g == k)=true:=beq_iff_eq.mpr h
    simp only [List.lookup,hb,if_pos (h.trans hk)]
   ·have hb:(g == k)=false:=beq_eq_false_iff_ne.mpr h
    simp only [List.lookup,hb,if_neg (fun e:g=f=>h (e.trans hk.symm))]
  ·rw [if_neg hk]
   by_cases h:g=k
   ·have hb:(g == k)=true:=beq_iff_eq.mpr h
    simp only [List.lookup,hb,if_neg (fun e:g=f=>hk (h.symm.trans e))]
   ·have hb:(g == k)=false:=beq_eq_false_iff_ne.mpr h
    simp only [List.lookup,hb]
    exact ih
theorem Cf (f:Str) (v:V):∀ fs:List (Str×V),f∈(fJ f v fs).map (·.1)/\∀ g,g∈fs.map (·.1)->g∈(fJ f v fs).map (·.1)
 | []=>⟨by simp [fJ],fun g h=>by simp at h⟩
 | (k,x) :: r=>by
  obtain ⟨i1,i2⟩:=Cf f v r
  rw [show fJ f v ((k,x) :: r)=(if k=f then (k,v) :: r else (k,x) :: fJ f v r) from rfl]
  by_cases hk:k=f
  ·rw [if_pos hk]
   subst hk
   exact ⟨by simp,fun g h=>by simpa using h⟩
  ·rw [if_neg hk]
   refine ⟨?_,fun g h=>?_⟩
   ·rw [List.map_cons]
    exact List.mem_cons_of_mem _ i1
   ·rw [List.map_cons] at h ⊢
    rcases List.mem_cons.mp h with e | e
    ·exact List.mem_cons.mpr (.inl e)
    ·exact List.mem_cons_of_mem _ (i2 g e)
theorem Dx (f:Str) (v:V):∀ fs:List (Str×V),(fJ f v fs).length<=fs.length+1
 | []=>by simp [fJ]
 | (k,x) :: r=>by
  have ih:=Dx f v r
  rw [show fJ f v ((k,x) :: r)=(if k=f then (k,v) :: r else (k,x) :: fJ f v r) from rfl]
  by_cases hk:k=f
  ·rw [if_pos hk,List.length_cons,List.length_cons];omega
  ·rw [if_neg hk,List.length_cons,List.length_cons];omega
theorem Ia.some_of {v:V} {o:Option Value} (r:Ia (some v) o):∃ u,o=some u/\cV v u:=by
 cases o with
 | none=>exact (show False from r).elim
 | some u=>exact ⟨u,rfl,r⟩
theorem Ia.none_of {o:Option Value} (r:Ia none o):o=none:=by
 cases o with
 | none=>rfl
 | some u=>exact (show False from r).elim
theorem Wt {v:V} {u:Value} (r:cV v u):PySem.W.handedIn u=true:=by
 cases v with
 | non=>cases (show u=Value.none from r);rfl
 | bl b=>cases (show u=Value.bool b from r);rfl
 | int i=>obtain ⟨t,e⟩:=(show ∃ t,u=Value.int i t from r);cases e;rfl
 | str x=>obtain ⟨t,e⟩:=(show ∃ t,u=Value.str x t from r);cases e;rfl
 | byt b=>obtain ⟨t,e⟩:=(show ∃ t,u=Value.bytes b t from r);cases e;rfl
 | flt b=>obtain ⟨t,e⟩:=(show ∃ t,u=Value.float b t from r);cases e;rfl
 | ref a=>cases (show u=Value.ref a from r);rfl
 | ty n=>cases (show u=Value.type n from r);rfl
section
variable {P:Program} {w:World} {H H':Hp} {h h':Heap} {a C dx:Addr} {fs fs':List (Str×V)}
theorem Et (hok:HOk P w H h) (e:H a=some (.ins C dx fs)):∃ mA,Qk h a dx C mA/\(∀ f,Ia (fs.lookup f) (mA f))/\PySem.Within mA (fs.map (·.1))/\fs.length<=1000/\H dx=some (.own a):=by
 obtain ⟨d,z,ne,ob,mA,n,r,q⟩:=(show kI P w H h a (.ins C dx fs) from hok a _ e)
 exact ⟨mA,⟨ob,n,ne⟩,r,q,z,d⟩
end
structure Cls (K:PySem.W.Frag) (C:Addr):Prop where
 pg:PySem.W.plainGet K C Str.empty=true
 hd:PySem.W.hasDictIn K C=true
 po:PySem.W.plainOver K C=true
 sa:PySem.W.findIn K (.ref C) "__setattr__" = some (some (.builtin "object.__setattr__"))
theorem Cls.get {K:PySem.W.Frag} {C:Addr} (c:Cls K C) (f:Str):PySem.W.plainGet K C f=true:=c.pg
noncomputable def qB (K:PySem.W.Frag) (C:Addr) (f:Str):Prop:=PySem.W.findIn K (.ref C) f=some none
theorem qB.taker {K:PySem.W.Frag} {C:Addr} {f:Str} (n:qB K C f):PySem.W.takerIn K C f=some none:=by
 unfold PySem.W.takerIn
 rw [show PySem.W.findIn K (.ref C) f=some none from n]
 rfl
structure Meth (K:PySem.W.Frag) (C:Addr) (m:Str) (f:Addr):Prop where
 at_:PySem.W.findIn K (.ref C) m=some (some (.ref f))
 fn:PySem.W.isFn K (.ref f)=true
 kp:PySem.W.keepIn K (.ref f)=true
section
variable {X:Cx} {pins:List (Addr×Obj)} {σ:St} {H:Hp} {s:Shared} {a C dx:Addr} {fs:List (Str×V)} {f:Str} {v:V} {A:Around} {E:Value->Shared->Prop}
theorem Td {b:Bool} {Q:Value->Shared->Prop} (I:Inv X pins σ H s) (e:H a=some (.ins C dx fs)) (c:Cls X.K C) (n:qB X.K C f) (l:fs.lookup f=some v)
  (h:∀ u s',Inv X pins σ H s'->cV v u->Q u s'):wpAny (model X.prog X.w) A (getAttr (.ref a) f b) Q E s:=by
 obtain ⟨mA,O,r,_,_,_⟩:=Et I.hok e
 obtain ⟨u,hu,ru⟩:=Ia.some_of (v:=v) (o:=mA f) (by rw [← l];exact r f)
 exact get_map I.kIn O (c.get f) c.hd n hu (Wt ru) (h u _ (I.tok _) ru)
theorem Hg {m:Str} {g:Addr} {pl:Sem Bool} {Q:Value×List Value->Shared->Prop} (I:Inv X pins σ H s) (e:H a=some (.ins C dx fs)) (c:Cls X.K C) (k:Meth X.K C m g) (l:fs.lookup m=none)
  (h:Q (.ref g,[.ref a]) s):wpAny (model X.prog X.w) A (getMethod (.ref a) m pl) Q E s:=by
 obtain ⟨mA,O,r,_,_,_⟩:=Et I.hok e
 have hn:mA m=none:=Ia.none_of (by rw [← l];exact r m)
 exact jJc I.kIn O (c.get m) k.at_ k.fn hn h
theorem Rk {y:V} {u:Value} {Q:Unit->Shared->Prop} (I:Inv X pins σ H s) (e:H a=some (.ins C dx fs)) (c:Cls X.K C) (n:qB X.K C f) (hl:fs.length < 1000) (ry:cV y u)
  (h:∀ s',Inv X pins σ (upd H a (.ins C dx (fJ f y fs))) s'->Q () s'):wpAny (model X.prog X.w) A (setAttr (.ref a) f u) Q E s:=by
 obtain ⟨mA,O,r,wi,_,ho⟩:=Et I.hok e
 have hz:(fs.map (·.1)).length<=sizeLine:=by rw [List.length_map,sizeLine_eq];omega
 refine set_map I.kIn O c.sa c.po n.taker c.hd wi hz fun h' O' sb=>h _ ?_
 have hd:∃ o,h'.get? dx=some o:=let ⟨o,_,_,e',_⟩:=O'.ns;⟨o,e'⟩
 refine I.write (x:=a) (e:=dx) (by rw [e];exact True.intro) (.inr ho) (fun b q hb z=>(sb.2 b hb).trans z) hd ?_
 refine ⟨by rw [cA O.ne];exact ho,?_,O.ne,O'.obj,_,O'.ns,fun g=>?_,fun g hg=>?_⟩
 ·have:=Dx f y fs;omega
 ·show Ia ((fJ f y fs).lookup g) (if g=f then some u else mA g)
  rw [Dw]
  by_cases q:g=f
  ·rw [if_pos q,if_pos q];exact ry
  ·rw [if_neg q,if_neg q];exact r g
 ·by_cases q:g=f
  ·rw [q];exact (Cf f y fs).1
  ·refine (Cf f y fs).2 g (wi g fun z=>hg ?_)
   show (if g=f then some u else mA g)=none
   rw [if_neg q];exact z
theorem Inv.made (I:Inv X pins σ H s):Inv X pins σ (upd (upd H s.heap.objs.size (.own (s.heap.objs.size+1))) (s.heap.objs.size+1) (.ins C s.heap.objs.size []))
  { s with heap:=(s.heap.push PySem.W.emptyDict).push (PySem.W.instObj C s.heap.objs.size) }:=by
 have e1:(s.heap.push PySem.W.emptyDict).get? s.heap.objs.size=some PySem.W.emptyDict:=Heap.get?_push_size s.heap rfl
 have e2:((s.heap.push PySem.W.emptyDict).push (PySem.W.instObj C s.heap.objs.size)).get? (s.heap.objs.size+1)=some (PySem.W.instObj C s.heap.objs.size):=by
  have:=Heap.get?_push_size (s.heap.push PySem.W.emptyDict) (o:=PySem.W.instObj C s.heap.objs.size) rfl
  rwa [Heap.size_push] at this
 have e3:(s.heap.push PySem.W.emptyDict).Ns s.heap.objs.size (fun _=>none):=⟨PySem.W.emptyDict,#[],_,e1,rfl,(fun e he=>absurd he (by simp)),fun _=>rfl⟩
 have I1:=I.laid (a:=s.heap.objs.size) (o:=.own (s.heap.objs.size+1)) (h':=s.heap.push PySem.W.emptyDict) (t':=s.toks) (fun b u q=>Heap.get?_push_of_some _ q) (Nat.le_refl _) ⟨_,e1⟩
 refine I1.laid (a:=s.heap.objs.size+1) (o:=.ins C s.heap.objs.size []) (t':=s.toks) (fun b u q=>Heap.get?_push_of_some _ q) (Nat.le_of_eq (Heap.size_push _ _)) ?_
 have ne:s.heap.objs.size≠s.heap.objs.size+1:=Nat.ne_of_lt (Nat.lt_succ_self _)
 refine ⟨by rw [cA ne,aG],Nat.zero_le _,ne,e2,fun _=>none,(Heap.Ns1.of_empty e3).at fun o q=>Heap.get?_push_of_some _ q,fun _=>True.intro,fun y hy=>absurd rfl hy⟩
theorem attr_of {prog:Program} {w:World} {env:Env} {e:Expr} {f:Str} {pos:Pos} {s:Shared} {Q:Value->Shared->Prop} (hb:attributeBase e f env (eval e env)=eval e env)
  (h:wpAny (model prog w) A (eval e env) (fun o s₁=>wpAny (model prog w) A (getAttr o f true) Q E s₁) E s):wpAny (model prog w) A (eval (.Attribute e f pos) env) Q E s :=
 Attribute_any_ h (by rw [arm_eval_Attribute,hb])
end
noncomputable def eQ (K:PySem.W.Frag) (ta:TE) (f:Str):TE:=fun σ H Q=>ta σ H fun x H1=>exR x fun a=>∃ C dx fs v,H1 a=some (.ins C dx fs)/\Cls K C/\qB K C f/\fs.lookup f=some v/\Q v H1
noncomputable def yV (K:PySem.W.Frag) (ta tv:TE) (f:Str):TS:=fun D σ H=>tv σ H fun y H1=>ta σ H1 fun x H2=>exR x fun a=>∃ C dx fs,H2 a=some (.ins C dx fs)/\Cls K C/\qB K C f/\fs.length < 1000 /\
 D.nx σ (upd H2 a (.ins C dx (fJ f y fs)))
section
variable {X:Cx} {o e value:Expr} {f:Str} {pos pos' tpos:Pos} {ta tv:TE}
theorem dW (he:PE X e ta) (hb:attributeBase e f X.env (eval e X.env)=eval e X.env):PE X (.Attribute e f pos) (eQ X.K ta f):=by
 intro pins s σ H Q I h
 refine attr_of hb (thn (he pins s σ H _ I h) fun u s1 ⟨x,H1,I1,rx,q0⟩=>?_)
 obtain ⟨a,ex,C,dx,fs,v,ea,c,n,l,q⟩:=Eq.mp eN q0
 subst ex
 obtain rfl:u=Value.ref a:=rx
 exact Td I1 ea c n l fun u' s2 I2 ru=>⟨v,H1,I2,ru,q⟩
theorem Bk (ha:PE X o ta) (hv:PE X value tv) (hs:swapsWith value (some (.Attribute o f pos')) pos.line X.env=pure false):PS X (.Assign [.Attribute o f pos'] value pos) (yV X.K ta tv f):=by
 intro pins s σ H D I h
 refine plainObj_wpAny_Assign_Attribute (thn (hv pins s σ H _ I h) fun u s1 ⟨y,H1,I1,ry,q⟩=>thn (ha pins s1 σ H1 _ I1 q) fun ov s2 ⟨x,H2,I2,rx,q0⟩=>?_) hs
 obtain ⟨a,ex,C,dx,fs,ea,c,n,l,q2⟩:=Eq.mp eN q0
 subst ex
 obtain rfl:ov=Value.ref a:=rx
 exact Rk I2 ea c n l ry fun s3 I3=>⟨σ,_,I3,q2⟩
end
section
variable {X:Cx} {pins:List (Addr×Obj)} {σ:St} {H:Hp} {s:Shared} {A:Around} {E:Value->Shared->Prop} {Q:Value->Shared->Prop} {c:Value} {b:Bool}
inductive Ea (K:PySem.W.Frag) (H:Hp):V->Value->Prop where
 | non:Ea K H .non (.type "NoneType")
 | bl (x:Bool):Ea K H (.bl x) (.type "bool")
 | int (i:Int):Ea K H (.int i) (.type "int")
 | str (x:Str):Ea K H (.str x) (.type "str")
 | flt (x:UInt64):Ea K H (.flt x) (.type "float")
 | lst {a:Addr} {xs:List V} (e:H a=some (.lst xs)):Ea K H (.ref a) (.type "list")
 | frz {a:Addr} {o:Obj} {xs:List V} (e:H a=some (.frz o (.lst xs))):Ea K H (.ref a) (.type "list")
 | tup {a:Addr} {xs:List V} (e:H a=some (.tup xs)):Ea K H (.ref a) (.type "tuple")
 | dK {a:Addr} {kvs:List (Key×V)} (e:H a=some (.dK kvs)):Ea K H (.ref a) (.type "dict")
 | dT {a:Addr} {kvs:List (List Key×V)} (e:H a=some (.dT kvs)):Ea K H (.ref a) (.type "dict")
 | ins {a C dx:Addr} {fs:List (Str×V)} (e:H a=some (.ins C dx fs)) (cl:Cls K C) (ha:PySem.W.findIn K (.ref C) "__class__" = some (some (.builtin "object.__class__")))
   (hn:PySem.W.specialIn K (.builtin "object.__class__") "__get__" = some (some (.builtin "getset_descriptor.__get__"))) (htk:PySem.W.takesIn K (.builtin "object.__class__")=some true)
   (hm:PySem.W.mroIn K C (.type "object")=some true):Ea K H (.ref a) (.ref C)
theorem qU {x:V} {u t:Value} (I:Inv X pins σ H s) (rx:cV x u) (ty:Ea X.K H x t) (e:PySem.W.kitOne X.K t c=some b) (h:∀ tk,Q (.bool b) { s with toks:=tk }) :
  wpAny (model X.prog X.w) A (call (.builtin "isinstance") [u,c]) Q E s:=by
 cases ty with
 | non=>cases (show u=Value.none from rx);exact PySem.W.kia_one PySem.W.kitx_none I.kIn True.intro e (fun z=>nomatch z) h
 | bl y=>cases (show u=Value.bool y from rx);exact PySem.W.kia_one PySem.W.kitx_bool I.kIn True.intro e (fun z=>nomatch z) h
 | int i=>obtain ⟨t,q⟩:=(show ∃ t,u=Value.int i t from rx);cases q;exact PySem.W.kia_one PySem.W.kitx_int I.kIn True.intro e (fun z=>nomatch z) h
 | str y=>obtain ⟨t,q⟩:=(show ∃ t,u=Value.str y t from rx);cases q;exact PySem.W.kia_one PySem.W.kitx_str I.kIn True.intro e (fun z=>nomatch z) h
 | flt y=>obtain ⟨t,q⟩:=(show ∃ t,u=Value.float y t from rx);cases q;exact PySem.W.kia_one PySem.W.kitx_float I.kIn True.intro e (fun z=>nomatch z) h
 | @lst a xs ea =>
  cases (show u=Value.ref a from rx)
  obtain ⟨_,_,n,_,h1⟩:=(show kI X.prog X.w H s.heap a (.lst xs) from I.hok a _ ea)
  exact PySem.W.kia_one PySem.W.kitx_list I.kIn ⟨_,h1,rfl⟩ e (fun z=>nomatch z) h
 | @frz a ob xs ea =>
  cases (show u=Value.ref a from rx)
  obtain ⟨_,_,_,n,_,h1⟩:=(show kI X.prog X.w H s.heap a (.frz ob (.lst xs)) from I.hok a _ ea)
  exact PySem.W.kia_one PySem.W.kitx_list I.kIn ⟨_,h1,rfl⟩ e (fun z=>nomatch z) h
 | @tup a xs ea =>
  cases (show u=Value.ref a from rx)
  obtain ⟨_,_,_,p⟩:=(show kI X.prog X.w H s.heap a (.tup xs) from I.hok a _ ea)
  obtain ⟨o,h1,h2,_⟩:=p
  exact PySem.W.kia_one PySem.W.kitx_tuple I.kIn ⟨o,h1,h2⟩ e (fun z=>nomatch z) h
 | @dK a kvs ea =>
  cases (show u=Value.ref a from rx)
  obtain ⟨_,_,vs,_,p⟩:=(show kI X.prog X.w H s.heap a (.dK kvs) from I.hok a _ ea)
  obtain ⟨o,es,ep,h1,h2,_⟩:=p
  exact PySem.W.kia_one PySem.W.kitx_dict I.kIn ⟨o,h1,h2.1⟩ e (fun z=>nomatch z) h
 | @dT a kvs ea =>
  cases (show u=Value.ref a from rx)
  obtain ⟨_,_,xs,_,o,es,ep,h1,h2,_⟩:=(show kI X.prog X.w H s.heap a (.dT kvs) from I.hok a _ ea)
  exact PySem.W.kia_one PySem.W.kitx_dict I.kIn ⟨o,h1,h2.1⟩ e (fun z=>nomatch z) h
 | @ins a C dx fs ea cl ha hn htk hm =>
  cases (show u=Value.ref a from rx)
  obtain ⟨mA,O,_⟩:=Et I.hok ea
  obtain ⟨od,J,_⟩:=O.look
  exact PySem.W.kia_one (PySem.W.kitx_own (cl.get _) cl.hd ha hn htk hm) I.kIn J e (fun z=>nomatch z) h
end
end L2
namespace L2
open PySem PySem.Spec PyProof.Rows
structure nV (k:Nat) (A:Around):Prop where
 hd:A.handled=none
 dp:A.depth+3 * k+5 < recursionLimit
 un:A.units+16 * k+200 < cLine
theorem nV.mono {j k:Nat} {A:Around} (r:nV k A) (h:j<=k):nV j A:=⟨r.hd,by have:=r.dp;omega,by have:=r.un;omega⟩
theorem nV.deeper {k:Nat} {A:Around} (r:nV (k+1) A) (env:Env):nV k (A.deeper env) :=
 ⟨r.hd,by have:=r.dp;show A.depth+1+3 * k+5 < _;omega,by have:=r.un;show A.units+3+16 * k+200 < _;omega⟩
theorem Su {A:Around} {C:Addr} {us:List Value} {kw:List (Str×Value)}:(A.under (.builtin "type.__call__" ⟨.ref C :: us,kw⟩)).depth=A.depth+1:=by
 first | rfl | simp [Around.under,Code.weight,Code.isCreation,Code.isGuard,Code.isCaller,Code.frames,Code.isFrame,guardIds]
theorem Ss {A:Around} {C:Addr} {us:List Value} {kw:List (Str×Value)}:(A.under (.builtin "type.__call__" ⟨.ref C :: us,kw⟩)).units=A.units+1:=by
 first | rfl | simp [Around.under,Code.cUnits,Code.frames,Code.isFrame]
theorem nV.make {k:Nat} {A:Around} (r:nV (k+1) A) (C:Addr) (us:List Value) (kw:List (Str×Value)):nV k (A.under (.builtin "type.__call__" ⟨.ref C :: us,kw⟩)) :=
 ⟨r.hd,by have:=r.dp;rw [Su];omega,by have:=r.un;rw [Ss];omega⟩
theorem nV.depth {k:Nat} {A:Around} (r:nV k A):A.depth < recursionLimit:=by have:=r.dp;omega
theorem nV.units {k:Nat} {A:Around} (r:nV k A):A.units+64 < cLine:=by have:=r.un;omega
noncomputable def aN:TA:=fun _ H Q=>Q [] H
noncomputable def aC (ta:TE) (tr:TA):TA:=fun σ H Q=>ta σ H fun x H1=>tr σ H1 fun xs H2=>Q (x :: xs) H2
section
variable {X:Cx} {e:Expr} {es:List Expr} {te:TE} {t:TA} {pos:Pos}
theorem aE:PA X [] aN:=fun _ _ _ _ H Q I h=>Calls.spliced_nil ⟨[],H,I,.nil,h⟩
theorem aA (ha:PE X e te) (hr:PA X es t) (hs:starEach (e :: es) X.env=(false,eval e X.env) :: starEach es X.env:=by rfl):PA X (e :: es) (aC te t):=by
 intro pos pins s σ H Q I h
 rw [hs]
 show wpAny _ _ (spliced ((false,eval e X.env) :: backTo pos (starEach es X.env))) _ _ s
 refine Calls.spliced_cons (thn (ha pins s σ H _ I h) fun u s1 ⟨x,H1,I1,r1,q1⟩=>?_)
 exact thn (hr pos pins s1 σ H1 _ I1 q1) fun us s2 ⟨xs,H2,I2,r2,q2⟩=>⟨x :: xs,H2,I2,.cons r1 r2,q2⟩
noncomputable def iX (t:TA):TE:=fun σ H Q=>t σ H fun xs H1=>xs.length<=sizeLine/\∀ p,H1 p=none->Q (.ref p) (upd H1 p (.tup xs))
noncomputable def pM (t:TA):TE:=fun σ H Q=>t σ H fun xs H1=>xs.length<=sizeLine/\∀ p,H1 p=none->Q (.ref p) (upd H1 p (.lst xs))
theorem fZ {x1} (h:PA X es t):PE X (.Tuple es x1 pos) (iX t):=by
 intro pins s σ H Q I hq
 refine wpAny_Tuple_spliced (thn (h pos pins s σ H _ I hq) fun us s1 ⟨xs,H1,I1,r,z,q⟩=>⟨by rw [← r.length];exact z,?_⟩)
 have hf:H1 s1.heap.objs.size=none:=I1.hok.fresh (Nat.le_refl _)
 refine ⟨.ref s1.heap.objs.size,upd H1 s1.heap.objs.size (.tup xs),I1.laid (t':=s1.toks) (fun b u e=>Heap.get?_push_of_some _ e) (Nat.le_refl _) ?_,rfl,q _ hf⟩
 exact ⟨z,us,r,⟨_,Heap.get?_push_size _ rfl,rfl,_,rfl⟩⟩
theorem kS (h:PA X es t):PE X (.List es pos) (pM t):=by
 intro pins s σ H Q I hq
 refine wpAny_List_spliced (thn (h pos pins s σ H _ I hq) fun us s1 ⟨xs,H1,I1,r,z,q⟩=>⟨by rw [← r.length];exact z,?_⟩)
 have hf:H1 s1.heap.objs.size=none:=I1.hok.fresh (Nat.le_refl _)
 refine ⟨.ref s1.heap.objs.size,upd H1 s1.heap.objs.size (.lst xs),I1.laid (t':=s1.toks) (fun b u e=>Heap.get?_push_of_some _ e) (Nat.le_refl _) ?_,rfl,q _ hf⟩
 exact ⟨z,us,0,r,Heap.get?_push_size _ rfl⟩
end
noncomputable abbrev Sp:=List V->Hp->VK->XK->Prop
noncomputable abbrev CXT:=List Env->Hp->Shared->XK->Value->Shared->Prop
structure Ql (P:Program) (w:World) (K:PySem.W.Frag) (mg:Str->Option Value) (base:Heap) (A:Around) (outer:List Env) (s:Shared) (H:Hp):Prop where
 frames:A.frames=some outer
 mod:Mod K mg base
 bs:∀ b o,base.get? b=some o->s.heap.get? b=some o/\H b=none
 bsz:base.objs.size<=s.heap.objs.size
 funs:s.heap.FunFrames base outer
 frf:∀ b∈frs outer,H b=none
 hok:HOk P w H s.heap
 bare:AllBare s.gens
noncomputable def CE (outer:List Env) (P:Program) (w:World) (H:Hp) (s:Shared) (Q:VK) (u:Value) (s':Shared):Prop :=
 ∃ v H',s'.os=s.os/\AllBare s'.gens/\Un (frs outer) [] H H' s.heap s'.heap/\HOk P w H' s'.heap/\cV v u/\Q v H'
noncomputable def CR (CX:CXT) (outer:List Env) (P:Program) (w:World) (H:Hp) (s:Shared) (Q:VK) (E:XK) (r:Result) (s':Shared):Prop :=
 match r with
 | .ok (.ret u)=>CE outer P w H s Q u s'
 | .ok _=>False
 | .error e=>CX outer H s E e s'
structure cS (P:Program) (w:World) (K:PySem.W.Frag) (mg:Str->Option Value) (base:Heap) (CX:CXT) (k:Nat) (f:Addr) (fd:FuncData) (ps:List Str) (sp:Sp):Prop where
 len:∀ vs H Q E,sp vs H Q E->vs.length=ps.length
 run:∀ (A:Around) (outer:List Env) (s:Shared) (H:Hp) (args:Args) (us:List Value) (vs:List V) (Q:VK) (E:XK),nV k A->Ql P w K mg base A outer s H->BindsTo s fd args (ps.zip us)->cK vs us->sp vs H Q E ->
  codeAny (model P w) A (.call (.ref f) args) (CR CX outer P w H s Q E) s
theorem cS.imp {P:Program} {w:World} {K:PySem.W.Frag} {mg:Str->Option Value} {base:Heap} {CX:CXT} {k:Nat} {f:Addr} {fd:FuncData} {ps:List Str} {sp sp':Sp} (F:cS P w K mg base CX k f fd ps sp)
  (h:∀ vs H Q E,sp' vs H Q E->sp vs H Q E):cS P w K mg base CX k f fd ps sp' :=
 ⟨fun vs H Q E q=>F.len vs H Q E (h _ _ _ _ q),fun A outer s H args us vs Q E hr he hb hv hs=>F.run A outer s H args us vs Q E hr he hb hv (h _ _ _ _ hs)⟩
theorem Ql.make {P:Program} {w:World} {K:PySem.W.Frag} {mg:Str->Option Value} {base:Heap} {A:Around} {outer:List Env} {s:Shared} {H:Hp} (e:Ql P w K mg base A outer s H) (C:Addr) (us:List Value) (kw:List (Str×Value)) :
  Ql P w K mg base (A.under (.builtin "type.__call__" ⟨.ref C :: us,kw⟩)) outer s H:=⟨by first | exact e.frames | (simpa [Around.under,Code.envs,Code.isFrame,pushEnvs] using e.frames),e.mod,e.bs,e.bsz,e.funs,e.frf,e.hok,e.bare⟩
section
variable {X:Cx} {pins:List (Addr×Obj)} {σ:St} {H:Hp} {s s':Shared}
theorem Inv.env0 (I:Inv X pins σ H s):Ql X.prog X.w X.K X.mg X.base X.A X.stack s H :=
 ⟨I.ok.frames,I.ok.mod,I.bs,Nat.le_trans I.ok.bsz I.sz,I.stack,I.stkFree,I.hok,I.bare⟩
theorem Inv.after {Q:VK} {u:Value} (I:Inv X pins σ H s) (h:CE X.stack X.prog X.w H s Q u s'):EP X pins σ Q u s':=by
 obtain ⟨v,H',os,bare,un,hok,r,q⟩:=h
 obtain ⟨hh,g,d,t,os'⟩:=s'
 obtain rfl:os'=s.os:=os
 exact ⟨v,H',I.call (h':=hh) (g':=g) (d':=d) (t':=t) (ch:=[]) un hok bare (fun b z=>absurd z (by simp)),r,q⟩
end
noncomputable def aT (sp:Sp) (dvs:List V) (E:XK) (t:TA):TE:=fun σ H Q=>t σ H fun vs H1=>sp (vs ++ dvs) H1 Q E
noncomputable def dA (C:Addr) (m:Str) (sp:Sp) (dvs:List V) (E:XK) (ta:TE) (t:TA):TE:=fun σ H Q=>ta σ H fun x H1=>exR x fun a=>∃ dx fs,H1 a=some (.ins C dx fs)/\fs.lookup m=none /\
 t σ H1 fun vs H2=>sp (x :: (vs ++ dvs)) H2 Q E
noncomputable def Fd (C:Addr) (sp:Sp) (dvs:List V) (E:XK) (t:TA):TE:=fun σ H Q=>t σ H fun vs H1=>∀ x dx,H1 x=none->H1 dx=none->dx≠x ->
 sp (.ref x :: (vs ++ dvs)) (upd (upd H1 dx (.own x)) x (.ins C dx [])) (fun v H2=>v=.non/\Q (.ref x) H2) E
noncomputable def uD (K:PySem.W.Frag) (fd:FuncData) (ps:List Str) (ds:List Value):Prop :=
 ∀ (s:Shared) (us:List Value),K.In s.heap->(us ++ ds).length=ps.length->BindsTo s fd ⟨us,[]⟩ (ps.zip (us ++ ds))
theorem uD.all {K:PySem.W.Frag} {fd:FuncData} {ps:List Str} (h:∀ us:List Value,us.length=ps.length->bindArgs fd ⟨us,[]⟩=pure (ps.zip us)):uD K fd ps []:=fun s us _ hl=>by
 rw [List.append_nil] at hl ⊢
 exact .of_eq (h us hl)
noncomputable def yB (CX:CXT) (X:Cx) (E:XK):Prop:=∀ (pins:List (Addr×Obj)) (σ:St) (H:Hp) (s:Shared) (e:Value) (s':Shared),Inv X pins σ H s->CX X.stack H s E e s'->X.xe e s'
section
variable {X:Cx} {CX:CXT} {k:Nat} {f C:Addr} {fd:FuncData} {ps:List Str} {sp:Sp} {dvs:List V} {ds:List Value} {E:XK} {x m:Str} {p pos apos:Pos} {e o:Expr} {es:List Expr} {ta:TE} {t:TA}
theorem Qu {pins:List (Addr×Obj)} {σ:St} {H:Hp} {s:Shared} {Q:VK} {us:List Value} {vs:List V} (F:cS X.prog X.w X.K X.mg X.base CX k f fd ps sp) (hr:nV k X.A) (hb:uD X.K fd ps ds) (hd:cK dvs ds) (hx:yB CX X E)
  (I:Inv X pins σ H s) (r:cK vs us) (h:sp (vs ++ dvs) H Q E):wpAny (model X.prog X.w) X.A (call (.ref f) us) (EP X pins σ Q) X.xe s:=by
 have r2:cK (vs ++ dvs) (us ++ ds):=r.append hd
 have hl:(us ++ ds).length=ps.length:=by rw [← r2.length];exact F.len _ _ _ _ h
 refine wpAny_call (codeAny_mono (F.run X.A X.stack s H ⟨us,[]⟩ (us ++ ds) (vs ++ dvs) Q E hr I.env0 (hb s us I.kIn hl) r2 h) fun r s' hq=>?_)
 cases r with
 | error e=>exact hx pins σ H s e s' I hq
 | ok fl =>
  cases fl with
  | ret u=>exact I.after hq
  | next=>exact False.elim hq
  | brk=>exact False.elim hq
  | cont=>exact False.elim hq
theorem aP (F:cS X.prog X.w X.K X.mg X.base CX k f fd ps sp) (hr:nV k X.A) (hg:Gl X x) (hm:X.mg x=some (.ref f)) (hk:PySem.W.keepIn X.K (.ref f)=true) (hb:uD X.K fd ps ds) (hd:cK dvs ds) (hx:yB CX X E)
  (ha:PA X (e :: es) t) (hdb:(x == ("__debug__" : Str))=false:=by decide) (he:starEach (e :: es) X.env=(false,eval e X.env) :: starEach es X.env:=by rfl) (hpl:(backTo pos (starEach es X.env)).any (·.1)=false:=by rfl) :
  PE X (.Call (.Name x p) (e :: es) [] pos) (aT sp dvs E t):=by
 intro pins s σ H Q I h
 refine wpAny_Call_Name_kw (Ma I hg hm ?_ hdb)
 refine PySem.W.callWith_K (h₀:=X.base) I.ok.mod.kin hk (thn (ha pos pins s σ H _ I h) fun us s1 ⟨vs,H1,I1,r,q⟩=>⟨I1.kIn,?_⟩) he hpl
 exact Qu F hr hb hd hx I1 r q
theorem iY {pl:Sem Bool} (he:PE X o ta) (c:Cls X.K C) (hm:Meth X.K C m f) (F:cS X.prog X.w X.K X.mg X.base CX k f fd ps sp) (hr:nV k X.A) (hb:uD X.K fd ps ds) (hd:cK dvs ds) (hx:yB CX X E) (ha:PA X (e :: es) t)
  (hst:starEach (e :: es) X.env=(false,eval e X.env) :: starEach es X.env:=by rfl) (hpl:(backTo pos (starEach es X.env)).any (·.1)=false:=by rfl)
  (ht:eval (.Call (.Attribute o m apos) (e :: es) [] pos) X.env=(do
   let ov ← eval o X.env
   standAt apos.atName
   let (f,first) ← holding [ov] (getMethod ov m pl)
   callWith pos f first (backTo pos (starEach (e :: es) X.env)) (backToKw pos (keywordEach [] X.env))):=by rfl) :
  PE X (.Call (.Attribute o m apos) (e :: es) [] pos) (dA C m sp dvs E ta t):=by
 intro pins s σ H Q I h
 refine PySem.W.methodCall_KW (pl:=pl) (thn (he pins s σ H _ I h) fun u s1 ⟨x,H1,I1,rx,q0⟩=>?_) ht
 obtain ⟨a,ex,dx,fs,ea,l,q⟩:=Eq.mp eN q0
 subst ex
 obtain rfl:u=Value.ref a:=rx
 refine Hg I1 ea c hm l ?_
 refine PySem.W.callWith_K (first:=[.ref a]) (h₀:=X.base) I.ok.mod.kin hm.kp (thn (ha pos pins s1 σ H1 _ I1 q) fun us s2 ⟨vs,H2,I2,r,q2⟩=>⟨I2.kIn,?_⟩) hst hpl
 exact Qu (us:=.ref a :: us) (vs:=.ref a :: vs) F hr hb hd hx I2 (.cons rfl r) q2
theorem kX {pl:Sem Bool} (he:PE X o ta) (c:Cls X.K C) (hm:Meth X.K C m f) (F:cS X.prog X.w X.K X.mg X.base CX k f fd ps sp) (hr:nV k X.A) (hb:uD X.K fd ps ds) (hd:cK dvs ds) (hx:yB CX X E)
  (ht:eval (.Call (.Attribute o m apos) [] [] pos) X.env=(do
   let ov ← eval o X.env
   standAt apos.atName
   let (f,first) ← holding [ov] (getMethod ov m pl)
   callWith pos f first (backTo pos (starEach [] X.env)) (backToKw pos (keywordEach [] X.env))):=by rfl) :
  PE X (.Call (.Attribute o m apos) [] [] pos) (dA C m sp dvs E ta aN):=by
 intro pins s σ H Q I h
 refine PySem.W.methodCall_KW (pl:=pl) (thn (he pins s σ H _ I h) fun u s1 ⟨x,H1,I1,rx,q0⟩=>?_) ht
 obtain ⟨a,ex,dx,fs,ea,l,q⟩:=Eq.mp eN q0
 subst ex
 obtain rfl:u=Value.ref a:=rx
 refine Hg I1 ea c hm l ?_
 exact PySem.W.callWith_K0 (first:=[.ref a]) I1.kIn hm.kp (Qu (us:=[.ref a]) (vs:=[.ref a]) F hr hb hd hx I1 (.cons rfl .nil) q)
structure Mk (K:PySem.W.Frag) (C f:Addr):Prop where
 makes:PySem.W.makesIn K C=true
 init:PySem.W.findIn K (.ref C) "__init__" = some (some (.ref f))
 fn:PySem.W.isFn K (.ref f)=true
 kp:PySem.W.keepIn K (.ref C)=true
theorem Za {pins:List (Addr×Obj)} {σ:St} {H:Hp} {s:Shared} {Q:VK} {us:List Value} {vs:List V} (M:Mk X.K C f) (F:cS X.prog X.w X.K X.mg X.base CX k f fd ps sp) (hr:nV (k+1) X.A) (hb:uD X.K fd ps ds) (hd:cK dvs ds)
  (hx:yB CX X E) (I:Inv X pins σ H s) (r:cK vs us)
  (h:∀ x dx,H x=none->H dx=none->dx≠x->sp (.ref x :: (vs ++ dvs)) (upd (upd H dx (.own x)) x (.ins C dx [])) (fun v H2=>v=.non/\Q (.ref x) H2) E) :
  wpAny (model X.prog X.w) X.A (call (.ref C) us) (EP X pins σ Q) X.xe s:=by
 have hq:=h (s.heap.objs.size+1) s.heap.objs.size (I.hok.fresh (Nat.le_succ _)) (I.hok.fresh (Nat.le_refl _)) (Nat.ne_of_lt (Nat.lt_succ_self _))
 have I2:=Inv.made (C:=C) I
 have r2:cK (V.ref (s.heap.objs.size+1) :: (vs ++ dvs)) (Value.ref (s.heap.objs.size+1) :: (us ++ ds)):=.cons rfl (r.append hd)
 have hl:(Value.ref (s.heap.objs.size+1) :: us ++ ds).length=ps.length:=by
  have e:=r2.length
  rw [F.len _ _ _ _ hq] at e
  exact e.symm
 refine wpAny_call (Zw (f:=f) I.kIn M.makes M.init (beq_iff_eq.mp M.fn) (codeAny_mono (F.run _ X.stack _ _ ⟨Value.ref (s.heap.objs.size+1) :: us,[]⟩ (Value.ref (s.heap.objs.size+1) :: (us ++ ds)) _ _ E (hr.make C us [])
  (I2.env0.make C us []) (hb _ (Value.ref (s.heap.objs.size+1) :: us) I2.kIn hl) r2 hq) fun r s' hq'=>?_))
 cases r with
 | error e=>exact hx pins σ _ _ e s' I2 hq'
 | ok fl =>
  cases fl with
  | ret u =>
   obtain ⟨v,H',I3,rv,ev,q3⟩:=I2.after hq'
   subst ev
   exact ⟨rv,⟨V.ref (s.heap.objs.size+1),H',I3,rfl,q3⟩⟩
  | next=>exact False.elim hq'
  | brk=>exact False.elim hq'
  | cont=>exact False.elim hq'
theorem Lu (M:Mk X.K C f) (F:cS X.prog X.w X.K X.mg X.base CX k f fd ps sp) (hr:nV (k+1) X.A) (hg:Gl X x) (hm:X.mg x=some (.ref C)) (hb:uD X.K fd ps ds) (hd:cK dvs ds) (hx:yB CX X E)
  (ha:PA X (e :: es) t) (hdb:(x == ("__debug__" : Str))=false:=by decide) (he:starEach (e :: es) X.env=(false,eval e X.env) :: starEach es X.env:=by rfl) (hpl:(backTo pos (starEach es X.env)).any (·.1)=false:=by rfl) :
  PE X (.Call (.Name x p) (e :: es) [] pos) (Fd C sp dvs E t):=by
 intro pins s σ H Q I h
 refine wpAny_Call_Name_kw (Ma I hg hm ?_ hdb)
 refine PySem.W.callWith_K (h₀:=X.base) I.ok.mod.kin M.kp (thn (ha pos pins s σ H _ I h) fun us s1 ⟨vs,H1,I1,r,q⟩=>⟨I1.kIn,?_⟩) he hpl
 exact Za M F hr hb hd hx I1 r q
end
section
variable {X:Cx} {CX:CXT} {k:Nat} {f C:Addr} {fd:FuncData} {ps ks:List Str} {sp:Sp} {E:XK} {x m:Str} {p pos apos kpos:Pos} {e o:Expr} {es:List Expr} {kws:List Keyword} {te ta:TE} {t tk:TA} {nm:Option Str}
variable {g:List Value->List Value->List Value} {gV:List V->List V->List V}
end
structure bF (N P:List Str) (sc:Scope):Prop where
 kind:sc.kind=.function
 co:sc.isCoroutine=false
 gen:sc.isGenerator=false
 nd:N.Nodup
 pre:N.take P.length=P
 par:∀ x∈P,sc.names.lookup x=some .local∨sc.names.lookup x=some .cell
 nofree:∀ y∈sc.names,y.2≠.free
theorem Kj {kindOf:Str->Option NameKind} {x:Str}:∀ {binds:List (Str×Value)} {m:Str->Option Value},(∀ v,(x,v)∉binds)->bindL kindOf binds m x=m x
 | [],_,_=>rfl
 | (n,v) :: r,m,h=>by
  unfold bindL
  rw [Kj fun w hw=>h w (List.mem_cons_of_mem _ hw)]
  split
  ·have:x≠n:=by rintro rfl;exact h v List.mem_cons_self
   simp [this]
  ·rfl
theorem Kl {kindOf:Str->Option NameKind} {x:Str}:∀ {binds:List (Str×Value)} {m:Str->Option Value},(∀ v,(x,v)∉binds)->bindC kindOf binds m x=m x
 | [],_,_=>rfl
 | (n,v) :: r,m,h=>by
  unfold bindC
  rw [Kl fun w hw=>h w (List.mem_cons_of_mem _ hw)]
  split
  ·rfl
  ·have:x≠n:=by rintro rfl;exact h v List.mem_cons_self
   simp [this]
theorem Kk {kindOf:Str->Option NameKind} {x:Str} {v:Value}:∀ {P:List Str} {vs:List Value} {i:Nat} {m:Str->Option Value},P.Nodup->P[i]?=some x->vs[i]?=some v->kindOf x=some .local ->
  bindL kindOf (P.zip vs) m x=some v
 | [],_,_,_,_,h,_,_=>by simp at h
 | _ :: _,[],_,_,_,_,h,_=>by simp at h
 | p :: P,w :: vs,0,m,nd,h1,h2,hk=>by
  simp at h1 h2;subst h1;subst h2
  show bindL kindOf ((p,w) :: P.zip vs) m p=_
  unfold bindL
  rw [Kj fun v hv=>(List.nodup_cons.mp nd).1 (List.of_mem_zip hv).1,if_pos hk]
  simp
 | p :: P,w :: vs,i+1,m,nd,h1,h2,hk=>by
  show bindL kindOf ((p,w) :: P.zip vs) m x=_
  unfold bindL
  exact Kk (i:=i) (List.nodup_cons.mp nd).2 (by simpa using h1) (by simpa using h2) hk
theorem Km {kindOf:Str->Option NameKind} {x:Str} {v:Value}:∀ {P:List Str} {vs:List Value} {i:Nat} {m:Str->Option Value},P.Nodup->P[i]?=some x->vs[i]?=some v->kindOf x≠some .local ->
  bindC kindOf (P.zip vs) m x=some v
 | [],_,_,_,_,h,_,_=>by simp at h
 | _ :: _,[],_,_,_,_,h,_=>by simp at h
 | p :: P,w :: vs,0,m,nd,h1,h2,hk=>by
  simp at h1 h2;subst h1;subst h2
  show bindC kindOf ((p,w) :: P.zip vs) m p=_
  unfold bindC
  rw [Kl fun v hv=>(List.nodup_cons.mp nd).1 (List.of_mem_zip hv).1,if_neg hk]
  simp
 | p :: P,w :: vs,i+1,m,nd,h1,h2,hk=>by
  show bindC kindOf ((p,w) :: P.zip vs) m x=_
  unfold bindC
  exact Km (i:=i) (List.nodup_cons.mp nd).2 (by simpa using h1) (by simpa using h2) hk
noncomputable def start (N:List Str) (vs:List V):St:=vs.map some ++ List.replicate (N.length - vs.length) none
noncomputable def Vf (CX:CXT) (P:Program) (w:World) (K:PySem.W.Frag) (mg:Str->Option Value) (base:Heap) (N:List Str) (qual:Str) (scope:Scope) (f:Addr) (cd:Value) (A:Around) (outer:List Env) (s:Shared) (H:Hp) (E:XK):Cx where
 prog:=P
 w:=w
 K:=K
 mg:=mg
 base:=base
 A:=A.deeper (envOfC qual scope s.heap.objs.size f cd)
 N:=N
 s₀:=s
 H₀:=H
 env:=envOfC qual scope s.heap.objs.size f cd
 outer:=outer
 stack:=envOfC qual scope s.heap.objs.size f cd :: outer
 ex:=[]
 calm:=true
 fn:=fun _=>true
 pn:=[]
 xe:=fun e s'=>wpAny (model P w) (A.deeper (envOfC qual scope s.heap.objs.size f cd)) (leaving (envOfC qual scope s.heap.objs.size f cd) e) (fun _ s''=>CX outer H s E e s'') (fun e' s''=>CX outer H s E e' s'') s'
theorem Ph {sc:Scope} {n:Nat} {x:Str} (h:sc.names.lookup x=some .cell):∃ c,(cellsFrom n sc.names []).lookup x=some c:=by
 have q:=PySem.W.cellsFrom_some sc.names n [] (.inl h)
 exact Option.isSome_iff_exists.mp q
theorem Wr {CX:CXT} {P:Program} {w:World} {K:PySem.W.Frag} {mg:Str->Option Value} {base:Heap} {N ps:List Str} {qual:Str} {scope:Scope} {f:Addr} {cd:Value} {A:Around} {outer:List Env} {s s1:Shared} {H:Hp} {E:XK} {us:List Value} {vs:List V}
  (S:bF N ps scope) (hd:A.handled=none) (e0:Ql P w K mg base A outer s H) (hl:vs.length=ps.length) (r:cK vs us)
  (x:InCallC s s.heap.objs.size (bindL (envOfC qual scope s.heap.objs.size f cd).kindOf (ps.zip us) fun _=>none) (cellsFrom (s.heap.objs.size+1) scope.names []) (bindC (envOfC qual scope s.heap.objs.size f cd).kindOf (ps.zip us) fun _=>none) s1) :
  Inv (Vf CX P w K mg base N qual scope f cd A outer s H E) [] (start N vs) H s1:=by
 have hpl:ps.length<=N.length:=by have:=congrArg List.length S.pre;rw [List.length_take] at this;omega
 obtain ⟨h1,tk,rfl,hk⟩:=x.done
 have noA:∀ b:Addr,b∉(Vf CX P w K mg base N qual scope f cd A outer s H E).ex:=fun b z=>absurd (show b∈([]:List Addr) from z) (by simp)
 refine ⟨⟨e0.mod,S.kind,rfl,rfl,Nat.le_refl _,fun y z c h1 h2=>?_,fun y hy=>?_,fun y c _ h=>?_,fun _=>hd,Around.frames_deeper e0.frames,.inr ⟨rfl,rfl⟩,fun b z=>absurd z (noA b),e0.bs,e0.bsz,fun b _ _=>noA b,fun b z=>absurd z (noA b),e0.funs,e0.frf⟩,
  rfl,e0.bare,Un.kept hk,⟨_,x.toInCall.ns,fun i y v h1 h2 h3=>?_⟩,fun y c h=>⟨_,x.cell y c h⟩,e0.hok.fresh (Nat.le_refl _),fun y c h=>?_,fun p hp=>absurd (show p∈([]:List (Addr×Obj)) from hp) (by simp),e0.hok.kept hk,?_⟩
 ·exact name_of_addr x.apart (PySem.mem_of_lookup h1) (PySem.mem_of_lookup h2)
 ·have hy:scope.names.lookup y=some .cell∨scope.names.lookup y=some .free:=hy
  rcases hy with hy | hy
  ·exact Ph hy
  ·exact absurd rfl (S.nofree _ (PySem.mem_of_lookup hy))
 ·exact Nat.le_of_lt (x.above y c (PySem.mem_of_lookup h))
 ·have hi:i < vs.length:=by
   unfold start at h2
   by_cases hi:i < vs.length
   ·exact hi
   ·rw [List.getElem?_append_right (by simpa using hi)] at h2
    rw [List.getElem?_replicate] at h2
    split at h2 <;> cases h2
  have ha:vs[i]?=some v:=by
   unfold start at h2
   rw [List.getElem?_append_left (by simpa using hi),List.getElem?_map] at h2
   cases e:vs[i]? with
   | none=>rw [e] at h2;cases h2
   | some a=>rw [e] at h2;cases h2;rfl
  obtain ⟨u,hu,rv⟩:=r.get ha
  have hp:ps[i]?=some y:=by
   rw [← S.pre,List.getElem?_take_of_lt (by omega)];exact h1
  have ndP:ps.Nodup:=by rw [← S.pre];exact S.nd.sublist (List.take_sublist _ _)
  refine ⟨u,rv,?_⟩
  rcases S.par y (List.mem_of_getElem? hp) with k | k
  ·exact .inl ⟨k,Kk ndP hp hu k⟩
  ·obtain ⟨c,e⟩:=Ph (n:=s.heap.objs.size+1) k
   refine .inr ⟨.inl k,c,e,?_⟩
   have q:=x.cell y c e
   rw [Km ndP hp hu (by show scope.names.lookup y≠_;rw [k];decide)] at q
   exact q
 ·exact e0.hok.fresh (Nat.le_of_lt (x.above y c (PySem.mem_of_lookup h)))
 ·unfold start
  show _=N.length
  rw [List.length_append,List.length_map,List.length_replicate]
  omega
theorem fn_of {CX:CXT} {P:Program} {w:World} {K:PySem.W.Frag} {mg:Str->Option Value} {base:Heap} {k:Nat} {f:Addr} {name qual:Str} {params:Arguments} {body:List Stmt} {scope:Scope} {dV kV doc pm cdv ct oc:Value} {an od:Option Addr}
  {osl:Array (Option Value)} {N ps:List Str} {sp:Sp} (lk:K.lookup f=some ⟨oc,od,.func (PySem.W.fnOf name qual params body scope dV kV doc pm an cdv ct),osl⟩) (hcd:PySem.W.codeIn K cdv qual=true) (S:bF N ps scope)
  (len:∀ vs H Q E,sp vs H Q E->vs.length=ps.length)
  (hbody:∀ (A:Around) (outer:List Env) (s:Shared) (H:Hp) (vs:List V) (Q:VK) (E:XK),nV k (A.deeper (envOfC qual scope s.heap.objs.size f cdv))->sp vs H Q E ->
   ∃ t,PSs (Vf CX P w K mg base N qual scope f cdv A outer s H E) body t/\t { nx:=fun _ H'=>Q .non H',rt:=Q } (start N vs) H) :
  cS P w K mg base CX (k+1) f (PySem.W.fnOf name qual params body scope dV kV doc pm an cdv ct) ps sp:=by
 refine ⟨len,fun A outer s H args us vs Q E hr e0 hb r hsp=>?_⟩
 have hl:=len _ _ _ _ hsp
 have KX:K.In s.heap:=e0.mod.kin.keeps fun b o e=>(e0.bs b o e).1
 have lim:s.heap.NoLimit:=e0.mod.nolimit.keeps fun b o e=>(e0.bs b o e).1
 have hkind:∀ y∈ps.zip us,scope.names.lookup y.1=some .local∨(scope.names.lookup y.1=some .cell/\((cellsFrom (s.heap.objs.size+1) scope.names []).lookup y.1).isSome=true):=fun ⟨n,v⟩ hy=>by
  rcases S.par n (List.of_mem_zip hy).1 with q | q
  ·exact .inl q
  ·exact .inr ⟨q,PySem.W.cellsFrom_some _ _ _ (.inl q)⟩
 refine codeAny_call_function hr.depth (KX _ _ lk) rfl S.co S.gen rfl (PySem.W.codeRec_of KX hcd) (hb _ _ _ _ ?_)
 refine wpAny_newFunctionEnv_cells S.kind hkind fun env he s1 x=>?_
 subst he
 refine ⟨lim.keeps x.toInCall.keep,codeAny_func ?_⟩
 obtain ⟨t,ht,hq⟩:=hbody A outer s H vs Q E (hr.deeper _) hsp
 have I:Inv (Vf CX P w K mg base N qual scope f cdv A outer s H E) [] (start N vs) H s1:=Wr S hr.hd e0 hl r x
 refine wpAny_mono (ht [] s1 (start N vs) H _ I hq) (fun fl s' hs=>?_) fun e s' hs=>hs
 have fin:∀ {σ':St} {H':Hp} {v:V} {u:Value},Inv (Vf CX P w K mg base N qual scope f cdv A outer s H E) [] σ' H' s'->cV v u->Q v H'->CE outer P w H s Q u s' :=
  fun {σ' H' v u} J rv q=>⟨v,H',J.os,J.bare,J.base,J.hok,rv,q⟩
 cases fl with
 | ret u =>
  obtain ⟨v,σ',H',J,rv,q⟩:=hs
  exact fin J rv q
 | next =>
  obtain ⟨σ',H',J,q⟩:=hs
  exact fin (v:=V.non) (u:=Value.none) J rfl q
 | brk =>
  obtain ⟨_,_,_,q⟩:=hs
  exact False.elim q
 | cont =>
  obtain ⟨_,_,_,q⟩:=hs
  exact False.elim q
end L2
namespace L2
open PySem PySem.Spec PyProof.Rows
section
variable {X:Cx} {x:Str} {p pos:Pos} {e:Expr} {es:List Expr} {t:TA} {id T:String} {r:List V->Hp->VK->Prop}
noncomputable def tCB (r:List V->Hp->VK->Prop) (t:TA):TE:=fun σ H Q=>t σ H fun vs H1=>r vs H1 Q
theorem aW (hc:qL X (.builtin id) r) (hg:Gl X x) (hm:X.mg x=none) (hv:bootBuiltins x=some (.builtin id)) (ha:PA X (e :: es) t) (hn:x ≠ "__name__":=by decide) (hdb:(x == ("__debug__" : Str))=false:=by decide)
  (he:starEach (e :: es) X.env=(false,eval e X.env) :: starEach es X.env:=by rfl) (hpl:(backTo pos (starEach es X.env)).any (·.1)=false:=by rfl):PE X (.Call (.Name x p) (e :: es) [] pos) (tCB r t):=by
 intro pins s σ H Q I h
 refine wpAny_Call_Name_kw (rX I hg hm hv ?_ hn hdb)
 exact PyProof.Rows.callWith_builtin1 (thn (ha pos pins s σ H _ I h) fun us s1 ⟨vs,H1,I1,r1,q1⟩=>hc pins s1 σ H1 vs us Q I1 r1 q1) he hpl
theorem Ju (hc:qL X (.type T) r) (hg:Gl X x) (hm:X.mg x=none) (hv:bootBuiltins x=some (.type T)) (ha:PA X (e :: es) t) (hn:x ≠ "__name__":=by decide) (hdb:(x == ("__debug__" : Str))=false:=by decide)
  (he:starEach (e :: es) X.env=(false,eval e X.env) :: starEach es X.env:=by rfl) (hpl:(backTo pos (starEach es X.env)).any (·.1)=false:=by rfl):PE X (.Call (.Name x p) (e :: es) [] pos) (tCB r t):=by
 intro pins s σ H Q I h
 refine wpAny_Call_Name_kw (rX I hg hm hv ?_ hn hdb)
 exact PyProof.Rows.callWith_type1 (thn (ha pos pins s σ H _ I h) fun us s1 ⟨vs,H1,I1,r1,q1⟩=>hc pins s1 σ H1 vs us Q I1 r1 q1) he hpl
end
end L2
namespace HT
open PySem PyProof.Rows
section
open PySem.SeqAt
open PySem.AutoSeq1 (wpAny_loadPart')
open PySem.MeetsSeq PySem.MeetsSeq2 PySem.MeetsSeq3
end
section
variable {prog:Program} {w:World} {A:Around} {E:Value->Shared->Prop} {s:Shared}
noncomputable def sIx (n d:Nat):Option Int->Nat
 | none=>d
 | some v=>if v < 0 then (v+(n:Int)).toNat else min v.toNat n
theorem sIx_none (n d:Nat):sIx n d none=d:=rfl
end
end HT
namespace L2
open PySem PySem.Spec PyProof.Rows
noncomputable abbrev TO:=St->Hp->(Option Int->Hp->Prop)->Prop
noncomputable def PO (X:Cx) (e:Option Expr) (t:TO):Prop :=
 ∀ (pins:List (Addr×Obj)) (s:Shared) (σ:St) (H:Hp) (Q:Option Int->Hp->Prop),Inv X pins σ H s->t σ H Q ->
  wpAny (model X.prog X.w) X.A (evalPart e X.env) (fun u s'=>∃ o H',Inv X pins σ H' s'/\IsPart u o/\Q o H') X.xe s
noncomputable def gR:TO:=fun _ H Q=>Q none H
noncomputable def oP (t:TE):TO:=fun σ H Q=>t σ H fun x H1=>∃ i,x=.int i/\Q (some i) H1
section
variable {X:Cx} {e:Expr} {te:TE} {lo hi:Option Expr} {tl th:TO} {pos p2:Pos}
theorem pQ:PO X none gR:=by
 intro pins s σ H Q I h
 rw [evalPart_none]
 exact wpAny_pure ⟨none,H,I,.none,h⟩
theorem pP (h:PE X e te):PO X (some e) (oP te):=by
 intro pins s σ H Q I hw
 rw [evalPart_some]
 refine thn (h pins s σ H _ I hw) fun u s1 ⟨x,H1,I1,r1,q1⟩=>?_
 obtain ⟨i,rfl,q⟩:=q1
 obtain ⟨t,rfl⟩:=r1
 exact ⟨some i,H1,I1,.int i t,q⟩
noncomputable def SlR (X:Cx) (r:V->Option Int->Option Int->Hp->VK->Prop):Prop :=
 ∀ (pins:List (Addr×Obj)) (s:Shared) (σ:St) (H:Hp) (x:V) (v vl vu:Value) (lo hi:Option Int) (sl:Addr) (Q:VK),Inv X pins σ H s->cV x v->s.heap.IsSliceOf sl vl vu .none->IsPart vl lo->IsPart vu hi->r x lo hi H Q ->
  ∃ T id,typeLookup (.type T) "__getitem__" = pure (some (.builtin id))/\s.TypeIs v T/\wpAny (model X.prog X.w) X.A (getItem v (.ref sl)) (EP X pins σ Q) X.xe s
noncomputable def tSl (r:V->Option Int->Option Int->Hp->VK->Prop) (te:TE) (tl th:TO):TE:=fun σ H Q=>te σ H fun x H1=>tl σ H1 fun l H2=>th σ H2 fun u H3=>r x l u H3 Q
theorem mS {r:V->Option Int->Option Int->Hp->VK->Prop} (hr:SlR X r) (he:PE X e te) (hl:PO X lo tl) (hu:PO X hi th):PE X (.Subscript e (.Slice lo hi none p2) pos) (tSl r te tl th):=by
 intro pins s σ H Q I h
 refine Subscript_ (thn (he pins s σ H _ I h) fun v s1 ⟨x,H1,I1,r1,q1⟩=>?_)
 refine wpAny_Slice (thn (hl pins s1 σ H1 _ I1 q1) fun vl s2 ⟨l,H2,I2,pl,q2⟩=>thn (hu pins s2 σ H2 _ I2 q2) fun vu s3 ⟨u,H3,I3,pu,q3⟩=>?_)
 rw [evalPart_none]
 refine wpAny_pure ?_
 have I4:Inv X pins σ H3 { s3 with heap:=s3.heap.push { cls:=.type "slice",data:=.fields #[vl,vu,.none] } }:=I3.kept (t':=s3.toks) fun b ob q=>Heap.get?_push_of_some _ q
 obtain ⟨T,id,hT,ht,hg⟩:=hr pins { s3 with heap:=s3.heap.push { cls:=.type "slice",data:=.fields #[vl,vu,.none] } } σ H3 x v vl vu l u s3.heap.objs.size Q I4 r1 (Heap.IsSliceOf.new ..) pl pu q3
 show wpAny (model X.prog X.w) X.A (subscriptTail e (.Slice lo hi none p2) v (.ref s3.heap.objs.size)) (EP X pins σ Q) X.xe { s3 with heap:=s3.heap.push { cls:=.type "slice",data:=.fields #[vl,vu,.none] } }
 exact tail_any (ops:=[.ref s3.heap.objs.size,v]) ht hT hg (by with_unfolding_all rfl)
noncomputable def xO (xs:List V) (lo hi:Option Int):List V:=(xs.drop (HT.sIx xs.length 0 lo)).take (HT.sIx xs.length xs.length hi - HT.sIx xs.length 0 lo)
theorem Qi (xs:List V) (lo hi:Option Int):(xO xs lo hi).length<=xs.length:=by
 unfold xO
 rw [List.length_take,List.length_drop]
 omega
end
end L2
namespace L2
open PySem PySem.Spec PyProof.Rows
noncomputable def ixN (n:Nat) (i:Int):Option Nat:=if 0<=i then (if i < n then some i.toNat else none) else if -(n:Int)<=i then some (i+n).toNat else none
noncomputable def atI {α:Type} (xs:List α) (i:Int):Option α:=(ixN xs.length i).bind fun j=>xs[j]?
theorem Uj {n:Nat} {i:Int} {j:Nat} (h:ixN n i=some j):seqIndex? i n=some j/\j < n/\-(n:Int)<=i/\i < n:=by
 unfold ixN at h
 by_cases h0:0<=i
 ·rw [if_pos h0] at h
  by_cases h1:i < n
  ·rw [if_pos h1] at h
   have e:i.toNat=j:=Option.some.inj h
   exact ⟨by rw [seqIndex_of h0 h1,e],by omega,by omega,h1⟩
  ·rw [if_neg h1] at h;cases h
 ·rw [if_neg h0] at h
  by_cases h1:-(n:Int)<=i
  ·rw [if_pos h1] at h
   have e:(i+n).toNat=j:=Option.some.inj h
   exact ⟨by rw [seqIndex_neg (by omega) h1,e],by omega,h1,by omega⟩
  ·rw [if_neg h1] at h;cases h
theorem Va {α:Type} {xs:List α} {i:Int} {v:α} (h:atI xs i=some v):∃ j,seqIndex? i xs.length=some j/\xs[j]?=some v/\j < xs.length/\-(xs.length:Int)<=i/\i < xs.length:=by
 unfold atI at h
 cases e:ixN xs.length i with
 | none=>rw [e] at h;cases h
 | some j =>
  rw [e] at h
  obtain ⟨h1,h2,h3,h4⟩:=Uj e
  exact ⟨j,h1,h,h2,h3,h4⟩
theorem fI {α:Type} {xs:List α} {j:Nat} {v:α} (h:xs[j]?=some v):atI xs (j:Int)=some v:=by
 have hj:j < xs.length:=(List.getElem?_eq_some_iff.mp h).1
 have e:ixN xs.length (j:Int)=some j:=by
  unfold ixN
  rw [if_pos (by omega),if_pos (by omega)];simp
 unfold atI;rw [e];exact h
noncomputable def PlainIx (b:Expr):Prop:=∀ o i,subscripted b false o i=operate [o,i] (getItem o i)
noncomputable def IxR (X:Cx) (r:R2):Prop :=
 ∀ (value slice:Expr) (pins:List (Addr×Obj)) (s:Shared) (σ:St) (H:Hp) (x y:V) (v u:Value) (Q:VK),Inv X pins σ H s->cV x v->cV y u->r x y H Q ->
  subscripted slice false v u=operate [v,u] (getItem v u)->wpAny (model X.prog X.w) X.A (subscriptTail value slice v u) (EP X pins σ Q) X.xe s
noncomputable def MtR (X:Cx) (id:String) (r:V->List V->Hp->VK->Prop):Prop :=
 ∀ (pins:List (Addr×Obj)) (s:Shared) (σ:St) (H:Hp) (x:V) (xs:List V) (v:Value) (us:List Value) (Q:VK),Inv X pins σ H s->cV x v->cK xs us->r x xs H Q ->
  wpAny (model X.prog X.w) X.A (call (.builtin id) (v :: us)) (EP X pins σ Q) X.xe s
section
variable {X:Cx} {a b:Expr} {ta tb:TE} {pos:Pos}
theorem bA {r:R2} (hr:IxR X r) (ha:PE X a ta) (hb:PE X b tb) (hs:PlainIx b):PE X (.Subscript a b pos) (tOp r ta tb):=by
 intro pins s σ H Q I h
 exact Subscript_ (binT ha hb I h fun v u s2 x y H2 I2 rx ry q=>hr a b pins s2 σ H2 x y v u Q I2 rx ry q (hs _ _))
noncomputable def dU (K:PySem.W.Frag):R2:=fun x y H Q=>exR x fun p=>exI y fun i=>∃ xs,SqL K H p xs/\∃ v,atI xs i=some v/\Q v H
noncomputable def cN (K:PySem.W.Frag):R2:=fun x y H Q=>exR x fun p=>exI y fun i=>∃ xs,SqT K H p xs/\∃ v,atI xs i=some v/\Q v H
theorem cB:IxR X (dU X.K):=by
 intro value slice pins s σ H x y v u Q I rx ry h hs
 obtain ⟨p,rfl,h1⟩:=Eq.mp eN h
 obtain ⟨i,rfl,xs,hq,z,he,q⟩:=Eq.mp dQ h1
 cases rx
 obtain ⟨t,rfl⟩:=ry
 obtain ⟨its,r,pl,hz⟩:=I.list hq
 obtain ⟨j,h1,h2,h3,h4,h5⟩:=Va he
 obtain ⟨w,ew,rw'⟩:=r.get h2
 have hl:=r.length
 have hn:=Fi
 have fin:EP X pins σ Q w s:=⟨z,H,I,rw',q⟩
 by_cases h0:0<=i
 ·have hj:i.toNat=j:=by
   rw [seqIndex_of h0 h5] at h1
   exact Option.some.inj h1
  exact item_listR pl.isList h0 (by omega) (by rw [hj];simpa using ew) fin hs
 ·have hj:(i+(its.toArray.size:Int)).toNat=j:=by
   rw [seqIndex_neg (by omega) h4] at h1
   rw [List.size_toArray,← hl]
   exact Option.some.inj h1
  exact subscriptTail_builtinR (x:=w) pl.isList.typeIs slot_list_getitem.lookup
   (wpAny_getItem_list_neg (Q:=fun r s'=>r=w/\EP X pins σ Q r s') pl.isList (by omega) (by rw [List.size_toArray] <;> omega) (by omega) (by rw [hj];simpa using ew) ⟨rfl,fin⟩) hs
theorem bP:IxR X (cN X.K):=by
 intro value slice pins s σ H x y v u Q I rx ry h hs
 obtain ⟨p,rfl,h1⟩:=Eq.mp eN h
 obtain ⟨i,rfl,xs,hq,z,he,q⟩:=Eq.mp dQ h1
 cases rx
 obtain ⟨t,rfl⟩:=ry
 obtain ⟨its,r,pl,hz⟩:=I.tuple hq
 obtain ⟨j,h1,h2,h3,h4,h5⟩:=Va he
 obtain ⟨w,ew,rw'⟩:=r.get h2
 have hl:=r.length
 have hn:=Fi
 have fin:EP X pins σ Q w s:=⟨z,H,I,rw',q⟩
 exact subscriptTail_builtinR (x:=w) pl.typeIs slot_tuple_getitem.lookup
  (getItem_tuple (j:=j) (Q:=fun r s'=>r=w/\EP X pins σ Q r s') pl (by omega) (by omega) (by rw [List.size_toArray,← hl];exact h1) (by simpa using ew) ⟨rfl,fin⟩) hs
theorem Sr (its:List Value) (n j:Nat) (u:Value):Obj.mapSeq (·.setIfInBounds j u) { cls:=.type "list",data:=.seq its.toArray n }={ cls:=.type "list",data:=.seq (its.set j u).toArray n }:=by
 simp [Obj.mapSeq]
theorem Inv.lst {pins:List (Addr×Obj)} {σ:St} {H:Hp} {s:Shared} {p:Addr} {xs:List V} (I:Inv X pins σ H s) (h:H p=some (.lst xs)) :
  ∃ (its:List Value) (n:Nat),cK xs its/\s.heap.get? p=some { cls:=.type "list",data:=.seq its.toArray n }/\xs.length<=sizeLine:=by
 obtain ⟨z,its,n,r,e⟩:=I.hok p _ h
 exact ⟨its,n,r,e,z⟩
theorem Inv.lstUpd {pins:List (Addr×Obj)} {σ:St} {H:Hp} {s:Shared} {p:Addr} {xs ys:List V} {its its':List Value} {n n':Nat} {f:Obj->Obj} (I:Inv X pins σ H s) (h:H p=some (.lst xs))
  (ho:s.heap.get? p=some { cls:=.type "list",data:=.seq its.toArray n }) (hf:f { cls:=.type "list",data:=.seq its.toArray n }={ cls:=.type "list",data:=.seq its'.toArray n' }) (r:cK ys its') (hz:ys.length<=sizeLine) (t:Nat) :
  Inv X pins σ (upd H p (.lst ys)) { s with heap:=s.heap.update p f,toks:=t }:=by
 have e:(s.heap.update p f).get? p=some { cls:=.type "list",data:=.seq its'.toArray n' }:=by
  rw [Heap.get?_update_self f ho (by rw [hf] <;> rfl),hf]
 refine I.write (x:=p) (e:=p) (by rw [h];trivial) (.inl rfl) (fun b u hb q=>(Heap.get?_update_other _ _ (Ne.symm hb)).trans q) ⟨_,e⟩ ?_
 exact ⟨hz,its',n',r,e⟩
noncomputable def xC:V->V->V->Hp->(Hp->Prop)->Prop:=fun o i v H Q=>∃ p xs k j,o=.ref p/\i=.int k/\H p=some (.lst xs)/\ixN xs.length k=some j/\Q (upd H p (.lst (xs.set j v)))
theorem uN:PSet X xC:=by
 intro pins s σ H o i v ov iv u Q I ro ri rv h
 obtain ⟨p,xs,k,j,rfl,rfl,hp,hj,q⟩:=h
 cases ro
 obtain ⟨t,rfl⟩:=ri
 obtain ⟨its,n,r,ho,hz⟩:=I.lst hp
 obtain ⟨h1,h2,h3,h4⟩:=Uj hj
 have hl:=r.length
 have hn:=Fi
 have I':Inv X pins σ (upd H p (.lst (xs.set j v))) { s with heap:=s.heap.update p (Obj.mapSeq (·.setIfInBounds j u)) } :=
  I.lstUpd hp ho (Sr its n j u) (r.set rv j) (by rw [List.length_set];exact hz) s.toks
 by_cases h0:0<=k
 ·have hk:k.toNat=j:=by
   rw [seqIndex_of h0 h4] at h1
   exact Option.some.inj h1
  exact PySem.W.ki_setAt ho h0 (by omega) (by rw [List.size_toArray,← hl];exact h4) (by rw [hk];exact ⟨_,I',q⟩)
 ·have hk:(k+(its.toArray.size:Int)).toNat=j:=by
   rw [seqIndex_neg (by omega) h3] at h1
   rw [List.size_toArray,← hl]
   exact Option.some.inj h1
  exact PySem.W.ki_setBack ho (by omega) (by rw [List.size_toArray,← hl];exact h3) (by omega) (by rw [hk];exact ⟨_,I',q⟩)
theorem Mr (lo hi:Option Int) (n:Nat):(sliceBounds lo hi none n).1=((HT.sIx n 0 lo:Nat):Int)/\(sliceBounds lo hi none n).2.1=((HT.sIx n n hi:Nat):Int)/\(sliceBounds lo hi none n).2.2=1:=by
 refine ⟨?_,?_,rfl⟩
 ·cases lo with
  | none=>simp [sliceBounds,HT.sIx]
  | some i =>
   simp only [sliceBounds,HT.sIx,Option.getD_none,show (1:Int) > 0 by decide,if_true]
   by_cases h:i < 0
   ·simp only [h,if_true] <;> omega
   ·simp only [h,if_false] <;> omega
 ·cases hi with
  | none=>simp [sliceBounds,HT.sIx]
  | some i =>
   simp only [sliceBounds,HT.sIx,Option.getD_none,show (1:Int) > 0 by decide,if_true]
   by_cases h:i < 0
   ·simp only [h,if_true] <;> omega
   ·simp only [h,if_false] <;> omega
theorem Ie (its:List Value) (lo hi:Option Int):slicePick its.toArray lo hi none=((its.drop (HT.sIx its.length 0 lo)).take (HT.sIx its.length its.length hi - HT.sIx its.length 0 lo)).toArray:=by
 obtain ⟨h1,h2,h3⟩:=Mr lo hi its.toArray.size
 unfold slicePick
 rw [h1,h2,h3]
 simp only [sliceRange_one,pick_run,List.size_toArray] <;> rfl
noncomputable def rS (K:PySem.W.Frag):V->Option Int->Option Int->Hp->VK->Prop:=fun x lo hi H Q=>∃ a xs,x=.ref a/\SqL K H a xs/\∀ p,H p=none->Q (.ref p) (upd H p (.lst (xO xs lo hi)))
theorem pN:SlR X (rS X.K):=by
 intro pins s σ H x v vl vu lo hi sl Q I rx hs pl pu h
 obtain ⟨a,xs,rfl,hx,q⟩:=h
 cases rx
 obtain ⟨its,r,ht,hz⟩:=I.list hx
 have hlen:=r.length
 refine ⟨"list",_,slot_list_getitem.lookup,ht.isList.typeIs,?_⟩
 refine wpAny_getItem_list_slice ht.isList hs pl pu .none (by simp) ?_ (by rw [List.size_toArray] <;> omega)
 rw [Ie,← hlen]
 refine ⟨.ref s.heap.objs.size,_,I.laid (t':=s.toks) (o:=.lst (xO xs lo hi)) (fun b ob q=>Heap.get?_push_of_some _ q) (Nat.le_refl _) ?_,rfl,q _ (I.hok.fresh (Nat.le_refl _))⟩
 exact ⟨Nat.le_trans (Qi xs lo hi) hz,_,0,(r.drop (HT.sIx xs.length 0 lo)).take (HT.sIx xs.length xs.length hi - HT.sIx xs.length 0 lo),Heap.get?_push_size _ rfl⟩
noncomputable def Da:V->Bool
 | .non=>true
 | .bl _=>true
 | .int _=>true
 | .str _=>true
 | _=>false
noncomputable def eqV:V->V->Bool
 | .non,.non=>true
 | .bl a,.bl b=>a == b
 | .bl a,.int b=>(if a then 1 else 0) == b
 | .int a,.bl b=>a == (if b then 1 else 0)
 | .int a,.int b=>a == b
 | .str a,.str b=>a == b
 | _,_=>false
theorem eqAt_V {A:Around} {s:Shared} {y x:V} {u v:Value} (ry:cV y u) (rx:cV x v) (fy:Da y=true) (fx:Da x=true):SeqAt.EqAt A s u v (eqV y x):=by
 cases y with
 | non =>
  cases ry
  cases x with
  | non=>cases rx;exact SeqAt.EqAt.same _
  | bl b=>cases rx;exact SeqAt.EqAt.none_bool b
  | int b=>obtain ⟨t,rfl⟩:=rx;exact SeqAt.EqAt.none_int b t
  | str b=>obtain ⟨t,rfl⟩:=rx;exact SeqAt.EqAt.none_str b t
  | _=>exact absurd (show false=true from fx) Bool.false_ne_true
 | bl a =>
  cases ry
  cases x with
  | non=>cases rx;exact SeqAt.EqAt.bool_none a
  | bl b=>cases rx;exact SeqAt.EqAt.bool_bool a b
  | int b=>obtain ⟨t,rfl⟩:=rx;exact SeqAt.EqAt.bool_int a b t
  | str b=>obtain ⟨t,rfl⟩:=rx;exact SeqAt.EqAt.bool_str a b t
  | _=>exact absurd (show false=true from fx) Bool.false_ne_true
 | int a =>
  obtain ⟨t',rfl⟩:=ry
  cases x with
  | non=>cases rx;exact SeqAt.EqAt.int_none a t'
  | bl b=>cases rx;exact SeqAt.EqAt.int_bool a t' b
  | int b=>obtain ⟨t,rfl⟩:=rx;exact SeqAt.EqAt.int_int a t' b t
  | str b=>obtain ⟨t,rfl⟩:=rx;exact SeqAt.EqAt.int_str a t' b t
  | _=>exact absurd (show false=true from fx) Bool.false_ne_true
 | str a =>
  obtain ⟨t',rfl⟩:=ry
  cases x with
  | non=>cases rx;exact SeqAt.EqAt.str_none a t'
  | bl b=>cases rx;exact SeqAt.EqAt.str_bool a t' b
  | int b=>obtain ⟨t,rfl⟩:=rx;exact SeqAt.EqAt.str_int a t' b t
  | str b=>obtain ⟨t,rfl⟩:=rx;exact SeqAt.EqAt.str_str a t' b t
  | _=>exact absurd (show false=true from fx) Bool.false_ne_true
 | _=>exact absurd (show false=true from fy) Bool.false_ne_true
noncomputable def eqU (x:V) (u:Value):Bool:=match u with
 | .none=>eqV .non x
 | .bool b=>eqV (.bl b) x
 | .int i _=>eqV (.int i) x
 | .str z _=>eqV (.str z) x
 | _=>false
theorem Yk {x y:V} {u:Value} (r:cV y u) (f:Da y=true):eqU x u=eqV y x:=by
 cases y with
 | non=>cases r;rfl
 | bl b=>cases r;rfl
 | int i=>obtain ⟨t,rfl⟩:=r;rfl
 | str z=>obtain ⟨t,rfl⟩:=r;rfl
 | _=>exact absurd (show false=true from f) Bool.false_ne_true
theorem Mh {x:V}:∀ {xs:List V} {us:List Value},cK xs us->xs.all Da=true->us.any (eqU x)=xs.any fun y=>eqV y x
 | _,_,.nil,_=>rfl
 | y :: xs,u :: us,.cons r t,f=>by
  rw [List.all_cons,Bool.and_eq_true] at f
  rw [List.any_cons,List.any_cons,Yk r f.1,Mh t f.2]
theorem Gc {A:Around} {s:Shared} {x:V} {v:Value} (rx:cV x v) (fx:Da x=true):∀ {xs:List V} {us:List Value},cK xs us->xs.all Da=true->∀ u∈us,SeqAt.EqAt A s u v (eqU x u)
 | _,_,.nil,_=>fun u hu=>by cases hu
 | y :: xs,u :: us,.cons r t,f=>fun u' hu=>by
  rw [List.all_cons,Bool.and_eq_true] at f
  rcases List.mem_cons.mp hu with rfl | hu
  ·rw [Yk r f.1];exact eqAt_V r rx f.1 fx
  ·exact Gc rx fx t f.2 u' hu
noncomputable def inV (x:V) (xs:List V):Bool:=xs.any fun y=>eqV y x
noncomputable def rIn (K:PySem.W.Frag) (neg:Bool):R2:=fun x y H Q=>∃ p xs,y=.ref p/\(SqL K H p xs∨SqT K H p xs)/\Da x=true/\xs.all Da=true/\Q (.bl (if neg then !inV x xs else inV x xs)) H
theorem Nk:OpR X (compareOp .NotIn) (rIn X.K true):=by
 intro pins s σ H x y v u Q I rx ry h
 obtain ⟨p,xs,rfl,hq,fx,fs,q⟩:=h
 cases ry
 rcases hq with hq | hq
 ·obtain ⟨its,r,pl,hz⟩:=I.list hq
  refine SeqAt.notIn_listAt (eqU x) pl.isList (fun w hw=>Gc rx fx r fs w (by simpa using hw)) ⟨.bl _,H,I,rfl,?_⟩
  rw [show its.toArray.any (eqU x)=its.any (eqU x) by simp,Mh r fs]
  exact q
 ·obtain ⟨its,r,pl,hz⟩:=I.tuple hq
  refine SeqAt.notIn_tupleAt (eqU x) pl (fun w hw=>Gc rx fx r fs w (by simpa using hw)) ⟨.bl _,H,I,rfl,?_⟩
  rw [show its.toArray.any (eqU x)=its.any (eqU x) by simp,Mh r fs]
  exact q
theorem bG:qL X (.builtin "len") (fun xs H Q=>∃ p ys,xs=[.ref p]/\(SqL X.K H p ys∨SqT X.K H p ys)/\Q (.int ys.length) H):=by
 intro pins s σ H xs us Q I r h
 obtain ⟨p,ys,rfl,hq,q⟩:=h
 obtain ⟨u,rfl,rx⟩:=yZ r
 cases rx
 have hn:=Fi
 rcases hq with hq | hq
 ·obtain ⟨its,r',pl,hz⟩:=I.list hq
  have hlen:=r'.length
  exact Calls.call_len_list pl.isList (by simp only [List.size_toArray] <;> omega) ⟨.int ys.length,H,I.tok _,⟨s.toks+1,by rw [List.size_toArray,hlen]⟩,q⟩
 ·obtain ⟨its,r',pl,hz⟩:=I.tuple hq
  have hlen:=r'.length
  exact len_tuple pl (by simp only [List.size_toArray] <;> omega) ⟨.int ys.length,H,I.tok _,⟨s.toks+1,by rw [List.size_toArray,hlen]⟩,q⟩
theorem Ax:qL X (.type "list") (fun xs H Q=>∃ p ys,xs=[.ref p]/\(SqL X.K H p ys∨SqT X.K H p ys)/\∀ l,H l=none->Q (.ref l) (upd H l (.lst ys))):=by
 intro pins s σ H xs us Q I r h
 obtain ⟨p,ys,rfl,hq,q⟩:=h
 obtain ⟨u,rfl,rx⟩:=yZ r
 cases rx
 have fin:∀ (its:List Value),cK ys its->ys.length<=sizeLine->∀ (h':Heap) (c':Nat),(∀ b o',s.heap.get? b=some o'->h'.get? b=some o') ->
   h'.get? s.heap.objs.size=some { cls:=.type "list",dict:=none,data:=.seq its.toArray c',slots:=#[] }->EP X pins σ Q (.ref s.heap.objs.size) { s with heap:=h' }:=fun its r' hz h' c' kp e =>
  ⟨.ref s.heap.objs.size,_,I.laid (t':=s.toks) kp (Nat.le_refl _) (show kI X.prog X.w _ h' _ (.lst ys) from ⟨hz,its,c',r',e⟩),rfl,q _ (I.hok.fresh (Nat.le_refl _))⟩
 rcases hq with hq | hq
 ·obtain ⟨its,r',pl,hz⟩:=I.list hq
  have hlen:=r'.length
  obtain ⟨o,ho,hc,n,hd⟩:=pl.isList
  exact call_list_seq p (.inl rfl) ho hc hd (fun h' c' kp e=>fin its r' hz h' c' kp e) (by simp only [List.size_toArray] <;> omega)
 ·obtain ⟨its,r',pl,hz⟩:=I.tuple hq
  have hlen:=r'.length
  obtain ⟨o,ho,hc,n,hd⟩:=pl
  exact call_list_seq p (.inr rfl) ho hc hd (fun h' c' kp e=>fin its r' hz h' c' kp e) (by simp only [List.size_toArray] <;> omega)
noncomputable def tyV (K:PySem.W.Frag) (T:String) (x:V) (H:Hp):Prop:=match x with
 | .str _=>T="str"
 | .int _=>T="int"
 | .ref p=>(T="list" /\ ∃ xs,SqL K H p xs)∨(T="tuple" /\ ∃ o,K.lookup p=some o/\o.cls=.type "tuple" /\ o.dict=none) ∨
   (T="dict" /\ ((∃ kvs,H p=some (.dK kvs))∨∃ kvs,H p=some (.dT kvs)))∨(T="set" /\ ∃ S n,H p=some (.set S n))
 | _=>False
theorem Xv {pins:List (Addr×Obj)} {σ:St} {H:Hp} {s:Shared} {T:String} {x:V} {v:Value} (I:Inv X pins σ H s) (r:cV x v) (ty:tyV X.K T x H) :
  s.TypeIs v T/\∀ a,v=.ref a->∃ ob,s.heap.get? a=some ob/\ob.dict=none:=by
 cases x with
 | str z =>
  obtain ⟨t,rfl⟩:=r
  cases (show T="str" from ty)
  exact ⟨typeIs_str s z t,fun _ e=>nomatch e⟩
 | int i =>
  obtain ⟨t,rfl⟩:=r
  cases (show T="int" from ty)
  exact ⟨typeIs_int s i t,fun _ e=>nomatch e⟩
 | ref p =>
  cases r
  rcases ty with ⟨rfl,xs,hq⟩ | ⟨rfl,o,hk,hc,hd⟩ | ⟨rfl,hk⟩ | ⟨rfl,S,n,hk⟩
  ·obtain ⟨its,_,pl,_⟩:=I.list hq
   refine ⟨pl.isList.typeIs,fun a e=>?_⟩
   cases e
   obtain ⟨o,n,e,c,hd,_⟩:=pl
   exact ⟨o,e,hd⟩
  ·refine ⟨⟨o,I.kIn p o hk,hc⟩,fun a e=>?_⟩
   cases e
   exact ⟨o,I.kIn _ o hk,hd⟩
  ·have z:∃ o,s.heap.get? p=some o/\o.ExactDict:=by
    rcases hk with ⟨kvs,hk⟩ | ⟨kvs,hk⟩
    ·obtain ⟨_,_,_,_,o,_,_,e,ex,_⟩:=I.hok p _ hk
     exact ⟨o,e,ex⟩
    ·obtain ⟨_,_,_,_,o,_,_,e,ex,_⟩:=I.hok p _ hk
     exact ⟨o,e,ex⟩
   obtain ⟨o,e,ex⟩:=z
   refine ⟨⟨o,e,ex.1⟩,fun a e2=>?_⟩
   cases e2
   exact ⟨o,e,ex.2.1⟩
  ·obtain ⟨o,_,_,_,e,ex,_⟩:=I.hok p _ hk
   refine ⟨⟨o,e,ex.1⟩,fun a e2=>?_⟩
   cases e2
   exact ⟨o,e,ex.2.1⟩
 | _=>exact False.elim ty
noncomputable def Xb (K:PySem.W.Frag) (T:String) (r:V->List V->Hp->VK->Prop) (to:TE):TE:=fun σ H Q=>to σ H fun x H1=>tyV K T x H1/\r x [] H1 Q
noncomputable def tBM (K:PySem.W.Frag) (T:String) (r:V->List V->Hp->VK->Prop) (to:TE) (t:TA):TE:=fun σ H Q=>to σ H fun x H1=>tyV K T x H1/\t σ H1 fun xs H2=>r x xs H2 Q
variable {o e:Expr} {es:List Expr} {to:TE} {t:TA} {name:Str} {apos cpos:Pos} {T id:String} {r:V->List V->Hp->VK->Prop}
theorem Ya (pa:PlainAttrs T) (slot:Slot T name id) (hty:typeOf (.builtin id)=pure (.type "method_descriptor")) (hm:MtR X id r) (ho:PE X o to)
  (hbase:attributeBase o name X.env (eval o X.env)=eval o X.env:=by rfl) (hline:(apos.endLine == cpos.line)=true:=by rfl):PE X (.Call (.Attribute o name apos) [] [] cpos) (Xb X.K T r to):=by
 intro pins s σ H Q I h
 refine wpAny_Call_method0_late hbase hline (thn (ho pins s σ H _ I h) fun v s1 ⟨x,H1,I1,r1,ty,q1⟩=>?_)
 obtain ⟨h1,h2⟩:=Xv I1 r1 ty
 exact ⟨T,id,pa,slot,hty,h1,h2,Calls.callWith_builtin rfl (PySem.evalArgs_none (hm pins s1 σ H1 x [] v [] Q I1 r1 .nil q1))⟩
theorem Xn (pa:PlainAttrs T) (slot:Slot T name id) (hty:typeOf (.builtin id)=pure (.type "method_descriptor")) (hm:MtR X id r) (ho:PE X o to) (ha:PA X (e :: es) t)
  (hbase:attributeBase o name X.env (eval o X.env)=eval o X.env:=by rfl)
  (hfew:((backTo cpos (starEach (e :: es) X.env)).all (fun x=>!x.1) && (backToKw cpos (keywordEach [] X.env)).all (fun x=>x.1.isSome)
   && decide ((e :: es).length+([]:List Keyword).length+(if ([]:List Keyword).isEmpty then 0 else 1) < 30))=true:=by rfl)
  (hline:(apos.endLine == cpos.line)=true:=by rfl) (hs:starEach (e :: es) X.env=(false,eval e X.env) :: starEach es X.env:=by rfl) (hplain:(backTo cpos (starEach es X.env)).any (·.1)=false:=by rfl) :
  PE X (.Call (.Attribute o name apos) (e :: es) [] cpos) (tBM X.K T r to t):=by
 intro pins s σ H Q I h
 refine wpAny_Call_method_late hbase hfew hline rfl (thn (ho pins s σ H _ I h) fun v s1 ⟨x,H1,I1,r1,ty,q1⟩=>?_)
 obtain ⟨h1,h2⟩:=Xv I1 r1 ty
 refine ⟨T,id,pa,slot,hty,h1,h2,?_⟩
 have hA:=ha cpos pins s1 σ H1 _ I1 q1
 rw [hs] at hA ⊢
 refine Calls.callWith_builtin (by show (false || (backTo cpos (starEach es X.env)).any (·.1))=false;rw [hplain] <;> rfl) (Calls.evalArgs_plain ?_)
 exact thn hA fun us s2 ⟨vs,H2,I2,r2,q2⟩=>hm pins s2 σ H2 x vs v us Q I2 r1 r2 q2
end
end L2
namespace L2
open PySem PySem.Spec PyProof.Rows
noncomputable def MtM (X:Cx) (id:String) (r:V->List V->Hp->VK->Prop):Prop :=
 ∀ (pins:List (Addr×Obj)) (s:Shared) (σ:St) (H:Hp) (x:V) (xs:List V) (v:Value) (us:List Value) (Q:VK),Inv X pins σ H s->cV x v->cK xs us->r x xs H Q ->
  wpAny (model X.prog X.w) X.A (call (.builtin id) (v :: us)) (EP X pins σ Q) X.xe s
theorem cK.one:∀ {x:V} {us:List Value},cK [x] us->∃ u,us=[u]/\cV x u
 | _,_,.cons r .nil=>⟨_,rfl,r⟩
theorem cK.eraseIdx:∀ {xs:List V} {us:List Value} (i:Nat),cK xs us->cK (xs.eraseIdx i) (us.eraseIdx i)
 | _,_,_,.nil=>.nil
 | _,_,0,.cons _ t=>t
 | _,_,i+1,.cons r t=>.cons r (cK.eraseIdx i t)
theorem Jy {α:Type}:∀ (l:List α) (i:Nat),(l.eraseIdx i).length<=l.length
 | [],_=>Nat.le_refl _
 | _ :: _,0=>Nat.le_succ _
 | _ :: r,i+1=>Nat.succ_le_succ (Jy r i)
section
variable {X:Cx} {pins:List (Addr×Obj)} {σ:St} {H:Hp} {s:Shared} {l b:Addr} {xs ys zs:List V}
theorem Inv.lset {its its':List Value} {n:Nat} {f:Array Value->Array Value} {t':Nat} (I:Inv X pins σ H s) (hH:H l=some (.lst xs))
  (e:s.heap.get? l=some { cls:=.type "list",data:=.seq its.toArray n }) (hf:f its.toArray=its'.toArray) (hv:cK ys its') (hz:ys.length<=sizeLine) :
  Inv X pins σ (upd H l (.lst ys)) { s with heap:=s.heap.update l (Obj.mapSeq f),toks:=t' }:=by
 have q:=PySem.IsL.update e f
 rw [hf] at q
 refine I.write (x:=l) (e:=l) (by rw [hH];exact trivial) (.inl rfl) (fun b' u hb hu=>(Heap.get?_update_other s.heap (Obj.mapSeq f) (Ne.symm hb)).trans hu) ⟨_,q⟩ ?_
 exact ⟨hz,its',_,hv,q⟩
theorem Inv.lnew {its:List Value} {t':Nat} (I:Inv X pins σ H s) (hv:cK ys its) (hz:ys.length<=sizeLine) :
  Inv X pins σ (upd H s.heap.objs.size (.lst ys)) { s with heap:=s.heap.push { cls:=.type "list",data:=.seq its.toArray },toks:=t' } :=
 I.laid (fun _ _ q=>Heap.get?_push_of_some _ q) (Nat.le_refl _) ⟨hz,its,0,hv,Heap.get?_push_size _ rfl⟩
theorem Inv.fresh (I:Inv X pins σ H s):H s.heap.objs.size=none:=I.hok.fresh (Nat.le_refl _)
theorem Inv.lstM (I:Inv X pins σ H s) (hH:H l=some (.lst xs)):xs.length<=sizeLine/\∃ (its:List Value) (n:Nat),cK xs its/\xs.length=its.length/\s.heap.get? l=some { cls:=.type "list",data:=.seq its.toArray n }:=by
 obtain ⟨z,its,n,r,e⟩:=I.hok l _ hH
 exact ⟨z,its,n,r,r.length,e⟩
end
section
variable {X:Cx}
noncomputable def zG:V->List V->Hp->VK->Prop:=fun x vs H Q=>∃ l xs y,x=.ref l/\vs=[y]/\H l=some (.lst xs)/\xs.length < sizeLine/\Q .non (upd H l (.lst (xs ++ [y])))
theorem Jw:MtM X "list.append" zG:=by
 intro pins s σ H x vs v us Q I rx rv h
 obtain ⟨l,xs,y,rfl,rfl,hH,hz,q⟩:=h
 cases rx
 obtain ⟨u,rfl,ru⟩:=rv.one
 obtain ⟨z,its,n,r,hl,e⟩:=I.lstM hH
 refine call_meets F.slot_list_append ⟨_,e,rfl⟩ F.entry_list_append (F.args_list_append_2 _ _) (PySem.list_append l its.toArray n u (by rw [List.size_toArray];omega)) ⟨e,?_⟩
 refine ⟨.non,_,I.lset (its':=its ++ [u]) hH e (by simp) (r.append (.cons ru .nil)) ?_,rfl,q⟩
 rw [List.length_append,List.length_singleton]
 omega
noncomputable def rT:R2:=fun x y H Q=>∃ l b xs zs,x=.ref l/\y=.ref b/\H l=some (.lst xs)/\H b=some (.lst zs)/\xs.length+zs.length<=sizeLine/\∀ p,H p=none->Q (.ref p) (upd H p (.lst (xs ++ zs)))
theorem rW:OpR X (binaryOp .Add) rT:=by
 intro pins s σ H x y v u Q I rx ry h
 obtain ⟨l,b,xs,zs,rfl,rfl,hH,hB,hz,q⟩:=h
 cases rx
 cases ry
 obtain ⟨z,its,n,r,hl,e⟩:=I.lstM hH
 obtain ⟨z2,its2,n2,r2,hl2,e2⟩:=I.lstM hB
 refine PySem.P.add_list e e2 ?_ (by rw [List.size_toArray,List.size_toArray];omega)
 have ea:its.toArray ++ its2.toArray=(its ++ its2).toArray:=by simp
 rw [ea]
 exact ⟨.ref _,_,I.lnew (t':=s.toks) (r.append r2) (by rw [List.length_append];omega),rfl,q _ I.fresh⟩
end
section
variable {prog:Program} {w:World} {A:Around} {E:Value->Shared->Prop} {s:Shared}
end
section
variable {X:Cx}
end
end L2
namespace Att
open PySem PySem.W PySem.Calls PyProof.Rows
theorem Ei {P:Params} {h:Heap}:∀ (ns:List Int) (vs:List Value),WellAll P h vs (ns.map WData.int)->IntsAre vs ns:=by
 intro ns
 induction ns with
 | nil =>
  intro vs w
  rw [List.map_nil] at w
  cases w
  exact .nil
 | cons n ns ih =>
  intro vs w
  rw [List.map_cons] at w
  cases w with
  | cons a b =>
   cases a
   exact .cons _ _ (ih _ b)
theorem Vl {l:OpenLaw} {n:Nat} (hn:l.most=some n) {P:Params} {h:Heap} {args:List WData} {vals:List Value}
  (hpre:l.row.toRowW.claim.pre args=true) (hwl:WellAll P h vals args) :
  ∃ a vs ns,vals=[Value.ref a]/\args=[WData.list (ns.map WData.int)]/\h.get? a=some { cls:=.type "list",data:=.seq vs.toArray }/\IntsAre vs ns/\ns.length<=n:=by
 have hsh:WShape.hasAll [] args [.list .int]=true:=(pre_splitW hpre).1
 have hc:l.pre.holds [] { args:=args }=true:=(pre_splitW hpre).2
 obtain ⟨d,r,rfl,h1,h2⟩:=hasAllW_cons hsh
 obtain rfl:=hasAllW_nil h2
 obtain ⟨xs,rfl,h3⟩:=hasW_list h1
 obtain ⟨ns,rfl⟩:=items_int h3
 have hlen:ns.length<=n:=by
  unfold OpenLaw.pre at hc
  have h4:(WTm.not (.lt (.lit (.int (n:Int))) (.len (.arg 0)))).holds [] { args:=[.list (ns.map .int)] }=true:=by
   have h4:=(holds_andW hc).1
   rw [hn] at h4
   exact h4
  have h5:=condW_of h4 (w_not (w_lt w_lit (w_len_list (w_arg rfl))))
  rw [List.length_map] at h5
  refine Nat.le_of_not_lt fun q=>?_
  have q':(n:Int) < ((ns.length:Nat):Int):=by omega
  first
   | (rw [decide_eq_true q'] at h5;exact absurd h5 (by decide))
   | (simp at h5;omega)
 cases hwl with
 | cons w1 w2 =>
  cases w2
  cases w1 with
  | list ho hall=>exact ⟨_,_,ns,rfl,rfl,ho,Ei ns _ hall,hlen⟩
theorem Vw (l:OpenLaw) (args:List WData):l.row.toRowW.claim.post args (.bool true) args=true :=
 postW_of (r:=l.row.toRowW) (X:=(true == true))
  (show WShape.has [] (.bool true) .bool=true by first | rfl | decide | simp [WShape.has,WShape.arms,WShape.armsAll])
  (show (WTm.eq .res (.lit (.bool true))).value [] { args:=args,res:=some (.bool true),after:=args }=some (.bool (true == true)) from w_eq_bool (w_res rfl) w_lit) rfl
theorem attach_call {l:OpenLaw} {n:Nat} {q:Program} {loose:List Str} {XP:(Str->Option Value)->Heap->Prop} {YP:World->Heap->Prop} {d:DefRec}
  (hn:l.most=some n) (hdf:d.params.defaults=[])
  (call:∀ (w:World) (s₀ s₁:Shared) (mg mb:Str->Option Value) (fa:Addr) (o:Obj) (pm cd doc:Value) (a:Addr) (vs:List Value) (ns:List Int),
   Ground q loose [] XP w s₀ mg mb s₁.heap->YP w s₁.heap ->
   s₁.heap.get? fa=some o->o.data=.func (docDef d.name d.params d.body d.scope pm cd doc)->s₁.heap.CodeRec cd d.name->mg d.name=some (.ref fa) ->
   s₁.heap.get? a=some { cls:=.type "list",data:=.seq vs.toArray }->IntsAre vs ns->ns.length<=n->s₁.gens=#[] ->
   codeAny (model l.prog w) callerA (.call (.ref fa) ⟨[.ref a],[]⟩) (fun r s'=>r=.ok (.ret (.bool true))/\OldK s₁.heap s'.heap/\s'.os=s₁.os/\AllBare s'.gens) s₁) :
  WalkO q loose XP YP l.row.toRowW d [] (fun f vs=>PySem.call f vs):=by
 intro w s₀ s₁ mg mb G Y fa o pm cd doc dV kV ho hd hcd hD hmg hg args vals as hpre hlay hrd hwl hlo
 obtain rfl:dV=.none:=Dflts.none hD hdf
 obtain rfl:kV=.none:=Dflts.noKw hD
 obtain ⟨a,vs,ns,rfl,rfl,hobj,hints,hlen⟩:=Vl hn hpre hwl
 refine enter_call (codeAny_mono (call w s₀ s₁ mg mb fa o pm cd doc a vs ns G Y ho (fd_plain hd) hcd hmg hobj hints hlen hg) fun r s' hq=>?_)
 obtain ⟨rfl,h2,h3,h4⟩:=hq
 exact ⟨.inl ⟨.bool true,.bool true,[],rfl,fun _=>rfl,.bool true,Vw l _,fun _=>⟨List.Pairwise.nil,fun _ hm=>(nomatch hm)⟩⟩,h2,h3,h4⟩
section
variable {prog:Program} {w:World} {A:Around} {E:Value->Shared->Prop} {s:Shared} {K:Frag}
end
end Att
namespace L2
open PySem PySem.Spec PyProof.Rows
theorem Jf:∀ {vs:List Value} {ns:List Int},IntsAre vs ns->cK (ns.map V.int) vs
 | _,_,.nil=>.nil
 | _,_,.cons n t h=>.cons ⟨t,rfl⟩ (Jf h)
noncomputable def Only (H:Hp):Prop:=∀ b,H b=none∨∃ o xs,H b=some (.frz o (.lst xs))
theorem jJY {P:Program} {w:World} {K:PySem.W.Frag} {mg mb:Str->Option Value} {CX:CXT} {k:Nat} {fa a:Addr} {fd:FuncData} {x:Str} {sp:Sp} {s₁:Shared} {vs:List Value} {ns:List Int}
  (KX:K.In s₁.heap) (hns:s₁.heap.Ns mainGlobals mg) (hb:s₁.heap.Ns builtinsNs mb) (hbb:∀ x:Str,x ≠ "__name__" -> mb x=bootBuiltins x) (hlim:s₁.heap.NoLimit) (hg:s₁.gens=#[])
  (ha:s₁.heap.get? a=some { cls:=.type "list",data:=.seq vs.toArray }) (hi:IntsAre vs ns) (hl:ns.length<=sizeLine) (hr:nV k callerA)
  (F:∀ base:Heap,K.In base->base.Ns mainGlobals mg->cS P w K mg base CX k fa fd [x] sp) (hbind:∀ (s:Shared) (u:Value),BindsTo s fd ⟨[u],[]⟩ [(x,u)])
  (hsp:∀ H:Hp,Only H->SqL K H a (ns.map V.int)->sp [.ref a] H (fun v _=>v=.bl true) fun _ _ _=>False)
  (hCX:∀ H e s',CX [] H s₁ (fun _ _ _=>False) e s'->False) :
  codeAny (model P w) callerA (.call (.ref fa) ⟨[.ref a],[]⟩) (fun r s'=>r=.ok (.ret (.bool true))/\OldK s₁.heap s'.heap/\s'.os=s₁.os/\AllBare s'.gens) s₁:=by
 have rv:=Jf hi
 have lenV:=hi.length
 -- from an abstract heap in which nothing but the script may be tracked
 have core:∀ H:Hp,Only H->SqL K H a (ns.map V.int)->HOk P w H s₁.heap->(∀ b,H b≠none->b=a)->(H a≠none->K.lookup a=none) ->
   codeAny (model P w) callerA (.call (.ref fa) ⟨[.ref a],[]⟩) (fun r s'=>r=.ok (.ret (.bool true))/\OldK s₁.heap s'.heap/\s'.os=s₁.os/\AllBare s'.gens) s₁:=by
  intro H hO hS hok hA hK
  have base_of:∀ {b:Addr} {o:Obj},s₁.heap.get? b=some o->H b=none->(Kn s₁.heap H).get? b=some o:=fun e n=>jJa e n
  have noA:∀ {b:Addr} {o:Obj} {es:Array DictEntry} {ep:Nat},s₁.heap.get? b=some o->o.data=.dict es ep->H b=none:=fun {b o es ep} e d=>by
   cases q:H b with
   | none=>rfl
   | some u =>
    have e':b=a:=hA b (by rw [q];simp)
    subst e'
    rw [ha] at e;cases e
    have d':Data.seq vs.toArray _=Data.dict es ep:=d
    cases d'
  have nsK:∀ {b:Addr} {m:Str->Option Value},s₁.heap.Ns b m->(Kn s₁.heap H).Ns b m:=fun {b m} ⟨o,es,ep,e,d,r⟩=>⟨o,es,ep,base_of e (noA e d),d,r⟩
  have hKb:K.In (Kn s₁.heap H):=fun b o e=>base_of (KX b o e) (by
   cases q:H b with
   | none=>rfl
   | some u =>
    have e':b=a:=hA b (by rw [q];simp)
    subst e'
    rw [hK (by rw [q];simp)] at e;cases e)
  have hM:Mod K mg (Kn s₁.heap H):=⟨hKb,nsK hns,⟨mb,nsK hb,hbb⟩,let ⟨mc,h1,h2⟩:=hlim;⟨mc,nsK h1,h2⟩⟩
  have e0:Ql P w K mg (Kn s₁.heap H) callerA [] s₁ H:=⟨rfl,hM,fun b o e=>of_hidT e,Nat.le_of_eq (Ws _ _),trivial,fun b hb=>absurd (show b∈([]:List Addr) from hb) (by simp),hok,.of_eq hg⟩
  refine codeAny_mono ((F _ hKb (nsK hns)).run callerA [] s₁ H ⟨[.ref a],[]⟩ [.ref a] [.ref a] _ _ hr e0 (hbind s₁ (.ref a)) (.cons rfl .nil) (hsp H hO hS)) fun r s' h=>?_
  cases r with
  | error e=>exact (hCX H e s' h).elim
  | ok fl =>
   cases fl with
   | next=>exact False.elim h
   | brk=>exact False.elim h
   | cont=>exact False.elim h
   | ret u =>
    obtain ⟨v,H',os,bare,un,hok',r',q⟩:=h
    have q':v=.bl true:=q
    subst q'
    obtain rfl:u=Value.bool true:=r'
    refine ⟨rfl,OldK.of_keep fun b o e=>?_,os,bare⟩
    cases q:H b with
    | none=>exact un.keep b o e q (by intro z;exact absurd (show b∈([]:List Addr) from z) (by simp)) (by simp)
    | some u =>
     rcases hO b with z | ⟨ob,xs,z⟩
     ·rw [q] at z;cases z
     ·have z2:=un.frzs b ob _ z
      obtain ⟨e1,_⟩:=hok b _ z
      obtain ⟨e2,_⟩:=hok' b _ z2
      rw [e] at e1;cases e1
      exact e2
 cases hk:K.lookup a with
 | some o =>
  -- the script is one of the module's own objects
  have e:=KX a o hk
  rw [ha] at e
  cases e
  refine core (fun _=>none) (fun _=>.inl rfl) (.inr ⟨_,vs.toArray,_,hk,rfl,rfl,rfl,by rw [List.size_toArray,lenV];exact hl,by simpa using rv⟩) (fun b u z=>by have z':(none:Option HO)=some u:=z;cases z') (fun b z=>absurd rfl z) fun z=>absurd rfl z
 | none =>
  refine core (fun b=>if b=a then some (.frz { cls:=.type "list",data:=.seq vs.toArray } (.lst (ns.map V.int))) else none) (fun b=>?_) (.inl (.inr ⟨{ cls:=.type "list",data:=.seq vs.toArray },if_pos rfl⟩)) (fun b u z=>?_) (fun b z=>?_) fun _=>hk
  ·by_cases hb:b=a
   ·exact .inr ⟨_,_,if_pos hb⟩
   ·exact .inl (if_neg hb)
  ·by_cases hb:b=a
   ·have z':=(if_pos hb).symm.trans z
    cases z'
    subst hb
    exact ⟨ha,by rw [List.length_map];exact hl,vs,_,rv,ha⟩
   ·have z':=(if_neg hb).symm.trans z
    cases z'
  ·by_cases hb:b=a
   ·exact hb
   ·exact absurd (if_neg hb) z
end L2
namespace L2
open PySem PySem.Spec PyProof.Rows
theorem walk_of {l:PySem.W.OpenLaw} {n k:Nat} {q:Program} {loose:List Str} {XP:(Str->Option Value)->Heap->Prop} {YP:World->Heap->Prop} {d:DefRec} {K:Params->PySem.W.Frag} {CX:World->CXT} {sp:World->Sp} {x:Str}
  (hn:l.most=some n) (hn2:n<=sizeLine) (hdf:d.params.defaults=[]) (hr:nV k callerA)
  (hY:∀ (w:World) (h:Heap),YP w h->(K w.params).In h)
  (F:∀ (w:World) (mg:Str->Option Value) (fa:Addr) (h:Heap),(K w.params).In h->h.Ns mainGlobals mg->mg d.name=some (.ref fa) ->
   ∃ fd:FuncData,(∀ (s:Shared) (u:Value),BindsTo s fd ⟨[u],[]⟩ [(x,u)]) /\
    ∀ base:Heap,(K w.params).In base->base.Ns mainGlobals mg->cS l.prog w (K w.params) mg base (CX w) k fa fd [x] (sp w))
  (hsp:∀ (w:World) (H:Hp) (a:Addr) (ns:List Int),ns.length<=n->Only H->SqL (K w.params) H a (ns.map V.int)->sp w [.ref a] H (fun v _=>v=.bl true) fun _ _ _=>False)
  (hCX:∀ (w:World) (H:Hp) (s:Shared) (e:Value) (s':Shared),CX w [] H s (fun _ _ _=>False) e s'->False) :
  PySem.W.WalkO q loose XP YP l.row.toRowW d [] (fun f vs=>PySem.call f vs):=by
 refine Att.attach_call hn hdf fun w s₀ s₁ mg mb fa o pm cd doc a vs ns G Y ho hd hcd hmg hobj hints hlen hg=>?_
 have KX:=hY w _ Y
 obtain ⟨fd,hb,hF⟩:=F w mg fa _ KX G.T.g hmg
 exact jJY KX G.T.g G.T.b G.T.builtins G.T.nolimit hg hobj hints (Nat.le_trans hlen hn2) hr hF hb (fun H hO hS=>hsp w H a ns hlen hO hS) fun H e s'=>hCX w H s₁ e s'
end L2
namespace L2
open PySem PySem.Spec PyProof.Rows
noncomputable def jV (s:Stmt) (j:Nat):Stmt:=match s with
 | .ClassDef _ _ _ body _ _ _ _ _ _ _=>body.getD j (.Pass ⟨0,0,0,0⟩)
 | _=>.Pass ⟨0,0,0,0⟩
noncomputable def bE (s:Stmt):Arguments:=match s with
 | .FunctionDef _ a _ _ _ _ _ _ _ _=>a
 | _=>{ posonlyargs:=[],args:=[],vararg:=none,kwonlyargs:=[],kw_defaults:=[],kwarg:=none,defaults:=[] }
noncomputable def aZ (s:Stmt):List Stmt:=match s with
 | .FunctionDef _ _ b _ _ _ _ _ _ _=>b
 | _=>[]
noncomputable def aD (s:Stmt):Scope:=match s with
 | .FunctionDef _ _ _ _ _ _ sc _ _ _=>sc
 | _=>{ kind:=.function,names:=[],isGenerator:=false,isCoroutine:=false }
noncomputable abbrev CX0:CXT:=fun _ _ _ _ _ _=>False
noncomputable abbrev E0:XK:=fun _ _ _=>False
theorem aV {X:Cx}:yB CX0 X E0:=fun _ _ _ _ _ _ _ h=>h.elim
structure Fun (K:PySem.W.Frag) (x qual:Str) (st:Stmt) (f:Addr) (fd:FuncData):Prop where
 ex:∃ (oc:Value) (od:Option Addr) (kV doc pm:Value) (an:Option Addr) (cdv ct:Value) (osl:Array (Option Value)),
  fd=PySem.W.fnOf x qual (bE st) (aZ st) (aD st) .none kV doc pm an cdv ct/\K.lookup f=some ⟨oc,od,.func fd,osl⟩/\PySem.W.codeIn K cdv qual=true
 kp:PySem.W.keepIn K (.ref f)=true
section
variable {P:Program} {w:World} {K:PySem.W.Frag} {mg:Str->Option Value} {base:Heap}
theorem Fun.ok {x qual:Str} {st:Stmt} {f:Addr} {fd:FuncData} {N ps:List Str} {k:Nat} {sp:Sp} (F:Fun K x qual st f fd) (S:bF N ps (aD st)) (len:∀ vs H Q E,sp vs H Q E->vs.length=ps.length)
  (hbody:∀ (cdv:Value) (A:Around) (outer:List Env) (s:Shared) (H:Hp) (vs:List V) (Q:VK) (E:XK),nV k (A.deeper (envOfC qual (aD st) s.heap.objs.size f cdv))->sp vs H Q E ->
   ∃ t,PSs (Vf CX0 P w K mg base N qual (aD st) f cdv A outer s H E).nox (aZ st) t/\t { nx:=fun _ H'=>Q .non H',rt:=Q } (start N vs) H):cS P w K mg base CX0 (k+1) f fd ps sp:=by
 obtain ⟨oc,od,kV,doc,pm,an,cdv,ct,osl,rfl,lk,hcd⟩:=F.ex
 refine fn_of lk hcd S len fun A outer s H vs Q E hr hsp=>?_
 obtain ⟨t,h,q⟩:=hbody cdv A outer s H vs Q E hr hsp
 exact ⟨t,h.nox,q⟩
theorem Fun.binds {x qual:Str} {st:Stmt} {f:Addr} {fd:FuncData} {ps:List Str} (F:Fun K x qual st f fd)
  (h:∀ (kV doc pm:Value) (an:Option Addr) (cdv ct:Value) (us:List Value),us.length=ps.length->bindArgs (PySem.W.fnOf x qual (bE st) (aZ st) (aD st) .none kV doc pm an cdv ct) ⟨us,[]⟩=pure (ps.zip us)):uD K fd ps []:=by
 obtain ⟨oc,od,kV,doc,pm,an,cdv,ct,osl,rfl,lk,hcd⟩:=F.ex
 exact .all (h kV doc pm an cdv ct)
theorem bW {x qual:Str} {st:Stmt} {f:Addr} {oc:Value} {od an:Option Addr} {osl:Array (Option Value)} {kV doc pm cdv ct:Value} (l:K.lookup f=some ⟨oc,od,.func (PySem.W.fnOf x qual (bE st) (aZ st) (aD st) .none kV doc pm an cdv ct),osl⟩)
  (c:PySem.W.codeIn K cdv qual=true) (k:PySem.W.keepIn K (.ref f)=true):Fun K x qual st f (PySem.W.fnOf x qual (bE st) (aZ st) (aD st) .none kV doc pm an cdv ct):=⟨⟨oc,od,kV,doc,pm,an,cdv,ct,osl,rfl,l,c⟩,k⟩
end
section
variable {X:Cx}
theorem pv (i:Nat) {x:Str} {pos:Pos} (hN:X.N[i]?=some x:=by rfl) (hv:Vis X.env.scope x:=by first | exact Or.inl rfl | exact Or.inr (Or.inl rfl) | exact Or.inr (Or.inr rfl)) (hd:(x == ("__debug__" : Str))=false:=by decide)
  (hcd:(x == ("__classdict__" : Str))=false:=by decide):PE X (.Name x pos) (aB i):=pe_var hN hv hd hcd
end
theorem tV {A B:Prop} (h:B):if false=true then A else B:=by
 rw [if_neg Bool.false_ne_true]
 exact h
theorem Qj {A B:Prop} (h:A):if true=true then A else B:=by
 rw [if_pos rfl]
 exact h
theorem jY {c A B:Prop} [Decidable c] (h1:c->A) (h2:¬ c->B):if c then A else B:=by
 by_cases h:c
 ·rw [if_pos h]
  exact h1 h
 ·rw [if_neg h]
  exact h2 h
noncomputable def aI (H H':Hp):Prop:=∀ b o,H b=some o->H' b=some o
theorem aI.refl (H:Hp):aI H H:=fun _ _ h=>h
theorem aI.trans {H H1 H2:Hp} (a:aI H H1) (b:aI H1 H2):aI H H2:=fun c o h=>b c o (a c o h)
theorem aI.free {H H':Hp} (e:aI H H') {l:Addr} (h:H' l=Option.none):H l=Option.none:=by
 cases q:H l with
 | none=>rfl
 | some o =>
  rw [e l o q] at h
  cases h
theorem aI.seq {K:PySem.W.Frag} {H H':Hp} {a:Addr} {xs:List V} (e:aI H H') (h:SqL K H a xs):SqL K H' a xs:=by
 rcases h with (h | ⟨o,h⟩) | h
 ·exact .inl (.inl (e _ _ h))
 ·exact .inl (.inr ⟨o,e _ _ h⟩)
 ·exact .inr h
end L2
set_option Elab.async false
set_option linter.all false
set_option maxRecDepth 100000
set_option maxHeartbeats 4000000
namespace L2
open PySem PySem.Spec PyProof.Rows
section
variable {κ:Type} [DecidableEq κ]
end
section
variable {P:Program} {w:World} {H:Hp} {h:Heap} {a:Addr}
end
section
variable {X:Cx} {pins:List (Addr×Obj)} {σ:St} {H:Hp} {s:Shared} {a:Addr} {y v:V} {u r:Value} {o:Option V} {A:Around} {E:Value->Shared->Prop}
end
section
variable {X:Cx} {pins:List (Addr×Obj)} {σ:St} {H:Hp} {s:Shared} {a:Addr} {kvs:List (Key×V)} {k:Key} {u:Value} {A:Around} {E:Value->Shared->Prop}
end
section
variable {X:Cx} {o i e value:Expr} {pos pos' tpos:Pos} {td ty tv:TE}
end
section
variable {X:Cx} {pos:Pos}
end
section
variable {X:Cx} {pins:List (Addr×Obj)} {σ:St} {H:Hp} {s:Shared} {a:Addr} {y d:V} {u r:Value} {o:Option V} {A:Around} {E:Value->Shared->Prop}
end
section
variable {X:Cx} {o e f:Expr} {apos cpos:Pos} {td ty tx:TE}
end
section
variable {X:Cx} {pins:List (Addr×Obj)} {σ:St} {H:Hp} {s:Shared} {a:Addr} {kvs:List (Key×V)} {A:Around} {E:Value->Shared->Prop}
end
section
variable {X:Cx} {pins:List (Addr×Obj)} {σ:St} {H:Hp} {s:Shared} {a:Addr} {y:V} {u:Value} {A:Around} {E:Value->Shared->Prop}
end
end L2
namespace L2
open PySem
noncomputable def BB (n:Nat) (i:Int):Prop:=i.natAbs < 2 ^ n
noncomputable def zB (i j:Int):Prop:=∃ m n,m+n<=100000000/\((BB m i/\BB n j)∨BB 64 i∨BB 64 j)
noncomputable def CDivB (_ j:Int):Prop:=j≠0/\BB 9000 j
noncomputable def gP:R2:=rI0 fun i j=>.int (i+j)
noncomputable def kH:R2:=rI0 fun i j=>.int (i - j)
noncomputable def cH:R2:=rI zB fun i j=>.int (i * j)
noncomputable def gL:R2:=rI CDivB fun i j=>.int (i.fdiv j)
noncomputable def Cv:R2:=rI CDiv fun i j=>.int (i / j)
noncomputable def eY:R2:=rI (fun _ j=>0 < j) fun i j=>.int (i % j)
noncomputable def tY:R2:=rI CPow fun i j=>.int (i ^ j.toNat)
noncomputable def eX:V->Hp->VK->Prop:=rU fun i=>.int (-i)
noncomputable def iJ:R2:=rI0 fun i j=>.bl (decide (i < j))
noncomputable def Xe:R2:=rI0 fun i j=>.bl (decide (i<=j))
noncomputable def xN:R2:=rI0 fun i j=>.bl (decide (j < i))
noncomputable def Ve:R2:=rI0 fun i j=>.bl (decide (j<=i))
noncomputable def Bd:List V->Hp->VK->Prop:=fun xs H Q=>∃ i,xs=[.int i]/\Q (.int (if i < 0 then -i else i)) H
noncomputable def gO (K:PySem.W.Frag):List V->Hp->VK->Prop:=fun xs H Q=>∃ p ys,xs=[.ref p]/\(SqL K H p ys∨SqT K H p ys)/\Q (.int ys.length) H
noncomputable def isB (x:V) (H:Hp) (T:String) (b:Bool):Prop:=match x with
 | .int _=>(T="int" /\ b=true)∨(T="bool" /\ b=false)
 | .bl _=>T="bool" /\ b=true
 | .ref p=>T="tuple" /\ b=true/\∃ xs,H p=some (.tup xs)
 | _=>False
noncomputable def Hz:List V->Hp->VK->Prop:=fun xs H Q=>∃ x T b,xs=[x,.ty T]/\isB x H T b/\Q (.bl b) H
theorem BB.mono {m n:Nat} {i:Int} (h:BB m i) (hm:m<=n):BB n i:=Nat.lt_of_lt_of_le h (Nat.pow_le_pow_right (by decide) hm)
theorem zB.l {i j:Int} (h:BB 64 i):zB i j:=⟨0,0,by decide,.inr (.inl h)⟩
theorem zB.r {i j:Int} (h:BB 64 j):zB i j:=⟨0,0,by decide,.inr (.inr h)⟩
theorem aI.tup {K:PySem.W.Frag} {H H':Hp} {a:Addr} {xs:List V} (e:aI H H') (h:SqT K H a xs):SqT K H' a xs:=by
 rcases h with (h | ⟨o,h⟩) | h
 ·exact .inl (.inl (e _ _ h))
 ·exact .inl (.inr ⟨o,e _ _ h⟩)
 ·exact .inr h
theorem vV {i:Nat} {σ:St} {H:Hp} {Q:VK} (h:aB i σ H Q):∃ v,σ[i]?=some (some v)/\Q v H:=by
 first
 | exact h
 | (unfold aB at h
    split at h
    ·exact ⟨_,‹_›,h⟩
    ·exact h.elim)
theorem vU {i:Nat} {σ:St} {H:Hp} {Q:VK} {v:V} (e:σ[i]?=some (some v)) (q:Q v H):aB i σ H Q:=by
 first
 | exact ⟨v,e,q⟩
 | (unfold aB
    rw [e]
    exact q)
theorem aI.upd {H:Hp} {p:Addr} {o:HO} (h:H p=none):aI H (upd H p o):=fun b u e=>by
 rw [cA (bT e h)];exact e
theorem BB.of_le {n:Nat} {i j:Int} (h:BB n j) (hl:i.natAbs<=j.natAbs):BB n i:=Nat.lt_of_le_of_lt hl h
theorem BB.mul {m n:Nat} {i j:Int} (hi:BB m i) (hj:BB n j):BB (m+n) (i * j):=by
 unfold BB at *
 rw [Int.natAbs_mul,Nat.pow_add]
 exact Nat.mul_lt_mul_of_lt_of_lt hi hj
theorem BB.add {n:Nat} {i j:Int} (hi:BB n i) (hj:BB n j):BB (n+1) (i+j):=by
 unfold BB at *
 rw [Nat.pow_succ]
 omega
theorem BB.gcd {n:Nat} {i j:Int} (hj:BB n j) (h0:j≠0):BB n (Int.gcd i j:Nat):=by
 refine hj.of_le ?_
 rw [Int.natAbs_natCast]
 exact Int.gcd_le_natAbs_right _ h0
theorem BB.neg {n:Nat} {i:Int} (h:BB n i):BB n (-i):=by unfold BB at *;rwa [Int.natAbs_neg]
theorem zB.b {m n:Nat} {i j:Int} (hi:BB m i) (hj:BB n j) (h:m+n<=100000000:=by decide):zB i j:=⟨m,n,h,.inl ⟨hi,hj⟩⟩
noncomputable def aQ (σ:St) (caps:List Nat):St:=caps.map fun j=>(σ[j]?).join
noncomputable def qC (J:It) (σ:St) (caps:List Nat) (te:TE) (H1:Hp) (fin:List V->Hp->Prop):Prop :=
 ∃ (n:Nat) (W:Nat->List V->Hp->Prop),n<=sizeLine/\W 0 [] H1/\∀ i ys H2,i<=n->ys.length=i->W i ys H2 ->
  (J.stop i H2/\fin ys H2)∨(i < n/\J.go i H2/\∀ x H3,J.yld i H2 x H3->te (some x :: aQ σ caps) H3 fun y H4=>W (i+1) (ys ++ [y]) H4)
noncomputable def bO (wi:TI) (caps:List Nat) (te:TE):TE:=fun σ H Q=>wi σ H fun J H1=>qC J σ caps te H1 fun ys H2=>∀ p,H2 p=none->Q (.ref p) (upd H2 p (.lst ys))
noncomputable def Ite (K:PySem.W.Frag) (a:Addr):It :=
 ⟨fun i H=>∃ xs x,SqL K H a xs/\xs[i]?=some x,fun i H v H'=>∃ p x,v=.ref p/\H p=none/\H'=upd H p (.tup [.int i,x])/\∀ xs,SqL K H a xs->xs[i]?=some x,fun i H=>∃ xs,SqL K H a xs/\xs.length<=i⟩
noncomputable def Fe (K:PySem.W.Frag) (tl:TE):TI:=fun σ H R=>tl σ H fun x H1=>∃ a,x=.ref a/\(∃ xs,SqL K H1 a xs)/\R (Ite K a) H1
theorem Pf {K:PySem.W.Frag} {a:Addr} {xs:List V} {g:TG} {tb:TS} {D:Be} {σ:St} {H:Hp} (Pv:Nat->St->Hp->Prop) (h0:Pv 0 σ H) (hl:∀ i σ H,i<=xs.length->Pv i σ H->SqL K H a xs)
  (hs:∀ i x p σ H,xs[i]?=some x->Pv i σ H->H p=none->g (.ref p) σ (upd H p (.tup [.int i,x])) fun σ2 H2=>tb { D with nx:=Pv (i+1),ct:=Pv (i+1),bk:=D.nx } σ2 H2) (hd:∀ σ H,Pv xs.length σ H->D.nx σ H) :
  ∃ W:Nat->Nat->St->Hp->Prop,(∃ m,W 0 m σ H)/\∀ i m σ H,W i m σ H ->
   ((Ite K a).stop i H/\D.nx σ H)∨((Ite K a).go i H/\∃ N:St->Hp->Prop,(∀ σ' H',N σ' H'->∃ m',m' < m/\W (i+1) m' σ' H')/\∀ x H',(Ite K a).yld i H x H'->g x σ H' fun σ2 H2=>tb { D with nx:=N,ct:=N,bk:=D.nx } σ2 H2):=by
 refine ⟨fun i m σ H=>m=xs.length - i/\i<=xs.length/\Pv i σ H,⟨xs.length,by simp,Nat.zero_le _,h0⟩,?_⟩
 rintro i m σ H ⟨rfl,hi,p⟩
 have q:=hl i σ H hi p
 by_cases hlt:i < xs.length
 ·refine .inr ⟨⟨xs,xs[i],q,by simp [hlt]⟩,Pv (i+1),fun σ' H' p'=>⟨xs.length - (i+1),by omega,rfl,hlt,p'⟩,fun x H' y=>?_⟩
  obtain ⟨pp,z,e1,e2,e3,y⟩:=y
  subst e1 e3
  exact hs i z pp σ _ (y xs q) p e2
 ·have e:i=xs.length:=by omega
  subst e
  exact .inl ⟨⟨xs,q,Nat.le_refl _⟩,hd σ H p⟩
theorem bX {K:PySem.W.Frag} {a:Addr} {xs:List V} {σ:St} {caps:List Nat} {te:TE} {H1:Hp} {fin:List V->Hp->Prop} (W:Nat->List V->Hp->Prop) (hz:xs.length<=sizeLine) (h0:W 0 [] H1) (hl:∀ i ys H,i<=xs.length->W i ys H->SqL K H a xs)
  (hs:∀ i x ys H,xs[i]?=some x->ys.length=i->W i ys H->te (some x :: aQ σ caps) H fun y H4=>W (i+1) (ys ++ [y]) H4) (hd:∀ ys H,ys.length=xs.length->W xs.length ys H->fin ys H):qC (Itl K a) σ caps te H1 fin:=by
 refine ⟨xs.length,W,hz,h0,fun i ys H2 hi hy hw=>?_⟩
 have q:=hl i ys H2 hi hw
 by_cases hlt:i < xs.length
 ·refine .inr ⟨hlt,⟨xs,xs[i],q,by simp [hlt]⟩,fun x H3 y=>?_⟩
  obtain ⟨e,y⟩:=y
  subst e
  exact hs i x ys _ (y xs q) hy hw
 ·have e:i=xs.length:=by omega
  subst e
  exact .inl ⟨⟨xs,q,Nat.le_refl _⟩,hd ys H2 hy hw⟩
theorem iN {lo:Int} {n:Nat} {σ:St} {caps:List Nat} {te:TE} {H1:Hp} {fin:List V->Hp->Prop} (W:Nat->List V->Hp->Prop) (hz:n<=sizeLine) (h0:W 0 [] H1)
  (hs:∀ i ys H,i < n->ys.length=i->W i ys H->te (some (.int (lo+i)) :: aQ σ caps) H fun y H4=>W (i+1) (ys ++ [y]) H4) (hd:∀ ys H,ys.length=n->W n ys H->fin ys H):qC (Itr lo n) σ caps te H1 fin:=by
 refine ⟨n,W,hz,h0,fun i ys H2 hi hy hw=>?_⟩
 by_cases hlt:i < n
 ·refine .inr ⟨hlt,hlt,fun x H3 y=>?_⟩
  obtain ⟨e1,e2⟩:=y
  subst e1 e2
  exact hs i ys _ hlt hy hw
 ·have e:i=n:=by omega
  subst e
  exact .inl ⟨Nat.le_refl _,hd ys H2 hy hw⟩
noncomputable def Fc (K:PySem.W.Frag):List V->Hp->VK->Prop:=fun xs H Q=>∃ p ns,xs=[.ref p]/\SqL K H p (List.map V.int ns)/\Q (.int ns.sum) H
noncomputable def Xh:List V->Hp->VK->Prop:=fun xs H Q=>∃ i j,xs=[.int i,.int j]/\Q (.int (if j > i then j else i)) H
noncomputable def Xg:List V->Hp->VK->Prop:=fun xs H Q=>∃ i j,xs=[.int i,.int j]/\Q (.int (if j < i then j else i)) H
noncomputable def To (K:PySem.W.Frag):List V->Hp->VK->Prop:=fun xs H Q=>∃ p ys,xs=[.ref p]/\(SqL K H p ys∨SqT K H p ys)/\∀ l,H l=none->Q (.ref l) (upd H l (.lst ys))
theorem aI.put {H H':Hp} {p:Addr} {o:HO} (s:aI H H') (h:H p=none):aI H (L2.upd H' p o):=fun b u e=>by
 rw [cA (bT e h)];exact s b u e
theorem SqT.off {K:PySem.W.Frag} {H:Hp} {p r:Addr} {xs ys zs:List V} (h:SqT K H p xs) (hr:H r=some (.lst ys)):SqT K (upd H r (.lst zs)) p xs:=by
 rcases h with (h | ⟨o,h⟩) | h
 ·exact .inl (.inl (by rw [cA (Jc h hr (by intro z;cases z))];exact h))
 ·exact .inl (.inr ⟨o,by rw [cA (Jc h hr (by intro z;cases z))];exact h⟩)
 ·exact .inr h
end L2
namespace L2
open PySem PySem.Spec PyProof.Rows
theorem bt_int:bootBuiltins "int" = some (.type "int"):=by decide +kernel
theorem bt_bool:bootBuiltins "bool" = some (.type "bool"):=by decide +kernel
theorem Pi:bootBuiltins "tuple" = some (.type "tuple"):=by decide +kernel
theorem Ey:bootBuiltins "list" = some (.type "list"):=by decide +kernel
theorem Fq:bootBuiltins "abs" = some (.builtin "abs"):=by decide +kernel
theorem dR:bootBuiltins "len" = some (.builtin "len"):=by decide +kernel
theorem jU:bootBuiltins "isinstance" = some (.builtin "isinstance"):=by decide +kernel
theorem Fp:bootBuiltins "max" = some (.builtin "max"):=by decide +kernel
theorem Fo:bootBuiltins "min" = some (.builtin "min"):=by decide +kernel
theorem Fn:bootBuiltins "sum" = some (.builtin "sum"):=by decide +kernel
theorem mW {n:Nat} {k:Int} (h:BB n k):Builtin.Int.intBits k<=n:=by
 unfold Builtin.Int.intBits
 split
 ·exact Nat.zero_le _
 ·rename_i h0
  have hp:k.natAbs≠0:=by simpa using h0
  have h2:=(Nat.log2_lt hp).mpr h
  omega
theorem zB.ok {i j:Int} (h:zB i j):IntMulOk i j:=by
 obtain ⟨m,n,hz,⟨h1,h2⟩ | h1 | h1⟩:=h
 ·exact IntMulOk.of_le (mW h1) (mW h2) (by omega)
 ·exact .of_left (mW h1)
 ·exact .of_right (mW h1)
theorem noPyB {i j:Int} (h:BB 9000 j):Builtin.divisionGoesByPylong i j=false:=by
 refine PyProof.noPylong_of_log2 ?_
 by_cases h0:j.natAbs=0
 ·rw [h0];decide +kernel
 ·exact (Nat.log2_lt h0).mpr h
section
variable {X:Cx}
theorem cD:OpR X (binaryOp .Mult) cH:=opI fun _ _ _ _ _ _ _ hc q=>mul_int q hc.ok
theorem fQ:OpR X (binaryOp .FloorDiv) gL:=opI fun _ _ _ _ _ _ _ hc q=>floordiv_int hc.1 q (.inl (noPyB hc.2))
theorem kit_ii (K:PySem.W.Frag):PySem.W.kitOne K (.type "int") (.type "int")=some true:=by rfl
theorem kit_ib (K:PySem.W.Frag):PySem.W.kitOne K (.type "int") (.type "bool")=some false:=by rfl
theorem kit_bb (K:PySem.W.Frag):PySem.W.kitOne K (.type "bool") (.type "bool")=some true:=by rfl
theorem Yg (K:PySem.W.Frag):PySem.W.kitOne K (.type "tuple") (.type "tuple")=some true:=by rfl
theorem Gh:qL X (.builtin "isinstance") Hz:=by
 intro pins s σ H xs us Q I r h
 obtain ⟨x,T,b,rfl,hb,q⟩:=h
 obtain ⟨u,c,rfl,ru,rc⟩:=Nx r
 obtain rfl:c=Value.type T:=rc
 have fin:∀ tk,EP X pins σ Q (.bool b) { s with toks:=tk }:=fun tk=>⟨.bl b,H,I.tok _,rfl,q⟩
 cases x with
 | int i =>
  rcases hb with ⟨rfl,rfl⟩ | ⟨rfl,rfl⟩
  ·exact qU I ru (.int i) (kit_ii _) fin
  ·exact qU I ru (.int i) (kit_ib _) fin
 | bl i =>
  obtain ⟨rfl,rfl⟩:=hb
  exact qU I ru (.bl i) (kit_bb _) fin
 | ref p =>
  obtain ⟨rfl,rfl,xs,hp⟩:=hb
  exact qU I ru (.tup hp) (Yg _) fin
 | _=>exact (show False from hb).elim
end
end L2
namespace L2
open PySem PySem.Spec PyProof.Rows
noncomputable def lQ (env:Env):List (Str×NameKind)->List (Str×Addr)->List (Str×Addr)
 | [],cs=>cs
 | (n,k) :: r,cs=>lQ env r (if (k == NameKind.free)=true then (n,(env.cells.lookup n).getD 0) :: cs else cs)
theorem iB {scope:Scope} {env:Env} (h:∀ p∈scope.names,p.2=.free->∃ c,env.cells.lookup p.1=some c):closureFor scope env=pure (lQ env scope.names []):=by
 have go:∀ (f:Str×NameKind->List (Str×Addr)->Sem (ForInStep (List (Str×Addr)))),(∀ n k cs,f (n,k) cs=if (k == NameKind.free)=true then (cellOf env n >>= fun a=>pure (ForInStep.yield ((n,a) :: cs))) else pure (ForInStep.yield cs)) ->
   ∀ (l:List (Str×NameKind)) (cs:List (Str×Addr)),(∀ p∈l,p.2=.free->∃ c,env.cells.lookup p.1=some c)->(forIn l cs f:Sem _)=pure (lQ env l cs):=by
  intro f hf l
  induction l with
  | nil=>intro cs _;rfl
  | cons p r ih =>
   intro cs hl
   obtain ⟨n,k⟩:=p
   have hr:∀ p∈r,p.2=.free->∃ c,env.cells.lookup p.1=some c:=fun p hp=>hl p (List.mem_cons_of_mem _ hp)
   rw [List.forIn_cons,hf]
   by_cases hk:(k == NameKind.free)=true
   ·obtain ⟨c,hc⟩:=hl (n,k) List.mem_cons_self (by simpa using hk)
    have hc':env.cells.lookup n=some c:=hc
    have e:cellOf env n=pure c:=by unfold cellOf;rw [hc']
    rw [if_pos hk,e,pure_bind,pure_bind]
    dsimp only
    rw [ih _ hr]
    have e2:lQ env ((n,k) :: r) cs=lQ env r ((n,c) :: cs):=by
     show lQ env r (if (k == NameKind.free)=true then (n,(env.cells.lookup n).getD 0) :: cs else cs)=_
     rw [if_pos hk,hc'];rfl
    rw [e2]
   ·rw [if_neg hk,pure_bind]
    dsimp only
    rw [ih _ hr]
    have e2:lQ env ((n,k) :: r) cs=lQ env r cs:=by
     show lQ env r (if (k == NameKind.free)=true then (n,(env.cells.lookup n).getD 0) :: cs else cs)=_
     rw [if_neg hk]
    rw [e2]
 unfold closureFor
 show (forIn scope.names [] _ >>= fun s=>pure s)=_
 rw [go _ (fun n k cs=>by rfl) scope.names [] h,pure_bind]
theorem sQ {env:Env}:∀ {l:List (Str×NameKind)} {cs:List (Str×Addr)},(∀ p∈l,p.2=.free->∃ c,env.cells.lookup p.1=some c)->(∀ p∈cs,env.cells.lookup p.1=some p.2)->∀ p∈lQ env l cs,env.cells.lookup p.1=some p.2
 | [],_,_,h,p,hp=>h p hp
 | (n,k) :: r,cs,hl,h,p,hp=>by
  refine sQ (l:=r) (fun q hq=>hl q (List.mem_cons_of_mem _ hq)) (fun q hq=>?_) p hp
  by_cases hk:(k == NameKind.free)=true
  ·rw [if_pos hk] at hq
   rcases List.mem_cons.mp hq with rfl | hq
   ·obtain ⟨c,hc⟩:=hl (n,k) List.mem_cons_self (by simpa using hk)
    have hc':env.cells.lookup n=some c:=hc
    show env.cells.lookup n=some ((env.cells.lookup n).getD 0)
    rw [hc'];rfl
   ·exact h q hq
  ·rw [if_neg hk] at hq
   exact h q hq
theorem Dy {env:Env} {y:Str}:∀ {l:List (Str×NameKind)} {cs:List (Str×Addr)},y∈cs.map (·.1)->y∈(lQ env l cs).map (·.1)
 | [],_,h=>h
 | (n,k) :: r,cs,h=>by
  refine Dy (l:=r) ?_
  by_cases hk:(k == NameKind.free)=true
  ·rw [if_pos hk];exact List.mem_cons_of_mem _ h
  ·rw [if_neg hk];exact h
theorem kD {env:Env} {y:Str}:∀ {l:List (Str×NameKind)} {cs:List (Str×Addr)},(y,NameKind.free)∈l->y∈(lQ env l cs).map (·.1)
 | [],_,h=>nomatch h
 | (n,k) :: r,cs,h=>by
  rcases List.mem_cons.mp h with e | h
  ·cases e
   refine Dy (l:=r) ?_
   rw [if_pos (by rfl)]
   exact List.mem_cons_self
  ·exact kD (l:=r) h
theorem gF {α:Type} {y:Str}:∀ {l:List (Str×α)},y∈l.map (·.1)->∃ c,l.lookup y=some c
 | [],h=>nomatch h
 | (n,c) :: r,h=>by
  cases hx:y == n with
  | true=>exact ⟨c,by simp only [List.lookup_cons,hx]⟩
  | false =>
   have h':y∈r.map (·.1):=by
    rcases List.mem_cons.mp h with e | h
    ·have e':y=n:=e
     rw [e'] at hx;simp at hx
    ·exact h
   obtain ⟨c',e⟩:=gF h'
   exact ⟨c',by simp only [List.lookup_cons,hx];exact e⟩
theorem jF {env:Env} (hk:env.scope.kind=.function):∀ {names:List (Str×NameKind)} {y:Str},names.lookup y=some .free->env.kindOf y=some .cell ->
  (names.map fun (n,k)=>if (k == NameKind.free && env.scope.kind == .function && env.kindOf n == some .cell) then (n,NameKind.cell) else (n,k)).lookup y=some .cell
 | [],_,h,_=>by simp at h
 | (n,k) :: r,y,h,hc=>by
  have ih:=@jF env hk r y
  show List.lookup y ((if (k == NameKind.free && env.scope.kind == .function && env.kindOf n == some .cell)=true then (n,NameKind.cell) else (n,k)) :: _)=_
  cases hx:y == n with
  | true =>
   simp only [List.lookup_cons,hx] at h
   cases h
   have e:y=n:=by simpa using hx
   subst e
   have ht:(NameKind.free == NameKind.free && env.scope.kind == .function && env.kindOf y == some .cell)=true:=by rw [hk,hc];rfl
   rw [if_pos ht];simp only [List.lookup_cons,hx]
  | false =>
   simp only [List.lookup_cons,hx] at h
   by_cases hc':(k == NameKind.free && env.scope.kind == .function && env.kindOf n == some .cell)=true
   ·rw [if_pos hc'];simp only [List.lookup_cons,hx];exact ih h hc
   ·rw [if_neg hc'];simp only [List.lookup_cons,hx];exact ih h hc
theorem yJ {env:Env}:∀ {names:List (Str×NameKind)} {y:Str},(∀ p∈names,p.2≠.cell) ->
  (∃ k,(names.map fun (n,k)=>if (k == NameKind.free && env.scope.kind == .function && env.kindOf n == some .cell) then (n,NameKind.cell) else (n,k)).lookup y=some k/\(k=.cell∨k=.free))->(y,NameKind.free)∈names
 | [],_,_,⟨_,h,_⟩=>by simp at h
 | (n,k) :: r,y,hn,⟨kk,h,hkk⟩=>by
  have h:List.lookup y ((if (k == NameKind.free && env.scope.kind == .function && env.kindOf n == some .cell)=true then (n,NameKind.cell) else (n,k)) :: r.map fun (n,k)=>if (k == NameKind.free && env.scope.kind == .function && env.kindOf n == some .cell) then (n,NameKind.cell) else (n,k))=some kk:=h
  have ih:=@yJ env r y fun p hp=>hn p (List.mem_cons_of_mem _ hp)
  cases hx:y == n with
  | true =>
   have e:y=n:=by simpa using hx
   subst e
   by_cases hc':(k == NameKind.free && env.scope.kind == .function && env.kindOf y == some .cell)=true
   ·have hf:k=.free:=by
     rw [Bool.and_eq_true,Bool.and_eq_true] at hc'
     simpa using hc'.1.1
    rw [hf];exact List.mem_cons_self
   ·rw [if_neg hc'] at h
    simp only [List.lookup_cons,hx] at h
    have e2:k=kk:=Option.some.inj h
    subst e2
    rcases hkk with z | z
    ·exact absurd z (hn (y,k) List.mem_cons_self)
    ·rw [z];exact List.mem_cons_self
  | false =>
   have h2:(r.map fun (n,k)=>if (k == NameKind.free && env.scope.kind == .function && env.kindOf n == some .cell) then (n,NameKind.cell) else (n,k)).lookup y=some kk:=by
    by_cases hc':(k == NameKind.free && env.scope.kind == .function && env.kindOf n == some .cell)=true
    ·rw [if_pos hc'] at h;simp only [List.lookup_cons,hx] at h;exact h
    ·rw [if_neg hc'] at h;simp only [List.lookup_cons,hx] at h;exact h
   exact List.mem_cons_of_mem _ (ih ⟨kk,h2,hkk⟩)
structure iM (FS scope:Scope) (N:List Str) (x:Str) (ys:List Str) (caps:List Nat):Prop where
 ncell:∀ y∈scope.names,y.2≠.cell
 kind:scope.kind=.function
 names:∀ y∈scope.names,y.2=.local->scope.names.lookup y.1=some .local
 loc:scope.names.lookup x=some .local
 fr:∀ p∈scope.names,p.2=.free->FS.names.lookup p.1=some .cell
 fk:FS.kind=.function
 cap:∀ p∈ys.zip caps,N[p.2]?=some p.1/\scope.names.lookup p.1=some .free
 len:ys.length=caps.length
 nd:(x :: ys).Nodup
noncomputable abbrev fB (X:Cx) (scope:Scope):List (Str×Addr):=lQ X.env scope.names []
noncomputable def cL (X:Cx) (scope:Scope) (NY:List Str) (s:Shared) (H:Hp) (ex:List Addr) (pn:List (Addr×Obj)):Cx :=
 { X with N:=NY,s₀:=s,H₀:=H,env:=compEnvC scope (fB X scope) s.heap.objs.size X.env,outer:=X.stack,stack:=X.stack,ex:=ex,fn:=fun _=>false,pn:=pn,xe:=fun _ _=>False }
section
variable {X:Cx} {pins:List (Addr×Obj)} {σ:St} {H:Hp} {s:Shared}
theorem Inv.adopt {D:Addr} {o:HO} (I:Inv X pins σ H s) (hn:H D=none) (hs:X.s₀.heap.objs.size<=D) (hL:D≠X.env.locals) (hc:∀ x c,X.env.cells.lookup x=some c->c≠D) (hp:∀ p∈X.pn ++ pins,p.1≠D)
  (new:kI X.prog X.w (upd H D o) s.heap D o):Inv X pins σ (upd H D o) s:=by
 have u:Un X.fs X.ex H (upd H D o) s.heap s.heap->True:=fun _=>trivial
 refine ⟨I.ok,I.os,I.bare,⟨I.base.keep,I.base.slot,fun b ob e n hx=>?_,I.base.there,fun b xs e=>?_,fun b ob xs e=>?_,fun b ps e=>?_⟩,I.loc,I.cell,?_,fun x c e=>?_,fun p h=>?_,fun b ob e=>?_,I.len⟩
 ·rw [cA (Nat.ne_of_lt (Nat.lt_of_lt_of_le (Heap.lt_size e) hs))];exact I.base.free b ob e n hx
 ·have q:=I.base.tups b xs e
  rw [cA (bT q hn)];exact q
 ·have q:=I.base.frzs b ob xs e
  rw [cA (bT q hn)];exact q
 ·obtain ⟨more,q⟩:=I.base.tbls b ps e
  exact ⟨more,by rw [cA (bT q hn)];exact q⟩
 ·rw [cA (Ne.symm hL)];exact I.free
 ·rw [cA (hc x c e)];exact I.freeC x c e
 ·obtain ⟨a1,a2,a3⟩:=I.pin p h
  exact ⟨a1,by rw [cA (hp p h)];exact a2,a3⟩
 ·by_cases hb:b=D
  ·subst hb;rw [aG] at e;cases e;exact new
  ·rw [cA hb] at e
   exact (I.hok b ob e).stay (fun c v _ q=>q) (fun c q=>by rw [cA (bT q hn)];exact q) fun c xs q=>by rw [cA (bT q hn)];exact q
end
section
variable {X:Cx} {scope:Scope} {x:Str} {ys:List Str} {caps:List Nat}
end
section
variable {X:Cx} {scope:Scope} {x:Str} {ys:List Str} {caps:List Nat} {elt iter:Expr} {te:TE} {px pos:Pos}
theorem nxE {α:Type} {t:Sem α} {Q Q':α->Shared->Prop} {M:Model} {A:Around} {F E:Value->Shared->Prop} {s:Shared} (hF:F=fun _ _=>False) (h:wpAny M A t Q F s) (hQ:∀ a s,Q a s->Q' a s):wpAny M A t Q' E s :=
 wpAny_mono h hQ fun e s' z=>by
  rw [hF] at z
  exact z.elim
noncomputable abbrev dO (its:List Value) (n:Nat):Obj:={ cls:=.type "list",data:=.seq its.toArray n }
end
end L2
namespace L2
open PySem PySem.Spec PyProof.Rows
theorem Nu:bootBuiltins "enumerate" = some (.type "enumerate"):=by decide +kernel
section
variable {X:Cx} {pins:List (Addr×Obj)} {σ:St} {H:Hp} {s:Shared} {h':Heap}
theorem Inv.turnedL {t':Nat} {ch:List Addr} (I:Inv X pins σ H s) (k:∀ b o,b∉ch->s.heap.get? b=some o->h'.get? b=some o) (hf:∀ b∈ch,xP X pins H b):Inv X pins σ H { s with heap:=h',toks:=t' }:=by
 have nit:∀ b u,H b=some u->b∉ch:=fun b u e z=>by rw [(hf b z).1] at e;cases e
 refine I.step (g':=s.gens) (d':=s.drawn) (ch:=ch) (fun b hb=>?_) (fun b o _ _ hc e _=>k b o hc e) (fun b o _ _ hc e _=>⟨o.slots,k b o hc e⟩) (fun _ _ _ _ n=>n)
  (fun b o hc e=>⟨o,k b o hc e⟩) (fun _ _ e=>e) (fun _ _ _ e=>e) (fun b ps e=>⟨#[],by rw [e];simp⟩) (fun m hm=>?_) (fun b u e=>?_) I.bare
 ·obtain ⟨a1,a2,a3,a4,a5,a6⟩:=hf b hb
  exact ⟨a4,a2,a5,a6⟩
 ·obtain ⟨o,es,ep,ho,r⟩:=hm
  exact ⟨o,es,ep,k _ o (fun z=>(hf _ z).2.1 rfl) ho,r⟩
 ·refine (I.hok b u e).stay (fun c v hc q=>k c v ?_ q) (fun _ q=>q) fun _ _ q=>q
  rcases hc with z | z
  ·rw [z];exact nit b u e
  ·exact nit c _ z
end
theorem Vi {P:Program} {w:World} {K:PySem.W.Frag} {elts:List Expr} {k:Nat} {tp:Pos} (a e it:Addr) (hne:e≠it) :
  Kq P w K (.Tuple elts k tp) (Ite K a) [e,it] e (fun i h=>(∃ old,IsEnum h e it i old)/\h.IsListIter it a i) where
 mem:=by simp
 obj:=fun i h st b hb=>by
  obtain ⟨⟨old,he⟩,hit⟩:=st
  have z:b=e∨b=it:=by simpa using hb
  rcases z with rfl | rfl
  ·exact ⟨_,he,fun v z=>by
    have z':Data.fields _=Data.cell v:=z
    cases z'⟩
  ·obtain ⟨o,e,c,d⟩:=hit
   exact ⟨o,e,fun v z=>by rw [d] at z;cases z⟩
 keep:=fun i h h' st k=>by
  obtain ⟨⟨old,he⟩,hit⟩:=st
  exact ⟨⟨old,k e (by simp) _ he⟩,hit.at fun o q=>k it (by simp) o q⟩
 item:=by
  intro X hP hw hK hc i pins s σ H E I hf st hg
  subst hP hw hK
  obtain ⟨xs,x,hq,hx⟩:=hg
  obtain ⟨its,rv,p,hz⟩:=I.list hq
  obtain ⟨u,hu,ru⟩:=rv.get hx
  obtain ⟨⟨old,he⟩,hit⟩:=st
  refine wpAny_pyNext_enum_item he hit p.isList (x:=u) (by simpa using hu) hne fun h1 out hit1 tup sz kp=>⟨_,rfl,?_⟩
  refine wpAny_letOwnedTupleGo_enum (s:={ s with heap:=h1,toks:=s.toks+1 }) out fun h2 en sb=>?_
  have hel:e < s.heap.objs.size:=Heap.lt_size he
  have hTe:s.heap.objs.size≠e:=Nat.ne_of_gt hel
  have sb':Heap.SameBut e h1 h2:=sb
  have I1:Inv X pins σ H { s with heap:=h2,toks:=s.toks+1 }:=I.turnedL (ch:=[e,it]) (fun b o hb q=>by
   have hb':b≠e/\b≠it:=by simpa using hb
   exact (sb'.2 b hb'.1).trans (kp b o hb'.1 hb'.2 q)) hf
  have hTn:H s.heap.objs.size=none:=I.hok.fresh (Nat.le_refl _)
  have tup2:h2.get? s.heap.objs.size=some { cls:=.type "tuple",data:=.seq #[.int i s.toks,u] }:=(sb'.2 _ hTe).trans tup
  have I2:Inv X pins σ (upd H s.heap.objs.size (.tup [.int i,x])) { s with heap:=h2,toks:=s.toks+1 }:=I1.adopt hTn I.sz (Nat.ne_of_gt I.lt) (fun y c q=>by
   obtain ⟨v,z⟩:=I.cell y c q
   exact Nat.ne_of_lt z.lt) (fun q hq=>Nat.ne_of_lt (Heap.lt_size (I.pin q hq).1)) ⟨by show 2<=sizeLine;decide,[.int i s.toks,u],.cons ⟨_,rfl⟩ (.cons ru .nil),⟨_,tup2,rfl,_,rfl⟩⟩
  refine ⟨.ref s.heap.objs.size,_,I2,rfl,⟨_,x,rfl,hTn,rfl,fun ys hy=>by rw [I.list_inj hy hq];exact hx⟩,⟨⟨_,by have:=en;exact_mod_cast this⟩,?_⟩,fun b hb=>?_⟩
  ·obtain ⟨o,q,r⟩:=hit1
   exact ⟨o,(sb'.2 it (Ne.symm hne)).trans q,r⟩
  ·have hb0:=(hf b hb).1
   have z:b=e∨b=it:=by simpa using hb
   have hlt:b < s.heap.objs.size:=by
    rcases z with rfl | rfl
    ·exact hel
    ·obtain ⟨o,q,_⟩:=hit
     exact Heap.lt_size q
   rw [cA (Nat.ne_of_lt hlt)]
   exact hb0
 done:=by
  intro X hP hw hK hc i pins s σ H E I hf st hg
  subst hP hw hK
  obtain ⟨xs,hq,hx⟩:=hg
  obtain ⟨its,rv,p,hz⟩:=I.list hq
  obtain ⟨⟨old,he⟩,hit⟩:=st
  obtain ⟨f0,f1,f2,f3,f4,f5⟩:=hf it (by simp)
  have hl:=rv.length
  exact wpAny_pyNext_enum_end (I.ok.hd hc) he hit p.isList (by simp;omega) fun h' eb=>⟨rfl,I.turned (t':=s.toks) (fun b o hb e=>eb b o hb e) f0 f1 f3 f4 f5⟩
 self:=fun _ _ _ _ _ st h=>by
  obtain ⟨⟨old,he⟩,hit⟩:=st
  exact wpAny_pyIter_enum he h
section
variable {X:Cx}
theorem Ls {elts:List Expr} {k:Nat} {tp:Pos} {a:Expr} {tl:TE} {p pos:Pos} (hg:Gl X "enumerate") (hm:X.mg "enumerate" = none) (hl:PE X a tl) (hs:starEach [a] X.env=[(false,eval a X.env)]:=by rfl):PI X (.Tuple elts k tp) (.Call (.Name "enumerate" p) [a] [] pos) (Fe X.K tl):=by
 intro pins s σ H R I h
 have hA:PA X [a] (aC tl aN):=aA hl aE (by rw [hs];rfl)
 refine Call_ (rX I hg hm Nu (PyProof.Rows.callWith_type1 (thn (hA pos pins s σ H (fun vs H1=>∃ x,vs=[x]/\∃ a,x=.ref a/\(∃ xs,SqL X.K H1 a xs)/\R (Ite X.K a) H1) I ?_) fun us s1 ⟨vs,H1,I1,r1,q1⟩=>?_) hs rfl))
 ·show tl σ H fun x H1=>∃ y,[x]=[y]/\_
  have e:(fun (x:V) (H1:Hp)=>∃ y,[x]=[y]/\∃ a,y=V.ref a/\(∃ xs,SqL X.K H1 a xs)/\R (Ite X.K a) H1)=fun x H1=>∃ a,x=V.ref a/\(∃ xs,SqL X.K H1 a xs)/\R (Ite X.K a) H1:=by
   funext x H1
   exact propext ⟨fun ⟨y,e,r⟩=>by cases e;exact r,fun r=>⟨x,rfl,r⟩⟩
  have h':tl σ H fun x H1=>∃ a,x=V.ref a/\(∃ xs,SqL X.K H1 a xs)/\R (Ite X.K a) H1:=h
  rw [← e] at h'
  exact h'
 ·obtain ⟨x,e1,b,e2,⟨xs,hq⟩,q⟩:=q1
  subst e1 e2
  obtain ⟨u,rfl,ru⟩:=yZ r1
  cases ru
  obtain ⟨its,rv,pl,hz⟩:=I1.list hq
  refine call_enumerate_list pl.isList fun h1 he hit hsz hk=>?_
  refine wpAny_pyIter_enum he ?_
  have I2:Inv X pins σ H1 { s1 with heap:=h1 }:=I1.kept (t':=s1.toks) hk
  refine ⟨s1.heap.objs.size+1,[s1.heap.objs.size+1,s1.heap.objs.size],_,Ite X.K b,H1,rfl,I2,Vi b _ _ (Nat.succ_ne_self _),⟨⟨_,he⟩,hit⟩,fun c hc=>?_,q⟩
  have z:c=s1.heap.objs.size+1∨c=s1.heap.objs.size:=by simpa using hc
  have hle:s1.heap.objs.size<=c:=by rcases z with rfl | rfl <;> omega
  exact I1.fpOk hle (I1.hok.fresh hle)
theorem Ds (ns:List Int):∀ n,n<=ns.length->preSum (fun i=>ns.getD i 0) n=(ns.take n).sum
 | 0,_=>by simp [preSum]
 | n+1,h=>by
  show preSum _ n+ns.getD n 0=_
  have hn:n < ns.length:=by omega
  rw [Ds ns n (by omega),List.take_succ,List.sum_append,List.getD_eq_getElem?_getD,List.getElem?_eq_getElem hn]
  simp
theorem qV (hc:X.calm=true):qL X (.builtin "sum") (Fc X.K):=by
 intro pins s σ H xs us Q I r h
 obtain ⟨p,ns,rfl,hq,q⟩:=h
 obtain ⟨u,rfl,ru⟩:=yZ r
 cases ru
 obtain ⟨its,rv,pl,hz⟩:=I.list hq
 have hl:=rv.length
 rw [List.length_map] at hl
 have hpl:p < s.heap.objs.size:=by obtain ⟨o,e,_⟩:=pl.isList;exact Heap.lt_size e
 refine call_sum_walkG (wpAny_pyIter_list pl.isList ⟨s.heap.objs.size,_,_,_,_,_,fun i=>ns.getD i 0,rfl,Walks.list (A:=X.A.in1) (I.ok.hd hc) s.heap.objs.size p (Nat.ne_of_lt hpl) its.toArray,⟨⟨_,Heap.get?_push_size _ rfl,rfl,rfl⟩,pl.isList.push _⟩,fun b hb=>?_,fun i v hv=>?_,fun h' tk t' hk=>?_⟩)
 ·show b < (s.heap.push _).objs.size
  rw [Heap.size_push]
  have z:b=s.heap.objs.size∨b=p:=by simpa using hb
  rcases z with rfl | rfl
  ·exact Nat.lt_succ_self _
  ·exact Nat.lt_succ_of_lt hpl
 ·have hv':its[i]?=some v:=by simpa using hv
  obtain ⟨x,ex,rx⟩:∃ x,(List.map V.int ns)[i]?=some x/\cV x v:=by
   have hi:i < its.length:=(List.getElem?_eq_some_iff.mp hv').1
   have hi2:i < (List.map V.int ns).length:=by rw [List.length_map];omega
   obtain ⟨u,eu,ru⟩:=rv.get (i:=i) (x:=(List.map V.int ns)[i]) (List.getElem?_eq_getElem hi2)
   rw [hv'] at eu;cases eu
   exact ⟨_,List.getElem?_eq_getElem hi2,ru⟩
  rw [List.getElem?_map] at ex
  cases e:ns[i]? with
  | none=>rw [e] at ex;cases ex
  | some z =>
   rw [e] at ex
   have:V.int z=x:=Option.some.inj ex
   subst this
   obtain ⟨t,rfl⟩:=rx
   exact ⟨t,by show Value.int z t=Value.int (ns.getD i 0) t;rw [List.getD_eq_getElem?_getD,e];rfl⟩
 ·have e:preSum (fun i=>ns.getD i 0) its.toArray.size=ns.sum:=by
   rw [List.size_toArray,← hl,Ds ns _ (Nat.le_refl _),List.take_length]
  rw [e]
  refine ⟨.int ns.sum,H,I.kept fun b o q=>?_,⟨_,rfl⟩,q⟩
  exact hk b o (by
   intro z
   have z':b=s.heap.objs.size:=by simpa using z
   exact absurd (Heap.lt_size q) (by rw [z'];exact Nat.lt_irrefl _)) (Heap.get?_push_of_some _ q)
theorem Kc {A:Around} {s:Shared} {i j:Int} {u v:Value} (r1:cV (.int i) u) (r2:cV (.int j) v):SeqAt.EqAt A s u v (i == j):=by
 obtain ⟨t,rfl⟩:=r1
 obtain ⟨t',rfl⟩:=r2
 exact fun prog w E Q hq=>wpAny_eqBool_int hq
end
end L2
namespace L2
open PySem PySem.Spec PyProof.Rows
section
variable {X:Cx} {pins:List (Addr×Obj)} {σ:St} {H H':Hp} {s s':Shared} {cls:Value} {a:Addr} {B:Heap}
end
section
variable {P:Program} {w:World} {K:PySem.W.Frag} {mg:Str->Option Value} {base:Heap} {N ps:List Str} {qual:Str} {scope:Scope} {f:Addr} {cd:Value} {A:Around} {outer:List Env} {s:Shared} {H:Hp} {E:XK}
end
section
variable {X:Cx} {pins:List (Addr×Obj)} {σ:St} {H H':Hp} {s s':Shared} {cls:Value} {a:Addr} {B:Heap}
end
section
variable {X:Cx} {k:Nat} {f C:Addr} {fd:FuncData} {ps:List Str} {sp:Sp} {dvs:List V} {ds:List Value} {x m:Str} {p pos apos:Pos} {e o:Expr} {es:List Expr} {ta:TE} {t:TA}
end
end L2
namespace L2
open PySem PySem.Spec PyProof.Rows
noncomputable def cY (K:PySem.W.Frag) (x:Str):Addr:=match PySem.W.nsIn K mainGlobals x with
 | some (some (.ref C))=>C
 | _=>0
theorem eV {K:PySem.W.Frag} {x:Str} {C:Addr} (h:PySem.W.nsIn K mainGlobals x=some (some (.ref C))):cY K x=C:=by unfold cY;rw [h]
section
variable {X:Cx}
end
section
open PySem.W Builtin Builtin.ObjectAttr Builtin.Getset_descriptor
end
end L2
namespace L2
end L2
namespace L2
open PySem PySem.Spec PyProof.Rows
noncomputable def REq (K:PySem.W.Frag) (H:Hp) (D:V->V->Bool->Prop) (x y:V) (b:Bool):Prop:=∃ a c xs ys,x=.ref a/\y=.ref c /\
 ((SqL K H a xs/\SqL K H c ys/\((xs.length≠ys.length/\b=false)∨(xs.length=ys.length/\∃ e:Nat->Bool,(∀ (j:Nat) x' y',xs[j]?=some x'->ys[j]?=some y'->D x' y' (e j))/\b=(List.range xs.length).all e))) ∨
  (SqT K H a xs/\SqT K H c ys/\∃ e:Nat->Bool,(∀ (j:Nat) x' y',xs[j]?=some x'->ys[j]?=some y'->D x' y' (e j))/\b=((List.range (min xs.length ys.length)).all e && xs.length == ys.length)))
noncomputable def DEq (K:PySem.W.Frag) (H:Hp):Nat->V->V->Bool->Prop
 | 0,x,y,b=>(x=y/\(∃ a,x=.ref a)/\b=true)∨∃ i j,x=.int i/\y=.int j/\b=(i == j)
 | n+1,x,y,b=>((x=y/\(∃ a,x=.ref a)/\b=true)∨∃ i j,x=.int i/\y=.int j/\b=(i == j))∨(x≠y/\REq K H (DEq K H n) x y b)
noncomputable def rEqD (K:PySem.W.Frag) (n:Nat):R2:=fun x y H Q=>∃ b,REq K H (DEq K H n) x y b/\Q (.bl b) H
theorem cK.ix {xs:List V} {us:List Value} (r:cK xs us) {j:Nat} (h:j < us.toArray.size):∃ x,xs[j]?=some x/\cV x us.toArray[j]:=by
 have hl:=r.length
 have h1:j < us.length:=by simpa using h
 have h2:j < xs.length:=by omega
 obtain ⟨u,e,q⟩:=r.get (i:=j) (x:=xs[j]) (List.getElem?_eq_getElem h2)
 refine ⟨xs[j],List.getElem?_eq_getElem h2,?_⟩
 have e2:us.toArray[j]=u:=by
  obtain ⟨_,z⟩:=List.getElem?_eq_some_iff.mp e
  simpa using z
 rw [e2];exact q
section
variable {X:Cx} {pins:List (Addr×Obj)} {σ:St} {H:Hp} {s:Shared}
theorem rc_of {A:Around} {D:V->V->Bool->Prop} (I:Inv X pins σ H s) (hu:A.units < cLine) (hD:∀ x y u v b,cV x u->cV y v->D x y b->SeqAt.EqAt A.in1 s u v b) {x y:V} {u v:Value} {b:Bool} (rx:cV x u) (ry:cV y v) (h:REq X.K H D x y b):SeqAt.RcAt A s u v b:=by
 obtain ⟨a,c,xs,ys,rfl,rfl,h⟩:=h
 cases rx
 cases ry
 rcases h with ⟨ha,hc,h⟩ | ⟨ha,hc,e,he,rfl⟩
 ·obtain ⟨i1,r1,p1,_⟩:=I.list ha
  obtain ⟨i2,r2,p2,_⟩:=I.list hc
  have l1:=r1.length
  have l2:=r2.length
  rcases h with ⟨hn,rfl⟩ | ⟨hl,e,he,rfl⟩
  ·exact SeqAt.RcAt.lists_lengths p1.isList p2.isList (by rw [List.size_toArray,List.size_toArray];simp;omega) hu
  ·have q:=SeqAt.RcAt.lists (e:=e) p1.isList p2.isList (by rw [List.size_toArray,List.size_toArray];omega) hu fun j h1 h2=>by
    obtain ⟨x',ex,rx'⟩:=r1.ix h1
    obtain ⟨y',ey,ry'⟩:=r2.ix h2
    exact hD _ _ _ _ _ rx' ry' (he j x' y' ex ey)
   rw [List.size_toArray,← l1] at q
   exact q
 ·obtain ⟨i1,r1,p1,_⟩:=I.tuple ha
  obtain ⟨i2,r2,p2,_⟩:=I.tuple hc
  have l1:=r1.length
  have l2:=r2.length
  have q:=SeqAt.RcAt.tuples (e:=e) p1 p2 hu fun j h1 h2=>by
   obtain ⟨x',ex,rx'⟩:=r1.ix h1
   obtain ⟨y',ey,ry'⟩:=r2.ix h2
   exact hD _ _ _ _ _ rx' ry' (he j x' y' ex ey)
  rw [List.size_toArray,List.size_toArray,← l1,← l2] at q
  exact q
theorem Uu {A:Around} {x y:V} {u v:Value} {b:Bool} (rx:cV x u) (ry:cV y v) (h:(x=y/\(∃ a,x=.ref a)/\b=true)∨∃ i j,x=.int i/\y=.int j/\b=(i == j)):SeqAt.EqAt A s u v b:=by
 rcases h with ⟨rfl,⟨a,rfl⟩,rfl⟩ | ⟨i,j,rfl,rfl,rfl⟩
 ·cases rx
  cases ry
  exact SeqAt.EqAt.same _
 ·exact Kc rx ry
theorem Kb (I:Inv X pins σ H s):∀ (n:Nat) (A:Around),A.units+n < cLine->∀ x y u v b,cV x u->cV y v->DEq X.K H n x y b->SeqAt.EqAt A s u v b
 | 0,_,_,_,_,_,_,_,rx,ry,h=>Uu rx ry h
 | n+1,A,hu,x,y,u,v,b,rx,ry,h=>by
  rcases h with h | ⟨hne,h⟩
  ·exact Uu rx ry h
  ·have q:=rc_of I (A:=A) (by omega) (fun x y u v b rx ry d=>Kb I n A.in1 (by show A.units+1+n < cLine;omega) x y u v b rx ry d) rx ry h
   obtain ⟨a,c,xs,ys,rfl,rfl,_⟩:=h
   cases rx
   cases ry
   exact SeqAt.EqAt.of_refs (fun z=>hne (by rw [z])) q
end
section
variable {X:Cx}
theorem op_eqD (n:Nat) (hu:X.A.units+(n+1) < cLine):OpR X (compareOp .Eq) (rEqD X.K n):=by
 intro pins s σ H x y v u Q I rx ry h
 obtain ⟨b,h,q⟩:=h
 exact rc_of I (A:=X.A) (by omega) (Kb I n X.A.in1 (by show X.A.units+1+n < cLine;omega)) rx ry h _ _ _ _ ⟨.bl b,H,I,rfl,q⟩
end
section
variable {X:Cx}
end
end L2
namespace L2
open PySem PySem.Spec PyProof.Rows
section
variable {prog:Program} {w:World} {A:Around} {E:Value->Shared->Prop} {s:Shared}
end
section
variable {X:Cx}
end
section
variable {X:Cx}
end
end L2
namespace L2
open PySem PySem.Spec PyProof.Rows
section
variable {X:Cx} {scope:Scope} {x:Str} {ys:List Str} {caps:List Nat}
theorem iM.cells {pins:List (Addr×Obj)} {σ:St} {H:Hp} {s:Shared} (S:iM X.env.scope scope X.N x ys caps) (I:Inv X pins σ H s):∀ p∈scope.names,p.2=.free->∃ c,X.env.cells.lookup p.1=some c:=fun p hp hf =>
 I.ok.has p.1 (.inl (S.fr p hp hf))
theorem iM.sub {pins:List (Addr×Obj)} {σ:St} {H:Hp} {s:Shared} (S:iM X.env.scope scope X.N x ys caps) (I:Inv X pins σ H s) {y:Str} {c:Addr} (e:(fB X scope).lookup y=some c):X.env.cells.lookup y=some c :=
 sQ (S.cells I) (fun p hp=>absurd hp (by simp)) (y,c) (PySem.mem_of_lookup e)
theorem Inv.enter {pins:List (Addr×Obj)} {σ:St} {H:Hp} {s:Shared} {h₁:Heap} {ex:List Addr} {tk:Nat} {pl:List (Addr×Obj)} (S:iM X.env.scope scope X.N x ys caps) (hcalm:X.calm=true) (I:Inv X pins σ H s)
  (hn:h₁.Ns s.heap.objs.size (fun _=>none)) (keep:∀ b o,s.heap.get? b=some o->h₁.get? b=some o)
  (hex:∀ b∈ex,b < s.heap.objs.size/\b∉frs X.stack/\(∀ y c,X.env.cells.lookup y=some c->c≠b)/\X.base.get? b=none)
  (hpl:∀ p∈pl,s.heap.get? p.1=some p.2/\H p.1=none/\p.1∉frs X.stack/\∀ v,p.2.data≠.cell v) :
  Inv (cL X scope (x :: ys) s H ex (X.pn ++ pins)) pl (none :: aQ σ caps) H { s with heap:=h₁,toks:=tk }:=by
 have hL:s.heap.objs.size≠X.env.locals:=Nat.ne_of_gt I.lt
 have hCn:∀ b o,s.heap.get? b=some o->b≠s.heap.objs.size:=fun b o e=>Nat.ne_of_lt (Heap.lt_size e)
 have cellLt:∀ y c,X.env.cells.lookup y=some c->c < s.heap.objs.size:=fun y c e=>by
  obtain ⟨v,z⟩:=I.cell y c e
  exact z.lt
 have cellUp:∀ {c:Addr} {v:Option Value},s.heap.IsCell c v->h₁.IsCell c v:=fun {c v} ⟨o,ho,hd⟩=>⟨o,keep c o ho,hd⟩
 refine ⟨⟨I.ok.mod,S.kind,I.ok.glob,I.ok.blt,Nat.le_refl _,fun y z c h1 h2=>I.ok.inj y z c (S.sub I h1) (S.sub I h2),fun y hy=>?_,fun y c hf _=>?_,fun _=>I.ok.hd hcalm,I.ok.frames,.inl rfl,fun b hb=>?_,I.bs,Nat.le_trans I.ok.bsz I.sz,fun b o e hb=>?_,fun b hb=>(hex b hb).2.1,I.stack,I.stkFree⟩,
  rfl,I.bare,Un.kept keep,⟨_,hn,fun i y v e1 e2 e3=>?_⟩,fun y c e=>?_,I.hok.fresh (Nat.le_refl _),fun y c e=>I.freeC y c (S.sub I e),fun p hp=>?_,I.hok.kept keep,?_⟩
 ·have hy':(y,NameKind.free)∈scope.names:=yJ (env:=X.env) S.ncell (by
   rcases hy with hy | hy
   ·exact ⟨_,hy,.inl rfl⟩
   ·exact ⟨_,hy,.inr rfl⟩)
  exact gF (kD hy')
 ·exact absurd (show false=true from hf) Bool.false_ne_true
 ·exact ⟨Nat.ne_of_lt (hex b hb).1,fun y c e=>(hex b hb).2.2.1 y c (S.sub I e)⟩
 ·have z:=(hex b hb).2.2.2
  have e':X.base.get? b=some o:=e
  rw [z] at e';cases e'
 ·cases i with
  | zero=>cases e2
  | succ i =>
   have e1':(x :: ys)[i+1]?=some y:=e1
   have e1:ys[i]?=some y:=by simpa using e1'
   have e2:(aQ σ caps)[i]?=some (some v):=by simpa using e2
   obtain ⟨j,hj,hv⟩:∃ j,caps[i]?=some j/\σ[j]?=some (some v):=by
    unfold aQ at e2
    rw [List.getElem?_map] at e2
    cases q:caps[i]? with
    | none=>rw [q] at e2;cases e2
    | some j =>
     rw [q] at e2
     have e3:(σ[j]?).join=some v:=Option.some.inj e2
     cases q2:σ[j]? with
     | none=>rw [q2] at e3;cases e3
     | some w'=>rw [q2] at e3;exact ⟨j,rfl,by rw [show w'=some v from e3] at q2;exact q2⟩
   have hz:(y,j)∈ys.zip caps:=List.mem_of_getElem? (i:=i) (by rw [List.getElem?_zip_eq_some];exact ⟨e1,hj⟩)
   obtain ⟨hN,hf⟩:=S.cap (y,j) hz
   have hcellX:X.env.kindOf y=some .cell:=S.fr (y,.free) (PySem.mem_of_lookup hf) rfl
   obtain ⟨m,hm,hl⟩:=I.loc
   obtain ⟨u,r,l⟩:=hl j y v hN hv (.inr (.inl hcellX))
   refine ⟨u,r,?_⟩
   rcases l with ⟨hk,_⟩ | ⟨_,c,hc,hcell⟩
   ·rw [hcellX] at hk;cases hk
   ·obtain ⟨c',hc'⟩:=gF (kD (env:=X.env) (cs:=[]) (PySem.mem_of_lookup hf))
    have:=S.sub I hc'
    rw [hc] at this
    cases this
    exact .inr ⟨.inl (jF S.fk hf hcellX),c,hc',cellUp hcell⟩
 ·obtain ⟨v,z⟩:=I.cell y c (S.sub I e)
  exact ⟨v,cellUp z⟩
 ·rcases List.mem_append.mp hp with hp | hp
  ·obtain ⟨a1,a2,a3,a4,a5⟩:=I.pin p hp
   exact ⟨keep _ _ a1,a2,hCn _ _ a1,fun z=>(List.mem_cons.mp (I.stkSub p.1 z)).elim a3 a4,a5⟩
  ·obtain ⟨a1,a2,a4,a5⟩:=hpl p hp
   exact ⟨keep _ _ a1,a2,hCn _ _ a1,a4,a5⟩
 ·show (none :: aQ σ caps).length=(x :: ys).length
  rw [List.length_cons,List.length_cons,aQ,List.length_map,S.len]
end
end L2
namespace L2
open PySem PySem.Spec PyProof.Rows
noncomputable def Fa (J:It) (σ:St) (caps:List Nat) (tt:TT) (te:TE) (H1:Hp) (fin:List V->Hp->Prop):Prop :=
 ∃ (n:Nat) (W:Nat->List V->Hp->Prop),n<=sizeLine/\W 0 [] H1/\∀ i ys H2,i<=n->ys.length<=i->W i ys H2 ->
  (J.stop i H2/\fin ys H2)∨(i < n/\J.go i H2/\∀ x H3,J.yld i H2 x H3->tt (some x :: aQ σ caps) H3 fun b H4=>if b=true then te (some x :: aQ σ caps) H4 fun y H5=>W (i+1) (ys ++ [y]) H5 else W (i+1) ys H4)
noncomputable def uE (wi:TI) (caps:List Nat) (tt:TT) (te:TE):TE:=fun σ H Q=>wi σ H fun J H1=>Fa J σ caps tt te H1 fun ys H2=>∀ p,H2 p=none->Q (.ref p) (upd H2 p (.lst ys))
section
variable {X:Cx} {scope:Scope} {x:Str} {ys:List Str} {caps:List Nat} {elt iter tst:Expr} {te:TE} {tt:TT} {px pos:Pos}
theorem Kd {pins:List (Addr×Obj)} {σ:St} {H2:Hp} {s2:Shared} {J:It} {fp:List Addr} {it:Addr} {tn:Nat->Heap->Prop} {E:Value->Shared->Prop} {fin:List V->Hp->Prop} {RR:Value->Addr->Result->Shared->Prop}
  (hcalm:X.calm=true) (S:iM X.env.scope scope X.N x ys caps) (hT:∀ s H ex pn,PT (cL X scope (x :: ys) s H ex pn) tst tt) (he:∀ s H ex pn,PE (cL X scope (x :: ys) s H ex pn) elt te)
  (I2:Inv X pins σ H2 s2) (T:Kq X.prog X.w X.K (.Name x px) J fp it tn) (st2:tn 0 s2.heap) (f2:∀ b∈fp,xP X pins H2 b) (rd:Fa J σ caps tt te H2 fin)
  (hRR:∀ (C:Addr) (ysV:List V) (its:List Value) (n:Nat) (H8:Hp) (s8:Shared) (m:Str->Option Value),C=s2.heap.objs.size+1->Inv X pins σ H8 s8->H8 s2.heap.objs.size=none->H8 C=none->cK ysV its->ysV.length<=sizeLine ->
   s8.heap.get? s2.heap.objs.size=some (dO its n)->s8.heap.Ns C m->fin ysV H8->RR (.ref s2.heap.objs.size) C (.ok .next) s8) :
  wpAny (model X.prog X.w) X.A (newList []) (fun acc s₃=>wpAny (model X.prog X.w) X.A (newFunctionEnv scope X.env.globals (fB X scope) [] X.env.qual none .none (some X.env)) (fun cenv s₄ =>
   codeAny (model X.prog X.w) X.A (.compStart (.ListComp elt [⟨.Name x px,iter,[tst],0⟩] scope pos) 0 (.ref it) acc { cenv with scope:=relabel scope X.env }) (RR acc cenv.locals) s₄) E s₃) E s2:=by
 obtain ⟨n0,W,hn0,w0,turn⟩:=rd
 refine wpAny_newObj_type (wpAny_newFunctionEnv S.ncell (by intro y hy;simp at hy) (fun h₁ hns hsb=>?_) S.kind)
 dsimp only at hns hsb ⊢
 generalize hg3:s2.heap.push { cls:=.type "list",dict:=none,data:=.seq ([]:List Value).toArray }=g3 at hns hsb ⊢
 have hC:g3.objs.size=s2.heap.objs.size+1:=by rw [← hg3,Heap.size_push]
 have up3:∀ b o,s2.heap.get? b=some o->g3.get? b=some o:=fun b o e=>hg3 ▸ Heap.get?_push_of_some _ e
 have I3:Inv X pins σ H2 { s2 with heap:=g3 }:=I2.kept (t':=s2.toks) up3
 have keep:∀ b o,g3.get? b=some o->h₁.get? b=some o:=fun b o e=>hsb.extBut b o (Nat.ne_of_lt (Heap.lt_size e)) (Heap.get?_push_of_some _ e)
 have objD:g3.get? s2.heap.objs.size=some (dO [] 0):=hg3 ▸ Heap.get?_push_size _ rfl
 have hDL:s2.heap.objs.size≠X.env.locals:=Nat.ne_of_gt I2.lt
 have hDfs:s2.heap.objs.size∉X.fs:=I2.nofs (Nat.le_refl _)
 have hDst:s2.heap.objs.size∉frs X.stack:=fun z=>(List.mem_cons.mp (I2.stkSub _ z)).elim hDL hDfs
 have hDc:∀ y c,X.env.cells.lookup y=some c->c≠s2.heap.objs.size:=fun y c e=>by
  obtain ⟨v,z⟩:=I2.cell y c e
  exact Nat.ne_of_lt z.lt
 have hDp:∀ p∈X.pn ++ pins,p.1≠s2.heap.objs.size:=fun p hp=>Nat.ne_of_lt (Heap.lt_size (I2.pin p hp).1)
 have hfl:∀ b∈fp,b < s2.heap.objs.size:=fun b hb=>by
  obtain ⟨o,e,_⟩:=T.obj _ _ st2 b hb
  exact Heap.lt_size e
 have hbz:X.base.objs.size<=X.s₀.heap.objs.size:=I2.ok.bsz
 have hch:∀ b∈s2.heap.objs.size :: fp,(b∈X.ex∨X.s₀.heap.objs.size<=b)/\b≠X.env.locals/\(∀ y c,X.env.cells.lookup y=some c->c≠b)/\∀ p∈X.pn ++ pins,p.1≠b:=fun b hb=>by
  rcases List.mem_cons.mp hb with rfl | hb
  ·exact ⟨.inr I2.sz,hDL,hDc,hDp⟩
  ·obtain ⟨a1,a2,a3,a4,a5,a6⟩:=f2 b hb
   exact ⟨a4,a2,a5,a6⟩
 have hex:∀ b∈s2.heap.objs.size :: fp,b < g3.objs.size/\b∉frs X.stack/\(∀ y c,X.env.cells.lookup y=some c->c≠b)/\X.base.get? b=none:=fun b hb=>by
  have hst:b∉frs X.stack:=by
   rcases List.mem_cons.mp hb with rfl | hb
   ·exact hDst
   ·obtain ⟨a1,a2,a3,a4,a5,a6⟩:=f2 b hb
    exact fun z=>(List.mem_cons.mp (I2.stkSub _ z)).elim a2 a3
  have hlt:b < g3.objs.size:=by
   rw [hC]
   rcases List.mem_cons.mp hb with rfl | hb
   ·exact Nat.lt_succ_self _
   ·exact Nat.lt_succ_of_lt (hfl b hb)
  refine ⟨hlt,hst,(hch b hb).2.2.1,?_⟩
  cases q:X.base.get? b with
  | none=>rfl
  | some o =>
   rcases (hch b hb).1 with z | z
   ·exact absurd z (I2.ok.noex b o q)
   ·exact absurd (Nat.lt_of_lt_of_le (Heap.lt_size q) (Nat.le_trans hbz z)) (Nat.lt_irrefl _)
 have hD2:H2 s2.heap.objs.size=none:=I2.hok.fresh (Nat.le_refl _)
 have I4:Inv (cL X scope (x :: ys) { s2 with heap:=g3 } H2 (s2.heap.objs.size :: fp) (X.pn ++ pins)) [(s2.heap.objs.size,dO [] 0)] (none :: aQ σ caps) H2 { s2 with heap:=h₁,toks:=s2.toks+([]:List (Str×Value)).length } :=
  Inv.enter S hcalm I3 hns keep hex fun p hp=>by
   have e:p=(s2.heap.objs.size,dO [] 0):=by simpa using hp
   subst e
   exact ⟨objD,hD2,hDst,fun v z=>nomatch z⟩
 have st4:tn 0 h₁:=T.keep _ _ _ st2 fun b hb o e=>keep b o (up3 b o e)
 generalize hY:cL X scope (x :: ys) { s2 with heap:=g3 } H2 (s2.heap.objs.size :: fp) (X.pn ++ pins)=Y at I4
 have yP:Y.prog=X.prog:=by rw [← hY];rfl
 have yW:Y.w=X.w:=by rw [← hY];rfl
 have yK:Y.K=X.K:=by rw [← hY];rfl
 have yA:Y.A=X.A:=by rw [← hY];rfl
 have yC:Y.calm=true:=by rw [← hY];exact hcalm
 have yX:Y.xe=fun _ _=>False:=by rw [← hY];rfl
 have yN:Y.N=x :: ys:=by rw [← hY];rfl
 have yE:Y.env=compEnvC scope (fB X scope) g3.objs.size X.env:=by rw [← hY];rfl
 have yex:Y.ex=s2.heap.objs.size :: fp:=by rw [← hY];rfl
 have ypn:Y.pn=X.pn ++ pins:=by rw [← hY];rfl
 have yfs:Y.fs=frs X.stack:=by rw [← hY];rfl
 have ybase:∀ {pl σ' H' s'},Inv Y pl σ' H' s'->Un (frs X.stack) (s2.heap.objs.size :: fp) H2 H' g3 s'.heap/\s'.os=s2.os:=by
  intro pl σ' H' s' I
  rw [← hY] at I
  exact ⟨I.base,I.os⟩
 have yhe:PE Y elt te:=by rw [← hY];exact he _ _ _ _
 have yht:PT Y tst tt:=by rw [← hY];exact hT _ _ _ _
 have ycl:∀ y c,Y.env.cells.lookup y=some c->X.env.cells.lookup y=some c:=fun y c e=>by
  rw [yE] at e
  exact S.sub I2 e
 have yfp:∀ {H':Hp} {o:Obj},(∀ b∈fp,H' b=none)->∀ b∈fp,xP Y [(s2.heap.objs.size,o)] H' b:=fun {H' o} hn b hb=>by
  obtain ⟨a1,a2,a3,a4,a5,a6⟩:=f2 b hb
  refine ⟨hn b hb,?_,?_,?_,fun y c e=>a5 y c (ycl y c e),fun p hp=>?_⟩
  ·rw [yE];exact Nat.ne_of_lt (hex b (List.mem_cons_of_mem _ hb)).1
  ·rw [yfs];exact (hex b (List.mem_cons_of_mem _ hb)).2.1
  ·rw [yex];exact .inl (List.mem_cons_of_mem _ hb)
  ·rw [ypn] at hp
   rcases List.mem_append.mp hp with hp | hp
   ·exact a6 p hp
   ·have e:p=(s2.heap.objs.size,o):=by simpa using hp
    subst e
    exact Nat.ne_of_gt (hfl b hb)
 have loop:∀ s₃:Shared,s₃={ s2 with heap:=h₁,toks:=s2.toks+([]:List (Str×Value)).length } ->
   codeAny (model X.prog X.w) X.A (.compLoop (.ListComp elt [⟨.Name x px,iter,[tst],0⟩] scope pos) 0 (.ref it) (.ref s2.heap.objs.size) (compEnvC scope (fB X scope) g3.objs.size X.env)) (RR (.ref s2.heap.objs.size) g3.objs.size) s₃:=by
  rintro s₃ rfl
  refine codeAny_loop rfl (fun k s'=>∃ i ysV its cnt H' o,k=n0+1 - i/\Inv Y [(s2.heap.objs.size,dO its cnt)] (o :: aQ σ caps) H' s'/\tn i s'.heap/\(∀ b∈fp,H' b=none)/\cK ysV its/\ysV.length<=i/\i<=n0/\W i ysV H') ?_ (n0+1)
   ⟨0,[],[],0,H2,none,rfl,I4,st4,fun b hb=>(f2 b hb).1,.nil,Nat.le_refl _,Nat.zero_le _,w0⟩
  rintro k s' ⟨i,ysV,its,cnt,H',o,rfl,I',tni,frn,vv,hlen,hin,hw⟩
  show wpAny _ _ ((compTurn (.ListComp elt [⟨.Name x px,iter,[tst],0⟩] scope pos) 0 (.ref it) (.ref s2.heap.objs.size) (compEnvC scope (fB X scope) g3.objs.size X.env)).onRaise (fun x=>do noteFrame x (compEnvC scope (fB X scope) g3.objs.size X.env);theTreesLotGoes x)) _ _ s'
  refine wpAny_noted ?_
  rw [compTurn_list]
  have fpok:=yfp (o:=dO its cnt) frn
  rcases turn i ysV H' hin hlen hw with ⟨stop,hfin⟩ | ⟨hlt,go,step⟩
  ·refine wpAny_bind (wpAny_standAt (wpAny_bind (thn (Q:=fun r s1=>r=none/\Inv Y [(s2.heap.objs.size,dO its cnt)] (o :: aQ σ caps) H' s1) ?_ fun r s1 ⟨hr,I1⟩=>?_)))
   ·have:=T.done Y yP yW yK yC i _ s' _ H' (notedBy (model X.prog X.w) X.A (compEnvC scope (fB X scope) g3.objs.size X.env) fun e s'=>RR (.ref s2.heap.objs.size) g3.objs.size (.error e) s') I' fpok tni stop
    rw [yA] at this
    exact this
   ·subst hr
    refine wpAny_pure ?_
    obtain ⟨ub,uo⟩:=ybase I1
    obtain ⟨m,hm,_⟩:=I1.loc
    obtain ⟨p1,p2,_⟩:=I1.pin (s2.heap.objs.size,dO its cnt) (List.mem_append_right _ List.mem_cons_self)
    have hok:HOk X.prog X.w H' s1.heap:=by have:=I1.hok;rw [yP,yW] at this;exact this
    have hCf:=I1.free
    rw [yE] at hm hCf
    refine hRR g3.objs.size ysV its cnt H' s1 m hC (I3.call' uo ub hok I1.bare hch) p2 hCf vv (by omega) p1 hm hfin
  ·refine wpAny_bind (wpAny_standAt (wpAny_bind (thn (Q:=fun r s1=>∃ u,r=some u/\wpAny (model X.prog X.w) X.A (letOwnedTupleGo (.Name x px) (.ref it) u) (fun _ s5=>∃ x H5,Inv Y [(s2.heap.objs.size,dO its cnt)] (o :: aQ σ caps) H5 s5/\cV x u/\J.yld i H' x H5/\tn (i+1) s5.heap/\∀ b∈fp,H5 b=none)
     (notedBy (model X.prog X.w) X.A (compEnvC scope (fB X scope) g3.objs.size X.env) fun e s'=>RR (.ref s2.heap.objs.size) g3.objs.size (.error e) s') s1) ?_ fun r s1 ⟨u,hr,h4⟩=>?_)))
   ·have:=T.item Y yP yW yK yC i _ s' _ H' (notedBy (model X.prog X.w) X.A (compEnvC scope (fB X scope) g3.objs.size X.env) fun e s'=>RR (.ref s2.heap.objs.size) g3.objs.size (.error e) s') I' fpok tni go
    rw [yA] at this
    exact this
   ·subst hr
    refine wpAny_bind (thn h4 fun _ s5 ⟨xv,H5,I5,r5,y5,st5,fr5⟩=>?_)
    have I5':=I5.pinned (yfp fr5) (T.obj _ _ st5)
    have hloc:Y.env.scope.names.lookup x=some .local:=by rw [yE];exact lookup_relabel_local S.loc
    have sto:=fun (Q:Unit->Shared->Prop) (k:∀ s6,Inv Y _ ((o :: aQ σ caps).set 0 (some xv)) H5 s6->Q () s6)=>uK (M:=model X.prog X.w) (A:=X.A) (E:=notedBy (model X.prog X.w) X.A (compEnvC scope (fB X scope) g3.objs.size X.env) fun e s'=>RR (.ref s2.heap.objs.size) g3.objs.size (.error e) s') (i:=0) (x:=x) I5' (by rw [yN];exact S.nd) (by rw [yN];rfl) (.inl hloc) r5 k (.inr hloc)
    rw [yE] at sto
    refine wpAny_bind (wpAny_assign_Name (sto _ fun s6 I6=>?_))
    have tv:=yht _ s6 _ H5 _ I6 (step xv H5 y5)
    rw [yP,yW,yA,yE] at tv
    refine wpAny_bind (wpAny_tests_one (nxE yX tv fun ok s6' ⟨H6,I6',w6⟩=>?_))
    have hil:=vv.length
    cases ok with
    | false =>
     rw [if_neg Bool.false_ne_true] at w6
     rw [if_neg Bool.false_ne_true]
     obtain ⟨zD,hD7,hDl7,hDf7,_⟩:=I6'.pin (s2.heap.objs.size,dO its cnt) (List.mem_append_right _ (List.mem_append_left _ List.mem_cons_self))
     have I9:Inv Y [(s2.heap.objs.size,dO its cnt)] (some xv :: aQ σ caps) H6 s6':=I6'.pins_of fun p hp=>by
      have e:p=(s2.heap.objs.size,dO its cnt):=by simpa using hp
      subst e
      exact ⟨zD,hD7,hDl7,hDf7,(fun v z=>nomatch z)⟩
     refine wpAny_pure ⟨rfl,n0+1 - (i+1),by omega,i+1,ysV,its,cnt,H6,some xv,rfl,I9,?_,?_,vv,by omega,hlt,w6⟩
     ·refine T.keep _ _ _ st5 fun b hb ob e=>?_
      exact (I6'.pin (b,ob) (List.mem_append_right _ (List.mem_append_right _ (dH hb e)))).1
     ·intro b hb
      obtain ⟨ob,e,_⟩:=T.obj _ _ st5 b hb
      exact (I6'.pin (b,ob) (List.mem_append_right _ (List.mem_append_right _ (dH hb e)))).2.1
    | true =>
     rw [if_pos rfl] at w6
     rw [if_pos rfl]
     have ev:=yhe _ s6' _ H6 _ I6' w6
     rw [yP,yW,yA,yE] at ev
     refine wpAny_bind (wpAny_bind (nxE yX ev fun yv s7 ⟨y,H7,I7,r7,w7⟩=>?_))
     obtain ⟨zD,hD7,hDl7,hDf7,_⟩:=I7.pin (s2.heap.objs.size,dO its cnt) (List.mem_append_right _ (List.mem_append_left _ List.mem_cons_self))
     refine wpAny_bind (append_at zD (fun h8 sb8 d8=>wpAny_pure (wpAny_pure ⟨rfl,?_⟩)) (by rw [List.size_toArray];omega))
     have I7':Inv Y [] (some xv :: aQ σ caps) H7 s7:=I7.pins_of fun p hp=>nomatch hp
     have I8:Inv Y [] (some xv :: aQ σ caps) H7 { s7 with heap:=h8 }:=I7'.turned (t':=s7.toks) (fun b ob hb e=>(sb8.2 b hb).trans e) hD7 hDl7 (.inl (by rw [yex];exact List.mem_cons_self)) (fun y c e=>hDc y c (ycl y c e)) (fun p hp=>by
      rw [ypn,List.append_nil] at hp
      exact hDp p hp)
     have I9:Inv Y [(s2.heap.objs.size,dO (its ++ [yv]) (cnt+1))] (some xv :: aQ σ caps) H7 { s7 with heap:=h8 }:=I8.pins_of fun p hp=>by
      have e:p=(s2.heap.objs.size,dO (its ++ [yv]) (cnt+1)):=by simpa using hp
      subst e
      refine ⟨?_,hD7,hDl7,hDf7,fun v z=>nomatch z⟩
      show h8.get? s2.heap.objs.size=some { cls:=.type "list",data:=.seq (its ++ [yv]).toArray (cnt+1) }
      rw [d8,List.push_toArray]
     refine ⟨n0+1 - (i+1),by omega,i+1,ysV ++ [y],its ++ [yv],cnt+1,H7,some xv,rfl,I9,?_,?_,vv.append (.cons r7 .nil),by rw [List.length_append];show ysV.length+1<=i+1;omega,hlt,w7⟩
     ·refine T.keep _ _ _ st5 fun b hb ob e=>(sb8.2 b (Nat.ne_of_lt (hfl b hb))).trans ?_
      exact (I7.pin (b,ob) (List.mem_append_right _ (List.mem_append_right _ (dH hb e)))).1
     ·intro b hb
      obtain ⟨ob,e,_⟩:=T.obj _ _ st5 b hb
      exact (I7.pin (b,ob) (List.mem_append_right _ (List.mem_append_right _ (dH hb e)))).2.1
 exact codeAny_compStart_list (loop _ rfl) (T.self _ 0 _ _ _ st4 (loop _ rfl))
theorem Zn {wi:TI} {FS:Scope} {N:List Str} (S0:iM FS scope N x ys caps) (hFS:X.env.scope=FS) (hN0:X.N=N) (hcalm:X.calm=true) (hi:PI X (.Name x px) iter wi) (hT:∀ s H ex pn,PT (cL X scope (x :: ys) s H ex pn) tst tt) (he:∀ s H ex pn,PE (cL X scope (x :: ys) s H ex pn) elt te)
  (hs:∀ v,foldedSetIterable iter X.env v=pure v:=by intro _;rfl):PE X (.ListComp elt [⟨.Name x px,iter,[tst],0⟩] scope pos) (uE wi caps tt te):=by
 have S:iM X.env.scope scope X.N x ys caps:=by rw [hFS,hN0];exact S0
 intro pins s σ H Q I h
 rw [eval_ListComp]
 refine wpAny_comprehension_free (use:=none) rfl hs (iB (S.cells I)) S.kind S.names (thn (hi pins s σ H _ I h) fun v s1 h1=>thn h1 fun itv s2 h2=>?_)
 obtain ⟨it,fp,tn,J,H2,rfl,I2,T,st2,f2,rd⟩:=h2
 refine Kd (RR:=fun acc C=>compPost (model X.prog X.w) X.A X.xe none (EP X pins σ Q) acc C) hcalm S hT he I2 T st2 f2 rd ?_
 intro C ysV its n H8 s8 m hC I8 hD hC8 vv hz oD hn fin
 refine ⟨m,hn,fun h' sb=>?_⟩
 have sz:=I2.sz
 have lt:=I2.lt
 have ap:∀ b:Addr,b < s2.heap.objs.size->b≠C/\C≠b:=fun b hb=>by
  subst hC
  exact ⟨Nat.ne_of_lt (Nat.lt_succ_of_lt hb),Nat.ne_of_gt (Nat.lt_succ_of_lt hb)⟩
 have szC:X.s₀.heap.objs.size<=C:=by subst hC;exact Nat.le_succ_of_le sz
 have DC:s2.heap.objs.size≠C:=by subst hC;exact Nat.ne_of_lt (Nat.lt_succ_self _)
 have cl:∀ y c,X.env.cells.lookup y=some c->c < s2.heap.objs.size:=fun y c e=>by
  obtain ⟨w',z⟩:=I2.cell y c e
  exact z.lt
 have pl:∀ p∈X.pn ++ pins,p.1 < s2.heap.objs.size:=fun p hp=>Heap.lt_size (I2.pin p hp).1
 have I9:Inv X pins σ H8 { s8 with heap:=h' }:=I8.turned (t':=s8.toks) (fun b o hb e=>(sb.2 b hb).trans e) hC8 (ap _ lt).2 (.inr szC) (fun y c e=>(ap c (cl y c e)).1) (fun p hp=>(ap p.1 (pl p hp)).1)
 have oD':h'.get? s2.heap.objs.size=some (dO its n):=(sb.2 _ DC).trans oD
 exact ⟨.ref s2.heap.objs.size,upd H8 s2.heap.objs.size (.lst ysV),I9.adopt hD sz (Nat.ne_of_gt lt) (fun y c e=>Nat.ne_of_lt (cl y c e)) (fun p hp=>Nat.ne_of_lt (pl p hp)) ⟨hz,its,n,vv,oD'⟩,rfl,fin _ hD⟩
theorem Dp {wi:TI} {FS:Scope} {N:List Str} {i:Nat} {y:Str} {py spos:Pos} (S0:iM FS scope N x ys caps) (hFS:X.env.scope=FS) (hN0:X.N=N) (hcalm:X.calm=true) (hN:X.N.Nodup) (hy:X.N[i]?=some y) (hl:Loc X.env.scope y) (hi:PI X (.Name x px) iter wi) (hT:∀ s H ex pn,PT (cL X scope (x :: ys) s H ex pn) tst tt) (he:∀ s H ex pn,PE (cL X scope (x :: ys) s H ex pn) elt te)
  (hsw:swapsWith (.ListComp elt [⟨.Name x px,iter,[tst],0⟩] scope pos) (some (.Name y py)) spos.line X.env=pure true:=by rfl)
  (hs:∀ v,foldedSetIterable iter X.env v=pure v:=by intro _;rfl) (hf:X.fn y=true∨X.env.scope.names.lookup y=some .local:=by first | exact .inl rfl | exact .inr rfl | assumption) :
  PS X (.Assign [.Name y py] (.ListComp elt [⟨.Name x px,iter,[tst],0⟩] scope pos) spos) (bH (uE wi caps tt te) (aK i)):=by
 have S:iM X.env.scope scope X.N x ys caps:=by rw [hFS,hN0];exact S0
 intro pins s σ H D I h
 rw [exec_Assign_Name_used _ _ _ _ hsw]
 refine wpAny_bind (wpAny_standAt (wpAny_bind ?_))
 show wpAny _ X.A (do let _ ← comprehension (.ListComp elt [⟨.Name x px,iter,[tst],0⟩] scope pos) scope X.env _ (newList []) false (eval iter X.env) (some (assign (.Name y py) X.env))) _ _ s
 refine wpAny_bind (wpAny_mono (wpAny_comprehension_free (use:=some (assign (.Name y py) X.env)) (Q:=fun _ s'=>SP X pins D .next s') rfl hs (iB (S.cells I)) S.kind S.names
  (thn (hi pins s σ H _ I h) fun v s1 h1=>thn h1 fun itv s2 h2=>?_)) (fun _ s' hq=>wpAny_pure (wpAny_pure hq)) fun _ _ e=>e)
 obtain ⟨it,fp,tn,J,H2,rfl,I2,T,st2,f2,rd⟩:=h2
 refine Kd (RR:=fun acc C=>compPost (model X.prog X.w) X.A X.xe (some (assign (.Name y py) X.env)) (fun _ s'=>SP X pins D .next s') acc C) hcalm S hT he I2 T st2 f2 rd ?_
 intro C ysV its n H8 s8 m hC I8 hD hC8 vv hz oD hn fin
 have sz:=I2.sz
 have lt:=I2.lt
 have ap:∀ b:Addr,b < s2.heap.objs.size->b≠C/\C≠b:=fun b hb=>by
  subst hC
  exact ⟨Nat.ne_of_lt (Nat.lt_succ_of_lt hb),Nat.ne_of_gt (Nat.lt_succ_of_lt hb)⟩
 have szC:X.s₀.heap.objs.size<=C:=by subst hC;exact Nat.le_succ_of_le sz
 have DC:C≠s2.heap.objs.size:=by subst hC;exact Nat.ne_of_gt (Nat.lt_succ_self _)
 have cl:∀ y c,X.env.cells.lookup y=some c->c < s2.heap.objs.size:=fun y c e=>by
  obtain ⟨w',z⟩:=I2.cell y c e
  exact z.lt
 have pl:∀ p∈X.pn ++ pins,p.1 < s2.heap.objs.size:=fun p hp=>Heap.lt_size (I2.pin p hp).1
 have I9:Inv X pins σ (upd H8 s2.heap.objs.size (.lst ysV)) s8:=I8.adopt hD sz (Nat.ne_of_gt lt) (fun y c e=>Nat.ne_of_lt (cl y c e)) (fun p hp=>Nat.ne_of_lt (pl p hp)) ⟨hz,its,n,vv,oD⟩
 show wpAny (model X.prog X.w) X.A (assign (.Name y py) X.env (.ref s2.heap.objs.size)) _ _ s8
 refine wpAny_assign_Name (Cc (v:=.ref s2.heap.objs.size) I9 hN hy hl rfl (fun s9 I10 ⟨a,sa,ha⟩=>?_) hf)
 have hCa:C≠a:=by
  rcases ha with rfl | e
  ·exact (ap _ lt).2
  ·exact (ap _ (cl _ _ e)).2
 refine ⟨m,hn.sameBut sa hCa,fun h' sb=>⟨_,_,I10.turned (t':=s9.toks) (fun b o hb e=>(sb.2 b hb).trans e) ?_ (ap _ lt).2 (.inr szC) (fun y c e=>(ap c (cl y c e)).1) (fun p hp=>(ap p.1 (pl p hp)).1),fin _ hD⟩⟩
 rw [cA DC]
 exact hC8
end
end L2
namespace L2
open PySem PySem.Spec PyProof.Rows
section
variable {X:Cx}
noncomputable def isB2 (x:V) (H:Hp) (T:String) (b:Bool):Prop:=isB x H T b∨(∃ p xs,x=.ref p/\H p=some (.lst xs)/\T="list" /\ b=true)
noncomputable def Je:List V->Hp->VK->Prop:=fun xs H Q=>∃ x T b,xs=[x,.ty T]/\isB2 x H T b/\Q (.bl b) H
theorem kit_ll (K:PySem.W.Frag):PySem.W.kitOne K (.type "list") (.type "list")=some true:=by rfl
theorem Ki:qL X (.builtin "isinstance") Je:=by
 intro pins s σ H xs us Q I r h
 obtain ⟨x,T,b,rfl,hb,q⟩:=h
 rcases hb with hb | ⟨p,ys,rfl,hp,rfl,rfl⟩
 ·exact Gh pins s σ H _ us Q I r ⟨x,T,b,rfl,hb,q⟩
 ·obtain ⟨u,c,rfl,ru,rc⟩:=Nx r
  obtain rfl:c=Value.type "list":=rc
  exact qU I ru (.lst hp) (kit_ll _) fun tk=>⟨.bl true,H,I.tok _,rfl,q⟩
end
section
variable {prog:Program} {w:World} {A:Around} {E:Value->Shared->Prop} {s:Shared}
variable {R:Result->Shared->Prop} {I:Addr} {fp wr:List Addr} {G:Array GenState->Array GenState->Prop} {n:Nat} {P:Nat->Value->Prop} {St:Nat->Shared->Prop}
end
section
variable {X:Cx}
end
end L2
namespace L2
open PySem PySem.Spec PyProof.Rows
theorem bt_zip:bootBuiltins "zip" = some (.type "zip"):=by decide +kernel
noncomputable def Itz (K:PySem.W.Frag) (a b:Addr):It :=
 ⟨fun i H=>∃ xs x ys y,SqL K H a xs/\xs[i]?=some x/\SqL K H b ys/\ys[i]?=some y,
  fun i H v H'=>∃ p x y,v=.ref p/\H p=none/\H'=upd H p (.tup [x,y])/\(∀ xs,SqL K H a xs->xs[i]?=some x)/\(∀ ys,SqL K H b ys->ys[i]?=some y),
  fun i H=>∃ xs ys,SqL K H a xs/\SqL K H b ys/\(xs.length<=i∨ys.length<=i)⟩
noncomputable def nU (K:PySem.W.Frag) (t:TA):TI:=fun σ H R=>t σ H fun vs H1=>∃ a b,vs=[.ref a,.ref b]/\(∃ xs,SqL K H1 a xs)/\(∃ ys,SqL K H1 b ys)/\R (Itz K a b) H1
theorem Yt {P:Program} {w:World} {K:PySem.W.Frag} {elts:List Expr} {k:Nat} {tp:Pos} (a b z TI TO i1 i2:Addr) (D:ZipApart z TI TO i1 i2 a b) :
  Kq P w K (.Tuple elts k tp) (Itz K a b) [z,TI,TO,i1,i2] z (fun i h=>IsZip h z TI TO .none/\IsPair h TI (.ref i1) (.ref i2)/\(∃ u v,IsPair h TO u v)/\h.IsListIter i1 a i/\h.IsListIter i2 b i) where
 mem:=by simp
 obj:=fun i h st c hc=>by
  obtain ⟨hz,hTI,⟨u,v,hTO⟩,⟨o1,e1,c1,d1⟩,⟨o2,e2,c2,d2⟩⟩:=st
  have q:c=z∨c=TI∨c=TO∨c=i1∨c=i2:=by simpa using hc
  rcases q with rfl | rfl | rfl | rfl | rfl
  ·exact ⟨_,hz,fun v z=>nomatch z⟩
  ·exact ⟨_,hTI,fun v z=>nomatch z⟩
  ·exact ⟨_,hTO,fun v z=>nomatch z⟩
  ·exact ⟨o1,e1,fun v z=>by rw [d1] at z;cases z⟩
  ·exact ⟨o2,e2,fun v z=>by rw [d2] at z;cases z⟩
 keep:=fun i h h' st kp=>by
  obtain ⟨hz,hTI,⟨u,v,hTO⟩,h1,h2⟩:=st
  exact ⟨kp z (by simp) _ hz,kp TI (by simp) _ hTI,⟨u,v,kp TO (by simp) _ hTO⟩,h1.at fun o q=>kp i1 (by simp) o q,h2.at fun o q=>kp i2 (by simp) o q⟩
 item:=by
  intro X hP hw hK hc i pins s σ H E I hf st hg
  subst hP hw hK
  obtain ⟨xs,x,ys,y,hq,hx,hr,hy⟩:=hg
  obtain ⟨its,rv,p,hz'⟩:=I.list hq
  obtain ⟨jts,sv,r,hw'⟩:=I.list hr
  obtain ⟨u,hu,ru⟩:=rv.get hx
  obtain ⟨v,hv,rw'⟩:=sv.get hy
  obtain ⟨hz,hTI,⟨u0,v0,hTO⟩,h1,h2⟩:=st
  refine wpAny_pyNext_zip_item D hz hTI hTO h1 h2 p.isList r.isList (x:=u) (y:=v) (by simpa using hu) (by simpa using hv) fun g a1 a2 a3 a4 a5 a6 kp=>⟨_,rfl,?_⟩
  refine wpAny_letOwnedTupleGo_zip (s:={ s with heap:=g }) a1 fun g2 en sb=>?_
  have sb':Heap.SameBut z g g2:=sb
  have lt:∀ {c:Addr} {o:Obj},s.heap.get? c=some o->c < s.heap.objs.size:=fun e=>Heap.lt_size e
  have lz:=lt hz
  have lTI:=lt hTI
  have lTO:=lt hTO
  have l1:i1 < s.heap.objs.size:=by obtain ⟨_,e,_⟩:=h1;exact lt e
  have l2:i2 < s.heap.objs.size:=by obtain ⟨_,e,_⟩:=h2;exact lt e
  have I1:Inv X pins σ H { s with heap:=g2,toks:=s.toks }:=I.turnedL (ch:=[z,TI,TO,i1,i2]) (fun c o hb q=>by
   have hb':c≠z/\c≠TI/\c≠TO/\c≠i1/\c≠i2:=by simpa using hb
   exact (sb'.2 c hb'.1).trans (kp c o hb'.1 hb'.2.2.1 hb'.2.2.2.1 hb'.2.2.2.2 q)) hf
  have hTn:H s.heap.objs.size=none:=I.hok.fresh (Nat.le_refl _)
  have tup2:g2.get? s.heap.objs.size=some { cls:=.type "tuple",data:=.seq #[u,v] }:=(sb'.2 _ (Nat.ne_of_gt lz)).trans a5
  have I2:Inv X pins σ (upd H s.heap.objs.size (.tup [x,y])) { s with heap:=g2,toks:=s.toks }:=I1.adopt hTn I.sz (Nat.ne_of_gt I.lt) (fun n c q=>by
   obtain ⟨v,z⟩:=I.cell n c q
   exact Nat.ne_of_lt z.lt) (fun q hq=>Nat.ne_of_lt (Heap.lt_size (I.pin q hq).1)) ⟨by show 2<=sizeLine;decide,[u,v],.cons ru (.cons rw' .nil),⟨_,tup2,rfl,_,rfl⟩⟩
  refine ⟨.ref s.heap.objs.size,_,I2,rfl,⟨_,x,y,rfl,hTn,rfl,fun zs hy'=>by rw [I.list_inj hy' hq];exact hx,fun zs hy'=>by rw [I.list_inj hy' hr];exact hy⟩,⟨en,?_,⟨_,_,(sb'.2 _ D.TOz).trans a2⟩,?_,?_⟩,fun c hb=>?_⟩
  ·exact (sb'.2 _ D.TIz).trans (kp _ _ D.TIz D.TITO D.TIi1 D.TIi2 hTI)
  ·obtain ⟨o,q,t⟩:=a3
   exact ⟨o,(sb'.2 _ D.i1z).trans q,t⟩
  ·obtain ⟨o,q,t⟩:=a4
   exact ⟨o,(sb'.2 _ D.i2z).trans q,t⟩
  ·have hb0:=(hf c hb).1
   have q:c=z∨c=TI∨c=TO∨c=i1∨c=i2:=by simpa using hb
   have hlt:c < s.heap.objs.size:=by rcases q with rfl | rfl | rfl | rfl | rfl <;> assumption
   rw [cA (Nat.ne_of_lt hlt)]
   exact hb0
 done:=by
  intro X hP hw hK hc i pins s σ H E I hf st hg
  subst hP hw hK
  obtain ⟨xs,ys,hq,hr,hx⟩:=hg
  obtain ⟨its,rv,p,hz'⟩:=I.list hq
  obtain ⟨jts,sv,r,hw'⟩:=I.list hr
  obtain ⟨hz,hTI,⟨u0,v0,hTO⟩,h1,h2⟩:=st
  have l1:=rv.length
  have l2:=sv.length
  refine wpAny_pyNext_zip_end (I.ok.hd hc) D hz hTI hTO h1 h2 p.isList r.isList (by simp;omega) fun g kp=>⟨rfl,?_⟩
  exact I.turnedL (t':=s.toks) (ch:=[z,TI,TO,i1,i2]) (fun c o hb q=>by
   have hb':c≠z/\c≠TI/\c≠TO/\c≠i1/\c≠i2:=by simpa using hb
   exact kp c o hb'.1 hb'.2.2.1 hb'.2.2.2.1 hb'.2.2.2.2 q) hf
 self:=fun _ _ _ _ _ st h=>wpAny_pyIter_zip st.1 h
theorem Vg {n l1 l2:Nat} (h1:l1 < n) (h2:l2 < n):ZipApart (n+4) (n+2) (n+3) n (n+1) l1 l2:=by
 constructor <;> (intro e;have e2:(_:Nat)=_:=e;omega)
section
variable {X:Cx}
theorem oS {elts:List Expr} {k:Nat} {tp:Pos} {a b:Expr} {t:TA} {p pos:Pos} (hg:Gl X "zip") (hm:X.mg "zip" = none) (hl:PA X [a,b] t)
  (he:starEach (a :: [b]) X.env=(false,eval a X.env) :: starEach [b] X.env:=by rfl) (hpl:(backTo pos (starEach [b] X.env)).any (·.1)=false:=by rfl):PI X (.Tuple elts k tp) (.Call (.Name "zip" p) [a,b] [] pos) (nU X.K t):=by
 intro pins s σ H R I h
 refine wpAny_Call_Name_kw (rX I hg hm bt_zip ?_)
 refine PyProof.Rows.callWith_type1 (thn (hl pos pins s σ H _ I h) fun us s1 ⟨vs,H1,I1,r1,q1⟩=>?_) he hpl
 obtain ⟨l1,l2,e0,⟨xs,hq⟩,⟨ys,hr⟩,q⟩:=q1
 subst e0
 cases r1 with
 | cons ra r1 =>
 cases r1 with
 | cons rb r1 =>
 cases r1
 cases ra
 cases rb
 obtain ⟨its,rv,pl,hz'⟩:=I1.list hq
 obtain ⟨jts,sv,pm,hw'⟩:=I1.list hr
 have lt1:l1 < s1.heap.objs.size:=by obtain ⟨o,e,_⟩:=pl.isList;exact Heap.lt_size e
 have lt2:l2 < s1.heap.objs.size:=by obtain ⟨o,e,_⟩:=pm.isList;exact Heap.lt_size e
 refine call_zip_2 pl.isList pm.isList fun g hz hTI hTO h1 h2 hsz hk=>?_
 refine wpAny_pyIter_zip hz ?_
 have I2:Inv X pins σ H1 { s1 with heap:=g }:=I1.kept (t':=s1.toks) hk
 refine ⟨s1.heap.objs.size+4,[s1.heap.objs.size+4,s1.heap.objs.size+2,s1.heap.objs.size+3,s1.heap.objs.size,s1.heap.objs.size+1],_,Itz X.K l1 l2,H1,rfl,I2,Yt l1 l2 _ _ _ _ _ (Vg lt1 lt2),⟨hz,hTI,⟨_,_,hTO⟩,h1,h2⟩,fun c hc=>?_,q⟩
 have z:c=s1.heap.objs.size+4∨c=s1.heap.objs.size+2∨c=s1.heap.objs.size+3∨c=s1.heap.objs.size∨c=s1.heap.objs.size+1:=by simpa using hc
 have hle:s1.heap.objs.size<=c:=by rcases z with rfl | rfl | rfl | rfl | rfl <;> omega
 exact I1.fpOk hle (I1.hok.fresh hle)
end
theorem for_zip {K:PySem.W.Frag} {a b:Addr} {xs ys:List V} {g:TG} {tb:TS} {D:Be} {σ:St} {H:Hp} (Pv:Nat->St->Hp->Prop) (h0:Pv 0 σ H) (hl:∀ i σ H,i<=xs.length->Pv i σ H->SqL K H a xs/\SqL K H b ys) (he:xs.length=ys.length)
  (hs:∀ i x y p σ H,xs[i]?=some x->ys[i]?=some y->Pv i σ H->H p=none->g (.ref p) σ (upd H p (.tup [x,y])) fun σ2 H2=>tb { D with nx:=Pv (i+1),ct:=Pv (i+1),bk:=D.nx } σ2 H2) (hd:∀ σ H,Pv xs.length σ H->D.nx σ H) :
  ∃ W:Nat->Nat->St->Hp->Prop,(∃ m,W 0 m σ H)/\∀ i m σ H,W i m σ H ->
   ((Itz K a b).stop i H/\D.nx σ H)∨((Itz K a b).go i H/\∃ N:St->Hp->Prop,(∀ σ' H',N σ' H'->∃ m',m' < m/\W (i+1) m' σ' H')/\∀ x H',(Itz K a b).yld i H x H'->g x σ H' fun σ2 H2=>tb { D with nx:=N,ct:=N,bk:=D.nx } σ2 H2):=by
 refine ⟨fun i m σ H=>m=xs.length - i/\i<=xs.length/\Pv i σ H,⟨xs.length,by simp,Nat.zero_le _,h0⟩,?_⟩
 rintro i m σ H ⟨rfl,hi,p⟩
 obtain ⟨q,r⟩:=hl i σ H hi p
 by_cases hlt:i < xs.length
 ·have hlt2:i < ys.length:=by omega
  refine .inr ⟨⟨xs,xs[i],ys,ys[i],q,by simp [hlt],r,by simp [hlt2]⟩,Pv (i+1),fun σ' H' p'=>⟨xs.length - (i+1),by omega,rfl,hlt,p'⟩,fun x H' y=>?_⟩
  obtain ⟨pp,x',y',e1,e2,e3,y1,y2⟩:=y
  subst e1 e3
  exact hs i x' y' pp σ _ (y1 xs q) (y2 ys r) p e2
 ·have e:i=xs.length:=by omega
  subst e
  exact .inl ⟨⟨xs,ys,q,r,.inl (Nat.le_refl _)⟩,hd σ H p⟩
end L2
namespace L2
open PySem PySem.Spec PyProof.Rows
structure gH (FS scope:Scope) (N:List Str) (xs ys:List Str) (caps:List Nat):Prop where
 ncell:∀ y∈scope.names,y.2≠.cell
 kind:scope.kind=.function
 names:∀ y∈scope.names,y.2=.local->scope.names.lookup y.1=some .local
 fr:∀ p∈scope.names,p.2=.free->FS.names.lookup p.1=some .cell
 fk:FS.kind=.function
 cap:∀ p∈ys.zip caps,N[p.2]?=some p.1/\scope.names.lookup p.1=some .free
 len:ys.length=caps.length
noncomputable def kU (J:It) (σ:St) (k:Nat) (caps:List Nat) (g:TG) (te:TE) (H1:Hp) (fin:List V->Hp->Prop):Prop :=
 ∃ (n:Nat) (W:Nat->List V->Hp->Prop),n<=sizeLine/\W 0 [] H1/\∀ i ys H2,i<=n->ys.length=i->W i ys H2 ->
  (J.stop i H2/\fin ys H2)∨(i < n/\J.go i H2/\∀ x H3,J.yld i H2 x H3->∀ os:St,os.length=k->g x (os ++ aQ σ caps) H3 fun σ2 H4=>(∃ os':St,os'.length=k/\σ2=os' ++ aQ σ caps)/\te σ2 H4 fun y H5=>W (i+1) (ys ++ [y]) H5)
noncomputable def fY (wi:TI) (k:Nat) (caps:List Nat) (g:TG) (te:TE):TE:=fun σ H Q=>wi σ H fun J H1=>kU J σ k caps g te H1 fun ys H2=>∀ p,H2 p=none->Q (.ref p) (upd H2 p (.lst ys))
section
variable {X:Cx} {scope:Scope} {xs ys:List Str} {caps:List Nat}
theorem gH.cells {pins:List (Addr×Obj)} {σ:St} {H:Hp} {s:Shared} (S:gH X.env.scope scope X.N xs ys caps) (I:Inv X pins σ H s):∀ p∈scope.names,p.2=.free->∃ c,X.env.cells.lookup p.1=some c:=fun p hp hf =>
 I.ok.has p.1 (.inl (S.fr p hp hf))
theorem gH.sub {pins:List (Addr×Obj)} {σ:St} {H:Hp} {s:Shared} (S:gH X.env.scope scope X.N xs ys caps) (I:Inv X pins σ H s) {y:Str} {c:Addr} (e:(fB X scope).lookup y=some c):X.env.cells.lookup y=some c :=
 sQ (S.cells I) (fun p hp=>absurd hp (by simp)) (y,c) (PySem.mem_of_lookup e)
theorem Inv.enterG {pins:List (Addr×Obj)} {σ:St} {H:Hp} {s:Shared} {h₁:Heap} {ex:List Addr} {tk:Nat} {pl:List (Addr×Obj)} (S:gH X.env.scope scope X.N xs ys caps) (hcalm:X.calm=true) (I:Inv X pins σ H s)
  (hn:h₁.Ns s.heap.objs.size (fun _=>none)) (keep:∀ b o,s.heap.get? b=some o->h₁.get? b=some o)
  (hex:∀ b∈ex,b < s.heap.objs.size/\b∉frs X.stack/\(∀ y c,X.env.cells.lookup y=some c->c≠b)/\X.base.get? b=none)
  (hpl:∀ p∈pl,s.heap.get? p.1=some p.2/\H p.1=none/\p.1∉frs X.stack/\∀ v,p.2.data≠.cell v) :
  Inv (cL X scope (xs ++ ys) s H ex (X.pn ++ pins)) pl (xs.map (fun _=>none) ++ aQ σ caps) H { s with heap:=h₁,toks:=tk }:=by
 have hL:s.heap.objs.size≠X.env.locals:=Nat.ne_of_gt I.lt
 have hCn:∀ b o,s.heap.get? b=some o->b≠s.heap.objs.size:=fun b o e=>Nat.ne_of_lt (Heap.lt_size e)
 have cellLt:∀ y c,X.env.cells.lookup y=some c->c < s.heap.objs.size:=fun y c e=>by
  obtain ⟨v,z⟩:=I.cell y c e
  exact z.lt
 have cellUp:∀ {c:Addr} {v:Option Value},s.heap.IsCell c v->h₁.IsCell c v:=fun {c v} ⟨o,ho,hd⟩=>⟨o,keep c o ho,hd⟩
 refine ⟨⟨I.ok.mod,S.kind,I.ok.glob,I.ok.blt,Nat.le_refl _,fun y z c h1 h2=>I.ok.inj y z c (S.sub I h1) (S.sub I h2),fun y hy=>?_,fun y c hf _=>?_,fun _=>I.ok.hd hcalm,I.ok.frames,.inl rfl,fun b hb=>?_,I.bs,Nat.le_trans I.ok.bsz I.sz,fun b o e hb=>?_,fun b hb=>(hex b hb).2.1,I.stack,I.stkFree⟩,
  rfl,I.bare,Un.kept keep,⟨_,hn,fun i y v e1 e2 e3=>?_⟩,fun y c e=>?_,I.hok.fresh (Nat.le_refl _),fun y c e=>I.freeC y c (S.sub I e),fun p hp=>?_,I.hok.kept keep,?_⟩
 ·have hy':(y,NameKind.free)∈scope.names:=yJ (env:=X.env) S.ncell (by
   rcases hy with hy | hy
   ·exact ⟨_,hy,.inl rfl⟩
   ·exact ⟨_,hy,.inr rfl⟩)
  exact gF (kD hy')
 ·exact absurd (show false=true from hf) Bool.false_ne_true
 ·exact ⟨Nat.ne_of_lt (hex b hb).1,fun y c e=>(hex b hb).2.2.1 y c (S.sub I e)⟩
 ·have z:=(hex b hb).2.2.2
  have e':X.base.get? b=some o:=e
  rw [z] at e';cases e'
 ·have e1':(xs ++ ys)[i]?=some y:=e1
  obtain ⟨i,e1,e2⟩:∃ i',ys[i']?=some y/\(aQ σ caps)[i']?=some (some v):=by
   by_cases hi:i < xs.length
   ·rw [List.getElem?_append_left (by rw [List.length_map];exact hi),List.getElem?_map,List.getElem?_eq_getElem hi] at e2
    cases e2
   ·rw [List.getElem?_append_right (by omega)] at e1'
    rw [List.getElem?_append_right (by rw [List.length_map];omega),List.length_map] at e2
    exact ⟨_,e1',e2⟩
  obtain ⟨j,hj,hv⟩:∃ j,caps[i]?=some j/\σ[j]?=some (some v):=by
   unfold aQ at e2
   rw [List.getElem?_map] at e2
   cases q:caps[i]? with
   | none=>rw [q] at e2;cases e2
   | some j =>
    rw [q] at e2
    have e3:(σ[j]?).join=some v:=Option.some.inj e2
    cases q2:σ[j]? with
    | none=>rw [q2] at e3;cases e3
    | some w'=>rw [q2] at e3;exact ⟨j,rfl,by rw [show w'=some v from e3] at q2;exact q2⟩
  have hz:(y,j)∈ys.zip caps:=List.mem_of_getElem? (i:=i) (by rw [List.getElem?_zip_eq_some];exact ⟨e1,hj⟩)
  obtain ⟨hN,hf⟩:=S.cap (y,j) hz
  have hcellX:X.env.kindOf y=some .cell:=S.fr (y,.free) (PySem.mem_of_lookup hf) rfl
  obtain ⟨m,hm,hl⟩:=I.loc
  obtain ⟨u,r,l⟩:=hl j y v hN hv (.inr (.inl hcellX))
  refine ⟨u,r,?_⟩
  rcases l with ⟨hk,_⟩ | ⟨_,c,hc,hcell⟩
  ·rw [hcellX] at hk;cases hk
  ·obtain ⟨c',hc'⟩:=gF (kD (env:=X.env) (cs:=[]) (PySem.mem_of_lookup hf))
   have:=S.sub I hc'
   rw [hc] at this
   cases this
   exact .inr ⟨.inl (jF S.fk hf hcellX),c,hc',cellUp hcell⟩
 ·obtain ⟨v,z⟩:=I.cell y c (S.sub I e)
  exact ⟨v,cellUp z⟩
 ·rcases List.mem_append.mp hp with hp | hp
  ·obtain ⟨a1,a2,a3,a4,a5⟩:=I.pin p hp
   exact ⟨keep _ _ a1,a2,hCn _ _ a1,fun z=>(List.mem_cons.mp (I.stkSub p.1 z)).elim a3 a4,a5⟩
  ·obtain ⟨a1,a2,a4,a5⟩:=hpl p hp
   exact ⟨keep _ _ a1,a2,hCn _ _ a1,a4,a5⟩
 ·show (xs.map (fun _=>none) ++ aQ σ caps).length=(xs ++ ys).length
  rw [List.length_append,List.length_append,List.length_map,aQ,List.length_map,S.len]
end
section
variable {X:Cx} {scope:Scope} {xs ys:List Str} {caps:List Nat} {elt iter tg:Expr} {te:TE} {g:TG} {pos:Pos}
theorem Ke {pins:List (Addr×Obj)} {σ:St} {H2:Hp} {s2:Shared} {J:It} {fp:List Addr} {it:Addr} {tn:Nat->Heap->Prop} {E:Value->Shared->Prop} {fin:List V->Hp->Prop} {RR:Value->Addr->Result->Shared->Prop}
  (hcalm:X.calm=true) (S:gH X.env.scope scope X.N xs ys caps) (hg:∀ s H ex pn,PG (cL X scope (xs ++ ys) s H ex pn) tg g) (he:∀ s H ex pn,PE (cL X scope (xs ++ ys) s H ex pn) elt te)
  (I2:Inv X pins σ H2 s2) (T:Kq X.prog X.w X.K tg J fp it tn) (st2:tn 0 s2.heap) (f2:∀ b∈fp,xP X pins H2 b) (rd:kU J σ xs.length caps g te H2 fin)
  (hRR:∀ (C:Addr) (ysV:List V) (its:List Value) (n:Nat) (H8:Hp) (s8:Shared) (m:Str->Option Value),C=s2.heap.objs.size+1->Inv X pins σ H8 s8->H8 s2.heap.objs.size=none->H8 C=none->cK ysV its->ysV.length<=sizeLine ->
   s8.heap.get? s2.heap.objs.size=some (dO its n)->s8.heap.Ns C m->fin ysV H8->RR (.ref s2.heap.objs.size) C (.ok .next) s8) :
  wpAny (model X.prog X.w) X.A (newList []) (fun acc s₃=>wpAny (model X.prog X.w) X.A (newFunctionEnv scope X.env.globals (fB X scope) [] X.env.qual none .none (some X.env)) (fun cenv s₄ =>
   codeAny (model X.prog X.w) X.A (.compStart (.ListComp elt [⟨tg,iter,[],0⟩] scope pos) 0 (.ref it) acc { cenv with scope:=relabel scope X.env }) (RR acc cenv.locals) s₄) E s₃) E s2:=by
 obtain ⟨n0,W,hn0,w0,turn⟩:=rd
 refine wpAny_newObj_type (wpAny_newFunctionEnv S.ncell (by intro y hy;simp at hy) (fun h₁ hns hsb=>?_) S.kind)
 dsimp only at hns hsb ⊢
 generalize hg3:s2.heap.push { cls:=.type "list",dict:=none,data:=.seq ([]:List Value).toArray }=g3 at hns hsb ⊢
 have hC:g3.objs.size=s2.heap.objs.size+1:=by rw [← hg3,Heap.size_push]
 have up3:∀ b o,s2.heap.get? b=some o->g3.get? b=some o:=fun b o e=>hg3 ▸ Heap.get?_push_of_some _ e
 have I3:Inv X pins σ H2 { s2 with heap:=g3 }:=I2.kept (t':=s2.toks) up3
 have keep:∀ b o,g3.get? b=some o->h₁.get? b=some o:=fun b o e=>hsb.extBut b o (Nat.ne_of_lt (Heap.lt_size e)) (Heap.get?_push_of_some _ e)
 have objD:g3.get? s2.heap.objs.size=some (dO [] 0):=hg3 ▸ Heap.get?_push_size _ rfl
 have hDL:s2.heap.objs.size≠X.env.locals:=Nat.ne_of_gt I2.lt
 have hDfs:s2.heap.objs.size∉X.fs:=I2.nofs (Nat.le_refl _)
 have hDst:s2.heap.objs.size∉frs X.stack:=fun z=>(List.mem_cons.mp (I2.stkSub _ z)).elim hDL hDfs
 have hDc:∀ y c,X.env.cells.lookup y=some c->c≠s2.heap.objs.size:=fun y c e=>by
  obtain ⟨v,z⟩:=I2.cell y c e
  exact Nat.ne_of_lt z.lt
 have hDp:∀ p∈X.pn ++ pins,p.1≠s2.heap.objs.size:=fun p hp=>Nat.ne_of_lt (Heap.lt_size (I2.pin p hp).1)
 have hfl:∀ b∈fp,b < s2.heap.objs.size:=fun b hb=>by
  obtain ⟨o,e,_⟩:=T.obj _ _ st2 b hb
  exact Heap.lt_size e
 have hbz:X.base.objs.size<=X.s₀.heap.objs.size:=I2.ok.bsz
 have hch:∀ b∈s2.heap.objs.size :: fp,(b∈X.ex∨X.s₀.heap.objs.size<=b)/\b≠X.env.locals/\(∀ y c,X.env.cells.lookup y=some c->c≠b)/\∀ p∈X.pn ++ pins,p.1≠b:=fun b hb=>by
  rcases List.mem_cons.mp hb with rfl | hb
  ·exact ⟨.inr I2.sz,hDL,hDc,hDp⟩
  ·obtain ⟨a1,a2,a3,a4,a5,a6⟩:=f2 b hb
   exact ⟨a4,a2,a5,a6⟩
 have hex:∀ b∈s2.heap.objs.size :: fp,b < g3.objs.size/\b∉frs X.stack/\(∀ y c,X.env.cells.lookup y=some c->c≠b)/\X.base.get? b=none:=fun b hb=>by
  have hst:b∉frs X.stack:=by
   rcases List.mem_cons.mp hb with rfl | hb
   ·exact hDst
   ·obtain ⟨a1,a2,a3,a4,a5,a6⟩:=f2 b hb
    exact fun z=>(List.mem_cons.mp (I2.stkSub _ z)).elim a2 a3
  have hlt:b < g3.objs.size:=by
   rw [hC]
   rcases List.mem_cons.mp hb with rfl | hb
   ·exact Nat.lt_succ_self _
   ·exact Nat.lt_succ_of_lt (hfl b hb)
  refine ⟨hlt,hst,(hch b hb).2.2.1,?_⟩
  cases q:X.base.get? b with
  | none=>rfl
  | some o =>
   rcases (hch b hb).1 with z | z
   ·exact absurd z (I2.ok.noex b o q)
   ·exact absurd (Nat.lt_of_lt_of_le (Heap.lt_size q) (Nat.le_trans hbz z)) (Nat.lt_irrefl _)
 have hD2:H2 s2.heap.objs.size=none:=I2.hok.fresh (Nat.le_refl _)
 have I4:Inv (cL X scope (xs ++ ys) { s2 with heap:=g3 } H2 (s2.heap.objs.size :: fp) (X.pn ++ pins)) [(s2.heap.objs.size,dO [] 0)] (xs.map (fun _=>none) ++ aQ σ caps) H2 { s2 with heap:=h₁,toks:=s2.toks+([]:List (Str×Value)).length } :=
  Inv.enterG S hcalm I3 hns keep hex fun p hp=>by
   have e:p=(s2.heap.objs.size,dO [] 0):=by simpa using hp
   subst e
   exact ⟨objD,hD2,hDst,fun v z=>nomatch z⟩
 have st4:tn 0 h₁:=T.keep _ _ _ st2 fun b hb o e=>keep b o (up3 b o e)
 generalize hY:cL X scope (xs ++ ys) { s2 with heap:=g3 } H2 (s2.heap.objs.size :: fp) (X.pn ++ pins)=Y at I4
 have yP:Y.prog=X.prog:=by rw [← hY];rfl
 have yW:Y.w=X.w:=by rw [← hY];rfl
 have yK:Y.K=X.K:=by rw [← hY];rfl
 have yA:Y.A=X.A:=by rw [← hY];rfl
 have yC:Y.calm=true:=by rw [← hY];exact hcalm
 have yX:Y.xe=fun _ _=>False:=by rw [← hY];rfl
 have yN:Y.N=xs ++ ys:=by rw [← hY];rfl
 have yE:Y.env=compEnvC scope (fB X scope) g3.objs.size X.env:=by rw [← hY];rfl
 have yex:Y.ex=s2.heap.objs.size :: fp:=by rw [← hY];rfl
 have ypn:Y.pn=X.pn ++ pins:=by rw [← hY];rfl
 have yfs:Y.fs=frs X.stack:=by rw [← hY];rfl
 have ybase:∀ {pl σ' H' s'},Inv Y pl σ' H' s'->Un (frs X.stack) (s2.heap.objs.size :: fp) H2 H' g3 s'.heap/\s'.os=s2.os:=by
  intro pl σ' H' s' I
  rw [← hY] at I
  exact ⟨I.base,I.os⟩
 have yhg:PG Y tg g:=by rw [← hY];exact hg _ _ _ _
 have yhe:PE Y elt te:=by rw [← hY];exact he _ _ _ _
 have ycl:∀ y c,Y.env.cells.lookup y=some c->X.env.cells.lookup y=some c:=fun y c e=>by
  rw [yE] at e
  exact S.sub I2 e
 have yfp:∀ {H':Hp} {o:Obj},(∀ b∈fp,H' b=none)->∀ b∈fp,xP Y [(s2.heap.objs.size,o)] H' b:=fun {H' o} hn b hb=>by
  obtain ⟨a1,a2,a3,a4,a5,a6⟩:=f2 b hb
  refine ⟨hn b hb,?_,?_,?_,fun y c e=>a5 y c (ycl y c e),fun p hp=>?_⟩
  ·rw [yE];exact Nat.ne_of_lt (hex b (List.mem_cons_of_mem _ hb)).1
  ·rw [yfs];exact (hex b (List.mem_cons_of_mem _ hb)).2.1
  ·rw [yex];exact .inl (List.mem_cons_of_mem _ hb)
  ·rw [ypn] at hp
   rcases List.mem_append.mp hp with hp | hp
   ·exact a6 p hp
   ·have e:p=(s2.heap.objs.size,o):=by simpa using hp
    subst e
    exact Nat.ne_of_gt (hfl b hb)
 have loop:∀ s₃:Shared,s₃={ s2 with heap:=h₁,toks:=s2.toks+([]:List (Str×Value)).length } ->
   codeAny (model X.prog X.w) X.A (.compLoop (.ListComp elt [⟨tg,iter,[],0⟩] scope pos) 0 (.ref it) (.ref s2.heap.objs.size) (compEnvC scope (fB X scope) g3.objs.size X.env)) (RR (.ref s2.heap.objs.size) g3.objs.size) s₃:=by
  rintro s₃ rfl
  refine codeAny_loop rfl (fun k s'=>∃ i ysV its cnt H' os,os.length=xs.length/\k=n0+1 - i/\Inv Y [(s2.heap.objs.size,dO its cnt)] (os ++ aQ σ caps) H' s'/\tn i s'.heap/\(∀ b∈fp,H' b=none)/\cK ysV its/\ysV.length=i/\i<=n0/\W i ysV H') ?_ (n0+1)
   ⟨0,[],[],0,H2,xs.map (fun _=>none),by rw [List.length_map],rfl,I4,st4,fun b hb=>(f2 b hb).1,.nil,rfl,Nat.zero_le _,w0⟩
  rintro k s' ⟨i,ysV,its,cnt,H',os,hos,rfl,I',tni,frn,vv,hlen,hin,hw⟩
  show wpAny _ _ ((compTurn (.ListComp elt [⟨tg,iter,[],0⟩] scope pos) 0 (.ref it) (.ref s2.heap.objs.size) (compEnvC scope (fB X scope) g3.objs.size X.env)).onRaise (fun x=>do noteFrame x (compEnvC scope (fB X scope) g3.objs.size X.env);theTreesLotGoes x)) _ _ s'
  refine wpAny_noted ?_
  rw [compTurn_list1]
  have fpok:=yfp (o:=dO its cnt) frn
  rcases turn i ysV H' hin hlen hw with ⟨stop,hfin⟩ | ⟨hlt,go,step⟩
  ·refine wpAny_bind (wpAny_standAt (wpAny_bind (thn (Q:=fun r s1=>r=none/\Inv Y [(s2.heap.objs.size,dO its cnt)] (os ++ aQ σ caps) H' s1) ?_ fun r s1 ⟨hr,I1⟩=>?_)))
   ·have:=T.done Y yP yW yK yC i _ s' _ H' (notedBy (model X.prog X.w) X.A (compEnvC scope (fB X scope) g3.objs.size X.env) fun e s'=>RR (.ref s2.heap.objs.size) g3.objs.size (.error e) s') I' fpok tni stop
    rw [yA] at this
    exact this
   ·subst hr
    refine wpAny_pure ?_
    obtain ⟨ub,uo⟩:=ybase I1
    obtain ⟨m,hm,_⟩:=I1.loc
    obtain ⟨p1,p2,_⟩:=I1.pin (s2.heap.objs.size,dO its cnt) (List.mem_append_right _ List.mem_cons_self)
    have hok:HOk X.prog X.w H' s1.heap:=by have:=I1.hok;rw [yP,yW] at this;exact this
    have hCf:=I1.free
    rw [yE] at hm hCf
    refine hRR g3.objs.size ysV its cnt H' s1 m hC (I3.call' uo ub hok I1.bare hch) p2 hCf vv (by omega) p1 hm hfin
  ·refine wpAny_bind (wpAny_standAt (wpAny_bind (thn (Q:=fun r s1=>∃ u,r=some u/\wpAny (model X.prog X.w) X.A (letOwnedTupleGo tg (.ref it) u) (fun _ s5=>∃ x H5,Inv Y [(s2.heap.objs.size,dO its cnt)] (os ++ aQ σ caps) H5 s5/\cV x u/\J.yld i H' x H5/\tn (i+1) s5.heap/\∀ b∈fp,H5 b=none)
     (notedBy (model X.prog X.w) X.A (compEnvC scope (fB X scope) g3.objs.size X.env) fun e s'=>RR (.ref s2.heap.objs.size) g3.objs.size (.error e) s') s1) ?_ fun r s1 ⟨u,hr,h4⟩=>?_)))
   ·have:=T.item Y yP yW yK yC i _ s' _ H' (notedBy (model X.prog X.w) X.A (compEnvC scope (fB X scope) g3.objs.size X.env) fun e s'=>RR (.ref s2.heap.objs.size) g3.objs.size (.error e) s') I' fpok tni go
    rw [yA] at this
    exact this
   ·subst hr
    refine wpAny_bind (thn h4 fun _ s5 ⟨xv,H5,I5,r5,y5,st5,fr5⟩=>?_)
    have I5':=I5.pinned (yfp fr5) (T.obj _ _ st5)
    have sto:=yhg _ s5 _ H5 xv u _ I5' r5 (step xv H5 y5 os hos)
    rw [yP,yW,yA,yE] at sto
    refine wpAny_bind (nxE yX sto fun _ s6 ⟨σ6,H6,I6,⟨os',hos',e6⟩,t6⟩=>?_)
    subst e6
    have ev:=yhe _ s6 _ H6 _ I6 t6
    rw [yP,yW,yA,yE] at ev
    refine wpAny_bind (wpAny_bind (nxE yX ev fun yv s7 ⟨y,H7,I7,r7,w7⟩=>?_))
    obtain ⟨zD,hD7,hDl7,hDf7,_⟩:=I7.pin (s2.heap.objs.size,dO its cnt) (List.mem_append_right _ (List.mem_append_left _ List.mem_cons_self))
    have hil:=vv.length
    refine wpAny_bind (append_at zD (fun h8 sb8 d8=>wpAny_pure (wpAny_pure ⟨rfl,?_⟩)) (by rw [List.size_toArray];omega))
    have I7':Inv Y [] (os' ++ aQ σ caps) H7 s7:=I7.pins_of fun p hp=>nomatch hp
    have I8:Inv Y [] (os' ++ aQ σ caps) H7 { s7 with heap:=h8 }:=I7'.turned (t':=s7.toks) (fun b ob hb e=>(sb8.2 b hb).trans e) hD7 hDl7 (.inl (by rw [yex];exact List.mem_cons_self)) (fun y c e=>hDc y c (ycl y c e)) (fun p hp=>by
     rw [ypn,List.append_nil] at hp
     exact hDp p hp)
    have I9:Inv Y [(s2.heap.objs.size,dO (its ++ [yv]) (cnt+1))] (os' ++ aQ σ caps) H7 { s7 with heap:=h8 }:=I8.pins_of fun p hp=>by
     have e:p=(s2.heap.objs.size,dO (its ++ [yv]) (cnt+1)):=by simpa using hp
     subst e
     refine ⟨?_,hD7,hDl7,hDf7,fun v z=>nomatch z⟩
     show h8.get? s2.heap.objs.size=some { cls:=.type "list",data:=.seq (its ++ [yv]).toArray (cnt+1) }
     rw [d8,List.push_toArray]
    refine ⟨n0+1 - (i+1),by omega,i+1,ysV ++ [y],its ++ [yv],cnt+1,H7,os',hos',rfl,I9,?_,?_,vv.append (.cons r7 .nil),by rw [List.length_append,hlen];rfl,hlt,w7⟩
    ·refine T.keep _ _ _ st5 fun b hb ob e=>(sb8.2 b (Nat.ne_of_lt (hfl b hb))).trans ?_
     exact (I7.pin (b,ob) (List.mem_append_right _ (List.mem_append_right _ (dH hb e)))).1
    ·intro b hb
     obtain ⟨ob,e,_⟩:=T.obj _ _ st5 b hb
     exact (I7.pin (b,ob) (List.mem_append_right _ (List.mem_append_right _ (dH hb e)))).2.1
 exact codeAny_compStart_list (loop _ rfl) (T.self _ 0 _ _ _ st4 (loop _ rfl))
theorem Ot {wi:TI} {RD:St->VK->It->Hp->Prop} (hRD:∀ σ Q J H1,RD σ Q J H1->kU J σ xs.length caps g te H1 fun ys H2=>∀ p,H2 p=none->Q (.ref p) (upd H2 p (.lst ys))) {FS:Scope} {N:List Str} (S0:gH FS scope N xs ys caps) (hFS:X.env.scope=FS) (hN0:X.N=N) (hcalm:X.calm=true) (hi:PI X tg iter wi) (hg:∀ s H ex pn,PG (cL X scope (xs ++ ys) s H ex pn) tg g) (he:∀ s H ex pn,PE (cL X scope (xs ++ ys) s H ex pn) elt te)
  (hs:∀ v,foldedSetIterable iter X.env v=pure v:=by intro _;rfl):PE X (.ListComp elt [⟨tg,iter,[],0⟩] scope pos) (fun σ H Q=>wi σ H (RD σ Q)):=by
 have S:gH X.env.scope scope X.N xs ys caps:=by rw [hFS,hN0];exact S0
 intro pins s σ H Q I h
 rw [eval_ListComp]
 refine wpAny_comprehension_free (use:=none) rfl hs (iB (S.cells I)) S.kind S.names (thn (hi pins s σ H _ I h) fun v s1 h1=>thn h1 fun itv s2 h2=>?_)
 obtain ⟨it,fp,tn,J,H2,rfl,I2,T,st2,f2,rd⟩:=h2
 refine Ke (RR:=fun acc C=>compPost (model X.prog X.w) X.A X.xe none (EP X pins σ Q) acc C) hcalm S hg he I2 T st2 f2 (hRD _ _ _ _ rd) ?_
 intro C ysV its n H8 s8 m hC I8 hD hC8 vv hz oD hn fin
 refine ⟨m,hn,fun h' sb=>?_⟩
 have sz:=I2.sz
 have lt:=I2.lt
 have ap:∀ b:Addr,b < s2.heap.objs.size->b≠C/\C≠b:=fun b hb=>by
  subst hC
  exact ⟨Nat.ne_of_lt (Nat.lt_succ_of_lt hb),Nat.ne_of_gt (Nat.lt_succ_of_lt hb)⟩
 have szC:X.s₀.heap.objs.size<=C:=by subst hC;exact Nat.le_succ_of_le sz
 have DC:s2.heap.objs.size≠C:=by subst hC;exact Nat.ne_of_lt (Nat.lt_succ_self _)
 have cl:∀ y c,X.env.cells.lookup y=some c->c < s2.heap.objs.size:=fun y c e=>by
  obtain ⟨w',z⟩:=I2.cell y c e
  exact z.lt
 have pl:∀ p∈X.pn ++ pins,p.1 < s2.heap.objs.size:=fun p hp=>Heap.lt_size (I2.pin p hp).1
 have I9:Inv X pins σ H8 { s8 with heap:=h' }:=I8.turned (t':=s8.toks) (fun b o hb e=>(sb.2 b hb).trans e) hC8 (ap _ lt).2 (.inr szC) (fun y c e=>(ap c (cl y c e)).1) (fun p hp=>(ap p.1 (pl p hp)).1)
 have oD':h'.get? s2.heap.objs.size=some (dO its n):=(sb.2 _ DC).trans oD
 exact ⟨.ref s2.heap.objs.size,upd H8 s2.heap.objs.size (.lst ysV),I9.adopt hD sz (Nat.ne_of_gt lt) (fun y c e=>Nat.ne_of_lt (cl y c e)) (fun p hp=>Nat.ne_of_lt (pl p hp)) ⟨hz,its,n,vv,oD'⟩,rfl,fin _ hD⟩
theorem Dq {wi:TI} {RD:St->VK->It->Hp->Prop} (hRD:∀ σ Q J H1,RD σ Q J H1->kU J σ xs.length caps g te H1 fun ys H2=>∀ p,H2 p=none->Q (.ref p) (upd H2 p (.lst ys))) {FS:Scope} {N:List Str} {i:Nat} {y:Str} {py spos:Pos} (S0:gH FS scope N xs ys caps) (hFS:X.env.scope=FS) (hN0:X.N=N) (hcalm:X.calm=true) (hN:X.N.Nodup) (hy:X.N[i]?=some y) (hl:Loc X.env.scope y) (hi:PI X tg iter wi) (hg:∀ s H ex pn,PG (cL X scope (xs ++ ys) s H ex pn) tg g) (he:∀ s H ex pn,PE (cL X scope (xs ++ ys) s H ex pn) elt te)
  (hsw:swapsWith (.ListComp elt [⟨tg,iter,[],0⟩] scope pos) (some (.Name y py)) spos.line X.env=pure true:=by rfl)
  (hs:∀ v,foldedSetIterable iter X.env v=pure v:=by intro _;rfl) (hf:X.fn y=true∨X.env.scope.names.lookup y=some .local:=by first | exact .inl rfl | exact .inr rfl | assumption) :
  PS X (.Assign [.Name y py] (.ListComp elt [⟨tg,iter,[],0⟩] scope pos) spos) (bH (fun σ H Q=>wi σ H (RD σ Q)) (aK i)):=by
 have S:gH X.env.scope scope X.N xs ys caps:=by rw [hFS,hN0];exact S0
 intro pins s σ H D I h
 rw [exec_Assign_Name_used _ _ _ _ hsw]
 refine wpAny_bind (wpAny_standAt (wpAny_bind ?_))
 show wpAny _ X.A (do let _ ← comprehension (.ListComp elt [⟨tg,iter,[],0⟩] scope pos) scope X.env _ (newList []) false (eval iter X.env) (some (assign (.Name y py) X.env))) _ _ s
 refine wpAny_bind (wpAny_mono (wpAny_comprehension_free (use:=some (assign (.Name y py) X.env)) (Q:=fun _ s'=>SP X pins D .next s') rfl hs (iB (S.cells I)) S.kind S.names
  (thn (hi pins s σ H _ I h) fun v s1 h1=>thn h1 fun itv s2 h2=>?_)) (fun _ s' hq=>wpAny_pure (wpAny_pure hq)) fun _ _ e=>e)
 obtain ⟨it,fp,tn,J,H2,rfl,I2,T,st2,f2,rd⟩:=h2
 refine Ke (RR:=fun acc C=>compPost (model X.prog X.w) X.A X.xe (some (assign (.Name y py) X.env)) (fun _ s'=>SP X pins D .next s') acc C) hcalm S hg he I2 T st2 f2 (hRD _ _ _ _ rd) ?_
 intro C ysV its n H8 s8 m hC I8 hD hC8 vv hz oD hn fin
 have sz:=I2.sz
 have lt:=I2.lt
 have ap:∀ b:Addr,b < s2.heap.objs.size->b≠C/\C≠b:=fun b hb=>by
  subst hC
  exact ⟨Nat.ne_of_lt (Nat.lt_succ_of_lt hb),Nat.ne_of_gt (Nat.lt_succ_of_lt hb)⟩
 have szC:X.s₀.heap.objs.size<=C:=by subst hC;exact Nat.le_succ_of_le sz
 have DC:C≠s2.heap.objs.size:=by subst hC;exact Nat.ne_of_gt (Nat.lt_succ_self _)
 have cl:∀ y c,X.env.cells.lookup y=some c->c < s2.heap.objs.size:=fun y c e=>by
  obtain ⟨w',z⟩:=I2.cell y c e
  exact z.lt
 have pl:∀ p∈X.pn ++ pins,p.1 < s2.heap.objs.size:=fun p hp=>Heap.lt_size (I2.pin p hp).1
 have I9:Inv X pins σ (upd H8 s2.heap.objs.size (.lst ysV)) s8:=I8.adopt hD sz (Nat.ne_of_gt lt) (fun y c e=>Nat.ne_of_lt (cl y c e)) (fun p hp=>Nat.ne_of_lt (pl p hp)) ⟨hz,its,n,vv,oD⟩
 show wpAny (model X.prog X.w) X.A (assign (.Name y py) X.env (.ref s2.heap.objs.size)) _ _ s8
 refine wpAny_assign_Name (Cc (v:=.ref s2.heap.objs.size) I9 hN hy hl rfl (fun s9 I10 ⟨a,sa,ha⟩=>?_) hf)
 have hCa:C≠a:=by
  rcases ha with rfl | e
  ·exact (ap _ lt).2
  ·exact (ap _ (cl _ _ e)).2
 refine ⟨m,hn.sameBut sa hCa,fun h' sb=>⟨_,_,I10.turned (t':=s9.toks) (fun b o hb e=>(sb.2 b hb).trans e) ?_ (ap _ lt).2 (.inr szC) (fun y c e=>(ap c (cl y c e)).1) (fun p hp=>(ap p.1 (pl p hp)).1),fin _ hD⟩⟩
 rw [cA DC]
 exact hC8
theorem cX {X:Cx} {scope:Scope} {NY:List Str} {s:Shared} {H:Hp} {ex:List Addr} {pn:List (Addr×Obj)} {i:Nat} {x:Str} {px:Pos} (hN:NY.Nodup) (hi:NY[i]?=some x) (hx:scope.names.lookup x=some .local):PG (cL X scope NY s H ex pn) (.Name x px) (aK i) :=
 cW (X:=cL X scope NY s H ex pn) hN hi (.inl (lookup_relabel_local hx)) (.inr (lookup_relabel_local hx))
theorem iM.toG {FS:Scope} {N:List Str} {x:Str} (S:iM FS scope N x ys caps):gH FS scope N [x] ys caps:=⟨S.ncell,S.kind,S.names,S.fr,S.fk,S.cap,S.len⟩
theorem qC.toG {J:It} {σ:St} {te:TE} {H1:Hp} {fin:List V->Hp->Prop}:qC J σ caps te H1 fin->kU J σ 1 caps (aK 0) te H1 fin:=by
 rintro ⟨n,W,hn,h0,h⟩
 refine ⟨n,W,hn,h0,fun i ys H2 hi hy hw=>?_⟩
 rcases h i ys H2 hi hy hw with z | ⟨z1,z2,z3⟩
 ·exact .inl z
 ·refine .inr ⟨z1,z2,fun x H3 y os ho=>?_⟩
  match os,ho with
  | [o],_=>exact ⟨⟨[some x],rfl,rfl⟩,z3 x H3 y⟩
theorem oW {wi:TI} {FS:Scope} {N:List Str} (S0:gH FS scope N xs ys caps) (hFS:X.env.scope=FS) (hN0:X.N=N) (hcalm:X.calm=true) (hi:PI X tg iter wi) (hg:∀ s H ex pn,PG (cL X scope (xs ++ ys) s H ex pn) tg g) (he:∀ s H ex pn,PE (cL X scope (xs ++ ys) s H ex pn) elt te)
  (hs:∀ v,foldedSetIterable iter X.env v=pure v:=by intro _;rfl):PE X (.ListComp elt [⟨tg,iter,[],0⟩] scope pos) (fY wi xs.length caps g te):=Ot (fun _ _ _ _ h=>h) S0 hFS hN0 hcalm hi hg he hs
theorem Dr {wi:TI} {FS:Scope} {N:List Str} {i:Nat} {y:Str} {py spos:Pos} (S0:gH FS scope N xs ys caps) (hFS:X.env.scope=FS) (hN0:X.N=N) (hcalm:X.calm=true) (hN:X.N.Nodup) (hy:X.N[i]?=some y) (hl:Loc X.env.scope y) (hi:PI X tg iter wi) (hg:∀ s H ex pn,PG (cL X scope (xs ++ ys) s H ex pn) tg g) (he:∀ s H ex pn,PE (cL X scope (xs ++ ys) s H ex pn) elt te)
  (hsw:swapsWith (.ListComp elt [⟨tg,iter,[],0⟩] scope pos) (some (.Name y py)) spos.line X.env=pure true:=by rfl)
  (hs:∀ v,foldedSetIterable iter X.env v=pure v:=by intro _;rfl) (hf:X.fn y=true∨X.env.scope.names.lookup y=some .local:=by first | exact .inl rfl | exact .inr rfl | assumption) :
  PS X (.Assign [.Name y py] (.ListComp elt [⟨tg,iter,[],0⟩] scope pos) spos) (bH (fY wi xs.length caps g te) (aK i)):=Dq (RD:=fun σ Q J H1=>kU J σ xs.length caps g te H1 fun ys H2=>∀ p,H2 p=none->Q (.ref p) (upd H2 p (.lst ys))) (fun _ _ _ _ h=>h) S0 hFS hN0 hcalm hN hy hl hi hg he hsw hs hf
end
section
variable {X:Cx} {scope:Scope} {x:Str} {ys:List Str} {caps:List Nat} {elt iter:Expr} {te:TE} {px pos:Pos}
theorem cM {wi:TI} {FS:Scope} {N:List Str} (S0:iM FS scope N x ys caps) (hFS:X.env.scope=FS) (hN0:X.N=N) (hcalm:X.calm=true) (hi:PI X (.Name x px) iter wi) (he:∀ s H ex pn,PE (cL X scope (x :: ys) s H ex pn) elt te)
  (hs:∀ v,foldedSetIterable iter X.env v=pure v:=by intro _;rfl):PE X (.ListComp elt [⟨.Name x px,iter,[],0⟩] scope pos) (bO wi caps te):=Ot (xs:=[x]) (g:=aK 0) (fun _ _ _ _ h=>qC.toG h) S0.toG hFS hN0 hcalm hi (fun _ _ _ _=>cX S0.nd rfl S0.loc) he hs
theorem kC {wi:TI} {FS:Scope} {N:List Str} {i:Nat} {y:Str} {py spos:Pos} (S0:iM FS scope N x ys caps) (hFS:X.env.scope=FS) (hN0:X.N=N) (hcalm:X.calm=true) (hN:X.N.Nodup) (hy:X.N[i]?=some y) (hl:Loc X.env.scope y) (hi:PI X (.Name x px) iter wi) (he:∀ s H ex pn,PE (cL X scope (x :: ys) s H ex pn) elt te)
  (hsw:swapsWith (.ListComp elt [⟨.Name x px,iter,[],0⟩] scope pos) (some (.Name y py)) spos.line X.env=pure true:=by rfl)
  (hs:∀ v,foldedSetIterable iter X.env v=pure v:=by intro _;rfl) (hf:X.fn y=true∨X.env.scope.names.lookup y=some .local:=by first | exact .inl rfl | exact .inr rfl | assumption) :
  PS X (.Assign [.Name y py] (.ListComp elt [⟨.Name x px,iter,[],0⟩] scope pos) spos) (bH (bO wi caps te) (aK i)):=Dq (RD:=fun σ Q J H1=>qC J σ caps te H1 fun ys H2=>∀ p,H2 p=none->Q (.ref p) (upd H2 p (.lst ys))) (xs:=[x]) (g:=aK 0) (fun _ _ _ _ h=>qC.toG h) S0.toG hFS hN0 hcalm hN hy hl hi (fun _ _ _ _=>cX S0.nd rfl S0.loc) he hsw hs hf
end
end L2
namespace L2
open PySem PySem.Spec PyProof.Rows
noncomputable def Ob (K:PySem.W.Frag):List V->Hp->VK->Prop:=fun xs H Q=>∃ p ns,xs=[.ref p]/\SqL K H p (List.map V.int ns)/\ns≠[]/\∀ M,M∈ns->(∀ a∈ns,a<=M)->Q (.int M) H
noncomputable def Ff (K:PySem.W.Frag):List V->Hp->VK->Prop:=fun xs H Q=>∃ p ns,xs=[.ref p]/\SqL K H p (List.map V.int ns)/\ns≠[]/\∀ M,M∈ns->(∀ a∈ns,M<=a)->Q (.int M) H
theorem cK.ints:∀ {ns:List Int} {us:List Value},cK (List.map V.int ns) us->∃ xs:List (Int×Tok),us=xs.map (fun p=>Value.int p.1 p.2)/\xs.map (·.1)=ns
 | [],_,h=>by cases h;exact ⟨[],rfl,rfl⟩
 | n :: ns,_,h=>by
  cases h with
  | cons r t =>
   obtain ⟨tk,rfl⟩:=r
   obtain ⟨xs,e1,e2⟩:=cK.ints t
   exact ⟨(n,tk) :: xs,by rw [e1];rfl,by rw [List.map_cons,e2]⟩
theorem qQ {xs:List (Int×Tok)} {ns:List Int} (e:xs.map (·.1)=ns) (i:Nat) (h:i < ns.length):∃ n,ns[i]?=some n/\numAt xs.toArray i=n:=by
 have hx:i < xs.length:=by rw [← e,List.length_map] at h;exact h
 refine ⟨xs[i].1,by rw [← e,List.getElem?_map,List.getElem?_eq_getElem hx];rfl,?_⟩
 unfold numAt
 rw [List.getElem?_toArray,List.getElem?_eq_getElem hx]
 rfl
section
variable {X:Cx}
theorem Kg (hc:X.calm=true):qL X (.builtin "max") (Ob X.K):=by
 intro pins s σ H xs us Q I r h
 obtain ⟨p,ns,rfl,hq,hne,q⟩:=h
 obtain ⟨u,rfl,ru⟩:=yZ r
 cases ru
 obtain ⟨its,rv,pl,hz⟩:=I.list hq
 obtain ⟨ps,e1,e2⟩:=rv.ints
 have hl:ps.length=ns.length:=by rw [← e2,List.length_map]
 have hn0:0 < ns.length:=List.length_pos_iff.mpr hne
 have ei:its.toArray=intItems ps.toArray:=by rw [e1];unfold intItems;simp
 have pl':=pl.isList
 rw [ei] at pl'
 refine max_intList (I.ok.hd hc) pl' (by rw [List.size_toArray];omega) fun v h' tk hv hk=>?_
 obtain ⟨t,rfl⟩:=intItems_at hv
 obtain ⟨g1,g2⟩:=argBest_gt (numAt ps.toArray) (ps.toArray.size - 1)
 rw [List.size_toArray] at g1 g2 ⊢
 obtain ⟨M,m1,m2⟩:=qQ e2 (argBest (fun i j=>decide (numAt ps.toArray i > numAt ps.toArray j)) (ps.length - 1)) (by omega)
 rw [m2] at g2 ⊢
 refine ⟨.int M,H,I.kept hk,⟨_,rfl⟩,q M (List.mem_of_getElem? m1) fun a ha=>?_⟩
 obtain ⟨j,hj,ej⟩:=List.getElem_of_mem ha
 obtain ⟨n,n1,n2⟩:=qQ e2 j hj
 rw [List.getElem?_eq_getElem hj,ej] at n1
 cases n1
 rw [← n2]
 exact g2 j (by omega)
theorem Cj (hc:X.calm=true):qL X (.builtin "min") (Ff X.K):=by
 intro pins s σ H xs us Q I r h
 obtain ⟨p,ns,rfl,hq,hne,q⟩:=h
 obtain ⟨u,rfl,ru⟩:=yZ r
 cases ru
 obtain ⟨its,rv,pl,hz⟩:=I.list hq
 obtain ⟨ps,e1,e2⟩:=rv.ints
 have hl:ps.length=ns.length:=by rw [← e2,List.length_map]
 have hn0:0 < ns.length:=List.length_pos_iff.mpr hne
 have ei:its.toArray=intItems ps.toArray:=by rw [e1];unfold intItems;simp
 have pl':=pl.isList
 rw [ei] at pl'
 refine min_intList (I.ok.hd hc) pl' (by rw [List.size_toArray];omega) fun v h' tk hv hk=>?_
 obtain ⟨t,rfl⟩:=intItems_at hv
 obtain ⟨g1,g2⟩:=argBest_lt (numAt ps.toArray) (ps.toArray.size - 1)
 rw [List.size_toArray] at g1 g2 ⊢
 obtain ⟨M,m1,m2⟩:=qQ e2 (argBest (fun i j=>decide (numAt ps.toArray i < numAt ps.toArray j)) (ps.length - 1)) (by omega)
 rw [m2] at g2 ⊢
 refine ⟨.int M,H,I.kept hk,⟨_,rfl⟩,q M (List.mem_of_getElem? m1) fun a ha=>?_⟩
 obtain ⟨j,hj,ej⟩:=List.getElem_of_mem ha
 obtain ⟨n,n1,n2⟩:=qQ e2 j hj
 rw [List.getElem?_eq_getElem hj,ej] at n1
 cases n1
 rw [← n2]
 exact g2 j (by omega)
end
theorem Hh {K:PySem.W.Frag} {a:Addr} {xs:List V} {σ:St} {caps:List Nat} {tt:TT} {te:TE} {H1:Hp} {fin:List V->Hp->Prop} (W:Nat->List V->Hp->Prop) (hz:xs.length<=sizeLine) (h0:W 0 [] H1) (hl:∀ i ys H,i<=xs.length->W i ys H->SqL K H a xs)
  (hs:∀ i x ys H,xs[i]?=some x->ys.length<=i->W i ys H->tt (some x :: aQ σ caps) H fun b H4=>if b=true then te (some x :: aQ σ caps) H4 fun y H5=>W (i+1) (ys ++ [y]) H5 else W (i+1) ys H4) (hd:∀ ys H,W xs.length ys H->fin ys H):Fa (Itl K a) σ caps tt te H1 fin:=by
 refine ⟨xs.length,W,hz,h0,fun i ys H2 hi hy hw=>?_⟩
 have q:=hl i ys H2 hi hw
 by_cases hlt:i < xs.length
 ·refine .inr ⟨hlt,⟨xs,xs[i],q,by simp [hlt]⟩,fun x H3 y=>?_⟩
  obtain ⟨e,y⟩:=y
  subst e
  exact hs i x ys _ (y xs q) hy hw
 ·have e:i=xs.length:=by omega
  subst e
  exact .inl ⟨⟨xs,q,Nat.le_refl _⟩,hd ys H2 hw⟩
end L2
namespace L2
open PySem PySem.Spec PyProof.Rows
noncomputable def eqN (n:Int):Value->Bool
 | .int a _=>a == n
 | _=>false
section
variable {X:Cx}
end
end L2
namespace L2
open PySem PySem.Spec PyProof.Rows
theorem lV {K:PySem.W.Frag} {a b:Addr} {xs ys:List V} {σ:St} {k:Nat} {caps:List Nat} {g:TG} {te:TE} {H1:Hp} {fin:List V->Hp->Prop} (W:Nat->List V->Hp->Prop) (hz:xs.length<=sizeLine) (he:xs.length=ys.length) (h0:W 0 [] H1) (hl:∀ i zs H,i<=xs.length->W i zs H->SqL K H a xs/\SqL K H b ys)
  (hs:∀ i x y p zs H,xs[i]?=some x->ys[i]?=some y->zs.length=i->W i zs H->H p=none->∀ os:St,os.length=k->g (.ref p) (os ++ aQ σ caps) (upd H p (.tup [x,y])) fun σ2 H4=>(∃ os':St,os'.length=k/\σ2=os' ++ aQ σ caps)/\te σ2 H4 fun z H5=>W (i+1) (zs ++ [z]) H5)
  (hd:∀ zs H,zs.length=xs.length->W xs.length zs H->fin zs H):kU (Itz K a b) σ k caps g te H1 fin:=by
 refine ⟨xs.length,W,hz,h0,fun i zs H2 hi hy hw=>?_⟩
 obtain ⟨q,r⟩:=hl i zs H2 hi hw
 by_cases hlt:i < xs.length
 ·have hlt2:i < ys.length:=by omega
  refine .inr ⟨hlt,⟨xs,xs[i],ys,ys[i],q,by simp [hlt],r,by simp [hlt2]⟩,fun x H3 y os ho=>?_⟩
  obtain ⟨pp,x',y',e1,e2,e3,y1,y2⟩:=y
  subst e1 e3
  exact hs i x' y' pp zs _ (y1 xs q) (y2 ys r) hy hw e2 os ho
 ·have e:i=xs.length:=by omega
  subst e
  exact .inl ⟨⟨xs,ys,q,r,.inl (Nat.le_refl _)⟩,hd zs H2 hy hw⟩
theorem Th {K:PySem.W.Frag} {a:Addr} {xs:List V} {σ:St} {k:Nat} {caps:List Nat} {g:TG} {te:TE} {H1:Hp} {fin:List V->Hp->Prop} (W:Nat->List V->Hp->Prop) (hz:xs.length<=sizeLine) (h0:W 0 [] H1) (hl:∀ i zs H,i<=xs.length->W i zs H->SqL K H a xs)
  (hs:∀ i x p zs H,xs[i]?=some x->zs.length=i->W i zs H->H p=none->∀ os:St,os.length=k->g (.ref p) (os ++ aQ σ caps) (upd H p (.tup [.int i,x])) fun σ2 H4=>(∃ os':St,os'.length=k/\σ2=os' ++ aQ σ caps)/\te σ2 H4 fun z H5=>W (i+1) (zs ++ [z]) H5)
  (hd:∀ zs H,zs.length=xs.length->W xs.length zs H->fin zs H):kU (Ite K a) σ k caps g te H1 fin:=by
 refine ⟨xs.length,W,hz,h0,fun i zs H2 hi hy hw=>?_⟩
 have q:=hl i zs H2 hi hw
 by_cases hlt:i < xs.length
 ·refine .inr ⟨hlt,⟨xs,xs[i],q,by simp [hlt]⟩,fun x H3 y os ho=>?_⟩
  obtain ⟨pp,z,e1,e2,e3,y⟩:=y
  subst e1 e3
  exact hs i z pp zs _ (y xs q) hy hw e2 os ho
 ·have e:i=xs.length:=by omega
  subst e
  exact .inl ⟨⟨xs,q,Nat.le_refl _⟩,hd zs H2 hy hw⟩
end L2
namespace L2
open PySem PySem.Spec PyProof.Rows
noncomputable def Dz:R2:=fun x y H Q=>y=.non/\Q (.bl (decide (x=.non))) H
noncomputable def Ny:R2:=fun x y H Q=>y=.non/\Q (.bl (!decide (x=.non))) H
section
variable {X:Cx}
end
end L2
namespace L2
open PySem PySem.Spec PyProof.Rows
noncomputable def wW (n:Nat):List Int:=(List.range n).map Int.ofNat
theorem Zb {n k:Nat} (h:k < n):(wW n)[k]?=some (k:Int):=by
 unfold wW;rw [List.getElem?_map,List.getElem?_range h];rfl
theorem pV (n:Nat):(wW n).length=n:=by unfold wW;rw [List.length_map,List.length_range]
noncomputable def Xm (ta:TE):TE:=fun σ H Q=>ta σ H fun x H1=>∃ n:Nat,x=.int n/\n<=10000/\∀ p,H1 p=none->Q (.ref p) (upd H1 p (.lst (List.map V.int (wW n))))
theorem Db:∀ {xs:List V} {us:List Value},xs.length=us.length->(∀ (i:Nat) (x:V) (u:Value),xs[i]?=some x->us[i]?=some u->cV x u)->cK xs us
 | [],[],_,_=>.nil
 | [],_ :: _,h,_=>by simp at h
 | _ :: _,[],h,_=>by simp at h
 | x :: xs,u :: us,h,k=>.cons (k 0 x u rfl rfl) (Db (by simpa using h) fun i x u h1 h2=>k (i+1) x u (by simpa using h1) (by simpa using h2))
section
variable {X:Cx}
theorem pe_lrng {a:Expr} {tl:TE} {p1 p2 pos1 pos2:Pos} (hg1:Gl X "list") (hm1:X.mg "list" = none) (hg2:Gl X "range") (hm2:X.mg "range" = none) (hc:X.calm=true) (hl:PE X a tl)
  (hs1:starEach [.Call (.Name "range" p2) [a] [] pos2] X.env=[(false,eval (.Call (.Name "range" p2) [a] [] pos2) X.env)]:=by rfl) (hs2:starEach [a] X.env=[(false,eval a X.env)]:=by rfl) :
  PE X (.Call (.Name "list" p1) [.Call (.Name "range" p2) [a] [] pos2] [] pos1) (Xm tl):=by
 intro pins s σ H Q I h
 have hA:PA X [a] (aC tl aN):=aA hl aE (by rw [hs2];rfl)
 refine Call_ (rX I hg1 hm1 Ey (PyProof.Rows.callWith_type1 (spliced_more ?_ (by rw [hs1];rfl)) hs1 rfl))
 refine Call_ (rX I hg2 hm2 boot_range (PyProof.Rows.callWith_type1 (thn (hA pos2 pins s σ H (fun vs H1=>∃ x,vs=[x]/\∃ n:Nat,x=.int n/\n<=10000/\∀ p,H1 p=none->Q (.ref p) (upd H1 p (.lst (List.map V.int (wW n))))) I ?_) fun us s1 ⟨vs,H1,I1,r1,q1⟩=>?_) hs2 rfl))
 ·show tl σ H fun x H1=>∃ y,[x]=[y]/\_
  have e:(fun (x:V) (H1:Hp)=>∃ y,[x]=[y]/\∃ n:Nat,y=V.int n/\n<=10000/\∀ p,H1 p=none->Q (.ref p) (upd H1 p (.lst (List.map V.int (wW n)))))=fun x H1=>∃ n:Nat,x=V.int n/\n<=10000/\∀ p,H1 p=none->Q (.ref p) (upd H1 p (.lst (List.map V.int (wW n)))):=by
   funext x H1
   exact propext ⟨fun ⟨y,e,r⟩=>by cases e;exact r,fun r=>⟨x,rfl,r⟩⟩
  have h':tl σ H fun x H1=>∃ n:Nat,x=V.int n/\n<=10000/\∀ p,H1 p=none->Q (.ref p) (upd H1 p (.lst (List.map V.int (wW n)))):=h
  rw [← e] at h'
  exact h'
 ·obtain ⟨x,e1,n,e2,hn,q⟩:=q1
  subst e1 e2
  obtain ⟨u,rfl,ru⟩:=yZ r1
  obtain ⟨t,rfl⟩:=ru
  refine call_range_1 (spliced_none ?_)
  have hz:Builtin.Range.rangeSize 0 (n:Int) 1=(n:Int):=by rw [rangeSize_one];split <;> omega
  refine call_list_range (I1.ok.hd hc) (IsRange.new ..) (small_one (by decide) (by decide) (by omega) (by omega)) hz (by omega) fun h2 tk acc c' hk hS hacc=>?_
  have kp:∀ c o,s1.heap.get? c=some o->h2.get? c=some o:=fun c o e=>hk c o (Heap.get?_push_of_some _ e)
  have gsz:(s1.heap.push { cls:=.type "range",data:=.fields #[.int 0 s1.toks,.int (n:Int) t,.int 1 (s1.toks+1)] }).objs.size=s1.heap.objs.size+1:=Heap.size_push ..
  have lt:s1.heap.objs.size<=(s1.heap.push { cls:=.type "range",data:=.fields #[.int 0 s1.toks,.int (n:Int) t,.int 1 (s1.toks+1)] }).objs.size:=by rw [gsz];exact Nat.le_succ _
  refine ⟨.ref _,_,I1.laid (t':=tk) (o:=.lst (List.map V.int (wW n))) kp lt ⟨by rw [List.length_map,pV,sizeLine_eq];omega,acc.toList,c',Db (by rw [List.length_map,pV,Array.length_toList,hacc.1]) fun i x u h1 h3=>?_,by simpa using hS⟩,rfl,q _ (I1.hok.fresh lt)⟩
  have hi:i < n:=by
   have:=(List.getElem?_eq_some_iff.mp h1).1
   rwa [List.length_map,pV] at this
  rw [List.getElem?_map,Zb hi] at h1
  cases h1
  obtain ⟨tk',e⟩:=hacc.2 i u (by simpa using h3)
  rw [e]
  exact ⟨tk',by simp⟩
end
end L2
namespace L2
open PySem PySem.Spec PyProof.Rows
theorem jJd {K:PySem.W.Frag} {a b:Addr} {xs ys:List V} {g:TG} {tb:TS} {D:Be} {σ:St} {H:Hp} (n:Nat) (Pv:Nat->St->Hp->Prop) (h0:Pv 0 σ H) (hl:∀ i σ H,i<=n->Pv i σ H->SqL K H a xs/\SqL K H b ys) (hx:n<=xs.length) (hy:n<=ys.length) (he:xs.length<=n∨ys.length<=n)
  (hs:∀ i x y p σ H,xs[i]?=some x->ys[i]?=some y->i < n->Pv i σ H->H p=none->g (.ref p) σ (upd H p (.tup [x,y])) fun σ2 H2=>tb { D with nx:=Pv (i+1),ct:=Pv (i+1),bk:=D.nx } σ2 H2) (hd:∀ σ H,Pv n σ H->D.nx σ H) :
  ∃ W:Nat->Nat->St->Hp->Prop,(∃ m,W 0 m σ H)/\∀ i m σ H,W i m σ H ->
   ((Itz K a b).stop i H/\D.nx σ H)∨((Itz K a b).go i H/\∃ N:St->Hp->Prop,(∀ σ' H',N σ' H'->∃ m',m' < m/\W (i+1) m' σ' H')/\∀ x H',(Itz K a b).yld i H x H'->g x σ H' fun σ2 H2=>tb { D with nx:=N,ct:=N,bk:=D.nx } σ2 H2):=by
 refine ⟨fun i m σ H=>m=n - i/\i<=n/\Pv i σ H,⟨n,by simp,Nat.zero_le _,h0⟩,?_⟩
 rintro i m σ H ⟨rfl,hi,p⟩
 obtain ⟨q,r⟩:=hl i σ H hi p
 by_cases hlt:i < n
 ·have h1:i < xs.length:=by omega
  have h2:i < ys.length:=by omega
  refine .inr ⟨⟨xs,xs[i],ys,ys[i],q,by simp [h1],r,by simp [h2]⟩,Pv (i+1),fun σ' H' p'=>⟨n - (i+1),by omega,rfl,hlt,p'⟩,fun x H' y=>?_⟩
  obtain ⟨pp,x',y',e1,e2,e3,y1,y2⟩:=y
  subst e1 e3
  exact hs i x' y' pp σ _ (y1 xs q) (y2 ys r) hlt p e2
 ·have e:i=n:=by omega
  subst e
  exact .inl ⟨⟨xs,ys,q,r,he⟩,hd σ H p⟩
theorem Tg {K:PySem.W.Frag} {a b:Addr} {xs ys:List V} {σ:St} {k:Nat} {caps:List Nat} {g:TG} {te:TE} {H1:Hp} {fin:List V->Hp->Prop} (n:Nat) (W:Nat->List V->Hp->Prop) (hz:n<=sizeLine) (hx:n<=xs.length) (hy:n<=ys.length) (he:xs.length<=n∨ys.length<=n) (h0:W 0 [] H1) (hl:∀ i zs H,i<=n->W i zs H->SqL K H a xs/\SqL K H b ys)
  (hs:∀ i x y p zs H,xs[i]?=some x->ys[i]?=some y->i < n->zs.length=i->W i zs H->H p=none->∀ os:St,os.length=k->g (.ref p) (os ++ aQ σ caps) (upd H p (.tup [x,y])) fun σ2 H4=>(∃ os':St,os'.length=k/\σ2=os' ++ aQ σ caps)/\te σ2 H4 fun z H5=>W (i+1) (zs ++ [z]) H5)
  (hd:∀ zs H,zs.length=n->W n zs H->fin zs H):kU (Itz K a b) σ k caps g te H1 fin:=by
 refine ⟨n,W,hz,h0,fun i zs H2 hi hyy hw=>?_⟩
 obtain ⟨q,r⟩:=hl i zs H2 hi hw
 by_cases hlt:i < n
 ·have h1:i < xs.length:=by omega
  have h2:i < ys.length:=by omega
  refine .inr ⟨hlt,⟨xs,xs[i],ys,ys[i],q,by simp [h1],r,by simp [h2]⟩,fun x H3 y os ho=>?_⟩
  obtain ⟨pp,x',y',e1,e2,e3,y1,y2⟩:=y
  subst e1 e3
  exact hs i x' y' pp zs _ (y1 xs q) (y2 ys r) hlt hyy hw e2 os ho
 ·have e:i=n:=by omega
  subst e
  exact .inl ⟨⟨xs,ys,q,r,he⟩,hd zs H2 hyy hw⟩
structure tX (K:PySem.W.Frag):Prop where
 cl:Cls K (cY K "Corner")
 nb:qB K (cY K "Corner") "begun"
 ns:qB K (cY K "Corner") "spans"
 nk:qB K (cY K "Corner") "kept"
 ni:qB K (cY K "Corner") "inside"
end L2
namespace L2
open PySem PySem.Spec PyProof.Rows
section
variable {X:Cx}
noncomputable def cIsT (K:PySem.W.Frag):List V->Hp->VK->Prop:=fun xs H Q=>∃ p ys,xs=[.ref p,.ty "tuple"]/\SqT K H p ys/\Q (.bl true) H
theorem jJl:qL X (.builtin "isinstance") (cIsT X.K):=by
 intro pins s σ H xs us Q I r h
 obtain ⟨p,ys,rfl,hq,q⟩:=h
 obtain ⟨u,c,rfl,ru,rc⟩:=Nx r
 obtain rfl:c=Value.type "tuple":=rc
 obtain rfl:u=Value.ref p:=ru
 obtain ⟨its,r',⟨o,h1,h2,_⟩,hz⟩:=I.tuple hq
 exact PySem.W.kia_one PySem.W.kitx_tuple I.kIn ⟨o,h1,h2⟩ (Yg _) (fun z=>nomatch z) fun tk=>⟨.bl true,H,I.tok _,rfl,q⟩
end
end L2
namespace L2
open PySem PySem.Spec PyProof.Rows
noncomputable def Nz:V->List V->Hp->VK->Prop:=fun x vs H Q=>∃ n:Int,x=.int n/\vs=[]/\Q (.int ((Builtin.Int.intBits n:Nat):Int)) H
noncomputable def CShl (i n:Int):Prop:=0<=n/\((Builtin.Int.intBits i:Nat):Int)+n<=2 ^ 27
noncomputable def Xd:R2:=rI CShl fun i n=>.int (i * 2 ^ n.toNat)
noncomputable def Xc:R2:=rI (fun _ n=>0<=n) fun i n=>.int (i.fdiv (2 ^ n.toNat))
section
variable {X:Cx}
theorem Uf:MtR X "int.bit_length" Nz:=by
 intro pins s σ H x xs v us Q I rx rv h
 obtain ⟨n,rfl,rfl,q⟩:=h
 obtain ⟨t,rfl⟩:=rx
 cases rv
 exact call_int_bit_length ⟨.int _,H,I.tok _,⟨_,rfl⟩,q⟩
theorem Ty:OpR X (binaryOp .LShift) Xd:=opI fun _ _ _ _ _ _ _ hc q=>lshift_int hc.1 hc.2 q
theorem Tv:OpR X (binaryOp .RShift) Xc:=opI fun _ _ _ _ _ _ _ hc q=>rshift_int hc q
end
theorem mM:plainId "list.remove.loop" = true:=by decide +kernel
theorem xK:entryFor table "list.remove.loop" = some Builtin.«list.remove.loop»:=entryFor_of_fast (by kernel_rfl)
theorem Pl (l:Addr) (zs:Array Value) (c:Nat) (x:Value) (q:Value->Bool) (j:Nat) (hj:j < zs.size) (hit:q zs[j]=true) (hz:zs.size<=sizeLine):∀ (d i:Nat),j=i+d->(∀ m (hm:m < zs.size),m < j->q zs[m]=false) ->
  Meets (Builtin.«list.remove.loop» ⟨[.ref l,x,rawInt i],[]⟩)
   (fun A R s=>s.heap.get? l=some { cls:=.type "list",data:=.seq zs c }/\(∀ y,y∈zs->SeqAt.EqAt A.in1 s y x (q y))/\R (.ok (.ret .none)) { s with heap:=s.heap.update l (Obj.mapSeq fun a=>a.eraseIdxIfInBounds j) }):=by
 intro d
 induction d with
 | zero =>
  intro i ei no prog w A R s h
  obtain ⟨hp,g,dd,tk,os⟩:=s
  obtain ⟨hl,he,h⟩:=h
  obtain rfl:j=i:=ei
  wp_walk using wpAny_loadPart' hl
  have e:zs[((j:Nat):Int).toNat]?=some zs[j]:=by simp [hj]
  rw [e]
  refine wpAny_bind (he _ (Array.getElem_mem hj) prog w _ _ ?_)
  rw [hit]
  have hz2:(zs.eraseIdxIfInBounds j).size<=sizeLine+1:=Nat.le_trans (PySem.MeetsSeq.size_erased zs _) (Nat.le_succ_of_le hz)
  wp_walk using (wpAny_updateSeq hl rfl (hz:=hz) (_hz':=hz2)),wpAny_loadPart' hl
  exact h
 | succ d ih =>
  intro i ei no prog w A R s h
  obtain ⟨hp,g,dd,tk,os⟩:=s
  obtain ⟨hl,he,h⟩:=h
  have il:i < zs.size:=by omega
  wp_walk using wpAny_loadPart' hl
  have e:zs[((i:Nat):Int).toNat]?=some zs[i]:=by simp [il]
  have e1:((i:Int)+1)=((i+1:Nat):Int):=by omega
  rw [e]
  refine wpAny_bind (he _ (Array.getElem_mem il) prog w _ _ ?_)
  rw [no i il (by omega)]
  wp_walk
  rw [e1]
  refine ⟨plainId_quiet mM _,codeAny_builtin xK ?_⟩
  rw [Around.under_plainId mM _]
  exact ih (i+1) (by omega) no prog w A R _ ⟨hl,he,h⟩
theorem Vq (l:Addr) (zs:Array Value) (c:Nat) (x:Value) (q:Value->Bool) (j:Nat) (hj:j < zs.size) (hit:q zs[j]=true) (hz:zs.size<=sizeLine) (no:∀ m (hm:m < zs.size),m < j->q zs[m]=false) :
  Meets (Builtin.«list.remove» ⟨[.ref l,x],[]⟩)
   (fun A R s=>s.heap.get? l=some { cls:=.type "list",data:=.seq zs c }/\(∀ y,y∈zs->SeqAt.EqAt A.in1 s y x (q y))/\R (.ok (.ret .none)) { s with heap:=s.heap.update l (Obj.mapSeq fun a=>a.eraseIdxIfInBounds j) }):=by
 intro prog w A R s h
 obtain ⟨hp,g,dd,tk,os⟩:=s
 wp_walk
 refine ⟨plainId_quiet mM _,codeAny_builtin xK ?_⟩
 rw [Around.under_plainId mM _]
 exact Pl l zs c x q j hj hit hz j 0 (by omega) no prog w A R _ h
noncomputable def Eo:V->List V->Hp->VK->Prop:=fun x vs H Q=>∃ l ns n j,x=.ref l/\vs=[.int n]/\H l=some (.lst (List.map V.int ns))/\ns[j]?=some n/\(∀ m,m < j->ns[m]?≠some n)/\Q .non (upd H l (.lst (List.map V.int (ns.eraseIdx j))))
theorem Lc {α β:Type} (f:α->β):∀ (l:List α) (i:Nat),(l.eraseIdx i).map f=(l.map f).eraseIdx i
 | [],i=>by simp
 | a :: r,0=>rfl
 | a :: r,i+1=>by show f a :: (r.eraseIdx i).map f=f a :: (r.map f).eraseIdx i;rw [Lc f r i]
theorem We {X:Cx}:MtM X "list.remove" Eo:=by
 intro pins s σ H x vs v us Q I rx rv h
 obtain ⟨l,ns,n,j,rfl,rfl,hH,hj,hno,q⟩:=h
 cases rx
 obtain ⟨u,rfl,ru⟩:=rv.one
 obtain ⟨z,its,c,r,hl,e⟩:=I.lstM hH
 have hjl:j < ns.length:=(List.getElem?_eq_some_iff.mp hj).1
 have len:=r.length
 rw [List.length_map] at len
 have at_:∀ m (hm:m < its.toArray.size),∃ a t,ns[m]?=some a/\its.toArray[m]=.int a t:=fun m hm=>by
  have h1:m < its.length:=by simpa using hm
  have h2:m < ns.length:=by omega
  obtain ⟨w,e1,e2⟩:=r.get (i:=m) (x:=.int ns[m]) (by rw [List.getElem?_map,List.getElem?_eq_getElem h2];rfl)
  obtain ⟨t,rfl⟩:=e2
  refine ⟨ns[m],t,List.getElem?_eq_getElem h2,?_⟩
  obtain ⟨_,e3⟩:=List.getElem?_eq_some_iff.mp e1
  simpa using e3
 refine call_meets F.slot_list_remove ⟨_,e,rfl⟩ F.entry_list_remove (F.args_list_remove_2 _ _) (Vq l its.toArray c u (eqN n) j (by rw [List.size_toArray];omega) ?_ (by rw [List.size_toArray,← hl];exact z) fun m hm hmj=>?_) ⟨e,fun y hy=>?_,?_⟩
 ·obtain ⟨a,t,e1,e2⟩:=at_ j (by rw [List.size_toArray];omega)
  rw [hj] at e1
  cases e1
  rw [e2]
  show (n == n)=true
  simp
 ·obtain ⟨a,t,e1,e2⟩:=at_ m hm
  rw [e2]
  show (a == n)=false
  have:a≠n:=fun z=>hno m hmj (by rw [e1,z])
  simpa using this
 ·obtain ⟨m,hm,e1⟩:=Array.getElem_of_mem hy
  obtain ⟨a,t,_,e2⟩:=at_ m hm
  rw [← e1,e2]
  exact Kc (i:=a) (j:=n) ⟨t,rfl⟩ ru
 ·refine ⟨.non,_,I.lset (its':=its.eraseIdx j) hH e ?_ ?_ ?_,rfl,q⟩
  ·show its.toArray.eraseIdxIfInBounds j=(its.eraseIdx j).toArray
   rw [List.eraseIdxIfInBounds_toArray]
  ·rw [Lc];exact r.eraseIdx j
  ·have:=Jy (List.map V.int ns) j
   rw [Lc]
   omega
section
variable {prog:Program} {w:World} {A:Around} {R:Result->Shared->Prop} {it:Addr} {fp wr:List Addr} {n:Nat} {P:Nat->Value->Prop} {St:Nat->Heap->Prop}
theorem max_goD (W:Walks prog w A.in1 it fp wr n P St) (bt:Nat->Nat->Bool) (cmp:CmpOf prog w A.in1 .Gt P bt) (B:Addr) (out:B∉fp) (kw:List (Str×Value)):∀ (k j:Nat) (s:Shared) (vb:Value) (c:Nat),n=j+1+k->St (j+1) s.heap->P (argBest bt j) vb ->
  s.heap.get? B=some { cls:=.type "list",dict:=none,data:=.seq #[vb,vb] c,slots:=#[] } ->
  (∀ v h' tk,P (argBest bt (n - 1)) v->(∀ b o,b∉wr->b≠B->s.heap.get? b=some o->h'.get? b=some o)->R (.ok (.ret v)) { s with heap:=h',toks:=tk }) ->
  codeAny (model prog w) A (.builtin "max.loop" ⟨[.ref it,.none,.ref B],kw⟩) R s:=by
 have outw:B∉wr:=fun z=>out (W.sub _ z)
 have nm:(toString "max" ++ toString ".loop" : String)="max.loop":=by decide
 intro k
 induction k with
 | zero =>
  intro j s vb c en st pb hB fin
  refine codeAny_builtin PySem.F.entry_max_loop ?_;rw [Around.under_plainId PySem.F.plain_max_loop _]
  show wpAny _ A.in1 (seqItems? (.ref B) >>= _) _ _ s
  refine wpAny_bind (wpAny_seqItems hB rfl ?_);show wpAny _ A.in1 (tryCatch (pyNext (.ref it)) _ >>= _) _ _ s
  have en':n=j+1:=en
  refine wpAny_bind (wpAny_tryCatch (W.done s _ _ (en' ▸ st) fun h' tk keep=>?_))
  have hB':=keep B _ outw hB
  show wpAny _ A.in1 (updateSeq B (fun _=>#[]) >>= _) _ _ _
  refine wpAny_bind ?_;refine wpAny_updateSeq hB' rfl (wpAny_bind (wpAny_letGo (wpAny_pure ?_)))
  refine fin vb _ tk (by rw [en'];exact pb) fun b o bw bB e=>(Heap.get?_update_other _ _ (Ne.symm bB)).trans (keep b o bw e)
 | succ k ih =>
  intro j s vb c en st pb hB fin
  refine codeAny_builtin PySem.F.entry_max_loop ?_;rw [Around.under_plainId PySem.F.plain_max_loop _]
  show wpAny _ A.in1 (seqItems? (.ref B) >>= _) _ _ s
  refine wpAny_bind (wpAny_seqItems hB rfl ?_);show wpAny _ A.in1 (tryCatch (pyNext (.ref it)) _ >>= _) _ _ s
  refine wpAny_bind (wpAny_tryCatch (W.item (j+1) s _ _ (by omega) st fun v h' tk pv st' keep=>?_))
  have hB':=keep B _ outw hB
  show wpAny _ A.in1 (tryCatch (holding [v,v] (richCompare .Gt v vb >>= _)) _ >>= _) _ _ { s with heap:=h',toks:=tk }
  refine wpAny_bind (wpAny_tryCatch (wpAny_holding (wpAny_bind (cmp (j+1) (argBest bt j) v vb _ _ _ pv pb (wpAny_bind (wpAny_holding (wpAny_truthy_bool (wpAny_bind (wpAny_letGo (wpAny_pure ?_))))))))))
  cases better:bt (j+1) (argBest bt j) with
  | true =>
   simp only [if_true]
   refine wpAny_bind ?_;refine wpAny_updateSeq hB' rfl (wpAny_bind (wpAny_letGo ?_));rw [nm]
   refine wpAny_pure ⟨plainId_quiet PySem.F.plain_max_loop _,ih (j+1) _ v _ (by omega) (W.frame _ _ _ st' fun b bf o e=>?_) (by simp only [argBest,better,if_true];exact pv) (Heap.get?_update_self _ hB' rfl) fun v' g tk' pv' keep'=>?_⟩
   ·exact (Heap.get?_update_other _ _ (fun z:B=b=>out (by rw [z];exact bf))).trans e
   ·exact fin v' g tk' pv' fun b o bw bB e=>keep' b o bw bB ((Heap.get?_update_other _ _ (Ne.symm bB)).trans (keep b o bw e))
  | false =>
   simp only [Bool.false_eq_true,if_false]
   refine wpAny_bind (wpAny_letGo ?_);rw [nm]
   refine wpAny_pure ⟨plainId_quiet PySem.F.plain_max_loop _,ih (j+1) _ vb c (by omega) st' (by simp only [argBest,better,Bool.false_eq_true,if_false];exact pb) hB' fun v' g tk' pv' keep'=>?_⟩
   exact fin v' g tk' pv' fun b o bw bB e=>keep' b o bw bB (keep b o bw e)
theorem Sq (W:Walks prog w A.in1 it fp wr n P St) (bt:Nat->Nat->Bool) (cmp:CmpOf prog w A.in1 .Gt P bt) (B:Addr) (out:B∉fp) (d:Value) {s:Shared} {c:Nat} (st:St 0 s.heap) (hB:s.heap.get? B=some { cls:=.type "list",dict:=none,data:=.seq #[] c,slots:=#[] })
  (f0:n=0->∀ h' tk,(∀ b o,b∉wr->b≠B->s.heap.get? b=some o->h'.get? b=some o)->R (.ok (.ret d)) { s with heap:=h',toks:=tk })
  (f1:0 < n->∀ v h' tk,P (argBest bt (n - 1)) v->(∀ b o,b∉wr->b≠B->s.heap.get? b=some o->h'.get? b=some o)->R (.ok (.ret v)) { s with heap:=h',toks:=tk }) :
  codeAny (model prog w) A (.builtin "max.loop" ⟨[.ref it,.none,.ref B],[("default",d)]⟩) R s:=by
 have outw:B∉wr:=fun z=>out (W.sub _ z)
 have nm:(toString "max" ++ toString ".loop" : String)="max.loop":=by decide
 refine codeAny_builtin PySem.F.entry_max_loop ?_;rw [Around.under_plainId PySem.F.plain_max_loop _]
 show wpAny _ A.in1 (seqItems? (.ref B) >>= _) _ _ s
 refine wpAny_bind (wpAny_seqItems hB rfl ?_);show wpAny _ A.in1 (tryCatch (pyNext (.ref it)) _ >>= _) _ _ s
 rcases Nat.eq_zero_or_pos n with n0 | n1
 ·refine wpAny_bind (wpAny_tryCatch (W.done s _ _ (n0 ▸ st) fun h' tk keep=>?_))
  wp_walk
  exact f0 n0 h' tk fun b o bw _ e=>keep b o bw e
 ·refine wpAny_bind (wpAny_tryCatch (W.item 0 s _ _ n1 st fun v h' tk pv st' keep=>?_))
  have hB':=keep B _ outw hB
  show wpAny _ A.in1 (updateSeq B (fun _=>#[v,v]) >>= _) _ _ { s with heap:=h',toks:=tk }
  refine wpAny_bind ?_;refine wpAny_updateSeq hB' rfl ?_;rw [nm]
  refine wpAny_pure ⟨plainId_quiet PySem.F.plain_max_loop _,max_goD W bt cmp B out _ (n - 1) 0 _ v _ (by omega) (W.frame _ _ _ st' fun b bf o e=>?_) pv (Heap.get?_update_self _ hB' rfl) fun v' g tk' pv' keep'=>?_⟩
  ·exact (Heap.get?_update_other _ _ (fun z:B=b=>out (by rw [z];exact bf))).trans e
  ·exact f1 n1 v' g tk' pv' fun b o bw bB e=>keep' b o bw bB ((Heap.get?_update_other _ _ (Ne.symm bB)).trans (keep b o bw e))
end
end L2
namespace L2
open PySem PySem.Spec PyProof.Rows
noncomputable def Go (J:It) (σ:St) (k:Nat) (caps:List Nat) (g:TG) (tt:TT) (te:TE) (H1:Hp) (fin:List V->Hp->Prop):Prop :=
 ∃ (n:Nat) (W:Nat->List V->Hp->Prop),n<=sizeLine/\W 0 [] H1/\∀ i ys H2,i<=n->ys.length<=i->W i ys H2 ->
  (J.stop i H2/\fin ys H2)∨(i < n/\J.go i H2/\∀ x H3,J.yld i H2 x H3->∀ os:St,os.length=k->g x (os ++ aQ σ caps) H3 fun σ2 H4=>(∃ os':St,os'.length=k/\σ2=os' ++ aQ σ caps)/\tt σ2 H4 fun b H5=>if b=true then te σ2 H5 fun y H6=>W (i+1) (ys ++ [y]) H6 else W (i+1) ys H5)
noncomputable def Lm (wi:TI) (k:Nat) (caps:List Nat) (g:TG) (tt:TT) (te:TE):TE:=fun σ H Q=>wi σ H fun J H1=>Go J σ k caps g tt te H1 fun ys H2=>∀ p,H2 p=none->Q (.ref p) (upd H2 p (.lst ys))
section
variable {X:Cx} {scope:Scope} {xs ys:List Str} {caps:List Nat} {elt iter tg tst:Expr} {te:TE} {tt:TT} {g:TG} {pos:Pos}
theorem Tj {pins:List (Addr×Obj)} {σ:St} {H2:Hp} {s2:Shared} {J:It} {fp:List Addr} {it:Addr} {tn:Nat->Heap->Prop} {E:Value->Shared->Prop} {fin:List V->Hp->Prop} {RR:Value->Addr->Result->Shared->Prop}
  (hcalm:X.calm=true) (S:gH X.env.scope scope X.N xs ys caps) (hg:∀ s H ex pn,PG (cL X scope (xs ++ ys) s H ex pn) tg g) (hT:∀ s H ex pn,PT (cL X scope (xs ++ ys) s H ex pn) tst tt) (he:∀ s H ex pn,PE (cL X scope (xs ++ ys) s H ex pn) elt te)
  (I2:Inv X pins σ H2 s2) (T:Kq X.prog X.w X.K tg J fp it tn) (st2:tn 0 s2.heap) (f2:∀ b∈fp,xP X pins H2 b) (rd:Go J σ xs.length caps g tt te H2 fin)
  (hRR:∀ (C:Addr) (ysV:List V) (its:List Value) (n:Nat) (H8:Hp) (s8:Shared) (m:Str->Option Value),C=s2.heap.objs.size+1->Inv X pins σ H8 s8->H8 s2.heap.objs.size=none->H8 C=none->cK ysV its->ysV.length<=sizeLine ->
   s8.heap.get? s2.heap.objs.size=some (dO its n)->s8.heap.Ns C m->fin ysV H8->RR (.ref s2.heap.objs.size) C (.ok .next) s8) :
  wpAny (model X.prog X.w) X.A (newList []) (fun acc s₃=>wpAny (model X.prog X.w) X.A (newFunctionEnv scope X.env.globals (fB X scope) [] X.env.qual none .none (some X.env)) (fun cenv s₄ =>
   codeAny (model X.prog X.w) X.A (.compStart (.ListComp elt [⟨tg,iter,[tst],0⟩] scope pos) 0 (.ref it) acc { cenv with scope:=relabel scope X.env }) (RR acc cenv.locals) s₄) E s₃) E s2:=by
 obtain ⟨n0,W,hn0,w0,turn⟩:=rd
 refine wpAny_newObj_type (wpAny_newFunctionEnv S.ncell (by intro y hy;simp at hy) (fun h₁ hns hsb=>?_) S.kind)
 dsimp only at hns hsb ⊢
 generalize hg3:s2.heap.push { cls:=.type "list",dict:=none,data:=.seq ([]:List Value).toArray }=g3 at hns hsb ⊢
 have hC:g3.objs.size=s2.heap.objs.size+1:=by rw [← hg3,Heap.size_push]
 have up3:∀ b o,s2.heap.get? b=some o->g3.get? b=some o:=fun b o e=>hg3 ▸ Heap.get?_push_of_some _ e
 have I3:Inv X pins σ H2 { s2 with heap:=g3 }:=I2.kept (t':=s2.toks) up3
 have keep:∀ b o,g3.get? b=some o->h₁.get? b=some o:=fun b o e=>hsb.extBut b o (Nat.ne_of_lt (Heap.lt_size e)) (Heap.get?_push_of_some _ e)
 have objD:g3.get? s2.heap.objs.size=some (dO [] 0):=hg3 ▸ Heap.get?_push_size _ rfl
 have hDL:s2.heap.objs.size≠X.env.locals:=Nat.ne_of_gt I2.lt
 have hDfs:s2.heap.objs.size∉X.fs:=I2.nofs (Nat.le_refl _)
 have hDst:s2.heap.objs.size∉frs X.stack:=fun z=>(List.mem_cons.mp (I2.stkSub _ z)).elim hDL hDfs
 have hDc:∀ y c,X.env.cells.lookup y=some c->c≠s2.heap.objs.size:=fun y c e=>by
  obtain ⟨v,z⟩:=I2.cell y c e
  exact Nat.ne_of_lt z.lt
 have hDp:∀ p∈X.pn ++ pins,p.1≠s2.heap.objs.size:=fun p hp=>Nat.ne_of_lt (Heap.lt_size (I2.pin p hp).1)
 have hfl:∀ b∈fp,b < s2.heap.objs.size:=fun b hb=>by
  obtain ⟨o,e,_⟩:=T.obj _ _ st2 b hb
  exact Heap.lt_size e
 have hbz:X.base.objs.size<=X.s₀.heap.objs.size:=I2.ok.bsz
 have hch:∀ b∈s2.heap.objs.size :: fp,(b∈X.ex∨X.s₀.heap.objs.size<=b)/\b≠X.env.locals/\(∀ y c,X.env.cells.lookup y=some c->c≠b)/\∀ p∈X.pn ++ pins,p.1≠b:=fun b hb=>by
  rcases List.mem_cons.mp hb with rfl | hb
  ·exact ⟨.inr I2.sz,hDL,hDc,hDp⟩
  ·obtain ⟨a1,a2,a3,a4,a5,a6⟩:=f2 b hb
   exact ⟨a4,a2,a5,a6⟩
 have hex:∀ b∈s2.heap.objs.size :: fp,b < g3.objs.size/\b∉frs X.stack/\(∀ y c,X.env.cells.lookup y=some c->c≠b)/\X.base.get? b=none:=fun b hb=>by
  have hst:b∉frs X.stack:=by
   rcases List.mem_cons.mp hb with rfl | hb
   ·exact hDst
   ·obtain ⟨a1,a2,a3,a4,a5,a6⟩:=f2 b hb
    exact fun z=>(List.mem_cons.mp (I2.stkSub _ z)).elim a2 a3
  have hlt:b < g3.objs.size:=by
   rw [hC]
   rcases List.mem_cons.mp hb with rfl | hb
   ·exact Nat.lt_succ_self _
   ·exact Nat.lt_succ_of_lt (hfl b hb)
  refine ⟨hlt,hst,(hch b hb).2.2.1,?_⟩
  cases q:X.base.get? b with
  | none=>rfl
  | some o =>
   rcases (hch b hb).1 with z | z
   ·exact absurd z (I2.ok.noex b o q)
   ·exact absurd (Nat.lt_of_lt_of_le (Heap.lt_size q) (Nat.le_trans hbz z)) (Nat.lt_irrefl _)
 have hD2:H2 s2.heap.objs.size=none:=I2.hok.fresh (Nat.le_refl _)
 have I4:Inv (cL X scope (xs ++ ys) { s2 with heap:=g3 } H2 (s2.heap.objs.size :: fp) (X.pn ++ pins)) [(s2.heap.objs.size,dO [] 0)] (xs.map (fun _=>none) ++ aQ σ caps) H2 { s2 with heap:=h₁,toks:=s2.toks+([]:List (Str×Value)).length } :=
  Inv.enterG S hcalm I3 hns keep hex fun p hp=>by
   have e:p=(s2.heap.objs.size,dO [] 0):=by simpa using hp
   subst e
   exact ⟨objD,hD2,hDst,fun v z=>nomatch z⟩
 have st4:tn 0 h₁:=T.keep _ _ _ st2 fun b hb o e=>keep b o (up3 b o e)
 generalize hY:cL X scope (xs ++ ys) { s2 with heap:=g3 } H2 (s2.heap.objs.size :: fp) (X.pn ++ pins)=Y at I4
 have yP:Y.prog=X.prog:=by rw [← hY];rfl
 have yW:Y.w=X.w:=by rw [← hY];rfl
 have yK:Y.K=X.K:=by rw [← hY];rfl
 have yA:Y.A=X.A:=by rw [← hY];rfl
 have yC:Y.calm=true:=by rw [← hY];exact hcalm
 have yX:Y.xe=fun _ _=>False:=by rw [← hY];rfl
 have yN:Y.N=xs ++ ys:=by rw [← hY];rfl
 have yE:Y.env=compEnvC scope (fB X scope) g3.objs.size X.env:=by rw [← hY];rfl
 have yex:Y.ex=s2.heap.objs.size :: fp:=by rw [← hY];rfl
 have ypn:Y.pn=X.pn ++ pins:=by rw [← hY];rfl
 have yfs:Y.fs=frs X.stack:=by rw [← hY];rfl
 have ybase:∀ {pl σ' H' s'},Inv Y pl σ' H' s'->Un (frs X.stack) (s2.heap.objs.size :: fp) H2 H' g3 s'.heap/\s'.os=s2.os:=by
  intro pl σ' H' s' I
  rw [← hY] at I
  exact ⟨I.base,I.os⟩
 have yhg:PG Y tg g:=by rw [← hY];exact hg _ _ _ _
 have yhe:PE Y elt te:=by rw [← hY];exact he _ _ _ _
 have yht:PT Y tst tt:=by rw [← hY];exact hT _ _ _ _
 have ycl:∀ y c,Y.env.cells.lookup y=some c->X.env.cells.lookup y=some c:=fun y c e=>by
  rw [yE] at e
  exact S.sub I2 e
 have yfp:∀ {H':Hp} {o:Obj},(∀ b∈fp,H' b=none)->∀ b∈fp,xP Y [(s2.heap.objs.size,o)] H' b:=fun {H' o} hn b hb=>by
  obtain ⟨a1,a2,a3,a4,a5,a6⟩:=f2 b hb
  refine ⟨hn b hb,?_,?_,?_,fun y c e=>a5 y c (ycl y c e),fun p hp=>?_⟩
  ·rw [yE];exact Nat.ne_of_lt (hex b (List.mem_cons_of_mem _ hb)).1
  ·rw [yfs];exact (hex b (List.mem_cons_of_mem _ hb)).2.1
  ·rw [yex];exact .inl (List.mem_cons_of_mem _ hb)
  ·rw [ypn] at hp
   rcases List.mem_append.mp hp with hp | hp
   ·exact a6 p hp
   ·have e:p=(s2.heap.objs.size,o):=by simpa using hp
    subst e
    exact Nat.ne_of_gt (hfl b hb)
 have loop:∀ s₃:Shared,s₃={ s2 with heap:=h₁,toks:=s2.toks+([]:List (Str×Value)).length } ->
   codeAny (model X.prog X.w) X.A (.compLoop (.ListComp elt [⟨tg,iter,[tst],0⟩] scope pos) 0 (.ref it) (.ref s2.heap.objs.size) (compEnvC scope (fB X scope) g3.objs.size X.env)) (RR (.ref s2.heap.objs.size) g3.objs.size) s₃:=by
  rintro s₃ rfl
  refine codeAny_loop rfl (fun k s'=>∃ i ysV its cnt H' os,os.length=xs.length/\k=n0+1 - i/\Inv Y [(s2.heap.objs.size,dO its cnt)] (os ++ aQ σ caps) H' s'/\tn i s'.heap/\(∀ b∈fp,H' b=none)/\cK ysV its/\ysV.length<=i/\i<=n0/\W i ysV H') ?_ (n0+1)
   ⟨0,[],[],0,H2,xs.map (fun _=>none),by rw [List.length_map],rfl,I4,st4,fun b hb=>(f2 b hb).1,.nil,Nat.le_refl _,Nat.zero_le _,w0⟩
  rintro k s' ⟨i,ysV,its,cnt,H',os,hos,rfl,I',tni,frn,vv,hlen,hin,hw⟩
  show wpAny _ _ ((compTurn (.ListComp elt [⟨tg,iter,[tst],0⟩] scope pos) 0 (.ref it) (.ref s2.heap.objs.size) (compEnvC scope (fB X scope) g3.objs.size X.env)).onRaise (fun x=>do noteFrame x (compEnvC scope (fB X scope) g3.objs.size X.env);theTreesLotGoes x)) _ _ s'
  refine wpAny_noted ?_
  rw [compTurn_list]
  have fpok:=yfp (o:=dO its cnt) frn
  rcases turn i ysV H' hin hlen hw with ⟨stop,hfin⟩ | ⟨hlt,go,step⟩
  ·refine wpAny_bind (wpAny_standAt (wpAny_bind (thn (Q:=fun r s1=>r=none/\Inv Y [(s2.heap.objs.size,dO its cnt)] (os ++ aQ σ caps) H' s1) ?_ fun r s1 ⟨hr,I1⟩=>?_)))
   ·have:=T.done Y yP yW yK yC i _ s' _ H' (notedBy (model X.prog X.w) X.A (compEnvC scope (fB X scope) g3.objs.size X.env) fun e s'=>RR (.ref s2.heap.objs.size) g3.objs.size (.error e) s') I' fpok tni stop
    rw [yA] at this
    exact this
   ·subst hr
    refine wpAny_pure ?_
    obtain ⟨ub,uo⟩:=ybase I1
    obtain ⟨m,hm,_⟩:=I1.loc
    obtain ⟨p1,p2,_⟩:=I1.pin (s2.heap.objs.size,dO its cnt) (List.mem_append_right _ List.mem_cons_self)
    have hok:HOk X.prog X.w H' s1.heap:=by have:=I1.hok;rw [yP,yW] at this;exact this
    have hCf:=I1.free
    rw [yE] at hm hCf
    refine hRR g3.objs.size ysV its cnt H' s1 m hC (I3.call' uo ub hok I1.bare hch) p2 hCf vv (by omega) p1 hm hfin
  ·refine wpAny_bind (wpAny_standAt (wpAny_bind (thn (Q:=fun r s1=>∃ u,r=some u/\wpAny (model X.prog X.w) X.A (letOwnedTupleGo tg (.ref it) u) (fun _ s5=>∃ x H5,Inv Y [(s2.heap.objs.size,dO its cnt)] (os ++ aQ σ caps) H5 s5/\cV x u/\J.yld i H' x H5/\tn (i+1) s5.heap/\∀ b∈fp,H5 b=none)
     (notedBy (model X.prog X.w) X.A (compEnvC scope (fB X scope) g3.objs.size X.env) fun e s'=>RR (.ref s2.heap.objs.size) g3.objs.size (.error e) s') s1) ?_ fun r s1 ⟨u,hr,h4⟩=>?_)))
   ·have:=T.item Y yP yW yK yC i _ s' _ H' (notedBy (model X.prog X.w) X.A (compEnvC scope (fB X scope) g3.objs.size X.env) fun e s'=>RR (.ref s2.heap.objs.size) g3.objs.size (.error e) s') I' fpok tni go
    rw [yA] at this
    exact this
   ·subst hr
    refine wpAny_bind (thn h4 fun _ s5 ⟨xv,H5,I5,r5,y5,st5,fr5⟩=>?_)
    have I5':=I5.pinned (yfp fr5) (T.obj _ _ st5)
    have sto:=yhg _ s5 _ H5 xv u _ I5' r5 (step xv H5 y5 os hos)
    rw [yP,yW,yA,yE] at sto
    refine wpAny_bind (nxE yX sto fun _ s6 ⟨σ6,H6,I6,⟨os',hos',e6⟩,t6⟩=>?_)
    subst e6
    have tv:=yht _ s6 _ H6 _ I6 t6
    rw [yP,yW,yA,yE] at tv
    refine wpAny_bind (wpAny_tests_one (nxE yX tv fun ok s6' ⟨H7,I6',w6⟩=>?_))
    have hil:=vv.length
    cases ok with
    | false =>
     rw [if_neg Bool.false_ne_true] at w6
     rw [if_neg Bool.false_ne_true]
     obtain ⟨zD,hD7,hDl7,hDf7,_⟩:=I6'.pin (s2.heap.objs.size,dO its cnt) (List.mem_append_right _ (List.mem_append_left _ List.mem_cons_self))
     have I9:Inv Y [(s2.heap.objs.size,dO its cnt)] (os' ++ aQ σ caps) H7 s6':=I6'.pins_of fun p hp=>by
      have e:p=(s2.heap.objs.size,dO its cnt):=by simpa using hp
      subst e
      exact ⟨zD,hD7,hDl7,hDf7,(fun v z=>nomatch z)⟩
     refine wpAny_pure ⟨rfl,n0+1 - (i+1),by omega,i+1,ysV,its,cnt,H7,os',hos',rfl,I9,?_,?_,vv,by omega,hlt,w6⟩
     ·refine T.keep _ _ _ st5 fun b hb ob e=>?_
      exact (I6'.pin (b,ob) (List.mem_append_right _ (List.mem_append_right _ (dH hb e)))).1
     ·intro b hb
      obtain ⟨ob,e,_⟩:=T.obj _ _ st5 b hb
      exact (I6'.pin (b,ob) (List.mem_append_right _ (List.mem_append_right _ (dH hb e)))).2.1
    | true =>
     rw [if_pos rfl] at w6
     rw [if_pos rfl]
     have ev:=yhe _ s6' _ H7 _ I6' w6
     rw [yP,yW,yA,yE] at ev
     refine wpAny_bind (wpAny_bind (nxE yX ev fun yv s7 ⟨y,H8,I7,r7,w7⟩=>?_))
     obtain ⟨zD,hD7,hDl7,hDf7,_⟩:=I7.pin (s2.heap.objs.size,dO its cnt) (List.mem_append_right _ (List.mem_append_left _ List.mem_cons_self))
     refine wpAny_bind (append_at zD (fun h8 sb8 d8=>wpAny_pure (wpAny_pure ⟨rfl,?_⟩)) (by rw [List.size_toArray];omega))
     have I7':Inv Y [] (os' ++ aQ σ caps) H8 s7:=I7.pins_of fun p hp=>nomatch hp
     have I8:Inv Y [] (os' ++ aQ σ caps) H8 { s7 with heap:=h8 }:=I7'.turned (t':=s7.toks) (fun b ob hb e=>(sb8.2 b hb).trans e) hD7 hDl7 (.inl (by rw [yex];exact List.mem_cons_self)) (fun y c e=>hDc y c (ycl y c e)) (fun p hp=>by
      rw [ypn,List.append_nil] at hp
      exact hDp p hp)
     have I9:Inv Y [(s2.heap.objs.size,dO (its ++ [yv]) (cnt+1))] (os' ++ aQ σ caps) H8 { s7 with heap:=h8 }:=I8.pins_of fun p hp=>by
      have e:p=(s2.heap.objs.size,dO (its ++ [yv]) (cnt+1)):=by simpa using hp
      subst e
      refine ⟨?_,hD7,hDl7,hDf7,fun v z=>nomatch z⟩
      show h8.get? s2.heap.objs.size=some { cls:=.type "list",data:=.seq (its ++ [yv]).toArray (cnt+1) }
      rw [d8,List.push_toArray]
     refine ⟨n0+1 - (i+1),by omega,i+1,ysV ++ [y],its ++ [yv],cnt+1,H8,os',hos',rfl,I9,?_,?_,vv.append (.cons r7 .nil),by rw [List.length_append];show ysV.length+1<=i+1;omega,hlt,w7⟩
     ·refine T.keep _ _ _ st5 fun b hb ob e=>(sb8.2 b (Nat.ne_of_lt (hfl b hb))).trans ?_
      exact (I7.pin (b,ob) (List.mem_append_right _ (List.mem_append_right _ (dH hb e)))).1
     ·intro b hb
      obtain ⟨ob,e,_⟩:=T.obj _ _ st5 b hb
      exact (I7.pin (b,ob) (List.mem_append_right _ (List.mem_append_right _ (dH hb e)))).2.1
 exact codeAny_compStart_list (loop _ rfl) (T.self _ 0 _ _ _ st4 (loop _ rfl))
theorem Vy {wi:TI} {FS:Scope} {N:List Str} (S0:gH FS scope N xs ys caps) (hFS:X.env.scope=FS) (hN0:X.N=N) (hcalm:X.calm=true) (hi:PI X tg iter wi) (hg:∀ s H ex pn,PG (cL X scope (xs ++ ys) s H ex pn) tg g) (hT:∀ s H ex pn,PT (cL X scope (xs ++ ys) s H ex pn) tst tt) (he:∀ s H ex pn,PE (cL X scope (xs ++ ys) s H ex pn) elt te)
  (hs:∀ v,foldedSetIterable iter X.env v=pure v:=by intro _;rfl):PE X (.ListComp elt [⟨tg,iter,[tst],0⟩] scope pos) (Lm wi xs.length caps g tt te):=by
 have S:gH X.env.scope scope X.N xs ys caps:=by rw [hFS,hN0];exact S0
 intro pins s σ H Q I h
 rw [eval_ListComp]
 refine wpAny_comprehension_free (use:=none) rfl hs (iB (S.cells I)) S.kind S.names (thn (hi pins s σ H _ I h) fun v s1 h1=>thn h1 fun itv s2 h2=>?_)
 obtain ⟨it,fp,tn,J,H2,rfl,I2,T,st2,f2,rd⟩:=h2
 refine Tj (RR:=fun acc C=>compPost (model X.prog X.w) X.A X.xe none (EP X pins σ Q) acc C) hcalm S hg hT he I2 T st2 f2 rd ?_
 intro C ysV its n H8 s8 m hC I8 hD hC8 vv hz oD hn fin
 refine ⟨m,hn,fun h' sb=>?_⟩
 have sz:=I2.sz
 have lt:=I2.lt
 have ap:∀ b:Addr,b < s2.heap.objs.size->b≠C/\C≠b:=fun b hb=>by
  subst hC
  exact ⟨Nat.ne_of_lt (Nat.lt_succ_of_lt hb),Nat.ne_of_gt (Nat.lt_succ_of_lt hb)⟩
 have szC:X.s₀.heap.objs.size<=C:=by subst hC;exact Nat.le_succ_of_le sz
 have DC:s2.heap.objs.size≠C:=by subst hC;exact Nat.ne_of_lt (Nat.lt_succ_self _)
 have cl:∀ y c,X.env.cells.lookup y=some c->c < s2.heap.objs.size:=fun y c e=>by
  obtain ⟨w',z⟩:=I2.cell y c e
  exact z.lt
 have pl:∀ p∈X.pn ++ pins,p.1 < s2.heap.objs.size:=fun p hp=>Heap.lt_size (I2.pin p hp).1
 have I9:Inv X pins σ H8 { s8 with heap:=h' }:=I8.turned (t':=s8.toks) (fun b o hb e=>(sb.2 b hb).trans e) hC8 (ap _ lt).2 (.inr szC) (fun y c e=>(ap c (cl y c e)).1) (fun p hp=>(ap p.1 (pl p hp)).1)
 have oD':h'.get? s2.heap.objs.size=some (dO its n):=(sb.2 _ DC).trans oD
 exact ⟨.ref s2.heap.objs.size,upd H8 s2.heap.objs.size (.lst ysV),I9.adopt hD sz (Nat.ne_of_gt lt) (fun y c e=>Nat.ne_of_lt (cl y c e)) (fun p hp=>Nat.ne_of_lt (pl p hp)) ⟨hz,its,n,vv,oD'⟩,rfl,fin _ hD⟩
end
theorem Ti {K:PySem.W.Frag} {a b:Addr} {xs ys:List V} {σ:St} {k:Nat} {caps:List Nat} {g:TG} {tt:TT} {te:TE} {H1:Hp} {fin:List V->Hp->Prop} (W:Nat->List V->Hp->Prop) (hz:xs.length<=sizeLine) (he:xs.length=ys.length) (h0:W 0 [] H1) (hl:∀ i zs H,i<=xs.length->W i zs H->SqL K H a xs/\SqL K H b ys)
  (hs:∀ i x y p zs H,xs[i]?=some x->ys[i]?=some y->zs.length<=i->W i zs H->H p=none->∀ os:St,os.length=k->g (.ref p) (os ++ aQ σ caps) (upd H p (.tup [x,y])) fun σ2 H4=>(∃ os':St,os'.length=k/\σ2=os' ++ aQ σ caps)/\tt σ2 H4 fun b H5=>if b=true then te σ2 H5 fun z H6=>W (i+1) (zs ++ [z]) H6 else W (i+1) zs H5)
  (hd:∀ zs H,W xs.length zs H->fin zs H):Go (Itz K a b) σ k caps g tt te H1 fin:=by
 refine ⟨xs.length,W,hz,h0,fun i zs H2 hi hy hw=>?_⟩
 obtain ⟨q,r⟩:=hl i zs H2 hi hw
 by_cases hlt:i < xs.length
 ·have hlt2:i < ys.length:=by omega
  refine .inr ⟨hlt,⟨xs,xs[i],ys,ys[i],q,by simp [hlt],r,by simp [hlt2]⟩,fun x H3 y os ho=>?_⟩
  obtain ⟨pp,x',y',e1,e2,e3,y1,y2⟩:=y
  subst e1 e3
  exact hs i x' y' pp zs _ (y1 xs q) (y2 ys r) hy hw e2 os ho
 ·have e:i=xs.length:=by omega
  subst e
  exact .inl ⟨⟨xs,ys,q,r,.inl (Nat.le_refl _)⟩,hd zs H2 hw⟩
theorem Wv {lo:Int} {n:Nat} {σ:St} {caps:List Nat} {tt:TT} {te:TE} {H1:Hp} {fin:List V->Hp->Prop} (W:Nat->List V->Hp->Prop) (hz:n<=sizeLine) (h0:W 0 [] H1)
  (hs:∀ i ys H,i < n->ys.length<=i->W i ys H->tt (some (.int (lo+i)) :: aQ σ caps) H fun b H4=>if b=true then te (some (.int (lo+i)) :: aQ σ caps) H4 fun y H5=>W (i+1) (ys ++ [y]) H5 else W (i+1) ys H4)
  (hd:∀ ys H,W n ys H->fin ys H):Fa (Itr lo n) σ caps tt te H1 fin:=by
 refine ⟨n,W,hz,h0,fun i ys H2 hi hy hw=>?_⟩
 by_cases hlt:i < n
 ·refine .inr ⟨hlt,hlt,fun x H3 y=>?_⟩
  obtain ⟨e1,e2⟩:=y
  subst e1 e2
  exact hs i ys _ hlt hy hw
 ·have e:i=n:=by omega
  subst e
  exact .inl ⟨Nat.le_refl _,hd ys H2 hw⟩
end L2
namespace L2
open PySem PySem.Spec PyProof.Rows
theorem Wz (a d:Value):argsOk "max" ⟨[a],[("default",d)]⟩:=by unfold argsOk;kernel_rfl
section
variable {prog:Program} {w:World} {A:Around} {E:Value->Shared->Prop} {s:Shared}
theorem Tk {id:String} {b:Builtin} {args:List Value} {kw:List (Str×Value)} {Q:Value->Shared->Prop} (kind:builtinKind id=none) (plain:plainId id=true) (ent:entryFor table id=some b) (ok:argsOk id ⟨args,kw⟩)
  (run:wpAny (model prog w) A.in1 (b ⟨args,kw⟩) (fun fin z=>match fin with
   | .done g=>(match (Except.ok g:Result) with | .ok (.ret u)=>Q u z | .ok _=>False | .error e=>E e z)
   | .again k=>k.quiet=true/\codeAny (model prog w) A k (fun r y=>match r with | .ok (.ret u)=>Q u y | .ok _=>False | .error e=>E e y) z) E s) :
  wpAny (model prog w) A (call (.builtin id) args kw) Q E s:=by
 refine wpAny_call (codeAny_call_builtin plain ent ?_)
 simp only [checkBuiltinCall,kind]
 cases sig:Manifest.signature? id with
 | none=>exact wpAny_pure run
 | some g =>
  have ok':Bind.checkArgs id g ⟨args,kw⟩=pure ():=by simpa only [argsOk,sig] using ok
  simp only [ok']
  exact wpAny_pure run
theorem Wx {l:Addr} {xs:Array (Int×Tok)} {d:Value} {Q:Value->Shared->Prop} (calm:A.handled=none) (hl:s.heap.IsList l (intItems xs))
  (f0:xs.size=0->∀ h' tk,(∀ b o,s.heap.get? b=some o->h'.get? b=some o)->Q d { s with heap:=h',toks:=tk })
  (f1:0 < xs.size->∀ v h' tk,(intItems xs)[argBest (fun i j=>decide (numAt xs i > numAt xs j)) (xs.size - 1)]?=some v->(∀ b o,s.heap.get? b=some o->h'.get? b=some o)->Q v { s with heap:=h',toks:=tk }) :
  wpAny (model prog w) A (call (.builtin "max") [.ref l] [("default",d)]) Q E s:=by
 have nm:(toString "max" ++ toString ".loop" : String)="max.loop":=by decide
 have sz:(intItems xs).size=xs.size:=by simp [intItems]
 refine Tk PySem.F.kind_max PySem.F.plain_max PySem.F.entry_max (Wz _ _) ?_
 show wpAny _ A.in1 (Builtin.Builtins.bindParams "max" ["key", "default"] 0 ⟨[],[("default",d)]⟩ >>= _) _ _ s
 refine wpAny_bind (wpAny_of_eq (show Builtin.Builtins.bindParams "max" ["key", "default"] 0 ⟨[],[("default",d)]⟩=pure [none,some d] from rfl) ?_)
 refine wpAny_bind (wpAny_pure (wpAny_bind (iter_intList hl fun s₂ e st fpo lI=>?_)))
 subst e
 refine wpAny_bind (wpAny_newObj_type ?_)
 rw [nm]
 have W:=Walks.list (prog:=prog) (w:=w) (A:=A.in1) calm _ l lI (intItems xs)
 refine wpAny_pure ⟨plainId_quiet PySem.F.plain_max_loop _,Sq W _ (CmpOf.ints_gt (numAt xs) (fun _ _=>intItems_at)) _ (fun z=>Nat.lt_irrefl _ (fpo _ z)) d (W.frame _ _ _ st fun b _ o e=>Heap.get?_push_of_some _ e) (Heap.get?_push_size _ rfl) (fun n0 h' tk keep=>?_) fun n1 v h' tk pv keep=>?_⟩
 ·refine f0 (by rw [← sz];exact n0) h' tk (old_kept fun b o bw e=>keep b o bw (Nat.ne_of_lt (Heap.lt_size e)) (Heap.get?_push_of_some _ e))
 ·rw [sz] at n1 pv
  refine f1 n1 v h' tk pv (old_kept fun b o bw e=>keep b o bw (Nat.ne_of_lt (Heap.lt_size e)) (Heap.get?_push_of_some _ e))
end
noncomputable def Xl (K:PySem.W.Frag) (t:TA) (d:TE):TE:=fun σ H Q=>t σ H fun vs H1=>∃ x,vs=[x]/\d σ H1 fun y H2=>∃ p ns,x=.ref p/\SqL K H2 p (List.map V.int ns)/\(ns=[]->Q y H2)/\(ns≠[]->∀ M,M∈ns->(∀ a∈ns,a<=M)->Q (.int M) H2)
noncomputable def tTru (K:PySem.W.Frag) (t:TE):TT:=fun σ H Q=>t σ H fun x H'=>∃ k,TruV K x H' k/\Q k H'
section
variable {X:Cx}
theorem pe_maxD {e d:Expr} {ta:TA} {td:TE} {p kp pos:Pos} (calm:X.calm=true) (hg:Gl X "max") (hm:X.mg "max" = none) (ha:PA X [e] ta) (hd:PE X d td)
  (h1:backTo pos (starEach [e] X.env)=(false,eval e X.env) :: backTo pos (starEach [] X.env):=by rfl) (h2:(backTo pos (starEach [e] X.env)).any (·.1)=false:=by rfl):PE X (.Call (.Name "max" p) [e] [⟨some "default",d,kp⟩] pos) (Xl X.K ta td):=by
 intro pins s σ H Q I h
 refine wpAny_Call_Name_kw (rX I hg hm Fp ?_ (by decide) (by decide))
 refine callWith_kw ?_ h1 h2
 refine thn (ha pos pins s σ H _ I h) fun us s1 z=>?_
 obtain ⟨vs,H1,I1,r1,x,rfl,q1⟩:=z
 obtain ⟨u,rfl,ru⟩:=yZ r1
 refine kws_cons (thn (hd pins s1 σ H1 _ I1 q1) fun v s2 ⟨y,H2,I2,ry,l,ns,ex,hp,q0,q2⟩=>kws_nil ?_)
 subst ex
 cases ru
 obtain ⟨its,rv,pl,hz⟩:=I2.list hp
 obtain ⟨ps,e1,e2⟩:=rv.ints
 have hl:ps.length=ns.length:=by rw [← e2,List.length_map]
 have ei:its.toArray=intItems ps.toArray:=by rw [e1];unfold intItems;simp
 have pl':=pl.isList
 rw [ei] at pl'
 refine Wx (I2.ok.hd calm) pl' (fun n0 h' tk keep=>?_) fun n1 w h' tk hw keep=>?_
 ·rw [List.size_toArray] at n0
  exact ⟨y,H2,I2.kept keep,ry,q0 (List.length_eq_zero_iff.mp (by omega))⟩
 ·obtain ⟨t,rfl⟩:=intItems_at hw
  obtain ⟨g1,g2⟩:=argBest_gt (numAt ps.toArray) (ps.toArray.size - 1)
  rw [List.size_toArray] at g1 g2 n1 ⊢
  obtain ⟨M,m1,m2⟩:=qQ e2 (argBest (fun i j=>decide (numAt ps.toArray i > numAt ps.toArray j)) (ps.length - 1)) (by omega)
  rw [m2] at g2 ⊢
  refine ⟨.int M,H2,I2.kept keep,⟨_,rfl⟩,q2 (fun z=>by rw [z,List.length_nil] at hl;omega) M (List.mem_of_getElem? m1) fun a ha=>?_⟩
  obtain ⟨j,hj,ej⟩:=List.getElem_of_mem ha
  obtain ⟨n,n1',n2⟩:=qQ e2 j hj
  rw [List.getElem?_eq_getElem hj,ej] at n1'
  cases n1'
  rw [← n2]
  exact g2 j (by omega)
theorem Zm {x:Str} {n:Int} {pos:Pos} (hg:Gl X x) (hm:∃ t,X.mg x=some (.int n t)) (hd:(x == ("__debug__" : Str))=false:=by decide):PE X (.Name x pos) (tC (.int n)) :=
 let ⟨t,e⟩:=hm
 pe_glob (v:=.int n) hg e ⟨t,rfl⟩ hd
end
end L2
namespace L2
open PySem PySem.Spec PyProof.Rows
structure jA (FS scope:Scope) (N:List Str) (x:Str) (ys:List Str) (caps:List Nat):Prop where
 cf:∀ n acc,cellsFrom n scope.names acc=(x,n) :: acc
 pc:∀ h,pushCells h scope.names=h.push { cls:=.type "cell",data:=.cell none }
 only:∀ y∈scope.names,y.2=.cell->y.1=x
 xc:scope.names.lookup x=some .cell
 kind:scope.kind=.function
 names:∀ y∈scope.names,y.2=.local->scope.names.lookup y.1=some .local
 fr:∀ p∈scope.names,p.2=.free->FS.names.lookup p.1=some .cell
 xf:∀ p∈scope.names,p.2=.free->p.1≠x
 fk:FS.kind=.function
 cap:∀ p∈ys.zip caps,N[p.2]?=some p.1/\scope.names.lookup p.1=some .free
 len:ys.length=caps.length
 nd:(x :: ys).Nodup
noncomputable abbrev Ko (X:Cx) (scope:Scope) (x:Str) (C:Addr):List (Str×Addr):=(x,C+1) :: fB X scope
noncomputable def iE (X:Cx) (scope:Scope) (x:Str) (NY:List Str) (s:Shared) (H:Hp) (ex:List Addr) (pn:List (Addr×Obj)):Cx :=
 { X with N:=NY,s₀:=s,H₀:=H,env:=compEnvC scope (Ko X scope x s.heap.objs.size) s.heap.objs.size X.env,outer:=X.stack,stack:=X.stack,ex:=ex,fn:=fun y=>y == x,pn:=pn,xe:=fun _ _=>False }
theorem pJ {α:Type} {x y:Str} {v:α} {l:List (Str×α)} (h:y≠x):((x,v) :: l).lookup y=l.lookup y:=by
 rw [List.lookup_cons,show (y == x)=false by simpa using h]
theorem vR {α:Type} {x:Str} {v:α} {l:List (Str×α)}:((x,v) :: l).lookup x=some v:=by
 rw [List.lookup_cons,show (x == x)=true by simp]
theorem jN {env:Env}:∀ {names:List (Str×NameKind)} {x:Str},names.lookup x=some .cell ->
  (names.map fun (n,k)=>if (k == NameKind.free && env.scope.kind == .function && env.kindOf n == some .cell) then (n,NameKind.cell) else (n,k)).lookup x=some .cell
 | [],_,h=>by simp at h
 | (n,k) :: r,x,h=>by
  have ih:=@jN env r x
  show List.lookup x ((if (k == NameKind.free && env.scope.kind == .function && env.kindOf n == some .cell)=true then (n,NameKind.cell) else (n,k)) :: _)=_
  cases hx:x == n with
  | true =>
   simp only [List.lookup_cons,hx] at h
   cases h
   simp [List.lookup_cons,hx]
  | false =>
   simp only [List.lookup_cons,hx] at h
   by_cases hc:(k == NameKind.free && env.scope.kind == .function && env.kindOf n == some .cell)=true
   ·rw [if_pos hc];simp only [List.lookup_cons,hx];exact ih h
   ·rw [if_neg hc];simp only [List.lookup_cons,hx];exact ih h
theorem Dm {env:Env} {x:Str}:∀ {names:List (Str×NameKind)} {y:Str},(∀ p∈names,p.2=.cell->p.1=x) ->
  (∃ k,(names.map fun (n,k)=>if (k == NameKind.free && env.scope.kind == .function && env.kindOf n == some .cell) then (n,NameKind.cell) else (n,k)).lookup y=some k/\(k=.cell∨k=.free))->y=x∨(y,NameKind.free)∈names
 | [],_,_,⟨_,h,_⟩=>by simp at h
 | (n,k) :: r,y,hn,⟨kk,h,hkk⟩=>by
  have h:List.lookup y ((if (k == NameKind.free && env.scope.kind == .function && env.kindOf n == some .cell)=true then (n,NameKind.cell) else (n,k)) :: r.map fun (n,k)=>if (k == NameKind.free && env.scope.kind == .function && env.kindOf n == some .cell) then (n,NameKind.cell) else (n,k))=some kk:=h
  have ih:=@Dm env x r y fun p hp=>hn p (List.mem_cons_of_mem _ hp)
  cases hx:y == n with
  | true =>
   have e:y=n:=by simpa using hx
   subst e
   by_cases hc':(k == NameKind.free && env.scope.kind == .function && env.kindOf y == some .cell)=true
   ·have hf:k=.free:=by
     rw [Bool.and_eq_true,Bool.and_eq_true] at hc'
     simpa using hc'.1.1
    rw [hf];exact .inr List.mem_cons_self
   ·rw [if_neg hc'] at h
    simp only [List.lookup_cons,hx] at h
    have e2:k=kk:=Option.some.inj h
    subst e2
    rcases hkk with z | z
    ·exact .inl (hn (y,k) List.mem_cons_self z)
    ·rw [z];exact .inr List.mem_cons_self
  | false =>
   have h2:(r.map fun (n,k)=>if (k == NameKind.free && env.scope.kind == .function && env.kindOf n == some .cell) then (n,NameKind.cell) else (n,k)).lookup y=some kk:=by
    by_cases hc':(k == NameKind.free && env.scope.kind == .function && env.kindOf n == some .cell)=true
    ·rw [if_pos hc'] at h;simp only [List.lookup_cons,hx] at h;exact h
    ·rw [if_neg hc'] at h;simp only [List.lookup_cons,hx] at h;exact h
   exact (ih ⟨kk,h2,hkk⟩).imp id (List.mem_cons_of_mem _)
theorem Pt {M:Model} {A:Around} {E:Value->Shared->Prop} {s:Shared} {scope:Scope} {globals:Addr} {cl:List (Str×Addr)} {x:Str} {qual:Str} {env:Env} {Q:Env->Shared->Prop}
  (cf:∀ n acc,cellsFrom n scope.names acc=(x,n) :: acc) (pc:∀ h,pushCells h scope.names=h.push { cls:=.type "cell",data:=.cell none })
  (hQ:Q (newEnv scope s.heap.objs.size globals ((x,s.heap.objs.size+1) :: cl) qual none .none (some env) builtinsNs) { s with heap:=(s.heap.push { cls:=.type "dict",data:=.dict #[] }).push { cls:=.type "cell",data:=.cell none } }) :
  wpAny M A (newFunctionEnv scope globals cl [] qual none .none (some env)) Q E s:=by
 simp only [newFunctionEnv,Option.isSome_some,if_true]
 refine wpAny_bind (wpAny_alloc ?_)
 refine wpAny_bind (wpAny_layCells _ (fun name kind cells=>by cases hkc:kind == NameKind.cell <;> simp [hkc]) _ _ _ _ ?_)
 rw [pc,cf]
 rw [show ({ s with heap:=s.heap.push { cls:=.type "dict",data:=.dict #[] } }:Shared).heap.objs.size=s.heap.objs.size+1 from Heap.size_push ..]
 refine wpAny_bind ?_
 rw [List.forIn_nil]
 exact wpAny_pure (wpAny_pure hQ)
section
variable {X:Cx} {scope:Scope} {x:Str} {ys:List Str} {caps:List Nat}
theorem jA.cells {pins:List (Addr×Obj)} {σ:St} {H:Hp} {s:Shared} (S:jA X.env.scope scope X.N x ys caps) (I:Inv X pins σ H s):∀ p∈scope.names,p.2=.free->∃ c,X.env.cells.lookup p.1=some c:=fun p hp hf =>
 I.ok.has p.1 (.inl (S.fr p hp hf))
theorem jA.sub {pins:List (Addr×Obj)} {σ:St} {H:Hp} {s:Shared} (S:jA X.env.scope scope X.N x ys caps) (I:Inv X pins σ H s) {y:Str} {c:Addr} (e:(fB X scope).lookup y=some c):X.env.cells.lookup y=some c :=
 sQ (S.cells I) (fun p hp=>absurd hp (by simp)) (y,c) (PySem.mem_of_lookup e)
theorem jA.sub2 {pins:List (Addr×Obj)} {σ:St} {H:Hp} {s:Shared} {C:Addr} (S:jA X.env.scope scope X.N x ys caps) (I:Inv X pins σ H s) {y:Str} {c:Addr} (e:(Ko X scope x C).lookup y=some c):(y=x/\c=C+1)∨(y≠x/\X.env.cells.lookup y=some c):=by
 by_cases h:y=x
 ·subst h
  rw [vR] at e
  exact .inl ⟨rfl,(Option.some.inj e).symm⟩
 ·rw [pJ h] at e
  exact .inr ⟨h,S.sub I e⟩
theorem Inv.enterC {pins:List (Addr×Obj)} {σ:St} {H:Hp} {s:Shared} {h₁:Heap} {ex:List Addr} {tk:Nat} {pl:List (Addr×Obj)} (S:jA X.env.scope scope X.N x ys caps) (hcalm:X.calm=true) (I:Inv X pins σ H s)
  (hn:h₁.Ns s.heap.objs.size (fun _=>none)) (hcl:h₁.IsCell (s.heap.objs.size+1) none) (keep:∀ b o,s.heap.get? b=some o->h₁.get? b=some o)
  (hex:∀ b∈ex,b < s.heap.objs.size/\b∉frs X.stack/\(∀ y c,X.env.cells.lookup y=some c->c≠b)/\X.base.get? b=none)
  (hpl:∀ p∈pl,s.heap.get? p.1=some p.2/\H p.1=none/\p.1∉frs X.stack/\∀ v,p.2.data≠.cell v) :
  Inv (iE X scope x (x :: ys) s H ex (X.pn ++ pins)) pl (none :: aQ σ caps) H { s with heap:=h₁,toks:=tk }:=by
 have hL:s.heap.objs.size≠X.env.locals:=Nat.ne_of_gt I.lt
 have hCn:∀ b o,s.heap.get? b=some o->b≠s.heap.objs.size:=fun b o e=>Nat.ne_of_lt (Heap.lt_size e)
 have cellLt:∀ y c,X.env.cells.lookup y=some c->c < s.heap.objs.size:=fun y c e=>by
  obtain ⟨v,z⟩:=I.cell y c e
  exact z.lt
 have cellUp:∀ {c:Addr} {v:Option Value},s.heap.IsCell c v->h₁.IsCell c v:=fun {c v} ⟨o,ho,hd⟩=>⟨o,keep c o ho,hd⟩
 refine ⟨⟨I.ok.mod,S.kind,I.ok.glob,I.ok.blt,Nat.le_refl _,fun y z c h1 h2=>?_,fun y hy=>?_,fun y c hf e=>?_,fun _=>I.ok.hd hcalm,I.ok.frames,.inl rfl,fun b hb=>?_,I.bs,Nat.le_trans I.ok.bsz I.sz,fun b o e hb=>?_,fun b hb=>(hex b hb).2.1,I.stack,I.stkFree⟩,
  rfl,I.bare,Un.kept keep,⟨_,hn,fun i y v e1 e2 e3=>?_⟩,fun y c e=>?_,I.hok.fresh (Nat.le_refl _),fun y c e=>?_,fun p hp=>?_,I.hok.kept keep,?_⟩
 ·rcases S.sub2 I h1 with ⟨e1,e2⟩ | ⟨e1,e2⟩ <;> rcases S.sub2 I h2 with ⟨f1,f2⟩ | ⟨f1,f2⟩
  ·rw [e1,f1]
  ·exact absurd (cellLt z c f2) (by rw [e2];exact Nat.not_lt.mpr (Nat.le_succ _))
  ·exact absurd (cellLt y c e2) (by rw [f2];exact Nat.not_lt.mpr (Nat.le_succ _))
  ·exact I.ok.inj y z c e2 f2
 ·rcases Dm (env:=X.env) (x:=x) (names:=scope.names) (y:=y) S.only (by
   rcases hy with hy | hy
   ·exact ⟨_,hy,.inl rfl⟩
   ·exact ⟨_,hy,.inr rfl⟩) with hy' | hy'
  ·subst hy'
   exact ⟨_,vR⟩
  ·obtain ⟨c,hc⟩:=gF (kD (env:=X.env) (cs:=[]) hy')
   exact ⟨c,(pJ (S.xf _ hy' rfl)).trans hc⟩
 ·have hyx:y=x:=by simpa using (show (y == x)=true from hf)
  rcases S.sub2 I e with ⟨_,e2⟩ | ⟨e1,_⟩
  ·rw [e2];exact Nat.le_succ _
  ·exact absurd hyx e1
 ·refine ⟨Nat.ne_of_lt (hex b hb).1,fun y c e=>?_⟩
  rcases S.sub2 I e with ⟨_,e2⟩ | ⟨_,e2⟩
  ·rw [e2];exact Nat.ne_of_gt (Nat.lt_succ_of_lt (hex b hb).1)
  ·exact (hex b hb).2.2.1 y c e2
 ·have z:=(hex b hb).2.2.2
  have e':X.base.get? b=some o:=e
  rw [z] at e';cases e'
 ·have e1':(x :: ys)[i]?=some y:=e1
  obtain ⟨i,e1,e2⟩:∃ i':Nat,ys[i']?=some y/\(aQ σ caps)[i']?=some (some v):=by
   match i,e1',e2 with
   | 0,_,e2=>cases e2
   | i+1,e1',e2=>exact ⟨i,e1',e2⟩
  obtain ⟨j,hj,hv⟩:∃ j,caps[i]?=some j/\σ[j]?=some (some v):=by
   unfold aQ at e2
   rw [List.getElem?_map] at e2
   cases q:caps[i]? with
   | none=>rw [q] at e2;cases e2
   | some j =>
    rw [q] at e2
    have e3:(σ[j]?).join=some v:=Option.some.inj e2
    cases q2:σ[j]? with
    | none=>rw [q2] at e3;cases e3
    | some w'=>rw [q2] at e3;exact ⟨j,rfl,by rw [show w'=some v from e3] at q2;exact q2⟩
  have hz:(y,j)∈ys.zip caps:=List.mem_of_getElem? (i:=i) (by rw [List.getElem?_zip_eq_some];exact ⟨e1,hj⟩)
  obtain ⟨hN,hf⟩:=S.cap (y,j) hz
  have hcellX:X.env.kindOf y=some .cell:=S.fr (y,.free) (PySem.mem_of_lookup hf) rfl
  obtain ⟨m,hm,hl⟩:=I.loc
  obtain ⟨u,r,l⟩:=hl j y v hN hv (.inr (.inl hcellX))
  refine ⟨u,r,?_⟩
  rcases l with ⟨hk,_⟩ | ⟨_,c,hc,hcell⟩
  ·rw [hcellX] at hk;cases hk
  ·obtain ⟨c',hc'⟩:=gF (kD (env:=X.env) (cs:=[]) (PySem.mem_of_lookup hf))
   have:=S.sub I hc'
   rw [hc] at this
   cases this
   exact .inr ⟨.inl (jF S.fk hf hcellX),c,(pJ (S.xf _ (PySem.mem_of_lookup hf) rfl)).trans hc',cellUp hcell⟩
 ·rcases S.sub2 I e with ⟨_,e2⟩ | ⟨_,e2⟩
  ·rw [e2];exact ⟨none,hcl⟩
  ·obtain ⟨v,z⟩:=I.cell y c e2
   exact ⟨v,cellUp z⟩
 ·rcases S.sub2 I e with ⟨_,e2⟩ | ⟨_,e2⟩
  ·rw [e2];exact I.hok.fresh (Nat.le_succ _)
  ·exact I.freeC y c e2
 ·rcases List.mem_append.mp hp with hp | hp
  ·obtain ⟨a1,a2,a3,a4,a5⟩:=I.pin p hp
   exact ⟨keep _ _ a1,a2,hCn _ _ a1,fun z=>(List.mem_cons.mp (I.stkSub p.1 z)).elim a3 a4,a5⟩
  ·obtain ⟨a1,a2,a4,a5⟩:=hpl p hp
   exact ⟨keep _ _ a1,a2,hCn _ _ a1,a4,a5⟩
 ·show (none :: aQ σ caps).length=(x :: ys).length
  rw [List.length_cons,List.length_cons,aQ,List.length_map,S.len]
end
section
variable {X:Cx} {scope:Scope} {x:Str} {ys:List Str} {caps:List Nat} {elt iter tg:Expr} {te:TE} {g:TG} {pos:Pos}
theorem Ww {pins:List (Addr×Obj)} {σ:St} {H2:Hp} {s2:Shared} {J:It} {fp:List Addr} {it:Addr} {tn:Nat->Heap->Prop} {E:Value->Shared->Prop} {fin:List V->Hp->Prop} {RR:Value->Addr->Result->Shared->Prop}
  (hcalm:X.calm=true) (S:jA X.env.scope scope X.N x ys caps) (hg:∀ s H ex pn,PG (iE X scope x (x :: ys) s H ex pn) tg g) (he:∀ s H ex pn,PE (iE X scope x (x :: ys) s H ex pn) elt te)
  (I2:Inv X pins σ H2 s2) (T:Kq X.prog X.w X.K tg J fp it tn) (st2:tn 0 s2.heap) (f2:∀ b∈fp,xP X pins H2 b) (rd:kU J σ 1 caps g te H2 fin)
  (hRR:∀ (C:Addr) (ysV:List V) (its:List Value) (n:Nat) (H8:Hp) (s8:Shared) (m:Str->Option Value),C=s2.heap.objs.size+1->Inv X pins σ H8 s8->H8 s2.heap.objs.size=none->H8 C=none->cK ysV its->ysV.length<=sizeLine ->
   s8.heap.get? s2.heap.objs.size=some (dO its n)->s8.heap.Ns C m->fin ysV H8->RR (.ref s2.heap.objs.size) C (.ok .next) s8) :
  wpAny (model X.prog X.w) X.A (newList []) (fun acc s₃=>wpAny (model X.prog X.w) X.A (newFunctionEnv scope X.env.globals (fB X scope) [] X.env.qual none .none (some X.env)) (fun cenv s₄ =>
   codeAny (model X.prog X.w) X.A (.compStart (.ListComp elt [⟨tg,iter,[],0⟩] scope pos) 0 (.ref it) acc { cenv with scope:=relabel scope X.env }) (RR acc cenv.locals) s₄) E s₃) E s2:=by
 obtain ⟨n0,W,hn0,w0,turn⟩:=rd
 refine wpAny_newObj_type (Pt S.cf S.pc ?_)
 dsimp only
 generalize hg3:s2.heap.push { cls:=.type "list",dict:=none,data:=.seq ([]:List Value).toArray }=g3
 have hC:g3.objs.size=s2.heap.objs.size+1:=by rw [← hg3,Heap.size_push]
 have up3:∀ b o,s2.heap.get? b=some o->g3.get? b=some o:=fun b o e=>hg3 ▸ Heap.get?_push_of_some _ e
 have I3:Inv X pins σ H2 { s2 with heap:=g3 }:=I2.kept (t':=s2.toks) up3
 have keep:∀ b o,g3.get? b=some o->((g3.push { cls:=.type "dict",data:=.dict #[] }).push { cls:=.type "cell",data:=.cell none }).get? b=some o:=fun b o e=>Heap.get?_push_of_some _ (Heap.get?_push_of_some _ e)
 have hns:((g3.push { cls:=.type "dict",data:=.dict #[] }).push { cls:=.type "cell",data:=.cell none }).Ns g3.objs.size (fun _=>none):=(Heap.Ns.new g3 (.type "dict")).keeps fun b o e=>Heap.get?_push_of_some _ e
 have hcl:((g3.push { cls:=.type "dict",data:=.dict #[] }).push { cls:=.type "cell",data:=.cell none }).IsCell (g3.objs.size+1) none:=⟨_,Heap.get?_push_at (Heap.size_push ..).symm rfl,rfl⟩
 generalize (g3.push { cls:=.type "dict",data:=.dict #[] }).push { cls:=.type "cell",data:=.cell none }=h₁ at keep hns hcl ⊢
 have objD:g3.get? s2.heap.objs.size=some (dO [] 0):=hg3 ▸ Heap.get?_push_size _ rfl
 have hDL:s2.heap.objs.size≠X.env.locals:=Nat.ne_of_gt I2.lt
 have hDfs:s2.heap.objs.size∉X.fs:=I2.nofs (Nat.le_refl _)
 have hDst:s2.heap.objs.size∉frs X.stack:=fun z=>(List.mem_cons.mp (I2.stkSub _ z)).elim hDL hDfs
 have hDc:∀ y c,X.env.cells.lookup y=some c->c≠s2.heap.objs.size:=fun y c e=>by
  obtain ⟨v,z⟩:=I2.cell y c e
  exact Nat.ne_of_lt z.lt
 have hDp:∀ p∈X.pn ++ pins,p.1≠s2.heap.objs.size:=fun p hp=>Nat.ne_of_lt (Heap.lt_size (I2.pin p hp).1)
 have hfl:∀ b∈fp,b < s2.heap.objs.size:=fun b hb=>by
  obtain ⟨o,e,_⟩:=T.obj _ _ st2 b hb
  exact Heap.lt_size e
 have hbz:X.base.objs.size<=X.s₀.heap.objs.size:=I2.ok.bsz
 have hch:∀ b∈s2.heap.objs.size :: fp,(b∈X.ex∨X.s₀.heap.objs.size<=b)/\b≠X.env.locals/\(∀ y c,X.env.cells.lookup y=some c->c≠b)/\∀ p∈X.pn ++ pins,p.1≠b:=fun b hb=>by
  rcases List.mem_cons.mp hb with rfl | hb
  ·exact ⟨.inr I2.sz,hDL,hDc,hDp⟩
  ·obtain ⟨a1,a2,a3,a4,a5,a6⟩:=f2 b hb
   exact ⟨a4,a2,a5,a6⟩
 have hex:∀ b∈s2.heap.objs.size :: fp,b < g3.objs.size/\b∉frs X.stack/\(∀ y c,X.env.cells.lookup y=some c->c≠b)/\X.base.get? b=none:=fun b hb=>by
  have hst:b∉frs X.stack:=by
   rcases List.mem_cons.mp hb with rfl | hb
   ·exact hDst
   ·obtain ⟨a1,a2,a3,a4,a5,a6⟩:=f2 b hb
    exact fun z=>(List.mem_cons.mp (I2.stkSub _ z)).elim a2 a3
  have hlt:b < g3.objs.size:=by
   rw [hC]
   rcases List.mem_cons.mp hb with rfl | hb
   ·exact Nat.lt_succ_self _
   ·exact Nat.lt_succ_of_lt (hfl b hb)
  refine ⟨hlt,hst,(hch b hb).2.2.1,?_⟩
  cases q:X.base.get? b with
  | none=>rfl
  | some o =>
   rcases (hch b hb).1 with z | z
   ·exact absurd z (I2.ok.noex b o q)
   ·exact absurd (Nat.lt_of_lt_of_le (Heap.lt_size q) (Nat.le_trans hbz z)) (Nat.lt_irrefl _)
 have hD2:H2 s2.heap.objs.size=none:=I2.hok.fresh (Nat.le_refl _)
 have I4:Inv (iE X scope x (x :: ys) { s2 with heap:=g3 } H2 (s2.heap.objs.size :: fp) (X.pn ++ pins)) [(s2.heap.objs.size,dO [] 0)] (none :: aQ σ caps) H2 { s2 with heap:=h₁ } :=
  Inv.enterC (tk:=s2.toks) S hcalm I3 hns hcl keep hex fun p hp=>by
   have e:p=(s2.heap.objs.size,dO [] 0):=by simpa using hp
   subst e
   exact ⟨objD,hD2,hDst,fun v z=>nomatch z⟩
 have st4:tn 0 h₁:=T.keep _ _ _ st2 fun b hb o e=>keep b o (up3 b o e)
 generalize hY:iE X scope x (x :: ys) { s2 with heap:=g3 } H2 (s2.heap.objs.size :: fp) (X.pn ++ pins)=Y at I4
 have yP:Y.prog=X.prog:=by rw [← hY];rfl
 have yW:Y.w=X.w:=by rw [← hY];rfl
 have yK:Y.K=X.K:=by rw [← hY];rfl
 have yA:Y.A=X.A:=by rw [← hY];rfl
 have yC:Y.calm=true:=by rw [← hY];exact hcalm
 have yX:Y.xe=fun _ _=>False:=by rw [← hY];rfl
 have yN:Y.N=x :: ys:=by rw [← hY];rfl
 have yE:Y.env=compEnvC scope (Ko X scope x g3.objs.size) g3.objs.size X.env:=by rw [← hY];rfl
 have yex:Y.ex=s2.heap.objs.size :: fp:=by rw [← hY];rfl
 have ypn:Y.pn=X.pn ++ pins:=by rw [← hY];rfl
 have yfs:Y.fs=frs X.stack:=by rw [← hY];rfl
 have ybase:∀ {pl σ' H' s'},Inv Y pl σ' H' s'->Un (frs X.stack) (s2.heap.objs.size :: fp) H2 H' g3 s'.heap/\s'.os=s2.os:=by
  intro pl σ' H' s' I
  rw [← hY] at I
  exact ⟨I.base,I.os⟩
 have yhg:PG Y tg g:=by rw [← hY];exact hg _ _ _ _
 have yhe:PE Y elt te:=by rw [← hY];exact he _ _ _ _
 have ycl:∀ b,b < g3.objs.size->(∀ y c,X.env.cells.lookup y=some c->c≠b)->∀ y c,Y.env.cells.lookup y=some c->c≠b:=fun b hb hX y c e=>by
  rw [yE] at e
  rcases S.sub2 I2 e with ⟨_,e2⟩ | ⟨_,e2⟩
  ·rw [e2];exact Nat.ne_of_gt (Nat.lt_succ_of_lt hb)
  ·exact hX y c e2
 have yfp:∀ {H':Hp} {o:Obj},(∀ b∈fp,H' b=none)->∀ b∈fp,xP Y [(s2.heap.objs.size,o)] H' b:=fun {H' o} hn b hb=>by
  obtain ⟨a1,a2,a3,a4,a5,a6⟩:=f2 b hb
  refine ⟨hn b hb,?_,?_,?_,ycl b (hex b (List.mem_cons_of_mem _ hb)).1 a5,fun p hp=>?_⟩
  ·rw [yE];exact Nat.ne_of_lt (hex b (List.mem_cons_of_mem _ hb)).1
  ·rw [yfs];exact (hex b (List.mem_cons_of_mem _ hb)).2.1
  ·rw [yex];exact .inl (List.mem_cons_of_mem _ hb)
  ·rw [ypn] at hp
   rcases List.mem_append.mp hp with hp | hp
   ·exact a6 p hp
   ·have e:p=(s2.heap.objs.size,o):=by simpa using hp
    subst e
    exact Nat.ne_of_gt (hfl b hb)
 have loop:∀ s₃:Shared,s₃={ s2 with heap:=h₁ } ->
   codeAny (model X.prog X.w) X.A (.compLoop (.ListComp elt [⟨tg,iter,[],0⟩] scope pos) 0 (.ref it) (.ref s2.heap.objs.size) (compEnvC scope (Ko X scope x g3.objs.size) g3.objs.size X.env)) (RR (.ref s2.heap.objs.size) g3.objs.size) s₃:=by
  rintro s₃ rfl
  refine codeAny_loop rfl (fun k s'=>∃ i ysV its cnt H' os,os.length=1/\k=n0+1 - i/\Inv Y [(s2.heap.objs.size,dO its cnt)] (os ++ aQ σ caps) H' s'/\tn i s'.heap/\(∀ b∈fp,H' b=none)/\cK ysV its/\ysV.length=i/\i<=n0/\W i ysV H') ?_ (n0+1)
   ⟨0,[],[],0,H2,[none],rfl,rfl,I4,st4,fun b hb=>(f2 b hb).1,.nil,rfl,Nat.zero_le _,w0⟩
  rintro k s' ⟨i,ysV,its,cnt,H',os,hos,rfl,I',tni,frn,vv,hlen,hin,hw⟩
  show wpAny _ _ ((compTurn (.ListComp elt [⟨tg,iter,[],0⟩] scope pos) 0 (.ref it) (.ref s2.heap.objs.size) (compEnvC scope (Ko X scope x g3.objs.size) g3.objs.size X.env)).onRaise (fun ee=>do noteFrame ee (compEnvC scope (Ko X scope x g3.objs.size) g3.objs.size X.env);theTreesLotGoes ee)) _ _ s'
  refine wpAny_noted ?_
  rw [compTurn_list1]
  have fpok:=yfp (o:=dO its cnt) frn
  rcases turn i ysV H' hin hlen hw with ⟨stop,hfin⟩ | ⟨hlt,go,step⟩
  ·refine wpAny_bind (wpAny_standAt (wpAny_bind (thn (Q:=fun r s1=>r=none/\Inv Y [(s2.heap.objs.size,dO its cnt)] (os ++ aQ σ caps) H' s1) ?_ fun r s1 ⟨hr,I1⟩=>?_)))
   ·have:=T.done Y yP yW yK yC i _ s' _ H' (notedBy (model X.prog X.w) X.A (compEnvC scope (Ko X scope x g3.objs.size) g3.objs.size X.env) fun e s'=>RR (.ref s2.heap.objs.size) g3.objs.size (.error e) s') I' fpok tni stop
    rw [yA] at this
    exact this
   ·subst hr
    refine wpAny_pure ?_
    obtain ⟨ub,uo⟩:=ybase I1
    obtain ⟨m,hm,_⟩:=I1.loc
    obtain ⟨p1,p2,_⟩:=I1.pin (s2.heap.objs.size,dO its cnt) (List.mem_append_right _ List.mem_cons_self)
    have hok:HOk X.prog X.w H' s1.heap:=by have:=I1.hok;rw [yP,yW] at this;exact this
    have hCf:=I1.free
    rw [yE] at hm hCf
    refine hRR g3.objs.size ysV its cnt H' s1 m hC (I3.call' uo ub hok I1.bare hch) p2 hCf vv (by omega) p1 hm hfin
  ·refine wpAny_bind (wpAny_standAt (wpAny_bind (thn (Q:=fun r s1=>∃ u,r=some u/\wpAny (model X.prog X.w) X.A (letOwnedTupleGo tg (.ref it) u) (fun _ s5=>∃ x H5,Inv Y [(s2.heap.objs.size,dO its cnt)] (os ++ aQ σ caps) H5 s5/\cV x u/\J.yld i H' x H5/\tn (i+1) s5.heap/\∀ b∈fp,H5 b=none)
     (notedBy (model X.prog X.w) X.A (compEnvC scope (Ko X scope x g3.objs.size) g3.objs.size X.env) fun e s'=>RR (.ref s2.heap.objs.size) g3.objs.size (.error e) s') s1) ?_ fun r s1 ⟨u,hr,h4⟩=>?_)))
   ·have:=T.item Y yP yW yK yC i _ s' _ H' (notedBy (model X.prog X.w) X.A (compEnvC scope (Ko X scope x g3.objs.size) g3.objs.size X.env) fun e s'=>RR (.ref s2.heap.objs.size) g3.objs.size (.error e) s') I' fpok tni go
    rw [yA] at this
    exact this
   ·subst hr
    refine wpAny_bind (thn h4 fun _ s5 ⟨xv,H5,I5,r5,y5,st5,fr5⟩=>?_)
    have I5':=I5.pinned (yfp fr5) (T.obj _ _ st5)
    have sto:=yhg _ s5 _ H5 xv u _ I5' r5 (step xv H5 y5 os hos)
    rw [yP,yW,yA,yE] at sto
    refine wpAny_bind (nxE yX sto fun _ s6 ⟨σ6,H6,I6,⟨os',hos',e6⟩,t6⟩=>?_)
    subst e6
    have ev:=yhe _ s6 _ H6 _ I6 t6
    rw [yP,yW,yA,yE] at ev
    refine wpAny_bind (wpAny_bind (nxE yX ev fun yv s7 ⟨y,H7,I7,r7,w7⟩=>?_))
    obtain ⟨zD,hD7,hDl7,hDf7,_⟩:=I7.pin (s2.heap.objs.size,dO its cnt) (List.mem_append_right _ (List.mem_append_left _ List.mem_cons_self))
    have hil:=vv.length
    refine wpAny_bind (append_at zD (fun h8 sb8 d8=>wpAny_pure (wpAny_pure ⟨rfl,?_⟩)) (by rw [List.size_toArray];omega))
    have I7':Inv Y [] (os' ++ aQ σ caps) H7 s7:=I7.pins_of fun p hp=>nomatch hp
    have I8:Inv Y [] (os' ++ aQ σ caps) H7 { s7 with heap:=h8 }:=I7'.turned (t':=s7.toks) (fun b ob hb e=>(sb8.2 b hb).trans e) hD7 hDl7 (.inl (by rw [yex];exact List.mem_cons_self)) (ycl _ (by rw [hC];exact Nat.lt_succ_self _) hDc) (fun p hp=>by
     rw [ypn,List.append_nil] at hp
     exact hDp p hp)
    have I9:Inv Y [(s2.heap.objs.size,dO (its ++ [yv]) (cnt+1))] (os' ++ aQ σ caps) H7 { s7 with heap:=h8 }:=I8.pins_of fun p hp=>by
     have e:p=(s2.heap.objs.size,dO (its ++ [yv]) (cnt+1)):=by simpa using hp
     subst e
     refine ⟨?_,hD7,hDl7,hDf7,fun v z=>nomatch z⟩
     show h8.get? s2.heap.objs.size=some { cls:=.type "list",data:=.seq (its ++ [yv]).toArray (cnt+1) }
     rw [d8,List.push_toArray]
    refine ⟨n0+1 - (i+1),by omega,i+1,ysV ++ [y],its ++ [yv],cnt+1,H7,os',hos',rfl,I9,?_,?_,vv.append (.cons r7 .nil),by rw [List.length_append,hlen];rfl,hlt,w7⟩
    ·refine T.keep _ _ _ st5 fun b hb ob e=>(sb8.2 b (Nat.ne_of_lt (hfl b hb))).trans ?_
     exact (I7.pin (b,ob) (List.mem_append_right _ (List.mem_append_right _ (dH hb e)))).1
    ·intro b hb
     obtain ⟨ob,e,_⟩:=T.obj _ _ st5 b hb
     exact (I7.pin (b,ob) (List.mem_append_right _ (List.mem_append_right _ (dH hb e)))).2.1
 exact codeAny_compStart_list (loop _ rfl) (T.self _ 0 _ _ _ st4 (loop _ rfl))
theorem Vx {wi:TI} {RD:St->VK->It->Hp->Prop} (hRD:∀ σ Q J H1,RD σ Q J H1->kU J σ 1 caps g te H1 fun ys H2=>∀ p,H2 p=none->Q (.ref p) (upd H2 p (.lst ys))) {FS:Scope} {N:List Str} (S0:jA FS scope N x ys caps) (hFS:X.env.scope=FS) (hN0:X.N=N) (hcalm:X.calm=true) (hi:PI X tg iter wi) (hg:∀ s H ex pn,PG (iE X scope x (x :: ys) s H ex pn) tg g) (he:∀ s H ex pn,PE (iE X scope x (x :: ys) s H ex pn) elt te)
  (hs:∀ v,foldedSetIterable iter X.env v=pure v:=by intro _;rfl):PE X (.ListComp elt [⟨tg,iter,[],0⟩] scope pos) (fun σ H Q=>wi σ H (RD σ Q)):=by
 have S:jA X.env.scope scope X.N x ys caps:=by rw [hFS,hN0];exact S0
 intro pins s σ H Q I h
 rw [eval_ListComp]
 refine wpAny_comprehension_free (use:=none) rfl hs (iB (S.cells I)) S.kind S.names (thn (hi pins s σ H _ I h) fun v s1 h1=>thn h1 fun itv s2 h2=>?_)
 obtain ⟨it,fp,tn,J,H2,rfl,I2,T,st2,f2,rd⟩:=h2
 refine Ww (RR:=fun acc C=>compPost (model X.prog X.w) X.A X.xe none (EP X pins σ Q) acc C) hcalm S hg he I2 T st2 f2 (hRD _ _ _ _ rd) ?_
 intro C ysV its n H8 s8 m hC I8 hD hC8 vv hz oD hn fin
 refine ⟨m,hn,fun h' sb=>?_⟩
 have sz:=I2.sz
 have lt:=I2.lt
 have ap:∀ b:Addr,b < s2.heap.objs.size->b≠C/\C≠b:=fun b hb=>by
  subst hC
  exact ⟨Nat.ne_of_lt (Nat.lt_succ_of_lt hb),Nat.ne_of_gt (Nat.lt_succ_of_lt hb)⟩
 have szC:X.s₀.heap.objs.size<=C:=by subst hC;exact Nat.le_succ_of_le sz
 have DC:s2.heap.objs.size≠C:=by subst hC;exact Nat.ne_of_lt (Nat.lt_succ_self _)
 have cl:∀ y c,X.env.cells.lookup y=some c->c < s2.heap.objs.size:=fun y c e=>by
  obtain ⟨w',z⟩:=I2.cell y c e
  exact z.lt
 have pl:∀ p∈X.pn ++ pins,p.1 < s2.heap.objs.size:=fun p hp=>Heap.lt_size (I2.pin p hp).1
 have I9:Inv X pins σ H8 { s8 with heap:=h' }:=I8.turned (t':=s8.toks) (fun b o hb e=>(sb.2 b hb).trans e) hC8 (ap _ lt).2 (.inr szC) (fun y c e=>(ap c (cl y c e)).1) (fun p hp=>(ap p.1 (pl p hp)).1)
 have oD':h'.get? s2.heap.objs.size=some (dO its n):=(sb.2 _ DC).trans oD
 exact ⟨.ref s2.heap.objs.size,upd H8 s2.heap.objs.size (.lst ysV),I9.adopt hD sz (Nat.ne_of_gt lt) (fun y c e=>Nat.ne_of_lt (cl y c e)) (fun p hp=>Nat.ne_of_lt (pl p hp)) ⟨hz,its,n,vv,oD'⟩,rfl,fin _ hD⟩
theorem Zl {X:Cx} {scope:Scope} {x:Str} {NY:List Str} {s:Shared} {H:Hp} {ex:List Addr} {pn:List (Addr×Obj)} {px:Pos} (hN:(x :: NY).Nodup) (hx:scope.names.lookup x=some .cell):PG (iE X scope x (x :: NY) s H ex pn) (.Name x px) (aK 0) :=
 cW (X:=iE X scope x (x :: NY) s H ex pn) hN rfl (.inr (jN hx)) (.inl (show (x == x)=true by simp))
end
section
variable {X:Cx} {scope:Scope} {x:Str} {ys:List Str} {caps:List Nat} {elt iter:Expr} {te:TE} {px pos:Pos}
theorem Zo {wi:TI} {FS:Scope} {N:List Str} (S0:jA FS scope N x ys caps) (hFS:X.env.scope=FS) (hN0:X.N=N) (hcalm:X.calm=true) (hi:PI X (.Name x px) iter wi) (he:jA X.env.scope scope X.N x ys caps->∀ s H ex pn,PE (iE X scope x (x :: ys) s H ex pn) elt te)
  (hs:∀ v,foldedSetIterable iter X.env v=pure v:=by intro _;rfl):PE X (.ListComp elt [⟨.Name x px,iter,[],0⟩] scope pos) (bO wi caps te) :=
 Vx (g:=aK 0) (fun _ _ _ _ h=>qC.toG h) S0 hFS hN0 hcalm hi (fun _ _ _ _=>Zl S0.nd S0.xc) (he (by rw [hFS,hN0];exact S0)) hs
end
structure Ys (scope scI:Scope) (own:Bool) (x:Str) (NY:List Str) (z:Str) (zs:List Str) (caps:List Nat):Prop where
 ncell:∀ y∈scI.names,y.2≠.cell
 kind:scI.kind=.function
 names:∀ y∈scI.names,y.2=.local->scI.names.lookup y.1=some .local
 loc:scI.names.lookup z=some .local
 fr:∀ p∈scI.names,p.2=.free->(own=true/\p.1=x)∨scope.names.lookup p.1=some .free
 cap:∀ p∈zs.zip caps,NY[p.2]?=some p.1/\scI.names.lookup p.1=some .free
 len:zs.length=caps.length
 nd:(z :: zs).Nodup
section
variable {X:Cx} {scope scI:Scope} {x z:Str} {ys zs:List Str} {caps capsI:List Nat} {elt iter:Expr} {te:TE} {pz pos:Pos} {wi:TI} {s:Shared} {H:Hp} {ex:List Addr} {pn:List (Addr×Obj)}
theorem Sg (S:jA X.env.scope scope X.N x ys caps) (C:Ys scope scI true x (x :: ys) z zs capsI) (hcalm:X.calm=true) (hi:PI (iE X scope x (x :: ys) s H ex pn) (.Name z pz) iter wi)
  (he:∀ s' H' ex' pn',PE (cL (iE X scope x (x :: ys) s H ex pn) scI (z :: zs) s' H' ex' pn') elt te)
  (hs:∀ v,foldedSetIterable iter (iE X scope x (x :: ys) s H ex pn).env v=pure v:=by intro _;rfl):PE (iE X scope x (x :: ys) s H ex pn) (.ListComp elt [⟨.Name z pz,iter,[],0⟩] scI pos) (bO wi capsI te):=by
 refine cM (FS:=relabel scope X.env) (N:=x :: ys) ⟨C.ncell,C.kind,C.names,C.loc,fun p hp hf=>?_,S.kind,C.cap,C.len,C.nd⟩ rfl rfl hcalm hi he hs
 rcases C.fr p hp hf with ⟨_,e⟩ | e
 ·rw [e];exact jN S.xc
 ·exact jF S.fk e (S.fr (p.1,.free) (PySem.mem_of_lookup e) rfl)
theorem Jt (S:iM X.env.scope scope X.N x ys caps) (C:Ys scope scI false x (x :: ys) z zs capsI) (hcalm:X.calm=true) (hi:PI (cL X scope (x :: ys) s H ex pn) (.Name z pz) iter wi)
  (he:∀ s' H' ex' pn',PE (cL (cL X scope (x :: ys) s H ex pn) scI (z :: zs) s' H' ex' pn') elt te)
  (hs:∀ v,foldedSetIterable iter (cL X scope (x :: ys) s H ex pn).env v=pure v:=by intro _;rfl):PE (cL X scope (x :: ys) s H ex pn) (.ListComp elt [⟨.Name z pz,iter,[],0⟩] scI pos) (bO wi capsI te):=by
 refine cM (FS:=relabel scope X.env) (N:=x :: ys) ⟨C.ncell,C.kind,C.names,C.loc,fun p hp hf=>?_,S.kind,C.cap,C.len,C.nd⟩ rfl rfl hcalm hi he hs
 rcases C.fr p hp hf with ⟨e,_⟩ | e
 ·cases e
 ·exact jF S.fk e (S.fr (p.1,.free) (PySem.mem_of_lookup e) rfl)
end
end L2
namespace L2
open PySem PySem.Spec PySem.Calls PyProof.Rows PySem.W PySem.W.X in
theorem walk_x {q:Program} {loose:List Str} {XP:(Str->Option Value)->Heap->Prop} {K:Params->PySem.W.Frag} {as:List Addr} {n t:Nat} {r:PySem.W.RowW} {d:DefRec} {kwd:List (Str×Expr)} {run:Value->List Value->Sem Value}
  (e:∀ P,as=(K P).map (·.1)) (W:PySem.W.WalkO q loose XP (fun w h=>(K w.params).In h) r d kwd run):WalkX q loose XP (obsZ as) (valZ K n t) r d kwd run :=
 fun w s₀ s₁ mg mb G y a o pm cd doc dV kV h1 h2 h3 h4 h5 h6 args vals as' L h7 h8 h9 h10 h11 =>
  W w s₀ s₁ mg mb G (InK.keeps w _ _ (z_facts e y).2.1 L.keeps) a o pm cd doc dV kV h1 h2 h3 h4 h5 h6 args vals as' h7 h8 h9 h10 h11
end L2
set_option Elab.async false
set_option maxRecDepth 100000
set_option maxHeartbeats 4000000
set_option linter.all false
namespace My
open PySem L2
open List (length_map map_append getElem?_eq_getElem mem_of_getElem? getD_eq_getElem?_getD getElem_mem getElem?_map mem_append mem_singleton getElem?_eq_none mem_cons_of_mem mem_map length_append mem_cons_self take_length getElem?_of_mem length_take getElem?_set length_set map_congr_left mem_or_eq_of_mem_set mem_of_mem_take getElem?_append_left getElem?_append_right map_eq_nil_iff map_take take_of_length_le)
theorem sz0:0<=sizeLine:=by decide
theorem sz1:1<=sizeLine:=by decide
theorem sz2:2<=sizeLine:=by decide
theorem sz3:3<=sizeLine:=by decide
theorem Lq0 {α:Type} {a:α} {l:List α}:(a::l)[0]?=some a:=rfl
theorem Lq1 {α:Type} {a:α} {l:List α} {i:Nat}:(a::l)[i+1]?=l[i]?:=rfl
theorem Ls0 {α:Type} {a b:α} {l:List α}:(a::l).set 0 b=b::l:=rfl
theorem Ls1 {α:Type} {a b:α} {l:List α} {i:Nat}:(a::l).set (i+1) b=a::l.set i b:=rfl
theorem Lca {α:Type} {a:α} {l k:List α}:a::l++k=a::(l++k):=rfl
theorem Lna {α:Type} {k:List α}:[]++k=k:=rfl
local macro_rules | `(tactic| dsimp! [$xs,*]) => `(tactic| (try dsimp only [$xs,*, Lq0, Lq1, Ls0, Ls1, cQ, cR, cP]; try simp only [$xs,*, Lq0, Lq1, Ls0, Ls1, Option.some.injEq, exists_eq_left', V.int.injEq, V.ref.injEq, V.bl.injEq, List.cons.injEq, and_true, true_and, exists_and_left, exists_eq_left, and_assoc, cQ, cR, cP, dQ, gQ, eN]))
local macro_rules | `(tactic| dsimp? [$xs,*]) => `(tactic| (try dsimp only [$xs,*, aU, bH, aK, aB, tC, tOp, tUn, rI0, rI, rU, gP, kH, cH, gL, Cv, eY, tY, eX, iJ, Xe, xN, Ve, rEq, rNe, fH, bK, dG, bR, tB, tU, cE, aT, aC, aN, iX, pM, tCB, Bd, gO, Hz, tSl, oP, gR, rS, dU, cN, tL, Xa, Fb, tOr, zA, Nv, lN, kP, cT, kQ, Lq0, Lq1, Ls0, Ls1, Lca, Lna, cQ, cR, cP]; try simp only [$xs,*, aU, bH, aK, aB, tC, tOp, tUn, rI0, rI, rU, gP, kH, cH, gL, Cv, eY, tY, eX, iJ, Xe, xN, Ve, rEq, rNe, fH, bK, dG, bR, tB, tU, cE, aT, aC, aN, iX, pM, tCB, Bd, gO, Hz, tSl, oP, gR, rS, dU, cN, tL, Xa, Fb, tOr, zA, Nv, lN, kP, cT, kQ, Lq0, Lq1, Ls0, Ls1, Option.some.injEq, exists_eq_left', exists_eq_left, V.int.injEq, V.ref.injEq, V.bl.injEq, V.ty.injEq, List.cons.injEq, and_true, true_and, List.append_nil, exists_and_left, decide_eq_true_eq, Lca, Lna, and_assoc, cQ, cR, cP, dQ, gQ, eN]))
local macro_rules | `(tactic| simp_arith [$xs,*]) => `(tactic| simp only [$xs,*, aU, bH, aK, aB, tC, tOp, tUn, rI0, rI, rU, gP, kH, cH, gL, Cv, eY, tY, eX, iJ, Xe, xN, Ve, rEq, rNe, fH, bK, dG, bR, tB, tU, cE, aT, aC, aN, iX, pM, tCB, Bd, gO, Hz, tSl, oP, gR, rS, dU, cN, tL, Xa, Fb, tOr, zA, Nv, lN, kP, cT, kQ, Lq0, Lq1, Ls0, Ls1, Option.some.injEq, exists_eq_left', exists_eq_left, V.int.injEq, V.ref.injEq, V.bl.injEq, V.ty.injEq, List.cons.injEq, and_true, true_and, List.append_nil, exists_and_left, decide_eq_true_eq, Lca, Lna, and_assoc, cQ, cR, cP, dQ, gQ, eN])
theorem Rc (i:Int):(if i<0 then -i else i)=(i.natAbs:Int):=by split <;> omega
theorem zO {ns:List Int} {k:Int} (h0:0<=k) (h:k<(ns.length:Int)):atI (List.map V.int ns) k=some (.int (ns.getD k.toNat 0)):=by
 have hk:k.toNat<ns.length:=by omega
 have e:=fI (xs:=List.map V.int ns) (j:=k.toNat) (v:=V.int (ns.getD k.toNat 0)) (by
  rw [getElem?_map,getElem?_eq_getElem hk,getD_eq_getElem?_getD,getElem?_eq_getElem hk];rfl)
 rwa [Int.toNat_of_nonneg h0] at e
theorem mod4 (c:Int):c % 4=0∨c % 4=1∨c % 4=2∨c % 4=3:=by omega
theorem kR {α:Type} {a:α} {l:List α}:atI (a::l) 0=some a:=fI (j:=0) rfl
theorem iI {α:Type} {a b:α} {l:List α}:atI (a::b::l) 1=some b:=fI (j:=1) rfl
theorem atI2 {α:Type} {a b c:α} {l:List α}:atI (a::b::c::l) 2=some c:=fI (j:=2) rfl
theorem atI3 {α:Type} {a b c d:α} {l:List α}:atI (a::b::c::d::l) 3=some d:=fI (j:=3) rfl
structure Lo (t b x y:Int):Prop where
 pos:0<y
 cop:Int.gcd x y=1
 eq:x*b=t*y
 bx:x.natAbs<=t.natAbs
 by_:y.natAbs<=b.natAbs
theorem lo_of {t b g q r:Int} (hb:b≠0) (hg:g≠0) (ht:t=g*q) (hbr:b=g*r) (hr:0<r) (hc:Int.gcd q r=1):Lo t b (t.fdiv g) (b.fdiv g):=by
 have e1:t.fdiv g=q:=by rw [ht,Int.mul_fdiv_cancel_left _ hg]
 have e2:b.fdiv g=r:=by rw [hbr,Int.mul_fdiv_cancel_left _ hg]
 rw [e1,e2]
 have hg1:1<=g.natAbs:=by omega
 refine ⟨hr,hc,by rw [ht,hbr];rw [Int.mul_left_comm,Int.mul_assoc],?_,?_⟩
 ·rw [ht,Int.natAbs_mul];exact Nat.le_mul_of_pos_left _ hg1
 ·rw [hbr,Int.natAbs_mul];exact Nat.le_mul_of_pos_left _ hg1
theorem Cg {t b:Int} (hb:b≠0):∃ q r:Int,t=(Int.gcd t b:Nat)*q/\b=(Int.gcd t b:Nat)*r/\Int.gcd q r=1/\0<Int.gcd t b:=by
 have hp:0<Int.gcd t b:=Int.gcd_pos_of_ne_zero_right _ hb
 obtain ⟨q,hq⟩:=Int.gcd_dvd_left (a:=t) (b:=b)
 obtain ⟨r,hr⟩:=Int.gcd_dvd_right (a:=t) (b:=b)
 refine ⟨q,r,hq,hr,?_,hp⟩
 have e:Int.gcd t b=Int.gcd ((Int.gcd t b:Nat)*q) ((Int.gcd t b:Nat)*r):=by rw [← hq,← hr]
 rw [Int.gcd_mul_left,Int.natAbs_natCast] at e
 exact Nat.eq_of_mul_eq_mul_left hp (by rw [Nat.mul_one];exact e.symm)
theorem Qy {t b:Int} (hb:0<b):Lo t b (t.fdiv (Int.gcd t b:Nat)) (b.fdiv (Int.gcd t b:Nat)):=by
 obtain ⟨q,r,h1,h2,h3,h4⟩:=Cg (t:=t) (b:=b) (by omega)
 refine lo_of (q:=q) (r:=r) (by omega) (by omega) h1 h2 ?_ h3
 rcases Int.lt_trichotomy r 0 with h | h | h
 ·have:(Int.gcd t b:Int)*r<0:=Int.mul_neg_of_pos_of_neg (by omega) h
  omega
 ·rw [h,Int.mul_zero] at h2;omega
 ·exact h
theorem lo_neg {t b:Int} (hb:b<0):Lo t b (t.fdiv (-(Int.gcd t b:Nat))) (b.fdiv (-(Int.gcd t b:Nat))):=by
 obtain ⟨q,r,h1,h2,h3,h4⟩:=Cg (t:=t) (b:=b) (by omega)
 refine lo_of (q:=-q) (r:=-r) (by omega) (by omega) (by rw [Int.neg_mul_neg];exact h1) (by rw [Int.neg_mul_neg];exact h2) ?_ (by rw [Int.gcd,Int.natAbs_neg,Int.natAbs_neg];exact h3)
 rcases Int.lt_trichotomy r 0 with h | h | h
 ·omega
 ·rw [h,Int.mul_zero] at h2;omega
 ·have:(Int.gcd t b:Int)*r > 0:=Int.mul_pos (by omega) h
  omega
noncomputable def intO:Option V->Int
 | some (.int i)=>i
 | _=>0
noncomputable def bI (K:W.Frag) (H:Hp):List Addr->List (Int×Int)->Prop
 | [],[]=>True
 | p::ps,f::fs=>SqT K H p [.int f.1,.int f.2]/\bI K H ps fs
 | _,_=>False
theorem bI.same {K:W.Frag} {H H':Hp} (s:aI H H'):∀ {ps:List Addr} {fs:List (Int×Int)},bI K H ps fs->bI K H' ps fs
 | [],[],_=>trivial
 | _::_,_::_,h=>⟨s.tup h.1,h.2.same s⟩
 | [],_::_,h=>h.elim
 | _::_,[],h=>h.elim
theorem bI.length {K:W.Frag} {H:Hp}:∀ {ps:List Addr} {fs:List (Int×Int)},bI K H ps fs->ps.length=fs.length
 | [],[],_=>rfl
 | _::_,_::_,h=>by rw [List.length_cons,List.length_cons,h.2.length]
 | [],_::_,h=>h.elim
 | _::_,[],h=>h.elim
theorem bI.get {K:W.Frag} {H:Hp}:∀ {ps:List Addr} {fs:List (Int×Int)} {i:Nat} {p:Addr},bI K H ps fs->ps[i]?=some p->∃ f,fs[i]?=some f/\SqT K H p [.int f.1,.int f.2]
 | [],[],_,_,_,e=>by simp at e
 | _::_,f::_,0,_,h,e=>by simp at e;subst e;exact ⟨f,rfl,h.1⟩
 | _::_,_::_,i+1,_,h,e=>by
  obtain ⟨f,e1,e2⟩:=h.2.get (i:=i) (by simpa using e)
  exact ⟨f,by simpa using e1,e2⟩
 | [],_::_,_,_,h,_=>h.elim
 | _::_,[],_,_,h,_=>h.elim
theorem bI.set {K:W.Frag} {H:Hp} {q:Addr} {g:Int×Int} (hq:SqT K H q [.int g.1,.int g.2]):∀ {ps:List Addr} {fs:List (Int×Int)} (i:Nat),bI K H ps fs->bI K H (ps.set i q) (fs.set i g)
 | [],[],_,_=>trivial
 | _::_,_::_,0,h=>⟨hq,h.2⟩
 | _::_,_::_,i+1,h=>⟨h.1,bI.set hq i h.2⟩
 | [],_::_,_,h=>h.elim
 | _::_,[],_,h=>h.elim
theorem bI.append {K:W.Frag} {H:Hp} {qs:List Addr} {gs:List (Int×Int)} (hq:bI K H qs gs):∀ {ps:List Addr} {fs:List (Int×Int)},bI K H ps fs->bI K H (ps++qs) (fs++gs)
 | [],[],_=>hq
 | _::_,_::_,h=>⟨h.1,bI.append hq h.2⟩
 | [],_::_,h=>h.elim
 | _::_,[],h=>h.elim
theorem bI.take {K:W.Frag} {H:Hp}:∀ {ps:List Addr} {fs:List (Int×Int)} (i:Nat),bI K H ps fs->bI K H (ps.take i) (fs.take i)
 | [],[],i,_=>by simp [bI]
 | _::_,_::_,0,_=>trivial
 | _::_,_::_,i+1,h=>⟨h.1,h.2.take i⟩
 | [],_::_,_,h=>h.elim
 | _::_,[],_,h=>h.elim
theorem bI.drop {K:W.Frag} {H:Hp}:∀ {ps:List Addr} {fs:List (Int×Int)} (i:Nat),bI K H ps fs->bI K H (ps.drop i) (fs.drop i)
 | [],[],i,_=>by simp [bI]
 | _::_,_::_,0,h=>h
 | _::_,_::_,i+1,h=>h.2.drop i
 | [],_::_,_,h=>h.elim
 | _::_,[],_,h=>h.elim
theorem bI.off {K:W.Frag} {H:Hp} {r:Addr} {ys zs:List V} (hr:H r=some (.lst ys)):∀ {ps:List Addr} {fs:List (Int×Int)},bI K H ps fs->bI K (upd H r (.lst zs)) ps fs
 | [],[],_=>trivial
 | _::_,_::_,h=>⟨h.1.off hr,h.2.off hr⟩
 | [],_::_,h=>h.elim
 | _::_,[],h=>h.elim
theorem bV {ps:List Addr} {i:Nat} {x:V} (h:(List.map V.ref ps)[i]?=some x):∃ p,x=.ref p/\ps[i]?=some p:=by
 rw [getElem?_map] at h
 cases e:ps[i]? with
 | none=>rw [e] at h;cases h
 | some z=>rw [e] at h;exact ⟨z,(Option.some.inj h).symm,rfl⟩
theorem cU {ns:List Int} {i:Nat} {x:V} (h:(List.map V.int ns)[i]?=some x):∃ c,x=.int c/\ns[i]?=some c:=by
 rw [getElem?_map] at h
 cases e:ns[i]? with
 | none=>rw [e] at h;cases h
 | some z=>rw [e] at h;exact ⟨z,(Option.some.inj h).symm,rfl⟩
theorem dN {α:Type} {l:List α} {i:Nat} {x:α} (h:l[i]?=some x):l.take (i+1)=l.take i++[x]:=by
 rw [List.take_succ,h];rfl
noncomputable def WEq (H:Hp) (P:Nat->List V->Prop):Nat->List V->Hp->Prop:=λ i zs H5=>H5=H/\P i zs
noncomputable def SEq (H:Hp) (P:Nat->St->Prop):Nat->St->Hp->Prop:=λ i σ H5=>H5=H/\P i σ
noncomputable def glf (g n:Int):Int:=((Int.gcd g n:Nat):Int)
noncomputable def gl (ns:List Int):Int:=ns.foldl glf 0
theorem gl_snoc {ns:List Int} {i:Nat} {c:Int} (h:ns[i]?=some c):gl (ns.take (i+1))=glf (gl (ns.take i)) c:=by
 unfold gl;rw [dN h,List.foldl_append];rfl
theorem Uo:∀ l:List Int,l.foldl glf 1=1
 | []=>rfl
 | a::r=>by
  have e:glf 1 a=1:=by unfold glf;rw [Int.gcd];simp
  rw [List.foldl_cons,e];exact Uo r
theorem gl_one {ns:List Int} {i:Nat} (h:gl (ns.take i)=1):gl ns=1:=by
 unfold gl at h ⊢
 rw [← List.take_append_drop i ns,List.foldl_append,h]
 exact Uo _
theorem Hf:∀ (l:List Int) (g:Int),0<=g->0<=l.foldl glf g
 | [],_,h=>h
 | a::r,g,_=>by rw [List.foldl_cons];exact Hf r _ (by unfold glf;omega)
theorem Jz (ns:List Int):0<=gl ns:=Hf ns 0 (by decide)
theorem Up:∀ (l:List Int) (g:Int),l.foldl glf g∣g/\∀ n∈l,l.foldl glf g∣n
 | [],g=>⟨Int.dvd_refl _,λ _ h=>nomatch h⟩
 | a::r,g=>by
  rw [List.foldl_cons]
  obtain ⟨h1,h2⟩:=Up r (glf g a)
  have d1:glf g a∣g:=Int.gcd_dvd_left (a:=g) (b:=a)
  have d2:glf g a∣a:=Int.gcd_dvd_right (a:=g) (b:=a)
  refine ⟨Int.dvd_trans h1 d1,λ n hn=>?_⟩
  rcases List.mem_cons.mp hn with rfl | hn
  ·exact Int.dvd_trans h1 d2
  ·exact h2 n hn
theorem Yj {ns:List Int} {n:Int} (h:n∈ns):gl ns∣n:=(Up ns 0).2 n h
theorem Pe:∀ (l:List Int),(∀ n∈l,n=0)->l.foldl glf 0=0
 | [],_=>rfl
 | a::r,h=>by
  rw [List.foldl_cons,h a mem_cons_self]
  exact Pe r λ n hn=>h n (mem_cons_of_mem _ hn)
theorem Tn {m:Nat} {ns:List Int} (h:∀ n∈ns,BB m n):BB m (gl ns):=by
 by_cases hz:∃ n∈ns,n≠0
 ·obtain ⟨n,hn,n0⟩:=hz
  refine (h n hn).of_le (Nat.le_of_dvd (by omega) (Int.natAbs_dvd_natAbs.mpr (Yj hn)))
 ·have:gl ns=0:=Pe ns λ n hn=>Classical.byContradiction λ c=>hz ⟨n,hn,c⟩
  rw [this]
  unfold BB
  exact Nat.two_pow_pos _
noncomputable def rV (ns:List Int):List Int:=if gl ns<2 then ns else ns.map λ n=>n.fdiv (gl ns)
theorem xH (ns:List Int):(rV ns).length=ns.length:=by
 unfold rV;split
 ·rfl
 ·rw [length_map]
theorem Gz {ns:List Int} {i:Nat} {n:Int} (h:ns[i]?=some n):∃ t,(rV ns)[i]?=some t/\t*(if 1 > gl ns then 1 else gl ns)=n:=by
 have g0:=Jz ns
 have hm:n∈ns:=mem_of_getElem? h
 unfold rV
 by_cases h2:gl ns<2
 ·rw [if_pos h2]
  refine ⟨n,h,?_⟩
  have:(if 1 > gl ns then (1:Int) else gl ns)=1:=by split <;> omega
  rw [this,Int.mul_one]
 ·rw [if_neg h2,if_neg (by omega)]
  refine ⟨n.fdiv (gl ns),by rw [getElem?_map,h];rfl,?_⟩
  obtain ⟨z,hz⟩:=Yj hm
  have e:n.fdiv (gl ns)=z:=by
   conv=>lhs;rw [hz]
   exact Int.mul_fdiv_cancel_left _ (by omega)
  rw [e,Int.mul_comm];exact hz.symm
theorem Js {m:Nat} {ns:List Int} (h:∀ n∈ns,BB m n):∀ n∈rV ns,BB m n:=by
 intro t ht
 obtain ⟨i,hi⟩:=getElem?_of_mem ht
 have hlt:i<ns.length:=by rw [← xH];exact (List.getElem?_eq_some_iff.mp hi).1
 obtain ⟨t',e1,e2⟩:=Gz (getElem?_eq_getElem hlt)
 rw [hi] at e1
 obtain rfl:t=t':=Option.some.inj e1
 refine (h _ (getElem_mem hlt)).of_le ?_
 rw [← e2,Int.natAbs_mul]
 have g0:=Jz ns
 refine Nat.le_mul_of_pos_right _ ?_
 split <;> omega
theorem Es {n:Nat} {k:Int} (h0:0<=k) (h:k<n):ixN n k=some k.toNat:=by
 unfold ixN
 rw [if_pos h0,if_pos h]
noncomputable def lcf (n:Int) (f:Int×Int):Int:=n*(f.2.fdiv ((Int.gcd n f.2:Nat):Int))
noncomputable def lc (fs:List (Int×Int)):Int:=fs.foldl lcf 1
noncomputable def clr (fs:List (Int×Int)):List Int:=fs.map λ f=>f.1*((lc fs).fdiv f.2)
theorem Ui {fs:List (Int×Int)} {i:Nat} {f:Int×Int} (h:fs[i]?=some f):lc (fs.take (i+1))=lcf (lc (fs.take i)) f:=by
 unfold lc;rw [dN h,List.foldl_append];rfl
theorem Fj {n:Int} {f:Int×Int} (hn:0<n) (hb:0<f.2):0<lcf n f/\n∣lcf n f/\f.2∣lcf n f/\(∀ M,n∣M->f.2∣M->lcf n f∣M)/\(f.2.fdiv ((Int.gcd n f.2:Nat):Int)).natAbs<=f.2.natAbs:=by
 obtain ⟨q,r,h1,h2,h3,h4⟩:=Cg (t:=n) (b:=f.2) (by omega)
 have e:f.2.fdiv ((Int.gcd n f.2:Nat):Int)=r:=by
  conv=>lhs;lhs;rw [h2]
  exact Int.mul_fdiv_cancel_left _ (by omega)
 unfold lcf
 rw [e]
 generalize Int.gcd n f.2=g at h1 h2 h4
 have r0:0<r:=by
  rcases Int.lt_trichotomy r 0 with h | h | h
  ·have:(g:Int)*r<0:=Int.mul_neg_of_pos_of_neg (by omega) h
   omega
  ·rw [h,Int.mul_zero] at h2;omega
  ·exact h
 refine ⟨Int.mul_pos hn r0,⟨r,rfl⟩,⟨q,?_⟩,λ M d1 d2=>?_,?_⟩
 ·rw [h1,h2];ac_rfl
 ·obtain ⟨x,hx⟩:=d1
  obtain ⟨y,hy⟩:=d2
  have e2:q*x=r*y:=by
   apply Int.eq_of_mul_eq_mul_left (show (g:Int)≠0 by omega)
   rw [← Int.mul_assoc,← Int.mul_assoc,← h1,← h2,← hx,← hy]
  have d3:r∣x:=Int.natAbs_dvd_natAbs.mp (Nat.Coprime.dvd_of_dvd_mul_left (m:=q.natAbs) (Nat.Coprime.symm h3) (by rw [← Int.natAbs_mul];exact Int.natAbs_dvd_natAbs.mpr ⟨y,e2⟩))
  obtain ⟨z,hz⟩:=d3
  exact ⟨z,by rw [hx,hz,Int.mul_assoc]⟩
 ·rw [h2,Int.natAbs_mul];exact Nat.le_mul_of_pos_left _ (by omega)
theorem uI:∀ (fs:List (Int×Int)) (n:Int),0<n->(∀ f∈fs,0<f.2)->0<fs.foldl lcf n/\n∣fs.foldl lcf n/\(∀ f∈fs,f.2∣fs.foldl lcf n)/\∀ M,n∣M->(∀ f∈fs,f.2∣M)->fs.foldl lcf n∣M
 | [],n,hn,_=>⟨hn,Int.dvd_refl _,(λ _ h=>nomatch h),λ _ h _=>h⟩
 | a::r,n,hn,h=>by
  rw [List.foldl_cons]
  obtain ⟨a1,a2,a3,a4,_⟩:=Fj hn (h a mem_cons_self)
  obtain ⟨b1,b2,b3,b4⟩:=uI r (lcf n a) a1 λ f hf=>h f (mem_cons_of_mem _ hf)
  refine ⟨b1,Int.dvd_trans a2 b2,λ f hf=>?_,λ M d1 d2=>b4 M (a4 M d1 (d2 a mem_cons_self)) λ f hf=>d2 f (mem_cons_of_mem _ hf)⟩
  rcases List.mem_cons.mp hf with rfl | hf
  ·exact Int.dvd_trans a3 b2
  ·exact b3 f hf
theorem Fk {fs:List (Int×Int)} (h:∀ f∈fs,0<f.2):0<lc fs:=(uI fs 1 (by decide) h).1
theorem Rb {fs:List (Int×Int)} (h:∀ f∈fs,0<f.2) {f:Int×Int} (hf:f∈fs):f.1*((lc fs).fdiv f.2)*f.2=f.1*lc fs:=by
 obtain ⟨k,hk⟩:=(uI fs 1 (by decide) h).2.2.1 f hf
 have hk:lc fs=f.2*k:=hk
 have e:(lc fs).fdiv f.2=k:=by rw [hk];exact Int.mul_fdiv_cancel_left _ (by have:=h f hf;omega)
 rw [e,hk];ac_rfl
theorem Uy {fs:List (Int×Int)} {i:Nat} {f:Int×Int} (h:fs[i]?=some f):(clr fs)[i]?=some (f.1*((lc fs).fdiv f.2)):=by
 unfold clr;rw [getElem?_map,h];rfl
theorem Yf:∀ (fs:List (Int×Int)) (n:Int) (m:Nat),0<n->BB m n->(∀ f∈fs,0<f.2)->(∀ f∈fs,BB 40 f.2)->BB (m+40*fs.length) (fs.foldl lcf n)
 | [],_,_,_,h,_,_=>h
 | a::r,n,m,hn,h,h1,h2=>by
  rw [List.foldl_cons]
  obtain ⟨o1,_,_,_,o5⟩:=Fj hn (h1 a mem_cons_self)
  have b:BB (m+40) (lcf n a):=h.mul ((h2 a mem_cons_self).of_le o5)
  have:=Yf r (lcf n a) (m+40) o1 b (λ f hf=>h1 f (mem_cons_of_mem _ hf)) λ f hf=>h2 f (mem_cons_of_mem _ hf)
  rw [List.length_cons]
  exact this.mono (by omega)
theorem lc_bb {fs:List (Int×Int)} (h1:∀ f∈fs,0<f.2) (h2:∀ f∈fs,BB 40 f.2):BB (1+40*fs.length) (lc fs):=Yf fs 1 1 (by decide) (by unfold BB;decide) h1 h2
noncomputable def bJ (H:Hp):List Addr->List (List Int)->Prop
 | [],[]=>True
 | p::ps,r::rs=>H p=some (.lst (List.map V.int r))/\bJ H ps rs
 | _,_=>False
theorem bJ.same {H H':Hp} (s:aI H H'):∀ {ps:List Addr} {rs:List (List Int)},bJ H ps rs->bJ H' ps rs
 | [],[],_=>trivial
 | _::_,_::_,h=>⟨s _ _ h.1,h.2.same s⟩
 | [],_::_,h=>h.elim
 | _::_,[],h=>h.elim
theorem bJ.length {H:Hp}:∀ {ps:List Addr} {rs:List (List Int)},bJ H ps rs->ps.length=rs.length
 | [],[],_=>rfl
 | _::_,_::_,h=>by rw [List.length_cons,List.length_cons,h.2.length]
 | [],_::_,h=>h.elim
 | _::_,[],h=>h.elim
theorem bJ.get {H:Hp}:∀ {ps:List Addr} {rs:List (List Int)} {i:Nat} {p:Addr},bJ H ps rs->ps[i]?=some p->∃ r,rs[i]?=some r/\H p=some (.lst (List.map V.int r))
 | [],[],_,_,_,e=>by simp at e
 | _::_,r::_,0,_,h,e=>by simp at e;subst e;exact ⟨r,rfl,h.1⟩
 | _::_,_::_,i+1,_,h,e=>by
  obtain ⟨f,e1,e2⟩:=h.2.get (i:=i) (by simpa using e)
  exact ⟨f,by simpa using e1,e2⟩
 | [],_::_,_,_,h,_=>h.elim
 | _::_,[],_,_,h,_=>h.elim
theorem bJ.has {H:Hp} {ps:List Addr} {rs:List (List Int)} (h:bJ H ps rs) {p:Addr} (hp:p∈ps):∃ r,r∈rs/\H p=some (.lst (List.map V.int r)):=by
 obtain ⟨i,hi⟩:=getElem?_of_mem hp
 obtain ⟨r,e1,e2⟩:=h.get hi
 exact ⟨r,mem_of_getElem? e1,e2⟩
theorem bJ.append {H:Hp} {qs:List Addr} {gs:List (List Int)} (hq:bJ H qs gs):∀ {ps:List Addr} {rs:List (List Int)},bJ H ps rs->bJ H (ps++qs) (rs++gs)
 | [],[],_=>hq
 | _::_,_::_,h=>⟨h.1,bJ.append hq h.2⟩
 | [],_::_,h=>h.elim
 | _::_,[],h=>h.elim
theorem bJ.snoc {H:Hp} {q:Addr} {g:List Int} {ps:List Addr} {rs:List (List Int)} (h:bJ H ps rs) (hq:H q=some (.lst (List.map V.int g))):bJ H (ps++[q]) (rs++[g]):=bJ.append (show bJ H [q] [g] from ⟨hq,trivial⟩) h
theorem bJ.put {H:Hp} {q:Addr} {o:HO}:∀ {ps:List Addr} {rs:List (List Int)},q∉ps->bJ H ps rs->bJ (upd H q o) ps rs
 | [],[],_,_=>trivial
 | p::_,_::_,hn,h=>⟨by rw [cA (λ e:p=q=>hn (by rw [e];exact mem_cons_self))];exact h.1,bJ.put (λ z=>hn (mem_cons_of_mem _ z)) h.2⟩
 | [],_::_,_,h=>h.elim
 | _::_,[],_,h=>h.elim
theorem bJ.setr {H:Hp} {q:Addr} {g:List Int} (hq:H q=some (.lst (List.map V.int g))):∀ {ps:List Addr} {rs:List (List Int)} (i:Nat),bJ H ps rs->bJ H (ps.set i q) (rs.set i g)
 | [],[],_,_=>trivial
 | _::_,_::_,0,h=>⟨hq,h.2⟩
 | _::_,_::_,i+1,h=>⟨h.1,bJ.setr hq i h.2⟩
 | [],_::_,_,h=>h.elim
 | _::_,[],_,h=>h.elim
theorem kY {l:List Int} {i:Nat} (h:i<l.length):l.getD i 0∈l:=by
 rw [getD_eq_getElem?_getD,getElem?_eq_getElem h];exact getElem_mem h
theorem fR {l:List Int} {i:Nat} (h:i<l.length):atI (List.map V.int l) (i:Int)=some (.int (l.getD i 0)):=by
 have:=zO (ns:=l) (k:=(i:Int)) (by omega) (by omega)
 rwa [Int.toNat_natCast] at this
theorem zY {l:List Int} {i:Nat} (h:i<l.length):l[i]?=some (l.getD i 0):=by
 rw [getD_eq_getElem?_getD,getElem?_eq_getElem h];rfl
theorem uS {α:Type} {xs:List α} {x:α} (h:xs[xs.length - 1]?=some x):atI xs (-1)=some x:=by
 have hl:xs.length - 1<xs.length:=(List.getElem?_eq_some_iff.mp h).1
 unfold atI ixN
 rw [if_neg (by omega),if_pos (by omega)]
 show xs[(-1+(xs.length:Int)).toNat]?=some x
 rw [show (-1+(xs.length:Int)).toNat=xs.length - 1 by omega]
 exact h
noncomputable def lx (a b:List Int) (c:Nat):List Nat->Option Bool
 | []=>none
 | p::r=>if a.getD p 0*b.getD c 0=b.getD p 0*a.getD c 0 then lx a b c r else some (decide (a.getD p 0*b.getD c 0<b.getD p 0*a.getD c 0))
theorem Ug {a b:List Int} {c:Nat}:∀ (l:List Nat),lx b a c l=(lx a b c l).map (!·)
 | []=>rfl
 | p::r=>by
  unfold lx
  by_cases h:a.getD p 0*b.getD c 0=b.getD p 0*a.getD c 0
  ·rw [if_pos h,if_pos h.symm];exact Ug r
  ·rw [if_neg h,if_neg (λ e=>h e.symm)]
   show some _=some _
   congr 1
   by_cases h2:a.getD p 0*b.getD c 0<b.getD p 0*a.getD c 0
   ·rw [decide_eq_true h2,decide_eq_false (by omega)];rfl
   ·rw [decide_eq_false h2,decide_eq_true (by omega)];rfl
theorem Pc {a b k:List Int} {c:Nat} (ha:0<a.getD c 0) (hb:0<b.getD c 0) (hk:0<k.getD c 0):∀ (l:List Nat),lx a b c l=some true->lx b k c l≠some false->lx a k c l=some true
 | [],h,_=>by cases h
 | p::r,h1,h2=>by
  have ih:=Pc ha hb hk r
  unfold lx at h1 h2 ⊢
  generalize a.getD c 0=ac at *
  generalize b.getD c 0=bc at *
  generalize k.getD c 0=kc at *
  generalize a.getD p 0=ap at *
  generalize b.getD p 0=bp at *
  generalize k.getD p 0=kp at *
  have m1:ap*bc*kc=ap*kc*bc:=by ac_rfl
  have m2:bp*ac*kc=bp*kc*ac:=by ac_rfl
  have m3:kp*bc*ac=kp*ac*bc:=by ac_rfl
  have fin:ap*kc*bc<kp*ac*bc->(if ap*kc=kp*ac then lx a k c r else some (decide (ap*kc<kp*ac)))=some true:=λ h=>by
   have:ap*kc<kp*ac:=Int.lt_of_mul_lt_mul_right h (by omega)
   rw [if_neg (by omega),decide_eq_true this]
  by_cases e1:ap*bc=bp*ac
  ·rw [if_pos e1] at h1
   have t1:ap*bc*kc=bp*ac*kc:=by rw [e1]
   by_cases e2:bp*kc=kp*bc
   ·rw [if_pos e2] at h2
    have t2:bp*kc*ac=kp*bc*ac:=by rw [e2]
    have:ap*kc=kp*ac:=Int.eq_of_mul_eq_mul_right (show bc≠0 by omega) (by omega)
    rw [if_pos this]
    exact ih h1 h2
   ·rw [if_neg e2] at h2
    have h3:bp*kc<kp*bc:=Classical.byContradiction λ z=>h2 (by rw [decide_eq_false z])
    have t2:bp*kc*ac<kp*bc*ac:=Int.mul_lt_mul_of_pos_right h3 ha
    exact fin (by omega)
  ·rw [if_neg e1] at h1
   have h3:ap*bc<bp*ac:=by simpa using h1
   have t1:ap*bc*kc<bp*ac*kc:=Int.mul_lt_mul_of_pos_right h3 hk
   by_cases e2:bp*kc=kp*bc
   ·have t2:bp*kc*ac=kp*bc*ac:=by rw [e2]
    exact fin (by omega)
   ·rw [if_neg e2] at h2
    have h3:bp*kc<kp*bc:=Classical.byContradiction λ z=>h2 (by rw [decide_eq_false z])
    have t2:bp*kc*ac<kp*bc*ac:=Int.mul_lt_mul_of_pos_right h3 ha
    exact fin (by omega)
noncomputable def Lv (rs:List (List Int)) (c:Nat) (l:List Nat) (i:Nat):Option Nat->Prop
 | none=>∀ k row,k<i->rs[k]?=some row->¬ 0<row.getD c 0
 | some f=>f<i/\∃ fr,rs[f]?=some fr/\0<fr.getD c 0/\∀ k row,k<i->rs[k]?=some row->0<row.getD c 0->lx fr row c l≠some false/\(lx fr row c l=none->f<=k)
theorem Lv.skip {rs:List (List Int)} {c:Nat} {l:List Nat} {i:Nat} {o:Option Nat} {row:List Int} (h:Lv rs c l i o) (hr:rs[i]?=some row) (hn:¬ 0<row.getD c 0):Lv rs c l (i+1) o:=by
 cases o with
 | none =>
  intro k row' hk e
  by_cases hki:k<i
  ·exact h k row' hki e
  ·have:k=i:=by omega
   subst this
   rw [hr] at e
   obtain rfl:=Option.some.inj e
   exact hn
 | some f =>
  obtain ⟨h1,fr,h2,h3,h4⟩:=h
  refine ⟨by omega,fr,h2,h3,λ k row' hk e hp=>?_⟩
  by_cases hki:k<i
  ·exact h4 k row' hki e hp
  ·have:k=i:=by omega
   subst this
   rw [hr] at e
   obtain rfl:=Option.some.inj e
   exact absurd hp hn
theorem Lz {a:List Int} {c:Nat}:∀ l:List Nat,lx a a c l=none
 | []=>rfl
 | p::r=>by unfold lx;rw [if_pos rfl];exact Lz r
theorem Lv.first {rs:List (List Int)} {c:Nat} {l:List Nat} {i:Nat} {row:List Int} (h:Lv rs c l i none) (hr:rs[i]?=some row) (hp:0<row.getD c 0):Lv rs c l (i+1) (some i):=by
 refine ⟨by omega,row,hr,hp,λ k row' hk e hp'=>?_⟩
 by_cases hki:k<i
 ·exact absurd hp' (h k row' hki e)
 ·have:k=i:=by omega
  subst this
  rw [hr] at e
  obtain rfl:=Option.some.inj e
  rw [Lz]
  exact ⟨by simp,λ _=>Nat.le_refl _⟩
theorem Lv.keep {rs:List (List Int)} {c:Nat} {l:List Nat} {i f:Nat} {row fr:List Int} (h:Lv rs c l i (some f)) (hf:rs[f]?=some fr) (hr:rs[i]?=some row) (hp:0<row.getD c 0) (ha:lx row fr c l≠some true):Lv rs c l (i+1) (some f):=by
 obtain ⟨h1,fr',h2,h3,h4⟩:=h
 rw [hf] at h2
 obtain rfl:=Option.some.inj h2
 refine ⟨by omega,fr,hf,h3,λ k row' hk e hp'=>?_⟩
 by_cases hki:k<i
 ·exact h4 k row' hki e hp'
 ·have:k=i:=by omega
  subst this
  rw [hr] at e
  obtain rfl:=Option.some.inj e
  refine ⟨λ z=>ha ?_,λ _=>by omega⟩
  rw [Ug (a:=fr) (b:=row),z];rfl
theorem Lv.take {rs:List (List Int)} {c:Nat} {l:List Nat} {i f:Nat} {row fr:List Int} (h:Lv rs c l i (some f)) (hf:rs[f]?=some fr) (hr:rs[i]?=some row) (hp:0<row.getD c 0) (ha:lx row fr c l=some true):Lv rs c l (i+1) (some i):=by
 obtain ⟨h1,fr',h2,h3,h4⟩:=h
 rw [hf] at h2
 obtain rfl:=Option.some.inj h2
 refine ⟨by omega,row,hr,hp,λ k row' hk e hp'=>?_⟩
 by_cases hki:k<i
 ·have:=Pc hp h3 hp' l ha (h4 k row' hki e hp').1
  rw [this]
  exact ⟨by simp,λ z=>by cases z⟩
 ·have:k=i:=by omega
  subst this
  rw [hr] at e
  obtain rfl:=Option.some.inj e
  rw [Lz]
  exact ⟨by simp,λ _=>Nat.le_refl _⟩
noncomputable def sm:Nat->(Nat->Int)->Int
 | 0,_=>0
 | n+1,f=>sm n f+f n
theorem eP:∀ {n:Nat} {f g:Nat->Int},(∀ k,k<n->f k=g k)->sm n f=sm n g
 | 0,_,_,_=>rfl
 | n+1,f,g,h=>by
  show sm n f+f n=sm n g+g n
  rw [eP (n:=n) λ k hk=>h k (by omega),h n (by omega)]
theorem hJ:∀ {n:Nat} {f:Nat->Int},(∀ k,k<n->f k=0)->sm n f=0
 | 0,_,_=>rfl
 | n+1,f,h=>by
  show sm n f+f n=0
  rw [hJ (n:=n) λ k hk=>h k (by omega),h n (by omega)];rfl
theorem uF (a b:Int):∀ (n:Nat) (f g:Nat->Int),sm n (λ k=>a*f k+b*g k)=a*sm n f+b*sm n g
 | 0,_,_=>by show (0:Int)=a*0+b*0;simp
 | n+1,f,g=>by
  show sm n (λ k=>a*f k+b*g k)+(a*f n+b*g n)=a*(sm n f+f n)+b*(sm n g+g n)
  rw [uF a b n f g,Int.mul_add,Int.mul_add];omega
theorem mK {p:Nat}:∀ {n:Nat} {f:Nat->Int},p<n->(∀ k,k<n->k≠p->f k=0)->sm n f=f p
 | 0,_,h,_=>absurd h (Nat.not_lt_zero _)
 | n+1,f,hp,h=>by
  show sm n f+f n=f p
  by_cases e:p=n
  ·rw [hJ (n:=n) λ k hk=>h k (by omega) (by omega),e];omega
  ·rw [mK (n:=n) (by omega) λ k hk hne=>h k (by omega) hne,h n (by omega) (by omega)];omega
theorem Kw {p q:Nat}:∀ {n:Nat} {f:Nat->Int},p<q->q<n->(∀ k,k<n->k≠p->k≠q->f k=0)->sm n f=f p+f q
 | 0,_,_,h,_=>absurd h (Nat.not_lt_zero _)
 | n+1,f,hpq,hq,h=>by
  show sm n f+f n=f p+f q
  by_cases e:q=n
  ·rw [mK (p:=p) (n:=n) (by omega) λ k hk hne=>h k (by omega) hne (by omega),e]
  ·rw [Kw (n:=n) hpq (by omega) λ k hk h1 h2=>h k (by omega) h1 h2,h n (by omega) (by omega) (by omega)];omega
noncomputable def sg (k:Nat):Int:=if k % 2=0 then 1 else -1
theorem sg_succ (k:Nat):sg (k+1) = - sg k:=by
 unfold sg
 split <;> split <;> omega
theorem sg_abs (k:Nat):(sg k).natAbs=1:=by unfold sg;split <;> rfl
noncomputable def skp (k i:Nat):Nat:=if i<k then i else i+1
theorem skp_ne (k i:Nat):skp k i≠k:=by unfold skp;split <;> omega
theorem Xx {k i n:Nat} (h:i<n):skp k i<n+1:=by unfold skp;split <;> omega
theorem skp_inj {k i j:Nat} (h:skp k i=skp k j):i=j:=by unfold skp at h;split at h <;> split at h <;> omega
theorem Yw {k j n:Nat} (hk:k<n+1) (hj:j<n+1) (hne:j≠k):∃ i,i<n/\skp k i=j:=by
 unfold skp
 by_cases h:j<k
 ·exact ⟨j,by omega,by rw [if_pos h]⟩
 ·exact ⟨j - 1,by omega,by rw [if_neg (by omega)];omega⟩
noncomputable abbrev Mx:=Nat->Nat->Int
noncomputable def mnr (M:Mx) (k:Nat):Mx:=λ i r=>M (skp k i) (r+1)
noncomputable def det:Nat->Mx->Int
 | 0,_=>1
 | n+1,M=>sm (n+1) λ k=>sg k*M k 0*det n (mnr M k)
theorem wP:∀ {n:Nat} {M L:Mx},(∀ i,i<n->∀ r,r<n->M i r=L i r)->det n M=det n L
 | 0,_,_,_=>rfl
 | n+1,M,L,h=>by
  refine eP λ k hk=>?_
  rw [h k hk 0 (by omega),wP (n:=n) (M:=mnr M k) (L:=mnr L k) λ i hi r hr=>h _ (Xx hi) _ (by omega)]
noncomputable def pt (M:Mx) (j:Nat) (v:Nat->Int):Mx:=λ i=>if i=j then v else M i
theorem qK (M:Mx) (j:Nat) (v:Nat->Int):pt M j v j=v:=by unfold pt;rw [if_pos rfl]
theorem jZ (M:Mx) {i j:Nat} (v:Nat->Int) (h:i≠j):pt M j v i=M i:=by unfold pt;rw [if_neg h]
theorem zH (M:Mx) (j:Nat):pt M j (M j)=M:=by
 funext i;unfold pt;split
 ·rename_i e;rw [e]
 ·rfl
theorem pt_pt (M:Mx) (j:Nat) (u v:Nat->Int):pt (pt M j u) j v=pt M j v:=by
 funext i;unfold pt;split <;> rfl
theorem wC (M:Mx) {i j:Nat} (h:i≠j) (u v:Nat->Int):pt (pt M i u) j v=pt (pt M j v) i u:=by
 funext k;unfold pt
 by_cases h1:k=j
 ·rw [if_pos h1,if_neg (by omega),if_pos h1]
 ·rw [if_neg h1]
  by_cases h2:k=i
  ·rw [if_pos h2,if_pos h2]
  ·rw [if_neg h2,if_neg h2,if_neg h1]
theorem vE (M:Mx) (k:Nat) (v:Nat->Int):mnr (pt M k v) k=mnr M k:=by
 funext i r
 show pt M k v (skp k i) (r+1)=M (skp k i) (r+1)
 rw [jZ _ _ (skp_ne k i)]
theorem Qx (M:Mx) {k j':Nat} (v:Nat->Int):mnr (pt M (skp k j') v) k=pt (mnr M k) j' (λ r=>v (r+1)):=by
 funext i r
 show pt M (skp k j') v (skp k i) (r+1)=_
 unfold pt
 by_cases h:i=j'
 ·rw [if_pos h,if_pos (by rw [h])]
 ·rw [if_neg h,if_neg (λ e=>h (skp_inj e))];rfl
theorem Md (a b:Int):∀ {n:Nat} (M:Mx) {j:Nat} (u v:Nat->Int),j<n->det n (pt M j (λ r=>a*u r+b*v r))=a*det n (pt M j u)+b*det n (pt M j v)
 | 0,_,_,_,_,h=>absurd h (Nat.not_lt_zero _)
 | n+1,M,j,u,v,hj=>by
  show sm (n+1) _=a*sm (n+1) _+b*sm (n+1) _
  rw [← uF]
  refine eP λ k hk=>?_
  by_cases e:k=j
  ·subst e
   rw [qK,qK,qK,vE,vE,vE]
   grind
  ·obtain ⟨j',hj',ej⟩:=Yw hk hj (λ z=>e z.symm)
   rw [jZ _ _ e,jZ _ _ e,jZ _ _ e,← ej,Qx,Qx,Qx,Md a b (mnr M k) (λ r=>u (r+1)) (λ r=>v (r+1)) hj']
   grind
theorem Ev:∀ {n:Nat} {M:Mx} {p:Nat},p+1<n->M p=M (p+1)->det n M=0
 | 0,_,_,h,_=>absurd h (Nat.not_lt_zero _)
 | n+1,M,p,hp,e=>by
  show sm (n+1) _=0
  rw [Kw (p:=p) (q:=p+1) (by omega) hp]
  ·have em:mnr M p=mnr M (p+1):=by
    funext i r
    show M (skp p i) (r+1)=M (skp (p+1) i) (r+1)
    unfold skp
    by_cases h1:i<p
    ·rw [if_pos h1,if_pos (by omega)]
    ·rw [if_neg h1]
     by_cases h2:i=p
     ·rw [if_pos (by omega),h2,e]
     ·rw [if_neg (by omega)]
   rw [em,e,sg_succ];grind
  ·intro k hk h1 h2
   have:det n (mnr M k)=0:=by
    by_cases h:k<p
    ·refine Ev (p:=p - 1) (by omega) ?_
     funext r
     show M (skp k (p - 1)) (r+1)=M (skp k (p - 1+1)) (r+1)
     unfold skp
     rw [if_neg (by omega),if_neg (by omega),show p - 1+1=p by omega,e]
    ·refine Ev (p:=p) (by omega) ?_
     funext r
     show M (skp k p) (r+1)=M (skp k (p+1)) (r+1)
     unfold skp
     rw [if_pos (by omega),if_pos (by omega),e]
   rw [this,Int.mul_zero]
theorem Ew {n:Nat} (M:Mx) {j:Nat} (u v:Nat->Int) (h:j<n):det n (pt M j (λ r=>u r+v r))=det n (pt M j u)+det n (pt M j v):=by
 have:=Md 1 1 M u v h
 simp only [Int.one_mul] at this
 exact this
theorem Ci {n:Nat} (M:Mx) {j:Nat} (a:Int) (u:Nat->Int) (h:j<n):det n (pt M j (λ r=>a*u r))=a*det n (pt M j u):=by
 have:=Md a 0 M u u h
 simp only [Int.zero_mul,Int.add_zero] at this
 exact this
theorem Tr {n p q:Nat} (hp:p<n) (hq:q<n) (hne:p≠q) (z:∀ M:Mx,M p=M q->det n M=0) (M:Mx) (u v:Nat->Int):det n (pt (pt M p u) q v) = - det n (pt (pt M p v) q u):=by
 have h0:=z (pt (pt M p (λ r=>u r+v r)) q (λ r=>u r+v r)) (by rw [qK,jZ _ _ hne,qK])
 have huu:=z (pt (pt M p u) q u) (by rw [qK,jZ _ _ hne,qK])
 have hvv:=z (pt (pt M p v) q v) (by rw [qK,jZ _ _ hne,qK])
 rw [Ew _ _ _ hq,wC M hne,wC M hne,Ew _ _ _ hp,Ew _ _ _ hp,wC M (Ne.symm hne),wC M (Ne.symm hne),wC M (Ne.symm hne),wC M (Ne.symm hne)] at h0
 omega
theorem Me {n:Nat}:∀ (d:Nat) {M:Mx} {p q:Nat},q=p+1+d->q<n->M p=M q->det n M=0
 | 0,M,p,q,e,hq,h=>Ev (p:=p) (by omega) (by rw [h,e])
 | d+1,M,p,q,e,hq,h=>by
  have sw:=Tr (n:=n) (p:=q - 1) (q:=q - 1+1) (by omega) (by omega) (by omega) (λ L hL=>Ev (by omega) hL) M (M (q - 1)) (M q)
  rw [show q - 1+1=q by omega] at sw
  rw [zH,zH] at sw
  rw [sw,Me d (p:=p) (q:=q - 1) (by omega) (by omega)]
  ·rfl
  ·rw [jZ _ _ (show p≠q by omega),jZ _ _ (show p≠q - 1 by omega),jZ _ _ (show q - 1≠q by omega),qK,h]
theorem Gg {n:Nat} {M:Mx} {p q:Nat} (hp:p<n) (hq:q<n) (hne:p≠q) (h:M p=M q):det n M=0:=by
 by_cases hlt:p<q
 ·exact Me (q - p - 1) (p:=p) (q:=q) (by omega) hq h
 ·exact Me (p - q - 1) (p:=q) (q:=p) (by omega) hp h.symm
theorem jJh {n p q:Nat} (hp:p<n) (hq:q<n) (hne:p≠q) (M:Mx) (u v:Nat->Int):det n (pt (pt M p u) q v) = - det n (pt (pt M p v) q u):=Tr hp hq hne (λ _ h=>Gg hp hq hne h) M u v
noncomputable def e1 (i:Nat):Nat->Int:=λ r=>if r=i then 1 else 0
noncomputable def Im:Mx:=e1
theorem Eu:∀ n:Nat,det n Im=1
 | 0=>rfl
 | n+1=>by
  show sm (n+1) _=1
  rw [mK (p:=0) (by omega)]
  ·have:det n (mnr Im 0)=det n Im:=wP λ i _ r _=>by
    show e1 (skp 0 i) (r+1)=e1 i r
    unfold e1 skp
    rw [if_neg (Nat.not_lt_zero i)]
    by_cases h:r=i
    ·rw [if_pos h,if_pos (by omega)]
    ·rw [if_neg h,if_neg (by omega)]
   rw [this,Eu n];rfl
  ·intro k _ hk
   have:Im k 0=0:=by show e1 k 0=0;unfold e1;rw [if_neg (λ z=>hk z.symm)]
   rw [this];grind
theorem Gf {n:Nat} (M:Mx) {j:Nat} (hj:j<n) (c:Nat->Int) (w:Nat->Nat->Int):∀ m:Nat,det n (pt M j (λ r=>sm m λ k=>c k*w k r))=sm m λ k=>c k*det n (pt M j (w k))
 | 0=>by
  have:=Ci M 0 (λ _=>0) hj
  simp only [Int.zero_mul] at this
  exact this
 | m+1=>by
  show det n (pt M j (λ r=>sm m (λ k=>c k*w k r)+c m*w m r))=sm m _+c m*_
  rw [Ew _ _ _ hj,Gf M hj c w m,Ci _ _ _ hj]
theorem Om (v:Nat->Int):∀ (n r:Nat),r<n->(sm n λ k=>v k*e1 k r)=v r:=λ n r hr=>by
 rw [mK (p:=r) hr]
 ·unfold e1;rw [if_pos rfl,Int.mul_one]
 ·intro k _ hk
  unfold e1;rw [if_neg (λ z=>hk z.symm),Int.mul_zero]
theorem det_sum {n:Nat} (M:Mx) {j:Nat} (hj:j<n) (v:Nat->Int):det n (pt M j v)=sm n λ k=>v k*det n (pt M j (e1 k)):=by
 rw [← Gf M hj v e1 n]
 refine wP λ i hi r hr=>?_
 unfold pt
 split
 ·exact (Om v n r hr).symm
 ·rfl
section
variable {N:Nat}
noncomputable def Tt (N:Nat) (B:Mx) (i:Nat) (y:Nat->Int):Int:=det N (pt B i y)
noncomputable def Cr (N:Nat) (B:Mx):Prop:=∀ (y:Nat->Int) (r:Nat),r<N->(sm N λ i=>Tt N B i y*B i r)=det N B*y r
theorem Re (B:Mx) (i:Nat):Tt N B i (B i)=det N B:=by unfold Tt;rw [zH]
theorem Gi {B:Mx} {i j:Nat} (hi:i<N) (hj:j<N) (h:i≠j):Tt N B i (B j)=0 :=
 Gg hi hj h (by rw [qK,jZ _ _ (Ne.symm h)])
theorem Yq {B:Mx} {i:Nat} (hi:i<N) (y:Nat->Int):Tt N B i y=sm N λ k=>y k*Tt N B i (e1 k):=det_sum B hi y
theorem Yp {i:Nat} (hi:i<N) (y:Nat->Int):Tt N Im i y=y i:=by
 rw [Yq hi,mK (p:=i) hi]
 ·rw [show Tt N Im i (e1 i)=det N Im from Re Im i,Eu,Int.mul_one]
 ·intro k hk hne
  rw [show Tt N Im i (e1 k)=0 from Gi hi hk (Ne.symm hne),Int.mul_zero]
theorem Yr:Cr N Im:=by
 intro y r hr
 rw [Eu,Int.one_mul,← Om y N r hr]
 exact eP λ i hi=>by rw [Yp hi];rfl
theorem exchT {B:Mx} (hB:Cr N B) {r i:Nat} (hr:r<N) (hi:i<N) (hne:i≠r) (x y:Nat->Int):det N B*Tt N (pt B r x) i y=Tt N B i y*Tt N B r x - Tt N B r y*Tt N B i x:=by
 have h1:det N B*Tt N (pt B r x) i y=det N (pt (pt B r x) i (λ s=>det N B*y s)):=(Ci _ _ _ hi).symm
 have h2:det N (pt (pt B r x) i (λ s=>det N B*y s))=det N (pt (pt B r x) i (λ s=>sm N λ k=>Tt N B k y*B k s)):=wP λ j _ s hs=>by
  unfold pt
  by_cases e:j=i
  ·rw [if_pos e,if_pos e,hB y s hs]
  ·rw [if_neg e,if_neg e]
 rw [h1,h2,Gf _ hi]
 have hii:det N (pt (pt B r x) i (B i))=Tt N B r x:=by
  have:pt (pt B r x) i (B i)=pt B r x:=by
   have:=zH (pt B r x) i
   rwa [jZ _ _ hne] at this
  rw [this];rfl
 have hir:det N (pt (pt B r x) i (B r)) = - Tt N B i x:=by
  rw [jJh hr hi (Ne.symm hne),zH];rfl
 have key:∀ k,k<N->k≠i->k≠r->Tt N B k y*det N (pt (pt B r x) i (B k))=0:=λ k hk h1 h2=>by
  rw [Gg hi hk (Ne.symm h1) (by rw [qK,jZ _ _ h1,jZ _ _ h2]),Int.mul_zero]
 by_cases hlt:i<r
 ·rw [Kw hlt hr (λ k hk h1 h2=>key k hk h1 h2),hii,hir,Int.mul_neg];rfl
 ·rw [Kw (p:=r) (q:=i) (by omega) hi (λ k hk h1 h2=>key k hk h2 h1),hii,hir,Int.mul_neg];omega
theorem Vb (B:Mx) (r:Nat) (x y:Nat->Int):Tt N (pt B r x) r y=Tt N B r y:=by unfold Tt;rw [pt_pt]
theorem det_pt (B:Mx) (r:Nat) (x:Nat->Int):det N (pt B r x)=Tt N B r x:=rfl
theorem Cr.turn {B:Mx} (hB:Cr N B) (hD:det N B≠0) {r:Nat} (hr:r<N) (x:Nat->Int):Cr N (pt B r x):=by
 intro y s hs
 apply Int.eq_of_mul_eq_mul_left hD
 have e:∀ i,i<N->det N B*(Tt N (pt B r x) i y*(pt B r x) i s)=Tt N B r x*(Tt N B i y*B i s)+(- Tt N B r y)*(Tt N B i x*B i s)+(if i=r then det N B*Tt N B r y*x s else 0):=λ i hi=>by
  by_cases h:i=r
  ·subst h
   rw [if_pos rfl,Vb,qK];grind
  ·rw [if_neg h,jZ _ _ h,← Int.mul_assoc,exchT hB hr hi h];grind
 have s1:det N B*sm N (λ i=>Tt N (pt B r x) i y*(pt B r x) i s)=sm N λ i=>det N B*(Tt N (pt B r x) i y*(pt B r x) i s):=by
  have:=uF (det N B) 0 N (λ i=>Tt N (pt B r x) i y*(pt B r x) i s) (λ _=>0)
  simp only [Int.zero_mul,Int.add_zero] at this
  exact this.symm
 rw [s1,eP e]
 have s2:=uF 1 1 N (λ i=>Tt N B r x*(Tt N B i y*B i s)+(- Tt N B r y)*(Tt N B i x*B i s)) (λ i=>if i=r then det N B*Tt N B r y*x s else 0)
 simp only [Int.one_mul] at s2
 rw [s2,uF,hB y s hs,hB x s hs,mK (p:=r) hr (λ k _ hk=>if_neg hk),if_pos rfl,det_pt]
 grind
end
noncomputable def lp (u:Nat->Int):List Nat->Prop
 | []=>False
 | p::r=>0<u p∨(u p=0/\lp u r)
noncomputable def lpn (u:Nat->Int):List Nat->Prop
 | []=>True
 | p::r=>0<u p∨(u p=0/\lpn u r)
theorem lp.weak {u:Nat->Int}:∀ {l:List Nat},lp u l->lpn u l
 | [],h=>h.elim
 | _::_,.inl h=>.inl h
 | _::_,.inr h=>.inr ⟨h.1,h.2.weak⟩
theorem oY {u v:Nat->Int}:∀ {l:List Nat},(∀ p∈l,u p=v p)->lp u l->lp v l
 | [],_,h=>h
 | p::r,e,h=>by
  have ep:=e p mem_cons_self
  rcases h with h | h
  ·exact .inl (ep ▸ h)
  ·exact .inr ⟨ep ▸ h.1,oY (λ q hq=>e q (mem_cons_of_mem _ hq)) h.2⟩
theorem Gd {u:Nat->Int} {a:Int} (ha:0<a):∀ {l:List Nat},lp u l->lp (λ p=>a*u p) l
 | [],h=>h
 | p::r,h=>by
  rcases h with h | h
  ·exact .inl (Int.mul_pos ha h)
  ·exact .inr ⟨by show a*u p=0;rw [h.1,Int.mul_zero],Gd ha h.2⟩
theorem sO {u:Nat->Int} {a:Int} (ha:0<a):∀ {l:List Nat},lp (λ p=>a*u p) l->lp u l
 | [],h=>h
 | p::r,h=>by
  rcases h with h | h
  ·left
   have h:0<a*u p:=h
   rcases Int.lt_trichotomy (u p) 0 with z | z | z
   ·have:=Int.mul_neg_of_pos_of_neg ha z;omega
   ·rw [z,Int.mul_zero] at h;omega
   ·exact z
  ·right
   have h1:a*u p=0:=h.1
   refine ⟨?_,sO ha h.2⟩
   rcases Int.mul_eq_zero.mp h1 with z | z
   ·omega
   ·exact z
theorem Ye {u v:Nat->Int} {a b:Int} (ha:0<a) (hb:0<=b) {l:List Nat} (h:lp u l) (k:lpn v l):lp (λ p=>a*u p+b*v p) l:=by
 by_cases hz:b=0
 ·subst hz
  refine oY (λ p _=>?_) (Gd ha h)
  omega
 ·have hb:0<b:=by omega
  clear hz
  induction l with
  | nil=>exact h.elim
  | cons p r ih =>
   rcases h with h | h
   ·left
    have h1:=Int.mul_pos ha h
    have h2:0<=b*v p:=by
     rcases k with k | k
     ·exact Int.mul_nonneg (by omega) (by omega)
     ·rw [k.1,Int.mul_zero];exact Int.le_refl _
    show 0<a*u p+b*v p
    omega
   ·rcases k with k | k
    ·left
     have h1:=Int.mul_pos hb k
     show 0<a*u p+b*v p
     rw [h.1,Int.mul_zero];omega
    ·exact .inr ⟨by show a*u p+b*v p=0;rw [h.1,k.1,Int.mul_zero,Int.mul_zero];rfl,ih h.2 k.2⟩
theorem Jx {u:Nat->Int}:∀ {l:List Nat},(∀ p∈l,u p=0)->¬ lp u l
 | [],_,h=>h
 | p::r,e,h=>by
  have ep:=e p mem_cons_self
  rcases h with h | h
  ·omega
  ·exact Jx (λ q hq=>e q (mem_cons_of_mem _ hq)) h.2
theorem lp_or {u:Nat->Int}:∀ (l:List Nat),lp u l∨(∀ p∈l,u p=0)∨lp (λ p=>- u p) l
 | []=>.inr (.inl (λ _ h=>nomatch h))
 | p::r=>by
  rcases Int.lt_trichotomy (u p) 0 with z | z | z
  ·exact .inr (.inr (.inl (by show 0 < - u p;omega)))
  ·rcases lp_or (u:=u) r with h | h | h
   ·exact .inl (.inr ⟨z,h⟩)
   ·refine .inr (.inl λ q hq=>?_)
    rcases List.mem_cons.mp hq with rfl | hq
    ·exact z
    ·exact h q hq
   ·exact .inr (.inr (.inr ⟨by show - u p=0;omega,h⟩))
  ·exact .inl (.inl z)
structure Lpd where
 m:Nat
 n:Nat
 a:Nat->Nat->Int
 be:Nat->Int
 fl:Bool
namespace Lpd
variable (L:Lpd)
noncomputable def cv (j:Nat):Nat->Int:=if j<L.n then L.a j else e1 (j - L.n)
noncomputable def B (s:Nat->Nat):Mx:=λ i=>if i<L.m then L.cv (s i) else e1 i
noncomputable def sg:Int:=if L.fl=true then -1 else 1
theorem sg2:L.sg*L.sg=1:=by unfold sg;split <;> rfl
theorem sg_abs (x:Int):(L.sg*x).natAbs=x.natAbs:=by unfold sg;split <;> omega
noncomputable def D (s:Nat->Nat):Int:=L.sg*det (L.m+1) (L.B s)
noncomputable def T (s:Nat->Nat) (i:Nat) (y:Nat->Int):Int:=L.sg*Tt (L.m+1) (L.B s) i y
noncomputable def li (p:Nat):Nat->Int:=if p=0 then L.be else e1 (p - 1)
noncomputable def ls:List Nat:=List.range (L.m+1)
noncomputable def sput (s:Nat->Nat) (r c:Nat):Nat->Nat:=λ i=>if i=r then c else s i
theorem B_put {s:Nat->Nat} {r c:Nat} (hr:r<L.m):L.B (sput s r c)=pt (L.B s) r (L.cv c):=by
 funext i
 unfold B sput pt
 by_cases h:i=r
 ·rw [if_pos (by omega),if_pos h,if_pos h]
 ·rw [if_neg h,if_neg h]
structure Okn (s:Nat->Nat):Prop where
 ne:L.D s≠0
 cr:Cr (L.m+1) (L.B s)
structure Ok (s:Nat->Nat):Prop where
 pos:0<L.D s
 cr:Cr (L.m+1) (L.B s)
 bn:∀ i,i<L.m->0<=L.T s i L.be
structure Okx (s:Nat->Nat):Prop where
 pos:0<L.D s
 cr:Cr (L.m+1) (L.B s)
 lex:∀ i,i<L.m->lp (λ p=>L.T s i (L.li p)) L.ls
theorem own {s:Nat->Nat} {i:Nat} (hi:i<L.m):L.T s i (L.cv (s i))=L.D s:=by
 have:=Re (N:=L.m+1) (L.B s) i
 have e:L.B s i=L.cv (s i):=by unfold B;rw [if_pos hi]
 rw [e] at this
 unfold T D;rw [this]
theorem last_own (s:Nat->Nat):L.T s L.m (e1 L.m)=L.D s:=by
 have:=Re (N:=L.m+1) (L.B s) L.m
 have e:L.B s L.m=e1 L.m:=by unfold B;rw [if_neg (Nat.lt_irrefl _)]
 rw [e] at this
 unfold T D;rw [this]
theorem not_last {s:Nat->Nat} {i:Nat} (hi:i<L.m):L.T s i (e1 L.m)=0:=by
 have:=Gi (N:=L.m+1) (B:=L.B s) (i:=i) (j:=L.m) (by omega) (by omega) (by omega)
 have e:L.B s L.m=e1 L.m:=by unfold B;rw [if_neg (Nat.lt_irrefl _)]
 rw [e] at this
 unfold T;rw [this,Int.mul_zero]
theorem other {s:Nat->Nat} {i j:Nat} (hi:i<L.m+1) (hj:j<L.m) (h:i≠j):L.T s i (L.cv (s j))=0:=by
 have:=Gi (N:=L.m+1) (B:=L.B s) (i:=i) (j:=j) hi (by omega) h
 have e:L.B s j=L.cv (s j):=by unfold B;rw [if_pos hj]
 rw [e] at this
 unfold T;rw [this,Int.mul_zero]
theorem sm_by (c:Int) (n:Nat) (f:Nat->Int):sm n (λ k=>c*f k)=c*sm n f:=by
 have:=uF c 0 n f f
 simp only [Int.zero_mul,Int.add_zero] at this
 exact this
theorem T_lin {s:Nat->Nat} {i:Nat} (hi:i<L.m+1) (y:Nat->Int):L.T s i y=sm (L.m+1) λ k=>y k*L.T s i (e1 k):=by
 unfold T
 rw [Yq hi,← sm_by]
 exact eP λ k _=>by rw [Int.mul_left_comm]
theorem cr_T {s:Nat->Nat} (h:Cr (L.m+1) (L.B s)) (y:Nat->Int) {r:Nat} (hr:r<L.m+1):(sm (L.m+1) λ i=>L.T s i y*L.B s i r)=L.D s*y r:=by
 unfold T D
 rw [Int.mul_assoc,← h y r hr,← sm_by]
 exact eP λ k _=>by rw [Int.mul_assoc]
section
variable {L}
theorem Ok.n {s:Nat->Nat} (o:L.Ok s):L.Okn s:=⟨Int.ne_of_gt o.pos,o.cr⟩
theorem Okx.n {s:Nat->Nat} (o:L.Okx s):L.Okn s:=⟨Int.ne_of_gt o.pos,o.cr⟩
theorem Okx.bound_nonneg {s:Nat->Nat} (o:L.Okx s) {i:Nat} (hi:i<L.m):0<=L.T s i L.be:=by
 have h:=o.lex i hi
 unfold ls at h
 rw [List.range_succ_eq_map] at h
 have e:L.li 0=L.be:=by unfold li;rw [if_pos rfl]
 rcases h with h | h
 ·have h:0<L.T s i (L.li 0):=h
  rw [e] at h;omega
 ·have h:=h.1
  simp only [e] at h
  omega
theorem Okx.w {s:Nat->Nat} (o:L.Okx s):L.Ok s:=⟨o.pos,o.cr,λ _ hi=>o.bound_nonneg hi⟩
theorem Okn.exch {s:Nat->Nat} (o:L.Okn s) {r i c:Nat} (hr:r<L.m) (hi:i<L.m+1) (hne:i≠r) (y:Nat->Int):L.D s*L.T (sput s r c) i y=L.T s i y*L.T s r (L.cv c) - L.T s r y*L.T s i (L.cv c):=by
 have h:=exchT o.cr (show r<L.m+1 by omega) hi hne (L.cv c) y
 unfold T D
 rw [L.B_put hr]
 generalize Tt (L.m+1) (pt (L.B s) r (L.cv c)) i y=u at h ⊢
 have e1:L.sg*det (L.m+1) (L.B s)*(L.sg*u)=(L.sg*L.sg)*(det (L.m+1) (L.B s)*u):=by ac_rfl
 have e2:∀ x y:Int,L.sg*x*(L.sg*y)=(L.sg*L.sg)*(x*y):=λ x y=>by ac_rfl
 rw [e1,e2,e2,L.sg2,h,Int.one_mul,Int.one_mul,Int.one_mul]
theorem Okx.exch {s:Nat->Nat} (o:L.Okx s) {r i c:Nat} (hr:r<L.m) (hi:i<L.m+1) (hne:i≠r) (y:Nat->Int):L.D s*L.T (sput s r c) i y=L.T s i y*L.T s r (L.cv c) - L.T s r y*L.T s i (L.cv c):=o.n.exch hr hi hne y
theorem Ok.same {s:Nat->Nat} {r c:Nat} (hr:r<L.m) (y:Nat->Int):L.T (sput s r c) r y=L.T s r y:=by
 unfold T;rw [L.B_put hr,Vb]
theorem Ok.newD {s:Nat->Nat} {r c:Nat} (hr:r<L.m):L.D (sput s r c)=L.T s r (L.cv c):=by
 unfold D T;rw [L.B_put hr];rfl
theorem Yl {s:Nat->Nat} (h:L.D s≠0):det (L.m+1) (L.B s)≠0:=λ z=>h (by unfold D;rw [z,Int.mul_zero])
theorem Okn.step {s:Nat->Nat} (o:L.Okn s) {r c:Nat} (hr:r<L.m) (hp:L.T s r (L.cv c)≠0):L.Okn (sput s r c):=by
 refine ⟨by rw [Ok.newD hr];exact hp,?_⟩
 rw [L.B_put hr]
 exact o.cr.turn (Yl o.ne) (by omega) _
theorem Okx.step {s:Nat->Nat} (o:L.Okx s) {r c:Nat} (hr:r<L.m) (hp:0<L.T s r (L.cv c))
  (hmin:∀ i,i<L.m->0<L.T s i (L.cv c)->¬ lp (λ p=>- (L.T s i (L.li p)*L.T s r (L.cv c) - L.T s r (L.li p)*L.T s i (L.cv c))) L.ls):L.Okx (sput s r c):=by
 have hD:=o.pos
 have newpos:0<L.D (sput s r c):=by rw [Ok.newD hr];exact hp
 have newcr:Cr (L.m+1) (L.B (sput s r c)):=by
  rw [L.B_put hr]
  exact o.cr.turn (Yl (by omega)) (by omega) _
 refine ⟨newpos,newcr,λ i hi=>?_⟩
 by_cases hir:i=r
 ·subst hir
  exact oY (λ p _=>(Ok.same hi _).symm) (o.lex i hi)
 ·have ex:=λ y=>o.exch (c:=c) hr (show i<L.m+1 by omega) hir y
  by_cases hn:L.T s i (L.cv c)<=0
  ·refine sO hD (oY (λ p _=>?_) (Ye hp (b:=- L.T s i (L.cv c)) (by omega) (o.lex i hi) (o.lex r hr).weak))
   rw [ex];grind
  ·have hi0:0<L.T s i (L.cv c):=by omega
   rcases lp_or (u:=λ p=>L.T s i (L.li p)*L.T s r (L.cv c) - L.T s r (L.li p)*L.T s i (L.cv c)) L.ls with h | h | h
   ·exact sO hD (oY (λ p _=>(ex _).symm) h)
   ·exfalso
    have z:∀ k,k<L.m+1->L.T (sput s r c) i (e1 k)=0:=λ k hk=>by
     by_cases hkm:k=L.m
     ·rw [hkm];exact L.not_last hi
     ·have h1:=h (k+1) (by unfold ls;exact List.mem_range.mpr (by omega))
      have e:L.li (k+1)=e1 k:=by unfold li;rw [if_neg (by omega)];rfl
      simp only [e] at h1
      have h2:=ex (e1 k)
      rw [h1] at h2
      rcases Int.mul_eq_zero.mp h2 with q | q
      ·omega
      ·exact q
    have hw:L.T (sput s r c) i (L.cv (sput s r c i))=0:=by
     rw [L.T_lin (by omega)]
     exact hJ λ k hk=>by rw [z k hk,Int.mul_zero]
    rw [L.own hi] at hw
    omega
   ·exact absurd h (hmin i hi hi0)
noncomputable def Fur (L:Lpd) (s t:Nat->Nat):Prop:=lp (λ p=>L.T t L.m (L.li p)*L.D s - L.T s L.m (L.li p)*L.D t) L.ls
theorem Okx.further {s:Nat->Nat} (o:L.Okx s) {r c:Nat} (hr:r<L.m) (hneg:L.T s L.m (L.cv c)<0):L.Fur s (sput s r c):=by
 refine oY (λ p _=>?_) (Gd (a:=- L.T s L.m (L.cv c)) (by omega) (o.lex r hr))
 have:=o.exch (c:=c) (i:=L.m) hr (by omega) (by omega) (L.li p)
 rw [Ok.newD hr,Int.mul_comm _ (L.D s),this];grind
theorem Fur.trans {s t w:Nat->Nat} (hs:0<L.D s) (ht:0<L.D t) (hw:0<L.D w) (h1:L.Fur s t) (h2:L.Fur t w):L.Fur s w:=by
 refine sO ht (oY (λ p _=>?_) (Ye hs (Int.le_of_lt hw) h2 h1.weak))
 grind
theorem Fur.irrefl {s:Nat->Nat}:¬ L.Fur s s:=Jx λ p _=>by omega
end
end Lpd
theorem Ka {α:Type} {p q:α->Bool}:∀ {l:List α},(∀ x∈l,p x=true->q x=true)->(∃ x∈l,q x=true/\p x=false)->(l.filter p).length<(l.filter q).length
 | [],_,h=>by obtain ⟨x,hx,_⟩:=h;cases hx
 | a::r,h1,h2=>by
  have hr:(r.filter p).length<=(r.filter q).length:=by
   have key:∀ l:List α,(∀ x∈l,p x=true->q x=true)->(l.filter p).length<=(l.filter q).length:=λ l=>by
    induction l with
    | nil=>intro _;exact Nat.le_refl _
    | cons b t ih =>
     intro h
     have it:=ih λ x hx=>h x (mem_cons_of_mem _ hx)
     have hb:=h b mem_cons_self
     rw [List.filter_cons,List.filter_cons]
     cases hp:p b with
     | true=>rw [hb hp];simp only [if_true,List.length_cons];omega
     | false =>
      cases q b with
      | true=>simp only [Bool.false_eq_true,if_false,if_true,List.length_cons];omega
      | false=>simpa using it
   exact key r λ x hx=>h1 x (mem_cons_of_mem _ hx)
  have ha:=h1 a mem_cons_self
  rw [List.filter_cons,List.filter_cons]
  obtain ⟨x,hx,qx,px⟩:=h2
  rcases List.mem_cons.mp hx with rfl | hx
  ·rw [qx,px]
   simp only [Bool.false_eq_true,if_false,if_true,List.length_cons]
   omega
  ·have it:=Ka (l:=r) (p:=p) (q:=q) (λ x hx=>h1 x (mem_cons_of_mem _ hx)) ⟨x,hx,qx,px⟩
   cases hp:p a with
   | true=>rw [ha hp];simp only [if_true,List.length_cons];omega
   | false =>
    cases q a with
    | true=>simp only [Bool.false_eq_true,if_false,if_true,List.length_cons];omega
    | false=>simpa using it
noncomputable def Xi (k:Nat):Nat->List (List Nat)
 | 0=>[[]]
 | m+1=>(Xi k m).flatMap λ l=>(List.range k).map λ c=>c::l
theorem Pb {k:Nat}:∀ {m:Nat} {l:List Nat},l.length=m->(∀ c∈l,c<k)->l∈Xi k m
 | 0,l,h,_=>by
  have:l=[]:=List.eq_nil_of_length_eq_zero h
  subst this;simp [Xi]
 | m+1,[],h,_=>by simp at h
 | m+1,c::l,h,hc=>by
  simp only [Xi,List.mem_flatMap,mem_map,List.mem_range]
  exact ⟨l,Pb (by simpa using h) λ x hx=>hc x (mem_cons_of_mem _ hx),c,hc c mem_cons_self,rfl⟩
namespace Lpd
variable {L:Lpd}
noncomputable def sf (l:List Nat):Nat->Nat:=λ i=>l.getD i 0
noncomputable def mu (L:Lpd) (s:Nat->Nat):Nat:=open Classical in ((Xi (L.n+L.m) L.m).filter λ t=>decide (0<L.D (sf t)/\L.Fur s (sf t))).length
theorem mu_lt {s:Nat->Nat} {t:List Nat} (hs:0<L.D s) (ht:0<L.D (sf t)) (hl:t.length=L.m) (hc:∀ c∈t,c<L.n+L.m) (h:L.Fur s (sf t)):L.mu (sf t)<L.mu s:=by
 classical
 unfold mu
 refine Ka (λ x _ hx=>?_) ⟨t,Pb hl hc,?_,?_⟩
 ·have hx:=of_decide_eq_true hx
  exact decide_eq_true ⟨hx.1,Fur.trans hs ht hx.1 h hx.2⟩
 ·exact decide_eq_true ⟨ht,h⟩
 ·exact decide_eq_false λ z=>Fur.irrefl z.2
theorem Kx (n:Nat) (f g:Nat->Int):sm n (λ k=>f k+g k)=sm n f+sm n g:=by
 have:=uF 1 1 n f g
 simp only [Int.one_mul] at this
 exact this
theorem sm_mul (c:Int) (n:Nat) (f:Nat->Int):sm n (λ k=>c*f k)=c*sm n f:=by
 have:=uF c 0 n f f
 simp only [Int.zero_mul,Int.add_zero] at this
 exact this
theorem Ts (g:Nat->Nat->Int) (m:Nat):∀ n:Nat,sm n (λ j=>sm m λ i=>g i j)=sm m λ i=>sm n λ j=>g i j
 | 0=>(hJ λ _ _=>rfl).symm
 | n+1=>by
  show sm n (λ j=>sm m λ i=>g i j)+sm m (λ i=>g i n)=sm m λ i=>sm n (λ j=>g i j)+g i n
  rw [Ts g m n,Kx]
theorem sm_le:∀ {n:Nat} {f g:Nat->Int},(∀ k,k<n->f k<=g k)->sm n f<=sm n g
 | 0,_,_,_=>Int.le_refl _
 | n+1,f,g,h=>Int.add_le_add (sm_le λ k hk=>h k (by omega)) (h n (by omega))
theorem Cd {n:Nat} {f:Nat->Int} (h:∀ k,k<n->0<=f k):0<=sm n f:=by
 have:=sm_le (n:=n) (f:=λ _=>0) (g:=f) h
 rwa [hJ λ _ _=>rfl] at this
noncomputable def spr (m:Nat) (s:Nat->Nat) (t:Nat->Int) (j:Nat):Int:=sm m λ i=>if s i=j then t i else 0
theorem spr_sum (m n:Nat) (s:Nat->Nat) (t:Nat->Int) (w:Nat->Int):(sm n λ j=>spr m s t j*w j)=sm m λ i=>if s i<n then t i*w (s i) else 0:=by
 have e:(sm n λ j=>spr m s t j*w j)=sm n λ j=>sm m λ i=>if s i=j then t i*w j else 0:=eP λ j _=>by
  unfold spr
  rw [Int.mul_comm,← sm_mul]
  exact eP λ i _=>by split <;> simp [Int.mul_comm]
 rw [e,Ts (λ i j=>if s i=j then t i*w j else 0)]
 refine eP λ i _=>?_
 by_cases h:s i<n
 ·rw [if_pos h,mK (p:=s i) h]
  ·rw [if_pos rfl]
  ·intro k _ hk
   rw [if_neg (λ z=>hk z.symm)]
 ·rw [if_neg h]
  exact hJ λ j hj=>if_neg (by omega)
theorem Ok.by_cols {s:Nat->Nat} (o:L.Ok s) (hs:∀ i,i<L.m->s i<L.n+L.m) (y:Nat->Int) {r:Nat} (hr:r<L.m+1) :
  (sm L.n λ j=>spr L.m s (λ i=>L.T s i y) j*L.a j r)+(sm L.m λ i=>if s i<L.n then 0 else L.T s i y*e1 (s i - L.n) r)+(if r=L.m then L.T s L.m y else 0)=L.D s*y r:=by
 have h:=L.cr_T o.cr y hr
 have h:(sm L.m λ i=>L.T s i y*L.B s i r)+L.T s L.m y*L.B s L.m r=L.D s*y r:=h
 rw [spr_sum,← h,← Kx]
 have e:(sm L.m λ i=>(if s i<L.n then L.T s i y*L.a (s i) r else 0)+(if s i<L.n then 0 else L.T s i y*e1 (s i - L.n) r))=sm L.m λ i=>L.T s i y*L.B s i r:=eP λ i hi=>by
  have eb:L.B s i=L.cv (s i):=by unfold B;rw [if_pos hi]
  rw [eb]
  unfold cv
  by_cases q:s i<L.n
  ·rw [if_pos q,if_pos q,if_pos q,Int.add_zero]
  ·rw [if_neg q,if_neg q,if_neg q,Int.zero_add]
 rw [e]
 have eb:L.B s L.m=e1 L.m:=by unfold B;rw [if_neg (Nat.lt_irrefl _)]
 rw [eb]
 unfold e1
 by_cases q:r=L.m
 ·rw [if_pos q,if_pos q,Int.mul_one]
 ·rw [if_neg q,if_neg q,Int.mul_zero]
theorem Ok.bound_nonneg {s:Nat->Nat} (o:L.Ok s) {i:Nat} (hi:i<L.m):0<=L.T s i L.be:=o.bn i hi
theorem spr_nonneg {m:Nat} {s:Nat->Nat} {t:Nat->Int} (h:∀ i,i<m->0<=t i) (j:Nat):0<=spr m s t j:=Cd λ i hi=>by
 split
 ·exact h i hi
 ·exact Int.le_refl _
theorem Ok.allowed {s:Nat->Nat} (o:L.Ok s) (hs:∀ i,i<L.m->s i<L.n+L.m) {r:Nat} (hr:r<L.m):(sm L.n λ j=>spr L.m s (λ i=>L.T s i L.be) j*L.a j r)<=L.D s*L.be r:=by
 have h:=o.by_cols hs L.be (r:=r) (by omega)
 rw [if_neg (by omega)] at h
 have:0<=sm L.m λ i=>if s i<L.n then 0 else L.T s i L.be*e1 (s i - L.n) r:=Cd λ i hi=>by
  split
  ·exact Int.le_refl _
  ·refine Int.mul_nonneg (o.bound_nonneg hi) ?_
   unfold e1;split <;> decide
 omega
theorem Ok.no_spare {s:Nat->Nat} (hs:∀ i,i<L.m->s i<L.n+L.m) (y:Nat->Int):(sm L.m λ i=>if s i<L.n then 0 else L.T s i y*e1 (s i - L.n) L.m)=0:=hJ λ i hi=>by
 split
 ·rfl
 ·have:=hs i hi
  unfold e1
  rw [if_neg (by omega),Int.mul_zero]
theorem Ok.earned {s:Nat->Nat} (o:L.Ok s) (hs:∀ i,i<L.m->s i<L.n+L.m) (hb:L.be L.m=0):(sm L.n λ j=>spr L.m s (λ i=>L.T s i L.be) j*L.a j L.m) = - L.T s L.m L.be:=by
 have h:=o.by_cols hs L.be (r:=L.m) (by omega)
 rw [if_pos rfl,Ok.no_spare hs,hb,Int.mul_zero] at h
 omega
theorem goal_of {s:Nat->Nat} (y:Nat->Int):L.T s L.m y=(sm L.m λ k=>y k*L.T s L.m (e1 k))+y L.m*L.D s:=by
 rw [L.T_lin (by omega) y]
 show sm L.m _+y L.m*L.T s L.m (e1 L.m)=_
 rw [L.last_own]
theorem Ok.ways_row {s:Nat->Nat} (o:L.Ok s) (hs:∀ i,i<L.m->s i<L.n+L.m) {c r:Nat} (hneg:∀ i,i<L.m->L.T s i (L.cv c)<=0) (hr:r<L.m):(sm L.n λ j=>(spr L.m s (λ i=>- L.T s i (L.cv c)) j+if j=c then L.D s else 0)*L.a j r)<=0:=by
 have h:=o.by_cols hs (L.cv c) (r:=r) (by omega)
 rw [if_neg (by omega)] at h
 have hsp:(sm L.m λ i=>if s i<L.n then 0 else L.T s i (L.cv c)*e1 (s i - L.n) r)<=0:=by
  have:=Cd (n:=L.m) (f:=λ i=>- (if s i<L.n then 0 else L.T s i (L.cv c)*e1 (s i - L.n) r)) λ i hi=>by
   split
   ·decide
   ·have h1:=hneg i hi
    unfold e1
    split <;> omega
  have e:(sm L.m λ i=>- (if s i<L.n then 0 else L.T s i (L.cv c)*e1 (s i - L.n) r)) = - sm L.m λ i=>if s i<L.n then 0 else L.T s i (L.cv c)*e1 (s i - L.n) r:=by
   have:=sm_mul (-1) L.m (λ i=>if s i<L.n then 0 else L.T s i (L.cv c)*e1 (s i - L.n) r)
   rw [← Int.neg_one_mul,← this]
   exact eP λ i _=>by rw [Int.neg_one_mul]
  omega
 have e1':(sm L.n λ j=>(spr L.m s (λ i=>- L.T s i (L.cv c)) j+if j=c then L.D s else 0)*L.a j r) = - (sm L.n λ j=>spr L.m s (λ i=>L.T s i (L.cv c)) j*L.a j r)+(if c<L.n then L.D s*L.a c r else 0):=by
  have e2:(sm L.n λ j=>(spr L.m s (λ i=>- L.T s i (L.cv c)) j+if j=c then L.D s else 0)*L.a j r)=sm L.n λ j=>(-1)*(spr L.m s (λ i=>L.T s i (L.cv c)) j*L.a j r)+(if j=c then L.D s*L.a j r else 0):=eP λ j _=>by
   have:spr L.m s (λ i=>- L.T s i (L.cv c)) j = - spr L.m s (λ i=>L.T s i (L.cv c)) j:=by
    unfold spr
    rw [← Int.neg_one_mul,← sm_mul]
    exact eP λ i _=>by
     by_cases z:s i=j
     ·rw [if_pos z,if_pos z];exact (Int.neg_one_mul _).symm
     ·rw [if_neg z,if_neg z];rfl
   rw [this]
   split <;> grind
  rw [e2,Kx,sm_mul]
  by_cases q:c<L.n
  ·rw [if_pos q,mK (p:=c) q (λ k _ hk=>if_neg hk),if_pos rfl];omega
  ·rw [if_neg q,hJ (λ k hk=>if_neg (by omega))];omega
 rw [e1']
 unfold cv at h
 by_cases q:c<L.n
 ·rw [if_pos q]
  simp only [if_pos q] at h
  unfold cv at hsp ⊢
  simp only [if_pos q] at hsp ⊢
  omega
 ·rw [if_neg q]
  simp only [if_neg q] at h
  unfold cv at hsp ⊢
  simp only [if_neg q] at hsp ⊢
  have:0<=L.D s*e1 (c - L.n) r:=by
   refine Int.mul_nonneg (Int.le_of_lt o.pos) ?_
   unfold e1;split <;> decide
  omega
theorem Ok.ways_goal {s:Nat->Nat} (o:L.Ok s) (hs:∀ i,i<L.m->s i<L.n+L.m) {c:Nat} (hc:c<L.n+L.m):(sm L.n λ j=>(spr L.m s (λ i=>- L.T s i (L.cv c)) j+if j=c then L.D s else 0)*L.a j L.m)=L.T s L.m (L.cv c):=by
 have h:=o.by_cols hs (L.cv c) (r:=L.m) (by omega)
 rw [if_pos rfl,Ok.no_spare hs] at h
 have e2:(sm L.n λ j=>(spr L.m s (λ i=>- L.T s i (L.cv c)) j+if j=c then L.D s else 0)*L.a j L.m)=sm L.n λ j=>(-1)*(spr L.m s (λ i=>L.T s i (L.cv c)) j*L.a j L.m)+(if j=c then L.D s*L.a j L.m else 0):=eP λ j _=>by
  have:spr L.m s (λ i=>- L.T s i (L.cv c)) j = - spr L.m s (λ i=>L.T s i (L.cv c)) j:=by
   unfold spr
   rw [← Int.neg_one_mul,← sm_mul]
   exact eP λ i _=>by
    by_cases z:s i=j
    ·rw [if_pos z,if_pos z];exact (Int.neg_one_mul _).symm
    ·rw [if_neg z,if_neg z];rfl
  rw [this]
  split <;> grind
 rw [e2,Kx,sm_mul]
 by_cases q:c<L.n
 ·rw [mK (p:=c) q (λ k _ hk=>if_neg hk),if_pos rfl]
  have e:L.cv c L.m=L.a c L.m:=by unfold cv;rw [if_pos q]
  rw [e] at h
  omega
 ·rw [hJ (λ k hk=>if_neg (by omega))]
  have e:L.cv c L.m=0:=by unfold cv;rw [if_neg q];unfold e1;rw [if_neg (by omega)]
  rw [e,Int.mul_zero] at h
  omega
noncomputable def ins0 (L:Lpd):Nat->Nat:=λ i=>L.n+i
theorem B_start:∀ i,L.B L.ins0 i=Im i:=λ i=>by
 unfold B ins0 cv
 by_cases h:i<L.m
 ·rw [if_pos h,if_neg (by omega)]
  show e1 (L.n+i - L.n)=e1 i
  rw [show L.n+i - L.n=i by omega]
 ·rw [if_neg h];rfl
theorem Aa:L.B L.ins0=Im:=funext B_start
theorem Vc (h:L.fl=false):L.D L.ins0=1:=by unfold D;rw [Aa,Eu];unfold sg;rw [h];rfl
theorem T_start (h:L.fl=false) {i:Nat} (hi:i<L.m+1) (y:Nat->Int):L.T L.ins0 i y=y i:=by
 unfold T;rw [Aa,Yp hi];unfold sg;rw [h];exact Int.one_mul _
theorem Okn.start (h:L.fl=false):L.Okn L.ins0:=⟨by rw [Vc h];decide,by rw [Aa];exact Yr⟩
theorem Okx.start (hf:L.fl=false) (hb:∀ i,i<L.m->0<=L.be i):L.Okx L.ins0:=by
 refine ⟨?_,?_,λ i hi=>?_⟩
 ·rw [Vc hf];decide
 ·rw [Aa];exact Yr
 ·have e:∀ y,L.T L.ins0 i y=y i:=λ y=>T_start hf (by omega) y
  have one:∀ l:List Nat,i+1∈l->(∀ p∈l,p=0->0<=L.be i)->lp (λ p=>L.T L.ins0 i (L.li p)) l:=λ l=>by
   induction l with
   | nil=>intro h;cases h
   | cons p r ih =>
    intro h1 h2
    show 0<L.T L.ins0 i (L.li p)∨(L.T L.ins0 i (L.li p)=0/\_)
    rw [e]
    by_cases hp:p=0
    ·have eb:L.li p=L.be:=by unfold li;rw [if_pos hp]
     rw [eb]
     have hb0:=hb i hi
     by_cases hz:L.be i=0
     ·exact .inr ⟨hz,ih (by rcases List.mem_cons.mp h1 with q | q;omega;exact q) λ p hp=>h2 p (mem_cons_of_mem _ hp)⟩
     ·left;omega
    ·have eb:L.li p=e1 (p - 1):=by unfold li;rw [if_neg hp]
     rw [eb]
     unfold e1
     by_cases q:i=p - 1
     ·rw [if_pos q];left;decide
     ·rw [if_neg q]
      exact .inr ⟨rfl,ih (by rcases List.mem_cons.mp h1 with q' | q';omega;exact q') λ p hp=>h2 p (mem_cons_of_mem _ hp)⟩
  unfold ls
  exact one _ (List.mem_range.mpr (by omega)) λ _ _ _=>hb i hi
noncomputable def flip (L:Lpd):Lpd:={ L with fl:=!L.fl }
theorem Ut:L.flip.sg = - L.sg:=by
 unfold sg flip
 cases L.fl <;> rfl
theorem Fl {s:Nat->Nat} {i:Nat} {y:Nat->Int}:L.flip.T s i y = - L.T s i y:=by
 show L.flip.sg*_=_
 rw [Ut,Int.neg_mul];rfl
theorem flip_D {s:Nat->Nat}:L.flip.D s = - L.D s:=by
 show L.flip.sg*_=_
 rw [Ut,Int.neg_mul];rfl
theorem jJe {s:Nat->Nat} (o:L.Okn s):L.flip.Okn s:=⟨by rw [flip_D];have:=o.ne;omega,o.cr⟩
end Lpd
noncomputable def ofF {α:Type} (n:Nat) (f:Nat->α):List α:=(List.range n).map f
theorem aJ {α:Type} (n:Nat) (f:Nat->α):(ofF n f).length=n:=by unfold ofF;rw [length_map,List.length_range]
theorem cF {α:Type} {n k:Nat} (f:Nat->α) (h:k<n):(ofF n f)[k]?=some (f k):=by unfold ofF;rw [getElem?_map,List.getElem?_range h];rfl
theorem dB {α:Type} {n k:Nat} {f:Nat->α} {x:α} (h:(ofF n f)[k]?=some x):k<n/\x=f k:=by
 have hk:k<n:=by have:=(List.getElem?_eq_some_iff.mp h).1;rwa [aJ] at this
 rw [cF f hk] at h
 exact ⟨hk,(Option.some.inj h).symm⟩
theorem cI {α:Type} (n:Nat) (f:Nat->α):ofF (n+1) f=ofF n f++[f n]:=by unfold ofF;rw [List.range_succ,map_append];rfl
theorem gG {α:Type} {n:Nat} {f:Nat->α} {x:α} (h:x∈ofF n f):∃ k,k<n/\x=f k:=by
 obtain ⟨k,hk,e⟩:=mem_map.mp h
 exact ⟨k,List.mem_range.mp hk,e.symm⟩
theorem fN {α:Type} {n:Nat} {f g:Nat->α} (h:∀ k,k<n->f k=g k):ofF n f=ofF n g:=map_congr_left λ k hk=>h k (List.mem_range.mp hk)
theorem zK (n:Nat) (f:Nat->Int):(ofF n f).sum=sm n f:=by
 induction n with
 | zero=>rfl
 | succ n ih=>rw [cI,List.sum_append,ih];show sm n f+(f n+0)=sm n f+f n;rw [Int.add_zero]
theorem ofF_set {n i:Nat} {f:Nat->Int} {v:Int}:(ofF n f).set i v=ofF n λ k=>if k=i then v else f k:=by
 apply List.ext_getElem?
 intro k
 rw [getElem?_set]
 by_cases hk:k<n
 ·rw [cF (λ k=>if k=i then v else f k) hk]
  by_cases e:i=k
  ·rw [if_pos e,if_pos (by rw [aJ];omega),if_pos e.symm]
  ·rw [if_neg e,if_neg (Ne.symm e),cF _ hk]
 ·rw [getElem?_eq_none (l:=ofF n λ k=>if k=i then v else f k) (by rw [aJ];omega)]
  by_cases e:i=k
  ·rw [if_pos e,if_neg (by rw [aJ];omega)]
  ·rw [if_neg e,getElem?_eq_none (by rw [aJ];omega)]
theorem eU {l:List Int} {i:Nat} {x:Int} (h:l[i]?=some x):l.getD i 0=x:=by rw [getD_eq_getElem?_getD,h];rfl
theorem Kv:∀ {l:List Int} {p:Nat},(∀ x∈l,BB p x)->BB (p+l.length) l.sum
 | [],p,_=>by show (0:Int).natAbs<_;exact Nat.two_pow_pos _
 | a::r,p,h=>by
  have i:=Kv (l:=r) (p:=p) λ x hx=>h x (mem_cons_of_mem _ hx)
  have ha:=(h a mem_cons_self).mono (show p<=p+r.length by omega)
  rw [List.sum_cons,List.length_cons]
  exact (ha.add i).mono (by omega)
namespace Lpd
noncomputable def colL (L:Lpd) (j:Nat):List Int:=ofF (L.m+1) (L.a j)
noncomputable def keptL (L:Lpd) (s:Nat->Nat) (i:Nat):List Int:=ofF (L.m+1) (λ k=>L.T s i (e1 k))++[L.T s i L.be]
noncomputable def numL (L:Lpd) (s:Nat->Nat) (c:Nat):List Int:=ofF (L.m+1) λ i=>L.T s i (L.cv c)
noncomputable def insL (L:Lpd) (s:Nat->Nat):List Int:=ofF L.m λ i=>(s i:Int)
structure Lim (L:Lpd):Prop where
 m1:L.m<=100
 n1:L.n<=100
 ba:∀ j k,j<L.n->k<=L.m->BB 20000 (L.a j k)
 bc:∀ s i c,L.Okn s->i<=L.m->BB 20000 (L.T s i (L.cv c))
 bk:∀ s i k,L.Okn s->i<=L.m->k<=L.m->BB 20000 (L.T s i (e1 k))
 bb:∀ s i,L.Okn s->i<=L.m->BB 20000 (L.T s i L.be)
 bD:∀ s,L.Okn s->BB 9000 (L.D s)
theorem keptL_length (L:Lpd) (s:Nat->Nat) (i:Nat):(L.keptL s i).length=L.m+2:=by unfold keptL;rw [length_append,aJ];rfl
theorem keptL_get (L:Lpd) (s:Nat->Nat) (i:Nat) {k:Nat} (h:k<=L.m):(L.keptL s i)[k]?=some (L.T s i (e1 k)):=by
 unfold keptL;rw [getElem?_append_left (by rw [aJ];omega),cF _ (by omega)]
theorem keptL_last (L:Lpd) (s:Nat->Nat) (i:Nat):(L.keptL s i)[L.m+1]?=some (L.T s i L.be):=by
 unfold keptL;rw [getElem?_append_right (by rw [aJ];omega),aJ,Nat.sub_self];rfl
theorem Lim.kept {L:Lpd} (h:L.Lim) {s:Nat->Nat} (o:L.Okn s) {i:Nat} (hi:i<=L.m):∀ x∈L.keptL s i,BB 20000 x:=λ x hx=>by
 unfold keptL at hx
 rcases mem_append.mp hx with hx | hx
 ·obtain ⟨k,hk,rfl⟩:=gG hx
  exact h.bk s i k o hi (by omega)
 ·rw [mem_singleton.mp hx];exact h.bb s i o hi
theorem T_prod (L:Lpd) (s:Nat->Nat) {i j:Nat} (hi:i<=L.m) (hj:j<L.n):(sm (L.m+1) λ k=>L.a j k*L.T s i (e1 k))=L.T s i (L.cv j):=by
 have e:L.cv j=L.a j:=by unfold cv;rw [if_pos hj]
 rw [e]
 exact (L.T_lin (by omega) _).symm
theorem cv_spare (L:Lpd) (k:Nat):L.cv (L.n+k)=e1 k:=by
 unfold cv;rw [if_neg (by omega),show L.n+k - L.n=k by omega]
theorem Okn.inj {L:Lpd} {s:Nat->Nat} (o:L.Okn s) {i j:Nat} (hi:i<L.m) (hj:j<L.m) (h:i≠j):s i≠s j:=λ e=>by
 have h1:=L.own (s:=s) hi
 have h2:L.T s i (L.cv (s j))=0:=L.other (by omega) hj h
 rw [← e,h1] at h2
 exact o.ne h2
theorem Ok.inj {L:Lpd} {s:Nat->Nat} (o:L.Ok s) {i j:Nat} (hi:i<L.m) (hj:j<L.m) (h:i≠j):s i≠s j:=o.n.inj hi hj h
theorem lx_lp {L:Lpd} {s:Nat->Nat} {c r i:Nat} {x y:List Int} (hx:∀ k,k<=L.m->x.getD k 0=L.T s r (e1 k)) (hx1:x.getD (L.m+1) 0=L.T s r L.be) (hx2:x.getD (L.m+2) 0=L.T s r (L.cv c))
  (hy:∀ k,k<=L.m->y.getD k 0=L.T s i (e1 k)) (hy1:y.getD (L.m+1) 0=L.T s i L.be) (hy2:y.getD (L.m+2) 0=L.T s i (L.cv c))
  (h:lx x y (L.m+2) ((L.m+1)::List.range L.m)≠some false):¬ lp (λ p=>- (L.T s i (L.li p)*L.T s r (L.cv c) - L.T s r (L.li p)*L.T s i (L.cv c))) L.ls:=by
 have key:∀ l:List Nat,(∀ p∈l,p<=L.m)->∀ l':List Nat,l'=l.map (λ p=>if p=0 then L.m+1 else p - 1)->lp (λ p=>- (L.T s i (L.li p)*L.T s r (L.cv c) - L.T s r (L.li p)*L.T s i (L.cv c))) l->lx x y (L.m+2) l'=some false:=by
  intro l
  induction l with
  | nil=>intro _ l' _ h;exact h.elim
  | cons p t ih =>
   rintro hl l' rfl hp
   have it:=ih (λ q hq=>hl q (mem_cons_of_mem _ hq)) _ rfl
   have hpm:=hl p mem_cons_self
   have ex:x.getD (if p=0 then L.m+1 else p - 1) 0=L.T s r (L.li p):=by
    unfold li
    by_cases e:p=0
    ·rw [if_pos e,if_pos e,hx1]
    ·rw [if_neg e,if_neg e,hx _ (by omega)]
   have ey:y.getD (if p=0 then L.m+1 else p - 1) 0=L.T s i (L.li p):=by
    unfold li
    by_cases e:p=0
    ·rw [if_pos e,if_pos e,hy1]
    ·rw [if_neg e,if_neg e,hy _ (by omega)]
   rw [List.map_cons]
   unfold lx
   rw [ex,ey,hx2,hy2]
   rcases hp with hp | ⟨hp,hp2⟩
   ·have hp:0 < - (L.T s i (L.li p)*L.T s r (L.cv c) - L.T s r (L.li p)*L.T s i (L.cv c)):=hp
    rw [if_neg (by omega),decide_eq_false (by omega)]
   ·have hp:- (L.T s i (L.li p)*L.T s r (L.cv c) - L.T s r (L.li p)*L.T s i (L.cv c))=0:=hp
    rw [if_pos (by omega)]
    exact it hp2
 intro z
 refine h (key L.ls (λ p hp=>?_) _ ?_ z)
 ·have:=List.mem_range.mp hp;omega
 ·unfold ls
  rw [List.range_succ_eq_map,List.map_cons,List.map_map]
  show _=(L.m+1)::_
  congr 1
  conv=>lhs;rw [← List.map_id (List.range L.m)]
  exact map_congr_left λ k _=>by show k=if Nat.succ k=0 then L.m+1 else Nat.succ k - 1;rw [if_neg (by omega)];rfl
end Lpd
noncomputable def Ro (row:List Int) (w:Nat):Prop:=row.length=w/\∀ m∈row,BB 20000 m
noncomputable def mn (t i:Addr) (H:Hp):Hp:=λ x=>if x=t∨x=i then none else H x
theorem iZ {t i:Addr} {H:Hp}:aI (mn t i H) H:=λ b o e=>by
 unfold mn at e
 split at e
 ·cases e
 ·exact e
theorem eS {t i:Addr} {H H':Hp} (s:aI H H'):aI (mn t i H) (mn t i H'):=λ b o e=>by
 unfold mn at e ⊢
 split at e
 ·cases e
 ·rename_i h;rw [if_neg h];exact s b o e
theorem uB {t i x:Addr} {H:Hp} {o:HO} (h:H x=some o) (h1:x≠t) (h2:x≠i):mn t i H x=some o:=by
 unfold mn;rw [if_neg (λ z=>z.elim h1 h2)];exact h
theorem lP {t i x:Addr} {H:Hp} {o:HO} (h:x=t∨x=i):mn t i (upd H x o)=mn t i H:=by
 funext b
 unfold mn
 by_cases hb:b=t∨b=i
 ·rw [if_pos hb,if_pos hb]
 ·rw [if_neg hb,if_neg hb,cA (λ e=>hb (by rw [e];exact h))]
theorem bJ.mn {t i:Addr} {H:Hp}:∀ {ps:List Addr} {rs:List (List Int)},t∉ps->i∉ps->bJ H ps rs->bJ (mn t i H) ps rs
 | [],[],_,_,_=>trivial
 | p::ps,r::rs,h1,h2,h=>⟨uB h.1 (λ e=>h1 (by rw [e];exact mem_cons_self)) (λ e=>h2 (by rw [e];exact mem_cons_self)),bJ.mn (λ z=>h1 (mem_cons_of_mem _ z)) (λ z=>h2 (mem_cons_of_mem _ z)) h.2⟩
 | [],_::_,_,_,h=>h.elim
 | _::_,[],_,_,h=>h.elim
noncomputable def cfl (b sp k i:Addr):List (Str×V):=fJ "inside" (.ref i) (fJ "kept" (.ref k) (fJ "spans" (.ref sp) (fJ "begun" (.ref b) [])))
theorem kK (b sp k i:Addr):(cfl b sp k i).lookup ("begun" : Str)=some (.ref b):=rfl
theorem wQ (b sp k i:Addr):(cfl b sp k i).lookup ("spans" : Str)=some (.ref sp):=rfl
theorem gM (b sp k i:Addr):(cfl b sp k i).lookup ("kept" : Str)=some (.ref k):=rfl
theorem mD (b sp k i:Addr):(cfl b sp k i).lookup ("inside" : Str)=some (.ref i):=rfl
theorem Uz (b sp k i k':Addr):fJ "kept" (.ref k') (cfl b sp k i)=cfl b sp k' i:=rfl
structure lM (K:W.Frag) (H:Hp) (t ins:Addr) (L:Lpd) (s:Nat->Nat) (dx b sp k:Addr) (bs:List Addr) (ss:List Int) (ks:List Addr):Prop where
 ob:H t=some (.ins (cY K "Corner") dx (cfl b sp k ins))
 hb:mn t ins H b=some (.lst (List.map V.ref bs))
 hbs:bJ (mn t ins H) bs (ofF L.n L.colL)
 hs:mn t ins H sp=some (.lst (List.map V.int ss))
 sl:ss.length=L.n+L.m
 sb:∀ x∈ss,BB 30000 x
 hk:mn t ins H k=some (.lst (List.map V.ref ks))
 hks:bJ (mn t ins H) ks (ofF (L.m+1) (L.keptL s))
 hi:H ins=some (.lst (List.map V.int (L.insL s)))
noncomputable def eZ (K:W.Frag) (H:Hp) (t ins:Addr) (L:Lpd) (s:Nat->Nat):Prop:=∃ dx b sp k bs ss ks,lM K H t ins L s dx b sp k bs ss ks
section
variable {K:W.Frag} {H H':Hp} {t ins:Addr} {L:Lpd} {s:Nat->Nat} {dx b sp k:Addr} {bs:List Addr} {ss:List Int} {ks:List Addr}
theorem lM.same (h:lM K H t ins L s dx b sp k bs ss ks) (e:aI H H'):lM K H' t ins L s dx b sp k bs ss ks :=
 ⟨e _ _ h.ob,eS e _ _ h.hb,h.hbs.same (eS e),eS e _ _ h.hs,h.sl,h.sb,eS e _ _ h.hk,h.hks.same (eS e),e _ _ h.hi⟩
theorem eZ.same (h:eZ K H t ins L s) (e:aI H H'):eZ K H' t ins L s:=let ⟨dx,b,sp,k,bs,ss,ks,c⟩:=h;⟨dx,b,sp,k,bs,ss,ks,c.same e⟩
theorem lM.B (h:lM K H t ins L s dx b sp k bs ss ks):H b=some (.lst (List.map V.ref bs)):=iZ _ _ h.hb
theorem lM.Bs (h:lM K H t ins L s dx b sp k bs ss ks):bJ H bs (ofF L.n L.colL):=h.hbs.same iZ
theorem lM.S (h:lM K H t ins L s dx b sp k bs ss ks):H sp=some (.lst (List.map V.int ss)):=iZ _ _ h.hs
theorem lM.Kp (h:lM K H t ins L s dx b sp k bs ss ks):H k=some (.lst (List.map V.ref ks)):=iZ _ _ h.hk
theorem lM.Ks (h:lM K H t ins L s dx b sp k bs ss ks):bJ H ks (ofF (L.m+1) (L.keptL s)):=h.hks.same iZ
theorem lM.bl (h:lM K H t ins L s dx b sp k bs ss ks):bs.length=L.n:=by rw [h.hbs.length,aJ]
theorem lM.kl (h:lM K H t ins L s dx b sp k bs ss ks):ks.length=L.m+1:=by rw [h.hks.length,aJ]
theorem lM.row (h:lM K H t ins L s dx b sp k bs ss ks) {i:Nat} (hi:i<=L.m):∃ p,ks[i]?=some p/\atI (List.map V.ref ks) (i:Int)=some (.ref p)/\H p=some (.lst (List.map V.int (L.keptL s i))):=by
 have hl:=h.kl
 obtain ⟨p,hp⟩:∃ p,ks[i]?=some p:=⟨_,getElem?_eq_getElem (by omega)⟩
 obtain ⟨r,e1,e2⟩:=h.Ks.get hp
 obtain ⟨_,rfl⟩:=dB e1
 exact ⟨p,hp,fI (by rw [getElem?_map,hp];rfl),e2⟩
theorem lM.last (h:lM K H t ins L s dx b sp k bs ss ks):∃ p,ks[L.m]?=some p/\atI (List.map V.ref ks) (-1)=some (.ref p)/\H p=some (.lst (List.map V.int (L.keptL s L.m))):=by
 have hl:=h.kl
 obtain ⟨p,hp,_,e⟩:=h.row (Nat.le_refl L.m)
 exact ⟨p,hp,uS (by rw [length_map,hl,getElem?_map,show L.m+1 - 1=L.m by omega,hp];rfl),e⟩
theorem lM.col (h:lM K H t ins L s dx b sp k bs ss ks) {j:Nat} (hj:j<L.n):∃ p,bs[j]?=some p/\atI (List.map V.ref bs) (j:Int)=some (.ref p)/\H p=some (.lst (List.map V.int (L.colL j))):=by
 have hl:=h.bl
 obtain ⟨p,hp⟩:∃ p,bs[j]?=some p:=⟨_,getElem?_eq_getElem (by omega)⟩
 obtain ⟨r,e1,e2⟩:=h.Bs.get hp
 obtain ⟨_,rfl⟩:=dB e1
 exact ⟨p,hp,fI (by rw [getElem?_map,hp];rfl),e2⟩
end
noncomputable def yY (K:W.Frag) (H:Hp) (t ins:Addr) (L:Lpd) (s:Nat->Nat) (f:Addr):Prop:=∃ dx b sp k bs ss ks,lM K H t ins L s dx b sp k bs ss ks/\f≠b/\f≠sp/\f≠k/\f∉bs/\f∉ks
section
variable {K:W.Frag} {H H':Hp} {t ins f:Addr} {L:Lpd} {s:Nat->Nat} {dx b sp k:Addr} {bs:List Addr} {ss:List Int} {ks:List Addr}
theorem yY.at (h:yY K H t ins L s f):eZ K H t ins L s:=let ⟨dx,b,sp,k,bs,ss,ks,c,_⟩:=h;⟨dx,b,sp,k,bs,ss,ks,c⟩
theorem yY.same (h:yY K H t ins L s f) (e:aI H H'):yY K H' t ins L s f:=let ⟨dx,b,sp,k,bs,ss,ks,c,r⟩:=h;⟨dx,b,sp,k,bs,ss,ks,c.same e,r⟩
theorem Dv {xs ys:List Addr} (h:List.map V.ref xs=List.map V.ref ys):xs=ys:=(List.map_inj_right (λ a b h=>by injection h)).mp h
theorem yY.of (h:yY K H t ins L s f) (P:lM K H t ins L s dx b sp k bs ss ks):f≠b/\f≠sp/\f≠k/\f∉bs/\f∉ks:=by
 obtain ⟨dx',b',sp',k',bs',ss',ks',P',r⟩:=h
 have e:=Option.some.inj (P'.ob.symm.trans P.ob)
 injection e with _ _ e
 have e1:b'=b:=by have:=congrArg (List.lookup ("begun" : Str)) e;rw [kK,kK] at this;injection this with this;injection this
 have e2:sp'=sp:=by have:=congrArg (List.lookup ("spans" : Str)) e;rw [wQ,wQ] at this;injection this with this;injection this
 have e3:k'=k:=by have:=congrArg (List.lookup ("kept" : Str)) e;rw [gM,gM] at this;injection this with this;injection this
 subst e1 e2 e3
 have e4:bs'=bs:=by have:=Option.some.inj (P'.hb.symm.trans P.hb);injection this with this;exact Dv this
 have e5:ks'=ks:=by have:=Option.some.inj (P'.hk.symm.trans P.hk);injection this with this;exact Dv this
 subst e4 e5
 exact r
theorem eZ.fresh (h:eZ K H t ins L s) (hf:H f=none):yY K H t ins L s f:=by
 obtain ⟨dx,b,sp,k,bs,ss,ks,P⟩:=h
 have no:∀ {a:Addr} {o:HO},H a=some o->f≠a:=λ e z=>by rw [← z,hf] at e;cases e
 refine ⟨dx,b,sp,k,bs,ss,ks,P,no P.B,no P.S,no P.Kp,λ hm=>?_,λ hm=>?_⟩
 ·obtain ⟨_,_,e⟩:=P.Bs.has hm;rw [hf] at e;cases e
 ·obtain ⟨_,_,e⟩:=P.Ks.has hm;rw [hf] at e;cases e
theorem wD {x:Addr} {o:HO} (h1:x≠t) (h2:x≠ins):mn t ins (upd H x o)=upd (mn t ins H) x o:=by
 funext y
 unfold mn
 by_cases e:y=x
 ·rw [e,if_neg (λ z=>z.elim h1 h2),aG,aG]
 ·rw [cA e,cA e]
theorem yY.upd (h:yY K H t ins L s f) (h1:f≠t) (h2:f≠ins) {o:HO}:yY K (L2.upd H f o) t ins L s f:=by
 obtain ⟨dx,b,sp,k,bs,ss,ks,P,n1,n2,n3,n4,n5⟩:=h
 refine ⟨dx,b,sp,k,bs,ss,ks,⟨?_,?_,?_,?_,P.sl,P.sb,?_,?_,?_⟩,n1,n2,n3,n4,n5⟩
 ·rw [cA h1.symm];exact P.ob
 ·rw [wD h1 h2,cA n1.symm];exact P.hb
 ·rw [wD h1 h2];exact P.hbs.put n4
 ·rw [wD h1 h2,cA n2.symm];exact P.hs
 ·rw [wD h1 h2,cA n3.symm];exact P.hk
 ·rw [wD h1 h2];exact P.hks.put n5
 ·rw [cA h2.symm];exact P.hi
end
noncomputable def lo2 (t b:Int):Int×Int:=(t.fdiv (Int.gcd t b:Nat),b.fdiv (Int.gcd t b:Nat))
theorem cG {t b:Int} (hb:0<b):Lo t b (lo2 t b).1 (lo2 t b).2:=Qy hb
theorem Lo.uniq {t b x y x' y':Int} (hb:0<b) (h:Lo t b x y) (h':Lo t b x' y'):x=x'/\y=y':=by
 have e:x*y'=x'*y:=by
  apply Int.eq_of_mul_eq_mul_left (show b≠0 by omega)
  have h1:=h.eq
  have h2:=h'.eq
  have:b*(x*y')=(x*b)*y':=by ac_rfl
  rw [this,h1]
  have:b*(x'*y)=(x'*b)*y:=by ac_rfl
  rw [this,h2];ac_rfl
 have d1:y∣y':=by
  have:y∣x*y':=⟨x',by rw [e,Int.mul_comm]⟩
  exact Int.natAbs_dvd_natAbs.mp (Nat.Coprime.dvd_of_dvd_mul_left (m:=x.natAbs) (Nat.Coprime.symm h.cop) (by rw [← Int.natAbs_mul];exact Int.natAbs_dvd_natAbs.mpr this))
 have d2:y'∣y:=by
  have:y'∣x'*y:=⟨x,by rw [← e,Int.mul_comm]⟩
  exact Int.natAbs_dvd_natAbs.mp (Nat.Coprime.dvd_of_dvd_mul_left (m:=x'.natAbs) (Nat.Coprime.symm h'.cop) (by rw [← Int.natAbs_mul];exact Int.natAbs_dvd_natAbs.mpr this))
 have l1:=Int.le_of_dvd h'.pos d1
 have l2:=Int.le_of_dvd h.pos d2
 have ey:y=y':=by omega
 subst ey
 exact ⟨Int.eq_of_mul_eq_mul_right (Int.ne_of_gt h.pos) e,rfl⟩
theorem Lo.is {t b x y:Int} (hb:0<b) (h:Lo t b x y):(x,y)=lo2 t b:=by
 obtain ⟨e1,e2⟩:=h.uniq hb (cG hb)
 rw [e1,e2]
theorem Lo.bb {t b x y:Int} {m n:Nat} (h:Lo t b x y) (ht:BB m t) (hb:BB n b):BB m x/\BB n y:=⟨ht.of_le h.bx,hb.of_le h.by_⟩
noncomputable def mx1 (g:Int):Int:=if 1 > g then 1 else g
theorem sB (g:Int):0<mx1 g:=by unfold mx1;split <;> omega
noncomputable def whF (fs:List (Int×Int)):Int×Int:=lo2 (lc fs) (mx1 (gl (clr fs)))
noncomputable def whL (fs:List (Int×Int)):List Int:=rV (clr fs)
theorem gA (fs:List (Int×Int)):(whL fs).length=fs.length:=by unfold whL clr;rw [xH,length_map]
theorem fG {fs:List (Int×Int)} (h:∀ f∈fs,0<f.2):0<(whF fs).1/\0<(whF fs).2:=by
 have l:=cG (t:=lc fs) (sB (gl (clr fs)))
 refine ⟨?_,l.pos⟩
 have e:=l.eq
 have h1:=Fk h
 have h2:0<lc fs*(lo2 (lc fs) (mx1 (gl (clr fs)))).2:=Int.mul_pos h1 l.pos
 rw [← e] at h2
 exact Classical.byContradiction λ z=>by
  have:=Int.mul_nonpos_of_nonpos_of_nonneg (a:=(lo2 (lc fs) (mx1 (gl (clr fs)))).1) (b:=mx1 (gl (clr fs))) (by unfold whF at z;omega) (Int.le_of_lt (sB _))
  omega
theorem Ku {fs:List (Int×Int)} (h:∀ f∈fs,0<f.2) {i:Nat} {f:Int×Int} (hf:fs[i]?=some f):(whL fs).getD i 0*(f.2*(whF fs).2)=f.1*(whF fs).1:=by
 obtain ⟨t,e1,e2⟩:=Gz (Uy hf)
 have e3:(whL fs).getD i 0=t:=eU e1
 rw [e3]
 have e2:t*mx1 (gl (clr fs))=f.1*((lc fs).fdiv f.2):=e2
 have l:=(cG (t:=lc fs) (sB (gl (clr fs)))).eq
 have c:=Rb h (mem_of_getElem? hf)
 have g0:=sB (gl (clr fs))
 show t*(f.2*(lo2 (lc fs) (mx1 (gl (clr fs)))).2)=f.1*(lo2 (lc fs) (mx1 (gl (clr fs)))).1
 generalize (lo2 (lc fs) (mx1 (gl (clr fs)))).1=X at *
 generalize (lo2 (lc fs) (mx1 (gl (clr fs)))).2=Y at *
 generalize mx1 (gl (clr fs))=g at *
 generalize (lc fs).fdiv f.2=q at *
 apply Int.eq_of_mul_eq_mul_left (show g≠0 by omega)
 have a1:g*(t*(f.2*Y))=(t*g)*f.2*Y:=by ac_rfl
 have a2:g*(f.1*X)=f.1*(X*g):=by ac_rfl
 rw [a1,e2,c,a2,l];ac_rfl
noncomputable def G9 (f:Int×Int):Prop:=0<f.2/\BB 20000 f.1/\BB 9000 f.2
noncomputable def Sb (t:Addr) (H H':Hp):Prop:=∀ b o,H b=some o->b≠t->H' b=some o
noncomputable def IsI (H:Hp) (t:Addr):Prop:=∃ C dx fs,H t=some (.ins C dx fs)
theorem Sb.of {t:Addr} {H H':Hp} (s:aI H H'):Sb t H H':=λ b o e _=>s b o e
theorem Sb.trans {t:Addr} {H H' H'':Hp} (a:Sb t H H') (b:Sb t H' H''):Sb t H H'':=λ c o e hc=>b c o (a c o e hc) hc
theorem Sb.at {t:Addr} {H:Hp} {o:HO}:Sb t H (upd H t o):=λ b u e hb=>by rw [cA hb];exact e
theorem Sb.lst {t a:Addr} {H H':Hp} {xs:List V} (s:Sb t H H') (i:IsI H t) (h:H a=some (.lst xs)):H' a=some (.lst xs):=by
 obtain ⟨C,dx,fs,e⟩:=i
 exact s a _ h (Jc h e (by intro z;cases z))
theorem Sb.rws {t:Addr} {H H':Hp} (s:Sb t H H') (i:IsI H t):∀ {ps:List Addr} {rs:List (List Int)},bJ H ps rs->bJ H' ps rs
 | [],[],_=>trivial
 | _::_,_::_,h=>⟨s.lst i h.1,s.rws i h.2⟩
 | [],_::_,h=>h.elim
 | _::_,[],h=>h.elim
theorem Sb.free {t d:Addr} {H H':Hp} (s:Sb t H H') (h:H' d=none) (n:d≠t):H d=none:=by
 cases e:H d with
 | none=>rfl
 | some o=>have:=s d o e n;rw [h] at this;cases this
theorem bJ.notI {t:Addr} {H:Hp} {ps:List Addr} {rs:List (List Int)} (h:bJ H ps rs) (i:IsI H t):t∉ps:=λ hm=>by
 obtain ⟨C,dx,fs,e⟩:=i
 obtain ⟨_,_,e2⟩:=h.has hm
 rw [e] at e2;cases e2
theorem bJ.notN {t:Addr} {H:Hp} {ps:List Addr} {rs:List (List Int)} (h:bJ H ps rs) (i:H t=none):t∉ps:=λ hm=>by
 obtain ⟨_,_,e2⟩:=h.has hm
 rw [i] at e2;cases e2
noncomputable def gZ (K:W.Frag) (H:Hp):List Addr->List (List (Int×Int))->Prop
 | [],[]=>True
 | p::ps,r::rs=>(∃ qs,H p=some (.lst (List.map V.ref qs))/\bI K H qs r)/\gZ K H ps rs
 | _,_=>False
theorem gZ.same {K:W.Frag} {H H':Hp} (s:aI H H'):∀ {ps:List Addr} {rs:List (List (Int×Int))},gZ K H ps rs->gZ K H' ps rs
 | [],[],_=>trivial
 | _::_,_::_,h=>⟨let ⟨qs,a,b⟩:=h.1;⟨qs,s _ _ a,b.same s⟩,h.2.same s⟩
 | [],_::_,h=>h.elim
 | _::_,[],h=>h.elim
theorem gZ.length {K:W.Frag} {H:Hp}:∀ {ps:List Addr} {rs:List (List (Int×Int))},gZ K H ps rs->ps.length=rs.length
 | [],[],_=>rfl
 | _::_,_::_,h=>by rw [List.length_cons,List.length_cons,h.2.length]
 | [],_::_,h=>h.elim
 | _::_,[],h=>h.elim
theorem gZ.get {K:W.Frag} {H:Hp}:∀ {ps:List Addr} {rs:List (List (Int×Int))} {i:Nat} {p:Addr},gZ K H ps rs->ps[i]?=some p->∃ r qs,rs[i]?=some r/\H p=some (.lst (List.map V.ref qs))/\bI K H qs r
 | [],[],_,_,_,e=>by simp at e
 | _::_,r::_,0,_,h,e=>by simp at e;subst e;obtain ⟨qs,a,b⟩:=h.1;exact ⟨r,qs,rfl,a,b⟩
 | _::_,_::_,i+1,_,h,e=>by
  obtain ⟨f,qs,e1,e2⟩:=h.2.get (i:=i) (by simpa using e)
  exact ⟨f,qs,by simpa using e1,e2⟩
 | [],_::_,_,_,h,_=>h.elim
 | _::_,[],_,_,h,_=>h.elim
theorem gZ.append {K:W.Frag} {H:Hp} {qs:List Addr} {gs:List (List (Int×Int))} (hq:gZ K H qs gs):∀ {ps:List Addr} {rs:List (List (Int×Int))},gZ K H ps rs->gZ K H (ps++qs) (rs++gs)
 | [],[],_=>hq
 | _::_,_::_,h=>⟨h.1,gZ.append hq h.2⟩
 | [],_::_,h=>h.elim
 | _::_,[],h=>h.elim
noncomputable def tW (H:Hp):List Addr->List (List (Int×Int))->Prop
 | [],[]=>True
 | p::ps,r::rs=>(∃ f l,H p=some (.tup [.ref f,.ref l])/\H f=some (.tup [.int (whF r).1,.int (whF r).2])/\H l=some (.lst (List.map V.int (whL r))))/\tW H ps rs
 | _,_=>False
theorem tW.same {H H':Hp} (s:aI H H'):∀ {ps:List Addr} {rs:List (List (Int×Int))},tW H ps rs->tW H' ps rs
 | [],[],_=>trivial
 | _::_,_::_,h=>⟨let ⟨f,l,a,b,c⟩:=h.1;⟨f,l,s _ _ a,s _ _ b,s _ _ c⟩,h.2.same s⟩
 | [],_::_,h=>h.elim
 | _::_,[],h=>h.elim
theorem tW.length {H:Hp}:∀ {ps:List Addr} {rs:List (List (Int×Int))},tW H ps rs->ps.length=rs.length
 | [],[],_=>rfl
 | _::_,_::_,h=>by rw [List.length_cons,List.length_cons,h.2.length]
 | [],_::_,h=>h.elim
 | _::_,[],h=>h.elim
theorem tW.get {H:Hp}:∀ {ps:List Addr} {rs:List (List (Int×Int))} {i:Nat} {p:Addr},tW H ps rs->ps[i]?=some p->∃ r f l,rs[i]?=some r/\H p=some (.tup [.ref f,.ref l])/\H f=some (.tup [.int (whF r).1,.int (whF r).2])/\H l=some (.lst (List.map V.int (whL r)))
 | [],[],_,_,_,e=>by simp at e
 | _::_,r::_,0,_,h,e=>by simp at e;subst e;obtain ⟨f,l,a,b,c⟩:=h.1;exact ⟨r,f,l,rfl,a,b,c⟩
 | _::_,_::_,i+1,_,h,e=>by
  obtain ⟨r,f,l,e1,e2⟩:=h.2.get (i:=i) (by simpa using e)
  exact ⟨r,f,l,by simpa using e1,e2⟩
 | [],_::_,_,_,h,_=>h.elim
 | _::_,[],_,_,h,_=>h.elim
theorem tW.append {H:Hp} {qs:List Addr} {gs:List (List (Int×Int))} (hq:tW H qs gs):∀ {ps:List Addr} {rs:List (List (Int×Int))},tW H ps rs->tW H (ps++qs) (rs++gs)
 | [],[],_=>hq
 | _::_,_::_,h=>⟨h.1,tW.append hq h.2⟩
 | [],_::_,h=>h.elim
 | _::_,[],h=>h.elim
noncomputable def fov (f g:Int×Int):Int×Int:=lo2 (f.1*g.2) (f.2*g.1)
noncomputable def ftm (f g:Int×Int):Int×Int:=lo2 (f.1*g.1) (f.2*g.2)
noncomputable def bnF (frs:List (List (Int×Int))) (fb:List (Int×Int)):List (Int×Int):=List.zipWith (λ b r=>ftm b (whF r)) fb frs
noncomputable def aO (e:Bool) (frs:List (List (Int×Int))) (fb fg:List (Int×Int)):Lpd where
 m:=frs.length
 n:=fg.length
 a:=λ j i=>if i<frs.length then (whL (frs.getD i [])).getD j 0 else - (whL fg).getD j 0
 be:=λ i=>(whL (bnF frs fb)).getD i 0
 fl:=e
structure Fit (m n q:Nat):Prop where
 q1:1<=q
 m1:m<=100
 n1:n<=100
 le:min m n*q+q+(m+1)+(m+1)*(m+1)+1<=9000
structure BeO (frs:List (List (Int×Int))) (fb fg:List (Int×Int)):Prop where
 lr:∀ r∈frs,r.length=fg.length
 lb:fb.length=frs.length
 gr:∀ r∈frs,∀ f∈r,G9 f
 gb:∀ f∈fb,G9 f
 gg:∀ f∈fg,G9 f
 cr:∀ r∈frs,∀ x∈clr r,BB 9000 x
 cg:∀ x∈clr fg,BB 9000 x
 cb:∀ x∈clr (bnF frs fb),BB 9000 x
 wr:∀ r∈frs,BB 20000 (whF r).1/\BB 20000 (whF r).2
 wb:BB 20000 (whF (bnF frs fb)).1/\BB 20000 (whF (bnF frs fb)).2
 wg:BB 20000 (whF fg).1/\BB 20000 (whF fg).2
 tb:∀ b∈fb,∀ r∈frs,BB 9000 (b.2*(whF r).2)/\BB 20000 (b.1*(whF r).1)
 lim:∀ e,(aO e frs fb fg).Lim
 ox:∀ e s,(aO e frs fb fg).Okn s->BB 9000 ((aO e frs fb fg).D s*(whF (bnF frs fb)).1)
 oy:∀ e s,(aO e frs fb fg).Okn s->∀ r∈frs,BB 9000 ((aO e frs fb fg).D s*(whF r).2*(whF fg).1)/\∀ k,k<frs.length->BB 20000 ((aO e frs fb fg).T s frs.length (e1 k)*(whF r).1)
 fit:∃ q q',Fit frs.length fg.length q'/\q<=9000/\(∀ k,40*2 ^ k<q->40*2 ^ k<=q')/\(∀ j k,BB q ((aO false frs fb fg).a j k))/\∀ k,BB q ((aO false frs fb fg).be k)
theorem fD {frs:List (List (Int×Int))} {fb:List (Int×Int)} (h:fb.length=frs.length):(bnF frs fb).length=frs.length:=by unfold bnF;rw [List.length_zipWith];omega
theorem sC {frs:List (List (Int×Int))} {fb:List (Int×Int)} {i:Nat} {b:Int×Int} {r:List (Int×Int)} (h1:fb[i]?=some b) (h2:frs[i]?=some r):(bnF frs fb)[i]?=some (ftm b (whF r)):=by
 unfold bnF;rw [List.getElem?_zipWith,h1,h2]
theorem Lpd.out {L:Lpd} {s:Nat->Nat} {c:Nat} (h:L.T s L.m (L.cv c)<0) {i:Nat} (hi:i<L.m):s i≠c:=λ e=>by
 have:=L.other (s:=s) (i:=L.m) (j:=i) (by omega) hi (by omega)
 rw [e] at this
 omega
theorem spr_bb {L:Lpd} {s:Nat->Nat} (ok:L.Ok s) {f:Nat->Int} {n:Nat} (hf:∀ i,i<L.m->BB n (f i)) (j:Nat):BB n (Lpd.spr L.m s f j):=by
 by_cases h:∃ i,i<L.m/\s i=j
 ·obtain ⟨i,hi,e⟩:=h
  have:Lpd.spr L.m s f j=f i:=by
   unfold Lpd.spr
   rw [mK (p:=i) hi λ k hk hne=>if_neg λ z=>ok.inj hk hi hne (z.trans e.symm),if_pos e]
  rw [this];exact hf i hi
 ·have:Lpd.spr L.m s f j=0:=hJ λ i hi=>if_neg λ z=>h ⟨i,hi,z⟩
  rw [this]
  show (0:Int).natAbs<_
  exact Nat.two_pow_pos _
theorem mN {x a:Int} (ha:0<a) (h:0<=x*a):0<=x:=Classical.byContradiction λ z=>by
 have:=Int.mul_neg_of_neg_of_pos (show x<0 by omega) ha
 omega
theorem sP {t b:Int} (hb:0<b) (ht:0<=t):0<=(lo2 t b).1:=by
 have l:=cG (t:=t) hb
 refine mN hb ?_
 rw [l.eq]
 exact Int.mul_nonneg ht (Int.le_of_lt l.pos)
theorem Ri {fs:List (Int×Int)} (h:∀ f∈fs,0<f.2) (h0:∀ f∈fs,0<=f.1) (i:Nat):0<=(whL fs).getD i 0:=by
 by_cases hi:i<fs.length
 ·have e:=getElem?_eq_getElem hi
  have q:=Ku h e
  have hm:=getElem_mem hi
  have w:=fG h
  refine mN (Int.mul_pos (h _ hm) w.2) ?_
  rw [q]
  exact Int.mul_nonneg (h0 _ hm) (Int.le_of_lt w.1)
 ·rw [getD_eq_getElem?_getD,getElem?_eq_none (by rw [gA];omega)]
  exact Int.le_refl _
theorem Tl {frs:List (List (Int×Int))} {fb fg:List (Int×Int)} (B:BeO frs fb fg) (h0:∀ f∈fb,0<=f.1):∀ f∈bnF frs fb,0<=f.1:=λ f hf=>by
 obtain ⟨i,hi⟩:=getElem?_of_mem hf
 have hil:i<frs.length:=by have:=(List.getElem?_eq_some_iff.mp hi).1;rwa [fD B.lb] at this
 have hib:i<fb.length:=by rw [B.lb];exact hil
 have e1:=getElem?_eq_getElem hil
 have e2:=getElem?_eq_getElem hib
 rw [sC e2 e1] at hi
 obtain rfl:=Option.some.inj hi
 have wp:=fG λ f hf=>(B.gr _ (getElem_mem hil) f hf).1
 exact sP (Int.mul_pos (B.gb _ (getElem_mem hib)).1 wp.2) (Int.mul_nonneg (h0 _ (getElem_mem hib)) (Int.le_of_lt wp.1))
theorem wR {n:Nat} {x y z:Int} (h:BB n (y*z)) (hx:0<=x) (hxy:x<=y) (hz:0<=z):BB n (x*z):=h.of_le (by
 rw [Int.natAbs_mul,Int.natAbs_mul]
 exact Nat.mul_le_mul (by omega) (Nat.le_refl _))
theorem lo2_le {t b:Int} (hb:0<b):(lo2 t b).2<=b:=by
 have l:=cG (t:=t) hb
 have h1:=l.by_
 have h2:=l.pos
 omega
theorem gZ.put {K:W.Frag} {H:Hp} {q:Addr} {ys zs:List V} (hq:H q=some (.lst ys)):∀ {ps:List Addr} {rs:List (List (Int×Int))},q∉ps->gZ K H ps rs->gZ K (upd H q (.lst zs)) ps rs
 | [],[],_,_=>trivial
 | p::_,_::_,hn,h=>⟨let ⟨qs,a,b⟩:=h.1;⟨qs,by rw [cA (λ e:p=q=>hn (by rw [e];exact mem_cons_self))];exact a,b.off hq⟩,gZ.put hq (λ z=>hn (mem_cons_of_mem _ z)) h.2⟩
 | [],_::_,_,h=>h.elim
 | _::_,[],_,h=>h.elim
theorem gZ.has {K:W.Frag} {H:Hp} {ps:List Addr} {rs:List (List (Int×Int))} (h:gZ K H ps rs) {p:Addr} (hp:p∈ps):∃ r qs,r∈rs/\H p=some (.lst (List.map V.ref qs))/\bI K H qs r:=by
 obtain ⟨i,hi⟩:=getElem?_of_mem hp
 obtain ⟨r,qs,e1,e2⟩:=h.get hi
 exact ⟨r,qs,mem_of_getElem? e1,e2⟩
noncomputable def xQ (H:Hp):List Addr->List Addr->Prop
 | [],[]=>True
 | p::ps,q::qs=>(∃ rs,H p=some (.lst (List.map V.ref rs))/\H q=some (.lst (List.map V.ref rs))/\p≠q)/\xQ H ps qs
 | _,_=>False
theorem xQ.same {H H':Hp} (s:aI H H'):∀ {ps qs:List Addr},xQ H ps qs->xQ H' ps qs
 | [],[],_=>trivial
 | _::_,_::_,h=>⟨let ⟨rs,a,b,c⟩:=h.1;⟨rs,s _ _ a,s _ _ b,c⟩,h.2.same s⟩
 | [],_::_,h=>h.elim
 | _::_,[],h=>h.elim
theorem xQ.length {H:Hp}:∀ {ps qs:List Addr},xQ H ps qs->ps.length=qs.length
 | [],[],_=>rfl
 | _::_,_::_,h=>by rw [List.length_cons,List.length_cons,h.2.length]
 | [],_::_,h=>h.elim
 | _::_,[],h=>h.elim
theorem xQ.append {H:Hp} {ps2 qs2:List Addr} (hq:xQ H ps2 qs2):∀ {ps qs:List Addr},xQ H ps qs->xQ H (ps++ps2) (qs++qs2)
 | [],[],_=>hq
 | _::_,_::_,h=>⟨h.1,xQ.append hq h.2⟩
 | [],_::_,h=>h.elim
 | _::_,[],h=>h.elim
theorem xQ.get {H:Hp}:∀ {ps qs:List Addr} {i:Nat} {p q:Addr},xQ H ps qs->ps[i]?=some p->qs[i]?=some q->∃ rs,H p=some (.lst (List.map V.ref rs))/\H q=some (.lst (List.map V.ref rs))/\p≠q
 | [],[],_,_,_,_,e,_=>by simp at e
 | _::_,_::_,0,_,_,h,e1,e2=>by simp at e1 e2;subst e1 e2;exact h.1
 | _::_,_::_,i+1,_,_,h,e1,e2=>h.2.get (i:=i) (by simpa using e1) (by simpa using e2)
 | [],_::_,_,_,_,h,_,_=>h.elim
 | _::_,[],_,_,_,h,_,_=>h.elim
theorem xQ.rf {K:W.Frag} {H:Hp}:∀ {ps qs:List Addr} {frs:List (List (Int×Int))},xQ H ps qs->gZ K H qs frs->gZ K H ps frs
 | [],[],[],_,_=>trivial
 | p::ps,q::qs,r::rs,h,k=>by
  obtain ⟨xs,h1,h2,_⟩:=h.1
  obtain ⟨ys,k1,k2⟩:=k.1
  rw [h2] at k1
  injection k1 with k1
  injection k1 with k1
  have e:xs=ys:=List.map_inj_right (λ a b h=>by injection h) |>.mp k1
  subst e
  exact ⟨⟨xs,h1,k2⟩,h.2.rf k.2⟩
 | [],[],_::_,_,k=>k.elim
 | _::_,_::_,[],_,k=>k.elim
 | [],_::_,_,h,_=>h.elim
 | _::_,[],_,h,_=>h.elim
noncomputable def Tw (K:W.Frag) (H:Hp) (p q:Addr) (a b c d:Int):Prop:=SqT K H p [.int a,.int b]/\SqT K H q [.int c,.int d]/\BB 20000 a/\BB 20000 b/\BB 20000 c/\BB 20000 d
theorem bI.snoc {K:W.Frag} {H:Hp} {q:Addr} {g:Int×Int} {ps:List Addr} {fs:List (Int×Int)} (h:bI K H ps fs) (hq:SqT K H q [.int g.1,.int g.2]):bI K H (ps++[q]) (fs++[g]):=bI.append (show bI K H [q] [g] from ⟨hq,trivial⟩) h
noncomputable def nsm:Nat->(Nat->Nat)->Nat
 | 0,_=>0
 | n+1,c=>nsm n c+c n
theorem jD:∀ {n:Nat} {c d:Nat->Nat},(∀ i,i<n->c i=d i)->nsm n c=nsm n d
 | 0,_,_,_=>rfl
 | n+1,c,d,h=>by
  show nsm n c+c n=nsm n d+d n
  rw [jD (n:=n) λ i hi=>h i (by omega),h n (by omega)]
theorem Ud (c:Nat->Nat):∀ {n k:Nat},k<=n->nsm n (λ i=>c (skp k i))+c k=nsm (n+1) c
 | 0,k,h=>by
  have:k=0:=by omega
  subst this;show 0+c 0=0+c 0;rfl
 | n+1,k,h=>by
  show nsm n (λ i=>c (skp k i))+c (skp k n)+c k=nsm (n+1) c+c (n+1)
  by_cases e:k=n+1
  ·subst e
   have e1:nsm n (λ i=>c (skp (n+1) i))=nsm n c:=jD λ i hi=>by unfold skp;rw [if_pos (by omega)]
   have e2:skp (n+1) n=n:=by unfold skp;rw [if_pos (by omega)]
   rw [e1,e2];rfl
  ·have ih:=Ud c (n:=n) (k:=k) (by omega)
   have e2:skp k n=n+1:=by unfold skp;rw [if_neg (by omega)]
   rw [e2];omega
theorem Fr {n:Nat} {x y:Int} (h:BB n x) (e:y.natAbs=x.natAbs):BB n y:=by unfold BB at *;omega
theorem Fm:∀ {N:Nat} {M:Mx} {c:Nat->Nat},(∀ i,i<N->∀ r,r<N->BB (c i) (M i r))->BB (nsm N c+N*N+1) (det N M)
 | 0,_,_,_=>by show (1:Int).natAbs<2 ^ 1;decide
 | n+1,M,c,h=>by
  have e:det (n+1) M=(ofF (n+1) λ k=>sg k*M k 0*det n (mnr M k)).sum:=(zK _ _).symm
  rw [e]
  have:=Kv (l:=ofF (n+1) λ k=>sg k*M k 0*det n (mnr M k)) (p:=nsm (n+1) c+n*n+1) λ x hx=>by
   obtain ⟨k,hk,rfl⟩:=gG hx
   have ih:=Fm (N:=n) (M:=mnr M k) (c:=λ i=>c (skp k i)) λ i hi r hr=>h _ (Xx hi) _ (by omega)
   have h0:=h k hk 0 (by omega)
   have hs:=Ud c (n:=n) (k:=k) (by omega)
   refine Fr ((h0.mul ih).mono (by omega)) ?_
   rw [Int.natAbs_mul,Int.natAbs_mul,sg_abs,Nat.one_mul,Int.natAbs_mul]
  rw [aJ] at this
  refine this.mono ?_
  have:(n+1)*(n+1)=n*n+n+n+1:=by rw [Nat.add_mul,Nat.mul_add];omega
  omega
theorem uC {q:Nat} (h:1<=q) (k r:Nat):BB q (e1 k r):=by
 unfold e1
 have h2:1<2 ^ q:=Nat.one_lt_two_pow (by omega)
 split
 ·show (1:Int).natAbs<_;exact h2
 ·show (0:Int).natAbs<_;exact Nat.two_pow_pos _
theorem qT (q:Nat):∀ n,nsm n (λ _=>q)=n*q
 | 0=>by rw [Nat.zero_mul];rfl
 | n+1=>by show nsm n (λ _=>q)+q=_;rw [qT q n,Nat.add_mul,Nat.one_mul]
theorem Qw (c:Nat->Nat) (i q:Nat):∀ n,nsm n (λ k=>if k=i then q else c k)<=nsm n c+q
 | 0=>Nat.zero_le _
 | n+1=>by
  show nsm n (λ k=>if k=i then q else c k)+(if n=i then q else c n)<=nsm n c+c n+q
  by_cases e:n=i
  ·rw [if_pos e]
   have:nsm n (λ k=>if k=i then q else c k)=nsm n c:=jD λ k hk=>if_neg (by omega)
   omega
  ·rw [if_neg e]
   have:=Qw c i q n
   omega
theorem T_bb {L:Lpd} {q qy:Nat} (h1:1<=q) (ha:∀ j k,j<L.n->k<=L.m->BB q (L.a j k)) (s:Nat->Nat) (i:Nat) {y:Nat->Int} (hy:∀ k,k<=L.m->BB qy (y k)):BB ((L.m+1)*q+qy+(L.m+1)*(L.m+1)+1) (L.T s i y):=by
 have hb:∀ j,j<L.m+1->∀ r,r<L.m+1->BB q (L.B s j r):=λ j hj r hr=>by
  unfold Lpd.B
  split
  ·unfold Lpd.cv
   split
   ·exact ha _ _ (by assumption) (by omega)
   ·exact uC h1 _ _
  ·exact uC h1 _ _
 have:=Fm (N:=L.m+1) (M:=pt (L.B s) i y) (c:=λ k=>if k=i then qy else q) λ j hj r hr=>by
  unfold pt
  by_cases e:j=i
  ·rw [if_pos e,if_pos e];exact hy r (by omega)
  ·rw [if_neg e,if_neg e];exact hb j hj r hr
 refine BB.mono (Fr this (L.sg_abs _)) ?_
 have h2:=Qw (λ _=>q) i qy (L.m+1)
 rw [qT] at h2
 omega
theorem D_bb {L:Lpd} {q:Nat} (h1:1<=q) (ha:∀ j k,j<L.n->k<=L.m->BB q (L.a j k)) (s:Nat->Nat):BB ((L.m+1)*q+(L.m+1)*(L.m+1)+1) (L.D s):=by
 have hb:∀ j,j<L.m+1->∀ r,r<L.m+1->BB q (L.B s j r):=λ j hj r hr=>by
  unfold Lpd.B
  split
  ·unfold Lpd.cv
   split
   ·exact ha _ _ (by assumption) (by omega)
   ·exact uC h1 _ _
  ·exact uC h1 _ _
 have:=Fm (N:=L.m+1) (M:=L.B s) (c:=λ _=>q) hb
 rw [qT] at this
 exact Fr this (L.sg_abs _)
theorem zL (c d:Nat->Nat):∀ n,nsm n (λ i=>c i+d i)=nsm n c+nsm n d
 | 0=>rfl
 | n+1=>by show nsm n (λ i=>c i+d i)+(c n+d n)=nsm n c+c n+(nsm n d+d n);rw [zL c d n];omega
theorem uP {c:Nat->Nat}:∀ {n:Nat},(∀ i,i<n->c i=0)->nsm n c=0
 | 0,_=>rfl
 | n+1,h=>by show nsm n c+c n=0;rw [uP (n:=n) λ i hi=>h i (by omega),h n (by omega)]
theorem Mf {s:Nat->Nat} {c:Nat}:∀ {m:Nat},(∀ i j,i<m->j<m->i≠j->s i≠s j)->nsm m (λ i=>if s i=c then 1 else 0)<=1
 | 0,_=>Nat.zero_le _
 | m+1,h=>by
  show nsm m (λ i=>if s i=c then 1 else 0)+(if s m=c then 1 else 0)<=1
  by_cases e:s m=c
  ·rw [if_pos e,uP λ i hi=>if_neg λ z=>h i m (by omega) (by omega) (by omega) (z.trans e.symm)];exact Nat.le_refl _
  ·rw [if_neg e];exact Mf λ i j hi hj=>h i j (by omega) (by omega)
theorem Ra {s:Nat->Nat} {m:Nat} (h:∀ i j,i<m->j<m->i≠j->s i≠s j):∀ n,nsm m (λ i=>if s i<n then 1 else 0)<=n
 | 0=>by rw [uP λ i _=>if_neg (by omega)];exact Nat.le_refl _
 | n+1=>by
  have h1:=Ra h n
  have h2:=Mf (c:=n) h
  have e:nsm m (λ i=>if s i<n+1 then 1 else 0)=nsm m (λ i=>(if s i<n then 1 else 0)+(if s i=n then 1 else 0)):=jD λ i _=>by
   by_cases a:s i<n
   ·rw [if_pos a,if_pos (by omega),if_neg (by omega)]
   ·by_cases c:s i=n
    ·rw [if_neg a,if_pos c,if_pos (by omega)]
    ·rw [if_neg a,if_neg c,if_neg (by omega)]
  rw [e,zL];omega
theorem Xp {s:Nat->Nat} (n:Nat):∀ m,nsm m (λ i=>if s i<n then 1 else 0)<=m
 | 0=>Nat.le_refl _
 | m+1=>by
  show nsm m (λ i=>if s i<n then 1 else 0)+(if s m<n then 1 else 0)<=m+1
  have:=Xp (s:=s) n m
  split <;> omega
theorem Lx {s:Nat->Nat} (n q:Nat):∀ m,nsm m (λ i=>if s i<n then q else 1)<=nsm m (λ i=>if s i<n then 1 else 0)*q+m
 | 0=>Nat.zero_le _
 | m+1=>by
  show nsm m (λ i=>if s i<n then q else 1)+(if s m<n then q else 1)<=(nsm m (λ i=>if s i<n then 1 else 0)+(if s m<n then 1 else 0))*q+(m+1)
  have:=Lx (s:=s) n q m
  rw [Nat.add_mul]
  split <;> omega
theorem Yc {s:Nat->Nat} {m n q:Nat} (h:∀ i j,i<m->j<m->i≠j->s i≠s j):nsm (m+1) (λ i=>if i<m/\s i<n then q else 1)<=min m n*q+(m+1):=by
 show nsm m (λ i=>if i<m/\s i<n then q else 1)+(if m<m/\s m<n then q else 1)<=_
 rw [if_neg (by omega)]
 have e:nsm m (λ i=>if i<m/\s i<n then q else 1)=nsm m (λ i=>if s i<n then q else 1):=jD λ i hi=>by
  by_cases a:s i<n
  ·rw [if_pos a,if_pos ⟨hi,a⟩]
  ·rw [if_neg a,if_neg λ z=>a z.2]
 rw [e]
 have h1:=Lx (s:=s) n q m
 have h2:=Ra h n
 have h3:=Xp (s:=s) n m
 have h4:nsm m (λ i=>if s i<n then 1 else 0)*q<=min m n*q:=Nat.mul_le_mul_right _ (by omega)
 omega
theorem B_bb {L:Lpd} {q:Nat} (ha:∀ j k,j<L.n->k<=L.m->BB q (L.a j k)) (s:Nat->Nat) {j r:Nat} (hr:r<L.m+1):BB (if j<L.m/\s j<L.n then q else 1) (L.B s j r):=by
 unfold Lpd.B
 by_cases h1:j<L.m
 ·rw [if_pos h1]
  unfold Lpd.cv
  by_cases h2:s j<L.n
  ·rw [if_pos h2,if_pos ⟨h1,h2⟩];exact ha _ _ h2 (by omega)
  ·rw [if_neg h2,if_neg λ z=>h2 z.2];exact uC (Nat.le_refl _) _ _
 ·rw [if_neg h1,if_neg λ z=>h1 z.1];exact uC (Nat.le_refl _) _ _
theorem T_bbk {L:Lpd} {q qy:Nat} (ha:∀ j k,j<L.n->k<=L.m->BB q (L.a j k)) {s:Nat->Nat} (o:L.Okn s) (i:Nat) {y:Nat->Int} (hy:∀ k,k<=L.m->BB qy (y k)):BB (min L.m L.n*q+qy+(L.m+1)+(L.m+1)*(L.m+1)+1) (L.T s i y):=by
 have:=Fm (N:=L.m+1) (M:=pt (L.B s) i y) (c:=λ k=>if k=i then qy else if k<L.m/\s k<L.n then q else 1) λ j hj r hr=>by
  unfold pt
  by_cases e:j=i
  ·rw [if_pos e,if_pos e];exact hy r (by omega)
  ·rw [if_neg e,if_neg e];exact B_bb ha s hr
 refine BB.mono (Fr this (L.sg_abs _)) ?_
 have h2:=Qw (λ k=>if k<L.m/\s k<L.n then q else 1) i qy (L.m+1)
 have h3:=Yc (n:=L.n) (q:=q) (s:=s) (m:=L.m) λ i j hi hj h=>o.inj hi hj h
 omega
theorem D_bbk {L:Lpd} {q:Nat} (ha:∀ j k,j<L.n->k<=L.m->BB q (L.a j k)) {s:Nat->Nat} (o:L.Okn s):BB (min L.m L.n*q+(L.m+1)+(L.m+1)*(L.m+1)+1) (L.D s):=by
 have:=Fm (N:=L.m+1) (M:=L.B s) (c:=λ k=>if k<L.m/\s k<L.n then q else 1) λ j _ r hr=>B_bb ha s hr
 refine BB.mono (Fr this (L.sg_abs _)) ?_
 have h3:=Yc (n:=L.n) (q:=q) (s:=s) (m:=L.m) λ i j hi hj h=>o.inj hi hj h
 omega
theorem Fit.lim {L:Lpd} {q:Nat} (F:Fit L.m L.n q) (ha:∀ j k,j<L.n->k<=L.m->BB q (L.a j k)) (hb:∀ k,k<=L.m->BB q (L.be k)):L.Lim:=by
 obtain ⟨q1,m1,n1,le⟩:=F
 have hT:∀ s i (y:Nat->Int),L.Okn s->(∀ k,k<=L.m->BB q (y k))->BB 20000 (L.T s i y):=λ s i y o hy=>(T_bbk ha o i hy).mono (by omega)
 refine ⟨m1,n1,λ j k hj hk=>(ha j k hj hk).mono (by omega),λ s i c o _=>hT s i _ o λ k hk=>?_,λ s i k o _ _=>hT s i _ o λ r _=>uC q1 _ _,λ s i o _=>hT s i _ o hb,λ s o=>(D_bbk ha o).mono (by omega)⟩
 unfold Lpd.cv
 split
 ·exact ha _ _ (by assumption) hk
 ·exact uC q1 _ _
noncomputable def Gp (p r:Nat) (f:Int×Int):Prop:=0<f.2/\BB p f.1/\BB r f.2
theorem Lb:∀ (fs:List (Int×Int)) (n:Int) (m r:Nat),0<n->BB m n->(∀ f∈fs,0<f.2)->(∀ f∈fs,BB r f.2)->BB (m+r*fs.length) (fs.foldl lcf n)
 | [],_,_,_,_,h,_,_=>h
 | a::t,n,m,r,hn,h,h1,h2=>by
  rw [List.foldl_cons]
  obtain ⟨o1,_,_,_,o5⟩:=Fj hn (h1 a mem_cons_self)
  have b:BB (m+r) (lcf n a):=h.mul ((h2 a mem_cons_self).of_le o5)
  have:=Lb t (lcf n a) (m+r) r o1 b (λ f hf=>h1 f (mem_cons_of_mem _ hf)) λ f hf=>h2 f (mem_cons_of_mem _ hf)
  rw [List.length_cons]
  refine this.mono ?_
  rw [Nat.mul_add,Nat.mul_one];omega
theorem lc_bbp {fs:List (Int×Int)} {p r:Nat} (h:∀ f∈fs,Gp p r f):BB (1+r*fs.length) (lc fs):=Lb fs 1 1 r (by decide) (by show (1:Int).natAbs<2 ^ 1;decide) (λ f hf=>(h f hf).1) λ f hf=>(h f hf).2.2
theorem Ex {fs:List (Int×Int)} {p r q:Nat} (h:∀ f∈fs,Gp p r f) (hq:BB q (lc fs)):∀ x∈clr fs,BB (p+q) x:=λ x hx=>by
 obtain ⟨f,hf,rfl⟩:=mem_map.mp hx
 have g:=h f hf
 obtain ⟨k,hk⟩:=(uI fs 1 (by decide) λ f hf=>(h f hf).1).2.2.1 f hf
 have hk:lc fs=f.2*k:=hk
 have ek:(lc fs).fdiv f.2=k:=by rw [hk];exact Int.mul_fdiv_cancel_left _ (Int.ne_of_gt g.1)
 refine g.2.1.mul (hq.of_le ?_)
 rw [ek,hk,Int.natAbs_mul]
 exact Nat.le_mul_of_pos_left _ (by have:=g.1;omega)
theorem Yd {q:Nat} {g:Int} (h1:1<=q) (h:BB q g):BB q (mx1 g):=by
 unfold mx1;split
 ·show (1:Int).natAbs<_;exact Nat.one_lt_two_pow (by omega)
 ·exact h
theorem Qm {fs:List (Int×Int)} {p r q:Nat} (h:∀ f∈fs,Gp p r f) (hq:BB q (lc fs)) (h1:1<=p+q):BB q (whF fs).1/\BB (p+q) (whF fs).2:=(cG (sB _)).bb hq (Yd h1 (Tn (Ex h hq)))
theorem Xs {fs:List (Int×Int)} {p r q:Nat} (h:∀ f∈fs,Gp p r f) (hq:BB q (lc fs)) (i:Nat):BB (p+q) ((whL fs).getD i 0):=by
 by_cases hi:i<(whL fs).length
 ·exact Js (Ex h hq) _ (kY hi)
 ·rw [getD_eq_getElem?_getD,getElem?_eq_none (by omega)]
  show (0:Int).natAbs<_;exact Nat.two_pow_pos _
noncomputable def iD (L:Lpd) (s:Nat->Nat):Prop:=∀ i,i<L.m->s i<L.n+L.m
noncomputable def UnO (L:Lpd) (s:Nat->Nat):Option Nat->Prop
 | none=>∀ c,c<L.n+L.m->0<=L.T s L.m (L.cv c)
 | some c=>c<L.n+L.m/\L.T s L.m (L.cv c)<0/\∀ i,i<L.m->L.T s i (L.cv c)<=0
noncomputable def tR (L:Lpd) (s:Nat->Nat) (f:Nat->Int) (i j:Nat):Int×Int:=lo2 (Lpd.spr i s f j) (L.D s)
noncomputable def gY (L:Lpd) (s:Nat->Nat) (c j:Nat):Int×Int:=lo2 (Lpd.spr L.m s (λ i=>- L.T s i (L.cv c)) j+if j=c then L.D s else 0) (L.D s)
noncomputable def iH:Nat->(Nat->Int×Int)->(Nat->Int×Int)->Int×Int
 | 0,_,_=>(0,1)
 | n+1,f,g=>((iH n f g).1*(f n).2*(g n).2+(f n).1*(g n).1*(iH n f g).2,(iH n f g).2*(f n).2*(g n).2)
theorem hU {f g:Nat->Int×Int}:∀ {n:Nat},(∀ k,k<n->0<(f k).2)->(∀ k,k<n->0<(g k).2)->0<(iH n f g).2
 | 0,_,_=>by show (0:Int)<1;decide
 | n+1,h1,h2=>Int.mul_pos (Int.mul_pos (hU (λ k hk=>h1 k (by omega)) λ k hk=>h2 k (by omega)) (h1 n (by omega))) (h2 n (by omega))
theorem sA {f g:Nat->Int×Int} {W:Int} {v:Nat->Int}:∀ {n:Nat},(∀ k,k<n->(f k).1*(g k).1*W=v k*((f k).2*(g k).2))->(iH n f g).1*W=sm n v*(iH n f g).2
 | 0,_=>by show (0:Int)*W=0*1;simp
 | n+1,h=>by
  have ih:=sA (n:=n) λ k hk=>h k (by omega)
  have hn:=h n (by omega)
  show ((iH n f g).1*(f n).2*(g n).2+(f n).1*(g n).1*(iH n f g).2)*W=(sm n v+v n)*((iH n f g).2*(f n).2*(g n).2)
  generalize (iH n f g).1=t at *
  generalize (iH n f g).2=b at *
  grind
theorem Tu {P:Int×Int} {W S:Int} {c:Int×Int} (hW:0<W) (hP:0<P.2) (e:P.1*W=S*P.2) (h:S*c.2<=c.1*W):P.1*c.2<=c.1*P.2:=by
 have h1:S*c.2*P.2<=c.1*W*P.2:=Int.mul_le_mul_of_nonneg_right h (Int.le_of_lt hP)
 refine Int.le_of_mul_le_mul_right (a:=W) ?_ hW
 have e1:P.1*c.2*W=S*c.2*P.2:=by grind
 have e2:c.1*P.2*W=c.1*W*P.2:=by grind
 rw [e1,e2];exact h1
theorem prdF_ge {P:Int×Int} {W S:Int} {c:Int×Int} (hW:0<W) (hP:0<P.2) (e:P.1*W=S*P.2) (h:c.1*W<=S*c.2):c.1*P.2<=P.1*c.2:=by
 have h1:c.1*W*P.2<=S*c.2*P.2:=Int.mul_le_mul_of_nonneg_right h (Int.le_of_lt hP)
 refine Int.le_of_mul_le_mul_right (a:=W) ?_ hW
 have e1:P.1*c.2*W=S*c.2*P.2:=by grind
 have e2:c.1*P.2*W=c.1*W*P.2:=by grind
 rw [e1,e2];exact h1
theorem Uq {S D:Int} {W:Int×Int} (hD:0<D) (hW:0<W.1):(fov (lo2 S D) W).1*(D*W.1)=S*W.2*(fov (lo2 S D) W).2/\0<(fov (lo2 S D) W).2/\Int.gcd (fov (lo2 S D) W).1 (fov (lo2 S D) W).2=1:=by
 have l1:=cG (t:=S) hD
 have z:=Int.mul_pos l1.pos hW
 have l2:=cG (t:=(lo2 S D).1*W.2) z
 refine ⟨?_,l2.pos,l2.cop⟩
 have h1:=l1.eq
 have h2:=l2.eq
 have p1:=l1.pos
 show (lo2 ((lo2 S D).1*W.2) ((lo2 S D).2*W.1)).1*(D*W.1)=S*W.2*(lo2 ((lo2 S D).1*W.2) ((lo2 S D).2*W.1)).2
 generalize (lo2 ((lo2 S D).1*W.2) ((lo2 S D).2*W.1)).1=X at *
 generalize (lo2 ((lo2 S D).1*W.2) ((lo2 S D).2*W.1)).2=Y at *
 generalize (lo2 S D).1=s at *
 generalize (lo2 S D).2=d at *
 apply Int.eq_of_mul_eq_mul_left (show d≠0 by omega)
 grind
theorem Te {S D:Int} {W:Int×Int} (hD:0<D) (hW:0<W.1) (hW2:0<W.2) (hS:0<=S):0<=(fov (lo2 S D) W).1:=by
 obtain ⟨e,p,_⟩:=Uq (S:=S) hD hW
 refine mN (Int.mul_pos hD hW) ?_
 rw [e]
 exact Int.mul_nonneg (Int.mul_nonneg hS (Int.le_of_lt hW2)) (Int.le_of_lt p)
theorem fty_val {U D:Int} {w G:Int×Int} (hD:0<D) (hw:0<w.2) (hG:0<G.1):(fov (ftm (lo2 U D) w) G).1*(D*w.2*G.1)=U*w.1*G.2*(fov (ftm (lo2 U D) w) G).2/\0<(fov (ftm (lo2 U D) w) G).2/\Int.gcd (fov (ftm (lo2 U D) w) G).1 (fov (ftm (lo2 U D) w) G).2=1:=by
 have l1:=cG (t:=U) hD
 have z1:=Int.mul_pos l1.pos hw
 have l2:=cG (t:=(lo2 U D).1*w.1) z1
 have z2:=Int.mul_pos l2.pos hG
 have l3:=cG (t:=(lo2 ((lo2 U D).1*w.1) ((lo2 U D).2*w.2)).1*G.2) z2
 refine ⟨?_,l3.pos,l3.cop⟩
 have h1:=l1.eq
 have h2:=l2.eq
 have h3:=l3.eq
 have p1:=l1.pos
 have p2:=l2.pos
 show (lo2 ((lo2 ((lo2 U D).1*w.1) ((lo2 U D).2*w.2)).1*G.2) ((lo2 ((lo2 U D).1*w.1) ((lo2 U D).2*w.2)).2*G.1)).1*(D*w.2*G.1)=U*w.1*G.2*(lo2 ((lo2 ((lo2 U D).1*w.1) ((lo2 U D).2*w.2)).1*G.2) ((lo2 ((lo2 U D).1*w.1) ((lo2 U D).2*w.2)).2*G.1)).2
 generalize (lo2 ((lo2 ((lo2 U D).1*w.1) ((lo2 U D).2*w.2)).1*G.2) ((lo2 ((lo2 U D).1*w.1) ((lo2 U D).2*w.2)).2*G.1)).1=X at *
 generalize (lo2 ((lo2 ((lo2 U D).1*w.1) ((lo2 U D).2*w.2)).1*G.2) ((lo2 ((lo2 U D).1*w.1) ((lo2 U D).2*w.2)).2*G.1)).2=Y at *
 generalize (lo2 ((lo2 U D).1*w.1) ((lo2 U D).2*w.2)).1=u at *
 generalize (lo2 ((lo2 U D).1*w.1) ((lo2 U D).2*w.2)).2=d2 at *
 generalize (lo2 U D).1=s at *
 generalize (lo2 U D).2=d at *
 apply Int.eq_of_mul_eq_mul_left (show d*d2≠0 from Int.ne_of_gt (Int.mul_pos p1 p2))
 grind
section
variable {fl:Bool} {frs:List (List (Int×Int))} {fb fg:List (Int×Int)} {s:Nat->Nat}
noncomputable def rwF (frs:List (List (Int×Int))) (i j:Nat):Int×Int:=(frs.getD i []).getD j (0,1)
theorem Lq (B:BeO frs fb fg) {i j:Nat} (hi:i<frs.length) (hj:j<fg.length):(aO fl frs fb fg).a j i*((rwF frs i j).2*(whF (frs.getD i [])).2)=(rwF frs i j).1*(whF (frs.getD i [])).1:=by
 have hm:frs.getD i []∈frs:=by rw [getD_eq_getElem?_getD,getElem?_eq_getElem hi];exact getElem_mem hi
 have hl:=B.lr _ hm
 have e:(aO fl frs fb fg).a j i=(whL (frs.getD i [])).getD j 0:=by show (if i<frs.length then _ else _)=_;rw [if_pos hi]
 rw [e]
 refine Ku (λ f hf=>(B.gr _ hm f hf).1) ?_
 unfold rwF
 generalize frs.getD i []=l at *
 rw [getD_eq_getElem?_getD,getElem?_eq_getElem (by omega)];rfl
theorem Ge (B:BeO frs fb fg) {j:Nat} (hj:j<fg.length):- (aO fl frs fb fg).a j frs.length*((fg.getD j (0,1)).2*(whF fg).2)=(fg.getD j (0,1)).1*(whF fg).1:=by
 have e:(aO fl frs fb fg).a j frs.length = - (whL fg).getD j 0:=by show (if frs.length<frs.length then _ else _)=_;rw [if_neg (Nat.lt_irrefl _)]
 rw [e,Int.neg_neg]
 refine Ku (λ f hf=>(B.gg f hf).1) ?_
 rw [getD_eq_getElem?_getD,getElem?_eq_getElem hj];rfl
theorem Mg (B:BeO frs fb fg) {i:Nat} (hi:i<frs.length):(aO fl frs fb fg).be i*(whF (bnF frs fb)).2*((fb.getD i (0,1)).2*(whF (frs.getD i [])).2)=(fb.getD i (0,1)).1*(whF (frs.getD i [])).1*(whF (bnF frs fb)).1:=by
 have hib:i<fb.length:=by rw [B.lb];exact hi
 have e1:fb[i]?=some (fb.getD i (0,1)):=by rw [getD_eq_getElem?_getD,getElem?_eq_getElem hib];rfl
 have e2:frs[i]?=some (frs.getD i []):=by rw [getD_eq_getElem?_getD,getElem?_eq_getElem hi];rfl
 have hm:=mem_of_getElem? e2
 have hbm:=mem_of_getElem? e1
 have w:=fG λ f hf=>(B.gr _ hm f hf).1
 have z:=Int.mul_pos (B.gb _ hbm).1 w.2
 have l:=cG (t:=(fb.getD i (0,1)).1*(whF (frs.getD i [])).1) z
 have gbn:∀ f∈bnF frs fb,0<f.2:=λ f hf=>by
  obtain ⟨k,hk⟩:=getElem?_of_mem hf
  have hkl:k<frs.length:=by have:=(List.getElem?_eq_some_iff.mp hk).1;rwa [fD B.lb] at this
  have hkb:k<fb.length:=by rw [B.lb];exact hkl
  rw [sC (getElem?_eq_getElem hkb) (getElem?_eq_getElem hkl)] at hk
  obtain rfl:=Option.some.inj hk
  have w:=fG λ f hf=>(B.gr _ (getElem_mem hkl) f hf).1
  exact (cG (Int.mul_pos (B.gb _ (getElem_mem hkb)).1 w.2)).pos
 have q:=Ku gbn (sC e1 e2)
 have eb:(aO fl frs fb fg).be i=(whL (bnF frs fb)).getD i 0:=rfl
 rw [eb]
 have h1:=l.eq
 have p1:=l.pos
 have q:(whL (bnF frs fb)).getD i 0*((lo2 ((fb.getD i (0,1)).1*(whF (frs.getD i [])).1) ((fb.getD i (0,1)).2*(whF (frs.getD i [])).2)).2*(whF (bnF frs fb)).2)=(lo2 ((fb.getD i (0,1)).1*(whF (frs.getD i [])).1) ((fb.getD i (0,1)).2*(whF (frs.getD i [])).2)).1*(whF (bnF frs fb)).1:=q
 generalize (lo2 ((fb.getD i (0,1)).1*(whF (frs.getD i [])).1) ((fb.getD i (0,1)).2*(whF (frs.getD i [])).2)).1=X at *
 generalize (lo2 ((fb.getD i (0,1)).1*(whF (frs.getD i [])).1) ((fb.getD i (0,1)).2*(whF (frs.getD i [])).2)).2=Y at *
 generalize (fb.getD i (0,1)).1=b1 at *
 generalize (fb.getD i (0,1)).2=b2 at *
 generalize (whF (frs.getD i [])).1=w1 at *
 generalize (whF (frs.getD i [])).2=w2 at *
 generalize (whF (bnF frs fb)).1=W1 at *
 generalize (whF (bnF frs fb)).2=W2 at *
 generalize (whL (bnF frs fb)).getD i 0=be at *
 apply Int.eq_of_mul_eq_mul_left (show Y≠0 by omega)
 grind
noncomputable def xF (fl:Bool) (frs:List (List (Int×Int))) (fb fg:List (Int×Int)) (s:Nat->Nat) (j:Nat):Int×Int:=fov (tR (aO fl frs fb fg) s (λ i=>(aO fl frs fb fg).T s i (aO fl frs fb fg).be) frs.length j) (whF (bnF frs fb))
noncomputable def yF (fl:Bool) (frs:List (List (Int×Int))) (fb fg:List (Int×Int)) (s:Nat->Nat) (k:Nat):Int×Int:=fov (ftm (lo2 ((aO fl frs fb fg).T s frs.length (e1 k)) ((aO fl frs fb fg).D s)) (whF (frs.getD k []))) (whF fg)
theorem Ld (B:BeO frs fb fg):0<(whF (bnF frs fb)).1/\0<(whF (bnF frs fb)).2:=fG λ f hf=>by
 obtain ⟨k,hk⟩:=getElem?_of_mem hf
 have hkl:k<frs.length:=by have:=(List.getElem?_eq_some_iff.mp hk).1;rwa [fD B.lb] at this
 have hkb:k<fb.length:=by rw [B.lb];exact hkl
 rw [sC (getElem?_eq_getElem hkb) (getElem?_eq_getElem hkl)] at hk
 obtain rfl:=Option.some.inj hk
 have w:=fG λ f hf=>(B.gr _ (getElem_mem hkl) f hf).1
 exact (cG (Int.mul_pos (B.gb _ (getElem_mem hkb)).1 w.2)).pos
theorem xW (B:BeO frs fb fg) {i:Nat} (hi:i<frs.length):0<(whF (frs.getD i [])).1/\0<(whF (frs.getD i [])).2:=fG λ f hf=>(B.gr _ (by rw [getD_eq_getElem?_getD,getElem?_eq_getElem hi];exact getElem_mem hi) f hf).1
theorem wB (B:BeO frs fb fg) {i j:Nat} (hi:i<frs.length) (hj:j<fg.length):0<(rwF frs i j).2:=by
 have hm:frs.getD i []∈frs:=by rw [getD_eq_getElem?_getD,getElem?_eq_getElem hi];exact getElem_mem hi
 have hl:=B.lr _ hm
 have g:=B.gr _ hm
 unfold rwF
 generalize frs.getD i []=l at *
 have:l.getD j (0,1)∈l:=by rw [getD_eq_getElem?_getD,getElem?_eq_getElem (by omega)];exact getElem_mem _
 exact (g _ this).1
theorem Jb (B:BeO frs fb fg) (ok:(aO fl frs fb fg).Ok s) (j:Nat):0<(xF fl frs fb fg s j).2/\Int.gcd (xF fl frs fb fg s j).1 (xF fl frs fb fg s j).2=1/\0<=(xF fl frs fb fg s j).1/\(xF fl frs fb fg s j).1*((aO fl frs fb fg).D s*(whF (bnF frs fb)).1)=Lpd.spr frs.length s (λ i=>(aO fl frs fb fg).T s i (aO fl frs fb fg).be) j*(whF (bnF frs fb)).2*(xF fl frs fb fg s j).2:=by
 have w:=Ld B
 obtain ⟨e,p,c⟩:=Uq (S:=Lpd.spr frs.length s (λ i=>(aO fl frs fb fg).T s i (aO fl frs fb fg).be) j) ok.pos w.1
 exact ⟨p,c,Te ok.pos w.1 w.2 (Lpd.spr_nonneg (λ i hi=>ok.bound_nonneg hi) j),e⟩
theorem Rh (B:BeO frs fb fg) (ok:(aO fl frs fb fg).Ok s) (io:iD (aO fl frs fb fg) s) {i:Nat} (hi:i<frs.length):(iH fg.length (rwF frs i) (xF fl frs fb fg s)).1*(fb.getD i (0,1)).2<=(fb.getD i (0,1)).1*(iH fg.length (rwF frs i) (xF fl frs fb fg s)).2:=by
 have w:=Ld B
 have r:=xW B hi
 have D0:=ok.pos
 have al:=ok.allowed io (r:=i) hi
 have bv:=Mg (fl:=fl) B hi
 have hib:i<fb.length:=by rw [B.lb];exact hi
 have b0:0<(fb.getD i (0,1)).2:=(B.gb _ (by rw [getD_eq_getElem?_getD,getElem?_eq_getElem hib];exact getElem_mem hib)).1
 have e:=sA (n:=fg.length) (f:=rwF frs i) (g:=xF fl frs fb fg s) (W:=(whF (frs.getD i [])).1*(aO fl frs fb fg).D s*(whF (bnF frs fb)).1) (v:=λ j=>((whF (frs.getD i [])).2*(whF (bnF frs fb)).2)*(Lpd.spr frs.length s (λ i=>(aO fl frs fb fg).T s i (aO fl frs fb fg).be) j*(aO fl frs fb fg).a j i)) λ j hj=>by
  have h1:=Lq (fl:=fl) B hi hj
  have h2:=(Jb B ok j).2.2.2
  generalize (xF fl frs fb fg s j).1=x1 at *
  generalize (xF fl frs fb fg s j).2=x2 at *
  generalize (rwF frs i j).1=f1 at *
  generalize (rwF frs i j).2=f2 at *
  generalize (whF (frs.getD i [])).1=w1 at *
  generalize (whF (frs.getD i [])).2=w2 at *
  generalize (whF (bnF frs fb)).1=W1 at *
  generalize (whF (bnF frs fb)).2=W2 at *
  generalize (aO fl frs fb fg).a j i=a at *
  generalize Lpd.spr frs.length s (λ i=>(aO fl frs fb fg).T s i (aO fl frs fb fg).be) j=S at *
  generalize (aO fl frs fb fg).D s=D at *
  grind
 rw [Lpd.sm_mul] at e
 refine Tu (Int.mul_pos (Int.mul_pos r.1 D0) w.1) (hU (λ j hj=>wB B hi hj) λ j _=>(Jb B ok j).1) e ?_
 have al:sm fg.length (λ j=>Lpd.spr frs.length s (λ i=>(aO fl frs fb fg).T s i (aO fl frs fb fg).be) j*(aO fl frs fb fg).a j i)<=(aO fl frs fb fg).D s*(aO fl frs fb fg).be i:=al
 generalize sm fg.length (λ j=>Lpd.spr frs.length s (λ i=>(aO fl frs fb fg).T s i (aO fl frs fb fg).be) j*(aO fl frs fb fg).a j i)=zs at *
 have m:=Int.mul_le_mul_of_nonneg_left al (Int.le_of_lt (Int.mul_pos (Int.mul_pos r.2 w.2) b0))
 generalize (whF (frs.getD i [])).1=w1 at *
 generalize (whF (frs.getD i [])).2=w2 at *
 generalize (whF (bnF frs fb)).1=W1 at *
 generalize (whF (bnF frs fb)).2=W2 at *
 generalize (aO fl frs fb fg).D s=D at *
 generalize (aO fl frs fb fg).be i=be at *
 generalize (fb.getD i (0,1)).1=b1 at *
 generalize (fb.getD i (0,1)).2=b2 at *
 have e1:w2*W2*zs*b2=w2*W2*b2*zs:=by grind
 have e2:b1*(w1*D*W1)=w2*W2*b2*(D*be):=by grind
 rw [e1,e2];exact m
theorem jJm (un:UnO (aO fl frs fb fg) s none) {k:Nat} (hk:k<frs.length):0<=(aO fl frs fb fg).T s frs.length (e1 k):=by
 have:=un ((aO fl frs fb fg).n+k) (Nat.add_lt_add_left hk _)
 rwa [Lpd.cv_spare] at this
theorem Ja (B:BeO frs fb fg) (ok:(aO fl frs fb fg).Ok s) (un:UnO (aO fl frs fb fg) s none) {k:Nat} (hk:k<frs.length):0<(yF fl frs fb fg s k).2/\Int.gcd (yF fl frs fb fg s k).1 (yF fl frs fb fg s k).2=1/\0<=(yF fl frs fb fg s k).1/\(yF fl frs fb fg s k).1*((aO fl frs fb fg).D s*(whF (frs.getD k [])).2*(whF fg).1)=(aO fl frs fb fg).T s frs.length (e1 k)*(whF (frs.getD k [])).1*(whF fg).2*(yF fl frs fb fg s k).2:=by
 have r:=xW B hk
 have g:=fG λ f hf=>(B.gg f hf).1
 obtain ⟨e,p,c⟩:=fty_val (U:=(aO fl frs fb fg).T s frs.length (e1 k)) (w:=whF (frs.getD k [])) (G:=whF fg) ok.pos r.2 g.1
 refine ⟨p,c,mN (Int.mul_pos (Int.mul_pos ok.pos r.2) g.1) ?_,e⟩
 have:0<=(aO fl frs fb fg).T s frs.length (e1 k)*(whF (frs.getD k [])).1*(whF fg).2*(fov (ftm (lo2 ((aO fl frs fb fg).T s frs.length (e1 k)) ((aO fl frs fb fg).D s)) (whF (frs.getD k []))) (whF fg)).2:=Int.mul_nonneg (Int.mul_nonneg (Int.mul_nonneg (jJm un hk) (Int.le_of_lt r.1)) (Int.le_of_lt g.2)) (Int.le_of_lt p)
 rw [← e] at this
 exact this
theorem ys_pay (B:BeO frs fb fg) (ok:(aO fl frs fb fg).Ok s) (un:UnO (aO fl frs fb fg) s none) {j:Nat} (hj:j<fg.length):(fg.getD j (0,1)).1*(iH frs.length (yF fl frs fb fg s) (λ i=>rwF frs i j)).2<=(iH frs.length (yF fl frs fb fg s) (λ i=>rwF frs i j)).1*(fg.getD j (0,1)).2:=by
 have g:=fG λ f hf=>(B.gg f hf).1
 have D0:=ok.pos
 have gv:=Ge (fl:=fl) B hj
 have h0:0<(fg.getD j (0,1)).2:=(B.gg _ (by rw [getD_eq_getElem?_getD,getElem?_eq_getElem hj];exact getElem_mem hj)).1
 have e:=sA (n:=frs.length) (f:=yF fl frs fb fg s) (g:=λ i=>rwF frs i j) (W:=(aO fl frs fb fg).D s*(whF fg).1) (v:=λ i=>(whF fg).2*((aO fl frs fb fg).a j i*(aO fl frs fb fg).T s frs.length (e1 i))) λ i hi=>by
  have h1:=Lq (fl:=fl) B hi hj
  have h2:=(Ja B ok un hi).2.2.2
  have r:=xW B hi
  show (yF fl frs fb fg s i).1*(rwF frs i j).1*_=_*((yF fl frs fb fg s i).2*(rwF frs i j).2)
  generalize (yF fl frs fb fg s i).1=x1 at *
  generalize (yF fl frs fb fg s i).2=x2 at *
  generalize (rwF frs i j).1=f1 at *
  generalize (rwF frs i j).2=f2 at *
  generalize (whF (frs.getD i [])).1=w1 at *
  generalize (whF (frs.getD i [])).2=w2 at *
  generalize (whF fg).1=G1 at *
  generalize (whF fg).2=G2 at *
  generalize (aO fl frs fb fg).a j i=a at *
  generalize (aO fl frs fb fg).T s frs.length (e1 i)=U at *
  generalize (aO fl frs fb fg).D s=D at *
  apply Int.eq_of_mul_eq_mul_left (show w2≠0 by omega)
  grind
 rw [Lpd.sm_mul] at e
 refine prdF_ge (Int.mul_pos D0 g.1) (hU (λ i hi=>(Ja B ok un hi).1) λ i hi=>wB B hi hj) e ?_
 have go:=Lpd.goal_of (L:=aO fl frs fb fg) (s:=s) ((aO fl frs fb fg).cv j)
 have hc:=un j (show j<fg.length+frs.length by omega)
 have ecv:(aO fl frs fb fg).cv j=(aO fl frs fb fg).a j:=by unfold Lpd.cv;rw [if_pos (show j<(aO fl frs fb fg).n from hj)]
 rw [go,ecv] at hc
 have hc:0<=(sm frs.length λ k=>(aO fl frs fb fg).a j k*(aO fl frs fb fg).T s frs.length (e1 k))+(aO fl frs fb fg).a j frs.length*(aO fl frs fb fg).D s:=hc
 generalize (sm frs.length λ k=>(aO fl frs fb fg).a j k*(aO fl frs fb fg).T s frs.length (e1 k))=zs at *
 generalize (aO fl frs fb fg).a j frs.length=am at *
 generalize (aO fl frs fb fg).D s=D at *
 generalize (whF fg).1=G1 at *
 generalize (whF fg).2=G2 at *
 generalize (fg.getD j (0,1)).1=h1 at *
 generalize (fg.getD j (0,1)).2=h2 at *
 have m:=Int.mul_le_mul_of_nonneg_left (show - am*D<=zs by have:- am*D = - (am*D):=Int.neg_mul _ _;omega) (Int.le_of_lt (Int.mul_pos g.2 h0))
 have e1:h1*(D*G1)=G2*h2*(- am*D):=by grind
 have e2:G2*zs*h2=G2*h2*zs:=by grind
 rw [e1,e2];exact m
theorem Wy (B:BeO frs fb fg) (ok:(aO fl frs fb fg).Ok s) (io:iD (aO fl frs fb fg) s) (un:UnO (aO fl frs fb fg) s none) :
  (iH fg.length (λ j=>fg.getD j (0,1)) (xF fl frs fb fg s)).1*(iH frs.length (λ i=>fb.getD i (0,1)) (yF fl frs fb fg s)).2=(iH frs.length (λ i=>fb.getD i (0,1)) (yF fl frs fb fg s)).1*(iH fg.length (λ j=>fg.getD j (0,1)) (xF fl frs fb fg s)).2:=by
 have g:=fG λ f hf=>(B.gg f hf).1
 have w:=Ld B
 have D0:=ok.pos
 have q1:=sA (n:=fg.length) (f:=λ j=>fg.getD j (0,1)) (g:=xF fl frs fb fg s) (W:=(whF fg).1*(aO fl frs fb fg).D s*(whF (bnF frs fb)).1) (v:=λ j=>(- ((whF fg).2*(whF (bnF frs fb)).2))*(Lpd.spr frs.length s (λ i=>(aO fl frs fb fg).T s i (aO fl frs fb fg).be) j*(aO fl frs fb fg).a j frs.length)) λ j hj=>by
  have h1:=Ge (fl:=fl) B hj
  have h2:=(Jb B ok j).2.2.2
  show (fg.getD j (0,1)).1*(xF fl frs fb fg s j).1*_=_*((fg.getD j (0,1)).2*(xF fl frs fb fg s j).2)
  generalize (xF fl frs fb fg s j).1=x1 at *
  generalize (xF fl frs fb fg s j).2=x2 at *
  generalize (fg.getD j (0,1)).1=f1 at *
  generalize (fg.getD j (0,1)).2=f2 at *
  generalize (whF fg).1=G1 at *
  generalize (whF fg).2=G2 at *
  generalize (whF (bnF frs fb)).1=W1 at *
  generalize (whF (bnF frs fb)).2=W2 at *
  generalize (aO fl frs fb fg).a j frs.length=a at *
  generalize Lpd.spr frs.length s (λ i=>(aO fl frs fb fg).T s i (aO fl frs fb fg).be) j=S at *
  generalize (aO fl frs fb fg).D s=D at *
  grind
 have q2:=sA (n:=frs.length) (f:=λ i=>fb.getD i (0,1)) (g:=yF fl frs fb fg s) (W:=(whF fg).1*(aO fl frs fb fg).D s*(whF (bnF frs fb)).1) (v:=λ i=>((whF fg).2*(whF (bnF frs fb)).2)*((aO fl frs fb fg).be i*(aO fl frs fb fg).T s frs.length (e1 i))) λ i hi=>by
  have h1:=Mg (fl:=fl) B hi
  have h2:=(Ja B ok un hi).2.2.2
  have r:=xW B hi
  show (fb.getD i (0,1)).1*(yF fl frs fb fg s i).1*_=_*((fb.getD i (0,1)).2*(yF fl frs fb fg s i).2)
  generalize (yF fl frs fb fg s i).1=x1 at *
  generalize (yF fl frs fb fg s i).2=x2 at *
  generalize (fb.getD i (0,1)).1=b1 at *
  generalize (fb.getD i (0,1)).2=b2 at *
  generalize (whF (frs.getD i [])).1=w1 at *
  generalize (whF (frs.getD i [])).2=w2 at *
  generalize (whF fg).1=G1 at *
  generalize (whF fg).2=G2 at *
  generalize (whF (bnF frs fb)).1=W1 at *
  generalize (whF (bnF frs fb)).2=W2 at *
  generalize (aO fl frs fb fg).be i=be at *
  generalize (aO fl frs fb fg).T s frs.length (e1 i)=U at *
  generalize (aO fl frs fb fg).D s=D at *
  apply Int.eq_of_mul_eq_mul_left (show w1*w2≠0 from Int.ne_of_gt (Int.mul_pos r.1 r.2))
  grind
 rw [Lpd.sm_mul] at q1 q2
 have be0:(aO fl frs fb fg).be frs.length=0:=by
  show (whL (bnF frs fb)).getD frs.length 0=0
  rw [getD_eq_getElem?_getD,getElem?_eq_none (by rw [gA,fD B.lb];exact Nat.le_refl _)];rfl
 have ea:(sm fg.length λ j=>Lpd.spr frs.length s (λ i=>(aO fl frs fb fg).T s i (aO fl frs fb fg).be) j*(aO fl frs fb fg).a j frs.length) = - (aO fl frs fb fg).T s frs.length (aO fl frs fb fg).be:=ok.earned io be0
 have go:=Lpd.goal_of (L:=aO fl frs fb fg) (s:=s) (aO fl frs fb fg).be
 have go:(aO fl frs fb fg).T s frs.length (aO fl frs fb fg).be=(sm frs.length λ k=>(aO fl frs fb fg).be k*(aO fl frs fb fg).T s frs.length (e1 k))+(aO fl frs fb fg).be frs.length*(aO fl frs fb fg).D s:=go
 rw [be0,Int.zero_mul,Int.add_zero] at go
 rw [ea] at q1
 rw [← go] at q2
 have z:=Int.mul_pos (Int.mul_pos g.1 D0) w.1
 generalize (iH fg.length (λ j=>fg.getD j (0,1)) (xF fl frs fb fg s)).1=P1 at *
 generalize (iH fg.length (λ j=>fg.getD j (0,1)) (xF fl frs fb fg s)).2=P2 at *
 generalize (iH frs.length (λ i=>fb.getD i (0,1)) (yF fl frs fb fg s)).1=R1 at *
 generalize (iH frs.length (λ i=>fb.getD i (0,1)) (yF fl frs fb fg s)).2=R2 at *
 generalize (whF fg).1*(aO fl frs fb fg).D s*(whF (bnF frs fb)).1=Z at *
 generalize (aO fl frs fb fg).T s frs.length (aO fl frs fb fg).be=tb at *
 apply Int.eq_of_mul_eq_mul_left (show Z≠0 by omega)
 grind
theorem Nw (ok:(aO fl frs fb fg).Ok s) {c:Nat} (un:UnO (aO fl frs fb fg) s (some c)) (j:Nat):0<(gY (aO fl frs fb fg) s c j).2/\Int.gcd (gY (aO fl frs fb fg) s c j).1 (gY (aO fl frs fb fg) s c j).2=1/\0<=(gY (aO fl frs fb fg) s c j).1/\(gY (aO fl frs fb fg) s c j).1*(aO fl frs fb fg).D s=(Lpd.spr frs.length s (λ i=>- (aO fl frs fb fg).T s i ((aO fl frs fb fg).cv c)) j+if j=c then (aO fl frs fb fg).D s else 0)*(gY (aO fl frs fb fg) s c j).2:=by
 have D0:=ok.pos
 have l:=cG (t:=Lpd.spr frs.length s (λ i=>- (aO fl frs fb fg).T s i ((aO fl frs fb fg).cv c)) j+if j=c then (aO fl frs fb fg).D s else 0) D0
 refine ⟨l.pos,l.cop,sP D0 (Int.add_nonneg (Lpd.spr_nonneg (λ i hi=>?_) j) ?_),l.eq⟩
 ·have:=un.2.2 i hi;omega
 ·split
  ·omega
  ·exact Int.le_refl _
theorem Mo (B:BeO frs fb fg) (ok:(aO fl frs fb fg).Ok s) (io:iD (aO fl frs fb fg) s) {c:Nat} (un:UnO (aO fl frs fb fg) s (some c)) {i:Nat} (hi:i<frs.length):(iH fg.length (rwF frs i) (gY (aO fl frs fb fg) s c)).1<=0:=by
 have r:=xW B hi
 have D0:=ok.pos
 have al:=ok.ways_row io (c:=c) (r:=i) un.2.2 hi
 have al:(sm fg.length λ j=>(Lpd.spr frs.length s (λ i=>- (aO fl frs fb fg).T s i ((aO fl frs fb fg).cv c)) j+if j=c then (aO fl frs fb fg).D s else 0)*(aO fl frs fb fg).a j i)<=0:=al
 have e:=sA (n:=fg.length) (f:=rwF frs i) (g:=gY (aO fl frs fb fg) s c) (W:=(whF (frs.getD i [])).1*(aO fl frs fb fg).D s) (v:=λ j=>(whF (frs.getD i [])).2*((Lpd.spr frs.length s (λ i=>- (aO fl frs fb fg).T s i ((aO fl frs fb fg).cv c)) j+if j=c then (aO fl frs fb fg).D s else 0)*(aO fl frs fb fg).a j i)) λ j hj=>by
  have h1:=Lq (fl:=fl) B hi hj
  have h2:=(Nw ok un j).2.2.2
  generalize (Lpd.spr frs.length s (λ i=>- (aO fl frs fb fg).T s i ((aO fl frs fb fg).cv c)) j+if j=c then (aO fl frs fb fg).D s else 0)=S at *
  generalize (gY (aO fl frs fb fg) s c j).1=x1 at *
  generalize (gY (aO fl frs fb fg) s c j).2=x2 at *
  generalize (rwF frs i j).1=f1 at *
  generalize (rwF frs i j).2=f2 at *
  generalize (whF (frs.getD i [])).1=w1 at *
  generalize (whF (frs.getD i [])).2=w2 at *
  generalize (aO fl frs fb fg).a j i=a at *
  generalize (aO fl frs fb fg).D s=D at *
  grind
 rw [Lpd.sm_mul] at e
 have p:=hU (n:=fg.length) (f:=rwF frs i) (g:=gY (aO fl frs fb fg) s c) (λ j hj=>wB B hi hj) λ j _=>(Nw ok un j).1
 have:=Tu (c:=(0,1)) (Int.mul_pos r.1 D0) p e (by
  show _*1<=0*_
  rw [Int.mul_one,Int.zero_mul]
  exact Int.mul_nonpos_of_nonneg_of_nonpos (Int.le_of_lt r.2) al)
 simpa using this
theorem Ib (B:BeO frs fb fg) (ok:(aO fl frs fb fg).Ok s) (io:iD (aO fl frs fb fg) s) {c:Nat} (un:UnO (aO fl frs fb fg) s (some c)):0<(iH fg.length (λ j=>fg.getD j (0,1)) (gY (aO fl frs fb fg) s c)).1:=by
 have g:=fG λ f hf=>(B.gg f hf).1
 have D0:=ok.pos
 have al:=ok.ways_goal io (c:=c) un.1
 have al:(sm fg.length λ j=>(Lpd.spr frs.length s (λ i=>- (aO fl frs fb fg).T s i ((aO fl frs fb fg).cv c)) j+if j=c then (aO fl frs fb fg).D s else 0)*(aO fl frs fb fg).a j frs.length)=(aO fl frs fb fg).T s frs.length ((aO fl frs fb fg).cv c):=al
 have e:=sA (n:=fg.length) (f:=λ j=>fg.getD j (0,1)) (g:=gY (aO fl frs fb fg) s c) (W:=(whF fg).1*(aO fl frs fb fg).D s) (v:=λ j=>(- (whF fg).2)*((Lpd.spr frs.length s (λ i=>- (aO fl frs fb fg).T s i ((aO fl frs fb fg).cv c)) j+if j=c then (aO fl frs fb fg).D s else 0)*(aO fl frs fb fg).a j frs.length)) λ j hj=>by
  have h1:=Ge (fl:=fl) B hj
  have h2:=(Nw ok un j).2.2.2
  show (fg.getD j (0,1)).1*(gY (aO fl frs fb fg) s c j).1*_=_*((fg.getD j (0,1)).2*(gY (aO fl frs fb fg) s c j).2)
  generalize (Lpd.spr frs.length s (λ i=>- (aO fl frs fb fg).T s i ((aO fl frs fb fg).cv c)) j+if j=c then (aO fl frs fb fg).D s else 0)=S at *
  generalize (gY (aO fl frs fb fg) s c j).1=x1 at *
  generalize (gY (aO fl frs fb fg) s c j).2=x2 at *
  generalize (fg.getD j (0,1)).1=f1 at *
  generalize (fg.getD j (0,1)).2=f2 at *
  generalize (whF fg).1=G1 at *
  generalize (whF fg).2=G2 at *
  generalize (aO fl frs fb fg).a j frs.length=a at *
  generalize (aO fl frs fb fg).D s=D at *
  grind
 rw [Lpd.sm_mul,al] at e
 have p:=hU (n:=fg.length) (f:=λ j=>fg.getD j (0,1)) (g:=gY (aO fl frs fb fg) s c) (λ j hj=>(B.gg _ (by rw [getD_eq_getElem?_getD,getElem?_eq_getElem hj];exact getElem_mem hj)).1) λ j _=>(Nw ok un j).1
 have hn:=un.2.1
 have hn:(aO fl frs fb fg).T s frs.length ((aO fl frs fb fg).cv c)<0:=hn
 have z:0<(- (whF fg).2)*(aO fl frs fb fg).T s frs.length ((aO fl frs fb fg).cv c)*(iH fg.length (λ j=>fg.getD j (0,1)) (gY (aO fl frs fb fg) s c)).2:=Int.mul_pos (Int.mul_pos_of_neg_of_neg (by omega) hn) p
 rw [← e] at z
 have q:=Int.mul_pos g.1 D0
 refine Classical.byContradiction λ hz=>?_
 have:=Int.mul_nonpos_of_nonpos_of_nonneg (a:=(iH fg.length (λ j=>fg.getD j (0,1)) (gY (aO fl frs fb fg) s c)).1) (by omega) (Int.le_of_lt q)
 omega
end
noncomputable def Fok (f:Int×Int):Prop:=0<f.2/\Int.gcd f.1 f.2=1/\0<=f.1
section
variable {fl:Bool} {frs:List (List (Int×Int))} {fb fg:List (Int×Int)} {s:Nat->Nat}
end
theorem gZ.set {K:W.Frag} {H:Hp} {q:Addr} {g:List (Int×Int)} (hq:∃ qs,H q=some (.lst (List.map V.ref qs))/\bI K H qs g):∀ {ps:List Addr} {rs:List (List (Int×Int))} (i:Nat),gZ K H ps rs->gZ K H (ps.set i q) (rs.set i g)
 | [],[],_,_=>trivial
 | _::_,_::_,0,h=>⟨hq,h.2⟩
 | _::_,_::_,i+1,h=>⟨h.1,gZ.set hq i h.2⟩
 | [],_::_,_,h=>h.elim
 | _::_,[],_,h=>h.elim
theorem Ep (c:Int) (k:Nat) (hk:0<k):∃ m:Nat,1+c % (k:Int)=(m:Int)/\1<=m/\m<=k:=by
 have h1:=Int.emod_nonneg c (show (k:Int)≠0 by omega)
 have h2:=Int.emod_lt_of_pos c (show (0:Int)<k by omega)
 exact ⟨(1+c % (k:Int)).toNat,by omega,by omega,by omega⟩
namespace Lpd
noncomputable def rowL (L:Lpd) (i:Nat):List Int:=ofF L.n (λ j=>L.a j i)++[L.be i]
theorem rowL_length (L:Lpd) (i:Nat):(L.rowL i).length=L.n+1:=by unfold rowL;rw [length_append,aJ];rfl
theorem rowL_get (L:Lpd) (i:Nat) {j:Nat} (h:j<L.n):(L.rowL i)[j]?=some (L.a j i):=by
 unfold rowL;rw [getElem?_append_left (by rw [aJ];exact h),cF _ h]
theorem rowL_last (L:Lpd) (i:Nat):(L.rowL i)[L.n]?=some (L.be i):=by
 unfold rowL;rw [getElem?_append_right (by rw [aJ];exact Nat.le_refl _),aJ,Nat.sub_self];rfl
theorem rowL_mem {L:Lpd} {i:Nat} {x:Int} (h:x∈L.rowL i):(∃ j,j<L.n/\x=L.a j i)∨x=L.be i:=by
 unfold rowL at h
 rcases mem_append.mp h with h | h
 ·exact .inl (gG h)
 ·exact .inr (mem_singleton.mp h)
theorem Wu (L:Lpd):L.flip.flip=L:=by
 unfold flip
 cases L with
 | mk m n a be fl=>cases fl <;> rfl
theorem flip_kept (L:Lpd) (s:Nat->Nat) (i:Nat):L.flip.keptL s i=(L.keptL s i).map λ x=>-x:=by
 unfold keptL
 rw [map_append]
 have e1:(ofF (L.m+1) λ k=>L.T s i (e1 k)).map (λ x=>-x)=ofF (L.m+1) λ k=>- L.T s i (e1 k):=by
  unfold ofF;rw [List.map_map];rfl
 rw [e1]
 show ofF (L.m+1) (λ k=>L.flip.T s i (My.e1 k))++[L.flip.T s i L.be]=_
 rw [Fl,fN λ k _=>Fl]
 rfl
theorem wO {L:Lpd} {s:Nat->Nat} (o:L.flip.Okn s):L.Okn s:=by
 have:=jJe o
 rwa [Wu] at this
theorem Lim.flip {L:Lpd} (h:L.Lim):L.flip.Lim :=
 ⟨h.m1,h.n1,h.ba,λ s i c o hi=>by rw [Fl];exact (h.bc s i c (wO o) hi).neg,λ s i k o hi hk=>by rw [Fl];exact (h.bk s i k (wO o) hi hk).neg,λ s i o hi=>by rw [Fl];exact (h.bb s i (wO o) hi).neg,λ s o=>by rw [flip_D];exact (h.bD s (wO o)).neg⟩
end Lpd
noncomputable def ib (n:Int):Nat:=Builtin.Int.intBits n
theorem Jd {n:Int} {q:Nat} (h:BB q n):ib n<=q:=mW h
theorem Tp (n:Int):BB (ib n) n:=by
 unfold ib BB Builtin.Int.intBits
 by_cases h:n.natAbs=0
 ·rw [h];exact Nat.two_pow_pos _
 ·rw [if_neg (by simpa using h)]
  exact Nat.lt_log2_self
theorem Yi (n:Int):ib (-n)=ib n:=by
 have h1:=Jd (n:=-n) (q:=ib n) (Tp n).neg
 have h2:=Jd (n:=n) (q:=ib (-n)) (by have:=(Tp (-n)).neg;rwa [Int.neg_neg] at this)
 omega
structure Kr (n b r:Int):Prop where
 zz:n=0->r=0
 nn:0<=n->0<=r
 bb:∀ q:Nat,(ib n:Int)+b<=q->BB q r
theorem Xw {n b:Int} (hb:0<=b) (hn:0<=n):Kr n b (n*2 ^ b.toNat):=by
 refine ⟨λ z=>by rw [z,Int.zero_mul],λ _=>Int.mul_nonneg hn (Int.le_of_lt (Int.pow_pos (by decide))),λ q hq=>?_⟩
 refine BB.mono (m:=ib n+b.toNat) ?_ (by omega)
 show (n*2 ^ b.toNat).natAbs<2 ^ (ib n+b.toNat)
 rw [Int.natAbs_mul,Nat.pow_add,Int.natAbs_pow]
 exact Nat.mul_lt_mul_of_pos_right (Tp n) (Nat.two_pow_pos _)
theorem Oj {n b:Int} (hb:0<=b) (hn:0<=n):Kr n (-b) (n.fdiv (2 ^ b.toNat)):=by
 obtain ⟨m,rfl⟩:∃ m:Nat,n=(m:Int):=⟨n.toNat,by omega⟩
 have e:((m:Int)).fdiv (2 ^ b.toNat)=((m / 2 ^ b.toNat:Nat):Int):=by
  rw [Int.fdiv_eq_ediv_of_nonneg _ (Int.le_of_lt (Int.pow_pos (by decide)))]
  push_cast;rfl
 rw [e]
 refine ⟨λ z=>by rw [show m=0 by omega,Nat.zero_div];rfl,λ _=>Int.natCast_nonneg _,λ q hq=>?_⟩
 show ((m / 2 ^ b.toNat:Nat):Int).natAbs<2 ^ q
 rw [Int.natAbs_natCast]
 have h:m<2 ^ ib m:=Tp (m:Int)
 refine (Nat.div_lt_iff_lt_mul (Nat.two_pow_pos _)).mpr (Nat.lt_of_lt_of_le h ?_)
 rw [← Nat.pow_add]
 exact Nat.pow_le_pow_right (by decide) (by omega)
theorem str_neg {n b r:Int} (h:Kr (-n) b r) (hn:n<0)   : Kr n b (-r):=⟨λ z=>by omega,λ z=>by omega,λ q hq=>(h.bb q (by rw [Yi];exact hq)).neg⟩
noncomputable def LpR (rows:List (List Int)) (m n:Nat):Lpd:=⟨m,n,λ j i=>(rows.getD i []).getD j 0,λ i=>(rows.getD i []).getD n 0,false⟩
theorem jJn {rows:List (List Int)} {m n:Nat} (h1:rows.length=m+1) (h2:∀ r∈rows,r.length=n+1):ofF (m+1) (LpR rows m n).rowL=rows:=by
 refine List.ext_getElem? λ i=>?_
 by_cases hi:i<m+1
 ·have e:rows[i]?=some rows[i]:=getElem?_eq_getElem (by omega)
  rw [cF _ hi,e]
  congr 1
  have hl:=h2 _ (mem_of_getElem? e)
  have eg:rows.getD i []=rows[i]:=by rw [getD_eq_getElem?_getD,e];rfl
  refine List.ext_getElem? λ j=>?_
  by_cases hj:j<n
  ·rw [Lpd.rowL_get _ _ (show j<(LpR rows m n).n from hj)]
   show some ((rows.getD i []).getD j 0)=_
   rw [eg,zY (by omega)]
  ·by_cases hjn:j=n
   ·subst hjn
    have:=(LpR rows m j).rowL_last i
    rw [show (LpR rows m j).n=j from rfl] at this
    rw [this]
    show some ((rows.getD i []).getD j 0)=_
    rw [eg,zY (by omega)]
   ·rw [getElem?_eq_none (by rw [Lpd.rowL_length];show n+1<=j;omega),getElem?_eq_none (by omega)]
 ·rw [getElem?_eq_none (by rw [aJ];omega),getElem?_eq_none (by omega)]
theorem uQ {xs:List V}:xO xs none (some (-1))=xs.take (xs.length - 1):=by
 unfold xO
 rw [HT.sIx_none,List.drop_zero,Nat.sub_zero]
 congr 1
 unfold HT.sIx
 simp
 omega
theorem cut_row (L:Lpd) (i:Nat):xO (List.map V.int (L.rowL i)) none (some (-1))=List.map V.int (ofF L.n λ j=>L.a j i):=by
 rw [uQ,length_map,Lpd.rowL_length,Nat.add_sub_cancel,← map_take]
 congr 1
 unfold Lpd.rowL
 rw [List.take_append_of_le_length (by rw [aJ];exact Nat.le_refl _),take_of_length_le (by rw [aJ];exact Nat.le_refl _)]
structure tS (H:Hp) (a:Addr) (rps:List Addr) (L:Lpd):Prop where
 ha:H a=some (.lst (List.map V.ref rps))
 hr:bJ H rps (ofF (L.m+1) L.rowL)
theorem tS.same {H H':Hp} {a:Addr} {rps:List Addr} {L:Lpd} (h:tS H a rps L) (s:aI H H'):tS H' a rps L:=⟨s _ _ h.ha,h.hr.same s⟩
theorem tS.len {H:Hp} {a:Addr} {rps:List Addr} {L:Lpd} (h:tS H a rps L):rps.length=L.m+1:=by rw [h.hr.length,aJ]
theorem tS.row {H:Hp} {a:Addr} {rps:List Addr} {L:Lpd} (h:tS H a rps L) {i:Nat} (hi:i<=L.m):∃ p,rps[i]?=some p/\H p=some (.lst (List.map V.int (L.rowL i))):=by
 have hl:=h.len
 obtain ⟨p,hp⟩:∃ p,rps[i]?=some p:=⟨_,getElem?_eq_getElem (by omega)⟩
 obtain ⟨r,e1,e2⟩:=h.hr.get hp
 obtain ⟨_,rfl⟩:=dB e1
 exact ⟨p,hp,e2⟩
theorem tS.inv {H:Hp} {a:Addr} {rps:List Addr} {L:Lpd} (h:tS H a rps L) {i:Nat} {p:Addr} (hp:rps[i]?=some p):i<=L.m/\H p=some (.lst (List.map V.int (L.rowL i))):=by
 obtain ⟨r,e1,e2⟩:=h.hr.get hp
 obtain ⟨h1,rfl⟩:=dB e1
 exact ⟨by omega,e2⟩
theorem uM {α:Type} {l:List α} {x y:α} {h:Nat} (e:(l++[x])[h]?=some y):(l[h]?=some y/\h<l.length)∨(h=l.length/\y=x):=by
 by_cases hlt:h<l.length
 ·rw [getElem?_append_left hlt] at e
  exact .inl ⟨e,hlt⟩
 ·have hh:h=l.length:=by have:=(List.getElem?_eq_some_iff.mp e).1;rw [length_append] at this;simp at this;omega
  rw [getElem?_append_right (by omega),hh,Nat.sub_self] at e
  cases e
  exact .inr ⟨hh,rfl⟩
noncomputable def va (f:Int×Int):Rat:=(f.1:Rat) / (f.2:Rat)
theorem fK {z:Int} (h:0<z):(0:Rat)<z:=by exact_mod_cast h
theorem iK {f:Int×Int} (h:0<f.2):va f*f.2=f.1:=by
 unfold va
 have:=fK h
 exact Rat.div_mul_cancel (by grind)
theorem mC {a b c:Rat} (hc:0<c) (h:a*c=b):a=b / c:=by
 have:c≠0:=by grind
 rw [← h,Rat.div_def,Rat.mul_assoc,Rat.mul_inv_cancel _ this,Rat.mul_one]
theorem sM {a b c:Rat} (hc:0<c) (h:a*c=b*c):a=b:=by
 have h1:=mC hc h
 have h2:=mC (a:=b) hc rfl
 rw [h1,← h2]
theorem va_of {f:Int×Int} {t b:Int} (hf:0<f.2) (hb:0<b) (e:f.1*b=t*f.2):va f=(t:Rat) / b:=by
 have h1:=iK hf
 have h2:=fK hf
 have h3:=fK hb
 have e':(f.1:Rat)*b=t*f.2:=by exact_mod_cast congrArg (λ z:Int=>(z:Rat)) e
 refine mC h3 (sM h2 ?_)
 rw [← e',← h1];grind
theorem Tm {t b x y:Int} (hb:0<b) (l:Lo t b x y):va (x,y)=(t:Rat) / b:=va_of l.pos hb l.eq
theorem Cu {f g:Int×Int} (hf:0<f.2) (hg:0<g.2):va f<=va g↔f.1*g.2<=g.1*f.2:=by
 have h1:=iK hf
 have h2:=iK hg
 have p1:=fK hf
 have p2:=fK hg
 have pp:=Rat.mul_pos p1 p2
 have e1:va f*((f.2:Rat)*g.2)=((f.1*g.2:Int):Rat):=by rw [Rat.intCast_mul,← h1];grind
 have e2:va g*((f.2:Rat)*g.2)=((g.1*f.2:Int):Rat):=by rw [Rat.intCast_mul,← h2];grind
 constructor
 ·intro h
  have:=Rat.mul_le_mul_of_nonneg_right h (c:=(f.2:Rat)*g.2) (by grind)
  rw [e1,e2] at this
  exact Rat.intCast_le_intCast.mp this
 ·intro h
  refine Rat.le_of_mul_le_mul_right (c:=(f.2:Rat)*g.2) ?_ pp
  rw [e1,e2]
  exact Rat.intCast_le_intCast.mpr h
theorem xS:va (1,1)=1:=by unfold va;decide +kernel
theorem zC:va (0,1)=0:=by unfold va;decide +kernel
theorem oG {f:Int×Int} (hf:0<f.2) (h:0<=f.1):0<=va f:=by
 have:=(Cu (f:=(0,1)) (g:=f) (by decide) hf).mpr (by simpa using h)
 rwa [zC] at this
noncomputable def rsm:Nat->(Nat->Rat)->Rat
 | 0,_=>0
 | n+1,f=>rsm n f+f n
theorem eJ {f g:Nat->Rat}:∀ {n:Nat},(∀ k,k<n->f k=g k)->rsm n f=rsm n g
 | 0,_=>rfl
 | n+1,h=>by
  show rsm n f+f n=rsm n g+g n
  rw [eJ (n:=n) λ k hk=>h k (by omega),h n (by omega)]
theorem kT {f:Nat->Rat} {c:Rat}:∀ {n:Nat},rsm n (λ k=>f k*c)=rsm n f*c
 | 0=>by show (0:Rat)=0*c;grind
 | n+1=>by
  show rsm n (λ k=>f k*c)+f n*c=(rsm n f+f n)*c
  rw [kT];grind
theorem Lp {f g:Nat->Rat}:∀ {n:Nat},rsm n (λ k=>f k+g k)=rsm n f+rsm n g
 | 0=>by show (0:Rat)=0+0;grind
 | n+1=>by
  show rsm n (λ k=>f k+g k)+(f n+g n)=rsm n f+f n+(rsm n g+g n)
  rw [Lp];grind
theorem Xy {f g:Nat->Rat}:∀ {n:Nat},(∀ k,k<n->f k<=g k)->rsm n f<=rsm n g
 | 0,_=>by show (0:Rat)<=0;grind
 | n+1,h=>by
  show rsm n f+f n<=rsm n g+g n
  have h1:=Xy (n:=n) λ k hk=>h k (by omega)
  have h2:=h n (by omega)
  grind
theorem pE {f:Nat->Rat}:∀ {n:Nat},(∀ k,k<n->0<=f k)->0<=rsm n f
 | 0,_=>by show (0:Rat)<=0;grind
 | n+1,h=>by
  show 0<=rsm n f+f n
  have h1:=pE (n:=n) λ k hk=>h k (by omega)
  have h2:=h n (by omega)
  grind
theorem Oq {f:Nat->Rat}:∀ {n:Nat},(∀ k,k<n->0<=f k)->rsm n f=0->∀ k,k<n->f k=0
 | 0,_,_,_,hk=>absurd hk (Nat.not_lt_zero _)
 | n+1,h,e,k,hk=>by
  have e:rsm n f+f n=0:=e
  have h1:=pE (n:=n) λ k hk=>h k (by omega)
  have h2:=h n (by omega)
  by_cases hn:k=n
  ·subst hn;grind
  ·exact Oq (n:=n) (λ k hk=>h k (by omega)) (by grind) k (by omega)
theorem Os {f:Nat->Rat}:∀ {n:Nat},(∀ k,k<n->f k=0)->rsm n f=0
 | 0,_=>rfl
 | n+1,h=>by
  show rsm n f+f n=0
  rw [Os (n:=n) λ k hk=>h k (by omega),h n (by omega)];grind
theorem xR {f g:Nat->Int×Int}:∀ {n:Nat},(∀ k,k<n->0<(f k).2)->(∀ k,k<n->0<(g k).2)->va (iH n f g)=rsm n λ k=>va (f k)*va (g k)
 | 0,_,_=>zC
 | n+1,hf,hg=>by
  have ih:=xR (n:=n) (λ k hk=>hf k (by omega)) (λ k hk=>hg k (by omega))
  have p:=hU (n:=n) (λ k hk=>hf k (by omega)) (λ k hk=>hg k (by omega))
  have f2:=hf n (by omega)
  have g2:=hg n (by omega)
  show va (iH (n+1) f g)=rsm n (λ k=>va (f k)*va (g k))+va (f n)*va (g n)
  rw [← ih]
  have a1:=iK p
  have a2:=iK f2
  have a3:=iK g2
  have q:0<(iH (n+1) f g).2:=Int.mul_pos (Int.mul_pos p f2) g2
  refine sM (fK q) ?_
  rw [iK q]
  show (((iH n f g).1*(f n).2*(g n).2+(f n).1*(g n).1*(iH n f g).2:Int):Rat)=(va (iH n f g)+va (f n)*va (g n))*(((iH n f g).2*(f n).2*(g n).2:Int):Rat)
  simp only [Rat.intCast_add,Rat.intCast_mul]
  rw [← a1,← a2,← a3];grind
structure Gm (m n:Nat) (r:Nat->Nat->Rat) (v:Rat) (p q:Nat->Rat):Prop where
 p0:∀ i,i<m->0<=p i
 p1:rsm m p=1
 q0:∀ j,j<n->0<=q j
 q1:rsm n q=1
 lo:∀ j,j<n->v<=rsm m λ i=>p i*r i j
 hi:∀ i,i<m->(rsm n λ j=>r i j*q j)<=v
theorem xY (a b:Rat):a / b=a*b⁻¹:=Rat.div_def a b
theorem game_of {m n:Nat} {a:Nat->Nat->Rat} {x y:Nat->Rat} {S:Rat} (l:Rat) (S0:0<S) (x0:∀ j,j<n->0<=x j) (y0:∀ i,i<m->0<=y i) (hx:∀ i,i<m->(rsm n λ j=>a i j*x j)<=1) (hy:∀ j,j<n->1<=rsm m λ i=>y i*a i j) (sx:rsm n x=S) (sy:rsm m y=S) :
  Gm m n (λ i j=>a i j - l) (1 / S - l) (λ i=>y i / S) (λ j=>x j / S):=by
 have sne:S≠0:=by grind
 have sc:S*S⁻¹=1:=Rat.mul_inv_cancel _ sne
 have i0:0<=S⁻¹:=by have:=Rat.inv_pos.mpr S0;grind
 have py:∀ {k:Nat} {f:Nat->Rat},rsm k (λ i=>f i / S)=rsm k f*S⁻¹:=λ {k f}=>by
  rw [← kT];exact eJ λ i _=>xY _ _
 refine ⟨λ i hi=>?_,?_,λ j hj=>?_,?_,λ j hj=>?_,λ i hi=>?_⟩
 ·rw [xY];exact Rat.mul_nonneg (y0 i hi) i0
 ·rw [py,sy,sc]
 ·rw [xY];exact Rat.mul_nonneg (x0 j hj) i0
 ·rw [py,sx,sc]
 ·have e:(rsm m λ i=>y i / S*(a i j - l))=(rsm m λ i=>y i*a i j)*S⁻¹+(rsm m y*S⁻¹)*(-l):=by
   rw [← kT,← kT,← kT,← Lp]
   exact eJ λ i _=>by rw [xY];grind
  have h:=Rat.mul_le_mul_of_nonneg_right (hy j hj) i0
  rw [e,sy,sc,xY];grind
 ·have e:(rsm n λ j=>(a i j - l)*(x j / S))=(rsm n λ j=>a i j*x j)*S⁻¹+(rsm n x*S⁻¹)*(-l):=by
   rw [← kT,← kT,← kT,← Lp]
   exact eJ λ i _=>by rw [xY];grind
  have h:=Rat.mul_le_mul_of_nonneg_right (hx i hi) i0
  rw [e,sx,sc,xY];grind
theorem pay_pos {m:Nat} {a:Nat->Rat} {y:Nat->Rat} (y0:∀ i,i<m->0<=y i) (hy:1<=rsm m λ i=>y i*a i):0<rsm m y:=by
 have h:=pE y0
 by_cases z:rsm m y=0
 ·have:=Oq y0 z
  have:(rsm m λ i=>y i*a i)=0:=Os λ i hi=>by rw [this i hi];grind
  grind
 ·grind
theorem Yb {n:Nat} {a x:Nat->Rat} (x0:∀ j,j<n->0<=x j) (ha:∀ j,j<n->1<=a j):rsm n x<=rsm n λ j=>a j*x j:=Xy λ j hj=>by
 have:=Rat.mul_le_mul_of_nonneg_right (ha j hj) (x0 j hj)
 grind
section
variable {fl:Bool} {frs:List (List (Int×Int))} {fb fg:List (Int×Int)} {s:Nat->Nat}
theorem va_eqv {f g:Int×Int} (hf:0<f.2) (hg:0<g.2) (e:f.1*g.2=g.1*f.2):va f=va g:=by
 have h1:=(Cu hf hg).mpr (by omega)
 have h2:=(Cu hg hf).mpr (by omega)
 grind
theorem no_way (B:BeO frs fb fg) (ok:(aO fl frs fb fg).Ok s) (io:iD (aO fl frs fb fg) s) (hg:∀ j,j<fg.length->fg.getD j (0,1)=(1,1)) (hA:∀ i j,i<frs.length->j<fg.length->1<=va (rwF frs i j)) (m1:1<=frs.length) {c:Nat} (un:UnO (aO fl frs fb fg) s (some c)):False:=by
 have w0:∀ j,0<(gY (aO fl frs fb fg) s c j).2/\0<=va (gY (aO fl frs fb fg) s c j):=λ j=>let h:=Nw ok un j;⟨h.1,oG h.1 h.2.2.1⟩
 have g2:∀ j,j<fg.length->0<(fg.getD j (0,1)).2:=λ j hj=>by rw [hg j hj];decide
 have r2:∀ j,j<fg.length->0<(rwF frs 0 j).2:=λ j hj=>wB B m1 hj
 have h1:=Ib B ok io un
 have p1:=hU (n:=fg.length) (f:=λ j=>fg.getD j (0,1)) (g:=gY (aO fl frs fb fg) s c) g2 λ j _=>(w0 j).1
 have e1:=xR (n:=fg.length) (f:=λ j=>fg.getD j (0,1)) (g:=gY (aO fl frs fb fg) s c) g2 λ j _=>(w0 j).1
 have h2:=Mo B ok io un m1
 have p2:=hU (n:=fg.length) (f:=rwF frs 0) (g:=gY (aO fl frs fb fg) s c) r2 λ j _=>(w0 j).1
 have e2:=xR (n:=fg.length) (f:=rwF frs 0) (g:=gY (aO fl frs fb fg) s c) r2 λ j _=>(w0 j).1
 have l2:va (iH fg.length (rwF frs 0) (gY (aO fl frs fb fg) s c))<=0:=by
  have:=(Cu (g:=(0,1)) p2 (by decide)).mpr (by omega)
  rwa [zC] at this
 have l1:¬ va (iH fg.length (λ j=>fg.getD j (0,1)) (gY (aO fl frs fb fg) s c))<=0:=λ z=>by
  have:=(Cu (g:=(0,1)) p1 (by decide)).mp (by rw [zC];exact z)
  omega
 refine l1 ?_
 rw [e1]
 rw [e2] at l2
 have:=Yb (n:=fg.length) (a:=λ j=>va (rwF frs 0 j)) (x:=λ j=>va (gY (aO fl frs fb fg) s c j)) (λ j _=>(w0 j).2) (λ j hj=>hA 0 j m1 hj)
 have e3:(rsm fg.length λ j=>va (fg.getD j (0,1))*va (gY (aO fl frs fb fg) s c j))=rsm fg.length λ j=>va (gY (aO fl frs fb fg) s c j):=eJ λ j hj=>by rw [hg j hj,xS];grind
 rw [e3]
 grind
structure LpG (m n:Nat) (a:Nat->Nat->Rat) (x y:Nat->Rat) (S:Rat):Prop where
 S0:0<S
 S1:S<=1
 x0:∀ j,j<n->0<=x j
 y0:∀ i,i<m->0<=y i
 hx:∀ i,i<m->(rsm n λ j=>a i j*x j)<=1
 hy:∀ j,j<n->1<=rsm m λ i=>y i*a i j
 sx:rsm n x=S
 sy:rsm m y=S
theorem lp_game (B:BeO frs fb fg) (ok:(aO fl frs fb fg).Ok s) (io:iD (aO fl frs fb fg) s) (un:UnO (aO fl frs fb fg) s none) (hb:∀ i,i<frs.length->fb.getD i (0,1)=(1,1)) (hg:∀ j,j<fg.length->fg.getD j (0,1)=(1,1)) (hA:∀ i j,i<frs.length->j<fg.length->1<=va (rwF frs i j)) (m1:1<=frs.length) (n1:1<=fg.length) :
  LpG frs.length fg.length (λ i j=>va (rwF frs i j)) (λ j=>va (xF fl frs fb fg s j)) (λ i=>va (yF fl frs fb fg s i)) (rsm fg.length λ j=>va (xF fl frs fb fg s j)):=by
 have x0:∀ j,0<(xF fl frs fb fg s j).2/\0<=va (xF fl frs fb fg s j):=λ j=>let h:=Jb B ok j;⟨h.1,oG h.1 h.2.2.1⟩
 have y0:∀ i,i<frs.length->0<(yF fl frs fb fg s i).2/\0<=va (yF fl frs fb fg s i):=λ i hi=>let h:=Ja B ok un hi;⟨h.1,oG h.1 h.2.2.1⟩
 have g2:∀ j,j<fg.length->0<(fg.getD j (0,1)).2:=λ j hj=>by rw [hg j hj];decide
 have b2:∀ j,j<frs.length->0<(fb.getD j (0,1)).2:=λ j hj=>by rw [hb j hj];decide
 have hx:∀ i,i<frs.length->(rsm fg.length λ j=>va (rwF frs i j)*va (xF fl frs fb fg s j))<=1:=λ i hi=>by
  have r2:∀ j,j<fg.length->0<(rwF frs i j).2:=λ j hj=>wB B hi hj
  have h:=Rh B ok io hi
  have p:=hU (n:=fg.length) (f:=rwF frs i) (g:=xF fl frs fb fg s) r2 λ j _=>(x0 j).1
  rw [← xR r2 λ j _=>(x0 j).1,← xS]
  rw [hb i hi] at h
  exact (Cu p (by decide)).mpr h
 have hy:∀ j,j<fg.length->1<=rsm frs.length λ i=>va (yF fl frs fb fg s i)*va (rwF frs i j):=λ j hj=>by
  have r2:∀ i,i<frs.length->0<(rwF frs i j).2:=λ i hi=>wB B hi hj
  have h:=ys_pay B ok un hj
  have p:=hU (n:=frs.length) (f:=yF fl frs fb fg s) (g:=λ i=>rwF frs i j) (λ i hi=>(y0 i hi).1) r2
  rw [← xR (λ i hi=>(y0 i hi).1) r2,← xS]
  rw [hg j hj] at h
  exact (Cu (by decide) p).mpr h
 have same:rsm fg.length (λ j=>va (xF fl frs fb fg s j))=rsm frs.length λ i=>va (yF fl frs fb fg s i):=by
  have h:=Wy B ok io un
  have p1:=hU (n:=fg.length) (f:=λ j=>fg.getD j (0,1)) (g:=xF fl frs fb fg s) g2 λ j _=>(x0 j).1
  have p2:=hU (n:=frs.length) (f:=λ i=>fb.getD i (0,1)) (g:=yF fl frs fb fg s) b2 λ i hi=>(y0 i hi).1
  have e:=va_eqv p1 p2 h
  rw [xR g2 λ j _=>(x0 j).1,xR b2 λ i hi=>(y0 i hi).1] at e
  have e1:(rsm fg.length λ j=>va (fg.getD j (0,1))*va (xF fl frs fb fg s j))=rsm fg.length λ j=>va (xF fl frs fb fg s j):=eJ λ j hj=>by rw [hg j hj,xS];grind
  have e2:(rsm frs.length λ j=>va (fb.getD j (0,1))*va (yF fl frs fb fg s j))=rsm frs.length λ j=>va (yF fl frs fb fg s j):=eJ λ j hj=>by rw [hb j hj,xS];grind
  rw [e1,e2] at e
  exact e
 refine ⟨?_,?_,λ j _=>(x0 j).2,λ i hi=>(y0 i hi).2,hx,hy,rfl,same.symm⟩
 ·rw [same]
  exact pay_pos (λ i hi=>(y0 i hi).2) (hy 0 n1)
 ·have:=Yb (n:=fg.length) (a:=λ j=>va (rwF frs 0 j)) (x:=λ j=>va (xF fl frs fb fg s j)) (λ j _=>(x0 j).2) (λ j hj=>hA 0 j m1 hj)
  have h:=hx 0 m1
  grind
end
theorem zN {x y M z:Int} (h:x*M=z*y) (g:Int.gcd x y=1):y∣M:=by
 have h1:y∣x*M:=⟨z,by rw [h,Int.mul_comm]⟩
 have h2:=Int.natAbs_dvd_natAbs.mpr h1
 rw [Int.natAbs_mul] at h2
 have c:Nat.Coprime y.natAbs x.natAbs:=by show Nat.gcd _ _=1;rw [Nat.gcd_comm];exact g
 exact Int.natAbs_dvd_natAbs.mp (c.dvd_of_dvd_mul_left h2)
theorem Bf {f:Int×Int} (hf:0<f.2) (h:va f<=1):f.1<=f.2:=by
 rw [← xS] at h
 have:=(Cu hf (by decide)).mp h
 simpa using this
theorem xZ {n:Nat} {x M:Int} (h:BB n M) (hM:0<M) (d:x∣M):BB n x:=h.of_le (Nat.le_of_dvd (by omega) (Int.natAbs_dvd_natAbs.mpr d))
theorem Xu {f g:Int×Int} (hf:0<f.2) (hg:0<g.2):va (lo2 (f.1*g.2+g.1*f.2) (f.2*g.2))=va f+va g:=by
 have z:=Int.mul_pos hf hg
 rw [show va (lo2 (f.1*g.2+g.1*f.2) (f.2*g.2))=((f.1*g.2+g.1*f.2:Int):Rat) / ((f.2*g.2:Int):Rat) from Tm z (cG z)]
 symm
 refine mC (fK z) ?_
 have h1:=iK hf
 have h2:=iK hg
 simp only [Rat.intCast_add,Rat.intCast_mul]
 rw [← h1,← h2];grind
theorem va_sub {f g:Int×Int} (hf:0<f.2) (hg:0<g.2):va (lo2 (f.1*g.2 - g.1*f.2) (f.2*g.2))=va f - va g:=by
 have z:=Int.mul_pos hf hg
 rw [show va (lo2 (f.1*g.2 - g.1*f.2) (f.2*g.2))=((f.1*g.2 - g.1*f.2:Int):Rat) / ((f.2*g.2:Int):Rat) from Tm z (cG z)]
 symm
 refine mC (fK z) ?_
 have h1:=iK hf
 have h2:=iK hg
 simp only [Rat.intCast_sub,Rat.intCast_mul]
 rw [← h1,← h2];grind
theorem va_pos {g:Int×Int} (hg:0<g.2) (hg1:0<g.1):0<va g:=by
 have h2:=iK hg
 have a:=fK hg1
 have:=oG hg (Int.le_of_lt hg1)
 by_cases e:va g=0
 ·rw [e] at h2;grind
 ·grind
theorem Qn {f g:Int×Int} (hf:0<f.2) (hg:0<g.2) (hg1:0<g.1):va (fov f g)=va f / va g:=by
 have z:=Int.mul_pos hf hg1
 have l:=cG (t:=f.1*g.2) z
 have e:va (fov f g)*((f.2*g.1:Int):Rat)=((f.1*g.2:Int):Rat):=by
  unfold fov
  rw [show va (lo2 (f.1*g.2) (f.2*g.1))=((f.1*g.2:Int):Rat) / ((f.2*g.1:Int):Rat) from Tm z l]
  exact Rat.div_mul_cancel (by have:=fK z;grind)
 have h1:=iK hf
 have h2:=iK hg
 have p1:=fK hf
 have p2:=fK hg
 refine mC (va_pos hg hg1) (sM (Rat.mul_pos p1 p2) ?_)
 simp only [Rat.intCast_mul] at e
 rw [← h1,← h2] at e
 grind
theorem sum_dvd {f g:Int×Int} {M:Int} (hf:0<f.2) (hg:0<g.2) (df:f.2∣M) (dg:g.2∣M):(lo2 (f.1*g.2+g.1*f.2) (f.2*g.2)).2∣M:=by
 obtain ⟨u,rfl⟩:=df
 obtain ⟨v,hv⟩:=dg
 have z:=Int.mul_pos hf hg
 have l:=cG (t:=f.1*g.2+g.1*f.2) z
 refine zN (x:=(lo2 (f.1*g.2+g.1*f.2) (f.2*g.2)).1) (z:=f.1*u+g.1*v) ?_ l.cop
 have e:=l.eq
 have zne:f.2*g.2≠0:=by omega
 refine Int.eq_of_mul_eq_mul_right zne ?_
 generalize (lo2 (f.1*g.2+g.1*f.2) (f.2*g.2)).1=X at e ⊢
 generalize (lo2 (f.1*g.2+g.1*f.2) (f.2*g.2)).2=Y at e ⊢
 have:X*(f.2*u)*(f.2*g.2)=(X*(f.2*g.2))*(f.2*u):=by grind
 rw [this,e]
 grind
theorem zV {f:Nat->Rat} {i:Nat}:∀ {n:Nat},i<=n->(∀ k,k<n->0<=f k)->rsm i f<=rsm n f
 | 0,h,_=>by rw [show i=0 by omega];exact Rat.le_refl
 | n+1,h,h0=>by
  by_cases e:i=n+1
  ·rw [e];exact Rat.le_refl
  ·have h1:=zV (n:=n) (i:=i) (by omega) λ k hk=>h0 k (by omega)
   have h2:=h0 n (by omega)
   show _<=rsm n f+f n
   grind
noncomputable def cO (n:Nat):List (Int×Int):=ofF n λ _=>(1,1)
theorem fS (n:Nat):(cO n).length=n:=aJ _ _
theorem Ce {n j:Nat} (h:j<n):(cO n).getD j (0,1)=(1,1):=by
 rw [getD_eq_getElem?_getD,show (cO n)[j]?=some (1,1) from cF _ h];rfl
theorem zX {n:Nat} {f:Int×Int} (h:f∈cO n):f=(1,1):=(gG h).choose_spec.2
noncomputable def lft (z:Int) (f:Int×Int):Int×Int:=lo2 (f.1*1+(1 - z)*f.2) (f.2*1)
noncomputable def qJ (z:Int) (frs:List (List (Int×Int))):List (List (Int×Int)):=frs.map λ r=>r.map (lft z)
structure Mnf (frs:List (List (Int×Int))) (z:Int):Prop where
 at_:∃ r∈frs,∃ f∈r,z=f.1.fdiv f.2
 le:∀ r∈frs,∀ f∈r,z<=f.1.fdiv f.2
theorem Xt {z:Int} {f:Int×Int} (hf:0<f.2):va (lft z f)=va f+(1 - z:Int):=by
 have:=Xu (g:=(1 - z,1)) hf (by decide:(0:Int)<1)
 unfold lft
 rw [this]
 congr 1
 unfold va
 show ((1 - z:Int):Rat) / ((1:Int):Rat)=_
 rw [show ((1:Int):Rat)=1 from rfl,Rat.div_def]
 grind
theorem fdiv_le {f:Int×Int} (hf:0<f.2):((f.1.fdiv f.2:Int):Rat)<=va f:=by
 refine Rat.le_of_mul_le_mul_right (c:=(f.2:Rat)) ?_ (fK hf)
 rw [iK hf,← Rat.intCast_mul]
 refine Rat.intCast_le_intCast.mpr ?_
 have:=Int.mul_fdiv_add_fmod f.1 f.2
 have h2:=Int.fmod_nonneg_of_pos f.1 hf
 rw [Int.mul_comm];omega
theorem lft_ge {z:Int} {f:Int×Int} (hf:0<f.2) (h:z<=f.1.fdiv f.2):1<=va (lft z f):=by
 rw [Xt hf]
 have h1:=fdiv_le hf
 have h2:(z:Rat)<=(f.1.fdiv f.2:Int):=Rat.intCast_le_intCast.mpr h
 have h3:((1 - z:Int):Rat)=1 - z:=by rw [Rat.intCast_sub];rfl
 rw [h3];grind
theorem Uh {z:Int} {frs:List (List (Int×Int))} {i j n:Nat} (hi:i<frs.length) (hr:∀ r∈frs,r.length=n) (hj:j<n):rwF (qJ z frs) i j=lft z (rwF frs i j):=by
 unfold rwF qJ
 have e:frs[i]?=some frs[i]:=getElem?_eq_getElem hi
 have hl:=hr _ (getElem_mem hi)
 rw [getD_eq_getElem?_getD (l:=frs.map _),getElem?_map,e,getD_eq_getElem?_getD (l:=frs),e]
 show ((frs[i]).map (lft z)).getD j (0,1)=lft z ((frs[i]).getD j (0,1))
 rw [getD_eq_getElem?_getD,getElem?_map,getElem?_eq_getElem (by omega),getD_eq_getElem?_getD,getElem?_eq_getElem (by omega)];rfl
structure WoO (R:List (List (Int×Int))) (m n:Nat):Prop where
 B:BeO R (cO m) (cO n)
 mx:∀ fl s,(aO fl R (cO m) (cO n)).Ok s->iD (aO fl R (cO m) (cO n)) s->∃ M,0<M/\BB 4000 M/\∀ j,j<n->(xF fl R (cO m) (cO n) s j).2∣M
 my:∀ fl s,(aO fl R (cO m) (cO n)).Ok s->UnO (aO fl R (cO m) (cO n)) s none->∀ k,k<m->BB 4000 (yF fl R (cO m) (cO n) s k).2
theorem Gm.congr {m n:Nat} {r r':Nat->Nat->Rat} {v v':Rat} {p q p' q':Nat->Rat} (h:Gm m n r v p q) (hr:∀ i j,i<m->j<n->r i j=r' i j) (hv:v=v') (hp:∀ i,i<m->p i=p' i) (hq:∀ j,j<n->q j=q' j):Gm m n r' v' p' q':=by
 refine ⟨λ i hi=>hp i hi ▸ h.p0 i hi,?_,λ j hj=>hq j hj ▸ h.q0 j hj,?_,λ j hj=>?_,λ i hi=>?_⟩
 ·rw [← h.p1];exact (eJ hp).symm
 ·rw [← h.q1];exact (eJ hq).symm
 ·rw [← hv,← eJ λ i hi=>show p i*r i j=p' i*r' i j by rw [hp i hi,hr i j hi hj]]
  exact h.lo j hj
 ·rw [← hv,← eJ λ j hj=>show r i j*q j=r' i j*q' j by rw [hq j hj,hr i j hi hj]]
  exact h.hi i hi
theorem zU {f:Nat->Rat} {n i:Nat} (hi:i<n) (h:∀ k,k<n->0<=f k):f i<=rsm n f:=by
 have h1:=zV (f:=f) (i:=i+1) (n:=n) (by omega) h
 have h2:=pE (f:=f) (n:=i) λ k hk=>h k (by omega)
 have h3:rsm (i+1) f=rsm i f+f i:=rfl
 grind
theorem jJf {a b:Int} (h:0<b):(a.fdiv b).natAbs<=a.natAbs:=by
 have e:=Int.mul_fdiv_add_fmod a b
 have h1:=Int.fmod_nonneg_of_pos a h
 have h2:=Int.fmod_lt_of_pos a h
 generalize a.fdiv b=q at e ⊢
 generalize a.fmod b=r at e h1 h2
 by_cases hq:0<=q
 ·have:q<=b*q:=by have:=Int.mul_le_mul_of_nonneg_right (show (1:Int)<=b by omega) hq;omega
  omega
 ·have:b*(q+1)<=q+1:=by have:=Int.mul_le_mul_of_nonpos_right (show (1:Int)<=b by omega) (show q+1<=0 by omega);omega
  have e2:b*(q+1)=b*q+b:=by rw [Int.mul_add,Int.mul_one]
  omega
theorem Mnf.bb {frs:List (List (Int×Int))} {z:Int} {n:Nat} (h:Mnf frs z) (hg:∀ r∈frs,∀ f∈r,0<f.2/\BB n f.1/\BB n f.2):BB (n+1) (1 - z):=by
 obtain ⟨r,hr,f,hf,rfl⟩:=h.at_
 obtain ⟨f2,b1,_⟩:=hg r hr f hf
 have h1:BB n (f.1.fdiv f.2):=b1.of_le (jJf f2)
 have:(f.1.fdiv f.2).natAbs<2 ^ n:=h1
 show (1 - f.1.fdiv f.2).natAbs<2 ^ (n+1)
 rw [Nat.pow_succ]
 have:=Nat.two_pow_pos n
 omega
theorem jJi {K:W.Frag} {H:Hp} {n:Nat} {p p':Addr} {f:Int×Int} (h:SqT K H p [.int f.1,.int f.2]) (h':SqT K H p' [.int f.1,.int f.2]):DEq K H (n+1) (.ref p) (.ref p') true:=by
 by_cases e:p=p'
 ·subst e
  exact .inl (.inl ⟨rfl,⟨p,rfl⟩,rfl⟩)
 ·refine .inr ⟨λ z=>e (by injection z),p,p',_,_,rfl,rfl,.inr ⟨h,h',λ _=>true,λ j x' y' h1 h2=>?_,by simp⟩⟩
  have leaf:(x'=y'/\(∃ a,x'=V.ref a)/\true=true)∨∃ i k,x'=V.int i/\y'=V.int k/\true=(i == k):=by
   match j,h1,h2 with
   | 0,h1,h2=>simp at h1 h2;subst h1 h2;exact .inr ⟨_,_,rfl,rfl,by simp⟩
   | 1,h1,h2=>simp at h1 h2;subst h1 h2;exact .inr ⟨_,_,rfl,rfl,by simp⟩
   | n+2,h1,_=>simp at h1
  cases n with
  | zero=>exact leaf
  | succ n=>exact .inl leaf
theorem Vp {K:W.Frag} {H:Hp} {n:Nat} {a b:Addr} {ps qs:List Addr} {fs:List (Int×Int)} (ha:SqL K H a (List.map V.ref ps)) (hb:SqL K H b (List.map V.ref qs)) (hp:bI K H ps fs) (hq:bI K H qs fs):REq K H (DEq K H (n+1)) (.ref a) (.ref b) true:=by
 refine ⟨a,b,_,_,rfl,rfl,.inl ⟨ha,hb,.inr ⟨by rw [length_map,length_map,hp.length,hq.length],λ _=>true,λ j x y hx hy=>?_,by simp⟩⟩⟩
 obtain ⟨p,rfl,h1⟩:=bV hx
 obtain ⟨q,rfl,h2⟩:=bV hy
 obtain ⟨f,e,hf⟩:=hp.get h1
 obtain ⟨g,e2,hg⟩:=hq.get h2
 rw [e] at e2
 cases e2
 exact jJi hf hg
theorem Vo {K:W.Frag} {H:Hp} {a b:Addr} {ps qs:List Addr} {ms:List (List (Int×Int))} (ha:SqL K H a (List.map V.ref ps)) (hb:SqL K H b (List.map V.ref qs)) (hp:gZ K H ps ms) (hq:gZ K H qs ms):REq K H (DEq K H 2) (.ref a) (.ref b) true:=by
 refine ⟨a,b,_,_,rfl,rfl,.inl ⟨ha,hb,.inr ⟨by rw [length_map,length_map,hp.length,hq.length],λ _=>true,λ j x y hx hy=>?_,by simp⟩⟩⟩
 obtain ⟨p,rfl,h1⟩:=bV hx
 obtain ⟨q,rfl,h2⟩:=bV hy
 obtain ⟨f,u,e,hu,hf⟩:=hp.get h1
 obtain ⟨g,w,e2,hw,hg⟩:=hq.get h2
 rw [e] at e2
 cases e2
 by_cases pq:p=q
 ·subst pq
  exact .inl (.inl ⟨rfl,⟨p,rfl⟩,rfl⟩)
 ·exact .inr ⟨λ z=>pq (by injection z),Vp (SqL.of hu) (SqL.of hw) hf hg⟩
theorem En {f:Nat->Int}:∀ {n:Nat},((sm n f:Int):Rat)=rsm n λ k=>((f k:Int):Rat)
 | 0=>rfl
 | n+1=>by
  show ((sm n f+f n:Int):Rat)=rsm n (λ k=>((f k:Int):Rat))+((f n:Int):Rat)
  rw [Rat.intCast_add,En]
structure WoR (frs:List (List (Int×Int))) (n:Nat):Prop where
 m1:1<=frs.length
 m2:frs.length<=100
 n1:1<=n
 n2:n<=100
 hr:∀ r∈frs,r.length=n
 hg:∀ r∈frs,∀ f∈r,0<f.2/\BB 4000 f.1/\BB 4000 f.2
structure Sh (us:List (List Int)) (n:Nat):Prop where
 m1:1<=us.length
 n1:1<=n
 sz:(us.length<=4/\n<=4)∨(us.length<=2/\n<=24)∨(us.length<=24/\n<=2)
 hr:∀ row∈us,row.length=n
 hu:∀ row∈us,∀ u∈row,u.natAbs<10 ^ 60
noncomputable def Us (us:List (List Int)) (n:Nat):Prop:=∀ row∈us,row.length=n/\∀ u∈row,u.natAbs<10 ^ 60
theorem cut_one {ns:List Int}:xO (List.map V.int ns) none (some 1)=List.map V.int (ns.take 1):=by
 unfold xO
 rw [HT.sIx_none,List.drop_zero,Nat.sub_zero,← map_take]
 congr 1
 unfold HT.sIx
 simp
noncomputable def uA (us:List (List Int)) (i j:Nat):Int:=(us.getD i []).getD j 0
theorem Zp {m n:Nat} {r:Nat->Nat->Rat} {v:Rat} {p q:Nat->Rat} (G:Gm m n r v p q) {x y C S:Int} {cs:Nat->Int} {u:Nat->Nat->Int} (y0:0<y) (C0:0<C) (S0:0<S) (hv:v*(y:Rat)=x) (hc:∀ k,k<m->((cs k:Int):Rat)=p k*C) (hu:∀ i j,i<m->j<n->r i j*(S:Rat)=((u i j:Int):Rat)) {j:Nat} (hj:j<n):¬ (sm m λ k=>cs k*u k j)*y<x*S*C:=by
 intro z
 have h:=G.lo j hj
 have e:((sm m λ k=>cs k*u k j:Int):Rat)=(rsm m λ i=>p i*r i j)*((C:Rat)*S):=by
  rw [En,← kT]
  refine eJ λ k hk=>?_
  rw [Rat.intCast_mul,hc k hk,← hu k j hk hj];grind
 have cs0:=Rat.mul_pos (fK C0) (fK S0)
 have y0':=fK y0
 have h2:=Rat.mul_le_mul_of_nonneg_right (Rat.mul_le_mul_of_nonneg_right h (Rat.le_of_lt cs0)) (Rat.le_of_lt y0')
 rw [← e] at h2
 have z2:(((sm m λ k=>cs k*u k j)*y:Int):Rat)<((x*S*C:Int):Rat):=Rat.intCast_lt_intCast.mpr z
 rw [Rat.intCast_mul,Rat.intCast_mul,Rat.intCast_mul,← hv] at z2
 grind
theorem Zq {m n:Nat} {r:Nat->Nat->Rat} {v:Rat} {p q:Nat->Rat} (G:Gm m n r v p q) {x y C S:Int} {cs:Nat->Int} {u:Nat->Nat->Int} (y0:0<y) (C0:0<C) (S0:0<S) (hv:v*(y:Rat)=x) (hc:∀ k,k<n->((cs k:Int):Rat)=q k*C) (hu:∀ i j,i<m->j<n->r i j*(S:Rat)=((u i j:Int):Rat)) {i:Nat} (hi:i<m):¬ (sm n λ k=>cs k*u i k)*y > x*S*C:=by
 intro z
 have h:=G.hi i hi
 have e:((sm n λ k=>cs k*u i k:Int):Rat)=(rsm n λ j=>r i j*q j)*((C:Rat)*S):=by
  rw [En,← kT]
  refine eJ λ k hk=>?_
  rw [Rat.intCast_mul,hc k hk,← hu i k hi hk];grind
 have cs0:=Rat.mul_pos (fK C0) (fK S0)
 have y0':=fK y0
 have h2:=Rat.mul_le_mul_of_nonneg_right (Rat.mul_le_mul_of_nonneg_right h (Rat.le_of_lt cs0)) (Rat.le_of_lt y0')
 rw [← e] at h2
 have z2:((x*S*C:Int):Rat)<(((sm n λ k=>cs k*u i k)*y:Int):Rat):=Rat.intCast_lt_intCast.mpr z
 rw [Rat.intCast_mul,Rat.intCast_mul,Rat.intCast_mul,← hv] at z2
 grind
theorem bb_u {u:Int} (h:u.natAbs<10 ^ 60):BB 200 u:=Nat.lt_trans h (by decide)
theorem Xj {H:Hp} {ps:List Addr} {us:List (List Int)} (hu:bJ H ps us) {k:Nat} (hk:k<us.length):∃ p g,ps[k]?=some p/\us[k]?=some g/\H p=some (.lst (List.map V.int g))/\∀ j,uA us k j=g.getD j 0:=by
 have hl:=hu.length
 obtain ⟨p,hp⟩:∃ p,ps[k]?=some p:=⟨_,getElem?_eq_getElem (by omega)⟩
 obtain ⟨g,eg,hrow⟩:=hu.get hp
 refine ⟨p,g,hp,eg,hrow,λ j=>?_⟩
 unfold uA
 rw [getD_eq_getElem?_getD (l:=us),eg];rfl
theorem Yo {m p:Nat} {f:Nat->Int} (hm:m<=100) (h:∀ k,k<m->BB p (f k)):BB (p+100) (ofF m f).sum:=by
 have:=Kv (l:=ofF m f) (p:=p) λ x hx=>by obtain ⟨k,hk,rfl⟩:=gG hx;exact h k hk
 rw [aJ] at this
 exact this.mono (by omega)
noncomputable def lwR (S:Int) (us:List (List Int)):List (List (Int×Int)):=us.map λ row=>row.map λ u=>lo2 u S
theorem lwR_rw {S:Int} {us:List (List Int)} {n i j:Nat} (hr:∀ row∈us,row.length=n) (hi:i<us.length) (hj:j<n):rwF (lwR S us) i j=lo2 (uA us i j) S:=by
 unfold rwF lwR uA
 have e:us[i]?=some us[i]:=getElem?_eq_getElem hi
 have hl:=hr _ (getElem_mem hi)
 rw [getD_eq_getElem?_getD (l:=us.map _),getElem?_map,e,getD_eq_getElem?_getD (l:=us),e]
 show ((us[i]).map λ u=>lo2 u S).getD j (0,1)=lo2 ((us[i]).getD j 0) S
 rw [getD_eq_getElem?_getD,getElem?_map,getElem?_eq_getElem (by omega),getD_eq_getElem?_getD,getElem?_eq_getElem (by omega)];rfl
theorem sN (S:Int) (us:List (List Int)):(lwR S us).length=us.length:=by unfold lwR;rw [length_map]
theorem lwR_wor {S:Int} {us:List (List Int)} {n:Nat} (h:Sh us n) (S0:0<S) (S6:BB 64 S):WoR (lwR S us) n:=by
 have sz:=h.sz
 have m1:=h.m1
 have n1:=h.n1
 refine ⟨by rw [sN];exact m1,by rw [sN];omega,n1,by omega,λ r hr=>?_,λ r hr f hf=>?_⟩
 ·obtain ⟨row,hm,rfl⟩:=mem_map.mp hr
  rw [length_map];exact h.hr row hm
 ·obtain ⟨row,hm,rfl⟩:=mem_map.mp hr
  obtain ⟨u,hu,rfl⟩:=mem_map.mp hf
  have l:=cG (t:=u) S0
  exact ⟨l.pos,((bb_u (h.hu row hm u hu)).of_le l.bx).mono (by decide),(S6.of_le l.by_).mono (by decide)⟩
theorem lwR_va {S:Int} {us:List (List Int)} {n:Nat} (h:Sh us n) (S0:0<S):∀ i j,i<us.length->j<n->va (rwF (lwR S us) i j)*(S:Rat)=((uA us i j:Int):Rat):=λ i j hi hj=>by
 rw [lwR_rw h.hr hi hj]
 have l:=cG (t:=uA us i j) S0
 rw [show va (lo2 (uA us i j) S)=((uA us i j:Int):Rat) / (S:Rat) from Tm S0 l]
 exact Rat.div_mul_cancel (by have:=fK S0;grind)
theorem lo2_dvd {u S:Int} (S0:0<S):(lo2 u S).2∣S:=zN (cG (t:=u) S0).eq (cG S0).cop
structure Ent (S N:Int) (f:Int×Int):Prop where
 p:0<f.2
 c:Int.gcd f.1 f.2=1
 d:f.2∣S
 e:f.1*S=N*f.2
theorem ent_lft {S z u:Int} (S0:0<S):Ent S (u+(1 - z)*S) (lft z (lo2 u S)):=by
 have l:=cG (t:=u) S0
 have z1:0<(lo2 u S).2*1:=by have:=l.pos;omega
 have l2:=cG (t:=(lo2 u S).1*1+(1 - z)*(lo2 u S).2) z1
 have d0:(lo2 u S).2∣S:=lo2_dvd S0
 have e1:=l.eq
 have e2:=l2.eq
 have p1:=l.pos
 refine ⟨l2.pos,l2.cop,?_,?_⟩
 ·exact Int.dvd_trans (zN e2 l2.cop) (by rw [Int.mul_one];exact d0)
 ·show (lo2 ((lo2 u S).1*1+(1 - z)*(lo2 u S).2) ((lo2 u S).2*1)).1*S=(u+(1 - z)*S)*(lo2 ((lo2 u S).1*1+(1 - z)*(lo2 u S).2) ((lo2 u S).2*1)).2
  generalize (lo2 ((lo2 u S).1*1+(1 - z)*(lo2 u S).2) ((lo2 u S).2*1)).1=X at e2 ⊢
  generalize (lo2 ((lo2 u S).1*1+(1 - z)*(lo2 u S).2) ((lo2 u S).2*1)).2=Y at e2 ⊢
  generalize (lo2 u S).1=A at e1 e2
  generalize (lo2 u S).2=B at e1 e2 p1
  refine Int.eq_of_mul_eq_mul_right (show B≠0 by omega) ?_
  have:X*S*B=X*(B*1)*S:=by grind
  rw [this,e2]
  have:(A*1+(1 - z)*B)*Y*S=(A*S+(1 - z)*B*S)*Y:=by grind
  rw [this,e1];grind
theorem xL {x S N d:Int} (S0:0<S) (d0:0<=d) (dS:d<=S) (e:x*S=N*d):x.natAbs<=N.natAbs:=by
 have h:x.natAbs*S.natAbs=N.natAbs*d.natAbs:=by rw [← Int.natAbs_mul,e,Int.natAbs_mul]
 have h2:N.natAbs*d.natAbs<=N.natAbs*S.natAbs:=Nat.mul_le_mul_left _ (by omega)
 exact Nat.le_of_mul_le_mul_right (show x.natAbs*S.natAbs<=N.natAbs*S.natAbs by omega) (by omega)
theorem ent_bb {S N:Int} {f:Int×Int} {q:Nat} (h:Ent S N f) (S0:0<S) (hN:BB q N):BB q f.1:=hN.of_le (xL S0 (Int.le_of_lt h.p) (Int.le_of_dvd S0 h.d) h.e)
structure RwE (S:Int) (q:Nat) (row:List (Int×Int)):Prop where
 h:∀ f∈row,∃ N,Ent S N f/\BB q N
theorem RwE.lcd {S:Int} {q:Nat} {row:List (Int×Int)} (R:RwE S q row):lc row∣S:=(uI row 1 (by decide) λ f hf=>let ⟨_,e,_⟩:=R.h f hf;e.p).2.2.2 S (Int.one_dvd _) λ f hf=>let ⟨_,e,_⟩:=R.h f hf;e.d
theorem RwE.clr {S:Int} {q:Nat} {row:List (Int×Int)} (R:RwE S q row) (S0:0<S):∀ x∈clr row,BB q x:=λ x hx=>by
 obtain ⟨f,hf,rfl⟩:=mem_map.mp hx
 obtain ⟨N,e,bN⟩:=R.h f hf
 have hp:∀ f∈row,0<f.2:=λ f hf=>let ⟨_,e,_⟩:=R.h f hf;e.p
 have ce:=Rb hp hf
 have lp:0<lc row:=Fk hp
 have le:=e.e
 have fp:=e.p
 refine bN.of_le (xL S0 (Int.le_of_lt lp) (Int.le_of_dvd S0 R.lcd) ?_)
 refine Int.eq_of_mul_eq_mul_right (show f.2≠0 by omega) ?_
 have:f.1*(lc row).fdiv f.2*S*f.2=f.1*(lc row).fdiv f.2*f.2*S:=by grind
 rw [this,ce]
 have:f.1*lc row*S=f.1*S*lc row:=by grind
 rw [this,le];grind
theorem RwE.lc_bb {S:Int} {q:Nat} {row:List (Int×Int)} (R:RwE S q row) (S0:0<S) {k:Nat} (bS:BB k S):BB k (lc row):=xZ bS S0 R.lcd
theorem Ox {f:Nat->Nat->Nat} {p:Nat}:∀ m,nsm m (λ k=>nsm p λ i=>f k i)=nsm p λ i=>nsm m λ k=>f k i
 | 0=>by show 0=nsm p λ i=>0;rw [uP λ _ _=>rfl]
 | m+1=>by
  show nsm m (λ k=>nsm p λ i=>f k i)+nsm p (λ i=>f m i)=nsm p λ i=>nsm m (λ k=>f k i)+f m i
  rw [Ox m,zL]
theorem Ue {t n:Nat}:∀ m,nsm m (λ k=>if t=n+k then 1 else 0)=if n<=t/\t<n+m then 1 else 0
 | 0=>by rw [if_neg (by omega)];rfl
 | m+1=>by
  show nsm m (λ k=>if t=n+k then 1 else 0)+(if t=n+m then 1 else 0)=_
  rw [Ue m]
  by_cases a:t=n+m
  ·rw [if_pos a,if_neg (by omega),if_pos (by omega)]
  ·by_cases b:n<=t/\t<n+m
   ·rw [if_neg a,if_pos b,if_pos (by omega)]
   ·rw [if_neg a,if_neg b,if_neg (by omega)]
noncomputable def xM (s:Nat->Nat) (m n k:Nat):Nat:=nsm m λ i=>if s i=n+k then 1 else 0
theorem Vk {s:Nat->Nat} {m n k:Nat} (h:¬ xM s m n k=0):∃ i,i<m/\s i=n+k:=Classical.byContradiction λ z=>h (uP λ i hi=>if_neg λ e=>z ⟨i,hi,e⟩)
theorem out_few {s:Nat->Nat} {m n:Nat} (inj:∀ i j,i<m->j<m->i≠j->s i≠s j) (io:∀ i,i<m->s i<n+m):nsm m (λ k=>if xM s m n k=0 then 1 else 0)<=min m n:=by
 have e1:nsm m (λ k=>(if xM s m n k=0 then 1 else 0)+xM s m n k)=nsm m λ _=>1:=jD λ k _=>by
  have:xM s m n k<=1:=Mf inj
  by_cases z:xM s m n k=0
  ·rw [if_pos z,z]
  ·rw [if_neg z];omega
 rw [zL,qT,Nat.mul_one] at e1
 have e2:nsm m (xM s m n)=nsm m λ i=>if n<=s i then 1 else 0:=by
  show nsm m (λ k=>nsm m λ i=>if s i=n+k then 1 else 0)=_
  rw [Ox]
  refine jD λ i hi=>?_
  rw [Ue]
  have:=io i hi
  by_cases a:n<=s i
  ·rw [if_pos a,if_pos ⟨a,this⟩]
  ·rw [if_neg a,if_neg λ z=>a z.1]
 have e3:nsm m (λ i=>(if s i<n then 1 else 0)+(if n<=s i then 1 else 0))=nsm m λ _=>1:=jD λ i _=>by
  by_cases a:s i<n
  ·rw [if_pos a,if_neg (by omega)]
  ·rw [if_neg a,if_pos (by omega)]
 rw [zL,qT,Nat.mul_one] at e3
 have h1:=Ra inj n
 have h2:=Xp (s:=s) n m
 omega
noncomputable def ipr:Nat->(Nat->Int)->Int
 | 0,_=>1
 | n+1,f=>ipr n f*f n
theorem Ul {f:Nat->Int}:∀ {n:Nat},(∀ k,k<n->0<f k)->0<ipr n f
 | 0,_=>by show (0:Int)<1;decide
 | n+1,h=>Int.mul_pos (Ul λ k hk=>h k (by omega)) (h n (by omega))
theorem Yh {f:Nat->Int} {c:Nat->Nat}:∀ {n:Nat},(∀ k,k<n->BB (c k) (f k))->BB (1+nsm n c) (ipr n f)
 | 0,_=>by show (1:Int).natAbs<2 ^ 1;decide
 | n+1,h=>by
  have:=(Yh (n:=n) λ k hk=>h k (by omega)).mul (h n (by omega))
  exact this.mono (by show 1+nsm n c+c n<=1+(nsm n c+c n);omega)
theorem Um {f:Nat->Int}:∀ {n k:Nat},k<n->f k∣ipr n f
 | 0,_,h=>absurd h (Nat.not_lt_zero _)
 | n+1,k,h=>by
  by_cases e:k=n
  ·subst e;exact Int.dvd_mul_left _ _
  ·exact Int.dvd_trans (Um (n:=n) (by omega)) (Int.dvd_mul_right _ _)
theorem Qt {f:Nat->Int} {d:Int}:∀ {n:Nat},(∀ k,k<n->d∣f k)->d∣sm n f
 | 0,_=>Int.dvd_zero _
 | n+1,h=>Int.dvd_add (Qt λ k hk=>h k (by omega)) (h n (by omega))
theorem Ln {f:Nat->Int} {c:Int}:∀ {n:Nat},c*sm n f=sm n λ k=>c*f k
 | 0=>Int.mul_zero _
 | n+1=>by show c*(sm n f+f n)=sm n (λ k=>c*f k)+c*f n;rw [Int.mul_add,Ln]
section
variable {fl:Bool} {frs:List (List (Int×Int))} {fb fg:List (Int×Int)} {s:Nat->Nat}
noncomputable def gK (frs:List (List (Int×Int))) (n:Nat) (s:Nat->Nat) (k:Nat):Int:=if xM s frs.length n k=0 then (whF (frs.getD k [])).2 else 1
theorem x_dvd (B:BeO frs fb fg) (ok:(aO fl frs fb fg).Ok s) (hb:∀ i,i<frs.length->fb.getD i (0,1)=(1,1)) {j:Nat} (hj:j<fg.length):(xF fl frs fb fg s j).2∣(aO fl frs fb fg).D s*ipr frs.length (gK frs fg.length s):=by
 have w:=Ld B
 obtain ⟨x2,xc,_,xe⟩:=Jb B ok j
 have key:(whF (bnF frs fb)).1∣(whF (bnF frs fb)).2*ipr frs.length (gK frs fg.length s)*Lpd.spr frs.length s (λ i=>(aO fl frs fb fg).T s i (aO fl frs fb fg).be) j:=by
  unfold Lpd.spr
  rw [Ln]
  refine Qt λ i hi=>?_
  by_cases e:s i=j
  ·rw [if_pos e]
   show (whF (bnF frs fb)).1∣(whF (bnF frs fb)).2*ipr frs.length (gK frs fg.length s)*(aO fl frs fb fg).T s i (aO fl frs fb fg).be
   rw [(aO fl frs fb fg).T_lin (s:=s) (i:=i) (show i<frs.length+1 by omega),Ln]
   refine Qt λ k hk=>?_
   by_cases hkm:k<frs.length
   ·by_cases z:xM s frs.length fg.length k=0
    ·obtain ⟨P',hP⟩:=Um (f:=gK frs fg.length s) hkm
     have eg:gK frs fg.length s k=(whF (frs.getD k [])).2:=by unfold gK;rw [if_pos z]
     rw [eg] at hP
     have bv:=Mg (fl:=fl) B hkm
     rw [hb k hkm] at bv
     refine ⟨(whF (frs.getD k [])).1*P'*(aO fl frs fb fg).T s i (e1 k),?_⟩
     rw [hP]
     have:(aO fl frs fb fg).be k*(whF (bnF frs fb)).2*(1*(whF (frs.getD k [])).2)=1*(whF (frs.getD k [])).1*(whF (bnF frs fb)).1:=bv
     grind
    ·obtain ⟨i',hi',es⟩:=Vk z
     have hne:i≠i':=λ h=>by subst h;omega
     have o:=(aO fl frs fb fg).other (s:=s) (i:=i) (j:=i') (show i<frs.length+1 by omega) hi' hne
     rw [es,show fg.length+k=(aO fl frs fb fg).n+k from rfl,Lpd.cv_spare] at o
     rw [o,Int.mul_zero,Int.mul_zero]
     exact Int.dvd_zero _
   ·have hk:k<frs.length+1:=hk
    have be0:(aO fl frs fb fg).be k=0:=by
     show (whL (bnF frs fb)).getD k 0=0
     rw [getD_eq_getElem?_getD,getElem?_eq_none (by rw [gA,fD B.lb];omega)];rfl
    rw [be0,Int.zero_mul,Int.mul_zero]
    exact Int.dvd_zero _
  ·rw [if_neg e,Int.mul_zero]
   exact Int.dvd_zero _
 obtain ⟨Z,hZ⟩:=key
 refine zN (z:=Z) ?_ xc
 refine Int.eq_of_mul_eq_mul_right (show (whF (bnF frs fb)).1≠0 by omega) ?_
 generalize (xF fl frs fb fg s j).1=X at xe ⊢
 generalize (xF fl frs fb fg s j).2=Y at xe ⊢
 generalize ipr frs.length (gK frs fg.length s)=P at hZ ⊢
 generalize Lpd.spr frs.length s (λ i=>(aO fl frs fb fg).T s i (aO fl frs fb fg).be) j=T at xe hZ
 have:X*((aO fl frs fb fg).D s*P)*(whF (bnF frs fb)).1=X*((aO fl frs fb fg).D s*(whF (bnF frs fb)).1)*P:=by grind
 rw [this,xe]
 have:T*(whF (bnF frs fb)).2*Y*P=(whF (bnF frs fb)).2*P*T*Y:=by grind
 rw [this,hZ];grind
end
theorem Mb (k:Nat):lc (cO k)=1:=by
 have h1:∀ f∈cO k,f.2=1:=λ f hf=>by rw [zX hf]
 have a:=uI (cO k) 1 (by decide) (λ f hf=>by rw [h1 f hf];decide)
 have d:lc (cO k)∣1:=a.2.2.2 1 (Int.dvd_refl _) λ f hf=>by rw [h1 f hf];exact Int.dvd_refl _
 have h1:=Int.le_of_dvd (by decide) d
 have h2:0<lc (cO k):=a.1
 omega
structure GmS (frs:List (List (Int×Int))) (n:Nat) (S:Int):Prop where
 hr:∀ row∈frs,row.length=n
 S0:0<S
 bS:BB 31 S
 RE:∀ row∈frs,RwE S 202 row
 n2:n<=24
 sz:frs.length<=4∨(frs.length<=24/\n<=2)
section
variable {frs:List (List (Int×Int))} {n:Nat} {S:Int}
theorem GmS.wr (g:GmS frs n S) {row:List (Int×Int)} (h:row∈frs):BB 31 (whF row).1/\BB 202 (whF row).2:=(cG (sB _)).bb ((g.RE row h).lc_bb g.S0 g.bS) (Yd (by decide) (Tn ((g.RE row h).clr g.S0)))
theorem GmS.gr (g:GmS frs n S):∀ row∈frs,∀ f∈row,Gp 202 31 f:=λ row h f hf=>by
 obtain ⟨N,e,bN⟩:=(g.RE row h).h f hf
 exact ⟨e.p,ent_bb e g.S0 bN,xZ g.bS g.S0 e.d⟩
theorem pR {k:Nat}:∀ f∈cO k,Gp 1 1 f:=λ f hf=>by
 have one1:BB 1 (1:Int):=by show (1:Int).natAbs<2 ^ 1;decide
 rw [zX hf];exact ⟨by decide,one1,one1⟩
theorem GmS.gbn (g:GmS frs n S):∀ f∈bnF frs (cO frs.length),Gp 31 202 f:=λ f hf=>by
 have hb:(cO frs.length).length=frs.length:=fS _
 obtain ⟨i,hi⟩:=getElem?_of_mem hf
 have hil:i<frs.length:=by have:=(List.getElem?_eq_some_iff.mp hi).1;rwa [fD hb] at this
 have e2:(cO frs.length)[i]?=some (1,1):=cF _ hil
 rw [sC e2 (getElem?_eq_getElem hil)] at hi
 obtain rfl:=Option.some.inj hi
 have w:=fG λ f hf=>(g.gr _ (getElem_mem hil) f hf).1
 have wb:=g.wr (getElem_mem hil)
 have z:0<1*(whF frs[i]).2:=by have:=w.2;omega
 have lo:=cG (t:=1*(whF frs[i]).1) z
 have lb:=lo.bb (by rw [Int.one_mul];exact wb.1) (by rw [Int.one_mul];exact wb.2)
 exact ⟨lo.pos,lb.1,lb.2⟩
theorem GmS.hlm (g:GmS frs n S):BB (1+202*frs.length) (lc (bnF frs (cO frs.length))):=(lc_bbp g.gbn).mono (by rw [fD (fS _)];exact Nat.le_refl _)
theorem GmS.ha (g:GmS frs n S) (e:Bool) (j k:Nat):BB 202 ((aO e frs (cO frs.length) (cO n)).a j k):=by
 show BB 202 (if k<frs.length then (whL (frs.getD k [])).getD j 0 else - (whL (cO n)).getD j 0)
 by_cases h:k<frs.length
 ·rw [if_pos h]
  have hm:frs.getD k []∈frs:=by rw [getD_eq_getElem?_getD,getElem?_eq_getElem h];exact getElem_mem h
  by_cases hi:j<(whL (frs.getD k [])).length
  ·exact Js ((g.RE _ hm).clr g.S0) _ (kY hi)
  ·rw [getD_eq_getElem?_getD,getElem?_eq_none (by omega)]
   show (0:Int).natAbs<_;exact Nat.two_pow_pos _
 ·rw [if_neg h]
  exact ((Xs pR (q:=1) (by rw [Mb];show (1:Int).natAbs<2 ^ 1;decide) j).neg).mono (by decide)
theorem GmS.D_bb (g:GmS frs n S) (e:Bool) {s:Nat->Nat} (o:(aO e frs (cO frs.length) (cO n)).Okn s):BB 1459 ((aO e frs (cO frs.length) (cO n)).D s):=by
 have h:=D_bbk (L:=aO e frs (cO frs.length) (cO n)) (q:=202) (λ j k _ _=>g.ha e j k) o
 have eg:=fS n
 refine h.mono ?_
 show min frs.length (cO n).length*202+(frs.length+1)+(frs.length+1)*(frs.length+1)+1<=1459
 rw [eg]
 have sz:=g.sz
 have h1:(frs.length+1)*(frs.length+1)<=25*25:=Nat.mul_le_mul (by omega) (by omega)
 omega
theorem GmS.T_bb (g:GmS frs n S) (e:Bool) {s:Nat->Nat} (o:(aO e frs (cO frs.length) (cO n)).Okn s) (i qy:Nat) {y:Nat->Int} (hy:∀ k,BB qy (y k)):BB (1459+qy) ((aO e frs (cO frs.length) (cO n)).T s i y):=by
 have h:=T_bbk (L:=aO e frs (cO frs.length) (cO n)) (q:=202) (qy:=qy) (λ j k _ _=>g.ha e j k) o i λ k _=>hy k
 have eg:=fS n
 refine h.mono ?_
 show min frs.length (cO n).length*202+qy+(frs.length+1)+(frs.length+1)*(frs.length+1)+1<=1459+qy
 rw [eg]
 have sz:=g.sz
 have h1:(frs.length+1)*(frs.length+1)<=25*25:=Nat.mul_le_mul (by omega) (by omega)
 omega
theorem GmS.beo (g:GmS frs n S):BeO frs (cO frs.length) (cO n):=by
 have eb:=fS frs.length
 have eg:=fS n
 have sz:=g.sz
 have n2:=g.n2
 have gbn:=g.gbn
 have hlm:=g.hlm
 have one1:BB 1 (1:Int):=by show (1:Int).natAbs<2 ^ 1;decide
 have l1:BB 1 (lc (cO n)):=by rw [Mb];exact one1
 have wg:=Qm (pR (k:=n)) l1 (by decide)
 have wb:=Qm gbn hlm (by omega)
 have hbe:∀ e k,BB (31+(1+202*frs.length)) ((aO e frs (cO frs.length) (cO n)).be k):=λ e k=>Xs gbn hlm k
 refine ⟨λ r h=>by rw [eg];exact g.hr r h,eb,λ row h f hf=>?_,λ f hf=>?_,λ f hf=>?_,λ row h x hx=>?_,λ x hx=>?_,λ x hx=>?_,λ row h=>?_,?_,?_,λ b hbm row h=>?_,λ e=>⟨?_,?_,λ j k hj hk=>(g.ha e j k).mono (by decide),λ s i c o _=>?_,λ s i k o _ _=>?_,λ s i o _=>?_,λ s o=>?_⟩,λ e s o=>?_,λ e s o row h=>⟨?_,λ k hk=>?_⟩,?_⟩
 ·have q:=g.gr row h f hf;exact ⟨q.1,q.2.1.mono (by decide),q.2.2.mono (by decide)⟩
 ·have q:=pR f hf;exact ⟨q.1,q.2.1.mono (by decide),q.2.2.mono (by decide)⟩
 ·have q:=pR f hf;exact ⟨q.1,q.2.1.mono (by decide),q.2.2.mono (by decide)⟩
 ·exact ((g.RE row h).clr g.S0 x hx).mono (by decide)
 ·exact (Ex pR l1 x hx).mono (by decide)
 ·exact (Ex gbn hlm x hx).mono (by omega)
 ·exact ⟨(g.wr h).1.mono (by decide),(g.wr h).2.mono (by decide)⟩
 ·exact ⟨wb.1.mono (by omega),wb.2.mono (by omega)⟩
 ·exact ⟨wg.1.mono (by decide),wg.2.mono (by decide)⟩
 ·exact ⟨((pR b hbm).2.2.mul (g.wr h).2).mono (by decide),((pR b hbm).2.1.mul (g.wr h).1).mono (by decide)⟩
 ·show frs.length<=100;omega
 ·show (cO n).length<=100;omega
 ·refine (g.T_bb e o i 202 λ k=>?_).mono (by decide)
  unfold Lpd.cv
  split
  ·exact g.ha e _ _
  ·exact uC (by decide) _ _
 ·exact (g.T_bb e o i 1 λ r=>uC (Nat.le_refl _) _ _).mono (by decide)
 ·exact (g.T_bb e o i _ (hbe e)).mono (by omega)
 ·exact (g.D_bb e o).mono (by decide)
 ·exact ((g.D_bb e o).mul wb.1).mono (by omega)
 ·exact (((g.D_bb e o).mul (g.wr h).2).mul wg.1).mono (by decide)
 ·exact ((g.T_bb e o frs.length 1 λ r=>uC (Nat.le_refl _) _ _).mul (g.wr h).1).mono (by decide)
 ·by_cases h4:frs.length<=4
  ·refine ⟨31+(1+202*frs.length)+202,1042,⟨by decide,by omega,by omega,?_⟩,by omega,λ k h=>by omega,λ j k=>(g.ha false j k).mono (by omega),λ k=>(hbe false k).mono (by omega)⟩
   have h1:(frs.length+1)*(frs.length+1)<=5*5:=Nat.mul_le_mul (by omega) (by omega)
   have h2:min frs.length (cO n).length*1042<=4*1042:=Nat.mul_le_mul_right _ (by omega)
   omega
  ·refine ⟨31+(1+202*frs.length)+202,2560,⟨by decide,by omega,by omega,?_⟩,by omega,λ k h=>?_,λ j k=>(g.ha false j k).mono (by omega),λ k=>(hbe false k).mono (by omega)⟩
   ·have h1:(frs.length+1)*(frs.length+1)<=25*25:=Nat.mul_le_mul (by omega) (by omega)
    have h2:min frs.length (cO n).length*2560<=2*2560:=Nat.mul_le_mul_right _ (by omega)
    omega
   ·by_cases hk:k<=6
    ·have:=Nat.pow_le_pow_right (show 0<2 by decide) hk
     omega
    ·have:=Nat.pow_le_pow_right (show 0<2 by decide) (show 7<=k by omega)
     omega
end
theorem GmS.wo {frs:List (List (Int×Int))} {n:Nat} {S:Int} (g:GmS frs n S):WoO frs frs.length n:=by
 have B:=g.beo
 have eg:=fS n
 have sz:=g.sz
 refine ⟨B,λ fl s ok io=>⟨_,?_,?_,λ j hj=>x_dvd B ok (λ i hi=>Ce hi) (by rw [eg];exact hj)⟩,λ fl s ok un k hk=>?_⟩
 ·refine Int.mul_pos ok.pos (Ul λ k hk=>?_)
  unfold gK
  split
  ·exact (xW B hk).2
  ·decide
 ·have inj:∀ i j,i<frs.length->j<frs.length->i≠j->s i≠s j:=λ i j hi hj h=>ok.n.inj hi hj h
  have few:=out_few (n:=(cO n).length) inj io
  have h1:=Yh (f:=gK frs (cO n).length s) (c:=λ k=>if xM s frs.length (cO n).length k<1 then 202 else 1) (n:=frs.length) λ k hk=>by
   unfold gK
   by_cases z:xM s frs.length (cO n).length k=0
   ·rw [if_pos z,if_pos (by omega)]
    exact (g.wr (by rw [getD_eq_getElem?_getD,getElem?_eq_getElem hk];exact getElem_mem hk)).2
   ·rw [if_neg z,if_neg (by omega)]
    show (1:Int).natAbs<2 ^ 1;decide
  have h2:=Lx (s:=xM s frs.length (cO n).length) 1 202 frs.length
  have e:nsm frs.length (λ k=>if xM s frs.length (cO n).length k<1 then 1 else 0)=nsm frs.length (λ k=>if xM s frs.length (cO n).length k=0 then 1 else 0):=jD λ k _=>by
   by_cases z:xM s frs.length (cO n).length k=0
   ·rw [if_pos z,if_pos (by omega)]
   ·rw [if_neg z,if_neg (by omega)]
  rw [e] at h2
  rw [eg] at few h2 h1 ⊢
  have h3:=Nat.mul_le_mul_right 202 few
  exact ((g.D_bb fl ok.n).mul h1).mono (by omega)
 ·obtain ⟨y2,yc,_,ye⟩:=Ja B ok un hk
  have w:=xW B hk
  have w1:=fG λ f hf=>(B.gg f hf).1
  have one1:BB 1 (lc (cO n)):=by rw [Mb];show (1:Int).natAbs<2 ^ 1;decide
  have wg:=Qm (pR (k:=n)) one1 (by decide)
  have hm:frs.getD k []∈frs:=by rw [getD_eq_getElem?_getD,getElem?_eq_getElem hk];exact getElem_mem hk
  exact xZ ((((g.D_bb fl ok.n).mul (g.wr hm).2).mul wg.1).mono (by decide)) (Int.mul_pos (Int.mul_pos ok.pos w.2) w1.1) (zN ye yc)
theorem floor_b {S u:Int} (S0:0<S):(lo2 u S).1.fdiv (lo2 u S).2*S<=u/\u<((lo2 u S).1.fdiv (lo2 u S).2+1)*S:=by
 have l:=cG (t:=u) S0
 have e:=l.eq
 have p:=l.pos
 have h:=Int.mul_fdiv_add_fmod (lo2 u S).1 (lo2 u S).2
 have h1:=Int.fmod_nonneg_of_pos (lo2 u S).1 p
 have h2:=Int.fmod_lt_of_pos (lo2 u S).1 p
 generalize (lo2 u S).1.fdiv (lo2 u S).2=z at h ⊢
 generalize (lo2 u S).1.fmod (lo2 u S).2=r at h h1 h2
 generalize (lo2 u S).1=A at e h
 generalize (lo2 u S).2=B at e h p h2
 have k1:u*B=z*S*B+r*S:=by rw [← e,← h];grind
 have k2:0<=r*S:=Int.mul_nonneg h1 (Int.le_of_lt S0)
 have k3:r*S<B*S:=Int.mul_lt_mul_of_pos_right h2 S0
 constructor
 ·exact Int.le_of_mul_le_mul_right (show z*S*B<=u*B by omega) p
 ·refine Int.lt_of_mul_lt_mul_right (a:=B) ?_ (Int.le_of_lt p)
  have:(z+1)*S*B=z*S*B+B*S:=by grind
  omega
theorem wo_of {us:List (List Int)} {n:Nat} {S z:Int} (sh:Sh us n) (hS:S=12∨S=1000000007) (mn:Mnf (lwR S us) z):WoO (qJ z (lwR S us)) (lwR S us).length n:=by
 have S0:0<S:=by omega
 have em:(qJ z (lwR S us)).length=(lwR S us).length:=by unfold qJ;rw [length_map]
 have el:=sN S us
 have sz:=sh.sz
 obtain ⟨r,hr,f,hf,ez⟩:=mn.at_
 obtain ⟨row,hrow,rfl⟩:=mem_map.mp hr
 obtain ⟨u',hu',rfl⟩:=mem_map.mp hf
 have fb:=floor_b (u:=u') S0
 rw [← ez] at fb
 have bu':=sh.hu row hrow u' hu'
 have bN:∀ u:Int,u.natAbs<10 ^ 60->BB 202 (u+(1 - z)*S):=λ u hu=>by
  show (u+(1 - z)*S).natAbs<2 ^ 202
  have e1:(1 - z)*S=S - z*S:=by grind
  have e2:(z+1)*S=z*S+S:=by grind
  rw [e1]
  rw [e2] at fb
  have k:(10:Nat) ^ 60*2+4*1000000007<2 ^ 202:=by decide
  generalize z*S=t at fb ⊢
  generalize (2:Nat) ^ 202=W at k ⊢
  generalize (10:Nat) ^ 60=V at k hu bu'
  omega
 have bS:BB 31 S:=by
  show S.natAbs<2 ^ 31
  rcases hS with rfl | rfl <;> decide
 rw [← em]
 refine GmS.wo (S:=S) ⟨λ row hm=>?_,S0,bS,λ row hm=>⟨λ f hf=>?_⟩,by omega,by omega⟩
 ·obtain ⟨r1,h1,rfl⟩:=mem_map.mp hm
  obtain ⟨r2,h2,rfl⟩:=mem_map.mp h1
  rw [length_map,length_map];exact sh.hr r2 h2
 ·obtain ⟨r1,h1,rfl⟩:=mem_map.mp hm
  obtain ⟨r2,h2,rfl⟩:=mem_map.mp h1
  obtain ⟨f1,h3,rfl⟩:=mem_map.mp hf
  obtain ⟨u,h4,rfl⟩:=mem_map.mp h3
  exact ⟨_,ent_lft S0,bN u (sh.hu r2 h2 u h4)⟩
noncomputable def vJ:List PySem.Str:=["_law_script", "_law_k"]
noncomputable def dE (K:W.Frag):Sp:=λ vs H Q _=>∃ a ns k,vs=[.ref a,.int k]/\SqL K H a (List.map V.int ns)/\0<=k/\Q (.int (ns.getD k.toNat 0)) H
noncomputable def vA (K:W.Frag):TS:=(aU (dG (bR (tOp iJ (aB 1) (tCB (gO K) (aC (aB 0) aN)))) (bK (tOp (dU K) (aB 0) (aB 1))) cE) (bK (tC (.int 0))))
theorem Iv {K vs H Q E} (h:dE K vs H Q E):vs.length=2:=by obtain ⟨a,ns,b,rfl,_⟩:=h;rfl
theorem Ng {K vs H Q E} (h:dE K vs H Q E):vA K { nx:=λ _ H'=>Q .non H',rt:=Q } (start vJ vs) H:=by
 obtain ⟨a,ns,k,rfl,hS,hk,q⟩:=h
 rw [show start vJ [V.ref a,V.int k]=[some (.ref a),some (.int k)] from rfl]
 (dsimp? [vA])
 refine ⟨_,.inl hS,jY (λ hl=>?_) (λ hl=>?_)⟩
 ·rw [length_map] at hl
  exact ⟨_,hS,_,zO hk hl,q⟩
 ·rw [length_map] at hl
  rw [getD_eq_getElem?_getD,getElem?_eq_none (by omega)] at q
  exact q
noncomputable def Cn:List PySem.Str:=["_law_script", "_law_k", "_law_cell", "_law_j"]
noncomputable def sJ (K:W.Frag):Sp:=λ vs H Q _=>∃ a ns,∃ k:Nat,vs=[.ref a,.int k]/\SqL K H a (List.map V.int ns)/\∀ z:Int,0<=z->z<2147483587->Q (.int z) H
noncomputable def tF (K:W.Frag):TS:=(bK (tOp eY (aB 2) (tC (.int 2147483587))))
noncomputable def Aq (K:W.Frag):TS:=(bH (tOp gL (aB 2) (tC (.int 2147483587))) (aK 2))
noncomputable def tE (K:W.Frag):TS:=(aU (jX (hE (aC (tOp eY (aB 1) (tC (.int 8))) aN)) (aK 3) (Aq K)) (tF K))
noncomputable def Bu (K:W.Frag):TS:=(aU (bH (tC (.int 0)) (aK 2)) (aU (dG (bR (tOp iJ (tOp gP (tC (.int 1)) (tOp eY (tOp Cv (aB 1) (tC (.int 8))) (tC (.int 62)))) (tCB (gO K) (aC (aB 0) aN)))) (bH (tOp gL (tOp (dU K) (aB 0) (tOp gP (tC (.int 1)) (tOp eY (tOp Cv (aB 1) (tC (.int 8))) (tC (.int 62))))) (tOp tY (tC (.int 10)) (tC (.int 64)))) (aK 2)) cE) (tE K)))
theorem Qd {K vs H Q E} (h:sJ K vs H Q E):vs.length=2:=by obtain ⟨a,ns,k,rfl,_⟩:=h;rfl
theorem Rz {K vs H Q E} (h:sJ K vs H Q E):Bu K { nx:=λ _ H'=>Q .non H',rt:=Q } (start Cn vs) H:=by
 obtain ⟨a,ns,k,rfl,hS,q⟩:=h
 rw [show start Cn [V.ref a,V.int k]=[some (.ref a),some (.int k),none,none] from rfl]
 have rest:∀ c:Int,tE K { nx:=λ _ H'=>Q .non H',rt:=Q } [some (.ref a),some (.int k),some (.int c),none] H:=by
  intro c
  (dsimp? [tE,jX,hE])
  have w1:=Int.emod_nonneg (k:Int) (show (8:Int)≠0 by decide)
  have w2:=Int.emod_lt_of_pos (k:Int) (show (0:Int)<8 by decide)
  refine ⟨by decide,by omega,by omega,Ch (lo:=0) (g:=aK 3) (D:={ nx:=tF K { nx:=λ _ H'=>Q .non H',rt:=Q },rt:=Q }) (SEq H λ _ σ=>∃ c o,σ=[some (.ref a),some (.int k),some (.int c),o]) ?_ ?_ ?_⟩
  ·exact ⟨rfl,c,none,rfl⟩
  ·rintro i σ H3 _ ⟨rfl,c,o,rfl⟩
   (dsimp? [Aq])
   exact ⟨⟨by decide,BB.mono (m:=40) (by unfold BB;decide) (by decide)⟩,rfl,_,_,rfl⟩
  ·rintro σ H3 ⟨rfl,c,o,rfl⟩
   (dsimp? [tF])
   exact ⟨by decide,q _ (Int.emod_nonneg _ (by decide)) (Int.emod_lt_of_pos _ (by decide))⟩
 (dsimp? [Bu])
 refine ⟨⟨by decide,by decide⟩,by decide,_,.inl hS,jY (λ hl=>?_) (λ _=>rest 0)⟩
 rw [length_map] at hl
 have w1:=Int.emod_nonneg ((k:Int) / 8) (show (62:Int)≠0 by decide)
 exact ⟨⟨by decide,by decide⟩,by decide,_,hS,_,zO (by omega) hl,⟨by decide,by decide,by decide⟩,_,rfl,⟨by decide,BB.mono (m:=220) (by unfold BB;decide) (by decide)⟩,rest _⟩
noncomputable def Cm:List PySem.Str:=["_law_script", "_law_k", "_law_cell", "_law_number"]
noncomputable def pA (K:W.Frag):Sp:=λ vs H Q _=>∃ a ns,∃ k:Nat,vs=[.ref a,.int k]/\SqL K H a (List.map V.int ns)/\k<=1000/\∀ z:Int,0<=z->z<2147483587->Q (.int z) H
noncomputable def tD (K:W.Frag):TS:=(aU (bH (tOp gP (tOp eY (aB 2) (tOp tY (tC (.int 10)) (tC (.int 18)))) (tOp cH (tC (.int 48271)) (tOp gP (aB 1) (tC (.int 1))))) (aK 3)) (aU (bH (tOp gP (tOp eY (tOp cH (aB 3) (aB 3)) (tC (.int 2147483629))) (tOp cH (tC (.int 69621)) (aB 1))) (aK 3)) (bK (tOp eY (tOp cH (aB 3) (aB 3)) (tC (.int 2147483587))))))
noncomputable def sZ (K:W.Frag):TS:=(aU (dG (bR (tOp xN (tCB (gO K) (aC (aB 0) aN)) (tC (.int 0)))) (bH (tOp (dU K) (aB 0) (tOp eY (aB 1) (tCB Xg (aC (tC (.int 63)) (aC (tCB (gO K) (aC (aB 0) aN)) aN))))) (aK 2)) cE) (tD K))
noncomputable def sY (K:W.Frag):TS:=(aU (dG (bR (tOp rEq (tOp eY (tOp gL (aB 2) (tOp tY (tC (.int 10)) (tC (.int 6)))) (tC (.int 2))) (tC (.int 1)))) (bK (aT (sJ K) [] E0 (aC (aB 0) (aC (aB 1) aN)))) cE) (sZ K))
noncomputable def Bt (K:W.Frag):TS:=(aU (bH (tC (.int 0)) (aK 2)) (aU (dG (bR (tOp xN (tCB (gO K) (aC (aB 0) aN)) (tC (.int 0)))) (bH (tOp (dU K) (aB 0) (tC (.int 0))) (aK 2)) cE) (sY K)))
theorem Qc {K vs H Q E} (h:pA K vs H Q E):vs.length=2:=by obtain ⟨a,ns,k,rfl,_⟩:=h;rfl
theorem Ry {K vs H Q E} (h:pA K vs H Q E):Bt K { nx:=λ _ H'=>Q .non H',rt:=Q } (start Cm vs) H:=by
 obtain ⟨a,ns,k,rfl,hS,hk,q⟩:=h
 rw [show start Cm [V.ref a,V.int k]=[some (.ref a),some (.int k),none,none] from rfl]
 have r1:∀ c:Int,tD K { nx:=λ _ H'=>Q .non H',rt:=Q } [some (.ref a),some (.int k),some (.int c),none] H:=by
  intro c
  (dsimp? [tD])
  have w1:=Int.emod_nonneg c (show (10 ^ Int.toNat 18:Int)≠0 by decide)
  have w2:=Int.emod_lt_of_pos c (show (0:Int)<10 ^ Int.toNat 18 by decide)
  have e18:(10 ^ Int.toNat 18:Int)=1000000000000000000:=by decide
  have b1:BB 64 (c % 10 ^ Int.toNat 18+48271*((k:Int)+1)):=by
   rw [e18] at w1 w2 ⊢
   unfold BB
   have:(2:Nat) ^ 64=18446744073709551616:=by decide
   rw [this];omega
  refine ⟨⟨by decide,by decide,by decide⟩,by decide,.l (by unfold BB;decide),.l b1,by decide,.l (by unfold BB;decide),?_⟩
  have v1:=Int.emod_nonneg ((c % 10 ^ Int.toNat 18+48271*((k:Int)+1))*(c % 10 ^ Int.toNat 18+48271*((k:Int)+1))) (show (2147483629:Int)≠0 by decide)
  have v2:=Int.emod_lt_of_pos ((c % 10 ^ Int.toNat 18+48271*((k:Int)+1))*(c % 10 ^ Int.toNat 18+48271*((k:Int)+1))) (show (0:Int)<2147483629 by decide)
  generalize (c % 10 ^ Int.toNat 18+48271*((k:Int)+1))*(c % 10 ^ Int.toNat 18+48271*((k:Int)+1)) % 2147483629=y at v1 v2
  refine ⟨.l ?_,by decide,q _ (Int.emod_nonneg _ (by decide)) (Int.emod_lt_of_pos _ (by decide))⟩
  unfold BB
  have:(2:Nat) ^ 64=18446744073709551616:=by decide
  rw [this];omega
 have r2:∀ c:Int,sZ K { nx:=λ _ H'=>Q .non H',rt:=Q } [some (.ref a),some (.int k),some (.int c),none] H:=by
  intro c
  (dsimp? [sZ,Xg])
  refine ⟨_,.inl hS,jY (λ h0=>?_) (λ _=>r1 c)⟩
  rw [length_map] at h0
  refine ⟨_,.inl hS,?_⟩
  rw [length_map]
  have hm:0<(if (ns.length:Int)<63 then (ns.length:Int) else 63)/\(if (ns.length:Int)<63 then (ns.length:Int) else 63)<=ns.length:=by split <;> omega
  generalize (if (ns.length:Int)<63 then (ns.length:Int) else 63)=m at hm
  have z1:=Int.emod_nonneg (k:Int) (show m≠0 by omega)
  have z2:=Int.emod_lt_of_pos (k:Int) hm.1
  exact ⟨hm.1,_,hS,_,zO z1 (by omega),r1 _⟩
 have r3:∀ c:Int,sY K { nx:=λ _ H'=>Q .non H',rt:=Q } [some (.ref a),some (.int k),some (.int c),none] H:=by
  intro c
  (dsimp? [sY])
  exact ⟨⟨by decide,by decide,by decide⟩,⟨by decide,BB.mono (m:=40) (by unfold BB;decide) (by decide)⟩,by decide,jY (λ _=>⟨_,_,k,rfl,hS,q⟩) (λ _=>r2 c)⟩
 (dsimp? [Bt])
 refine ⟨_,.inl hS,jY (λ h0=>?_) (λ _=>r3 0)⟩
 rw [length_map] at h0
 exact ⟨_,hS,_,zO (by decide) h0,r3 _⟩
noncomputable def Gn:List PySem.Str:=["_law_script", "_law_place", "_law_way", "_law_cell", "_law_number", "_law_far"]
noncomputable def wJ (K:W.Frag):Sp:=λ vs H Q _=>∃ a ns,∃ k w:Nat,vs=[.ref a,.int k,.int w]/\SqL K H a (List.map V.int ns)/\k<=1000/\w<16/\∀ (u:Int) H',aI H H'->u.natAbs<10 ^ 60->Q (.int u) H'
noncomputable def Df (K:W.Frag):TS:=(aU (bH (tOp (dU K) (pM (aC (tOp tY (tC (.int 10)) (tC (.int 18))) (aC (tOp tY (tC (.int 10)) (tC (.int 60))) aN))) (tOp Cv (aB 2) (tC (.int 15)))) (aK 5)) (bK (tOp kH (tOp eY (tOp gP (aB 3) (aB 4)) (tOp kH (tOp cH (tC (.int 2)) (aB 5)) (tC (.int 1)))) (tOp kH (aB 5) (tC (.int 1))))))
noncomputable def De (K:W.Frag):TS:=(aU (dG (bR (tOp iJ (aB 2) (tC (.int 11)))) (bK (tOp eY (aB 4) (tC (.int 3)))) cE) (Df K))
noncomputable def zP (K:W.Frag):TS:=(aU (bH (aT (dE K) [] E0 (aC (aB 0) (aC (tOp eY (aB 1) (tCB Xh (aC (tC (.int 1)) (aC (tCB Xg (aC (tC (.int 63)) (aC (tCB (gO K) (aC (aB 0) aN)) aN))) aN)))) aN))) (aK 3)) (aU (bH (aT (pA K) [] E0 (aC (aB 0) (aC (aB 1) aN))) (aK 4)) (aU (dG (bR (tOp iJ (aB 2) (tC (.int 6)))) (bK (tOp kH (tOp eY (aB 4) (tC (.int 61))) (tC (.int 30)))) cE) (De K))))
theorem Sy {K vs H Q E} (h:wJ K vs H Q E):vs.length=3:=by obtain ⟨_,_,_,_,rfl,_⟩:=h;rfl
theorem Vu {K vs H Q E} (h:wJ K vs H Q E):zP K { nx:=λ _ H'=>Q .non H',rt:=Q } (start Gn vs) H:=by
 obtain ⟨a,ns,k,w,rfl,hS,hk,hw,q⟩:=h
 rw [show start Gn [V.ref a,V.int k,V.int w]=[some (.ref a),some (.int k),some (.int w),none,none,none] from rfl]
 (dsimp? [zP,Xh,Xg];try simp_arith [zP,Xh,Xg,dE,pA])
 refine ⟨_,.inl hS,?_⟩
 rw [length_map]
 have hm:0<(if (if (ns.length:Int)<63 then (ns.length:Int) else 63) > 1 then (if (ns.length:Int)<63 then (ns.length:Int) else 63) else 1):=by
  split
  ·omega
  ·decide
 generalize (if (if (ns.length:Int)<63 then (ns.length:Int) else 63) > 1 then (if (ns.length:Int)<63 then (ns.length:Int) else 63) else 1)=D at hm
 have e60:(100:Nat)<10 ^ 60:=by decide
 refine ⟨hm,_,hS,Int.emod_nonneg _ (by omega),_,k,rfl,hS,hk,λ z z0 z1=>jY (λ _=>⟨by decide,q _ _ (aI.refl _) ?_⟩) (λ h6=>?_)⟩
 ·have h1:=Int.emod_nonneg z (show (61:Int)≠0 by decide)
  have h2:=Int.emod_lt_of_pos z (show (0:Int)<61 by decide)
  omega
 generalize ns.getD ((k:Int) % D).toNat 0=c
 (dsimp? [De])
 refine jY (λ _=>⟨by decide,q _ _ (aI.refl _) ?_⟩) (λ h11=>?_)
 ·have h1:=Int.emod_nonneg z (show (3:Int)≠0 by decide)
  have h2:=Int.emod_lt_of_pos z (show (0:Int)<3 by decide)
  omega
 (dsimp? [Df])
 obtain ⟨M,aM,M0,M6⟩:∃ M:Int,atI [V.int (10 ^ Int.toNat 18),V.int (10 ^ Int.toNat 60)] ((w:Int) / 15)=some (.int M)/\0<M/\M<=10 ^ 60:=by
  by_cases h:w=15
  ·rw [h];exact ⟨_,iI,by decide,by decide⟩
  ·rw [show (w:Int) / 15=0 by omega];exact ⟨_,kR,by decide,by decide⟩
 refine ⟨⟨by decide,by decide,by decide⟩,⟨by decide,by decide,by decide⟩,sz2,λ p hp=>⟨⟨by decide,by decide⟩,_,SqL.of aG,_,aM,_,rfl,.l (by show (2:Int).natAbs<2 ^ 64;decide),by omega,_,rfl,q _ _ (aI.upd hp) ?_⟩⟩
 have h1:=Int.emod_nonneg (c+z) (show 2*M - 1≠0 by omega)
 have h2:=Int.emod_lt_of_pos (c+z) (show (0:Int)<2*M - 1 by omega)
 omega
noncomputable def qR:List PySem.Str:=["_law_script", "_law_high", "_law_wide", "_law_way", "_law_rows_here", "_law_k"]
noncomputable def wK (K:W.Frag):Sp:=λ vs H Q _=>∃ a ns,vs=[.ref a]/\SqL K H a (List.map V.int ns)/\∀ r ps us n H',aI H H'->H' r=some (.lst (List.map V.ref ps))->bJ H' ps us->Sh us n->Q (.ref r) H'
noncomputable def Wq (a r:Addr) (m n w:Nat) (H0:Hp):Nat->St->Hp->Prop:=λ i σ H3=>∃ o ps us,σ=[some (.ref a),some (.int m),some (.int n),some (.int w),some (.ref r),o]/\aI H0 H3/\H3 r=some (.lst (List.map V.ref ps))/\bJ H3 ps us/\r∉ps/\us.length=i/\Us us n
noncomputable def Dj (K:W.Frag):TE:=(tOp (dU K) (aB 0) (aB 1))
noncomputable def Di (K:W.Frag):TE:=(bO (bQ K (aB 1)) [0] (Dj K))
noncomputable def uY (K:W.Frag):TS:=(aU (dG (bR (tOp rEq (aB 3) (tC (.int 9)))) (bK (bO (hE (aC (aB 2) aN)) [4] (Di K))) cE) (bK (aB 4)))
noncomputable def Dh (K:W.Frag):TE:=(tOp rT (tSl (rS K) (aB 0) gR (oP (tUn eX (tC (.int 1))))) (tSl (rS K) (aB 0) gR (oP (tC (.int 1)))))
noncomputable def uX (K:W.Frag):TS:=(aU (dG (bR (tOp rEq (tOp eY (aB 3) (tC (.int 4))) (tC (.int 3)))) (bH (bO (bQ K (aB 4)) [] (Dh K)) (aK 4)) cE) (uY K))
noncomputable def pS (K:W.Frag):TS:=(aU (dG (bR (tOp rEq (tOp eY (aB 3) (tC (.int 4))) (tC (.int 2)))) (bH (tCB (To K) (aC (tOp (dU K) (aB 4) (tC (.int 0))) aN)) (Hy (aB 4) (tUn eX (tC (.int 1))) xC)) cE) (uX K))
noncomputable def Dg (K:W.Frag):TE:=(aT (wJ K) [] E0 (aC (aB 1) (aC (tOp gP (tOp cH (aB 2) (aB 3)) (aB 0)) (aC (tOp eY (aT (dE K) [] E0 (aC (aB 1) (aC (tC (.int 3)) aN))) (tC (.int 16))) aN))))
noncomputable def Dk (K:W.Frag):TS:=(tK (tBM K "list" zG (aB 4) (aC (bO (hE (aC (aB 2) aN)) [0,5,2] (Dg K)) aN)))
noncomputable def uW (K:W.Frag):TS:=(aU (bH (pM aN) (aK 4)) (aU (jX (hE (aC (aB 1) aN)) (aK 5) (Dk K)) (pS K)))
noncomputable def Fx (K:W.Frag):TS:=(aU (bH (tOp gP (tC (.int 1)) (tOp eY (aT (dE K) [] E0 (aC (aB 0) (aC (tC (.int 0)) aN))) (tC (.int 4)))) (aK 1)) (aU (bH (tOp gP (tC (.int 1)) (tOp eY (aT (dE K) [] E0 (aC (aB 0) (aC (tC (.int 1)) aN))) (tC (.int 4)))) (aK 2)) (aU (bH (tOp eY (aT (dE K) [] E0 (aC (aB 0) (aC (tC (.int 2)) aN))) (tC (.int 16))) (aK 3)) (aU (dG (bR (tOp rEq (tOp eY (aB 3) (tC (.int 8))) (tC (.int 1)))) (aU (bH (tOp gP (tC (.int 1)) (tOp eY (aT (dE K) [] E0 (aC (aB 0) (aC (tC (.int 0)) aN))) (tC (.int 2)))) (aK 1)) (bH (tOp gP (tC (.int 1)) (tOp eY (aT (dE K) [] E0 (aC (aB 0) (aC (tC (.int 1)) aN))) (tC (.int 24)))) (aK 2))) cE) (uW K)))))
theorem Sz {K vs H Q E} (h:wK K vs H Q E):vs.length=1:=by obtain ⟨_,_,rfl,_⟩:=h;rfl
theorem Gy {K:W.Frag} {Q:VK} {H G:Hp} {a r:Addr} {m n w:Nat} {ps:List Addr} {us:List (List Int)} {o:Option V} (s0:aI H G) (hr:G r=some (.lst (List.map V.ref ps))) (hu:bJ G ps us) (ul:us.length=m) (U:Us us n) (m1:1<=m) (n1:1<=n) (sz:(m<=4/\n<=4/\w≠9)∨(m<=2/\n<=24)) (q:∀ r ps us n H',aI H H'->H' r=some (.lst (List.map V.ref ps))->bJ H' ps us->Sh us n->Q (.ref r) H') :
  uY K { nx:=λ _ H'=>Q .non H',rt:=Q } [some (.ref a),some (.int m),some (.int n),some (.int w),some (.ref r),o] G:=by
 have pl:=hu.length
 (dsimp? [uY,bO,hE])
 refine jY (λ h9=>⟨by omega,by omega,?_⟩) (λ h9=>q r ps us n G s0 hr hu ⟨by omega,n1,by omega,λ row h=>(U row h).1,λ row h=>(U row h).2⟩)
 rw [Int.toNat_natCast]
 refine iN (lo:=0) (W:=λ i zs H3=>aI G H3/\∃ qs,zs=List.map V.ref qs/\∃ vs,bJ H3 qs vs/\vs.length=i/\Us vs m) (by rw [sizeLine_eq];omega) ⟨aI.refl _,[],rfl,[],trivial,rfl,(λ _ h=>nomatch h)⟩ ?_ ?_
 ·rintro i zs H3 hi _ ⟨s3,qs,rfl,vs,hq,vl,hV⟩
  (dsimp? [Di,bO,bQ,aQ,List.map_cons,List.map_nil,Option.join_some])
  refine ⟨⟨_,s3.seq (SqL.of hr)⟩,bX (K:=K) (a:=r) (xs:=List.map V.ref ps) (λ k zs H4=>H4=H3/\∃ row:List Int,zs=List.map V.int row/\row.length=k/\∀ u∈row,u.natAbs<10 ^ 60) (by rw [length_map,sizeLine_eq];omega) ⟨rfl,[],rfl,rfl,(λ _ h=>nomatch h)⟩ ?_ ?_ ?_⟩
  ·rintro k zs H4 _ ⟨rfl,_⟩
   exact s3.seq (SqL.of hr)
  ·rintro k x zs H4 hk _ ⟨rfl,row,rfl,rl,ru⟩
   obtain ⟨p,rfl,hp⟩:=bV hk
   obtain ⟨g,eg,hrow⟩:=hu.get hp
   obtain ⟨gl,gu⟩:=U g (mem_of_getElem? eg)
   have hin:i<n:=hi
   have at_:atI (List.map V.int g) (0+(i:Int))=some (.int (g.getD i 0)):=by rw [Int.zero_add];exact fR (by omega)
   (dsimp? [Dj,aQ,List.map_cons,List.map_nil,Option.join_some])
   refine ⟨_,s3.seq (SqL.of hrow),_,at_,row++[g.getD i 0],by rw [map_append];rfl,by rw [length_append,rl];rfl,λ u hu'=>?_⟩
   rcases mem_append.mp hu' with h | h
   ·exact ru u h
   ·rw [mem_singleton.mp h]
    refine gu _ ?_
    rw [getD_eq_getElem?_getD,getElem?_eq_getElem (by omega)]
    exact getElem_mem (by omega)
  ·rintro zs H4 _ ⟨rfl,row,rfl,rl,ru⟩ p hp
   rw [length_map,pl,ul] at rl
   refine ⟨s3.trans (aI.upd hp),qs++[p],by rw [map_append];rfl,vs++[row],bJ.snoc (hq.same (aI.upd hp)) aG,by rw [length_append,vl];rfl,λ g hg=>?_⟩
   rcases mem_append.mp hg with h | h
   ·exact hV g h
   ·rw [mem_singleton.mp h];exact ⟨rl,ru⟩
 ·rintro zs H3 _ ⟨s3,qs,rfl,vs,hq,vl,hV⟩ p hp
  refine q p qs vs m _ ((s0.trans s3).trans (aI.upd hp)) aG (hq.same (aI.upd hp)) ⟨by omega,m1,?_,λ row h=>(hV row h).1,λ row h=>(hV row h).2⟩
  omega
theorem Vv {K vs H Q E} (h:wK K vs H Q E):Fx K { nx:=λ _ H'=>Q .non H',rt:=Q } (start qR vs) H:=by
 obtain ⟨a,ns,rfl,hS,q⟩:=h
 rw [show start qR [V.ref a]=[some (.ref a),none,none,none,none,none] from rfl]
 have R2:∀ (m n w:Nat) (r:Addr) (ps:List Addr) (us:List (List Int)) (o:Option V) (G:Hp),aI H G->G r=some (.lst (List.map V.ref ps))->bJ G ps us->us.length=m->Us us n->1<=m->1<=n->((m<=4/\n<=4/\w≠9)∨(m<=2/\n<=24))->uX K { nx:=λ _ H'=>Q .non H',rt:=Q } [some (.ref a),some (.int m),some (.int n),some (.int w),some (.ref r),o] G:=by
  intro m n w r ps us o G s0 hr hu ul U m1 n1 sz
  have pl:=hu.length
  (dsimp? [uX,bO,bQ])
  refine ⟨by decide,jY (λ h=>⟨⟨_,SqL.of hr⟩,bX (K:=K) (a:=r) (xs:=List.map V.ref ps) (λ i zs H3=>aI G H3/\∃ qs,zs=List.map V.ref qs/\∃ vs,bJ H3 qs vs/\vs.length=i/\Us vs n) (by rw [length_map,sizeLine_eq];omega) ⟨aI.refl _,[],rfl,[],trivial,rfl,(λ _ h=>nomatch h)⟩ ?_ ?_ ?_⟩) (λ h=>Gy s0 hr hu ul U m1 n1 sz q)⟩
  ·rintro i zs H3 _ ⟨s3,_⟩
   exact s3.seq (SqL.of hr)
  ·rintro i x zs H3 hi _ ⟨s3,qs,rfl,vs,hq,vl,hV⟩
   obtain ⟨p,rfl,hp⟩:=bV hi
   obtain ⟨g,eg,hrow⟩:=hu.get hp
   obtain ⟨gl,gu⟩:=U g (mem_of_getElem? eg)
   (dsimp? [Dh,rS,rT])
   refine ⟨_,s3.seq (SqL.of hrow),λ z1 hz1=>?_⟩
   rw [uQ,length_map,← map_take]
   refine ⟨_,SqL.of (aI.upd hz1 _ _ (s3 _ _ hrow)),λ z2 hz2=>?_⟩
   rw [cut_one]
   refine ⟨_,aI.upd hz2 _ _ aG,_,aG,by rw [length_map,length_map,length_take,length_take,sizeLine_eq];omega,λ z3 hz3=>?_⟩
   have s4:=((aI.upd (o:=HO.lst (List.map V.int (g.take (g.length - 1)))) hz1).trans (aI.upd (o:=HO.lst (List.map V.int (g.take 1))) hz2)).trans (aI.upd (o:=HO.lst (List.map V.int (g.take (g.length - 1))++List.map V.int (g.take 1))) hz3)
   refine ⟨s3.trans s4,qs++[z3],by rw [map_append];rfl,vs++[g.take (g.length - 1)++g.take 1],bJ.snoc (hq.same s4) (by rw [aG,map_append]),by rw [length_append,vl];rfl,λ g' hg'=>?_⟩
   rcases mem_append.mp hg' with h | h
   ·exact hV g' h
   ·rw [mem_singleton.mp h]
    refine ⟨by rw [length_append,length_take,length_take];omega,λ u hu'=>gu u ?_⟩
    rcases mem_append.mp hu' with h | h
    ·exact mem_of_mem_take h
    ·exact mem_of_mem_take h
  ·rintro zs H3 _ ⟨s3,qs,rfl,vs,hq,vl,hV⟩ p hp
   rw [length_map,pl,ul] at vl
   exact Gy ((s0.trans s3).trans (aI.upd hp)) aG (hq.same (aI.upd hp)) vl hV m1 n1 sz q
 have R3:∀ (m n w:Nat) (r:Addr) (ps:List Addr) (us:List (List Int)) (o:Option V) (G:Hp),H r=none->aI H G->G r=some (.lst (List.map V.ref ps))->bJ G ps us->r∉ps->us.length=m->Us us n->1<=m->1<=n->((m<=4/\n<=4/\w≠9)∨(m<=2/\n<=24))->pS K { nx:=λ _ H'=>Q .non H',rt:=Q } [some (.ref a),some (.int m),some (.int n),some (.int w),some (.ref r),o] G:=by
  intro m n w r ps us o G hrH s0 hr hu nr ul U m1 n1 sz
  have pl:=hu.length
  (dsimp? [pS,To,Hy,xC])
  refine ⟨by decide,jY (λ h=>?_) (λ h=>R2 m n w r ps us o G s0 hr hu ul U m1 n1 sz)⟩
  obtain ⟨p0,hp0⟩:∃ p,ps[0]?=some p:=⟨_,getElem?_eq_getElem (by omega)⟩
  obtain ⟨g,eg,hrow⟩:=hu.get hp0
  have hg:=U g (mem_of_getElem? eg)
  refine ⟨_,SqL.of hr,_,fI (j:=0) (v:=V.ref p0) (by rw [getElem?_map,hp0];rfl),_,rfl,_,.inl (SqL.of hrow),λ c hc=>?_⟩
  have s1:=aI.upd (o:=HO.lst (List.map V.int g)) hc
  have cg:(upd G c (.lst (List.map V.int g))) c=some (.lst (List.map V.int g)):=aG
  have rc:r≠c:=bT hr hc
  have hu1:=hu.same s1
  have hr1:=s1 _ _ hr
  generalize upd G c (.lst (List.map V.int g))=G1 at s1 cg hu1 hr1
  have ix:ixN (List.map V.ref ps).length (-1)=some (ps.length - 1):=by
   rw [length_map]
   unfold ixN
   rw [if_neg (by decide),if_pos (by omega)]
   congr 1
   omega
  refine ⟨_,hr1,_,ix,?_⟩
  rw [← List.map_set]
  have nr':r∉ps.set (ps.length - 1) c:=λ hm=>by
   rcases mem_or_eq_of_mem_set hm with h | h
   ·exact nr h
   ·exact rc h
  refine R2 m n w r _ (us.set (ps.length - 1) g) o _ ((s0.trans s1).put hrH) aG (bJ.put nr' (bJ.setr cg _ hu1)) (by rw [length_set];exact ul) (λ row h=>?_) m1 n1 sz
  rcases mem_or_eq_of_mem_set h with h | rfl
  ·exact U row h
  ·exact hg
 have R4:∀ (m n w:Nat),1<=m->1<=n->((m<=4/\n<=4/\w≠9)∨(m<=2/\n<=24))->uW K { nx:=λ _ H'=>Q .non H',rt:=Q } [some (.ref a),some (.int m),some (.int n),some (.int w),none,none] H:=by
  intro m n w m1 n1 sz
  (dsimp? [uW,jX,hE])
  refine ⟨sz0,λ r hr=>⟨by omega,by omega,?_⟩⟩
  rw [Int.toNat_natCast]
  have s1:=aI.upd (o:=HO.lst []) hr
  have hr1:(upd H r (.lst [])) r=some (.lst []):=aG
  generalize upd H r (.lst [])=H1 at s1 hr1
  refine Ch (lo:=0) (n:=m) (g:=aK 5) (D:={ nx:=pS K { nx:=λ _ H'=>Q .non H',rt:=Q },rt:=Q }) (Wq a r m n w H) ⟨none,[],[],rfl,s1,hr1,trivial,(λ h=>nomatch h),rfl,(λ _ h=>nomatch h)⟩ ?_ ?_
  ·rintro i σ H3 hi ⟨o,ps,us,rfl,s3,hr3,hu,nr,ul,U⟩
   (dsimp? [Dk,tK,tBM,zG,bO,hE])
   refine ⟨.inl ⟨rfl,_,SqL.of hr3⟩,by omega,by omega,?_⟩
   rw [Int.toNat_natCast]
   refine iN (lo:=0) (W:=λ j zs H4=>aI H3 H4/\∃ row:List Int,zs=List.map V.int row/\row.length=j/\∀ u∈row,u.natAbs<10 ^ 60) (by rw [sizeLine_eq];omega) ⟨aI.refl _,[],rfl,rfl,(λ _ h=>nomatch h)⟩ ?_ ?_
   ·rintro j zs H4 hj _ ⟨s4,row,rfl,rl,ru⟩
    have mn:m*n<=48:=by
     rcases sz with ⟨h1,h2,_⟩ | ⟨h1,h2⟩
     ·exact Nat.le_trans (Nat.mul_le_mul h1 h2) (by decide)
     ·exact Nat.le_trans (Nat.mul_le_mul h1 h2) (by decide)
    have hij:i*n<=m*n:=Nat.mul_le_mul_right _ (Nat.le_of_lt hi)
    (dsimp? [Dg,aQ,List.map_cons,List.map_nil,Option.join_some])
    have sH:=s3.trans s4
    obtain ⟨w',ew,hw'⟩:∃ w':Nat,ns.getD (3:Int).toNat 0 % 16=(w':Int)/\w'<16:=⟨(ns.getD (3:Int).toNat 0 % 16).toNat,by omega,by omega⟩
    have ek:(0+(i:Int))*(n:Int)+(0+(j:Int))=((i*n+j:Nat):Int):=by rw [Int.zero_add,Int.zero_add];push_cast;rfl
    refine ⟨.r (Nat.lt_of_le_of_lt (show (n:Int).natAbs<=100 by omega) (by decide)),a,ns,3,rfl,sH.seq hS,by decide,_,rfl,by decide,a,ns,i*n+j,w',by rw [ek,ew],sH.seq hS,by omega,hw',λ u H5 s5 hu5=>⟨s4.trans s5,row++[u],by rw [map_append];rfl,by rw [length_append,rl];rfl,λ v hv=>?_⟩⟩
    rcases mem_append.mp hv with h | h
    ·exact ru v h
    ·rw [mem_singleton.mp h];exact hu5
   ·rintro zs H4 _ ⟨s4,row,rfl,rl,ru⟩ p hp
    have s5:=s4.trans (aI.upd (o:=HO.lst (List.map V.int row)) hp)
    have hp5:(upd H4 p (.lst (List.map V.int row))) p=some (.lst (List.map V.int row)):=aG
    have hpr:p≠r:=λ e=>by rw [e,s4 _ _ hr3] at hp;cases hp
    generalize upd H4 p (.lst (List.map V.int row))=H5 at s5 hp5
    have hr5:=s5 _ _ hr3
    have rpl:=hu.length
    have hn':r∉ps++[p]:=λ hm=>by
     rcases mem_append.mp hm with hm | hm
     ·exact nr hm
     ·exact hpr (mem_singleton.mp hm).symm
    refine ⟨_,hr5,by rw [length_map,sizeLine_eq];omega,_,ps++[p],us++[row],rfl,(s3.trans s5).put hr,by rw [aG,map_append];rfl,bJ.put hn' (bJ.snoc (hu.same s5) hp5),hn',by rw [length_append,ul];rfl,λ g hg=>?_⟩
    rcases mem_append.mp hg with h | h
    ·exact U g h
    ·rw [mem_singleton.mp h];exact ⟨rl,ru⟩
  ·rintro σ H3 ⟨o,ps,us,rfl,s3,hr3,hu,nr,ul,U⟩
   exact R3 m n w r ps us o H3 hr s3 hr3 hu nr ul U m1 n1 sz
 (dsimp? [Fx])
 obtain ⟨w,ew,hw⟩:∃ w':Nat,ns.getD (2:Int).toNat 0 % 16=(w':Int)/\w'<16:=⟨(ns.getD (2:Int).toNat 0 % 16).toNat,by omega,by omega⟩
 refine ⟨a,ns,0,rfl,hS,by decide,_,rfl,by decide,a,ns,1,rfl,hS,by decide,_,rfl,by decide,a,ns,2,rfl,hS,by decide,_,rfl,by decide,by decide,?_⟩
 rw [ew]
 refine jY (λ h1=>⟨a,ns,0,rfl,hS,by decide,_,rfl,by decide,a,ns,1,rfl,hS,by decide,_,rfl,by decide,?_⟩) (λ h1=>?_)
 ·obtain ⟨m,em,m1,m2⟩:=Ep (ns.getD (0:Int).toNat 0) 2 (by decide)
  obtain ⟨n,en,n1,n2⟩:=Ep (ns.getD (1:Int).toNat 0) 24 (by decide)
  have em:1+ns.getD (0:Int).toNat 0 % 2=(m:Int):=em
  have en:1+ns.getD (1:Int).toNat 0 % 24=(n:Int):=en
  rw [em,en]
  exact R4 m n w m1 n1 (.inr ⟨m2,n2⟩)
 ·obtain ⟨m,em,m1,m2⟩:=Ep (ns.getD (0:Int).toNat 0) 4 (by decide)
  obtain ⟨n,en,n1,n2⟩:=Ep (ns.getD (1:Int).toNat 0) 4 (by decide)
  have em:1+ns.getD (0:Int).toNat 0 % 4=(m:Int):=em
  have en:1+ns.getD (1:Int).toNat 0 % 4=(n:Int):=en
  rw [em,en]
  exact R4 m n w m1 n1 (.inl ⟨m2,n2,by omega⟩)
noncomputable def vI:List PySem.Str:=["_law_one", "_law_other"]
noncomputable def eW (_:W.Frag):Sp:=λ vs H Q _=>∃ a b,vs=[.int a,.int b]/\Q (.int (Int.gcd a b:Nat)) H
noncomputable def vN (K:W.Frag):TS:=(Nv 0 1 (aC (aB 1) (aC (tOp eY (aB 0) (aB 1)) aN)))
noncomputable def uZ (K:W.Frag):TS:=(aU (bH (tCB Bd (aC (aB 0) aN)) (aK 0)) (aU (bH (tCB Bd (aC (aB 1) aN)) (aK 1)) (aU (xT (bR (tOp xN (aB 1) (tC (.int 0)))) (vN K)) (bK (aB 0)))))
theorem Iu {K vs H Q E} (h:eW K vs H Q E):vs.length=2:=by obtain ⟨a,b,rfl,_⟩:=h;rfl
theorem Nf {K vs H Q E} (h:eW K vs H Q E):uZ K { nx:=λ _ H'=>Q .non H',rt:=Q } (start vI vs) H:=by
 obtain ⟨a,b,rfl,k⟩:=h
 rw [show start vI [V.int a,V.int b]=[some (.int a),some (.int b)] from rfl]
 (dsimp! [uZ,aU,bH,aK,aB,xN,aC,aN,tCB,Bd,Rc])
 refine Fs (λ σ H'=>H'=H/\∃ g s,σ=[some (.int g),some (.int s)]/\0<=g/\0<=s/\Int.gcd g s=Int.gcd a b) (λ σ _=>(intO (σ.getD 1 none)).toNat) ?_ ?_ ?_
 ·exact ⟨rfl,_,_,rfl,by omega,by omega,by simp [Int.gcd]⟩
 ·rintro σ H' ⟨rfl,g,s,rfl,hg,hs,e⟩
  (dsimp! [vN,aB,tC,tOp,rI0,rI,eY,bK,bR,aC,aN,Nv,decide_eq_true_eq])
  refine jY (λ hp=>?_) (λ hp=>?_)
  ·have h1:=Int.emod_nonneg g (b:=s) (by omega)
   have h2:=Int.emod_lt_of_pos g hp
   simp [hp,h1,hs]
   refine ⟨?_,?_⟩
   ·rw [← e,Int.gcd_comm g s,Int.emod_def,Int.gcd_sub_mul_left_right]
   ·show max (g % s) 0<s
    omega
  ·have h0:s=0:=by omega
   subst h0
   rw [← e,Int.gcd_zero_right] at k
   have:((g.natAbs:Nat):Int)=g:=by omega
   rw [this] at k
   exact k
 ·intro σ H' Q1 Q2 im h
  dsimp only [bR,tOp,tC,rI0] at h ⊢
  first
  | (obtain ⟨v,hv,q⟩:=vV h
     exact vU hv (jJg q λ i q=>im _ _ q))
  | (obtain ⟨v,hv,i,j,hi,hj,b,hb,q⟩:=vV h
     exact vU hv ⟨i,j,hi,hj,b,hb,im _ _ q⟩)
noncomputable def yM:List PySem.Str:=["_law_top", "_law_bottom", "_law_by"]
noncomputable def mV (_:W.Frag):Sp:=λ vs H Q _=>∃ t b,vs=[.int t,.int b]/\0<b/\BB 9000 b/\∀ x y p H',aI H H'->H' p=some (.tup [.int x,.int y])->Lo t b x y->Q (.ref p) H'
noncomputable def sD (K:W.Frag):TS:=(aU (bH (aT (eW K) [] E0 (aC (aB 0) (aC (aB 1) aN))) (aK 2)) (bK (iX (aC (tOp gL (aB 0) (aB 2)) (aC (tOp gL (aB 1) (aB 2)) aN)))))
theorem Nr {K vs H Q E} (h:mV K vs H Q E):vs.length=2:=by obtain ⟨a,b,rfl,_⟩:=h;rfl
theorem Po {K vs H Q E} (h:mV K vs H Q E):sD K { nx:=λ _ H'=>Q .non H',rt:=Q } (start yM vs) H:=by
 obtain ⟨t,b,rfl,hb,bb,q⟩:=h
 rw [show start yM [V.int t,V.int b]=[some (.int t),some (.int b),none] from rfl]
 (try dsimp only [sD,aU,bH,aK,aB,tC,tOp,tUn,rI0,rI,rU,gP,kH,cH,gL,Cv,eY,tY,eX,iJ,Xe,xN,Ve,rEq,rNe,fH,bK,dG,bR,tB,tU,cE,aT,aC,aN,iX,pM,tCB,Bd,gO,Hz,tSl,oP,gR,rS,dU,cN,tL,Xa,Fb,tOr,zA,Nv,lN,kP,cT,kQ,Lq0,Lq1,Ls0,Ls1,Lca,Lna,cQ,cR,cP];try simp only [sD,aU,bH,aK,aB,tC,tOp,tUn,rI0,rI,rU,gP,kH,cH,gL,Cv,eY,tY,eX,iJ,Xe,xN,Ve,rEq,rNe,fH,bK,dG,bR,tB,tU,cE,aT,aC,aN,iX,pM,tCB,Bd,gO,Hz,tSl,oP,gR,rS,dU,cN,tL,Xa,Fb,tOr,zA,Nv,lN,kP,cT,kQ,Lq0,Lq1,Ls0,Ls1,Option.some.injEq,exists_eq_left',exists_eq_left,V.int.injEq,V.ref.injEq,V.bl.injEq,V.ty.injEq,List.cons.injEq,and_true,true_and,List.append_nil,exists_and_left,decide_eq_true_eq,Lca,Lna,and_assoc,eW,cQ,cR,cP,dQ,gQ,eN])
 have bg:=bb.gcd (i:=t) (by omega)
 have g0:0<Int.gcd t b:=Int.gcd_pos_of_ne_zero_right _ (by omega)
 exact ⟨⟨by omega,bg⟩,⟨by omega,bg⟩,sz2,λ p hp=>q _ _ p _ (aI.upd hp) aG (Qy hb)⟩
noncomputable def mO:List PySem.Str:=["row"]
noncomputable def lC (K:W.Frag):Sp:=λ vs H Q _=>∃ a ps fs,vs=[.ref a]/\SqL K H a (List.map V.ref ps)/\bI K H ps fs/\(∀ f∈fs,0<f.2/\BB 4000 f.2)/\fs≠[]/\fs.length<=100/\∀ z H',aI H H'->(∃ f∈fs,z=f.1.fdiv f.2)->(∀ f∈fs,z<=f.1.fdiv f.2)->Q (.int z) H'
noncomputable def qX (K:W.Frag):TE:=(tOp gL (tOp (cN K) (aB 0) (tC (.int 0))) (tOp (cN K) (aB 0) (tC (.int 1))))
noncomputable def qD (K:W.Frag):TS:=(bK (tCB (Ff K) (aC (bO (bQ K (aB 0)) [] (qX K)) aN)))
theorem Ed {K vs H Q E} (h:lC K vs H Q E):vs.length=1:=by obtain ⟨_,_,_,rfl,_⟩:=h;rfl
theorem Hl {K vs H Q E} (h:lC K vs H Q E):qD K { nx:=λ _ H'=>Q .non H',rt:=Q } (start mO vs) H:=by
 obtain ⟨a,ps,fs,rfl,hS,hf,hg,ne,hn,q⟩:=h
 have hpl:=hf.length
 rw [show start mO [V.ref a]=[some (.ref a)] from rfl]
 (dsimp? [qD,bO,bQ,Ff])
 refine ⟨⟨_,hS⟩,bX (K:=K) (a:=a) (xs:=List.map V.ref ps) (λ i zs H3=>aI H H3/\zs=List.map V.int ((fs.take i).map λ f=>f.1.fdiv f.2)) (by rw [length_map,sizeLine_eq];omega) ⟨aI.refl _,rfl⟩ ?_ ?_ ?_⟩
 ·rintro i zs H3 _ ⟨s3,_⟩
  exact s3.seq hS
 ·rintro i x zs H3 hi _ ⟨s3,rfl⟩
  obtain ⟨p,rfl,hp⟩:=bV hi
  obtain ⟨f,ef,hF⟩:=(hf.same s3).get hp
  have g:=hg f (mem_of_getElem? ef)
  (dsimp? [qX])
  refine ⟨_,hF,_,kR,_,hF,_,iI,_,rfl,_,rfl,⟨by omega,g.2.mono (by decide)⟩,s3,?_⟩
  rw [dN ef,map_append,map_append];rfl
 ·rintro zs H3 _ ⟨s3,rfl⟩ p hp
  rw [length_map,hpl,take_length]
  refine ⟨_,SqL.of aG,λ e=>ne (map_eq_nil_iff.mp e),λ z hz hA=>?_⟩
  obtain ⟨f,hf1,rfl⟩:=mem_map.mp hz
  exact q _ _ (s3.trans (aI.upd hp)) ⟨f,hf1,rfl⟩ λ g hg'=>hA _ (mem_map.mpr ⟨g,hg',rfl⟩)
noncomputable def wT:List PySem.Str:=["rows"]
noncomputable def sF (K:W.Frag):Sp:=λ vs H Q _=>∃ a rps frs n,vs=[.ref a]/\SqL K H a (List.map V.ref rps)/\gZ K H rps frs/\WoR frs n/\∀ z p H',aI H H'->H' p=some (.tup [.int (1 - z),.int 1])->Mnf frs z->Q (.ref p) H'
noncomputable def Ai (K:W.Frag):TE:=(aT (lC K) [] E0 (aC (aB 0) aN))
noncomputable def Bq (K:W.Frag):TS:=(bK (iX (aC (tOp kH (tC (.int 1)) (tCB (Ff K) (aC (bO (bQ K (aB 0)) [] (Ai K)) aN))) (aC (tC (.int 1)) aN))))
theorem Py {K vs H Q E} (h:sF K vs H Q E):vs.length=1:=by obtain ⟨_,_,_,_,rfl,_⟩:=h;rfl
theorem Rs {K vs H Q E} (h:sF K vs H Q E):Bq K { nx:=λ _ H'=>Q .non H',rt:=Q } (start wT vs) H:=by
 obtain ⟨a,rps,frs,n,rfl,hS,hf,W,q⟩:=h
 have hpl:=hf.length
 have m2:=W.m2
 rw [show start wT [V.ref a]=[some (.ref a)] from rfl]
 (dsimp? [Bq,bO,bQ,Ff])
 refine ⟨⟨_,hS⟩,bX (K:=K) (a:=a) (xs:=List.map V.ref rps) (λ i zs H3=>aI H H3/\∃ zz:List Int,zs=List.map V.int zz/\zz.length=i/\(∀ z∈zz,∃ r∈frs,∃ f∈r,z=f.1.fdiv f.2)/\∀ (k:Nat) z r,zz[k]?=some z->frs[k]?=some r->∀ f∈r,z<=f.1.fdiv f.2) (by rw [length_map,sizeLine_eq];omega) ⟨aI.refl _,[],rfl,rfl,(λ _ h=>nomatch h),λ k z r e=>by simp at e⟩ ?_ ?_ ?_⟩
 ·rintro i zs H3 _ ⟨s3,_⟩
  exact s3.seq hS
 ·rintro i x zs H3 hi _ ⟨s3,zz,rfl,zl,z1,z2⟩
  obtain ⟨p,rfl,hp⟩:=bV hi
  obtain ⟨r,qs,er,hrow,hfr⟩:=hf.get hp
  have hrm:=mem_of_getElem? er
  have rl:=W.hr r hrm
  have n1:=W.n1
  have n2:=W.n2
  (dsimp? [Ai])
  refine ⟨p,qs,r,rfl,s3.seq (SqL.of hrow),hfr.same s3,λ f hf'=>⟨(W.hg r hrm f hf').1,(W.hg r hrm f hf').2.2⟩,λ e=>by rw [e] at rl;simp at rl;omega,by omega,λ z H4 s4 ⟨f,hfm,e⟩ le=>⟨s3.trans s4,zz++[z],by rw [map_append];rfl,by rw [length_append,zl];rfl,λ z' hz'=>?_,λ k z' r' e1 e2 f' hf'=>?_⟩⟩
  ·rcases mem_append.mp hz' with h | h
   ·exact z1 z' h
   ·rw [mem_singleton.mp h];exact ⟨r,hrm,f,hfm,e⟩
  ·rcases uM e1 with ⟨e1,_⟩ | ⟨ek,rfl⟩
   ·exact z2 k z' r' e1 e2 f' hf'
   ·rw [ek,zl,er] at e2
    obtain rfl:=Option.some.inj e2
    exact le f' hf'
 ·rintro zs H3 _ ⟨s3,zz,rfl,zl,z1,z2⟩ p hp
  rw [length_map,hpl] at zl
  have m1:=W.m1
  refine ⟨_,SqL.of aG,λ e=>by rw [e] at zl;simp at zl;omega,λ z hz hA=>⟨sz2,λ t ht=>q z t _ ((s3.trans (aI.upd hp)).trans (aI.upd ht)) aG ⟨z1 z hz,λ r hr f hf'=>?_⟩⟩⟩
  obtain ⟨k,hk⟩:=getElem?_of_mem hr
  have hkl:k<zz.length:=by have:=(List.getElem?_eq_some_iff.mp hk).1;omega
  have h1:=hA _ (getElem_mem hkl)
  have h2:=z2 k _ r (getElem?_eq_getElem hkl) hk f hf'
  omega
noncomputable def Co:List PySem.Str:=["one", "other", "great", "small", "left"]
noncomputable def gS (_:W.Frag):Sp:=λ vs H Q _=>∃ a b,vs=[.int a,.int b]/\Q (.int (Int.gcd a b:Nat)) H
noncomputable def Ar (K:W.Frag):TS:=(aU (bH (tOp eY (aB 2) (aB 3)) (aK 4)) (aU (bH (aB 3) (aK 2)) (bH (aB 4) (aK 3))))
noncomputable def Bv (K:W.Frag):TS:=(aU (bH (tCB Bd (aC (aB 0) aN)) (aK 2)) (aU (bH (tCB Bd (aC (aB 1) aN)) (aK 3)) (aU (xT (bR (tOp rNe (aB 3) (tC (.int 0)))) (Ar K)) (bK (aB 2)))))
theorem Qe {K vs H Q E} (h:gS K vs H Q E):vs.length=2:=by obtain ⟨a,b,rfl,_⟩:=h;rfl
theorem Sa {K vs H Q E} (h:gS K vs H Q E):Bv K { nx:=λ _ H'=>Q .non H',rt:=Q } (start Co vs) H:=by
 obtain ⟨a,b,rfl,k⟩:=h
 rw [show start Co [V.int a,V.int b]=[some (.int a),some (.int b),none,none,none] from rfl]
 (dsimp! [Bv,aU,bH,aK,aB,aC,aN,tCB,Bd,Rc])
 refine Fs (λ σ H'=>H'=H/\∃ g s l,σ=[some (.int a),some (.int b),some (.int g),some (.int s),l]/\0<=g/\0<=s/\Int.gcd g s=Int.gcd a b) (λ σ _=>(intO (σ.getD 3 none)).toNat) ?_ ?_ ?_
 ·exact ⟨rfl,_,_,_,rfl,by omega,by omega,by simp [Int.gcd]⟩
 ·rintro σ H' ⟨rfl,g,s,l,rfl,hg,hs,e⟩
  (dsimp! [Ar,aU,bH,aK,aB,tC,tOp,rI,eY,rNe,fH,bK,bR])
  by_cases h0:s=0
  ·subst h0
   simp only [decide_true,Bool.not_true,Option.some.injEq,exists_eq_left',exists_eq_left,V.int.injEq,V.ref.injEq,V.bl.injEq,List.cons.injEq,and_true,true_and,exists_and_left,and_assoc,cQ,cR,cP,dQ,gQ,eN]
   rw [← e,Int.gcd_zero_right] at k
   have:((g.natAbs:Nat):Int)=g:=by omega
   rw [this] at k
   simpa using k
  ·have hp:0<s:=by omega
   have h1:=Int.emod_nonneg g h0
   have h2:=Int.emod_lt_of_pos g hp
   simp [h0,hp,h1,hs]
   refine ⟨?_,?_⟩
   ·rw [← e,Int.gcd_comm g s,Int.emod_def,Int.gcd_sub_mul_left_right]
   ·show max (g % s) 0<s
    omega
 ·intro σ H' Q1 Q2 im h
  dsimp only [bR,tOp,tC,rNe] at h ⊢
  first
  | (obtain ⟨v,hv,hs,q⟩:=vV h
     exact vU hv ⟨hs,im _ _ q⟩)
  | (obtain ⟨v,hv,hs,b,hb,q⟩:=vV h
     exact vU hv ⟨hs,b,hb,im _ _ q⟩)
noncomputable def Ml:List PySem.Str:=["top", "bottom", "shared"]
noncomputable def jQ (_:W.Frag):Sp:=λ vs H Q _=>∃ t b,vs=[.int t,.int b]/\b≠0/\BB 9000 b/\∀ x y p H',aI H H'->H' p=some (.tup [.int x,.int y])->Lo t b x y->Q (.ref p) H'
noncomputable def Ej (K:W.Frag):TS:=(aU (dG (bR (tOp rEq (aB 1) (tC (.int 0)))) lN cE) (aU (bH (aT (gS K) [] E0 (aC (aB 0) (aC (aB 1) aN))) (aK 2)) (aU (dG (bR (tOp iJ (aB 1) (tC (.int 0)))) (bH (tUn eX (aB 2)) (aK 2)) cE) (bK (iX (aC (tOp gL (aB 0) (aB 2)) (aC (tOp gL (aB 1) (aB 2)) aN)))))))
theorem Wj {K vs H Q E} (h:jQ K vs H Q E):vs.length=2:=by obtain ⟨a,b,rfl,_⟩:=h;rfl
theorem Zf {K vs H Q E} (h:jQ K vs H Q E):Ej K { nx:=λ _ H'=>Q .non H',rt:=Q } (start Ml vs) H:=by
 obtain ⟨t,b,rfl,hb,bb,q⟩:=h
 rw [show start Ml [V.int t,V.int b]=[some (.int t),some (.int b),none] from rfl]
 (try dsimp only [Ej,aU,bH,aK,aB,tC,tOp,tUn,rI0,rI,rU,gL,eX,iJ,rEq,fH,bK,dG,bR,cE,aT,aC,aN,iX,lN,Lq0,Lq1,Ls0,Ls1,cQ,cR,cP];try simp only [Ej,aU,bH,aK,aB,tC,tOp,tUn,rI0,rI,rU,gL,eX,iJ,rEq,fH,bK,dG,bR,cE,aT,aC,aN,iX,lN,Lq0,Lq1,Ls0,Ls1,Option.some.injEq,exists_eq_left',V.int.injEq,V.bl.injEq,List.cons.injEq,and_true,true_and,List.append_nil,exists_and_left,decide_eq_true_eq,and_assoc,gS,exists_eq_left,V.ref.injEq,cQ,cR,cP,dQ,gQ,eN])
 rw [if_neg hb]
 have bg:=bb.gcd (i:=t) hb
 have g0:0<Int.gcd t b:=Int.gcd_pos_of_ne_zero_right _ hb
 refine jY (λ hn=>?_) (λ hn=>?_)
 ·refine ⟨⟨by omega,bg.neg⟩,⟨by omega,bg.neg⟩,sz2,λ p hp=>q _ _ p _ (aI.upd hp) aG (lo_neg hn)⟩
 ·refine ⟨⟨by omega,bg⟩,⟨by omega,bg⟩,sz2,λ p hp=>q _ _ p _ (aI.upd hp) aG (Qy (by omega))⟩
noncomputable def Rf:List PySem.Str:=["one", "other"]
noncomputable def zF (K:W.Frag):Sp:=λ vs H Q _=>∃ p q a b c d,vs=[.ref p,.ref q]/\Tw K H p q a b c d/\0<b/\0<d/\BB 9000 (b*d)/\∀ r H',aI H H'->H' r=some (.tup [.int (lo2 (a*d+c*b) (b*d)).1,.int (lo2 (a*d+c*b) (b*d)).2])->Q (.ref r) H'
noncomputable def Qq (K:W.Frag):TS:=(bK (aT (jQ K) [] E0 (aC (tOp gP (tOp cH (tOp (cN K) (aB 0) (tC (.int 0))) (tOp (cN K) (aB 1) (tC (.int 1)))) (tOp cH (tOp (cN K) (aB 1) (tC (.int 0))) (tOp (cN K) (aB 0) (tC (.int 1))))) (aC (tOp cH (tOp (cN K) (aB 0) (tC (.int 1))) (tOp (cN K) (aB 1) (tC (.int 1)))) aN))))
theorem jJJ {K vs H Q E} (h:zF K vs H Q E):vs.length=2:=by obtain ⟨p,q,a,b,c,d,rfl,_⟩:=h;rfl
theorem rd_plus {K vs H Q E} (h:zF K vs H Q E):Qq K { nx:=λ _ H'=>Q .non H',rt:=Q } (start Rf vs) H:=by
 obtain ⟨p,q,a,b,c,d,rfl,⟨hp,hq,ba,bb,bc,bd⟩,b0,d0,b9,k⟩:=h
 rw [show start Rf [V.ref p,V.ref q]=[some (.ref p),some (.ref q)] from rfl]
 (dsimp? [Qq])
 refine ⟨_,hp,_,kR,_,hq,_,iI,_,rfl,_,rfl,.b ba bd,_,hq,_,kR,_,hp,_,iI,_,rfl,_,rfl,.b bc bb,_,hp,_,iI,_,hq,_,iI,_,rfl,_,rfl,.b bb bd,?_⟩
 have z:0<b*d:=Int.mul_pos b0 d0
 refine ⟨_,_,rfl,by omega,b9,λ x y r H' s h l=>k r H' s ?_⟩
 obtain ⟨e1,e2⟩:=l.uniq z (cG z)
 rw [← e1,← e2];exact h
noncomputable def zZ:List PySem.Str:=["row", "lift"]
noncomputable def wI (K:W.Frag):Sp:=λ vs H Q _=>∃ a t ps fs,∃ z:Int,vs=[.ref a,.ref t]/\SqL K H a (List.map V.ref ps)/\bI K H ps fs/\SqT K H t [.int (1 - z),.int 1]/\BB 9000 (1 - z)/\(∀ f∈fs,0<f.2/\BB 4000 f.1/\BB 4000 f.2)/\fs.length<=100/\∀ l qs H',aI H H'->H' l=some (.lst (List.map V.ref qs))->bI K H' qs (fs.map (lft z))->Q (.ref l) H'
noncomputable def Dd (K:W.Frag):TE:=(aT (zF K) [] E0 (aC (aB 0) (aC (aB 1) aN)))
noncomputable def Fv (K:W.Frag):TS:=(bK (bO (bQ K (aB 0)) [1] (Dd K)))
theorem Sx {K vs H Q E} (h:wI K vs H Q E):vs.length=2:=by obtain ⟨_,_,_,_,_,rfl,_⟩:=h;rfl
theorem Vt {K vs H Q E} (h:wI K vs H Q E):Fv K { nx:=λ _ H'=>Q .non H',rt:=Q } (start zZ vs) H:=by
 obtain ⟨a,t,ps,fs,z,rfl,hS,hf,ht,bz,hg,hn,q⟩:=h
 have hpl:=hf.length
 rw [show start zZ [V.ref a,V.ref t]=[some (.ref a),some (.ref t)] from rfl]
 (dsimp? [Fv,bO,bQ])
 refine ⟨⟨_,hS⟩,bX (K:=K) (a:=a) (xs:=List.map V.ref ps) (λ i zs H3=>aI H H3/\∃ qs,zs=List.map V.ref qs/\bI K H3 qs ((fs.take i).map (lft z))) (by rw [length_map,sizeLine_eq];omega) ⟨aI.refl _,[],rfl,trivial⟩ ?_ ?_ ?_⟩
 ·rintro i zs H3 _ ⟨s3,_⟩
  exact s3.seq hS
 ·rintro i x zs H3 hi _ ⟨s3,qs,rfl,hq⟩
  obtain ⟨p,rfl,hp⟩:=bV hi
  obtain ⟨f,ef,hF⟩:=(hf.same s3).get hp
  have g:=hg f (mem_of_getElem? ef)
  have one:BB 20000 (1:Int):=by show (1:Int).natAbs<2 ^ 20000;exact Nat.one_lt_two_pow (by decide)
  (dsimp? [Dd,aQ,List.map_cons,List.map_nil,Option.join_some])
  refine ⟨_,_,_,_,_,_,rfl,⟨hF,s3.tup ht,g.2.1.mono (by decide),g.2.2.mono (by decide),bz.mono (by decide),one⟩,g.1,by decide,by rw [Int.mul_one];exact g.2.2.mono (by decide),λ r H4 s4 hr=>⟨s3.trans s4,qs++[r],by rw [map_append];rfl,?_⟩⟩
  rw [dN ef,map_append]
  exact bI.snoc (hq.same s4) (SqT.of hr)
 ·rintro zs H3 _ ⟨s3,qs,rfl,hq⟩ l hl
  rw [length_map,hpl,take_length] at hq
  exact q l qs _ (s3.trans (aI.upd hl)) aG (hq.same (aI.upd hl))
noncomputable def Mn:List PySem.Str:=["one", "other"]
noncomputable def zT (K:W.Frag):Sp:=λ vs H Q _=>∃ p q a b c d,vs=[.ref p,.ref q]/\Tw K H p q a b c d/\Q (.bl (decide (a*d<c*b))) H
noncomputable def Ll (K:W.Frag):TS:=(bK (tOp iJ (tOp cH (tOp (cN K) (aB 0) (tC (.int 0))) (tOp (cN K) (aB 1) (tC (.int 1)))) (tOp cH (tOp (cN K) (aB 1) (tC (.int 0))) (tOp (cN K) (aB 0) (tC (.int 1))))))
theorem Wm {K vs H Q E} (h:zT K vs H Q E):vs.length=2:=by obtain ⟨p,q,a,b,c,d,rfl,_⟩:=h;rfl
theorem Zi {K vs H Q E} (h:zT K vs H Q E):Ll K { nx:=λ _ H'=>Q .non H',rt:=Q } (start Mn vs) H:=by
 obtain ⟨p,q,a,b,c,d,rfl,⟨hp,hq,ba,bb,bc,bd⟩,k⟩:=h
 rw [show start Mn [V.ref p,V.ref q]=[some (.ref p),some (.ref q)] from rfl]
 (dsimp! [Ll,aB,tC,tOp,rI0,rI,cH,iJ,bK,cN])
 exact ⟨_,hp,_,kR,_,hq,_,iI,_,rfl,_,rfl,.b ba bd,_,hq,_,kR,_,hp,_,iI,_,rfl,_,rfl,.b bc bb,k⟩
noncomputable def wV:List PySem.Str:=["row", "number", "fraction"]
noncomputable def sK (K:W.Frag):Sp:=λ vs H Q _=>∃ a ps fs,vs=[.ref a]/\SqL K H a (List.map V.ref ps)/\bI K H ps fs/\(∀ f∈fs,G9 f)/\fs.length<=100/\∀ l p H',aI H H'->H' l=some (.lst (List.map V.int (clr fs)))->H' p=some (.tup [.int (lc fs),.ref l])->Q (.ref p) H'
noncomputable def Tb (a:Addr) (H0:Hp) (fs:List (Int×Int)):Nat->St->Hp->Prop:=λ i σ H3=>H3=H0/\∃ o,σ=[some (.ref a),some (.int (lc (fs.take i))),o]/\BB (9000*i+1) (lc (fs.take i))
noncomputable def Tf (H0:Hp) (fs:List (Int×Int)):Nat->List V->Hp->Prop:=WEq H0 λ i ys=>ys=List.map V.int ((clr fs).take i)
noncomputable def Av (K:W.Frag):TE:=(tOp cH (tOp (cN K) (aB 0) (tC (.int 0))) (tOp gL (aB 1) (tOp (cN K) (aB 0) (tC (.int 1)))))
noncomputable def tG (K:W.Frag):TS:=(bK (iX (aC (aB 1) (aC (bO (bQ K (aB 0)) [1] (Av K)) aN))))
noncomputable def Mp (K:W.Frag):TS:=(bH (tOp cH (aB 1) (tOp gL (tOp (cN K) (aB 2) (tC (.int 1))) (aT (gS K) [] E0 (aC (aB 1) (aC (tOp (cN K) (aB 2) (tC (.int 1))) aN))))) (aK 1))
noncomputable def Bx (K:W.Frag):TS:=(aU (bH (tC (.int 1)) (aK 1)) (aU (jX (bQ K (aB 0)) (aK 2) (Mp K)) (tG K)))
theorem Qg {K vs H Q E} (h:sK K vs H Q E):vs.length=1:=by obtain ⟨a,ps,fs,rfl,_⟩:=h;rfl
theorem Sd {K vs H Q E} (h:sK K vs H Q E):Bx K { nx:=λ _ H'=>Q .non H',rt:=Q } (start wV vs) H:=by
 obtain ⟨a,ps,fs,rfl,hS,hf,hg,hn,q⟩:=h
 have hpl:=hf.length
 have hpos:∀ f∈fs,0<f.2:=λ f hf=>(hg f hf).1
 rw [show start wV [V.ref a]=[some (.ref a),none,none] from rfl]
 (dsimp! [Bx,jX,bQ,aU,bH,aK,aB,tC])
 refine ⟨⟨_,hS⟩,mT (K:=K) (a:=a) (xs:=List.map V.ref ps) (g:=aK 2) (D:={ nx:=tG K { nx:=λ _ H'=>Q .non H',rt:=Q },rt:=Q }) (Tb a H fs) ?_ ?_ ?_ ?_⟩
 ·exact ⟨rfl,none,rfl,by show BB 1 1;unfold BB;decide⟩
 ·rintro i σ H3 _ ⟨rfl,_⟩
  exact hS
 ·rintro i x σ H3 hi ⟨rfl,o,rfl,bl⟩
  obtain ⟨p,rfl,hp⟩:=bV hi
  obtain ⟨f,ef,hF⟩:=hf.get hp
  have gf:=hg f (mem_of_getElem? ef)
  have lp:0<lc (fs.take i):=Fk λ f hf=>hpos f (mem_of_mem_take hf)
  obtain ⟨o1,_,_,_,o5⟩:=Fj lp gf.1
  have e:=Ui ef
  have hlt:i<fs.length:=(List.getElem?_eq_some_iff.mp ef).1
  have bq:=gf.2.2.of_le o5
  have fne:f.2≠0:=Int.ne_of_gt gf.1
  have g0:0<Int.gcd (lc (fs.take i)) f.2:=Int.gcd_pos_of_ne_zero_right _ fne
  unfold lcf at e
  (try dsimp only [bH,aK,aB,tC,tOp,rI,cH,gL,aT,aC,aN,cN,Lq0,Lq1,Ls0,Ls1,cQ,cR,cP];try simp only [gS,bH,aK,aB,tC,tOp,rI,cH,gL,aT,aC,aN,cN,Lq0,Lq1,Ls0,Ls1,Option.some.injEq,exists_eq_left',V.int.injEq,V.ref.injEq,List.cons.injEq,and_true,List.append_nil,exists_and_left,and_assoc,exists_eq_left,V.bl.injEq,true_and,cQ,cR,cP,dQ,gQ,eN])
  refine ⟨_,hF,_,iI,_,hF,_,iI,_,rfl,_,rfl,⟨by omega,gf.2.2.gcd fne⟩,.b (m:=900001) (n:=9000) (bl.mono (by omega)) bq,?_⟩
  rw [← e]
  refine ⟨rfl,_,rfl,?_⟩
  rw [e]
  exact (bl.mul bq).mono (by omega)
 ·rintro σ H3 ⟨rfl,o,rfl,bl⟩
  rw [length_map,hpl,take_length] at bl ⊢
  (dsimp! [tG,bO,bQ,aB,bK,aC,aN,iX])
  refine ⟨⟨_,hS⟩,bX (K:=K) (a:=a) (xs:=List.map V.ref ps) (Tf H3 fs) ?_ ?_ ?_ ?_ ?_⟩
  ·rw [length_map,hpl,sizeLine_eq];omega
  ·exact ⟨rfl,by simp⟩
  ·rintro i ys H4 _ ⟨rfl,_⟩
   exact hS
  ·rintro i x ys H4 hi _ ⟨rfl,rfl⟩
   obtain ⟨p,rfl,hp⟩:=bV hi
   obtain ⟨f,ef,hF⟩:=hf.get hp
   have gf:=hg f (mem_of_getElem? ef)
   obtain ⟨k,hk⟩:=(uI fs 1 (by decide) hpos).2.2.1 f (mem_of_getElem? ef)
   have hk:lc fs=f.2*k:=hk
   have fne:f.2≠0:=Int.ne_of_gt gf.1
   have ek:(lc fs).fdiv f.2=k:=by rw [hk];exact Int.mul_fdiv_cancel_left _ fne
   have bk:BB (9000*fs.length+1) ((lc fs).fdiv f.2):=by
    refine bl.of_le ?_
    rw [ek,hk,Int.natAbs_mul]
    exact Nat.le_mul_of_pos_left _ (by omega)
   (dsimp! [Av,aQ,List.map_cons,List.map_nil,Option.join_some,aB,tC,tOp,rI,cH,gL,cN])
   refine ⟨_,hF,_,kR,_,hF,_,iI,_,rfl,⟨fne,gf.2.2⟩,_,rfl,.b (m:=20000) (n:=900001) gf.2.1 (bk.mono (by omega)),rfl,?_⟩
   show _=List.map V.int (List.take (i+1) (clr fs))
   rw [dN (Uy ef),map_append];rfl
  ·rintro ys H4 _ ⟨rfl,rfl⟩ l hl
   have hcl:(clr fs).length=fs.length:=by unfold clr;rw [length_map]
   rw [length_map,hpl,← hcl,take_length]
   refine ⟨sz2,λ p hp=>q l p _ ((aI.upd hl).trans (aI.upd hp)) (aI.upd hp _ _ aG) aG⟩
noncomputable def Gk:List PySem.Str:=["row", "told", "number"]
noncomputable def qS (K:W.Frag):Sp:=λ vs H Q _=>∃ a ns,vs=[.ref a]/\SqL K H a (List.map V.int ns)/\Q (.int (gl ns)) H
noncomputable def Wp (a:Addr) (H0:Hp) (ns:List Int):Nat->St->Hp->Prop:=λ i σ H3=>H3=H0/\∃ o,σ=[some (.ref a),some (.int (gl (ns.take i))),o]
noncomputable def Pj (K:W.Frag):TS:=(aU (bH (aT (gS K) [] E0 (aC (aB 1) (aC (aB 2) aN))) (aK 1)) (dG (bR (tOp rEq (aB 1) (tC (.int 1)))) (bK (aB 1)) cE))
noncomputable def Fu (K:W.Frag):TS:=(aU (bH (tC (.int 0)) (aK 1)) (aU (jX (bQ K (aB 0)) (aK 2) (Pj K)) (bK (aB 1))))
theorem Sw {K vs H Q E} (h:qS K vs H Q E):vs.length=1:=by obtain ⟨a,ns,rfl,_⟩:=h;rfl
theorem Vs {K vs H Q E} (h:qS K vs H Q E):Fu K { nx:=λ _ H'=>Q .non H',rt:=Q } (start Gk vs) H:=by
 obtain ⟨a,ns,rfl,hS,q⟩:=h
 rw [show start Gk [V.ref a]=[some (.ref a),none,none] from rfl]
 (dsimp! [Fu,jX,bQ,aU,bH,aK,aB,tC,bK])
 refine ⟨⟨_,hS⟩,mT (K:=K) (a:=a) (xs:=List.map V.int ns) (g:=aK 2) (D:={ nx:=bK (aB 1) { nx:=λ _ H'=>Q .non H',rt:=Q },rt:=Q }) (Wp a H ns) ?_ ?_ ?_ ?_⟩
 ·exact ⟨rfl,none,rfl⟩
 ·rintro i σ H3 _ ⟨rfl,_⟩
  exact hS
 ·rintro i x σ H3 hi ⟨rfl,o,rfl⟩
  obtain ⟨c,rfl,hc⟩:=cU hi
  have e:=gl_snoc hc
  unfold glf at e
  (try dsimp only [aU,bH,aK,aB,tC,tOp,rEq,fH,bK,dG,bR,cE,aT,aC,aN,Lq0,Lq1,Ls0,Ls1,cQ,cR,cP];try simp only [gS,aU,bH,aK,aB,tC,tOp,rEq,fH,bK,dG,bR,cE,aT,aC,aN,Lq0,Lq1,Ls0,Ls1,Option.some.injEq,exists_eq_left',V.int.injEq,V.bl.injEq,List.cons.injEq,and_true,true_and,List.append_nil,exists_and_left,decide_eq_true_eq,and_assoc,exists_eq_left,V.ref.injEq,cQ,cR,cP,dQ,gQ,eN])
  rw [← e]
  refine jY (λ h1=>?_) (λ h1=>?_)
  ·have e1:=gl_one h1
   rw [h1]
   rwa [e1] at q
  ·exact ⟨rfl,_,rfl⟩
 ·rintro σ H3 ⟨rfl,o,rfl⟩
  (dsimp! [aB,tC,tOp,rI0,rNe,fH,bK,bR])
  rwa [length_map,take_length]
noncomputable def Ez:List PySem.Str:=["row", "common"]
noncomputable def zR (K:W.Frag):Sp:=λ vs H Q _=>∃ a ns,vs=[.ref a]/\SqL K H a (List.map V.int ns)/\ns.length<=1000/\(∀ n∈ns,BB 9000 n)/\∀ l H',aI H H'->H l=none->H' l=some (.lst (List.map V.int (rV ns)))->Q (.ref l) H'
noncomputable def jJj (H0:Hp) (ns:List Int):Nat->List V->Hp->Prop:=λ i ys H3=>H3=H0/\ys=List.map V.int ((ns.take i).map λ n=>n.fdiv (gl ns))
noncomputable def Gx (K:W.Frag):TE:=(tOp gL (aB 0) (aB 1))
noncomputable def Lj (K:W.Frag):TS:=(aU (bH (aT (qS K) [] E0 (aC (aB 0) aN)) (aK 1)) (aU (dG (bR (tOp iJ (aB 1) (tC (.int 2)))) (bK (tCB (To K) (aC (aB 0) aN))) cE) (bK (bO (bQ K (aB 0)) [1] (Gx K)))))
theorem Wk {K vs H Q E} (h:zR K vs H Q E):vs.length=1:=by obtain ⟨a,ns,rfl,_⟩:=h;rfl
theorem Zg {K vs H Q E} (h:zR K vs H Q E):Lj K { nx:=λ _ H'=>Q .non H',rt:=Q } (start Ez vs) H:=by
 obtain ⟨a,ns,rfl,hS,hn,hb,q⟩:=h
 rw [show start Ez [V.ref a]=[some (.ref a),none] from rfl]
 (dsimp! [Lj,bO,bQ,To,aU,bH,aK,aB,tC,tOp,rI0,iJ,bK,dG,bR,cE,aT,aC,aN,tCB,List.append_nil,decide_eq_true_eq])
 refine ⟨_,_,rfl,hS,_,rfl,jY (λ h2=>?_) (λ h2=>?_)⟩
 ·refine ⟨_,.inl hS,λ l hl=>q l _ (aI.upd hl) hl ?_⟩
  unfold rV
  rw [if_pos h2];exact aG
 ·refine ⟨⟨_,hS⟩,bX (K:=K) (a:=a) (xs:=List.map V.int ns) (jJj H ns) ?_ ?_ ?_ ?_ ?_⟩
  ·rw [length_map,sizeLine_eq];omega
  ·exact ⟨rfl,rfl⟩
  ·rintro i ys H3 _ ⟨rfl,_⟩
   exact hS
  ·rintro i x ys H3 hi _ ⟨rfl,rfl⟩
   obtain ⟨c,rfl,hc⟩:=cU hi
   (dsimp! [Gx,aQ,List.map_cons,List.map_nil,Option.join_some,aB,tOp,rI,gL])
   refine ⟨⟨by omega,Tn hb⟩,rfl,?_⟩
   rw [dN hc];simp
  ·rintro ys H3 _ ⟨rfl,rfl⟩ p hp
   refine q p _ (aI.upd hp) hp ?_
   rw [length_map,take_length]
   unfold rV
   rw [if_neg h2];exact aG
noncomputable def Mi:List PySem.Str:=["row", "made"]
noncomputable def qM (K:W.Frag):Sp:=λ vs H Q _=>∃ a ps fs,vs=[.ref a]/\SqL K H a (List.map V.ref ps)/\bI K H ps fs/\(∀ f∈fs,G9 f)/\fs.length<=100/\(∀ x∈clr fs,BB 9000 x) /\
 ∀ r f l H',aI H H'->H' r=some (.tup [.ref f,.ref l])->H' f=some (.tup [.int (whF fs).1,.int (whF fs).2])->H' l=some (.lst (List.map V.int (whL fs)))->Q (.ref r) H'
noncomputable def Lh (K:W.Frag):TS:=(aU (bH (aT (sK K) [] E0 (aC (aB 0) aN)) (aK 1)) (bK (iX (aC (aT (jQ K) [] E0 (aC (tOp (cN K) (aB 1) (tC (.int 0))) (aC (tCB Xh (aC (aT (qS K) [] E0 (aC (tOp (cN K) (aB 1) (tC (.int 1))) aN)) (aC (tC (.int 1)) aN))) aN))) (aC (aT (zR K) [] E0 (aC (tOp (cN K) (aB 1) (tC (.int 1))) aN)) aN)))))
theorem Wh {K vs H Q E} (h:qM K vs H Q E):vs.length=1:=by obtain ⟨a,ps,fs,rfl,_⟩:=h;rfl
theorem Zd {K vs H Q E} (h:qM K vs H Q E):Lh K { nx:=λ _ H'=>Q .non H',rt:=Q } (start Mi vs) H:=by
 obtain ⟨a,ps,fs,rfl,hS,hf,hg,hn,hb,q⟩:=h
 rw [show start Mi [V.ref a]=[some (.ref a),none] from rfl]
 (dsimp! [Lh,Xh,aU,bH,aK,aB,tC,tOp,bK,aT,aC,aN,iX,tCB,cN,List.append_nil])
 refine ⟨_,_,_,rfl,hS,hf,hg,hn,λ l p H1 s1 hl hp=>⟨_,rfl,_,SqT.of hp,_,kR,_,rfl,_,SqT.of hp,_,iI,_,_,rfl,SqL.of hl,_,rfl,?_⟩⟩
 have hcl:(clr fs).length=fs.length:=by unfold clr;rw [length_map]
 have z:=sB (gl (clr fs))
 have b9:BB 9000 (mx1 (gl (clr fs))):=by
  unfold mx1;split
  ·show (1:Int).natAbs<2 ^ 9000;exact Nat.one_lt_two_pow (by decide)
  ·exact Tn hb
 refine ⟨_,_,rfl,show mx1 (gl (clr fs))≠0 by omega,b9,λ x y f H2 s2 hf2 lo=>?_⟩
 obtain ⟨e1,e2⟩:=lo.uniq z (cG z)
 have hF:H2 f=some (.tup [.int (whF fs).1,.int (whF fs).2]):=by unfold whF;rw [← e1,← e2];exact hf2
 refine ⟨_,rfl,_,SqT.of (s2 _ _ hp),_,iI,_,_,rfl,SqL.of (s2 _ _ hl),by omega,hb,λ l2 H3 s3 _ hl3=>?_⟩
 refine ⟨sz2,λ r hr=>q r f l2 _ (((s1.trans s2).trans s3).trans (aI.upd hr)) aG (aI.upd hr _ _ (s3 _ _ hF)) (aI.upd hr _ _ hl3)⟩
noncomputable def Mj:List PySem.Str:=["one", "other"]
noncomputable def uL (K:W.Frag):Sp:=λ vs H Q _=>∃ p q a b c d,vs=[.ref p,.ref q]/\Tw K H p q a b c d/\0<b/\0<d/\BB 9000 (b*d)/\∀ r H',aI H H'->H' r=some (.tup [.int (lo2 (a*c) (b*d)).1,.int (lo2 (a*c) (b*d)).2])->Q (.ref r) H'
noncomputable def Li (K:W.Frag):TS:=(bK (aT (jQ K) [] E0 (aC (tOp cH (tOp (cN K) (aB 0) (tC (.int 0))) (tOp (cN K) (aB 1) (tC (.int 0)))) (aC (tOp cH (tOp (cN K) (aB 0) (tC (.int 1))) (tOp (cN K) (aB 1) (tC (.int 1)))) aN))))
theorem Wi {K vs H Q E} (h:uL K vs H Q E):vs.length=2:=by obtain ⟨p,q,a,b,c,d,rfl,_⟩:=h;rfl
theorem Ze {K vs H Q E} (h:uL K vs H Q E):Li K { nx:=λ _ H'=>Q .non H',rt:=Q } (start Mj vs) H:=by
 obtain ⟨p,q,a,b,c,d,rfl,⟨hp,hq,ba,bb,bc,bd⟩,b0,d0,b9,k⟩:=h
 rw [show start Mj [V.ref p,V.ref q]=[some (.ref p),some (.ref q)] from rfl]
 (dsimp! [Li,aB,tC,tOp,rI,cH,bK,aT,aC,aN,cN,List.append_nil])
 refine ⟨_,hp,_,kR,_,hq,_,kR,_,rfl,_,rfl,.b ba bc,_,hp,_,iI,_,hq,_,iI,_,rfl,_,rfl,.b bb bd,?_⟩
 have z:0<b*d:=Int.mul_pos b0 d0
 refine ⟨_,_,rfl,by omega,b9,λ x y r H' s h l=>k r H' s ?_⟩
 obtain ⟨e1,e2⟩:=l.uniq z (cG z)
 rw [← e1,← e2];exact h
noncomputable def wS:List PySem.Str:=["row"]
noncomputable def oZ (K:W.Frag):Sp:=λ vs H Q _=>∃ a ns,vs=[.ref a]/\SqL K H a (List.map V.int ns)/\ns≠[]/\ns.length<=200/\∀ (M:Nat) H',aI H H'->(∀ n∈ns,ib n<=M)->(∃ n∈ns,ib n=M)->Q (.int M) H'
noncomputable def Ah (K:W.Frag):TE:=(Xb K "int" Nz (aB 0))
noncomputable def Bp (K:W.Frag):TS:=(bK (tCB (Ob K) (aC (bO (bQ K (aB 0)) [] (Ah K)) aN)))
theorem Px {K vs H Q E} (h:oZ K vs H Q E):vs.length=1:=by obtain ⟨_,_,rfl,_⟩:=h;rfl
theorem Rr {K vs H Q E} (h:oZ K vs H Q E):Bp K { nx:=λ _ H'=>Q .non H',rt:=Q } (start wS vs) H:=by
 obtain ⟨a,ns,rfl,ha,ne,nl,q⟩:=h
 rw [show start wS [V.ref a]=[some (.ref a)] from rfl]
 (dsimp? [Bp,bO,bQ,Ob])
 refine ⟨⟨_,ha⟩,bX (K:=K) (a:=a) (xs:=List.map V.int ns) (λ i zs H3=>H3=H/\zs=List.map V.int ((ns.take i).map λ n=>(ib n:Int))) (by rw [length_map,sizeLine_eq];omega) ⟨rfl,rfl⟩ ?_ ?_ ?_⟩
 ·rintro i zs H3 _ ⟨rfl,_⟩
  exact ha
 ·rintro i x zs H3 hi _ ⟨rfl,rfl⟩
  obtain ⟨n,rfl,hn⟩:=cU hi
  (dsimp? [Ah,Xb,Nz])
  refine ⟨rfl,?_⟩
  rw [dN hn,map_append,map_append];rfl
 ·rintro zs H3 _ ⟨rfl,rfl⟩ p hp
  rw [length_map,take_length]
  refine ⟨_,SqL.of aG,λ z=>ne (map_eq_nil_iff.mp z),λ M hM hA=>?_⟩
  obtain ⟨n,hn,rfl⟩:=mem_map.mp hM
  refine q (ib n) _ (aI.upd hp) (λ m hm=>?_) ⟨n,hn,rfl⟩
  have:=hA _ (mem_map.mpr ⟨m,hm,rfl⟩)
  omega
noncomputable def pX:List PySem.Str:=["rows", "place"]
noncomputable def fU (K:W.Frag):Sp:=λ vs H Q _=>∃ a ps rs,∃ k:Int,∃ c:Nat,vs=[.ref a,.int k]/\SqL K H a (List.map V.ref ps)/\bJ H ps rs/\rs.length<=200/\(∀ r∈rs,atI (List.map V.int r) k=some (.int (r.getD c 0)))/\∀ l H',aI H H'->H l=none->H' l=some (.lst (List.map V.int (rs.map λ r=>r.getD c 0)))->Q (.ref l) H'
noncomputable def vO (K:W.Frag):TE:=(tOp (dU K) (aB 0) (aB 1))
noncomputable def vB (K:W.Frag):TS:=(bK (bO (bQ K (aB 0)) [1] (vO K)))
theorem Iw {K vs H Q E} (h:fU K vs H Q E):vs.length=2:=by obtain ⟨_,_,_,_,_,rfl,_⟩:=h;rfl
theorem Nh {K vs H Q E} (h:fU K vs H Q E):vB K { nx:=λ _ H'=>Q .non H',rt:=Q } (start pX vs) H:=by
 obtain ⟨a,ps,rs,k,c,rfl,hS,hr,hn,hc,q⟩:=h
 have hpl:=hr.length
 rw [show start pX [V.ref a,V.int k]=[some (.ref a),some (.int k)] from rfl]
 (dsimp! [vB,bO,bQ,aB,bK])
 refine ⟨⟨_,hS⟩,bX (K:=K) (a:=a) (xs:=List.map V.ref ps) (WEq H λ i zs=>zs=List.map V.int ((rs.take i).map λ r=>r.getD c 0)) ?_ ⟨rfl,rfl⟩ ?_ ?_ ?_⟩
 ·rw [length_map,sizeLine_eq];omega
 ·rintro i ys H3 _ ⟨rfl,_⟩
  exact hS
 ·rintro i x ys H3 hi _ ⟨rfl,rfl⟩
  obtain ⟨p,rfl,hp⟩:=bV hi
  obtain ⟨r,er,hrow⟩:=hr.get hp
  (dsimp! [vO,aQ,List.map_cons,List.map_nil,Option.join_some,aB,tOp,dU])
  refine ⟨_,SqL.of hrow,_,hc r (mem_of_getElem? er),rfl,?_⟩
  show _=List.map V.int ((rs.take (i+1)).map λ r=>r.getD c 0)
  rw [dN er,map_append,map_append];rfl
 ·rintro ys H3 _ ⟨rfl,rfl⟩ l hl
  rw [length_map,hpl,take_length]
  exact q l _ (aI.upd hl) hl aG
noncomputable def Lf:List PySem.Str:=["column"]
noncomputable def zE (K:W.Frag):Sp:=λ vs H Q _=>∃ a ns,vs=[.ref a]/\SqL K H a (List.map V.int ns)/\ns.length<=200/\(∀ n∈ns,BB 20000 n)/\∀ n H',aI H H'->BB 30000 n->Q (.int n) H'
noncomputable def Jh (K:W.Frag):TE:=(tCB Bd (aC (aB 0) aN))
noncomputable def Qp (K:W.Frag):TS:=(bK (tOp gP (tC (.int 1)) (tCB (Fc K) (aC (bO (bQ K (aB 0)) [] (Jh K)) aN))))
theorem Zz {K vs H Q E} (h:zE K vs H Q E):vs.length=1:=by obtain ⟨_,_,rfl,_⟩:=h;rfl
theorem rd_span {K vs H Q E} (h:zE K vs H Q E):Qp K { nx:=λ _ H'=>Q .non H',rt:=Q } (start Lf vs) H:=by
 obtain ⟨a,ns,rfl,hS,hn,hb,q⟩:=h
 rw [show start Lf [V.ref a]=[some (.ref a)] from rfl]
 (dsimp! [Qp,bO,bQ,Fc,aB,tC,tOp,rI0,gP,bK,aC,aN,tCB])
 refine ⟨⟨_,hS⟩,bX (K:=K) (a:=a) (xs:=List.map V.int ns) (WEq H λ i zs=>zs=List.map V.int ((ns.take i).map λ n=>(n.natAbs:Int))) ?_ ⟨rfl,rfl⟩ ?_ ?_ ?_⟩
 ·rw [length_map,sizeLine_eq];omega
 ·rintro i ys H3 _ ⟨rfl,_⟩
  exact hS
 ·rintro i x ys H3 hi _ ⟨rfl,rfl⟩
  obtain ⟨c,rfl,hc⟩:=cU hi
  (dsimp! [Jh,Rc,aB,aC,aN,tCB,Bd])
  refine ⟨rfl,?_⟩
  show _=List.map V.int ((ns.take (i+1)).map λ n=>(n.natAbs:Int))
  rw [dN hc,map_append,map_append];rfl
 ·rintro ys H3 _ ⟨rfl,rfl⟩ l hl
  rw [length_map,take_length]
  refine ⟨_,SqL.of aG,q _ _ (aI.upd hl) ?_⟩
  have h1:=Kv (l:=ns.map λ n=>(n.natAbs:Int)) (p:=20000) λ x hx=>by
   obtain ⟨n,hm,rfl⟩:=mem_map.mp hx
   have:=hb n hm
   unfold BB at this ⊢
   rwa [Int.natAbs_natCast]
  rw [length_map] at h1
  have one:BB (20000+ns.length) 1:=by show (1:Int).natAbs<2 ^ _;exact Nat.one_lt_two_pow (by omega)
  exact (one.add h1).mono (by omega)
noncomputable def Le:List PySem.Str:=["many", "place"]
noncomputable def Ek (K:W.Frag):Sp:=λ vs H Q _=>∃ n k:Nat,vs=[.int n,.int k]/\n<=200/\∀ l H',aI H H'->H l=none->H' l=some (.lst (List.map V.int (ofF n λ r=>if r=k then 1 else 0)))->Q (.ref l) H'
noncomputable def Jg (K:W.Frag):TE:=(tIf (bR (tOp rEq (aB 0) (aB 1))) (tC (.int 1)) (tC (.int 0)))
noncomputable def Qo (K:W.Frag):TS:=(bK (bO (hE (aC (aB 0) aN)) [1] (Jg K)))
theorem Zy {K vs H Q E} (h:Ek K vs H Q E):vs.length=2:=by obtain ⟨n,k,rfl,_⟩:=h;rfl
theorem rd_unit {K vs H Q E} (h:Ek K vs H Q E):Qo K { nx:=λ _ H'=>Q .non H',rt:=Q } (start Le vs) H:=by
 obtain ⟨n,k,rfl,hn,q⟩:=h
 rw [show start Le [V.int n,V.int k]=[some (.int n),some (.int k)] from rfl]
 (dsimp! [Qo,bO,hE,aB,bK,aC,aN])
 refine ⟨by omega,by omega,iN (lo:=0) (W:=WEq H λ i zs=>zs=List.map V.int (ofF i λ r=>if r=k then 1 else 0)) (by rw [sizeLine_eq];omega) ⟨rfl,rfl⟩ ?_ ?_⟩
 ·rintro i ys H3 _ _ ⟨rfl,rfl⟩
  (dsimp! [Jg,tIf,aQ,List.map_cons,List.map_nil,Option.join_some,aB,tC,tOp,rEq,fH,bR,decide_eq_true_eq])
  refine jY (λ h=>⟨rfl,?_⟩) (λ h=>⟨rfl,?_⟩)
  ·show _=List.map V.int (ofF (i+1) λ r=>if r=k then 1 else 0)
   have:i=k:=by omega
   rw [cI,map_append,if_pos this];rfl
  ·show _=List.map V.int (ofF (i+1) λ r=>if r=k then 1 else 0)
   have:¬ i=k:=by omega
   rw [cI,map_append,if_neg this];rfl
 ·rintro ys H3 _ ⟨rfl,rfl⟩ l hl
  rw [Int.toNat_natCast]
  exact q l _ (aI.upd hl) hl aG
noncomputable def fA:List PySem.Str:=["self", "lists"]
noncomputable def fE (K:W.Frag):Sp:=λ vs H Q _=>∃ t dx r rps L,vs=[.ref t,.ref r]/\H t=some (.ins (cY K "Corner") dx [])/\tS H r rps L/\L.Lim/\L.fl=false /\
 ∀ ins H',H ins=none->Sb t H H'->eZ K H' t ins L L.ins0->Q .non H'
noncomputable def rQ (K:W.Frag):TE:=(tOp gP (tCB (gO K) (aC (eQ K (aB 1) "begun") aN)) (aB 0))
noncomputable def rK (K:W.Frag):TS:=(yV K (aB 0) (bO (hE (aC (tOp kH (tCB (gO K) (aC (aB 1) aN)) (tC (.int 1))) aN)) [0] (rQ K)) "inside")
noncomputable def rP (K:W.Frag):TE:=(tOp rT (aT (Ek K) [] E0 (aC (tCB (gO K) (aC (aB 2) aN)) (aC (aB 0) aN))) (pM (aC (tOp (dU K) (aB 1) (tUn eX (tC (.int 1)))) aN)))
noncomputable def rL (K:W.Frag):TG:=(kP K 2 (cT (aK 0) (cT (aK 1) kQ)))
noncomputable def rJ (K:W.Frag):TS:=(aU (yV K (aB 0) (fY (Fe K (aB 1)) 2 [1] (rL K) (rP K)) "kept") (rK K))
noncomputable def rO (K:W.Frag):TE:=(aT (zE K) [] E0 (aC (tSl (rS K) (aB 0) gR (oP (tUn eX (tC (.int 1))))) aN))
noncomputable def rN (K:W.Frag):TE:=(aT (zE K) [] E0 (aC (pM (aC (tC (.int 1)) aN)) aN))
noncomputable def rH (K:W.Frag):TS:=(aU (yV K (aB 0) (tOp rT (bO (bQ K (eQ K (aB 0) "begun")) [] (rO K)) (bO (bQ K (tSl (rS K) (aB 1) gR (oP (tUn eX (tC (.int 1)))))) [] (rN K))) "spans") (rJ K))
noncomputable def rM (K:W.Frag):TE:=(aT (fU K) [] E0 (aC (aB 1) (aC (aB 0) aN)))
noncomputable def qI (K:W.Frag):TS:=(aU (yV K (aB 0) (bO (hE (aC (tOp kH (tCB (gO K) (aC (tOp (dU K) (aB 1) (tC (.int 0))) aN)) (tC (.int 1))) aN)) [1] (rM K)) "begun") (rH K))
theorem Eh {K vs H Q E} (h:fE K vs H Q E):vs.length=2:=by obtain ⟨_,_,_,_,_,rfl,_⟩:=h;rfl
theorem jJk (L:Lpd) {j:Nat} (hj:j<L.n):(ofF (L.m+1) L.rowL).map (λ r=>r.getD j 0)=L.colL j:=by
 unfold Lpd.colL
 have e:(ofF (L.m+1) L.rowL).map (λ r=>r.getD j 0)=ofF (L.m+1) λ i=>(L.rowL i).getD j 0:=by unfold ofF;rw [List.map_map];rfl
 rw [e]
 exact fN λ i _=>eU (L.rowL_get i hj)
theorem tS.sb {t:Addr} {H H':Hp} {a:Addr} {rps:List Addr} {L:Lpd} (h:tS H a rps L) (s:Sb t H H') (i:IsI H t):tS H' a rps L:=⟨s.lst i h.ha,s.rws i h.hr⟩
theorem Iz (xs:List V) (m:Nat) (h:xs.length=m+1):(xO xs none (some (-1))).length=m:=by rw [uQ,length_take];omega
theorem oc2 {m:Nat} (h:m<=100):m+1<=16777216:=by omega
theorem oc3 {m:Nat} (h:m<=100):m+1+1<=16777216:=by omega
theorem oc7 {m:Nat} (h:m<=100):-(2 ^ 62)<=(m:Int)/\(m:Int)<2 ^ 62:=by omega
theorem oc8 {a b n m:Nat} (h1:a=n) (h2:b=m) (h5:m<=100) (h6:n<=100):a+b<=16777216:=by omega
theorem oc9 {m:Nat} (h:m<=100):m<=16777216:=by omega
theorem oc10 {m:Nat}:((m+1:Nat):Int) - 1=(m:Int):=by omega
theorem oc11 {m:Nat} (h:m<=100):m<=200:=by omega
theorem Xf {m:Nat} (h:m<=100):m+1<=200:=by omega
theorem Hq {K vs H Q E} (C:tX K) (h:fE K vs H Q E):qI K { nx:=λ _ H'=>Q .non H',rt:=Q } (start fA vs) H:=by
 obtain ⟨t,dx,r,rps,L,rfl,ht,R,lim,fl,q⟩:=h
 have rl:=R.len
 have m1:=lim.m1
 have n1:=lim.n1
 have hI:IsI H t:=⟨_,_,_,ht⟩
 rw [show start fA [V.ref t,V.ref r]=[some (.ref t),some (.ref r)] from rfl]
 obtain ⟨p0,ep0,hp0⟩:=R.row (Nat.zero_le L.m)
 (dsimp? [qI,yV,bO,hE])
 refine ⟨_,SqL.of R.ha,V.ref p0,fI (j:=0) (by rw [getElem?_map,ep0];rfl),p0,rfl,_,.inl (SqL.of hp0),?_⟩
 rw [length_map,Lpd.rowL_length,oc10,Int.toNat_natCast]
 refine ⟨(oc7 n1).1,(oc7 n1).2,iN (lo:=0) (W:=λ i zs H3=>aI H H3/\∃ bps,zs=List.map V.ref bps/\bJ H3 bps (ofF i L.colL)) (by rw [sizeLine_eq];exact oc9 n1) ⟨aI.refl _,[],rfl,trivial⟩ ?_ ?_⟩
 ·rintro i ys H3 hi _ ⟨s3,cps,rfl,hc⟩
  (dsimp? [rM,aQ,List.map_cons,List.map_nil,Option.join_some])
  refine ⟨r,rps,_,0+(i:Int),i,rfl,SqL.of (s3 _ _ R.ha),(R.same s3).hr,by rw [aJ];exact Xf m1,λ row hrow=>?_,λ l H4 s4 hl hl4=>⟨s3.trans s4,cps++[l],by rw [map_append];rfl,?_⟩⟩
  ·obtain ⟨k,hk,rfl⟩:=gG hrow
   rw [Int.zero_add]
   exact fR (by rw [Lpd.rowL_length];omega)
  ·rw [cI]
   exact bJ.snoc (hc.same s4) (by rw [hl4,jJk L hi])
 ·rintro ys H3 _ ⟨s3,bps,rfl,hbp⟩ bl hbl
  have s4:=s3.trans (aI.upd (o:=HO.lst (List.map V.ref bps)) hbl)
  have hbp4:=hbp.same (aI.upd (o:=HO.lst (List.map V.ref bps)) hbl)
  have hbl4:(upd H3 bl (.lst (List.map V.ref bps))) bl=some (.lst (List.map V.ref bps)):=aG
  generalize upd H3 bl (.lst (List.map V.ref bps))=H4 at s4 hbp4 hbl4
  clear s3 hbp hbl
  have bpl:bps.length=L.n:=by rw [hbp4.length,aJ]
  have t4:H4 t=some (.ins (cY K "Corner") dx []):=s4 _ _ ht
  have I4:IsI H4 t:=⟨_,_,_,t4⟩
  refine ⟨_,_,_,t4,C.cl,C.nb,by show 0<1000;decide,?_⟩
  have b5:Sb t H4 (upd H4 t (.ins (cY K "Corner") dx (fJ "begun" (.ref bl) []))):=Sb.at
  have t5:(upd H4 t (.ins (cY K "Corner") dx (fJ "begun" (.ref bl) []))) t=some (.ins (cY K "Corner") dx (fJ "begun" (.ref bl) [])):=aG
  generalize upd H4 t (.ins (cY K "Corner") dx (fJ "begun" (.ref bl) []))=H5 at b5 t5
  have b05:Sb t H H5:=(Sb.of s4).trans b5
  have I5:IsI H5 t:=⟨_,_,_,t5⟩
  have hbp5:=b5.rws I4 hbp4
  have hbl5:=b5.lst I4 hbl4
  have R5:=R.sb b05 hI
  clear b5 s4 t4 I4 hbp4 hbl4 hp0
  (dsimp? [rH,yV,bO,bQ,rT,eQ])
  refine ⟨_,_,_,t5,C.cl,C.nb,_,rfl,bl,rfl,⟨_,SqL.of hbl5⟩,bX (K:=K) (a:=bl) (xs:=List.map V.ref bps) (λ i zs H3=>aI H5 H3/\∃ ss:List Int,zs=List.map V.int ss/\ss.length=i/\∀ x∈ss,BB 30000 x) ?_ ⟨aI.refl _,[],rfl,rfl,(λ _ h=>nomatch h)⟩ ?_ ?_ ?_⟩
  ·rw [length_map,bpl,sizeLine_eq];exact oc9 n1
  ·rintro i zs H3 _ ⟨s3,_⟩
   exact s3.seq (SqL.of hbl5)
  ·rintro i x zs H3 hi _ ⟨s3,ss,rfl,sl,sb⟩
   obtain ⟨z,rfl,hz⟩:=bV hi
   obtain ⟨row,er,hrow⟩:=hbp5.get hz
   obtain ⟨hin,rfl⟩:=dB er
   (dsimp? [rO,rS])
   refine ⟨_,s3.seq (SqL.of hrow),λ zc hzc=>?_⟩
   have ec:xO (List.map V.int (L.colL i)) none (some (-1))=List.map V.int ((L.colL i).take ((L.colL i).length - 1)):=by rw [uQ,length_map,map_take]
   rw [ec]
   refine ⟨zc,_,rfl,SqL.of aG,?_,λ x hx=>?_,λ n H6 s6 bn=>⟨(s3.trans (aI.upd hzc)).trans s6,ss++[n],by rw [map_append];rfl,by rw [length_append,sl];rfl,λ x hx=>?_⟩⟩
   ·unfold Lpd.colL;rw [length_take,aJ];exact Nat.le_trans (Nat.min_le_right _ _) (Xf m1)
   ·obtain ⟨k,hk,rfl⟩:=gG (mem_of_mem_take hx)
    exact lim.ba _ _ hin (Nat.le_of_lt_succ hk)
   ·rcases mem_append.mp hx with hx | hx
    ·exact sb x hx
    ·rw [mem_singleton.mp hx];exact bn
  ·rintro zs H3 _ ⟨s3,ss,rfl,sl,sb⟩ l1 hl1
   rw [length_map,bpl] at sl
   have s6:=s3.trans (aI.upd (o:=HO.lst (List.map V.int ss)) hl1)
   have hl6:(upd H3 l1 (.lst (List.map V.int ss))) l1=some (.lst (List.map V.int ss)):=aG
   generalize upd H3 l1 (.lst (List.map V.int ss))=H6 at s6 hl6
   refine ⟨_,SqL.of (s6 _ _ R5.ha),λ lc hlc=>?_⟩
   have lcl:=Iz (List.map V.ref rps) L.m (by rw [length_map];exact rl)
   generalize xO (List.map V.ref rps) none (some (-1))=cs at lcl
   have s6c:=s6.trans (aI.upd (o:=HO.lst cs) hlc)
   have lc6:(upd H6 lc (HO.lst cs)) lc=some (HO.lst cs):=aG
   have hl6c:=aI.upd (o:=HO.lst cs) hlc _ _ hl6
   generalize upd H6 lc (HO.lst cs)=H6c at s6c lc6 hl6c
   refine ⟨⟨_,SqL.of lc6⟩,bX (K:=K) (a:=lc) (xs:=cs) (λ i zs H3=>aI H6c H3/\∃ ss:List Int,zs=List.map V.int ss/\ss.length=i/\∀ x∈ss,BB 30000 x) ?_ ⟨aI.refl _,[],rfl,rfl,(λ _ h=>nomatch h)⟩ ?_ ?_ ?_⟩
   ·rw [lcl,sizeLine_eq];exact oc9 m1
   ·rintro i zs H7 _ ⟨s7,_⟩
    exact s7.seq (SqL.of lc6)
   ·rintro i x zs H7 hi _ ⟨s7,s2,rfl,sl2,sb2⟩
    (dsimp? [rN])
    refine ⟨sz1,λ l2 hl2=>⟨_,[1],rfl,SqL.of aG,by decide,λ n hn=>by rw [mem_singleton.mp hn];show (1:Int).natAbs<2 ^ 20000;exact Nat.one_lt_two_pow (by decide),λ n H8 s8 bn=>⟨(s7.trans (aI.upd hl2)).trans s8,s2++[n],by rw [map_append];rfl,by rw [length_append,sl2];rfl,λ x hx=>?_⟩⟩⟩
    rcases mem_append.mp hx with hx | hx
    ·exact sb2 x hx
    ·rw [mem_singleton.mp hx];exact bn
   ·rintro zs H7 _ ⟨s7,s2,rfl,sl2,sb2⟩ l2 hl2
    rw [lcl] at sl2
    refine ⟨_,aI.upd hl2 _ _ (s7 _ _ hl6c),_,aG,by rw [length_map,length_map,sizeLine_eq];exact oc8 sl sl2 m1 n1,λ sp hsp=>?_⟩
    have s8:=(s6c.trans (s7.trans (aI.upd (o:=HO.lst (List.map V.int s2)) hl2))).trans (aI.upd (o:=HO.lst (List.map V.int ss++List.map V.int s2)) hsp)
    have hsp8:(upd (upd H7 l2 (.lst (List.map V.int s2))) sp (.lst (List.map V.int ss++List.map V.int s2))) sp=some (.lst (List.map V.int (ss++s2))):=by rw [aG,map_append]
    generalize upd (upd H7 l2 (.lst (List.map V.int s2))) sp (.lst (List.map V.int ss++List.map V.int s2))=H8 at s8 hsp8
    clear s6 hl6 s7 hl2 hsp s3 hl1 s6c lc6 hl6c hlc
    have sb':∀ x∈ss++s2,BB 30000 x:=λ x hx=>by
     rcases mem_append.mp hx with hx | hx
     ·exact sb x hx
     ·exact sb2 x hx
    have sl':(ss++s2).length=L.n+L.m:=by rw [length_append,sl,sl2]
    generalize ss++s2=sss at sb' sl' hsp8
    clear sb sb2 sl sl2
    have t8:=s8 _ _ t5
    have I8:IsI H8 t:=⟨_,_,_,t8⟩
    refine ⟨_,_,_,t8,C.cl,C.ns,by show 1<1000;decide,?_⟩
    have b9:Sb t H8 (upd H8 t (.ins (cY K "Corner") dx (fJ "spans" (.ref sp) (fJ "begun" (.ref bl) [])))):=Sb.at
    have t9:(upd H8 t (.ins (cY K "Corner") dx (fJ "spans" (.ref sp) (fJ "begun" (.ref bl) [])))) t=some (.ins (cY K "Corner") dx (fJ "spans" (.ref sp) (fJ "begun" (.ref bl) []))):=aG
    generalize upd H8 t (.ins (cY K "Corner") dx (fJ "spans" (.ref sp) (fJ "begun" (.ref bl) [])))=H9 at b9 t9
    have b09:Sb t H H9:=b05.trans ((Sb.of s8).trans b9)
    have I9:IsI H9 t:=⟨_,_,_,t9⟩
    have hbp9:=b9.rws I8 (hbp5.same s8)
    have hbl9:=b9.lst I8 (s8 _ _ hbl5)
    have hsp9:=b9.lst I8 hsp8
    have R9:=R.sb b09 hI
    clear b9 s8 I8 t8 hbp5 hbl5 b05 I5 t5 hsp8 R5
    (dsimp? [rJ,yV,fY,Fe,rT])
    refine ⟨⟨_,SqL.of R9.ha⟩,Th (K:=K) (a:=r) (xs:=List.map V.ref rps) (λ i zs H3=>aI H9 H3/\∃ kps,zs=List.map V.ref kps/\bJ H3 kps (ofF i (L.keptL L.ins0))) ?_ ⟨aI.refl _,[],rfl,trivial⟩ ?_ ?_ ?_⟩
    ·rw [length_map,rl,sizeLine_eq];exact oc2 m1
    ·rintro i zs H3 _ ⟨s3,_⟩
     exact s3.seq (SqL.of R9.ha)
    ·rintro i x p zs H3 hi _ ⟨s3,kps,rfl,hkp⟩ hp os ho
     obtain ⟨z,rfl,hz⟩:=bV hi
     obtain ⟨im,hrow⟩:=(R9.same s3).inv hz
     obtain ⟨o1,o2,rfl⟩:∃ o1 o2,os=[o1,o2]:=by
      match os,ho with
      | [o1,o2],_=>exact ⟨o1,o2,rfl⟩
     have s4:=aI.upd (o:=HO.tup [.int i,.ref z]) hp
     (dsimp? [rL,rP,rT,aQ,List.map_cons,List.map_nil,Option.join_some])
     refine ⟨_,SqT.of aG,rfl,_,_,rfl,_,_,rfl,rfl,⟨[some (.int i),some (.ref z)],rfl,rfl⟩,_,.inl ((s3.trans s4).seq (SqL.of R9.ha)),?_⟩
     rw [length_map,rl]
     refine ⟨L.m+1,i,rfl,Xf m1,λ l1 H4 s5 _ hl1=>?_⟩
     have la:atI (List.map V.int (L.rowL i)) (-1)=some (.int (L.be i)):=uS (by rw [length_map,Lpd.rowL_length,getElem?_map,Nat.add_sub_cancel,L.rowL_last];rfl)
     refine ⟨z,rfl,_,SqL.of ((s4.trans s5) _ _ hrow),_,la,sz1,λ l2 hl2=>⟨l1,rfl,_,aI.upd hl2 _ _ hl1,_,aG,by rw [length_map,aJ,sizeLine_eq];exact oc3 m1,λ l3 hl3=>?_⟩⟩
     refine ⟨(((s3.trans s4).trans s5).trans (aI.upd hl2)).trans (aI.upd hl3),kps++[l3],by rw [map_append];rfl,?_⟩
     rw [cI i (L.keptL L.ins0)]
     refine bJ.snoc ((((hkp.same s4).same s5).same (aI.upd hl2)).same (aI.upd hl3)) ?_
     rw [aG]
     unfold Lpd.keptL
     rw [Lpd.T_start fl (Nat.lt_succ_of_le im),map_append]
     congr 3
     show _=_
     congr 1
     refine fN λ k hk=>?_
     rw [Lpd.T_start fl (Nat.lt_succ_of_le im)]
     unfold e1
     by_cases e:i=k
     ·rw [if_pos e.symm,if_pos e]
     ·rw [if_neg (Ne.symm e),if_neg e]
    ·rintro zs H3 _ ⟨s3,kps,rfl,hkp⟩ kl hkl
     rw [length_map,rl] at hkp
     have s11:=s3.trans (aI.upd (o:=HO.lst (List.map V.ref kps)) hkl)
     have hkp11:=hkp.same (aI.upd (o:=HO.lst (List.map V.ref kps)) hkl)
     have hkl11:(upd H3 kl (.lst (List.map V.ref kps))) kl=some (.lst (List.map V.ref kps)):=aG
     generalize upd H3 kl (.lst (List.map V.ref kps))=H11 at s11 hkp11 hkl11
     have t11:=s11 _ _ t9
     have I11:IsI H11 t:=⟨_,_,_,t11⟩
     refine ⟨_,_,_,t11,C.cl,C.nk,by show 2<1000;decide,?_⟩
     have b12:Sb t H11 (upd H11 t (.ins (cY K "Corner") dx (fJ "kept" (.ref kl) (fJ "spans" (.ref sp) (fJ "begun" (.ref bl) []))))):=Sb.at
     have t12:(upd H11 t (.ins (cY K "Corner") dx (fJ "kept" (.ref kl) (fJ "spans" (.ref sp) (fJ "begun" (.ref bl) []))))) t=some (.ins (cY K "Corner") dx (fJ "kept" (.ref kl) (fJ "spans" (.ref sp) (fJ "begun" (.ref bl) [])))):=aG
     generalize upd H11 t (.ins (cY K "Corner") dx (fJ "kept" (.ref kl) (fJ "spans" (.ref sp) (fJ "begun" (.ref bl) []))))=H12 at b12 t12
     have b012:Sb t H H12:=b09.trans ((Sb.of s11).trans b12)
     have I12:IsI H12 t:=⟨_,_,_,t12⟩
     have hbp12:=b12.rws I11 (hbp9.same s11)
     have hbl12:=b12.lst I11 (s11 _ _ hbl9)
     have hsp12:=b12.lst I11 (s11 _ _ hsp9)
     have hkp12:=b12.rws I11 hkp11
     have hkl12:=b12.lst I11 hkl11
     have R12:=R.sb b012 hI
     clear b12 s11 I11 t11 hbp9 hbl9 hsp9 hkp hkp11 hkl11 s3 b09 t9 I9 R9 hkl
     (dsimp? [rK,yV,bO,hE])
     refine ⟨_,.inl (SqL.of R12.ha),?_⟩
     rw [length_map,rl,oc10,Int.toNat_natCast]
     refine ⟨(oc7 m1).1,(oc7 m1).2,iN (lo:=0) (W:=WEq H12 λ i zs=>zs=List.map V.int (ofF i λ i=>((L.ins0 i:Nat):Int))) (by rw [sizeLine_eq];exact oc9 m1) ⟨rfl,rfl⟩ ?_ ?_⟩
     ·rintro i zs H13 hi _ ⟨rfl,rfl⟩
      (dsimp? [rQ,eQ,aQ,List.map_cons,List.map_nil,Option.join_some])
      refine ⟨_,_,_,t12,C.cl,C.nb,_,rfl,bl,rfl,_,.inl (SqL.of hbl12),rfl,?_⟩
      show _=List.map V.int (ofF (i+1) λ i=>((L.ins0 i:Nat):Int))
      rw [cI,map_append,length_map,bpl]
      congr 3
      unfold Lpd.ins0
      show (L.n:Int)+(0+(i:Int))=((L.n+i:Nat):Int)
      omega
     ·rintro zs H13 _ ⟨rfl,rfl⟩ ins hins
      have s14:=aI.upd (o:=HO.lst (List.map V.int (L.insL L.ins0))) hins
      have i14:(upd H13 ins (.lst (List.map V.int (L.insL L.ins0)))) ins=some (.lst (List.map V.int (L.insL L.ins0))):=aG
      have nit:ins≠t:=λ e=>by rw [e,t12] at hins;cases hins
      have hinsH:H ins=none:=b012.free hins nit
      show ∃ x x_3 x_4,upd H13 ins (.lst (List.map V.int (L.insL L.ins0))) t=some (HO.ins x x_3 x_4)/\_
      have t14:=s14 _ _ t12
      have nb:∀ {a:Addr} {o:HO},H13 a=some o->a≠ins:=λ e z=>by rw [z,hins] at e;cases e
      have nt:∀ {a:Addr} {xs:List V},H13 a=some (.lst xs)->a≠t:=λ e=>Jc e t12 (by intro z;cases z)
      refine ⟨_,_,_,t14,C.cl,C.ni,by show 3<1000;decide,q ins _ hinsH ((b012.trans (Sb.of s14)).trans Sb.at) ⟨dx,bl,sp,kl,bps,sss,kps,?_,?_,?_,?_,sl',sb',?_,?_,?_⟩⟩
      ·rw [aG];rfl
      ·rw [lP (.inl rfl),lP (.inr rfl)];exact uB hbl12 (nt hbl12) (nb hbl12)
      ·rw [lP (.inl rfl),lP (.inr rfl)];exact hbp12.mn (hbp12.notI I12) (hbp12.notN hins)
      ·rw [lP (.inl rfl),lP (.inr rfl)];exact uB hsp12 (nt hsp12) (nb hsp12)
      ·rw [lP (.inl rfl),lP (.inr rfl)];exact uB hkl12 (nt hkl12) (nb hkl12)
      ·rw [lP (.inl rfl),lP (.inr rfl)];exact hkp12.mn (hkp12.notI I12) (hkp12.notN hins)
      ·rw [cA nit];exact i14
noncomputable def mQ:List PySem.Str:=["column", "longs"]
noncomputable def lE (K:W.Frag):Sp:=λ vs H Q _=>∃ a b xs ls,vs=[.ref a,.ref b]/\SqL K H a (List.map V.int xs)/\SqL K H b (List.map V.int ls)/\xs.length=ls.length/\xs.length<=200/\∀ (w:Int) H',aI H H'->(∀ (i:Nat) x l,xs[i]?=some x->ls[i]?=some l->x≠0->(ib x:Int) - l<=w)->(w=0∨∃ (i:Nat) (x l:Int),xs[i]?=some x/\ls[i]?=some l/\w=(ib x:Int) - l)->Q (.int w) H'
noncomputable def rF (K:W.Frag):TE:=(tOp kH (Xb K "int" Nz (aB 0)) (aB 1))
noncomputable def rE (K:W.Frag):TG:=(kP K 2 (cT (aK 0) (cT (aK 1) kQ)))
noncomputable def qG (K:W.Frag):TS:=(bK (Xl K (aC (Lm (nU K (aC (aB 0) (aC (aB 1) aN))) 2 [] (rE K) (bR (tOp rNe (aB 0) (tC (.int 0)))) (rF K)) aN) (tC (.int 0))))
theorem Ef {K vs H Q E} (h:lE K vs H Q E):vs.length=2:=by obtain ⟨_,_,_,_,rfl,_⟩:=h;rfl
theorem Hn {K vs H Q E} (h:lE K vs H Q E):qG K { nx:=λ _ H'=>Q .non H',rt:=Q } (start mQ vs) H:=by
 obtain ⟨a,b,xs,ls,rfl,ha,hb,el,nl,q⟩:=h
 rw [show start mQ [V.ref a,V.ref b]=[some (.ref a),some (.ref b)] from rfl]
 (dsimp? [qG,Lm,nU,Xl])
 refine ⟨⟨_,ha⟩,⟨_,hb⟩,Ti (K:=K) (a:=a) (b:=b) (xs:=List.map V.int xs) (ys:=List.map V.int ls) (λ i zs H3=>aI H H3/\∃ ns:List Int,zs=List.map V.int ns/\(∀ n∈ns,∃ (k:Nat) (x l:Int),xs[k]?=some x/\ls[k]?=some l/\n=(ib x:Int) - l)/\∀ (k:Nat) x l,k<i->xs[k]?=some x->ls[k]?=some l->x≠0->(ib x:Int) - l∈ns) (by rw [length_map,sizeLine_eq];omega) (by rw [length_map,length_map];exact el) ⟨aI.refl _,[],rfl,(λ _ h=>nomatch h),λ k x l h=>absurd h (Nat.not_lt_zero _)⟩ ?_ ?_ ?_⟩
 ·rintro i zs H3 _ ⟨s3,_⟩
  exact ⟨s3.seq ha,s3.seq hb⟩
 ·rintro i x y p zs H3 hx hy _ ⟨s3,ns,rfl,n1,n2⟩ hp os ho
  obtain ⟨u,rfl,hu⟩:=cU hx
  obtain ⟨l,rfl,hl⟩:=cU hy
  obtain ⟨o1,o2,rfl⟩:∃ o1 o2,os=[o1,o2]:=by
   match os,ho with
   | [o1,o2],_=>exact ⟨o1,o2,rfl⟩
  have s4:=s3.trans (aI.upd (o:=HO.tup [.int u,.int l]) hp)
  (dsimp? [rE,rF,Xb,Nz,aQ,List.map_cons,List.map_nil,Option.join_some])
  refine ⟨_,SqT.of aG,rfl,_,_,rfl,_,_,rfl,rfl,⟨[some (.int u),some (.int l)],rfl,rfl⟩,rfl,?_⟩
  have n1':∀ n∈ns,∃ (k:Nat) (x:Int),xs[k]?=some x/\∃ l:Int,ls[k]?=some l/\n=(ib x:Int) - l:=λ n hn=>let ⟨k,x,l,e1,e2,e3⟩:=n1 n hn;⟨k,x,e1,l,e2,e3⟩
  by_cases u0:u=0
  ·rw [decide_eq_true (by rw [u0]:V.int u=V.int 0)]
   refine tV ⟨s4,ns,rfl,n1',λ k x l' hk e1 e2 h0=>?_⟩
   by_cases e:k=i
   ·subst e
    rw [hu] at e1
    exact absurd ((Option.some.inj e1).symm.trans u0) h0
   ·exact n2 k x l' (by omega) e1 e2 h0
  ·rw [decide_eq_false (λ z=>u0 (by injection z):¬ V.int u=V.int 0)]
   refine Qj ⟨rfl,u,rfl,l,rfl,s4,ns++[(ib u:Int) - l],by rw [map_append];rfl,λ n hn=>?_,λ k x l' hk e1 e2 hx=>?_⟩
   ·rcases mem_append.mp hn with h | h
    ·exact n1' n h
    ·exact ⟨i,u,hu,l,hl,mem_singleton.mp h⟩
   ·by_cases e:k=i
    ·subst e
     rw [hu] at e1
     rw [hl] at e2
     obtain rfl:=Option.some.inj e1
     obtain rfl:=Option.some.inj e2
     exact List.mem_append_right _ (mem_singleton.mpr rfl)
    ·exact List.mem_append_left _ (n2 k x l' (by omega) e1 e2 hx)
 ·rintro zs H3 ⟨s3,ns,rfl,n1,n2⟩ p hp
  rw [length_map] at n2
  have s4:=s3.trans (aI.upd (o:=HO.lst (List.map V.int ns)) hp)
  have lt:∀ {k:Nat} {x:Int},xs[k]?=some x->k<xs.length:=λ e=>(List.getElem?_eq_some_iff.mp e).1
  refine ⟨ns,SqL.of aG,λ z=>q 0 _ s4 (λ k x l e1 e2 hx=>?_) (.inl rfl),λ _ M hM hA=>q M _ s4 (λ k x l e1 e2 hx=>hA _ (n2 k x l (lt e1) e1 e2 hx)) ?_⟩
  ·have:=n2 k x l (lt e1) e1 e2 hx
   rw [z] at this
   exact nomatch this
  ·obtain ⟨k,x,l,e1,e2,e3⟩:=n1 M hM
   exact .inr ⟨k,x,l,e1,e2,e3⟩
noncomputable def tI:List PySem.Str:=["number", "bits"]
noncomputable def mL (K:W.Frag):Sp:=λ vs H Q _=>∃ n b,vs=[.int n,.int b]/\0<=n/\ib n<=20000/\-1000000<=b/\b<=1000000/\∀ r,Kr n b r->Q (.int r) H
noncomputable def sS (K:W.Frag):TS:=(aU (dG (bR (tOp iJ (aB 0) (tC (.int 0)))) lN cE) (bK (tIf (bR (tOp xN (aB 1) (tC (.int 0)))) (tOp Xd (aB 0) (aB 1)) (tOp Xc (aB 0) (tUn eX (aB 1))))))
theorem Hv {K vs H Q E} (h:mL K vs H Q E):vs.length=2:=by obtain ⟨_,_,rfl,_⟩:=h;rfl
theorem Ii {K vs H Q E} (h:mL K vs H Q E):sS K { nx:=λ _ H'=>Q .non H',rt:=Q } (start tI vs) H:=by
 obtain ⟨n,b,rfl,n0,hi,b1,b2,q⟩:=h
 rw [show start tI [V.int n,V.int b]=[some (.int n),some (.int b)] from rfl]
 (dsimp? [sS,tIf,Xd,Xc])
 rw [if_neg (by omega)]
 refine jY (λ h=>⟨⟨by omega,by show (ib n:Int)+b<=_;omega⟩,q _ (Xw (by omega) n0)⟩) (λ h=>⟨by omega,q _ ?_⟩)
 have:=Oj (n:=n) (b:=-b) (by omega) n0
 rwa [Int.neg_neg] at this
noncomputable def vH:List PySem.Str:=["number", "bits"]
noncomputable def nZ (K:W.Frag):Sp:=λ vs H Q _=>∃ n b,vs=[.int n,.int b]/\ib n<=20000/\-1000000<=b/\b<=1000000/\∀ r,Kr n b r->Q (.int r) H
noncomputable def uU (K:W.Frag):TS:=(aU (dG (bR (tOp iJ (aB 0) (tC (.int 0)))) (bK (tUn eX (aT (mL K) [] E0 (aC (tUn eX (aB 0)) (aC (aB 1) aN))))) cE) (bK (tIf (bR (tOp xN (aB 1) (tC (.int 0)))) (tOp Xd (aB 0) (aB 1)) (tOp Xc (aB 0) (tUn eX (aB 1))))))
theorem Iq {K vs H Q E} (h:nZ K vs H Q E):vs.length=2:=by obtain ⟨_,_,rfl,_⟩:=h;rfl
theorem Nc {K vs H Q E} (h:nZ K vs H Q E):uU K { nx:=λ _ H'=>Q .non H',rt:=Q } (start vH vs) H:=by
 obtain ⟨n,b,rfl,hi,b1,b2,q⟩:=h
 rw [show start vH [V.int n,V.int b]=[some (.int n),some (.int b)] from rfl]
 (dsimp? [uU,tIf,Xd,Xc])
 refine jY (λ h=>⟨-n,b,rfl,by omega,by rw [Yi];exact hi,b1,b2,λ r hr=>⟨r,rfl,q _ (str_neg hr h)⟩⟩) (λ h=>?_)
 refine jY (λ h=>⟨⟨by omega,by show (ib n:Int)+b<=_;omega⟩,q _ (Xw (by omega) (by omega))⟩) (λ h=>⟨by omega,q _ ?_⟩)
 have:=Oj (n:=n) (b:=-b) (by omega) (by omega)
 rwa [Int.neg_neg] at this
noncomputable def pW:List PySem.Str:=["row", "bits", "wides"]
noncomputable def oA (K:W.Frag):Sp:=λ vs H Q _=>∃ a w xs ws,∃ b:Int,vs=[.ref a,.int b,.ref w]/\SqL K H a (List.map V.int xs)/\SqL K H w (List.map V.int ws)/\xs.length=ws.length/\xs.length<=200/\(∀ x∈xs,ib x<=20000)/\(-500000<=b/\b<=500000)/\(∀ v∈ws,-500000<=v/\v<=500000) /\
 ∀ l rs H',aI H H'->H l=none->H' l=some (.lst (List.map V.int rs))->rs.length=xs.length->(∀ (i:Nat) x v r,xs[i]?=some x->ws[i]?=some v->rs[i]?=some r->Kr x (b - v) r)->Q (.ref l) H'
noncomputable def vM (K:W.Frag):TE:=(aT (nZ K) [] E0 (aC (aB 0) (aC (tOp kH (aB 2) (aB 1)) aN)))
noncomputable def vL (K:W.Frag):TG:=(kP K 2 (cT (aK 0) (cT (aK 1) kQ)))
noncomputable def uV (K:W.Frag):TS:=(bK (fY (nU K (aC (aB 0) (aC (aB 2) aN))) 2 [1] (vL K) (vM K)))
theorem Ir {K vs H Q E} (h:oA K vs H Q E):vs.length=3:=by obtain ⟨_,_,_,_,_,rfl,_⟩:=h;rfl
theorem Nd {K vs H Q E} (h:oA K vs H Q E):uV K { nx:=λ _ H'=>Q .non H',rt:=Q } (start pW vs) H:=by
 obtain ⟨a,w,xs,ws,b,rfl,ha,hw,el,nl,bx,⟨b1,b2⟩,bw,q⟩:=h
 rw [show start pW [V.ref a,V.int b,V.ref w]=[some (.ref a),some (.int b),some (.ref w)] from rfl]
 (dsimp? [uV,fY,nU])
 refine ⟨⟨_,ha⟩,⟨_,hw⟩,lV (K:=K) (a:=a) (b:=w) (xs:=List.map V.int xs) (ys:=List.map V.int ws) (λ i zs H3=>aI H H3/\∃ rs:List Int,zs=List.map V.int rs/\rs.length=i/\∀ (k:Nat) x v r,xs[k]?=some x->ws[k]?=some v->rs[k]?=some r->Kr x (b - v) r) (by rw [length_map,sizeLine_eq];omega) (by rw [length_map,length_map];exact el) ⟨aI.refl _,[],rfl,rfl,λ k x v r _ _ e=>by simp at e⟩ ?_ ?_ ?_⟩
 ·rintro i zs H3 _ ⟨s3,_⟩
  exact ⟨s3.seq ha,s3.seq hw⟩
 ·rintro i x y p zs H3 hx hy _ ⟨s3,rs,rfl,rl,ok⟩ hp os ho
  obtain ⟨u,rfl,hu⟩:=cU hx
  obtain ⟨v,rfl,hv⟩:=cU hy
  obtain ⟨o1,o2,rfl⟩:∃ o1 o2,os=[o1,o2]:=by
   match os,ho with
   | [o1,o2],_=>exact ⟨o1,o2,rfl⟩
  have s4:=s3.trans (aI.upd (o:=HO.tup [.int u,.int v]) hp)
  have bv:=bw v (mem_of_getElem? hv)
  (dsimp? [vL,vM,aQ,List.map_cons,List.map_nil,Option.join_some])
  refine ⟨_,SqT.of aG,rfl,_,_,rfl,_,_,rfl,rfl,⟨[some (.int u),some (.int v)],rfl,rfl⟩,?_⟩
  refine ⟨_,rfl,u,b - v,rfl,bx u (mem_of_getElem? hu),by omega,by omega,λ r hr=>⟨s4,rs++[r],by rw [map_append];rfl,by rw [length_append,rl];rfl,λ k x' v' r' e1 e2 e3=>?_⟩⟩
  rcases uM e3 with ⟨e3,_⟩ | ⟨ek,rfl⟩
  ·exact ok k x' v' r' e1 e2 e3
  ·rw [ek,rl,hu] at e1
   rw [ek,rl,hv] at e2
   obtain rfl:=Option.some.inj e1
   obtain rfl:=Option.some.inj e2
   exact hr
 ·rintro zs H3 _ ⟨s3,rs,rfl,rl,ok⟩ l hl
  rw [length_map] at rl
  exact q l rs _ (s3.trans (aI.upd hl)) (s3.free hl) aG rl ok
noncomputable def oO:List PySem.Str:=["lists", "bits", "longs", "wides"]
structure Rnd (L L2:Lpd) (b:Nat):Prop where
 m:L2.m=L.m
 n:L2.n=L.n
 fl:L2.fl=false
 ba:∀ j k,j<L.n->k<=L.m->BB b (L2.a j k)
 bb:∀ k,k<=L.m->BB b (L2.be k)
 nn:∀ k,k<=L.m->0<=L.be k->0<=L2.be k
noncomputable def sE (K:W.Frag):Sp:=λ vs H Q _=>∃ a rps L,∃ b:Nat,vs=[.ref a,.int b]/\tS H a rps L/\1<=L.n/\L.n<=100/\L.m<=100/\b<=9000/\(∀ i,i<=L.m->∀ x∈L.rowL i,BB 20000 x) /\
 ∀ l qs L2 H',aI H H'->tS H' l qs L2->Rnd L L2 b->Q (.ref l) H'
noncomputable def Ag (K:W.Frag):TE:=(aT (oA K) [] E0 (aC (aB 0) (aC (tOp kH (aB 3) (aB 1)) (aC (aB 2) aN))))
noncomputable def Ae (K:W.Frag):TG:=(kP K 2 (cT (aK 0) (cT (aK 1) kQ)))
noncomputable def Ac (K:W.Frag):TS:=(bK (fY (nU K (aC (aB 0) (aC (aB 2) aN))) 2 [3,1] (Ae K) (Ag K)))
noncomputable def sT (K:W.Frag):TE:=(aT (lE K) [] E0 (aC (aT (fU K) [] E0 (aC (aB 2) (aC (aB 0) aN))) (aC (aB 1) aN)))
noncomputable def Ab (K:W.Frag):TS:=(aU (bH (bO (hE (aC (tCB (gO K) (aC (tOp (dU K) (aB 0) (tC (.int 0))) aN)) aN)) [2,0] (sT K)) (aK 3)) (Ac K))
noncomputable def Af (K:W.Frag):TE:=(aT (oZ K) [] E0 (aC (tSl (rS K) (aB 0) gR (oP (tUn eX (tC (.int 1))))) aN))
noncomputable def Bo (K:W.Frag):TS:=(aU (bH (bO (bQ K (aB 0)) [] (Af K)) (aK 2)) (Ab K))
theorem Pw {K vs H Q E} (h:sE K vs H Q E):vs.length=2:=by obtain ⟨_,_,_,_,rfl,_⟩:=h;rfl
theorem Rq {K vs H Q E} (h:sE K vs H Q E):Bo K { nx:=λ _ H'=>Q .non H',rt:=Q } (start oO vs) H:=by
 obtain ⟨a,rps,L,b,rfl,R,n1,n2,m2,b2,bx,q⟩:=h
 have rl:=R.len
 rw [show start oO [V.ref a,V.int b]=[some (.ref a),some (.int b),none,none] from rfl]
 (dsimp? [Bo,bO,bQ])
 refine ⟨⟨_,SqL.of R.ha⟩,bX (K:=K) (a:=a) (xs:=List.map V.ref rps) (λ i zs H3=>aI H H3/\∃ ls:List Int,zs=List.map V.int ls/\ls.length=i/\∀ (k:Nat) l,ls[k]?=some l->(0<=l/\l<=20000)/\∀ j,j<L.n->(ib (L.a j k):Int)<=l) (by rw [length_map,sizeLine_eq];omega) ⟨aI.refl _,[],rfl,rfl,λ k l e=>by simp at e⟩ ?_ ?_ ?_⟩
 ·rintro i zs H3 _ ⟨s3,_⟩
  exact SqL.of (s3 _ _ R.ha)
 ·rintro i x zs H3 hi _ ⟨s3,ls,rfl,ll,lo⟩
  obtain ⟨p,rfl,hp⟩:=bV hi
  obtain ⟨im,hrow⟩:=(R.same s3).inv hp
  (dsimp? [Af,rS])
  refine ⟨_,SqL.of hrow,λ z hz=>?_⟩
  rw [cut_row]
  refine ⟨z,_,rfl,SqL.of aG,λ e=>?_,by rw [aJ];omega,λ M H4 s4 hM ⟨n,hn,eM⟩=>⟨(s3.trans (aI.upd hz)).trans s4,ls++[(M:Int)],by rw [map_append];rfl,by rw [length_append,ll];rfl,λ k l e=>?_⟩⟩
  ·have:=congrArg List.length e
   rw [aJ] at this
   simp at this;omega
  ·rcases uM e with ⟨e,_⟩ | ⟨ek,rfl⟩
   ·exact and_assoc.mp (lo k l e)
   ·rw [ek,ll]
    obtain ⟨j,hj,rfl⟩:=gG hn
    have:ib (L.a j i)<=20000:=Jd (bx i im _ (List.mem_append_left _ (mem_of_getElem? (cF (λ j=>L.a j i) hj))))
    refine and_assoc.mp ⟨by omega,λ j hj=>?_⟩
    have:=hM _ (mem_of_getElem? (cF (λ j=>L.a j i) hj))
    omega
 ·rintro zs H3 _ ⟨s3,ls,rfl,ll,lo⟩ lz hlz
  rw [length_map,rl] at ll
  have s4:=s3.trans (aI.upd (o:=HO.lst (List.map V.int ls)) hlz)
  have lz4:(upd H3 lz (HO.lst (List.map V.int ls))) lz=some (HO.lst (List.map V.int ls)):=aG
  generalize upd H3 lz (HO.lst (List.map V.int ls))=H4 at s4 lz4
  clear s3 hlz
  have R4:=R.same s4
  obtain ⟨p0,ep0,hp0⟩:=R4.row (Nat.zero_le L.m)
  (dsimp? [Ab,bO,hE])
  refine ⟨_,SqL.of R4.ha,V.ref p0,fI (j:=0) (by rw [getElem?_map,ep0];rfl),p0,rfl,_,.inl (SqL.of hp0),?_⟩
  rw [length_map,Lpd.rowL_length,Int.toNat_natCast]
  refine ⟨by omega,by omega,iN (lo:=0) (W:=λ j zs H5=>aI H4 H5/\∃ ws:List Int,zs=List.map V.int ws/\ws.length=j/\∀ (k:Nat) w,ws[k]?=some w->(-20000<=w/\w<=20000)/\∀ (i:Nat) x l,i<=L.m->(L.rowL i)[k]?=some x->ls[i]?=some l->x≠0->(ib x:Int) - l<=w) (by rw [sizeLine_eq];omega) ⟨aI.refl _,[],rfl,rfl,λ k l e=>by simp at e⟩ ?_ ?_⟩
  ·rintro j zs H5 hj _ ⟨s5,ws,rfl,wl,wo⟩
   (dsimp? [sT,aQ,List.map_cons,List.map_nil,Option.join_some];try simp_arith [sT,aQ,List.map_cons,List.map_nil,Option.join_some,Int.zero_add])
   refine ⟨a,rps,_,(j:Int),j,rfl,SqL.of (s5 _ _ R4.ha),(R4.same s5).hr,by rw [aJ];omega,λ r hr=>?_,λ c H6 s6 hc0 hc6=>?_⟩
   ·obtain ⟨i,hi,rfl⟩:=gG hr
    exact fR (by rw [Lpd.rowL_length];omega)
   ·have e:(ofF (L.m+1) L.rowL).map (λ r=>r.getD j 0)=ofF (L.m+1) λ i=>(L.rowL i).getD j 0:=by unfold ofF;rw [List.map_map];rfl
    rw [e] at hc6
    have s46:=s5.trans s6
    refine ⟨c,lz,_,ls,rfl,SqL.of hc6,SqL.of (s46 _ _ lz4),by rw [aJ,ll],by rw [aJ];omega,λ w H7 s7 w1 w2=>⟨s46.trans s7,ws++[w],by rw [map_append];rfl,by rw [length_append,wl];rfl,λ k w' e'=>?_⟩⟩
    rcases uM e' with ⟨e',_⟩ | ⟨ek,rfl⟩
    ·exact and_assoc.mp (wo k w' e')
    ·rw [ek,wl]
     refine and_assoc.mp ⟨?_,λ i x l hi ex el hx=>?_⟩
     ·rcases w2 with w0 | ⟨i,x,l,ex,el,ew⟩
      ·omega
      ·obtain ⟨him,rfl⟩:=dB ex
       have hb:ib ((L.rowL i).getD j 0)<=20000:=Jd (bx i (by omega) _ (kY (by rw [Lpd.rowL_length];omega)))
       have:=(lo i l el).1
       omega
     ·have:=w1 i x l (by rw [cF _ (show i<L.m+1 by omega),eU ex]) el hx
      exact this
  ·rintro zs H5 _ ⟨s5,ws,rfl,wl,wo⟩ wz hwz
   have s6:=s5.trans (aI.upd (o:=HO.lst (List.map V.int ws)) hwz)
   have wz6:(upd H5 wz (HO.lst (List.map V.int ws))) wz=some (HO.lst (List.map V.int ws)):=aG
   generalize upd H5 wz (HO.lst (List.map V.int ws))=H6 at s6 wz6
   have s06:=s4.trans s6
   have R6:=R.same s06
   have lz6:=s6 _ _ lz4
   clear s5 hwz s6 lz4 R4 hp0 ep0
   (dsimp? [Ac,fY,nU])
   refine ⟨⟨_,SqL.of R6.ha⟩,⟨_,SqL.of lz6⟩,lV (K:=K) (a:=a) (b:=lz) (xs:=List.map V.ref rps) (ys:=List.map V.int ls) (λ i zs H7=>aI H6 H7/\∃ qs rows,zs=List.map V.ref qs/\bJ H7 qs rows/\rows.length=i/\∀ (k:Nat) row,rows[k]?=some row->row.length=L.n+1/\∀ (j:Nat) x v r l,(L.rowL k)[j]?=some x->ws[j]?=some v->row[j]?=some r->ls[k]?=some l->Kr x ((b:Int) - l - v) r) (by rw [length_map,sizeLine_eq];omega) (by rw [length_map,length_map];omega) ⟨aI.refl _,[],[],rfl,trivial,rfl,λ k row e=>by simp at e⟩ ?_ ?_ ?_⟩
   ·rintro i zs H7 _ ⟨s7,_⟩
    exact ⟨SqL.of (s7 _ _ R6.ha),SqL.of (s7 _ _ lz6)⟩
   ·rintro i x y p zs H7 hx hy _ ⟨s7,qs,rows,rfl,hq,ql,ok⟩ hp os ho
    obtain ⟨z,rfl,hz⟩:=bV hx
    obtain ⟨l,rfl,hl⟩:=cU hy
    obtain ⟨o1,o2,rfl⟩:∃ o1 o2,os=[o1,o2]:=by
     match os,ho with
     | [o1,o2],_=>exact ⟨o1,o2,rfl⟩
    obtain ⟨im,hrow⟩:=(R6.same s7).inv hz
    have s8:=aI.upd (o:=HO.tup [.ref z,.int l]) hp
    have bl:=(lo i l hl).1
    (dsimp? [Ae,Ag,aQ,List.map_cons,List.map_nil,Option.join_some])
    refine ⟨_,SqT.of aG,rfl,_,_,rfl,_,_,rfl,rfl,⟨[some (.ref z),some (.int l)],rfl,rfl⟩,?_⟩
    generalize upd H7 p (HO.tup [.ref z,.int l])=H8 at s8
    refine ⟨_,rfl,z,wz,L.rowL i,ws,(b:Int) - l,rfl,SqL.of (s8 _ _ hrow),SqL.of ((s7.trans s8) _ _ wz6),by rw [Lpd.rowL_length,wl],by rw [Lpd.rowL_length];omega,λ x hx=>Jd (bx i im x hx),⟨by omega,by omega⟩,λ v hv=>?_,λ lr rs H9 s9 hl0 hl9 rsl st=>⟨(s7.trans s8).trans s9,qs++[lr],by rw [map_append];rfl,rows++[rs],bJ.snoc ((hq.same s8).same s9) hl9,by rw [length_append,ql];rfl,λ k row e=>?_⟩⟩
    ·obtain ⟨j,hj⟩:=getElem?_of_mem hv
     have:=(wo j v hj).1
     omega
    ·rcases uM e with ⟨e,_⟩ | ⟨ek,rfl⟩
     ·exact ok k row e
     ·rw [ek,ql]
      refine ⟨by rw [rsl,Lpd.rowL_length],λ j x v r l' e1 e2 e3 e4=>?_⟩
      rw [hl] at e4
      obtain rfl:=Option.some.inj e4
      exact st j x v r e1 e2 e3
   ·rintro zs H7 _ ⟨s7,qs,rows,rfl,hq,ql,ok⟩ l hl
    rw [length_map,rl] at ql
    have s8:=aI.upd (o:=HO.lst (List.map V.ref qs)) hl
    have rlen:∀ r∈rows,r.length=L.n+1:=λ r hr=>by
     obtain ⟨k,hk⟩:=getElem?_of_mem hr
     exact (ok k r hk).1
    have er:=jJn ql rlen
    refine q l qs (LpR rows L.m L.n) _ ((s06.trans s7).trans s8) ⟨aG,by show bJ _ qs (ofF (L.m+1) (LpR rows L.m L.n).rowL);rw [er];exact hq.same s8⟩ ?_
    have cell:∀ (k j:Nat),k<=L.m->j<L.n+1->∀ x,(L.rowL k)[j]?=some x->BB b ((rows.getD k []).getD j 0)/\(0<=x->0<=(rows.getD k []).getD j 0):=λ k j hk hj x hx=>by
     have ek:rows[k]?=some rows[k]:=getElem?_eq_getElem (by omega)
     obtain ⟨len,st⟩:=ok k _ ek
     have eg:rows.getD k []=rows[k]:=by rw [getD_eq_getElem?_getD,ek];rfl
     have el:ls[k]?=some ls[k]:=getElem?_eq_getElem (by omega)
     have ew:ws[j]?=some ws[j]:=getElem?_eq_getElem (by omega)
     have S:=st j x _ _ _ hx ew (zY (show j<(rows[k]).length by omega)) el
     rw [eg]
     refine ⟨?_,S.nn⟩
     by_cases x0:x=0
     ·rw [S.zz x0];show (0:Int).natAbs<_;exact Nat.two_pow_pos _
     ·exact S.bb b (by have:=(wo j _ ew).2 k x _ hk hx el x0;omega)
    exact ⟨rfl,rfl,rfl,λ j k hj hk=>(cell k j hk (by omega) _ (L.rowL_get k hj)).1,λ k hk=>(cell k L.n hk (by omega) _ (L.rowL_last k)).1,λ k hk h0=>(cell k L.n hk (by omega) _ (L.rowL_last k)).2 h0⟩
noncomputable def sR:List PySem.Str:=["one", "other"]
noncomputable def mU (K:W.Frag):Sp:=λ vs H Q _=>∃ a b,∃ n:Nat,∃ xs ys,∃ f g:Nat->Int,vs=[.ref a,.ref b]/\SqL K H a (List.map V.int xs)/\SqL K H b (List.map V.int ys)/\n<=200/\n<=xs.length/\n<=ys.length/\(xs.length<=n∨ys.length<=n)/\(∀ k,k<n->xs[k]?=some (f k)/\ys[k]?=some (g k)/\BB 20000 (f k)/\BB 20000 (g k))/\∀ H',aI H H'->Q (.int (sm n λ k=>f k*g k)) H'
noncomputable def xG (K:W.Frag):TE:=(tOp cH (aB 0) (aB 1))
noncomputable def xE (K:W.Frag):TG:=(kP K 2 (cT (aK 0) (cT (aK 1) kQ)))
noncomputable def yG (K:W.Frag):TS:=(bK (tCB (Fc K) (aC (fY (nU K (aC (aB 0) (aC (aB 1) aN))) 2 [] (xE K) (xG K)) aN)))
theorem Nq {K vs H Q E} (h:mU K vs H Q E):vs.length=2:=by obtain ⟨_,_,_,_,_,_,_,rfl,_⟩:=h;rfl
theorem Pn {K vs H Q E} (h:mU K vs H Q E):yG K { nx:=λ _ H'=>Q .non H',rt:=Q } (start sR vs) H:=by
 obtain ⟨a,b,n,xs,ys,f,g,rfl,hA,hB,hn,h1,h2,h3,h4,q⟩:=h
 rw [show start sR [V.ref a,V.ref b]=[some (.ref a),some (.ref b)] from rfl]
 (dsimp! [yG,fY,nU,Fc,aB,bK,aC,aN,tCB])
 refine ⟨⟨_,hA⟩,⟨_,hB⟩,Tg (K:=K) (a:=a) (b:=b) (xs:=List.map V.int xs) (ys:=List.map V.int ys) n (λ i zs H3=>aI H H3/\zs=List.map V.int (ofF i λ k=>f k*g k)) (by rw [sizeLine_eq];omega) (by rw [length_map];omega) (by rw [length_map];omega) (by rw [length_map,length_map];exact h3) ⟨aI.refl _,rfl⟩ ?_ ?_ ?_⟩
 ·rintro i zs H3 _ ⟨s3,_⟩
  exact ⟨s3.seq hA,s3.seq hB⟩
 ·rintro i x y p zs H3 hx hy hi _ ⟨s3,rfl⟩ hp os ho
  obtain ⟨e1,e2,b1,b2⟩:=h4 i hi
  obtain ⟨c,rfl,hc⟩:=cU hx
  obtain ⟨d,rfl,hd⟩:=cU hy
  rw [hc] at e1
  rw [hd] at e2
  obtain rfl:=Option.some.inj e1
  obtain rfl:=Option.some.inj e2
  obtain ⟨o1,o2,rfl⟩:∃ o1 o2,os=[o1,o2]:=by
   match os,ho with
   | [o1,o2],_=>exact ⟨o1,o2,rfl⟩
  (dsimp! [xE,xG,aK,aB,tOp,rI,cH,kP,cT,kQ,Lca,Lna])
  refine ⟨_,SqT.of aG,rfl,_,_,rfl,_,_,rfl,rfl,⟨[some (.int (f i)),some (.int (g i))],rfl,rfl⟩,_,rfl,_,rfl,.b b1 b2,s3.trans (aI.upd hp),?_⟩
  rw [cI,map_append];rfl
 ·rintro ys2 H3 _ ⟨s3,rfl⟩ l hl
  refine ⟨_,SqL.of aG,?_⟩
  rw [zK]
  exact q _ (s3.trans (aI.upd hl))
noncomputable def iG:List PySem.Str:=["self", "last", "lacks", "found", "place", "lack"]
noncomputable def oV:Option Nat->V
 | none=>.non
 | some f=>.int f
noncomputable def EntO (L:Lpd) (s:Nat->Nat) (i:Nat):Option Nat->Prop
 | none=>∀ c,c<i->0<=L.T s L.m (L.cv c)
 | some c=>c<i/\L.T s L.m (L.cv c)<0
noncomputable def eA (K:W.Frag):Sp:=λ vs H Q _=>∃ t ins L s,vs=[.ref t]/\eZ K H t ins L s/\L.Lim/\L.Okn s/\∀ o H',aI H H'->EntO L s (L.n+L.m) o->Q (oV o) H'
noncomputable def Qh (t p l:Addr) (L:Lpd) (s:Nat->Nat) (H0:Hp):Nat->St->Hp->Prop:=λ i σ H3=>∃ o o1 o2,σ=[some (.ref t),some (.ref p),some (.ref l),some (oV o),o1,o2]/\aI H0 H3/\EntO L s i o
noncomputable def nA (K:W.Frag):TS:=(dG (Fb (bR (tOp iJ (aB 5) (tC (.int 0)))) (tOr (bR (tOp Dz (aB 3) (tC .non))) (bR (tOp iJ (tOp cH (aB 5) (tOp (dU K) (eQ K (aB 0) "spans") (aB 3))) (tOp cH (tOp (dU K) (aB 2) (aB 3)) (tOp (dU K) (eQ K (aB 0) "spans") (aB 4))))))) (bH (aB 4) (aK 3)) cE)
noncomputable def iS (K:W.Frag):TG:=(kP K 2 (cT (aK 4) (cT (aK 5) kQ)))
noncomputable def mY (K:W.Frag):TS:=(aU (bH (tC .non) (aK 3)) (aU (jX (Fe K (aB 2)) (iS K) (nA K)) (bK (aB 3))))
noncomputable def mZ (K:W.Frag):TE:=(aT (mU K) [] E0 (aC (aB 0) (aC (aB 1) aN)))
noncomputable def mX (K:W.Frag):TS:=(aU (bH (tOp rT (bO (bQ K (eQ K (aB 0) "begun")) [1] (mZ K)) (tSl (rS K) (aB 1) gR (oP (tCB (gO K) (aC (eQ K (aB 0) "inside") aN))))) (aK 2)) (mY K))
noncomputable def lH (K:W.Frag):TS:=(aU (bH (tOp (dU K) (eQ K (aB 0) "kept") (tUn eX (tC (.int 1)))) (aK 1)) (mX K))
theorem wZ {K vs H Q E} (h:eA K vs H Q E):vs.length=1:=by obtain ⟨_,_,_,_,rfl,_⟩:=h;rfl
theorem Yn {ns:List Int} {n:Nat} (h:n<=ns.length):xO (List.map V.int ns) none (some (n:Int))=List.map V.int (ns.take n):=by
 unfold xO
 have e:HT.sIx (List.map V.int ns).length (List.map V.int ns).length (some (n:Int))=n:=by
  show (if (n:Int)<0 then ((n:Int)+((List.map V.int ns).length:Int)).toNat else min (n:Int).toNat (List.map V.int ns).length)=n
  rw [if_neg (by omega),length_map,Int.toNat_natCast]
  exact Nat.min_eq_left h
 rw [HT.sIx_none,e,List.drop_zero,Nat.sub_zero,map_take]
theorem ofF_add {α:Type} (n m:Nat) (f:Nat->α):ofF n f++ofF m (λ k=>f (n+k))=ofF (n+m) f:=by
 induction m with
 | zero=>exact List.append_nil _
 | succ m ih=>rw [cI,← List.append_assoc,ih,← Nat.add_assoc,cI]
theorem Hd (L:Lpd) (s:Nat->Nat) (i:Nat):(L.keptL s i).take L.m=ofF L.m λ k=>L.T s i (e1 k):=by
 apply List.ext_getElem?
 intro k
 by_cases hk:k<L.m
 ·rw [List.getElem?_take_of_lt hk,L.keptL_get s i (by omega),cF _ hk]
 ·rw [getElem?_eq_none (by rw [length_take];omega),getElem?_eq_none (by rw [aJ];omega)]
theorem yQ {K vs H Q E} (C:tX K) (h:eA K vs H Q E):lH K { nx:=λ _ H'=>Q .non H',rt:=Q } (start iG vs) H:=by
 obtain ⟨t,ins,L,s,rfl,⟨dx,b,sp,k,bs,ss,ks,P⟩,lim,ok,q⟩:=h
 have bl:=P.bl
 have kl:=P.kl
 have m1:=lim.m1
 have n1:=lim.n1
 obtain ⟨p,_,atp,hrow⟩:=P.last
 rw [show start iG [V.ref t]=[some (.ref t),none,none,none,none,none] from rfl]
 (dsimp? [lH,eQ])
 refine ⟨_,_,_,P.ob,C.cl,C.nk,_,gM _ _ _ _,_,rfl,_,SqL.of P.Kp,_,atp,?_⟩
 (dsimp? [mX,eQ,bO,bQ,rT])
 refine ⟨_,_,_,P.ob,C.cl,C.nb,_,kK _ _ _ _,_,rfl,⟨_,SqL.of P.B⟩,bX (K:=K) (a:=b) (xs:=List.map V.ref bs) (λ i zs H3=>aI H H3/\zs=List.map V.int (ofF i λ j=>L.T s L.m (L.cv j))) ?_ ⟨aI.refl _,rfl⟩ ?_ ?_ ?_⟩
 ·rw [length_map,sizeLine_eq];omega
 ·rintro i ys H3 _ ⟨s3,_⟩
  exact s3.seq (SqL.of P.B)
 ·rintro i x ys H3 hi _ ⟨s3,rfl⟩
  obtain ⟨pc,rfl,hp⟩:=bV hi
  have hin:i<L.n:=by have:=(List.getElem?_eq_some_iff.mp hp).1;omega
  obtain ⟨r,er,hcol⟩:=P.Bs.get hp
  obtain ⟨_,rfl⟩:=dB er
  (dsimp! [mZ,aQ,List.map_cons,List.map_nil,Option.join_some,aB,aT,aC,aN,List.append_nil])
  refine ⟨_,_,L.m+1,_,_,L.a i,λ k=>L.T s L.m (e1 k),rfl,s3.seq (SqL.of hcol),s3.seq (SqL.of hrow),by omega,?_,?_,.inl ?_,λ j hj=>⟨cF _ hj,L.keptL_get s L.m (by omega),lim.ba _ _ hin (by omega),lim.bk _ _ _ ok (Nat.le_refl _) (by omega)⟩,λ H4 s4=>⟨s3.trans s4,?_⟩⟩
  ·unfold Lpd.colL;rw [aJ];exact Nat.le_refl _
  ·rw [Lpd.keptL_length];omega
  ·unfold Lpd.colL;rw [aJ];exact Nat.le_refl _
  ·rw [L.T_prod s (Nat.le_refl _) hin,cI,map_append];rfl
 ·rintro ys H3 _ ⟨s3,rfl⟩ l1 hl1
  rw [length_map,bl]
  have s4:=s3.trans (aI.upd (o:=HO.lst (List.map V.int (ofF L.n λ j=>L.T s L.m (L.cv j)))) hl1)
  have hl4:(upd H3 l1 (.lst (List.map V.int (ofF L.n λ j=>L.T s L.m (L.cv j))))) l1=_:=aG
  generalize upd H3 l1 (.lst (List.map V.int (ofF L.n λ j=>L.T s L.m (L.cv j))))=H4 at s4 hl4
  refine ⟨_,_,_,s4 _ _ P.ob,C.cl,C.ni,_,mD _ _ _ _,_,rfl,_,.inl (s4.seq (SqL.of P.hi)),?_⟩
  have il:(L.insL s).length=L.m:=by unfold Lpd.insL;rw [aJ]
  rw [length_map,il]
  refine ⟨_,s4.seq (SqL.of hrow),λ l2 hl2=>?_⟩
  rw [Yn (by rw [Lpd.keptL_length];omega),Hd]
  have s5:=s4.trans (aI.upd (o:=HO.lst (List.map V.int (ofF L.m λ k=>L.T s L.m (e1 k)))) hl2)
  refine ⟨_,aI.upd hl2 _ _ hl4,_,aG,by rw [length_map,length_map,aJ,aJ,sizeLine_eq];omega,λ l3 hl3=>?_⟩
  have s6:=s5.trans (aI.upd (o:=HO.lst (List.map V.int (ofF L.n λ j=>L.T s L.m (L.cv j))++List.map V.int (ofF L.m λ k=>L.T s L.m (e1 k)))) hl3)
  have e:List.map V.int (ofF L.n λ j=>L.T s L.m (L.cv j))++List.map V.int (ofF L.m λ k=>L.T s L.m (e1 k))=List.map V.int (ofF (L.n+L.m) λ c=>L.T s L.m (L.cv c)):=by
   rw [← map_append,← ofF_add]
   congr 2
   exact fN λ k _=>by rw [L.cv_spare]
  rw [e] at s6 ⊢
  have h3:(upd (upd H4 l2 (.lst (List.map V.int (ofF L.m λ k=>L.T s L.m (e1 k))))) l3 (.lst (List.map V.int (ofF (L.n+L.m) λ c=>L.T s L.m (L.cv c))))) l3=_:=aG
  generalize upd (upd H4 l2 (.lst (List.map V.int (ofF L.m λ k=>L.T s L.m (e1 k))))) l3 (.lst (List.map V.int (ofF (L.n+L.m) λ c=>L.T s L.m (L.cv c))))=H6 at s6 h3
  (dsimp? [mY,jX,Fe])
  refine ⟨⟨_,SqL.of h3⟩,Pf (K:=K) (a:=l3) (xs:=List.map V.int (ofF (L.n+L.m) λ c=>L.T s L.m (L.cv c))) (g:=iS K) (D:={ nx:=bK (aB 3) { nx:=λ _ H'=>Q .non H',rt:=Q },rt:=Q }) (Qh t p l3 L s H6) ?_ ?_ ?_ ?_⟩
  ·exact ⟨none,none,none,rfl,aI.refl _,λ c hc=>absurd hc (Nat.not_lt_zero _)⟩
  ·rintro i σ H7 _ ⟨_,_,_,_,s7,_⟩
   exact s7.seq (SqL.of h3)
  ·rintro i x pp σ H7 hi ⟨o,o1,o2,rfl,s7,en⟩ hpp
   obtain ⟨v,rfl,hv⟩:=cU hi
   obtain ⟨hin,rfl⟩:=dB hv
   have s8:=s7.trans (aI.upd (o:=HO.tup [.int i,.int (L.T s L.m (L.cv i))]) hpp)
   have stay:0<=L.T s L.m (L.cv i)∨o≠none->EntO L s (i+1) o:=λ hz=>by
    cases o with
    | none =>
     intro c hc
     by_cases hci:c=i
     ·rw [hci];exact hz.resolve_right (λ z=>z rfl)
     ·exact en c (by omega)
    | some f=>exact ⟨by have:=en.1;omega,en.2⟩
   (dsimp! [iS,nA,Dz,eQ,bH,aK,aB,tC,tOp,rI0,rI,cH,iJ,dG,bR,cE,dU,Fb,tOr,kP,cT,kQ,decide_eq_true_eq])
   refine ⟨_,SqT.of aG,rfl,_,_,rfl,_,_,rfl,rfl,_,rfl,jY (λ hneg=>?_) (λ hn=>⟨o,_,_,rfl,s8,stay (.inl (by omega))⟩)⟩
   cases o with
   | none =>
    simp only [oV,if_true,exists_eq_left',V.int.injEq,Option.some.injEq,exists_eq_left,V.ref.injEq,V.bl.injEq,List.cons.injEq,and_true,true_and,exists_and_left,and_assoc,cQ,cR,cP,dQ,gQ,eN]
    exact ⟨some i,_,_,rfl,s8,by omega,hneg⟩
   | some f =>
    have hf:=en.1
    have ssl:=P.sl
    simp only [oV,reduceCtorEq,if_false,exists_eq_left',V.int.injEq,Option.some.injEq,exists_eq_left,V.ref.injEq,V.bl.injEq,List.cons.injEq,and_true,true_and,exists_and_left,and_assoc,cQ,cR,cP,dQ,gQ,eN]
    have b1:=lim.bc s L.m i ok (Nat.le_refl _)
    have b2:=lim.bc s L.m f ok (Nat.le_refl _)
    refine ⟨_,_,_,(s6.trans s8) _ _ P.ob,C.cl,C.ns,_,wQ _ _ _ _,_,rfl,_,(s6.trans s8).seq (SqL.of P.S),_,fR (i:=f) (by omega),_,rfl,.b b1 (P.sb _ (kY (by omega))),?_⟩
    refine ⟨_,s8.seq (SqL.of h3),_,fR (i:=f) (by rw [aJ];omega),_,_,_,(s6.trans s8) _ _ P.ob,C.cl,C.ns,_,wQ _ _ _ _,_,rfl,_,(s6.trans s8).seq (SqL.of P.S),_,fR (i:=i) (by omega),_,rfl,_,rfl,.b (m:=20000) (by rw [eU (cF (λ c=>L.T s L.m (L.cv c)) (show f<L.n+L.m by omega))];exact b2) (P.sb _ (kY (by omega))),?_⟩
    exact jY (λ _=>⟨some i,_,_,rfl,s8,by omega,hneg⟩) (λ _=>⟨some f,_,_,rfl,s8,stay (.inr (by simp))⟩)
  ·rintro σ H7 ⟨o,o1,o2,rfl,s7,en⟩
   (dsimp! [aB,bK])
   refine q o H7 (s6.trans s7) ?_
   rw [length_map,aJ] at en
   exact en
noncomputable def jJ:List PySem.Str:=["self", "column"]
noncomputable def dI (K:W.Frag):Sp:=λ vs H Q _=>∃ t ins L s,∃ c:Nat,vs=[.ref t,.int c]/\eZ K H t ins L s/\L.Lim/\L.Okn s/\c<L.n+L.m/\∀ l H',aI H H'->H l=none->H' l=some (.lst (List.map V.int (L.numL s c)))->Q (.ref l) H'
noncomputable def nS (K:W.Frag):TE:=(aT (mU K) [] E0 (aC (tOp (dU K) (eQ K (aB 2) "begun") (aB 1)) (aC (aB 0) aN)))
noncomputable def mJ (K:W.Frag):TS:=(aU (dG (bR (tOp iJ (aB 1) (tCB (gO K) (aC (eQ K (aB 0) "begun") aN)))) (bK (bO (bQ K (eQ K (aB 0) "kept")) [1,0] (nS K))) cE) (bK (aT (fU K) [] E0 (aC (eQ K (aB 0) "kept") (aC (tOp kH (aB 1) (tCB (gO K) (aC (eQ K (aB 0) "begun") aN))) aN)))))
theorem yU {K vs H Q E} (h:dI K vs H Q E):vs.length=2:=by obtain ⟨_,_,_,_,_,rfl,_⟩:=h;rfl
theorem Ba {K vs H Q E} (C:tX K) (h:dI K vs H Q E):mJ K { nx:=λ _ H'=>Q .non H',rt:=Q } (start jJ vs) H:=by
 obtain ⟨t,ins,L,s,c,rfl,⟨dx,b,sp,k,bs,ss,ks,P⟩,lim,ok,hc,q⟩:=h
 have bl:=P.bl
 have kl:=P.kl
 have m1:=lim.m1
 rw [show start jJ [V.ref t,V.int c]=[some (.ref t),some (.int c)] from rfl]
 (dsimp! [mJ,eQ,bO,bQ,aU,aB,tOp,rI0,kH,iJ,bK,dG,bR,cE,aT,aC,aN,tCB,gO,List.append_nil,decide_eq_true_eq])
 refine ⟨_,_,_,P.ob,C.cl,C.nb,_,kK _ _ _ _,_,rfl,_,.inl (SqL.of P.B),?_⟩
 rw [length_map,bl]
 refine jY (λ hlt=>?_) (λ hlt=>?_)
 ·have hcn:c<L.n:=by omega
  refine ⟨_,_,_,P.ob,C.cl,C.nk,_,gM _ _ _ _,_,rfl,⟨_,SqL.of P.Kp⟩,bX (K:=K) (a:=k) (xs:=List.map V.ref ks) (λ i zs H3=>aI H H3/\zs=List.map V.int (ofF i λ i=>L.T s i (L.cv c))) ?_ ⟨aI.refl _,rfl⟩ ?_ ?_ ?_⟩
  ·rw [length_map,sizeLine_eq];omega
  ·rintro i ys H3 _ ⟨s3,_⟩
   exact s3.seq (SqL.of P.Kp)
  ·rintro i x ys H3 hi _ ⟨s3,rfl⟩
   obtain ⟨p,rfl,hp⟩:=bV hi
   have him:i<=L.m:=by have:=(List.getElem?_eq_some_iff.mp hp).1;omega
   obtain ⟨r,er,hrow⟩:=P.Ks.get hp
   obtain ⟨_,rfl⟩:=dB er
   obtain ⟨pc,_,atc,hcol⟩:=P.col hcn
   (dsimp! [nS,eQ,aQ,List.map_cons,List.map_nil,Option.join_some,aB,tOp,aT,aC,aN,dU,List.append_nil])
   refine ⟨_,_,_,s3 _ _ P.ob,C.cl,C.nb,_,kK _ _ _ _,_,rfl,_,s3.seq (SqL.of P.B),_,atc,?_⟩
   refine ⟨_,_,L.m+1,_,_,L.a c,λ k=>L.T s i (e1 k),rfl,s3.seq (SqL.of hcol),s3.seq (SqL.of hrow),by omega,?_,?_,.inl ?_,λ j hj=>⟨cF _ hj,L.keptL_get s i (by omega),lim.ba _ _ hcn (by omega),lim.bk _ _ _ ok him (by omega)⟩,λ H4 s4=>⟨s3.trans s4,?_⟩⟩
   ·unfold Lpd.colL;rw [aJ];exact Nat.le_refl _
   ·rw [Lpd.keptL_length];omega
   ·unfold Lpd.colL;rw [aJ];exact Nat.le_refl _
   ·rw [L.T_prod s him hcn,cI,map_append];rfl
  ·rintro ys H3 _ ⟨s3,rfl⟩ l hl
   rw [length_map,kl]
   exact q l _ (s3.trans (aI.upd hl)) (s3.free hl) aG
 ·have hn:L.n<=c:=by omega
  refine ⟨_,_,_,P.ob,C.cl,C.nk,_,gM _ _ _ _,_,_,_,P.ob,C.cl,C.nb,_,kK _ _ _ _,_,rfl,_,.inl (SqL.of P.B),?_⟩
  rw [length_map,bl]
  refine ⟨_,_,_,_,c - L.n,rfl,SqL.of P.Kp,P.Ks,by rw [aJ];omega,λ r hr=>?_,λ l H' s1 hl hl'=>q l H' s1 hl ?_⟩
  ·obtain ⟨i,hi,rfl⟩:=gG hr
   have:=fR (l:=L.keptL s i) (i:=c - L.n) (by rw [Lpd.keptL_length];omega)
   rw [show ((c - L.n:Nat):Int)=(c:Int) - (L.n:Int) by omega] at this
   exact this
  ·rw [hl']
   congr 3
   unfold Lpd.numL
   unfold ofF
   rw [List.map_map]
   refine map_congr_left λ i hi=>?_
   have e:L.cv c=e1 (c - L.n):=by unfold Lpd.cv;rw [if_neg (by omega)]
   show (L.keptL s i).getD (c - L.n) 0=L.T s i (L.cv c)
   rw [e]
   exact eU (L.keptL_get s i (by omega))
noncomputable def yO:List PySem.Str:=["row", "other", "column", "listed", "place", "mine", "yours"]
noncomputable def pT (K:W.Frag):Sp:=λ vs H Q _=>∃ a b l x y js,∃ c w:Nat,vs=[.ref a,.ref b,.int c,.ref l]/\SqL K H a (List.map V.int x)/\SqL K H b (List.map V.int y)/\SqL K H l (List.map (λ j:Nat=>V.int j) js)/\Ro x w/\Ro y w/\c<w/\(∀ j∈js,j<w)/\Q (.bl (decide (lx x y c js=some true))) H
noncomputable def jJU (a b l:Addr) (x y:List Int) (c:Nat) (js:List Nat) (H0:Hp):Nat->St->Hp->Prop:=SEq H0 λ i σ=>∃ o1 o2 o3,σ=[some (.ref a),some (.ref b),some (.int c),some (.ref l),o1,o2,o3]/\lx x y c js=lx x y c (js.drop i)
noncomputable def qF (K:W.Frag):TS:=(bK (tC (.bl false)))
noncomputable def Ic (K:W.Frag):TS:=(aU (bH (tOp cH (tOp (dU K) (aB 0) (aB 4)) (tOp (dU K) (aB 1) (aB 2))) (aK 5)) (aU (bH (tOp cH (tOp (dU K) (aB 1) (aB 4)) (tOp (dU K) (aB 0) (aB 2))) (aK 6)) (dG (bR (tOp rNe (aB 5) (aB 6))) (bK (tOp iJ (aB 5) (aB 6))) cE)))
noncomputable def yH (K:W.Frag):TS:=(aU (jX (bQ K (aB 3)) (aK 4) (Ic K)) (qF K))
theorem Nt {K vs H Q E} (h:pT K vs H Q E):vs.length=4:=by obtain ⟨_,_,_,_,_,_,_,_,rfl,_⟩:=h;rfl
theorem jJb {js:List Nat} {i:Nat} {x:V} (h:(List.map (λ j:Nat=>V.int j) js)[i]?=some x):∃ c:Nat,x=.int c/\js[i]?=some c:=by
 rw [getElem?_map] at h
 cases e:js[i]? with
 | none=>rw [e] at h;cases h
 | some z=>rw [e] at h;exact ⟨z,(Option.some.inj h).symm,rfl⟩
theorem lx_drop {x y:List Int} {c:Nat} {js:List Nat} {i j:Nat} (h:js[i]?=some j):lx x y c (js.drop i)=if x.getD j 0*y.getD c 0=y.getD j 0*x.getD c 0 then lx x y c (js.drop (i+1)) else some (decide (x.getD j 0*y.getD c 0<y.getD j 0*x.getD c 0)):=by
 have hlt:i<js.length:=(List.getElem?_eq_some_iff.mp h).1
 rw [List.drop_eq_getElem_cons hlt]
 have:js[i]=j:=(List.getElem?_eq_some_iff.mp h).2
 rw [this]
 rfl
theorem Pp {K vs H Q E} (h:pT K vs H Q E):yH K { nx:=λ _ H'=>Q .non H',rt:=Q } (start yO vs) H:=by
 obtain ⟨a,b,l,x,y,js,c,w,rfl,hA,hB,hL,⟨xl,xb⟩,⟨yl,yb⟩,hc,hj,q⟩:=h
 rw [show start yO [V.ref a,V.ref b,V.int c,V.ref l]=[some (.ref a),some (.ref b),some (.int c),some (.ref l),none,none,none] from rfl]
 (dsimp! [yH,jX,bQ,aU,aK,aB])
 refine ⟨⟨_,hL⟩,mT (K:=K) (a:=l) (xs:=List.map (λ j:Nat=>V.int j) js) (g:=aK 4) (D:={ nx:=qF K { nx:=λ _ H'=>Q .non H',rt:=Q },rt:=Q }) (jJU a b l x y c js H) ?_ ?_ ?_ ?_⟩
 ·exact ⟨rfl,none,none,none,rfl,rfl⟩
 ·rintro i σ H3 _ ⟨rfl,_⟩
  exact hL
 ·rintro i v σ H3 hi ⟨rfl,o1,o2,o3,rfl,e⟩
  obtain ⟨j,rfl,ej⟩:=jJb hi
  have jw:=hj j (mem_of_getElem? ej)
  rw [lx_drop ej] at e
  (dsimp! [aU,bH,aK,aB,tOp,rI0,rI,cH,iJ,rNe,fH,bK,dG,bR,cE,dU])
  refine ⟨_,hA,_,fR (i:=j) (by omega),_,hB,_,fR (i:=c) (by omega),_,rfl,_,rfl,.b (xb _ (kY (by omega))) (yb _ (kY (by omega))),_,hB,_,fR (i:=j) (by omega),_,hA,_,fR (i:=c) (by omega),_,rfl,_,rfl,.b (yb _ (kY (by omega))) (xb _ (kY (by omega))),?_⟩
  by_cases hz:x.getD j 0*y.getD c 0=y.getD j 0*x.getD c 0
  ·rw [if_neg (by rw [decide_eq_true hz];decide)]
   rw [if_pos hz] at e
   exact ⟨rfl,_,_,_,rfl,e⟩
  ·rw [if_pos (by rw [decide_eq_false hz];rfl)]
   rw [if_neg hz] at e
   rw [e] at q
   have:decide (some (decide (x.getD j 0*y.getD c 0<y.getD j 0*x.getD c 0))=some true)=decide (x.getD j 0*y.getD c 0<y.getD j 0*x.getD c 0):=by
    by_cases h2:x.getD j 0*y.getD c 0<y.getD j 0*x.getD c 0
    ·rw [decide_eq_true h2];rfl
    ·rw [decide_eq_false h2];rfl
   rw [this] at q
   exact q
 ·rintro σ H3 ⟨rfl,o1,o2,o3,rfl,e⟩
  rw [length_map,List.drop_length] at e
  rw [e] at q
  dsimp only [qF,tC,bK,cQ,cR,cP]
  exact q
noncomputable def Ck:List PySem.Str:=["rows", "column", "listed", "found", "place", "row"]
noncomputable def sG (K:W.Frag):Sp:=λ vs H Q _=>∃ r l ps rs js,∃ c w:Nat,vs=[.ref r,.int c,.ref l]/\SqL K H r (List.map V.ref ps)/\bJ H ps rs/\(∀ row∈rs,Ro row w)/\SqL K H l (List.map (λ j:Nat=>V.int j) js)/\c<w/\(∀ j∈js,j<w)/\∀ o H',aI H H'->Lv rs c js rs.length o->Q (oV o) H'
noncomputable def Ta (r l:Addr) (c:Nat) (rs:List (List Int)) (js:List Nat) (H0:Hp):Nat->St->Hp->Prop:=λ i σ H3=>∃ o o1 o2,σ=[some (.ref r),some (.int c),some (.ref l),some (oV o),o1,o2]/\aI H0 H3/\Lv rs c js i o
noncomputable def Aj (K:W.Frag):TS:=(dG (Fb (bR (tOp xN (tOp (dU K) (aB 5) (aB 1)) (tC (.int 0)))) (tOr (bR (tOp Dz (aB 3) (tC .non))) (tB (aT (pT K) [] E0 (aC (aB 5) (aC (tOp (dU K) (aB 0) (aB 3)) (aC (aB 1) (aC (aB 2) aN)))))))) (bH (aB 4) (aK 3)) cE)
noncomputable def sU (K:W.Frag):TG:=(kP K 2 (cT (aK 4) (cT (aK 5) kQ)))
noncomputable def Br (K:W.Frag):TS:=(aU (bH (tC .non) (aK 3)) (aU (jX (Fe K (aB 0)) (sU K) (Aj K)) (bK (aB 3))))
theorem Pz {K vs H Q E} (h:sG K vs H Q E):vs.length=3:=by obtain ⟨_,_,_,_,_,_,_,rfl,_⟩:=h;rfl
theorem Rt {K vs H Q E} (h:sG K vs H Q E):Br K { nx:=λ _ H'=>Q .non H',rt:=Q } (start Ck vs) H:=by
 obtain ⟨r,l,ps,rs,js,c,w,rfl,hR,hrs,hrw,hL,hc,hj,q⟩:=h
 have hpl:=hrs.length
 rw [show start Ck [V.ref r,V.int c,V.ref l]=[some (.ref r),some (.int c),some (.ref l),none,none,none] from rfl]
 (dsimp! [Br,jX,Fe,aU,bH,aK,aB,tC,bK])
 refine ⟨⟨_,hR⟩,Pf (K:=K) (a:=r) (xs:=List.map V.ref ps) (g:=sU K) (D:={ nx:=bK (aB 3) { nx:=λ _ H'=>Q .non H',rt:=Q },rt:=Q }) (Ta r l c rs js H) ?_ ?_ ?_ ?_⟩
 ·exact ⟨none,none,none,rfl,aI.refl _,λ k row hk=>absurd hk (Nat.not_lt_zero _)⟩
 ·rintro i σ H3 _ ⟨_,_,_,_,s3,_⟩
  exact s3.seq hR
 ·rintro i x p σ H3 hi ⟨o,o1,o2,rfl,s3,lv⟩ hp
  obtain ⟨z,rfl,hz⟩:=bV hi
  obtain ⟨row,er,hrow⟩:=hrs.get hz
  obtain ⟨rl,rb⟩:=hrw row (mem_of_getElem? er)
  have s4:aI H (upd H3 p (.tup [.int i,.ref z])):=s3.trans (aI.upd hp)
  (dsimp! [sU,Aj,Dz,bH,aK,aB,tC,tOp,rI0,xN,dG,bR,tB,cE,aT,aC,aN,dU,Fb,tOr,kP,cT,kQ,List.append_nil,decide_eq_true_eq])
  refine ⟨_,SqT.of aG,rfl,_,_,rfl,_,_,rfl,rfl,_,rfl,_,SqL.of (s4 _ _ hrow),_,fR (by omega),_,rfl,jY (λ hpos=>?_) (λ hn=>⟨_,_,_,rfl,s4,lv.skip er hn⟩)⟩
  cases o with
  | none =>
   simp only [oV,if_true,Option.some.injEq,exists_eq_left',exists_eq_left,V.int.injEq,V.ref.injEq,V.bl.injEq,List.cons.injEq,and_true,true_and,exists_and_left,and_assoc,cQ,cR,cP,dQ,gQ,eN]
   exact ⟨some i,_,_,rfl,s4,lv.first er hpos⟩
  | some f =>
   obtain ⟨hfi,fr,hf,_⟩:=id lv
   obtain ⟨zf,hzf⟩:∃ zf,ps[f]?=some zf:=⟨_,getElem?_eq_getElem (by rw [hpl];exact (List.getElem?_eq_some_iff.mp hf).1)⟩
   obtain ⟨fr',ef,hfr⟩:=hrs.get hzf
   rw [hf] at ef
   obtain rfl:=Option.some.inj ef
   have atf:atI (List.map V.ref ps) (f:Int)=some (.ref zf):=fI (by rw [getElem?_map,hzf];rfl)
   simp only [oV,reduceCtorEq,if_false,exists_eq_left',V.int.injEq,Option.some.injEq,exists_eq_left,V.ref.injEq,V.bl.injEq,List.cons.injEq,and_true,true_and,exists_and_left,and_assoc,cQ,cR,cP,dQ,gQ,eN]
   refine ⟨_,s4.seq hR,_,atf,_,_,_,_,_,_,_,w,rfl,SqL.of (s4 _ _ hrow),SqL.of (s4 _ _ hfr),s4.seq hL,⟨rl,rb⟩,hrw fr (mem_of_getElem? hf),hc,hj,_,rfl,jY (λ ha=>⟨some i,_,_,rfl,s4,lv.take hf er hpos (by simpa using ha)⟩) (λ ha=>⟨some f,_,_,rfl,s4,lv.keep hf er hpos (by simpa using ha)⟩)⟩
 ·rintro σ H3 ⟨o,o1,o2,rfl,s3,lv⟩
  rw [length_map,hpl] at lv
  (dsimp! [aB,tC,tOp,rI0,rNe,fH,bK,bR])
  exact q o H3 s3 lv
noncomputable def gJ:List PySem.Str:=["self", "numbers", "rows", "spares"]
noncomputable def LvO (L:Lpd) (s:Nat->Nat) (c:Nat):Option Nat->Prop
 | none=>∀ i,i<=L.m->L.T s i (L.cv c)<=0
 | some r=>r<=L.m/\0<L.T s r (L.cv c)/\∀ i,i<=L.m->0<L.T s i (L.cv c)->¬ lp (λ p=>- (L.T s i (L.li p)*L.T s r (L.cv c) - L.T s r (L.li p)*L.T s i (L.cv c))) L.ls
noncomputable def eI (K:W.Frag):Sp:=λ vs H Q _=>∃ t ins L s nl,∃ c:Nat,vs=[.ref t,.ref nl]/\eZ K H t ins L s/\L.Lim/\L.Okn s/\H nl=some (.lst (List.map V.int (L.numL s c)))/\∀ o H',aI H H'->LvO L s c o->Q (oV o) H'
noncomputable def lvr (L:Lpd) (s:Nat->Nat) (c i:Nat):List Int:=L.keptL s i++[L.T s i (L.cv c)]
noncomputable def lL (K:W.Frag):TE:=(tOp rT (aB 0) (pM (aC (aB 1) aN)))
noncomputable def lK (K:W.Frag):TG:=(kP K 2 (cT (aK 0) (cT (aK 1) kQ)))
noncomputable def jM (K:W.Frag):TS:=(aU (bH (fY (nU K (aC (eQ K (aB 0) "kept") (aC (aB 1) aN))) 2 [] (lK K) (lL K)) (aK 2)) (aU (bH (tCB (gO K) (aC (eQ K (aB 0) "inside") aN)) (aK 3)) (bK (aT (sG K) [] E0 (aC (aB 2) (aC (tOp gP (aB 3) (tC (.int 2))) (aC (tOp rT (pM (aC (tOp gP (aB 3) (tC (.int 1))) aN)) (Xm (aB 3))) aN)))))))
theorem tT {K vs H Q E} (h:eI K vs H Q E):vs.length=2:=by obtain ⟨_,_,_,_,_,_,rfl,_⟩:=h;rfl
theorem lvr_k (L:Lpd) (s:Nat->Nat) (c i:Nat) {k:Nat} (h:k<=L.m):(lvr L s c i).getD k 0=L.T s i (e1 k):=eU (by unfold lvr;rw [getElem?_append_left (by rw [Lpd.keptL_length];omega),L.keptL_get s i h])
theorem lvr_b (L:Lpd) (s:Nat->Nat) (c i:Nat):(lvr L s c i).getD (L.m+1) 0=L.T s i L.be:=eU (by unfold lvr;rw [getElem?_append_left (by rw [Lpd.keptL_length];omega),L.keptL_last s i])
theorem Oa (L:Lpd) (s:Nat->Nat) (c i:Nat):(lvr L s c i).getD (L.m+2) 0=L.T s i (L.cv c):=eU (by unfold lvr;rw [getElem?_append_right (by rw [Lpd.keptL_length];omega),Lpd.keptL_length,Nat.sub_self];rfl)
theorem vS {K vs H Q E} (C:tX K) (h:eI K vs H Q E):jM K { nx:=λ _ H'=>Q .non H',rt:=Q } (start gJ vs) H:=by
 obtain ⟨t,ins,L,s,nl,c,rfl,⟨dx,b,sp,k,bs,ss,ks,P⟩,lim,ok,hnl,q⟩:=h
 have kl:=P.kl
 have m1:=lim.m1
 have nll:(L.numL s c).length=L.m+1:=by unfold Lpd.numL;rw [aJ]
 rw [show start gJ [V.ref t,V.ref nl]=[some (.ref t),some (.ref nl),none,none] from rfl]
 (dsimp! [jM,eQ,fY,nU,rT,Xm,aU,bH,aK,aB,tC,tOp,rI0,gP,bK,aT,aC,aN,pM,tCB,gO,List.append_nil])
 refine ⟨_,_,_,P.ob,C.cl,C.nk,_,gM _ _ _ _,_,rfl,⟨_,SqL.of P.Kp⟩,⟨_,SqL.of hnl⟩,lV (K:=K) (a:=k) (b:=nl) (xs:=List.map V.ref ks) (ys:=List.map V.int (L.numL s c)) (λ i zs H3=>aI H H3/\∃ qs,zs=List.map V.ref qs/\bJ H3 qs (ofF i (lvr L s c))) ?_ ?_ ⟨aI.refl _,[],rfl,trivial⟩ ?_ ?_ ?_⟩
 ·rw [length_map,sizeLine_eq];omega
 ·rw [length_map,length_map];omega
 ·rintro i zs H3 _ ⟨s3,_⟩
  exact ⟨s3.seq (SqL.of P.Kp),s3.seq (SqL.of hnl)⟩
 ·rintro i x y p zs H3 hx hy _ ⟨s3,qs,rfl,hqs⟩ hp os ho
  obtain ⟨z,rfl,hz⟩:=bV hx
  obtain ⟨v,rfl,hv⟩:=cU hy
  obtain ⟨r,er,hrow⟩:=P.Ks.get hz
  obtain ⟨him,rfl⟩:=dB er
  obtain ⟨_,rfl⟩:=dB hv
  obtain ⟨o1,o2,rfl⟩:∃ o1 o2,os=[o1,o2]:=by
   match os,ho with
   | [o1,o2],_=>exact ⟨o1,o2,rfl⟩
  have s4:=aI.upd (o:=HO.tup [.ref z,.int (L.T s i (L.cv c))]) hp
  (dsimp! [lK,lL,rT,aK,aB,tOp,aC,aN,pM,kP,cT,kQ,Lca,Lna])
  refine ⟨_,SqT.of aG,rfl,_,_,rfl,_,_,rfl,rfl,⟨[some (.ref z),some (.int (L.T s i (L.cv c)))],rfl,rfl⟩,sz1,λ l1 hl1=>?_⟩
  have s5:=aI.upd (o:=HO.lst [.int (L.T s i (L.cv c))]) hl1
  refine ⟨_,rfl,_,(s4.trans s5) _ _ (s3 _ _ hrow),_,aG,by rw [length_map,Lpd.keptL_length,sizeLine_eq];show L.m+2+1<=_;omega,λ l2 hl2=>?_⟩
  have s6:=aI.upd (o:=HO.lst (List.map V.int (L.keptL s i)++[V.int (L.T s i (L.cv c))])) hl2
  refine ⟨((s3.trans s4).trans s5).trans s6,qs++[l2],by rw [map_append];rfl,?_⟩
  rw [cI]
  refine bJ.snoc (((hqs.same s4).same s5).same s6) ?_
  rw [aG]
  unfold lvr
  rw [map_append];rfl
 ·rintro zs H3 _ ⟨s3,qs,rfl,hqs⟩ l hl
  rw [length_map,kl] at hqs
  have s4:=s3.trans (aI.upd (o:=HO.lst (List.map V.ref qs)) hl)
  have hq4:=hqs.same (aI.upd (o:=HO.lst (List.map V.ref qs)) hl)
  have hl4:(upd H3 l (.lst (List.map V.ref qs))) l=some (.lst (List.map V.ref qs)):=aG
  generalize upd H3 l (.lst (List.map V.ref qs))=H4 at s4 hq4 hl4
  have il:(L.insL s).length=L.m:=by unfold Lpd.insL;rw [aJ]
  refine ⟨_,_,_,s4 _ _ P.ob,C.cl,C.ni,_,mD _ _ _ _,_,rfl,_,.inl (s4.seq (SqL.of P.hi)),?_⟩
  rw [length_map,il]
  refine ⟨sz1,λ l1 hl1=>⟨L.m,rfl,by omega,λ l2 hl2=>?_⟩⟩
  have s5:=(aI.upd (o:=HO.lst [.int ((L.m:Int)+1)]) hl1).trans (aI.upd (o:=HO.lst (List.map V.int (wW L.m))) hl2)
  refine ⟨_,aI.upd hl2 _ _ aG,_,aG,by rw [length_map,pV,sizeLine_eq];show 1+L.m<=_;omega,λ l3 hl3=>?_⟩
  have s6:=s5.trans (aI.upd (o:=HO.lst ([V.int ((L.m:Int)+1)]++List.map V.int (wW L.m))) hl3)
  have e:[V.int ((L.m:Int)+1)]++List.map V.int (wW L.m)=List.map (λ j:Nat=>V.int j) ((L.m+1)::List.range L.m):=by
   unfold wW
   rw [List.map_map,List.map_cons]
   rfl
  refine ⟨_,_,_,_,(L.m+1)::List.range L.m,L.m+2,L.m+3,rfl,s6.seq (SqL.of hl4),hq4.same s6,λ row hr=>?_,?_,by omega,λ j hj=>?_,λ o H7 s7 lv=>?_⟩
  ·obtain ⟨i,hi,rfl⟩:=gG hr
   refine ⟨by unfold lvr;rw [length_append,Lpd.keptL_length];rfl,λ x hx=>?_⟩
   unfold lvr at hx
   rcases mem_append.mp hx with hx | hx
   ·exact lim.kept ok (by omega) x hx
   ·rw [mem_singleton.mp hx];exact lim.bc s i c ok (by omega)
  ·have:=SqL.of (K:=K) (aG (H:=upd (upd H4 l1 (.lst [.int ((L.m:Int)+1)])) l2 (.lst (List.map V.int (wW L.m)))) (a:=l3) (o:=.lst ([V.int ((L.m:Int)+1)]++List.map V.int (wW L.m))))
   rw [e] at this ⊢
   exact this
  ·rcases List.mem_cons.mp hj with rfl | hj
   ·omega
   ·have:=List.mem_range.mp hj;omega
  ·refine q o H7 ((s4.trans s6).trans s7) ?_
   rw [aJ] at lv
   cases o with
   | none =>
    intro i hi
    have:=lv i _ (by omega) (cF (lvr L s c) (show i<L.m+1 by omega))
    rw [Oa] at this
    omega
   | some r =>
    obtain ⟨hr,fr,hfr,hp,hm⟩:=lv
    obtain ⟨_,rfl⟩:=dB hfr
    rw [Oa] at hp
    refine ⟨by omega,hp,λ i hi hpi=>?_⟩
    have:=(hm i _ (by omega) (cF (lvr L s c) (show i<L.m+1 by omega)) (by rw [Oa];exact hpi)).1
    exact Lpd.lx_lp (λ k hk=>lvr_k L s c r hk) (lvr_b L s c r) (Oa L s c r) (λ k hk=>lvr_k L s c i hk) (lvr_b L s c i) (Oa L s c i) this
noncomputable def nN:List PySem.Str:=["self"]
noncomputable def dX (K:W.Frag):Sp:=λ vs H Q _=>∃ t ins L s,vs=[.ref t]/\eZ K H t ins L s/\Q (.int (L.D s)) H
noncomputable def nM (K:W.Frag):TS:=(bK (tOp (dU K) (tOp (dU K) (eQ K (aB 0) "kept") (tUn eX (tC (.int 1)))) (tUn eX (tC (.int 2)))))
theorem Bc {K vs H Q E} (h:dX K vs H Q E):vs.length=1:=by obtain ⟨_,_,_,_,rfl,_⟩:=h;rfl
theorem atI_m2 {l:List Int} {x:Int} (h2:2<=l.length) (h:l[l.length - 2]?=some x):atI (List.map V.int l) (-2)=some (.int x):=by
 unfold atI ixN
 rw [length_map,if_neg (by omega),if_pos (by omega)]
 show (List.map V.int l)[(-2+(l.length:Int)).toNat]?=_
 rw [show (-2+(l.length:Int)).toNat=l.length - 2 by omega,getElem?_map,h];rfl
theorem Cs {K vs H Q E} (C:tX K) (h:dX K vs H Q E):nM K { nx:=λ _ H'=>Q .non H',rt:=Q } (start nN vs) H:=by
 obtain ⟨t,ins,L,s,rfl,⟨dx,b,sp,k,bs,ss,ks,P⟩,q⟩:=h
 rw [show start nN [V.ref t]=[some (.ref t)] from rfl]
 (dsimp! [nM,eQ,aB,tC,tOp,tUn,rU,eX,bK,dU])
 obtain ⟨p,hp,at1,hrow⟩:=P.last
 refine ⟨_,_,_,P.ob,C.cl,C.nk,_,gM _ _ _ _,_,rfl,_,SqL.of P.Kp,_,at1,_,rfl,_,SqL.of hrow,_,atI_m2 (by rw [Lpd.keptL_length];omega) (by rw [Lpd.keptL_length];exact L.keptL_get s L.m (Nat.le_refl _)),?_⟩
 rw [show L.m+2 - 2=L.m by omega,L.last_own];exact q
noncomputable def jI:List PySem.Str:=["self", "column", "numbers", "at", "bottom", "gone", "moved", "row", "number"]
noncomputable def fW (K:W.Frag):Sp:=λ vs H Q _=>∃ t ins L s nl,∃ c r:Nat,vs=[.ref t,.int c,.ref nl,.int r]/\eZ K H t ins L s/\L.Lim/\L.Okn s/\H nl=some (.lst (List.map V.int (L.numL s c)))/\r<L.m /\
 ∀ H',aI (mn t ins H) (mn t ins H')->eZ K H' t ins L (Lpd.sput s r c)->(∀ f,H f≠none->yY K H t ins L s f->yY K H' t ins L (Lpd.sput s r c) f)->Q .non H'
noncomputable def mvr (L:Lpd) (s:Nat->Nat) (c r i:Nat):List Int:=(ofF (L.m+2) λ k=>((L.keptL s i).getD k 0*L.T s r (L.cv c) - (L.keptL s r).getD k 0*L.T s i (L.cv c)).fdiv (L.D s))
noncomputable def Uk (t nl mv g:Addr) (c r:Nat) (L:Lpd) (s:Nat->Nat) (H0:Hp):Nat->St->Hp->Prop:=λ i σ H3=>∃ o1 o2 qs,σ=[some (.ref t),some (.int c),some (.ref nl),some (.int r),some (.int (L.D s)),some (.ref g),some (.ref mv),o1,o2]/\aI H0 H3/\H3 mv=some (.lst (List.map V.ref qs))/\bJ H3 qs (ofF i (mvr L s c r))/\(∀ x∈qs,H0 x=none)/\mv∉qs
noncomputable def jK (K:W.Frag):TS:=(aU (bH (aB 5) (Hy (aB 6) (aB 3) xC)) (aU (yV K (aB 0) (aB 6) "kept") (bH (aB 1) (Hy (eQ K (aB 0) "inside") (aB 3) xC))))
noncomputable def nQ (K:W.Frag):TE:=(tOp gL (tOp kH (tOp cH (aB 0) (tOp (dU K) (aB 4) (aB 5))) (tOp cH (aB 1) (aB 3))) (aB 2))
noncomputable def nP (K:W.Frag):TG:=(kP K 2 (cT (aK 0) (cT (aK 1) kQ)))
noncomputable def nR (K:W.Frag):TS:=(tK (tBM K "list" zG (aB 6) (aC (fY (nU K (aC (aB 7) (aC (aB 5) aN))) 2 [4,8,2,3] (nP K) (nQ K)) aN)))
noncomputable def jL (K:W.Frag):TG:=(kP K 2 (cT (aK 7) (cT (aK 8) kQ)))
noncomputable def nO (K:W.Frag):TS:=(aU (bH (pM aN) (aK 6)) (aU (jX (nU K (aC (eQ K (aB 0) "kept") (aC (aB 2) aN))) (jL K) (nR K)) (jK K)))
noncomputable def mI (K:W.Frag):TS:=(aU (bH (dA (cY K "Corner") "bottom" (dX K) [] E0 (aB 0) aN) (aK 4)) (aU (bH (tOp (dU K) (eQ K (aB 0) "kept") (aB 3)) (aK 5)) (nO K)))
theorem yT {K vs H Q E} (h:fW K vs H Q E):vs.length=4:=by obtain ⟨_,_,_,_,_,_,_,rfl,_⟩:=h;rfl
theorem mvr_eq {L:Lpd} {s:Nat->Nat} (ok:L.Okn s) {c r i:Nat} (hr:r<L.m) (hi:i<=L.m) (hne:i≠r):mvr L s c r i=L.keptL (Lpd.sput s r c) i:=by
 have hD:=ok.ne
 have key:∀ y,(L.T s i y*L.T s r (L.cv c) - L.T s r y*L.T s i (L.cv c)).fdiv (L.D s)=L.T (Lpd.sput s r c) i y:=λ y=>by
  rw [← ok.exch (c:=c) hr (by omega) hne y]
  exact Int.mul_fdiv_cancel_left _ (by omega)
 apply List.ext_getElem?
 intro k
 unfold mvr
 by_cases hk:k<=L.m
 ·rw [cF _ (by omega),L.keptL_get _ _ hk,eU (L.keptL_get s i hk),eU (L.keptL_get s r hk),key]
 ·by_cases hk1:k=L.m+1
  ·subst hk1
   rw [cF _ (by omega),L.keptL_last,eU (L.keptL_last s i),eU (L.keptL_last s r),key]
  ·rw [getElem?_eq_none (by rw [aJ];omega),getElem?_eq_none (by rw [Lpd.keptL_length];omega)]
theorem mvr_all {L:Lpd} {s:Nat->Nat} (ok:L.Okn s) {c r:Nat} (hr:r<L.m):(ofF (L.m+1) (mvr L s c r)).set r (L.keptL s r)=ofF (L.m+1) (L.keptL (Lpd.sput s r c)):=by
 apply List.ext_getElem?
 intro k
 rw [getElem?_set]
 by_cases hk:k<L.m+1
 ·rw [cF (L.keptL (Lpd.sput s r c)) hk]
  by_cases e:r=k
  ·subst e
   rw [if_pos rfl,if_pos (by rw [aJ];omega)]
   congr 1
   unfold Lpd.keptL
   rw [Lpd.Ok.same hr,fN λ k _=>(Lpd.Ok.same (L:=L) (s:=s) (c:=c) hr (e1 k)).symm]
  ·rw [if_neg e,cF _ hk,mvr_eq ok hr (by omega) (Ne.symm e)]
 ·rw [getElem?_eq_none (l:=ofF (L.m+1) (L.keptL (Lpd.sput s r c))) (by rw [aJ];omega)]
  by_cases e:r=k
  ·omega
  ·rw [if_neg e,getElem?_eq_none (by rw [aJ];omega)]
theorem Az {K vs H Q E} (C:tX K) (h:fW K vs H Q E):mI K { nx:=λ _ H'=>Q .non H',rt:=Q } (start jI vs) H:=by
 obtain ⟨t,ins,L,s,nl,c,r,rfl,ca,lim,ok,hnl,hr,q⟩:=h
 obtain ⟨dx,b,sp,k,bs,ss,ks,P⟩:=id ca
 have kl:=P.kl
 have m1:=lim.m1
 have il:(L.insL s).length=L.m:=by unfold Lpd.insL;rw [aJ]
 have nll:(L.numL s c).length=L.m+1:=by unfold Lpd.numL;rw [aJ]
 obtain ⟨g,hg,atg,hgr⟩:=P.row (i:=r) (by omega)
 rw [show start jI [V.ref t,V.int c,V.ref nl,V.int r]=[some (.ref t),some (.int c),some (.ref nl),some (.int r),none,none,none,none,none] from rfl]
 (dsimp? [mI,eQ,dA])
 refine ⟨_,_,P.ob,rfl,_,_,_,_,rfl,ca,_,_,_,P.ob,C.cl,C.nk,_,gM _ _ _ _,_,rfl,_,SqL.of P.Kp,_,atg,?_⟩
 (dsimp? [nO,eQ,jX,nU])
 refine ⟨sz0,λ mv hmv=>?_⟩
 have s1:=aI.upd (o:=HO.lst []) hmv
 have hm1:(upd H mv (.lst [])) mv=some (.lst []):=aG
 generalize e1:upd H mv (.lst [])=H1 at s1 hm1
 refine ⟨_,_,_,s1 _ _ P.ob,C.cl,C.nk,_,gM _ _ _ _,_,rfl,⟨_,s1.seq (SqL.of P.Kp)⟩,⟨_,s1.seq (SqL.of hnl)⟩,for_zip (K:=K) (a:=k) (b:=nl) (xs:=List.map V.ref ks) (ys:=List.map V.int (L.numL s c)) (g:=jL K) (D:={ nx:=jK K { nx:=λ _ H'=>Q .non H',rt:=Q },rt:=Q }) (Uk t nl mv g c r L s H) ?_ ?_ ?_ ?_ ?_⟩
 ·exact ⟨none,none,[],rfl,s1,hm1,trivial,(λ _ h=>nomatch h),(λ h=>nomatch h)⟩
 ·rintro i σ H3 _ ⟨_,_,_,_,s3,_⟩
  exact ⟨s3.seq (SqL.of P.Kp),s3.seq (SqL.of hnl)⟩
 ·rw [length_map,length_map];omega
 ·rintro i x y p σ H3 hx hy ⟨o1,o2,qs,rfl,s3,hm3,hqs,hqn,hmq⟩ hp
  obtain ⟨z,rfl,hz⟩:=bV hx
  obtain ⟨v,rfl,hv⟩:=cU hy
  obtain ⟨row,er,hrow⟩:=P.Ks.get hz
  obtain ⟨him,rfl⟩:=dB er
  obtain ⟨_,rfl⟩:=dB hv
  have s4:=aI.upd (o:=HO.tup [.ref z,.int (L.T s i (L.cv c))]) hp
  (dsimp! [jL,nR,tK,tBM,zG,fY,nU,aK,aB,aC,aN,kP,cT,kQ])
  refine ⟨_,SqT.of aG,rfl,_,_,rfl,_,_,rfl,rfl,?_⟩
  have hp4:=s4 _ _ hm3
  have hq4:=hqs.same s4
  generalize upd H3 p (.tup [.ref z,.int (L.T s i (L.cv c))])=H4 at s4 hp4 hq4
  have s04:=s3.trans s4
  have bD:=lim.bD s ok
  have D0:=ok.ne
  have br:=lim.bc s r c ok (by omega)
  have bi:=lim.bc s i c ok (by omega)
  refine ⟨.inl ⟨rfl,_,SqL.of hp4⟩,_,rfl,⟨_,s04.seq (SqL.of hrow)⟩,⟨_,s04.seq (SqL.of hgr)⟩,lV (K:=K) (a:=z) (b:=g) (xs:=List.map V.int (L.keptL s i)) (ys:=List.map V.int (L.keptL s r)) (λ j zs H5=>aI H4 H5/\zs=List.map V.int (ofF j λ k=>((L.keptL s i).getD k 0*L.T s r (L.cv c) - (L.keptL s r).getD k 0*L.T s i (L.cv c)).fdiv (L.D s))) ?_ ?_ ⟨aI.refl _,rfl⟩ ?_ ?_ ?_⟩
  ·rw [length_map,Lpd.keptL_length,sizeLine_eq];omega
  ·rw [length_map,length_map,Lpd.keptL_length,Lpd.keptL_length]
  ·rintro j zs H5 _ ⟨s5,_⟩
   exact ⟨(s04.trans s5).seq (SqL.of hrow),(s04.trans s5).seq (SqL.of hgr)⟩
  ·rintro j x y pp zs H5 hx hy _ ⟨s5,rfl⟩ hpp os ho
   obtain ⟨u,rfl,hu⟩:=cU hx
   obtain ⟨w,rfl,hw⟩:=cU hy
   obtain ⟨q1,q2,rfl⟩:∃ o1 o2,os=[o1,o2]:=by
    match os,ho with
    | [o1,o2],_=>exact ⟨o1,o2,rfl⟩
   have s6:=aI.upd (o:=HO.tup [.int u,.int w]) hpp
   have bu:=lim.kept ok (show i<=L.m by omega) u (mem_of_getElem? hu)
   have bw:=lim.kept ok (show r<=L.m by omega) w (mem_of_getElem? hw)
   have eu:=eU hu
   have ew:=eU hw
   (dsimp! [nP,nQ,aQ,List.map_cons,List.map_nil,Option.join_some,aK,aB,tOp,rI0,rI,kH,cH,gL,dU,kP,cT,kQ,Lca,Lna])
   refine ⟨_,SqT.of aG,rfl,_,_,rfl,_,_,rfl,rfl,⟨[some (.int u),some (.int w)],rfl,rfl⟩,?_⟩
   refine ⟨_,((s04.trans s5).trans s6).seq (SqL.of hnl),_,fI (j:=r) (v:=V.int (L.T s r (L.cv c))) (by rw [getElem?_map];unfold Lpd.numL;rw [cF _ (by omega)];rfl),?_⟩
   refine ⟨_,rfl,_,rfl,.b bu br,_,rfl,.b bw bi,⟨by omega,bD⟩,s5.trans s6,?_⟩
   rw [cI,map_append,eu,ew];rfl
  ·rintro zs H5 _ ⟨s5,rfl⟩ l hl
   rw [length_map,Lpd.keptL_length] at *
   have s6:=aI.upd (o:=HO.lst (List.map V.int (mvr L s c r i))) hl
   have hl6:(upd H5 l (.lst (List.map V.int (mvr L s c r i)))) l=some (.lst (List.map V.int (mvr L s c r i))):=aG
   have hm6:=s6 _ _ (s5 _ _ hp4)
   have hq6:=hq4.same (s5.trans s6)
   have s06:=s04.trans (s5.trans s6)
   have hlH:H l=none:=(s04.trans s5).free hl
   have hlm:l≠mv:=λ e=>by rw [e,s5 _ _ hp4] at hl;cases hl
   show ∃ x,upd H5 l (.lst (List.map V.int (mvr L s c r i))) mv=some (HO.lst x)/\x.length<sizeLine/\Uk t nl mv g c r L s H (i+1) _ (upd (upd H5 l (.lst (List.map V.int (mvr L s c r i)))) mv (HO.lst (x++[V.ref l])))
   generalize upd H5 l (.lst (List.map V.int (mvr L s c r i)))=H6 at *
   refine ⟨_,hm6,by rw [length_map,hqs.length,aJ,sizeLine_eq];omega,_,_,qs++[l],rfl,s06.put hmv,?_,?_,λ x hx=>?_,λ hx=>?_⟩
   ·rw [aG,map_append];rfl
   ·refine bJ.put ?_ ?_
    ·intro hx
     rcases mem_append.mp hx with hx | hx
     ·exact hmq hx
     ·exact hlm (mem_singleton.mp hx).symm
    ·rw [cI]
     exact bJ.snoc hq6 hl6
   ·rcases mem_append.mp hx with hx | hx
    ·exact hqn x hx
    ·rw [mem_singleton.mp hx];exact hlH
   ·rcases mem_append.mp hx with hx | hx
    ·exact hmq hx
    ·exact hlm (mem_singleton.mp hx).symm
 ·rintro σ H3 ⟨o1,o2,qs,rfl,s3,hm3,hqs,hqn,hmq⟩
  rw [length_map,kl] at hqs
  (dsimp! [jK,Hy,xC,yV,eQ,aU,bH,aB])
  have hql:qs.length=L.m+1:=by rw [hqs.length,aJ]
  have tmv:t≠mv:=bT P.ob hmv
  have imv:ins≠mv:=bT P.hi hmv
  have tin:t≠ins:=Jc P.ob P.hi (by intro z;cases z)
  have hgm:mn t ins H g=some (.lst (List.map V.int (L.keptL s r))):=by
   obtain ⟨_,e1,e2⟩:=P.hks.get hg
   obtain ⟨_,rfl⟩:=dB e1
   exact e2
  have gti:g≠t/\g≠ins:=by
   constructor
   ·rintro rfl;unfold mn at hgm;rw [if_pos (.inl rfl)] at hgm;cases hgm
   ·rintro rfl;unfold mn at hgm;rw [if_pos (.inr rfl)] at hgm;cases hgm
  have gmv:mv≠g:=λ e=>by rw [e,hgr] at hmv;cases hmv
  have eset:(List.map V.ref qs).set r (V.ref g)=List.map V.ref (qs.set r g):=by rw [List.map_set]
  have s4:aI H (upd H3 mv (.lst (List.map V.ref (qs.set r g)))):=s3.put hmv
  have hrows:bJ (upd H3 mv (.lst (List.map V.ref (qs.set r g)))) (qs.set r g) (ofF (L.m+1) (L.keptL (Lpd.sput s r c))):=by
   rw [← mvr_all ok hr]
   refine bJ.put (λ hx=>?_) (bJ.setr (s3 _ _ hgr) r hqs)
   rcases mem_or_eq_of_mem_set hx with hx | hx
   ·exact hmq hx
   ·exact gmv hx
  have hmv4:(upd H3 mv (.lst (List.map V.ref (qs.set r g)))) mv=some (.lst (List.map V.ref (qs.set r g))):=aG
  refine ⟨_,hm3,_,by rw [length_map,hql];exact Es (by omega) (by omega),?_⟩
  rw [Int.toNat_natCast,eset]
  generalize upd H3 mv (.lst (List.map V.ref (qs.set r g)))=H4 at s4 hrows hmv4
  refine ⟨_,_,_,s4 _ _ P.ob,C.cl,C.nk,by show 4<1000;decide,_,_,_,aG,C.cl,C.ni,_,mD b sp mv ins,_,rfl,_,(by rw [cA tin.symm];exact s4 _ _ P.hi),_,(by rw [length_map,il];exact Es (by omega) (by omega)),?_⟩
  rw [Int.toNat_natCast,Uz]
  have em:∀ o o',mn t ins (upd (upd H4 t o) ins o')=mn t ins H4:=λ o o'=>by rw [lP (.inr rfl),lP (.inl rfl)]
  have sm4:aI (mn t ins H) (mn t ins H4):=eS s4
  have P5:lM K (upd (upd H4 t (.ins (cY K "Corner") dx (cfl b sp mv ins))) ins (.lst ((List.map V.int (L.insL s)).set r (V.int c)))) t ins L (Lpd.sput s r c) dx b sp mv bs ss (qs.set r g):=by
   refine ⟨?_,?_,?_,?_,P.sl,P.sb,?_,?_,?_⟩
   ·rw [cA tin,aG]
   ·rw [em];exact sm4 _ _ P.hb
   ·rw [em];exact P.hbs.same sm4
   ·rw [em];exact sm4 _ _ P.hs
   ·rw [em];exact uB hmv4 tmv.symm imv.symm
   ·rw [em]
    refine hrows.mn (λ hx=>?_) (λ hx=>?_)
    ·rcases mem_or_eq_of_mem_set hx with hx | hx
     ·have:=hqn _ hx;rw [P.ob] at this;cases this
     ·exact gti.1 hx.symm
    ·rcases mem_or_eq_of_mem_set hx with hx | hx
     ·have:=hqn _ hx;rw [P.hi] at this;cases this
     ·exact gti.2 hx.symm
   ·rw [aG,← List.map_set]
    unfold Lpd.insL
    rw [ofF_set]
    congr 3
    refine fN λ k _=>?_
    unfold Lpd.sput
    split <;> rfl
  refine q _ (by rw [em];exact sm4) ⟨_,_,_,_,_,_,_,P5⟩ λ f hf0 F=>?_
  obtain ⟨n1,n2,n3,n4,n5⟩:=F.of P
  refine ⟨_,_,_,_,_,_,_,P5,n1,n2,λ e=>hf0 (by rw [e];exact hmv),n4,λ hx=>?_⟩
  rcases mem_or_eq_of_mem_set hx with hx | hx
  ·exact hf0 (hqn _ hx)
  ·exact n5 (by rw [hx];exact mem_of_getElem? hg)
noncomputable def vG:List PySem.Str:=["corner", "column", "numbers", "at"]
noncomputable def kZ (K:W.Frag):Sp:=λ vs H Q _=>∃ t ins L s,vs=[.ref t]/\eZ K H t ins L s/\L.Lim/\L.Okx s/\iD L s /\
 ∀ o s' H',aI (mn t ins H) (mn t ins H')->eZ K H' t ins L s'->L.Okx s'->iD L s'->UnO L s' o->Q (oV o) H'
noncomputable def zM (K:W.Frag) (t ins:Addr) (L:Lpd) (H0:Hp) (σ:St) (H3:Hp) (s:Nat->Nat) (o:Option Nat):Prop:=(∃ o1 o2,σ=[some (.ref t),some (oV o),o1,o2])/\aI (mn t ins H0) (mn t ins H3)/\eZ K H3 t ins L s/\L.Okx s/\iD L s/\EntO L s (L.n+L.m) o
open Classical in
noncomputable def Xo (K:W.Frag) (t ins:Addr) (L:Lpd) (H0:Hp) (σ:St) (H3:Hp):Nat:=if h:∃ s,∃ o,zM K t ins L H0 σ H3 s o then L.mu (Classical.choose h) else 0
noncomputable def pF (K:W.Frag):TS:=(bK (tC .non))
noncomputable def pG (K:W.Frag):TS:=(aU (bH (dA (cY K "Corner") "numbers" (dI K) [] E0 (aB 0) (aC (aB 1) aN)) (aK 2)) (aU (bH (dA (cY K "Corner") "leaving_by" (eI K) [] E0 (aB 0) (aC (aB 2) aN)) (aK 3)) (aU (dG (bR (tOp Dz (aB 3) (tC .non))) (bK (aB 1)) cE) (aU (tK (dA (cY K "Corner") "step_in" (fW K) [] E0 (aB 0) (aC (aB 1) (aC (aB 2) (aC (aB 3) aN))))) (bH (dA (cY K "Corner") "entering" (eA K) [] E0 (aB 0) aN) (aK 1))))))
noncomputable def uT (K:W.Frag):TS:=(aU (bH (dA (cY K "Corner") "entering" (eA K) [] E0 (aB 0) aN) (aK 1)) (aU (xT (bR (tOp Ny (aB 1) (tC .non))) (pG K)) (pF K)))
theorem Ip {K vs H Q E} (h:kZ K vs H Q E):vs.length=1:=by obtain ⟨_,_,_,_,rfl,_⟩:=h;rfl
theorem jJQ {L:Lpd} {s s':Nat->Nat} (h:L.insL s=L.insL s') {i:Nat} (hi:i<L.m):s i=s' i:=by
 unfold Lpd.insL at h
 have h1:=cF (λ i=>(s i:Int)) hi
 rw [h,cF (λ i=>(s' i:Int)) hi] at h1
 have:=Option.some.inj h1
 omega
theorem Vd {L:Lpd} {s s':Nat->Nat} (h:∀ i,i<L.m->s i=s' i):L.B s=L.B s':=by
 funext i
 unfold Lpd.B
 by_cases hi:i<L.m
 ·rw [if_pos hi,if_pos hi,h i hi]
 ·rw [if_neg hi,if_neg hi]
theorem Pa {L:Lpd} {s s':Nat->Nat} (h:∀ i,i<L.m->s i=s' i):L.mu s=L.mu s':=by
 have e:=Vd h
 unfold Lpd.mu Lpd.Fur Lpd.T Lpd.D
 rw [e]
theorem eZ.ins_eq {K:W.Frag} {H:Hp} {t ins:Addr} {L:Lpd} {s s':Nat->Nat} (h:eZ K H t ins L s) (h':eZ K H t ins L s'):∀ i,i<L.m->s i=s' i:=λ i hi=>by
 obtain ⟨_,_,_,_,_,_,_,P⟩:=h
 obtain ⟨_,_,_,_,_,_,_,P'⟩:=h'
 have e:=P.hi.symm.trans P'.hi
 injection e with e
 injection e with e
 exact jJQ (List.map_inj_right (λ a b h=>by injection h) |>.mp e) hi
theorem Oz {K:W.Frag} {t ins:Addr} {L:Lpd} {H0:Hp} {σ:St} {H3:Hp} {s:Nat->Nat} {o:Option Nat} (h:zM K t ins L H0 σ H3 s o):Xo K t ins L H0 σ H3=L.mu s:=by
 unfold Xo
 have hx:∃ s,∃ o,zM K t ins L H0 σ H3 s o:=⟨s,o,h⟩
 rw [dif_pos hx]
 obtain ⟨o',h'⟩:=Classical.choose_spec hx
 exact Pa (h'.2.2.1.ins_eq h.2.2.1)
theorem mu_step {L:Lpd} {s s':Nat->Nat} (o:L.Okx s) (o':L.Okx s') (hs:iD L s') (h:L.Fur s s'):L.mu s'<L.mu s:=by
 have e:∀ i,i<L.m->s' i=Lpd.sf (ofF L.m s') i:=λ i hi=>by
  unfold Lpd.sf
  rw [getD_eq_getElem?_getD,cF _ hi];rfl
 rw [Pa e]
 have eB:=Vd e
 have eD:L.D s'=L.D (Lpd.sf (ofF L.m s')):=by unfold Lpd.D;rw [eB]
 refine Lpd.mu_lt o.pos (eD ▸ o'.pos) (aJ _ _) (λ c hc=>?_) ?_
 ·obtain ⟨k,hk,rfl⟩:=gG hc
  exact hs k hk
 ·unfold Lpd.Fur Lpd.T Lpd.D at h ⊢
  rw [← eB];exact h
theorem Nb {K vs H Q E} (h:kZ K vs H Q E):uT K { nx:=λ _ H'=>Q .non H',rt:=Q } (start vG vs) H:=by
 obtain ⟨t,ins,L,s,rfl,ca,lim,ok,io,q⟩:=h
 obtain ⟨dx,b,sp,k,bs,ss,ks,P⟩:=id ca
 rw [show start vG [V.ref t]=[some (.ref t),none,none,none] from rfl]
 (dsimp! [uT,dA,aU,bH,aK,aB,aN,List.append_nil])
 refine ⟨_,_,P.ob,rfl,_,_,_,_,rfl,ca,lim,ok.n,λ o H1 s1 en=>?_⟩
 refine Fs (λ σ H'=>∃ s o,zM K t ins L H σ H' s o) (Xo K t ins L H) ⟨s,o,⟨_,_,rfl⟩,eS s1,ca.same s1,ok,io,en⟩ ?_ ?_
 ·rintro σ H3 ⟨s3,o3,iv⟩
  have emu:=Oz iv
  rw [emu]
  obtain ⟨⟨q1,q2,rfl⟩,sm3,ca3,ok3,io3,en3⟩:=iv
  (dsimp! [Ny,aB,tC,tOp,bR])
  cases o3 with
  | none =>
   (try dsimp only [pF,tC,bK,cQ,cR,cP];try simp only [oV,decide_true,Bool.not_true,Bool.false_eq_true,if_false,pF,tC,bK,Option.some.injEq,exists_eq_left',exists_eq_left,V.int.injEq,V.ref.injEq,V.bl.injEq,List.cons.injEq,and_true,true_and,exists_and_left,and_assoc,cQ,cR,cP,dQ,gQ,eN])
   exact q none s3 H3 sm3 ca3 ok3 io3 en3
  | some c =>
   (try dsimp only [pG,dA,Dz,tK,aU,bH,aK,aB,tC,tOp,bK,dG,bR,cE,aC,aN,Lq0,Lq1,Ls0,Ls1,cQ,cR,cP];try simp only [oV,reduceCtorEq,decide_false,Bool.not_false,if_true,pG,dA,Dz,tK,aU,bH,aK,aB,tC,tOp,bK,dG,bR,cE,aC,aN,Lq0,Lq1,Ls0,Ls1,Option.some.injEq,exists_eq_left',V.ref.injEq,V.bl.injEq,true_and,List.append_nil,exists_and_left,decide_eq_true_eq,exists_eq_left,V.int.injEq,List.cons.injEq,and_true,and_assoc,cQ,cR,cP,dQ,gQ,eN])
   obtain ⟨dx3,b3,sp3,k3,bs3,ss3,ks3,P3⟩:=id ca3
   refine ⟨_,_,P3.ob,rfl,_,_,_,_,_,rfl,ca3,lim,ok3.n,en3.1,λ nl H4 s4 hn4 hnl=>?_⟩
   refine ⟨_,_,(P3.same s4).ob,rfl,_,_,_,_,_,_,rfl,ca3.same s4,lim,ok3.n,hnl,λ o5 H5 s5 lv=>?_⟩
   have sm5:aI (mn t ins H) (mn t ins H5):=sm3.trans (eS (s4.trans s5))
   have ca5:=ca3.same (s4.trans s5)
   cases o5 with
   | none =>
    simp only [oV,if_true,exists_eq_left',V.int.injEq,Option.some.injEq,exists_eq_left,V.ref.injEq,V.bl.injEq,List.cons.injEq,and_true,true_and,exists_and_left,and_assoc,cQ,cR,cP,dQ,gQ,eN]
    exact q (some c) s3 H5 sm5 ca5 ok3 io3 ⟨en3.1,en3.2,λ i hi=>lv i (by omega)⟩
   | some r =>
    obtain ⟨hr,hp,hmin⟩:=lv
    have hrm:r<L.m:=by
     have:=en3.2
     rcases Nat.lt_or_ge r L.m with h | h
     ·exact h
     ·have:r=L.m:=by omega
      subst this;omega
    have ok':=ok3.step hrm hp λ i hi hpi=>hmin i (by omega) hpi
    have io':iD L (Lpd.sput s3 r c):=λ i hi=>by
     unfold Lpd.sput;split
     ·exact en3.1
     ·exact io3 i hi
    have fur:=ok3.further (r:=r) (c:=c) hrm en3.2
    simp only [oV,reduceCtorEq,if_false,exists_eq_left',V.int.injEq,Option.some.injEq,exists_eq_left,V.ref.injEq,V.bl.injEq,List.cons.injEq,and_true,true_and,exists_and_left,and_assoc,cQ,cR,cP,dQ,gQ,eN]
    refine ⟨_,_,(P3.same (s4.trans s5)).ob,rfl,_,_,_,_,_,_,_,rfl,ca5,lim,ok3.n,s5 _ _ hnl,hrm,λ H6 sm6 ca6 _=>?_⟩
    obtain ⟨dx6,b6,sp6,k6,bs6,ss6,ks6,P6⟩:=id ca6
    refine ⟨_,_,P6.ob,rfl,_,_,_,_,rfl,ca6,lim,ok'.n,λ o7 H7 s7 en7=>?_⟩
    have iv7:zM K t ins L H [some (.ref t),some (oV o7),some (.ref nl),some (.int r)] H7 (Lpd.sput s3 r c) o7:=⟨⟨_,_,rfl⟩,(sm5.trans sm6).trans (eS s7),ca6.same s7,ok',io',en7⟩
    refine ⟨⟨_,_,iv7⟩,?_⟩
    rw [Oz iv7]
    exact mu_step ok3 ok' io' fur
 ·intro σ H' Q1 Q2 im h
  dsimp only [bR,tOp,tUn,Ny] at h ⊢
  first
  | (obtain ⟨v,hv,hx,e⟩:=vV h
     exact vU hv ⟨hx,im _ _ e⟩)
  | (obtain ⟨v,hv,hx,b,hb,e⟩:=vV h
     exact vU hv ⟨hx,b,hb,im _ _ e⟩)
noncomputable def lG:List PySem.Str:=["row"]
noncomputable def iA (K:W.Frag):Sp:=λ vs H Q _=>∃ a ns,vs=[.ref a]/\SqL K H a (List.map V.int ns)/\ns.length<=200/\∀ l H',aI H H'->H l=none->H' l=some (.lst (List.map V.int (ns.map λ x=>-x)))->Q (.ref l) H'
noncomputable def pZ (K:W.Frag):TE:=(tUn eX (aB 0))
noncomputable def pH (K:W.Frag):TS:=(bK (bO (bQ K (aB 0)) [] (pZ K)))
theorem Ct {K vs H Q E} (h:iA K vs H Q E):vs.length=1:=by obtain ⟨_,_,rfl,_⟩:=h;rfl
theorem Ec {K vs H Q E} (h:iA K vs H Q E):pH K { nx:=λ _ H'=>Q .non H',rt:=Q } (start lG vs) H:=by
 obtain ⟨a,ns,rfl,ha,nl,q⟩:=h
 rw [show start lG [V.ref a]=[some (.ref a)] from rfl]
 (dsimp? [pH,bO,bQ])
 refine ⟨⟨_,ha⟩,bX (K:=K) (a:=a) (xs:=List.map V.int ns) (λ i zs H3=>H3=H/\zs=List.map V.int ((ns.take i).map λ x=>-x)) (by rw [length_map,sizeLine_eq];omega) ⟨rfl,rfl⟩ ?_ ?_ ?_⟩
 ·rintro i zs H3 _ ⟨rfl,_⟩
  exact ha
 ·rintro i x zs H3 hi _ ⟨rfl,rfl⟩
  obtain ⟨n,rfl,hn⟩:=cU hi
  (dsimp? [pZ])
  rw [dN hn,map_append,map_append];rfl
 ·rintro zs H3 _ ⟨rfl,rfl⟩ p hp
  rw [length_map,take_length]
  exact q p _ (aI.upd hp) hp aG
noncomputable def dL:List PySem.Str:=["self", "inside", "first", "free", "column", "numbers", "places"]
noncomputable def gX (K:W.Frag):Sp:=λ vs H Q _=>∃ t ins L g,∃ gs:List Nat,vs=[.ref t,.ref g]/\eZ K H t ins L L.ins0/\L.Lim/\L.fl=false/\1<=L.m/\mn t ins H g=some (.lst (List.map V.int (gs.map λ c:Nat=>(c:Int))))/\gs.length=L.m /\
 (∀ H',aI (mn t ins H) (mn t ins H')->Q (.bl false) H') /\
 ∀ L2 s H',(L2=L∨L2=L.flip)->aI (mn t ins H) (mn t ins H')->eZ K H' t ins L2 s->L2.Ok s->iD L2 s->Q (.bl true) H'
noncomputable def iU (K:W.Frag):TS:=(bK (tOp Ve (tCB (Ff K) (aC (aT (fU K) [] E0 (aC (tSl (rS K) (eQ K (aB 0) "kept") gR (oP (tUn eX (tC (.int 1))))) (aC (tUn eX (tC (.int 1))) aN))) aN)) (tC (.int 0))))
noncomputable def nH (K:W.Frag):TE:=(aT (iA K) [] E0 (aC (aB 0) aN))
noncomputable def eG (K:W.Frag):TS:=(aU (dG (bR (tOp iJ (dA (cY K "Corner") "bottom" (dX K) [] E0 (aB 0) aN) (tC (.int 0)))) (yV K (aB 0) (bO (bQ K (eQ K (aB 0) "kept")) [] (nH K)) "kept") cE) (iU K))
noncomputable def nG (K:W.Frag):TE:=(aB 0)
noncomputable def iT (K:W.Frag):TS:=(aU (tK (dA (cY K "Corner") "step_in" (fW K) [] E0 (aB 0) (aC (aB 4) (aC (aB 5) (aC (tOp (dU K) (aB 6) (tC (.int 0))) aN))))) (tK (tBM K "list" Eo (aB 3) (aC (tOp (dU K) (aB 6) (tC (.int 0))) aN))))
noncomputable def nE (K:W.Frag):TS:=(aU (dG (tU (tTru K (aB 6))) (bK (tC (.bl false))) cE) (iT K))
noncomputable def nF (K:W.Frag):TE:=(aB 0)
noncomputable def nD (K:W.Frag):TS:=(aU (bH (uE (bQ K (aB 3)) [5] (bR (tOp rNe (tOp (dU K) (aB 1) (aB 0)) (tC (.int 0)))) (nF K)) (aK 6)) (nE K))
noncomputable def eH (K:W.Frag):TS:=(aU (bH (dA (cY K "Corner") "numbers" (dI K) [] E0 (aB 0) (aC (aB 4) aN)) (aK 5)) (nD K))
noncomputable def nC (K:W.Frag):TS:=(aU (jX (bQ K (uE (bQ K (aB 1)) [2] (bR (tOp iJ (aB 0) (aB 1))) (nG K))) (aK 4) (eH K)) (eG K))
noncomputable def iV (K:W.Frag):TE:=(aB 0)
noncomputable def nB (K:W.Frag):TS:=(aU (bH (uE (hE (aC (tCB (gO K) (aC (aB 1) aN)) aN)) [1,2] (bR (tOp (rIn K true) (tOp gP (aB 2) (aB 0)) (aB 1))) (iV K)) (aK 3)) (nC K))
noncomputable def lJ (K:W.Frag):TS:=(aU (bH (tCB (gO K) (aC (eQ K (aB 0) "begun") aN)) (aK 2)) (nB K))
theorem xA {K vs H Q E} (h:gX K vs H Q E):vs.length=2:=by obtain ⟨_,_,_,_,_,rfl,_⟩:=h;rfl
theorem bJ.take {H:Hp}:∀ {ps:List Addr} {rs:List (List Int)} (i:Nat),bJ H ps rs->bJ H (ps.take i) (rs.take i)
 | _,_,0,_=>trivial
 | [],[],_+1,_=>trivial
 | _::_,_::_,i+1,h=>⟨h.1,bJ.take i h.2⟩
 | [],_::_,_,h=>h.elim
 | _::_,[],_,h=>h.elim
theorem Zv {α:Type} {n i:Nat} {f:Nat->α} (h:i<=n):(ofF n f).take i=ofF i f:=by
 unfold ofF;rw [← map_take,List.take_range,Nat.min_eq_left h]
theorem Uc {α β:Type} {n:Nat} {f:Nat->α} {g:α->β}:(ofF n f).map g=ofF n λ k=>g (f k):=by unfold ofF;rw [List.map_map];rfl
theorem Dn {K:W.Frag} (C:tX K) {Q:VK} {G:Hp} {t ins:Addr} {L:Lpd} {s:Nat->Nat} {o1 o2 o3 o4 o5 o6:Option V} (ca:eZ K G t ins L s) (lim:L.Lim) (m1:1<=L.m)
  (k0:∀ H',aI G H'->Q (.bl false) H') (k1:∀ H',aI G H'->(∀ i,i<L.m->0<=L.T s i L.be)->Q (.bl true) H') :
  iU K { nx:=λ _ H'=>Q .non H',rt:=Q } [some (.ref t),o1,o2,o3,o4,o5,o6] G:=by
 obtain ⟨dx,b,sp,k,bs,ss,ks,P⟩:=ca
 have kl:=P.kl
 have ml:=lim.m1
 (dsimp? [iU,eQ,rS,Ff])
 refine ⟨_,_,_,P.ob,C.cl,C.nk,_,gM b sp k ins,k,rfl,_,SqL.of P.Kp,λ z hz=>?_⟩
 have ec:xO (List.map V.ref ks) none (some (-1))=List.map V.ref (ks.take L.m):=by rw [uQ,length_map,kl,Nat.add_sub_cancel,map_take]
 rw [ec]
 have hks:bJ G (ks.take L.m) (ofF L.m (L.keptL s)):=by have:=P.Ks.take L.m;rwa [Zv (Nat.le_succ _)] at this
 refine ⟨z,_,_,-1,L.m+1,rfl,SqL.of aG,hks.same (aI.upd hz),by rw [aJ];omega,λ r hr=>?_,λ l H1 s1 hl hl1=>?_⟩
 ·obtain ⟨i,hi,rfl⟩:=gG hr
  rw [eU (L.keptL_last s i)]
  exact uS (by rw [length_map,Lpd.keptL_length,getElem?_map,show L.m+2 - 1=L.m+1 by omega,L.keptL_last];rfl)
 ·have s01:=(aI.upd (o:=HO.lst (List.map V.ref (ks.take L.m))) hz).trans s1
  rw [Uc,fN λ i _=>eU (L.keptL_last s i)] at hl1
  refine ⟨l,rfl,_,SqL.of hl1,λ e=>?_,λ M hM hA=>?_⟩
  ·have:=congrArg List.length e
   rw [aJ] at this
   simp at this;omega
  ·by_cases h0:0<=M
   ·rw [decide_eq_true h0]
    refine k1 H1 s01 λ i hi=>?_
    have:=hA _ (mem_of_getElem? (cF (λ i=>L.T s i L.be) hi))
    omega
   ·rw [decide_eq_false h0]
    exact k0 H1 s01
theorem Pq {K:W.Frag} (C:tX K) {Q:VK} {G:Hp} {t ins:Addr} {L:Lpd} {s:Nat->Nat} {o1 o2 o3 o4 o5 o6:Option V} (ca:eZ K G t ins L s) (lim:L.Lim) (m1:1<=L.m) (ok:L.Okn s) (io:iD L s)
  (k0:∀ H',aI (mn t ins G) (mn t ins H')->Q (.bl false) H') (k1:∀ L2 H',(L2=L∨L2=L.flip)->aI (mn t ins G) (mn t ins H')->eZ K H' t ins L2 s->L2.Ok s->iD L2 s->Q (.bl true) H') :
  eG K { nx:=λ _ H'=>Q .non H',rt:=Q } [some (.ref t),o1,o2,o3,o4,o5,o6] G:=by
 obtain ⟨dx,b,sp,k,bs,ss,ks,P⟩:=id ca
 have kl:=P.kl
 have ml:=lim.m1
 have tin:t≠ins:=Jc P.ob P.hi (by intro z;cases z)
 have D0:=ok.ne
 (dsimp? [eG,dA,bO,bQ,yV,eQ];try simp_arith [eG,dA,bO,bQ,yV,eQ,if_true])
 refine ⟨_,_,P.ob,rfl,t,ins,L,s,rfl,ca,_,rfl,jY (λ hD=>?_) (λ hD=>?_)⟩
 ·refine ⟨_,_,_,P.ob,C.cl,C.nk,_,gM b sp k ins,k,rfl,⟨_,SqL.of P.Kp⟩,bX (K:=K) (a:=k) (xs:=List.map V.ref ks) (λ i zs H3=>aI G H3/\∃ qs,zs=List.map V.ref qs/\bJ H3 qs (ofF i (L.flip.keptL s))/\∀ x∈qs,G x=none) ?_ ⟨aI.refl _,[],rfl,trivial,(λ _ h=>nomatch h)⟩ ?_ ?_ ?_⟩
  ·rw [length_map,kl,sizeLine_eq];omega
  ·rintro i zs H3 _ ⟨s3,_⟩
   exact SqL.of (s3 _ _ P.Kp)
  ·rintro i x zs H3 hi _ ⟨s3,qs,rfl,hq,qn⟩
   obtain ⟨z,rfl,hz⟩:=bV hi
   obtain ⟨row,er,hrow⟩:=(P.Ks.same s3).get hz
   obtain ⟨hin,rfl⟩:=dB er
   (dsimp? [nH])
   refine ⟨z,_,rfl,SqL.of hrow,by rw [Lpd.keptL_length];omega,λ l H4 s4 hl hl4=>⟨s3.trans s4,qs++[l],by rw [map_append];rfl,?_,λ x hx=>?_⟩⟩
   ·rw [cI]
    exact bJ.snoc (hq.same s4) (by rw [hl4,L.flip_kept])
   ·rcases mem_append.mp hx with hx | hx
    ·exact qn x hx
    ·rw [mem_singleton.mp hx];exact s3.free hl
  ·rintro zs H3 _ ⟨s3,qs,rfl,hq,qn⟩ p hp
   rw [length_map,kl] at hq
   have s4:=s3.trans (aI.upd (o:=HO.lst (List.map V.ref qs)) hp)
   have hq4:=hq.same (aI.upd (o:=HO.lst (List.map V.ref qs)) hp)
   have p4:(upd H3 p (HO.lst (List.map V.ref qs))) p=some (HO.lst (List.map V.ref qs)):=aG
   have p0:G p=none:=s3.free hp
   generalize upd H3 p (HO.lst (List.map V.ref qs))=H4 at s4 hq4 p4
   refine ⟨_,_,_,s4 _ _ P.ob,C.cl,C.nk,by show 4<1000;decide,?_⟩
   rw [Uz]
   have em:∀ o,mn t ins (upd H4 t o)=mn t ins H4:=λ o=>lP (.inl rfl)
   have sm4:aI (mn t ins G) (mn t ins H4):=eS s4
   have ca2:eZ K (upd H4 t (.ins (cY K "Corner") dx (cfl b sp p ins))) t ins L.flip s:=by
    refine ⟨dx,b,sp,p,bs,ss,qs,aG,?_,?_,?_,P.sl,P.sb,?_,?_,?_⟩
    ·rw [em];exact sm4 _ _ P.hb
    ·rw [em];exact P.hbs.same sm4
    ·rw [em];exact sm4 _ _ P.hs
    ·rw [em];exact uB p4 (bT P.ob p0).symm (bT P.hi p0).symm
    ·rw [em]
     exact hq4.mn (λ hx=>by have:=qn _ hx;rw [P.ob] at this;cases this) (λ hx=>by have:=qn _ hx;rw [P.hi] at this;cases this)
    ·rw [cA tin.symm];exact s4 _ _ P.hi
   have sm5:aI (mn t ins G) (mn t ins (upd H4 t (.ins (cY K "Corner") dx (cfl b sp p ins)))):=by rw [em];exact sm4
   generalize upd H4 t (.ins (cY K "Corner") dx (cfl b sp p ins))=H5 at ca2 sm5
   refine Dn C ca2 lim.flip m1 (λ H' s'=>k0 H' (sm5.trans (eS s'))) λ H' s' h0=>k1 L.flip H' (.inr rfl) (sm5.trans (eS s')) (ca2.same s') ⟨?_,ok.cr,h0⟩ io
   rw [Lpd.flip_D];omega
 ·refine Dn C ca lim m1 (λ H' s'=>k0 H' (eS s')) λ H' s' h0=>k1 L H' (.inl rfl) (eS s') (ca.same s') ⟨by omega,ok.cr,h0⟩ io
structure CmAt (K:W.Frag) (H0 H:Hp) (t ins f cl:Addr) (L:Lpd) (s:Nat->Nat) (fr cs:List Nat):Prop where
 sm:aI (mn t ins H0) (mn t ins H)
 ca:yY K H t ins L s f
 ok:L.Okn s
 io:iD L s
 f0:H0 f=none
 hf:mn t ins H f=some (.lst (List.map V.int (fr.map λ i:Nat=>(i:Int))))
 fm:∀ x∈fr,x<L.m
 fl:fr.length<=L.m
 hc:mn t ins H cl=some (.lst (List.map V.int (cs.map λ i:Nat=>(i:Int))))
 cf:cl≠f
noncomputable def jJV (K:W.Frag) (H0:Hp) (t ins g f cl:Addr) (L:Lpd) (cs:List Nat):Nat->St->Hp->Prop:=λ _ σ H3=>∃ s fr o4 o5 o6,σ=[some (.ref t),some (.ref g),some (.int L.n),some (.ref f),o4,o5,o6]/\CmAt K H0 H3 t ins f cl L s fr cs
theorem Pg:∀ {l:List Nat} {r:Nat},r∈l->∃ j:Nat,l[j]?=some r/\∀ m:Nat,m<j->l[m]?≠some r
 | [],_,h=>nomatch h
 | a::l,r,h=>by
  by_cases e:a=r
  ·exact ⟨0,by rw [e];rfl,λ m hm=>absurd hm (Nat.not_lt_zero _)⟩
  ·rcases List.mem_cons.mp h with h | h
   ·exact absurd h.symm e
   ·obtain ⟨j,h1,h2⟩:=Pg h
    refine ⟨j+1,by simpa using h1,λ m hm=>?_⟩
    cases m with
    | zero=>intro z;exact e (by simpa using z)
    | succ m=>have:=h2 m (by omega);simpa using this
theorem Mc {ns:List Nat} {i:Nat} {x:V} (h:(List.map V.int (ns.map λ i:Nat=>(i:Int)))[i]?=some x):∃ y:Nat,x=.int (y:Int)/\ns[i]?=some y:=by
 rw [getElem?_map,getElem?_map] at h
 cases e:ns[i]? with
 | none=>rw [e] at h;cases h
 | some y=>rw [e] at h;exact ⟨y,(Option.some.inj h).symm,rfl⟩
theorem Pr {K:W.Frag} {D:Be} {H0 G:Hp} {t ins g f cl:Addr} {L:Lpd} {s:Nat->Nat} {fr cs:List Nat} {c:Nat} {o5 o6:Option V} (lim:L.Lim) (I:CmAt K H0 G t ins f cl L s fr cs) (hc:c<L.n)
  (k0:∀ H',aI (mn t ins H0) (mn t ins H')->D.rt (.bl false) H') (k1:∀ s' fr' o5 o6 H',CmAt K H0 H' t ins f cl L s' fr' cs->D.nx [some (.ref t),some (.ref g),some (.int L.n),some (.ref f),some (.int c),o5,o6] H') :
  eH K D [some (.ref t),some (.ref g),some (.int L.n),some (.ref f),some (.int c),o5,o6] G:=by
 obtain ⟨dx,b,sp,k,bs,ss,ks,P⟩:=id I.ca.at
 (dsimp? [eH,dA];try simp_arith [eH,dA,if_true])
 refine ⟨_,_,P.ob,rfl,t,ins,L,s,c,rfl,I.ca.at,lim,I.ok,by omega,λ nl H1 s1 hn hn1=>?_⟩
 have ml:=lim.m1
 have fl:=I.fl
 have hf1:=s1 _ _ (iZ _ _ I.hf)
 (dsimp? [nD,uE,bQ])
 refine ⟨⟨_,SqL.of hf1⟩,Hh (K:=K) (a:=f) (xs:=List.map V.int (fr.map λ i:Nat=>(i:Int))) (λ i zs H3=>H3=H1/\∃ ps:List Nat,zs=List.map V.int (ps.map λ i:Nat=>(i:Int))/\∀ x∈ps,x∈fr/\L.T s x (L.cv c)≠0) (by rw [length_map,length_map,sizeLine_eq];omega) ⟨rfl,[],rfl,(λ _ h=>nomatch h)⟩ ?_ ?_ ?_⟩
 ·rintro i zs H3 _ ⟨rfl,_⟩
  exact SqL.of hf1
 ·rintro i x zs H3 hi _ ⟨rfl,ps,rfl,hp⟩
  obtain ⟨y,rfl,hy⟩:=Mc hi
  have ym:=I.fm y (mem_of_getElem? hy)
  (dsimp? [nF,aQ,List.map_cons,List.map_nil,Option.join_some])
  refine ⟨_,SqL.of hn1,V.int (L.T s y (L.cv c)),fI (by rw [getElem?_map];unfold Lpd.numL;rw [cF _ (by omega)];rfl),rfl,?_⟩
  by_cases h0:L.T s y (L.cv c)=0
  ·rw [decide_eq_true (by rw [h0]:V.int (L.T s y (L.cv c))=V.int 0)]
   exact tV ⟨ps,rfl,hp⟩
  ·rw [decide_eq_false (λ z=>h0 (by injection z):¬ V.int (L.T s y (L.cv c))=V.int 0)]
   refine Qj ⟨ps++[y],by rw [map_append,map_append];rfl,λ x hx=>?_⟩
   rcases mem_append.mp hx with hx | hx
   ·exact hp x hx
   ·rw [mem_singleton.mp hx];exact ⟨mem_of_getElem? hy,h0⟩
 ·rintro zs H3 ⟨rfl,ps,rfl,hp⟩ p hp3
  have s2:=aI.upd (o:=HO.lst (List.map V.int (ps.map λ i:Nat=>(i:Int)))) hp3
  have p2:(upd H3 p (HO.lst (List.map V.int (ps.map λ i:Nat=>(i:Int))))) p=some (HO.lst (List.map V.int (ps.map λ i:Nat=>(i:Int)))):=aG
  generalize upd H3 p (HO.lst (List.map V.int (ps.map λ i:Nat=>(i:Int))))=H2 at s2 p2
  have s12:=s1.trans s2
  (dsimp? [nE,tTru])
  refine ⟨_,.inl ⟨_,SqL.of p2,rfl⟩,?_⟩
  cases ps with
  | nil=>exact Qj (k0 H2 (I.sm.trans (eS s12)))
  | cons r pr =>
   obtain ⟨rf,rn⟩:=hp r mem_cons_self
   have rm:=I.fm r rf
   have P2:=P.same s12
   refine tV ?_
   (dsimp? [iT,tK,dA,tBM,Eo];try simp_arith [iT,tK,dA,tBM,Eo,if_true])
   have pti:p≠t/\p≠ins:=⟨(bT (s1 _ _ P.ob) hp3).symm,(bT (s1 _ _ P.hi) hp3).symm⟩
   have fti:f≠t/\f≠ins:=by
    have hf:=I.hf
    constructor
    ·rintro rfl;unfold mn at hf;rw [if_pos (.inl rfl)] at hf;cases hf
    ·rintro rfl;unfold mn at hf;rw [if_pos (.inr rfl)] at hf;cases hf
   have pf:p≠f:=λ e=>by rw [e,hf1] at hp3;cases hp3
   have F2:=I.ca.same s12
   refine ⟨_,_,P2.ob,rfl,_,SqL.of p2,V.int r,kR,t,ins,L,s,nl,c,r,rfl,F2.at,lim,I.ok,s2 _ _ hn1,rm,λ H4 sm4 ca4 ff=>?_⟩
   have F4:=ff f (by rw [s12 _ _ (iZ _ _ I.hf)];exact λ z=>nomatch z) F2
   have f4:=sm4 _ _ (eS s12 _ _ I.hf)
   have p4:=sm4 _ _ (uB p2 pti.1 pti.2)
   have c4:=sm4 _ _ (eS s12 _ _ I.hc)
   obtain ⟨j,hj,hno⟩:=Pg rf
   refine ⟨.inl ⟨rfl,_,SqL.of (iZ _ _ f4)⟩,_,SqL.of (iZ _ _ p4),V.int r,kR,fr.map λ i:Nat=>(i:Int),(r:Int),rfl,iZ _ _ f4,j,by rw [getElem?_map,hj];rfl,λ m hm e=>?_,?_⟩
   ·rw [getElem?_map] at e
    cases e2:fr[m]? with
    | none=>rw [e2] at e;cases e
    | some y =>
     rw [e2] at e
     have:(y:Int)=r:=Option.some.inj e
     exact hno m hm (by rw [e2];congr 1;omega)
   ·have er:(fr.map λ i:Nat=>(i:Int)).eraseIdx j=(fr.eraseIdx j).map λ i:Nat=>(i:Int):=(Lc _ _ _).symm
    rw [er]
    have em:=wD (H:=H4) (o:=HO.lst (List.map V.int ((fr.eraseIdx j).map λ i:Nat=>(i:Int)))) fti.1 fti.2
    have h0f:mn t ins H0 f=none:=by unfold mn;rw [if_neg (λ z=>z.elim fti.1 fti.2)];exact I.f0
    refine k1 (Lpd.sput s r c) (fr.eraseIdx j) _ _ _ ⟨by rw [em];exact ((I.sm.trans (eS s12)).trans sm4).put h0f,F4.upd fti.1 fti.2,I.ok.step rm rn,λ i hi=>?_,I.f0,by rw [em,aG],λ x hx=>I.fm x (List.mem_of_mem_eraseIdx hx),Nat.le_trans (List.length_eraseIdx_le _ _) I.fl,by rw [em,cA I.cf];exact c4,I.cf⟩
    unfold Lpd.sput
    split
    ·omega
    ·exact I.io i hi
theorem yR {K vs H Q E} (C:tX K) (h:gX K vs H Q E):lJ K { nx:=λ _ H'=>Q .non H',rt:=Q } (start dL vs) H:=by
 obtain ⟨t,ins,L,g,gs,rfl,ca,lim,fl,m1,hg,gl,k0,k1⟩:=h
 obtain ⟨dx,b,sp,k,bs,ss,ks,P⟩:=id ca
 have ml:=lim.m1
 rw [show start dL [V.ref t,V.ref g]=[some (.ref t),some (.ref g),none,none,none,none,none] from rfl]
 (dsimp? [lJ,eQ])
 refine ⟨_,_,_,P.ob,C.cl,C.nb,_,kK b sp k ins,b,rfl,_,.inl (SqL.of P.B),?_⟩
 rw [length_map,P.bl]
 (dsimp? [nB,uE,hE])
 have hgH:=iZ _ _ hg
 refine ⟨_,.inl (SqL.of hgH),?_⟩
 rw [length_map,length_map,gl,Int.toNat_natCast]
 refine ⟨by omega,by omega,Wv (lo:=0) (W:=λ j zs H'=>H'=H/\∃ fr:List Nat,zs=List.map V.int (fr.map λ i:Nat=>(i:Int))/\(∀ x∈fr,x<L.m)/\fr.length<=j) (by rw [sizeLine_eq];omega) ⟨rfl,[],rfl,(λ _ h=>nomatch h),Nat.le_refl _⟩ ?_ ?_⟩
 ·rintro j zs H' hj _ ⟨rfl,fr,rfl,fm,frl⟩
  (dsimp? [iV,rIn,aQ,List.map_cons,List.map_nil,Option.join_some];try simp_arith [iV,rIn,aQ,List.map_cons,List.map_nil,Option.join_some,Int.zero_add])
  refine ⟨_,.inl (SqL.of hgH),rfl,?_,?_⟩
  ·rw [List.all_eq_true]
   intro v hv
   obtain ⟨c,_,rfl⟩:=mem_map.mp hv
   rfl
  ·refine jY (λ _=>⟨fr++[j],by rw [map_append,map_append];rfl,λ x hx=>?_,by rw [length_append];show fr.length+1<=j+1;omega⟩) (λ _=>⟨fr,rfl,fm,by omega⟩)
   rcases mem_append.mp hx with hx | hx
   ·exact fm x hx
   ·rw [mem_singleton.mp hx];exact hj
 ·rintro zs H' ⟨rfl,fr,rfl,fm,frl⟩ f hf
  have s1:=aI.upd (o:=HO.lst (List.map V.int (fr.map λ i:Nat=>(i:Int)))) hf
  have f1:(upd H' f (HO.lst (List.map V.int (fr.map λ i:Nat=>(i:Int))))) f=some (HO.lst (List.map V.int (fr.map λ i:Nat=>(i:Int)))):=aG
  generalize upd H' f (HO.lst (List.map V.int (fr.map λ i:Nat=>(i:Int))))=H1 at s1 f1
  have hg1:=s1 _ _ hgH
  (dsimp? [nC,jX,uE,bQ])
  refine ⟨⟨_,SqL.of hg1⟩,Hh (K:=K) (a:=g) (xs:=List.map V.int (gs.map λ i:Nat=>(i:Int))) (λ i zs H3=>H3=H1/\∃ cs:List Nat,zs=List.map V.int (cs.map λ i:Nat=>(i:Int))/\∀ x∈cs,x<L.n) (by rw [length_map,length_map,sizeLine_eq];omega) ⟨rfl,[],rfl,(λ _ h=>nomatch h)⟩ ?_ ?_ ?_⟩
  ·rintro i zs H3 _ ⟨rfl,_⟩
   exact SqL.of hg1
  ·rintro i x zs H3 hi _ ⟨rfl,cs,rfl,hc⟩
   obtain ⟨y,rfl,hy⟩:=Mc hi
   (dsimp? [nG,aQ,List.map_cons,List.map_nil,Option.join_some])
   by_cases h0:(y:Int)<(L.n:Int)
   ·rw [if_pos h0]
    refine ⟨cs++[y],by rw [map_append,map_append];rfl,λ x hx=>?_⟩
    rcases mem_append.mp hx with hx | hx
    ·exact hc x hx
    ·rw [mem_singleton.mp hx];omega
   ·rw [if_neg h0]
    exact ⟨cs,rfl,hc⟩
  ·rintro zs H3 ⟨rfl,cs,rfl,hc⟩ cl hcl
   have s2:=aI.upd (o:=HO.lst (List.map V.int (cs.map λ i:Nat=>(i:Int)))) hcl
   have c2:(upd H3 cl (HO.lst (List.map V.int (cs.map λ i:Nat=>(i:Int))))) cl=some (HO.lst (List.map V.int (cs.map λ i:Nat=>(i:Int)))):=aG
   have ncf:cl≠f:=λ e=>by rw [e,f1] at hcl;cases hcl
   have nct:cl≠t/\cl≠ins:=⟨(bT (s1 _ _ P.ob) hcl).symm,(bT (s1 _ _ P.hi) hcl).symm⟩
   have nft:f≠t/\f≠ins:=⟨(bT P.ob hf).symm,(bT P.hi hf).symm⟩
   have f2:=s2 _ _ f1
   generalize upd H3 cl (HO.lst (List.map V.int (cs.map λ i:Nat=>(i:Int))))=H2 at s2 c2 f2
   have s12:=s1.trans s2
   have I:CmAt K H' H2 t ins f cl L L.ins0 fr cs:=⟨eS s12,((ca.fresh hf).same s12),Lpd.Okn.start fl,λ i hi=>by show L.n+i<L.n+L.m;omega,hf,uB f2 nft.1 nft.2,fm,frl,uB c2 nct.1 nct.2,ncf⟩
   refine ⟨⟨_,SqL.of c2⟩,mT (K:=K) (a:=cl) (xs:=List.map V.int (cs.map λ i:Nat=>(i:Int))) (g:=aK 4) (D:={ nx:=eG K { nx:=λ _ H'=>Q .non H',rt:=Q },rt:=Q }) (jJV K H' t ins g f cl L cs) ⟨_,_,_,_,_,rfl,I⟩ ?_ ?_ ?_⟩
   ·rintro i σ H4 _ ⟨_,_,_,_,_,_,I4⟩
    exact SqL.of (iZ _ _ I4.hc)
   ·rintro i x σ H4 hi ⟨s,fr4,o4,o5,o6,rfl,I4⟩
    obtain ⟨y,rfl,hy⟩:=Mc hi
    show eH K _ [some (.ref t),some (.ref g),some (.int L.n),some (.ref f),some (.int y),o5,o6] H4
    exact Pr lim I4 (hc y (mem_of_getElem? hy)) (λ H5 sm=>k0 H5 sm) λ s' fr' o5 o6 H5 I5=>⟨s',fr',_,o5,o6,rfl,I5⟩
   ·rintro σ H4 ⟨s,fr4,o4,o5,o6,rfl,I4⟩
    exact Pq C I4.ca.at lim m1 I4.ok I4.io (λ H5 sm=>k0 H5 (I4.sm.trans sm)) λ L2 H5 e sm ca5 ok5 io5=>k1 L2 s H5 e (I4.sm.trans sm) ca5 ok5 io5
noncomputable def kG:List PySem.Str:=["self", "column", "numbers"]
noncomputable def gI (K:W.Frag):Sp:=λ vs H Q _=>∃ t ins L s,∃ o:Option Nat,vs=[.ref t,oV o]/\eZ K H t ins L s/\L.Lim/\L.Okn s/\(∀ c,o=some c->c<L.n+L.m)/\(∀ H',aI H H'->Q (.bl false) H')/\∀ H',aI H H'->UnO L s o->Q (.bl true) H'
noncomputable def gW (K:W.Frag):TS:=(aU (dG (bR (tOp Dz (aB 1) (tC .non))) (bK (tOp Dz (dA (cY K "Corner") "entering" (eA K) [] E0 (aB 0) aN) (tC .non))) cE) (aU (bH (dA (cY K "Corner") "numbers" (dI K) [] E0 (aB 0) (aC (aB 1) aN)) (aK 2)) (bK (tL (tOp iJ (tOp (dU K) (aB 2) (tUn eX (tC (.int 1)))) (tC (.int 0))) (tOp Dz (dA (cY K "Corner") "leaving_by" (eI K) [] E0 (aB 0) (aC (aB 2) aN)) (tC .non))))))
theorem vT {K vs H Q E} (h:gI K vs H Q E):vs.length=2:=by obtain ⟨_,_,_,_,_,rfl,_⟩:=h;rfl
theorem wX {K vs H Q E} (C:tX K) (h:gI K vs H Q E):gW K { nx:=λ _ H'=>Q .non H',rt:=Q } (start kG vs) H:=by
 obtain ⟨t,ins,L,s,o,rfl,ca,lim,ok,hc,k0,k1⟩:=h
 obtain ⟨dx,b,sp,k,bs,ss,ks,P⟩:=id ca
 rw [show start kG [V.ref t,oV o]=[some (.ref t),some (oV o),none] from rfl]
 (dsimp? [gW,dA,Dz];try simp_arith [gW,dA,Dz,if_true])
 cases o with
 | none =>
  rw [if_pos (show oV none=V.non from rfl)]
  refine ⟨_,_,P.ob,rfl,t,ins,L,s,rfl,ca,lim,ok,λ o H1 s1 en=>?_⟩
  cases o with
  | none=>rw [decide_eq_true (show oV none=V.non from rfl)];exact k1 H1 s1 en
  | some c=>rw [decide_eq_false (show ¬ oV (some c)=V.non from λ z=>nomatch z)];exact k0 H1 s1
 | some c =>
  rw [if_neg (show ¬ oV (some c)=V.non from λ z=>nomatch z)]
  refine ⟨_,_,P.ob,rfl,t,ins,L,s,c,rfl,ca,lim,ok,hc c rfl,λ nl H1 s1 hn hn1=>⟨nl,rfl,_,SqL.of hn1,V.int (L.T s L.m (L.cv c)),uS (by rw [length_map];unfold Lpd.numL;rw [aJ,Nat.add_sub_cancel,getElem?_map,cF _ (Nat.lt_succ_self _)];rfl),_,rfl,jY (λ h=>⟨_,_,(P.same s1).ob,rfl,t,ins,L,s,nl,c,rfl,ca.same s1,lim,ok,hn1,λ o H2 s2 lv=>?_⟩) (λ h=>k0 H1 s1)⟩⟩
  cases o with
  | none=>rw [decide_eq_true (show oV none=V.non from rfl)];exact k1 H2 (s1.trans s2) ⟨hc c rfl,h,λ i hi=>lv i (Nat.le_of_lt hi)⟩
  | some r=>rw [decide_eq_false (show ¬ oV (some r)=V.non from λ z=>nomatch z)];exact k0 H2 (s1.trans s2)
noncomputable def mP:List PySem.Str:=["lists", "bits", "guess", "column", "corner"]
structure Kt (H:Hp) (a:Addr) (rps:List Addr) (L:Lpd) (q q':Nat):Prop where
 R:tS H a rps L
 fl:L.fl=false
 m1:1<=L.m
 n1:1<=L.n
 lim:L.Lim
 F:Fit L.m L.n q'
 q9:q<=9000
 st:∀ k,40*2 ^ k<q->40*2 ^ k<=q'
 ba:∀ j k,j<L.n->k<=L.m->BB q (L.a j k)
 bb:∀ k,k<=L.m->BB q (L.be k)
 nn:∀ k,k<L.m->0<=L.be k
structure Tq (K:W.Frag) (H:Hp) (p t ins:Addr) (L L2:Lpd) (s:Nat->Nat) (o:Option Nat):Prop where
 e:L2=L∨L2=L.flip
 hp:H p=some (.tup [.ref t,oV o])
 ca:eZ K H t ins L2 s
 ok:L2.Ok s
 io:iD L2 s
 un:UnO L2 s o
noncomputable def lD (K:W.Frag):Sp:=λ vs H Q _=>∃ a rps L q q',vs=[.ref a]/\Kt H a rps L q q'/\∀ p t ins L2 s o H',aI H H'->Tq K H' p t ins L L2 s o->Q (.ref p) H'
noncomputable def rC (K:W.Frag):TS:=(bK (iX (aC (aB 4) (aC (aB 3) aN))))
noncomputable def rB (K:W.Frag):TS:=(aU (bH (aT (kZ K) [] E0 (aC (aB 4) aN)) (aK 3)) (rC K))
noncomputable def mG (K:W.Frag):TS:=(aU (bH (Fd (cY K "Corner") (fE K) [] E0 (aC (aB 0) aN)) (aK 4)) (rB K))
noncomputable def rD (K:W.Frag):TE:=(aT (oZ K) [] E0 (aC (aB 0) aN))
noncomputable def mF (K:W.Frag):TS:=(bH (tOp cH (tC (.int 2)) (aB 1)) (aK 1))
noncomputable def mE (K:W.Frag):TS:=(aU (dG (Fb (tB (dA (cY K "Corner") "comes_to" (gX K) [] E0 (aB 4) (aC (eQ K (aB 2) "inside") aN))) (tB (dA (cY K "Corner") "ends_with" (gI K) [] E0 (aB 4) (aC (aB 3) aN)))) (bK (iX (aC (aB 4) (aC (aB 3) aN)))) cE) (mF K))
noncomputable def rA (K:W.Frag):TS:=(aU (bH (Fd (cY K "Corner") (fE K) [] E0 (aC (aB 0) aN)) (aK 4)) (mE K))
noncomputable def qZ (K:W.Frag):TS:=(aU (bH (aT (kZ K) [] E0 (aC (aB 2) aN)) (aK 3)) (rA K))
noncomputable def mH (K:W.Frag):TS:=(aU (bH (Fd (cY K "Corner") (fE K) [] E0 (aC (aT (sE K) [] E0 (aC (aB 0) (aC (aB 1) aN))) aN)) (aK 2)) (qZ K))
noncomputable def qY (K:W.Frag):TS:=(aU (xT (bR (tOp iJ (aB 1) (tCB (Ob K) (aC (bO (bQ K (aB 0)) [] (rD K)) aN)))) (mH K)) (mG K))
noncomputable def qE (K:W.Frag):TS:=(aU (bH (tC (.int 40)) (aK 1)) (qY K))
theorem Ee {K vs H Q E} (h:lD K vs H Q E):vs.length=1:=by obtain ⟨_,_,_,_,_,rfl,_⟩:=h;rfl
theorem Kt.same {H H':Hp} {a:Addr} {rps:List Addr} {L:Lpd} {q q':Nat} (h:Kt H a rps L q q') (s:aI H H'):Kt H' a rps L q q':=⟨h.R.same s,h.fl,h.m1,h.n1,h.lim,h.F,h.q9,h.st,h.ba,h.bb,h.nn⟩
theorem Kt.row {H:Hp} {a:Addr} {rps:List Addr} {L:Lpd} {q q':Nat} (h:Kt H a rps L q q') {i:Nat} (hi:i<=L.m):∀ x∈L.rowL i,BB q x:=λ x hx=>by
 rcases Lpd.rowL_mem hx with ⟨j,hj,rfl⟩ | rfl
 ·exact h.ba j i hj hi
 ·exact h.bb i hi
theorem Em {H H1 H2:Hp} {t i:Addr} (s:aI H H1) (ht:H t=none) (hi:H i=none) (m:aI (mn t i H1) (mn t i H2)):aI H H2:=λ b o e=>iZ _ _ (m b o (uB (s b o e) (bT e ht) (bT e hi)))
theorem same_sb {H H1 H2:Hp} {t:Addr} (s:aI H H1) (ht:H t=none) (m:Sb t H1 H2):aI H H2:=λ b o e=>m b o (s b o e) (bT e ht)
theorem vF {K:W.Frag} {G:Hp} {a:Addr} {rps:List Addr} {L:Lpd} {P:Addr->Hp->Prop} (R:tS G a rps L) (lim:L.Lim) (fl:L.fl=false) (k:∀ t ins H',G t=none->G ins=none->aI G H'->eZ K H' t ins L L.ins0->P t H') :
  ∀ (x dx:Addr),G x=none->G dx=none->dx≠x->fE K [.ref x,.ref a] (upd (upd G dx (.own x)) x (.ins (cY K "Corner") dx [])) (λ v H2=>v=.non/\P x H2) E0:=by
 intro t dx ht hdx ne
 have s1:aI G (upd (upd G dx (.own t)) t (.ins (cY K "Corner") dx [])):=(aI.upd hdx).put ht
 refine ⟨t,dx,a,rps,L,rfl,aG,R.same s1,lim,fl,λ ins H' hi b ca=>⟨rfl,k t ins H' ht (s1.free hi) (λ b' o e=>b b' o (s1 b' o e) (bT e ht)) ca⟩⟩
theorem Ru {K:W.Frag} {Q:VK} {H G:Hp} {a:Addr} {rps:List Addr} {L:Lpd} {q q':Nat} {o1 o2 o3 o4:Option V} (I:Kt G a rps L q q') (s:aI H G) (k:∀ p t ins L2 s o H',aI H H'->Tq K H' p t ins L L2 s o->Q (.ref p) H') :
  mG K { nx:=λ _ H'=>Q .non H',rt:=Q } [some (.ref a),o1,o2,o3,o4] G:=by
 (dsimp? [mG,Fd])
 refine vF I.R I.lim I.fl λ t ins H1 ht hi s1 ca=>?_
 (dsimp? [rB])
 refine ⟨t,ins,L,L.ins0,rfl,ca,I.lim,Lpd.Okx.start I.fl I.nn,λ i hi=>by show L.n+i<L.n+L.m;omega,λ o s' H2 sm ca2 ok2 io2 un2=>?_⟩
 (dsimp? [rC])
 refine ⟨sz2,λ p hp=>k p t ins L s' o _ ((s.trans (Em s1 ht hi sm)).trans (aI.upd hp)) ⟨.inl rfl,aG,ca2.same (aI.upd hp),ok2.w,io2,un2⟩⟩
theorem Rv {K:W.Frag} (C:tX K) {D:Be} {H G:Hp} {a:Addr} {rps:List Addr} {L:Lpd} {q q' b:Nat} {o2 o3 o4:Option V} (I:Kt G a rps L q q') (s:aI H G) (b1:1<=b) (bq:b<q) (bq':b<=q') (k:∀ p t ins L2 s o H',aI H H'->Tq K H' p t ins L L2 s o->D.rt (.ref p) H')
  (kn:∀ o2 o3 o4 H',aI H H'->D.nx [some (.ref a),some (.int ((2*b:Nat):Int)),o2,o3,o4] H') :
  mH K D [some (.ref a),some (.int b),o2,o3,o4] G:=by
 have q9:=I.q9
 (dsimp? [mH,Fd])
 refine ⟨a,rps,L,b,rfl,I.R,I.n1,I.F.n1,I.F.m1,by omega,λ i hi x hx=>(I.row hi x hx).mono (by omega),λ l qs L2 H1 s1 R2 rn=>?_⟩
 have lim2:L2.Lim:=by
  have F2:Fit L2.m L2.n q':=by rw [rn.m,rn.n];exact I.F
  exact F2.lim (λ j k hj hk=>(rn.ba j k (by rw [← rn.n];exact hj) (by rw [← rn.m];exact hk)).mono (by omega)) λ k hk=>(rn.bb k (by rw [← rn.m];exact hk)).mono (by omega)
 show ∀ (x dx:Addr),_
 refine vF R2 lim2 rn.fl λ t ins H2 ht hi s2 ca=>?_
 (dsimp? [qZ])
 refine ⟨t,ins,L2,L2.ins0,rfl,ca,lim2,Lpd.Okx.start rn.fl (λ i hi=>rn.nn i (by have:=rn.m;omega) (I.nn i (by have:=rn.m;omega))),λ i hi=>by show L2.n+i<L2.n+L2.m;omega,λ o s' H3 sm ca3 ok3 io3 un3=>?_⟩
 have s03:aI G H3:=Em (s1.trans s2) (s1.free ht) (s1.free hi) sm
 have I3:=I.same s03
 obtain ⟨dx3,b3,sp3,k3,bs3,ss3,ks3,P3⟩:=id ca3
 (dsimp? [rA,Fd])
 refine vF I3.R I3.lim I3.fl λ t2 ins2 H4 ht2 hi2 s4 ca4=>?_
 have P4:=P3.same s4
 obtain ⟨dx4,b4,sp4,k4,bs4,ss4,ks4,PT⟩:=id ca4
 have r4:∀ H',aI H H'->mF K D [some (.ref a),some (.int b),some (.ref t),some (oV o),some (.ref t2)] H':=λ H' s'=>by
  (dsimp? [mF])
  refine ⟨.l (by show (2:Int).natAbs<2 ^ 64;decide),?_⟩
  rw [show (2:Int)*(b:Int)=((2*b:Nat):Int) by omega]
  exact kn _ _ _ H' s'
 have s04:=s.trans s03
 have e1:L2.insL s'=(ofF L.m s').map λ c:Nat=>(c:Int):=by unfold Lpd.insL;rw [rn.m,Uc]
 have hi4:=P4.hi
 rw [e1] at hi4
 have n1:ins≠t2:=bT P3.hi ht2
 have n2:ins≠ins2:=bT P3.hi hi2
 (dsimp? [mE,dA,eQ];try simp_arith [mE,dA,eQ,if_true])
 refine ⟨_,_,PT.ob,rfl,_,_,_,P4.ob,C.cl,C.ni,_,mD b3 sp3 k3 ins,t2,ins2,L,ins,ofF L.m s',rfl,ca4,I3.lim,I3.fl,I3.m1,uB hi4 n1 n2,aJ _ _,λ H5 sm5=>⟨false,rfl,tV (tV (r4 H5 ?_))⟩,λ L3 s3 H5 e5 sm5 ca5 ok5 io5=>⟨true,rfl,Qj ?_⟩⟩
 ·exact Em (s04.trans s4) (s04.free ht2) (s04.free hi2) sm5
 ·have s5:=Em (s04.trans s4) (s04.free ht2) (s04.free hi2) sm5
  obtain ⟨dx5,b5,sp5,k5,bs5,ss5,ks5,P5⟩:=id ca5
  have lim3:L3.Lim/\L3.n=L.n/\L3.m=L.m:=by
   rcases e5 with rfl | rfl
   ·exact ⟨I3.lim,rfl,rfl⟩
   ·exact ⟨I3.lim.flip,rfl,rfl⟩
  refine ⟨_,_,P5.ob,rfl,t2,ins2,L3,s3,o,rfl,ca5,lim3.1,ok5.n,λ c ec=>?_,λ H6 s6=>⟨false,rfl,tV (r4 H6 (s5.trans s6))⟩,λ H6 s6 un=>⟨true,rfl,Qj ⟨sz2,λ p hp=>k p t2 ins2 L3 s3 o _ ((s5.trans s6).trans (aI.upd hp)) ⟨e5,aG,(ca5.same s6).same (aI.upd hp),ok5,io5,un⟩⟩⟩⟩
  subst ec
  have:=un3.1
  rw [rn.n,rn.m] at this
  rw [lim3.2.1,lim3.2.2]
  exact this
theorem Hm {K vs H Q E} (C:tX K) (h:lD K vs H Q E):qE K { nx:=λ _ H'=>Q .non H',rt:=Q } (start mP vs) H:=by
 obtain ⟨a,rps,L,q,q',rfl,I,k⟩:=h
 rw [show start mP [V.ref a]=[some (.ref a),none,none,none,none] from rfl]
 (dsimp? [qE,qY,xT,bO,bQ,Ob])
 have q9:=I.q9
 have rl:=I.R.len
 have ml:=I.F.m1
 refine ⟨λ m σ H3=>∃ (b e:Nat) (o2 o3 o4:Option V),σ=[some (.ref a),some (.int b),o2,o3,o4]/\m=9000 - b/\b=40*2 ^ e/\1<=b/\aI H H3,⟨9000 - 40,40,0,none,none,none,rfl,rfl,rfl,by decide,aI.refl _⟩,?_⟩
 rintro m σ H3 ⟨b,e0,o2,o3,o4,rfl,rfl,eb,b1,s3⟩
 have I3:=I.same s3
 simp only [Lq0,Lq1]
 refine ⟨a,rfl,⟨_,SqL.of I3.R.ha⟩,bX (K:=K) (a:=a) (xs:=List.map V.ref rps) (λ i zs H4=>aI H3 H4/\∃ ls:List Int,zs=List.map V.int ls/\ls.length=i/\∀ l∈ls,l<=q) (by rw [length_map,sizeLine_eq];omega) ⟨aI.refl _,[],rfl,rfl,(λ _ h=>nomatch h)⟩ ?_ ?_ ?_⟩
 ·rintro i zs H4 _ ⟨s4,_⟩
  exact SqL.of (s4 _ _ I3.R.ha)
 ·rintro i x zs H4 hi _ ⟨s4,ls,rfl,ll,lq⟩
  obtain ⟨p,rfl,hp⟩:=bV hi
  obtain ⟨im,hrow⟩:=(I3.R.same s4).inv hp
  (dsimp? [rD])
  refine ⟨p,_,rfl,SqL.of hrow,λ e=>?_,by rw [Lpd.rowL_length];have:=I.F.n1;omega,λ M H5 s5 _ ⟨n,hn,eM⟩=>⟨s4.trans s5,ls++[(M:Int)],by rw [map_append];rfl,by rw [length_append,ll];rfl,λ l hl=>?_⟩⟩
  ·have:=congrArg List.length e
   rw [Lpd.rowL_length] at this
   simp at this
  ·rcases mem_append.mp hl with hl | hl
   ·exact lq l hl
   ·rw [mem_singleton.mp hl,← eM]
    have:=Jd (I.row im n hn)
    omega
 ·rintro zs H4 _ ⟨s4,ls,rfl,ll,lq⟩ p hp
  rw [length_map,rl] at ll
  refine ⟨ls,SqL.of aG,λ e=>by rw [e] at ll;simp at ll,λ M hM hA=>⟨_,rfl,?_⟩⟩
  have s5:=(s3.trans s4).trans (aI.upd (o:=HO.lst (List.map V.int ls)) hp)
  have Mq:=lq M hM
  refine jY (λ h=>⟨λ σ' H'=>∃ o2 o3 o4,σ'=[some (.ref a),some (.int ((2*b:Nat):Int)),o2,o3,o4]/\aI H H',λ σ' H' ⟨o2,o3,o4,e,s'⟩=>⟨9000 - 2*b,by omega,2*b,e0+1,o2,o3,o4,e,rfl,by rw [eb,Nat.pow_succ];omega,by omega,s'⟩,?_⟩) (λ h=>?_)
  ·exact Rv C (I.same s5) s5 b1 (by omega) (by rw [eb];exact I.st e0 (by omega)) k λ o2 o3 o4 H' s'=>⟨o2,o3,o4,rfl,s'⟩
  ·exact Ru (I.same s5) s5 k
noncomputable def Rg:List PySem.Str:=["one", "other"]
noncomputable def rY (K:W.Frag):Sp:=λ vs H Q _=>∃ p q a b c d,vs=[.ref p,.ref q]/\Tw K H p q a b c d/\0<b/\0<c/\BB 9000 (b*c)/\∀ r H',aI H H'->H' r=some (.tup [.int (lo2 (a*d) (b*c)).1,.int (lo2 (a*d) (b*c)).2])->Q (.ref r) H'
noncomputable def Qr (K:W.Frag):TS:=(bK (aT (jQ K) [] E0 (aC (tOp cH (tOp (cN K) (aB 0) (tC (.int 0))) (tOp (cN K) (aB 1) (tC (.int 1)))) (aC (tOp cH (tOp (cN K) (aB 0) (tC (.int 1))) (tOp (cN K) (aB 1) (tC (.int 0)))) aN))))
theorem jJZ {K vs H Q E} (h:rY K vs H Q E):vs.length=2:=by obtain ⟨p,q,a,b,c,d,rfl,_⟩:=h;rfl
theorem rd_over {K vs H Q E} (h:rY K vs H Q E):Qr K { nx:=λ _ H'=>Q .non H',rt:=Q } (start Rg vs) H:=by
 obtain ⟨p,q,a,b,c,d,rfl,⟨hp,hq,ba,bb,bc,bd⟩,b0,c0,b9,k⟩:=h
 rw [show start Rg [V.ref p,V.ref q]=[some (.ref p),some (.ref q)] from rfl]
 (dsimp! [Qr,aB,tC,tOp,rI,cH,bK,aT,aC,aN,cN,List.append_nil])
 refine ⟨_,hp,_,kR,_,hq,_,iI,_,rfl,_,rfl,.b ba bd,_,hp,_,iI,_,hq,_,kR,_,rfl,_,rfl,.b bb bc,?_⟩
 have z:0<b*c:=Int.mul_pos b0 c0
 refine ⟨_,_,rfl,by omega,b9,λ x y r H' s h l=>k r H' s ?_⟩
 obtain ⟨e1,e2⟩:=l.uniq z (cG z)
 rw [← e1,← e2];exact h
noncomputable def jW:List PySem.Str:=["self", "numbers", "told", "number", "column"]
noncomputable def gN (K:W.Frag):Sp:=λ vs H Q _=>∃ t ins L s nl,∃ f:Nat->Int,vs=[.ref t,.ref nl]/\eZ K H t ins L s/\L.Lim/\L.Ok s/\H nl=some (.lst (List.map V.int (ofF (L.m+1) f))) /\
 ∀ l ps H',aI H H'->H l=none->H' l=some (.lst (List.map V.ref ps))->bI K H' ps (ofF L.n (tR L s f L.m))->Q (.ref l) H'
noncomputable def Wo (K:W.Frag) (t nl l:Addr) (L:Lpd) (s:Nat->Nat) (f:Nat->Int) (H0:Hp):Nat->St->Hp->Prop:=λ i σ H3=>∃ o1 o2 ps,σ=[some (.ref t),some (.ref nl),some (.ref l),o1,o2]/\aI H0 H3/\H3 l=some (.lst (List.map V.ref ps))/\bI K H3 ps (ofF L.n (tR L s f i))
noncomputable def pL (K:W.Frag):TS:=(dG (bR (tOp iJ (aB 4) (tCB (gO K) (aC (aB 2) aN)))) (bH (aT (jQ K) [] E0 (aC (aB 3) (aC (dA (cY K "Corner") "bottom" (dX K) [] E0 (aB 0) aN) aN))) (Hy (aB 2) (aB 4) xC)) cE)
noncomputable def kE (K:W.Frag):TG:=(kP K 2 (cT (aK 3) (cT (aK 4) kQ)))
noncomputable def pK (K:W.Frag):TE:=(iX (aC (tC (.int 0)) (aC (tC (.int 1)) aN)))
noncomputable def nL (K:W.Frag):TS:=(aU (bH (bO (bQ K (eQ K (aB 0) "begun")) [] (pK K)) (aK 2)) (aU (jX (nU K (aC (aB 1) (aC (eQ K (aB 0) "inside") aN))) (kE K) (pL K)) (bK (aB 2))))
theorem Bb {K vs H Q E} (h:gN K vs H Q E):vs.length=2:=by obtain ⟨_,_,_,_,_,_,rfl,_⟩:=h;rfl
theorem Zx {D:Int} (h:0<D):lo2 0 D=(0,1):=by
 have:Lo 0 D 0 1:=⟨by decide,by decide,by simp,Nat.le_refl _,by omega⟩
 exact (this.is h).symm
theorem Ov {α:Type} {n i:Nat} {f:Nat->α} {v:α}:(ofF n f).set i v=ofF n λ k=>if k=i then v else f k:=by
 apply List.ext_getElem?
 intro k
 rw [getElem?_set]
 by_cases hk:k<n
 ·rw [cF (λ k=>if k=i then v else f k) hk]
  by_cases e:i=k
  ·rw [if_pos e,if_pos (by rw [aJ];omega),if_pos e.symm]
  ·rw [if_neg e,if_neg (Ne.symm e),cF _ hk]
 ·rw [getElem?_eq_none (l:=ofF n λ k=>if k=i then v else f k) (by rw [aJ];omega)]
  by_cases e:i=k
  ·rw [if_pos e,if_neg (by rw [aJ];omega)]
  ·rw [if_neg e,getElem?_eq_none (by rw [aJ];omega)]
theorem Ol {L:Lpd} {s:Nat->Nat} (ok:L.Ok s) {f:Nat->Int} {i j:Nat} (hi:i<L.m):Lpd.spr (i+1) s f j=if j=s i then f i else Lpd.spr i s f j:=by
 show Lpd.spr i s f j+(if s i=j then f i else 0)=_
 by_cases e:s i=j
 ·rw [if_pos e,if_pos e.symm]
  have:Lpd.spr i s f j=0:=hJ λ k hk=>if_neg λ z=>ok.inj (show k<L.m by omega) hi (by omega) (z.trans e.symm)
  rw [this,Int.zero_add]
 ·rw [if_neg e,if_neg (Ne.symm e),Int.add_zero]
theorem Cq {K vs H Q E} (C:tX K) (h:gN K vs H Q E):nL K { nx:=λ _ H'=>Q .non H',rt:=Q } (start jW vs) H:=by
 obtain ⟨t,ins,L,s,nl,f,rfl,ca,lim,ok,hnl,q⟩:=h
 obtain ⟨dx,b,sp,k,bs,ss,ks,P⟩:=id ca
 have bl:=P.bl
 have n1:=lim.n1
 have m1:=lim.m1
 have D0:=ok.pos
 rw [show start jW [V.ref t,V.ref nl]=[some (.ref t),some (.ref nl),none,none,none] from rfl]
 (dsimp! [nL,eQ,bO,bQ,jX,nU,aU,bH,aK,aB,bK,aC,aN])
 refine ⟨_,_,_,P.ob,C.cl,C.nb,_,kK _ _ _ _,_,rfl,⟨_,SqL.of P.B⟩,bX (K:=K) (a:=b) (xs:=List.map V.ref bs) (λ i zs H3=>aI H H3/\∃ ps,zs=List.map V.ref ps/\bI K H3 ps (ofF i λ _=>((0,1):Int×Int))) ?_ ⟨aI.refl _,[],rfl,trivial⟩ ?_ ?_ ?_⟩
 ·rw [length_map,sizeLine_eq];omega
 ·rintro i zs H3 _ ⟨s3,_⟩
  exact s3.seq (SqL.of P.B)
 ·rintro i x zs H3 hi _ ⟨s3,ps,rfl,hps⟩
  dsimp only [pK,tC,aC,aN,iX,cQ,cR,cP]
  refine ⟨sz2,λ p hp=>⟨s3.trans (aI.upd hp),ps++[p],by rw [map_append];rfl,?_⟩⟩
  rw [cI]
  exact bI.snoc (hps.same (aI.upd hp)) (SqT.of aG)
 ·rintro zs H3 _ ⟨s3,ps,rfl,hps⟩ l hl
  rw [length_map,bl] at hps
  have s4:=s3.trans (aI.upd (o:=HO.lst (List.map V.ref ps)) hl)
  have hp4:=hps.same (aI.upd (o:=HO.lst (List.map V.ref ps)) hl)
  have hl4:(upd H3 l (.lst (List.map V.ref ps))) l=some (.lst (List.map V.ref ps)):=aG
  have hlH:=s3.free hl
  generalize upd H3 l (.lst (List.map V.ref ps))=H4 at s4 hp4 hl4
  have il:(L.insL s).length=L.m:=by unfold Lpd.insL;rw [aJ]
  refine ⟨_,_,_,s4 _ _ P.ob,C.cl,C.ni,_,mD _ _ _ _,_,rfl,⟨_,s4.seq (SqL.of hnl)⟩,⟨_,s4.seq (SqL.of P.hi)⟩,jJd (K:=K) (a:=nl) (b:=ins) (xs:=List.map V.int (ofF (L.m+1) f)) (ys:=List.map V.int (L.insL s)) (g:=kE K) (D:={ nx:=bK (aB 2) { nx:=λ _ H'=>Q .non H',rt:=Q },rt:=Q }) L.m (Wo K t nl l L s f H) ?_ ?_ ?_ ?_ ?_ ?_ ?_⟩
  ·refine ⟨none,none,ps,rfl,s4,hl4,?_⟩
   have:(ofF L.n λ _=>((0,1):Int×Int))=ofF L.n (tR L s f 0):=fN λ j _=>by
    unfold tR
    show _=lo2 0 _
    rw [Zx D0]
   rw [← this];exact hp4
  ·rintro i σ H5 _ ⟨_,_,_,_,s5,_⟩
   exact ⟨s5.seq (SqL.of hnl),s5.seq (SqL.of P.hi)⟩
  ·rw [length_map,aJ];omega
  ·rw [length_map,il];exact Nat.le_refl _
  ·rw [length_map,length_map,il];exact .inr (Nat.le_refl _)
  ·rintro i x y p σ H5 hx hy hi ⟨o1,o2,ps5,rfl,s5,hl5,hp5⟩ hp
   obtain ⟨v,rfl,hv⟩:=cU hx
   obtain ⟨w,rfl,hw⟩:=cU hy
   obtain ⟨_,rfl⟩:=dB hv
   obtain ⟨_,rfl⟩:=dB hw
   have s6:=aI.upd (o:=HO.tup [.int (f i),.int (s i)]) hp
   have psl:ps5.length=L.n:=by rw [hp5.length,aJ]
   (dsimp! [kE,pL,dA,bH,aK,aB,tOp,rI0,iJ,dG,bR,cE,aT,aC,aN,tCB,gO,kP,cT,kQ,List.append_nil,decide_eq_true_eq])
   refine ⟨_,SqT.of aG,rfl,_,_,rfl,_,_,rfl,rfl,?_⟩
   have hl6:=s6 _ _ hl5
   have hp6:=hp5.same s6
   have s06:=s5.trans s6
   generalize upd H5 p (.tup [.int (f i),.int (s i)])=H6 at s06 hl6 hp6
   refine ⟨_,.inl (SqL.of hl6),?_⟩
   rw [length_map,psl]
   refine ⟨_,rfl,jY (λ hlt=>?_) (λ hlt=>?_)⟩
   ·have hsn:s i<L.n:=by omega
    refine ⟨_,_,s06 _ _ P.ob,rfl,_,_,_,_,rfl,ca.same s06,_,_,rfl,Int.ne_of_gt D0,lim.bD s ok.n,λ x y r H7 s7 hr7 lo=>?_⟩
    (dsimp! [Hy,xC,aB])
    refine ⟨_,s7 _ _ hl6,_,by rw [length_map,psl];exact Es (by omega) (by omega),?_⟩
    rw [Int.toNat_natCast]
    refine ⟨_,_,ps5.set (s i) r,rfl,(s06.trans s7).put hlH,by rw [aG,List.map_set],?_⟩
    have e:ofF L.n (tR L s f (i+1))=(ofF L.n (tR L s f i)).set (s i) (x,y):=by
     rw [Ov]
     refine fN λ j hj=>?_
     unfold tR
     rw [Ol ok hi]
     by_cases e:j=s i
     ·rw [if_pos e,if_pos e,lo.is D0]
     ·rw [if_neg e,if_neg e]
    rw [e]
    exact bI.off (s7 _ _ hl6) (bI.set (SqT.of hr7) (s i) (hp6.same s7))
   ·refine ⟨_,_,ps5,rfl,s06,hl6,?_⟩
    have e:ofF L.n (tR L s f (i+1))=ofF L.n (tR L s f i):=fN λ j hj=>by
     unfold tR
     rw [Ol ok hi,if_neg (by omega)]
    rw [e];exact hp6
  ·rintro σ H5 ⟨o1,o2,ps5,rfl,s5,hl5,hp5⟩
   (dsimp! [aB,bK])
   exact q l ps5 H5 s5 hlH hl5 hp5
noncomputable def vK:List PySem.Str:=["self"]
noncomputable def oC (K:W.Frag):Sp:=λ vs H Q _=>∃ t ins L s,vs=[.ref t]/\eZ K H t ins L s/\L.Lim/\L.Ok s /\
 ∀ l ps H',aI H H'->H l=none->H' l=some (.lst (List.map V.ref ps))->bI K H' ps (ofF L.n (tR L s (λ i=>L.T s i L.be) L.m))->Q (.ref l) H'
noncomputable def vD (K:W.Frag):TS:=(bK (dA (cY K "Corner") "spread" (gN K) [] E0 (aB 0) (aC (aT (fU K) [] E0 (aC (eQ K (aB 0) "kept") (aC (tUn eX (tC (.int 1))) aN))) aN)))
theorem Iy {K vs H Q E} (h:oC K vs H Q E):vs.length=1:=by obtain ⟨_,_,_,_,rfl,_⟩:=h;rfl
theorem atI_end {l:List Int} {x:Int} (h:l[l.length - 1]?=some x):atI (List.map V.int l) (-1)=some (.int x):=uS (by rw [length_map,getElem?_map,h];rfl)
theorem Nj {K vs H Q E} (C:tX K) (h:oC K vs H Q E):vD K { nx:=λ _ H'=>Q .non H',rt:=Q } (start vK vs) H:=by
 obtain ⟨t,ins,L,s,rfl,ca,lim,ok,q⟩:=h
 obtain ⟨dx,b,sp,k,bs,ss,ks,P⟩:=id ca
 have m1:=lim.m1
 rw [show start vK [V.ref t]=[some (.ref t)] from rfl]
 (dsimp! [vD,eQ,dA,aB,tC,tUn,rU,eX,bK,aT,aC,aN,List.append_nil])
 refine ⟨_,_,P.ob,rfl,_,_,_,P.ob,C.cl,C.nk,_,gM _ _ _ _,_,_,_,_,L.m+1,rfl,SqL.of P.Kp,P.Ks,by rw [aJ];omega,λ r hr=>?_,λ nl H1 s1 hn hnl=>?_⟩
 ·obtain ⟨i,hi,rfl⟩:=gG hr
  rw [eU (L.keptL_last s i)]
  exact atI_end (by rw [Lpd.keptL_length];exact L.keptL_last s i)
 ·have e:(ofF (L.m+1) (L.keptL s)).map (λ r=>r.getD (L.m+1) 0)=ofF (L.m+1) λ i=>L.T s i L.be:=by
   unfold ofF
   rw [List.map_map]
   exact map_congr_left λ i _=>eU (L.keptL_last s i)
  rw [e] at hnl
  refine ⟨_,_,_,_,_,_,rfl,ca.same s1,lim,ok,hnl,λ l ps H2 s2 hl hl2 hp=>q l ps H2 (s1.trans s2) (s1.free hl) hl2 hp⟩
noncomputable def mR:List PySem.Str:=["self", "column", "told"]
noncomputable def lF (K:W.Frag):Sp:=λ vs H Q _=>∃ t ins L s,∃ c:Nat,vs=[.ref t,.int c]/\eZ K H t ins L s/\L.Lim/\L.Ok s/\c<L.n+L.m/\(∀ i,i<L.m->s i≠c) /\
 ∀ l ps H',aI H H'->H l=none->H' l=some (.lst (List.map V.ref ps))->bI K H' ps (ofF L.n (gY L s c))->Q (.ref l) H'
noncomputable def rG (K:W.Frag):TE:=(tUn eX (aB 0))
noncomputable def qH (K:W.Frag):TS:=(aU (bH (dA (cY K "Corner") "spread" (gN K) [] E0 (aB 0) (aC (bO (bQ K (dA (cY K "Corner") "numbers" (dI K) [] E0 (aB 0) (aC (aB 1) aN))) [] (rG K)) aN)) (aK 2)) (aU (dG (bR (tOp iJ (aB 1) (tCB (gO K) (aC (aB 2) aN)))) (bH (iX (aC (tC (.int 1)) (aC (tC (.int 1)) aN))) (Hy (aB 2) (aB 1) xC)) cE) (bK (aB 2))))
theorem Eg {K vs H Q E} (h:lF K vs H Q E):vs.length=2:=by obtain ⟨_,_,_,_,_,rfl,_⟩:=h;rfl
theorem lo2_one {D:Int} (h:0<D):lo2 D D=(1,1):=by
 have:Lo D D 1 1:=⟨by decide,by decide,by rw [Int.mul_comm],by omega,by omega⟩
 exact (this.is h).symm
theorem Ho {K vs H Q E} (C:tX K) (h:lF K vs H Q E):qH K { nx:=λ _ H'=>Q .non H',rt:=Q } (start mR vs) H:=by
 obtain ⟨t,ins,L,s,c,rfl,ca,lim,ok,hc,hout,q⟩:=h
 obtain ⟨dx,b,sp,k,bs,ss,ks,P⟩:=id ca
 have m1:=lim.m1
 have D0:=ok.pos
 rw [show start mR [V.ref t,V.int c]=[some (.ref t),some (.int c),none] from rfl]
 (dsimp! [qH,dA,bO,bQ,aU,bH,aK,aB,tC,tOp,rI0,iJ,bK,dG,bR,cE,aC,aN,iX,tCB,gO,List.append_nil,decide_eq_true_eq])
 refine ⟨_,_,P.ob,rfl,_,_,P.ob,rfl,_,_,_,_,_,rfl,ca,lim,ok.n,hc,λ nl H1 s1 hn hnl=>?_⟩
 have nll:(L.numL s c).length=L.m+1:=by unfold Lpd.numL;rw [aJ]
 refine ⟨_,rfl,⟨_,SqL.of hnl⟩,bX (K:=K) (a:=nl) (xs:=List.map V.int (L.numL s c)) (WEq H1 λ i zs=>zs=List.map V.int (ofF i λ i=>- L.T s i (L.cv c))) ?_ ⟨rfl,rfl⟩ ?_ ?_ ?_⟩
 ·rw [length_map,nll,sizeLine_eq];omega
 ·rintro i zs H3 _ ⟨rfl,_⟩
  exact SqL.of hnl
 ·rintro i x zs H3 hi _ ⟨rfl,rfl⟩
  obtain ⟨v,rfl,hv⟩:=cU hi
  obtain ⟨_,rfl⟩:=dB hv
  (dsimp! [rG,aB,tUn,rU,eX])
  refine ⟨rfl,?_⟩
  show _=List.map V.int (ofF (i+1) λ i=>- L.T s i (L.cv c))
  rw [cI,map_append];rfl
 ·rintro zs H3 _ ⟨rfl,rfl⟩ l1 hl1
  rw [length_map,nll]
  have s2:=s1.trans (aI.upd (o:=HO.lst (List.map V.int (ofF (L.m+1) λ i=>- L.T s i (L.cv c)))) hl1)
  refine ⟨_,_,_,_,_,λ i=>- L.T s i (L.cv c),rfl,ca.same s2,lim,ok,aG,λ l ps H4 s4 hl hl4 hps=>?_⟩
  have psl:ps.length=L.n:=by rw [hps.length,aJ]
  have s04:=s2.trans s4
  have hlH:=s2.free hl
  refine ⟨_,rfl,_,.inl (SqL.of hl4),?_⟩
  rw [length_map,psl]
  have same:∀ j,j≠c->gY L s c j=tR L s (λ i=>- L.T s i (L.cv c)) L.m j:=λ j hj=>by
   unfold gY tR
   rw [if_neg hj,Int.add_zero]
  refine jY (λ hlt=>⟨sz2,λ p hp=>?_⟩) (λ hlt=>?_)
  ·(dsimp! [Hy,xC,aB,bK])
   have s5:=aI.upd (o:=HO.tup [.int 1,.int 1]) hp
   refine ⟨_,s5 _ _ hl4,_,by rw [length_map,psl];exact Es (by omega) (by omega),?_⟩
   rw [Int.toNat_natCast]
   refine q l (ps.set c p) _ ((s04.trans s5).put hlH) hlH (by rw [aG,List.map_set]) ?_
   have e:ofF L.n (gY L s c)=(ofF L.n (tR L s (λ i=>- L.T s i (L.cv c)) L.m)).set c (1,1):=by
    rw [Ov]
    refine fN λ j hj=>?_
    by_cases e:j=c
    ·rw [if_pos e]
     unfold gY
     have:Lpd.spr L.m s (λ i=>- L.T s i (L.cv c)) j=0:=hJ λ i hi=>if_neg λ z=>hout i hi (z.trans e)
     rw [this,if_pos e,Int.zero_add,lo2_one D0]
    ·rw [if_neg e,same j e]
   rw [e]
   exact bI.off (s5 _ _ hl4) (bI.set (g:=((1,1):Int×Int)) (SqT.of aG) c (hps.same s5))
  ·refine q l ps H4 s04 hlH hl4 ?_
   have e:ofF L.n (gY L s c)=ofF L.n (tR L s (λ i=>- L.T s i (L.cv c)) L.m):=fN λ j hj=>same j (by omega)
   rw [e];exact hps
noncomputable def pY:List PySem.Str:=["self"]
noncomputable def oB (K:W.Frag):Sp:=λ vs H Q _=>∃ t ins L s,vs=[.ref t]/\eZ K H t ins L s/\L.Lim/\L.Ok s /\
 ∀ l ps H',aI H H'->H l=none->H' l=some (.lst (List.map V.ref ps))->bI K H' ps (ofF L.m λ k=>lo2 (L.T s L.m (e1 k)) (L.D s))->Q (.ref l) H'
noncomputable def vP (K:W.Frag):TE:=(aT (jQ K) [] E0 (aC (aB 0) (aC (dA (cY K "Corner") "bottom" (dX K) [] E0 (aB 1) aN) aN)))
noncomputable def vC (K:W.Frag):TS:=(bK (bO (bQ K (tSl (rS K) (tOp (dU K) (eQ K (aB 0) "kept") (tUn eX (tC (.int 1)))) gR (oP (tCB (gO K) (aC (eQ K (aB 0) "inside") aN))))) [0] (vP K)))
theorem Ix {K vs H Q E} (h:oB K vs H Q E):vs.length=1:=by obtain ⟨_,_,_,_,rfl,_⟩:=h;rfl
theorem Ni {K vs H Q E} (C:tX K) (h:oB K vs H Q E):vC K { nx:=λ _ H'=>Q .non H',rt:=Q } (start pY vs) H:=by
 obtain ⟨t,ins,L,s,rfl,ca,lim,ok,q⟩:=h
 obtain ⟨dx,b,sp,k,bs,ss,ks,P⟩:=id ca
 have m1:=lim.m1
 have D0:=ok.pos
 have il:(L.insL s).length=L.m:=by unfold Lpd.insL;rw [aJ]
 obtain ⟨p,_,atp,hrow⟩:=P.last
 rw [show start pY [V.ref t]=[some (.ref t)] from rfl]
 (dsimp! [vC,eQ,bO,bQ,aB,tC,tOp,tUn,rU,eX,bK,aC,aN,tCB,gO,tSl,oP,gR,rS,dU])
 refine ⟨_,_,_,P.ob,C.cl,C.nk,_,gM _ _ _ _,_,rfl,_,SqL.of P.Kp,_,atp,_,_,_,P.ob,C.cl,C.ni,_,mD _ _ _ _,_,rfl,_,.inl (SqL.of P.hi),?_⟩
 rw [length_map,il]
 refine ⟨_,rfl,_,SqL.of hrow,λ l1 hl1=>?_⟩
 rw [Yn (by rw [Lpd.keptL_length];omega),Hd]
 have s1:=aI.upd (o:=HO.lst (List.map V.int (ofF L.m λ k=>L.T s L.m (e1 k)))) hl1
 have h1:(upd H l1 (.lst (List.map V.int (ofF L.m λ k=>L.T s L.m (e1 k))))) l1=some (.lst (List.map V.int (ofF L.m λ k=>L.T s L.m (e1 k)))):=aG
 generalize upd H l1 (.lst (List.map V.int (ofF L.m λ k=>L.T s L.m (e1 k))))=H1 at s1 h1
 refine ⟨⟨_,SqL.of h1⟩,bX (K:=K) (a:=l1) (xs:=List.map V.int (ofF L.m λ k=>L.T s L.m (e1 k))) (λ i zs H3=>aI H1 H3/\∃ ps,zs=List.map V.ref ps/\bI K H3 ps (ofF i λ k=>lo2 (L.T s L.m (e1 k)) (L.D s))) ?_ ⟨aI.refl _,[],rfl,trivial⟩ ?_ ?_ ?_⟩
 ·rw [length_map,aJ,sizeLine_eq];omega
 ·rintro i zs H3 _ ⟨s3,_⟩
  exact s3.seq (SqL.of h1)
 ·rintro i x zs H3 hi _ ⟨s3,ps,rfl,hps⟩
  obtain ⟨v,rfl,hv⟩:=cU hi
  obtain ⟨him,rfl⟩:=dB hv
  (dsimp! [vP,dA,aQ,List.map_cons,List.map_nil,Option.join_some,aB,aT,aC,aN,List.append_nil])
  refine ⟨_,_,(s1.trans s3) _ _ P.ob,rfl,_,_,_,_,rfl,ca.same (s1.trans s3),_,_,rfl,Int.ne_of_gt D0,lim.bD s ok.n,λ x y r H7 s7 hr7 lo=>⟨s3.trans s7,ps++[r],by rw [map_append];rfl,?_⟩⟩
  rw [cI]
  refine bI.snoc (hps.same s7) ?_
  rw [← lo.is D0]
  exact SqT.of hr7
 ·rintro zs H3 _ ⟨s3,ps,rfl,hps⟩ l hl
  rw [length_map,aJ] at hps
  exact q l ps _ ((s1.trans s3).trans (aI.upd hl)) ((s1.trans s3).free hl) aG (hps.same (aI.upd hl))
noncomputable def uJ:List PySem.Str:=["rows", "bounds", "goal", "bound", "made", "limits", "aims", "lists", "ended", "xs"]
structure BeIn (K:W.Frag) (H:Hp) (a b c:Addr) (rps bps gps:List Addr) (frs:List (List (Int×Int))) (fb fg:List (Int×Int)):Prop where
 ha:H a=some (.lst (List.map V.ref rps))
 hr:gZ K H rps frs
 hb:H b=some (.lst (List.map V.ref bps))
 hbs:bI K H bps fb
 hg:H c=some (.lst (List.map V.ref gps))
 hgs:bI K H gps fg
 gb:∀ f∈fb,G9 f
noncomputable def wordO:Option Nat->Str
 | none=>"best"
 | some _=>"endless"
noncomputable def wayO (fl:Bool) (frs:List (List (Int×Int))) (fb fg:List (Int×Int)) (s:Nat->Nat):Option Nat->List (Int×Int)
 | none=>ofF frs.length λ k=>fov (ftm (lo2 ((aO fl frs fb fg).T s frs.length (e1 k)) ((aO fl frs fb fg).D s)) (whF (frs.getD k []))) (whF fg)
 | some c=>ofF fg.length (gY (aO fl frs fb fg) s c)
structure Xr (K:W.Frag) (H':Hp) (v:Addr) (fl:Bool) (frs:List (List (Int×Int))) (fb fg:List (Int×Int)) (s:Nat->Nat) (o:Option Nat) (x w:Addr) (xp wp:List Addr):Prop where
 ok:(aO fl frs fb fg).Ok s
 io:iD (aO fl frs fb fg) s
 un:UnO (aO fl frs fb fg) s o
 hv:H' v=some (.tup [.str (wordO o),.ref x,.ref w])
 hx:H' x=some (.lst (List.map V.ref xp))
 hxs:bI K H' xp (ofF fg.length λ j=>fov (tR (aO fl frs fb fg) s (λ i=>(aO fl frs fb fg).T s i (aO fl frs fb fg).be) frs.length j) (whF (bnF frs fb)))
 hw:H' w=some (.lst (List.map V.ref wp))
 hws:bI K H' wp (wayO fl frs fb fg s o)
noncomputable def El (K:W.Frag):Sp:=λ vs H Q _=>∃ a b c rps bps gps frs fb fg,vs=[.ref a,.ref b,.ref c]/\BeIn K H a b c rps bps gps frs fb fg /\
 (∀ f∈fb,0<=f.1)/\BeO frs fb fg/\1<=frs.length/\1<=fg.length/\∀ v fl s o x w xp wp H',aI H H'->H x=none->H w=none->Xr K H' v fl frs fb fg s o x w xp wp->Q (.ref v) H'
noncomputable def iv_best (a b c:Addr) (H0:Hp) (fb:List (Int×Int)):Nat->St->Hp->Prop:=λ i σ H3=>∃ o1,σ=[some (.ref a),some (.ref b),some (.ref c),o1,none,none,none,none,none,none]/\aI H0 H3/\∀ f∈fb.take i,0<=f.1
noncomputable def Jr (K:W.Frag):TE:=(aT (rY K) [] E0 (aC (aT (uL K) [] E0 (aC (aB 0) (aC (tOp (cN K) (aB 1) (tC (.int 0))) aN))) (aC (tOp (cN K) (aB 2) (tC (.int 0))) aN)))
noncomputable def Jm (K:W.Frag):TG:=(kP K 2 (cT (aK 0) (cT (aK 1) kQ)))
noncomputable def oH (K:W.Frag):TS:=(aU (dG (bR (tOp Ny (tOp (cN K) (aB 8) (tC (.int 1))) (tC .non))) (bK (iX (aC (tC (.str "endless")) (aC (aB 9) (aC (dA (cY K "Corner") "ways" (lF K) [] E0 (tOp (cN K) (aB 8) (tC (.int 0))) (aC (tOp (cN K) (aB 8) (tC (.int 1))) aN)) aN))))) cE) (bK (iX (aC (tC (.str "best")) (aC (aB 9) (aC (fY (nU K (aC (dA (cY K "Corner") "ys" (oB K) [] E0 (tOp (cN K) (aB 8) (tC (.int 0))) aN) (aC (aB 4) aN))) 2 [6] (Jm K) (Jr K)) aN))))))
noncomputable def Jq (K:W.Frag):TE:=(aT (rY K) [] E0 (aC (aB 0) (aC (tOp (cN K) (aB 1) (tC (.int 0))) aN)))
noncomputable def Cb (K:W.Frag):TS:=(aU (bH (bO (bQ K (dA (cY K "Corner") "xs" (oC K) [] E0 (tOp (cN K) (aB 8) (tC (.int 0))) aN)) [5] (Jq K)) (aK 9)) (oH K))
noncomputable def Jj (K:W.Frag):TS:=(aU (bH (aT (lD K) [] E0 (aC (tOp rT (aB 7) (pM (aC (tOp rT (aT (iA K) [] E0 (aC (tOp (cN K) (aB 6) (tC (.int 1))) aN)) (pM (aC (tC (.int 0)) aN))) aN))) aN)) (aK 8)) (Cb K))
noncomputable def Jp (K:W.Frag):TE:=(tOp rT (tOp (cN K) (aB 0) (tC (.int 1))) (pM (aC (aB 1) aN)))
noncomputable def Jl (K:W.Frag):TG:=(kP K 2 (cT (aK 0) (cT (aK 1) kQ)))
noncomputable def Ca (K:W.Frag):TS:=(aU (bH (fY (nU K (aC (aB 4) (aC (tOp (cN K) (aB 5) (tC (.int 1))) aN))) 2 [] (Jl K) (Jp K)) (aK 7)) (Jj K))
noncomputable def Jo (K:W.Frag):TE:=(aT (uL K) [] E0 (aC (aB 0) (aC (tOp (cN K) (aB 1) (tC (.int 0))) aN)))
noncomputable def Jk (K:W.Frag):TG:=(kP K 2 (cT (aK 0) (cT (aK 1) kQ)))
noncomputable def Ji (K:W.Frag):TS:=(aU (bH (aT (qM K) [] E0 (aC (fY (nU K (aC (aB 1) (aC (aB 4) aN))) 2 [] (Jk K) (Jo K)) aN)) (aK 5)) (aU (bH (aT (qM K) [] E0 (aC (aB 2) aN)) (aK 6)) (Ca K)))
noncomputable def Jn (K:W.Frag):TE:=(aT (qM K) [] E0 (aC (aB 0) aN))
noncomputable def Bz (K:W.Frag):TS:=(aU (bH (bO (bQ K (aB 0)) [] (Jn K)) (aK 4)) (Ji K))
noncomputable def Vj (K:W.Frag):TS:=(dG (tB (aT (zT K) [] E0 (aC (aB 3) (aC (iX (aC (tC (.int 0)) (aC (tC (.int 1)) aN))) aN)))) lN cE)
noncomputable def Qs (K:W.Frag):TS:=(aU (jX (bQ K (aB 1)) (aK 3) (Vj K)) (Bz K))
theorem jJX {K vs H Q E} (h:El K vs H Q E):vs.length=3:=by obtain ⟨_,_,_,_,_,_,_,_,_,rfl,_⟩:=h;rfl
structure Oc (K:W.Frag) (G:Hp) (md lv lf ll av af ag:Addr) (ms:List Addr) (frs:List (List (Int×Int))) (fb fg:List (Int×Int)):Prop where
 hmd:G md=some (.lst (List.map V.ref ms))
 hm:tW G ms frs
 hlv:G lv=some (.tup [.ref lf,.ref ll])
 hlf:G lf=some (.tup [.int (whF (bnF frs fb)).1,.int (whF (bnF frs fb)).2])
 hll:G ll=some (.lst (List.map V.int (whL (bnF frs fb))))
 hav:G av=some (.tup [.ref af,.ref ag])
 haf:G af=some (.tup [.int (whF fg).1,.int (whF fg).2])
 hag:G ag=some (.lst (List.map V.int (whL fg)))
theorem Oc.same {K:W.Frag} {G G':Hp} {md lv lf ll av af ag:Addr} {ms:List Addr} {frs:List (List (Int×Int))} {fb fg:List (Int×Int)} (h:Oc K G md lv lf ll av af ag ms frs fb fg) (s:aI G G'):Oc K G' md lv lf ll av af ag ms frs fb fg :=
 ⟨s _ _ h.hmd,h.hm.same s,s _ _ h.hlv,s _ _ h.hlf,s _ _ h.hll,s _ _ h.hav,s _ _ h.haf,s _ _ h.hag⟩
theorem Ow (l:List Int):ofF l.length (λ j=>l.getD j 0)=l:=by
 refine List.ext_getElem? λ j=>?_
 by_cases h:j<l.length
 ·rw [cF _ h,zY h]
 ·rw [getElem?_eq_none (by rw [aJ];omega),getElem?_eq_none (by omega)]
theorem rowL_of {e:Bool} {frs:List (List (Int×Int))} {fb fg:List (Int×Int)} (B:BeO frs fb fg) {i:Nat} {r:List (Int×Int)} (er:frs[i]?=some r):(aO e frs fb fg).rowL i=whL r++[(whL (bnF frs fb)).getD i 0]:=by
 unfold Lpd.rowL
 have hl:=(List.getElem?_eq_some_iff.mp er).1
 have eq:frs.getD i []=r:=by rw [getD_eq_getElem?_getD,er];rfl
 have e1:ofF fg.length (λ j=>(aO e frs fb fg).a j i)=whL r:=by
  rw [show (λ j=>(aO e frs fb fg).a j i)=λ j=>(whL r).getD j 0 from funext λ j=>by
   show (if i<frs.length then (whL (frs.getD i [])).getD j 0 else _)=_
   rw [if_pos hl,eq],← B.lr r (mem_of_getElem? er),← gA]
  exact Ow _
 show ofF fg.length (λ j=>(aO e frs fb fg).a j i)++_=_
 rw [e1];rfl
theorem Vn {e:Bool} {frs:List (List (Int×Int))} {fb fg:List (Int×Int)} (B:BeO frs fb fg):(aO e frs fb fg).rowL frs.length=((whL fg).map λ x=>-x)++[0]:=by
 unfold Lpd.rowL
 have e1:ofF fg.length (λ j=>(aO e frs fb fg).a j frs.length)=(whL fg).map λ x=>-x:=by
  conv=>rhs;rw [← Ow (whL fg),gA]
  unfold ofF
  rw [List.map_map]
  refine map_congr_left λ j _=>?_
  show (if frs.length<frs.length then _ else _)=_
  rw [if_neg (Nat.lt_irrefl _)];rfl
 have e2:(whL (bnF frs fb)).getD frs.length 0=0:=by
  rw [getD_eq_getElem?_getD,getElem?_eq_none (by rw [gA,fD B.lb];exact Nat.le_refl _)];rfl
 show ofF fg.length (λ j=>(aO e frs fb fg).a j frs.length)++[(whL (bnF frs fb)).getD frs.length 0]=_
 rw [e1,e2]
theorem Qz {frs:List (List (Int×Int))} {fb fg:List (Int×Int)} (B:BeO frs fb fg):∀ f∈bnF frs fb,G9 f:=λ f hf=>by
 have bnl:=fD B.lb
 obtain ⟨i,hi⟩:=getElem?_of_mem hf
 have hil:i<frs.length:=by have:=(List.getElem?_eq_some_iff.mp hi).1;omega
 have hib:i<fb.length:=by rw [B.lb];exact hil
 have e1:=getElem?_eq_getElem hil
 have e2:=getElem?_eq_getElem hib
 rw [sC e2 e1] at hi
 obtain rfl:=Option.some.inj hi
 have wp:=fG λ f hf=>(B.gr _ (getElem_mem hil) f hf).1
 have tb:=B.tb _ (getElem_mem hib) _ (getElem_mem hil)
 have z:=Int.mul_pos (B.gb _ (getElem_mem hib)).1 wp.2
 have lo:=cG (t:=(fb[i]).1*(whF frs[i]).1) z
 exact ⟨lo.pos,(lo.bb tb.2 tb.1).1,(lo.bb tb.2 tb.1).2⟩
theorem Sf {K:W.Frag} {Q:VK} {H G:Hp} {a b c md lv lf ll av af ag:Addr} {ms:List Addr} {frs:List (List (Int×Int))} {fb fg:List (Int×Int)} (B:BeO frs fb fg) (M:Oc K G md lv lf ll av af ag ms frs fb fg) (s0:aI H G) {p t ins:Addr} {L2:Lpd} {s:Nat->Nat} {o:Option Nat} (O:Tq K G p t ins (aO false frs fb fg) L2 s o)
  (q:∀ v fl s o x w xp wp H',aI H H'->H x=none->H w=none->Xr K H' v fl frs fb fg s o x w xp wp->Q (.ref v) H') {o3 o7 o9:Option V} :
  Cb K { nx:=λ _ H'=>Q .non H',rt:=Q } [some (.ref a),some (.ref b),some (.ref c),o3,some (.ref md),some (.ref lv),some (.ref av),o7,some (.ref p),o9] G:=by
 obtain ⟨fl,e2⟩:∃ fl,L2=aO fl frs fb fg:=by
  rcases O.e with e | e
  ·exact ⟨false,e⟩
  ·exact ⟨true,e⟩
 subst e2
 have ok:=O.ok
 have io:=O.io
 have un:=O.un
 have ca15:=O.ca
 have hp0:=O.hp
 have gbn:=Qz B
 have lim:=B.lim fl
 have m1:frs.length<=100:=lim.m1
 have n1:fg.length<=100:=lim.n1
 have msl:=M.hm.length
 have D0:=ok.pos
 obtain ⟨dx5,b5,sp5,k5,bs5,ss5,ks5,P⟩:=id ca15
 have wb:=fG λ f hf=>(gbn f hf).1
 have wg:=fG λ f hf=>(B.gg f hf).1
 (dsimp? [Cb,dA,bO,bQ])
 refine ⟨_,SqT.of hp0,_,kR,_,rfl,_,_,P.ob,rfl,_,_,_,_,rfl,ca15,lim,ok,λ xl xps H16 s16 hxl hxl16 hxs=>?_⟩
 have s016:=s16
 have xpl:xps.length=fg.length:=by rw [hxs.length,aJ];rfl
 have sbb:∀ j,BB 20000 (Lpd.spr (aO fl frs fb fg).m s (λ i=>(aO fl frs fb fg).T s i (aO fl frs fb fg).be) j):=spr_bb ok λ i hi=>lim.bb s i ok.n (by omega)
 refine ⟨_,rfl,⟨_,SqL.of hxl16⟩,bX (K:=K) (a:=xl) (xs:=List.map V.ref xps) (λ i zs H17=>aI H16 H17/\∃ ps,zs=List.map V.ref ps/\bI K H17 ps (ofF i λ j=>fov (tR (aO fl frs fb fg) s (λ i=>(aO fl frs fb fg).T s i (aO fl frs fb fg).be) frs.length j) (whF (bnF frs fb)))) ?_ ⟨aI.refl _,[],rfl,trivial⟩ ?_ ?_ ?_⟩
 ·rw [length_map,xpl,sizeLine_eq];omega
 ·rintro i zs H17 _ ⟨s17,_⟩
  exact s17.seq (SqL.of hxl16)
 ·rintro i x zs H17 hi _ ⟨s17,ps,rfl,hps⟩
  obtain ⟨p,rfl,hp⟩:=bV hi
  obtain ⟨f,ef,hF⟩:=hxs.get hp
  obtain ⟨hin,rfl⟩:=dB ef
  have lo:=cG (t:=Lpd.spr (aO fl frs fb fg).m s (λ i=>(aO fl frs fb fg).T s i (aO fl frs fb fg).be) i) D0
  have lbb:=lo.bb (sbb i) ((lim.bD s ok.n).mono (show 9000<=20000 by decide))
  have lle:(lo2 (Lpd.spr (aO fl frs fb fg).m s (λ i=>(aO fl frs fb fg).T s i (aO fl frs fb fg).be) i) ((aO fl frs fb fg).D s)).2<=(aO fl frs fb fg).D s:=by have h1:=lo.by_;have h2:=lo.pos;omega
  (dsimp? [Jq,aQ,List.map_cons,List.map_nil,Option.join_some])
  refine ⟨_,SqT.of ((s016.trans s17) _ _ M.hlv),_,kR,_,_,_,_,_,_,rfl,⟨s17.tup hF,SqT.of ((s016.trans s17) _ _ M.hlf),lbb.1,lbb.2,B.wb.1,B.wb.2⟩,lo.pos,wb.1,wR (B.ox fl s ok.n) (Int.le_of_lt lo.pos) lle (Int.le_of_lt wb.1),λ r H18 s18 hr=>⟨s17.trans s18,ps++[r],by rw [map_append];rfl,?_⟩⟩
  rw [cI]
  exact bI.snoc (hps.same s18) (SqT.of hr)
 ·rintro zs H17 _ ⟨s17,xp,rfl,hxp⟩ xv hxv
  rw [length_map,xpl] at hxp
  have s18:=s17.trans (aI.upd (o:=HO.lst (List.map V.ref xp)) hxv)
  have hxp18:=hxp.same (aI.upd (o:=HO.lst (List.map V.ref xp)) hxv)
  have hxv18:(upd H17 xv (.lst (List.map V.ref xp))) xv=some (.lst (List.map V.ref xp)):=aG
  generalize upd H17 xv (.lst (List.map V.ref xp))=H18 at s18 hxp18 hxv18
  have hxvH:H xv=none:=((s0.trans s016).trans s17).free hxv
  clear s17 hxp hxv
  have s018:=s016.trans s18
  have ca18:=ca15.same (s16.trans s18)
  have P18:=P.same (s16.trans s18)
  (dsimp? [oH,Ny,dA])
  refine ⟨_,SqT.of ((s16.trans s18) _ _ hp0),_,iI,?_⟩
  cases o with
  | some c =>
   (dsimp? [oH];try simp_arith [oH,oV,reduceCtorEq,decide_false,Bool.not_false,if_true])
   refine ⟨_,SqT.of ((s16.trans s18) _ _ hp0),_,kR,_,rfl,_,_,P18.ob,rfl,_,SqT.of ((s16.trans s18) _ _ hp0),_,iI,_,_,_,_,_,rfl,ca18,lim,ok,un.1,λ i hi=>Lpd.out un.2.1 hi,λ wl wp H19 s19 hwl hwl19 hws=>⟨sz3,λ v hv=>?_⟩⟩
   have s20:=aI.upd (o:=HO.tup [.str "endless",.ref xv,.ref wl]) hv
   exact q v fl s (some c) xv wl xp wp _ (((s0.trans s018).trans s19).trans s20) hxvH ((s0.trans s018).free hwl) ⟨ok,io,un,aG,s20 _ _ (s19 _ _ hxv18),(hxp18.same s19).same s20,s20 _ _ hwl19,hws.same s20⟩
  | none =>
   (dsimp? [oH,fY,nU];try simp_arith [oH,oV,decide_true,Bool.not_true,Bool.false_eq_true,if_false,fY,nU])
   refine ⟨_,SqT.of ((s16.trans s18) _ _ hp0),_,kR,?_⟩
   refine ⟨_,_,P18.ob,rfl,_,_,_,_,rfl,ca18,lim,ok,λ yl yps H19 s19 hyl hyl19 hys=>?_⟩
   have ypl:yps.length=frs.length:=by rw [hys.length,aJ];rfl
   have s019:=s018.trans s19
   refine ⟨_,rfl,⟨_,SqL.of hyl19⟩,⟨_,SqL.of (s019 _ _ M.hmd)⟩,lV (K:=K) (a:=yl) (b:=md) (xs:=List.map V.ref yps) (ys:=List.map V.ref ms) (λ i zs H20=>aI H19 H20/\∃ ps,zs=List.map V.ref ps/\bI K H20 ps (ofF i λ k=>fov (ftm (lo2 ((aO fl frs fb fg).T s frs.length (e1 k)) ((aO fl frs fb fg).D s)) (whF (frs.getD k []))) (whF fg))) ?_ ?_ ⟨aI.refl _,[],rfl,trivial⟩ ?_ ?_ ?_⟩
   ·rw [length_map,ypl,sizeLine_eq];omega
   ·rw [length_map,length_map,ypl,msl]
   ·rintro i zs H20 _ ⟨s20,_⟩
    exact ⟨s20.seq (SqL.of hyl19),s20.seq (SqL.of (s019 _ _ M.hmd))⟩
   ·rintro i x y p zs H20 hx hy _ ⟨s20,ps,rfl,hps⟩ hp os ho
    obtain ⟨py,rfl,hpy⟩:=bV hx
    obtain ⟨pm,rfl,hpm⟩:=bV hy
    obtain ⟨f,ef,hF⟩:=hys.get hpy
    obtain ⟨him,rfl⟩:=dB ef
    obtain ⟨r,rf,rl2,er,hv,hrf,hrl⟩:=M.hm.get hpm
    have hrm:=mem_of_getElem? er
    have erd:frs.getD i []=r:=by rw [getD_eq_getElem?_getD,er];rfl
    obtain ⟨o2,o3,rfl⟩:∃ o1 o2,os=[o1,o2]:=by
     match os,ho with
     | [o1,o2],_=>exact ⟨o1,o2,rfl⟩
    have s21:=s20.trans (aI.upd (o:=HO.tup [.ref py,.ref pm]) hp)
    have w:=fG λ f hf=>(B.gr r hrm f hf).1
    have him':i<frs.length:=him
    obtain ⟨oy1,oy2⟩:=B.oy fl s ok.n r hrm
    have oy2:=oy2 i him'
    have lo:=cG (t:=(aO fl frs fb fg).T s frs.length (e1 i)) D0
    have lbb:=lo.bb (lim.bk s frs.length i ok.n (Nat.le_refl _) (Nat.le_of_lt him')) ((lim.bD s ok.n).mono (show 9000<=20000 by decide))
    have lle:(lo2 ((aO fl frs fb fg).T s frs.length (e1 i)) ((aO fl frs fb fg).D s)).2<=(aO fl frs fb fg).D s:=by have h1:=lo.by_;have h2:=lo.pos;omega
    (dsimp? [Jm,Jr,aQ,List.map_cons,List.map_nil,Option.join_some])
    refine ⟨_,SqT.of aG,rfl,_,_,rfl,_,_,rfl,rfl,⟨[some (.ref py),some (.ref pm)],rfl,rfl⟩,_,rfl,_,SqT.of ((s019.trans s21) _ _ hv),_,kR,?_⟩
    have b1:BB 9000 ((aO fl frs fb fg).D s*(whF r).2):=oy1.of_le (by
     rw [Int.natAbs_mul ((aO fl frs fb fg).D s*(whF r).2)]
     exact Nat.le_mul_of_pos_right _ (by omega))
    have b2:=wR b1 (Int.le_of_lt lo.pos) lle (Int.le_of_lt w.2)
    have z2:=Int.mul_pos lo.pos w.2
    have lo3:=cG (t:=(lo2 ((aO fl frs fb fg).T s frs.length (e1 i)) ((aO fl frs fb fg).D s)).1*(whF r).1) z2
    have le3:=lo2_le (t:=(lo2 ((aO fl frs fb fg).T s frs.length (e1 i)) ((aO fl frs fb fg).D s)).1*(whF r).1) z2
    have b4:BB 20000 ((lo2 ((aO fl frs fb fg).T s frs.length (e1 i)) ((aO fl frs fb fg).D s)).1*(whF r).1):=oy2.of_le (by
     rw [Int.natAbs_mul,Int.natAbs_mul]
     exact Nat.mul_le_mul lo.bx (Nat.le_refl _))
    have bb3:=lo3.bb b4 (b2.mono (show 9000<=20000 by decide))
    refine ⟨_,_,_,_,_,_,rfl,⟨s21.tup hF,SqT.of ((s019.trans s21) _ _ hrf),lbb.1,lbb.2,(B.wr r hrm).1,(B.wr r hrm).2⟩,lo.pos,w.2,b2,λ u H22 s22 hu=>?_⟩
    have b5:BB 9000 ((lo2 ((aO fl frs fb fg).T s frs.length (e1 i)) ((aO fl frs fb fg).D s)).2*(whF r).2*(whF fg).1):=wR oy1 (Int.le_of_lt z2) (Int.mul_le_mul_of_nonneg_right lle (Int.le_of_lt w.2)) (Int.le_of_lt wg.1)
    refine ⟨_,SqT.of ((s019.trans (s21.trans s22)) _ _ M.hav),_,kR,_,_,_,_,_,_,rfl,⟨SqT.of hu,SqT.of ((s019.trans (s21.trans s22)) _ _ M.haf),bb3.1,bb3.2,B.wg.1,B.wg.2⟩,lo3.pos,wg.1,wR b5 (Int.le_of_lt lo3.pos) le3 (Int.le_of_lt wg.1),λ z H23 s23 hz=>⟨s21.trans (s22.trans s23),ps++[z],by rw [map_append];rfl,?_⟩⟩
    rw [cI]
    refine bI.snoc (((hps.same (aI.upd hp)).same s22).same s23) ?_
    rw [erd]
    exact SqT.of hz
   ·rintro zs H20 _ ⟨s20,wp,rfl,hwp⟩ wl hwl
    rw [length_map,ypl] at hwp
    refine ⟨sz3,λ v hv=>?_⟩
    have s21:=(aI.upd (o:=HO.lst (List.map V.ref wp)) hwl).trans (aI.upd (o:=HO.tup [.str "best",.ref xv,.ref wl]) hv)
    exact q v fl s none xv wl xp wp _ (((s0.trans s019).trans s20).trans s21) hxvH (((s0.trans s019).trans s20).free hwl) ⟨ok,io,un,aG,s21 _ _ ((s19.trans s20) _ _ hxv18),(hxp18.same (s19.trans s20)).same s21,aI.upd hv _ _ aG,hwp.same s21⟩
theorem Se {K:W.Frag} {Q:VK} {H G:Hp} {a b c md lv lf ll av af ag:Addr} {ms:List Addr} {frs:List (List (Int×Int))} {fb fg:List (Int×Int)} (B:BeO frs fb fg) (al:∀ f∈fb,0<=f.1) (hm1:1<=frs.length) (hn1:1<=fg.length) (M:Oc K G md lv lf ll av af ag ms frs fb fg) (s0:aI H G)
  (q:∀ v fl s o x w xp wp H',aI H H'->H x=none->H w=none->Xr K H' v fl frs fb fg s o x w xp wp->Q (.ref v) H') {o3 o7 o8 o9:Option V} :
  Ca K { nx:=λ _ H'=>Q .non H',rt:=Q } [some (.ref a),some (.ref b),some (.ref c),o3,some (.ref md),some (.ref lv),some (.ref av),o7,o8,o9] G:=by
 have lim:=B.lim false
 have m1:frs.length<=100:=lim.m1
 have n1:fg.length<=100:=lim.n1
 have msl:=M.hm.length
 have bnl:=fD B.lb
 have wl:(whL (bnF frs fb)).length=frs.length:=by rw [gA,bnl]
 (dsimp? [Ca,fY,nU])
 refine ⟨_,SqT.of M.hlv,_,iI,_,rfl,⟨_,SqL.of M.hmd⟩,⟨_,SqL.of M.hll⟩,lV (K:=K) (a:=md) (b:=ll) (xs:=List.map V.ref ms) (ys:=List.map V.int (whL (bnF frs fb))) (λ i zs H6=>aI G H6/\∃ ls,zs=List.map V.ref ls/\bJ H6 ls (ofF i (aO false frs fb fg).rowL)) ?_ ?_ ⟨aI.refl _,[],rfl,trivial⟩ ?_ ?_ ?_⟩
 ·rw [length_map,sizeLine_eq,msl];omega
 ·rw [length_map,length_map,msl,wl]
 ·rintro i zs H6 _ ⟨s6,_⟩
  exact ⟨s6.seq (SqL.of M.hmd),s6.seq (SqL.of M.hll)⟩
 ·rintro i x y p zs H6 hx hy _ ⟨s6,ls,rfl,hls⟩ hp os ho
  obtain ⟨pm,rfl,hpm⟩:=bV hx
  obtain ⟨v,rfl,hv⟩:=cU hy
  obtain ⟨r,rf,rl,er,hv2,hrf,hrl⟩:=M.hm.get hpm
  obtain ⟨o2,o3,rfl⟩:∃ o1 o2,os=[o1,o2]:=by
   match os,ho with
   | [o1,o2],_=>exact ⟨o1,o2,rfl⟩
  have hrm:=mem_of_getElem? er
  have s7:=s6.trans (aI.upd (o:=HO.tup [.ref pm,.int v]) hp)
  (dsimp? [Jl,Jp,rT,aQ,List.map_cons,List.map_nil,Option.join_some])
  refine ⟨_,SqT.of aG,rfl,_,_,rfl,_,_,rfl,rfl,⟨[some (.ref pm),some (.int v)],rfl,rfl⟩,_,rfl,_,SqT.of (s7 _ _ hv2),_,iI,?_⟩
  refine ⟨sz1,λ l2 hl2=>⟨_,rfl,_,aI.upd hl2 _ _ (s7 _ _ hrl),_,aG,by rw [length_map,gA,B.lr r hrm,sizeLine_eq];show fg.length+1<=_;omega,λ l3 hl3=>?_⟩⟩
  refine ⟨(s7.trans (aI.upd hl2)).trans (aI.upd hl3),ls++[l3],by rw [map_append];rfl,?_⟩
  rw [cI]
  refine bJ.snoc (((hls.same (aI.upd hp)).same (aI.upd hl2)).same (aI.upd hl3)) ?_
  rw [aG,rowL_of B er,eU hv,map_append];rfl
 ·rintro zs H6 _ ⟨s6,ls,rfl,hls⟩ l7 hl7
  rw [length_map,msl] at hls
  have s7:=s6.trans (aI.upd (o:=HO.lst (List.map V.ref ls)) hl7)
  have hls7:=hls.same (aI.upd (o:=HO.lst (List.map V.ref ls)) hl7)
  have hl77:(upd H6 l7 (.lst (List.map V.ref ls))) l7=some (.lst (List.map V.ref ls)):=aG
  generalize upd H6 l7 (.lst (List.map V.ref ls))=H7 at s7 hls7 hl77
  have lsl:ls.length=frs.length:=by rw [hls7.length,aJ]
  (dsimp? [Jj,rT])
  refine ⟨_,SqT.of (s7 _ _ M.hav),_,iI,_,_,rfl,SqL.of (s7 _ _ M.hag),by rw [gA];omega,λ lt H8 s8 _ hlt=>⟨sz1,λ l0 hl0=>⟨_,rfl,_,aI.upd hl0 _ _ hlt,_,aG,by rw [length_map,length_map,gA,sizeLine_eq];show fg.length+1<=_;omega,λ lg hlg=>⟨sz1,λ l1 hl1=>?_⟩⟩⟩⟩
  have s9:=((s7.trans s8).trans (aI.upd (o:=HO.lst [.int 0]) hl0)).trans (aI.upd (o:=HO.lst (List.map V.int ((whL fg).map λ x=>-x)++[.int 0])) hlg)
  have s79:=(s8.trans (aI.upd (o:=HO.lst [.int 0]) hl0)).trans (aI.upd (o:=HO.lst (List.map V.int ((whL fg).map λ x=>-x)++[.int 0])) hlg)
  have hlg9:(upd (upd H8 l0 (.lst [.int 0])) lg (.lst (List.map V.int ((whL fg).map λ x=>-x)++[.int 0]))) lg=some (.lst (List.map V.int ((aO false frs fb fg).rowL frs.length))):=by rw [aG,Vn B,map_append];rfl
  generalize upd (upd H8 l0 (.lst [.int 0])) lg (.lst (List.map V.int ((whL fg).map λ x=>-x)++[.int 0]))=H9 at s9 s79 hlg9 hl1
  refine ⟨_,aI.upd hl1 _ _ (s79 _ _ hl77),_,aG,by rw [length_map,lsl,sizeLine_eq];show frs.length+1<=_;omega,λ l2 hl2=>?_⟩
  have s10:=(aI.upd (o:=HO.lst [.ref lg]) hl1).trans (aI.upd (o:=HO.lst (List.map V.ref ls++[.ref lg])) hl2)
  have R:tS (upd (upd H9 l1 (.lst [.ref lg])) l2 (.lst (List.map V.ref ls++[.ref lg]))) l2 (ls++[lg]) (aO false frs fb fg):=by
   refine ⟨by rw [aG,map_append];rfl,?_⟩
   show bJ _ _ (ofF (frs.length+1) _)
   rw [cI]
   exact bJ.snoc ((hls7.same s79).same s10) (s10 _ _ hlg9)
  generalize upd (upd H9 l1 (.lst [.ref lg])) l2 (.lst (List.map V.ref ls++[.ref lg]))=H10 at s10 R
  obtain ⟨q0,q1,F,q9,st,f1,f2⟩:=B.fit
  have I:Kt H10 l2 (ls++[lg]) (aO false frs fb fg) q0 q1:=⟨R,rfl,hm1,hn1,lim,F,q9,st,λ j k _ _=>f1 j k,λ k _=>f2 k,λ i _=>Ri (λ f hf=>(Qz B f hf).1) (Tl B al) i⟩
  exact ⟨l2,_,_,_,_,rfl,I,λ p t ins L2 s o H11 s11 O=>Sf B (M.same ((s9.trans s10).trans s11)) (s0.trans ((s9.trans s10).trans s11)) O q⟩
theorem rd_best {K vs H Q E} (h:El K vs H Q E):Qs K { nx:=λ _ H'=>Q .non H',rt:=Q } (start uJ vs) H:=by
 obtain ⟨a,b,c,rps,bps,gps,frs,fb,fg,rfl,I,qn,B,hm1,hn1,q⟩:=h
 have bpl:=I.hbs.length
 rw [show start uJ [V.ref a,V.ref b,V.ref c]=[some (.ref a),some (.ref b),some (.ref c),none,none,none,none,none,none,none] from rfl]
 (dsimp! [Qs,jX,bQ,aU,aK,aB])
 refine ⟨⟨_,SqL.of I.hb⟩,mT (K:=K) (a:=b) (xs:=List.map V.ref bps) (g:=aK 3) (D:={ nx:=Bz K { nx:=λ _ H'=>Q .non H',rt:=Q },rt:=Q }) (iv_best a b c H fb) ?_ ?_ ?_ ?_⟩
 ·exact ⟨none,rfl,aI.refl _,(λ _ h=>nomatch h)⟩
 ·rintro i σ H3 _ ⟨_,_,s3,_⟩
  exact s3.seq (SqL.of I.hb)
 ·rintro i x σ H3 hi ⟨o1,rfl,s3,al⟩
  obtain ⟨p,rfl,hp⟩:=bV hi
  obtain ⟨f,ef,hF⟩:=I.hbs.get hp
  have hm:=mem_of_getElem? ef
  have gf:=I.gb f hm
  have one:BB 20000 (1:Int):=by show (1:Int).natAbs<2 ^ 20000;exact Nat.one_lt_two_pow (by decide)
  have zer:BB 20000 (0:Int):=by show (0:Int).natAbs<2 ^ 20000;exact Nat.two_pow_pos _
  (dsimp! [lN,aK,aB,tC,dG,tB,cE,aT,aC,aN,iX,lN,List.append_nil])
  refine ⟨sz2,λ z hz=>?_⟩
  have s4:=s3.trans (aI.upd (o:=HO.tup [.int 0,.int 1]) hz)
  refine ⟨_,_,_,_,_,_,rfl,⟨s4.tup hF,SqT.of aG,gf.2.1,gf.2.2.mono (by decide),zer,one⟩,_,rfl,jY (λ hn=>?_) (λ hn=>?_)⟩
  ·have:=qn f hm;simp only [decide_eq_true_eq,Int.mul_one,Int.zero_mul] at hn;omega
  ·refine ⟨_,rfl,s4,λ g hg=>?_⟩
   rw [dN ef] at hg
   rcases mem_append.mp hg with hg | hg
   ·exact al g hg
   ·rw [mem_singleton.mp hg];simp only [decide_eq_true_eq,Int.mul_one,Int.zero_mul] at hn;omega
 ·rintro σ H3 ⟨o1,rfl,s3,al⟩
  rw [length_map,bpl,take_length] at al
  have rpl:=I.hr.length
  have m1:frs.length<=100:=(B.lim false).m1
  have n1:fg.length<=100:=(B.lim false).n1
  (dsimp? [Bz,bO,bQ])
  refine ⟨⟨_,s3.seq (SqL.of I.ha)⟩,bX (K:=K) (a:=a) (xs:=List.map V.ref rps) (λ i zs H4=>aI H H4/\∃ ms,zs=List.map V.ref ms/\tW H4 ms (frs.take i)) ?_ ⟨s3,[],rfl,trivial⟩ ?_ ?_ ?_⟩
  ·rw [length_map,sizeLine_eq];omega
  ·rintro i zs H4 _ ⟨s4,_⟩
   exact s4.seq (SqL.of I.ha)
  ·rintro i x zs H4 hi _ ⟨s4,ms,rfl,hms⟩
   obtain ⟨p,rfl,hp⟩:=bV hi
   obtain ⟨r,qs,er,hrow,hfr⟩:=I.hr.get hp
   have hrm:=mem_of_getElem? er
   (dsimp! [Jn,aB,aT,aC,aN,List.append_nil])
   refine ⟨_,_,_,rfl,s4.seq (SqL.of hrow),hfr.same s4,B.gr r hrm,by rw [B.lr r hrm];omega,B.cr r hrm,λ v f l H5 s5 hv hf hl=>⟨s4.trans s5,ms++[v],by rw [map_append];rfl,?_⟩⟩
   rw [dN er]
   exact tW.append (show tW H5 [v] [r] from ⟨⟨f,l,hv,hf,hl⟩,trivial⟩) (hms.same s5)
  ·rintro zs H4 _ ⟨s4,ms,rfl,hms⟩ md hmd
   rw [length_map,rpl,take_length] at hms
   have s5:=s4.trans (aI.upd (o:=HO.lst (List.map V.ref ms)) hmd)
   have hm5:=hms.same (aI.upd (o:=HO.lst (List.map V.ref ms)) hmd)
   have hmd5:(upd H4 md (.lst (List.map V.ref ms))) md=some (.lst (List.map V.ref ms)):=aG
   generalize upd H4 md (.lst (List.map V.ref ms))=H5 at s5 hm5 hmd5
   clear s4 hms hmd s3
   have msl:=hm5.length
   (dsimp? [Ji,fY,nU])
   refine ⟨⟨_,s5.seq (SqL.of I.hb)⟩,⟨_,SqL.of hmd5⟩,lV (K:=K) (a:=b) (b:=md) (xs:=List.map V.ref bps) (ys:=List.map V.ref ms) (λ i zs H6=>aI H5 H6/\∃ ts,zs=List.map V.ref ts/\bI K H6 ts ((bnF frs fb).take i)) ?_ ?_ ⟨aI.refl _,[],rfl,trivial⟩ ?_ ?_ ?_⟩
   ·rw [length_map,sizeLine_eq,bpl,B.lb];omega
   ·rw [length_map,length_map,bpl,B.lb,msl]
   ·rintro i zs H6 _ ⟨s6,_⟩
    exact ⟨(s5.trans s6).seq (SqL.of I.hb),s6.seq (SqL.of hmd5)⟩
   ·rintro i x y p zs H6 hx hy _ ⟨s6,ts,rfl,hts⟩ hp os ho
    obtain ⟨pb,rfl,hpb⟩:=bV hx
    obtain ⟨pm,rfl,hpm⟩:=bV hy
    obtain ⟨f,ef,hF⟩:=I.hbs.get hpb
    obtain ⟨r,rf,rl,er,hv,hrf,hrl⟩:=hm5.get hpm
    obtain ⟨o2,o3,rfl⟩:∃ o1 o2,os=[o1,o2]:=by
     match os,ho with
     | [o1,o2],_=>exact ⟨o1,o2,rfl⟩
    have hrm:=mem_of_getElem? er
    have hfm:=mem_of_getElem? ef
    have gf:=B.gb f hfm
    have s7:=s6.trans (aI.upd (o:=HO.tup [.ref pb,.ref pm]) hp)
    have wp:=fG λ f hf=>(B.gr r hrm f hf).1
    (dsimp? [Jk,Jo])
    refine ⟨_,SqT.of aG,rfl,_,_,rfl,_,_,rfl,rfl,⟨[some (.ref pb),some (.ref pm)],rfl,rfl⟩,_,rfl,_,SqT.of (s7 _ _ hv),_,kR,?_⟩
    refine ⟨_,_,_,_,_,_,rfl,⟨(s5.trans s7).tup hF,SqT.of (s7 _ _ hrf),gf.2.1,gf.2.2.mono (by decide),(B.wr r hrm).1,(B.wr r hrm).2⟩,gf.1,wp.2,(B.tb f hfm r hrm).1,λ t H8 s8 ht=>⟨s7.trans s8,ts++[t],by rw [map_append];rfl,?_⟩⟩
    rw [dN (sC ef er)]
    exact bI.snoc ((hts.same (aI.upd hp)).same s8) (SqT.of ht)
   ·rintro zs H6 _ ⟨s6,ts,rfl,hts⟩ tl htl
    have bnl:=fD B.lb
    rw [length_map,bpl,B.lb,← bnl,take_length] at hts
    have s7:=s6.trans (aI.upd (o:=HO.lst (List.map V.ref ts)) htl)
    have hts7:=hts.same (aI.upd (o:=HO.lst (List.map V.ref ts)) htl)
    have htl7:(upd H6 tl (.lst (List.map V.ref ts))) tl=some (.lst (List.map V.ref ts)):=aG
    generalize upd H6 tl (.lst (List.map V.ref ts))=H7 at s7 hts7 htl7
    clear s6 hts htl
    have gbn:=Qz B
    refine ⟨_,_,_,rfl,SqL.of htl7,hts7,gbn,by omega,B.cb,λ lv lf ll H8 s8 hlv hlf hll=>?_⟩
    have s08:=s5.trans (s7.trans s8)
    refine ⟨_,_,_,rfl,s08.seq (SqL.of I.hg),I.hgs.same s08,B.gg,by omega,B.cg,λ av af al' H9 s9 hav haf hal=>?_⟩
    exact Se B al hm1 hn1 ⟨s9 _ _ (s8 _ _ (s7 _ _ hmd5)),hm5.same (s7.trans (s8.trans s9)),s9 _ _ hlv,s9 _ _ hlf,s9 _ _ hll,hav,haf,hal⟩ (s08.trans s9) q
noncomputable def Gj:List PySem.Str:=["fractions", "total", "fraction"]
noncomputable def wH (K:W.Frag):Sp:=λ vs H Q _=>∃ l ps n X M,vs=[.ref l]/\SqL K H l (List.map V.ref ps)/\bI K H ps (ofF n X)/\0<M/\BB 4000 M/\(∀ k,k<n->0<(X k).2/\0<=(X k).1/\(X k).2∣M)/\(rsm n λ k=>va (X k))<=1 /\
 ∀ x y p H',aI H H'->H' p=some (.tup [.int x,.int y])->0<y->0<=x->y∣M->va (x,y)=(rsm n λ k=>va (X k))->Q (.ref p) H'
noncomputable def Wn (l:Addr) (H0:Hp) (M:Int) (X:Nat->Int×Int):Nat->St->Hp->Prop:=λ i σ H3=>∃ t x y o,σ=[some (.ref l),some (.ref t),o]/\aI H0 H3/\H3 t=some (.tup [.int x,.int y])/\0<y/\0<=x/\y∣M/\va (x,y)=(rsm i λ k=>va (X k))
noncomputable def Dc (K:W.Frag):TS:=(bH (aT (zF K) [] E0 (aC (aB 1) (aC (aB 2) aN))) (aK 1))
noncomputable def Ft (K:W.Frag):TS:=(aU (bH (iX (aC (tC (.int 0)) (aC (tC (.int 1)) aN))) (aK 1)) (aU (jX (bQ K (aB 0)) (aK 2) (Dc K)) (bK (aB 1))))
theorem Sv {K vs H Q E} (h:wH K vs H Q E):vs.length=1:=by obtain ⟨_,_,_,_,_,rfl,_⟩:=h;rfl
theorem gT {n:Nat} {x y:Int} (h:BB n y) (h0:0<=x) (h1:x<=y):BB n x:=h.of_le (by omega)
theorem Vr {K vs H Q E} (h:wH K vs H Q E):Ft K { nx:=λ _ H'=>Q .non H',rt:=Q } (start Gj vs) H:=by
 obtain ⟨l,ps,n,X,M,rfl,hl,hf,M0,bM,hX,le1,q⟩:=h
 have hpl:ps.length=n:=by rw [hf.length,aJ]
 have v0:∀ k,k<n->0<=va (X k):=λ k hk=>oG (hX k hk).1 (hX k hk).2.1
 rw [show start Gj [V.ref l]=[some (.ref l),none,none] from rfl]
 (dsimp? [Ft,jX,bQ])
 refine ⟨sz2,λ t ht=>⟨⟨_,(aI.upd ht).seq hl⟩,mT (K:=K) (a:=l) (xs:=List.map V.ref ps) (g:=aK 2) (D:={ nx:=bK (aB 1) { nx:=λ _ H'=>Q .non H',rt:=Q },rt:=Q }) (Wn l H M X) ?_ ?_ ?_ ?_⟩⟩
 ·exact ⟨t,0,1,none,rfl,aI.upd ht,aG,by decide,by decide,Int.one_dvd _,zC⟩
 ·rintro i σ H3 _ ⟨_,_,_,_,_,s3,_⟩
  exact s3.seq hl
 ·rintro i x σ H3 hi ⟨t,x,y,o,rfl,s3,hT,y0,x0,dM,e⟩
  obtain ⟨p,rfl,hp⟩:=bV hi
  obtain ⟨f,ef,hF⟩:=(hf.same s3).get hp
  obtain ⟨hin,rfl⟩:=dB ef
  obtain ⟨f2,f1,fM⟩:=hX i hin
  have m1:=zV (f:=λ k=>va (X k)) (i:=i) (n:=n) (by omega) v0
  have m2:=zV (f:=λ k=>va (X k)) (i:=i+1) (n:=n) (by omega) v0
  have m3:rsm (i+1) (λ k=>va (X k))=rsm i (λ k=>va (X k))+va (X i):=rfl
  have m4:=pE (f:=λ k=>va (X k)) (n:=i) λ k hk=>v0 k (by omega)
  have xy:x<=y:=Bf (f:=(x,y)) y0 (by rw [e];grind)
  have ff:(X i).1<=(X i).2:=Bf f2 (by grind)
  have by4:=xZ bM M0 dM
  have bf4:=xZ bM M0 fM
  have z:=Int.mul_pos y0 f2
  (dsimp? [Dc])
  refine ⟨_,_,_,_,_,_,rfl,⟨SqT.of hT,hF,(gT by4 x0 xy).mono (by decide),by4.mono (by decide),(gT bf4 f1 ff).mono (by decide),bf4.mono (by decide)⟩,y0,f2,(by4.mul bf4).mono (by decide),λ r H4 s4 hr=>?_⟩
  refine ⟨r,_,_,_,rfl,s3.trans s4,hr,(cG z).pos,sP z (Int.add_nonneg (Int.mul_nonneg x0 (Int.le_of_lt f2)) (Int.mul_nonneg f1 (Int.le_of_lt y0))),sum_dvd (f:=(x,y)) y0 f2 dM fM,?_⟩
  show va (lo2 (x*(X i).2+(X i).1*y) (y*(X i).2))=_
  rw [m3,← e]
  exact Xu (f:=(x,y)) y0 f2
 ·rintro σ H3 ⟨t,x,y,o,rfl,s3,hT,y0,x0,dM,e⟩
  (dsimp! [aB,tC,tOp,rI0,rNe,fH,bK,bR])
  rw [length_map,hpl] at e
  exact q x y t H3 s3 hT y0 x0 dM e
noncomputable def Mm:List PySem.Str:=["one", "other"]
noncomputable def zS (K:W.Frag):Sp:=λ vs H Q _=>∃ p q a b c d,vs=[.ref p,.ref q]/\Tw K H p q a b c d/\0<b/\0<d/\BB 9000 (b*d)/\∀ r H',aI H H'->H' r=some (.tup [.int (lo2 (a*d - c*b) (b*d)).1,.int (lo2 (a*d - c*b) (b*d)).2])->Q (.ref r) H'
noncomputable def Lk (K:W.Frag):TS:=(bK (aT (jQ K) [] E0 (aC (tOp kH (tOp cH (tOp (cN K) (aB 0) (tC (.int 0))) (tOp (cN K) (aB 1) (tC (.int 1)))) (tOp cH (tOp (cN K) (aB 1) (tC (.int 0))) (tOp (cN K) (aB 0) (tC (.int 1))))) (aC (tOp cH (tOp (cN K) (aB 0) (tC (.int 1))) (tOp (cN K) (aB 1) (tC (.int 1)))) aN))))
theorem Wl {K vs H Q E} (h:zS K vs H Q E):vs.length=2:=by obtain ⟨p,q,a,b,c,d,rfl,_⟩:=h;rfl
theorem Zh {K vs H Q E} (h:zS K vs H Q E):Lk K { nx:=λ _ H'=>Q .non H',rt:=Q } (start Mm vs) H:=by
 obtain ⟨p,q,a,b,c,d,rfl,⟨hp,hq,ba,bb,bc,bd⟩,b0,d0,b9,k⟩:=h
 rw [show start Mm [V.ref p,V.ref q]=[some (.ref p),some (.ref q)] from rfl]
 (dsimp? [Lk])
 refine ⟨_,hp,_,kR,_,hq,_,iI,_,rfl,_,rfl,.b ba bd,_,hq,_,kR,_,hp,_,iI,_,rfl,_,rfl,.b bc bb,_,hp,_,iI,_,hq,_,iI,_,rfl,_,rfl,.b bb bd,?_⟩
 have z:0<b*d:=Int.mul_pos b0 d0
 refine ⟨_,_,rfl,by omega,b9,λ x y r H' s h l=>k r H' s ?_⟩
 obtain ⟨e1,e2⟩:=l.uniq z (cG z)
 rw [← e1,← e2];exact h
noncomputable def wU:List PySem.Str:=["weights", "total"]
noncomputable def pB (K:W.Frag):Sp:=λ vs H Q _=>∃ a t ps n X x y,vs=[.ref a,.ref t]/\SqL K H a (List.map V.ref ps)/\bI K H ps (ofF n X)/\SqT K H t [.int x,.int y]/\0<x/\0<y/\BB 4000 x/\BB 4000 y/\(∀ k,k<n->0<(X k).2/\0<=(X k).1/\(X k).1<=(X k).2/\BB 4000 (X k).2)/\n<=100/\∀ l qs H',aI H H'->H' l=some (.lst (List.map V.ref qs))->bI K H' qs (ofF n λ k=>fov (X k) (x,y))->Q (.ref l) H'
noncomputable def Au (K:W.Frag):TE:=(aT (rY K) [] E0 (aC (aB 0) (aC (aB 1) aN)))
noncomputable def Bw (K:W.Frag):TS:=(bK (bO (bQ K (aB 0)) [1] (Au K)))
theorem Qf {K vs H Q E} (h:pB K vs H Q E):vs.length=2:=by obtain ⟨_,_,_,_,_,_,_,rfl,_⟩:=h;rfl
theorem Sc {K vs H Q E} (h:pB K vs H Q E):Bw K { nx:=λ _ H'=>Q .non H',rt:=Q } (start wU vs) H:=by
 obtain ⟨a,t,ps,n,X,x,y,rfl,hS,hf,ht,x0,y0,bx,by4,hX,hn,q⟩:=h
 have hpl:ps.length=n:=by rw [hf.length,aJ]
 rw [show start wU [V.ref a,V.ref t]=[some (.ref a),some (.ref t)] from rfl]
 (dsimp? [Bw,bO,bQ])
 refine ⟨⟨_,hS⟩,bX (K:=K) (a:=a) (xs:=List.map V.ref ps) (λ i zs H3=>aI H H3/\∃ qs,zs=List.map V.ref qs/\bI K H3 qs (ofF i λ k=>fov (X k) (x,y))) (by rw [length_map,sizeLine_eq];omega) ⟨aI.refl _,[],rfl,trivial⟩ ?_ ?_ ?_⟩
 ·rintro i zs H3 _ ⟨s3,_⟩
  exact s3.seq hS
 ·rintro i u zs H3 hi _ ⟨s3,qs,rfl,hq⟩
  obtain ⟨p,rfl,hp⟩:=bV hi
  obtain ⟨f,ef,hF⟩:=(hf.same s3).get hp
  obtain ⟨hin,rfl⟩:=dB ef
  obtain ⟨f2,f1,ff,bf⟩:=hX i hin
  (dsimp? [Au,aQ,List.map_cons,List.map_nil,Option.join_some])
  refine ⟨_,_,_,_,_,_,rfl,⟨hF,s3.tup ht,(gT bf f1 ff).mono (by decide),bf.mono (by decide),bx.mono (by decide),by4.mono (by decide)⟩,f2,x0,(bf.mul bx).mono (by decide),λ r H4 s4 hr=>⟨s3.trans s4,qs++[r],by rw [map_append];rfl,?_⟩⟩
  rw [cI]
  exact bI.snoc (hq.same s4) (SqT.of hr)
 ·rintro zs H3 _ ⟨s3,qs,rfl,hq⟩ l hl
  rw [length_map,hpl] at hq
  exact q l qs _ (s3.trans (aI.upd hl)) aG (hq.same (aI.upd hl))
noncomputable def wE:List PySem.Str:=["rows", "lift", "raised", "found", "total"]
structure Xq (K:W.Frag) (H':Hp) (v:Addr) (frs:List (List (Int×Int))) (n:Nat) (x y:Int) (P R:Nat->Int×Int) (w pl ql:Addr) (pp qp:List Addr):Prop where
 hv:H' v=some (.tup [.ref w,.ref pl,.ref ql])
 hw:H' w=some (.tup [.int x,.int y])
 hpl:H' pl=some (.lst (List.map V.ref pp))
 hps:bI K H' pp (ofF frs.length P)
 hql:H' ql=some (.lst (List.map V.ref qp))
 hqs:bI K H' qp (ofF n R)
 y0:0<y
 cop:Int.gcd x y=1
 by9:BB 9000 y
 bx:BB 20000 x
 pok:∀ i,i<frs.length->Fok (P i)/\BB 9000 (P i).2
 qok:∀ j,j<n->Fok (R j)/\BB 9000 (R j).2
 G:Gm frs.length n (λ i j=>va (rwF frs i j)) (va (x,y)) (λ i=>va (P i)) (λ j=>va (R j))
noncomputable def zQ (K:W.Frag):Sp:=λ vs H Q _=>∃ a rps frs n,vs=[.ref a]/\H a=some (.lst (List.map V.ref rps))/\gZ K H rps frs/\WoR frs n/\(∀ z,Mnf frs z->WoO (qJ z frs) frs.length n) /\
 ∀ v x y P R w pl ql pp qp H',aI H H'->Xq K H' v frs n x y P R w pl ql pp qp->Q (.ref v) H'
noncomputable def yD (K:W.Frag):TS:=(bK (iX (aC (aT (zS K) [] E0 (aC (aT (rY K) [] E0 (aC (iX (aC (tC (.int 1)) (aC (tC (.int 1)) aN))) (aC (aB 4) aN))) (aC (aB 1) aN))) (aC (aT (pB K) [] E0 (aC (tOp (cN K) (aB 3) (tC (.int 2))) (aC (aB 4) aN))) (aC (aT (pB K) [] E0 (aC (tOp (cN K) (aB 3) (tC (.int 1))) (aC (aB 4) aN))) aN)))))
noncomputable def Gs (K:W.Frag):TS:=(aU (bH (aT (wH K) [] E0 (aC (tOp (cN K) (aB 3) (tC (.int 1))) aN)) (aK 4)) (yD K))
noncomputable def Gw (K:W.Frag):TE:=(iX (aC (tC (.int 1)) (aC (tC (.int 1)) aN)))
noncomputable def Gv (K:W.Frag):TE:=(iX (aC (tC (.int 1)) (aC (tC (.int 1)) aN)))
noncomputable def Gr (K:W.Frag):TS:=(aU (bH (aT (El K) [] E0 (aC (aB 2) (aC (bO (bQ K (aB 0)) [] (Gv K)) (aC (bO (bQ K (tOp (dU K) (aB 0) (tC (.int 0)))) [] (Gw K)) aN)))) (aK 3)) (Gs K))
noncomputable def Gu (K:W.Frag):TE:=(aT (wI K) [] E0 (aC (aB 0) (aC (aB 1) aN)))
noncomputable def Gq (K:W.Frag):TS:=(aU (bH (bO (bQ K (aB 0)) [1] (Gu K)) (aK 2)) (Gr K))
noncomputable def Lg (K:W.Frag):TS:=(aU (bH (aT (sF K) [] E0 (aC (aB 0) aN)) (aK 1)) (Gq K))
theorem Wg {K vs H Q E} (h:zQ K vs H Q E):vs.length=1:=by obtain ⟨_,_,_,_,rfl,_⟩:=h;rfl
theorem Ur {f g:Int×Int} (hf:0<f.2) (h0:0<=f.1) (hg:0<g.2) (hg1:0<g.1) (b1:BB 4000 f.2) (b2:BB 4000 g.1):Fok (fov f g)/\BB 9000 (fov f g).2:=by
 have z:=Int.mul_pos hf hg1
 have l:=cG (t:=f.1*g.2) z
 exact ⟨⟨l.pos,l.cop,sP z (Int.mul_nonneg h0 (Int.le_of_lt hg))⟩,((b1.mul b2).of_le (by have:=l.by_;exact this)).mono (by decide)⟩
theorem Pm {K:W.Frag} {Q:VK} {H G:Hp} {a lp rz v t w x:Addr} {wd:Str} {xp wp:List Addr} {frs:List (List (Int×Int))} {n:Nat} {z tx ty:Int} {X Y:Nat->Int×Int} (s0:aI H G) (m2:frs.length<=100) (n2:n<=100) (hl:G lp=some (.tup [.int (1 - z),.int 1])) (bz:BB 9000 (1 - z)) (hv:G v=some (.tup [.str wd,.ref x,.ref w])) (hx:G x=some (.lst (List.map V.ref xp))) (hxs:bI K G xp (ofF n X)) (hw:G w=some (.lst (List.map V.ref wp))) (hws:bI K G wp (ofF frs.length Y))
  (ht:G t=some (.tup [.int tx,.int ty])) (ty0:0<ty) (tx0:0<tx) (bt:BB 4000 ty) (txy:tx<=ty) (hX:∀ k,k<n->0<(X k).2/\0<=(X k).1/\(X k).1<=(X k).2/\BB 4000 (X k).2) (hY:∀ k,k<frs.length->0<(Y k).2/\0<=(Y k).1/\(Y k).1<=(Y k).2/\BB 4000 (Y k).2)
  (g:Gm frs.length n (λ i j=>va (rwF frs i j)) (1 / va (tx,ty) - ((1 - z:Int):Rat)) (λ i=>va (Y i) / va (tx,ty)) (λ j=>va (X j) / va (tx,ty)))
  (q:∀ v x y P R w pl ql pp qp H',aI H H'->Xq K H' v frs n x y P R w pl ql pp qp->Q (.ref v) H') :
  yD K { nx:=λ _ H'=>Q .non H',rt:=Q } [some (.ref a),some (.ref lp),some (.ref rz),some (.ref v),some (.ref t)] G:=by
 have btx:BB 4000 tx:=gT bt (Int.le_of_lt tx0) txy
 have one:BB 20000 (1:Int):=by show (1:Int).natAbs<2 ^ 20000;exact Nat.one_lt_two_pow (by decide)
 have z1:(0:Int)<1*tx:=by omega
 have l1:=cG (t:=1*ty) z1
 have bb1:=l1.bb (n:=4000) (by rw [Int.one_mul];exact bt) (by rw [Int.one_mul];exact btx)
 have z2:=Int.mul_pos l1.pos (show (0:Int)<1 by decide)
 have l2:=cG (t:=(lo2 (1*ty) (1*tx)).1*1 - (1 - z)*(lo2 (1*ty) (1*tx)).2) z2
 (dsimp? [yD])
 refine ⟨sz2,λ u hu=>?_⟩
 have s1:=aI.upd (o:=HO.tup [.int 1,.int 1]) hu
 refine ⟨_,_,_,_,_,_,rfl,⟨SqT.of aG,SqT.of (s1 _ _ ht),one,one,btx.mono (by decide),bt.mono (by decide)⟩,by decide,tx0,by rw [Int.one_mul];exact btx.mono (by decide),λ r H1 s2 hr=>?_⟩
 have s02:=s1.trans s2
 refine ⟨_,_,_,_,_,_,rfl,⟨SqT.of hr,SqT.of (s02 _ _ hl),bb1.1.mono (by decide),bb1.2.mono (by decide),bz.mono (by decide),one⟩,l1.pos,by decide,by rw [Int.mul_one];exact bb1.2.mono (by decide),λ r2 H2 s3 hr2=>?_⟩
 have s03:=s02.trans s3
 refine ⟨_,SqT.of (s03 _ _ hv),_,atI2,_,_,_,_,_,_,_,rfl,SqL.of (s03 _ _ hw),hws.same s03,SqT.of (s03 _ _ ht),tx0,ty0,btx,bt,hY,m2,λ pl pp H3 s4 hpl hpp=>?_⟩
 have s04:=s03.trans s4
 refine ⟨_,SqT.of (s04 _ _ hv),_,iI,_,_,_,_,_,_,_,rfl,SqL.of (s04 _ _ hx),hxs.same s04,SqT.of (s04 _ _ ht),tx0,ty0,btx,bt,hX,n2,λ ql qp H4 s5 hql hqp=>⟨sz3,λ o ho=>?_⟩⟩
 have s6:=aI.upd (o:=HO.tup [.ref r2,.ref pl,.ref ql]) ho
 have b2:BB 4001 ((lo2 (1*ty) (1*tx)).2*1):=by rw [Int.mul_one];exact bb1.2.mono (by decide)
 have b3:BB 20000 ((lo2 (1*ty) (1*tx)).1*1 - (1 - z)*(lo2 (1*ty) (1*tx)).2):=by
  rw [Int.mul_one,Int.sub_eq_add_neg]
  exact ((bb1.1.mono (show 4000<=13000 by decide)).add ((bz.mul bb1.2).neg.mono (by decide))).mono (by decide)
 refine q o _ _ (λ i=>fov (Y i) (tx,ty)) (λ j=>fov (X j) (tx,ty)) r2 pl ql pp qp _ (((s0.trans s04).trans s5).trans s6) ⟨aG,s6 _ _ (s5 _ _ (s4 _ _ hr2)),s6 _ _ (s5 _ _ hpl),(hpp.same s5).same s6,s6 _ _ hql,hqp.same s6,l2.pos,l2.cop,(b2.of_le l2.by_).mono (by decide),b3.of_le l2.bx,λ i hi=>Ur (hY i hi).1 (hY i hi).2.1 ty0 tx0 (hY i hi).2.2.2 btx,λ j hj=>Ur (hX j hj).1 (hX j hj).2.1 ty0 tx0 (hX j hj).2.2.2 btx,?_⟩
 refine g.congr (λ _ _ _ _=>rfl) ?_ (λ i hi=>(Qn (hY i hi).1 ty0 tx0).symm) (λ j hj=>(Qn (hX j hj).1 ty0 tx0).symm)
 have e1:=va_sub (f:=lo2 (1*ty) (1*tx)) (g:=(1 - z,1)) l1.pos (show (0:Int)<1 by decide)
 have e2:va (lo2 (1*ty) (1*tx))=1 / va (tx,ty):=by rw [← xS];exact Qn (f:=(1,1)) (g:=(tx,ty)) (by decide) ty0 tx0
 have e3:va (1 - z,1)=((1 - z:Int):Rat):=by
  unfold va
  show ((1 - z:Int):Rat) / ((1:Int):Rat)=_
  rw [show ((1:Int):Rat)=1 from rfl,Rat.div_def];grind
 rw [e2,e3] at e1
 exact e1.symm
theorem Pu (z:Int) (frs:List (List (Int×Int))):(qJ z frs).length=frs.length:=by unfold qJ;rw [length_map]
theorem Zc {K vs H Q E} (h:zQ K vs H Q E):Lg K { nx:=λ _ H'=>Q .non H',rt:=Q } (start wE vs) H:=by
 obtain ⟨a,rps,frs,n,rfl,ha,hf,W,wo,q⟩:=h
 have hpl:=hf.length
 have m1:=W.m1
 have m2:=W.m2
 have n1:=W.n1
 have n2:=W.n2
 have one9:BB 9000 (1:Int):=by show (1:Int).natAbs<2 ^ 9000;exact Nat.one_lt_two_pow (by decide)
 rw [show start wE [V.ref a]=[some (.ref a),none,none,none,none] from rfl]
 (dsimp? [Lg])
 refine ⟨a,rps,frs,n,rfl,SqL.of ha,hf,W,λ z lp H1 s1 hlp mn=>?_⟩
 have bz:=(mn.bb W.hg).mono (show 4001<=9000 by decide)
 have O:=wo z mn
 (dsimp? [Gq,bO,bQ])
 refine ⟨⟨_,s1.seq (SqL.of ha)⟩,bX (K:=K) (a:=a) (xs:=List.map V.ref rps) (λ i zs H3=>aI H1 H3/\∃ qs,zs=List.map V.ref qs/\gZ K H3 qs ((frs.take i).map λ r=>r.map (lft z))) (by rw [length_map,sizeLine_eq];omega) ⟨aI.refl _,[],rfl,trivial⟩ ?_ ?_ ?_⟩
 ·rintro i zs H3 _ ⟨s3,_⟩
  exact (s1.trans s3).seq (SqL.of ha)
 ·rintro i x zs H3 hi _ ⟨s3,qs,rfl,hq⟩
  obtain ⟨p,rfl,hp⟩:=bV hi
  obtain ⟨r,rs,er,hrow,hfr⟩:=hf.get hp
  have hrm:=mem_of_getElem? er
  (dsimp? [Gu,aQ,List.map_cons,List.map_nil,Option.join_some])
  refine ⟨p,lp,rs,r,z,rfl,(s1.trans s3).seq (SqL.of hrow),hfr.same (s1.trans s3),SqT.of (s3 _ _ hlp),bz,W.hg r hrm,by rw [W.hr r hrm];exact n2,λ l ls H4 s4 hl hls=>⟨s3.trans s4,qs++[l],by rw [map_append];rfl,?_⟩⟩
  rw [dN er,map_append]
  exact gZ.append (show gZ K H4 [l] [r.map (lft z)] from ⟨⟨ls,hl,hls⟩,trivial⟩) (hq.same s4)
 ·rintro zs H3 _ ⟨s3,qs,rfl,hq⟩ rz hrz
  rw [length_map,hpl,take_length] at hq
  have s4:=s3.trans (aI.upd (o:=HO.lst (List.map V.ref qs)) hrz)
  have hq4:gZ K (upd H3 rz (.lst (List.map V.ref qs))) qs (qJ z frs):=hq.same (aI.upd hrz)
  have rz4:(upd H3 rz (.lst (List.map V.ref qs))) rz=some (.lst (List.map V.ref qs)):=aG
  generalize upd H3 rz (.lst (List.map V.ref qs))=H4 at s4 hq4 rz4
  clear s3 hq hrz
  have s04:=s1.trans s4
  have ones_step:∀ {i:Nat} {H5 H6:Hp} {ps:List Addr} {p:Addr},bI K H5 ps (ofF i λ _=>((1,1):Int×Int))->H5 p=none->H6=upd H5 p (.tup [.int 1,.int 1])->bI K H6 (ps++[p]) (ofF (i+1) λ _=>((1,1):Int×Int)):=λ {i H5 H6 ps p} h hp e=>by
   subst e
   rw [cI]
   exact bI.snoc (h.same (aI.upd hp)) (SqT.of aG)
  (dsimp? [Gr,bO,bQ])
  refine ⟨⟨_,s04.seq (SqL.of ha)⟩,bX (K:=K) (a:=a) (xs:=List.map V.ref rps) (λ i zs H5=>aI H4 H5/\∃ ps,zs=List.map V.ref ps/\bI K H5 ps (ofF i λ _=>((1,1):Int×Int))) (by rw [length_map,sizeLine_eq];omega) ⟨aI.refl _,[],rfl,trivial⟩ ?_ ?_ ?_⟩
  ·rintro i zs H5 _ ⟨s5,_⟩
   exact (s04.trans s5).seq (SqL.of ha)
  ·rintro i x zs H5 hi _ ⟨s5,ps,rfl,hps⟩
   (dsimp? [Gv])
   exact ⟨sz2,λ p hp=>⟨s5.trans (aI.upd hp),ps++[p],by rw [map_append];rfl,ones_step hps hp rfl⟩⟩
  ·rintro zs H5 _ ⟨s5,bps,rfl,hbs⟩ b hb
   rw [length_map,hpl] at hbs
   have s6:=s5.trans (aI.upd (o:=HO.lst (List.map V.ref bps)) hb)
   have hb6:(upd H5 b (.lst (List.map V.ref bps))) b=some (.lst (List.map V.ref bps)):=aG
   have hbs6:=hbs.same (aI.upd (o:=HO.lst (List.map V.ref bps)) hb)
   generalize upd H5 b (.lst (List.map V.ref bps))=H6 at s6 hb6 hbs6
   clear s5 hbs hb
   have s06:=s04.trans s6
   obtain ⟨p0,hp0⟩:∃ p,rps[0]?=some p:=⟨_,getElem?_eq_getElem (by omega)⟩
   obtain ⟨r0,rs0,er0,hrow0,hfr0⟩:=hf.get hp0
   have rl0:rs0.length=n:=by rw [hfr0.length,W.hr r0 (mem_of_getElem? er0)]
   refine ⟨_,s06.seq (SqL.of ha),_,fI (j:=0) (v:=V.ref p0) (by rw [getElem?_map,hp0];rfl),_,rfl,⟨_,s06.seq (SqL.of hrow0)⟩,bX (K:=K) (a:=p0) (xs:=List.map V.ref rs0) (λ i zs H7=>aI H6 H7/\∃ ps,zs=List.map V.ref ps/\bI K H7 ps (ofF i λ _=>((1,1):Int×Int))) (by rw [length_map,sizeLine_eq];omega) ⟨aI.refl _,[],rfl,trivial⟩ ?_ ?_ ?_⟩
   ·rintro i zs H7 _ ⟨s7,_⟩
    exact (s06.trans s7).seq (SqL.of hrow0)
   ·rintro i x zs H7 hi _ ⟨s7,ps,rfl,hps⟩
    (dsimp? [Gw])
    exact ⟨sz2,λ p hp=>⟨s7.trans (aI.upd hp),ps++[p],by rw [map_append];rfl,ones_step hps hp rfl⟩⟩
   ·rintro zs H7 _ ⟨s7,gps,rfl,hgs⟩ c hc
    rw [length_map,rl0] at hgs
    have s8:=s7.trans (aI.upd (o:=HO.lst (List.map V.ref gps)) hc)
    have hc8:(upd H7 c (.lst (List.map V.ref gps))) c=some (.lst (List.map V.ref gps)):=aG
    have hgs8:=hgs.same (aI.upd (o:=HO.lst (List.map V.ref gps)) hc)
    generalize upd H7 c (.lst (List.map V.ref gps))=H8 at s8 hc8 hgs8
    clear s7 hgs hc
    have s48:=s6.trans s8
    have eR:=Pu z frs
    have eb:=fS frs.length
    have eg:=fS n
    refine ⟨rz,b,c,qs,bps,gps,qJ z frs,cO frs.length,cO n,rfl,⟨s48 _ _ rz4,hq4.same s48,s8 _ _ hb6,hbs6.same s8,hc8,hgs8,λ f hf'=>?_⟩,λ f hf'=>?_,O.B,by omega,by omega,λ v fl s o x w xp wp H9 s9 _ _ out=>?_⟩
    ·rw [zX hf'];exact ⟨by decide,one9.mono (by decide),one9⟩
    ·rw [zX hf'];decide
    have rpos:∀ i j,i<frs.length->j<n->0<(rwF frs i j).2:=λ i j hi hj=>by
     unfold rwF
     have e:frs[i]?=some frs[i]:=getElem?_eq_getElem hi
     have hl:=W.hr _ (getElem_mem hi)
     rw [getD_eq_getElem?_getD (l:=frs),e]
     show 0<((frs[i]).getD j (0,1)).2
     rw [getD_eq_getElem?_getD,getElem?_eq_getElem (by omega)]
     exact (W.hg _ (getElem_mem hi) _ (getElem_mem (by omega))).1
    have rge:∀ i j,i<frs.length->j<n->rwF frs i j∈frs.getD i []:=λ i j hi hj=>by
     unfold rwF
     have e:frs[i]?=some frs[i]:=getElem?_eq_getElem hi
     have hl:=W.hr _ (getElem_mem hi)
     rw [getD_eq_getElem?_getD (l:=frs),e]
     show (frs[i]).getD j (0,1)∈frs[i]
     rw [getD_eq_getElem?_getD,getElem?_eq_getElem (by omega)]
     exact getElem_mem (by omega)
    have hA:∀ i j,i<(qJ z frs).length->j<(cO n).length->1<=va (rwF (qJ z frs) i j):=λ i j hi hj=>by
     rw [eR] at hi
     rw [eg] at hj
     rw [Uh hi W.hr hj]
     refine lft_ge (rpos i j hi hj) (mn.le (frs.getD i []) ?_ _ (rge i j hi hj))
     rw [getD_eq_getElem?_getD,getElem?_eq_getElem hi]
     exact getElem_mem hi
    have hg1:∀ j,j<(cO n).length->(cO n).getD j (0,1)=(1,1):=λ j hj=>Ce (by omega)
    have hb1:∀ j,j<(qJ z frs).length->(cO frs.length).getD j (0,1)=(1,1):=λ j hj=>Ce (by omega)
    cases o with
    | some cc=>exact (no_way O.B out.ok out.io hg1 hA (by omega) out.un).elim
    | none =>
     have L:=lp_game O.B out.ok out.io out.un hb1 hg1 hA (by omega) (by omega)
     obtain ⟨M,M0,bM,dM⟩:=O.mx fl s out.ok out.io
     have myb:=O.my fl s out.ok out.un
     have xok:=Jb O.B out.ok
     have yok:∀ k,k<frs.length->_:=λ k hk=>Ja O.B out.ok out.un (show k<(qJ z frs).length by omega)
     have hxs:bI K H9 xp (ofF n (xF fl (qJ z frs) (cO frs.length) (cO n) s)):=by have:=out.hxs;rw [eg] at this;exact this
     have hws:bI K H9 wp (ofF frs.length (yF fl (qJ z frs) (cO frs.length) (cO n) s)):=by have h:bI K H9 wp (ofF (qJ z frs).length (yF fl (qJ z frs) (cO frs.length) (cO n) s)):=out.hws;rw [eR] at h;exact h
     rw [eR,eg] at L
     (dsimp? [Gs])
     refine ⟨_,SqT.of out.hv,_,iI,_,_,_,_,M,rfl,SqL.of out.hx,hxs,M0,bM,λ k hk=>⟨(xok k).1,(xok k).2.2.1,dM k hk⟩,L.S1,λ tx ty t H10 s10 ht ty0 tx0 dT eT=>?_⟩
     have tp:0<tx:=by
      rcases Int.lt_or_eq_of_le tx0 with h | h
      ·exact h
      ·have:=L.S0
       rw [← eT,← h] at this
       have e0:va (0,ty)=0:=by unfold va;show ((0:Int):Rat) / _=0;rw [Rat.div_def];show (0:Rat)*_=0;grind
       rw [e0] at this;grind
     have S1:=L.S1
     have txy:tx<=ty:=Bf (f:=(tx,ty)) ty0 (by rw [eT];exact S1)
     have s410:=(s48.trans s9).trans s10
     refine Pm (s1.trans (s4.trans s410)) m2 n2 (s4.trans s410 _ _ hlp) bz (s10 _ _ out.hv) (s10 _ _ out.hx) (hxs.same s10) (s10 _ _ out.hw) (hws.same s10) ht ty0 tp (xZ bM M0 dT) txy (λ k hk=>⟨(xok k).1,(xok k).2.2.1,Bf (xok k).1 ?_,xZ bM M0 (dM k hk)⟩) (λ k hk=>⟨(yok k hk).1,(yok k hk).2.2.1,Bf (yok k hk).1 ?_,myb k hk⟩) ?_ q
     ·have h1:=zU (f:=λ j=>va (xF fl (qJ z frs) (cO frs.length) (cO n) s j)) hk L.x0
      have h2:=L.sx
      grind
     ·have h1:=zU (f:=λ j=>va (yF fl (qJ z frs) (cO frs.length) (cO n) s j)) hk L.y0
      have h2:=L.sy
      grind
     ·rw [eT]
      refine (game_of (((1 - z:Int):Rat)) L.S0 L.x0 L.y0 L.hx L.hy L.sx L.sy).congr (λ i j hi hj=>?_) rfl (λ _ _=>rfl) λ _ _=>rfl
      rw [Uh hi W.hr hj,Xt (rpos i j hi hj)]
      grind
noncomputable def Cl:List PySem.Str:=["_law_found"]
noncomputable def lW (_:W.Frag):Sp:=λ vs H Q _=>∃ i,vs=[.int i]/\Q (.bl true) H
noncomputable def wF (K:W.Frag):TS:=(bK (tL (tCB Hz (aC (aB 0) (aC (tC (.ty "int")) aN))) (zA (tCB Hz (aC (aB 0) (aC (tC (.ty "bool")) aN))))))
theorem Qa {K vs H Q E} (h:lW K vs H Q E):vs.length=1:=by obtain ⟨a,rfl,_⟩:=h;rfl
theorem Rw {K vs H Q E} (h:lW K vs H Q E):wF K { nx:=λ _ H'=>Q .non H',rt:=Q } (start Cl vs) H:=by
 obtain ⟨i,rfl,q⟩:=h
 rw [show start Cl [V.int i]=[some (.int i)] from rfl]
 (try dsimp only [wF,aB,tC,bK,aC,aN,tCB,Hz,tL,zA,Lq0,cQ,cR,cP];try simp only [wF,aB,tC,bK,aC,aN,tCB,Hz,tL,zA,Lq0,Option.some.injEq,exists_eq_left',V.bl.injEq,V.ty.injEq,List.cons.injEq,and_true,exists_and_left,and_assoc,exists_eq_left,V.int.injEq,V.ref.injEq,true_and,cQ,cR,cP,dQ,gQ,eN])
 exact ⟨true,.inl ⟨rfl,rfl⟩,Qj ⟨false,.inr ⟨rfl,rfl⟩,q⟩⟩
noncomputable def tJ:List PySem.Str:=["_law_found"]
noncomputable def jS (K:W.Frag):Sp:=λ vs H Q _=>∃ p x y,vs=[.ref p]/\SqT K H p [.int x,.int y]/\0<y/\Int.gcd x y=1/\Q (.bl true) H
noncomputable def nY (K:W.Frag):TS:=(aU (dG (tOr (tU (tB (tCB (cIsT K) (aC (aB 0) (aC (tC (.ty "tuple")) aN))))) (tOr (bR (tOp rNe (tCB (gO K) (aC (aB 0) aN)) (tC (.int 2)))) (tOr (tU (tB (aT (lW K) [] E0 (aC (tOp (cN K) (aB 0) (tC (.int 0))) aN)))) (tU (tB (aT (lW K) [] E0 (aC (tOp (cN K) (aB 0) (tC (.int 1))) aN))))))) (bK (tC (.bl false))) cE) (bK (tL (tOp xN (tOp (cN K) (aB 0) (tC (.int 1))) (tC (.int 0))) (tOp rEq (aT (eW K) [] E0 (aC (tOp (cN K) (aB 0) (tC (.int 0))) (aC (tOp (cN K) (aB 0) (tC (.int 1))) aN))) (tC (.int 1))))))
theorem Hx {K vs H Q E} (h:jS K vs H Q E):vs.length=1:=by obtain ⟨_,_,_,rfl,_⟩:=h;rfl
theorem Ik {K vs H Q E} (h:jS K vs H Q E):nY K { nx:=λ _ H'=>Q .non H',rt:=Q } (start tJ vs) H:=by
 obtain ⟨p,x,y,rfl,hp,y0,g,k⟩:=h
 rw [show start tJ [V.ref p]=[some (.ref p)] from rfl]
 (dsimp? [nY,cIsT];try simp_arith [nY,cIsT,eW,lW])
 refine ⟨_,hp,tV ⟨_,.inr hp,tV ⟨_,hp,_,kR,_,rfl,tV ⟨_,hp,_,iI,_,rfl,tV ?_⟩⟩⟩⟩
 refine ⟨_,hp,_,iI,_,rfl,?_⟩
 rw [if_pos y0]
 refine ⟨_,hp,_,kR,_,hp,_,iI,_,rfl,_,rfl,?_⟩
 rw [g]
 exact k
noncomputable def oF:List PySem.Str:=["_law_found", "_law_many", "_law_common", "_law_one", "_law_parts"]
noncomputable def jR (K:W.Frag):Sp:=λ vs H Q _=>∃ l ps,∃ n:Nat,∃ X,vs=[.ref l,.int n]/\H l=some (.lst (List.map V.ref ps))/\bI K H ps (ofF n X)/\(∀ k,k<n->Fok (X k)/\BB 9000 (X k).2)/\n<=100/\(rsm n λ k=>va (X k))=1 /\
 ∀ C cs cl pt H',aI H H'->0<C->BB 1000000 C->H' cl=some (.lst (List.map V.int (ofF n cs)))->H' pt=some (.tup [.int C,.ref cl])->(∀ k,k<n->((cs k:Int):Rat)=va (X k)*C/\0<=cs k/\cs k<=C)->Q (.ref pt) H'
noncomputable def jJW (l:Addr) (H0:Hp) (n:Nat) (fs:List (Int×Int)):Nat->St->Hp->Prop:=λ i σ H3=>H3=H0/\∃ o,σ=[some (.ref l),some (.int n),some (.int (lc (fs.take i))),o,none]
noncomputable def tN (K:W.Frag):TS:=(bK (iX (aC (aB 2) (aC (aB 4) aN))))
noncomputable def tO (K:W.Frag):TE:=(tOp cH (tOp (cN K) (aB 0) (tC (.int 0))) (tOp gL (aB 1) (tOp (cN K) (aB 0) (tC (.int 1)))))
noncomputable def nK (K:W.Frag):TS:=(aU (bH (bO (bQ K (aB 0)) [2] (tO K)) (aK 4)) (aU (dG (bR (tOp rNe (tCB (Fc K) (aC (aB 4) aN)) (aB 2))) (bK (iX (aC (tC (.int 0)) (aC (pM aN) aN)))) cE) (tN K)))
noncomputable def nJ (K:W.Frag):TS:=(bH (tOp cH (aB 2) (tOp gL (tOp (cN K) (aB 3) (tC (.int 1))) (aT (eW K) [] E0 (aC (aB 2) (aC (tOp (cN K) (aB 3) (tC (.int 1))) aN))))) (aK 2))
noncomputable def tP (K:W.Frag):TS:=(aU (dG (tOr (tU (tB (aT (jS K) [] E0 (aC (aB 3) aN)))) (bR (tOp iJ (tOp (cN K) (aB 3) (tC (.int 0))) (tC (.int 0))))) (bK (iX (aC (tC (.int 0)) (aC (pM aN) aN)))) cE) (nJ K))
noncomputable def tM (K:W.Frag):TS:=(aU (bH (tC (.int 1)) (aK 2)) (aU (jX (bQ K (aB 0)) (aK 3) (tP K)) (nK K)))
noncomputable def sX (K:W.Frag):TS:=(aU (dG (tOr (tU (tB (tCB Je (aC (aB 0) (aC (tC (.ty "list")) aN))))) (bR (tOp rNe (tCB (gO K) (aC (aB 0) aN)) (aB 1)))) (bK (iX (aC (tC (.int 0)) (aC (pM aN) aN)))) cE) (tM K))
theorem Hw {K vs H Q E} (h:jR K vs H Q E):vs.length=2:=by obtain ⟨_,_,_,_,rfl,_⟩:=h;rfl
theorem Ij {K vs H Q E} (h:jR K vs H Q E):sX K { nx:=λ _ H'=>Q .non H',rt:=Q } (start oF vs) H:=by
 obtain ⟨l,ps,n,X,rfl,hl,hf,hX,hn,s1,q⟩:=h
 have hpl:ps.length=n:=by rw [hf.length,aJ]
 have fl:(ofF n X).length=n:=aJ _ _
 have hpos:∀ f∈ofF n X,0<f.2:=λ f hf=>by obtain ⟨k,hk,rfl⟩:=gG hf;exact (hX k hk).1.1
 have hb9:∀ f∈ofF n X,BB 9000 f.2:=λ f hf=>by obtain ⟨k,hk,rfl⟩:=gG hf;exact (hX k hk).2
 rw [show start oF [V.ref l,V.int n]=[some (.ref l),some (.int n),none,none,none] from rfl]
 (dsimp? [sX,Je])
 refine ⟨true,.inr ⟨_,_,rfl,hl,rfl,rfl⟩,tV ⟨_,.inl (SqL.of hl),?_⟩⟩
 rw [length_map,hpl,decide_eq_true rfl]
 refine tV ?_
 (dsimp? [tM,jX,bQ])
 refine ⟨⟨_,SqL.of hl⟩,mT (K:=K) (a:=l) (xs:=List.map V.ref ps) (g:=aK 3) (D:={ nx:=nK K { nx:=λ _ H'=>Q .non H',rt:=Q },rt:=Q }) (jJW l H n (ofF n X)) ?_ ?_ ?_ ?_⟩
 ·exact ⟨rfl,none,rfl⟩
 ·rintro i σ H3 _ ⟨rfl,_⟩
  exact SqL.of hl
 ·rintro i x σ H3 hi ⟨rfl,o,rfl⟩
  obtain ⟨p,rfl,hp⟩:=bV hi
  obtain ⟨f,ef,hF⟩:=hf.get hp
  have ef':=ef
  obtain ⟨hin,rfl⟩:=dB ef
  obtain ⟨⟨f2,fg,f1⟩,fb⟩:=hX i hin
  have lp:0<lc ((ofF n X).take i):=Fk λ f hf=>hpos f (mem_of_mem_take hf)
  have o5:=(Fj lp f2).2.2.2.2
  have fne:(X i).2≠0:=Int.ne_of_gt f2
  have g0:0<Int.gcd (lc ((ofF n X).take i)) (X i).2:=Int.gcd_pos_of_ne_zero_right _ fne
  have bl:BB 900001 (lc ((ofF n X).take i)):=(Lb ((ofF n X).take i) 1 1 9000 (by decide) (by show (1:Int).natAbs<2 ^ 1;decide) (λ f hf=>hpos f (mem_of_mem_take hf)) (λ f hf=>hb9 f (mem_of_mem_take hf))).mono (by rw [length_take];omega)
  have e:=Ui ef'
  unfold lcf at e
  (dsimp? [tP])
  refine ⟨_,_,_,rfl,hF,f2,fg,_,rfl,tV ⟨_,hF,_,kR,_,rfl,?_⟩⟩
  rw [if_neg (by omega)]
  (dsimp? [nJ];try simp_arith [nJ,eW])
  refine ⟨_,hF,_,iI,_,hF,_,iI,_,rfl,_,rfl,⟨by omega,fb.gcd fne⟩,.b (m:=900001) (n:=9000) bl (fb.of_le o5),rfl,some (.ref p),?_⟩
  rw [e]
 ·rintro σ H3 ⟨rfl,o,rfl⟩
  rw [length_map,hpl,show (ofF n X).take n=ofF n X from take_of_length_le (by omega)]
  have lp:0<lc (ofF n X):=Fk hpos
  have bl:BB 900001 (lc (ofF n X)):=(Lb (ofF n X) 1 1 9000 (by decide) (by show (1:Int).natAbs<2 ^ 1;decide) hpos hb9).mono (by rw [fl];omega)
  have cs:∀ k,k<n->(X k).1*((lc (ofF n X)).fdiv (X k).2)*(X k).2=(X k).1*lc (ofF n X):=λ k hk=>Rb hpos (mem_of_getElem? (cF X hk))
  have cv:∀ k,k<n->(((X k).1*((lc (ofF n X)).fdiv (X k).2):Int):Rat)=va (X k)*(lc (ofF n X):Int):=λ k hk=>by
   have f2:=(hX k hk).1.1
   refine sM (fK f2) ?_
   have e:(((X k).1*((lc (ofF n X)).fdiv (X k).2)*(X k).2:Int):Rat)=(((X k).1*lc (ofF n X):Int):Rat):=by rw [cs k hk]
   have h1:=iK f2
   rw [Rat.intCast_mul] at e
   rw [e,Rat.intCast_mul,← h1];grind
  have v0:∀ k,k<n->0<=va (X k):=λ k hk=>oG (hX k hk).1.1 (hX k hk).1.2.2
  have c0:∀ k,k<n->0<=(X k).1*((lc (ofF n X)).fdiv (X k).2)/\(X k).1*((lc (ofF n X)).fdiv (X k).2)<=lc (ofF n X):=λ k hk=>by
   have h1:=cv k hk
   have h2:=v0 k hk
   have h3:=zU (f:=λ k=>va (X k)) hk v0
   have p:=fK lp
   have h4:=Rat.mul_nonneg h2 (Rat.le_of_lt p)
   have h5:=Rat.mul_le_mul_of_nonneg_right (show va (X k)<=1 by grind) (Rat.le_of_lt p)
   rw [← h1] at h4 h5
   rw [Rat.one_mul] at h5
   exact ⟨Rat.intCast_le_intCast.mp h4,Rat.intCast_le_intCast.mp h5⟩
  (dsimp? [nK,bO,bQ,Fc])
  refine ⟨⟨_,SqL.of hl⟩,bX (K:=K) (a:=l) (xs:=List.map V.ref ps) (WEq H3 λ i zs=>zs=List.map V.int (ofF i λ k=>(X k).1*((lc (ofF n X)).fdiv (X k).2))) (by rw [length_map,sizeLine_eq];omega) ⟨rfl,rfl⟩ ?_ ?_ ?_⟩
  ·rintro i zs H4 _ ⟨rfl,_⟩
   exact SqL.of hl
  ·rintro i x zs H4 hi _ ⟨rfl,rfl⟩
   obtain ⟨p,rfl,hp⟩:=bV hi
   obtain ⟨f,ef,hF⟩:=hf.get hp
   obtain ⟨hin,rfl⟩:=dB ef
   obtain ⟨⟨f2,fg,f1⟩,fb⟩:=hX i hin
   obtain ⟨k,hk⟩:=(uI (ofF n X) 1 (by decide) hpos).2.2.1 _ (mem_of_getElem? ef)
   have hk:lc (ofF n X)=(X i).2*k:=hk
   have fne:(X i).2≠0:=Int.ne_of_gt f2
   have ek:(lc (ofF n X)).fdiv (X i).2=k:=by rw [hk];exact Int.mul_fdiv_cancel_left _ fne
   have bk:BB 900001 ((lc (ofF n X)).fdiv (X i).2):=by
    refine bl.of_le ?_
    rw [ek,hk,Int.natAbs_mul]
    exact Nat.le_mul_of_pos_left _ (by omega)
   have ff:(X i).1<=(X i).2:=Bf f2 (by have:=zU (f:=λ k=>va (X k)) hin v0;grind)
   (dsimp? [tO,aQ,List.map_cons,List.map_nil,Option.join_some])
   refine ⟨_,hF,_,kR,_,hF,_,iI,_,rfl,⟨fne,fb⟩,_,rfl,.b (m:=9000) (n:=900001) (gT fb f1 ff) bk,rfl,?_⟩
   show _=List.map V.int (ofF (i+1) λ k=>(X k).1*((lc (ofF n X)).fdiv (X k).2))
   rw [cI,map_append];rfl
  ·rintro zs H4 _ ⟨rfl,rfl⟩ cl hcl
   rw [length_map,hpl]
   refine ⟨_,SqL.of aG,?_⟩
   have es:(ofF n λ k=>(X k).1*((lc (ofF n X)).fdiv (X k).2)).sum=lc (ofF n X):=by
    rw [zK]
    refine Rat.intCast_inj.mp ?_
    rw [En,eJ cv,kT,s1,Rat.one_mul]
   rw [es,decide_eq_true rfl]
   refine tV ?_
   (dsimp? [tN])
   exact ⟨sz2,λ pt hpt=>q (lc (ofF n X)) _ cl pt _ ((aI.upd hcl).trans (aI.upd hpt)) lp (bl.mono (by decide)) (aI.upd hpt _ _ aG) aG λ k hk=>⟨cv k hk,c0 k hk⟩⟩
noncomputable def qW:List PySem.Str:=["_law_found", "_law_rows_here", "_law_scale", "_law_top", "_law_bottom", "_law_by_rows", "_law_lines", "_law_by_columns", "_law_columns", "_law_j", "_law_earned", "_law_row"]
structure RiI (K:W.Frag) (H:Hp) (v r:Addr) (S:Int) (us:List (List Int)) (n:Nat) (frs:List (List (Int×Int))) (x y:Int) (P R:Nat->Int×Int) (w pl ql:Addr) (pp qp ps:List Addr):Prop where
 O:Xq K H v frs n x y P R w pl ql pp qp
 hr:H r=some (.lst (List.map V.ref ps))
 hu:bJ H ps us
 sh:Sh us n
 fl:frs.length=us.length
 S0:0<S
 S6:BB 64 S
 va_:∀ i j,i<us.length->j<n->va (rwF frs i j)*(S:Rat)=((uA us i j:Int):Rat)
theorem RiI.same {K:W.Frag} {H H':Hp} {v r:Addr} {S:Int} {us:List (List Int)} {n:Nat} {frs:List (List (Int×Int))} {x y:Int} {P R:Nat->Int×Int} {w pl ql:Addr} {pp qp ps:List Addr} (h:RiI K H v r S us n frs x y P R w pl ql pp qp ps) (s:aI H H'):RiI K H' v r S us n frs x y P R w pl ql pp qp ps :=
 ⟨⟨s _ _ h.O.hv,s _ _ h.O.hw,s _ _ h.O.hpl,h.O.hps.same s,s _ _ h.O.hql,h.O.hqs.same s,h.O.y0,h.O.cop,h.O.by9,h.O.bx,h.O.pok,h.O.qok,h.O.G⟩,s _ _ h.hr,h.hu.same s,h.sh,h.fl,h.S0,h.S6,h.va_⟩
noncomputable def sI (K:W.Frag):Sp:=λ vs H Q _=>∃ v r S us n frs x y P R w pl ql pp qp ps,vs=[.ref v,.ref r,.int S]/\RiI K H v r S us n frs x y P R w pl ql pp qp ps/\∀ H',aI H H'->Q (.bl true) H'
noncomputable def sW (K:W.Frag):TS:=(bK (tC (.bl true)))
noncomputable def An (K:W.Frag):TE:=(tOp cH (tOp (dU K) (aB 1) (aB 0)) (tOp (dU K) (aB 2) (aB 0)))
noncomputable def Ap (K:W.Frag):TS:=(aU (bH (tCB (Fc K) (aC (bO (hE (aC (tCB (gO K) (aC (aB 8) aN)) aN)) [8,11] (An K)) aN)) (aK 10)) (dG (bR (tOp xN (tOp cH (aB 10) (aB 4)) (tOp cH (tOp cH (aB 3) (aB 2)) (aB 7)))) (bK (tC (.bl false))) cE))
noncomputable def sV (K:W.Frag):TS:=(aU (jX (bQ K (aB 1)) (aK 11) (Ap K)) (sW K))
noncomputable def Am (K:W.Frag):TE:=(tOp cH (tOp (dU K) (aB 1) (aB 0)) (tOp (dU K) (tOp (dU K) (aB 3) (aB 0)) (aB 2)))
noncomputable def Ao (K:W.Frag):TS:=(aU (bH (tCB (Fc K) (aC (bO (hE (aC (tCB (gO K) (aC (aB 6) aN)) aN)) [6,9,1] (Am K)) aN)) (aK 10)) (dG (bR (tOp iJ (tOp cH (aB 10) (aB 4)) (tOp cH (tOp cH (aB 3) (aB 2)) (aB 5)))) (bK (tC (.bl false))) cE))
noncomputable def Al (K:W.Frag):TS:=(aU (jX (hE (aC (tCB (gO K) (aC (aB 8) aN)) aN)) (aK 9) (Ao K)) (sV K))
noncomputable def Ak (K:W.Frag):TS:=(aU (bH (tOp (cN K) (aB 0) (tC (.int 0))) (kP K 2 (cT (aK 3) (cT (aK 4) kQ)))) (aU (bH (aT (jR K) [] E0 (aC (tOp (cN K) (aB 0) (tC (.int 1))) (aC (tCB (gO K) (aC (aB 1) aN)) aN))) (kP K 2 (cT (aK 5) (cT (aK 6) kQ)))) (aU (bH (aT (jR K) [] E0 (aC (tOp (cN K) (aB 0) (tC (.int 2))) (aC (tCB (gO K) (aC (tOp (dU K) (aB 1) (tC (.int 0))) aN)) aN))) (kP K 2 (cT (aK 7) (cT (aK 8) kQ)))) (aU (dG (tOr (bR (tOp rEq (aB 5) (tC (.int 0)))) (bR (tOp rEq (aB 7) (tC (.int 0))))) (bK (tC (.bl false))) cE) (Al K)))))
noncomputable def wG (K:W.Frag):TS:=(aU (dG (tOr (tU (tB (tCB Je (aC (aB 0) (aC (tC (.ty "tuple")) aN))))) (tOr (bR (tOp rNe (tCB (gO K) (aC (aB 0) aN)) (tC (.int 3)))) (tU (tB (aT (jS K) [] E0 (aC (tOp (cN K) (aB 0) (tC (.int 0))) aN)))))) (bK (tC (.bl false))) cE) (Ak K))
theorem Qb {K vs H Q E} (h:sI K vs H Q E):vs.length=3:=by obtain ⟨_,_,_,_,_,_,_,_,_,_,_,_,_,_,_,_,rfl,_⟩:=h;rfl
theorem Rx {K vs H Q E} (h:sI K vs H Q E):wG K { nx:=λ _ H'=>Q .non H',rt:=Q } (start qW vs) H:=by
 obtain ⟨v,r,S,us,n,frs,x,y,P,R,w,pl,ql,pp,qp,ps,rfl,I,q⟩:=h
 have O:=I.O
 have upl:=I.hu.length
 have m1:=I.sh.m1
 have n1:=I.sh.n1
 have szz:=I.sh.sz
 have hm:us.length<=24:=by omega
 have hn:n<=24:=by omega
 rw [show start qW [V.ref v,V.ref r,V.int S]=[some (.ref v),some (.ref r),some (.int S),none,none,none,none,none,none,none,none,none] from rfl]
 (try dsimp only [wG,Je,aU,aB,tC,tOp,rNe,fH,bK,dG,bR,tB,tU,cE,aT,aC,aN,tCB,gO,cN,tOr,Lq0,Lq1,cQ,cR,cP];try simp only [wG,Je,aU,aB,tC,tOp,rNe,fH,bK,dG,bR,tB,tU,cE,aT,aC,aN,tCB,gO,cN,tOr,Lq0,Lq1,Option.some.injEq,exists_eq_left',V.int.injEq,V.ref.injEq,V.bl.injEq,V.ty.injEq,List.cons.injEq,and_true,true_and,List.append_nil,exists_and_left,and_assoc,exists_eq_left,cQ,cR,cP,dQ,gQ,eN])
 refine ⟨true,.inl ⟨rfl,rfl,_,O.hv⟩,tV ⟨_,.inr (SqT.of O.hv),tV ⟨_,SqT.of O.hv,_,kR,w,x,y,rfl,SqT.of O.hw,O.y0,O.cop,_,rfl,tV ?_⟩⟩⟩
 (dsimp? [Ak])
 have lp:(List.map V.ref ps).length=frs.length:=by rw [length_map,upl,I.fl]
 refine ⟨_,SqT.of O.hv,_,kR,_,rfl,_,SqT.of O.hw,rfl,_,_,rfl,_,_,rfl,rfl,_,SqT.of O.hv,_,iI,_,.inl (SqL.of I.hr),pl,pp,frs.length,P,by rw [lp],O.hpl,O.hps,O.pok,by have:=I.fl;omega,O.G.p1,λ C cs cl pt H1 s1 C0 bC hcl hpt hcs=>?_⟩
 obtain ⟨p0,hp0⟩:∃ p,ps[0]?=some p:=⟨_,getElem?_eq_getElem (by omega)⟩
 obtain ⟨g0,eg0,hrow0⟩:=I.hu.get hp0
 have gl0:(List.map V.int g0).length=n:=by rw [length_map];exact I.sh.hr g0 (mem_of_getElem? eg0)
 refine ⟨_,rfl,_,SqT.of hpt,rfl,_,_,rfl,_,_,rfl,rfl,_,SqT.of (s1 _ _ O.hv),_,atI2,_,SqL.of (s1 _ _ I.hr),_,fI (j:=0) (v:=V.ref p0) (by rw [getElem?_map,hp0];rfl),?_⟩
 refine ⟨_,rfl,_,.inl (SqL.of (s1 _ _ hrow0)),ql,qp,n,R,by rw [gl0],s1 _ _ O.hql,O.hqs.same s1,O.qok,by omega,O.G.q1,λ C2 cs2 cl2 pt2 H2 s2 C20 bC2 hcl2 hpt2 hcs2=>?_⟩
 refine ⟨_,rfl,_,SqT.of hpt2,rfl,_,_,rfl,_,_,rfl,rfl,rfl,?_⟩
 rw [if_neg (λ e=>by injection e with e;omega)]
 refine ⟨rfl,?_⟩
 rw [if_neg (λ e=>by injection e with e;omega)]
 have I2:=I.same (s1.trans s2)
 have s02:=s1.trans s2
 have hcl':=s2 _ _ hcl
 have G:=O.G
 rw [I.fl] at G hcs hcl'
 have hv:va (x,y)*(y:Rat)=x:=iK (f:=(x,y)) O.y0
 clear hpt hpt2 s1 s2
 have bS:BB 64 S:=I.S6
 (dsimp? [Al,jX,hE])
 refine ⟨_,.inl (SqL.of hcl2),?_⟩
 rw [length_map,aJ]
 refine ⟨by omega,by omega,?_⟩
 rw [Int.toNat_natCast]
 refine Ch (lo:=0) (n:=n) (g:=aK 9) (D:={ nx:=sV K { nx:=λ _ H'=>Q .non H',rt:=Q },rt:=Q }) (λ i σ H3=>aI H2 H3/\∃ o9 o10,σ=[some (.ref v),some (.ref r),some (.int S),some (.int x),some (.int y),some (.int C),some (.ref cl),some (.int C2),some (.ref cl2),o9,o10,none]) ⟨aI.refl _,none,none,rfl⟩ ?_ ?_
 ·rintro j σ H3 hj ⟨s3,o9,o10,rfl⟩
  (dsimp? [Ao,bO,hE,Fc])
  refine ⟨_,.inl (s3.seq (SqL.of hcl')),?_⟩
  rw [length_map,aJ]
  refine ⟨by omega,by omega,?_⟩
  rw [Int.toNat_natCast]
  refine iN (lo:=0) (W:=λ i zs H4=>H4=H3/\zs=List.map V.int (ofF i λ k=>cs k*uA us k j)) (by rw [sizeLine_eq];omega) ⟨rfl,rfl⟩ ?_ ?_
  ·rintro k zs H4 hk _ ⟨rfl,rfl⟩
   (dsimp? [Am,aQ,List.map_cons,List.map_nil,Option.join_some])
   obtain ⟨pk,g,epk,eg,hrow,eu⟩:=Xj (I2.same s3).hu hk
   have gl:=I.sh.hr g (mem_of_getElem? eg)
   have gj:g.getD j 0∈g:=by rw [getD_eq_getElem?_getD,getElem?_eq_getElem (by omega)];exact getElem_mem (by omega)
   have bu:=bb_u (I.sh.hu g (mem_of_getElem? eg) _ gj)
   refine ⟨_,s3.seq (SqL.of hcl'),_,by rw [Int.zero_add];exact fI (v:=V.int (cs k)) (by rw [getElem?_map,cF _ hk];rfl),_,SqL.of (I2.same s3).hr,_,by rw [Int.zero_add];exact fI (v:=V.ref pk) (by rw [getElem?_map,epk];rfl),_,rfl,_,SqL.of hrow,_,by rw [Int.zero_add];exact fR (by omega),_,rfl,_,rfl,.b (m:=1000000) (n:=200) (gT bC (hcs k hk).2.1 (hcs k hk).2.2) bu,?_⟩
   rw [cI,map_append,eu];rfl
  ·rintro zs H4 _ ⟨rfl,rfl⟩ p hp
   have es:=Yo (m:=us.length) (f:=λ k=>cs k*uA us k j) (p:=1000200) (by omega) λ k hk=>by
    obtain ⟨pk,g,epk,eg,hrow,eu⟩:=Xj (I2.same s3).hu hk
    have gl:=I.sh.hr g (mem_of_getElem? eg)
    have gj:g.getD j 0∈g:=by rw [getD_eq_getElem?_getD,getElem?_eq_getElem (by omega)];exact getElem_mem (by omega)
    rw [eu]
    exact ((gT bC (hcs k hk).2.1 (hcs k hk).2.2).mul (bb_u (I.sh.hu g (mem_of_getElem? eg) _ gj))).mono (by decide)
   refine ⟨_,SqL.of aG,.b (m:=1000300) (n:=9000) (es.mono (by decide)) O.by9,.b (m:=20000) (n:=64) O.bx bS,.b (m:=20064) (n:=1000000) ((O.bx.mul bS).mono (by decide)) bC,?_⟩
   rw [zK,if_neg (Zp G O.y0 C0 I.S0 hv (λ k hk=>(hcs k hk).1) I.va_ hj)]
   exact ⟨s3.trans (aI.upd hp),_,rfl⟩
 ·rintro σ H3 ⟨s3,o9,o10,rfl⟩
  have I3:=I2.same s3
  (dsimp? [sV,jX,bQ])
  refine ⟨⟨_,SqL.of I3.hr⟩,mT (K:=K) (a:=r) (xs:=List.map V.ref ps) (g:=aK 11) (D:={ nx:=sW K { nx:=λ _ H'=>Q .non H',rt:=Q },rt:=Q }) (λ i σ H4=>aI H3 H4/\∃ o10 o11,σ=[some (.ref v),some (.ref r),some (.int S),some (.int x),some (.int y),some (.int C),some (.ref cl),some (.int C2),some (.ref cl2),o9,o10,o11]) ⟨aI.refl _,_,_,rfl⟩ ?_ ?_ ?_⟩
  ·rintro i σ H4 _ ⟨s4,_⟩
   exact s4.seq (SqL.of I3.hr)
  ·rintro i z σ H4 hi ⟨s4,o10,o11,rfl⟩
   have I4:=I3.same s4
   obtain ⟨p0,rfl,hp0⟩:=bV hi
   have him:i<us.length:=by have:=(List.getElem?_eq_some_iff.mp hp0).1;omega
   obtain ⟨pk,g,epk,eg,hrow,eu⟩:=Xj I4.hu him
   rw [hp0] at epk
   obtain rfl:=Option.some.inj epk
   have gl:=I.sh.hr g (mem_of_getElem? eg)
   have bu:∀ j,j<n->BB 200 (g.getD j 0):=λ j hj=>bb_u (I.sh.hu g (mem_of_getElem? eg) _ (by rw [getD_eq_getElem?_getD,getElem?_eq_getElem (by omega)];exact getElem_mem (by omega)))
   have hc4:=(s3.trans s4) _ _ hcl2
   (dsimp? [Ap,bO,hE,Fc])
   refine ⟨_,.inl (SqL.of hc4),?_⟩
   rw [length_map,aJ]
   refine ⟨by omega,by omega,?_⟩
   rw [Int.toNat_natCast]
   refine iN (lo:=0) (W:=λ i' zs H5=>H5=H4/\zs=List.map V.int (ofF i' λ k=>cs2 k*uA us i k)) (by rw [sizeLine_eq];omega) ⟨rfl,rfl⟩ ?_ ?_
   ·rintro k zs H5 hk _ ⟨rfl,rfl⟩
    (dsimp! [An,aQ,List.map_cons,List.map_nil,Option.join_some,aB,tOp,dU])
    refine ⟨_,SqL.of hc4,_,by rw [Int.zero_add];exact fI (v:=V.int (cs2 k)) (by rw [getElem?_map,cF _ hk];rfl),_,SqL.of hrow,_,by rw [Int.zero_add];exact fR (by omega),?_⟩
    refine ⟨.b (m:=1000000) (n:=200) (gT bC2 (hcs2 k hk).2.1 (hcs2 k hk).2.2) (bu k hk),rfl,?_⟩
    rw [cI,map_append,eu];rfl
   ·rintro zs H5 _ ⟨rfl,rfl⟩ p hp
    have es:=Yo (m:=n) (f:=λ k=>cs2 k*uA us i k) (p:=1000200) (by omega) λ k hk=>by
     rw [eu]
     exact ((gT bC2 (hcs2 k hk).2.1 (hcs2 k hk).2.2).mul (bu k hk)).mono (by decide)
    refine ⟨_,SqL.of aG,.b (m:=1000300) (n:=9000) (es.mono (by decide)) O.by9,.b (m:=20000) (n:=64) O.bx bS,.b (m:=20064) (n:=1000000) ((O.bx.mul bS).mono (by decide)) bC2,?_⟩
    rw [zK,if_neg (Zq G O.y0 C20 I.S0 hv (λ k hk=>(hcs2 k hk).1) I.va_ him)]
    exact ⟨s4.trans (aI.upd hp),_,rfl⟩
  ·rintro σ H4 ⟨s4,o10,o11,rfl⟩
   (dsimp! [sW,aU,bH,aK,aB,tC,tOp,rI,cH,rEq,fH,bK,aT,aC,aN,cN,List.append_nil])
   exact q _ ((s02.trans s3).trans s4)
noncomputable def Fg:List PySem.Str:=["_law_script", "_law_units", "_law_scale", "_law_handed", "_law_found", "_law_stays"]
noncomputable def Bg (K:W.Frag):Sp:=λ vs H Q _=>∃ a ns,vs=[.ref a]/\SqL K H a (List.map V.int ns)/\ns.length<=63/\∀ H',Q (.bl true) H'
noncomputable def Oh (K:W.Frag):TS:=(bK (tL (aT (sI K) [] E0 (aC (aB 4) (aC (aB 1) (aC (aB 2) aN)))) (tOp (rEqD K 2) (aB 3) (aB 5))))
noncomputable def Yv (K:W.Frag):TE:=(aT (mV K) [] E0 (aC (aB 0) (aC (aB 1) aN)))
noncomputable def Yu (K:W.Frag):TE:=(bO (bQ K (aB 0)) [1] (Yv K))
noncomputable def Og (K:W.Frag):TS:=(aU (bH (bO (bQ K (aB 1)) [2] (Yu K)) (aK 5)) (Oh K))
noncomputable def Of (K:W.Frag):TS:=(aU (bH (aT (zQ K) [] E0 (aC (aB 3) aN)) (aK 4)) (Og K))
noncomputable def Oi (K:W.Frag):TE:=(aT (mV K) [] E0 (aC (aB 0) (aC (aB 1) aN)))
noncomputable def Fw (K:W.Frag):TE:=(bO (bQ K (aB 0)) [1] (Oi K))
noncomputable def Oe (K:W.Frag):TS:=(aU (bH (bO (bQ K (aB 1)) [2] (Fw K)) (aK 3)) (Of K))
noncomputable def Od (K:W.Frag):TS:=(aU (bH (tOp (dU K) (pM (aC (tC (.int 12)) (aC (tC (.int 12)) (aC (tC (.int 12)) (aC (tOp gP (tOp tY (tC (.int 10)) (tC (.int 9))) (tC (.int 7))) aN))))) (tOp eY (aT (dE K) [] E0 (aC (aB 0) (aC (tC (.int 4)) aN))) (tC (.int 4)))) (aK 2)) (Oe K))
noncomputable def Xk (K:W.Frag):TS:=(aU (bH (aT (wK K) [] E0 (aC (aB 0) aN)) (aK 1)) (Od K))
theorem len_law {K vs H Q E} (h:Bg K vs H Q E):vs.length=1:=by obtain ⟨a,ns,rfl,_⟩:=h;rfl
theorem Pd {K:W.Frag} {G:Hp} {a r:Addr} {ps:List Addr} {us:List (List Int)} {n:Nat} {S:Int} {o3 o4 o5:Option V} {P:List V->Hp->Prop} (hr:G r=some (.lst (List.map V.ref ps))) (hu:bJ G ps us) (sh:Sh us n) (S0:0<S) (S6:BB 64 S) (hP:∀ qs H',aI G H'->gZ K H' qs (lwR S us)->P (List.map V.ref qs) H') :
  qC (Itl K r) [some (.ref a),some (.ref r),some (.int S),o3,o4,o5] [2] (Fw K) G P:=by
 have upl:=hu.length
 have sz:=sh.sz
 refine bX (K:=K) (a:=r) (xs:=List.map V.ref ps) (λ i zs H3=>aI G H3/\∃ qs,zs=List.map V.ref qs/\gZ K H3 qs ((us.take i).map λ row=>row.map λ u=>lo2 u S)) (by rw [length_map,sizeLine_eq];omega) ⟨aI.refl _,[],rfl,trivial⟩ ?_ ?_ ?_
 ·rintro i zs H3 _ ⟨s3,_⟩
  exact s3.seq (SqL.of hr)
 ·rintro i x zs H3 hi _ ⟨s3,qs,rfl,hq⟩
  obtain ⟨p,rfl,hp⟩:=bV hi
  obtain ⟨g,eg,hrow⟩:=hu.get hp
  have gl:=sh.hr g (mem_of_getElem? eg)
  (dsimp? [Fw,bO,bQ,aQ,List.map_cons,List.map_nil,Option.join_some])
  refine ⟨⟨_,s3.seq (SqL.of hrow)⟩,bX (K:=K) (a:=p) (xs:=List.map V.int g) (λ j zs H4=>aI H3 H4/\∃ rs,zs=List.map V.ref rs/\bI K H4 rs ((g.take j).map λ u=>lo2 u S)) (by rw [length_map,sizeLine_eq];omega) ⟨aI.refl _,[],rfl,trivial⟩ ?_ ?_ ?_⟩
  ·rintro j zs H4 _ ⟨s4,_⟩
   exact (s3.trans s4).seq (SqL.of hrow)
  ·rintro j x zs H4 hj _ ⟨s4,rs,rfl,hrs⟩
   obtain ⟨u,rfl,hu'⟩:=cU hj
   (dsimp! [Oi,aQ,List.map_cons,List.map_nil,Option.join_some,aB,tC,tOp,rI0,rI,gP,cH,aT,aC,aN,dU,List.append_nil])
   refine ⟨u,S,rfl,S0,S6.mono (by decide),λ x y q H5 s5 hq5 lo=>⟨s4.trans s5,rs++[q],by rw [map_append];rfl,?_⟩⟩
   rw [dN hu',map_append]
   refine bI.snoc (hrs.same s5) ?_
   obtain ⟨e1,e2⟩:=lo.uniq S0 (cG S0)
   rw [← e1,← e2]
   exact SqT.of hq5
  ·rintro zs H4 _ ⟨s4,rs,rfl,hrs⟩ l hl
   rw [length_map,take_length] at hrs
   refine ⟨(s3.trans s4).trans (aI.upd hl),qs++[l],by rw [map_append];rfl,?_⟩
   rw [dN eg,map_append]
   exact gZ.append (show gZ K _ [l] [g.map λ u=>lo2 u S] from ⟨⟨rs,aG,hrs.same (aI.upd hl)⟩,trivial⟩) ((hq.same s4).same (aI.upd hl))
 ·rintro zs H3 _ ⟨s3,qs,rfl,hq⟩
  rw [length_map,upl,take_length] at hq
  exact hP qs H3 s3 hq
theorem rd_law {K vs H Q E} (h:Bg K vs H Q E):Xk K { nx:=λ _ H'=>Q .non H',rt:=Q } (start Fg vs) H:=by
 obtain ⟨a,ns,rfl,hS,hn,q⟩:=h
 rw [show start Fg [V.ref a]=[some (.ref a),none,none,none,none,none] from rfl]
 (dsimp? [Xk])
 refine ⟨a,ns,rfl,hS,λ r ps us n H1 s1 hr hu sh=>?_⟩
 obtain ⟨S,aS,S0,S6⟩:∃ S:Int,atI [V.int 12,V.int 12,V.int 12,V.int (10 ^ Int.toNat 9+7)] (ns.getD (4:Int).toNat 0 % 4)=some (.int S)/\0<S/\BB 64 S/\(S=12∨S=1000000007):=by
  rcases mod4 (ns.getD (4:Int).toNat 0) with e | e | e | e <;> rw [e]
  ·exact ⟨12,kR,by decide,by show (12:Int).natAbs<2 ^ 64;decide,.inl rfl⟩
  ·exact ⟨12,iI,by decide,by show (12:Int).natAbs<2 ^ 64;decide,.inl rfl⟩
  ·exact ⟨12,atI2,by decide,by show (12:Int).natAbs<2 ^ 64;decide,.inl rfl⟩
  ·exact ⟨_,atI3,by decide,by show (10 ^ Int.toNat 9+7:Int).natAbs<2 ^ 64;decide,.inr (by decide)⟩
 (dsimp? [Od])
 refine ⟨⟨by decide,by decide,by decide⟩,by show 4<=sizeLine;decide,λ p hp=>⟨a,ns,4,rfl,(s1.trans (aI.upd hp)).seq hS,by decide,_,rfl,by decide,_,SqL.of aG,_,aS,?_⟩⟩
 have s2:=aI.upd (o:=HO.lst [V.int 12,V.int 12,V.int 12,V.int (10 ^ Int.toNat 9+7)]) hp
 have hr2:=s2 _ _ hr
 have hu2:=hu.same s2
 generalize upd H1 p (.lst [V.int 12,V.int 12,V.int 12,V.int (10 ^ Int.toNat 9+7)])=H2 at s2 hr2 hu2
 (dsimp? [Oe,bO,bQ])
 refine ⟨⟨_,SqL.of hr2⟩,Pd hr2 hu2 sh S0 S6.1 λ qs H3 s3 hq l hl=>?_⟩
 have s4:=s3.trans (aI.upd (o:=HO.lst (List.map V.ref qs)) hl)
 have hl4:(upd H3 l (.lst (List.map V.ref qs))) l=some (.lst (List.map V.ref qs)):=aG
 have hq4:=hq.same (aI.upd (o:=HO.lst (List.map V.ref qs)) hl)
 generalize upd H3 l (.lst (List.map V.ref qs))=H4 at s4 hl4 hq4
 (dsimp? [Of])
 refine ⟨l,qs,lwR S us,n,rfl,hl4,hq4,lwR_wor sh S0 S6.1,λ z mn=>wo_of sh S6.2 mn,λ v x y P R w pl ql pp qp H5 s5 O=>?_⟩
 have s25:=s4.trans s5
 (dsimp! [Og,bO,bQ,aU,bH,aK,aB,tC,tOp,bK,dG,tB,tU,cE,aT,aC,aN,dU,List.append_nil])
 refine ⟨⟨_,SqL.of (s25 _ _ hr2)⟩,Pd (s25 _ _ hr2) (hu2.same s25) sh S0 S6.1 λ qs2 H6 s6 hq6 l2 hl2=>?_⟩
 have s7:=s6.trans (aI.upd (o:=HO.lst (List.map V.ref qs2)) hl2)
 have hl7:(upd H6 l2 (.lst (List.map V.ref qs2))) l2=some (.lst (List.map V.ref qs2)):=aG
 have hq7:=hq6.same (aI.upd (o:=HO.lst (List.map V.ref qs2)) hl2)
 generalize upd H6 l2 (.lst (List.map V.ref qs2))=H7 at s7 hl7 hq7
 have I:RiI K H5 v r S us n (lwR S us) x y P R w pl ql pp qp ps:=⟨O,s25 _ _ hr2,hu2.same s25,sh,sN _ _,S0,S6.1,lwR_va sh S0⟩
 (dsimp? [Oh])
 refine ⟨v,r,S,us,n,lwR S us,x,y,P,R,w,pl,ql,pp,qp,ps,rfl,I.same s7,λ H8 s8=>?_⟩
 refine ⟨_,rfl,Qj ⟨true,Vo (SqL.of (s8 _ _ (s7 _ _ (s5 _ _ hl4)))) (SqL.of (s8 _ _ hl7)) (((hq4.same s5).same s7).same s8) (hq7.same s8),q _⟩⟩
noncomputable def top (i:Nat):Stmt:=PySem.Challenge.pw_mixplay_k31_whole_worth.main.body.getD i (.Pass ⟨0,0,0,0⟩)
noncomputable abbrev kN:Stmt:=top 43
noncomputable abbrev oM:Stmt:=top 44
noncomputable abbrev oK:Stmt:=top 45
noncomputable abbrev qP:Stmt:=top 51
noncomputable abbrev kW:Stmt:=top 52
noncomputable abbrev kM:Stmt:=top 47
noncomputable abbrev lZ:Stmt:=top 48
noncomputable abbrev gB:Stmt:=top 37
noncomputable abbrev lS:Stmt:=top 38
noncomputable abbrev oN:Stmt:=top 5
noncomputable abbrev vY:Stmt:=top 6
noncomputable abbrev Bi:Stmt:=top 7
noncomputable abbrev oU:Stmt:=top 39
noncomputable abbrev wA:Stmt:=top 11
noncomputable abbrev lU:Stmt:=top 16
noncomputable abbrev qO:Stmt:=top 14
noncomputable abbrev rZ:Stmt:=top 15
noncomputable abbrev vW:Stmt:=top 22
noncomputable abbrev vX:Stmt:=top 9
noncomputable abbrev lR:Stmt:=top 26
noncomputable abbrev iQ:Stmt:=top 24
noncomputable abbrev xV:Stmt:=top 25
noncomputable abbrev xU:Stmt:=top 23
noncomputable abbrev dD:Stmt:=jV (top 32) 0
noncomputable abbrev gD:Stmt:=top 27
noncomputable abbrev iO:Stmt:=top 28
noncomputable abbrev iP:Stmt:=top 29
noncomputable abbrev jC:Stmt:=top 30
noncomputable abbrev kB:Stmt:=top 17
noncomputable abbrev dJ:Stmt:=jV (top 32) 3
noncomputable abbrev dZ:Stmt:=jV (top 32) 2
noncomputable abbrev mB:Stmt:=top 18
noncomputable abbrev oI:Stmt:=top 19
noncomputable abbrev cZ:Stmt:=jV (top 32) 4
noncomputable abbrev fO:Stmt:=jV (top 32) 1
noncomputable abbrev dY:Stmt:=jV (top 32) 5
noncomputable abbrev kL:Stmt:=top 33
noncomputable abbrev fF:Stmt:=top 31
noncomputable abbrev cJ:Stmt:=jV (top 32) 6
noncomputable abbrev eE:Stmt:=jV (top 32) 7
noncomputable abbrev gC:Stmt:=top 34
noncomputable abbrev Bj:Stmt:=top 10
noncomputable abbrev eO:Stmt:=jV (top 32) 8
noncomputable abbrev kO:Stmt:=jV (top 32) 9
noncomputable abbrev gE:Stmt:=jV (top 32) 11
noncomputable abbrev iR:Stmt:=jV (top 32) 10
noncomputable abbrev oQ:Stmt:=top 35
noncomputable abbrev qN:Stmt:=top 12
noncomputable abbrev vZ:Stmt:=top 8
noncomputable abbrev lT:Stmt:=top 40
noncomputable abbrev nW:Stmt:=top 41
noncomputable abbrev oJ:Stmt:=top 46
noncomputable abbrev jE:Stmt:=top 49
noncomputable abbrev gU:Stmt:=top 50
noncomputable abbrev kJ:Stmt:=top 53
noncomputable abbrev xB:Stmt:=top 54
structure Bn (K:W.Frag) (mg:Str->Option Value) (x:Str) (st:Stmt) (f:Addr) (fd:FuncData) (ps:List Str):Prop where
 F:Fun K x x st f fd
 b:uD K fd ps []
 m:mg x=some (.ref f)
structure BnM (K:W.Frag) (C:Addr) (m q:Str) (st:Stmt) (f:Addr) (fd:FuncData) (ps:List Str):Prop where
 F:Fun K m q st f fd
 b:uD K fd ps []
 m:Meth K C m f
set_option genInjectivity false in
set_option genSizeOf false in
structure Ad where
 f_l_cell_at:Addr
 d_l_cell_at:FuncData
 f_l_block:Addr
 d_l_block:FuncData
 f_l_mixed:Addr
 d_l_mixed:FuncData
 f_l_unit:Addr
 d_l_unit:FuncData
 f_l_rows:Addr
 d_l_rows:FuncData
 f_l_divisor:Addr
 d_l_divisor:FuncData
 f_l_lowest:Addr
 d_l_lowest:FuncData
 f_least_whole:Addr
 d_least_whole:FuncData
 f_lift_of:Addr
 d_lift_of:FuncData
 f_divisor:Addr
 d_divisor:FuncData
 f_ratio:Addr
 d_ratio:FuncData
 f_plus:Addr
 d_plus:FuncData
 f_lifted:Addr
 d_lifted:FuncData
 f_below:Addr
 d_below:FuncData
 f_cleared:Addr
 d_cleared:FuncData
 f_shared:Addr
 d_shared:FuncData
 f_plain:Addr
 d_plain:FuncData
 f_whole:Addr
 d_whole:FuncData
 f_times:Addr
 d_times:FuncData
 f_longest:Addr
 d_longest:FuncData
 f_column_of:Addr
 d_column_of:FuncData
 f_span:Addr
 d_span:FuncData
 f_unit:Addr
 d_unit:FuncData
 f_Corner_init:Addr
 d_Corner_init:FuncData
 f_bits_beyond:Addr
 d_bits_beyond:FuncData
 f_stretched:Addr
 d_stretched:FuncData
 f_shortened:Addr
 d_shortened:FuncData
 f_rounded:Addr
 d_rounded:FuncData
 f_products:Addr
 d_products:FuncData
 f_Corner_entering:Addr
 d_Corner_entering:FuncData
 f_Corner_numbers:Addr
 d_Corner_numbers:FuncData
 f_is_ahead:Addr
 d_is_ahead:FuncData
 f_leaving:Addr
 d_leaving:FuncData
 f_Corner_leaving_by:Addr
 d_Corner_leaving_by:FuncData
 f_Corner_bottom:Addr
 d_Corner_bottom:FuncData
 f_Corner_step_in:Addr
 d_Corner_step_in:FuncData
 f_unstopped:Addr
 d_unstopped:FuncData
 f_turned_round:Addr
 d_turned_round:FuncData
 f_Corner_comes_to:Addr
 d_Corner_comes_to:FuncData
 f_Corner_ends_with:Addr
 d_Corner_ends_with:FuncData
 f_last_corner:Addr
 d_last_corner:FuncData
 f_over:Addr
 d_over:FuncData
 f_Corner_spread:Addr
 d_Corner_spread:FuncData
 f_Corner_xs:Addr
 d_Corner_xs:FuncData
 f_Corner_ways:Addr
 d_Corner_ways:FuncData
 f_Corner_ys:Addr
 d_Corner_ys:FuncData
 f_best:Addr
 d_best:FuncData
 f_summed:Addr
 d_summed:FuncData
 f_minus:Addr
 d_minus:FuncData
 f_divided:Addr
 d_divided:FuncData
 f_worth:Addr
 d_worth:FuncData
 f_l_whole:Addr
 d_l_whole:FuncData
 f_l_fraction:Addr
 d_l_fraction:FuncData
 f_l_parts_of:Addr
 d_l_parts_of:FuncData
 f_l_right:Addr
 d_l_right:FuncData
 f_law:Addr
 d_law:FuncData
structure Tx (K:W.Frag) (mg:Str->Option Value) (a:Ad):Prop where
 l_cell_at:Bn K mg "_law_cell_at" kN a.f_l_cell_at a.d_l_cell_at ["_law_script", "_law_k"]
 l_block:Bn K mg "_law_block" oM a.f_l_block a.d_l_block ["_law_script", "_law_k"]
 l_mixed:Bn K mg "_law_mixed" oK a.f_l_mixed a.d_l_mixed ["_law_script", "_law_k"]
 l_unit:Bn K mg "_law_unit" qP a.f_l_unit a.d_l_unit ["_law_script", "_law_place", "_law_way"]
 l_rows:Bn K mg "_law_rows" kW a.f_l_rows a.d_l_rows ["_law_script"]
 l_divisor:Bn K mg "_law_divisor" kM a.f_l_divisor a.d_l_divisor ["_law_one", "_law_other"]
 l_lowest:Bn K mg "_law_lowest" lZ a.f_l_lowest a.d_l_lowest ["_law_top", "_law_bottom"]
 least_whole:Bn K mg "least_whole" gB a.f_least_whole a.d_least_whole ["row"]
 lift_of:Bn K mg "lift_of" lS a.f_lift_of a.d_lift_of ["rows"]
 divisor:Bn K mg "divisor" oN a.f_divisor a.d_divisor ["one", "other"]
 ratio:Bn K mg "ratio" vY a.f_ratio a.d_ratio ["top", "bottom"]
 plus:Bn K mg "plus" Bi a.f_plus a.d_plus ["one", "other"]
 lifted:Bn K mg "lifted" oU a.f_lifted a.d_lifted ["row", "lift"]
 below:Bn K mg "below" wA a.f_below a.d_below ["one", "other"]
 cleared:Bn K mg "cleared" lU a.f_cleared a.d_cleared ["row"]
 shared:Bn K mg "shared" qO a.f_shared a.d_shared ["row"]
 plain:Bn K mg "plain" rZ a.f_plain a.d_plain ["row"]
 whole:Bn K mg "whole" vW a.f_whole a.d_whole ["row"]
 times:Bn K mg "times" vX a.f_times a.d_times ["one", "other"]
 longest:Bn K mg "longest" lR a.f_longest a.d_longest ["row"]
 column_of:Bn K mg "column_of" iQ a.f_column_of a.d_column_of ["rows", "place"]
 span:Bn K mg "span" xV a.f_span a.d_span ["column"]
 unit:Bn K mg "unit" xU a.f_unit a.d_unit ["many", "place"]
 Corner_init:BnM K (cY K "Corner") "__init__" "Corner.__init__" dD a.f_Corner_init a.d_Corner_init ["self", "lists"]
 bits_beyond:Bn K mg "bits_beyond" gD a.f_bits_beyond a.d_bits_beyond ["column", "longs"]
 stretched:Bn K mg "stretched" iO a.f_stretched a.d_stretched ["number", "bits"]
 shortened:Bn K mg "shortened" iP a.f_shortened a.d_shortened ["row", "bits", "wides"]
 rounded:Bn K mg "rounded" jC a.f_rounded a.d_rounded ["lists", "bits"]
 products:Bn K mg "products" kB a.f_products a.d_products ["one", "other"]
 Corner_entering:BnM K (cY K "Corner") "entering" "Corner.entering" dJ a.f_Corner_entering a.d_Corner_entering ["self"]
 Corner_numbers:BnM K (cY K "Corner") "numbers" "Corner.numbers" dZ a.f_Corner_numbers a.d_Corner_numbers ["self", "column"]
 is_ahead:Bn K mg "is_ahead" mB a.f_is_ahead a.d_is_ahead ["row", "other", "column", "listed"]
 leaving:Bn K mg "leaving" oI a.f_leaving a.d_leaving ["rows", "column", "listed"]
 Corner_leaving_by:BnM K (cY K "Corner") "leaving_by" "Corner.leaving_by" cZ a.f_Corner_leaving_by a.d_Corner_leaving_by ["self", "numbers"]
 Corner_bottom:BnM K (cY K "Corner") "bottom" "Corner.bottom" fO a.f_Corner_bottom a.d_Corner_bottom ["self"]
 Corner_step_in:BnM K (cY K "Corner") "step_in" "Corner.step_in" dY a.f_Corner_step_in a.d_Corner_step_in ["self", "column", "numbers", "at"]
 unstopped:Bn K mg "unstopped" kL a.f_unstopped a.d_unstopped ["corner"]
 turned_round:Bn K mg "turned_round" fF a.f_turned_round a.d_turned_round ["row"]
 Corner_comes_to:BnM K (cY K "Corner") "comes_to" "Corner.comes_to" cJ a.f_Corner_comes_to a.d_Corner_comes_to ["self", "inside"]
 Corner_ends_with:BnM K (cY K "Corner") "ends_with" "Corner.ends_with" eE a.f_Corner_ends_with a.d_Corner_ends_with ["self", "column"]
 last_corner:Bn K mg "last_corner" gC a.f_last_corner a.d_last_corner ["lists"]
 over:Bn K mg "over" Bj a.f_over a.d_over ["one", "other"]
 Corner_spread:BnM K (cY K "Corner") "spread" "Corner.spread" eO a.f_Corner_spread a.d_Corner_spread ["self", "numbers"]
 Corner_xs:BnM K (cY K "Corner") "xs" "Corner.xs" kO a.f_Corner_xs a.d_Corner_xs ["self"]
 Corner_ways:BnM K (cY K "Corner") "ways" "Corner.ways" gE a.f_Corner_ways a.d_Corner_ways ["self", "column"]
 Corner_ys:BnM K (cY K "Corner") "ys" "Corner.ys" iR a.f_Corner_ys a.d_Corner_ys ["self"]
 best:Bn K mg "best" oQ a.f_best a.d_best ["rows", "bounds", "goal"]
 summed:Bn K mg "summed" qN a.f_summed a.d_summed ["fractions"]
 minus:Bn K mg "minus" vZ a.f_minus a.d_minus ["one", "other"]
 divided:Bn K mg "divided" lT a.f_divided a.d_divided ["weights", "total"]
 worth:Bn K mg "worth" nW a.f_worth a.d_worth ["rows"]
 l_whole:Bn K mg "_law_whole" oJ a.f_l_whole a.d_l_whole ["_law_found"]
 l_fraction:Bn K mg "_law_fraction" jE a.f_l_fraction a.d_l_fraction ["_law_found"]
 l_parts_of:Bn K mg "_law_parts_of" gU a.f_l_parts_of a.d_l_parts_of ["_law_found", "_law_many"]
 l_right:Bn K mg "_law_right" kJ a.f_l_right a.d_l_right ["_law_found", "_law_rows_here", "_law_scale"]
 law:Bn K mg "law" xB a.f_law a.d_law ["_law_script"]
 n_abs:mg "abs" = none
 n_bool:mg "bool" = none
 n_enumerate:mg "enumerate" = none
 n_int:mg "int" = none
 n_isinstance:mg "isinstance" = none
 n_len:mg "len" = none
 n_list:mg "list" = none
 n_max:mg "max" = none
 n_min:mg "min" = none
 n_range:mg "range" = none
 n_sum:mg "sum" = none
 n_tuple:mg "tuple" = none
 n_zip:mg "zip" = none
 c_Corner:mg "Corner" = some (.ref (cY K "Corner"))
 mk_Corner:Mk K (cY K "Corner") a.f_Corner_init
 ct:tX K
 g_BITS:∃ t,mg "BITS" = some (.int 40 t)
section
variable {P:Program} {w:World} {K:W.Frag} {mg:Str->Option Value} {base:Heap} {a:Ad}
theorem Mu:bF vJ ["_law_script", "_law_k"] (aD kN):=⟨rfl,rfl,rfl,by decide +kernel,rfl,by decide +kernel,by decide +kernel⟩
theorem fV (T:Tx K mg a):cS P w K mg base CX0 1 a.f_l_cell_at a.d_l_cell_at ["_law_script", "_law_k"] (dE K):=by
 refine T.l_cell_at.F.ok Mu (λ vs H Q E h=>Iv h) (λ cdv A outer s H vs Q E hr h=>⟨vA K,(aH (dP (bL jP (pv 1) (aW bG rfl T.n_len dR (aA (pv 0) aE)) (bU _)) (aL (aY (bA cB (pv 0) (pv 1) (λ _ _=>rfl)))) cC) (aL (aY aF))),Ng h⟩)
theorem pD:bF Cn ["_law_script", "_law_k"] (aD oM):=⟨rfl,rfl,rfl,by decide +kernel,rfl,by decide +kernel,by decide +kernel⟩
theorem Sn (T:Tx K mg a):cS P w K mg base CX0 1 a.f_l_block a.d_l_block ["_law_script", "_law_k"] (sJ K):=by
 refine T.l_block.F.ok pD (λ vs H Q E h=>Qd h) (λ cdv A outer s H vs Q E hr h=>⟨Bu K,(aH (aX (i:=2) pD.nd rfl (Or.inl rfl) aF) (aH (dP (bL jP (aR iC aF (aR eL (aR Lw (pv 1) aF) aF)) (aW bG rfl T.n_len dR (aA (pv 0) aE)) (bU _)) (aL (aX (i:=2) pD.nd rfl (Or.inl rfl) (aR fQ (bA cB (pv 0) (aR iC aF (aR eL (aR Lw (pv 1) aF) aF)) (λ _ _=>rfl)) (aR Bl aF aF)))) cC) (aH (kA PassesOwn.never rfl (fL rfl T.n_range (aA (aR eL (pv 1) aF) aE)) (cW (i:=3) pD.nd rfl (Or.inl rfl)) (aL (aX (i:=2) pD.nd rfl (Or.inl rfl) (aR fQ (pv 2) aF)))) (aL (aY (aR eL (pv 2) aF)))))),Rz h⟩)
theorem lX:bF Cm ["_law_script", "_law_k"] (aD oK):=⟨rfl,rfl,rfl,by decide +kernel,rfl,by decide +kernel,by decide +kernel⟩
theorem Sm (T:Tx K mg a):cS P w K mg base CX0 2 a.f_l_mixed a.d_l_mixed ["_law_script", "_law_k"] (pA K):=by
 refine T.l_mixed.F.ok lX (λ vs H Q E h=>Qc h) (λ cdv A outer s H vs Q E hr h=>⟨Bt K,(aH (aX (i:=2) lX.nd rfl (Or.inl rfl) aF) (aH (dP (bL Cz (aW bG rfl T.n_len dR (aA (pv 0) aE)) aF (bU _)) (aL (aX (i:=2) lX.nd rfl (Or.inl rfl) (bA cB (pv 0) aF (λ _ _=>rfl)))) cC) (aH (dP (bL tZ (aR eL (aR fQ (pv 2) (aR Bl aF aF)) aF) aF (bU _)) (aL (aY (aP (Sn T) (hr.mono (by decide)) rfl T.l_block.m T.l_block.F.kp T.l_block.b .nil aV (aA (pv 0) (aA (pv 1) aE))))) cC) (aH (dP (bL Cz (aW bG rfl T.n_len dR (aA (pv 0) aE)) aF (bU _)) (aL (aX (i:=2) lX.nd rfl (Or.inl rfl) (bA cB (pv 0) (aR eL (pv 1) (aW (Kf rfl) rfl T.n_min Fo (aA aF (aA (aW bG rfl T.n_len dR (aA (pv 0) aE)) aE)))) (λ _ _=>rfl)))) cC) (aH (aX (i:=3) lX.nd rfl (Or.inl rfl) (aR iC (aR eL (pv 2) (aR Bl aF aF)) (aR cD aF (aR iC (pv 1) aF)))) (aH (aX (i:=3) lX.nd rfl (Or.inl rfl) (aR iC (aR eL (aR cD (pv 3) (pv 3)) aF) (aR cD aF (pv 1)))) (aL (aY (aR eL (aR cD (pv 3) (pv 3)) aF))))))))),Ry h⟩)
theorem wN:bF Gn ["_law_script", "_law_place", "_law_way"] (aD qP):=⟨rfl,rfl,rfl,by decide +kernel,rfl,by decide +kernel,by decide +kernel⟩
theorem Wb (T:Tx K mg a):cS P w K mg base CX0 3 a.f_l_unit a.d_l_unit ["_law_script", "_law_place", "_law_way"] (wJ K):=by
 refine T.l_unit.F.ok wN (λ vs H Q E h=>Sy h) (λ cdv A outer s H vs Q E hr h=>⟨zP K,(aH (aX (i:=3) wN.nd rfl (Or.inl rfl) (aP (fV T) (hr.mono (by decide)) rfl T.l_cell_at.m T.l_cell_at.F.kp T.l_cell_at.b .nil aV (aA (pv 0) (aA (aR eL (pv 1) (aW (Kh rfl) rfl T.n_max Fp (aA aF (aA (aW (Kf rfl) rfl T.n_min Fo (aA aF (aA (aW bG rfl T.n_len dR (aA (pv 0) aE)) aE))) aE)))) aE)))) (aH (aX (i:=4) wN.nd rfl (Or.inl rfl) (aP (Sm T) (hr.mono (by decide)) rfl T.l_mixed.m T.l_mixed.F.kp T.l_mixed.b .nil aV (aA (pv 0) (aA (pv 1) aE)))) (aH (dP (bL jP (pv 2) aF (bU _)) (aL (aY (aR lO (aR eL (pv 4) aF) aF))) cC) (aH (dP (bL jP (pv 2) aF (bU _)) (aL (aY (aR eL (pv 4) aF))) cC) (aH (aX (i:=5) wN.nd rfl (Or.inl rfl) (bA cB (kS (aA (aR Bl aF aF) (aA (aR Bl aF aF) aE))) (aR Lw (pv 2) aF) (λ _ _=>rfl))) (aL (aY (aR lO (aR eL (aR iC (pv 3) (pv 4)) (aR lO (aR cD aF (pv 5)) aF)) (aR lO (pv 5) aF))))))))),Vu h⟩)
theorem jB:bF qR ["_law_script"] (aD kW):=⟨rfl,rfl,rfl,by decide +kernel,rfl,by decide +kernel,by decide +kernel⟩
theorem Wc (T:Tx K mg a):cS P w K mg base CX0 4 a.f_l_rows a.d_l_rows ["_law_script"] (wK K):=by
 refine T.l_rows.F.ok jB (λ vs H Q E h=>Sz h) (λ cdv A outer s H vs Q E hr h=>⟨Fx K,(aH (aX (i:=1) jB.nd rfl (Or.inl rfl) (aR iC aF (aR eL (aP (fV T) (hr.mono (by decide)) rfl T.l_cell_at.m T.l_cell_at.F.kp T.l_cell_at.b .nil aV (aA (pv 0) (aA aF aE))) aF))) (aH (aX (i:=2) jB.nd rfl (Or.inr rfl) (aR iC aF (aR eL (aP (fV T) (hr.mono (by decide)) rfl T.l_cell_at.m T.l_cell_at.F.kp T.l_cell_at.b .nil aV (aA (pv 0) (aA aF aE))) aF))) (aH (aX (i:=3) jB.nd rfl (Or.inl rfl) (aR eL (aP (fV T) (hr.mono (by decide)) rfl T.l_cell_at.m T.l_cell_at.F.kp T.l_cell_at.b .nil aV (aA (pv 0) (aA aF aE))) aF)) (aH (dP (bL tZ (aR eL (pv 3) aF) aF (bU _)) (aH (aX (i:=1) jB.nd rfl (Or.inl rfl) (aR iC aF (aR eL (aP (fV T) (hr.mono (by decide)) rfl T.l_cell_at.m T.l_cell_at.F.kp T.l_cell_at.b .nil aV (aA (pv 0) (aA aF aE))) aF))) (aL (aX (i:=2) jB.nd rfl (Or.inr rfl) (aR iC aF (aR eL (aP (fV T) (hr.mono (by decide)) rfl T.l_cell_at.m T.l_cell_at.F.kp T.l_cell_at.b .nil aV (aA (pv 0) (aA aF aE))) aF))))) cC) (aH (aX (i:=4) jB.nd rfl (Or.inr rfl) (kS aE)) (aH (kA PassesOwn.never rfl (fL rfl T.n_range (aA (pv 1) aE)) (cW (i:=5) jB.nd rfl (Or.inr rfl)) (aL (zI (Xn PySem.F.plainAttrs_list PySem.F.slot_list_append PySem.F.type_list_append Jw (pv 4) (aA (cM (FS:=aD kW) (N:=qR) (x:="_law_j") (ys:=["_law_script", "_law_k", "_law_wide"]) (caps:=[0,5,2]) ⟨by decide +kernel,rfl,by decide +kernel,rfl,by decide +kernel,rfl,by decide +kernel,rfl,by decide +kernel⟩ rfl rfl rfl (fL rfl T.n_range (aA (pv 2) aE)) (λ _ _ _ _=>(aP (Wb T) (hr.mono (by decide)) rfl T.l_unit.m T.l_unit.F.kp T.l_unit.b .nil aV (aA (pv 1) (aA (aR iC (aR cD (pv 2) (pv 3)) (pv 0)) (aA (aR eL (aP (fV T) (hr.mono (by decide)) rfl T.l_cell_at.m T.l_cell_at.F.kp T.l_cell_at.b .nil aV (aA (pv 1) (aA aF aE))) aF) aE)))))) aE))))) (aH (dP (bL tZ (aR eL (pv 3) aF) aF (bU _)) (aL (uH (Ju Ax rfl T.n_list Ey (aA (bA cB (pv 4) aF (λ _ _=>rfl)) aE)) (Fh (pv 4) (jO fX aF) uN))) cC) (aH (dP (bL tZ (aR eL (pv 3) aF) aF (bU _)) (aL (aX (i:=4) jB.nd rfl (Or.inr rfl) (cM (FS:=aD kW) (N:=qR) (x:="_law_row") (ys:=[]) (caps:=[]) ⟨by decide +kernel,rfl,by decide +kernel,rfl,by decide +kernel,rfl,by decide +kernel,rfl,by decide +kernel⟩ rfl rfl rfl (bY (pv 4)) (λ _ _ _ _=>(aR rW (mS pN (pv 0) pQ (pP (jO fX aF))) (mS pN (pv 0) pQ (pP aF))))))) cC) (aH (dP (bL tZ (pv 3) aF (bU _)) (aL (aY (Zo (FS:=aD kW) (N:=qR) (x:="_law_j") (ys:=["_law_rows_here"]) (caps:=[4]) ⟨λ _ _=>rfl,λ _=>rfl,by decide +kernel,by decide +kernel,rfl,by decide +kernel,by decide +kernel,by decide +kernel,rfl,by decide +kernel,rfl,by decide +kernel⟩ rfl rfl rfl (fL rfl T.n_range (aA (pv 2) aE)) (λ S _ _ _ _=>(Sg (z:="_law_row") (zs:=["_law_j"]) (capsI:=[0]) S ⟨by decide +kernel,rfl,by decide +kernel,rfl,by decide +kernel,by decide +kernel,rfl,by decide +kernel⟩ rfl (bY (pv 1)) (λ _ _ _ _=>(bA cB (pv 0) (pv 1) (λ _ _=>rfl)))))))) cC) (aL (aY (pv 4)))))))))))),Vv h⟩)
theorem oE:bF vI ["_law_one", "_law_other"] (aD kM):=⟨rfl,rfl,rfl,by decide +kernel,rfl,by decide +kernel,by decide +kernel⟩
theorem tH (T:Tx K mg a):cS P w K mg base CX0 1 a.f_l_divisor a.d_l_divisor ["_law_one", "_law_other"] (eW K):=by
 refine T.l_divisor.F.ok oE (λ vs H Q E h=>Iu h) (λ cdv A outer s H vs Q E hr h=>⟨uZ K,(aH (aX (i:=0) oE.nd rfl (Or.inl rfl) (aW uR rfl T.n_abs Fq (aA (pv 0) aE))) (aH (aX (i:=1) oE.nd rfl (Or.inl rfl) (aW uR rfl T.n_abs Fq (aA (pv 1) aE))) (aH (zW PassesOwn.never (bL Cz (pv 1) aF (bU _)) (aL (ps_par (i:=0) (j:=1) rfl oE.nd rfl rfl (by decide) rfl rfl (aA (pv 1) (aA (aR eL (pv 0) (pv 1)) aE)) rfl))) (aL (aY (pv 0)))))),Nf h⟩)
theorem Dl:bF yM ["_law_top", "_law_bottom"] (aD lZ):=⟨rfl,rfl,rfl,by decide +kernel,rfl,by decide +kernel,by decide +kernel⟩
theorem Du (T:Tx K mg a):cS P w K mg base CX0 2 a.f_l_lowest a.d_l_lowest ["_law_top", "_law_bottom"] (mV K):=by
 refine T.l_lowest.F.ok Dl (λ vs H Q E h=>Nr h) (λ cdv A outer s H vs Q E hr h=>⟨sD K,(aH (aX (i:=2) Dl.nd rfl (Or.inl rfl) (aP (tH T) (hr.mono (by decide)) rfl T.l_divisor.m T.l_divisor.F.kp T.l_divisor.b .nil aV (aA (pv 0) (aA (pv 1) aE)))) (aL (aY (fZ (aA (aR fQ (pv 0) (pv 2)) (aA (aR fQ (pv 1) (pv 2)) aE)))))),Po h⟩)
theorem Hi:bF mO ["row"] (aD gB):=⟨rfl,rfl,rfl,by decide +kernel,rfl,by decide +kernel,by decide +kernel⟩
theorem Hr (T:Tx K mg a):cS P w K mg base CX0 1 a.f_least_whole a.d_least_whole ["row"] (lC K):=by
 refine T.least_whole.F.ok Hi (λ vs H Q E h=>Ed h) (λ cdv A outer s H vs Q E hr h=>⟨qD K,(aL (aY (aW (Cj rfl) rfl T.n_min Fo (aA (cM (FS:=aD gB) (N:=mO) (x:="fraction") (ys:=[]) (caps:=[]) ⟨by decide +kernel,rfl,by decide +kernel,rfl,by decide +kernel,rfl,by decide +kernel,rfl,by decide +kernel⟩ rfl rfl rfl (bY (pv 0)) (λ _ _ _ _=>(aR fQ (bA bP (pv 0) aF (λ _ _=>rfl)) (bA bP (pv 0) aF (λ _ _=>rfl))))) aE)))),Hl h⟩)
theorem Rm:bF wT ["rows"] (aD lS):=⟨rfl,rfl,rfl,by decide +kernel,rfl,by decide +kernel,by decide +kernel⟩
theorem Sj (T:Tx K mg a):cS P w K mg base CX0 2 a.f_lift_of a.d_lift_of ["rows"] (sF K):=by
 refine T.lift_of.F.ok Rm (λ vs H Q E h=>Py h) (λ cdv A outer s H vs Q E hr h=>⟨Bq K,(aL (aY (fZ (aA (aR lO aF (aW (Cj rfl) rfl T.n_min Fo (aA (cM (FS:=aD lS) (N:=wT) (x:="row") (ys:=[]) (caps:=[]) ⟨by decide +kernel,rfl,by decide +kernel,rfl,by decide +kernel,rfl,by decide +kernel,rfl,by decide +kernel⟩ rfl rfl rfl (bY (pv 0)) (λ _ _ _ _=>(aP (Hr T) (hr.mono (by decide)) rfl T.least_whole.m T.least_whole.F.kp T.least_whole.b .nil aV (aA (pv 0) aE)))) aE))) (aA aF aE))))),Rs h⟩)
theorem lY:bF Co ["one", "other"] (aD oN):=⟨rfl,rfl,rfl,by decide +kernel,rfl,by decide +kernel,by decide +kernel⟩
theorem yL (T:Tx K mg a):cS P w K mg base CX0 1 a.f_divisor a.d_divisor ["one", "other"] (gS K):=by
 refine T.divisor.F.ok lY (λ vs H Q E h=>Qe h) (λ cdv A outer s H vs Q E hr h=>⟨Bv K,(aH (aX (i:=2) lY.nd rfl (Or.inl rfl) (aW uR rfl T.n_abs Fq (aA (pv 0) aE))) (aH (aX (i:=3) lY.nd rfl (Or.inl rfl) (aW uR rfl T.n_abs Fq (aA (pv 1) aE))) (aH (zW PassesOwn.never (bL Cy (pv 3) aF (bU _)) (aH (aX (i:=4) lY.nd rfl (Or.inl rfl) (aR eL (pv 2) (pv 3))) (aH (aX (i:=2) lY.nd rfl (Or.inl rfl) (pv 3)) (aL (aX (i:=3) lY.nd rfl (Or.inl rfl) (pv 4)))))) (aL (aY (pv 2)))))),Sa h⟩)
theorem Fy:bF Ml ["top", "bottom"] (aD vY):=⟨rfl,rfl,rfl,by decide +kernel,rfl,by decide +kernel,by decide +kernel⟩
theorem oX (T:Tx K mg a):cS P w K mg base CX0 2 a.f_ratio a.d_ratio ["top", "bottom"] (jQ K):=by
 refine T.ratio.F.ok Fy (λ vs H Q E h=>Wj h) (λ cdv A outer s H vs Q E hr h=>⟨Ej K,(aH (dP (bL tZ (pv 1) aF (bU _)) (aL Fz) cC) (aH (aX (i:=2) Fy.nd rfl (Or.inl rfl) (aP (yL T) (hr.mono (by decide)) rfl T.divisor.m T.divisor.F.kp T.divisor.b .nil aV (aA (pv 0) (aA (pv 1) aE)))) (aH (dP (bL jP (pv 1) aF (bU _)) (aL (aX (i:=2) Fy.nd rfl (Or.inl rfl) (jO fX (pv 2)))) cC) (aL (aY (fZ (aA (aR fQ (pv 0) (pv 2)) (aA (aR fQ (pv 1) (pv 2)) aE)))))))),Zf h⟩)
theorem sc_plus:bF Rf ["one", "other"] (aD Bi):=⟨rfl,rfl,rfl,by decide +kernel,rfl,by decide +kernel,by decide +kernel⟩
theorem Ub (T:Tx K mg a):cS P w K mg base CX0 3 a.f_plus a.d_plus ["one", "other"] (zF K):=by
 refine T.plus.F.ok sc_plus (λ vs H Q E h=>jJJ h) (λ cdv A outer s H vs Q E hr h=>⟨Qq K,(aL (aY (aP (oX T) (hr.mono (by decide)) rfl T.ratio.m T.ratio.F.kp T.ratio.b .nil aV (aA (aR iC (aR cD (bA bP (pv 0) aF (λ _ _=>rfl)) (bA bP (pv 1) aF (λ _ _=>rfl))) (aR cD (bA bP (pv 1) aF (λ _ _=>rfl)) (bA bP (pv 0) aF (λ _ _=>rfl)))) (aA (aR cD (bA bP (pv 0) aF (λ _ _=>rfl)) (bA bP (pv 1) aF (λ _ _=>rfl))) aE))))),rd_plus h⟩)
theorem Vm:bF zZ ["row", "lift"] (aD oU):=⟨rfl,rfl,rfl,by decide +kernel,rfl,by decide +kernel,by decide +kernel⟩
theorem Wa (T:Tx K mg a):cS P w K mg base CX0 4 a.f_lifted a.d_lifted ["row", "lift"] (wI K):=by
 refine T.lifted.F.ok Vm (λ vs H Q E h=>Sx h) (λ cdv A outer s H vs Q E hr h=>⟨Fv K,(aL (aY (cM (FS:=aD oU) (N:=zZ) (x:="fraction") (ys:=["lift"]) (caps:=[1]) ⟨by decide +kernel,rfl,by decide +kernel,rfl,by decide +kernel,rfl,by decide +kernel,rfl,by decide +kernel⟩ rfl rfl rfl (bY (pv 0)) (λ _ _ _ _=>(aP (Ub T) (hr.mono (by decide)) rfl T.plus.m T.plus.F.kp T.plus.b .nil aV (aA (pv 0) (aA (pv 1) aE))))))),Vt h⟩)
theorem Yz:bF Mn ["one", "other"] (aD wA):=⟨rfl,rfl,rfl,by decide +kernel,rfl,by decide +kernel,by decide +kernel⟩
theorem Zu (T:Tx K mg a):cS P w K mg base CX0 1 a.f_below a.d_below ["one", "other"] (zT K):=by
 refine T.below.F.ok Yz (λ vs H Q E h=>Wm h) (λ cdv A outer s H vs Q E hr h=>⟨Ll K,(aL (aY (nX jP (aR cD (bA bP (pv 0) aF (λ _ _=>rfl)) (bA bP (pv 1) aF (λ _ _=>rfl))) (aR cD (bA bP (pv 1) aF (λ _ _=>rfl)) (bA bP (pv 0) aF (λ _ _=>rfl))) (bU _)))),Zi h⟩)
theorem sL:bF wV ["row"] (aD lU):=⟨rfl,rfl,rfl,by decide +kernel,rfl,by decide +kernel,by decide +kernel⟩
theorem So (T:Tx K mg a):cS P w K mg base CX0 2 a.f_cleared a.d_cleared ["row"] (sK K):=by
 refine T.cleared.F.ok sL (λ vs H Q E h=>Qg h) (λ cdv A outer s H vs Q E hr h=>⟨Bx K,(aH (aX (i:=1) sL.nd rfl (Or.inr rfl) aF) (aH (kA PassesOwn.never rfl (bY (pv 0)) (cW (i:=2) sL.nd rfl (Or.inl rfl)) (aL (aX (i:=1) sL.nd rfl (Or.inr rfl) (aR cD (pv 1) (aR fQ (bA bP (pv 2) aF (λ _ _=>rfl)) (aP (yL T) (hr.mono (by decide)) rfl T.divisor.m T.divisor.F.kp T.divisor.b .nil aV (aA (pv 1) (aA (bA bP (pv 2) aF (λ _ _=>rfl)) aE)))))))) (aL (aY (fZ (aA (pv 1) (aA (cM (FS:=aD lU) (N:=wV) (x:="fraction") (ys:=["number"]) (caps:=[1]) ⟨by decide +kernel,rfl,by decide +kernel,rfl,by decide +kernel,rfl,by decide +kernel,rfl,by decide +kernel⟩ rfl rfl rfl (bY (pv 0)) (λ _ _ _ _=>(aR cD (bA bP (pv 0) aF (λ _ _=>rfl)) (aR fQ (pv 1) (bA bP (pv 0) aF (λ _ _=>rfl)))))) aE))))))),Sd h⟩)
theorem wM:bF Gk ["row"] (aD qO):=⟨rfl,rfl,rfl,by decide +kernel,rfl,by decide +kernel,by decide +kernel⟩
theorem Jv (T:Tx K mg a):cS P w K mg base CX0 2 a.f_shared a.d_shared ["row"] (qS K):=by
 refine T.shared.F.ok wM (λ vs H Q E h=>Sw h) (λ cdv A outer s H vs Q E hr h=>⟨Fu K,(aH (aX (i:=1) wM.nd rfl (Or.inl rfl) aF) (aH (kA PassesOwn.never rfl (bY (pv 0)) (cW (i:=2) wM.nd rfl (Or.inl rfl)) (aH (aX (i:=1) wM.nd rfl (Or.inl rfl) (aP (yL T) (hr.mono (by decide)) rfl T.divisor.m T.divisor.F.kp T.divisor.b .nil aV (aA (pv 1) (aA (pv 2) aE)))) (aL (dP (bL tZ (pv 1) aF (bU _)) (aL (aY (pv 1))) cC)))) (aL (aY (pv 1))))),Vs h⟩)
theorem Oo:bF Ez ["row"] (aD rZ):=⟨rfl,rfl,rfl,by decide +kernel,rfl,by decide +kernel,by decide +kernel⟩
theorem Zs (T:Tx K mg a):cS P w K mg base CX0 3 a.f_plain a.d_plain ["row"] (zR K):=by
 refine T.plain.F.ok Oo (λ vs H Q E h=>Wk h) (λ cdv A outer s H vs Q E hr h=>⟨Lj K,(aH (aX (i:=1) Oo.nd rfl (Or.inr rfl) (aP (Jv T) (hr.mono (by decide)) rfl T.shared.m T.shared.F.kp T.shared.b .nil aV (aA (pv 0) aE))) (aH (dP (bL jP (pv 1) aF (bU _)) (aL (aY (Ju Ax rfl T.n_list Ey (aA (pv 0) aE)))) cC) (aL (aY (cM (FS:=aD rZ) (N:=Ez) (x:="number") (ys:=["common"]) (caps:=[1]) ⟨by decide +kernel,rfl,by decide +kernel,rfl,by decide +kernel,rfl,by decide +kernel,rfl,by decide +kernel⟩ rfl rfl rfl (bY (pv 0)) (λ _ _ _ _=>(aR fQ (pv 0) (pv 1)))))))),Zg h⟩)
theorem On:bF Mi ["row"] (aD vW):=⟨rfl,rfl,rfl,by decide +kernel,rfl,by decide +kernel,by decide +kernel⟩
theorem Gb (T:Tx K mg a):cS P w K mg base CX0 4 a.f_whole a.d_whole ["row"] (qM K):=by
 refine T.whole.F.ok On (λ vs H Q E h=>Wh h) (λ cdv A outer s H vs Q E hr h=>⟨Lh K,(aH (aX (i:=1) On.nd rfl (Or.inl rfl) (aP (So T) (hr.mono (by decide)) rfl T.cleared.m T.cleared.F.kp T.cleared.b .nil aV (aA (pv 0) aE))) (aL (aY (fZ (aA (aP (oX T) (hr.mono (by decide)) rfl T.ratio.m T.ratio.F.kp T.ratio.b .nil aV (aA (bA bP (pv 1) aF (λ _ _=>rfl)) (aA (aW (Kh rfl) rfl T.n_max Fp (aA (aP (Jv T) (hr.mono (by decide)) rfl T.shared.m T.shared.F.kp T.shared.b .nil aV (aA (bA bP (pv 1) aF (λ _ _=>rfl)) aE)) (aA aF aE))) aE))) (aA (aP (Zs T) (hr.mono (by decide)) rfl T.plain.m T.plain.F.kp T.plain.b .nil aV (aA (bA bP (pv 1) aF (λ _ _=>rfl)) aE)) aE)))))),Zd h⟩)
theorem Yx:bF Mj ["one", "other"] (aD vX):=⟨rfl,rfl,rfl,by decide +kernel,rfl,by decide +kernel,by decide +kernel⟩
theorem Ou (T:Tx K mg a):cS P w K mg base CX0 3 a.f_times a.d_times ["one", "other"] (uL K):=by
 refine T.times.F.ok Yx (λ vs H Q E h=>Wi h) (λ cdv A outer s H vs Q E hr h=>⟨Li K,(aL (aY (aP (oX T) (hr.mono (by decide)) rfl T.ratio.m T.ratio.F.kp T.ratio.b .nil aV (aA (aR cD (bA bP (pv 0) aF (λ _ _=>rfl)) (bA bP (pv 1) aF (λ _ _=>rfl))) (aA (aR cD (bA bP (pv 0) aF (λ _ _=>rfl)) (bA bP (pv 1) aF (λ _ _=>rfl))) aE))))),Ze h⟩)
theorem Rl:bF wS ["row"] (aD lR):=⟨rfl,rfl,rfl,by decide +kernel,rfl,by decide +kernel,by decide +kernel⟩
theorem Ha (T:Tx K mg a):cS P w K mg base CX0 1 a.f_longest a.d_longest ["row"] (oZ K):=by
 refine T.longest.F.ok Rl (λ vs H Q E h=>Px h) (λ cdv A outer s H vs Q E hr h=>⟨Bp K,(aL (aY (aW (Kg rfl) rfl T.n_max Fp (aA (cM (FS:=aD lR) (N:=wS) (x:="number") (ys:=[]) (caps:=[]) ⟨by decide +kernel,rfl,by decide +kernel,rfl,by decide +kernel,rfl,by decide +kernel,rfl,by decide +kernel⟩ rfl rfl rfl (bY (pv 0)) (λ _ _ _ _=>(Ya PySem.F.plainAttrs_int PySem.F.slot_int_bit_length PySem.F.type_int_bit_length Uf (pv 0)))) aE)))),Rr h⟩)
theorem Mv:bF pX ["rows", "place"] (aD iQ):=⟨rfl,rfl,rfl,by decide +kernel,rfl,by decide +kernel,by decide +kernel⟩
theorem lB (T:Tx K mg a):cS P w K mg base CX0 1 a.f_column_of a.d_column_of ["rows", "place"] (fU K):=by
 refine T.column_of.F.ok Mv (λ vs H Q E h=>Iw h) (λ cdv A outer s H vs Q E hr h=>⟨vB K,(aL (aY (cM (FS:=aD iQ) (N:=pX) (x:="row") (ys:=["place"]) (caps:=[1]) ⟨by decide +kernel,rfl,by decide +kernel,rfl,by decide +kernel,rfl,by decide +kernel,rfl,by decide +kernel⟩ rfl rfl rfl (bY (pv 0)) (λ _ _ _ _=>(bA cB (pv 0) (pv 1) (λ _ _=>rfl)))))),Nh h⟩)
theorem sc_span:bF Lf ["column"] (aD xV):=⟨rfl,rfl,rfl,by decide +kernel,rfl,by decide +kernel,by decide +kernel⟩
theorem Ua (T:Tx K mg a):cS P w K mg base CX0 1 a.f_span a.d_span ["column"] (zE K):=by
 refine T.span.F.ok sc_span (λ vs H Q E h=>Zz h) (λ cdv A outer s H vs Q E hr h=>⟨Qp K,(aL (aY (aR iC aF (aW (qV rfl) rfl T.n_sum Fn (aA (cM (FS:=aD xV) (N:=Lf) (x:="number") (ys:=[]) (caps:=[]) ⟨by decide +kernel,rfl,by decide +kernel,rfl,by decide +kernel,rfl,by decide +kernel,rfl,by decide +kernel⟩ rfl rfl rfl (bY (pv 0)) (λ _ _ _ _=>(aW uR rfl T.n_abs Fq (aA (pv 0) aE)))) aE))))),rd_span h⟩)
theorem sc_unit:bF Le ["many", "place"] (aD xU):=⟨rfl,rfl,rfl,by decide +kernel,rfl,by decide +kernel,by decide +kernel⟩
theorem ok_unit (T:Tx K mg a):cS P w K mg base CX0 1 a.f_unit a.d_unit ["many", "place"] (Ek K):=by
 refine T.unit.F.ok sc_unit (λ vs H Q E h=>Zy h) (λ cdv A outer s H vs Q E hr h=>⟨Qo K,(aL (aY (cM (FS:=aD xU) (N:=Le) (x:="other") (ys:=["place"]) (caps:=[1]) ⟨by decide +kernel,rfl,by decide +kernel,rfl,by decide +kernel,rfl,by decide +kernel,rfl,by decide +kernel⟩ rfl rfl rfl (fL rfl T.n_range (aA (pv 0) aE)) (λ _ _ _ _=>(Ga (bL tZ (pv 0) (pv 1) (bU _)) aF aF))))),rd_unit h⟩)
theorem Hk:bF fA ["self", "lists"] (aD dD):=⟨rfl,rfl,rfl,by decide +kernel,rfl,by decide +kernel,by decide +kernel⟩
theorem pI (T:Tx K mg a):cS P w K mg base CX0 2 a.f_Corner_init a.d_Corner_init ["self", "lists"] (fE K):=by
 refine T.Corner_init.F.ok Hk (λ vs H Q E h=>Eh h) (λ cdv A outer s H vs Q E hr h=>⟨qI K,(aH (Bk (pv 0) (cM (FS:=aD dD) (N:=fA) (x:="place") (ys:=["lists"]) (caps:=[1]) ⟨by decide +kernel,rfl,by decide +kernel,rfl,by decide +kernel,rfl,by decide +kernel,rfl,by decide +kernel⟩ rfl rfl rfl (fL rfl T.n_range (aA (aR lO (aW bG rfl T.n_len dR (aA (bA cB (pv 1) aF (λ _ _=>rfl)) aE)) aF) aE)) (λ _ _ _ _=>(aP (lB T) (hr.mono (by decide)) rfl T.column_of.m T.column_of.F.kp T.column_of.b .nil aV (aA (pv 1) (aA (pv 0) aE))))) rfl) (aH (Bk (pv 0) (aR rW (cM (FS:=aD dD) (N:=fA) (x:="column") (ys:=[]) (caps:=[]) ⟨by decide +kernel,rfl,by decide +kernel,rfl,by decide +kernel,rfl,by decide +kernel,rfl,by decide +kernel⟩ rfl rfl rfl (bY (dW (pv 0) rfl)) (λ _ _ _ _=>(aP (Ua T) (hr.mono (by decide)) rfl T.span.m T.span.F.kp T.span.b .nil aV (aA (mS pN (pv 0) pQ (pP (jO fX aF))) aE)))) (cM (FS:=aD dD) (N:=fA) (x:="row") (ys:=[]) (caps:=[]) ⟨by decide +kernel,rfl,by decide +kernel,rfl,by decide +kernel,rfl,by decide +kernel,rfl,by decide +kernel⟩ rfl rfl rfl (bY (mS pN (pv 1) pQ (pP (jO fX aF)))) (λ _ _ _ _=>(aP (Ua T) (hr.mono (by decide)) rfl T.span.m T.span.F.kp T.span.b .nil aV (aA (kS (aA aF aE)) aE))))) rfl) (aH (Bk (pv 0) (oW (FS:=aD dD) (N:=fA) (xs:=["place", "row"]) (ys:=["lists"]) (caps:=[1]) ⟨by decide +kernel,rfl,by decide +kernel,by decide +kernel,rfl,by decide +kernel,rfl⟩ rfl rfl rfl (Ls rfl T.n_enumerate (pv 1)) (λ _ _ _ _=>iL (n:=2) rfl (bZ (cX (i:=0) (by decide +kernel) rfl (by decide +kernel)) (bZ (cX (i:=1) (by decide +kernel) rfl (by decide +kernel)) fP))) (λ _ _ _ _=>(aR rW (aP (ok_unit T) (hr.mono (by decide)) rfl T.unit.m T.unit.F.kp T.unit.b .nil aV (aA (aW bG rfl T.n_len dR (aA (pv 2) aE)) (aA (pv 0) aE))) (kS (aA (bA cB (pv 1) (jO fX aF) (λ _ _=>rfl)) aE))))) rfl) (aL (Bk (pv 0) (cM (FS:=aD dD) (N:=fA) (x:="place") (ys:=["self"]) (caps:=[0]) ⟨by decide +kernel,rfl,by decide +kernel,rfl,by decide +kernel,rfl,by decide +kernel,rfl,by decide +kernel⟩ rfl rfl rfl (fL rfl T.n_range (aA (aR lO (aW bG rfl T.n_len dR (aA (pv 1) aE)) aF) aE)) (λ _ _ _ _=>(aR iC (aW bG rfl T.n_len dR (aA (dW (pv 1) rfl) aE)) (pv 0)))) rfl))))),Hq T.ct h⟩)
theorem Hj:bF mQ ["column", "longs"] (aD gD):=⟨rfl,rfl,rfl,by decide +kernel,rfl,by decide +kernel,by decide +kernel⟩
theorem Ht (T:Tx K mg a):cS P w K mg base CX0 1 a.f_bits_beyond a.d_bits_beyond ["column", "longs"] (lE K):=by
 refine T.bits_beyond.F.ok Hj (λ vs H Q E h=>Ef h) (λ cdv A outer s H vs Q E hr h=>⟨qG K,(aL (aY (pe_maxD rfl rfl T.n_max (aA (Vy (FS:=aD gD) (N:=mQ) (xs:=["number", "long"]) (ys:=[]) (caps:=[]) ⟨by decide +kernel,rfl,by decide +kernel,by decide +kernel,rfl,by decide +kernel,rfl⟩ rfl rfl rfl (oS rfl T.n_zip (aA (pv 0) (aA (pv 1) aE))) (λ _ _ _ _=>iL (n:=2) rfl (bZ (cX (i:=0) (by decide +kernel) rfl (by decide +kernel)) (bZ (cX (i:=1) (by decide +kernel) rfl (by decide +kernel)) fP))) (λ _ _ _ _=>(bL Cy (pv 0) aF (bU _))) (λ _ _ _ _=>(aR lO (Ya PySem.F.plainAttrs_int PySem.F.slot_int_bit_length PySem.F.type_int_bit_length Uf (pv 0)) (pv 1)))) aE) aF))),Hn h⟩)
noncomputable abbrev Na:Stmt:=iO
theorem Ig:bF tI ["number", "bits"] (aD Na):=⟨rfl,rfl,rfl,by decide +kernel,rfl,by decide +kernel,by decide +kernel⟩
theorem Il (T:Tx K mg a):cS P w K mg base CX0 1 a.f_stretched a.d_stretched ["number", "bits"] (mL K):=by
 refine T.stretched.F.ok Ig (λ vs H Q E h=>Hv h) (λ cdv A outer s H vs Q E hr h=>⟨sS K,(aH (dP (bL jP (pv 0) aF (bU _)) (aL Fz) cC) (aL (aY (Ga (bL Cz (pv 1) aF (bU _)) (aR Ty (pv 0) (pv 1)) (aR Tv (pv 0) (jO fX (pv 1))))))),Ii h⟩)
theorem Ms:bF vH ["number", "bits"] (aD iO):=⟨rfl,rfl,rfl,by decide +kernel,rfl,by decide +kernel,by decide +kernel⟩
theorem Nl (T:Tx K mg a):cS P w K mg base CX0 2 a.f_stretched a.d_stretched ["number", "bits"] (nZ K):=by
 refine T.stretched.F.ok Ms (λ vs H Q E h=>Iq h) (λ cdv A outer s H vs Q E hr h=>⟨uU K,(aH (dP (bL jP (pv 0) aF (bU _)) (aL (aY (jO fX (aP (Il T) (hr.mono (by decide)) rfl T.stretched.m T.stretched.F.kp T.stretched.b .nil aV (aA (jO fX (pv 0)) (aA (pv 1) aE)))))) cC) (aL (aY (Ga (bL Cz (pv 1) aF (bU _)) (aR Ty (pv 0) (pv 1)) (aR Tv (pv 0) (jO fX (pv 1))))))),Nc h⟩)
theorem Mt:bF pW ["row", "bits", "wides"] (aD iP):=⟨rfl,rfl,rfl,by decide +kernel,rfl,by decide +kernel,by decide +kernel⟩
theorem Nm (T:Tx K mg a):cS P w K mg base CX0 3 a.f_shortened a.d_shortened ["row", "bits", "wides"] (oA K):=by
 refine T.shortened.F.ok Mt (λ vs H Q E h=>Ir h) (λ cdv A outer s H vs Q E hr h=>⟨uV K,(aL (aY (oW (FS:=aD iP) (N:=pW) (xs:=["number", "wide"]) (ys:=["bits"]) (caps:=[1]) ⟨by decide +kernel,rfl,by decide +kernel,by decide +kernel,rfl,by decide +kernel,rfl⟩ rfl rfl rfl (oS rfl T.n_zip (aA (pv 0) (aA (pv 2) aE))) (λ _ _ _ _=>iL (n:=2) rfl (bZ (cX (i:=0) (by decide +kernel) rfl (by decide +kernel)) (bZ (cX (i:=1) (by decide +kernel) rfl (by decide +kernel)) fP))) (λ _ _ _ _=>(aP (Nl T) (hr.mono (by decide)) rfl T.stretched.m T.stretched.F.kp T.stretched.b .nil aV (aA (pv 0) (aA (aR lO (pv 2) (pv 1)) aE))))))),Nd h⟩)
theorem yI:bF oO ["lists", "bits"] (aD jC):=⟨rfl,rfl,rfl,by decide +kernel,rfl,by decide +kernel,by decide +kernel⟩
theorem Si (T:Tx K mg a):cS P w K mg base CX0 4 a.f_rounded a.d_rounded ["lists", "bits"] (sE K):=by
 refine T.rounded.F.ok yI (λ vs H Q E h=>Pw h) (λ cdv A outer s H vs Q E hr h=>⟨Bo K,(aH (aX (i:=2) yI.nd rfl (Or.inr rfl) (cM (FS:=aD jC) (N:=oO) (x:="row") (ys:=[]) (caps:=[]) ⟨by decide +kernel,rfl,by decide +kernel,rfl,by decide +kernel,rfl,by decide +kernel,rfl,by decide +kernel⟩ rfl rfl rfl (bY (pv 0)) (λ _ _ _ _=>(aP (Ha T) (hr.mono (by decide)) rfl T.longest.m T.longest.F.kp T.longest.b .nil aV (aA (mS pN (pv 0) pQ (pP (jO fX aF))) aE))))) (aH (aX (i:=3) yI.nd rfl (Or.inr rfl) (cM (FS:=aD jC) (N:=oO) (x:="place") (ys:=["longs", "lists"]) (caps:=[2,0]) ⟨by decide +kernel,rfl,by decide +kernel,rfl,by decide +kernel,rfl,by decide +kernel,rfl,by decide +kernel⟩ rfl rfl rfl (fL rfl T.n_range (aA (aW bG rfl T.n_len dR (aA (bA cB (pv 0) aF (λ _ _=>rfl)) aE)) aE)) (λ _ _ _ _=>(aP (Ht T) (hr.mono (by decide)) rfl T.bits_beyond.m T.bits_beyond.F.kp T.bits_beyond.b .nil aV (aA (aP (lB T) (hr.mono (by decide)) rfl T.column_of.m T.column_of.F.kp T.column_of.b .nil aV (aA (pv 2) (aA (pv 0) aE))) (aA (pv 1) aE)))))) (aL (aY (oW (FS:=aD jC) (N:=oO) (xs:=["row", "long"]) (ys:=["wides", "bits"]) (caps:=[3,1]) ⟨by decide +kernel,rfl,by decide +kernel,by decide +kernel,rfl,by decide +kernel,rfl⟩ rfl rfl rfl (oS rfl T.n_zip (aA (pv 0) (aA (pv 2) aE))) (λ _ _ _ _=>iL (n:=2) rfl (bZ (cX (i:=0) (by decide +kernel) rfl (by decide +kernel)) (bZ (cX (i:=1) (by decide +kernel) rfl (by decide +kernel)) fP))) (λ _ _ _ _=>(aP (Nm T) (hr.mono (by decide)) rfl T.shortened.m T.shortened.F.kp T.shortened.b .nil aV (aA (pv 0) (aA (aR lO (pv 3) (pv 1)) (aA (pv 2) aE)))))))))),Rq h⟩)
theorem Pk:bF sR ["one", "other"] (aD kB):=⟨rfl,rfl,rfl,by decide +kernel,rfl,by decide +kernel,by decide +kernel⟩
theorem Dt (T:Tx K mg a):cS P w K mg base CX0 1 a.f_products a.d_products ["one", "other"] (mU K):=by
 refine T.products.F.ok Pk (λ vs H Q E h=>Nq h) (λ cdv A outer s H vs Q E hr h=>⟨yG K,(aL (aY (aW (qV rfl) rfl T.n_sum Fn (aA (oW (FS:=aD kB) (N:=sR) (xs:=["mine", "yours"]) (ys:=[]) (caps:=[]) ⟨by decide +kernel,rfl,by decide +kernel,by decide +kernel,rfl,by decide +kernel,rfl⟩ rfl rfl rfl (oS rfl T.n_zip (aA (pv 0) (aA (pv 1) aE))) (λ _ _ _ _=>iL (n:=2) rfl (bZ (cX (i:=0) (by decide +kernel) rfl (by decide +kernel)) (bZ (cX (i:=1) (by decide +kernel) rfl (by decide +kernel)) fP))) (λ _ _ _ _=>(aR cD (pv 0) (pv 1)))) aE)))),Pn h⟩)
theorem dF:bF iG ["self"] (aD dJ):=⟨rfl,rfl,rfl,by decide +kernel,rfl,by decide +kernel,by decide +kernel⟩
theorem kF (T:Tx K mg a):cS P w K mg base CX0 2 a.f_Corner_entering a.d_Corner_entering ["self"] (eA K):=by
 refine T.Corner_entering.F.ok dF (λ vs H Q E h=>wZ h) (λ cdv A outer s H vs Q E hr h=>⟨lH K,(aH (aX (i:=1) dF.nd rfl (Or.inr rfl) (bA cB (dW (pv 0) rfl) (jO fX aF) (λ _ _=>rfl))) (aH (aX (i:=2) dF.nd rfl (Or.inl rfl) (aR rW (cM (FS:=aD dJ) (N:=iG) (x:="column") (ys:=["last"]) (caps:=[1]) ⟨by decide +kernel,rfl,by decide +kernel,rfl,by decide +kernel,rfl,by decide +kernel,rfl,by decide +kernel⟩ rfl rfl rfl (bY (dW (pv 0) rfl)) (λ _ _ _ _=>(aP (Dt T) (hr.mono (by decide)) rfl T.products.m T.products.F.kp T.products.b .nil aV (aA (pv 0) (aA (pv 1) aE))))) (mS pN (pv 1) pQ (pP (aW bG rfl T.n_len dR (aA (dW (pv 0) rfl) aE)))))) (aH (aX (i:=3) dF.nd rfl (Or.inl rfl) oT) (aH (kA PassesOwn.never rfl (Ls rfl T.n_enumerate (pv 2)) (iL (n:=2) rfl (bZ (cW (i:=4) dF.nd rfl (Or.inl rfl)) (bZ (cW (i:=5) dF.nd rfl (Or.inl rfl)) fP))) (aL (dP (PW.pt (Qv (bL jP (pv 5) aF (bU _)) (Lr (PW.pt (xD (bL Bm (pv 3) oT (bU _)) (xX (bL jP (aR cD (pv 5) (bA cB (dW (pv 0) rfl) (pv 3) (λ _ _=>rfl))) (aR cD (bA cB (pv 2) (pv 3) (λ _ _=>rfl)) (bA cB (dW (pv 0) rfl) (pv 4) (λ _ _=>rfl))) (bU _)))))))) (aL (aX (i:=3) dF.nd rfl (Or.inl rfl) (pv 4))) cC))) (aL (aY (pv 3))))))),yQ T.ct h⟩)
theorem Ay:bF jJ ["self", "column"] (aD dZ):=⟨rfl,rfl,rfl,by decide +kernel,rfl,by decide +kernel,by decide +kernel⟩
theorem iF (T:Tx K mg a):cS P w K mg base CX0 2 a.f_Corner_numbers a.d_Corner_numbers ["self", "column"] (dI K):=by
 refine T.Corner_numbers.F.ok Ay (λ vs H Q E h=>yU h) (λ cdv A outer s H vs Q E hr h=>⟨mJ K,(aH (dP (bL jP (pv 1) (aW bG rfl T.n_len dR (aA (dW (pv 0) rfl) aE)) (bU _)) (aL (aY (cM (FS:=aD dZ) (N:=jJ) (x:="row") (ys:=["column", "self"]) (caps:=[1,0]) ⟨by decide +kernel,rfl,by decide +kernel,rfl,by decide +kernel,rfl,by decide +kernel,rfl,by decide +kernel⟩ rfl rfl rfl (bY (dW (pv 0) rfl)) (λ _ _ _ _=>(aP (Dt T) (hr.mono (by decide)) rfl T.products.m T.products.F.kp T.products.b .nil aV (aA (bA cB (dW (pv 2) rfl) (pv 1) (λ _ _=>rfl)) (aA (pv 0) aE))))))) cC) (aL (aY (aP (lB T) (hr.mono (by decide)) rfl T.column_of.m T.column_of.F.kp T.column_of.b .nil aV (aA (dW (pv 0) rfl) (aA (aR lO (pv 1) (aW bG rfl T.n_len dR (aA (dW (pv 0) rfl) aE))) aE)))))),Ba T.ct h⟩)
theorem pU:bF yO ["row", "other", "column", "listed"] (aD mB):=⟨rfl,rfl,rfl,by decide +kernel,rfl,by decide +kernel,by decide +kernel⟩
theorem Ps (T:Tx K mg a):cS P w K mg base CX0 1 a.f_is_ahead a.d_is_ahead ["row", "other", "column", "listed"] (pT K):=by
 refine T.is_ahead.F.ok pU (λ vs H Q E h=>Nt h) (λ cdv A outer s H vs Q E hr h=>⟨yH K,(aH (kA PassesOwn.never rfl (bY (pv 3)) (cW (i:=4) pU.nd rfl (Or.inl rfl)) (aH (aX (i:=5) pU.nd rfl (Or.inl rfl) (aR cD (bA cB (pv 0) (pv 4) (λ _ _=>rfl)) (bA cB (pv 1) (pv 2) (λ _ _=>rfl)))) (aH (aX (i:=6) pU.nd rfl (Or.inl rfl) (aR cD (bA cB (pv 1) (pv 4) (λ _ _=>rfl)) (bA cB (pv 0) (pv 2) (λ _ _=>rfl)))) (aL (dP (bL Cy (pv 5) (pv 6) (bU _)) (aL (aY (nX jP (pv 5) (pv 6) (bU _)))) cC))))) (aL (aY Cw))),Pp h⟩)
theorem pC:bF Ck ["rows", "column", "listed"] (aD oI):=⟨rfl,rfl,rfl,by decide +kernel,rfl,by decide +kernel,by decide +kernel⟩
theorem Sk (T:Tx K mg a):cS P w K mg base CX0 2 a.f_leaving a.d_leaving ["rows", "column", "listed"] (sG K):=by
 refine T.leaving.F.ok pC (λ vs H Q E h=>Pz h) (λ cdv A outer s H vs Q E hr h=>⟨Br K,(aH (aX (i:=3) pC.nd rfl (Or.inl rfl) oT) (aH (kA PassesOwn.never rfl (Ls rfl T.n_enumerate (pv 0)) (iL (n:=2) rfl (bZ (cW (i:=4) pC.nd rfl (Or.inl rfl)) (bZ (cW (i:=5) pC.nd rfl (Or.inl rfl)) fP))) (aL (dP (PW.pt (Qv (bL Cz (bA cB (pv 5) (pv 1) (λ _ _=>rfl)) aF (bU _)) (Lr (PW.pt (xD (bL Bm (pv 3) oT (bU _)) (xX (oR (aP (Ps T) (hr.mono (by decide)) rfl T.is_ahead.m T.is_ahead.F.kp T.is_ahead.b .nil aV (aA (pv 5) (aA (bA cB (pv 0) (pv 3) (λ _ _=>rfl)) (aA (pv 1) (aA (pv 2) aE)))))))))))) (aL (aX (i:=3) pC.nd rfl (Or.inl rfl) (pv 4))) cC))) (aL (aY (pv 3))))),Rt h⟩)
theorem iW:bF gJ ["self", "numbers"] (aD cZ):=⟨rfl,rfl,rfl,by decide +kernel,rfl,by decide +kernel,by decide +kernel⟩
theorem nI (T:Tx K mg a):cS P w K mg base CX0 3 a.f_Corner_leaving_by a.d_Corner_leaving_by ["self", "numbers"] (eI K):=by
 refine T.Corner_leaving_by.F.ok iW (λ vs H Q E h=>tT h) (λ cdv A outer s H vs Q E hr h=>⟨jM K,(aH (Dr (i:=2) (FS:=aD cZ) (N:=gJ) (xs:=["row", "number"]) (ys:=[]) (caps:=[]) ⟨by decide +kernel,rfl,by decide +kernel,by decide +kernel,rfl,by decide +kernel,rfl⟩ rfl rfl rfl iW.nd rfl (Or.inl rfl) (oS rfl T.n_zip (aA (dW (pv 0) rfl) (aA (pv 1) aE))) (λ _ _ _ _=>iL (n:=2) rfl (bZ (cX (i:=0) (by decide +kernel) rfl (by decide +kernel)) (bZ (cX (i:=1) (by decide +kernel) rfl (by decide +kernel)) fP))) (λ _ _ _ _=>(aR rW (pv 0) (kS (aA (pv 1) aE))))) (aH (aX (i:=3) iW.nd rfl (Or.inl rfl) (aW bG rfl T.n_len dR (aA (dW (pv 0) rfl) aE))) (aL (aY (aP (Sk T) (hr.mono (by decide)) rfl T.leaving.m T.leaving.F.kp T.leaving.b .nil aV (aA (pv 2) (aA (aR iC (pv 3) aF) (aA (aR rW (kS (aA (aR iC (pv 3) aF) aE)) (pe_lrng rfl T.n_list rfl T.n_range rfl (pv 3))) aE)))))))),vS T.ct h⟩)
theorem Cp:bF nN ["self"] (aD fO):=⟨rfl,rfl,rfl,by decide +kernel,rfl,by decide +kernel,by decide +kernel⟩
theorem jH (T:Tx K mg a):cS P w K mg base CX0 1 a.f_Corner_bottom a.d_Corner_bottom ["self"] (dX K):=by
 refine T.Corner_bottom.F.ok Cp (λ vs H Q E h=>Bc h) (λ cdv A outer s H vs Q E hr h=>⟨nM K,(aL (aY (bA cB (bA cB (dW (pv 0) rfl) (jO fX aF) (λ _ _=>rfl)) (jO fX aF) (λ _ _=>rfl)))),Cs T.ct h⟩)
theorem eK:bF jI ["self", "column", "numbers", "at"] (aD dY):=⟨rfl,rfl,rfl,by decide +kernel,rfl,by decide +kernel,by decide +kernel⟩
theorem qA (T:Tx K mg a):cS P w K mg base CX0 2 a.f_Corner_step_in a.d_Corner_step_in ["self", "column", "numbers", "at"] (fW K):=by
 refine T.Corner_step_in.F.ok eK (λ vs H Q E h=>yT h) (λ cdv A outer s H vs Q E hr h=>⟨mI K,(aH (aX (i:=4) eK.nd rfl (Or.inr rfl) (kX (pv 0) T.ct.cl T.Corner_bottom.m (jH T) (hr.mono (by decide)) T.Corner_bottom.b .nil aV)) (aH (aX (i:=5) eK.nd rfl (Or.inl rfl) (bA cB (dW (pv 0) rfl) (pv 3) (λ _ _=>rfl))) (aH (aX (i:=6) eK.nd rfl (Or.inl rfl) (kS aE)) (aH (kA PassesOwn.never rfl (oS rfl T.n_zip (aA (dW (pv 0) rfl) (aA (pv 2) aE))) (iL (n:=2) rfl (bZ (cW (i:=7) eK.nd rfl (Or.inl rfl)) (bZ (cW (i:=8) eK.nd rfl (Or.inr rfl)) fP))) (aL (zI (Xn PySem.F.plainAttrs_list PySem.F.slot_list_append PySem.F.type_list_append Jw (pv 6) (aA (oW (FS:=aD dY) (N:=jI) (xs:=["mine", "yours"]) (ys:=["bottom", "number", "numbers", "at"]) (caps:=[4,8,2,3]) ⟨by decide +kernel,rfl,by decide +kernel,by decide +kernel,rfl,by decide +kernel,rfl⟩ rfl rfl rfl (oS rfl T.n_zip (aA (pv 7) (aA (pv 5) aE))) (λ _ _ _ _=>iL (n:=2) rfl (bZ (cX (i:=0) (by decide +kernel) rfl (by decide +kernel)) (bZ (cX (i:=1) (by decide +kernel) rfl (by decide +kernel)) fP))) (λ _ _ _ _=>(aR fQ (aR lO (aR cD (pv 0) (bA cB (pv 4) (pv 5) (λ _ _=>rfl))) (aR cD (pv 1) (pv 3))) (pv 2)))) aE))))) (aH (uH (pv 5) (Fh (pv 6) (pv 3) uN)) (aH (Bk (pv 0) (pv 6) rfl) (aL (uH (pv 1) (Fh (dW (pv 0) rfl) (pv 3) uN))))))))),Az T.ct h⟩)
theorem lA:bF vG ["corner"] (aD kL):=⟨rfl,rfl,rfl,by decide +kernel,rfl,by decide +kernel,by decide +kernel⟩
theorem Aw (T:Tx K mg a):cS P w K mg base CX0 4 a.f_unstopped a.d_unstopped ["corner"] (kZ K):=by
 refine T.unstopped.F.ok lA (λ vs H Q E h=>Ip h) (λ cdv A outer s H vs Q E hr h=>⟨uT K,(aH (aX (i:=1) lA.nd rfl (Or.inl rfl) (kX (pv 0) T.ct.cl T.Corner_entering.m (kF T) (hr.mono (by decide)) T.Corner_entering.b .nil aV)) (aH (zW PassesOwn.never (bL Tz (pv 1) oT (bU _)) (aH (aX (i:=2) lA.nd rfl (Or.inl rfl) (iY (pv 0) T.ct.cl T.Corner_numbers.m (iF T) (hr.mono (by decide)) T.Corner_numbers.b .nil aV (aA (pv 1) aE))) (aH (aX (i:=3) lA.nd rfl (Or.inl rfl) (iY (pv 0) T.ct.cl T.Corner_leaving_by.m (nI T) (hr.mono (by decide)) T.Corner_leaving_by.b .nil aV (aA (pv 2) aE))) (aH (dP (bL Bm (pv 3) oT (bU _)) (aL (aY (pv 1))) cC) (aH (zI (iY (pv 0) T.ct.cl T.Corner_step_in.m (qA T) (hr.mono (by decide)) T.Corner_step_in.b .nil aV (aA (pv 1) (aA (pv 2) (aA (pv 3) aE))))) (aL (aX (i:=1) lA.nd rfl (Or.inl rfl) (kX (pv 0) T.ct.cl T.Corner_entering.m (kF T) (hr.mono (by decide)) T.Corner_entering.b .nil aV)))))))) (aL (aY oT)))),Nb h⟩)
theorem Eb:bF lG ["row"] (aD fF):=⟨rfl,rfl,rfl,by decide +kernel,rfl,by decide +kernel,by decide +kernel⟩
theorem tQ (T:Tx K mg a):cS P w K mg base CX0 1 a.f_turned_round a.d_turned_round ["row"] (iA K):=by
 refine T.turned_round.F.ok Eb (λ vs H Q E h=>Ct h) (λ cdv A outer s H vs Q E hr h=>⟨pH K,(aL (aY (cM (FS:=aD fF) (N:=lG) (x:="number") (ys:=[]) (caps:=[]) ⟨by decide +kernel,rfl,by decide +kernel,rfl,by decide +kernel,rfl,by decide +kernel,rfl,by decide +kernel⟩ rfl rfl rfl (bY (pv 0)) (λ _ _ _ _=>(jO fX (pv 0)))))),Ec h⟩)
theorem eC:bF dL ["self", "inside"] (aD cJ):=⟨rfl,rfl,rfl,by decide +kernel,rfl,by decide +kernel,by decide +kernel⟩
theorem yS (T:Tx K mg a):cS P w K mg base CX0 3 a.f_Corner_comes_to a.d_Corner_comes_to ["self", "inside"] (gX K):=by
 refine T.Corner_comes_to.F.ok eC (λ vs H Q E h=>xA h) (λ cdv A outer s H vs Q E hr h=>⟨lJ K,(aH (aX (i:=2) eC.nd rfl (Or.inr rfl) (aW bG rfl T.n_len dR (aA (dW (pv 0) rfl) aE))) (aH (Dp (i:=3) (FS:=aD cJ) (N:=dL) (x:="place") (ys:=["inside", "first"]) (caps:=[1,2]) ⟨by decide +kernel,rfl,by decide +kernel,rfl,by decide +kernel,rfl,by decide +kernel,rfl,by decide +kernel⟩ rfl rfl rfl eC.nd rfl (Or.inl rfl) (fL rfl T.n_range (aA (aW bG rfl T.n_len dR (aA (pv 1) aE)) aE)) (λ _ _ _ _=>(bL Nk (aR iC (pv 2) (pv 0)) (pv 1) (by with_unfolding_all rfl))) (λ _ _ _ _=>(pv 0))) (aH (kA PassesOwn.never rfl (bY (Zn (FS:=aD cJ) (N:=dL) (x:="one") (ys:=["first"]) (caps:=[2]) ⟨by decide +kernel,rfl,by decide +kernel,rfl,by decide +kernel,rfl,by decide +kernel,rfl,by decide +kernel⟩ rfl rfl rfl (bY (pv 1)) (λ _ _ _ _=>(bL jP (pv 0) (pv 1) (bU _))) (λ _ _ _ _=>(pv 0)))) (cW (i:=4) eC.nd rfl (Or.inl rfl)) (aH (aX (i:=5) eC.nd rfl (Or.inr rfl) (iY (pv 0) T.ct.cl T.Corner_numbers.m (iF T) (hr.mono (by decide)) T.Corner_numbers.b .nil aV (aA (pv 4) aE))) (aH (Dp (i:=6) (FS:=aD cJ) (N:=dL) (x:="place") (ys:=["numbers"]) (caps:=[5]) ⟨by decide +kernel,rfl,by decide +kernel,rfl,by decide +kernel,rfl,by decide +kernel,rfl,by decide +kernel⟩ rfl rfl rfl eC.nd rfl (Or.inl rfl) (bY (pv 3)) (λ _ _ _ _=>(bL Cy (bA cB (pv 1) (pv 0) (λ _ _=>rfl)) aF (bU _))) (λ _ _ _ _=>(pv 0))) (aH (dP (uG (Zk (pv 6) (λ _=>rfl))) (aL (aY Cw)) cC) (aH (zI (iY (pv 0) T.ct.cl T.Corner_step_in.m (qA T) (hr.mono (by decide)) T.Corner_step_in.b .nil aV (aA (pv 4) (aA (pv 5) (aA (bA cB (pv 6) aF (λ _ _=>rfl)) aE))))) (aL (zI (Xn PySem.F.plainAttrs_list PySem.F.slot_list_remove PySem.F.type_list_remove We (pv 3) (aA (bA cB (pv 6) aF (λ _ _=>rfl)) aE))))))))) (aH (dP (bL jP (kX (pv 0) T.ct.cl T.Corner_bottom.m (jH T) (hr.mono (by decide)) T.Corner_bottom.b .nil aV) aF (bU _)) (aL (Bk (pv 0) (cM (FS:=aD cJ) (N:=dL) (x:="row") (ys:=[]) (caps:=[]) ⟨by decide +kernel,rfl,by decide +kernel,rfl,by decide +kernel,rfl,by decide +kernel,rfl,by decide +kernel⟩ rfl rfl rfl (bY (dW (pv 0) rfl)) (λ _ _ _ _=>(aP (tQ T) (hr.mono (by decide)) rfl T.turned_round.m T.turned_round.F.kp T.turned_round.b .nil aV (aA (pv 0) aE)))) rfl)) cC) (aL (aY (nX op_ge (aW (Cj rfl) rfl T.n_min Fo (aA (aP (lB T) (hr.mono (by decide)) rfl T.column_of.m T.column_of.F.kp T.column_of.b .nil aV (aA (mS pN (dW (pv 0) rfl) pQ (pP (jO fX aF))) (aA (jO fX aF) aE))) aE)) aF (bU _)))))))),yR T.ct h⟩)
theorem nT:bF kG ["self", "column"] (aD eE):=⟨rfl,rfl,rfl,by decide +kernel,rfl,by decide +kernel,by decide +kernel⟩
theorem wY (T:Tx K mg a):cS P w K mg base CX0 4 a.f_Corner_ends_with a.d_Corner_ends_with ["self", "column"] (gI K):=by
 refine T.Corner_ends_with.F.ok nT (λ vs H Q E h=>vT h) (λ cdv A outer s H vs Q E hr h=>⟨gW K,(aH (dP (bL Bm (pv 1) oT (bU _)) (aL (aY (nX Bm (kX (pv 0) T.ct.cl T.Corner_entering.m (kF T) (hr.mono (by decide)) T.Corner_entering.b .nil aV) oT (bU _)))) cC) (aH (aX (i:=2) nT.nd rfl (Or.inl rfl) (iY (pv 0) T.ct.cl T.Corner_numbers.m (iF T) (hr.mono (by decide)) T.Corner_numbers.b .nil aV (aA (pv 1) aE))) (aL (aY (La (nX jP (bA cB (pv 2) (jO fX aF) (λ _ _=>rfl)) aF (bU _)) (Kz (nX Bm (iY (pv 0) T.ct.cl T.Corner_leaving_by.m (nI T) (hr.mono (by decide)) T.Corner_leaving_by.b .nil aV (aA (pv 2) aE)) oT (bU _)))))))),wX T.ct h⟩)
theorem eF:bF mP ["lists"] (aD gC):=⟨rfl,rfl,rfl,by decide +kernel,rfl,by decide +kernel,by decide +kernel⟩
theorem Hs (T:Tx K mg a):cS P w K mg base CX0 5 a.f_last_corner a.d_last_corner ["lists"] (lD K):=by
 refine T.last_corner.F.ok eF (λ vs H Q E h=>Ee h) (λ cdv A outer s H vs Q E hr h=>⟨qE K,(aH (aX (i:=1) eF.nd rfl (Or.inl rfl) (Zm rfl T.g_BITS)) (aH (zW PassesOwn.never (bL jP (pv 1) (aW (Kg rfl) rfl T.n_max Fp (aA (cM (FS:=aD gC) (N:=mP) (x:="row") (ys:=[]) (caps:=[]) ⟨by decide +kernel,rfl,by decide +kernel,rfl,by decide +kernel,rfl,by decide +kernel,rfl,by decide +kernel⟩ rfl rfl rfl (bY (pv 0)) (λ _ _ _ _=>(aP (Ha T) (hr.mono (by decide)) rfl T.longest.m T.longest.F.kp T.longest.b .nil aV (aA (pv 0) aE)))) aE)) (bU _)) (aH (aX (i:=2) eF.nd rfl (Or.inl rfl) (Lu T.mk_Corner (pI T) (hr.mono (by decide)) rfl T.c_Corner T.Corner_init.b .nil aV (aA (aP (Si T) (hr.mono (by decide)) rfl T.rounded.m T.rounded.F.kp T.rounded.b .nil aV (aA (pv 0) (aA (pv 1) aE))) aE))) (aH (aX (i:=3) eF.nd rfl (Or.inl rfl) (aP (Aw T) (hr.mono (by decide)) rfl T.unstopped.m T.unstopped.F.kp T.unstopped.b .nil aV (aA (pv 2) aE))) (aH (aX (i:=4) eF.nd rfl (Or.inl rfl) (Lu T.mk_Corner (pI T) (hr.mono (by decide)) rfl T.c_Corner T.Corner_init.b .nil aV (aA (pv 0) aE))) (aH (dP (PW.pt (Qv (oR (iY (pv 4) T.ct.cl T.Corner_comes_to.m (yS T) (hr.mono (by decide)) T.Corner_comes_to.b .nil aV (aA (dW (pv 2) rfl) aE))) (Lr (oR (iY (pv 4) T.ct.cl T.Corner_ends_with.m (wY T) (hr.mono (by decide)) T.Corner_ends_with.b .nil aV (aA (pv 3) aE)))))) (aL (aY (fZ (aA (pv 4) (aA (pv 3) aE))))) cC) (aL (aX (i:=1) eF.nd rfl (Or.inl rfl) (aR cD aF (pv 1))))))))) (aH (aX (i:=4) eF.nd rfl (Or.inl rfl) (Lu T.mk_Corner (pI T) (hr.mono (by decide)) rfl T.c_Corner T.Corner_init.b .nil aV (aA (pv 0) aE))) (aH (aX (i:=3) eF.nd rfl (Or.inl rfl) (aP (Aw T) (hr.mono (by decide)) rfl T.unstopped.m T.unstopped.F.kp T.unstopped.b .nil aV (aA (pv 4) aE))) (aL (aY (fZ (aA (pv 4) (aA (pv 3) aE))))))))),Hm T.ct h⟩)
theorem sc_over:bF Rg ["one", "other"] (aD Bj):=⟨rfl,rfl,rfl,by decide +kernel,rfl,by decide +kernel,by decide +kernel⟩
theorem Er (T:Tx K mg a):cS P w K mg base CX0 3 a.f_over a.d_over ["one", "other"] (rY K):=by
 refine T.over.F.ok sc_over (λ vs H Q E h=>jJZ h) (λ cdv A outer s H vs Q E hr h=>⟨Qr K,(aL (aY (aP (oX T) (hr.mono (by decide)) rfl T.ratio.m T.ratio.F.kp T.ratio.b .nil aV (aA (aR cD (bA bP (pv 0) aF (λ _ _=>rfl)) (bA bP (pv 1) aF (λ _ _=>rfl))) (aA (aR cD (bA bP (pv 0) aF (λ _ _=>rfl)) (bA bP (pv 1) aF (λ _ _=>rfl))) aE))))),rd_over h⟩)
theorem jG:bF jW ["self", "numbers"] (aD eO):=⟨rfl,rfl,rfl,by decide +kernel,rfl,by decide +kernel,by decide +kernel⟩
theorem rR (T:Tx K mg a):cS P w K mg base CX0 3 a.f_Corner_spread a.d_Corner_spread ["self", "numbers"] (gN K):=by
 refine T.Corner_spread.F.ok jG (λ vs H Q E h=>Bb h) (λ cdv A outer s H vs Q E hr h=>⟨nL K,(aH (kC (i:=2) (FS:=aD eO) (N:=jW) (x:="column") (ys:=[]) (caps:=[]) ⟨by decide +kernel,rfl,by decide +kernel,rfl,by decide +kernel,rfl,by decide +kernel,rfl,by decide +kernel⟩ rfl rfl rfl jG.nd rfl (Or.inl rfl) (bY (dW (pv 0) rfl)) (λ _ _ _ _=>(fZ (aA aF (aA aF aE))))) (aH (kA PassesOwn.never rfl (oS rfl T.n_zip (aA (pv 1) (aA (dW (pv 0) rfl) aE))) (iL (n:=2) rfl (bZ (cW (i:=3) jG.nd rfl (Or.inl rfl)) (bZ (cW (i:=4) jG.nd rfl (Or.inl rfl)) fP))) (aL (dP (bL jP (pv 4) (aW bG rfl T.n_len dR (aA (pv 2) aE)) (bU _)) (aL (uH (aP (oX T) (hr.mono (by decide)) rfl T.ratio.m T.ratio.F.kp T.ratio.b .nil aV (aA (pv 3) (aA (kX (pv 0) T.ct.cl T.Corner_bottom.m (jH T) (hr.mono (by decide)) T.Corner_bottom.b .nil aV) aE))) (Fh (pv 2) (pv 4) uN))) cC))) (aL (aY (pv 2))))),Cq T.ct h⟩)
theorem Mz:bF vK ["self"] (aD kO):=⟨rfl,rfl,rfl,by decide +kernel,rfl,by decide +kernel,by decide +kernel⟩
theorem Np (T:Tx K mg a):cS P w K mg base CX0 4 a.f_Corner_xs a.d_Corner_xs ["self"] (oC K):=by
 refine T.Corner_xs.F.ok Mz (λ vs H Q E h=>Iy h) (λ cdv A outer s H vs Q E hr h=>⟨vD K,(aL (aY (iY (pv 0) T.ct.cl T.Corner_spread.m (rR T) (hr.mono (by decide)) T.Corner_spread.b .nil aV (aA (aP (lB T) (hr.mono (by decide)) rfl T.column_of.m T.column_of.F.kp T.column_of.b .nil aV (aA (dW (pv 0) rfl) (aA (jO fX aF) aE))) aE)))),Nj T.ct h⟩)
theorem vQ:bF mR ["self", "column"] (aD gE):=⟨rfl,rfl,rfl,by decide +kernel,rfl,by decide +kernel,by decide +kernel⟩
theorem Hu (T:Tx K mg a):cS P w K mg base CX0 4 a.f_Corner_ways a.d_Corner_ways ["self", "column"] (lF K):=by
 refine T.Corner_ways.F.ok vQ (λ vs H Q E h=>Eg h) (λ cdv A outer s H vs Q E hr h=>⟨qH K,(aH (aX (i:=2) vQ.nd rfl (Or.inl rfl) (iY (pv 0) T.ct.cl T.Corner_spread.m (rR T) (hr.mono (by decide)) T.Corner_spread.b .nil aV (aA (cM (FS:=aD gE) (N:=mR) (x:="number") (ys:=[]) (caps:=[]) ⟨by decide +kernel,rfl,by decide +kernel,rfl,by decide +kernel,rfl,by decide +kernel,rfl,by decide +kernel⟩ rfl rfl rfl (bY (iY (pv 0) T.ct.cl T.Corner_numbers.m (iF T) (hr.mono (by decide)) T.Corner_numbers.b .nil aV (aA (pv 1) aE))) (λ _ _ _ _=>(jO fX (pv 0)))) aE))) (aH (dP (bL jP (pv 1) (aW bG rfl T.n_len dR (aA (pv 2) aE)) (bU _)) (aL (uH (fZ (aA aF (aA aF aE))) (Fh (pv 2) (pv 1) uN))) cC) (aL (aY (pv 2))))),Ho T.ct h⟩)
theorem Mw:bF pY ["self"] (aD iR):=⟨rfl,rfl,rfl,by decide +kernel,rfl,by decide +kernel,by decide +kernel⟩
theorem Nn (T:Tx K mg a):cS P w K mg base CX0 3 a.f_Corner_ys a.d_Corner_ys ["self"] (oB K):=by
 refine T.Corner_ys.F.ok Mw (λ vs H Q E h=>Ix h) (λ cdv A outer s H vs Q E hr h=>⟨vC K,(aL (aY (cM (FS:=aD iR) (N:=pY) (x:="number") (ys:=["self"]) (caps:=[0]) ⟨by decide +kernel,rfl,by decide +kernel,rfl,by decide +kernel,rfl,by decide +kernel,rfl,by decide +kernel⟩ rfl rfl rfl (bY (mS pN (bA cB (dW (pv 0) rfl) (jO fX aF) (λ _ _=>rfl)) pQ (pP (aW bG rfl T.n_len dR (aA (dW (pv 0) rfl) aE))))) (λ _ _ _ _=>(aP (oX T) (hr.mono (by decide)) rfl T.ratio.m T.ratio.F.kp T.ratio.b .nil aV (aA (pv 0) (aA (kX (pv 1) T.ct.cl T.Corner_bottom.m (jH T) (hr.mono (by decide)) T.Corner_bottom.b .nil aV) aE))))))),Ni T.ct h⟩)
theorem pO:bF uJ ["rows", "bounds", "goal"] (aD oQ):=⟨rfl,rfl,rfl,by decide +kernel,rfl,by decide +kernel,by decide +kernel⟩
theorem ok_best (T:Tx K mg a):cS P w K mg base CX0 6 a.f_best a.d_best ["rows", "bounds", "goal"] (El K):=by
 refine T.best.F.ok pO (λ vs H Q E h=>jJX h) (λ cdv A outer s H vs Q E hr h=>⟨Qs K,(aH (kA PassesOwn.never rfl (bY (pv 1)) (cW (i:=3) pO.nd rfl (Or.inl rfl)) (aL (dP (oR (aP (Zu T) (hr.mono (by decide)) rfl T.below.m T.below.F.kp T.below.b .nil aV (aA (pv 3) (aA (fZ (aA aF (aA aF aE))) aE)))) (aL Fz) cC))) (aH (kC (i:=4) (FS:=aD oQ) (N:=uJ) (x:="row") (ys:=[]) (caps:=[]) ⟨by decide +kernel,rfl,by decide +kernel,rfl,by decide +kernel,rfl,by decide +kernel,rfl,by decide +kernel⟩ rfl rfl rfl pO.nd rfl (Or.inl rfl) (bY (pv 0)) (λ _ _ _ _=>(aP (Gb T) (hr.mono (by decide)) rfl T.whole.m T.whole.F.kp T.whole.b .nil aV (aA (pv 0) aE)))) (aH (aX (i:=5) pO.nd rfl (Or.inr rfl) (aP (Gb T) (hr.mono (by decide)) rfl T.whole.m T.whole.F.kp T.whole.b .nil aV (aA (oW (FS:=aD oQ) (N:=uJ) (xs:=["bound", "row"]) (ys:=[]) (caps:=[]) ⟨by decide +kernel,rfl,by decide +kernel,by decide +kernel,rfl,by decide +kernel,rfl⟩ rfl rfl rfl (oS rfl T.n_zip (aA (pv 1) (aA (pv 4) aE))) (λ _ _ _ _=>iL (n:=2) rfl (bZ (cX (i:=0) (by decide +kernel) rfl (by decide +kernel)) (bZ (cX (i:=1) (by decide +kernel) rfl (by decide +kernel)) fP))) (λ _ _ _ _=>(aP (Ou T) (hr.mono (by decide)) rfl T.times.m T.times.F.kp T.times.b .nil aV (aA (pv 0) (aA (bA bP (pv 1) aF (λ _ _=>rfl)) aE))))) aE))) (aH (aX (i:=6) pO.nd rfl (Or.inr rfl) (aP (Gb T) (hr.mono (by decide)) rfl T.whole.m T.whole.F.kp T.whole.b .nil aV (aA (pv 2) aE))) (aH (Dr (i:=7) (FS:=aD oQ) (N:=uJ) (xs:=["row", "limit"]) (ys:=[]) (caps:=[]) ⟨by decide +kernel,rfl,by decide +kernel,by decide +kernel,rfl,by decide +kernel,rfl⟩ rfl rfl rfl pO.nd rfl (Or.inl rfl) (oS rfl T.n_zip (aA (pv 4) (aA (bA bP (pv 5) aF (λ _ _=>rfl)) aE))) (λ _ _ _ _=>iL (n:=2) rfl (bZ (cX (i:=0) (by decide +kernel) rfl (by decide +kernel)) (bZ (cX (i:=1) (by decide +kernel) rfl (by decide +kernel)) fP))) (λ _ _ _ _=>(aR rW (bA bP (pv 0) aF (λ _ _=>rfl)) (kS (aA (pv 1) aE))))) (aH (aX (i:=8) pO.nd rfl (Or.inl rfl) (aP (Hs T) (hr.mono (by decide)) rfl T.last_corner.m T.last_corner.F.kp T.last_corner.b .nil aV (aA (aR rW (pv 7) (kS (aA (aR rW (aP (tQ T) (hr.mono (by decide)) rfl T.turned_round.m T.turned_round.F.kp T.turned_round.b .nil aV (aA (bA bP (pv 6) aF (λ _ _=>rfl)) aE)) (kS (aA aF aE))) aE))) aE))) (aH (kC (i:=9) (FS:=aD oQ) (N:=uJ) (x:="x") (ys:=["limits"]) (caps:=[5]) ⟨by decide +kernel,rfl,by decide +kernel,rfl,by decide +kernel,rfl,by decide +kernel,rfl,by decide +kernel⟩ rfl rfl rfl pO.nd rfl (Or.inl rfl) (bY (kX (bA bP (pv 8) aF (λ _ _=>rfl)) T.ct.cl T.Corner_xs.m (Np T) (hr.mono (by decide)) T.Corner_xs.b .nil aV)) (λ _ _ _ _=>(aP (Er T) (hr.mono (by decide)) rfl T.over.m T.over.F.kp T.over.b .nil aV (aA (pv 0) (aA (bA bP (pv 1) aF (λ _ _=>rfl)) aE))))) (aH (dP (bL Tz (bA bP (pv 8) aF (λ _ _=>rfl)) oT (bU _)) (aL (aY (fZ (aA Xz (aA (pv 9) (aA (iY (bA bP (pv 8) aF (λ _ _=>rfl)) T.ct.cl T.Corner_ways.m (Hu T) (hr.mono (by decide)) T.Corner_ways.b .nil aV (aA (bA bP (pv 8) aF (λ _ _=>rfl)) aE)) aE)))))) cC) (aL (aY (fZ (aA Xz (aA (pv 9) (aA (oW (FS:=aD oQ) (N:=uJ) (xs:=["y", "row"]) (ys:=["aims"]) (caps:=[6]) ⟨by decide +kernel,rfl,by decide +kernel,by decide +kernel,rfl,by decide +kernel,rfl⟩ rfl rfl rfl (oS rfl T.n_zip (aA (kX (bA bP (pv 8) aF (λ _ _=>rfl)) T.ct.cl T.Corner_ys.m (Nn T) (hr.mono (by decide)) T.Corner_ys.b .nil aV) (aA (pv 4) aE))) (λ _ _ _ _=>iL (n:=2) rfl (bZ (cX (i:=0) (by decide +kernel) rfl (by decide +kernel)) (bZ (cX (i:=1) (by decide +kernel) rfl (by decide +kernel)) fP))) (λ _ _ _ _=>(aP (Er T) (hr.mono (by decide)) rfl T.over.m T.over.F.kp T.over.b .nil aV (aA (aP (Ou T) (hr.mono (by decide)) rfl T.times.m T.times.F.kp T.times.b .nil aV (aA (pv 0) (aA (bA bP (pv 1) aF (λ _ _=>rfl)) aE))) (aA (bA bP (pv 2) aF (λ _ _=>rfl)) aE))))) aE)))))))))))))),rd_best h⟩)
theorem wL:bF Gj ["fractions"] (aD qN):=⟨rfl,rfl,rfl,by decide +kernel,rfl,by decide +kernel,by decide +kernel⟩
theorem Vz (T:Tx K mg a):cS P w K mg base CX0 4 a.f_summed a.d_summed ["fractions"] (wH K):=by
 refine T.summed.F.ok wL (λ vs H Q E h=>Sv h) (λ cdv A outer s H vs Q E hr h=>⟨Ft K,(aH (aX (i:=1) wL.nd rfl (Or.inl rfl) (fZ (aA aF (aA aF aE)))) (aH (kA PassesOwn.never rfl (bY (pv 0)) (cW (i:=2) wL.nd rfl (Or.inl rfl)) (aL (aX (i:=1) wL.nd rfl (Or.inl rfl) (aP (Ub T) (hr.mono (by decide)) rfl T.plus.m T.plus.F.kp T.plus.b .nil aV (aA (pv 1) (aA (pv 2) aE)))))) (aL (aY (pv 1))))),Vr h⟩)
theorem Yy:bF Mm ["one", "other"] (aD vZ):=⟨rfl,rfl,rfl,by decide +kernel,rfl,by decide +kernel,by decide +kernel⟩
theorem Zt (T:Tx K mg a):cS P w K mg base CX0 3 a.f_minus a.d_minus ["one", "other"] (zS K):=by
 refine T.minus.F.ok Yy (λ vs H Q E h=>Wl h) (λ cdv A outer s H vs Q E hr h=>⟨Lk K,(aL (aY (aP (oX T) (hr.mono (by decide)) rfl T.ratio.m T.ratio.F.kp T.ratio.b .nil aV (aA (aR lO (aR cD (bA bP (pv 0) aF (λ _ _=>rfl)) (bA bP (pv 1) aF (λ _ _=>rfl))) (aR cD (bA bP (pv 1) aF (λ _ _=>rfl)) (bA bP (pv 0) aF (λ _ _=>rfl)))) (aA (aR cD (bA bP (pv 0) aF (λ _ _=>rfl)) (bA bP (pv 1) aF (λ _ _=>rfl))) aE))))),Zh h⟩)
theorem Rp:bF wU ["weights", "total"] (aD lT):=⟨rfl,rfl,rfl,by decide +kernel,rfl,by decide +kernel,by decide +kernel⟩
theorem Hc (T:Tx K mg a):cS P w K mg base CX0 4 a.f_divided a.d_divided ["weights", "total"] (pB K):=by
 refine T.divided.F.ok Rp (λ vs H Q E h=>Qf h) (λ cdv A outer s H vs Q E hr h=>⟨Bw K,(aL (aY (cM (FS:=aD lT) (N:=wU) (x:="weight") (ys:=["total"]) (caps:=[1]) ⟨by decide +kernel,rfl,by decide +kernel,rfl,by decide +kernel,rfl,by decide +kernel,rfl,by decide +kernel⟩ rfl rfl rfl (bY (pv 0)) (λ _ _ _ _=>(aP (Er T) (hr.mono (by decide)) rfl T.over.m T.over.F.kp T.over.b .nil aV (aA (pv 0) (aA (pv 1) aE))))))),Sc h⟩)
theorem uO:bF wE ["rows"] (aD nW):=⟨rfl,rfl,rfl,by decide +kernel,rfl,by decide +kernel,by decide +kernel⟩
theorem Zr (T:Tx K mg a):cS P w K mg base CX0 7 a.f_worth a.d_worth ["rows"] (zQ K):=by
 refine T.worth.F.ok uO (λ vs H Q E h=>Wg h) (λ cdv A outer s H vs Q E hr h=>⟨Lg K,(aH (aX (i:=1) uO.nd rfl (Or.inr rfl) (aP (Sj T) (hr.mono (by decide)) rfl T.lift_of.m T.lift_of.F.kp T.lift_of.b .nil aV (aA (pv 0) aE))) (aH (kC (i:=2) (FS:=aD nW) (N:=wE) (x:="row") (ys:=["lift"]) (caps:=[1]) ⟨by decide +kernel,rfl,by decide +kernel,rfl,by decide +kernel,rfl,by decide +kernel,rfl,by decide +kernel⟩ rfl rfl rfl uO.nd rfl (Or.inl rfl) (bY (pv 0)) (λ _ _ _ _=>(aP (Wa T) (hr.mono (by decide)) rfl T.lifted.m T.lifted.F.kp T.lifted.b .nil aV (aA (pv 0) (aA (pv 1) aE))))) (aH (aX (i:=3) uO.nd rfl (Or.inl rfl) (aP (ok_best T) (hr.mono (by decide)) rfl T.best.m T.best.F.kp T.best.b .nil aV (aA (pv 2) (aA (cM (FS:=aD nW) (N:=wE) (x:="row") (ys:=[]) (caps:=[]) ⟨by decide +kernel,rfl,by decide +kernel,rfl,by decide +kernel,rfl,by decide +kernel,rfl,by decide +kernel⟩ rfl rfl rfl (bY (pv 0)) (λ _ _ _ _=>(fZ (aA aF (aA aF aE))))) (aA (cM (FS:=aD nW) (N:=wE) (x:="fraction") (ys:=[]) (caps:=[]) ⟨by decide +kernel,rfl,by decide +kernel,rfl,by decide +kernel,rfl,by decide +kernel,rfl,by decide +kernel⟩ rfl rfl rfl (bY (bA cB (pv 0) aF (λ _ _=>rfl))) (λ _ _ _ _=>(fZ (aA aF (aA aF aE))))) aE))))) (aH (aX (i:=4) uO.nd rfl (Or.inl rfl) (aP (Vz T) (hr.mono (by decide)) rfl T.summed.m T.summed.F.kp T.summed.b .nil aV (aA (bA bP (pv 3) aF (λ _ _=>rfl)) aE))) (aL (aY (fZ (aA (aP (Zt T) (hr.mono (by decide)) rfl T.minus.m T.minus.F.kp T.minus.b .nil aV (aA (aP (Er T) (hr.mono (by decide)) rfl T.over.m T.over.F.kp T.over.b .nil aV (aA (fZ (aA aF (aA aF aE))) (aA (pv 4) aE))) (aA (pv 1) aE))) (aA (aP (Hc T) (hr.mono (by decide)) rfl T.divided.m T.divided.F.kp T.divided.b .nil aV (aA (bA bP (pv 3) aF (λ _ _=>rfl)) (aA (pv 4) aE))) (aA (aP (Hc T) (hr.mono (by decide)) rfl T.divided.m T.divided.F.kp T.divided.b .nil aV (aA (bA bP (pv 3) aF (λ _ _=>rfl)) (aA (pv 4) aE))) aE)))))))))),Zc h⟩)
theorem Rn:bF Cl ["_law_found"] (aD oJ):=⟨rfl,rfl,rfl,by decide +kernel,rfl,by decide +kernel,by decide +kernel⟩
theorem Hb (T:Tx K mg a):cS P w K mg base CX0 1 a.f_l_whole a.d_l_whole ["_law_found"] (lW K):=by
 refine T.l_whole.F.ok Rn (λ vs H Q E h=>Qa h) (λ cdv A outer s H vs Q E hr h=>⟨wF K,(aL (aY (La (aW Gh rfl T.n_isinstance jU (aA (pv 0) (aA (zJ (v:=.ty "int") rfl T.n_int bt_int rfl) aE))) (Kz (pe_not (aW Gh rfl T.n_isinstance jU (aA (pv 0) (aA (zJ (v:=.ty "bool") rfl T.n_bool bt_bool rfl) aE)))))))),Rw h⟩)
theorem Ih:bF tJ ["_law_found"] (aD jE):=⟨rfl,rfl,rfl,by decide +kernel,rfl,by decide +kernel,by decide +kernel⟩
theorem xJ (T:Tx K mg a):cS P w K mg base CX0 2 a.f_l_fraction a.d_l_fraction ["_law_found"] (jS K):=by
 refine T.l_fraction.F.ok Ih (λ vs H Q E h=>Hx h) (λ cdv A outer s H vs Q E hr h=>⟨nY K,(aH (dP (PW.pt (xD (uG (oR (aW jJl rfl T.n_isinstance jU (aA (pv 0) (aA (zJ (v:=.ty "tuple") rfl T.n_tuple Pi rfl) aE))))) (xD (bL Cy (aW bG rfl T.n_len dR (aA (pv 0) aE)) aF (bU _)) (xD (uG (oR (aP (Hb T) (hr.mono (by decide)) rfl T.l_whole.m T.l_whole.F.kp T.l_whole.b .nil aV (aA (bA bP (pv 0) aF (λ _ _=>rfl)) aE)))) (xX (uG (oR (aP (Hb T) (hr.mono (by decide)) rfl T.l_whole.m T.l_whole.F.kp T.l_whole.b .nil aV (aA (bA bP (pv 0) aF (λ _ _=>rfl)) aE))))))))) (aL (aY Cw)) cC) (aL (aY (La (nX Cz (bA bP (pv 0) aF (λ _ _=>rfl)) aF (bU _)) (Kz (nX tZ (aP (tH T) (hr.mono (by decide)) rfl T.l_divisor.m T.l_divisor.F.kp T.l_divisor.b .nil aV (aA (bA bP (pv 0) aF (λ _ _=>rfl)) (aA (bA bP (pv 0) aF (λ _ _=>rfl)) aE))) aF (bU _))))))),Ik h⟩)
theorem jT:bF oF ["_law_found", "_law_many"] (aD gU):=⟨rfl,rfl,rfl,by decide +kernel,rfl,by decide +kernel,by decide +kernel⟩
theorem xI (T:Tx K mg a):cS P w K mg base CX0 3 a.f_l_parts_of a.d_l_parts_of ["_law_found", "_law_many"] (jR K):=by
 refine T.l_parts_of.F.ok jT (λ vs H Q E h=>Hw h) (λ cdv A outer s H vs Q E hr h=>⟨sX K,(aH (dP (PW.pt (xD (uG (oR (aW Ki rfl T.n_isinstance jU (aA (pv 0) (aA (zJ (v:=.ty "list") rfl T.n_list Ey rfl) aE))))) (xX (bL Cy (aW bG rfl T.n_len dR (aA (pv 0) aE)) (pv 1) (bU _))))) (aL (aY (fZ (aA aF (aA (kS aE) aE))))) cC) (aH (aX (i:=2) jT.nd rfl (Or.inr rfl) aF) (aH (kA PassesOwn.never rfl (bY (pv 0)) (cW (i:=3) jT.nd rfl (Or.inl rfl)) (aH (dP (PW.pt (xD (uG (oR (aP (xJ T) (hr.mono (by decide)) rfl T.l_fraction.m T.l_fraction.F.kp T.l_fraction.b .nil aV (aA (pv 3) aE)))) (xX (bL jP (bA bP (pv 3) aF (λ _ _=>rfl)) aF (bU _))))) (aL (aY (fZ (aA aF (aA (kS aE) aE))))) cC) (aL (aX (i:=2) jT.nd rfl (Or.inr rfl) (aR cD (pv 2) (aR fQ (bA bP (pv 3) aF (λ _ _=>rfl)) (aP (tH T) (hr.mono (by decide)) rfl T.l_divisor.m T.l_divisor.F.kp T.l_divisor.b .nil aV (aA (pv 2) (aA (bA bP (pv 3) aF (λ _ _=>rfl)) aE))))))))) (aH (kC (i:=4) (FS:=aD gU) (N:=oF) (x:="_law_one") (ys:=["_law_common"]) (caps:=[2]) ⟨by decide +kernel,rfl,by decide +kernel,rfl,by decide +kernel,rfl,by decide +kernel,rfl,by decide +kernel⟩ rfl rfl rfl jT.nd rfl (Or.inl rfl) (bY (pv 0)) (λ _ _ _ _=>(aR cD (bA bP (pv 0) aF (λ _ _=>rfl)) (aR fQ (pv 1) (bA bP (pv 0) aF (λ _ _=>rfl)))))) (aH (dP (bL Cy (aW (qV rfl) rfl T.n_sum Fn (aA (pv 4) aE)) (pv 2) (bU _)) (aL (aY (fZ (aA aF (aA (kS aE) aE))))) cC) (aL (aY (fZ (aA (pv 2) (aA (pv 4) aE)))))))))),Ij h⟩)
theorem fC:bF qW ["_law_found", "_law_rows_here", "_law_scale"] (aD kJ):=⟨rfl,rfl,rfl,by decide +kernel,rfl,by decide +kernel,by decide +kernel⟩
theorem Sl (T:Tx K mg a):cS P w K mg base CX0 4 a.f_l_right a.d_l_right ["_law_found", "_law_rows_here", "_law_scale"] (sI K):=by
 refine T.l_right.F.ok fC (λ vs H Q E h=>Qb h) (λ cdv A outer s H vs Q E hr h=>⟨wG K,(aH (dP (PW.pt (xD (uG (oR (aW Ki rfl T.n_isinstance jU (aA (pv 0) (aA (zJ (v:=.ty "tuple") rfl T.n_tuple Pi rfl) aE))))) (xD (bL Cy (aW bG rfl T.n_len dR (aA (pv 0) aE)) aF (bU _)) (xX (uG (oR (aP (xJ T) (hr.mono (by decide)) rfl T.l_fraction.m T.l_fraction.F.kp T.l_fraction.b .nil aV (aA (bA bP (pv 0) aF (λ _ _=>rfl)) aE)))))))) (aL (aY Cw)) cC) (aH (uH (bA bP (pv 0) aF (λ _ _=>rfl)) (iL (n:=2) rfl (bZ (cW (i:=3) fC.nd rfl (Or.inl rfl)) (bZ (cW (i:=4) fC.nd rfl (Or.inl rfl)) fP)))) (aH (uH (aP (xI T) (hr.mono (by decide)) rfl T.l_parts_of.m T.l_parts_of.F.kp T.l_parts_of.b .nil aV (aA (bA bP (pv 0) aF (λ _ _=>rfl)) (aA (aW bG rfl T.n_len dR (aA (pv 1) aE)) aE))) (iL (n:=2) rfl (bZ (cW (i:=5) fC.nd rfl (Or.inl rfl)) (bZ (cW (i:=6) fC.nd rfl (Or.inr rfl)) fP)))) (aH (uH (aP (xI T) (hr.mono (by decide)) rfl T.l_parts_of.m T.l_parts_of.F.kp T.l_parts_of.b .nil aV (aA (bA bP (pv 0) aF (λ _ _=>rfl)) (aA (aW bG rfl T.n_len dR (aA (bA cB (pv 1) aF (λ _ _=>rfl)) aE)) aE))) (iL (n:=2) rfl (bZ (cW (i:=7) fC.nd rfl (Or.inl rfl)) (bZ (cW (i:=8) fC.nd rfl (Or.inr rfl)) fP)))) (aH (dP (PW.pt (xD (bL tZ (pv 5) aF (bU _)) (xX (bL tZ (pv 7) aF (bU _))))) (aL (aY Cw)) cC) (aH (kA PassesOwn.never rfl (fL rfl T.n_range (aA (aW bG rfl T.n_len dR (aA (pv 8) aE)) aE)) (cW (i:=9) fC.nd rfl (Or.inr rfl)) (aH (aX (i:=10) fC.nd rfl (Or.inl rfl) (aW (qV rfl) rfl T.n_sum Fn (aA (cM (FS:=aD kJ) (N:=qW) (x:="_law_k") (ys:=["_law_lines", "_law_j", "_law_rows_here"]) (caps:=[6,9,1]) ⟨by decide +kernel,rfl,by decide +kernel,rfl,by decide +kernel,rfl,by decide +kernel,rfl,by decide +kernel⟩ rfl rfl rfl (fL rfl T.n_range (aA (aW bG rfl T.n_len dR (aA (pv 6) aE)) aE)) (λ _ _ _ _=>(aR cD (bA cB (pv 1) (pv 0) (λ _ _=>rfl)) (bA cB (bA cB (pv 3) (pv 0) (λ _ _=>rfl)) (pv 2) (λ _ _=>rfl))))) aE))) (aL (dP (bL jP (aR cD (pv 10) (pv 4)) (aR cD (aR cD (pv 3) (pv 2)) (pv 5)) (bU _)) (aL (aY Cw)) cC)))) (aH (kA PassesOwn.never rfl (bY (pv 1)) (cW (i:=11) fC.nd rfl (Or.inr rfl)) (aH (aX (i:=10) fC.nd rfl (Or.inl rfl) (aW (qV rfl) rfl T.n_sum Fn (aA (cM (FS:=aD kJ) (N:=qW) (x:="_law_j") (ys:=["_law_columns", "_law_row"]) (caps:=[8,11]) ⟨by decide +kernel,rfl,by decide +kernel,rfl,by decide +kernel,rfl,by decide +kernel,rfl,by decide +kernel⟩ rfl rfl rfl (fL rfl T.n_range (aA (aW bG rfl T.n_len dR (aA (pv 8) aE)) aE)) (λ _ _ _ _=>(aR cD (bA cB (pv 1) (pv 0) (λ _ _=>rfl)) (bA cB (pv 2) (pv 0) (λ _ _=>rfl))))) aE))) (aL (dP (bL Cz (aR cD (pv 10) (pv 4)) (aR cD (aR cD (pv 3) (pv 2)) (pv 7)) (bU _)) (aL (aY Cw)) cC)))) (aL (aY Cw))))))))),Rx h⟩)
theorem Bh:bF Fg ["_law_script"] (aD xB):=⟨rfl,rfl,rfl,by decide +kernel,rfl,by decide +kernel,by decide +kernel⟩
theorem ok_law (T:Tx K mg a):cS P w K mg base CX0 8 a.f_law a.d_law ["_law_script"] (Bg K):=by
 refine T.law.F.ok Bh (λ vs H Q E h=>len_law h) (λ cdv A outer s H vs Q E hr h=>⟨Xk K,(aH (aX (i:=1) Bh.nd rfl (Or.inl rfl) (aP (Wc T) (hr.mono (by decide)) rfl T.l_rows.m T.l_rows.F.kp T.l_rows.b .nil aV (aA (pv 0) aE))) (aH (aX (i:=2) Bh.nd rfl (Or.inr rfl) (bA cB (kS (aA aF (aA aF (aA aF (aA (aR iC (aR Bl aF aF) aF) aE))))) (aR eL (aP (fV T) (hr.mono (by decide)) rfl T.l_cell_at.m T.l_cell_at.F.kp T.l_cell_at.b .nil aV (aA (pv 0) (aA aF aE))) aF) (λ _ _=>rfl))) (aH (kC (i:=3) (FS:=aD xB) (N:=Fg) (x:="_law_row") (ys:=["_law_scale"]) (caps:=[2]) ⟨by decide +kernel,rfl,by decide +kernel,rfl,by decide +kernel,rfl,by decide +kernel,rfl,by decide +kernel⟩ rfl rfl rfl Bh.nd rfl (Or.inl rfl) (bY (pv 1)) (λ _ _ _ _=>(Jt (z:="_law_unit_here") (zs:=["_law_scale"]) (capsI:=[1]) (show iM (aD xB) _ Fg "_law_row" ["_law_scale"] [2] from ⟨by decide +kernel,rfl,by decide +kernel,rfl,by decide +kernel,rfl,by decide +kernel,rfl,by decide +kernel⟩) ⟨by decide +kernel,rfl,by decide +kernel,rfl,by decide +kernel,by decide +kernel,rfl,by decide +kernel⟩ rfl (bY (pv 0)) (λ _ _ _ _=>(aP (Du T) (hr.mono (by decide)) rfl T.l_lowest.m T.l_lowest.F.kp T.l_lowest.b .nil aV (aA (pv 0) (aA (pv 1) aE))))))) (aH (aX (i:=4) Bh.nd rfl (Or.inl rfl) (aP (Zr T) (hr.mono (by decide)) rfl T.worth.m T.worth.F.kp T.worth.b .nil aV (aA (pv 3) aE))) (aH (kC (i:=5) (FS:=aD xB) (N:=Fg) (x:="_law_row") (ys:=["_law_scale"]) (caps:=[2]) ⟨by decide +kernel,rfl,by decide +kernel,rfl,by decide +kernel,rfl,by decide +kernel,rfl,by decide +kernel⟩ rfl rfl rfl Bh.nd rfl (Or.inl rfl) (bY (pv 1)) (λ _ _ _ _=>(Jt (z:="_law_unit_here") (zs:=["_law_scale"]) (capsI:=[1]) (show iM (aD xB) _ Fg "_law_row" ["_law_scale"] [2] from ⟨by decide +kernel,rfl,by decide +kernel,rfl,by decide +kernel,rfl,by decide +kernel,rfl,by decide +kernel⟩) ⟨by decide +kernel,rfl,by decide +kernel,rfl,by decide +kernel,by decide +kernel,rfl,by decide +kernel⟩ rfl (bY (pv 0)) (λ _ _ _ _=>(aP (Du T) (hr.mono (by decide)) rfl T.l_lowest.m T.l_lowest.F.kp T.l_lowest.b .nil aV (aA (pv 0) (aA (pv 1) aE))))))) (aL (aY (La (aP (Sl T) (hr.mono (by decide)) rfl T.l_right.m T.l_right.F.kp T.l_right.b .nil aV (aA (pv 4) (aA (pv 1) (aA (pv 2) aE)))) (Kz (nX (op_eqD 2 (Nat.lt_of_le_of_lt (Nat.add_le_add_left (by decide) _) hr.units)) (pv 3) (pv 5) (bU _))))))))))),rd_law h⟩)
end
theorem ar1 {P:List Value->Prop} (h:∀ a,P [a]):∀ us:List Value,us.length=1->P us
 | [a],_=>h a
theorem ar2 {P:List Value->Prop} (h:∀ a b,P [a,b]):∀ us:List Value,us.length=2->P us
 | [],e=>nomatch e
 | a::us,e=>ar1 (P:=λ l=>P (a::l)) (h a) us (Nat.succ.inj e)
theorem ar3 {P:List Value->Prop} (h:∀ a b c,P [a,b,c]):∀ us:List Value,us.length=3->P us
 | [],e=>nomatch e
 | a::us,e=>ar2 (P:=λ l=>P (a::l)) (h a) us (Nat.succ.inj e)
theorem ar4 {P:List Value->Prop} (h:∀ a b c d,P [a,b,c,d]):∀ us:List Value,us.length=4->P us
 | [],e=>nomatch e
 | a::us,e=>ar3 (P:=λ l=>P (a::l)) (h a) us (Nat.succ.inj e)
theorem all_mk {l:PySem.W.OpenLaw} {w:World} {K:W.Frag} {h:Heap} {mg:Str->Option Value} {fa f0 f1 f2 f3 f4 f5 f6 f7 f8 f9 f10 f11 f12 f13 f14 f15 f16 f17 f18 f19 f20 f21 f22 f23 f24 f25 f26 f27 f28 f29 f30 f31 f32 f33 f34 f35 f36 f37 f38 f39 f40 f41 f42 f43 f44 f45 f46 f47 f48 f49 f50 f51 f52 f53 f54 f55:Addr} {C0:Addr} (X:K.In h) (G:h.Ns mainGlobals mg) (hfa:mg "law" = some (.ref fa))
  {od0 an0 od1 an1 od2 an2 od3 an3 od4 an4 od5 an5 od6 an6 od7 an7 od8 an8 od9 an9 od10 an10 od11 an11 od12 an12 od13 an13 od14 an14 od15 an15 od16 an16 od17 an17 od18 an18 od19 an19 od20 an20 od21 an21 od22 an22 od23 an23 od24 an24 od25 an25 od26 an26 od27 an27 od28 an28 od29 an29 od30 an30 od31 an31 od32 an32 od33 an33 od34 an34 od35 an35 od36 an36 od37 an37 od38 an38 od39 an39 od40 an40 od41 an41 od42 an42 od43 an43 od44 an44 od45 an45 od46 an46 od47 an47 od48 an48 od49 an49 od50 an50 od51 an51 od52 an52 od53 an53 od54 an54 od55 an55:Option Addr} {sl0 sl1 sl2 sl3 sl4 sl5 sl6 sl7 sl8 sl9 sl10 sl11 sl12 sl13 sl14 sl15 sl16 sl17 sl18 sl19 sl20 sl21 sl22 sl23 sl24 sl25 sl26 sl27 sl28 sl29 sl30 sl31 sl32 sl33 sl34 sl35 sl36 sl37 sl38 sl39 sl40 sl41 sl42 sl43 sl44 sl45 sl46 sl47 sl48 sl49 sl50 sl51 sl52 sl53 sl54 sl55:Array (Option Value)} {oc0 kV0 dc0 pm0 cd0 ct0 oc1 kV1 dc1 pm1 cd1 ct1 oc2 kV2 dc2 pm2 cd2 ct2 oc3 kV3 dc3 pm3 cd3 ct3 oc4 kV4 dc4 pm4 cd4 ct4 oc5 kV5 dc5 pm5 cd5 ct5 oc6 kV6 dc6 pm6 cd6 ct6 oc7 kV7 dc7 pm7 cd7 ct7 oc8 kV8 dc8 pm8 cd8 ct8 oc9 kV9 dc9 pm9 cd9 ct9 oc10 kV10 dc10 pm10 cd10 ct10 oc11 kV11 dc11 pm11 cd11 ct11 Xf kV12 dc12 pm12 cd12 ct12 oc13 kV13 dc13 pm13 cd13 ct13 oc14 kV14 dc14 pm14 cd14 ct14 oc15 kV15 dc15 pm15 cd15 ct15 oc16 kV16 dc16 pm16 cd16 ct16 oc17 kV17 dc17 pm17 cd17 ct17 oc18 kV18 dc18 pm18 cd18 ct18 oc19 kV19 dc19 pm19 cd19 ct19 oc20 kV20 dc20 pm20 cd20 ct20 oc21 kV21 dc21 pm21 cd21 ct21 oc22 kV22 dc22 pm22 cd22 ct22 oc23 kV23 dc23 pm23 cd23 ct23 oc24 kV24 dc24 pm24 cd24 ct24 oc25 kV25 dc25 pm25 cd25 ct25 oc26 kV26 dc26 pm26 cd26 ct26 oc27 kV27 dc27 pm27 cd27 ct27 oc28 kV28 dc28 pm28 cd28 ct28 oc29 kV29 dc29 pm29 cd29 ct29 oc30 kV30 dc30 pm30 cd30 ct30 oc31 kV31 dc31 pm31 cd31 ct31 oc32 kV32 dc32 pm32 cd32 ct32 oc33 kV33 dc33 pm33 cd33 ct33 oc34 kV34 dc34 pm34 cd34 ct34 oc35 kV35 dc35 pm35 cd35 ct35 oc36 kV36 dc36 pm36 cd36 ct36 oc37 kV37 dc37 pm37 cd37 ct37 oc38 kV38 dc38 pm38 cd38 ct38 oc39 kV39 dc39 pm39 cd39 ct39 oc40 kV40 dc40 pm40 cd40 ct40 oc41 kV41 dc41 pm41 cd41 ct41 oc42 kV42 dc42 pm42 cd42 ct42 oc43 kV43 dc43 pm43 cd43 ct43 oc44 kV44 dc44 pm44 cd44 ct44 oc45 kV45 dc45 pm45 cd45 ct45 oc46 kV46 dc46 pm46 cd46 ct46 oc47 kV47 dc47 pm47 cd47 ct47 oc48 kV48 dc48 pm48 cd48 ct48 oc49 kV49 dc49 pm49 cd49 ct49 oc50 kV50 dc50 pm50 cd50 ct50 oc51 kV51 dc51 pm51 cd51 ct51 oc52 kV52 dc52 pm52 cd52 ct52 oc53 kV53 dc53 pm53 cd53 ct53 oc54 kV54 dc54 pm54 cd54 ct54 oc55 kV55 dc55 pm55 cd55 ct55:Value}
  (y0:W.nsIn K mainGlobals "Corner" = some (some (.ref C0)))
  (a0:W.nsIn K mainGlobals "_law_cell_at" = some (some (.ref f0))) (l0:K.lookup f0=some ⟨oc0,od0,.func (W.fnOf "_law_cell_at" "_law_cell_at" (bE kN) (aZ kN) (aD kN) .none kV0 dc0 pm0 an0 cd0 ct0),sl0⟩) (c0:W.codeIn K cd0 "_law_cell_at" = true) (k0:W.keepIn K (.ref f0)=true)
  (a1:W.nsIn K mainGlobals "_law_block" = some (some (.ref f1))) (l1:K.lookup f1=some ⟨oc1,od1,.func (W.fnOf "_law_block" "_law_block" (bE oM) (aZ oM) (aD oM) .none kV1 dc1 pm1 an1 cd1 ct1),sl1⟩) (c1:W.codeIn K cd1 "_law_block" = true) (k1:W.keepIn K (.ref f1)=true)
  (a2:W.nsIn K mainGlobals "_law_mixed" = some (some (.ref f2))) (l2:K.lookup f2=some ⟨oc2,od2,.func (W.fnOf "_law_mixed" "_law_mixed" (bE oK) (aZ oK) (aD oK) .none kV2 dc2 pm2 an2 cd2 ct2),sl2⟩) (c2:W.codeIn K cd2 "_law_mixed" = true) (k2:W.keepIn K (.ref f2)=true)
  (a3:W.nsIn K mainGlobals "_law_unit" = some (some (.ref f3))) (l3:K.lookup f3=some ⟨oc3,od3,.func (W.fnOf "_law_unit" "_law_unit" (bE qP) (aZ qP) (aD qP) .none kV3 dc3 pm3 an3 cd3 ct3),sl3⟩) (c3:W.codeIn K cd3 "_law_unit" = true) (k3:W.keepIn K (.ref f3)=true)
  (a4:W.nsIn K mainGlobals "_law_rows" = some (some (.ref f4))) (l4:K.lookup f4=some ⟨oc4,od4,.func (W.fnOf "_law_rows" "_law_rows" (bE kW) (aZ kW) (aD kW) .none kV4 dc4 pm4 an4 cd4 ct4),sl4⟩) (c4:W.codeIn K cd4 "_law_rows" = true) (k4:W.keepIn K (.ref f4)=true)
  (a5:W.nsIn K mainGlobals "_law_divisor" = some (some (.ref f5))) (l5:K.lookup f5=some ⟨oc5,od5,.func (W.fnOf "_law_divisor" "_law_divisor" (bE kM) (aZ kM) (aD kM) .none kV5 dc5 pm5 an5 cd5 ct5),sl5⟩) (c5:W.codeIn K cd5 "_law_divisor" = true) (k5:W.keepIn K (.ref f5)=true)
  (a6:W.nsIn K mainGlobals "_law_lowest" = some (some (.ref f6))) (l6:K.lookup f6=some ⟨oc6,od6,.func (W.fnOf "_law_lowest" "_law_lowest" (bE lZ) (aZ lZ) (aD lZ) .none kV6 dc6 pm6 an6 cd6 ct6),sl6⟩) (c6:W.codeIn K cd6 "_law_lowest" = true) (k6:W.keepIn K (.ref f6)=true)
  (a7:W.nsIn K mainGlobals "least_whole" = some (some (.ref f7))) (l7:K.lookup f7=some ⟨oc7,od7,.func (W.fnOf "least_whole" "least_whole" (bE gB) (aZ gB) (aD gB) .none kV7 dc7 pm7 an7 cd7 ct7),sl7⟩) (c7:W.codeIn K cd7 "least_whole" = true) (k7:W.keepIn K (.ref f7)=true)
  (a8:W.nsIn K mainGlobals "lift_of" = some (some (.ref f8))) (l8:K.lookup f8=some ⟨oc8,od8,.func (W.fnOf "lift_of" "lift_of" (bE lS) (aZ lS) (aD lS) .none kV8 dc8 pm8 an8 cd8 ct8),sl8⟩) (c8:W.codeIn K cd8 "lift_of" = true) (k8:W.keepIn K (.ref f8)=true)
  (a9:W.nsIn K mainGlobals "divisor" = some (some (.ref f9))) (l9:K.lookup f9=some ⟨oc9,od9,.func (W.fnOf "divisor" "divisor" (bE oN) (aZ oN) (aD oN) .none kV9 dc9 pm9 an9 cd9 ct9),sl9⟩) (c9:W.codeIn K cd9 "divisor" = true) (k9:W.keepIn K (.ref f9)=true)
  (a10:W.nsIn K mainGlobals "ratio" = some (some (.ref f10))) (l10:K.lookup f10=some ⟨oc10,od10,.func (W.fnOf "ratio" "ratio" (bE vY) (aZ vY) (aD vY) .none kV10 dc10 pm10 an10 cd10 ct10),sl10⟩) (c10:W.codeIn K cd10 "ratio" = true) (k10:W.keepIn K (.ref f10)=true)
  (a11:W.nsIn K mainGlobals "plus" = some (some (.ref f11))) (l11:K.lookup f11=some ⟨oc11,od11,.func (W.fnOf "plus" "plus" (bE Bi) (aZ Bi) (aD Bi) .none kV11 dc11 pm11 an11 cd11 ct11),sl11⟩) (c11:W.codeIn K cd11 "plus" = true) (k11:W.keepIn K (.ref f11)=true)
  (a12:W.nsIn K mainGlobals "lifted" = some (some (.ref f12))) (l12:K.lookup f12=some ⟨Xf,od12,.func (W.fnOf "lifted" "lifted" (bE oU) (aZ oU) (aD oU) .none kV12 dc12 pm12 an12 cd12 ct12),sl12⟩) (c12:W.codeIn K cd12 "lifted" = true) (k12:W.keepIn K (.ref f12)=true)
  (a13:W.nsIn K mainGlobals "below" = some (some (.ref f13))) (l13:K.lookup f13=some ⟨oc13,od13,.func (W.fnOf "below" "below" (bE wA) (aZ wA) (aD wA) .none kV13 dc13 pm13 an13 cd13 ct13),sl13⟩) (c13:W.codeIn K cd13 "below" = true) (k13:W.keepIn K (.ref f13)=true)
  (a14:W.nsIn K mainGlobals "cleared" = some (some (.ref f14))) (l14:K.lookup f14=some ⟨oc14,od14,.func (W.fnOf "cleared" "cleared" (bE lU) (aZ lU) (aD lU) .none kV14 dc14 pm14 an14 cd14 ct14),sl14⟩) (c14:W.codeIn K cd14 "cleared" = true) (k14:W.keepIn K (.ref f14)=true)
  (a15:W.nsIn K mainGlobals "shared" = some (some (.ref f15))) (l15:K.lookup f15=some ⟨oc15,od15,.func (W.fnOf "shared" "shared" (bE qO) (aZ qO) (aD qO) .none kV15 dc15 pm15 an15 cd15 ct15),sl15⟩) (c15:W.codeIn K cd15 "shared" = true) (k15:W.keepIn K (.ref f15)=true)
  (a16:W.nsIn K mainGlobals "plain" = some (some (.ref f16))) (l16:K.lookup f16=some ⟨oc16,od16,.func (W.fnOf "plain" "plain" (bE rZ) (aZ rZ) (aD rZ) .none kV16 dc16 pm16 an16 cd16 ct16),sl16⟩) (c16:W.codeIn K cd16 "plain" = true) (k16:W.keepIn K (.ref f16)=true)
  (a17:W.nsIn K mainGlobals "whole" = some (some (.ref f17))) (l17:K.lookup f17=some ⟨oc17,od17,.func (W.fnOf "whole" "whole" (bE vW) (aZ vW) (aD vW) .none kV17 dc17 pm17 an17 cd17 ct17),sl17⟩) (c17:W.codeIn K cd17 "whole" = true) (k17:W.keepIn K (.ref f17)=true)
  (a18:W.nsIn K mainGlobals "times" = some (some (.ref f18))) (l18:K.lookup f18=some ⟨oc18,od18,.func (W.fnOf "times" "times" (bE vX) (aZ vX) (aD vX) .none kV18 dc18 pm18 an18 cd18 ct18),sl18⟩) (c18:W.codeIn K cd18 "times" = true) (k18:W.keepIn K (.ref f18)=true)
  (a19:W.nsIn K mainGlobals "longest" = some (some (.ref f19))) (l19:K.lookup f19=some ⟨oc19,od19,.func (W.fnOf "longest" "longest" (bE lR) (aZ lR) (aD lR) .none kV19 dc19 pm19 an19 cd19 ct19),sl19⟩) (c19:W.codeIn K cd19 "longest" = true) (k19:W.keepIn K (.ref f19)=true)
  (a20:W.nsIn K mainGlobals "column_of" = some (some (.ref f20))) (l20:K.lookup f20=some ⟨oc20,od20,.func (W.fnOf "column_of" "column_of" (bE iQ) (aZ iQ) (aD iQ) .none kV20 dc20 pm20 an20 cd20 ct20),sl20⟩) (c20:W.codeIn K cd20 "column_of" = true) (k20:W.keepIn K (.ref f20)=true)
  (a21:W.nsIn K mainGlobals "span" = some (some (.ref f21))) (l21:K.lookup f21=some ⟨oc21,od21,.func (W.fnOf "span" "span" (bE xV) (aZ xV) (aD xV) .none kV21 dc21 pm21 an21 cd21 ct21),sl21⟩) (c21:W.codeIn K cd21 "span" = true) (k21:W.keepIn K (.ref f21)=true)
  (a22:W.nsIn K mainGlobals "unit" = some (some (.ref f22))) (l22:K.lookup f22=some ⟨oc22,od22,.func (W.fnOf "unit" "unit" (bE xU) (aZ xU) (aD xU) .none kV22 dc22 pm22 an22 cd22 ct22),sl22⟩) (c22:W.codeIn K cd22 "unit" = true) (k22:W.keepIn K (.ref f22)=true)
  (a23:W.findIn K (.ref C0) "__init__" = some (some (.ref f23))) (i23:W.isFn K (.ref f23)=true) (l23:K.lookup f23=some ⟨oc23,od23,.func (W.fnOf "__init__" "Corner.__init__" (bE dD) (aZ dD) (aD dD) .none kV23 dc23 pm23 an23 cd23 ct23),sl23⟩) (c23:W.codeIn K cd23 "Corner.__init__" = true) (k23:W.keepIn K (.ref f23)=true)
  (a24:W.nsIn K mainGlobals "bits_beyond" = some (some (.ref f24))) (l24:K.lookup f24=some ⟨oc24,od24,.func (W.fnOf "bits_beyond" "bits_beyond" (bE gD) (aZ gD) (aD gD) .none kV24 dc24 pm24 an24 cd24 ct24),sl24⟩) (c24:W.codeIn K cd24 "bits_beyond" = true) (k24:W.keepIn K (.ref f24)=true)
  (a25:W.nsIn K mainGlobals "stretched" = some (some (.ref f25))) (l25:K.lookup f25=some ⟨oc25,od25,.func (W.fnOf "stretched" "stretched" (bE iO) (aZ iO) (aD iO) .none kV25 dc25 pm25 an25 cd25 ct25),sl25⟩) (c25:W.codeIn K cd25 "stretched" = true) (k25:W.keepIn K (.ref f25)=true)
  (a26:W.nsIn K mainGlobals "shortened" = some (some (.ref f26))) (l26:K.lookup f26=some ⟨oc26,od26,.func (W.fnOf "shortened" "shortened" (bE iP) (aZ iP) (aD iP) .none kV26 dc26 pm26 an26 cd26 ct26),sl26⟩) (c26:W.codeIn K cd26 "shortened" = true) (k26:W.keepIn K (.ref f26)=true)
  (a27:W.nsIn K mainGlobals "rounded" = some (some (.ref f27))) (l27:K.lookup f27=some ⟨oc27,od27,.func (W.fnOf "rounded" "rounded" (bE jC) (aZ jC) (aD jC) .none kV27 dc27 pm27 an27 cd27 ct27),sl27⟩) (c27:W.codeIn K cd27 "rounded" = true) (k27:W.keepIn K (.ref f27)=true)
  (a28:W.nsIn K mainGlobals "products" = some (some (.ref f28))) (l28:K.lookup f28=some ⟨oc28,od28,.func (W.fnOf "products" "products" (bE kB) (aZ kB) (aD kB) .none kV28 dc28 pm28 an28 cd28 ct28),sl28⟩) (c28:W.codeIn K cd28 "products" = true) (k28:W.keepIn K (.ref f28)=true)
  (a29:W.findIn K (.ref C0) "entering" = some (some (.ref f29))) (i29:W.isFn K (.ref f29)=true) (l29:K.lookup f29=some ⟨oc29,od29,.func (W.fnOf "entering" "Corner.entering" (bE dJ) (aZ dJ) (aD dJ) .none kV29 dc29 pm29 an29 cd29 ct29),sl29⟩) (c29:W.codeIn K cd29 "Corner.entering" = true) (k29:W.keepIn K (.ref f29)=true)
  (a30:W.findIn K (.ref C0) "numbers" = some (some (.ref f30))) (i30:W.isFn K (.ref f30)=true) (l30:K.lookup f30=some ⟨oc30,od30,.func (W.fnOf "numbers" "Corner.numbers" (bE dZ) (aZ dZ) (aD dZ) .none kV30 dc30 pm30 an30 cd30 ct30),sl30⟩) (c30:W.codeIn K cd30 "Corner.numbers" = true) (k30:W.keepIn K (.ref f30)=true)
  (a31:W.nsIn K mainGlobals "is_ahead" = some (some (.ref f31))) (l31:K.lookup f31=some ⟨oc31,od31,.func (W.fnOf "is_ahead" "is_ahead" (bE mB) (aZ mB) (aD mB) .none kV31 dc31 pm31 an31 cd31 ct31),sl31⟩) (c31:W.codeIn K cd31 "is_ahead" = true) (k31:W.keepIn K (.ref f31)=true)
  (a32:W.nsIn K mainGlobals "leaving" = some (some (.ref f32))) (l32:K.lookup f32=some ⟨oc32,od32,.func (W.fnOf "leaving" "leaving" (bE oI) (aZ oI) (aD oI) .none kV32 dc32 pm32 an32 cd32 ct32),sl32⟩) (c32:W.codeIn K cd32 "leaving" = true) (k32:W.keepIn K (.ref f32)=true)
  (a33:W.findIn K (.ref C0) "leaving_by" = some (some (.ref f33))) (i33:W.isFn K (.ref f33)=true) (l33:K.lookup f33=some ⟨oc33,od33,.func (W.fnOf "leaving_by" "Corner.leaving_by" (bE cZ) (aZ cZ) (aD cZ) .none kV33 dc33 pm33 an33 cd33 ct33),sl33⟩) (c33:W.codeIn K cd33 "Corner.leaving_by" = true) (k33:W.keepIn K (.ref f33)=true)
  (a34:W.findIn K (.ref C0) "bottom" = some (some (.ref f34))) (i34:W.isFn K (.ref f34)=true) (l34:K.lookup f34=some ⟨oc34,od34,.func (W.fnOf "bottom" "Corner.bottom" (bE fO) (aZ fO) (aD fO) .none kV34 dc34 pm34 an34 cd34 ct34),sl34⟩) (c34:W.codeIn K cd34 "Corner.bottom" = true) (k34:W.keepIn K (.ref f34)=true)
  (a35:W.findIn K (.ref C0) "step_in" = some (some (.ref f35))) (i35:W.isFn K (.ref f35)=true) (l35:K.lookup f35=some ⟨oc35,od35,.func (W.fnOf "step_in" "Corner.step_in" (bE dY) (aZ dY) (aD dY) .none kV35 dc35 pm35 an35 cd35 ct35),sl35⟩) (c35:W.codeIn K cd35 "Corner.step_in" = true) (k35:W.keepIn K (.ref f35)=true)
  (a36:W.nsIn K mainGlobals "unstopped" = some (some (.ref f36))) (l36:K.lookup f36=some ⟨oc36,od36,.func (W.fnOf "unstopped" "unstopped" (bE kL) (aZ kL) (aD kL) .none kV36 dc36 pm36 an36 cd36 ct36),sl36⟩) (c36:W.codeIn K cd36 "unstopped" = true) (k36:W.keepIn K (.ref f36)=true)
  (a37:W.nsIn K mainGlobals "turned_round" = some (some (.ref f37))) (l37:K.lookup f37=some ⟨oc37,od37,.func (W.fnOf "turned_round" "turned_round" (bE fF) (aZ fF) (aD fF) .none kV37 dc37 pm37 an37 cd37 ct37),sl37⟩) (c37:W.codeIn K cd37 "turned_round" = true) (k37:W.keepIn K (.ref f37)=true)
  (a38:W.findIn K (.ref C0) "comes_to" = some (some (.ref f38))) (i38:W.isFn K (.ref f38)=true) (l38:K.lookup f38=some ⟨oc38,od38,.func (W.fnOf "comes_to" "Corner.comes_to" (bE cJ) (aZ cJ) (aD cJ) .none kV38 dc38 pm38 an38 cd38 ct38),sl38⟩) (c38:W.codeIn K cd38 "Corner.comes_to" = true) (k38:W.keepIn K (.ref f38)=true)
  (a39:W.findIn K (.ref C0) "ends_with" = some (some (.ref f39))) (i39:W.isFn K (.ref f39)=true) (l39:K.lookup f39=some ⟨oc39,od39,.func (W.fnOf "ends_with" "Corner.ends_with" (bE eE) (aZ eE) (aD eE) .none kV39 dc39 pm39 an39 cd39 ct39),sl39⟩) (c39:W.codeIn K cd39 "Corner.ends_with" = true) (k39:W.keepIn K (.ref f39)=true)
  (a40:W.nsIn K mainGlobals "last_corner" = some (some (.ref f40))) (l40:K.lookup f40=some ⟨oc40,od40,.func (W.fnOf "last_corner" "last_corner" (bE gC) (aZ gC) (aD gC) .none kV40 dc40 pm40 an40 cd40 ct40),sl40⟩) (c40:W.codeIn K cd40 "last_corner" = true) (k40:W.keepIn K (.ref f40)=true)
  (a41:W.nsIn K mainGlobals "over" = some (some (.ref f41))) (l41:K.lookup f41=some ⟨oc41,od41,.func (W.fnOf "over" "over" (bE Bj) (aZ Bj) (aD Bj) .none kV41 dc41 pm41 an41 cd41 ct41),sl41⟩) (c41:W.codeIn K cd41 "over" = true) (k41:W.keepIn K (.ref f41)=true)
  (a42:W.findIn K (.ref C0) "spread" = some (some (.ref f42))) (i42:W.isFn K (.ref f42)=true) (l42:K.lookup f42=some ⟨oc42,od42,.func (W.fnOf "spread" "Corner.spread" (bE eO) (aZ eO) (aD eO) .none kV42 dc42 pm42 an42 cd42 ct42),sl42⟩) (c42:W.codeIn K cd42 "Corner.spread" = true) (k42:W.keepIn K (.ref f42)=true)
  (a43:W.findIn K (.ref C0) "xs" = some (some (.ref f43))) (i43:W.isFn K (.ref f43)=true) (l43:K.lookup f43=some ⟨oc43,od43,.func (W.fnOf "xs" "Corner.xs" (bE kO) (aZ kO) (aD kO) .none kV43 dc43 pm43 an43 cd43 ct43),sl43⟩) (c43:W.codeIn K cd43 "Corner.xs" = true) (k43:W.keepIn K (.ref f43)=true)
  (a44:W.findIn K (.ref C0) "ways" = some (some (.ref f44))) (i44:W.isFn K (.ref f44)=true) (l44:K.lookup f44=some ⟨oc44,od44,.func (W.fnOf "ways" "Corner.ways" (bE gE) (aZ gE) (aD gE) .none kV44 dc44 pm44 an44 cd44 ct44),sl44⟩) (c44:W.codeIn K cd44 "Corner.ways" = true) (k44:W.keepIn K (.ref f44)=true)
  (a45:W.findIn K (.ref C0) "ys" = some (some (.ref f45))) (i45:W.isFn K (.ref f45)=true) (l45:K.lookup f45=some ⟨oc45,od45,.func (W.fnOf "ys" "Corner.ys" (bE iR) (aZ iR) (aD iR) .none kV45 dc45 pm45 an45 cd45 ct45),sl45⟩) (c45:W.codeIn K cd45 "Corner.ys" = true) (k45:W.keepIn K (.ref f45)=true)
  (a46:W.nsIn K mainGlobals "best" = some (some (.ref f46))) (l46:K.lookup f46=some ⟨oc46,od46,.func (W.fnOf "best" "best" (bE oQ) (aZ oQ) (aD oQ) .none kV46 dc46 pm46 an46 cd46 ct46),sl46⟩) (c46:W.codeIn K cd46 "best" = true) (k46:W.keepIn K (.ref f46)=true)
  (a47:W.nsIn K mainGlobals "summed" = some (some (.ref f47))) (l47:K.lookup f47=some ⟨oc47,od47,.func (W.fnOf "summed" "summed" (bE qN) (aZ qN) (aD qN) .none kV47 dc47 pm47 an47 cd47 ct47),sl47⟩) (c47:W.codeIn K cd47 "summed" = true) (k47:W.keepIn K (.ref f47)=true)
  (a48:W.nsIn K mainGlobals "minus" = some (some (.ref f48))) (l48:K.lookup f48=some ⟨oc48,od48,.func (W.fnOf "minus" "minus" (bE vZ) (aZ vZ) (aD vZ) .none kV48 dc48 pm48 an48 cd48 ct48),sl48⟩) (c48:W.codeIn K cd48 "minus" = true) (k48:W.keepIn K (.ref f48)=true)
  (a49:W.nsIn K mainGlobals "divided" = some (some (.ref f49))) (l49:K.lookup f49=some ⟨oc49,od49,.func (W.fnOf "divided" "divided" (bE lT) (aZ lT) (aD lT) .none kV49 dc49 pm49 an49 cd49 ct49),sl49⟩) (c49:W.codeIn K cd49 "divided" = true) (k49:W.keepIn K (.ref f49)=true)
  (a50:W.nsIn K mainGlobals "worth" = some (some (.ref f50))) (l50:K.lookup f50=some ⟨oc50,od50,.func (W.fnOf "worth" "worth" (bE nW) (aZ nW) (aD nW) .none kV50 dc50 pm50 an50 cd50 ct50),sl50⟩) (c50:W.codeIn K cd50 "worth" = true) (k50:W.keepIn K (.ref f50)=true)
  (a51:W.nsIn K mainGlobals "_law_whole" = some (some (.ref f51))) (l51:K.lookup f51=some ⟨oc51,od51,.func (W.fnOf "_law_whole" "_law_whole" (bE oJ) (aZ oJ) (aD oJ) .none kV51 dc51 pm51 an51 cd51 ct51),sl51⟩) (c51:W.codeIn K cd51 "_law_whole" = true) (k51:W.keepIn K (.ref f51)=true)
  (a52:W.nsIn K mainGlobals "_law_fraction" = some (some (.ref f52))) (l52:K.lookup f52=some ⟨oc52,od52,.func (W.fnOf "_law_fraction" "_law_fraction" (bE jE) (aZ jE) (aD jE) .none kV52 dc52 pm52 an52 cd52 ct52),sl52⟩) (c52:W.codeIn K cd52 "_law_fraction" = true) (k52:W.keepIn K (.ref f52)=true)
  (a53:W.nsIn K mainGlobals "_law_parts_of" = some (some (.ref f53))) (l53:K.lookup f53=some ⟨oc53,od53,.func (W.fnOf "_law_parts_of" "_law_parts_of" (bE gU) (aZ gU) (aD gU) .none kV53 dc53 pm53 an53 cd53 ct53),sl53⟩) (c53:W.codeIn K cd53 "_law_parts_of" = true) (k53:W.keepIn K (.ref f53)=true)
  (a54:W.nsIn K mainGlobals "_law_right" = some (some (.ref f54))) (l54:K.lookup f54=some ⟨oc54,od54,.func (W.fnOf "_law_right" "_law_right" (bE kJ) (aZ kJ) (aD kJ) .none kV54 dc54 pm54 an54 cd54 ct54),sl54⟩) (c54:W.codeIn K cd54 "_law_right" = true) (k54:W.keepIn K (.ref f54)=true)
  (a55:W.nsIn K mainGlobals "law" = some (some (.ref f55))) (l55:K.lookup f55=some ⟨oc55,od55,.func (W.fnOf "law" "law" (bE xB) (aZ xB) (aD xB) .none kV55 dc55 pm55 an55 cd55 ct55),sl55⟩) (c55:W.codeIn K cd55 "law" = true) (k55:W.keepIn K (.ref f55)=true)
  (pgC:PySem.W.plainGet K C0 Str.empty=true) (hdC:PySem.W.hasDictIn K C0=true) (poC:PySem.W.plainOver K C0=true) (saC:W.findIn K (.ref C0) "__setattr__" = some (some (.builtin "object.__setattr__"))) (mkC:PySem.W.makesIn K C0=true) (kcC:W.keepIn K (.ref C0)=true) (nC_begun:W.findIn K (.ref C0) "begun" = some none) (nC_spans:W.findIn K (.ref C0) "spans" = some none) (nC_kept:W.findIn K (.ref C0) "kept" = some none) (nC_inside:W.findIn K (.ref C0) "inside" = some none)
  (z0:W.nsIn K mainGlobals "abs" = some none) (z1:W.nsIn K mainGlobals "bool" = some none) (z2:W.nsIn K mainGlobals "enumerate" = some none) (z3:W.nsIn K mainGlobals "int" = some none) (z4:W.nsIn K mainGlobals "isinstance" = some none) (z5:W.nsIn K mainGlobals "len" = some none) (z6:W.nsIn K mainGlobals "list" = some none) (z7:W.nsIn K mainGlobals "max" = some none) (z8:W.nsIn K mainGlobals "min" = some none) (z9:W.nsIn K mainGlobals "range" = some none) (z10:W.nsIn K mainGlobals "sum" = some none) (z11:W.nsIn K mainGlobals "tuple" = some none) (z12:W.nsIn K mainGlobals "zip" = some none) {tg0:_} (gi0:W.nsIn K mainGlobals "BITS" = some (some (.int 40 tg0))) :
  ∃ fd:FuncData,(∀ (s:Shared) (v:Value),BindsTo s fd ⟨[v],[]⟩ [("_law_script",v)])/\∀ base:Heap,K.In base->base.Ns mainGlobals mg->cS l.prog w K mg base CX0 8 fa fd ["_law_script"] (Bg K):=by
 have e:=hfa.symm.trans (W.mg_of X G a55)
 cases e
 have F0:=bW (st:=kN) l0 c0 k0
 have b0:=F0.binds (ps:=["_law_script", "_law_k"]) λ _ _ _ _ _ _=>ar2 λ _ _=>rfl
 have F1:=bW (st:=oM) l1 c1 k1
 have b1:=F1.binds (ps:=["_law_script", "_law_k"]) λ _ _ _ _ _ _=>ar2 λ _ _=>rfl
 have F2:=bW (st:=oK) l2 c2 k2
 have b2:=F2.binds (ps:=["_law_script", "_law_k"]) λ _ _ _ _ _ _=>ar2 λ _ _=>rfl
 have F3:=bW (st:=qP) l3 c3 k3
 have b3:=F3.binds (ps:=["_law_script", "_law_place", "_law_way"]) λ _ _ _ _ _ _=>ar3 λ _ _ _=>rfl
 have F4:=bW (st:=kW) l4 c4 k4
 have b4:=F4.binds (ps:=["_law_script"]) λ _ _ _ _ _ _=>ar1 λ _=>rfl
 have F5:=bW (st:=kM) l5 c5 k5
 have b5:=F5.binds (ps:=["_law_one", "_law_other"]) λ _ _ _ _ _ _=>ar2 λ _ _=>rfl
 have F6:=bW (st:=lZ) l6 c6 k6
 have b6:=F6.binds (ps:=["_law_top", "_law_bottom"]) λ _ _ _ _ _ _=>ar2 λ _ _=>rfl
 have F7:=bW (st:=gB) l7 c7 k7
 have b7:=F7.binds (ps:=["row"]) λ _ _ _ _ _ _=>ar1 λ _=>rfl
 have F8:=bW (st:=lS) l8 c8 k8
 have b8:=F8.binds (ps:=["rows"]) λ _ _ _ _ _ _=>ar1 λ _=>rfl
 have F9:=bW (st:=oN) l9 c9 k9
 have b9:=F9.binds (ps:=["one", "other"]) λ _ _ _ _ _ _=>ar2 λ _ _=>rfl
 have F10:=bW (st:=vY) l10 c10 k10
 have b10:=F10.binds (ps:=["top", "bottom"]) λ _ _ _ _ _ _=>ar2 λ _ _=>rfl
 have F11:=bW (st:=Bi) l11 c11 k11
 have b11:=F11.binds (ps:=["one", "other"]) λ _ _ _ _ _ _=>ar2 λ _ _=>rfl
 have F12:=bW (st:=oU) l12 c12 k12
 have b12:=F12.binds (ps:=["row", "lift"]) λ _ _ _ _ _ _=>ar2 λ _ _=>rfl
 have F13:=bW (st:=wA) l13 c13 k13
 have b13:=F13.binds (ps:=["one", "other"]) λ _ _ _ _ _ _=>ar2 λ _ _=>rfl
 have F14:=bW (st:=lU) l14 c14 k14
 have b14:=F14.binds (ps:=["row"]) λ _ _ _ _ _ _=>ar1 λ _=>rfl
 have F15:=bW (st:=qO) l15 c15 k15
 have b15:=F15.binds (ps:=["row"]) λ _ _ _ _ _ _=>ar1 λ _=>rfl
 have F16:=bW (st:=rZ) l16 c16 k16
 have b16:=F16.binds (ps:=["row"]) λ _ _ _ _ _ _=>ar1 λ _=>rfl
 have F17:=bW (st:=vW) l17 c17 k17
 have b17:=F17.binds (ps:=["row"]) λ _ _ _ _ _ _=>ar1 λ _=>rfl
 have F18:=bW (st:=vX) l18 c18 k18
 have b18:=F18.binds (ps:=["one", "other"]) λ _ _ _ _ _ _=>ar2 λ _ _=>rfl
 have F19:=bW (st:=lR) l19 c19 k19
 have b19:=F19.binds (ps:=["row"]) λ _ _ _ _ _ _=>ar1 λ _=>rfl
 have F20:=bW (st:=iQ) l20 c20 k20
 have b20:=F20.binds (ps:=["rows", "place"]) λ _ _ _ _ _ _=>ar2 λ _ _=>rfl
 have F21:=bW (st:=xV) l21 c21 k21
 have b21:=F21.binds (ps:=["column"]) λ _ _ _ _ _ _=>ar1 λ _=>rfl
 have F22:=bW (st:=xU) l22 c22 k22
 have b22:=F22.binds (ps:=["many", "place"]) λ _ _ _ _ _ _=>ar2 λ _ _=>rfl
 have F23:=bW (st:=dD) l23 c23 k23
 have b23:=F23.binds (ps:=["self", "lists"]) λ _ _ _ _ _ _=>ar2 λ _ _=>rfl
 have F24:=bW (st:=gD) l24 c24 k24
 have b24:=F24.binds (ps:=["column", "longs"]) λ _ _ _ _ _ _=>ar2 λ _ _=>rfl
 have F25:=bW (st:=iO) l25 c25 k25
 have b25:=F25.binds (ps:=["number", "bits"]) λ _ _ _ _ _ _=>ar2 λ _ _=>rfl
 have F26:=bW (st:=iP) l26 c26 k26
 have b26:=F26.binds (ps:=["row", "bits", "wides"]) λ _ _ _ _ _ _=>ar3 λ _ _ _=>rfl
 have F27:=bW (st:=jC) l27 c27 k27
 have b27:=F27.binds (ps:=["lists", "bits"]) λ _ _ _ _ _ _=>ar2 λ _ _=>rfl
 have F28:=bW (st:=kB) l28 c28 k28
 have b28:=F28.binds (ps:=["one", "other"]) λ _ _ _ _ _ _=>ar2 λ _ _=>rfl
 have F29:=bW (st:=dJ) l29 c29 k29
 have b29:=F29.binds (ps:=["self"]) λ _ _ _ _ _ _=>ar1 λ _=>rfl
 have F30:=bW (st:=dZ) l30 c30 k30
 have b30:=F30.binds (ps:=["self", "column"]) λ _ _ _ _ _ _=>ar2 λ _ _=>rfl
 have F31:=bW (st:=mB) l31 c31 k31
 have b31:=F31.binds (ps:=["row", "other", "column", "listed"]) λ _ _ _ _ _ _=>ar4 λ _ _ _ _=>rfl
 have F32:=bW (st:=oI) l32 c32 k32
 have b32:=F32.binds (ps:=["rows", "column", "listed"]) λ _ _ _ _ _ _=>ar3 λ _ _ _=>rfl
 have F33:=bW (st:=cZ) l33 c33 k33
 have b33:=F33.binds (ps:=["self", "numbers"]) λ _ _ _ _ _ _=>ar2 λ _ _=>rfl
 have F34:=bW (st:=fO) l34 c34 k34
 have b34:=F34.binds (ps:=["self"]) λ _ _ _ _ _ _=>ar1 λ _=>rfl
 have F35:=bW (st:=dY) l35 c35 k35
 have b35:=F35.binds (ps:=["self", "column", "numbers", "at"]) λ _ _ _ _ _ _=>ar4 λ _ _ _ _=>rfl
 have F36:=bW (st:=kL) l36 c36 k36
 have b36:=F36.binds (ps:=["corner"]) λ _ _ _ _ _ _=>ar1 λ _=>rfl
 have F37:=bW (st:=fF) l37 c37 k37
 have b37:=F37.binds (ps:=["row"]) λ _ _ _ _ _ _=>ar1 λ _=>rfl
 have F38:=bW (st:=cJ) l38 c38 k38
 have b38:=F38.binds (ps:=["self", "inside"]) λ _ _ _ _ _ _=>ar2 λ _ _=>rfl
 have F39:=bW (st:=eE) l39 c39 k39
 have b39:=F39.binds (ps:=["self", "column"]) λ _ _ _ _ _ _=>ar2 λ _ _=>rfl
 have F40:=bW (st:=gC) l40 c40 k40
 have b40:=F40.binds (ps:=["lists"]) λ _ _ _ _ _ _=>ar1 λ _=>rfl
 have F41:=bW (st:=Bj) l41 c41 k41
 have b41:=F41.binds (ps:=["one", "other"]) λ _ _ _ _ _ _=>ar2 λ _ _=>rfl
 have F42:=bW (st:=eO) l42 c42 k42
 have b42:=F42.binds (ps:=["self", "numbers"]) λ _ _ _ _ _ _=>ar2 λ _ _=>rfl
 have F43:=bW (st:=kO) l43 c43 k43
 have b43:=F43.binds (ps:=["self"]) λ _ _ _ _ _ _=>ar1 λ _=>rfl
 have F44:=bW (st:=gE) l44 c44 k44
 have b44:=F44.binds (ps:=["self", "column"]) λ _ _ _ _ _ _=>ar2 λ _ _=>rfl
 have F45:=bW (st:=iR) l45 c45 k45
 have b45:=F45.binds (ps:=["self"]) λ _ _ _ _ _ _=>ar1 λ _=>rfl
 have F46:=bW (st:=oQ) l46 c46 k46
 have b46:=F46.binds (ps:=["rows", "bounds", "goal"]) λ _ _ _ _ _ _=>ar3 λ _ _ _=>rfl
 have F47:=bW (st:=qN) l47 c47 k47
 have b47:=F47.binds (ps:=["fractions"]) λ _ _ _ _ _ _=>ar1 λ _=>rfl
 have F48:=bW (st:=vZ) l48 c48 k48
 have b48:=F48.binds (ps:=["one", "other"]) λ _ _ _ _ _ _=>ar2 λ _ _=>rfl
 have F49:=bW (st:=lT) l49 c49 k49
 have b49:=F49.binds (ps:=["weights", "total"]) λ _ _ _ _ _ _=>ar2 λ _ _=>rfl
 have F50:=bW (st:=nW) l50 c50 k50
 have b50:=F50.binds (ps:=["rows"]) λ _ _ _ _ _ _=>ar1 λ _=>rfl
 have F51:=bW (st:=oJ) l51 c51 k51
 have b51:=F51.binds (ps:=["_law_found"]) λ _ _ _ _ _ _=>ar1 λ _=>rfl
 have F52:=bW (st:=jE) l52 c52 k52
 have b52:=F52.binds (ps:=["_law_found"]) λ _ _ _ _ _ _=>ar1 λ _=>rfl
 have F53:=bW (st:=gU) l53 c53 k53
 have b53:=F53.binds (ps:=["_law_found", "_law_many"]) λ _ _ _ _ _ _=>ar2 λ _ _=>rfl
 have F54:=bW (st:=kJ) l54 c54 k54
 have b54:=F54.binds (ps:=["_law_found", "_law_rows_here", "_law_scale"]) λ _ _ _ _ _ _=>ar3 λ _ _ _=>rfl
 have F55:=bW (st:=xB) l55 c55 k55
 have b55:=F55.binds (ps:=["_law_script"]) λ _ _ _ _ _ _=>ar1 λ _=>rfl
 have T:Tx K mg ⟨_,_,_,_,_,_,_,_,_,_,_,_,_,_,_,_,_,_,_,_,_,_,_,_,_,_,_,_,_,_,_,_,_,_,_,_,_,_,_,_,_,_,_,_,_,_,_,_,_,_,_,_,_,_,_,_,_,_,_,_,_,_,_,_,_,_,_,_,_,_,_,_,_,_,_,_,_,_,_,_,_,_,_,_,_,_,_,_,_,_,_,_,_,_,_,_,_,_,_,_,_,_,_,_,_,_,_,_,_,_,_,_⟩:=⟨⟨F0,b0,W.mg_of X G a0⟩,⟨F1,b1,W.mg_of X G a1⟩,⟨F2,b2,W.mg_of X G a2⟩,⟨F3,b3,W.mg_of X G a3⟩,⟨F4,b4,W.mg_of X G a4⟩,⟨F5,b5,W.mg_of X G a5⟩,⟨F6,b6,W.mg_of X G a6⟩,⟨F7,b7,W.mg_of X G a7⟩,⟨F8,b8,W.mg_of X G a8⟩,⟨F9,b9,W.mg_of X G a9⟩,⟨F10,b10,W.mg_of X G a10⟩,⟨F11,b11,W.mg_of X G a11⟩,⟨F12,b12,W.mg_of X G a12⟩,⟨F13,b13,W.mg_of X G a13⟩,⟨F14,b14,W.mg_of X G a14⟩,⟨F15,b15,W.mg_of X G a15⟩,⟨F16,b16,W.mg_of X G a16⟩,⟨F17,b17,W.mg_of X G a17⟩,⟨F18,b18,W.mg_of X G a18⟩,⟨F19,b19,W.mg_of X G a19⟩,⟨F20,b20,W.mg_of X G a20⟩,⟨F21,b21,W.mg_of X G a21⟩,⟨F22,b22,W.mg_of X G a22⟩,⟨F23,b23,by rw [eV y0];exact ⟨a23,i23,k23⟩⟩,⟨F24,b24,W.mg_of X G a24⟩,⟨F25,b25,W.mg_of X G a25⟩,⟨F26,b26,W.mg_of X G a26⟩,⟨F27,b27,W.mg_of X G a27⟩,⟨F28,b28,W.mg_of X G a28⟩,⟨F29,b29,by rw [eV y0];exact ⟨a29,i29,k29⟩⟩,⟨F30,b30,by rw [eV y0];exact ⟨a30,i30,k30⟩⟩,⟨F31,b31,W.mg_of X G a31⟩,⟨F32,b32,W.mg_of X G a32⟩,⟨F33,b33,by rw [eV y0];exact ⟨a33,i33,k33⟩⟩,⟨F34,b34,by rw [eV y0];exact ⟨a34,i34,k34⟩⟩,⟨F35,b35,by rw [eV y0];exact ⟨a35,i35,k35⟩⟩,⟨F36,b36,W.mg_of X G a36⟩,⟨F37,b37,W.mg_of X G a37⟩,⟨F38,b38,by rw [eV y0];exact ⟨a38,i38,k38⟩⟩,⟨F39,b39,by rw [eV y0];exact ⟨a39,i39,k39⟩⟩,⟨F40,b40,W.mg_of X G a40⟩,⟨F41,b41,W.mg_of X G a41⟩,⟨F42,b42,by rw [eV y0];exact ⟨a42,i42,k42⟩⟩,⟨F43,b43,by rw [eV y0];exact ⟨a43,i43,k43⟩⟩,⟨F44,b44,by rw [eV y0];exact ⟨a44,i44,k44⟩⟩,⟨F45,b45,by rw [eV y0];exact ⟨a45,i45,k45⟩⟩,⟨F46,b46,W.mg_of X G a46⟩,⟨F47,b47,W.mg_of X G a47⟩,⟨F48,b48,W.mg_of X G a48⟩,⟨F49,b49,W.mg_of X G a49⟩,⟨F50,b50,W.mg_of X G a50⟩,⟨F51,b51,W.mg_of X G a51⟩,⟨F52,b52,W.mg_of X G a52⟩,⟨F53,b53,W.mg_of X G a53⟩,⟨F54,b54,W.mg_of X G a54⟩,⟨F55,b55,W.mg_of X G a55⟩,W.mg_none_of X G z0,W.mg_none_of X G z1,W.mg_none_of X G z2,W.mg_none_of X G z3,W.mg_none_of X G z4,W.mg_none_of X G z5,W.mg_none_of X G z6,W.mg_none_of X G z7,W.mg_none_of X G z8,W.mg_none_of X G z9,W.mg_none_of X G z10,W.mg_none_of X G z11,W.mg_none_of X G z12,by rw [eV y0];exact W.mg_of X G y0,by rw [eV y0];exact ⟨mkC,a23,i23,kcC⟩,⟨by rw [eV y0];exact ⟨pgC,hdC,poC,saC⟩,by rw [eV y0];exact nC_begun,by rw [eV y0];exact nC_spans,by rw [eV y0];exact nC_kept,by rw [eV y0];exact nC_inside⟩,⟨_,W.mg_of X G gi0⟩⟩
 exact ⟨_,λ s v=>.of_eq rfl,λ base _ _=>ok_law T⟩
theorem walk {l:PySem.W.OpenLaw} {q:Program} {loose:List Str} {XP:(Str->Option Value)->Heap->Prop} {YP:World->Heap->Prop} {d:DefRec} {K:Params->W.Frag} (hn:l.most=some 63) (hdf:d.params.defaults=[])
  (hY:∀ (w:World) (h:Heap),YP w h->(K w.params).In h)
  (F:∀ (w:World) (mg:Str->Option Value) (fa:Addr) (h:Heap),(K w.params).In h->h.Ns mainGlobals mg->mg d.name=some (.ref fa) ->
   ∃ fd:FuncData,(∀ (s:Shared) (u:Value),BindsTo s fd ⟨[u],[]⟩ [("_law_script",u)])/\∀ base:Heap,(K w.params).In base->base.Ns mainGlobals mg->cS l.prog w (K w.params) mg base CX0 8 fa fd ["_law_script"] (Bg (K w.params))) :
  PySem.W.WalkO q loose XP YP l.row.toRowW d [] (λ f vs=>PySem.call f vs) :=
 L2.walk_of (n:=63) (k:=8) (x:="_law_script") (CX:=λ _=>CX0) (sp:=λ w=>Bg (K w.params)) hn (by decide) hdf ⟨rfl,by decide,by decide⟩ hY F (λ _ _ a ns hl _ hS=>⟨a,ns,rfl,hS,hl,λ _=>rfl⟩) λ _ _ _ _ _ z=>z
end My
set_option Elab.async true
noncomputable def PySem.Challenge.cw_mixplay_k31_whole_worth_holds.tw1697568204362353281:Nat:=0
noncomputable def PySem.Challenge.cw_mixplay_k31_whole_worth_holds.tw18144686480645705726:Nat:=0
noncomputable def PySem.Challenge.cw_mixplay_k31_whole_worth_holds.tw1401599076246529082:Nat:=0
noncomputable def PySem.Challenge.cw_mixplay_k31_whole_worth_holds.tw13251550028036300383:Nat:=0
noncomputable def PySem.Challenge.cw_mixplay_k31_whole_worth_holds.tw1569571317842066343:Nat:=0
noncomputable def PySem.Challenge.cw_mixplay_k31_whole_worth_holds.tw18381842770904475290:Nat:=0
open PySem PySem.W PyProof.Rows
set_option maxRecDepth 100000 in
set_option maxHeartbeats 0 in
theorem PySem.Challenge.cw_mixplay_k31_whole_worth_holds : PySem.Challenge.rw_mixplay_k31_whole_worth.Holds := by
  w_on; o_law; z_head; (case hw => w_witness2)
  k_fill
  refine L2.walk_x (fun _ => rfl) (My.walk (l := PySem.Challenge.rw_mixplay_k31_whole_worth) rfl rfl (fun w h Y => Y) ?F)
  case F =>
    intro w mg fa h KX G hmg
    refine' My.all_mk KX G hmg ?y0 ?a0 ?l0 ?c0 ?k0 ?a1 ?l1 ?c1 ?k1 ?a2 ?l2 ?c2 ?k2 ?a3 ?l3 ?c3 ?k3 ?a4 ?l4 ?c4 ?k4 ?a5 ?l5 ?c5 ?k5 ?a6 ?l6 ?c6 ?k6 ?a7 ?l7 ?c7 ?k7 ?a8 ?l8 ?c8 ?k8 ?a9 ?l9 ?c9 ?k9 ?a10 ?l10 ?c10 ?k10 ?a11 ?l11 ?c11 ?k11 ?a12 ?l12 ?c12 ?k12 ?a13 ?l13 ?c13 ?k13 ?a14 ?l14 ?c14 ?k14 ?a15 ?l15 ?c15 ?k15 ?a16 ?l16 ?c16 ?k16 ?a17 ?l17 ?c17 ?k17 ?a18 ?l18 ?c18 ?k18 ?a19 ?l19 ?c19 ?k19 ?a20 ?l20 ?c20 ?k20 ?a21 ?l21 ?c21 ?k21 ?a22 ?l22 ?c22 ?k22 ?a23 ?i23 ?l23 ?c23 ?k23 ?a24 ?l24 ?c24 ?k24 ?a25 ?l25 ?c25 ?k25 ?a26 ?l26 ?c26 ?k26 ?a27 ?l27 ?c27 ?k27 ?a28 ?l28 ?c28 ?k28 ?a29 ?i29 ?l29 ?c29 ?k29 ?a30 ?i30 ?l30 ?c30 ?k30 ?a31 ?l31 ?c31 ?k31 ?a32 ?l32 ?c32 ?k32 ?a33 ?i33 ?l33 ?c33 ?k33 ?a34 ?i34 ?l34 ?c34 ?k34 ?a35 ?i35 ?l35 ?c35 ?k35 ?a36 ?l36 ?c36 ?k36 ?a37 ?l37 ?c37 ?k37 ?a38 ?i38 ?l38 ?c38 ?k38 ?a39 ?i39 ?l39 ?c39 ?k39 ?a40 ?l40 ?c40 ?k40 ?a41 ?l41 ?c41 ?k41 ?a42 ?i42 ?l42 ?c42 ?k42 ?a43 ?i43 ?l43 ?c43 ?k43 ?a44 ?i44 ?l44 ?c44 ?k44 ?a45 ?i45 ?l45 ?c45 ?k45 ?a46 ?l46 ?c46 ?k46 ?a47 ?l47 ?c47 ?k47 ?a48 ?l48 ?c48 ?k48 ?a49 ?l49 ?c49 ?k49 ?a50 ?l50 ?c50 ?k50 ?a51 ?l51 ?c51 ?k51 ?a52 ?l52 ?c52 ?k52 ?a53 ?l53 ?c53 ?k53 ?a54 ?l54 ?c54 ?k54 ?a55 ?l55 ?c55 ?k55 ?pgC ?hdC ?poC ?saC ?mkC ?kcC ?nC_begun ?nC_spans ?nC_kept ?nC_inside ?z0 ?z1 ?z2 ?z3 ?z4 ?z5 ?z6 ?z7 ?z8 ?z9 ?z10 ?z11 ?z12 ?gi0
    (case y0 => k_is)
    (case a0 => k_is)
    (case l0 => k_is)
    (case c0 => k_is)
    (case k0 => k_is)
    (case a1 => k_is)
    (case l1 => k_is)
    (case c1 => k_is)
    (case k1 => k_is)
    (case a2 => k_is)
    (case l2 => k_is)
    (case c2 => k_is)
    (case k2 => k_is)
    (case a3 => k_is)
    (case l3 => k_is)
    (case c3 => k_is)
    (case k3 => k_is)
    (case a4 => k_is)
    (case l4 => k_is)
    (case c4 => k_is)
    (case k4 => k_is)
    (case a5 => k_is)
    (case l5 => k_is)
    (case c5 => k_is)
    (case k5 => k_is)
    (case a6 => k_is)
    (case l6 => k_is)
    (case c6 => k_is)
    (case k6 => k_is)
    (case a7 => k_is)
    (case l7 => k_is)
    (case c7 => k_is)
    (case k7 => k_is)
    (case a8 => k_is)
    (case l8 => k_is)
    (case c8 => k_is)
    (case k8 => k_is)
    (case a9 => k_is)
    (case l9 => k_is)
    (case c9 => k_is)
    (case k9 => k_is)
    (case a10 => k_is)
    (case l10 => k_is)
    (case c10 => k_is)
    (case k10 => k_is)
    (case a11 => k_is)
    (case l11 => k_is)
    (case c11 => k_is)
    (case k11 => k_is)
    (case a12 => k_is)
    (case l12 => k_is)
    (case c12 => k_is)
    (case k12 => k_is)
    (case a13 => k_is)
    (case l13 => k_is)
    (case c13 => k_is)
    (case k13 => k_is)
    (case a14 => k_is)
    (case l14 => k_is)
    (case c14 => k_is)
    (case k14 => k_is)
    (case a15 => k_is)
    (case l15 => k_is)
    (case c15 => k_is)
    (case k15 => k_is)
    (case a16 => k_is)
    (case l16 => k_is)
    (case c16 => k_is)
    (case k16 => k_is)
    (case a17 => k_is)
    (case l17 => k_is)
    (case c17 => k_is)
    (case k17 => k_is)
    (case a18 => k_is)
    (case l18 => k_is)
    (case c18 => k_is)
    (case k18 => k_is)
    (case a19 => k_is)
    (case l19 => k_is)
    (case c19 => k_is)
    (case k19 => k_is)
    (case a20 => k_is)
    (case l20 => k_is)
    (case c20 => k_is)
    (case k20 => k_is)
    (case a21 => k_is)
    (case l21 => k_is)
    (case c21 => k_is)
    (case k21 => k_is)
    (case a22 => k_is)
    (case l22 => k_is)
    (case c22 => k_is)
    (case k22 => k_is)
    (case a23 => k_is)
    (case i23 => k_is)
    (case l23 => k_is)
    (case c23 => k_is)
    (case k23 => k_is)
    (case a24 => k_is)
    (case l24 => k_is)
    (case c24 => k_is)
    (case k24 => k_is)
    (case a25 => k_is)
    (case l25 => k_is)
    (case c25 => k_is)
    (case k25 => k_is)
    (case a26 => k_is)
    (case l26 => k_is)
    (case c26 => k_is)
    (case k26 => k_is)
    (case a27 => k_is)
    (case l27 => k_is)
    (case c27 => k_is)
    (case k27 => k_is)
    (case a28 => k_is)
    (case l28 => k_is)
    (case c28 => k_is)
    (case k28 => k_is)
    (case a29 => k_is)
    (case i29 => k_is)
    (case l29 => k_is)
    (case c29 => k_is)
    (case k29 => k_is)
    (case a30 => k_is)
    (case i30 => k_is)
    (case l30 => k_is)
    (case c30 => k_is)
    (case k30 => k_is)
    (case a31 => k_is)
    (case l31 => k_is)
    (case c31 => k_is)
    (case k31 => k_is)
    (case a32 => k_is)
    (case l32 => k_is)
    (case c32 => k_is)
    (case k32 => k_is)
    (case a33 => k_is)
    (case i33 => k_is)
    (case l33 => k_is)
    (case c33 => k_is)
    (case k33 => k_is)
    (case a34 => k_is)
    (case i34 => k_is)
    (case l34 => k_is)
    (case c34 => k_is)
    (case k34 => k_is)
    (case a35 => k_is)
    (case i35 => k_is)
    (case l35 => k_is)
    (case c35 => k_is)
    (case k35 => k_is)
    (case a36 => k_is)
    (case l36 => k_is)
    (case c36 => k_is)
    (case k36 => k_is)
    (case a37 => k_is)
    (case l37 => k_is)
    (case c37 => k_is)
    (case k37 => k_is)
    (case a38 => k_is)
    (case i38 => k_is)
    (case l38 => k_is)
    (case c38 => k_is)
    (case k38 => k_is)
    (case a39 => k_is)
    (case i39 => k_is)
    (case l39 => k_is)
    (case c39 => k_is)
    (case k39 => k_is)
    (case a40 => k_is)
    (case l40 => k_is)
    (case c40 => k_is)
    (case k40 => k_is)
    (case a41 => k_is)
    (case l41 => k_is)
    (case c41 => k_is)
    (case k41 => k_is)
    (case a42 => k_is)
    (case i42 => k_is)
    (case l42 => k_is)
    (case c42 => k_is)
    (case k42 => k_is)
    (case a43 => k_is)
    (case i43 => k_is)
    (case l43 => k_is)
    (case c43 => k_is)
    (case k43 => k_is)
    (case a44 => k_is)
    (case i44 => k_is)
    (case l44 => k_is)
    (case c44 => k_is)
    (case k44 => k_is)
    (case a45 => k_is)
    (case i45 => k_is)
    (case l45 => k_is)
    (case c45 => k_is)
    (case k45 => k_is)
    (case a46 => k_is)
    (case l46 => k_is)
    (case c46 => k_is)
    (case k46 => k_is)
    (case a47 => k_is)
    (case l47 => k_is)
    (case c47 => k_is)
    (case k47 => k_is)
    (case a48 => k_is)
    (case l48 => k_is)
    (case c48 => k_is)
    (case k48 => k_is)
    (case a49 => k_is)
    (case l49 => k_is)
    (case c49 => k_is)
    (case k49 => k_is)
    (case a50 => k_is)
    (case l50 => k_is)
    (case c50 => k_is)
    (case k50 => k_is)
    (case a51 => k_is)
    (case l51 => k_is)
    (case c51 => k_is)
    (case k51 => k_is)
    (case a52 => k_is)
    (case l52 => k_is)
    (case c52 => k_is)
    (case k52 => k_is)
    (case a53 => k_is)
    (case l53 => k_is)
    (case c53 => k_is)
    (case k53 => k_is)
    (case a54 => k_is)
    (case l54 => k_is)
    (case c54 => k_is)
    (case k54 => k_is)
    (case a55 => k_is)
    (case l55 => k_is)
    (case c55 => k_is)
    (case k55 => k_is)
    (case pgC => k_is)
    (case hdC => k_is)
    (case poC => k_is)
    (case saC => k_is)
    (case mkC => k_is)
    (case kcC => k_is)
    (case nC_begun => k_is)
    (case nC_spans => k_is)
    (case nC_kept => k_is)
    (case nC_inside => k_is)
    (case z0 => k_is)
    (case z1 => k_is)
    (case z2 => k_is)
    (case z3 => k_is)
    (case z4 => k_is)
    (case z5 => k_is)
    (case z6 => k_is)
    (case z7 => k_is)
    (case z8 => k_is)
    (case z9 => k_is)
    (case z10 => k_is)
    (case z11 => k_is)
    (case z12 => k_is)
    (case gi0 => k_is)
