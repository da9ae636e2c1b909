import PyProof.Rows.All
import Wide.All
import OpenK.AllK
import Wide.FinOn
import Lean
import PyProof.EqAt
import PyProof.EqKinds
import PyProof.TupleCall
import PySem.Challenge.RW_mixplay_k36_no_order
set_option Elab.async false
set_option linter.all false
set_option maxRecDepth 100000
namespace L2
open PySem PySem.Spec PyProof.Rows
variable {A:Around} {C a:Addr} {E Q:Value->Shared->Prop} {H:Hp} {K:PySem.W.Frag} {M:Model} {N ps:List Str} {P:Program} {X:Cx} {base h:Heap} {body:List Stmt} {c e tg:Expr} {f:Value->Value->Sem Value} {fp:List Addr} {g:TG} {i k t':Nat} {kw:List (Str×Value)} {mg:Str->Option Value} {o:HO} {op:CmpOp} {pins:List (Addr×Obj)} {pl:Sem Bool} {pos:Pos} {s:Shared} {tb:TS} {u:Value} {us:List Value} {v y:V} {vs:List V} {x:Str} {σ:St}
noncomputable abbrev Key:=Sum Int Str
noncomputable def Ha:Key->Value->Bool
 | .inl k,v=>Value.isInt k v
 | .inr x,v=>Value.isStrOf x v
noncomputable def keyH (w:World):Key->Int
 | .inl k=>hashInt k
 | .inr x=>hashStr w x
theorem dO:∀ {k:Key} {v:Value},Ha k v=true->(∃ i t,k=Sum.inl i/\v=Value.int i t)∨(∃ x t,k=Sum.inr x/\v=Value.str x t)
 | .inl i,v,h=>by
  obtain ⟨t,e⟩:=Value.isInt_shape (k:=i) (v:=v) h
  exact .inl ⟨i,t,rfl,e⟩
 | .inr x,v,h=>by
  obtain ⟨t,e⟩:=Value.isStrOf_shape (x:=x) (v:=v) h
  exact .inr ⟨x,t,rfl,e⟩
theorem Yd (i:Int) (t:Tok):Ha (.inl i) (.int i t)=true:=by simp [Ha,Value.isInt]
theorem Yc (x:Str) (t:Tok):Ha (.inr x) (.str x t)=true:=by simp [Ha,Value.isStrOf]
theorem key_ll (a b:Int):decide ((Sum.inl a:Key)=Sum.inl b)=(a == b):=by
 by_cases e:a=b
 ·subst e;simp
 ·have h:¬ (Sum.inl a:Key)=Sum.inl b:=fun q=>e (Sum.inl.inj q)
  rw [decide_eq_false h]
  exact (beq_eq_false_iff_ne.mpr e).symm
theorem key_rr (a b:Str):decide ((Sum.inr a:Key)=Sum.inr b)=decide (a=b):=by
 by_cases e:a=b
 ·subst e;simp
 ·have h:¬ (Sum.inr a:Key)=Sum.inr b:=fun q=>e (Sum.inr.inj q)
  rw [decide_eq_false h,decide_eq_false e]
theorem key_lr (a:Int) (b:Str):decide ((Sum.inl a:Key)=Sum.inr b)=false:=decide_eq_false (fun q=>nomatch q)
theorem key_rl (a:Str) (b:Int):decide ((Sum.inr a:Key)=Sum.inl b)=false:=decide_eq_false (fun q=>nomatch q)
noncomputable def eS (prog:Program) (w:World):PySem.KeyKind prog w Key where
 is:=Ha
 hash:=keyH w
 inj:=fun v a b ha hb=>by
  rcases dO ha with ⟨i,t,rfl,rfl⟩ | ⟨x,t,rfl,rfl⟩
  ·rcases dO hb with ⟨j,u,rfl,e⟩ | ⟨y,u,rfl,e⟩
   ·injection e with e1 _;rw [e1]
   ·exact nomatch e
  ·rcases dO hb with ⟨j,u,rfl,e⟩ | ⟨y,u,rfl,e⟩
   ·exact nomatch e
   ·injection e with e1 _;rw [e1]
 byValue:=fun k v h=>by
  rcases dO h with ⟨i,t,rfl,rfl⟩ | ⟨x,t,rfl,rfl⟩ <;> rfl
 pyHash:=fun hv h=>by
  rcases dO hv with ⟨i,t,rfl,rfl⟩ | ⟨x,t,rfl,rfl⟩
  ·exact wpAny_pyHash_int h
  ·exact wpAny_pyHash_str h
 eqBool:=fun hu hv h=>by
  rcases dO hu with ⟨i,t,rfl,rfl⟩ | ⟨x,t,rfl,rfl⟩
  ·rcases dO hv with ⟨j,u,rfl,rfl⟩ | ⟨y,u,rfl,rfl⟩
   ·rw [key_ll] at h;exact wpAny_eqBool_int h
   ·rw [key_lr] at h;exact SeqAt.EqAt.int_str i t y u _ _ _ _ h
  ·rcases dO hv with ⟨j,u,rfl,rfl⟩ | ⟨y,u,rfl,rfl⟩
   ·rw [key_rl] at h;exact SeqAt.EqAt.str_int x t j u _ _ _ _ h
   ·rw [key_rr] at h;exact wpAny_eqBool_str h
 «strs»:=fun k x t v h=>by
  rcases dO h with ⟨i,u,rfl,e⟩ | ⟨y,u,rfl,e⟩
  ·exact nomatch e
  ·injection e with e1 _
   subst e1
   cases v <;> rfl
theorem Pt (prog:Program) (w:World) (i:Int) (t:Tok):(eS prog w).is (.inl i) (.int i t)=true:=Yd i t
theorem Pr (prog:Program) (w:World) (x:Str) (t:Tok):(eS prog w).is (.inr x) (.str x t)=true:=Yc x t
inductive V where
 | non | bl (b:Bool) | int (i:Int) | str (x:Str) | byt (b:Array UInt8) | flt (b:UInt64) | ref (a:Addr) | ty (n:String)
 deriving DecidableEq
noncomputable def bR:V->Value->Prop
 | .non,u=>u=Value.none
 | .bl b,u=>u=Value.bool b
 | .int i,u=>∃ t,u=Value.int i t
 | .str x,u=>∃ t,u=Value.str x t
 | .byt b,u=>∃ t,u=Value.bytes b t
 | .flt b,u=>∃ t,u=Value.float b t
 | .ref a,u=>u=Value.ref a
 | .ty n,u=>u=Value.type n
noncomputable abbrev bO:List V->List Value->Prop:=Paired bR
theorem bO.length {xs:List V} (r:bO xs us):xs.length=us.length:=Paired.length r
theorem bO.get:∀ {xs:List V} {us:List Value} {i:Nat} {x:V},bO xs us->xs[i]?=some x->∃ u,us[i]?=some u/\bR x u
 | _,_,_,_,.nil,e=>by simp at e
 | _,_,0,_,.cons r _,e=>by simp at e;subst e;exact ⟨_,rfl,r⟩
 | _,_,i+1,x,.cons _ t,e=>by
  obtain ⟨u,h1,h2⟩:=bO.get (i:=i) (x:=x) t (by simpa using e)
  exact ⟨u,by simpa using h1,h2⟩
theorem bO.set {x:V} (r:bR x u):∀ {xs:List V} {us:List Value} (i:Nat),bO xs us->bO (xs.set i x) (us.set i u)
 | _,_,_,.nil=>.nil
 | _,_,0,.cons _ t=>.cons r t
 | _,_,i+1,.cons q t=>.cons q (bO.set r i t)
theorem bO.append:∀ {xs ys:List V} {us ws:List Value},bO xs us->bO ys ws->bO (xs ++ ys) (us ++ ws)
 | _,_,_,_,.nil,s=>s
 | _,_,_,_,.cons r t,s=>.cons r (bO.append t s)
theorem bO.take:∀ {xs:List V} {us:List Value} (n:Nat),bO xs us->bO (xs.take n) (us.take n)
 | _,_,0,_=>.nil
 | _,_,_+1,.nil=>.nil
 | _,_,n+1,.cons r t=>.cons r (bO.take n t)
theorem bO.drop:∀ {xs:List V} {us:List Value} (n:Nat),bO xs us->bO (xs.drop n) (us.drop n)
 | _,_,0,r=>r
 | _,_,_+1,.nil=>.nil
 | _,_,n+1,.cons _ t=>bO.drop n t
noncomputable def tM:Option V->Option Value->Prop
 | some v,some u=>bR v u
 | none,none=>True
 | _,_=>False
noncomputable def KV {κ:Type}:List (κ×V)->List (κ×Value)->Prop:=Paired fun (p:κ×V) (q:κ×Value)=>p.1=q.1/\bR p.2 q.2
noncomputable def kV:Key->V
 | .inl i=>.int i
 | .inr x=>.str x
inductive HO where
 /-- a list -/
 | lst (xs:List V)
 /-- a tuple (never changes) -/
 | tup (xs:List V)
 /-- a dict whose keys are ints and texts;one whose keys are tuples of ints and texts (the empty one is both) -/
 | dK (kvs:List (Key×V)) | dT (kvs:List (List Key×V))
 /-- a set of ints: its members,its size -/
 | set (S:Int->Bool) (n:Nat)
 /-- an instance of the class at C,its dict at dx,its attributes -/
 | ins (C dx:Addr) (fs:List (Str×V))
 /-- the dict of the instance at x -/
 | own (x:Addr)
 /-- the dict of an exception -/
 | xd (fs:List (Str×V))
 /-- a bound method,f of x -/
 | met (f x:Addr)
 /-- a range object lo,lo+1,.. below hi -/
 | rng (lo hi:Int)
 /-- a thing that is known to the object (the script;a dict while a loop walks it): read,never written while it is so -/
 | frz (o:Obj) (u:HO)
 /-- a code object's table -/
 | tbl (ps:Array Value)
 /-- any other thing,by what is true of its one object (a def of one's own: SetO a S n:=HO.ext fun h=>..) -/
 | ext (φ:Heap->Prop)
noncomputable abbrev Hp:=Addr->Option HO
noncomputable def upd (H:Hp) (a:Addr) (o:HO):Hp:=fun b=>if b=a then some o else H b
theorem aD:upd H a o a=some o:=by unfold upd;rw [if_pos rfl]
theorem aR {b:Addr} (h:b≠a):upd H a o b=H b:=by unfold upd;rw [if_neg h]
theorem gM {b:Addr} {u:HO} (h:H a=some o) (h':H b=some u) (d:o≠u):a≠b:=by
 intro e;subst e;rw [h] at h';exact d (Option.some.inj h')
theorem bI {b:Addr} (h:H a=some o) (h':H b=none):a≠b:=by
 intro e;subst e;rw [h] at h';cases h'
section
variable (P:Program) (w:World)
noncomputable def dE (H:Hp) (h:Heap) (a:Addr):HO->Prop
 | .lst xs=>xs.length<=sizeLine/\∃ (its:List Value) (n:Nat),bO xs its/\h.get? a=some { cls:=.type "list",data:=.seq its.toArray n }
 | .tup xs=>xs.length<=sizeLine/\∃ its:List Value,bO xs its/\IsTup h a its.toArray
 | .dK kvs=>kvs.length<=sizeLine/\(a == sysModules)=false/\∃ vs,KV kvs vs/\h.DictOf (eS P w) a vs
 | .dT kvs=>kvs.length<=sizeLine/\(a == sysModules)=false/\∃ xs:List (List Key×Addr×Value),
   Paired (fun (p:List Key×V) (q:List Key×Addr×Value)=>p.1=q.1/\H q.2.1=some (.tup (p.1.map kV))/\bR p.2 q.2.2) kvs xs /\
   ∃ o es ep,h.get? a=some o/\o.ExactDict/\o.data=.dict es ep/\es.toList=xs.map (entryOfKey (tupleKind (eS P w)))/\(xs.map (·.1)).Nodup
 | .set S n=>h.SetOf (intKind P w) a S n
 | .ins C dx fs=>H dx=some (.own a)/\fs.length<=1000/\dx≠a/\h.get? a=some (PySem.W.instObj C dx) /\
   ∃ mA,h.Ns1 dx mA/\(∀ f,tM (fs.lookup f) (mA f))/\PySem.Within mA (fs.map (·.1))
 | .own _=>∃ o,h.get? a=some o
 | .xd fs=>∃ mA,h.Ns1 a mA/\∀ f,tM (fs.lookup f) (mA f)
 | .rng lo hi=>∃ t u v,h.get? a=some { cls:=.type "range",data:=.fields #[.int lo t,.int hi u,.int 1 v] }
 | .frz o u=>h.get? a=some o/\dE H h a u
 | .tbl ps=>h.get? a=some { cls:=.none,data:=.fields ps }
 | .met f x=>h.get? a=some (PySem.W.methodObj (.ref f) (.ref x))
 | .ext φ=>φ h/\(∃ o,h.get? a=some o)/\∀ h1 h2:Heap,φ h1->(∀ o,h1.get? a=some o->h2.get? a=some o)->φ h2
noncomputable def HOk (H:Hp) (h:Heap):Prop:=∀ a o,H a=some o->dE P w H h a o
end
section
variable {P:Program} {w:World} {H H':Hp} {h h':Heap} {a:Addr} {o:HO}
theorem dE.lt (x:dE P w H h a o):a < h.objs.size:=by
 cases o with
 | lst xs=>obtain ⟨_,_,_,_,e⟩:=x;exact Heap.lt_size e
 | tup xs=>obtain ⟨_,_,_,p⟩:=x;exact p.lt
 | dK kvs=>obtain ⟨_,_,_,_,o,_,_,e,_⟩:=x;exact Heap.lt_size e
 | dT kvs=>obtain ⟨_,_,_,_,o,_,_,e,_⟩:=x;exact Heap.lt_size e
 | set S n=>obtain ⟨o,_,_,_,e,_⟩:=x;exact Heap.lt_size e
 | ins C dx fs=>obtain ⟨_,_,_,e,_⟩:=x;exact Heap.lt_size e
 | own y=>obtain ⟨_,e⟩:=x;exact Heap.lt_size e
 | xd fs=>obtain ⟨_,⟨_,_,_,e,_⟩,_⟩:=x;exact Heap.lt_size e
 | rng lo hi=>obtain ⟨_,_,_,e⟩:=x;exact Heap.lt_size e
 | frz ob u=>obtain ⟨e,_⟩:=x;exact Heap.lt_size e
 | tbl ps=>exact Heap.lt_size (show h.get? a=some _ from x)
 | met f y=>exact Heap.lt_size (show h.get? a=some _ from x)
 | ext φ=>obtain ⟨_,⟨_,e⟩,_⟩:=x;exact Heap.lt_size e
theorem Paired.mapP {α β:Type} {F G:α->β->Prop}:∀ {l₁:List α} {l₂:List β},Paired F l₁ l₂->(∀ a b,F a b->G a b)->Paired G l₁ l₂
 | _,_,.nil,_=>.nil
 | _,_,.cons r t,f=>.cons (f _ _ r) (Paired.mapP t f)
theorem dE.stay (x:dE P w H h a o) (k:∀ b u,(b=a∨H b=some (.own a))->h.get? b=some u->h'.get? b=some u)
  (ho:∀ b,H b=some (.own a)->H' b=some (.own a)) (ht:∀ b xs,H b=some (.tup xs)->H' b=some (.tup xs)):dE P w H' h' a o:=by
 induction o with
 | lst xs=>obtain ⟨z,its,n,r,e⟩:=x;exact ⟨z,its,n,r,k _ _ (.inl rfl) e⟩
 | tup xs=>obtain ⟨z,its,r,ob,e,c⟩:=x;exact ⟨z,its,r,ob,k _ _ (.inl rfl) e,c⟩
 | dK kvs=>obtain ⟨z,y,vs,r,ob,es,ep,e,c⟩:=x;exact ⟨z,y,vs,r,ob,es,ep,k _ _ (.inl rfl) e,c⟩
 | dT kvs =>
  obtain ⟨z,y,xs,r,ob,es,ep,e,c⟩:=x
  exact ⟨z,y,xs,Paired.mapP r fun p q z=>⟨z.1,ht _ _ z.2.1,z.2.2⟩,ob,es,ep,k _ _ (.inl rfl) e,c⟩
 | set S n=>obtain ⟨ob,es,ep,t,e,c⟩:=x;exact ⟨ob,es,ep,t,k _ _ (.inl rfl) e,c⟩
 | ins C dx fs =>
  obtain ⟨d,z,ne,e,mA,⟨od,es,ep,e2,c⟩,r⟩:=x
  exact ⟨ho _ d,z,ne,k _ _ (.inl rfl) e,mA,⟨od,es,ep,k _ _ (.inr d) e2,c⟩,r⟩
 | own y=>obtain ⟨ob,e⟩:=x;exact ⟨ob,k _ _ (.inl rfl) e⟩
 | xd fs=>obtain ⟨mA,⟨od,es,ep,e,c⟩,r⟩:=x;exact ⟨mA,⟨od,es,ep,k _ _ (.inl rfl) e,c⟩,r⟩
 | rng lo hi=>obtain ⟨t,u,v,e⟩:=x;exact ⟨t,u,v,k _ _ (.inl rfl) e⟩
 | frz ob u ih=>obtain ⟨e,q⟩:=x;exact ⟨k _ _ (.inl rfl) e,ih q⟩
 | tbl ps =>
  have e:h.get? a=some { cls:=.none,data:=.fields ps }:=x
  show h'.get? a=some { cls:=.none,data:=.fields ps }
  exact k a _ (.inl rfl) e
 | met f y =>
  have e:h.get? a=some (PySem.W.methodObj (.ref f) (.ref y)):=x
  show h'.get? a=some (PySem.W.methodObj (.ref f) (.ref y))
  exact k a _ (.inl rfl) e
 | ext φ=>obtain ⟨p,⟨o,e⟩,st⟩:=x;exact ⟨st _ _ p fun o q=>k _ _ (.inl rfl) q,⟨o,k _ _ (.inl rfl) e⟩,st⟩
theorem HOk.lt (x:HOk P w H h) (e:H a=some o):a < h.objs.size:=(x a o e).lt
theorem HOk.fresh (x:HOk P w H h) (e:h.objs.size<=a):H a=none:=by
 cases q:H a with
 | none=>rfl
 | some u=>exact absurd (Nat.lt_of_lt_of_le (x.lt q) e) (Nat.lt_irrefl _)
theorem HOk.kept (x:HOk P w H h) (k:∀ b u,h.get? b=some u->h'.get? b=some u):HOk P w H h':=fun a o e =>
 (x a o e).stay (fun b u _ q=>k b u q) (fun _ q=>q) fun _ _ q=>q
theorem HOk.laid (x:HOk P w H h) (k:∀ b u,h.get? b=some u->h'.get? b=some u) (hp:h.objs.size<=a) (new:dE P w (upd H a o) h' a o):HOk P w (upd H a o) h':=fun b u e=>by
 have hn:=x.fresh hp
 by_cases hb:b=a
 ·subst hb;rw [aD] at e;cases e;exact new
 ·rw [aR hb] at e
  exact (x b u e).stay (fun c v _ q=>k c v q) (fun c q=>by rw [aR (bI q hn)];exact q) fun c xs q=>by rw [aR (bI q hn)];exact q
end
noncomputable def Rd (H:Hp) (a:Addr) (u:HO):Prop:=H a=some u∨∃ o,H a=some (.frz o u)
theorem Rd.ok {w:World} {u:HO} (r:Rd H a u) (x:HOk P w H h):dE P w H h a u:=by
 rcases r with r | ⟨o,r⟩
 ·exact x a u r
 ·obtain ⟨_,q⟩:=x a _ r
  exact q
noncomputable def Mut:Option HO->Prop
 | some (.lst _)=>True
 | some (.dK _)=>True
 | some (.dT _)=>True
 | some (.set _ _)=>True
 | some (.ins _ _ _)=>True
 | some (.ext _)=>True
 | _=>False
section
variable {P:Program} {w:World} {H:Hp} {h h':Heap} {x e:Addr} {o':HO}
theorem HOk.write (ok:HOk P w H h) (mu:Mut (H x)) (he:e=x∨H e=some (.own x)) (k:∀ b u,b≠e->h.get? b=some u->h'.get? b=some u) (heo:∃ u,h'.get? e=some u)
  (new:dE P w (upd H x o') h' x o'):HOk P w (upd H x o') h':=fun b u q=>by
 have nown:∀ c y,H c=some (.own y)->c≠x:=fun c y r z=>by subst z;rw [r] at mu;exact mu
 have ntup:∀ c xs,H c=some (.tup xs)->c≠x:=fun c xs r z=>by subst z;rw [r] at mu;exact mu
 by_cases hb:b=x
 ·subst hb;rw [aD] at q;cases q;exact new
 ·rw [aR hb] at q
  by_cases hbe:b=e
  ·have q':H b=some (.own x):=by
    rcases he with z | z
    ·exact absurd (hbe.trans z) hb
    ·rw [hbe];exact z
   rw [q] at q';cases q'
   obtain ⟨v,hv⟩:=heo
   exact ⟨v,by rw [hbe];exact hv⟩
  ·refine (ok b u q).stay (fun c v hc r=>k c v ?_ r) (fun c r=>by rw [aR (nown c b r)];exact r) fun c xs r=>by rw [aR (ntup c xs r)];exact r
   rcases hc with rfl | hc
   ·exact hbe
   ·rintro rfl
    rcases he with z | z
    ·exact nown c b hc z
    ·rw [hc] at z;cases z;exact hb rfl
end
structure Un (fs ex:List Addr) (H H':Hp) (h h':Heap):Prop where
 keep:∀ b o,h.get? b=some o->H b=none->b∉fs->b∉ex->h'.get? b=some o
 slot:∀ b o,h.get? b=some o->H b=none->b∈fs->b∉ex->∃ sl,h'.get? b=some { o with slots:=sl }
 free:∀ b o,h.get? b=some o->H b=none->b∉ex->H' b=none
 there:∀ b o,h.get? b=some o->b∉ex->∃ o',h'.get? b=some o'
 tups:∀ b xs,H b=some (.tup xs)->H' b=some (.tup xs)
 frzs:∀ b o u,H b=some (.frz o u)->H' b=some (.frz o u)
 tbls:∀ b ps,H b=some (.tbl ps)->∃ xB,H' b=some (.tbl (ps ++ xB))
section
variable {fs fs' ex ex':List Addr} {H H1 H2:Hp} {h h1 h2 h':Heap} {a x e:Addr} {o:HO}
theorem Un.any (u:Un fs ex H H1 h h1) {b:Addr} {ob:Obj} (q:h.get? b=some ob) (n:H b=none) (hx:b∉ex):∃ sl,h1.get? b=some { ob with slots:=sl }:=by
 by_cases hb:b∈fs
 ·exact u.slot b ob q n hb hx
 ·exact ⟨ob.slots,u.keep b ob q n hb hx⟩
theorem Un.kept (k:∀ b u,h.get? b=some u->h'.get? b=some u):Un fs ex H H h h' :=
 ⟨fun b ob q _ _ _=>k b ob q,fun b ob q _ _ _=>⟨ob.slots,k b ob q⟩,fun _ _ _ n _=>n,fun b ob q _=>⟨ob,k b ob q⟩,fun _ _ q=>q,fun _ _ _ q=>q,fun _ ps q=>⟨#[],by rw [q];simp⟩⟩
theorem Un.refl:Un fs ex H H h h:=Un.kept fun _ _ q=>q
theorem Un.laid (k:∀ b u,h.get? b=some u->h'.get? b=some u) (hp:h.objs.size<=a) (hn:H a=none):Un fs ex H (upd H a o) h h' where
 keep:=fun b u q _ _ _=>k b u q
 slot:=fun b u q _ _ _=>⟨u.slots,k b u q⟩
 free:=fun b u q n _=>by rw [aR (Nat.ne_of_lt (Nat.lt_of_lt_of_le (Heap.lt_size q) hp))];exact n
 there:=fun b u q _=>⟨u,k b u q⟩
 tups:=fun b xs q=>by rw [aR (bI q hn)];exact q
 frzs:=fun b u xs q=>by rw [aR (bI q hn)];exact q
 tbls:=fun b ps q=>⟨#[],by rw [aR (bI q hn),q];simp⟩
theorem Un.write (mu:Mut (H x)) (he:e=x∨H e=some (.own x)) (k:∀ b u,b≠e->h.get? b=some u->h'.get? b=some u) (heo:∃ u,h'.get? e=some u):Un fs ex H (upd H x o) h h':=by
 have hx:∀ b,H b=none->b≠x:=fun b n z=>by subst z;rw [n] at mu;exact mu
 have hb:∀ b,H b=none->b≠e:=fun b n z=>by
  subst z
  rcases he with r | r
  ·exact hx b n r
  ·rw [n] at r;cases r
 have hm:∀ b u,H b=some u->¬ Mut (some u)->b≠x:=fun b u q nm z=>by subst z;rw [q] at mu;exact nm mu
 refine ⟨fun b u q n _ _=>k b u (hb b n) q,fun b u q n _ _=>⟨u.slots,k b u (hb b n) q⟩,fun b u q n _=>by rw [aR (hx b n)];exact n,fun b u q _=>?_,
  fun b xs q=>by rw [aR (hm b _ q fun z=>z)];exact q,fun b u xs q=>by rw [aR (hm b _ q fun z=>z)];exact q,fun b ps q=>⟨#[],by rw [aR (hm b _ q fun z=>z),q];simp⟩⟩
 by_cases hbe:b=e
 ·subst hbe;exact heo
 ·exact ⟨u,k b u hbe q⟩
end
noncomputable def trk (h:Heap) (H:Hp):List Addr:=(List.range h.objs.size).filter fun a=>(H a).isSome
noncomputable def Js (h:Heap) (H:Hp):Heap:=PySem.W.hideAll h (trk h H)
theorem Yj (h:Heap) (H:Hp):(Js h H).objs.size=h.objs.size:=PySem.W.hideAll_size _ _
theorem jZZ {b:Addr} {o:Obj} (e:h.get? b=some o) (n:H b=none):(Js h H).get? b=some o :=
 PySem.W.hideAll_get _ e fun hm=>by
  have q:(H b).isSome=true:=(List.mem_filter.mp hm).2
  rw [n] at q;simp at q
theorem of_hidT {b:Addr} {o:Obj} (e:(Js h H).get? b=some o):h.get? b=some o/\H b=none:=by
 have e':h.get? b=some o:=PySem.W.of_hideAll (trk h H) e
 refine ⟨e',?_⟩
 cases q:H b with
 | none=>rfl
 | some x =>
  have hm:b∈trk h H:=List.mem_filter.mpr ⟨List.mem_range.mpr (Heap.lt_size e'),by simp [q]⟩
  have z:(Js h H).get? b=none:=PySem.W.hideAll_none (trk h H) hm
  rw [z] at e;cases e
structure Mod (K:PySem.W.Frag) (mg:Str->Option Value) (base:Heap):Prop where
 kin:K.In base
 glob:base.Ns mainGlobals mg
 blt:∃ mb,base.Ns builtinsNs mb/\∀ x:Str,x ≠ "__name__" -> mb x=bootBuiltins x
 nolimit:base.NoLimit
structure Cx where
 prog:Program
 w:World
 K:PySem.W.Frag
 mg:Str->Option Value
 base:Heap
 A:Around
 N:List Str
 s₀:Shared
 H₀:Hp
 env:Env
 outer:List Env
 stack:List Env
 ex:List Addr
 fn:Str->Bool
 calm:Bool
 pn:List (Addr×Obj)
 xe:Value->Shared->Prop
noncomputable def frs (l:List Env):List Addr:=l.filterMap (·.frame)
noncomputable abbrev Cx.fs (X:Cx):List Addr:=frs X.outer
noncomputable def Vis (sc:Scope) (x:Str):Prop:=sc.names.lookup x=some .local∨sc.names.lookup x=some .cell∨sc.names.lookup x=some .free
noncomputable def Loc (sc:Scope) (x:Str):Prop:=sc.names.lookup x=some .local∨sc.names.lookup x=some .cell
noncomputable def Look (env:Env) (h:Heap) (m:Str->Option Value) (x:Str) (u:Value):Prop :=
 (env.kindOf x=some .local/\m x=some u)∨((env.kindOf x=some .cell∨env.kindOf x=some .free)/\∃ c,env.cells.lookup x=some c/\h.IsCell c (some u))
structure Cx.Ok (X:Cx):Prop where
 mod:Mod X.K X.mg X.base
 kind:X.env.scope.kind=.function
 glob:X.env.globals=mainGlobals
 blt:X.env.builtins=builtinsNs
 above:X.s₀.heap.objs.size<=X.env.locals
 inj:∀ x y c,X.env.cells.lookup x=some c->X.env.cells.lookup y=some c->x=y
 has:∀ x,(X.env.kindOf x=some .cell∨X.env.kindOf x=some .free)->∃ c,X.env.cells.lookup x=some c
 cab:∀ x c,X.fn x=true->X.env.cells.lookup x=some c->X.s₀.heap.objs.size<=c
 hd:X.calm=true->X.A.handled=none
 frames:X.A.frames=some X.stack
 stk:X.stack=X.outer∨(X.stack=X.env :: X.outer/\X.env.frame=some X.env.locals)
 exf:∀ b∈X.ex,b≠X.env.locals/\∀ x c,X.env.cells.lookup x=some c->c≠b
 bs:∀ b o,X.base.get? b=some o->X.s₀.heap.get? b=some o/\X.H₀ b=none
 bsz:X.base.objs.size<=X.s₀.heap.objs.size
 noex:∀ b o,X.base.get? b=some o->b∉X.ex
 exfs:∀ b∈X.ex,b∉X.fs
 funs:X.s₀.heap.FunFrames X.base X.outer
 frf:∀ b∈X.fs,X.H₀ b=none
structure Inv (X:Cx) (pins:List (Addr×Obj)) (σ:List (Option V)) (H:Hp) (s:Shared):Prop where
 ok:X.Ok
 os:s.os=X.s₀.os
 bare:AllBare s.gens
 base:Un X.fs X.ex X.H₀ H X.s₀.heap s.heap
 loc:∃ m,s.heap.Ns X.env.locals m/\∀ (i:Nat) (x:Str) (v:V),X.N[i]?=some x->σ[i]?=some (some v)->Vis X.env.scope x->∃ u,bR v u/\Look X.env s.heap m x u
 cell:∀ x c,X.env.cells.lookup x=some c->∃ v,s.heap.IsCell c v
 free:H X.env.locals=none
 freeC:∀ x c,X.env.cells.lookup x=some c->H c=none
 pin:∀ p∈X.pn ++ pins,s.heap.get? p.1=some p.2/\H p.1=none/\p.1≠X.env.locals/\p.1∉X.fs/\∀ v,p.2.data≠.cell v
 hok:HOk X.prog X.w H s.heap
 len:σ.length=X.N.length
section
variable {X:Cx} {pins:List (Addr×Obj)} {σ:List (Option V)} {H H':Hp} {s:Shared} {h':Heap}
theorem Cx.Ok.nofr (ok:X.Ok) {b:Addr} {o:Obj} (e:X.base.get? b=some o):b∉X.fs:=fun hb=>by
 have:=(ok.funs.mem hb).1
 rw [e] at this;cases this
theorem Inv.bs (I:Inv X pins σ H s):∀ b o,X.base.get? b=some o->s.heap.get? b=some o/\H b=none:=fun b o e =>
 ⟨I.base.keep b o (I.ok.bs b o e).1 (I.ok.bs b o e).2 (I.ok.nofr e) (I.ok.noex b o e),I.base.free b o (I.ok.bs b o e).1 (I.ok.bs b o e).2 (I.ok.noex b o e)⟩
theorem Inv.bk (I:Inv X pins σ H s):∀ b o,X.base.get? b=some o->s.heap.get? b=some o:=fun b o e=>(I.bs b o e).1
theorem Inv.mod (I:Inv X pins σ H s):Mod X.K X.mg X.base:=I.ok.mod
theorem Inv.kIn (I:Inv X pins σ H s):X.K.In s.heap:=I.ok.mod.kin.keeps I.bk
theorem Inv.lt (I:Inv X pins σ H s):X.env.locals < s.heap.objs.size:=let ⟨_,hn,_⟩:=I.loc;hn.lt
theorem Inv.sz (I:Inv X pins σ H s):X.s₀.heap.objs.size<=s.heap.objs.size:=Nat.le_trans I.ok.above (Nat.le_of_lt I.lt)
theorem Inv.nofs (I:Inv X pins σ H s) (h:s.heap.objs.size<=a):a∉X.fs:=fun hb=>by
 obtain ⟨_,o,ho,_⟩:=I.ok.funs.mem hb
 exact absurd (Nat.lt_of_lt_of_le (Heap.lt_size ho) (Nat.le_trans I.sz h)) (Nat.lt_irrefl _)
theorem Inv.cne (I:Inv X pins σ H s):∀ x c,X.env.cells.lookup x=some c->c≠X.env.locals:=fun x c e z=>by
 obtain ⟨v,o,ho,hd⟩:=I.cell x c e
 obtain ⟨m,⟨o',es,ep,ho',hd',_⟩,_⟩:=I.loc
 rw [z,ho'] at ho;cases ho;rw [hd'] at hd;cases hd
theorem Inv.funs (I:Inv X pins σ H s):s.heap.FunFrames X.base X.outer:=by
 have all:∀ (l:List Env),(∀ b∈frs l,b∈X.fs)->X.s₀.heap.FunFrames X.base l->s.heap.FunFrames X.base l:=by
  intro l
  induction l with
  | nil=>intro _ _;trivial
  | cons env r ih =>
   intro hs hl
   obtain ⟨hk,⟨L,o,hf,hn,ho,hd⟩,hr⟩:=hl
   have hL:L∈X.fs:=hs L (by unfold frs;rw [List.filterMap_cons,hf];exact List.mem_cons_self)
   obtain ⟨sl,e⟩:=I.base.slot L o ho (I.ok.frf L hL) hL fun z=>I.ok.exfs L z hL
   exact ⟨hk,⟨L,_,hf,hn,e,hd⟩,ih (fun b hb=>hs b (by unfold frs;rw [List.filterMap_cons,hf];exact List.mem_cons_of_mem _ hb)) hr⟩
 exact all X.outer (fun _ hb=>hb) I.ok.funs
theorem Inv.stack (I:Inv X pins σ H s):s.heap.FunFrames X.base X.stack:=by
 rcases I.ok.stk with e | ⟨e,hf⟩
 ·rw [e];exact I.funs
 ·rw [e]
  obtain ⟨m,hn,_⟩:=I.loc
  refine .cons (by rw [I.ok.kind];decide) hf hn ?_ I.funs
  exact Heap.get?_none_of_le (Nat.le_trans I.ok.bsz I.ok.above)
theorem Inv.stkSub (I:Inv X pins σ H s):∀ b∈frs X.stack,b∈X.env.locals :: X.fs:=fun b hb=>by
 rcases I.ok.stk with e | ⟨e,hf⟩
 ·rw [e] at hb;exact List.mem_cons_of_mem _ hb
 ·rw [e] at hb
  unfold frs at hb
  rw [List.filterMap_cons,hf] at hb
  exact hb
theorem Inv.stkFree (I:Inv X pins σ H s):∀ b∈frs X.stack,H b=none:=fun b hb=>by
 rcases List.mem_cons.mp (I.stkSub b hb) with e | hb
 ·rw [e];exact I.free
 ·obtain ⟨_,o,ho,_⟩:=I.ok.funs.mem hb
  exact I.base.free b o ho (I.ok.frf b hb) fun z=>I.ok.exfs b z hb
theorem Inv.step {g':Array GenState} {d':Drawn} {ch:List Addr} (I:Inv X pins σ H s)
  (hch:∀ b∈ch,(b∈X.ex∨X.s₀.heap.objs.size<=b)/\b≠X.env.locals/\(∀ x c,X.env.cells.lookup x=some c->c≠b)/\∀ p∈X.pn ++ pins,p.1≠b)
  (keep:∀ b o,b≠X.env.locals->b∉X.fs->b∉ch->s.heap.get? b=some o->H b=none->h'.get? b=some o)
  (slot:∀ b o,b≠X.env.locals->b∈X.fs->b∉ch->s.heap.get? b=some o->H b=none->∃ sl,h'.get? b=some { o with slots:=sl }) (free:∀ b o,b∉ch->s.heap.get? b=some o->H b=none->H' b=none)
  (there:∀ b o,b∉ch->s.heap.get? b=some o->∃ o',h'.get? b=some o')
  (tups:∀ b xs,H b=some (.tup xs)->H' b=some (.tup xs)) (frzs:∀ b o u,H b=some (.frz o u)->H' b=some (.frz o u)) (tbls:∀ b ps,H b=some (.tbl ps)->∃ xB,H' b=some (.tbl (ps ++ xB)))
  (ns:∀ m,s.heap.Ns X.env.locals m->h'.Ns X.env.locals m) (hok:HOk X.prog X.w H' h') (hg:AllBare g') :
  Inv X pins σ H' { s with heap:=h',gens:=g',drawn:=d',toks:=t' }:=by
 have neL:∀ b o,X.s₀.heap.get? b=some o->b≠X.env.locals:=fun b o e=>Nat.ne_of_lt (Nat.lt_of_lt_of_le (Heap.lt_size e) I.ok.above)
 have neC:∀ b o,X.s₀.heap.get? b=some o->b∉X.ex->b∉ch:=fun b o e hx hb=>by
  rcases (hch b hb).1 with z | z
  ·exact hx z
  ·exact absurd (Nat.lt_of_lt_of_le (Heap.lt_size e) z) (Nat.lt_irrefl _)
 have cellK:∀ x c,X.env.cells.lookup x=some c->∀ v,s.heap.IsCell c v->h'.IsCell c v:=fun x c e v ⟨o,ho,hd⟩=>by
  have nch:c∉ch:=fun z=>(hch c z).2.2.1 x c e rfl
  by_cases hc:c∈X.fs
  ·obtain ⟨sl,q⟩:=slot c o (I.cne x c e) hc nch ho (I.freeC x c e)
   exact ⟨_,q,hd⟩
  ·exact ⟨o,keep c o (I.cne x c e) hc nch ho (I.freeC x c e),hd⟩
 refine ⟨I.ok,I.os,hg,⟨fun b o e n hb hx=>?_,fun b o e n hb hx=>?_,fun b o e n hx=>?_,fun b o e hx=>?_,fun b xs e=>tups b xs (I.base.tups b xs e),fun b o xs e=>frzs b o xs (I.base.frzs b o xs e),fun b ps e=>?_⟩,?_,fun x c e=>?_,?_,fun x c e=>?_,fun p hp=>?_,hok,I.len⟩
 ·exact keep b o (neL b o e) hb (neC b o e hx) (I.base.keep b o e n hb hx) (I.base.free b o e n hx)
 ·obtain ⟨sl,e1⟩:=I.base.slot b o e n hb hx
  obtain ⟨sl',e2⟩:=slot b _ (neL b o e) hb (neC b o e hx) e1 (I.base.free b o e n hx)
  exact ⟨sl',e2⟩
 ·obtain ⟨o',e1⟩:=I.base.there b o e hx
  exact free b o' (neC b o e hx) e1 (I.base.free b o e n hx)
 ·obtain ⟨o',e1⟩:=I.base.there b o e hx
  exact there b o' (neC b o e hx) e1
 ·obtain ⟨m1,e1⟩:=I.base.tbls b ps e
  obtain ⟨m2,e2⟩:=tbls b _ e1
  exact ⟨m1 ++ m2,by rw [e2,Array.append_assoc]⟩
 ·obtain ⟨m,hn,hl⟩:=I.loc
  refine ⟨m,ns m hn,fun i x v e1 e2 e3=>?_⟩
  obtain ⟨u,r,l⟩:=hl i x v e1 e2 e3
  refine ⟨u,r,?_⟩
  rcases l with l | ⟨k,c,e,z⟩
  ·exact .inl l
  ·exact .inr ⟨k,c,e,cellK x c e _ z⟩
 ·obtain ⟨v,z⟩:=I.cell x c e
  exact ⟨v,cellK x c e v z⟩
 ·obtain ⟨m,⟨o,_,_,ho,_⟩,_⟩:=I.loc
  exact free _ o (fun z=>(hch _ z).2.1 rfl) ho I.free
 ·obtain ⟨v,o,ho,hd⟩:=I.cell x c e
  exact free c o (fun z=>(hch c z).2.2.1 x c e rfl) ho (I.freeC x c e)
 ·obtain ⟨e,n,ne,nf,d⟩:=I.pin p hp
  have nch:p.1∉ch:=fun z=>(hch p.1 z).2.2.2 p hp rfl
  exact ⟨keep p.1 p.2 ne nf nch e n,free p.1 p.2 nch e n,ne,nf,d⟩
theorem Inv.un (I:Inv X pins σ H s) (u:Un X.fs [] H H' s.heap h') (hok:HOk X.prog X.w H' h'):Inv X pins σ H' { s with heap:=h',toks:=t' }:=by
 obtain ⟨m,⟨o,es,ep,ho,r⟩,_⟩:=id I.loc
 obtain ⟨sl,hL⟩:=u.any ho I.free (by simp)
 exact I.step (g':=s.gens) (d':=s.drawn) (ch:=[]) (fun _ z=>nomatch z) (fun b o _ hb _ e n=>u.keep b o e n hb (by simp)) (fun b o _ hb _ e n=>u.slot b o e n hb (by simp)) (fun b o _ e n=>u.free b o e n (by simp)) (fun b o _ e=>u.there b o e (by simp)) u.tups u.frzs u.tbls (fun m' hm=>by
  obtain ⟨o',es',ep',ho',r'⟩:=hm
  rw [ho] at ho';cases ho'
  exact ⟨_,es',ep',hL,r'⟩) hok I.bare
theorem Inv.call {g':Array GenState} {d':Drawn} {ch:List Addr} (I:Inv X pins σ H s) (u:Un (frs X.stack) ch H H' s.heap h') (hok:HOk X.prog X.w H' h') (hg:AllBare g')
  (hch:∀ b∈ch,(b∈X.ex∨X.s₀.heap.objs.size<=b)/\b≠X.env.locals/\(∀ x c,X.env.cells.lookup x=some c->c≠b)/\∀ p∈X.pn ++ pins,p.1≠b) :
  Inv X pins σ H' { s with heap:=h',gens:=g',drawn:=d',toks:=t' }:=by
 obtain ⟨m,⟨o,es,ep,ho,r⟩,_⟩:=id I.loc
 obtain ⟨sl,hL⟩:=u.any ho I.free fun z=>(hch _ z).2.1 rfl
 exact I.step (ch:=ch) hch (fun b o hL hb hc e n=>u.keep b o e n (fun z=>(List.mem_cons.mp (I.stkSub b z)).elim hL hb) hc) (fun b o _ _ hc e n=>u.any e n hc) (fun b o hc e n=>u.free b o e n hc) (fun b o hc e=>u.there b o e hc) u.tups u.frzs u.tbls (fun m' hm=>by
  obtain ⟨o',es',ep',ho',r'⟩:=hm
  rw [ho] at ho';cases ho'
  exact ⟨_,es',ep',hL,r'⟩) hok hg
theorem Inv.turned {it:Addr} (I:Inv X pins σ H s) (k:∀ b o,b≠it->s.heap.get? b=some o->h'.get? b=some o) (hn:H it=none) (hL:it≠X.env.locals)
  (h1:it∈X.ex∨X.s₀.heap.objs.size<=it) (h2:∀ x c,X.env.cells.lookup x=some c->c≠it) (h3:∀ p∈X.pn ++ pins,p.1≠it):Inv X pins σ H { s with heap:=h',toks:=t' }:=by
 have nit:∀ b u,H b=some u->b≠it:=fun b u e z=>by rw [z,hn] at e;cases e
 refine I.step (g':=s.gens) (d':=s.drawn) (ch:=[it]) (fun b hb=>?_) (fun b o _ _ hc e _=>k b o (fun z=>hc (by simp [z])) e) (fun b o _ _ hc e _=>⟨o.slots,k b o (fun z=>hc (by simp [z])) e⟩) (fun _ _ _ _ n=>n)
  (fun b o hc e=>⟨o,k b o (fun z=>hc (by simp [z])) e⟩) (fun _ _ e=>e) (fun _ _ _ e=>e) (fun b ps e=>⟨#[],by rw [e];simp⟩) (fun m hm=>?_) (fun b u e=>?_) I.bare
 ·have e:b=it:=by simpa using hb
  subst e
  exact ⟨h1,hL,h2,h3⟩
 ·obtain ⟨o,es,ep,ho,r⟩:=hm
  exact ⟨o,es,ep,k _ o (Ne.symm hL) ho,r⟩
 ·refine (I.hok b u e).stay (fun c v hc q=>k c v ?_ q) (fun _ q=>q) fun _ _ q=>q
  rcases hc with z | z
  ·rw [z];exact nit b u e
  ·exact nit c _ z
theorem Inv.tok (I:Inv X pins σ H s) (t:Nat):Inv X pins σ H { s with toks:=t }:=I.un (h':=s.heap) (t':=t) Un.refl I.hok
theorem Inv.kept (I:Inv X pins σ H s) (k:∀ b u,s.heap.get? b=some u->h'.get? b=some u):Inv X pins σ H { s with heap:=h',toks:=t' }:=I.un (Un.kept k) (I.hok.kept k)
theorem Inv.laid (I:Inv X pins σ H s) (k:∀ b u,s.heap.get? b=some u->h'.get? b=some u) (hp:s.heap.objs.size<=a) (new:dE X.prog X.w (upd H a o) h' a o) :
  Inv X pins σ (upd H a o) { s with heap:=h',toks:=t' }:=I.un (Un.laid k hp (I.hok.fresh hp)) (I.hok.laid k hp new)
theorem Inv.write {x e:Addr} (I:Inv X pins σ H s) (mu:Mut (H x)) (he:e=x∨H e=some (.own x)) (k:∀ b u,b≠e->s.heap.get? b=some u->h'.get? b=some u) (heo:∃ u,h'.get? e=some u)
  (new:dE X.prog X.w (upd H x o) h' x o):Inv X pins σ (upd H x o) { s with heap:=h',toks:=t' }:=I.un (Un.write mu he k heo) (I.hok.write mu he k heo new)
theorem Inv.pins_of {pins':List (Addr×Obj)} (I:Inv X pins σ H s) (h:∀ p∈pins',s.heap.get? p.1=some p.2/\H p.1=none/\p.1≠X.env.locals/\p.1∉X.fs/\∀ v,p.2.data≠.cell v):Inv X pins' σ H s :=
 ⟨I.ok,I.os,I.bare,I.base,I.loc,I.cell,I.free,I.freeC,fun p hp=>(List.mem_append.mp hp).elim (fun z=>I.pin p (List.mem_append_left _ z)) (h p),I.hok,I.len⟩
theorem Dp (hN:N.Nodup) {j:Nat} (a:N[i]?=some x) (b:N[j]?=some x):i=j:=by
 obtain ⟨h1,e1⟩:=List.getElem?_eq_some_iff.mp a
 obtain ⟨h2,e2⟩:=List.getElem?_eq_some_iff.mp b
 exact (List.getElem_inj hN).mp (e1.trans e2.symm)
theorem Hv {Q:Unit->Shared->Prop} (I:Inv X pins σ H s) (hN:X.N.Nodup) (hi:X.N[i]?=some x) (hx:Loc X.env.scope x) (r:bR v u)
  (h:∀ s',Inv X pins (σ.set i (some v)) H s'->(∃ a,Heap.SameBut a s.heap s'.heap/\(a=X.env.locals∨X.env.cells.lookup x=some a))->Q () s') (hf:X.fn x=true∨X.env.scope.names.lookup x=some .local:=by first | exact .inl rfl | exact .inr rfl | assumption):wpAny M A (storeName X.env x u) Q E s:=by
 obtain ⟨m,hn,hl⟩:=id I.loc
 have hcls:(X.env.scope.kind == .class || (X.env.scope.kind == .module && X.env.locals != X.env.globals))=false:=by rw [I.ok.kind];rfl
 have hiσ:i < σ.length:=by rw [I.len];exact (List.getElem?_eq_some_iff.mp hi).1
 have cne:=I.cne
 have tracked:∀ {a:Addr} {h':Heap},(∃ o,s.heap.get? a=some o/\H a=none)->Heap.SameBut a s.heap h'->HOk X.prog X.w H h':=fun {a h'} ha hs b ob e=>by
  obtain ⟨_,_,hfree⟩:=ha
  refine (I.hok b ob e).stay (fun c w' hc q=>(hs.2 c ?_).trans q) (fun _ q=>q) fun _ _ q=>q
  rintro rfl
  rcases hc with rfl | hc
  ·rw [hfree] at e;cases e
  ·rw [hfree] at hc;cases hc
 rcases hx with hk | hk
 ·refine wpAny_storeName_local hk hn (fun h' hn' hs=>?_) hcls
  obtain ⟨oL,_,_,hoL,_⟩:=id hn
  refine h _ ⟨I.ok,I.os,I.bare,⟨fun b o e n hb hx=>?_,fun b o e n hb hx=>?_,I.base.free,fun b o e hx=>?_,I.base.tups,I.base.frzs,I.base.tbls⟩,⟨_,hn',fun j y v' e1 e2 e3=>?_⟩,fun y c e=>?_,I.free,I.freeC,fun p hp=>?_,tracked ⟨oL,hoL,I.free⟩ hs,by simpa using I.len⟩ ⟨_,hs,.inl rfl⟩
  ·exact (hs.2 b (Nat.ne_of_lt (Nat.lt_of_lt_of_le (Heap.lt_size e) I.ok.above))).trans (I.base.keep b o e n hb hx)
  ·obtain ⟨sl,e1⟩:=I.base.slot b o e n hb hx
   exact ⟨sl,(hs.2 b (Nat.ne_of_lt (Nat.lt_of_lt_of_le (Heap.lt_size e) I.ok.above))).trans e1⟩
  ·obtain ⟨o',e1⟩:=I.base.there b o e hx
   exact ⟨o',(hs.2 b (Nat.ne_of_lt (Nat.lt_of_lt_of_le (Heap.lt_size e) I.ok.above))).trans e1⟩
  ·by_cases hj:j=i
   ·subst hj
    rw [hi] at e1;cases e1
    rw [List.getElem?_set_self hiσ] at e2
    cases e2
    exact ⟨u,r,.inl ⟨hk,by simp⟩⟩
   ·rw [List.getElem?_set_ne (Ne.symm hj)] at e2
    obtain ⟨u',r',q⟩:=hl j y v' e1 e2 e3
    refine ⟨u',r',?_⟩
    rcases q with ⟨k,e⟩ | ⟨k,c,e,z⟩
    ·refine .inl ⟨k,?_⟩
     have:y≠x:=fun e=>hj (Dp hN e1 (e ▸ hi))
     simp [this,e]
    ·exact .inr ⟨k,c,e,z.sameBut hs (cne y c e)⟩
  ·obtain ⟨w',z⟩:=I.cell y c e
   exact ⟨w',z.sameBut hs (cne y c e)⟩
  ·obtain ⟨e,n,ne,nf,d⟩:=I.pin p hp
   exact ⟨(hs.2 p.1 ne).trans e,n,ne,nf,d⟩
 ·have hfn:X.fn x=true:=by
   rcases hf with z | z
   ·exact z
   ·rw [z] at hk;cases hk
  obtain ⟨c,hc⟩:=I.ok.has x (.inl hk)
  obtain ⟨w',z⟩:=I.cell x c hc
  refine wpAny_storeName_cell I.ok.kind hk hc z (fun h' hc' hs=>?_)
  obtain ⟨oc,hoc,hocd⟩:=id z
  refine h { s with heap:=h' } ⟨I.ok,I.os,I.bare,⟨fun b o e n hb hx=>?_,fun b o e n hb hx=>?_,I.base.free,fun b o e hx=>?_,I.base.tups,I.base.frzs,I.base.tbls⟩,⟨m,hn.sameBut hs (Ne.symm (cne x c hc)),fun j y v' e1 e2 e3=>?_⟩,fun y c' e=>?_,I.free,I.freeC,fun p hp=>?_,tracked ⟨oc,hoc,I.freeC x c hc⟩ hs,by simpa using I.len⟩ ⟨c,hs,.inr hc⟩
  ·exact (hs.2 b (Nat.ne_of_lt (Nat.lt_of_lt_of_le (Heap.lt_size e) (I.ok.cab x c hfn hc)))).trans (I.base.keep b o e n hb hx)
  ·obtain ⟨sl,e1⟩:=I.base.slot b o e n hb hx
   exact ⟨sl,(hs.2 b (Nat.ne_of_lt (Nat.lt_of_lt_of_le (Heap.lt_size e) (I.ok.cab x c hfn hc)))).trans e1⟩
  ·obtain ⟨o',e1⟩:=I.base.there b o e hx
   exact ⟨o',(hs.2 b (Nat.ne_of_lt (Nat.lt_of_lt_of_le (Heap.lt_size e) (I.ok.cab x c hfn hc)))).trans e1⟩
  ·by_cases hj:j=i
   ·subst hj
    rw [hi] at e1;cases e1
    rw [List.getElem?_set_self hiσ] at e2
    cases e2
    exact ⟨u,r,.inr ⟨.inl hk,c,hc,hc'⟩⟩
   ·rw [List.getElem?_set_ne (Ne.symm hj)] at e2
    obtain ⟨u',r',q⟩:=hl j y v' e1 e2 e3
    refine ⟨u',r',?_⟩
    rcases q with q | ⟨k,c',e,z'⟩
    ·exact .inl q
    ·refine .inr ⟨k,c',e,z'.sameBut hs ?_⟩
     rintro rfl
     exact hj (Dp hN e1 (I.ok.inj _ _ _ e hc ▸ hi))
  ·by_cases hcc:c'=c
   ·subst hcc;exact ⟨_,hc'⟩
   ·obtain ⟨w2,z2⟩:=I.cell y c' e
    exact ⟨w2,z2.sameBut hs hcc⟩
  ·obtain ⟨e,n,ne,nf,d⟩:=I.pin p hp
   refine ⟨(hs.2 p.1 ?_).trans e,n,ne,nf,d⟩
   intro q
   rw [q,hoc] at e
   have q':oc=p.2:=Option.some.inj e
   exact d w' (by rw [← q'];exact hocd)
theorem Dg {Q:Unit->Shared->Prop} (I:Inv X pins σ H s) (hN:X.N.Nodup) (hi:X.N[i]?=some x) (hx:Loc X.env.scope x) (r:bR v u)
  (h:∀ s',Inv X pins (σ.set i (some v)) H s'->Q () s') (hf:X.fn x=true∨X.env.scope.names.lookup x=some .local:=by first | exact .inl rfl | exact .inr rfl | assumption):wpAny M A (storeName X.env x u) Q E s :=
 Hv I hN hi hx r (fun s' I' _=>h s' I') hf
theorem Inv.call' {s':Shared} {ch:List Addr} (I:Inv X pins σ H s) (ho:s'.os=s.os) (u:Un (frs X.stack) ch H H' s.heap s'.heap) (hok:HOk X.prog X.w H' s'.heap) (hg:AllBare s'.gens)
  (hch:∀ b∈ch,(b∈X.ex∨X.s₀.heap.objs.size<=b)/\b≠X.env.locals/\(∀ x c,X.env.cells.lookup x=some c->c≠b)/\∀ p∈X.pn ++ pins,p.1≠b):Inv X pins σ H' s':=by
 obtain ⟨h',g',d',t',o'⟩:=s'
 have e:o'=s.os:=ho
 subst e
 exact I.call (g':=g') (t':=t') (d':=d') u hok hg hch
end
noncomputable abbrev XK:=Value->Option Addr->Hp->Prop
noncomputable abbrev St:=List (Option V)
noncomputable abbrev VK:=V->Hp->Prop
noncomputable abbrev TE:=St->Hp->VK->Prop
noncomputable abbrev TT:=St->Hp->(Bool->Hp->Prop)->Prop
noncomputable abbrev TA:=St->Hp->(List V->Hp->Prop)->Prop
structure xD where
 nx:St->Hp->Prop
 rt:VK
 bk:St->Hp->Prop:=fun _ _=>False
 ct:St->Hp->Prop:=fun _ _=>False
noncomputable abbrev TS:=xD->St->Hp->Prop
noncomputable def EP (X:Cx) (pins:List (Addr×Obj)) (σ:St) (Q:VK) (u:Value) (s':Shared):Prop:=∃ v H',Inv X pins σ H' s'/\bR v u/\Q v H'
noncomputable def TP (X:Cx) (pins:List (Addr×Obj)) (σ:St) (Q:Bool->Hp->Prop) (b:Bool) (s':Shared):Prop:=∃ H',Inv X pins σ H' s'/\Q b H'
noncomputable def AP (X:Cx) (pins:List (Addr×Obj)) (σ:St) (Q:List V->Hp->Prop) (us:List Value) (s':Shared):Prop:=∃ vs H',Inv X pins σ H' s'/\bO vs us/\Q vs H'
noncomputable def SP (X:Cx) (pins:List (Addr×Obj)) (D:xD) (f:Flow) (s':Shared):Prop :=
 match f with
 | .next=>∃ σ' H',Inv X pins σ' H' s'/\D.nx σ' H'
 | .brk=>∃ σ' H',Inv X pins σ' H' s'/\D.bk σ' H'
 | .cont=>∃ σ' H',Inv X pins σ' H' s'/\D.ct σ' H'
 | .ret u=>∃ v σ' H',Inv X pins σ' H' s'/\bR v u/\D.rt v H'
noncomputable def PE (X:Cx) (e:Expr) (t:TE):Prop :=
 ∀ (pins:List (Addr×Obj)) (s:Shared) (σ:St) (H:Hp) (Q:VK),Inv X pins σ H s->t σ H Q->wpAny (model X.prog X.w) X.A (eval e X.env) (EP X pins σ Q) X.xe s
noncomputable def PT (X:Cx) (e:Expr) (t:TT):Prop :=
 ∀ (pins:List (Addr×Obj)) (s:Shared) (σ:St) (H:Hp) (Q:Bool->Hp->Prop),Inv X pins σ H s->t σ H Q->wpAny (model X.prog X.w) X.A (isTrue e X.env (eval e X.env)) (TP X pins σ Q) X.xe s
noncomputable def PW (X:Cx) (e:Expr) (t:TT):Prop :=
 ∀ (whole:Sem Value) (pins:List (Addr×Obj)) (s:Shared) (σ:St) (H:Hp) (Q:Bool->Hp->Prop),Inv X pins σ H s->t σ H Q->wpAny (model X.prog X.w) X.A (isTrue e X.env whole) (TP X pins σ Q) X.xe s
theorem PW.pt {t:TT} (h:PW X e t):PT X e t:=h _
noncomputable def PA (X:Cx) (es:List Expr) (t:TA):Prop :=
 ∀ (pos:Pos) (pins:List (Addr×Obj)) (s:Shared) (σ:St) (H:Hp) (Q:List V->Hp->Prop),Inv X pins σ H s->t σ H Q->wpAny (model X.prog X.w) X.A (spliced (backTo pos (starEach es X.env))) (AP X pins σ Q) X.xe s
noncomputable def PS (X:Cx) (st:Stmt) (t:TS):Prop :=
 ∀ (pins:List (Addr×Obj)) (s:Shared) (σ:St) (H:Hp) (D:xD),Inv X pins σ H s->t D σ H->wpAny (model X.prog X.w) X.A (exec st X.env) (SP X pins D) X.xe s
noncomputable def PSs (X:Cx) (st:List Stmt) (t:TS):Prop :=
 ∀ (pins:List (Addr×Obj)) (s:Shared) (σ:St) (H:Hp) (D:xD),Inv X pins σ H s->t D σ H->wpAny (model X.prog X.w) X.A (execs st X.env) (SP X pins D) X.xe s
theorem thn {α:Type} {t:Sem α} {Q Q':α->Shared->Prop} (h:wpAny M A t Q E s) (hQ:∀ a s,Q a s->Q' a s):wpAny M A t Q' E s:=wpAny_mono h hQ fun _ _ x=>x
section
variable {X:Cx}
noncomputable def exI (x:V) (k:Int->Prop):Prop:=match x with
 | .int i=>k i
 | x=>∃ i,x=.int i/\k i
noncomputable def exB (x:V) (k:Bool->Prop):Prop:=match x with
 | .bl i=>k i
 | x=>∃ i,x=.bl i/\k i
noncomputable def exR (x:V) (k:Addr->Prop):Prop:=match x with
 | .ref i=>k i
 | x=>∃ i,x=.ref i/\k i
theorem cD {i:Int} {k:Int->Prop}:exI (.int i) k=k i:=rfl
theorem cE {i:Bool} {k:Bool->Prop}:exB (.bl i) k=k i:=rfl
theorem cC {i:Addr} {k:Addr->Prop}:exR (.ref i) k=k i:=rfl
theorem cY {x:V} {k:Int->Prop}:exI x k=∃ i,x=.int i/\k i:=by
 cases x <;> first | rfl | exact propext ⟨fun h=>⟨_,rfl,h⟩,fun ⟨_,e,h⟩=>by cases e;exact h⟩
theorem fU {x:V} {k:Bool->Prop}:exB x k=∃ i,x=.bl i/\k i:=by
 cases x <;> first | rfl | exact propext ⟨fun h=>⟨_,rfl,h⟩,fun ⟨_,e,h⟩=>by cases e;exact h⟩
theorem dL {x:V} {k:Addr->Prop}:exR x k=∃ i,x=.ref i/\k i:=by
 cases x <;> first | rfl | exact propext ⟨fun h=>⟨_,rfl,h⟩,fun ⟨_,e,h⟩=>by cases e;exact h⟩
noncomputable def aB (i:Nat):TE:=fun σ H Q=>match σ[i]? with | some (some v)=>Q v H | _=>False
noncomputable def tC (v:V):TE:=fun _ H Q=>Q v H
theorem pe_var (hN:X.N[i]?=some x) (hv:Vis X.env.scope x) (hd:(x == ("__debug__" : Str))=false:=by decide) (hcd:(x == ("__classdict__" : Str))=false:=by decide):PE X (.Name x pos) (aB i):=by
 intro pins s σ H Q I h
 have h:∃ v,σ[i]?=some (some v)/\Q v H:=by
  unfold aB at h
  split at h
  ·exact ⟨_,‹_›,h⟩
  ·exact h.elim
 obtain ⟨v,e,h⟩:=h
 obtain ⟨m,hn,hl⟩:=I.loc
 obtain ⟨u,r,l⟩:=hl i x v hN e hv
 have fin:EP X pins σ Q u s:=⟨v,H,I,r,h⟩
 rcases l with ⟨hk,hm⟩ | ⟨hk,c,hc,hcell⟩
 ·exact wpAny_Name (wpAny_loadName_local I.ok.kind hk hn hm fin) hd
 ·rcases hk with hk | hk
  ·exact wpAny_Name (wpAny_loadName_cell I.ok.kind hk hc hcell fin) hd
  ·exact wpAny_Name (wpAny_loadName_free I.ok.kind hk hc hcell fin hcd) hd
theorem aL {i j pos}:PE X (.Constant (.int i) j pos) (tC (.int i)):=fun _ _ _ H _ I h=>wpAny_Constant_int ⟨.int i,H,I.tok _,⟨_,rfl⟩,h⟩
theorem Zr {b j pos}:PE X (.Constant (.bool b) j pos) (tC (.bl b)):=fun _ _ _ H _ I h=>Constant_bool ⟨.bl b,H,I,rfl,h⟩
theorem lB {j pos}:PE X (.Constant .none j pos) (tC .non):=fun _ _ _ H _ I h=>Constant_none ⟨.non,H,I,rfl,h⟩
theorem Ct {x j pos}:PE X (.Constant (.str x) j pos) (tC (.str x)):=fun _ _ _ H _ I h=>Calls.Constant_str ⟨.str x,H,I.tok _,⟨_,rfl⟩,h⟩
noncomputable def Gl (X:Cx) (x:Str):Prop:=X.env.kindOf x=some .globalImplicit
theorem sU (I:Inv X pins σ H s) (hg:Gl X x) (hm:X.mg x=some u) (h:Q u s)
  (hd:(x == ("__debug__" : Str))=false:=by decide):wpAny (model X.prog X.w) X.A (eval (.Name x pos) X.env) Q E s :=
 Calls.Name_function_global I.ok.kind hg (Calls.loadGlobal_global (by rw [I.ok.glob];exact I.mod.glob.keeps I.bk) hm h) hd
theorem lC (I:Inv X pins σ H s) (hg:Gl X x) (hm:X.mg x=none) (hv:bootBuiltins x=some u) (h:Q u s)
  (hn:x ≠ "__name__":=by decide) (hd:(x == ("__debug__" : Str))=false:=by decide):wpAny (model X.prog X.w) X.A (eval (.Name x pos) X.env) Q E s:=by
 obtain ⟨mb,h1,h2⟩:=I.mod.blt
 exact Calls.Name_function_global I.ok.kind hg (Calls.loadGlobal_builtin (by rw [I.ok.glob];exact I.mod.glob.keeps I.bk) hm (by rw [I.ok.blt];exact h1.keeps I.bk) ((h2 x hn).trans hv) h) hd
theorem kJ (hg:Gl X x) (hm:X.mg x=some u) (r:bR v u) (hd:(x == ("__debug__" : Str))=false:=by decide):PE X (.Name x pos) (tC v) :=
 fun _ _ _ H _ I h=>sU I hg hm ⟨v,H,I,r,h⟩ hd
theorem Uz (hg:Gl X x) (hm:X.mg x=none) (hv:bootBuiltins x=some u) (r:bR v u) (hn:x ≠ "__name__":=by decide) (hd:(x == ("__debug__" : Str))=false:=by decide):PE X (.Name x pos) (tC v) :=
 fun _ _ _ H _ I h=>lC I hg hm hv ⟨v,H,I,r,h⟩ hn hd
variable {a b:Expr} {ta tb:TE} {pos:Pos}
noncomputable def PC (X:Cx) (op:CmpOp) (a b:Expr) (t:TE):Prop :=
 ∀ (pins:List (Addr×Obj)) (s:Shared) (σ:St) (H:Hp) (Q:VK),Inv X pins σ H s->t σ H Q ->
  wpAny (model X.prog X.w) X.A (eval a X.env) (fun v s₁=>wpAny (model X.prog X.w) X.A (eval b X.env) (fun u s₂=>wpAny (model X.prog X.w) X.A (compareOp op v u) (EP X pins σ Q) X.xe s₂) X.xe s₁) X.xe s
noncomputable def tB (t:TE):TT:=fun σ H Q=>t σ H fun x H1=>∃ c,x=.bl c/\Q c H1
theorem pt_cmp {t:TE} (h:PC X op a b t) (h1:behindInMarks op b=false:=by first | exact nobehind _ (by decide) (by decide) | rfl):PT X (.Compare a [op] [b] pos) (tB t):=by
 intro pins s σ H Q I hw
 refine wpAny_isTrue_Compare1 (thn (h pins s σ H _ I hw) fun v s1 h1=>thn h1 fun u s2 h2=>thn h2 fun c s3 ⟨x,H1,I1,r1,q1⟩=>?_) h1
 obtain ⟨d,rfl,q⟩:=q1
 cases r1
 exact wpAny_truthy_bool ⟨H1,I1,q⟩
theorem Cs {t:TE} (h:PE X e t) (he:∀ whole,isTrue e X.env whole=(do let v ← whole;standAt e.pos;holding [v] (truthy v)):=by intro _;rfl):PT X e (tB t):=by
 intro pins s σ H Q I hw
 refine isTrue_plain (thn (h pins s σ H _ I hw) fun v s1 ⟨x,H1,I1,r1,q1⟩=>?_) (he _)
 obtain ⟨d,rfl,q⟩:=q1
 cases r1
 exact wpAny_truthy_bool ⟨H1,I1,q⟩
variable {tA tB':TT} {rest:List Expr}
noncomputable def Mn (t u:TT):TT:=fun σ H Q=>t σ H fun c H1=>if c=true then u σ H1 Q else Q false H1
noncomputable def tOr (t u:TT):TT:=fun σ H Q=>t σ H fun c H1=>if c=true then Q true H1 else u σ H1 Q
noncomputable def Yv (t:TT):TT:=fun σ H Q=>t σ H fun c H1=>Q (!c) H1
theorem Uu (ha:PT X a tA):PW X (.BoolOp .And [a] pos) tA:=by
 intro wh pins s σ H Q I h
 refine isTrue_and (thn (ha pins s σ H Q I h) fun c s1 e=>?_)
 cases c with
 | true=>exact isTrue_and_nil e
 | false=>exact e
theorem xI (ha:PT X a tA):PW X (.BoolOp .Or [a] pos) tA:=by
 intro wh pins s σ H Q I h
 refine isTrue_or (thn (ha pins s σ H Q I h) fun c s1 e=>?_)
 cases c with
 | false=>exact isTrue_or_nil e
 | true=>exact e
theorem pw_and (ha:PT X a tA) (hb:PW X (.BoolOp .And (b :: rest) pos) tB'):PW X (.BoolOp .And (a :: b :: rest) pos) (Mn tA tB'):=by
 intro wh pins s σ H Q I h
 refine isTrue_and (thn (ha pins s σ H _ I h) fun c s1 ⟨H1,I1,q1⟩=>?_)
 cases c with
 | true=>exact hb wh pins s1 σ H1 Q I1 q1
 | false=>exact ⟨H1,I1,q1⟩
theorem Gy (ha:PT X a tA) (hb:PW X (.BoolOp .Or (b :: rest) pos) tB'):PW X (.BoolOp .Or (a :: b :: rest) pos) (tOr tA tB'):=by
 intro wh pins s σ H Q I h
 refine isTrue_or (thn (ha pins s σ H _ I h) fun c s1 ⟨H1,I1,q1⟩=>?_)
 cases c with
 | true=>exact ⟨H1,I1,q1⟩
 | false=>exact hb wh pins s1 σ H1 Q I1 q1
theorem pt_not (ha:PT X a tA):PT X (.UnaryOp .Not a pos) (Yv tA):=by
 intro pins s σ H Q I h
 exact isTrue_not (ha pins s σ H (fun c H1=>Q (!c) H1) I h)
noncomputable def Gx (ta tb:TE):TE:=fun σ H Q=>ta σ H fun x H1=>∃ c,x=.bl c/\if c=true then tb σ H1 Q else Q (.bl false) H1
noncomputable def tOrV (ta tb:TE):TE:=fun σ H Q=>ta σ H fun x H1=>∃ c,x=.bl c/\if c=true then Q (.bl true) H1 else tb σ H1 Q
noncomputable def Zm (ta:TE):TE:=fun σ H Q=>ta σ H fun x H1=>∃ c,x=.bl c/\Q (.bl (!c)) H1
theorem pe_one {op} {t:TE} (h:PE X a t):PE X (.BoolOp op [a] pos) t:=fun pins s σ H Q I hw=>BoolOp_one (h pins s σ H Q I hw)
theorem pe_and (ha:PE X a ta) (hb:PE X (.BoolOp .And (b :: rest) pos) tb):PE X (.BoolOp .And (a :: b :: rest) pos) (Gx ta tb):=by
 intro pins s σ H Q I h
 refine BoolOp_and (thn (ha pins s σ H _ I h) fun v s1 ⟨x,H1,I1,r1,q1⟩=>?_)
 obtain ⟨c,rfl,q1⟩:=q1
 cases r1
 refine wpAny_truthy_bool ?_
 cases c with
 | true=>exact hb pins s1 σ H1 Q I1 q1
 | false=>exact ⟨.bl false,H1,I1,rfl,q1⟩
noncomputable def tIf (t:TT) (ta tb:TE):TE:=fun σ H Q=>t σ H fun c H1=>if c=true then ta σ H1 Q else tb σ H1 Q
theorem jJp (hc:PT X c tA) (ha:PE X a ta) (hb:PE X b tb):PE X (.IfExp c a b pos) (tIf tA ta tb):=by
 intro pins s σ H Q I h
 refine wpAny_IfExp (thn (hc pins s σ H _ I h) fun d s1 ⟨H1,I1,q1⟩=>?_)
 cases d with
 | true=>exact ha pins s1 σ H1 Q I1 q1
 | false=>exact hb pins s1 σ H1 Q I1 q1
end
noncomputable def SqL (K:PySem.W.Frag) (H:Hp) (a:Addr) (xs:List V):Prop :=
 Rd H a (.lst xs) ∨
  ∃ (o:Obj) (its:Array Value) (n:Nat),K.lookup a=some o/\o.cls=.type "list" /\ o.dict=none/\o.data=.seq its n/\its.size<=sizeLine/\bO xs its.toList
noncomputable def SqT (K:PySem.W.Frag) (H:Hp) (a:Addr) (xs:List V):Prop :=
 Rd H a (.tup xs) ∨
  ∃ (o:Obj) (its:Array Value) (n:Nat),K.lookup a=some o/\o.cls=.type "tuple" /\ o.data=.seq its n/\its.size<=sizeLine/\bO xs its.toList
noncomputable def absV:Value->Option V
 | .none=>some .non
 | .bool b=>some (.bl b)
 | .int i _=>some (.int i)
 | .str x _=>some (.str x)
 | .bytes b _=>some (.byt b)
 | .float b _=>some (.flt b)
 | .ref a=>some (.ref a)
 | .type n=>some (.ty n)
 | _=>none
theorem bR.abs {x:V} (r:bR x u):absV u=some x:=by
 cases x with
 | non=>cases r;rfl
 | bl _=>cases r;rfl
 | int _=>obtain ⟨t,rfl⟩:=r;rfl
 | str _=>obtain ⟨t,rfl⟩:=r;rfl
 | byt _=>obtain ⟨t,rfl⟩:=r;rfl
 | flt _=>obtain ⟨t,rfl⟩:=r;rfl
 | ref _=>cases r;rfl
 | ty _=>cases r;rfl
theorem bR.inj {x:V} (r:bR x u) (q:bR y u):x=y:=Option.some.inj (r.abs.symm.trans q.abs)
theorem bO.inj:∀ {xs ys:List V} {us:List Value},bO xs us->bO ys us->xs=ys
 | _,_,_,.nil,.nil=>rfl
 | _,_,_,.cons r t,.cons r' t'=>by rw [r.inj r',bO.inj t t']
section
variable {X:Cx} {pins:List (Addr×Obj)} {σ:St} {H:Hp} {s:Shared} {a:Addr} {xs ys:List V}
theorem SqL.of (h:H a=some (.lst xs)):SqL K H a xs:=.inl (.inl h)
theorem SqT.of (h:H a=some (.tup xs)):SqT K H a xs:=.inl (.inl h)
theorem Inv.list (I:Inv X pins σ H s) (h:SqL X.K H a xs):∃ its:List Value,bO xs its/\PlainL s.heap a its.toArray/\xs.length<=sizeLine:=by
 rcases h with h | ⟨o,its,n,hk,hc,hd,hs,hz,r⟩
 ·obtain ⟨z,its,n,r,e⟩:=h.ok I.hok
  exact ⟨its,r,⟨_,n,e,rfl,rfl,rfl⟩,z⟩
 ·refine ⟨its.toList,r,⟨o,n,I.kIn a o hk,hc,hd,by simpa using hs⟩,?_⟩
  have e:=r.length
  simp only [Array.length_toList] at e
  omega
theorem Inv.tuple (I:Inv X pins σ H s) (h:SqT X.K H a xs):∃ its:List Value,bO xs its/\IsTup s.heap a its.toArray/\xs.length<=sizeLine:=by
 rcases h with h | ⟨o,its,n,hk,hc,hs,hz,r⟩
 ·obtain ⟨z,its,r,p⟩:=h.ok I.hok
  exact ⟨its,r,p,z⟩
 ·refine ⟨its.toList,r,⟨o,I.kIn a o hk,hc,n,by simpa using hs⟩,?_⟩
  have e:=r.length
  simp only [Array.length_toList] at e
  omega
theorem Inv.list_inj (I:Inv X pins σ H s) (h:SqL X.K H a xs) (h':SqL X.K H a ys):xs=ys:=by
 obtain ⟨its,r,⟨o,n,e,_,_,d⟩,_⟩:=I.list h
 obtain ⟨its',r',⟨o',n',e',_,_,d'⟩,_⟩:=I.list h'
 rw [e] at e';cases e'
 rw [d] at d'
 injection d' with d1 _
 have:its=its':=by simpa using congrArg Array.toList d1
 subst this
 exact r.inj r'
end
noncomputable abbrev Cx.wish (X:Cx) (E:Value->Shared->Prop):Cx:={ X with xe:=E }
noncomputable abbrev Cx.nox (X:Cx):Cx:=X.wish fun _ _=>False
theorem Cx.Ok.wish (ok:X.Ok) (E:Value->Shared->Prop):(X.wish E).Ok :=
 ⟨ok.mod,ok.kind,ok.glob,ok.blt,ok.above,ok.inj,ok.has,ok.cab,ok.hd,ok.frames,ok.stk,ok.exf,ok.bs,ok.bsz,ok.noex,ok.exfs,ok.funs,ok.frf⟩
theorem Cx.Ok.unwish (ok:(X.wish E).Ok):X.Ok :=
 ⟨ok.mod,ok.kind,ok.glob,ok.blt,ok.above,ok.inj,ok.has,ok.cab,ok.hd,ok.frames,ok.stk,ok.exf,ok.bs,ok.bsz,ok.noex,ok.exfs,ok.funs,ok.frf⟩
section
variable {X:Cx} {pins:List (Addr×Obj)} {σ:St} {H:Hp} {s:Shared} {E:Value->Shared->Prop}
theorem Inv.wish (I:Inv X pins σ H s) (E:Value->Shared->Prop):Inv (X.wish E) pins σ H s:=⟨I.ok.wish E,I.os,I.bare,I.base,I.loc,I.cell,I.free,I.freeC,I.pin,I.hok,I.len⟩
theorem Inv.unwish (I:Inv (X.wish E) pins σ H s):Inv X pins σ H s:=⟨I.ok.unwish,I.os,I.bare,I.base,I.loc,I.cell,I.free,I.freeC,I.pin,I.hok,I.len⟩
theorem SP.unwish {D:xD} {f:Flow} {s':Shared} (h:SP (X.wish E) pins D f s'):SP X pins D f s':=by
 cases f with
 | next=>obtain ⟨σ',H',I,q⟩:=h;exact ⟨σ',H',I.unwish,q⟩
 | brk=>obtain ⟨σ',H',I,q⟩:=h;exact ⟨σ',H',I.unwish,q⟩
 | cont=>obtain ⟨σ',H',I,q⟩:=h;exact ⟨σ',H',I.unwish,q⟩
 | ret u=>obtain ⟨v,σ',H',I,r,q⟩:=h;exact ⟨v,σ',H',I.unwish,r,q⟩
theorem PSs.nox {st:List Stmt} {t:TS} (h:PSs X.nox st t):PSs X st t:=fun pins s σ H D I hw =>
 wpAny_mono (h pins s σ H D (I.wish _) hw) (fun _ _ q=>q.unwish) fun _ _ z=>False.elim z
end
section
variable {X:Cx} {st:Stmt} {rest:List Stmt} {t u:TS} {e:Expr} {te:TE} {pos:Pos}
noncomputable def bS:TS:=fun D σ H=>D.nx σ H
noncomputable def aP (t u:TS):TS:=fun D σ H=>t { D with nx:=u D } σ H
theorem bP:PSs X [] bS:=fun _ _ σ H _ I h=>wpAny_execs_nil ⟨σ,H,I,h⟩
theorem aH (h1:PS X st t) (h2:PSs X rest u):PSs X (st :: rest) (aP t u):=by
 intro pins s σ H D I h
 refine wpAny_execs_cons (thn (h1 pins s σ H { D with nx:=u D } I h) fun f s1 q=>?_)
 cases f with
 | next =>
  obtain ⟨σ',H',I',q⟩:=q
  exact h2 pins s1 σ' H' D I' q
 | ret v=>exact q
 | brk=>exact q
 | cont=>exact q
theorem aI (h1:PS X st t):PSs X [st] t:=by
 intro pins s σ H D I h
 refine wpAny_execs_cons (thn (h1 pins s σ H D I h) fun f s1 q=>?_)
 cases f with
 | next=>exact wpAny_execs_nil q
 | ret v=>exact q
 | brk=>exact q
 | cont=>exact q
theorem Inv.quiet (I:Inv X pins σ H s):interactive X.env=false:=by simp [interactive,I.ok.kind]
noncomputable def dN (te:TE):TS:=fun D σ H=>te σ H fun _ H1=>D.nx σ H1
theorem eQ (he:PE X e te) (hs:swapsWith e none pos.line X.env=pure false:=by rfl):PS X (.Expr e pos) (dN te):=by
 intro pins s σ H D I h
 exact wpAny_Expr_any (thn (he pins s σ H _ I h) fun v s1 ⟨x,H1,I1,r1,q1⟩=>⟨σ,H1,I1,q1⟩) I.quiet hs
noncomputable def aW (te:TE):TS:=fun D σ H=>te σ H D.rt
theorem aT (he:PE X e te):PS X (.Return (some e) pos) (aW te):=by
 intro pins s σ H D I h
 exact wpAny_Return_some (thn (he pins s σ H _ I h) fun v s1 ⟨x,H1,I1,r1,q1⟩=>⟨x,σ,H1,I1,r1,q1⟩)
noncomputable def cQ (c:TT) (t u:TS):TS:=fun D σ H=>c σ H fun b H1=>if b=true then t D σ H1 else u D σ H1
theorem cP {a b:List Stmt} {tc:TT} (hc:PT X c tc) (ha:PSs X a t) (hb:PSs X b u):PS X (.If c a b pos) (cQ tc t u):=by
 intro pins s σ H D I h
 refine wpAny_If (thn (hc pins s σ H _ I h) fun d s1 ⟨H1,I1,q1⟩=>?_)
 cases d with
 | true=>exact ha pins s1 σ H1 D I1 q1
 | false=>exact hb pins s1 σ H1 D I1 q1
noncomputable def dJ:TS:=fun _ _ _=>False
theorem jH:PS X st dJ:=fun _ _ _ _ _ _ h=>h.elim
theorem tE {sts:List Stmt}:PSs X sts dJ:=fun _ _ _ _ _ _ h=>h.elim
end
noncomputable abbrev TG:=V->St->Hp->(St->Hp->Prop)->Prop
noncomputable abbrev TGs:=List V->St->Hp->(St->Hp->Prop)->Prop
noncomputable def PG (X:Cx) (target:Expr) (t:TG):Prop :=
 ∀ (pins:List (Addr×Obj)) (s:Shared) (σ:St) (H:Hp) (v:V) (u:Value) (Q:St->Hp->Prop),Inv X pins σ H s->bR v u->t v σ H Q ->
  wpAny (model X.prog X.w) X.A (assign target X.env u) (fun _ s'=>∃ σ' H',Inv X pins σ' H' s'/\Q σ' H') X.xe s
noncomputable def PGs (X:Cx) (ts:List Expr) (t:TGs):Prop :=
 ∀ (pins:List (Addr×Obj)) (s:Shared) (σ:St) (H:Hp) (vs:List V) (us:List Value) (Q:St->Hp->Prop),Inv X pins σ H s->bO vs us->t vs σ H Q ->
  wpAny (model X.prog X.w) X.A (assignInOrder ((assignEach ts X.env).map (·.2)) us) (fun _ s'=>∃ σ' H',Inv X pins σ' H' s'/\Q σ' H') X.xe s
noncomputable abbrev TSet:=V->V->V->Hp->(Hp->Prop)->Prop
noncomputable def PSet (X:Cx) (t:TSet):Prop :=
 ∀ (pins:List (Addr×Obj)) (s:Shared) (σ:St) (H:Hp) (o i v:V) (ov iv u:Value) (Q:Hp->Prop),Inv X pins σ H s->bR o ov->bR i iv->bR v u->t o i v H Q ->
  wpAny (model X.prog X.w) X.A (setItem ov iv u) (fun _ s'=>∃ H',Inv X pins σ H' s'/\Q H') X.xe s
section
variable {X:Cx} {pos:Pos}
noncomputable def aJ (i:Nat):TG:=fun v σ H Q=>Q (σ.set i (some v)) H
theorem Ux (hN:X.N.Nodup) (hi:X.N[i]?=some x) (hx:Loc X.env.scope x) (hf:X.fn x=true∨X.env.scope.names.lookup x=some .local:=by first | exact .inl rfl | exact .inr rfl | assumption):PG X (.Name x pos) (aJ i):=by
 intro pins s σ H v u Q I r h
 exact wpAny_assign_Name (Dg I hN hi hx r (fun s' I'=>⟨_,H,I',h⟩) hf)
noncomputable def gH:TGs:=fun vs σ H Q=>vs=[]/\Q σ H
noncomputable def bQ (t:TG) (u:TGs):TGs:=fun vs σ H Q=>∃ v r,vs=v :: r/\t v σ H fun σ' H'=>u r σ' H' Q
theorem Uw:PGs X [] gH:=by
 intro pins s σ H vs us Q I r h
 obtain ⟨e,h⟩:=h
 subst e
 cases r
 exact assignInOrder_nil ⟨σ,H,I,h⟩
theorem vV {es:List Expr} {t:TG} {u:TGs} (h1:PG X e t) (h2:PGs X es u)
  (hs:(assignEach (e :: es) X.env).map (·.2)=assign e X.env :: (assignEach es X.env).map (·.2):=by rfl):PGs X (e :: es) (bQ t u):=by
 intro pins s σ H vs us Q I r h
 obtain ⟨v,vr,e1,h⟩:=h
 subst e1
 cases r with
 | cons r rr =>
  rw [hs]
  refine assignInOrder_cons (thn (h1 pins s σ H _ _ _ I r h) fun _ s1 ⟨σ1,H1,I1,q1⟩=>?_)
  exact h2 pins s1 σ1 H1 _ _ Q I1 rr q1
noncomputable def gG (K:PySem.W.Frag) (n:Nat) (t:TGs):TG:=fun v σ H Q=>∃ a xs,v=.ref a/\SqT K H a xs/\xs.length=n/\t xs σ H Q
theorem pg_tup {es:List Expr} {t:TGs} {n:Nat} (hc:X.calm=true) (h:PGs X es t)
  (hn:(assignEach es X.env).length=n:=by rfl) (hst:(assignEach es X.env).findIdx? (·.1)=none:=by rfl):PG X (.Tuple es k pos) (gG X.K n t):=by
 intro pins s σ H v u Q I r hw
 obtain ⟨a,xs,e1,hq,hl,hw⟩:=hw
 subst e1
 cases r
 obtain ⟨its,rv,ht,hz⟩:=I.tuple hq
 refine assign_Tuple_tuple (I.ok.hd hc) ht (by simp [hn,← hl,rv.length]) hst fun h' hx=>?_
 have I1:Inv X pins σ H { s with heap:=h' }:=I.kept (t':=s.toks) fun b o e=>hx b o (Nat.ne_of_lt (Heap.lt_size e)) e
 exact h pins _ σ H xs _ Q I1 (by simpa using rv) hw
noncomputable def An (to ti:TE) (t:TSet):TG:=fun v σ H Q=>to σ H fun o H1=>ti σ H1 fun i H2=>t o i v H2 fun H3=>Q σ H3
theorem xK {o i:Expr} {to ti:TE} {t:TSet} (ho:PE X o to) (hi:PE X i ti) (hs:PSet X t)
  (ha:∀ v,assign (.Subscript o i pos) X.env v=(do
   let ov ← holding [v] (eval o X.env)
   let iv ← holding [v,ov] (eval i X.env)
   standAt pos
   holding [v,ov,iv] (setItem ov iv v)
   release [v,ov,iv] []):=by intro _;rfl):PG X (.Subscript o i pos) (An to ti t):=by
 intro pins s σ H v u Q I r h
 rw [ha]
 refine wpAny_bind (wpAny_holding (thn (ho pins s σ H _ I h) fun ov s1 ⟨x,H1,I1,r1,q1⟩=>?_))
 refine wpAny_bind (wpAny_holding (thn (hi pins s1 σ H1 _ I1 q1) fun iv s2 ⟨y,H2,I2,r2,q2⟩=>?_))
 refine wpAny_bind (wpAny_standAt (wpAny_bind (wpAny_holding (thn (hs pins s2 σ H2 x y v ov iv u _ I2 r1 r2 r q2) fun _ s3 ⟨H3,I3,q3⟩=>?_))))
 exact wpAny_release ⟨σ,H3,I3,q3⟩
noncomputable def aV (te:TE) (g:TG):TS:=fun D σ H=>te σ H fun x H1=>g x σ H1 D.nx
theorem xJ {te:TE} (he:PE X e te) (hg:PG X tg g) (hs:swapsWithSole [tg] e pos.line X.env=pure false:=by rfl) (hw:swappedStores [tg] e X.env=pure none:=by rfl)
  (h1:(assignEach [tg] X.env).map (·.2)=[assign tg X.env]:=by rfl):PS X (.Assign [tg] e pos) (aV te g):=by
 intro pins s σ H D I h
 refine wpAny_Assign_stores (thn (he pins s σ H _ I h) fun v s1 ⟨x,H1,I1,r1,q1⟩=>?_) hs hw
 rw [h1]
 exact thn (hg pins s1 σ H1 x v _ I1 r1 q1) fun _ s2 q=>q
theorem ps_set {te:TE} {pos':Pos} (hN:X.N.Nodup) (hi:X.N[i]?=some x) (hx:Loc X.env.scope x) (he:PE X e te) (hs:swapsWith e (some (.Name x pos')) pos.line X.env=pure false:=by rfl) (hf:X.fn x=true∨X.env.scope.names.lookup x=some .local:=by first | exact .inl rfl | exact .inr rfl | assumption) :
  PS X (.Assign [.Name x pos'] e pos) (aV te (aJ i)):=by
 intro pins s σ H D I h
 refine wpAny_Assign_Name (thn (he pins s σ H _ I h) fun v s1 ⟨y,H1,I1,r1,q1⟩=>?_) hs
 exact Dg I1 hN hi hx r1 (fun s2 I2=>⟨_,H1,I2,q1⟩) hf
noncomputable def tPar (i j:Nat) (ta:TA):TS:=fun D σ H=>ta σ H fun vs H1=>∃ v w,vs=[v,w]/\D.nx ((σ.set i (some v)).set j (some w)) H1
end
section
variable {X:Cx} {pos:Pos}
noncomputable def pA (c:TT) (tb:TS):TS:=fun D σ H=>∃ W:Nat->St->Hp->Prop,(∃ m,W m σ H)/\∀ m σ H,W m σ H ->
 c σ H fun b H1=>if b=true then ∃ N:St->Hp->Prop,(∀ σ' H',N σ' H'->∃ m',m' < m/\W m' σ' H')/\tb { D with nx:=N,ct:=N,bk:=D.nx } σ H1 else D.nx σ H1
theorem jJk {tc:TT} (hp:PassesOwn (model X.prog X.w) X.A X.env X.xe) (hc:PT X c tc) (hb:PSs X body tb):PS X (.While c body [] pos) (pA tc tb):=by
 intro pins s σ H D I h
 obtain ⟨W,⟨m0,w0⟩,turn⟩:=h
 refine wpAny_While (codeAny_whileLoop (fun n s'=>∃ σ' H',Inv X pins σ' H' s'/\W n σ' H') ?_ m0 ⟨σ,H,I,w0⟩)
 rintro n s1 ⟨σ1,H1,I1,w1⟩
 refine wpAny_passesOwn hp (thn (hc pins s1 σ1 H1 _ I1 (turn n σ1 H1 w1)) fun b s2 ⟨H2,I2,q2⟩=>?_)
 cases b with
 | true =>
  obtain ⟨N,hN,q2⟩:=q2
  rw [if_pos rfl]
  refine wpAny_passesOwn hp (thn (hb pins s2 σ1 H2 _ I2 q2) fun f s3 q3=>?_)
  cases f with
  | next =>
   obtain ⟨σ3,H3,I3,n3⟩:=q3
   obtain ⟨m',hm,w3⟩:=hN σ3 H3 n3
   exact ⟨m',hm,σ3,H3,I3,w3⟩
  | cont =>
   obtain ⟨σ3,H3,I3,n3⟩:=q3
   obtain ⟨m',hm,w3⟩:=hN σ3 H3 n3
   exact ⟨m',hm,σ3,H3,I3,w3⟩
  | brk=>exact q3
  | ret v=>exact q3
 | false =>
  rw [if_neg Bool.false_ne_true]
  exact wpAny_execs_nil ⟨σ1,H2,I2,q2⟩
end
structure It where
 go:Nat->Hp->Prop
 yld:Nat->Hp->V->Hp->Prop
 stop:Nat->Hp->Prop
noncomputable def Jt (X:Cx) (pins:List (Addr×Obj)) (H:Hp) (b:Addr):Prop :=
 H b=none/\b≠X.env.locals/\b∉X.fs/\(b∈X.ex∨X.s₀.heap.objs.size<=b)/\(∀ x c,X.env.cells.lookup x=some c->c≠b)/\∀ p∈X.pn ++ pins,p.1≠b
theorem Inv.fpOk {H':Hp} {b:Addr} (I:Inv X pins σ H s) (hb:s.heap.objs.size<=b) (hn:H' b=none):Jt X pins H' b:=by
 refine ⟨hn,Nat.ne_of_gt (Nat.lt_of_lt_of_le I.lt hb),I.nofs hb,.inr (Nat.le_trans I.sz hb),fun x c e z=>?_,fun p hp z=>?_⟩
 ·obtain ⟨v,q⟩:=I.cell x c e
  exact absurd (Nat.lt_of_lt_of_le q.lt (by rw [z];exact hb)) (Nat.lt_irrefl _)
 ·exact absurd (Nat.lt_of_lt_of_le (Heap.lt_size (I.pin p hp).1) (by rw [z];exact hb)) (Nat.lt_irrefl _)
structure Qn (P:Program) (w:World) (K:PySem.W.Frag) (tg:Expr) (J:It) (fp:List Addr) (it:Addr) (tn:Nat->Heap->Prop):Prop where
 mem:it∈fp
 obj:∀ i h,tn i h->∀ b∈fp,∃ o,h.get? b=some o/\∀ v,o.data≠.cell v
 keep:∀ i h h',tn i h->(∀ b∈fp,∀ o,h.get? b=some o->h'.get? b=some o)->tn i h'
 item:∀ (X:Cx),X.prog=P->X.w=w->X.K=K->X.calm=true->∀ (i:Nat) (pins:List (Addr×Obj)) (s:Shared) (σ:St) (H:Hp) (E:Value->Shared->Prop),Inv X pins σ H s->(∀ b∈fp,Jt X pins H b)->tn i s.heap->J.go i H ->
  wpAny (model P w) X.A (pyNext (.ref it)) (fun r s1=>∃ u,r=some u /\
   wpAny (model P w) X.A (letOwnedTupleGo tg (.ref it) u) (fun _ s2=>∃ x H',Inv X pins σ H' s2/\bR x u/\J.yld i H x H'/\tn (i+1) s2.heap/\∀ b∈fp,H' b=none) E s1) E s
 done:∀ (X:Cx),X.prog=P->X.w=w->X.K=K->X.calm=true->∀ (i:Nat) (pins:List (Addr×Obj)) (s:Shared) (σ:St) (H:Hp) (E:Value->Shared->Prop),Inv X pins σ H s->(∀ b∈fp,Jt X pins H b)->tn i s.heap->J.stop i H ->
  wpAny (model P w) X.A (pyNext (.ref it)) (fun r s1=>r=none/\Inv X pins σ H s1) E s
 self:∀ (A:Around) (i:Nat) (s:Shared) (Q:Value->Shared->Prop) (E:Value->Shared->Prop),tn i s.heap->Q (.ref it) s->wpAny (model P w) A (pyIter (.ref it)) Q E s
noncomputable abbrev TI:=St->Hp->(It->Hp->Prop)->Prop
noncomputable def PIE (X:Cx) (pins:List (Addr×Obj)) (σ:St) (tg:Expr) (R:It->Hp->Prop) (itv:Value) (s2:Shared):Prop :=
 ∃ (it:Addr) (fp:List Addr) (tn:Nat->Heap->Prop) (J:It) (H':Hp),itv=.ref it/\Inv X pins σ H' s2/\Qn X.prog X.w X.K tg J fp it tn/\tn 0 s2.heap/\(∀ b∈fp,Jt X pins H' b)/\R J H'
noncomputable def PI (X:Cx) (tg iter:Expr) (wi:TI):Prop :=
 ∀ (pins:List (Addr×Obj)) (s:Shared) (σ:St) (H:Hp) (R:It->Hp->Prop),Inv X pins σ H s->wi σ H R ->
  wpAny (model X.prog X.w) X.A (eval iter X.env) (fun v s1=>wpAny (model X.prog X.w) X.A (pyIter v) (PIE X pins σ tg R) X.xe s1) X.xe s
theorem Zu {it:Addr} {o:Obj} {n:String} {vs:Array Value} {Q:Unit->Shared->Prop} (ho:s.heap.get? it=some o) (hc:o.cls=.type n) (hd:o.data=.fields vs)
  (hn:["enumerate", "zip", "dict_itemiterator", "dict_reverseitemiterator", "odict_iterator", "itertools.zip_longest", "itertools.pairwise"].contains n=false) (hQ:Q () s):wpAny M A (letOwnedTupleGo tg (.ref it) u) Q E s:=by
 unfold letOwnedTupleGo
 cases tg <;> first
  | exact wpAny_pure hQ
  | (cases u <;> first
    | exact wpAny_pure hQ
    | (refine wpAny_bind (wpAny_load ho ?_)
       rw [hc,hd]
       show wpAny M A (if (["enumerate", "zip", "dict_itemiterator", "dict_reverseitemiterator", "odict_iterator", "itertools.zip_longest", "itertools.pairwise"].contains n && vs[0]? == some (rawInt _))=true then _ else _) Q E s
       rw [if_neg (by intro h;rw [hn,Bool.false_and] at h;cases h)]
       exact wpAny_pure hQ))
noncomputable def Itl (K:PySem.W.Frag) (a:Addr):It :=
 ⟨fun i H=>∃ xs x,SqL K H a xs/\xs[i]?=some x,fun i H x H'=>H'=H/\∀ xs,SqL K H a xs->xs[i]?=some x,fun i H=>∃ xs,SqL K H a xs/\xs.length<=i⟩
noncomputable def Itr (lo:Int) (n:Nat):It:=⟨fun i _=>i < n,fun i H x H'=>H'=H/\x=.int (lo+i),fun i _=>n<=i⟩
theorem Ws {w:World} (a it:Addr):Qn P w K tg (Itl K a) [it] it (fun i h=>h.IsListIter it a i) where
 mem:=by simp
 obj:=fun i h st b hb=>by
  have e:b=it:=by simpa using hb
  subst e
  obtain ⟨o,e,c,d⟩:=st
  exact ⟨o,e,fun v z=>by rw [d] at z;cases z⟩
 keep:=fun i h h' st k=>st.at fun o e=>k it (by simp) o e
 item:=by
  intro X hP hw hK hc i pins s σ H E I hf st hg
  subst hP hw hK
  obtain ⟨xs,x,hq,hx⟩:=hg
  obtain ⟨its,rv,p,hz⟩:=I.list hq
  obtain ⟨u,hu,ru⟩:=rv.get hx
  obtain ⟨f0,f1,f2,f3,f4,f5⟩:=hf it (by simp)
  refine wpAny_pyNext_list_item st p.isList (x:=u) (by simpa using hu) fun h' st' sb=>?_
  have I1:Inv X pins σ H { s with heap:=h' }:=I.turned (t':=s.toks) (fun b o hb e=>(sb.2 b hb).trans e) f0 f1 f3 f4 f5
  obtain ⟨o,e,c,d⟩:=id st'
  exact ⟨u,rfl,Zu (s:={ s with heap:=h' }) e c d (by decide) ⟨x,H,I1,ru,⟨rfl,fun ys hy=>by rw [I.list_inj hy hq];exact hx⟩,st',fun b hb=>(hf b hb).1⟩⟩
 done:=by
  intro X hP hw hK hc i pins s σ H E I hf st hg
  subst hP hw hK
  obtain ⟨xs,hq,hx⟩:=hg
  obtain ⟨its,rv,p,hz⟩:=I.list hq
  obtain ⟨f0,f1,f2,f3,f4,f5⟩:=hf it (by simp)
  have hl:=rv.length
  exact wpAny_pyNext_list_end (I.ok.hd hc) st p.isList (by simp;omega) fun h' eb=>⟨rfl,I.turned (t':=s.toks) (fun b o hb e=>eb b o hb e) f0 f1 f3 f4 f5⟩
 self:=fun _ _ _ _ _ st h=>wpAny_pyIter_listiter st h
theorem Ru {w:World} (it:Addr) (lo:Int) (n:Nat):Qn P w K tg (Itr lo n) [it] it (fun i h=>IsRangeIter h it (lo+(i:Nat) * 1) ((n:Int) - (i:Nat)) 1) where
 mem:=by simp
 obj:=fun i h st b hb=>by
  have e:b=it:=by simpa using hb
  subst e
  exact ⟨_,st,fun v z=>by
   have z':Data.fields _=Data.cell v:=z
   cases z'⟩
 keep:=fun i h h' st k=>k it (by simp) _ st
 item:=by
  intro X hP hw hK hc i pins s σ H E I hf st hg
  subst hP hw hK
  obtain ⟨f0,f1,f2,f3,f4,f5⟩:=hf it (by simp)
  have W:=Walks.range (prog:=X.prog) (w:=X.w) (I.ok.hd hc) it lo 1 n
  refine W.item i s _ _ hg st fun v h' tk hv st' kk=>?_
  obtain ⟨t,rfl⟩:=hv
  have I1:Inv X pins σ H { s with heap:=h',toks:=tk }:=I.turned (fun b o hb e=>kk b o (by simpa using hb) e) f0 f1 f3 f4 f5
  refine ⟨_,rfl,Zu (s:={ s with heap:=h',toks:=tk }) (n:="range_iterator") st' rfl rfl (by decide) ⟨.int (lo+i),H,I1,⟨t,?_⟩,⟨rfl,rfl⟩,st',fun b hb=>(hf b hb).1⟩⟩
  rw [Int.mul_one]
 done:=by
  intro X hP hw hK hc i pins s σ H E I hf st hg
  subst hP hw hK
  obtain ⟨f0,f1,f2,f3,f4,f5⟩:=hf it (by simp)
  exact wpAny_pyNext_range_end (I.ok.hd hc) st (by have:n<=i:=hg;omega) fun h' eb=>⟨rfl,I.turned (t':=s.toks) (fun b o hb e=>eb b o hb e) f0 f1 f3 f4 f5⟩
 self:=fun _ _ _ _ _ st h=>wpAny_pyIter_rangeiter st h
section
variable {X:Cx} {tg:Expr}
noncomputable def aZ (K:PySem.W.Frag) (tl:TE):TI:=fun σ H R=>tl σ H fun x H1=>exR x fun a=>(∃ xs,SqL K H1 a xs)/\R (Itl K a) H1
theorem bH {l:Expr} {tl:TE} (hl:PE X l tl):PI X tg l (aZ X.K tl):=by
 intro pins s σ H R I h
 refine thn (hl pins s σ H _ I h) fun v s1 ⟨x,H1,I1,r1,q1⟩=>?_
 obtain ⟨a,e,⟨xs,hq⟩,q⟩:=Eq.mp dL q1
 subst e
 cases r1
 obtain ⟨its,rv,p,hz⟩:=I1.list hq
 refine wpAny_pyIter_list p.isList ?_
 refine ⟨s1.heap.objs.size,[s1.heap.objs.size],_,_,H1,rfl,I1.kept (t':=s1.toks) fun b o e=>Heap.get?_push_of_some _ e,Ws a _,⟨_,Heap.get?_push_size _ rfl,rfl,rfl⟩,fun b hb=>?_,q⟩
 have e:b=s1.heap.objs.size:=by simpa using hb
 subst e
 exact I1.fpOk (Nat.le_refl _) (I1.hok.fresh (Nat.le_refl _))
theorem jJi {R:It->Hp->Prop} {lo hi:Int} {t u v:Tok} {tk:Nat} (I:Inv X pins σ H s) (h1:-(2 ^ 62)<=lo) (h2:lo < 2 ^ 62) (h3:-(2 ^ 62)<=hi) (h4:hi < 2 ^ 62)
  (q:R (Itr lo (hi - lo).toNat) H):wpAny (model X.prog X.w) X.A (pyIter (.ref s.heap.objs.size)) (PIE X pins σ tg R) E { s with heap:=s.heap.push { cls:=.type "range",data:=.fields #[.int lo t,.int hi u,.int 1 v] },toks:=tk }:=by
 refine wpAny_pyIter_range (IsRange.new ..) (small_one h1 h2 h3 h4) ?_
 have I1:Inv X pins σ H { s with heap:=s.heap.push { cls:=.type "range",data:=.fields #[.int lo t,.int hi u,.int 1 v] },toks:=tk }:=I.kept fun b o e=>Heap.get?_push_of_some _ e
 refine ⟨(s.heap.push { cls:=.type "range",data:=.fields #[.int lo t,.int hi u,.int 1 v] }).objs.size,[(s.heap.push { cls:=.type "range",data:=.fields #[.int lo t,.int hi u,.int 1 v] }).objs.size],_,_,H,rfl,
  I1.kept (t':=tk) fun b o e=>Heap.get?_push_of_some _ e,Ru _ lo (hi - lo).toNat,?_,fun b hb=>?_,q⟩
 ·have e1:lo+((0:Nat):Int) * 1=lo:=by simp
  have e2:(((hi - lo).toNat:Nat):Int) - ((0:Nat):Int)=Builtin.Range.rangeSize lo hi 1:=by rw [rangeSize_one];split <;> omega
  show IsRangeIter _ _ (lo+((0:Nat):Int) * 1) ((((hi - lo).toNat:Nat):Int) - ((0:Nat):Int)) 1
  rw [e1,e2]
  exact Heap.get?_push_size _ rfl
 ·have e:b=(s.heap.push { cls:=.type "range",data:=.fields #[.int lo t,.int hi u,.int 1 v] }).objs.size:=by simpa using hb
  subst e
  exact I1.fpOk (Nat.le_refl _) (I1.hok.fresh (Nat.le_refl _))
noncomputable def eJ (ta:TA):TI:=fun σ H R=>ta σ H fun vs H1=>∃ j:Int,vs=[.int j]/\-(2 ^ 62)<=j/\j < 2 ^ 62/\R (Itr 0 j.toNat) H1
theorem eA {a:Expr} {ta:TA} {p:Pos} (hg:Gl X "range") (hm:X.mg "range" = none) (ha:PA X [a] ta) (hs:starEach [a] X.env=[(false,eval a X.env)]:=by rfl):PI X tg (.Call (.Name "range" p) [a] [] pos) (eJ ta):=by
 intro pins s σ H R I h
 refine Call_ (lC I hg hm boot_range (PyProof.Rows.callWith_type1 (thn (ha pos pins s σ H _ I h) fun us s1 ⟨vs,H1,I1,r1,q1⟩=>?_) hs rfl))
 obtain ⟨j,e,q1,q2,q⟩:=q1
 subst e
 cases r1 with
 | cons r rr =>
  cases rr
  obtain ⟨t,rfl⟩:=r
  exact call_range_1 (jJi I1 (by omega) (by omega) q1 q2 (by simpa using q))
noncomputable def cV (wi:TI) (g:TG) (tb:TS):TS:=fun D σ H=>wi σ H fun J H1=>∃ W:Nat->Nat->St->Hp->Prop,(∃ m,W 0 m σ H1)/\∀ i m σ H,W i m σ H ->
 (J.stop i H/\D.nx σ H)∨(J.go i H/\∃ N:St->Hp->Prop,(∀ σ' H',N σ' H'->∃ m',m' < m/\W (i+1) m' σ' H')/\∀ x H',J.yld i H x H'->g x σ H' fun σ2 H2=>tb { D with nx:=N,ct:=N,bk:=D.nx } σ2 H2)
noncomputable def Jx (fp:List Addr) (h:Heap):List (Addr×Obj):=fp.filterMap fun b=>(h.get? b).map fun o=>(b,o)
theorem pQ {b:Addr} {o:Obj} (hb:b∈fp) (e:h.get? b=some o):(b,o)∈Jx fp h:=List.mem_filterMap.mpr ⟨b,hb,by rw [e];rfl⟩
theorem Xp {p:Addr×Obj} (hp:p∈Jx fp h):p.1∈fp/\h.get? p.1=some p.2:=by
 obtain ⟨b,hb,e⟩:=List.mem_filterMap.mp hp
 cases q:h.get? b with
 | none=>rw [q] at e;cases e
 | some o =>
  rw [q] at e
  have e':(b,o)=p:=Option.some.inj e
  subst e'
  exact ⟨hb,q⟩
theorem Inv.pinned (I:Inv X pins σ H s) (hf:∀ b∈fp,Jt X pins H b) (ho:∀ b∈fp,∃ o,s.heap.get? b=some o/\∀ v,o.data≠.cell v):Inv X (pins ++ Jx fp s.heap) σ H s :=
 I.pins_of fun p hp=>(List.mem_append.mp hp).elim (fun z=>I.pin p (List.mem_append_right _ z)) fun z=>by
  obtain ⟨hb,e⟩:=Xp z
  obtain ⟨f0,f1,f2,_⟩:=hf p.1 hb
  obtain ⟨o,e',d⟩:=ho p.1 hb
  rw [e] at e';cases e'
  exact ⟨e,f0,f1,f2,d⟩
theorem Inv.unpinned {pl:List (Addr×Obj)} (I:Inv X (pins ++ pl) σ H s):Inv X pins σ H s:=I.pins_of fun p hp=>I.pin p (List.mem_append_right _ (List.mem_append_left _ hp))
theorem ps_for {iter:Expr} {wi:TI} (hp:PassesOwn (model X.prog X.w) X.A X.env X.xe) (hc:X.calm=true) (hi:PI X tg iter wi) (hg:PG X tg g) (hb:PSs X body tb)
  (hs:∀ x,foldedSetIterable iter X.env x=pure x:=by intro _;rfl):PS X (.For tg iter body [] pos) (cV wi g tb):=by
 intro pins s σ H D I h
 refine wpAny_For (thn (hi pins s σ H _ I h) fun v s1 h1=>thn h1 fun itv s2 h2=>?_) hs
 obtain ⟨it,fp,tn,J,H2,e,I2,T,st2,f2,W,⟨m0,w0⟩,turn⟩:=h2
 subst e
 -- what stays true of the iterator's objects through the loop
 have stat:∀ {H':Hp},(∀ b∈fp,H' b=none)->∀ b∈fp,Jt X pins H' b:=fun hn b hb=>⟨hn b hb,(f2 b hb).2⟩
 refine codeAny_forLoop_any (fun n s'=>∃ i σ' H',Inv X pins σ' H' s'/\tn i s'.heap/\(∀ b∈fp,H' b=none)/\W i n σ' H') ?_ m0 ⟨0,σ,H2,I2,st2,fun b hb=>(f2 b hb).1,w0⟩
 rintro n s3 ⟨i,σ3,H3,I3,st3,fr3,w3⟩
 rcases turn i n σ3 H3 w3 with ⟨stop,qn⟩ | ⟨go,N,hN,step⟩
 ·refine wpAny_passesOwn hp (thn (T.done X rfl rfl rfl hc i pins s3 σ3 H3 X.xe I3 (stat fr3) st3 stop) fun r s4 ⟨hr,I4⟩=>?_)
  subst hr
  exact wpAny_execs_nil ⟨σ3,H3,I4,qn⟩
 ·refine wpAny_passesOwn hp (thn (T.item X rfl rfl rfl hc i pins s3 σ3 H3 X.xe I3 (stat fr3) st3 go) fun r s4 ⟨u,hr,h4⟩=>?_)
  subst hr
  refine wpAny_passesOwn hp (thn h4 fun _ s5 ⟨x,H5,I5,r5,y5,st5,fr5⟩=>?_)
  have I5':=I5.pinned (stat fr5) (T.obj _ _ st5)
  refine wpAny_passesOwn hp (thn (hg _ s5 σ3 H5 x u _ I5' r5 (step x H5 y5)) fun _ s6 ⟨σ6,H6,I6,q6⟩=>?_)
  refine wpAny_passesOwn hp (thn (hb _ s6 σ6 H6 _ I6 q6) fun f s7 q7=>?_)
  have again:∀ {σ7:St} {H7:Hp},Inv X (pins ++ Jx fp s5.heap) σ7 H7 s7->N σ7 H7->∃ m,m < n/\∃ i σ' H',Inv X pins σ' H' s7/\tn i s7.heap/\(∀ b∈fp,H' b=none)/\W i m σ' H':=fun {σ7 H7} I7 n7=>by
   obtain ⟨m',hm,w7⟩:=hN σ7 H7 n7
   refine ⟨m',hm,i+1,σ7,H7,I7.unpinned,T.keep _ _ _ st5 fun b hb o e=>(I7.pin (b,o) (List.mem_append_right _ (List.mem_append_right _ (pQ hb e)))).1,fun b hb=>?_,w7⟩
   obtain ⟨o,e,d⟩:=T.obj _ _ st5 b hb
   exact (I7.pin (b,o) (List.mem_append_right _ (List.mem_append_right _ (pQ hb e)))).2.1
  cases f with
  | next=>obtain ⟨σ7,H7,I7,n7⟩:=q7;exact again I7 n7
  | cont=>obtain ⟨σ7,H7,I7,n7⟩:=q7;exact again I7 n7
  | brk=>obtain ⟨σ7,H7,I7,q7⟩:=q7;exact ⟨σ7,H7,I7.unpinned,q7⟩
  | ret v=>obtain ⟨x7,σ7,H7,I7,r7,q7⟩:=q7;exact ⟨x7,σ7,H7,I7.unpinned,r7,q7⟩
end
theorem eO {xs:List V} {D:xD} (Pv:Nat->St->Hp->Prop) (h0:Pv 0 σ H) (hl:∀ i σ H,i<=xs.length->Pv i σ H->SqL K H a xs)
  (hs:∀ i x σ H,xs[i]?=some x->Pv i σ H->g x σ H fun σ2 H2=>tb { D with nx:=Pv (i+1),ct:=Pv (i+1),bk:=D.nx } σ2 H2) (hd:∀ σ H,Pv xs.length σ H->D.nx σ H) :
  ∃ W:Nat->Nat->St->Hp->Prop,(∃ m,W 0 m σ H)/\∀ i m σ H,W i m σ H ->
   ((Itl K a).stop i H/\D.nx σ H)∨((Itl K a).go i H/\∃ N:St->Hp->Prop,(∀ σ' H',N σ' H'->∃ m',m' < m/\W (i+1) m' σ' H')/\∀ x H',(Itl K a).yld i H x H'->g x σ H' fun σ2 H2=>tb { D with nx:=N,ct:=N,bk:=D.nx } σ2 H2):=by
 refine ⟨fun i m σ H=>m=xs.length - i/\i<=xs.length/\Pv i σ H,⟨xs.length,by simp,Nat.zero_le _,h0⟩,?_⟩
 rintro i m σ H ⟨rfl,hi,p⟩
 have q:=hl i σ H hi p
 by_cases hlt:i < xs.length
 ·refine .inr ⟨⟨xs,xs[i],q,by simp [hlt]⟩,Pv (i+1),fun σ' H' p'=>⟨xs.length - (i+1),by omega,rfl,hlt,p'⟩,fun x H' y=>?_⟩
  obtain ⟨e,y⟩:=y
  subst e
  exact hs i x σ _ (y xs q) p
 ·have e:i=xs.length:=by omega
  subst e
  exact .inl ⟨⟨xs,q,Nat.le_refl _⟩,hd σ H p⟩
theorem yR {lo:Int} {n:Nat} {D:xD} (Pv:Nat->St->Hp->Prop) (h0:Pv 0 σ H)
  (hs:∀ i σ H,i < n->Pv i σ H->g (.int (lo+i)) σ H fun σ2 H2=>tb { D with nx:=Pv (i+1),ct:=Pv (i+1),bk:=D.nx } σ2 H2) (hd:∀ σ H,Pv n σ H->D.nx σ H) :
  ∃ W:Nat->Nat->St->Hp->Prop,(∃ m,W 0 m σ H)/\∀ i m σ H,W i m σ H ->
   ((Itr lo n).stop i H/\D.nx σ H)∨((Itr lo n).go i H/\∃ N:St->Hp->Prop,(∀ σ' H',N σ' H'->∃ m',m' < m/\W (i+1) m' σ' H')/\∀ x H',(Itr lo n).yld i H x H'->g x σ H' fun σ2 H2=>tb { D with nx:=N,ct:=N,bk:=D.nx } σ2 H2):=by
 refine ⟨fun i m σ H=>m=n - i/\i<=n/\Pv i σ H,⟨n,by simp,Nat.zero_le _,h0⟩,?_⟩
 rintro i m σ H ⟨rfl,hi,p⟩
 by_cases hlt:i < n
 ·refine .inr ⟨hlt,Pv (i+1),fun σ' H' p'=>⟨n - (i+1),by omega,rfl,hlt,p'⟩,fun x H' y=>?_⟩
  obtain ⟨e,y⟩:=y
  subst e y
  exact hs i σ _ hlt p
 ·have e:i=n:=by omega
  subst e
  exact .inl ⟨Nat.le_refl _,hd σ H p⟩
theorem Nh {c:TT} {D:xD} (Pv:St->Hp->Prop) (μ:St->Hp->Nat) (h0:Pv σ H)
  (hs:∀ σ H,Pv σ H->c σ H fun b H1=>if b=true then tb { D with nx:=fun σ' H'=>Pv σ' H'/\μ σ' H' < μ σ H,ct:=fun σ' H'=>Pv σ' H'/\μ σ' H' < μ σ H,bk:=D.nx } σ H1 else D.nx σ H1)
  (mono:∀ σ H Q Q',(∀ b H1,Q b H1->Q' b H1)->c σ H Q->c σ H Q'):pA c tb D σ H:=by
 refine ⟨fun m σ H=>m=μ σ H/\Pv σ H,⟨_,rfl,h0⟩,?_⟩
 rintro m σ H ⟨rfl,p⟩
 refine mono σ H _ _ (fun b H1 q=>?_) (hs σ H p)
 cases b with
 | true=>exact ⟨_,fun σ' H' ⟨p',l⟩=>⟨_,l,rfl,p'⟩,q⟩
 | false=>exact q
noncomputable abbrev R2:=V->V->Hp->VK->Prop
noncomputable def OpR (X:Cx) (f:Value->Value->Sem Value) (r:R2):Prop :=
 ∀ (pins:List (Addr×Obj)) (s:Shared) (σ:St) (H:Hp) (x y:V) (v u:Value) (Q:VK),Inv X pins σ H s->bR x v->bR y u->r x y H Q ->
  wpAny (model X.prog X.w) X.A (f v u) (EP X pins σ Q) X.xe s
noncomputable def UnR (X:Cx) (f:Value->Sem Value) (r:V->Hp->VK->Prop):Prop :=
 ∀ (pins:List (Addr×Obj)) (s:Shared) (σ:St) (H:Hp) (x:V) (v:Value) (Q:VK),Inv X pins σ H s->bR x v->r x H Q ->
  wpAny (model X.prog X.w) X.A (f v) (EP X pins σ Q) X.xe s
noncomputable def lX (X:Cx) (f:Value) (r:List V->Hp->VK->Prop):Prop :=
 ∀ (pins:List (Addr×Obj)) (s:Shared) (σ:St) (H:Hp) (xs:List V) (us:List Value) (Q:VK),Inv X pins σ H s->bO xs us->r xs H Q ->
  wpAny (model X.prog X.w) X.A (call f us) (EP X pins σ Q) X.xe s
noncomputable def tOp (r:R2) (ta tb:TE):TE:=fun σ H Q=>ta σ H fun x H1=>tb σ H1 fun y H2=>r x y H2 Q
noncomputable def tUn (r:V->Hp->VK->Prop) (ta:TE):TE:=fun σ H Q=>ta σ H fun x H1=>r x H1 Q
noncomputable def rI (C:Int->Int->Prop) (g:Int->Int->V):R2:=fun x y H Q=>exI x fun i=>exI y fun j=>C i j/\Q (g i j) H
noncomputable def rI0 (g:Int->Int->V):R2:=fun x y H Q=>exI x fun i=>exI y fun j=>Q (g i j) H
noncomputable def rU (g:Int->V):V->Hp->VK->Prop:=fun x H Q=>exI x fun i=>Q (g i) H
section
variable {X:Cx} {a b c:Expr} {ta tb tc:TE} {pos:Pos}
theorem binT (ha:PE X a ta) (hb:PE X b tb) {R:V->V->Hp->Prop} (I:Inv X pins σ H s)
  (h:ta σ H fun x H1=>tb σ H1 fun y H2=>R x y H2)
  (hf:∀ v u s2 x y H2,Inv X pins σ H2 s2->bR x v->bR y u->R x y H2->wpAny (model X.prog X.w) X.A (f v u) Q X.xe s2) :
  wpAny (model X.prog X.w) X.A (eval a X.env) (fun v s₁=>wpAny (model X.prog X.w) X.A (eval b X.env) (fun u s₂=>wpAny (model X.prog X.w) X.A (f v u) Q X.xe s₂) X.xe s₁) X.xe s:=by
 refine thn (ha pins s σ H _ I h) fun v s1 ⟨x,H1,I1,r1,q1⟩=>?_
 refine thn (hb pins s1 σ H1 _ I1 q1) fun u s2 ⟨y,H2,I2,r2,q2⟩=>?_
 exact hf v u s2 x y H2 I2 r1 r2 q2
theorem aY {op:Operator} {r:R2} (ho:OpR X (binaryOp op) r) (ha:PE X a ta) (hb:PE X b tb):PE X (.BinOp a op b pos) (tOp r ta tb):=by
 intro pins s σ H Q I h
 exact wpAny_BinOp (binT ha hb I h fun v u s2 x y H2 I2 rx ry q=>ho pins s2 σ H2 x y v u Q I2 rx ry q)
theorem qI {op:UnaryOp} {r:V->Hp->VK->Prop} (ho:UnR X (unaryOp op) r) (ha:PE X a ta):PE X (.UnaryOp op a pos) (tUn r ta):=by
 intro pins s σ H Q I h
 exact UnaryOp_ (thn (ha pins s σ H _ I h) fun v s1 ⟨x,H1,I1,r1,q1⟩=>ho pins s1 σ H1 x v Q I1 r1 q1)
theorem opI {C:Int->Int->Prop} {g:Int->Int->Int}
  (rule:∀ (i j:Int) (t u:Tok) (s:Shared) (Q:Value->Shared->Prop) (E:Value->Shared->Prop),C i j->Q (.int (g i j) s.toks) { s with toks:=s.toks+1 }->wpAny (model X.prog X.w) X.A (f (.int i t) (.int j u)) Q E s) :
  OpR X f (rI C fun i j=>.int (g i j)):=by
 intro pins s σ H x y v u Q I rx ry h
 obtain ⟨i,rfl,h1⟩:=Eq.mp cY h
 obtain ⟨j,rfl,hc,q⟩:=Eq.mp cY h1
 obtain ⟨t,rfl⟩:=rx
 obtain ⟨t',rfl⟩:=ry
 exact rule i j t t' s _ _ hc ⟨.int (g i j),H,I.tok _,⟨_,rfl⟩,q⟩
theorem opI0 {g:Int->Int->Int}
  (rule:∀ (i j:Int) (t u:Tok) (s:Shared) (Q:Value->Shared->Prop) (E:Value->Shared->Prop),Q (.int (g i j) s.toks) { s with toks:=s.toks+1 }->wpAny (model X.prog X.w) X.A (f (.int i t) (.int j u)) Q E s) :
  OpR X f (rI0 fun i j=>.int (g i j)):=by
 intro pins s σ H x y v u Q I rx ry h
 obtain ⟨i,rfl,h1⟩:=Eq.mp cY h
 obtain ⟨j,rfl,q⟩:=Eq.mp cY h1
 obtain ⟨t,rfl⟩:=rx
 obtain ⟨t',rfl⟩:=ry
 exact rule i j t t' s _ _ ⟨.int (g i j),H,I.tok _,⟨_,rfl⟩,q⟩
theorem opB0 {g:Int->Int->Bool}
  (rule:∀ (i j:Int) (t u:Tok) (s:Shared) (Q:Value->Shared->Prop) (E:Value->Shared->Prop),Q (.bool (g i j)) s->wpAny (model X.prog X.w) X.A (f (.int i t) (.int j u)) Q E s) :
  OpR X f (rI0 fun i j=>.bl (g i j)):=by
 intro pins s σ H x y v u Q I rx ry h
 obtain ⟨i,rfl,h1⟩:=Eq.mp cY h
 obtain ⟨j,rfl,q⟩:=Eq.mp cY h1
 obtain ⟨t,rfl⟩:=rx
 obtain ⟨t',rfl⟩:=ry
 exact rule i j t t' s _ _ ⟨.bl (g i j),H,I,rfl,q⟩
noncomputable def CDiv (i j:Int):Prop:=0 < j/\j < 1073741824
noncomputable def CPow (i j:Int):Prop:=0<=j/\j<=1000000/\i.natAbs < 2 ^ 64
theorem gU:OpR X (binaryOp .Add) (rI0 fun i j=>.int (i+j)):=opI0 fun _ _ _ _ _ _ _ q=>add_int q
theorem qX:OpR X (binaryOp .Sub) (rI0 fun i j=>.int (i - j)):=opI0 fun _ _ _ _ _ _ _ q=>sub_int q
theorem iJ:OpR X (binaryOp .Mod) (rI (fun _ j=>0 < j) fun i j=>.int (i % j)):=opI fun i j _ _ _ _ _ hc q=>by
 have h1:(0:Int) < j:=hc
 exact mod_int' (by omega) (by rw [Int.fmod_eq_emod_of_nonneg i (by omega)];exact q)
theorem unI {f:Value->Sem Value} {g:Int->Int}
  (rule:∀ (i:Int) (t:Tok) (s:Shared) (Q:Value->Shared->Prop) (E:Value->Shared->Prop),Q (.int (g i) s.toks) { s with toks:=s.toks+1 }->wpAny (model X.prog X.w) X.A (f (.int i t)) Q E s) :
  UnR X f (rU fun i=>.int (g i)):=by
 intro pins s σ H x v Q I rx h
 obtain ⟨i,rfl,q⟩:=Eq.mp cY h
 obtain ⟨t,rfl⟩:=rx
 exact rule i t s _ _ ⟨.int (g i),H,I.tok _,⟨_,rfl⟩,q⟩
theorem jU:UnR X (unaryOp .USub) (rU fun i=>.int (-i)):=unI fun _ _ _ _ _ q=>neg_int q
end
noncomputable def scal:V->V->Bool
 | .non,.non=>true | .non,.int _=>true | .int _,.non=>true | .non,.bl _=>true | .bl _,.non=>true | .non,.str _=>true | .str _,.non=>true
 | .int _,.int _=>true | .bl _,.bl _=>true | .str _,.str _=>true | .byt _,.byt _=>true
 | .int _,.str _=>true | .str _,.int _=>true | .bl _,.str _=>true | .str _,.bl _=>true
 | _,_=>false
noncomputable def rEq:R2:=fun x y H Q=>scal x y=true/\Q (.bl (decide (x=y))) H
theorem dI {i j:Int}:scal (.int i) (.int j)=true:=rfl
noncomputable def rNe:R2:=fun x y H Q=>scal x y=true/\Q (.bl (!decide (x=y))) H
theorem Vx {i j:Int}:decide (V.int i=V.int j)=(i == j):=by
 rw [Bool.eq_iff_iff]
 simp
theorem dec_bl {i j:Bool}:decide (V.bl i=V.bl j)=(i == j):=by
 rw [Bool.eq_iff_iff]
 simp
theorem Vw {i j:Str}:decide (V.str i=V.str j)=(i == j):=by
 rw [Bool.eq_iff_iff]
 simp
theorem Vy {i j:Array UInt8}:decide (V.byt i=V.byt j)=(i.toList == j.toList):=by
 rw [Bool.eq_iff_iff]
 cases i
 cases j
 simp
section
variable {X:Cx} {a b c:Expr} {ta tb tc:TE} {pos:Pos}
theorem bX {Q:VK} {k k':Bool} (I:Inv X pins σ H s) (q:Q (.bl k) H) (e:k=k'):EP X pins σ Q (.bool k') s:=by
 subst e
 exact ⟨.bl k,H,I,rfl,q⟩
theorem qT:OpR X (compareOp .Eq) rEq:=by
 intro pins s σ H x y v u Q I rx ry h
 obtain ⟨hs,q⟩:=h
 cases x with
 | non =>
  cases rx
  cases y with
  | non=>cases ry;exact PySem.EqNone.eq_none_none (bX I q (by simp))
  | bl j=>cases ry;exact PySem.EqNone.eq_none_bool (bX I q (by simp))
  | int j=>obtain ⟨t',rfl⟩:=ry;exact PySem.EqNone.eq_none_int (bX I q (by simp))
  | str j=>obtain ⟨t',rfl⟩:=ry;exact PySem.EqNone.eq_none_str (bX I q (by simp))
  | _=>exact absurd (show false=true from hs) Bool.false_ne_true
 | bl i =>
  cases rx
  cases y with
  | non=>cases ry;exact PySem.EqNone.eq_bool_none (bX I q (by simp))
  | bl j=>cases ry;exact eq_bool (bX I q dec_bl)
  | str j=>obtain ⟨t',rfl⟩:=ry;exact PySem.EqMixed.eq_bool_str (bX I q (by simp))
  | _=>exact absurd (show false=true from hs) Bool.false_ne_true
 | int i =>
  obtain ⟨t,rfl⟩:=rx
  cases y with
  | non=>cases ry;exact PySem.EqNone.eq_int_none (bX I q (by simp))
  | int j=>obtain ⟨t',rfl⟩:=ry;exact eq_int (bX I q Vx)
  | str j=>obtain ⟨t',rfl⟩:=ry;exact PySem.EqMixed.eq_int_str (bX I q (by simp))
  | _=>exact absurd (show false=true from hs) Bool.false_ne_true
 | str i =>
  obtain ⟨t,rfl⟩:=rx
  cases y with
  | non=>cases ry;exact PySem.EqNone.eq_str_none (bX I q (by simp))
  | bl j=>cases ry;exact PySem.EqMixed.eq_str_bool (bX I q (by simp))
  | int j=>obtain ⟨t',rfl⟩:=ry;exact PySem.EqMixed.eq_str_int (bX I q (by simp))
  | str j=>obtain ⟨t',rfl⟩:=ry;exact eq_str (bX I q Vw)
  | _=>exact absurd (show false=true from hs) Bool.false_ne_true
 | byt i =>
  obtain ⟨t,rfl⟩:=rx
  cases y with
  | byt j=>obtain ⟨t',rfl⟩:=ry;exact PySem.W.eq_bytes (bX I q Vy)
  | _=>exact absurd (show false=true from hs) Bool.false_ne_true
 | _=>cases y <;> exact absurd (show false=true from hs) Bool.false_ne_true
theorem Uf:OpR X (compareOp .NotEq) rNe:=by
 intro pins s σ H x y v u Q I rx ry h
 obtain ⟨hs,q⟩:=h
 cases x with
 | non =>
  cases rx
  cases y with
  | non=>cases ry;exact PySem.EqNone.ne_none_none (bX I q (by simp))
  | bl j=>cases ry;exact PySem.EqNone.ne_none_bool (bX I q (by simp))
  | int j=>obtain ⟨t',rfl⟩:=ry;exact PySem.EqNone.ne_none_int (bX I q (by simp))
  | str j=>obtain ⟨t',rfl⟩:=ry;exact PySem.EqNone.ne_none_str (bX I q (by simp))
  | _=>exact absurd (show false=true from hs) Bool.false_ne_true
 | bl i =>
  cases rx
  cases y with
  | non=>cases ry;exact PySem.EqNone.ne_bool_none (bX I q (by simp))
  | bl j=>cases ry;exact ne_bool (bX I q (congrArg not dec_bl))
  | str j=>obtain ⟨t',rfl⟩:=ry;exact PySem.EqMixed.ne_bool_str (bX I q (by simp))
  | _=>exact absurd (show false=true from hs) Bool.false_ne_true
 | int i =>
  obtain ⟨t,rfl⟩:=rx
  cases y with
  | non=>cases ry;exact PySem.EqNone.ne_int_none (bX I q (by simp))
  | int j=>obtain ⟨t',rfl⟩:=ry;exact ne_int (bX I q (congrArg not Vx))
  | str j=>obtain ⟨t',rfl⟩:=ry;exact PySem.EqMixed.ne_int_str (bX I q (by simp))
  | _=>exact absurd (show false=true from hs) Bool.false_ne_true
 | str i =>
  obtain ⟨t,rfl⟩:=rx
  cases y with
  | non=>cases ry;exact PySem.EqNone.ne_str_none (bX I q (by simp))
  | bl j=>cases ry;exact PySem.EqMixed.ne_str_bool (bX I q (by simp))
  | int j=>obtain ⟨t',rfl⟩:=ry;exact PySem.EqMixed.ne_str_int (bX I q (by simp))
  | str j=>obtain ⟨t',rfl⟩:=ry;exact ne_str (bX I q (congrArg not Vw))
  | _=>exact absurd (show false=true from hs) Bool.false_ne_true
 | byt i =>
  obtain ⟨t,rfl⟩:=rx
  cases y with
  | byt j=>obtain ⟨t',rfl⟩:=ry;exact PySem.W.ne_bytes (bX I q (congrArg not Vy))
  | _=>exact absurd (show false=true from hs) Bool.false_ne_true
 | _=>cases y <;> exact absurd (show false=true from hs) Bool.false_ne_true
theorem lW:OpR X (compareOp .Lt) (rI0 fun i j=>.bl (decide (i < j))):=opB0 fun _ _ _ _ _ _ _ q=>lt_int q
theorem Zs:OpR X (compareOp .Gt) (rI0 fun i j=>.bl (decide (j < i))):=opB0 fun _ _ _ _ _ _ _ q=>gt_int q
theorem op_ge:OpR X (compareOp .GtE) (rI0 fun i j=>.bl (decide (j<=i))):=opB0 fun _ _ _ _ _ _ _ q=>ge_int q
theorem Cu:OpR X (compareOp .Is) (fun x y H Q=>y=.non/\Q (.bl (decide (x=.non))) H):=by
 intro pins s σ H x y v u Q I rx ry h
 obtain ⟨rfl,q⟩:=h
 cases ry
 refine is_none_gen (bX I q ?_)
 cases x <;> first
  | (cases rx;rfl)
  | (obtain ⟨t,rfl⟩:=rx;rfl)
theorem Vb:OpR X (compareOp .IsNot) (fun x y H Q=>y=.non/\Q (.bl (!decide (x=.non))) H):=by
 intro pins s σ H x y v u Q I rx ry h
 obtain ⟨rfl,q⟩:=h
 cases ry
 refine isnot_none_gen (bX I q ?_)
 cases x <;> first
  | (cases rx;rfl)
  | (obtain ⟨t,rfl⟩:=rx;rfl)
theorem bN (b:Expr) (h:op≠.In:=by decide) (h2:op≠.NotIn:=by decide):behindInMarks op b=false:=by
 have e1:(op == CmpOp.In)=false:=by cases op <;> first | rfl | exact absurd rfl h
 have e2:(op == CmpOp.NotIn)=false:=by cases op <;> first | rfl | exact absurd rfl h2
 cases b <;> simp [behindInMarks,e1,e2]
theorem Ku {r:R2} (ho:OpR X (compareOp op) r) (ha:PE X a ta) (hb:PE X b tb) (hm:behindInMarks op b=false):PE X (.Compare a [op] [b] pos) (tOp r ta tb):=by
 intro pins s σ H Q I h
 exact wpAny_Compare1 (binT ha hb I h fun v u s2 x y H2 I2 rx ry q=>ho pins s2 σ H2 x y v u Q I2 rx ry q) hm
noncomputable def bE (t:TE):TT:=fun σ H Q=>t σ H fun x H'=>exB x fun k=>Q k H'
theorem bF {r:R2} (ho:OpR X (compareOp op) r) (ha:PE X a ta) (hb:PE X b tb) (hm:behindInMarks op b=false):PT X (.Compare a [op] [b] pos) (bE (tOp r ta tb)):=by
 intro pins s σ H Q I h
 refine wpAny_isTrue_Compare1 (thn (ha pins s σ H _ I h) fun v s1 ⟨x,H1,I1,r1,q1⟩=>thn (hb pins s1 σ H1 _ I1 q1) fun u s2 ⟨y,H2,I2,r2,q2⟩ =>
  thn (ho pins s2 σ H2 x y v u _ I2 r1 r2 q2) fun c s3 ⟨z,H3,I3,r3,q3⟩=>?_) hm
 obtain ⟨k,e,q3⟩:=Eq.mp fU q3
 subst e
 cases r3
 exact wpAny_truthy_bool ⟨H3,I3,q3⟩
theorem Jy:(sizeLine:Nat) < 2 ^ 63:=by rw [sizeLine_eq];decide
theorem qR {x:V} (r:bO [x] us):∃ u,us=[u]/\bR x u:=by
 cases r with
 | cons r1 r2=>cases r2;exact ⟨_,rfl,r1⟩
theorem Ud {x:V} (r:bO [x,y] us):∃ u w',us=[u,w']/\bR x u/\bR y w':=by
 cases r with
 | cons r1 r2 =>
  cases r2 with
  | cons r3 r4=>cases r4;exact ⟨_,_,rfl,r1,r3⟩
theorem Dw:lX X (.builtin "abs") (fun xs H Q=>∃ i,xs=[.int i]/\Q (.int (if i < 0 then -i else i)) H):=by
 intro pins s σ H xs us Q I r h
 obtain ⟨i,rfl,q⟩:=h
 obtain ⟨u,rfl,t,rfl⟩:=qR r
 exact call_abs_int fun u tk=>⟨.int (if i < 0 then -i else i),H,I.tok _,⟨_,rfl⟩,q⟩
theorem Yp (hc:X.calm=true):lX X (.builtin "max") (fun xs H Q=>∃ i j,xs=[.int i,.int j]/\Q (.int (if j > i then j else i)) H):=by
 intro pins s σ H xs us Q I r h
 obtain ⟨i,j,rfl,q⟩:=h
 obtain ⟨u,w',rfl,⟨t,rfl⟩,⟨t',rfl⟩⟩:=Ud r
 refine max_two_ints (I.ok.hd hc) fun h' tk k=>⟨_,H,I.kept k,?_,q⟩
 by_cases hj:j > i
 ·rw [if_pos hj,if_pos hj];exact ⟨_,rfl⟩
 ·rw [if_neg hj,if_neg hj];exact ⟨_,rfl⟩
end
structure Qo (h:Heap) (x dx C:Addr) (mA:Str->Option Value):Prop where
 obj:h.get? x=some (PySem.W.instObj C dx)
 ns:h.Ns1 dx mA
 ne:dx≠x
theorem Xt {dx:Addr} {mA:Str->Option Value} (n:h.Ns1 dx mA):∃ od,h.get? dx=some od/\∀ name,PySem.W.lookIn name od=some (mA name):=by
 obtain ⟨o,es,ep,ho,hd,hk,_,hm⟩:=n
 refine ⟨o,ho,fun name=>?_⟩
 have e:=hm name
 unfold nsFind findBy at e
 rw [← Array.find?_toList] at e
 unfold PySem.W.lookIn
 rw [hd]
 dsimp only
 split
 ·rename_i y q
  rw [q] at e
  exact congrArg some e
 ·rename_i q
  rw [q] at e
  have a:es.toList.any (·.refKey)=false:=by
   rw [List.any_eq_false]
   intro y hy
   obtain ⟨z,t,hkey⟩:=hk y (Array.mem_toList_iff.mp hy)
   simp [DictEntry.refKey,hkey]
  have a':¬ es.toList.any (·.refKey)=true:=by rw [a];exact Bool.false_ne_true
  rw [if_neg a']
  exact congrArg some e
theorem Qo.look {x dx:Addr} {mA:Str->Option Value} (I:Qo h x dx C mA):∃ od,PySem.W.InstAt h x (PySem.W.instObj C dx) C (some od)/\∀ name,PySem.W.lookIn name od=some (mA name) :=
 let ⟨od,ho,hl⟩:=Xt I.ns
 ⟨od,⟨I.obj,rfl,rfl,ho⟩,hl⟩
section
variable {prog:Program} {w:World} {A:Around} {E:Value->Shared->Prop} {s:Shared} {K:PySem.W.Frag} {x dx C f:Addr} {mA:Str->Option Value} {name:Str} {v:Value}
theorem get_map {expr:Bool} (X:K.In s.heap) (I:Qo s.heap x dx C mA) (hg:PySem.W.plainGet K C name=true) (hh:PySem.W.hasDictIn K C=true)
  (ha:PySem.W.findIn K (.ref C) name=some none) (hv:mA name=some v) (hv':PySem.W.handedIn v=true) (h:Q v { s with toks:=s.toks+1 }) :
  wpAny (model prog w) A (getAttr (.ref x) name expr) Q E s:=by
 obtain ⟨od,J,hl⟩:=I.look
 exact PySem.W.get_value X J (PySem.W.plainGet_of hg).1 (PySem.W.findObj_own hh ha rfl (by rw [hl,hv])) hv' h
theorem jZY {Q:Value×List Value->Shared->Prop} (X:K.In s.heap) (I:Qo s.heap x dx C mA) (hg:PySem.W.plainGet K C name=true)
  (hf:PySem.W.findIn K (.ref C) name=some (some (.ref f))) (ht:PySem.W.isFn K (.ref f)=true) (hv:mA name=none) (h:Q (.ref f,[.ref x]) s) :
  wpAny (model prog w) A (getMethod (.ref x) name pl) Q E s:=by
 obtain ⟨od,J,hl⟩:=I.look
 exact PySem.W.method_fn X J (PySem.W.plainGet_of hg).1 (PySem.W.plainGet_of hg).2 hf (beq_iff_eq.mp ht) (by show (PySem.W.lookIn name od).map (·.isSome)=some false;rw [hl,hv];rfl) h
theorem set_map {ns:List Str} {Q:Unit->Shared->Prop} (X:K.In s.heap) (I:Qo s.heap x dx C mA)
  (hs:PySem.W.findIn K (.ref C) "__setattr__" = some (some (.builtin "object.__setattr__"))) (hp:PySem.W.plainOver K C=true) (ht:PySem.W.takerIn K C name=some none) (hh:PySem.W.hasDictIn K C=true)
  (hw:PySem.Within mA ns) (hsz:ns.length<=sizeLine)
  (h:∀ h',Qo h' x dx C (fun y=>if y=name then some v else mA y)->Heap.SameBut dx s.heap h'->Q () { s with heap:=h',toks:=s.toks+2 }) :
  wpAny (model prog w) A (setAttr (.ref x) name v) Q E s:=by
 obtain ⟨od,J,hl⟩:=I.look
 refine PySem.W.set_plain X J hs (PySem.W.osa_open (s:={ s with toks:=s.toks+1 }) (r:=none) X J hp ht fun b=>?_)
 obtain ⟨cd,hc,hd'⟩:=PySem.W.any_some hh
 have hx:s.heap.get? x=some ⟨.ref C,some dx,.plain,#[]⟩:=I.obj
 refine wpAny_bind (wpAny_pure (wpAny_bind (wpAny_bind (wpAny_loadPart hx (wpAny_bind (PySem.W.Looks.here (s:={ s with toks:=s.toks+1 }) (PySem.W.looks_clsIn X hc) ?_))))))
 rw [hd']
 refine wpAny_pure (a:=some dx) (wpAny_bind (wpAny_pure (wpAny_bind ?_)))
 refine wpAny_nsSet1 (s:={ s with toks:=s.toks+1 }) I.ns fun h' hn2 hs2=>?_
 obtain ⟨oD,esD,epD,hoD,hdD,hcD⟩:=hn2.count (PySem.Within.cons name v hw)
 refine wpAny_bind (wpAny_lookBehind hoD (by rw [hdD];exact pastItsLine_dict (Nat.le_trans hcD (by rw [List.length_cons];omega))) ?_)
 exact wpAny_pure (h _ ⟨(hs2.2 _ (Ne.symm I.ne)).trans I.obj,hn2,I.ne⟩ hs2)
theorem jJx {R:Result->Shared->Prop} {vs:List Value} (X:K.In s.heap) (hm:PySem.W.makesIn K C=true)
  (hi:PySem.W.findIn K (.ref C) "__init__" = some (some (.ref f))) (hf:PySem.W.typeIn K (.ref f)=some (.type "function"))
  (h:codeAny (model prog w) (A.under (.builtin "type.__call__" ⟨.ref C :: vs,kw⟩)) (.call (.ref f) ⟨.ref (s.heap.objs.size+1) :: vs,kw⟩) (PySem.W.InitBack (s.heap.objs.size+1) R)
   { s with heap:=(s.heap.push PySem.W.emptyDict).push (PySem.W.instObj C s.heap.objs.size) }) :
  codeAny (model prog w) A (.call (.ref C) ⟨vs,kw⟩) R s:=by
 obtain ⟨hh,g,d,t,os⟩:=s
 exact PySem.W.make_core (PySem.W.makes_of X hm) (PySem.W.looks_findIn X hi) (fun self=>PySem.W.bind_fn X self hf) (.inl rfl) h
end
noncomputable def cL (f:Str) (v:V):List (Str×V)->List (Str×V)
 | []=>[(f,v)]
 | (g,x) :: r=>if g=f then (g,v) :: r else (g,x) :: cL f v r
theorem fC (f g:Str) (v:V):∀ fs:List (Str×V),(cL f v fs).lookup g=if g=f then some v else fs.lookup g
 | []=>by
  show List.lookup g [(f,v)]=_
  by_cases h:g=f
  ·have hb:(g == f)=true:=beq_iff_eq.mpr h
   simp only [List.lookup,hb,if_pos h]
  ·have hb:(g == f)=false:=beq_eq_false_iff_ne.mpr h
   simp only [List.lookup,hb,if_neg h]
 | (k,x) :: r=>by
  have ih:=fC f g v r
  rw [show cL f v ((k,x) :: r)=(if k=f then (k,v) :: r else (k,x) :: cL f v r) from rfl]
  by_cases hk:k=f
  ·rw [if_pos hk]
   by_cases h:g=k
   ·have hb:(g == k)=true:=beq_iff_eq.mpr h
    simp only [List.lookup,hb,if_pos (h.trans hk)]
   ·have hb:(g == k)=false:=beq_eq_false_iff_ne.mpr h
    simp only [List.lookup,hb,if_neg (fun e:g=f=>h (e.trans hk.symm))]
  ·rw [if_neg hk]
   by_cases h:g=k
   ·have hb:(g == k)=true:=beq_iff_eq.mpr h
    simp only [List.lookup,hb,if_neg (fun e:g=f=>hk (h.symm.trans e))]
   ·have hb:(g == k)=false:=beq_eq_false_iff_ne.mpr h
    simp only [List.lookup,hb]
    exact ih
theorem yO (f:Str) (v:V):∀ fs:List (Str×V),f∈(cL f v fs).map (·.1)/\∀ g,g∈fs.map (·.1)->g∈(cL f v fs).map (·.1)
 | []=>⟨by simp [cL],fun g h=>by simp at h⟩
 | (k,x) :: r=>by
  obtain ⟨i1,i2⟩:=yO f v r
  rw [show cL f v ((k,x) :: r)=(if k=f then (k,v) :: r else (k,x) :: cL f v r) from rfl]
  by_cases hk:k=f
  ·rw [if_pos hk]
   subst hk
   exact ⟨by simp,fun g h=>by simpa using h⟩
  ·rw [if_neg hk]
   refine ⟨?_,fun g h=>?_⟩
   ·rw [List.map_cons]
    exact List.mem_cons_of_mem _ i1
   ·rw [List.map_cons] at h ⊢
    rcases List.mem_cons.mp h with e | e
    ·exact List.mem_cons.mpr (.inl e)
    ·exact List.mem_cons_of_mem _ (i2 g e)
theorem Ad (f:Str) (v:V):∀ fs:List (Str×V),(cL f v fs).length<=fs.length+1
 | []=>by simp [cL]
 | (k,x) :: r=>by
  have ih:=Ad f v r
  rw [show cL f v ((k,x) :: r)=(if k=f then (k,v) :: r else (k,x) :: cL f v r) from rfl]
  by_cases hk:k=f
  ·rw [if_pos hk,List.length_cons,List.length_cons];omega
  ·rw [if_neg hk,List.length_cons,List.length_cons];omega
theorem tM.some_of {o:Option Value} (r:tM (some v) o):∃ u,o=some u/\bR v u:=by
 cases o with
 | none=>exact (show False from r).elim
 | some u=>exact ⟨u,rfl,r⟩
theorem tM.none_of {o:Option Value} (r:tM none o):o=none:=by
 cases o with
 | none=>rfl
 | some u=>exact (show False from r).elim
theorem Yk (r:bR v u):PySem.W.handedIn u=true:=by
 cases v with
 | non=>cases (show u=Value.none from r);rfl
 | bl b=>cases (show u=Value.bool b from r);rfl
 | int i=>obtain ⟨t,e⟩:=(show ∃ t,u=Value.int i t from r);cases e;rfl
 | str x=>obtain ⟨t,e⟩:=(show ∃ t,u=Value.str x t from r);cases e;rfl
 | byt b=>obtain ⟨t,e⟩:=(show ∃ t,u=Value.bytes b t from r);cases e;rfl
 | flt b=>obtain ⟨t,e⟩:=(show ∃ t,u=Value.float b t from r);cases e;rfl
 | ref a=>cases (show u=Value.ref a from r);rfl
 | ty n=>cases (show u=Value.type n from r);rfl
section
variable {P:Program} {w:World} {H H':Hp} {h h':Heap} {a C dx:Addr} {fs fs':List (Str×V)}
theorem Bz (hok:HOk P w H h) (e:H a=some (.ins C dx fs)):∃ mA,Qo h a dx C mA/\(∀ f,tM (fs.lookup f) (mA f))/\PySem.Within mA (fs.map (·.1))/\fs.length<=1000/\H dx=some (.own a):=by
 obtain ⟨d,z,ne,ob,mA,n,r,q⟩:=(show dE P w H h a (.ins C dx fs) from hok a _ e)
 exact ⟨mA,⟨ob,n,ne⟩,r,q,z,d⟩
end
structure Cls (K:PySem.W.Frag) (C:Addr):Prop where
 pg:PySem.W.plainGet K C Str.empty=true
 hd:PySem.W.hasDictIn K C=true
 po:PySem.W.plainOver K C=true
 sa:PySem.W.findIn K (.ref C) "__setattr__" = some (some (.builtin "object.__setattr__"))
theorem Cls.get (c:Cls K C) (f:Str):PySem.W.plainGet K C f=true:=c.pg
noncomputable def jW (K:PySem.W.Frag) (C:Addr) (f:Str):Prop:=PySem.W.findIn K (.ref C) f=some none
theorem jW.taker {f:Str} (n:jW K C f):PySem.W.takerIn K C f=some none:=by
 unfold PySem.W.takerIn
 rw [show PySem.W.findIn K (.ref C) f=some none from n]
 rfl
structure Zi (K:PySem.W.Frag) (C:Addr) (m:Str) (f:Addr):Prop where
 at_:PySem.W.findIn K (.ref C) m=some (some (.ref f))
 fn:PySem.W.isFn K (.ref f)=true
 kp:PySem.W.keepIn K (.ref f)=true
section
variable {X:Cx} {pins:List (Addr×Obj)} {σ:St} {H:Hp} {s:Shared} {a C dx:Addr} {fs:List (Str×V)} {f:Str} {v:V} {A:Around} {E:Value->Shared->Prop}
theorem Ts {b:Bool} (I:Inv X pins σ H s) (e:H a=some (.ins C dx fs)) (c:Cls X.K C) (n:jW X.K C f) (l:fs.lookup f=some v)
  (h:∀ u s',Inv X pins σ H s'->bR v u->Q u s'):wpAny (model X.prog X.w) A (getAttr (.ref a) f b) Q E s:=by
 obtain ⟨mA,O,r,_,_,_⟩:=Bz I.hok e
 obtain ⟨u,hu,ru⟩:=tM.some_of (v:=v) (o:=mA f) (by rw [← l];exact r f)
 exact get_map I.kIn O (c.get f) c.hd n hu (Yk ru) (h u _ (I.tok _) ru)
theorem Es {m:Str} {g:Addr} {Q:Value×List Value->Shared->Prop} (I:Inv X pins σ H s) (e:H a=some (.ins C dx fs)) (c:Cls X.K C) (k:Zi X.K C m g) (l:fs.lookup m=none)
  (h:Q (.ref g,[.ref a]) s):wpAny (model X.prog X.w) A (getMethod (.ref a) m pl) Q E s:=by
 obtain ⟨mA,O,r,_,_,_⟩:=Bz I.hok e
 have hn:mA m=none:=tM.none_of (by rw [← l];exact r m)
 exact jZY I.kIn O (c.get m) k.at_ k.fn hn h
theorem Rv {Q:Unit->Shared->Prop} (I:Inv X pins σ H s) (e:H a=some (.ins C dx fs)) (c:Cls X.K C) (n:jW X.K C f) (hl:fs.length < 1000) (ry:bR y u)
  (h:∀ s',Inv X pins σ (upd H a (.ins C dx (cL f y fs))) s'->Q () s'):wpAny (model X.prog X.w) A (setAttr (.ref a) f u) Q E s:=by
 obtain ⟨mA,O,r,wi,_,ho⟩:=Bz I.hok e
 have hz:(fs.map (·.1)).length<=sizeLine:=by rw [List.length_map,sizeLine_eq];omega
 refine set_map I.kIn O c.sa c.po n.taker c.hd wi hz fun h' O' sb=>h _ ?_
 have hd:∃ o,h'.get? dx=some o:=let ⟨o,_,_,e',_⟩:=O'.ns;⟨o,e'⟩
 refine I.write (x:=a) (e:=dx) (by rw [e];exact True.intro) (.inr ho) (fun b q hb z=>(sb.2 b hb).trans z) hd ?_
 refine ⟨by rw [aR O.ne];exact ho,?_,O.ne,O'.obj,_,O'.ns,fun g=>?_,fun g hg=>?_⟩
 ·have:=Ad f y fs;omega
 ·show tM ((cL f y fs).lookup g) (if g=f then some u else mA g)
  rw [fC]
  by_cases q:g=f
  ·rw [if_pos q,if_pos q];exact ry
  ·rw [if_neg q,if_neg q];exact r g
 ·by_cases q:g=f
  ·rw [q];exact (yO f y fs).1
  ·refine (yO f y fs).2 g (wi g fun z=>hg ?_)
   show (if g=f then some u else mA g)=none
   rw [if_neg q];exact z
theorem Inv.made (I:Inv X pins σ H s):Inv X pins σ (upd (upd H s.heap.objs.size (.own (s.heap.objs.size+1))) (s.heap.objs.size+1) (.ins C s.heap.objs.size []))
  { s with heap:=(s.heap.push PySem.W.emptyDict).push (PySem.W.instObj C s.heap.objs.size) }:=by
 have e1:(s.heap.push PySem.W.emptyDict).get? s.heap.objs.size=some PySem.W.emptyDict:=Heap.get?_push_size s.heap rfl
 have e2:((s.heap.push PySem.W.emptyDict).push (PySem.W.instObj C s.heap.objs.size)).get? (s.heap.objs.size+1)=some (PySem.W.instObj C s.heap.objs.size):=by
  have:=Heap.get?_push_size (s.heap.push PySem.W.emptyDict) (o:=PySem.W.instObj C s.heap.objs.size) rfl
  rwa [Heap.size_push] at this
 have e3:(s.heap.push PySem.W.emptyDict).Ns s.heap.objs.size (fun _=>none):=⟨PySem.W.emptyDict,#[],_,e1,rfl,(fun e he=>absurd he (by simp)),fun _=>rfl⟩
 have I1:=I.laid (a:=s.heap.objs.size) (o:=.own (s.heap.objs.size+1)) (h':=s.heap.push PySem.W.emptyDict) (t':=s.toks) (fun b u q=>Heap.get?_push_of_some _ q) (Nat.le_refl _) ⟨_,e1⟩
 refine I1.laid (a:=s.heap.objs.size+1) (o:=.ins C s.heap.objs.size []) (t':=s.toks) (fun b u q=>Heap.get?_push_of_some _ q) (Nat.le_of_eq (Heap.size_push _ _)) ?_
 have ne:s.heap.objs.size≠s.heap.objs.size+1:=Nat.ne_of_lt (Nat.lt_succ_self _)
 refine ⟨by rw [aR ne,aD],Nat.zero_le _,ne,e2,fun _=>none,(Heap.Ns1.of_empty e3).at fun o q=>Heap.get?_push_of_some _ q,fun _=>True.intro,fun y hy=>absurd rfl hy⟩
theorem attr_of {prog:Program} {w:World} {env:Env} {f:Str} {s:Shared} (hb:attributeBase e f env (eval e env)=eval e env)
  (h:wpAny (model prog w) A (eval e env) (fun o s₁=>wpAny (model prog w) A (getAttr o f true) Q E s₁) E s):wpAny (model prog w) A (eval (.Attribute e f pos) env) Q E s :=
 Attribute_any_ h (by rw [arm_eval_Attribute,hb])
end
noncomputable def dC (K:PySem.W.Frag) (ta:TE) (f:Str):TE:=fun σ H Q=>ta σ H fun x H1=>exR x fun a=>∃ C dx fs v,H1 a=some (.ins C dx fs)/\Cls K C/\jW K C f/\fs.lookup f=some v/\Q v H1
noncomputable def vE (K:PySem.W.Frag) (ta tv:TE) (f:Str):TS:=fun D σ H=>tv σ H fun y H1=>ta σ H1 fun x H2=>exR x fun a=>∃ C dx fs,H2 a=some (.ins C dx fs)/\Cls K C/\jW K C f/\fs.length < 1000 /\
 D.nx σ (upd H2 a (.ins C dx (cL f y fs)))
section
variable {X:Cx} {o e value:Expr} {f:Str} {pos pos' tpos:Pos} {ta tv:TE}
theorem cM (he:PE X e ta) (hb:attributeBase e f X.env (eval e X.env)=eval e X.env):PE X (.Attribute e f pos) (dC X.K ta f):=by
 intro pins s σ H Q I h
 refine attr_of hb (thn (he pins s σ H _ I h) fun u s1 ⟨x,H1,I1,rx,q0⟩=>?_)
 obtain ⟨a,ex,C,dx,fs,v,ea,c,n,l,q⟩:=Eq.mp dL q0
 subst ex
 obtain rfl:u=Value.ref a:=rx
 exact Ts I1 ea c n l fun u' s2 I2 ru=>⟨v,H1,I2,ru,q⟩
theorem uN (ha:PE X o ta) (hv:PE X value tv) (hs:swapsWith value (some (.Attribute o f pos')) pos.line X.env=pure false):PS X (.Assign [.Attribute o f pos'] value pos) (vE X.K ta tv f):=by
 intro pins s σ H D I h
 refine plainObj_wpAny_Assign_Attribute (thn (hv pins s σ H _ I h) fun u s1 ⟨y,H1,I1,ry,q⟩=>thn (ha pins s1 σ H1 _ I1 q) fun ov s2 ⟨x,H2,I2,rx,q0⟩=>?_) hs
 obtain ⟨a,ex,C,dx,fs,ea,c,n,l,q2⟩:=Eq.mp dL q0
 subst ex
 obtain rfl:ov=Value.ref a:=rx
 exact Rv I2 ea c n l ry fun s3 I3=>⟨σ,_,I3,q2⟩
end
section
variable {X:Cx} {pins:List (Addr×Obj)} {σ:St} {H:Hp} {s:Shared} {A:Around} {E:Value->Shared->Prop} {Q:Value->Shared->Prop} {c:Value} {b:Bool}
inductive Ap (K:PySem.W.Frag) (H:Hp):V->Value->Prop where
 | non:Ap K H .non (.type "NoneType")
 | bl (x:Bool):Ap K H (.bl x) (.type "bool")
 | int (i:Int):Ap K H (.int i) (.type "int")
 | str (x:Str):Ap K H (.str x) (.type "str")
 | flt (x:UInt64):Ap K H (.flt x) (.type "float")
 | lst {a:Addr} {xs:List V} (e:H a=some (.lst xs)):Ap K H (.ref a) (.type "list")
 | frz {a:Addr} {o:Obj} {xs:List V} (e:H a=some (.frz o (.lst xs))):Ap K H (.ref a) (.type "list")
 | tup {a:Addr} {xs:List V} (e:H a=some (.tup xs)):Ap K H (.ref a) (.type "tuple")
 | dK {a:Addr} {kvs:List (Key×V)} (e:H a=some (.dK kvs)):Ap K H (.ref a) (.type "dict")
 | dT {a:Addr} {kvs:List (List Key×V)} (e:H a=some (.dT kvs)):Ap K H (.ref a) (.type "dict")
 | ins {a C dx:Addr} {fs:List (Str×V)} (e:H a=some (.ins C dx fs)) (cl:Cls K C) (ha:PySem.W.findIn K (.ref C) "__class__" = some (some (.builtin "object.__class__")))
   (hn:PySem.W.specialIn K (.builtin "object.__class__") "__get__" = some (some (.builtin "getset_descriptor.__get__"))) (htk:PySem.W.takesIn K (.builtin "object.__class__")=some true)
   (hm:PySem.W.mroIn K C (.type "object")=some true):Ap K H (.ref a) (.ref C)
theorem nU {x:V} {t:Value} (I:Inv X pins σ H s) (rx:bR x u) (ty:Ap X.K H x t) (e:PySem.W.kitOne X.K t c=some b) (h:∀ tk,Q (.bool b) { s with toks:=tk }) :
  wpAny (model X.prog X.w) A (call (.builtin "isinstance") [u,c]) Q E s:=by
 cases ty with
 | non=>cases (show u=Value.none from rx);exact PySem.W.kia_one PySem.W.kitx_none I.kIn True.intro e (fun z=>nomatch z) h
 | bl y=>cases (show u=Value.bool y from rx);exact PySem.W.kia_one PySem.W.kitx_bool I.kIn True.intro e (fun z=>nomatch z) h
 | int i=>obtain ⟨t,q⟩:=(show ∃ t,u=Value.int i t from rx);cases q;exact PySem.W.kia_one PySem.W.kitx_int I.kIn True.intro e (fun z=>nomatch z) h
 | str y=>obtain ⟨t,q⟩:=(show ∃ t,u=Value.str y t from rx);cases q;exact PySem.W.kia_one PySem.W.kitx_str I.kIn True.intro e (fun z=>nomatch z) h
 | flt y=>obtain ⟨t,q⟩:=(show ∃ t,u=Value.float y t from rx);cases q;exact PySem.W.kia_one PySem.W.kitx_float I.kIn True.intro e (fun z=>nomatch z) h
 | @lst a xs ea =>
  cases (show u=Value.ref a from rx)
  obtain ⟨_,_,n,_,h1⟩:=(show dE X.prog X.w H s.heap a (.lst xs) from I.hok a _ ea)
  exact PySem.W.kia_one PySem.W.kitx_list I.kIn ⟨_,h1,rfl⟩ e (fun z=>nomatch z) h
 | @frz a ob xs ea =>
  cases (show u=Value.ref a from rx)
  obtain ⟨_,_,_,n,_,h1⟩:=(show dE X.prog X.w H s.heap a (.frz ob (.lst xs)) from I.hok a _ ea)
  exact PySem.W.kia_one PySem.W.kitx_list I.kIn ⟨_,h1,rfl⟩ e (fun z=>nomatch z) h
 | @tup a xs ea =>
  cases (show u=Value.ref a from rx)
  obtain ⟨_,_,_,p⟩:=(show dE X.prog X.w H s.heap a (.tup xs) from I.hok a _ ea)
  obtain ⟨o,h1,h2,_⟩:=p
  exact PySem.W.kia_one PySem.W.kitx_tuple I.kIn ⟨o,h1,h2⟩ e (fun z=>nomatch z) h
 | @dK a kvs ea =>
  cases (show u=Value.ref a from rx)
  obtain ⟨_,_,vs,_,p⟩:=(show dE X.prog X.w H s.heap a (.dK kvs) from I.hok a _ ea)
  obtain ⟨o,es,ep,h1,h2,_⟩:=p
  exact PySem.W.kia_one PySem.W.kitx_dict I.kIn ⟨o,h1,h2.1⟩ e (fun z=>nomatch z) h
 | @dT a kvs ea =>
  cases (show u=Value.ref a from rx)
  obtain ⟨_,_,xs,_,o,es,ep,h1,h2,_⟩:=(show dE X.prog X.w H s.heap a (.dT kvs) from I.hok a _ ea)
  exact PySem.W.kia_one PySem.W.kitx_dict I.kIn ⟨o,h1,h2.1⟩ e (fun z=>nomatch z) h
 | @ins a C dx fs ea cl ha hn htk hm =>
  cases (show u=Value.ref a from rx)
  obtain ⟨mA,O,_⟩:=Bz I.hok ea
  obtain ⟨od,J,_⟩:=O.look
  exact PySem.W.kia_one (PySem.W.kitx_own (cl.get _) cl.hd ha hn htk hm) I.kIn J e (fun z=>nomatch z) h
end
structure eX (k:Nat) (A:Around):Prop where
 hd:A.handled=none
 dp:A.depth+3 * k+5 < recursionLimit
 un:A.units+16 * k+200 < cLine
theorem eX.mono {j:Nat} (r:eX k A) (h:j<=k):eX j A:=⟨r.hd,by have:=r.dp;omega,by have:=r.un;omega⟩
theorem eX.deeper (r:eX (k+1) A) (env:Env):eX k (A.deeper env) :=
 ⟨r.hd,by have:=r.dp;show A.depth+1+3 * k+5 < _;omega,by have:=r.un;show A.units+3+16 * k+200 < _;omega⟩
theorem Tf:(A.under (.builtin "type.__call__" ⟨.ref C :: us,kw⟩)).depth=A.depth+1:=by
 first | rfl | simp [Around.under,Code.weight,Code.isCreation,Code.isGuard,Code.isCaller,Code.frames,Code.isFrame,guardIds]
theorem Td:(A.under (.builtin "type.__call__" ⟨.ref C :: us,kw⟩)).units=A.units+1:=by
 first | rfl | simp [Around.under,Code.cUnits,Code.frames,Code.isFrame]
theorem eX.make (r:eX (k+1) A) (C:Addr) (us:List Value) (kw:List (Str×Value)):eX k (A.under (.builtin "type.__call__" ⟨.ref C :: us,kw⟩)) :=
 ⟨r.hd,by have:=r.dp;rw [Tf];omega,by have:=r.un;rw [Td];omega⟩
theorem eX.depth (r:eX k A):A.depth < recursionLimit:=by have:=r.dp;omega
theorem eX.units (r:eX k A):A.units+64 < cLine:=by have:=r.un;omega
noncomputable def aK:TA:=fun _ H Q=>Q [] H
noncomputable def aC (ta:TE) (tr:TA):TA:=fun σ H Q=>ta σ H fun x H1=>tr σ H1 fun xs H2=>Q (x :: xs) H2
section
variable {X:Cx} {e:Expr} {es:List Expr} {te:TE} {t:TA} {pos:Pos}
theorem aE:PA X [] aK:=fun _ _ _ _ H Q I h=>Calls.spliced_nil ⟨[],H,I,.nil,h⟩
theorem aA (ha:PE X e te) (hr:PA X es t) (hs:starEach (e :: es) X.env=(false,eval e X.env) :: starEach es X.env:=by rfl):PA X (e :: es) (aC te t):=by
 intro pos pins s σ H Q I h
 rw [hs]
 show wpAny _ _ (spliced ((false,eval e X.env) :: backTo pos (starEach es X.env))) _ _ s
 refine Calls.spliced_cons (thn (ha pins s σ H _ I h) fun u s1 ⟨x,H1,I1,r1,q1⟩=>?_)
 exact thn (hr pos pins s1 σ H1 _ I1 q1) fun us s2 ⟨xs,H2,I2,r2,q2⟩=>⟨x :: xs,H2,I2,.cons r1 r2,q2⟩
noncomputable def dS (t:TA):TE:=fun σ H Q=>t σ H fun xs H1=>xs.length<=sizeLine/\∀ p,H1 p=none->Q (.ref p) (upd H1 p (.tup xs))
noncomputable def lU (t:TA):TE:=fun σ H Q=>t σ H fun xs H1=>xs.length<=sizeLine/\∀ p,H1 p=none->Q (.ref p) (upd H1 p (.lst xs))
theorem bV {x1} (h:PA X es t):PE X (.Tuple es x1 pos) (dS t):=by
 intro pins s σ H Q I hq
 refine wpAny_Tuple_spliced (thn (h pos pins s σ H _ I hq) fun us s1 ⟨xs,H1,I1,r,z,q⟩=>⟨by rw [← r.length];exact z,?_⟩)
 have hf:H1 s1.heap.objs.size=none:=I1.hok.fresh (Nat.le_refl _)
 refine ⟨.ref s1.heap.objs.size,upd H1 s1.heap.objs.size (.tup xs),I1.laid (t':=s1.toks) (fun b u e=>Heap.get?_push_of_some _ e) (Nat.le_refl _) ?_,rfl,q _ hf⟩
 exact ⟨z,us,r,⟨_,Heap.get?_push_size _ rfl,rfl,_,rfl⟩⟩
theorem fT (h:PA X es t):PE X (.List es pos) (lU t):=by
 intro pins s σ H Q I hq
 refine wpAny_List_spliced (thn (h pos pins s σ H _ I hq) fun us s1 ⟨xs,H1,I1,r,z,q⟩=>⟨by rw [← r.length];exact z,?_⟩)
 have hf:H1 s1.heap.objs.size=none:=I1.hok.fresh (Nat.le_refl _)
 refine ⟨.ref s1.heap.objs.size,upd H1 s1.heap.objs.size (.lst xs),I1.laid (t':=s1.toks) (fun b u e=>Heap.get?_push_of_some _ e) (Nat.le_refl _) ?_,rfl,q _ hf⟩
 exact ⟨z,us,0,r,Heap.get?_push_size _ rfl⟩
end
noncomputable abbrev Sp:=List V->Hp->VK->XK->Prop
noncomputable abbrev CXT:=List Env->Hp->Shared->XK->Value->Shared->Prop
structure Qp (P:Program) (w:World) (K:PySem.W.Frag) (mg:Str->Option Value) (base:Heap) (A:Around) (outer:List Env) (s:Shared) (H:Hp):Prop where
 frames:A.frames=some outer
 mod:Mod K mg base
 bs:∀ b o,base.get? b=some o->s.heap.get? b=some o/\H b=none
 bsz:base.objs.size<=s.heap.objs.size
 funs:s.heap.FunFrames base outer
 frf:∀ b∈frs outer,H b=none
 hok:HOk P w H s.heap
 bare:AllBare s.gens
noncomputable def CE (outer:List Env) (P:Program) (w:World) (H:Hp) (s:Shared) (Q:VK) (u:Value) (s':Shared):Prop :=
 ∃ v H',s'.os=s.os/\AllBare s'.gens/\Un (frs outer) [] H H' s.heap s'.heap/\HOk P w H' s'.heap/\bR v u/\Q v H'
noncomputable def CR (CX:CXT) (outer:List Env) (P:Program) (w:World) (H:Hp) (s:Shared) (Q:VK) (E:XK) (r:Result) (s':Shared):Prop :=
 match r with
 | .ok (.ret u)=>CE outer P w H s Q u s'
 | .ok _=>False
 | .error e=>CX outer H s E e s'
structure oZ (P:Program) (w:World) (K:PySem.W.Frag) (mg:Str->Option Value) (base:Heap) (CX:CXT) (k:Nat) (f:Addr) (fd:FuncData) (ps:List Str) (sp:Sp):Prop where
 len:∀ vs H Q E,sp vs H Q E->vs.length=ps.length
 run:∀ (A:Around) (outer:List Env) (s:Shared) (H:Hp) (args:Args) (us:List Value) (vs:List V) (Q:VK) (E:XK),eX k A->Qp P w K mg base A outer s H->BindsTo s fd args (ps.zip us)->bO vs us->sp vs H Q E ->
  codeAny (model P w) A (.call (.ref f) args) (CR CX outer P w H s Q E) s
theorem Qp.make {w:World} {outer:List Env} (e:Qp P w K mg base A outer s H) (C:Addr) (us:List Value) (kw:List (Str×Value)) :
  Qp P w K mg base (A.under (.builtin "type.__call__" ⟨.ref C :: us,kw⟩)) outer s H:=⟨by first | exact e.frames | (simpa [Around.under,Code.envs,Code.isFrame,pushEnvs] using e.frames),e.mod,e.bs,e.bsz,e.funs,e.frf,e.hok,e.bare⟩
section
variable {X:Cx} {pins:List (Addr×Obj)} {σ:St} {H:Hp} {s s':Shared}
theorem Inv.env0 (I:Inv X pins σ H s):Qp X.prog X.w X.K X.mg X.base X.A X.stack s H :=
 ⟨I.ok.frames,I.ok.mod,I.bs,Nat.le_trans I.ok.bsz I.sz,I.stack,I.stkFree,I.hok,I.bare⟩
theorem Inv.after {Q:VK} (I:Inv X pins σ H s) (h:CE X.stack X.prog X.w H s Q u s'):EP X pins σ Q u s':=by
 obtain ⟨v,H',os,bare,un,hok,r,q⟩:=h
 obtain ⟨hh,g,d,t,os'⟩:=s'
 obtain rfl:os'=s.os:=os
 exact ⟨v,H',I.call (h':=hh) (g':=g) (d':=d) (t':=t) (ch:=[]) un hok bare (fun b z=>absurd z (by simp)),r,q⟩
end
noncomputable def aO (sp:Sp) (dvs:List V) (E:XK) (t:TA):TE:=fun σ H Q=>t σ H fun vs H1=>sp (vs ++ dvs) H1 Q E
noncomputable def cS (C:Addr) (m:Str) (sp:Sp) (dvs:List V) (E:XK) (ta:TE) (t:TA):TE:=fun σ H Q=>ta σ H fun x H1=>exR x fun a=>∃ dx fs,H1 a=some (.ins C dx fs)/\fs.lookup m=none /\
 t σ H1 fun vs H2=>sp (x :: (vs ++ dvs)) H2 Q E
noncomputable def Gw (C:Addr) (sp:Sp) (dvs:List V) (E:XK) (t:TA):TE:=fun σ H Q=>t σ H fun vs H1=>∀ x dx,H1 x=none->H1 dx=none->dx≠x ->
 sp (.ref x :: (vs ++ dvs)) (upd (upd H1 dx (.own x)) x (.ins C dx [])) (fun v H2=>v=.non/\Q (.ref x) H2) E
noncomputable def jZ (K:PySem.W.Frag) (fd:FuncData) (ps:List Str) (ds:List Value):Prop :=
 ∀ (s:Shared) (us:List Value),K.In s.heap->(us ++ ds).length=ps.length->BindsTo s fd ⟨us,[]⟩ (ps.zip (us ++ ds))
theorem jZ.all {fd:FuncData} (h:∀ us:List Value,us.length=ps.length->bindArgs fd ⟨us,[]⟩=pure (ps.zip us)):jZ K fd ps []:=fun s us _ hl=>by
 rw [List.append_nil] at hl ⊢
 exact .of_eq (h us hl)
noncomputable def qY (CX:CXT) (X:Cx) (E:XK):Prop:=∀ (pins:List (Addr×Obj)) (σ:St) (H:Hp) (s:Shared) (e:Value) (s':Shared),Inv X pins σ H s->CX X.stack H s E e s'->X.xe e s'
section
variable {X:Cx} {CX:CXT} {k:Nat} {f C:Addr} {fd:FuncData} {ps:List Str} {sp:Sp} {dvs:List V} {ds:List Value} {E:XK} {x m:Str} {p pos apos:Pos} {e o:Expr} {es:List Expr} {ta:TE} {t:TA}
theorem Ra {Q:VK} (F:oZ X.prog X.w X.K X.mg X.base CX k f fd ps sp) (hr:eX k X.A) (hb:jZ X.K fd ps ds) (hd:bO dvs ds) (hx:qY CX X E)
  (I:Inv X pins σ H s) (r:bO vs us) (h:sp (vs ++ dvs) H Q E):wpAny (model X.prog X.w) X.A (call (.ref f) us) (EP X pins σ Q) X.xe s:=by
 have r2:bO (vs ++ dvs) (us ++ ds):=r.append hd
 have hl:(us ++ ds).length=ps.length:=by rw [← r2.length];exact F.len _ _ _ _ h
 refine wpAny_call (codeAny_mono (F.run X.A X.stack s H ⟨us,[]⟩ (us ++ ds) (vs ++ dvs) Q E hr I.env0 (hb s us I.kIn hl) r2 h) fun r s' hq=>?_)
 cases r with
 | error e=>exact hx pins σ H s e s' I hq
 | ok fl =>
  cases fl with
  | ret u=>exact I.after hq
  | next=>exact False.elim hq
  | brk=>exact False.elim hq
  | cont=>exact False.elim hq
theorem Uy (F:oZ X.prog X.w X.K X.mg X.base CX k f fd ps sp) (hr:eX k X.A) (hg:Gl X x) (hm:X.mg x=some (.ref f)) (hk:PySem.W.keepIn X.K (.ref f)=true) (hb:jZ X.K fd ps ds) (hd:bO dvs ds) (hx:qY CX X E)
  (ha:PA X (e :: es) t) (hdb:(x == ("__debug__" : Str))=false:=by decide) (he:starEach (e :: es) X.env=(false,eval e X.env) :: starEach es X.env:=by rfl) (hpl:(backTo pos (starEach es X.env)).any (·.1)=false:=by rfl) :
  PE X (.Call (.Name x p) (e :: es) [] pos) (aO sp dvs E t):=by
 intro pins s σ H Q I h
 refine wpAny_Call_Name_kw (sU I hg hm ?_ hdb)
 refine PySem.W.callWith_K (h₀:=X.base) I.ok.mod.kin hk (thn (ha pos pins s σ H _ I h) fun us s1 ⟨vs,H1,I1,r,q⟩=>⟨I1.kIn,?_⟩) he hpl
 exact Ra F hr hb hd hx I1 r q
theorem pe_meth (he:PE X o ta) (c:Cls X.K C) (hm:Zi X.K C m f) (F:oZ X.prog X.w X.K X.mg X.base CX k f fd ps sp) (hr:eX k X.A) (hb:jZ X.K fd ps ds) (hd:bO dvs ds) (hx:qY CX X E) (ha:PA X (e :: es) t)
  (hst:starEach (e :: es) X.env=(false,eval e X.env) :: starEach es X.env:=by rfl) (hpl:(backTo pos (starEach es X.env)).any (·.1)=false:=by rfl)
  (ht:eval (.Call (.Attribute o m apos) (e :: es) [] pos) X.env=(do
   let ov ← eval o X.env
   standAt apos.atName
   let (f,first) ← holding [ov] (getMethod ov m pl)
   callWith pos f first (backTo pos (starEach (e :: es) X.env)) (backToKw pos (keywordEach [] X.env))):=by rfl) :
  PE X (.Call (.Attribute o m apos) (e :: es) [] pos) (cS C m sp dvs E ta t):=by
 intro pins s σ H Q I h
 refine PySem.W.methodCall_KW (pl:=pl) (thn (he pins s σ H _ I h) fun u s1 ⟨x,H1,I1,rx,q0⟩=>?_) ht
 obtain ⟨a,ex,dx,fs,ea,l,q⟩:=Eq.mp dL q0
 subst ex
 obtain rfl:u=Value.ref a:=rx
 refine Es I1 ea c hm l ?_
 refine PySem.W.callWith_K (first:=[.ref a]) (h₀:=X.base) I.ok.mod.kin hm.kp (thn (ha pos pins s1 σ H1 _ I1 q) fun us s2 ⟨vs,H2,I2,r,q2⟩=>⟨I2.kIn,?_⟩) hst hpl
 exact Ra (us:=.ref a :: us) (vs:=.ref a :: vs) F hr hb hd hx I2 (.cons rfl r) q2
theorem jJo (he:PE X o ta) (c:Cls X.K C) (hm:Zi X.K C m f) (F:oZ X.prog X.w X.K X.mg X.base CX k f fd ps sp) (hr:eX k X.A) (hb:jZ X.K fd ps ds) (hd:bO dvs ds) (hx:qY CX X E)
  (ht:eval (.Call (.Attribute o m apos) [] [] pos) X.env=(do
   let ov ← eval o X.env
   standAt apos.atName
   let (f,first) ← holding [ov] (getMethod ov m pl)
   callWith pos f first (backTo pos (starEach [] X.env)) (backToKw pos (keywordEach [] X.env))):=by rfl) :
  PE X (.Call (.Attribute o m apos) [] [] pos) (cS C m sp dvs E ta aK):=by
 intro pins s σ H Q I h
 refine PySem.W.methodCall_KW (pl:=pl) (thn (he pins s σ H _ I h) fun u s1 ⟨x,H1,I1,rx,q0⟩=>?_) ht
 obtain ⟨a,ex,dx,fs,ea,l,q⟩:=Eq.mp dL q0
 subst ex
 obtain rfl:u=Value.ref a:=rx
 refine Es I1 ea c hm l ?_
 exact PySem.W.callWith_K0 (first:=[.ref a]) I1.kIn hm.kp (Ra (us:=[.ref a]) (vs:=[.ref a]) F hr hb hd hx I1 (.cons rfl .nil) q)
structure Mk (K:PySem.W.Frag) (C f:Addr):Prop where
 makes:PySem.W.makesIn K C=true
 init:PySem.W.findIn K (.ref C) "__init__" = some (some (.ref f))
 fn:PySem.W.isFn K (.ref f)=true
 kp:PySem.W.keepIn K (.ref C)=true
theorem jJQ {Q:VK} (M:Mk X.K C f) (F:oZ X.prog X.w X.K X.mg X.base CX k f fd ps sp) (hr:eX (k+1) X.A) (hb:jZ X.K fd ps ds) (hd:bO dvs ds)
  (hx:qY CX X E) (I:Inv X pins σ H s) (r:bO vs us)
  (h:∀ x dx,H x=none->H dx=none->dx≠x->sp (.ref x :: (vs ++ dvs)) (upd (upd H dx (.own x)) x (.ins C dx [])) (fun v H2=>v=.non/\Q (.ref x) H2) E) :
  wpAny (model X.prog X.w) X.A (call (.ref C) us) (EP X pins σ Q) X.xe s:=by
 have hq:=h (s.heap.objs.size+1) s.heap.objs.size (I.hok.fresh (Nat.le_succ _)) (I.hok.fresh (Nat.le_refl _)) (Nat.ne_of_lt (Nat.lt_succ_self _))
 have I2:=Inv.made (C:=C) I
 have r2:bO (V.ref (s.heap.objs.size+1) :: (vs ++ dvs)) (Value.ref (s.heap.objs.size+1) :: (us ++ ds)):=.cons rfl (r.append hd)
 have hl:(Value.ref (s.heap.objs.size+1) :: us ++ ds).length=ps.length:=by
  have e:=r2.length
  rw [F.len _ _ _ _ hq] at e
  exact e.symm
 refine wpAny_call (jJx (f:=f) I.kIn M.makes M.init (beq_iff_eq.mp M.fn) (codeAny_mono (F.run _ X.stack _ _ ⟨Value.ref (s.heap.objs.size+1) :: us,[]⟩ (Value.ref (s.heap.objs.size+1) :: (us ++ ds)) _ _ E (hr.make C us [])
  (I2.env0.make C us []) (hb _ (Value.ref (s.heap.objs.size+1) :: us) I2.kIn hl) r2 hq) fun r s' hq'=>?_))
 cases r with
 | error e=>exact hx pins σ _ _ e s' I2 hq'
 | ok fl =>
  cases fl with
  | ret u =>
   obtain ⟨v,H',I3,rv,ev,q3⟩:=I2.after hq'
   subst ev
   exact ⟨rv,⟨V.ref (s.heap.objs.size+1),H',I3,rfl,q3⟩⟩
  | next=>exact False.elim hq'
  | brk=>exact False.elim hq'
  | cont=>exact False.elim hq'
theorem pe_make (M:Mk X.K C f) (F:oZ X.prog X.w X.K X.mg X.base CX k f fd ps sp) (hr:eX (k+1) X.A) (hg:Gl X x) (hm:X.mg x=some (.ref C)) (hb:jZ X.K fd ps ds) (hd:bO dvs ds) (hx:qY CX X E)
  (ha:PA X (e :: es) t) (hdb:(x == ("__debug__" : Str))=false:=by decide) (he:starEach (e :: es) X.env=(false,eval e X.env) :: starEach es X.env:=by rfl) (hpl:(backTo pos (starEach es X.env)).any (·.1)=false:=by rfl) :
  PE X (.Call (.Name x p) (e :: es) [] pos) (Gw C sp dvs E t):=by
 intro pins s σ H Q I h
 refine wpAny_Call_Name_kw (sU I hg hm ?_ hdb)
 refine PySem.W.callWith_K (h₀:=X.base) I.ok.mod.kin M.kp (thn (ha pos pins s σ H _ I h) fun us s1 ⟨vs,H1,I1,r,q⟩=>⟨I1.kIn,?_⟩) he hpl
 exact jJQ M F hr hb hd hx I1 r q
end
structure mD (N P:List Str) (sc:Scope):Prop where
 kind:sc.kind=.function
 co:sc.isCoroutine=false
 gen:sc.isGenerator=false
 nd:N.Nodup
 pre:N.take P.length=P
 par:∀ x∈P,sc.names.lookup x=some .local∨sc.names.lookup x=some .cell
 nofree:∀ y∈sc.names,y.2≠.free
theorem Jc {kindOf:Str->Option NameKind} {x:Str}:∀ {binds:List (Str×Value)} {m:Str->Option Value},(∀ v,(x,v)∉binds)->bindL kindOf binds m x=m x
 | [],_,_=>rfl
 | (n,v) :: r,m,h=>by
  unfold bindL
  rw [Jc fun w hw=>h w (List.mem_cons_of_mem _ hw)]
  split
  ·have:x≠n:=by rintro rfl;exact h v List.mem_cons_self
   simp [this]
  ·rfl
theorem Je {kindOf:Str->Option NameKind} {x:Str}:∀ {binds:List (Str×Value)} {m:Str->Option Value},(∀ v,(x,v)∉binds)->bindC kindOf binds m x=m x
 | [],_,_=>rfl
 | (n,v) :: r,m,h=>by
  unfold bindC
  rw [Je fun w hw=>h w (List.mem_cons_of_mem _ hw)]
  split
  ·rfl
  ·have:x≠n:=by rintro rfl;exact h v List.mem_cons_self
   simp [this]
theorem Jd {kindOf:Str->Option NameKind} {x:Str} {v:Value}:∀ {P:List Str} {vs:List Value} {i:Nat} {m:Str->Option Value},P.Nodup->P[i]?=some x->vs[i]?=some v->kindOf x=some .local ->
  bindL kindOf (P.zip vs) m x=some v
 | [],_,_,_,_,h,_,_=>by simp at h
 | _ :: _,[],_,_,_,_,h,_=>by simp at h
 | p :: P,w :: vs,0,m,nd,h1,h2,hk=>by
  simp at h1 h2;subst h1;subst h2
  show bindL kindOf ((p,w) :: P.zip vs) m p=_
  unfold bindL
  rw [Jc fun v hv=>(List.nodup_cons.mp nd).1 (List.of_mem_zip hv).1,if_pos hk]
  simp
 | p :: P,w :: vs,i+1,m,nd,h1,h2,hk=>by
  show bindL kindOf ((p,w) :: P.zip vs) m x=_
  unfold bindL
  exact Jd (i:=i) (List.nodup_cons.mp nd).2 (by simpa using h1) (by simpa using h2) hk
theorem Jf {kindOf:Str->Option NameKind} {x:Str} {v:Value}:∀ {P:List Str} {vs:List Value} {i:Nat} {m:Str->Option Value},P.Nodup->P[i]?=some x->vs[i]?=some v->kindOf x≠some .local ->
  bindC kindOf (P.zip vs) m x=some v
 | [],_,_,_,_,h,_,_=>by simp at h
 | _ :: _,[],_,_,_,_,h,_=>by simp at h
 | p :: P,w :: vs,0,m,nd,h1,h2,hk=>by
  simp at h1 h2;subst h1;subst h2
  show bindC kindOf ((p,w) :: P.zip vs) m p=_
  unfold bindC
  rw [Je fun v hv=>(List.nodup_cons.mp nd).1 (List.of_mem_zip hv).1,if_neg hk]
  simp
 | p :: P,w :: vs,i+1,m,nd,h1,h2,hk=>by
  show bindC kindOf ((p,w) :: P.zip vs) m x=_
  unfold bindC
  exact Jf (i:=i) (List.nodup_cons.mp nd).2 (by simpa using h1) (by simpa using h2) hk
noncomputable def start (N:List Str) (vs:List V):St:=vs.map some ++ List.replicate (N.length - vs.length) none
noncomputable def oY (CX:CXT) (P:Program) (w:World) (K:PySem.W.Frag) (mg:Str->Option Value) (base:Heap) (N:List Str) (qual:Str) (scope:Scope) (f:Addr) (cd:Value) (A:Around) (outer:List Env) (s:Shared) (H:Hp) (E:XK):Cx where
 prog:=P
 w:=w
 K:=K
 mg:=mg
 base:=base
 A:=A.deeper (envOfC qual scope s.heap.objs.size f cd)
 N:=N
 s₀:=s
 H₀:=H
 env:=envOfC qual scope s.heap.objs.size f cd
 outer:=outer
 stack:=envOfC qual scope s.heap.objs.size f cd :: outer
 ex:=[]
 calm:=true
 fn:=fun _=>true
 pn:=[]
 xe:=fun e s'=>wpAny (model P w) (A.deeper (envOfC qual scope s.heap.objs.size f cd)) (leaving (envOfC qual scope s.heap.objs.size f cd) e) (fun _ s''=>CX outer H s E e s'') (fun e' s''=>CX outer H s E e' s'') s'
theorem Os {sc:Scope} {n:Nat} (h:sc.names.lookup x=some .cell):∃ c,(cellsFrom n sc.names []).lookup x=some c:=by
 have q:=PySem.W.cellsFrom_some sc.names n [] (.inl h)
 exact Option.isSome_iff_exists.mp q
theorem Yi {CX:CXT} {w:World} {qual:Str} {scope:Scope} {f:Addr} {cd:Value} {outer:List Env} {s1:Shared} {E:XK}
  (S:mD N ps scope) (hd:A.handled=none) (e0:Qp P w K mg base A outer s H) (hl:vs.length=ps.length) (r:bO vs us)
  (x:InCallC s s.heap.objs.size (bindL (envOfC qual scope s.heap.objs.size f cd).kindOf (ps.zip us) fun _=>none) (cellsFrom (s.heap.objs.size+1) scope.names []) (bindC (envOfC qual scope s.heap.objs.size f cd).kindOf (ps.zip us) fun _=>none) s1) :
  Inv (oY CX P w K mg base N qual scope f cd A outer s H E) [] (start N vs) H s1:=by
 have hpl:ps.length<=N.length:=by have:=congrArg List.length S.pre;rw [List.length_take] at this;omega
 obtain ⟨h1,tk,rfl,hk⟩:=x.done
 have noA:∀ b:Addr,b∉(oY CX P w K mg base N qual scope f cd A outer s H E).ex:=fun b z=>absurd (show b∈([]:List Addr) from z) (by simp)
 refine ⟨⟨e0.mod,S.kind,rfl,rfl,Nat.le_refl _,fun y z c h1 h2=>?_,fun y hy=>?_,fun y c _ h=>?_,fun _=>hd,Around.frames_deeper e0.frames,.inr ⟨rfl,rfl⟩,fun b z=>absurd z (noA b),e0.bs,e0.bsz,fun b _ _=>noA b,fun b z=>absurd z (noA b),e0.funs,e0.frf⟩,
  rfl,e0.bare,Un.kept hk,⟨_,x.toInCall.ns,fun i y v h1 h2 h3=>?_⟩,fun y c h=>⟨_,x.cell y c h⟩,e0.hok.fresh (Nat.le_refl _),fun y c h=>?_,fun p hp=>absurd (show p∈([]:List (Addr×Obj)) from hp) (by simp),e0.hok.kept hk,?_⟩
 ·exact name_of_addr x.apart (PySem.mem_of_lookup h1) (PySem.mem_of_lookup h2)
 ·have hy:scope.names.lookup y=some .cell∨scope.names.lookup y=some .free:=hy
  rcases hy with hy | hy
  ·exact Os hy
  ·exact absurd rfl (S.nofree _ (PySem.mem_of_lookup hy))
 ·exact Nat.le_of_lt (x.above y c (PySem.mem_of_lookup h))
 ·have hi:i < vs.length:=by
   unfold start at h2
   by_cases hi:i < vs.length
   ·exact hi
   ·rw [List.getElem?_append_right (by simpa using hi)] at h2
    rw [List.getElem?_replicate] at h2
    split at h2 <;> cases h2
  have ha:vs[i]?=some v:=by
   unfold start at h2
   rw [List.getElem?_append_left (by simpa using hi),List.getElem?_map] at h2
   cases e:vs[i]? with
   | none=>rw [e] at h2;cases h2
   | some a=>rw [e] at h2;cases h2;rfl
  obtain ⟨u,hu,rv⟩:=r.get ha
  have hp:ps[i]?=some y:=by
   rw [← S.pre,List.getElem?_take_of_lt (by omega)];exact h1
  have ndP:ps.Nodup:=by rw [← S.pre];exact S.nd.sublist (List.take_sublist _ _)
  refine ⟨u,rv,?_⟩
  rcases S.par y (List.mem_of_getElem? hp) with k | k
  ·exact .inl ⟨k,Jd ndP hp hu k⟩
  ·obtain ⟨c,e⟩:=Os (n:=s.heap.objs.size+1) k
   refine .inr ⟨.inl k,c,e,?_⟩
   have q:=x.cell y c e
   rw [Jf ndP hp hu (by show scope.names.lookup y≠_;rw [k];decide)] at q
   exact q
 ·exact e0.hok.fresh (Nat.le_of_lt (x.above y c (PySem.mem_of_lookup h)))
 ·unfold start
  show _=N.length
  rw [List.length_append,List.length_map,List.length_replicate]
  omega
theorem fn_of {CX:CXT} {w:World} {f:Addr} {name qual:Str} {params:Arguments} {scope:Scope} {dV kV doc pm cdv ct oc:Value} {an od:Option Addr}
  {osl:Array (Option Value)} {sp:Sp} (lk:K.lookup f=some ⟨oc,od,.func (PySem.W.fnOf name qual params body scope dV kV doc pm an cdv ct),osl⟩) (hcd:PySem.W.codeIn K cdv qual=true) (S:mD N ps scope)
  (len:∀ vs H Q E,sp vs H Q E->vs.length=ps.length)
  (hbody:∀ (A:Around) (outer:List Env) (s:Shared) (H:Hp) (vs:List V) (Q:VK) (E:XK),eX k (A.deeper (envOfC qual scope s.heap.objs.size f cdv))->sp vs H Q E ->
   ∃ t,PSs (oY CX P w K mg base N qual scope f cdv A outer s H E) body t/\t { nx:=fun _ H'=>Q .non H',rt:=Q } (start N vs) H) :
  oZ P w K mg base CX (k+1) f (PySem.W.fnOf name qual params body scope dV kV doc pm an cdv ct) ps sp:=by
 refine ⟨len,fun A outer s H args us vs Q E hr e0 hb r hsp=>?_⟩
 have hl:=len _ _ _ _ hsp
 have KX:K.In s.heap:=e0.mod.kin.keeps fun b o e=>(e0.bs b o e).1
 have lim:s.heap.NoLimit:=e0.mod.nolimit.keeps fun b o e=>(e0.bs b o e).1
 have hkind:∀ y∈ps.zip us,scope.names.lookup y.1=some .local∨(scope.names.lookup y.1=some .cell/\((cellsFrom (s.heap.objs.size+1) scope.names []).lookup y.1).isSome=true):=fun ⟨n,v⟩ hy=>by
  rcases S.par n (List.of_mem_zip hy).1 with q | q
  ·exact .inl q
  ·exact .inr ⟨q,PySem.W.cellsFrom_some _ _ _ (.inl q)⟩
 refine codeAny_call_function hr.depth (KX _ _ lk) rfl S.co S.gen rfl (PySem.W.codeRec_of KX hcd) (hb _ _ _ _ ?_)
 refine wpAny_newFunctionEnv_cells S.kind hkind fun env he s1 x=>?_
 subst he
 refine ⟨lim.keeps x.toInCall.keep,codeAny_func ?_⟩
 obtain ⟨t,ht,hq⟩:=hbody A outer s H vs Q E (hr.deeper _) hsp
 have I:Inv (oY CX P w K mg base N qual scope f cdv A outer s H E) [] (start N vs) H s1:=Yi S hr.hd e0 hl r x
 refine wpAny_mono (ht [] s1 (start N vs) H _ I hq) (fun fl s' hs=>?_) fun e s' hs=>hs
 have fin:∀ {σ':St} {H':Hp} {v:V} {u:Value},Inv (oY CX P w K mg base N qual scope f cdv A outer s H E) [] σ' H' s'->bR v u->Q v H'->CE outer P w H s Q u s' :=
  fun {σ' H' v u} J rv q=>⟨v,H',J.os,J.bare,J.base,J.hok,rv,q⟩
 cases fl with
 | ret u =>
  obtain ⟨v,σ',H',J,rv,q⟩:=hs
  exact fin J rv q
 | next =>
  obtain ⟨σ',H',J,q⟩:=hs
  exact fin (v:=V.non) (u:=Value.none) J rfl q
 | brk =>
  obtain ⟨_,_,_,q⟩:=hs
  exact False.elim q
 | cont =>
  obtain ⟨_,_,_,q⟩:=hs
  exact False.elim q
section
variable {X:Cx} {x:Str} {p pos:Pos} {e:Expr} {es:List Expr} {t:TA} {id T:String} {r:List V->Hp->VK->Prop}
noncomputable def tCB (r:List V->Hp->VK->Prop) (t:TA):TE:=fun σ H Q=>t σ H fun vs H1=>r vs H1 Q
theorem aU (hc:lX X (.builtin id) r) (hg:Gl X x) (hm:X.mg x=none) (hv:bootBuiltins x=some (.builtin id)) (ha:PA X (e :: es) t) (hn:x ≠ "__name__":=by decide) (hdb:(x == ("__debug__" : Str))=false:=by decide)
  (he:starEach (e :: es) X.env=(false,eval e X.env) :: starEach es X.env:=by rfl) (hpl:(backTo pos (starEach es X.env)).any (·.1)=false:=by rfl):PE X (.Call (.Name x p) (e :: es) [] pos) (tCB r t):=by
 intro pins s σ H Q I h
 refine wpAny_Call_Name_kw (lC I hg hm hv ?_ hn hdb)
 exact PyProof.Rows.callWith_builtin1 (thn (ha pos pins s σ H _ I h) fun us s1 ⟨vs,H1,I1,r1,q1⟩=>hc pins s1 σ H1 vs us Q I1 r1 q1) he hpl
theorem gO (hc:lX X (.type T) r) (hg:Gl X x) (hm:X.mg x=none) (hv:bootBuiltins x=some (.type T)) (ha:PA X (e :: es) t) (hn:x ≠ "__name__":=by decide) (hdb:(x == ("__debug__" : Str))=false:=by decide)
  (he:starEach (e :: es) X.env=(false,eval e X.env) :: starEach es X.env:=by rfl) (hpl:(backTo pos (starEach es X.env)).any (·.1)=false:=by rfl):PE X (.Call (.Name x p) (e :: es) [] pos) (tCB r t):=by
 intro pins s σ H Q I h
 refine wpAny_Call_Name_kw (lC I hg hm hv ?_ hn hdb)
 exact PyProof.Rows.callWith_type1 (thn (ha pos pins s σ H _ I h) fun us s1 ⟨vs,H1,I1,r1,q1⟩=>hc pins s1 σ H1 vs us Q I1 r1 q1) he hpl
end
end L2
namespace HT
open PySem PyProof.Rows
section
open PySem.SeqAt
open PySem.AutoSeq1 (wpAny_loadPart')
open PySem.MeetsSeq PySem.MeetsSeq2 PySem.MeetsSeq3
end
section
variable {prog:Program} {w:World} {A:Around} {E:Value->Shared->Prop} {s:Shared}
theorem cat_tup {t b:Addr} {vs ws:List Value} {Q:Value->Shared->Prop} (ht:IsTup s.heap t vs.toArray) (hb:IsTup s.heap b ws.toArray) (hv:vs≠[])
  (h1:ws=[]->Q (.ref t) s) (h2:ws≠[]->Q (.ref s.heap.objs.size) { s with heap:=s.heap.push { cls:=.type "tuple",data:=.seq (vs ++ ws).toArray } })
  (hsz:vs.length+ws.length<=sizeLine):wpAny (model prog w) A (binaryOp .Add (.ref t) (.ref b)) Q E s:=by
 obtain ⟨⟨cls,dd,data,sl⟩,ho,hc,n,hd⟩:=id ht
 obtain ⟨⟨cls2,dd2,data2,sl2⟩,ho2,hc2,n2,hd2⟩:=id hb
 simp only at hc hd hc2 hd2
 subst hc hd hc2 hd2
 have e:vs.toArray ++ ws.toArray=(vs ++ ws).toArray:=by simp
 by_cases hw:ws=[]
 ·exact concat_meets ⟨_,ho,rfl⟩ ⟨_,ho2,rfl⟩ noFill_tuple_add seq_tuple_add PySem.F.slot_tuple_add PySem.F.entry_tuple_add (PySem.F.args_tuple_add_2 _ _)
   (tuple_addW1 t b vs.toArray ws.toArray n n2 dd dd2 sl sl2 (by simpa using hv) (by simp [hw])) ⟨ho,ho2,h1 hw⟩
 ·refine concat_meets ⟨_,ho,rfl⟩ ⟨_,ho2,rfl⟩ noFill_tuple_add seq_tuple_add PySem.F.slot_tuple_add PySem.F.entry_tuple_add (PySem.F.args_tuple_add_2 _ _)
   (tuple_addW2 t b vs.toArray ws.toArray n n2 dd dd2 sl sl2 (by simpa using hv) (by simpa using hw) (by rw [List.size_toArray,List.size_toArray];exact hsz)) ⟨ho,ho2,?_⟩
  rw [e]
  exact h2 hw
noncomputable def sIx (n d:Nat):Option Int->Nat
 | none=>d
 | some v=>if v < 0 then (v+(n:Int)).toNat else min v.toNat n
theorem sIx_none (n d:Nat):sIx n d none=d:=rfl
theorem sIx_nat (n d k:Nat):sIx n d (some (k:Int))=min k n:=by
 show (if (k:Int) < 0 then ((k:Int)+(n:Int)).toNat else min (k:Int).toNat n)=min k n
 rw [if_neg (by omega),Int.toNat_natCast]
theorem sIx_le (n d:Nat) (hd:d<=n) (o:Option Int):sIx n d o<=n:=by
 cases o with
 | none=>exact hd
 | some v =>
  show (if v < 0 then (v+(n:Int)).toNat else min v.toNat n)<=n
  by_cases hv:v < 0
  ·rw [if_pos hv];omega
  ·rw [if_neg hv];exact Nat.min_le_right _ _
theorem Wd (v:Int) (n d:Nat):(if v < 0 then max (v+(n:Int)) 0 else min v (n:Int))=((sIx n d (some v):Nat):Int):=by
 show (if v < 0 then max (v+(n:Int)) 0 else min v (n:Int))=(((if v < 0 then (v+(n:Int)).toNat else min v.toNat n):Nat):Int)
 by_cases hv:v < 0
 ·simp only [if_pos hv];omega
 ·simp only [if_neg hv];omega
theorem Uc (lo hi:Option Int) (n:Nat):Builtin.Slice.sliceAdjust lo hi 1 (n:Int)=(((sIx n 0 lo:Nat):Int),((sIx n n hi:Nat):Int)):=by
 have h1:¬ ((1:Int) < 0):=by omega
 unfold Builtin.Slice.sliceAdjust
 simp only [h1,if_false]
 refine Prod.ext ?_ ?_
 ·cases lo with
  | none=>rfl
  | some v=>exact Wd v n 0
 ·cases hi with
  | none=>rfl
  | some v=>exact Wd v n n
theorem So (i j:Nat):Builtin.Slice.slicePlaces (i:Int) (j:Int) 1=j - i:=by
 unfold Builtin.Slice.slicePlaces
 have h1:(1:Int) > 0:=by omega
 simp only [h1,if_true,Int.ediv_one]
 split <;> omega
theorem Ei {v:Value} {o:Option Int} {Q:Option Int->Shared->Prop} (p:IsPart v o) (h:Q o s):wpAny (model prog w) A (Builtin.Slice.slicePartIndex v) Q E s:=by
 cases p with
 | none=>exact slicePart_none h
 | int i t=>exact slicePart_int h
theorem oQ {sl:Addr} {vl vu:Value} {lo hi:Option Int} {n:Nat} {Q:Int×Int×Nat->Shared->Prop} (hs:s.heap.IsSliceOf sl vl vu .none) (pl:IsPart vl lo) (pu:IsPart vu hi)
  (h:Q (((sIx n 0 lo:Nat):Int),1,sIx n n hi - sIx n 0 lo) s):wpAny (model prog w) A (Builtin.Slice.sliceApplied (.ref sl) (pure (n:Int))) Q E s:=by
 obtain ⟨os,hos,hcs,hds⟩:=id hs
 unfold Builtin.Slice.sliceApplied Builtin.Slice.sliceFields
 refine wpAny_bind (wpAny_bind (wpAny_field hos hds (x:=vl) rfl (wpAny_bind (wpAny_field hos hds (x:=vu) rfl (wpAny_bind (wpAny_field hos hds (x:=.none) rfl (wpAny_pure ?_)))))))
 refine wpAny_bind (slicePart_none ?_)
 show wpAny _ _ (if ((1:Int) == 0)=true then _ else _) _ _ s
 rw [if_neg (by decide)]
 refine wpAny_bind (Ei pl (wpAny_bind (Ei pu (wpAny_bind (wpAny_pure ?_)))))
 show wpAny _ _ (match Builtin.Slice.sliceAdjust lo hi 1 (n:Int) with | (lo,hi)=>pure (lo,(1:Int),Builtin.Slice.slicePlaces lo hi 1)) _ _ s
 rw [Uc lo hi n]
 show wpAny _ _ (pure (((sIx n 0 lo:Nat):Int),(1:Int),Builtin.Slice.slicePlaces ((sIx n 0 lo:Nat):Int) ((sIx n n hi:Nat):Int) 1)) _ _ s
 rw [So]
 exact wpAny_pure h
theorem jJm (xs:Array Value) (i k:Nat):((List.range k).filterMap fun (m:Nat)=>xs[((i:Int)+(m:Int) * 1).toNat]?).toArray=((xs.toList.drop i).take k).toArray:=by
 have e:(fun (m:Nat)=>xs[((i:Int)+(m:Int) * 1).toNat]?)=fun m=>xs[i+m]?:=by
  funext m
  have:((i:Int)+(m:Int) * 1).toNat=i+m:=by omega
  rw [this]
 rw [e]
 have:=pick_run xs i k
 rw [List.filterMap_map] at this
 have e2:((fun x=>xs[x]?) ∘ fun x=>i+x)=fun m=>xs[i+m]?:=rfl
 rw [e2] at this
 rw [this]
theorem getItem_tuple_cut {t sl:Addr} {items:Array Value} {vl vu:Value} {lo hi:Option Int} {Q:Value->Shared->Prop} (ht:IsTup s.heap t items) (hs:s.heap.IsSliceOf sl vl vu .none) (pl:IsPart vl lo) (pu:IsPart vu hi)
  (hw:¬ (sIx items.size 0 lo=0/\sIx items.size items.size hi=items.size))
  (h:Q (.ref s.heap.objs.size) { s with heap:=s.heap.push { cls:=.type "tuple",data:=.seq ((items.toList.drop (sIx items.size 0 lo)).take (sIx items.size items.size hi - sIx items.size 0 lo)).toArray } })
  (hsz:items.size<=sizeLine):wpAny (model prog w) A (getItem (.ref t) (.ref sl)) Q E s:=by
 have htake:sizeOk (.seq ((items.toList.drop (sIx items.size 0 lo)).take (sIx items.size items.size hi - sIx items.size 0 lo)).toArray):=by
  show ((items.toList.drop (sIx items.size 0 lo)).take (sIx items.size items.size hi - sIx items.size 0 lo)).toArray.size<=sizeLine
  rw [List.size_toArray,List.length_take,List.length_drop,Array.length_toList]
  omega
 have hj:sIx items.size items.size hi<=items.size:=sIx_le _ _ (Nat.le_refl _) hi
 obtain ⟨os,hos,hcs,hds⟩:=id hs
 have hTs:s.TypeIs (.ref sl) "slice":=⟨os,hos,hcs⟩
 unfold getItem
 try with_reducible refine wpAny_holding ?_
 first | refine wpAny_bind (wpAny_pure ?_) | skip
 refine wpAny_bind (wpAny_sequenceKey ht.typeIs (by decide) ?_)
 refine wpAny_bind (wpAny_callSpecial?_slot (name:=Str.ofString "__getitem__") ht.typeIs PyProof.Rows.slot_tuple_getitem
  (wpAny_call_entry PyProof.Rows.slot_tuple_getitem ht.typeIs entry_tuple_getitem ?_ (args_tuple_getitem _ _)))
 show wpAny _ _ (Builtin.Tuple.tupleItemsOf (.ref t) >>= _) _ _ s
 refine wpAny_bind (tupleItemsOf_ ht ?_)
 refine wpAny_bind (wpAny_typeOf hTs ?_)
 rw [if_pos (by decide)]
 refine wpAny_bind (oQ hs pl pu ?_)
 have hno:¬ ((((sIx items.size 0 lo:Nat):Int) == 0 && (1:Int) == 1 && (sIx items.size items.size hi - sIx items.size 0 lo) == items.size)=true):=by
  intro q
  rw [Bool.and_eq_true,Bool.and_eq_true] at q
  have q1:((sIx items.size 0 lo:Nat):Int)=0:=eq_of_beq q.1.1
  have q2:sIx items.size items.size hi - sIx items.size 0 lo=items.size:=eq_of_beq q.2
  exact hw ⟨by omega,by omega⟩
 show wpAny _ _ (if (((sIx items.size 0 lo:Nat):Int) == 0 && (1:Int) == 1 && (sIx items.size items.size hi - sIx items.size 0 lo) == items.size)=true then _ else _) _ _ s
 rw [if_neg hno,jJm]
 first
  | exact wpAny_bind (m:=Builtin.Tuple.tupleExact _) (wpAny_newObj_type (wpAny_pure ⟨_,rfl,wpAny_pure h⟩) htake)
  | exact wpAny_bind (m:=Builtin.Tuple.tupleExact _) (wpAny_newObj_type (wpAny_bind (wpAny_pure (wpAny_pure ⟨_,rfl,wpAny_pure h⟩))) htake)
  | exact wpAny_bind (wpAny_bind (m:=Builtin.Tuple.tupleExact _) (wpAny_newObj_type (wpAny_pure (wpAny_pure ⟨_,rfl,wpAny_pure h⟩)) htake))
  | exact wpAny_bind (wpAny_bind (m:=Builtin.Tuple.tupleExact _) (wpAny_newObj_type (wpAny_pure ⟨_,rfl,wpAny_pure h⟩) htake))
end
end HT
namespace L2
open PySem PySem.Spec PyProof.Rows
variable {H:Hp} {its:List Value} {pins:List (Addr×Obj)} {s:Shared} {x:V} {xs:List V} {σ:St}
noncomputable abbrev TO:=St->Hp->(Option Int->Hp->Prop)->Prop
noncomputable def PO (X:Cx) (e:Option Expr) (t:TO):Prop :=
 ∀ (pins:List (Addr×Obj)) (s:Shared) (σ:St) (H:Hp) (Q:Option Int->Hp->Prop),Inv X pins σ H s->t σ H Q ->
  wpAny (model X.prog X.w) X.A (evalPart e X.env) (fun u s'=>∃ o H',Inv X pins σ H' s'/\IsPart u o/\Q o H') X.xe s
noncomputable def fN:TO:=fun _ H Q=>Q none H
noncomputable def nG (t:TE):TO:=fun σ H Q=>t σ H fun x H1=>∃ i,x=.int i/\Q (some i) H1
section
variable {X:Cx} {e:Expr} {te:TE} {lo hi:Option Expr} {tl th:TO} {pos p2:Pos}
theorem mB:PO X none fN:=by
 intro pins s σ H Q I h
 rw [evalPart_none]
 exact wpAny_pure ⟨none,H,I,.none,h⟩
theorem lZ (h:PE X e te):PO X (some e) (nG te):=by
 intro pins s σ H Q I hw
 rw [evalPart_some]
 refine thn (h pins s σ H _ I hw) fun u s1 ⟨x,H1,I1,r1,q1⟩=>?_
 obtain ⟨i,rfl,q⟩:=q1
 obtain ⟨t,rfl⟩:=r1
 exact ⟨some i,H1,I1,.int i t,q⟩
noncomputable def SlR (X:Cx) (r:V->Option Int->Option Int->Hp->VK->Prop):Prop :=
 ∀ (pins:List (Addr×Obj)) (s:Shared) (σ:St) (H:Hp) (x:V) (v vl vu:Value) (lo hi:Option Int) (sl:Addr) (Q:VK),Inv X pins σ H s->bR x v->s.heap.IsSliceOf sl vl vu .none->IsPart vl lo->IsPart vu hi->r x lo hi H Q ->
  ∃ T id,typeLookup (.type T) "__getitem__" = pure (some (.builtin id))/\s.TypeIs v T/\wpAny (model X.prog X.w) X.A (getItem v (.ref sl)) (EP X pins σ Q) X.xe s
noncomputable def tSl (r:V->Option Int->Option Int->Hp->VK->Prop) (te:TE) (tl th:TO):TE:=fun σ H Q=>te σ H fun x H1=>tl σ H1 fun l H2=>th σ H2 fun u H3=>r x l u H3 Q
theorem jI {r:V->Option Int->Option Int->Hp->VK->Prop} (hr:SlR X r) (he:PE X e te) (hl:PO X lo tl) (hu:PO X hi th):PE X (.Subscript e (.Slice lo hi none p2) pos) (tSl r te tl th):=by
 intro pins s σ H Q I h
 refine Subscript_ (thn (he pins s σ H _ I h) fun v s1 ⟨x,H1,I1,r1,q1⟩=>?_)
 refine wpAny_Slice (thn (hl pins s1 σ H1 _ I1 q1) fun vl s2 ⟨l,H2,I2,pl,q2⟩=>thn (hu pins s2 σ H2 _ I2 q2) fun vu s3 ⟨u,H3,I3,pu,q3⟩=>?_)
 rw [evalPart_none]
 refine wpAny_pure ?_
 have I4:Inv X pins σ H3 { s3 with heap:=s3.heap.push { cls:=.type "slice",data:=.fields #[vl,vu,.none] } }:=I3.kept (t':=s3.toks) fun b ob q=>Heap.get?_push_of_some _ q
 obtain ⟨T,id,hT,ht,hg⟩:=hr pins { s3 with heap:=s3.heap.push { cls:=.type "slice",data:=.fields #[vl,vu,.none] } } σ H3 x v vl vu l u s3.heap.objs.size Q I4 r1 (Heap.IsSliceOf.new ..) pl pu q3
 show wpAny (model X.prog X.w) X.A (subscriptTail e (.Slice lo hi none p2) v (.ref s3.heap.objs.size)) (EP X pins σ Q) X.xe { s3 with heap:=s3.heap.push { cls:=.type "slice",data:=.fields #[vl,vu,.none] } }
 exact tail_any (ops:=[.ref s3.heap.objs.size,v]) ht hT hg (by with_unfolding_all rfl)
noncomputable def iG (xs:List V) (lo hi:Option Int):List V:=(xs.drop (HT.sIx xs.length 0 lo)).take (HT.sIx xs.length xs.length hi - HT.sIx xs.length 0 lo)
theorem rT (xs:List V) (lo hi:Option Int):(iG xs lo hi).length<=xs.length:=by
 unfold iG
 rw [List.length_take,List.length_drop]
 omega
noncomputable def rSlT (K:PySem.W.Frag):V->Option Int->Option Int->Hp->VK->Prop:=fun x lo hi H Q=>∃ a xs,x=.ref a/\SqT K H a xs /\
 ¬ (HT.sIx xs.length 0 lo=0/\HT.sIx xs.length xs.length hi=xs.length)/\∀ p,H p=none->Q (.ref p) (upd H p (.tup (iG xs lo hi)))
theorem sl_tup:SlR X (rSlT X.K):=by
 intro pins s σ H x v vl vu lo hi sl Q I rx hs pl pu h
 obtain ⟨a,xs,rfl,hx,hw,q⟩:=h
 cases rx
 obtain ⟨its,r,ht,hz⟩:=I.tuple hx
 have hlen:its.toArray.size=xs.length:=by rw [List.size_toArray];exact r.length.symm
 refine ⟨"tuple",_,PyProof.Rows.slot_tuple_getitem.lookup,ht.typeIs,?_⟩
 refine HT.getItem_tuple_cut ht hs pl pu (by rw [hlen];exact hw) ?_ (by rw [hlen];exact hz)
 rw [hlen]
 refine ⟨.ref s.heap.objs.size,_,I.laid (t':=s.toks) (o:=.tup (iG xs lo hi)) (fun b ob q=>Heap.get?_push_of_some _ q) (Nat.le_refl _) ?_,rfl,q _ (I.hok.fresh (Nat.le_refl _))⟩
 exact ⟨Nat.le_trans (rT xs lo hi) hz,_,(r.drop (HT.sIx xs.length 0 lo)).take (HT.sIx xs.length xs.length hi - HT.sIx xs.length 0 lo),IsTup.new _ _⟩
noncomputable def rCatT (K:PySem.W.Frag):R2:=fun x y H Q=>∃ a b xs ys,x=.ref a/\y=.ref b/\SqT K H a xs/\SqT K H b ys/\xs≠[]/\xs.length+ys.length<=sizeLine /\
 (ys=[]->Q (.ref a) H)/\(ys≠[]->∀ p,H p=none->Q (.ref p) (upd H p (.tup (xs ++ ys))))
theorem bO.nil_iff {us:List Value} (r:bO xs us):us=[]↔xs=[]:=by
 cases r with
 | nil=>simp
 | cons _ _=>simp
theorem op_catT:OpR X (binaryOp .Add) (rCatT X.K):=by
 intro pins s σ H x y v u Q I rx ry h
 obtain ⟨a,b,xs,ys,rfl,rfl,ha,hb,hx,hz,q1,q2⟩:=h
 cases rx
 cases ry
 obtain ⟨its,r1,p1,_⟩:=I.tuple ha
 obtain ⟨its2,r2,p2,_⟩:=I.tuple hb
 refine HT.cat_tup p1 p2 (fun z=>hx (r1.nil_iff.mp z)) (fun z=>⟨.ref a,H,I,rfl,q1 (r2.nil_iff.mp z)⟩) (fun z=>?_) (by rw [← r1.length,← r2.length];exact hz)
 refine ⟨.ref s.heap.objs.size,_,I.laid (t':=s.toks) (o:=.tup (xs ++ ys)) (fun b ob q=>Heap.get?_push_of_some _ q) (Nat.le_refl _) ?_,rfl,q2 (fun w=>z (r2.nil_iff.mpr w)) _ (I.hok.fresh (Nat.le_refl _))⟩
 exact ⟨by rw [List.length_append];exact hz,_,r1.append r2,IsTup.new _ _⟩
end
noncomputable def ixN (n:Nat) (i:Int):Option Nat:=if 0<=i then (if i < n then some i.toNat else none) else if -(n:Int)<=i then some (i+n).toNat else none
noncomputable def atI {α:Type} (xs:List α) (i:Int):Option α:=(ixN xs.length i).bind fun j=>xs[j]?
theorem Ky {n:Nat} {i:Int} {j:Nat} (h:ixN n i=some j):seqIndex? i n=some j/\j < n/\-(n:Int)<=i/\i < n:=by
 unfold ixN at h
 by_cases h0:0<=i
 ·rw [if_pos h0] at h
  by_cases h1:i < n
  ·rw [if_pos h1] at h
   have e:i.toNat=j:=Option.some.inj h
   exact ⟨by rw [seqIndex_of h0 h1,e],by omega,by omega,h1⟩
  ·rw [if_neg h1] at h;cases h
 ·rw [if_neg h0] at h
  by_cases h1:-(n:Int)<=i
  ·rw [if_pos h1] at h
   have e:(i+n).toNat=j:=Option.some.inj h
   exact ⟨by rw [seqIndex_neg (by omega) h1,e],by omega,h1,by omega⟩
  ·rw [if_neg h1] at h;cases h
theorem Wg {α:Type} {xs:List α} {i:Int} {v:α} (h:atI xs i=some v):∃ j,seqIndex? i xs.length=some j/\xs[j]?=some v/\j < xs.length/\-(xs.length:Int)<=i/\i < xs.length:=by
 unfold atI at h
 cases e:ixN xs.length i with
 | none=>rw [e] at h;cases h
 | some j =>
  rw [e] at h
  obtain ⟨h1,h2,h3,h4⟩:=Ky e
  exact ⟨j,h1,h,h2,h3,h4⟩
theorem cF {α:Type} {xs:List α} {j:Nat} {v:α} (h:xs[j]?=some v):atI xs (j:Int)=some v:=by
 have hj:j < xs.length:=(List.getElem?_eq_some_iff.mp h).1
 have e:ixN xs.length (j:Int)=some j:=by
  unfold ixN
  rw [if_pos (by omega),if_pos (by omega)];simp
 unfold atI;rw [e];exact h
noncomputable def Ld (b:Expr):Prop:=∀ o i,subscripted b false o i=operate [o,i] (getItem o i)
noncomputable def IxR (X:Cx) (r:R2):Prop :=
 ∀ (value slice:Expr) (pins:List (Addr×Obj)) (s:Shared) (σ:St) (H:Hp) (x y:V) (v u:Value) (Q:VK),Inv X pins σ H s->bR x v->bR y u->r x y H Q ->
  subscripted slice false v u=operate [v,u] (getItem v u)->wpAny (model X.prog X.w) X.A (subscriptTail value slice v u) (EP X pins σ Q) X.xe s
noncomputable def MtR (X:Cx) (id:String) (r:V->List V->Hp->VK->Prop):Prop :=
 ∀ (pins:List (Addr×Obj)) (s:Shared) (σ:St) (H:Hp) (x:V) (xs:List V) (v:Value) (us:List Value) (Q:VK),Inv X pins σ H s->bR x v->bO xs us->r x xs H Q ->
  wpAny (model X.prog X.w) X.A (call (.builtin id) (v :: us)) (EP X pins σ Q) X.xe s
section
variable {X:Cx} {a b:Expr} {ta tb:TE} {pos:Pos}
theorem pe_ix {r:R2} (hr:IxR X r) (ha:PE X a ta) (hb:PE X b tb) (hs:Ld b):PE X (.Subscript a b pos) (tOp r ta tb):=by
 intro pins s σ H Q I h
 exact Subscript_ (binT ha hb I h fun v u s2 x y H2 I2 rx ry q=>hr a b pins s2 σ H2 x y v u Q I2 rx ry q (hs _ _))
noncomputable def dD (K:PySem.W.Frag):R2:=fun x y H Q=>exR x fun p=>exI y fun i=>∃ xs,SqL K H p xs/\∃ v,atI xs i=some v/\Q v H
noncomputable def bW (K:PySem.W.Frag):R2:=fun x y H Q=>exR x fun p=>exI y fun i=>∃ xs,SqT K H p xs/\∃ v,atI xs i=some v/\Q v H
theorem ix_list:IxR X (dD X.K):=by
 intro value slice pins s σ H x y v u Q I rx ry h hs
 obtain ⟨p,rfl,h1⟩:=Eq.mp dL h
 obtain ⟨i,rfl,xs,hq,z,he,q⟩:=Eq.mp cY h1
 cases rx
 obtain ⟨t,rfl⟩:=ry
 obtain ⟨its,r,pl,hz⟩:=I.list hq
 obtain ⟨j,h1,h2,h3,h4,h5⟩:=Wg he
 obtain ⟨w,ew,rw'⟩:=r.get h2
 have hl:=r.length
 have hn:=Jy
 have fin:EP X pins σ Q w s:=⟨z,H,I,rw',q⟩
 by_cases h0:0<=i
 ·have hj:i.toNat=j:=by
   rw [seqIndex_of h0 h5] at h1
   exact Option.some.inj h1
  exact item_listR pl.isList h0 (by omega) (by rw [hj];simpa using ew) fin hs
 ·have hj:(i+(its.toArray.size:Int)).toNat=j:=by
   rw [seqIndex_neg (by omega) h4] at h1
   rw [List.size_toArray,← hl]
   exact Option.some.inj h1
  exact subscriptTail_builtinR (x:=w) pl.isList.typeIs slot_list_getitem.lookup
   (wpAny_getItem_list_neg (Q:=fun r s'=>r=w/\EP X pins σ Q r s') pl.isList (by omega) (by rw [List.size_toArray] <;> omega) (by omega) (by rw [hj];simpa using ew) ⟨rfl,fin⟩) hs
theorem ix_tup:IxR X (bW X.K):=by
 intro value slice pins s σ H x y v u Q I rx ry h hs
 obtain ⟨p,rfl,h1⟩:=Eq.mp dL h
 obtain ⟨i,rfl,xs,hq,z,he,q⟩:=Eq.mp cY h1
 cases rx
 obtain ⟨t,rfl⟩:=ry
 obtain ⟨its,r,pl,hz⟩:=I.tuple hq
 obtain ⟨j,h1,h2,h3,h4,h5⟩:=Wg he
 obtain ⟨w,ew,rw'⟩:=r.get h2
 have hl:=r.length
 have hn:=Jy
 have fin:EP X pins σ Q w s:=⟨z,H,I,rw',q⟩
 exact subscriptTail_builtinR (x:=w) pl.typeIs slot_tuple_getitem.lookup
  (getItem_tuple (j:=j) (Q:=fun r s'=>r=w/\EP X pins σ Q r s') pl (by omega) (by omega) (by rw [List.size_toArray,← hl];exact h1) (by simpa using ew) ⟨rfl,fin⟩) hs
theorem Tc (its:List Value) (n j:Nat) (u:Value):Obj.mapSeq (·.setIfInBounds j u) { cls:=.type "list",data:=.seq its.toArray n }={ cls:=.type "list",data:=.seq (its.set j u).toArray n }:=by
 simp [Obj.mapSeq]
theorem Inv.lst {p:Addr} (I:Inv X pins σ H s) (h:H p=some (.lst xs)) :
  ∃ (its:List Value) (n:Nat),bO xs its/\s.heap.get? p=some { cls:=.type "list",data:=.seq its.toArray n }/\xs.length<=sizeLine:=by
 obtain ⟨z,its,n,r,e⟩:=I.hok p _ h
 exact ⟨its,n,r,e,z⟩
theorem Inv.lstUpd {p:Addr} {ys:List V} {its':List Value} {n n':Nat} {f:Obj->Obj} (I:Inv X pins σ H s) (h:H p=some (.lst xs))
  (ho:s.heap.get? p=some { cls:=.type "list",data:=.seq its.toArray n }) (hf:f { cls:=.type "list",data:=.seq its.toArray n }={ cls:=.type "list",data:=.seq its'.toArray n' }) (r:bO ys its') (hz:ys.length<=sizeLine) (t:Nat) :
  Inv X pins σ (upd H p (.lst ys)) { s with heap:=s.heap.update p f,toks:=t }:=by
 have e:(s.heap.update p f).get? p=some { cls:=.type "list",data:=.seq its'.toArray n' }:=by
  rw [Heap.get?_update_self f ho (by rw [hf] <;> rfl),hf]
 refine I.write (x:=p) (e:=p) (by rw [h];trivial) (.inl rfl) (fun b u hb q=>(Heap.get?_update_other _ _ (Ne.symm hb)).trans q) ⟨_,e⟩ ?_
 exact ⟨hz,its',n',r,e⟩
noncomputable def qH:V->V->V->Hp->(Hp->Prop)->Prop:=fun o i v H Q=>∃ p xs k j,o=.ref p/\i=.int k/\H p=some (.lst xs)/\ixN xs.length k=some j/\Q (upd H p (.lst (xs.set j v)))
theorem nK:PSet X qH:=by
 intro pins s σ H o i v ov iv u Q I ro ri rv h
 obtain ⟨p,xs,k,j,rfl,rfl,hp,hj,q⟩:=h
 cases ro
 obtain ⟨t,rfl⟩:=ri
 obtain ⟨its,n,r,ho,hz⟩:=I.lst hp
 obtain ⟨h1,h2,h3,h4⟩:=Ky hj
 have hl:=r.length
 have hn:=Jy
 have I':Inv X pins σ (upd H p (.lst (xs.set j v))) { s with heap:=s.heap.update p (Obj.mapSeq (·.setIfInBounds j u)) } :=
  I.lstUpd hp ho (Tc its n j u) (r.set rv j) (by rw [List.length_set];exact hz) s.toks
 by_cases h0:0<=k
 ·have hk:k.toNat=j:=by
   rw [seqIndex_of h0 h4] at h1
   exact Option.some.inj h1
  exact PySem.W.ki_setAt ho h0 (by omega) (by rw [List.size_toArray,← hl];exact h4) (by rw [hk];exact ⟨_,I',q⟩)
 ·have hk:(k+(its.toArray.size:Int)).toNat=j:=by
   rw [seqIndex_neg (by omega) h3] at h1
   rw [List.size_toArray,← hl]
   exact Option.some.inj h1
  exact PySem.W.ki_setBack ho (by omega) (by rw [List.size_toArray,← hl];exact h3) (by omega) (by rw [hk];exact ⟨_,I',q⟩)
theorem Li (lo hi:Option Int) (n:Nat):(sliceBounds lo hi none n).1=((HT.sIx n 0 lo:Nat):Int)/\(sliceBounds lo hi none n).2.1=((HT.sIx n n hi:Nat):Int)/\(sliceBounds lo hi none n).2.2=1:=by
 refine ⟨?_,?_,rfl⟩
 ·cases lo with
  | none=>simp [sliceBounds,HT.sIx]
  | some i =>
   simp only [sliceBounds,HT.sIx,Option.getD_none,show (1:Int) > 0 by decide,if_true]
   by_cases h:i < 0
   ·simp only [h,if_true] <;> omega
   ·simp only [h,if_false] <;> omega
 ·cases hi with
  | none=>simp [sliceBounds,HT.sIx]
  | some i =>
   simp only [sliceBounds,HT.sIx,Option.getD_none,show (1:Int) > 0 by decide,if_true]
   by_cases h:i < 0
   ·simp only [h,if_true] <;> omega
   ·simp only [h,if_false] <;> omega
theorem Fy (its:List Value) (lo hi:Option Int):slicePick its.toArray lo hi none=((its.drop (HT.sIx its.length 0 lo)).take (HT.sIx its.length its.length hi - HT.sIx its.length 0 lo)).toArray:=by
 obtain ⟨h1,h2,h3⟩:=Li lo hi its.toArray.size
 unfold slicePick
 rw [h1,h2,h3]
 simp only [sliceRange_one,pick_run,List.size_toArray] <;> rfl
noncomputable def xA (K:PySem.W.Frag):V->Option Int->Option Int->Hp->VK->Prop:=fun x lo hi H Q=>∃ a xs,x=.ref a/\SqL K H a xs/\∀ p,H p=none->Q (.ref p) (upd H p (.lst (iG xs lo hi)))
theorem sP:SlR X (xA X.K):=by
 intro pins s σ H x v vl vu lo hi sl Q I rx hs pl pu h
 obtain ⟨a,xs,rfl,hx,q⟩:=h
 cases rx
 obtain ⟨its,r,ht,hz⟩:=I.list hx
 have hlen:=r.length
 refine ⟨"list",_,slot_list_getitem.lookup,ht.isList.typeIs,?_⟩
 refine wpAny_getItem_list_slice ht.isList hs pl pu .none (by simp) ?_ (by rw [List.size_toArray] <;> omega)
 rw [Fy,← hlen]
 refine ⟨.ref s.heap.objs.size,_,I.laid (t':=s.toks) (o:=.lst (iG xs lo hi)) (fun b ob q=>Heap.get?_push_of_some _ q) (Nat.le_refl _) ?_,rfl,q _ (I.hok.fresh (Nat.le_refl _))⟩
 exact ⟨Nat.le_trans (rT xs lo hi) hz,_,0,(r.drop (HT.sIx xs.length 0 lo)).take (HT.sIx xs.length xs.length hi - HT.sIx xs.length 0 lo),Heap.get?_push_size _ rfl⟩
noncomputable def vG:V->Bool
 | .non=>true
 | .bl _=>true
 | .int _=>true
 | .str _=>true
 | _=>false
noncomputable def eqV:V->V->Bool
 | .non,.non=>true
 | .bl a,.bl b=>a == b
 | .bl a,.int b=>(if a then 1 else 0) == b
 | .int a,.bl b=>a == (if b then 1 else 0)
 | .int a,.int b=>a == b
 | .str a,.str b=>a == b
 | _,_=>false
theorem eqAt_V {A:Around} {y:V} {u v:Value} (ry:bR y u) (rx:bR x v) (fy:vG y=true) (fx:vG x=true):SeqAt.EqAt A s u v (eqV y x):=by
 cases y with
 | non =>
  cases ry
  cases x with
  | non=>cases rx;exact SeqAt.EqAt.same _
  | bl b=>cases rx;exact SeqAt.EqAt.none_bool b
  | int b=>obtain ⟨t,rfl⟩:=rx;exact SeqAt.EqAt.none_int b t
  | str b=>obtain ⟨t,rfl⟩:=rx;exact SeqAt.EqAt.none_str b t
  | _=>exact absurd (show false=true from fx) Bool.false_ne_true
 | bl a =>
  cases ry
  cases x with
  | non=>cases rx;exact SeqAt.EqAt.bool_none a
  | bl b=>cases rx;exact SeqAt.EqAt.bool_bool a b
  | int b=>obtain ⟨t,rfl⟩:=rx;exact SeqAt.EqAt.bool_int a b t
  | str b=>obtain ⟨t,rfl⟩:=rx;exact SeqAt.EqAt.bool_str a b t
  | _=>exact absurd (show false=true from fx) Bool.false_ne_true
 | int a =>
  obtain ⟨t',rfl⟩:=ry
  cases x with
  | non=>cases rx;exact SeqAt.EqAt.int_none a t'
  | bl b=>cases rx;exact SeqAt.EqAt.int_bool a t' b
  | int b=>obtain ⟨t,rfl⟩:=rx;exact SeqAt.EqAt.int_int a t' b t
  | str b=>obtain ⟨t,rfl⟩:=rx;exact SeqAt.EqAt.int_str a t' b t
  | _=>exact absurd (show false=true from fx) Bool.false_ne_true
 | str a =>
  obtain ⟨t',rfl⟩:=ry
  cases x with
  | non=>cases rx;exact SeqAt.EqAt.str_none a t'
  | bl b=>cases rx;exact SeqAt.EqAt.str_bool a t' b
  | int b=>obtain ⟨t,rfl⟩:=rx;exact SeqAt.EqAt.str_int a t' b t
  | str b=>obtain ⟨t,rfl⟩:=rx;exact SeqAt.EqAt.str_str a t' b t
  | _=>exact absurd (show false=true from fx) Bool.false_ne_true
 | _=>exact absurd (show false=true from fy) Bool.false_ne_true
noncomputable def eqU (x:V) (u:Value):Bool:=match u with
 | .none=>eqV .non x
 | .bool b=>eqV (.bl b) x
 | .int i _=>eqV (.int i) x
 | .str z _=>eqV (.str z) x
 | _=>false
theorem eqU_of {y:V} {u:Value} (r:bR y u) (f:vG y=true):eqU x u=eqV y x:=by
 cases y with
 | non=>cases r;rfl
 | bl b=>cases r;rfl
 | int i=>obtain ⟨t,rfl⟩:=r;rfl
 | str z=>obtain ⟨t,rfl⟩:=r;rfl
 | _=>exact absurd (show false=true from f) Bool.false_ne_true
theorem vR {x:V}:∀ {xs:List V} {us:List Value},bO xs us->xs.all vG=true->us.any (eqU x)=xs.any fun y=>eqV y x
 | _,_,.nil,_=>rfl
 | y :: xs,u :: us,.cons r t,f=>by
  rw [List.all_cons,Bool.and_eq_true] at f
  rw [List.any_cons,List.any_cons,eqU_of r f.1,vR t f.2]
theorem rF {A:Around} {s:Shared} {x:V} {v:Value} (rx:bR x v) (fx:vG x=true):∀ {xs:List V} {us:List Value},bO xs us->xs.all vG=true->∀ u∈us,SeqAt.EqAt A s u v (eqU x u)
 | _,_,.nil,_=>fun u hu=>by cases hu
 | y :: xs,u :: us,.cons r t,f=>fun u' hu=>by
  rw [List.all_cons,Bool.and_eq_true] at f
  rcases List.mem_cons.mp hu with rfl | hu
  ·rw [eqU_of r f.1];exact eqAt_V r rx f.1 fx
  ·exact rF rx fx t f.2 u' hu
noncomputable def inV (x:V) (xs:List V):Bool:=xs.any fun y=>eqV y x
noncomputable def rIn (K:PySem.W.Frag) (neg:Bool):R2:=fun x y H Q=>∃ p xs,y=.ref p/\(SqL K H p xs∨SqT K H p xs)/\vG x=true/\xs.all vG=true/\Q (.bl (if neg then !inV x xs else inV x xs)) H
theorem Xj:OpR X (compareOp .In) (rIn X.K false):=by
 intro pins s σ H x y v u Q I rx ry h
 obtain ⟨p,xs,rfl,hq,fx,fs,q⟩:=h
 cases ry
 rcases hq with hq | hq
 ·obtain ⟨its,r,pl,hz⟩:=I.list hq
  refine SeqAt.in_listAt (eqU x) pl.isList (fun w hw=>rF rx fx r fs w (by simpa using hw)) ⟨.bl _,H,I,rfl,?_⟩
  rw [show its.toArray.any (eqU x)=its.any (eqU x) by simp,vR r fs]
  exact q
 ·obtain ⟨its,r,pl,hz⟩:=I.tuple hq
  refine SeqAt.in_tupleAt (eqU x) pl (fun w hw=>rF rx fx r fs w (by simpa using hw)) ⟨.bl _,H,I,rfl,?_⟩
  rw [show its.toArray.any (eqU x)=its.any (eqU x) by simp,vR r fs]
  exact q
theorem Ls:OpR X (compareOp .NotIn) (rIn X.K true):=by
 intro pins s σ H x y v u Q I rx ry h
 obtain ⟨p,xs,rfl,hq,fx,fs,q⟩:=h
 cases ry
 rcases hq with hq | hq
 ·obtain ⟨its,r,pl,hz⟩:=I.list hq
  refine SeqAt.notIn_listAt (eqU x) pl.isList (fun w hw=>rF rx fx r fs w (by simpa using hw)) ⟨.bl _,H,I,rfl,?_⟩
  rw [show its.toArray.any (eqU x)=its.any (eqU x) by simp,vR r fs]
  exact q
 ·obtain ⟨its,r,pl,hz⟩:=I.tuple hq
  refine SeqAt.notIn_tupleAt (eqU x) pl (fun w hw=>rF rx fx r fs w (by simpa using hw)) ⟨.bl _,H,I,rfl,?_⟩
  rw [show its.toArray.any (eqU x)=its.any (eqU x) by simp,vR r fs]
  exact q
theorem aQ:lX X (.builtin "len") (fun xs H Q=>∃ p ys,xs=[.ref p]/\(SqL X.K H p ys∨SqT X.K H p ys)/\Q (.int ys.length) H):=by
 intro pins s σ H xs us Q I r h
 obtain ⟨p,ys,rfl,hq,q⟩:=h
 obtain ⟨u,rfl,rx⟩:=qR r
 cases rx
 have hn:=Jy
 rcases hq with hq | hq
 ·obtain ⟨its,r',pl,hz⟩:=I.list hq
  have hlen:=r'.length
  exact Calls.call_len_list pl.isList (by simp only [List.size_toArray] <;> omega) ⟨.int ys.length,H,I.tok _,⟨s.toks+1,by rw [List.size_toArray,hlen]⟩,q⟩
 ·obtain ⟨its,r',pl,hz⟩:=I.tuple hq
  have hlen:=r'.length
  exact len_tuple pl (by simp only [List.size_toArray] <;> omega) ⟨.int ys.length,H,I.tok _,⟨s.toks+1,by rw [List.size_toArray,hlen]⟩,q⟩
theorem dQ:lX X (.type "list") (fun xs H Q=>∃ p ys,xs=[.ref p]/\(SqL X.K H p ys∨SqT X.K H p ys)/\∀ l,H l=none->Q (.ref l) (upd H l (.lst ys))):=by
 intro pins s σ H xs us Q I r h
 obtain ⟨p,ys,rfl,hq,q⟩:=h
 obtain ⟨u,rfl,rx⟩:=qR r
 cases rx
 have fin:∀ (its:List Value),bO ys its->ys.length<=sizeLine->∀ (h':Heap) (c':Nat),(∀ b o',s.heap.get? b=some o'->h'.get? b=some o') ->
   h'.get? s.heap.objs.size=some { cls:=.type "list",dict:=none,data:=.seq its.toArray c',slots:=#[] }->EP X pins σ Q (.ref s.heap.objs.size) { s with heap:=h' }:=fun its r' hz h' c' kp e =>
  ⟨.ref s.heap.objs.size,_,I.laid (t':=s.toks) kp (Nat.le_refl _) (show dE X.prog X.w _ h' _ (.lst ys) from ⟨hz,its,c',r',e⟩),rfl,q _ (I.hok.fresh (Nat.le_refl _))⟩
 rcases hq with hq | hq
 ·obtain ⟨its,r',pl,hz⟩:=I.list hq
  have hlen:=r'.length
  obtain ⟨o,ho,hc,n,hd⟩:=pl.isList
  exact call_list_seq p (.inl rfl) ho hc hd (fun h' c' kp e=>fin its r' hz h' c' kp e) (by simp only [List.size_toArray] <;> omega)
 ·obtain ⟨its,r',pl,hz⟩:=I.tuple hq
  have hlen:=r'.length
  obtain ⟨o,ho,hc,n,hd⟩:=pl
  exact call_list_seq p (.inr rfl) ho hc hd (fun h' c' kp e=>fin its r' hz h' c' kp e) (by simp only [List.size_toArray] <;> omega)
noncomputable def tyV (K:PySem.W.Frag) (T:String) (x:V) (H:Hp):Prop:=match x with
 | .str _=>T="str"
 | .int _=>T="int"
 | .ref p=>(T="list" /\ ∃ xs,SqL K H p xs)∨(T="tuple" /\ ∃ o,K.lookup p=some o/\o.cls=.type "tuple" /\ o.dict=none) ∨
   (T="dict" /\ ((∃ kvs,H p=some (.dK kvs))∨∃ kvs,H p=some (.dT kvs)))∨(T="set" /\ ∃ S n,H p=some (.set S n))
 | _=>False
theorem tyV_is {T:String} {v:Value} (I:Inv X pins σ H s) (r:bR x v) (ty:tyV X.K T x H) :
  s.TypeIs v T/\∀ a,v=.ref a->∃ ob,s.heap.get? a=some ob/\ob.dict=none:=by
 cases x with
 | str z =>
  obtain ⟨t,rfl⟩:=r
  cases (show T="str" from ty)
  exact ⟨typeIs_str s z t,fun _ e=>nomatch e⟩
 | int i =>
  obtain ⟨t,rfl⟩:=r
  cases (show T="int" from ty)
  exact ⟨typeIs_int s i t,fun _ e=>nomatch e⟩
 | ref p =>
  cases r
  rcases ty with ⟨rfl,xs,hq⟩ | ⟨rfl,o,hk,hc,hd⟩ | ⟨rfl,hk⟩ | ⟨rfl,S,n,hk⟩
  ·obtain ⟨its,_,pl,_⟩:=I.list hq
   refine ⟨pl.isList.typeIs,fun a e=>?_⟩
   cases e
   obtain ⟨o,n,e,c,hd,_⟩:=pl
   exact ⟨o,e,hd⟩
  ·refine ⟨⟨o,I.kIn p o hk,hc⟩,fun a e=>?_⟩
   cases e
   exact ⟨o,I.kIn _ o hk,hd⟩
  ·have z:∃ o,s.heap.get? p=some o/\o.ExactDict:=by
    rcases hk with ⟨kvs,hk⟩ | ⟨kvs,hk⟩
    ·obtain ⟨_,_,_,_,o,_,_,e,ex,_⟩:=I.hok p _ hk
     exact ⟨o,e,ex⟩
    ·obtain ⟨_,_,_,_,o,_,_,e,ex,_⟩:=I.hok p _ hk
     exact ⟨o,e,ex⟩
   obtain ⟨o,e,ex⟩:=z
   refine ⟨⟨o,e,ex.1⟩,fun a e2=>?_⟩
   cases e2
   exact ⟨o,e,ex.2.1⟩
  ·obtain ⟨o,_,_,_,e,ex,_⟩:=I.hok p _ hk
   refine ⟨⟨o,e,ex.1⟩,fun a e2=>?_⟩
   cases e2
   exact ⟨o,e,ex.2.1⟩
 | _=>exact False.elim ty
noncomputable def Yw (K:PySem.W.Frag) (T:String) (r:V->List V->Hp->VK->Prop) (to:TE):TE:=fun σ H Q=>to σ H fun x H1=>tyV K T x H1/\r x [] H1 Q
noncomputable def tBM (K:PySem.W.Frag) (T:String) (r:V->List V->Hp->VK->Prop) (to:TE) (t:TA):TE:=fun σ H Q=>to σ H fun x H1=>tyV K T x H1/\t σ H1 fun xs H2=>r x xs H2 Q
variable {o e:Expr} {es:List Expr} {to:TE} {t:TA} {name:Str} {apos cpos:Pos} {T id:String} {r:V->List V->Hp->VK->Prop}
theorem pe_bm0 (pa:PlainAttrs T) (slot:Slot T name id) (hty:typeOf (.builtin id)=pure (.type "method_descriptor")) (hm:MtR X id r) (ho:PE X o to)
  (hbase:attributeBase o name X.env (eval o X.env)=eval o X.env:=by rfl) (hline:(apos.endLine == cpos.line)=true:=by rfl):PE X (.Call (.Attribute o name apos) [] [] cpos) (Yw X.K T r to):=by
 intro pins s σ H Q I h
 refine wpAny_Call_method0_late hbase hline (thn (ho pins s σ H _ I h) fun v s1 ⟨x,H1,I1,r1,ty,q1⟩=>?_)
 obtain ⟨h1,h2⟩:=tyV_is I1 r1 ty
 exact ⟨T,id,pa,slot,hty,h1,h2,Calls.callWith_builtin rfl (PySem.evalArgs_none (hm pins s1 σ H1 x [] v [] Q I1 r1 .nil q1))⟩
theorem qS (pa:PlainAttrs T) (slot:Slot T name id) (hty:typeOf (.builtin id)=pure (.type "method_descriptor")) (hm:MtR X id r) (ho:PE X o to) (ha:PA X (e :: es) t)
  (hbase:attributeBase o name X.env (eval o X.env)=eval o X.env:=by rfl)
  (hfew:((backTo cpos (starEach (e :: es) X.env)).all (fun x=>!x.1) && (backToKw cpos (keywordEach [] X.env)).all (fun x=>x.1.isSome)
   && decide ((e :: es).length+([]:List Keyword).length+(if ([]:List Keyword).isEmpty then 0 else 1) < 30))=true:=by rfl)
  (hline:(apos.endLine == cpos.line)=true:=by rfl) (hs:starEach (e :: es) X.env=(false,eval e X.env) :: starEach es X.env:=by rfl) (hplain:(backTo cpos (starEach es X.env)).any (·.1)=false:=by rfl) :
  PE X (.Call (.Attribute o name apos) (e :: es) [] cpos) (tBM X.K T r to t):=by
 intro pins s σ H Q I h
 refine wpAny_Call_method_late hbase hfew hline rfl (thn (ho pins s σ H _ I h) fun v s1 ⟨x,H1,I1,r1,ty,q1⟩=>?_)
 obtain ⟨h1,h2⟩:=tyV_is I1 r1 ty
 refine ⟨T,id,pa,slot,hty,h1,h2,?_⟩
 have hA:=ha cpos pins s1 σ H1 _ I1 q1
 rw [hs] at hA ⊢
 refine Calls.callWith_builtin (by show (false || (backTo cpos (starEach es X.env)).any (·.1))=false;rw [hplain] <;> rfl) (Calls.evalArgs_plain ?_)
 exact thn hA fun us s2 ⟨vs,H2,I2,r2,q2⟩=>hm pins s2 σ H2 x vs v us Q I2 r1 r2 q2
end
noncomputable def MtM (X:Cx) (id:String) (r:V->List V->Hp->VK->Prop):Prop :=
 ∀ (pins:List (Addr×Obj)) (s:Shared) (σ:St) (H:Hp) (x:V) (xs:List V) (v:Value) (us:List Value) (Q:VK),Inv X pins σ H s->bR x v->bO xs us->r x xs H Q ->
  wpAny (model X.prog X.w) X.A (call (.builtin id) (v :: us)) (EP X pins σ Q) X.xe s
theorem bO.one:∀ {x:V} {us:List Value},bO [x] us->∃ u,us=[u]/\bR x u
 | _,_,.cons r .nil=>⟨_,rfl,r⟩
theorem bO.two:∀ {x y:V} {us:List Value},bO [x,y] us->∃ u v,us=[u,v]/\bR x u/\bR y v
 | _,_,_,.cons r (.cons q .nil)=>⟨_,_,rfl,r,q⟩
theorem bO.zero:∀ {us:List Value},bO [] us->us=[]
 | _,.nil=>rfl
theorem bO.eraseIdx:∀ {xs:List V} {us:List Value} (i:Nat),bO xs us->bO (xs.eraseIdx i) (us.eraseIdx i)
 | _,_,_,.nil=>.nil
 | _,_,0,.cons _ t=>t
 | _,_,i+1,.cons r t=>.cons r (bO.eraseIdx i t)
theorem yM {α:Type}:∀ (l:List α) (i:Nat),(l.eraseIdx i).length<=l.length
 | [],_=>Nat.le_refl _
 | _ :: _,0=>Nat.le_succ _
 | _ :: r,i+1=>Nat.succ_le_succ (yM r i)
section
variable {X:Cx} {pins:List (Addr×Obj)} {σ:St} {H:Hp} {s:Shared} {l b:Addr} {xs ys zs:List V}
theorem Inv.lset {its':List Value} {n:Nat} {f:Array Value->Array Value} {t':Nat} (I:Inv X pins σ H s) (hH:H l=some (.lst xs))
  (e:s.heap.get? l=some { cls:=.type "list",data:=.seq its.toArray n }) (hf:f its.toArray=its'.toArray) (hv:bO ys its') (hz:ys.length<=sizeLine) :
  Inv X pins σ (upd H l (.lst ys)) { s with heap:=s.heap.update l (Obj.mapSeq f),toks:=t' }:=by
 have q:=PySem.IsL.update e f
 rw [hf] at q
 refine I.write (x:=l) (e:=l) (by rw [hH];exact trivial) (.inl rfl) (fun b' u hb hu=>(Heap.get?_update_other s.heap (Obj.mapSeq f) (Ne.symm hb)).trans hu) ⟨_,q⟩ ?_
 exact ⟨hz,its',_,hv,q⟩
theorem Inv.lnew {t':Nat} (I:Inv X pins σ H s) (hv:bO ys its) (hz:ys.length<=sizeLine) :
  Inv X pins σ (upd H s.heap.objs.size (.lst ys)) { s with heap:=s.heap.push { cls:=.type "list",data:=.seq its.toArray },toks:=t' } :=
 I.laid (fun _ _ q=>Heap.get?_push_of_some _ q) (Nat.le_refl _) ⟨hz,its,0,hv,Heap.get?_push_size _ rfl⟩
theorem Inv.fresh (I:Inv X pins σ H s):H s.heap.objs.size=none:=I.hok.fresh (Nat.le_refl _)
theorem Inv.lstM (I:Inv X pins σ H s) (hH:H l=some (.lst xs)):xs.length<=sizeLine/\∃ (its:List Value) (n:Nat),bO xs its/\xs.length=its.length/\s.heap.get? l=some { cls:=.type "list",data:=.seq its.toArray n }:=by
 obtain ⟨z,its,n,r,e⟩:=I.hok l _ hH
 exact ⟨z,its,n,r,r.length,e⟩
theorem jJv {n:Nat} (h:n<=sizeLine):Builtin.List.listTooLong n=false:=by
 unfold Builtin.List.listTooLong
 exact decide_eq_false (by omega)
end
section
variable {X:Cx}
noncomputable def iX:V->List V->Hp->VK->Prop:=fun x vs H Q=>∃ l xs y,x=.ref l/\vs=[y]/\H l=some (.lst xs)/\xs.length < sizeLine/\Q .non (upd H l (.lst (xs ++ [y])))
theorem tH:MtM X "list.append" iX:=by
 intro pins s σ H x vs v us Q I rx rv h
 obtain ⟨l,xs,y,rfl,rfl,hH,hz,q⟩:=h
 cases rx
 obtain ⟨u,rfl,ru⟩:=rv.one
 obtain ⟨z,its,n,r,hl,e⟩:=I.lstM hH
 refine call_meets F.slot_list_append ⟨_,e,rfl⟩ F.entry_list_append (F.args_list_append_2 _ _) (PySem.list_append l its.toArray n u (by rw [List.size_toArray];omega)) ⟨e,?_⟩
 refine ⟨.non,_,I.lset (its':=its ++ [u]) hH e (by simp) (r.append (.cons ru .nil)) ?_,rfl,q⟩
 rw [List.length_append,List.length_singleton]
 omega
noncomputable def Bt:V->List V->Hp->VK->Prop:=fun x vs H Q=>∃ l b xs zs,x=.ref l/\vs=[.ref b]/\H l=some (.lst xs)/\H b=some (.lst zs)/\xs.length+zs.length<=sizeLine/\Q .non (upd H l (.lst (xs ++ zs)))
theorem Ih:MtM X "list.extend" Bt:=by
 intro pins s σ H x vs v us Q I rx rv h
 obtain ⟨l,b,xs,zs,rfl,rfl,hH,hB,hz,q⟩:=h
 cases rx
 obtain ⟨u,rfl,ru⟩:=rv.one
 cases ru
 obtain ⟨z,its,n,r,hl,e⟩:=I.lstM hH
 obtain ⟨z2,its2,n2,r2,hl2,e2⟩:=I.lstM hB
 have hsz:its.toArray.size+its2.toArray.size<=sizeLine:=by rw [List.size_toArray,List.size_toArray];omega
 have hlong:¬ (!its.toArray.isEmpty && Builtin.List.listTooLong (its.toArray.size+its2.toArray.size))=true:=by
  rw [jJv hsz,Bool.and_false]
  exact Bool.false_ne_true
 refine call_meets F.slot_list_extend ⟨_,e,rfl⟩ F.entry_list_extend (F.args_list_extend_2 _ _)
  (AutoSeq1.list_extend_list_list_0 l its.toArray n b its2.toArray n2 hlong (by rw [List.size_toArray];omega) (by omega)) ⟨e,e2,?_⟩
 refine ⟨.non,_,I.lset (its':=its ++ its2) hH e (by simp) (r.append r2) ?_,rfl,q⟩
 rw [List.length_append]
 omega
noncomputable def Cq:V->List V->Hp->VK->Prop:=fun x vs H Q=>∃ l xs i k y,x=.ref l/\vs=[.int i]/\H l=some (.lst xs)/\-(2 ^ 63)<=i/\i < 2 ^ 63/\seqIndex? i xs.length=some k/\xs[k]?=some y/\Q y (upd H l (.lst (xs.eraseIdx k)))
theorem Oi:MtM X "list.pop" Cq:=by
 intro pins s σ H x vs v us Q I rx rv h
 obtain ⟨l,xs,i,k,y,rfl,rfl,hH,h1,h2,hk,hy,q⟩:=h
 cases rx
 obtain ⟨u,rfl,ru⟩:=rv.one
 obtain ⟨t,rfl⟩:=ru
 obtain ⟨z,its,n,r,hl,e⟩:=I.lstM hH
 obtain ⟨w,hw,rw'⟩:=r.get hy
 refine call_meets F.slot_list_pop ⟨_,e,rfl⟩ F.entry_list_pop (F.args_list_pop_2 _ _)
  (MeetsSeq.list_pop_at l its.toArray n i t k w (fitsIndex_both h1 h2) (by rw [List.size_toArray,← hl];exact hk) (by rw [← Array.getElem?_toList];exact hw) (by rw [List.size_toArray];omega)) ⟨e,?_⟩
 refine ⟨y,_,I.lset (its':=its.eraseIdx k) hH e ?_ (r.eraseIdx k) ?_,rw',q⟩
 ·show its.toArray.eraseIdxIfInBounds k=(its.eraseIdx k).toArray
  rw [List.eraseIdxIfInBounds_toArray]
 ·have:=yM xs k
  omega
noncomputable def Rb:V->List V->Hp->VK->Prop:=fun x vs H Q=>∃ l xs,x=.ref l/\vs=[]/\H l=some (.lst xs)/\Q .non (upd H l (.lst []))
theorem jJw:MtM X "list.clear" Rb:=by
 intro pins s σ H x vs v us Q I rx rv h
 obtain ⟨l,xs,rfl,rfl,hH,q⟩:=h
 cases rx
 have hus:=rv.zero
 subst hus
 obtain ⟨z,its,n,r,hl,e⟩:=I.lstM hH
 refine call_meets F.slot_list_clear ⟨_,e,rfl⟩ F.entry_list_clear (F.args_list_clear_1 _) (AutoSeq1.list_clear_list_0 l its.toArray n (by rw [List.size_toArray];omega)) ⟨e,?_⟩
 exact ⟨.non,_,I.lset (its':=[]) (ys:=[]) hH e rfl .nil (Nat.zero_le _),rfl,q⟩
noncomputable def oW:R2:=fun x y H Q=>∃ l b xs zs,x=.ref l/\y=.ref b/\H l=some (.lst xs)/\H b=some (.lst zs)/\xs.length+zs.length<=sizeLine/\∀ p,H p=none->Q (.ref p) (upd H p (.lst (xs ++ zs)))
theorem pC:OpR X (binaryOp .Add) oW:=by
 intro pins s σ H x y v u Q I rx ry h
 obtain ⟨l,b,xs,zs,rfl,rfl,hH,hB,hz,q⟩:=h
 cases rx
 cases ry
 obtain ⟨z,its,n,r,hl,e⟩:=I.lstM hH
 obtain ⟨z2,its2,n2,r2,hl2,e2⟩:=I.lstM hB
 refine PySem.P.add_list e e2 ?_ (by rw [List.size_toArray,List.size_toArray];omega)
 have ea:its.toArray ++ its2.toArray=(its ++ its2).toArray:=by simp
 rw [ea]
 exact ⟨.ref _,_,I.lnew (t':=s.toks) (r.append r2) (by rw [List.length_append];omega),rfl,q _ I.fresh⟩
end
end L2
namespace Att
open PySem PySem.W PySem.Calls PyProof.Rows
theorem Bk {P:Params} {h:Heap}:∀ (ns:List Int) (vs:List Value),WellAll P h vs (ns.map WData.int)->IntsAre vs ns:=by
 intro ns
 induction ns with
 | nil =>
  intro vs w
  rw [List.map_nil] at w
  cases w
  exact .nil
 | cons n ns ih =>
  intro vs w
  rw [List.map_cons] at w
  cases w with
  | cons a b =>
   cases a
   exact .cons _ _ (ih _ b)
theorem Ww {l:OpenLaw} {n:Nat} (hn:l.most=some n) {P:Params} {h:Heap} {args:List WData} {vals:List Value}
  (hpre:l.row.toRowW.claim.pre args=true) (hwl:WellAll P h vals args) :
  ∃ a vs ns,vals=[Value.ref a]/\args=[WData.list (ns.map WData.int)]/\h.get? a=some { cls:=.type "list",data:=.seq vs.toArray }/\IntsAre vs ns/\ns.length<=n:=by
 have hsh:WShape.hasAll [] args [.list .int]=true:=(pre_splitW hpre).1
 have hc:l.pre.holds [] { args:=args }=true:=(pre_splitW hpre).2
 obtain ⟨d,r,rfl,h1,h2⟩:=hasAllW_cons hsh
 obtain rfl:=hasAllW_nil h2
 obtain ⟨xs,rfl,h3⟩:=hasW_list h1
 obtain ⟨ns,rfl⟩:=items_int h3
 have hlen:ns.length<=n:=by
  unfold OpenLaw.pre at hc
  have h4:(WTm.not (.lt (.lit (.int (n:Int))) (.len (.arg 0)))).holds [] { args:=[.list (ns.map .int)] }=true:=by
   have h4:=(holds_andW hc).1
   rw [hn] at h4
   exact h4
  have h5:=condW_of h4 (w_not (w_lt w_lit (w_len_list (w_arg rfl))))
  rw [List.length_map] at h5
  refine Nat.le_of_not_lt fun q=>?_
  have q':(n:Int) < ((ns.length:Nat):Int):=by omega
  first
   | (rw [decide_eq_true q'] at h5;exact absurd h5 (by decide))
   | (simp at h5;omega)
 cases hwl with
 | cons w1 w2 =>
  cases w2
  cases w1 with
  | list ho hall=>exact ⟨_,_,ns,rfl,rfl,ho,Bk ns _ hall,hlen⟩
theorem Xh (l:OpenLaw) (args:List WData):l.row.toRowW.claim.post args (.bool true) args=true :=
 postW_of (r:=l.row.toRowW) (X:=(true == true))
  (show WShape.has [] (.bool true) .bool=true by first | rfl | decide | simp [WShape.has,WShape.arms,WShape.armsAll])
  (show (WTm.eq .res (.lit (.bool true))).value [] { args:=args,res:=some (.bool true),after:=args }=some (.bool (true == true)) from w_eq_bool (w_res rfl) w_lit) rfl
theorem attach_call {l:OpenLaw} {n:Nat} {q:Program} {loose:List Str} {XP:(Str->Option Value)->Heap->Prop} {YP:World->Heap->Prop} {d:DefRec}
  (hn:l.most=some n) (hdf:d.params.defaults=[])
  (call:∀ (w:World) (s₀ s₁:Shared) (mg mb:Str->Option Value) (fa:Addr) (o:Obj) (pm cd doc:Value) (a:Addr) (vs:List Value) (ns:List Int),
   Ground q loose [] XP w s₀ mg mb s₁.heap->YP w s₁.heap ->
   s₁.heap.get? fa=some o->o.data=.func (docDef d.name d.params d.body d.scope pm cd doc)->s₁.heap.CodeRec cd d.name->mg d.name=some (.ref fa) ->
   s₁.heap.get? a=some { cls:=.type "list",data:=.seq vs.toArray }->IntsAre vs ns->ns.length<=n->s₁.gens=#[] ->
   codeAny (model l.prog w) callerA (.call (.ref fa) ⟨[.ref a],[]⟩) (fun r s'=>r=.ok (.ret (.bool true))/\OldK s₁.heap s'.heap/\s'.os=s₁.os/\AllBare s'.gens) s₁) :
  WalkO q loose XP YP l.row.toRowW d [] (fun f vs=>PySem.call f vs):=by
 intro w s₀ s₁ mg mb G Y fa o pm cd doc dV kV ho hd hcd hD hmg hg args vals as hpre hlay hrd hwl hlo
 obtain rfl:dV=.none:=Dflts.none hD hdf
 obtain rfl:kV=.none:=Dflts.noKw hD
 obtain ⟨a,vs,ns,rfl,rfl,hobj,hints,hlen⟩:=Ww hn hpre hwl
 refine enter_call (codeAny_mono (call w s₀ s₁ mg mb fa o pm cd doc a vs ns G Y ho (fd_plain hd) hcd hmg hobj hints hlen hg) fun r s' hq=>?_)
 obtain ⟨rfl,h2,h3,h4⟩:=hq
 exact ⟨.inl ⟨.bool true,.bool true,[],rfl,fun _=>rfl,.bool true,Xh l _,fun _=>⟨List.Pairwise.nil,fun _ hm=>(nomatch hm)⟩⟩,h2,h3,h4⟩
end Att
namespace L2
open PySem PySem.Spec PyProof.Rows
variable {A:Prop} {H:Hp} {k:Nat}
theorem He:∀ {vs:List Value} {ns:List Int},IntsAre vs ns->bO (ns.map V.int) vs
 | _,_,.nil=>.nil
 | _,_,.cons n t h=>.cons ⟨t,rfl⟩ (He h)
noncomputable def Only (H:Hp):Prop:=∀ b,H b=none∨∃ o xs,H b=some (.frz o (.lst xs))
theorem jJ5 {P:Program} {w:World} {K:PySem.W.Frag} {mg mb:Str->Option Value} {CX:CXT} {fa a:Addr} {fd:FuncData} {x:Str} {sp:Sp} {s₁:Shared} {vs:List Value} {ns:List Int}
  (KX:K.In s₁.heap) (hns:s₁.heap.Ns mainGlobals mg) (hb:s₁.heap.Ns builtinsNs mb) (hbb:∀ x:Str,x ≠ "__name__" -> mb x=bootBuiltins x) (hlim:s₁.heap.NoLimit) (hg:s₁.gens=#[])
  (ha:s₁.heap.get? a=some { cls:=.type "list",data:=.seq vs.toArray }) (hi:IntsAre vs ns) (hl:ns.length<=sizeLine) (hr:eX k callerA)
  (F:∀ base:Heap,K.In base->base.Ns mainGlobals mg->oZ P w K mg base CX k fa fd [x] sp) (hbind:∀ (s:Shared) (u:Value),BindsTo s fd ⟨[u],[]⟩ [(x,u)])
  (hsp:∀ H:Hp,Only H->SqL K H a (ns.map V.int)->sp [.ref a] H (fun v _=>v=.bl true) fun _ _ _=>False)
  (hCX:∀ H e s',CX [] H s₁ (fun _ _ _=>False) e s'->False) :
  codeAny (model P w) callerA (.call (.ref fa) ⟨[.ref a],[]⟩) (fun r s'=>r=.ok (.ret (.bool true))/\OldK s₁.heap s'.heap/\s'.os=s₁.os/\AllBare s'.gens) s₁:=by
 have rv:=He hi
 have lenV:=hi.length
 -- from an abstract heap in which nothing but the script may be tracked
 have core:∀ H:Hp,Only H->SqL K H a (ns.map V.int)->HOk P w H s₁.heap->(∀ b,H b≠none->b=a)->(H a≠none->K.lookup a=none) ->
   codeAny (model P w) callerA (.call (.ref fa) ⟨[.ref a],[]⟩) (fun r s'=>r=.ok (.ret (.bool true))/\OldK s₁.heap s'.heap/\s'.os=s₁.os/\AllBare s'.gens) s₁:=by
  intro H hO hS hok hA hK
  have base_of:∀ {b:Addr} {o:Obj},s₁.heap.get? b=some o->H b=none->(Js s₁.heap H).get? b=some o:=fun e n=>jZZ e n
  have noA:∀ {b:Addr} {o:Obj} {es:Array DictEntry} {ep:Nat},s₁.heap.get? b=some o->o.data=.dict es ep->H b=none:=fun {b o es ep} e d=>by
   cases q:H b with
   | none=>rfl
   | some u =>
    have e':b=a:=hA b (by rw [q];simp)
    subst e'
    rw [ha] at e;cases e
    have d':Data.seq vs.toArray _=Data.dict es ep:=d
    cases d'
  have nsK:∀ {b:Addr} {m:Str->Option Value},s₁.heap.Ns b m->(Js s₁.heap H).Ns b m:=fun {b m} ⟨o,es,ep,e,d,r⟩=>⟨o,es,ep,base_of e (noA e d),d,r⟩
  have hKb:K.In (Js s₁.heap H):=fun b o e=>base_of (KX b o e) (by
   cases q:H b with
   | none=>rfl
   | some u =>
    have e':b=a:=hA b (by rw [q];simp)
    subst e'
    rw [hK (by rw [q];simp)] at e;cases e)
  have hM:Mod K mg (Js s₁.heap H):=⟨hKb,nsK hns,⟨mb,nsK hb,hbb⟩,let ⟨mc,h1,h2⟩:=hlim;⟨mc,nsK h1,h2⟩⟩
  have e0:Qp P w K mg (Js s₁.heap H) callerA [] s₁ H:=⟨rfl,hM,fun b o e=>of_hidT e,Nat.le_of_eq (Yj _ _),trivial,fun b hb=>absurd (show b∈([]:List Addr) from hb) (by simp),hok,.of_eq hg⟩
  refine codeAny_mono ((F _ hKb (nsK hns)).run callerA [] s₁ H ⟨[.ref a],[]⟩ [.ref a] [.ref a] _ _ hr e0 (hbind s₁ (.ref a)) (.cons rfl .nil) (hsp H hO hS)) fun r s' h=>?_
  cases r with
  | error e=>exact (hCX H e s' h).elim
  | ok fl =>
   cases fl with
   | next=>exact False.elim h
   | brk=>exact False.elim h
   | cont=>exact False.elim h
   | ret u =>
    obtain ⟨v,H',os,bare,un,hok',r',q⟩:=h
    have q':v=.bl true:=q
    subst q'
    obtain rfl:u=Value.bool true:=r'
    refine ⟨rfl,OldK.of_keep fun b o e=>?_,os,bare⟩
    cases q:H b with
    | none=>exact un.keep b o e q (by intro z;exact absurd (show b∈([]:List Addr) from z) (by simp)) (by simp)
    | some u =>
     rcases hO b with z | ⟨ob,xs,z⟩
     ·rw [q] at z;cases z
     ·have z2:=un.frzs b ob _ z
      obtain ⟨e1,_⟩:=hok b _ z
      obtain ⟨e2,_⟩:=hok' b _ z2
      rw [e] at e1;cases e1
      exact e2
 cases hk:K.lookup a with
 | some o =>
  -- the script is one of the module's own objects
  have e:=KX a o hk
  rw [ha] at e
  cases e
  refine core (fun _=>none) (fun _=>.inl rfl) (.inr ⟨_,vs.toArray,_,hk,rfl,rfl,rfl,by rw [List.size_toArray,lenV];exact hl,by simpa using rv⟩) (fun b u z=>by have z':(none:Option HO)=some u:=z;cases z') (fun b z=>absurd rfl z) fun z=>absurd rfl z
 | none =>
  refine core (fun b=>if b=a then some (.frz { cls:=.type "list",data:=.seq vs.toArray } (.lst (ns.map V.int))) else none) (fun b=>?_) (.inl (.inr ⟨{ cls:=.type "list",data:=.seq vs.toArray },if_pos rfl⟩)) (fun b u z=>?_) (fun b z=>?_) fun _=>hk
  ·by_cases hb:b=a
   ·exact .inr ⟨_,_,if_pos hb⟩
   ·exact .inl (if_neg hb)
  ·by_cases hb:b=a
   ·have z':=(if_pos hb).symm.trans z
    cases z'
    subst hb
    exact ⟨ha,by rw [List.length_map];exact hl,vs,_,rv,ha⟩
   ·have z':=(if_neg hb).symm.trans z
    cases z'
  ·by_cases hb:b=a
   ·exact hb
   ·exact absurd (if_neg hb) z
theorem walk_of {l:PySem.W.OpenLaw} {n:Nat} {q:Program} {loose:List Str} {XP:(Str->Option Value)->Heap->Prop} {YP:World->Heap->Prop} {d:DefRec} {K:Params->PySem.W.Frag} {CX:World->CXT} {sp:World->Sp} {x:Str}
  (hn:l.most=some n) (hn2:n<=sizeLine) (hdf:d.params.defaults=[]) (hr:eX k callerA)
  (hY:∀ (w:World) (h:Heap),YP w h->(K w.params).In h)
  (F:∀ (w:World) (mg:Str->Option Value) (fa:Addr) (h:Heap),(K w.params).In h->h.Ns mainGlobals mg->mg d.name=some (.ref fa) ->
   ∃ fd:FuncData,(∀ (s:Shared) (u:Value),BindsTo s fd ⟨[u],[]⟩ [(x,u)]) /\
    ∀ base:Heap,(K w.params).In base->base.Ns mainGlobals mg->oZ l.prog w (K w.params) mg base (CX w) k fa fd [x] (sp w))
  (hsp:∀ (w:World) (H:Hp) (a:Addr) (ns:List Int),ns.length<=n->Only H->SqL (K w.params) H a (ns.map V.int)->sp w [.ref a] H (fun v _=>v=.bl true) fun _ _ _=>False)
  (hCX:∀ (w:World) (H:Hp) (s:Shared) (e:Value) (s':Shared),CX w [] H s (fun _ _ _=>False) e s'->False) :
  PySem.W.WalkO q loose XP YP l.row.toRowW d [] (fun f vs=>PySem.call f vs):=by
 refine Att.attach_call hn hdf fun w s₀ s₁ mg mb fa o pm cd doc a vs ns G Y ho hd hcd hmg hobj hints hlen hg=>?_
 have KX:=hY w _ Y
 obtain ⟨fd,hb,hF⟩:=F w mg fa _ KX G.T.g hmg
 exact jJ5 KX G.T.g G.T.b G.T.builtins G.T.nolimit hg hobj hints (Nat.le_trans hlen hn2) hr hF hb (fun H hO hS=>hsp w H a ns hlen hO hS) fun H e s'=>hCX w H s₁ e s'
noncomputable def gD (s:Stmt) (j:Nat):Stmt:=match s with
 | .ClassDef _ _ _ body _ _ _ _ _ _ _=>body.getD j (.Pass ⟨0,0,0,0⟩)
 | _=>.Pass ⟨0,0,0,0⟩
noncomputable def iZ (s:Stmt):Arguments:=match s with
 | .FunctionDef _ a _ _ _ _ _ _ _ _=>a
 | _=>{ posonlyargs:=[],args:=[],vararg:=none,kwonlyargs:=[],kw_defaults:=[],kwarg:=none,defaults:=[] }
noncomputable def fO (s:Stmt):List Stmt:=match s with
 | .FunctionDef _ _ b _ _ _ _ _ _ _=>b
 | _=>[]
noncomputable def bA (s:Stmt):Scope:=match s with
 | .FunctionDef _ _ _ _ _ _ sc _ _ _=>sc
 | _=>{ kind:=.function,names:=[],isGenerator:=false,isCoroutine:=false }
noncomputable abbrev CX0:CXT:=fun _ _ _ _ _ _=>False
noncomputable abbrev E0:XK:=fun _ _ _=>False
theorem Ue {X:Cx}:qY CX0 X E0:=fun _ _ _ _ _ _ _ h=>h.elim
theorem zF {A:Around} (hr:eX k A):A.units+1 < cLine:=Nat.lt_of_le_of_lt (Nat.add_le_add_left (by decide:1<=64) _) hr.units
theorem Jr {B:Prop} (h:B):if false=true then A else B:=by
 rw [if_neg Bool.false_ne_true]
 exact h
theorem Ze {B:Prop} (h:A):if true=true then A else B:=by
 rw [if_pos rfl]
 exact h
theorem vF {c B:Prop} [Decidable c] (h1:c->A) (h2:¬ c->B):if c then A else B:=by
 by_cases h:c
 ·rw [if_pos h]
  exact h1 h
 ·rw [if_neg h]
  exact h2 h
theorem iteNS {c B:Prop} [Decidable c] (hc:c) (h:B):if (!decide c)=true then A else B:=by
 rw [decide_eq_true hc]
 exact Jr h
noncomputable def aF (H H':Hp):Prop:=∀ b o,H b=some o->H' b=some o
theorem aF.refl (H:Hp):aF H H:=fun _ _ h=>h
theorem aF.trans {H1 H2:Hp} (a:aF H H1) (b:aF H1 H2):aF H H2:=fun c o h=>b c o (a c o h)
theorem aF.free {H':Hp} (e:aF H H') {l:Addr} (h:H' l=Option.none):H l=Option.none:=by
 cases q:H l with
 | none=>rfl
 | some o =>
  rw [e l o q] at h
  cases h
theorem aF.seq {K:PySem.W.Frag} {H':Hp} {a:Addr} {xs:List V} (e:aF H H') (h:SqL K H a xs):SqL K H' a xs:=by
 rcases h with (h | ⟨o,h⟩) | h
 ·exact .inl (.inl (e _ _ h))
 ·exact .inl (.inr ⟨o,e _ _ h⟩)
 ·exact .inr h
end L2
set_option Elab.async false
set_option linter.all false
set_option maxRecDepth 100000
set_option maxHeartbeats 4000000
namespace L2
open PySem PySem.Spec PyProof.Rows
variable {H H':Hp} {P:Program} {Q:Value->Shared->Prop} {a:Addr} {kvs:List (List Key×V)} {u:Value} {xs:List (List Key×Addr×Value)} {y:V}
section
variable {κ:Type} [DecidableEq κ]
noncomputable def iF (kvs:List (κ×V)) (k:κ):Option V:=(kvs.find? fun kv=>decide (kv.1=k)).map (·.2)
noncomputable def oX (kvs:List (κ×V)) (k:κ) (v:V):List (κ×V) :=
 if (kvs.any fun kv=>decide (kv.1=k))=true then kvs.map (fun kv=>if kv.1=k then (kv.1,v) else kv) else kvs ++ [(k,v)]
theorem eK {p:κ×V} {r:List (κ×V)} {k:κ} (e:p.1=k):iF (p :: r) k=some p.2:=by simp [iF,List.find?_cons,e]
theorem eL {p:κ×V} {r:List (κ×V)} {k:κ} (e:¬ p.1=k):iF (p :: r) k=iF r k:=by simp [iF,List.find?_cons,e]
theorem rA (k:κ):∀ kvs:List (κ×V),(kvs.any fun kv=>decide (kv.1=k))=(iF kvs k).isSome
 | []=>rfl
 | p :: r=>by
  rw [List.any_cons]
  by_cases e:p.1=k
  ·simp only [eK e,decide_eq_true e,Bool.true_or,Option.isSome_some]
  ·rw [eL e,decide_eq_false e,Bool.false_or];exact rA k r
theorem Nj (k j:κ) (y:V):∀ kvs:List (κ×V),iF (kvs.map fun kv=>if kv.1=k then (kv.1,y) else kv) j=(iF kvs j).map fun x=>if j=k then y else x
 | []=>rfl
 | p :: r=>by
  have ih:=Nj k j y r
  rw [List.map_cons]
  by_cases h:p.1=k
  ·rw [if_pos h]
   by_cases e:p.1=j
   ·rw [eK (p:=(p.1,y)) e,eK e,Option.map_some,if_pos (e.symm.trans h)]
   ·rw [eL (p:=(p.1,y)) e,eL e,ih]
  ·rw [if_neg h]
   by_cases e:p.1=j
   ·rw [eK (p:=p) e,eK e,Option.map_some,if_neg (fun z=>h (e.trans z))]
   ·rw [eL (p:=p) e,eL e,ih]
theorem Hf (k j:κ) (y:V):∀ kvs:List (κ×V),iF kvs k=none->iF (kvs ++ [(k,y)]) j=if j=k then some y else iF kvs j
 | [],_=>by
  by_cases e:k=j
  ·rw [if_pos e.symm];exact eK (p:=(k,y)) e
  ·rw [if_neg (fun z=>e z.symm)];exact eL (p:=(k,y)) e
 | p :: r,hn=>by
  rw [List.cons_append]
  have hk:¬ p.1=k:=fun z=>by rw [eK z] at hn;cases hn
  rw [eL hk] at hn
  have ih:=Hf k j y r hn
  by_cases e:p.1=j
  ·rw [eK e,eK e,if_neg (fun z=>hk (e.trans z))]
  ·rw [eL e,eL e,ih]
theorem Ni (kvs:List (κ×V)) (k j:κ) (y:V):iF (oX kvs k y) j=if j=k then some y else iF kvs j:=by
 unfold oX
 by_cases a:(kvs.any fun kv=>decide (kv.1=k))=true
 ·rw [if_pos a,Nj]
  rw [rA] at a
  by_cases e:j=k
  ·obtain ⟨x,hx⟩:=Option.isSome_iff_exists.mp a
   rw [if_pos e,e,hx,Option.map_some,if_pos rfl]
  ·rw [if_neg e]
   cases iF kvs j with
   | none=>rfl
   | some x=>rw [Option.map_some,if_neg e]
 ·rw [if_neg a]
  refine Hf k j y kvs ?_
  rw [rA] at a
  cases q:iF kvs k with
  | none=>rfl
  | some x=>rw [q] at a;exact (a rfl).elim
theorem rS (kvs:List (κ×V)) (k:κ) (v:V):(oX kvs k v).length<=kvs.length+1:=by
 unfold oX
 split
 ·rw [List.length_map];omega
 ·rw [List.length_append,List.length_cons,List.length_nil];omega
theorem jJj {kvs:List (κ×V)} {k:κ} (v:V) (h:iF kvs k=none):oX kvs k v=kvs ++ [(k,v)]:=by
 unfold oX
 rw [rA,h]
 exact if_neg (by decide)
theorem tM.isSome_eq {o:Option V} {u:Option Value} (r:tM o u):o.isSome=u.isSome:=by
 cases o with
 | none=>cases u with
  | none=>rfl
  | some _=>exact (show False from r).elim
 | some _=>cases u with
  | none=>exact (show False from r).elim
  | some _=>rfl
theorem KV.val {kvs:List (κ×V)} {vs:List (κ×Value)} (r:KV kvs vs) (k:κ):tM (iF kvs k) (valueAt vs k):=by
 unfold KV at r
 induction r with
 | nil=>exact True.intro
 | @cons p q ps qs h t ih =>
  obtain ⟨h1,h2⟩:=h
  by_cases e:p.1=k
  ·have e':q.1=k:=h1.symm.trans e
   have b:valueAt (q :: qs) k=some q.2:=by simp [valueAt,List.find?_cons,e']
   rw [eK e,b];exact h2
  ·have e':¬ q.1=k:=fun z=>e (h1.trans z)
   have b:valueAt (q :: qs) k=valueAt qs k:=by simp [valueAt,List.find?_cons,e']
   rw [eL e,b];exact ih
theorem KV.any {kvs:List (κ×V)} {vs:List (κ×Value)} (r:KV kvs vs) (k:κ):(kvs.any fun kv=>decide (kv.1=k))=vs.any fun kv=>decide (kv.1=k):=by
 unfold KV at r
 induction r with
 | nil=>rfl
 | cons h t ih=>rw [List.any_cons,List.any_cons,ih,h.1]
theorem KV.repl {kvs:List (κ×V)} {vs:List (κ×Value)} (r:KV kvs vs) (k:κ) (ry:bR y u) :
  KV (kvs.map fun kv=>if kv.1=k then (kv.1,y) else kv) (vs.map fun kv=>if kv.1=k then (kv.1,u) else kv):=by
 unfold KV at r ⊢
 induction r with
 | nil=>exact .nil
 | @cons p q ps qs h t ih =>
  rw [List.map_cons,List.map_cons]
  refine .cons ?_ ih
  obtain ⟨h1,h2⟩:=h
  by_cases e:p.1=k
  ·rw [if_pos e,if_pos (h1.symm.trans e)];exact ⟨h1,ry⟩
  ·rw [if_neg e,if_neg (fun z=>e (h1.trans z))];exact ⟨h1,h2⟩
theorem KV.put {kvs:List (κ×V)} {vs:List (κ×Value)} (r:KV kvs vs) (k:κ) (ry:bR y u):KV (oX kvs k y) (stored vs k u):=by
 unfold oX stored
 rw [r.any k]
 by_cases e:(vs.any fun kv=>decide (kv.1=k))=true
 ·rw [if_pos e,if_pos e];exact r.repl k ry
 ·rw [if_neg e,if_neg e];exact Paired.snoc r ⟨rfl,ry⟩
theorem KV.length {kvs:List (κ×V)} {vs:List (κ×Value)} (r:KV kvs vs):kvs.length=vs.length:=Paired.length r
end
theorem Ug {w:World} {k:Key} (r:bR (kV k) u):(eS P w).is k u=true:=by
 cases k with
 | inl i=>obtain ⟨t,e⟩:=(show ∃ t,u=Value.int i t from r);subst e;exact Pt P w i t
 | inr x=>obtain ⟨t,e⟩:=(show ∃ t,u=Value.str x t from r);subst e;exact Pr P w x t
theorem Ik {P:Program} {w:World}:∀ {ks:List Key} {us:List Value},bO (ks.map kV) us->ItemsAre (eS P w) ks us
 | [],_,r=>by rw [List.map_nil] at r;cases r;exact .nil
 | k :: ks,_,r=>by
  rw [List.map_cons] at r
  cases r with
  | cons h t=>exact .cons (Ug h) (Ik t)
noncomputable abbrev KT (H:Hp):List (List Key×V)->List (List Key×Addr×Value)->Prop:=Paired fun p q=>p.1=q.1/\H q.2.1=some (.tup (p.1.map kV))/\bR p.2 q.2.2
theorem KT.val (r:KT H kvs xs) (k:List Key):tM (iF kvs k) ((atKey xs k).map (·.2)):=by
 induction r with
 | nil=>exact True.intro
 | @cons p q ps qs h t ih =>
  obtain ⟨h1,_,h2⟩:=h
  by_cases e:p.1=k
  ·have e':q.1=k:=h1.symm.trans e
   have b:atKey (q :: qs) k=some q.2:=by simp [atKey,List.find?_cons,e']
   rw [eK e,b];exact h2
  ·have e':¬ q.1=k:=fun z=>e (h1.trans z)
   have b:atKey (q :: qs) k=atKey qs k:=by simp [atKey,List.find?_cons,e']
   rw [eL e,b];exact ih
theorem KT.repl (r:KT H kvs xs) (k:List Key) (ry:bR y u) :
  KT H (kvs.map fun kv=>if kv.1=k then (kv.1,y) else kv) (xs.map (putAt k u)):=by
 induction r with
 | nil=>exact .nil
 | @cons p q ps qs h t ih =>
  rw [List.map_cons,List.map_cons]
  refine .cons ?_ ih
  obtain ⟨h1,h2,h3⟩:=h
  unfold putAt
  by_cases e:p.1=k
  ·rw [if_pos e,if_pos (h1.symm.trans e)];exact ⟨h1,h2,ry⟩
  ·rw [if_neg e,if_neg (fun z=>e (h1.trans z))];exact ⟨h1,h2,h3⟩
theorem KT.put (r:KT H kvs xs) (k:List Key) {b:Addr} (hb:H b=some (.tup (k.map kV))) (ry:bR y u) :
  KT H (oX kvs k y) (storedH xs k b u):=by
 have e:(kvs.any fun kv=>decide (kv.1=k))=(atKey xs k).isSome:=by
  rw [rA,(r.val k).isSome_eq,Option.isSome_map]
 unfold oX storedH
 rw [e]
 by_cases q:(atKey xs k).isSome=true
 ·rw [if_pos q,if_pos q];exact r.repl k ry
 ·rw [if_neg q,if_neg q];exact Paired.snoc r ⟨rfl,hb,ry⟩
theorem KT.keeps (r:KT H kvs xs) (ht:∀ b ys,H b=some (.tup ys)->H' b=some (.tup ys)):KT H' kvs xs :=
 Paired.mapP r fun _ _ z=>⟨z.1,ht _ _ z.2.1,z.2.2⟩
section
variable {P:Program} {w:World} {H:Hp} {h:Heap} {a:Addr}
theorem rd_of {u:HO} (ok:HOk P w H h) (e:Rd H a u):dE P w H h a u:=e.ok ok
theorem Uj {kvs:List (Key×V)} (ok:HOk P w H h) (e:Rd H a (.dK kvs)):kvs.length<=sizeLine/\(a == sysModules)=false/\∃ vs,KV kvs vs/\h.DictOf (eS P w) a vs :=
 show dE P w H h a (.dK kvs) from rd_of ok e
theorem dk_of {kvs:List (Key×V)} (ok:HOk P w H h) (e:H a=some (.dK kvs)):kvs.length<=sizeLine/\(a == sysModules)=false/\∃ vs,KV kvs vs/\h.DictOf (eS P w) a vs:=Uj ok (.inl e)
theorem Cv {ks:List Key} (ok:HOk P w H h) (e:H a=some (.tup (ks.map kV))):(tupleKind (eS P w)).is h ks a:=by
 obtain ⟨_,its,r,o,h1,h2,n,h3⟩:=(show dE P w H h a (.tup (ks.map kV)) from ok a _ e)
 exact ⟨o,its.toArray,n,h1,h2,h3,by simpa using Ik r⟩
theorem Ui (ok:HOk P w H h) (e:Rd H a (.dT kvs)):kvs.length<=sizeLine/\(a == sysModules)=false /\
  ∃ xs,KT H kvs xs/\h.DictOfH (tupleKind (eS P w)) a xs:=by
 obtain ⟨z,y,xs,r,o,es,ep,h1,h2,h3,h4,h5⟩:=(show dE P w H h a (.dT kvs) from rd_of ok e)
 refine ⟨z,y,xs,r,o,es,ep,h1,h2,h3,h4,fun x hx=>?_,h5⟩
 have all:∀ {l:List (List Key×V)} {m:List (List Key×Addr×Value)},KT H l m->∀ x∈m,(tupleKind (eS P w)).is h x.1 x.2.1:=by
  intro l m q
  induction q with
  | nil=>intro x hx;exact nomatch hx
  | @cons p q ps qs hq t ih =>
   intro x hx
   rcases List.mem_cons.mp hx with e | hx
   ·subst e
    exact Cv ok (by rw [← hq.1];exact hq.2.1)
   ·exact ih x hx
 exact all r x hx
theorem dt_of (ok:HOk P w H h) (e:H a=some (.dT kvs)):kvs.length<=sizeLine/\(a == sysModules)=false /\
  ∃ xs,KT H kvs xs/\h.DictOfH (tupleKind (eS P w)) a xs:=Ui ok (.inl e)
end
noncomputable def Ci (H:Hp) (a:Addr) (y:V) (r:Option V):Prop :=
 (∃ kvs k,Rd H a (.dK kvs)/\y=kV k/\r=iF kvs k)∨∃ kvs k b,Rd H a (.dT kvs)/\y=.ref b/\H b=some (.tup (k.map kV))/\r=iF kvs k
noncomputable def Qq (H:Hp) (a:Addr) (y v:V) (H':Hp):Prop :=
 (∃ kvs k,H a=some (.dK kvs)/\y=kV k/\kvs.length < sizeLine/\H'=upd H a (.dK (oX kvs k v))) ∨
 ∃ kvs k b,H a=some (.dT kvs)/\y=.ref b/\H b=some (.tup (k.map kV))/\kvs.length < sizeLine/\H'=upd H a (.dT (oX kvs k v))
theorem Ci.t {b:Addr} {k:List Key} (e:H a=some (.dT kvs)) (eb:H b=some (.tup (k.map kV))):Ci H a (.ref b) (iF kvs k):=.inr ⟨kvs,k,b,.inl e,rfl,eb,rfl⟩
theorem Qq.t {b:Addr} {k:List Key} {v:V} (e:H a=some (.dT kvs)) (eb:H b=some (.tup (k.map kV))) (hl:kvs.length < sizeLine) :
  Qq H a (.ref b) v (upd H a (.dT (oX kvs k v))):=.inr ⟨kvs,k,b,e,rfl,eb,hl,rfl⟩
section
variable {X:Cx} {pins:List (Addr×Obj)} {σ:St} {H:Hp} {s:Shared} {a:Addr} {y v:V} {u r:Value} {o:Option V} {A:Around} {E:Value->Shared->Prop}
theorem Inv.big (I:Inv X pins σ H s):sysModules < s.heap.objs.size:=by
 have h:mainGlobals < s.heap.objs.size:=(I.mod.glob.keeps I.bk).lt
 exact Nat.lt_trans (by decide) h
theorem Yn (hu:A.units+1 < cLine) (I:Inv X pins σ H s) (g:Ci H a y (some v)) (ry:bR y u) (h:∀ w' s',Inv X pins σ H s'->bR v w'->Q w' s') :
  wpAny (model X.prog X.w) A (getItem (.ref a) u) Q E s:=by
 rcases g with ⟨kvs,k,e,ey,l⟩ | ⟨kvs,k,b,e,ey,eb,l⟩
 ·subst ey
  obtain ⟨z,hd,vs,rel,dd⟩:=Uj I.hok e
  obtain ⟨w',hw,rw'⟩:=tM.some_of (v:=v) (o:=valueAt vs k) (by rw [l];exact rel.val k)
  exact wpAny_getItem_of (Ug ry) dd.mapOf hw (h w' _ (I.tok _) rw')
 ·subst ey
  cases (show u=Value.ref b from ry)
  obtain ⟨z,hd,xs,rel,dd⟩:=Ui I.hok e
  obtain ⟨w',hw,rw'⟩:=tM.some_of (v:=v) (o:=(atKey xs k).map (·.2)) (by rw [l];exact rel.val k)
  obtain ⟨p,hp,hp2⟩:=Option.map_eq_some_iff.mp hw
  refine wpAny_getItem_heap (tupleKind_room_in1 hu) (Cv I.hok eb) dd hp ?_
  rw [hp2]
  exact h w' _ (I.tok _) rw'
theorem d_notIn (hu:A.units+1 < cLine) (I:Inv X pins σ H s) (g:Ci H a y o) (ry:bR y u) (h:∀ s',Inv X pins σ H s'->Q (.bool (!o.isSome)) s') :
  wpAny (model X.prog X.w) A (compareOp .NotIn u (.ref a)) Q E s:=by
 rcases g with ⟨kvs,k,e,ey,l⟩ | ⟨kvs,k,b,e,ey,eb,l⟩
 ·subst ey
  obtain ⟨z,hd,vs,rel,dd⟩:=Uj I.hok e
  refine wpAny_notIn_of (Ug ry) hd dd.mapOf ?_
  rw [← (rel.val k).isSome_eq,← l]
  exact h _ (I.tok _)
 ·subst ey
  cases (show u=Value.ref b from ry)
  obtain ⟨z,hd,xs,rel,dd⟩:=Ui I.hok e
  refine wpAny_notIn_heap (tupleKind_room_in1 hu) (Cv I.hok eb) hd dd ?_
  have q:=(rel.val k).isSome_eq
  rw [Option.isSome_map] at q
  rw [← q,← l]
  exact h _ (I.tok _)
theorem Vz {h':Heap} {t':Nat} {ob:HO} (I:Inv X pins σ H s) (mu:Mut (H a)) (hs:Heap.SameBut a s.heap h') (he:∃ q,h'.get? a=some q) (new:dE X.prog X.w (upd H a ob) h' a ob) :
  Inv X pins σ (upd H a ob) { s with heap:=h',toks:=t' } :=
 I.write (x:=a) (e:=a) mu (.inl rfl) (fun b q hb z=>(hs.2 b hb).trans z) he new
theorem dk_new {w:World} {h':Heap} {kvs:List (Key×V)} {vs:List (Key×Value)} (z:kvs.length<=sizeLine) (hd:(a == sysModules)=false) (rel:KV kvs vs) (dd:h'.DictOf (eS P w) a vs) :
  dE P w H' h' a (.dK kvs):=⟨z,hd,vs,rel,dd⟩
theorem Ym {Q:Unit->Shared->Prop} (hu:A.units+1 < cLine) (I:Inv X pins σ H s) (g:Qq H a y v H') (ry:bR y u) (rv:bR v r) (h:∀ s',Inv X pins σ H' s'->Q () s') :
  wpAny (model X.prog X.w) A (setItem (.ref a) u r) Q E s:=by
 rcases g with ⟨kvs,k,e,ey,l,eH⟩ | ⟨kvs,k,b,e,ey,eb,l,eH⟩
 ·subst ey eH
  obtain ⟨z,hd,vs,rel,dd⟩:=dk_of I.hok e
  have hz:vs.length<=sizeLine:=by rw [← rel.length];exact z
  have hl:(oX kvs k v).length<=sizeLine:=by have:=rS kvs k v;omega
  refine wpAny_setItem_pairs (hsz:=hz) (Ug ry) dd fun h' dd' hs=>h _ ?_
  have he:∃ q,h'.get? a=some q:=let ⟨q,_,_,hq,_⟩:=dd';⟨q,hq⟩
  exact Vz I (by rw [e];exact True.intro) hs he (dk_new hl hd (rel.put k rv) dd')
 ·subst ey eH
  cases (show u=Value.ref b from ry)
  obtain ⟨z,hd,xs,rel,dd⟩:=dt_of I.hok e
  have hz:xs.length<=sizeLine:=by rw [← Paired.length rel];exact z
  have hl:(oX kvs k v).length<=sizeLine:=by have:=rS kvs k v;omega
  refine wpAny_setItem_heap (hsz:=hz) (tupleKind_room_in1 hu) (Cv I.hok eb) dd fun h' dd' hs=>h _ ?_
  obtain ⟨q,es,ep,hq,h2,h3,h4,_,h5⟩:=dd'
  refine Vz I (by rw [e];exact True.intro) hs ⟨q,hq⟩ ⟨hl,hd,_,(rel.put k eb rv).keeps fun c ys ec=>?_,q,es,ep,hq,h2,h3,h4,h5⟩
  rw [aR (gM ec e (fun z=>nomatch z))]
  exact ec
end
noncomputable def NoSl (i:Expr):Prop:=∀ ov iv,subscripted i false ov iv=operate [ov,iv] (getItem ov iv)
theorem subD_of {prog:Program} {w:World} {A:Around} {E:Value->Shared->Prop} {s:Shared} {env:Env} {value slice:Expr} {pos:Pos} {T id:String}
  (hl:typeLookup (.type T) "__getitem__" = pure (some (.builtin id))) (hs:NoSl slice)
  (h:wpAny (model prog w) A (eval value env) (fun o s₁=>wpAny (model prog w) A (eval slice env) (fun i s₂=>s₂.TypeIs o T/\wpAny (model prog w) A (getItem o i) Q E s₂) E s₁) E s) :
  wpAny (model prog w) A (eval (.Subscript value slice pos) env) Q E s:=by
 refine Subscript_ (wpAny_mono h (fun o s₁ h₁=>wpAny_mono h₁ (fun i s₂ h₂=>?_) fun _ _ x=>x) fun _ _ x=>x)
 obtain ⟨hT,h₂⟩:=h₂
 unfold subscriptTail
 refine wpAny_bind ?_
 rw [getitemInPython_of_ne hT.not_modules]
 refine wpAny_bind (wpAny_specialOf hT hl ?_)
 have fin:wpAny (model prog w) A (subscripted slice false o i) (fun r s₃=>wpAny (model prog w) A (letTemporaryGo value o r >>= fun _=>pure r) Q E s₃) E s₂:=by
  rw [hs o i]
  exact wpAny_operating (wpAny_mono h₂ (fun r s₃ h₃=>wpAny_bind (wpAny_letTemporaryGo (wpAny_pure h₃))) fun _ _ x=>x)
 first
  | exact wpAny_pure (wpAny_bind fin)
  | exact wpAny_bind (wpAny_pure (wpAny_bind fin))
  | exact wpAny_bind fin
theorem Qk {X:Cx} {pins:List (Addr×Obj)} {σ:St} {s:Shared} {o:Option V} (I:Inv X pins σ H s) (g:Ci H a y o):s.TypeIs (.ref a) "dict":=by
 rcases g with ⟨kvs,k,e,_,_⟩ | ⟨kvs,k,b,e,_,_,_⟩
 ·obtain ⟨_,_,vs,_,dd⟩:=Uj I.hok e
  exact dd.typeIs
 ·obtain ⟨_,_,xs,_,dd⟩:=Ui I.hok e
  exact dd.typeIs
noncomputable def Ck (td ty:TE):TE:=fun σ H Q=>td σ H fun x H1=>ty σ H1 fun y H2=>∃ a v,x=.ref a/\Ci H2 a y (some v)/\Q v H2
noncomputable def Kk (ty td:TE):TE:=fun σ H Q=>ty σ H fun y H1=>td σ H1 fun x H2=>∃ a o,x=.ref a/\Ci H2 a y o/\Q (.bl (!o.isSome)) H2
noncomputable def zC (td ty tv:TE):TS:=fun D σ H=>tv σ H fun v H1=>td σ H1 fun x H2=>ty σ H2 fun y H3=>∃ a H4,x=.ref a/\Qq H3 a y v H4/\D.nx σ H4
section
variable {X:Cx} {o i e value:Expr} {pos pos' tpos:Pos} {td ty tv:TE}
theorem Kt (hu:X.A.units+1 < cLine) (ho:PE X o td) (hi:PE X i ty) (hs:NoSl i):PE X (.Subscript o i pos) (Ck td ty):=by
 intro pins s σ H Q I h
 refine subD_of PySem.F.slot_dict_getitem.lookup hs (thn (ho pins s σ H _ I h) fun u s1 ⟨x,H1,I1,rx,q1⟩=>thn (hi pins s1 σ H1 _ I1 q1) fun iv s2 ⟨y,H2,I2,ry,a,v,ex,g,q2⟩=>?_)
 subst ex
 obtain rfl:u=Value.ref a:=rx
 exact ⟨Qk I2 g,Yn hu I2 g ry fun w' s3 I3 rw'=>⟨v,H2,I3,rw',q2⟩⟩
theorem Xi (hu:X.A.units+1 < cLine) (hi:PE X i ty) (ho:PE X o td):PC X .NotIn i o (Kk ty td):=by
 intro pins s σ H Q I h
 refine thn (hi pins s σ H _ I h) fun iv s1 ⟨y,H1,I1,ry,q1⟩=>thn (ho pins s1 σ H1 _ I1 q1) fun u s2 ⟨x,H2,I2,rx,a,ov,ex,g,q2⟩=>?_
 subst ex
 obtain rfl:u=Value.ref a:=rx
 exact d_notIn hu I2 g ry fun s3 I3=>⟨.bl (!ov.isSome),H2,I3,rfl,q2⟩
theorem Ko (hu:X.A.units+1 < cLine) (ho:PE X o td) (hi:PE X i ty) (hv:PE X value tv) (hs:swapsWith value (some (.Subscript o i pos')) pos.line X.env=pure false) :
  PS X (.Assign [.Subscript o i pos'] value pos) (zC td ty tv):=by
 intro pins s σ H D I h
 refine wpAny_Assign_Subscript (thn (hv pins s σ H _ I h) fun r s1 ⟨v,H1,I1,rv,q1⟩=>thn (ho pins s1 σ H1 _ I1 q1) fun u s2 ⟨x,H2,I2,rx,q2⟩=>thn (hi pins s2 σ H2 _ I2 q2) fun iv s3 ⟨y,H3,I3,ry,a,H4,ex,g,q3⟩=>?_) hs
 subst ex
 obtain rfl:u=Value.ref a:=rx
 exact Ym hu I3 g ry rv fun s4 I4=>⟨σ,H4,I4,q3⟩
end
theorem jZa {w:World} (h:Heap) (hb:sysModules < h.objs.size):dE P w H (h.push { cls:=.type "dict",data:=.dict #[] }) h.objs.size (.dT []) :=
 ⟨Nat.zero_le _,beq_eq_false_iff_ne.mpr (Ne.symm (Nat.ne_of_lt hb)),[],.nil,_,#[],0,Heap.get?_push_size _ rfl,⟨rfl,rfl,rfl⟩,rfl,rfl,List.nodup_nil⟩
noncomputable def uL:TE:=fun _ H Q=>∀ p,H p=none->Q (.ref p) (upd H p (.dT []))
section
variable {X:Cx} {pos:Pos}
theorem Dk:PE X (.Dict [] [] pos) uL:=fun pins s σ H Q I h =>
 wpAny_Dict_empty ⟨.ref s.heap.objs.size,_,I.laid (a:=s.heap.objs.size) (o:=.dT []) (t':=s.toks) (fun _ _ q=>Heap.get?_push_of_some _ q) (Nat.le_refl _) (jZa s.heap I.big),rfl,h _ (I.hok.fresh (Nat.le_refl _))⟩
end
end L2
namespace L2
open PySem
variable {H:Hp} {K:PySem.W.Frag} {a p:Addr} {i j:Int} {m:Nat} {xs:List V} {σ:St}
noncomputable def BB (n:Nat) (i:Int):Prop:=i.natAbs < 2 ^ n
noncomputable def vI (i j:Int):Prop:=∃ m n,m+n<=100000000/\((BB m i/\BB n j)∨BB 64 i∨BB 64 j)
noncomputable def CDivB (_ j:Int):Prop:=j≠0/\BB 9000 j
noncomputable def gS:R2:=rI0 fun i j=>.int (i+j)
noncomputable def nH:R2:=rI0 fun i j=>.int (i - j)
noncomputable def cK:R2:=rI vI fun i j=>.int (i * j)
noncomputable def gR:R2:=rI CDivB fun i j=>.int (i.fdiv j)
noncomputable def Zp:R2:=rI CDiv fun i j=>.int (i / j)
noncomputable def jF:R2:=rI (fun _ j=>0 < j) fun i j=>.int (i % j)
noncomputable def Zo:R2:=rI CPow fun i j=>.int (i ^ j.toNat)
noncomputable def fZ:V->Hp->VK->Prop:=rU fun i=>.int (-i)
noncomputable def jT:R2:=rI0 fun i j=>.bl (decide (i < j))
noncomputable def rLeI:R2:=rI0 fun i j=>.bl (decide (i<=j))
noncomputable def Qm:R2:=rI0 fun i j=>.bl (decide (j < i))
noncomputable def rGeI:R2:=rI0 fun i j=>.bl (decide (j<=i))
noncomputable def Mr:List V->Hp->VK->Prop:=fun xs H Q=>∃ i,xs=[.int i]/\Q (.int (if i < 0 then -i else i)) H
noncomputable def eI (K:PySem.W.Frag):List V->Hp->VK->Prop:=fun xs H Q=>∃ p ys,xs=[.ref p]/\(SqL K H p ys∨SqT K H p ys)/\Q (.int ys.length) H
noncomputable def isB (x:V) (H:Hp) (T:String) (b:Bool):Prop:=match x with
 | .int _=>(T="int" /\ b=true)∨(T="bool" /\ b=false)
 | .bl _=>T="bool" /\ b=true
 | .ref p=>T="tuple" /\ b=true/\∃ xs,H p=some (.tup xs)
 | _=>False
noncomputable def cIsB:List V->Hp->VK->Prop:=fun xs H Q=>∃ x T b,xs=[x,.ty T]/\isB x H T b/\Q (.bl b) H
theorem BB.mono {n:Nat} (h:BB m i) (hm:m<=n):BB n i:=Nat.lt_of_lt_of_le h (Nat.pow_le_pow_right (by decide) hm)
theorem vI.l (h:BB 64 i):vI i j:=⟨0,0,by decide,.inr (.inl h)⟩
theorem vI.r (h:BB 64 j):vI i j:=⟨0,0,by decide,.inr (.inr h)⟩
theorem aF.tup {H':Hp} (e:aF H H') (h:SqT K H a xs):SqT K H' a xs:=by
 rcases h with (h | ⟨o,h⟩) | h
 ·exact .inl (.inl (e _ _ h))
 ·exact .inl (.inr ⟨o,e _ _ h⟩)
 ·exact .inr h
theorem Bo {i:Nat} {Q:VK} (h:aB i σ H Q):∃ v,σ[i]?=some (some v)/\Q v H:=by
 first
 | exact h
 | (unfold aB at h
    split at h
    ·exact ⟨_,‹_›,h⟩
    ·exact h.elim)
theorem Bm {i:Nat} {Q:VK} {v:V} (e:σ[i]?=some (some v)) (q:Q v H):aB i σ H Q:=by
 first
 | exact ⟨v,e,q⟩
 | (unfold aB
    rw [e]
    exact q)
theorem aF.upd {o:HO} (h:H p=none):aF H (upd H p o):=fun b u e=>by
 rw [aR (bI e h)];exact e
theorem BB.of_le {n:Nat} (h:BB n j) (hl:i.natAbs<=j.natAbs):BB n i:=Nat.lt_of_le_of_lt hl h
theorem BB.mul {n:Nat} (hi:BB m i) (hj:BB n j):BB (m+n) (i * j):=by
 unfold BB at *
 rw [Int.natAbs_mul,Nat.pow_add]
 exact Nat.mul_lt_mul_of_lt_of_lt hi hj
theorem BB.add {n:Nat} (hi:BB n i) (hj:BB n j):BB (n+1) (i+j):=by
 unfold BB at *
 rw [Nat.pow_succ]
 omega
theorem BB.gcd {n:Nat} (hj:BB n j) (h0:j≠0):BB n (Int.gcd i j:Nat):=by
 refine hj.of_le ?_
 rw [Int.natAbs_natCast]
 exact Int.gcd_le_natAbs_right _ h0
theorem BB.neg {n:Nat} (h:BB n i):BB n (-i):=by unfold BB at *;rwa [Int.natAbs_neg]
theorem vI.b {n:Nat} (hi:BB m i) (hj:BB n j) (h:m+n<=100000000:=by decide):vI i j:=⟨m,n,h,.inl ⟨hi,hj⟩⟩
noncomputable def bG (σ:St) (caps:List Nat):St:=caps.map fun j=>(σ[j]?).join
noncomputable def qZ (J:It) (σ:St) (caps:List Nat) (te:TE) (H1:Hp) (fin:List V->Hp->Prop):Prop :=
 ∃ (n:Nat) (W:Nat->List V->Hp->Prop),n<=sizeLine/\W 0 [] H1/\∀ i ys H2,i<=n->ys.length=i->W i ys H2 ->
  (J.stop i H2/\fin ys H2)∨(i < n/\J.go i H2/\∀ x H3,J.yld i H2 x H3->te (some x :: bG σ caps) H3 fun y H4=>W (i+1) (ys ++ [y]) H4)
noncomputable def bB (wi:TI) (caps:List Nat) (te:TE):TE:=fun σ H Q=>wi σ H fun J H1=>qZ J σ caps te H1 fun ys H2=>∀ p,H2 p=none->Q (.ref p) (upd H2 p (.lst ys))
noncomputable def Ite (K:PySem.W.Frag) (a:Addr):It :=
 ⟨fun i H=>∃ xs x,SqL K H a xs/\xs[i]?=some x,fun i H v H'=>∃ p x,v=.ref p/\H p=none/\H'=upd H p (.tup [.int i,x])/\∀ xs,SqL K H a xs->xs[i]?=some x,fun i H=>∃ xs,SqL K H a xs/\xs.length<=i⟩
noncomputable def qU (K:PySem.W.Frag) (tl:TE):TI:=fun σ H R=>tl σ H fun x H1=>∃ a,x=.ref a/\(∃ xs,SqL K H1 a xs)/\R (Ite K a) H1
theorem vY {g:TG} {tb:TS} {D:xD} (Pv:Nat->St->Hp->Prop) (h0:Pv 0 σ H) (hl:∀ i σ H,i<=xs.length->Pv i σ H->SqL K H a xs)
  (hs:∀ i x p σ H,xs[i]?=some x->Pv i σ H->H p=none->g (.ref p) σ (upd H p (.tup [.int i,x])) fun σ2 H2=>tb { D with nx:=Pv (i+1),ct:=Pv (i+1),bk:=D.nx } σ2 H2) (hd:∀ σ H,Pv xs.length σ H->D.nx σ H) :
  ∃ W:Nat->Nat->St->Hp->Prop,(∃ m,W 0 m σ H)/\∀ i m σ H,W i m σ H ->
   ((Ite K a).stop i H/\D.nx σ H)∨((Ite K a).go i H/\∃ N:St->Hp->Prop,(∀ σ' H',N σ' H'->∃ m',m' < m/\W (i+1) m' σ' H')/\∀ x H',(Ite K a).yld i H x H'->g x σ H' fun σ2 H2=>tb { D with nx:=N,ct:=N,bk:=D.nx } σ2 H2):=by
 refine ⟨fun i m σ H=>m=xs.length - i/\i<=xs.length/\Pv i σ H,⟨xs.length,by simp,Nat.zero_le _,h0⟩,?_⟩
 rintro i m σ H ⟨rfl,hi,p⟩
 have q:=hl i σ H hi p
 by_cases hlt:i < xs.length
 ·refine .inr ⟨⟨xs,xs[i],q,by simp [hlt]⟩,Pv (i+1),fun σ' H' p'=>⟨xs.length - (i+1),by omega,rfl,hlt,p'⟩,fun x H' y=>?_⟩
  obtain ⟨pp,z,e1,e2,e3,y⟩:=y
  subst e1 e3
  exact hs i z pp σ _ (y xs q) p e2
 ·have e:i=xs.length:=by omega
  subst e
  exact .inl ⟨⟨xs,q,Nat.le_refl _⟩,hd σ H p⟩
theorem bJ {caps:List Nat} {te:TE} {H1:Hp} {fin:List V->Hp->Prop} (W:Nat->List V->Hp->Prop) (hz:xs.length<=sizeLine) (h0:W 0 [] H1) (hl:∀ i ys H,i<=xs.length->W i ys H->SqL K H a xs)
  (hs:∀ i x ys H,xs[i]?=some x->ys.length=i->W i ys H->te (some x :: bG σ caps) H fun y H4=>W (i+1) (ys ++ [y]) H4) (hd:∀ ys H,ys.length=xs.length->W xs.length ys H->fin ys H):qZ (Itl K a) σ caps te H1 fin:=by
 refine ⟨xs.length,W,hz,h0,fun i ys H2 hi hy hw=>?_⟩
 have q:=hl i ys H2 hi hw
 by_cases hlt:i < xs.length
 ·refine .inr ⟨hlt,⟨xs,xs[i],q,by simp [hlt]⟩,fun x H3 y=>?_⟩
  obtain ⟨e,y⟩:=y
  subst e
  exact hs i x ys _ (y xs q) hy hw
 ·have e:i=xs.length:=by omega
  subst e
  exact .inl ⟨⟨xs,q,Nat.le_refl _⟩,hd ys H2 hy hw⟩
theorem fB {lo:Int} {n:Nat} {caps:List Nat} {te:TE} {H1:Hp} {fin:List V->Hp->Prop} (W:Nat->List V->Hp->Prop) (hz:n<=sizeLine) (h0:W 0 [] H1)
  (hs:∀ i ys H,i < n->ys.length=i->W i ys H->te (some (.int (lo+i)) :: bG σ caps) H fun y H4=>W (i+1) (ys ++ [y]) H4) (hd:∀ ys H,ys.length=n->W n ys H->fin ys H):qZ (Itr lo n) σ caps te H1 fin:=by
 refine ⟨n,W,hz,h0,fun i ys H2 hi hy hw=>?_⟩
 by_cases hlt:i < n
 ·refine .inr ⟨hlt,hlt,fun x H3 y=>?_⟩
  obtain ⟨e1,e2⟩:=y
  subst e1 e2
  exact hs i ys _ hlt hy hw
 ·have e:i=n:=by omega
  subst e
  exact .inl ⟨Nat.le_refl _,hd ys H2 hy hw⟩
noncomputable def Zf (K:PySem.W.Frag):List V->Hp->VK->Prop:=fun xs H Q=>∃ p ns,xs=[.ref p]/\SqL K H p (List.map V.int ns)/\Q (.int ns.sum) H
noncomputable def cMax:List V->Hp->VK->Prop:=fun xs H Q=>∃ i j,xs=[.int i,.int j]/\Q (.int (if j > i then j else i)) H
noncomputable def jG (K:PySem.W.Frag):List V->Hp->VK->Prop:=fun xs H Q=>∃ p ys,xs=[.ref p]/\(SqL K H p ys∨SqT K H p ys)/\∀ l,H l=none->Q (.ref l) (upd H l (.lst ys))
noncomputable def vM:V->List V->Hp->VK->Prop:=fun x vs H Q=>∃ l xs k v,x=.ref l/\vs=[.int (k:Nat),v]/\H l=some (.lst xs)/\k<=xs.length/\xs.length < sizeLine/\Q .non (upd H l (.lst (xs.take k ++ v :: xs.drop k)))
theorem aF.put {H':Hp} {o:HO} (s:aF H H') (h:H p=none):aF H (L2.upd H' p o):=fun b u e=>by
 rw [aR (bI e h)];exact s b u e
theorem SqT.off {r:Addr} {ys zs:List V} (h:SqT K H p xs) (hr:H r=some (.lst ys)):SqT K (upd H r (.lst zs)) p xs:=by
 rcases h with (h | ⟨o,h⟩) | h
 ·exact .inl (.inl (by rw [aR (gM h hr (by intro z;cases z))];exact h))
 ·exact .inl (.inr ⟨o,by rw [aR (gM h hr (by intro z;cases z))];exact h⟩)
 ·exact .inr h
end L2
namespace L2
open PySem PySem.Spec PyProof.Rows
variable {A:Around} {C a x:Addr} {E:Value->Shared->Prop} {H:Hp} {K:PySem.W.Frag} {M:Model} {P:Program} {Q:Unit->Shared->Prop} {c:Value} {h:Heap} {i j:Int} {k:Nat} {o:HO} {oe:Obj} {pins:List (Addr×Obj)} {pos tp:Pos} {s:Shared} {vs:Array Value} {σ:St}
theorem jZf:bootBuiltins "tuple" = some (.type "tuple"):=by decide +kernel
theorem kL:bootBuiltins "list" = some (.type "list"):=by decide +kernel
theorem bt_dict:bootBuiltins "dict" = some (.type "dict"):=by decide +kernel
theorem Rl:bootBuiltins "abs" = some (.builtin "abs"):=by decide +kernel
theorem cH:bootBuiltins "len" = some (.builtin "len"):=by decide +kernel
theorem jE:bootBuiltins "isinstance" = some (.builtin "isinstance"):=by decide +kernel
theorem Rk:bootBuiltins "max" = some (.builtin "max"):=by decide +kernel
theorem bt_min:bootBuiltins "min" = some (.builtin "min"):=by decide +kernel
theorem bt_sum:bootBuiltins "sum" = some (.builtin "sum"):=by decide +kernel
theorem jO {n:Nat} {k:Int} (h:BB n k):Builtin.Int.intBits k<=n:=by
 unfold Builtin.Int.intBits
 split
 ·exact Nat.zero_le _
 ·rename_i h0
  have hp:k.natAbs≠0:=by simpa using h0
  have h2:=(Nat.log2_lt hp).mpr h
  omega
theorem vI.ok (h:vI i j):IntMulOk i j:=by
 obtain ⟨m,n,hz,⟨h1,h2⟩ | h1 | h1⟩:=h
 ·exact IntMulOk.of_le (jO h1) (jO h2) (by omega)
 ·exact .of_left (jO h1)
 ·exact .of_right (jO h1)
theorem noPyB (h:BB 9000 j):Builtin.divisionGoesByPylong i j=false:=by
 refine PyProof.noPylong_of_log2 ?_
 by_cases h0:j.natAbs=0
 ·rw [h0];decide +kernel
 ·exact (Nat.log2_lt h0).mpr h
section
variable {X:Cx}
theorem cI:OpR X (binaryOp .Mult) cK:=opI fun _ _ _ _ _ _ _ hc q=>mul_int q hc.ok
theorem jJ:OpR X (binaryOp .FloorDiv) gR:=opI fun _ _ _ _ _ _ _ hc q=>floordiv_int hc.1 q (.inl (noPyB hc.2))
theorem kit_ii (K:PySem.W.Frag):PySem.W.kitOne K (.type "int") (.type "int")=some true:=by rfl
theorem kit_ib (K:PySem.W.Frag):PySem.W.kitOne K (.type "int") (.type "bool")=some false:=by rfl
theorem kit_bb (K:PySem.W.Frag):PySem.W.kitOne K (.type "bool") (.type "bool")=some true:=by rfl
theorem kit_tt (K:PySem.W.Frag):PySem.W.kitOne K (.type "tuple") (.type "tuple")=some true:=by rfl
theorem jZe:lX X (.builtin "isinstance") cIsB:=by
 intro pins s σ H xs us Q I r h
 obtain ⟨x,T,b,rfl,hb,q⟩:=h
 obtain ⟨u,c,rfl,ru,rc⟩:=Ud r
 obtain rfl:c=Value.type T:=rc
 have fin:∀ tk,EP X pins σ Q (.bool b) { s with toks:=tk }:=fun tk=>⟨.bl b,H,I.tok _,rfl,q⟩
 cases x with
 | int i =>
  rcases hb with ⟨rfl,rfl⟩ | ⟨rfl,rfl⟩
  ·exact nU I ru (.int i) (kit_ii _) fin
  ·exact nU I ru (.int i) (kit_ib _) fin
 | bl i =>
  obtain ⟨rfl,rfl⟩:=hb
  exact nU I ru (.bl i) (kit_bb _) fin
 | ref p =>
  obtain ⟨rfl,rfl,xs,hp⟩:=hb
  exact nU I ru (.tup hp) (kit_tt _) fin
 | _=>exact (show False from hb).elim
end
noncomputable def iK (env:Env):List (Str×NameKind)->List (Str×Addr)->List (Str×Addr)
 | [],cs=>cs
 | (n,k) :: r,cs=>iK env r (if (k == NameKind.free)=true then (n,(env.cells.lookup n).getD 0) :: cs else cs)
theorem tY {scope:Scope} {env:Env} (h:∀ p∈scope.names,p.2=.free->∃ c,env.cells.lookup p.1=some c):closureFor scope env=pure (iK env scope.names []):=by
 have go:∀ (f:Str×NameKind->List (Str×Addr)->Sem (ForInStep (List (Str×Addr)))),(∀ n k cs,f (n,k) cs=if (k == NameKind.free)=true then (cellOf env n >>= fun a=>pure (ForInStep.yield ((n,a) :: cs))) else pure (ForInStep.yield cs)) ->
   ∀ (l:List (Str×NameKind)) (cs:List (Str×Addr)),(∀ p∈l,p.2=.free->∃ c,env.cells.lookup p.1=some c)->(forIn l cs f:Sem _)=pure (iK env l cs):=by
  intro f hf l
  induction l with
  | nil=>intro cs _;rfl
  | cons p r ih =>
   intro cs hl
   obtain ⟨n,k⟩:=p
   have hr:∀ p∈r,p.2=.free->∃ c,env.cells.lookup p.1=some c:=fun p hp=>hl p (List.mem_cons_of_mem _ hp)
   rw [List.forIn_cons,hf]
   by_cases hk:(k == NameKind.free)=true
   ·obtain ⟨c,hc⟩:=hl (n,k) List.mem_cons_self (by simpa using hk)
    have hc':env.cells.lookup n=some c:=hc
    have e:cellOf env n=pure c:=by unfold cellOf;rw [hc']
    rw [if_pos hk,e,pure_bind,pure_bind]
    dsimp only
    rw [ih _ hr]
    have e2:iK env ((n,k) :: r) cs=iK env r ((n,c) :: cs):=by
     show iK env r (if (k == NameKind.free)=true then (n,(env.cells.lookup n).getD 0) :: cs else cs)=_
     rw [if_pos hk,hc'];rfl
    rw [e2]
   ·rw [if_neg hk,pure_bind]
    dsimp only
    rw [ih _ hr]
    have e2:iK env ((n,k) :: r) cs=iK env r cs:=by
     show iK env r (if (k == NameKind.free)=true then (n,(env.cells.lookup n).getD 0) :: cs else cs)=_
     rw [if_neg hk]
    rw [e2]
 unfold closureFor
 show (forIn scope.names [] _ >>= fun s=>pure s)=_
 rw [go _ (fun n k cs=>by rfl) scope.names [] h,pure_bind]
theorem Ev {env:Env}:∀ {l:List (Str×NameKind)} {cs:List (Str×Addr)},(∀ p∈l,p.2=.free->∃ c,env.cells.lookup p.1=some c)->(∀ p∈cs,env.cells.lookup p.1=some p.2)->∀ p∈iK env l cs,env.cells.lookup p.1=some p.2
 | [],_,_,h,p,hp=>h p hp
 | (n,k) :: r,cs,hl,h,p,hp=>by
  refine Ev (l:=r) (fun q hq=>hl q (List.mem_cons_of_mem _ hq)) (fun q hq=>?_) p hp
  by_cases hk:(k == NameKind.free)=true
  ·rw [if_pos hk] at hq
   rcases List.mem_cons.mp hq with rfl | hq
   ·obtain ⟨c,hc⟩:=hl (n,k) List.mem_cons_self (by simpa using hk)
    have hc':env.cells.lookup n=some c:=hc
    show env.cells.lookup n=some ((env.cells.lookup n).getD 0)
    rw [hc'];rfl
   ·exact h q hq
  ·rw [if_neg hk] at hq
   exact h q hq
theorem Ae {env:Env} {y:Str}:∀ {l:List (Str×NameKind)} {cs:List (Str×Addr)},y∈cs.map (·.1)->y∈(iK env l cs).map (·.1)
 | [],_,h=>h
 | (n,k) :: r,cs,h=>by
  refine Ae (l:=r) ?_
  by_cases hk:(k == NameKind.free)=true
  ·rw [if_pos hk];exact List.mem_cons_of_mem _ h
  ·rw [if_neg hk];exact h
theorem uZ {env:Env} {y:Str}:∀ {l:List (Str×NameKind)} {cs:List (Str×Addr)},(y,NameKind.free)∈l->y∈(iK env l cs).map (·.1)
 | [],_,h=>nomatch h
 | (n,k) :: r,cs,h=>by
  rcases List.mem_cons.mp h with e | h
  ·cases e
   refine Ae (l:=r) ?_
   rw [if_pos (by rfl)]
   exact List.mem_cons_self
  ·exact uZ (l:=r) h
theorem nF {α:Type} {y:Str}:∀ {l:List (Str×α)},y∈l.map (·.1)->∃ c,l.lookup y=some c
 | [],h=>nomatch h
 | (n,c) :: r,h=>by
  cases hx:y == n with
  | true=>exact ⟨c,by simp only [List.lookup_cons,hx]⟩
  | false =>
   have h':y∈r.map (·.1):=by
    rcases List.mem_cons.mp h with e | h
    ·have e':y=n:=e
     rw [e'] at hx;simp at hx
    ·exact h
   obtain ⟨c',e⟩:=nF h'
   exact ⟨c',by simp only [List.lookup_cons,hx];exact e⟩
theorem wQ {env:Env} (hk:env.scope.kind=.function):∀ {names:List (Str×NameKind)} {y:Str},names.lookup y=some .free->env.kindOf y=some .cell ->
  (names.map fun (n,k)=>if (k == NameKind.free && env.scope.kind == .function && env.kindOf n == some .cell) then (n,NameKind.cell) else (n,k)).lookup y=some .cell
 | [],_,h,_=>by simp at h
 | (n,k) :: r,y,h,hc=>by
  have ih:=@wQ env hk r y
  show List.lookup y ((if (k == NameKind.free && env.scope.kind == .function && env.kindOf n == some .cell)=true then (n,NameKind.cell) else (n,k)) :: _)=_
  cases hx:y == n with
  | true =>
   simp only [List.lookup_cons,hx] at h
   cases h
   have e:y=n:=by simpa using hx
   subst e
   have ht:(NameKind.free == NameKind.free && env.scope.kind == .function && env.kindOf y == some .cell)=true:=by rw [hk,hc];rfl
   rw [if_pos ht];simp only [List.lookup_cons,hx]
  | false =>
   simp only [List.lookup_cons,hx] at h
   by_cases hc':(k == NameKind.free && env.scope.kind == .function && env.kindOf n == some .cell)=true
   ·rw [if_pos hc'];simp only [List.lookup_cons,hx];exact ih h hc
   ·rw [if_neg hc'];simp only [List.lookup_cons,hx];exact ih h hc
theorem Ej {env:Env}:∀ {names:List (Str×NameKind)} {y:Str},(∀ p∈names,p.2≠.cell) ->
  (∃ k,(names.map fun (n,k)=>if (k == NameKind.free && env.scope.kind == .function && env.kindOf n == some .cell) then (n,NameKind.cell) else (n,k)).lookup y=some k/\(k=.cell∨k=.free))->(y,NameKind.free)∈names
 | [],_,_,⟨_,h,_⟩=>by simp at h
 | (n,k) :: r,y,hn,⟨kk,h,hkk⟩=>by
  have h:List.lookup y ((if (k == NameKind.free && env.scope.kind == .function && env.kindOf n == some .cell)=true then (n,NameKind.cell) else (n,k)) :: r.map fun (n,k)=>if (k == NameKind.free && env.scope.kind == .function && env.kindOf n == some .cell) then (n,NameKind.cell) else (n,k))=some kk:=h
  have ih:=@Ej env r y fun p hp=>hn p (List.mem_cons_of_mem _ hp)
  cases hx:y == n with
  | true =>
   have e:y=n:=by simpa using hx
   subst e
   by_cases hc':(k == NameKind.free && env.scope.kind == .function && env.kindOf y == some .cell)=true
   ·have hf:k=.free:=by
     rw [Bool.and_eq_true,Bool.and_eq_true] at hc'
     simpa using hc'.1.1
    rw [hf];exact List.mem_cons_self
   ·rw [if_neg hc'] at h
    simp only [List.lookup_cons,hx] at h
    have e2:k=kk:=Option.some.inj h
    subst e2
    rcases hkk with z | z
    ·exact absurd z (hn (y,k) List.mem_cons_self)
    ·rw [z];exact List.mem_cons_self
  | false =>
   have h2:(r.map fun (n,k)=>if (k == NameKind.free && env.scope.kind == .function && env.kindOf n == some .cell) then (n,NameKind.cell) else (n,k)).lookup y=some kk:=by
    by_cases hc':(k == NameKind.free && env.scope.kind == .function && env.kindOf n == some .cell)=true
    ·rw [if_pos hc'] at h;simp only [List.lookup_cons,hx] at h;exact h
    ·rw [if_neg hc'] at h;simp only [List.lookup_cons,hx] at h;exact h
   exact List.mem_cons_of_mem _ (ih ⟨kk,h2,hkk⟩)
structure xN (FS scope:Scope) (N:List Str) (x:Str) (ys:List Str) (caps:List Nat):Prop where
 ncell:∀ y∈scope.names,y.2≠.cell
 kind:scope.kind=.function
 names:∀ y∈scope.names,y.2=.local->scope.names.lookup y.1=some .local
 loc:scope.names.lookup x=some .local
 fr:∀ p∈scope.names,p.2=.free->FS.names.lookup p.1=some .cell
 fk:FS.kind=.function
 cap:∀ p∈ys.zip caps,N[p.2]?=some p.1/\scope.names.lookup p.1=some .free
 len:ys.length=caps.length
 nd:(x :: ys).Nodup
noncomputable abbrev tP (X:Cx) (scope:Scope):List (Str×Addr):=iK X.env scope.names []
noncomputable def cR (X:Cx) (scope:Scope) (NY:List Str) (s:Shared) (H:Hp) (ex:List Addr) (pn:List (Addr×Obj)):Cx :=
 { X with N:=NY,s₀:=s,H₀:=H,env:=compEnvC scope (tP X scope) s.heap.objs.size X.env,outer:=X.stack,stack:=X.stack,ex:=ex,fn:=fun _=>false,pn:=pn,xe:=fun _ _=>False }
section
variable {X:Cx} {pins:List (Addr×Obj)} {σ:St} {H:Hp} {s:Shared}
theorem Inv.adopt {D:Addr} (I:Inv X pins σ H s) (hn:H D=none) (hs:X.s₀.heap.objs.size<=D) (hL:D≠X.env.locals) (hc:∀ x c,X.env.cells.lookup x=some c->c≠D) (hp:∀ p∈X.pn ++ pins,p.1≠D)
  (new:dE X.prog X.w (upd H D o) s.heap D o):Inv X pins σ (upd H D o) s:=by
 have u:Un X.fs X.ex H (upd H D o) s.heap s.heap->True:=fun _=>trivial
 refine ⟨I.ok,I.os,I.bare,⟨I.base.keep,I.base.slot,fun b ob e n hx=>?_,I.base.there,fun b xs e=>?_,fun b ob xs e=>?_,fun b ps e=>?_⟩,I.loc,I.cell,?_,fun x c e=>?_,fun p h=>?_,fun b ob e=>?_,I.len⟩
 ·rw [aR (Nat.ne_of_lt (Nat.lt_of_lt_of_le (Heap.lt_size e) hs))];exact I.base.free b ob e n hx
 ·have q:=I.base.tups b xs e
  rw [aR (bI q hn)];exact q
 ·have q:=I.base.frzs b ob xs e
  rw [aR (bI q hn)];exact q
 ·obtain ⟨xB,q⟩:=I.base.tbls b ps e
  exact ⟨xB,by rw [aR (bI q hn)];exact q⟩
 ·rw [aR (Ne.symm hL)];exact I.free
 ·rw [aR (hc x c e)];exact I.freeC x c e
 ·obtain ⟨a1,a2,a3⟩:=I.pin p h
  exact ⟨a1,by rw [aR (hp p h)];exact a2,a3⟩
 ·by_cases hb:b=D
  ·subst hb;rw [aD] at e;cases e;exact new
  ·rw [aR hb] at e
   exact (I.hok b ob e).stay (fun c v _ q=>q) (fun c q=>by rw [aR (bI q hn)];exact q) fun c xs q=>by rw [aR (bI q hn)];exact q
end
section
variable {X:Cx} {scope:Scope} {x:Str} {ys:List Str} {caps:List Nat} {elt iter:Expr} {te:TE} {px pos:Pos}
theorem nxE {α:Type} {t:Sem α} {Q Q':α->Shared->Prop} {F:Value->Shared->Prop} (hF:F=fun _ _=>False) (h:wpAny M A t Q F s) (hQ:∀ a s,Q a s->Q' a s):wpAny M A t Q' E s :=
 wpAny_mono h hQ fun e s' z=>by
  rw [hF] at z
  exact z.elim
noncomputable abbrev xC (its:List Value) (n:Nat):Obj:={ cls:=.type "list",data:=.seq its.toArray n }
end
theorem Mm:bootBuiltins "enumerate" = some (.type "enumerate"):=by decide +kernel
section
variable {X:Cx} {pins:List (Addr×Obj)} {σ:St} {H:Hp} {s:Shared} {h':Heap}
theorem Inv.turnedL {t':Nat} {ch:List Addr} (I:Inv X pins σ H s) (k:∀ b o,b∉ch->s.heap.get? b=some o->h'.get? b=some o) (hf:∀ b∈ch,Jt X pins H b):Inv X pins σ H { s with heap:=h',toks:=t' }:=by
 have nit:∀ b u,H b=some u->b∉ch:=fun b u e z=>by rw [(hf b z).1] at e;cases e
 refine I.step (g':=s.gens) (d':=s.drawn) (ch:=ch) (fun b hb=>?_) (fun b o _ _ hc e _=>k b o hc e) (fun b o _ _ hc e _=>⟨o.slots,k b o hc e⟩) (fun _ _ _ _ n=>n)
  (fun b o hc e=>⟨o,k b o hc e⟩) (fun _ _ e=>e) (fun _ _ _ e=>e) (fun b ps e=>⟨#[],by rw [e];simp⟩) (fun m hm=>?_) (fun b u e=>?_) I.bare
 ·obtain ⟨a1,a2,a3,a4,a5,a6⟩:=hf b hb
  exact ⟨a4,a2,a5,a6⟩
 ·obtain ⟨o,es,ep,ho,r⟩:=hm
  exact ⟨o,es,ep,k _ o (fun z=>(hf _ z).2.1 rfl) ho,r⟩
 ·refine (I.hok b u e).stay (fun c v hc q=>k c v ?_ q) (fun _ q=>q) fun _ _ q=>q
  rcases hc with z | z
  ·rw [z];exact nit b u e
  ·exact nit c _ z
end
theorem Wt {w:World} {elts:List Expr} (a e it:Addr) (hne:e≠it) :
  Qn P w K (.Tuple elts k tp) (Ite K a) [e,it] e (fun i h=>(∃ old,IsEnum h e it i old)/\h.IsListIter it a i) where
 mem:=by simp
 obj:=fun i h st b hb=>by
  obtain ⟨⟨old,he⟩,hit⟩:=st
  have z:b=e∨b=it:=by simpa using hb
  rcases z with rfl | rfl
  ·exact ⟨_,he,fun v z=>by
    have z':Data.fields _=Data.cell v:=z
    cases z'⟩
  ·obtain ⟨o,e,c,d⟩:=hit
   exact ⟨o,e,fun v z=>by rw [d] at z;cases z⟩
 keep:=fun i h h' st k=>by
  obtain ⟨⟨old,he⟩,hit⟩:=st
  exact ⟨⟨old,k e (by simp) _ he⟩,hit.at fun o q=>k it (by simp) o q⟩
 item:=by
  intro X hP hw hK hc i pins s σ H E I hf st hg
  subst hP hw hK
  obtain ⟨xs,x,hq,hx⟩:=hg
  obtain ⟨its,rv,p,hz⟩:=I.list hq
  obtain ⟨u,hu,ru⟩:=rv.get hx
  obtain ⟨⟨old,he⟩,hit⟩:=st
  refine wpAny_pyNext_enum_item he hit p.isList (x:=u) (by simpa using hu) hne fun h1 out hit1 tup sz kp=>⟨_,rfl,?_⟩
  refine wpAny_letOwnedTupleGo_enum (s:={ s with heap:=h1,toks:=s.toks+1 }) out fun h2 en sb=>?_
  have hel:e < s.heap.objs.size:=Heap.lt_size he
  have hTe:s.heap.objs.size≠e:=Nat.ne_of_gt hel
  have sb':Heap.SameBut e h1 h2:=sb
  have I1:Inv X pins σ H { s with heap:=h2,toks:=s.toks+1 }:=I.turnedL (ch:=[e,it]) (fun b o hb q=>by
   have hb':b≠e/\b≠it:=by simpa using hb
   exact (sb'.2 b hb'.1).trans (kp b o hb'.1 hb'.2 q)) hf
  have hTn:H s.heap.objs.size=none:=I.hok.fresh (Nat.le_refl _)
  have tup2:h2.get? s.heap.objs.size=some { cls:=.type "tuple",data:=.seq #[.int i s.toks,u] }:=(sb'.2 _ hTe).trans tup
  have I2:Inv X pins σ (upd H s.heap.objs.size (.tup [.int i,x])) { s with heap:=h2,toks:=s.toks+1 }:=I1.adopt hTn I.sz (Nat.ne_of_gt I.lt) (fun y c q=>by
   obtain ⟨v,z⟩:=I.cell y c q
   exact Nat.ne_of_lt z.lt) (fun q hq=>Nat.ne_of_lt (Heap.lt_size (I.pin q hq).1)) ⟨by show 2<=sizeLine;decide,[.int i s.toks,u],.cons ⟨_,rfl⟩ (.cons ru .nil),⟨_,tup2,rfl,_,rfl⟩⟩
  refine ⟨.ref s.heap.objs.size,_,I2,rfl,⟨_,x,rfl,hTn,rfl,fun ys hy=>by rw [I.list_inj hy hq];exact hx⟩,⟨⟨_,by have:=en;exact_mod_cast this⟩,?_⟩,fun b hb=>?_⟩
  ·obtain ⟨o,q,r⟩:=hit1
   exact ⟨o,(sb'.2 it (Ne.symm hne)).trans q,r⟩
  ·have hb0:=(hf b hb).1
   have z:b=e∨b=it:=by simpa using hb
   have hlt:b < s.heap.objs.size:=by
    rcases z with rfl | rfl
    ·exact hel
    ·obtain ⟨o,q,_⟩:=hit
     exact Heap.lt_size q
   rw [aR (Nat.ne_of_lt hlt)]
   exact hb0
 done:=by
  intro X hP hw hK hc i pins s σ H E I hf st hg
  subst hP hw hK
  obtain ⟨xs,hq,hx⟩:=hg
  obtain ⟨its,rv,p,hz⟩:=I.list hq
  obtain ⟨⟨old,he⟩,hit⟩:=st
  obtain ⟨f0,f1,f2,f3,f4,f5⟩:=hf it (by simp)
  have hl:=rv.length
  exact wpAny_pyNext_enum_end (I.ok.hd hc) he hit p.isList (by simp;omega) fun h' eb=>⟨rfl,I.turned (t':=s.toks) (fun b o hb e=>eb b o hb e) f0 f1 f3 f4 f5⟩
 self:=fun _ _ _ _ _ st h=>by
  obtain ⟨⟨old,he⟩,hit⟩:=st
  exact wpAny_pyIter_enum he h
section
variable {X:Cx}
theorem vO {elts:List Expr} {a:Expr} {tl:TE} {p:Pos} (hg:Gl X "enumerate") (hm:X.mg "enumerate" = none) (hl:PE X a tl) (hs:starEach [a] X.env=[(false,eval a X.env)]:=by rfl):PI X (.Tuple elts k tp) (.Call (.Name "enumerate" p) [a] [] pos) (qU X.K tl):=by
 intro pins s σ H R I h
 have hA:PA X [a] (aC tl aK):=aA hl aE (by rw [hs];rfl)
 refine Call_ (lC I hg hm Mm (PyProof.Rows.callWith_type1 (thn (hA pos pins s σ H (fun vs H1=>∃ x,vs=[x]/\∃ a,x=.ref a/\(∃ xs,SqL X.K H1 a xs)/\R (Ite X.K a) H1) I ?_) fun us s1 ⟨vs,H1,I1,r1,q1⟩=>?_) hs rfl))
 ·show tl σ H fun x H1=>∃ y,[x]=[y]/\_
  have e:(fun (x:V) (H1:Hp)=>∃ y,[x]=[y]/\∃ a,y=V.ref a/\(∃ xs,SqL X.K H1 a xs)/\R (Ite X.K a) H1)=fun x H1=>∃ a,x=V.ref a/\(∃ xs,SqL X.K H1 a xs)/\R (Ite X.K a) H1:=by
   funext x H1
   exact propext ⟨fun ⟨y,e,r⟩=>by cases e;exact r,fun r=>⟨x,rfl,r⟩⟩
  have h':tl σ H fun x H1=>∃ a,x=V.ref a/\(∃ xs,SqL X.K H1 a xs)/\R (Ite X.K a) H1:=h
  rw [← e] at h'
  exact h'
 ·obtain ⟨x,e1,b,e2,⟨xs,hq⟩,q⟩:=q1
  subst e1 e2
  obtain ⟨u,rfl,ru⟩:=qR r1
  cases ru
  obtain ⟨its,rv,pl,hz⟩:=I1.list hq
  refine call_enumerate_list pl.isList fun h1 he hit hsz hk=>?_
  refine wpAny_pyIter_enum he ?_
  have I2:Inv X pins σ H1 { s1 with heap:=h1 }:=I1.kept (t':=s1.toks) hk
  refine ⟨s1.heap.objs.size+1,[s1.heap.objs.size+1,s1.heap.objs.size],_,Ite X.K b,H1,rfl,I2,Wt b _ _ (Nat.succ_ne_self _),⟨⟨_,he⟩,hit⟩,fun c hc=>?_,q⟩
  have z:c=s1.heap.objs.size+1∨c=s1.heap.objs.size:=by simpa using hc
  have hle:s1.heap.objs.size<=c:=by rcases z with rfl | rfl <;> omega
  exact I1.fpOk hle (I1.hok.fresh hle)
theorem zZ (ns:List Int):∀ n,n<=ns.length->preSum (fun i=>ns.getD i 0) n=(ns.take n).sum
 | 0,_=>by simp [preSum]
 | n+1,h=>by
  show preSum _ n+ns.getD n 0=_
  have hn:n < ns.length:=by omega
  rw [zZ ns n (by omega),List.take_succ,List.sum_append,List.getD_eq_getElem?_getD,List.getElem?_eq_getElem hn]
  simp
theorem Iz (hc:X.calm=true):lX X (.builtin "sum") (Zf X.K):=by
 intro pins s σ H xs us Q I r h
 obtain ⟨p,ns,rfl,hq,q⟩:=h
 obtain ⟨u,rfl,ru⟩:=qR r
 cases ru
 obtain ⟨its,rv,pl,hz⟩:=I.list hq
 have hl:=rv.length
 rw [List.length_map] at hl
 have hpl:p < s.heap.objs.size:=by obtain ⟨o,e,_⟩:=pl.isList;exact Heap.lt_size e
 refine call_sum_walkG (wpAny_pyIter_list pl.isList ⟨s.heap.objs.size,_,_,_,_,_,fun i=>ns.getD i 0,rfl,Walks.list (A:=X.A.in1) (I.ok.hd hc) s.heap.objs.size p (Nat.ne_of_lt hpl) its.toArray,⟨⟨_,Heap.get?_push_size _ rfl,rfl,rfl⟩,pl.isList.push _⟩,fun b hb=>?_,fun i v hv=>?_,fun h' tk t' hk=>?_⟩)
 ·show b < (s.heap.push _).objs.size
  rw [Heap.size_push]
  have z:b=s.heap.objs.size∨b=p:=by simpa using hb
  rcases z with rfl | rfl
  ·exact Nat.lt_succ_self _
  ·exact Nat.lt_succ_of_lt hpl
 ·have hv':its[i]?=some v:=by simpa using hv
  obtain ⟨x,ex,rx⟩:∃ x,(List.map V.int ns)[i]?=some x/\bR x v:=by
   have hi:i < its.length:=(List.getElem?_eq_some_iff.mp hv').1
   have hi2:i < (List.map V.int ns).length:=by rw [List.length_map];omega
   obtain ⟨u,eu,ru⟩:=rv.get (i:=i) (x:=(List.map V.int ns)[i]) (List.getElem?_eq_getElem hi2)
   rw [hv'] at eu;cases eu
   exact ⟨_,List.getElem?_eq_getElem hi2,ru⟩
  rw [List.getElem?_map] at ex
  cases e:ns[i]? with
  | none=>rw [e] at ex;cases ex
  | some z =>
   rw [e] at ex
   have:V.int z=x:=Option.some.inj ex
   subst this
   obtain ⟨t,rfl⟩:=rx
   exact ⟨t,by show Value.int z t=Value.int (ns.getD i 0) t;rw [List.getD_eq_getElem?_getD,e];rfl⟩
 ·have e:preSum (fun i=>ns.getD i 0) its.toArray.size=ns.sum:=by
   rw [List.size_toArray,← hl,zZ ns _ (Nat.le_refl _),List.take_length]
  rw [e]
  refine ⟨.int ns.sum,H,I.kept fun b o q=>?_,⟨_,rfl⟩,q⟩
  exact hk b o (by
   intro z
   have z':b=s.heap.objs.size:=by simpa using z
   exact absurd (Heap.lt_size q) (by rw [z'];exact Nat.lt_irrefl _)) (Heap.get?_push_of_some _ q)
theorem jJ9 {kk:Int} (h:(k:Int)=kk) (hk:k < sizeLine):¬(!Builtin.List.listFitsIndex kk)=true:=by
 have hs:sizeLine=16777216:=sizeLine_eq
 have hf:Builtin.List.listFitsIndex kk=true:=fitsIndex_both (by omega) (by omega)
 rw [hf];decide
theorem ins_eq {its:List Value} {w':Value} {kk:Int} (h:(k:Int)=kk) (hk:k<=its.length) :
  (have q:=if kk < 0 then (kk+(its.toArray.size:Int)).toNat else min kk.toNat its.toArray.size;(its.toArray.extract 0 q).push w' ++ its.toArray.extract q)=(its.take k ++ w' :: its.drop k).toArray:=by
 have hkk:(if kk < 0 then (kk+(its.toArray.size:Int)).toNat else min kk.toNat its.toArray.size)=k:=by
  rw [if_neg (by omega),List.size_toArray]
  omega
 show ((its.toArray.extract 0 (if kk < 0 then (kk+(its.toArray.size:Int)).toNat else min kk.toNat its.toArray.size)).push w' ++ its.toArray.extract (if kk < 0 then (kk+(its.toArray.size:Int)).toNat else min kk.toNat its.toArray.size))=_
 rw [hkk]
 simp
 exact List.take_of_length_le (by simp)
theorem Ig:MtM X "list.insert" vM:=by
 intro pins s σ H x vs v us Q I rx rv h
 obtain ⟨l,xs,k,y,rfl,rfl,hH,hk,hz,q⟩:=h
 cases rx
 obtain ⟨u,w',rfl,ru,rw'⟩:=rv.two
 obtain ⟨t,rfl⟩:=ru
 obtain ⟨z,its,n,r,hl,e⟩:=I.lstM hH
 generalize hkk:(k:Int)=kk
 have hn:¬(!Builtin.List.listFitsIndex kk)=true:=jJ9 hkk (by omega)
 have hsz:its.toArray.size<=sizeLine:=by rw [List.size_toArray];omega
 have M:=AutoSeq1.list_insert_list_int_val_1 l its.toArray n kk t w' hn hsz
 refine call_meets F.slot_list_insert ⟨_,e,rfl⟩ F.entry_list_insert (F.args_list_insert_3 _ _ _) M ⟨e,?_⟩
 refine ⟨.non,_,I.lset (its':=its.take k ++ w' :: its.drop k) hH e (ins_eq hkk (by omega)) ((r.take k).append (.cons rw' (r.drop k))) ?_,rfl,q⟩
 rw [List.length_append,List.length_cons,List.length_take,List.length_drop]
 omega
theorem Iw {u v:Value} (r1:bR (.int i) u) (r2:bR (.int j) v):SeqAt.EqAt A s u v (i == j):=by
 obtain ⟨t,rfl⟩:=r1
 obtain ⟨t',rfl⟩:=r2
 exact fun prog w E Q hq=>wpAny_eqBool_int hq
end
noncomputable def TrP (PO:Obj->Prop) (h base:Heap) (e:Addr) (c a0 fl:Value):Prop :=
 ∃ oe vs T oT ts,h.get? e=some oe/\PO oe/\oe.cls=c/\vs[0]?=some a0/\oe.data=.fields vs/\vs[1]?=some (.ref T)/\base.get? T=none/\T≠e/\h.get? T=some oT/\oT.data=.fields ts/\ts[3]?=some fl
noncomputable def Stb (PO:Obj->Prop):Prop:=∀ o f,PO o->PO (Obj.mapFields f o)
noncomputable def Zk (head:Value) (L:Addr) (pl:List Value):Obj:={ cls:=.type "traceback",dict:=none,data:=.fields ([head,.ref L,.none,rawInt L,.none] ++ (if pl.isEmpty then List.replicate 6 Value.none else pl)).toArray }
section
variable {M:Model} {A:Around} {E:Value->Shared->Prop} {s:Shared} {PO:Obj->Prop} {base:Heap} {env:Env} {outer:List Env} {L e:Addr} {a0:Value}
theorem uO {b:Addr} {o ox:Obj} (hx:h.get? x=some ox) (hd:ox.data=.fields vs) (hb:h.get? b=some o) (hn:∀ vs,o.data≠.fields vs):b≠x:=fun z=>by
 subst z
 rw [hx] at hb
 exact hn vs (by rw [← Option.some.inj hb];exact hd)
theorem entryP (hP:Stb PO) {head:Value} {hadNext:Bool} (fr:A.frames=some (env :: outer)) (fl:s.heap.FunFrames base (env :: outer)) (ef:env.frame=some L) (ge:s.heap.get? e=some oe) (po:PO oe)
  (kb:base.StaysIn s.heap) (ne:base.get? e=none) (dd:oe.data=.fields vs) (sz:1 < vs.size) (v0:vs[0]?=some a0)
  (k:∀ h',base.StaysIn h'->h'.FunFrames base (env :: outer)->TrP PO h' base e oe.cls a0 (rawInt L)->s.heap.UpToSlots h'->Q () { s with heap:=h' }) :
  wpAny M A (frameOf env >>= fun a=>entryPlaceOf L hadNext >>= fun pl=>EntryCells.newEntry head a .none (rawInt L) .none pl >>= fun b=>setField (.ref e) 1 b) Q E s:=by
 have off:e∉(env :: outer).filterMap (·.frame):=fun hm=>by
  obtain ⟨_,o,ho,hn⟩:=fl.mem hm
  exact uO ge dd ho hn rfl
 refine wpAny_bind (wpAny_frameOf_fun fr fl ef fun h1 q1=>wpAny_bind (wpAny_entryPlaceOf fun pl hpl=>?_))
 unfold EntryCells.newEntry newFields
 refine wpAny_bind (wpAny_newObj_type ?_ (hpl.sizeOk5 _ _ _ _ _))
 have e1:h1.get? e=some oe:=(q1.2.1 e off).trans ge
 have b1:base.StaysIn h1:=fun b o hb=>(q1.2.1 b fun hm=>by rw [(fl.mem hm).1] at hb;cases hb).trans (kb b o hb)
 have e2:=Heap.get?_push_of_some (h:=h1) (Zk head L pl) e1
 have Te:h1.objs.size≠e:=Nat.ne_of_gt (Heap.lt_size e1)
 have d3:=Obj.data_mapFields dd (·.setIfInBounds 1 (Value.ref h1.objs.size))
 have e3:=Heap.get?_update_self (Obj.mapFields (·.setIfInBounds 1 (Value.ref h1.objs.size))) e2 (Obj.isFreed_of_fields d3)
 have T3:=(Heap.get?_update_other (h1.push (Zk head L pl)) (Obj.mapFields (·.setIfInBounds 1 (Value.ref h1.objs.size))) (Ne.symm Te)).trans (Heap.get?_push_size h1 rfl)
 have keep:∀ b o,b≠e->h1.get? b=some o->((h1.push (Zk head L pl)).update e (Obj.mapFields (·.setIfInBounds 1 (Value.ref h1.objs.size)))).get? b=some o:=fun b o hb q=>by
  rw [Heap.get?_update_other _ _ (Ne.symm hb)];exact Heap.get?_push_of_some _ q
 refine wpAny_setField e2 dd sz (k _ (fun b o hb=>keep b o (fun z=>by rw [z,ne] at hb;cases hb) (b1 b o hb)) (fl.of_keeps fun b o hb hn=>?_) ?_ fun b o hb hn=>?_)
 ·obtain ⟨sl,hs⟩:=q1.2.2 b o hb
  exact ⟨_,keep b _ (uO ge dd hb hn) hs,rfl⟩
 ·refine ⟨_,_,h1.objs.size,_,_,e3,hP _ _ po,Obj.cls_mapFields _ _,by rw [Array.getElem?_setIfInBounds_ne (by decide)];exact v0,d3,by simp [sz],b1.fresh,Te,T3,rfl,?_⟩
  first
   | (simp;done)
   | (rcases hpl with rfl | ⟨_,_,_,_,_,_,_,rfl⟩ <;> simp)
 ·obtain ⟨sl,hs⟩:=q1.2.2 b o hb
  exact ⟨sl,keep b _ (uO ge dd hb hn) hs⟩
theorem Tb (hP:Stb PO) (fr:A.frames=some (env :: outer)) (fl:s.heap.FunFrames base (env :: outer)) (ef:env.frame=some L) (ge:s.heap.get? e=some oe) (po:PO oe)
  (kb:base.StaysIn s.heap) (ne:base.get? e=none) (dd:oe.data=.fields vs) (v1:vs[1]?=some .none) (v0:vs[0]?=some a0)
  (k:∀ h',base.StaysIn h'->h'.FunFrames base (env :: outer)->TrP PO h' base e oe.cls a0 (rawInt L)->s.heap.UpToSlots h'->Q () { s with heap:=h' }):wpAny M A (noteFrame (.ref e) env) Q E s:=by
 unfold noteFrame
 simp only [ef]
 refine wpAny_bind (wpAny_field ge dd v1 ?_)
 rw [if_neg (by decide)]
 exact entryP hP fr fl ef ge po kb ne dd (Array.getElem?_eq_some_iff.mp v1).1 v0 k
theorem Xq (hP:Stb PO) (fr:A.frames=some (env :: outer)) (fl:s.heap.FunFrames base (env :: outer)) (ef:env.frame=some L) (tr:TrP PO s.heap base e c a0 .none) (kb:base.StaysIn s.heap) (ne:base.get? e=none)
  (k:∀ h',base.StaysIn h'->h'.FunFrames base (env :: outer)->TrP PO h' base e c a0 (rawInt L)->s.heap.UpToSlots h'->Q () { s with heap:=h' }):wpAny M A (noteFrame (.ref e) env) Q E s:=by
 obtain ⟨oe,vs,T,oT,ts,ge,po,rfl,v0,dd,v1,nT,Te,gT,dT,t3⟩:=tr
 unfold noteFrame
 simp only [ef]
 refine wpAny_bind (wpAny_field ge dd v1 ?_)
 rw [if_pos (by simp)]
 refine wpAny_bind (wpAny_field gT dT t3 ?_)
 rw [if_neg (by simp [rawInt])]
 refine wpAny_bind (wpAny_setField gT dT (Array.getElem?_eq_some_iff.mp t3).1 ?_)
 have ot:∀ b,b≠T->(s.heap.update T (Obj.mapFields (·.setIfInBounds 3 Value.none))).get? b=s.heap.get? b:=fun b hb=>Heap.get?_update_other _ _ (Ne.symm hb)
 exact entryP (s:={ s with heap:=s.heap.update T (Obj.mapFields (·.setIfInBounds 3 Value.none)) }) hP fr (fl.of_keeps fun b o hb hn=>⟨o,(ot b (uO gT dT hb hn)).trans hb,rfl⟩) ef ((ot e (Ne.symm Te)).trans ge) po
  (fun b o hb=>(ot b fun z=>by rw [z,nT] at hb;cases hb).trans (kb b o hb)) ne dd (Array.getElem?_eq_some_iff.mp v1).1 v0
  fun h' x1 x2 x3 x4=>k h' x1 x2 x3 fun b o hb hn=>x4 b o ((ot b (uO gT dT hb hn)).trans hb) hn
theorem Kz {fl:Value} {l:List Env} (kb:base.StaysIn s.heap) (ff:s.heap.FunFrames base l) (tr:TrP PO s.heap base e c a0 fl)
  (k:∀ h',base.StaysIn h'->h'.FunFrames base l->TrP PO h' base e c a0 .none->s.heap.UpToSlots h'->Q () { s with heap:=h' }):wpAny M A (setFlight (.ref e) none) Q E s:=by
 obtain ⟨oe,vs,T,oT,ts,ge,po,ec,v0,dd,v1,nT,Te,gT,dT,t3⟩:=tr
 have s3:3 < ts.size:=(Array.getElem?_eq_some_iff.mp t3).1
 have ot:∀ b,b≠T->(s.heap.update T (Obj.mapFields (·.setIfInBounds 3 ((none:Option Addr).elim Value.none fun f=>rawInt f)))).get? b=s.heap.get? b:=fun b hb=>Heap.get?_update_other _ _ (Ne.symm hb)
 unfold setFlight
 refine wpAny_bind (wpAny_field ge dd v1 ?_)
 rw [if_pos (by simp)]
 refine wpAny_setField gT dT s3 (k _ (fun b o hb=>(ot b fun z=>by rw [z,nT] at hb;cases hb).trans (kb b o hb)) (ff.of_keeps fun b o hb hn=>⟨o,(ot b (uO gT dT hb hn)).trans hb,rfl⟩) ?_ fun b o hb hn=>⟨o.slots,(ot b (uO gT dT hb hn)).trans hb⟩)
 exact ⟨oe,vs,T,_,_,(ot e (Ne.symm Te)).trans ge,po,ec,v0,dd,v1,nT,Te,Heap.get?_update_self _ gT (Obj.isFreed_of_fields (Obj.data_mapFields dT _)),Obj.data_mapFields dT _,by simp [s3]⟩
end
theorem dE.got {w:World} (x:dE P w H h a o):∃ ob,h.get? a=some ob:=by
 cases o with
 | lst xs=>obtain ⟨_,_,_,_,e⟩:=x;exact ⟨_,e⟩
 | tup xs=>obtain ⟨_,_,_,ob,e,_⟩:=x;exact ⟨ob,e⟩
 | dK kvs=>obtain ⟨_,_,_,_,ob,_,_,e,_⟩:=x;exact ⟨ob,e⟩
 | dT kvs=>obtain ⟨_,_,_,_,ob,_,_,e,_⟩:=x;exact ⟨ob,e⟩
 | set S n=>obtain ⟨ob,_,_,_,e,_⟩:=x;exact ⟨ob,e⟩
 | ins C dx fs=>obtain ⟨_,_,_,e,_⟩:=x;exact ⟨_,e⟩
 | own y=>obtain ⟨ob,e⟩:=x;exact ⟨ob,e⟩
 | xd fs=>obtain ⟨_,⟨ob,_,_,e,_⟩,_⟩:=x;exact ⟨ob,e⟩
 | rng lo hi=>obtain ⟨_,_,_,e⟩:=x;exact ⟨_,e⟩
 | frz ob u=>obtain ⟨e,_⟩:=x;exact ⟨ob,e⟩
 | tbl ps=>exact ⟨_,show h.get? a=some _ from x⟩
 | met f y=>exact ⟨_,show h.get? a=some _ from x⟩
 | ext φ=>obtain ⟨_,⟨ob,e⟩,_⟩:=x;exact ⟨ob,e⟩
theorem HOk.byB {w:World} {h' B:Heap} (x:HOk P w H h) (c:∀ b o,H b=some o->∃ ob,h.get? b=some ob/\B.get? b=some ob) (st:B.StaysIn h'):HOk P w H h':=fun a o e =>
 (x a o e).stay (fun b u hb q=>by
  have key:∀ o',H b=some o'->h'.get? b=some u:=fun o' eo=>by
   obtain ⟨ob,e1,e2⟩:=c b o' eo
   rw [q] at e1
   rw [Option.some.inj e1]
   exact st b ob e2
  rcases hb with z | z
  ·exact key o (z ▸ e)
  ·exact key _ z) (fun _ q=>q) fun _ _ q=>q
theorem Un.byB {fs:List Addr} {H':Hp} {h1 h2 B:Heap} (U:Un fs [] H H' h h1) (c2:∀ b ob,h.get? b=some ob->H b=none->b∉fs->B.get? b=some ob) (c3:∀ b ob,h.get? b=some ob->b∉fs->∃ ob',B.get? b=some ob')
  (st:B.StaysIn h2) (up:h1.UpToSlots h2) (hf:∀ b∈fs,∃ o,h1.get? b=some o/\∀ vs,o.data≠.fields vs):Un fs [] H H' h h2 where
 keep:=fun b o e n hb _=>st b o (c2 b o e n hb)
 slot:=fun b o e n hb hx=>by
  obtain ⟨sl,q⟩:=U.slot b o e n hb hx
  obtain ⟨o',q',d⟩:=hf b hb
  rw [q] at q'
  have q2:=Option.some.inj q'
  subst q2
  obtain ⟨sl',z⟩:=up b _ q d
  exact ⟨sl',z⟩
 free:=U.free
 there:=fun b o e hx=>by
  by_cases hb:b∈fs
  ·obtain ⟨o',q',d⟩:=hf b hb
   obtain ⟨sl,z⟩:=up b o' q' d
   exact ⟨_,z⟩
  ·obtain ⟨o',z⟩:=c3 b o e hb
   exact ⟨o',st b o' z⟩
 tups:=U.tups
 frzs:=U.frzs
 tbls:=U.tbls
noncomputable def Mu (od:Option Addr) (base:Heap) (l:List Env) (e:Addr) (c a0:Value) (h:Heap):Prop:=base.StaysIn h/\base.get? e=none/\h.FunFrames base l/\TrP (fun o=>o.dict=od) h base e c a0 .none
noncomputable def FlyH (od:Option Addr) (base:Heap) (l:List Env) (e:Addr) (c a0:Value) (L:Addr) (h:Heap):Prop:=base.StaysIn h/\base.get? e=none/\h.FunFrames base l/\TrP (fun o=>o.dict=od) h base e c a0 (rawInt L)
theorem Nt (od:Option Addr):Stb (fun o=>o.dict=od):=fun o f h=>by
 obtain ⟨c,d,dt,sl⟩:=o
 cases dt <;> exact h
theorem Mu.first {od:Option Addr} {base:Heap} {l:List Env} {e:Addr} {a0:Value} (x:Mu od base l e c a0 h):∃ oe vs,h.get? e=some oe/\oe.cls=c/\oe.dict=od/\oe.data=.fields vs :=
 let ⟨_,_,_,oe,vs,_,_,_,ge,po,ec,_,dd,_⟩:=x;⟨oe,vs,ge,ec,po,dd⟩
section
variable {M:Model} {A:Around} {E:Value->Shared->Prop} {s:Shared} {base:Heap} {env:Env} {outer:List Env} {L e:Addr} {c a0:Value} {od:Option Addr}
theorem Gn (fr:A.frames=some (env :: outer)) (ef:env.frame=some L) (kb:base.StaysIn s.heap) (fl:s.heap.FunFrames base (env :: outer)) (ne:base.get? e=none) (ge:s.heap.get? e=some oe) (dd:oe.data=.fields vs) (v1:vs[1]?=some .none) (v0:vs[0]?=some a0)
  (hQ:∀ h',Mu oe.dict base outer e oe.cls a0 h'->s.heap.UpToSlots h'->Q () { s with heap:=h' }):wpAny M A (leaving env (.ref e)) Q E s:=by
 unfold leaving
 refine wpAny_bind (Tb (Nt oe.dict) fr fl ef ge rfl kb ne dd v1 v0 fun h1 x1 x2 x3 x4=>?_)
 exact Kz (s:={ s with heap:=h1 }) x1 x2 x3 fun h2 y1 y2 y3 y4=>hQ h2 ⟨y1,ne,y2.2.2,y3⟩ (x4.trans y4)
theorem Xs (fr:A.frames=some (env :: outer)) (ef:env.frame=some L) (fl:Mu od base (env :: outer) e c a0 s.heap) (hQ:∀ h',FlyH od base (env :: outer) e c a0 L h'->s.heap.UpToSlots h'->Q () { s with heap:=h' }):wpAny M A (noteFrame (.ref e) env) Q E s :=
 Xq (Nt od) fr fl.2.2.1 ef fl.2.2.2 fl.1 fl.2.1 fun h1 x1 x2 x3 x4=>hQ h1 ⟨x1,fl.2.1,x2,x3⟩ x4
theorem landsD {l:List Env} (fl:FlyH od base l e c a0 L s.heap) (hQ:∀ h',Mu od base l e c a0 h'->s.heap.UpToSlots h'->Q () { s with heap:=h' }):wpAny M A (setFlight (.ref e) none) Q E s :=
 Kz fl.1 fl.2.2.1 fl.2.2.2 fun h1 x1 x2 x3 x4=>hQ h1 ⟨x1,fl.2.1,x2,x3⟩ x4
theorem Mh {l:List Env} (fl:Mu od base l e c a0 s.heap) (hQ:∀ h',Mu od base l e c a0 h'->s.heap.UpToSlots h'->Q () { s with heap:=h' }):wpAny M A (setFlight (.ref e) none) Q E s :=
 Kz fl.1 fl.2.2.1 fl.2.2.2 fun h1 x1 x2 x3 x4=>hQ h1 ⟨x1,fl.2.1,x2,x3⟩ x4
end
structure Fly (P:Program) (w:World) (outer:List Env) (H:Hp) (s:Shared) (cls:Value) (od:Option Addr) (a:Addr) (H':Hp) (B:Heap) (s':Shared):Prop where
 os:s'.os=s.os
 bare:AllBare s'.gens
 un:Un (frs outer) [] H H' s.heap s'.heap
 hok:HOk P w H' s'.heap
 fr:H' a=none
 nw:s.heap.get? a=none
 fl:∃ a0,Mu od B outer a cls a0 s'.heap
 c1:∀ b o,H' b=some o->∃ ob,s'.heap.get? b=some ob/\B.get? b=some ob
 c2:∀ b ob,s.heap.get? b=some ob->H b=none->b∉frs outer->B.get? b=some ob
 c3:∀ b ob,s.heap.get? b=some ob->b∉frs outer->∃ ob',B.get? b=some ob'
noncomputable def CXF (P:Program) (w:World):CXT:=fun outer H s E e s'=>∃ a cls od H' B,e=.ref a/\Fly P w outer H s cls od a H' B s'/\E cls od H'
theorem passN {X:Cx} {w:World}:qY (CXF P w) X E0:=fun _ _ _ _ _ _ _ ⟨_,_,_,_,_,_,_,q⟩=>q.elim
section
variable {X:Cx} {pins:List (Addr×Obj)} {σ:St} {H H':Hp} {s s':Shared} {cls:Value} {od:Option Addr} {a:Addr} {B:Heap}
theorem Inv.newer (I:Inv X pins σ H s) (hex:X.ex=[]) {b:Addr} (h:s.heap.get? b=none):X.s₀.heap.get? b=none:=by
 cases q:X.s₀.heap.get? b with
 | none=>rfl
 | some o =>
  obtain ⟨o',z⟩:=I.base.there b o q (by rw [hex];simp)
  rw [h] at z;cases z
theorem Inv.offStack (I:Inv X pins σ H s) {b:Addr} {ob:Obj} (e:X.s₀.heap.get? b=some ob) (hb:b∉X.fs):b∉frs X.stack:=fun z=>by
 rcases List.mem_cons.mp (I.stkSub b z) with z | z
 ·exact absurd (Nat.lt_of_lt_of_le (Heap.lt_size e) I.ok.above) (by rw [z];exact Nat.lt_irrefl _)
 ·exact hb z
theorem Fly.inv (I:Inv X pins σ H s) (F:Fly X.prog X.w X.stack H s cls od a H' B s') {h2:Heap} (st:B.StaysIn h2) (up:s'.heap.UpToSlots h2):Inv X pins σ H' { s' with heap:=h2 }:=by
 obtain ⟨a0,fl⟩:=F.fl
 refine I.call' (s':={ s' with heap:=h2 }) (ch:=[]) F.os (F.un.byB F.c2 F.c3 st up fun b hb=>?_) (F.hok.byB F.c1 st) F.bare (fun b z=>absurd z (by simp))
 obtain ⟨_,o,ho,hd⟩:=fl.2.2.1.mem hb
 exact ⟨o,ho,hd⟩
theorem Fly.first {a0:Value} (I:Inv X pins σ H s) (hex:X.ex=[]) (hst:X.stack=X.env :: X.outer) (hfr:X.env.frame=some X.env.locals) (ge:s.heap.get? a=some oe) (oc:oe.cls=cls) (hd:oe.data=.fields vs) (v1:vs[1]?=some .none) (v0:vs[0]?=some a0) (hH:H a=none) (nw:X.s₀.heap.get? a=none) :
  wpAny M X.A (leaving X.env (.ref a)) (fun _ s2=>∃ B,Fly X.prog X.w X.outer X.H₀ X.s₀ cls oe.dict a H B s2) E s:=by
 have hA:X.A.frames=some (X.env :: X.outer):=by rw [I.ok.frames,hst]
 have stk:=I.stack
 have hin:∀ env∈X.stack,∀ b,env.frame=some b->b∈a :: frs X.stack:=fun env he b hb=>List.mem_cons_of_mem _ (List.mem_filterMap.mpr ⟨env,he,hb⟩)
 have hl:=PySem.W.funFrames_hide stk hin
 have off:∀ b,b≠a->b∉frs X.stack->b∉a :: frs X.stack:=fun b h1 h2 z=>by
  rcases List.mem_cons.mp z with z | z
  ·exact h1 z
  ·exact h2 z
 have c1:∀ b o,H b=some o->∃ ob,s.heap.get? b=some ob/\(PySem.W.hideAll s.heap (a :: frs X.stack)).get? b=some ob:=fun b o e=>by
  obtain ⟨ob,e1⟩:=(I.hok b o e).got
  refine ⟨ob,e1,PySem.W.hideAll_get _ e1 (off b (fun z=>by rw [z,hH] at e;cases e) fun z=>?_)⟩
  have:=I.stkFree b z
  rw [e] at this;cases this
 have c2:∀ b ob,X.s₀.heap.get? b=some ob->X.H₀ b=none->b∉X.fs->(PySem.W.hideAll s.heap (a :: frs X.stack)).get? b=some ob:=fun b ob e n hb =>
  PySem.W.hideAll_get _ (I.base.keep b ob e n hb (by rw [hex];simp)) (off b (fun z=>by rw [z,nw] at e;cases e) (I.offStack e hb))
 have c3:∀ b ob,X.s₀.heap.get? b=some ob->b∉X.fs->∃ ob',(PySem.W.hideAll s.heap (a :: frs X.stack)).get? b=some ob':=fun b ob e hb=>by
  obtain ⟨o',e'⟩:=I.base.there b ob e (by rw [hex];simp)
  exact ⟨o',PySem.W.hideAll_get _ e' (off b (fun z=>by rw [z,nw] at e;cases e) (I.offStack e hb))⟩
 have b0:Un X.fs [] X.H₀ H X.s₀.heap s.heap:=by have:=I.base;rw [hex] at this;exact this
 have hl2:s.heap.FunFrames (PySem.W.hideAll s.heap (a :: frs X.stack)) (X.env :: X.outer):=by
  generalize PySem.W.hideAll s.heap (a :: frs X.stack)=G at hl ⊢
  rw [hst] at hl
  exact hl
 refine Gn (base:=PySem.W.hideAll s.heap (a :: frs X.stack)) hA hfr (fun b o q=>PySem.W.of_hideAll _ q) hl2 (PySem.W.hideAll_none _ List.mem_cons_self) ge hd v1 v0 fun h2 fl up=>?_
 have un:Un X.fs [] X.H₀ H X.s₀.heap h2:=b0.byB c2 c3 fl.1 up fun b hb=>by
  obtain ⟨_,o,ho,hd⟩:=I.funs.mem hb
  exact ⟨o,ho,hd⟩
 refine ⟨_,I.os,I.bare,un,I.hok.byB c1 fl.1,hH,nw,⟨a0,by rw [← oc];exact fl⟩,fun b o e=>?_,c2,c3⟩
 obtain ⟨ob,_,e2⟩:=c1 b o e
 exact ⟨ob,fl.1 b ob e2,e2⟩
end
section
variable {P:Program} {w:World} {K:PySem.W.Frag} {mg:Str->Option Value} {base:Heap} {N ps:List Str} {qual:Str} {scope:Scope} {f:Addr} {cd:Value} {A:Around} {outer:List Env} {s:Shared} {H:Hp} {E:XK}
theorem exc_obj {bmB:List Value} {newId:String} (X:K.In h) (q:PySem.W.excIn K C bmB newId=true):∃ bm N' nm qn bs hdct sn sub ab col dd k0 k1 k2 k3 k5 mN,
  h.get? C=some (excClassObj nm qn C N' bs bm hdct sn sub ab col dd k0 k1 k2 k3 k5 newId)/\h.Ns N' mN/\mN "__init__" = none/\OwnTail h bmB bm:=by
 unfold PySem.W.excIn at q
 split at q
 ·rename_i dd cd sl ho
  split at q
  ·rename_i C' bm k0 k1 k2 k3 n k5 hm hs
   rw [Bool.and_eq_true,Bool.and_eq_true,Bool.and_eq_true,Bool.and_eq_true,Bool.and_eq_true,beq_iff_eq,beq_iff_eq,beq_iff_eq,Bool.not_eq_true'] at q
   obtain ⟨⟨⟨⟨⟨e1,e2⟩,hdel⟩,ht⟩,hk⟩,hi⟩:=q
   subst e1 e2
   obtain ⟨nm,bs,mro,ns,qn,hd,sn,sub,ab,col,del⟩:=cd
   dsimp only at hm hdel hk hi
   subst hm hdel
   have es:sl=#[k0,k1,k2,k3,some (.builtin n),k5]:=by
    cases sl with | mk l=>simp only at hs;rw [hs]
   subst es
   exact ⟨bm,ns,nm,qn,bs,hd,sn,sub,ab,col,dd,k0,k1,k2,k3,k5,_,X _ _ ho,.of_isNs (PySem.W.isNs_of_in X hk),PySem.W.nsMap_none_of_in X hk hi,PySem.W.tail_of_in X ht⟩
  ·cases q
 ·cases q
noncomputable def Qy (E:XK) (c:Value) (ta:TA):TS:=fun _ σ H=>ta σ H fun vs H1=>vs.length<=sizeLine/\E c none H1
theorem jJl {x:Str} {bm0 bmN:List Value} {Bb Bn newId nid initId inN:String} {np cpos:Pos} {e₀:Expr} {rest:List Expr} {ta:TA}
  (Fn:ExcBaseFacts Bn newId inN bmN) (hBn:bm0.contains (.type Bn)=true) (FB:ExcBaseFacts Bb nid initId bm0)
  (hg:Gl (oY (CXF P w) P w K mg base N qual scope f cd A outer s H E) x) (hm:mg x=some (.ref C)) (hx:PySem.W.excIn K C bm0 newId=true)
  (ha:PA (oY (CXF P w) P w K mg base N qual scope f cd A outer s H E) (e₀ :: rest) ta)
  (he:starEach (e₀ :: rest) (oY (CXF P w) P w K mg base N qual scope f cd A outer s H E).env=(false,eval e₀ (oY (CXF P w) P w K mg base N qual scope f cd A outer s H E).env) :: starEach rest (oY (CXF P w) P w K mg base N qual scope f cd A outer s H E).env:=by rfl)
  (hpl:(backTo cpos (starEach rest (oY (CXF P w) P w K mg base N qual scope f cd A outer s H E).env)).any (·.1)=false:=by rfl) (hdb:(x == ("__debug__" : Str))=false:=by decide) :
  PS (oY (CXF P w) P w K mg base N qual scope f cd A outer s H E) (.Raise (some (.Call (.Name x np) (e₀ :: rest) [] cpos)) none pos) (Qy E (.ref C) ta):=by
 intro pins s1 σ H1 D I h
 obtain ⟨bm,N',nm,qn,bs,hdct,sn,sub,ab,col,dd,k0,k1,k2,k3,k5,mN,hC,hN,hni,T⟩:=exc_obj (h:=base) I.mod.kin hx
 refine wpAny_Raise_call_subU (C:=C) (nm:=nm) (q:=qn) (N:=N') (bs:=bs) (bm:=bm) (bmB:=bm0) (hdct:=hdct) (sn:=sn) (sub:=sub) (ab:=ab) (col:=col) (dd:=dd) (k0:=k0) (k1:=k1) (k2:=k2) (k3:=k3) (k5:=k5)
  Fn hBn FB (mN:=mN) (T.hasType FB.hasBase) (I.ok.hd rfl) ?_ hni (sU I hg hm ⟨rfl,?_⟩ hdb)
 ·rw [he]
  show (false || (backTo cpos (starEach rest _)).any (·.1))=false
  rw [hpl];rfl
 ·have hA:=ha cpos pins s1 σ H1 _ I h
  rw [he] at hA ⊢
  refine Calls.evalArgs_plain (thn hA fun us s2 ⟨vs,H2,I2,r,hz,q⟩=>⟨rfl,?_,I2.bk _ _ hC,hN.keeps I2.bk,T.keeps I2.bk,fun h1 e hmade=>?_⟩)
  ·show us.length<=sizeLine
   rw [← r.length];exact hz
  ·obtain ⟨t,ge,_,_⟩:=hmade.there
   have I3:Inv (oY (CXF P w) P w K mg base N qual scope f cd A outer s H E) pins σ H2 { s2 with heap:=h1 }:=I2.kept (t':=s2.toks) hmade.keeps
   have hn:H2 e=none:=by
    cases q':H2 e with
    | none=>rfl
    | some o =>
     obtain ⟨ob,e1⟩:=(I2.hok e o q').got
     rw [hmade.new] at e1;cases e1
   exact wpAny_mono (Fly.first (E:=fun e' s2=>CXF P w outer H s E e' s2) (M:=model P w) I3 rfl rfl rfl ge rfl rfl rfl rfl hn (I2.newer rfl hmade.new)) (fun _ s3 ⟨B,F⟩=>⟨e,_,_,H2,B,rfl,F,q⟩) fun _ _ z=>z
end
noncomputable def Mp (a:Addr) (c:Value) (od:Option Addr):HO:=.ext fun h=>∃ o,h.get? a=some o/\o.cls=c/\o.dict=od/\∃ vs,o.data=.fields vs
noncomputable abbrev Cx.inx (X:Cx) (a:Addr):Cx:={ X with A:=X.A.mark (some (.ref a)),calm:=false }
section
variable {X:Cx} {pins:List (Addr×Obj)} {σ:St} {H H':Hp} {s s':Shared} {cls:Value} {od:Option Addr} {a:Addr} {B:Heap}
theorem Inv.inx (I:Inv X pins σ H s) (a:Addr):Inv (X.inx a) pins σ H s :=
 ⟨⟨I.ok.mod,I.ok.kind,I.ok.glob,I.ok.blt,I.ok.above,I.ok.inj,I.ok.has,I.ok.cab,(fun z=>nomatch z),I.ok.frames,I.ok.stk,I.ok.exf,I.ok.bs,I.ok.bsz,I.ok.noex,I.ok.exfs,I.ok.funs,I.ok.frf⟩,I.os,I.bare,I.base,I.loc,I.cell,I.free,I.freeC,I.pin,I.hok,I.len⟩
theorem Inv.back (J:Inv ((X.inx a).nox) pins σ H s) (ok:X.Ok):Inv X pins σ H s:=⟨ok,J.os,J.bare,J.base,J.loc,J.cell,J.free,J.freeC,J.pin,J.hok,J.len⟩
theorem Inv.adoptE {D:Addr} (I:Inv X pins σ H s) (hn:H D=none) (hs:X.s₀.heap.get? D=none) (hL:D≠X.env.locals) (hc:∀ x c,X.env.cells.lookup x=some c->c≠D) (hp:∀ p∈X.pn ++ pins,p.1≠D)
  (new:dE X.prog X.w (upd H D o) s.heap D o):Inv X pins σ (upd H D o) s:=by
 have old:∀ b u,H b=some u->upd H D o b=some u:=fun b u q=>by rw [aR (bI q hn)];exact q
 refine ⟨I.ok,I.os,I.bare,⟨I.base.keep,I.base.slot,fun b ob e n hx=>?_,I.base.there,fun b xs e=>old _ _ (I.base.tups b xs e),fun b ob xs e=>old _ _ (I.base.frzs b ob xs e),fun b ps e=>?_⟩,I.loc,I.cell,?_,fun x c e=>?_,fun p h=>?_,fun b ob e=>?_,I.len⟩
 ·have hb:b≠D:=fun z=>by rw [z,hs] at e;cases e
  rw [aR hb];exact I.base.free b ob e n hx
 ·obtain ⟨xB,q⟩:=I.base.tbls b ps e
  exact ⟨xB,old _ _ q⟩
 ·rw [aR (Ne.symm hL)];exact I.free
 ·rw [aR (hc x c e)];exact I.freeC x c e
 ·obtain ⟨a1,a2,a3⟩:=I.pin p h
  exact ⟨a1,by rw [aR (hp p h)];exact a2,a3⟩
 ·by_cases hb:b=D
  ·subst hb;rw [aD] at e;cases e;exact new
  ·rw [aR hb] at e
   exact (I.hok b ob e).stay (fun c v _ q=>q) (fun c q=>old _ _ q) fun c xs q=>old _ _ q
theorem gone_ok {i:Nat} {x:Str} (I:Inv X pins σ H s) (hN:X.N.Nodup) (hi:X.N[i]?=some x) (hk:X.env.scope.names.lookup x=some .local)
  (h:∀ s',Inv X pins (σ.set i none) H s'->Q () s'):wpAny M A (do bindName X.env x .none;unbindBehindTheSuite X.env x pos) Q E s:=by
 obtain ⟨m,hn,hl⟩:=id I.loc
 have hp:(X.env.scope.kind == .class || (X.env.scope.kind == .module && X.env.locals != X.env.globals))=false:=by rw [I.ok.kind];rfl
 refine wpAny_nameGoes_keeps hk hn hp fun h' v hn' hs=>h _ ?_
 obtain ⟨oL,_,_,hoL,_⟩:=id hn
 have older:∀ b o,X.s₀.heap.get? b=some o->b≠X.env.locals:=fun b o e=>Nat.ne_of_lt (Nat.lt_of_lt_of_le (Heap.lt_size e) I.ok.above)
 refine ⟨I.ok,I.os,I.bare,⟨fun b o e n hb hx=>(hs.2 b (older b o e)).trans (I.base.keep b o e n hb hx),fun b o e n hb hx=>?_,I.base.free,fun b o e hx=>?_,I.base.tups,I.base.frzs,I.base.tbls⟩,⟨_,hn',fun j y v' e1 e2 e3=>?_⟩,fun y c e=>?_,I.free,I.freeC,fun p hp=>?_,fun b ob e=>?_,by simpa using I.len⟩
 ·obtain ⟨sl,e1⟩:=I.base.slot b o e n hb hx
  exact ⟨sl,(hs.2 b (older b o e)).trans e1⟩
 ·obtain ⟨o',e1⟩:=I.base.there b o e hx
  exact ⟨o',(hs.2 b (older b o e)).trans e1⟩
 ·by_cases hj:j=i
  ·subst hj
   rw [List.getElem?_set] at e2
   split at e2
   ·split at e2 <;> cases e2
   ·exact absurd rfl ‹_›
  ·rw [List.getElem?_set_ne (Ne.symm hj)] at e2
   obtain ⟨u',r',q⟩:=hl j y v' e1 e2 e3
   refine ⟨u',r',?_⟩
   rcases q with ⟨k,e⟩ | ⟨k,c,e,z⟩
   ·have ne:y≠x:=fun e=>hj (Dp hN e1 (e ▸ hi))
    exact .inl ⟨k,by simp [ne,e]⟩
   ·exact .inr ⟨k,c,e,z.sameBut hs (I.cne y c e)⟩
 ·obtain ⟨w',z⟩:=I.cell y c e
  exact ⟨w',z.sameBut hs (I.cne y c e)⟩
 ·obtain ⟨e,n,ne,nf,d⟩:=I.pin p hp
  exact ⟨(hs.2 p.1 ne).trans e,n,ne,nf,d⟩
 ·refine (I.hok b ob e).stay (fun c w' hc q=>(hs.2 c ?_).trans q) (fun _ q=>q) fun _ _ q=>q
  intro z
  subst z
  rcases hc with z | z
  ·rw [← z,I.free] at e;cases e
  ·rw [I.free] at z;cases z
end
noncomputable def PEx (X:Cx) (e:Expr) (te:XK->TE):Prop :=
 ∀ (pins:List (Addr×Obj)) (s:Shared) (σ:St) (H:Hp) (Q:VK) (E:XK) (xe:Value->Shared->Prop),Inv X pins σ H s->te E σ H Q ->
  (∀ H1 s1 e1 s',Inv X pins σ H1 s1->CXF X.prog X.w X.stack H1 s1 E e1 s'->xe e1 s')->wpAny (model X.prog X.w) X.A (eval e X.env) (EP X pins σ Q) xe s
section
variable {X:Cx} {k:Nat} {f C:Addr} {fd:FuncData} {ps:List Str} {sp:Sp} {dvs:List V} {ds:List Value} {x m:Str} {p pos apos:Pos} {e o:Expr} {es:List Expr} {ta:TE} {t:TA}
theorem run_fnX {Q:VK} {E:XK} {xe:Value->Shared->Prop} {us:List Value} {vs:List V} (F:oZ X.prog X.w X.K X.mg X.base (CXF X.prog X.w) k f fd ps sp) (hr:eX k X.A) (hb:jZ X.K fd ps [])
  (I:Inv X pins σ H s) (r:bO vs us) (h:sp vs H Q E) (hx:∀ e1 s',CXF X.prog X.w X.stack H s E e1 s'->xe e1 s'):wpAny (model X.prog X.w) X.A (call (.ref f) us) (EP X pins σ Q) xe s:=by
 have hl:(us ++ []).length=ps.length:=by rw [List.append_nil,← r.length];exact F.len _ _ _ _ h
 have bt:=hb s us I.kIn hl
 rw [List.append_nil] at bt
 refine wpAny_call (codeAny_mono (F.run X.A X.stack s H ⟨us,[]⟩ us vs Q E hr I.env0 bt r h) fun res s' hq=>?_)
 cases res with
 | error e=>exact hx e s' hq
 | ok fl =>
  cases fl with
  | ret u=>exact I.after hq
  | next=>exact False.elim hq
  | brk=>exact False.elim hq
  | cont=>exact False.elim hq
theorem jJn (F:oZ X.prog X.w X.K X.mg X.base (CXF X.prog X.w) k f fd ps sp) (hr:eX k X.A) (hg:Gl X x) (hm:X.mg x=some (.ref f)) (hk:PySem.W.keepIn X.K (.ref f)=true) (hb:jZ X.K fd ps [])
  (ha:PA X.nox (e :: es) t) (hdb:(x == ("__debug__" : Str))=false:=by decide) (he:starEach (e :: es) X.env=(false,eval e X.env) :: starEach es X.env:=by rfl) (hpl:(backTo pos (starEach es X.env)).any (·.1)=false:=by rfl) :
  PEx X (.Call (.Name x p) (e :: es) [] pos) (fun E=>aO sp [] E t):=by
 intro pins s σ H Q E xe I h hx
 refine wpAny_Call_Name_kw (sU I hg hm ?_ hdb)
 refine PySem.W.callWith_K (h₀:=X.base) I.ok.mod.kin hk (wpAny_mono (ha pos pins s σ H _ (I.wish _) h) (fun us s1 ⟨vs,H1,I1,r,q⟩=>⟨I1.kIn,?_⟩) fun _ _ z=>z.elim) he hpl
 have q':sp (vs ++ []) H1 Q E:=q
 rw [List.append_nil] at q'
 exact run_fnX F hr hb I1.unwish r q' fun e1 s' z=>hx H1 s1 e1 s' I1.unwish z
end
noncomputable def tTry (te:XK->TE) (c0:Value) (j:Nat) (ts:TS):TS:=fun D σ H=>te (fun cls od H2=>cls=c0/\∀ a,H2 a=none->ts { nx:=fun σ' H'=>D.nx (σ'.set j none) H',rt:=fun _ _=>False } (σ.set j (some (.ref a))) (upd H2 a (Mp a c0 od))) σ H fun _ H2=>D.nx σ H2
theorem ps_try {X:Cx} {te:XK->TE} {ts:TS} {c0:Value} {cx n:Str} {j:Nat} {e:Expr} {s0:Stmt} {suite:List Stmt} {p1 np hp:Pos} (he:PEx X e te) (hs:∀ a,PSs ((X.inx a).nox) (s0 :: suite) ts)
  (hst:X.stack=X.env :: X.outer) (hfr:X.env.frame=some X.env.locals) (hex:X.ex=[]) (hg:Gl X cx) (hm:X.mg cx=some c) (hmt:PySem.W.exmOne X.K c0 c=some true) (hN:X.N.Nodup) (hj:X.N[j]?=some n) (hn:X.env.scope.names.lookup n=some .local)
  (hdb:(cx == ("__debug__" : Str))=false:=by decide) (hsw:swapsWith e none p1.line X.env=pure false:=by rfl) :
  PS X (.Try [.Expr e p1] [.ExceptHandler (some (.Name cx np)) (some n) (s0 :: suite) hp] [] [] tp) (tTry te c0 j ts):=by
 intro pins s σ H D I h
 refine wpAny_Try_except (wpAny_execs_cons (wpAny_Expr_any (wpAny_mono (he pins s σ H _ _ _ I h fun H1 s1 e1 s' I1 z=>?_) (fun v s1 ⟨y,H1,I1,r1,q1⟩=>wpAny_execs_nil (wpAny_execs_nil ⟨σ,H1,I1,q1⟩)) fun _ _ z=>z) I.quiet hsw))
 obtain ⟨a,cls,od,H',B,e0,F,ec,q⟩:=z
 subst e0 ec
 obtain ⟨a0,fl⟩:=F.fl
 have fl':=fl
 rw [hst] at fl'
 have hA:X.A.frames=some (X.env :: X.outer):=by rw [I.ok.frames,hst]
 refine Xs hA hfr fl' fun h4 held up4=>landsD (s:={ s' with heap:=h4 }) held fun h5 fl5 up5=>?_
 have I5:Inv X pins σ H' { s' with heap:=h5 }:=F.inv I1 fl5.1 (up4.trans up5)
 obtain ⟨ob,_,hob,hobc,_,_⟩:=fl5.first
 have LT:PySem.W.Looks (model X.prog X.w) h5 (typeOf (.ref a)) cls:=hobc ▸ (PySem.W.Looks.ld hob).andThen .now
 refine wpAny_handleBy_cons (codeAny_handlers_test (sU (X:=X.inx a) (I5.inx a) hg hm ((PySem.W.exm_one I5.kIn LT hmt).here (codeAny_handlers_suite_as ?_)) hdb)) (by intro z;cases z)
 refine Mh (s:={ s' with heap:=h5 }) fl5 fun h6 fl6 up6=>?_
 have I6:Inv X pins σ H' { s' with heap:=h6 }:=F.inv I1 fl6.1 ((up4.trans up5).trans up6)
 obtain ⟨oe,vs,hoe,hoc,hdc,hod⟩:=fl6.first
 have nL:a≠X.env.locals:=fun z=>by
  obtain ⟨_,⟨oL,_,_,e1,_⟩,_⟩:=I1.loc
  rw [← z,F.nw] at e1;cases e1
 have nC:∀ y c,X.env.cells.lookup y=some c->c≠a:=fun y c e1 z=>by
  obtain ⟨_,oc,e2,_⟩:=I1.cell y c e1
  rw [z,F.nw] at e2;cases e2
 have nP:∀ p∈X.pn ++ pins,p.1≠a:=fun p hp z=>by
  have e1:=(I1.pin p hp).1
  rw [z,F.nw] at e1;cases e1
 have I7:Inv X pins σ (upd H' a (Mp a cls od)) { s' with heap:=h6 }:=I6.adoptE F.fr (I1.newer hex F.nw) nL nC nP ⟨⟨oe,hoe,hoc,hdc,vs,hod⟩,⟨oe,hoe⟩,fun g1 g2 ⟨o,e1,r⟩ kp=>⟨o,kp o e1,r⟩⟩
 refine Dg I7 hN hj (.inl hn) (v:=.ref a) (u:=.ref a) rfl (fun s8 I8=>?_) (.inr hn)
 refine wpAny_mono (hs a pins s8 _ _ _ (I8.inx a |>.wish _) (q a F.fr)) (fun fl9 s9 z=>?_) fun _ _ z=>z.elim
 cases fl9 with
 | next =>
  obtain ⟨σ',H9,I9,q9⟩:=z
  exact gone_ok (I9.back I.ok) hN hj hn fun s10 I10=>⟨_,_,I10,q9⟩
 | ret v=>obtain ⟨_,_,_,_,_,z⟩:=z;exact z.elim
 | brk=>obtain ⟨_,_,_,z⟩:=z;exact z.elim
 | cont=>obtain ⟨_,_,_,z⟩:=z;exact z.elim
noncomputable def aX (K:PySem.W.Frag) (x:Str):Addr:=match PySem.W.nsIn K mainGlobals x with
 | some (some (.ref C))=>C
 | _=>0
theorem cB {x:Str} (h:PySem.W.nsIn K mainGlobals x=some (some (.ref C))):aX K x=C:=by unfold aX;rw [h]
noncomputable def zG (a C:Addr) (h:Heap):Prop:=∃ o,h.get? a=some o/\o.cls=.ref C/\∃ vs,o.data=.fields vs
noncomputable def KX (K:PySem.W.Frag) (C:Addr):Prop:=∀ a,PySem.W.KitX K (.ref a) (.ref C) (zG a C)
noncomputable def isE (K:PySem.W.Frag) (C:Addr) (H:Hp) (y:V) (b:Bool):Prop :=
 (∃ D,y=.ref D/\PySem.W.kitOne K (.ref C) (.ref D)=some b)∨(∃ T,y=.ty T/\PySem.W.kitOne K (.ref C) (.type T)=some b)∨(∃ p Ds,y=.ref p/\H p=some (.tup (List.map V.ref Ds))/\PySem.W.kitAny K (.ref C) (List.map Value.ref Ds)=some b)
noncomputable def Wq (K:PySem.W.Frag):List V->Hp->VK->Prop:=fun xs H Q=>∃ a C od y b,xs=[.ref a,y]/\H a=some (Mp a (.ref C) od)/\KX K C/\isE K C H y b/\Q (.bl b) H
structure XT (K:PySem.W.Frag) (R:Str) (others:List Str):Prop where
 any:PySem.W.kitAny K (.ref (aX K R)) (others.map fun x=>.ref (aX K x))=some false
 val:PySem.W.kitOne K (.ref (aX K R)) (.type "ValueError")=some true
 kx:KX K (aX K R)
theorem XT.own {R:Str} {others:List Str} (_:XT K R others):PySem.W.kitOne K (.ref (aX K R)) (.ref (aX K R))=some true:=by
 unfold PySem.W.kitOne;rw [if_pos (by simp)]
section
variable {X:Cx}
theorem zG.of (I:Inv X pins σ H s) {od:Option Addr} (h:H a=some (Mp a (.ref C) od)):zG a C s.heap:=let ⟨o,e1,e2,_,e3⟩:=(I.hok a _ h).1;⟨o,e1,e2,e3⟩
theorem tup_of {p:Addr} {Ds:List Addr} (I:Inv X pins σ H s) (h:H p=some (.tup (List.map V.ref Ds))):∃ o n,s.heap.get? p=some o/\o.cls=.type "tuple" /\ o.data=.seq (List.map Value.ref Ds).toArray n:=by
 obtain ⟨_,its,r,o,e,c,n,d⟩:=I.hok p _ h
 have key:∀ (Ds:List Addr) (its:List Value),bO (List.map V.ref Ds) its->its=List.map Value.ref Ds:=by
  intro Ds
  induction Ds with
  | nil=>intro its r;cases r;rfl
  | cons D r' ih =>
   intro its r
   cases r with
   | cons q t =>
    have q':_=Value.ref D:=q
    rw [q',ih _ t];rfl
 have:=key Ds its r
 subst this
 exact ⟨o,n,e,c,d⟩
theorem Dv:lX X (.builtin "isinstance") (Wq X.K):=by
 intro pins s σ H xs us Q I r h
 obtain ⟨a,C,od,y,b,rfl,hH,kx,hb,q⟩:=h
 obtain ⟨u,c,rfl,ru,rc⟩:=Ud r
 obtain rfl:u=Value.ref a:=ru
 have at_:=zG.of I hH
 have fin:∀ tk,EP X pins σ Q (.bool b) { s with toks:=tk }:=fun tk=>⟨.bl b,H,I.tok _,rfl,q⟩
 rcases hb with ⟨D,rfl,e⟩ | ⟨T,rfl,e⟩ | ⟨p,Ds,rfl,hp,e⟩
 ·obtain rfl:c=Value.ref D:=rc
  exact PySem.W.kia_one (kx a) I.kIn at_ e (fun z=>nomatch z) fin
 ·obtain rfl:c=Value.type T:=rc
  exact PySem.W.kia_one (kx a) I.kIn at_ e (fun z=>nomatch z) fin
 ·obtain rfl:c=Value.ref p:=rc
  obtain ⟨⟨oc,od,dt,sl⟩,n,e1,e2,e3⟩:=tup_of I hp
  dsimp only at e2 e3
  subst e2 e3
  exact PySem.W.kia_tup (kx a) I.kIn at_ e1 e (fun z=>nomatch z) fin
end
theorem sub_of {T:Value} {b:Bool} (X:K.In h) (at_:zG a C h) (e:PySem.W.mroIn K C T=some b):PySem.W.Looks M h (isInstance (.ref a) T) b:=by
 obtain ⟨o,e1,e2,_⟩:=at_
 have L0:PySem.W.Looks M h (typeOf (.ref a)) (.ref C):=e2 ▸ (PySem.W.Looks.ld e1).andThen .now
 exact L0.andThen (PySem.W.looks_mroIn X e)
section
open PySem.W Builtin Builtin.ObjectAttr Builtin.Getset_descriptor
theorem Mi {prog:Program} {w:World} {K:Frag} {R:Result->Shared->Prop} {tp:Value} (X:K.In s.heap) (at_:zG x C s.heap) (hm:mroIn K C (.type "object")=some true) (h:R (.ok (.ret (.ref C))) s) :
  codeAny (model prog w) A (.call (.builtin "getset_descriptor.__get__") ⟨[.builtin "object.__class__",.ref x,tp],[]⟩) R s:=by
 obtain ⟨o,e1,e2,vs,e3⟩:=at_
 obtain ⟨hh,g,dr,t,os⟩:=s
 have L0:Looks (model prog w) hh (typeOf (.ref x)) (.ref C):=e2 ▸ (Looks.ld e1).andThen .now
 have L1:=looks_mroIn (M:=model prog w) X hm
 refine codeAny_call_builtin KF.slot_gs.plain KF.entry_gs (KF.slot_gs.check _ _ _ _ _ _ _ _ KF.type_class (KF.args_gs _ _ _) ?_)
 unfold Builtin.«getset_descriptor.__get__» descrGet;rw [dga_obj]
 refine wpAny_bind (wpAny_pure ?_)
 unfold descrGetter descrCheckInstance descrNameAndClass isInstance;simp only [KF.owner_class]
 repeat lk
 refine ⟨Code.quiet_builtin _ (by decide +kernel),codeAny_builtin KF.entry_class ?_⟩;unfold Builtin.«object.__class__» shownTypeOf
 repeat lk
 exact h
theorem Yl {prog:Program} {w:World} {K:Frag} {Q:Option Value->Shared->Prop}
  (hga:findIn K (.ref C) "__getattribute__" = some (some (.builtin "BaseException.__getattribute__"))) (hgh:findIn K (.ref C) "__getattr__" = some none) (hcl:findIn K (.ref C) "__class__" = some (some (.builtin "object.__class__")))
  (hn:specialIn K (.builtin "object.__class__") "__get__" = some (some (.builtin "getset_descriptor.__get__"))) (htk:takesIn K (.builtin "object.__class__")=some true) (hm:mroIn K C (.type "object")=some true) (hb:mroIn K C (.type "BaseException")=some true)
  (X:K.In s.heap) (at_:zG x C s.heap) (h:Q (some (.ref C)) { s with toks:=s.toks+1 }):wpAny (model prog w) A (getAttr? (.ref x) "__class__") Q E s:=by
 obtain ⟨o,e1,e2,vs,e3⟩:=id at_
 obtain ⟨hh,g,dr,t,os⟩:=s
 have L0:Looks (model prog w) hh (typeOf (.ref x)) (.ref C):=e2 ▸ (Looks.ld e1).andThen .now
 have L1:=looks_findIn (M:=model prog w) X hga
 have L2:=looks_findIn (M:=model prog w) X hgh
 have L3:=looks_findIn (M:=model prog w) X hcl
 have L4:=looks_specialIn (M:=model prog w) X hn
 have L5:=looks_takesIn (M:=model prog w) X htk
 have L6:Looks (model prog w) hh (isInstance (.ref x) (.type "BaseException")) true:=sub_of X at_ hb
 have LD:Looks (model prog w) hh (dataDescriptor? (some (.builtin "object.__class__")) (some (.builtin "getset_descriptor.__get__"))) (some (.builtin "getset_descriptor.__get__",.builtin "object.__class__")):=L5.andThen .now
 have LF:Looks (model prog w) hh (find (.ref x) (.ref C) "__class__") (.bind (.builtin "getset_descriptor.__get__") (.builtin "object.__class__")):=L3.andThen (L4.andThen (LD.andThen (Looks.tag .now)))
 have bnd:=PySem.F.attr_ValueError.ga.bind (.ref x)
 have hne:(Value.builtin "BaseException.__getattribute__" == Value.builtin "object.__getattribute__")=false:=by decide +kernel
 have hk:builtinKind "BaseException.__getattribute__" = some .slot:=by decide +kernel
 have hsp:splitId "BaseException.__getattribute__" = some ("BaseException", "__getattribute__"):=by decide +kernel
 unfold getAttr? getAttrBy? getAttrBy
 refine wpAny_bind (wpAny_mkText (wpAny_bind (wpAny_attempt (wpAny_holding (wpAny_bind (L0.at (wpAny_bind (L1.at ?_))))))))
 dsimp only
 rw [hne,Bool.and_false,if_neg Bool.false_ne_true]
 unfold getAttrByItsOwn hookBefore
 rw [if_pos (show onTheHeap (Value.ref C)=true from rfl)]
 refine wpAny_bind (L2.at (wpAny_bind (wpAny_attempt (wpAny_holding ?_))))
 unfold callGetattribute boundAndCalled
 rw [Bool.false_and,if_neg Bool.false_ne_true,bnd]
 refine wpAny_bind (wpAny_pure (wpAny_call (codeAny_call_builtin PySem.F.attr_ValueError.ga.plain PySem.F.entry_bexc_ga ?_)))
 have ha:=PySem.F.args_bexc_ga (.ref x) (.str "__class__" t)
 show wpAny _ _ (checkBuiltinCall _ ⟨[.ref x,.str "__class__" t],[]⟩) _ _ _
 simp only [checkBuiltinCall,hk,hsp]
 refine wpAny_bind (L6.at ?_)
 repeat (first | lk | wp_step)
 show wpAny _ _ (run (.call (.builtin "getset_descriptor.__get__") ⟨[.builtin "object.__class__",.ref x,.ref C],[]⟩) none) _ _ _
 refine wpAny_run (Mi X at_ hm ?_)
 repeat (first | lk | wp_step)
 exact h
end
theorem jJ6 (hga:PySem.W.findIn K (.ref C) "__getattribute__" = some (some (.builtin "BaseException.__getattribute__"))) (hgh:PySem.W.findIn K (.ref C) "__getattr__" = some none) (hcl:PySem.W.findIn K (.ref C) "__class__" = some (some (.builtin "object.__class__")))
  (hn:PySem.W.specialIn K (.builtin "object.__class__") "__get__" = some (some (.builtin "getset_descriptor.__get__"))) (htk:PySem.W.takesIn K (.builtin "object.__class__")=some true) (hm:PySem.W.mroIn K C (.type "object")=some true) (hb:PySem.W.mroIn K C (.type "BaseException")=some true) :
  PySem.W.KitX K (.ref a) (.ref C) (zG a C):=by
 obtain ⟨cd,hc,_⟩:=Option.bind_eq_some_iff.mp hm
 have key:∃ c d sl,K.lookup C=some ⟨c,d,.cls cd,sl⟩:=by
  unfold PySem.W.clsIn at hc
  split at hc
  ·rename_i c' d' cd' sl' ho
   have:=Option.some.inj hc
   subst this
   exact ⟨_,_,_,ho⟩
  ·cases hc
 obtain ⟨c,d,sl,ho⟩:=key
 refine ⟨fun M h X p=>?_,fun M h X p=>?_,fun h tp dd its n sl' X e=>?_,fun X p q=>Yl hga hgh hcl hn htk hm hb X p q⟩
 ·obtain ⟨o,e1,e2,_⟩:=p
  exact e2 ▸ (PySem.W.Looks.ld e1).andThen .now
 ·intro A' Q' E' s' k q
  unfold isType loadHead
  exact wpAny_bind (wpAny_loadPart (k _ _ (X _ _ ho)) (wpAny_pure q))
 ·refine Bool.eq_false_iff.mpr fun q=>?_
  have z:C=tp:=Value.ref.inj (beq_iff_eq.mp q)
  subst z
  cases (X _ _ ho).symm.trans e
end L2
namespace L2
theorem Gr:PySem.bootBuiltins "ValueError" = some (.type "ValueError"):=by decide +kernel
end L2
namespace L2
open PySem PySem.Spec PyProof.Rows Builtin Builtin.ObjectAttr
end L2
namespace L2
open PySem PySem.Spec PyProof.Rows
variable {H H1:Hp} {K:PySem.W.Frag} {N:List Str} {Q:Option Value->Shared->Prop} {a z:Addr} {caps:List Nat} {g:TG} {i k:Nat} {o:Obj} {pins:List (Addr×Obj)} {pos py spos:Pos} {s:Shared} {tb:TS} {te:TE} {x y:Str} {xs ys:List V} {σ:St}
section
open PySem.W Builtin Builtin.ObjectAttr Builtin.Getset_descriptor
end
noncomputable def REq (K:PySem.W.Frag) (H:Hp) (D:V->V->Bool->Prop) (x y:V) (b:Bool):Prop:=∃ a c xs ys,x=.ref a/\y=.ref c /\
 ((SqL K H a xs/\SqL K H c ys/\((xs.length≠ys.length/\b=false)∨(xs.length=ys.length/\∃ e:Nat->Bool,(∀ (j:Nat) x' y',xs[j]?=some x'->ys[j]?=some y'->D x' y' (e j))/\b=(List.range xs.length).all e))) ∨
  (SqT K H a xs/\SqT K H c ys/\∃ e:Nat->Bool,(∀ (j:Nat) x' y',xs[j]?=some x'->ys[j]?=some y'->D x' y' (e j))/\b=((List.range (min xs.length ys.length)).all e && xs.length == ys.length)))
noncomputable def DEq (K:PySem.W.Frag) (H:Hp):Nat->V->V->Bool->Prop
 | 0,x,y,b=>(x=y/\(∃ a,x=.ref a)/\b=true)∨∃ i j,x=.int i/\y=.int j/\b=(i == j)
 | n+1,x,y,b=>((x=y/\(∃ a,x=.ref a)/\b=true)∨∃ i j,x=.int i/\y=.int j/\b=(i == j))∨(x≠y/\REq K H (DEq K H n) x y b)
noncomputable def Mo (K:PySem.W.Frag) (n:Nat):R2:=fun x y H Q=>∃ b,REq K H (DEq K H n) x y b/\Q (.bl (!b)) H
theorem bO.ix {us:List Value} (r:bO xs us) {j:Nat} (h:j < us.toArray.size):∃ x,xs[j]?=some x/\bR x us.toArray[j]:=by
 have hl:=r.length
 have h1:j < us.length:=by simpa using h
 have h2:j < xs.length:=by omega
 obtain ⟨u,e,q⟩:=r.get (i:=j) (x:=xs[j]) (List.getElem?_eq_getElem h2)
 refine ⟨xs[j],List.getElem?_eq_getElem h2,?_⟩
 have e2:us.toArray[j]=u:=by
  obtain ⟨_,z⟩:=List.getElem?_eq_some_iff.mp e
  simpa using z
 rw [e2];exact q
section
variable {X:Cx} {pins:List (Addr×Obj)} {σ:St} {H:Hp} {s:Shared}
theorem rc_of {A:Around} {D:V->V->Bool->Prop} (I:Inv X pins σ H s) (hu:A.units < cLine) (hD:∀ x y u v b,bR x u->bR y v->D x y b->SeqAt.EqAt A.in1 s u v b) {x y:V} {u v:Value} {b:Bool} (rx:bR x u) (ry:bR y v) (h:REq X.K H D x y b):SeqAt.RcAt A s u v b:=by
 obtain ⟨a,c,xs,ys,rfl,rfl,h⟩:=h
 cases rx
 cases ry
 rcases h with ⟨ha,hc,h⟩ | ⟨ha,hc,e,he,rfl⟩
 ·obtain ⟨i1,r1,p1,_⟩:=I.list ha
  obtain ⟨i2,r2,p2,_⟩:=I.list hc
  have l1:=r1.length
  have l2:=r2.length
  rcases h with ⟨hn,rfl⟩ | ⟨hl,e,he,rfl⟩
  ·exact SeqAt.RcAt.lists_lengths p1.isList p2.isList (by rw [List.size_toArray,List.size_toArray];simp;omega) hu
  ·have q:=SeqAt.RcAt.lists (e:=e) p1.isList p2.isList (by rw [List.size_toArray,List.size_toArray];omega) hu fun j h1 h2=>by
    obtain ⟨x',ex,rx'⟩:=r1.ix h1
    obtain ⟨y',ey,ry'⟩:=r2.ix h2
    exact hD _ _ _ _ _ rx' ry' (he j x' y' ex ey)
   rw [List.size_toArray,← l1] at q
   exact q
 ·obtain ⟨i1,r1,p1,_⟩:=I.tuple ha
  obtain ⟨i2,r2,p2,_⟩:=I.tuple hc
  have l1:=r1.length
  have l2:=r2.length
  have q:=SeqAt.RcAt.tuples (e:=e) p1 p2 hu fun j h1 h2=>by
   obtain ⟨x',ex,rx'⟩:=r1.ix h1
   obtain ⟨y',ey,ry'⟩:=r2.ix h2
   exact hD _ _ _ _ _ rx' ry' (he j x' y' ex ey)
  rw [List.size_toArray,List.size_toArray,← l1,← l2] at q
  exact q
theorem Vv {A:Around} {x y:V} {u v:Value} {b:Bool} (rx:bR x u) (ry:bR y v) (h:(x=y/\(∃ a,x=.ref a)/\b=true)∨∃ i j,x=.int i/\y=.int j/\b=(i == j)):SeqAt.EqAt A s u v b:=by
 rcases h with ⟨rfl,⟨a,rfl⟩,rfl⟩ | ⟨i,j,rfl,rfl,rfl⟩
 ·cases rx
  cases ry
  exact SeqAt.EqAt.same _
 ·exact Iw rx ry
theorem Iv (I:Inv X pins σ H s):∀ (n:Nat) (A:Around),A.units+n < cLine->∀ x y u v b,bR x u->bR y v->DEq X.K H n x y b->SeqAt.EqAt A s u v b
 | 0,_,_,_,_,_,_,_,rx,ry,h=>Vv rx ry h
 | n+1,A,hu,x,y,u,v,b,rx,ry,h=>by
  rcases h with h | ⟨hne,h⟩
  ·exact Vv rx ry h
  ·have q:=rc_of I (A:=A) (by omega) (fun x y u v b rx ry d=>Iv I n A.in1 (by show A.units+1+n < cLine;omega) x y u v b rx ry d) rx ry h
   obtain ⟨a,c,xs,ys,rfl,rfl,_⟩:=h
   cases rx
   cases ry
   exact SeqAt.EqAt.of_refs (fun z=>hne (by rw [z])) q
end
section
variable {X:Cx}
theorem Rc (n:Nat) (hu:X.A.units+(n+1) < cLine):OpR X (compareOp .NotEq) (Mo X.K n):=by
 intro pins s σ H x y v u Q I rx ry h
 obtain ⟨b,⟨a,c,xs,ys,rfl,rfl,h⟩,q⟩:=h
 cases rx
 cases ry
 have hD:=Iv I n X.A.in1 (by show X.A.units+1+n < cLine;omega)
 have hu':X.A.units < cLine:=by omega
 have fin:EP X pins σ Q (.bool (!b)) s:=⟨.bl (!b),H,I,rfl,q⟩
 rcases h with ⟨ha,hc,h⟩ | ⟨ha,hc,e,he,rfl⟩
 ·obtain ⟨i1,r1,p1,_⟩:=I.list ha
  obtain ⟨i2,r2,p2,_⟩:=I.list hc
  have l1:=r1.length
  have l2:=r2.length
  rcases h with ⟨hn,rfl⟩ | ⟨hl,e,he,rfl⟩
  ·exact SeqAt.RcNeAt.lists_lengths p1.isList p2.isList (by rw [List.size_toArray,List.size_toArray];simp;omega) hu' _ _ _ _ fin
  ·have z:=SeqAt.RcNeAt.lists (A:=X.A) (e:=e) p1.isList p2.isList (by rw [List.size_toArray,List.size_toArray];omega) hu' fun j h1 h2=>by
    obtain ⟨x',ex,rx'⟩:=r1.ix h1
    obtain ⟨y',ey,ry'⟩:=r2.ix h2
    exact hD _ _ _ _ _ rx' ry' (he j x' y' ex ey)
   rw [List.size_toArray,← l1] at z
   exact z _ _ _ _ fin
 ·obtain ⟨i1,r1,p1,_⟩:=I.tuple ha
  obtain ⟨i2,r2,p2,_⟩:=I.tuple hc
  have l1:=r1.length
  have l2:=r2.length
  have z:=SeqAt.RcNeAt.tuples (A:=X.A) (e:=e) p1 p2 hu' fun j h1 h2=>by
   obtain ⟨x',ex,rx'⟩:=r1.ix h1
   obtain ⟨y',ey,ry'⟩:=r2.ix h2
   exact hD _ _ _ _ _ rx' ry' (he j x' y' ex ey)
  rw [List.size_toArray,List.size_toArray,← l1,← l2] at z
  exact z _ _ _ _ fin
end
theorem REq.refs {n:Nat} {c:Addr} {ps:List Addr} (h1:SqL K H a (List.map V.ref ps)) (h2:SqL K H c (List.map V.ref ps)):REq K H (DEq K H n) (.ref a) (.ref c) true:=by
 refine ⟨a,c,_,_,rfl,rfl,.inl ⟨h1,h2,.inr ⟨rfl,fun _=>true,fun j x y ex ey=>?_,by simp⟩⟩⟩
 rw [ex] at ey
 have e:=Option.some.inj ey
 rw [List.getElem?_map] at ex
 cases e1:ps[j]? with
 | none=>rw [e1] at ex;cases ex
 | some p =>
  rw [e1] at ex
  have x1:=Option.some.inj ex
  have leaf:(x=y/\(∃ a,x=V.ref a)/\true=true)∨∃ i k,x=V.int i/\y=V.int k/\true=(i == k):=.inl ⟨e,⟨p,x1.symm⟩,rfl⟩
  cases n with
  | zero=>exact leaf
  | succ n=>exact .inl leaf
noncomputable def zE:R2:=fun x y H Q=>∃ a b xs ys,x=.ref a/\y=.ref b/\H a=some (.tup xs)/\H b=some (.tup ys)/\xs.length+ys.length<=sizeLine/\∀ p H',aF H H'->H' p=some (.tup (xs ++ ys))->Q (.ref p) H'
noncomputable def rSlA:V->Option Int->Option Int->Hp->VK->Prop:=fun x lo hi H Q=>∃ a xs,x=.ref a/\H a=some (.tup xs)/\∀ p H',aF H H'->H' p=some (.tup (iG xs lo hi))->Q (.ref p) H'
section
variable {X:Cx}
theorem Bv:OpR X (binaryOp .Add) zE:=by
 intro pins s σ H x y v u Q I rx ry h
 obtain ⟨a,b,xs,ys,rfl,rfl,ha,hb,hz,q⟩:=h
 by_cases hx:xs=[]
 ·subst hx
  cases rx
  cases ry
  obtain ⟨i1,r1,p1,_⟩:=I.tuple (SqT.of ha)
  obtain ⟨i2,r2,p2,_⟩:=I.tuple (SqT.of hb)
  have e1:i1=[]:=by cases r1;rfl
  subst e1
  obtain ⟨⟨cls,dd,data,sl⟩,ho,hc,n,hd⟩:=id p1
  obtain ⟨⟨cls2,dd2,data2,sl2⟩,ho2,hc2,n2,hd2⟩:=id p2
  simp only at hc hd hc2 hd2
  subst hc hd hc2 hd2
  exact concat_meets ⟨_,ho,rfl⟩ ⟨_,ho2,rfl⟩ noFill_tuple_add seq_tuple_add PySem.F.slot_tuple_add PySem.F.entry_tuple_add (PySem.F.args_tuple_add_2 _ _) (tuple_addW0 a b _ _ n n2 dd dd2 sl sl2 (by simp)) ⟨ho,ho2,⟨.ref b,H,I,rfl,q b H (aF.refl H) hb⟩⟩
 ·refine op_catT pins s σ H _ _ v u Q I rx ry ⟨a,b,xs,ys,rfl,rfl,SqT.of ha,SqT.of hb,hx,hz,fun e=>?_,fun _ p hp=>q p _ (aF.upd hp) aD⟩
  subst e
  exact q a H (aF.refl H) (by rw [List.append_nil];exact ha)
end
theorem Ql:bootBuiltins "reversed" = some (.type "reversed"):=by decide +kernel
section
variable {prog:Program} {w:World} {A:Around} {E:Value->Shared->Prop} {s:Shared}
open HT in
theorem Pc {t sl:Addr} {items:Array Value} {vl vu:Value} {lo hi:Option Int} {Q:Value->Shared->Prop} (ht:IsTup s.heap t items) (hs:s.heap.IsSliceOf sl vl vu .none) (pl:IsPart vl lo) (pu:IsPart vu hi)
  (hw:sIx items.size 0 lo=0/\sIx items.size items.size hi=items.size) (h:Q (.ref t) s):wpAny (model prog w) A (getItem (.ref t) (.ref sl)) Q E s:=by
 obtain ⟨os,hos,hcs,hds⟩:=id hs
 have hTs:s.TypeIs (.ref sl) "slice":=⟨os,hos,hcs⟩
 unfold getItem
 try with_reducible refine wpAny_holding ?_
 first | refine wpAny_bind (wpAny_pure ?_) | skip
 refine wpAny_bind (wpAny_sequenceKey ht.typeIs (by decide) ?_)
 refine wpAny_bind (wpAny_callSpecial?_slot (name:=Str.ofString "__getitem__") ht.typeIs PyProof.Rows.slot_tuple_getitem
  (wpAny_call_entry PyProof.Rows.slot_tuple_getitem ht.typeIs entry_tuple_getitem ?_ (args_tuple_getitem _ _)))
 show wpAny _ _ (Builtin.Tuple.tupleItemsOf (.ref t) >>= _) _ _ s
 refine wpAny_bind (tupleItemsOf_ ht ?_)
 refine wpAny_bind (wpAny_typeOf hTs ?_)
 rw [if_pos (by decide)]
 refine wpAny_bind (oQ hs pl pu ?_)
 have yes:((((sIx items.size 0 lo:Nat):Int) == 0 && (1:Int) == 1 && (sIx items.size items.size hi - sIx items.size 0 lo) == items.size)=true):=by
  rw [hw.1,hw.2];simp
 show wpAny _ _ (if (((sIx items.size 0 lo:Nat):Int) == 0 && (1:Int) == 1 && (sIx items.size items.size hi - sIx items.size 0 lo) == items.size)=true then _ else _) _ _ s
 rw [if_pos yes]
 unfold Builtin.Tuple.tupleIsExact
 refine wpAny_bind (wpAny_bind (wpAny_typeOf ht.typeIs (wpAny_pure ?_)))
 rw [if_pos (by decide)]
 first
  | exact wpAny_bind (wpAny_rule (wpAny_pure ⟨_,rfl,wpAny_pure h⟩))
  | exact wpAny_bind (wpAny_rule (wpAny_bind (wpAny_pure (wpAny_pure ⟨_,rfl,wpAny_pure h⟩))))
  | exact wpAny_bind (wpAny_rule (wpAny_pure h))
end
section
variable {X:Cx}
theorem Ty {lo hi:Option Int} (h:HT.sIx xs.length 0 lo=0/\HT.sIx xs.length xs.length hi=xs.length):iG xs lo hi=xs:=by
 unfold iG
 rw [h.1,h.2,List.drop_zero,Nat.sub_zero,List.take_length]
theorem Ur:SlR X rSlA:=by
 intro pins s σ H x v vl vu lo hi sl Q I rx hs pl pu h
 obtain ⟨a,xs,rfl,hx,q⟩:=h
 by_cases hw:HT.sIx xs.length 0 lo=0/\HT.sIx xs.length xs.length hi=xs.length
 ·cases rx
  obtain ⟨its,r,ht,hz⟩:=I.tuple (SqT.of hx)
  have hlen:its.toArray.size=xs.length:=by rw [List.size_toArray];exact r.length.symm
  refine ⟨"tuple",_,PyProof.Rows.slot_tuple_getitem.lookup,ht.typeIs,?_⟩
  exact Pc ht hs pl pu (by rw [hlen];exact hw) ⟨.ref a,H,I,rfl,q a H (aF.refl H) (by rw [Ty hw];exact hx)⟩
 ·exact sl_tup pins s σ H _ v vl vu lo hi sl Q I rx hs pl pu ⟨a,xs,rfl,SqT.of hx,hw,fun p hp=>q p _ (aF.upd hp) aD⟩
end
noncomputable def Itv (K:PySem.W.Frag) (a:Addr) (n:Nat):It :=
 ⟨fun i H=>i < n/\∃ xs,SqL K H a xs/\xs.length=n,fun i H v H'=>H'=H/\∀ xs,SqL K H a xs->xs[n - 1 - i]?=some v,fun i _=>n<=i⟩
noncomputable def iRev (K:PySem.W.Frag) (tl:TE):TI:=fun σ H R=>tl σ H fun x H1=>∃ a xs,x=.ref a/\SqL K H1 a xs/\R (Itv K a xs.length) H1
theorem jJV {P:Program} {w:World} {tg:Expr} (a it:Addr) (n:Nat):Qn P w K tg (Itv K a n) [it] it (fun i h=>i<=n/\h.IsRevIter it a ((n:Int) - 1 - (i:Int))) where
 mem:=by simp
 obj:=fun i h st b hb=>by
  obtain ⟨_,o,e,c,d⟩:=st
  have z:b=it:=by simpa using hb
  subst z
  exact ⟨o,e,fun v z=>by rw [d] at z;cases z⟩
 keep:=fun i h h' st k=>⟨st.1,st.2.at fun o q=>k it (by simp) o q⟩
 item:=by
  intro X hP hw hK hc i pins s σ H E I hf st hg
  subst hP hw hK
  obtain ⟨hi,xs,hq,hn⟩:=hg
  obtain ⟨its,rv,p,hz⟩:=I.list hq
  have hl:=rv.length
  obtain ⟨f0,f1,f2,f3,f4,f5⟩:=hf it (by simp)
  have e1:(n:Int) - 1 - (i:Int)=((n - 1 - i:Nat):Int):=by omega
  have hit:=st.2
  rw [e1] at hit
  have hlt:n - 1 - i < xs.length:=by omega
  obtain ⟨u,hu,ru⟩:=rv.get (List.getElem?_eq_getElem hlt)
  refine wpAny_pyNext_rev_item hit p.isList (x:=u) (by simpa using hu) fun h' hit' sb=>⟨_,rfl,?_⟩
  obtain ⟨o',ho',hc',hd'⟩:=id hit'
  refine Zu ho' hc' hd' (by decide +kernel) ?_
  have e2:((n - 1 - i:Nat):Int) - 1=(n:Int) - 1 - ((i+1:Nat):Int):=by omega
  rw [e2] at hit'
  exact ⟨_,H,I.turned (t':=s.toks) (fun b o hb e=>(sb.2 b hb).trans e) f0 f1 f3 f4 f5,ru,⟨rfl,fun ys hy=>by rw [I.list_inj hy hq];exact List.getElem?_eq_getElem hlt⟩,⟨hi,hit'⟩,fun b hb=>by
   have z:b=it:=by simpa using hb
   rw [z];exact f0⟩
 done:=by
  intro X hP hw hK hc i pins s σ H E I hf st hg
  subst hP hw hK
  obtain ⟨f0,f1,f2,f3,f4,f5⟩:=hf it (by simp)
  have e1:(n:Int) - 1 - (i:Int) = -1:=by
   have:=st.1
   have h2:n<=i:=hg
   omega
  have hit:=st.2
  rw [e1] at hit
  exact wpAny_pyNext_rev_end (I.ok.hd hc) hit fun h' eb=>⟨rfl,I.turned (t':=s.toks) (fun b o hb e=>eb b o hb e) f0 f1 f3 f4 f5⟩
 self:=fun _ _ _ _ _ st h=>wpAny_pyIter_revIter st.2 h
section
variable {X:Cx}
theorem pi_rev {tg:Expr} {a:Expr} {tl:TE} {p:Pos} (hg:Gl X "reversed") (hm:X.mg "reversed" = none) (hl:PE X a tl) (hs:starEach [a] X.env=[(false,eval a X.env)]:=by rfl):PI X tg (.Call (.Name "reversed" p) [a] [] pos) (iRev X.K tl):=by
 intro pins s σ H R I h
 have hA:PA X [a] (aC tl aK):=aA hl aE (by rw [hs];rfl)
 refine Call_ (lC I hg hm Ql (PyProof.Rows.callWith_type1 (thn (hA pos pins s σ H (fun vs H1=>∃ x,vs=[x]/\∃ a xs,x=.ref a/\SqL X.K H1 a xs/\R (Itv X.K a xs.length) H1) I ?_) fun us s1 ⟨vs,H1,I1,r1,q1⟩=>?_) hs rfl))
 ·show tl σ H fun x H1=>∃ y,[x]=[y]/\_
  have e:(fun (x:V) (H1:Hp)=>∃ y,[x]=[y]/\∃ a xs,y=V.ref a/\SqL X.K H1 a xs/\R (Itv X.K a xs.length) H1)=fun x H1=>∃ a xs,x=V.ref a/\SqL X.K H1 a xs/\R (Itv X.K a xs.length) H1:=by
   funext x H1
   exact propext ⟨fun ⟨y,e,r⟩=>by cases e;exact r,fun r=>⟨x,rfl,r⟩⟩
  have h':tl σ H fun x H1=>∃ a xs,x=V.ref a/\SqL X.K H1 a xs/\R (Itv X.K a xs.length) H1:=h
  rw [← e] at h'
  exact h'
 ·obtain ⟨x,e1,b,xs,e2,hq,q⟩:=q1
  subst e1 e2
  obtain ⟨u,rfl,ru⟩:=qR r1
  cases ru
  obtain ⟨its,rv,pl,hz⟩:=I1.list hq
  have hl:=rv.length
  refine call_reversed_list pl.isList ?_
  have hit:(s1.heap.push (revObj b (((its.toArray.size:Nat):Int) - 1))).IsRevIter s1.heap.objs.size b ((xs.length:Int) - 1 - ((0:Nat):Int)):=⟨_,Heap.get?_push_size _ rfl,rfl,by
   show Data.fields #[.ref b,rawInt (((its.toArray.size:Nat):Int) - 1)]=_
   rw [List.size_toArray,← hl];simp⟩
  refine wpAny_pyIter_revIter (s:={ s1 with heap:=s1.heap.push (revObj b (((its.toArray.size:Nat):Int) - 1)) }) hit ?_
  refine ⟨s1.heap.objs.size,[s1.heap.objs.size],_,Itv X.K b xs.length,H1,rfl,I1.kept (t':=s1.toks) fun c o e=>Heap.get?_push_of_some _ e,jJV b _ _,⟨Nat.zero_le _,hit⟩,fun c hc=>?_,q⟩
  have z:c=s1.heap.objs.size:=by simpa using hc
  exact I1.fpOk (Nat.le_of_eq z.symm) (I1.hok.fresh (Nat.le_of_eq z.symm))
end
theorem for_rev {D:xD} (Pv:Nat->St->Hp->Prop) (h0:Pv 0 σ H) (hl:∀ i σ H,i<=xs.length->Pv i σ H->SqL K H a xs)
  (hs:∀ i x σ H,i < xs.length->xs[xs.length - 1 - i]?=some x->Pv i σ H->g x σ H fun σ2 H2=>tb { D with nx:=Pv (i+1),ct:=Pv (i+1),bk:=D.nx } σ2 H2) (hd:∀ σ H,Pv xs.length σ H->D.nx σ H) :
  ∃ W:Nat->Nat->St->Hp->Prop,(∃ m,W 0 m σ H)/\∀ i m σ H,W i m σ H ->
   ((Itv K a xs.length).stop i H/\D.nx σ H)∨((Itv K a xs.length).go i H/\∃ N:St->Hp->Prop,(∀ σ' H',N σ' H'->∃ m',m' < m/\W (i+1) m' σ' H')/\∀ x H',(Itv K a xs.length).yld i H x H'->g x σ H' fun σ2 H2=>tb { D with nx:=N,ct:=N,bk:=D.nx } σ2 H2):=by
 refine ⟨fun i m σ H=>m=xs.length - i/\i<=xs.length/\Pv i σ H,⟨xs.length,by simp,Nat.zero_le _,h0⟩,?_⟩
 rintro i m σ H ⟨rfl,hi,p⟩
 have q:=hl i σ H hi p
 by_cases hlt:i < xs.length
 ·refine .inr ⟨⟨hlt,xs,q,rfl⟩,Pv (i+1),fun σ' H' p'=>⟨xs.length - (i+1),by omega,rfl,hlt,p'⟩,fun x H' y=>?_⟩
  obtain ⟨e,y⟩:=y
  subst e
  exact hs i x σ _ hlt (y xs q) p
 ·have e:i=xs.length:=by omega
  subst e
  exact .inl ⟨Nat.le_refl _,hd σ H p⟩
noncomputable def Zw:List V->Hp->VK->Prop:=fun xs H Q=>∃ p kvs,xs=[.ref p]/\H p=some (.dT kvs)/\Q (.int (kvs.length:Nat)) H
theorem len_any {prog:Program} {w:World} {d:Addr} (hd:(d == sysModules)=false):MeetsIn prog w (Builtin.«dict.__len__» ⟨[.ref d],[]⟩) (fun _ R s=>∃ o es ep,s.heap.get? d=some o/\o.data=.dict es ep/\R (.ok (.ret (.int (es.size:Nat) s.toks))) { s with toks:=s.toks+1 }) :=
 .of_wp fun A R s ⟨o,es,ep,ho,hdat,h⟩=>by
  show wpAny _ _ (dictSize d >>= _) _ _ s;unfold dictSize
  refine wpAny_bind (wpAny_bind (wpAny_dictEntries ho hdat (wpAny_pure ?_)))
  show wpAny _ _ (Builtin.Dict.pendingCount d >>= _) _ _ s;refine wpAny_bind (wpAny_pendingCount_other hd ?_)
  refine wpAny_ret_mkInt ?_;rw [Nat.add_zero];exact h
section
variable {X:Cx}
theorem Yq:lX X (.builtin "len") Zw:=by
 intro pins s σ H xs us Q I r h
 obtain ⟨p,kvs,rfl,hp,q⟩:=h
 obtain ⟨u,rfl,ru⟩:=qR r
 cases ru
 obtain ⟨z,hd,ys,rel,o,es,ep,ho,hc,hdat,he,_⟩:=dt_of I.hok hp
 have hT:s.TypeIs (.ref p) "dict":=⟨o,ho,hc.1⟩
 have sz:es.size=kvs.length:=by rw [size_of_entries he];exact (Paired.length rel).symm
 have hz:(es.size:Int) < 2 ^ 63:=by rw [sz];rw [sizeLine_eq] at z;omega
 refine Calls.call_function_entry kind_len plain_len entry_len (args_len1 _) ?_
 unfold Builtin.«len»
 refine wpAny_bind (m:=oneArg "len" _) (wpAny_pure ?_)
 refine wpAny_bind (m:=callSpecial? (.ref p) (Str.ofString "__len__")) (wpAny_callSpecial?_slot (name:=Str.ofString "__len__") hT F.slot_dict_len (call_meetsIn F.slot_dict_len hT F.entry_dict_len (F.args_dict_len_1 _) (len_any hd) ⟨o,es,ep,ho,hdat,?_⟩))
 show wpAny _ _ _ _ _ { s with toks:=s.toks+1 }
 refine wpAny_bind (wpAny_holding (wpAny_pure (wpAny_bind (wpAny_letGo ?_))))
 show wpAny _ _ (if ((es.size:Nat):Int) < 0 then _ else _) _ _ _;rw [if_neg (by omega)]
 show wpAny _ _ (if ((es.size:Nat):Int) ≥ 2 ^ 63 then _ else _) _ _ _;rw [if_neg (by omega)]
 refine wpAny_bind (wpAny_mkInt (wpAny_pure ⟨_,rfl,?_⟩))
 exact ⟨.int (kvs.length:Nat),H,(I.tok _).tok _,⟨_,by rw [sz]⟩,q⟩
noncomputable def isB2 (x:V) (H:Hp) (T:String) (b:Bool):Prop:=isB x H T b∨(∃ p xs,x=.ref p/\H p=some (.lst xs)/\T="list" /\ b=true)
noncomputable def Zx:List V->Hp->VK->Prop:=fun xs H Q=>∃ x T b,xs=[x,.ty T]/\isB2 x H T b/\Q (.bl b) H
theorem kit_ll (K:PySem.W.Frag):PySem.W.kitOne K (.type "list") (.type "list")=some true:=by rfl
theorem Yr:lX X (.builtin "isinstance") Zx:=by
 intro pins s σ H xs us Q I r h
 obtain ⟨x,T,b,rfl,hb,q⟩:=h
 rcases hb with hb | ⟨p,ys,rfl,hp,rfl,rfl⟩
 ·exact jZe pins s σ H _ us Q I r ⟨x,T,b,rfl,hb,q⟩
 ·obtain ⟨u,c,rfl,ru,rc⟩:=Ud r
  obtain rfl:c=Value.type "list":=rc
  exact nU I ru (.lst hp) (kit_ll _) fun tk=>⟨.bl true,H,I.tok _,rfl,q⟩
end
structure Zh (K:PySem.W.Frag):Prop where
 cl:Cls K (aX K "Table")
 nM:jW K (aX K "Table") "many"
 nC:jW K (aX K "Table") "cells"
noncomputable def oU (n:Nat):List Int:=(List.range n).map Int.ofNat
theorem jJa {n:Nat} (h:k < n):(oU n)[k]?=some (k:Int):=by
 unfold oU;rw [List.getElem?_map,List.getElem?_range h];rfl
theorem mJ (n:Nat):(oU n).length=n:=by unfold oU;rw [List.length_map,List.length_range]
noncomputable def Cj (ta:TE):TE:=fun σ H Q=>ta σ H fun x H1=>∃ n:Nat,x=.int n/\n<=10000/\∀ p,H1 p=none->Q (.ref p) (upd H1 p (.lst (List.map V.int (oU n))))
theorem zI:∀ {xs:List V} {us:List Value},xs.length=us.length->(∀ (i:Nat) (x:V) (u:Value),xs[i]?=some x->us[i]?=some u->bR x u)->bO xs us
 | [],[],_,_=>.nil
 | [],_ :: _,h,_=>by simp at h
 | _ :: _,[],h,_=>by simp at h
 | x :: xs,u :: us,h,k=>.cons (k 0 x u rfl rfl) (zI (by simpa using h) fun i x u h1 h2=>k (i+1) x u (by simpa using h1) (by simpa using h2))
section
variable {X:Cx}
theorem Kr {a:Expr} {tl:TE} {p1 p2 pos1 pos2:Pos} (hg1:Gl X "list") (hm1:X.mg "list" = none) (hg2:Gl X "range") (hm2:X.mg "range" = none) (hc:X.calm=true) (hl:PE X a tl)
  (hs1:starEach [.Call (.Name "range" p2) [a] [] pos2] X.env=[(false,eval (.Call (.Name "range" p2) [a] [] pos2) X.env)]:=by rfl) (hs2:starEach [a] X.env=[(false,eval a X.env)]:=by rfl) :
  PE X (.Call (.Name "list" p1) [.Call (.Name "range" p2) [a] [] pos2] [] pos1) (Cj tl):=by
 intro pins s σ H Q I h
 have hA:PA X [a] (aC tl aK):=aA hl aE (by rw [hs2];rfl)
 refine Call_ (lC I hg1 hm1 kL (PyProof.Rows.callWith_type1 (spliced_more ?_ (by rw [hs1];rfl)) hs1 rfl))
 refine Call_ (lC I hg2 hm2 boot_range (PyProof.Rows.callWith_type1 (thn (hA pos2 pins s σ H (fun vs H1=>∃ x,vs=[x]/\∃ n:Nat,x=.int n/\n<=10000/\∀ p,H1 p=none->Q (.ref p) (upd H1 p (.lst (List.map V.int (oU n))))) I ?_) fun us s1 ⟨vs,H1,I1,r1,q1⟩=>?_) hs2 rfl))
 ·show tl σ H fun x H1=>∃ y,[x]=[y]/\_
  have e:(fun (x:V) (H1:Hp)=>∃ y,[x]=[y]/\∃ n:Nat,y=V.int n/\n<=10000/\∀ p,H1 p=none->Q (.ref p) (upd H1 p (.lst (List.map V.int (oU n)))))=fun x H1=>∃ n:Nat,x=V.int n/\n<=10000/\∀ p,H1 p=none->Q (.ref p) (upd H1 p (.lst (List.map V.int (oU n)))):=by
   funext x H1
   exact propext ⟨fun ⟨y,e,r⟩=>by cases e;exact r,fun r=>⟨x,rfl,r⟩⟩
  have h':tl σ H fun x H1=>∃ n:Nat,x=V.int n/\n<=10000/\∀ p,H1 p=none->Q (.ref p) (upd H1 p (.lst (List.map V.int (oU n)))):=h
  rw [← e] at h'
  exact h'
 ·obtain ⟨x,e1,n,e2,hn,q⟩:=q1
  subst e1 e2
  obtain ⟨u,rfl,ru⟩:=qR r1
  obtain ⟨t,rfl⟩:=ru
  refine call_range_1 (spliced_none ?_)
  have hz:Builtin.Range.rangeSize 0 (n:Int) 1=(n:Int):=by rw [rangeSize_one];split <;> omega
  refine call_list_range (I1.ok.hd hc) (IsRange.new ..) (small_one (by decide) (by decide) (by omega) (by omega)) hz (by omega) fun h2 tk acc c' hk hS hacc=>?_
  have kp:∀ c o,s1.heap.get? c=some o->h2.get? c=some o:=fun c o e=>hk c o (Heap.get?_push_of_some _ e)
  have gsz:(s1.heap.push { cls:=.type "range",data:=.fields #[.int 0 s1.toks,.int (n:Int) t,.int 1 (s1.toks+1)] }).objs.size=s1.heap.objs.size+1:=Heap.size_push ..
  have lt:s1.heap.objs.size<=(s1.heap.push { cls:=.type "range",data:=.fields #[.int 0 s1.toks,.int (n:Int) t,.int 1 (s1.toks+1)] }).objs.size:=by rw [gsz];exact Nat.le_succ _
  refine ⟨.ref _,_,I1.laid (t':=tk) (o:=.lst (List.map V.int (oU n))) kp lt ⟨by rw [List.length_map,mJ,sizeLine_eq];omega,acc.toList,c',zI (by rw [List.length_map,mJ,Array.length_toList,hacc.1]) fun i x u h1 h3=>?_,by simpa using hS⟩,rfl,q _ (I1.hok.fresh lt)⟩
  have hi:i < n:=by
   have:=(List.getElem?_eq_some_iff.mp h1).1
   rwa [List.length_map,mJ] at this
  rw [List.getElem?_map,jJa hi] at h1
  cases h1
  obtain ⟨tk',e⟩:=hacc.2 i u (by simpa using h3)
  rw [e]
  exact ⟨tk',by simp⟩
end
theorem bt_zip:bootBuiltins "zip" = some (.type "zip"):=by decide +kernel
noncomputable def Itz (K:PySem.W.Frag) (a b:Addr):It :=
 ⟨fun i H=>∃ xs x ys y,SqL K H a xs/\xs[i]?=some x/\SqL K H b ys/\ys[i]?=some y,
  fun i H v H'=>∃ p x y,v=.ref p/\H p=none/\H'=upd H p (.tup [x,y])/\(∀ xs,SqL K H a xs->xs[i]?=some x)/\(∀ ys,SqL K H b ys->ys[i]?=some y),
  fun i H=>∃ xs ys,SqL K H a xs/\SqL K H b ys/\(xs.length<=i∨ys.length<=i)⟩
noncomputable def lV (K:PySem.W.Frag) (t:TA):TI:=fun σ H R=>t σ H fun vs H1=>∃ a b,vs=[.ref a,.ref b]/\(∃ xs,SqL K H1 a xs)/\(∃ ys,SqL K H1 b ys)/\R (Itz K a b) H1
theorem jJW {P:Program} {w:World} {elts:List Expr} {tp:Pos} (a b z TI TO i1 i2:Addr) (D:ZipApart z TI TO i1 i2 a b) :
  Qn P w K (.Tuple elts k tp) (Itz K a b) [z,TI,TO,i1,i2] z (fun i h=>IsZip h z TI TO .none/\IsPair h TI (.ref i1) (.ref i2)/\(∃ u v,IsPair h TO u v)/\h.IsListIter i1 a i/\h.IsListIter i2 b i) where
 mem:=by simp
 obj:=fun i h st c hc=>by
  obtain ⟨hz,hTI,⟨u,v,hTO⟩,⟨o1,e1,c1,d1⟩,⟨o2,e2,c2,d2⟩⟩:=st
  have q:c=z∨c=TI∨c=TO∨c=i1∨c=i2:=by simpa using hc
  rcases q with rfl | rfl | rfl | rfl | rfl
  ·exact ⟨_,hz,fun v z=>nomatch z⟩
  ·exact ⟨_,hTI,fun v z=>nomatch z⟩
  ·exact ⟨_,hTO,fun v z=>nomatch z⟩
  ·exact ⟨o1,e1,fun v z=>by rw [d1] at z;cases z⟩
  ·exact ⟨o2,e2,fun v z=>by rw [d2] at z;cases z⟩
 keep:=fun i h h' st kp=>by
  obtain ⟨hz,hTI,⟨u,v,hTO⟩,h1,h2⟩:=st
  exact ⟨kp z (by simp) _ hz,kp TI (by simp) _ hTI,⟨u,v,kp TO (by simp) _ hTO⟩,h1.at fun o q=>kp i1 (by simp) o q,h2.at fun o q=>kp i2 (by simp) o q⟩
 item:=by
  intro X hP hw hK hc i pins s σ H E I hf st hg
  subst hP hw hK
  obtain ⟨xs,x,ys,y,hq,hx,hr,hy⟩:=hg
  obtain ⟨its,rv,p,hz'⟩:=I.list hq
  obtain ⟨jts,sv,r,hw'⟩:=I.list hr
  obtain ⟨u,hu,ru⟩:=rv.get hx
  obtain ⟨v,hv,rw'⟩:=sv.get hy
  obtain ⟨hz,hTI,⟨u0,v0,hTO⟩,h1,h2⟩:=st
  refine wpAny_pyNext_zip_item D hz hTI hTO h1 h2 p.isList r.isList (x:=u) (y:=v) (by simpa using hu) (by simpa using hv) fun g a1 a2 a3 a4 a5 a6 kp=>⟨_,rfl,?_⟩
  refine wpAny_letOwnedTupleGo_zip (s:={ s with heap:=g }) a1 fun g2 en sb=>?_
  have sb':Heap.SameBut z g g2:=sb
  have lt:∀ {c:Addr} {o:Obj},s.heap.get? c=some o->c < s.heap.objs.size:=fun e=>Heap.lt_size e
  have lz:=lt hz
  have lTI:=lt hTI
  have lTO:=lt hTO
  have l1:i1 < s.heap.objs.size:=by obtain ⟨_,e,_⟩:=h1;exact lt e
  have l2:i2 < s.heap.objs.size:=by obtain ⟨_,e,_⟩:=h2;exact lt e
  have I1:Inv X pins σ H { s with heap:=g2,toks:=s.toks }:=I.turnedL (ch:=[z,TI,TO,i1,i2]) (fun c o hb q=>by
   have hb':c≠z/\c≠TI/\c≠TO/\c≠i1/\c≠i2:=by simpa using hb
   exact (sb'.2 c hb'.1).trans (kp c o hb'.1 hb'.2.2.1 hb'.2.2.2.1 hb'.2.2.2.2 q)) hf
  have hTn:H s.heap.objs.size=none:=I.hok.fresh (Nat.le_refl _)
  have tup2:g2.get? s.heap.objs.size=some { cls:=.type "tuple",data:=.seq #[u,v] }:=(sb'.2 _ (Nat.ne_of_gt lz)).trans a5
  have I2:Inv X pins σ (upd H s.heap.objs.size (.tup [x,y])) { s with heap:=g2,toks:=s.toks }:=I1.adopt hTn I.sz (Nat.ne_of_gt I.lt) (fun n c q=>by
   obtain ⟨v,z⟩:=I.cell n c q
   exact Nat.ne_of_lt z.lt) (fun q hq=>Nat.ne_of_lt (Heap.lt_size (I.pin q hq).1)) ⟨by show 2<=sizeLine;decide,[u,v],.cons ru (.cons rw' .nil),⟨_,tup2,rfl,_,rfl⟩⟩
  refine ⟨.ref s.heap.objs.size,_,I2,rfl,⟨_,x,y,rfl,hTn,rfl,fun zs hy'=>by rw [I.list_inj hy' hq];exact hx,fun zs hy'=>by rw [I.list_inj hy' hr];exact hy⟩,⟨en,?_,⟨_,_,(sb'.2 _ D.TOz).trans a2⟩,?_,?_⟩,fun c hb=>?_⟩
  ·exact (sb'.2 _ D.TIz).trans (kp _ _ D.TIz D.TITO D.TIi1 D.TIi2 hTI)
  ·obtain ⟨o,q,t⟩:=a3
   exact ⟨o,(sb'.2 _ D.i1z).trans q,t⟩
  ·obtain ⟨o,q,t⟩:=a4
   exact ⟨o,(sb'.2 _ D.i2z).trans q,t⟩
  ·have hb0:=(hf c hb).1
   have q:c=z∨c=TI∨c=TO∨c=i1∨c=i2:=by simpa using hb
   have hlt:c < s.heap.objs.size:=by rcases q with rfl | rfl | rfl | rfl | rfl <;> assumption
   rw [aR (Nat.ne_of_lt hlt)]
   exact hb0
 done:=by
  intro X hP hw hK hc i pins s σ H E I hf st hg
  subst hP hw hK
  obtain ⟨xs,ys,hq,hr,hx⟩:=hg
  obtain ⟨its,rv,p,hz'⟩:=I.list hq
  obtain ⟨jts,sv,r,hw'⟩:=I.list hr
  obtain ⟨hz,hTI,⟨u0,v0,hTO⟩,h1,h2⟩:=st
  have l1:=rv.length
  have l2:=sv.length
  refine wpAny_pyNext_zip_end (I.ok.hd hc) D hz hTI hTO h1 h2 p.isList r.isList (by simp;omega) fun g kp=>⟨rfl,?_⟩
  exact I.turnedL (t':=s.toks) (ch:=[z,TI,TO,i1,i2]) (fun c o hb q=>by
   have hb':c≠z/\c≠TI/\c≠TO/\c≠i1/\c≠i2:=by simpa using hb
   exact kp c o hb'.1 hb'.2.2.1 hb'.2.2.2.1 hb'.2.2.2.2 q) hf
 self:=fun _ _ _ _ _ st h=>wpAny_pyIter_zip st.1 h
theorem xO {n l1 l2:Nat} (h1:l1 < n) (h2:l2 < n):ZipApart (n+4) (n+2) (n+3) n (n+1) l1 l2:=by
 constructor <;> (intro e;have e2:(_:Nat)=_:=e;omega)
section
variable {X:Cx}
theorem mS {elts:List Expr} {tp:Pos} {a b:Expr} {t:TA} {p:Pos} (hg:Gl X "zip") (hm:X.mg "zip" = none) (hl:PA X [a,b] t)
  (he:starEach (a :: [b]) X.env=(false,eval a X.env) :: starEach [b] X.env:=by rfl) (hpl:(backTo pos (starEach [b] X.env)).any (·.1)=false:=by rfl):PI X (.Tuple elts k tp) (.Call (.Name "zip" p) [a,b] [] pos) (lV X.K t):=by
 intro pins s σ H R I h
 refine wpAny_Call_Name_kw (lC I hg hm bt_zip ?_)
 refine PyProof.Rows.callWith_type1 (thn (hl pos pins s σ H _ I h) fun us s1 ⟨vs,H1,I1,r1,q1⟩=>?_) he hpl
 obtain ⟨l1,l2,e0,⟨xs,hq⟩,⟨ys,hr⟩,q⟩:=q1
 subst e0
 cases r1 with
 | cons ra r1 =>
 cases r1 with
 | cons rb r1 =>
 cases r1
 cases ra
 cases rb
 obtain ⟨its,rv,pl,hz'⟩:=I1.list hq
 obtain ⟨jts,sv,pm,hw'⟩:=I1.list hr
 have lt1:l1 < s1.heap.objs.size:=by obtain ⟨o,e,_⟩:=pl.isList;exact Heap.lt_size e
 have lt2:l2 < s1.heap.objs.size:=by obtain ⟨o,e,_⟩:=pm.isList;exact Heap.lt_size e
 refine call_zip_2 pl.isList pm.isList fun g hz hTI hTO h1 h2 hsz hk=>?_
 refine wpAny_pyIter_zip hz ?_
 have I2:Inv X pins σ H1 { s1 with heap:=g }:=I1.kept (t':=s1.toks) hk
 refine ⟨s1.heap.objs.size+4,[s1.heap.objs.size+4,s1.heap.objs.size+2,s1.heap.objs.size+3,s1.heap.objs.size,s1.heap.objs.size+1],_,Itz X.K l1 l2,H1,rfl,I2,jJW l1 l2 _ _ _ _ _ (xO lt1 lt2),⟨hz,hTI,⟨_,_,hTO⟩,h1,h2⟩,fun c hc=>?_,q⟩
 have z:c=s1.heap.objs.size+4∨c=s1.heap.objs.size+2∨c=s1.heap.objs.size+3∨c=s1.heap.objs.size∨c=s1.heap.objs.size+1:=by simpa using hc
 have hle:s1.heap.objs.size<=c:=by rcases z with rfl | rfl | rfl | rfl | rfl <;> omega
 exact I1.fpOk hle (I1.hok.fresh hle)
end
theorem Vt {b:Addr} {D:xD} (Pv:Nat->St->Hp->Prop) (h0:Pv 0 σ H) (hl:∀ i σ H,i<=xs.length->Pv i σ H->SqL K H a xs/\SqL K H b ys) (he:xs.length=ys.length)
  (hs:∀ i x y p σ H,xs[i]?=some x->ys[i]?=some y->Pv i σ H->H p=none->g (.ref p) σ (upd H p (.tup [x,y])) fun σ2 H2=>tb { D with nx:=Pv (i+1),ct:=Pv (i+1),bk:=D.nx } σ2 H2) (hd:∀ σ H,Pv xs.length σ H->D.nx σ H) :
  ∃ W:Nat->Nat->St->Hp->Prop,(∃ m,W 0 m σ H)/\∀ i m σ H,W i m σ H ->
   ((Itz K a b).stop i H/\D.nx σ H)∨((Itz K a b).go i H/\∃ N:St->Hp->Prop,(∀ σ' H',N σ' H'->∃ m',m' < m/\W (i+1) m' σ' H')/\∀ x H',(Itz K a b).yld i H x H'->g x σ H' fun σ2 H2=>tb { D with nx:=N,ct:=N,bk:=D.nx } σ2 H2):=by
 refine ⟨fun i m σ H=>m=xs.length - i/\i<=xs.length/\Pv i σ H,⟨xs.length,by simp,Nat.zero_le _,h0⟩,?_⟩
 rintro i m σ H ⟨rfl,hi,p⟩
 obtain ⟨q,r⟩:=hl i σ H hi p
 by_cases hlt:i < xs.length
 ·have hlt2:i < ys.length:=by omega
  refine .inr ⟨⟨xs,xs[i],ys,ys[i],q,by simp [hlt],r,by simp [hlt2]⟩,Pv (i+1),fun σ' H' p'=>⟨xs.length - (i+1),by omega,rfl,hlt,p'⟩,fun x H' y=>?_⟩
  obtain ⟨pp,x',y',e1,e2,e3,y1,y2⟩:=y
  subst e1 e3
  exact hs i x' y' pp σ _ (y1 xs q) (y2 ys r) p e2
 ·have e:i=xs.length:=by omega
  subst e
  exact .inl ⟨⟨xs,ys,q,r,.inl (Nat.le_refl _)⟩,hd σ H p⟩
structure eE (FS scope:Scope) (N:List Str) (xs ys:List Str) (caps:List Nat):Prop where
 ncell:∀ y∈scope.names,y.2≠.cell
 kind:scope.kind=.function
 names:∀ y∈scope.names,y.2=.local->scope.names.lookup y.1=some .local
 fr:∀ p∈scope.names,p.2=.free->FS.names.lookup p.1=some .cell
 fk:FS.kind=.function
 cap:∀ p∈ys.zip caps,N[p.2]?=some p.1/\scope.names.lookup p.1=some .free
 len:ys.length=caps.length
noncomputable def kM (J:It) (σ:St) (k:Nat) (caps:List Nat) (g:TG) (te:TE) (H1:Hp) (fin:List V->Hp->Prop):Prop :=
 ∃ (n:Nat) (W:Nat->List V->Hp->Prop),n<=sizeLine/\W 0 [] H1/\∀ i ys H2,i<=n->ys.length=i->W i ys H2 ->
  (J.stop i H2/\fin ys H2)∨(i < n/\J.go i H2/\∀ x H3,J.yld i H2 x H3->∀ os:St,os.length=k->g x (os ++ bG σ caps) H3 fun σ2 H4=>(∃ os':St,os'.length=k/\σ2=os' ++ bG σ caps)/\te σ2 H4 fun y H5=>W (i+1) (ys ++ [y]) H5)
noncomputable def dU (wi:TI) (k:Nat) (caps:List Nat) (g:TG) (te:TE):TE:=fun σ H Q=>wi σ H fun J H1=>kM J σ k caps g te H1 fun ys H2=>∀ p,H2 p=none->Q (.ref p) (upd H2 p (.lst ys))
section
variable {X:Cx} {scope:Scope} {xs ys:List Str} {caps:List Nat}
theorem eE.cells (S:eE X.env.scope scope X.N xs ys caps) (I:Inv X pins σ H s):∀ p∈scope.names,p.2=.free->∃ c,X.env.cells.lookup p.1=some c:=fun p hp hf =>
 I.ok.has p.1 (.inl (S.fr p hp hf))
theorem eE.sub (S:eE X.env.scope scope X.N xs ys caps) (I:Inv X pins σ H s) {c:Addr} (e:(tP X scope).lookup y=some c):X.env.cells.lookup y=some c :=
 Ev (S.cells I) (fun p hp=>absurd hp (by simp)) (y,c) (PySem.mem_of_lookup e)
theorem Inv.enterG {h₁:Heap} {ex:List Addr} {tk:Nat} {pl:List (Addr×Obj)} (S:eE X.env.scope scope X.N xs ys caps) (hcalm:X.calm=true) (I:Inv X pins σ H s)
  (hn:h₁.Ns s.heap.objs.size (fun _=>none)) (keep:∀ b o,s.heap.get? b=some o->h₁.get? b=some o)
  (hex:∀ b∈ex,b < s.heap.objs.size/\b∉frs X.stack/\(∀ y c,X.env.cells.lookup y=some c->c≠b)/\X.base.get? b=none)
  (hpl:∀ p∈pl,s.heap.get? p.1=some p.2/\H p.1=none/\p.1∉frs X.stack/\∀ v,p.2.data≠.cell v) :
  Inv (cR X scope (xs ++ ys) s H ex (X.pn ++ pins)) pl (xs.map (fun _=>none) ++ bG σ caps) H { s with heap:=h₁,toks:=tk }:=by
 have hL:s.heap.objs.size≠X.env.locals:=Nat.ne_of_gt I.lt
 have hCn:∀ b o,s.heap.get? b=some o->b≠s.heap.objs.size:=fun b o e=>Nat.ne_of_lt (Heap.lt_size e)
 have cellLt:∀ y c,X.env.cells.lookup y=some c->c < s.heap.objs.size:=fun y c e=>by
  obtain ⟨v,z⟩:=I.cell y c e
  exact z.lt
 have cellUp:∀ {c:Addr} {v:Option Value},s.heap.IsCell c v->h₁.IsCell c v:=fun {c v} ⟨o,ho,hd⟩=>⟨o,keep c o ho,hd⟩
 refine ⟨⟨I.ok.mod,S.kind,I.ok.glob,I.ok.blt,Nat.le_refl _,fun y z c h1 h2=>I.ok.inj y z c (S.sub I h1) (S.sub I h2),fun y hy=>?_,fun y c hf _=>?_,fun _=>I.ok.hd hcalm,I.ok.frames,.inl rfl,fun b hb=>?_,I.bs,Nat.le_trans I.ok.bsz I.sz,fun b o e hb=>?_,fun b hb=>(hex b hb).2.1,I.stack,I.stkFree⟩,
  rfl,I.bare,Un.kept keep,⟨_,hn,fun i y v e1 e2 e3=>?_⟩,fun y c e=>?_,I.hok.fresh (Nat.le_refl _),fun y c e=>I.freeC y c (S.sub I e),fun p hp=>?_,I.hok.kept keep,?_⟩
 ·have hy':(y,NameKind.free)∈scope.names:=Ej (env:=X.env) S.ncell (by
   rcases hy with hy | hy
   ·exact ⟨_,hy,.inl rfl⟩
   ·exact ⟨_,hy,.inr rfl⟩)
  exact nF (uZ hy')
 ·exact absurd (show false=true from hf) Bool.false_ne_true
 ·exact ⟨Nat.ne_of_lt (hex b hb).1,fun y c e=>(hex b hb).2.2.1 y c (S.sub I e)⟩
 ·have z:=(hex b hb).2.2.2
  have e':X.base.get? b=some o:=e
  rw [z] at e';cases e'
 ·have e1':(xs ++ ys)[i]?=some y:=e1
  obtain ⟨i,e1,e2⟩:∃ i',ys[i']?=some y/\(bG σ caps)[i']?=some (some v):=by
   by_cases hi:i < xs.length
   ·rw [List.getElem?_append_left (by rw [List.length_map];exact hi),List.getElem?_map,List.getElem?_eq_getElem hi] at e2
    cases e2
   ·rw [List.getElem?_append_right (by omega)] at e1'
    rw [List.getElem?_append_right (by rw [List.length_map];omega),List.length_map] at e2
    exact ⟨_,e1',e2⟩
  obtain ⟨j,hj,hv⟩:∃ j,caps[i]?=some j/\σ[j]?=some (some v):=by
   unfold bG at e2
   rw [List.getElem?_map] at e2
   cases q:caps[i]? with
   | none=>rw [q] at e2;cases e2
   | some j =>
    rw [q] at e2
    have e3:(σ[j]?).join=some v:=Option.some.inj e2
    cases q2:σ[j]? with
    | none=>rw [q2] at e3;cases e3
    | some w'=>rw [q2] at e3;exact ⟨j,rfl,by rw [show w'=some v from e3] at q2;exact q2⟩
  have hz:(y,j)∈ys.zip caps:=List.mem_of_getElem? (i:=i) (by rw [List.getElem?_zip_eq_some];exact ⟨e1,hj⟩)
  obtain ⟨hN,hf⟩:=S.cap (y,j) hz
  have hcellX:X.env.kindOf y=some .cell:=S.fr (y,.free) (PySem.mem_of_lookup hf) rfl
  obtain ⟨m,hm,hl⟩:=I.loc
  obtain ⟨u,r,l⟩:=hl j y v hN hv (.inr (.inl hcellX))
  refine ⟨u,r,?_⟩
  rcases l with ⟨hk,_⟩ | ⟨_,c,hc,hcell⟩
  ·rw [hcellX] at hk;cases hk
  ·obtain ⟨c',hc'⟩:=nF (uZ (env:=X.env) (cs:=[]) (PySem.mem_of_lookup hf))
   have:=S.sub I hc'
   rw [hc] at this
   cases this
   exact .inr ⟨.inl (wQ S.fk hf hcellX),c,hc',cellUp hcell⟩
 ·obtain ⟨v,z⟩:=I.cell y c (S.sub I e)
  exact ⟨v,cellUp z⟩
 ·rcases List.mem_append.mp hp with hp | hp
  ·obtain ⟨a1,a2,a3,a4,a5⟩:=I.pin p hp
   exact ⟨keep _ _ a1,a2,hCn _ _ a1,fun z=>(List.mem_cons.mp (I.stkSub p.1 z)).elim a3 a4,a5⟩
  ·obtain ⟨a1,a2,a4,a5⟩:=hpl p hp
   exact ⟨keep _ _ a1,a2,hCn _ _ a1,a4,a5⟩
 ·show (xs.map (fun _=>none) ++ bG σ caps).length=(xs ++ ys).length
  rw [List.length_append,List.length_append,List.length_map,bG,List.length_map,S.len]
end
section
variable {X:Cx} {scope:Scope} {xs ys:List Str} {caps:List Nat} {elt iter tg:Expr} {te:TE} {g:TG} {pos:Pos}
theorem Iy {H2:Hp} {s2:Shared} {J:It} {fp:List Addr} {it:Addr} {tn:Nat->Heap->Prop} {E:Value->Shared->Prop} {fin:List V->Hp->Prop} {RR:Value->Addr->Result->Shared->Prop}
  (hcalm:X.calm=true) (S:eE X.env.scope scope X.N xs ys caps) (hg:∀ s H ex pn,PG (cR X scope (xs ++ ys) s H ex pn) tg g) (he:∀ s H ex pn,PE (cR X scope (xs ++ ys) s H ex pn) elt te)
  (I2:Inv X pins σ H2 s2) (T:Qn X.prog X.w X.K tg J fp it tn) (st2:tn 0 s2.heap) (f2:∀ b∈fp,Jt X pins H2 b) (rd:kM J σ xs.length caps g te H2 fin)
  (hRR:∀ (C:Addr) (ysV:List V) (its:List Value) (n:Nat) (H8:Hp) (s8:Shared) (m:Str->Option Value),C=s2.heap.objs.size+1->Inv X pins σ H8 s8->H8 s2.heap.objs.size=none->H8 C=none->bO ysV its->ysV.length<=sizeLine ->
   s8.heap.get? s2.heap.objs.size=some (xC its n)->s8.heap.Ns C m->fin ysV H8->RR (.ref s2.heap.objs.size) C (.ok .next) s8) :
  wpAny (model X.prog X.w) X.A (newList []) (fun acc s₃=>wpAny (model X.prog X.w) X.A (newFunctionEnv scope X.env.globals (tP X scope) [] X.env.qual none .none (some X.env)) (fun cenv s₄ =>
   codeAny (model X.prog X.w) X.A (.compStart (.ListComp elt [⟨tg,iter,[],0⟩] scope pos) 0 (.ref it) acc { cenv with scope:=relabel scope X.env }) (RR acc cenv.locals) s₄) E s₃) E s2:=by
 obtain ⟨n0,W,hn0,w0,turn⟩:=rd
 refine wpAny_newObj_type (wpAny_newFunctionEnv S.ncell (by intro y hy;simp at hy) (fun h₁ hns hsb=>?_) S.kind)
 dsimp only at hns hsb ⊢
 generalize hg3:s2.heap.push { cls:=.type "list",dict:=none,data:=.seq ([]:List Value).toArray }=g3 at hns hsb ⊢
 have hC:g3.objs.size=s2.heap.objs.size+1:=by rw [← hg3,Heap.size_push]
 have up3:∀ b o,s2.heap.get? b=some o->g3.get? b=some o:=fun b o e=>hg3 ▸ Heap.get?_push_of_some _ e
 have I3:Inv X pins σ H2 { s2 with heap:=g3 }:=I2.kept (t':=s2.toks) up3
 have keep:∀ b o,g3.get? b=some o->h₁.get? b=some o:=fun b o e=>hsb.extBut b o (Nat.ne_of_lt (Heap.lt_size e)) (Heap.get?_push_of_some _ e)
 have objD:g3.get? s2.heap.objs.size=some (xC [] 0):=hg3 ▸ Heap.get?_push_size _ rfl
 have hDL:s2.heap.objs.size≠X.env.locals:=Nat.ne_of_gt I2.lt
 have hDfs:s2.heap.objs.size∉X.fs:=I2.nofs (Nat.le_refl _)
 have hDst:s2.heap.objs.size∉frs X.stack:=fun z=>(List.mem_cons.mp (I2.stkSub _ z)).elim hDL hDfs
 have hDc:∀ y c,X.env.cells.lookup y=some c->c≠s2.heap.objs.size:=fun y c e=>by
  obtain ⟨v,z⟩:=I2.cell y c e
  exact Nat.ne_of_lt z.lt
 have hDp:∀ p∈X.pn ++ pins,p.1≠s2.heap.objs.size:=fun p hp=>Nat.ne_of_lt (Heap.lt_size (I2.pin p hp).1)
 have hfl:∀ b∈fp,b < s2.heap.objs.size:=fun b hb=>by
  obtain ⟨o,e,_⟩:=T.obj _ _ st2 b hb
  exact Heap.lt_size e
 have hbz:X.base.objs.size<=X.s₀.heap.objs.size:=I2.ok.bsz
 have hch:∀ b∈s2.heap.objs.size :: fp,(b∈X.ex∨X.s₀.heap.objs.size<=b)/\b≠X.env.locals/\(∀ y c,X.env.cells.lookup y=some c->c≠b)/\∀ p∈X.pn ++ pins,p.1≠b:=fun b hb=>by
  rcases List.mem_cons.mp hb with rfl | hb
  ·exact ⟨.inr I2.sz,hDL,hDc,hDp⟩
  ·obtain ⟨a1,a2,a3,a4,a5,a6⟩:=f2 b hb
   exact ⟨a4,a2,a5,a6⟩
 have hex:∀ b∈s2.heap.objs.size :: fp,b < g3.objs.size/\b∉frs X.stack/\(∀ y c,X.env.cells.lookup y=some c->c≠b)/\X.base.get? b=none:=fun b hb=>by
  have hst:b∉frs X.stack:=by
   rcases List.mem_cons.mp hb with rfl | hb
   ·exact hDst
   ·obtain ⟨a1,a2,a3,a4,a5,a6⟩:=f2 b hb
    exact fun z=>(List.mem_cons.mp (I2.stkSub _ z)).elim a2 a3
  have hlt:b < g3.objs.size:=by
   rw [hC]
   rcases List.mem_cons.mp hb with rfl | hb
   ·exact Nat.lt_succ_self _
   ·exact Nat.lt_succ_of_lt (hfl b hb)
  refine ⟨hlt,hst,(hch b hb).2.2.1,?_⟩
  cases q:X.base.get? b with
  | none=>rfl
  | some o =>
   rcases (hch b hb).1 with z | z
   ·exact absurd z (I2.ok.noex b o q)
   ·exact absurd (Nat.lt_of_lt_of_le (Heap.lt_size q) (Nat.le_trans hbz z)) (Nat.lt_irrefl _)
 have hD2:H2 s2.heap.objs.size=none:=I2.hok.fresh (Nat.le_refl _)
 have I4:Inv (cR X scope (xs ++ ys) { s2 with heap:=g3 } H2 (s2.heap.objs.size :: fp) (X.pn ++ pins)) [(s2.heap.objs.size,xC [] 0)] (xs.map (fun _=>none) ++ bG σ caps) H2 { s2 with heap:=h₁,toks:=s2.toks+([]:List (Str×Value)).length } :=
  Inv.enterG S hcalm I3 hns keep hex fun p hp=>by
   have e:p=(s2.heap.objs.size,xC [] 0):=by simpa using hp
   subst e
   exact ⟨objD,hD2,hDst,fun v z=>nomatch z⟩
 have st4:tn 0 h₁:=T.keep _ _ _ st2 fun b hb o e=>keep b o (up3 b o e)
 generalize hY:cR X scope (xs ++ ys) { s2 with heap:=g3 } H2 (s2.heap.objs.size :: fp) (X.pn ++ pins)=Y at I4
 have yP:Y.prog=X.prog:=by rw [← hY];rfl
 have yW:Y.w=X.w:=by rw [← hY];rfl
 have yK:Y.K=X.K:=by rw [← hY];rfl
 have yA:Y.A=X.A:=by rw [← hY];rfl
 have yC:Y.calm=true:=by rw [← hY];exact hcalm
 have yX:Y.xe=fun _ _=>False:=by rw [← hY];rfl
 have yN:Y.N=xs ++ ys:=by rw [← hY];rfl
 have yE:Y.env=compEnvC scope (tP X scope) g3.objs.size X.env:=by rw [← hY];rfl
 have yex:Y.ex=s2.heap.objs.size :: fp:=by rw [← hY];rfl
 have ypn:Y.pn=X.pn ++ pins:=by rw [← hY];rfl
 have yfs:Y.fs=frs X.stack:=by rw [← hY];rfl
 have ybase:∀ {pl σ' H' s'},Inv Y pl σ' H' s'->Un (frs X.stack) (s2.heap.objs.size :: fp) H2 H' g3 s'.heap/\s'.os=s2.os:=by
  intro pl σ' H' s' I
  rw [← hY] at I
  exact ⟨I.base,I.os⟩
 have yhg:PG Y tg g:=by rw [← hY];exact hg _ _ _ _
 have yhe:PE Y elt te:=by rw [← hY];exact he _ _ _ _
 have ycl:∀ y c,Y.env.cells.lookup y=some c->X.env.cells.lookup y=some c:=fun y c e=>by
  rw [yE] at e
  exact S.sub I2 e
 have yfp:∀ {H':Hp} {o:Obj},(∀ b∈fp,H' b=none)->∀ b∈fp,Jt Y [(s2.heap.objs.size,o)] H' b:=fun {H' o} hn b hb=>by
  obtain ⟨a1,a2,a3,a4,a5,a6⟩:=f2 b hb
  refine ⟨hn b hb,?_,?_,?_,fun y c e=>a5 y c (ycl y c e),fun p hp=>?_⟩
  ·rw [yE];exact Nat.ne_of_lt (hex b (List.mem_cons_of_mem _ hb)).1
  ·rw [yfs];exact (hex b (List.mem_cons_of_mem _ hb)).2.1
  ·rw [yex];exact .inl (List.mem_cons_of_mem _ hb)
  ·rw [ypn] at hp
   rcases List.mem_append.mp hp with hp | hp
   ·exact a6 p hp
   ·have e:p=(s2.heap.objs.size,o):=by simpa using hp
    subst e
    exact Nat.ne_of_gt (hfl b hb)
 have loop:∀ s₃:Shared,s₃={ s2 with heap:=h₁,toks:=s2.toks+([]:List (Str×Value)).length } ->
   codeAny (model X.prog X.w) X.A (.compLoop (.ListComp elt [⟨tg,iter,[],0⟩] scope pos) 0 (.ref it) (.ref s2.heap.objs.size) (compEnvC scope (tP X scope) g3.objs.size X.env)) (RR (.ref s2.heap.objs.size) g3.objs.size) s₃:=by
  rintro s₃ rfl
  refine codeAny_loop rfl (fun k s'=>∃ i ysV its cnt H' os,os.length=xs.length/\k=n0+1 - i/\Inv Y [(s2.heap.objs.size,xC its cnt)] (os ++ bG σ caps) H' s'/\tn i s'.heap/\(∀ b∈fp,H' b=none)/\bO ysV its/\ysV.length=i/\i<=n0/\W i ysV H') ?_ (n0+1)
   ⟨0,[],[],0,H2,xs.map (fun _=>none),by rw [List.length_map],rfl,I4,st4,fun b hb=>(f2 b hb).1,.nil,rfl,Nat.zero_le _,w0⟩
  rintro k s' ⟨i,ysV,its,cnt,H',os,hos,rfl,I',tni,frn,vv,hlen,hin,hw⟩
  show wpAny _ _ ((compTurn (.ListComp elt [⟨tg,iter,[],0⟩] scope pos) 0 (.ref it) (.ref s2.heap.objs.size) (compEnvC scope (tP X scope) g3.objs.size X.env)).onRaise (fun x=>do noteFrame x (compEnvC scope (tP X scope) g3.objs.size X.env);theTreesLotGoes x)) _ _ s'
  refine wpAny_noted ?_
  rw [compTurn_list1]
  have fpok:=yfp (o:=xC its cnt) frn
  rcases turn i ysV H' hin hlen hw with ⟨stop,hfin⟩ | ⟨hlt,go,step⟩
  ·refine wpAny_bind (wpAny_standAt (wpAny_bind (thn (Q:=fun r s1=>r=none/\Inv Y [(s2.heap.objs.size,xC its cnt)] (os ++ bG σ caps) H' s1) ?_ fun r s1 ⟨hr,I1⟩=>?_)))
   ·have:=T.done Y yP yW yK yC i _ s' _ H' (notedBy (model X.prog X.w) X.A (compEnvC scope (tP X scope) g3.objs.size X.env) fun e s'=>RR (.ref s2.heap.objs.size) g3.objs.size (.error e) s') I' fpok tni stop
    rw [yA] at this
    exact this
   ·subst hr
    refine wpAny_pure ?_
    obtain ⟨ub,uo⟩:=ybase I1
    obtain ⟨m,hm,_⟩:=I1.loc
    obtain ⟨p1,p2,_⟩:=I1.pin (s2.heap.objs.size,xC its cnt) (List.mem_append_right _ List.mem_cons_self)
    have hok:HOk X.prog X.w H' s1.heap:=by have:=I1.hok;rw [yP,yW] at this;exact this
    have hCf:=I1.free
    rw [yE] at hm hCf
    refine hRR g3.objs.size ysV its cnt H' s1 m hC (I3.call' uo ub hok I1.bare hch) p2 hCf vv (by omega) p1 hm hfin
  ·refine wpAny_bind (wpAny_standAt (wpAny_bind (thn (Q:=fun r s1=>∃ u,r=some u/\wpAny (model X.prog X.w) X.A (letOwnedTupleGo tg (.ref it) u) (fun _ s5=>∃ x H5,Inv Y [(s2.heap.objs.size,xC its cnt)] (os ++ bG σ caps) H5 s5/\bR x u/\J.yld i H' x H5/\tn (i+1) s5.heap/\∀ b∈fp,H5 b=none)
     (notedBy (model X.prog X.w) X.A (compEnvC scope (tP X scope) g3.objs.size X.env) fun e s'=>RR (.ref s2.heap.objs.size) g3.objs.size (.error e) s') s1) ?_ fun r s1 ⟨u,hr,h4⟩=>?_)))
   ·have:=T.item Y yP yW yK yC i _ s' _ H' (notedBy (model X.prog X.w) X.A (compEnvC scope (tP X scope) g3.objs.size X.env) fun e s'=>RR (.ref s2.heap.objs.size) g3.objs.size (.error e) s') I' fpok tni go
    rw [yA] at this
    exact this
   ·subst hr
    refine wpAny_bind (thn h4 fun _ s5 ⟨xv,H5,I5,r5,y5,st5,fr5⟩=>?_)
    have I5':=I5.pinned (yfp fr5) (T.obj _ _ st5)
    have sto:=yhg _ s5 _ H5 xv u _ I5' r5 (step xv H5 y5 os hos)
    rw [yP,yW,yA,yE] at sto
    refine wpAny_bind (nxE yX sto fun _ s6 ⟨σ6,H6,I6,⟨os',hos',e6⟩,t6⟩=>?_)
    subst e6
    have ev:=yhe _ s6 _ H6 _ I6 t6
    rw [yP,yW,yA,yE] at ev
    refine wpAny_bind (wpAny_bind (nxE yX ev fun yv s7 ⟨y,H7,I7,r7,w7⟩=>?_))
    obtain ⟨zD,hD7,hDl7,hDf7,_⟩:=I7.pin (s2.heap.objs.size,xC its cnt) (List.mem_append_right _ (List.mem_append_left _ List.mem_cons_self))
    have hil:=vv.length
    refine wpAny_bind (append_at zD (fun h8 sb8 d8=>wpAny_pure (wpAny_pure ⟨rfl,?_⟩)) (by rw [List.size_toArray];omega))
    have I7':Inv Y [] (os' ++ bG σ caps) H7 s7:=I7.pins_of fun p hp=>nomatch hp
    have I8:Inv Y [] (os' ++ bG σ caps) H7 { s7 with heap:=h8 }:=I7'.turned (t':=s7.toks) (fun b ob hb e=>(sb8.2 b hb).trans e) hD7 hDl7 (.inl (by rw [yex];exact List.mem_cons_self)) (fun y c e=>hDc y c (ycl y c e)) (fun p hp=>by
     rw [ypn,List.append_nil] at hp
     exact hDp p hp)
    have I9:Inv Y [(s2.heap.objs.size,xC (its ++ [yv]) (cnt+1))] (os' ++ bG σ caps) H7 { s7 with heap:=h8 }:=I8.pins_of fun p hp=>by
     have e:p=(s2.heap.objs.size,xC (its ++ [yv]) (cnt+1)):=by simpa using hp
     subst e
     refine ⟨?_,hD7,hDl7,hDf7,fun v z=>nomatch z⟩
     show h8.get? s2.heap.objs.size=some { cls:=.type "list",data:=.seq (its ++ [yv]).toArray (cnt+1) }
     rw [d8,List.push_toArray]
    refine ⟨n0+1 - (i+1),by omega,i+1,ysV ++ [y],its ++ [yv],cnt+1,H7,os',hos',rfl,I9,?_,?_,vv.append (.cons r7 .nil),by rw [List.length_append,hlen];rfl,hlt,w7⟩
    ·refine T.keep _ _ _ st5 fun b hb ob e=>(sb8.2 b (Nat.ne_of_lt (hfl b hb))).trans ?_
     exact (I7.pin (b,ob) (List.mem_append_right _ (List.mem_append_right _ (pQ hb e)))).1
    ·intro b hb
     obtain ⟨ob,e,_⟩:=T.obj _ _ st5 b hb
     exact (I7.pin (b,ob) (List.mem_append_right _ (List.mem_append_right _ (pQ hb e)))).2.1
 exact codeAny_compStart_list (loop _ rfl) (T.self _ 0 _ _ _ st4 (loop _ rfl))
theorem Oa {wi:TI} {RD:St->VK->It->Hp->Prop} (hRD:∀ σ Q J H1,RD σ Q J H1->kM J σ xs.length caps g te H1 fun ys H2=>∀ p,H2 p=none->Q (.ref p) (upd H2 p (.lst ys))) {FS:Scope} (S0:eE FS scope N xs ys caps) (hFS:X.env.scope=FS) (hN0:X.N=N) (hcalm:X.calm=true) (hi:PI X tg iter wi) (hg:∀ s H ex pn,PG (cR X scope (xs ++ ys) s H ex pn) tg g) (he:∀ s H ex pn,PE (cR X scope (xs ++ ys) s H ex pn) elt te)
  (hs:∀ v,foldedSetIterable iter X.env v=pure v:=by intro _;rfl):PE X (.ListComp elt [⟨tg,iter,[],0⟩] scope pos) (fun σ H Q=>wi σ H (RD σ Q)):=by
 have S:eE X.env.scope scope X.N xs ys caps:=by rw [hFS,hN0];exact S0
 intro pins s σ H Q I h
 rw [eval_ListComp]
 refine wpAny_comprehension_free (use:=none) rfl hs (tY (S.cells I)) S.kind S.names (thn (hi pins s σ H _ I h) fun v s1 h1=>thn h1 fun itv s2 h2=>?_)
 obtain ⟨it,fp,tn,J,H2,rfl,I2,T,st2,f2,rd⟩:=h2
 refine Iy (RR:=fun acc C=>compPost (model X.prog X.w) X.A X.xe none (EP X pins σ Q) acc C) hcalm S hg he I2 T st2 f2 (hRD _ _ _ _ rd) ?_
 intro C ysV its n H8 s8 m hC I8 hD hC8 vv hz oD hn fin
 refine ⟨m,hn,fun h' sb=>?_⟩
 have sz:=I2.sz
 have lt:=I2.lt
 have ap:∀ b:Addr,b < s2.heap.objs.size->b≠C/\C≠b:=fun b hb=>by
  subst hC
  exact ⟨Nat.ne_of_lt (Nat.lt_succ_of_lt hb),Nat.ne_of_gt (Nat.lt_succ_of_lt hb)⟩
 have szC:X.s₀.heap.objs.size<=C:=by subst hC;exact Nat.le_succ_of_le sz
 have DC:s2.heap.objs.size≠C:=by subst hC;exact Nat.ne_of_lt (Nat.lt_succ_self _)
 have cl:∀ y c,X.env.cells.lookup y=some c->c < s2.heap.objs.size:=fun y c e=>by
  obtain ⟨w',z⟩:=I2.cell y c e
  exact z.lt
 have pl:∀ p∈X.pn ++ pins,p.1 < s2.heap.objs.size:=fun p hp=>Heap.lt_size (I2.pin p hp).1
 have I9:Inv X pins σ H8 { s8 with heap:=h' }:=I8.turned (t':=s8.toks) (fun b o hb e=>(sb.2 b hb).trans e) hC8 (ap _ lt).2 (.inr szC) (fun y c e=>(ap c (cl y c e)).1) (fun p hp=>(ap p.1 (pl p hp)).1)
 have oD':h'.get? s2.heap.objs.size=some (xC its n):=(sb.2 _ DC).trans oD
 exact ⟨.ref s2.heap.objs.size,upd H8 s2.heap.objs.size (.lst ysV),I9.adopt hD sz (Nat.ne_of_gt lt) (fun y c e=>Nat.ne_of_lt (cl y c e)) (fun p hp=>Nat.ne_of_lt (pl p hp)) ⟨hz,its,n,vv,oD'⟩,rfl,fin _ hD⟩
theorem zY {wi:TI} {RD:St->VK->It->Hp->Prop} (hRD:∀ σ Q J H1,RD σ Q J H1->kM J σ xs.length caps g te H1 fun ys H2=>∀ p,H2 p=none->Q (.ref p) (upd H2 p (.lst ys))) {FS:Scope} (S0:eE FS scope N xs ys caps) (hFS:X.env.scope=FS) (hN0:X.N=N) (hcalm:X.calm=true) (hN:X.N.Nodup) (hy:X.N[i]?=some y) (hl:Loc X.env.scope y) (hi:PI X tg iter wi) (hg:∀ s H ex pn,PG (cR X scope (xs ++ ys) s H ex pn) tg g) (he:∀ s H ex pn,PE (cR X scope (xs ++ ys) s H ex pn) elt te)
  (hsw:swapsWith (.ListComp elt [⟨tg,iter,[],0⟩] scope pos) (some (.Name y py)) spos.line X.env=pure true:=by rfl)
  (hs:∀ v,foldedSetIterable iter X.env v=pure v:=by intro _;rfl) (hf:X.fn y=true∨X.env.scope.names.lookup y=some .local:=by first | exact .inl rfl | exact .inr rfl | assumption) :
  PS X (.Assign [.Name y py] (.ListComp elt [⟨tg,iter,[],0⟩] scope pos) spos) (aV (fun σ H Q=>wi σ H (RD σ Q)) (aJ i)):=by
 have S:eE X.env.scope scope X.N xs ys caps:=by rw [hFS,hN0];exact S0
 intro pins s σ H D I h
 rw [exec_Assign_Name_used _ _ _ _ hsw]
 refine wpAny_bind (wpAny_standAt (wpAny_bind ?_))
 show wpAny _ X.A (do let _ ← comprehension (.ListComp elt [⟨tg,iter,[],0⟩] scope pos) scope X.env _ (newList []) false (eval iter X.env) (some (assign (.Name y py) X.env))) _ _ s
 refine wpAny_bind (wpAny_mono (wpAny_comprehension_free (use:=some (assign (.Name y py) X.env)) (Q:=fun _ s'=>SP X pins D .next s') rfl hs (tY (S.cells I)) S.kind S.names
  (thn (hi pins s σ H _ I h) fun v s1 h1=>thn h1 fun itv s2 h2=>?_)) (fun _ s' hq=>wpAny_pure (wpAny_pure hq)) fun _ _ e=>e)
 obtain ⟨it,fp,tn,J,H2,rfl,I2,T,st2,f2,rd⟩:=h2
 refine Iy (RR:=fun acc C=>compPost (model X.prog X.w) X.A X.xe (some (assign (.Name y py) X.env)) (fun _ s'=>SP X pins D .next s') acc C) hcalm S hg he I2 T st2 f2 (hRD _ _ _ _ rd) ?_
 intro C ysV its n H8 s8 m hC I8 hD hC8 vv hz oD hn fin
 have sz:=I2.sz
 have lt:=I2.lt
 have ap:∀ b:Addr,b < s2.heap.objs.size->b≠C/\C≠b:=fun b hb=>by
  subst hC
  exact ⟨Nat.ne_of_lt (Nat.lt_succ_of_lt hb),Nat.ne_of_gt (Nat.lt_succ_of_lt hb)⟩
 have szC:X.s₀.heap.objs.size<=C:=by subst hC;exact Nat.le_succ_of_le sz
 have DC:C≠s2.heap.objs.size:=by subst hC;exact Nat.ne_of_gt (Nat.lt_succ_self _)
 have cl:∀ y c,X.env.cells.lookup y=some c->c < s2.heap.objs.size:=fun y c e=>by
  obtain ⟨w',z⟩:=I2.cell y c e
  exact z.lt
 have pl:∀ p∈X.pn ++ pins,p.1 < s2.heap.objs.size:=fun p hp=>Heap.lt_size (I2.pin p hp).1
 have I9:Inv X pins σ (upd H8 s2.heap.objs.size (.lst ysV)) s8:=I8.adopt hD sz (Nat.ne_of_gt lt) (fun y c e=>Nat.ne_of_lt (cl y c e)) (fun p hp=>Nat.ne_of_lt (pl p hp)) ⟨hz,its,n,vv,oD⟩
 show wpAny (model X.prog X.w) X.A (assign (.Name y py) X.env (.ref s2.heap.objs.size)) _ _ s8
 refine wpAny_assign_Name (Hv (v:=.ref s2.heap.objs.size) I9 hN hy hl rfl (fun s9 I10 ⟨a,sa,ha⟩=>?_) hf)
 have hCa:C≠a:=by
  rcases ha with rfl | e
  ·exact (ap _ lt).2
  ·exact (ap _ (cl _ _ e)).2
 refine ⟨m,hn.sameBut sa hCa,fun h' sb=>⟨_,_,I10.turned (t':=s9.toks) (fun b o hb e=>(sb.2 b hb).trans e) ?_ (ap _ lt).2 (.inr szC) (fun y c e=>(ap c (cl y c e)).1) (fun p hp=>(ap p.1 (pl p hp)).1),fin _ hD⟩⟩
 rw [aR DC]
 exact hC8
theorem vW {X:Cx} {scope:Scope} {NY:List Str} {ex:List Addr} {pn:List (Addr×Obj)} {px:Pos} (hN:NY.Nodup) (hi:NY[i]?=some x) (hx:scope.names.lookup x=some .local):PG (cR X scope NY s H ex pn) (.Name x px) (aJ i) :=
 Ux (X:=cR X scope NY s H ex pn) hN hi (.inl (lookup_relabel_local hx)) (.inr (lookup_relabel_local hx))
theorem xN.toG {FS:Scope} (S:xN FS scope N x ys caps):eE FS scope N [x] ys caps:=⟨S.ncell,S.kind,S.names,S.fr,S.fk,S.cap,S.len⟩
theorem qZ.toG {J:It} {te:TE} {fin:List V->Hp->Prop}:qZ J σ caps te H1 fin->kM J σ 1 caps (aJ 0) te H1 fin:=by
 rintro ⟨n,W,hn,h0,h⟩
 refine ⟨n,W,hn,h0,fun i ys H2 hi hy hw=>?_⟩
 rcases h i ys H2 hi hy hw with z | ⟨z1,z2,z3⟩
 ·exact .inl z
 ·refine .inr ⟨z1,z2,fun x H3 y os ho=>?_⟩
  match os,ho with
  | [o],_=>exact ⟨⟨[some x],rfl,rfl⟩,z3 x H3 y⟩
theorem jJr {wi:TI} {FS:Scope} (S0:eE FS scope N xs ys caps) (hFS:X.env.scope=FS) (hN0:X.N=N) (hcalm:X.calm=true) (hi:PI X tg iter wi) (hg:∀ s H ex pn,PG (cR X scope (xs ++ ys) s H ex pn) tg g) (he:∀ s H ex pn,PE (cR X scope (xs ++ ys) s H ex pn) elt te)
  (hs:∀ v,foldedSetIterable iter X.env v=pure v:=by intro _;rfl):PE X (.ListComp elt [⟨tg,iter,[],0⟩] scope pos) (dU wi xs.length caps g te):=Oa (fun _ _ _ _ h=>h) S0 hFS hN0 hcalm hi hg he hs
theorem Pl {wi:TI} {FS:Scope} (S0:eE FS scope N xs ys caps) (hFS:X.env.scope=FS) (hN0:X.N=N) (hcalm:X.calm=true) (hN:X.N.Nodup) (hy:X.N[i]?=some y) (hl:Loc X.env.scope y) (hi:PI X tg iter wi) (hg:∀ s H ex pn,PG (cR X scope (xs ++ ys) s H ex pn) tg g) (he:∀ s H ex pn,PE (cR X scope (xs ++ ys) s H ex pn) elt te)
  (hsw:swapsWith (.ListComp elt [⟨tg,iter,[],0⟩] scope pos) (some (.Name y py)) spos.line X.env=pure true:=by rfl)
  (hs:∀ v,foldedSetIterable iter X.env v=pure v:=by intro _;rfl) (hf:X.fn y=true∨X.env.scope.names.lookup y=some .local:=by first | exact .inl rfl | exact .inr rfl | assumption) :
  PS X (.Assign [.Name y py] (.ListComp elt [⟨tg,iter,[],0⟩] scope pos) spos) (aV (dU wi xs.length caps g te) (aJ i)):=zY (RD:=fun σ Q J H1=>kM J σ xs.length caps g te H1 fun ys H2=>∀ p,H2 p=none->Q (.ref p) (upd H2 p (.lst ys))) (fun _ _ _ _ h=>h) S0 hFS hN0 hcalm hN hy hl hi hg he hsw hs hf
end
section
variable {X:Cx} {scope:Scope} {x:Str} {ys:List Str} {caps:List Nat} {elt iter:Expr} {te:TE} {px pos:Pos}
theorem pe_comp {wi:TI} {FS:Scope} (S0:xN FS scope N x ys caps) (hFS:X.env.scope=FS) (hN0:X.N=N) (hcalm:X.calm=true) (hi:PI X (.Name x px) iter wi) (he:∀ s H ex pn,PE (cR X scope (x :: ys) s H ex pn) elt te)
  (hs:∀ v,foldedSetIterable iter X.env v=pure v:=by intro _;rfl):PE X (.ListComp elt [⟨.Name x px,iter,[],0⟩] scope pos) (bB wi caps te):=Oa (xs:=[x]) (g:=aJ 0) (fun _ _ _ _ h=>qZ.toG h) S0.toG hFS hN0 hcalm hi (fun _ _ _ _=>vW S0.nd rfl S0.loc) he hs
theorem Sn {wi:TI} {FS:Scope} (S0:xN FS scope N x ys caps) (hFS:X.env.scope=FS) (hN0:X.N=N) (hcalm:X.calm=true) (hN:X.N.Nodup) (hy:X.N[i]?=some y) (hl:Loc X.env.scope y) (hi:PI X (.Name x px) iter wi) (he:∀ s H ex pn,PE (cR X scope (x :: ys) s H ex pn) elt te)
  (hsw:swapsWith (.ListComp elt [⟨.Name x px,iter,[],0⟩] scope pos) (some (.Name y py)) spos.line X.env=pure true:=by rfl)
  (hs:∀ v,foldedSetIterable iter X.env v=pure v:=by intro _;rfl) (hf:X.fn y=true∨X.env.scope.names.lookup y=some .local:=by first | exact .inl rfl | exact .inr rfl | assumption) :
  PS X (.Assign [.Name y py] (.ListComp elt [⟨.Name x px,iter,[],0⟩] scope pos) spos) (aV (bB wi caps te) (aJ i)):=zY (RD:=fun σ Q J H1=>qZ J σ caps te H1 fun ys H2=>∀ p,H2 p=none->Q (.ref p) (upd H2 p (.lst ys))) (xs:=[x]) (g:=aJ 0) (fun _ _ _ _ h=>qZ.toG h) S0.toG hFS hN0 hcalm hN hy hl hi (fun _ _ _ _=>vW S0.nd rfl S0.loc) he hsw hs hf
end
noncomputable def Nd (K:PySem.W.Frag):List V->Hp->VK->Prop:=fun xs H Q=>∃ p ns,xs=[.ref p]/\SqL K H p (List.map V.int ns)/\ns≠[]/\∀ M,M∈ns->(∀ a∈ns,a<=M)->Q (.int M) H
noncomputable def Nc (K:PySem.W.Frag):List V->Hp->VK->Prop:=fun xs H Q=>∃ p ns,xs=[.ref p]/\SqL K H p (List.map V.int ns)/\ns≠[]/\∀ M,M∈ns->(∀ a∈ns,M<=a)->Q (.int M) H
theorem bO.ints:∀ {ns:List Int} {us:List Value},bO (List.map V.int ns) us->∃ xs:List (Int×Tok),us=xs.map (fun p=>Value.int p.1 p.2)/\xs.map (·.1)=ns
 | [],_,h=>by cases h;exact ⟨[],rfl,rfl⟩
 | n :: ns,_,h=>by
  cases h with
  | cons r t =>
   obtain ⟨tk,rfl⟩:=r
   obtain ⟨xs,e1,e2⟩:=bO.ints t
   exact ⟨(n,tk) :: xs,by rw [e1];rfl,by rw [List.map_cons,e2]⟩
theorem vX {xs:List (Int×Tok)} {ns:List Int} (e:xs.map (·.1)=ns) (i:Nat) (h:i < ns.length):∃ n,ns[i]?=some n/\numAt xs.toArray i=n:=by
 have hx:i < xs.length:=by rw [← e,List.length_map] at h;exact h
 refine ⟨xs[i].1,by rw [← e,List.getElem?_map,List.getElem?_eq_getElem hx];rfl,?_⟩
 unfold numAt
 rw [List.getElem?_toArray,List.getElem?_eq_getElem hx]
 rfl
section
variable {X:Cx}
theorem Jb (hc:X.calm=true):lX X (.builtin "max") (Nd X.K):=by
 intro pins s σ H xs us Q I r h
 obtain ⟨p,ns,rfl,hq,hne,q⟩:=h
 obtain ⟨u,rfl,ru⟩:=qR r
 cases ru
 obtain ⟨its,rv,pl,hz⟩:=I.list hq
 obtain ⟨ps,e1,e2⟩:=rv.ints
 have hl:ps.length=ns.length:=by rw [← e2,List.length_map]
 have hn0:0 < ns.length:=List.length_pos_iff.mpr hne
 have ei:its.toArray=intItems ps.toArray:=by rw [e1];unfold intItems;simp
 have pl':=pl.isList
 rw [ei] at pl'
 refine max_intList (I.ok.hd hc) pl' (by rw [List.size_toArray];omega) fun v h' tk hv hk=>?_
 obtain ⟨t,rfl⟩:=intItems_at hv
 obtain ⟨g1,g2⟩:=argBest_gt (numAt ps.toArray) (ps.toArray.size - 1)
 rw [List.size_toArray] at g1 g2 ⊢
 obtain ⟨M,m1,m2⟩:=vX e2 (argBest (fun i j=>decide (numAt ps.toArray i > numAt ps.toArray j)) (ps.length - 1)) (by omega)
 rw [m2] at g2 ⊢
 refine ⟨.int M,H,I.kept hk,⟨_,rfl⟩,q M (List.mem_of_getElem? m1) fun a ha=>?_⟩
 obtain ⟨j,hj,ej⟩:=List.getElem_of_mem ha
 obtain ⟨n,n1,n2⟩:=vX e2 j hj
 rw [List.getElem?_eq_getElem hj,ej] at n1
 cases n1
 rw [← n2]
 exact g2 j (by omega)
theorem Ja (hc:X.calm=true):lX X (.builtin "min") (Nc X.K):=by
 intro pins s σ H xs us Q I r h
 obtain ⟨p,ns,rfl,hq,hne,q⟩:=h
 obtain ⟨u,rfl,ru⟩:=qR r
 cases ru
 obtain ⟨its,rv,pl,hz⟩:=I.list hq
 obtain ⟨ps,e1,e2⟩:=rv.ints
 have hl:ps.length=ns.length:=by rw [← e2,List.length_map]
 have hn0:0 < ns.length:=List.length_pos_iff.mpr hne
 have ei:its.toArray=intItems ps.toArray:=by rw [e1];unfold intItems;simp
 have pl':=pl.isList
 rw [ei] at pl'
 refine min_intList (I.ok.hd hc) pl' (by rw [List.size_toArray];omega) fun v h' tk hv hk=>?_
 obtain ⟨t,rfl⟩:=intItems_at hv
 obtain ⟨g1,g2⟩:=argBest_lt (numAt ps.toArray) (ps.toArray.size - 1)
 rw [List.size_toArray] at g1 g2 ⊢
 obtain ⟨M,m1,m2⟩:=vX e2 (argBest (fun i j=>decide (numAt ps.toArray i < numAt ps.toArray j)) (ps.length - 1)) (by omega)
 rw [m2] at g2 ⊢
 refine ⟨.int M,H,I.kept hk,⟨_,rfl⟩,q M (List.mem_of_getElem? m1) fun a ha=>?_⟩
 obtain ⟨j,hj,ej⟩:=List.getElem_of_mem ha
 obtain ⟨n,n1,n2⟩:=vX e2 j hj
 rw [List.getElem?_eq_getElem hj,ej] at n1
 cases n1
 rw [← n2]
 exact g2 j (by omega)
end
noncomputable def eqN (n:Int):Value->Bool
 | .int a _=>a == n
 | _=>false
theorem kW {b:Addr} {fin:List V->Hp->Prop} (W:Nat->List V->Hp->Prop) (hz:xs.length<=sizeLine) (he:xs.length=ys.length) (h0:W 0 [] H1) (hl:∀ i zs H,i<=xs.length->W i zs H->SqL K H a xs/\SqL K H b ys)
  (hs:∀ i x y p zs H,xs[i]?=some x->ys[i]?=some y->zs.length=i->W i zs H->H p=none->∀ os:St,os.length=k->g (.ref p) (os ++ bG σ caps) (upd H p (.tup [x,y])) fun σ2 H4=>(∃ os':St,os'.length=k/\σ2=os' ++ bG σ caps)/\te σ2 H4 fun z H5=>W (i+1) (zs ++ [z]) H5)
  (hd:∀ zs H,zs.length=xs.length->W xs.length zs H->fin zs H):kM (Itz K a b) σ k caps g te H1 fin:=by
 refine ⟨xs.length,W,hz,h0,fun i zs H2 hi hy hw=>?_⟩
 obtain ⟨q,r⟩:=hl i zs H2 hi hw
 by_cases hlt:i < xs.length
 ·have hlt2:i < ys.length:=by omega
  refine .inr ⟨hlt,⟨xs,xs[i],ys,ys[i],q,by simp [hlt],r,by simp [hlt2]⟩,fun x H3 y os ho=>?_⟩
  obtain ⟨pp,x',y',e1,e2,e3,y1,y2⟩:=y
  subst e1 e3
  exact hs i x' y' pp zs _ (y1 xs q) (y2 ys r) hy hw e2 os ho
 ·have e:i=xs.length:=by omega
  subst e
  exact .inl ⟨⟨xs,ys,q,r,.inl (Nat.le_refl _)⟩,hd zs H2 hy hw⟩
theorem Ua {fin:List V->Hp->Prop} (W:Nat->List V->Hp->Prop) (hz:xs.length<=sizeLine) (h0:W 0 [] H1) (hl:∀ i zs H,i<=xs.length->W i zs H->SqL K H a xs)
  (hs:∀ i x p zs H,xs[i]?=some x->zs.length=i->W i zs H->H p=none->∀ os:St,os.length=k->g (.ref p) (os ++ bG σ caps) (upd H p (.tup [.int i,x])) fun σ2 H4=>(∃ os':St,os'.length=k/\σ2=os' ++ bG σ caps)/\te σ2 H4 fun z H5=>W (i+1) (zs ++ [z]) H5)
  (hd:∀ zs H,zs.length=xs.length->W xs.length zs H->fin zs H):kM (Ite K a) σ k caps g te H1 fin:=by
 refine ⟨xs.length,W,hz,h0,fun i zs H2 hi hy hw=>?_⟩
 have q:=hl i zs H2 hi hw
 by_cases hlt:i < xs.length
 ·refine .inr ⟨hlt,⟨xs,xs[i],q,by simp [hlt]⟩,fun x H3 y os ho=>?_⟩
  obtain ⟨pp,z,e1,e2,e3,y⟩:=y
  subst e1 e3
  exact hs i z pp zs _ (y xs q) hy hw e2 os ho
 ·have e:i=xs.length:=by omega
  subst e
  exact .inl ⟨⟨xs,q,Nat.le_refl _⟩,hd zs H2 hy hw⟩
noncomputable def Cf:R2:=fun x y H Q=>y=.non/\Q (.bl (decide (x=.non))) H
noncomputable def Mz:R2:=fun x y H Q=>y=.non/\Q (.bl (!decide (x=.non))) H
theorem jZU {b:Addr} {D:xD} (n:Nat) (Pv:Nat->St->Hp->Prop) (h0:Pv 0 σ H) (hl:∀ i σ H,i<=n->Pv i σ H->SqL K H a xs/\SqL K H b ys) (hx:n<=xs.length) (hy:n<=ys.length) (he:xs.length<=n∨ys.length<=n)
  (hs:∀ i x y p σ H,xs[i]?=some x->ys[i]?=some y->i < n->Pv i σ H->H p=none->g (.ref p) σ (upd H p (.tup [x,y])) fun σ2 H2=>tb { D with nx:=Pv (i+1),ct:=Pv (i+1),bk:=D.nx } σ2 H2) (hd:∀ σ H,Pv n σ H->D.nx σ H) :
  ∃ W:Nat->Nat->St->Hp->Prop,(∃ m,W 0 m σ H)/\∀ i m σ H,W i m σ H ->
   ((Itz K a b).stop i H/\D.nx σ H)∨((Itz K a b).go i H/\∃ N:St->Hp->Prop,(∀ σ' H',N σ' H'->∃ m',m' < m/\W (i+1) m' σ' H')/\∀ x H',(Itz K a b).yld i H x H'->g x σ H' fun σ2 H2=>tb { D with nx:=N,ct:=N,bk:=D.nx } σ2 H2):=by
 refine ⟨fun i m σ H=>m=n - i/\i<=n/\Pv i σ H,⟨n,by simp,Nat.zero_le _,h0⟩,?_⟩
 rintro i m σ H ⟨rfl,hi,p⟩
 obtain ⟨q,r⟩:=hl i σ H hi p
 by_cases hlt:i < n
 ·have h1:i < xs.length:=by omega
  have h2:i < ys.length:=by omega
  refine .inr ⟨⟨xs,xs[i],ys,ys[i],q,by simp [h1],r,by simp [h2]⟩,Pv (i+1),fun σ' H' p'=>⟨n - (i+1),by omega,rfl,hlt,p'⟩,fun x H' y=>?_⟩
  obtain ⟨pp,x',y',e1,e2,e3,y1,y2⟩:=y
  subst e1 e3
  exact hs i x' y' pp σ _ (y1 xs q) (y2 ys r) hlt p e2
 ·have e:i=n:=by omega
  subst e
  exact .inl ⟨⟨xs,ys,q,r,he⟩,hd σ H p⟩
theorem Tz {b:Addr} {fin:List V->Hp->Prop} (n:Nat) (W:Nat->List V->Hp->Prop) (hz:n<=sizeLine) (hx:n<=xs.length) (hy:n<=ys.length) (he:xs.length<=n∨ys.length<=n) (h0:W 0 [] H1) (hl:∀ i zs H,i<=n->W i zs H->SqL K H a xs/\SqL K H b ys)
  (hs:∀ i x y p zs H,xs[i]?=some x->ys[i]?=some y->i < n->zs.length=i->W i zs H->H p=none->∀ os:St,os.length=k->g (.ref p) (os ++ bG σ caps) (upd H p (.tup [x,y])) fun σ2 H4=>(∃ os':St,os'.length=k/\σ2=os' ++ bG σ caps)/\te σ2 H4 fun z H5=>W (i+1) (zs ++ [z]) H5)
  (hd:∀ zs H,zs.length=n->W n zs H->fin zs H):kM (Itz K a b) σ k caps g te H1 fin:=by
 refine ⟨n,W,hz,h0,fun i zs H2 hi hyy hw=>?_⟩
 obtain ⟨q,r⟩:=hl i zs H2 hi hw
 by_cases hlt:i < n
 ·have h1:i < xs.length:=by omega
  have h2:i < ys.length:=by omega
  refine .inr ⟨hlt,⟨xs,xs[i],ys,ys[i],q,by simp [h1],r,by simp [h2]⟩,fun x H3 y os ho=>?_⟩
  obtain ⟨pp,x',y',e1,e2,e3,y1,y2⟩:=y
  subst e1 e3
  exact hs i x' y' pp zs _ (y1 xs q) (y2 ys r) hlt hyy hw e2 os ho
 ·have e:i=n:=by omega
  subst e
  exact .inl ⟨⟨xs,ys,q,r,he⟩,hd zs H2 hyy hw⟩
structure Aq (K:PySem.W.Frag):Prop where
 cl:Cls K (aX K "Corner")
 nb:jW K (aX K "Corner") "begun"
 ns:jW K (aX K "Corner") "spans"
 nk:jW K (aX K "Corner") "kept"
 ni:jW K (aX K "Corner") "inside"
noncomputable def Zq:V->List V->Hp->VK->Prop:=fun x vs H Q=>∃ n:Int,x=.int n/\vs=[]/\Q (.int ((Builtin.Int.intBits n:Nat):Int)) H
section
variable {X:Cx}
theorem mt_bits:MtR X "int.bit_length" Zq:=by
 intro pins s σ H x xs v us Q I rx rv h
 obtain ⟨n,rfl,rfl,q⟩:=h
 obtain ⟨t,rfl⟩:=rx
 cases rv
 exact call_int_bit_length ⟨.int _,H,I.tok _,⟨_,rfl⟩,q⟩
end
theorem jC:plainId "list.remove.loop" = true:=by decide +kernel
theorem tX:entryFor table "list.remove.loop" = some Builtin.«list.remove.loop»:=entryFor_of_fast (by kernel_rfl)
theorem Pd (l:Addr) (zs:Array Value) (c:Nat) (x:Value) (q:Value->Bool) (j:Nat) (hj:j < zs.size) (hit:q zs[j]=true) (hz:zs.size<=sizeLine):∀ (d i:Nat),j=i+d->(∀ m (hm:m < zs.size),m < j->q zs[m]=false) ->
  Meets (Builtin.«list.remove.loop» ⟨[.ref l,x,rawInt i],[]⟩)
   (fun A R s=>s.heap.get? l=some { cls:=.type "list",data:=.seq zs c }/\(∀ y,y∈zs->SeqAt.EqAt A.in1 s y x (q y))/\R (.ok (.ret .none)) { s with heap:=s.heap.update l (Obj.mapSeq fun a=>a.eraseIdxIfInBounds j) }):=by
 intro d
 induction d with
 | zero =>
  intro i ei no prog w A R s h
  obtain ⟨hp,g,dd,tk,os⟩:=s
  obtain ⟨hl,he,h⟩:=h
  obtain rfl:j=i:=ei
  wp_walk using wpAny_loadPart' hl
  have e:zs[((j:Nat):Int).toNat]?=some zs[j]:=by simp [hj]
  rw [e]
  refine wpAny_bind (he _ (Array.getElem_mem hj) prog w _ _ ?_)
  rw [hit]
  have hz2:(zs.eraseIdxIfInBounds j).size<=sizeLine+1:=Nat.le_trans (PySem.MeetsSeq.size_erased zs _) (Nat.le_succ_of_le hz)
  wp_walk using (wpAny_updateSeq hl rfl (hz:=hz) (_hz':=hz2)),wpAny_loadPart' hl
  exact h
 | succ d ih =>
  intro i ei no prog w A R s h
  obtain ⟨hp,g,dd,tk,os⟩:=s
  obtain ⟨hl,he,h⟩:=h
  have il:i < zs.size:=by omega
  wp_walk using wpAny_loadPart' hl
  have e:zs[((i:Nat):Int).toNat]?=some zs[i]:=by simp [il]
  have e1:((i:Int)+1)=((i+1:Nat):Int):=by omega
  rw [e]
  refine wpAny_bind (he _ (Array.getElem_mem il) prog w _ _ ?_)
  rw [no i il (by omega)]
  wp_walk
  rw [e1]
  refine ⟨plainId_quiet jC _,codeAny_builtin tX ?_⟩
  rw [Around.under_plainId jC _]
  exact ih (i+1) (by omega) no prog w A R _ ⟨hl,he,h⟩
theorem Wy (l:Addr) (zs:Array Value) (c:Nat) (x:Value) (q:Value->Bool) (j:Nat) (hj:j < zs.size) (hit:q zs[j]=true) (hz:zs.size<=sizeLine) (no:∀ m (hm:m < zs.size),m < j->q zs[m]=false) :
  Meets (Builtin.«list.remove» ⟨[.ref l,x],[]⟩)
   (fun A R s=>s.heap.get? l=some { cls:=.type "list",data:=.seq zs c }/\(∀ y,y∈zs->SeqAt.EqAt A.in1 s y x (q y))/\R (.ok (.ret .none)) { s with heap:=s.heap.update l (Obj.mapSeq fun a=>a.eraseIdxIfInBounds j) }):=by
 intro prog w A R s h
 obtain ⟨hp,g,dd,tk,os⟩:=s
 wp_walk
 refine ⟨plainId_quiet jC _,codeAny_builtin tX ?_⟩
 rw [Around.under_plainId jC _]
 exact Pd l zs c x q j hj hit hz j 0 (by omega) no prog w A R _ h
noncomputable def Kn:V->List V->Hp->VK->Prop:=fun x vs H Q=>∃ l ns n j,x=.ref l/\vs=[.int n]/\H l=some (.lst (List.map V.int ns))/\ns[j]?=some n/\(∀ m,m < j->ns[m]?≠some n)/\Q .non (upd H l (.lst (List.map V.int (ns.eraseIdx j))))
theorem Jz {α β:Type} (f:α->β):∀ (l:List α) (i:Nat),(l.eraseIdx i).map f=(l.map f).eraseIdx i
 | [],i=>by simp
 | a :: r,0=>rfl
 | a :: r,i+1=>by show f a :: (r.eraseIdx i).map f=f a :: (r.map f).eraseIdx i;rw [Jz f r i]
theorem Xr {X:Cx}:MtM X "list.remove" Kn:=by
 intro pins s σ H x vs v us Q I rx rv h
 obtain ⟨l,ns,n,j,rfl,rfl,hH,hj,hno,q⟩:=h
 cases rx
 obtain ⟨u,rfl,ru⟩:=rv.one
 obtain ⟨z,its,c,r,hl,e⟩:=I.lstM hH
 have hjl:j < ns.length:=(List.getElem?_eq_some_iff.mp hj).1
 have len:=r.length
 rw [List.length_map] at len
 have at_:∀ m (hm:m < its.toArray.size),∃ a t,ns[m]?=some a/\its.toArray[m]=.int a t:=fun m hm=>by
  have h1:m < its.length:=by simpa using hm
  have h2:m < ns.length:=by omega
  obtain ⟨w,e1,e2⟩:=r.get (i:=m) (x:=.int ns[m]) (by rw [List.getElem?_map,List.getElem?_eq_getElem h2];rfl)
  obtain ⟨t,rfl⟩:=e2
  refine ⟨ns[m],t,List.getElem?_eq_getElem h2,?_⟩
  obtain ⟨_,e3⟩:=List.getElem?_eq_some_iff.mp e1
  simpa using e3
 refine call_meets F.slot_list_remove ⟨_,e,rfl⟩ F.entry_list_remove (F.args_list_remove_2 _ _) (Wy l its.toArray c u (eqN n) j (by rw [List.size_toArray];omega) ?_ (by rw [List.size_toArray,← hl];exact z) fun m hm hmj=>?_) ⟨e,fun y hy=>?_,?_⟩
 ·obtain ⟨a,t,e1,e2⟩:=at_ j (by rw [List.size_toArray];omega)
  rw [hj] at e1
  cases e1
  rw [e2]
  show (n == n)=true
  simp
 ·obtain ⟨a,t,e1,e2⟩:=at_ m hm
  rw [e2]
  show (a == n)=false
  have:a≠n:=fun z=>hno m hmj (by rw [e1,z])
  simpa using this
 ·obtain ⟨m,hm,e1⟩:=Array.getElem_of_mem hy
  obtain ⟨a,t,_,e2⟩:=at_ m hm
  rw [← e1,e2]
  exact Iw (i:=a) (j:=n) ⟨t,rfl⟩ ru
 ·refine ⟨.non,_,I.lset (its':=its.eraseIdx j) hH e ?_ ?_ ?_,rfl,q⟩
  ·show its.toArray.eraseIdxIfInBounds j=(its.eraseIdx j).toArray
   rw [List.eraseIdxIfInBounds_toArray]
  ·rw [Jz];exact r.eraseIdx j
  ·have:=yM (List.map V.int ns) j
   rw [Jz]
   omega
section
variable {X:Cx}
theorem jJq {n:Int} (hg:Gl X x) (hm:∃ t,X.mg x=some (.int n t)) (hd:(x == ("__debug__" : Str))=false:=by decide):PE X (.Name x pos) (tC (.int n)) :=
 let ⟨t,e⟩:=hm
 kJ (v:=.int n) hg e ⟨t,rfl⟩ hd
end
structure qO (K:PySem.W.Frag) (x qual:Str) (st:Stmt) (df:Value) (f:Addr) (fd:FuncData):Prop where
 ex:∃ (oc:Value) (od:Option Addr) (kV doc pm:Value) (an:Option Addr) (cdv ct:Value) (osl:Array (Option Value)),
  fd=PySem.W.fnOf x qual (iZ st) (fO st) (bA st) df kV doc pm an cdv ct/\K.lookup f=some ⟨oc,od,.func fd,osl⟩/\PySem.W.codeIn K cdv qual=true
 kp:PySem.W.keepIn K (.ref f)=true
section
variable {P:Program} {w:World} {K:PySem.W.Frag} {mg:Str->Option Value} {base:Heap} {x qual:Str} {st:Stmt} {df:Value} {f:Addr} {fd:FuncData} {N ps:List Str} {k:Nat} {sp:Sp}
theorem qO.okX (F:qO K x qual st df f fd) (S:mD N ps (bA st)) (len:∀ vs H Q E,sp vs H Q E->vs.length=ps.length)
  (hbody:∀ (cdv:Value) (A:Around) (outer:List Env) (s:Shared) (H:Hp) (vs:List V) (Q:VK) (E:XK),eX k (A.deeper (envOfC qual (bA st) s.heap.objs.size f cdv))->sp vs H Q E ->
   ∃ t,PSs (oY (CXF P w) P w K mg base N qual (bA st) f cdv A outer s H E) (fO st) t/\t { nx:=fun _ H'=>Q .non H',rt:=Q } (start N vs) H):oZ P w K mg base (CXF P w) (k+1) f fd ps sp:=by
 obtain ⟨oc,od,kV,doc,pm,an,cdv,ct,osl,rfl,lk,hcd⟩:=F.ex
 exact fn_of lk hcd S len fun A outer s H vs Q E hr hsp=>hbody cdv A outer s H vs Q E hr hsp
theorem qO.binds (F:qO K x qual st df f fd) (h:∀ (kV doc pm:Value) (an:Option Addr) (cdv ct:Value) (us:List Value),us.length=ps.length->bindArgs (PySem.W.fnOf x qual (iZ st) (fO st) (bA st) df kV doc pm an cdv ct) ⟨us,[]⟩=pure (ps.zip us)):jZ K fd ps []:=by
 obtain ⟨oc,od,kV,doc,pm,an,cdv,ct,osl,rfl,lk,hcd⟩:=F.ex
 exact .all (h kV doc pm an cdv ct)
theorem qO.bindsD {T:Addr} {items:Array Value} {n:Nat} (F:qO K x qual st (.ref T) f fd) (lT:K.lookup T=some o) (hd:o.data=.seq items n)
  (h:∀ (kV doc pm:Value) (an:Option Addr) (cdv ct:Value) (us:List Value),us.length=ps.length->∃ k,bindArgs (PySem.W.fnOf x qual (iZ st) (fO st) (bA st) (.ref T) kV doc pm an cdv ct) ⟨us,[]⟩=seqItems? (.ref T) >>= k/\k (some items)=pure (ps.zip us)):jZ K fd ps []:=by
 obtain ⟨oc,od,kV,doc,pm,an,cdv,ct,osl,rfl,lk,hcd⟩:=F.ex
 intro s us hK hl
 rw [List.append_nil] at hl ⊢
 obtain ⟨k,h1,h2⟩:=h kV doc pm an cdv ct us hl
 exact BindsTo.of_defaults rfl (hK _ _ lT) hd h1 h2
end
noncomputable abbrev xM (h:Heap) (z TI TO:Addr) (T:Addr) (b:Bool):Prop :=
 h.get? z=some { cls:=.type "zip",dict:=none,data:=.fields #[rawInt T,.bool b,.bool false,.ref TI,.ref TO],slots:=#[] }
section
variable {prog:Program} {w:World} {A:Around} {E:Value->Shared->Prop} {s:Shared}
theorem Hb {TI TO T:Addr} {b:Bool} {Q:Bool->Shared->Prop} (hz:xM s.heap z TI TO T b) (hT:s.heap.get? T=some o)
  (h:∀ h',xM h' z TI TO T true->Heap.SameBut z s.heap h'->Q false { s with heap:=h' }):wpAny (model prog w) A (Builtin.SmallTypes.ownedTupleIsFree (.ref z)) Q E s:=by
 unfold Builtin.SmallTypes.ownedTupleIsFree
 refine wpAny_bind (wpAny_field hz rfl (x:=rawInt T) rfl ?_)
 show wpAny _ _ (loadIfAlive (T:Int).toNat >>= _) _ _ _
 refine wpAny_bind (fun Γ p hΓ=>?_)
 unfold loadIfAlive
 rw [Sem.wp_loadIfAlive,Int.toNat_natCast,hT]
 revert Γ p hΓ
 show wpAny _ _ (pure (some o)) _ _ _
 refine wpAny_pure ?_
 show wpAny _ _ (field (.ref z) 1 >>= _) _ _ _
 refine wpAny_bind (wpAny_field hz rfl (x:=.bool b) rfl ?_)
 cases b with
 | true =>
  rw [if_neg (by decide)]
  exact wpAny_bind (wpAny_pure (wpAny_pure (h _ hz ⟨rfl,fun _ _=>rfl⟩)))
 | false =>
  rw [if_pos (by decide)]
  exact wpAny_bind (wpAny_setField_rec hz (by simp) fun h₁ hz₁ hs₁=>wpAny_pure (h h₁ hz₁ hs₁))
theorem Wr {TI TO i1 i2 l1 l2 T:Addr} {b:Bool} {xs ys:Array Value} {x y:Value} (D:ZipApart z TI TO i1 i2 l1 l2)
  (hz:xM s.heap z TI TO T b) (hT:s.heap.get? T=some o) (hTI:IsPair s.heap TI (.ref i1) (.ref i2))
  (h1:s.heap.IsListIter i1 l1 k) (h2:s.heap.IsListIter i2 l2 k) (hl1:s.heap.IsList l1 xs) (hl2:s.heap.IsList l2 ys) (hx:xs[k]?=some x) (hy:ys[k]?=some y)
  (hQ:∀ h',xM h' z TI TO T true->h'.IsListIter i1 l1 (k+1)->h'.IsListIter i2 l2 (k+1)->IsPair h' s.heap.objs.size x y ->
   (∀ c o,c≠z->c≠i1->c≠i2->s.heap.get? c=some o->h'.get? c=some o)->Q (some (.ref s.heap.objs.size)) { s with heap:=h' }) :
  wpAny (model prog w) A (pyNext (.ref z)) Q E s:=by
 have hZ:s.TypeIs (.ref z) "zip":=⟨_,hz,rfl⟩
 unfold pyNext
 refine wpAny_bind (wpAny_attempt (wpAny_callSpecial?_slot (name:=Str.ofString "__next__") hZ F.slot_zip_next (wpAny_call_entry F.slot_zip_next hZ F.entry_zip_next ?_ (F.args_zip_next_1 _))))
 show wpAny _ _ (field (.ref z) 2 >>= _) _ _ _
 refine wpAny_bind (wpAny_field hz rfl (x:=.bool false) rfl ?_)
 show wpAny _ _ (field (.ref z) 3 >>= _) _ _ _
 refine wpAny_bind (wpAny_field hz rfl (x:=.ref TI) rfl ?_)
 refine wpAny_bind (wpAny_seqItems hTI rfl ?_)
 show wpAny _ _ (Builtin.SmallTypes.ownedTupleIsFree (.ref z) >>= _) _ _ _
 refine wpAny_bind (Hb hz hT fun h₁ hz₁ hs₁=>?_)
 simp only [Bool.false_eq_true,if_false]
 refine wpAny_bind ?_
 rw [← Array.forIn_toList]
 simp only [List.forIn_cons,List.forIn_nil]
 refine wpAny_bind (wpAny_bind (wpAny_holding ?_))
 show wpAny _ _ (Builtin.SmallTypes.nextOf (.ref i1) >>= _) _ _ _
 refine wpAny_bind (wpAny_nextOf_list_item (h1.extBut hs₁.extBut D.i1z) (hl1.extBut hs₁.extBut D.l1z) hx fun h₂ h1₂ hs₂=>wpAny_pure (wpAny_pure ?_))
 refine wpAny_bind (wpAny_bind (wpAny_holding ?_))
 show wpAny _ _ (Builtin.SmallTypes.nextOf (.ref i2) >>= _) _ _ _
 refine wpAny_bind (wpAny_nextOf_list_item ((h2.extBut hs₁.extBut D.i2z).extBut hs₂.extBut D.i12.symm) ((hl2.extBut hs₁.extBut D.l2z).extBut hs₂.extBut D.l2i1) hy fun h₃ h2₃ hs₃=>wpAny_pure (wpAny_pure (wpAny_pure ?_)))
 show wpAny _ _ (newTuple [x,y] >>= _) _ _ _
 refine wpAny_bind (wpAny_newTuple (wpAny_pure ⟨_,rfl,wpAny_pure ?_⟩))
 have hsz:h₃.objs.size=s.heap.objs.size:=by rw [hs₃.1,hs₂.1,hs₁.1]
 have hz₃:=hs₃.extBut _ _ D.i2z.symm (hs₂.extBut _ _ D.i1z.symm hz₁)
 show Q (some (.ref h₃.objs.size)) _
 rw [hsz]
 refine hQ _ (Heap.get?_push_of_some _ hz₃) ((h1₂.extBut hs₃.extBut D.i12).at fun o e=>Heap.get?_push_of_some _ e) (h2₃.at fun o e=>Heap.get?_push_of_some _ e) (hsz ▸ Heap.get?_push_size _ rfl) fun c o c1 c2 c3 e=>Heap.get?_push_of_some _ (hs₃.extBut _ _ c3 (hs₂.extBut _ _ c2 (hs₁.extBut _ _ c1 e)))
theorem jJZ {TI TO i1 i2 l1 l2 T:Addr} {b:Bool} {xs:Array Value} (hh:A.handled=none) (D:ZipApart z TI TO i1 i2 l1 l2)
  (hz:xM s.heap z TI TO T b) (hT:s.heap.get? T=some o) (hTI:IsPair s.heap TI (.ref i1) (.ref i2)) (h1:s.heap.IsListIter i1 l1 k) (hl1:s.heap.IsList l1 xs) (hx:xs[k]?=none)
  (hQ:∀ h',(∀ c o,c≠z->c≠i1->s.heap.get? c=some o->h'.get? c=some o)->Q none { s with heap:=h' }):wpAny (model prog w) A (pyNext (.ref z)) Q E s:=by
 have hZ:s.TypeIs (.ref z) "zip":=⟨_,hz,rfl⟩
 unfold pyNext
 refine wpAny_bind (wpAny_attempt (wpAny_callSpecial?_slot (name:=Str.ofString "__next__") hZ F.slot_zip_next (wpAny_call_entry F.slot_zip_next hZ F.entry_zip_next ?_ (F.args_zip_next_1 _))))
 show wpAny _ _ (field (.ref z) 2 >>= _) _ _ _
 refine wpAny_bind (wpAny_field hz rfl (x:=.bool false) rfl ?_)
 show wpAny _ _ (field (.ref z) 3 >>= _) _ _ _
 refine wpAny_bind (wpAny_field hz rfl (x:=.ref TI) rfl ?_)
 refine wpAny_bind (wpAny_seqItems hTI rfl ?_)
 show wpAny _ _ (Builtin.SmallTypes.ownedTupleIsFree (.ref z) >>= _) _ _ _
 refine wpAny_bind (Hb hz hT fun h₁ hz₁ hs₁=>?_)
 simp only [Bool.false_eq_true,if_false]
 refine wpAny_bind ?_
 rw [← Array.forIn_toList]
 simp only [List.forIn_cons,List.forIn_nil]
 refine wpAny_bind (wpAny_bind (wpAny_holding ?_))
 show wpAny _ _ (Builtin.SmallTypes.nextOf (.ref i1) >>= _) _ _ _
 refine wpAny_bind (wpAny_nextOf_list_end hh (h1.extBut hs₁.extBut D.i1z) (hl1.extBut hs₁.extBut D.l1z) hx fun h₂ e hs₂ he=>?_)
 obtain ⟨oe,hoe,hce⟩:=he
 refine wpAny_bind (wpAny_isInstance (T:="StopIteration") (b:=true) ⟨oe,hoe,hce⟩ isSubtype_stop ?_)
 exact wpAny_pure (hQ _ fun c o c1 c3 x=>hs₂ _ _ c3 (hs₁.extBut _ _ c1 x))
end
section
variable {prog:Program} {w:World} {A:Around} {E:Value->Shared->Prop} {s:Shared}
theorem Mj:entryFor table "zip.__getattribute__" = some Builtin.«object.__getattribute__» :=
 entryFor_alias (id':="object.__getattribute__") (by kernel_rfl) (by decide +kernel) (by decide +kernel) (by kernel_rfl)
theorem Rq:typeLookup (.type "zip") "keys" = pure none:=by rw [typeLookup_type,builtinLookup_eq_fast];kernel_rfl
theorem Rr:typeLookup (.type "zip") "__getattr__" = pure none:=by rw [typeLookup_type,builtinLookup_eq_fast];kernel_rfl
theorem Pa (a:Addr) (fs:Array Value) (u:Tok) :
  Meets (Builtin.«object.__getattribute__» ⟨[.ref a,.str "keys" u],[]⟩) (fun A R s=>s.heap.get? a=some { cls:=.type "zip",dict:=none,data:=.fields fs,slots:=#[] }/\raisesAttr (.ref a) "keys" A R s) :=
 Meets.of_wp fun prog w A R s hs=>by
  obtain ⟨hp,g,d,tk,os⟩:=s
  obtain ⟨hx,hs⟩:=hs
  have hT:(⟨hp,g,d,tk,os⟩:Shared).TypeIs (.ref a) "zip":=⟨_,hx,rfl⟩
  have hmiss:=Rq
  unfold Builtin.«object.__getattribute__»
  repeat (any_goals (first | assumption | wp_step))
  exact wpAny_raiseAttrError hs.1 hs.2 (attrMsg_fits (by decide +kernel) (by size_fits))
theorem jJJ {fs:Array Value} (hx:s.heap.get? a=some { cls:=.type "zip",dict:=none,data:=.fields fs,slots:=#[] }) (hA:A.handled=none)
  (h:∀ h' tk,(∀ b ob,s.heap.get? b=some ob->h'.get? b=some ob)->Q none { s with heap:=h',toks:=tk }):wpAny (model prog w) A (getAttr? (.ref a) "keys") Q E s:=by
 obtain ⟨hp,g,d,tk,os⟩:=s
 have hT:∀ tk',(⟨hp,g,d,tk',os⟩:Shared).TypeIs (.ref a) "zip":=fun _=>⟨_,hx,rfl⟩
 have f1:=sub_AttributeError
 have f3:=F.slot_zip_getattribute.lookup
 have f4:=F.slot_zip_getattribute.bind (.ref a)
 have f5:=Rr
 unfold getAttr? getAttrBy? getAttrBy
 repeat (any_goals (first | assumption | exact hT _ | ((with_reducible show wpAny _ _ (call (Value.builtin "zip.__getattribute__") _ _) _ _ _);refine call_meets F.slot_zip_getattribute (hT _) Mj (F.args_zip_getattribute_2 _ _) (Pa a fs _) ⟨hx,hA,fun h' tk' e hx'=>?_⟩) | wp_step))
 obtain ⟨t',u',he⟩:=hx'.there
 show wpAny _ _ (getattributeRaised _ _ _ _ _ _ _) _ _ _
 unfold getattributeRaised
 repeat (any_goals (first | assumption | wp_step))
 exact h _ _ hx'.keeps
end
theorem Ix:entryFor table "dict.update.loop" = some Builtin.«dict.update.loop»:=entryFor_of_tree (by kernel_rfl)
theorem tF:plainId "dict.update.loop" = true:=by decide +kernel
structure ZS (N l1 l2 i:Nat) (h:Heap):Prop where
 ti:IsPair h (N+2) (.ref N) (.ref (N+1))
 h1:h.IsListIter N l1 i
 h2:h.IsListIter (N+1) l2 i
 z:(IsZip h (N+4) (N+2) (N+3) .none/\∃ u v,IsPair h (N+3) u v)∨∃ (T:Nat) (b:Bool) (o:Obj),xM h (N+4) (N+2) (N+3) T b/\h.get? T=some o/\N+6<=T
section
variable {prog:Program} {w:World} {A:Around} {E:Value->Shared->Prop} {s:Shared} {N l1 l2 i:Nat} {xs ys:Array Value}
theorem ZS.keep {h h':Heap} (Z:ZS N l1 l2 i h) (k:∀ (c:Nat) o,c≠N+5->h.get? c=some o->h'.get? c=some o):ZS N l1 l2 i h':=by
 refine ⟨k _ _ (by omega) Z.ti,Z.h1.at fun o e=>k _ o (by omega) e,Z.h2.at fun o e=>k _ o (by omega) e,?_⟩
 rcases Z.z with ⟨a,u,v,b⟩ | ⟨T,b,o,a,e,le⟩
 ·exact .inl ⟨k _ _ (by omega) a,u,v,k _ _ (by omega) b⟩
 ·exact .inr ⟨T,b,o,k _ _ (by omega) a,k _ _ (by omega) e,le⟩
theorem ZS.item {x y:Value} (b1:l1 < N) (b2:l2 < N) (Z:ZS N l1 l2 i s.heap) (d5:N+5 < s.heap.objs.size) (hl1:s.heap.IsList l1 xs) (hl2:s.heap.IsList l2 ys) (hx:xs[i]?=some x) (hy:ys[i]?=some y)
  (hQ:∀ h',ZS N l1 l2 (i+1) h'->IsPair h' s.heap.objs.size x y->(∀ (c:Nat) o,c < N∨c=N+5->s.heap.get? c=some o->h'.get? c=some o)->Q (some (.ref s.heap.objs.size)) { s with heap:=h' }):wpAny (model prog w) A (pyNext (.ref (N+4))) Q E s:=by
 have D:=xO b1 b2
 rcases Z.z with ⟨z,u,v,o⟩ | ⟨T,b,o,z,e,le⟩
 ·refine wpAny_pyNext_zip_item D z Z.ti o Z.h1 Z.h2 hl1 hl2 hx hy fun h' a1 a2 a3 a4 a5 a6 kp=>hQ h' ⟨kp _ _ D.TIz D.TITO D.TIi1 D.TIi2 Z.ti,a3,a4,.inr ⟨_,_,_,a1,a5,d5⟩⟩ a5 fun c o hc e=>kp c o ?_ ?_ ?_ ?_ e <;> (intro q;have q2:(_:Nat)=_:=q;omega)
 ·refine Wr D z e Z.ti Z.h1 Z.h2 hl1 hl2 hx hy fun h' a1 a3 a4 a5 kp=>hQ h' ⟨kp _ _ D.TIz D.TIi1 D.TIi2 Z.ti,a3,a4,.inr ⟨_,_,_,a1,kp _ _ ?_ ?_ ?_ e,le⟩⟩ a5 fun c o hc e=>kp c o ?_ ?_ ?_ e
  all_goals (intro q;have q2:(_:Nat)=_:=q)
  all_goals omega
theorem ZS.stop (hh:A.handled=none) (b1:l1 < N) (b2:l2 < N) (Z:ZS N l1 l2 i s.heap) (hl1:s.heap.IsList l1 xs) (hl2:s.heap.IsList l2 ys) (hx:xs[i]?=none)
  (hQ:∀ h',(∀ (c:Nat) o,c < N∨c=N+5->s.heap.get? c=some o->h'.get? c=some o)->Q none { s with heap:=h' }):wpAny (model prog w) A (pyNext (.ref (N+4))) Q E s:=by
 have D:=xO b1 b2
 rcases Z.z with ⟨z,u,v,o⟩ | ⟨T,b,o,z,e,le⟩
 ·refine wpAny_pyNext_zip_end hh D z Z.ti o Z.h1 Z.h2 hl1 hl2 (.inl hx) fun h' kp=>hQ h' fun c o hc e=>kp c o ?_ ?_ ?_ ?_ e <;> (intro q;have q2:(_:Nat)=_:=q;omega)
 ·refine jJZ hh D z e Z.ti Z.h1 hl1 hx fun h' kp=>hQ h' fun c o hc e=>kp c o ?_ ?_ e <;> (intro q;have q2:(_:Nat)=_:=q;omega)
end
section
variable {prog:Program} {w:World} {A:Around} {R:Result->Shared->Prop} {K:Type} [DecidableEq K] {knd:KeyKind prog w K} {s:Shared} {h0:Heap} {l1 l2:Nat} {xs ys:Array Value} {ps:List (List K×Addr×Value)}
theorem dz_loop (hl1:h0.IsList l1 xs) (hl2:h0.IsList l2 ys) (hx:∀ (i:Nat) (p:List K×Addr×Value),ps[i]?=some p->xs[i]?=some (.ref p.2.1)/\ys[i]?=some p.2.2/\(tupleKind knd).is h0 p.1 p.2.1) (hn:xs.size=ps.length) (nd:(ps.map (·.1)).Nodup) (hz:ps.length<=sizeLine) (hh:A.in1.handled=none) (hu:(tupleKind knd).room A.in1)
  (hR:∀ h' tk,(∀ b o,h0.get? b=some o->h'.get? b=some o)->h'.DictOfH (tupleKind knd) (h0.objs.size+5) ps->R (.ok (.ret .none)) { s with heap:=h',toks:=tk }) :
  ∀ (k i:Nat) (j:Int) (h:Heap) (tk:Nat),ps.length - i=k->i<=ps.length->ZS h0.objs.size l1 l2 i h->h0.objs.size+5 < h.objs.size->(∀ b o,h0.get? b=some o->h.get? b=some o)->h.DictOfH (tupleKind knd) (h0.objs.size+5) (ps.take i) ->
   codeAny (model prog w) A (Code.builtin "dict.update.loop" ⟨[Value.ref (h0.objs.size+5),.ref (h0.objs.size+4),rawInt j,.none],[]⟩) R { s with heap:=h,toks:=tk }:=by
 have lt1:l1 < h0.objs.size:=by obtain ⟨o,e,_⟩:=hl1;exact Heap.lt_size e
 have lt2:l2 < h0.objs.size:=by obtain ⟨o,e,_⟩:=hl2;exact Heap.lt_size e
 intro k
 induction k with
 | zero =>
  intro i j h tk hk hi Z hs kp hd
  have e:i=ps.length:=by omega
  subst e
  refine codeAny_builtin Ix ?_
  rw [Around.under_plainId tF _]
  show wpAny _ A.in1 (pyNext (Value.ref (h0.objs.size+4)) >>= _) _ _ _
  refine wpAny_bind (Z.stop (s:={ s with heap:=h,toks:=tk }) hh lt1 lt2 (hl1.at fun o e=>kp _ o e) (hl2.at fun o e=>kp _ o e) (by rw [Array.getElem?_eq_none (by omega)]) fun h' kp'=>?_)
  show wpAny _ A.in1 (Builtin.Dict.addKeywords (h0.objs.size+5) [] >>= _) _ _ _
  refine wpAny_bind (wpAny_pure (wpAny_pure (hR h' tk (fun b o e=>kp' b o (.inl (Heap.lt_size e)) (kp b o e)) ?_)))
  rw [List.take_length] at hd
  obtain ⟨o,es,ep,ho,hc,hdd,he,his,hnn⟩:=hd
  refine ⟨o,es,ep,kp' _ _ (.inr rfl) ho,hc,hdd,he,fun x hx'=>?_,hnn⟩
  obtain ⟨m,hm⟩:=List.getElem?_of_mem hx'
  obtain ⟨q,items,n,hq,r⟩:=(hx m x hm).2.2
  exact ⟨q,items,n,kp' _ _ (.inl (Heap.lt_size hq)) (kp _ _ hq),r⟩
 | succ k ih =>
  intro i j h tk hk hi Z hs kp hd
  have hlt:i < ps.length:=by omega
  have hp:ps[i]?=some ps[i]:=List.getElem?_eq_getElem hlt
  obtain ⟨x1,y1,k1⟩:=hx i _ hp
  refine codeAny_builtin Ix ?_
  rw [Around.under_plainId tF _]
  show wpAny _ A.in1 (pyNext (Value.ref (h0.objs.size+4)) >>= _) _ _ _
  refine wpAny_bind (Z.item (s:={ s with heap:=h,toks:=tk }) lt1 lt2 hs (hl1.at fun o e=>kp _ o e) (hl2.at fun o e=>kp _ o e) x1 y1 fun h' Z' hT kp'=>?_)
  have kp2:∀ b o,h0.get? b=some o->h'.get? b=some o:=fun b o e=>kp' b o (.inl (Heap.lt_size e)) (kp b o e)
  have hs':h.objs.size < h'.objs.size:=Heap.lt_size hT
  have T1:Shared.TypeIs { s with heap:=h',toks:=tk } (.ref h.objs.size) "tuple":=⟨_,hT,rfl⟩
  have hd':h'.DictOfH (tupleKind knd) (h0.objs.size+5) (ps.take i):=by
   obtain ⟨o,es,ep,ho,hc,hdd,he,his,hnn⟩:=hd
   refine ⟨o,es,ep,kp' _ _ (.inr rfl) ho,hc,hdd,he,fun x hx'=>?_,hnn⟩
   obtain ⟨m,hm⟩:=List.getElem?_of_mem (List.mem_of_mem_take hx')
   obtain ⟨q,items,n,hq,r⟩:=(hx m x hm).2.2
   exact ⟨q,items,n,kp2 _ _ hq,r⟩
  show wpAny _ A.in1 (holding [Value.ref h.objs.size] (tryCatch (Builtin.Dict.pairItems (.ref h.objs.size)) _ >>= _) >>= _) _ _ _
  refine wpAny_bind (wpAny_holding (wpAny_bind (wpAny_tryCatch ?_)))
  unfold Builtin.Dict.pairItems
  refine wpAny_bind (wpAny_typeOf T1 ?_)
  rw [if_pos (by decide)]
  refine wpAny_bind (wpAny_seqItems hT rfl (wpAny_pure ?_))
  show wpAny _ A.in1 (holding [Value.ref ps[i].2.1,ps[i].2.2] (dictSet (h0.objs.size+5) (.ref ps[i].2.1) ps[i].2.2)) _ _ _
  refine wpAny_holding (wpAny_dictSet_heap (s:={ s with heap:=h',toks:=tk }) (hsz:=by rw [List.length_take];omega) hu (let ⟨q,items,n,hq,r⟩:=k1;⟨q,items,n,kp2 _ _ hq,r⟩) hd' fun h2 hd2 sb=>wpAny_pure ⟨plainId_quiet tF _,?_⟩)
  refine ih (i+1) _ h2 _ (by omega) hlt (Z'.keep fun c o hc e=>sb.extBut _ _ hc e) (by rw [sb.1];exact Nat.lt_trans hs hs') (fun b o e=>sb.extBut _ _ (Nat.ne_of_lt (Nat.lt_of_lt_of_le (Heap.lt_size e) (Nat.le_add_right _ _))) (kp2 b o e)) ?_
  have none:atKey (ps.take i) ps[i].1=none:=by
   refine atKey_none_of_get fun m q hm=>?_
   have hmi:m < i:=by have:=(List.getElem?_eq_some_iff.mp hm).1;rw [List.length_take] at this;omega
   rw [List.getElem?_take_of_lt hmi] at hm
   have e:m=i:=(List.getElem?_inj (l:=ps.map (·.1)) (by rw [List.length_map];omega) nd).mp (by rw [List.getElem?_map,List.getElem?_map,hm,hp];rfl)
   omega
  rw [storedH_new none] at hd2
  rw [List.take_add_one,hp]
  exact hd2
end
section
variable {prog:Program} {w:World} {A:Around} {E:Value->Shared->Prop} {K:Type} [DecidableEq K] {knd:KeyKind prog w K} {s:Shared} {l1 l2:Nat} {xs ys:Array Value} {ps:List (List K×Addr×Value)}
theorem dz_call {h0:Heap} {Q:Value->Shared->Prop} (hs:s.heap.objs.size=h0.objs.size+5) (Z:ZS h0.objs.size l1 l2 0 s.heap) (kp:∀ b o,h0.get? b=some o->s.heap.get? b=some o) (hl1:h0.IsList l1 xs) (hl2:h0.IsList l2 ys)
  (hx:∀ (i:Nat) (p:List K×Addr×Value),ps[i]?=some p->xs[i]?=some (.ref p.2.1)/\ys[i]?=some p.2.2/\(tupleKind knd).is h0 p.1 p.2.1) (hn:xs.size=ps.length) (nd:(ps.map (·.1)).Nodup) (hz:ps.length<=sizeLine) (hh:A.handled=none) (hu:(tupleKind knd).room A.in1.in1)
  (h:∀ h' tk,(∀ b o,h0.get? b=some o->h'.get? b=some o)->h'.DictOfH (tupleKind knd) (h0.objs.size+5) ps->Q (.ref (h0.objs.size+5)) { s with heap:=h',toks:=tk }) :
  wpAny (model prog w) A (call (.type "dict") [.ref (h0.objs.size+4)]) Q E s:=by
 refine callType_codes (Q₁:=fun obj s₁=>obj=.ref s.heap.objs.size/\s₁={ s with heap:=s.heap.push { cls:=.type "dict",data:=.dict #[] } }) F.kt_called_dict (F.kt_typeCall_dict_1 _) F.entry_dict_init (kt_code_dict_new _ ⟨rfl,rfl⟩) ?_
 rintro obj s₁ ⟨rfl,rfl⟩
 have hnew:(s.heap.push { cls:=.type "dict",data:=.dict #[] }).get? s.heap.objs.size=some { cls:=.type "dict",data:=.dict #[] }:=Heap.get?_push_size _ rfl
 have tN:Shared.TypeIs { s with heap:=s.heap.push { cls:=.type "dict",data:=.dict #[] } } (.ref s.heap.objs.size) "dict":=⟨_,hnew,rfl⟩
 have hzip:s.heap.get? (h0.objs.size+4)=some { cls:=.type "zip",dict:=none,data:=.fields #[.none,.bool false,.bool false,.ref (h0.objs.size+2),.ref (h0.objs.size+3)],slots:=#[] }:=by
  rcases Z.z with ⟨z,_⟩ | ⟨T,b,o,_,e,le⟩
  ·exact z
  ·have:T < s.heap.objs.size:=Heap.lt_size e
   omega
 have hzip':(s.heap.push { cls:=.type "dict",data:=.dict #[] }).get? (h0.objs.size+4)=_:=Heap.get?_push_of_some _ hzip
 have tZ:Shared.TypeIs { s with heap:=s.heap.push { cls:=.type "dict",data:=.dict #[] } } (.ref (h0.objs.size+4)) "zip":=⟨_,hzip',rfl⟩
 refine ⟨tN,F.args_dict_init_2 _ _,?_⟩
 unfold Builtin.«dict.__init__»;refine wpAny_bind ?_;unfold Builtin.Dict.selfAndRest;refine wpAny_bind (wpAny_notOrdered_dict tN ?_)
 show wpAny _ _ (pure (s.heap.objs.size,[Value.ref (h0.objs.size+4)])) _ _ _;refine wpAny_pure ?_
 show wpAny _ _ (Builtin.Dict.updateFrom "dict.__init__" s.heap.objs.size (.ref (h0.objs.size+4)) [] .none) _ _ _;unfold Builtin.Dict.updateFrom
 refine wpAny_bind (wpAny_typeOf tZ ?_);rw [if_pos (by decide)]
 refine wpAny_bind (jJJ hzip' hh fun h' tk kp'=>?_)
 rw [if_pos (by rfl)]
 refine wpAny_bind (wpAny_rule ?_)
 have kp2:∀ b o,s.heap.get? b=some o->h'.get? b=some o:=fun b o e=>kp' b o (Heap.get?_push_of_some _ e)
 refine wpAny_bind (wpAny_pyIter_zip (kp2 _ _ hzip) (wpAny_pure ⟨plainId_quiet tF _,?_⟩))
 rw [hs]
 rw [hs] at hnew
 have hd5:=kp' _ _ hnew
 refine dz_loop (A:=A.in1) (s:=s) hl1 hl2 hx hn nd hz hh hu (fun h2 tk2 kp3 hd=>?_) _ 0 0 h' tk rfl (Nat.zero_le _) (Z.keep fun c o _ e=>kp2 c o e) (Heap.lt_size hd5) (fun b o e=>kp2 b o (kp b o e)) ⟨_,_,_,hd5,⟨rfl,rfl,rfl⟩,rfl,rfl,(fun x hx=>nomatch hx),List.nodup_nil⟩
 exact ⟨rfl,h h2 tk2 kp3 hd⟩
end
noncomputable def Zn (K:PySem.W.Frag) (t:TA):TE:=fun σ H Q=>t σ H fun vs H1=>∃ (a b:Addr) (ks:List (List Key)) (qs:List Addr) (ys:List V),vs=[.ref a,.ref b]/\SqL K H1 a (qs.map V.ref)/\SqL K H1 b ys/\qs.length=ks.length/\ys.length=ks.length /\
 (∀ (i:Nat) q k,qs[i]?=some q->ks[i]?=some k->H1 q=some (.tup (k.map kV)))/\ks.Nodup/\∀ p,H1 p=none->Q (.ref p) (upd H1 p (.dT (ks.zip ys)))
theorem kt_zip {H:Hp}:∀ {ks:List (List Key)} {qs:List Addr} {ys:List V} {us:List Value},qs.length=ks.length->bO ys us->ys.length=ks.length->(∀ (i:Nat) q k,qs[i]?=some q->ks[i]?=some k->H q=some (.tup (k.map kV)))->KT H (ks.zip ys) (ks.zip (qs.zip us))
 | [],[],_,_,_,_,_,_=>.nil
 | [],_ :: _,_,_,h,_,_,_=>nomatch h
 | _ :: _,[],_,_,h,_,_,_=>nomatch h
 | _ :: _,_ :: _,_,_,_,.nil,h,_=>nomatch h
 | k :: ks,q :: qs,_,_,h1,.cons r rs,h2,h3=>.cons ⟨rfl,h3 0 q k rfl rfl,r⟩ (kt_zip (Nat.succ.inj h1) rs (Nat.succ.inj h2) fun i q k e1 e2=>h3 (i+1) q k e1 e2)
theorem jJX {α β γ:Type} {ks:List α} {qs:List β} {us:List γ} {p:α×β×γ} (h:(ks.zip (qs.zip us))[i]?=some p):ks[i]?=some p.1/\qs[i]?=some p.2.1/\us[i]?=some p.2.2:=by
 rw [List.getElem?_zip_eq_some,List.getElem?_zip_eq_some] at h
 exact h
section
variable {X:Cx}
theorem pe_dzip {a b:Expr} {t:TA} {p1 p2 pos1 pos2:Pos} (hu:X.A.units+64 < cLine) (hg1:Gl X "dict") (hm1:X.mg "dict" = none) (hg2:Gl X "zip") (hm2:X.mg "zip" = none) (hc:X.calm=true) (hl:PA X [a,b] t)
  (hs1:starEach [.Call (.Name "zip" p2) [a,b] [] pos2] X.env=[(false,eval (.Call (.Name "zip" p2) [a,b] [] pos2) X.env)]:=by rfl)
  (he:starEach (a :: [b]) X.env=(false,eval a X.env) :: starEach [b] X.env:=by rfl) (hpl:(backTo pos2 (starEach [b] X.env)).any (·.1)=false:=by rfl) :
  PE X (.Call (.Name "dict" p1) [.Call (.Name "zip" p2) [a,b] [] pos2] [] pos1) (Zn X.K t):=by
 intro pins s σ H Q I h
 refine Call_ (lC I hg1 hm1 bt_dict (PyProof.Rows.callWith_type1 (spliced_more ?_ (by rw [hs1];rfl)) hs1 rfl))
 refine Call_ (lC I hg2 hm2 bt_zip (PyProof.Rows.callWith_type1 (thn (hl pos2 pins s σ H _ I h) fun us s1 ⟨vs,H1,I1,r1,q1⟩=>?_) he hpl))
 obtain ⟨l1,l2,ks,qs,ys,e0,hq,hr,lq,ly,hk,nd,q⟩:=q1
 subst e0
 cases r1 with
 | cons ra r1 =>
 cases r1 with
 | cons rb r1 =>
 cases r1
 cases ra
 cases rb
 obtain ⟨its,rv,pl,hz1⟩:=I1.list hq
 obtain ⟨jts,sv,pm,hz2⟩:=I1.list hr
 have e1:=rv.length
 have e2:=sv.length
 rw [List.length_map] at e1
 refine call_zip_2 pl.isList pm.isList fun g hz hTI hTO h1 h2 hsz kp=>spliced_none ?_
 have kq:∀ i q,qs[i]?=some q->its[i]?=some (Value.ref q):=fun i q e=>by
  obtain ⟨u,hu,ru⟩:=rv.get (i:=i) (x:=V.ref q) (by rw [List.getElem?_map,e];rfl)
  cases ru
  exact hu
 have lp:(ks.zip (qs.zip jts)).length=ks.length:=by rw [List.length_zip,List.length_zip];omega
 refine dz_call (knd:=eS X.prog X.w) (h0:=s1.heap) (s:={ s1 with heap:=g }) (l1:=l1) (l2:=l2) (xs:=its.toArray) (ys:=jts.toArray) (ps:=ks.zip (qs.zip jts)) hsz ⟨hTI,h1,h2,.inl ⟨hz,_,_,hTO⟩⟩ kp pl.isList pm.isList (fun i p hp=>?_) (by rw [List.size_toArray,lp];omega) ?_ (by rw [List.length_map] at hz1;omega) (I1.ok.hd hc) (by show X.A.units+1+1 < cLine;omega) fun h' tk kp' hd=>?_
 ·obtain ⟨a1,a2,a3⟩:=jJX hp
  exact ⟨by simpa using kq i _ a2,by simpa using a3,Cv I1.hok (hk i _ _ a2 a1)⟩
 ·rw [List.map_fst_zip (by rw [List.length_zip];omega)];exact nd
 ·obtain ⟨o,es,ep,ho,hcl,hdd,hes,his,hn⟩:=hd
  refine ⟨.ref _,_,I1.laid (t':=tk) (o:=.dT (ks.zip ys)) kp' (Nat.le_add_right _ 5) ⟨by rw [List.length_zip];rw [List.length_map] at hz1;omega,?_,_,(kt_zip lq sv ly hk).keeps fun c zs e=>?_,o,es,ep,ho,hcl,hdd,hes,hn⟩,rfl,q _ (I1.hok.fresh (Nat.le_add_right _ 5))⟩
  ·have:=I1.big
   exact beq_false_of_ne (Nat.ne_of_gt (Nat.lt_of_lt_of_le this (Nat.le_add_right _ 5)))
  ·rw [aR (bI e (I1.hok.fresh (Nat.le_add_right _ 5)))];exact e
end
end L2
namespace L2
open PySem PyProof.Rows
variable {Q:Option Nat->SortSt->Prop} {i j:Nat} {vs:List Value} {xs:Array Keyed}
section
variable {M:Model} {A:Around} {E:Value->Shared->Prop} {s:Shared} {kf:Value->Int} {kd:SortKind} {a₀:Array Keyed} {st:SortSt} {n:Nat}
noncomputable def kv (kf:Value->Int) (xs:Array Keyed) (i:Nat):Int:=match xs[i]? with
 | some p=>kf p.1
 | none=>0
theorem Nb {ys:Array Keyed} (h:xs[i]?=ys[j]?):kv kf xs i=kv kf ys j:=by unfold kv;rw [h]
theorem kv_bub {p d:Nat} (hs:p < xs.size) (hd:d<=p) (k:Nat):kv kf (bubble xs p d) k=if k=p - d then kv kf xs p else if p - d < k/\k<=p then kv kf xs (k - 1) else kv kf xs k:=by
 have e:=getElem?_bubble hs d hd k
 split <;> rename_i a
 ·rw [if_pos a] at e;exact Nb e
 ·rw [if_neg a] at e
  split <;> rename_i b
  ·rw [if_pos b] at e;exact Nb e
  ·rw [if_neg b] at e;exact Nb e
theorem Rh (hj:j<=xs.size) (k:Nat):kv kf (mirror xs i j ((j - i) / 2)) k=if i<=k/\k < j then kv kf xs (i+j - 1 - k) else kv kf xs k:=by
 have e:=getElem?_mirror_all (i:=i) hj k
 split <;> rename_i a
 ·rw [if_pos a] at e;exact Nb e
 ·rw [if_neg a] at e;exact Nb e
structure Sg (kd:SortKind) (a₀:Array Keyed) (st:SortSt):Prop where
 perm:(arrOf st).Perm a₀
 kind:kindOf st=kd
 good:failedOf st=none
 none:pendingOf st=#[]
theorem Sg.put (B:Sg kd a₀ st) (h:xs.Perm (arrOf st)):Sg kd a₀ (setArr st xs):=⟨h.trans B.perm,B.kind,B.good,B.none⟩
theorem Sg.size (B:Sg kd a₀ st):(arrOf st).size=a₀.size:=B.perm.size_eq
noncomputable def Up (f:Nat->Int) (k:Nat):Prop:=∀ i j,i<=j->j < k->f i<=f j
theorem Up.one (f:Nat->Int):Up f 1:=fun i j h k=>by rw [show i=0 by omega,show j=0 by omega];exact Int.le_refl _
theorem Up.snoc {f:Nat->Int} {x:Nat} (u:Up f x) (h:x=0∨f (x - 1)<=f x):Up f (x+1):=by
 intro i j a b
 by_cases c:j < x
 ·exact u i j a c
 ·obtain rfl:j=x:=by omega
  by_cases d:i=j
  ·rw [d];exact Int.le_refl _
  ·exact Int.le_trans (u i (j - 1) (by omega) (by omega)) (h.resolve_left (by omega))
noncomputable abbrev LtH (M:Model) (A:Around) (E:Value->Shared->Prop) (s:Shared) (kf:Value->Int) (kd:SortKind) (a₀:Array Keyed):Prop :=
 ∀ {st:SortSt} {i j:Nat} {Q:Option Bool->SortSt->Prop},Sg kd a₀ st->i < a₀.size->j < a₀.size->Q (some (decide (kv kf (arrOf st) i < kv kf (arrOf st) j))) st->wpS M A E s (ltAt' i j) Q st
theorem s_asc (L:LtH M A E s kf kd a₀) {Q:AscSt->SortSt->Prop} (B:Sg kd a₀ st) (h1:1<=n) (hn:n<=a₀.size) (u:Up (kv kf (arrOf st)) n)
  (h:∀ m,n<=m->m<=a₀.size->Up (kv kf (arrOf st)) m->(m=a₀.size∨kv kf (arrOf st) m < kv kf (arrOf st) (m - 1))->Q (none,m) st):wpS M A E s (ascLoop n a₀.size) Q st:=by
 unfold ascLoop
 refine wpS_forRange (I:=fun x c t=>t=st/\c=(none,x)/\Up (kv kf (arrOf st)) x) ?_ ?_ ⟨rfl,rfl,u⟩
 ·rintro x c t a b ⟨rfl,rfl,u⟩
  refine wpS_bind (L B (by omega) (by omega) ?_)
  by_cases e:kv kf (arrOf t) x < kv kf (arrOf t) (x - 1)
  ·simp only [e,decide_true,if_true]
   exact wpS_pure (h x a (by omega) u (.inr e))
  ·simp only [e,decide_false,Bool.false_eq_true,if_false]
   exact wpS_pure ⟨rfl,rfl,u.snoc (.inr (by omega))⟩
 ·rintro c t ⟨rfl,rfl,u⟩
  rw [Nat.max_eq_right hn] at u ⊢
  exact h _ hn (Nat.le_refl _) u (.inl rfl)
noncomputable abbrev Dn (f:Nat->Int) (k:Nat):Prop:=Up (fun i=>- f i) k
theorem s_tail (L:LtH M A E s kf kd a₀) (B:Sg kd a₀ st) (h1:1<=n) (hn:n<=a₀.size) (u:Dn (kv kf (arrOf st)) n)
  (h:∀ m st,Sg kd a₀ st->1<=m->m<=a₀.size->Up (kv kf (arrOf st)) m->Q (some m) st):wpS M A E s (tail3 n a₀.size) Q st:=by
 unfold tail3
 have z:n<=(arrOf st).size:=by rw [B.size];omega
 rw [reverseSlice'_eq]
 refine wpS_bind (wpS_modify ?_)
 have B':=B.put (mirror_perm (arrOf st) 0 n ((n - 0) / 2))
 refine wpS_bind (s_asc L B' h1 hn ?_ fun m a b u _=>wpS_pure (h m _ B' (by omega) b u))
 intro i j a b
 show kv kf (mirror (arrOf st) 0 n ((n - 0) / 2)) i<=kv kf (mirror (arrOf st) 0 n ((n - 0) / 2)) j
 rw [Rh z,Rh z,if_pos (by omega),if_pos (by omega)]
 exact Int.neg_le_neg_iff.mp (u (0+n - 1 - j) (0+n - 1 - i) (by omega) (by omega))
theorem Kx (hj:j<=xs.size) (he:∀ k,i<=k->k < j->kv kf xs k=kv kf xs (j - 1)):kv kf (mirror xs i j ((j - i) / 2))=kv kf xs:=by
 funext k
 rw [Rh hj]
 split
 ·rw [he _ (by omega) (by omega),he k (by omega) (by omega)]
 ·rfl
theorem s_desc (L:LtH M A E s kf kd a₀) (B:Sg kd a₀ st) (hn:n+1<=a₀.size) (u:Dn (kv kf (arrOf st)) (n+1))
  (h:∀ m st,Sg kd a₀ st->1<=m->m<=a₀.size->Up (kv kf (arrOf st)) m->Q (some m) st):wpS M A E s (descPart n a₀.size) Q st:=by
 unfold descPart descLoop
 refine wpS_bind (wpS_lift (wpAny_rule ⟨rfl,?_⟩))
 have fin:∀ {m q:Nat} {st:SortSt},Sg kd a₀ st->1<=m->m<=a₀.size->Dn (kv kf (arrOf st)) m->(∀ i,m - (q+1)<=i->i < m->kv kf (arrOf st) i=kv kf (arrOf st) (m - 1)) ->
   wpS M A E s (if q > 0 then do reverseSlice' (m - (q+1)) m;tail3 m a₀.size else tail3 m a₀.size) Q st:=by
  intro m q st B a b u e
  split
  ·rw [reverseSlice'_eq]
   refine wpS_bind (wpS_modify (s_tail L (B.put (mirror_perm ..)) a b ?_ h))
   show Dn (kv kf (mirror (arrOf st) (m - (q+1)) m ((m - (m - (q+1))) / 2))) m
   rw [Kx (by rw [B.size];omega) e];exact u
  ·exact s_tail L B a b u h
 refine wpS_bind (wpS_mono (wpS_forRange (I:=fun x c t=>∃ q,c=(none,x,q)/\Sg kd a₀ t/\Dn (kv kf (arrOf t)) x/\q+1<=x/\∀ i,x - (q+1)<=i->i < x->kv kf (arrOf t) i=kv kf (arrOf t) (x - 1))
  (Q:=fun c t=>∃ m q,c=(none,m,q)/\Sg kd a₀ t/\1<=m/\m<=a₀.size/\Dn (kv kf (arrOf t)) m/\∀ i,m - (q+1)<=i->i < m->kv kf (arrOf t) i=kv kf (arrOf t) (m - 1))
  ?_ ?_ ⟨0,rfl,B,u,by omega,fun i a b=>by rw [show i=n by omega];rfl⟩) ?_)
 ·rintro x c t a b ⟨q,rfl,B,u,hq,e⟩
  dsimp only
  refine wpS_bind (L B (by omega) (by omega) ?_)
  by_cases c:kv kf (arrOf t) x < kv kf (arrOf t) (x - 1)
  ·simp only [c,decide_true,if_true]
   have u':Dn (kv kf (arrOf t)) (x+1):=u.snoc (.inr (by omega))
   split
   ·rw [reverseSlice'_eq]
    refine wpS_bind (wpS_modify (wpS_pure ⟨0,rfl,B.put (mirror_perm ..),?_,by omega,fun i a b=>by rw [show i=x by omega];rfl⟩))
    show Dn (kv kf (mirror (arrOf t) (x - (q+1)) x ((x - (x - (q+1))) / 2))) (x+1)
    rw [Kx (by rw [B.size];omega) e];exact u'
   ·exact wpS_pure ⟨0,rfl,B,u',by omega,fun i a b=>by rw [show i=x by omega];rfl⟩
  ·simp only [c,decide_false,Bool.false_eq_true,if_false]
   refine wpS_bind (L B (by omega) (by omega) ?_)
   by_cases d:kv kf (arrOf t) (x - 1) < kv kf (arrOf t) x
   ·simp only [d,decide_true,if_true]
    exact wpS_pure ⟨x,q,rfl,B,by omega,by omega,u,e⟩
   ·simp only [d,decide_false,Bool.false_eq_true,if_false]
    have g:kv kf (arrOf t) x=kv kf (arrOf t) (x - 1):=by omega
    refine wpS_pure ⟨q+1,rfl,B,u.snoc (.inr (by omega)),by omega,fun i a b=>?_⟩
    rw [show x+1 - 1=x by omega]
    by_cases k:i=x
    ·rw [k]
    ·rw [g];exact e i (by omega) (by omega)
 ·rintro c t ⟨q,rfl,B,u,hq,e⟩
  rw [Nat.max_eq_right hn] at u hq e ⊢
  exact ⟨_,q,rfl,B,by omega,Nat.le_refl _,u,e⟩
 ·rintro c t ⟨m,q,rfl,B,a,b,u,e⟩
  exact fin B a b u e
theorem s_run (L:LtH M A E s kf kd a₀) (B:Sg kd a₀ st) (h0:1<=a₀.size)
  (h:∀ m st,Sg kd a₀ st->1<=m->m<=a₀.size->Up (kv kf (arrOf st)) m->Q (some m) st):wpS M A E s (countRun' 0 a₀.size) Q st:=by
 rw [countRun0_eq]
 refine wpS_bind (s_asc L B (Nat.le_refl _) h0 (Up.one _) fun n a b u o=>?_)
 dsimp only
 by_cases c:n=a₀.size
 ·rw [if_pos (by simpa using c)]
  exact wpS_pure (h n st B a b u)
 ·rw [if_neg (by simpa using c)]
  have o:=o.resolve_left c
  by_cases g:n > 1
  ·rw [if_pos g]
   refine wpS_bind (L B (by omega) (by omega) ?_)
   by_cases d:kv kf (arrOf st) 0 < kv kf (arrOf st) (n - 1)
   ·simp only [d,decide_true,if_true]
    exact wpS_pure (h n st B a b u)
   ·simp only [d,decide_false,Bool.false_eq_true,if_false]
    have e:∀ k,0<=k->k < n->kv kf (arrOf st) k=kv kf (arrOf st) (n - 1):=fun k _ l=>by
     have:=u 0 k (by omega) l
     have:=u k (n - 1) (by omega) (by omega)
     omega
    rw [reverseSlice'_eq]
    refine wpS_bind (wpS_modify (s_desc L (B.put (mirror_perm ..)) (by omega) ?_ h))
    show Dn (kv kf (mirror (arrOf st) 0 n ((n - 0) / 2))) (n+1)
    rw [Kx (by rw [B.size];omega) e]
    refine Up.snoc (fun i j x y=>?_) (.inr (by omega))
    have:=e i (by omega) (by omega)
    have:=e j (by omega) y
    omega
  ·rw [if_neg g]
   obtain rfl:n=1:=by omega
   exact s_desc L B (by omega) ((Up.one _).snoc (.inr (by omega))) h
theorem s_ins (L:LtH M A E s kf kd a₀) {Q:Bool->SortSt->Prop} (B:Sg kd a₀ st) (hn:n<=a₀.size) (u:Up (kv kf (arrOf st)) n)
  (h:∀ st,Sg kd a₀ st->Up (kv kf (arrOf st)) a₀.size->Q true st):wpS M A E s (binarySort' 0 a₀.size n) Q st:=by
 rw [binarySort'_eq]
 simp only [Nat.zero_add]
 refine wpS_bind (wpS_mono (wpS_forRange (I:=fun k c t=>c=(none,())/\Sg kd a₀ t/\Up (kv kf (arrOf t)) (min k a₀.size)) (Q:=fun c t=>c=(none,())/\Sg kd a₀ t/\Up (kv kf (arrOf t)) a₀.size) ?_ ?_ ?_) ?_)
 ·rintro k c t a b ⟨rfl,B,u⟩
  rw [Nat.min_eq_left (by omega)] at u
  have hk:k < (arrOf t).size:=by rw [B.size];exact b
  refine wpS_bind (wpS_mono (wpS_forRange (I:=fun x c t'=>t'=t/\∃ l r,c=(none,l,r)/\l<=r/\r<=k/\r - l<=k - x/\(∀ i,i < l->kv kf (arrOf t) i<=kv kf (arrOf t) k)/\∀ i,r<=i->i < k->kv kf (arrOf t) k < kv kf (arrOf t) i)
   (Q:=fun c t'=>t'=t/\∃ l r,c=(none,l,r)/\l<=k/\(∀ i,i < l->kv kf (arrOf t) i<=kv kf (arrOf t) k)/\∀ i,l<=i->i < k->kv kf (arrOf t) k < kv kf (arrOf t) i) ?_ ?_ ?_) ?_)
  ·rintro x c t' _ _ ⟨rfl,l,r,rfl,e1,e2,e3,lo,hi⟩
   dsimp only
   by_cases g:l ≥ r
   ·rw [if_pos g]
    obtain rfl:l=r:=by omega
    exact wpS_pure ⟨rfl,l,l,rfl,e2,lo,hi⟩
   ·rw [if_neg g]
    refine wpS_bind (L B b (by omega) ?_)
    by_cases d:kv kf (arrOf t') k < kv kf (arrOf t') ((l+r) / 2)
    ·simp only [d,decide_true,if_true]
     exact wpS_pure ⟨rfl,l,(l+r) / 2,rfl,by omega,by omega,by omega,lo,fun i p q=>by have:=u _ i p q;omega⟩
    ·simp only [d,decide_false,Bool.false_eq_true,if_false]
     exact wpS_pure ⟨rfl,(l+r) / 2+1,r,rfl,by omega,by omega,by omega,fun i p=>by have:=u i ((l+r) / 2) (by omega) (by omega);omega,hi⟩
  ·rintro c t' ⟨rfl,l,r,rfl,e1,e2,e3,lo,hi⟩
   obtain rfl:l=r:=by omega
   exact ⟨rfl,l,l,rfl,e2,lo,hi⟩
  ·exact ⟨rfl,0,k,rfl,by omega,by omega,by omega,fun i p=>by omega,fun i p q=>by omega⟩
  ·rintro c t' ⟨rfl,l,r,rfl,e1,lo,hi⟩
   show wpS _ _ _ _ (do moveDown' k l;pure (ForInStep.yield (none,()))) _ _
   rw [moveDown'_eq]
   refine wpS_bind (wpS_modify (wpS_pure ⟨rfl,B.put (bubble_perm ..),?_⟩))
   rw [Nat.min_eq_left (by omega)]
   intro i j p q
   show kv kf (bubble (arrOf t') k (k - l)) i<=kv kf (bubble (arrOf t') k (k - l)) j
   rw [kv_bub hk (by omega),kv_bub hk (by omega),show k - (k - l)=l by omega]
   repeat' split
   all_goals first
    | (exfalso;omega)
    | exact Int.le_refl _
    | exact lo _ (by omega)
    | exact Int.le_of_lt (hi _ (by omega) (by omega))
    | exact u _ _ (by omega) (by omega)
 ·rintro c t ⟨e,B,u⟩
  rw [Nat.min_eq_right (by omega)] at u
  exact ⟨e,B,u⟩
 ·refine ⟨rfl,B,?_⟩
  by_cases z:n=0
  ·intro i j p q;rw [show i=j by omega];exact Int.le_refl _
  ·rw [Nat.max_eq_left (by omega),Nat.min_eq_left hn];exact u
 ·rintro c t ⟨rfl,B,u⟩
  exact wpS_pure (h t B u)
theorem s_sort (L:LtH M A E s kf kd a₀) {Q:Unit->SortSt->Prop} (B:Sg kd a₀ st) (h2:1<=a₀.size) (h64:a₀.size < 64)
  (h:∀ st,(arrOf st).Perm a₀->failedOf st=none->Up (kv kf (arrOf st)) a₀.size->Q () st):wpS M A E s sortRuns' Q st:=by
 rw [sortRuns'_eq]
 refine wpS_bind (wpS_get ?_)
 dsimp only
 have r:minRun' a₀.size a₀.size 0=a₀.size:=by
  cases z:a₀.size with
  | zero=>omega
  | succ f=>rw [minRun'_succ,if_pos (by omega)]
 simp only [B.size,r]
 refine wpS_bind (wpS_mono (wpS_forRange (I:=fun x c t=>(x=0/\c=(none,0)/\Sg kd a₀ t)∨(1<=x/\c=(none,a₀.size)/\(arrOf t).Perm a₀/\failedOf t=none/\(pendingOf t).size=1/\Up (kv kf (arrOf t)) a₀.size))
  (Q:=fun c t=>c=(none,a₀.size)/\(arrOf t).Perm a₀/\failedOf t=none/\(pendingOf t).size=1/\Up (kv kf (arrOf t)) a₀.size) ?_ ?_ (.inl ⟨rfl,rfl,B⟩)) ?_)
 ·rintro x c t _ _ (⟨rfl,rfl,B⟩ | ⟨_,rfl,D⟩)
  ·dsimp only
   rw [if_neg (by omega)]
   simp only [Nat.sub_zero,Nat.min_self,Nat.zero_add]
   refine wpS_bind (s_run L B h2 fun m t B a b u=>?_)
   dsimp only
   have fin:∀ t:SortSt,Sg kd a₀ t->Up (kv kf (arrOf t)) a₀.size->(arrOf (setPending t ((pendingOf t).push (0,a₀.size,0)))).Perm a₀/\failedOf (setPending t ((pendingOf t).push (0,a₀.size,0)))=none/\(pendingOf (setPending t ((pendingOf t).push (0,a₀.size,0)))).size=1/\Up (kv kf (arrOf (setPending t ((pendingOf t).push (0,a₀.size,0))))) a₀.size :=
    fun t B u=>⟨B.perm,B.good,by show ((pendingOf t).push _).size=1;rw [B.none];rfl,u⟩
   by_cases l:m < a₀.size
   ·rw [if_pos l]
    refine wpS_bind (wpS_lift (wpAny_rule ⟨rfl,?_⟩))
    refine wpS_bind (s_ins L B b u fun t B u=>?_)
    simp only [Bool.not_true,Bool.false_eq_true,if_false]
    refine wpS_bind (wpS_get ?_)
    rw [show (pendingOf t).back?=none by rw [B.none];rfl]
    exact wpS_bind (wpS_modify (wpS_pure (.inr ⟨by omega,rfl,fin t B u⟩)))
   ·rw [if_neg l]
    obtain rfl:m=a₀.size:=by omega
    refine wpS_bind (wpS_get ?_)
    rw [show (pendingOf t).back?=none by rw [B.none];rfl]
    exact wpS_bind (wpS_modify (wpS_pure (.inr ⟨by omega,rfl,fin t B u⟩)))
  ·dsimp only
   rw [if_pos (Nat.le_refl _)]
   exact wpS_pure ⟨rfl,D⟩
 ·rintro c t (⟨z,_⟩ | ⟨_,D⟩)
  ·omega
  ·exact D
 ·rintro c t ⟨rfl,p,f,z,u⟩
  dsimp only
  refine wpS_bind (wpS_mono (wpS_forRange (I:=fun _ c t'=>t'=t/\c=(none,())) (Q:=fun c t'=>t'=t/\c=(none,())) ?_ (fun _ _ e=>e) ⟨rfl,rfl⟩) ?_)
  ·rintro x c t' _ _ ⟨rfl,rfl⟩
   refine wpS_bind (wpS_get ?_)
   rw [if_pos (by rw [z];exact Nat.le_refl 1)]
   exact wpS_pure ⟨rfl,rfl⟩
  ·rintro c t' ⟨rfl,rfl⟩
   exact wpS_pure (h _ p f u)
end
section
variable {P:Program} {w:World} {A:Around} {E:Value->Shared->Prop} {s:Shared}
noncomputable def Ms (h:Heap) (v:Value) (a b:Int):Prop:=∃ x t u,v=.ref x/\IsTup h x #[.int a t,.int b u]
theorem Ib {a b:Int} {t u:Tok} {k:Bool} {Q:Bool->Shared->Prop} (h:Q (decide (a < b)) s):wpAny (model P w) A (oneLt' k (.int a t) (.int b u)) Q E s:=by
 cases k
 ·rw [oneLt'_eq]
  simp only [Bool.false_eq_true,if_false]
  exact wpAny_bind (wpAny_richCompare_same (op:=.Lt) (typeIs_int s a t) (typeIs_int s b u) slot_int_lt (call_int_lt ⟨by simp,wpAny_truthy_bool h⟩))
 ·exact oneLt_int h
theorem Yb (b:Bool) (x y:Value):keyLt' (tuples' b) x y=(do
  let xs ← Builtin.List.listItems x
  let ys ← Builtin.List.listItems y
  for ((p,q),i) in (xs.toList.zip ys.toList).zipIdx do
   if !(← eqBool p q) then return ← oneLt' (b && i == 0) p q
  return xs.size < ys.size):=rfl
theorem jJ7 {k:Bool} {x y:Value} {a b c d:Int} {Q:Bool->Shared->Prop} (hx:Ms s.heap x a b) (hy:Ms s.heap y c d) (h:Q (decide (a < c∨a=c/\b < d)) s):wpAny (model P w) A (keyLt' (tuples' k) x y) Q E s:=by
 obtain ⟨x,t,u,rfl,o,ho,hc,n,hd⟩:=hx
 obtain ⟨y,t',u',rfl,o',ho',hc',n',hd'⟩:=hy
 rw [Yb]
 refine wpAny_bind (listItems_at ho hd (wpAny_bind (listItems_at ho' hd' ?_)))
 simp only [List.zip_cons_cons,List.zip_nil_left,List.zipIdx_cons,List.zipIdx_nil,List.forIn_cons,List.forIn_nil,bind_assoc,Nat.zero_add]
 refine wpAny_bind (wpAny_eqBool_int ?_)
 by_cases e:a=c
 ·simp only [e,beq_self_eq_true,Bool.not_true,Bool.false_eq_true,if_false,pure_bind]
  refine wpAny_bind (wpAny_bind (wpAny_eqBool_int ?_))
  by_cases g:b=d
  ·simp only [g,beq_self_eq_true,Bool.not_true,Bool.false_eq_true,if_false,pure_bind]
   refine wpAny_pure (wpAny_pure ?_)
   rw [e,g] at h
   simpa using h
  ·simp only [beq_eq_false_iff_ne.mpr g,Bool.not_false,if_true,bind_assoc,pure_bind]
   refine wpAny_bind (Ib (wpAny_pure (wpAny_pure ?_)))
   rw [e] at h
   simpa using h
 ·simp only [beq_eq_false_iff_ne.mpr e,Bool.not_false,if_true,bind_assoc,pure_bind]
  refine wpAny_bind (Ib (wpAny_pure ?_))
  simpa [e] using h
theorem Iq:∀ {vs:List Value},(∀ v∈vs,∃ a b,Ms s.heap v a b)->∀ {Q:List (Option Value)->Shared->Prop},(∀ is:List Int,is.length=vs.length->∀ us:List Value,IntsAre us is->Q (us.map some) s)->wpAny (model P w) A (vs.mapM firstOfTuple') Q E s
 | [],_,_,h=>by simp only [List.mapM_nil];exact wpAny_pure (h [] rfl [] .nil)
 | v :: vs,hv,Q,h=>by
  rw [List.mapM_cons]
  obtain ⟨a,b,x,t,u,rfl,o,ho,hc,n,hd⟩:=hv v (List.mem_cons_self ..)
  refine wpAny_bind (m:=firstOfTuple' (.ref x)) ?_
  show wpAny _ _ (do
   if (← typeOf (.ref x)) != .type "tuple" then return none
   return (← Builtin.List.listItems (.ref x))[0]?) _ _ _
  refine wpAny_bind (wpAny_typeOf (T:="tuple") ⟨o,ho,hc⟩ ?_)
  rw [if_neg (by simp)]
  refine wpAny_bind (listItems_at ho hd (wpAny_pure ?_))
  refine wpAny_bind (Iq (fun v h=>hv v (List.mem_cons_of_mem _ h)) fun is e us i=>wpAny_pure ?_)
  exact h (a :: is) (by rw [List.length_cons,List.length_cons,e]) (.int a t :: us) (.cons a t i)
theorem kind_pr {v₁:Value} (hv:∀ v∈v₁ :: vs,∃ a b,Ms s.heap v a b) {Q:SortKind->Shared->Prop} (h:Q (tuples' true) s):wpAny (model P w) A (keyKind' (v₁ :: vs).toArray) Q E s:=by
 rw [keyKind'_eq,List.mapM_toArray]
 refine wpAny_bind (wpAny_map ?_)
 refine Iq hv fun is e us i=>?_
 obtain ⟨us,a,t,rfl⟩:∃ us' a t,us=Value.int a t :: us':=by
  cases i with
  | nil=>cases e
  | cons a t i=>exact ⟨_,a,t,rfl⟩
 rw [if_pos (by simp)]
 refine wpAny_bind (wpAny_rule ?_)
 have z:((Value.int a t :: us).map some).toArray.filterMap id=(Value.int a t :: us).toArray:=by simp
 rw [z,oneTypeOnly'_eq,List.mapM_toArray,mapM_typeOf_ints i]
 simp only [map_pure,pure_bind]
 have al:((List.map (fun _=>Value.type "int") (Value.int a t :: us)).toArray.all fun x=>x == Value.type "int")=true:=by
  simp only [List.all_toArray,List.all_map,List.all_eq_true]
  intro _ _
  rfl
 have h0:(List.map (fun _=>Value.type "int") (Value.int a t :: us)).toArray[0]?=some (Value.type "int"):=by simp
 rw [h0]
 simp only [al,if_true,pure_bind]
 exact wpAny_pure h
end
section
variable {P:Program} {w:World} {A:Around} {E:Value->Shared->Prop} {s:Shared} {kf:Value->Int}
theorem Ms.keep {h h':Heap} {a:Addr} {xs:Array Value} {n:Nat} (ho:h.get? a=some (seqObj "list" xs n)) (k:∀ b o,b≠a->h.get? b=some o->h'.get? b=some o) {v:Value} {x y:Int}:Ms h v x y->Ms h' v x y:=by
 rintro ⟨b,t,u,rfl,o,hb,hc,m,hd⟩
 refine ⟨b,t,u,rfl,o,k b o ?_ hb,hc,m,hd⟩
 rintro rfl
 rw [ho] at hb
 obtain rfl:=Option.some.inj hb
 exact absurd (Value.type.inj hc) (by decide)
noncomputable abbrev PrK (kf:Value->Int) (h:Heap) (v:Value):Prop:=∃ a b,Ms h v a b/\kf v=1000 * a+b/\-500 < b/\b < 500
theorem lt_pr {a₀:Array Keyed} (hv:∀ p∈a₀.toList,PrK kf s.heap p.1):LtH (model P w) A E s kf (tuples' true) a₀:=by
 intro st i j Q B hi hj h
 have g:∀ {i},i < a₀.size->∃ p,(arrOf st)[i]?=some p/\PrK kf s.heap p.1:=fun {i} hi=>by
  have hi:i < (arrOf st).size:=by rw [B.size];exact hi
  exact ⟨_,getElem?_pos _ i hi,hv _ ((Array.perm_iff_toList_perm.mp B.perm).mem_iff.mp (by simp))⟩
 obtain ⟨p,ep,a,b,hp,kp,b1,b2⟩:=g hi
 obtain ⟨q,eq,c,d,hq,kq,d1,d2⟩:=g hj
 have e1:kv kf (arrOf st) i=kf p.1:=by unfold kv;rw [ep]
 have e2:kv kf (arrOf st) j=kf q.1:=by unfold kv;rw [eq]
 rw [e1,e2,kp,kq] at h
 rw [ltAt'_eq]
 refine wpS_bind (wpS_get ?_)
 show wpS _ _ _ _ (do let x ← elem' (arrOf st) i;let y ← elem' (arrOf st) j;lt' x y) Q st
 rw [elem'_eq,elem'_eq,ep,eq]
 refine wpS_bind (wpS_pure (wpS_bind (wpS_pure ?_)))
 rw [lt'_eq]
 refine wpS_bind (wpS_get ?_)
 rw [B.kind]
 refine wpS_bind (wpS_lift (wpAny_attempt (jJ7 hp hq ⟨rfl,?_⟩)))
 refine wpS_pure ?_
 rw [show decide (a < c∨a=c/\b < d)=decide (1000 * a+b < 1000 * c+d) by congr 1;exact propext (by omega)]
 exact h
theorem sort_pr {a:Addr} {n:Nat} {R:Fin->Shared->Prop} (ho:s.heap.get? a=some (seqObj "list" vs.toArray n)) (hv:∀ v∈vs,PrK kf s.heap v) (h64:vs.length < 64)
  (h:∀ us:List Value,us.Perm vs->us.Pairwise (fun x y=>kf x<=kf y)->R (.done (.ret .none)) { s with heap:=sortedHeap s.heap a vs us.toArray }):wpAny (model P w) A (Builtin.«list.sort» ⟨[.ref a],[]⟩) R E s:=by
 rw [list_sort_plain]
 have ha:a < s.heap.objs.size:=Heap.lt_size ho
 refine wpAny_bind (listItems_at ho rfl (wpAny_bind (listUpdate_at ho rfl ?_)))
 obtain ⟨e1,ho1⟩:∃ e1,(s.heap.update a (Obj.mapSeq fun _=>#[])).get? a=some (seqObj "list" #[] e1):=⟨_,get?_update_seq ho (fun _=>#[])⟩
 refine wpAny_bind (seqEpoch_at ho1 rfl (wpAny_bind (wpAny_newTuple (wpAny_bind (wpAny_newList (wpAny_holding ?_))))))
 have kp:∀ b o,s.heap.get? b=some o->b < s.heap.objs.size:=fun b o e=>Heap.lt_size e
 generalize hh:((s.heap.update a (Obj.mapSeq fun _=>#[])).push (seqObj "tuple" vs.toArray 0)).push (seqObj "list" #[] 0)=h6
 have g6:∀ b,b < s.heap.objs.size->h6.get? b=(s.heap.update a (Obj.mapSeq fun _=>#[])).get? b:=fun b l=>by
  rw [← hh,Heap.get?_push_ne _ _ _ (by rw [size_push',Heap.size_update];exact Nat.ne_of_lt (Nat.lt_succ_of_lt l)),Heap.get?_push_ne _ _ _ (by rw [Heap.size_update];exact Nat.ne_of_lt l)]
 have ho6:h6.get? a=some (seqObj "list" #[] e1):=by rw [g6 a ha];exact ho1
 have hv6:∀ v∈vs,PrK kf h6 v:=fun v m=>by
  obtain ⟨x,y,p,r⟩:=hv v m
  exact ⟨x,y,p.keep ho (fun b o n e=>by rw [g6 b (kp b o e),Heap.get?_update_ne _ _ _ _ n];exact e),r⟩
 show wpAny (model P w) A _ R E { s with heap:=h6 }
 dsimp only
 have sz:vs.toArray.size=vs.length:=by simp
 have fin:∀ st:SortSt,(arrOf st).Perm (pairsOf vs)->failedOf st=none->Up (kv kf (arrOf st)) (pairsOf vs).size->wpAny (model P w) A (do
   let sorted:=(arrOf st).map (·.2)
   let touched:=(← seqEpoch a) != e1
   Builtin.List.listUpdate (.ref a) fun _=>sorted
   if let some e:=failedOf st then rule "list.sort.comparison-raised";throw e
   if touched then rule "list.sort.modified";raiseError "ValueError" "list modified during sort"
   ret .none) R E { s with heap:=h6 }:=by
  intro st hp hf u
  have hl:(arrOf st).toList.Perm (vs.zip vs):=by rw [← pairsOf_toList];exact Array.perm_iff_toList_perm.mp hp
  have hm:∀ p∈(arrOf st).toList,p.1=p.2:=fun p m=>(mem_zip_self (hl.mem_iff.mp m)).1
  have e2:((arrOf st).map (·.2)).toList=(arrOf st).toList.map (·.1):=by
   rw [Array.toList_map];exact List.map_congr_left fun p m=>(hm p m).symm
  refine wpAny_bind (seqEpoch_at ho6 rfl ?_)
  refine wpAny_bind (listUpdate_at ho6 rfl ?_ (hsz2:=by refine Nat.le_trans (Nat.le_of_eq ((Array.size_map ..).trans (hp.size_eq.trans (pairsOf_size _)))) ?_;rw [sizeLine_eq];omega))
  rw [hf]
  simp only [bne_self_eq_false,Bool.false_eq_true,if_false]
  have q:=h ((arrOf st).map (·.2)).toList (by
   have:=hl.map (·.1)
   rw [List.map_fst_zip (Nat.le_refl _)] at this
   rw [e2];exact this) (by
   rw [e2,List.pairwise_iff_getElem]
   intro i j hi hj l
   have hi':i < (arrOf st).size:=by simpa using hi
   have hj':j < (arrOf st).size:=by simpa using hj
   have:=u i j (Nat.le_of_lt l) (by rw [← hp.size_eq];exact hj')
   unfold kv at this
   rw [getElem?_pos _ i hi',getElem?_pos _ j hj'] at this
   simpa using this)
  refine wpAny_pure ?_
  have e3:sortedHeap s.heap a vs ((arrOf st).map (·.2)).toList.toArray=h6.update a (Obj.mapSeq fun _=>(arrOf st).map (·.2)):=by rw [← hh,Array.toArray_toList];rfl
  rw [e3] at q
  exact q
 by_cases h2:vs.toArray.size < 2
 ·rw [if_pos h2,if_pos h2]
  refine wpAny_bind (wpAny_pure ?_)
  rw [StateT.run_pure]
  refine wpAny_bind (wpAny_pure (fin (SortSt.mk' general' (vs.toArray.zip vs.toArray) #[] 7 none) (Array.Perm.refl _) rfl ?_))
  intro i j x y
  rw [pairsOf_size] at y
  rw [show i=j by omega]
  exact Int.le_refl _
 ·rw [if_neg h2,if_neg h2]
  obtain ⟨v₁,rest,rfl⟩:∃ v₁ rest,vs=v₁ :: rest:=by
   cases vs with
   | nil=>exact absurd (by decide) h2
   | cons v r=>exact ⟨v,r,rfl⟩
  refine wpAny_bind (kind_pr (fun v m=>let ⟨x,y,p,_⟩:=hv6 v m;⟨x,y,p⟩) ?_)
  refine wpAny_bind (wpAny_mono (s_sort (kf:=kf) (kd:=tuples' true) (a₀:=pairsOf (v₁ :: rest)) (st:=SortSt.mk' (tuples' true) ((v₁ :: rest).toArray.zip (v₁ :: rest).toArray) #[] 7 none)
   (Q:=fun _ st=>(arrOf st).Perm (pairsOf (v₁ :: rest))/\failedOf st=none/\Up (kv kf (arrOf st)) (pairsOf (v₁ :: rest)).size)
   (lt_pr fun p m=>?_) ⟨Array.Perm.refl _,rfl,rfl,rfl⟩ (by rw [pairsOf_size];simp) (by rw [pairsOf_size];exact h64) fun st a b c=>⟨a,b,c⟩) ?_ fun _ _ e=>e)
  ·rw [pairsOf_toList] at m
   exact hv6 _ (mem_zip_self m).2
  ·rintro ⟨⟨⟩,st⟩ s' ⟨rfl,hp,hf,hs⟩
   exact fin st hp hf hs
theorem Wv {l:Addr} {Q:Value->Shared->Prop} (hl:s.heap.IsList l vs.toArray) (hv:∀ v∈vs,PrK kf s.heap v) (h64:vs.length < 64)
  (h:∀ us:List Value,us.Perm vs->us.Pairwise (fun x y=>kf x<=kf y)->Q (.ref (s.heap.objs.size+1)) { s with heap:=sortedAll s.heap vs us.toArray }) :
  wpAny (model P w) A (call (.builtin "sorted") [.ref l]) Q E s:=by
 refine Calls.call_function_entry kind_sorted plain_sorted entry_sorted (args_sorted1 _) ?_
 unfold Builtin.«sorted»
 refine wpAny_bind (m:=checkCount "sorted" 1 1 _) (wpAny_pure ?_)
 refine wpAny_bind (collect_list hl (wpAny_bind (wpAny_newList ?_)) (by rw [sizeLine_eq];omega))
 have hsz:((s.heap.push (seqObj "list" #[] 0)).update s.heap.objs.size (Obj.mapSeq (· ++ vs.toArray))).objs.size=s.heap.objs.size+1:=by rw [Heap.size_update,size_push']
 generalize hh:((s.heap.push (seqObj "list" #[] 0)).update s.heap.objs.size (Obj.mapSeq (· ++ vs.toArray)))=h1 at hsz
 have hoL:(h1.push (seqObj "list" vs.toArray 0)).get? (s.heap.objs.size+1)=some (seqObj "list" vs.toArray 0):=by rw [← hsz];exact Heap.get?_push_size _ rfl
 have hv1:∀ v∈vs,PrK kf (h1.push (seqObj "list" vs.toArray 0)) v:=fun v m=>by
  obtain ⟨x,y,⟨b,t,u,rfl,o,hb,hc,hd⟩,r⟩:=hv v m
  have lb:=Heap.lt_size hb
  refine ⟨x,y,⟨b,t,u,rfl,o,?_,hc,hd⟩,r⟩
  rw [Heap.get?_push_ne _ _ _ (by rw [hsz];exact Nat.ne_of_lt (Nat.lt_succ_of_lt lb)),← hh,Heap.get?_update_ne _ _ _ _ (Nat.ne_of_lt lb),Heap.get?_push_ne _ _ _ (Nat.ne_of_lt lb)]
  exact hb
 show wpAny _ _ _ _ _ { s with heap:=h1.push (seqObj "list" vs.toArray 0) }
 rw [hsz]
 refine wpAny_bind (wpAny_holding (wpAny_call_entry slot_list_sort ⟨_,hoL,rfl⟩ entry_list_sort (sort_pr hoL hv1 h64 fun us a b=>⟨_,rfl,?_⟩) (args_list_sort _)))
 refine wpAny_pure ⟨_,rfl,?_⟩
 have q:=h us a b
 unfold sortedAll at q
 rw [hh] at q
 exact q
end
end L2
namespace L2
open PySem PySem.Spec PyProof.Rows
theorem Hd:∀ {ls:List Addr} {us:List Value},bO (ls.map V.ref) us->us=ls.map Value.ref
 | [],_,.nil=>rfl
 | _ :: _,_,.cons e r=>by rw [Hd r,List.map_cons];exact congrArg (· :: _) e
theorem Hw:∀ (ls:List Addr),bO (ls.map V.ref) (ls.map Value.ref)
 | []=>.nil
 | _ :: ls=>.cons rfl (Hw ls)
noncomputable def adr:Value->Addr
 | .ref a=>a
 | _=>0
noncomputable def Zv (K:PySem.W.Frag) (xs:List V) (H:Hp) (Q:VK):Prop:=∃ (p:Addr) (ls:List Addr) (kf:Addr->Int),xs=[.ref p]/\SqL K H p (ls.map V.ref)/\ls.length < 64/\(∀ l∈ls,∃ a b:Int,SqT K H l [.int a,.int b]/\kf l=1000 * a+b/\-500 < b/\b < 500) /\
 ∀ (ms:List Addr) (l:Addr),ms.Perm ls->ms.Pairwise (fun x y=>kf x<=kf y)->H l=none->Q (.ref l) (upd H l (.lst (ms.map V.ref)))
theorem Yo {X:Cx}:lX X (.builtin "sorted") (Zv X.K):=by
 intro pins s σ H xs us Q I r h
 obtain ⟨p,ls,kf,rfl,hq,hn,hk,q⟩:=h
 obtain ⟨u,rfl,rx⟩:=qR r
 cases rx
 obtain ⟨its,rv,pl,hz⟩:=I.list hq
 obtain rfl:=Hd rv
 refine Wv (kf:=fun v=>kf (adr v)) pl.isList (fun v m=>?_) (by rw [List.length_map];exact hn) fun us a b=>?_
 ·obtain ⟨l,m',rfl⟩:=List.mem_map.mp m
  obtain ⟨x,y,ht,e,b⟩:=hk l m'
  obtain ⟨its,rv,tp,_⟩:=I.tuple ht
  cases rv with
  | cons r1 rv=>cases rv with
   | cons r2 rv =>
    cases rv
    obtain ⟨t,rfl⟩:=r1
    obtain ⟨t',rfl⟩:=r2
    exact ⟨x,y,⟨l,t,t',rfl,tp⟩,e,b⟩
 ·have e:us=(us.map adr).map Value.ref:=by
   rw [List.map_map]
   refine (List.map_id us).symm.trans (List.map_congr_left fun v m=>?_)
   obtain ⟨l,_,rfl⟩:=List.mem_map.mp (a.mem_iff.mp m)
   rfl
  have pm:(us.map adr).Perm ls:=by
   have:=a.map adr
   rw [List.map_map,show adr ∘ Value.ref=id from rfl,List.map_id] at this
   exact this
  obtain ⟨c,ho⟩:=sortedAll_at s.heap (ls.map Value.ref) us.toArray
  refine ⟨.ref _,_,I.laid (t':=s.toks) (fun _ _=>sortedAll_old) (Nat.le_succ _) (show dE X.prog X.w _ _ _ (.lst ((us.map adr).map V.ref)) from ⟨?_,us,c,?_,ho⟩),rfl,q _ _ pm (List.pairwise_map.mpr b) (I.hok.fresh (Nat.le_succ _))⟩
  ·rw [List.length_map,List.length_map,a.length_eq,List.length_map];rw [List.length_map] at hz;exact hz
  ·have:=Hw (us.map adr)
   rw [← e] at this
   exact this
end L2
namespace L2
open PySem
theorem Ys:bootBuiltins "sorted" = some (.builtin "sorted"):=by decide +kernel
end L2
namespace L2
open PySem PySem.Spec PyProof.Rows
variable {P:List Value->Prop}
noncomputable def lA (st:Stmt):List Str:=(iZ st).args.map (·.arg)
noncomputable def Ao (N:List Str) (caps:List Nat):List Str:=caps.filterMap fun i=>N[i]?
structure Rm (X:Cx) (k:Nat) (N:List Str) (st:Stmt):Prop where
 r:eX k X.A
 nd:N.Nodup
 sc:X.env.scope=bA st
 nn:X.N=N
 calm:X.calm=true
structure Ok (P:Program) (w:World) (K:PySem.W.Frag) (mg:Str->Option Value) (base:Heap) (CX:CXT) (k:Nat) (x:Str) (sp:Sp):Prop where
 ex:∃ f fd ps,oZ P w K mg base CX k f fd ps sp/\mg x=some (.ref f)/\PySem.W.keepIn K (.ref f)=true/\jZ K fd ps []
structure OkM (P:Program) (w:World) (K:PySem.W.Frag) (mg:Str->Option Value) (base:Heap) (CX:CXT) (k:Nat) (C:Addr) (m:Str) (sp:Sp):Prop where
 ex:∃ f fd ps,oZ P w K mg base CX k f fd ps sp/\Zi K C m f/\jZ K fd ps []
structure Df (K:PySem.W.Frag) (mg:Str->Option Value) (x:Str) (st:Stmt):Prop where
 ex:∃ df f fd,qO K x x st df f fd/\jZ K fd (lA st) []/\mg x=some (.ref f)
structure Mf (K:PySem.W.Frag) (c m q:Str) (st:Stmt):Prop where
 ex:∃ f fd,qO K m q st .none f fd/\jZ K fd (lA st) []/\Zi K (aX K c) m f
section
variable {P:Program} {w:World} {K:PySem.W.Frag} {mg:Str->Option Value} {base:Heap} {x qual:Str} {st:Stmt} {df:Value} {f:Addr} {fd:FuncData} {N ps:List Str} {k:Nat} {sp:Sp}
theorem qO.ok0 (F:qO K x qual st df f fd) (S:mD N ps (bA st)) (len:∀ vs H Q E,sp vs H Q E->vs.length=ps.length)
  (hbody:∀ (cdv:Value) (A:Around) (outer:List Env) (s:Shared) (H:Hp) (vs:List V) (Q:VK) (E:XK),eX k (A.deeper (envOfC qual (bA st) s.heap.objs.size f cdv))->sp vs H Q E ->
   ∃ t,PSs (oY CX0 P w K mg base N qual (bA st) f cdv A outer s H E).nox (fO st) t/\t { nx:=fun _ H'=>Q .non H',rt:=Q } (start N vs) H):oZ P w K mg base CX0 (k+1) f fd ps sp:=by
 obtain ⟨oc,od,kV,doc,pm,an,cdv,ct,osl,rfl,lk,hcd⟩:=F.ex
 refine fn_of lk hcd S len fun A outer s H vs Q E hr hsp=>?_
 obtain ⟨t,h,q⟩:=hbody cdv A outer s H vs Q E hr hsp
 exact ⟨t,h.nox,q⟩
noncomputable abbrev Bd0 (P:Program) (w:World) (K:PySem.W.Frag) (mg:Str->Option Value) (base:Heap) (N:List Str) (qual:Str) (st:Stmt) (k:Nat) (sp:Sp):Prop :=
 ∀ {f:Addr} {cdv:Value} {A:Around} {outer:List Env} {s:Shared} {H:Hp} {vs:List V} {Q:VK} {E:XK},Rm (oY CX0 P w K mg base N qual (bA st) f cdv A outer s H E).nox k N st->sp vs H Q E ->
  ∃ t:TS,t { nx:=fun _ H'=>Q .non H',rt:=Q } (start N vs) H/\PSs (oY CX0 P w K mg base N qual (bA st) f cdv A outer s H E).nox (fO st) t
noncomputable abbrev BdX (P:Program) (w:World) (K:PySem.W.Frag) (mg:Str->Option Value) (base:Heap) (N:List Str) (qual:Str) (st:Stmt) (k:Nat) (sp:Sp):Prop :=
 ∀ {f:Addr} {cdv:Value} {A:Around} {outer:List Env} {s:Shared} {H:Hp} {vs:List V} {Q:VK} {E:XK},Rm (oY (CXF P w) P w K mg base N qual (bA st) f cdv A outer s H E) k N st->sp vs H Q E ->
  ∃ t:TS,t { nx:=fun _ H'=>Q .non H',rt:=Q } (start N vs) H/\PSs (oY (CXF P w) P w K mg base N qual (bA st) f cdv A outer s H E) (fO st) t
theorem Df.ok (D:Df K mg x st) (len:∀ {vs H Q E},sp vs H Q E->vs.length=(lA st).length) (b:Bd0 P w K mg base N x st k sp)
  (S:mD N (lA st) (bA st):=by exact ⟨rfl,rfl,rfl,by decide +kernel,rfl,by decide +kernel,by decide +kernel⟩):Ok P w K mg base CX0 (k+1) x sp :=
 let ⟨_,f,fd,F,hb,hm⟩:=D.ex
 ⟨f,fd,_,F.ok0 S (fun _ _ _ _ h=>len h) fun cdv A outer s H vs Q E hr h=>let ⟨t,q,p⟩:=b (f:=f) (cdv:=cdv) (outer:=outer) ⟨hr,S.nd,rfl,rfl,rfl⟩ h;⟨t,p,q⟩,hm,F.kp,hb⟩
theorem qO.fn (F:qO K x x st df f fd) (len:∀ {vs H Q E},sp vs H Q E->vs.length=(lA st).length) (b:Bd0 P w K mg base N x st k sp)
  (S:mD N (lA st) (bA st):=by exact ⟨rfl,rfl,rfl,by decide +kernel,rfl,by decide +kernel,by decide +kernel⟩):oZ P w K mg base CX0 (k+1) f fd (lA st) sp :=
 F.ok0 S (fun _ _ _ _ h=>len h) fun cdv A outer s H vs Q E hr h=>let ⟨t,q,p⟩:=b (f:=f) (cdv:=cdv) (outer:=outer) ⟨hr,S.nd,rfl,rfl,rfl⟩ h;⟨t,p,q⟩
theorem Df.okX (D:Df K mg x st) (len:∀ {vs H Q E},sp vs H Q E->vs.length=(lA st).length) (b:BdX P w K mg base N x st k sp)
  (S:mD N (lA st) (bA st):=by exact ⟨rfl,rfl,rfl,by decide +kernel,rfl,by decide +kernel,by decide +kernel⟩):Ok P w K mg base (CXF P w) (k+1) x sp :=
 let ⟨_,f,fd,F,hb,hm⟩:=D.ex
 ⟨f,fd,_,F.okX S (fun _ _ _ _ h=>len h) fun cdv A outer s H vs Q E hr h=>let ⟨t,q,p⟩:=b (f:=f) (cdv:=cdv) (outer:=outer) ⟨hr,S.nd,rfl,rfl,rfl⟩ h;⟨t,p,q⟩,hm,F.kp,hb⟩
theorem Mf.ok {c m:Str} (D:Mf K c m qual st) (len:∀ {vs H Q E},sp vs H Q E->vs.length=(lA st).length) (b:Bd0 P w K mg base N qual st k sp)
  (S:mD N (lA st) (bA st):=by exact ⟨rfl,rfl,rfl,by decide +kernel,rfl,by decide +kernel,by decide +kernel⟩):OkM P w K mg base CX0 (k+1) (aX K c) m sp :=
 let ⟨f,fd,F,hb,hm⟩:=D.ex
 ⟨f,fd,_,F.ok0 S (fun _ _ _ _ h=>len h) fun cdv A outer s H vs Q E hr h=>let ⟨t,q,p⟩:=b (f:=f) (cdv:=cdv) (outer:=outer) ⟨hr,S.nd,rfl,rfl,rfl⟩ h;⟨t,p,q⟩,hm,hb⟩
end
section
variable {X:Cx} {k j:Nat} {C:Addr} {sp:Sp} {E:XK} {x m c:Str} {p pos apos:Pos} {e o:Expr} {es:List Expr} {ta:TE} {t:TA}
theorem c0 (F:Ok X.prog X.w X.K X.mg X.base CX0 k x sp) (hr:eX j X.A) (ha:PA X (e :: es) t) (hk:k<=j:=by decide) (hg:Gl X x:=by rfl) (hdb:(x == ("__debug__" : Str))=false:=by decide) (he:starEach (e :: es) X.env=(false,eval e X.env) :: starEach es X.env:=by rfl) (hpl:(backTo pos (starEach es X.env)).any (·.1)=false:=by rfl) :
  PE X (.Call (.Name x p) (e :: es) [] pos) (aO sp [] E0 t) :=
 let ⟨_,_,_,F,hm,hp,hb⟩:=F.ex
 Uy F (hr.mono hk) hg hm hp hb .nil Ue ha hdb he hpl
theorem cN (F:Ok X.prog X.w X.K X.mg X.base (CXF X.prog X.w) k x sp) (hr:eX j X.A) (ha:PA X (e :: es) t) (hk:k<=j:=by decide) (hg:Gl X x:=by rfl) (hdb:(x == ("__debug__" : Str))=false:=by decide) (he:starEach (e :: es) X.env=(false,eval e X.env) :: starEach es X.env:=by rfl) (hpl:(backTo pos (starEach es X.env)).any (·.1)=false:=by rfl) :
  PE X (.Call (.Name x p) (e :: es) [] pos) (aO sp [] E0 t) :=
 let ⟨_,_,_,F,hm,hp,hb⟩:=F.ex
 Uy F (hr.mono hk) hg hm hp hb .nil passN ha hdb he hpl
theorem cX (F:Ok X.prog X.w X.K X.mg X.base (CXF X.prog X.w) k x sp) (hr:eX j X.A) (ha:PA X.nox (e :: es) t) (hk:k<=j:=by decide) (hg:Gl X x:=by rfl) (hdb:(x == ("__debug__" : Str))=false:=by decide) (he:starEach (e :: es) X.env=(false,eval e X.env) :: starEach es X.env:=by rfl) (hpl:(backTo pos (starEach es X.env)).any (·.1)=false:=by rfl) :
  PEx X (.Call (.Name x p) (e :: es) [] pos) (fun E=>aO sp [] E t) :=
 let ⟨_,_,_,F,hm,hp,hb⟩:=F.ex
 jJn F (hr.mono hk) hg hm hp hb ha hdb he hpl
theorem m1 {pl:Sem Bool} (he:PE X o ta) (c:Cls X.K C) (F:OkM X.prog X.w X.K X.mg X.base CX0 k C m sp) (hr:eX j X.A) (ha:PA X (e :: es) t) (hk:k<=j:=by decide)
  (hst:starEach (e :: es) X.env=(false,eval e X.env) :: starEach es X.env:=by rfl) (hpl:(backTo pos (starEach es X.env)).any (·.1)=false:=by rfl)
  (ht:eval (.Call (.Attribute o m apos) (e :: es) [] pos) X.env=(do
   let ov ← eval o X.env
   standAt apos.atName
   let (f,first) ← holding [ov] (getMethod ov m pl)
   callWith pos f first (backTo pos (starEach (e :: es) X.env)) (backToKw pos (keywordEach [] X.env))):=by rfl) :
  PE X (.Call (.Attribute o m apos) (e :: es) [] pos) (cS C m sp [] E0 ta t) :=
 let ⟨_,_,_,F,hm,hb⟩:=F.ex
 pe_meth he c hm F (hr.mono hk) hb .nil Ue ha hst hpl ht
theorem m0 {pl:Sem Bool} (he:PE X o ta) (c:Cls X.K C) (F:OkM X.prog X.w X.K X.mg X.base CX0 k C m sp) (hr:eX j X.A) (hk:k<=j:=by decide)
  (ht:eval (.Call (.Attribute o m apos) [] [] pos) X.env=(do
   let ov ← eval o X.env
   standAt apos.atName
   let (f,first) ← holding [ov] (getMethod ov m pl)
   callWith pos f first (backTo pos (starEach [] X.env)) (backToKw pos (keywordEach [] X.env))):=by rfl) :
  PE X (.Call (.Attribute o m apos) [] [] pos) (cS C m sp [] E0 ta aK) :=
 let ⟨_,_,_,F,hm,hb⟩:=F.ex
 jJo he c hm F (hr.mono hk) hb .nil Ue ht
theorem mk0 (M:PySem.W.makesIn X.K C=true/\PySem.W.keepIn X.K (.ref C)=true) (F:OkM X.prog X.w X.K X.mg X.base CX0 k C "__init__" sp) (hr:eX j X.A) (hm:X.mg x=some (.ref C)) (ha:PA X (e :: es) t) (hk:k+1<=j:=by decide) (hg:Gl X x:=by rfl) (hdb:(x == ("__debug__" : Str))=false:=by decide)
  (he:starEach (e :: es) X.env=(false,eval e X.env) :: starEach es X.env:=by rfl) (hpl:(backTo pos (starEach es X.env)).any (·.1)=false:=by rfl):PE X (.Call (.Name x p) (e :: es) [] pos) (Gw C sp [] E0 t) :=
 let ⟨_,_,_,F,hi,hb⟩:=F.ex
 pe_make ⟨M.1,hi.at_,hi.fn,M.2⟩ F (hr.mono hk) hg hm hb .nil Ue ha hdb he hpl
end
section
variable {X:Cx} {k:Nat} {N:List Str} {st:Stmt} {i j:Nat} {x y:Str} {px py pos tp:Pos} {iter e elt tst:Expr} {body:List Stmt} {scope:Scope} {caps:List Nat} {te:TE} {tt:TT} {wi:TI} {tb:TS}
theorem sA (R:Rm X k N st) (he:PE X e te) (hi:N[i]?=some x:=by rfl) (hx:Loc (bA st) x:=by first | exact .inl rfl | exact .inr rfl) (hs:swapsWith e (some (.Name x px)) pos.line X.env=pure false:=by rfl) (hf:X.fn x=true∨X.env.scope.names.lookup x=some .local:=by first | exact .inl rfl | exact .inr rfl) :
  PS X (.Assign [.Name x px] e pos) (aV te (aJ i)):=ps_set (by rw [R.nn];exact R.nd) (by rw [R.nn];exact hi) (by rw [R.sc];exact hx) he hs hf
theorem gN (R:Rm X k N st) (hi:N[i]?=some x:=by rfl) (hx:Loc (bA st) x:=by first | exact .inl rfl | exact .inr rfl) (hf:X.fn x=true∨X.env.scope.names.lookup x=some .local:=by first | exact .inl rfl | exact .inr rfl):PG X (.Name x px) (aJ i) :=
 Ux (by rw [R.nn];exact R.nd) (by rw [R.nn];exact hi) (by rw [R.sc];exact hx) hf
theorem gN2 {n:Nat} (R:Rm X k N st) (hi:N[i]?=some x:=by rfl) (hx:Loc (bA st) x:=by first | exact .inl rfl | exact .inr rfl) (hf:X.fn x=true∨X.env.scope.names.lookup x=some .local:=by first | exact .inl rfl | exact .inr rfl)
  (hj:N[j]?=some y:=by rfl) (hy:Loc (bA st) y:=by first | exact .inl rfl | exact .inr rfl) (hg:X.fn y=true∨X.env.scope.names.lookup y=some .local:=by first | exact .inl rfl | exact .inr rfl)
  (hst:(assignEach [.Name x px,.Name y py] X.env).findIdx? (·.1)=none:=by rfl):PG X (.Tuple [.Name x px,.Name y py] n tp) (gG X.K 2 (bQ (aJ i) (bQ (aJ j) gH))) :=
 pg_tup (n:=2) R.calm (vV (gN R hi hx hf) (vV (gN R hj hy hg) Uw)) rfl hst
theorem fA {tg:Expr} {g:TG} (R:Rm X k N st) (hi:PI X tg iter wi) (hg:PG X tg g) (hb:PSs X body tb) (hp:PassesOwn (model X.prog X.w) X.A X.env X.xe:=by first | exact PassesOwn.never | exact PassesOwn.leaving) (hs:∀ x,foldedSetIterable iter X.env x=pure x:=by intro _;rfl) :
  PS X (.For tg iter body [] pos) (cV wi g tb):=ps_for hp R.calm hi hg hb hs
theorem wA {c:Expr} {tc:TT} (hc:PT X c tc) (hb:PSs X body tb) (hp:PassesOwn (model X.prog X.w) X.A X.env X.xe:=by first | exact PassesOwn.never | exact PassesOwn.leaving):PS X (.While c body [] pos) (pA tc tb):=jJk hp hc hb
theorem kA (R:Rm X k N st) (hi:PI X (.Name x px) iter wi) (he:∀ s H ex pn,PE (cR X scope (x :: Ao N caps) s H ex pn) elt te) (hs:∀ v,foldedSetIterable iter X.env v=pure v:=by intro _;rfl)
  (S:xN (bA st) scope N x (Ao N caps) caps:=by exact ⟨by decide +kernel,rfl,by decide +kernel,rfl,by decide +kernel,rfl,by decide +kernel,rfl,by decide +kernel⟩):PE X (.ListComp elt [⟨.Name x px,iter,[],0⟩] scope pos) (bB wi caps te) :=
 pe_comp S R.sc R.nn R.calm hi he hs
theorem sK (R:Rm X k N st) (hi:PI X (.Name x px) iter wi) (he:∀ s H ex pn,PE (cR X scope (x :: Ao N caps) s H ex pn) elt te) (hs:∀ v,foldedSetIterable iter X.env v=pure v:=by intro _;rfl)
  (S:xN (bA st) scope N x (Ao N caps) caps:=by exact ⟨by decide +kernel,rfl,by decide +kernel,rfl,by decide +kernel,rfl,by decide +kernel,rfl,by decide +kernel⟩) (hj:N[j]?=some y:=by rfl) (hy:Loc (bA st) y:=by first | exact .inl rfl | exact .inr rfl)
  (hsw:swapsWith (.ListComp elt [⟨.Name x px,iter,[],0⟩] scope pos) (some (.Name y py)) tp.line X.env=pure true:=by rfl) (hf:X.fn y=true∨X.env.scope.names.lookup y=some .local:=by first | exact .inl rfl | exact .inr rfl) :
  PS X (.Assign [.Name y py] (.ListComp elt [⟨.Name x px,iter,[],0⟩] scope pos) tp) (aV (bB wi caps te) (aJ j)) :=
 Sn S R.sc R.nn R.calm (by rw [R.nn];exact R.nd) (by rw [R.nn];exact hj) (by rw [R.sc];exact hy) hi he hsw hs hf
theorem g2 {s:Shared} {H:Hp} {ex:List Addr} {pn:List (Addr×Obj)} {ys:List Str} {n:Nat} (hc:X.calm=true) (nd:(x :: y :: ys).Nodup) (hx:scope.names.lookup x=some .local) (hy:scope.names.lookup y=some .local) (hst:(assignEach [.Name x px,.Name y py] (cR X scope (x :: y :: ys) s H ex pn).env).findIdx? (·.1)=none) :
  PG (cR X scope ([x,y] ++ ys) s H ex pn) (.Tuple [.Name x px,.Name y py] n tp) (gG X.K 2 (bQ (aJ 0) (bQ (aJ 1) gH))) :=
 pg_tup (n:=2) hc (vV (vW nd rfl hx) (vV (vW nd rfl hy) Uw)) rfl hst
theorem kG {n:Nat} (R:Rm X k N st) (hi:PI X (.Tuple [.Name x px,.Name y py] n tp) iter wi) (he:∀ s H ex pn,PE (cR X scope ([x,y] ++ Ao N caps) s H ex pn) elt te) (hs:∀ v,foldedSetIterable iter X.env v=pure v:=by intro _;rfl)
  (S:eE (bA st) scope N [x,y] (Ao N caps) caps:=by exact ⟨by decide +kernel,rfl,by decide +kernel,by decide +kernel,rfl,by decide +kernel,rfl⟩) (nd:(x :: y :: Ao N caps).Nodup:=by decide +kernel) (hx:scope.names.lookup x=some .local:=by rfl) (hy:scope.names.lookup y=some .local:=by rfl)
  (hst:∀ s H ex pn,(assignEach [.Name x px,.Name y py] (cR X scope (x :: y :: Ao N caps) s H ex pn).env).findIdx? (·.1)=none:=by intro _ _ _ _;rfl):PE X (.ListComp elt [⟨.Tuple [.Name x px,.Name y py] n tp,iter,[],0⟩] scope pos) (dU wi 2 caps (gG X.K 2 (bQ (aJ 0) (bQ (aJ 1) gH))) te) :=
 jJr S R.sc R.nn R.calm hi (fun s H ex pn=>g2 R.calm nd hx hy (hst s H ex pn)) he hs
theorem sG {n:Nat} {z:Str} {pz ap:Pos} (R:Rm X k N st) (hi:PI X (.Tuple [.Name x px,.Name y py] n tp) iter wi) (he:∀ s H ex pn,PE (cR X scope ([x,y] ++ Ao N caps) s H ex pn) elt te) (hs:∀ v,foldedSetIterable iter X.env v=pure v:=by intro _;rfl)
  (S:eE (bA st) scope N [x,y] (Ao N caps) caps:=by exact ⟨by decide +kernel,rfl,by decide +kernel,by decide +kernel,rfl,by decide +kernel,rfl⟩) (nd:(x :: y :: Ao N caps).Nodup:=by decide +kernel) (hx:scope.names.lookup x=some .local:=by rfl) (hy:scope.names.lookup y=some .local:=by rfl)
  (hst:∀ s H ex pn,(assignEach [.Name x px,.Name y py] (cR X scope (x :: y :: Ao N caps) s H ex pn).env).findIdx? (·.1)=none:=by intro _ _ _ _;rfl) (hj:N[j]?=some z:=by rfl) (hz:Loc (bA st) z:=by first | exact .inl rfl | exact .inr rfl)
  (hsw:swapsWith (.ListComp elt [⟨.Tuple [.Name x px,.Name y py] n tp,iter,[],0⟩] scope pos) (some (.Name z pz)) ap.line X.env=pure true:=by rfl) (hf:X.fn z=true∨X.env.scope.names.lookup z=some .local:=by first | exact .inl rfl | exact .inr rfl) :
  PS X (.Assign [.Name z pz] (.ListComp elt [⟨.Tuple [.Name x px,.Name y py] n tp,iter,[],0⟩] scope pos) ap) (aV (dU wi 2 caps (gG X.K 2 (bQ (aJ 0) (bQ (aJ 1) gH))) te) (aJ j)) :=
 Pl S R.sc R.nn R.calm (by rw [R.nn];exact R.nd) (by rw [R.nn];exact hj) (by rw [R.sc];exact hz) hi (fun s H ex pn=>g2 R.calm nd hx hy (hst s H ex pn)) he hsw hs hf
end
structure Rn (X:Cx) (N:List Str) (st:Stmt):Prop where
 nd:N.Nodup
 sc:X.env.scope=bA st
 nn:X.N=N
theorem sN {X:Cx} {N:List Str} {st:Stmt} {i:Nat} {x:Str} {px pos:Pos} {e:Expr} {te:TE} (R:Rn X N st) (he:PE X e te) (hi:N[i]?=some x:=by rfl) (hx:Loc (bA st) x:=by first | exact .inl rfl | exact .inr rfl) (hs:swapsWith e (some (.Name x px)) pos.line X.env=pure false:=by rfl) (hf:X.fn x=true∨X.env.scope.names.lookup x=some .local:=by first | exact .inl rfl | exact .inr rfl) :
  PS X (.Assign [.Name x px] e pos) (aV te (aJ i)):=ps_set (by rw [R.nn];exact R.nd) (by rw [R.nn];exact hi) (by rw [R.sc];exact hx) he hs hf
theorem tA {X:Cx} {k:Nat} {N:List Str} {st:Stmt} {te:XK->TE} {ts:TS} {c c0:Value} {cx n:Str} {j:Nat} {e:Expr} {s0:Stmt} {suite:List Stmt} {p1 np hp tp:Pos} (R:Rm X k N st) (hm:X.mg cx=some c) (hmt:PySem.W.exmOne X.K c0 c=some true) (he:PEx X e te) (hs:∀ a,Rn ((X.inx a).nox) N st->PSs ((X.inx a).nox) (s0 :: suite) ts)
  (hst:X.stack=X.env :: X.outer:=by rfl) (hfr:X.env.frame=some X.env.locals:=by rfl) (hex:X.ex=[]:=by rfl) (hg:Gl X cx:=by rfl) (hj:N[j]?=some n:=by rfl) (hn:(bA st).names.lookup n=some .local:=by rfl)
  (hdb:(cx == ("__debug__" : Str))=false:=by decide) (hsw:swapsWith e none p1.line X.env=pure false:=by rfl) :
  PS X (.Try [.Expr e p1] [.ExceptHandler (some (.Name cx np)) (some n) (s0 :: suite) hp] [] [] tp) (tTry te c0 j ts) :=
 ps_try he (fun a=>hs a ⟨R.nd,R.sc,R.nn⟩) hst hfr hex hg hm hmt (by rw [R.nn];exact R.nd) (by rw [R.nn];exact hj) (by rw [R.sc];exact hn) hdb hsw
section
variable {K:PySem.W.Frag} {h:Heap} {mg:Str->Option Value} {x m q c:Str} {st:Stmt} {f C:Addr} {oc kV dc pm cd ct:Value} {od an:Option Addr} {sl:Array (Option Value)}
theorem ar1 (h:∀ a,P [a]):∀ us:List Value,us.length=1->P us
 | [],e=>nomatch e
 | [a],_=>h a
 | _ :: _ :: _,e=>nomatch e
theorem ar2 (h:∀ a b,P [a,b]):∀ us:List Value,us.length=2->P us
 | [],e=>nomatch e
 | a :: us,e=>ar1 (P:=fun l=>P (a :: l)) (h a) us (Nat.succ.inj e)
theorem ar3 (h:∀ a b c,P [a,b,c]):∀ us:List Value,us.length=3->P us
 | [],e=>nomatch e
 | a :: us,e=>ar2 (P:=fun l=>P (a :: l)) (h a) us (Nat.succ.inj e)
theorem ar4 (h:∀ a b c d,P [a,b,c,d]):∀ us:List Value,us.length=4->P us
 | [],e=>nomatch e
 | a :: us,e=>ar3 (P:=fun l=>P (a :: l)) (h a) us (Nat.succ.inj e)
theorem ar5 (h:∀ a b c d e,P [a,b,c,d,e]):∀ us:List Value,us.length=5->P us
 | [],e=>nomatch e
 | a :: us,e=>ar4 (P:=fun l=>P (a :: l)) (h a) us (Nat.succ.inj e)
noncomputable abbrev Bnd (x q:Str) (st:Stmt):Prop:=∀ (kV doc pm:Value) (an:Option Addr) (cdv ct:Value) (us:List Value),us.length=(lA st).length->bindArgs (PySem.W.fnOf x q (iZ st) (fO st) (bA st) .none kV doc pm an cdv ct) ⟨us,[]⟩=pure ((lA st).zip us)
theorem Df.mk' (X:K.In h) (G:h.Ns mainGlobals mg) (a:PySem.W.nsIn K mainGlobals x=some (some (.ref f))) (l:K.lookup f=some ⟨oc,od,.func (PySem.W.fnOf x x (iZ st) (fO st) (bA st) .none kV dc pm an cd ct),sl⟩) (c:PySem.W.codeIn K cd x=true) (k:PySem.W.keepIn K (.ref f)=true)
  (b:Bnd x x st:=by first | exact fun _ _ _ _ _ _=>L2.ar1 fun _=>rfl | exact fun _ _ _ _ _ _=>L2.ar2 fun _ _=>rfl | exact fun _ _ _ _ _ _=>L2.ar3 fun _ _ _=>rfl | exact fun _ _ _ _ _ _=>L2.ar4 fun _ _ _ _=>rfl | exact fun _ _ _ _ _ _=>L2.ar5 fun _ _ _ _ _=>rfl):Df K mg x st :=
 have F:qO K x x st .none f _:=⟨⟨oc,od,kV,dc,pm,an,cd,ct,sl,rfl,l,c⟩,k⟩
 ⟨_,f,_,F,F.binds b,PySem.W.mg_of X G a⟩
theorem Mf.mk' (y:PySem.W.nsIn K mainGlobals c=some (some (.ref C))) (a:PySem.W.findIn K (.ref C) m=some (some (.ref f))) (i:PySem.W.isFn K (.ref f)=true) (l:K.lookup f=some ⟨oc,od,.func (PySem.W.fnOf m q (iZ st) (fO st) (bA st) .none kV dc pm an cd ct),sl⟩) (cc:PySem.W.codeIn K cd q=true) (k:PySem.W.keepIn K (.ref f)=true)
  (b:Bnd m q st:=by first | exact fun _ _ _ _ _ _=>L2.ar1 fun _=>rfl | exact fun _ _ _ _ _ _=>L2.ar2 fun _ _=>rfl | exact fun _ _ _ _ _ _=>L2.ar3 fun _ _ _=>rfl | exact fun _ _ _ _ _ _=>L2.ar4 fun _ _ _ _=>rfl | exact fun _ _ _ _ _ _=>L2.ar5 fun _ _ _ _ _=>rfl):Mf K c m q st :=
 have F:qO K m q st .none f _:=⟨⟨oc,od,kV,dc,pm,an,cd,ct,sl,rfl,l,cc⟩,k⟩
 ⟨f,_,F,F.binds b,by rw [cB y];exact ⟨a,i,k⟩⟩
theorem law_mk (X:K.In h) (G:h.Ns mainGlobals mg) (a:PySem.W.nsIn K mainGlobals x=some (some (.ref f))) (l:K.lookup f=some ⟨oc,od,.func (PySem.W.fnOf x x (iZ st) (fO st) (bA st) .none kV dc pm an cd ct),sl⟩) (c:PySem.W.codeIn K cd x=true) (k:PySem.W.keepIn K (.ref f)=true):∃ f fd,qO K x x st .none f fd/\mg x=some (.ref f) :=
 ⟨f,_,⟨⟨oc,od,kV,dc,pm,an,cd,ct,sl,rfl,l,c⟩,k⟩,PySem.W.mg_of X G a⟩
theorem Df.mkD {T:Addr} {o:Obj} {items:Array Value} {n:Nat} (X:K.In h) (G:h.Ns mainGlobals mg) (a:PySem.W.nsIn K mainGlobals x=some (some (.ref f))) (l:K.lookup f=some ⟨oc,od,.func (PySem.W.fnOf x x (iZ st) (fO st) (bA st) (.ref T) kV dc pm an cd ct),sl⟩) (c:PySem.W.codeIn K cd x=true) (k:PySem.W.keepIn K (.ref f)=true) (lT:K.lookup T=some o) (hd:o.data=.seq items n)
  (b:∀ (kV doc pm:Value) (an:Option Addr) (cdv ct:Value) (us:List Value),us.length=(lA st).length->∃ k,bindArgs (PySem.W.fnOf x x (iZ st) (fO st) (bA st) (.ref T) kV doc pm an cdv ct) ⟨us,[]⟩=seqItems? (.ref T) >>= k/\k (some items)=pure ((lA st).zip us)):Df K mg x st :=
 have F:qO K x x st (.ref T) f _:=⟨⟨oc,od,kV,dc,pm,an,cd,ct,sl,rfl,l,c⟩,k⟩
 ⟨_,f,_,F,F.bindsD lT hd b,PySem.W.mg_of X G a⟩
theorem gi_mk {i:Int} {t:Tok} (X:K.In h) (G:h.Ns mainGlobals mg) (z:PySem.W.nsIn K mainGlobals x=some (some (.int i t))):∃ t,mg x=some (.int i t):=⟨_,PySem.W.mg_of X G z⟩
theorem cls_mk (X:K.In h) (G:h.Ns mainGlobals mg) (y:PySem.W.nsIn K mainGlobals c=some (some (.ref C))):mg c=some (.ref (aX K c)):=by rw [cB y];exact PySem.W.mg_of X G y
theorem mkc_mk (y:PySem.W.nsIn K mainGlobals c=some (some (.ref C))) (a:PySem.W.makesIn K C=true) (b:PySem.W.keepIn K (.ref C)=true):PySem.W.makesIn K (aX K c)=true/\PySem.W.keepIn K (.ref (aX K c))=true:=by rw [cB y];exact ⟨a,b⟩
end
section
variable {X:Cx} {x:Str} {pos:Pos} {a b:Expr} {ta tb:TE} {i:Nat}
theorem pV (hN:X.N[i]?=some x:=by rfl) (hv:Vis X.env.scope x:=by first | exact Or.inl rfl | exact Or.inr (Or.inl rfl) | exact Or.inr (Or.inr rfl)) (hd:(x == ("__debug__" : Str))=false:=by decide) (hcd:(x == ("__classdict__" : Str))=false:=by decide):PE X (.Name x pos) (aB i):=pe_var hN hv hd hcd
theorem iL (ha:PE X a ta) (hb:PE X b tb) (hs:Ld b:=by exact fun _ _=>rfl):PE X (.Subscript a b pos) (tOp (dD X.K) ta tb):=pe_ix ix_list ha hb hs
theorem iT (ha:PE X a ta) (hb:PE X b tb) (hs:Ld b:=by exact fun _ _=>rfl):PE X (.Subscript a b pos) (tOp (bW X.K) ta tb):=pe_ix ix_tup ha hb hs
end
end L2
namespace L2
open PySem PySem.Spec PySem.Calls PyProof.Rows PySem.W PySem.W.X in
theorem walk_x {q:Program} {loose:List Str} {XP:(Str->Option Value)->Heap->Prop} {K:Params->PySem.W.Frag} {as:List Addr} {n t:Nat} {r:PySem.W.RowW} {d:DefRec} {kwd:List (Str×Expr)} {run:Value->List Value->Sem Value}
  (e:∀ P,as=(K P).map (·.1)) (W:PySem.W.WalkO q loose XP (fun w h=>(K w.params).In h) r d kwd run):WalkX q loose XP (obsZ as) (valZ K n t) r d kwd run :=
 fun w s₀ s₁ mg mb G y a o pm cd doc dV kV h1 h2 h3 h4 h5 h6 args vals as' L h7 h8 h9 h10 h11 =>
  W w s₀ s₁ mg mb G (InK.keeps w _ _ (z_facts e y).2.1 L.keeps) a o pm cd doc dV kV h1 h2 h3 h4 h5 h6 args vals as' h7 h8 h9 h10 h11
end L2
set_option Elab.async false
set_option maxRecDepth 100000
set_option maxHeartbeats 4000000
set_option linter.all false
namespace My
open PySem L2
open List (length_map map_append getElem?_eq_getElem mem_of_getElem? getD_eq_getElem?_getD getElem_mem getElem?_map mem_append mem_singleton getElem?_eq_none mem_cons_of_mem mem_map length_append mem_cons_self take_length getElem?_of_mem length_take getElem?_set length_set map_congr_left mem_or_eq_of_mem_set mem_of_mem_take getElem?_append_left getElem?_append_right map_eq_nil_iff map_take take_of_length_le)
variable {C a af ag av d lf ll lv md p:Addr} {G H H' H0:Hp} {M x y z:Int} {Q:VK} {as ps rps:List Addr} {c h i j k m q q':Nat} {cont:List Nat->List V} {cs ks qs:List (List Nat)} {e:List Nat->Nat->Int×Int} {f g:Int×Int} {fb fg:List (Int×Int)} {kvs:List (List Key×V)} {ms ns:List Nat} {o:HO} {o3:Option V} {rs:List (List Int)} {s s':Nat->Nat} {v:V} {xs ys:List V} {α:Type}
theorem sz0:0<=sizeLine:=by decide
theorem sz1:1<=sizeLine:=by decide
theorem sz2:2<=sizeLine:=by decide
theorem sz3:3<=sizeLine:=by decide
theorem Lq0 {a:α} {l:List α}:(a::l)[0]?=some a:=rfl
theorem Lq1 {a:α} {l:List α}:(a::l)[i+1]?=l[i]?:=rfl
theorem Ls0 {a b:α} {l:List α}:(a::l).set 0 b=b::l:=rfl
theorem Ls1 {a b:α} {l:List α}:(a::l).set (i+1) b=a::l.set i b:=rfl
theorem Lca {a:α} {l k:List α}:a::l++k=a::(l++k):=rfl
theorem Lna {k:List α}:[]++k=k:=rfl
local macro_rules | `(tactic| dsimp! [$xs,*]) => `(tactic| (try dsimp only [$xs,*, Lq0, Lq1, Ls0, Ls1, cD, cE, cC]; try simp only [$xs,*, Lq0, Lq1, Ls0, Ls1, Option.some.injEq, exists_eq_left', V.int.injEq, V.ref.injEq, V.bl.injEq, List.cons.injEq, and_true, true_and, exists_and_left, exists_eq_left, and_assoc, cD, cE, cC, cY, fU, dL]))
local macro_rules | `(tactic| dsimp? [$xs,*]) => `(tactic| (try dsimp only [$xs,*, aP, aV, aJ, aB, tC, tOp, tUn, rI0, rI, rU, gS, nH, cK, gR, Zp, jF, Zo, fZ, jT, rLeI, Qm, rGeI, rEq, rNe, dI, aW, cQ, bE, tB, Yv, bS, aO, aC, aK, dS, lU, tCB, Mr, eI, cIsB, tSl, nG, fN, xA, dD, bW, Gx, tOrV, Mn, tOr, Zm, tPar, dJ, gG, bQ, gH, Lq0, Lq1, Ls0, Ls1, Lca, Lna, cD, cE, cC]; try simp only [$xs,*, aP, aV, aJ, aB, tC, tOp, tUn, rI0, rI, rU, gS, nH, cK, gR, Zp, jF, Zo, fZ, jT, rLeI, Qm, rGeI, rEq, rNe, dI, aW, cQ, bE, tB, Yv, bS, aO, aC, aK, dS, lU, tCB, Mr, eI, cIsB, tSl, nG, fN, xA, dD, bW, Gx, tOrV, Mn, tOr, Zm, tPar, dJ, gG, bQ, gH, Lq0, Lq1, Ls0, Ls1, Option.some.injEq, exists_eq_left', exists_eq_left, V.int.injEq, V.ref.injEq, V.bl.injEq, V.ty.injEq, List.cons.injEq, and_true, true_and, List.append_nil, exists_and_left, decide_eq_true_eq, Lca, Lna, and_assoc, cD, cE, cC, cY, fU, dL]))
local macro_rules | `(tactic| simp_arith [$xs,*]) => `(tactic| simp only [$xs,*, aP, aV, aJ, aB, tC, tOp, tUn, rI0, rI, rU, gS, nH, cK, gR, Zp, jF, Zo, fZ, jT, rLeI, Qm, rGeI, rEq, rNe, dI, aW, cQ, bE, tB, Yv, bS, aO, aC, aK, dS, lU, tCB, Mr, eI, cIsB, tSl, nG, fN, xA, dD, bW, Gx, tOrV, Mn, tOr, Zm, tPar, dJ, gG, bQ, gH, Lq0, Lq1, Ls0, Ls1, Option.some.injEq, exists_eq_left', exists_eq_left, V.int.injEq, V.ref.injEq, V.bl.injEq, V.ty.injEq, List.cons.injEq, and_true, true_and, List.append_nil, exists_and_left, decide_eq_true_eq, Lca, Lna, and_assoc, cD, cE, cC, cY, fU, dL])
theorem abs_eq (i:Int):(if i<0 then -i else i)=(i.natAbs:Int):=by split <;> omega
theorem Wf {ns:List Int} {k:Int} (h0:0<=k) (h:k<(ns.length:Int)):atI (List.map V.int ns) k=some (.int (ns.getD k.toNat 0)):=by
 have hk:k.toNat<ns.length:=by omega
 have e:=cF (xs:=List.map V.int ns) (j:=k.toNat) (v:=V.int (ns.getD k.toNat 0)) (by
  rw [getElem?_map,getElem?_eq_getElem hk,getD_eq_getElem?_getD,getElem?_eq_getElem hk];rfl)
 rwa [Int.toNat_of_nonneg h0] at e
theorem kX {a:α} {l:List α}:atI (a::l) 0=some a:=cF (j:=0) rfl
theorem gQ {a b:α} {l:List α}:atI (a::b::l) 1=some b:=cF (j:=1) rfl
theorem atI2 {a b c:α} {l:List α}:atI (a::b::c::l) 2=some c:=cF (j:=2) rfl
structure Lo (t b x y:Int):Prop where
 pos:0<y
 cop:Int.gcd x y=1
 eq:x*b=t*y
 bx:x.natAbs<=t.natAbs
 by_:y.natAbs<=b.natAbs
theorem lo_of {t b g q r:Int} (hb:b≠0) (hg:g≠0) (ht:t=g*q) (hbr:b=g*r) (hr:0<r) (hc:Int.gcd q r=1):Lo t b (t.fdiv g) (b.fdiv g):=by
 have e1:t.fdiv g=q:=by rw [ht,Int.mul_fdiv_cancel_left _ hg]
 have e2:b.fdiv g=r:=by rw [hbr,Int.mul_fdiv_cancel_left _ hg]
 rw [e1,e2]
 have hg1:1<=g.natAbs:=by omega
 refine ⟨hr,hc,by rw [ht,hbr];rw [Int.mul_left_comm,Int.mul_assoc],?_,?_⟩
 ·rw [ht,Int.natAbs_mul];exact Nat.le_mul_of_pos_left _ hg1
 ·rw [hbr,Int.natAbs_mul];exact Nat.le_mul_of_pos_left _ hg1
theorem yQ {t b:Int} (hb:b≠0):∃ q r:Int,t=(Int.gcd t b:Nat)*q/\b=(Int.gcd t b:Nat)*r/\Int.gcd q r=1/\0<Int.gcd t b:=by
 have hp:0<Int.gcd t b:=Int.gcd_pos_of_ne_zero_right _ hb
 obtain ⟨q,hq⟩:=Int.gcd_dvd_left (a:=t) (b:=b)
 obtain ⟨r,hr⟩:=Int.gcd_dvd_right (a:=t) (b:=b)
 refine ⟨q,r,hq,hr,?_,hp⟩
 have e:Int.gcd t b=Int.gcd ((Int.gcd t b:Nat)*q) ((Int.gcd t b:Nat)*r):=by rw [← hq,← hr]
 rw [Int.gcd_mul_left,Int.natAbs_natCast] at e
 exact Nat.eq_of_mul_eq_mul_left hp (by rw [Nat.mul_one];exact e.symm)
theorem lo_pos {t b:Int} (hb:0<b):Lo t b (t.fdiv (Int.gcd t b:Nat)) (b.fdiv (Int.gcd t b:Nat)):=by
 obtain ⟨q,r,h1,h2,h3,h4⟩:=yQ (t:=t) (b:=b) (by omega)
 refine lo_of (q:=q) (r:=r) (by omega) (by omega) h1 h2 ?_ h3
 rcases Int.lt_trichotomy r 0 with h | h | h
 ·have:(Int.gcd t b:Int)*r<0:=Int.mul_neg_of_pos_of_neg (by omega) h
  omega
 ·rw [h,Int.mul_zero] at h2;omega
 ·exact h
theorem lo_neg {t b:Int} (hb:b<0):Lo t b (t.fdiv (-(Int.gcd t b:Nat))) (b.fdiv (-(Int.gcd t b:Nat))):=by
 obtain ⟨q,r,h1,h2,h3,h4⟩:=yQ (t:=t) (b:=b) (by omega)
 refine lo_of (q:=-q) (r:=-r) (by omega) (by omega) (by rw [Int.neg_mul_neg];exact h1) (by rw [Int.neg_mul_neg];exact h2) ?_ (by rw [Int.gcd,Int.natAbs_neg,Int.natAbs_neg];exact h3)
 rcases Int.lt_trichotomy r 0 with h | h | h
 ·omega
 ·rw [h,Int.mul_zero] at h2;omega
 ·have:(Int.gcd t b:Int)*r > 0:=Int.mul_pos (by omega) h
  omega
noncomputable def intO:Option V->Int
 | some (.int i)=>i
 | _=>0
noncomputable def aS (K:W.Frag) (H:Hp):List Addr->List (Int×Int)->Prop
 | [],[]=>True
 | p::ps,f::fs=>SqT K H p [.int f.1,.int f.2]/\aS K H ps fs
 | _,_=>False
noncomputable def Gd (m:Nat) (f:Int×Int):Prop:=0<f.2/\BB m f.1/\BB m f.2
theorem aS.same {K:W.Frag} (s:aF H H'):∀ {ps:List Addr} {fs:List (Int×Int)},aS K H ps fs->aS K H' ps fs
 | [],[],_=>trivial
 | _::_,_::_,h=>⟨s.tup h.1,h.2.same s⟩
 | [],_::_,h=>h.elim
 | _::_,[],h=>h.elim
theorem aS.length {K:W.Frag}:∀ {ps:List Addr} {fs:List (Int×Int)},aS K H ps fs->ps.length=fs.length
 | [],[],_=>rfl
 | _::_,_::_,h=>by rw [List.length_cons,List.length_cons,h.2.length]
 | [],_::_,h=>h.elim
 | _::_,[],h=>h.elim
theorem aS.get {K:W.Frag}:∀ {ps:List Addr} {fs:List (Int×Int)} {i:Nat} {p:Addr},aS K H ps fs->ps[i]?=some p->∃ f,fs[i]?=some f/\SqT K H p [.int f.1,.int f.2]
 | [],[],_,_,_,e=>by simp at e
 | _::_,f::_,0,_,h,e=>by simp at e;subst e;exact ⟨f,rfl,h.1⟩
 | _::_,_::_,i+1,_,h,e=>by
  obtain ⟨f,e1,e2⟩:=h.2.get (i:=i) (by simpa using e)
  exact ⟨f,by simpa using e1,e2⟩
 | [],_::_,_,_,h,_=>h.elim
 | _::_,[],_,_,h,_=>h.elim
theorem aS.set {K:W.Frag} {q:Addr} (hq:SqT K H q [.int g.1,.int g.2]):∀ {ps:List Addr} {fs:List (Int×Int)} (i:Nat),aS K H ps fs->aS K H (ps.set i q) (fs.set i g)
 | [],[],_,_=>trivial
 | _::_,_::_,0,h=>⟨hq,h.2⟩
 | _::_,_::_,i+1,h=>⟨h.1,aS.set hq i h.2⟩
 | [],_::_,_,h=>h.elim
 | _::_,[],_,h=>h.elim
theorem aS.append {K:W.Frag} {qs:List Addr} {gs:List (Int×Int)} (hq:aS K H qs gs):∀ {ps:List Addr} {fs:List (Int×Int)},aS K H ps fs->aS K H (ps++qs) (fs++gs)
 | [],[],_=>hq
 | _::_,_::_,h=>⟨h.1,aS.append hq h.2⟩
 | [],_::_,h=>h.elim
 | _::_,[],h=>h.elim
theorem aS.off {K:W.Frag} {r:Addr} {zs:List V} (hr:H r=some (.lst ys)):∀ {ps:List Addr} {fs:List (Int×Int)},aS K H ps fs->aS K (upd H r (.lst zs)) ps fs
 | [],[],_=>trivial
 | _::_,_::_,h=>⟨h.1.off hr,h.2.off hr⟩
 | [],_::_,h=>h.elim
 | _::_,[],h=>h.elim
theorem bK {x:V} (h:(List.map V.ref ps)[i]?=some x):∃ p,x=.ref p/\ps[i]?=some p:=by
 rw [getElem?_map] at h
 cases e:ps[i]? with
 | none=>rw [e] at h;cases h
 | some z=>rw [e] at h;exact ⟨z,(Option.some.inj h).symm,rfl⟩
theorem cU {ns:List Int} {x:V} (h:(List.map V.int ns)[i]?=some x):∃ c,x=.int c/\ns[i]?=some c:=by
 rw [getElem?_map] at h
 cases e:ns[i]? with
 | none=>rw [e] at h;cases h
 | some z=>rw [e] at h;exact ⟨z,(Option.some.inj h).symm,rfl⟩
theorem bC {l:List α} {x:α} (h:l[i]?=some x):l.take (i+1)=l.take i++[x]:=by
 rw [List.take_succ,h];rfl
noncomputable def WEq (H:Hp) (P:Nat->List V->Prop):Nat->List V->Hp->Prop:=λ i zs H5=>H5=H/\P i zs
noncomputable def SEq (H:Hp) (P:Nat->St->Prop):Nat->St->Hp->Prop:=λ i σ H5=>H5=H/\P i σ
noncomputable def glf (g n:Int):Int:=((Int.gcd g n:Nat):Int)
noncomputable def gl (ns:List Int):Int:=ns.foldl glf 0
theorem gl_snoc {ns:List Int} {c:Int} (h:ns[i]?=some c):gl (ns.take (i+1))=glf (gl (ns.take i)) c:=by
 unfold gl;rw [bC h,List.foldl_append];rfl
theorem Vp:∀ l:List Int,l.foldl glf 1=1
 | []=>rfl
 | a::r=>by
  have e:glf 1 a=1:=by unfold glf;rw [Int.gcd];simp
  rw [List.foldl_cons,e];exact Vp r
theorem gl_one {ns:List Int} (h:gl (ns.take i)=1):gl ns=1:=by
 unfold gl at h ⊢
 rw [← List.take_append_drop i ns,List.foldl_append,h]
 exact Vp _
theorem Er:∀ (l:List Int) (g:Int),0<=g->0<=l.foldl glf g
 | [],_,h=>h
 | a::r,g,_=>by rw [List.foldl_cons];exact Er r _ (by unfold glf;omega)
theorem Il (ns:List Int):0<=gl ns:=Er ns 0 (by decide)
theorem Vq:∀ (l:List Int) (g:Int),l.foldl glf g∣g/\∀ n∈l,l.foldl glf g∣n
 | [],g=>⟨Int.dvd_refl _,λ _ h=>nomatch h⟩
 | a::r,g=>by
  rw [List.foldl_cons]
  obtain ⟨h1,h2⟩:=Vq r (glf g a)
  have d1:glf g a∣g:=Int.gcd_dvd_left (a:=g) (b:=a)
  have d2:glf g a∣a:=Int.gcd_dvd_right (a:=g) (b:=a)
  refine ⟨Int.dvd_trans h1 d1,λ n hn=>?_⟩
  rcases List.mem_cons.mp hn with rfl | hn
  ·exact Int.dvd_trans h1 d2
  ·exact h2 n hn
theorem gl_dvd {ns:List Int} {n:Int} (h:n∈ns):gl ns∣n:=(Vq ns 0).2 n h
theorem On:∀ (l:List Int),(∀ n∈l,n=0)->l.foldl glf 0=0
 | [],_=>rfl
 | a::r,h=>by
  rw [List.foldl_cons,h a mem_cons_self]
  exact On r λ n hn=>h n (mem_cons_of_mem _ hn)
theorem Uh {ns:List Int} (h:∀ n∈ns,BB m n):BB m (gl ns):=by
 by_cases hz:∃ n∈ns,n≠0
 ·obtain ⟨n,hn,n0⟩:=hz
  refine (h n hn).of_le (Nat.le_of_dvd (by omega) (Int.natAbs_dvd_natAbs.mpr (gl_dvd hn)))
 ·have:gl ns=0:=On ns λ n hn=>Classical.byContradiction λ c=>hz ⟨n,hn,c⟩
  rw [this]
  unfold BB
  exact Nat.two_pow_pos _
noncomputable def pB (ns:List Int):List Int:=if gl ns<2 then ns else ns.map λ n=>n.fdiv (gl ns)
theorem tW (ns:List Int):(pB ns).length=ns.length:=by
 unfold pB;split
 ·rfl
 ·rw [length_map]
theorem El {ns:List Int} {n:Int} (h:ns[i]?=some n):∃ t,(pB ns)[i]?=some t/\t*(if 1 > gl ns then 1 else gl ns)=n:=by
 have g0:=Il ns
 have hm:n∈ns:=mem_of_getElem? h
 unfold pB
 by_cases h2:gl ns<2
 ·rw [if_pos h2]
  refine ⟨n,h,?_⟩
  have:(if 1 > gl ns then (1:Int) else gl ns)=1:=by split <;> omega
  rw [this,Int.mul_one]
 ·rw [if_neg h2,if_neg (by omega)]
  refine ⟨n.fdiv (gl ns),by rw [getElem?_map,h];rfl,?_⟩
  obtain ⟨z,hz⟩:=gl_dvd hm
  have e:n.fdiv (gl ns)=z:=by
   conv=>lhs;rw [hz]
   exact Int.mul_fdiv_cancel_left _ (by omega)
  rw [e,Int.mul_comm];exact hz.symm
theorem Hz {ns:List Int} (h:∀ n∈ns,BB m n):∀ n∈pB ns,BB m n:=by
 intro t ht
 obtain ⟨i,hi⟩:=getElem?_of_mem ht
 have hlt:i<ns.length:=by rw [← tW];exact (List.getElem?_eq_some_iff.mp hi).1
 obtain ⟨t',e1,e2⟩:=El (getElem?_eq_getElem hlt)
 rw [hi] at e1
 obtain rfl:t=t':=Option.some.inj e1
 refine (h _ (getElem_mem hlt)).of_le ?_
 rw [← e2,Int.natAbs_mul]
 have g0:=Il ns
 refine Nat.le_mul_of_pos_right _ ?_
 split <;> omega
theorem Bx {n:Nat} {k:Int} (h0:0<=k) (h:k<n):ixN n k=some k.toNat:=by
 unfold ixN
 rw [if_pos h0,if_pos h]
noncomputable def lcf (n:Int) (f:Int×Int):Int:=n*(f.2.fdiv ((Int.gcd n f.2:Nat):Int))
noncomputable def lc (fs:List (Int×Int)):Int:=fs.foldl lcf 1
noncomputable def clr (fs:List (Int×Int)):List Int:=fs.map λ f=>f.1*((lc fs).fdiv f.2)
theorem lc_snoc {fs:List (Int×Int)} (h:fs[i]?=some f):lc (fs.take (i+1))=lcf (lc (fs.take i)) f:=by
 unfold lc;rw [bC h,List.foldl_append];rfl
theorem Rf {n:Int} (hn:0<n) (hb:0<f.2):0<lcf n f/\n∣lcf n f/\f.2∣lcf n f/\(∀ M,n∣M->f.2∣M->lcf n f∣M)/\(f.2.fdiv ((Int.gcd n f.2:Nat):Int)).natAbs<=f.2.natAbs:=by
 obtain ⟨q,r,h1,h2,h3,h4⟩:=yQ (t:=n) (b:=f.2) (by omega)
 have e:f.2.fdiv ((Int.gcd n f.2:Nat):Int)=r:=by
  conv=>lhs;lhs;rw [h2]
  exact Int.mul_fdiv_cancel_left _ (by omega)
 unfold lcf
 rw [e]
 generalize Int.gcd n f.2=g at h1 h2 h4
 have r0:0<r:=by
  rcases Int.lt_trichotomy r 0 with h | h | h
  ·have:(g:Int)*r<0:=Int.mul_neg_of_pos_of_neg (by omega) h
   omega
  ·rw [h,Int.mul_zero] at h2;omega
  ·exact h
 refine ⟨Int.mul_pos hn r0,⟨r,rfl⟩,⟨q,?_⟩,λ M d1 d2=>?_,?_⟩
 ·rw [h1,h2];ac_rfl
 ·obtain ⟨x,hx⟩:=d1
  obtain ⟨y,hy⟩:=d2
  have e2:q*x=r*y:=by
   apply Int.eq_of_mul_eq_mul_left (show (g:Int)≠0 by omega)
   rw [← Int.mul_assoc,← Int.mul_assoc,← h1,← h2,← hx,← hy]
  have d3:r∣x:=Int.natAbs_dvd_natAbs.mp (Nat.Coprime.dvd_of_dvd_mul_left (m:=q.natAbs) (Nat.Coprime.symm h3) (by rw [← Int.natAbs_mul];exact Int.natAbs_dvd_natAbs.mpr ⟨y,e2⟩))
  obtain ⟨z,hz⟩:=d3
  exact ⟨z,by rw [hx,hz,Int.mul_assoc]⟩
 ·rw [h2,Int.natAbs_mul];exact Nat.le_mul_of_pos_left _ (by omega)
theorem xL:∀ (fs:List (Int×Int)) (n:Int),0<n->(∀ f∈fs,0<f.2)->0<fs.foldl lcf n/\n∣fs.foldl lcf n/\(∀ f∈fs,f.2∣fs.foldl lcf n)/\∀ M,n∣M->(∀ f∈fs,f.2∣M)->fs.foldl lcf n∣M
 | [],n,hn,_=>⟨hn,Int.dvd_refl _,(λ _ h=>nomatch h),λ _ h _=>h⟩
 | a::r,n,hn,h=>by
  rw [List.foldl_cons]
  obtain ⟨a1,a2,a3,a4,_⟩:=Rf hn (h a mem_cons_self)
  obtain ⟨b1,b2,b3,b4⟩:=xL r (lcf n a) a1 λ f hf=>h f (mem_cons_of_mem _ hf)
  refine ⟨b1,Int.dvd_trans a2 b2,λ f hf=>?_,λ M d1 d2=>b4 M (a4 M d1 (d2 a mem_cons_self)) λ f hf=>d2 f (mem_cons_of_mem _ hf)⟩
  rcases List.mem_cons.mp hf with rfl | hf
  ·exact Int.dvd_trans a3 b2
  ·exact b3 f hf
theorem Rg {fs:List (Int×Int)} (h:∀ f∈fs,0<f.2):0<lc fs:=(xL fs 1 (by decide) h).1
theorem clr_eq {fs:List (Int×Int)} (h:∀ f∈fs,0<f.2) (hf:f∈fs):f.1*((lc fs).fdiv f.2)*f.2=f.1*lc fs:=by
 obtain ⟨k,hk⟩:=(xL fs 1 (by decide) h).2.2.1 f hf
 have hk:lc fs=f.2*k:=hk
 have e:(lc fs).fdiv f.2=k:=by rw [hk];exact Int.mul_fdiv_cancel_left _ (by have:=h f hf;omega)
 rw [e,hk];ac_rfl
theorem Wc {fs:List (Int×Int)} (h:fs[i]?=some f):(clr fs)[i]?=some (f.1*((lc fs).fdiv f.2)):=by
 unfold clr;rw [getElem?_map,h];rfl
noncomputable def bL (H:Hp):List Addr->List (List Int)->Prop
 | [],[]=>True
 | p::ps,r::rs=>H p=some (.lst (List.map V.int r))/\bL H ps rs
 | _,_=>False
theorem bL.same (s:aF H H'):∀ {ps:List Addr} {rs:List (List Int)},bL H ps rs->bL H' ps rs
 | [],[],_=>trivial
 | _::_,_::_,h=>⟨s _ _ h.1,h.2.same s⟩
 | [],_::_,h=>h.elim
 | _::_,[],h=>h.elim
theorem bL.length:∀ {ps:List Addr} {rs:List (List Int)},bL H ps rs->ps.length=rs.length
 | [],[],_=>rfl
 | _::_,_::_,h=>by rw [List.length_cons,List.length_cons,h.2.length]
 | [],_::_,h=>h.elim
 | _::_,[],h=>h.elim
theorem bL.get:∀ {ps:List Addr} {rs:List (List Int)} {i:Nat} {p:Addr},bL H ps rs->ps[i]?=some p->∃ r,rs[i]?=some r/\H p=some (.lst (List.map V.int r))
 | [],[],_,_,_,e=>by simp at e
 | _::_,r::_,0,_,h,e=>by simp at e;subst e;exact ⟨r,rfl,h.1⟩
 | _::_,_::_,i+1,_,h,e=>by
  obtain ⟨f,e1,e2⟩:=h.2.get (i:=i) (by simpa using e)
  exact ⟨f,by simpa using e1,e2⟩
 | [],_::_,_,_,h,_=>h.elim
 | _::_,[],_,_,h,_=>h.elim
theorem bL.has (h:bL H ps rs) (hp:p∈ps):∃ r,r∈rs/\H p=some (.lst (List.map V.int r)):=by
 obtain ⟨i,hi⟩:=getElem?_of_mem hp
 obtain ⟨r,e1,e2⟩:=h.get hi
 exact ⟨r,mem_of_getElem? e1,e2⟩
theorem bL.append {qs:List Addr} {gs:List (List Int)} (hq:bL H qs gs):∀ {ps:List Addr} {rs:List (List Int)},bL H ps rs->bL H (ps++qs) (rs++gs)
 | [],[],_=>hq
 | _::_,_::_,h=>⟨h.1,bL.append hq h.2⟩
 | [],_::_,h=>h.elim
 | _::_,[],h=>h.elim
theorem bL.snoc {q:Addr} {g:List Int} (h:bL H ps rs) (hq:H q=some (.lst (List.map V.int g))):bL H (ps++[q]) (rs++[g]):=bL.append (show bL H [q] [g] from ⟨hq,trivial⟩) h
theorem bL.put {q:Addr}:∀ {ps:List Addr} {rs:List (List Int)},q∉ps->bL H ps rs->bL (upd H q o) ps rs
 | [],[],_,_=>trivial
 | p::_,_::_,hn,h=>⟨by rw [aR (λ e:p=q=>hn (by rw [e];exact mem_cons_self))];exact h.1,bL.put (λ z=>hn (mem_cons_of_mem _ z)) h.2⟩
 | [],_::_,_,h=>h.elim
 | _::_,[],_,h=>h.elim
theorem bL.setr {q:Addr} {g:List Int} (hq:H q=some (.lst (List.map V.int g))):∀ {ps:List Addr} {rs:List (List Int)} (i:Nat),bL H ps rs->bL H (ps.set i q) (rs.set i g)
 | [],[],_,_=>trivial
 | _::_,_::_,0,h=>⟨hq,h.2⟩
 | _::_,_::_,i+1,h=>⟨h.1,bL.setr hq i h.2⟩
 | [],_::_,_,h=>h.elim
 | _::_,[],_,h=>h.elim
theorem jK {l:List Int} (h:i<l.length):l.getD i 0∈l:=by
 rw [getD_eq_getElem?_getD,getElem?_eq_getElem h];exact getElem_mem h
theorem gC {l:List Int} (h:i<l.length):atI (List.map V.int l) (i:Int)=some (.int (l.getD i 0)):=by
 have:=Wf (ns:=l) (k:=(i:Int)) (by omega) (by omega)
 rwa [Int.toNat_natCast] at this
theorem jZW {l:List Int} (h:i<l.length):l[i]?=some (l.getD i 0):=by
 rw [getD_eq_getElem?_getD,getElem?_eq_getElem h];rfl
theorem Dx {xs:List α} {x:α} (h:xs[xs.length - 1]?=some x):atI xs (-1)=some x:=by
 have hl:xs.length - 1<xs.length:=(List.getElem?_eq_some_iff.mp h).1
 unfold atI ixN
 rw [if_neg (by omega),if_pos (by omega)]
 show xs[(-1+(xs.length:Int)).toNat]?=some x
 rw [show (-1+(xs.length:Int)).toNat=xs.length - 1 by omega]
 exact h
noncomputable def lx (a b:List Int) (c:Nat):List Nat->Option Bool
 | []=>none
 | p::r=>if a.getD p 0*b.getD c 0=b.getD p 0*a.getD c 0 then lx a b c r else some (decide (a.getD p 0*b.getD c 0<b.getD p 0*a.getD c 0))
theorem Vj {a b:List Int} {c:Nat}:∀ (l:List Nat),lx b a c l=(lx a b c l).map (!·)
 | []=>rfl
 | p::r=>by
  unfold lx
  by_cases h:a.getD p 0*b.getD c 0=b.getD p 0*a.getD c 0
  ·rw [if_pos h,if_pos h.symm];exact Vj r
  ·rw [if_neg h,if_neg (λ e=>h e.symm)]
   show some _=some _
   congr 1
   by_cases h2:a.getD p 0*b.getD c 0<b.getD p 0*a.getD c 0
   ·rw [decide_eq_true h2,decide_eq_false (by omega)];rfl
   ·rw [decide_eq_false h2,decide_eq_true (by omega)];rfl
theorem Om {a b k:List Int} {c:Nat} (ha:0<a.getD c 0) (hb:0<b.getD c 0) (hk:0<k.getD c 0):∀ (l:List Nat),lx a b c l=some true->lx b k c l≠some false->lx a k c l=some true
 | [],h,_=>by cases h
 | p::r,h1,h2=>by
  have ih:=Om ha hb hk r
  unfold lx at h1 h2 ⊢
  generalize a.getD c 0=ac at *
  generalize b.getD c 0=bc at *
  generalize k.getD c 0=kc at *
  generalize a.getD p 0=ap at *
  generalize b.getD p 0=bp at *
  generalize k.getD p 0=kp at *
  have m1:ap*bc*kc=ap*kc*bc:=by ac_rfl
  have m2:bp*ac*kc=bp*kc*ac:=by ac_rfl
  have m3:kp*bc*ac=kp*ac*bc:=by ac_rfl
  have fin:ap*kc*bc<kp*ac*bc->(if ap*kc=kp*ac then lx a k c r else some (decide (ap*kc<kp*ac)))=some true:=λ h=>by
   have:ap*kc<kp*ac:=Int.lt_of_mul_lt_mul_right h (by omega)
   rw [if_neg (by omega),decide_eq_true this]
  by_cases e1:ap*bc=bp*ac
  ·rw [if_pos e1] at h1
   have t1:ap*bc*kc=bp*ac*kc:=by rw [e1]
   by_cases e2:bp*kc=kp*bc
   ·rw [if_pos e2] at h2
    have t2:bp*kc*ac=kp*bc*ac:=by rw [e2]
    have:ap*kc=kp*ac:=Int.eq_of_mul_eq_mul_right (show bc≠0 by omega) (by omega)
    rw [if_pos this]
    exact ih h1 h2
   ·rw [if_neg e2] at h2
    have h3:bp*kc<kp*bc:=Classical.byContradiction λ z=>h2 (by rw [decide_eq_false z])
    have t2:bp*kc*ac<kp*bc*ac:=Int.mul_lt_mul_of_pos_right h3 ha
    exact fin (by omega)
  ·rw [if_neg e1] at h1
   have h3:ap*bc<bp*ac:=by simpa using h1
   have t1:ap*bc*kc<bp*ac*kc:=Int.mul_lt_mul_of_pos_right h3 hk
   by_cases e2:bp*kc=kp*bc
   ·have t2:bp*kc*ac=kp*bc*ac:=by rw [e2]
    exact fin (by omega)
   ·rw [if_neg e2] at h2
    have h3:bp*kc<kp*bc:=Classical.byContradiction λ z=>h2 (by rw [decide_eq_false z])
    have t2:bp*kc*ac<kp*bc*ac:=Int.mul_lt_mul_of_pos_right h3 ha
    exact fin (by omega)
noncomputable def Lv (rs:List (List Int)) (c:Nat) (l:List Nat) (i:Nat):Option Nat->Prop
 | none=>∀ k row,k<i->rs[k]?=some row->¬ 0<row.getD c 0
 | some f=>f<i/\∃ fr,rs[f]?=some fr/\0<fr.getD c 0/\∀ k row,k<i->rs[k]?=some row->0<row.getD c 0->lx fr row c l≠some false/\(lx fr row c l=none->f<=k)
theorem Lv.skip {l:List Nat} {o:Option Nat} {row:List Int} (h:Lv rs c l i o) (hr:rs[i]?=some row) (hn:¬ 0<row.getD c 0):Lv rs c l (i+1) o:=by
 cases o with
 | none =>
  intro k row' hk e
  by_cases hki:k<i
  ·exact h k row' hki e
  ·have:k=i:=by omega
   subst this
   rw [hr] at e
   obtain rfl:=Option.some.inj e
   exact hn
 | some f =>
  obtain ⟨h1,fr,h2,h3,h4⟩:=h
  refine ⟨by omega,fr,h2,h3,λ k row' hk e hp=>?_⟩
  by_cases hki:k<i
  ·exact h4 k row' hki e hp
  ·have:k=i:=by omega
   subst this
   rw [hr] at e
   obtain rfl:=Option.some.inj e
   exact absurd hp hn
theorem Kw {a:List Int} {c:Nat}:∀ l:List Nat,lx a a c l=none
 | []=>rfl
 | p::r=>by unfold lx;rw [if_pos rfl];exact Kw r
theorem Lv.first {l:List Nat} {row:List Int} (h:Lv rs c l i none) (hr:rs[i]?=some row) (hp:0<row.getD c 0):Lv rs c l (i+1) (some i):=by
 refine ⟨by omega,row,hr,hp,λ k row' hk e hp'=>?_⟩
 by_cases hki:k<i
 ·exact absurd hp' (h k row' hki e)
 ·have:k=i:=by omega
  subst this
  rw [hr] at e
  obtain rfl:=Option.some.inj e
  rw [Kw]
  exact ⟨by simp,λ _=>Nat.le_refl _⟩
theorem Lv.keep {l:List Nat} {f:Nat} {row fr:List Int} (h:Lv rs c l i (some f)) (hf:rs[f]?=some fr) (hr:rs[i]?=some row) (hp:0<row.getD c 0) (ha:lx row fr c l≠some true):Lv rs c l (i+1) (some f):=by
 obtain ⟨h1,fr',h2,h3,h4⟩:=h
 rw [hf] at h2
 obtain rfl:=Option.some.inj h2
 refine ⟨by omega,fr,hf,h3,λ k row' hk e hp'=>?_⟩
 by_cases hki:k<i
 ·exact h4 k row' hki e hp'
 ·have:k=i:=by omega
  subst this
  rw [hr] at e
  obtain rfl:=Option.some.inj e
  refine ⟨λ z=>ha ?_,λ _=>by omega⟩
  rw [Vj (a:=fr) (b:=row),z];rfl
theorem Lv.take {l:List Nat} {f:Nat} {row fr:List Int} (h:Lv rs c l i (some f)) (hf:rs[f]?=some fr) (hr:rs[i]?=some row) (hp:0<row.getD c 0) (ha:lx row fr c l=some true):Lv rs c l (i+1) (some i):=by
 obtain ⟨h1,fr',h2,h3,h4⟩:=h
 rw [hf] at h2
 obtain rfl:=Option.some.inj h2
 refine ⟨by omega,row,hr,hp,λ k row' hk e hp'=>?_⟩
 by_cases hki:k<i
 ·have:=Om hp h3 hp' l ha (h4 k row' hki e hp').1
  rw [this]
  exact ⟨by simp,λ z=>by cases z⟩
 ·have:k=i:=by omega
  subst this
  rw [hr] at e
  obtain rfl:=Option.some.inj e
  rw [Kw]
  exact ⟨by simp,λ _=>Nat.le_refl _⟩
noncomputable def sm:Nat->(Nat->Int)->Int
 | 0,_=>0
 | n+1,f=>sm n f+f n
theorem cT:∀ {n:Nat} {f g:Nat->Int},(∀ k,k<n->f k=g k)->sm n f=sm n g
 | 0,_,_,_=>rfl
 | n+1,f,g,h=>by
  show sm n f+f n=sm n g+g n
  rw [cT (n:=n) λ k hk=>h k (by omega),h n (by omega)]
theorem eY:∀ {n:Nat} {f:Nat->Int},(∀ k,k<n->f k=0)->sm n f=0
 | 0,_,_=>rfl
 | n+1,f,h=>by
  show sm n f+f n=0
  rw [eY (n:=n) λ k hk=>h k (by omega),h n (by omega)];rfl
theorem qW (a b:Int):∀ (n:Nat) (f g:Nat->Int),sm n (λ k=>a*f k+b*g k)=a*sm n f+b*sm n g
 | 0,_,_=>by show (0:Int)=a*0+b*0;simp
 | n+1,f,g=>by
  show sm n (λ k=>a*f k+b*g k)+(a*f n+b*g n)=a*(sm n f+f n)+b*(sm n g+g n)
  rw [qW a b n f g,Int.mul_add,Int.mul_add];omega
theorem iW {p:Nat}:∀ {n:Nat} {f:Nat->Int},p<n->(∀ k,k<n->k≠p->f k=0)->sm n f=f p
 | 0,_,h,_=>absurd h (Nat.not_lt_zero _)
 | n+1,f,hp,h=>by
  show sm n f+f n=f p
  by_cases e:p=n
  ·rw [eY (n:=n) λ k hk=>h k (by omega) (by omega),e];omega
  ·rw [iW (n:=n) (by omega) λ k hk hne=>h k (by omega) hne,h n (by omega) (by omega)];omega
theorem Jv {p q:Nat}:∀ {n:Nat} {f:Nat->Int},p<q->q<n->(∀ k,k<n->k≠p->k≠q->f k=0)->sm n f=f p+f q
 | 0,_,_,h,_=>absurd h (Nat.not_lt_zero _)
 | n+1,f,hpq,hq,h=>by
  show sm n f+f n=f p+f q
  by_cases e:q=n
  ·rw [iW (p:=p) (n:=n) (by omega) λ k hk hne=>h k (by omega) hne (by omega),e]
  ·rw [Jv (n:=n) hpq (by omega) λ k hk h1 h2=>h k (by omega) h1 h2,h n (by omega) (by omega) (by omega)];omega
noncomputable def sg (k:Nat):Int:=if k % 2=0 then 1 else -1
theorem sg_succ (k:Nat):sg (k+1) = - sg k:=by
 unfold sg
 split <;> split <;> omega
theorem sg_abs (k:Nat):(sg k).natAbs=1:=by unfold sg;split <;> rfl
noncomputable def skp (k i:Nat):Nat:=if i<k then i else i+1
theorem skp_ne (k i:Nat):skp k i≠k:=by unfold skp;split <;> omega
theorem skp_lt {n:Nat} (h:i<n):skp k i<n+1:=by unfold skp;split <;> omega
theorem skp_inj (h:skp k i=skp k j):i=j:=by unfold skp at h;split at h <;> split at h <;> omega
theorem jJU {n:Nat} (hk:k<n+1) (hj:j<n+1) (hne:j≠k):∃ i,i<n/\skp k i=j:=by
 unfold skp
 by_cases h:j<k
 ·exact ⟨j,by omega,by rw [if_pos h]⟩
 ·exact ⟨j - 1,by omega,by rw [if_neg (by omega)];omega⟩
noncomputable abbrev Mx:=Nat->Nat->Int
noncomputable def mnr (M:Mx) (k:Nat):Mx:=λ i r=>M (skp k i) (r+1)
noncomputable def det:Nat->Mx->Int
 | 0,_=>1
 | n+1,M=>sm (n+1) λ k=>sg k*M k 0*det n (mnr M k)
theorem tI:∀ {n:Nat} {M L:Mx},(∀ i,i<n->∀ r,r<n->M i r=L i r)->det n M=det n L
 | 0,_,_,_=>rfl
 | n+1,M,L,h=>by
  refine cT λ k hk=>?_
  rw [h k hk 0 (by omega),tI (n:=n) (M:=mnr M k) (L:=mnr L k) λ i hi r hr=>h _ (skp_lt hi) _ (by omega)]
noncomputable def pt (M:Mx) (j:Nat) (v:Nat->Int):Mx:=λ i=>if i=j then v else M i
theorem nI (M:Mx) (j:Nat) (v:Nat->Int):pt M j v j=v:=by unfold pt;rw [if_pos rfl]
theorem gJ (M:Mx) (v:Nat->Int) (h:i≠j):pt M j v i=M i:=by unfold pt;rw [if_neg h]
theorem vN (M:Mx) (j:Nat):pt M j (M j)=M:=by
 funext i;unfold pt;split
 ·rename_i e;rw [e]
 ·rfl
theorem pt_pt (M:Mx) (j:Nat) (u v:Nat->Int):pt (pt M j u) j v=pt M j v:=by
 funext i;unfold pt;split <;> rfl
theorem sR (M:Mx) (h:i≠j) (u v:Nat->Int):pt (pt M i u) j v=pt (pt M j v) i u:=by
 funext k;unfold pt
 by_cases h1:k=j
 ·rw [if_pos h1,if_neg (by omega),if_pos h1]
 ·rw [if_neg h1]
  by_cases h2:k=i
  ·rw [if_pos h2,if_pos h2]
  ·rw [if_neg h2,if_neg h2,if_neg h1]
theorem rR (M:Mx) (k:Nat) (v:Nat->Int):mnr (pt M k v) k=mnr M k:=by
 funext i r
 show pt M k v (skp k i) (r+1)=M (skp k i) (r+1)
 rw [gJ _ _ (skp_ne k i)]
theorem Re (M:Mx) {j':Nat} (v:Nat->Int):mnr (pt M (skp k j') v) k=pt (mnr M k) j' (λ r=>v (r+1)):=by
 funext i r
 show pt M (skp k j') v (skp k i) (r+1)=_
 unfold pt
 by_cases h:i=j'
 ·rw [if_pos h,if_pos (by rw [h])]
 ·rw [if_neg h,if_neg (λ e=>h (skp_inj e))];rfl
theorem Lb (a b:Int):∀ {n:Nat} (M:Mx) {j:Nat} (u v:Nat->Int),j<n->det n (pt M j (λ r=>a*u r+b*v r))=a*det n (pt M j u)+b*det n (pt M j v)
 | 0,_,_,_,_,h=>absurd h (Nat.not_lt_zero _)
 | n+1,M,j,u,v,hj=>by
  show sm (n+1) _=a*sm (n+1) _+b*sm (n+1) _
  rw [← qW]
  refine cT λ k hk=>?_
  by_cases e:k=j
  ·subst e
   rw [nI,nI,nI,rR,rR,rR]
   grind
  ·obtain ⟨j',hj',ej⟩:=jJU hk hj (λ z=>e z.symm)
   rw [gJ _ _ e,gJ _ _ e,gJ _ _ e,← ej,Re,Re,Re,Lb a b (mnr M k) (λ r=>u (r+1)) (λ r=>v (r+1)) hj']
   grind
theorem Cc:∀ {n:Nat} {M:Mx} {p:Nat},p+1<n->M p=M (p+1)->det n M=0
 | 0,_,_,h,_=>absurd h (Nat.not_lt_zero _)
 | n+1,M,p,hp,e=>by
  show sm (n+1) _=0
  rw [Jv (p:=p) (q:=p+1) (by omega) hp]
  ·have em:mnr M p=mnr M (p+1):=by
    funext i r
    show M (skp p i) (r+1)=M (skp (p+1) i) (r+1)
    unfold skp
    by_cases h1:i<p
    ·rw [if_pos h1,if_pos (by omega)]
    ·rw [if_neg h1]
     by_cases h2:i=p
     ·rw [if_pos (by omega),h2,e]
     ·rw [if_neg (by omega)]
   rw [em,e,sg_succ];grind
  ·intro k hk h1 h2
   have:det n (mnr M k)=0:=by
    by_cases h:k<p
    ·refine Cc (p:=p - 1) (by omega) ?_
     funext r
     show M (skp k (p - 1)) (r+1)=M (skp k (p - 1+1)) (r+1)
     unfold skp
     rw [if_neg (by omega),if_neg (by omega),show p - 1+1=p by omega,e]
    ·refine Cc (p:=p) (by omega) ?_
     funext r
     show M (skp k p) (r+1)=M (skp k (p+1)) (r+1)
     unfold skp
     rw [if_pos (by omega),if_pos (by omega),e]
   rw [this,Int.mul_zero]
theorem Cd {n:Nat} (M:Mx) (u v:Nat->Int) (h:j<n):det n (pt M j (λ r=>u r+v r))=det n (pt M j u)+det n (pt M j v):=by
 have:=Lb 1 1 M u v h
 simp only [Int.one_mul] at this
 exact this
theorem yS {n:Nat} (M:Mx) (a:Int) (u:Nat->Int) (h:j<n):det n (pt M j (λ r=>a*u r))=a*det n (pt M j u):=by
 have:=Lb a 0 M u u h
 simp only [Int.zero_mul,Int.add_zero] at this
 exact this
theorem Ul {n p:Nat} (hp:p<n) (hq:q<n) (hne:p≠q) (z:∀ M:Mx,M p=M q->det n M=0) (M:Mx) (u v:Nat->Int):det n (pt (pt M p u) q v) = - det n (pt (pt M p v) q u):=by
 have h0:=z (pt (pt M p (λ r=>u r+v r)) q (λ r=>u r+v r)) (by rw [nI,gJ _ _ hne,nI])
 have huu:=z (pt (pt M p u) q u) (by rw [nI,gJ _ _ hne,nI])
 have hvv:=z (pt (pt M p v) q v) (by rw [nI,gJ _ _ hne,nI])
 rw [Cd _ _ _ hq,sR M hne,sR M hne,Cd _ _ _ hp,Cd _ _ _ hp,sR M (Ne.symm hne),sR M (Ne.symm hne),sR M (Ne.symm hne),sR M (Ne.symm hne)] at h0
 omega
theorem Lc {n:Nat}:∀ (d:Nat) {M:Mx} {p q:Nat},q=p+1+d->q<n->M p=M q->det n M=0
 | 0,M,p,q,e,hq,h=>Cc (p:=p) (by omega) (by rw [h,e])
 | d+1,M,p,q,e,hq,h=>by
  have sw:=Ul (n:=n) (p:=q - 1) (q:=q - 1+1) (by omega) (by omega) (by omega) (λ L hL=>Cc (by omega) hL) M (M (q - 1)) (M q)
  rw [show q - 1+1=q by omega] at sw
  rw [vN,vN] at sw
  rw [sw,Lc d (p:=p) (q:=q - 1) (by omega) (by omega)]
  ·rfl
  ·rw [gJ _ _ (show p≠q by omega),gJ _ _ (show p≠q - 1 by omega),gJ _ _ (show q - 1≠q by omega),nI,h]
theorem Du {n:Nat} {M:Mx} {p:Nat} (hp:p<n) (hq:q<n) (hne:p≠q) (h:M p=M q):det n M=0:=by
 by_cases hlt:p<q
 ·exact Lc (q - p - 1) (p:=p) (q:=q) (by omega) hq h
 ·exact Lc (p - q - 1) (p:=q) (q:=p) (by omega) hp h.symm
theorem jZb {n p:Nat} (hp:p<n) (hq:q<n) (hne:p≠q) (M:Mx) (u v:Nat->Int):det n (pt (pt M p u) q v) = - det n (pt (pt M p v) q u):=Ul hp hq hne (λ _ h=>Du hp hq hne h) M u v
noncomputable def e1 (i:Nat):Nat->Int:=λ r=>if r=i then 1 else 0
noncomputable def Im:Mx:=e1
theorem Cb:∀ n:Nat,det n Im=1
 | 0=>rfl
 | n+1=>by
  show sm (n+1) _=1
  rw [iW (p:=0) (by omega)]
  ·have:det n (mnr Im 0)=det n Im:=tI λ i _ r _=>by
    show e1 (skp 0 i) (r+1)=e1 i r
    unfold e1 skp
    rw [if_neg (Nat.not_lt_zero i)]
    by_cases h:r=i
    ·rw [if_pos h,if_pos (by omega)]
    ·rw [if_neg h,if_neg (by omega)]
   rw [this,Cb n];rfl
  ·intro k _ hk
   have:Im k 0=0:=by show e1 k 0=0;unfold e1;rw [if_neg (λ z=>hk z.symm)]
   rw [this];grind
theorem Dt {n:Nat} (M:Mx) {j:Nat} (hj:j<n) (c:Nat->Int) (w:Nat->Nat->Int):∀ m:Nat,det n (pt M j (λ r=>sm m λ k=>c k*w k r))=sm m λ k=>c k*det n (pt M j (w k))
 | 0=>by
  have:=yS M 0 (λ _=>0) hj
  simp only [Int.zero_mul] at this
  exact this
 | m+1=>by
  show det n (pt M j (λ r=>sm m (λ k=>c k*w k r)+c m*w m r))=sm m _+c m*_
  rw [Cd _ _ _ hj,Dt M hj c w m,yS _ _ _ hj]
theorem Nw (v:Nat->Int):∀ (n r:Nat),r<n->(sm n λ k=>v k*e1 k r)=v r:=λ n r hr=>by
 rw [iW (p:=r) hr]
 ·unfold e1;rw [if_pos rfl,Int.mul_one]
 ·intro k _ hk
  unfold e1;rw [if_neg (λ z=>hk z.symm),Int.mul_zero]
theorem det_sum {n:Nat} (M:Mx) (hj:j<n) (v:Nat->Int):det n (pt M j v)=sm n λ k=>v k*det n (pt M j (e1 k)):=by
 rw [← Dt M hj v e1 n]
 refine tI λ i hi r hr=>?_
 unfold pt
 split
 ·exact (Nw v n r hr).symm
 ·rfl
section
variable {N:Nat}
noncomputable def Tt (N:Nat) (B:Mx) (i:Nat) (y:Nat->Int):Int:=det N (pt B i y)
noncomputable def Cr (N:Nat) (B:Mx):Prop:=∀ (y:Nat->Int) (r:Nat),r<N->(sm N λ i=>Tt N B i y*B i r)=det N B*y r
theorem Rp (B:Mx) (i:Nat):Tt N B i (B i)=det N B:=by unfold Tt;rw [vN]
theorem Dy {B:Mx} (hi:i<N) (hj:j<N) (h:i≠j):Tt N B i (B j)=0 :=
 Du hi hj h (by rw [nI,gJ _ _ (Ne.symm h)])
theorem Tt_lin {B:Mx} (hi:i<N) (y:Nat->Int):Tt N B i y=sm N λ k=>y k*Tt N B i (e1 k):=det_sum B hi y
theorem Tt_one (hi:i<N) (y:Nat->Int):Tt N Im i y=y i:=by
 rw [Tt_lin hi,iW (p:=i) hi]
 ·rw [show Tt N Im i (e1 i)=det N Im from Rp Im i,Cb,Int.mul_one]
 ·intro k hk hne
  rw [show Tt N Im i (e1 k)=0 from Dy hi hk (Ne.symm hne),Int.mul_zero]
theorem Cr_one:Cr N Im:=by
 intro y r hr
 rw [Cb,Int.one_mul,← Nw y N r hr]
 exact cT λ i hi=>by rw [Tt_one hi];rfl
theorem exchT {B:Mx} (hB:Cr N B) {r:Nat} (hr:r<N) (hi:i<N) (hne:i≠r) (x y:Nat->Int):det N B*Tt N (pt B r x) i y=Tt N B i y*Tt N B r x - Tt N B r y*Tt N B i x:=by
 have h1:det N B*Tt N (pt B r x) i y=det N (pt (pt B r x) i (λ s=>det N B*y s)):=(yS _ _ _ hi).symm
 have h2:det N (pt (pt B r x) i (λ s=>det N B*y s))=det N (pt (pt B r x) i (λ s=>sm N λ k=>Tt N B k y*B k s)):=tI λ j _ s hs=>by
  unfold pt
  by_cases e:j=i
  ·rw [if_pos e,if_pos e,hB y s hs]
  ·rw [if_neg e,if_neg e]
 rw [h1,h2,Dt _ hi]
 have hii:det N (pt (pt B r x) i (B i))=Tt N B r x:=by
  have:pt (pt B r x) i (B i)=pt B r x:=by
   have:=vN (pt B r x) i
   rwa [gJ _ _ hne] at this
  rw [this];rfl
 have hir:det N (pt (pt B r x) i (B r)) = - Tt N B i x:=by
  rw [jZb hr hi (Ne.symm hne),vN];rfl
 have key:∀ k,k<N->k≠i->k≠r->Tt N B k y*det N (pt (pt B r x) i (B k))=0:=λ k hk h1 h2=>by
  rw [Du hi hk (Ne.symm h1) (by rw [nI,gJ _ _ h1,gJ _ _ h2]),Int.mul_zero]
 by_cases hlt:i<r
 ·rw [Jv hlt hr (λ k hk h1 h2=>key k hk h1 h2),hii,hir,Int.mul_neg];rfl
 ·rw [Jv (p:=r) (q:=i) (by omega) hi (λ k hk h1 h2=>key k hk h2 h1),hii,hir,Int.mul_neg];omega
theorem Wh (B:Mx) (r:Nat) (x y:Nat->Int):Tt N (pt B r x) r y=Tt N B r y:=by unfold Tt;rw [pt_pt]
theorem det_pt (B:Mx) (r:Nat) (x:Nat->Int):det N (pt B r x)=Tt N B r x:=rfl
theorem Cr.turn {B:Mx} (hB:Cr N B) (hD:det N B≠0) {r:Nat} (hr:r<N) (x:Nat->Int):Cr N (pt B r x):=by
 intro y s hs
 apply Int.eq_of_mul_eq_mul_left hD
 have e:∀ i,i<N->det N B*(Tt N (pt B r x) i y*(pt B r x) i s)=Tt N B r x*(Tt N B i y*B i s)+(- Tt N B r y)*(Tt N B i x*B i s)+(if i=r then det N B*Tt N B r y*x s else 0):=λ i hi=>by
  by_cases h:i=r
  ·subst h
   rw [if_pos rfl,Wh,nI];grind
  ·rw [if_neg h,gJ _ _ h,← Int.mul_assoc,exchT hB hr hi h];grind
 have s1:det N B*sm N (λ i=>Tt N (pt B r x) i y*(pt B r x) i s)=sm N λ i=>det N B*(Tt N (pt B r x) i y*(pt B r x) i s):=by
  have:=qW (det N B) 0 N (λ i=>Tt N (pt B r x) i y*(pt B r x) i s) (λ _=>0)
  simp only [Int.zero_mul,Int.add_zero] at this
  exact this.symm
 rw [s1,cT e]
 have s2:=qW 1 1 N (λ i=>Tt N B r x*(Tt N B i y*B i s)+(- Tt N B r y)*(Tt N B i x*B i s)) (λ i=>if i=r then det N B*Tt N B r y*x s else 0)
 simp only [Int.one_mul] at s2
 rw [s2,qW,hB y s hs,hB x s hs,iW (p:=r) hr (λ k _ hk=>if_neg hk),if_pos rfl,det_pt]
 grind
end
noncomputable def lp (u:Nat->Int):List Nat->Prop
 | []=>False
 | p::r=>0<u p∨(u p=0/\lp u r)
noncomputable def lpn (u:Nat->Int):List Nat->Prop
 | []=>True
 | p::r=>0<u p∨(u p=0/\lpn u r)
theorem lp.weak {u:Nat->Int}:∀ {l:List Nat},lp u l->lpn u l
 | [],h=>h.elim
 | _::_,.inl h=>.inl h
 | _::_,.inr h=>.inr ⟨h.1,h.2.weak⟩
theorem lE {u v:Nat->Int}:∀ {l:List Nat},(∀ p∈l,u p=v p)->lp u l->lp v l
 | [],_,h=>h
 | p::r,e,h=>by
  have ep:=e p mem_cons_self
  rcases h with h | h
  ·exact .inl (ep ▸ h)
  ·exact .inr ⟨ep ▸ h.1,lE (λ q hq=>e q (mem_cons_of_mem _ hq)) h.2⟩
theorem Dq {u:Nat->Int} {a:Int} (ha:0<a):∀ {l:List Nat},lp u l->lp (λ p=>a*u p) l
 | [],h=>h
 | p::r,h=>by
  rcases h with h | h
  ·exact .inl (Int.mul_pos ha h)
  ·exact .inr ⟨by show a*u p=0;rw [h.1,Int.mul_zero],Dq ha h.2⟩
theorem pR {u:Nat->Int} {a:Int} (ha:0<a):∀ {l:List Nat},lp (λ p=>a*u p) l->lp u l
 | [],h=>h
 | p::r,h=>by
  rcases h with h | h
  ·left
   have h:0<a*u p:=h
   rcases Int.lt_trichotomy (u p) 0 with z | z | z
   ·have:=Int.mul_neg_of_pos_of_neg ha z;omega
   ·rw [z,Int.mul_zero] at h;omega
   ·exact z
  ·right
   have h1:a*u p=0:=h.1
   refine ⟨?_,pR ha h.2⟩
   rcases Int.mul_eq_zero.mp h1 with z | z
   ·omega
   ·exact z
theorem lp_add {u v:Nat->Int} {a b:Int} (ha:0<a) (hb:0<=b) {l:List Nat} (h:lp u l) (k:lpn v l):lp (λ p=>a*u p+b*v p) l:=by
 by_cases hz:b=0
 ·subst hz
  refine lE (λ p _=>?_) (Dq ha h)
  omega
 ·have hb:0<b:=by omega
  clear hz
  induction l with
  | nil=>exact h.elim
  | cons p r ih =>
   rcases h with h | h
   ·left
    have h1:=Int.mul_pos ha h
    have h2:0<=b*v p:=by
     rcases k with k | k
     ·exact Int.mul_nonneg (by omega) (by omega)
     ·rw [k.1,Int.mul_zero];exact Int.le_refl _
    show 0<a*u p+b*v p
    omega
   ·rcases k with k | k
    ·left
     have h1:=Int.mul_pos hb k
     show 0<a*u p+b*v p
     rw [h.1,Int.mul_zero];omega
    ·exact .inr ⟨by show a*u p+b*v p=0;rw [h.1,k.1,Int.mul_zero,Int.mul_zero];rfl,ih h.2 k.2⟩
theorem Ij {u:Nat->Int}:∀ {l:List Nat},(∀ p∈l,u p=0)->¬ lp u l
 | [],_,h=>h
 | p::r,e,h=>by
  have ep:=e p mem_cons_self
  rcases h with h | h
  ·omega
  ·exact Ij (λ q hq=>e q (mem_cons_of_mem _ hq)) h.2
theorem lp_or {u:Nat->Int}:∀ (l:List Nat),lp u l∨(∀ p∈l,u p=0)∨lp (λ p=>- u p) l
 | []=>.inr (.inl (λ _ h=>nomatch h))
 | p::r=>by
  rcases Int.lt_trichotomy (u p) 0 with z | z | z
  ·exact .inr (.inr (.inl (by show 0 < - u p;omega)))
  ·rcases lp_or (u:=u) r with h | h | h
   ·exact .inl (.inr ⟨z,h⟩)
   ·refine .inr (.inl λ q hq=>?_)
    rcases List.mem_cons.mp hq with rfl | hq
    ·exact z
    ·exact h q hq
   ·exact .inr (.inr (.inr ⟨by show - u p=0;omega,h⟩))
  ·exact .inl (.inl z)
structure Lpd where
 m:Nat
 n:Nat
 a:Nat->Nat->Int
 be:Nat->Int
 fl:Bool
namespace Lpd
variable (L:Lpd)
noncomputable def cv (j:Nat):Nat->Int:=if j<L.n then L.a j else e1 (j - L.n)
noncomputable def B (s:Nat->Nat):Mx:=λ i=>if i<L.m then L.cv (s i) else e1 i
noncomputable def sg:Int:=if L.fl=true then -1 else 1
theorem sg2:L.sg*L.sg=1:=by unfold sg;split <;> rfl
theorem sg_abs (x:Int):(L.sg*x).natAbs=x.natAbs:=by unfold sg;split <;> omega
noncomputable def D (s:Nat->Nat):Int:=L.sg*det (L.m+1) (L.B s)
noncomputable def T (s:Nat->Nat) (i:Nat) (y:Nat->Int):Int:=L.sg*Tt (L.m+1) (L.B s) i y
noncomputable def li (p:Nat):Nat->Int:=if p=0 then L.be else e1 (p - 1)
noncomputable def ls:List Nat:=List.range (L.m+1)
noncomputable def sput (s:Nat->Nat) (r c:Nat):Nat->Nat:=λ i=>if i=r then c else s i
theorem B_put {r:Nat} (hr:r<L.m):L.B (sput s r c)=pt (L.B s) r (L.cv c):=by
 funext i
 unfold B sput pt
 by_cases h:i=r
 ·rw [if_pos (by omega),if_pos h,if_pos h]
 ·rw [if_neg h,if_neg h]
structure Okn (s:Nat->Nat):Prop where
 ne:L.D s≠0
 cr:Cr (L.m+1) (L.B s)
structure Ok (s:Nat->Nat):Prop where
 pos:0<L.D s
 cr:Cr (L.m+1) (L.B s)
 bn:∀ i,i<L.m->0<=L.T s i L.be
structure Okx (s:Nat->Nat):Prop where
 pos:0<L.D s
 cr:Cr (L.m+1) (L.B s)
 lex:∀ i,i<L.m->lp (λ p=>L.T s i (L.li p)) L.ls
theorem own (hi:i<L.m):L.T s i (L.cv (s i))=L.D s:=by
 have:=Rp (N:=L.m+1) (L.B s) i
 have e:L.B s i=L.cv (s i):=by unfold B;rw [if_pos hi]
 rw [e] at this
 unfold T D;rw [this]
theorem last_own (s:Nat->Nat):L.T s L.m (e1 L.m)=L.D s:=by
 have:=Rp (N:=L.m+1) (L.B s) L.m
 have e:L.B s L.m=e1 L.m:=by unfold B;rw [if_neg (Nat.lt_irrefl _)]
 rw [e] at this
 unfold T D;rw [this]
theorem not_last (hi:i<L.m):L.T s i (e1 L.m)=0:=by
 have:=Dy (N:=L.m+1) (B:=L.B s) (i:=i) (j:=L.m) (by omega) (by omega) (by omega)
 have e:L.B s L.m=e1 L.m:=by unfold B;rw [if_neg (Nat.lt_irrefl _)]
 rw [e] at this
 unfold T;rw [this,Int.mul_zero]
theorem other (hi:i<L.m+1) (hj:j<L.m) (h:i≠j):L.T s i (L.cv (s j))=0:=by
 have:=Dy (N:=L.m+1) (B:=L.B s) (i:=i) (j:=j) hi (by omega) h
 have e:L.B s j=L.cv (s j):=by unfold B;rw [if_pos hj]
 rw [e] at this
 unfold T;rw [this,Int.mul_zero]
theorem sm_by (c:Int) (n:Nat) (f:Nat->Int):sm n (λ k=>c*f k)=c*sm n f:=by
 have:=qW c 0 n f f
 simp only [Int.zero_mul,Int.add_zero] at this
 exact this
theorem T_lin (hi:i<L.m+1) (y:Nat->Int):L.T s i y=sm (L.m+1) λ k=>y k*L.T s i (e1 k):=by
 unfold T
 rw [Tt_lin hi,← sm_by]
 exact cT λ k _=>by rw [Int.mul_left_comm]
theorem cr_T (h:Cr (L.m+1) (L.B s)) (y:Nat->Int) {r:Nat} (hr:r<L.m+1):(sm (L.m+1) λ i=>L.T s i y*L.B s i r)=L.D s*y r:=by
 unfold T D
 rw [Int.mul_assoc,← h y r hr,← sm_by]
 exact cT λ k _=>by rw [Int.mul_assoc]
section
variable {L}
theorem Ok.n (o:L.Ok s):L.Okn s:=⟨Int.ne_of_gt o.pos,o.cr⟩
theorem Okx.n (o:L.Okx s):L.Okn s:=⟨Int.ne_of_gt o.pos,o.cr⟩
theorem Okx.bound_nonneg (o:L.Okx s) (hi:i<L.m):0<=L.T s i L.be:=by
 have h:=o.lex i hi
 unfold ls at h
 rw [List.range_succ_eq_map] at h
 have e:L.li 0=L.be:=by unfold li;rw [if_pos rfl]
 rcases h with h | h
 ·have h:0<L.T s i (L.li 0):=h
  rw [e] at h;omega
 ·have h:=h.1
  simp only [e] at h
  omega
theorem Okx.w (o:L.Okx s):L.Ok s:=⟨o.pos,o.cr,λ _ hi=>o.bound_nonneg hi⟩
theorem Okn.exch (o:L.Okn s) {r:Nat} (hr:r<L.m) (hi:i<L.m+1) (hne:i≠r) (y:Nat->Int):L.D s*L.T (sput s r c) i y=L.T s i y*L.T s r (L.cv c) - L.T s r y*L.T s i (L.cv c):=by
 have h:=exchT o.cr (show r<L.m+1 by omega) hi hne (L.cv c) y
 unfold T D
 rw [L.B_put hr]
 generalize Tt (L.m+1) (pt (L.B s) r (L.cv c)) i y=u at h ⊢
 have e1:L.sg*det (L.m+1) (L.B s)*(L.sg*u)=(L.sg*L.sg)*(det (L.m+1) (L.B s)*u):=by ac_rfl
 have e2:∀ x y:Int,L.sg*x*(L.sg*y)=(L.sg*L.sg)*(x*y):=λ x y=>by ac_rfl
 rw [e1,e2,e2,L.sg2,h,Int.one_mul,Int.one_mul,Int.one_mul]
theorem Okx.exch (o:L.Okx s) {r:Nat} (hr:r<L.m) (hi:i<L.m+1) (hne:i≠r) (y:Nat->Int):L.D s*L.T (sput s r c) i y=L.T s i y*L.T s r (L.cv c) - L.T s r y*L.T s i (L.cv c):=o.n.exch hr hi hne y
theorem Ok.same {r:Nat} (hr:r<L.m) (y:Nat->Int):L.T (sput s r c) r y=L.T s r y:=by
 unfold T;rw [L.B_put hr,Wh]
theorem Ok.newD {r:Nat} (hr:r<L.m):L.D (sput s r c)=L.T s r (L.cv c):=by
 unfold D T;rw [L.B_put hr];rfl
theorem det_ne (h:L.D s≠0):det (L.m+1) (L.B s)≠0:=λ z=>h (by unfold D;rw [z,Int.mul_zero])
theorem Okx.step (o:L.Okx s) {r:Nat} (hr:r<L.m) (hp:0<L.T s r (L.cv c))
  (hmin:∀ i,i<L.m->0<L.T s i (L.cv c)->¬ lp (λ p=>- (L.T s i (L.li p)*L.T s r (L.cv c) - L.T s r (L.li p)*L.T s i (L.cv c))) L.ls):L.Okx (sput s r c):=by
 have hD:=o.pos
 have newpos:0<L.D (sput s r c):=by rw [Ok.newD hr];exact hp
 have newcr:Cr (L.m+1) (L.B (sput s r c)):=by
  rw [L.B_put hr]
  exact o.cr.turn (det_ne (by omega)) (by omega) _
 refine ⟨newpos,newcr,λ i hi=>?_⟩
 by_cases hir:i=r
 ·subst hir
  exact lE (λ p _=>(Ok.same hi _).symm) (o.lex i hi)
 ·have ex:=λ y=>o.exch (c:=c) hr (show i<L.m+1 by omega) hir y
  by_cases hn:L.T s i (L.cv c)<=0
  ·refine pR hD (lE (λ p _=>?_) (lp_add hp (b:=- L.T s i (L.cv c)) (by omega) (o.lex i hi) (o.lex r hr).weak))
   rw [ex];grind
  ·have hi0:0<L.T s i (L.cv c):=by omega
   rcases lp_or (u:=λ p=>L.T s i (L.li p)*L.T s r (L.cv c) - L.T s r (L.li p)*L.T s i (L.cv c)) L.ls with h | h | h
   ·exact pR hD (lE (λ p _=>(ex _).symm) h)
   ·exfalso
    have z:∀ k,k<L.m+1->L.T (sput s r c) i (e1 k)=0:=λ k hk=>by
     by_cases hkm:k=L.m
     ·rw [hkm];exact L.not_last hi
     ·have h1:=h (k+1) (by unfold ls;exact List.mem_range.mpr (by omega))
      have e:L.li (k+1)=e1 k:=by unfold li;rw [if_neg (by omega)];rfl
      simp only [e] at h1
      have h2:=ex (e1 k)
      rw [h1] at h2
      rcases Int.mul_eq_zero.mp h2 with q | q
      ·omega
      ·exact q
    have hw:L.T (sput s r c) i (L.cv (sput s r c i))=0:=by
     rw [L.T_lin (by omega)]
     exact eY λ k hk=>by rw [z k hk,Int.mul_zero]
    rw [L.own hi] at hw
    omega
   ·exact absurd h (hmin i hi hi0)
noncomputable def Fur (L:Lpd) (s t:Nat->Nat):Prop:=lp (λ p=>L.T t L.m (L.li p)*L.D s - L.T s L.m (L.li p)*L.D t) L.ls
theorem Okx.further (o:L.Okx s) {r:Nat} (hr:r<L.m) (hneg:L.T s L.m (L.cv c)<0):L.Fur s (sput s r c):=by
 refine lE (λ p _=>?_) (Dq (a:=- L.T s L.m (L.cv c)) (by omega) (o.lex r hr))
 have:=o.exch (c:=c) (i:=L.m) hr (by omega) (by omega) (L.li p)
 rw [Ok.newD hr,Int.mul_comm _ (L.D s),this];grind
theorem Fur.trans {t w:Nat->Nat} (hs:0<L.D s) (ht:0<L.D t) (hw:0<L.D w) (h1:L.Fur s t) (h2:L.Fur t w):L.Fur s w:=by
 refine pR ht (lE (λ p _=>?_) (lp_add hs (Int.le_of_lt hw) h2 h1.weak))
 grind
theorem Fur.irrefl:¬ L.Fur s s:=Ij λ p _=>by omega
end
end Lpd
theorem Ir {α:Type} {p q:α->Bool}:∀ {l:List α},(∀ x∈l,p x=true->q x=true)->(∃ x∈l,q x=true/\p x=false)->(l.filter p).length<(l.filter q).length
 | [],_,h=>by obtain ⟨x,hx,_⟩:=h;cases hx
 | a::r,h1,h2=>by
  have hr:(r.filter p).length<=(r.filter q).length:=by
   have key:∀ l:List α,(∀ x∈l,p x=true->q x=true)->(l.filter p).length<=(l.filter q).length:=λ l=>by
    induction l with
    | nil=>intro _;exact Nat.le_refl _
    | cons b t ih =>
     intro h
     have it:=ih λ x hx=>h x (mem_cons_of_mem _ hx)
     have hb:=h b mem_cons_self
     rw [List.filter_cons,List.filter_cons]
     cases hp:p b with
     | true=>rw [hb hp];simp only [if_true,List.length_cons];omega
     | false =>
      cases q b with
      | true=>simp only [Bool.false_eq_true,if_false,if_true,List.length_cons];omega
      | false=>simpa using it
   exact key r λ x hx=>h1 x (mem_cons_of_mem _ hx)
  have ha:=h1 a mem_cons_self
  rw [List.filter_cons,List.filter_cons]
  obtain ⟨x,hx,qx,px⟩:=h2
  rcases List.mem_cons.mp hx with rfl | hx
  ·rw [qx,px]
   simp only [Bool.false_eq_true,if_false,if_true,List.length_cons]
   omega
  ·have it:=Ir (l:=r) (p:=p) (q:=q) (λ x hx=>h1 x (mem_cons_of_mem _ hx)) ⟨x,hx,qx,px⟩
   cases hp:p a with
   | true=>rw [ha hp];simp only [if_true,List.length_cons];omega
   | false =>
    cases q a with
    | true=>simp only [Bool.false_eq_true,if_false,if_true,List.length_cons];omega
    | false=>simpa using it
noncomputable def Zg (k:Nat):Nat->List (List Nat)
 | 0=>[[]]
 | m+1=>(Zg k m).flatMap λ l=>(List.range k).map λ c=>c::l
theorem Ol {k:Nat}:∀ {m:Nat} {l:List Nat},l.length=m->(∀ c∈l,c<k)->l∈Zg k m
 | 0,l,h,_=>by
  have:l=[]:=List.eq_nil_of_length_eq_zero h
  subst this;simp [Zg]
 | m+1,[],h,_=>by simp at h
 | m+1,c::l,h,hc=>by
  simp only [Zg,List.mem_flatMap,mem_map,List.mem_range]
  exact ⟨l,Ol (by simpa using h) λ x hx=>hc x (mem_cons_of_mem _ hx),c,hc c mem_cons_self,rfl⟩
namespace Lpd
variable {L:Lpd}
noncomputable def sf (l:List Nat):Nat->Nat:=λ i=>l.getD i 0
noncomputable def mu (L:Lpd) (s:Nat->Nat):Nat:=open Classical in ((Zg (L.n+L.m) L.m).filter λ t=>decide (0<L.D (sf t)/\L.Fur s (sf t))).length
theorem mu_lt {t:List Nat} (hs:0<L.D s) (ht:0<L.D (sf t)) (hl:t.length=L.m) (hc:∀ c∈t,c<L.n+L.m) (h:L.Fur s (sf t)):L.mu (sf t)<L.mu s:=by
 classical
 unfold mu
 refine Ir (λ x _ hx=>?_) ⟨t,Ol hl hc,?_,?_⟩
 ·have hx:=of_decide_eq_true hx
  exact decide_eq_true ⟨hx.1,Fur.trans hs ht hx.1 h hx.2⟩
 ·exact decide_eq_true ⟨ht,h⟩
 ·exact decide_eq_false λ z=>Fur.irrefl z.2
theorem Jw (n:Nat) (f g:Nat->Int):sm n (λ k=>f k+g k)=sm n f+sm n g:=by
 have:=qW 1 1 n f g
 simp only [Int.one_mul] at this
 exact this
theorem sm_mul (c:Int) (n:Nat) (f:Nat->Int):sm n (λ k=>c*f k)=c*sm n f:=by
 have:=qW c 0 n f f
 simp only [Int.zero_mul,Int.add_zero] at this
 exact this
theorem Uq (g:Nat->Nat->Int) (m:Nat):∀ n:Nat,sm n (λ j=>sm m λ i=>g i j)=sm m λ i=>sm n λ j=>g i j
 | 0=>(eY λ _ _=>rfl).symm
 | n+1=>by
  show sm n (λ j=>sm m λ i=>g i j)+sm m (λ i=>g i n)=sm m λ i=>sm n (λ j=>g i j)+g i n
  rw [Uq g m n,Jw]
theorem sm_le:∀ {n:Nat} {f g:Nat->Int},(∀ k,k<n->f k<=g k)->sm n f<=sm n g
 | 0,_,_,_=>Int.le_refl _
 | n+1,f,g,h=>Int.add_le_add (sm_le λ k hk=>h k (by omega)) (h n (by omega))
theorem yH {n:Nat} {f:Nat->Int} (h:∀ k,k<n->0<=f k):0<=sm n f:=by
 have:=sm_le (n:=n) (f:=λ _=>0) (g:=f) h
 rwa [eY λ _ _=>rfl] at this
noncomputable def spr (m:Nat) (s:Nat->Nat) (t:Nat->Int) (j:Nat):Int:=sm m λ i=>if s i=j then t i else 0
theorem spr_sum (m n:Nat) (s:Nat->Nat) (t:Nat->Int) (w:Nat->Int):(sm n λ j=>spr m s t j*w j)=sm m λ i=>if s i<n then t i*w (s i) else 0:=by
 have e:(sm n λ j=>spr m s t j*w j)=sm n λ j=>sm m λ i=>if s i=j then t i*w j else 0:=cT λ j _=>by
  unfold spr
  rw [Int.mul_comm,← sm_mul]
  exact cT λ i _=>by split <;> simp [Int.mul_comm]
 rw [e,Uq (λ i j=>if s i=j then t i*w j else 0)]
 refine cT λ i _=>?_
 by_cases h:s i<n
 ·rw [if_pos h,iW (p:=s i) h]
  ·rw [if_pos rfl]
  ·intro k _ hk
   rw [if_neg (λ z=>hk z.symm)]
 ·rw [if_neg h]
  exact eY λ j hj=>if_neg (by omega)
theorem Ok.by_cols (o:L.Ok s) (hs:∀ i,i<L.m->s i<L.n+L.m) (y:Nat->Int) {r:Nat} (hr:r<L.m+1) :
  (sm L.n λ j=>spr L.m s (λ i=>L.T s i y) j*L.a j r)+(sm L.m λ i=>if s i<L.n then 0 else L.T s i y*e1 (s i - L.n) r)+(if r=L.m then L.T s L.m y else 0)=L.D s*y r:=by
 have h:=L.cr_T o.cr y hr
 have h:(sm L.m λ i=>L.T s i y*L.B s i r)+L.T s L.m y*L.B s L.m r=L.D s*y r:=h
 rw [spr_sum,← h,← Jw]
 have e:(sm L.m λ i=>(if s i<L.n then L.T s i y*L.a (s i) r else 0)+(if s i<L.n then 0 else L.T s i y*e1 (s i - L.n) r))=sm L.m λ i=>L.T s i y*L.B s i r:=cT λ i hi=>by
  have eb:L.B s i=L.cv (s i):=by unfold B;rw [if_pos hi]
  rw [eb]
  unfold cv
  by_cases q:s i<L.n
  ·rw [if_pos q,if_pos q,if_pos q,Int.add_zero]
  ·rw [if_neg q,if_neg q,if_neg q,Int.zero_add]
 rw [e]
 have eb:L.B s L.m=e1 L.m:=by unfold B;rw [if_neg (Nat.lt_irrefl _)]
 rw [eb]
 unfold e1
 by_cases q:r=L.m
 ·rw [if_pos q,if_pos q,Int.mul_one]
 ·rw [if_neg q,if_neg q,Int.mul_zero]
theorem Ok.bound_nonneg (o:L.Ok s) (hi:i<L.m):0<=L.T s i L.be:=o.bn i hi
theorem spr_nonneg {t:Nat->Int} (h:∀ i,i<m->0<=t i) (j:Nat):0<=spr m s t j:=yH λ i hi=>by
 split
 ·exact h i hi
 ·exact Int.le_refl _
theorem Ok.allowed (o:L.Ok s) (hs:∀ i,i<L.m->s i<L.n+L.m) {r:Nat} (hr:r<L.m):(sm L.n λ j=>spr L.m s (λ i=>L.T s i L.be) j*L.a j r)<=L.D s*L.be r:=by
 have h:=o.by_cols hs L.be (r:=r) (by omega)
 rw [if_neg (by omega)] at h
 have:0<=sm L.m λ i=>if s i<L.n then 0 else L.T s i L.be*e1 (s i - L.n) r:=yH λ i hi=>by
  split
  ·exact Int.le_refl _
  ·refine Int.mul_nonneg (o.bound_nonneg hi) ?_
   unfold e1;split <;> decide
 omega
theorem Ok.no_spare (hs:∀ i,i<L.m->s i<L.n+L.m) (y:Nat->Int):(sm L.m λ i=>if s i<L.n then 0 else L.T s i y*e1 (s i - L.n) L.m)=0:=eY λ i hi=>by
 split
 ·rfl
 ·have:=hs i hi
  unfold e1
  rw [if_neg (by omega),Int.mul_zero]
theorem Ok.earned (o:L.Ok s) (hs:∀ i,i<L.m->s i<L.n+L.m) (hb:L.be L.m=0):(sm L.n λ j=>spr L.m s (λ i=>L.T s i L.be) j*L.a j L.m) = - L.T s L.m L.be:=by
 have h:=o.by_cols hs L.be (r:=L.m) (by omega)
 rw [if_pos rfl,Ok.no_spare hs,hb,Int.mul_zero] at h
 omega
theorem goal_of (y:Nat->Int):L.T s L.m y=(sm L.m λ k=>y k*L.T s L.m (e1 k))+y L.m*L.D s:=by
 rw [L.T_lin (by omega) y]
 show sm L.m _+y L.m*L.T s L.m (e1 L.m)=_
 rw [L.last_own]
theorem Ok.ways_row (o:L.Ok s) (hs:∀ i,i<L.m->s i<L.n+L.m) {r:Nat} (hneg:∀ i,i<L.m->L.T s i (L.cv c)<=0) (hr:r<L.m):(sm L.n λ j=>(spr L.m s (λ i=>- L.T s i (L.cv c)) j+if j=c then L.D s else 0)*L.a j r)<=0:=by
 have h:=o.by_cols hs (L.cv c) (r:=r) (by omega)
 rw [if_neg (by omega)] at h
 have hsp:(sm L.m λ i=>if s i<L.n then 0 else L.T s i (L.cv c)*e1 (s i - L.n) r)<=0:=by
  have:=yH (n:=L.m) (f:=λ i=>- (if s i<L.n then 0 else L.T s i (L.cv c)*e1 (s i - L.n) r)) λ i hi=>by
   split
   ·decide
   ·have h1:=hneg i hi
    unfold e1
    split <;> omega
  have e:(sm L.m λ i=>- (if s i<L.n then 0 else L.T s i (L.cv c)*e1 (s i - L.n) r)) = - sm L.m λ i=>if s i<L.n then 0 else L.T s i (L.cv c)*e1 (s i - L.n) r:=by
   have:=sm_mul (-1) L.m (λ i=>if s i<L.n then 0 else L.T s i (L.cv c)*e1 (s i - L.n) r)
   rw [← Int.neg_one_mul,← this]
   exact cT λ i _=>by rw [Int.neg_one_mul]
  omega
 have e1':(sm L.n λ j=>(spr L.m s (λ i=>- L.T s i (L.cv c)) j+if j=c then L.D s else 0)*L.a j r) = - (sm L.n λ j=>spr L.m s (λ i=>L.T s i (L.cv c)) j*L.a j r)+(if c<L.n then L.D s*L.a c r else 0):=by
  have e2:(sm L.n λ j=>(spr L.m s (λ i=>- L.T s i (L.cv c)) j+if j=c then L.D s else 0)*L.a j r)=sm L.n λ j=>(-1)*(spr L.m s (λ i=>L.T s i (L.cv c)) j*L.a j r)+(if j=c then L.D s*L.a j r else 0):=cT λ j _=>by
   have:spr L.m s (λ i=>- L.T s i (L.cv c)) j = - spr L.m s (λ i=>L.T s i (L.cv c)) j:=by
    unfold spr
    rw [← Int.neg_one_mul,← sm_mul]
    exact cT λ i _=>by
     by_cases z:s i=j
     ·rw [if_pos z,if_pos z];exact (Int.neg_one_mul _).symm
     ·rw [if_neg z,if_neg z];rfl
   rw [this]
   split <;> grind
  rw [e2,Jw,sm_mul]
  by_cases q:c<L.n
  ·rw [if_pos q,iW (p:=c) q (λ k _ hk=>if_neg hk),if_pos rfl];omega
  ·rw [if_neg q,eY (λ k hk=>if_neg (by omega))];omega
 rw [e1']
 unfold cv at h
 by_cases q:c<L.n
 ·rw [if_pos q]
  simp only [if_pos q] at h
  unfold cv at hsp ⊢
  simp only [if_pos q] at hsp ⊢
  omega
 ·rw [if_neg q]
  simp only [if_neg q] at h
  unfold cv at hsp ⊢
  simp only [if_neg q] at hsp ⊢
  have:0<=L.D s*e1 (c - L.n) r:=by
   refine Int.mul_nonneg (Int.le_of_lt o.pos) ?_
   unfold e1;split <;> decide
  omega
theorem Ok.ways_goal (o:L.Ok s) (hs:∀ i,i<L.m->s i<L.n+L.m) (hc:c<L.n+L.m):(sm L.n λ j=>(spr L.m s (λ i=>- L.T s i (L.cv c)) j+if j=c then L.D s else 0)*L.a j L.m)=L.T s L.m (L.cv c):=by
 have h:=o.by_cols hs (L.cv c) (r:=L.m) (by omega)
 rw [if_pos rfl,Ok.no_spare hs] at h
 have e2:(sm L.n λ j=>(spr L.m s (λ i=>- L.T s i (L.cv c)) j+if j=c then L.D s else 0)*L.a j L.m)=sm L.n λ j=>(-1)*(spr L.m s (λ i=>L.T s i (L.cv c)) j*L.a j L.m)+(if j=c then L.D s*L.a j L.m else 0):=cT λ j _=>by
  have:spr L.m s (λ i=>- L.T s i (L.cv c)) j = - spr L.m s (λ i=>L.T s i (L.cv c)) j:=by
   unfold spr
   rw [← Int.neg_one_mul,← sm_mul]
   exact cT λ i _=>by
    by_cases z:s i=j
    ·rw [if_pos z,if_pos z];exact (Int.neg_one_mul _).symm
    ·rw [if_neg z,if_neg z];rfl
  rw [this]
  split <;> grind
 rw [e2,Jw,sm_mul]
 by_cases q:c<L.n
 ·rw [iW (p:=c) q (λ k _ hk=>if_neg hk),if_pos rfl]
  have e:L.cv c L.m=L.a c L.m:=by unfold cv;rw [if_pos q]
  rw [e] at h
  omega
 ·rw [eY (λ k hk=>if_neg (by omega))]
  have e:L.cv c L.m=0:=by unfold cv;rw [if_neg q];unfold e1;rw [if_neg (by omega)]
  rw [e,Int.mul_zero] at h
  omega
noncomputable def ins0 (L:Lpd):Nat->Nat:=λ i=>L.n+i
theorem B_start:∀ i,L.B L.ins0 i=Im i:=λ i=>by
 unfold B ins0 cv
 by_cases h:i<L.m
 ·rw [if_pos h,if_neg (by omega)]
  show e1 (L.n+i - L.n)=e1 i
  rw [show L.n+i - L.n=i by omega]
 ·rw [if_neg h];rfl
theorem Dz:L.B L.ins0=Im:=funext B_start
theorem D_start (h:L.fl=false):L.D L.ins0=1:=by unfold D;rw [Dz,Cb];unfold sg;rw [h];rfl
theorem T_start (h:L.fl=false) (hi:i<L.m+1) (y:Nat->Int):L.T L.ins0 i y=y i:=by
 unfold T;rw [Dz,Tt_one hi];unfold sg;rw [h];exact Int.one_mul _
theorem Okx.start (hf:L.fl=false) (hb:∀ i,i<L.m->0<=L.be i):L.Okx L.ins0:=by
 refine ⟨?_,?_,λ i hi=>?_⟩
 ·rw [D_start hf];decide
 ·rw [Dz];exact Cr_one
 ·have e:∀ y,L.T L.ins0 i y=y i:=λ y=>T_start hf (by omega) y
  have one:∀ l:List Nat,i+1∈l->(∀ p∈l,p=0->0<=L.be i)->lp (λ p=>L.T L.ins0 i (L.li p)) l:=λ l=>by
   induction l with
   | nil=>intro h;cases h
   | cons p r ih =>
    intro h1 h2
    show 0<L.T L.ins0 i (L.li p)∨(L.T L.ins0 i (L.li p)=0/\_)
    rw [e]
    by_cases hp:p=0
    ·have eb:L.li p=L.be:=by unfold li;rw [if_pos hp]
     rw [eb]
     have hb0:=hb i hi
     by_cases hz:L.be i=0
     ·exact .inr ⟨hz,ih (by rcases List.mem_cons.mp h1 with q | q;omega;exact q) λ p hp=>h2 p (mem_cons_of_mem _ hp)⟩
     ·left;omega
    ·have eb:L.li p=e1 (p - 1):=by unfold li;rw [if_neg hp]
     rw [eb]
     unfold e1
     by_cases q:i=p - 1
     ·rw [if_pos q];left;decide
     ·rw [if_neg q]
      exact .inr ⟨rfl,ih (by rcases List.mem_cons.mp h1 with q' | q';omega;exact q') λ p hp=>h2 p (mem_cons_of_mem _ hp)⟩
  unfold ls
  exact one _ (List.mem_range.mpr (by omega)) λ _ _ _=>hb i hi
noncomputable def flip (L:Lpd):Lpd:={ L with fl:=!L.fl }
end Lpd
noncomputable def ofF {α:Type} (n:Nat) (f:Nat->α):List α:=(List.range n).map f
theorem aN (n:Nat) (f:Nat->α):(ofF n f).length=n:=by unfold ofF;rw [length_map,List.length_range]
theorem cA {n:Nat} (f:Nat->α) (h:k<n):(ofF n f)[k]?=some (f k):=by unfold ofF;rw [getElem?_map,List.getElem?_range h];rfl
theorem cJ {n:Nat} {f:Nat->α} {x:α} (h:(ofF n f)[k]?=some x):k<n/\x=f k:=by
 have hk:k<n:=by have:=(List.getElem?_eq_some_iff.mp h).1;rwa [aN] at this
 rw [cA f hk] at h
 exact ⟨hk,(Option.some.inj h).symm⟩
theorem bT (n:Nat) (f:Nat->α):ofF (n+1) f=ofF n f++[f n]:=by unfold ofF;rw [List.range_succ,map_append];rfl
theorem iY {n:Nat} {f:Nat->α} {x:α} (h:x∈ofF n f):∃ k,k<n/\x=f k:=by
 obtain ⟨k,hk,e⟩:=mem_map.mp h
 exact ⟨k,List.mem_range.mp hk,e.symm⟩
theorem gP {n:Nat} {f g:Nat->α} (h:∀ k,k<n->f k=g k):ofF n f=ofF n g:=map_congr_left λ k hk=>h k (List.mem_range.mp hk)
theorem Ve (n:Nat) (f:Nat->Int):(ofF n f).sum=sm n f:=by
 induction n with
 | zero=>rfl
 | succ n ih=>rw [bT,List.sum_append,ih];show sm n f+(f n+0)=sm n f+f n;rw [Int.add_zero]
theorem ofF_set {n:Nat} {f:Nat->Int} {v:Int}:(ofF n f).set i v=ofF n λ k=>if k=i then v else f k:=by
 apply List.ext_getElem?
 intro k
 rw [getElem?_set]
 by_cases hk:k<n
 ·rw [cA (λ k=>if k=i then v else f k) hk]
  by_cases e:i=k
  ·rw [if_pos e,if_pos (by rw [aN];omega),if_pos e.symm]
  ·rw [if_neg e,if_neg (Ne.symm e),cA _ hk]
 ·rw [getElem?_eq_none (l:=ofF n λ k=>if k=i then v else f k) (by rw [aN];omega)]
  by_cases e:i=k
  ·rw [if_pos e,if_neg (by rw [aN];omega)]
  ·rw [if_neg e,getElem?_eq_none (by rw [aN];omega)]
theorem dW {l:List Int} (h:l[i]?=some x):l.getD i 0=x:=by rw [getD_eq_getElem?_getD,h];rfl
theorem Qz:∀ {l:List Int} {p:Nat},(∀ x∈l,BB p x)->BB (p+l.length) l.sum
 | [],p,_=>by show (0:Int).natAbs<_;exact Nat.two_pow_pos _
 | a::r,p,h=>by
  have i:=Qz (l:=r) (p:=p) λ x hx=>h x (mem_cons_of_mem _ hx)
  have ha:=(h a mem_cons_self).mono (show p<=p+r.length by omega)
  rw [List.sum_cons,List.length_cons]
  exact (ha.add i).mono (by omega)
namespace Lpd
noncomputable def colL (L:Lpd) (j:Nat):List Int:=ofF (L.m+1) (L.a j)
noncomputable def keptL (L:Lpd) (s:Nat->Nat) (i:Nat):List Int:=ofF (L.m+1) (λ k=>L.T s i (e1 k))++[L.T s i L.be]
noncomputable def numL (L:Lpd) (s:Nat->Nat) (c:Nat):List Int:=ofF (L.m+1) λ i=>L.T s i (L.cv c)
noncomputable def insL (L:Lpd) (s:Nat->Nat):List Int:=ofF L.m λ i=>(s i:Int)
structure Lim (L:Lpd):Prop where
 m1:L.m<=100
 n1:L.n<=100
 ba:∀ j k,j<L.n->k<=L.m->BB 20000 (L.a j k)
 bc:∀ s i c,L.Okn s->i<=L.m->BB 20000 (L.T s i (L.cv c))
 bk:∀ s i k,L.Okn s->i<=L.m->k<=L.m->BB 20000 (L.T s i (e1 k))
 bb:∀ s i,L.Okn s->i<=L.m->BB 20000 (L.T s i L.be)
 bD:∀ s,L.Okn s->BB 9000 (L.D s)
theorem keptL_length (L:Lpd) (s:Nat->Nat) (i:Nat):(L.keptL s i).length=L.m+2:=by unfold keptL;rw [length_append,aN];rfl
theorem keptL_get (L:Lpd) (s:Nat->Nat) (i:Nat) (h:k<=L.m):(L.keptL s i)[k]?=some (L.T s i (e1 k)):=by
 unfold keptL;rw [getElem?_append_left (by rw [aN];omega),cA _ (by omega)]
theorem keptL_last (L:Lpd) (s:Nat->Nat) (i:Nat):(L.keptL s i)[L.m+1]?=some (L.T s i L.be):=by
 unfold keptL;rw [getElem?_append_right (by rw [aN];omega),aN,Nat.sub_self];rfl
theorem Lim.kept {L:Lpd} (h:L.Lim) (o:L.Okn s) (hi:i<=L.m):∀ x∈L.keptL s i,BB 20000 x:=λ x hx=>by
 unfold keptL at hx
 rcases mem_append.mp hx with hx | hx
 ·obtain ⟨k,hk,rfl⟩:=iY hx
  exact h.bk s i k o hi (by omega)
 ·rw [mem_singleton.mp hx];exact h.bb s i o hi
theorem T_prod (L:Lpd) (s:Nat->Nat) (hi:i<=L.m) (hj:j<L.n):(sm (L.m+1) λ k=>L.a j k*L.T s i (e1 k))=L.T s i (L.cv j):=by
 have e:L.cv j=L.a j:=by unfold cv;rw [if_pos hj]
 rw [e]
 exact (L.T_lin (by omega) _).symm
theorem cv_spare (L:Lpd) (k:Nat):L.cv (L.n+k)=e1 k:=by
 unfold cv;rw [if_neg (by omega),show L.n+k - L.n=k by omega]
theorem Okn.inj {L:Lpd} (o:L.Okn s) (hi:i<L.m) (hj:j<L.m) (h:i≠j):s i≠s j:=λ e=>by
 have h1:=L.own (s:=s) hi
 have h2:L.T s i (L.cv (s j))=0:=L.other (by omega) hj h
 rw [← e,h1] at h2
 exact o.ne h2
theorem Ok.inj {L:Lpd} (o:L.Ok s) (hi:i<L.m) (hj:j<L.m) (h:i≠j):s i≠s j:=o.n.inj hi hj h
theorem lx_lp {L:Lpd} {r:Nat} {x y:List Int} (hx:∀ k,k<=L.m->x.getD k 0=L.T s r (e1 k)) (hx1:x.getD (L.m+1) 0=L.T s r L.be) (hx2:x.getD (L.m+2) 0=L.T s r (L.cv c))
  (hy:∀ k,k<=L.m->y.getD k 0=L.T s i (e1 k)) (hy1:y.getD (L.m+1) 0=L.T s i L.be) (hy2:y.getD (L.m+2) 0=L.T s i (L.cv c))
  (h:lx x y (L.m+2) ((L.m+1)::List.range L.m)≠some false):¬ lp (λ p=>- (L.T s i (L.li p)*L.T s r (L.cv c) - L.T s r (L.li p)*L.T s i (L.cv c))) L.ls:=by
 have key:∀ l:List Nat,(∀ p∈l,p<=L.m)->∀ l':List Nat,l'=l.map (λ p=>if p=0 then L.m+1 else p - 1)->lp (λ p=>- (L.T s i (L.li p)*L.T s r (L.cv c) - L.T s r (L.li p)*L.T s i (L.cv c))) l->lx x y (L.m+2) l'=some false:=by
  intro l
  induction l with
  | nil=>intro _ l' _ h;exact h.elim
  | cons p t ih =>
   rintro hl l' rfl hp
   have it:=ih (λ q hq=>hl q (mem_cons_of_mem _ hq)) _ rfl
   have hpm:=hl p mem_cons_self
   have ex:x.getD (if p=0 then L.m+1 else p - 1) 0=L.T s r (L.li p):=by
    unfold li
    by_cases e:p=0
    ·rw [if_pos e,if_pos e,hx1]
    ·rw [if_neg e,if_neg e,hx _ (by omega)]
   have ey:y.getD (if p=0 then L.m+1 else p - 1) 0=L.T s i (L.li p):=by
    unfold li
    by_cases e:p=0
    ·rw [if_pos e,if_pos e,hy1]
    ·rw [if_neg e,if_neg e,hy _ (by omega)]
   rw [List.map_cons]
   unfold lx
   rw [ex,ey,hx2,hy2]
   rcases hp with hp | ⟨hp,hp2⟩
   ·have hp:0 < - (L.T s i (L.li p)*L.T s r (L.cv c) - L.T s r (L.li p)*L.T s i (L.cv c)):=hp
    rw [if_neg (by omega),decide_eq_false (by omega)]
   ·have hp:- (L.T s i (L.li p)*L.T s r (L.cv c) - L.T s r (L.li p)*L.T s i (L.cv c))=0:=hp
    rw [if_pos (by omega)]
    exact it hp2
 intro z
 refine h (key L.ls (λ p hp=>?_) _ ?_ z)
 ·have:=List.mem_range.mp hp;omega
 ·unfold ls
  rw [List.range_succ_eq_map,List.map_cons,List.map_map]
  show _=(L.m+1)::_
  congr 1
  conv=>lhs;rw [← List.map_id (List.range L.m)]
  exact map_congr_left λ k _=>by show k=if Nat.succ k=0 then L.m+1 else Nat.succ k - 1;rw [if_neg (by omega)];rfl
end Lpd
noncomputable def Ro (row:List Int) (w:Nat):Prop:=row.length=w/\∀ m∈row,BB 20000 m
noncomputable def mn (t i:Addr) (H:Hp):Hp:=λ x=>if x=t∨x=i then none else H x
theorem sT {t i:Addr}:aF (mn t i H) H:=λ b o e=>by
 unfold mn at e
 split at e
 ·cases e
 ·exact e
theorem kK {t i:Addr} (s:aF H H'):aF (mn t i H) (mn t i H'):=λ b o e=>by
 unfold mn at e ⊢
 split at e
 ·cases e
 ·rename_i h;rw [if_neg h];exact s b o e
theorem Gz {t i x:Addr} (h:H x=some o) (h1:x≠t) (h2:x≠i):mn t i H x=some o:=by
 unfold mn;rw [if_neg (λ z=>z.elim h1 h2)];exact h
theorem jV {t i x:Addr} (h:x=t∨x=i):mn t i (upd H x o)=mn t i H:=by
 funext b
 unfold mn
 by_cases hb:b=t∨b=i
 ·rw [if_pos hb,if_pos hb]
 ·rw [if_neg hb,if_neg hb,aR (λ e=>hb (by rw [e];exact h))]
theorem bL.mn {t i:Addr}:∀ {ps:List Addr} {rs:List (List Int)},t∉ps->i∉ps->bL H ps rs->bL (mn t i H) ps rs
 | [],[],_,_,_=>trivial
 | p::ps,r::rs,h1,h2,h=>⟨Gz h.1 (λ e=>h1 (by rw [e];exact mem_cons_self)) (λ e=>h2 (by rw [e];exact mem_cons_self)),bL.mn (λ z=>h1 (mem_cons_of_mem _ z)) (λ z=>h2 (mem_cons_of_mem _ z)) h.2⟩
 | [],_::_,_,_,h=>h.elim
 | _::_,[],_,_,h=>h.elim
noncomputable def cfl (b sp k i:Addr):List (Str×V):=cL "inside" (.ref i) (cL "kept" (.ref k) (cL "spans" (.ref sp) (cL "begun" (.ref b) [])))
theorem iM (b sp k i:Addr):(cfl b sp k i).lookup ("begun" : Str)=some (.ref b):=rfl
theorem tJ (b sp k i:Addr):(cfl b sp k i).lookup ("spans" : Str)=some (.ref sp):=rfl
theorem eZ (b sp k i:Addr):(cfl b sp k i).lookup ("kept" : Str)=some (.ref k):=rfl
theorem lJ (b sp k i:Addr):(cfl b sp k i).lookup ("inside" : Str)=some (.ref i):=rfl
theorem cfl_put (b sp k i k':Addr):cL "kept" (.ref k') (cfl b sp k i)=cfl b sp k' i:=rfl
structure iH (K:W.Frag) (H:Hp) (t ins:Addr) (L:Lpd) (s:Nat->Nat) (dx b sp k:Addr) (bs:List Addr) (ss:List Int) (ks:List Addr):Prop where
 ob:H t=some (.ins (aX K "Corner") dx (cfl b sp k ins))
 hb:mn t ins H b=some (.lst (List.map V.ref bs))
 hbs:bL (mn t ins H) bs (ofF L.n L.colL)
 hs:mn t ins H sp=some (.lst (List.map V.int ss))
 sl:ss.length=L.n+L.m
 sb:∀ x∈ss,BB 30000 x
 hk:mn t ins H k=some (.lst (List.map V.ref ks))
 hks:bL (mn t ins H) ks (ofF (L.m+1) (L.keptL s))
 hi:H ins=some (.lst (List.map V.int (L.insL s)))
noncomputable def gA (K:W.Frag) (H:Hp) (t ins:Addr) (L:Lpd) (s:Nat->Nat):Prop:=∃ dx b sp k bs ss ks,iH K H t ins L s dx b sp k bs ss ks
section
variable {K:W.Frag} {H H':Hp} {t ins:Addr} {L:Lpd} {s:Nat->Nat} {dx b sp k:Addr} {bs:List Addr} {ss:List Int} {ks:List Addr}
theorem iH.same (h:iH K H t ins L s dx b sp k bs ss ks) (e:aF H H'):iH K H' t ins L s dx b sp k bs ss ks :=
 ⟨e _ _ h.ob,kK e _ _ h.hb,h.hbs.same (kK e),kK e _ _ h.hs,h.sl,h.sb,kK e _ _ h.hk,h.hks.same (kK e),e _ _ h.hi⟩
theorem gA.same (h:gA K H t ins L s) (e:aF H H'):gA K H' t ins L s:=let ⟨dx,b,sp,k,bs,ss,ks,c⟩:=h;⟨dx,b,sp,k,bs,ss,ks,c.same e⟩
theorem iH.B (h:iH K H t ins L s dx b sp k bs ss ks):H b=some (.lst (List.map V.ref bs)):=sT _ _ h.hb
theorem iH.Bs (h:iH K H t ins L s dx b sp k bs ss ks):bL H bs (ofF L.n L.colL):=h.hbs.same sT
theorem iH.S (h:iH K H t ins L s dx b sp k bs ss ks):H sp=some (.lst (List.map V.int ss)):=sT _ _ h.hs
theorem iH.Kp (h:iH K H t ins L s dx b sp k bs ss ks):H k=some (.lst (List.map V.ref ks)):=sT _ _ h.hk
theorem iH.Ks (h:iH K H t ins L s dx b sp k bs ss ks):bL H ks (ofF (L.m+1) (L.keptL s)):=h.hks.same sT
theorem iH.bl (h:iH K H t ins L s dx b sp k bs ss ks):bs.length=L.n:=by rw [h.hbs.length,aN]
theorem iH.kl (h:iH K H t ins L s dx b sp k bs ss ks):ks.length=L.m+1:=by rw [h.hks.length,aN]
theorem iH.row (h:iH K H t ins L s dx b sp k bs ss ks) (hi:i<=L.m):∃ p,ks[i]?=some p/\atI (List.map V.ref ks) (i:Int)=some (.ref p)/\H p=some (.lst (List.map V.int (L.keptL s i))):=by
 have hl:=h.kl
 obtain ⟨p,hp⟩:∃ p,ks[i]?=some p:=⟨_,getElem?_eq_getElem (by omega)⟩
 obtain ⟨r,e1,e2⟩:=h.Ks.get hp
 obtain ⟨_,rfl⟩:=cJ e1
 exact ⟨p,hp,cF (by rw [getElem?_map,hp];rfl),e2⟩
theorem iH.last (h:iH K H t ins L s dx b sp k bs ss ks):∃ p,ks[L.m]?=some p/\atI (List.map V.ref ks) (-1)=some (.ref p)/\H p=some (.lst (List.map V.int (L.keptL s L.m))):=by
 have hl:=h.kl
 obtain ⟨p,hp,_,e⟩:=h.row (Nat.le_refl L.m)
 exact ⟨p,hp,Dx (by rw [length_map,hl,getElem?_map,show L.m+1 - 1=L.m by omega,hp];rfl),e⟩
theorem iH.col (h:iH K H t ins L s dx b sp k bs ss ks) (hj:j<L.n):∃ p,bs[j]?=some p/\atI (List.map V.ref bs) (j:Int)=some (.ref p)/\H p=some (.lst (List.map V.int (L.colL j))):=by
 have hl:=h.bl
 obtain ⟨p,hp⟩:∃ p,bs[j]?=some p:=⟨_,getElem?_eq_getElem (by omega)⟩
 obtain ⟨r,e1,e2⟩:=h.Bs.get hp
 obtain ⟨_,rfl⟩:=cJ e1
 exact ⟨p,hp,cF (by rw [getElem?_map,hp];rfl),e2⟩
end
noncomputable def CorF (K:W.Frag) (H:Hp) (t ins:Addr) (L:Lpd) (s:Nat->Nat) (f:Addr):Prop:=∃ dx b sp k bs ss ks,iH K H t ins L s dx b sp k bs ss ks/\f≠b/\f≠sp/\f≠k/\f∉bs/\f∉ks
section
variable {K:W.Frag} {H H':Hp} {t ins f:Addr} {L:Lpd} {s:Nat->Nat} {dx b sp k:Addr} {bs:List Addr} {ss:List Int} {ks:List Addr}
theorem Ac {xs ys:List Addr} (h:List.map V.ref xs=List.map V.ref ys):xs=ys:=(List.map_inj_right (λ a b h=>by injection h)).mp h
theorem CorF.of (h:CorF K H t ins L s f) (P:iH K H t ins L s dx b sp k bs ss ks):f≠b/\f≠sp/\f≠k/\f∉bs/\f∉ks:=by
 obtain ⟨dx',b',sp',k',bs',ss',ks',P',r⟩:=h
 have e:=Option.some.inj (P'.ob.symm.trans P.ob)
 injection e with _ _ e
 have e1:b'=b:=by have:=congrArg (List.lookup ("begun" : Str)) e;rw [iM,iM] at this;injection this with this;injection this
 have e2:sp'=sp:=by have:=congrArg (List.lookup ("spans" : Str)) e;rw [tJ,tJ] at this;injection this with this;injection this
 have e3:k'=k:=by have:=congrArg (List.lookup ("kept" : Str)) e;rw [eZ,eZ] at this;injection this with this;injection this
 subst e1 e2 e3
 have e4:bs'=bs:=by have:=Option.some.inj (P'.hb.symm.trans P.hb);injection this with this;exact Ac this
 have e5:ks'=ks:=by have:=Option.some.inj (P'.hk.symm.trans P.hk);injection this with this;exact Ac this
 subst e4 e5
 exact r
end
noncomputable def lo2 (t b:Int):Int×Int:=(t.fdiv (Int.gcd t b:Nat),b.fdiv (Int.gcd t b:Nat))
theorem bU {t b:Int} (hb:0<b):Lo t b (lo2 t b).1 (lo2 t b).2:=lo_pos hb
theorem Lo.uniq {t b x' y':Int} (hb:0<b) (h:Lo t b x y) (h':Lo t b x' y'):x=x'/\y=y':=by
 have e:x*y'=x'*y:=by
  apply Int.eq_of_mul_eq_mul_left (show b≠0 by omega)
  have h1:=h.eq
  have h2:=h'.eq
  have:b*(x*y')=(x*b)*y':=by ac_rfl
  rw [this,h1]
  have:b*(x'*y)=(x'*b)*y:=by ac_rfl
  rw [this,h2];ac_rfl
 have d1:y∣y':=by
  have:y∣x*y':=⟨x',by rw [e,Int.mul_comm]⟩
  exact Int.natAbs_dvd_natAbs.mp (Nat.Coprime.dvd_of_dvd_mul_left (m:=x.natAbs) (Nat.Coprime.symm h.cop) (by rw [← Int.natAbs_mul];exact Int.natAbs_dvd_natAbs.mpr this))
 have d2:y'∣y:=by
  have:y'∣x'*y:=⟨x,by rw [← e,Int.mul_comm]⟩
  exact Int.natAbs_dvd_natAbs.mp (Nat.Coprime.dvd_of_dvd_mul_left (m:=x'.natAbs) (Nat.Coprime.symm h'.cop) (by rw [← Int.natAbs_mul];exact Int.natAbs_dvd_natAbs.mpr this))
 have l1:=Int.le_of_dvd h'.pos d1
 have l2:=Int.le_of_dvd h.pos d2
 have ey:y=y':=by omega
 subst ey
 exact ⟨Int.eq_of_mul_eq_mul_right (Int.ne_of_gt h.pos) e,rfl⟩
theorem Lo.is {t b:Int} (hb:0<b) (h:Lo t b x y):(x,y)=lo2 t b:=by
 obtain ⟨e1,e2⟩:=h.uniq hb (bU hb)
 rw [e1,e2]
theorem Lo.bb {t b:Int} {n:Nat} (h:Lo t b x y) (ht:BB m t) (hb:BB n b):BB m x/\BB n y:=⟨ht.of_le h.bx,hb.of_le h.by_⟩
noncomputable def mx1 (g:Int):Int:=if 1 > g then 1 else g
theorem pF (g:Int):0<mx1 g:=by unfold mx1;split <;> omega
noncomputable def whF (fs:List (Int×Int)):Int×Int:=lo2 (lc fs) (mx1 (gl (clr fs)))
noncomputable def whL (fs:List (Int×Int)):List Int:=pB (clr fs)
theorem eF (fs:List (Int×Int)):(whL fs).length=fs.length:=by unfold whL clr;rw [tW,length_map]
theorem cZ {fs:List (Int×Int)} (h:∀ f∈fs,0<f.2):0<(whF fs).1/\0<(whF fs).2:=by
 have l:=bU (t:=lc fs) (pF (gl (clr fs)))
 refine ⟨?_,l.pos⟩
 have e:=l.eq
 have h1:=Rg h
 have h2:0<lc fs*(lo2 (lc fs) (mx1 (gl (clr fs)))).2:=Int.mul_pos h1 l.pos
 rw [← e] at h2
 exact Classical.byContradiction λ z=>by
  have:=Int.mul_nonpos_of_nonpos_of_nonneg (a:=(lo2 (lc fs) (mx1 (gl (clr fs)))).1) (b:=mx1 (gl (clr fs))) (by unfold whF at z;omega) (Int.le_of_lt (pF _))
  omega
theorem Ju {fs:List (Int×Int)} (h:∀ f∈fs,0<f.2) (hf:fs[i]?=some f):(whL fs).getD i 0*(f.2*(whF fs).2)=f.1*(whF fs).1:=by
 obtain ⟨t,e1,e2⟩:=El (Wc hf)
 have e3:(whL fs).getD i 0=t:=dW e1
 rw [e3]
 have e2:t*mx1 (gl (clr fs))=f.1*((lc fs).fdiv f.2):=e2
 have l:=(bU (t:=lc fs) (pF (gl (clr fs)))).eq
 have c:=clr_eq h (mem_of_getElem? hf)
 have g0:=pF (gl (clr fs))
 show t*(f.2*(lo2 (lc fs) (mx1 (gl (clr fs)))).2)=f.1*(lo2 (lc fs) (mx1 (gl (clr fs)))).1
 generalize (lo2 (lc fs) (mx1 (gl (clr fs)))).1=X at *
 generalize (lo2 (lc fs) (mx1 (gl (clr fs)))).2=Y at *
 generalize mx1 (gl (clr fs))=g at *
 generalize (lc fs).fdiv f.2=q at *
 apply Int.eq_of_mul_eq_mul_left (show g≠0 by omega)
 have a1:g*(t*(f.2*Y))=(t*g)*f.2*Y:=by ac_rfl
 have a2:g*(f.1*X)=f.1*(X*g):=by ac_rfl
 rw [a1,e2,c,a2,l];ac_rfl
noncomputable def G9 (f:Int×Int):Prop:=0<f.2/\BB 20000 f.1/\BB 9000 f.2
noncomputable def Sb (t:Addr) (H H':Hp):Prop:=∀ b o,H b=some o->b≠t->H' b=some o
noncomputable def IsI (H:Hp) (t:Addr):Prop:=∃ C dx fs,H t=some (.ins C dx fs)
theorem Sb.of {t:Addr} (s:aF H H'):Sb t H H':=λ b o e _=>s b o e
theorem Sb.trans {t:Addr} {H'':Hp} (a:Sb t H H') (b:Sb t H' H''):Sb t H H'':=λ c o e hc=>b c o (a c o e hc) hc
theorem Sb.at {t:Addr}:Sb t H (upd H t o):=λ b u e hb=>by rw [aR hb];exact e
theorem Sb.lst {t:Addr} (s:Sb t H H') (i:IsI H t) (h:H a=some (.lst xs)):H' a=some (.lst xs):=by
 obtain ⟨C,dx,fs,e⟩:=i
 exact s a _ h (gM h e (by intro z;cases z))
theorem Sb.rws {t:Addr} (s:Sb t H H') (i:IsI H t):∀ {ps:List Addr} {rs:List (List Int)},bL H ps rs->bL H' ps rs
 | [],[],_=>trivial
 | _::_,_::_,h=>⟨s.lst i h.1,s.rws i h.2⟩
 | [],_::_,h=>h.elim
 | _::_,[],h=>h.elim
theorem Sb.free {t:Addr} (s:Sb t H H') (h:H' d=none) (n:d≠t):H d=none:=by
 cases e:H d with
 | none=>rfl
 | some o=>have:=s d o e n;rw [h] at this;cases this
theorem bL.notI {t:Addr} (h:bL H ps rs) (i:IsI H t):t∉ps:=λ hm=>by
 obtain ⟨C,dx,fs,e⟩:=i
 obtain ⟨_,_,e2⟩:=h.has hm
 rw [e] at e2;cases e2
theorem bL.notN {t:Addr} (h:bL H ps rs) (i:H t=none):t∉ps:=λ hm=>by
 obtain ⟨_,_,e2⟩:=h.has hm
 rw [i] at e2;cases e2
noncomputable def kY (K:W.Frag) (H:Hp):List Addr->List (List (Int×Int))->Prop
 | [],[]=>True
 | p::ps,r::rs=>(∃ qs,H p=some (.lst (List.map V.ref qs))/\aS K H qs r)/\kY K H ps rs
 | _,_=>False
theorem kY.same {K:W.Frag} (s:aF H H'):∀ {ps:List Addr} {rs:List (List (Int×Int))},kY K H ps rs->kY K H' ps rs
 | [],[],_=>trivial
 | _::_,_::_,h=>⟨let ⟨qs,a,b⟩:=h.1;⟨qs,s _ _ a,b.same s⟩,h.2.same s⟩
 | [],_::_,h=>h.elim
 | _::_,[],h=>h.elim
theorem kY.length {K:W.Frag}:∀ {ps:List Addr} {rs:List (List (Int×Int))},kY K H ps rs->ps.length=rs.length
 | [],[],_=>rfl
 | _::_,_::_,h=>by rw [List.length_cons,List.length_cons,h.2.length]
 | [],_::_,h=>h.elim
 | _::_,[],h=>h.elim
theorem kY.get {K:W.Frag}:∀ {ps:List Addr} {rs:List (List (Int×Int))} {i:Nat} {p:Addr},kY K H ps rs->ps[i]?=some p->∃ r qs,rs[i]?=some r/\H p=some (.lst (List.map V.ref qs))/\aS K H qs r
 | [],[],_,_,_,e=>by simp at e
 | _::_,r::_,0,_,h,e=>by simp at e;subst e;obtain ⟨qs,a,b⟩:=h.1;exact ⟨r,qs,rfl,a,b⟩
 | _::_,_::_,i+1,_,h,e=>by
  obtain ⟨f,qs,e1,e2⟩:=h.2.get (i:=i) (by simpa using e)
  exact ⟨f,qs,by simpa using e1,e2⟩
 | [],_::_,_,_,h,_=>h.elim
 | _::_,[],_,_,h,_=>h.elim
theorem kY.append {K:W.Frag} {qs:List Addr} {gs:List (List (Int×Int))} (hq:kY K H qs gs):∀ {ps:List Addr} {rs:List (List (Int×Int))},kY K H ps rs->kY K H (ps++qs) (rs++gs)
 | [],[],_=>hq
 | _::_,_::_,h=>⟨h.1,kY.append hq h.2⟩
 | [],_::_,h=>h.elim
 | _::_,[],h=>h.elim
noncomputable def qQ (H:Hp):List Addr->List (List (Int×Int))->Prop
 | [],[]=>True
 | p::ps,r::rs=>(∃ f l,H p=some (.tup [.ref f,.ref l])/\H f=some (.tup [.int (whF r).1,.int (whF r).2])/\H l=some (.lst (List.map V.int (whL r))))/\qQ H ps rs
 | _,_=>False
theorem qQ.same (s:aF H H'):∀ {ps:List Addr} {rs:List (List (Int×Int))},qQ H ps rs->qQ H' ps rs
 | [],[],_=>trivial
 | _::_,_::_,h=>⟨let ⟨f,l,a,b,c⟩:=h.1;⟨f,l,s _ _ a,s _ _ b,s _ _ c⟩,h.2.same s⟩
 | [],_::_,h=>h.elim
 | _::_,[],h=>h.elim
theorem qQ.length:∀ {ps:List Addr} {rs:List (List (Int×Int))},qQ H ps rs->ps.length=rs.length
 | [],[],_=>rfl
 | _::_,_::_,h=>by rw [List.length_cons,List.length_cons,h.2.length]
 | [],_::_,h=>h.elim
 | _::_,[],h=>h.elim
theorem qQ.get:∀ {ps:List Addr} {rs:List (List (Int×Int))} {i:Nat} {p:Addr},qQ H ps rs->ps[i]?=some p->∃ r f l,rs[i]?=some r/\H p=some (.tup [.ref f,.ref l])/\H f=some (.tup [.int (whF r).1,.int (whF r).2])/\H l=some (.lst (List.map V.int (whL r)))
 | [],[],_,_,_,e=>by simp at e
 | _::_,r::_,0,_,h,e=>by simp at e;subst e;obtain ⟨f,l,a,b,c⟩:=h.1;exact ⟨r,f,l,rfl,a,b,c⟩
 | _::_,_::_,i+1,_,h,e=>by
  obtain ⟨r,f,l,e1,e2⟩:=h.2.get (i:=i) (by simpa using e)
  exact ⟨r,f,l,by simpa using e1,e2⟩
 | [],_::_,_,_,h,_=>h.elim
 | _::_,[],_,_,h,_=>h.elim
theorem qQ.append {qs:List Addr} {gs:List (List (Int×Int))} (hq:qQ H qs gs):∀ {ps:List Addr} {rs:List (List (Int×Int))},qQ H ps rs->qQ H (ps++qs) (rs++gs)
 | [],[],_=>hq
 | _::_,_::_,h=>⟨h.1,qQ.append hq h.2⟩
 | [],_::_,h=>h.elim
 | _::_,[],h=>h.elim
noncomputable def fov (f g:Int×Int):Int×Int:=lo2 (f.1*g.2) (f.2*g.1)
noncomputable def ftm (f g:Int×Int):Int×Int:=lo2 (f.1*g.1) (f.2*g.2)
noncomputable def bnF (frs:List (List (Int×Int))) (fb:List (Int×Int)):List (Int×Int):=List.zipWith (λ b r=>ftm b (whF r)) fb frs
noncomputable def aM (e:Bool) (frs:List (List (Int×Int))) (fb fg:List (Int×Int)):Lpd where
 m:=frs.length
 n:=fg.length
 a:=λ j i=>if i<frs.length then (whL (frs.getD i [])).getD j 0 else - (whL fg).getD j 0
 be:=λ i=>(whL (bnF frs fb)).getD i 0
 fl:=e
structure Fit (m n q:Nat):Prop where
 q1:1<=q
 m1:m<=100
 n1:n<=100
 le:min m n*q+q+(m+1)+(m+1)*(m+1)+1<=9000
structure BeO (frs:List (List (Int×Int))) (fb fg:List (Int×Int)):Prop where
 lr:∀ r∈frs,r.length=fg.length
 lb:fb.length=frs.length
 gr:∀ r∈frs,∀ f∈r,G9 f
 gb:∀ f∈fb,G9 f
 gg:∀ f∈fg,G9 f
 cr:∀ r∈frs,∀ x∈clr r,BB 9000 x
 cg:∀ x∈clr fg,BB 9000 x
 cb:∀ x∈clr (bnF frs fb),BB 9000 x
 wr:∀ r∈frs,BB 20000 (whF r).1/\BB 20000 (whF r).2
 wb:BB 20000 (whF (bnF frs fb)).1/\BB 20000 (whF (bnF frs fb)).2
 wg:BB 20000 (whF fg).1/\BB 20000 (whF fg).2
 tb:∀ b∈fb,∀ r∈frs,BB 9000 (b.2*(whF r).2)/\BB 20000 (b.1*(whF r).1)
 lim:∀ e,(aM e frs fb fg).Lim
 ox:∀ e s,(aM e frs fb fg).Okn s->BB 9000 ((aM e frs fb fg).D s*(whF (bnF frs fb)).1)
 oy:∀ e s,(aM e frs fb fg).Okn s->∀ r∈frs,BB 9000 ((aM e frs fb fg).D s*(whF r).2*(whF fg).1)/\∀ k,k<frs.length->BB 20000 ((aM e frs fb fg).T s frs.length (e1 k)*(whF r).1)
 fit:∃ q q',Fit frs.length fg.length q'/\q<=9000/\(∀ k,40*2 ^ k<q->40*2 ^ k<=q')/\(∀ j k,BB q ((aM false frs fb fg).a j k))/\∀ k,BB q ((aM false frs fb fg).be k)
theorem dF {frs:List (List (Int×Int))} (h:fb.length=frs.length):(bnF frs fb).length=frs.length:=by unfold bnF;rw [List.length_zipWith];omega
theorem mC {frs:List (List (Int×Int))} {b:Int×Int} {r:List (Int×Int)} (h1:fb[i]?=some b) (h2:frs[i]?=some r):(bnF frs fb)[i]?=some (ftm b (whF r)):=by
 unfold bnF;rw [List.getElem?_zipWith,h1,h2]
theorem spr_bb {L:Lpd} (ok:L.Ok s) {f:Nat->Int} {n:Nat} (hf:∀ i,i<L.m->BB n (f i)) (j:Nat):BB n (Lpd.spr L.m s f j):=by
 by_cases h:∃ i,i<L.m/\s i=j
 ·obtain ⟨i,hi,e⟩:=h
  have:Lpd.spr L.m s f j=f i:=by
   unfold Lpd.spr
   rw [iW (p:=i) hi λ k hk hne=>if_neg λ z=>ok.inj hk hi hne (z.trans e.symm),if_pos e]
  rw [this];exact hf i hi
 ·have:Lpd.spr L.m s f j=0:=eY λ i hi=>if_neg λ z=>h ⟨i,hi,z⟩
  rw [this]
  show (0:Int).natAbs<_
  exact Nat.two_pow_pos _
theorem jD {a:Int} (ha:0<a) (h:0<=x*a):0<=x:=Classical.byContradiction λ z=>by
 have:=Int.mul_neg_of_neg_of_pos (show x<0 by omega) ha
 omega
theorem pS {t b:Int} (hb:0<b) (ht:0<=t):0<=(lo2 t b).1:=by
 have l:=bU (t:=t) hb
 refine jD hb ?_
 rw [l.eq]
 exact Int.mul_nonneg ht (Int.le_of_lt l.pos)
theorem Rt {fs:List (Int×Int)} (h:∀ f∈fs,0<f.2) (h0:∀ f∈fs,0<=f.1) (i:Nat):0<=(whL fs).getD i 0:=by
 by_cases hi:i<fs.length
 ·have e:=getElem?_eq_getElem hi
  have q:=Ju h e
  have hm:=getElem_mem hi
  have w:=cZ h
  refine jD (Int.mul_pos (h _ hm) w.2) ?_
  rw [q]
  exact Int.mul_nonneg (h0 _ hm) (Int.le_of_lt w.1)
 ·rw [getD_eq_getElem?_getD,getElem?_eq_none (by rw [eF];omega)]
  exact Int.le_refl _
theorem Ub {frs:List (List (Int×Int))} (B:BeO frs fb fg) (h0:∀ f∈fb,0<=f.1):∀ f∈bnF frs fb,0<=f.1:=λ f hf=>by
 obtain ⟨i,hi⟩:=getElem?_of_mem hf
 have hil:i<frs.length:=by have:=(List.getElem?_eq_some_iff.mp hi).1;rwa [dF B.lb] at this
 have hib:i<fb.length:=by rw [B.lb];exact hil
 have e1:=getElem?_eq_getElem hil
 have e2:=getElem?_eq_getElem hib
 rw [mC e2 e1] at hi
 obtain rfl:=Option.some.inj hi
 have wp:=cZ λ f hf=>(B.gr _ (getElem_mem hil) f hf).1
 exact pS (Int.mul_pos (B.gb _ (getElem_mem hib)).1 wp.2) (Int.mul_nonneg (h0 _ (getElem_mem hib)) (Int.le_of_lt wp.1))
theorem tK {n:Nat} (h:BB n (y*z)) (hx:0<=x) (hxy:x<=y) (hz:0<=z):BB n (x*z):=h.of_le (by
 rw [Int.natAbs_mul,Int.natAbs_mul]
 exact Nat.mul_le_mul (by omega) (Nat.le_refl _))
theorem lo2_le {t b:Int} (hb:0<b):(lo2 t b).2<=b:=by
 have l:=bU (t:=t) hb
 have h1:=l.by_
 have h2:=l.pos
 omega
noncomputable def Tw (K:W.Frag) (H:Hp) (p q:Addr) (a b c d:Int):Prop:=SqT K H p [.int a,.int b]/\SqT K H q [.int c,.int d]/\BB 20000 a/\BB 20000 b/\BB 20000 c/\BB 20000 d
theorem aS.snoc {K:W.Frag} {q:Addr} {fs:List (Int×Int)} (h:aS K H ps fs) (hq:SqT K H q [.int g.1,.int g.2]):aS K H (ps++[q]) (fs++[g]):=aS.append (show aS K H [q] [g] from ⟨hq,trivial⟩) h
noncomputable def nsm:Nat->(Nat->Nat)->Nat
 | 0,_=>0
 | n+1,c=>nsm n c+c n
theorem nS:∀ {n:Nat} {c d:Nat->Nat},(∀ i,i<n->c i=d i)->nsm n c=nsm n d
 | 0,_,_,_=>rfl
 | n+1,c,d,h=>by
  show nsm n c+c n=nsm n d+d n
  rw [nS (n:=n) λ i hi=>h i (by omega),h n (by omega)]
theorem Vf (c:Nat->Nat):∀ {n k:Nat},k<=n->nsm n (λ i=>c (skp k i))+c k=nsm (n+1) c
 | 0,k,h=>by
  have:k=0:=by omega
  subst this;show 0+c 0=0+c 0;rfl
 | n+1,k,h=>by
  show nsm n (λ i=>c (skp k i))+c (skp k n)+c k=nsm (n+1) c+c (n+1)
  by_cases e:k=n+1
  ·subst e
   have e1:nsm n (λ i=>c (skp (n+1) i))=nsm n c:=nS λ i hi=>by unfold skp;rw [if_pos (by omega)]
   have e2:skp (n+1) n=n:=by unfold skp;rw [if_pos (by omega)]
   rw [e1,e2];rfl
  ·have ih:=Vf c (n:=n) (k:=k) (by omega)
   have e2:skp k n=n+1:=by unfold skp;rw [if_neg (by omega)]
   rw [e2];omega
theorem Kd {n:Nat} (h:BB n x) (e:y.natAbs=x.natAbs):BB n y:=by unfold BB at *;omega
theorem Ka:∀ {N:Nat} {M:Mx} {c:Nat->Nat},(∀ i,i<N->∀ r,r<N->BB (c i) (M i r))->BB (nsm N c+N*N+1) (det N M)
 | 0,_,_,_=>by show (1:Int).natAbs<2 ^ 1;decide
 | n+1,M,c,h=>by
  have e:det (n+1) M=(ofF (n+1) λ k=>sg k*M k 0*det n (mnr M k)).sum:=(Ve _ _).symm
  rw [e]
  have:=Qz (l:=ofF (n+1) λ k=>sg k*M k 0*det n (mnr M k)) (p:=nsm (n+1) c+n*n+1) λ x hx=>by
   obtain ⟨k,hk,rfl⟩:=iY hx
   have ih:=Ka (N:=n) (M:=mnr M k) (c:=λ i=>c (skp k i)) λ i hi r hr=>h _ (skp_lt hi) _ (by omega)
   have h0:=h k hk 0 (by omega)
   have hs:=Vf c (n:=n) (k:=k) (by omega)
   refine Kd ((h0.mul ih).mono (by omega)) ?_
   rw [Int.natAbs_mul,Int.natAbs_mul,sg_abs,Nat.one_mul,Int.natAbs_mul]
  rw [aN] at this
  refine this.mono ?_
  have:(n+1)*(n+1)=n*n+n+n+1:=by rw [Nat.add_mul,Nat.mul_add];omega
  omega
theorem vH (h:1<=q) (k r:Nat):BB q (e1 k r):=by
 unfold e1
 have h2:1<2 ^ q:=Nat.one_lt_two_pow (by omega)
 split
 ·show (1:Int).natAbs<_;exact h2
 ·show (0:Int).natAbs<_;exact Nat.two_pow_pos _
theorem yL (q:Nat):∀ n,nsm n (λ _=>q)=n*q
 | 0=>by rw [Nat.zero_mul];rfl
 | n+1=>by show nsm n (λ _=>q)+q=_;rw [yL q n,Nat.add_mul,Nat.one_mul]
theorem nsm_pt (c:Nat->Nat) (i q:Nat):∀ n,nsm n (λ k=>if k=i then q else c k)<=nsm n c+q
 | 0=>Nat.zero_le _
 | n+1=>by
  show nsm n (λ k=>if k=i then q else c k)+(if n=i then q else c n)<=nsm n c+c n+q
  by_cases e:n=i
  ·rw [if_pos e]
   have:nsm n (λ k=>if k=i then q else c k)=nsm n c:=nS λ k hk=>if_neg (by omega)
   omega
  ·rw [if_neg e]
   have:=nsm_pt c i q n
   omega
theorem T_bb {L:Lpd} {qy:Nat} (h1:1<=q) (ha:∀ j k,j<L.n->k<=L.m->BB q (L.a j k)) (s:Nat->Nat) (i:Nat) {y:Nat->Int} (hy:∀ k,k<=L.m->BB qy (y k)):BB ((L.m+1)*q+qy+(L.m+1)*(L.m+1)+1) (L.T s i y):=by
 have hb:∀ j,j<L.m+1->∀ r,r<L.m+1->BB q (L.B s j r):=λ j hj r hr=>by
  unfold Lpd.B
  split
  ·unfold Lpd.cv
   split
   ·exact ha _ _ (by assumption) (by omega)
   ·exact vH h1 _ _
  ·exact vH h1 _ _
 have:=Ka (N:=L.m+1) (M:=pt (L.B s) i y) (c:=λ k=>if k=i then qy else q) λ j hj r hr=>by
  unfold pt
  by_cases e:j=i
  ·rw [if_pos e,if_pos e];exact hy r (by omega)
  ·rw [if_neg e,if_neg e];exact hb j hj r hr
 refine BB.mono (Kd this (L.sg_abs _)) ?_
 have h2:=nsm_pt (λ _=>q) i qy (L.m+1)
 rw [yL] at h2
 omega
theorem D_bb {L:Lpd} (h1:1<=q) (ha:∀ j k,j<L.n->k<=L.m->BB q (L.a j k)) (s:Nat->Nat):BB ((L.m+1)*q+(L.m+1)*(L.m+1)+1) (L.D s):=by
 have hb:∀ j,j<L.m+1->∀ r,r<L.m+1->BB q (L.B s j r):=λ j hj r hr=>by
  unfold Lpd.B
  split
  ·unfold Lpd.cv
   split
   ·exact ha _ _ (by assumption) (by omega)
   ·exact vH h1 _ _
  ·exact vH h1 _ _
 have:=Ka (N:=L.m+1) (M:=L.B s) (c:=λ _=>q) hb
 rw [yL] at this
 exact Kd this (L.sg_abs _)
theorem Vh (c d:Nat->Nat):∀ n,nsm n (λ i=>c i+d i)=nsm n c+nsm n d
 | 0=>rfl
 | n+1=>by show nsm n (λ i=>c i+d i)+(c n+d n)=nsm n c+c n+(nsm n d+d n);rw [Vh c d n];omega
theorem Dm {c:Nat->Nat}:∀ {n:Nat},(∀ i,i<n->c i=0)->nsm n c=0
 | 0,_=>rfl
 | n+1,h=>by show nsm n c+c n=0;rw [Dm (n:=n) λ i hi=>h i (by omega),h n (by omega)]
theorem Wb {s:Nat->Nat} {c:Nat}:∀ {m:Nat},(∀ i j,i<m->j<m->i≠j->s i≠s j)->nsm m (λ i=>if s i=c then 1 else 0)<=1
 | 0,_=>Nat.zero_le _
 | m+1,h=>by
  show nsm m (λ i=>if s i=c then 1 else 0)+(if s m=c then 1 else 0)<=1
  by_cases e:s m=c
  ·rw [if_pos e,Dm λ i hi=>if_neg λ z=>h i m (by omega) (by omega) (by omega) (z.trans e.symm)];exact Nat.le_refl _
  ·rw [if_neg e];exact Wb λ i j hi hj=>h i j (by omega) (by omega)
theorem cnt_le {s:Nat->Nat} {m:Nat} (h:∀ i j,i<m->j<m->i≠j->s i≠s j):∀ n,nsm m (λ i=>if s i<n then 1 else 0)<=n
 | 0=>by rw [Dm λ i _=>if_neg (by omega)];exact Nat.le_refl _
 | n+1=>by
  have h1:=cnt_le h n
  have h2:=Wb (c:=n) h
  have e:nsm m (λ i=>if s i<n+1 then 1 else 0)=nsm m (λ i=>(if s i<n then 1 else 0)+(if s i=n then 1 else 0)):=nS λ i _=>by
   by_cases a:s i<n
   ·rw [if_pos a,if_pos (by omega),if_neg (by omega)]
   ·by_cases c:s i=n
    ·rw [if_neg a,if_pos c,if_pos (by omega)]
    ·rw [if_neg a,if_neg c,if_neg (by omega)]
  rw [e,Vh];omega
theorem cnt_m {s:Nat->Nat} (n:Nat):∀ m,nsm m (λ i=>if s i<n then 1 else 0)<=m
 | 0=>Nat.le_refl _
 | m+1=>by
  show nsm m (λ i=>if s i<n then 1 else 0)+(if s m<n then 1 else 0)<=m+1
  have:=cnt_m (s:=s) n m
  split <;> omega
theorem Vg {s:Nat->Nat} (n q:Nat):∀ m,nsm m (λ i=>if s i<n then q else 1)<=nsm m (λ i=>if s i<n then 1 else 0)*q+m
 | 0=>Nat.zero_le _
 | m+1=>by
  show nsm m (λ i=>if s i<n then q else 1)+(if s m<n then q else 1)<=(nsm m (λ i=>if s i<n then 1 else 0)+(if s m<n then 1 else 0))*q+(m+1)
  have:=Vg (s:=s) n q m
  rw [Nat.add_mul]
  split <;> omega
theorem nsm_in {n:Nat} (h:∀ i j,i<m->j<m->i≠j->s i≠s j):nsm (m+1) (λ i=>if i<m/\s i<n then q else 1)<=min m n*q+(m+1):=by
 show nsm m (λ i=>if i<m/\s i<n then q else 1)+(if m<m/\s m<n then q else 1)<=_
 rw [if_neg (by omega)]
 have e:nsm m (λ i=>if i<m/\s i<n then q else 1)=nsm m (λ i=>if s i<n then q else 1):=nS λ i hi=>by
  by_cases a:s i<n
  ·rw [if_pos a,if_pos ⟨hi,a⟩]
  ·rw [if_neg a,if_neg λ z=>a z.2]
 rw [e]
 have h1:=Vg (s:=s) n q m
 have h2:=cnt_le h n
 have h3:=cnt_m (s:=s) n m
 have h4:nsm m (λ i=>if s i<n then 1 else 0)*q<=min m n*q:=Nat.mul_le_mul_right _ (by omega)
 omega
theorem B_bb {L:Lpd} (ha:∀ j k,j<L.n->k<=L.m->BB q (L.a j k)) (s:Nat->Nat) {r:Nat} (hr:r<L.m+1):BB (if j<L.m/\s j<L.n then q else 1) (L.B s j r):=by
 unfold Lpd.B
 by_cases h1:j<L.m
 ·rw [if_pos h1]
  unfold Lpd.cv
  by_cases h2:s j<L.n
  ·rw [if_pos h2,if_pos ⟨h1,h2⟩];exact ha _ _ h2 (by omega)
  ·rw [if_neg h2,if_neg λ z=>h2 z.2];exact vH (Nat.le_refl _) _ _
 ·rw [if_neg h1,if_neg λ z=>h1 z.1];exact vH (Nat.le_refl _) _ _
theorem D_bbk {L:Lpd} (ha:∀ j k,j<L.n->k<=L.m->BB q (L.a j k)) (o:L.Okn s):BB (min L.m L.n*q+(L.m+1)+(L.m+1)*(L.m+1)+1) (L.D s):=by
 have:=Ka (N:=L.m+1) (M:=L.B s) (c:=λ k=>if k<L.m/\s k<L.n then q else 1) λ j _ r hr=>B_bb ha s hr
 refine BB.mono (Kd this (L.sg_abs _)) ?_
 have h3:=nsm_in (n:=L.n) (q:=q) (s:=s) (m:=L.m) λ i j hi hj h=>o.inj hi hj h
 omega
noncomputable def Gp (p r:Nat) (f:Int×Int):Prop:=0<f.2/\BB p f.1/\BB r f.2
theorem lc_bbg:∀ (fs:List (Int×Int)) (n:Int) (m r:Nat),0<n->BB m n->(∀ f∈fs,0<f.2)->(∀ f∈fs,BB r f.2)->BB (m+r*fs.length) (fs.foldl lcf n)
 | [],_,_,_,_,h,_,_=>h
 | a::t,n,m,r,hn,h,h1,h2=>by
  rw [List.foldl_cons]
  obtain ⟨o1,_,_,_,o5⟩:=Rf hn (h1 a mem_cons_self)
  have b:BB (m+r) (lcf n a):=h.mul ((h2 a mem_cons_self).of_le o5)
  have:=lc_bbg t (lcf n a) (m+r) r o1 b (λ f hf=>h1 f (mem_cons_of_mem _ hf)) λ f hf=>h2 f (mem_cons_of_mem _ hf)
  rw [List.length_cons]
  refine this.mono ?_
  rw [Nat.mul_add,Nat.mul_one];omega
theorem lc_bbp {fs:List (Int×Int)} {p r:Nat} (h:∀ f∈fs,Gp p r f):BB (1+r*fs.length) (lc fs):=lc_bbg fs 1 1 r (by decide) (by show (1:Int).natAbs<2 ^ 1;decide) (λ f hf=>(h f hf).1) λ f hf=>(h f hf).2.2
theorem vQ {fs:List (Int×Int)} {p r:Nat} (h:∀ f∈fs,Gp p r f) (hq:BB q (lc fs)):∀ x∈clr fs,BB (p+q) x:=λ x hx=>by
 obtain ⟨f,hf,rfl⟩:=mem_map.mp hx
 have g:=h f hf
 obtain ⟨k,hk⟩:=(xL fs 1 (by decide) λ f hf=>(h f hf).1).2.2.1 f hf
 have hk:lc fs=f.2*k:=hk
 have ek:(lc fs).fdiv f.2=k:=by rw [hk];exact Int.mul_fdiv_cancel_left _ (Int.ne_of_gt g.1)
 refine g.2.1.mul (hq.of_le ?_)
 rw [ek,hk,Int.natAbs_mul]
 exact Nat.le_mul_of_pos_left _ (by have:=g.1;omega)
theorem mx1_bb {g:Int} (h1:1<=q) (h:BB q g):BB q (mx1 g):=by
 unfold mx1;split
 ·show (1:Int).natAbs<_;exact Nat.one_lt_two_pow (by omega)
 ·exact h
theorem xE {fs:List (Int×Int)} {p r:Nat} (h:∀ f∈fs,Gp p r f) (hq:BB q (lc fs)) (h1:1<=p+q):BB q (whF fs).1/\BB (p+q) (whF fs).2:=(bU (pF _)).bb hq (mx1_bb h1 (Uh (vQ h hq)))
theorem Cn {fs:List (Int×Int)} {p r:Nat} (h:∀ f∈fs,Gp p r f) (hq:BB q (lc fs)) (i:Nat):BB (p+q) ((whL fs).getD i 0):=by
 by_cases hi:i<(whL fs).length
 ·exact Hz (vQ h hq) _ (jK hi)
 ·rw [getD_eq_getElem?_getD,getElem?_eq_none (by omega)]
  show (0:Int).natAbs<_;exact Nat.two_pow_pos _
theorem bnF_gp {frs:List (List (Int×Int))} (p r pb rb ql:Nat) (hb:fb.length=frs.length) (gr:∀ row∈frs,∀ f∈row,Gp p r f) (gb:∀ f∈fb,Gp pb rb f) (hl:∀ row∈frs,BB ql (lc row)) (i1:1<=p):∀ f∈bnF frs fb,Gp (pb+ql) (rb+(p+ql)) f:=by
 intro f hf
 obtain ⟨i,hi⟩:=getElem?_of_mem hf
 have hil:i<frs.length:=by have:=(List.getElem?_eq_some_iff.mp hi).1;rwa [dF hb] at this
 have hib:i<fb.length:=by rw [hb];exact hil
 rw [mC (getElem?_eq_getElem hib) (getElem?_eq_getElem hil)] at hi
 obtain rfl:=Option.some.inj hi
 have w:=cZ λ f hf=>(gr _ (getElem_mem hil) f hf).1
 have wb:=xE (gr _ (getElem_mem hil)) (hl _ (getElem_mem hil)) (by omega)
 have g:=gb _ (getElem_mem hib)
 have lo:=bU (t:=fb[i].1*(whF frs[i]).1) (Int.mul_pos g.1 w.2)
 have lb:=lo.bb (g.2.1.mul wb.1) (g.2.2.mul wb.2)
 exact ⟨lo.pos,lb.1,lb.2⟩
theorem beo_of {frs:List (List (Int×Int))} (p r pb rb ql qm:Nat) (hr:∀ row∈frs,row.length=fg.length) (hb:fb.length=frs.length) (gr:∀ row∈frs,∀ f∈row,Gp p r f) (gg:∀ f∈fg,Gp p r f) (gb:∀ f∈fb,Gp pb rb f)
  (hl:∀ row∈frs,BB ql (lc row)) (hlg:BB ql (lc fg)) (hlm:BB qm (lc (bnF frs fb))) (i1:1<=p) (m1:frs.length<=100) (n1:fg.length<=100) (i2:p+ql<=9000) (i3:pb+ql+qm<=9000) (i4:rb+(p+ql)<=9000) (i5:r<=9000) (i6:rb<=9000)
  (i7:(frs.length+1)*(p+ql)+(frs.length+1)*(frs.length+1)+1+(p+ql)+ql+qm<=9000)
  (i8:(frs.length+1)*(p+pb+ql+qm)+(p+pb+ql+qm)+(frs.length+1)+(frs.length+1)*(frs.length+1)+1<=9000):BeO frs fb fg:=by
 have gbn:=bnF_gp p r pb rb ql hb gr gb hl i1
 have wr:∀ row∈frs,BB ql (whF row).1/\BB (p+ql) (whF row).2:=λ row h=>xE (gr row h) (hl row h) (by omega)
 have wg:BB ql (whF fg).1/\BB (p+ql) (whF fg).2:=xE gg hlg (by omega)
 have wb:BB qm (whF (bnF frs fb)).1/\BB (pb+ql+qm) (whF (bnF frs fb)).2:=by
  by_cases hz:1<=pb+ql+qm
  ·exact xE gbn hlm hz
  ·exfalso
   have:qm=0:=by omega
   subst this
   have h1:(lc (bnF frs fb)).natAbs<1:=hlm
   have h2:=Rg (fs:=bnF frs fb) λ f hf=>(gbn f hf).1
   omega
 have ha:∀ e j k,BB (p+ql) ((aM e frs fb fg).a j k):=λ e j k=>by
  show BB (p+ql) (if k<frs.length then (whL (frs.getD k [])).getD j 0 else - (whL fg).getD j 0)
  by_cases h:k<frs.length
  ·rw [if_pos h]
   have hm:frs.getD k []∈frs:=by rw [getD_eq_getElem?_getD,getElem?_eq_getElem h];exact getElem_mem h
   exact Cn (gr _ hm) (hl _ hm) j
  ·rw [if_neg h];exact (Cn gg hlg j).neg
 have hbe:∀ e k,BB (pb+ql+qm) ((aM e frs fb fg).be k):=λ e k=>Cn gbn hlm k
 have hD:∀ e s,BB ((frs.length+1)*(p+ql)+(frs.length+1)*(frs.length+1)+1) ((aM e frs fb fg).D s):=λ e s=>D_bb (L:=aM e frs fb fg) (q:=p+ql) (by omega) (λ j k _ _=>ha e j k) s
 have hT:∀ e s i qy (y:Nat->Int),(∀ k,BB qy (y k))->BB ((frs.length+1)*(p+ql)+qy+(frs.length+1)*(frs.length+1)+1) ((aM e frs fb fg).T s i y):=λ e s i qy y hy=>T_bb (L:=aM e frs fb fg) (q:=p+ql) (by omega) (λ j k _ _=>ha e j k) s i λ k _=>hy k
 have fit:∃ q q',Fit frs.length fg.length q'/\q<=9000/\(∀ k,40*2 ^ k<q->40*2 ^ k<=q')/\(∀ j k,BB q ((aM false frs fb fg).a j k))/\∀ k,BB q ((aM false frs fb fg).be k):=⟨p+pb+ql+qm,p+pb+ql+qm,⟨by omega,m1,n1,by have:=Nat.mul_le_mul_right (p+pb+ql+qm) (show min frs.length fg.length<=frs.length+1 by omega);omega⟩,by omega,λ _ h=>Nat.le_of_lt h,λ j k=>(ha _ j k).mono (by omega),λ k=>(hbe _ k).mono (by omega)⟩
 clear i8
 generalize hM:(frs.length+1)*(p+ql)=M at *
 generalize hM2:(frs.length+1)*(frs.length+1)=M2 at *
 refine ⟨hr,hb,λ row h f hf=>?_,λ f hf=>?_,λ f hf=>?_,λ row h x hx=>?_,λ x hx=>?_,λ x hx=>?_,λ row h=>?_,?_,?_,λ b hbm row h=>?_,λ e=>⟨m1,n1,λ j k hj hk=>(ha e j k).mono (by omega),λ s i c _ _=>?_,λ s i k _ _ _=>?_,λ s i _ _=>?_,λ s _=>(hD e s).mono (by omega)⟩,λ e s _=>?_,λ e s _ row h=>⟨?_,λ k hk=>?_⟩,fit⟩
 ·have g:=gr row h f hf;exact ⟨g.1,g.2.1.mono (by omega),g.2.2.mono (by omega)⟩
 ·have g:=gb f hf;exact ⟨g.1,g.2.1.mono (by omega),g.2.2.mono (by omega)⟩
 ·have g:=gg f hf;exact ⟨g.1,g.2.1.mono (by omega),g.2.2.mono (by omega)⟩
 ·exact (vQ (gr row h) (hl row h) x hx).mono (by omega)
 ·exact (vQ gg hlg x hx).mono (by omega)
 ·exact (vQ gbn hlm x hx).mono (by omega)
 ·exact ⟨(wr row h).1.mono (by omega),(wr row h).2.mono (by omega)⟩
 ·exact ⟨wb.1.mono (by omega),wb.2.mono (by omega)⟩
 ·exact ⟨wg.1.mono (by omega),wg.2.mono (by omega)⟩
 ·exact ⟨((gb b hbm).2.2.mul (wr row h).2).mono (by omega),((gb b hbm).2.1.mul (wr row h).1).mono (by omega)⟩
 ·refine (hT e s i (p+ql) _ λ k=>?_).mono (by omega)
  unfold Lpd.cv
  split
  ·exact ha e _ _
  ·exact vH (by omega) _ _
 ·exact (hT e s i 1 _ λ r=>vH (Nat.le_refl _) _ _).mono (by omega)
 ·exact (hT e s i _ _ (hbe e)).mono (by omega)
 ·exact ((hD e s).mul wb.1).mono (by omega)
 ·exact (((hD e s).mul (wr row h).2).mul wg.1).mono (by omega)
 ·exact ((hT e s frs.length 1 _ λ r=>vH (Nat.le_refl _) _ _).mul (wr row h).1).mono (by omega)
noncomputable def gK (L:Lpd) (s:Nat->Nat):Prop:=∀ i,i<L.m->s i<L.n+L.m
noncomputable def UnO (L:Lpd) (s:Nat->Nat):Option Nat->Prop
 | none=>∀ c,c<L.n+L.m->0<=L.T s L.m (L.cv c)
 | some c=>c<L.n+L.m/\L.T s L.m (L.cv c)<0/\∀ i,i<L.m->L.T s i (L.cv c)<=0
noncomputable def vD (L:Lpd) (s:Nat->Nat) (f:Nat->Int) (i j:Nat):Int×Int:=lo2 (Lpd.spr i s f j) (L.D s)
noncomputable def fY (L:Lpd) (s:Nat->Nat) (c j:Nat):Int×Int:=lo2 (Lpd.spr L.m s (λ i=>- L.T s i (L.cv c)) j+if j=c then L.D s else 0) (L.D s)
noncomputable def eW:Nat->(Nat->Int×Int)->(Nat->Int×Int)->Int×Int
 | 0,_,_=>(0,1)
 | n+1,f,g=>((eW n f g).1*(f n).2*(g n).2+(f n).1*(g n).1*(eW n f g).2,(eW n f g).2*(f n).2*(g n).2)
theorem eN {f g:Nat->Int×Int}:∀ {n:Nat},(∀ k,k<n->0<(f k).2)->(∀ k,k<n->0<(g k).2)->0<(eW n f g).2
 | 0,_,_=>by show (0:Int)<1;decide
 | n+1,h1,h2=>Int.mul_pos (Int.mul_pos (eN (λ k hk=>h1 k (by omega)) λ k hk=>h2 k (by omega)) (h1 n (by omega))) (h2 n (by omega))
theorem pE {f g:Nat->Int×Int} {W:Int} {v:Nat->Int}:∀ {n:Nat},(∀ k,k<n->(f k).1*(g k).1*W=v k*((f k).2*(g k).2))->(eW n f g).1*W=sm n v*(eW n f g).2
 | 0,_=>by show (0:Int)*W=0*1;simp
 | n+1,h=>by
  have ih:=pE (n:=n) λ k hk=>h k (by omega)
  have hn:=h n (by omega)
  show ((eW n f g).1*(f n).2*(g n).2+(f n).1*(g n).1*(eW n f g).2)*W=(sm n v+v n)*((eW n f g).2*(f n).2*(g n).2)
  generalize (eW n f g).1=t at *
  generalize (eW n f g).2=b at *
  grind
theorem Uv {P:Int×Int} {W S:Int} {c:Int×Int} (hW:0<W) (hP:0<P.2) (e:P.1*W=S*P.2) (h:S*c.2<=c.1*W):P.1*c.2<=c.1*P.2:=by
 have h1:S*c.2*P.2<=c.1*W*P.2:=Int.mul_le_mul_of_nonneg_right h (Int.le_of_lt hP)
 refine Int.le_of_mul_le_mul_right (a:=W) ?_ hW
 have e1:P.1*c.2*W=S*c.2*P.2:=by grind
 have e2:c.1*P.2*W=c.1*W*P.2:=by grind
 rw [e1,e2];exact h1
theorem prdF_ge {P:Int×Int} {W S:Int} {c:Int×Int} (hW:0<W) (hP:0<P.2) (e:P.1*W=S*P.2) (h:c.1*W<=S*c.2):c.1*P.2<=P.1*c.2:=by
 have h1:c.1*W*P.2<=S*c.2*P.2:=Int.mul_le_mul_of_nonneg_right h (Int.le_of_lt hP)
 refine Int.le_of_mul_le_mul_right (a:=W) ?_ hW
 have e1:P.1*c.2*W=S*c.2*P.2:=by grind
 have e2:c.1*P.2*W=c.1*W*P.2:=by grind
 rw [e1,e2];exact h1
theorem Vr {S D:Int} {W:Int×Int} (hD:0<D) (hW:0<W.1):(fov (lo2 S D) W).1*(D*W.1)=S*W.2*(fov (lo2 S D) W).2/\0<(fov (lo2 S D) W).2/\Int.gcd (fov (lo2 S D) W).1 (fov (lo2 S D) W).2=1:=by
 have l1:=bU (t:=S) hD
 have z:=Int.mul_pos l1.pos hW
 have l2:=bU (t:=(lo2 S D).1*W.2) z
 refine ⟨?_,l2.pos,l2.cop⟩
 have h1:=l1.eq
 have h2:=l2.eq
 have p1:=l1.pos
 show (lo2 ((lo2 S D).1*W.2) ((lo2 S D).2*W.1)).1*(D*W.1)=S*W.2*(lo2 ((lo2 S D).1*W.2) ((lo2 S D).2*W.1)).2
 generalize (lo2 ((lo2 S D).1*W.2) ((lo2 S D).2*W.1)).1=X at *
 generalize (lo2 ((lo2 S D).1*W.2) ((lo2 S D).2*W.1)).2=Y at *
 generalize (lo2 S D).1=s at *
 generalize (lo2 S D).2=d at *
 apply Int.eq_of_mul_eq_mul_left (show d≠0 by omega)
 grind
theorem Tu {S D:Int} {W:Int×Int} (hD:0<D) (hW:0<W.1) (hW2:0<W.2) (hS:0<=S):0<=(fov (lo2 S D) W).1:=by
 obtain ⟨e,p,_⟩:=Vr (S:=S) hD hW
 refine jD (Int.mul_pos hD hW) ?_
 rw [e]
 exact Int.mul_nonneg (Int.mul_nonneg hS (Int.le_of_lt hW2)) (Int.le_of_lt p)
theorem fty_val {U D:Int} {w G:Int×Int} (hD:0<D) (hw:0<w.2) (hG:0<G.1):(fov (ftm (lo2 U D) w) G).1*(D*w.2*G.1)=U*w.1*G.2*(fov (ftm (lo2 U D) w) G).2/\0<(fov (ftm (lo2 U D) w) G).2/\Int.gcd (fov (ftm (lo2 U D) w) G).1 (fov (ftm (lo2 U D) w) G).2=1:=by
 have l1:=bU (t:=U) hD
 have z1:=Int.mul_pos l1.pos hw
 have l2:=bU (t:=(lo2 U D).1*w.1) z1
 have z2:=Int.mul_pos l2.pos hG
 have l3:=bU (t:=(lo2 ((lo2 U D).1*w.1) ((lo2 U D).2*w.2)).1*G.2) z2
 refine ⟨?_,l3.pos,l3.cop⟩
 have h1:=l1.eq
 have h2:=l2.eq
 have h3:=l3.eq
 have p1:=l1.pos
 have p2:=l2.pos
 show (lo2 ((lo2 ((lo2 U D).1*w.1) ((lo2 U D).2*w.2)).1*G.2) ((lo2 ((lo2 U D).1*w.1) ((lo2 U D).2*w.2)).2*G.1)).1*(D*w.2*G.1)=U*w.1*G.2*(lo2 ((lo2 ((lo2 U D).1*w.1) ((lo2 U D).2*w.2)).1*G.2) ((lo2 ((lo2 U D).1*w.1) ((lo2 U D).2*w.2)).2*G.1)).2
 generalize (lo2 ((lo2 ((lo2 U D).1*w.1) ((lo2 U D).2*w.2)).1*G.2) ((lo2 ((lo2 U D).1*w.1) ((lo2 U D).2*w.2)).2*G.1)).1=X at *
 generalize (lo2 ((lo2 ((lo2 U D).1*w.1) ((lo2 U D).2*w.2)).1*G.2) ((lo2 ((lo2 U D).1*w.1) ((lo2 U D).2*w.2)).2*G.1)).2=Y at *
 generalize (lo2 ((lo2 U D).1*w.1) ((lo2 U D).2*w.2)).1=u at *
 generalize (lo2 ((lo2 U D).1*w.1) ((lo2 U D).2*w.2)).2=d2 at *
 generalize (lo2 U D).1=s at *
 generalize (lo2 U D).2=d at *
 apply Int.eq_of_mul_eq_mul_left (show d*d2≠0 from Int.ne_of_gt (Int.mul_pos p1 p2))
 grind
section
variable {fl:Bool} {frs:List (List (Int×Int))} {fb fg:List (Int×Int)} {s:Nat->Nat}
noncomputable def rwF (frs:List (List (Int×Int))) (i j:Nat):Int×Int:=(frs.getD i []).getD j (0,1)
theorem Km (B:BeO frs fb fg) (hi:i<frs.length) (hj:j<fg.length):(aM fl frs fb fg).a j i*((rwF frs i j).2*(whF (frs.getD i [])).2)=(rwF frs i j).1*(whF (frs.getD i [])).1:=by
 have hm:frs.getD i []∈frs:=by rw [getD_eq_getElem?_getD,getElem?_eq_getElem hi];exact getElem_mem hi
 have hl:=B.lr _ hm
 have e:(aM fl frs fb fg).a j i=(whL (frs.getD i [])).getD j 0:=by show (if i<frs.length then _ else _)=_;rw [if_pos hi]
 rw [e]
 refine Ju (λ f hf=>(B.gr _ hm f hf).1) ?_
 unfold rwF
 generalize frs.getD i []=l at *
 rw [getD_eq_getElem?_getD,getElem?_eq_getElem (by omega)];rfl
theorem Dr (B:BeO frs fb fg) (hj:j<fg.length):- (aM fl frs fb fg).a j frs.length*((fg.getD j (0,1)).2*(whF fg).2)=(fg.getD j (0,1)).1*(whF fg).1:=by
 have e:(aM fl frs fb fg).a j frs.length = - (whL fg).getD j 0:=by show (if frs.length<frs.length then _ else _)=_;rw [if_neg (Nat.lt_irrefl _)]
 rw [e,Int.neg_neg]
 refine Ju (λ f hf=>(B.gg f hf).1) ?_
 rw [getD_eq_getElem?_getD,getElem?_eq_getElem hj];rfl
theorem We (B:BeO frs fb fg) (hi:i<frs.length):(aM fl frs fb fg).be i*(whF (bnF frs fb)).2*((fb.getD i (0,1)).2*(whF (frs.getD i [])).2)=(fb.getD i (0,1)).1*(whF (frs.getD i [])).1*(whF (bnF frs fb)).1:=by
 have hib:i<fb.length:=by rw [B.lb];exact hi
 have e1:fb[i]?=some (fb.getD i (0,1)):=by rw [getD_eq_getElem?_getD,getElem?_eq_getElem hib];rfl
 have e2:frs[i]?=some (frs.getD i []):=by rw [getD_eq_getElem?_getD,getElem?_eq_getElem hi];rfl
 have hm:=mem_of_getElem? e2
 have hbm:=mem_of_getElem? e1
 have w:=cZ λ f hf=>(B.gr _ hm f hf).1
 have z:=Int.mul_pos (B.gb _ hbm).1 w.2
 have l:=bU (t:=(fb.getD i (0,1)).1*(whF (frs.getD i [])).1) z
 have gbn:∀ f∈bnF frs fb,0<f.2:=λ f hf=>by
  obtain ⟨k,hk⟩:=getElem?_of_mem hf
  have hkl:k<frs.length:=by have:=(List.getElem?_eq_some_iff.mp hk).1;rwa [dF B.lb] at this
  have hkb:k<fb.length:=by rw [B.lb];exact hkl
  rw [mC (getElem?_eq_getElem hkb) (getElem?_eq_getElem hkl)] at hk
  obtain rfl:=Option.some.inj hk
  have w:=cZ λ f hf=>(B.gr _ (getElem_mem hkl) f hf).1
  exact (bU (Int.mul_pos (B.gb _ (getElem_mem hkb)).1 w.2)).pos
 have q:=Ju gbn (mC e1 e2)
 have eb:(aM fl frs fb fg).be i=(whL (bnF frs fb)).getD i 0:=rfl
 rw [eb]
 have h1:=l.eq
 have p1:=l.pos
 have q:(whL (bnF frs fb)).getD i 0*((lo2 ((fb.getD i (0,1)).1*(whF (frs.getD i [])).1) ((fb.getD i (0,1)).2*(whF (frs.getD i [])).2)).2*(whF (bnF frs fb)).2)=(lo2 ((fb.getD i (0,1)).1*(whF (frs.getD i [])).1) ((fb.getD i (0,1)).2*(whF (frs.getD i [])).2)).1*(whF (bnF frs fb)).1:=q
 generalize (lo2 ((fb.getD i (0,1)).1*(whF (frs.getD i [])).1) ((fb.getD i (0,1)).2*(whF (frs.getD i [])).2)).1=X at *
 generalize (lo2 ((fb.getD i (0,1)).1*(whF (frs.getD i [])).1) ((fb.getD i (0,1)).2*(whF (frs.getD i [])).2)).2=Y at *
 generalize (fb.getD i (0,1)).1=b1 at *
 generalize (fb.getD i (0,1)).2=b2 at *
 generalize (whF (frs.getD i [])).1=w1 at *
 generalize (whF (frs.getD i [])).2=w2 at *
 generalize (whF (bnF frs fb)).1=W1 at *
 generalize (whF (bnF frs fb)).2=W2 at *
 generalize (whL (bnF frs fb)).getD i 0=be at *
 apply Int.eq_of_mul_eq_mul_left (show Y≠0 by omega)
 grind
noncomputable def xF (fl:Bool) (frs:List (List (Int×Int))) (fb fg:List (Int×Int)) (s:Nat->Nat) (j:Nat):Int×Int:=fov (vD (aM fl frs fb fg) s (λ i=>(aM fl frs fb fg).T s i (aM fl frs fb fg).be) frs.length j) (whF (bnF frs fb))
noncomputable def yF (fl:Bool) (frs:List (List (Int×Int))) (fb fg:List (Int×Int)) (s:Nat->Nat) (k:Nat):Int×Int:=fov (ftm (lo2 ((aM fl frs fb fg).T s frs.length (e1 k)) ((aM fl frs fb fg).D s)) (whF (frs.getD k []))) (whF fg)
theorem Kb (B:BeO frs fb fg):0<(whF (bnF frs fb)).1/\0<(whF (bnF frs fb)).2:=cZ λ f hf=>by
 obtain ⟨k,hk⟩:=getElem?_of_mem hf
 have hkl:k<frs.length:=by have:=(List.getElem?_eq_some_iff.mp hk).1;rwa [dF B.lb] at this
 have hkb:k<fb.length:=by rw [B.lb];exact hkl
 rw [mC (getElem?_eq_getElem hkb) (getElem?_eq_getElem hkl)] at hk
 obtain rfl:=Option.some.inj hk
 have w:=cZ λ f hf=>(B.gr _ (getElem_mem hkl) f hf).1
 exact (bU (Int.mul_pos (B.gb _ (getElem_mem hkb)).1 w.2)).pos
theorem xH (B:BeO frs fb fg) (hi:i<frs.length):0<(whF (frs.getD i [])).1/\0<(whF (frs.getD i [])).2:=cZ λ f hf=>(B.gr _ (by rw [getD_eq_getElem?_getD,getElem?_eq_getElem hi];exact getElem_mem hi) f hf).1
theorem sQ (B:BeO frs fb fg) (hi:i<frs.length) (hj:j<fg.length):0<(rwF frs i j).2:=by
 have hm:frs.getD i []∈frs:=by rw [getD_eq_getElem?_getD,getElem?_eq_getElem hi];exact getElem_mem hi
 have hl:=B.lr _ hm
 have g:=B.gr _ hm
 unfold rwF
 generalize frs.getD i []=l at *
 have:l.getD j (0,1)∈l:=by rw [getD_eq_getElem?_getD,getElem?_eq_getElem (by omega)];exact getElem_mem _
 exact (g _ this).1
theorem Gu (B:BeO frs fb fg) (ok:(aM fl frs fb fg).Ok s) (j:Nat):0<(xF fl frs fb fg s j).2/\Int.gcd (xF fl frs fb fg s j).1 (xF fl frs fb fg s j).2=1/\0<=(xF fl frs fb fg s j).1/\(xF fl frs fb fg s j).1*((aM fl frs fb fg).D s*(whF (bnF frs fb)).1)=Lpd.spr frs.length s (λ i=>(aM fl frs fb fg).T s i (aM fl frs fb fg).be) j*(whF (bnF frs fb)).2*(xF fl frs fb fg s j).2:=by
 have w:=Kb B
 obtain ⟨e,p,c⟩:=Vr (S:=Lpd.spr frs.length s (λ i=>(aM fl frs fb fg).T s i (aM fl frs fb fg).be) j) ok.pos w.1
 exact ⟨p,c,Tu ok.pos w.1 w.2 (Lpd.spr_nonneg (λ i hi=>ok.bound_nonneg hi) j),e⟩
theorem Rs (B:BeO frs fb fg) (ok:(aM fl frs fb fg).Ok s) (io:gK (aM fl frs fb fg) s) (hi:i<frs.length):(eW fg.length (rwF frs i) (xF fl frs fb fg s)).1*(fb.getD i (0,1)).2<=(fb.getD i (0,1)).1*(eW fg.length (rwF frs i) (xF fl frs fb fg s)).2:=by
 have w:=Kb B
 have r:=xH B hi
 have D0:=ok.pos
 have al:=ok.allowed io (r:=i) hi
 have bv:=We (fl:=fl) B hi
 have hib:i<fb.length:=by rw [B.lb];exact hi
 have b0:0<(fb.getD i (0,1)).2:=(B.gb _ (by rw [getD_eq_getElem?_getD,getElem?_eq_getElem hib];exact getElem_mem hib)).1
 have e:=pE (n:=fg.length) (f:=rwF frs i) (g:=xF fl frs fb fg s) (W:=(whF (frs.getD i [])).1*(aM fl frs fb fg).D s*(whF (bnF frs fb)).1) (v:=λ j=>((whF (frs.getD i [])).2*(whF (bnF frs fb)).2)*(Lpd.spr frs.length s (λ i=>(aM fl frs fb fg).T s i (aM fl frs fb fg).be) j*(aM fl frs fb fg).a j i)) λ j hj=>by
  have h1:=Km (fl:=fl) B hi hj
  have h2:=(Gu B ok j).2.2.2
  generalize (xF fl frs fb fg s j).1=x1 at *
  generalize (xF fl frs fb fg s j).2=x2 at *
  generalize (rwF frs i j).1=f1 at *
  generalize (rwF frs i j).2=f2 at *
  generalize (whF (frs.getD i [])).1=w1 at *
  generalize (whF (frs.getD i [])).2=w2 at *
  generalize (whF (bnF frs fb)).1=W1 at *
  generalize (whF (bnF frs fb)).2=W2 at *
  generalize (aM fl frs fb fg).a j i=a at *
  generalize Lpd.spr frs.length s (λ i=>(aM fl frs fb fg).T s i (aM fl frs fb fg).be) j=S at *
  generalize (aM fl frs fb fg).D s=D at *
  grind
 rw [Lpd.sm_mul] at e
 refine Uv (Int.mul_pos (Int.mul_pos r.1 D0) w.1) (eN (λ j hj=>sQ B hi hj) λ j _=>(Gu B ok j).1) e ?_
 have al:sm fg.length (λ j=>Lpd.spr frs.length s (λ i=>(aM fl frs fb fg).T s i (aM fl frs fb fg).be) j*(aM fl frs fb fg).a j i)<=(aM fl frs fb fg).D s*(aM fl frs fb fg).be i:=al
 generalize sm fg.length (λ j=>Lpd.spr frs.length s (λ i=>(aM fl frs fb fg).T s i (aM fl frs fb fg).be) j*(aM fl frs fb fg).a j i)=zs at *
 have m:=Int.mul_le_mul_of_nonneg_left al (Int.le_of_lt (Int.mul_pos (Int.mul_pos r.2 w.2) b0))
 generalize (whF (frs.getD i [])).1=w1 at *
 generalize (whF (frs.getD i [])).2=w2 at *
 generalize (whF (bnF frs fb)).1=W1 at *
 generalize (whF (bnF frs fb)).2=W2 at *
 generalize (aM fl frs fb fg).D s=D at *
 generalize (aM fl frs fb fg).be i=be at *
 generalize (fb.getD i (0,1)).1=b1 at *
 generalize (fb.getD i (0,1)).2=b2 at *
 have e1:w2*W2*zs*b2=w2*W2*b2*zs:=by grind
 have e2:b1*(w1*D*W1)=w2*W2*b2*(D*be):=by grind
 rw [e1,e2];exact m
theorem jZg (un:UnO (aM fl frs fb fg) s none) (hk:k<frs.length):0<=(aM fl frs fb fg).T s frs.length (e1 k):=by
 have:=un ((aM fl frs fb fg).n+k) (Nat.add_lt_add_left hk _)
 rwa [Lpd.cv_spare] at this
theorem Gs (B:BeO frs fb fg) (ok:(aM fl frs fb fg).Ok s) (un:UnO (aM fl frs fb fg) s none) (hk:k<frs.length):0<(yF fl frs fb fg s k).2/\Int.gcd (yF fl frs fb fg s k).1 (yF fl frs fb fg s k).2=1/\0<=(yF fl frs fb fg s k).1/\(yF fl frs fb fg s k).1*((aM fl frs fb fg).D s*(whF (frs.getD k [])).2*(whF fg).1)=(aM fl frs fb fg).T s frs.length (e1 k)*(whF (frs.getD k [])).1*(whF fg).2*(yF fl frs fb fg s k).2:=by
 have r:=xH B hk
 have g:=cZ λ f hf=>(B.gg f hf).1
 obtain ⟨e,p,c⟩:=fty_val (U:=(aM fl frs fb fg).T s frs.length (e1 k)) (w:=whF (frs.getD k [])) (G:=whF fg) ok.pos r.2 g.1
 refine ⟨p,c,jD (Int.mul_pos (Int.mul_pos ok.pos r.2) g.1) ?_,e⟩
 have:0<=(aM fl frs fb fg).T s frs.length (e1 k)*(whF (frs.getD k [])).1*(whF fg).2*(fov (ftm (lo2 ((aM fl frs fb fg).T s frs.length (e1 k)) ((aM fl frs fb fg).D s)) (whF (frs.getD k []))) (whF fg)).2:=Int.mul_nonneg (Int.mul_nonneg (Int.mul_nonneg (jZg un hk) (Int.le_of_lt r.1)) (Int.le_of_lt g.2)) (Int.le_of_lt p)
 rw [← e] at this
 exact this
theorem ys_pay (B:BeO frs fb fg) (ok:(aM fl frs fb fg).Ok s) (un:UnO (aM fl frs fb fg) s none) (hj:j<fg.length):(fg.getD j (0,1)).1*(eW frs.length (yF fl frs fb fg s) (λ i=>rwF frs i j)).2<=(eW frs.length (yF fl frs fb fg s) (λ i=>rwF frs i j)).1*(fg.getD j (0,1)).2:=by
 have g:=cZ λ f hf=>(B.gg f hf).1
 have D0:=ok.pos
 have gv:=Dr (fl:=fl) B hj
 have h0:0<(fg.getD j (0,1)).2:=(B.gg _ (by rw [getD_eq_getElem?_getD,getElem?_eq_getElem hj];exact getElem_mem hj)).1
 have e:=pE (n:=frs.length) (f:=yF fl frs fb fg s) (g:=λ i=>rwF frs i j) (W:=(aM fl frs fb fg).D s*(whF fg).1) (v:=λ i=>(whF fg).2*((aM fl frs fb fg).a j i*(aM fl frs fb fg).T s frs.length (e1 i))) λ i hi=>by
  have h1:=Km (fl:=fl) B hi hj
  have h2:=(Gs B ok un hi).2.2.2
  have r:=xH B hi
  show (yF fl frs fb fg s i).1*(rwF frs i j).1*_=_*((yF fl frs fb fg s i).2*(rwF frs i j).2)
  generalize (yF fl frs fb fg s i).1=x1 at *
  generalize (yF fl frs fb fg s i).2=x2 at *
  generalize (rwF frs i j).1=f1 at *
  generalize (rwF frs i j).2=f2 at *
  generalize (whF (frs.getD i [])).1=w1 at *
  generalize (whF (frs.getD i [])).2=w2 at *
  generalize (whF fg).1=G1 at *
  generalize (whF fg).2=G2 at *
  generalize (aM fl frs fb fg).a j i=a at *
  generalize (aM fl frs fb fg).T s frs.length (e1 i)=U at *
  generalize (aM fl frs fb fg).D s=D at *
  apply Int.eq_of_mul_eq_mul_left (show w2≠0 by omega)
  grind
 rw [Lpd.sm_mul] at e
 refine prdF_ge (Int.mul_pos D0 g.1) (eN (λ i hi=>(Gs B ok un hi).1) λ i hi=>sQ B hi hj) e ?_
 have go:=Lpd.goal_of (L:=aM fl frs fb fg) (s:=s) ((aM fl frs fb fg).cv j)
 have hc:=un j (show j<fg.length+frs.length by omega)
 have ecv:(aM fl frs fb fg).cv j=(aM fl frs fb fg).a j:=by unfold Lpd.cv;rw [if_pos (show j<(aM fl frs fb fg).n from hj)]
 rw [go,ecv] at hc
 have hc:0<=(sm frs.length λ k=>(aM fl frs fb fg).a j k*(aM fl frs fb fg).T s frs.length (e1 k))+(aM fl frs fb fg).a j frs.length*(aM fl frs fb fg).D s:=hc
 generalize (sm frs.length λ k=>(aM fl frs fb fg).a j k*(aM fl frs fb fg).T s frs.length (e1 k))=zs at *
 generalize (aM fl frs fb fg).a j frs.length=am at *
 generalize (aM fl frs fb fg).D s=D at *
 generalize (whF fg).1=G1 at *
 generalize (whF fg).2=G2 at *
 generalize (fg.getD j (0,1)).1=h1 at *
 generalize (fg.getD j (0,1)).2=h2 at *
 have m:=Int.mul_le_mul_of_nonneg_left (show - am*D<=zs by have:- am*D = - (am*D):=Int.neg_mul _ _;omega) (Int.le_of_lt (Int.mul_pos g.2 h0))
 have e1:h1*(D*G1)=G2*h2*(- am*D):=by grind
 have e2:G2*zs*h2=G2*h2*zs:=by grind
 rw [e1,e2];exact m
theorem Yt (B:BeO frs fb fg) (ok:(aM fl frs fb fg).Ok s) (io:gK (aM fl frs fb fg) s) (un:UnO (aM fl frs fb fg) s none) :
  (eW fg.length (λ j=>fg.getD j (0,1)) (xF fl frs fb fg s)).1*(eW frs.length (λ i=>fb.getD i (0,1)) (yF fl frs fb fg s)).2=(eW frs.length (λ i=>fb.getD i (0,1)) (yF fl frs fb fg s)).1*(eW fg.length (λ j=>fg.getD j (0,1)) (xF fl frs fb fg s)).2:=by
 have g:=cZ λ f hf=>(B.gg f hf).1
 have w:=Kb B
 have D0:=ok.pos
 have q1:=pE (n:=fg.length) (f:=λ j=>fg.getD j (0,1)) (g:=xF fl frs fb fg s) (W:=(whF fg).1*(aM fl frs fb fg).D s*(whF (bnF frs fb)).1) (v:=λ j=>(- ((whF fg).2*(whF (bnF frs fb)).2))*(Lpd.spr frs.length s (λ i=>(aM fl frs fb fg).T s i (aM fl frs fb fg).be) j*(aM fl frs fb fg).a j frs.length)) λ j hj=>by
  have h1:=Dr (fl:=fl) B hj
  have h2:=(Gu B ok j).2.2.2
  show (fg.getD j (0,1)).1*(xF fl frs fb fg s j).1*_=_*((fg.getD j (0,1)).2*(xF fl frs fb fg s j).2)
  generalize (xF fl frs fb fg s j).1=x1 at *
  generalize (xF fl frs fb fg s j).2=x2 at *
  generalize (fg.getD j (0,1)).1=f1 at *
  generalize (fg.getD j (0,1)).2=f2 at *
  generalize (whF fg).1=G1 at *
  generalize (whF fg).2=G2 at *
  generalize (whF (bnF frs fb)).1=W1 at *
  generalize (whF (bnF frs fb)).2=W2 at *
  generalize (aM fl frs fb fg).a j frs.length=a at *
  generalize Lpd.spr frs.length s (λ i=>(aM fl frs fb fg).T s i (aM fl frs fb fg).be) j=S at *
  generalize (aM fl frs fb fg).D s=D at *
  grind
 have q2:=pE (n:=frs.length) (f:=λ i=>fb.getD i (0,1)) (g:=yF fl frs fb fg s) (W:=(whF fg).1*(aM fl frs fb fg).D s*(whF (bnF frs fb)).1) (v:=λ i=>((whF fg).2*(whF (bnF frs fb)).2)*((aM fl frs fb fg).be i*(aM fl frs fb fg).T s frs.length (e1 i))) λ i hi=>by
  have h1:=We (fl:=fl) B hi
  have h2:=(Gs B ok un hi).2.2.2
  have r:=xH B hi
  show (fb.getD i (0,1)).1*(yF fl frs fb fg s i).1*_=_*((fb.getD i (0,1)).2*(yF fl frs fb fg s i).2)
  generalize (yF fl frs fb fg s i).1=x1 at *
  generalize (yF fl frs fb fg s i).2=x2 at *
  generalize (fb.getD i (0,1)).1=b1 at *
  generalize (fb.getD i (0,1)).2=b2 at *
  generalize (whF (frs.getD i [])).1=w1 at *
  generalize (whF (frs.getD i [])).2=w2 at *
  generalize (whF fg).1=G1 at *
  generalize (whF fg).2=G2 at *
  generalize (whF (bnF frs fb)).1=W1 at *
  generalize (whF (bnF frs fb)).2=W2 at *
  generalize (aM fl frs fb fg).be i=be at *
  generalize (aM fl frs fb fg).T s frs.length (e1 i)=U at *
  generalize (aM fl frs fb fg).D s=D at *
  apply Int.eq_of_mul_eq_mul_left (show w1*w2≠0 from Int.ne_of_gt (Int.mul_pos r.1 r.2))
  grind
 rw [Lpd.sm_mul] at q1 q2
 have be0:(aM fl frs fb fg).be frs.length=0:=by
  show (whL (bnF frs fb)).getD frs.length 0=0
  rw [getD_eq_getElem?_getD,getElem?_eq_none (by rw [eF,dF B.lb];exact Nat.le_refl _)];rfl
 have ea:(sm fg.length λ j=>Lpd.spr frs.length s (λ i=>(aM fl frs fb fg).T s i (aM fl frs fb fg).be) j*(aM fl frs fb fg).a j frs.length) = - (aM fl frs fb fg).T s frs.length (aM fl frs fb fg).be:=ok.earned io be0
 have go:=Lpd.goal_of (L:=aM fl frs fb fg) (s:=s) (aM fl frs fb fg).be
 have go:(aM fl frs fb fg).T s frs.length (aM fl frs fb fg).be=(sm frs.length λ k=>(aM fl frs fb fg).be k*(aM fl frs fb fg).T s frs.length (e1 k))+(aM fl frs fb fg).be frs.length*(aM fl frs fb fg).D s:=go
 rw [be0,Int.zero_mul,Int.add_zero] at go
 rw [ea] at q1
 rw [← go] at q2
 have z:=Int.mul_pos (Int.mul_pos g.1 D0) w.1
 generalize (eW fg.length (λ j=>fg.getD j (0,1)) (xF fl frs fb fg s)).1=P1 at *
 generalize (eW fg.length (λ j=>fg.getD j (0,1)) (xF fl frs fb fg s)).2=P2 at *
 generalize (eW frs.length (λ i=>fb.getD i (0,1)) (yF fl frs fb fg s)).1=R1 at *
 generalize (eW frs.length (λ i=>fb.getD i (0,1)) (yF fl frs fb fg s)).2=R2 at *
 generalize (whF fg).1*(aM fl frs fb fg).D s*(whF (bnF frs fb)).1=Z at *
 generalize (aM fl frs fb fg).T s frs.length (aM fl frs fb fg).be=tb at *
 apply Int.eq_of_mul_eq_mul_left (show Z≠0 by omega)
 grind
theorem Mv (ok:(aM fl frs fb fg).Ok s) (un:UnO (aM fl frs fb fg) s (some c)) (j:Nat):0<(fY (aM fl frs fb fg) s c j).2/\Int.gcd (fY (aM fl frs fb fg) s c j).1 (fY (aM fl frs fb fg) s c j).2=1/\0<=(fY (aM fl frs fb fg) s c j).1/\(fY (aM fl frs fb fg) s c j).1*(aM fl frs fb fg).D s=(Lpd.spr frs.length s (λ i=>- (aM fl frs fb fg).T s i ((aM fl frs fb fg).cv c)) j+if j=c then (aM fl frs fb fg).D s else 0)*(fY (aM fl frs fb fg) s c j).2:=by
 have D0:=ok.pos
 have l:=bU (t:=Lpd.spr frs.length s (λ i=>- (aM fl frs fb fg).T s i ((aM fl frs fb fg).cv c)) j+if j=c then (aM fl frs fb fg).D s else 0) D0
 refine ⟨l.pos,l.cop,pS D0 (Int.add_nonneg (Lpd.spr_nonneg (λ i hi=>?_) j) ?_),l.eq⟩
 ·have:=un.2.2 i hi;omega
 ·split
  ·omega
  ·exact Int.le_refl _
theorem Le (B:BeO frs fb fg) (ok:(aM fl frs fb fg).Ok s) (io:gK (aM fl frs fb fg) s) (un:UnO (aM fl frs fb fg) s (some c)) (hi:i<frs.length):(eW fg.length (rwF frs i) (fY (aM fl frs fb fg) s c)).1<=0:=by
 have r:=xH B hi
 have D0:=ok.pos
 have al:=ok.ways_row io (c:=c) (r:=i) un.2.2 hi
 have al:(sm fg.length λ j=>(Lpd.spr frs.length s (λ i=>- (aM fl frs fb fg).T s i ((aM fl frs fb fg).cv c)) j+if j=c then (aM fl frs fb fg).D s else 0)*(aM fl frs fb fg).a j i)<=0:=al
 have e:=pE (n:=fg.length) (f:=rwF frs i) (g:=fY (aM fl frs fb fg) s c) (W:=(whF (frs.getD i [])).1*(aM fl frs fb fg).D s) (v:=λ j=>(whF (frs.getD i [])).2*((Lpd.spr frs.length s (λ i=>- (aM fl frs fb fg).T s i ((aM fl frs fb fg).cv c)) j+if j=c then (aM fl frs fb fg).D s else 0)*(aM fl frs fb fg).a j i)) λ j hj=>by
  have h1:=Km (fl:=fl) B hi hj
  have h2:=(Mv ok un j).2.2.2
  generalize (Lpd.spr frs.length s (λ i=>- (aM fl frs fb fg).T s i ((aM fl frs fb fg).cv c)) j+if j=c then (aM fl frs fb fg).D s else 0)=S at *
  generalize (fY (aM fl frs fb fg) s c j).1=x1 at *
  generalize (fY (aM fl frs fb fg) s c j).2=x2 at *
  generalize (rwF frs i j).1=f1 at *
  generalize (rwF frs i j).2=f2 at *
  generalize (whF (frs.getD i [])).1=w1 at *
  generalize (whF (frs.getD i [])).2=w2 at *
  generalize (aM fl frs fb fg).a j i=a at *
  generalize (aM fl frs fb fg).D s=D at *
  grind
 rw [Lpd.sm_mul] at e
 have p:=eN (n:=fg.length) (f:=rwF frs i) (g:=fY (aM fl frs fb fg) s c) (λ j hj=>sQ B hi hj) λ j _=>(Mv ok un j).1
 have:=Uv (c:=(0,1)) (Int.mul_pos r.1 D0) p e (by
  show _*1<=0*_
  rw [Int.mul_one,Int.zero_mul]
  exact Int.mul_nonpos_of_nonneg_of_nonpos (Int.le_of_lt r.2) al)
 simpa using this
theorem Fw (B:BeO frs fb fg) (ok:(aM fl frs fb fg).Ok s) (io:gK (aM fl frs fb fg) s) (un:UnO (aM fl frs fb fg) s (some c)):0<(eW fg.length (λ j=>fg.getD j (0,1)) (fY (aM fl frs fb fg) s c)).1:=by
 have g:=cZ λ f hf=>(B.gg f hf).1
 have D0:=ok.pos
 have al:=ok.ways_goal io (c:=c) un.1
 have al:(sm fg.length λ j=>(Lpd.spr frs.length s (λ i=>- (aM fl frs fb fg).T s i ((aM fl frs fb fg).cv c)) j+if j=c then (aM fl frs fb fg).D s else 0)*(aM fl frs fb fg).a j frs.length)=(aM fl frs fb fg).T s frs.length ((aM fl frs fb fg).cv c):=al
 have e:=pE (n:=fg.length) (f:=λ j=>fg.getD j (0,1)) (g:=fY (aM fl frs fb fg) s c) (W:=(whF fg).1*(aM fl frs fb fg).D s) (v:=λ j=>(- (whF fg).2)*((Lpd.spr frs.length s (λ i=>- (aM fl frs fb fg).T s i ((aM fl frs fb fg).cv c)) j+if j=c then (aM fl frs fb fg).D s else 0)*(aM fl frs fb fg).a j frs.length)) λ j hj=>by
  have h1:=Dr (fl:=fl) B hj
  have h2:=(Mv ok un j).2.2.2
  show (fg.getD j (0,1)).1*(fY (aM fl frs fb fg) s c j).1*_=_*((fg.getD j (0,1)).2*(fY (aM fl frs fb fg) s c j).2)
  generalize (Lpd.spr frs.length s (λ i=>- (aM fl frs fb fg).T s i ((aM fl frs fb fg).cv c)) j+if j=c then (aM fl frs fb fg).D s else 0)=S at *
  generalize (fY (aM fl frs fb fg) s c j).1=x1 at *
  generalize (fY (aM fl frs fb fg) s c j).2=x2 at *
  generalize (fg.getD j (0,1)).1=f1 at *
  generalize (fg.getD j (0,1)).2=f2 at *
  generalize (whF fg).1=G1 at *
  generalize (whF fg).2=G2 at *
  generalize (aM fl frs fb fg).a j frs.length=a at *
  generalize (aM fl frs fb fg).D s=D at *
  grind
 rw [Lpd.sm_mul,al] at e
 have p:=eN (n:=fg.length) (f:=λ j=>fg.getD j (0,1)) (g:=fY (aM fl frs fb fg) s c) (λ j hj=>(B.gg _ (by rw [getD_eq_getElem?_getD,getElem?_eq_getElem hj];exact getElem_mem hj)).1) λ j _=>(Mv ok un j).1
 have hn:=un.2.1
 have hn:(aM fl frs fb fg).T s frs.length ((aM fl frs fb fg).cv c)<0:=hn
 have z:0<(- (whF fg).2)*(aM fl frs fb fg).T s frs.length ((aM fl frs fb fg).cv c)*(eW fg.length (λ j=>fg.getD j (0,1)) (fY (aM fl frs fb fg) s c)).2:=Int.mul_pos (Int.mul_pos_of_neg_of_neg (by omega) hn) p
 rw [← e] at z
 have q:=Int.mul_pos g.1 D0
 refine Classical.byContradiction λ hz=>?_
 have:=Int.mul_nonpos_of_nonpos_of_nonneg (a:=(eW fg.length (λ j=>fg.getD j (0,1)) (fY (aM fl frs fb fg) s c)).1) (by omega) (Int.le_of_lt q)
 omega
end
noncomputable def Fok (f:Int×Int):Prop:=0<f.2/\Int.gcd f.1 f.2=1/\0<=f.1
namespace Lpd
noncomputable def rowL (L:Lpd) (i:Nat):List Int:=ofF L.n (λ j=>L.a j i)++[L.be i]
theorem rowL_length (L:Lpd) (i:Nat):(L.rowL i).length=L.n+1:=by unfold rowL;rw [length_append,aN];rfl
theorem rowL_get (L:Lpd) (i:Nat) (h:j<L.n):(L.rowL i)[j]?=some (L.a j i):=by
 unfold rowL;rw [getElem?_append_left (by rw [aN];exact h),cA _ h]
theorem rowL_last (L:Lpd) (i:Nat):(L.rowL i)[L.n]?=some (L.be i):=by
 unfold rowL;rw [getElem?_append_right (by rw [aN];exact Nat.le_refl _),aN,Nat.sub_self];rfl
theorem rowL_mem {L:Lpd} (h:x∈L.rowL i):(∃ j,j<L.n/\x=L.a j i)∨x=L.be i:=by
 unfold rowL at h
 rcases mem_append.mp h with h | h
 ·exact .inl (iY h)
 ·exact .inr (mem_singleton.mp h)
end Lpd
noncomputable def ib (n:Int):Nat:=Builtin.Int.intBits n
theorem ib_le {n:Int} (h:BB q n):ib n<=q:=jO h
theorem Oo:iG xs none (some (-1))=xs.take (xs.length - 1):=by
 unfold iG
 rw [HT.sIx_none,List.drop_zero,Nat.sub_zero]
 congr 1
 unfold HT.sIx
 simp
 omega
structure tL (H:Hp) (a:Addr) (rps:List Addr) (L:Lpd):Prop where
 ha:H a=some (.lst (List.map V.ref rps))
 hr:bL H rps (ofF (L.m+1) L.rowL)
theorem tL.same {L:Lpd} (h:tL H a rps L) (s:aF H H'):tL H' a rps L:=⟨s _ _ h.ha,h.hr.same s⟩
theorem tL.len {L:Lpd} (h:tL H a rps L):rps.length=L.m+1:=by rw [h.hr.length,aN]
theorem tL.row {L:Lpd} (h:tL H a rps L) (hi:i<=L.m):∃ p,rps[i]?=some p/\H p=some (.lst (List.map V.int (L.rowL i))):=by
 have hl:=h.len
 obtain ⟨p,hp⟩:∃ p,rps[i]?=some p:=⟨_,getElem?_eq_getElem (by omega)⟩
 obtain ⟨r,e1,e2⟩:=h.hr.get hp
 obtain ⟨_,rfl⟩:=cJ e1
 exact ⟨p,hp,e2⟩
theorem tL.inv {L:Lpd} (h:tL H a rps L) (hp:rps[i]?=some p):i<=L.m/\H p=some (.lst (List.map V.int (L.rowL i))):=by
 obtain ⟨r,e1,e2⟩:=h.hr.get hp
 obtain ⟨h1,rfl⟩:=cJ e1
 exact ⟨by omega,e2⟩
theorem Nv {l:List α} {x y:α} (e:(l++[x])[h]?=some y):(l[h]?=some y/\h<l.length)∨(h=l.length/\y=x):=by
 by_cases hlt:h<l.length
 ·rw [getElem?_append_left hlt] at e
  exact .inl ⟨e,hlt⟩
 ·have hh:h=l.length:=by have:=(List.getElem?_eq_some_iff.mp e).1;rw [length_append] at this;simp at this;omega
  rw [getElem?_append_right (by omega),hh,Nat.sub_self] at e
  cases e
  exact .inr ⟨hh,rfl⟩
noncomputable def va (f:Int×Int):Rat:=(f.1:Rat) / (f.2:Rat)
theorem iI (h:0<z):(0:Rat)<z:=by exact_mod_cast h
theorem gI (h:0<f.2):va f*f.2=f.1:=by
 unfold va
 have:=iI h
 exact Rat.div_mul_cancel (by grind)
theorem iN {a b c:Rat} (hc:0<c) (h:a*c=b):a=b / c:=by
 have:c≠0:=by grind
 rw [← h,Rat.div_def,Rat.mul_assoc,Rat.mul_inv_cancel _ this,Rat.mul_one]
theorem uX {a b c:Rat} (hc:0<c) (h:a*c=b*c):a=b:=by
 have h1:=iN hc h
 have h2:=iN (a:=b) hc rfl
 rw [h1,← h2]
theorem va_of {t b:Int} (hf:0<f.2) (hb:0<b) (e:f.1*b=t*f.2):va f=(t:Rat) / b:=by
 have h1:=gI hf
 have h2:=iI hf
 have h3:=iI hb
 have e':(f.1:Rat)*b=t*f.2:=by exact_mod_cast congrArg (λ z:Int=>(z:Rat)) e
 refine iN h3 (uX h2 ?_)
 rw [← e',← h1];grind
theorem Zj {t b:Int} (hb:0<b) (l:Lo t b x y):va (x,y)=(t:Rat) / b:=va_of l.pos hb l.eq
theorem zB (hf:0<f.2) (hg:0<g.2):va f<=va g↔f.1*g.2<=g.1*f.2:=by
 have h1:=gI hf
 have h2:=gI hg
 have p1:=iI hf
 have p2:=iI hg
 have pp:=Rat.mul_pos p1 p2
 have e1:va f*((f.2:Rat)*g.2)=((f.1*g.2:Int):Rat):=by rw [Rat.intCast_mul,← h1];grind
 have e2:va g*((f.2:Rat)*g.2)=((g.1*f.2:Int):Rat):=by rw [Rat.intCast_mul,← h2];grind
 constructor
 ·intro h
  have:=Rat.mul_le_mul_of_nonneg_right h (c:=(f.2:Rat)*g.2) (by grind)
  rw [e1,e2] at this
  exact Rat.intCast_le_intCast.mp this
 ·intro h
  refine Rat.le_of_mul_le_mul_right (c:=(f.2:Rat)*g.2) ?_ pp
  rw [e1,e2]
  exact Rat.intCast_le_intCast.mpr h
theorem uK:va (1,1)=1:=by unfold va;decide +kernel
theorem vJ:va (0,1)=0:=by unfold va;decide +kernel
theorem nN (hf:0<f.2) (h:0<=f.1):0<=va f:=by
 have:=(zB (f:=(0,1)) (g:=f) (by decide) hf).mpr (by simpa using h)
 rwa [vJ] at this
noncomputable def rsm:Nat->(Nat->Rat)->Rat
 | 0,_=>0
 | n+1,f=>rsm n f+f n
theorem dZ {f g:Nat->Rat}:∀ {n:Nat},(∀ k,k<n->f k=g k)->rsm n f=rsm n g
 | 0,_=>rfl
 | n+1,h=>by
  show rsm n f+f n=rsm n g+g n
  rw [dZ (n:=n) λ k hk=>h k (by omega),h n (by omega)]
theorem lY {f:Nat->Rat} {c:Rat}:∀ {n:Nat},rsm n (λ k=>f k*c)=rsm n f*c
 | 0=>by show (0:Rat)=0*c;grind
 | n+1=>by
  show rsm n (λ k=>f k*c)+f n*c=(rsm n f+f n)*c
  rw [lY];grind
theorem Kl {f g:Nat->Rat}:∀ {n:Nat},rsm n (λ k=>f k+g k)=rsm n f+rsm n g
 | 0=>by show (0:Rat)=0+0;grind
 | n+1=>by
  show rsm n (λ k=>f k+g k)+(f n+g n)=rsm n f+f n+(rsm n g+g n)
  rw [Kl];grind
theorem rsm_le {f g:Nat->Rat}:∀ {n:Nat},(∀ k,k<n->f k<=g k)->rsm n f<=rsm n g
 | 0,_=>by show (0:Rat)<=0;grind
 | n+1,h=>by
  show rsm n f+f n<=rsm n g+g n
  have h1:=rsm_le (n:=n) λ k hk=>h k (by omega)
  have h2:=h n (by omega)
  grind
theorem lH {f:Nat->Rat}:∀ {n:Nat},(∀ k,k<n->0<=f k)->0<=rsm n f
 | 0,_=>by show (0:Rat)<=0;grind
 | n+1,h=>by
  show 0<=rsm n f+f n
  have h1:=lH (n:=n) λ k hk=>h k (by omega)
  have h2:=h n (by omega)
  grind
theorem Nx {f:Nat->Rat}:∀ {n:Nat},(∀ k,k<n->0<=f k)->rsm n f=0->∀ k,k<n->f k=0
 | 0,_,_,_,hk=>absurd hk (Nat.not_lt_zero _)
 | n+1,h,e,k,hk=>by
  have e:rsm n f+f n=0:=e
  have h1:=lH (n:=n) λ k hk=>h k (by omega)
  have h2:=h n (by omega)
  by_cases hn:k=n
  ·subst hn;grind
  ·exact Nx (n:=n) (λ k hk=>h k (by omega)) (by grind) k (by omega)
theorem Nz {f:Nat->Rat}:∀ {n:Nat},(∀ k,k<n->f k=0)->rsm n f=0
 | 0,_=>rfl
 | n+1,h=>by
  show rsm n f+f n=0
  rw [Nz (n:=n) λ k hk=>h k (by omega),h n (by omega)];grind
theorem uJ {f g:Nat->Int×Int}:∀ {n:Nat},(∀ k,k<n->0<(f k).2)->(∀ k,k<n->0<(g k).2)->va (eW n f g)=rsm n λ k=>va (f k)*va (g k)
 | 0,_,_=>vJ
 | n+1,hf,hg=>by
  have ih:=uJ (n:=n) (λ k hk=>hf k (by omega)) (λ k hk=>hg k (by omega))
  have p:=eN (n:=n) (λ k hk=>hf k (by omega)) (λ k hk=>hg k (by omega))
  have f2:=hf n (by omega)
  have g2:=hg n (by omega)
  show va (eW (n+1) f g)=rsm n (λ k=>va (f k)*va (g k))+va (f n)*va (g n)
  rw [← ih]
  have a1:=gI p
  have a2:=gI f2
  have a3:=gI g2
  have q:0<(eW (n+1) f g).2:=Int.mul_pos (Int.mul_pos p f2) g2
  refine uX (iI q) ?_
  rw [gI q]
  show (((eW n f g).1*(f n).2*(g n).2+(f n).1*(g n).1*(eW n f g).2:Int):Rat)=(va (eW n f g)+va (f n)*va (g n))*(((eW n f g).2*(f n).2*(g n).2:Int):Rat)
  simp only [Rat.intCast_add,Rat.intCast_mul]
  rw [← a1,← a2,← a3];grind
structure Gm (m n:Nat) (r:Nat->Nat->Rat) (v:Rat) (p q:Nat->Rat):Prop where
 p0:∀ i,i<m->0<=p i
 p1:rsm m p=1
 q0:∀ j,j<n->0<=q j
 q1:rsm n q=1
 lo:∀ j,j<n->v<=rsm m λ i=>p i*r i j
 hi:∀ i,i<m->(rsm n λ j=>r i j*q j)<=v
theorem uP (a b:Rat):a / b=a*b⁻¹:=Rat.div_def a b
theorem game_of {n:Nat} {a:Nat->Nat->Rat} {x y:Nat->Rat} {S:Rat} (l:Rat) (S0:0<S) (x0:∀ j,j<n->0<=x j) (y0:∀ i,i<m->0<=y i) (hx:∀ i,i<m->(rsm n λ j=>a i j*x j)<=1) (hy:∀ j,j<n->1<=rsm m λ i=>y i*a i j) (sx:rsm n x=S) (sy:rsm m y=S) :
  Gm m n (λ i j=>a i j - l) (1 / S - l) (λ i=>y i / S) (λ j=>x j / S):=by
 have sne:S≠0:=by grind
 have sc:S*S⁻¹=1:=Rat.mul_inv_cancel _ sne
 have i0:0<=S⁻¹:=by have:=Rat.inv_pos.mpr S0;grind
 have py:∀ {k:Nat} {f:Nat->Rat},rsm k (λ i=>f i / S)=rsm k f*S⁻¹:=λ {k f}=>by
  rw [← lY];exact dZ λ i _=>uP _ _
 refine ⟨λ i hi=>?_,?_,λ j hj=>?_,?_,λ j hj=>?_,λ i hi=>?_⟩
 ·rw [uP];exact Rat.mul_nonneg (y0 i hi) i0
 ·rw [py,sy,sc]
 ·rw [uP];exact Rat.mul_nonneg (x0 j hj) i0
 ·rw [py,sx,sc]
 ·have e:(rsm m λ i=>y i / S*(a i j - l))=(rsm m λ i=>y i*a i j)*S⁻¹+(rsm m y*S⁻¹)*(-l):=by
   rw [← lY,← lY,← lY,← Kl]
   exact dZ λ i _=>by rw [uP];grind
  have h:=Rat.mul_le_mul_of_nonneg_right (hy j hj) i0
  rw [e,sy,sc,uP];grind
 ·have e:(rsm n λ j=>(a i j - l)*(x j / S))=(rsm n λ j=>a i j*x j)*S⁻¹+(rsm n x*S⁻¹)*(-l):=by
   rw [← lY,← lY,← lY,← Kl]
   exact dZ λ i _=>by rw [uP];grind
  have h:=Rat.mul_le_mul_of_nonneg_right (hx i hi) i0
  rw [e,sx,sc,uP];grind
theorem pay_pos {a:Nat->Rat} {y:Nat->Rat} (y0:∀ i,i<m->0<=y i) (hy:1<=rsm m λ i=>y i*a i):0<rsm m y:=by
 have h:=lH y0
 by_cases z:rsm m y=0
 ·have:=Nx y0 z
  have:(rsm m λ i=>y i*a i)=0:=Nz λ i hi=>by rw [this i hi];grind
  grind
 ·grind
theorem pay_le {n:Nat} {a x:Nat->Rat} (x0:∀ j,j<n->0<=x j) (ha:∀ j,j<n->1<=a j):rsm n x<=rsm n λ j=>a j*x j:=rsm_le λ j hj=>by
 have:=Rat.mul_le_mul_of_nonneg_right (ha j hj) (x0 j hj)
 grind
section
variable {fl:Bool} {frs:List (List (Int×Int))} {fb fg:List (Int×Int)} {s:Nat->Nat}
theorem va_eqv (hf:0<f.2) (hg:0<g.2) (e:f.1*g.2=g.1*f.2):va f=va g:=by
 have h1:=(zB hf hg).mpr (by omega)
 have h2:=(zB hg hf).mpr (by omega)
 grind
theorem no_way (B:BeO frs fb fg) (ok:(aM fl frs fb fg).Ok s) (io:gK (aM fl frs fb fg) s) (hg:∀ j,j<fg.length->fg.getD j (0,1)=(1,1)) (hA:∀ i j,i<frs.length->j<fg.length->1<=va (rwF frs i j)) (m1:1<=frs.length) (un:UnO (aM fl frs fb fg) s (some c)):False:=by
 have w0:∀ j,0<(fY (aM fl frs fb fg) s c j).2/\0<=va (fY (aM fl frs fb fg) s c j):=λ j=>let h:=Mv ok un j;⟨h.1,nN h.1 h.2.2.1⟩
 have g2:∀ j,j<fg.length->0<(fg.getD j (0,1)).2:=λ j hj=>by rw [hg j hj];decide
 have r2:∀ j,j<fg.length->0<(rwF frs 0 j).2:=λ j hj=>sQ B m1 hj
 have h1:=Fw B ok io un
 have p1:=eN (n:=fg.length) (f:=λ j=>fg.getD j (0,1)) (g:=fY (aM fl frs fb fg) s c) g2 λ j _=>(w0 j).1
 have e1:=uJ (n:=fg.length) (f:=λ j=>fg.getD j (0,1)) (g:=fY (aM fl frs fb fg) s c) g2 λ j _=>(w0 j).1
 have h2:=Le B ok io un m1
 have p2:=eN (n:=fg.length) (f:=rwF frs 0) (g:=fY (aM fl frs fb fg) s c) r2 λ j _=>(w0 j).1
 have e2:=uJ (n:=fg.length) (f:=rwF frs 0) (g:=fY (aM fl frs fb fg) s c) r2 λ j _=>(w0 j).1
 have l2:va (eW fg.length (rwF frs 0) (fY (aM fl frs fb fg) s c))<=0:=by
  have:=(zB (g:=(0,1)) p2 (by decide)).mpr (by omega)
  rwa [vJ] at this
 have l1:¬ va (eW fg.length (λ j=>fg.getD j (0,1)) (fY (aM fl frs fb fg) s c))<=0:=λ z=>by
  have:=(zB (g:=(0,1)) p1 (by decide)).mp (by rw [vJ];exact z)
  omega
 refine l1 ?_
 rw [e1]
 rw [e2] at l2
 have:=pay_le (n:=fg.length) (a:=λ j=>va (rwF frs 0 j)) (x:=λ j=>va (fY (aM fl frs fb fg) s c j)) (λ j _=>(w0 j).2) (λ j hj=>hA 0 j m1 hj)
 have e3:(rsm fg.length λ j=>va (fg.getD j (0,1))*va (fY (aM fl frs fb fg) s c j))=rsm fg.length λ j=>va (fY (aM fl frs fb fg) s c j):=dZ λ j hj=>by rw [hg j hj,uK];grind
 rw [e3]
 grind
structure LpG (m n:Nat) (a:Nat->Nat->Rat) (x y:Nat->Rat) (S:Rat):Prop where
 S0:0<S
 S1:S<=1
 x0:∀ j,j<n->0<=x j
 y0:∀ i,i<m->0<=y i
 hx:∀ i,i<m->(rsm n λ j=>a i j*x j)<=1
 hy:∀ j,j<n->1<=rsm m λ i=>y i*a i j
 sx:rsm n x=S
 sy:rsm m y=S
theorem lp_game (B:BeO frs fb fg) (ok:(aM fl frs fb fg).Ok s) (io:gK (aM fl frs fb fg) s) (un:UnO (aM fl frs fb fg) s none) (hb:∀ i,i<frs.length->fb.getD i (0,1)=(1,1)) (hg:∀ j,j<fg.length->fg.getD j (0,1)=(1,1)) (hA:∀ i j,i<frs.length->j<fg.length->1<=va (rwF frs i j)) (m1:1<=frs.length) (n1:1<=fg.length) :
  LpG frs.length fg.length (λ i j=>va (rwF frs i j)) (λ j=>va (xF fl frs fb fg s j)) (λ i=>va (yF fl frs fb fg s i)) (rsm fg.length λ j=>va (xF fl frs fb fg s j)):=by
 have x0:∀ j,0<(xF fl frs fb fg s j).2/\0<=va (xF fl frs fb fg s j):=λ j=>let h:=Gu B ok j;⟨h.1,nN h.1 h.2.2.1⟩
 have y0:∀ i,i<frs.length->0<(yF fl frs fb fg s i).2/\0<=va (yF fl frs fb fg s i):=λ i hi=>let h:=Gs B ok un hi;⟨h.1,nN h.1 h.2.2.1⟩
 have g2:∀ j,j<fg.length->0<(fg.getD j (0,1)).2:=λ j hj=>by rw [hg j hj];decide
 have b2:∀ j,j<frs.length->0<(fb.getD j (0,1)).2:=λ j hj=>by rw [hb j hj];decide
 have hx:∀ i,i<frs.length->(rsm fg.length λ j=>va (rwF frs i j)*va (xF fl frs fb fg s j))<=1:=λ i hi=>by
  have r2:∀ j,j<fg.length->0<(rwF frs i j).2:=λ j hj=>sQ B hi hj
  have h:=Rs B ok io hi
  have p:=eN (n:=fg.length) (f:=rwF frs i) (g:=xF fl frs fb fg s) r2 λ j _=>(x0 j).1
  rw [← uJ r2 λ j _=>(x0 j).1,← uK]
  rw [hb i hi] at h
  exact (zB p (by decide)).mpr h
 have hy:∀ j,j<fg.length->1<=rsm frs.length λ i=>va (yF fl frs fb fg s i)*va (rwF frs i j):=λ j hj=>by
  have r2:∀ i,i<frs.length->0<(rwF frs i j).2:=λ i hi=>sQ B hi hj
  have h:=ys_pay B ok un hj
  have p:=eN (n:=frs.length) (f:=yF fl frs fb fg s) (g:=λ i=>rwF frs i j) (λ i hi=>(y0 i hi).1) r2
  rw [← uJ (λ i hi=>(y0 i hi).1) r2,← uK]
  rw [hg j hj] at h
  exact (zB (by decide) p).mpr h
 have same:rsm fg.length (λ j=>va (xF fl frs fb fg s j))=rsm frs.length λ i=>va (yF fl frs fb fg s i):=by
  have h:=Yt B ok io un
  have p1:=eN (n:=fg.length) (f:=λ j=>fg.getD j (0,1)) (g:=xF fl frs fb fg s) g2 λ j _=>(x0 j).1
  have p2:=eN (n:=frs.length) (f:=λ i=>fb.getD i (0,1)) (g:=yF fl frs fb fg s) b2 λ i hi=>(y0 i hi).1
  have e:=va_eqv p1 p2 h
  rw [uJ g2 λ j _=>(x0 j).1,uJ b2 λ i hi=>(y0 i hi).1] at e
  have e1:(rsm fg.length λ j=>va (fg.getD j (0,1))*va (xF fl frs fb fg s j))=rsm fg.length λ j=>va (xF fl frs fb fg s j):=dZ λ j hj=>by rw [hg j hj,uK];grind
  have e2:(rsm frs.length λ j=>va (fb.getD j (0,1))*va (yF fl frs fb fg s j))=rsm frs.length λ j=>va (yF fl frs fb fg s j):=dZ λ j hj=>by rw [hb j hj,uK];grind
  rw [e1,e2] at e
  exact e
 refine ⟨?_,?_,λ j _=>(x0 j).2,λ i hi=>(y0 i hi).2,hx,hy,rfl,same.symm⟩
 ·rw [same]
  exact pay_pos (λ i hi=>(y0 i hi).2) (hy 0 n1)
 ·have:=pay_le (n:=fg.length) (a:=λ j=>va (rwF frs 0 j)) (x:=λ j=>va (xF fl frs fb fg s j)) (λ j _=>(x0 j).2) (λ j hj=>hA 0 j m1 hj)
  have h:=hx 0 m1
  grind
end
theorem La (h:x*M=z*y) (g:Int.gcd x y=1):y∣M:=by
 have h1:y∣x*M:=⟨z,by rw [h,Int.mul_comm]⟩
 have h2:=Int.natAbs_dvd_natAbs.mpr h1
 rw [Int.natAbs_mul] at h2
 have c:Nat.Coprime y.natAbs x.natAbs:=by show Nat.gcd _ _=1;rw [Nat.gcd_comm];exact g
 exact Int.natAbs_dvd_natAbs.mp (c.dvd_of_dvd_mul_left h2)
theorem Co (hf:0<f.2) (h:va f<=1):f.1<=f.2:=by
 rw [← uK] at h
 have:=(zB hf (by decide)).mp h
 simpa using this
theorem Cw {n:Nat} (h:BB n M) (hM:0<M) (d:x∣M):BB n x:=h.of_le (Nat.le_of_dvd (by omega) (Int.natAbs_dvd_natAbs.mpr d))
theorem va_add (hf:0<f.2) (hg:0<g.2):va (lo2 (f.1*g.2+g.1*f.2) (f.2*g.2))=va f+va g:=by
 have z:=Int.mul_pos hf hg
 rw [show va (lo2 (f.1*g.2+g.1*f.2) (f.2*g.2))=((f.1*g.2+g.1*f.2:Int):Rat) / ((f.2*g.2:Int):Rat) from Zj z (bU z)]
 symm
 refine iN (iI z) ?_
 have h1:=gI hf
 have h2:=gI hg
 simp only [Rat.intCast_add,Rat.intCast_mul]
 rw [← h1,← h2];grind
theorem va_sub (hf:0<f.2) (hg:0<g.2):va (lo2 (f.1*g.2 - g.1*f.2) (f.2*g.2))=va f - va g:=by
 have z:=Int.mul_pos hf hg
 rw [show va (lo2 (f.1*g.2 - g.1*f.2) (f.2*g.2))=((f.1*g.2 - g.1*f.2:Int):Rat) / ((f.2*g.2:Int):Rat) from Zj z (bU z)]
 symm
 refine iN (iI z) ?_
 have h1:=gI hf
 have h2:=gI hg
 simp only [Rat.intCast_sub,Rat.intCast_mul]
 rw [← h1,← h2];grind
theorem va_pos (hg:0<g.2) (hg1:0<g.1):0<va g:=by
 have h2:=gI hg
 have a:=iI hg1
 have:=nN hg (Int.le_of_lt hg1)
 by_cases e:va g=0
 ·rw [e] at h2;grind
 ·grind
theorem Qr (hf:0<f.2) (hg:0<g.2) (hg1:0<g.1):va (fov f g)=va f / va g:=by
 have z:=Int.mul_pos hf hg1
 have l:=bU (t:=f.1*g.2) z
 have e:va (fov f g)*((f.2*g.1:Int):Rat)=((f.1*g.2:Int):Rat):=by
  unfold fov
  rw [show va (lo2 (f.1*g.2) (f.2*g.1))=((f.1*g.2:Int):Rat) / ((f.2*g.1:Int):Rat) from Zj z l]
  exact Rat.div_mul_cancel (by have:=iI z;grind)
 have h1:=gI hf
 have h2:=gI hg
 have p1:=iI hf
 have p2:=iI hg
 refine iN (va_pos hg hg1) (uX (Rat.mul_pos p1 p2) ?_)
 simp only [Rat.intCast_mul] at e
 rw [← h1,← h2] at e
 grind
theorem sum_dvd (hf:0<f.2) (hg:0<g.2) (df:f.2∣M) (dg:g.2∣M):(lo2 (f.1*g.2+g.1*f.2) (f.2*g.2)).2∣M:=by
 obtain ⟨u,rfl⟩:=df
 obtain ⟨v,hv⟩:=dg
 have z:=Int.mul_pos hf hg
 have l:=bU (t:=f.1*g.2+g.1*f.2) z
 refine La (x:=(lo2 (f.1*g.2+g.1*f.2) (f.2*g.2)).1) (z:=f.1*u+g.1*v) ?_ l.cop
 have e:=l.eq
 have zne:f.2*g.2≠0:=by omega
 refine Int.eq_of_mul_eq_mul_right zne ?_
 generalize (lo2 (f.1*g.2+g.1*f.2) (f.2*g.2)).1=X at e ⊢
 generalize (lo2 (f.1*g.2+g.1*f.2) (f.2*g.2)).2=Y at e ⊢
 have:X*(f.2*u)*(f.2*g.2)=(X*(f.2*g.2))*(f.2*u):=by grind
 rw [this,e]
 grind
theorem vU {f:Nat->Rat} {i:Nat}:∀ {n:Nat},i<=n->(∀ k,k<n->0<=f k)->rsm i f<=rsm n f
 | 0,h,_=>by rw [show i=0 by omega];exact Rat.le_refl
 | n+1,h,h0=>by
  by_cases e:i=n+1
  ·rw [e];exact Rat.le_refl
  ·have h1:=vU (n:=n) (i:=i) (by omega) λ k hk=>h0 k (by omega)
   have h2:=h0 n (by omega)
   show _<=rsm n f+f n
   grind
noncomputable def bY (n:Nat):List (Int×Int):=ofF n λ _=>(1,1)
theorem mK (n:Nat):(bY n).length=n:=aN _ _
theorem Ia {n:Nat} (h:j<n):(bY n).getD j (0,1)=(1,1):=by
 rw [getD_eq_getElem?_getD,show (bY n)[j]?=some (1,1) from cA _ h];rfl
theorem rE {n:Nat} (h:f∈bY n):f=(1,1):=(iY h).choose_spec.2
noncomputable def lft (z:Int) (f:Int×Int):Int×Int:=lo2 (f.1*1+(1 - z)*f.2) (f.2*1)
noncomputable def kI (z:Int) (frs:List (List (Int×Int))):List (List (Int×Int)):=frs.map λ r=>r.map (lft z)
structure Mnf (frs:List (List (Int×Int))) (z:Int):Prop where
 at_:∃ r∈frs,∃ f∈r,z=f.1.fdiv f.2
 le:∀ r∈frs,∀ f∈r,z<=f.1.fdiv f.2
theorem va_lft (hf:0<f.2):va (lft z f)=va f+(1 - z:Int):=by
 have:=va_add (g:=(1 - z,1)) hf (by decide:(0:Int)<1)
 unfold lft
 rw [this]
 congr 1
 unfold va
 show ((1 - z:Int):Rat) / ((1:Int):Rat)=_
 rw [show ((1:Int):Rat)=1 from rfl,Rat.div_def]
 grind
theorem fdiv_le (hf:0<f.2):((f.1.fdiv f.2:Int):Rat)<=va f:=by
 refine Rat.le_of_mul_le_mul_right (c:=(f.2:Rat)) ?_ (iI hf)
 rw [gI hf,← Rat.intCast_mul]
 refine Rat.intCast_le_intCast.mpr ?_
 have:=Int.mul_fdiv_add_fmod f.1 f.2
 have h2:=Int.fmod_nonneg_of_pos f.1 hf
 rw [Int.mul_comm];omega
theorem lft_ge (hf:0<f.2) (h:z<=f.1.fdiv f.2):1<=va (lft z f):=by
 rw [va_lft hf]
 have h1:=fdiv_le hf
 have h2:(z:Rat)<=(f.1.fdiv f.2:Int):=Rat.intCast_le_intCast.mpr h
 have h3:((1 - z:Int):Rat)=1 - z:=by rw [Rat.intCast_sub];rfl
 rw [h3];grind
theorem Vm {frs:List (List (Int×Int))} {n:Nat} (hi:i<frs.length) (hr:∀ r∈frs,r.length=n) (hj:j<n):rwF (kI z frs) i j=lft z (rwF frs i j):=by
 unfold rwF kI
 have e:frs[i]?=some frs[i]:=getElem?_eq_getElem hi
 have hl:=hr _ (getElem_mem hi)
 rw [getD_eq_getElem?_getD (l:=frs.map _),getElem?_map,e,getD_eq_getElem?_getD (l:=frs),e]
 show ((frs[i]).map (lft z)).getD j (0,1)=lft z ((frs[i]).getD j (0,1))
 rw [getD_eq_getElem?_getD,getElem?_map,getElem?_eq_getElem (by omega),getD_eq_getElem?_getD,getElem?_eq_getElem (by omega)];rfl
structure WoO (R:List (List (Int×Int))) (m n:Nat):Prop where
 B:BeO R (bY m) (bY n)
 mx:∀ fl s,(aM fl R (bY m) (bY n)).Ok s->gK (aM fl R (bY m) (bY n)) s->∃ M,0<M/\BB 4000 M/\∀ j,j<n->(xF fl R (bY m) (bY n) s j).2∣M
 my:∀ fl s,(aM fl R (bY m) (bY n)).Ok s->UnO (aM fl R (bY m) (bY n)) s none->∀ k,k<m->BB 4000 (yF fl R (bY m) (bY n) s k).2
theorem Gm.congr {n:Nat} {r r':Nat->Nat->Rat} {v v':Rat} {p q p' q':Nat->Rat} (h:Gm m n r v p q) (hr:∀ i j,i<m->j<n->r i j=r' i j) (hv:v=v') (hp:∀ i,i<m->p i=p' i) (hq:∀ j,j<n->q j=q' j):Gm m n r' v' p' q':=by
 refine ⟨λ i hi=>hp i hi ▸ h.p0 i hi,?_,λ j hj=>hq j hj ▸ h.q0 j hj,?_,λ j hj=>?_,λ i hi=>?_⟩
 ·rw [← h.p1];exact (dZ hp).symm
 ·rw [← h.q1];exact (dZ hq).symm
 ·rw [← hv,← dZ λ i hi=>show p i*r i j=p' i*r' i j by rw [hp i hi,hr i j hi hj]]
  exact h.lo j hj
 ·rw [← hv,← dZ λ j hj=>show r i j*q j=r' i j*q' j by rw [hq j hj,hr i j hi hj]]
  exact h.hi i hi
theorem Ny {f:Nat->Rat} {n:Nat} (hi:i<n) (h:∀ k,k<n->0<=f k):f i<=rsm n f:=by
 have h1:=vU (f:=f) (i:=i+1) (n:=n) (by omega) h
 have h2:=lH (f:=f) (n:=i) λ k hk=>h k (by omega)
 have h3:rsm (i+1) f=rsm i f+f i:=rfl
 grind
theorem jZQ {a b:Int} (h:0<b):(a.fdiv b).natAbs<=a.natAbs:=by
 have e:=Int.mul_fdiv_add_fmod a b
 have h1:=Int.fmod_nonneg_of_pos a h
 have h2:=Int.fmod_lt_of_pos a h
 generalize a.fdiv b=q at e ⊢
 generalize a.fmod b=r at e h1 h2
 by_cases hq:0<=q
 ·have:q<=b*q:=by have:=Int.mul_le_mul_of_nonneg_right (show (1:Int)<=b by omega) hq;omega
  omega
 ·have:b*(q+1)<=q+1:=by have:=Int.mul_le_mul_of_nonpos_right (show (1:Int)<=b by omega) (show q+1<=0 by omega);omega
  have e2:b*(q+1)=b*q+b:=by rw [Int.mul_add,Int.mul_one]
  omega
theorem Mnf.bb {frs:List (List (Int×Int))} {n:Nat} (h:Mnf frs z) (hg:∀ r∈frs,∀ f∈r,0<f.2/\BB n f.1/\BB n f.2):BB (n+1) (1 - z):=by
 obtain ⟨r,hr,f,hf,rfl⟩:=h.at_
 obtain ⟨f2,b1,_⟩:=hg r hr f hf
 have h1:BB n (f.1.fdiv f.2):=b1.of_le (jZQ f2)
 have:(f.1.fdiv f.2).natAbs<2 ^ n:=h1
 show (1 - f.1.fdiv f.2).natAbs<2 ^ (n+1)
 rw [Nat.pow_succ]
 have:=Nat.two_pow_pos n
 omega
structure WoR (frs:List (List (Int×Int))) (n:Nat):Prop where
 m1:1<=frs.length
 m2:frs.length<=100
 n1:1<=n
 n2:n<=100
 hr:∀ r∈frs,r.length=n
 hg:∀ r∈frs,∀ f∈r,0<f.2/\BB 4000 f.1/\BB 4000 f.2
noncomputable def tv (q:List Nat):List V:=q.map λ n:Nat=>V.int (n:Int)
noncomputable def tk (q:List Nat):List Key:=q.map λ n:Nat=>(Sum.inl (n:Int):Key)
theorem Gv (q:List Nat):(tk q).map kV=tv q:=by
 unfold tk tv
 rw [List.map_map]
 exact map_congr_left λ n _=>rfl
theorem tv_app (a b:List Nat):tv (a++b)=tv a++tv b:=map_append
theorem cW (q:List Nat):(tv q).length=q.length:=length_map _
theorem mR {q:List Nat} {x:V} (h:(tv q)[i]?=some x):∃ n,q[i]?=some n/\x=.int (n:Nat):=by
 unfold tv at h
 rw [getElem?_map] at h
 cases e:q[i]? with
 | none=>rw [e] at h;cases h
 | some n=>rw [e] at h;exact ⟨n,rfl,(Option.some.inj h).symm⟩
theorem Mw {q:List Nat} {n:Nat} (h:q[i]?=some n):(tv q)[i]?=some (.int (n:Nat)):=by
 unfold tv;rw [getElem?_map,h];rfl
theorem Cp:∀ {a b:List Nat},tk a=tk b->a=b
 | [],[],_=>rfl
 | [],_::_,h=>by simp [tk] at h
 | _::_,[],h=>by simp [tk] at h
 | x::a,y::b,h=>by
  simp only [tk,List.map_cons,List.cons.injEq,Sum.inl.injEq] at h
  have h1:x=y:=by have:=h.1;omega
  rw [h1,Cp (a:=a) (b:=b) h.2]
noncomputable def cO:List Nat->List (List Nat)
 | []=>[[]]
 | s::rs=>(cO rs).flatMap λ b=>(List.range s).map λ c=>b++[c]
noncomputable def Cg:List Nat->Nat->List Nat
 | [],_=>[]
 | s::rs,n=>Cg rs (n / s)++[n % s]
noncomputable def kZ:List Nat->Nat
 | []=>1
 | s::rs=>kZ rs*s
theorem Hx (s:Nat):∀ m:Nat,List.range (m*s)=(List.range m).flatMap λ i=>(List.range s).map λ c=>i*s+c
 | 0=>by simp
 | m+1=>by
  rw [Nat.succ_mul,List.range_add,List.range_succ,List.flatMap_append,Hx s m]
  simp
theorem Kv:∀ rs:List Nat,(∀ s∈rs,1<=s)->cO rs=(List.range (kZ rs)).map (Cg rs)
 | [],_=>by simp [cO,kZ,Cg]
 | s::rs,h=>by
  have hs:1<=s:=h s (mem_cons_self ..)
  have hr:=Kv rs λ t ht=>h t (mem_cons_of_mem _ ht)
  show (cO rs).flatMap _=(List.range (kZ rs*s)).map (Cg (s::rs))
  rw [hr,Hx,List.map_flatMap,List.flatMap_map]
  congr 1
  funext i
  rw [List.map_map]
  refine map_congr_left λ c hc=>?_
  have hc':c<s:=List.mem_range.mp hc
  show Cg rs i++[c]=Cg rs ((i*s+c) / s)++[(i*s+c) % s]
  rw [Nat.mul_comm i s,Nat.mul_add_div (by omega),Nat.div_eq_of_lt hc',Nat.mul_add_mod,Nat.mod_eq_of_lt hc',Nat.add_zero]
theorem Pm (rs:List Nat) (h:∀ s∈rs,1<=s):(cO rs).length=kZ rs:=by rw [Kv rs h,length_map,List.length_range]
theorem Dh:∀ rs:List Nat,(∀ s∈rs,s<=6)->kZ rs<=6 ^ rs.length
 | [],_=>Nat.le_refl _
 | s::rs,h=>by
  show kZ rs*s<=6 ^ (rs.length+1)
  rw [Nat.pow_succ]
  exact Nat.mul_le_mul (Dh rs λ t ht=>h t (mem_cons_of_mem _ ht)) (h s (mem_cons_self ..))
theorem nE:∀ (rs:List Nat) (q:List Nat),q∈cO rs->q.length=rs.length
 | [],q,h=>by simp [cO] at h;subst h;rfl
 | s::rs,q,h=>by
  simp only [cO,List.mem_flatMap,mem_map] at h
  obtain ⟨b,hb,c,_,rfl⟩:=h
  simp [nE rs b hb]
theorem Em:∀ rs:List Nat,(cO rs).Nodup
 | []=>by simp [cO]
 | s::rs=>by
  show List.Nodup ((cO rs).flatMap _)
  unfold List.Nodup
  rw [List.pairwise_flatMap]
  refine ⟨λ b _=>?_,(Em rs).imp λ {a b} hab x hx y hy e=>?_⟩
  ·rw [List.pairwise_map]
   exact List.nodup_range.imp λ {c d} hcd e=>hcd (by simpa using e)
  ·obtain ⟨c,_,rfl⟩:=mem_map.mp hx
   obtain ⟨d,_,rfl⟩:=mem_map.mp hy
   have:=(List.append_inj' e rfl).1
   exact hab this
structure Sz (ns:List Nat):Prop where
 len:ns.length<=3
 ge:∀ n∈ns,1<=n
 le:∀ n∈ns,n<=6
theorem Sz.rev (h:Sz ns):Sz ns.reverse:=⟨by rw [List.length_reverse];exact h.len,λ n hn=>h.ge n (List.mem_reverse.mp hn),λ n hn=>h.le n (List.mem_reverse.mp hn)⟩
theorem Sz.many (h:Sz ns):kZ ns<=216:=Nat.le_trans (Dh ns h.le) (Nat.le_trans (Nat.pow_le_pow_right (by decide) h.len) (by decide))
theorem Sz.ord (h:Sz ns):(cO ns).length<=216:=by rw [Pm ns h.ge];exact h.many
noncomputable def wo {α:Type} (h:Nat) (q:List α):List α:=q.take h++q.drop (h+1)
noncomputable def Ps (H:Hp) (xs:List V) (qs:List (List Nat)):Prop:=xs.length=qs.length/\∀ (i:Nat) (q:List Nat),qs[i]?=some q->∃ a:Addr,xs[i]?=some (V.ref a)/\H a=some (.tup (tv q))
noncomputable def Cl (H H':Hp):Prop:=∀ a xs,H a=some (.tup xs)->H' a=some (.tup xs)
theorem pT (s:aF H H'):Cl H H':=λ a xs h=>s a _ h
theorem fP {l:Addr} (h:H l=some (.lst xs)):Cl H (upd H l o):=λ a ys e=>by
 rw [aR (gM e h (by intro z;cases z))];exact e
theorem Ps.keep (p:Ps H xs qs) (k:Cl H H'):Ps H' xs qs:=⟨p.1,λ i q e=>let ⟨a,h1,h2⟩:=p.2 i q e;⟨a,h1,k a _ h2⟩⟩
theorem Ps.same (p:Ps H xs qs) (s:aF H H'):Ps H' xs qs:=p.keep (pT s)
theorem Ps.nil:Ps H [] []:=⟨rfl,λ i q e=>by simp at e⟩
theorem Ps.app {rs:List (List Nat)} (p:Ps H xs qs) (r:Ps H ys rs):Ps H (xs++ys) (qs++rs):=by
 refine ⟨by rw [length_append,length_append,p.1,r.1],λ i q e=>?_⟩
 by_cases hi:i<qs.length
 ·rw [getElem?_append_left hi] at e
  rw [getElem?_append_left (by rw [p.1];exact hi)]
  exact p.2 i q e
 ·rw [getElem?_append_right (by omega)] at e
  rw [getElem?_append_right (by rw [p.1];omega),p.1]
  exact r.2 _ q e
theorem Ps.one {q:List Nat} (h:H a=some (.tup (tv q))):Ps H [.ref a] [q]:=by
 refine ⟨rfl,λ i q' e=>?_⟩
 cases i with
 | zero=>simp at e;subst e;exact ⟨a,rfl,h⟩
 | succ i=>simp at e
theorem Ps.get {x:V} (p:Ps H xs qs) (h:xs[i]?=some x):∃ q a,qs[i]?=some q/\x=.ref a/\H a=some (.tup (tv q)):=by
 have hl:i<qs.length:=by rw [← p.1];exact (List.getElem?_eq_some_iff.mp h).1
 obtain ⟨a,e1,e2⟩:=p.2 i qs[i] (getElem?_eq_getElem hl)
 rw [h] at e1
 exact ⟨qs[i],a,getElem?_eq_getElem hl,Option.some.inj e1,e2⟩
theorem Ps.at (p:Ps H xs qs) (h:i<qs.length):∃ q a,qs[i]?=some q/\xs[i]?=some (.ref a)/\H a=some (.tup (tv q)):=by
 obtain ⟨a,e1,e2⟩:=p.2 i qs[i] (getElem?_eq_getElem h)
 exact ⟨qs[i],a,getElem?_eq_getElem h,e1,e2⟩
theorem iE {n:Nat} (h:n<=216):n<=sizeLine:=by rw [sizeLine_eq];omega
theorem qV {n:Nat} (h:n<=216):n<sizeLine:=by rw [sizeLine_eq];omega
theorem Ml {l:List α} {x:α} (h:l[i]?=some x):l.drop i=x::l.drop (i+1):=by
 obtain ⟨hl,e⟩:=List.getElem?_eq_some_iff.mp h
 rw [List.drop_eq_getElem_cons hl,e]
theorem bb6 {n:Nat} (h:n<=6):BB 3 (n:Int):=by unfold BB;omega
theorem cut_to:iG xs none (some (h:Int))=xs.take h:=by
 unfold iG
 rw [HT.sIx_none,HT.sIx_nat,List.drop_zero,Nat.sub_zero]
 by_cases e:h<=xs.length
 ·rw [Nat.min_eq_left e]
 ·rw [Nat.min_eq_right (by omega),take_length,take_of_length_le (by omega)]
theorem Oq:iG xs (some (h:Int)) none=xs.drop h:=by
 unfold iG
 rw [HT.sIx_none,HT.sIx_nat]
 by_cases e:h<=xs.length
 ·rw [Nat.min_eq_left e,take_of_length_le (by rw [List.length_drop];omega)]
 ·rw [Nat.min_eq_right (by omega),List.drop_eq_nil_of_le (Nat.le_refl _),List.drop_eq_nil_of_le (by omega)];simp
theorem Ce (xs:List V) (lo hi:Option Int):(iG xs lo hi).length<=xs.length:=rT xs lo hi
theorem Eo {l:List α} {x:α} (h:l.Nodup) (e:l[i]?=some x):x∉l.take i:=by
 intro hm
 have h2:(l.take (i+1)).Nodup:=(List.take_sublist (i+1) l).nodup h
 have et:l.take (i+1)=l.take i++[x]:=by rw [List.take_add_one,e];rfl
 rw [et,List.nodup_append] at h2
 exact h2.2.2 x hm x (List.mem_singleton_self x) rfl
noncomputable def zH (H:Hp) (kvs:List (List Key×V)) (cont:List Nat->List V) (q:List Nat):Prop:=∃ l,iF kvs (tk q)=some (.ref l)/\H l=some (.lst (cont q))
theorem zH.same {q:List Nat} (c:zH H kvs cont q) (s:aF H H'):zH H' kvs cont q:=let ⟨l,h1,h2⟩:=c;⟨l,h1,s _ _ h2⟩
theorem yJ:∀ rs:List Nat,(∀ s∈rs,1<=s)->0<kZ rs
 | [],_=>Nat.one_pos
 | s::rs,h=>Nat.mul_pos (yJ rs λ t ht=>h t (mem_cons_of_mem _ ht)) (h s (mem_cons_self ..))
theorem jJY {k:List Key} (h:iF kvs k=some v):∃ p∈kvs,p.1=k/\p.2=v:=by
 unfold iF at h
 obtain ⟨p,hp,e⟩:=Option.map_eq_some_iff.mp h
 exact ⟨p,List.mem_of_find?_eq_some hp,by have:=List.find?_some hp;simpa using this,e⟩
theorem Va:∀ (rs q:List Nat),q∈cO rs->∀ (i n c:Nat),rs.reverse[i]?=some n->q[i]?=some c->c<n
 | [],q,h=>by intro i n c e;simp at e
 | s::rs,q,h=>by
  simp only [cO,List.mem_flatMap,mem_map,List.mem_range] at h
  obtain ⟨b,hb,x,hx,rfl⟩:=h
  intro i n c e1 e2
  have hl:=nE rs b hb
  rw [List.reverse_cons] at e1
  by_cases hi:i<rs.length
  ·rw [getElem?_append_left (by rw [List.length_reverse];exact hi)] at e1
   rw [getElem?_append_left (by rw [hl];exact hi)] at e2
   exact Va rs b hb i n c e1 e2
  ·rw [getElem?_append_right (by rw [List.length_reverse];omega),List.length_reverse] at e1
   rw [getElem?_append_right (by rw [hl];omega),hl] at e2
   cases e3:i - rs.length with
   | zero=>rw [e3] at e1 e2;simp at e1 e2;omega
   | succ k=>rw [e3] at e1;simp at e1
noncomputable def Kc (H:Hp) (kvs:List (List Key×V)) (cont:List Nat->List V) (qs:List (List Nat)):Prop:=kvs.length=qs.length/\∀ (i:Nat) (q:List Nat),qs[i]?=some q->∃ l,kvs[i]?=some (tk q,V.ref l)/\H l=some (.lst (cont q))
theorem Uk:∀ {kvs:List (List Key×V)},(kvs.map (·.1)).Nodup->∀ (i:Nat) {k:List Key} {v:V},kvs[i]?=some (k,v)->iF kvs k=some v
 | [],_,i,k,v,h=>by simp at h
 | p::kvs,nd,i,k,v,h=>by
  rw [List.map_cons,List.nodup_cons] at nd
  cases i with
  | zero =>
   simp at h;subst h
   exact eK rfl
  | succ i =>
   simp at h
   have hm:k∈kvs.map (·.1):=mem_map.mpr ⟨_,mem_of_getElem? h,rfl⟩
   rw [eL (λ e=>nd.1 (by rw [e];exact hm))]
   exact Uk nd.2 i h
theorem Kc.keys (h:Kc H kvs cont qs):kvs.map (·.1)=qs.map tk:=by
 refine List.ext_getElem? λ i=>?_
 rw [getElem?_map,getElem?_map]
 cases e:qs[i]? with
 | none =>
  have:kvs[i]?=none:=by
   rw [List.getElem?_eq_none_iff] at e ⊢
   rw [h.1];exact e
  rw [this];rfl
 | some q =>
  obtain ⟨l,e1,_⟩:=h.2 i q e
  rw [e1];rfl
theorem Kc.cells (h:Kc H kvs cont qs) (nd:qs.Nodup):∀ q∈qs,zH H kvs cont q:=by
 intro q hq
 obtain ⟨i,hi,e⟩:=List.getElem_of_mem hq
 obtain ⟨l,e1,e2⟩:=h.2 i q (by rw [getElem?_eq_getElem hi,e])
 refine ⟨l,Uk ?_ i e1,e2⟩
 rw [h.keys]
 unfold List.Nodup
 rw [List.pairwise_map]
 exact nd.imp λ hab e=>hab (Cp e)
theorem Kc.same (h:Kc H kvs cont qs) (s:aF H H'):Kc H' kvs cont qs:=⟨h.1,λ i q e=>let ⟨l,e1,e2⟩:=h.2 i q e;⟨l,e1,s _ _ e2⟩⟩
theorem Kc.snoc {b:List Nat} {l:Addr} (h:Kc H kvs cont (qs.take i)) (hb:qs[i]?=some b) (hl:H l=some (.lst (cont b))):Kc H (kvs++[(tk b,.ref l)]) cont (qs.take (i+1)):=by
 rw [bC hb]
 refine ⟨by rw [length_append,length_append,h.1];rfl,λ j q e=>?_⟩
 by_cases hj:j<(qs.take i).length
 ·rw [getElem?_append_left hj] at e
  rw [getElem?_append_left (by rw [h.1];exact hj)]
  exact h.2 j q e
 ·rw [getElem?_append_right (by omega)] at e
  rw [getElem?_append_right (by rw [h.1];omega),h.1]
  cases z:j - (qs.take i).length with
  | zero=>rw [z] at e;simp at e;subst e;exact ⟨l,rfl,hl⟩
  | succ n=>rw [z] at e;simp at e
theorem Kc.new {b:List Nat} (h:Kc H kvs cont (qs.take i)) (nd:qs.Nodup) (hb:qs[i]?=some b):iF kvs (tk b)=none:=by
 cases e:iF kvs (tk b) with
 | none=>rfl
 | some v =>
  obtain ⟨p,hp,e1,_⟩:=jJY e
  have hm:tk b∈kvs.map (·.1):=mem_map.mpr ⟨p,hp,e1⟩
  rw [h.keys] at hm
  obtain ⟨q,hq,eq⟩:=mem_map.mp hm
  rw [Cp eq] at hq
  exact absurd hq (Eo nd hb)
theorem Kc.off (h:Kc H kvs cont qs) (k:∀ b xs,H b=some (.lst xs)->H' b=some (.lst xs)):Kc H' kvs cont qs:=⟨h.1,λ i q e=>let ⟨l,e1,e2⟩:=h.2 i q e;⟨l,e1,k _ _ e2⟩⟩
theorem Kc.cong {cont':List Nat->List V} (h:Kc H kvs cont qs) (k:∀ q∈qs,cont' q=cont q):Kc H kvs cont' qs:=⟨h.1,λ i q e=>let ⟨l,e1,e2⟩:=h.2 i q e;⟨l,e1,by rw [k q (mem_of_getElem? e)];exact e2⟩⟩
theorem Oj:∀ (rs q:List Nat),q.length=rs.length->(∀ (i n c:Nat),rs.reverse[i]?=some n->q[i]?=some c->c<n)->q∈cO rs
 | [],q,hl,_=>by
  have:q=[]:=List.eq_nil_of_length_eq_zero hl
  subst this;simp [cO]
 | s::rs,q,hl,h=>by
  rw [List.length_cons] at hl
  have hlt:rs.length<q.length:=by omega
  have hq:q[rs.length]?=some q[rs.length]:=getElem?_eq_getElem hlt
  have e:q=q.take rs.length++[q[rs.length]]:=by
   have:=bC hq
   rw [take_of_length_le (by omega)] at this
   exact this
  have hb:q.take rs.length∈cO rs:=by
   refine Oj rs _ (by rw [length_take];omega) λ i n c e1 e2=>?_
   have hi:i<rs.length:=by have:=(List.getElem?_eq_some_iff.mp e1).1;rwa [List.length_reverse] at this
   refine h i n c ?_ ?_
   ·rw [List.reverse_cons,getElem?_append_left (by rw [List.length_reverse];exact hi)];exact e1
   ·rw [List.getElem?_take_of_lt hi] at e2;exact e2
  have hc:q[rs.length]<s:=by
   refine h rs.length s _ ?_ hq
   rw [List.reverse_cons,getElem?_append_right (by rw [List.length_reverse];omega),List.length_reverse,Nat.sub_self];rfl
  simp only [cO,List.mem_flatMap,mem_map,List.mem_range]
  exact ⟨_,hb,_,hc,e.symm⟩
theorem tv_iv (q:List Nat):tv q=List.map V.int (q.map λ n:Nat=>(n:Int)):=by
 unfold tv
 rw [List.map_map]
 rfl
noncomputable def dY:List (List Nat)->List (List Nat)
 | []=>[[]]
 | c::rs=>(dY rs).flatMap λ b=>c.map λ x=>b++[x]
theorem Ob:∀ rs:List Nat,cO rs=dY (rs.map List.range)
 | []=>rfl
 | s::rs=>by show (cO rs).flatMap _=(dY (rs.map List.range)).flatMap _;rw [Ob rs]
theorem jN:∀ cs:List (List Nat),(dY cs).length=kZ (cs.map List.length)
 | []=>rfl
 | c::rs=>by
  show ((dY rs).flatMap _).length=kZ (rs.map List.length)*c.length
  rw [← jN rs]
  generalize dY rs=l
  induction l with
  | nil=>simp
  | cons b l ih=>rw [List.flatMap_cons,length_append,length_map,ih,List.length_cons,Nat.succ_mul];omega
theorem nR:∀ (cs:List (List Nat)) (q:List Nat),q∈dY cs->q.length=cs.length
 | [],q,h=>by simp [dY] at h;subst h;rfl
 | c::rs,q,h=>by
  simp only [dY,List.mem_flatMap,mem_map] at h
  obtain ⟨b,hb,x,_,rfl⟩:=h
  simp [nR rs b hb]
theorem Ek:∀ cs:List (List Nat),(∀ c∈cs,c.Nodup)->(dY cs).Nodup
 | [],_=>by simp [dY]
 | c::rs,h=>by
  show List.Nodup ((dY rs).flatMap _)
  unfold List.Nodup
  rw [List.pairwise_flatMap]
  refine ⟨λ b _=>?_,(Ek rs λ d hd=>h d (.tail _ hd)).imp λ {a b} hab x hx y hy e=>?_⟩
  ·rw [List.pairwise_map]
   exact (h c (.head _)).imp λ {x y} hxy e=>hxy (by simpa using e)
  ·obtain ⟨_,_,rfl⟩:=mem_map.mp hx
   obtain ⟨_,_,rfl⟩:=mem_map.mp hy
   exact hab (List.append_inj' e rfl).1
theorem Di:∀ (cs:List (List Nat)) (q:List Nat),q∈dY cs->∀ (i:Nat) c x,cs.reverse[i]?=some c->q[i]?=some x->x∈c
 | [],q,h=>by intro i n c e;simp at e
 | s::rs,q,h=>by
  simp only [dY,List.mem_flatMap,mem_map] at h
  obtain ⟨b,hb,x,hx,rfl⟩:=h
  intro i n c e1 e2
  have hl:=nR rs b hb
  rw [List.reverse_cons] at e1
  by_cases hi:i<rs.length
  ·rw [getElem?_append_left (by rw [List.length_reverse];exact hi)] at e1
   rw [getElem?_append_left (by rw [hl];exact hi)] at e2
   exact Di rs b hb i n c e1 e2
  ·rw [getElem?_append_right (by rw [List.length_reverse];omega),List.length_reverse] at e1
   rw [getElem?_append_right (by rw [hl];omega),hl] at e2
   cases e3:i - rs.length with
   | zero=>rw [e3] at e1 e2;simp at e1 e2;rw [← e1,← e2];exact hx
   | succ k=>rw [e3] at e1;simp at e1
structure Ch (cs:List (List Nat)):Prop where
 len:cs.length<=3
 le:∀ c∈cs,c.length<=6
theorem Ch.rev (h:Ch cs):Ch cs.reverse:=⟨by rw [List.length_reverse];exact h.len,λ n hn=>h.le n (List.mem_reverse.mp hn)⟩
theorem Ch.many (h:Ch cs):(dY cs).length<=6 ^ cs.length:=by
 rw [jN]
 have:=Dh (cs.map List.length) λ s hs=>by obtain ⟨c,hc,rfl⟩:=mem_map.mp hs;exact h.le c hc
 rwa [length_map] at this
theorem Ch.ord (h:Ch cs):(dY cs).length<=216:=Nat.le_trans h.many (Nat.le_trans (Nat.pow_le_pow_right (by decide) h.len) (by decide))
noncomputable def Lg (H:Hp) (xs:List V) (cs:List (List Nat)):Prop:=xs.length=cs.length/\∀ (i:Nat) c,cs[i]?=some c->∃ a:Addr,xs[i]?=some (.ref a)/\H a=some (.lst (tv c))
theorem Lg.same (h:Lg H xs cs) (s:aF H H'):Lg H' xs cs:=⟨h.1,λ i n e=>let ⟨c,e1,e2⟩:=h.2 i n e;⟨c,e1,s _ _ e2⟩⟩
theorem Lg.nil:Lg H [] []:=⟨rfl,λ i q e=>by simp at e⟩
theorem Lg.app {rs:List (List Nat)} (p:Lg H xs qs) (r:Lg H ys rs):Lg H (xs++ys) (qs++rs):=by
 refine ⟨by rw [length_append,length_append,p.1,r.1],λ i q e=>?_⟩
 by_cases hi:i<qs.length
 ·rw [getElem?_append_left hi] at e
  rw [getElem?_append_left (by rw [p.1];exact hi)]
  exact p.2 i q e
 ·rw [getElem?_append_right (by omega)] at e
  rw [getElem?_append_right (by rw [p.1];omega),p.1]
  exact r.2 _ q e
theorem Lg.one {q:List Nat} (h:H a=some (.lst (tv q))):Lg H [.ref a] [q]:=by
 refine ⟨rfl,λ i q' e=>?_⟩
 cases i with
 | zero=>simp at e;subst e;exact ⟨a,rfl,h⟩
 | succ i=>simp at e
theorem Lg.snoc {c:List Nat} (h:Lg H xs cs) (hc:H a=some (.lst (tv c))):Lg H (xs++[.ref a]) (cs++[c]):=h.app (.one hc)
theorem Lg.get {x:V} (h:Lg H xs cs) (e:xs[i]?=some x):∃ c a,cs[i]?=some c/\x=.ref a/\H a=some (.lst (tv c)):=by
 have hl:i<cs.length:=by rw [← h.1];exact (List.getElem?_eq_some_iff.mp e).1
 obtain ⟨c,e1,e2⟩:=h.2 i cs[i] (getElem?_eq_getElem hl)
 rw [e] at e1
 exact ⟨cs[i],c,getElem?_eq_getElem hl,Option.some.inj e1,e2⟩
theorem Lg.take (h:Lg H xs cs) (n:Nat):Lg H (xs.take n) (cs.take n):=by
 refine ⟨by rw [length_take,length_take,h.1],λ i c e=>?_⟩
 have hi:i<n:=by have:=(List.getElem?_eq_some_iff.mp e).1;rw [length_take] at this;omega
 rw [List.getElem?_take_of_lt hi] at e ⊢
 exact h.2 i c e
theorem Lg.drop (h:Lg H xs cs) (n:Nat):Lg H (xs.drop n) (cs.drop n):=by
 refine ⟨by rw [List.length_drop,List.length_drop,h.1],λ i c e=>?_⟩
 rw [List.getElem?_drop] at e ⊢
 exact h.2 _ c e
theorem Lg.wo (h:Lg H xs cs) (n:Nat):Lg H (xs.take n++xs.drop (n+1)) (wo n cs):=(h.take n).app (h.drop (n+1))
structure Kp (ns:List Nat) (ks:List (List Nat)):Prop where
 len:ks.length=ns.length
 ne:∀ k∈ks,k≠[]
 nd:∀ k∈ks,k.Nodup
 lt:∀ (i:Nat) k n,ks[i]?=some k->ns[i]?=some n->k.length<=n/\∀ x∈k,x<n
theorem Cm {l:List α} {x:α} (m:x∈wo h l):x∈l:=by
 rcases mem_append.mp m with z | z
 ·exact mem_of_mem_take z
 ·exact List.mem_of_mem_drop z
theorem Kp.le (K:Kp ns ks) {B:Nat} (h:∀ n∈ns,n<=B):∀ c∈ks,c.length<=B:=λ c hc=>by
 obtain ⟨i,hi⟩:=getElem?_of_mem hc
 have hl:i<ns.length:=by rw [← K.len];exact (List.getElem?_eq_some_iff.mp hi).1
 exact Nat.le_trans (K.lt i c _ hi (getElem?_eq_getElem hl)).1 (h _ (getElem_mem hl))
theorem Kp.ch (K:Kp ns ks) (sz:Sz ns):Ch ks:=⟨by rw [K.len];exact sz.len,K.le sz.le⟩
theorem Ch.wo (h:Ch cs) (n:Nat):Ch (wo n cs):=⟨by have:=h.len;unfold My.wo;rw [length_append,length_take,List.length_drop];omega,λ c hc=>h.le c (Cm hc)⟩
noncomputable def jn (b:List Nat) (h c:Nat):List Nat:=b.take h++c::b.drop h
theorem wo_len {l:List α} (hl:h<l.length):(wo h l).length+1=l.length:=by unfold wo;rw [length_append,length_take,List.length_drop];omega
theorem Ri {k b:List Nat} (K:Kp ns ks) (hb:b∈dY (wo h ks).reverse) (hk:ks[h]?=some k) (hc:c∈k):jn b h c∈cO ns.reverse:=by
 have hl:=(List.getElem?_eq_some_iff.mp hk).1
 have wl:=wo_len hl
 have bl:=nR _ b hb
 rw [List.length_reverse] at bl
 have kl:=K.len
 have tl:(b.take h).length=h:=by rw [length_take];omega
 unfold jn
 refine Oj _ _ (by rw [length_append,List.length_cons,tl,List.length_drop,List.length_reverse];omega) λ i n x e1 e2=>?_
 rw [List.reverse_reverse] at e1
 have hi:=(List.getElem?_eq_some_iff.mp e1).1
 have ki:ks[i]?=some ks[i]:=getElem?_eq_getElem (by omega)
 refine (K.lt i _ n ki e1).2 x ?_
 rcases Nat.lt_trichotomy i h with z | z | z
 ·rw [getElem?_append_left (by omega),List.getElem?_take_of_lt z] at e2
  refine Di _ b hb i _ x ?_ e2
  rw [List.reverse_reverse];unfold wo
  rw [getElem?_append_left (by rw [length_take];omega),List.getElem?_take_of_lt z];exact ki
 ·subst z
  rw [getElem?_append_right (by omega),tl,Nat.sub_self] at e2
  simp at e2
  rw [hk] at ki
  rw [← Option.some.inj ki,← e2];exact hc
 ·rw [getElem?_append_right (by omega),tl,show i - h=(i - h - 1)+1 by omega,Lq1,List.getElem?_drop] at e2
  refine Di _ b hb (i - 1) _ x ?_ (by rw [show i - 1=h+(i - h - 1) by omega];exact e2)
  rw [List.reverse_reverse];unfold wo
  rw [getElem?_append_right (by rw [length_take];omega),length_take,List.getElem?_drop,show h+1+(i - 1 - min h ks.length)=i by omega];exact ki
theorem Lf (h:qs.Nodup):(qs.map tk).Nodup:=by
 unfold List.Nodup
 rw [List.pairwise_map]
 exact h.imp λ {a b} hab e=>hab (Cp e)
theorem Hy {B:Nat}:∀ rs:List Nat,(∀ s∈rs,s<=B)->kZ rs<=B ^ rs.length
 | [],_=>Nat.le_refl _
 | s::rs,h=>by
  show kZ rs*s<=B ^ (rs.length+1)
  rw [Nat.pow_succ]
  exact Nat.mul_le_mul (Hy rs λ t ht=>h t (.tail _ ht)) (h s (.head _))
theorem Kp.range (h:∀ n∈ns,1<=n):Kp ns (ns.map List.range):=by
 refine ⟨length_map _,λ k hk=>?_,λ k hk=>?_,λ i k n e1 e2=>?_⟩
 ·obtain ⟨n,hn,rfl⟩:=mem_map.mp hk
  intro e
  have h1:=congrArg List.length e
  rw [List.length_range] at h1
  have h2:=h n hn
  have h3:n=0:=h1
  omega
 ·obtain ⟨n,hn,rfl⟩:=mem_map.mp hk
  exact List.nodup_range
 ·rw [getElem?_map,e2] at e1
  obtain rfl:=Option.some.inj e1
  exact ⟨by rw [List.length_range];exact Nat.le_refl _,λ x hx=>List.mem_range.mp hx⟩
noncomputable def wR (us:List (List Int)):List (List (Int×Int)):=us.map λ r=>r.map λ u=>(u,(1:Int))
theorem Vk (t:Int):lo2 t 1=(t,1):=by
 have l:Lo t 1 t 1:=⟨by decide,Int.gcd_one_right _,rfl,Nat.le_refl _,Nat.le_refl _⟩
 obtain ⟨a,b⟩:=(bU (t:=t) (b:=1) (by decide)).uniq (by decide) l
 exact Prod.ext a b
theorem lc_1 {fs:List (Int×Int)} (h:∀ f∈fs,f.2=1):lc fs=1:=by
 have a:=xL fs 1 (by decide) (λ f hf=>by rw [h f hf];decide)
 have d:lc fs∣1:=a.2.2.2 1 (Int.dvd_refl _) λ f hf=>by rw [h f hf];exact Int.dvd_refl _
 have h1:=Int.le_of_dvd (by decide) d
 have h2:0<lc fs:=a.1
 omega
theorem lft_w (z:Int) (us:List (List Int)):kI z (wR us)=wR (us.map λ r=>r.map λ u=>u+(1 - z)):=by
 unfold kI wR
 rw [List.map_map,List.map_map]
 refine map_congr_left λ r _=>?_
 show (r.map λ u=>(u,(1:Int))).map (lft z)=(r.map λ u=>u+(1 - z)).map λ u=>(u,(1:Int))
 rw [List.map_map,List.map_map]
 refine map_congr_left λ u _=>?_
 show lo2 (u*1+(1 - z)*1) (1*1)=(u+(1 - z),1)
 rw [Int.mul_one,Int.mul_one,Int.mul_one,Vk]
theorem sm_wo {us:List (List Int)} {n:Nat} (m3:us.length<=3) (n9:n<=9) (hr:∀ r∈us,r.length=n) (hu:∀ r∈us,∀ u∈r,BB 12 u) :
  WoO (wR us) us.length n/\(∀ j k,BB 40 ((aM false (wR us) (bY us.length) (bY n)).a j k))/\∀ k,BB 40 ((aM false (wR us) (bY us.length) (bY n)).be k):=by
 have el:(wR us).length=us.length:=by unfold wR;rw [length_map]
 have eb:=mK us.length
 have eg:=mK n
 have one1:BB 1 (1:Int):=by show (1:Int).natAbs<2 ^ 1;decide
 have og:∀ k,∀ f∈bY k,Gp 1 1 f:=λ k f hf=>by rw [rE hf];exact ⟨by decide,one1,one1⟩
 have g1:∀ r∈wR us,r.length=n/\(∀ f∈r,f.2=1)/\∀ f∈r,Gp 12 1 f:=λ r hm=>by
  obtain ⟨r',h,rfl⟩:=mem_map.mp hm
  refine ⟨by rw [length_map];exact hr r' h,λ f hf=>?_,λ f hf=>?_⟩
  ·obtain ⟨u,_,rfl⟩:=mem_map.mp hf;rfl
  ·obtain ⟨u,h2,rfl⟩:=mem_map.mp hf
   exact ⟨show (0:Int)<1 by decide,hu r' h u h2,one1⟩
 have lr:∀ r∈wR us,lc r=1:=λ r hm=>lc_1 (g1 r hm).2.1
 have lo:∀ k,lc (bY k)=1:=λ k=>lc_1 λ f hf=>by rw [rE hf]
 have cl:∀ r∈wR us,∀ x∈clr r,BB 12 x:=λ r hm x hx=>by
  obtain ⟨f,hf,rfl⟩:=mem_map.mp hx
  rw [lr r hm,(g1 r hm).2.1 f hf]
  show BB 12 (f.1*1)
  rw [Int.mul_one];exact ((g1 r hm).2.2 f hf).2.1
 have wr:∀ r∈wR us,BB 1 (whF r).1/\BB 12 (whF r).2:=λ r hm=>(bU (pF _)).bb (by show BB 1 (lc r);rw [lr r hm];exact one1) (mx1_bb (by decide) (Uh (cl r hm)))
 have ws:∀ r∈wR us,0<(whF r).1/\0<(whF r).2:=λ r hm=>cZ λ f hf=>((g1 r hm).2.2 f hf).1
 have gbn:∀ f∈bnF (wR us) (bY us.length),Gp 1 12 f:=λ f hf=>by
  have hb:(bY us.length).length=(wR us).length:=by rw [eb,el]
  obtain ⟨i,hi⟩:=getElem?_of_mem hf
  have hil:i<(wR us).length:=by have:=(List.getElem?_eq_some_iff.mp hi).1;rwa [dF hb] at this
  have e2:(bY us.length)[i]?=some (1,1):=cA _ (by omega)
  rw [mC e2 (getElem?_eq_getElem hil)] at hi
  obtain rfl:=Option.some.inj hi
  have w:=ws _ (getElem_mem hil)
  have wb:=wr _ (getElem_mem hil)
  have z:0<1*(whF (wR us)[i]).2:=by have:=w.2;omega
  have l:=bU (t:=1*(whF (wR us)[i]).1) z
  have lb:=l.bb (by rw [Int.one_mul];exact wb.1) (by rw [Int.one_mul];exact wb.2)
  exact ⟨l.pos,lb.1,lb.2⟩
 have hlm:BB 37 (lc (bnF (wR us) (bY us.length))):=(lc_bbp gbn).mono (by rw [dF (by rw [eb,el]),el];omega)
 have i7:(us.length+1)*(us.length+1)<=4*4:=Nat.mul_le_mul (by omega) (by omega)
 have B:BeO (wR us) (bY us.length) (bY n):=beo_of 12 1 1 1 1 37 (λ r h=>by rw [eg];exact (g1 r h).1) (by rw [eb,el]) (λ r h=>(g1 r h).2.2) (λ f hf=>by rw [rE hf];exact ⟨by decide,one1.mono (by decide),one1⟩) (og _) (λ r h=>by rw [lr r h];exact one1) (by rw [lo];exact one1) hlm (by decide) (by omega) (by omega) (by decide) (by decide) (by decide) (by decide) (by decide) (by rw [el];omega) (by rw [el];omega)
 have ba:∀ e j k,BB 12 ((aM e (wR us) (bY us.length) (bY n)).a j k):=λ e j k=>by
  show BB 12 (if k<(wR us).length then (whL ((wR us).getD k [])).getD j 0 else - (whL (bY n)).getD j 0)
  by_cases h:k<(wR us).length
  ·rw [if_pos h]
   have hm:(wR us).getD k []∈wR us:=by rw [getD_eq_getElem?_getD,getElem?_eq_getElem h];exact getElem_mem h
   by_cases hi:j<(whL ((wR us).getD k [])).length
   ·exact Hz (cl _ hm) _ (jK hi)
   ·rw [getD_eq_getElem?_getD,getElem?_eq_none (by omega)]
    show (0:Int).natAbs<_;exact Nat.two_pow_pos _
  ·rw [if_neg h]
   exact ((Cn (og n) (q:=1) (by rw [lo];exact one1) j).neg).mono (by decide)
 have bD:∀ e s,(aM e (wR us) (bY us.length) (bY n)).Okn s->BB 60 ((aM e (wR us) (bY us.length) (bY n)).D s):=λ e s o=>(D_bbk (L:=aM e (wR us) (bY us.length) (bY n)) (q:=12) (λ j k _ _=>ba e j k) o).mono (by
  show min (wR us).length (bY n).length*12+((wR us).length+1)+((wR us).length+1)*((wR us).length+1)+1<=60
  rw [el];omega)
 refine ⟨⟨B,λ fl s ok io=>⟨_,Int.mul_pos ok.pos (Kb B).1,((bD fl s ok.n).mul (xE gbn hlm (by decide)).1).mono (by decide),λ j hj=>?_⟩,λ fl s ok un k hk=>?_⟩,λ j k=>(ba false j k).mono (by decide),λ k=>(Cn gbn hlm k).mono (by decide)⟩
 ·obtain ⟨x2,xc,_,xe⟩:=Gu B ok j
  exact La xe xc
 ·have hk':k<(wR us).length:=by omega
  obtain ⟨y2,yc,_,ye⟩:=Gs B ok un hk'
  have w:=xH B hk'
  have w1:=cZ λ f hf=>(B.gg f hf).1
  have wg:=xE (og n) (q:=1) (by rw [lo];exact one1) (by decide)
  have hm:(wR us).getD k []∈wR us:=by rw [getD_eq_getElem?_getD,getElem?_eq_getElem hk'];exact getElem_mem hk'
  exact Cw ((((bD fl s ok.n).mul (wr _ hm).2).mul wg.1).mono (by decide)) (Int.mul_pos (Int.mul_pos ok.pos w.2) w1.1) (La ye yc)
noncomputable def rdP (H:Hp) (l:Addr):Int×Int:=match H l with
 | some (.tup [.int a,.int b])=>(a,b)
 | _=>(0,0)
theorem uM {l:Addr} {a b:Int} (h:H l=some (.tup [.int a,.int b])):rdP H l=(a,b):=by unfold rdP;rw [h]
structure PrA (H:Hp) (ls:List Addr) (qs:List (Int×Int)):Prop where
 eq:qs=ls.map (rdP H)
 all:∀ l∈ls,∃ a b:Int,H l=some (.tup [.int a,.int b])
section
variable {H H':Hp} {ls ms:List Addr} {qs rs:List (Int×Int)} {l:Addr} {a b:Int}
theorem PrA.keep (h:PrA H ls qs) (k:Cl H H'):PrA H' ls qs:=⟨by rw [h.eq];exact map_congr_left λ l m=>by obtain ⟨a,b,e⟩:=h.all l m;rw [uM e,uM (k _ _ e)],λ l m=>let ⟨a,b,e⟩:=h.all l m;⟨a,b,k _ _ e⟩⟩
theorem PrA.same (h:PrA H ls qs) (s:aF H H'):PrA H' ls qs:=h.keep (pT s)
theorem PrA.off {r:Addr} (h:PrA H ls qs) (hr:H r=some (.lst ys)):PrA (upd H r o) ls qs:=h.keep (fP hr)
theorem PrA.nil:PrA H [] []:=⟨rfl,λ _ h=>nomatch h⟩
theorem PrA.app (h:PrA H ls qs) (g:PrA H ms rs):PrA H (ls++ms) (qs++rs):=⟨by rw [h.eq,g.eq,map_append],λ l m=>(mem_append.mp m).elim (h.all l) (g.all l)⟩
theorem PrA.one (e:H l=some (.tup [.int a,.int b])):PrA H [l] [(a,b)]:=⟨by rw [List.map_cons,uM e];rfl,λ x m=>by rw [mem_singleton.mp m];exact ⟨a,b,e⟩⟩
theorem PrA.len (h:PrA H ls qs):ls.length=qs.length:=by rw [h.eq,length_map]
theorem PrA.at (h:PrA H ls qs) (e:ls[i]?=some l):∃ a b:Int,qs[i]?=some (a,b)/\H l=some (.tup [.int a,.int b]):=by
 obtain ⟨a,b,hl⟩:=h.all l (mem_of_getElem? e)
 exact ⟨a,b,by rw [h.eq,getElem?_map,e,Option.map_some,uM hl],hl⟩
theorem PrA.sub (h:PrA H ls qs) (m:∀ l∈ms,l∈ls):PrA H ms (ms.map (rdP H)):=⟨rfl,λ l x=>h.all l (m l x)⟩
theorem PrA.perm (h:PrA H ls qs) (p:ms.Perm ls):PrA H ms (ms.map (rdP H))/\(ms.map (rdP H)).Perm qs:=⟨h.sub λ l m=>p.mem_iff.mp m,by rw [h.eq];exact p.map _⟩
theorem PrA.take (h:PrA H ls qs) (i:Nat):PrA H (ls.take i) (qs.take i):=⟨by rw [h.eq,map_take],λ l m=>h.all l (mem_of_mem_take m)⟩
theorem PrA.drop (h:PrA H ls qs) (i:Nat):PrA H (ls.drop i) (qs.drop i):=⟨by rw [h.eq,List.map_drop],λ l m=>h.all l (List.mem_of_mem_drop m)⟩
theorem rG {α:Type}:∀ (l:List α) (i:Nat),l.eraseIdx i=l.take i++l.drop (i+1)
 | [],i=>by simp
 | a::l,0=>by simp
 | a::l,i+1=>by rw [List.eraseIdx_cons_succ,rG l i];rfl
theorem PrA.erase (h:PrA H ls qs) (i:Nat):PrA H (ls.eraseIdx i) (qs.eraseIdx i):=by rw [rG,rG];exact (h.take i).app (h.drop (i+1))
theorem PrA.ins (h:PrA H ls qs) (e:H l=some (.tup [.int a,.int b])) (i j:Nat):PrA H (ls.take i++l::ls.drop j) (qs.take i++(a,b)::qs.drop j):=(h.take i).app ((PrA.one e).app (h.drop j))
theorem jZV {K:W.Frag} {q:Addr} {c d:Int} (hf:H p=some (.tup [.int a,.int b])) (hg:H q=some (.tup [.int c,.int d])):DEq K H 1 (.ref p) (.ref q) (decide ((a,b)=(c,d))):=by
 by_cases e:p=q
 ·subst e
  rw [hf] at hg
  have:a=c/\b=d:=by simpa using hg
  exact .inl (.inl ⟨rfl,⟨p,rfl⟩,decide_eq_true (by rw [this.1,this.2])⟩)
 ·refine .inr ⟨λ z=>e (by injection z),p,q,_,_,rfl,rfl,.inr ⟨SqT.of hf,SqT.of hg,λ j=>if j=0 then a == c else b == d,λ j x y h1 h2=>?_,?_⟩⟩
  ·match j,h1,h2 with
   | 0,h1,h2=>simp at h1 h2;subst h1 h2;exact .inr ⟨_,_,rfl,rfl,rfl⟩
   | 1,h1,h2=>simp at h1 h2;subst h1 h2;exact .inr ⟨_,_,rfl,rfl,rfl⟩
   | n+2,h1,_=>simp at h1
  ·show decide ((a,b)=(c,d))=(((a == c) && ((b == d) && true)) && true)
   rw [Bool.and_true,Bool.and_true]
   by_cases h1:a=c
   ·by_cases h2:b=d
    ·subst h1 h2;simp
    ·simp [h2]
   ·simp [h1]
theorem Yu:∀ {fs gs:List (Int×Int)},fs.length=gs.length->decide (fs=gs)=(List.range fs.length).all λ j=>decide (fs.getD j (0,0)=gs.getD j (0,0)):=by
 intro fs gs hl
 by_cases h:fs=gs
 ·subst h;simp
 ·rw [decide_eq_false h]
  refine (Bool.eq_false_iff.mpr λ z=>h ?_).symm
  refine List.ext_getElem hl λ j h1 h2=>?_
  have:=of_decide_eq_true (List.all_eq_true.mp z j (List.mem_range.mpr h1))
  rwa [getD_eq_getElem?_getD,getD_eq_getElem?_getD,getElem?_eq_getElem h1,getElem?_eq_getElem h2] at this
theorem PrA.req {K:W.Frag} {x y:Addr} (ha:SqL K H x (ls.map V.ref)) (hb:SqL K H y (ms.map V.ref)) (hp:PrA H ls qs) (hq:PrA H ms rs):REq K H (DEq K H 1) (.ref x) (.ref y) (decide (qs=rs)):=by
 refine ⟨x,y,_,_,rfl,rfl,.inl ⟨ha,hb,?_⟩⟩
 rw [length_map,length_map,hp.len,hq.len]
 by_cases hl:qs.length=rs.length
 ·refine .inr ⟨hl,λ j=>decide (qs.getD j (0,0)=rs.getD j (0,0)),λ j u v hx hy=>?_,Yu hl⟩
  obtain ⟨p,rfl,h1⟩:=bK hx
  obtain ⟨q,rfl,h2⟩:=bK hy
  obtain ⟨a,b,e,hf⟩:=hp.at h1
  obtain ⟨c,d,e2,hg⟩:=hq.at h2
  show DEq K H 1 _ _ (decide (qs.getD j (0,0)=rs.getD j (0,0)))
  rw [getD_eq_getElem?_getD,getD_eq_getElem?_getD,e,e2]
  exact jZV hf hg
 ·exact .inl ⟨hl,decide_eq_false λ z=>hl (by rw [z])⟩
end
noncomputable def prK (ns:List Nat) (i:Nat):List (Int×Int):=(List.range i).flatMap λ h=>(List.range (ns.getD h 0)).map λ c:Nat=>((h:Int),(c:Int))
noncomputable abbrev prs (ns:List Nat):List (Int×Int):=prK ns ns.length
theorem Dj (ns:List Nat) (i:Nat):prK ns (i+1)=prK ns i++(List.range (ns.getD i 0)).map λ c:Nat=>((i:Int),(c:Int)):=by
 unfold prK;rw [List.range_succ,List.flatMap_append];simp
theorem sS {a b:Int}:(a,b)∈prs ns↔∃ h c n:Nat,a=h/\b=c/\ns[h]?=some n/\c<n:=by
 unfold prs prK
 simp only [List.mem_flatMap,List.mem_range,mem_map,Prod.mk.injEq]
 constructor
 ·rintro ⟨h,hh,c,hc,rfl,rfl⟩
  rw [getD_eq_getElem?_getD,getElem?_eq_getElem hh] at hc
  exact ⟨h,c,_,rfl,rfl,getElem?_eq_getElem hh,hc⟩
 ·rintro ⟨h,c,n,rfl,rfl,e,hc⟩
  refine ⟨h,(List.getElem?_eq_some_iff.mp e).1,c,?_,rfl,rfl⟩
  rw [getD_eq_getElem?_getD,e];exact hc
theorem Bu {ns:List Nat} (h:∀ n∈ns,n<=6):∀ i,(prK ns i).length<=6*i
 | 0=>Nat.le_refl _
 | i+1=>by
  have:=Bu h i
  have:ns.getD i 0<=6:=by
   rw [getD_eq_getElem?_getD]
   cases e:ns[i]? with
   | none=>exact Nat.zero_le _
   | some n=>exact h n (mem_of_getElem? e)
  rw [Dj,length_append,length_map,List.length_range]
  omega
noncomputable abbrev ky (q:Int×Int):Int:=1000*q.1+q.2
theorem yI (m3:ms.length<=3) (m2:2<=ms.length) (hm:∀ n∈ms,1<=n/\n<=3):(prs ms).Pairwise (λ x y=>ky x<ky y)/\2<=(prs ms).length/\(prs ms).length<=9:=by
 match ms,m3,m2,hm with
 | [a,b],_,_,hm =>
  have h1:=hm a (by simp)
  have h2:=hm b (by simp)
  rcases (show a=1∨a=2∨a=3 by omega) with rfl | rfl | rfl <;> rcases (show b=1∨b=2∨b=3 by omega) with rfl | rfl | rfl <;> decide +kernel
 | [a,b,c],_,_,hm =>
  have h1:=hm a (by simp)
  have h2:=hm b (by simp)
  have h3:=hm c (by simp)
  rcases (show a=1∨a=2∨a=3 by omega) with rfl | rfl | rfl <;> rcases (show b=1∨b=2∨b=3 by omega) with rfl | rfl | rfl <;> rcases (show c=1∨c=2∨c=3 by omega) with rfl | rfl | rfl <;> decide +kernel
 | _::_::_::_::_,h,_,_=>simp at h
 | [],_,h,_=>simp at h
 | [_],_,h,_=>simp at h
theorem Kq (hm:∀ n∈ms,1<=n/\n<=3):∀ q∈prs ms,-500<q.2/\q.2<500:=λ q h=>by
 obtain ⟨x,c,n,_,e,hn,hc⟩:=sS.mp h
 have:=hm n (mem_of_getElem? hn)
 rw [e];omega
theorem Xg (h:(prs ms).Pairwise (λ x y=>ky x<ky y)):(prs ms).Nodup:=h.imp λ l e=>by rw [e] at l;exact absurd l (Int.lt_irrefl _)
theorem prs_srt {qs:List (Int×Int)} (p:qs.Perm (prs ms)) (s:qs.Pairwise (λ x y=>ky x<=ky y)) (st:(prs ms).Pairwise (λ x y=>ky x<ky y)) (lo:∀ q∈prs ms,-500<q.2/\q.2<500):qs=prs ms:=by
 refine List.Perm.eq_of_pairwise (le:=λ x y=>ky x<=ky y) (λ x y hx hy a b=>?_) s (st.imp λ l=>Int.le_of_lt l) p
 have h1:=lo x (p.mem_iff.mp hx)
 have h2:=lo y hy
 obtain ⟨x1,x2⟩:=x
 obtain ⟨y1,y2⟩:=y
 have e1:x1=y1:=by simp only [ky] at a b;simp only at h1 h2;omega
 have e2:x2=y2:=by simp only [ky] at a b;omega
 rw [e1,e2]
theorem lI {α:Type}:∀ {l:List α} {i:Nat} {x:α},l[i]?=some x->(x::l.eraseIdx i).Perm l
 | [],i,x,e=>by simp at e
 | a::l,0,x,e=>by simp at e;subst e;exact .refl _
 | a::l,i+1,x,e=>by
  rw [List.eraseIdx_cons_succ]
  exact (List.Perm.swap _ _ _).trans ((lI (l:=l) (i:=i) (by simpa using e)).cons a)
theorem seqI {n:Nat} (h:k<n):seqIndex? (k:Int) n=some k:=(Ky (by unfold ixN;rw [if_pos (by omega),if_pos (by omega),Int.toNat_natCast])).1
theorem Eu (ls:List Addr) (k:Nat):(List.map V.ref ls).eraseIdx k=List.map V.ref (ls.eraseIdx k):=by rw [rG,rG,map_append,map_take,List.map_drop]
theorem PrA.set {ls:List Addr} {qs:List (Int×Int)} {l:Addr} {a b:Int} (h:PrA H ls qs) (e:H l=some (.tup [.int a,.int b])) (i:Nat):PrA H (ls.set i l) (qs.set i (a,b)) :=
 ⟨by rw [h.eq,List.map_set,uM e],λ x m=>(mem_or_eq_of_mem_set m).elim (h.all x) λ z=>by rw [z];exact ⟨a,b,e⟩⟩
theorem bad_dup {qs:List (Int×Int)} {x:Int×Int} (nd:(prs ms).Nodup) (hi:i<qs.length) (hj:qs[j]?=some x) (ne:i≠j):¬ (qs.set i x).Perm (prs ms):=λ p=>by
 have nd:=p.nodup_iff.mpr nd
 refine ne ((List.getElem?_inj (by rw [length_set];exact hi) nd).mp ?_)
 rw [List.getElem?_set_self hi,List.getElem?_set_ne ne,hj]
theorem ixI {n:Nat} (h:k<n):ixN n (k:Int)=some k:=by unfold ixN;rw [if_pos (by omega),if_pos (by omega),Int.toNat_natCast]
theorem lo_ins {P:α->Prop} {qs:List α} {x:α} (h:∀ q∈qs,P q) (hx:P x) (i j:Nat):∀ q∈qs.take i++x::qs.drop j,P q:=λ q m=>by
 rcases mem_append.mp m with m | m
 ·exact h q (mem_of_mem_take m)
 ·rcases List.mem_cons.mp m with rfl | m
  ·exact hx
  ·exact h q (List.mem_of_mem_drop m)
theorem Vn {qs:List α} {x:α} (i:Nat) (h:i<=qs.length):(qs.take i++x::qs.drop i).length=qs.length+1:=by
 rw [length_append,List.length_cons,length_take,List.length_drop];omega
theorem Vi {ls:List Addr} {l:Addr}:(List.map V.ref ls).take i++V.ref l::(List.map V.ref ls).drop i=List.map V.ref (ls.take i++l::ls.drop i):=by rw [map_append,List.map_cons,map_take,List.map_drop]
noncomputable def Aj:List PySem.Str:=["_law_script", "_law_k"]
noncomputable def bZ (K:W.Frag):Sp:=λ vs H Q _=>∃ a ns k,vs=[.ref a,.int k]/\SqL K H a (List.map V.int ns)/\0<=k/\Q (.int (ns.getD k.toNat 0)) H
noncomputable def rN (K:W.Frag):TS:=(aP (cQ (bE (tOp jT (aB 1) (tCB (eI K) (aC (aB 0) aK)))) (aW (tOp (dD K) (aB 0) (aB 1))) bS) (aW (tC (.int 0))))
theorem Gh {K vs H Q E} (h:bZ K vs H Q E):vs.length=2:=by obtain ⟨a,ns,b,rfl,_⟩:=h;rfl
theorem Ln {K vs H Q E} (h:bZ K vs H Q E):rN K { nx:=λ _ H'=>Q .non H',rt:=Q } (start Aj vs) H:=by
 obtain ⟨a,ns,k,rfl,hS,hk,q⟩:=h
 rw [show start Aj [V.ref a,V.int k]=[some (.ref a),some (.int k)] from rfl]
 (dsimp? [rN])
 refine ⟨_,.inl hS,vF (λ hl=>?_) (λ hl=>?_)⟩
 ·rw [length_map] at hl
  exact ⟨_,hS,_,Wf hk hl,q⟩
 ·rw [length_map] at hl
  rw [getD_eq_getElem?_getD,getElem?_eq_none (by omega)] at q
  exact q
noncomputable def Jk:List PySem.Str:=["_law_script"]
noncomputable def pL (K:W.Frag):Sp:=λ vs H Q _=>∃ a ns,vs=[.ref a]/\SqL K H a (List.map V.int ns)/\∀ l ms H',aF H H'->H' l=some (.lst (tv ms))->ms.length<=3->2<=ms.length->(∀ n∈ms,1<=n/\n<=3)->Q (.ref l) H'
noncomputable def pZ (K:W.Frag):TE:=(tOp gS (tC (.int 1)) (tOp jF (aO (bZ K) [] E0 (aC (aB 1) (aC (tOp gS (tC (.int 1)) (aB 0)) aK))) (tC (.int 3))))
noncomputable def xT (K:W.Frag):TS:=(aW (bB (eJ (aC (tOp gS (tC (.int 2)) (tOp jF (aO (bZ K) [] E0 (aC (aB 0) (aC (tC (.int 0)) aK))) (tC (.int 2)))) aK)) [0] (pZ K)))
theorem Qb {K vs H Q E} (h:pL K vs H Q E):vs.length=1:=by obtain ⟨l,ns,rfl,_⟩:=h;rfl
theorem Sc {K vs H Q E} (h:pL K vs H Q E):xT K { nx:=λ _ H'=>Q .non H',rt:=Q } (start Jk vs) H:=by
 obtain ⟨a,ns,rfl,hS,q⟩:=h
 rw [show start Jk [V.ref a]=[some (.ref a)] from rfl]
 (dsimp? [xT,bB,eJ])
 refine ⟨a,ns,0,rfl,hS,Int.le_refl _,_,rfl,by decide,?_⟩
 have e1:=Int.emod_nonneg (ns.getD (0:Int).toNat 0) (show (2:Int)≠0 by decide)
 have e2:=Int.emod_lt_of_pos (ns.getD (0:Int).toNat 0) (show (0:Int)<2 by decide)
 refine ⟨by omega,by omega,fB (W:=λ i zs H5=>H5=H/\∃ ms,zs=tv ms/\ms.length=i/\∀ n∈ms,1<=n/\n<=3) (iE (by omega)) ⟨rfl,[],rfl,rfl,λ _ h=>nomatch h⟩ ?_ ?_⟩
 ·rintro i zs H5 hi _ ⟨rfl,ms,rfl,hm,g⟩
  (dsimp? [pZ,bG,List.map_cons,List.map_nil,Option.join_some];try simp_arith [pZ,bG,List.map_cons,List.map_nil,Option.join_some,Int.zero_add])
  refine ⟨a,ns,1+(i:Int),rfl,hS,by omega,_,rfl,by decide,rfl,ms++[(1+ns.getD (1+(i:Int)).toNat 0 % 3).toNat],?_,by rw [length_append,hm];rfl,λ n hn=>?_⟩
  ·have e3:=Int.emod_nonneg (ns.getD (1+(i:Int)).toNat 0) (show (3:Int)≠0 by decide)
   rw [tv_app]
   show _=tv ms++[V.int ((1+ns.getD (1+(i:Int)).toNat 0 % 3).toNat:Int)]
   rw [Int.toNat_of_nonneg (by omega)]
  ·have e3:=Int.emod_nonneg (ns.getD (1+(i:Int)).toNat 0) (show (3:Int)≠0 by decide)
   have e4:=Int.emod_lt_of_pos (ns.getD (1+(i:Int)).toNat 0) (show (0:Int)<3 by decide)
   rcases mem_append.mp hn with h | h
   ·exact g n h
   ·rw [mem_singleton.mp h];omega
 ·rintro zs H5 hz ⟨rfl,ms,rfl,hm,g⟩ p hp
  exact q p ms _ (aF.upd hp) aD (by omega) (by omega) g
noncomputable def uE:List PySem.Str:=["sizes", "size"]
noncomputable def hE (K:W.Frag):Sp:=λ vs H Q _=>∃ l ns,vs=[.ref l]/\SqL K H l (tv ns)/\2<=ns.length/\Sz ns/\Q .non H
noncomputable def Ft (l:Addr) (H:Hp):Nat->St->Hp->Prop:=λ _ σ H3=>H3=H/\∃ o,σ=[some (.ref l),o]
noncomputable def oE (K:W.Frag):TS:=(cQ (tOr (bE (tOp jT (aB 1) (tC (.int 1)))) (bE (tOp Qm (aB 1) (tC (.int 6))))) dJ bS)
noncomputable def mZ (K:W.Frag):TS:=(aP (cQ (tOr (bE (tOp jT (tCB (eI K) (aC (aB 0) aK)) (tC (.int 2)))) (bE (tOp Qm (tCB (eI K) (aC (aB 0) aK)) (tC (.int 3))))) dJ bS) (cV (aZ K (aB 0)) (aJ 1) (oE K)))
theorem Bd {K vs H Q E} (h:hE K vs H Q E):vs.length=1:=by obtain ⟨l,ns,rfl,_⟩:=h;rfl
theorem Fg {K vs H Q E} (h:hE K vs H Q E):mZ K { nx:=λ _ H'=>Q .non H',rt:=Q } (start uE vs) H:=by
 obtain ⟨l,ns,rfl,hS,h2,sz,q⟩:=h
 have h3:=sz.len
 rw [show start uE [V.ref l]=[some (.ref l),none] from rfl]
 (dsimp? [mZ,cV,aZ])
 refine ⟨_,.inl hS,?_⟩
 rw [cW,if_neg (by omega)]
 refine ⟨_,.inl hS,?_⟩
 rw [cW,if_neg (by omega)]
 refine ⟨⟨_,hS⟩,eO (K:=K) (a:=l) (xs:=tv ns) (g:=aJ 1) (D:={ nx:=λ _ H'=>Q .non H',rt:=Q }) (Ft l H) ?_ ?_ ?_ ?_⟩
 ·exact ⟨rfl,none,rfl⟩
 ·rintro i σ H3 _ ⟨rfl,_⟩
  exact hS
 ·rintro i x σ H3 hi ⟨rfl,o,rfl⟩
  obtain ⟨n,hn,rfl⟩:=mR hi
  have g1:=sz.ge n (mem_of_getElem? hn)
  have g2:=sz.le n (mem_of_getElem? hn)
  (dsimp? [oE])
  rw [if_neg (by omega),if_neg (by omega)]
  exact ⟨rfl,_,rfl⟩
 ·rintro σ H3 ⟨rfl,o,rfl⟩
  exact q
noncomputable def uA:List PySem.Str:=["lists", "told", "choices", "longer", "begun"]
noncomputable def fJ (_:W.Frag):Sp:=λ vs H Q _=>∃ l ls cs,vs=[.ref l]/\H l=some (.lst ls)/\Lg H ls cs/\Ch cs/\∀ p xs H',aF H H'->H p=none->H' p=some (.lst xs)->Ps H' xs (dY cs.reverse)->Q (.ref p) H'
noncomputable def xB (c:List Nat) (b:List Nat):List (List Nat):=c.map λ x=>b++[x]
noncomputable def Fs (l:Addr) (H:Hp) (cs:List (List Nat)):Nat->St->Hp->Prop:=λ i σ H3=>∃ t xs o1 o2 o3,σ=[some (.ref l),some (.ref t),o1,o2,o3]/\aF H H3/\H t=none/\H3 t=some (.lst xs)/\Ps H3 xs (dY (cs.take i).reverse)
noncomputable def Bh (l t a:Addr) (c:List Nat) (H:Hp) (qs:List (List Nat)):Nat->St->Hp->Prop:=λ j σ H3=>∃ g ys o3,σ=[some (.ref l),some (.ref t),some (.ref a),some (.ref g),o3]/\aF H H3/\H g=none/\H3 g=some (.lst ys)/\Ps H3 ys ((qs.take j).flatMap (xB c))
noncomputable def iO (K:W.Frag):TS:=(aV (aB 3) (aJ 1))
noncomputable def iP (K:W.Frag):TE:=(tOp zE (aB 1) (dS (aC (aB 0) aK)))
noncomputable def nW (K:W.Frag):TS:=(dN (tBM K "list" Bt (aB 3) (aC (bB (aZ K (aB 2)) [4] (iP K)) aK)))
noncomputable def nV (K:W.Frag):TS:=(aP (aV (lU aK) (aJ 3)) (aP (cV (aZ K (aB 1)) (aJ 4) (nW K)) (iO K)))
noncomputable def mV (K:W.Frag):TS:=(aP (aV (lU (aC (dS aK) aK)) (aJ 1)) (aP (cV (aZ K (aB 0)) (aJ 2) (nV K)) (aW (aB 1))))
theorem Ay {K vs H Q E} (h:fJ K vs H Q E):vs.length=1:=by obtain ⟨l,ls,ns,rfl,_⟩:=h;rfl
theorem Ii (c:List Nat):∀ qs:List (List Nat),(qs.flatMap (xB c)).length=qs.length*c.length
 | []=>by simp
 | b::qs=>by rw [List.flatMap_cons,length_append,Ii c qs,List.length_cons,Nat.succ_mul,xB,length_map];omega
theorem Fc {K vs H Q E} (h:fJ K vs H Q E):mV K { nx:=λ _ H'=>Q .non H',rt:=Q } (start uA vs) H:=by
 obtain ⟨l,ls,cs,rfl,hS,rg,ch,q⟩:=h
 rw [show start uA [V.ref l]=[some (.ref l),none,none,none,none] from rfl]
 (dsimp? [mV,cV,aZ])
 refine ⟨sz0,λ a ha=>⟨sz1,λ t ht=>?_⟩⟩
 have s1:aF H (upd H a (.tup [])):=aF.upd ha
 have s2:aF (upd H a (.tup [])) (upd (upd H a (.tup [])) t (.lst [.ref a])):=aF.upd ht
 have s3:=s1.trans s2
 refine ⟨⟨_,SqL.of (s3 _ _ hS)⟩,eO (K:=K) (a:=l) (xs:=ls) (g:=aJ 2) (D:={ nx:=aW (aB 1) { nx:=λ _ H'=>Q .non H',rt:=Q },rt:=Q }) (Fs l H cs) ?_ ?_ ?_ ?_⟩
 ·exact ⟨t,_,none,none,none,rfl,s3,s1.free ht,aD,Ps.one (s2 _ _ aD)⟩
 ·rintro i σ H3 _ ⟨_,_,_,_,_,_,s4,_⟩
  exact SqL.of (s4 _ _ hS)
 ·rintro i x σ H3 hi ⟨t,xs,o1,o2,o3,rfl,s4,ht,hT,ps⟩
  obtain ⟨n,c,hn,rfl,hc⟩:=(rg.same s4).get hi
  have hin:i<cs.length:=(List.getElem?_eq_some_iff.mp hn).1
  have n6:=ch.le n (mem_of_getElem? hn)
  have hlen:=ch.len
  have cht:Ch (cs.take i).reverse:=Ch.rev ⟨by rw [length_take];omega,λ d hd=>ch.le d (mem_of_mem_take hd)⟩
  have hmax:(dY (cs.take i).reverse).length<=36:=Nat.le_trans cht.many (Nat.le_trans (Nat.pow_le_pow_right (j:=2) (by decide) (by rw [List.length_reverse,length_take];omega)) (by decide))
  have el:xs.length=(dY (cs.take i).reverse).length:=ps.1
  (dsimp? [nV,cV,aZ])
  refine ⟨sz0,λ g hg=>?_⟩
  have s5:aF H3 (upd H3 g (.lst [])):=aF.upd hg
  refine ⟨⟨_,SqL.of (s5 _ _ hT)⟩,eO (K:=K) (a:=t) (xs:=xs) (g:=aJ 4) (D:={ nx:=iO K _,rt:=Q }) (Bh l t c n H3 (dY (cs.take i).reverse)) ?_ ?_ ?_ ?_⟩
  ·exact ⟨g,[],_,rfl,s5,hg,aD,Ps.nil⟩
  ·rintro j σ H4 _ ⟨_,_,_,_,s6,_⟩
   exact SqL.of (s6 _ _ hT)
  ·rintro j x σ H4 hj ⟨g,ys,o4,rfl,s6,hg,hG,py⟩
   obtain ⟨b,a,hb,rfl,ha⟩:=(ps.same s6).get hj
   have hjl:j<(dY (cs.take i).reverse).length:=(List.getElem?_eq_some_iff.mp hb).1
   have hy:ys.length=j*n.length:=by rw [py.1,Ii,length_take];congr 1;omega
   have hc4:=s6 _ _ hc
   (dsimp? [nW,dN,tBM,bB,aZ])
   refine ⟨.inl ⟨rfl,_,SqL.of hG⟩,⟨_,SqL.of hc4⟩,bJ (K:=K) (a:=c) (xs:=tv n) (λ k zs H5=>aF H4 H5/\Ps H5 zs (xB (n.take k) b)) ?_ ⟨aF.refl _,Ps.nil⟩ ?_ ?_ ?_⟩
   ·rw [cW];exact iE (by omega)
   ·rintro k zs H5 _ ⟨s7,_⟩
    exact SqL.of (s7 _ _ hc4)
   ·rintro k x zs H5 hk _ ⟨s7,pz⟩
    obtain ⟨m,hm,rfl⟩:=mR hk
    show iP K [some (.int m),some (.ref a)] H5 _
    (dsimp? [iP,zE])
    refine ⟨sz1,λ z hz=>?_⟩
    have s8:aF H5 (upd H5 z (.tup [.int m])):=aF.upd hz
    refine ⟨_,s8 _ _ (s7 _ _ ha),_,aD,?_,λ p H6 s9 hp=>⟨s7.trans (s8.trans s9),?_⟩⟩
    ·rw [cW]
     have:=nR _ b (mem_of_getElem? hb)
     rw [List.length_reverse,length_take] at this
     exact iE (by show _+1<=216;omega)
    ·unfold xB
     rw [bC hm,map_append]
     exact (pz.same (s8.trans s9)).app (Ps.one (by rw [hp,tv_app];rfl))
   ·rintro zs H5 hz ⟨s7,pz⟩ p hp
    rw [cW,take_length] at pz
    rw [cW] at hz
    have s8:aF H5 (upd H5 p (.lst zs)):=aF.upd hp
    refine ⟨g,p,ys,zs,rfl,rfl,s8 _ _ (s7 _ _ hG),aD,?_,?_⟩
    ·rw [hy,hz]
     have:j*n.length+n.length<=216:=by
      have h1:(j+1)*n.length<=36*6:=Nat.mul_le_mul (by omega) n6
      rw [Nat.succ_mul] at h1
      exact h1
     exact iE this
    ·refine ⟨g,_,_,rfl,((s6.trans s7).trans s8).put hg,hg,aD,?_⟩
     rw [bC hb,List.flatMap_append]
     refine Ps.keep (Ps.app ((py.same s7).same s8) ?_) (fP (s8 _ _ (s7 _ _ hG)))
     rw [List.flatMap_cons,List.flatMap_nil,List.append_nil]
     exact pz.same s8
  ·rintro σ H4 ⟨g,ys,o4,rfl,s6,hg,hG,py⟩
   (dsimp? [iO])
   refine ⟨g,ys,_,_,_,rfl,s4.trans s6,s4.free hg,hG,?_⟩
   rw [el,take_length] at py
   rw [bC hn,List.reverse_append]
   exact py
 ·rintro σ H3 ⟨t,xs,o1,o2,o3,rfl,s4,ht,hT,ps⟩
  (dsimp! [aB,tC,tOp,rI0,rNe,dI,aW,bE])
  rw [rg.1,take_length] at ps
  exact q t xs H3 s4 ht hT ps
noncomputable def Ez:List PySem.Str:=["sizes"]
noncomputable def mH (K:W.Frag):Sp:=λ vs H Q _=>∃ l ns,vs=[.ref l]/\SqL K H l (tv ns)/\Sz ns/\∀ p xs H',aF H H'->H p=none->H' p=some (.lst xs)->Ps H' xs (cO ns.reverse)->Q (.ref p) H'
noncomputable def tT (K:W.Frag):TE:=(Cj (aB 0))
noncomputable def uU (K:W.Frag):TS:=(aW (aO (fJ K) [] E0 (aC (bB (aZ K (aB 0)) [] (tT K)) aK)))
theorem Md {K vs H Q E} (h:mH K vs H Q E):vs.length=1:=by obtain ⟨l,ns,rfl,_⟩:=h;rfl
theorem rng_tv (n:Nat):List.map V.int (oU n)=tv (List.range n):=by unfold oU tv;rw [List.map_map];rfl
theorem Sz.ch (sz:Sz ns):Ch (ns.map List.range):=⟨by rw [length_map];exact sz.len,λ c hc=>by obtain ⟨n,hn,rfl⟩:=mem_map.mp hc;rw [List.length_range];exact sz.le n hn⟩
theorem Vl {H3:Hp} {n:Nat} (rg:Lg H3 ys ((ns.take i).map List.range)) (hn:ns[i]?=some n) (hp:H3 p=none):Lg (upd H3 p (.lst (List.map V.int (oU n)))) (ys++[.ref p]) ((ns.take (i+1)).map List.range):=by
 rw [bC hn,map_append]
 exact (rg.same (aF.upd hp)).snoc (by rw [aD,rng_tv])
theorem Pi {K vs H Q E} (h:mH K vs H Q E):uU K { nx:=λ _ H'=>Q .non H',rt:=Q } (start Ez vs) H:=by
 obtain ⟨l,ns,rfl,hS,sz,q⟩:=h
 rw [show start Ez [V.ref l]=[some (.ref l)] from rfl]
 have n3:=sz.len
 (dsimp? [uU,bB,aZ])
 refine ⟨⟨_,hS⟩,bJ (K:=K) (a:=l) (xs:=tv ns) (λ i zs H3=>aF H H3/\Lg H3 zs ((ns.take i).map List.range)) ?_ ⟨aF.refl _,Lg.nil⟩ ?_ ?_ ?_⟩
 ·rw [cW];exact iE (by omega)
 ·rintro i ys H3 _ ⟨s3,_⟩
  exact s3.seq hS
 ·rintro i x ys H3 hi _ ⟨s3,rg⟩
  obtain ⟨n,hn,rfl⟩:=mR hi
  have n6:=sz.le n (mem_of_getElem? hn)
  (dsimp? [tT,bG,List.map_nil,Cj])
  exact ⟨n,rfl,by omega,λ p hp=>⟨s3.trans (aF.upd hp),Vl rg hn hp⟩⟩
 ·rintro ys H3 _ ⟨s3,rg⟩ p hp
  rw [cW,take_length] at rg
  have s4:aF H3 (upd H3 p (.lst ys)):=aF.upd hp
  refine ⟨p,ys,ns.map List.range,rfl,aD,rg.same s4,sz.ch,λ p' xs H' s5 hp' hP ps=>q p' xs H' ((s3.trans s4).trans s5) ((s3.trans s4).free hp') hP ?_⟩
  rw [Ob,List.map_reverse];exact ps
noncomputable def uF:List PySem.Str:=["cells", "plays", "hands", "play"]
noncomputable def hJ (K:W.Frag):Sp:=λ vs H Q _=>∃ c p kvs xs qs hands cont,vs=[.ref c,.ref p,.int (hands:Nat)]/\H c=some (.dT kvs)/\H p=some (.lst xs)/\Ps H xs qs/\(∀ q∈qs,zH H kvs cont q)/\(∀ q∈qs,(cont q).length=hands)/\kvs.length=qs.length/\Q .non H
noncomputable def Fu (c p:Addr) (hands:Nat) (H:Hp):Nat->St->Hp->Prop:=λ _ σ H3=>H3=H/\∃ o,σ=[some (.ref c),some (.ref p),some (.int hands),o]
noncomputable def iR (K:W.Frag):TS:=(cQ (bE (tOp rNe (tCB Zw (aC (aB 0) aK)) (tCB (eI K) (aC (aB 1) aK)))) dJ bS)
noncomputable def oF (K:W.Frag):TS:=(aP (cQ (tB (Kk (aB 3) (aB 0))) dJ bS) (cQ (bE (tOp rNe (tCB (eI K) (aC (Ck (aB 0) (aB 3)) aK)) (aB 2))) dJ bS))
noncomputable def nA (K:W.Frag):TS:=(aP (cV (aZ K (aB 1)) (aJ 3) (oF K)) (iR K))
theorem Be {K vs H Q E} (h:hJ K vs H Q E):vs.length=3:=by obtain ⟨c,p,kvs,xs,qs,hands,cont,rfl,_⟩:=h;rfl
theorem Fh {K vs H Q E} (h:hJ K vs H Q E):nA K { nx:=λ _ H'=>Q .non H',rt:=Q } (start uF vs) H:=by
 obtain ⟨c,p,kvs,xs,qs,hands,cont,rfl,hc,hp,ps,ok,oh,hl,q⟩:=h
 rw [show start uF [V.ref c,V.ref p,V.int hands]=[some (.ref c),some (.ref p),some (.int hands),none] from rfl]
 (dsimp? [nA,cV,aZ])
 refine ⟨⟨_,SqL.of hp⟩,eO (K:=K) (a:=p) (xs:=xs) (g:=aJ 3) (D:={ nx:=iR K _,rt:=Q }) (Fu c p hands H) ?_ ?_ ?_ ?_⟩
 ·exact ⟨rfl,none,rfl⟩
 ·rintro i σ H3 _ ⟨rfl,_⟩
  exact SqL.of hp
 ·rintro i x σ H3 hi ⟨rfl,o,rfl⟩
  obtain ⟨b,a,hb,rfl,ha⟩:=ps.get hi
  obtain ⟨l,hv,hL⟩:=ok b (mem_of_getElem? hb)
  have hvl:=oh b (mem_of_getElem? hb)
  have ht:H3 a=some (.tup ((tk b).map kV)):=by rw [Gv];exact ha
  (dsimp? [oF,Kk,Ck])
  refine ⟨_,Ci.t hc ht,?_⟩
  rw [hv]
  refine Jr ?_
  refine ⟨_,by rw [← hv];exact Ci.t hc ht,?_⟩
  exact ⟨l,rfl,_,.inl (SqL.of hL),iteNS (by rw [hvl]) ⟨rfl,_,rfl⟩⟩
 ·rintro σ H3 ⟨rfl,o,rfl⟩
  (dsimp? [iR,Zw])
  refine ⟨_,hc,_,.inl (SqL.of hp),?_⟩
  rw [hl,ps.1]
  refine iteNS rfl q
noncomputable def wT:List PySem.Str:=["self", "sizes", "cells", "plays", "play"]
noncomputable def uI (m d:Addr):List (Str×V):=cL "cells" (.ref d) (cL "many" (.ref m) [])
structure qJ (K:W.Frag) (H:Hp) (t:Addr) (ns:List Nat) (cont:List Nat->List V):Prop where
 ob:∃ dx m d kv,H t=some (.ins (aX K "Table") dx (uI m d))/\H m=some (.lst (tv ns))/\H d=some (.dT kv)/\∀ q∈cO ns.reverse,zH H kv cont q
noncomputable def jB (K:W.Frag):Sp:=λ vs H Q _=>∃ t dx s c ns kvs cont,vs=[.ref t,.ref s,.ref c]/\H t=some (.ins (aX K "Table") dx [])/\SqL K H s (tv ns)/\2<=ns.length/\Sz ns/\H c=some (.dT kvs)/\(∀ q∈cO ns.reverse,zH H kvs cont q)/\(∀ q∈cO ns.reverse,(cont q).length=ns.length)/\kvs.length=(cO ns.reverse).length /\
 ∀ H',Sb t H H'->qJ K H' t ns cont->Q .non H'
noncomputable def Go (K:W.Frag) (t dx s c p m d:Addr) (ns:List Nat) (cont:List Nat->List V) (H:Hp) (xs:List V):Nat->St->Hp->Prop:=λ i σ H3=>∃ kvs o,σ=[some (.ref t),some (.ref s),some (.ref c),some (.ref p),o]/\Sb t H H3/\H3 t=some (.ins (aX K "Table") dx (uI m d))/\H3 m=some (.lst (tv ns))/\H3 p=some (.lst xs)/\Ps H3 xs (cO ns.reverse) /\
 H d=none/\H3 d=some (.dT kvs)/\kvs.length<=i/\∀ q∈(cO ns.reverse).take i,zH H3 kvs cont q
noncomputable def qK (K:W.Frag):TS:=(zC (dC K (aB 0) "cells") (aB 4) (tCB (jG K) (aC (Ck (aB 2) (aB 4)) aK)))
noncomputable def qF (K:W.Frag):TS:=(aP (dN (aO (hE K) [] E0 (aC (aB 1) aK))) (aP (aV (aO (mH K) [] E0 (aC (aB 1) aK)) (aJ 3)) (aP (dN (aO (hJ K) [] E0 (aC (aB 2) (aC (aB 3) (aC (tCB (eI K) (aC (aB 1) aK)) aK))))) (aP (vE K (aB 0) (tCB (jG K) (aC (aB 1) aK)) "many") (aP (vE K (aB 0) uL "cells") (cV (aZ K (aB 3)) (aJ 4) (qK K)))))))
theorem Fr {K vs H Q E} (h:jB K vs H Q E):vs.length=3:=by obtain ⟨t,dx,s,c,ns,kvs,cont,rfl,_⟩:=h;rfl
theorem cm:¬ ("many" : Str)="cells":=by decide +kernel
theorem Ip (m d:Addr):(uI m d).lookup ("many" : Str)=some (.ref m):=by
 unfold uI
 rw [fC,if_neg cm,fC,if_pos rfl]
theorem Et (m d:Addr):(uI m d).lookup ("cells" : Str)=some (.ref d):=by
 unfold uI
 rw [fC,if_pos rfl]
theorem Ca (m d:Addr) {x:Str} (h1:¬ x="cells") (h2:¬ x="many"):(uI m d).lookup x=none:=by
 unfold uI
 rw [fC,if_neg h1,fC,if_neg h2]
 all_goals rfl
theorem Sb.keepT {t dx:Addr} {fs:List (Str×V)} (s:Sb t H H') (h:H t=some (.ins C dx fs)):Cl H H':=λ a xs e=>s a _ e (gM e h (by intro z;cases z))
theorem Sb.put {t:Addr} (s:Sb t H G) (h:H d=none):Sb t H (upd G d o):=λ b u e hb=>by rw [aR (bI e h)];exact s b u e hb
theorem Ga {K vs H Q E} (T:Zh K) (h:jB K vs H Q E):qF K { nx:=λ _ H'=>Q .non H',rt:=Q } (start wT vs) H:=by
 obtain ⟨t,dx,s,c,ns,kvs,cont,rfl,ht,hS,h2,sz,hc,ok,oh,hl,q⟩:=h
 rw [show start wT [V.ref t,V.ref s,V.ref c]=[some (.ref t),some (.ref s),some (.ref c),none,none] from rfl]
 (dsimp? [qF,dN,vE,uL,jG,cV,aZ])
 refine ⟨s,ns,rfl,hS,h2,sz,s,ns,rfl,hS,sz,λ p xs H1 s1 hp hP ps=>?_⟩
 refine ⟨_,.inl (s1.seq hS),?_⟩
 rw [cW]
 refine ⟨c,p,kvs,xs,cO ns.reverse,ns.length,cont,rfl,s1 _ _ hc,hP,ps,λ q hq=>(ok q hq).same s1,oh,hl,?_⟩
 refine ⟨_,.inl (s1.seq hS),λ m hm=>?_⟩
 have s2:aF H1 (upd H1 m (.lst (tv ns))):=aF.upd hm
 generalize e2:upd H1 m (.lst (tv ns))=H2 at s2
 have m2:H2 m=some (.lst (tv ns)):=by rw [← e2];exact aD
 have t2:H2 t=some (.ins (aX K "Table") dx []):=s2 _ _ (s1 _ _ ht)
 refine ⟨_,dx,[],t2,T.cl,T.nM,by show 0<1000;decide,λ d hd=>?_⟩
 have t3:(upd H2 t (.ins (aX K "Table") dx (cL "many" (.ref m) []))) t=some (.ins (aX K "Table") dx (cL "many" (.ref m) [])):=aD
 have ntd:t≠d:=bI t3 hd
 refine ⟨_,dx,_,(by rw [aR ntd];exact t3),T.cl,T.nC,by show 1<1000;decide,?_⟩
 have b1:Sb t H2 (upd (upd (upd H2 t (.ins (aX K "Table") dx (cL "many" (.ref m) []))) d (.dT [])) t (.ins (aX K "Table") dx (uI m d))):=(Sb.at.trans (Sb.of (aF.upd hd))).trans Sb.at
 have d5:(upd (upd (upd H2 t (.ins (aX K "Table") dx (cL "many" (.ref m) []))) d (.dT [])) t (.ins (aX K "Table") dx (uI m d))) d=some (.dT []):=by rw [aR ntd.symm];exact aD
 have t5:(upd (upd (upd H2 t (.ins (aX K "Table") dx (cL "many" (.ref m) []))) d (.dT [])) t (.ins (aX K "Table") dx (uI m d))) t=some (.ins (aX K "Table") dx (uI m d)):=aD
 have hd0:H d=none:=Sb.free ((Sb.of (s1.trans s2)).trans Sb.at) hd ntd.symm
 rw [show cL "cells" (V.ref d) (cL "many" (V.ref m) [])=uI m d from rfl]
 generalize (upd (upd (upd H2 t (.ins (aX K "Table") dx (cL "many" (.ref m) []))) d (.dT [])) t (.ins (aX K "Table") dx (uI m d)))=H5 at b1 d5 t5
 have b0:Sb t H H5:=(Sb.of (s1.trans s2)).trans b1
 have mt:m≠t:=gM m2 t2 (by intro z;cases z)
 have pt:p≠t:=gM (s2 _ _ hP) t2 (by intro z;cases z)
 have p5:H5 p=some (.lst xs):=b1 _ _ (s2 _ _ hP) pt
 have ps5:Ps H5 xs (cO ns.reverse):=(ps.same s2).keep (b1.keepT t2)
 have hnp:(cO ns.reverse).length<=216:=sz.rev.ord
 refine ⟨p,rfl,⟨_,SqL.of p5⟩,eO (K:=K) (a:=p) (xs:=xs) (g:=aJ 4) (D:={ nx:=λ _ H'=>Q .non H',rt:=Q }) (Go K t dx s c p m d ns cont H xs) ?_ ?_ ?_ ?_⟩
 ·exact ⟨[],none,rfl,b0,t5,b1 _ _ m2 mt,p5,ps5,hd0,d5,Nat.le_refl _,λ q hq=>(by simp at hq)⟩
 ·rintro i σ G _ ⟨_,_,_,_,_,_,hp,_⟩
  exact SqL.of hp
 ·rintro i x σ G hi ⟨kv,o,rfl,b3,tG,mG,pG,psG,hd,dG,hk,okG⟩
  obtain ⟨b,a,hb,rfl,ha⟩:=psG.get hi
  have hil:i<(cO ns.reverse).length:=(List.getElem?_eq_some_iff.mp hb).1
  obtain ⟨l,hv,hL⟩:=ok b (mem_of_getElem? hb)
  have cG:G c=some (.dT kvs):=b3 _ _ hc (gM hc ht (by intro z;cases z))
  have lG:G l=some (.lst (cont b)):=b3 _ _ hL (gM hL ht (by intro z;cases z))
  have aG:G a=some (.tup ((tk b).map kV)):=by rw [Gv];exact ha
  (dsimp? [qK,zC,Ck,dC,jG])
  refine ⟨_,by rw [← hv];exact Ci.t cG aG,?_⟩
  refine ⟨l,rfl,_,.inl (SqL.of lG),λ l' hl'=>?_⟩
  have s6:aF G (upd G l' (.lst (cont b))):=aF.upd hl'
  have d6:(upd G l' (.lst (cont b))) d=some (.dT kv):=s6 _ _ dG
  refine ⟨_,_,_,s6 _ _ tG,T.cl,T.nC,_,Et _ _,d,rfl,_,Qq.t d6 (s6 _ _ aG) (qV (by omega)),?_⟩
  refine ⟨_,_,rfl,(b3.trans (Sb.of s6)).put hd,?_,?_,?_,?_,hd,aD,?_,?_⟩
  ·rw [aR (gM (s6 _ _ tG) d6 (by intro z;cases z))];exact s6 _ _ tG
  ·rw [aR (gM (s6 _ _ mG) d6 (by intro z;cases z))];exact s6 _ _ mG
  ·rw [aR (gM (s6 _ _ pG) d6 (by intro z;cases z))];exact s6 _ _ pG
  ·exact (psG.same s6).keep λ b xs e=>by rw [aR (gM e d6 (by intro z;cases z))];exact e
  ·have:=rS kv (tk b) (V.ref l')
   omega
  ·intro q hq
   rw [bC hb] at hq
   have ne1:l'≠d:=gM aD d6 (by intro z;cases z)
   by_cases e:q=b
   ·subst e
    exact ⟨l',by rw [Ni,if_pos rfl],by rw [aR ne1];exact aD⟩
   ·have hq':q∈(cO ns.reverse).take i:=by
     rcases mem_append.mp hq with h | h
     ·exact h
     ·exact absurd (mem_singleton.mp h) e
    obtain ⟨l2,hv2,hL2⟩:=okG q hq'
    exact ⟨l2,by rw [Ni,if_neg (λ z=>e (Cp z))];exact hv2,by rw [aR (gM (s6 _ _ hL2) d6 (by intro z;cases z))];exact s6 _ _ hL2⟩
 ·rintro σ G ⟨kv,o,rfl,b3,tG,mG,_,_,_,dG,_,okG⟩
  rw [show xs.length=(cO ns.reverse).length from ps.1,take_length] at okG
  exact q G b3 ⟨dx,m,d,kv,tG,mG,dG,okG⟩
theorem qJ.same {K:W.Frag} {t:Addr} (h:qJ K H t ns cont) (s:aF H H'):qJ K H' t ns cont:=let ⟨dx,m,d,kv,h1,h2,h3,h4⟩:=h.ob;⟨dx,m,d,kv,s _ _ h1,s _ _ h2,s _ _ h3,λ q hq=>(h4 q hq).same s⟩
theorem qJ.ins {K:W.Frag} {t:Addr} (h:qJ K H t ns cont):∃ dx m d,H t=some (.ins (aX K "Table") dx (uI m d)):=let ⟨dx,m,d,_,h1,_⟩:=h.ob;⟨dx,m,d,h1⟩
noncomputable def Jn:List PySem.Str:=["_law_script", "_law_order_here", "_law_hands", "_law_found", "_law_k", "_law_cell"]
noncomputable def WT (H:Hp) (ps:List Addr) (u:Int) (n:Nat):Prop:=ps.length=n/\∀ (j:Nat) p,ps[j]?=some p->H p=some (.tup [.int (u+j),.int 1])
theorem WT.keep {u:Int} {n:Nat} (h:WT H ps u n) (k:Cl H H'):WT H' ps u n:=⟨h.1,λ j p e=>k _ _ (h.2 j p e)⟩
noncomputable def pO (K:W.Frag):Sp:=λ vs H Q _=>∃ sc ns o xs qs n,vs=[.ref sc,.ref o,.int (n:Nat)]/\SqL K H sc (List.map V.int ns)/\H o=some (.lst xs)/\Ps H xs qs/\qs.Nodup/\qs.length<=216/\n<=3 /\
 ∀ c kvs cont H',aF H H'->H' c=some (.dT kvs)->Kc H' kvs cont qs->(∀ q∈qs,∃ u ps,cont q=List.map V.ref ps/\-1000<=u/\u<=1000/\WT H' ps u n)->Q (.ref c) H'
noncomputable def Tq (sc o:Addr) (n:Nat) (H:Hp) (qs:List (List Nat)):Nat->St->Hp->Prop:=λ i σ H3=>∃ c kvs cont o1 o2,σ=[some (.ref sc),some (.ref o),some (.int n),some (.ref c),o1,o2]/\aF H H3/\H c=none/\H3 c=some (.dT kvs)/\Kc H3 kvs cont (qs.take i)/\∀ q∈qs.take i,∃ u ps,cont q=List.map V.ref ps/\-1000<=u/\u<=1000/\WT H3 ps u n
noncomputable def kP (K:W.Frag):TE:=(dS (aC (tOp gS (tOp nH (tOp jF (tOp gS (aB 1) (tOp cK (aB 2) (aB 2))) (tC (.int 2001))) (tC (.int 1000))) (aB 0)) (aC (tC (.int 1)) aK)))
noncomputable def qD (K:W.Frag):TS:=(aP (aV (aO (bZ K) [] E0 (aC (aB 0) (aC (tOp jF (aB 4) (tC (.int 63))) aK))) (aJ 5)) (zC (aB 3) (tOp (dD K) (aB 1) (aB 4)) (bB (eJ (aC (aB 2) aK)) [5,4] (kP K))))
noncomputable def xW (K:W.Frag):TS:=(aP (aV uL (aJ 3)) (aP (cV (eJ (aC (tCB (eI K) (aC (aB 1) aK)) aK)) (aJ 4) (qD K)) (aW (aB 3))))
theorem Qe {K vs H Q E} (h:pO K vs H Q E):vs.length=3:=by obtain ⟨l,ns,_,_,_,_,rfl,_⟩:=h;rfl
theorem Sf {K vs H Q E} (h:pO K vs H Q E):xW K { nx:=λ _ H'=>Q .non H',rt:=Q } (start Jn vs) H:=by
 obtain ⟨sc,ns,o,xs,qs,n,rfl,hS,hO,ps,nd,hq,hn,k⟩:=h
 rw [show start Jn [V.ref sc,V.ref o,V.int n]=[some (.ref sc),some (.ref o),some (.int n),none,none,none] from rfl]
 (dsimp? [xW,cV,eJ,uL])
 intro c hc
 have s1:aF H (upd H c (.dT [])):=aF.upd hc
 have el:=ps.1
 refine ⟨_,.inl (SqL.of (s1 _ _ hO)),?_⟩
 rw [el]
 refine ⟨by omega,by omega,yR (lo:=0) (g:=aJ 4) (D:={ nx:=aW (aB 3) { nx:=λ _ H'=>Q .non H',rt:=Q },rt:=Q }) (Tq sc o n H qs) ?_ ?_ ?_⟩
 ·exact ⟨c,[],λ _=>[],none,none,rfl,s1,hc,aD,⟨rfl,λ i q e=>(by simp at e)⟩,λ q h=>(by simp at h)⟩
 ·rintro i σ H3 hi ⟨c,kvs,cont,o1,o2,rfl,s3,hc,hC,kc,ok⟩
  have hi':i<qs.length:=by omega
  have hk:kvs.length=i:=by rw [kc.1,length_take];omega
  obtain ⟨b,a,hb,hx,ha⟩:=(ps.same s3).at hi'
  (dsimp? [qD,zC,bB,eJ];try simp_arith [qD,zC,bB,eJ,Int.zero_add])
  refine ⟨by decide,sc,ns,(i:Int) % 63,rfl,s3.seq hS,Int.emod_nonneg _ (by decide),?_⟩
  generalize ns.getD ((i:Int) % 63).toNat 0=z
  rw [Int.toNat_natCast]
  have w1:=Int.emod_nonneg (z+(i:Int)*i) (show (2001:Int)≠0 by decide)
  have w2:=Int.emod_lt_of_pos (z+(i:Int)*i) (show (0:Int)<2001 by decide)
  obtain ⟨u,eu⟩:∃ u,(z+(i:Int)*i) % 2001 - 1000=u:=⟨_,rfl⟩
  refine ⟨by omega,by omega,fB (W:=λ j zs H5=>aF H3 H5/\∃ ps,zs=List.map V.ref ps/\WT H5 ps u j) (iE (by omega)) ⟨aF.refl _,[],rfl,rfl,λ j p e=>by simp at e⟩ ?_ ?_⟩
  ·rintro j zs H5 hj _ ⟨s7,ps,rfl,pl,wt⟩
   show kP K [some (.int (0+j)),some (.int z),some (.int i)] H5 _
   (dsimp? [kP];try simp_arith [kP,Int.zero_add])
   refine ⟨.l (by unfold BB;omega),by decide,sz2,λ p hp=>⟨s7.trans (aF.upd hp),ps++[p],by rw [map_append];rfl,by rw [length_append,pl];rfl,λ j' p' e=>?_⟩⟩
   rcases Nv e with ⟨e,_⟩ | ⟨ej,rfl⟩
   ·exact aF.upd hp _ _ (wt j' p' e)
   ·rw [ej,pl,← eu];exact aD
  ·rintro zs H5 _ ⟨s7,ps,rfl,wt⟩ p hp
   have s8:aF H5 (upd H5 p (.lst (List.map V.ref ps))):=aF.upd hp
   have hcp:=s8 _ _ (s7 _ _ hC)
   have new:=kc.new nd hb
   have kp:Cl (upd H5 p (.lst (List.map V.ref ps))) (upd (upd H5 p (.lst (List.map V.ref ps))) c (.dT (oX kvs (tk b) (.ref p)))):=λ d xs e=>by rw [aR (gM e hcp (by intro z;cases z))];exact e
   have kl:∀ d xs,(upd H5 p (.lst (List.map V.ref ps))) d=some (.lst xs)->(upd (upd H5 p (.lst (List.map V.ref ps))) c (.dT (oX kvs (tk b) (.ref p)))) d=some (.lst xs):=λ d xs e=>by rw [aR (gM e hcp (by intro z;cases z))];exact e
   refine ⟨_,SqL.of (s8 _ _ (s7 _ _ (s3 _ _ hO))),_,cF hx,_,Qq.t (k:=tk b) hcp (s8 _ _ (s7 _ _ (by rw [Gv];exact ha))) (qV (by omega)),?_⟩
   obtain ⟨cont',c1,c2⟩:∃ cont':List Nat->List V,cont' b=List.map V.ref ps/\∀ q,q≠b->cont' q=cont q:=⟨λ q=>if q=b then List.map V.ref ps else cont q,if_pos rfl,λ q e=>if_neg e⟩
   have nb:∀ q∈qs.take i,q≠b:=λ q hq e=>Eo nd hb (e ▸ hq)
   refine ⟨c,_,cont',_,_,rfl,((s3.trans s7).trans s8).put hc,hc,aD,?_,?_⟩
   ·rw [jJj _ new] at kl ⊢
    exact (((kc.same (s7.trans s8)).cong λ q hq=>c2 q (nb q hq)).off kl).snoc hb (by rw [c1];exact kl _ _ aD)
   ·intro q hq
    rw [bC hb] at hq
    by_cases e:q=b
    ·subst e;exact ⟨u,ps,c1,by omega,by omega,(wt.keep (pT s8)).keep kp⟩
    ·have hq':q∈qs.take i:=by
      rcases mem_append.mp hq with h | h
      ·exact h
      ·exact absurd (mem_singleton.mp h) e
     obtain ⟨u',ps',e1,e2,e3,e4⟩:=ok q hq'
     exact ⟨u',ps',by rw [c2 q e];exact e1,e2,e3,(e4.keep (pT (s7.trans s8))).keep kp⟩
 ·rintro σ H3 ⟨c,kvs,cont,o1,o2,rfl,s3,hc,hC,kc,ok⟩
  (dsimp! [aB,tC,tOp,rI0,rNe,dI,aW,bE])
  rw [Int.toNat_natCast,take_length] at ok kc
  exact k c kvs cont H3 s3 hC kc ok
noncomputable def Oy:List PySem.Str:=["_law_sizes_here", "_law_number", "_law_found", "_law_size"]
noncomputable def sZ (K:W.Frag):Sp:=λ vs H Q _=>∃ l ns k,vs=[.ref l,.int (k:Nat)]/\SqL K H l (tv ns)/\Sz ns/\∀ p H',aF H H'->H' p=some (.tup (tv (Cg ns.reverse k)))->Q (.ref p) H'
noncomputable def Yh (l:Addr) (H:Hp) (ns:List Nat) (k:Nat):Nat->St->Hp->Prop:=λ i σ H3=>∃ n a x o,σ=[some (.ref l),some (.int (n:Nat)),some (.ref a),o]/\aF H H3/\H3 a=some (.tup (tv x))/\x.length=i/\Cg (ns.reverse.drop i) n++x=Cg ns.reverse k
noncomputable def zX (K:W.Frag):TS:=(aP (aV (tOp zE (dS (aC (tOp jF (aB 1) (aB 3)) aK)) (aB 2)) (aJ 2)) (aV (tOp gR (aB 1) (aB 3)) (aJ 1)))
noncomputable def Dd (K:W.Frag):TS:=(aP (aV (dS aK) (aJ 2)) (aP (cV (iRev K (aB 0)) (aJ 3) (zX K)) (aW (aB 2))))
theorem Tl {K vs H Q E} (h:sZ K vs H Q E):vs.length=2:=by obtain ⟨l,ns,k,rfl,_⟩:=h;rfl
theorem Xe {K vs H Q E} (h:sZ K vs H Q E):Dd K { nx:=λ _ H'=>Q .non H',rt:=Q } (start Oy vs) H:=by
 obtain ⟨l,ns,k,rfl,hS,sz,q⟩:=h
 rw [show start Oy [V.ref l,V.int k]=[some (.ref l),some (.int k),none,none] from rfl]
 (dsimp? [Dd,cV,iRev])
 refine ⟨sz0,λ a ha=>?_⟩
 have s1:aF H (upd H a (.tup [])):=aF.upd ha
 refine ⟨_,s1.seq hS,for_rev (K:=K) (a:=l) (xs:=tv ns) (g:=aJ 3) (D:={ nx:=aW (aB 2) { nx:=λ _ H'=>Q .non H',rt:=Q },rt:=Q }) (Yh l H ns k) ?_ ?_ ?_ ?_⟩
 ·exact ⟨k,a,[],none,rfl,s1,aD,rfl,by simp⟩
 ·rintro i σ H3 _ ⟨_,_,_,_,_,s3,_⟩
  exact s3.seq hS
 ·rintro i x σ H3 hil hi ⟨n,a,x,o,rfl,s3,hA,hx,e⟩
  obtain ⟨m,hm,rfl⟩:=mR hi
  rw [cW] at hm hil
  have m1:=sz.ge m (mem_of_getElem? hm)
  have m6:=sz.le m (mem_of_getElem? hm)
  have h3:=sz.len
  (dsimp? [zX,zE])
  refine ⟨by omega,sz1,λ p hp=>⟨_,aD,_,(aF.upd hp) _ _ hA,?_,λ p1 H4 s4 h4=>⟨⟨by omega,(bb6 m6).mono (by decide)⟩,?_⟩⟩⟩
  ·rw [cW]
   exact iE (by show 1+_<=_;omega)
  ·refine ⟨n / m,p1,(n % m)::x,some (.int m),?_,s3.trans ((aF.upd hp).trans s4),?_,by rw [List.length_cons,hx],?_⟩
   ·rw [Int.fdiv_eq_ediv_of_nonneg _ (by omega)]
    rfl
   ·rw [h4]
    rfl
   ·rw [Ml (l:=ns.reverse) (i:=i) (x:=m) (by rw [List.getElem?_reverse hil];exact hm)] at e
    rw [← e]
    show _=(Cg (ns.reverse.drop (i+1)) (n / m)++[n % m])++x
    rw [List.append_assoc]
    rfl
 ·rintro σ H3 ⟨n,a,x,o,rfl,s3,hA,hx,e⟩
  (dsimp! [aB,tC,tOp,rI0,rNe,dI,aW,bE])
  rw [cW,List.drop_eq_nil_of_le (by rw [List.length_reverse];exact Nat.le_refl _)] at e
  exact q a H3 s3 (by rw [hA,← e];rfl)
noncomputable def Jm:List PySem.Str:=["_law_sizes_here", "_law_many", "_law_size"]
noncomputable def pN (K:W.Frag):Sp:=λ vs H Q _=>∃ l ns,vs=[.ref l]/\SqL K H l (tv ns)/\Sz ns/\∀ p xs H',aF H H'->H p=none->H' p=some (.lst xs)->Ps H' xs (cO ns.reverse)->Q (.ref p) H'
noncomputable def Tp (l:Addr) (H:Hp) (ns:List Nat):Nat->St->Hp->Prop:=λ i σ H3=>H3=H/\∃ o,σ=[some (.ref l),some (.int (kZ (ns.take i).reverse:Nat)),o]
noncomputable def kO (K:W.Frag):TE:=(aO (sZ K) [] E0 (aC (aB 1) (aC (aB 0) aK)))
noncomputable def qC (K:W.Frag):TS:=(aW (bB (eJ (aC (aB 1) aK)) [0] (kO K)))
noncomputable def wM (K:W.Frag):TS:=(aV (tOp cK (aB 1) (aB 2)) (aJ 1))
noncomputable def xV (K:W.Frag):TS:=(aP (aV (tC (.int 1)) (aJ 1)) (aP (cV (aZ K (aB 0)) (aJ 2) (wM K)) (qC K)))
theorem Qd {K vs H Q E} (h:pN K vs H Q E):vs.length=1:=by obtain ⟨l,ns,rfl,_⟩:=h;rfl
theorem Se {K vs H Q E} (h:pN K vs H Q E):xV K { nx:=λ _ H'=>Q .non H',rt:=Q } (start Jm vs) H:=by
 obtain ⟨l,ns,rfl,hS,sz,q⟩:=h
 rw [show start Jm [V.ref l]=[some (.ref l),none,none] from rfl]
 (dsimp? [xV,cV,aZ])
 refine ⟨⟨_,hS⟩,eO (K:=K) (a:=l) (xs:=tv ns) (g:=aJ 2) (D:={ nx:=qC K _,rt:=Q }) (Tp l H ns) ?_ ?_ ?_ ?_⟩
 ·exact ⟨rfl,none,rfl⟩
 ·rintro i σ H3 _ ⟨rfl,_⟩
  exact hS
 ·rintro i x σ H3 hi ⟨rfl,o,rfl⟩
  obtain ⟨n,hn,rfl⟩:=mR hi
  have n6:=sz.le n (mem_of_getElem? hn)
  (dsimp? [wM])
  refine ⟨.r ((bb6 n6).mono (by decide)),rfl,some (.int n),?_⟩
  rw [bC hn,List.reverse_append]
  show _=[some (V.ref l),some (V.int ((kZ (ns.take i).reverse*n:Nat):Int)),_]
  rw [Int.natCast_mul]
 ·rintro σ H3 ⟨rfl,o,rfl⟩
  rw [cW,take_length]
  (dsimp? [qC,bB,eJ])
  have hm:=sz.rev.many
  rw [Int.toNat_natCast]
  refine ⟨by omega,by omega,fB (W:=λ k zs H5=>aF H3 H5/\Ps H5 zs ((List.range k).map (Cg ns.reverse))) (iE hm) ⟨aF.refl _,Ps.nil⟩ ?_ ?_⟩
  ·rintro k zs H5 hk _ ⟨s7,pz⟩
   show kO K [some (.int (0+k)),some (.ref l)] H5 _
   (dsimp? [kO];try simp_arith [kO,Int.zero_add])
   refine ⟨l,ns,k,rfl,s7.seq hS,sz,λ p H6 s8 hp=>⟨s7.trans s8,?_⟩⟩
   rw [List.range_succ,map_append]
   exact (pz.same s8).app (Ps.one hp)
  ·rintro zs H5 hz ⟨s7,pz⟩ p hp
   refine q p zs _ (s7.trans (aF.upd hp)) (s7.free hp) aD ?_
   rw [Kv _ sz.rev.ge]
   exact pz.same (aF.upd hp)
noncomputable def Jl:List PySem.Str:=["_law_script", "_law_sizes_here", "_law_pairs_here", "_law_hand", "_law_choice", "_law_found"]
noncomputable def pM (K:W.Frag):Sp:=λ vs H Q _=>∃ a b ns ms,vs=[.ref a,.ref b]/\SqL K H a (List.map V.int ns)/\H b=some (.lst (tv ms))/\ms.length<=3/\(∀ n∈ms,1<=n/\n<=3)/\∀ p ls qs H',aF H H'->H' p=some (.lst (List.map V.ref ls))->PrA H' ls qs->qs.Perm (prs ms)->Q (.ref p) H'
noncomputable def pU (a b p:Addr) (H:Hp) (o3:Option V) (rs:Nat->List (Int×Int)):Nat->St->Hp->Prop:=λ i σ H3=>∃ ls o1 o2,σ=[some (.ref a),some (.ref b),some (.ref p),o1,o2,none]/\(o3=none∨o1=o3)/\aF H H3/\H3 p=some (.lst (List.map V.ref ls))/\PrA H3 ls (rs i)
noncomputable def Ea (a b p f:Addr) (ms:List Nat) (H:Hp):Nat->St->Hp->Prop:=λ m σ H3=>∃ ls gs qs rs o1 o2,σ=[some (.ref a),some (.ref b),some (.ref p),o1,o2,some (.ref f)]/\aF H H3/\H3 p=some (.lst (List.map V.ref ls))/\H3 f=some (.lst (List.map V.ref gs))/\PrA H3 ls qs/\PrA H3 gs rs/\m=ls.length/\(rs++qs).Perm (prs ms)
noncomputable def wL (K:W.Frag):TS:=(dN (tBM K "list" iX (aB 5) (aC (tBM K "list" Cq (aB 2) (aC (tOp jF (aO (bZ K) [] E0 (aC (aB 0) (aC (tOp gS (tC (.int 10)) (tCB (eI K) (aC (aB 5) aK))) aK))) (tCB (eI K) (aC (aB 2) aK))) aK)) aK)))
noncomputable def wK (K:W.Frag):TS:=(aP (pA (bE (tOp (Mo K 0) (aB 2) (lU aK))) (wL K)) (aW (aB 5)))
noncomputable def kN (K:W.Frag):TS:=(aP (aV (lU aK) (aJ 5)) (wK K))
noncomputable def qB (K:W.Frag):TS:=(dN (tBM K "list" iX (aB 2) (aC (dS (aC (aB 3) (aC (aB 4) aK))) aK)))
noncomputable def qA (K:W.Frag):TS:=(cV (eJ (aC (tOp (dD K) (aB 1) (aB 3)) aK)) (aJ 4) (qB K))
noncomputable def wJ (K:W.Frag):TS:=(aP (cV (eJ (aC (tCB (eI K) (aC (aB 1) aK)) aK)) (aJ 3) (qA K)) (kN K))
noncomputable def xU (K:W.Frag):TS:=(aP (aV (lU aK) (aJ 2)) (wJ K))
theorem Qc {K vs H Q E} (h:pM K vs H Q E):vs.length=2:=by obtain ⟨_,_,_,_,rfl,_⟩:=h;rfl
theorem Sd {K vs H Q E} (h:pM K vs H Q E):xU K { nx:=λ _ H'=>Q .non H',rt:=Q } (start Jl vs) H:=by
 obtain ⟨a,b,ns,ms,rfl,hS,hb,m3,hm,q⟩:=h
 rw [show start Jl [V.ref a,V.ref b]=[some (.ref a),some (.ref b),none,none,none,none] from rfl]
 have h6:∀ n∈ms,n<=6:=λ n hn=>by have:=hm n hn;omega
 (dsimp? [xU])
 refine ⟨sz0,λ p hp=>?_⟩
 have s1:=aF.upd (o:=HO.lst []) hp
 (dsimp? [wJ,cV,eJ])
 refine ⟨_,.inl (SqL.of (s1 _ _ hb)),?_⟩
 rw [cW,Int.toNat_natCast]
 refine ⟨by omega,by omega,yR (lo:=0) (g:=aJ 3) (D:={ nx:=kN K { nx:=λ _ H'=>Q .non H',rt:=Q },rt:=Q }) (pU a b p H none (prK ms)) ?_ ?_ ?_⟩
 ·exact ⟨[],_,_,rfl,.inl rfl,s1,aD,PrA.nil⟩
 ·rintro i σ H3 hi ⟨ls,o1,o2,rfl,_,s3,hP,pa⟩
  have hi':i<ms.length:=by omega
  obtain ⟨n,hn⟩:∃ n,ms[i]?=some n:=⟨_,getElem?_eq_getElem hi'⟩
  have pl:=Bu h6 i
  (dsimp? [qA,cV,eJ];try simp_arith [qA,cV,eJ,Int.zero_add])
  refine ⟨_,SqL.of (s3 _ _ hb),_,cF (Mw hn),_,rfl,?_⟩
  have:=hm n (mem_of_getElem? hn)
  rw [Int.toNat_natCast]
  refine ⟨by omega,by omega,yR (lo:=0) (g:=aJ 4) (D:={ nx:=pU a b p H none (prK ms) (i+1),rt:=Q,ct:=pU a b p H none (prK ms) (i+1),bk:=kN K { nx:=λ _ H'=>Q .non H',rt:=Q } }) (pU a b p H (some (.int i)) λ j=>prK ms i++(List.range j).map λ c:Nat=>((i:Int),(c:Int))) ?_ ?_ ?_⟩
  ·exact ⟨ls,_,_,rfl,.inr rfl,s3,hP,by show PrA H3 ls (prK ms i++[]);rw [List.append_nil];exact pa⟩
  ·rintro j σ H4 hj ⟨ls,o1,o2,rfl,o3,s4,hP,pb⟩
   obtain rfl:=o3.resolve_left (by simp)
   (dsimp? [qB,dN,tBM,iX];try simp_arith [qB,dN,tBM,iX,Int.zero_add])
   have l1:=pb.len
   rw [length_append,length_map,List.length_range] at l1
   refine ⟨.inl ⟨rfl,_,SqL.of hP⟩,sz2,λ c hc=>⟨_,aF.upd hc _ _ hP,by rw [length_map];exact qV (by omega),ls++[c],_,_,rfl,.inr rfl,(s4.trans (aF.upd hc)).put hp,by rw [aD,map_append];rfl,?_⟩⟩
   show PrA _ _ (prK ms i++(List.range (j+1)).map λ c:Nat=>((i:Int),(c:Int)))
   rw [List.range_succ,map_append,← List.append_assoc]
   exact ((pb.same (aF.upd hc)).app (PrA.one aD)).off (aF.upd hc _ _ hP)
  ·rintro σ H4 ⟨ls,o1,o2,rfl,o3,s4,hP,pb⟩
   refine ⟨ls,_,_,rfl,.inl rfl,s4,hP,?_⟩
   rw [Dj,show ms.getD i 0=n by rw [getD_eq_getElem?_getD,hn];rfl]
   exact pb
 ·rintro σ H3 ⟨ls,o1,o2,rfl,_,s3,hP,pa⟩
  (dsimp? [kN,wK,Mo])
  refine ⟨sz0,λ f hf=>?_⟩
  have hP0:=hP
  refine ⟨Ea a b p f ms H,⟨_,ls,[],_,[],_,_,rfl,s3.trans (aF.upd hf),aF.upd hf _ _ hP,aD,pa.same (aF.upd hf),PrA.nil,rfl,.refl _⟩,?_⟩
  rintro m σ H4 ⟨ls,gs,qs,rs,o1,o2,rfl,s4,hP,hF,pq,pr,rfl,pm⟩
  have hpf:p≠f:=λ e=>by rw [e] at hP0;rw [hP0] at hf;cases hf
  (dsimp? [Mo])
  refine ⟨sz0,λ e he=>?_⟩
  have s5:=aF.upd (o:=HO.lst []) he
  have fl:=pm.length_eq
  have l1:=pq.len
  have l2:=pr.len
  have pl:(prs ms).length<=6*ms.length:=Bu h6 ms.length
  rw [length_append] at fl
  by_cases hz:ls=[]
  ·subst hz
   refine ⟨true,REq.refs (ps:=[]) (SqL.of (s5 _ _ hP)) (SqL.of aD),Jr ?_⟩
   (dsimp! [aB,aW])
   obtain rfl:qs=[]:=by simpa using pq.eq
   rw [List.append_nil] at pm
   exact q f gs rs _ (s4.trans s5) (s5 _ _ hF) (pr.same s5) pm
  ·refine ⟨false,⟨p,e,_,_,rfl,rfl,.inl ⟨SqL.of (s5 _ _ hP),SqL.of aD,.inl ⟨by simpa using hz,rfl⟩⟩⟩,Ze ?_⟩
   refine ⟨λ σ' H'=>∃ m',m'<ls.length/\Ea a b p f ms H m' σ' H',λ _ _ h=>h,?_⟩
   have lz:=List.length_pos_iff.mpr hz
   (dsimp? [wL,dN,tBM,iX,Cq])
   refine ⟨.inl ⟨rfl,_,SqL.of (s5 _ _ hF)⟩,.inl ⟨rfl,_,SqL.of (s5 _ _ hP)⟩,_,.inl (SqL.of (s5 _ _ hF)),a,ns,_,rfl,(s4.trans s5).seq hS,by omega,_,.inl (SqL.of (s5 _ _ hP)),_,rfl,?_⟩
   generalize ns.getD _ 0=z
   rw [length_map]
   have e1:=Int.emod_nonneg z (show (ls.length:Int)≠0 by omega)
   have e2:=Int.emod_lt_of_pos z (show (0:Int)<ls.length by omega)
   obtain ⟨k,hk⟩:∃ k:Nat,z % (ls.length:Int)=k:=⟨(z % ls.length).toNat,by omega⟩
   rw [hk] at e1 e2 ⊢
   have hkl:k<ls.length:=by omega
   obtain ⟨y,hy⟩:∃ y,ls[k]?=some y:=⟨_,getElem?_eq_getElem hkl⟩
   obtain ⟨u,v,eq,hl⟩:=pq.at hy
   have hF':(upd (upd H4 e (.lst [])) p (.lst ((List.map V.ref ls).eraseIdx k))) f=some (.lst (List.map V.ref gs)):=by rw [aR hpf.symm];exact s5 _ _ hF
   refine ⟨by omega,_,s5 _ _ hP,by omega,by omega,k,seqI (by rw [length_map];exact hkl),_,by rw [getElem?_map,hy];rfl,_,hF',by rw [length_map];exact qV (by omega),(ls.eraseIdx k).length,?_,ls.eraseIdx k,gs++[y],qs.eraseIdx k,rs++[(u,v)],_,_,rfl,((s4.trans s5).put hp).put (s3.free hf),?_,?_,?_,?_,rfl,?_⟩
   ·have:=(lI hy).length_eq
    rw [List.length_cons] at this
    omega
   ·rw [aR hpf,aD,Eu]
   ·rw [aD,map_append];rfl
   ·exact (((pq.same s5).off (s5 _ _ hP)).off hF').erase k
   ·exact (((pr.same s5).off (s5 _ _ hP)).off hF').app (PrA.one ((fP hF') _ _ ((fP (s5 _ _ hP)) _ _ (s5 _ _ hl))))
   ·rw [List.append_assoc]
    exact ((lI eq).append_left rs).trans pm
noncomputable def Ag:List PySem.Str:=["_law_script", "_law_sizes_here", "_law_hand", "_law_way"]
noncomputable def fQ (K:W.Frag):Sp:=λ vs H Q _=>∃ a b ns ms,vs=[.ref a,.ref b]/\SqL K H a (List.map V.int ns)/\H b=some (.lst (tv ms))/\ms.length<=3/\2<=ms.length/\(∀ n∈ms,1<=n/\n<=3)/\∀ l (x y:Int) H',aF H H'->H' l=some (.tup [.int x,.int y])->(x,y)∉prs ms->-500<y->y<500->Q (.ref l) H'
noncomputable def rW (K:W.Frag):TS:=(aW (tOp (dD K) (lU (aC (dS (aC (aB 2) (aC (tOp (dD K) (aB 1) (aB 2)) aK))) (aC (dS (aC (aB 2) (aC (tUn fZ (tC (.int 1))) aK))) (aC (dS (aC (tCB (eI K) (aC (aB 1) aK)) (aC (tC (.int 0)) aK))) (aC (dS (aC (tUn fZ (tC (.int 1))) (aC (tC (.int 0)) aK))) aK))))) (aB 3)))
noncomputable def rV (K:W.Frag):TS:=(aP (aV (tOp jF (aO (bZ K) [] E0 (aC (aB 0) (aC (tC (.int 7)) aK))) (tC (.int 4))) (aJ 3)) (rW K))
noncomputable def rK (K:W.Frag):TS:=(aP (aV (tOp jF (aO (bZ K) [] E0 (aC (aB 0) (aC (tC (.int 6)) aK))) (tCB (eI K) (aC (aB 1) aK))) (aJ 2)) (rV K))
theorem Ge {K vs H Q E} (h:fQ K vs H Q E):vs.length=2:=by obtain ⟨_,_,_,_,rfl,_⟩:=h;rfl
theorem Lk {K vs H Q E} (h:fQ K vs H Q E):rK K { nx:=λ _ H'=>Q .non H',rt:=Q } (start Ag vs) H:=by
 obtain ⟨a,b,ns,ms,rfl,hS,hb,m3,m2,hm,q⟩:=h
 rw [show start Ag [V.ref a,V.ref b]=[some (.ref a),some (.ref b),none,none] from rfl]
 (dsimp? [rK])
 refine ⟨a,ns,6,rfl,hS,by decide,_,.inl (SqL.of hb),_,rfl,?_⟩
 generalize ns.getD _ 0=z
 rw [cW]
 have e1:=Int.emod_nonneg z (show (ms.length:Int)≠0 by omega)
 have e2:=Int.emod_lt_of_pos z (show (0:Int)<ms.length by omega)
 obtain ⟨h,hh⟩:∃ h:Nat,z % (ms.length:Int)=h:=⟨(z % ms.length).toNat,by omega⟩
 rw [hh] at e1 e2 ⊢
 obtain ⟨n,hn⟩:∃ n,ms[h]?=some n:=⟨_,getElem?_eq_getElem (by omega)⟩
 have n3:=hm n (mem_of_getElem? hn)
 refine ⟨by omega,?_⟩
 (dsimp? [rV])
 refine ⟨a,ns,7,rfl,hS,by decide,_,rfl,by decide,?_⟩
 generalize ns.getD _ 0=y
 have y1:=Int.emod_nonneg y (show (4:Int)≠0 by decide)
 have y2:=Int.emod_lt_of_pos y (show (0:Int)<4 by decide)
 generalize y % 4=w at y1 y2
 (dsimp? [rW,fZ,rU])
 refine ⟨_,SqL.of hb,_,cF (Mw hn),sz2,λ p0 h0=>?_⟩
 have s0:=aF.upd (o:=HO.tup [.int h,.int n]) h0
 refine ⟨sz2,λ p1 h1=>?_⟩
 have s1:=aF.upd (o:=HO.tup [.int h,.int (-1)]) h1
 refine ⟨_,.inl (SqL.of (s1 _ _ (s0 _ _ hb))),sz2,λ p2 h2=>?_⟩
 rw [cW]
 have s2:=aF.upd (o:=HO.tup [.int ms.length,.int 0]) h2
 refine ⟨sz2,λ p3 h3=>?_⟩
 have s3:=aF.upd (o:=HO.tup [.int (-1),.int 0]) h3
 refine ⟨by show 4<=sizeLine;decide,λ p4 h4=>⟨_,SqL.of aD,?_⟩⟩
 have s4:=aF.upd (o:=HO.lst [.ref p0,.ref p1,.ref p2,.ref p3]) h4
 have S:=s0.trans (s1.trans (s2.trans (s3.trans s4)))
 rcases (show w=0∨w=1∨w=2∨w=3 by omega) with e | e | e | e <;> subst e
 ·refine ⟨_,kX,q p0 h n _ S (s4 _ _ (s3 _ _ (s2 _ _ (s1 _ _ aD)))) (λ z=>?_) (by omega) (by omega)⟩
  obtain ⟨h',c,n',e1,e2,e3,e4⟩:=sS.mp z
  obtain rfl:h=h':=by omega
  rw [hn] at e3
  cases e3
  omega
 ·refine ⟨_,gQ,q p1 h (-1) _ S (s4 _ _ (s3 _ _ (s2 _ _ aD))) (λ z=>?_) (by omega) (by omega)⟩
  obtain ⟨h',c,n',e1,e2,e3,e4⟩:=sS.mp z
  omega
 ·refine ⟨_,atI2,q p2 ms.length 0 _ S (s4 _ _ (s3 _ _ aD)) (λ z=>?_) (by omega) (by omega)⟩
  obtain ⟨h',c,n',e1,e2,e3,e4⟩:=sS.mp z
  have:=(List.getElem?_eq_some_iff.mp e3).1
  omega
 ·refine ⟨.ref p3,rfl,q p3 (-1) 0 _ S (s4 _ _ aD) (λ z=>?_) (by omega) (by omega)⟩
  obtain ⟨h',c,n',e1,e2,e3,e4⟩:=sS.mp z
  omega
noncomputable def Ah:List PySem.Str:=["_law_script", "_law_sizes_here", "_law_order_here", "_law_way", "_law_at", "_law_other", "_law_found"]
structure BadO (ms:List Nat) (qs:List (Int×Int)):Prop where
 no:¬ qs.Perm (prs ms)
 lo:∀ q∈qs,-500<q.2/\q.2<500
 le:qs.length<=10
noncomputable def kR (K:W.Frag):Sp:=λ vs H Q _=>∃ a b o ns ms ls qs,vs=[.ref a,.ref b,.ref o]/\SqL K H a (List.map V.int ns)/\H b=some (.lst (tv ms))/\ms.length<=3/\2<=ms.length/\(∀ n∈ms,1<=n/\n<=3)/\H o=some (.lst (List.map V.ref ls))/\PrA H ls qs/\qs.Perm (prs ms) /\
 ∀ p ls' qs' H',aF H H'->H' p=some (.lst (List.map V.ref ls'))->PrA H' ls' qs'->BadO ms qs'->Q (.ref p) H'
noncomputable def fH (K:W.Frag):TS:=(aP (cQ (bE (tOp rEq (aB 3) (tC (.int 5)))) (dN (Yw K "list" Rb (aB 6))) bS) (aW (aB 6)))
noncomputable def fG (K:W.Frag):TS:=(aP (cQ (bE (tOp rEq (aB 3) (tC (.int 4)))) (dN (tBM K "list" vM (aB 6) (aC (aB 4) (aC (aO (fQ K) [] E0 (aC (aB 0) (aC (aB 1) aK))) aK)))) bS) (fH K))
noncomputable def fF (K:W.Frag):TS:=(aP (cQ (bE (tOp rEq (aB 3) (tC (.int 3)))) (aV (aO (fQ K) [] E0 (aC (aB 0) (aC (aB 1) aK))) (An (aB 6) (aB 4) qH)) bS) (fG K))
noncomputable def fE (K:W.Frag):TS:=(aP (cQ (bE (tOp rEq (aB 3) (tC (.int 2)))) (aV (tOp (dD K) (aB 2) (aB 5)) (An (aB 6) (aB 4) qH)) bS) (fF K))
noncomputable def fD (K:W.Frag):TS:=(aP (cQ (bE (tOp rEq (aB 3) (tC (.int 1)))) (dN (tBM K "list" vM (aB 6) (aC (aB 4) (aC (tOp (dD K) (aB 2) (aB 5)) aK)))) bS) (fE K))
noncomputable def gW (K:W.Frag):TS:=(aP (cQ (bE (tOp rEq (aB 3) (tC (.int 0)))) (dN (tBM K "list" Cq (aB 6) (aC (aB 4) aK))) bS) (fD K))
noncomputable def sB (K:W.Frag):TS:=(aP (aV (tCB (jG K) (aC (aB 2) aK)) (aJ 6)) (gW K))
noncomputable def rZ (K:W.Frag):TS:=(aP (aV (tOp jF (tOp gS (tOp gS (aB 4) (tC (.int 1))) (tOp jF (aO (bZ K) [] E0 (aC (aB 0) (aC (tC (.int 8)) aK))) (tOp nH (tCB (eI K) (aC (aB 2) aK)) (tC (.int 1))))) (tCB (eI K) (aC (aB 2) aK))) (aJ 5)) (sB K))
noncomputable def rY (K:W.Frag):TS:=(aP (aV (tOp jF (aO (bZ K) [] E0 (aC (aB 0) (aC (tC (.int 5)) aK))) (tCB (eI K) (aC (aB 2) aK))) (aJ 4)) (rZ K))
noncomputable def rL (K:W.Frag):TS:=(aP (aV (tOp jF (aO (bZ K) [] E0 (aC (aB 0) (aC (tC (.int 4)) aK))) (tC (.int 6))) (aJ 3)) (rY K))
theorem Gf {K vs H Q E} (h:kR K vs H Q E):vs.length=3:=by obtain ⟨_,_,_,_,_,_,_,rfl,_⟩:=h;rfl
section
variable {K:W.Frag} {D:xD} {G:Hp} {x y z:V} {w i j:Int} {f:Addr}
noncomputable abbrev spS (x y z:V) (w i j:Int) (f:Addr):St:=[some x,some y,some z,some (.int w),some (.int i),some (.int j),some (.ref f)]
theorem Zd (n:w≠5) (h:D.rt (.ref f) G):fH K D (spS x y z w i j f) G:=by
 (dsimp? [fH]);rw [if_neg n];exact h
theorem Zc (n:w≠4) (h:fH K D (spS x y z w i j f) G):fG K D (spS x y z w i j f) G:=by
 (dsimp? [fG]);rw [if_neg n];exact h
theorem Zb (n:w≠3) (h:fG K D (spS x y z w i j f) G):fF K D (spS x y z w i j f) G:=by
 (dsimp? [fF]);rw [if_neg n];exact h
theorem Za (n:w≠2) (h:fF K D (spS x y z w i j f) G):fE K D (spS x y z w i j f) G:=by
 (dsimp? [fE]);rw [if_neg n];exact h
theorem Yz (n:w≠1) (h:fE K D (spS x y z w i j f) G):fD K D (spS x y z w i j f) G:=by
 (dsimp? [fD]);rw [if_neg n];exact h
theorem Yy (n:w≠0) (h:fD K D (spS x y z w i j f) G):gW K D (spS x y z w i j f) G:=by
 (dsimp? [gW]);rw [if_neg n];exact h
end
theorem Ll {K vs H Q E} (h:kR K vs H Q E):rL K { nx:=λ _ H'=>Q .non H',rt:=Q } (start Ah vs) H:=by
 obtain ⟨a,b,o,ns,ms,ls,qs,rfl,hS,hb,m3,m2,hm,ho,pa,pm,q⟩:=h
 rw [show start Ah [V.ref a,V.ref b,V.ref o]=[some (.ref a),some (.ref b),some (.ref o),none,none,none,none] from rfl]
 obtain ⟨st,p2,p9⟩:=yI m3 m2 hm
 have nd:=Xg st
 have lo:∀ q∈qs,-500<q.2/\q.2<500:=λ q h=>Kq hm q (pm.mem_iff.mp h)
 have ql:=pm.length_eq
 have ll:=pa.len
 have hl2:2<=ls.length:=by omega
 (dsimp? [rL])
 refine ⟨a,ns,4,rfl,hS,by decide,_,rfl,by decide,?_⟩
 generalize ns.getD _ 0=y
 have y1:=Int.emod_nonneg y (show (6:Int)≠0 by decide)
 have y2:=Int.emod_lt_of_pos y (show (0:Int)<6 by decide)
 generalize y % 6=w at y1 y2
 (dsimp? [rY])
 refine ⟨a,ns,5,rfl,hS,by decide,_,.inl (SqL.of ho),_,rfl,?_⟩
 generalize ns.getD _ 0=z
 rw [length_map]
 have e1:=Int.emod_nonneg z (show (ls.length:Int)≠0 by omega)
 have e2:=Int.emod_lt_of_pos z (show (0:Int)<ls.length by omega)
 obtain ⟨i,hi⟩:∃ i:Nat,z % (ls.length:Int)=i:=⟨(z % ls.length).toNat,by omega⟩
 rw [hi] at e1 e2 ⊢
 refine ⟨by omega,?_⟩
 (dsimp? [rZ])
 refine ⟨a,ns,8,rfl,hS,by decide,_,.inl (SqL.of ho),_,rfl,?_⟩
 generalize ns.getD _ 0=u
 rw [length_map]
 have u1:=Int.emod_nonneg u (show (ls.length:Int) - 1≠0 by omega)
 have u2:=Int.emod_lt_of_pos u (show (0:Int)<(ls.length:Int) - 1 by omega)
 generalize u % ((ls.length:Int) - 1)=v at u1 u2
 refine ⟨by omega,_,.inl (SqL.of ho),by rw [length_map];omega,?_⟩
 rw [length_map]
 obtain ⟨j,hj,jl,ij⟩:∃ j:Nat,((i:Int)+1+v) % (ls.length:Int)=j/\j<ls.length/\i≠j:=by
  have v1:=Int.emod_nonneg ((i:Int)+1+v) (show (ls.length:Int)≠0 by omega)
  have v2:=Int.emod_lt_of_pos ((i:Int)+1+v) (show (0:Int)<ls.length by omega)
  refine ⟨(((i:Int)+1+v) % (ls.length:Int)).toNat,by omega,by omega,λ z=>?_⟩
  by_cases c:(i:Int)+1+v<ls.length
  ·rw [Int.emod_eq_of_lt (by omega) c] at z;omega
  ·rw [show (i:Int)+1+v=((i:Int)+1+v - ls.length)+ls.length by omega,Int.add_emod_right,Int.emod_eq_of_lt (by omega) (by omega)] at z;omega
 rw [hj]
 (dsimp? [sB,jG])
 refine ⟨_,.inl (SqL.of ho),λ f hf=>?_⟩
 have s1:=aF.upd (o:=HO.lst (List.map V.ref ls)) hf
 have hF:(upd H f (HO.lst (List.map V.ref ls))) f=some (.lst (List.map V.ref ls)):=aD
 have hfo:o≠f:=bI ho hf
 replace pa:=pa.same s1
 generalize upd H f (HO.lst (List.map V.ref ls))=G at s1 hF pa
 obtain ⟨lj,hlj⟩:∃ l,ls[j]?=some l:=⟨_,getElem?_eq_getElem jl⟩
 obtain ⟨x,y,exy,hxy⟩:=pa.at hlj
 have hbG:=s1 _ _ hb
 have hoG:=s1 _ _ ho
 have hf0:=hf
 have str:∀ {R:VK},(∀ l (x y:Int) G',aF G G'->G' l=some (.tup [.int x,.int y])->(x,y)∉prs ms->-500<y->y<500->R (.ref l) G')->fQ K [.ref a,.ref b] G R E0:=λ k=>⟨a,b,ns,ms,rfl,s1.seq hS,hbG,m3,m2,hm,k⟩
 rcases (show w=0∨w=1∨w=2∨w=3∨w=4∨w=5 by omega) with e | e | e | e | e | e <;> subst e
 ·(dsimp? [gW,dN,tBM,Cq])
  rw [if_pos trivial]
  refine ⟨.inl ⟨rfl,_,SqL.of hF⟩,_,hF,by omega,by omega,i,seqI (by rw [length_map];omega),_,by rw [getElem?_map,getElem?_eq_getElem (show i<ls.length by omega)];rfl,?_⟩
  refine Yz (by decide) (Za (by decide) (Zb (by decide) (Zc (by decide) (Zd (by decide) (q f (ls.eraseIdx i) (qs.eraseIdx i) _ (s1.put hf) (by rw [aD,Eu]) ((pa.off hF).erase i) ?_)))))
  have el:=(lI (getElem?_eq_getElem (show i<qs.length by omega))).length_eq
  rw [List.length_cons] at el
  exact ⟨λ p=>by have:=p.length_eq;omega,λ q h=>lo q (List.mem_of_mem_eraseIdx h),by omega⟩
 ·refine Yy (by decide) ?_
  (dsimp? [fD,dN,tBM,vM])
  rw [if_pos trivial]
  refine ⟨.inl ⟨rfl,_,SqL.of hF⟩,_,SqL.of hoG,_,cF (by rw [getElem?_map,hlj];rfl),_,i,rfl,hF,by rw [length_map];omega,by rw [length_map];exact qV (by omega),?_⟩
  refine Za (by decide) (Zb (by decide) (Zc (by decide) (Zd (by decide) (q f _ _ _ (s1.put hf) (by rw [aD,Vi]) ((pa.off hF).ins (fP hF _ _ hxy) i i) ?_))))
  have el:=Vn (x:=(x,y)) i (show i<=qs.length by omega)
  exact ⟨λ p=>by have:=p.length_eq;omega,lo_ins lo (lo _ (mem_of_getElem? exy)) i i,by omega⟩
 ·refine Yy (by decide) (Yz (by decide) ?_)
  (dsimp? [fE,An,qH])
  rw [if_pos trivial]
  refine ⟨_,SqL.of hoG,_,cF (by rw [getElem?_map,hlj];rfl),_,hF,i,ixI (by rw [length_map];omega),?_⟩
  refine Zb (by decide) (Zc (by decide) (Zd (by decide) (q f (ls.set i lj) (qs.set i (x,y)) _ (s1.put hf) (by rw [aD,List.map_set]) ((pa.off hF).set (fP hF _ _ hxy) i) ?_)))
  exact ⟨bad_dup nd (by omega) exy ij,λ q h=>(mem_or_eq_of_mem_set h).elim (lo q) λ z=>by rw [z];exact lo _ (mem_of_getElem? exy),by rw [length_set];omega⟩
 ·refine Yy (by decide) (Yz (by decide) (Za (by decide) ?_))
  (dsimp? [fF,An,qH])
  rw [if_pos trivial]
  refine str λ l x y G' s2 hl nm y1 y2=>?_
  have hF2:=s2 _ _ hF
  refine ⟨_,hF2,i,ixI (by rw [length_map];omega),?_⟩
  refine Zc (by decide) (Zd (by decide) (q f (ls.set i l) (qs.set i (x,y)) _ ((s1.trans s2).put hf) (by rw [aD,List.map_set]) (((pa.same s2).off hF2).set (fP hF2 _ _ hl) i) ?_))
  exact ⟨λ p=>nm (p.mem_iff.mp (List.mem_set (by omega) _)),λ q h=>(mem_or_eq_of_mem_set h).elim (lo q) λ z=>by rw [z];exact ⟨y1,y2⟩,by rw [length_set];omega⟩
 ·refine Yy (by decide) (Yz (by decide) (Za (by decide) (Zb (by decide) ?_)))
  (dsimp? [fG,dN,tBM,vM])
  rw [if_pos trivial]
  refine ⟨.inl ⟨rfl,_,SqL.of hF⟩,str λ l x y G' s2 hl nm y1 y2=>?_⟩
  have hF2:=s2 _ _ hF
  refine ⟨_,i,rfl,hF2,by rw [length_map];omega,by rw [length_map];exact qV (by omega),?_⟩
  refine Zd (by decide) (q f _ _ _ ((s1.trans s2).put hf) (by rw [aD,Vi]) (((pa.same s2).off hF2).ins (fP hF2 _ _ hl) i i) ?_)
  have el:=Vn (x:=(x,y)) i (show i<=qs.length by omega)
  exact ⟨λ p=>by have:=p.length_eq;omega,lo_ins lo ⟨y1,y2⟩ i i,by omega⟩
 ·refine Yy (by decide) (Yz (by decide) (Za (by decide) (Zb (by decide) (Zc (by decide) ?_))))
  (dsimp? [fH,dN,Yw,Rb])
  rw [if_pos trivial]
  exact ⟨.inl ⟨rfl,_,SqL.of hF⟩,_,hF,q f [] [] _ (s1.put hf) aD PrA.nil ⟨λ p=>by have:=p.length_eq;rw [List.length_nil] at this;omega,(λ _ h=>nomatch h),Nat.zero_le _⟩⟩
noncomputable def uG:List PySem.Str:=["self"]
noncomputable def eC (K:W.Frag):Sp:=λ vs H Q _=>∃ t ns cont,vs=[.ref t]/\qJ K H t ns cont/\∀ l,H l=none->Q (.ref l) (upd H l (.lst (tv ns)))
noncomputable def nB (K:W.Frag):TS:=(aW (tCB (jG K) (aC (dC K (aB 0) "many") aK)))
theorem Bf {K vs H Q E} (h:eC K vs H Q E):vs.length=1:=by obtain ⟨t,ns,cont,rfl,_⟩:=h;rfl
theorem Fi {K vs H Q E} (T:Zh K) (h:eC K vs H Q E):nB K { nx:=λ _ H'=>Q .non H',rt:=Q } (start uG vs) H:=by
 obtain ⟨t,ns,cont,rfl,⟨dx,m,d,kv,ht,hm,_⟩,q⟩:=h
 rw [show start uG [V.ref t]=[some (.ref t)] from rfl]
 (dsimp? [nB,dC,jG])
 exact ⟨_,_,_,ht,T.cl,T.nM,_,Ip _ _,m,rfl,_,.inl (SqL.of hm),q⟩
noncomputable def Ex:List PySem.Str:=["table", "told", "hand", "size"]
noncomputable def mE (K:W.Frag):Sp:=λ vs H Q _=>∃ t ns cont,vs=[.ref t]/\qJ K H t ns cont/\Sz ns/\∀ p ls H',aF H H'->H p=none->H' p=some (.lst (List.map V.ref ls))->PrA H' ls (prs ns)->Q (.ref p) H'
noncomputable def Qi (t p l:Addr) (ns:List Nat) (H:Hp):Nat->St->Hp->Prop:=λ i σ H3=>∃ ls o1 o2,σ=[some (.ref t),some (.ref p),o1,o2]/\aF H H3/\H p=none/\H3 p=some (.lst (List.map V.ref ls))/\PrA H3 ls (prK ns i)/\l≠p/\H3 l=some (.lst (tv ns))
noncomputable def mU (K:W.Frag):TE:=(dS (aC (aB 1) (aC (aB 0) aK)))
noncomputable def tS (K:W.Frag):TS:=(dN (tBM K "list" Bt (aB 1) (aC (bB (eJ (aC (aB 3) aK)) [2] (mU K)) aK)))
noncomputable def mT (K:W.Frag):TG:=(gG K 2 (bQ (aJ 2) (bQ (aJ 3) gH)))
noncomputable def uS (K:W.Frag):TS:=(aP (aV (lU aK) (aJ 1)) (aP (cV (qU K (cS (aX K "Table") "sizes" (eC K) [] E0 (aB 0) aK)) (mT K) (tS K)) (aW (aB 1))))
theorem Mb {K vs H Q E} (h:mE K vs H Q E):vs.length=1:=by obtain ⟨_,_,_,rfl,_⟩:=h;rfl
theorem Pg {K vs H Q E} (h:mE K vs H Q E):uS K { nx:=λ _ H'=>Q .non H',rt:=Q } (start Ex vs) H:=by
 obtain ⟨t,ns,cont,rfl,tab,sz,q⟩:=h
 rw [show start Ex [V.ref t]=[some (.ref t),none,none,none] from rfl]
 have n3:=sz.len
 (dsimp? [uS,cV,qU,cS])
 refine ⟨sz0,λ p hp=>?_⟩
 have s0:=aF.upd (o:=HO.lst []) hp
 obtain ⟨dx,m,d,ht⟩:=(tab.same s0).ins
 refine ⟨_,_,ht,Ca _ _ (by decide +kernel) (by decide +kernel),t,ns,cont,rfl,tab.same s0,λ l hl=>?_⟩
 have s1:=aF.upd (o:=HO.lst (tv ns)) hl
 have hlp:l≠p:=(bI (aD (H:=H) (a:=p) (o:=HO.lst [])) hl).symm
 refine ⟨_,rfl,⟨_,SqL.of aD⟩,vY (K:=K) (a:=l) (xs:=tv ns) (g:=mT K) (D:={ nx:=aW (aB 1) { nx:=λ _ H'=>Q .non H',rt:=Q },rt:=Q }) (Qi t p l ns H) ?_ ?_ ?_ ?_⟩
 ·exact ⟨[],_,_,rfl,s0.trans s1,hp,s1 _ _ aD,PrA.nil,hlp,aD⟩
 ·rintro i σ H3 _ ⟨ls,o1,o2,rfl,s3,hp,hP,pa,ne,hl⟩
  exact SqL.of hl
 ·rintro i x a σ H3 hi ⟨ls,o1,o2,rfl,s3,hp,hP,pa,ne,hl⟩ ha
  obtain ⟨n,hn,rfl⟩:=mR hi
  (dsimp? [mT,tS,dN,tBM,Bt,bB,eJ])
  have s4:=aF.upd (o:=HO.tup [.int i,.int n]) ha
  have n6:=sz.le n (mem_of_getElem? hn)
  have i3:=(List.getElem?_eq_some_iff.mp hn).1
  refine ⟨_,SqT.of aD,rfl,_,_,rfl,_,_,rfl,rfl,.inl ⟨rfl,_,SqL.of (s4 _ _ hP)⟩,_,rfl,by omega,by omega,?_⟩
  rw [Int.toNat_natCast]
  refine fB (W:=λ j zs H5=>aF (upd H3 a (.tup [.int i,.int n])) H5/\∃ ms,zs=List.map V.ref ms/\PrA H5 ms ((List.range j).map λ c:Nat=>((i:Int),(c:Int)))) (iE (by omega)) ⟨aF.refl _,[],rfl,PrA.nil⟩ ?_ ?_
  ·rintro j zs H5 hj _ ⟨s5,ms,rfl,pb⟩
   (dsimp? [mU,bG,List.map_cons,List.map_nil,Option.join_some];try simp_arith [mU,bG,List.map_cons,List.map_nil,Option.join_some,Int.zero_add])
   refine ⟨sz2,λ b hb=>⟨s5.trans (aF.upd hb),ms++[b],by rw [map_append];rfl,?_⟩⟩
   rw [List.range_succ,map_append]
   exact (pb.same (aF.upd hb)).app (PrA.one aD)
  ·rintro zs H5 _ ⟨s5,ms,rfl,pb⟩ b hb
   have s6:=s4.trans (s5.trans (aF.upd (o:=HO.lst (List.map V.ref ms)) hb))
   have pl:=Bu sz.le i
   have l1:=pa.len
   have l2:=pb.len
   rw [length_map,List.length_range] at l2
   refine ⟨_,s6 _ _ hP,_,aD,by rw [length_map,length_map];exact iE (by omega),ls++ms,_,_,rfl,?_,hp,?_,?_,ne,?_⟩
   ·exact (s3.trans s6).put hp
   ·rw [aD,map_append]
   ·rw [Dj,show ns.getD i 0=n by rw [getD_eq_getElem?_getD,hn];rfl]
    exact ((pa.same s6).app (pb.same (aF.upd hb))).off (s6 _ _ hP)
   ·rw [aR ne];exact s6 _ _ hl
 ·rintro σ H3 ⟨ls,o1,o2,rfl,s3,hp,hP,pa,ne,hl⟩
  rw [cW] at pa
  (dsimp! [aB,tC,tOp,rI0,rNe,dI,aW,bE])
  exact q p ls H3 s3 hp hP pa
noncomputable def Fb:List PySem.Str:=["table"]
structure New (H H':Hp) (p:Addr) (as:List Addr) (ks:List (List Nat)):Prop where
 hp:H' p=some (.lst (List.map V.ref as))
 p0:H p=none
 lg:Lg H' (List.map V.ref as) ks
 a0:∀ a∈as,H a=none/\a≠p
 nd:as.Nodup
noncomputable def mI (K:W.Frag):Sp:=λ vs H Q _=>∃ t ns cont,vs=[.ref t]/\qJ K H t ns cont/\Sz ns/\∀ p as H',aF H H'->New H H' p as (ns.map List.range)->Q (.ref p) H'
noncomputable def tV (K:W.Frag):TE:=(Cj (aB 0))
noncomputable def uW (K:W.Frag):TS:=(aW (bB (aZ K (cS (aX K "Table") "sizes" (eC K) [] E0 (aB 0) aK)) [] (tV K)))
theorem Mg {K vs H Q E} (h:mI K vs H Q E):vs.length=1:=by obtain ⟨_,_,_,rfl,_⟩:=h;rfl
theorem Pk {K vs H Q E} (h:mI K vs H Q E):uW K { nx:=λ _ H'=>Q .non H',rt:=Q } (start Fb vs) H:=by
 obtain ⟨t,ns,cont,rfl,tab,sz,q⟩:=h
 rw [show start Fb [V.ref t]=[some (.ref t)] from rfl]
 have n3:=sz.len
 obtain ⟨dx,m,d,ht⟩:=tab.ins
 (dsimp? [uW,bB,aZ,cS])
 refine ⟨_,_,ht,Ca _ _ (by decide +kernel) (by decide +kernel),t,ns,cont,rfl,tab,λ l hl=>?_⟩
 have s1:aF H (upd H l (.lst (tv ns))):=aF.upd hl
 have hS:(upd H l (.lst (tv ns))) l=some (.lst (tv ns)):=aD
 generalize upd H l (.lst (tv ns))=H1 at s1 hS
 refine ⟨_,rfl,⟨_,SqL.of hS⟩,bJ (K:=K) (a:=l) (xs:=tv ns) (λ i zs H3=>aF H1 H3/\∃ as,zs=List.map V.ref as/\Lg H3 zs ((ns.take i).map List.range)/\as.Nodup/\∀ a∈as,H1 a=none) ?_ ⟨aF.refl _,[],rfl,Lg.nil,List.nodup_nil,λ _ h=>nomatch h⟩ ?_ ?_ ?_⟩
 ·rw [cW];exact iE (by omega)
 ·rintro i ys H3 _ ⟨s3,_⟩
  exact SqL.of (s3 _ _ hS)
 ·rintro i x ys H3 hi _ ⟨s3,as,rfl,rg,nd,a0⟩
  obtain ⟨n,hn,rfl⟩:=mR hi
  have n6:=sz.le n (mem_of_getElem? hn)
  (dsimp? [tV,bG,List.map_nil,Cj])
  refine ⟨n,rfl,by omega,λ p hp=>⟨s3.trans (aF.upd hp),as++[p],by rw [map_append];rfl,Vl rg hn hp,?_,λ a ha=>?_⟩⟩
  ·rw [List.nodup_append]
   refine ⟨nd,by simp,λ a ha b hb e=>?_⟩
   rw [mem_singleton.mp hb] at e
   subst e
   obtain ⟨i,hi⟩:=getElem?_of_mem ha
   obtain ⟨_,a',_,e,hc⟩:=rg.get (i:=i) (x:=.ref a) (by rw [getElem?_map,hi];rfl)
   cases e
   rw [hp] at hc
   cases hc
  ·rcases mem_append.mp ha with h | h
   ·exact a0 a h
   ·rw [mem_singleton.mp h];exact s3.free hp
 ·rintro ys H3 _ ⟨s3,as,rfl,rg,nd,a0⟩ p hp
  rw [cW,take_length] at rg
  refine q p as _ ((s1.trans s3).trans (aF.upd hp)) ⟨aD,s1.free (s3.free hp),rg.same (aF.upd hp),λ a ha=>⟨s1.free (a0 a ha),λ e=>?_⟩,nd⟩
  subst e
  obtain ⟨i,hi⟩:=getElem?_of_mem ha
  obtain ⟨_,a',_,e,hc⟩:=rg.get (i:=i) (x:=.ref a) (by rw [getElem?_map,hi];rfl)
  cases e
  rw [hp] at hc
  cases hc
noncomputable def sL:List PySem.Str:=["self", "play", "hand", "size"]
noncomputable def gF (K:W.Frag):Sp:=λ vs H Q _=>∃ t a ns cont q,vs=[.ref t,.ref a]/\qJ K H t ns cont/\H a=some (.tup (tv q))/\q∈cO ns.reverse/\∀ l H',aF H H'->H l=none->H' l=some (.lst (cont q))->Q (.ref l) H'
noncomputable def Bj (t a:Addr) (H:Hp):Nat->St->Hp->Prop:=λ _ σ H3=>∃ o1 o2,σ=[some (.ref t),some (.ref a),o1,o2]/\aF H H3
noncomputable def hV (K:W.Frag):TS:=(aW (tCB (jG K) (aC (Ck (dC K (aB 0) "cells") (aB 1)) aK)))
noncomputable def mP (K:W.Frag):TS:=(cQ (tOr (bE (tOp jT (tOp (bW K) (aB 1) (aB 2)) (tC (.int 0)))) (bE (tOp rGeI (tOp (bW K) (aB 1) (aB 2)) (aB 3)))) dJ bS)
noncomputable def iA (K:W.Frag):TG:=(gG K 2 (bQ (aJ 2) (bQ (aJ 3) gH)))
noncomputable def lO (K:W.Frag):TS:=(aP (cV (qU K (dC K (aB 0) "many")) (iA K) (mP K)) (hV K))
theorem zA {K vs H Q E} (h:gF K vs H Q E):vs.length=2:=by obtain ⟨t,a,ns,cont,q,rfl,_⟩:=h;rfl
theorem Av {K vs H Q E} (T:Zh K) (h:gF K vs H Q E):lO K { nx:=λ _ H'=>Q .non H',rt:=Q } (start sL vs) H:=by
 obtain ⟨t,a,ns,cont,q,rfl,⟨dx,m,d,kv,ht,hm,hd,ok⟩,ha,hq,k⟩:=h
 have hql:q.length=ns.length:=by rw [nE _ q hq,List.length_reverse]
 rw [show start sL [V.ref t,V.ref a]=[some (.ref t),some (.ref a),none,none] from rfl]
 (dsimp? [lO,cV,qU,dC])
 refine ⟨_,_,_,ht,T.cl,T.nM,_,Ip _ _,m,rfl,⟨_,SqL.of hm⟩,vY (K:=K) (a:=m) (xs:=tv ns) (g:=iA K) (D:={ nx:=hV K { nx:=λ _ H'=>Q .non H',rt:=Q },rt:=Q }) (Bj t a H) ?_ ?_ ?_ ?_⟩
 ·exact ⟨_,_,rfl,aF.refl _⟩
 ·rintro i σ H3 _ ⟨_,_,_,s3⟩
  exact SqL.of (s3 _ _ hm)
 ·rintro i x p σ H3 hi ⟨o1,o2,rfl,s3⟩ hp
  obtain ⟨n,hn,rfl⟩:=mR hi
  have hil:i<q.length:=by rw [hql];exact (List.getElem?_eq_some_iff.mp hn).1
  have hqi:q[i]?=some q[i]:=getElem?_eq_getElem hil
  have lt:=Va _ q hq i n q[i] (by rw [List.reverse_reverse];exact hn) hqi
  have s4:aF H3 (upd H3 p (.tup [.int i,.int n])):=aF.upd hp
  (dsimp? [iA,mP])
  refine ⟨_,SqT.of aD,rfl,_,_,rfl,_,_,rfl,rfl,_,rfl,_,SqT.of (s4 _ _ (s3 _ _ ha)),_,cF (Mw hqi),_,rfl,?_⟩
  rw [if_neg (by omega)]
  refine ⟨_,rfl,_,SqT.of (s4 _ _ (s3 _ _ ha)),_,cF (Mw hqi),_,rfl,_,rfl,?_⟩
  rw [if_neg (by omega)]
  exact ⟨_,_,rfl,s3.trans s4⟩
 ·rintro σ H3 ⟨o1,o2,rfl,s3⟩
  (dsimp? [hV,Ck,dC,jG])
  obtain ⟨l,hv,hL⟩:=ok q hq
  exact ⟨_,_,_,s3 _ _ ht,T.cl,T.nC,_,Et _ _,d,rfl,_,(by rw [← hv];exact Ci.t (s3 _ _ hd) (by rw [Gv];exact s3 _ _ ha)),l,rfl,_,.inl (SqL.of (s3 _ _ hL)),λ l' hl'=>k l' _ (s3.trans (aF.upd hl')) (s3.free hl') aD⟩
noncomputable def Oz:List PySem.Str:=["rest", "hand", "choice"]
noncomputable def tD (_:W.Frag):Sp:=λ vs H Q _=>∃ a q h c,vs=[.ref a,.int (h:Nat),.int (c:Nat)]/\H a=some (.tup (tv q))/\q.length<=100/\∀ p H',aF H H'->H' p=some (.tup (tv (q.take h++c::q.drop h)))->Q (.ref p) H'
noncomputable def De (K:W.Frag):TS:=(aW (tOp zE (tOp zE (tSl rSlA (aB 0) fN (nG (aB 1))) (dS (aC (aB 2) aK))) (tSl rSlA (aB 0) (nG (aB 1)) fN)))
theorem Tm {K vs H Q E} (h:tD K vs H Q E):vs.length=3:=by obtain ⟨a,q,h,c,rfl,_⟩:=h;rfl
theorem Xf {K vs H Q E} (h:tD K vs H Q E):De K { nx:=λ _ H'=>Q .non H',rt:=Q } (start Oz vs) H:=by
 obtain ⟨a,q,h,c,rfl,ha,hl,k⟩:=h
 rw [show start Oz [V.ref a,V.int h,V.int c]=[some (.ref a),some (.int h),some (.int c)] from rfl]
 (dsimp? [De,zE,rSlA])
 have e1:=Ce (tv q) none (some (h:Int))
 have e2:=Ce (tv q) (some (h:Int)) none
 rw [cW] at e1 e2
 refine ⟨_,ha,λ p1 H1 s1 h1=>⟨sz1,λ z hz=>?_⟩⟩
 have s2:aF H1 (upd H1 z (.tup [.int c])):=aF.upd hz
 refine ⟨_,s2 _ _ h1,_,aD,iE (by show _+1<=216;omega),λ p3 H3 s3 h3=>⟨_,s3 _ _ (s2 _ _ (s1 _ _ ha)),λ p4 H4 s4 h4=>⟨_,s4 _ _ h3,_,h4,?_,λ p5 H5 s5 h5=>?_⟩⟩⟩
 ·rw [length_append]
  exact iE (by show _+1+_<=216;omega)
 ·refine k p5 H5 ((((s1.trans s2).trans s3).trans s4).trans s5) ?_
  rw [h5,cut_to,Oq]
  simp only [tv,map_append,List.map_cons,map_take,List.map_drop,List.append_assoc,Lca,Lna]
noncomputable def uD:List PySem.Str:=["table", "rest", "hand", "choice"]
noncomputable def gZ (K:W.Frag):Sp:=λ vs H Q _=>∃ t r ns cont b i c v,vs=[.ref t,.ref r,.int (i:Nat),.int (c:Nat)]/\qJ K H t ns cont/\H r=some (.tup (tv b))/\b.length<=100/\b.take i++c::b.drop i∈cO ns.reverse/\(cont (b.take i++c::b.drop i))[i]?=some v/\∀ H',aF H H'->Q v H'
noncomputable def jA (K:W.Frag):TS:=(aW (tOp (dD K) (cS (aX K "Table") "earned" (gF K) [] E0 (aB 0) (aC (aO (tD K) [] E0 (aC (aB 1) (aC (aB 2) (aC (aB 3) aK)))) aK)) (aB 2)))
theorem Bc {K vs H Q E} (h:gZ K vs H Q E):vs.length=4:=by obtain ⟨_,_,_,_,_,_,_,_,rfl,_⟩:=h;rfl
theorem Ff {K vs H Q E} (h:gZ K vs H Q E):jA K { nx:=λ _ H'=>Q .non H',rt:=Q } (start uD vs) H:=by
 obtain ⟨t,r,ns,cont,b,i,c,v,rfl,T,hr,hb,hq,hv,k⟩:=h
 rw [show start uD [V.ref t,V.ref r,V.int i,V.int c]=[some (.ref t),some (.ref r),some (.int i),some (.int c)] from rfl]
 obtain ⟨dx,m0,d0,ht⟩:=T.ins
 (dsimp? [jA,cS];try simp_arith [jA,cS,if_true])
 refine ⟨dx,_,ht,Ca _ _ (by decide +kernel) (by decide +kernel),r,b,i,c,rfl,hr,hb,λ p2 H1 s1 hp2=>⟨t,p2,ns,cont,_,rfl,T.same s1,hp2,hq,λ l H2 s2 _ hl2=>?_⟩⟩
 exact ⟨_,rfl,_,SqL.of hl2,_,cF hv,k _ (s1.trans s2)⟩
noncomputable def Fa:List PySem.Str:=["table", "hand", "choice", "others"]
structure Fv (K:W.Frag) (H:Hp) (t:Addr) (ns:List Nat) (e:List Nat->Nat->Int×Int):Prop where
 ex:∃ cont,qJ K H t ns cont/\∀ q∈cO ns.reverse,∃ ps,cont q=List.map V.ref ps/\aS K H ps (ofF ns.length (e q))
theorem Fv.same {K:W.Frag} {t:Addr} (h:Fv K H t ns e) (s:aF H H'):Fv K H' t ns e:=let ⟨c,a,b⟩:=h.ex;⟨c,a.same s,λ q hq=>let ⟨ps,x,y⟩:=b q hq;⟨ps,x,y.same s⟩⟩
noncomputable def jM (K:W.Frag):Sp:=λ vs H Q _=>∃ (t o:Addr) (ns:List Nat) (e:List Nat->Nat->Int×Int) (bs:List (List Nat)) (h c:Nat) (xs:List V),vs=[.ref t,.int h,.int c,.ref o]/\Fv K H t ns e/\H o=some (.lst xs)/\Ps H xs bs/\h<ns.length/\(∀ b∈bs,b.length<=3/\jn b h c∈cO ns.reverse)/\bs.length<=216 /\
 ∀ l qs H',aF H H'->H' l=some (.lst (List.map V.ref qs))->aS K H' qs (bs.map λ b=>e (jn b h c) h)->Q (.ref l) H'
noncomputable def tU (K:W.Frag):TE:=(aO (gZ K) [] E0 (aC (aB 1) (aC (aB 0) (aC (aB 2) (aC (aB 3) aK)))))
noncomputable def uV (K:W.Frag):TS:=(aW (bB (aZ K (aB 3)) [0,1,2] (tU K)))
theorem Me {K vs H Q E} (h:jM K vs H Q E):vs.length=4:=by obtain ⟨_,_,_,_,_,_,_,_,rfl,_⟩:=h;rfl
theorem Pj {K vs H Q E} (h:jM K vs H Q E):uV K { nx:=λ _ H'=>Q .non H',rt:=Q } (start Fa vs) H:=by
 obtain ⟨t,o,ns,e,bs,h,c,xs,rfl,T,ho,ps,hn,hb,bl,q⟩:=h
 rw [show start Fa [V.ref t,V.int h,V.int c,V.ref o]=[some (.ref t),some (.int h),some (.int c),some (.ref o)] from rfl]
 (dsimp? [uV,bB,aZ])
 refine ⟨⟨_,SqL.of ho⟩,bJ (K:=K) (a:=o) (xs:=xs) (λ i zs H3=>aF H H3/\∃ qs,zs=List.map V.ref qs/\aS K H3 qs ((bs.take i).map λ b=>e (jn b h c) h)) (by rw [ps.1];exact iE bl) ⟨aF.refl _,[],rfl,trivial⟩ ?_ ?_ ?_⟩
 ·rintro i zs H3 _ ⟨s3,_⟩
  exact SqL.of (s3 _ _ ho)
 ·rintro i x zs H3 hi _ ⟨s3,qs,rfl,hq⟩
  obtain ⟨b,a,eb,rfl,ha⟩:=ps.get hi
  obtain ⟨b3,bo⟩:=hb b (mem_of_getElem? eb)
  obtain ⟨cont,tab,fr⟩:=T.ex
  obtain ⟨rs,ec,hf⟩:=fr _ bo
  have rl:=hf.length
  rw [aN] at rl
  obtain ⟨p,hp⟩:∃ p,rs[h]?=some p:=⟨_,getElem?_eq_getElem (by omega)⟩
  obtain ⟨f,ef,hF⟩:=hf.get hp
  obtain ⟨_,rfl⟩:=cJ ef
  (dsimp? [tU,bG,List.map_cons,List.map_nil,Option.join_some])
  refine ⟨t,a,ns,cont,b,h,c,.ref p,rfl,tab.same s3,s3 _ _ ha,by omega,bo,by rw [show b.take h++c::b.drop h=jn b h c from rfl,ec,getElem?_map,hp];rfl,λ H4 s4=>⟨s3.trans s4,qs++[p],by rw [map_append];rfl,?_⟩⟩
  rw [bC eb,map_append]
  exact aS.snoc (hq.same s4) (s4.tup (s3.tup hF))
 ·rintro zs H3 _ ⟨s3,qs,rfl,hq⟩ l hl
  rw [ps.1,take_length] at hq
  exact q l qs _ (s3.trans (aF.upd hl)) aD (hq.same (aF.upd hl))
noncomputable def uB:List PySem.Str:=["row"]
noncomputable def gX (K:W.Frag):Sp:=λ vs H Q _=>∃ a ps fs,vs=[.ref a]/\SqL K H a (List.map V.ref ps)/\aS K H ps fs/\(∀ f∈fs,0<f.2/\BB 4000 f.2)/\fs≠[]/\fs.length<=100/\∀ z H',aF H H'->(∃ f∈fs,z=f.1.fdiv f.2)->(∀ f∈fs,z<=f.1.fdiv f.2)->Q (.int z) H'
noncomputable def nX (K:W.Frag):TE:=(tOp gR (tOp (bW K) (aB 0) (tC (.int 0))) (tOp (bW K) (aB 0) (tC (.int 1))))
noncomputable def mW (K:W.Frag):TS:=(aW (tCB (Nc K) (aC (bB (aZ K (aB 0)) [] (nX K)) aK)))
theorem Az {K vs H Q E} (h:gX K vs H Q E):vs.length=1:=by obtain ⟨_,_,_,rfl,_⟩:=h;rfl
theorem Fd {K vs H Q E} (h:gX K vs H Q E):mW K { nx:=λ _ H'=>Q .non H',rt:=Q } (start uB vs) H:=by
 obtain ⟨a,ps,fs,rfl,hS,hf,hg,ne,hn,q⟩:=h
 have hpl:=hf.length
 rw [show start uB [V.ref a]=[some (.ref a)] from rfl]
 (dsimp? [mW,bB,aZ,Nc])
 refine ⟨⟨_,hS⟩,bJ (K:=K) (a:=a) (xs:=List.map V.ref ps) (λ i zs H3=>aF H H3/\zs=List.map V.int ((fs.take i).map λ f=>f.1.fdiv f.2)) (by rw [length_map,sizeLine_eq];omega) ⟨aF.refl _,rfl⟩ ?_ ?_ ?_⟩
 ·rintro i zs H3 _ ⟨s3,_⟩
  exact s3.seq hS
 ·rintro i x zs H3 hi _ ⟨s3,rfl⟩
  obtain ⟨p,rfl,hp⟩:=bK hi
  obtain ⟨f,ef,hF⟩:=(hf.same s3).get hp
  have g:=hg f (mem_of_getElem? ef)
  (dsimp? [nX])
  refine ⟨_,hF,_,kX,_,hF,_,gQ,_,rfl,_,rfl,⟨by omega,g.2.mono (by decide)⟩,s3,?_⟩
  rw [bC ef,map_append,map_append];rfl
 ·rintro zs H3 _ ⟨s3,rfl⟩ p hp
  rw [length_map,hpl,take_length]
  refine ⟨_,SqL.of aD,λ e=>ne (map_eq_nil_iff.mp e),λ z hz hA=>?_⟩
  obtain ⟨f,hf1,rfl⟩:=mem_map.mp hz
  exact q _ _ (s3.trans (aF.upd hp)) ⟨f,hf1,rfl⟩ λ g hg'=>hA _ (mem_map.mpr ⟨g,hg',rfl⟩)
noncomputable def Ji:List PySem.Str:=["rows"]
noncomputable def pJ (K:W.Frag):Sp:=λ vs H Q _=>∃ a rps frs n,vs=[.ref a]/\SqL K H a (List.map V.ref rps)/\kY K H rps frs/\WoR frs n/\∀ z p H',aF H H'->H' p=some (.tup [.int (1 - z),.int 1])->Mnf frs z->Q (.ref p) H'
noncomputable def wH (K:W.Frag):TE:=(aO (gX K) [] E0 (aC (aB 0) aK))
noncomputable def xR (K:W.Frag):TS:=(aW (dS (aC (tOp nH (tC (.int 1)) (tCB (Nc K) (aC (bB (aZ K (aB 0)) [] (wH K)) aK))) (aC (tC (.int 1)) aK))))
theorem Pz {K vs H Q E} (h:pJ K vs H Q E):vs.length=1:=by obtain ⟨_,_,_,_,rfl,_⟩:=h;rfl
theorem Ry {K vs H Q E} (h:pJ K vs H Q E):xR K { nx:=λ _ H'=>Q .non H',rt:=Q } (start Ji vs) H:=by
 obtain ⟨a,rps,frs,n,rfl,hS,hf,W,q⟩:=h
 have hpl:=hf.length
 have m2:=W.m2
 rw [show start Ji [V.ref a]=[some (.ref a)] from rfl]
 (dsimp? [xR,bB,aZ,Nc])
 refine ⟨⟨_,hS⟩,bJ (K:=K) (a:=a) (xs:=List.map V.ref rps) (λ i zs H3=>aF H H3/\∃ zz:List Int,zs=List.map V.int zz/\zz.length=i/\(∀ z∈zz,∃ r∈frs,∃ f∈r,z=f.1.fdiv f.2)/\∀ (k:Nat) z r,zz[k]?=some z->frs[k]?=some r->∀ f∈r,z<=f.1.fdiv f.2) (by rw [length_map,sizeLine_eq];omega) ⟨aF.refl _,[],rfl,rfl,(λ _ h=>nomatch h),λ k z r e=>by simp at e⟩ ?_ ?_ ?_⟩
 ·rintro i zs H3 _ ⟨s3,_⟩
  exact s3.seq hS
 ·rintro i x zs H3 hi _ ⟨s3,zz,rfl,zl,z1,z2⟩
  obtain ⟨p,rfl,hp⟩:=bK hi
  obtain ⟨r,qs,er,hrow,hfr⟩:=hf.get hp
  have hrm:=mem_of_getElem? er
  have rl:=W.hr r hrm
  have n1:=W.n1
  have n2:=W.n2
  (dsimp? [wH])
  refine ⟨p,qs,r,rfl,s3.seq (SqL.of hrow),hfr.same s3,λ f hf'=>⟨(W.hg r hrm f hf').1,(W.hg r hrm f hf').2.2⟩,λ e=>by rw [e] at rl;simp at rl;omega,by omega,λ z H4 s4 ⟨f,hfm,e⟩ le=>⟨s3.trans s4,zz++[z],by rw [map_append];rfl,by rw [length_append,zl];rfl,λ z' hz'=>?_,λ k z' r' e1 e2 f' hf'=>?_⟩⟩
  ·rcases mem_append.mp hz' with h | h
   ·exact z1 z' h
   ·rw [mem_singleton.mp h];exact ⟨r,hrm,f,hfm,e⟩
  ·rcases Nv e1 with ⟨e1,_⟩ | ⟨ek,rfl⟩
   ·exact z2 k z' r' e1 e2 f' hf'
   ·rw [ek,zl,er] at e2
    obtain rfl:=Option.some.inj e2
    exact le f' hf'
 ·rintro zs H3 _ ⟨s3,zz,rfl,zl,z1,z2⟩ p hp
  rw [length_map,hpl] at zl
  have m1:=W.m1
  refine ⟨_,SqL.of aD,λ e=>by rw [e] at zl;simp at zl;omega,λ z hz hA=>⟨sz2,λ t ht=>q z t _ ((s3.trans (aF.upd hp)).trans (aF.upd ht)) aD ⟨z1 z hz,λ r hr f hf'=>?_⟩⟩⟩
  obtain ⟨k,hk⟩:=getElem?_of_mem hr
  have hkl:k<zz.length:=by have:=(List.getElem?_eq_some_iff.mp hk).1;omega
  have h1:=hA _ (getElem_mem hkl)
  have h2:=z2 k _ r (getElem?_eq_getElem hkl) hk f hf'
  omega
noncomputable def Jo:List PySem.Str:=["one", "other", "great", "small", "left"]
noncomputable def eG (_:W.Frag):Sp:=λ vs H Q _=>∃ a b,vs=[.int a,.int b]/\Q (.int (Int.gcd a b:Nat)) H
noncomputable def wN (K:W.Frag):TS:=(aP (aV (tOp jF (aB 2) (aB 3)) (aJ 4)) (aP (aV (aB 3) (aJ 2)) (aV (aB 4) (aJ 3))))
noncomputable def xX (K:W.Frag):TS:=(aP (aV (tCB Mr (aC (aB 0) aK)) (aJ 2)) (aP (aV (tCB Mr (aC (aB 1) aK)) (aJ 3)) (aP (pA (bE (tOp rNe (aB 3) (tC (.int 0)))) (wN K)) (aW (aB 2)))))
theorem Qf {K vs H Q E} (h:eG K vs H Q E):vs.length=2:=by obtain ⟨a,b,rfl,_⟩:=h;rfl
theorem Si {K vs H Q E} (h:eG K vs H Q E):xX K { nx:=λ _ H'=>Q .non H',rt:=Q } (start Jo vs) H:=by
 obtain ⟨a,b,rfl,k⟩:=h
 rw [show start Jo [V.int a,V.int b]=[some (.int a),some (.int b),none,none,none] from rfl]
 (dsimp! [xX,aP,aV,aJ,aB,aC,aK,tCB,Mr,abs_eq])
 refine Nh (λ σ H'=>H'=H/\∃ g s l,σ=[some (.int a),some (.int b),some (.int g),some (.int s),l]/\0<=g/\0<=s/\Int.gcd g s=Int.gcd a b) (λ σ _=>(intO (σ.getD 3 none)).toNat) ?_ ?_ ?_
 ·exact ⟨rfl,_,_,_,rfl,by omega,by omega,by simp [Int.gcd]⟩
 ·rintro σ H' ⟨rfl,g,s,l,rfl,hg,hs,e⟩
  (dsimp! [wN,aP,aV,aJ,aB,tC,tOp,rI,jF,rNe,dI,aW,bE])
  by_cases h0:s=0
  ·subst h0
   simp only [decide_true,Bool.not_true,Option.some.injEq,exists_eq_left',exists_eq_left,V.int.injEq,V.ref.injEq,V.bl.injEq,List.cons.injEq,and_true,true_and,exists_and_left,and_assoc,cD,cE,cC,cY,fU,dL]
   rw [← e,Int.gcd_zero_right] at k
   have:((g.natAbs:Nat):Int)=g:=by omega
   rw [this] at k
   simpa using k
  ·have hp:0<s:=by omega
   have h1:=Int.emod_nonneg g h0
   have h2:=Int.emod_lt_of_pos g hp
   simp [h0,hp,h1,hs]
   refine ⟨?_,?_⟩
   ·rw [← e,Int.gcd_comm g s,Int.emod_def,Int.gcd_sub_mul_left_right]
   ·show max (g % s) 0<s
    omega
 ·intro σ H' Q1 Q2 im h
  dsimp only [bE,tOp,tC,rNe] at h ⊢
  first
  | (obtain ⟨v,hv,hs,q⟩:=Bo h
     exact Bm hv ⟨hs,im _ _ q⟩)
  | (obtain ⟨v,hv,hs,b,hb,q⟩:=Bo h
     exact Bm hv ⟨hs,b,hb,im _ _ q⟩)
noncomputable def Wl:List PySem.Str:=["top", "bottom", "shared"]
noncomputable def gB (_:W.Frag):Sp:=λ vs H Q _=>∃ t b,vs=[.int t,.int b]/\b≠0/\BB 9000 b/\∀ x y p H',aF H H'->H' p=some (.tup [.int x,.int y])->Lo t b x y->Q (.ref p) H'
noncomputable def Bl (K:W.Frag):TS:=(aP (cQ (bE (tOp rEq (aB 1) (tC (.int 0)))) dJ bS) (aP (aV (aO (eG K) [] E0 (aC (aB 0) (aC (aB 1) aK))) (aJ 2)) (aP (cQ (bE (tOp jT (aB 1) (tC (.int 0)))) (aV (tUn fZ (aB 2)) (aJ 2)) bS) (aW (dS (aC (tOp gR (aB 0) (aB 2)) (aC (tOp gR (aB 1) (aB 2)) aK)))))))
theorem Xx {K vs H Q E} (h:gB K vs H Q E):vs.length=2:=by obtain ⟨a,b,rfl,_⟩:=h;rfl
theorem jJe {K vs H Q E} (h:gB K vs H Q E):Bl K { nx:=λ _ H'=>Q .non H',rt:=Q } (start Wl vs) H:=by
 obtain ⟨t,b,rfl,hb,bb,q⟩:=h
 rw [show start Wl [V.int t,V.int b]=[some (.int t),some (.int b),none] from rfl]
 (try dsimp only [Bl,aP,aV,aJ,aB,tC,tOp,tUn,rI0,rI,rU,gR,fZ,jT,rEq,dI,aW,cQ,bE,bS,aO,aC,aK,dS,dJ,Lq0,Lq1,Ls0,Ls1,cD,cE,cC];try simp only [Bl,aP,aV,aJ,aB,tC,tOp,tUn,rI0,rI,rU,gR,fZ,jT,rEq,dI,aW,cQ,bE,bS,aO,aC,aK,dS,dJ,Lq0,Lq1,Ls0,Ls1,Option.some.injEq,exists_eq_left',V.int.injEq,V.bl.injEq,List.cons.injEq,and_true,true_and,List.append_nil,exists_and_left,decide_eq_true_eq,and_assoc,eG,exists_eq_left,V.ref.injEq,cD,cE,cC,cY,fU,dL])
 rw [if_neg hb]
 have bg:=bb.gcd (i:=t) hb
 have g0:0<Int.gcd t b:=Int.gcd_pos_of_ne_zero_right _ hb
 refine vF (λ hn=>?_) (λ hn=>?_)
 ·refine ⟨⟨by omega,bg.neg⟩,⟨by omega,bg.neg⟩,sz2,λ p hp=>q _ _ p _ (aF.upd hp) aD (lo_neg hn)⟩
 ·refine ⟨⟨by omega,bg⟩,⟨by omega,bg⟩,sz2,λ p hp=>q _ _ p _ (aF.upd hp) aD (lo_pos (by omega))⟩
noncomputable def N_plus:List PySem.Str:=["one", "other"]
noncomputable def vL (K:W.Frag):Sp:=λ vs H Q _=>∃ p q a b c d,vs=[.ref p,.ref q]/\Tw K H p q a b c d/\0<b/\0<d/\BB 9000 (b*d)/\∀ r H',aF H H'->H' r=some (.tup [.int (lo2 (a*d+c*b) (b*d)).1,.int (lo2 (a*d+c*b) (b*d)).2])->Q (.ref r) H'
noncomputable def Qu (K:W.Frag):TS:=(aW (aO (gB K) [] E0 (aC (tOp gS (tOp cK (tOp (bW K) (aB 0) (tC (.int 0))) (tOp (bW K) (aB 1) (tC (.int 1)))) (tOp cK (tOp (bW K) (aB 1) (tC (.int 0))) (tOp (bW K) (aB 0) (tC (.int 1))))) (aC (tOp cK (tOp (bW K) (aB 0) (tC (.int 1))) (tOp (bW K) (aB 1) (tC (.int 1)))) aK))))
theorem jJ1 {K vs H Q E} (h:vL K vs H Q E):vs.length=2:=by obtain ⟨p,q,a,b,c,d,rfl,_⟩:=h;rfl
theorem rd_plus {K vs H Q E} (h:vL K vs H Q E):Qu K { nx:=λ _ H'=>Q .non H',rt:=Q } (start N_plus vs) H:=by
 obtain ⟨p,q,a,b,c,d,rfl,⟨hp,hq,ba,bb,bc,bd⟩,b0,d0,b9,k⟩:=h
 rw [show start N_plus [V.ref p,V.ref q]=[some (.ref p),some (.ref q)] from rfl]
 (dsimp? [Qu])
 refine ⟨_,hp,_,kX,_,hq,_,gQ,_,rfl,_,rfl,.b ba bd,_,hq,_,kX,_,hp,_,gQ,_,rfl,_,rfl,.b bc bb,_,hp,_,gQ,_,hq,_,gQ,_,rfl,_,rfl,.b bb bd,?_⟩
 have z:0<b*d:=Int.mul_pos b0 d0
 refine ⟨_,_,rfl,by omega,b9,λ x y r H' s h l=>k r H' s ?_⟩
 obtain ⟨e1,e2⟩:=l.uniq z (bU z)
 rw [← e1,← e2];exact h
noncomputable def Ox:List PySem.Str:=["row", "lift"]
noncomputable def sY (K:W.Frag):Sp:=λ vs H Q _=>∃ a t ps fs,∃ z:Int,vs=[.ref a,.ref t]/\SqL K H a (List.map V.ref ps)/\aS K H ps fs/\SqT K H t [.int (1 - z),.int 1]/\BB 9000 (1 - z)/\(∀ f∈fs,0<f.2/\BB 4000 f.1/\BB 4000 f.2)/\fs.length<=100/\∀ l qs H',aF H H'->H' l=some (.lst (List.map V.ref qs))->aS K H' qs (fs.map (lft z))->Q (.ref l) H'
noncomputable def zW (K:W.Frag):TE:=(aO (vL K) [] E0 (aC (aB 0) (aC (aB 1) aK)))
noncomputable def Dc (K:W.Frag):TS:=(aW (bB (aZ K (aB 0)) [1] (zW K)))
theorem Tk {K vs H Q E} (h:sY K vs H Q E):vs.length=2:=by obtain ⟨_,_,_,_,_,rfl,_⟩:=h;rfl
theorem Xd {K vs H Q E} (h:sY K vs H Q E):Dc K { nx:=λ _ H'=>Q .non H',rt:=Q } (start Ox vs) H:=by
 obtain ⟨a,t,ps,fs,z,rfl,hS,hf,ht,bz,hg,hn,q⟩:=h
 have hpl:=hf.length
 rw [show start Ox [V.ref a,V.ref t]=[some (.ref a),some (.ref t)] from rfl]
 (dsimp? [Dc,bB,aZ])
 refine ⟨⟨_,hS⟩,bJ (K:=K) (a:=a) (xs:=List.map V.ref ps) (λ i zs H3=>aF H H3/\∃ qs,zs=List.map V.ref qs/\aS K H3 qs ((fs.take i).map (lft z))) (by rw [length_map,sizeLine_eq];omega) ⟨aF.refl _,[],rfl,trivial⟩ ?_ ?_ ?_⟩
 ·rintro i zs H3 _ ⟨s3,_⟩
  exact s3.seq hS
 ·rintro i x zs H3 hi _ ⟨s3,qs,rfl,hq⟩
  obtain ⟨p,rfl,hp⟩:=bK hi
  obtain ⟨f,ef,hF⟩:=(hf.same s3).get hp
  have g:=hg f (mem_of_getElem? ef)
  have one:BB 20000 (1:Int):=by show (1:Int).natAbs<2 ^ 20000;exact Nat.one_lt_two_pow (by decide)
  (dsimp? [zW,bG,List.map_cons,List.map_nil,Option.join_some])
  refine ⟨_,_,_,_,_,_,rfl,⟨hF,s3.tup ht,g.2.1.mono (by decide),g.2.2.mono (by decide),bz.mono (by decide),one⟩,g.1,by decide,by rw [Int.mul_one];exact g.2.2.mono (by decide),λ r H4 s4 hr=>⟨s3.trans s4,qs++[r],by rw [map_append];rfl,?_⟩⟩
  rw [bC ef,map_append]
  exact aS.snoc (hq.same s4) (SqT.of hr)
 ·rintro zs H3 _ ⟨s3,qs,rfl,hq⟩ l hl
  rw [length_map,hpl,take_length] at hq
  exact q l qs _ (s3.trans (aF.upd hl)) aD (hq.same (aF.upd hl))
noncomputable def Wo:List PySem.Str:=["one", "other"]
noncomputable def rD (K:W.Frag):Sp:=λ vs H Q _=>∃ p q a b c d,vs=[.ref p,.ref q]/\Tw K H p q a b c d/\Q (.bl (decide (a*d<c*b))) H
noncomputable def Kj (K:W.Frag):TS:=(aW (tOp jT (tOp cK (tOp (bW K) (aB 0) (tC (.int 0))) (tOp (bW K) (aB 1) (tC (.int 1)))) (tOp cK (tOp (bW K) (aB 1) (tC (.int 0))) (tOp (bW K) (aB 0) (tC (.int 1))))))
theorem Ya {K vs H Q E} (h:rD K vs H Q E):vs.length=2:=by obtain ⟨p,q,a,b,c,d,rfl,_⟩:=h;rfl
theorem jJh {K vs H Q E} (h:rD K vs H Q E):Kj K { nx:=λ _ H'=>Q .non H',rt:=Q } (start Wo vs) H:=by
 obtain ⟨p,q,a,b,c,d,rfl,⟨hp,hq,ba,bb,bc,bd⟩,k⟩:=h
 rw [show start Wo [V.ref p,V.ref q]=[some (.ref p),some (.ref q)] from rfl]
 (dsimp! [Kj,aB,tC,tOp,rI0,rI,cK,jT,aW,bW])
 exact ⟨_,hp,_,kX,_,hq,_,gQ,_,rfl,_,rfl,.b ba bd,_,hq,_,kX,_,hp,_,gQ,_,rfl,_,rfl,.b bc bb,k⟩
noncomputable def Jq:List PySem.Str:=["row", "number", "fraction"]
noncomputable def pP (K:W.Frag):Sp:=λ vs H Q _=>∃ a ps fs,vs=[.ref a]/\SqL K H a (List.map V.ref ps)/\aS K H ps fs/\(∀ f∈fs,G9 f)/\fs.length<=100/\∀ l p H',aF H H'->H' l=some (.lst (List.map V.int (clr fs)))->H' p=some (.tup [.int (lc fs),.ref l])->Q (.ref p) H'
noncomputable def Tr (a:Addr) (H0:Hp) (fs:List (Int×Int)):Nat->St->Hp->Prop:=λ i σ H3=>H3=H0/\∃ o,σ=[some (.ref a),some (.int (lc (fs.take i))),o]/\BB (9000*i+1) (lc (fs.take i))
noncomputable def Tv (H0:Hp) (fs:List (Int×Int)):Nat->List V->Hp->Prop:=WEq H0 λ i ys=>ys=List.map V.int ((clr fs).take i)
noncomputable def wP (K:W.Frag):TE:=(tOp cK (tOp (bW K) (aB 0) (tC (.int 0))) (tOp gR (aB 1) (tOp (bW K) (aB 0) (tC (.int 1)))))
noncomputable def qE (K:W.Frag):TS:=(aW (dS (aC (aB 1) (aC (bB (aZ K (aB 0)) [1] (wP K)) aK))))
noncomputable def Lh (K:W.Frag):TS:=(aV (tOp cK (aB 1) (tOp gR (tOp (bW K) (aB 2) (tC (.int 1))) (aO (eG K) [] E0 (aC (aB 1) (aC (tOp (bW K) (aB 2) (tC (.int 1))) aK))))) (aJ 1))
noncomputable def xZ (K:W.Frag):TS:=(aP (aV (tC (.int 1)) (aJ 1)) (aP (cV (aZ K (aB 0)) (aJ 2) (Lh K)) (qE K)))
theorem Qh {K vs H Q E} (h:pP K vs H Q E):vs.length=1:=by obtain ⟨a,ps,fs,rfl,_⟩:=h;rfl
theorem Sk {K vs H Q E} (h:pP K vs H Q E):xZ K { nx:=λ _ H'=>Q .non H',rt:=Q } (start Jq vs) H:=by
 obtain ⟨a,ps,fs,rfl,hS,hf,hg,hn,q⟩:=h
 have hpl:=hf.length
 have hpos:∀ f∈fs,0<f.2:=λ f hf=>(hg f hf).1
 rw [show start Jq [V.ref a]=[some (.ref a),none,none] from rfl]
 (dsimp! [xZ,cV,aZ,aP,aV,aJ,aB,tC])
 refine ⟨⟨_,hS⟩,eO (K:=K) (a:=a) (xs:=List.map V.ref ps) (g:=aJ 2) (D:={ nx:=qE K { nx:=λ _ H'=>Q .non H',rt:=Q },rt:=Q }) (Tr a H fs) ?_ ?_ ?_ ?_⟩
 ·exact ⟨rfl,none,rfl,by show BB 1 1;unfold BB;decide⟩
 ·rintro i σ H3 _ ⟨rfl,_⟩
  exact hS
 ·rintro i x σ H3 hi ⟨rfl,o,rfl,bl⟩
  obtain ⟨p,rfl,hp⟩:=bK hi
  obtain ⟨f,ef,hF⟩:=hf.get hp
  have gf:=hg f (mem_of_getElem? ef)
  have lp:0<lc (fs.take i):=Rg λ f hf=>hpos f (mem_of_mem_take hf)
  obtain ⟨o1,_,_,_,o5⟩:=Rf lp gf.1
  have e:=lc_snoc ef
  have hlt:i<fs.length:=(List.getElem?_eq_some_iff.mp ef).1
  have bq:=gf.2.2.of_le o5
  have fne:f.2≠0:=Int.ne_of_gt gf.1
  have g0:0<Int.gcd (lc (fs.take i)) f.2:=Int.gcd_pos_of_ne_zero_right _ fne
  unfold lcf at e
  (try dsimp only [aV,aJ,aB,tC,tOp,rI,cK,gR,aO,aC,aK,bW,Lq0,Lq1,Ls0,Ls1,cD,cE,cC];try simp only [eG,aV,aJ,aB,tC,tOp,rI,cK,gR,aO,aC,aK,bW,Lq0,Lq1,Ls0,Ls1,Option.some.injEq,exists_eq_left',V.int.injEq,V.ref.injEq,List.cons.injEq,and_true,List.append_nil,exists_and_left,and_assoc,exists_eq_left,V.bl.injEq,true_and,cD,cE,cC,cY,fU,dL])
  refine ⟨_,hF,_,gQ,_,hF,_,gQ,_,rfl,_,rfl,⟨by omega,gf.2.2.gcd fne⟩,.b (m:=900001) (n:=9000) (bl.mono (by omega)) bq,?_⟩
  rw [← e]
  refine ⟨rfl,_,rfl,?_⟩
  rw [e]
  exact (bl.mul bq).mono (by omega)
 ·rintro σ H3 ⟨rfl,o,rfl,bl⟩
  rw [length_map,hpl,take_length] at bl ⊢
  (dsimp! [qE,bB,aZ,aB,aW,aC,aK,dS])
  refine ⟨⟨_,hS⟩,bJ (K:=K) (a:=a) (xs:=List.map V.ref ps) (Tv H3 fs) ?_ ?_ ?_ ?_ ?_⟩
  ·rw [length_map,hpl,sizeLine_eq];omega
  ·exact ⟨rfl,by simp⟩
  ·rintro i ys H4 _ ⟨rfl,_⟩
   exact hS
  ·rintro i x ys H4 hi _ ⟨rfl,rfl⟩
   obtain ⟨p,rfl,hp⟩:=bK hi
   obtain ⟨f,ef,hF⟩:=hf.get hp
   have gf:=hg f (mem_of_getElem? ef)
   obtain ⟨k,hk⟩:=(xL fs 1 (by decide) hpos).2.2.1 f (mem_of_getElem? ef)
   have hk:lc fs=f.2*k:=hk
   have fne:f.2≠0:=Int.ne_of_gt gf.1
   have ek:(lc fs).fdiv f.2=k:=by rw [hk];exact Int.mul_fdiv_cancel_left _ fne
   have bk:BB (9000*fs.length+1) ((lc fs).fdiv f.2):=by
    refine bl.of_le ?_
    rw [ek,hk,Int.natAbs_mul]
    exact Nat.le_mul_of_pos_left _ (by omega)
   (dsimp! [wP,bG,List.map_cons,List.map_nil,Option.join_some,aB,tC,tOp,rI,cK,gR,bW])
   refine ⟨_,hF,_,kX,_,hF,_,gQ,_,rfl,⟨fne,gf.2.2⟩,_,rfl,.b (m:=20000) (n:=900001) gf.2.1 (bk.mono (by omega)),rfl,?_⟩
   show _=List.map V.int (List.take (i+1) (clr fs))
   rw [bC (Wc ef),map_append];rfl
  ·rintro ys H4 _ ⟨rfl,rfl⟩ l hl
   have hcl:(clr fs).length=fs.length:=by unfold clr;rw [length_map]
   rw [length_map,hpl,← hcl,take_length]
   refine ⟨sz2,λ p hp=>q l p _ ((aF.upd hl).trans (aF.upd hp)) (aF.upd hp _ _ aD) aD⟩
noncomputable def Ov:List PySem.Str:=["row", "told", "number"]
noncomputable def nO (K:W.Frag):Sp:=λ vs H Q _=>∃ a ns,vs=[.ref a]/\SqL K H a (List.map V.int ns)/\Q (.int (gl ns)) H
noncomputable def Yg (a:Addr) (H0:Hp) (ns:List Int):Nat->St->Hp->Prop:=λ i σ H3=>H3=H0/\∃ o,σ=[some (.ref a),some (.int (gl (ns.take i))),o]
noncomputable def Pb (K:W.Frag):TS:=(aP (aV (aO (eG K) [] E0 (aC (aB 1) (aC (aB 2) aK))) (aJ 1)) (cQ (bE (tOp rEq (aB 1) (tC (.int 1)))) (aW (aB 1)) bS))
noncomputable def Da (K:W.Frag):TS:=(aP (aV (tC (.int 0)) (aJ 1)) (aP (cV (aZ K (aB 0)) (aJ 2) (Pb K)) (aW (aB 1))))
theorem Ti {K vs H Q E} (h:nO K vs H Q E):vs.length=1:=by obtain ⟨a,ns,rfl,_⟩:=h;rfl
theorem Xb {K vs H Q E} (h:nO K vs H Q E):Da K { nx:=λ _ H'=>Q .non H',rt:=Q } (start Ov vs) H:=by
 obtain ⟨a,ns,rfl,hS,q⟩:=h
 rw [show start Ov [V.ref a]=[some (.ref a),none,none] from rfl]
 (dsimp! [Da,cV,aZ,aP,aV,aJ,aB,tC,aW])
 refine ⟨⟨_,hS⟩,eO (K:=K) (a:=a) (xs:=List.map V.int ns) (g:=aJ 2) (D:={ nx:=aW (aB 1) { nx:=λ _ H'=>Q .non H',rt:=Q },rt:=Q }) (Yg a H ns) ?_ ?_ ?_ ?_⟩
 ·exact ⟨rfl,none,rfl⟩
 ·rintro i σ H3 _ ⟨rfl,_⟩
  exact hS
 ·rintro i x σ H3 hi ⟨rfl,o,rfl⟩
  obtain ⟨c,rfl,hc⟩:=cU hi
  have e:=gl_snoc hc
  unfold glf at e
  (try dsimp only [aP,aV,aJ,aB,tC,tOp,rEq,dI,aW,cQ,bE,bS,aO,aC,aK,Lq0,Lq1,Ls0,Ls1,cD,cE,cC];try simp only [eG,aP,aV,aJ,aB,tC,tOp,rEq,dI,aW,cQ,bE,bS,aO,aC,aK,Lq0,Lq1,Ls0,Ls1,Option.some.injEq,exists_eq_left',V.int.injEq,V.bl.injEq,List.cons.injEq,and_true,true_and,List.append_nil,exists_and_left,decide_eq_true_eq,and_assoc,exists_eq_left,V.ref.injEq,cD,cE,cC,cY,fU,dL])
  rw [← e]
  refine vF (λ h1=>?_) (λ h1=>?_)
  ·have e1:=gl_one h1
   rw [h1]
   rwa [e1] at q
  ·exact ⟨rfl,_,rfl⟩
 ·rintro σ H3 ⟨rfl,o,rfl⟩
  (dsimp! [aB,tC,tOp,rI0,rNe,dI,aW,bE])
  rwa [length_map,take_length]
noncomputable def Wm:List PySem.Str:=["row", "common"]
noncomputable def vT (K:W.Frag):Sp:=λ vs H Q _=>∃ a ns,vs=[.ref a]/\SqL K H a (List.map V.int ns)/\ns.length<=1000/\(∀ n∈ns,BB 9000 n)/\∀ l H',aF H H'->H l=none->H' l=some (.lst (List.map V.int (pB ns)))->Q (.ref l) H'
noncomputable def jZc (H0:Hp) (ns:List Int):Nat->List V->Hp->Prop:=λ i ys H3=>H3=H0/\ys=List.map V.int ((ns.take i).map λ n=>n.fdiv (gl ns))
noncomputable def Eh (K:W.Frag):TE:=(tOp gR (aB 0) (aB 1))
noncomputable def Kh (K:W.Frag):TS:=(aP (aV (aO (nO K) [] E0 (aC (aB 0) aK)) (aJ 1)) (aP (cQ (bE (tOp jT (aB 1) (tC (.int 2)))) (aW (tCB (jG K) (aC (aB 0) aK))) bS) (aW (bB (aZ K (aB 0)) [1] (Eh K)))))
theorem Xy {K vs H Q E} (h:vT K vs H Q E):vs.length=1:=by obtain ⟨a,ns,rfl,_⟩:=h;rfl
theorem jJf {K vs H Q E} (h:vT K vs H Q E):Kh K { nx:=λ _ H'=>Q .non H',rt:=Q } (start Wm vs) H:=by
 obtain ⟨a,ns,rfl,hS,hn,hb,q⟩:=h
 rw [show start Wm [V.ref a]=[some (.ref a),none] from rfl]
 (dsimp! [Kh,bB,aZ,jG,aP,aV,aJ,aB,tC,tOp,rI0,jT,aW,cQ,bE,bS,aO,aC,aK,tCB,List.append_nil,decide_eq_true_eq])
 refine ⟨_,_,rfl,hS,_,rfl,vF (λ h2=>?_) (λ h2=>?_)⟩
 ·refine ⟨_,.inl hS,λ l hl=>q l _ (aF.upd hl) hl ?_⟩
  unfold pB
  rw [if_pos h2];exact aD
 ·refine ⟨⟨_,hS⟩,bJ (K:=K) (a:=a) (xs:=List.map V.int ns) (jZc H ns) ?_ ?_ ?_ ?_ ?_⟩
  ·rw [length_map,sizeLine_eq];omega
  ·exact ⟨rfl,rfl⟩
  ·rintro i ys H3 _ ⟨rfl,_⟩
   exact hS
  ·rintro i x ys H3 hi _ ⟨rfl,rfl⟩
   obtain ⟨c,rfl,hc⟩:=cU hi
   (dsimp! [Eh,bG,List.map_cons,List.map_nil,Option.join_some,aB,tOp,rI,gR])
   refine ⟨⟨by omega,Uh hb⟩,rfl,?_⟩
   rw [bC hc];simp
  ·rintro ys H3 _ ⟨rfl,rfl⟩ p hp
   refine q p _ (aF.upd hp) hp ?_
   rw [length_map,take_length]
   unfold pB
   rw [if_neg h2];exact aD
noncomputable def Wj:List PySem.Str:=["row", "made"]
noncomputable def nJ (K:W.Frag):Sp:=λ vs H Q _=>∃ a ps fs,vs=[.ref a]/\SqL K H a (List.map V.ref ps)/\aS K H ps fs/\(∀ f∈fs,G9 f)/\fs.length<=100/\(∀ x∈clr fs,BB 9000 x) /\
 ∀ r f l H',aF H H'->H' r=some (.tup [.ref f,.ref l])->H' f=some (.tup [.int (whF fs).1,.int (whF fs).2])->H' l=some (.lst (List.map V.int (whL fs)))->Q (.ref r) H'
noncomputable def Kf (K:W.Frag):TS:=(aP (aV (aO (pP K) [] E0 (aC (aB 0) aK)) (aJ 1)) (aW (dS (aC (aO (gB K) [] E0 (aC (tOp (bW K) (aB 1) (tC (.int 0))) (aC (tCB cMax (aC (aO (nO K) [] E0 (aC (tOp (bW K) (aB 1) (tC (.int 1))) aK)) (aC (tC (.int 1)) aK))) aK))) (aC (aO (vT K) [] E0 (aC (tOp (bW K) (aB 1) (tC (.int 1))) aK)) aK)))))
theorem Xv {K vs H Q E} (h:nJ K vs H Q E):vs.length=1:=by obtain ⟨a,ps,fs,rfl,_⟩:=h;rfl
theorem jJc {K vs H Q E} (h:nJ K vs H Q E):Kf K { nx:=λ _ H'=>Q .non H',rt:=Q } (start Wj vs) H:=by
 obtain ⟨a,ps,fs,rfl,hS,hf,hg,hn,hb,q⟩:=h
 rw [show start Wj [V.ref a]=[some (.ref a),none] from rfl]
 (dsimp! [Kf,cMax,aP,aV,aJ,aB,tC,tOp,aW,aO,aC,aK,dS,tCB,bW,List.append_nil])
 refine ⟨_,_,_,rfl,hS,hf,hg,hn,λ l p H1 s1 hl hp=>⟨_,rfl,_,SqT.of hp,_,kX,_,rfl,_,SqT.of hp,_,gQ,_,_,rfl,SqL.of hl,_,rfl,?_⟩⟩
 have hcl:(clr fs).length=fs.length:=by unfold clr;rw [length_map]
 have z:=pF (gl (clr fs))
 have b9:BB 9000 (mx1 (gl (clr fs))):=by
  unfold mx1;split
  ·show (1:Int).natAbs<2 ^ 9000;exact Nat.one_lt_two_pow (by decide)
  ·exact Uh hb
 refine ⟨_,_,rfl,show mx1 (gl (clr fs))≠0 by omega,b9,λ x y f H2 s2 hf2 lo=>?_⟩
 obtain ⟨e1,e2⟩:=lo.uniq z (bU z)
 have hF:H2 f=some (.tup [.int (whF fs).1,.int (whF fs).2]):=by unfold whF;rw [← e1,← e2];exact hf2
 refine ⟨_,rfl,_,SqT.of (s2 _ _ hp),_,gQ,_,_,rfl,SqL.of (s2 _ _ hl),by omega,hb,λ l2 H3 s3 _ hl3=>?_⟩
 refine ⟨sz2,λ r hr=>q r f l2 _ (((s1.trans s2).trans s3).trans (aF.upd hr)) aD (aF.upd hr _ _ (s3 _ _ hF)) (aF.upd hr _ _ hl3)⟩
noncomputable def Wk:List PySem.Str:=["one", "other"]
noncomputable def rB (K:W.Frag):Sp:=λ vs H Q _=>∃ p q a b c d,vs=[.ref p,.ref q]/\Tw K H p q a b c d/\0<b/\0<d/\BB 9000 (b*d)/\∀ r H',aF H H'->H' r=some (.tup [.int (lo2 (a*c) (b*d)).1,.int (lo2 (a*c) (b*d)).2])->Q (.ref r) H'
noncomputable def Kg (K:W.Frag):TS:=(aW (aO (gB K) [] E0 (aC (tOp cK (tOp (bW K) (aB 0) (tC (.int 0))) (tOp (bW K) (aB 1) (tC (.int 0)))) (aC (tOp cK (tOp (bW K) (aB 0) (tC (.int 1))) (tOp (bW K) (aB 1) (tC (.int 1)))) aK))))
theorem Xw {K vs H Q E} (h:rB K vs H Q E):vs.length=2:=by obtain ⟨p,q,a,b,c,d,rfl,_⟩:=h;rfl
theorem jJd {K vs H Q E} (h:rB K vs H Q E):Kg K { nx:=λ _ H'=>Q .non H',rt:=Q } (start Wk vs) H:=by
 obtain ⟨p,q,a,b,c,d,rfl,⟨hp,hq,ba,bb,bc,bd⟩,b0,d0,b9,k⟩:=h
 rw [show start Wk [V.ref p,V.ref q]=[some (.ref p),some (.ref q)] from rfl]
 (dsimp! [Kg,aB,tC,tOp,rI,cK,aW,aO,aC,aK,bW,List.append_nil])
 refine ⟨_,hp,_,kX,_,hq,_,kX,_,rfl,_,rfl,.b ba bc,_,hp,_,gQ,_,hq,_,gQ,_,rfl,_,rfl,.b bb bd,?_⟩
 have z:0<b*d:=Int.mul_pos b0 d0
 refine ⟨_,_,rfl,by omega,b9,λ x y r H' s h l=>k r H' s ?_⟩
 obtain ⟨e1,e2⟩:=l.uniq z (bU z)
 rw [← e1,← e2];exact h
noncomputable def Jh:List PySem.Str:=["row"]
noncomputable def pI (K:W.Frag):Sp:=λ vs H Q _=>∃ a ns,vs=[.ref a]/\SqL K H a (List.map V.int ns)/\ns≠[]/\ns.length<=200/\∀ (M:Nat) H',aF H H'->(∀ n∈ns,ib n<=M)->(∃ n∈ns,ib n=M)->Q (.int M) H'
noncomputable def wG (K:W.Frag):TE:=(Yw K "int" Zq (aB 0))
noncomputable def xQ (K:W.Frag):TS:=(aW (tCB (Nd K) (aC (bB (aZ K (aB 0)) [] (wG K)) aK)))
theorem Py {K vs H Q E} (h:pI K vs H Q E):vs.length=1:=by obtain ⟨_,_,rfl,_⟩:=h;rfl
theorem Rx {K vs H Q E} (h:pI K vs H Q E):xQ K { nx:=λ _ H'=>Q .non H',rt:=Q } (start Jh vs) H:=by
 obtain ⟨a,ns,rfl,ha,ne,nl,q⟩:=h
 rw [show start Jh [V.ref a]=[some (.ref a)] from rfl]
 (dsimp? [xQ,bB,aZ,Nd])
 refine ⟨⟨_,ha⟩,bJ (K:=K) (a:=a) (xs:=List.map V.int ns) (λ i zs H3=>H3=H/\zs=List.map V.int ((ns.take i).map λ n=>(ib n:Int))) (by rw [length_map,sizeLine_eq];omega) ⟨rfl,rfl⟩ ?_ ?_ ?_⟩
 ·rintro i zs H3 _ ⟨rfl,_⟩
  exact ha
 ·rintro i x zs H3 hi _ ⟨rfl,rfl⟩
  obtain ⟨n,rfl,hn⟩:=cU hi
  (dsimp? [wG,Yw,Zq])
  refine ⟨rfl,?_⟩
  rw [bC hn,map_append,map_append];rfl
 ·rintro zs H3 _ ⟨rfl,rfl⟩ p hp
  rw [length_map,take_length]
  refine ⟨_,SqL.of aD,λ z=>ne (map_eq_nil_iff.mp z),λ M hM hA=>?_⟩
  obtain ⟨n,hn,rfl⟩:=mem_map.mp hM
  refine q (ib n) _ (aF.upd hp) (λ m hm=>?_) ⟨n,hn,rfl⟩
  have:=hA _ (mem_map.mpr ⟨m,hm,rfl⟩)
  omega
noncomputable def Ak:List PySem.Str:=["rows", "place"]
noncomputable def fR (K:W.Frag):Sp:=λ vs H Q _=>∃ a ps rs,∃ k:Int,∃ c:Nat,vs=[.ref a,.int k]/\SqL K H a (List.map V.ref ps)/\bL H ps rs/\rs.length<=200/\(∀ r∈rs,atI (List.map V.int r) k=some (.int (r.getD c 0)))/\∀ l H',aF H H'->H l=none->H' l=some (.lst (List.map V.int (rs.map λ r=>r.getD c 0)))->Q (.ref l) H'
noncomputable def sE (K:W.Frag):TE:=(tOp (dD K) (aB 0) (aB 1))
noncomputable def rO (K:W.Frag):TS:=(aW (bB (aZ K (aB 0)) [1] (sE K)))
theorem Gi {K vs H Q E} (h:fR K vs H Q E):vs.length=2:=by obtain ⟨_,_,_,_,_,rfl,_⟩:=h;rfl
theorem Lp {K vs H Q E} (h:fR K vs H Q E):rO K { nx:=λ _ H'=>Q .non H',rt:=Q } (start Ak vs) H:=by
 obtain ⟨a,ps,rs,k,c,rfl,hS,hr,hn,hc,q⟩:=h
 have hpl:=hr.length
 rw [show start Ak [V.ref a,V.int k]=[some (.ref a),some (.int k)] from rfl]
 (dsimp! [rO,bB,aZ,aB,aW])
 refine ⟨⟨_,hS⟩,bJ (K:=K) (a:=a) (xs:=List.map V.ref ps) (WEq H λ i zs=>zs=List.map V.int ((rs.take i).map λ r=>r.getD c 0)) ?_ ⟨rfl,rfl⟩ ?_ ?_ ?_⟩
 ·rw [length_map,sizeLine_eq];omega
 ·rintro i ys H3 _ ⟨rfl,_⟩
  exact hS
 ·rintro i x ys H3 hi _ ⟨rfl,rfl⟩
  obtain ⟨p,rfl,hp⟩:=bK hi
  obtain ⟨r,er,hrow⟩:=hr.get hp
  (dsimp! [sE,bG,List.map_cons,List.map_nil,Option.join_some,aB,tOp,dD])
  refine ⟨_,SqL.of hrow,_,hc r (mem_of_getElem? er),rfl,?_⟩
  show _=List.map V.int ((rs.take (i+1)).map λ r=>r.getD c 0)
  rw [bC er,map_append,map_append];rfl
 ·rintro ys H3 _ ⟨rfl,rfl⟩ l hl
  rw [length_map,hpl,take_length]
  exact q l _ (aF.upd hl) hl aD
noncomputable def N_span:List PySem.Str:=["column"]
noncomputable def vK (K:W.Frag):Sp:=λ vs H Q _=>∃ a ns,vs=[.ref a]/\SqL K H a (List.map V.int ns)/\ns.length<=200/\(∀ n∈ns,BB 20000 n)/\∀ n H',aF H H'->BB 30000 n->Q (.int n) H'
noncomputable def Hh (K:W.Frag):TE:=(tCB Mr (aC (aB 0) aK))
noncomputable def Qt (K:W.Frag):TS:=(aW (tOp gS (tC (.int 1)) (tCB (Zf K) (aC (bB (aZ K (aB 0)) [] (Hh K)) aK))))
theorem jJ0 {K vs H Q E} (h:vK K vs H Q E):vs.length=1:=by obtain ⟨_,_,rfl,_⟩:=h;rfl
theorem rd_span {K vs H Q E} (h:vK K vs H Q E):Qt K { nx:=λ _ H'=>Q .non H',rt:=Q } (start N_span vs) H:=by
 obtain ⟨a,ns,rfl,hS,hn,hb,q⟩:=h
 rw [show start N_span [V.ref a]=[some (.ref a)] from rfl]
 (dsimp! [Qt,bB,aZ,Zf,aB,tC,tOp,rI0,gS,aW,aC,aK,tCB])
 refine ⟨⟨_,hS⟩,bJ (K:=K) (a:=a) (xs:=List.map V.int ns) (WEq H λ i zs=>zs=List.map V.int ((ns.take i).map λ n=>(n.natAbs:Int))) ?_ ⟨rfl,rfl⟩ ?_ ?_ ?_⟩
 ·rw [length_map,sizeLine_eq];omega
 ·rintro i ys H3 _ ⟨rfl,_⟩
  exact hS
 ·rintro i x ys H3 hi _ ⟨rfl,rfl⟩
  obtain ⟨c,rfl,hc⟩:=cU hi
  (dsimp! [Hh,abs_eq,aB,aC,aK,tCB,Mr])
  refine ⟨rfl,?_⟩
  show _=List.map V.int ((ns.take (i+1)).map λ n=>(n.natAbs:Int))
  rw [bC hc,map_append,map_append];rfl
 ·rintro ys H3 _ ⟨rfl,rfl⟩ l hl
  rw [length_map,take_length]
  refine ⟨_,SqL.of aD,q _ _ (aF.upd hl) ?_⟩
  have h1:=Qz (l:=ns.map λ n=>(n.natAbs:Int)) (p:=20000) λ x hx=>by
   obtain ⟨n,hm,rfl⟩:=mem_map.mp hx
   have:=hb n hm
   unfold BB at this ⊢
   rwa [Int.natAbs_natCast]
  rw [length_map] at h1
  have one:BB (20000+ns.length) 1:=by show (1:Int).natAbs<2 ^ _;exact Nat.one_lt_two_pow (by omega)
  exact (one.add h1).mono (by omega)
noncomputable def N_unit:List PySem.Str:=["many", "place"]
noncomputable def Bp (K:W.Frag):Sp:=λ vs H Q _=>∃ n k:Nat,vs=[.int n,.int k]/\n<=200/\∀ l H',aF H H'->H l=none->H' l=some (.lst (List.map V.int (ofF n λ r=>if r=k then 1 else 0)))->Q (.ref l) H'
noncomputable def Hg (K:W.Frag):TE:=(tIf (bE (tOp rEq (aB 0) (aB 1))) (tC (.int 1)) (tC (.int 0)))
noncomputable def Qs (K:W.Frag):TS:=(aW (bB (eJ (aC (aB 0) aK)) [1] (Hg K)))
theorem jJz {K vs H Q E} (h:Bp K vs H Q E):vs.length=2:=by obtain ⟨n,k,rfl,_⟩:=h;rfl
theorem rd_unit {K vs H Q E} (h:Bp K vs H Q E):Qs K { nx:=λ _ H'=>Q .non H',rt:=Q } (start N_unit vs) H:=by
 obtain ⟨n,k,rfl,hn,q⟩:=h
 rw [show start N_unit [V.int n,V.int k]=[some (.int n),some (.int k)] from rfl]
 (dsimp! [Qs,bB,eJ,aB,aW,aC,aK])
 refine ⟨by omega,by omega,fB (lo:=0) (W:=WEq H λ i zs=>zs=List.map V.int (ofF i λ r=>if r=k then 1 else 0)) (by rw [sizeLine_eq];omega) ⟨rfl,rfl⟩ ?_ ?_⟩
 ·rintro i ys H3 _ _ ⟨rfl,rfl⟩
  (dsimp! [Hg,tIf,bG,List.map_cons,List.map_nil,Option.join_some,aB,tC,tOp,rEq,dI,bE,decide_eq_true_eq])
  refine vF (λ h=>⟨rfl,?_⟩) (λ h=>⟨rfl,?_⟩)
  ·show _=List.map V.int (ofF (i+1) λ r=>if r=k then 1 else 0)
   have:i=k:=by omega
   rw [bT,map_append,if_pos this];rfl
  ·show _=List.map V.int (ofF (i+1) λ r=>if r=k then 1 else 0)
   have:¬ i=k:=by omega
   rw [bT,map_append,if_neg this];rfl
 ·rintro ys H3 _ ⟨rfl,rfl⟩ l hl
  rw [Int.toNat_natCast]
  exact q l _ (aF.upd hl) hl aD
noncomputable def uH:List PySem.Str:=["self", "lists"]
noncomputable def fK (K:W.Frag):Sp:=λ vs H Q _=>∃ t dx r rps L,vs=[.ref t,.ref r]/\H t=some (.ins (aX K "Corner") dx [])/\tL H r rps L/\L.Lim/\L.fl=false /\
 ∀ ins H',H ins=none->Sb t H H'->gA K H' t ins L L.ins0->Q .non H'
noncomputable def oP (K:W.Frag):TE:=(tOp gS (tCB (eI K) (aC (dC K (aB 1) "begun") aK)) (aB 0))
noncomputable def oI (K:W.Frag):TS:=(vE K (aB 0) (bB (eJ (aC (tOp nH (tCB (eI K) (aC (aB 1) aK)) (tC (.int 1))) aK)) [0] (oP K)) "inside")
noncomputable def oO (K:W.Frag):TE:=(tOp oW (aO (Bp K) [] E0 (aC (tCB (eI K) (aC (aB 2) aK)) (aC (aB 0) aK))) (lU (aC (tOp (dD K) (aB 1) (tUn fZ (tC (.int 1)))) aK)))
noncomputable def oJ (K:W.Frag):TG:=(gG K 2 (bQ (aJ 0) (bQ (aJ 1) gH)))
noncomputable def oH (K:W.Frag):TS:=(aP (vE K (aB 0) (dU (qU K (aB 1)) 2 [1] (oJ K) (oO K)) "kept") (oI K))
noncomputable def oN (K:W.Frag):TE:=(aO (vK K) [] E0 (aC (tSl (xA K) (aB 0) fN (nG (tUn fZ (tC (.int 1))))) aK))
noncomputable def oM (K:W.Frag):TE:=(aO (vK K) [] E0 (aC (lU (aC (tC (.int 1)) aK)) aK))
noncomputable def oG (K:W.Frag):TS:=(aP (vE K (aB 0) (tOp oW (bB (aZ K (dC K (aB 0) "begun")) [] (oN K)) (bB (aZ K (tSl (xA K) (aB 1) fN (nG (tUn fZ (tC (.int 1)))))) [] (oM K))) "spans") (oH K))
noncomputable def oK (K:W.Frag):TE:=(aO (fR K) [] E0 (aC (aB 1) (aC (aB 0) aK)))
noncomputable def nD (K:W.Frag):TS:=(aP (vE K (aB 0) (bB (eJ (aC (tOp nH (tCB (eI K) (aC (tOp (dD K) (aB 1) (tC (.int 0))) aK)) (tC (.int 1))) aK)) [1] (oK K)) "begun") (oG K))
theorem Bg {K vs H Q E} (h:fK K vs H Q E):vs.length=2:=by obtain ⟨_,_,_,_,_,rfl,_⟩:=h;rfl
theorem jZd (L:Lpd) (hj:j<L.n):(ofF (L.m+1) L.rowL).map (λ r=>r.getD j 0)=L.colL j:=by
 unfold Lpd.colL
 have e:(ofF (L.m+1) L.rowL).map (λ r=>r.getD j 0)=ofF (L.m+1) λ i=>(L.rowL i).getD j 0:=by unfold ofF;rw [List.map_map];rfl
 rw [e]
 exact gP λ i _=>dW (L.rowL_get i hj)
theorem tL.sb {t:Addr} {L:Lpd} (h:tL H a rps L) (s:Sb t H H') (i:IsI H t):tL H' a rps L:=⟨s.lst i h.ha,s.rws i h.hr⟩
theorem Gq (xs:List V) (m:Nat) (h:xs.length=m+1):(iG xs none (some (-1))).length=m:=by rw [Oo,length_take];omega
theorem oc2 (h:m<=100):m+1<=16777216:=by omega
theorem oc3 (h:m<=100):m+1+1<=16777216:=by omega
theorem oc7 (h:m<=100):-(2 ^ 62)<=(m:Int)/\(m:Int)<2 ^ 62:=by omega
theorem oc8 {a b n:Nat} (h1:a=n) (h2:b=m) (h5:m<=100) (h6:n<=100):a+b<=16777216:=by omega
theorem oc9 (h:m<=100):m<=16777216:=by omega
theorem oc10:((m+1:Nat):Int) - 1=(m:Int):=by omega
theorem oc12 (h:m<=100):m+1<=200:=by omega
theorem Fj {K vs H Q E} (C:Aq K) (h:fK K vs H Q E):nD K { nx:=λ _ H'=>Q .non H',rt:=Q } (start uH vs) H:=by
 obtain ⟨t,dx,r,rps,L,rfl,ht,R,lim,fl,q⟩:=h
 have rl:=R.len
 have m1:=lim.m1
 have n1:=lim.n1
 have hI:IsI H t:=⟨_,_,_,ht⟩
 rw [show start uH [V.ref t,V.ref r]=[some (.ref t),some (.ref r)] from rfl]
 obtain ⟨p0,ep0,hp0⟩:=R.row (Nat.zero_le L.m)
 (dsimp? [nD,vE,bB,eJ])
 refine ⟨_,SqL.of R.ha,V.ref p0,cF (j:=0) (by rw [getElem?_map,ep0];rfl),p0,rfl,_,.inl (SqL.of hp0),?_⟩
 rw [length_map,Lpd.rowL_length,oc10,Int.toNat_natCast]
 refine ⟨(oc7 n1).1,(oc7 n1).2,fB (lo:=0) (W:=λ i zs H3=>aF H H3/\∃ bps,zs=List.map V.ref bps/\bL H3 bps (ofF i L.colL)) (by rw [sizeLine_eq];exact oc9 n1) ⟨aF.refl _,[],rfl,trivial⟩ ?_ ?_⟩
 ·rintro i ys H3 hi _ ⟨s3,cps,rfl,hc⟩
  (dsimp? [oK,bG,List.map_cons,List.map_nil,Option.join_some])
  refine ⟨r,rps,_,0+(i:Int),i,rfl,SqL.of (s3 _ _ R.ha),(R.same s3).hr,by rw [aN];exact oc12 m1,λ row hrow=>?_,λ l H4 s4 hl hl4=>⟨s3.trans s4,cps++[l],by rw [map_append];rfl,?_⟩⟩
  ·obtain ⟨k,hk,rfl⟩:=iY hrow
   rw [Int.zero_add]
   exact gC (by rw [Lpd.rowL_length];omega)
  ·rw [bT]
   exact bL.snoc (hc.same s4) (by rw [hl4,jZd L hi])
 ·rintro ys H3 _ ⟨s3,bps,rfl,hbp⟩ bl hbl
  have s4:=s3.trans (aF.upd (o:=HO.lst (List.map V.ref bps)) hbl)
  have hbp4:=hbp.same (aF.upd (o:=HO.lst (List.map V.ref bps)) hbl)
  have hbl4:(upd H3 bl (.lst (List.map V.ref bps))) bl=some (.lst (List.map V.ref bps)):=aD
  generalize upd H3 bl (.lst (List.map V.ref bps))=H4 at s4 hbp4 hbl4
  clear s3 hbp hbl
  have bpl:bps.length=L.n:=by rw [hbp4.length,aN]
  have t4:H4 t=some (.ins (aX K "Corner") dx []):=s4 _ _ ht
  have I4:IsI H4 t:=⟨_,_,_,t4⟩
  refine ⟨_,_,_,t4,C.cl,C.nb,by show 0<1000;decide,?_⟩
  have b5:Sb t H4 (upd H4 t (.ins (aX K "Corner") dx (cL "begun" (.ref bl) []))):=Sb.at
  have t5:(upd H4 t (.ins (aX K "Corner") dx (cL "begun" (.ref bl) []))) t=some (.ins (aX K "Corner") dx (cL "begun" (.ref bl) [])):=aD
  generalize upd H4 t (.ins (aX K "Corner") dx (cL "begun" (.ref bl) []))=H5 at b5 t5
  have b05:Sb t H H5:=(Sb.of s4).trans b5
  have I5:IsI H5 t:=⟨_,_,_,t5⟩
  have hbp5:=b5.rws I4 hbp4
  have hbl5:=b5.lst I4 hbl4
  have R5:=R.sb b05 hI
  clear b5 s4 t4 I4 hbp4 hbl4 hp0
  (dsimp? [oG,vE,bB,aZ,oW,dC])
  refine ⟨_,_,_,t5,C.cl,C.nb,_,rfl,bl,rfl,⟨_,SqL.of hbl5⟩,bJ (K:=K) (a:=bl) (xs:=List.map V.ref bps) (λ i zs H3=>aF H5 H3/\∃ ss:List Int,zs=List.map V.int ss/\ss.length=i/\∀ x∈ss,BB 30000 x) ?_ ⟨aF.refl _,[],rfl,rfl,(λ _ h=>nomatch h)⟩ ?_ ?_ ?_⟩
  ·rw [length_map,bpl,sizeLine_eq];exact oc9 n1
  ·rintro i zs H3 _ ⟨s3,_⟩
   exact s3.seq (SqL.of hbl5)
  ·rintro i x zs H3 hi _ ⟨s3,ss,rfl,sl,sb⟩
   obtain ⟨z,rfl,hz⟩:=bK hi
   obtain ⟨row,er,hrow⟩:=hbp5.get hz
   obtain ⟨hin,rfl⟩:=cJ er
   (dsimp? [oN,xA])
   refine ⟨_,s3.seq (SqL.of hrow),λ zc hzc=>?_⟩
   have ec:iG (List.map V.int (L.colL i)) none (some (-1))=List.map V.int ((L.colL i).take ((L.colL i).length - 1)):=by rw [Oo,length_map,map_take]
   rw [ec]
   refine ⟨zc,_,rfl,SqL.of aD,?_,λ x hx=>?_,λ n H6 s6 bn=>⟨(s3.trans (aF.upd hzc)).trans s6,ss++[n],by rw [map_append];rfl,by rw [length_append,sl];rfl,λ x hx=>?_⟩⟩
   ·unfold Lpd.colL;rw [length_take,aN];exact Nat.le_trans (Nat.min_le_right _ _) (oc12 m1)
   ·obtain ⟨k,hk,rfl⟩:=iY (mem_of_mem_take hx)
    exact lim.ba _ _ hin (Nat.le_of_lt_succ hk)
   ·rcases mem_append.mp hx with hx | hx
    ·exact sb x hx
    ·rw [mem_singleton.mp hx];exact bn
  ·rintro zs H3 _ ⟨s3,ss,rfl,sl,sb⟩ l1 hl1
   rw [length_map,bpl] at sl
   have s6:=s3.trans (aF.upd (o:=HO.lst (List.map V.int ss)) hl1)
   have hl6:(upd H3 l1 (.lst (List.map V.int ss))) l1=some (.lst (List.map V.int ss)):=aD
   generalize upd H3 l1 (.lst (List.map V.int ss))=H6 at s6 hl6
   refine ⟨_,SqL.of (s6 _ _ R5.ha),λ lc hlc=>?_⟩
   have lcl:=Gq (List.map V.ref rps) L.m (by rw [length_map];exact rl)
   generalize iG (List.map V.ref rps) none (some (-1))=cs at lcl
   have s6c:=s6.trans (aF.upd (o:=HO.lst cs) hlc)
   have lc6:(upd H6 lc (HO.lst cs)) lc=some (HO.lst cs):=aD
   have hl6c:=aF.upd (o:=HO.lst cs) hlc _ _ hl6
   generalize upd H6 lc (HO.lst cs)=H6c at s6c lc6 hl6c
   refine ⟨⟨_,SqL.of lc6⟩,bJ (K:=K) (a:=lc) (xs:=cs) (λ i zs H3=>aF H6c H3/\∃ ss:List Int,zs=List.map V.int ss/\ss.length=i/\∀ x∈ss,BB 30000 x) ?_ ⟨aF.refl _,[],rfl,rfl,(λ _ h=>nomatch h)⟩ ?_ ?_ ?_⟩
   ·rw [lcl,sizeLine_eq];exact oc9 m1
   ·rintro i zs H7 _ ⟨s7,_⟩
    exact s7.seq (SqL.of lc6)
   ·rintro i x zs H7 hi _ ⟨s7,s2,rfl,sl2,sb2⟩
    (dsimp? [oM])
    refine ⟨sz1,λ l2 hl2=>⟨_,[1],rfl,SqL.of aD,by decide,λ n hn=>by rw [mem_singleton.mp hn];show (1:Int).natAbs<2 ^ 20000;exact Nat.one_lt_two_pow (by decide),λ n H8 s8 bn=>⟨(s7.trans (aF.upd hl2)).trans s8,s2++[n],by rw [map_append];rfl,by rw [length_append,sl2];rfl,λ x hx=>?_⟩⟩⟩
    rcases mem_append.mp hx with hx | hx
    ·exact sb2 x hx
    ·rw [mem_singleton.mp hx];exact bn
   ·rintro zs H7 _ ⟨s7,s2,rfl,sl2,sb2⟩ l2 hl2
    rw [lcl] at sl2
    refine ⟨_,aF.upd hl2 _ _ (s7 _ _ hl6c),_,aD,by rw [length_map,length_map,sizeLine_eq];exact oc8 sl sl2 m1 n1,λ sp hsp=>?_⟩
    have s8:=(s6c.trans (s7.trans (aF.upd (o:=HO.lst (List.map V.int s2)) hl2))).trans (aF.upd (o:=HO.lst (List.map V.int ss++List.map V.int s2)) hsp)
    have hsp8:(upd (upd H7 l2 (.lst (List.map V.int s2))) sp (.lst (List.map V.int ss++List.map V.int s2))) sp=some (.lst (List.map V.int (ss++s2))):=by rw [aD,map_append]
    generalize upd (upd H7 l2 (.lst (List.map V.int s2))) sp (.lst (List.map V.int ss++List.map V.int s2))=H8 at s8 hsp8
    clear s6 hl6 s7 hl2 hsp s3 hl1 s6c lc6 hl6c hlc
    have sb':∀ x∈ss++s2,BB 30000 x:=λ x hx=>by
     rcases mem_append.mp hx with hx | hx
     ·exact sb x hx
     ·exact sb2 x hx
    have sl':(ss++s2).length=L.n+L.m:=by rw [length_append,sl,sl2]
    generalize ss++s2=sss at sb' sl' hsp8
    clear sb sb2 sl sl2
    have t8:=s8 _ _ t5
    have I8:IsI H8 t:=⟨_,_,_,t8⟩
    refine ⟨_,_,_,t8,C.cl,C.ns,by show 1<1000;decide,?_⟩
    have b9:Sb t H8 (upd H8 t (.ins (aX K "Corner") dx (cL "spans" (.ref sp) (cL "begun" (.ref bl) [])))):=Sb.at
    have t9:(upd H8 t (.ins (aX K "Corner") dx (cL "spans" (.ref sp) (cL "begun" (.ref bl) [])))) t=some (.ins (aX K "Corner") dx (cL "spans" (.ref sp) (cL "begun" (.ref bl) []))):=aD
    generalize upd H8 t (.ins (aX K "Corner") dx (cL "spans" (.ref sp) (cL "begun" (.ref bl) [])))=H9 at b9 t9
    have b09:Sb t H H9:=b05.trans ((Sb.of s8).trans b9)
    have I9:IsI H9 t:=⟨_,_,_,t9⟩
    have hbp9:=b9.rws I8 (hbp5.same s8)
    have hbl9:=b9.lst I8 (s8 _ _ hbl5)
    have hsp9:=b9.lst I8 hsp8
    have R9:=R.sb b09 hI
    clear b9 s8 I8 t8 hbp5 hbl5 b05 I5 t5 hsp8 R5
    (dsimp? [oH,vE,dU,qU,oW])
    refine ⟨⟨_,SqL.of R9.ha⟩,Ua (K:=K) (a:=r) (xs:=List.map V.ref rps) (λ i zs H3=>aF H9 H3/\∃ kps,zs=List.map V.ref kps/\bL H3 kps (ofF i (L.keptL L.ins0))) ?_ ⟨aF.refl _,[],rfl,trivial⟩ ?_ ?_ ?_⟩
    ·rw [length_map,rl,sizeLine_eq];exact oc2 m1
    ·rintro i zs H3 _ ⟨s3,_⟩
     exact s3.seq (SqL.of R9.ha)
    ·rintro i x p zs H3 hi _ ⟨s3,kps,rfl,hkp⟩ hp os ho
     obtain ⟨z,rfl,hz⟩:=bK hi
     obtain ⟨im,hrow⟩:=(R9.same s3).inv hz
     obtain ⟨o1,o2,rfl⟩:∃ o1 o2,os=[o1,o2]:=by
      match os,ho with
      | [o1,o2],_=>exact ⟨o1,o2,rfl⟩
     have s4:=aF.upd (o:=HO.tup [.int i,.ref z]) hp
     (dsimp? [oJ,oO,oW,bG,List.map_cons,List.map_nil,Option.join_some])
     refine ⟨_,SqT.of aD,rfl,_,_,rfl,_,_,rfl,rfl,⟨[some (.int i),some (.ref z)],rfl,rfl⟩,_,.inl ((s3.trans s4).seq (SqL.of R9.ha)),?_⟩
     rw [length_map,rl]
     refine ⟨L.m+1,i,rfl,oc12 m1,λ l1 H4 s5 _ hl1=>?_⟩
     have la:atI (List.map V.int (L.rowL i)) (-1)=some (.int (L.be i)):=Dx (by rw [length_map,Lpd.rowL_length,getElem?_map,Nat.add_sub_cancel,L.rowL_last];rfl)
     refine ⟨z,rfl,_,SqL.of ((s4.trans s5) _ _ hrow),_,la,sz1,λ l2 hl2=>⟨l1,rfl,_,aF.upd hl2 _ _ hl1,_,aD,by rw [length_map,aN,sizeLine_eq];exact oc3 m1,λ l3 hl3=>?_⟩⟩
     refine ⟨(((s3.trans s4).trans s5).trans (aF.upd hl2)).trans (aF.upd hl3),kps++[l3],by rw [map_append];rfl,?_⟩
     rw [bT i (L.keptL L.ins0)]
     refine bL.snoc ((((hkp.same s4).same s5).same (aF.upd hl2)).same (aF.upd hl3)) ?_
     rw [aD]
     unfold Lpd.keptL
     rw [Lpd.T_start fl (Nat.lt_succ_of_le im),map_append]
     congr 3
     show _=_
     congr 1
     refine gP λ k hk=>?_
     rw [Lpd.T_start fl (Nat.lt_succ_of_le im)]
     unfold e1
     by_cases e:i=k
     ·rw [if_pos e.symm,if_pos e]
     ·rw [if_neg (Ne.symm e),if_neg e]
    ·rintro zs H3 _ ⟨s3,kps,rfl,hkp⟩ kl hkl
     rw [length_map,rl] at hkp
     have s11:=s3.trans (aF.upd (o:=HO.lst (List.map V.ref kps)) hkl)
     have hkp11:=hkp.same (aF.upd (o:=HO.lst (List.map V.ref kps)) hkl)
     have hkl11:(upd H3 kl (.lst (List.map V.ref kps))) kl=some (.lst (List.map V.ref kps)):=aD
     generalize upd H3 kl (.lst (List.map V.ref kps))=H11 at s11 hkp11 hkl11
     have t11:=s11 _ _ t9
     have I11:IsI H11 t:=⟨_,_,_,t11⟩
     refine ⟨_,_,_,t11,C.cl,C.nk,by show 2<1000;decide,?_⟩
     have b12:Sb t H11 (upd H11 t (.ins (aX K "Corner") dx (cL "kept" (.ref kl) (cL "spans" (.ref sp) (cL "begun" (.ref bl) []))))):=Sb.at
     have t12:(upd H11 t (.ins (aX K "Corner") dx (cL "kept" (.ref kl) (cL "spans" (.ref sp) (cL "begun" (.ref bl) []))))) t=some (.ins (aX K "Corner") dx (cL "kept" (.ref kl) (cL "spans" (.ref sp) (cL "begun" (.ref bl) [])))):=aD
     generalize upd H11 t (.ins (aX K "Corner") dx (cL "kept" (.ref kl) (cL "spans" (.ref sp) (cL "begun" (.ref bl) []))))=H12 at b12 t12
     have b012:Sb t H H12:=b09.trans ((Sb.of s11).trans b12)
     have I12:IsI H12 t:=⟨_,_,_,t12⟩
     have hbp12:=b12.rws I11 (hbp9.same s11)
     have hbl12:=b12.lst I11 (s11 _ _ hbl9)
     have hsp12:=b12.lst I11 (s11 _ _ hsp9)
     have hkp12:=b12.rws I11 hkp11
     have hkl12:=b12.lst I11 hkl11
     have R12:=R.sb b012 hI
     clear b12 s11 I11 t11 hbp9 hbl9 hsp9 hkp hkp11 hkl11 s3 b09 t9 I9 R9 hkl
     (dsimp? [oI,vE,bB,eJ])
     refine ⟨_,.inl (SqL.of R12.ha),?_⟩
     rw [length_map,rl,oc10,Int.toNat_natCast]
     refine ⟨(oc7 m1).1,(oc7 m1).2,fB (lo:=0) (W:=WEq H12 λ i zs=>zs=List.map V.int (ofF i λ i=>((L.ins0 i:Nat):Int))) (by rw [sizeLine_eq];exact oc9 m1) ⟨rfl,rfl⟩ ?_ ?_⟩
     ·rintro i zs H13 hi _ ⟨rfl,rfl⟩
      (dsimp? [oP,dC,bG,List.map_cons,List.map_nil,Option.join_some])
      refine ⟨_,_,_,t12,C.cl,C.nb,_,rfl,bl,rfl,_,.inl (SqL.of hbl12),rfl,?_⟩
      show _=List.map V.int (ofF (i+1) λ i=>((L.ins0 i:Nat):Int))
      rw [bT,map_append,length_map,bpl]
      congr 3
      unfold Lpd.ins0
      show (L.n:Int)+(0+(i:Int))=((L.n+i:Nat):Int)
      omega
     ·rintro zs H13 _ ⟨rfl,rfl⟩ ins hins
      have s14:=aF.upd (o:=HO.lst (List.map V.int (L.insL L.ins0))) hins
      have i14:(upd H13 ins (.lst (List.map V.int (L.insL L.ins0)))) ins=some (.lst (List.map V.int (L.insL L.ins0))):=aD
      have nit:ins≠t:=λ e=>by rw [e,t12] at hins;cases hins
      have hinsH:H ins=none:=b012.free hins nit
      show ∃ x x_3 x_4,upd H13 ins (.lst (List.map V.int (L.insL L.ins0))) t=some (HO.ins x x_3 x_4)/\_
      have t14:=s14 _ _ t12
      have nb:∀ {a:Addr} {o:HO},H13 a=some o->a≠ins:=λ e z=>by rw [z,hins] at e;cases e
      have nt:∀ {a:Addr} {xs:List V},H13 a=some (.lst xs)->a≠t:=λ e=>gM e t12 (by intro z;cases z)
      refine ⟨_,_,_,t14,C.cl,C.ni,by show 3<1000;decide,q ins _ hinsH ((b012.trans (Sb.of s14)).trans Sb.at) ⟨dx,bl,sp,kl,bps,sss,kps,?_,?_,?_,?_,sl',sb',?_,?_,?_⟩⟩
      ·rw [aD];rfl
      ·rw [jV (.inl rfl),jV (.inr rfl)];exact Gz hbl12 (nt hbl12) (nb hbl12)
      ·rw [jV (.inl rfl),jV (.inr rfl)];exact hbp12.mn (hbp12.notI I12) (hbp12.notN hins)
      ·rw [jV (.inl rfl),jV (.inr rfl)];exact Gz hsp12 (nt hsp12) (nb hsp12)
      ·rw [jV (.inl rfl),jV (.inr rfl)];exact Gz hkl12 (nt hkl12) (nb hkl12)
      ·rw [jV (.inl rfl),jV (.inr rfl)];exact hkp12.mn (hkp12.notI I12) (hkp12.notN hins)
      ·rw [aR nit];exact i14
noncomputable def Ew:List PySem.Str:=["one", "other"]
noncomputable def jL (K:W.Frag):Sp:=λ vs H Q _=>∃ a b,∃ n:Nat,∃ xs ys,∃ f g:Nat->Int,vs=[.ref a,.ref b]/\SqL K H a (List.map V.int xs)/\SqL K H b (List.map V.int ys)/\n<=200/\n<=xs.length/\n<=ys.length/\(xs.length<=n∨ys.length<=n)/\(∀ k,k<n->xs[k]?=some (f k)/\ys[k]?=some (g k)/\BB 20000 (f k)/\BB 20000 (g k))/\∀ H',aF H H'->Q (.int (sm n λ k=>f k*g k)) H'
noncomputable def tR (K:W.Frag):TE:=(tOp cK (aB 0) (aB 1))
noncomputable def tQ (K:W.Frag):TG:=(gG K 2 (bQ (aJ 0) (bQ (aJ 1) gH)))
noncomputable def uR (K:W.Frag):TS:=(aW (tCB (Zf K) (aC (dU (lV K (aC (aB 0) (aC (aB 1) aK))) 2 [] (tQ K) (tR K)) aK)))
theorem Ma {K vs H Q E} (h:jL K vs H Q E):vs.length=2:=by obtain ⟨_,_,_,_,_,_,_,rfl,_⟩:=h;rfl
theorem Pf {K vs H Q E} (h:jL K vs H Q E):uR K { nx:=λ _ H'=>Q .non H',rt:=Q } (start Ew vs) H:=by
 obtain ⟨a,b,n,xs,ys,f,g,rfl,hA,hB,hn,h1,h2,h3,h4,q⟩:=h
 rw [show start Ew [V.ref a,V.ref b]=[some (.ref a),some (.ref b)] from rfl]
 (dsimp! [uR,dU,lV,Zf,aB,aW,aC,aK,tCB])
 refine ⟨⟨_,hA⟩,⟨_,hB⟩,Tz (K:=K) (a:=a) (b:=b) (xs:=List.map V.int xs) (ys:=List.map V.int ys) n (λ i zs H3=>aF H H3/\zs=List.map V.int (ofF i λ k=>f k*g k)) (by rw [sizeLine_eq];omega) (by rw [length_map];omega) (by rw [length_map];omega) (by rw [length_map,length_map];exact h3) ⟨aF.refl _,rfl⟩ ?_ ?_ ?_⟩
 ·rintro i zs H3 _ ⟨s3,_⟩
  exact ⟨s3.seq hA,s3.seq hB⟩
 ·rintro i x y p zs H3 hx hy hi _ ⟨s3,rfl⟩ hp os ho
  obtain ⟨e1,e2,b1,b2⟩:=h4 i hi
  obtain ⟨c,rfl,hc⟩:=cU hx
  obtain ⟨d,rfl,hd⟩:=cU hy
  rw [hc] at e1
  rw [hd] at e2
  obtain rfl:=Option.some.inj e1
  obtain rfl:=Option.some.inj e2
  obtain ⟨o1,o2,rfl⟩:∃ o1 o2,os=[o1,o2]:=by
   match os,ho with
   | [o1,o2],_=>exact ⟨o1,o2,rfl⟩
  (dsimp! [tQ,tR,aJ,aB,tOp,rI,cK,gG,bQ,gH,Lca,Lna])
  refine ⟨_,SqT.of aD,rfl,_,_,rfl,_,_,rfl,rfl,⟨[some (.int (f i)),some (.int (g i))],rfl,rfl⟩,_,rfl,_,rfl,.b b1 b2,s3.trans (aF.upd hp),?_⟩
  rw [bT,map_append];rfl
 ·rintro ys2 H3 _ ⟨s3,rfl⟩ l hl
  refine ⟨_,SqL.of aD,?_⟩
  rw [Ve]
  exact q _ (s3.trans (aF.upd hl))
noncomputable def mQ:List PySem.Str:=["self", "last", "lacks", "found", "place", "lack"]
noncomputable def oV:Option Nat->V
 | none=>.non
 | some f=>.int f
noncomputable def EntO (L:Lpd) (s:Nat->Nat) (i:Nat):Option Nat->Prop
 | none=>∀ c,c<i->0<=L.T s L.m (L.cv c)
 | some c=>c<i/\L.T s L.m (L.cv c)<0
noncomputable def dH (K:W.Frag):Sp:=λ vs H Q _=>∃ t ins L s,vs=[.ref t]/\gA K H t ins L s/\L.Lim/\L.Okn s/\∀ o H',aF H H'->EntO L s (L.n+L.m) o->Q (oV o) H'
noncomputable def Qj (t p l:Addr) (L:Lpd) (s:Nat->Nat) (H0:Hp):Nat->St->Hp->Prop:=λ i σ H3=>∃ o o1 o2,σ=[some (.ref t),some (.ref p),some (.ref l),some (oV o),o1,o2]/\aF H0 H3/\EntO L s i o
noncomputable def jS (K:W.Frag):TS:=(cQ (Mn (bE (tOp jT (aB 5) (tC (.int 0)))) (tOr (bE (tOp Cf (aB 3) (tC .non))) (bE (tOp jT (tOp cK (aB 5) (tOp (dD K) (dC K (aB 0) "spans") (aB 3))) (tOp cK (tOp (dD K) (aB 2) (aB 3)) (tOp (dD K) (dC K (aB 0) "spans") (aB 4))))))) (aV (aB 4) (aJ 3)) bS)
noncomputable def fL (K:W.Frag):TG:=(gG K 2 (bQ (aJ 4) (bQ (aJ 5) gH)))
noncomputable def jQ (K:W.Frag):TS:=(aP (aV (tC .non) (aJ 3)) (aP (cV (qU K (aB 2)) (fL K) (jS K)) (aW (aB 3))))
noncomputable def jR (K:W.Frag):TE:=(aO (jL K) [] E0 (aC (aB 0) (aC (aB 1) aK)))
noncomputable def jP (K:W.Frag):TS:=(aP (aV (tOp oW (bB (aZ K (dC K (aB 0) "begun")) [1] (jR K)) (tSl (xA K) (aB 1) fN (nG (tCB (eI K) (aC (dC K (aB 0) "inside") aK))))) (aJ 2)) (jQ K))
noncomputable def iB (K:W.Frag):TS:=(aP (aV (tOp (dD K) (dC K (aB 0) "kept") (tUn fZ (tC (.int 1)))) (aJ 1)) (jP K))
theorem tO {K vs H Q E} (h:dH K vs H Q E):vs.length=1:=by obtain ⟨_,_,_,_,rfl,_⟩:=h;rfl
theorem Wa {ns:List Int} {n:Nat} (h:n<=ns.length):iG (List.map V.int ns) none (some (n:Int))=List.map V.int (ns.take n):=by
 unfold iG
 have e:HT.sIx (List.map V.int ns).length (List.map V.int ns).length (some (n:Int))=n:=by
  show (if (n:Int)<0 then ((n:Int)+((List.map V.int ns).length:Int)).toNat else min (n:Int).toNat (List.map V.int ns).length)=n
  rw [if_neg (by omega),length_map,Int.toNat_natCast]
  exact Nat.min_eq_left h
 rw [HT.sIx_none,e,List.drop_zero,Nat.sub_zero,map_take]
theorem ofF_add (n m:Nat) (f:Nat->α):ofF n f++ofF m (λ k=>f (n+k))=ofF (n+m) f:=by
 induction m with
 | zero=>exact List.append_nil _
 | succ m ih=>rw [bT,← List.append_assoc,ih,← Nat.add_assoc,bT]
theorem Ep (L:Lpd) (s:Nat->Nat) (i:Nat):(L.keptL s i).take L.m=ofF L.m λ k=>L.T s i (e1 k):=by
 apply List.ext_getElem?
 intro k
 by_cases hk:k<L.m
 ·rw [List.getElem?_take_of_lt hk,L.keptL_get s i (by omega),cA _ hk]
 ·rw [getElem?_eq_none (by rw [length_take];omega),getElem?_eq_none (by rw [aN];omega)]
theorem vA {K vs H Q E} (C:Aq K) (h:dH K vs H Q E):iB K { nx:=λ _ H'=>Q .non H',rt:=Q } (start mQ vs) H:=by
 obtain ⟨t,ins,L,s,rfl,⟨dx,b,sp,k,bs,ss,ks,P⟩,lim,ok,q⟩:=h
 have bl:=P.bl
 have kl:=P.kl
 have m1:=lim.m1
 have n1:=lim.n1
 obtain ⟨p,_,atp,hrow⟩:=P.last
 rw [show start mQ [V.ref t]=[some (.ref t),none,none,none,none,none] from rfl]
 (dsimp? [iB,dC])
 refine ⟨_,_,_,P.ob,C.cl,C.nk,_,eZ _ _ _ _,_,rfl,_,SqL.of P.Kp,_,atp,?_⟩
 (dsimp? [jP,dC,bB,aZ,oW])
 refine ⟨_,_,_,P.ob,C.cl,C.nb,_,iM _ _ _ _,_,rfl,⟨_,SqL.of P.B⟩,bJ (K:=K) (a:=b) (xs:=List.map V.ref bs) (λ i zs H3=>aF H H3/\zs=List.map V.int (ofF i λ j=>L.T s L.m (L.cv j))) ?_ ⟨aF.refl _,rfl⟩ ?_ ?_ ?_⟩
 ·rw [length_map,sizeLine_eq];omega
 ·rintro i ys H3 _ ⟨s3,_⟩
  exact s3.seq (SqL.of P.B)
 ·rintro i x ys H3 hi _ ⟨s3,rfl⟩
  obtain ⟨pc,rfl,hp⟩:=bK hi
  have hin:i<L.n:=by have:=(List.getElem?_eq_some_iff.mp hp).1;omega
  obtain ⟨r,er,hcol⟩:=P.Bs.get hp
  obtain ⟨_,rfl⟩:=cJ er
  (dsimp! [jR,bG,List.map_cons,List.map_nil,Option.join_some,aB,aO,aC,aK,List.append_nil])
  refine ⟨_,_,L.m+1,_,_,L.a i,λ k=>L.T s L.m (e1 k),rfl,s3.seq (SqL.of hcol),s3.seq (SqL.of hrow),by omega,?_,?_,.inl ?_,λ j hj=>⟨cA _ hj,L.keptL_get s L.m (by omega),lim.ba _ _ hin (by omega),lim.bk _ _ _ ok (Nat.le_refl _) (by omega)⟩,λ H4 s4=>⟨s3.trans s4,?_⟩⟩
  ·unfold Lpd.colL;rw [aN];exact Nat.le_refl _
  ·rw [Lpd.keptL_length];omega
  ·unfold Lpd.colL;rw [aN];exact Nat.le_refl _
  ·rw [L.T_prod s (Nat.le_refl _) hin,bT,map_append];rfl
 ·rintro ys H3 _ ⟨s3,rfl⟩ l1 hl1
  rw [length_map,bl]
  have s4:=s3.trans (aF.upd (o:=HO.lst (List.map V.int (ofF L.n λ j=>L.T s L.m (L.cv j)))) hl1)
  have hl4:(upd H3 l1 (.lst (List.map V.int (ofF L.n λ j=>L.T s L.m (L.cv j))))) l1=_:=aD
  generalize upd H3 l1 (.lst (List.map V.int (ofF L.n λ j=>L.T s L.m (L.cv j))))=H4 at s4 hl4
  refine ⟨_,_,_,s4 _ _ P.ob,C.cl,C.ni,_,lJ _ _ _ _,_,rfl,_,.inl (s4.seq (SqL.of P.hi)),?_⟩
  have il:(L.insL s).length=L.m:=by unfold Lpd.insL;rw [aN]
  rw [length_map,il]
  refine ⟨_,s4.seq (SqL.of hrow),λ l2 hl2=>?_⟩
  rw [Wa (by rw [Lpd.keptL_length];omega),Ep]
  have s5:=s4.trans (aF.upd (o:=HO.lst (List.map V.int (ofF L.m λ k=>L.T s L.m (e1 k)))) hl2)
  refine ⟨_,aF.upd hl2 _ _ hl4,_,aD,by rw [length_map,length_map,aN,aN,sizeLine_eq];omega,λ l3 hl3=>?_⟩
  have s6:=s5.trans (aF.upd (o:=HO.lst (List.map V.int (ofF L.n λ j=>L.T s L.m (L.cv j))++List.map V.int (ofF L.m λ k=>L.T s L.m (e1 k)))) hl3)
  have e:List.map V.int (ofF L.n λ j=>L.T s L.m (L.cv j))++List.map V.int (ofF L.m λ k=>L.T s L.m (e1 k))=List.map V.int (ofF (L.n+L.m) λ c=>L.T s L.m (L.cv c)):=by
   rw [← map_append,← ofF_add]
   congr 2
   exact gP λ k _=>by rw [L.cv_spare]
  rw [e] at s6 ⊢
  have h3:(upd (upd H4 l2 (.lst (List.map V.int (ofF L.m λ k=>L.T s L.m (e1 k))))) l3 (.lst (List.map V.int (ofF (L.n+L.m) λ c=>L.T s L.m (L.cv c))))) l3=_:=aD
  generalize upd (upd H4 l2 (.lst (List.map V.int (ofF L.m λ k=>L.T s L.m (e1 k))))) l3 (.lst (List.map V.int (ofF (L.n+L.m) λ c=>L.T s L.m (L.cv c))))=H6 at s6 h3
  (dsimp? [jQ,cV,qU])
  refine ⟨⟨_,SqL.of h3⟩,vY (K:=K) (a:=l3) (xs:=List.map V.int (ofF (L.n+L.m) λ c=>L.T s L.m (L.cv c))) (g:=fL K) (D:={ nx:=aW (aB 3) { nx:=λ _ H'=>Q .non H',rt:=Q },rt:=Q }) (Qj t p l3 L s H6) ?_ ?_ ?_ ?_⟩
  ·exact ⟨none,none,none,rfl,aF.refl _,λ c hc=>absurd hc (Nat.not_lt_zero _)⟩
  ·rintro i σ H7 _ ⟨_,_,_,_,s7,_⟩
   exact s7.seq (SqL.of h3)
  ·rintro i x pp σ H7 hi ⟨o,o1,o2,rfl,s7,en⟩ hpp
   obtain ⟨v,rfl,hv⟩:=cU hi
   obtain ⟨hin,rfl⟩:=cJ hv
   have s8:=s7.trans (aF.upd (o:=HO.tup [.int i,.int (L.T s L.m (L.cv i))]) hpp)
   have stay:0<=L.T s L.m (L.cv i)∨o≠none->EntO L s (i+1) o:=λ hz=>by
    cases o with
    | none =>
     intro c hc
     by_cases hci:c=i
     ·rw [hci];exact hz.resolve_right (λ z=>z rfl)
     ·exact en c (by omega)
    | some f=>exact ⟨by have:=en.1;omega,en.2⟩
   (dsimp! [fL,jS,Cf,dC,aV,aJ,aB,tC,tOp,rI0,rI,cK,jT,cQ,bE,bS,dD,Mn,tOr,gG,bQ,gH,decide_eq_true_eq])
   refine ⟨_,SqT.of aD,rfl,_,_,rfl,_,_,rfl,rfl,_,rfl,vF (λ hneg=>?_) (λ hn=>⟨o,_,_,rfl,s8,stay (.inl (by omega))⟩)⟩
   cases o with
   | none =>
    simp only [oV,if_true,exists_eq_left',V.int.injEq,Option.some.injEq,exists_eq_left,V.ref.injEq,V.bl.injEq,List.cons.injEq,and_true,true_and,exists_and_left,and_assoc,cD,cE,cC,cY,fU,dL]
    exact ⟨some i,_,_,rfl,s8,by omega,hneg⟩
   | some f =>
    have hf:=en.1
    have ssl:=P.sl
    simp only [oV,reduceCtorEq,if_false,exists_eq_left',V.int.injEq,Option.some.injEq,exists_eq_left,V.ref.injEq,V.bl.injEq,List.cons.injEq,and_true,true_and,exists_and_left,and_assoc,cD,cE,cC,cY,fU,dL]
    have b1:=lim.bc s L.m i ok (Nat.le_refl _)
    have b2:=lim.bc s L.m f ok (Nat.le_refl _)
    refine ⟨_,_,_,(s6.trans s8) _ _ P.ob,C.cl,C.ns,_,tJ _ _ _ _,_,rfl,_,(s6.trans s8).seq (SqL.of P.S),_,gC (i:=f) (by omega),_,rfl,.b b1 (P.sb _ (jK (by omega))),?_⟩
    refine ⟨_,s8.seq (SqL.of h3),_,gC (i:=f) (by rw [aN];omega),_,_,_,(s6.trans s8) _ _ P.ob,C.cl,C.ns,_,tJ _ _ _ _,_,rfl,_,(s6.trans s8).seq (SqL.of P.S),_,gC (i:=i) (by omega),_,rfl,_,rfl,.b (m:=20000) (by rw [dW (cA (λ c=>L.T s L.m (L.cv c)) (show f<L.n+L.m by omega))];exact b2) (P.sb _ (jK (by omega))),?_⟩
    exact vF (λ _=>⟨some i,_,_,rfl,s8,by omega,hneg⟩) (λ _=>⟨some f,_,_,rfl,s8,stay (.inr (by simp))⟩)
  ·rintro σ H7 ⟨o,o1,o2,rfl,s7,en⟩
   (dsimp! [aB,aW])
   refine q o H7 (s6.trans s7) ?_
   rw [length_map,aN] at en
   exact en
noncomputable def oS:List PySem.Str:=["self", "column"]
noncomputable def eV (K:W.Frag):Sp:=λ vs H Q _=>∃ t ins L s,∃ c:Nat,vs=[.ref t,.int c]/\gA K H t ins L s/\L.Lim/\L.Okn s/\c<L.n+L.m/\∀ l H',aF H H'->H l=none->H' l=some (.lst (List.map V.int (L.numL s c)))->Q (.ref l) H'
noncomputable def kF (K:W.Frag):TE:=(aO (jL K) [] E0 (aC (tOp (dD K) (dC K (aB 2) "begun") (aB 1)) (aC (aB 0) aK)))
noncomputable def iU (K:W.Frag):TS:=(aP (cQ (bE (tOp jT (aB 1) (tCB (eI K) (aC (dC K (aB 0) "begun") aK)))) (aW (bB (aZ K (dC K (aB 0) "kept")) [1,0] (kF K))) bS) (aW (aO (fR K) [] E0 (aC (dC K (aB 0) "kept") (aC (tOp nH (aB 1) (tCB (eI K) (aC (dC K (aB 0) "begun") aK))) aK)))))
theorem vC {K vs H Q E} (h:eV K vs H Q E):vs.length=2:=by obtain ⟨_,_,_,_,_,rfl,_⟩:=h;rfl
theorem wV {K vs H Q E} (C:Aq K) (h:eV K vs H Q E):iU K { nx:=λ _ H'=>Q .non H',rt:=Q } (start oS vs) H:=by
 obtain ⟨t,ins,L,s,c,rfl,⟨dx,b,sp,k,bs,ss,ks,P⟩,lim,ok,hc,q⟩:=h
 have bl:=P.bl
 have kl:=P.kl
 have m1:=lim.m1
 rw [show start oS [V.ref t,V.int c]=[some (.ref t),some (.int c)] from rfl]
 (dsimp! [iU,dC,bB,aZ,aP,aB,tOp,rI0,nH,jT,aW,cQ,bE,bS,aO,aC,aK,tCB,eI,List.append_nil,decide_eq_true_eq])
 refine ⟨_,_,_,P.ob,C.cl,C.nb,_,iM _ _ _ _,_,rfl,_,.inl (SqL.of P.B),?_⟩
 rw [length_map,bl]
 refine vF (λ hlt=>?_) (λ hlt=>?_)
 ·have hcn:c<L.n:=by omega
  refine ⟨_,_,_,P.ob,C.cl,C.nk,_,eZ _ _ _ _,_,rfl,⟨_,SqL.of P.Kp⟩,bJ (K:=K) (a:=k) (xs:=List.map V.ref ks) (λ i zs H3=>aF H H3/\zs=List.map V.int (ofF i λ i=>L.T s i (L.cv c))) ?_ ⟨aF.refl _,rfl⟩ ?_ ?_ ?_⟩
  ·rw [length_map,sizeLine_eq];omega
  ·rintro i ys H3 _ ⟨s3,_⟩
   exact s3.seq (SqL.of P.Kp)
  ·rintro i x ys H3 hi _ ⟨s3,rfl⟩
   obtain ⟨p,rfl,hp⟩:=bK hi
   have him:i<=L.m:=by have:=(List.getElem?_eq_some_iff.mp hp).1;omega
   obtain ⟨r,er,hrow⟩:=P.Ks.get hp
   obtain ⟨_,rfl⟩:=cJ er
   obtain ⟨pc,_,atc,hcol⟩:=P.col hcn
   (dsimp! [kF,dC,bG,List.map_cons,List.map_nil,Option.join_some,aB,tOp,aO,aC,aK,dD,List.append_nil])
   refine ⟨_,_,_,s3 _ _ P.ob,C.cl,C.nb,_,iM _ _ _ _,_,rfl,_,s3.seq (SqL.of P.B),_,atc,?_⟩
   refine ⟨_,_,L.m+1,_,_,L.a c,λ k=>L.T s i (e1 k),rfl,s3.seq (SqL.of hcol),s3.seq (SqL.of hrow),by omega,?_,?_,.inl ?_,λ j hj=>⟨cA _ hj,L.keptL_get s i (by omega),lim.ba _ _ hcn (by omega),lim.bk _ _ _ ok him (by omega)⟩,λ H4 s4=>⟨s3.trans s4,?_⟩⟩
   ·unfold Lpd.colL;rw [aN];exact Nat.le_refl _
   ·rw [Lpd.keptL_length];omega
   ·unfold Lpd.colL;rw [aN];exact Nat.le_refl _
   ·rw [L.T_prod s him hcn,bT,map_append];rfl
  ·rintro ys H3 _ ⟨s3,rfl⟩ l hl
   rw [length_map,kl]
   exact q l _ (s3.trans (aF.upd hl)) (s3.free hl) aD
 ·have hn:L.n<=c:=by omega
  refine ⟨_,_,_,P.ob,C.cl,C.nk,_,eZ _ _ _ _,_,_,_,P.ob,C.cl,C.nb,_,iM _ _ _ _,_,rfl,_,.inl (SqL.of P.B),?_⟩
  rw [length_map,bl]
  refine ⟨_,_,_,_,c - L.n,rfl,SqL.of P.Kp,P.Ks,by rw [aN];omega,λ r hr=>?_,λ l H' s1 hl hl'=>q l H' s1 hl ?_⟩
  ·obtain ⟨i,hi,rfl⟩:=iY hr
   have:=gC (l:=L.keptL s i) (i:=c - L.n) (by rw [Lpd.keptL_length];omega)
   rw [show ((c - L.n:Nat):Int)=(c:Int) - (L.n:Int) by omega] at this
   exact this
  ·rw [hl']
   congr 3
   unfold Lpd.numL
   unfold ofF
   rw [List.map_map]
   refine map_congr_left λ i hi=>?_
   have e:L.cv c=e1 (c - L.n):=by unfold Lpd.cv;rw [if_neg (by omega)]
   show (L.keptL s i).getD (c - L.n) 0=L.T s i (L.cv c)
   rw [e]
   exact dW (L.keptL_get s i (by omega))
noncomputable def Ey:List PySem.Str:=["row", "other", "column", "listed", "place", "mine", "yours"]
noncomputable def mF (K:W.Frag):Sp:=λ vs H Q _=>∃ a b l x y js,∃ c w:Nat,vs=[.ref a,.ref b,.int c,.ref l]/\SqL K H a (List.map V.int x)/\SqL K H b (List.map V.int y)/\SqL K H l (List.map (λ j:Nat=>V.int j) js)/\Ro x w/\Ro y w/\c<w/\(∀ j∈js,j<w)/\Q (.bl (decide (lx x y c js=some true))) H
noncomputable def jJ8 (a b l:Addr) (x y:List Int) (c:Nat) (js:List Nat) (H0:Hp):Nat->St->Hp->Prop:=SEq H0 λ i σ=>∃ o1 o2 o3,σ=[some (.ref a),some (.ref b),some (.int c),some (.ref l),o1,o2,o3]/\lx x y c js=lx x y c (js.drop i)
noncomputable def mY (K:W.Frag):TS:=(aW (tC (.bl false)))
noncomputable def Fx (K:W.Frag):TS:=(aP (aV (tOp cK (tOp (dD K) (aB 0) (aB 4)) (tOp (dD K) (aB 1) (aB 2))) (aJ 5)) (aP (aV (tOp cK (tOp (dD K) (aB 1) (aB 4)) (tOp (dD K) (aB 0) (aB 2))) (aJ 6)) (cQ (bE (tOp rNe (aB 5) (aB 6))) (aW (tOp jT (aB 5) (aB 6))) bS)))
noncomputable def uT (K:W.Frag):TS:=(aP (cV (aZ K (aB 3)) (aJ 4) (Fx K)) (mY K))
theorem Mc {K vs H Q E} (h:mF K vs H Q E):vs.length=4:=by obtain ⟨_,_,_,_,_,_,_,_,rfl,_⟩:=h;rfl
theorem jZX {js:List Nat} {x:V} (h:(List.map (λ j:Nat=>V.int j) js)[i]?=some x):∃ c:Nat,x=.int c/\js[i]?=some c:=by
 rw [getElem?_map] at h
 cases e:js[i]? with
 | none=>rw [e] at h;cases h
 | some z=>rw [e] at h;exact ⟨z,(Option.some.inj h).symm,rfl⟩
theorem lx_drop {x y:List Int} {js:List Nat} (h:js[i]?=some j):lx x y c (js.drop i)=if x.getD j 0*y.getD c 0=y.getD j 0*x.getD c 0 then lx x y c (js.drop (i+1)) else some (decide (x.getD j 0*y.getD c 0<y.getD j 0*x.getD c 0)):=by
 have hlt:i<js.length:=(List.getElem?_eq_some_iff.mp h).1
 rw [List.drop_eq_getElem_cons hlt]
 have:js[i]=j:=(List.getElem?_eq_some_iff.mp h).2
 rw [this]
 rfl
theorem Ph {K vs H Q E} (h:mF K vs H Q E):uT K { nx:=λ _ H'=>Q .non H',rt:=Q } (start Ey vs) H:=by
 obtain ⟨a,b,l,x,y,js,c,w,rfl,hA,hB,hL,⟨xl,xb⟩,⟨yl,yb⟩,hc,hj,q⟩:=h
 rw [show start Ey [V.ref a,V.ref b,V.int c,V.ref l]=[some (.ref a),some (.ref b),some (.int c),some (.ref l),none,none,none] from rfl]
 (dsimp! [uT,cV,aZ,aP,aJ,aB])
 refine ⟨⟨_,hL⟩,eO (K:=K) (a:=l) (xs:=List.map (λ j:Nat=>V.int j) js) (g:=aJ 4) (D:={ nx:=mY K { nx:=λ _ H'=>Q .non H',rt:=Q },rt:=Q }) (jJ8 a b l x y c js H) ?_ ?_ ?_ ?_⟩
 ·exact ⟨rfl,none,none,none,rfl,rfl⟩
 ·rintro i σ H3 _ ⟨rfl,_⟩
  exact hL
 ·rintro i v σ H3 hi ⟨rfl,o1,o2,o3,rfl,e⟩
  obtain ⟨j,rfl,ej⟩:=jZX hi
  have jw:=hj j (mem_of_getElem? ej)
  rw [lx_drop ej] at e
  (dsimp! [aP,aV,aJ,aB,tOp,rI0,rI,cK,jT,rNe,dI,aW,cQ,bE,bS,dD])
  refine ⟨_,hA,_,gC (i:=j) (by omega),_,hB,_,gC (i:=c) (by omega),_,rfl,_,rfl,.b (xb _ (jK (by omega))) (yb _ (jK (by omega))),_,hB,_,gC (i:=j) (by omega),_,hA,_,gC (i:=c) (by omega),_,rfl,_,rfl,.b (yb _ (jK (by omega))) (xb _ (jK (by omega))),?_⟩
  by_cases hz:x.getD j 0*y.getD c 0=y.getD j 0*x.getD c 0
  ·rw [if_neg (by rw [decide_eq_true hz];decide)]
   rw [if_pos hz] at e
   exact ⟨rfl,_,_,_,rfl,e⟩
  ·rw [if_pos (by rw [decide_eq_false hz];rfl)]
   rw [if_neg hz] at e
   rw [e] at q
   have:decide (some (decide (x.getD j 0*y.getD c 0<y.getD j 0*x.getD c 0))=some true)=decide (x.getD j 0*y.getD c 0<y.getD j 0*x.getD c 0):=by
    by_cases h2:x.getD j 0*y.getD c 0<y.getD j 0*x.getD c 0
    ·rw [decide_eq_true h2];rfl
    ·rw [decide_eq_false h2];rfl
   rw [this] at q
   exact q
 ·rintro σ H3 ⟨rfl,o1,o2,o3,rfl,e⟩
  rw [length_map,List.drop_length] at e
  rw [e] at q
  dsimp only [mY,tC,aW,cD,cE,cC]
  exact q
noncomputable def Jj:List PySem.Str:=["rows", "column", "listed", "found", "place", "row"]
noncomputable def pK (K:W.Frag):Sp:=λ vs H Q _=>∃ r l ps rs js,∃ c w:Nat,vs=[.ref r,.int c,.ref l]/\SqL K H r (List.map V.ref ps)/\bL H ps rs/\(∀ row∈rs,Ro row w)/\SqL K H l (List.map (λ j:Nat=>V.int j) js)/\c<w/\(∀ j∈js,j<w)/\∀ o H',aF H H'->Lv rs c js rs.length o->Q (oV o) H'
noncomputable def To (r l:Addr) (c:Nat) (rs:List (List Int)) (js:List Nat) (H0:Hp):Nat->St->Hp->Prop:=λ i σ H3=>∃ o o1 o2,σ=[some (.ref r),some (.int c),some (.ref l),some (oV o),o1,o2]/\aF H0 H3/\Lv rs c js i o
noncomputable def wI (K:W.Frag):TS:=(cQ (Mn (bE (tOp Qm (tOp (dD K) (aB 5) (aB 1)) (tC (.int 0)))) (tOr (bE (tOp Cf (aB 3) (tC .non))) (tB (aO (mF K) [] E0 (aC (aB 5) (aC (tOp (dD K) (aB 0) (aB 3)) (aC (aB 1) (aC (aB 2) aK)))))))) (aV (aB 4) (aJ 3)) bS)
noncomputable def pY (K:W.Frag):TG:=(gG K 2 (bQ (aJ 4) (bQ (aJ 5) gH)))
noncomputable def xS (K:W.Frag):TS:=(aP (aV (tC .non) (aJ 3)) (aP (cV (qU K (aB 0)) (pY K) (wI K)) (aW (aB 3))))
theorem Qa {K vs H Q E} (h:pK K vs H Q E):vs.length=3:=by obtain ⟨_,_,_,_,_,_,_,rfl,_⟩:=h;rfl
theorem Rz {K vs H Q E} (h:pK K vs H Q E):xS K { nx:=λ _ H'=>Q .non H',rt:=Q } (start Jj vs) H:=by
 obtain ⟨r,l,ps,rs,js,c,w,rfl,hR,hrs,hrw,hL,hc,hj,q⟩:=h
 have hpl:=hrs.length
 rw [show start Jj [V.ref r,V.int c,V.ref l]=[some (.ref r),some (.int c),some (.ref l),none,none,none] from rfl]
 (dsimp! [xS,cV,qU,aP,aV,aJ,aB,tC,aW])
 refine ⟨⟨_,hR⟩,vY (K:=K) (a:=r) (xs:=List.map V.ref ps) (g:=pY K) (D:={ nx:=aW (aB 3) { nx:=λ _ H'=>Q .non H',rt:=Q },rt:=Q }) (To r l c rs js H) ?_ ?_ ?_ ?_⟩
 ·exact ⟨none,none,none,rfl,aF.refl _,λ k row hk=>absurd hk (Nat.not_lt_zero _)⟩
 ·rintro i σ H3 _ ⟨_,_,_,_,s3,_⟩
  exact s3.seq hR
 ·rintro i x p σ H3 hi ⟨o,o1,o2,rfl,s3,lv⟩ hp
  obtain ⟨z,rfl,hz⟩:=bK hi
  obtain ⟨row,er,hrow⟩:=hrs.get hz
  obtain ⟨rl,rb⟩:=hrw row (mem_of_getElem? er)
  have s4:aF H (upd H3 p (.tup [.int i,.ref z])):=s3.trans (aF.upd hp)
  (dsimp! [pY,wI,Cf,aV,aJ,aB,tC,tOp,rI0,Qm,cQ,bE,tB,bS,aO,aC,aK,dD,Mn,tOr,gG,bQ,gH,List.append_nil,decide_eq_true_eq])
  refine ⟨_,SqT.of aD,rfl,_,_,rfl,_,_,rfl,rfl,_,rfl,_,SqL.of (s4 _ _ hrow),_,gC (by omega),_,rfl,vF (λ hpos=>?_) (λ hn=>⟨_,_,_,rfl,s4,lv.skip er hn⟩)⟩
  cases o with
  | none =>
   simp only [oV,if_true,Option.some.injEq,exists_eq_left',exists_eq_left,V.int.injEq,V.ref.injEq,V.bl.injEq,List.cons.injEq,and_true,true_and,exists_and_left,and_assoc,cD,cE,cC,cY,fU,dL]
   exact ⟨some i,_,_,rfl,s4,lv.first er hpos⟩
  | some f =>
   obtain ⟨hfi,fr,hf,_⟩:=id lv
   obtain ⟨zf,hzf⟩:∃ zf,ps[f]?=some zf:=⟨_,getElem?_eq_getElem (by rw [hpl];exact (List.getElem?_eq_some_iff.mp hf).1)⟩
   obtain ⟨fr',ef,hfr⟩:=hrs.get hzf
   rw [hf] at ef
   obtain rfl:=Option.some.inj ef
   have atf:atI (List.map V.ref ps) (f:Int)=some (.ref zf):=cF (by rw [getElem?_map,hzf];rfl)
   simp only [oV,reduceCtorEq,if_false,exists_eq_left',V.int.injEq,Option.some.injEq,exists_eq_left,V.ref.injEq,V.bl.injEq,List.cons.injEq,and_true,true_and,exists_and_left,and_assoc,cD,cE,cC,cY,fU,dL]
   refine ⟨_,s4.seq hR,_,atf,_,_,_,_,_,_,_,w,rfl,SqL.of (s4 _ _ hrow),SqL.of (s4 _ _ hfr),s4.seq hL,⟨rl,rb⟩,hrw fr (mem_of_getElem? hf),hc,hj,_,rfl,vF (λ ha=>⟨some i,_,_,rfl,s4,lv.take hf er hpos (by simpa using ha)⟩) (λ ha=>⟨some f,_,_,rfl,s4,lv.keep hf er hpos (by simpa using ha)⟩)⟩
 ·rintro σ H3 ⟨o,o1,o2,rfl,s3,lv⟩
  rw [length_map,hpl] at lv
  (dsimp! [aB,tC,tOp,rI0,rNe,dI,aW,bE])
  exact q o H3 s3 lv
noncomputable def kH:List PySem.Str:=["self", "numbers", "rows", "spares"]
noncomputable def LvO (L:Lpd) (s:Nat->Nat) (c:Nat):Option Nat->Prop
 | none=>∀ i,i<=L.m->L.T s i (L.cv c)<=0
 | some r=>r<=L.m/\0<L.T s r (L.cv c)/\∀ i,i<=L.m->0<L.T s i (L.cv c)->¬ lp (λ p=>- (L.T s i (L.li p)*L.T s r (L.cv c) - L.T s r (L.li p)*L.T s i (L.cv c))) L.ls
noncomputable def dR (K:W.Frag):Sp:=λ vs H Q _=>∃ t ins L s nl,∃ c:Nat,vs=[.ref t,.ref nl]/\gA K H t ins L s/\L.Lim/\L.Okn s/\H nl=some (.lst (List.map V.int (L.numL s c)))/\∀ o H',aF H H'->LvO L s c o->Q (oV o) H'
noncomputable def lvr (L:Lpd) (s:Nat->Nat) (c i:Nat):List Int:=L.keptL s i++[L.T s i (L.cv c)]
noncomputable def iD (K:W.Frag):TE:=(tOp oW (aB 0) (lU (aC (aB 1) aK)))
noncomputable def iC (K:W.Frag):TG:=(gG K 2 (bQ (aJ 0) (bQ (aJ 1) gH)))
noncomputable def fX (K:W.Frag):TS:=(aP (aV (dU (lV K (aC (dC K (aB 0) "kept") (aC (aB 1) aK))) 2 [] (iC K) (iD K)) (aJ 2)) (aP (aV (tCB (eI K) (aC (dC K (aB 0) "inside") aK)) (aJ 3)) (aW (aO (pK K) [] E0 (aC (aB 2) (aC (tOp gS (aB 3) (tC (.int 2))) (aC (tOp oW (lU (aC (tOp gS (aB 3) (tC (.int 1))) aK)) (Cj (aB 3))) aK)))))))
theorem qP {K vs H Q E} (h:dR K vs H Q E):vs.length=2:=by obtain ⟨_,_,_,_,_,_,rfl,_⟩:=h;rfl
theorem lvr_k (L:Lpd) (s:Nat->Nat) (c i:Nat) (h:k<=L.m):(lvr L s c i).getD k 0=L.T s i (e1 k):=dW (by unfold lvr;rw [getElem?_append_left (by rw [Lpd.keptL_length];omega),L.keptL_get s i h])
theorem lvr_b (L:Lpd) (s:Nat->Nat) (c i:Nat):(lvr L s c i).getD (L.m+1) 0=L.T s i L.be:=dW (by unfold lvr;rw [getElem?_append_left (by rw [Lpd.keptL_length];omega),L.keptL_last s i])
theorem Na (L:Lpd) (s:Nat->Nat) (c i:Nat):(lvr L s c i).getD (L.m+2) 0=L.T s i (L.cv c):=dW (by unfold lvr;rw [getElem?_append_right (by rw [Lpd.keptL_length];omega),Lpd.keptL_length,Nat.sub_self];rfl)
theorem sM {K vs H Q E} (C:Aq K) (h:dR K vs H Q E):fX K { nx:=λ _ H'=>Q .non H',rt:=Q } (start kH vs) H:=by
 obtain ⟨t,ins,L,s,nl,c,rfl,⟨dx,b,sp,k,bs,ss,ks,P⟩,lim,ok,hnl,q⟩:=h
 have kl:=P.kl
 have m1:=lim.m1
 have nll:(L.numL s c).length=L.m+1:=by unfold Lpd.numL;rw [aN]
 rw [show start kH [V.ref t,V.ref nl]=[some (.ref t),some (.ref nl),none,none] from rfl]
 (dsimp! [fX,dC,dU,lV,oW,Cj,aP,aV,aJ,aB,tC,tOp,rI0,gS,aW,aO,aC,aK,lU,tCB,eI,List.append_nil])
 refine ⟨_,_,_,P.ob,C.cl,C.nk,_,eZ _ _ _ _,_,rfl,⟨_,SqL.of P.Kp⟩,⟨_,SqL.of hnl⟩,kW (K:=K) (a:=k) (b:=nl) (xs:=List.map V.ref ks) (ys:=List.map V.int (L.numL s c)) (λ i zs H3=>aF H H3/\∃ qs,zs=List.map V.ref qs/\bL H3 qs (ofF i (lvr L s c))) ?_ ?_ ⟨aF.refl _,[],rfl,trivial⟩ ?_ ?_ ?_⟩
 ·rw [length_map,sizeLine_eq];omega
 ·rw [length_map,length_map];omega
 ·rintro i zs H3 _ ⟨s3,_⟩
  exact ⟨s3.seq (SqL.of P.Kp),s3.seq (SqL.of hnl)⟩
 ·rintro i x y p zs H3 hx hy _ ⟨s3,qs,rfl,hqs⟩ hp os ho
  obtain ⟨z,rfl,hz⟩:=bK hx
  obtain ⟨v,rfl,hv⟩:=cU hy
  obtain ⟨r,er,hrow⟩:=P.Ks.get hz
  obtain ⟨him,rfl⟩:=cJ er
  obtain ⟨_,rfl⟩:=cJ hv
  obtain ⟨o1,o2,rfl⟩:∃ o1 o2,os=[o1,o2]:=by
   match os,ho with
   | [o1,o2],_=>exact ⟨o1,o2,rfl⟩
  have s4:=aF.upd (o:=HO.tup [.ref z,.int (L.T s i (L.cv c))]) hp
  (dsimp! [iC,iD,oW,aJ,aB,tOp,aC,aK,lU,gG,bQ,gH,Lca,Lna])
  refine ⟨_,SqT.of aD,rfl,_,_,rfl,_,_,rfl,rfl,⟨[some (.ref z),some (.int (L.T s i (L.cv c)))],rfl,rfl⟩,sz1,λ l1 hl1=>?_⟩
  have s5:=aF.upd (o:=HO.lst [.int (L.T s i (L.cv c))]) hl1
  refine ⟨_,rfl,_,(s4.trans s5) _ _ (s3 _ _ hrow),_,aD,by rw [length_map,Lpd.keptL_length,sizeLine_eq];show L.m+2+1<=_;omega,λ l2 hl2=>?_⟩
  have s6:=aF.upd (o:=HO.lst (List.map V.int (L.keptL s i)++[V.int (L.T s i (L.cv c))])) hl2
  refine ⟨((s3.trans s4).trans s5).trans s6,qs++[l2],by rw [map_append];rfl,?_⟩
  rw [bT]
  refine bL.snoc (((hqs.same s4).same s5).same s6) ?_
  rw [aD]
  unfold lvr
  rw [map_append];rfl
 ·rintro zs H3 _ ⟨s3,qs,rfl,hqs⟩ l hl
  rw [length_map,kl] at hqs
  have s4:=s3.trans (aF.upd (o:=HO.lst (List.map V.ref qs)) hl)
  have hq4:=hqs.same (aF.upd (o:=HO.lst (List.map V.ref qs)) hl)
  have hl4:(upd H3 l (.lst (List.map V.ref qs))) l=some (.lst (List.map V.ref qs)):=aD
  generalize upd H3 l (.lst (List.map V.ref qs))=H4 at s4 hq4 hl4
  have il:(L.insL s).length=L.m:=by unfold Lpd.insL;rw [aN]
  refine ⟨_,_,_,s4 _ _ P.ob,C.cl,C.ni,_,lJ _ _ _ _,_,rfl,_,.inl (s4.seq (SqL.of P.hi)),?_⟩
  rw [length_map,il]
  refine ⟨sz1,λ l1 hl1=>⟨L.m,rfl,by omega,λ l2 hl2=>?_⟩⟩
  have s5:=(aF.upd (o:=HO.lst [.int ((L.m:Int)+1)]) hl1).trans (aF.upd (o:=HO.lst (List.map V.int (oU L.m))) hl2)
  refine ⟨_,aF.upd hl2 _ _ aD,_,aD,by rw [length_map,mJ,sizeLine_eq];show 1+L.m<=_;omega,λ l3 hl3=>?_⟩
  have s6:=s5.trans (aF.upd (o:=HO.lst ([V.int ((L.m:Int)+1)]++List.map V.int (oU L.m))) hl3)
  have e:[V.int ((L.m:Int)+1)]++List.map V.int (oU L.m)=List.map (λ j:Nat=>V.int j) ((L.m+1)::List.range L.m):=by
   unfold oU
   rw [List.map_map,List.map_cons]
   rfl
  refine ⟨_,_,_,_,(L.m+1)::List.range L.m,L.m+2,L.m+3,rfl,s6.seq (SqL.of hl4),hq4.same s6,λ row hr=>?_,?_,by omega,λ j hj=>?_,λ o H7 s7 lv=>?_⟩
  ·obtain ⟨i,hi,rfl⟩:=iY hr
   refine ⟨by unfold lvr;rw [length_append,Lpd.keptL_length];rfl,λ x hx=>?_⟩
   unfold lvr at hx
   rcases mem_append.mp hx with hx | hx
   ·exact lim.kept ok (by omega) x hx
   ·rw [mem_singleton.mp hx];exact lim.bc s i c ok (by omega)
  ·have:=SqL.of (K:=K) (aD (H:=upd (upd H4 l1 (.lst [.int ((L.m:Int)+1)])) l2 (.lst (List.map V.int (oU L.m)))) (a:=l3) (o:=.lst ([V.int ((L.m:Int)+1)]++List.map V.int (oU L.m))))
   rw [e] at this ⊢
   exact this
  ·rcases List.mem_cons.mp hj with rfl | hj
   ·omega
   ·have:=List.mem_range.mp hj;omega
  ·refine q o H7 ((s4.trans s6).trans s7) ?_
   rw [aN] at lv
   cases o with
   | none =>
    intro i hi
    have:=lv i _ (by omega) (cA (lvr L s c) (show i<L.m+1 by omega))
    rw [Na] at this
    omega
   | some r =>
    obtain ⟨hr,fr,hfr,hp,hm⟩:=lv
    obtain ⟨_,rfl⟩:=cJ hfr
    rw [Na] at hp
    refine ⟨by omega,hp,λ i hi hpi=>?_⟩
    have:=(hm i _ (by omega) (cA (lvr L s c) (show i<L.m+1 by omega)) (by rw [Na];exact hpi)).1
    exact Lpd.lx_lp (λ k hk=>lvr_k L s c r hk) (lvr_b L s c r) (Na L s c r) (λ k hk=>lvr_k L s c i hk) (lvr_b L s c i) (Na L s c i) this
noncomputable def qN:List PySem.Str:=["self"]
noncomputable def dB (K:W.Frag):Sp:=λ vs H Q _=>∃ t ins L s,vs=[.ref t]/\gA K H t ins L s/\Q (.int (L.D s)) H
noncomputable def jY (K:W.Frag):TS:=(aW (tOp (dD K) (tOp (dD K) (dC K (aB 0) "kept") (tUn fZ (tC (.int 1)))) (tUn fZ (tC (.int 2)))))
theorem wZ {K vs H Q E} (h:dB K vs H Q E):vs.length=1:=by obtain ⟨_,_,_,_,rfl,_⟩:=h;rfl
theorem atI_m2 {l:List Int} (h2:2<=l.length) (h:l[l.length - 2]?=some x):atI (List.map V.int l) (-2)=some (.int x):=by
 unfold atI ixN
 rw [length_map,if_neg (by omega),if_pos (by omega)]
 show (List.map V.int l)[(-2+(l.length:Int)).toNat]?=_
 rw [show (-2+(l.length:Int)).toNat=l.length - 2 by omega,getElem?_map,h];rfl
theorem yU {K vs H Q E} (C:Aq K) (h:dB K vs H Q E):jY K { nx:=λ _ H'=>Q .non H',rt:=Q } (start qN vs) H:=by
 obtain ⟨t,ins,L,s,rfl,⟨dx,b,sp,k,bs,ss,ks,P⟩,q⟩:=h
 rw [show start qN [V.ref t]=[some (.ref t)] from rfl]
 (dsimp! [jY,dC,aB,tC,tOp,tUn,rU,fZ,aW,dD])
 obtain ⟨p,hp,at1,hrow⟩:=P.last
 refine ⟨_,_,_,P.ob,C.cl,C.nk,_,eZ _ _ _ _,_,rfl,_,SqL.of P.Kp,_,at1,_,rfl,_,SqL.of hrow,_,atI_m2 (by rw [Lpd.keptL_length];omega) (by rw [Lpd.keptL_length];exact L.keptL_get s L.m (Nat.le_refl _)),?_⟩
 rw [show L.m+2 - 2=L.m by omega,L.last_own];exact q
noncomputable def oR:List PySem.Str:=["self", "column", "numbers", "at", "bottom", "gone", "moved", "row", "number"]
noncomputable def eU (K:W.Frag):Sp:=λ vs H Q _=>∃ t ins L s nl,∃ c r:Nat,vs=[.ref t,.int c,.ref nl,.int r]/\gA K H t ins L s/\L.Lim/\L.Okn s/\H nl=some (.lst (List.map V.int (L.numL s c)))/\r<L.m /\
 ∀ H',aF (mn t ins H) (mn t ins H')->gA K H' t ins L (Lpd.sput s r c)->(∀ f,H f≠none->CorF K H t ins L s f->CorF K H' t ins L (Lpd.sput s r c) f)->Q .non H'
noncomputable def mvr (L:Lpd) (s:Nat->Nat) (c r i:Nat):List Int:=(ofF (L.m+2) λ k=>((L.keptL s i).getD k 0*L.T s r (L.cv c) - (L.keptL s r).getD k 0*L.T s i (L.cv c)).fdiv (L.D s))
noncomputable def Vo (t nl mv g:Addr) (c r:Nat) (L:Lpd) (s:Nat->Nat) (H0:Hp):Nat->St->Hp->Prop:=λ i σ H3=>∃ o1 o2 qs,σ=[some (.ref t),some (.int c),some (.ref nl),some (.int r),some (.int (L.D s)),some (.ref g),some (.ref mv),o1,o2]/\aF H0 H3/\H3 mv=some (.lst (List.map V.ref qs))/\bL H3 qs (ofF i (mvr L s c r))/\(∀ x∈qs,H0 x=none)/\mv∉qs
noncomputable def fV (K:W.Frag):TS:=(aP (aV (aB 5) (An (aB 6) (aB 3) qH)) (aP (vE K (aB 0) (aB 6) "kept") (aV (aB 1) (An (dC K (aB 0) "inside") (aB 3) qH))))
noncomputable def kD (K:W.Frag):TE:=(tOp gR (tOp nH (tOp cK (aB 0) (tOp (dD K) (aB 4) (aB 5))) (tOp cK (aB 1) (aB 3))) (aB 2))
noncomputable def kC (K:W.Frag):TG:=(gG K 2 (bQ (aJ 0) (bQ (aJ 1) gH)))
noncomputable def kE (K:W.Frag):TS:=(dN (tBM K "list" iX (aB 6) (aC (dU (lV K (aC (aB 7) (aC (aB 5) aK))) 2 [4,8,2,3] (kC K) (kD K)) aK)))
noncomputable def fW (K:W.Frag):TG:=(gG K 2 (bQ (aJ 7) (bQ (aJ 8) gH)))
noncomputable def kB (K:W.Frag):TS:=(aP (aV (lU aK) (aJ 6)) (aP (cV (lV K (aC (dC K (aB 0) "kept") (aC (aB 2) aK))) (fW K) (kE K)) (fV K)))
noncomputable def iS (K:W.Frag):TS:=(aP (aV (cS (aX K "Corner") "bottom" (dB K) [] E0 (aB 0) aK) (aJ 4)) (aP (aV (tOp (dD K) (dC K (aB 0) "kept") (aB 3)) (aJ 5)) (kB K)))
theorem vB {K vs H Q E} (h:eU K vs H Q E):vs.length=4:=by obtain ⟨_,_,_,_,_,_,_,rfl,_⟩:=h;rfl
theorem mvr_eq {L:Lpd} (ok:L.Okn s) {r:Nat} (hr:r<L.m) (hi:i<=L.m) (hne:i≠r):mvr L s c r i=L.keptL (Lpd.sput s r c) i:=by
 have hD:=ok.ne
 have key:∀ y,(L.T s i y*L.T s r (L.cv c) - L.T s r y*L.T s i (L.cv c)).fdiv (L.D s)=L.T (Lpd.sput s r c) i y:=λ y=>by
  rw [← ok.exch (c:=c) hr (by omega) hne y]
  exact Int.mul_fdiv_cancel_left _ (by omega)
 apply List.ext_getElem?
 intro k
 unfold mvr
 by_cases hk:k<=L.m
 ·rw [cA _ (by omega),L.keptL_get _ _ hk,dW (L.keptL_get s i hk),dW (L.keptL_get s r hk),key]
 ·by_cases hk1:k=L.m+1
  ·subst hk1
   rw [cA _ (by omega),L.keptL_last,dW (L.keptL_last s i),dW (L.keptL_last s r),key]
  ·rw [getElem?_eq_none (by rw [aN];omega),getElem?_eq_none (by rw [Lpd.keptL_length];omega)]
theorem mvr_all {L:Lpd} (ok:L.Okn s) {r:Nat} (hr:r<L.m):(ofF (L.m+1) (mvr L s c r)).set r (L.keptL s r)=ofF (L.m+1) (L.keptL (Lpd.sput s r c)):=by
 apply List.ext_getElem?
 intro k
 rw [getElem?_set]
 by_cases hk:k<L.m+1
 ·rw [cA (L.keptL (Lpd.sput s r c)) hk]
  by_cases e:r=k
  ·subst e
   rw [if_pos rfl,if_pos (by rw [aN];omega)]
   congr 1
   unfold Lpd.keptL
   rw [Lpd.Ok.same hr,gP λ k _=>(Lpd.Ok.same (L:=L) (s:=s) (c:=c) hr (e1 k)).symm]
  ·rw [if_neg e,cA _ hk,mvr_eq ok hr (by omega) (Ne.symm e)]
 ·rw [getElem?_eq_none (l:=ofF (L.m+1) (L.keptL (Lpd.sput s r c))) (by rw [aN];omega)]
  by_cases e:r=k
  ·omega
  ·rw [if_neg e,getElem?_eq_none (by rw [aN];omega)]
theorem wU {K vs H Q E} (C:Aq K) (h:eU K vs H Q E):iS K { nx:=λ _ H'=>Q .non H',rt:=Q } (start oR vs) H:=by
 obtain ⟨t,ins,L,s,nl,c,r,rfl,ca,lim,ok,hnl,hr,q⟩:=h
 obtain ⟨dx,b,sp,k,bs,ss,ks,P⟩:=id ca
 have kl:=P.kl
 have m1:=lim.m1
 have il:(L.insL s).length=L.m:=by unfold Lpd.insL;rw [aN]
 have nll:(L.numL s c).length=L.m+1:=by unfold Lpd.numL;rw [aN]
 obtain ⟨g,hg,atg,hgr⟩:=P.row (i:=r) (by omega)
 rw [show start oR [V.ref t,V.int c,V.ref nl,V.int r]=[some (.ref t),some (.int c),some (.ref nl),some (.int r),none,none,none,none,none] from rfl]
 (dsimp? [iS,dC,cS])
 refine ⟨_,_,P.ob,rfl,_,_,_,_,rfl,ca,_,_,_,P.ob,C.cl,C.nk,_,eZ _ _ _ _,_,rfl,_,SqL.of P.Kp,_,atg,?_⟩
 (dsimp? [kB,dC,cV,lV])
 refine ⟨sz0,λ mv hmv=>?_⟩
 have s1:=aF.upd (o:=HO.lst []) hmv
 have hm1:(upd H mv (.lst [])) mv=some (.lst []):=aD
 generalize e1:upd H mv (.lst [])=H1 at s1 hm1
 refine ⟨_,_,_,s1 _ _ P.ob,C.cl,C.nk,_,eZ _ _ _ _,_,rfl,⟨_,s1.seq (SqL.of P.Kp)⟩,⟨_,s1.seq (SqL.of hnl)⟩,Vt (K:=K) (a:=k) (b:=nl) (xs:=List.map V.ref ks) (ys:=List.map V.int (L.numL s c)) (g:=fW K) (D:={ nx:=fV K { nx:=λ _ H'=>Q .non H',rt:=Q },rt:=Q }) (Vo t nl mv g c r L s H) ?_ ?_ ?_ ?_ ?_⟩
 ·exact ⟨none,none,[],rfl,s1,hm1,trivial,(λ _ h=>nomatch h),(λ h=>nomatch h)⟩
 ·rintro i σ H3 _ ⟨_,_,_,_,s3,_⟩
  exact ⟨s3.seq (SqL.of P.Kp),s3.seq (SqL.of hnl)⟩
 ·rw [length_map,length_map];omega
 ·rintro i x y p σ H3 hx hy ⟨o1,o2,qs,rfl,s3,hm3,hqs,hqn,hmq⟩ hp
  obtain ⟨z,rfl,hz⟩:=bK hx
  obtain ⟨v,rfl,hv⟩:=cU hy
  obtain ⟨row,er,hrow⟩:=P.Ks.get hz
  obtain ⟨him,rfl⟩:=cJ er
  obtain ⟨_,rfl⟩:=cJ hv
  have s4:=aF.upd (o:=HO.tup [.ref z,.int (L.T s i (L.cv c))]) hp
  (dsimp! [fW,kE,dN,tBM,iX,dU,lV,aJ,aB,aC,aK,gG,bQ,gH])
  refine ⟨_,SqT.of aD,rfl,_,_,rfl,_,_,rfl,rfl,?_⟩
  have hp4:=s4 _ _ hm3
  have hq4:=hqs.same s4
  generalize upd H3 p (.tup [.ref z,.int (L.T s i (L.cv c))])=H4 at s4 hp4 hq4
  have s04:=s3.trans s4
  have bD:=lim.bD s ok
  have D0:=ok.ne
  have br:=lim.bc s r c ok (by omega)
  have bi:=lim.bc s i c ok (by omega)
  refine ⟨.inl ⟨rfl,_,SqL.of hp4⟩,_,rfl,⟨_,s04.seq (SqL.of hrow)⟩,⟨_,s04.seq (SqL.of hgr)⟩,kW (K:=K) (a:=z) (b:=g) (xs:=List.map V.int (L.keptL s i)) (ys:=List.map V.int (L.keptL s r)) (λ j zs H5=>aF H4 H5/\zs=List.map V.int (ofF j λ k=>((L.keptL s i).getD k 0*L.T s r (L.cv c) - (L.keptL s r).getD k 0*L.T s i (L.cv c)).fdiv (L.D s))) ?_ ?_ ⟨aF.refl _,rfl⟩ ?_ ?_ ?_⟩
  ·rw [length_map,Lpd.keptL_length,sizeLine_eq];omega
  ·rw [length_map,length_map,Lpd.keptL_length,Lpd.keptL_length]
  ·rintro j zs H5 _ ⟨s5,_⟩
   exact ⟨(s04.trans s5).seq (SqL.of hrow),(s04.trans s5).seq (SqL.of hgr)⟩
  ·rintro j x y pp zs H5 hx hy _ ⟨s5,rfl⟩ hpp os ho
   obtain ⟨u,rfl,hu⟩:=cU hx
   obtain ⟨w,rfl,hw⟩:=cU hy
   obtain ⟨q1,q2,rfl⟩:∃ o1 o2,os=[o1,o2]:=by
    match os,ho with
    | [o1,o2],_=>exact ⟨o1,o2,rfl⟩
   have s6:=aF.upd (o:=HO.tup [.int u,.int w]) hpp
   have bu:=lim.kept ok (show i<=L.m by omega) u (mem_of_getElem? hu)
   have bw:=lim.kept ok (show r<=L.m by omega) w (mem_of_getElem? hw)
   have eu:=dW hu
   have ew:=dW hw
   (dsimp! [kC,kD,bG,List.map_cons,List.map_nil,Option.join_some,aJ,aB,tOp,rI0,rI,nH,cK,gR,dD,gG,bQ,gH,Lca,Lna])
   refine ⟨_,SqT.of aD,rfl,_,_,rfl,_,_,rfl,rfl,⟨[some (.int u),some (.int w)],rfl,rfl⟩,?_⟩
   refine ⟨_,((s04.trans s5).trans s6).seq (SqL.of hnl),_,cF (j:=r) (v:=V.int (L.T s r (L.cv c))) (by rw [getElem?_map];unfold Lpd.numL;rw [cA _ (by omega)];rfl),?_⟩
   refine ⟨_,rfl,_,rfl,.b bu br,_,rfl,.b bw bi,⟨by omega,bD⟩,s5.trans s6,?_⟩
   rw [bT,map_append,eu,ew];rfl
  ·rintro zs H5 _ ⟨s5,rfl⟩ l hl
   rw [length_map,Lpd.keptL_length] at *
   have s6:=aF.upd (o:=HO.lst (List.map V.int (mvr L s c r i))) hl
   have hl6:(upd H5 l (.lst (List.map V.int (mvr L s c r i)))) l=some (.lst (List.map V.int (mvr L s c r i))):=aD
   have hm6:=s6 _ _ (s5 _ _ hp4)
   have hq6:=hq4.same (s5.trans s6)
   have s06:=s04.trans (s5.trans s6)
   have hlH:H l=none:=(s04.trans s5).free hl
   have hlm:l≠mv:=λ e=>by rw [e,s5 _ _ hp4] at hl;cases hl
   show ∃ x,upd H5 l (.lst (List.map V.int (mvr L s c r i))) mv=some (HO.lst x)/\x.length<sizeLine/\Vo t nl mv g c r L s H (i+1) _ (upd (upd H5 l (.lst (List.map V.int (mvr L s c r i)))) mv (HO.lst (x++[V.ref l])))
   generalize upd H5 l (.lst (List.map V.int (mvr L s c r i)))=H6 at *
   refine ⟨_,hm6,by rw [length_map,hqs.length,aN,sizeLine_eq];omega,_,_,qs++[l],rfl,s06.put hmv,?_,?_,λ x hx=>?_,λ hx=>?_⟩
   ·rw [aD,map_append];rfl
   ·refine bL.put ?_ ?_
    ·intro hx
     rcases mem_append.mp hx with hx | hx
     ·exact hmq hx
     ·exact hlm (mem_singleton.mp hx).symm
    ·rw [bT]
     exact bL.snoc hq6 hl6
   ·rcases mem_append.mp hx with hx | hx
    ·exact hqn x hx
    ·rw [mem_singleton.mp hx];exact hlH
   ·rcases mem_append.mp hx with hx | hx
    ·exact hmq hx
    ·exact hlm (mem_singleton.mp hx).symm
 ·rintro σ H3 ⟨o1,o2,qs,rfl,s3,hm3,hqs,hqn,hmq⟩
  rw [length_map,kl] at hqs
  (dsimp! [fV,An,qH,vE,dC,aP,aV,aB])
  have hql:qs.length=L.m+1:=by rw [hqs.length,aN]
  have tmv:t≠mv:=bI P.ob hmv
  have imv:ins≠mv:=bI P.hi hmv
  have tin:t≠ins:=gM P.ob P.hi (by intro z;cases z)
  have hgm:mn t ins H g=some (.lst (List.map V.int (L.keptL s r))):=by
   obtain ⟨_,e1,e2⟩:=P.hks.get hg
   obtain ⟨_,rfl⟩:=cJ e1
   exact e2
  have gti:g≠t/\g≠ins:=by
   constructor
   ·rintro rfl;unfold mn at hgm;rw [if_pos (.inl rfl)] at hgm;cases hgm
   ·rintro rfl;unfold mn at hgm;rw [if_pos (.inr rfl)] at hgm;cases hgm
  have gmv:mv≠g:=λ e=>by rw [e,hgr] at hmv;cases hmv
  have eset:(List.map V.ref qs).set r (V.ref g)=List.map V.ref (qs.set r g):=by rw [List.map_set]
  have s4:aF H (upd H3 mv (.lst (List.map V.ref (qs.set r g)))):=s3.put hmv
  have hrows:bL (upd H3 mv (.lst (List.map V.ref (qs.set r g)))) (qs.set r g) (ofF (L.m+1) (L.keptL (Lpd.sput s r c))):=by
   rw [← mvr_all ok hr]
   refine bL.put (λ hx=>?_) (bL.setr (s3 _ _ hgr) r hqs)
   rcases mem_or_eq_of_mem_set hx with hx | hx
   ·exact hmq hx
   ·exact gmv hx
  have hmv4:(upd H3 mv (.lst (List.map V.ref (qs.set r g)))) mv=some (.lst (List.map V.ref (qs.set r g))):=aD
  refine ⟨_,hm3,_,by rw [length_map,hql];exact Bx (by omega) (by omega),?_⟩
  rw [Int.toNat_natCast,eset]
  generalize upd H3 mv (.lst (List.map V.ref (qs.set r g)))=H4 at s4 hrows hmv4
  refine ⟨_,_,_,s4 _ _ P.ob,C.cl,C.nk,by show 4<1000;decide,_,_,_,aD,C.cl,C.ni,_,lJ b sp mv ins,_,rfl,_,(by rw [aR tin.symm];exact s4 _ _ P.hi),_,(by rw [length_map,il];exact Bx (by omega) (by omega)),?_⟩
  rw [Int.toNat_natCast,cfl_put]
  have em:∀ o o',mn t ins (upd (upd H4 t o) ins o')=mn t ins H4:=λ o o'=>by rw [jV (.inr rfl),jV (.inl rfl)]
  have sm4:aF (mn t ins H) (mn t ins H4):=kK s4
  have P5:iH K (upd (upd H4 t (.ins (aX K "Corner") dx (cfl b sp mv ins))) ins (.lst ((List.map V.int (L.insL s)).set r (V.int c)))) t ins L (Lpd.sput s r c) dx b sp mv bs ss (qs.set r g):=by
   refine ⟨?_,?_,?_,?_,P.sl,P.sb,?_,?_,?_⟩
   ·rw [aR tin,aD]
   ·rw [em];exact sm4 _ _ P.hb
   ·rw [em];exact P.hbs.same sm4
   ·rw [em];exact sm4 _ _ P.hs
   ·rw [em];exact Gz hmv4 tmv.symm imv.symm
   ·rw [em]
    refine hrows.mn (λ hx=>?_) (λ hx=>?_)
    ·rcases mem_or_eq_of_mem_set hx with hx | hx
     ·have:=hqn _ hx;rw [P.ob] at this;cases this
     ·exact gti.1 hx.symm
    ·rcases mem_or_eq_of_mem_set hx with hx | hx
     ·have:=hqn _ hx;rw [P.hi] at this;cases this
     ·exact gti.2 hx.symm
   ·rw [aD,← List.map_set]
    unfold Lpd.insL
    rw [ofF_set]
    congr 3
    refine gP λ k _=>?_
    unfold Lpd.sput
    split <;> rfl
  refine q _ (by rw [em];exact sm4) ⟨_,_,_,_,_,_,_,P5⟩ λ f hf0 F=>?_
  obtain ⟨n1,n2,n3,n4,n5⟩:=F.of P
  refine ⟨_,_,_,_,_,_,_,P5,n1,n2,λ e=>hf0 (by rw [e];exact hmv),n4,λ hx=>?_⟩
  rcases mem_or_eq_of_mem_set hx with hx | hx
  ·exact hf0 (hqn _ hx)
  ·exact n5 (by rw [hx];exact mem_of_getElem? hg)
noncomputable def Af:List PySem.Str:=["corner", "column", "numbers", "at"]
noncomputable def kQ (K:W.Frag):Sp:=λ vs H Q _=>∃ t ins L s,vs=[.ref t]/\gA K H t ins L s/\L.Lim/\L.Okx s/\gK L s /\
 ∀ o s' H',aF (mn t ins H) (mn t ins H')->gA K H' t ins L s'->L.Okx s'->gK L s'->UnO L s' o->Q (oV o) H'
noncomputable def vP (K:W.Frag) (t ins:Addr) (L:Lpd) (H0:Hp) (σ:St) (H3:Hp) (s:Nat->Nat) (o:Option Nat):Prop:=(∃ o1 o2,σ=[some (.ref t),some (oV o),o1,o2])/\aF (mn t ins H0) (mn t ins H3)/\gA K H3 t ins L s/\L.Okx s/\gK L s/\EntO L s (L.n+L.m) o
open Classical in
noncomputable def Zt (K:W.Frag) (t ins:Addr) (L:Lpd) (H0:Hp) (σ:St) (H3:Hp):Nat:=if h:∃ s,∃ o,vP K t ins L H0 σ H3 s o then L.mu (Classical.choose h) else 0
noncomputable def lK (K:W.Frag):TS:=(aW (tC .non))
noncomputable def lL (K:W.Frag):TS:=(aP (aV (cS (aX K "Corner") "numbers" (eV K) [] E0 (aB 0) (aC (aB 1) aK)) (aJ 2)) (aP (aV (cS (aX K "Corner") "leaving_by" (dR K) [] E0 (aB 0) (aC (aB 2) aK)) (aJ 3)) (aP (cQ (bE (tOp Cf (aB 3) (tC .non))) (aW (aB 1)) bS) (aP (dN (cS (aX K "Corner") "step_in" (eU K) [] E0 (aB 0) (aC (aB 1) (aC (aB 2) (aC (aB 3) aK))))) (aV (cS (aX K "Corner") "entering" (dH K) [] E0 (aB 0) aK) (aJ 1))))))
noncomputable def rH (K:W.Frag):TS:=(aP (aV (cS (aX K "Corner") "entering" (dH K) [] E0 (aB 0) aK) (aJ 1)) (aP (pA (bE (tOp Mz (aB 1) (tC .non))) (lL K)) (lK K)))
theorem Gc {K vs H Q E} (h:kQ K vs H Q E):vs.length=1:=by obtain ⟨_,_,_,_,rfl,_⟩:=h;rfl
theorem jZJ {L:Lpd} (h:L.insL s=L.insL s') (hi:i<L.m):s i=s' i:=by
 unfold Lpd.insL at h
 have h1:=cA (λ i=>(s i:Int)) hi
 rw [h,cA (λ i=>(s' i:Int)) hi] at h1
 have:=Option.some.inj h1
 omega
theorem Wp {L:Lpd} (h:∀ i,i<L.m->s i=s' i):L.B s=L.B s':=by
 funext i
 unfold Lpd.B
 by_cases hi:i<L.m
 ·rw [if_pos hi,if_pos hi,h i hi]
 ·rw [if_neg hi,if_neg hi]
theorem Oh {L:Lpd} (h:∀ i,i<L.m->s i=s' i):L.mu s=L.mu s':=by
 have e:=Wp h
 unfold Lpd.mu Lpd.Fur Lpd.T Lpd.D
 rw [e]
theorem gA.ins_eq {K:W.Frag} {t ins:Addr} {L:Lpd} (h:gA K H t ins L s) (h':gA K H t ins L s'):∀ i,i<L.m->s i=s' i:=λ i hi=>by
 obtain ⟨_,_,_,_,_,_,_,P⟩:=h
 obtain ⟨_,_,_,_,_,_,_,P'⟩:=h'
 have e:=P.hi.symm.trans P'.hi
 injection e with e
 injection e with e
 exact jZJ (List.map_inj_right (λ a b h=>by injection h) |>.mp e) hi
theorem Og {K:W.Frag} {t ins:Addr} {L:Lpd} {σ:St} {H3:Hp} {o:Option Nat} (h:vP K t ins L H0 σ H3 s o):Zt K t ins L H0 σ H3=L.mu s:=by
 unfold Zt
 have hx:∃ s,∃ o,vP K t ins L H0 σ H3 s o:=⟨s,o,h⟩
 rw [dif_pos hx]
 obtain ⟨o',h'⟩:=Classical.choose_spec hx
 exact Oh (h'.2.2.1.ins_eq h.2.2.1)
theorem mu_step {L:Lpd} (o:L.Okx s) (o':L.Okx s') (hs:gK L s') (h:L.Fur s s'):L.mu s'<L.mu s:=by
 have e:∀ i,i<L.m->s' i=Lpd.sf (ofF L.m s') i:=λ i hi=>by
  unfold Lpd.sf
  rw [getD_eq_getElem?_getD,cA _ hi];rfl
 rw [Oh e]
 have eB:=Wp e
 have eD:L.D s'=L.D (Lpd.sf (ofF L.m s')):=by unfold Lpd.D;rw [eB]
 refine Lpd.mu_lt o.pos (eD ▸ o'.pos) (aN _ _) (λ c hc=>?_) ?_
 ·obtain ⟨k,hk,rfl⟩:=iY hc
  exact hs k hk
 ·unfold Lpd.Fur Lpd.T Lpd.D at h ⊢
  rw [← eB];exact h
theorem Lj {K vs H Q E} (h:kQ K vs H Q E):rH K { nx:=λ _ H'=>Q .non H',rt:=Q } (start Af vs) H:=by
 obtain ⟨t,ins,L,s,rfl,ca,lim,ok,io,q⟩:=h
 obtain ⟨dx,b,sp,k,bs,ss,ks,P⟩:=id ca
 rw [show start Af [V.ref t]=[some (.ref t),none,none,none] from rfl]
 (dsimp! [rH,cS,aP,aV,aJ,aB,aK,List.append_nil])
 refine ⟨_,_,P.ob,rfl,_,_,_,_,rfl,ca,lim,ok.n,λ o H1 s1 en=>?_⟩
 refine Nh (λ σ H'=>∃ s o,vP K t ins L H σ H' s o) (Zt K t ins L H) ⟨s,o,⟨_,_,rfl⟩,kK s1,ca.same s1,ok,io,en⟩ ?_ ?_
 ·rintro σ H3 ⟨s3,o3,iv⟩
  have emu:=Og iv
  rw [emu]
  obtain ⟨⟨q1,q2,rfl⟩,sm3,ca3,ok3,io3,en3⟩:=iv
  (dsimp! [Mz,aB,tC,tOp,bE])
  cases o3 with
  | none =>
   (try dsimp only [lK,tC,aW,cD,cE,cC];try simp only [oV,decide_true,Bool.not_true,Bool.false_eq_true,if_false,lK,tC,aW,Option.some.injEq,exists_eq_left',exists_eq_left,V.int.injEq,V.ref.injEq,V.bl.injEq,List.cons.injEq,and_true,true_and,exists_and_left,and_assoc,cD,cE,cC,cY,fU,dL])
   exact q none s3 H3 sm3 ca3 ok3 io3 en3
  | some c =>
   (try dsimp only [lL,cS,Cf,dN,aP,aV,aJ,aB,tC,tOp,aW,cQ,bE,bS,aC,aK,Lq0,Lq1,Ls0,Ls1,cD,cE,cC];try simp only [oV,reduceCtorEq,decide_false,Bool.not_false,if_true,lL,cS,Cf,dN,aP,aV,aJ,aB,tC,tOp,aW,cQ,bE,bS,aC,aK,Lq0,Lq1,Ls0,Ls1,Option.some.injEq,exists_eq_left',V.ref.injEq,V.bl.injEq,true_and,List.append_nil,exists_and_left,decide_eq_true_eq,exists_eq_left,V.int.injEq,List.cons.injEq,and_true,and_assoc,cD,cE,cC,cY,fU,dL])
   obtain ⟨dx3,b3,sp3,k3,bs3,ss3,ks3,P3⟩:=id ca3
   refine ⟨_,_,P3.ob,rfl,_,_,_,_,_,rfl,ca3,lim,ok3.n,en3.1,λ nl H4 s4 hn4 hnl=>?_⟩
   refine ⟨_,_,(P3.same s4).ob,rfl,_,_,_,_,_,_,rfl,ca3.same s4,lim,ok3.n,hnl,λ o5 H5 s5 lv=>?_⟩
   have sm5:aF (mn t ins H) (mn t ins H5):=sm3.trans (kK (s4.trans s5))
   have ca5:=ca3.same (s4.trans s5)
   cases o5 with
   | none =>
    simp only [oV,if_true,exists_eq_left',V.int.injEq,Option.some.injEq,exists_eq_left,V.ref.injEq,V.bl.injEq,List.cons.injEq,and_true,true_and,exists_and_left,and_assoc,cD,cE,cC,cY,fU,dL]
    exact q (some c) s3 H5 sm5 ca5 ok3 io3 ⟨en3.1,en3.2,λ i hi=>lv i (by omega)⟩
   | some r =>
    obtain ⟨hr,hp,hmin⟩:=lv
    have hrm:r<L.m:=by
     have:=en3.2
     rcases Nat.lt_or_ge r L.m with h | h
     ·exact h
     ·have:r=L.m:=by omega
      subst this;omega
    have ok':=ok3.step hrm hp λ i hi hpi=>hmin i (by omega) hpi
    have io':gK L (Lpd.sput s3 r c):=λ i hi=>by
     unfold Lpd.sput;split
     ·exact en3.1
     ·exact io3 i hi
    have fur:=ok3.further (r:=r) (c:=c) hrm en3.2
    simp only [oV,reduceCtorEq,if_false,exists_eq_left',V.int.injEq,Option.some.injEq,exists_eq_left,V.ref.injEq,V.bl.injEq,List.cons.injEq,and_true,true_and,exists_and_left,and_assoc,cD,cE,cC,cY,fU,dL]
    refine ⟨_,_,(P3.same (s4.trans s5)).ob,rfl,_,_,_,_,_,_,_,rfl,ca5,lim,ok3.n,s5 _ _ hnl,hrm,λ H6 sm6 ca6 _=>?_⟩
    obtain ⟨dx6,b6,sp6,k6,bs6,ss6,ks6,P6⟩:=id ca6
    refine ⟨_,_,P6.ob,rfl,_,_,_,_,rfl,ca6,lim,ok'.n,λ o7 H7 s7 en7=>?_⟩
    have iv7:vP K t ins L H [some (.ref t),some (oV o7),some (.ref nl),some (.int r)] H7 (Lpd.sput s3 r c) o7:=⟨⟨_,_,rfl⟩,(sm5.trans sm6).trans (kK s7),ca6.same s7,ok',io',en7⟩
    refine ⟨⟨_,_,iv7⟩,?_⟩
    rw [Og iv7]
    exact mu_step ok3 ok' io' fur
 ·intro σ H' Q1 Q2 im h
  dsimp only [bE,tOp,tUn,Mz] at h ⊢
  first
  | (obtain ⟨v,hv,hx,e⟩:=Bo h
     exact Bm hv ⟨hx,im _ _ e⟩)
  | (obtain ⟨v,hv,hx,b,hb,e⟩:=Bo h
     exact Bm hv ⟨hx,b,hb,im _ _ e⟩)
noncomputable def uC:List PySem.Str:=["lists", "bits", "guess", "column", "corner"]
structure Mt (H:Hp) (a:Addr) (rps:List Addr) (L:Lpd) (q q':Nat):Prop where
 R:tL H a rps L
 fl:L.fl=false
 m1:1<=L.m
 n1:1<=L.n
 lim:L.Lim
 F:Fit L.m L.n q'
 q9:q<=9000
 st:∀ k,40*2 ^ k<q->40*2 ^ k<=q'
 ba:∀ j k,j<L.n->k<=L.m->BB q (L.a j k)
 bb:∀ k,k<=L.m->BB q (L.be k)
 nn:∀ k,k<L.m->0<=L.be k
structure Zz (K:W.Frag) (H:Hp) (p t ins:Addr) (L L2:Lpd) (s:Nat->Nat) (o:Option Nat):Prop where
 e:L2=L∨L2=L.flip
 hp:H p=some (.tup [.ref t,oV o])
 ca:gA K H t ins L2 s
 ok:L2.Ok s
 io:gK L2 s
 un:UnO L2 s o
noncomputable def gY (K:W.Frag):Sp:=λ vs H Q _=>∃ a rps L q q',vs=[.ref a]/\Mt H a rps L q q'/\q<=40/\∀ p t ins L2 s o H',aF H H'->Zz K H' p t ins L L2 s o->Q (.ref p) H'
noncomputable def oA (K:W.Frag):TS:=(aW (dS (aC (aB 4) (aC (aB 3) aK))))
noncomputable def nZ (K:W.Frag):TS:=(aP (aV (aO (kQ K) [] E0 (aC (aB 4) aK)) (aJ 3)) (oA K))
noncomputable def iQ (K:W.Frag):TS:=(aP (aV (Gw (aX K "Corner") (fK K) [] E0 (aC (aB 0) aK)) (aJ 4)) (nZ K))
noncomputable def oB (K:W.Frag):TE:=(aO (pI K) [] E0 (aC (aB 0) aK))
noncomputable def oC (K:W.Frag):TS:=dJ
noncomputable def nY (K:W.Frag):TS:=(aP (pA (bE (tOp jT (aB 1) (tCB (Nd K) (aC (bB (aZ K (aB 0)) [] (oB K)) aK)))) (oC K)) (iQ K))
noncomputable def mX (K:W.Frag):TS:=(aP (aV (tC (.int 40)) (aJ 1)) (nY K))
theorem Ba {K vs H Q E} (h:gY K vs H Q E):vs.length=1:=by obtain ⟨_,_,_,_,_,rfl,_⟩:=h;rfl
theorem Mt.same {L:Lpd} (h:Mt H a rps L q q') (s:aF H H'):Mt H' a rps L q q':=⟨h.R.same s,h.fl,h.m1,h.n1,h.lim,h.F,h.q9,h.st,h.ba,h.bb,h.nn⟩
theorem Mt.row {L:Lpd} (h:Mt H a rps L q q') (hi:i<=L.m):∀ x∈L.rowL i,BB q x:=λ x hx=>by
 rcases Lpd.rowL_mem hx with ⟨j,hj,rfl⟩ | rfl
 ·exact h.ba j i hj hi
 ·exact h.bb i hi
theorem same_mn {H1 H2:Hp} {t i:Addr} (s:aF H H1) (ht:H t=none) (hi:H i=none) (m:aF (mn t i H1) (mn t i H2)):aF H H2:=λ b o e=>sT _ _ (m b o (Gz (s b o e) (bI e ht) (bI e hi)))
theorem Pu {K:W.Frag} {L:Lpd} {P:Addr->Hp->Prop} (R:tL G a rps L) (lim:L.Lim) (fl:L.fl=false) (k:∀ t ins H',G t=none->G ins=none->aF G H'->gA K H' t ins L L.ins0->P t H') :
  ∀ (x dx:Addr),G x=none->G dx=none->dx≠x->fK K [.ref x,.ref a] (upd (upd G dx (.own x)) x (.ins (aX K "Corner") dx [])) (λ v H2=>v=.non/\P x H2) E0:=by
 intro t dx ht hdx ne
 have s1:aF G (upd (upd G dx (.own t)) t (.ins (aX K "Corner") dx [])):=(aF.upd hdx).put ht
 refine ⟨t,dx,a,rps,L,rfl,aD,R.same s1,lim,fl,λ ins H' hi b ca=>⟨rfl,k t ins H' ht (s1.free hi) (λ b' o e=>b b' o (s1 b' o e) (bI e ht)) ca⟩⟩
theorem Sa {K:W.Frag} {L:Lpd} {o1 o2 o4:Option V} (I:Mt G a rps L q q') (s:aF H G) (k:∀ p t ins L2 s o H',aF H H'->Zz K H' p t ins L L2 s o->Q (.ref p) H') :
  iQ K { nx:=λ _ H'=>Q .non H',rt:=Q } [some (.ref a),o1,o2,o3,o4] G:=by
 (dsimp? [iQ,Gw])
 refine Pu I.R I.lim I.fl λ t ins H1 ht hi s1 ca=>?_
 (dsimp? [nZ])
 refine ⟨t,ins,L,L.ins0,rfl,ca,I.lim,Lpd.Okx.start I.fl I.nn,λ i hi=>by show L.n+i<L.n+L.m;omega,λ o s' H2 sm ca2 ok2 io2 un2=>?_⟩
 (dsimp? [oA])
 refine ⟨sz2,λ p hp=>k p t ins L s' o _ ((s.trans (same_mn s1 ht hi sm)).trans (aF.upd hp)) ⟨.inl rfl,aD,ca2.same (aF.upd hp),ok2.w,io2,un2⟩⟩
theorem Fe {K vs H Q E} (C:Aq K) (h:gY K vs H Q E):mX K { nx:=λ _ H'=>Q .non H',rt:=Q } (start uC vs) H:=by
 obtain ⟨a,rps,L,q,q',rfl,I,q40,k⟩:=h
 rw [show start uC [V.ref a]=[some (.ref a),none,none,none,none] from rfl]
 (dsimp? [mX,nY,oC,pA,bB,aZ,Nd,dJ])
 have q9:=I.q9
 have rl:=I.R.len
 have ml:=I.F.m1
 refine ⟨λ m σ H3=>σ=[some (.ref a),some (.int 40),none,none,none]/\aF H H3,⟨0,rfl,aF.refl _⟩,?_⟩
 rintro m σ H3 ⟨rfl,s3⟩
 have I3:=I.same s3
 simp only [Lq0,Lq1]
 refine ⟨a,rfl,⟨_,SqL.of I3.R.ha⟩,bJ (K:=K) (a:=a) (xs:=List.map V.ref rps) (λ i zs H4=>aF H3 H4/\∃ ls:List Int,zs=List.map V.int ls/\ls.length=i/\∀ l∈ls,l<=q) (by rw [length_map,sizeLine_eq];omega) ⟨aF.refl _,[],rfl,rfl,(λ _ h=>nomatch h)⟩ ?_ ?_ ?_⟩
 ·rintro i zs H4 _ ⟨s4,_⟩
  exact SqL.of (s4 _ _ I3.R.ha)
 ·rintro i x zs H4 hi _ ⟨s4,ls,rfl,ll,lq⟩
  obtain ⟨p,rfl,hp⟩:=bK hi
  obtain ⟨im,hrow⟩:=(I3.R.same s4).inv hp
  (dsimp? [oB])
  refine ⟨p,_,rfl,SqL.of hrow,λ e=>?_,by rw [Lpd.rowL_length];have:=I.F.n1;omega,λ M H5 s5 _ ⟨n,hn,eM⟩=>⟨s4.trans s5,ls++[(M:Int)],by rw [map_append];rfl,by rw [length_append,ll];rfl,λ l hl=>?_⟩⟩
  ·have:=congrArg List.length e
   rw [Lpd.rowL_length] at this
   simp at this
  ·rcases mem_append.mp hl with hl | hl
   ·exact lq l hl
   ·rw [mem_singleton.mp hl,← eM]
    have:=ib_le (I.row im n hn)
    omega
 ·rintro zs H4 _ ⟨s4,ls,rfl,ll,lq⟩ p hp
  rw [length_map,rl] at ll
  refine ⟨ls,SqL.of aD,λ e=>by rw [e] at ll;simp at ll,λ M hM hA=>⟨_,rfl,?_⟩⟩
  have s5:=(s3.trans s4).trans (aF.upd (o:=HO.lst (List.map V.int ls)) hp)
  have Mq:=lq M hM
  refine vF (λ h=>?_) (λ h=>?_)
  ·exact absurd h (by omega)
  ·exact Sa (I.same s5) s5 k
noncomputable def sI:List PySem.Str:=["row"]
noncomputable def gE (K:W.Frag):Sp:=λ vs H Q _=>∃ a ns,vs=[.ref a]/\SqL K H a (List.map V.int ns)/\ns.length<=200/\∀ l H',aF H H'->H l=none->H' l=some (.lst (List.map V.int (ns.map λ x=>-x)))->Q (.ref l) H'
noncomputable def mL (K:W.Frag):TE:=(tUn fZ (aB 0))
noncomputable def lM (K:W.Frag):TS:=(aW (bB (aZ K (aB 0)) [] (mL K)))
theorem yY {K vs H Q E} (h:gE K vs H Q E):vs.length=1:=by obtain ⟨_,_,rfl,_⟩:=h;rfl
theorem Ar {K vs H Q E} (h:gE K vs H Q E):lM K { nx:=λ _ H'=>Q .non H',rt:=Q } (start sI vs) H:=by
 obtain ⟨a,ns,rfl,ha,nl,q⟩:=h
 rw [show start sI [V.ref a]=[some (.ref a)] from rfl]
 (dsimp? [lM,bB,aZ])
 refine ⟨⟨_,ha⟩,bJ (K:=K) (a:=a) (xs:=List.map V.int ns) (λ i zs H3=>H3=H/\zs=List.map V.int ((ns.take i).map λ x=>-x)) (by rw [length_map,sizeLine_eq];omega) ⟨rfl,rfl⟩ ?_ ?_ ?_⟩
 ·rintro i zs H3 _ ⟨rfl,_⟩
  exact ha
 ·rintro i x zs H3 hi _ ⟨rfl,rfl⟩
  obtain ⟨n,rfl,hn⟩:=cU hi
  (dsimp? [mL])
  rw [bC hn,map_append,map_append];rfl
 ·rintro zs H3 _ ⟨rfl,rfl⟩ p hp
  rw [length_map,take_length]
  exact q p _ (aF.upd hp) hp aD
noncomputable def N_over:List PySem.Str:=["one", "other"]
noncomputable def pD (K:W.Frag):Sp:=λ vs H Q _=>∃ p q a b c d,vs=[.ref p,.ref q]/\Tw K H p q a b c d/\0<b/\0<c/\BB 9000 (b*c)/\∀ r H',aF H H'->H' r=some (.tup [.int (lo2 (a*d) (b*c)).1,.int (lo2 (a*d) (b*c)).2])->Q (.ref r) H'
noncomputable def Qv (K:W.Frag):TS:=(aW (aO (gB K) [] E0 (aC (tOp cK (tOp (bW K) (aB 0) (tC (.int 0))) (tOp (bW K) (aB 1) (tC (.int 1)))) (aC (tOp cK (tOp (bW K) (aB 0) (tC (.int 1))) (tOp (bW K) (aB 1) (tC (.int 0)))) aK))))
theorem jJ2 {K vs H Q E} (h:pD K vs H Q E):vs.length=2:=by obtain ⟨p,q,a,b,c,d,rfl,_⟩:=h;rfl
theorem rd_over {K vs H Q E} (h:pD K vs H Q E):Qv K { nx:=λ _ H'=>Q .non H',rt:=Q } (start N_over vs) H:=by
 obtain ⟨p,q,a,b,c,d,rfl,⟨hp,hq,ba,bb,bc,bd⟩,b0,c0,b9,k⟩:=h
 rw [show start N_over [V.ref p,V.ref q]=[some (.ref p),some (.ref q)] from rfl]
 (dsimp! [Qv,aB,tC,tOp,rI,cK,aW,aO,aC,aK,bW,List.append_nil])
 refine ⟨_,hp,_,kX,_,hq,_,gQ,_,rfl,_,rfl,.b ba bd,_,hp,_,gQ,_,hq,_,kX,_,rfl,_,rfl,.b bb bc,?_⟩
 have z:0<b*c:=Int.mul_pos b0 c0
 refine ⟨_,_,rfl,by omega,b9,λ x y r H' s h l=>k r H' s ?_⟩
 obtain ⟨e1,e2⟩:=l.uniq z (bU z)
 rw [← e1,← e2];exact h
noncomputable def qM:List PySem.Str:=["self", "numbers", "told", "number", "column"]
noncomputable def fS (K:W.Frag):Sp:=λ vs H Q _=>∃ t ins L s nl,∃ f:Nat->Int,vs=[.ref t,.ref nl]/\gA K H t ins L s/\L.Lim/\L.Ok s/\H nl=some (.lst (List.map V.int (ofF (L.m+1) f))) /\
 ∀ l ps H',aF H H'->H l=none->H' l=some (.lst (List.map V.ref ps))->aS K H' ps (ofF L.n (vD L s f L.m))->Q (.ref l) H'
noncomputable def Yf (K:W.Frag) (t nl l:Addr) (L:Lpd) (s:Nat->Nat) (f:Nat->Int) (H0:Hp):Nat->St->Hp->Prop:=λ i σ H3=>∃ o1 o2 ps,σ=[some (.ref t),some (.ref nl),some (.ref l),o1,o2]/\aF H0 H3/\H3 l=some (.lst (List.map V.ref ps))/\aS K H3 ps (ofF L.n (vD L s f i))
noncomputable def lR (K:W.Frag):TS:=(cQ (bE (tOp jT (aB 4) (tCB (eI K) (aC (aB 2) aK)))) (aV (aO (gB K) [] E0 (aC (aB 3) (aC (cS (aX K "Corner") "bottom" (dB K) [] E0 (aB 0) aK) aK))) (An (aB 2) (aB 4) qH)) bS)
noncomputable def gL (K:W.Frag):TG:=(gG K 2 (bQ (aJ 3) (bQ (aJ 4) gH)))
noncomputable def lQ (K:W.Frag):TE:=(dS (aC (tC (.int 0)) (aC (tC (.int 1)) aK)))
noncomputable def jX (K:W.Frag):TS:=(aP (aV (bB (aZ K (dC K (aB 0) "begun")) [] (lQ K)) (aJ 2)) (aP (cV (lV K (aC (aB 1) (aC (dC K (aB 0) "inside") aK))) (gL K) (lR K)) (aW (aB 2))))
theorem wY {K vs H Q E} (h:fS K vs H Q E):vs.length=2:=by obtain ⟨_,_,_,_,_,_,rfl,_⟩:=h;rfl
theorem jJy {D:Int} (h:0<D):lo2 0 D=(0,1):=by
 have:Lo 0 D 0 1:=⟨by decide,by decide,by simp,Nat.le_refl _,by omega⟩
 exact (this.is h).symm
theorem jJu {n:Nat} {f:Nat->α} {v:α}:(ofF n f).set i v=ofF n λ k=>if k=i then v else f k:=by
 apply List.ext_getElem?
 intro k
 rw [getElem?_set]
 by_cases hk:k<n
 ·rw [cA (λ k=>if k=i then v else f k) hk]
  by_cases e:i=k
  ·rw [if_pos e,if_pos (by rw [aN];omega),if_pos e.symm]
  ·rw [if_neg e,if_neg (Ne.symm e),cA _ hk]
 ·rw [getElem?_eq_none (l:=ofF n λ k=>if k=i then v else f k) (by rw [aN];omega)]
  by_cases e:i=k
  ·rw [if_pos e,if_neg (by rw [aN];omega)]
  ·rw [if_neg e,getElem?_eq_none (by rw [aN];omega)]
theorem Nu {L:Lpd} (ok:L.Ok s) {f:Nat->Int} (hi:i<L.m):Lpd.spr (i+1) s f j=if j=s i then f i else Lpd.spr i s f j:=by
 show Lpd.spr i s f j+(if s i=j then f i else 0)=_
 by_cases e:s i=j
 ·rw [if_pos e,if_pos e.symm]
  have:Lpd.spr i s f j=0:=eY λ k hk=>if_neg λ z=>ok.inj (show k<L.m by omega) hi (by omega) (z.trans e.symm)
  rw [this,Int.zero_add]
 ·rw [if_neg e,if_neg (Ne.symm e),Int.add_zero]
theorem yT {K vs H Q E} (C:Aq K) (h:fS K vs H Q E):jX K { nx:=λ _ H'=>Q .non H',rt:=Q } (start qM vs) H:=by
 obtain ⟨t,ins,L,s,nl,f,rfl,ca,lim,ok,hnl,q⟩:=h
 obtain ⟨dx,b,sp,k,bs,ss,ks,P⟩:=id ca
 have bl:=P.bl
 have n1:=lim.n1
 have m1:=lim.m1
 have D0:=ok.pos
 rw [show start qM [V.ref t,V.ref nl]=[some (.ref t),some (.ref nl),none,none,none] from rfl]
 (dsimp! [jX,dC,bB,aZ,cV,lV,aP,aV,aJ,aB,aW,aC,aK])
 refine ⟨_,_,_,P.ob,C.cl,C.nb,_,iM _ _ _ _,_,rfl,⟨_,SqL.of P.B⟩,bJ (K:=K) (a:=b) (xs:=List.map V.ref bs) (λ i zs H3=>aF H H3/\∃ ps,zs=List.map V.ref ps/\aS K H3 ps (ofF i λ _=>((0,1):Int×Int))) ?_ ⟨aF.refl _,[],rfl,trivial⟩ ?_ ?_ ?_⟩
 ·rw [length_map,sizeLine_eq];omega
 ·rintro i zs H3 _ ⟨s3,_⟩
  exact s3.seq (SqL.of P.B)
 ·rintro i x zs H3 hi _ ⟨s3,ps,rfl,hps⟩
  dsimp only [lQ,tC,aC,aK,dS,cD,cE,cC]
  refine ⟨sz2,λ p hp=>⟨s3.trans (aF.upd hp),ps++[p],by rw [map_append];rfl,?_⟩⟩
  rw [bT]
  exact aS.snoc (hps.same (aF.upd hp)) (SqT.of aD)
 ·rintro zs H3 _ ⟨s3,ps,rfl,hps⟩ l hl
  rw [length_map,bl] at hps
  have s4:=s3.trans (aF.upd (o:=HO.lst (List.map V.ref ps)) hl)
  have hp4:=hps.same (aF.upd (o:=HO.lst (List.map V.ref ps)) hl)
  have hl4:(upd H3 l (.lst (List.map V.ref ps))) l=some (.lst (List.map V.ref ps)):=aD
  have hlH:=s3.free hl
  generalize upd H3 l (.lst (List.map V.ref ps))=H4 at s4 hp4 hl4
  have il:(L.insL s).length=L.m:=by unfold Lpd.insL;rw [aN]
  refine ⟨_,_,_,s4 _ _ P.ob,C.cl,C.ni,_,lJ _ _ _ _,_,rfl,⟨_,s4.seq (SqL.of hnl)⟩,⟨_,s4.seq (SqL.of P.hi)⟩,jZU (K:=K) (a:=nl) (b:=ins) (xs:=List.map V.int (ofF (L.m+1) f)) (ys:=List.map V.int (L.insL s)) (g:=gL K) (D:={ nx:=aW (aB 2) { nx:=λ _ H'=>Q .non H',rt:=Q },rt:=Q }) L.m (Yf K t nl l L s f H) ?_ ?_ ?_ ?_ ?_ ?_ ?_⟩
  ·refine ⟨none,none,ps,rfl,s4,hl4,?_⟩
   have:(ofF L.n λ _=>((0,1):Int×Int))=ofF L.n (vD L s f 0):=gP λ j _=>by
    unfold vD
    show _=lo2 0 _
    rw [jJy D0]
   rw [← this];exact hp4
  ·rintro i σ H5 _ ⟨_,_,_,_,s5,_⟩
   exact ⟨s5.seq (SqL.of hnl),s5.seq (SqL.of P.hi)⟩
  ·rw [length_map,aN];omega
  ·rw [length_map,il];exact Nat.le_refl _
  ·rw [length_map,length_map,il];exact .inr (Nat.le_refl _)
  ·rintro i x y p σ H5 hx hy hi ⟨o1,o2,ps5,rfl,s5,hl5,hp5⟩ hp
   obtain ⟨v,rfl,hv⟩:=cU hx
   obtain ⟨w,rfl,hw⟩:=cU hy
   obtain ⟨_,rfl⟩:=cJ hv
   obtain ⟨_,rfl⟩:=cJ hw
   have s6:=aF.upd (o:=HO.tup [.int (f i),.int (s i)]) hp
   have psl:ps5.length=L.n:=by rw [hp5.length,aN]
   (dsimp! [gL,lR,cS,aV,aJ,aB,tOp,rI0,jT,cQ,bE,bS,aO,aC,aK,tCB,eI,gG,bQ,gH,List.append_nil,decide_eq_true_eq])
   refine ⟨_,SqT.of aD,rfl,_,_,rfl,_,_,rfl,rfl,?_⟩
   have hl6:=s6 _ _ hl5
   have hp6:=hp5.same s6
   have s06:=s5.trans s6
   generalize upd H5 p (.tup [.int (f i),.int (s i)])=H6 at s06 hl6 hp6
   refine ⟨_,.inl (SqL.of hl6),?_⟩
   rw [length_map,psl]
   refine ⟨_,rfl,vF (λ hlt=>?_) (λ hlt=>?_)⟩
   ·have hsn:s i<L.n:=by omega
    refine ⟨_,_,s06 _ _ P.ob,rfl,_,_,_,_,rfl,ca.same s06,_,_,rfl,Int.ne_of_gt D0,lim.bD s ok.n,λ x y r H7 s7 hr7 lo=>?_⟩
    (dsimp! [An,qH,aB])
    refine ⟨_,s7 _ _ hl6,_,by rw [length_map,psl];exact Bx (by omega) (by omega),?_⟩
    rw [Int.toNat_natCast]
    refine ⟨_,_,ps5.set (s i) r,rfl,(s06.trans s7).put hlH,by rw [aD,List.map_set],?_⟩
    have e:ofF L.n (vD L s f (i+1))=(ofF L.n (vD L s f i)).set (s i) (x,y):=by
     rw [jJu]
     refine gP λ j hj=>?_
     unfold vD
     rw [Nu ok hi]
     by_cases e:j=s i
     ·rw [if_pos e,if_pos e,lo.is D0]
     ·rw [if_neg e,if_neg e]
    rw [e]
    exact aS.off (s7 _ _ hl6) (aS.set (SqT.of hr7) (s i) (hp6.same s7))
   ·refine ⟨_,_,ps5,rfl,s06,hl6,?_⟩
    have e:ofF L.n (vD L s f (i+1))=ofF L.n (vD L s f i):=gP λ j hj=>by
     unfold vD
     rw [Nu ok hi,if_neg (by omega)]
    rw [e];exact hp6
  ·rintro σ H5 ⟨o1,o2,ps5,rfl,s5,hl5,hp5⟩
   (dsimp! [aB,aW])
   exact q l ps5 H5 s5 hlH hl5 hp5
noncomputable def Am:List PySem.Str:=["self"]
noncomputable def kU (K:W.Frag):Sp:=λ vs H Q _=>∃ t ins L s,vs=[.ref t]/\gA K H t ins L s/\L.Lim/\L.Ok s /\
 ∀ l ps H',aF H H'->H l=none->H' l=some (.lst (List.map V.ref ps))->aS K H' ps (ofF L.n (vD L s (λ i=>L.T s i L.be) L.m))->Q (.ref l) H'
noncomputable def rQ (K:W.Frag):TS:=(aW (cS (aX K "Corner") "spread" (fS K) [] E0 (aB 0) (aC (aO (fR K) [] E0 (aC (dC K (aB 0) "kept") (aC (tUn fZ (tC (.int 1))) aK))) aK)))
theorem Gk {K vs H Q E} (h:kU K vs H Q E):vs.length=1:=by obtain ⟨_,_,_,_,rfl,_⟩:=h;rfl
theorem atI_end {l:List Int} (h:l[l.length - 1]?=some x):atI (List.map V.int l) (-1)=some (.int x):=Dx (by rw [length_map,getElem?_map,h];rfl)
theorem Lr {K vs H Q E} (C:Aq K) (h:kU K vs H Q E):rQ K { nx:=λ _ H'=>Q .non H',rt:=Q } (start Am vs) H:=by
 obtain ⟨t,ins,L,s,rfl,ca,lim,ok,q⟩:=h
 obtain ⟨dx,b,sp,k,bs,ss,ks,P⟩:=id ca
 have m1:=lim.m1
 rw [show start Am [V.ref t]=[some (.ref t)] from rfl]
 (dsimp! [rQ,dC,cS,aB,tC,tUn,rU,fZ,aW,aO,aC,aK,List.append_nil])
 refine ⟨_,_,P.ob,rfl,_,_,_,P.ob,C.cl,C.nk,_,eZ _ _ _ _,_,_,_,_,L.m+1,rfl,SqL.of P.Kp,P.Ks,by rw [aN];omega,λ r hr=>?_,λ nl H1 s1 hn hnl=>?_⟩
 ·obtain ⟨i,hi,rfl⟩:=iY hr
  rw [dW (L.keptL_last s i)]
  exact atI_end (by rw [Lpd.keptL_length];exact L.keptL_last s i)
 ·have e:(ofF (L.m+1) (L.keptL s)).map (λ r=>r.getD (L.m+1) 0)=ofF (L.m+1) λ i=>L.T s i L.be:=by
   unfold ofF
   rw [List.map_map]
   exact map_congr_left λ i _=>dW (L.keptL_last s i)
  rw [e] at hnl
  refine ⟨_,_,_,_,_,_,rfl,ca.same s1,lim,ok,hnl,λ l ps H2 s2 hl hl2 hp=>q l ps H2 (s1.trans s2) (s1.free hl) hl2 hp⟩
noncomputable def Al:List PySem.Str:=["self"]
noncomputable def kT (K:W.Frag):Sp:=λ vs H Q _=>∃ t ins L s,vs=[.ref t]/\gA K H t ins L s/\L.Lim/\L.Ok s /\
 ∀ l ps H',aF H H'->H l=none->H' l=some (.lst (List.map V.ref ps))->aS K H' ps (ofF L.m λ k=>lo2 (L.T s L.m (e1 k)) (L.D s))->Q (.ref l) H'
noncomputable def sF (K:W.Frag):TE:=(aO (gB K) [] E0 (aC (aB 0) (aC (cS (aX K "Corner") "bottom" (dB K) [] E0 (aB 1) aK) aK)))
noncomputable def rP (K:W.Frag):TS:=(aW (bB (aZ K (tSl (xA K) (tOp (dD K) (dC K (aB 0) "kept") (tUn fZ (tC (.int 1)))) fN (nG (tCB (eI K) (aC (dC K (aB 0) "inside") aK))))) [0] (sF K)))
theorem Gj {K vs H Q E} (h:kT K vs H Q E):vs.length=1:=by obtain ⟨_,_,_,_,rfl,_⟩:=h;rfl
theorem Lq {K vs H Q E} (C:Aq K) (h:kT K vs H Q E):rP K { nx:=λ _ H'=>Q .non H',rt:=Q } (start Al vs) H:=by
 obtain ⟨t,ins,L,s,rfl,ca,lim,ok,q⟩:=h
 obtain ⟨dx,b,sp,k,bs,ss,ks,P⟩:=id ca
 have m1:=lim.m1
 have D0:=ok.pos
 have il:(L.insL s).length=L.m:=by unfold Lpd.insL;rw [aN]
 obtain ⟨p,_,atp,hrow⟩:=P.last
 rw [show start Al [V.ref t]=[some (.ref t)] from rfl]
 (dsimp! [rP,dC,bB,aZ,aB,tC,tOp,tUn,rU,fZ,aW,aC,aK,tCB,eI,tSl,nG,fN,xA,dD])
 refine ⟨_,_,_,P.ob,C.cl,C.nk,_,eZ _ _ _ _,_,rfl,_,SqL.of P.Kp,_,atp,_,_,_,P.ob,C.cl,C.ni,_,lJ _ _ _ _,_,rfl,_,.inl (SqL.of P.hi),?_⟩
 rw [length_map,il]
 refine ⟨_,rfl,_,SqL.of hrow,λ l1 hl1=>?_⟩
 rw [Wa (by rw [Lpd.keptL_length];omega),Ep]
 have s1:=aF.upd (o:=HO.lst (List.map V.int (ofF L.m λ k=>L.T s L.m (e1 k)))) hl1
 have h1:(upd H l1 (.lst (List.map V.int (ofF L.m λ k=>L.T s L.m (e1 k))))) l1=some (.lst (List.map V.int (ofF L.m λ k=>L.T s L.m (e1 k)))):=aD
 generalize upd H l1 (.lst (List.map V.int (ofF L.m λ k=>L.T s L.m (e1 k))))=H1 at s1 h1
 refine ⟨⟨_,SqL.of h1⟩,bJ (K:=K) (a:=l1) (xs:=List.map V.int (ofF L.m λ k=>L.T s L.m (e1 k))) (λ i zs H3=>aF H1 H3/\∃ ps,zs=List.map V.ref ps/\aS K H3 ps (ofF i λ k=>lo2 (L.T s L.m (e1 k)) (L.D s))) ?_ ⟨aF.refl _,[],rfl,trivial⟩ ?_ ?_ ?_⟩
 ·rw [length_map,aN,sizeLine_eq];omega
 ·rintro i zs H3 _ ⟨s3,_⟩
  exact s3.seq (SqL.of h1)
 ·rintro i x zs H3 hi _ ⟨s3,ps,rfl,hps⟩
  obtain ⟨v,rfl,hv⟩:=cU hi
  obtain ⟨him,rfl⟩:=cJ hv
  (dsimp! [sF,cS,bG,List.map_cons,List.map_nil,Option.join_some,aB,aO,aC,aK,List.append_nil])
  refine ⟨_,_,(s1.trans s3) _ _ P.ob,rfl,_,_,_,_,rfl,ca.same (s1.trans s3),_,_,rfl,Int.ne_of_gt D0,lim.bD s ok.n,λ x y r H7 s7 hr7 lo=>⟨s3.trans s7,ps++[r],by rw [map_append];rfl,?_⟩⟩
  rw [bT]
  refine aS.snoc (hps.same s7) ?_
  rw [← lo.is D0]
  exact SqT.of hr7
 ·rintro zs H3 _ ⟨s3,ps,rfl,hps⟩ l hl
  rw [length_map,aN] at hps
  exact q l ps _ ((s1.trans s3).trans (aF.upd hl)) ((s1.trans s3).free hl) aD (hps.same (aF.upd hl))
noncomputable def N_best:List PySem.Str:=["rows", "bounds", "goal", "bound", "made", "limits", "aims", "lists", "ended", "xs"]
structure BeIn (K:W.Frag) (H:Hp) (a b c:Addr) (rps bps gps:List Addr) (frs:List (List (Int×Int))) (fb fg:List (Int×Int)):Prop where
 ha:H a=some (.lst (List.map V.ref rps))
 hr:kY K H rps frs
 hb:H b=some (.lst (List.map V.ref bps))
 hbs:aS K H bps fb
 hg:H c=some (.lst (List.map V.ref gps))
 hgs:aS K H gps fg
 gb:∀ f∈fb,G9 f
noncomputable def wordO:Option Nat->Str
 | none=>"best"
 | some _=>"endless"
noncomputable def wayO (fl:Bool) (frs:List (List (Int×Int))) (fb fg:List (Int×Int)) (s:Nat->Nat):Option Nat->List (Int×Int)
 | none=>ofF frs.length λ k=>fov (ftm (lo2 ((aM fl frs fb fg).T s frs.length (e1 k)) ((aM fl frs fb fg).D s)) (whF (frs.getD k []))) (whF fg)
 | some c=>ofF fg.length (fY (aM fl frs fb fg) s c)
structure BeOut (K:W.Frag) (H':Hp) (v:Addr) (fl:Bool) (frs:List (List (Int×Int))) (fb fg:List (Int×Int)) (s:Nat->Nat) (o:Option Nat) (x w:Addr) (xp wp:List Addr):Prop where
 ok:(aM fl frs fb fg).Ok s
 io:gK (aM fl frs fb fg) s
 un:UnO (aM fl frs fb fg) s o
 hv:H' v=some (.tup [.str (wordO o),.ref x,.ref w])
 hx:H' x=some (.lst (List.map V.ref xp))
 hxs:aS K H' xp (ofF fg.length λ j=>fov (vD (aM fl frs fb fg) s (λ i=>(aM fl frs fb fg).T s i (aM fl frs fb fg).be) frs.length j) (whF (bnF frs fb)))
 hw:H' w=some (.lst (List.map V.ref wp))
 hws:aS K H' wp (wayO fl frs fb fg s o)
structure Sm4 (frs:List (List (Int×Int))) (fb fg:List (Int×Int)):Prop where
 a:∀ j k,BB 40 ((aM false frs fb fg).a j k)
 b:∀ k,BB 40 ((aM false frs fb fg).be k)
 w:∀ fl s c,(aM fl frs fb fg).Ok s->gK (aM fl frs fb fg) s->¬ UnO (aM fl frs fb fg) s (some c)
noncomputable def Br (K:W.Frag):Sp:=λ vs H Q _=>∃ a b c rps bps gps frs fb fg,vs=[.ref a,.ref b,.ref c]/\BeIn K H a b c rps bps gps frs fb fg /\
 (∀ f∈fb,0<=f.1)/\BeO frs fb fg/\Sm4 frs fb fg/\1<=frs.length/\1<=fg.length/\∀ v fl s o x w xp wp H',aF H H'->H x=none->H w=none->BeOut K H' v fl frs fb fg s o x w xp wp->Q (.ref v) H'
noncomputable def iv_best (a b c:Addr) (H0:Hp) (fb:List (Int×Int)):Nat->St->Hp->Prop:=λ i σ H3=>∃ o1,σ=[some (.ref a),some (.ref b),some (.ref c),o1,none,none,none,none,none,none]/\aF H0 H3/\∀ f∈fb.take i,0<=f.1
noncomputable def Hu (K:W.Frag):TE:=(aO (pD K) [] E0 (aC (aO (rB K) [] E0 (aC (aB 0) (aC (tOp (bW K) (aB 1) (tC (.int 0))) aK))) (aC (tOp (bW K) (aB 2) (tC (.int 0))) aK)))
noncomputable def Ho (K:W.Frag):TG:=(gG K 2 (bQ (aJ 0) (bQ (aJ 1) gH)))
noncomputable def sV (K:W.Frag):TS:=(aP (cQ (bE (tOp Mz (tOp (bW K) (aB 8) (tC (.int 1))) (tC .non))) dJ bS) (aW (dS (aC (tC (.str "best")) (aC (aB 9) (aC (dU (lV K (aC (cS (aX K "Corner") "ys" (kT K) [] E0 (tOp (bW K) (aB 8) (tC (.int 0))) aK) (aC (aB 4) aK))) 2 [6] (Ho K) (Hu K)) aK))))))
noncomputable def Ht (K:W.Frag):TE:=(aO (pD K) [] E0 (aC (aB 0) (aC (tOp (bW K) (aB 1) (tC (.int 0))) aK)))
noncomputable def yG (K:W.Frag):TS:=(aP (aV (bB (aZ K (cS (aX K "Corner") "xs" (kU K) [] E0 (tOp (bW K) (aB 8) (tC (.int 0))) aK)) [5] (Ht K)) (aJ 9)) (sV K))
noncomputable def Hl (K:W.Frag):TS:=(aP (aV (aO (gY K) [] E0 (aC (tOp oW (aB 7) (lU (aC (tOp oW (aO (gE K) [] E0 (aC (tOp (bW K) (aB 6) (tC (.int 1))) aK)) (lU (aC (tC (.int 0)) aK))) aK))) aK)) (aJ 8)) (yG K))
noncomputable def Hs (K:W.Frag):TE:=(tOp oW (tOp (bW K) (aB 0) (tC (.int 1))) (lU (aC (aB 1) aK)))
noncomputable def Hn (K:W.Frag):TG:=(gG K 2 (bQ (aJ 0) (bQ (aJ 1) gH)))
noncomputable def yD (K:W.Frag):TS:=(aP (aV (dU (lV K (aC (aB 4) (aC (tOp (bW K) (aB 5) (tC (.int 1))) aK))) 2 [] (Hn K) (Hs K)) (aJ 7)) (Hl K))
noncomputable def Hr (K:W.Frag):TE:=(aO (rB K) [] E0 (aC (aB 0) (aC (tOp (bW K) (aB 1) (tC (.int 0))) aK)))
noncomputable def Hm (K:W.Frag):TG:=(gG K 2 (bQ (aJ 0) (bQ (aJ 1) gH)))
noncomputable def Hk (K:W.Frag):TS:=(aP (aV (aO (nJ K) [] E0 (aC (dU (lV K (aC (aB 1) (aC (aB 4) aK))) 2 [] (Hm K) (Hr K)) aK)) (aJ 5)) (aP (aV (aO (nJ K) [] E0 (aC (aB 2) aK)) (aJ 6)) (yD K)))
noncomputable def Hq (K:W.Frag):TE:=(aO (nJ K) [] E0 (aC (aB 0) aK))
noncomputable def yB (K:W.Frag):TS:=(aP (aV (bB (aZ K (aB 0)) [] (Hq K)) (aJ 4)) (Hk K))
noncomputable def Wu (K:W.Frag):TS:=(cQ (tB (aO (rD K) [] E0 (aC (aB 3) (aC (dS (aC (tC (.int 0)) (aC (tC (.int 1)) aK))) aK)))) dJ bS)
noncomputable def Qx (K:W.Frag):TS:=(aP (cV (aZ K (aB 1)) (aJ 3) (Wu K)) (yB K))
theorem jJ4 {K vs H Q E} (h:Br K vs H Q E):vs.length=3:=by obtain ⟨_,_,_,_,_,_,_,_,_,rfl,_⟩:=h;rfl
structure Nf (K:W.Frag) (G:Hp) (md lv lf ll av af ag:Addr) (ms:List Addr) (frs:List (List (Int×Int))) (fb fg:List (Int×Int)):Prop where
 hmd:G md=some (.lst (List.map V.ref ms))
 hm:qQ G ms frs
 hlv:G lv=some (.tup [.ref lf,.ref ll])
 hlf:G lf=some (.tup [.int (whF (bnF frs fb)).1,.int (whF (bnF frs fb)).2])
 hll:G ll=some (.lst (List.map V.int (whL (bnF frs fb))))
 hav:G av=some (.tup [.ref af,.ref ag])
 haf:G af=some (.tup [.int (whF fg).1,.int (whF fg).2])
 hag:G ag=some (.lst (List.map V.int (whL fg)))
theorem Nf.same {K:W.Frag} {G':Hp} {ms:List Addr} {frs:List (List (Int×Int))} (h:Nf K G md lv lf ll av af ag ms frs fb fg) (s:aF G G'):Nf K G' md lv lf ll av af ag ms frs fb fg :=
 ⟨s _ _ h.hmd,h.hm.same s,s _ _ h.hlv,s _ _ h.hlf,s _ _ h.hll,s _ _ h.hav,s _ _ h.haf,s _ _ h.hag⟩
theorem Of (l:List Int):ofF l.length (λ j=>l.getD j 0)=l:=by
 refine List.ext_getElem? λ j=>?_
 by_cases h:j<l.length
 ·rw [cA _ h,jZW h]
 ·rw [getElem?_eq_none (by rw [aN];omega),getElem?_eq_none (by omega)]
theorem rowL_of {e:Bool} {frs:List (List (Int×Int))} (B:BeO frs fb fg) {r:List (Int×Int)} (er:frs[i]?=some r):(aM e frs fb fg).rowL i=whL r++[(whL (bnF frs fb)).getD i 0]:=by
 unfold Lpd.rowL
 have hl:=(List.getElem?_eq_some_iff.mp er).1
 have eq:frs.getD i []=r:=by rw [getD_eq_getElem?_getD,er];rfl
 have e1:ofF fg.length (λ j=>(aM e frs fb fg).a j i)=whL r:=by
  rw [show (λ j=>(aM e frs fb fg).a j i)=λ j=>(whL r).getD j 0 from funext λ j=>by
   show (if i<frs.length then (whL (frs.getD i [])).getD j 0 else _)=_
   rw [if_pos hl,eq],← B.lr r (mem_of_getElem? er),← eF]
  exact Of _
 show ofF fg.length (λ j=>(aM e frs fb fg).a j i)++_=_
 rw [e1];rfl
theorem Wx {e:Bool} {frs:List (List (Int×Int))} (B:BeO frs fb fg):(aM e frs fb fg).rowL frs.length=((whL fg).map λ x=>-x)++[0]:=by
 unfold Lpd.rowL
 have e1:ofF fg.length (λ j=>(aM e frs fb fg).a j frs.length)=(whL fg).map λ x=>-x:=by
  conv=>rhs;rw [← Of (whL fg),eF]
  unfold ofF
  rw [List.map_map]
  refine map_congr_left λ j _=>?_
  show (if frs.length<frs.length then _ else _)=_
  rw [if_neg (Nat.lt_irrefl _)];rfl
 have e2:(whL (bnF frs fb)).getD frs.length 0=0:=by
  rw [getD_eq_getElem?_getD,getElem?_eq_none (by rw [eF,dF B.lb];exact Nat.le_refl _)];rfl
 show ofF fg.length (λ j=>(aM e frs fb fg).a j frs.length)++[(whL (bnF frs fb)).getD frs.length 0]=_
 rw [e1,e2]
theorem Rj {frs:List (List (Int×Int))} (B:BeO frs fb fg):∀ f∈bnF frs fb,G9 f:=λ f hf=>by
 have bnl:=dF B.lb
 obtain ⟨i,hi⟩:=getElem?_of_mem hf
 have hil:i<frs.length:=by have:=(List.getElem?_eq_some_iff.mp hi).1;omega
 have hib:i<fb.length:=by rw [B.lb];exact hil
 have e1:=getElem?_eq_getElem hil
 have e2:=getElem?_eq_getElem hib
 rw [mC e2 e1] at hi
 obtain rfl:=Option.some.inj hi
 have wp:=cZ λ f hf=>(B.gr _ (getElem_mem hil) f hf).1
 have tb:=B.tb _ (getElem_mem hib) _ (getElem_mem hil)
 have z:=Int.mul_pos (B.gb _ (getElem_mem hib)).1 wp.2
 have lo:=bU (t:=(fb[i]).1*(whF frs[i]).1) z
 exact ⟨lo.pos,(lo.bb tb.2 tb.1).1,(lo.bb tb.2 tb.1).2⟩
theorem Sm {K:W.Frag} {b c:Addr} {ms:List Addr} {frs:List (List (Int×Int))} (B:BeO frs fb fg) (S4:Sm4 frs fb fg) (M:Nf K G md lv lf ll av af ag ms frs fb fg) (s0:aF H G) {t ins:Addr} {L2:Lpd} {o:Option Nat} (O:Zz K G p t ins (aM false frs fb fg) L2 s o)
  (q:∀ v fl s o x w xp wp H',aF H H'->H x=none->H w=none->BeOut K H' v fl frs fb fg s o x w xp wp->Q (.ref v) H') {o7 o9:Option V} :
  yG K { nx:=λ _ H'=>Q .non H',rt:=Q } [some (.ref a),some (.ref b),some (.ref c),o3,some (.ref md),some (.ref lv),some (.ref av),o7,some (.ref p),o9] G:=by
 obtain ⟨fl,e2⟩:∃ fl,L2=aM fl frs fb fg:=by
  rcases O.e with e | e
  ·exact ⟨false,e⟩
  ·exact ⟨true,e⟩
 subst e2
 have ok:=O.ok
 have io:=O.io
 have un:=O.un
 have ca15:=O.ca
 have hp0:=O.hp
 have gbn:=Rj B
 have lim:=B.lim fl
 have m1:frs.length<=100:=lim.m1
 have n1:fg.length<=100:=lim.n1
 have msl:=M.hm.length
 have D0:=ok.pos
 obtain ⟨dx5,b5,sp5,k5,bs5,ss5,ks5,P⟩:=id ca15
 have wb:=cZ λ f hf=>(gbn f hf).1
 have wg:=cZ λ f hf=>(B.gg f hf).1
 (dsimp? [yG,cS,bB,aZ])
 refine ⟨_,SqT.of hp0,_,kX,_,rfl,_,_,P.ob,rfl,_,_,_,_,rfl,ca15,lim,ok,λ xl xps H16 s16 hxl hxl16 hxs=>?_⟩
 have s016:=s16
 have xpl:xps.length=fg.length:=by rw [hxs.length,aN];rfl
 have sbb:∀ j,BB 20000 (Lpd.spr (aM fl frs fb fg).m s (λ i=>(aM fl frs fb fg).T s i (aM fl frs fb fg).be) j):=spr_bb ok λ i hi=>lim.bb s i ok.n (by omega)
 refine ⟨_,rfl,⟨_,SqL.of hxl16⟩,bJ (K:=K) (a:=xl) (xs:=List.map V.ref xps) (λ i zs H17=>aF H16 H17/\∃ ps,zs=List.map V.ref ps/\aS K H17 ps (ofF i λ j=>fov (vD (aM fl frs fb fg) s (λ i=>(aM fl frs fb fg).T s i (aM fl frs fb fg).be) frs.length j) (whF (bnF frs fb)))) ?_ ⟨aF.refl _,[],rfl,trivial⟩ ?_ ?_ ?_⟩
 ·rw [length_map,xpl,sizeLine_eq];omega
 ·rintro i zs H17 _ ⟨s17,_⟩
  exact s17.seq (SqL.of hxl16)
 ·rintro i x zs H17 hi _ ⟨s17,ps,rfl,hps⟩
  obtain ⟨p,rfl,hp⟩:=bK hi
  obtain ⟨f,ef,hF⟩:=hxs.get hp
  obtain ⟨hin,rfl⟩:=cJ ef
  have lo:=bU (t:=Lpd.spr (aM fl frs fb fg).m s (λ i=>(aM fl frs fb fg).T s i (aM fl frs fb fg).be) i) D0
  have lbb:=lo.bb (sbb i) ((lim.bD s ok.n).mono (show 9000<=20000 by decide))
  have lle:(lo2 (Lpd.spr (aM fl frs fb fg).m s (λ i=>(aM fl frs fb fg).T s i (aM fl frs fb fg).be) i) ((aM fl frs fb fg).D s)).2<=(aM fl frs fb fg).D s:=by have h1:=lo.by_;have h2:=lo.pos;omega
  (dsimp? [Ht,bG,List.map_cons,List.map_nil,Option.join_some])
  refine ⟨_,SqT.of ((s016.trans s17) _ _ M.hlv),_,kX,_,_,_,_,_,_,rfl,⟨s17.tup hF,SqT.of ((s016.trans s17) _ _ M.hlf),lbb.1,lbb.2,B.wb.1,B.wb.2⟩,lo.pos,wb.1,tK (B.ox fl s ok.n) (Int.le_of_lt lo.pos) lle (Int.le_of_lt wb.1),λ r H18 s18 hr=>⟨s17.trans s18,ps++[r],by rw [map_append];rfl,?_⟩⟩
  rw [bT]
  exact aS.snoc (hps.same s18) (SqT.of hr)
 ·rintro zs H17 _ ⟨s17,xp,rfl,hxp⟩ xv hxv
  rw [length_map,xpl] at hxp
  have s18:=s17.trans (aF.upd (o:=HO.lst (List.map V.ref xp)) hxv)
  have hxp18:=hxp.same (aF.upd (o:=HO.lst (List.map V.ref xp)) hxv)
  have hxv18:(upd H17 xv (.lst (List.map V.ref xp))) xv=some (.lst (List.map V.ref xp)):=aD
  generalize upd H17 xv (.lst (List.map V.ref xp))=H18 at s18 hxp18 hxv18
  have hxvH:H xv=none:=((s0.trans s016).trans s17).free hxv
  clear s17 hxp hxv
  have s018:=s016.trans s18
  have ca18:=ca15.same (s16.trans s18)
  have P18:=P.same (s16.trans s18)
  (dsimp? [sV,Mz,cS])
  refine ⟨_,SqT.of ((s16.trans s18) _ _ hp0),_,gQ,?_⟩
  cases o with
  | some c=>exact absurd un (S4.w fl s c ok io)
  | none =>
   (dsimp? [sV,dU,lV];try simp_arith [sV,oV,decide_true,Bool.not_true,Bool.false_eq_true,if_false,dU,lV])
   refine ⟨_,SqT.of ((s16.trans s18) _ _ hp0),_,kX,?_⟩
   refine ⟨_,_,P18.ob,rfl,_,_,_,_,rfl,ca18,lim,ok,λ yl yps H19 s19 hyl hyl19 hys=>?_⟩
   have ypl:yps.length=frs.length:=by rw [hys.length,aN];rfl
   have s019:=s018.trans s19
   refine ⟨_,rfl,⟨_,SqL.of hyl19⟩,⟨_,SqL.of (s019 _ _ M.hmd)⟩,kW (K:=K) (a:=yl) (b:=md) (xs:=List.map V.ref yps) (ys:=List.map V.ref ms) (λ i zs H20=>aF H19 H20/\∃ ps,zs=List.map V.ref ps/\aS K H20 ps (ofF i λ k=>fov (ftm (lo2 ((aM fl frs fb fg).T s frs.length (e1 k)) ((aM fl frs fb fg).D s)) (whF (frs.getD k []))) (whF fg))) ?_ ?_ ⟨aF.refl _,[],rfl,trivial⟩ ?_ ?_ ?_⟩
   ·rw [length_map,ypl,sizeLine_eq];omega
   ·rw [length_map,length_map,ypl,msl]
   ·rintro i zs H20 _ ⟨s20,_⟩
    exact ⟨s20.seq (SqL.of hyl19),s20.seq (SqL.of (s019 _ _ M.hmd))⟩
   ·rintro i x y p zs H20 hx hy _ ⟨s20,ps,rfl,hps⟩ hp os ho
    obtain ⟨py,rfl,hpy⟩:=bK hx
    obtain ⟨pm,rfl,hpm⟩:=bK hy
    obtain ⟨f,ef,hF⟩:=hys.get hpy
    obtain ⟨him,rfl⟩:=cJ ef
    obtain ⟨r,rf,rl2,er,hv,hrf,hrl⟩:=M.hm.get hpm
    have hrm:=mem_of_getElem? er
    have erd:frs.getD i []=r:=by rw [getD_eq_getElem?_getD,er];rfl
    obtain ⟨o2,o3,rfl⟩:∃ o1 o2,os=[o1,o2]:=by
     match os,ho with
     | [o1,o2],_=>exact ⟨o1,o2,rfl⟩
    have s21:=s20.trans (aF.upd (o:=HO.tup [.ref py,.ref pm]) hp)
    have w:=cZ λ f hf=>(B.gr r hrm f hf).1
    have him':i<frs.length:=him
    obtain ⟨oy1,oy2⟩:=B.oy fl s ok.n r hrm
    have oy2:=oy2 i him'
    have lo:=bU (t:=(aM fl frs fb fg).T s frs.length (e1 i)) D0
    have lbb:=lo.bb (lim.bk s frs.length i ok.n (Nat.le_refl _) (Nat.le_of_lt him')) ((lim.bD s ok.n).mono (show 9000<=20000 by decide))
    have lle:(lo2 ((aM fl frs fb fg).T s frs.length (e1 i)) ((aM fl frs fb fg).D s)).2<=(aM fl frs fb fg).D s:=by have h1:=lo.by_;have h2:=lo.pos;omega
    (dsimp? [Ho,Hu,bG,List.map_cons,List.map_nil,Option.join_some])
    refine ⟨_,SqT.of aD,rfl,_,_,rfl,_,_,rfl,rfl,⟨[some (.ref py),some (.ref pm)],rfl,rfl⟩,_,rfl,_,SqT.of ((s019.trans s21) _ _ hv),_,kX,?_⟩
    have b1:BB 9000 ((aM fl frs fb fg).D s*(whF r).2):=oy1.of_le (by
     rw [Int.natAbs_mul ((aM fl frs fb fg).D s*(whF r).2)]
     exact Nat.le_mul_of_pos_right _ (by omega))
    have b2:=tK b1 (Int.le_of_lt lo.pos) lle (Int.le_of_lt w.2)
    have z2:=Int.mul_pos lo.pos w.2
    have lo3:=bU (t:=(lo2 ((aM fl frs fb fg).T s frs.length (e1 i)) ((aM fl frs fb fg).D s)).1*(whF r).1) z2
    have le3:=lo2_le (t:=(lo2 ((aM fl frs fb fg).T s frs.length (e1 i)) ((aM fl frs fb fg).D s)).1*(whF r).1) z2
    have b4:BB 20000 ((lo2 ((aM fl frs fb fg).T s frs.length (e1 i)) ((aM fl frs fb fg).D s)).1*(whF r).1):=oy2.of_le (by
     rw [Int.natAbs_mul,Int.natAbs_mul]
     exact Nat.mul_le_mul lo.bx (Nat.le_refl _))
    have bb3:=lo3.bb b4 (b2.mono (show 9000<=20000 by decide))
    refine ⟨_,_,_,_,_,_,rfl,⟨s21.tup hF,SqT.of ((s019.trans s21) _ _ hrf),lbb.1,lbb.2,(B.wr r hrm).1,(B.wr r hrm).2⟩,lo.pos,w.2,b2,λ u H22 s22 hu=>?_⟩
    have b5:BB 9000 ((lo2 ((aM fl frs fb fg).T s frs.length (e1 i)) ((aM fl frs fb fg).D s)).2*(whF r).2*(whF fg).1):=tK oy1 (Int.le_of_lt z2) (Int.mul_le_mul_of_nonneg_right lle (Int.le_of_lt w.2)) (Int.le_of_lt wg.1)
    refine ⟨_,SqT.of ((s019.trans (s21.trans s22)) _ _ M.hav),_,kX,_,_,_,_,_,_,rfl,⟨SqT.of hu,SqT.of ((s019.trans (s21.trans s22)) _ _ M.haf),bb3.1,bb3.2,B.wg.1,B.wg.2⟩,lo3.pos,wg.1,tK b5 (Int.le_of_lt lo3.pos) le3 (Int.le_of_lt wg.1),λ z H23 s23 hz=>⟨s21.trans (s22.trans s23),ps++[z],by rw [map_append];rfl,?_⟩⟩
    rw [bT]
    refine aS.snoc (((hps.same (aF.upd hp)).same s22).same s23) ?_
    rw [erd]
    exact SqT.of hz
   ·rintro zs H20 _ ⟨s20,wp,rfl,hwp⟩ wl hwl
    rw [length_map,ypl] at hwp
    refine ⟨sz3,λ v hv=>?_⟩
    have s21:=(aF.upd (o:=HO.lst (List.map V.ref wp)) hwl).trans (aF.upd (o:=HO.tup [.str "best",.ref xv,.ref wl]) hv)
    exact q v fl s none xv wl xp wp _ (((s0.trans s019).trans s20).trans s21) hxvH (((s0.trans s019).trans s20).free hwl) ⟨ok,io,un,aD,s21 _ _ ((s19.trans s20) _ _ hxv18),(hxp18.same (s19.trans s20)).same s21,aF.upd hv _ _ aD,hwp.same s21⟩
theorem Sl {K:W.Frag} {b c:Addr} {ms:List Addr} {frs:List (List (Int×Int))} (B:BeO frs fb fg) (S4:Sm4 frs fb fg) (al:∀ f∈fb,0<=f.1) (hm1:1<=frs.length) (hn1:1<=fg.length) (M:Nf K G md lv lf ll av af ag ms frs fb fg) (s0:aF H G)
  (q:∀ v fl s o x w xp wp H',aF H H'->H x=none->H w=none->BeOut K H' v fl frs fb fg s o x w xp wp->Q (.ref v) H') {o7 o8 o9:Option V} :
  yD K { nx:=λ _ H'=>Q .non H',rt:=Q } [some (.ref a),some (.ref b),some (.ref c),o3,some (.ref md),some (.ref lv),some (.ref av),o7,o8,o9] G:=by
 have lim:=B.lim false
 have m1:frs.length<=100:=lim.m1
 have n1:fg.length<=100:=lim.n1
 have msl:=M.hm.length
 have bnl:=dF B.lb
 have wl:(whL (bnF frs fb)).length=frs.length:=by rw [eF,bnl]
 (dsimp? [yD,dU,lV])
 refine ⟨_,SqT.of M.hlv,_,gQ,_,rfl,⟨_,SqL.of M.hmd⟩,⟨_,SqL.of M.hll⟩,kW (K:=K) (a:=md) (b:=ll) (xs:=List.map V.ref ms) (ys:=List.map V.int (whL (bnF frs fb))) (λ i zs H6=>aF G H6/\∃ ls,zs=List.map V.ref ls/\bL H6 ls (ofF i (aM false frs fb fg).rowL)) ?_ ?_ ⟨aF.refl _,[],rfl,trivial⟩ ?_ ?_ ?_⟩
 ·rw [length_map,sizeLine_eq,msl];omega
 ·rw [length_map,length_map,msl,wl]
 ·rintro i zs H6 _ ⟨s6,_⟩
  exact ⟨s6.seq (SqL.of M.hmd),s6.seq (SqL.of M.hll)⟩
 ·rintro i x y p zs H6 hx hy _ ⟨s6,ls,rfl,hls⟩ hp os ho
  obtain ⟨pm,rfl,hpm⟩:=bK hx
  obtain ⟨v,rfl,hv⟩:=cU hy
  obtain ⟨r,rf,rl,er,hv2,hrf,hrl⟩:=M.hm.get hpm
  obtain ⟨o2,o3,rfl⟩:∃ o1 o2,os=[o1,o2]:=by
   match os,ho with
   | [o1,o2],_=>exact ⟨o1,o2,rfl⟩
  have hrm:=mem_of_getElem? er
  have s7:=s6.trans (aF.upd (o:=HO.tup [.ref pm,.int v]) hp)
  (dsimp? [Hn,Hs,oW,bG,List.map_cons,List.map_nil,Option.join_some])
  refine ⟨_,SqT.of aD,rfl,_,_,rfl,_,_,rfl,rfl,⟨[some (.ref pm),some (.int v)],rfl,rfl⟩,_,rfl,_,SqT.of (s7 _ _ hv2),_,gQ,?_⟩
  refine ⟨sz1,λ l2 hl2=>⟨_,rfl,_,aF.upd hl2 _ _ (s7 _ _ hrl),_,aD,by rw [length_map,eF,B.lr r hrm,sizeLine_eq];show fg.length+1<=_;omega,λ l3 hl3=>?_⟩⟩
  refine ⟨(s7.trans (aF.upd hl2)).trans (aF.upd hl3),ls++[l3],by rw [map_append];rfl,?_⟩
  rw [bT]
  refine bL.snoc (((hls.same (aF.upd hp)).same (aF.upd hl2)).same (aF.upd hl3)) ?_
  rw [aD,rowL_of B er,dW hv,map_append];rfl
 ·rintro zs H6 _ ⟨s6,ls,rfl,hls⟩ l7 hl7
  rw [length_map,msl] at hls
  have s7:=s6.trans (aF.upd (o:=HO.lst (List.map V.ref ls)) hl7)
  have hls7:=hls.same (aF.upd (o:=HO.lst (List.map V.ref ls)) hl7)
  have hl77:(upd H6 l7 (.lst (List.map V.ref ls))) l7=some (.lst (List.map V.ref ls)):=aD
  generalize upd H6 l7 (.lst (List.map V.ref ls))=H7 at s7 hls7 hl77
  have lsl:ls.length=frs.length:=by rw [hls7.length,aN]
  (dsimp? [Hl,oW])
  refine ⟨_,SqT.of (s7 _ _ M.hav),_,gQ,_,_,rfl,SqL.of (s7 _ _ M.hag),by rw [eF];omega,λ lt H8 s8 _ hlt=>⟨sz1,λ l0 hl0=>⟨_,rfl,_,aF.upd hl0 _ _ hlt,_,aD,by rw [length_map,length_map,eF,sizeLine_eq];show fg.length+1<=_;omega,λ lg hlg=>⟨sz1,λ l1 hl1=>?_⟩⟩⟩⟩
  have s9:=((s7.trans s8).trans (aF.upd (o:=HO.lst [.int 0]) hl0)).trans (aF.upd (o:=HO.lst (List.map V.int ((whL fg).map λ x=>-x)++[.int 0])) hlg)
  have s79:=(s8.trans (aF.upd (o:=HO.lst [.int 0]) hl0)).trans (aF.upd (o:=HO.lst (List.map V.int ((whL fg).map λ x=>-x)++[.int 0])) hlg)
  have hlg9:(upd (upd H8 l0 (.lst [.int 0])) lg (.lst (List.map V.int ((whL fg).map λ x=>-x)++[.int 0]))) lg=some (.lst (List.map V.int ((aM false frs fb fg).rowL frs.length))):=by rw [aD,Wx B,map_append];rfl
  generalize upd (upd H8 l0 (.lst [.int 0])) lg (.lst (List.map V.int ((whL fg).map λ x=>-x)++[.int 0]))=H9 at s9 s79 hlg9 hl1
  refine ⟨_,aF.upd hl1 _ _ (s79 _ _ hl77),_,aD,by rw [length_map,lsl,sizeLine_eq];show frs.length+1<=_;omega,λ l2 hl2=>?_⟩
  have s10:=(aF.upd (o:=HO.lst [.ref lg]) hl1).trans (aF.upd (o:=HO.lst (List.map V.ref ls++[.ref lg])) hl2)
  have R:tL (upd (upd H9 l1 (.lst [.ref lg])) l2 (.lst (List.map V.ref ls++[.ref lg]))) l2 (ls++[lg]) (aM false frs fb fg):=by
   refine ⟨by rw [aD,map_append];rfl,?_⟩
   show bL _ _ (ofF (frs.length+1) _)
   rw [bT]
   exact bL.snoc ((hls7.same s79).same s10) (s10 _ _ hlg9)
  generalize upd (upd H9 l1 (.lst [.ref lg])) l2 (.lst (List.map V.ref ls++[.ref lg]))=H10 at s10 R
  obtain ⟨q0,q1,F,q9,st,f1,f2⟩:=B.fit
  have I:Mt H10 l2 (ls++[lg]) (aM false frs fb fg) 40 q1:=⟨R,rfl,hm1,hn1,lim,F,by decide,λ k hk=>absurd hk (by have:=Nat.one_le_two_pow (n:=k);omega),λ j k _ _=>S4.a j k,λ k _=>S4.b k,λ i _=>Rt (λ f hf=>(Rj B f hf).1) (Ub B al) i⟩
  exact ⟨l2,_,_,_,_,rfl,I,by decide,λ p t ins L2 s o H11 s11 O=>Sm B S4 (M.same ((s9.trans s10).trans s11)) (s0.trans ((s9.trans s10).trans s11)) O q⟩
theorem rd_best {K vs H Q E} (h:Br K vs H Q E):Qx K { nx:=λ _ H'=>Q .non H',rt:=Q } (start N_best vs) H:=by
 obtain ⟨a,b,c,rps,bps,gps,frs,fb,fg,rfl,I,qn,B,S4,hm1,hn1,q⟩:=h
 have bpl:=I.hbs.length
 rw [show start N_best [V.ref a,V.ref b,V.ref c]=[some (.ref a),some (.ref b),some (.ref c),none,none,none,none,none,none,none] from rfl]
 (dsimp! [Qx,cV,aZ,aP,aJ,aB])
 refine ⟨⟨_,SqL.of I.hb⟩,eO (K:=K) (a:=b) (xs:=List.map V.ref bps) (g:=aJ 3) (D:={ nx:=yB K { nx:=λ _ H'=>Q .non H',rt:=Q },rt:=Q }) (iv_best a b c H fb) ?_ ?_ ?_ ?_⟩
 ·exact ⟨none,rfl,aF.refl _,(λ _ h=>nomatch h)⟩
 ·rintro i σ H3 _ ⟨_,_,s3,_⟩
  exact s3.seq (SqL.of I.hb)
 ·rintro i x σ H3 hi ⟨o1,rfl,s3,al⟩
  obtain ⟨p,rfl,hp⟩:=bK hi
  obtain ⟨f,ef,hF⟩:=I.hbs.get hp
  have hm:=mem_of_getElem? ef
  have gf:=I.gb f hm
  have one:BB 20000 (1:Int):=by show (1:Int).natAbs<2 ^ 20000;exact Nat.one_lt_two_pow (by decide)
  have zer:BB 20000 (0:Int):=by show (0:Int).natAbs<2 ^ 20000;exact Nat.two_pow_pos _
  (dsimp! [dJ,aJ,aB,tC,cQ,tB,bS,aO,aC,aK,dS,dJ,List.append_nil])
  refine ⟨sz2,λ z hz=>?_⟩
  have s4:=s3.trans (aF.upd (o:=HO.tup [.int 0,.int 1]) hz)
  refine ⟨_,_,_,_,_,_,rfl,⟨s4.tup hF,SqT.of aD,gf.2.1,gf.2.2.mono (by decide),zer,one⟩,_,rfl,vF (λ hn=>?_) (λ hn=>?_)⟩
  ·have:=qn f hm;simp only [decide_eq_true_eq,Int.mul_one,Int.zero_mul] at hn;omega
  ·refine ⟨_,rfl,s4,λ g hg=>?_⟩
   rw [bC ef] at hg
   rcases mem_append.mp hg with hg | hg
   ·exact al g hg
   ·rw [mem_singleton.mp hg];simp only [decide_eq_true_eq,Int.mul_one,Int.zero_mul] at hn;omega
 ·rintro σ H3 ⟨o1,rfl,s3,al⟩
  rw [length_map,bpl,take_length] at al
  have rpl:=I.hr.length
  have m1:frs.length<=100:=(B.lim false).m1
  have n1:fg.length<=100:=(B.lim false).n1
  (dsimp? [yB,bB,aZ])
  refine ⟨⟨_,s3.seq (SqL.of I.ha)⟩,bJ (K:=K) (a:=a) (xs:=List.map V.ref rps) (λ i zs H4=>aF H H4/\∃ ms,zs=List.map V.ref ms/\qQ H4 ms (frs.take i)) ?_ ⟨s3,[],rfl,trivial⟩ ?_ ?_ ?_⟩
  ·rw [length_map,sizeLine_eq];omega
  ·rintro i zs H4 _ ⟨s4,_⟩
   exact s4.seq (SqL.of I.ha)
  ·rintro i x zs H4 hi _ ⟨s4,ms,rfl,hms⟩
   obtain ⟨p,rfl,hp⟩:=bK hi
   obtain ⟨r,qs,er,hrow,hfr⟩:=I.hr.get hp
   have hrm:=mem_of_getElem? er
   (dsimp! [Hq,aB,aO,aC,aK,List.append_nil])
   refine ⟨_,_,_,rfl,s4.seq (SqL.of hrow),hfr.same s4,B.gr r hrm,by rw [B.lr r hrm];omega,B.cr r hrm,λ v f l H5 s5 hv hf hl=>⟨s4.trans s5,ms++[v],by rw [map_append];rfl,?_⟩⟩
   rw [bC er]
   exact qQ.append (show qQ H5 [v] [r] from ⟨⟨f,l,hv,hf,hl⟩,trivial⟩) (hms.same s5)
  ·rintro zs H4 _ ⟨s4,ms,rfl,hms⟩ md hmd
   rw [length_map,rpl,take_length] at hms
   have s5:=s4.trans (aF.upd (o:=HO.lst (List.map V.ref ms)) hmd)
   have hm5:=hms.same (aF.upd (o:=HO.lst (List.map V.ref ms)) hmd)
   have hmd5:(upd H4 md (.lst (List.map V.ref ms))) md=some (.lst (List.map V.ref ms)):=aD
   generalize upd H4 md (.lst (List.map V.ref ms))=H5 at s5 hm5 hmd5
   clear s4 hms hmd s3
   have msl:=hm5.length
   (dsimp? [Hk,dU,lV])
   refine ⟨⟨_,s5.seq (SqL.of I.hb)⟩,⟨_,SqL.of hmd5⟩,kW (K:=K) (a:=b) (b:=md) (xs:=List.map V.ref bps) (ys:=List.map V.ref ms) (λ i zs H6=>aF H5 H6/\∃ ts,zs=List.map V.ref ts/\aS K H6 ts ((bnF frs fb).take i)) ?_ ?_ ⟨aF.refl _,[],rfl,trivial⟩ ?_ ?_ ?_⟩
   ·rw [length_map,sizeLine_eq,bpl,B.lb];omega
   ·rw [length_map,length_map,bpl,B.lb,msl]
   ·rintro i zs H6 _ ⟨s6,_⟩
    exact ⟨(s5.trans s6).seq (SqL.of I.hb),s6.seq (SqL.of hmd5)⟩
   ·rintro i x y p zs H6 hx hy _ ⟨s6,ts,rfl,hts⟩ hp os ho
    obtain ⟨pb,rfl,hpb⟩:=bK hx
    obtain ⟨pm,rfl,hpm⟩:=bK hy
    obtain ⟨f,ef,hF⟩:=I.hbs.get hpb
    obtain ⟨r,rf,rl,er,hv,hrf,hrl⟩:=hm5.get hpm
    obtain ⟨o2,o3,rfl⟩:∃ o1 o2,os=[o1,o2]:=by
     match os,ho with
     | [o1,o2],_=>exact ⟨o1,o2,rfl⟩
    have hrm:=mem_of_getElem? er
    have hfm:=mem_of_getElem? ef
    have gf:=B.gb f hfm
    have s7:=s6.trans (aF.upd (o:=HO.tup [.ref pb,.ref pm]) hp)
    have wp:=cZ λ f hf=>(B.gr r hrm f hf).1
    (dsimp? [Hm,Hr])
    refine ⟨_,SqT.of aD,rfl,_,_,rfl,_,_,rfl,rfl,⟨[some (.ref pb),some (.ref pm)],rfl,rfl⟩,_,rfl,_,SqT.of (s7 _ _ hv),_,kX,?_⟩
    refine ⟨_,_,_,_,_,_,rfl,⟨(s5.trans s7).tup hF,SqT.of (s7 _ _ hrf),gf.2.1,gf.2.2.mono (by decide),(B.wr r hrm).1,(B.wr r hrm).2⟩,gf.1,wp.2,(B.tb f hfm r hrm).1,λ t H8 s8 ht=>⟨s7.trans s8,ts++[t],by rw [map_append];rfl,?_⟩⟩
    rw [bC (mC ef er)]
    exact aS.snoc ((hts.same (aF.upd hp)).same s8) (SqT.of ht)
   ·rintro zs H6 _ ⟨s6,ts,rfl,hts⟩ tl htl
    have bnl:=dF B.lb
    rw [length_map,bpl,B.lb,← bnl,take_length] at hts
    have s7:=s6.trans (aF.upd (o:=HO.lst (List.map V.ref ts)) htl)
    have hts7:=hts.same (aF.upd (o:=HO.lst (List.map V.ref ts)) htl)
    have htl7:(upd H6 tl (.lst (List.map V.ref ts))) tl=some (.lst (List.map V.ref ts)):=aD
    generalize upd H6 tl (.lst (List.map V.ref ts))=H7 at s7 hts7 htl7
    clear s6 hts htl
    have gbn:=Rj B
    refine ⟨_,_,_,rfl,SqL.of htl7,hts7,gbn,by omega,B.cb,λ lv lf ll H8 s8 hlv hlf hll=>?_⟩
    have s08:=s5.trans (s7.trans s8)
    refine ⟨_,_,_,rfl,s08.seq (SqL.of I.hg),I.hgs.same s08,B.gg,by omega,B.cg,λ av af al' H9 s9 hav haf hal=>?_⟩
    exact Sl B S4 al hm1 hn1 ⟨s9 _ _ (s8 _ _ (s7 _ _ hmd5)),hm5.same (s7.trans (s8.trans s9)),s9 _ _ hlv,s9 _ _ hlf,s9 _ _ hll,hav,haf,hal⟩ (s08.trans s9) q
noncomputable def Ot:List PySem.Str:=["fractions", "total", "fraction"]
noncomputable def sW (K:W.Frag):Sp:=λ vs H Q _=>∃ l ps n X M,vs=[.ref l]/\SqL K H l (List.map V.ref ps)/\aS K H ps (ofF n X)/\0<M/\BB 4000 M/\(∀ k,k<n->0<(X k).2/\0<=(X k).1/\(X k).2∣M)/\(rsm n λ k=>va (X k))<=1 /\
 ∀ x y p H',aF H H'->H' p=some (.tup [.int x,.int y])->0<y->0<=x->y∣M->va (x,y)=(rsm n λ k=>va (X k))->Q (.ref p) H'
noncomputable def Ye (l:Addr) (H0:Hp) (M:Int) (X:Nat->Int×Int):Nat->St->Hp->Prop:=λ i σ H3=>∃ t x y o,σ=[some (.ref l),some (.ref t),o]/\aF H0 H3/\H3 t=some (.tup [.int x,.int y])/\0<y/\0<=x/\y∣M/\va (x,y)=(rsm i λ k=>va (X k))
noncomputable def zJ (K:W.Frag):TS:=(aV (aO (vL K) [] E0 (aC (aB 1) (aC (aB 2) aK))) (aJ 1))
noncomputable def Cy (K:W.Frag):TS:=(aP (aV (dS (aC (tC (.int 0)) (aC (tC (.int 1)) aK))) (aJ 1)) (aP (cV (aZ K (aB 0)) (aJ 2) (zJ K)) (aW (aB 1))))
theorem Tg {K vs H Q E} (h:sW K vs H Q E):vs.length=1:=by obtain ⟨_,_,_,_,_,rfl,_⟩:=h;rfl
theorem pW {n:Nat} (h:BB n y) (h0:0<=x) (h1:x<=y):BB n x:=h.of_le (by omega)
theorem Wz {K vs H Q E} (h:sW K vs H Q E):Cy K { nx:=λ _ H'=>Q .non H',rt:=Q } (start Ot vs) H:=by
 obtain ⟨l,ps,n,X,M,rfl,hl,hf,M0,bM,hX,le1,q⟩:=h
 have hpl:ps.length=n:=by rw [hf.length,aN]
 have v0:∀ k,k<n->0<=va (X k):=λ k hk=>nN (hX k hk).1 (hX k hk).2.1
 rw [show start Ot [V.ref l]=[some (.ref l),none,none] from rfl]
 (dsimp? [Cy,cV,aZ])
 refine ⟨sz2,λ t ht=>⟨⟨_,(aF.upd ht).seq hl⟩,eO (K:=K) (a:=l) (xs:=List.map V.ref ps) (g:=aJ 2) (D:={ nx:=aW (aB 1) { nx:=λ _ H'=>Q .non H',rt:=Q },rt:=Q }) (Ye l H M X) ?_ ?_ ?_ ?_⟩⟩
 ·exact ⟨t,0,1,none,rfl,aF.upd ht,aD,by decide,by decide,Int.one_dvd _,vJ⟩
 ·rintro i σ H3 _ ⟨_,_,_,_,_,s3,_⟩
  exact s3.seq hl
 ·rintro i x σ H3 hi ⟨t,x,y,o,rfl,s3,hT,y0,x0,dM,e⟩
  obtain ⟨p,rfl,hp⟩:=bK hi
  obtain ⟨f,ef,hF⟩:=(hf.same s3).get hp
  obtain ⟨hin,rfl⟩:=cJ ef
  obtain ⟨f2,f1,fM⟩:=hX i hin
  have m1:=vU (f:=λ k=>va (X k)) (i:=i) (n:=n) (by omega) v0
  have m2:=vU (f:=λ k=>va (X k)) (i:=i+1) (n:=n) (by omega) v0
  have m3:rsm (i+1) (λ k=>va (X k))=rsm i (λ k=>va (X k))+va (X i):=rfl
  have m4:=lH (f:=λ k=>va (X k)) (n:=i) λ k hk=>v0 k (by omega)
  have xy:x<=y:=Co (f:=(x,y)) y0 (by rw [e];grind)
  have ff:(X i).1<=(X i).2:=Co f2 (by grind)
  have by4:=Cw bM M0 dM
  have bf4:=Cw bM M0 fM
  have z:=Int.mul_pos y0 f2
  (dsimp? [zJ])
  refine ⟨_,_,_,_,_,_,rfl,⟨SqT.of hT,hF,(pW by4 x0 xy).mono (by decide),by4.mono (by decide),(pW bf4 f1 ff).mono (by decide),bf4.mono (by decide)⟩,y0,f2,(by4.mul bf4).mono (by decide),λ r H4 s4 hr=>?_⟩
  refine ⟨r,_,_,_,rfl,s3.trans s4,hr,(bU z).pos,pS z (Int.add_nonneg (Int.mul_nonneg x0 (Int.le_of_lt f2)) (Int.mul_nonneg f1 (Int.le_of_lt y0))),sum_dvd (f:=(x,y)) y0 f2 dM fM,?_⟩
  show va (lo2 (x*(X i).2+(X i).1*y) (y*(X i).2))=_
  rw [m3,← e]
  exact va_add (f:=(x,y)) y0 f2
 ·rintro σ H3 ⟨t,x,y,o,rfl,s3,hT,y0,x0,dM,e⟩
  (dsimp! [aB,tC,tOp,rI0,rNe,dI,aW,bE])
  rw [length_map,hpl] at e
  exact q x y t H3 s3 hT y0 x0 dM e
noncomputable def Wn:List PySem.Str:=["one", "other"]
noncomputable def rC (K:W.Frag):Sp:=λ vs H Q _=>∃ p q a b c d,vs=[.ref p,.ref q]/\Tw K H p q a b c d/\0<b/\0<d/\BB 9000 (b*d)/\∀ r H',aF H H'->H' r=some (.tup [.int (lo2 (a*d - c*b) (b*d)).1,.int (lo2 (a*d - c*b) (b*d)).2])->Q (.ref r) H'
noncomputable def Ki (K:W.Frag):TS:=(aW (aO (gB K) [] E0 (aC (tOp nH (tOp cK (tOp (bW K) (aB 0) (tC (.int 0))) (tOp (bW K) (aB 1) (tC (.int 1)))) (tOp cK (tOp (bW K) (aB 1) (tC (.int 0))) (tOp (bW K) (aB 0) (tC (.int 1))))) (aC (tOp cK (tOp (bW K) (aB 0) (tC (.int 1))) (tOp (bW K) (aB 1) (tC (.int 1)))) aK))))
theorem Xz {K vs H Q E} (h:rC K vs H Q E):vs.length=2:=by obtain ⟨p,q,a,b,c,d,rfl,_⟩:=h;rfl
theorem jJg {K vs H Q E} (h:rC K vs H Q E):Ki K { nx:=λ _ H'=>Q .non H',rt:=Q } (start Wn vs) H:=by
 obtain ⟨p,q,a,b,c,d,rfl,⟨hp,hq,ba,bb,bc,bd⟩,b0,d0,b9,k⟩:=h
 rw [show start Wn [V.ref p,V.ref q]=[some (.ref p),some (.ref q)] from rfl]
 (dsimp? [Ki])
 refine ⟨_,hp,_,kX,_,hq,_,gQ,_,rfl,_,rfl,.b ba bd,_,hq,_,kX,_,hp,_,gQ,_,rfl,_,rfl,.b bc bb,_,hp,_,gQ,_,hq,_,gQ,_,rfl,_,rfl,.b bb bd,?_⟩
 have z:0<b*d:=Int.mul_pos b0 d0
 refine ⟨_,_,rfl,by omega,b9,λ x y r H' s h l=>k r H' s ?_⟩
 obtain ⟨e1,e2⟩:=l.uniq z (bU z)
 rw [← e1,← e2];exact h
noncomputable def Jp:List PySem.Str:=["weights", "total"]
noncomputable def lF (K:W.Frag):Sp:=λ vs H Q _=>∃ a t ps n X x y,vs=[.ref a,.ref t]/\SqL K H a (List.map V.ref ps)/\aS K H ps (ofF n X)/\SqT K H t [.int x,.int y]/\0<x/\0<y/\BB 4000 x/\BB 4000 y/\(∀ k,k<n->0<(X k).2/\0<=(X k).1/\(X k).1<=(X k).2/\BB 4000 (X k).2)/\n<=100/\∀ l qs H',aF H H'->H' l=some (.lst (List.map V.ref qs))->aS K H' qs (ofF n λ k=>fov (X k) (x,y))->Q (.ref l) H'
noncomputable def wO (K:W.Frag):TE:=(aO (pD K) [] E0 (aC (aB 0) (aC (aB 1) aK)))
noncomputable def xY (K:W.Frag):TS:=(aW (bB (aZ K (aB 0)) [1] (wO K)))
theorem Qg {K vs H Q E} (h:lF K vs H Q E):vs.length=2:=by obtain ⟨_,_,_,_,_,_,_,rfl,_⟩:=h;rfl
theorem Sj {K vs H Q E} (h:lF K vs H Q E):xY K { nx:=λ _ H'=>Q .non H',rt:=Q } (start Jp vs) H:=by
 obtain ⟨a,t,ps,n,X,x,y,rfl,hS,hf,ht,x0,y0,bx,by4,hX,hn,q⟩:=h
 have hpl:ps.length=n:=by rw [hf.length,aN]
 rw [show start Jp [V.ref a,V.ref t]=[some (.ref a),some (.ref t)] from rfl]
 (dsimp? [xY,bB,aZ])
 refine ⟨⟨_,hS⟩,bJ (K:=K) (a:=a) (xs:=List.map V.ref ps) (λ i zs H3=>aF H H3/\∃ qs,zs=List.map V.ref qs/\aS K H3 qs (ofF i λ k=>fov (X k) (x,y))) (by rw [length_map,sizeLine_eq];omega) ⟨aF.refl _,[],rfl,trivial⟩ ?_ ?_ ?_⟩
 ·rintro i zs H3 _ ⟨s3,_⟩
  exact s3.seq hS
 ·rintro i u zs H3 hi _ ⟨s3,qs,rfl,hq⟩
  obtain ⟨p,rfl,hp⟩:=bK hi
  obtain ⟨f,ef,hF⟩:=(hf.same s3).get hp
  obtain ⟨hin,rfl⟩:=cJ ef
  obtain ⟨f2,f1,ff,bf⟩:=hX i hin
  (dsimp? [wO,bG,List.map_cons,List.map_nil,Option.join_some])
  refine ⟨_,_,_,_,_,_,rfl,⟨hF,s3.tup ht,(pW bf f1 ff).mono (by decide),bf.mono (by decide),bx.mono (by decide),by4.mono (by decide)⟩,f2,x0,(bf.mul bx).mono (by decide),λ r H4 s4 hr=>⟨s3.trans s4,qs++[r],by rw [map_append];rfl,?_⟩⟩
  rw [bT]
  exact aS.snoc (hq.same s4) (SqT.of hr)
 ·rintro zs H3 _ ⟨s3,qs,rfl,hq⟩ l hl
  rw [length_map,hpl] at hq
  exact q l qs _ (s3.trans (aF.upd hl)) aD (hq.same (aF.upd hl))
noncomputable def Wi:List PySem.Str:=["rows", "lift", "raised", "found", "total"]
structure WoOut (K:W.Frag) (H':Hp) (v:Addr) (frs:List (List (Int×Int))) (n:Nat) (x y:Int) (P R:Nat->Int×Int) (w pl ql:Addr) (pp qp:List Addr):Prop where
 hv:H' v=some (.tup [.ref w,.ref pl,.ref ql])
 hw:H' w=some (.tup [.int x,.int y])
 hpl:H' pl=some (.lst (List.map V.ref pp))
 hps:aS K H' pp (ofF frs.length P)
 hql:H' ql=some (.lst (List.map V.ref qp))
 hqs:aS K H' qp (ofF n R)
 y0:0<y
 cop:Int.gcd x y=1
 by9:BB 9000 y
 bx:BB 20000 x
 pok:∀ i,i<frs.length->Fok (P i)/\BB 9000 (P i).2
 qok:∀ j,j<n->Fok (R j)/\BB 9000 (R j).2
 G:Gm frs.length n (λ i j=>va (rwF frs i j)) (va (x,y)) (λ i=>va (P i)) (λ j=>va (R j))
noncomputable def vS (K:W.Frag):Sp:=λ vs H Q _=>∃ a rps frs n,vs=[.ref a]/\H a=some (.lst (List.map V.ref rps))/\kY K H rps frs/\WoR frs n/\(∀ z,Mnf frs z->WoO (kI z frs) frs.length n/\(∀ j k,BB 40 ((aM false (kI z frs) (bY frs.length) (bY n)).a j k))/\∀ k,BB 40 ((aM false (kI z frs) (bY frs.length) (bY n)).be k)) /\
 ∀ v x y P R w pl ql pp qp H',aF H H'->WoOut K H' v frs n x y P R w pl ql pp qp->Q (.ref v) H'
noncomputable def uQ (K:W.Frag):TS:=(aW (dS (aC (aO (rC K) [] E0 (aC (aO (pD K) [] E0 (aC (dS (aC (tC (.int 1)) (aC (tC (.int 1)) aK))) (aC (aB 4) aK))) (aC (aB 1) aK))) (aC (aO (lF K) [] E0 (aC (tOp (bW K) (aB 3) (tC (.int 2))) (aC (aB 4) aK))) (aC (aO (lF K) [] E0 (aC (tOp (bW K) (aB 3) (tC (.int 1))) (aC (aB 4) aK))) aK)))))
noncomputable def Ed (K:W.Frag):TS:=(aP (aV (aO (sW K) [] E0 (aC (tOp (bW K) (aB 3) (tC (.int 1))) aK)) (aJ 4)) (uQ K))
noncomputable def Eg (K:W.Frag):TE:=(dS (aC (tC (.int 1)) (aC (tC (.int 1)) aK)))
noncomputable def Ef (K:W.Frag):TE:=(dS (aC (tC (.int 1)) (aC (tC (.int 1)) aK)))
noncomputable def Ec (K:W.Frag):TS:=(aP (aV (aO (Br K) [] E0 (aC (aB 2) (aC (bB (aZ K (aB 0)) [] (Ef K)) (aC (bB (aZ K (tOp (dD K) (aB 0) (tC (.int 0)))) [] (Eg K)) aK)))) (aJ 3)) (Ed K))
noncomputable def Ee (K:W.Frag):TE:=(aO (sY K) [] E0 (aC (aB 0) (aC (aB 1) aK)))
noncomputable def Eb (K:W.Frag):TS:=(aP (aV (bB (aZ K (aB 0)) [1] (Ee K)) (aJ 2)) (Ec K))
noncomputable def Ke (K:W.Frag):TS:=(aP (aV (aO (pJ K) [] E0 (aC (aB 0) aK)) (aJ 1)) (Eb K))
theorem Xu {K vs H Q E} (h:vS K vs H Q E):vs.length=1:=by obtain ⟨_,_,_,_,rfl,_⟩:=h;rfl
theorem Vs (hf:0<f.2) (h0:0<=f.1) (hg:0<g.2) (hg1:0<g.1) (b1:BB 4000 f.2) (b2:BB 4000 g.1):Fok (fov f g)/\BB 9000 (fov f g).2:=by
 have z:=Int.mul_pos hf hg1
 have l:=bU (t:=f.1*g.2) z
 exact ⟨⟨l.pos,l.cop,pS z (Int.mul_nonneg h0 (Int.le_of_lt hg))⟩,((b1.mul b2).of_le (by have:=l.by_;exact this)).mono (by decide)⟩
theorem Pe {K:W.Frag} {lp rz v t w x:Addr} {wd:Str} {xp wp:List Addr} {frs:List (List (Int×Int))} {n:Nat} {tx ty:Int} {X Y:Nat->Int×Int} (s0:aF H G) (m2:frs.length<=100) (n2:n<=100) (hl:G lp=some (.tup [.int (1 - z),.int 1])) (bz:BB 9000 (1 - z)) (hv:G v=some (.tup [.str wd,.ref x,.ref w])) (hx:G x=some (.lst (List.map V.ref xp))) (hxs:aS K G xp (ofF n X)) (hw:G w=some (.lst (List.map V.ref wp))) (hws:aS K G wp (ofF frs.length Y))
  (ht:G t=some (.tup [.int tx,.int ty])) (ty0:0<ty) (tx0:0<tx) (bt:BB 4000 ty) (txy:tx<=ty) (hX:∀ k,k<n->0<(X k).2/\0<=(X k).1/\(X k).1<=(X k).2/\BB 4000 (X k).2) (hY:∀ k,k<frs.length->0<(Y k).2/\0<=(Y k).1/\(Y k).1<=(Y k).2/\BB 4000 (Y k).2)
  (g:Gm frs.length n (λ i j=>va (rwF frs i j)) (1 / va (tx,ty) - ((1 - z:Int):Rat)) (λ i=>va (Y i) / va (tx,ty)) (λ j=>va (X j) / va (tx,ty)))
  (q:∀ v x y P R w pl ql pp qp H',aF H H'->WoOut K H' v frs n x y P R w pl ql pp qp->Q (.ref v) H') :
  uQ K { nx:=λ _ H'=>Q .non H',rt:=Q } [some (.ref a),some (.ref lp),some (.ref rz),some (.ref v),some (.ref t)] G:=by
 have btx:BB 4000 tx:=pW bt (Int.le_of_lt tx0) txy
 have one:BB 20000 (1:Int):=by show (1:Int).natAbs<2 ^ 20000;exact Nat.one_lt_two_pow (by decide)
 have z1:(0:Int)<1*tx:=by omega
 have l1:=bU (t:=1*ty) z1
 have bb1:=l1.bb (n:=4000) (by rw [Int.one_mul];exact bt) (by rw [Int.one_mul];exact btx)
 have z2:=Int.mul_pos l1.pos (show (0:Int)<1 by decide)
 have l2:=bU (t:=(lo2 (1*ty) (1*tx)).1*1 - (1 - z)*(lo2 (1*ty) (1*tx)).2) z2
 (dsimp? [uQ])
 refine ⟨sz2,λ u hu=>?_⟩
 have s1:=aF.upd (o:=HO.tup [.int 1,.int 1]) hu
 refine ⟨_,_,_,_,_,_,rfl,⟨SqT.of aD,SqT.of (s1 _ _ ht),one,one,btx.mono (by decide),bt.mono (by decide)⟩,by decide,tx0,by rw [Int.one_mul];exact btx.mono (by decide),λ r H1 s2 hr=>?_⟩
 have s02:=s1.trans s2
 refine ⟨_,_,_,_,_,_,rfl,⟨SqT.of hr,SqT.of (s02 _ _ hl),bb1.1.mono (by decide),bb1.2.mono (by decide),bz.mono (by decide),one⟩,l1.pos,by decide,by rw [Int.mul_one];exact bb1.2.mono (by decide),λ r2 H2 s3 hr2=>?_⟩
 have s03:=s02.trans s3
 refine ⟨_,SqT.of (s03 _ _ hv),_,atI2,_,_,_,_,_,_,_,rfl,SqL.of (s03 _ _ hw),hws.same s03,SqT.of (s03 _ _ ht),tx0,ty0,btx,bt,hY,m2,λ pl pp H3 s4 hpl hpp=>?_⟩
 have s04:=s03.trans s4
 refine ⟨_,SqT.of (s04 _ _ hv),_,gQ,_,_,_,_,_,_,_,rfl,SqL.of (s04 _ _ hx),hxs.same s04,SqT.of (s04 _ _ ht),tx0,ty0,btx,bt,hX,n2,λ ql qp H4 s5 hql hqp=>⟨sz3,λ o ho=>?_⟩⟩
 have s6:=aF.upd (o:=HO.tup [.ref r2,.ref pl,.ref ql]) ho
 have b2:BB 4001 ((lo2 (1*ty) (1*tx)).2*1):=by rw [Int.mul_one];exact bb1.2.mono (by decide)
 have b3:BB 20000 ((lo2 (1*ty) (1*tx)).1*1 - (1 - z)*(lo2 (1*ty) (1*tx)).2):=by
  rw [Int.mul_one,Int.sub_eq_add_neg]
  exact ((bb1.1.mono (show 4000<=13000 by decide)).add ((bz.mul bb1.2).neg.mono (by decide))).mono (by decide)
 refine q o _ _ (λ i=>fov (Y i) (tx,ty)) (λ j=>fov (X j) (tx,ty)) r2 pl ql pp qp _ (((s0.trans s04).trans s5).trans s6) ⟨aD,s6 _ _ (s5 _ _ (s4 _ _ hr2)),s6 _ _ (s5 _ _ hpl),(hpp.same s5).same s6,s6 _ _ hql,hqp.same s6,l2.pos,l2.cop,(b2.of_le l2.by_).mono (by decide),b3.of_le l2.bx,λ i hi=>Vs (hY i hi).1 (hY i hi).2.1 ty0 tx0 (hY i hi).2.2.2 btx,λ j hj=>Vs (hX j hj).1 (hX j hj).2.1 ty0 tx0 (hX j hj).2.2.2 btx,?_⟩
 refine g.congr (λ _ _ _ _=>rfl) ?_ (λ i hi=>(Qr (hY i hi).1 ty0 tx0).symm) (λ j hj=>(Qr (hX j hj).1 ty0 tx0).symm)
 have e1:=va_sub (f:=lo2 (1*ty) (1*tx)) (g:=(1 - z,1)) l1.pos (show (0:Int)<1 by decide)
 have e2:va (lo2 (1*ty) (1*tx))=1 / va (tx,ty):=by rw [← uK];exact Qr (f:=(1,1)) (g:=(tx,ty)) (by decide) ty0 tx0
 have e3:va (1 - z,1)=((1 - z:Int):Rat):=by
  unfold va
  show ((1 - z:Int):Rat) / ((1:Int):Rat)=_
  rw [show ((1:Int):Rat)=1 from rfl,Rat.div_def];grind
 rw [e2,e3] at e1
 exact e1.symm
theorem Pw (z:Int) (frs:List (List (Int×Int))):(kI z frs).length=frs.length:=by unfold kI;rw [length_map]
theorem jJb {K vs H Q E} (h:vS K vs H Q E):Ke K { nx:=λ _ H'=>Q .non H',rt:=Q } (start Wi vs) H:=by
 obtain ⟨a,rps,frs,n,rfl,ha,hf,W,wo,q⟩:=h
 have hpl:=hf.length
 have m1:=W.m1
 have m2:=W.m2
 have n1:=W.n1
 have n2:=W.n2
 have one9:BB 9000 (1:Int):=by show (1:Int).natAbs<2 ^ 9000;exact Nat.one_lt_two_pow (by decide)
 rw [show start Wi [V.ref a]=[some (.ref a),none,none,none,none] from rfl]
 (dsimp? [Ke])
 refine ⟨a,rps,frs,n,rfl,SqL.of ha,hf,W,λ z lp H1 s1 hlp mn=>?_⟩
 have bz:=(mn.bb W.hg).mono (show 4001<=9000 by decide)
 obtain ⟨O,b4a,b4b⟩:=wo z mn
 (dsimp? [Eb,bB,aZ])
 refine ⟨⟨_,s1.seq (SqL.of ha)⟩,bJ (K:=K) (a:=a) (xs:=List.map V.ref rps) (λ i zs H3=>aF H1 H3/\∃ qs,zs=List.map V.ref qs/\kY K H3 qs ((frs.take i).map λ r=>r.map (lft z))) (by rw [length_map,sizeLine_eq];omega) ⟨aF.refl _,[],rfl,trivial⟩ ?_ ?_ ?_⟩
 ·rintro i zs H3 _ ⟨s3,_⟩
  exact (s1.trans s3).seq (SqL.of ha)
 ·rintro i x zs H3 hi _ ⟨s3,qs,rfl,hq⟩
  obtain ⟨p,rfl,hp⟩:=bK hi
  obtain ⟨r,rs,er,hrow,hfr⟩:=hf.get hp
  have hrm:=mem_of_getElem? er
  (dsimp? [Ee,bG,List.map_cons,List.map_nil,Option.join_some])
  refine ⟨p,lp,rs,r,z,rfl,(s1.trans s3).seq (SqL.of hrow),hfr.same (s1.trans s3),SqT.of (s3 _ _ hlp),bz,W.hg r hrm,by rw [W.hr r hrm];exact n2,λ l ls H4 s4 hl hls=>⟨s3.trans s4,qs++[l],by rw [map_append];rfl,?_⟩⟩
  rw [bC er,map_append]
  exact kY.append (show kY K H4 [l] [r.map (lft z)] from ⟨⟨ls,hl,hls⟩,trivial⟩) (hq.same s4)
 ·rintro zs H3 _ ⟨s3,qs,rfl,hq⟩ rz hrz
  rw [length_map,hpl,take_length] at hq
  have s4:=s3.trans (aF.upd (o:=HO.lst (List.map V.ref qs)) hrz)
  have hq4:kY K (upd H3 rz (.lst (List.map V.ref qs))) qs (kI z frs):=hq.same (aF.upd hrz)
  have rz4:(upd H3 rz (.lst (List.map V.ref qs))) rz=some (.lst (List.map V.ref qs)):=aD
  generalize upd H3 rz (.lst (List.map V.ref qs))=H4 at s4 hq4 rz4
  clear s3 hq hrz
  have s04:=s1.trans s4
  have ones_step:∀ {i:Nat} {H5 H6:Hp} {ps:List Addr} {p:Addr},aS K H5 ps (ofF i λ _=>((1,1):Int×Int))->H5 p=none->H6=upd H5 p (.tup [.int 1,.int 1])->aS K H6 (ps++[p]) (ofF (i+1) λ _=>((1,1):Int×Int)):=λ {i H5 H6 ps p} h hp e=>by
   subst e
   rw [bT]
   exact aS.snoc (h.same (aF.upd hp)) (SqT.of aD)
  (dsimp? [Ec,bB,aZ])
  refine ⟨⟨_,s04.seq (SqL.of ha)⟩,bJ (K:=K) (a:=a) (xs:=List.map V.ref rps) (λ i zs H5=>aF H4 H5/\∃ ps,zs=List.map V.ref ps/\aS K H5 ps (ofF i λ _=>((1,1):Int×Int))) (by rw [length_map,sizeLine_eq];omega) ⟨aF.refl _,[],rfl,trivial⟩ ?_ ?_ ?_⟩
  ·rintro i zs H5 _ ⟨s5,_⟩
   exact (s04.trans s5).seq (SqL.of ha)
  ·rintro i x zs H5 hi _ ⟨s5,ps,rfl,hps⟩
   (dsimp? [Ef])
   exact ⟨sz2,λ p hp=>⟨s5.trans (aF.upd hp),ps++[p],by rw [map_append];rfl,ones_step hps hp rfl⟩⟩
  ·rintro zs H5 _ ⟨s5,bps,rfl,hbs⟩ b hb
   rw [length_map,hpl] at hbs
   have s6:=s5.trans (aF.upd (o:=HO.lst (List.map V.ref bps)) hb)
   have hb6:(upd H5 b (.lst (List.map V.ref bps))) b=some (.lst (List.map V.ref bps)):=aD
   have hbs6:=hbs.same (aF.upd (o:=HO.lst (List.map V.ref bps)) hb)
   generalize upd H5 b (.lst (List.map V.ref bps))=H6 at s6 hb6 hbs6
   clear s5 hbs hb
   have s06:=s04.trans s6
   obtain ⟨p0,hp0⟩:∃ p,rps[0]?=some p:=⟨_,getElem?_eq_getElem (by omega)⟩
   obtain ⟨r0,rs0,er0,hrow0,hfr0⟩:=hf.get hp0
   have rl0:rs0.length=n:=by rw [hfr0.length,W.hr r0 (mem_of_getElem? er0)]
   refine ⟨_,s06.seq (SqL.of ha),_,cF (j:=0) (v:=V.ref p0) (by rw [getElem?_map,hp0];rfl),_,rfl,⟨_,s06.seq (SqL.of hrow0)⟩,bJ (K:=K) (a:=p0) (xs:=List.map V.ref rs0) (λ i zs H7=>aF H6 H7/\∃ ps,zs=List.map V.ref ps/\aS K H7 ps (ofF i λ _=>((1,1):Int×Int))) (by rw [length_map,sizeLine_eq];omega) ⟨aF.refl _,[],rfl,trivial⟩ ?_ ?_ ?_⟩
   ·rintro i zs H7 _ ⟨s7,_⟩
    exact (s06.trans s7).seq (SqL.of hrow0)
   ·rintro i x zs H7 hi _ ⟨s7,ps,rfl,hps⟩
    (dsimp? [Eg])
    exact ⟨sz2,λ p hp=>⟨s7.trans (aF.upd hp),ps++[p],by rw [map_append];rfl,ones_step hps hp rfl⟩⟩
   ·rintro zs H7 _ ⟨s7,gps,rfl,hgs⟩ c hc
    rw [length_map,rl0] at hgs
    have s8:=s7.trans (aF.upd (o:=HO.lst (List.map V.ref gps)) hc)
    have hc8:(upd H7 c (.lst (List.map V.ref gps))) c=some (.lst (List.map V.ref gps)):=aD
    have hgs8:=hgs.same (aF.upd (o:=HO.lst (List.map V.ref gps)) hc)
    generalize upd H7 c (.lst (List.map V.ref gps))=H8 at s8 hc8 hgs8
    clear s7 hgs hc
    have s48:=s6.trans s8
    have eR:=Pw z frs
    have eb:=mK frs.length
    have eg:=mK n
    have rpos:∀ i j,i<frs.length->j<n->0<(rwF frs i j).2:=λ i j hi hj=>by
     unfold rwF
     have e:frs[i]?=some frs[i]:=getElem?_eq_getElem hi
     have hl:=W.hr _ (getElem_mem hi)
     rw [getD_eq_getElem?_getD (l:=frs),e]
     show 0<((frs[i]).getD j (0,1)).2
     rw [getD_eq_getElem?_getD,getElem?_eq_getElem (by omega)]
     exact (W.hg _ (getElem_mem hi) _ (getElem_mem (by omega))).1
    have rge:∀ i j,i<frs.length->j<n->rwF frs i j∈frs.getD i []:=λ i j hi hj=>by
     unfold rwF
     have e:frs[i]?=some frs[i]:=getElem?_eq_getElem hi
     have hl:=W.hr _ (getElem_mem hi)
     rw [getD_eq_getElem?_getD (l:=frs),e]
     show (frs[i]).getD j (0,1)∈frs[i]
     rw [getD_eq_getElem?_getD,getElem?_eq_getElem (by omega)]
     exact getElem_mem (by omega)
    have hA:∀ i j,i<(kI z frs).length->j<(bY n).length->1<=va (rwF (kI z frs) i j):=λ i j hi hj=>by
     rw [eR] at hi
     rw [eg] at hj
     rw [Vm hi W.hr hj]
     refine lft_ge (rpos i j hi hj) (mn.le (frs.getD i []) ?_ _ (rge i j hi hj))
     rw [getD_eq_getElem?_getD,getElem?_eq_getElem hi]
     exact getElem_mem hi
    have hg1:∀ j,j<(bY n).length->(bY n).getD j (0,1)=(1,1):=λ j hj=>Ia (by omega)
    have hb1:∀ j,j<(kI z frs).length->(bY frs.length).getD j (0,1)=(1,1):=λ j hj=>Ia (by omega)
    refine ⟨rz,b,c,qs,bps,gps,kI z frs,bY frs.length,bY n,rfl,⟨s48 _ _ rz4,hq4.same s48,s8 _ _ hb6,hbs6.same s8,hc8,hgs8,λ f hf'=>?_⟩,λ f hf'=>?_,O.B,⟨b4a,b4b,λ fl s c ok io un=>no_way O.B ok io hg1 hA (by omega) un⟩,by omega,by omega,λ v fl s o x w xp wp H9 s9 _ _ out=>?_⟩
    ·rw [rE hf'];exact ⟨by decide,one9.mono (by decide),one9⟩
    ·rw [rE hf'];decide
    cases o with
    | some cc=>exact (no_way O.B out.ok out.io hg1 hA (by omega) out.un).elim
    | none =>
     have L:=lp_game O.B out.ok out.io out.un hb1 hg1 hA (by omega) (by omega)
     obtain ⟨M,M0,bM,dM⟩:=O.mx fl s out.ok out.io
     have myb:=O.my fl s out.ok out.un
     have xok:=Gu O.B out.ok
     have yok:∀ k,k<frs.length->_:=λ k hk=>Gs O.B out.ok out.un (show k<(kI z frs).length by omega)
     have hxs:aS K H9 xp (ofF n (xF fl (kI z frs) (bY frs.length) (bY n) s)):=by have:=out.hxs;rw [eg] at this;exact this
     have hws:aS K H9 wp (ofF frs.length (yF fl (kI z frs) (bY frs.length) (bY n) s)):=by have h:aS K H9 wp (ofF (kI z frs).length (yF fl (kI z frs) (bY frs.length) (bY n) s)):=out.hws;rw [eR] at h;exact h
     rw [eR,eg] at L
     (dsimp? [Ed])
     refine ⟨_,SqT.of out.hv,_,gQ,_,_,_,_,M,rfl,SqL.of out.hx,hxs,M0,bM,λ k hk=>⟨(xok k).1,(xok k).2.2.1,dM k hk⟩,L.S1,λ tx ty t H10 s10 ht ty0 tx0 dT eT=>?_⟩
     have tp:0<tx:=by
      rcases Int.lt_or_eq_of_le tx0 with h | h
      ·exact h
      ·have:=L.S0
       rw [← eT,← h] at this
       have e0:va (0,ty)=0:=by unfold va;show ((0:Int):Rat) / _=0;rw [Rat.div_def];show (0:Rat)*_=0;grind
       rw [e0] at this;grind
     have S1:=L.S1
     have txy:tx<=ty:=Co (f:=(tx,ty)) ty0 (by rw [eT];exact S1)
     have s410:=(s48.trans s9).trans s10
     refine Pe (s1.trans (s4.trans s410)) m2 n2 (s4.trans s410 _ _ hlp) bz (s10 _ _ out.hv) (s10 _ _ out.hx) (hxs.same s10) (s10 _ _ out.hw) (hws.same s10) ht ty0 tp (Cw bM M0 dT) txy (λ k hk=>⟨(xok k).1,(xok k).2.2.1,Co (xok k).1 ?_,Cw bM M0 (dM k hk)⟩) (λ k hk=>⟨(yok k hk).1,(yok k hk).2.2.1,Co (yok k hk).1 ?_,myb k hk⟩) ?_ q
     ·have h1:=Ny (f:=λ j=>va (xF fl (kI z frs) (bY frs.length) (bY n) s j)) hk L.x0
      have h2:=L.sx
      grind
     ·have h1:=Ny (f:=λ j=>va (yF fl (kI z frs) (bY frs.length) (bY n) s j)) hk L.y0
      have h2:=L.sy
      grind
     ·rw [eT]
      refine (game_of (((1 - z:Int):Rat)) L.S0 L.x0 L.y0 L.hx L.hy L.sx L.sy).congr (λ i j hi hj=>?_) rfl (λ _ _=>rfl) λ _ _=>rfl
      rw [Vm hi W.hr hj,va_lft (rpos i j hi hj)]
      grind
noncomputable def N_less:List PySem.Str:=["row", "other"]
noncomputable def fsb (f g:Int×Int):Int×Int:=lo2 (f.1*g.2 - g.1*f.2) (f.2*g.2)
noncomputable def Bq (K:W.Frag):Sp:=λ vs H Q _=>∃ (a b:Addr) (ps qs:List Addr) (fs gs:List (Int×Int)),vs=[.ref a,.ref b]/\H a=some (.lst (List.map V.ref ps))/\aS K H ps fs/\H b=some (.lst (List.map V.ref qs))/\aS K H qs gs/\fs.length=gs.length/\fs.length<=216/\(∀ f∈fs,Gd 4000 f)/\(∀ f∈gs,Gd 4000 f) /\
 ∀ l rs H',aF H H'->H' l=some (.lst (List.map V.ref rs))->aS K H' rs (List.zipWith fsb fs gs)->Q (.ref l) H'
noncomputable def Hj (K:W.Frag):TE:=(aO (rC K) [] E0 (aC (aB 0) (aC (aB 1) aK)))
noncomputable def Hi (K:W.Frag):TG:=(gG K 2 (bQ (aJ 0) (bQ (aJ 1) gH)))
noncomputable def Qw (K:W.Frag):TS:=(aW (dU (lV K (aC (aB 0) (aC (aB 1) aK))) 2 [] (Hi K) (Hj K)))
theorem jJ3 {K vs H Q E} (h:Bq K vs H Q E):vs.length=2:=by obtain ⟨_,_,_,_,_,_,rfl,_⟩:=h;rfl
theorem rd_less {K vs H Q E} (h:Bq K vs H Q E):Qw K { nx:=λ _ H'=>Q .non H',rt:=Q } (start N_less vs) H:=by
 obtain ⟨a,b,ps,qs,fs,gs,rfl,ha,hf,hb,hg,el,l2,gf,gg,q⟩:=h
 have pl:=hf.length
 have ql:=hg.length
 rw [show start N_less [V.ref a,V.ref b]=[some (.ref a),some (.ref b)] from rfl]
 (dsimp? [Qw,dU,lV])
 refine ⟨⟨_,SqL.of ha⟩,⟨_,SqL.of hb⟩,kW (K:=K) (a:=a) (b:=b) (xs:=List.map V.ref ps) (ys:=List.map V.ref qs) (λ i zs H3=>aF H H3/\∃ rs,zs=List.map V.ref rs/\aS K H3 rs (List.zipWith fsb (fs.take i) (gs.take i))) ?_ ?_ ⟨aF.refl _,[],rfl,trivial⟩ ?_ ?_ ?_⟩
 ·rw [length_map];exact iE (by omega)
 ·rw [length_map,length_map];omega
 ·rintro i zs H3 _ ⟨s3,_⟩
  exact ⟨SqL.of (s3 _ _ ha),SqL.of (s3 _ _ hb)⟩
 ·rintro i x y p zs H3 hx hy _ ⟨s3,rs,rfl,hr⟩ hp os ho
  obtain ⟨p1,rfl,hp1⟩:=bK hx
  obtain ⟨p2,rfl,hp2⟩:=bK hy
  obtain ⟨f,ef,hF⟩:=hf.get hp1
  obtain ⟨g,eg,hG⟩:=hg.get hp2
  obtain ⟨o2,o3,rfl⟩:∃ o1 o2,os=[o1,o2]:=by
   match os,ho with
   | [o1,o2],_=>exact ⟨o1,o2,rfl⟩
  have g1:=gf f (mem_of_getElem? ef)
  have g2:=gg g (mem_of_getElem? eg)
  have s4:=s3.trans (aF.upd (o:=HO.tup [.ref p1,.ref p2]) hp)
  (dsimp? [Hi,Hj,bG,List.map_cons,List.map_nil,Option.join_some])
  refine ⟨_,SqT.of aD,rfl,_,_,rfl,_,_,rfl,rfl,⟨[some (.ref p1),some (.ref p2)],rfl,rfl⟩,_,_,_,_,_,_,rfl,⟨s4.tup hF,s4.tup hG,g1.2.1.mono (by decide),g1.2.2.mono (by decide),g2.2.1.mono (by decide),g2.2.2.mono (by decide)⟩,g1.1,g2.1,(g1.2.2.mul g2.2.2).mono (by decide),λ r H4 s5 h5=>⟨s4.trans s5,rs++[r],by rw [map_append];rfl,?_⟩⟩
  rw [bC ef,bC eg,List.zipWith_append (by rw [length_take,length_take];omega)]
  exact aS.snoc ((hr.same (aF.upd hp)).same s5) (SqT.of h5)
 ·rintro zs H3 _ ⟨s3,rs,rfl,hr⟩ l hl
  rw [length_map,pl,take_length,el,take_length] at hr
  exact q l rs _ (s3.trans (aF.upd hl)) aD (hr.same (aF.upd hl))
noncomputable def Ou:List PySem.Str:=["chances", "choices", "many", "told", "chance", "choice"]
noncomputable def Yx (n:Nat):List Nat->List (Int×Int)->List (Int×Int)
 | [],_=>ofF n λ _=>(0,1)
 | _,[]=>ofF n λ _=>(0,1)
 | c::cs,f::fs=>(Yx n cs fs).set c f
noncomputable def sX (K:W.Frag):Sp:=λ vs H Q _=>∃ (a b:Addr) (n:Nat) (ps:List Addr) (fs:List (Int×Int)) (cs:List Nat),vs=[.ref a,.ref b,.int n]/\H a=some (.lst (List.map V.ref ps))/\aS K H ps fs/\H b=some (.lst (tv cs))/\fs.length=cs.length/\(∀ c∈cs,c<n)/\n<=6 /\
 ∀ l rs H',aF H H'->H' l=some (.lst (List.map V.ref rs))->aS K H' rs (Yx n cs.reverse fs.reverse)->Q (.ref l) H'
noncomputable def Tn (K:W.Frag) (a b:Addr) (n:Nat) (fs:List (Int×Int)) (cs:List Nat) (H:Hp):Nat->St->Hp->Prop:=λ i σ H3=>∃ l rs o1 o2,σ=[some (.ref a),some (.ref b),some (.int n),some (.ref l),o1,o2]/\aF H H3/\H l=none/\H3 l=some (.lst (List.map V.ref rs))/\rs.length=n/\aS K H3 rs (Yx n (cs.take i).reverse (fs.take i).reverse)
noncomputable def zL (K:W.Frag):TS:=(aV (aB 4) (An (aB 3) (aB 5) qH))
noncomputable def rJ (K:W.Frag):TG:=(gG K 2 (bQ (aJ 4) (bQ (aJ 5) gH)))
noncomputable def zK (K:W.Frag):TE:=(dS (aC (tC (.int 0)) (aC (tC (.int 1)) aK)))
noncomputable def Cz (K:W.Frag):TS:=(aP (aV (bB (eJ (aC (aB 2) aK)) [] (zK K)) (aJ 3)) (aP (cV (lV K (aC (aB 0) (aC (aB 1) aK))) (rJ K) (zL K)) (aW (aB 3))))
theorem Th {K vs H Q E} (h:sX K vs H Q E):vs.length=3:=by obtain ⟨_,_,_,_,_,_,rfl,_⟩:=h;rfl
theorem Xa {K vs H Q E} (h:sX K vs H Q E):Cz K { nx:=λ _ H'=>Q .non H',rt:=Q } (start Ou vs) H:=by
 obtain ⟨a,b,n,ps,fs,cs,rfl,ha,hf,hb,el,lt,n6,q⟩:=h
 have pl:=hf.length
 rw [show start Ou [V.ref a,V.ref b,V.int n]=[some (.ref a),some (.ref b),some (.int n),none,none,none] from rfl]
 (dsimp? [Cz,bB,eJ])
 rw [Int.toNat_natCast]
 refine ⟨by omega,by omega,fB (W:=λ i zs H3=>aF H H3/\∃ rs,zs=List.map V.ref rs/\aS K H3 rs (ofF i λ _=>(0,1))) (iE (by omega)) ⟨aF.refl _,[],rfl,trivial⟩ ?_ ?_⟩
 ·rintro i zs H3 hi _ ⟨s3,rs,rfl,hr⟩
  (dsimp? [zK])
  refine ⟨sz2,λ p hp=>⟨s3.trans (aF.upd hp),rs++[p],by rw [map_append];rfl,?_⟩⟩
  rw [bT]
  exact aS.snoc (hr.same (aF.upd hp)) (SqT.of aD)
 ·rintro zs H3 _ ⟨s3,rs,rfl,hr⟩ l hl
  have s4:=s3.trans (aF.upd (o:=HO.lst (List.map V.ref rs)) hl)
  have hr4:=hr.same (aF.upd (o:=HO.lst (List.map V.ref rs)) hl)
  have hl4:(upd H3 l (.lst (List.map V.ref rs))) l=some (.lst (List.map V.ref rs)):=aD
  have hlH:=s3.free hl
  generalize upd H3 l (.lst (List.map V.ref rs))=H4 at s4 hr4 hl4
  have rl:=hr4.length
  rw [aN] at rl
  (dsimp? [cV,lV])
  refine ⟨⟨_,SqL.of (s4 _ _ ha)⟩,⟨_,SqL.of (s4 _ _ hb)⟩,Vt (K:=K) (a:=a) (b:=b) (xs:=List.map V.ref ps) (ys:=tv cs) (g:=rJ K) (D:={ nx:=aW (aB 3) { nx:=λ _ H'=>Q .non H',rt:=Q },rt:=Q }) (Tn K a b n fs cs H) ?_ ?_ ?_ ?_ ?_⟩
  ·exact ⟨l,rs,_,_,rfl,s4,hlH,hl4,rl,hr4⟩
  ·rintro i σ H5 _ ⟨_,_,_,_,_,s5,_⟩
   exact ⟨SqL.of (s5 _ _ ha),SqL.of (s5 _ _ hb)⟩
  ·rw [length_map,cW];omega
  ·rintro i x y p σ H5 hx hy ⟨l,rs,o1,o2,rfl,s5,hlH,hl5,rl,hr5⟩ hp
   obtain ⟨p1,rfl,hp1⟩:=bK hx
   obtain ⟨c,hc,rfl⟩:=mR hy
   obtain ⟨f,ef,hF⟩:=hf.get hp1
   have cn:=lt c (mem_of_getElem? hc)
   have s6:=aF.upd (o:=HO.tup [.ref p1,.int c]) hp
   have hl6:=s6 _ _ hl5
   (dsimp? [rJ,zL,An,qH])
   refine ⟨_,SqT.of aD,rfl,_,_,rfl,_,_,rfl,rfl,_,_,rfl,hl6,c,by rw [length_map,Bx (by omega) (by omega),Int.toNat_natCast],?_⟩
   refine ⟨l,rs.set c p1,_,_,rfl,((s5.trans s6).put hlH),hlH,by rw [aD,List.map_set],by rw [length_set];exact rl,?_⟩
   rw [bC hc,bC ef,List.reverse_append,List.reverse_append]
   show aS K _ (rs.set c p1) ((Yx n (cs.take i).reverse (fs.take i).reverse).set c f)
   exact aS.set (((s5.trans s6).tup hF).off hl6) c ((hr5.same s6).off hl6)
  ·rintro σ H5 ⟨l,rs,o1,o2,rfl,s5,hlH,hl5,rl,hr5⟩
   (dsimp! [aB,aW])
   rw [length_map,pl,take_length,el,take_length] at hr5
   exact q l rs H5 s5 hl5 hr5
noncomputable def Jg:List PySem.Str:=["table", "hand", "choice", "kept", "others", "own", "found"]
noncomputable def KpV (H:Hp) (kv:V) (ns:List Nat) (ks:List (List Nat)):Prop:=(kv=.non/\ks=ns.map List.range)∨∃ p xs,kv=.ref p/\H p=some (.lst xs)/\Lg H xs ks
noncomputable def rwW (e:List Nat->Nat->Int×Int) (bs:List (List Nat)) (h:Nat) (k:List Nat) (x:Nat):List (List (Int×Int)):=k.map λ y=>List.zipWith fsb (bs.map λ b=>e (jn b h y) h) (bs.map λ b=>e (jn b h x) h)
noncomputable def NumW (frs:List (List (Int×Int))) (n:Nat):Prop:=WoR frs n/\∀ z,Mnf frs z->WoO (kI z frs) frs.length n/\(∀ j k,BB 40 ((aM false (kI z frs) (bY frs.length) (bY n)).a j k))/\∀ k,BB 40 ((aM false (kI z frs) (bY frs.length) (bY n)).be k)
structure Zy (K:W.Frag) (H':Hp) (v:Addr) (bs:List (List Nat)) (k:List Nat) (nh:Nat) (frs:List (List (Int×Int))) (x y:Int) (P R:Nat->Int×Int):Prop where
 y0:0<y
 pok:∀ i,i<frs.length->Fok (P i)/\BB 9000 (P i).2
 qok:∀ j,j<bs.length->Fok (R j)/\BB 9000 (R j).2
 G:Gm frs.length bs.length (λ i j=>va (rwF frs i j)) (va (x,y)) (λ i=>va (P i)) (λ j=>va (R j))
 ex:∃ o,(0<x/\H' v=some (.tup [.str "beaten",.ref o])/\∃ rs,H' o=some (.lst (List.map V.ref rs))/\aS K H' rs (Yx nh k.reverse (ofF k.length P).reverse)) ∨
  (¬ 0<x/\H' v=some (.tup [.str "belief",.ref o])/\∃ qp,H' o=some (.dT ((bs.map tk).zip (List.map V.ref qp)))/\aS K H' qp (ofF bs.length R))
structure WgIn (K:W.Frag) (H:Hp) (t:Addr) (h:Nat) (kv:V) (ns:List Nat) (e:List Nat->Nat->Int×Int) (ks:List (List Nat)) (k:List Nat) (n:Nat):Prop where
 T:Fv K H t ns e
 sz:Sz ns
 kp:Kp ns ks
 hv:KpV H kv ns ks
 hk:ks[h]?=some k
 hn:ns[h]?=some n
 gd:∀ q∈cO ns.reverse,∀ i,i<ns.length->Gd 4000 (e q i)
noncomputable def pH (K:W.Frag):Sp:=λ vs H Q _=>∃ (t p:Addr) (h z:Nat) (ns:List Nat) (e:List Nat->Nat->Int×Int) (ks:List (List Nat)) (k:List Nat) (n:Nat),vs=[.ref t,.int h,.int z,.ref p]/\WgIn K H t h (.ref p) ns e ks k n/\z∈k/\NumW (rwW e (dY (wo h ks).reverse) h k z) (dY (wo h ks).reverse).length /\
 ∀ v x y P R H',aF H H'->Zy K H' v (dY (wo h ks).reverse) k n (rwW e (dY (wo h ks).reverse) h k z) x y P R->Q (.ref v) H'
noncomputable def wE (K:W.Frag):TS:=(aW (dS (aC (tC (.str "belief")) (aC (Zn K (aC (aB 4) (aC (tOp (bW K) (aB 6) (tC (.int 2))) aK))) aK))))
noncomputable def wD (K:W.Frag):TS:=(aP (cQ (tB (aO (rD K) [] E0 (aC (dS (aC (tC (.int 0)) (aC (tC (.int 1)) aK))) (aC (tOp (bW K) (aB 6) (tC (.int 0))) aK)))) (aW (dS (aC (tC (.str "beaten")) (aC (aO (sX K) [] E0 (aC (tOp (bW K) (aB 6) (tC (.int 1))) (aC (tOp (dD K) (aB 3) (aB 1)) (aC (tOp (dD K) (cS (aX K "Table") "sizes" (eC K) [] E0 (aB 0) aK) (aB 1)) aK)))) aK)))) bS) (wE K))
noncomputable def wF (K:W.Frag):TE:=(aO (Bq K) [] E0 (aC (aO (jM K) [] E0 (aC (aB 2) (aC (aB 3) (aC (aB 0) (aC (aB 4) aK))))) (aC (aB 1) aK)))
noncomputable def wC (K:W.Frag):TS:=(aP (aV (aO (vS K) [] E0 (aC (bB (aZ K (tOp (dD K) (aB 3) (aB 1))) [5,0,1,4] (wF K)) aK)) (aJ 6)) (wD K))
noncomputable def wB (K:W.Frag):TS:=(aP (aV (aO (jM K) [] E0 (aC (aB 0) (aC (aB 1) (aC (aB 2) (aC (aB 4) aK))))) (aJ 5)) (wC K))
noncomputable def pX (K:W.Frag):TS:=(aP (aV (aO (fJ K) [] E0 (aC (tOp oW (tSl (xA K) (aB 3) fN (nG (aB 1))) (tSl (xA K) (aB 3) (nG (tOp gS (aB 1) (tC (.int 1)))) fN)) aK)) (aJ 4)) (wB K))
noncomputable def vZ (K:W.Frag):TS:=(aP (cQ (bE (tOp (rIn K true) (aB 2) (tOp (dD K) (aB 3) (aB 1)))) dJ bS) (pX K))
noncomputable def xP (K:W.Frag):TS:=(aP (cQ (bE (tOp Cf (aB 3) (tC .non))) dJ bS) (vZ K))
theorem Px {K vs H Q E} (h:pH K vs H Q E):vs.length=4:=by obtain ⟨_,_,_,_,_,_,_,_,_,rfl,_⟩:=h;rfl
theorem Ut:∀ {xs:List V},(∀ v∈xs,∃ a:Addr,v=.ref a)->∃ qs,xs=List.map V.ref qs
 | [],_=>⟨[],rfl⟩
 | v::xs,h=>by
  obtain ⟨a,rfl⟩:=h v (.head _)
  obtain ⟨qs,rfl⟩:=Ut λ w hw=>h w (.tail _ hw)
  exact ⟨a::qs,rfl⟩
theorem Ps.refs {bs:List (List Nat)} (p:Ps H xs bs):∃ qs,xs=List.map V.ref qs/\qs.length=bs.length/\∀ (i:Nat) q b,qs[i]?=some q->bs[i]?=some b->H q=some (.tup (tv b)):=by
 obtain ⟨qs,rfl⟩:=Ut λ v hv=>by
  obtain ⟨i,hi⟩:=getElem?_of_mem hv
  obtain ⟨_,a,_,e,_⟩:=p.get hi
  exact ⟨a,e⟩
 refine ⟨qs,rfl,by rw [← p.1,length_map],λ i q b h1 h2=>?_⟩
 obtain ⟨a,e1,e2⟩:=p.2 i b h2
 rw [getElem?_map,h1] at e1
 cases e1
 exact e2
theorem Vu (k:List Nat):(tv k).all vG=true:=by unfold tv;rw [List.all_map,List.all_eq_true];intro _ _;rfl
theorem inV_tv {c:Int} {k:List Nat}:inV (.int c) (tv k)=true↔∃ x∈k,(x:Int)=c:=by
 unfold inV tv
 rw [List.any_map,List.any_eq_true]
 constructor
 ·rintro ⟨x,hx,e⟩
  exact ⟨x,hx,by simpa [eqV] using e⟩
 ·rintro ⟨x,hx,e⟩
  exact ⟨x,hx,by simpa [eqV] using e⟩
theorem Fz {K:W.Frag} {t:Addr} {z n:Nat} {k:List Nat} (s0:aF H G) (T:Fv K G t ns e) (sz:Sz ns) (kp:Kp ns ks) (hp:G p=some (.lst xs)) (lg:Lg G xs ks) (hk:ks[h]?=some k) (hn:ns[h]?=some n) (gd:∀ q∈cO ns.reverse,∀ i,i<ns.length->Gd 4000 (e q i)) (hz:z∈k)
  (nw:NumW (rwW e (dY (wo h ks).reverse) h k z) (dY (wo h ks).reverse).length) (q:∀ v x y P R H',aF H H'->Zy K H' v (dY (wo h ks).reverse) k n (rwW e (dY (wo h ks).reverse) h k z) x y P R->Q (.ref v) H') :
  pX K { nx:=λ _ H'=>Q .non H',rt:=Q } [some (.ref t),some (.int h),some (.int z),some (.ref p),none,none,none] G:=by
 have ch:=kp.ch sz
 have hl:=(List.getElem?_eq_some_iff.mp hk).1
 have kl:=kp.len
 have n3:=sz.len
 have hkm:=mem_of_getElem? hk
 have n6:=sz.le n (mem_of_getElem? hn)
 obtain ⟨ka,eka,hka⟩:=lg.2 h k hk
 (dsimp? [pX,oW,xA])
 refine ⟨_,SqL.of hp,λ p1 hp1=>⟨_,SqL.of (aF.upd hp1 _ _ hp),λ p2 hp2=>⟨_,aF.upd hp2 _ _ aD,_,aD,?_,λ p3 hp3=>?_⟩⟩⟩
 ·have e1:=Ce xs none (some (h:Int))
  have e2:=Ce xs (some ((h:Int)+1)) none
  have:=lg.1
  exact iE (by omega)
 have s1:=(aF.upd (o:=.lst (iG xs none (some (h:Int)))) hp1).trans ((aF.upd (o:=.lst (iG xs (some ((h:Int)+1)) none)) hp2).trans (aF.upd (o:=.lst (iG xs none (some (h:Int))++iG xs (some ((h:Int)+1)) none)) hp3))
 refine ⟨p3,_,wo h ks,rfl,aD,?_,ch.wo h,λ o os G1 s2 _ ho ps=>?_⟩
 ·have e1:iG xs none (some (h:Int))++iG xs (some ((h:Int)+1)) none=xs.take h++xs.drop (h+1):=by rw [cut_to,show ((h:Int)+1)=((h+1:Nat):Int) by omega,Oq]
  have:=(lg.wo h).same s1
  rwa [← e1] at this
 have s02:=s1.trans s2
 have bl:=(ch.wo h).rev.ord
 have bo:∀ y∈k,∀ b∈dY (wo h ks).reverse,b.length<=3/\jn b h y∈cO ns.reverse:=λ y hy b hb=>⟨by
  have:=nR _ b hb
  rw [List.length_reverse] at this
  have:=(ch.wo h).len
  omega,Ri kp hb hk hy⟩
 have bnd:(dY (wo h ks).reverse).Nodup:=Ek _ λ c hc=>kp.nd c (Cm (List.mem_reverse.mp hc))
 generalize hbs:dY (wo h ks).reverse=bs at ps bl bo bnd nw q
 clear s1 hp1 hp2 hp3
 (dsimp? [wB])
 refine ⟨t,o,ns,e,bs,h,z,os,rfl,T.same s02,ho,ps,by omega,bo z hz,bl,λ w ws G2 s3 hw hws=>?_⟩
 have s03:=s02.trans s3
 have ho2:=s3 _ _ ho
 have ps2:=ps.same s3
 (dsimp? [wC,bB,aZ])
 refine ⟨_,SqL.of (s03 _ _ hp),_,cF eka,_,rfl,⟨_,SqL.of (s03 _ _ hka)⟩,bJ (K:=K) (a:=ka) (xs:=tv k) (λ i zs G3=>aF G2 G3/\∃ rps,zs=List.map V.ref rps/\kY K G3 rps (rwW e bs h (k.take i) z)) (by rw [cW];exact iE (by have:=ch.le k hkm;omega)) ⟨aF.refl _,[],rfl,trivial⟩ ?_ ?_ ?_⟩
 ·rintro i zs G3 _ ⟨s4,_⟩
  exact SqL.of (s4 _ _ (s03 _ _ hka))
 ·rintro i x zs G3 hi _ ⟨s4,rps,rfl,hr⟩
  obtain ⟨y,hy,rfl⟩:=mR hi
  have hym:=mem_of_getElem? hy
  (dsimp? [wF,bG,List.map_cons,List.map_nil,Option.join_some])
  refine ⟨t,o,ns,e,bs,h,y,os,rfl,T.same (s03.trans s4),s4 _ _ ho2,ps2.same s4,by omega,bo y hym,bl,λ l1 q1 G4 s5 h1 f1=>?_⟩
  refine ⟨l1,w,q1,ws,_,_,rfl,h1,f1,s5 _ _ (s4 _ _ hw),(hws.same s4).same s5,by rw [length_map,length_map],by rw [length_map];exact bl,λ f hf=>?_,λ f hf=>?_,λ l2 q2 G5 s6 h2 f2=>⟨s4.trans (s5.trans s6),rps++[l2],by rw [map_append];rfl,?_⟩⟩
  ·obtain ⟨b,hb,rfl⟩:=mem_map.mp hf
   exact gd _ (bo y hym b hb).2 h (by omega)
  ·obtain ⟨b,hb,rfl⟩:=mem_map.mp hf
   exact gd _ (bo z hz b hb).2 h (by omega)
  ·unfold rwW
   rw [bC hy,map_append]
   exact kY.append (show kY K G5 [l2] [_] from ⟨⟨q2,h2,f2⟩,trivial⟩) (hr.same (s5.trans s6))
 ·rintro zs G3 _ ⟨s4,rps,rfl,hr⟩ l hl3
  rw [cW,take_length] at hr
  have s5:=s4.trans (aF.upd (o:=HO.lst (List.map V.ref rps)) hl3)
  refine ⟨l,rps,_,bs.length,rfl,aD,hr.same (aF.upd hl3),nw.1,nw.2,λ v x y P R u pl ql pp qp G4 s6 out=>?_⟩
  have s7:=s5.trans s6
  have one:BB 20000 (1:Int):=by show (1:Int).natAbs<2 ^ 20000;exact Nat.one_lt_two_pow (by decide)
  have zer:BB 20000 (0:Int):=by show (0:Int).natAbs<2 ^ 20000;exact Nat.two_pow_pos _
  have fl:(rwW e bs h k z).length=k.length:=by unfold rwW;rw [length_map]
  (dsimp? [wD,cS])
  refine ⟨sz2,λ a0 ha0=>⟨_,SqT.of (aF.upd ha0 _ _ out.hv),_,kX,?_⟩⟩
  have s8:=aF.upd (o:=HO.tup [.int 0,.int 1]) ha0
  refine ⟨_,_,_,_,_,_,rfl,⟨SqT.of aD,SqT.of (s8 _ _ out.hw),zer,one,out.bx,out.by9.mono (by decide)⟩,_,rfl,vF (λ hx=>?_) (λ hx=>?_)⟩
  ·have S:=(s03.trans s7).trans s8
   obtain ⟨cont,tab,_⟩:=(T.same S).ex
   obtain ⟨dx,m,d,ht⟩:=tab.ins
   refine ⟨_,SqT.of (s8 _ _ out.hv),_,gQ,_,SqL.of (S _ _ hp),_,cF eka,_,_,ht,Ca _ _ (by decide +kernel) (by decide +kernel),t,ns,cont,rfl,tab,λ sl hsl=>?_⟩
   have s9:=aF.upd (o:=HO.lst (tv ns)) hsl
   refine ⟨_,rfl,_,SqL.of aD,_,cF (Mw hn),pl,ka,n,pp,_,k,rfl,s9 _ _ (s8 _ _ out.hpl),(out.hps.same s8).same s9,s9 _ _ (S _ _ hka),by rw [aN];exact fl,λ c hc=>(kp.lt h k n hk hn).2 c hc,n6,λ lr rs G5 s10 hlr frs=>⟨sz2,λ r hr=>?_⟩⟩
   have s11:=aF.upd (o:=HO.tup [.str "beaten",.ref lr]) hr
   rw [fl] at frs
   exact q r x y P R _ (s0.trans (S.trans (s9.trans (s10.trans s11)))) ⟨out.y0,out.pok,out.qok,out.G,lr,.inl ⟨by simpa using hx,aD,rs,s11 _ _ hlr,frs.same s11⟩⟩
  ·obtain ⟨qs,eq,ql,hq⟩:=ps.refs
   have S:=s7.trans s8
   (dsimp? [wE,Zn])
   refine ⟨_,SqT.of (s8 _ _ out.hv),_,atI2,_,rfl,bs.map tk,qs,by rw [← eq];exact SqL.of (S _ _ ho2),_,SqL.of (s8 _ _ out.hql),by rw [length_map];exact ql,by rw [length_map,length_map,out.hqs.length,aN],λ i a c h1 h2=>?_,Lf bnd,λ d hd=>⟨sz2,λ r hr=>?_⟩⟩
   ·rw [getElem?_map] at h2
    obtain ⟨b,hb,rfl⟩:=Option.map_eq_some_iff.mp h2
    rw [Gv]
    exact S _ _ (s3 _ _ (hq i a b h1 hb))
   ·have s9:=aF.upd (o:=HO.dT ((bs.map tk).zip (List.map V.ref qp))) hd
    have s11:=aF.upd (o:=HO.tup [.str "belief",.ref d]) hr
    exact q r x y P R _ (s0.trans (s03.trans (S.trans (s9.trans s11)))) ⟨out.y0,out.pok,out.qok,out.G,d,.inr ⟨by simpa using hx,aD,qp,s11 _ _ aD,((out.hqs.same s8).same s9).same s11⟩⟩
theorem Rw {K vs H Q E} (h:pH K vs H Q E):xP K { nx:=λ _ H'=>Q .non H',rt:=Q } (start Jg vs) H:=by
 obtain ⟨t,p,h,z,ns,e,ks,k,n,rfl,⟨T,sz,kp,hv,hk,hn,gd⟩,hz,nw,q⟩:=h
 rw [show start Jg [V.ref t,V.int h,V.int z,V.ref p]=[some (.ref t),some (.int h),some (.int z),some (.ref p),none,none,none] from rfl]
 obtain ⟨p',xs,ep,hp,lg⟩:=hv.resolve_left λ w=>nomatch w.1
 cases ep
 obtain ⟨a,ea,ha⟩:=lg.2 h k hk
 (dsimp? [xP,Cf])
 rw [if_neg (by intro z;cases z)]
 (dsimp? [vZ,rIn])
 refine ⟨_,SqL.of hp,_,cF ea,_,rfl,_,.inl (SqL.of ha),rfl,Vu k,?_⟩
 rw [if_pos trivial,inV_tv.mpr ⟨z,hz,rfl⟩]
 exact Jr (Fz (aF.refl _) T sz kp hp lg hk hn gd hz nw q)
noncomputable def sJ:List PySem.Str:=["table", "order", "kept", "log", "grounds", "hand", "choice", "found"]
theorem putK_le {k:List Key}:(oX kvs k v).length<=kvs.length+1:=by
 unfold oX
 split
 ·rw [length_map];omega
 ·rw [length_append];exact Nat.le_refl _
theorem New.same (N:New H0 H p as ks) (s:aF H H'):New H0 H' p as ks:=⟨s _ _ N.hp,N.p0,N.lg.same s,N.a0,N.nd⟩
theorem New.at {k:List Nat} (N:New H0 H p as ks) (hk:ks[h]?=some k):∃ a,as[h]?=some a/\H a=some (.lst (tv k)):=by
 obtain ⟨a,ea,ha⟩:=N.lg.2 h k hk
 rw [getElem?_map] at ea
 obtain ⟨a',e1,e2⟩:=Option.map_eq_some_iff.mp ea
 cases e2
 exact ⟨a,e1,ha⟩
theorem New.off {b:Addr} (N:New H0 H p as ks) (hp:b≠p) (ha:b∉as):New H0 (upd H b o) p as ks:=by
 refine ⟨by rw [aR (Ne.symm hp)];exact N.hp,N.p0,⟨N.lg.1,λ i c e=>?_⟩,N.a0,N.nd⟩
 obtain ⟨a,e1,e2⟩:=N.at e
 exact ⟨a,by rw [getElem?_map,e1];rfl,by rw [aR (show a≠b from λ z=>ha (z ▸ mem_of_getElem? e1))];exact e2⟩
theorem New.put {k:List Nat} (N:New H0 H p as ks) (ea:as[h]?=some a) (k':List Nat):New H0 (upd H a (.lst (tv k'))) p as (ks.set h k'):=by
 have am:=mem_of_getElem? ea
 have hl:=(List.getElem?_eq_some_iff.mp ea).1
 have ll:=N.lg.1
 rw [length_map] at ll
 refine ⟨by rw [aR (Ne.symm (N.a0 a am).2)];exact N.hp,N.p0,⟨by rw [length_set];exact N.lg.1,λ i c e=>?_⟩,N.a0,N.nd⟩
 by_cases hi:h=i
 ·subst hi
  rw [List.getElem?_set_self (by omega)] at e
  cases e
  exact ⟨a,by rw [getElem?_map,ea];rfl,aD⟩
 ·rw [List.getElem?_set_ne hi] at e
  obtain ⟨b,e1,e2⟩:=N.at e
  refine ⟨b,by rw [getElem?_map,e1];rfl,?_⟩
  rw [aR λ z=>hi ((List.getElem?_inj hl N.nd).mp (by rw [ea,e1,z]))]
  exact e2
structure GoS (K:W.Frag) (H0:Hp) (t o:Addr) (ns:List Nat) (e:List Nat->Nat->Int×Int) (ls:List Addr) (qs:List (Int×Int)):Prop where
 T:Fv K H0 t ns e
 he:∀ q∈cO ns.reverse,∃ u:Int,-1000<=u/\u<=1000/\∀ i,i<ns.length->e q i=(u+i,1)
 n3:ns.length<=3
 n2:2<=ns.length
 hm:∀ n∈ns,1<=n/\n<=3
 ho:SqL K H0 o (List.map V.ref ls)
 pa:PrA H0 ls qs
 pq:∀ q∈qs,q∈prs ns
 ll:ls.length<64
theorem GoS.sz {K:W.Frag} {t o:Addr} {ls:List Addr} {qs:List (Int×Int)} (S:GoS K H0 t o ns e ls qs):Sz ns:=⟨S.n3,λ n h=>(S.hm n h).1,λ n h=>by have:=(S.hm n h).2;omega⟩
theorem gd36 (n3:ns.length<=3) (he:∀ q∈cO ns.reverse,∃ u:Int,-1000<=u/\u<=1000/\∀ i,i<ns.length->e q i=(u+i,1)):∀ q∈cO ns.reverse,∀ i,i<ns.length->Gd 4000 (e q i):=λ q hq i hi=>by
 obtain ⟨u,u1,u2,eu⟩:=he q hq
 rw [eu i hi]
 have b12:BB 12 (u+i):=by show (u+(i:Int)).natAbs<2 ^ 12;omega
 have one:BB 1 (1:Int):=by show (1:Int).natAbs<2 ^ 1;decide
 exact ⟨show (0:Int)<1 by decide,b12.mono (by decide),one.mono (by decide)⟩
theorem GoS.gd {K:W.Frag} {t o:Addr} {ls:List Addr} {qs:List (Int×Int)} (S:GoS K H0 t o ns e ls qs):∀ q∈cO ns.reverse,∀ i,i<ns.length->Gd 4000 (e q i):=gd36 S.n3 S.he
structure GoD (H0 H:Hp) (p g:Addr) (ns:List Nat) (as:List Addr) (ks:List (List Nat)) (m B:Nat):Prop where
 s:aF H0 H
 N:New H0 H p as ks
 kp:Kp ns ks
 g0:H0 g=none
 gp:g≠p
 ga:g∉as
 hg:∃ zs,H g=some (.lst zs)/\zs.length=m
 sm:m+(ks.map List.length).sum=B
theorem GoD.same {g:Addr} {B:Nat} (D:GoD H0 H p g ns as ks m B) (s:aF H H'):GoD H0 H' p g ns as ks m B :=
 ⟨D.s.trans s,D.N.same s,D.kp,D.g0,D.gp,D.ga,let ⟨z,a,b⟩:=D.hg;⟨z,s _ _ a,b⟩,D.sm⟩
theorem GoD.off {g:Addr} {B:Nat} (D:GoD H0 H p g ns as ks m B) (hd:H d=some (.dT kvs)) (d0:H0 d=none):GoD H0 (upd H d o) p g ns as ks m B:=by
 obtain ⟨zs,hg,gl⟩:=D.hg
 have gd:g≠d:=λ z=>by rw [z,hd] at hg;cases hg
 refine ⟨D.s.put d0,D.N.off (λ z=>?_) (λ z=>?_),D.kp,D.g0,D.gp,D.ga,⟨zs,by rw [aR gd];exact hg,gl⟩,D.sm⟩
 ·have:=D.N.hp;rw [← z,hd] at this;cases this
 ·obtain ⟨i,hi⟩:=getElem?_of_mem z
  have:=D.N.lg.1
  rw [length_map] at this
  obtain ⟨a,e1,e2⟩:=D.N.at (getElem?_eq_getElem (show i<ks.length by have:=(List.getElem?_eq_some_iff.mp hi).1;omega))
  rw [hi] at e1
  cases e1
  rw [hd] at e2
  cases e2
theorem Um:∀ {ks:List (List Nat)} {h:Nat} {k k':List Nat},ks[h]?=some k->k'.length+1=k.length->((ks.set h k').map List.length).sum+1=(ks.map List.length).sum
 | [],h,k,k',e,_=>by simp at e
 | a::ks,0,k,k',e,l=>by
  simp at e
  subst e
  show k'.length+_+1=a.length+_
  omega
 | a::ks,h+1,k,k',e,l=>by
  have:=Um (ks:=ks) (h:=h) (by simpa using e) l
  show a.length+((ks.set h k').map List.length).sum+1=a.length+(ks.map List.length).sum
  omega
theorem Iu {l:List α} {x:α} (e:l[i]?=some x):(l.eraseIdx i).length+1=l.length:=(lI e).length_eq
theorem Kp.erase {z:Nat} {k:List Nat} (K:Kp ns ks) (hk:ks[h]?=some k) (hj:k[j]?=some z) (two:2<=k.length):Kp ns (ks.set h (k.eraseIdx j)):=by
 have el:=Iu hj
 have kl:=(List.getElem?_eq_some_iff.mp hk).1
 have km:=mem_of_getElem? hk
 have ne:k.eraseIdx j≠[]:=λ z=>by rw [z] at el;simp at el;omega
 have nd:(k.eraseIdx j).Nodup:=(K.nd k km).sublist (List.eraseIdx_sublist _ _)
 refine ⟨by rw [length_set];exact K.len,λ c hc=>?_,λ c hc=>?_,λ i c n e1 e2=>?_⟩
 ·rcases mem_or_eq_of_mem_set hc with m | m
  ·exact K.ne c m
  ·rw [m];exact ne
 ·rcases mem_or_eq_of_mem_set hc with m | m
  ·exact K.nd c m
  ·rw [m];exact nd
 ·by_cases hi:h=i
  ·subst hi
   rw [List.getElem?_set_self kl] at e1
   cases e1
   have:=K.lt h k n hk e2
   exact ⟨by omega,λ x hx=>this.2 x (List.mem_of_mem_eraseIdx hx)⟩
  ·rw [List.getElem?_set_ne hi] at e1
   exact K.lt i c n e1 e2
theorem prd_one (kp:Kp ns ks):1<=(dY (wo h ks).reverse).length:=by
 rw [jN]
 refine yJ _ λ s hs=>?_
 obtain ⟨c,hc,rfl⟩:=mem_map.mp hs
 exact List.length_pos_iff.mpr (kp.ne c (Cm (List.mem_reverse.mp hc)))
theorem GoD.take {g c:Addr} {B z:Nat} {k:List Nat} {zs:List V} {y:HO} (D:GoD H0 H p g ns as ks m B) (hk:ks[h]?=some k) (ea:as[h]?=some a) (hj:k[j]?=some z) (two:2<=k.length) (hg:H g=some (.lst zs)) (hc:(upd H a (.lst (tv (k.eraseIdx j)))) c=none) :
  GoD H0 (upd (upd (upd H a (.lst (tv (k.eraseIdx j)))) c y) g (.lst (zs++[v]))) p g ns as (ks.set h (k.eraseIdx j)) (m+1) B:=by
 obtain ⟨zs',hg',gl⟩:=D.hg
 rw [hg] at hg'
 cases hg'
 have am:=mem_of_getElem? ea
 refine ⟨((D.s.put (D.N.a0 a am).1).trans (aF.upd hc)).put D.g0,((D.N.put (k:=k) ea _).same (aF.upd hc)).off D.gp D.ga,D.kp.erase hk hj two,D.g0,D.gp,D.ga,⟨_,aD,by rw [length_append,gl];rfl⟩,?_⟩
 have:=Um hk (Iu hj)
 have:=D.sm
 omega
noncomputable def eP (K:W.Frag):Sp:=λ vs H Q _=>∃ (H0:Hp) (t o p g:Addr) (ns:List Nat) (e:List Nat->Nat->Int×Int) (ls:List Addr) (qs:List (Int×Int)) (as:List Addr) (ks:List (List Nat)) (m B:Nat),vs=[.ref t,.ref o,.ref p,.ref g]/\GoS K H0 t o ns e ls qs/\GoD H0 H p g ns as ks m B/\B<=100 /\
 ∀ r ks' m' H',GoD H0 H' p g ns as ks' m' B->m<=m'->Q (.ref r) H'
noncomputable def Bi (H0:Hp) (t o p g d:Addr) (ns:List Nat) (as:List Addr) (m B:Nat):Nat->St->Hp->Prop:=λ i σ H3=>∃ ks' m' kvs o1 o2 o3,σ=[some (.ref t),some (.ref o),some (.ref p),some (.ref g),some (.ref d),o1,o2,o3]/\GoD H0 H3 p g ns as ks' m' B/\m<=m'/\H0 d=none/\H3 d=some (.dT kvs)/\kvs.length<=i
noncomputable def mM (K:W.Frag):TS:=(cQ (bE (tOp rEq (tOp (bW K) (aB 7) (tC (.int 0))) (tC (.str "beaten")))) (aP (dN (tBM K "list" Kn (tOp (dD K) (aB 2) (aB 5)) (aC (aB 6) aK))) (dN (tBM K "list" iX (aB 3) (aC (dS (aC (aB 5) (aC (aB 6) (aC (tOp (bW K) (aB 7) (tC (.int 1))) aK)))) aK)))) (zC (aB 4) (dS (aC (aB 5) (aC (aB 6) aK))) (tOp (bW K) (aB 7) (tC (.int 1)))))
noncomputable def mO (K:W.Frag):TS:=(cQ (bE (tOp (rIn K false) (aB 6) (tOp (dD K) (aB 2) (aB 5)))) (aP (aV (aO (pH K) [] E0 (aC (aB 0) (aC (aB 5) (aC (aB 6) (aC (aB 2) aK))))) (aJ 7)) (mM K)) bS)
noncomputable def hU (K:W.Frag):TG:=(gG K 2 (bQ (aJ 5) (bQ (aJ 6) gH)))
noncomputable def lN (K:W.Frag):TS:=(aP (aV uL (aJ 4)) (aP (cV (aZ K (aB 1)) (hU K) (mO K)) (aW (aB 4))))
theorem Ng {α β γ δ:Type} {f:β->γ->δ} {g:α->β} {g':α->γ}:∀ l:List α,List.zipWith f (l.map g) (l.map g')=l.map λ b=>f (g b) (g' b)
 | []=>rfl
 | a::l=>by rw [List.map_cons,List.map_cons,List.zipWith_cons_cons,Ng l];rfl
theorem num33 {k:List Nat} {z:Nat} (he:∀ q∈cO ms.reverse,∃ u:Int,-1000<=u/\u<=1000/\∀ i,i<ms.length->e q i=(u+i,1)) (m3:ms.length<=3) (hm:∀ n∈ms,1<=n/\n<=3) (kp:Kp ms ks) (hk:ks[h]?=some k) (hz:z∈k) :
  NumW (rwW e (dY (wo h ks).reverse) h k z) (dY (wo h ks).reverse).length:=by
 have hl:=(List.getElem?_eq_some_iff.mp hk).1
 have kl:=kp.len
 have k3:=kp.le λ n hn=>(hm n hn).2
 have hkm:=mem_of_getElem? hk
 have wl:=wo_len hl
 have bn:(dY (wo h ks).reverse).length<=9:=by
  rw [jN]
  have:=Hy (B:=3) ((wo h ks).reverse.map List.length) λ s hs=>by
   obtain ⟨c,hc,rfl⟩:=mem_map.mp hs
   exact k3 c (Cm (List.mem_reverse.mp hc))
  rw [length_map,List.length_reverse] at this
  exact Nat.le_trans this (Nat.pow_le_pow_right (j:=2) (by decide) (by omega))
 have b1:1<=(dY (wo h ks).reverse).length:=by
  rw [jN]
  refine yJ _ λ s hs=>?_
  obtain ⟨c,hc,rfl⟩:=mem_map.mp hs
  exact List.length_pos_iff.mpr (kp.ne c (Cm (List.mem_reverse.mp hc)))
 have hv:∀ y∈k,∀ b∈dY (wo h ks).reverse,∃ u:Int,-1000<=u/\u<=1000/\e (jn b h y) h=(u+h,1):=λ y hy b hb=>by
  obtain ⟨u,u1,u2,eu⟩:=he _ (Ri kp hb hk hy)
  exact ⟨u,u1,u2,eu h (by omega)⟩
 generalize dY (wo h ks).reverse=bs at bn b1 hv
 obtain ⟨us,hus⟩:∃ us,us=k.map λ y=>bs.map λ b=>(e (jn b h y) h).1 - (e (jn b h z) h).1:=⟨_,rfl⟩
 have er:rwW e bs h k z=wR us:=by
  rw [hus]
  unfold rwW wR
  rw [List.map_map]
  refine map_congr_left λ y hy=>?_
  rw [Ng]
  show _=(bs.map _).map _
  rw [List.map_map]
  refine map_congr_left λ b hb=>?_
  obtain ⟨u,_,_,e1⟩:=hv y hy b hb
  obtain ⟨u',_,_,e2⟩:=hv z hz b hb
  show fsb (e (jn b h y) h) (e (jn b h z) h)=((e (jn b h y) h).1 - (e (jn b h z) h).1,(1:Int))
  unfold fsb
  rw [e1,e2]
  show lo2 ((u+h)*1 - (u'+h)*1) (1*1)=_
  rw [Int.mul_one,Int.mul_one,Int.mul_one,Vk]
 have ub:∀ r∈us,r.length=bs.length/\∀ u∈r,-2000<=u/\u<=2000:=λ r hr=>by
  rw [hus] at hr
  obtain ⟨y,hy,rfl⟩:=mem_map.mp hr
  refine ⟨length_map _,λ w hw=>?_⟩
  obtain ⟨b,hb,rfl⟩:=mem_map.mp hw
  obtain ⟨u,_,_,e1⟩:=hv y hy b hb
  obtain ⟨u',_,_,e2⟩:=hv z hz b hb
  rw [e1,e2]
  show -2000<=(u+h) - (u'+h)/\(u+h) - (u'+h)<=2000
  omega
 have ul:us.length=k.length:=by rw [hus,length_map]
 have kk:1<=k.length:=List.length_pos_iff.mpr (kp.ne k hkm)
 have k3:=k3 k hkm
 clear hv hus
 have wl:(wR us).length=us.length:=by unfold wR;rw [length_map]
 rw [er]
 refine ⟨⟨by omega,by omega,b1,by omega,λ r hr=>?_,λ r hr f hf=>?_⟩,λ z mn=>?_⟩
 ·obtain ⟨r',h',rfl⟩:=mem_map.mp hr
  rw [length_map];exact (ub r' h').1
 ·obtain ⟨r',h',rfl⟩:=mem_map.mp hr
  obtain ⟨u,hu,rfl⟩:=mem_map.mp hf
  have:=(ub r' h').2 u hu
  have b12:BB 12 u:=by show u.natAbs<2 ^ 12;omega
  have one:BB 1 (1:Int):=by show (1:Int).natAbs<2 ^ 1;decide
  exact ⟨show (0:Int)<1 by decide,b12.mono (by decide),one.mono (by decide)⟩
 ·obtain ⟨r0,hr0,f0,hf0,e0⟩:=mn.at_
  obtain ⟨r',h',rfl⟩:=mem_map.mp hr0
  obtain ⟨u0,hu0,rfl⟩:=mem_map.mp hf0
  have e0:z=u0:=by rw [e0];exact Int.fdiv_one _
  have b0:=(ub r' h').2 u0 hu0
  have ml:(us.map λ r=>r.map λ u=>u+(1 - z)).length=us.length:=length_map _
  have:=sm_wo (us:=us.map λ r=>r.map λ u=>u+(1 - z)) (n:=bs.length) (by omega) bn (λ r hr=>?_) (λ r hr w hw=>?_)
  ·rw [lft_w,wl,← ml]
   exact this
  ·obtain ⟨r1,h1,rfl⟩:=mem_map.mp hr
   rw [length_map];exact (ub r1 h1).1
  ·obtain ⟨r1,h1,rfl⟩:=mem_map.mp hr
   obtain ⟨u,hu,rfl⟩:=mem_map.mp hw
   have:=(ub r1 h1).2 u hu
   show (u+(1 - z)).natAbs<2 ^ 12
   omega
theorem yZ {K vs H Q E} (h:eP K vs H Q E):vs.length=4:=by obtain ⟨_,_,_,_,_,_,_,_,_,_,_,_,_,rfl,_⟩:=h;rfl
theorem wg_two {K:W.Frag} {v:Addr} {bs:List (List Nat)} {k:List Nat} {n z:Nat} {P R:Nat->Int×Int} (out:Zy K H' v bs k n (rwW e bs h k z) x y P R) (x0:0<x) (hz:z∈k) (b1:1<=bs.length) (pos:∀ b∈bs,0<(e (jn b h z) h).2):2<=k.length:=by
 refine Nat.le_of_not_lt λ hl=>?_
 obtain rfl:k=[z]:=by
  match k,hz,hl with
  | [a],hz,_=>rw [mem_singleton.mp hz]
  | _::_::_,_,hl=>exact absurd hl (by simp)
 obtain ⟨b,bs,rfl⟩:∃ b r,bs=b::r:=by
  cases bs with
  | nil=>simp at b1
  | cons b r=>exact ⟨b,r,rfl⟩
 have lo:=out.G.lo 0 (by simp)
 have p0:=pos b (.head _)
 have e0:va (rwF (rwW e (b::bs) h [z] z) 0 0)=0:=by
  show va (fsb (e (jn b h z) h) (e (jn b h z) h))=0
  unfold fsb
  rw [va_sub p0 p0]
  grind
 have e1:(rsm (rwW e (b::bs) h [z] z).length λ i=>va (P i)*va (rwF (rwW e (b::bs) h [z] z) i 0))=0:=by
  show 0+va (P 0)*va (rwF (rwW e (b::bs) h [z] z) 0 0)=0
  rw [e0]
  grind
 rw [e1] at lo
 have:=va_pos (g:=(x,y)) out.y0 x0
 grind
theorem Au {K vs H Q E} (h:eP K vs H Q E):lN K { nx:=λ _ H'=>Q .non H',rt:=Q } (start sJ vs) H:=by
 obtain ⟨H0,t,o,p,g,ns,e,ls,qs,as,ks,m,B,rfl,S,D,hB,q⟩:=h
 rw [show start sJ [V.ref t,V.ref o,V.ref p,V.ref g]=[some (.ref t),some (.ref o),some (.ref p),some (.ref g),none,none,none,none] from rfl]
 (dsimp? [lN,cV,aZ,uL])
 intro d hd
 have s1:=aF.upd (o:=HO.dT []) hd
 have d0:=D.s.free hd
 refine ⟨⟨_,(D.s.trans s1).seq S.ho⟩,eO (K:=K) (a:=o) (xs:=List.map V.ref ls) (g:=hU K) (D:={ nx:=aW (aB 4) { nx:=λ _ H'=>Q .non H',rt:=Q },rt:=Q }) (Bi H0 t o p g d ns as m B) ?_ ?_ ?_ ?_⟩
 ·exact ⟨ks,m,[],_,_,_,rfl,D.same s1,Nat.le_refl _,d0,aD,Nat.le_refl _⟩
 ·rintro i σ H3 _ ⟨ks',m',kvs,o1,o2,o3,rfl,D,_⟩
  exact D.s.seq S.ho
 ·rintro i x σ H3 hi ⟨ks',m',kvs,o1,o2,o3,rfl,D,mm,d0,hd,kl⟩
  obtain ⟨l,rfl,hl⟩:=bK hi
  obtain ⟨a,b,eab,hab⟩:=S.pa.at hl
  obtain ⟨h,c,n,rfl,rfl,hn,hc⟩:=sS.mp (S.pq _ (mem_of_getElem? eab))
  have n3:=S.hm n (mem_of_getElem? hn)
  have i64:i<ls.length:=(List.getElem?_eq_some_iff.mp hl).1
  have i65:=S.ll
  have hln:=(List.getElem?_eq_some_iff.mp hn).1
  obtain ⟨k,hk⟩:∃ k,ks'[h]?=some k:=⟨_,getElem?_eq_getElem (by rw [D.kp.len];exact hln)⟩
  obtain ⟨ka,ea,ha⟩:=D.N.at hk
  (dsimp? [hU,mO,rIn])
  refine ⟨_,SqT.of (D.s _ _ hab),rfl,_,_,rfl,_,_,rfl,rfl,_,rfl,_,SqL.of D.N.hp,_,cF (by rw [getElem?_map,ea];rfl),_,rfl,_,.inl (SqL.of ha),rfl,Vu k,?_⟩
  rw [show (if false=true then !inV (V.int c) (tv k) else inV (V.int c) (tv k))=inV (V.int c) (tv k) from rfl]
  by_cases hin:inV (.int (c:Int)) (tv k)=true
  ·rw [hin]
   refine Ze ?_
   obtain ⟨z,hz,ez⟩:=inV_tv.mp hin
   obtain rfl:z=c:=by omega
   have nw:=num33 S.he S.n3 S.hm D.kp hk hz
   refine ⟨t,p,h,z,ns,e,ks',k,n,rfl,⟨S.T.same D.s,S.sz,D.kp,.inr ⟨p,_,rfl,D.N.hp,D.N.lg⟩,hk,hn,S.gd⟩,hz,nw,λ v x y P R H4 s4 out=>?_⟩
   have D4:=D.same s4
   have hd4:=s4 _ _ hd
   have ha4:=s4 _ _ ha
   (dsimp? [mM,dN,tBM,Kn,iX,zC])
   obtain ⟨w,hw⟩:=out.ex
   rcases hw with ⟨x0,hv,_⟩ | ⟨x0,hv,_⟩
   ·refine ⟨_,SqT.of hv,_,kX,rfl,?_⟩
    rw [if_pos rfl]
    have two:=wg_two out x0 hz (prd_one D.kp) λ b hb=>by
     obtain ⟨u,_,_,eu⟩:=S.he _ (Ri D.kp hb hk hz)
     rw [eu h hln];exact (by decide:(0:Int)<1)
    obtain ⟨j,hj⟩:=getElem?_of_mem hz
    have nd:=D.kp.nd k (mem_of_getElem? hk)
    refine ⟨_,SqL.of D4.N.hp,.ref ka,cF (by rw [getElem?_map,ea];rfl),.inl ⟨rfl,_,SqL.of ha4⟩,ka,rfl,k.map λ n:Nat=>(n:Int),by rw [← tv_iv];exact ha4,j,by rw [getElem?_map,hj];rfl,λ m lm e=>?_,?_⟩
    ·rw [getElem?_map] at e
     obtain ⟨z',e1,e2⟩:=Option.map_eq_some_iff.mp e
     obtain rfl:z'=z:=by omega
     have:=(List.getElem?_inj (List.getElem?_eq_some_iff.mp hj).1 nd).mp (by rw [hj,e1]:k[j]?=k[m]?)
     omega
    rw [show List.map V.int ((k.map λ n:Nat=>(n:Int)).eraseIdx j)=tv (k.eraseIdx j) by rw [tv_iv (k.eraseIdx j),Jz (λ n:Nat=>(n:Int)) k j]]
    obtain ⟨zs,hg,gl⟩:=D4.hg
    have gk:g≠ka:=λ z=>D4.ga (z ▸ mem_of_getElem? ea)
    have sm:=D4.sm
    have hg5:(upd H4 ka (.lst (tv (k.eraseIdx j)))) g=some (.lst zs):=by rw [aR gk];exact hg
    refine ⟨.inl ⟨rfl,_,SqL.of hg5⟩,_,SqT.of (fP ha4 _ _ hv),_,gQ,sz3,λ c hc=>?_⟩
    refine ⟨_,aF.upd hc _ _ hg5,qV (by omega),_,m'+1,kvs,_,_,_,rfl,D4.take hk ea hj two hg hc,by omega,d0,?_,by omega⟩
    have dk:d≠ka:=λ z=>by rw [z,ha4] at hd4;cases hd4
    have dg:d≠g:=λ z=>by rw [z,hg] at hd4;cases hd4
    have hd5:(upd H4 ka (.lst (tv (k.eraseIdx j)))) d=some (.dT kvs):=by rw [aR dk];exact hd4
    rw [aR dg]
    exact aF.upd hc _ _ hd5
   ·refine ⟨_,SqT.of hv,_,kX,rfl,?_⟩
    rw [if_neg (λ z=>absurd (V.str.inj z) (by decide +kernel))]
    refine ⟨_,SqT.of hv,_,gQ,sz2,λ c hc=>?_⟩
    have hd5:=aF.upd (o:=HO.tup [.int h,.int z]) hc _ _ hd4
    have pl:=putK_le (kvs:=kvs) (k:=tk [h,z]) (v:=V.ref w)
    exact ⟨_,Qq.t (k:=tk [h,z]) hd5 (by rw [Gv];exact aD) (qV (by omega)),ks',m',_,_,_,_,rfl,(D4.same (aF.upd hc)).off hd5 d0,mm,d0,aD,by omega⟩
  ·rw [Bool.eq_false_iff.mpr hin]
   exact Jr ⟨ks',m',kvs,_,_,_,rfl,D,mm,d0,hd,by omega⟩
 ·rintro σ H3 ⟨ks',m',kvs,o1,o2,o3,rfl,D,mm,_⟩
  (dsimp! [aB,tC,tOp,rI0,rNe,dI,aW,bE])
  exact q d ks' m' H3 D mm
noncomputable def Ow:List PySem.Str:=["table", "order", "pairs", "kept", "log", "logged", "grounds"]
noncomputable def nQ (K:W.Frag):Sp:=λ vs H Q E=>∃ (t o:Addr) (ns:List Nat) (e:List Nat->Nat->Int×Int) (ls:List Addr) (qs:List (Int×Int)),vs=[.ref t,.ref o]/\Fv K H t ns e/\(∀ q∈cO ns.reverse,∃ u:Int,-1000<=u/\u<=1000/\∀ i,i<ns.length->e q i=(u+i,1))/\ns.length<=3/\2<=ns.length/\(∀ n∈ns,1<=n/\n<=3) /\
 SqL K H o (List.map V.ref ls)/\PrA H ls qs/\ls.length<64/\(∀ q∈qs,-500<q.2/\q.2<500)/\(¬ qs.Perm (prs ns)->∀ H',aF H H'->E (.ref (aX K "NoOrder")) none H')/\(qs.Perm (prs ns)->∀ r x y z H',aF H H'->H' r=some (.tup [x,y,z])->Q (.ref r) H')
noncomputable def Hc (H0:Hp) (t o l p g:Addr) (ns:List Nat) (as:List Addr) (B:Nat):Nat->St->Hp->Prop:=λ μ σ H=>∃ (ks:List (List Nat)) (m lg:Nat) (d:Addr),σ=[some (.ref t),some (.ref o),some (.ref l),some (.ref p),some (.ref g),some (.int lg),some (.ref d)]/\GoD H0 H p g ns as ks m B/\lg<=m/\μ=2*(B - m)+(if lg<m then 1 else 0)
noncomputable def zU (K:W.Frag) (E:XK):TS:=(aW (dS (aC (aB 3) (aC (aB 4) (aC (aB 6) aK)))))
noncomputable def zT (K:W.Frag) (E:XK):TS:=(aV (aO (eP K) [] E0 (aC (aB 0) (aC (aB 1) (aC (aB 3) (aC (aB 4) aK))))) (aJ 6))
noncomputable def zV (K:W.Frag) (E:XK):TS:=(aP (aV (tCB (eI K) (aC (aB 4) aK)) (aJ 5)) (zT K E))
noncomputable def zS (K:W.Frag) (E:XK):TS:=(aP (pA (bE (tOp jT (aB 5) (tCB (eI K) (aC (aB 4) aK)))) (zV K E)) (zU K E))
noncomputable def zR (K:W.Frag) (E:XK):TS:=(aP (aV (aO (eP K) [] E0 (aC (aB 0) (aC (aB 1) (aC (aB 3) (aC (aB 4) aK))))) (aJ 6)) (zS K E))
noncomputable def zQ (K:W.Frag) (E:XK):TS:=(aP (aV (tC (.int 0)) (aJ 5)) (zR K E))
noncomputable def zP (K:W.Frag) (E:XK):TS:=(aP (aV (lU aK) (aJ 4)) (zQ K E))
noncomputable def zO (K:W.Frag) (E:XK):TS:=(aP (aV (aO (mI K) [] E0 (aC (aB 0) aK)) (aJ 3)) (zP K E))
noncomputable def zN (K:W.Frag) (E:XK):TS:=(aP (cQ (bE (tOp (Mo K 1) (tCB (Zv K) (aC (aB 1) aK)) (aB 2))) (Qy E (.ref (aX K "NoOrder")) (aC (tC (.str "an order has each choice of each hand once")) aK)) bS) (zO K E))
noncomputable def zM (K:W.Frag) (E:XK):TS:=(aP (cQ (bE (tOp Cf (aB 1) (tC .non))) (aV (aB 2) (aJ 1)) bS) (zN K E))
noncomputable def Db (K:W.Frag) (E:XK):TS:=(aP (aV (aO (mE K) [] E0 (aC (aB 0) aK)) (aJ 2)) (zM K E))
theorem Tj {K vs H Q E} (h:nQ K vs H Q E):vs.length=2:=by obtain ⟨_,_,_,_,_,_,rfl,_⟩:=h;rfl
theorem Uo:∀ {ns:List Nat},(∀ n∈ns,n<=3)->((ns.map List.range).map List.length).sum<=3*ns.length
 | [],_=>Nat.le_refl _
 | n::ns,h=>by
  have:=Uo (ns:=ns) λ x hx=>h x (.tail _ hx)
  have:=h n (.head _)
  show (List.range n).length+((ns.map List.range).map List.length).sum<=3*(ns.length+1)
  rw [List.length_range]
  omega
theorem Xc {K vs H Q E} (h:nQ K vs H Q E):Db K E { nx:=λ _ H'=>Q .non H',rt:=Q } (start Ow vs) H:=by
 obtain ⟨t,o,ns,e,ls,qs,rfl,T,he,n3,n2,hm,ho,pa,ll,lo,bad,good⟩:=h
 rw [show start Ow [V.ref t,V.ref o]=[some (.ref t),some (.ref o),none,none,none,none,none] from rfl]
 have sz:Sz ns:=⟨n3,λ n h=>(hm n h).1,λ n h=>by have:=(hm n h).2;omega⟩
 obtain ⟨st,_,p9⟩:=yI n3 n2 hm
 obtain ⟨cont,tab,_⟩:=T.ex
 (dsimp? [Db])
 refine ⟨t,ns,cont,rfl,tab,sz,λ l lp H1 s1 _ hl pl=>?_⟩
 (dsimp? [zM,Cf])
 rw [if_neg (by intro z;cases z)]
 (dsimp? [zN,Zv,Mo,Qy])
 refine ⟨ls,s1.seq ho,ll,λ l=>ky (rdP H1 l),λ x hx=>?_,λ ms l2 pm sp hl2=>?_⟩
 ·obtain ⟨a,b,hx'⟩:=(pa.same s1).all x hx
  have:=lo (a,b) (by rw [(pa.same s1).eq,mem_map];exact ⟨x,hx,uM hx'⟩)
  exact ⟨a,b,SqT.of hx',by show ky (rdP H1 x)=_;rw [uM hx'],this⟩
 have s2:=aF.upd (o:=HO.lst (List.map V.ref ms)) hl2
 obtain ⟨pr,pq⟩:=(pa.same s1).perm pm
 refine ⟨_,PrA.req (SqL.of aD) (SqL.of (s2 _ _ hl)) (pr.same s2) (pl.same s2),?_⟩
 by_cases pg:qs.Perm (prs ns)
 ·have e1:ms.map (rdP H1)=prs ns:=prs_srt (pq.trans pg) (List.pairwise_map.mpr sp) st (Kq hm)
  rw [decide_eq_true e1]
  refine Jr ?_
  have s12:=s1.trans s2
  generalize upd H1 l2 (HO.lst (List.map V.ref ms))=H0 at s12
  have S:GoS K H0 t o ns e ls qs:=⟨T.same s12,he,n3,n2,hm,s12.seq ho,pa.same s12,λ q h=>pg.mem_iff.mp h,ll⟩
  (dsimp? [zO])
  refine ⟨t,ns,cont,rfl,tab.same s12,sz,λ p as H3 s3 N=>?_⟩
  (dsimp? [zP,zQ,zR])
  refine ⟨sz0,λ g hg=>?_⟩
  have s4:=aF.upd (o:=HO.lst []) hg
  have D:GoD H0 (upd H3 g (.lst [])) p g ns as (ns.map List.range) 0 (((ns.map List.range).map List.length).sum):=by
   refine ⟨s3.trans s4,N.same s4,Kp.range sz.ge,s3.free hg,λ z=>?_,λ z=>?_,⟨[],aD,rfl⟩,Nat.zero_add _⟩
   ·have:=N.hp;rw [← z,hg] at this;cases this
   ·obtain ⟨i,hi⟩:=getElem?_of_mem z
    have:=N.lg.1
    rw [length_map] at this
    obtain ⟨a,e1,e2⟩:=N.at (getElem?_eq_getElem (show i<(ns.map List.range).length by have:=(List.getElem?_eq_some_iff.mp hi).1;omega))
    rw [hi] at e1
    cases e1
    rw [hg] at e2
    cases e2
  have B1:((ns.map List.range).map List.length).sum<=100:=by
   have:=Uo λ n h=>(hm n h).2
   omega
  generalize ((ns.map List.range).map List.length).sum=B at D B1
  refine ⟨H0,t,o,p,g,ns,e,ls,qs,as,_,0,B,rfl,S,D,B1,λ d ks m H5 D5 _=>?_⟩
  (dsimp? [zS])
  refine ⟨Hc H0 t o l p g ns as B,⟨_,ks,m,0,d,rfl,D5,Nat.zero_le _,rfl⟩,?_⟩
  rintro μ σ H6 ⟨ks,m,lg,d,rfl,D,lm,rfl⟩
  obtain ⟨zs,hz,zl⟩:=D.hg
  (dsimp? [tCB,eI])
  refine ⟨_,.inl (SqL.of hz),?_⟩
  rw [zl]
  by_cases c:lg<m
  ·rw [if_pos (by omega)]
   refine ⟨λ σ' H'=>∃ m',(m'<2*(B - m)+if lg<m then 1 else 0)/\Hc H0 t o l p g ns as B m' σ' H',λ _ _ h=>h,?_⟩
   (dsimp? [zV,zT,tCB,eI])
   refine ⟨_,.inl (SqL.of hz),?_⟩
   rw [zl]
   refine ⟨H0,t,o,p,g,ns,e,ls,qs,as,ks,m,B,rfl,S,D,B1,λ d' ks' m' H7 D7 mm=>⟨_,?_,ks',m',m,d',rfl,D7,mm,rfl⟩⟩
   have:=D7.sm
   rw [if_pos c]
   split <;> omega
  ·rw [if_neg (by omega)]
   (dsimp? [zU])
   exact ⟨sz3,λ r hr=>good pg r _ _ _ _ (s12.trans (D.s.trans (aF.upd hr))) aD⟩
 ·rw [decide_eq_false λ z=>pg (pq.symm.trans (by rw [z]))]
  exact Ze ⟨sz1,bad pg _ (s1.trans s2)⟩
noncomputable def Ai:List PySem.Str:=["_law_table", "_law_order_here", "_law_told", "e"]
noncomputable abbrev Oth6:List Str:=["NoNumber", "NoTable", "NoStart", "NotTwo", "NoPlan", "NoChoice", "NoMixing"]
noncomputable def kS (K:W.Frag):Sp:=λ vs H Q _=>∃ (t o:Addr) (ns:List Nat) (e:List Nat->Nat->Int×Int) (ls:List Addr) (qs:List (Int×Int)),vs=[.ref t,.ref o]/\Fv K H t ns e/\(∀ q∈cO ns.reverse,∃ u:Int,-1000<=u/\u<=1000/\∀ i,i<ns.length->e q i=(u+i,1))/\ns.length<=3/\2<=ns.length/\(∀ n∈ns,1<=n/\n<=3) /\
 H o=some (.lst (List.map V.ref ls))/\PrA H ls qs/\BadO ns qs/\∀ H',aF H H'->Q (.bl true) H'
noncomputable def sD (K:W.Frag):TS:=(aW (Gx (tCB (Wq K) (aC (aB 2) (aC (tC (.ref (aX K "NoOrder"))) aK))) (tCB (Wq K) (aC (aB 2) (aC (tC (.ty "ValueError")) aK)))))
noncomputable def sC (K:W.Frag):TS:=(aP (tTry (λ E=>aO (nQ K) [] E (aC (aB 0) (aC (aB 1) aK))) (.ref (aX K "NoOrder")) 3 (aV (aB 3) (aJ 2))) (aP (cQ (tB (tCB (Wq K) (aC (aB 2) (aC (dS (aC (tC (.ref (aX K "NoNumber"))) (aC (tC (.ref (aX K "NoTable"))) (aC (tC (.ref (aX K "NoStart"))) (aC (tC (.ref (aX K "NotTwo"))) (aC (tC (.ref (aX K "NoPlan"))) (aC (tC (.ref (aX K "NoChoice"))) (aC (tC (.ref (aX K "NoMixing"))) aK)))))))) aK)))) (aW (tC (.bl false))) bS) (sD K)))
noncomputable def rM (K:W.Frag):TS:=(aP (aV (tC .non) (aJ 2)) (sC K))
theorem Gg {K vs H Q E} (h:kS K vs H Q E):vs.length=2:=by obtain ⟨_,_,_,_,_,_,rfl,_⟩:=h;rfl
theorem Lm {K vs H Q E} (z:XT K "NoOrder" Oth6) (h:kS K vs H Q E):rM K { nx:=λ _ H'=>Q .non H',rt:=Q } (start Ai vs) H:=by
 obtain ⟨t,o,ns,e,ls,qs,rfl,T,he,n3,n2,hm,ho,pa,bad,q⟩:=h
 rw [show start Ai [V.ref t,V.ref o]=[some (.ref t),some (.ref o),none,none] from rfl]
 have ll:=pa.len
 have bl:=bad.le
 (dsimp? [rM,sC,tTry])
 refine ⟨t,o,ns,e,ls,qs,rfl,T,he,n3,n2,hm,SqL.of ho,pa,by omega,bad.lo,λ _ H1 s1=>⟨rfl,λ x hx=>?_⟩,λ p=>absurd p bad.no⟩
 have s2:=s1.trans (aF.upd (o:=Mp x (.ref (aX K "NoOrder")) none) hx)
 have hx2:(upd H1 x (Mp x (.ref (aX K "NoOrder")) none)) x=some (Mp x (.ref (aX K "NoOrder")) none):=aD
 generalize upd H1 x (Mp x (.ref (aX K "NoOrder")) none)=H2 at s2 hx2
 (dsimp? [Wq])
 refine ⟨by show 7<=sizeLine;decide,λ p hp=>?_⟩
 have s3:=aF.upd (o:=HO.tup (Oth6.map λ x=>V.ref (aX K x))) hp
 refine ⟨_,_,s3 _ _ hx2,z.kx,false,.inr (.inr ⟨p,Oth6.map (aX K),rfl,aD,z.any⟩),Jr ?_⟩
 replace hx2:=s3 _ _ hx2
 (dsimp? [sD,Wq])
 refine ⟨_,_,hx2,z.kx,true,.inl ⟨_,rfl,z.own⟩,?_⟩
 exact Ze ⟨_,_,hx2,z.kx,true,.inr (.inl ⟨_,rfl,z.val⟩),q _ (s2.trans s3)⟩
noncomputable def N_law:List PySem.Str:=["_law_script", "_law_sizes_here", "_law_table", "_law_order_here", "_law_spoiled_here", "_law_handed", "_law_found"]
noncomputable def xG (K:W.Frag):Sp:=λ vs H Q _=>∃ (a:Addr) (ns:List Int),vs=[.ref a]/\SqL K H a (ns.map V.int)/\ns.length<=63/\∀ H',Q (.bl true) H'
noncomputable def Nr (K:W.Frag):TS:=(aW (Gx (tCB Zx (aC (aB 6) (aC (tC (.ty "tuple")) aK))) (tOp rEq (tCB (eI K) (aC (aB 6) aK)) (tC (.int 3)))))
noncomputable def Nq (K:W.Frag):TS:=(aP (aV (aO (nQ K) [] E0 (aC (aB 2) (aC (aB 3) aK))) (aJ 6)) (Nr K))
noncomputable def Np (K:W.Frag):TS:=(aP (cQ (tOr (Yv (tB (aO (kS K) [] E0 (aC (aB 2) (aC (aB 5) aK))))) (bE (tOp (Mo K 1) (aB 5) (aB 4)))) (aW (tC (.bl false))) bS) (Nq K))
noncomputable def Nn (K:W.Frag):TS:=(aP (aV (tCB (jG K) (aC (aB 4) aK)) (aJ 5)) (Np K))
noncomputable def Nm (K:W.Frag):TS:=(aP (aV (aO (kR K) [] E0 (aC (aB 0) (aC (aB 1) (aC (aB 3) aK)))) (aJ 4)) (Nn K))
noncomputable def Nl (K:W.Frag):TS:=(aP (aV (aO (pM K) [] E0 (aC (aB 0) (aC (aB 1) aK))) (aJ 3)) (Nm K))
noncomputable def Nk (K:W.Frag):TS:=(aP (aV (Gw (aX K "Table") (jB K) [] E0 (aC (tCB (jG K) (aC (aB 1) aK)) (aC (aO (pO K) [] E0 (aC (aB 0) (aC (aO (pN K) [] E0 (aC (aB 1) aK)) (aC (tCB (eI K) (aC (aB 1) aK)) aK)))) aK))) (aJ 2)) (Nl K))
noncomputable def Zl (K:W.Frag):TS:=(aP (aV (aO (pL K) [] E0 (aC (aB 0) aK)) (aJ 1)) (Nk K))
theorem len_law {K vs H Q E} (h:xG K vs H Q E):vs.length=1:=by obtain ⟨a,ns,rfl,_⟩:=h;rfl
theorem frs_of {K:W.Frag} {H:Hp} {ps:List Addr} {X:Nat->Int×Int} (h:∀ (j:Nat) p,ps[j]?=some p->H p=some (.tup [.int (X j).1,.int (X j).2])):∀ n,n<=ps.length->aS K H (ps.take n) (ofF n X)
 | 0,_=>trivial
 | n+1,hn=>by
  have e:=getElem?_eq_getElem (show n<ps.length by omega)
  rw [bC e,bT]
  exact aS.snoc (frs_of h n (by omega)) (SqT.of (h n _ e))
theorem rd_law {K vs H Q E} (h:xG K vs H Q E):Zl K { nx:=λ _ H'=>Q .non H',rt:=Q } (start N_law vs) H:=by
 obtain ⟨a,ns,rfl,hS,hl,q⟩:=h
 rw [show start N_law [V.ref a]=[some (.ref a),none,none,none,none,none,none] from rfl]
 (dsimp? [Zl,jG])
 refine ⟨a,ns,rfl,hS,λ l ms H1 s1 hl1 m3 m2 hm=>?_⟩
 have sz:Sz ms:=⟨m3,λ n hn=>(hm n hn).1,λ n hn=>by have:=(hm n hn).2;omega⟩
 (dsimp? [Nk,Gw,jG])
 refine ⟨_,.inl (SqL.of hl1),λ lc hlc=>?_⟩
 have s2:=aF.upd (o:=HO.lst (tv ms)) hlc
 have hlc2:(upd H1 lc (HO.lst (tv ms))) lc=some (HO.lst (tv ms)):=aD
 generalize upd H1 lc (HO.lst (tv ms))=H2 at s2 hlc2
 refine ⟨l,ms,rfl,SqL.of (s2 _ _ hl1),sz,λ o xs H3 s3 ho hO ps=>⟨_,.inl (SqL.of (s3 _ _ (s2 _ _ hl1))),?_⟩⟩
 rw [cW]
 have s13:=s2.trans s3
 have nd:=Em ms.reverse
 refine ⟨a,ns,o,xs,cO ms.reverse,ms.length,rfl,(s1.trans s13).seq hS,hO,ps,nd,sz.rev.ord,m3,λ c kvs cont H4 s4 hc kc ok=>?_⟩
 have s14:=s13.trans s4
 intro t dx ht hdx ne
 have s5:aF H4 (upd (upd H4 dx (.own t)) t (.ins (aX K "Table") dx [])):=(aF.upd hdx).put ht
 have t5:(upd (upd H4 dx (.own t)) t (.ins (aX K "Table") dx [])) t=some (.ins (aX K "Table") dx []):=aD
 generalize (upd (upd H4 dx (.own t)) t (.ins (aX K "Table") dx []))=H5 at s5 t5
 refine ⟨t,dx,lc,c,ms,kvs,cont,rfl,t5,SqL.of (s5 _ _ (s4 _ _ (s3 _ _ hlc2))),m2,sz,s5 _ _ hc,λ q hq=>((kc.cells nd) q hq).same s5,λ q hq=>?_,kc.1,λ H6 b6 tab=>⟨rfl,?_⟩⟩
 ·obtain ⟨u,rs,ec,_,_,wt⟩:=ok q hq
  rw [ec,length_map];exact wt.1
 have s6:aF H4 H6:=λ b u e=>b6 b u (s5 b u e) (bI e ht)
 have s16:=s14.trans s6
 obtain ⟨f,hf⟩:∃ f:List Nat->Int,∀ q,q∈cO ms.reverse->∃ ps,cont q=List.map V.ref ps/\-1000<=f q/\f q<=1000/\WT H4 ps (f q) ms.length:=by
  refine Classical.skolem (p:=λ q u=>q∈cO ms.reverse->∃ ps,cont q=List.map V.ref ps/\-1000<=u/\u<=1000/\WT H4 ps u ms.length).mp λ q=>?_
  by_cases hq:q∈cO ms.reverse
  ·obtain ⟨u,rs,h⟩:=ok q hq
   exact ⟨u,λ _=>⟨rs,h⟩⟩
  ·exact ⟨0,λ h=>absurd h hq⟩
 have T:Fv K H6 t ms λ q i=>(f q+i,1):=⟨cont,tab,λ q hq=>by
  obtain ⟨ps,e1,_,_,wt⟩:=hf q hq
  refine ⟨ps,e1,?_⟩
  have:=frs_of (K:=K) (H:=H6) (X:=λ i=>(f q+i,1)) (λ j p e=>s6 _ _ (wt.2 j p e)) ms.length (by rw [wt.1];exact Nat.le_refl _)
  rwa [take_of_length_le (by rw [wt.1];exact Nat.le_refl _)] at this⟩
 have he:∀ q∈cO ms.reverse,∃ u:Int,-1000<=u/\u<=1000/\∀ i:Nat,i<ms.length->(λ (q:List Nat) (i:Nat)=>((f q+i,1):Int×Int)) q i=(u+i,1):=λ q hq=>by
  obtain ⟨ps,_,h1,h2,_⟩:=hf q hq
  exact ⟨f q,h1,h2,λ i _=>rfl⟩
 generalize (λ (q:List Nat) (i:Nat)=>((f q+i,1):Int×Int))=e at T he
 obtain ⟨st,p2,p9⟩:=yI m3 m2 hm
 (dsimp? [Nl])
 refine ⟨a,l,ns,ms,rfl,(s1.trans s16).seq hS,s16 _ _ hl1,m3,hm,λ p ls qs H7 s7 hp pa pm=>?_⟩
 have s17:=s16.trans s7
 (dsimp? [Nm])
 refine ⟨a,l,p,ns,ms,ls,qs,rfl,(s1.trans s17).seq hS,s17 _ _ hl1,m3,m2,hm,hp,pa,pm,λ b ls' qs' H8 s8 hb pb bad=>?_⟩
 (dsimp? [Nn,jG])
 refine ⟨_,.inl (SqL.of hb),λ d hd=>?_⟩
 have s9:=aF.upd (o:=HO.lst (List.map V.ref ls')) hd
 have hd9:(upd H8 d (HO.lst (List.map V.ref ls'))) d=some (.lst (List.map V.ref ls')):=aD
 generalize upd H8 d (HO.lst (List.map V.ref ls'))=H9 at s9 hd9
 (dsimp? [Np,Mo])
 refine ⟨t,d,ms,e,ls',qs',rfl,T.same (s7.trans (s8.trans s9)),he,m3,m2,hm,hd9,pb.same s9,bad,λ H10 s10=>?_⟩
 have sa:=s9.trans s10
 refine ⟨true,rfl,Jr ⟨_,PrA.req (SqL.of (s10 _ _ hd9)) (SqL.of (sa _ _ hb)) (pb.same sa) (pb.same sa),?_⟩⟩
 rw [decide_eq_true rfl]
 refine Jr ?_
 have sb:=s8.trans sa
 have ll:=pa.len
 have lp:=pm.length_eq
 (dsimp? [Nq])
 refine ⟨t,p,ms,e,ls,qs,rfl,T.same (s7.trans sb),he,m3,m2,hm,SqL.of (sb _ _ hp),pa.same sb,by omega,λ x hx=>Kq hm x (pm.mem_iff.mp hx),λ n=>absurd pm n,λ _ r x y z G s hr=>?_⟩
 (dsimp? [Nr,Zx])
 refine ⟨true,.inl ⟨rfl,rfl,_,hr⟩,Ze ⟨_,.inr (SqT.of hr),?_⟩⟩
 exact q G
noncomputable def top (i:Nat):Stmt:=PySem.Challenge.pw_mixplay_k36_no_order.main.body.getD i (.Pass ⟨0,0,0,0⟩)
structure Exs (K:W.Frag):Prop where
 x_NoOrder:PySem.W.excIn K (aX K "NoOrder") [.type "ValueError",.type "Exception",.type "BaseException",.type "object"] "ValueError.__new__" = true
 exm:PySem.W.exmOne K (.ref (aX K "NoOrder")) (.ref (aX K "PlayError"))=some true
 xt:XT K "NoOrder" ["NoNumber", "NoTable", "NoStart", "NotTwo", "NoPlan", "NoChoice", "NoMixing"]
set_option genInjectivity false in
set_option genSizeOf false in
structure Tx (K:W.Frag) (mg:Str->Option Value):Prop where
 f67:Df K mg "_law_cell_at" (top 67)
 f69:Df K mg "_law_sizes" (top 69)
 f22:Df K mg "check_sizes" (top 22)
 f20:Df K mg "one_of_each" (top 20)
 f21:Df K mg "in_order" (top 21)
 f23:Df K mg "check_cells" (top 23)
 f24_0:Mf K "Table" "__init__" "Table.__init__" (gD (top 24) 0)
 f72:Df K mg "_law_cells" (top 72)
 f70:Df K mg "_law_play" (top 70)
 f71:Df K mg "_law_order" (top 71)
 f73:Df K mg "_law_pairs" (top 73)
 f74:Df K mg "_law_strange" (top 74)
 f75:Df K mg "_law_spoiled" (top 75)
 f24_1:Mf K "Table" "sizes" "Table.sizes" (gD (top 24) 1)
 f63:Df K mg "pairs_of" (top 63)
 f58:Df K mg "all_kept" (top 58)
 f24_3:Mf K "Table" "earned" "Table.earned" (gD (top 24) 3)
 f25:Df K mg "joined" (top 25)
 f26:Df K mg "earned_with" (top 26)
 f27:Df K mg "earnings" (top 27)
 f52:Df K mg "least_whole" (top 52)
 f53:Df K mg "lift_of" (top 53)
 f11:Df K mg "divisor" (top 11)
 f12:Df K mg "ratio" (top 12)
 f13:Df K mg "plus" (top 13)
 f54:Df K mg "lifted" (top 54)
 f17:Df K mg "below" (top 17)
 f31:Df K mg "cleared" (top 31)
 f29:Df K mg "shared" (top 29)
 f30:Df K mg "plain" (top 30)
 f37:Df K mg "whole" (top 37)
 f15:Df K mg "times" (top 15)
 f41:Df K mg "longest" (top 41)
 f39:Df K mg "column_of" (top 39)
 f40:Df K mg "span" (top 40)
 f38:Df K mg "unit" (top 38)
 f47_0:Mf K "Corner" "__init__" "Corner.__init__" (gD (top 47) 0)
 f32:Df K mg "products" (top 32)
 f47_3:Mf K "Corner" "entering" "Corner.entering" (gD (top 47) 3)
 f47_2:Mf K "Corner" "numbers" "Corner.numbers" (gD (top 47) 2)
 f33:Df K mg "is_ahead" (top 33)
 f34:Df K mg "leaving" (top 34)
 f47_4:Mf K "Corner" "leaving_by" "Corner.leaving_by" (gD (top 47) 4)
 f47_1:Mf K "Corner" "bottom" "Corner.bottom" (gD (top 47) 1)
 f47_5:Mf K "Corner" "step_in" "Corner.step_in" (gD (top 47) 5)
 f48:Df K mg "unstopped" (top 48)
 f49:Df K mg "last_corner" (top 49)
 f46:Df K mg "turned_round" (top 46)
 f16:Df K mg "over" (top 16)
 f47_8:Mf K "Corner" "spread" "Corner.spread" (gD (top 47) 8)
 f47_9:Mf K "Corner" "xs" "Corner.xs" (gD (top 47) 9)
 f47_10:Mf K "Corner" "ys" "Corner.ys" (gD (top 47) 10)
 f50:Df K mg "best" (top 50)
 f18:Df K mg "summed" (top 18)
 f14:Df K mg "minus" (top 14)
 f55:Df K mg "divided" (top 55)
 f56:Df K mg "worth" (top 56)
 f59:Df K mg "less" (top 59)
 f60:Df K mg "spread" (top 60)
 f61:Df K mg "weighed" (top 61)
 f64:Df K mg "gone_through" (top 64)
 f65:Df K mg "rounds" (top 65)
 f76:Df K mg "_law_refused" (top 76)
 n_ValueError:mg "ValueError" = none
 n_abs:mg "abs" = none
 n_dict:mg "dict" = none
 n_enumerate:mg "enumerate" = none
 n_isinstance:mg "isinstance" = none
 n_len:mg "len" = none
 n_list:mg "list" = none
 n_max:mg "max" = none
 n_min:mg "min" = none
 n_range:mg "range" = none
 n_reversed:mg "reversed" = none
 n_sorted:mg "sorted" = none
 n_sum:mg "sum" = none
 n_tuple:mg "tuple" = none
 n_zip:mg "zip" = none
 c_Corner:mg "Corner" = some (.ref (aX K "Corner"))
 c_NoChoice:mg "NoChoice" = some (.ref (aX K "NoChoice"))
 c_NoMixing:mg "NoMixing" = some (.ref (aX K "NoMixing"))
 c_NoNumber:mg "NoNumber" = some (.ref (aX K "NoNumber"))
 c_NoOrder:mg "NoOrder" = some (.ref (aX K "NoOrder"))
 c_NoPlan:mg "NoPlan" = some (.ref (aX K "NoPlan"))
 c_NoStart:mg "NoStart" = some (.ref (aX K "NoStart"))
 c_NoTable:mg "NoTable" = some (.ref (aX K "NoTable"))
 c_NotTwo:mg "NotTwo" = some (.ref (aX K "NotTwo"))
 c_PlayError:mg "PlayError" = some (.ref (aX K "PlayError"))
 c_Table:mg "Table" = some (.ref (aX K "Table"))
 mk_Corner:PySem.W.makesIn K (aX K "Corner")=true/\W.keepIn K (.ref (aX K "Corner"))=true
 ct:Aq K
 mk_Table:PySem.W.makesIn K (aX K "Table")=true/\W.keepIn K (.ref (aX K "Table"))=true
 tt:Zh K
 g_BITS:∃ t,mg "BITS" = some (.int 40 t)
 ex:Exs K
section
variable {P:Program} {w:World} {K:W.Frag} {mg:Str->Option Value} {base:Heap} 
theorem dA (T:Tx K mg):Ok P w K mg base CX0 1 "_law_cell_at" (bZ K):=T.f67.ok Gh λ R h=>⟨rN K,Ln h,(aH (cP (bF lW pV (aU aQ rfl T.n_len cH (aA pV aE)) (bN _)) (aI (aT (iL pV pV))) bP) (aI (aT aL)))⟩
theorem Sv (T:Tx K mg):Ok P w K mg base CX0 2 "_law_sizes" (pL K):=T.f69.ok Qb λ R h=>⟨xT K,Sc h,(aI (aT (kA R (eA rfl T.n_range (aA (aY gU aL (aY iJ (c0 (dA T) R.r (aA pV (aA aL aE))) aL)) aE)) (λ _ _ _ _=>(aY gU aL (aY iJ (c0 (dA T) R.r (aA pV (aA (aY gU aL pV) aE))) aL))))))⟩
theorem Fo (T:Tx K mg):Ok P w K mg base CX0 1 "check_sizes" (hE K):=T.f22.ok Bd λ R h=>⟨mZ K,Fg h,(aH (cP (PW.pt (Gy (bF lW (aU aQ rfl T.n_len cH (aA pV aE)) aL (bN _)) (xI (bF Zs (aU aQ rfl T.n_len cH (aA pV aE)) aL (bN _))))) (aI jH) bP) (aI (fA R (bH pV) (gN R) (aI (cP (PW.pt (Gy (bF lW pV aL (bN _)) (xI (bF Zs pV aL (bN _))))) (aI jH) bP)))))⟩
theorem sH (T:Tx K mg):Ok P w K mg base CX0 1 "one_of_each" (fJ K):=T.f20.ok Ay λ R h=>⟨mV K,Fc h,(aH (sA R (fT (aA (bV aE) aE))) (aH (fA R (bH pV) (gN R) (aH (sA R (fT aE)) (aH (fA R (bH pV) (gN R) (aI (eQ (qS PySem.F.plainAttrs_list PySem.F.slot_list_extend PySem.F.type_list_extend Ih pV (aA (kA R (bH pV) (λ _ _ _ _=>(aY Bv pV (bV (aA pV aE))))) aE))))) (aI (sA R pV))))) (aI (aT pV))))⟩
theorem Pp (T:Tx K mg):Ok P w K mg base CX0 2 "in_order" (mH K):=T.f21.ok Md λ R h=>⟨uU K,Pi h,(aI (aT (c0 (sH T) R.r (aA (kA R (bH pV) (λ _ _ _ _=>(Kr rfl T.n_list rfl T.n_range rfl pV))) aE))))⟩
theorem Fp (T:Tx K mg):Ok P w K mg base CX0 1 "check_cells" (hJ K):=T.f23.ok Be λ R h=>⟨nA K,Fh h,(aH (fA R (bH pV) (gN R) (aH (cP (pt_cmp (Xi (zF R.r) pV pV)) (aI jH) bP) (aI (cP (bF Uf (aU aQ rfl T.n_len cH (aA (Kt (zF R.r) pV pV (λ _ _=>rfl)) aE)) pV (bN _)) (aI jH) bP)))) (aI (cP (bF Uf (aU Yq rfl T.n_len cH (aA pV aE)) (aU aQ rfl T.n_len cH (aA pV aE)) (bN _)) (aI jH) bP)))⟩
theorem Gb (T:Tx K mg):OkM P w K mg base CX0 3 (aX K "Table") "__init__" (jB K):=T.f24_0.ok Fr λ R h=>⟨qF K,Ga T.tt h,(aH (eQ (c0 (Fo T) R.r (aA pV aE))) (aH (sA R (c0 (Pp T) R.r (aA pV aE))) (aH (eQ (c0 (Fp T) R.r (aA pV (aA pV (aA (aU aQ rfl T.n_len cH (aA pV aE)) aE))))) (aH (uN pV (gO dQ rfl T.n_list kL (aA pV aE)) rfl) (aH (uN pV Dk rfl) (aI (fA R (bH pV) (gN R) (aI (Ko (zF R.r) (cM pV rfl) pV (gO dQ rfl T.n_list kL (aA (Kt (zF R.r) pV pV (λ _ _=>rfl)) aE)) rfl)))))))))⟩
theorem Sy (T:Tx K mg):Ok P w K mg base CX0 2 "_law_cells" (pO K):=T.f72.ok Qe λ R h=>⟨xW K,Sf h,(aH (sA R Dk) (aH (fA R (eA rfl T.n_range (aA (aU aQ rfl T.n_len cH (aA pV aE)) aE)) (gN R) (aH (sA R (c0 (dA T) R.r (aA pV (aA (aY iJ pV aL) aE)))) (aI (Ko (zF R.r) pV (iL pV pV) (kA R (eA rfl T.n_range (aA pV aE)) (λ _ _ _ _=>(bV (aA (aY gU (aY qX (aY iJ (aY gU pV (aY cI pV pV)) aL) aL) pV) (aA aL aE))))) rfl)))) (aI (aT pV))))⟩
theorem Xn (T:Tx K mg):Ok P w K mg base CX0 1 "_law_play" (sZ K):=T.f70.ok Tl λ R h=>⟨Dd K,Xe h,(aH (sA R (bV aE)) (aH (fA R (pi_rev rfl T.n_reversed pV) (gN R) (aH (sA R (aY Bv (bV (aA (aY iJ pV pV) aE)) pV)) (aI (sA R (aY jJ pV pV))))) (aI (aT pV))))⟩
theorem Sx (T:Tx K mg):Ok P w K mg base CX0 2 "_law_order" (pN K):=T.f71.ok Qd λ R h=>⟨xV K,Se h,(aH (sA R aL) (aH (fA R (bH pV) (gN R) (aI (sA R (aY cI pV pV)))) (aI (aT (kA R (eA rfl T.n_range (aA pV aE)) (λ _ _ _ _=>(c0 (Xn T) R.r (aA pV (aA pV aE)))))))))⟩
theorem Sw (T:Tx K mg):Ok P w K mg base CX0 2 "_law_pairs" (pM K):=T.f73.ok Qc λ R h=>⟨xU K,Sd h,(aH (sA R (fT aE)) (aH (fA R (eA rfl T.n_range (aA (aU aQ rfl T.n_len cH (aA pV aE)) aE)) (gN R) (aI (fA R (eA rfl T.n_range (aA (iL pV pV) aE)) (gN R) (aI (eQ (qS PySem.F.plainAttrs_list PySem.F.slot_list_append PySem.F.type_list_append tH pV (aA (bV (aA pV (aA pV aE))) aE))))))) (aH (sA R (fT aE)) (aH (wA (bF (Rc 0 (zF R.r)) pV (fT aE) (bN _)) (aI (eQ (qS PySem.F.plainAttrs_list PySem.F.slot_list_append PySem.F.type_list_append tH pV (aA (qS PySem.F.plainAttrs_list PySem.F.slot_list_pop PySem.F.type_list_pop Oi pV (aA (aY iJ (c0 (dA T) R.r (aA pV (aA (aY gU aL (aU aQ rfl T.n_len cH (aA pV aE))) aE))) (aU aQ rfl T.n_len cH (aA pV aE))) aE)) aE))))) (aI (aT pV))))))⟩
theorem wS (T:Tx K mg):Ok P w K mg base CX0 2 "_law_strange" (fQ K):=T.f74.ok Ge λ R h=>⟨rK K,Lk h,(aH (sA R (aY iJ (c0 (dA T) R.r (aA pV (aA aL aE))) (aU aQ rfl T.n_len cH (aA pV aE)))) (aH (sA R (aY iJ (c0 (dA T) R.r (aA pV (aA aL aE))) aL)) (aI (aT (iL (fT (aA (bV (aA pV (aA (iL pV pV) aE))) (aA (bV (aA pV (aA (qI jU aL) aE))) (aA (bV (aA (aU aQ rfl T.n_len cH (aA pV aE)) (aA aL aE))) (aA (bV (aA (qI jU aL) (aA aL aE))) aE))))) pV)))))⟩
theorem Lw (T:Tx K mg):Ok P w K mg base CX0 3 "_law_spoiled" (kR K):=T.f75.ok Gf λ R h=>⟨rL K,Ll h,(aH (sA R (aY iJ (c0 (dA T) R.r (aA pV (aA aL aE))) aL)) (aH (sA R (aY iJ (c0 (dA T) R.r (aA pV (aA aL aE))) (aU aQ rfl T.n_len cH (aA pV aE)))) (aH (sA R (aY iJ (aY gU (aY gU pV aL) (aY iJ (c0 (dA T) R.r (aA pV (aA aL aE))) (aY qX (aU aQ rfl T.n_len cH (aA pV aE)) aL))) (aU aQ rfl T.n_len cH (aA pV aE)))) (aH (sA R (gO dQ rfl T.n_list kL (aA pV aE))) (aH (cP (bF qT pV aL (bN _)) (aI (eQ (qS PySem.F.plainAttrs_list PySem.F.slot_list_pop PySem.F.type_list_pop Oi pV (aA pV aE)))) bP) (aH (cP (bF qT pV aL (bN _)) (aI (eQ (qS PySem.F.plainAttrs_list PySem.F.slot_list_insert PySem.F.type_list_insert Ig pV (aA pV (aA (iL pV pV) aE))))) bP) (aH (cP (bF qT pV aL (bN _)) (aI (xJ (iL pV pV) (xK pV pV nK))) bP) (aH (cP (bF qT pV aL (bN _)) (aI (xJ (c0 (wS T) R.r (aA pV (aA pV aE))) (xK pV pV nK))) bP) (aH (cP (bF qT pV aL (bN _)) (aI (eQ (qS PySem.F.plainAttrs_list PySem.F.slot_list_insert PySem.F.type_list_insert Ig pV (aA pV (aA (c0 (wS T) R.r (aA pV (aA pV aE))) aE))))) bP) (aH (cP (bF qT pV aL (bN _)) (aI (eQ (pe_bm0 PySem.F.plainAttrs_list PySem.F.slot_list_clear PySem.F.type_list_clear jJw pV))) bP) (aI (aT pV))))))))))))⟩
theorem lP (T:Tx K mg):OkM P w K mg base CX0 1 (aX K "Table") "sizes" (eC K):=T.f24_1.ok Bf λ R h=>⟨nB K,Fi T.tt h,(aI (aT (gO dQ rfl T.n_list kL (aA (cM pV rfl) aE))))⟩
theorem Pn (T:Tx K mg):Ok P w K mg base CX0 2 "pairs_of" (mE K):=T.f63.ok Mb λ R h=>⟨uS K,Pg h,(aH (sA R (fT aE)) (aH (fA R (vO rfl T.n_enumerate (m0 pV T.tt.cl (lP T) R.r)) (gN2 R) (aI (eQ (qS PySem.F.plainAttrs_list PySem.F.slot_list_extend PySem.F.type_list_extend Ih pV (aA (kA R (eA rfl T.n_range (aA pV aE)) (λ _ _ _ _=>(bV (aA pV (aA pV aE))))) aE))))) (aI (aT pV))))⟩
theorem Pq (T:Tx K mg):Ok P w K mg base CX0 2 "all_kept" (mI K):=T.f58.ok Mg λ R h=>⟨uW K,Pk h,(aI (aT (kA R (bH (m0 pV T.tt.cl (lP T) R.r)) (λ _ _ _ _=>(Kr rfl T.n_list rfl T.n_range rfl pV)))))⟩
theorem Ax (T:Tx K mg):OkM P w K mg base CX0 1 (aX K "Table") "earned" (gF K):=T.f24_3.ok zA λ R h=>⟨lO K,Av T.tt h,(aH (fA R (vO rfl T.n_enumerate (cM pV rfl)) (gN2 R) (aI (cP (PW.pt (Gy (bF lW (iT pV pV) aL (bN _)) (xI (bF op_ge (iT pV pV) pV (bN _))))) (aI jH) bP))) (aI (aT (gO dQ rfl T.n_list kL (aA (Kt (zF R.r) (cM pV rfl) pV (λ _ _=>rfl)) aE)))))⟩
theorem Xo (T:Tx K mg):Ok P w K mg base CX0 1 "joined" (tD K):=T.f25.ok Tm λ R h=>⟨De K,Xf h,(aI (aT (aY Bv (aY Bv (jI Ur pV mB (lZ pV)) (bV (aA pV aE))) (jI Ur pV (lZ pV) mB))))⟩
theorem Fm (T:Tx K mg):Ok P w K mg base CX0 2 "earned_with" (gZ K):=T.f26.ok Bc λ R h=>⟨jA K,Ff h,(aI (aT (iL (m1 pV T.tt.cl (Ax T) R.r (aA (c0 (Xo T) R.r (aA pV (aA pV (aA pV aE)))) aE)) pV)))⟩
theorem Ab (T:Tx K mg):Ok P w K mg base CX0 3 "earnings" (jM K):=T.f27.ok Me λ R h=>⟨uV K,Pj h,(aI (aT (kA R (bH pV) (λ _ _ _ _=>(c0 (Fm T) R.r (aA pV (aA pV (aA pV (aA pV aE)))))))))⟩
theorem Fk (T:Tx K mg):Ok P w K mg base CX0 1 "least_whole" (gX K):=T.f52.ok Az λ R h=>⟨mW K,Fd h,(aI (aT (aU (Ja rfl) rfl T.n_min bt_min (aA (kA R (bH pV) (λ _ _ _ _=>(aY jJ (iT pV aL) (iT pV aL)))) aE))))⟩
theorem Ss (T:Tx K mg):Ok P w K mg base CX0 2 "lift_of" (pJ K):=T.f53.ok Pz λ R h=>⟨xR K,Ry h,(aI (aT (bV (aA (aY qX aL (aU (Ja rfl) rfl T.n_min bt_min (aA (kA R (bH pV) (λ _ _ _ _=>(c0 (Fk T) R.r (aA pV aE)))) aE))) (aA aL aE)))))⟩
theorem uY (T:Tx K mg):Ok P w K mg base CX0 1 "divisor" (eG K):=T.f11.ok Qf λ R h=>⟨xX K,Si h,(aH (sA R (aU Dw rfl T.n_abs Rl (aA pV aE))) (aH (sA R (aU Dw rfl T.n_abs Rl (aA pV aE))) (aH (wA (bF Uf pV aL (bN _)) (aH (sA R (aY iJ pV pV)) (aH (sA R pV) (aI (sA R pV))))) (aI (aT pV)))))⟩
theorem lD (T:Tx K mg):Ok P w K mg base CX0 2 "ratio" (gB K):=T.f12.ok Xx λ R h=>⟨Bl K,jJe h,(aH (cP (bF qT pV aL (bN _)) (aI jH) bP) (aH (sA R (c0 (uY T) R.r (aA pV (aA pV aE)))) (aH (cP (bF lW pV aL (bN _)) (aI (sA R (qI jU pV))) bP) (aI (aT (bV (aA (aY jJ pV pV) (aA (aY jJ pV pV) aE))))))))⟩
theorem Vd (T:Tx K mg):Ok P w K mg base CX0 3 "plus" (vL K):=T.f13.ok jJ1 λ R h=>⟨Qu K,rd_plus h,(aI (aT (c0 (lD T) R.r (aA (aY gU (aY cI (iT pV aL) (iT pV aL)) (aY cI (iT pV aL) (iT pV aL))) (aA (aY cI (iT pV aL) (iT pV aL)) aE)))))⟩
theorem Xm (T:Tx K mg):Ok P w K mg base CX0 4 "lifted" (sY K):=T.f54.ok Tk λ R h=>⟨Dc K,Xd h,(aI (aT (kA R (bH pV) (λ _ _ _ _=>(c0 (Vd T) R.r (aA pV (aA pV aE)))))))⟩
theorem Oe (T:Tx K mg):Ok P w K mg base CX0 1 "below" (rD K):=T.f17.ok Ya λ R h=>⟨Kj K,jJh h,(aI (aT (Ku lW (aY cI (iT pV aL) (iT pV aL)) (aY cI (iT pV aL) (iT pV aL)) (bN _))))⟩
theorem Ta (T:Tx K mg):Ok P w K mg base CX0 2 "cleared" (pP K):=T.f31.ok Qh λ R h=>⟨xZ K,Sk h,(aH (sA R aL) (aH (fA R (bH pV) (gN R) (aI (sA R (aY cI pV (aY jJ (iT pV aL) (c0 (uY T) R.r (aA pV (aA (iT pV aL) aE)))))))) (aI (aT (bV (aA pV (aA (kA R (bH pV) (λ _ _ _ _=>(aY cI (iT pV aL) (aY jJ pV (iT pV aL))))) aE)))))))⟩
theorem Ic (T:Tx K mg):Ok P w K mg base CX0 2 "shared" (nO K):=T.f29.ok Ti λ R h=>⟨Da K,Xb h,(aH (sA R aL) (aH (fA R (bH pV) (gN R) (aH (sA R (c0 (uY T) R.r (aA pV (aA pV aE)))) (aI (cP (bF qT pV aL (bN _)) (aI (aT pV)) bP)))) (aI (aT pV))))⟩
theorem jJt (T:Tx K mg):Ok P w K mg base CX0 3 "plain" (vT K):=T.f30.ok Xy λ R h=>⟨Kh K,jJf h,(aH (sA R (c0 (Ic T) R.r (aA pV aE))) (aH (cP (bF lW pV aL (bN _)) (aI (aT (gO dQ rfl T.n_list kL (aA pV aE)))) bP) (aI (aT (kA R (bH pV) (λ _ _ _ _=>(aY jJ pV pV)))))))⟩
theorem Dl (T:Tx K mg):Ok P w K mg base CX0 4 "whole" (nJ K):=T.f37.ok Xv λ R h=>⟨Kf K,jJc h,(aH (sA R (c0 (Ta T) R.r (aA pV aE))) (aI (aT (bV (aA (c0 (lD T) R.r (aA (iT pV aL) (aA (aU (Yp rfl) rfl T.n_max Rk (aA (c0 (Ic T) R.r (aA (iT pV aL) aE)) (aA aL aE))) aE))) (aA (c0 (jJt T) R.r (aA (iT pV aL) aE)) aE))))))⟩
theorem Oc (T:Tx K mg):Ok P w K mg base CX0 3 "times" (rB K):=T.f15.ok Xw λ R h=>⟨Kg K,jJd h,(aI (aT (c0 (lD T) R.r (aA (aY cI (iT pV aL) (iT pV aL)) (aA (aY cI (iT pV aL) (iT pV aL)) aE)))))⟩
theorem Sr (T:Tx K mg):Ok P w K mg base CX0 1 "longest" (pI K):=T.f41.ok Py λ R h=>⟨xQ K,Rx h,(aI (aT (aU (Jb rfl) rfl T.n_max Rk (aA (kA R (bH pV) (λ _ _ _ _=>(pe_bm0 PySem.F.plainAttrs_int PySem.F.slot_int_bit_length PySem.F.type_int_bit_length mt_bits pV))) aE))))⟩
theorem qG (T:Tx K mg):Ok P w K mg base CX0 1 "column_of" (fR K):=T.f39.ok Gi λ R h=>⟨rO K,Lp h,(aI (aT (kA R (bH pV) (λ _ _ _ _=>(iL pV pV)))))⟩
theorem Vc (T:Tx K mg):Ok P w K mg base CX0 1 "span" (vK K):=T.f40.ok jJ0 λ R h=>⟨Qt K,rd_span h,(aI (aT (aY gU aL (aU (Iz rfl) rfl T.n_sum bt_sum (aA (kA R (bH pV) (λ _ _ _ _=>(aU Dw rfl T.n_abs Rl (aA pV aE)))) aE)))))⟩
theorem ok_unit (T:Tx K mg):Ok P w K mg base CX0 1 "unit" (Bp K):=T.f38.ok jJz λ R h=>⟨Qs K,rd_unit h,(aI (aT (kA R (eA rfl T.n_range (aA pV aE)) (λ _ _ _ _=>(jJp (bF qT pV pV (bN _)) aL aL)))))⟩
theorem Fq (T:Tx K mg):OkM P w K mg base CX0 2 (aX K "Corner") "__init__" (fK K):=T.f47_0.ok Bg λ R h=>⟨nD K,Fj T.ct h,(aH (uN pV (kA R (eA rfl T.n_range (aA (aY qX (aU aQ rfl T.n_len cH (aA (iL pV aL) aE)) aL) aE)) (λ _ _ _ _=>(c0 (qG T) R.r (aA pV (aA pV aE))))) rfl) (aH (uN pV (aY pC (kA R (bH (cM pV rfl)) (λ _ _ _ _=>(c0 (Vc T) R.r (aA (jI sP pV mB (lZ (qI jU aL))) aE)))) (kA R (bH (jI sP pV mB (lZ (qI jU aL)))) (λ _ _ _ _=>(c0 (Vc T) R.r (aA (fT (aA aL aE)) aE))))) rfl) (aH (uN pV (kG R (vO rfl T.n_enumerate pV) (λ _ _ _ _=>(aY pC (c0 (ok_unit T) R.r (aA (aU aQ rfl T.n_len cH (aA pV aE)) (aA pV aE))) (fT (aA (iL pV (qI jU aL)) aE))))) rfl) (aI (uN pV (kA R (eA rfl T.n_range (aA (aY qX (aU aQ rfl T.n_len cH (aA pV aE)) aL) aE)) (λ _ _ _ _=>(aY gU (aU aQ rfl T.n_len cH (aA (cM pV rfl) aE)) pV))) rfl)))))⟩
theorem Aa (T:Tx K mg):Ok P w K mg base CX0 1 "products" (jL K):=T.f32.ok Ma λ R h=>⟨uR K,Pf h,(aI (aT (aU (Iz rfl) rfl T.n_sum bt_sum (aA (kG R (mS rfl T.n_zip (aA pV (aA pV aE))) (λ _ _ _ _=>(aY cI pV pV))) aE))))⟩
theorem lS (T:Tx K mg):OkM P w K mg base CX0 2 (aX K "Corner") "entering" (dH K):=T.f47_3.ok tO λ R h=>⟨iB K,vA T.ct h,(aH (sA R (iL (cM pV rfl) (qI jU aL))) (aH (sA R (aY pC (kA R (bH (cM pV rfl)) (λ _ _ _ _=>(c0 (Aa T) R.r (aA pV (aA pV aE))))) (jI sP pV mB (lZ (aU aQ rfl T.n_len cH (aA (cM pV rfl) aE)))))) (aH (sA R lB) (aH (fA R (vO rfl T.n_enumerate pV) (gN2 R) (aI (cP (PW.pt (pw_and (bF lW pV aL (bN _)) (Uu (PW.pt (Gy (bF Cu pV lB (bN _)) (xI (bF lW (aY cI pV (iL (cM pV rfl) pV)) (aY cI (iL pV pV) (iL (cM pV rfl) pV)) (bN _)))))))) (aI (sA R pV)) bP))) (aI (aT pV))))))⟩
theorem wX (T:Tx K mg):OkM P w K mg base CX0 2 (aX K "Corner") "numbers" (eV K):=T.f47_2.ok vC λ R h=>⟨iU K,wV T.ct h,(aH (cP (bF lW pV (aU aQ rfl T.n_len cH (aA (cM pV rfl) aE)) (bN _)) (aI (aT (kA R (bH (cM pV rfl)) (λ _ _ _ _=>(c0 (Aa T) R.r (aA (iL (cM pV rfl) pV) (aA pV aE))))))) bP) (aI (aT (c0 (qG T) R.r (aA (cM pV rfl) (aA (aY qX pV (aU aQ rfl T.n_len cH (aA (cM pV rfl) aE))) aE))))))⟩
theorem Po (T:Tx K mg):Ok P w K mg base CX0 1 "is_ahead" (mF K):=T.f33.ok Mc λ R h=>⟨uT K,Ph h,(aH (fA R (bH pV) (gN R) (aH (sA R (aY cI (iL pV pV) (iL pV pV))) (aH (sA R (aY cI (iL pV pV) (iL pV pV))) (aI (cP (bF Uf pV pV (bN _)) (aI (aT (Ku lW pV pV (bN _)))) bP))))) (aI (aT Zr)))⟩
theorem Su (T:Tx K mg):Ok P w K mg base CX0 2 "leaving" (pK K):=T.f34.ok Qa λ R h=>⟨xS K,Rz h,(aH (sA R lB) (aH (fA R (vO rfl T.n_enumerate pV) (gN2 R) (aI (cP (PW.pt (pw_and (bF Zs (iL pV pV) aL (bN _)) (Uu (PW.pt (Gy (bF Cu pV lB (bN _)) (xI (Cs (c0 (Po T) R.r (aA pV (aA (iL pV pV) (aA pV (aA pV aE)))))))))))) (aI (sA R pV)) bP))) (aI (aT pV))))⟩
theorem sO (T:Tx K mg):OkM P w K mg base CX0 3 (aX K "Corner") "leaving_by" (dR K):=T.f47_4.ok qP λ R h=>⟨fX K,sM T.ct h,(aH (sG R (mS rfl T.n_zip (aA (cM pV rfl) (aA pV aE))) (λ _ _ _ _=>(aY pC pV (fT (aA pV aE))))) (aH (sA R (aU aQ rfl T.n_len cH (aA (cM pV rfl) aE))) (aI (aT (c0 (Su T) R.r (aA pV (aA (aY gU pV aL) (aA (aY pC (fT (aA (aY gU pV aL) aE)) (Kr rfl T.n_list rfl T.n_range rfl pV)) aE))))))))⟩
theorem iV (T:Tx K mg):OkM P w K mg base CX0 1 (aX K "Corner") "bottom" (dB K):=T.f47_1.ok wZ λ R h=>⟨jY K,yU T.ct h,(aI (aT (iL (iL (cM pV rfl) (qI jU aL)) (qI jU aL))))⟩
theorem wW (T:Tx K mg):OkM P w K mg base CX0 2 (aX K "Corner") "step_in" (eU K):=T.f47_5.ok vB λ R h=>⟨iS K,wU T.ct h,(aH (sA R (m0 pV T.ct.cl (iV T) R.r)) (aH (sA R (iL (cM pV rfl) pV)) (aH (sA R (fT aE)) (aH (fA R (mS rfl T.n_zip (aA (cM pV rfl) (aA pV aE))) (gN2 R) (aI (eQ (qS PySem.F.plainAttrs_list PySem.F.slot_list_append PySem.F.type_list_append tH pV (aA (kG R (mS rfl T.n_zip (aA pV (aA pV aE))) (λ _ _ _ _=>(aY jJ (aY qX (aY cI pV (iL pV pV)) (aY cI pV pV)) pV))) aE))))) (aH (xJ pV (xK pV pV nK)) (aH (uN pV pV rfl) (aI (xJ pV (xK (cM pV rfl) pV nK)))))))))⟩
theorem Lu (T:Tx K mg):Ok P w K mg base CX0 4 "unstopped" (kQ K):=T.f48.ok Gc λ R h=>⟨rH K,Lj h,(aH (sA R (m0 pV T.ct.cl (lS T) R.r)) (aH (wA (bF Vb pV lB (bN _)) (aH (sA R (m1 pV T.ct.cl (wX T) R.r (aA pV aE))) (aH (sA R (m1 pV T.ct.cl (sO T) R.r (aA pV aE))) (aH (cP (bF Cu pV lB (bN _)) (aI (aT pV)) bP) (aH (eQ (m1 pV T.ct.cl (wW T) R.r (aA pV (aA pV (aA pV aE))))) (aI (sA R (m0 pV T.ct.cl (lS T) R.r)))))))) (aI (aT lB))))⟩
theorem Fl (T:Tx K mg):Ok P w K mg base CX0 5 "last_corner" (gY K):=T.f49.ok Ba λ R h=>⟨mX K,Fe T.ct h,(aH (sA R (jJq rfl T.g_BITS)) (aH (wA (bF lW pV (aU (Jb rfl) rfl T.n_max Rk (aA (kA R (bH pV) (λ _ _ _ _=>(c0 (Sr T) R.r (aA pV aE)))) aE)) (bN _)) tE) (aH (sA R (mk0 T.mk_Corner (Fq T) R.r T.c_Corner (aA pV aE))) (aH (sA R (c0 (Lu T) R.r (aA pV aE))) (aI (aT (bV (aA pV (aA pV aE)))))))))⟩
theorem Aw (T:Tx K mg):Ok P w K mg base CX0 1 "turned_round" (gE K):=T.f46.ok yY λ R h=>⟨lM K,Ar h,(aI (aT (kA R (bH pV) (λ _ _ _ _=>(qI jU pV)))))⟩
theorem Bw (T:Tx K mg):Ok P w K mg base CX0 3 "over" (pD K):=T.f16.ok jJ2 λ R h=>⟨Qv K,rd_over h,(aI (aT (c0 (lD T) R.r (aA (aY cI (iT pV aL) (iT pV aL)) (aA (aY cI (iT pV aL) (iT pV aL)) aE)))))⟩
theorem yV (T:Tx K mg):OkM P w K mg base CX0 3 (aX K "Corner") "spread" (fS K):=T.f47_8.ok wY λ R h=>⟨jX K,yT T.ct h,(aH (sK R (bH (cM pV rfl)) (λ _ _ _ _=>(bV (aA aL (aA aL aE))))) (aH (fA R (mS rfl T.n_zip (aA pV (aA (cM pV rfl) aE))) (gN2 R) (aI (cP (bF lW pV (aU aQ rfl T.n_len cH (aA pV aE)) (bN _)) (aI (xJ (c0 (lD T) R.r (aA pV (aA (m0 pV T.ct.cl (iV T) R.r) aE))) (xK pV pV nK))) bP))) (aI (aT pV))))⟩
theorem Lz (T:Tx K mg):OkM P w K mg base CX0 4 (aX K "Corner") "xs" (kU K):=T.f47_9.ok Gk λ R h=>⟨rQ K,Lr T.ct h,(aI (aT (m1 pV T.ct.cl (yV T) R.r (aA (c0 (qG T) R.r (aA (cM pV rfl) (aA (qI jU aL) aE))) aE))))⟩
theorem Ly (T:Tx K mg):OkM P w K mg base CX0 3 (aX K "Corner") "ys" (kT K):=T.f47_10.ok Gj λ R h=>⟨rP K,Lq T.ct h,(aI (aT (kA R (bH (jI sP (iL (cM pV rfl) (qI jU aL)) mB (lZ (aU aQ rfl T.n_len cH (aA (cM pV rfl) aE))))) (λ _ _ _ _=>(c0 (lD T) R.r (aA pV (aA (m0 pV T.ct.cl (iV T) R.r) aE)))))))⟩
theorem ok_best (T:Tx K mg):Ok P w K mg base CX0 6 "best" (Br K):=T.f50.ok jJ4 λ R h=>⟨Qx K,rd_best h,(aH (fA R (bH pV) (gN R) (aI (cP (Cs (c0 (Oe T) R.r (aA pV (aA (bV (aA aL (aA aL aE))) aE)))) (aI jH) bP))) (aH (sK R (bH pV) (λ _ _ _ _=>(c0 (Dl T) R.r (aA pV aE)))) (aH (sA R (c0 (Dl T) R.r (aA (kG R (mS rfl T.n_zip (aA pV (aA pV aE))) (λ _ _ _ _=>(c0 (Oc T) R.r (aA pV (aA (iT pV aL) aE))))) aE))) (aH (sA R (c0 (Dl T) R.r (aA pV aE))) (aH (sG R (mS rfl T.n_zip (aA pV (aA (iT pV aL) aE))) (λ _ _ _ _=>(aY pC (iT pV aL) (fT (aA pV aE))))) (aH (sA R (c0 (Fl T) R.r (aA (aY pC pV (fT (aA (aY pC (c0 (Aw T) R.r (aA (iT pV aL) aE)) (fT (aA aL aE))) aE))) aE))) (aH (sK R (bH (m0 (iT pV aL) T.ct.cl (Lz T) R.r)) (λ _ _ _ _=>(c0 (Bw T) R.r (aA pV (aA (iT pV aL) aE))))) (aH (cP (bF Vb (iT pV aL) lB (bN _)) tE bP) (aI (aT (bV (aA Ct (aA pV (aA (kG R (mS rfl T.n_zip (aA (m0 (iT pV aL) T.ct.cl (Ly T) R.r) (aA pV aE))) (λ _ _ _ _=>(c0 (Bw T) R.r (aA (c0 (Oc T) R.r (aA pV (aA (iT pV aL) aE))) (aA (iT pV aL) aE))))) aE))))))))))))))⟩
theorem Xk (T:Tx K mg):Ok P w K mg base CX0 4 "summed" (sW K):=T.f18.ok Tg λ R h=>⟨Cy K,Wz h,(aH (sA R (bV (aA aL (aA aL aE)))) (aH (fA R (bH pV) (gN R) (aI (sA R (c0 (Vd T) R.r (aA pV (aA pV aE)))))) (aI (aT pV))))⟩
theorem Od (T:Tx K mg):Ok P w K mg base CX0 3 "minus" (rC K):=T.f14.ok Xz λ R h=>⟨Ki K,jJg h,(aI (aT (c0 (lD T) R.r (aA (aY qX (aY cI (iT pV aL) (iT pV aL)) (aY cI (iT pV aL) (iT pV aL))) (aA (aY cI (iT pV aL) (iT pV aL)) aE)))))⟩
theorem En (T:Tx K mg):Ok P w K mg base CX0 4 "divided" (lF K):=T.f55.ok Qg λ R h=>⟨xY K,Sj h,(aI (aT (kA R (bH pV) (λ _ _ _ _=>(c0 (Bw T) R.r (aA pV (aA pV aE)))))))⟩
theorem jJs (T:Tx K mg):Ok P w K mg base CX0 7 "worth" (vS K):=T.f56.ok Xu λ R h=>⟨Ke K,jJb h,(aH (sA R (c0 (Ss T) R.r (aA pV aE))) (aH (sK R (bH pV) (λ _ _ _ _=>(c0 (Xm T) R.r (aA pV (aA pV aE))))) (aH (sA R (c0 (ok_best T) R.r (aA pV (aA (kA R (bH pV) (λ _ _ _ _=>(bV (aA aL (aA aL aE))))) (aA (kA R (bH (iL pV aL)) (λ _ _ _ _=>(bV (aA aL (aA aL aE))))) aE))))) (aH (sA R (c0 (Xk T) R.r (aA (iT pV aL) aE))) (aI (aT (bV (aA (c0 (Od T) R.r (aA (c0 (Bw T) R.r (aA (bV (aA aL (aA aL aE))) (aA pV aE))) (aA pV aE))) (aA (c0 (En T) R.r (aA (iT pV aL) (aA pV aE))) (aA (c0 (En T) R.r (aA (iT pV aL) (aA pV aE))) aE))))))))))⟩
theorem ok_less (T:Tx K mg):Ok P w K mg base CX0 4 "less" (Bq K):=T.f59.ok jJ3 λ R h=>⟨Qw K,rd_less h,(aI (aT (kG R (mS rfl T.n_zip (aA pV (aA pV aE))) (λ _ _ _ _=>(c0 (Od T) R.r (aA pV (aA pV aE)))))))⟩
theorem Xl (T:Tx K mg):Ok P w K mg base CX0 1 "spread" (sX K):=T.f60.ok Th λ R h=>⟨Cz K,Xa h,(aH (sK R (eA rfl T.n_range (aA pV aE)) (λ _ _ _ _=>(bV (aA aL (aA aL aE))))) (aH (fA R (mS rfl T.n_zip (aA pV (aA pV aE))) (gN2 R) (aI (xJ pV (xK pV pV nK)))) (aI (aT pV))))⟩
theorem Sq (T:Tx K mg):Ok P w K mg base CX0 8 "weighed" (pH K):=T.f61.ok Px λ R h=>⟨xP K,Rw h,(aH (cP (bF Cu pV lB (bN _)) tE bP) (aH (cP (bF Ls pV (iL pV pV) (by with_unfolding_all rfl)) tE bP) (aH (sA R (c0 (sH T) R.r (aA (aY pC (jI sP pV mB (lZ pV)) (jI sP pV (lZ (aY gU pV aL)) mB)) aE))) (aH (sA R (c0 (Ab T) R.r (aA pV (aA pV (aA pV (aA pV aE)))))) (aH (sA R (c0 (jJs T) R.r (aA (kA R (bH (iL pV pV)) (λ _ _ _ _=>(c0 (ok_less T) R.r (aA (c0 (Ab T) R.r (aA pV (aA pV (aA pV (aA pV aE))))) (aA pV aE))))) aE))) (aH (cP (Cs (c0 (Oe T) R.r (aA (bV (aA aL (aA aL aE))) (aA (iT pV aL) aE)))) (aI (aT (bV (aA Ct (aA (c0 (Xl T) R.r (aA (iT pV aL) (aA (iL pV pV) (aA (iL (m0 pV T.tt.cl (lP T) R.r) pV) aE)))) aE))))) bP) (aI (aT (bV (aA Ct (aA (pe_dzip R.r.units rfl T.n_dict rfl T.n_zip rfl (aA pV (aA (iT pV aL) aE))) aE)))))))))))⟩
theorem qL (T:Tx K mg):Ok P w K mg base CX0 9 "gone_through" (eP K):=T.f64.ok yZ λ R h=>⟨lN K,Au h,(aH (sA R Dk) (aH (fA R (bH pV) (gN2 R) (aI (cP (bF Xj pV (iL pV pV) (by with_unfolding_all rfl)) (aH (sA R (c0 (Sq T) R.r (aA pV (aA pV (aA pV (aA pV aE)))))) (aI (cP (bF qT (iT pV aL) Ct (bN _)) (aH (eQ (qS PySem.F.plainAttrs_list PySem.F.slot_list_remove PySem.F.type_list_remove Xr (iL pV pV) (aA pV aE))) (aI (eQ (qS PySem.F.plainAttrs_list PySem.F.slot_list_append PySem.F.type_list_append tH pV (aA (bV (aA pV (aA pV (aA (iT pV aL) aE)))) aE))))) (aI (Ko (zF R.r) pV (bV (aA pV (aA pV aE))) (iT pV aL) rfl))))) bP))) (aI (aT pV))))⟩
theorem Ie (T:Tx K mg):Ok P w K mg base (CXF P w) 10 "rounds" (nQ K):=T.f65.okX Tj λ R h=>⟨Db K _,Xc h,(aH (sA R (c0 (Pn T) R.r (aA pV aE))) (aH (cP (bF Cu pV lB (bN _)) (aI (sA R pV)) bP) (aH (cP (bF (Rc 1 (Nat.lt_of_le_of_lt (Nat.add_le_add_left (by decide) _) R.r.units)) (aU Yo rfl T.n_sorted Ys (aA pV aE)) pV (bN _)) (aI (jJl PySem.F.excBase_ValueError (by decide +kernel) PySem.F.excBase_ValueError rfl T.c_NoOrder T.ex.x_NoOrder (aA Ct aE))) bP) (aH (sA R (c0 (Pq T) R.r (aA pV aE))) (aH (sA R (fT aE)) (aH (sA R aL) (aH (sA R (c0 (qL T) R.r (aA pV (aA pV (aA pV (aA pV aE)))))) (aH (wA (bF lW pV (aU aQ rfl T.n_len cH (aA pV aE)) (bN _)) (aH (sA R (aU aQ rfl T.n_len cH (aA pV aE))) (aI (sA R (c0 (qL T) R.r (aA pV (aA pV (aA pV (aA pV aE))))))))) (aI (aT (bV (aA pV (aA pV (aA pV aE))))))))))))))⟩
theorem Lx (T:Tx K mg):Ok P w K mg base CX0 11 "_law_refused" (kS K):=T.f76.ok Gg λ R h=>⟨rM K,Lm T.ex.xt h,(aH (sA R lB) (aH (tA R T.c_PlayError T.ex.exm (cX (Ie T) R.r (aA pV (aA pV aE))) (λ _ R=>(aI (sN R pV)))) (aH (cP (Cs (aU Dv rfl T.n_isinstance jE (aA pV (aA (bV (aA (kJ rfl T.c_NoNumber rfl) (aA (kJ rfl T.c_NoTable rfl) (aA (kJ rfl T.c_NoStart rfl) (aA (kJ rfl T.c_NotTwo rfl) (aA (kJ rfl T.c_NoPlan rfl) (aA (kJ rfl T.c_NoChoice rfl) (aA (kJ rfl T.c_NoMixing rfl) aE)))))))) aE)))) (aI (aT Zr)) bP) (aI (aT (pe_and (aU Dv rfl T.n_isinstance jE (aA pV (aA (kJ rfl T.c_NoOrder rfl) aE))) (pe_one (aU Dv rfl T.n_isinstance jE (aA pV (aA (Uz rfl T.n_ValueError Gr rfl) aE))))))))))⟩
theorem law_fn (T:Tx K mg) {f:Addr} {fd:FuncData} (F:qO K "law" "law" (top 77) .none f fd):oZ P w K mg base CX0 12 f fd ["_law_script"] (xG K):=F.fn len_law λ R h=>⟨Zl K,rd_law h,(aH (sA R (c0 (Sv T) R.r (aA pV aE))) (aH (sA R (mk0 T.mk_Table (Gb T) R.r T.c_Table (aA (gO dQ rfl T.n_list kL (aA pV aE)) (aA (c0 (Sy T) R.r (aA pV (aA (c0 (Sx T) R.r (aA pV aE)) (aA (aU aQ rfl T.n_len cH (aA pV aE)) aE)))) aE)))) (aH (sA R (c0 (Sw T) R.r (aA pV (aA pV aE)))) (aH (sA R (c0 (Lw T) R.r (aA pV (aA pV (aA pV aE))))) (aH (sA R (gO dQ rfl T.n_list kL (aA pV aE))) (aH (cP (PW.pt (Gy (pt_not (Cs (c0 (Lx T) R.r (aA pV (aA pV aE))))) (xI (bF (Rc 1 (Nat.lt_of_le_of_lt (Nat.add_le_add_left (by decide) _) R.r.units)) pV pV (bN _))))) (aI (aT Zr)) bP) (aH (sA R (cN (Ie T) R.r (aA pV (aA pV aE)))) (aI (aT (pe_and (aU Yr rfl T.n_isinstance jE (aA pV (aA (Uz rfl T.n_tuple jZf rfl) aE))) (pe_one (Ku qT (aU aQ rfl T.n_len cH (aA pV aE)) aL (bN _)))))))))))))⟩
end
theorem exs_mk {K:W.Frag} {C0 C1 C2 C3 C4 C5 C6 C7 C8:Addr}
  (y0:W.nsIn K mainGlobals "PlayError" = some (some (.ref C0)))
  (y1:W.nsIn K mainGlobals "NoOrder" = some (some (.ref C1)))
  (y2:W.nsIn K mainGlobals "NoNumber" = some (some (.ref C2)))
  (y3:W.nsIn K mainGlobals "NoTable" = some (some (.ref C3)))
  (y4:W.nsIn K mainGlobals "NoStart" = some (some (.ref C4)))
  (y5:W.nsIn K mainGlobals "NotTwo" = some (some (.ref C5)))
  (y6:W.nsIn K mainGlobals "NoPlan" = some (some (.ref C6)))
  (y7:W.nsIn K mainGlobals "NoChoice" = some (some (.ref C7)))
  (y8:W.nsIn K mainGlobals "NoMixing" = some (some (.ref C8)))
  (xm:PySem.W.exmOne K (.ref C1) (.ref C0)=some true) (xa:PySem.W.kitAny K (.ref C1) [.ref C2,.ref C3,.ref C4,.ref C5,.ref C6,.ref C7,.ref C8]=some false) (xv:PySem.W.kitOne K (.ref C1) (.type "ValueError")=some true)
  (x1:W.findIn K (.ref C1) "__getattribute__" = some (some (.builtin "BaseException.__getattribute__"))) (x2:W.findIn K (.ref C1) "__getattr__" = some none) (x3:W.findIn K (.ref C1) "__class__" = some (some (.builtin "object.__class__"))) (x4:PySem.W.specialIn K (.builtin "object.__class__") "__get__" = some (some (.builtin "getset_descriptor.__get__"))) (x5:PySem.W.takesIn K (.builtin "object.__class__")=some true) (x6:PySem.W.mroIn K C1 (.type "object")=some true) (x7:PySem.W.mroIn K C1 (.type "BaseException")=some true)
  (xx:PySem.W.excIn K C1 [.type "ValueError",.type "Exception",.type "BaseException",.type "object"] "ValueError.__new__" = true):Exs K :=
 ⟨by rw [cB y1];exact xx,by rw [cB y1,cB y0];exact xm,by simp only [List.map_cons,List.map_nil,cB y2,cB y3,cB y4,cB y5,cB y6,cB y7,cB y8];rw [cB y1];exact xa,by rw [cB y1];exact xv,by rw [cB y1];exact λ _=>jJ6 x1 x2 x3 x4 x5 x6 x7⟩
theorem CorK_mk {K:W.Frag} (y:W.nsIn K mainGlobals "Corner" = some (some (.ref C))) (pg:PySem.W.plainGet K C Str.empty=true) (hd:PySem.W.hasDictIn K C=true) (po:PySem.W.plainOver K C=true) (sa:W.findIn K (.ref C) "__setattr__" = some (some (.builtin "object.__setattr__"))) (n_begun:W.findIn K (.ref C) "begun" = some none) (n_spans:W.findIn K (.ref C) "spans" = some none) (n_kept:W.findIn K (.ref C) "kept" = some none) (n_inside:W.findIn K (.ref C) "inside" = some none):Aq K :=
 ⟨by rw [cB y];exact ⟨pg,hd,po,sa⟩,by rw [cB y];exact n_begun,by rw [cB y];exact n_spans,by rw [cB y];exact n_kept,by rw [cB y];exact n_inside⟩
theorem TabK_mk {K:W.Frag} (y:W.nsIn K mainGlobals "Table" = some (some (.ref C))) (pg:PySem.W.plainGet K C Str.empty=true) (hd:PySem.W.hasDictIn K C=true) (po:PySem.W.plainOver K C=true) (sa:W.findIn K (.ref C) "__setattr__" = some (some (.builtin "object.__setattr__"))) (n_many:W.findIn K (.ref C) "many" = some none) (n_cells:W.findIn K (.ref C) "cells" = some none):Zh K :=
 ⟨by rw [cB y];exact ⟨pg,hd,po,sa⟩,by rw [cB y];exact n_many,by rw [cB y];exact n_cells⟩
theorem fin {l:PySem.W.OpenLaw} {w:World} {K:W.Frag} {mg:Str->Option Value} {fa:Addr} (hfa:mg "law" = some (.ref fa)) (T:Tx K mg) (Z:∃ f fd,qO K "law" "law" (top 77) .none f fd/\mg "law" = some (.ref f)) :
  ∃ fd:FuncData,(∀ (s:Shared) (v:Value),BindsTo s fd ⟨[v],[]⟩ [("_law_script",v)])/\∀ base:Heap,K.In base->base.Ns mainGlobals mg->oZ l.prog w K mg base CX0 12 fa fd ["_law_script"] (xG K):=by
 obtain ⟨f,fd,F,hf⟩:=Z
 rw [hfa] at hf
 cases hf
 have F':=F
 obtain ⟨oc,od,kV,doc,pm,an,cdv,ct,osl,rfl,lk,hcd⟩:=F.ex
 exact ⟨_,λ s v=>.of_eq rfl,λ base _ _=>law_fn T F'⟩
theorem walk {l:PySem.W.OpenLaw} {q:Program} {loose:List Str} {XP:(Str->Option Value)->Heap->Prop} {YP:World->Heap->Prop} {d:DefRec} {K:Params->W.Frag} (hn:l.most=some 63) (hdf:d.params.defaults=[])
  (hY:∀ (w:World) (h:Heap),YP w h->(K w.params).In h)
  (F:∀ (w:World) (mg:Str->Option Value) (fa:Addr) (h:Heap),(K w.params).In h->h.Ns mainGlobals mg->mg d.name=some (.ref fa) ->
   ∃ fd:FuncData,(∀ (s:Shared) (u:Value),BindsTo s fd ⟨[u],[]⟩ [("_law_script",u)])/\∀ base:Heap,(K w.params).In base->base.Ns mainGlobals mg->oZ l.prog w (K w.params) mg base CX0 12 fa fd ["_law_script"] (xG (K w.params))) :
  PySem.W.WalkO q loose XP YP l.row.toRowW d [] (λ f vs=>PySem.call f vs) :=
 L2.walk_of (n:=63) (k:=12) (x:="_law_script") (CX:=λ _=>CX0) (sp:=λ w=>xG (K w.params)) hn (by decide) hdf ⟨rfl,by decide,by decide⟩ hY F (λ _ _ a ns hl _ hS=>⟨a,ns,rfl,hS,hl,λ _=>rfl⟩) λ _ _ _ _ _ z=>z
end My
set_option Elab.async true
noncomputable def PySem.Challenge.cw_mixplay_k36_no_order_holds.tw3409726957210043587:Nat:=0
noncomputable def PySem.Challenge.cw_mixplay_k36_no_order_holds.tw12165184557388524448:Nat:=0
noncomputable def PySem.Challenge.cw_mixplay_k36_no_order_holds.tw17528367949951467212:Nat:=0
noncomputable def PySem.Challenge.cw_mixplay_k36_no_order_holds.tw5608681469081631454:Nat:=0
noncomputable def PySem.Challenge.cw_mixplay_k36_no_order_holds.tw3092770088079142745:Nat:=0
noncomputable def PySem.Challenge.cw_mixplay_k36_no_order_holds.tw3852598712941822592:Nat:=0
noncomputable def PySem.Challenge.cw_mixplay_k36_no_order_holds.tw295592876069791913:Nat:=0
noncomputable def PySem.Challenge.cw_mixplay_k36_no_order_holds.tw12959359476114521339:Nat:=0
noncomputable def PySem.Challenge.cw_mixplay_k36_no_order_holds.tw12738163803769205392:Nat:=0
noncomputable def PySem.Challenge.cw_mixplay_k36_no_order_holds.tw14133907674459812278:Nat:=0
noncomputable def PySem.Challenge.cw_mixplay_k36_no_order_holds.tw4746384092071451769:Nat:=0
noncomputable def PySem.Challenge.cw_mixplay_k36_no_order_holds.tw6619612358543709514:Nat:=0
noncomputable def PySem.Challenge.cw_mixplay_k36_no_order_holds.tw16842482219217064095:Nat:=0
noncomputable def PySem.Challenge.cw_mixplay_k36_no_order_holds.tw10765636982447184547:Nat:=0
noncomputable def PySem.Challenge.cw_mixplay_k36_no_order_holds.tw16915600100609625098:Nat:=0
noncomputable def PySem.Challenge.cw_mixplay_k36_no_order_holds.tw10657754237251119772:Nat:=0
noncomputable def PySem.Challenge.cw_mixplay_k36_no_order_holds.tw8840063014235692599:Nat:=0
noncomputable def PySem.Challenge.cw_mixplay_k36_no_order_holds.tw3938562834371296724:Nat:=0
noncomputable def PySem.Challenge.cw_mixplay_k36_no_order_holds.tw16712519903620656299:Nat:=0
noncomputable def PySem.Challenge.cw_mixplay_k36_no_order_holds.tw11073211344888829378:Nat:=0
noncomputable def PySem.Challenge.cw_mixplay_k36_no_order_holds.tw223530166874405248:Nat:=0
noncomputable def PySem.Challenge.cw_mixplay_k36_no_order_holds.tw14192407687428574522:Nat:=0
noncomputable def PySem.Challenge.cw_mixplay_k36_no_order_holds.tw18344745169305251422:Nat:=0
noncomputable def PySem.Challenge.cw_mixplay_k36_no_order_holds.tw13082727114738113246:Nat:=0
noncomputable def PySem.Challenge.cw_mixplay_k36_no_order_holds.tw13196160272691842387:Nat:=0
noncomputable def PySem.Challenge.cw_mixplay_k36_no_order_holds.tw16763254867289180365:Nat:=0
noncomputable def PySem.Challenge.cw_mixplay_k36_no_order_holds.tw16790746612113673963:Nat:=0
noncomputable def PySem.Challenge.cw_mixplay_k36_no_order_holds.tw6904609441593002721:Nat:=0
noncomputable def PySem.Challenge.cw_mixplay_k36_no_order_holds.tw1353015305628243389:Nat:=0
noncomputable def PySem.Challenge.cw_mixplay_k36_no_order_holds.tw4825552411745817301:Nat:=0
noncomputable def PySem.Challenge.cw_mixplay_k36_no_order_holds.tw8545428235424245485:Nat:=0
noncomputable def PySem.Challenge.cw_mixplay_k36_no_order_holds.tw9593843485887517758:Nat:=0
noncomputable def PySem.Challenge.cw_mixplay_k36_no_order_holds.tw18392773947083489473:Nat:=0
noncomputable def PySem.Challenge.cw_mixplay_k36_no_order_holds.tw14672867187470473666:Nat:=0
noncomputable def PySem.Challenge.cw_mixplay_k36_no_order_holds.tw568924756115754534:Nat:=0
noncomputable def PySem.Challenge.cw_mixplay_k36_no_order_holds.tw8665965852319384493:Nat:=0
noncomputable def PySem.Challenge.cw_mixplay_k36_no_order_holds.tw11952779482911361864:Nat:=0
noncomputable def PySem.Challenge.cw_mixplay_k36_no_order_holds.tw4522413901452918481:Nat:=0
noncomputable def PySem.Challenge.cw_mixplay_k36_no_order_holds.tw10067871893723135366:Nat:=0
noncomputable def PySem.Challenge.cw_mixplay_k36_no_order_holds.tw17082860192406229187:Nat:=0
noncomputable def PySem.Challenge.cw_mixplay_k36_no_order_holds.tw4840233401684578169:Nat:=0
noncomputable def PySem.Challenge.cw_mixplay_k36_no_order_holds.tw6920786910902851435:Nat:=0
noncomputable def PySem.Challenge.cw_mixplay_k36_no_order_holds.tw4357922211849136314:Nat:=0
noncomputable def PySem.Challenge.cw_mixplay_k36_no_order_holds.tw13679349061734557359:Nat:=0
noncomputable def PySem.Challenge.cw_mixplay_k36_no_order_holds.tw14312751228112691886:Nat:=0
noncomputable def PySem.Challenge.cw_mixplay_k36_no_order_holds.tw3235244680248389059:Nat:=0
noncomputable def PySem.Challenge.cw_mixplay_k36_no_order_holds.tw5522395295954881941:Nat:=0
noncomputable def PySem.Challenge.cw_mixplay_k36_no_order_holds.tw17339414705731114141:Nat:=0
noncomputable def PySem.Challenge.cw_mixplay_k36_no_order_holds.tw7372615441771421165:Nat:=0
noncomputable def PySem.Challenge.cw_mixplay_k36_no_order_holds.tw19177279651864354:Nat:=0
noncomputable def PySem.Challenge.cw_mixplay_k36_no_order_holds.tw15635814717757849685:Nat:=0
noncomputable def PySem.Challenge.cw_mixplay_k36_no_order_holds.tw8837239896710277362:Nat:=0
noncomputable def PySem.Challenge.cw_mixplay_k36_no_order_holds.tw3624462368824207973:Nat:=0
noncomputable def PySem.Challenge.cw_mixplay_k36_no_order_holds.tw11789979448095078467:Nat:=0
noncomputable def PySem.Challenge.cw_mixplay_k36_no_order_holds.tw9844823839337699407:Nat:=0
noncomputable def PySem.Challenge.cw_mixplay_k36_no_order_holds.tw9888724821890390945:Nat:=0
noncomputable def PySem.Challenge.cw_mixplay_k36_no_order_holds.tw16287220810472875624:Nat:=0
noncomputable def PySem.Challenge.cw_mixplay_k36_no_order_holds.tw11417383739808425947:Nat:=0
noncomputable def PySem.Challenge.cw_mixplay_k36_no_order_holds.tw17030299906152213200:Nat:=0
noncomputable def PySem.Challenge.cw_mixplay_k36_no_order_holds.tw15132353024719287595:Nat:=0
noncomputable def PySem.Challenge.cw_mixplay_k36_no_order_holds.tw5832714506084688939:Nat:=0
noncomputable def PySem.Challenge.cw_mixplay_k36_no_order_holds.tw2793080088886922493:Nat:=0
noncomputable def PySem.Challenge.cw_mixplay_k36_no_order_holds.tw2795374482023472684:Nat:=0
noncomputable def PySem.Challenge.cw_mixplay_k36_no_order_holds.tw25481740672309799:Nat:=0
noncomputable def PySem.Challenge.cw_mixplay_k36_no_order_holds.tw4789120568481287093:Nat:=0
noncomputable def PySem.Challenge.cw_mixplay_k36_no_order_holds.tw8618779114354566048:Nat:=0
noncomputable def PySem.Challenge.cw_mixplay_k36_no_order_holds.tw14253776683924177900:Nat:=0
noncomputable def PySem.Challenge.cw_mixplay_k36_no_order_holds.tw18003831904000265491:Nat:=0
noncomputable def PySem.Challenge.cw_mixplay_k36_no_order_holds.tw9765336892616902198:Nat:=0
noncomputable def PySem.Challenge.cw_mixplay_k36_no_order_holds.tw10132627729517835168:Nat:=0
noncomputable def PySem.Challenge.cw_mixplay_k36_no_order_holds.tw9851113979300225028:Nat:=0
noncomputable def PySem.Challenge.cw_mixplay_k36_no_order_holds.tw4030622244015148992:Nat:=0
noncomputable def PySem.Challenge.cw_mixplay_k36_no_order_holds.tw18389479216067890350:Nat:=0
noncomputable def PySem.Challenge.cw_mixplay_k36_no_order_holds.tw11148559397175085559:Nat:=0
noncomputable def PySem.Challenge.cw_mixplay_k36_no_order_holds.tw12116106405825112991:Nat:=0
noncomputable def PySem.Challenge.cw_mixplay_k36_no_order_holds.tw1615761987358229518:Nat:=0
noncomputable def PySem.Challenge.cw_mixplay_k36_no_order_holds.tw12901180457884014488:Nat:=0
noncomputable def PySem.Challenge.cw_mixplay_k36_no_order_holds.tw2957641369797901490:Nat:=0
noncomputable def PySem.Challenge.cw_mixplay_k36_no_order_holds.tw7141210455528268195:Nat:=0
noncomputable def PySem.Challenge.cw_mixplay_k36_no_order_holds.tw21225932781642515:Nat:=0
noncomputable def PySem.Challenge.cw_mixplay_k36_no_order_holds.tw10976914717166060701:Nat:=0
noncomputable def PySem.Challenge.cw_mixplay_k36_no_order_holds.tw16755859416517601585:Nat:=0
noncomputable def PySem.Challenge.cw_mixplay_k36_no_order_holds.tw9376379603637517973:Nat:=0
noncomputable def PySem.Challenge.cw_mixplay_k36_no_order_holds.tw15798240423076799771:Nat:=0
noncomputable def PySem.Challenge.cw_mixplay_k36_no_order_holds.tw1042233673478184300:Nat:=0
noncomputable def PySem.Challenge.cw_mixplay_k36_no_order_holds.tw2575251060829358174:Nat:=0
noncomputable def PySem.Challenge.cw_mixplay_k36_no_order_holds.tw429940152636015972:Nat:=0
noncomputable def PySem.Challenge.cw_mixplay_k36_no_order_holds.tw9504200670598589672:Nat:=0
noncomputable def PySem.Challenge.cw_mixplay_k36_no_order_holds.tw11330712011487443933:Nat:=0
open PySem PySem.W PyProof.Rows
set_option maxRecDepth 100000 in
set_option maxHeartbeats 0 in
theorem PySem.Challenge.cw_mixplay_k36_no_order_holds : PySem.Challenge.rw_mixplay_k36_no_order.Holds := by
  w_on; o_law; z_head; (case hw => w_witness2)
  k_fill
  refine L2.walk_x (fun _ => rfl) (My.walk (l := PySem.Challenge.rw_mixplay_k36_no_order) rfl rfl (fun w h Y => Y) ?F)
  case F =>
    intro w mg fa h KX G hmg
    refine' My.fin hmg ?T (L2.law_mk KX G ?z1 ?z2 ?z3 ?z4)
    (case z1 => k_is)
    (case z2 => k_is)
    (case z3 => k_is)
    (case z4 => k_is)
    constructor
    case ex =>
      refine' My.exs_mk ?y0 ?y1 ?y2 ?y3 ?y4 ?y5 ?y6 ?y7 ?y8 ?xm ?xa ?xv ?x1 ?x2 ?x3 ?x4 ?x5 ?x6 ?x7 ?xx
      (case y0 => k_is)
      (case y1 => k_is)
      (case y2 => k_is)
      (case y3 => k_is)
      (case y4 => k_is)
      (case y5 => k_is)
      (case y6 => k_is)
      (case y7 => k_is)
      (case y8 => k_is)
      (case xm => kts_exm)
      (case xa => kit_is)
      (case xv => kit_is)
      (case x1 => k_is)
      (case x2 => k_is)
      (case x3 => k_is)
      (case x4 => k_is)
      (case x5 => k_is)
      (case x6 => k_is)
      (case x7 => k_is)
      (case xx => k_exc)
    all_goals first
      | (refine' L2.Df.mk' KX G ?a ?l ?c ?k; (case a => k_is); (case l => k_is); (case c => k_is); (case k => k_is))
      | (refine' L2.Df.mkD KX G ?a ?l ?c ?k ?d ?e ?b; (case a => k_is); (case l => k_is); (case c => k_is); (case k => k_is); (case d => k_is); (case e => rfl); (case b => first | exact fun _ _ _ _ _ _ => L2.ar4 fun _ _ _ _ => ⟨_, rfl, rfl⟩ | exact fun _ _ _ _ _ _ => L2.ar2 fun _ _ => ⟨_, rfl, rfl⟩))
      | (refine' L2.Mf.mk' ?y ?a ?i ?l ?c ?k; (case y => k_is); (case a => k_is); (case i => k_is); (case l => k_is); (case c => k_is); (case k => k_is))
      | (refine' PySem.W.mg_none_of KX G ?z; (case z => k_is))
      | (refine' L2.cls_mk KX G ?y; (case y => k_is))
      | (refine' L2.mkc_mk ?y ?a ?b; (case y => k_is); (case a => k_is); (case b => k_is))
      | (refine' L2.gi_mk KX G ?z; (case z => k_is))
      | (refine' My.CorK_mk ?y ?g ?d ?o ?s ?n0 ?n1 ?n2 ?n3; (case y => k_is); (case g => k_is); (case d => k_is); (case o => k_is); (case s => k_is); (case n0 => k_is); (case n1 => k_is); (case n2 => k_is); (case n3 => k_is))
      | (refine' My.TabK_mk ?y ?g ?d ?o ?s ?n0 ?n1; (case y => k_is); (case g => k_is); (case d => k_is); (case o => k_is); (case s => k_is); (case n0 => k_is); (case n1 => k_is))

