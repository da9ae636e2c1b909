import PyProof.Rows.All
import Wide.All
import OpenK.AllK
import Wide.FinOn
import Lean
import PyProof.EqAt
import PyProof.EqKinds
import PyProof.TupleCall
import PySem.Challenge.RW_mixplay_k42_the_only_point
set_option Elab.async false
set_option linter.all false
set_option maxRecDepth 100000
noncomputable section
namespace L2
open PySem PySem.Spec PyProof.Rows
variable {A:Around} {C a:Addr} {E Q:Value->Shared->Prop} {H:Hp} {K:PySem.W.Frag} {M:Model} {N ps:List Str} {P:Program} {base h:Heap} {body:List Stmt} {c e tg:Expr} {f:Value->Value->Sem Value} {fd:FuncData} {fp:List Addr} {g:TG} {i j t':Nat} {kw:List (Str×Value)} {mg:Str->Option Value} {o:HO} {op:CmpOp} {outer:List Env} {pins:List (Addr×Obj)} {pl:Sem Bool} {pos:Pos} {s:Shared} {sp:Sp} {tb:TS} {u:Value} {us:List Value} {v y:V} {vs:List V} {x:Str} {σ:St}
abbrev Key:=Sum Int Str
def zI:Key->Value->Bool
 | .inl k,v=>Value.isInt k v
 | .inr x,v=>Value.isStrOf x v
def keyH (w:World):Key->Int
 | .inl k=>hashInt k
 | .inr x=>hashStr w x
theorem cL:∀ {k:Key} {v:Value},zI k v=true->(∃ i t,k=Sum.inl i/\v=Value.int i t)∨(∃ x t,k=Sum.inr x/\v=Value.str x t)
 | .inl i,v,h=>by
  obtain ⟨t,e⟩:=Value.isInt_shape (k:=i) (v:=v) h
  exact .inl ⟨i,t,rfl,e⟩
 | .inr x,v,h=>by
  obtain ⟨t,e⟩:=Value.isStrOf_shape (x:=x) (v:=v) h
  exact .inr ⟨x,t,rfl,e⟩
theorem Ms (i:Int) (t:Tok):zI (.inl i) (.int i t)=true:=by simp [zI,Value.isInt]
theorem Mr (x:Str) (t:Tok):zI (.inr x) (.str x t)=true:=by simp [zI,Value.isStrOf]
theorem key_ll (a b:Int):decide ((Sum.inl a:Key)=Sum.inl b)=(a == b):=by
 by_cases e:a=b
 ·subst e;simp
 ·have h:¬ (Sum.inl a:Key)=Sum.inl b:=fun q=>e (Sum.inl.inj q)
  rw [decide_eq_false h]
  exact (beq_eq_false_iff_ne.mpr e).symm
theorem key_rr (a b:Str):decide ((Sum.inr a:Key)=Sum.inr b)=decide (a=b):=by
 by_cases e:a=b
 ·subst e;simp
 ·have h:¬ (Sum.inr a:Key)=Sum.inr b:=fun q=>e (Sum.inr.inj q)
  rw [decide_eq_false h,decide_eq_false e]
theorem key_lr (a:Int) (b:Str):decide ((Sum.inl a:Key)=Sum.inr b)=false:=decide_eq_false (fun q=>nomatch q)
theorem key_rl (a:Str) (b:Int):decide ((Sum.inr a:Key)=Sum.inl b)=false:=decide_eq_false (fun q=>nomatch q)
def dB (prog:Program) (w:World):PySem.KeyKind prog w Key where
 is:=zI
 hash:=keyH w
 inj:=fun v a b ha hb=>by
  rcases cL ha with ⟨i,t,rfl,rfl⟩ | ⟨x,t,rfl,rfl⟩
  ·rcases cL hb with ⟨j,u,rfl,e⟩ | ⟨y,u,rfl,e⟩
   ·injection e with e1 _;rw [e1]
   ·exact nomatch e
  ·rcases cL hb with ⟨j,u,rfl,e⟩ | ⟨y,u,rfl,e⟩
   ·exact nomatch e
   ·injection e with e1 _;rw [e1]
 byValue:=fun k v h=>by
  rcases cL h with ⟨i,t,rfl,rfl⟩ | ⟨x,t,rfl,rfl⟩ <;> rfl
 pyHash:=fun hv h=>by
  rcases cL hv with ⟨i,t,rfl,rfl⟩ | ⟨x,t,rfl,rfl⟩
  ·exact wpAny_pyHash_int h
  ·exact wpAny_pyHash_str h
 eqBool:=fun hu hv h=>by
  rcases cL hu with ⟨i,t,rfl,rfl⟩ | ⟨x,t,rfl,rfl⟩
  ·rcases cL hv with ⟨j,u,rfl,rfl⟩ | ⟨y,u,rfl,rfl⟩
   ·rw [key_ll] at h;exact wpAny_eqBool_int h
   ·rw [key_lr] at h;exact SeqAt.EqAt.int_str i t y u _ _ _ _ h
  ·rcases cL hv with ⟨j,u,rfl,rfl⟩ | ⟨y,u,rfl,rfl⟩
   ·rw [key_rl] at h;exact SeqAt.EqAt.str_int x t j u _ _ _ _ h
   ·rw [key_rr] at h;exact wpAny_eqBool_str h
 «strs»:=fun k x t v h=>by
  rcases cL h with ⟨i,u,rfl,e⟩ | ⟨y,u,rfl,e⟩
  ·exact nomatch e
  ·injection e with e1 _
   subst e1
   cases v <;> rfl
theorem Gb (prog:Program) (w:World) (i:Int) (t:Tok):(dB prog w).is (.inl i) (.int i t)=true:=Ms i t
theorem Ga (prog:Program) (w:World) (x:Str) (t:Tok):(dB prog w).is (.inr x) (.str x t)=true:=Mr x t
inductive V where
 | non | bl (b:Bool) | int (i:Int) | str (x:Str) | byt (b:Array UInt8) | flt (b:UInt64) | ref (a:Addr) | ty (n:String)
 deriving DecidableEq
def aZ:V->Value->Prop
 | .non,u=>u=Value.none
 | .bl b,u=>u=Value.bool b
 | .int i,u=>∃ t,u=Value.int i t
 | .str x,u=>∃ t,u=Value.str x t
 | .byt b,u=>∃ t,u=Value.bytes b t
 | .flt b,u=>∃ t,u=Value.float b t
 | .ref a,u=>u=Value.ref a
 | .ty n,u=>u=Value.type n
abbrev aY:List V->List Value->Prop:=Paired aZ
theorem aY.length {xs:List V} (r:aY xs us):xs.length=us.length:=Paired.length r
theorem aY.get:∀ {xs:List V} {us:List Value} {i:Nat} {x:V},aY xs us->xs[i]?=some x->∃ u,us[i]?=some u/\aZ x u
 | _,_,_,_,.nil,e=>by simp at e
 | _,_,0,_,.cons r _,e=>by simp at e;subst e;exact ⟨_,rfl,r⟩
 | _,_,i+1,x,.cons _ t,e=>by
  obtain ⟨u,h1,h2⟩:=aY.get (i:=i) (x:=x) t (by simpa using e)
  exact ⟨u,by simpa using h1,h2⟩
theorem aY.set {x:V} (r:aZ x u):∀ {xs:List V} {us:List Value} (i:Nat),aY xs us->aY (xs.set i x) (us.set i u)
 | _,_,_,.nil=>.nil
 | _,_,0,.cons _ t=>.cons r t
 | _,_,i+1,.cons q t=>.cons q (aY.set r i t)
theorem aY.append:∀ {xs ys:List V} {us ws:List Value},aY xs us->aY ys ws->aY (xs ++ ys) (us ++ ws)
 | _,_,_,_,.nil,s=>s
 | _,_,_,_,.cons r t,s=>.cons r (aY.append t s)
theorem aY.take:∀ {xs:List V} {us:List Value} (n:Nat),aY xs us->aY (xs.take n) (us.take n)
 | _,_,0,_=>.nil
 | _,_,_+1,.nil=>.nil
 | _,_,n+1,.cons r t=>.cons r (aY.take n t)
theorem aY.drop:∀ {xs:List V} {us:List Value} (n:Nat),aY xs us->aY (xs.drop n) (us.drop n)
 | _,_,0,r=>r
 | _,_,_+1,.nil=>.nil
 | _,_,n+1,.cons _ t=>aY.drop n t
theorem aY.none_of:∀ {xs:List V} {us:List Value} {i:Nat},aY xs us->xs[i]?=none->us[i]?=none:=fun {xs us i} r e=>by
 have h1:=r.length
 have h2:xs.length<=i:=List.getElem?_eq_none_iff.mp e
 exact List.getElem?_eq_none_iff.mpr (by omega)
def mB:Option V->Option Value->Prop
 | some v,some u=>aZ v u
 | none,none=>True
 | _,_=>False
def KV {κ:Type}:List (κ×V)->List (κ×Value)->Prop:=Paired fun (p:κ×V) (q:κ×Value)=>p.1=q.1/\aZ p.2 q.2
def kV:Key->V
 | .inl i=>.int i
 | .inr x=>.str x
inductive HO where
 /-- a list -/
 | lst (xs:List V)
 /-- a tuple (never changes) -/
 | tup (xs:List V)
 /-- a dict whose keys are ints and texts;one whose keys are tuples of ints and texts (the empty one is both) -/
 | dK (kvs:List (Key×V)) | dT (kvs:List (List Key×V))
 /-- a set of ints: its members,its size -/
 | set (S:Int->Bool) (n:Nat)
 /-- an instance of the class at C,its dict at dx,its attributes -/
 | ins (C dx:Addr) (fs:List (Str×V))
 /-- the dict of the instance at x -/
 | own (x:Addr)
 /-- the dict of an exception -/
 | xd (fs:List (Str×V))
 /-- a bound method,f of x -/
 | met (f x:Addr)
 /-- a range object lo,lo+1,.. below hi -/
 | rng (lo hi:Int)
 /-- a thing that is known to the object (the script;a dict while a loop walks it): read,never written while it is so -/
 | frz (o:Obj) (u:HO)
 /-- a code object's table -/
 | tbl (ps:Array Value)
 /-- any other thing,by what is true of its one object (a def of one's own: SetO a S n:=HO.ext fun h=>..) -/
 | ext (φ:Heap->Prop)
abbrev Hp:=Addr->Option HO
def upd (H:Hp) (a:Addr) (o:HO):Hp:=fun b=>if b=a then some o else H b
theorem aD:upd H a o a=some o:=by unfold upd;rw [if_pos rfl]
theorem aN {b:Addr} (h:b≠a):upd H a o b=H b:=by unfold upd;rw [if_neg h]
theorem eK {b:Addr} {u:HO} (h:H a=some o) (h':H b=some u) (d:o≠u):a≠b:=by
 intro e;subst e;rw [h] at h';exact d (Option.some.inj h')
theorem bF {b:Addr} (h:H a=some o) (h':H b=none):a≠b:=by
 intro e;subst e;rw [h] at h';cases h'
section
variable (P:Program) (w:World)
def bZ (H:Hp) (h:Heap) (a:Addr):HO->Prop
 | .lst xs=>xs.length<=sizeLine/\∃ (its:List Value) (n:Nat),aY xs its/\h.get? a=some { cls:=.type "list",data:=.seq its.toArray n }
 | .tup xs=>xs.length<=sizeLine/\∃ its:List Value,aY xs its/\IsTup h a its.toArray
 | .dK kvs=>kvs.length<=sizeLine/\(a == sysModules)=false/\∃ vs,KV kvs vs/\h.DictOf (dB P w) a vs
 | .dT kvs=>kvs.length<=sizeLine/\(a == sysModules)=false/\∃ xs:List (List Key×Addr×Value),
   Paired (fun (p:List Key×V) (q:List Key×Addr×Value)=>p.1=q.1/\H q.2.1=some (.tup (p.1.map kV))/\aZ p.2 q.2.2) kvs xs /\
   ∃ o es ep,h.get? a=some o/\o.ExactDict/\o.data=.dict es ep/\es.toList=xs.map (entryOfKey (tupleKind (dB P w)))/\(xs.map (·.1)).Nodup
 | .set S n=>h.SetOf (intKind P w) a S n
 | .ins C dx fs=>H dx=some (.own a)/\fs.length<=1000/\dx≠a/\h.get? a=some (PySem.W.instObj C dx) /\
   ∃ mA,h.Ns1 dx mA/\(∀ f,mB (fs.lookup f) (mA f))/\PySem.Within mA (fs.map (·.1))
 | .own _=>∃ o,h.get? a=some o
 | .xd fs=>∃ mA,h.Ns1 a mA/\∀ f,mB (fs.lookup f) (mA f)
 | .rng lo hi=>∃ t u v,h.get? a=some { cls:=.type "range",data:=.fields #[.int lo t,.int hi u,.int 1 v] }
 | .frz o u=>h.get? a=some o/\bZ H h a u
 | .tbl ps=>h.get? a=some { cls:=.none,data:=.fields ps }
 | .met f x=>h.get? a=some (PySem.W.methodObj (.ref f) (.ref x))
 | .ext φ=>φ h/\(∃ o,h.get? a=some o)/\∀ h1 h2:Heap,φ h1->(∀ o,h1.get? a=some o->h2.get? a=some o)->φ h2
def HOk (H:Hp) (h:Heap):Prop:=∀ a o,H a=some o->bZ P w H h a o
end
section
variable {P:Program} {w:World} {H H':Hp} {h h':Heap} {a:Addr} {o:HO}
theorem bZ.lt (x:bZ P w H h a o):a < h.objs.size:=by
 cases o with
 | lst xs=>obtain ⟨_,_,_,_,e⟩:=x;exact Heap.lt_size e
 | tup xs=>obtain ⟨_,_,_,p⟩:=x;exact p.lt
 | dK kvs=>obtain ⟨_,_,_,_,o,_,_,e,_⟩:=x;exact Heap.lt_size e
 | dT kvs=>obtain ⟨_,_,_,_,o,_,_,e,_⟩:=x;exact Heap.lt_size e
 | set S n=>obtain ⟨o,_,_,_,e,_⟩:=x;exact Heap.lt_size e
 | ins C dx fs=>obtain ⟨_,_,_,e,_⟩:=x;exact Heap.lt_size e
 | own y=>obtain ⟨_,e⟩:=x;exact Heap.lt_size e
 | xd fs=>obtain ⟨_,⟨_,_,_,e,_⟩,_⟩:=x;exact Heap.lt_size e
 | rng lo hi=>obtain ⟨_,_,_,e⟩:=x;exact Heap.lt_size e
 | frz ob u=>obtain ⟨e,_⟩:=x;exact Heap.lt_size e
 | tbl ps=>exact Heap.lt_size (show h.get? a=some _ from x)
 | met f y=>exact Heap.lt_size (show h.get? a=some _ from x)
 | ext φ=>obtain ⟨_,⟨_,e⟩,_⟩:=x;exact Heap.lt_size e
theorem Paired.mapP {α β:Type} {F G:α->β->Prop}:∀ {l₁:List α} {l₂:List β},Paired F l₁ l₂->(∀ a b,F a b->G a b)->Paired G l₁ l₂
 | _,_,.nil,_=>.nil
 | _,_,.cons r t,f=>.cons (f _ _ r) (Paired.mapP t f)
theorem bZ.stay (x:bZ P w H h a o) (k:∀ b u,(b=a∨H b=some (.own a))->h.get? b=some u->h'.get? b=some u)
  (ho:∀ b,H b=some (.own a)->H' b=some (.own a)) (ht:∀ b xs,H b=some (.tup xs)->H' b=some (.tup xs)):bZ P w H' h' a o:=by
 induction o with
 | lst xs=>obtain ⟨z,its,n,r,e⟩:=x;exact ⟨z,its,n,r,k _ _ (.inl rfl) e⟩
 | tup xs=>obtain ⟨z,its,r,ob,e,c⟩:=x;exact ⟨z,its,r,ob,k _ _ (.inl rfl) e,c⟩
 | dK kvs=>obtain ⟨z,y,vs,r,ob,es,ep,e,c⟩:=x;exact ⟨z,y,vs,r,ob,es,ep,k _ _ (.inl rfl) e,c⟩
 | dT kvs =>
  obtain ⟨z,y,xs,r,ob,es,ep,e,c⟩:=x
  exact ⟨z,y,xs,Paired.mapP r fun p q z=>⟨z.1,ht _ _ z.2.1,z.2.2⟩,ob,es,ep,k _ _ (.inl rfl) e,c⟩
 | set S n=>obtain ⟨ob,es,ep,t,e,c⟩:=x;exact ⟨ob,es,ep,t,k _ _ (.inl rfl) e,c⟩
 | ins C dx fs =>
  obtain ⟨d,z,ne,e,mA,⟨od,es,ep,e2,c⟩,r⟩:=x
  exact ⟨ho _ d,z,ne,k _ _ (.inl rfl) e,mA,⟨od,es,ep,k _ _ (.inr d) e2,c⟩,r⟩
 | own y=>obtain ⟨ob,e⟩:=x;exact ⟨ob,k _ _ (.inl rfl) e⟩
 | xd fs=>obtain ⟨mA,⟨od,es,ep,e,c⟩,r⟩:=x;exact ⟨mA,⟨od,es,ep,k _ _ (.inl rfl) e,c⟩,r⟩
 | rng lo hi=>obtain ⟨t,u,v,e⟩:=x;exact ⟨t,u,v,k _ _ (.inl rfl) e⟩
 | frz ob u ih=>obtain ⟨e,q⟩:=x;exact ⟨k _ _ (.inl rfl) e,ih q⟩
 | tbl ps =>
  have e:h.get? a=some { cls:=.none,data:=.fields ps }:=x
  show h'.get? a=some { cls:=.none,data:=.fields ps }
  exact k a _ (.inl rfl) e
 | met f y =>
  have e:h.get? a=some (PySem.W.methodObj (.ref f) (.ref y)):=x
  show h'.get? a=some (PySem.W.methodObj (.ref f) (.ref y))
  exact k a _ (.inl rfl) e
 | ext φ=>obtain ⟨p,⟨o,e⟩,st⟩:=x;exact ⟨st _ _ p fun o q=>k _ _ (.inl rfl) q,⟨o,k _ _ (.inl rfl) e⟩,st⟩
theorem HOk.lt (x:HOk P w H h) (e:H a=some o):a < h.objs.size:=(x a o e).lt
theorem HOk.fresh (x:HOk P w H h) (e:h.objs.size<=a):H a=none:=by
 cases q:H a with
 | none=>rfl
 | some u=>exact absurd (Nat.lt_of_lt_of_le (x.lt q) e) (Nat.lt_irrefl _)
theorem HOk.kept (x:HOk P w H h) (k:∀ b u,h.get? b=some u->h'.get? b=some u):HOk P w H h':=fun a o e =>
 (x a o e).stay (fun b u _ q=>k b u q) (fun _ q=>q) fun _ _ q=>q
theorem HOk.laid (x:HOk P w H h) (k:∀ b u,h.get? b=some u->h'.get? b=some u) (hp:h.objs.size<=a) (new:bZ P w (upd H a o) h' a o):HOk P w (upd H a o) h':=fun b u e=>by
 have hn:=x.fresh hp
 by_cases hb:b=a
 ·subst hb;rw [aD] at e;cases e;exact new
 ·rw [aN hb] at e
  exact (x b u e).stay (fun c v _ q=>k c v q) (fun c q=>by rw [aN (bF q hn)];exact q) fun c xs q=>by rw [aN (bF q hn)];exact q
end
def Rd (H:Hp) (a:Addr) (u:HO):Prop:=H a=some u∨∃ o,H a=some (.frz o u)
theorem Rd.of {u:HO} (h:H a=some u):Rd H a u:=.inl h
theorem Rd.ok {w:World} {u:HO} (r:Rd H a u) (x:HOk P w H h):bZ P w H h a u:=by
 rcases r with r | ⟨o,r⟩
 ·exact x a u r
 ·obtain ⟨_,q⟩:=x a _ r
  exact q
def Mut:Option HO->Prop
 | some (.lst _)=>True
 | some (.dK _)=>True
 | some (.dT _)=>True
 | some (.set _ _)=>True
 | some (.ins _ _ _)=>True
 | some (.ext _)=>True
 | _=>False
section
variable {P:Program} {w:World} {H:Hp} {h h':Heap} {x e:Addr} {o':HO}
theorem HOk.write (ok:HOk P w H h) (mu:Mut (H x)) (he:e=x∨H e=some (.own x)) (k:∀ b u,b≠e->h.get? b=some u->h'.get? b=some u) (heo:∃ u,h'.get? e=some u)
  (new:bZ P w (upd H x o') h' x o'):HOk P w (upd H x o') h':=fun b u q=>by
 have nown:∀ c y,H c=some (.own y)->c≠x:=fun c y r z=>by subst z;rw [r] at mu;exact mu
 have ntup:∀ c xs,H c=some (.tup xs)->c≠x:=fun c xs r z=>by subst z;rw [r] at mu;exact mu
 by_cases hb:b=x
 ·subst hb;rw [aD] at q;cases q;exact new
 ·rw [aN hb] at q
  by_cases hbe:b=e
  ·have q':H b=some (.own x):=by
    rcases he with z | z
    ·exact absurd (hbe.trans z) hb
    ·rw [hbe];exact z
   rw [q] at q';cases q'
   obtain ⟨v,hv⟩:=heo
   exact ⟨v,by rw [hbe];exact hv⟩
  ·refine (ok b u q).stay (fun c v hc r=>k c v ?_ r) (fun c r=>by rw [aN (nown c b r)];exact r) fun c xs r=>by rw [aN (ntup c xs r)];exact r
   rcases hc with rfl | hc
   ·exact hbe
   ·rintro rfl
    rcases he with z | z
    ·exact nown c b hc z
    ·rw [hc] at z;cases z;exact hb rfl
end
structure Un (fs ex:List Addr) (H H':Hp) (h h':Heap):Prop where
 keep:∀ b o,h.get? b=some o->H b=none->b∉fs->b∉ex->h'.get? b=some o
 slot:∀ b o,h.get? b=some o->H b=none->b∈fs->b∉ex->∃ sl,h'.get? b=some { o with slots:=sl }
 free:∀ b o,h.get? b=some o->H b=none->b∉ex->H' b=none
 there:∀ b o,h.get? b=some o->b∉ex->∃ o',h'.get? b=some o'
 tups:∀ b xs,H b=some (.tup xs)->H' b=some (.tup xs)
 frzs:∀ b o u,H b=some (.frz o u)->H' b=some (.frz o u)
 tbls:∀ b ps,H b=some (.tbl ps)->∃ more,H' b=some (.tbl (ps ++ more))
section
variable {fs fs' ex ex':List Addr} {H H1 H2:Hp} {h h1 h2 h':Heap} {a x e:Addr} {o:HO}
theorem Un.any (u:Un fs ex H H1 h h1) {b:Addr} {ob:Obj} (q:h.get? b=some ob) (n:H b=none) (hx:b∉ex):∃ sl,h1.get? b=some { ob with slots:=sl }:=by
 by_cases hb:b∈fs
 ·exact u.slot b ob q n hb hx
 ·exact ⟨ob.slots,u.keep b ob q n hb hx⟩
theorem Un.trans (a:Un fs ex H H1 h h1) (b:Un fs ex H1 H2 h1 h2):Un fs ex H H2 h h2 where
 keep:=fun c ob q n hc hx=>b.keep c ob (a.keep c ob q n hc hx) (a.free c ob q n hx) hc hx
 slot:=fun c ob q n hc hx=>by
  obtain ⟨sl,e1⟩:=a.slot c ob q n hc hx
  obtain ⟨sl',e2⟩:=b.slot c _ e1 (a.free c ob q n hx) hc hx
  exact ⟨sl',e2⟩
 free:=fun c ob q n hx=>by
  obtain ⟨o',e1⟩:=a.there c ob q hx
  exact b.free c o' e1 (a.free c ob q n hx) hx
 there:=fun c ob q hx=>by
  obtain ⟨o',e1⟩:=a.there c ob q hx
  exact b.there c o' e1 hx
 tups:=fun c xs q=>b.tups c xs (a.tups c xs q)
 frzs:=fun c ob xs q=>b.frzs c ob xs (a.frzs c ob xs q)
 tbls:=fun c ps q=>by
  obtain ⟨m1,e1⟩:=a.tbls c ps q
  obtain ⟨m2,e2⟩:=b.tbls c _ e1
  exact ⟨m1 ++ m2,by rw [e2,Array.append_assoc]⟩
theorem Un.kept (k:∀ b u,h.get? b=some u->h'.get? b=some u):Un fs ex H H h h' :=
 ⟨fun b ob q _ _ _=>k b ob q,fun b ob q _ _ _=>⟨ob.slots,k b ob q⟩,fun _ _ _ n _=>n,fun b ob q _=>⟨ob,k b ob q⟩,fun _ _ q=>q,fun _ _ _ q=>q,fun _ ps q=>⟨#[],by rw [q];simp⟩⟩
theorem Un.refl:Un fs ex H H h h:=Un.kept fun _ _ q=>q
theorem Un.laid (k:∀ b u,h.get? b=some u->h'.get? b=some u) (hp:h.objs.size<=a) (hn:H a=none):Un fs ex H (upd H a o) h h' where
 keep:=fun b u q _ _ _=>k b u q
 slot:=fun b u q _ _ _=>⟨u.slots,k b u q⟩
 free:=fun b u q n _=>by rw [aN (Nat.ne_of_lt (Nat.lt_of_lt_of_le (Heap.lt_size q) hp))];exact n
 there:=fun b u q _=>⟨u,k b u q⟩
 tups:=fun b xs q=>by rw [aN (bF q hn)];exact q
 frzs:=fun b u xs q=>by rw [aN (bF q hn)];exact q
 tbls:=fun b ps q=>⟨#[],by rw [aN (bF q hn),q];simp⟩
theorem Un.write (mu:Mut (H x)) (he:e=x∨H e=some (.own x)) (k:∀ b u,b≠e->h.get? b=some u->h'.get? b=some u) (heo:∃ u,h'.get? e=some u):Un fs ex H (upd H x o) h h':=by
 have hx:∀ b,H b=none->b≠x:=fun b n z=>by subst z;rw [n] at mu;exact mu
 have hb:∀ b,H b=none->b≠e:=fun b n z=>by
  subst z
  rcases he with r | r
  ·exact hx b n r
  ·rw [n] at r;cases r
 have hm:∀ b u,H b=some u->¬ Mut (some u)->b≠x:=fun b u q nm z=>by subst z;rw [q] at mu;exact nm mu
 refine ⟨fun b u q n _ _=>k b u (hb b n) q,fun b u q n _ _=>⟨u.slots,k b u (hb b n) q⟩,fun b u q n _=>by rw [aN (hx b n)];exact n,fun b u q _=>?_,
  fun b xs q=>by rw [aN (hm b _ q fun z=>z)];exact q,fun b u xs q=>by rw [aN (hm b _ q fun z=>z)];exact q,fun b ps q=>⟨#[],by rw [aN (hm b _ q fun z=>z),q];simp⟩⟩
 by_cases hbe:b=e
 ·subst hbe;exact heo
 ·exact ⟨u,k b u hbe q⟩
theorem Un.mono (u:Un fs ex H H1 h h1) (hs:∀ b∈fs,b∈fs') (hx:∀ b∈ex,b∈ex'):Un fs' ex' H H1 h h1 :=
 ⟨fun b ob q n hb he=>u.keep b ob q n (fun z=>hb (hs b z)) fun z=>he (hx b z),fun _ _ q n _ he=>u.any q n fun z=>he (hx _ z),fun b ob q n he=>u.free b ob q n fun z=>he (hx b z),fun b ob q he=>u.there b ob q fun z=>he (hx b z),u.tups,u.frzs,u.tbls⟩
end
def trk (h:Heap) (H:Hp):List Addr:=(List.range h.objs.size).filter fun a=>(H a).isSome
def Ba (h:Heap) (H:Hp):Heap:=PySem.W.hideAll h (trk h H)
theorem Na (h:Heap) (H:Hp):(Ba h H).objs.size=h.objs.size:=PySem.W.hideAll_size _ _
theorem Rj {b:Addr} {o:Obj} (e:h.get? b=some o) (n:H b=none):(Ba h H).get? b=some o :=
 PySem.W.hideAll_get _ e fun hm=>by
  have q:(H b).isSome=true:=(List.mem_filter.mp hm).2
  rw [n] at q;simp at q
theorem Tz {b:Addr} {o:Obj} (e:(Ba h H).get? b=some o):h.get? b=some o/\H b=none:=by
 have e':h.get? b=some o:=PySem.W.of_hideAll (trk h H) e
 refine ⟨e',?_⟩
 cases q:H b with
 | none=>rfl
 | some x =>
  have hm:b∈trk h H:=List.mem_filter.mpr ⟨List.mem_range.mpr (Heap.lt_size e'),by simp [q]⟩
  have z:(Ba h H).get? b=none:=PySem.W.hideAll_none (trk h H) hm
  rw [z] at e;cases e
def Vd (g h:Heap) (L:Addr):List (Addr×Obj):=(List.range h.objs.size).filterMap fun a=>if a=L∨(g.get? a).isSome=true then none else (h.get? a).map fun o=>(a,o)
def kS (g h:Heap) (L d:Addr):List (Addr×Obj):=(Vd g h L).filter fun p=>decide (p.1≠d)
structure Mod (K:PySem.W.Frag) (mg:Str->Option Value) (base:Heap):Prop where
 kin:K.In base
 glob:base.Ns mainGlobals mg
 blt:∃ mb,base.Ns builtinsNs mb/\∀ x:Str,x ≠ "__name__" -> mb x=bootBuiltins x
 nolimit:base.NoLimit
structure Cx where
 prog:Program
 w:World
 K:PySem.W.Frag
 mg:Str->Option Value
 base:Heap
 A:Around
 N:List Str
 s₀:Shared
 H₀:Hp
 env:Env
 outer:List Env
 stack:List Env
 ex:List Addr
 fn:Str->Bool
 calm:Bool
 pn:List (Addr×Obj)
 xe:Value->Shared->Prop
def frs (l:List Env):List Addr:=l.filterMap (·.frame)
abbrev Cx.fs (X:Cx):List Addr:=frs X.outer
def Vis (sc:Scope) (x:Str):Prop:=sc.names.lookup x=some .local∨sc.names.lookup x=some .cell∨sc.names.lookup x=some .free
def Loc (sc:Scope) (x:Str):Prop:=sc.names.lookup x=some .local∨sc.names.lookup x=some .cell
def Look (env:Env) (h:Heap) (m:Str->Option Value) (x:Str) (u:Value):Prop :=
 (env.kindOf x=some .local/\m x=some u)∨((env.kindOf x=some .cell∨env.kindOf x=some .free)/\∃ c,env.cells.lookup x=some c/\h.IsCell c (some u))
structure Cx.Ok (X:Cx):Prop where
 mod:Mod X.K X.mg X.base
 kind:X.env.scope.kind=.function
 glob:X.env.globals=mainGlobals
 blt:X.env.builtins=builtinsNs
 above:X.s₀.heap.objs.size<=X.env.locals
 inj:∀ x y c,X.env.cells.lookup x=some c->X.env.cells.lookup y=some c->x=y
 has:∀ x,(X.env.kindOf x=some .cell∨X.env.kindOf x=some .free)->∃ c,X.env.cells.lookup x=some c
 cab:∀ x c,X.fn x=true->X.env.cells.lookup x=some c->X.s₀.heap.objs.size<=c
 hd:X.calm=true->X.A.handled=none
 frames:X.A.frames=some X.stack
 stk:X.stack=X.outer∨(X.stack=X.env :: X.outer/\X.env.frame=some X.env.locals)
 exf:∀ b∈X.ex,b≠X.env.locals/\∀ x c,X.env.cells.lookup x=some c->c≠b
 bs:∀ b o,X.base.get? b=some o->X.s₀.heap.get? b=some o/\X.H₀ b=none
 bsz:X.base.objs.size<=X.s₀.heap.objs.size
 noex:∀ b o,X.base.get? b=some o->b∉X.ex
 exfs:∀ b∈X.ex,b∉X.fs
 funs:X.s₀.heap.FunFrames X.base X.outer
 frf:∀ b∈X.fs,X.H₀ b=none
structure Inv (X:Cx) (pins:List (Addr×Obj)) (σ:List (Option V)) (H:Hp) (s:Shared):Prop where
 ok:X.Ok
 os:s.os=X.s₀.os
 bare:AllBare s.gens
 base:Un X.fs X.ex X.H₀ H X.s₀.heap s.heap
 loc:∃ m,s.heap.Ns X.env.locals m/\∀ (i:Nat) (x:Str) (v:V),X.N[i]?=some x->σ[i]?=some (some v)->Vis X.env.scope x->∃ u,aZ v u/\Look X.env s.heap m x u
 cell:∀ x c,X.env.cells.lookup x=some c->∃ v,s.heap.IsCell c v
 free:H X.env.locals=none
 freeC:∀ x c,X.env.cells.lookup x=some c->H c=none
 pin:∀ p∈X.pn ++ pins,s.heap.get? p.1=some p.2/\H p.1=none/\p.1≠X.env.locals/\p.1∉X.fs/\∀ v,p.2.data≠.cell v
 hok:HOk X.prog X.w H s.heap
 len:σ.length=X.N.length
section
variable {X:Cx} {pins:List (Addr×Obj)} {σ:List (Option V)} {H H':Hp} {s:Shared} {h':Heap}
theorem Cx.Ok.nofr (ok:X.Ok) {b:Addr} {o:Obj} (e:X.base.get? b=some o):b∉X.fs:=fun hb=>by
 have:=(ok.funs.mem hb).1
 rw [e] at this;cases this
theorem Inv.bs (I:Inv X pins σ H s):∀ b o,X.base.get? b=some o->s.heap.get? b=some o/\H b=none:=fun b o e =>
 ⟨I.base.keep b o (I.ok.bs b o e).1 (I.ok.bs b o e).2 (I.ok.nofr e) (I.ok.noex b o e),I.base.free b o (I.ok.bs b o e).1 (I.ok.bs b o e).2 (I.ok.noex b o e)⟩
theorem Inv.bk (I:Inv X pins σ H s):∀ b o,X.base.get? b=some o->s.heap.get? b=some o:=fun b o e=>(I.bs b o e).1
theorem Inv.mod (I:Inv X pins σ H s):Mod X.K X.mg X.base:=I.ok.mod
theorem Inv.kIn (I:Inv X pins σ H s):X.K.In s.heap:=I.ok.mod.kin.keeps I.bk
theorem Inv.nolimit (I:Inv X pins σ H s):s.heap.NoLimit:=I.ok.mod.nolimit.keeps I.bk
theorem Inv.fr (I:Inv X pins σ H s):∃ m,Fr X.base X.env.locals s.heap m :=
 let ⟨m,hn,_⟩:=I.loc
 ⟨m,hn,I.bk,Nat.le_trans I.ok.bsz I.ok.above⟩
theorem Inv.lt (I:Inv X pins σ H s):X.env.locals < s.heap.objs.size:=let ⟨_,hn,_⟩:=I.loc;hn.lt
theorem Inv.sz (I:Inv X pins σ H s):X.s₀.heap.objs.size<=s.heap.objs.size:=Nat.le_trans I.ok.above (Nat.le_of_lt I.lt)
theorem Inv.nofs (I:Inv X pins σ H s) (h:s.heap.objs.size<=a):a∉X.fs:=fun hb=>by
 obtain ⟨_,o,ho,_⟩:=I.ok.funs.mem hb
 exact absurd (Nat.lt_of_lt_of_le (Heap.lt_size ho) (Nat.le_trans I.sz h)) (Nat.lt_irrefl _)
theorem Inv.cne (I:Inv X pins σ H s):∀ x c,X.env.cells.lookup x=some c->c≠X.env.locals:=fun x c e z=>by
 obtain ⟨v,o,ho,hd⟩:=I.cell x c e
 obtain ⟨m,⟨o',es,ep,ho',hd',_⟩,_⟩:=I.loc
 rw [z,ho'] at ho;cases ho;rw [hd'] at hd;cases hd
theorem Inv.funs (I:Inv X pins σ H s):s.heap.FunFrames X.base X.outer:=by
 have all:∀ (l:List Env),(∀ b∈frs l,b∈X.fs)->X.s₀.heap.FunFrames X.base l->s.heap.FunFrames X.base l:=by
  intro l
  induction l with
  | nil=>intro _ _;trivial
  | cons env r ih =>
   intro hs hl
   obtain ⟨hk,⟨L,o,hf,hn,ho,hd⟩,hr⟩:=hl
   have hL:L∈X.fs:=hs L (by unfold frs;rw [List.filterMap_cons,hf];exact List.mem_cons_self)
   obtain ⟨sl,e⟩:=I.base.slot L o ho (I.ok.frf L hL) hL fun z=>I.ok.exfs L z hL
   exact ⟨hk,⟨L,_,hf,hn,e,hd⟩,ih (fun b hb=>hs b (by unfold frs;rw [List.filterMap_cons,hf];exact List.mem_cons_of_mem _ hb)) hr⟩
 exact all X.outer (fun _ hb=>hb) I.ok.funs
theorem Inv.stack (I:Inv X pins σ H s):s.heap.FunFrames X.base X.stack:=by
 rcases I.ok.stk with e | ⟨e,hf⟩
 ·rw [e];exact I.funs
 ·rw [e]
  obtain ⟨m,hn,_⟩:=I.loc
  refine .cons (by rw [I.ok.kind];decide) hf hn ?_ I.funs
  exact Heap.get?_none_of_le (Nat.le_trans I.ok.bsz I.ok.above)
theorem Inv.stkSub (I:Inv X pins σ H s):∀ b∈frs X.stack,b∈X.env.locals :: X.fs:=fun b hb=>by
 rcases I.ok.stk with e | ⟨e,hf⟩
 ·rw [e] at hb;exact List.mem_cons_of_mem _ hb
 ·rw [e] at hb
  unfold frs at hb
  rw [List.filterMap_cons,hf] at hb
  exact hb
theorem Inv.stkFree (I:Inv X pins σ H s):∀ b∈frs X.stack,H b=none:=fun b hb=>by
 rcases List.mem_cons.mp (I.stkSub b hb) with e | hb
 ·rw [e];exact I.free
 ·obtain ⟨_,o,ho,_⟩:=I.ok.funs.mem hb
  exact I.base.free b o ho (I.ok.frf b hb) fun z=>I.ok.exfs b z hb
theorem Inv.step {g':Array GenState} {d':Drawn} {ch:List Addr} (I:Inv X pins σ H s)
  (hch:∀ b∈ch,(b∈X.ex∨X.s₀.heap.objs.size<=b)/\b≠X.env.locals/\(∀ x c,X.env.cells.lookup x=some c->c≠b)/\∀ p∈X.pn ++ pins,p.1≠b)
  (keep:∀ b o,b≠X.env.locals->b∉X.fs->b∉ch->s.heap.get? b=some o->H b=none->h'.get? b=some o)
  (slot:∀ b o,b≠X.env.locals->b∈X.fs->b∉ch->s.heap.get? b=some o->H b=none->∃ sl,h'.get? b=some { o with slots:=sl }) (free:∀ b o,b∉ch->s.heap.get? b=some o->H b=none->H' b=none)
  (there:∀ b o,b∉ch->s.heap.get? b=some o->∃ o',h'.get? b=some o')
  (tups:∀ b xs,H b=some (.tup xs)->H' b=some (.tup xs)) (frzs:∀ b o u,H b=some (.frz o u)->H' b=some (.frz o u)) (tbls:∀ b ps,H b=some (.tbl ps)->∃ more,H' b=some (.tbl (ps ++ more)))
  (ns:∀ m,s.heap.Ns X.env.locals m->h'.Ns X.env.locals m) (hok:HOk X.prog X.w H' h') (hg:AllBare g') :
  Inv X pins σ H' { s with heap:=h',gens:=g',drawn:=d',toks:=t' }:=by
 have neL:∀ b o,X.s₀.heap.get? b=some o->b≠X.env.locals:=fun b o e=>Nat.ne_of_lt (Nat.lt_of_lt_of_le (Heap.lt_size e) I.ok.above)
 have neC:∀ b o,X.s₀.heap.get? b=some o->b∉X.ex->b∉ch:=fun b o e hx hb=>by
  rcases (hch b hb).1 with z | z
  ·exact hx z
  ·exact absurd (Nat.lt_of_lt_of_le (Heap.lt_size e) z) (Nat.lt_irrefl _)
 have cellK:∀ x c,X.env.cells.lookup x=some c->∀ v,s.heap.IsCell c v->h'.IsCell c v:=fun x c e v ⟨o,ho,hd⟩=>by
  have nch:c∉ch:=fun z=>(hch c z).2.2.1 x c e rfl
  by_cases hc:c∈X.fs
  ·obtain ⟨sl,q⟩:=slot c o (I.cne x c e) hc nch ho (I.freeC x c e)
   exact ⟨_,q,hd⟩
  ·exact ⟨o,keep c o (I.cne x c e) hc nch ho (I.freeC x c e),hd⟩
 refine ⟨I.ok,I.os,hg,⟨fun b o e n hb hx=>?_,fun b o e n hb hx=>?_,fun b o e n hx=>?_,fun b o e hx=>?_,fun b xs e=>tups b xs (I.base.tups b xs e),fun b o xs e=>frzs b o xs (I.base.frzs b o xs e),fun b ps e=>?_⟩,?_,fun x c e=>?_,?_,fun x c e=>?_,fun p hp=>?_,hok,I.len⟩
 ·exact keep b o (neL b o e) hb (neC b o e hx) (I.base.keep b o e n hb hx) (I.base.free b o e n hx)
 ·obtain ⟨sl,e1⟩:=I.base.slot b o e n hb hx
  obtain ⟨sl',e2⟩:=slot b _ (neL b o e) hb (neC b o e hx) e1 (I.base.free b o e n hx)
  exact ⟨sl',e2⟩
 ·obtain ⟨o',e1⟩:=I.base.there b o e hx
  exact free b o' (neC b o e hx) e1 (I.base.free b o e n hx)
 ·obtain ⟨o',e1⟩:=I.base.there b o e hx
  exact there b o' (neC b o e hx) e1
 ·obtain ⟨m1,e1⟩:=I.base.tbls b ps e
  obtain ⟨m2,e2⟩:=tbls b _ e1
  exact ⟨m1 ++ m2,by rw [e2,Array.append_assoc]⟩
 ·obtain ⟨m,hn,hl⟩:=I.loc
  refine ⟨m,ns m hn,fun i x v e1 e2 e3=>?_⟩
  obtain ⟨u,r,l⟩:=hl i x v e1 e2 e3
  refine ⟨u,r,?_⟩
  rcases l with l | ⟨k,c,e,z⟩
  ·exact .inl l
  ·exact .inr ⟨k,c,e,cellK x c e _ z⟩
 ·obtain ⟨v,z⟩:=I.cell x c e
  exact ⟨v,cellK x c e v z⟩
 ·obtain ⟨m,⟨o,_,_,ho,_⟩,_⟩:=I.loc
  exact free _ o (fun z=>(hch _ z).2.1 rfl) ho I.free
 ·obtain ⟨v,o,ho,hd⟩:=I.cell x c e
  exact free c o (fun z=>(hch c z).2.2.1 x c e rfl) ho (I.freeC x c e)
 ·obtain ⟨e,n,ne,nf,d⟩:=I.pin p hp
  have nch:p.1∉ch:=fun z=>(hch p.1 z).2.2.2 p hp rfl
  exact ⟨keep p.1 p.2 ne nf nch e n,free p.1 p.2 nch e n,ne,nf,d⟩
theorem Inv.un (I:Inv X pins σ H s) (u:Un X.fs [] H H' s.heap h') (hok:HOk X.prog X.w H' h'):Inv X pins σ H' { s with heap:=h',toks:=t' }:=by
 obtain ⟨m,⟨o,es,ep,ho,r⟩,_⟩:=id I.loc
 obtain ⟨sl,hL⟩:=u.any ho I.free (by simp)
 exact I.step (g':=s.gens) (d':=s.drawn) (ch:=[]) (fun _ z=>nomatch z) (fun b o _ hb _ e n=>u.keep b o e n hb (by simp)) (fun b o _ hb _ e n=>u.slot b o e n hb (by simp)) (fun b o _ e n=>u.free b o e n (by simp)) (fun b o _ e=>u.there b o e (by simp)) u.tups u.frzs u.tbls (fun m' hm=>by
  obtain ⟨o',es',ep',ho',r'⟩:=hm
  rw [ho] at ho';cases ho'
  exact ⟨_,es',ep',hL,r'⟩) hok I.bare
theorem Inv.call {g':Array GenState} {d':Drawn} {ch:List Addr} (I:Inv X pins σ H s) (u:Un (frs X.stack) ch H H' s.heap h') (hok:HOk X.prog X.w H' h') (hg:AllBare g')
  (hch:∀ b∈ch,(b∈X.ex∨X.s₀.heap.objs.size<=b)/\b≠X.env.locals/\(∀ x c,X.env.cells.lookup x=some c->c≠b)/\∀ p∈X.pn ++ pins,p.1≠b) :
  Inv X pins σ H' { s with heap:=h',gens:=g',drawn:=d',toks:=t' }:=by
 obtain ⟨m,⟨o,es,ep,ho,r⟩,_⟩:=id I.loc
 obtain ⟨sl,hL⟩:=u.any ho I.free fun z=>(hch _ z).2.1 rfl
 exact I.step (ch:=ch) hch (fun b o hL hb hc e n=>u.keep b o e n (fun z=>(List.mem_cons.mp (I.stkSub b z)).elim hL hb) hc) (fun b o _ _ hc e n=>u.any e n hc) (fun b o hc e n=>u.free b o e n hc) (fun b o hc e=>u.there b o e hc) u.tups u.frzs u.tbls (fun m' hm=>by
  obtain ⟨o',es',ep',ho',r'⟩:=hm
  rw [ho] at ho';cases ho'
  exact ⟨_,es',ep',hL,r'⟩) hok hg
theorem Inv.turned {it:Addr} (I:Inv X pins σ H s) (k:∀ b o,b≠it->s.heap.get? b=some o->h'.get? b=some o) (hn:H it=none) (hL:it≠X.env.locals)
  (h1:it∈X.ex∨X.s₀.heap.objs.size<=it) (h2:∀ x c,X.env.cells.lookup x=some c->c≠it) (h3:∀ p∈X.pn ++ pins,p.1≠it):Inv X pins σ H { s with heap:=h',toks:=t' }:=by
 have nit:∀ b u,H b=some u->b≠it:=fun b u e z=>by rw [z,hn] at e;cases e
 refine I.step (g':=s.gens) (d':=s.drawn) (ch:=[it]) (fun b hb=>?_) (fun b o _ _ hc e _=>k b o (fun z=>hc (by simp [z])) e) (fun b o _ _ hc e _=>⟨o.slots,k b o (fun z=>hc (by simp [z])) e⟩) (fun _ _ _ _ n=>n)
  (fun b o hc e=>⟨o,k b o (fun z=>hc (by simp [z])) e⟩) (fun _ _ e=>e) (fun _ _ _ e=>e) (fun b ps e=>⟨#[],by rw [e];simp⟩) (fun m hm=>?_) (fun b u e=>?_) I.bare
 ·have e:b=it:=by simpa using hb
  subst e
  exact ⟨h1,hL,h2,h3⟩
 ·obtain ⟨o,es,ep,ho,r⟩:=hm
  exact ⟨o,es,ep,k _ o (Ne.symm hL) ho,r⟩
 ·refine (I.hok b u e).stay (fun c v hc q=>k c v ?_ q) (fun _ q=>q) fun _ _ q=>q
  rcases hc with z | z
  ·rw [z];exact nit b u e
  ·exact nit c _ z
theorem Inv.tok (I:Inv X pins σ H s) (t:Nat):Inv X pins σ H { s with toks:=t }:=I.un (h':=s.heap) (t':=t) Un.refl I.hok
theorem Inv.kept (I:Inv X pins σ H s) (k:∀ b u,s.heap.get? b=some u->h'.get? b=some u):Inv X pins σ H { s with heap:=h',toks:=t' }:=I.un (Un.kept k) (I.hok.kept k)
theorem Inv.laid (I:Inv X pins σ H s) (k:∀ b u,s.heap.get? b=some u->h'.get? b=some u) (hp:s.heap.objs.size<=a) (new:bZ X.prog X.w (upd H a o) h' a o) :
  Inv X pins σ (upd H a o) { s with heap:=h',toks:=t' }:=I.un (Un.laid k hp (I.hok.fresh hp)) (I.hok.laid k hp new)
theorem Inv.write {x e:Addr} (I:Inv X pins σ H s) (mu:Mut (H x)) (he:e=x∨H e=some (.own x)) (k:∀ b u,b≠e->s.heap.get? b=some u->h'.get? b=some u) (heo:∃ u,h'.get? e=some u)
  (new:bZ X.prog X.w (upd H x o) h' x o):Inv X pins σ (upd H x o) { s with heap:=h',toks:=t' }:=I.un (Un.write mu he k heo) (I.hok.write mu he k heo new)
theorem Inv.weak {σ':List (Option V)} (I:Inv X pins σ H s) (hl:σ'.length=σ.length) (w:∀ (i:Nat) v,σ'[i]?=some (some v)->σ[i]?=some (some v)):Inv X pins σ' H s :=
 ⟨I.ok,I.os,I.bare,I.base,let ⟨m,hn,hl'⟩:=I.loc;⟨m,hn,fun i x v e1 e2 e3=>hl' i x v e1 (w i v e2) e3⟩,I.cell,I.free,I.freeC,I.pin,I.hok,hl.trans I.len⟩
theorem Inv.pins_of {pins':List (Addr×Obj)} (I:Inv X pins σ H s) (h:∀ p∈pins',s.heap.get? p.1=some p.2/\H p.1=none/\p.1≠X.env.locals/\p.1∉X.fs/\∀ v,p.2.data≠.cell v):Inv X pins' σ H s :=
 ⟨I.ok,I.os,I.bare,I.base,I.loc,I.cell,I.free,I.freeC,fun p hp=>(List.mem_append.mp hp).elim (fun z=>I.pin p (List.mem_append_left _ z)) (h p),I.hok,I.len⟩
theorem wP (hN:N.Nodup) (a:N[i]?=some x) (b:N[j]?=some x):i=j:=by
 obtain ⟨h1,e1⟩:=List.getElem?_eq_some_iff.mp a
 obtain ⟨h2,e2⟩:=List.getElem?_eq_some_iff.mp b
 exact (List.getElem_inj hN).mp (e1.trans e2.symm)
theorem zR {Q:Unit->Shared->Prop} (I:Inv X pins σ H s) (hN:X.N.Nodup) (hi:X.N[i]?=some x) (hx:Loc X.env.scope x) (r:aZ v u)
  (h:∀ s',Inv X pins (σ.set i (some v)) H s'->(∃ a,Heap.SameBut a s.heap s'.heap/\(a=X.env.locals∨X.env.cells.lookup x=some a))->Q () s') (hf:X.fn x=true∨X.env.scope.names.lookup x=some .local:=by first | exact .inl rfl | exact .inr rfl | assumption):wpAny M A (storeName X.env x u) Q E s:=by
 obtain ⟨m,hn,hl⟩:=id I.loc
 have hcls:(X.env.scope.kind == .class || (X.env.scope.kind == .module && X.env.locals != X.env.globals))=false:=by rw [I.ok.kind];rfl
 have hiσ:i < σ.length:=by rw [I.len];exact (List.getElem?_eq_some_iff.mp hi).1
 have cne:=I.cne
 have tracked:∀ {a:Addr} {h':Heap},(∃ o,s.heap.get? a=some o/\H a=none)->Heap.SameBut a s.heap h'->HOk X.prog X.w H h':=fun {a h'} ha hs b ob e=>by
  obtain ⟨_,_,hfree⟩:=ha
  refine (I.hok b ob e).stay (fun c w' hc q=>(hs.2 c ?_).trans q) (fun _ q=>q) fun _ _ q=>q
  rintro rfl
  rcases hc with rfl | hc
  ·rw [hfree] at e;cases e
  ·rw [hfree] at hc;cases hc
 rcases hx with hk | hk
 ·refine wpAny_storeName_local hk hn (fun h' hn' hs=>?_) hcls
  obtain ⟨oL,_,_,hoL,_⟩:=id hn
  refine h _ ⟨I.ok,I.os,I.bare,⟨fun b o e n hb hx=>?_,fun b o e n hb hx=>?_,I.base.free,fun b o e hx=>?_,I.base.tups,I.base.frzs,I.base.tbls⟩,⟨_,hn',fun j y v' e1 e2 e3=>?_⟩,fun y c e=>?_,I.free,I.freeC,fun p hp=>?_,tracked ⟨oL,hoL,I.free⟩ hs,by simpa using I.len⟩ ⟨_,hs,.inl rfl⟩
  ·exact (hs.2 b (Nat.ne_of_lt (Nat.lt_of_lt_of_le (Heap.lt_size e) I.ok.above))).trans (I.base.keep b o e n hb hx)
  ·obtain ⟨sl,e1⟩:=I.base.slot b o e n hb hx
   exact ⟨sl,(hs.2 b (Nat.ne_of_lt (Nat.lt_of_lt_of_le (Heap.lt_size e) I.ok.above))).trans e1⟩
  ·obtain ⟨o',e1⟩:=I.base.there b o e hx
   exact ⟨o',(hs.2 b (Nat.ne_of_lt (Nat.lt_of_lt_of_le (Heap.lt_size e) I.ok.above))).trans e1⟩
  ·by_cases hj:j=i
   ·subst hj
    rw [hi] at e1;cases e1
    rw [List.getElem?_set_self hiσ] at e2
    cases e2
    exact ⟨u,r,.inl ⟨hk,by simp⟩⟩
   ·rw [List.getElem?_set_ne (Ne.symm hj)] at e2
    obtain ⟨u',r',q⟩:=hl j y v' e1 e2 e3
    refine ⟨u',r',?_⟩
    rcases q with ⟨k,e⟩ | ⟨k,c,e,z⟩
    ·refine .inl ⟨k,?_⟩
     have:y≠x:=fun e=>hj (wP hN e1 (e ▸ hi))
     simp [this,e]
    ·exact .inr ⟨k,c,e,z.sameBut hs (cne y c e)⟩
  ·obtain ⟨w',z⟩:=I.cell y c e
   exact ⟨w',z.sameBut hs (cne y c e)⟩
  ·obtain ⟨e,n,ne,nf,d⟩:=I.pin p hp
   exact ⟨(hs.2 p.1 ne).trans e,n,ne,nf,d⟩
 ·have hfn:X.fn x=true:=by
   rcases hf with z | z
   ·exact z
   ·rw [z] at hk;cases hk
  obtain ⟨c,hc⟩:=I.ok.has x (.inl hk)
  obtain ⟨w',z⟩:=I.cell x c hc
  refine wpAny_storeName_cell I.ok.kind hk hc z (fun h' hc' hs=>?_)
  obtain ⟨oc,hoc,hocd⟩:=id z
  refine h { s with heap:=h' } ⟨I.ok,I.os,I.bare,⟨fun b o e n hb hx=>?_,fun b o e n hb hx=>?_,I.base.free,fun b o e hx=>?_,I.base.tups,I.base.frzs,I.base.tbls⟩,⟨m,hn.sameBut hs (Ne.symm (cne x c hc)),fun j y v' e1 e2 e3=>?_⟩,fun y c' e=>?_,I.free,I.freeC,fun p hp=>?_,tracked ⟨oc,hoc,I.freeC x c hc⟩ hs,by simpa using I.len⟩ ⟨c,hs,.inr hc⟩
  ·exact (hs.2 b (Nat.ne_of_lt (Nat.lt_of_lt_of_le (Heap.lt_size e) (I.ok.cab x c hfn hc)))).trans (I.base.keep b o e n hb hx)
  ·obtain ⟨sl,e1⟩:=I.base.slot b o e n hb hx
   exact ⟨sl,(hs.2 b (Nat.ne_of_lt (Nat.lt_of_lt_of_le (Heap.lt_size e) (I.ok.cab x c hfn hc)))).trans e1⟩
  ·obtain ⟨o',e1⟩:=I.base.there b o e hx
   exact ⟨o',(hs.2 b (Nat.ne_of_lt (Nat.lt_of_lt_of_le (Heap.lt_size e) (I.ok.cab x c hfn hc)))).trans e1⟩
  ·by_cases hj:j=i
   ·subst hj
    rw [hi] at e1;cases e1
    rw [List.getElem?_set_self hiσ] at e2
    cases e2
    exact ⟨u,r,.inr ⟨.inl hk,c,hc,hc'⟩⟩
   ·rw [List.getElem?_set_ne (Ne.symm hj)] at e2
    obtain ⟨u',r',q⟩:=hl j y v' e1 e2 e3
    refine ⟨u',r',?_⟩
    rcases q with q | ⟨k,c',e,z'⟩
    ·exact .inl q
    ·refine .inr ⟨k,c',e,z'.sameBut hs ?_⟩
     rintro rfl
     exact hj (wP hN e1 (I.ok.inj _ _ _ e hc ▸ hi))
  ·by_cases hcc:c'=c
   ·subst hcc;exact ⟨_,hc'⟩
   ·obtain ⟨w2,z2⟩:=I.cell y c' e
    exact ⟨w2,z2.sameBut hs hcc⟩
  ·obtain ⟨e,n,ne,nf,d⟩:=I.pin p hp
   refine ⟨(hs.2 p.1 ?_).trans e,n,ne,nf,d⟩
   intro q
   rw [q,hoc] at e
   have q':oc=p.2:=Option.some.inj e
   exact d w' (by rw [← q'];exact hocd)
theorem mO {Q:Unit->Shared->Prop} (I:Inv X pins σ H s) (hN:X.N.Nodup) (hi:X.N[i]?=some x) (hx:Loc X.env.scope x) (r:aZ v u)
  (h:∀ s',Inv X pins (σ.set i (some v)) H s'->Q () s') (hf:X.fn x=true∨X.env.scope.names.lookup x=some .local:=by first | exact .inl rfl | exact .inr rfl | assumption):wpAny M A (storeName X.env x u) Q E s :=
 zR I hN hi hx r (fun s' I' _=>h s' I') hf
theorem Inv.call' {s':Shared} {ch:List Addr} (I:Inv X pins σ H s) (ho:s'.os=s.os) (u:Un (frs X.stack) ch H H' s.heap s'.heap) (hok:HOk X.prog X.w H' s'.heap) (hg:AllBare s'.gens)
  (hch:∀ b∈ch,(b∈X.ex∨X.s₀.heap.objs.size<=b)/\b≠X.env.locals/\(∀ x c,X.env.cells.lookup x=some c->c≠b)/\∀ p∈X.pn ++ pins,p.1≠b):Inv X pins σ H' s':=by
 obtain ⟨h',g',d',t',o'⟩:=s'
 have e:o'=s.os:=ho
 subst e
 exact I.call (g':=g') (t':=t') (d':=d') u hok hg hch
end
abbrev XK:=Value->Option Addr->Hp->Prop
abbrev St:=List (Option V)
abbrev VK:=V->Hp->Prop
abbrev TE:=St->Hp->VK->Prop
abbrev TT:=St->Hp->(Bool->Hp->Prop)->Prop
abbrev TA:=St->Hp->(List V->Hp->Prop)->Prop
structure gQ where
 nx:St->Hp->Prop
 rt:VK
 bk:St->Hp->Prop:=fun _ _=>False
 ct:St->Hp->Prop:=fun _ _=>False
abbrev TS:=gQ->St->Hp->Prop
def EP (X:Cx) (pins:List (Addr×Obj)) (σ:St) (Q:VK) (u:Value) (s':Shared):Prop:=∃ v H',Inv X pins σ H' s'/\aZ v u/\Q v H'
def TP (X:Cx) (pins:List (Addr×Obj)) (σ:St) (Q:Bool->Hp->Prop) (b:Bool) (s':Shared):Prop:=∃ H',Inv X pins σ H' s'/\Q b H'
def AP (X:Cx) (pins:List (Addr×Obj)) (σ:St) (Q:List V->Hp->Prop) (us:List Value) (s':Shared):Prop:=∃ vs H',Inv X pins σ H' s'/\aY vs us/\Q vs H'
def SP (X:Cx) (pins:List (Addr×Obj)) (D:gQ) (f:Flow) (s':Shared):Prop :=
 match f with
 | .next=>∃ σ' H',Inv X pins σ' H' s'/\D.nx σ' H'
 | .brk=>∃ σ' H',Inv X pins σ' H' s'/\D.bk σ' H'
 | .cont=>∃ σ' H',Inv X pins σ' H' s'/\D.ct σ' H'
 | .ret u=>∃ v σ' H',Inv X pins σ' H' s'/\aZ v u/\D.rt v H'
def PE (X:Cx) (e:Expr) (t:TE):Prop :=
 ∀ (pins:List (Addr×Obj)) (s:Shared) (σ:St) (H:Hp) (Q:VK),Inv X pins σ H s->t σ H Q->wpAny (model X.prog X.w) X.A (eval e X.env) (EP X pins σ Q) X.xe s
def PT (X:Cx) (e:Expr) (t:TT):Prop :=
 ∀ (pins:List (Addr×Obj)) (s:Shared) (σ:St) (H:Hp) (Q:Bool->Hp->Prop),Inv X pins σ H s->t σ H Q->wpAny (model X.prog X.w) X.A (isTrue e X.env (eval e X.env)) (TP X pins σ Q) X.xe s
def PW (X:Cx) (e:Expr) (t:TT):Prop :=
 ∀ (whole:Sem Value) (pins:List (Addr×Obj)) (s:Shared) (σ:St) (H:Hp) (Q:Bool->Hp->Prop),Inv X pins σ H s->t σ H Q->wpAny (model X.prog X.w) X.A (isTrue e X.env whole) (TP X pins σ Q) X.xe s
theorem PW.pt {X:Cx} {t:TT} (h:PW X e t):PT X e t:=h _
def PA (X:Cx) (es:List Expr) (t:TA):Prop :=
 ∀ (pos:Pos) (pins:List (Addr×Obj)) (s:Shared) (σ:St) (H:Hp) (Q:List V->Hp->Prop),Inv X pins σ H s->t σ H Q->wpAny (model X.prog X.w) X.A (spliced (backTo pos (starEach es X.env))) (AP X pins σ Q) X.xe s
def PS (X:Cx) (st:Stmt) (t:TS):Prop :=
 ∀ (pins:List (Addr×Obj)) (s:Shared) (σ:St) (H:Hp) (D:gQ),Inv X pins σ H s->t D σ H->wpAny (model X.prog X.w) X.A (exec st X.env) (SP X pins D) X.xe s
def PSs (X:Cx) (st:List Stmt) (t:TS):Prop :=
 ∀ (pins:List (Addr×Obj)) (s:Shared) (σ:St) (H:Hp) (D:gQ),Inv X pins σ H s->t D σ H->wpAny (model X.prog X.w) X.A (execs st X.env) (SP X pins D) X.xe s
theorem thn {α:Type} {t:Sem α} {Q Q':α->Shared->Prop} (h:wpAny M A t Q E s) (hQ:∀ a s,Q a s->Q' a s):wpAny M A t Q' E s:=wpAny_mono h hQ fun _ _ x=>x
section
variable {X:Cx}
def exI (x:V) (k:Int->Prop):Prop:=match x with
 | .int i=>k i
 | x=>∃ i,x=.int i/\k i
def exB (x:V) (k:Bool->Prop):Prop:=match x with
 | .bl i=>k i
 | x=>∃ i,x=.bl i/\k i
def exR (x:V) (k:Addr->Prop):Prop:=match x with
 | .ref i=>k i
 | x=>∃ i,x=.ref i/\k i
theorem cC {i:Int} {k:Int->Prop}:exI (.int i) k=k i:=rfl
theorem cD {i:Bool} {k:Bool->Prop}:exB (.bl i) k=k i:=rfl
theorem cB {i:Addr} {k:Addr->Prop}:exR (.ref i) k=k i:=rfl
theorem cQ {x:V} {k:Int->Prop}:exI x k=∃ i,x=.int i/\k i:=by
 cases x <;> first | rfl | exact propext ⟨fun h=>⟨_,rfl,h⟩,fun ⟨_,e,h⟩=>by cases e;exact h⟩
theorem iD {x:V} {k:Bool->Prop}:exB x k=∃ i,x=.bl i/\k i:=by
 cases x <;> first | rfl | exact propext ⟨fun h=>⟨_,rfl,h⟩,fun ⟨_,e,h⟩=>by cases e;exact h⟩
theorem dY {x:V} {k:Addr->Prop}:exR x k=∃ i,x=.ref i/\k i:=by
 cases x <;> first | rfl | exact propext ⟨fun h=>⟨_,rfl,h⟩,fun ⟨_,e,h⟩=>by cases e;exact h⟩
theorem Ru {x:V} {k k':Int->Prop} (h:exI x k) (m:∀ i,k i->k' i):exI x k':=by
 rw [cQ] at h ⊢
 obtain ⟨i,e,h⟩:=h
 exact ⟨i,e,m i h⟩
def aB (i:Nat):TE:=fun σ H Q=>match σ[i]? with | some (some v)=>Q v H | _=>False
def tC (v:V):TE:=fun _ H Q=>Q v H
theorem pe_var (hN:X.N[i]?=some x) (hv:Vis X.env.scope x) (hd:(x == ("__debug__" : Str))=false:=by decide) (hcd:(x == ("__classdict__" : Str))=false:=by decide):PE X (.Name x pos) (aB i):=by
 intro pins s σ H Q I h
 have h:∃ v,σ[i]?=some (some v)/\Q v H:=by
  unfold aB at h
  split at h
  ·exact ⟨_,‹_›,h⟩
  ·exact h.elim
 obtain ⟨v,e,h⟩:=h
 obtain ⟨m,hn,hl⟩:=I.loc
 obtain ⟨u,r,l⟩:=hl i x v hN e hv
 have fin:EP X pins σ Q u s:=⟨v,H,I,r,h⟩
 rcases l with ⟨hk,hm⟩ | ⟨hk,c,hc,hcell⟩
 ·exact wpAny_Name (wpAny_loadName_local I.ok.kind hk hn hm fin) hd
 ·rcases hk with hk | hk
  ·exact wpAny_Name (wpAny_loadName_cell I.ok.kind hk hc hcell fin) hd
  ·exact wpAny_Name (wpAny_loadName_free I.ok.kind hk hc hcell fin hcd) hd
theorem aK {i j pos}:PE X (.Constant (.int i) j pos) (tC (.int i)):=fun _ _ _ H _ I h=>wpAny_Constant_int ⟨.int i,H,I.tok _,⟨_,rfl⟩,h⟩
theorem tF {b j pos}:PE X (.Constant (.bool b) j pos) (tC (.bl b)):=fun _ _ _ H _ I h=>Constant_bool ⟨.bl b,H,I,rfl,h⟩
theorem Ph {j pos}:PE X (.Constant .none j pos) (tC .non):=fun _ _ _ H _ I h=>Constant_none ⟨.non,H,I,rfl,h⟩
theorem pe_str {x j pos}:PE X (.Constant (.str x) j pos) (tC (.str x)):=fun _ _ _ H _ I h=>Calls.Constant_str ⟨.str x,H,I.tok _,⟨_,rfl⟩,h⟩
def Gl (X:Cx) (x:Str):Prop:=X.env.kindOf x=some .globalImplicit
theorem nO (I:Inv X pins σ H s) (hg:Gl X x) (hm:X.mg x=some u) (h:Q u s)
  (hd:(x == ("__debug__" : Str))=false:=by decide):wpAny (model X.prog X.w) X.A (eval (.Name x pos) X.env) Q E s :=
 Calls.Name_function_global I.ok.kind hg (Calls.loadGlobal_global (by rw [I.ok.glob];exact I.mod.glob.keeps I.bk) hm h) hd
theorem jE (I:Inv X pins σ H s) (hg:Gl X x) (hm:X.mg x=none) (hv:bootBuiltins x=some u) (h:Q u s)
  (hn:x ≠ "__name__":=by decide) (hd:(x == ("__debug__" : Str))=false:=by decide):wpAny (model X.prog X.w) X.A (eval (.Name x pos) X.env) Q E s:=by
 obtain ⟨mb,h1,h2⟩:=I.mod.blt
 exact Calls.Name_function_global I.ok.kind hg (Calls.loadGlobal_builtin (by rw [I.ok.glob];exact I.mod.glob.keeps I.bk) hm (by rw [I.ok.blt];exact h1.keeps I.bk) ((h2 x hn).trans hv) h) hd
theorem iS (hg:Gl X x) (hm:X.mg x=some u) (r:aZ v u) (hd:(x == ("__debug__" : Str))=false:=by decide):PE X (.Name x pos) (tC v) :=
 fun _ _ _ H _ I h=>nO I hg hm ⟨v,H,I,r,h⟩ hd
theorem nN (hg:Gl X x) (hm:X.mg x=none) (hv:bootBuiltins x=some u) (r:aZ v u) (hn:x ≠ "__name__":=by decide) (hd:(x == ("__debug__" : Str))=false:=by decide):PE X (.Name x pos) (tC v) :=
 fun _ _ _ H _ I h=>jE I hg hm hv ⟨v,H,I,r,h⟩ hn hd
variable {a b:Expr} {ta tb:TE} {pos:Pos}
def PC (X:Cx) (op:CmpOp) (a b:Expr) (t:TE):Prop :=
 ∀ (pins:List (Addr×Obj)) (s:Shared) (σ:St) (H:Hp) (Q:VK),Inv X pins σ H s->t σ H Q ->
  wpAny (model X.prog X.w) X.A (eval a X.env) (fun v s₁=>wpAny (model X.prog X.w) X.A (eval b X.env) (fun u s₂=>wpAny (model X.prog X.w) X.A (compareOp op v u) (EP X pins σ Q) X.xe s₂) X.xe s₁) X.xe s
theorem Ra (b:Expr) (h:op≠.In) (h2:op≠.NotIn):behindInMarks op b=false:=by
 have e1:(op == CmpOp.In)=false:=by cases op <;> first | rfl | exact absurd rfl h
 have e2:(op == CmpOp.NotIn)=false:=by cases op <;> first | rfl | exact absurd rfl h2
 cases b <;> simp [behindInMarks,e1,e2]
def tB (t:TE):TT:=fun σ H Q=>t σ H fun x H1=>∃ c,x=.bl c/\Q c H1
theorem pt_cmp {t:TE} (h:PC X op a b t) (h1:behindInMarks op b=false:=by first | exact Ra _ (by decide) (by decide) | rfl):PT X (.Compare a [op] [b] pos) (tB t):=by
 intro pins s σ H Q I hw
 refine wpAny_isTrue_Compare1 (thn (h pins s σ H _ I hw) fun v s1 h1=>thn h1 fun u s2 h2=>thn h2 fun c s3 ⟨x,H1,I1,r1,q1⟩=>?_) h1
 obtain ⟨d,rfl,q⟩:=q1
 cases r1
 exact wpAny_truthy_bool ⟨H1,I1,q⟩
theorem kU {t:TE} (h:PE X e t) (he:∀ whole,isTrue e X.env whole=(do let v ← whole;standAt e.pos;holding [v] (truthy v)):=by intro _;rfl):PT X e (tB t):=by
 intro pins s σ H Q I hw
 refine isTrue_plain (thn (h pins s σ H _ I hw) fun v s1 ⟨x,H1,I1,r1,q1⟩=>?_) (he _)
 obtain ⟨d,rfl,q⟩:=q1
 cases r1
 exact wpAny_truthy_bool ⟨H1,I1,q⟩
variable {tA tB':TT} {kS:List Expr}
def La (t u:TT):TT:=fun σ H Q=>t σ H fun c H1=>if c=true then u σ H1 Q else Q false H1
def tOr (t u:TT):TT:=fun σ H Q=>t σ H fun c H1=>if c=true then Q true H1 else u σ H1 Q
def vJ (t:TT):TT:=fun σ H Q=>t σ H fun c H1=>Q (!c) H1
theorem To (ha:PT X a tA):PW X (.BoolOp .And [a] pos) tA:=by
 intro wh pins s σ H Q I h
 refine isTrue_and (thn (ha pins s σ H Q I h) fun c s1 e=>?_)
 cases c with
 | true=>exact isTrue_and_nil e
 | false=>exact e
theorem pI (ha:PT X a tA):PW X (.BoolOp .Or [a] pos) tA:=by
 intro wh pins s σ H Q I h
 refine isTrue_or (thn (ha pins s σ H Q I h) fun c s1 e=>?_)
 cases c with
 | false=>exact isTrue_or_nil e
 | true=>exact e
theorem pw_and (ha:PT X a tA) (hb:PW X (.BoolOp .And (b :: kS) pos) tB'):PW X (.BoolOp .And (a :: b :: kS) pos) (La tA tB'):=by
 intro wh pins s σ H Q I h
 refine isTrue_and (thn (ha pins s σ H _ I h) fun c s1 ⟨H1,I1,q1⟩=>?_)
 cases c with
 | true=>exact hb wh pins s1 σ H1 Q I1 q1
 | false=>exact ⟨H1,I1,q1⟩
theorem qE (ha:PT X a tA) (hb:PW X (.BoolOp .Or (b :: kS) pos) tB'):PW X (.BoolOp .Or (a :: b :: kS) pos) (tOr tA tB'):=by
 intro wh pins s σ H Q I h
 refine isTrue_or (thn (ha pins s σ H _ I h) fun c s1 ⟨H1,I1,q1⟩=>?_)
 cases c with
 | true=>exact ⟨H1,I1,q1⟩
 | false=>exact hb wh pins s1 σ H1 Q I1 q1
theorem pJ (ha:PT X a tA):PT X (.UnaryOp .Not a pos) (vJ tA):=by
 intro pins s σ H Q I h
 exact isTrue_not (ha pins s σ H (fun c H1=>Q (!c) H1) I h)
def qC (ta tb:TE):TE:=fun σ H Q=>ta σ H fun x H1=>∃ c,x=.bl c/\if c=true then tb σ H1 Q else Q (.bl false) H1
def tOrV (ta tb:TE):TE:=fun σ H Q=>ta σ H fun x H1=>∃ c,x=.bl c/\if c=true then Q (.bl true) H1 else tb σ H1 Q
def sZ (ta:TE):TE:=fun σ H Q=>ta σ H fun x H1=>∃ c,x=.bl c/\Q (.bl (!c)) H1
theorem Hb {op} {t:TE} (h:PE X a t):PE X (.BoolOp op [a] pos) t:=fun pins s σ H Q I hw=>BoolOp_one (h pins s σ H Q I hw)
theorem Hc (ha:PE X a ta) (hb:PE X (.BoolOp .And (b :: kS) pos) tb):PE X (.BoolOp .And (a :: b :: kS) pos) (qC ta tb):=by
 intro pins s σ H Q I h
 refine BoolOp_and (thn (ha pins s σ H _ I h) fun v s1 ⟨x,H1,I1,r1,q1⟩=>?_)
 obtain ⟨c,rfl,q1⟩:=q1
 cases r1
 refine wpAny_truthy_bool ?_
 cases c with
 | true=>exact hb pins s1 σ H1 Q I1 q1
 | false=>exact ⟨.bl false,H1,I1,rfl,q1⟩
theorem Pg (ha:PE X a ta):PE X (.UnaryOp .Not a pos) (sZ ta):=by
 intro pins s σ H Q I h
 refine UnaryOp_ (thn (ha pins s σ H _ I h) fun v s1 ⟨x,H1,I1,r1,q1⟩=>?_)
 obtain ⟨c,rfl,q1⟩:=q1
 cases r1
 exact not_of (wpAny_truthy_bool ⟨.bl (!c),H1,I1,rfl,q1⟩)
def tIf (t:TT) (ta tb:TE):TE:=fun σ H Q=>t σ H fun c H1=>if c=true then ta σ H1 Q else tb σ H1 Q
theorem Qu (hc:PT X c tA) (ha:PE X a ta) (hb:PE X b tb):PE X (.IfExp c a b pos) (tIf tA ta tb):=by
 intro pins s σ H Q I h
 refine wpAny_IfExp (thn (hc pins s σ H _ I h) fun d s1 ⟨H1,I1,q1⟩=>?_)
 cases d with
 | true=>exact ha pins s1 σ H1 Q I1 q1
 | false=>exact hb pins s1 σ H1 Q I1 q1
end
def SqL (K:PySem.W.Frag) (H:Hp) (a:Addr) (xs:List V):Prop :=
 Rd H a (.lst xs) ∨
  ∃ (o:Obj) (its:Array Value) (n:Nat),K.lookup a=some o/\o.cls=.type "list" /\ o.dict=none/\o.data=.seq its n/\its.size<=sizeLine/\aY xs its.toList
def SqT (K:PySem.W.Frag) (H:Hp) (a:Addr) (xs:List V):Prop :=
 Rd H a (.tup xs) ∨
  ∃ (o:Obj) (its:Array Value) (n:Nat),K.lookup a=some o/\o.cls=.type "tuple" /\ o.data=.seq its n/\its.size<=sizeLine/\aY xs its.toList
def absV:Value->Option V
 | .none=>some .non
 | .bool b=>some (.bl b)
 | .int i _=>some (.int i)
 | .str x _=>some (.str x)
 | .bytes b _=>some (.byt b)
 | .float b _=>some (.flt b)
 | .ref a=>some (.ref a)
 | .type n=>some (.ty n)
 | _=>none
theorem aZ.abs {x:V} (r:aZ x u):absV u=some x:=by
 cases x with
 | non=>cases r;rfl
 | bl _=>cases r;rfl
 | int _=>obtain ⟨t,rfl⟩:=r;rfl
 | str _=>obtain ⟨t,rfl⟩:=r;rfl
 | byt _=>obtain ⟨t,rfl⟩:=r;rfl
 | flt _=>obtain ⟨t,rfl⟩:=r;rfl
 | ref _=>cases r;rfl
 | ty _=>cases r;rfl
theorem aZ.inj {x:V} (r:aZ x u) (q:aZ y u):x=y:=Option.some.inj (r.abs.symm.trans q.abs)
theorem aY.inj:∀ {xs ys:List V} {us:List Value},aY xs us->aY ys us->xs=ys
 | _,_,_,.nil,.nil=>rfl
 | _,_,_,.cons r t,.cons r' t'=>by rw [r.inj r',aY.inj t t']
section
variable {X:Cx} {pins:List (Addr×Obj)} {σ:St} {H:Hp} {s:Shared} {a:Addr} {xs ys:List V}
theorem SqL.of (h:H a=some (.lst xs)):SqL K H a xs:=.inl (.inl h)
theorem SqT.of (h:H a=some (.tup xs)):SqT K H a xs:=.inl (.inl h)
theorem Inv.list (I:Inv X pins σ H s) (h:SqL X.K H a xs):∃ its:List Value,aY xs its/\PlainL s.heap a its.toArray/\xs.length<=sizeLine:=by
 rcases h with h | ⟨o,its,n,hk,hc,hd,hs,hz,r⟩
 ·obtain ⟨z,its,n,r,e⟩:=h.ok I.hok
  exact ⟨its,r,⟨_,n,e,rfl,rfl,rfl⟩,z⟩
 ·refine ⟨its.toList,r,⟨o,n,I.kIn a o hk,hc,hd,by simpa using hs⟩,?_⟩
  have e:=r.length
  simp only [Array.length_toList] at e
  omega
theorem Inv.tuple (I:Inv X pins σ H s) (h:SqT X.K H a xs):∃ its:List Value,aY xs its/\IsTup s.heap a its.toArray/\xs.length<=sizeLine:=by
 rcases h with h | ⟨o,its,n,hk,hc,hs,hz,r⟩
 ·obtain ⟨z,its,r,p⟩:=h.ok I.hok
  exact ⟨its,r,p,z⟩
 ·refine ⟨its.toList,r,⟨o,I.kIn a o hk,hc,n,by simpa using hs⟩,?_⟩
  have e:=r.length
  simp only [Array.length_toList] at e
  omega
theorem Inv.list_inj (I:Inv X pins σ H s) (h:SqL X.K H a xs) (h':SqL X.K H a ys):xs=ys:=by
 obtain ⟨its,r,⟨o,n,e,_,_,d⟩,_⟩:=I.list h
 obtain ⟨its',r',⟨o',n',e',_,_,d'⟩,_⟩:=I.list h'
 rw [e] at e';cases e'
 rw [d] at d'
 injection d' with d1 _
 have:its=its':=by simpa using congrArg Array.toList d1
 subst this
 exact r.inj r'
end
abbrev Cx.wish (X:Cx) (E:Value->Shared->Prop):Cx:={ X with xe:=E }
abbrev Cx.nox (X:Cx):Cx:=X.wish fun _ _=>False
theorem Cx.Ok.wish {X:Cx} (ok:X.Ok) (E:Value->Shared->Prop):(X.wish E).Ok :=
 ⟨ok.mod,ok.kind,ok.glob,ok.blt,ok.above,ok.inj,ok.has,ok.cab,ok.hd,ok.frames,ok.stk,ok.exf,ok.bs,ok.bsz,ok.noex,ok.exfs,ok.funs,ok.frf⟩
theorem Cx.Ok.unwish {X:Cx} (ok:(X.wish E).Ok):X.Ok :=
 ⟨ok.mod,ok.kind,ok.glob,ok.blt,ok.above,ok.inj,ok.has,ok.cab,ok.hd,ok.frames,ok.stk,ok.exf,ok.bs,ok.bsz,ok.noex,ok.exfs,ok.funs,ok.frf⟩
section
variable {X:Cx} {pins:List (Addr×Obj)} {σ:St} {H:Hp} {s:Shared} {E:Value->Shared->Prop}
theorem Inv.wish (I:Inv X pins σ H s) (E:Value->Shared->Prop):Inv (X.wish E) pins σ H s:=⟨I.ok.wish E,I.os,I.bare,I.base,I.loc,I.cell,I.free,I.freeC,I.pin,I.hok,I.len⟩
theorem Inv.unwish (I:Inv (X.wish E) pins σ H s):Inv X pins σ H s:=⟨I.ok.unwish,I.os,I.bare,I.base,I.loc,I.cell,I.free,I.freeC,I.pin,I.hok,I.len⟩
theorem SP.unwish {D:gQ} {f:Flow} {s':Shared} (h:SP (X.wish E) pins D f s'):SP X pins D f s':=by
 cases f with
 | next=>obtain ⟨σ',H',I,q⟩:=h;exact ⟨σ',H',I.unwish,q⟩
 | brk=>obtain ⟨σ',H',I,q⟩:=h;exact ⟨σ',H',I.unwish,q⟩
 | cont=>obtain ⟨σ',H',I,q⟩:=h;exact ⟨σ',H',I.unwish,q⟩
 | ret u=>obtain ⟨v,σ',H',I,r,q⟩:=h;exact ⟨v,σ',H',I.unwish,r,q⟩
theorem PE.nox {t:TE} (h:PE X.nox e t):PE X e t:=fun pins s σ H Q I hw =>
 wpAny_mono (h pins s σ H Q (I.wish _) hw) (fun _ _ ⟨v,H',I',r,q⟩=>⟨v,H',I'.unwish,r,q⟩) fun _ _ z=>False.elim z
theorem PT.nox {t:TT} (h:PT X.nox e t):PT X e t:=fun pins s σ H Q I hw =>
 wpAny_mono (h pins s σ H Q (I.wish _) hw) (fun _ _ ⟨H',I',q⟩=>⟨H',I'.unwish,q⟩) fun _ _ z=>False.elim z
theorem PSs.nox {st:List Stmt} {t:TS} (h:PSs X.nox st t):PSs X st t:=fun pins s σ H D I hw =>
 wpAny_mono (h pins s σ H D (I.wish _) hw) (fun _ _ q=>q.unwish) fun _ _ z=>False.elim z
end
section
variable {X:Cx} {st:Stmt} {kS:List Stmt} {t u:TS} {e:Expr} {te:TE} {pos:Pos}
def bS:TS:=fun D σ H=>D.nx σ H
def aQ (t u:TS):TS:=fun D σ H=>t { D with nx:=u D } σ H
theorem bN:PSs X [] bS:=fun _ _ σ H _ I h=>wpAny_execs_nil ⟨σ,H,I,h⟩
theorem aH (h1:PS X st t) (h2:PSs X kS u):PSs X (st :: kS) (aQ t u):=by
 intro pins s σ H D I h
 refine wpAny_execs_cons (thn (h1 pins s σ H { D with nx:=u D } I h) fun f s1 q=>?_)
 cases f with
 | next =>
  obtain ⟨σ',H',I',q⟩:=q
  exact h2 pins s1 σ' H' D I' q
 | ret v=>exact q
 | brk=>exact q
 | cont=>exact q
theorem aJ (h1:PS X st t):PSs X [st] t:=by
 intro pins s σ H D I h
 refine wpAny_execs_cons (thn (h1 pins s σ H D I h) fun f s1 q=>?_)
 cases f with
 | next=>exact wpAny_execs_nil q
 | ret v=>exact q
 | brk=>exact q
 | cont=>exact q
theorem Inv.quiet (I:Inv X pins σ H s):interactive X.env=false:=by simp [interactive,I.ok.kind]
def iA (te:TE):TS:=fun D σ H=>te σ H fun _ H1=>D.nx σ H1
theorem iR (he:PE X e te) (hs:swapsWith e none pos.line X.env=pure false:=by rfl):PS X (.Expr e pos) (iA te):=by
 intro pins s σ H D I h
 exact wpAny_Expr_any (thn (he pins s σ H _ I h) fun v s1 ⟨x,H1,I1,r1,q1⟩=>⟨σ,H1,I1,q1⟩) I.quiet hs
def aX (te:TE):TS:=fun D σ H=>te σ H D.rt
theorem aV (he:PE X e te):PS X (.Return (some e) pos) (aX te):=by
 intro pins s σ H D I h
 exact wpAny_Return_some (thn (he pins s σ H _ I h) fun v s1 ⟨x,H1,I1,r1,q1⟩=>⟨x,σ,H1,I1,r1,q1⟩)
def dU (c:TT) (t u:TS):TS:=fun D σ H=>c σ H fun b H1=>if b=true then t D σ H1 else u D σ H1
theorem dN {a b:List Stmt} {tc:TT} (hc:PT X c tc) (ha:PSs X a t) (hb:PSs X b u):PS X (.If c a b pos) (dU tc t u):=by
 intro pins s σ H D I h
 refine wpAny_If (thn (hc pins s σ H _ I h) fun d s1 ⟨H1,I1,q1⟩=>?_)
 cases d with
 | true=>exact ha pins s1 σ H1 D I1 q1
 | false=>exact hb pins s1 σ H1 D I1 q1
def fU:TS:=fun _ _ _=>False
theorem iF:PS X st fU:=fun _ _ _ _ _ _ h=>h.elim
end
abbrev TG:=V->St->Hp->(St->Hp->Prop)->Prop
abbrev TGs:=List V->St->Hp->(St->Hp->Prop)->Prop
def PG (X:Cx) (target:Expr) (t:TG):Prop :=
 ∀ (pins:List (Addr×Obj)) (s:Shared) (σ:St) (H:Hp) (v:V) (u:Value) (Q:St->Hp->Prop),Inv X pins σ H s->aZ v u->t v σ H Q ->
  wpAny (model X.prog X.w) X.A (assign target X.env u) (fun _ s'=>∃ σ' H',Inv X pins σ' H' s'/\Q σ' H') X.xe s
def PGs (X:Cx) (ts:List Expr) (t:TGs):Prop :=
 ∀ (pins:List (Addr×Obj)) (s:Shared) (σ:St) (H:Hp) (vs:List V) (us:List Value) (Q:St->Hp->Prop),Inv X pins σ H s->aY vs us->t vs σ H Q ->
  wpAny (model X.prog X.w) X.A (assignInOrder ((assignEach ts X.env).map (·.2)) us) (fun _ s'=>∃ σ' H',Inv X pins σ' H' s'/\Q σ' H') X.xe s
abbrev TSet:=V->V->V->Hp->(Hp->Prop)->Prop
def PSet (X:Cx) (t:TSet):Prop :=
 ∀ (pins:List (Addr×Obj)) (s:Shared) (σ:St) (H:Hp) (o i v:V) (ov iv u:Value) (Q:Hp->Prop),Inv X pins σ H s->aZ o ov->aZ i iv->aZ v u->t o i v H Q ->
  wpAny (model X.prog X.w) X.A (setItem ov iv u) (fun _ s'=>∃ H',Inv X pins σ H' s'/\Q H') X.xe s
section
variable {X:Cx} {pos:Pos}
def aI (i:Nat):TG:=fun v σ H Q=>Q (σ.set i (some v)) H
theorem Jq (hN:X.N.Nodup) (hi:X.N[i]?=some x) (hx:Loc X.env.scope x) (hf:X.fn x=true∨X.env.scope.names.lookup x=some .local:=by first | exact .inl rfl | exact .inr rfl | assumption):PG X (.Name x pos) (aI i):=by
 intro pins s σ H v u Q I r h
 exact wpAny_assign_Name (mO I hN hi hx r (fun s' I'=>⟨_,H,I',h⟩) hf)
def oI:TGs:=fun vs σ H Q=>vs=[]/\Q σ H
def cO (t:TG) (u:TGs):TGs:=fun vs σ H Q=>∃ v r,vs=v :: r/\t v σ H fun σ' H'=>u r σ' H' Q
theorem Jp:PGs X [] oI:=by
 intro pins s σ H vs us Q I r h
 obtain ⟨e,h⟩:=h
 subst e
 cases r
 exact assignInOrder_nil ⟨σ,H,I,h⟩
theorem qZ {es:List Expr} {t:TG} {u:TGs} (h1:PG X e t) (h2:PGs X es u)
  (hs:(assignEach (e :: es) X.env).map (·.2)=assign e X.env :: (assignEach es X.env).map (·.2):=by rfl):PGs X (e :: es) (cO t u):=by
 intro pins s σ H vs us Q I r h
 obtain ⟨v,vr,e1,h⟩:=h
 subst e1
 cases r with
 | cons r rr =>
  rw [hs]
  refine assignInOrder_cons (thn (h1 pins s σ H _ _ _ I r h) fun _ s1 ⟨σ1,H1,I1,q1⟩=>?_)
  exact h2 pins s1 σ1 H1 _ _ Q I1 rr q1
def oH (K:PySem.W.Frag) (n:Nat) (t:TGs):TG:=fun v σ H Q=>∃ a xs,v=.ref a/\SqT K H a xs/\xs.length=n/\t xs σ H Q
theorem Pe {es:List Expr} {k:Nat} {t:TGs} {n:Nat} (hc:X.calm=true) (h:PGs X es t)
  (hn:(assignEach es X.env).length=n:=by rfl) (hst:(assignEach es X.env).findIdx? (·.1)=none:=by rfl):PG X (.Tuple es k pos) (oH X.K n t):=by
 intro pins s σ H v u Q I r hw
 obtain ⟨a,xs,e1,hq,hl,hw⟩:=hw
 subst e1
 cases r
 obtain ⟨its,rv,ht,hz⟩:=I.tuple hq
 refine assign_Tuple_tuple (I.ok.hd hc) ht (by simp [hn,← hl,rv.length]) hst fun h' hx=>?_
 have I1:Inv X pins σ H { s with heap:=h' }:=I.kept (t':=s.toks) fun b o e=>hx b o (Nat.ne_of_lt (Heap.lt_size e)) e
 exact h pins _ σ H xs _ Q I1 (by simpa using rv) hw
def Ny (to ti:TE) (t:TSet):TG:=fun v σ H Q=>to σ H fun o H1=>ti σ H1 fun i H2=>t o i v H2 fun H3=>Q σ H3
theorem Pf {o i:Expr} {to ti:TE} {t:TSet} (ho:PE X o to) (hi:PE X i ti) (hs:PSet X t)
  (ha:∀ v,assign (.Subscript o i pos) X.env v=(do
   let ov ← holding [v] (eval o X.env)
   let iv ← holding [v,ov] (eval i X.env)
   standAt pos
   holding [v,ov,iv] (setItem ov iv v)
   release [v,ov,iv] []):=by intro _;rfl):PG X (.Subscript o i pos) (Ny to ti t):=by
 intro pins s σ H v u Q I r h
 rw [ha]
 refine wpAny_bind (wpAny_holding (thn (ho pins s σ H _ I h) fun ov s1 ⟨x,H1,I1,r1,q1⟩=>?_))
 refine wpAny_bind (wpAny_holding (thn (hi pins s1 σ H1 _ I1 q1) fun iv s2 ⟨y,H2,I2,r2,q2⟩=>?_))
 refine wpAny_bind (wpAny_standAt (wpAny_bind (wpAny_holding (thn (hs pins s2 σ H2 x y v ov iv u _ I2 r1 r2 r q2) fun _ s3 ⟨H3,I3,q3⟩=>?_))))
 exact wpAny_release ⟨σ,H3,I3,q3⟩
def aW (te:TE) (g:TG):TS:=fun D σ H=>te σ H fun x H1=>g x σ H1 D.nx
theorem Pd {te:TE} (he:PE X e te) (hg:PG X tg g) (hs:swapsWithSole [tg] e pos.line X.env=pure false:=by rfl) (hw:swappedStores [tg] e X.env=pure none:=by rfl)
  (h1:(assignEach [tg] X.env).map (·.2)=[assign tg X.env]:=by rfl):PS X (.Assign [tg] e pos) (aW te g):=by
 intro pins s σ H D I h
 refine wpAny_Assign_stores (thn (he pins s σ H _ I h) fun v s1 ⟨x,H1,I1,r1,q1⟩=>?_) hs hw
 rw [h1]
 exact thn (hg pins s1 σ H1 x v _ I1 r1 q1) fun _ s2 q=>q
theorem Pc {te:TE} {pos':Pos} (hN:X.N.Nodup) (hi:X.N[i]?=some x) (hx:Loc X.env.scope x) (he:PE X e te) (hs:swapsWith e (some (.Name x pos')) pos.line X.env=pure false:=by rfl) (hf:X.fn x=true∨X.env.scope.names.lookup x=some .local:=by first | exact .inl rfl | exact .inr rfl | assumption) :
  PS X (.Assign [.Name x pos'] e pos) (aW te (aI i)):=by
 intro pins s σ H D I h
 refine wpAny_Assign_Name (thn (he pins s σ H _ I h) fun v s1 ⟨y,H1,I1,r1,q1⟩=>?_) hs
 exact mO I1 hN hi hx r1 (fun s2 I2=>⟨_,H1,I2,q1⟩) hf
def Kz (i j:Nat) (ta:TA):TS:=fun D σ H=>ta σ H fun vs H1=>∃ v w,vs=[v,w]/\D.nx ((σ.set i (some v)).set j (some w)) H1
theorem ps_par {y:Str} {a b:Expr} {ta:TA} {px py pt:Pos} {kt k2 pt2} (hc:X.calm=true) (hN:X.N.Nodup) (hi:X.N[i]?=some x) (hj:X.N[j]?=some y) (hij:i≠j)
  (hx:X.env.scope.names.lookup x=some .local) (hy:X.env.scope.names.lookup y=some .local) (ha:PA X [a,b] ta)
  (hw:swappedStores [.Tuple [.Name x px,.Name y py] kt pt] (.Tuple [a,b] k2 pt2) X.env=pure (some [x,y]))
  (hs:swapsWithSole [.Tuple [.Name x px,.Name y py] kt pt] (.Tuple [a,b] k2 pt2) pos.line X.env=pure false:=by rfl) :
  PS X (.Assign [.Tuple [.Name x px,.Name y py] kt pt] (.Tuple [a,b] k2 pt2) pos) (Kz i j ta):=by
 intro pins s σ H D I h
 rw [exec_Assign_arm]
 refine wpAny_bind (wpAny_standAt ?_)
 rw [hs]
 refine wpAny_bind (wpAny_pure ?_)
 rw [if_neg (by decide)]
 refine wpAny_bind (Tuple_ (thn (ha _ pins s σ H _ I h) fun us s1 ⟨vs,H1,I1,r1,q1⟩=>?_))
 obtain ⟨v,w,e1,q1⟩:=q1
 subst e1
 obtain ⟨u1,u2,rfl,rv,rw'⟩:∃ u1 u2,us=[u1,u2]/\aZ v u1/\aZ w u2:=by
  cases r1 with
  | cons p q =>
   cases q with
   | cons p' q' =>
    cases q'
    exact ⟨_,_,rfl,p,p'⟩
 refine wpAny_newObj_type ?_ (by show 2<=sizeLine;decide)
 have I2:Inv X pins σ H1 { s1 with heap:=s1.heap.push { cls:=.type "tuple",data:=.seq [u1,u2].toArray } }:=I1.kept (t':=s1.toks) fun b o e=>Heap.get?_push_of_some _ e
 rw [hw]
 refine wpAny_bind (wpAny_pure ?_)
 show wpAny (model X.prog X.w) X.A (do rule "assign.swapped-stores";let items ← unpackItems (.ref s1.heap.objs.size) 2 none;assignInOrder [fun v=>bindName X.env y v,fun v=>bindName X.env x v] items.reverse;pure Flow.next) _ _ _
 refine wpAny_bind (wpAny_rule (wpAny_bind (unpackItems_tuple (items:=#[u1,u2]) (I.ok.hd hc) (IsTup.new s1.heap _) fun h' hx'=>?_)))
 have I3:=I2.kept (h':=h') (t':=s1.toks) fun b o e=>hx' b o (Nat.ne_of_lt (Heap.lt_size e)) e
 show wpAny _ _ (assignInOrder [fun v=>bindName X.env y v,fun v=>bindName X.env x v] [u2,u1] >>= fun _=>pure Flow.next) _ _ _
 refine wpAny_bind (assignInOrder_cons (wpAny_bindName (mO I3 hN hj (.inl hy) rw' (fun s2 I4=>?_) (.inr hy))))
 refine assignInOrder_cons (wpAny_bindName (mO I4 hN hi (.inl hx) rv (fun s3 I5=>assignInOrder_nil (wpAny_pure ?_)) (.inr hx)))
 rw [List.set_comm _ _ (Ne.symm hij)] at I5
 exact ⟨_,H1,I5,q1⟩
end
section
variable {X:Cx} {pos:Pos}
def rZ (c:TT) (tb:TS):TS:=fun D σ H=>∃ W:Nat->St->Hp->Prop,(∃ m,W m σ H)/\∀ m σ H,W m σ H ->
 c σ H fun b H1=>if b=true then ∃ N:St->Hp->Prop,(∀ σ' H',N σ' H'->∃ m',m' < m/\W m' σ' H')/\tb { D with nx:=N,ct:=N,bk:=D.nx } σ H1 else D.nx σ H1
theorem Qn {tc:TT} (hp:PassesOwn (model X.prog X.w) X.A X.env X.xe) (hc:PT X c tc) (hb:PSs X body tb):PS X (.While c body [] pos) (rZ tc tb):=by
 intro pins s σ H D I h
 obtain ⟨W,⟨m0,w0⟩,turn⟩:=h
 refine wpAny_While (codeAny_whileLoop (fun n s'=>∃ σ' H',Inv X pins σ' H' s'/\W n σ' H') ?_ m0 ⟨σ,H,I,w0⟩)
 rintro n s1 ⟨σ1,H1,I1,w1⟩
 refine wpAny_passesOwn hp (thn (hc pins s1 σ1 H1 _ I1 (turn n σ1 H1 w1)) fun b s2 ⟨H2,I2,q2⟩=>?_)
 cases b with
 | true =>
  obtain ⟨N,hN,q2⟩:=q2
  rw [if_pos rfl]
  refine wpAny_passesOwn hp (thn (hb pins s2 σ1 H2 _ I2 q2) fun f s3 q3=>?_)
  cases f with
  | next =>
   obtain ⟨σ3,H3,I3,n3⟩:=q3
   obtain ⟨m',hm,w3⟩:=hN σ3 H3 n3
   exact ⟨m',hm,σ3,H3,I3,w3⟩
  | cont =>
   obtain ⟨σ3,H3,I3,n3⟩:=q3
   obtain ⟨m',hm,w3⟩:=hN σ3 H3 n3
   exact ⟨m',hm,σ3,H3,I3,w3⟩
  | brk=>exact q3
  | ret v=>exact q3
 | false =>
  rw [if_neg Bool.false_ne_true]
  exact wpAny_execs_nil ⟨σ1,H2,I2,q2⟩
end
structure It where
 go:Nat->Hp->Prop
 yld:Nat->Hp->V->Hp->Prop
 stop:Nat->Hp->Prop
def Be (X:Cx) (pins:List (Addr×Obj)) (H:Hp) (b:Addr):Prop :=
 H b=none/\b≠X.env.locals/\b∉X.fs/\(b∈X.ex∨X.s₀.heap.objs.size<=b)/\(∀ x c,X.env.cells.lookup x=some c->c≠b)/\∀ p∈X.pn ++ pins,p.1≠b
theorem Inv.fpOk {X:Cx} {H':Hp} {b:Addr} (I:Inv X pins σ H s) (hb:s.heap.objs.size<=b) (hn:H' b=none):Be X pins H' b:=by
 refine ⟨hn,Nat.ne_of_gt (Nat.lt_of_lt_of_le I.lt hb),I.nofs hb,.inr (Nat.le_trans I.sz hb),fun x c e z=>?_,fun p hp z=>?_⟩
 ·obtain ⟨v,q⟩:=I.cell x c e
  exact absurd (Nat.lt_of_lt_of_le q.lt (by rw [z];exact hb)) (Nat.lt_irrefl _)
 ·exact absurd (Nat.lt_of_lt_of_le (Heap.lt_size (I.pin p hp).1) (by rw [z];exact hb)) (Nat.lt_irrefl _)
structure Le (P:Program) (w:World) (K:PySem.W.Frag) (tg:Expr) (J:It) (fp:List Addr) (it:Addr) (tn:Nat->Heap->Prop):Prop where
 mem:it∈fp
 obj:∀ i h,tn i h->∀ b∈fp,∃ o,h.get? b=some o/\∀ v,o.data≠.cell v
 keep:∀ i h h',tn i h->(∀ b∈fp,∀ o,h.get? b=some o->h'.get? b=some o)->tn i h'
 item:∀ (X:Cx),X.prog=P->X.w=w->X.K=K->X.calm=true->∀ (i:Nat) (pins:List (Addr×Obj)) (s:Shared) (σ:St) (H:Hp) (E:Value->Shared->Prop),Inv X pins σ H s->(∀ b∈fp,Be X pins H b)->tn i s.heap->J.go i H ->
  wpAny (model P w) X.A (pyNext (.ref it)) (fun r s1=>∃ u,r=some u /\
   wpAny (model P w) X.A (letOwnedTupleGo tg (.ref it) u) (fun _ s2=>∃ x H',Inv X pins σ H' s2/\aZ x u/\J.yld i H x H'/\tn (i+1) s2.heap/\∀ b∈fp,H' b=none) E s1) E s
 done:∀ (X:Cx),X.prog=P->X.w=w->X.K=K->X.calm=true->∀ (i:Nat) (pins:List (Addr×Obj)) (s:Shared) (σ:St) (H:Hp) (E:Value->Shared->Prop),Inv X pins σ H s->(∀ b∈fp,Be X pins H b)->tn i s.heap->J.stop i H ->
  wpAny (model P w) X.A (pyNext (.ref it)) (fun r s1=>r=none/\Inv X pins σ H s1) E s
 self:∀ (A:Around) (i:Nat) (s:Shared) (Q:Value->Shared->Prop) (E:Value->Shared->Prop),tn i s.heap->Q (.ref it) s->wpAny (model P w) A (pyIter (.ref it)) Q E s
abbrev TI:=St->Hp->(It->Hp->Prop)->Prop
def PIE (X:Cx) (pins:List (Addr×Obj)) (σ:St) (tg:Expr) (R:It->Hp->Prop) (itv:Value) (s2:Shared):Prop :=
 ∃ (it:Addr) (fp:List Addr) (tn:Nat->Heap->Prop) (J:It) (H':Hp),itv=.ref it/\Inv X pins σ H' s2/\Le X.prog X.w X.K tg J fp it tn/\tn 0 s2.heap/\(∀ b∈fp,Be X pins H' b)/\R J H'
def PI (X:Cx) (tg iter:Expr) (wi:TI):Prop :=
 ∀ (pins:List (Addr×Obj)) (s:Shared) (σ:St) (H:Hp) (R:It->Hp->Prop),Inv X pins σ H s->wi σ H R ->
  wpAny (model X.prog X.w) X.A (eval iter X.env) (fun v s1=>wpAny (model X.prog X.w) X.A (pyIter v) (PIE X pins σ tg R) X.xe s1) X.xe s
theorem go_of {it:Addr} {o:Obj} {n:String} {vs:Array Value} {Q:Unit->Shared->Prop} (ho:s.heap.get? it=some o) (hc:o.cls=.type n) (hd:o.data=.fields vs)
  (hn:["enumerate", "zip", "dict_itemiterator", "dict_reverseitemiterator", "odict_iterator", "itertools.zip_longest", "itertools.pairwise"].contains n=false) (hQ:Q () s):wpAny M A (letOwnedTupleGo tg (.ref it) u) Q E s:=by
 unfold letOwnedTupleGo
 cases tg <;> first
  | exact wpAny_pure hQ
  | (cases u <;> first
    | exact wpAny_pure hQ
    | (refine wpAny_bind (wpAny_load ho ?_)
       rw [hc,hd]
       show wpAny M A (if (["enumerate", "zip", "dict_itemiterator", "dict_reverseitemiterator", "odict_iterator", "itertools.zip_longest", "itertools.pairwise"].contains n && vs[0]? == some (rawInt _))=true then _ else _) Q E s
       rw [if_neg (by intro h;rw [hn,Bool.false_and] at h;cases h)]
       exact wpAny_pure hQ))
def Itl (K:PySem.W.Frag) (a:Addr):It :=
 ⟨fun i H=>∃ xs x,SqL K H a xs/\xs[i]?=some x,fun i H x H'=>H'=H/\∀ xs,SqL K H a xs->xs[i]?=some x,fun i H=>∃ xs,SqL K H a xs/\xs.length<=i⟩
def Itr (lo:Int) (n:Nat):It:=⟨fun i _=>i < n,fun i H x H'=>H'=H/\x=.int (lo+i),fun i _=>n<=i⟩
theorem Li {w:World} (a it:Addr):Le P w K tg (Itl K a) [it] it (fun i h=>h.IsListIter it a i) where
 mem:=by simp
 obj:=fun i h st b hb=>by
  have e:b=it:=by simpa using hb
  subst e
  obtain ⟨o,e,c,d⟩:=st
  exact ⟨o,e,fun v z=>by rw [d] at z;cases z⟩
 keep:=fun i h h' st k=>st.at fun o e=>k it (by simp) o e
 item:=by
  intro X hP hw hK hc i pins s σ H E I hf st hg
  subst hP hw hK
  obtain ⟨xs,x,hq,hx⟩:=hg
  obtain ⟨its,rv,p,hz⟩:=I.list hq
  obtain ⟨u,hu,ru⟩:=rv.get hx
  obtain ⟨f0,f1,f2,f3,f4,f5⟩:=hf it (by simp)
  refine wpAny_pyNext_list_item st p.isList (x:=u) (by simpa using hu) fun h' st' sb=>?_
  have I1:Inv X pins σ H { s with heap:=h' }:=I.turned (t':=s.toks) (fun b o hb e=>(sb.2 b hb).trans e) f0 f1 f3 f4 f5
  obtain ⟨o,e,c,d⟩:=id st'
  exact ⟨u,rfl,go_of (s:={ s with heap:=h' }) e c d (by decide) ⟨x,H,I1,ru,⟨rfl,fun ys hy=>by rw [I.list_inj hy hq];exact hx⟩,st',fun b hb=>(hf b hb).1⟩⟩
 done:=by
  intro X hP hw hK hc i pins s σ H E I hf st hg
  subst hP hw hK
  obtain ⟨xs,hq,hx⟩:=hg
  obtain ⟨its,rv,p,hz⟩:=I.list hq
  obtain ⟨f0,f1,f2,f3,f4,f5⟩:=hf it (by simp)
  have hl:=rv.length
  exact wpAny_pyNext_list_end (I.ok.hd hc) st p.isList (by simp;omega) fun h' eb=>⟨rfl,I.turned (t':=s.toks) (fun b o hb e=>eb b o hb e) f0 f1 f3 f4 f5⟩
 self:=fun _ _ _ _ _ st h=>wpAny_pyIter_listiter st h
theorem Ho {w:World} (it:Addr) (lo:Int) (n:Nat):Le P w K tg (Itr lo n) [it] it (fun i h=>IsRangeIter h it (lo+(i:Nat) * 1) ((n:Int) - (i:Nat)) 1) where
 mem:=by simp
 obj:=fun i h st b hb=>by
  have e:b=it:=by simpa using hb
  subst e
  exact ⟨_,st,fun v z=>by
   have z':Data.fields _=Data.cell v:=z
   cases z'⟩
 keep:=fun i h h' st k=>k it (by simp) _ st
 item:=by
  intro X hP hw hK hc i pins s σ H E I hf st hg
  subst hP hw hK
  obtain ⟨f0,f1,f2,f3,f4,f5⟩:=hf it (by simp)
  have W:=Walks.range (prog:=X.prog) (w:=X.w) (I.ok.hd hc) it lo 1 n
  refine W.item i s _ _ hg st fun v h' tk hv st' kk=>?_
  obtain ⟨t,rfl⟩:=hv
  have I1:Inv X pins σ H { s with heap:=h',toks:=tk }:=I.turned (fun b o hb e=>kk b o (by simpa using hb) e) f0 f1 f3 f4 f5
  refine ⟨_,rfl,go_of (s:={ s with heap:=h',toks:=tk }) (n:="range_iterator") st' rfl rfl (by decide) ⟨.int (lo+i),H,I1,⟨t,?_⟩,⟨rfl,rfl⟩,st',fun b hb=>(hf b hb).1⟩⟩
  rw [Int.mul_one]
 done:=by
  intro X hP hw hK hc i pins s σ H E I hf st hg
  subst hP hw hK
  obtain ⟨f0,f1,f2,f3,f4,f5⟩:=hf it (by simp)
  exact wpAny_pyNext_range_end (I.ok.hd hc) st (by have:n<=i:=hg;omega) fun h' eb=>⟨rfl,I.turned (t':=s.toks) (fun b o hb e=>eb b o hb e) f0 f1 f3 f4 f5⟩
 self:=fun _ _ _ _ _ st h=>wpAny_pyIter_rangeiter st h
section
variable {X:Cx} {tg:Expr}
def bG (K:PySem.W.Frag) (tl:TE):TI:=fun σ H R=>tl σ H fun x H1=>exR x fun a=>(∃ xs,SqL K H1 a xs)/\R (Itl K a) H1
theorem bQ {l:Expr} {tl:TE} (hl:PE X l tl):PI X tg l (bG X.K tl):=by
 intro pins s σ H R I h
 refine thn (hl pins s σ H _ I h) fun v s1 ⟨x,H1,I1,r1,q1⟩=>?_
 obtain ⟨a,e,⟨xs,hq⟩,q⟩:=Eq.mp dY q1
 subst e
 cases r1
 obtain ⟨its,rv,p,hz⟩:=I1.list hq
 refine wpAny_pyIter_list p.isList ?_
 refine ⟨s1.heap.objs.size,[s1.heap.objs.size],_,_,H1,rfl,I1.kept (t':=s1.toks) fun b o e=>Heap.get?_push_of_some _ e,Li a _,⟨_,Heap.get?_push_size _ rfl,rfl,rfl⟩,fun b hb=>?_,q⟩
 have e:b=s1.heap.objs.size:=by simpa using hb
 subst e
 exact I1.fpOk (Nat.le_refl _) (I1.hok.fresh (Nat.le_refl _))
theorem Qm {R:It->Hp->Prop} {lo hi:Int} {t u v:Tok} {tk:Nat} (I:Inv X pins σ H s) (h1:-(2 ^ 62)<=lo) (h2:lo < 2 ^ 62) (h3:-(2 ^ 62)<=hi) (h4:hi < 2 ^ 62)
  (q:R (Itr lo (hi - lo).toNat) H):wpAny (model X.prog X.w) X.A (pyIter (.ref s.heap.objs.size)) (PIE X pins σ tg R) E { s with heap:=s.heap.push { cls:=.type "range",data:=.fields #[.int lo t,.int hi u,.int 1 v] },toks:=tk }:=by
 refine wpAny_pyIter_range (IsRange.new ..) (small_one h1 h2 h3 h4) ?_
 have I1:Inv X pins σ H { s with heap:=s.heap.push { cls:=.type "range",data:=.fields #[.int lo t,.int hi u,.int 1 v] },toks:=tk }:=I.kept fun b o e=>Heap.get?_push_of_some _ e
 refine ⟨(s.heap.push { cls:=.type "range",data:=.fields #[.int lo t,.int hi u,.int 1 v] }).objs.size,[(s.heap.push { cls:=.type "range",data:=.fields #[.int lo t,.int hi u,.int 1 v] }).objs.size],_,_,H,rfl,
  I1.kept (t':=tk) fun b o e=>Heap.get?_push_of_some _ e,Ho _ lo (hi - lo).toNat,?_,fun b hb=>?_,q⟩
 ·have e1:lo+((0:Nat):Int) * 1=lo:=by simp
  have e2:(((hi - lo).toNat:Nat):Int) - ((0:Nat):Int)=Builtin.Range.rangeSize lo hi 1:=by rw [rangeSize_one];split <;> omega
  show IsRangeIter _ _ (lo+((0:Nat):Int) * 1) ((((hi - lo).toNat:Nat):Int) - ((0:Nat):Int)) 1
  rw [e1,e2]
  exact Heap.get?_push_size _ rfl
 ·have e:b=(s.heap.push { cls:=.type "range",data:=.fields #[.int lo t,.int hi u,.int 1 v] }).objs.size:=by simpa using hb
  subst e
  exact I1.fpOk (Nat.le_refl _) (I1.hok.fresh (Nat.le_refl _))
def eL (ta:TA):TI:=fun σ H R=>ta σ H fun vs H1=>∃ j:Int,vs=[.int j]/\-(2 ^ 62)<=j/\j < 2 ^ 62/\R (Itr 0 j.toNat) H1
theorem cS {a:Expr} {ta:TA} {p:Pos} (hg:Gl X "range") (hm:X.mg "range" = none) (ha:PA X [a] ta) (hs:starEach [a] X.env=[(false,eval a X.env)]:=by rfl):PI X tg (.Call (.Name "range" p) [a] [] pos) (eL ta):=by
 intro pins s σ H R I h
 refine Call_ (jE I hg hm boot_range (PyProof.Rows.callWith_type1 (thn (ha pos pins s σ H _ I h) fun us s1 ⟨vs,H1,I1,r1,q1⟩=>?_) hs rfl))
 obtain ⟨j,e,q1,q2,q⟩:=q1
 subst e
 cases r1 with
 | cons r rr =>
  cases rr
  obtain ⟨t,rfl⟩:=r
  exact call_range_1 (Qm I1 (by omega) (by omega) q1 q2 (by simpa using q))
def cH (wi:TI) (g:TG) (tb:TS):TS:=fun D σ H=>wi σ H fun J H1=>∃ W:Nat->Nat->St->Hp->Prop,(∃ m,W 0 m σ H1)/\∀ i m σ H,W i m σ H ->
 (J.stop i H/\D.nx σ H)∨(J.go i H/\∃ N:St->Hp->Prop,(∀ σ' H',N σ' H'->∃ m',m' < m/\W (i+1) m' σ' H')/\∀ x H',J.yld i H x H'->g x σ H' fun σ2 H2=>tb { D with nx:=N,ct:=N,bk:=D.nx } σ2 H2)
def Bi (fp:List Addr) (h:Heap):List (Addr×Obj):=fp.filterMap fun b=>(h.get? b).map fun o=>(b,o)
theorem lJ {b:Addr} {o:Obj} (hb:b∈fp) (e:h.get? b=some o):(b,o)∈Bi fp h:=List.mem_filterMap.mpr ⟨b,hb,by rw [e];rfl⟩
theorem Mm {p:Addr×Obj} (hp:p∈Bi fp h):p.1∈fp/\h.get? p.1=some p.2:=by
 obtain ⟨b,hb,e⟩:=List.mem_filterMap.mp hp
 cases q:h.get? b with
 | none=>rw [q] at e;cases e
 | some o =>
  rw [q] at e
  have e':(b,o)=p:=Option.some.inj e
  subst e'
  exact ⟨hb,q⟩
theorem Inv.pinned (I:Inv X pins σ H s) (hf:∀ b∈fp,Be X pins H b) (ho:∀ b∈fp,∃ o,s.heap.get? b=some o/\∀ v,o.data≠.cell v):Inv X (pins ++ Bi fp s.heap) σ H s :=
 I.pins_of fun p hp=>(List.mem_append.mp hp).elim (fun z=>I.pin p (List.mem_append_right _ z)) fun z=>by
  obtain ⟨hb,e⟩:=Mm z
  obtain ⟨f0,f1,f2,_⟩:=hf p.1 hb
  obtain ⟨o,e',d⟩:=ho p.1 hb
  rw [e] at e';cases e'
  exact ⟨e,f0,f1,f2,d⟩
theorem Inv.unpinned {pl:List (Addr×Obj)} (I:Inv X (pins ++ pl) σ H s):Inv X pins σ H s:=I.pins_of fun p hp=>I.pin p (List.mem_append_right _ (List.mem_append_left _ hp))
theorem ps_for {iter:Expr} {wi:TI} (hp:PassesOwn (model X.prog X.w) X.A X.env X.xe) (hc:X.calm=true) (hi:PI X tg iter wi) (hg:PG X tg g) (hb:PSs X body tb)
  (hs:∀ x,foldedSetIterable iter X.env x=pure x:=by intro _;rfl):PS X (.For tg iter body [] pos) (cH wi g tb):=by
 intro pins s σ H D I h
 refine wpAny_For (thn (hi pins s σ H _ I h) fun v s1 h1=>thn h1 fun itv s2 h2=>?_) hs
 obtain ⟨it,fp,tn,J,H2,e,I2,T,st2,f2,W,⟨m0,w0⟩,turn⟩:=h2
 subst e
 -- what stays true of the iterator's objects through the loop
 have stat:∀ {H':Hp},(∀ b∈fp,H' b=none)->∀ b∈fp,Be X pins H' b:=fun hn b hb=>⟨hn b hb,(f2 b hb).2⟩
 refine codeAny_forLoop_any (fun n s'=>∃ i σ' H',Inv X pins σ' H' s'/\tn i s'.heap/\(∀ b∈fp,H' b=none)/\W i n σ' H') ?_ m0 ⟨0,σ,H2,I2,st2,fun b hb=>(f2 b hb).1,w0⟩
 rintro n s3 ⟨i,σ3,H3,I3,st3,fr3,w3⟩
 rcases turn i n σ3 H3 w3 with ⟨stop,qn⟩ | ⟨go,N,hN,step⟩
 ·refine wpAny_passesOwn hp (thn (T.done X rfl rfl rfl hc i pins s3 σ3 H3 X.xe I3 (stat fr3) st3 stop) fun r s4 ⟨hr,I4⟩=>?_)
  subst hr
  exact wpAny_execs_nil ⟨σ3,H3,I4,qn⟩
 ·refine wpAny_passesOwn hp (thn (T.item X rfl rfl rfl hc i pins s3 σ3 H3 X.xe I3 (stat fr3) st3 go) fun r s4 ⟨u,hr,h4⟩=>?_)
  subst hr
  refine wpAny_passesOwn hp (thn h4 fun _ s5 ⟨x,H5,I5,r5,y5,st5,fr5⟩=>?_)
  have I5':=I5.pinned (stat fr5) (T.obj _ _ st5)
  refine wpAny_passesOwn hp (thn (hg _ s5 σ3 H5 x u _ I5' r5 (step x H5 y5)) fun _ s6 ⟨σ6,H6,I6,q6⟩=>?_)
  refine wpAny_passesOwn hp (thn (hb _ s6 σ6 H6 _ I6 q6) fun f s7 q7=>?_)
  have again:∀ {σ7:St} {H7:Hp},Inv X (pins ++ Bi fp s5.heap) σ7 H7 s7->N σ7 H7->∃ m,m < n/\∃ i σ' H',Inv X pins σ' H' s7/\tn i s7.heap/\(∀ b∈fp,H' b=none)/\W i m σ' H':=fun {σ7 H7} I7 n7=>by
   obtain ⟨m',hm,w7⟩:=hN σ7 H7 n7
   refine ⟨m',hm,i+1,σ7,H7,I7.unpinned,T.keep _ _ _ st5 fun b hb o e=>(I7.pin (b,o) (List.mem_append_right _ (List.mem_append_right _ (lJ hb e)))).1,fun b hb=>?_,w7⟩
   obtain ⟨o,e,d⟩:=T.obj _ _ st5 b hb
   exact (I7.pin (b,o) (List.mem_append_right _ (List.mem_append_right _ (lJ hb e)))).2.1
  cases f with
  | next=>obtain ⟨σ7,H7,I7,n7⟩:=q7;exact again I7 n7
  | cont=>obtain ⟨σ7,H7,I7,n7⟩:=q7;exact again I7 n7
  | brk=>obtain ⟨σ7,H7,I7,q7⟩:=q7;exact ⟨σ7,H7,I7.unpinned,q7⟩
  | ret v=>obtain ⟨x7,σ7,H7,I7,r7,q7⟩:=q7;exact ⟨x7,σ7,H7,I7.unpinned,r7,q7⟩
end
theorem eA {xs:List V} {D:gQ} (Pv:Nat->St->Hp->Prop) (h0:Pv 0 σ H) (hl:∀ i σ H,i<=xs.length->Pv i σ H->SqL K H a xs)
  (hs:∀ i x σ H,xs[i]?=some x->Pv i σ H->g x σ H fun σ2 H2=>tb { D with nx:=Pv (i+1),ct:=Pv (i+1),bk:=D.nx } σ2 H2) (hd:∀ σ H,Pv xs.length σ H->D.nx σ H) :
  ∃ W:Nat->Nat->St->Hp->Prop,(∃ m,W 0 m σ H)/\∀ i m σ H,W i m σ H ->
   ((Itl K a).stop i H/\D.nx σ H)∨((Itl K a).go i H/\∃ N:St->Hp->Prop,(∀ σ' H',N σ' H'->∃ m',m' < m/\W (i+1) m' σ' H')/\∀ x H',(Itl K a).yld i H x H'->g x σ H' fun σ2 H2=>tb { D with nx:=N,ct:=N,bk:=D.nx } σ2 H2):=by
 refine ⟨fun i m σ H=>m=xs.length - i/\i<=xs.length/\Pv i σ H,⟨xs.length,by simp,Nat.zero_le _,h0⟩,?_⟩
 rintro i m σ H ⟨rfl,hi,p⟩
 have q:=hl i σ H hi p
 by_cases hlt:i < xs.length
 ·refine .inr ⟨⟨xs,xs[i],q,by simp [hlt]⟩,Pv (i+1),fun σ' H' p'=>⟨xs.length - (i+1),by omega,rfl,hlt,p'⟩,fun x H' y=>?_⟩
  obtain ⟨e,y⟩:=y
  subst e
  exact hs i x σ _ (y xs q) p
 ·have e:i=xs.length:=by omega
  subst e
  exact .inl ⟨⟨xs,q,Nat.le_refl _⟩,hd σ H p⟩
theorem kD {lo:Int} {n:Nat} {D:gQ} (Pv:Nat->St->Hp->Prop) (h0:Pv 0 σ H)
  (hs:∀ i σ H,i < n->Pv i σ H->g (.int (lo+i)) σ H fun σ2 H2=>tb { D with nx:=Pv (i+1),ct:=Pv (i+1),bk:=D.nx } σ2 H2) (hd:∀ σ H,Pv n σ H->D.nx σ H) :
  ∃ W:Nat->Nat->St->Hp->Prop,(∃ m,W 0 m σ H)/\∀ i m σ H,W i m σ H ->
   ((Itr lo n).stop i H/\D.nx σ H)∨((Itr lo n).go i H/\∃ N:St->Hp->Prop,(∀ σ' H',N σ' H'->∃ m',m' < m/\W (i+1) m' σ' H')/\∀ x H',(Itr lo n).yld i H x H'->g x σ H' fun σ2 H2=>tb { D with nx:=N,ct:=N,bk:=D.nx } σ2 H2):=by
 refine ⟨fun i m σ H=>m=n - i/\i<=n/\Pv i σ H,⟨n,by simp,Nat.zero_le _,h0⟩,?_⟩
 rintro i m σ H ⟨rfl,hi,p⟩
 by_cases hlt:i < n
 ·refine .inr ⟨hlt,Pv (i+1),fun σ' H' p'=>⟨n - (i+1),by omega,rfl,hlt,p'⟩,fun x H' y=>?_⟩
  obtain ⟨e,y⟩:=y
  subst e y
  exact hs i σ _ hlt p
 ·have e:i=n:=by omega
  subst e
  exact .inl ⟨Nat.le_refl _,hd σ H p⟩
theorem Du {c:TT} {D:gQ} (Pv:St->Hp->Prop) (μ:St->Hp->Nat) (h0:Pv σ H)
  (hs:∀ σ H,Pv σ H->c σ H fun b H1=>if b=true then tb { D with nx:=fun σ' H'=>Pv σ' H'/\μ σ' H' < μ σ H,ct:=fun σ' H'=>Pv σ' H'/\μ σ' H' < μ σ H,bk:=D.nx } σ H1 else D.nx σ H1)
  (mono:∀ σ H Q Q',(∀ b H1,Q b H1->Q' b H1)->c σ H Q->c σ H Q'):rZ c tb D σ H:=by
 refine ⟨fun m σ H=>m=μ σ H/\Pv σ H,⟨_,rfl,h0⟩,?_⟩
 rintro m σ H ⟨rfl,p⟩
 refine mono σ H _ _ (fun b H1 q=>?_) (hs σ H p)
 cases b with
 | true=>exact ⟨_,fun σ' H' ⟨p',l⟩=>⟨_,l,rfl,p'⟩,q⟩
 | false=>exact q
abbrev R2:=V->V->Hp->VK->Prop
def OpR (X:Cx) (f:Value->Value->Sem Value) (r:R2):Prop :=
 ∀ (pins:List (Addr×Obj)) (s:Shared) (σ:St) (H:Hp) (x y:V) (v u:Value) (Q:VK),Inv X pins σ H s->aZ x v->aZ y u->r x y H Q ->
  wpAny (model X.prog X.w) X.A (f v u) (EP X pins σ Q) X.xe s
def UnR (X:Cx) (f:Value->Sem Value) (r:V->Hp->VK->Prop):Prop :=
 ∀ (pins:List (Addr×Obj)) (s:Shared) (σ:St) (H:Hp) (x:V) (v:Value) (Q:VK),Inv X pins σ H s->aZ x v->r x H Q ->
  wpAny (model X.prog X.w) X.A (f v) (EP X pins σ Q) X.xe s
def fQ (X:Cx) (f:Value) (r:List V->Hp->VK->Prop):Prop :=
 ∀ (pins:List (Addr×Obj)) (s:Shared) (σ:St) (H:Hp) (xs:List V) (us:List Value) (Q:VK),Inv X pins σ H s->aY xs us->r xs H Q ->
  wpAny (model X.prog X.w) X.A (call f us) (EP X pins σ Q) X.xe s
def tOp (r:R2) (ta tb:TE):TE:=fun σ H Q=>ta σ H fun x H1=>tb σ H1 fun y H2=>r x y H2 Q
def tUn (r:V->Hp->VK->Prop) (ta:TE):TE:=fun σ H Q=>ta σ H fun x H1=>r x H1 Q
def rI (C:Int->Int->Prop) (g:Int->Int->V):R2:=fun x y H Q=>exI x fun i=>exI y fun j=>C i j/\Q (g i j) H
def rI0 (g:Int->Int->V):R2:=fun x y H Q=>exI x fun i=>exI y fun j=>Q (g i j) H
def rU (g:Int->V):V->Hp->VK->Prop:=fun x H Q=>exI x fun i=>Q (g i) H
section
variable {X:Cx} {a b c:Expr} {ta tb tc:TE} {pos:Pos}
theorem binT (ha:PE X a ta) (hb:PE X b tb) {R:V->V->Hp->Prop} (I:Inv X pins σ H s)
  (h:ta σ H fun x H1=>tb σ H1 fun y H2=>R x y H2)
  (hf:∀ v u s2 x y H2,Inv X pins σ H2 s2->aZ x v->aZ y u->R x y H2->wpAny (model X.prog X.w) X.A (f v u) Q X.xe s2) :
  wpAny (model X.prog X.w) X.A (eval a X.env) (fun v s₁=>wpAny (model X.prog X.w) X.A (eval b X.env) (fun u s₂=>wpAny (model X.prog X.w) X.A (f v u) Q X.xe s₂) X.xe s₁) X.xe s:=by
 refine thn (ha pins s σ H _ I h) fun v s1 ⟨x,H1,I1,r1,q1⟩=>?_
 refine thn (hb pins s1 σ H1 _ I1 q1) fun u s2 ⟨y,H2,I2,r2,q2⟩=>?_
 exact hf v u s2 x y H2 I2 r1 r2 q2
theorem aS {op:Operator} {r:R2} (ho:OpR X (binaryOp op) r) (ha:PE X a ta) (hb:PE X b tb):PE X (.BinOp a op b pos) (tOp r ta tb):=by
 intro pins s σ H Q I h
 exact wpAny_BinOp (binT ha hb I h fun v u s2 x y H2 I2 rx ry q=>ho pins s2 σ H2 x y v u Q I2 rx ry q)
theorem pe_un {op:UnaryOp} {r:V->Hp->VK->Prop} (ho:UnR X (unaryOp op) r) (ha:PE X a ta):PE X (.UnaryOp op a pos) (tUn r ta):=by
 intro pins s σ H Q I h
 exact UnaryOp_ (thn (ha pins s σ H _ I h) fun v s1 ⟨x,H1,I1,r1,q1⟩=>ho pins s1 σ H1 x v Q I1 r1 q1)
theorem opI {C:Int->Int->Prop} {g:Int->Int->Int}
  (rule:∀ (i j:Int) (t u:Tok) (s:Shared) (Q:Value->Shared->Prop) (E:Value->Shared->Prop),C i j->Q (.int (g i j) s.toks) { s with toks:=s.toks+1 }->wpAny (model X.prog X.w) X.A (f (.int i t) (.int j u)) Q E s) :
  OpR X f (rI C fun i j=>.int (g i j)):=by
 intro pins s σ H x y v u Q I rx ry h
 obtain ⟨i,rfl,h1⟩:=Eq.mp cQ h
 obtain ⟨j,rfl,hc,q⟩:=Eq.mp cQ h1
 obtain ⟨t,rfl⟩:=rx
 obtain ⟨t',rfl⟩:=ry
 exact rule i j t t' s _ _ hc ⟨.int (g i j),H,I.tok _,⟨_,rfl⟩,q⟩
theorem opI0 {g:Int->Int->Int}
  (rule:∀ (i j:Int) (t u:Tok) (s:Shared) (Q:Value->Shared->Prop) (E:Value->Shared->Prop),Q (.int (g i j) s.toks) { s with toks:=s.toks+1 }->wpAny (model X.prog X.w) X.A (f (.int i t) (.int j u)) Q E s) :
  OpR X f (rI0 fun i j=>.int (g i j)):=by
 intro pins s σ H x y v u Q I rx ry h
 obtain ⟨i,rfl,h1⟩:=Eq.mp cQ h
 obtain ⟨j,rfl,q⟩:=Eq.mp cQ h1
 obtain ⟨t,rfl⟩:=rx
 obtain ⟨t',rfl⟩:=ry
 exact rule i j t t' s _ _ ⟨.int (g i j),H,I.tok _,⟨_,rfl⟩,q⟩
theorem opB0 {g:Int->Int->Bool}
  (rule:∀ (i j:Int) (t u:Tok) (s:Shared) (Q:Value->Shared->Prop) (E:Value->Shared->Prop),Q (.bool (g i j)) s->wpAny (model X.prog X.w) X.A (f (.int i t) (.int j u)) Q E s) :
  OpR X f (rI0 fun i j=>.bl (g i j)):=by
 intro pins s σ H x y v u Q I rx ry h
 obtain ⟨i,rfl,h1⟩:=Eq.mp cQ h
 obtain ⟨j,rfl,q⟩:=Eq.mp cQ h1
 obtain ⟨t,rfl⟩:=rx
 obtain ⟨t',rfl⟩:=ry
 exact rule i j t t' s _ _ ⟨.bl (g i j),H,I,rfl,q⟩
def CDiv (i j:Int):Prop:=0 < j/\j < 1073741824
def CPow (i j:Int):Prop:=0<=j/\j<=1000000/\i.natAbs < 2 ^ 64
def CMul (i j:Int):Prop:=(-(2 ^ 64) < i/\i < 2 ^ 64)∨(-(2 ^ 64) < j/\j < 2 ^ 64)
theorem CMul.ok {i j:Int} (h:CMul i j):IntMulOk i j:=by
 rcases h with ⟨h1,h2⟩ | ⟨h1,h2⟩
 ·exact .of_left (intBits_le_64 h1 h2)
 ·exact .of_right (intBits_le_64 h1 h2)
theorem fV:OpR X (binaryOp .Add) (rI0 fun i j=>.int (i+j)):=opI0 fun _ _ _ _ _ _ _ q=>add_int q
theorem sE:OpR X (binaryOp .Sub) (rI0 fun i j=>.int (i - j)):=opI0 fun _ _ _ _ _ _ _ q=>sub_int q
theorem eM:OpR X (binaryOp .Mod) (rI (fun _ j=>0 < j) fun i j=>.int (i % j)):=opI fun i j _ _ _ _ _ hc q=>by
 have h1:(0:Int) < j:=hc
 exact mod_int' (by omega) (by rw [Int.fmod_eq_emod_of_nonneg i (by omega)];exact q)
theorem Hd:OpR X (binaryOp .Pow) (rI CPow fun i j=>.int (i ^ j.toNat)):=opI fun _ _ _ _ _ _ _ hc q=>pow_int_small hc.1 hc.2.1 hc.2.2 q
theorem unI {f:Value->Sem Value} {g:Int->Int}
  (rule:∀ (i:Int) (t:Tok) (s:Shared) (Q:Value->Shared->Prop) (E:Value->Shared->Prop),Q (.int (g i) s.toks) { s with toks:=s.toks+1 }->wpAny (model X.prog X.w) X.A (f (.int i t)) Q E s) :
  UnR X f (rU fun i=>.int (g i)):=by
 intro pins s σ H x v Q I rx h
 obtain ⟨i,rfl,q⟩:=Eq.mp cQ h
 obtain ⟨t,rfl⟩:=rx
 exact rule i t s _ _ ⟨.int (g i),H,I.tok _,⟨_,rfl⟩,q⟩
theorem Ou:UnR X (unaryOp .USub) (rU fun i=>.int (-i)):=unI fun _ _ _ _ _ q=>neg_int q
end
def scal:V->V->Bool
 | .non,.non=>true | .non,.int _=>true | .int _,.non=>true | .non,.bl _=>true | .bl _,.non=>true | .non,.str _=>true | .str _,.non=>true
 | .int _,.int _=>true | .bl _,.bl _=>true | .str _,.str _=>true | .byt _,.byt _=>true
 | .int _,.str _=>true | .str _,.int _=>true | .bl _,.str _=>true | .str _,.bl _=>true
 | _,_=>false
def rEq:R2:=fun x y H Q=>scal x y=true/\Q (.bl (decide (x=y))) H
theorem cI {i j:Int}:scal (.int i) (.int j)=true:=rfl
def rNe:R2:=fun x y H Q=>scal x y=true/\Q (.bl (!decide (x=y))) H
theorem Kn {i j:Int}:decide (V.int i=V.int j)=(i == j):=by
 rw [Bool.eq_iff_iff]
 simp
theorem Px {i j:Bool}:decide (V.bl i=V.bl j)=(i == j):=by
 rw [Bool.eq_iff_iff]
 simp
theorem Km {i j:Str}:decide (V.str i=V.str j)=(i == j):=by
 rw [Bool.eq_iff_iff]
 simp
theorem Ko {i j:Array UInt8}:decide (V.byt i=V.byt j)=(i.toList == j.toList):=by
 rw [Bool.eq_iff_iff]
 cases i
 cases j
 simp
section
variable {X:Cx} {a b c:Expr} {ta tb tc:TE} {pos:Pos}
theorem bI {Q:VK} {k k':Bool} (I:Inv X pins σ H s) (q:Q (.bl k) H) (e:k=k'):EP X pins σ Q (.bool k') s:=by
 subst e
 exact ⟨.bl k,H,I,rfl,q⟩
theorem tI:OpR X (compareOp .Eq) rEq:=by
 intro pins s σ H x y v u Q I rx ry h
 obtain ⟨hs,q⟩:=h
 cases x with
 | non =>
  cases rx
  cases y with
  | non=>cases ry;exact PySem.EqNone.eq_none_none (bI I q (by simp))
  | bl j=>cases ry;exact PySem.EqNone.eq_none_bool (bI I q (by simp))
  | int j=>obtain ⟨t',rfl⟩:=ry;exact PySem.EqNone.eq_none_int (bI I q (by simp))
  | str j=>obtain ⟨t',rfl⟩:=ry;exact PySem.EqNone.eq_none_str (bI I q (by simp))
  | _=>exact absurd (show false=true from hs) Bool.false_ne_true
 | bl i =>
  cases rx
  cases y with
  | non=>cases ry;exact PySem.EqNone.eq_bool_none (bI I q (by simp))
  | bl j=>cases ry;exact eq_bool (bI I q Px)
  | str j=>obtain ⟨t',rfl⟩:=ry;exact PySem.EqMixed.eq_bool_str (bI I q (by simp))
  | _=>exact absurd (show false=true from hs) Bool.false_ne_true
 | int i =>
  obtain ⟨t,rfl⟩:=rx
  cases y with
  | non=>cases ry;exact PySem.EqNone.eq_int_none (bI I q (by simp))
  | int j=>obtain ⟨t',rfl⟩:=ry;exact eq_int (bI I q Kn)
  | str j=>obtain ⟨t',rfl⟩:=ry;exact PySem.EqMixed.eq_int_str (bI I q (by simp))
  | _=>exact absurd (show false=true from hs) Bool.false_ne_true
 | str i =>
  obtain ⟨t,rfl⟩:=rx
  cases y with
  | non=>cases ry;exact PySem.EqNone.eq_str_none (bI I q (by simp))
  | bl j=>cases ry;exact PySem.EqMixed.eq_str_bool (bI I q (by simp))
  | int j=>obtain ⟨t',rfl⟩:=ry;exact PySem.EqMixed.eq_str_int (bI I q (by simp))
  | str j=>obtain ⟨t',rfl⟩:=ry;exact eq_str (bI I q Km)
  | _=>exact absurd (show false=true from hs) Bool.false_ne_true
 | byt i =>
  obtain ⟨t,rfl⟩:=rx
  cases y with
  | byt j=>obtain ⟨t',rfl⟩:=ry;exact PySem.W.eq_bytes (bI I q Ko)
  | _=>exact absurd (show false=true from hs) Bool.false_ne_true
 | _=>cases y <;> exact absurd (show false=true from hs) Bool.false_ne_true
theorem tH:OpR X (compareOp .NotEq) rNe:=by
 intro pins s σ H x y v u Q I rx ry h
 obtain ⟨hs,q⟩:=h
 cases x with
 | non =>
  cases rx
  cases y with
  | non=>cases ry;exact PySem.EqNone.ne_none_none (bI I q (by simp))
  | bl j=>cases ry;exact PySem.EqNone.ne_none_bool (bI I q (by simp))
  | int j=>obtain ⟨t',rfl⟩:=ry;exact PySem.EqNone.ne_none_int (bI I q (by simp))
  | str j=>obtain ⟨t',rfl⟩:=ry;exact PySem.EqNone.ne_none_str (bI I q (by simp))
  | _=>exact absurd (show false=true from hs) Bool.false_ne_true
 | bl i =>
  cases rx
  cases y with
  | non=>cases ry;exact PySem.EqNone.ne_bool_none (bI I q (by simp))
  | bl j=>cases ry;exact ne_bool (bI I q (congrArg not Px))
  | str j=>obtain ⟨t',rfl⟩:=ry;exact PySem.EqMixed.ne_bool_str (bI I q (by simp))
  | _=>exact absurd (show false=true from hs) Bool.false_ne_true
 | int i =>
  obtain ⟨t,rfl⟩:=rx
  cases y with
  | non=>cases ry;exact PySem.EqNone.ne_int_none (bI I q (by simp))
  | int j=>obtain ⟨t',rfl⟩:=ry;exact ne_int (bI I q (congrArg not Kn))
  | str j=>obtain ⟨t',rfl⟩:=ry;exact PySem.EqMixed.ne_int_str (bI I q (by simp))
  | _=>exact absurd (show false=true from hs) Bool.false_ne_true
 | str i =>
  obtain ⟨t,rfl⟩:=rx
  cases y with
  | non=>cases ry;exact PySem.EqNone.ne_str_none (bI I q (by simp))
  | bl j=>cases ry;exact PySem.EqMixed.ne_str_bool (bI I q (by simp))
  | int j=>obtain ⟨t',rfl⟩:=ry;exact PySem.EqMixed.ne_str_int (bI I q (by simp))
  | str j=>obtain ⟨t',rfl⟩:=ry;exact ne_str (bI I q (congrArg not Km))
  | _=>exact absurd (show false=true from hs) Bool.false_ne_true
 | byt i =>
  obtain ⟨t,rfl⟩:=rx
  cases y with
  | byt j=>obtain ⟨t',rfl⟩:=ry;exact PySem.W.ne_bytes (bI I q (congrArg not Ko))
  | _=>exact absurd (show false=true from hs) Bool.false_ne_true
 | _=>cases y <;> exact absurd (show false=true from hs) Bool.false_ne_true
theorem zH:OpR X (compareOp .Lt) (rI0 fun i j=>.bl (decide (i < j))):=opB0 fun _ _ _ _ _ _ _ q=>lt_int q
theorem Dn:OpR X (compareOp .Gt) (rI0 fun i j=>.bl (decide (j < i))):=opB0 fun _ _ _ _ _ _ _ q=>gt_int q
theorem op_ge:OpR X (compareOp .GtE) (rI0 fun i j=>.bl (decide (j<=i))):=opB0 fun _ _ _ _ _ _ _ q=>ge_int q
theorem op_isN:OpR X (compareOp .Is) (fun x y H Q=>y=.non/\Q (.bl (decide (x=.non))) H):=by
 intro pins s σ H x y v u Q I rx ry h
 obtain ⟨rfl,q⟩:=h
 cases ry
 refine is_none_gen (bI I q ?_)
 cases x <;> first
  | (cases rx;rfl)
  | (obtain ⟨t,rfl⟩:=rx;rfl)
theorem OpR.or {r r':R2} (h:OpR X f r) (h':OpR X f r'):OpR X f (fun x y H Q=>r x y H Q∨r' x y H Q):=by
 intro pins s σ H x y v u Q I rx ry q
 rcases q with q | q
 ·exact h pins s σ H x y v u Q I rx ry q
 ·exact h' pins s σ H x y v u Q I rx ry q
theorem bL (b:Expr) (h:op≠.In:=by decide) (h2:op≠.NotIn:=by decide):behindInMarks op b=false:=by
 have e1:(op == CmpOp.In)=false:=by cases op <;> first | rfl | exact absurd rfl h
 have e2:(op == CmpOp.NotIn)=false:=by cases op <;> first | rfl | exact absurd rfl h2
 cases b <;> simp [behindInMarks,e1,e2]
theorem Js {r:R2} (ho:OpR X (compareOp op) r) (ha:PE X a ta) (hb:PE X b tb) (hm:behindInMarks op b=false):PE X (.Compare a [op] [b] pos) (tOp r ta tb):=by
 intro pins s σ H Q I h
 exact wpAny_Compare1 (binT ha hb I h fun v u s2 x y H2 I2 rx ry q=>ho pins s2 σ H2 x y v u Q I2 rx ry q) hm
def bA (t:TE):TT:=fun σ H Q=>t σ H fun x H'=>exB x fun k=>Q k H'
theorem bE {r:R2} (ho:OpR X (compareOp op) r) (ha:PE X a ta) (hb:PE X b tb) (hm:behindInMarks op b=false):PT X (.Compare a [op] [b] pos) (bA (tOp r ta tb)):=by
 intro pins s σ H Q I h
 refine wpAny_isTrue_Compare1 (thn (ha pins s σ H _ I h) fun v s1 ⟨x,H1,I1,r1,q1⟩=>thn (hb pins s1 σ H1 _ I1 q1) fun u s2 ⟨y,H2,I2,r2,q2⟩ =>
  thn (ho pins s2 σ H2 x y v u _ I2 r1 r2 q2) fun c s3 ⟨z,H3,I3,r3,q3⟩=>?_) hm
 obtain ⟨k,e,q3⟩:=Eq.mp iD q3
 subst e
 cases r3
 exact wpAny_truthy_bool ⟨H3,I3,q3⟩
theorem Bk:(sizeLine:Nat) < 2 ^ 63:=by rw [sizeLine_eq];decide
theorem sX {x:V} (r:aY [x] us):∃ u,us=[u]/\aZ x u:=by
 cases r with
 | cons r1 r2=>cases r2;exact ⟨_,rfl,r1⟩
theorem zE {x:V} (r:aY [x,y] us):∃ u w',us=[u,w']/\aZ x u/\aZ y w':=by
 cases r with
 | cons r1 r2 =>
  cases r2 with
  | cons r3 r4=>cases r4;exact ⟨_,_,rfl,r1,r3⟩
theorem rE:fQ X (.builtin "abs") (fun xs H Q=>∃ i,xs=[.int i]/\Q (.int (if i < 0 then -i else i)) H):=by
 intro pins s σ H xs us Q I r h
 obtain ⟨i,rfl,q⟩:=h
 obtain ⟨u,rfl,t,rfl⟩:=sX r
 exact call_abs_int fun u tk=>⟨.int (if i < 0 then -i else i),H,I.tok _,⟨_,rfl⟩,q⟩
theorem Nl (hc:X.calm=true):fQ X (.builtin "max") (fun xs H Q=>∃ i j,xs=[.int i,.int j]/\Q (.int (if j > i then j else i)) H):=by
 intro pins s σ H xs us Q I r h
 obtain ⟨i,j,rfl,q⟩:=h
 obtain ⟨u,w',rfl,⟨t,rfl⟩,⟨t',rfl⟩⟩:=zE r
 refine max_two_ints (I.ok.hd hc) fun h' tk k=>⟨_,H,I.kept k,?_,q⟩
 by_cases hj:j > i
 ·rw [if_pos hj,if_pos hj];exact ⟨_,rfl⟩
 ·rw [if_neg hj,if_neg hj];exact ⟨_,rfl⟩
theorem Ak (hc:X.calm=true):fQ X (.builtin "min") (fun xs H Q=>∃ i j,xs=[.int i,.int j]/\Q (.int (if j < i then j else i)) H):=by
 intro pins s σ H xs us Q I r h
 obtain ⟨i,j,rfl,q⟩:=h
 obtain ⟨u,w',rfl,⟨t,rfl⟩,⟨t',rfl⟩⟩:=zE r
 refine min_two_ints (I.ok.hd hc) fun h' tk k=>⟨_,H,I.kept k,?_,q⟩
 by_cases hj:j < i
 ·rw [if_pos hj,if_pos hj];exact ⟨_,rfl⟩
 ·rw [if_neg hj,if_neg hj];exact ⟨_,rfl⟩
end
structure Gh (h:Heap) (x dx C:Addr) (mA:Str->Option Value):Prop where
 obj:h.get? x=some (PySem.W.instObj C dx)
 ns:h.Ns1 dx mA
 ne:dx≠x
theorem Mp {dx:Addr} {mA:Str->Option Value} (n:h.Ns1 dx mA):∃ od,h.get? dx=some od/\∀ name,PySem.W.lookIn name od=some (mA name):=by
 obtain ⟨o,es,ep,ho,hd,hk,_,hm⟩:=n
 refine ⟨o,ho,fun name=>?_⟩
 have e:=hm name
 unfold nsFind findBy at e
 rw [← Array.find?_toList] at e
 unfold PySem.W.lookIn
 rw [hd]
 dsimp only
 split
 ·rename_i y q
  rw [q] at e
  exact congrArg some e
 ·rename_i q
  rw [q] at e
  have a:es.toList.any (·.refKey)=false:=by
   rw [List.any_eq_false]
   intro y hy
   obtain ⟨z,t,hkey⟩:=hk y (Array.mem_toList_iff.mp hy)
   simp [DictEntry.refKey,hkey]
  have a':¬ es.toList.any (·.refKey)=true:=by rw [a];exact Bool.false_ne_true
  rw [if_neg a']
  exact congrArg some e
theorem Gh.look {x dx:Addr} {mA:Str->Option Value} (I:Gh h x dx C mA):∃ od,PySem.W.InstAt h x (PySem.W.instObj C dx) C (some od)/\∀ name,PySem.W.lookIn name od=some (mA name) :=
 let ⟨od,ho,hl⟩:=Mp I.ns
 ⟨od,⟨I.obj,rfl,rfl,ho⟩,hl⟩
section
variable {prog:Program} {w:World} {A:Around} {E:Value->Shared->Prop} {s:Shared} {K:PySem.W.Frag} {x dx C f:Addr} {mA:Str->Option Value} {name:Str} {v:Value}
theorem Up {expr:Bool} (X:K.In s.heap) (I:Gh s.heap x dx C mA) (hg:PySem.W.plainGet K C name=true) (hh:PySem.W.hasDictIn K C=true)
  (ha:PySem.W.findIn K (.ref C) name=some none) (hv:mA name=some v) (hv':PySem.W.handedIn v=true) (h:Q v { s with toks:=s.toks+1 }) :
  wpAny (model prog w) A (getAttr (.ref x) name expr) Q E s:=by
 obtain ⟨od,J,hl⟩:=I.look
 exact PySem.W.get_value X J (PySem.W.plainGet_of hg).1 (PySem.W.findObj_own hh ha rfl (by rw [hl,hv])) hv' h
theorem Rr {Q:Value×List Value->Shared->Prop} (X:K.In s.heap) (I:Gh s.heap x dx C mA) (hg:PySem.W.plainGet K C name=true)
  (hf:PySem.W.findIn K (.ref C) name=some (some (.ref f))) (ht:PySem.W.isFn K (.ref f)=true) (hv:mA name=none) (h:Q (.ref f,[.ref x]) s) :
  wpAny (model prog w) A (getMethod (.ref x) name pl) Q E s:=by
 obtain ⟨od,J,hl⟩:=I.look
 exact PySem.W.method_fn X J (PySem.W.plainGet_of hg).1 (PySem.W.plainGet_of hg).2 hf (beq_iff_eq.mp ht) (by show (PySem.W.lookIn name od).map (·.isSome)=some false;rw [hl,hv];rfl) h
theorem Tg {ns:List Str} {Q:Unit->Shared->Prop} (X:K.In s.heap) (I:Gh s.heap x dx C mA)
  (hs:PySem.W.findIn K (.ref C) "__setattr__" = some (some (.builtin "object.__setattr__"))) (hp:PySem.W.plainOver K C=true) (ht:PySem.W.takerIn K C name=some none) (hh:PySem.W.hasDictIn K C=true)
  (hw:PySem.Within mA ns) (hsz:ns.length<=sizeLine)
  (h:∀ h',Gh h' x dx C (fun y=>if y=name then some v else mA y)->Heap.SameBut dx s.heap h'->Q () { s with heap:=h',toks:=s.toks+2 }) :
  wpAny (model prog w) A (setAttr (.ref x) name v) Q E s:=by
 obtain ⟨od,J,hl⟩:=I.look
 refine PySem.W.set_plain X J hs (PySem.W.osa_open (s:={ s with toks:=s.toks+1 }) (r:=none) X J hp ht fun b=>?_)
 obtain ⟨cd,hc,hd'⟩:=PySem.W.any_some hh
 have hx:s.heap.get? x=some ⟨.ref C,some dx,.plain,#[]⟩:=I.obj
 refine wpAny_bind (wpAny_pure (wpAny_bind (wpAny_bind (wpAny_loadPart hx (wpAny_bind (PySem.W.Looks.here (s:={ s with toks:=s.toks+1 }) (PySem.W.looks_clsIn X hc) ?_))))))
 rw [hd']
 refine wpAny_pure (a:=some dx) (wpAny_bind (wpAny_pure (wpAny_bind ?_)))
 refine wpAny_nsSet1 (s:={ s with toks:=s.toks+1 }) I.ns fun h' hn2 hs2=>?_
 obtain ⟨oD,esD,epD,hoD,hdD,hcD⟩:=hn2.count (PySem.Within.cons name v hw)
 refine wpAny_bind (wpAny_lookBehind hoD (by rw [hdD];exact pastItsLine_dict (Nat.le_trans hcD (by rw [List.length_cons];omega))) ?_)
 exact wpAny_pure (h _ ⟨(hs2.2 _ (Ne.symm I.ne)).trans I.obj,hn2,I.ne⟩ hs2)
theorem Rc {R:Result->Shared->Prop} {vs:List Value} (X:K.In s.heap) (hm:PySem.W.makesIn K C=true)
  (hi:PySem.W.findIn K (.ref C) "__init__" = some (some (.ref f))) (hf:PySem.W.typeIn K (.ref f)=some (.type "function"))
  (h:codeAny (model prog w) (A.under (.builtin "type.__call__" ⟨.ref C :: vs,kw⟩)) (.call (.ref f) ⟨.ref (s.heap.objs.size+1) :: vs,kw⟩) (PySem.W.InitBack (s.heap.objs.size+1) R)
   { s with heap:=(s.heap.push PySem.W.emptyDict).push (PySem.W.instObj C s.heap.objs.size) }) :
  codeAny (model prog w) A (.call (.ref C) ⟨vs,kw⟩) R s:=by
 obtain ⟨hh,g,d,t,os⟩:=s
 exact PySem.W.make_core (PySem.W.makes_of X hm) (PySem.W.looks_findIn X hi) (fun self=>PySem.W.bind_fn X self hf) (.inl rfl) h
end
def cF (f:Str) (v:V):List (Str×V)->List (Str×V)
 | []=>[(f,v)]
 | (g,x) :: r=>if g=f then (g,v) :: r else (g,x) :: cF f v r
theorem eC (f g:Str) (v:V):∀ fs:List (Str×V),(cF f v fs).lookup g=if g=f then some v else fs.lookup g
 | []=>by
  show List.lookup g [(f,v)]=_
  by_cases h:g=f
  ·have hb:(g == f)=true:=beq_iff_eq.mpr h
   simp only [List.lookup,hb,if_pos h]
  ·have hb:(g == f)=false:=beq_eq_false_iff_ne.mpr h
   simp only [List.lookup,hb,if_neg h]
 | (k,x) :: r=>by
  have ih:=eC f g v r
  rw [show cF f v ((k,x) :: r)=(if k=f then (k,v) :: r else (k,x) :: cF f v r) from rfl]
  by_cases hk:k=f
  ·rw [if_pos hk]
   by_cases h:g=k
   ·have hb:(g == k)=true:=beq_iff_eq.mpr h
    simp only [List.lookup,hb,if_pos (h.trans hk)]
   ·have hb:(g == k)=false:=beq_eq_false_iff_ne.mpr h
    simp only [List.lookup,hb,if_neg (fun e:g=f=>h (e.trans hk.symm))]
  ·rw [if_neg hk]
   by_cases h:g=k
   ·have hb:(g == k)=true:=beq_iff_eq.mpr h
    simp only [List.lookup,hb,if_neg (fun e:g=f=>hk (h.symm.trans e))]
   ·have hb:(g == k)=false:=beq_eq_false_iff_ne.mpr h
    simp only [List.lookup,hb]
    exact ih
theorem sV (f:Str) (v:V):∀ fs:List (Str×V),f∈(cF f v fs).map (·.1)/\∀ g,g∈fs.map (·.1)->g∈(cF f v fs).map (·.1)
 | []=>⟨by simp [cF],fun g h=>by simp at h⟩
 | (k,x) :: r=>by
  obtain ⟨i1,i2⟩:=sV f v r
  rw [show cF f v ((k,x) :: r)=(if k=f then (k,v) :: r else (k,x) :: cF f v r) from rfl]
  by_cases hk:k=f
  ·rw [if_pos hk]
   subst hk
   exact ⟨by simp,fun g h=>by simpa using h⟩
  ·rw [if_neg hk]
   refine ⟨?_,fun g h=>?_⟩
   ·rw [List.map_cons]
    exact List.mem_cons_of_mem _ i1
   ·rw [List.map_cons] at h ⊢
    rcases List.mem_cons.mp h with e | e
    ·exact List.mem_cons.mpr (.inl e)
    ·exact List.mem_cons_of_mem _ (i2 g e)
theorem tZ (f:Str) (v:V):∀ fs:List (Str×V),(cF f v fs).length<=fs.length+1
 | []=>by simp [cF]
 | (k,x) :: r=>by
  have ih:=tZ f v r
  rw [show cF f v ((k,x) :: r)=(if k=f then (k,v) :: r else (k,x) :: cF f v r) from rfl]
  by_cases hk:k=f
  ·rw [if_pos hk,List.length_cons,List.length_cons];omega
  ·rw [if_neg hk,List.length_cons,List.length_cons];omega
theorem mB.some_of {o:Option Value} (r:mB (some v) o):∃ u,o=some u/\aZ v u:=by
 cases o with
 | none=>exact (show False from r).elim
 | some u=>exact ⟨u,rfl,r⟩
theorem mB.none_of {o:Option Value} (r:mB none o):o=none:=by
 cases o with
 | none=>rfl
 | some u=>exact (show False from r).elim
theorem Nc (r:aZ v u):PySem.W.handedIn u=true:=by
 cases v with
 | non=>cases (show u=Value.none from r);rfl
 | bl b=>cases (show u=Value.bool b from r);rfl
 | int i=>obtain ⟨t,e⟩:=(show ∃ t,u=Value.int i t from r);cases e;rfl
 | str x=>obtain ⟨t,e⟩:=(show ∃ t,u=Value.str x t from r);cases e;rfl
 | byt b=>obtain ⟨t,e⟩:=(show ∃ t,u=Value.bytes b t from r);cases e;rfl
 | flt b=>obtain ⟨t,e⟩:=(show ∃ t,u=Value.float b t from r);cases e;rfl
 | ref a=>cases (show u=Value.ref a from r);rfl
 | ty n=>cases (show u=Value.type n from r);rfl
section
variable {P:Program} {w:World} {H H':Hp} {h h':Heap} {a C dx:Addr} {fs fs':List (Str×V)}
theorem vC (hok:HOk P w H h) (e:H a=some (.ins C dx fs)):∃ mA,Gh h a dx C mA/\(∀ f,mB (fs.lookup f) (mA f))/\PySem.Within mA (fs.map (·.1))/\fs.length<=1000/\H dx=some (.own a):=by
 obtain ⟨d,z,ne,ob,mA,n,r,q⟩:=(show bZ P w H h a (.ins C dx fs) from hok a _ e)
 exact ⟨mA,⟨ob,n,ne⟩,r,q,z,d⟩
end
structure Cls (K:PySem.W.Frag) (C:Addr):Prop where
 pg:PySem.W.plainGet K C Str.empty=true
 hd:PySem.W.hasDictIn K C=true
 po:PySem.W.plainOver K C=true
 sa:PySem.W.findIn K (.ref C) "__setattr__" = some (some (.builtin "object.__setattr__"))
theorem Cls.get (c:Cls K C) (f:Str):PySem.W.plainGet K C f=true:=c.pg
def iE (K:PySem.W.Frag) (C:Addr) (f:Str):Prop:=PySem.W.findIn K (.ref C) f=some none
theorem iE.taker {f:Str} (n:iE K C f):PySem.W.takerIn K C f=some none:=by
 unfold PySem.W.takerIn
 rw [show PySem.W.findIn K (.ref C) f=some none from n]
 rfl
structure Oc (K:PySem.W.Frag) (C:Addr) (m:Str) (f:Addr):Prop where
 at_:PySem.W.findIn K (.ref C) m=some (some (.ref f))
 fn:PySem.W.isFn K (.ref f)=true
 kp:PySem.W.keepIn K (.ref f)=true
section
variable {X:Cx} {pins:List (Addr×Obj)} {σ:St} {H:Hp} {s:Shared} {a C dx:Addr} {fs:List (Str×V)} {f:Str} {v:V} {A:Around} {E:Value->Shared->Prop}
theorem Iv {b:Bool} (I:Inv X pins σ H s) (e:H a=some (.ins C dx fs)) (c:Cls X.K C) (n:iE X.K C f) (l:fs.lookup f=some v)
  (h:∀ u s',Inv X pins σ H s'->aZ v u->Q u s'):wpAny (model X.prog X.w) A (getAttr (.ref a) f b) Q E s:=by
 obtain ⟨mA,O,r,_,_,_⟩:=vC I.hok e
 obtain ⟨u,hu,ru⟩:=mB.some_of (v:=v) (o:=mA f) (by rw [← l];exact r f)
 exact Up I.kIn O (c.get f) c.hd n hu (Nc ru) (h u _ (I.tok _) ru)
theorem xL {m:Str} {g:Addr} {Q:Value×List Value->Shared->Prop} (I:Inv X pins σ H s) (e:H a=some (.ins C dx fs)) (c:Cls X.K C) (k:Oc X.K C m g) (l:fs.lookup m=none)
  (h:Q (.ref g,[.ref a]) s):wpAny (model X.prog X.w) A (getMethod (.ref a) m pl) Q E s:=by
 obtain ⟨mA,O,r,_,_,_⟩:=vC I.hok e
 have hn:mA m=none:=mB.none_of (by rw [← l];exact r m)
 exact Rr I.kIn O (c.get m) k.at_ k.fn hn h
theorem Hr {Q:Unit->Shared->Prop} (I:Inv X pins σ H s) (e:H a=some (.ins C dx fs)) (c:Cls X.K C) (n:iE X.K C f) (hl:fs.length < 1000) (ry:aZ y u)
  (h:∀ s',Inv X pins σ (upd H a (.ins C dx (cF f y fs))) s'->Q () s'):wpAny (model X.prog X.w) A (setAttr (.ref a) f u) Q E s:=by
 obtain ⟨mA,O,r,wi,_,ho⟩:=vC I.hok e
 have hz:(fs.map (·.1)).length<=sizeLine:=by rw [List.length_map,sizeLine_eq];omega
 refine Tg I.kIn O c.sa c.po n.taker c.hd wi hz fun h' O' sb=>h _ ?_
 have hd:∃ o,h'.get? dx=some o:=let ⟨o,_,_,e',_⟩:=O'.ns;⟨o,e'⟩
 refine I.write (x:=a) (e:=dx) (by rw [e];exact True.intro) (.inr ho) (fun b q hb z=>(sb.2 b hb).trans z) hd ?_
 refine ⟨by rw [aN O.ne];exact ho,?_,O.ne,O'.obj,_,O'.ns,fun g=>?_,fun g hg=>?_⟩
 ·have:=tZ f y fs;omega
 ·show mB ((cF f y fs).lookup g) (if g=f then some u else mA g)
  rw [eC]
  by_cases q:g=f
  ·rw [if_pos q,if_pos q];exact ry
  ·rw [if_neg q,if_neg q];exact r g
 ·by_cases q:g=f
  ·rw [q];exact (sV f y fs).1
  ·refine (sV f y fs).2 g (wi g fun z=>hg ?_)
   show (if g=f then some u else mA g)=none
   rw [if_neg q];exact z
theorem Inv.made (I:Inv X pins σ H s):Inv X pins σ (upd (upd H s.heap.objs.size (.own (s.heap.objs.size+1))) (s.heap.objs.size+1) (.ins C s.heap.objs.size []))
  { s with heap:=(s.heap.push PySem.W.emptyDict).push (PySem.W.instObj C s.heap.objs.size) }:=by
 have e1:(s.heap.push PySem.W.emptyDict).get? s.heap.objs.size=some PySem.W.emptyDict:=Heap.get?_push_size s.heap rfl
 have e2:((s.heap.push PySem.W.emptyDict).push (PySem.W.instObj C s.heap.objs.size)).get? (s.heap.objs.size+1)=some (PySem.W.instObj C s.heap.objs.size):=by
  have:=Heap.get?_push_size (s.heap.push PySem.W.emptyDict) (o:=PySem.W.instObj C s.heap.objs.size) rfl
  rwa [Heap.size_push] at this
 have e3:(s.heap.push PySem.W.emptyDict).Ns s.heap.objs.size (fun _=>none):=⟨PySem.W.emptyDict,#[],_,e1,rfl,(fun e he=>absurd he (by simp)),fun _=>rfl⟩
 have I1:=I.laid (a:=s.heap.objs.size) (o:=.own (s.heap.objs.size+1)) (h':=s.heap.push PySem.W.emptyDict) (t':=s.toks) (fun b u q=>Heap.get?_push_of_some _ q) (Nat.le_refl _) ⟨_,e1⟩
 refine I1.laid (a:=s.heap.objs.size+1) (o:=.ins C s.heap.objs.size []) (t':=s.toks) (fun b u q=>Heap.get?_push_of_some _ q) (Nat.le_of_eq (Heap.size_push _ _)) ?_
 have ne:s.heap.objs.size≠s.heap.objs.size+1:=Nat.ne_of_lt (Nat.lt_succ_self _)
 refine ⟨by rw [aN ne,aD],Nat.zero_le _,ne,e2,fun _=>none,(Heap.Ns1.of_empty e3).at fun o q=>Heap.get?_push_of_some _ q,fun _=>True.intro,fun y hy=>absurd rfl hy⟩
theorem Vb {prog:Program} {w:World} {env:Env} {f:Str} {s:Shared} (hb:attributeBase e f env (eval e env)=eval e env)
  (h:wpAny (model prog w) A (eval e env) (fun o s₁=>wpAny (model prog w) A (getAttr o f true) Q E s₁) E s):wpAny (model prog w) A (eval (.Attribute e f pos) env) Q E s :=
 Attribute_any_ h (by rw [arm_eval_Attribute,hb])
end
def iO (K:PySem.W.Frag) (ta:TE) (f:Str):TE:=fun σ H Q=>ta σ H fun x H1=>exR x fun a=>∃ C dx fs v,H1 a=some (.ins C dx fs)/\Cls K C/\iE K C f/\fs.lookup f=some v/\Q v H1
def vK (K:PySem.W.Frag) (ta tv:TE) (f:Str):TS:=fun D σ H=>tv σ H fun y H1=>ta σ H1 fun x H2=>exR x fun a=>∃ C dx fs,H2 a=some (.ins C dx fs)/\Cls K C/\iE K C f/\fs.length < 1000 /\
 D.nx σ (upd H2 a (.ins C dx (cF f y fs)))
section
variable {X:Cx} {o e value:Expr} {f:Str} {pos pos' tpos:Pos} {ta tv:TE}
theorem iC (he:PE X e ta) (hb:attributeBase e f X.env (eval e X.env)=eval e X.env):PE X (.Attribute e f pos) (iO X.K ta f):=by
 intro pins s σ H Q I h
 refine Vb hb (thn (he pins s σ H _ I h) fun u s1 ⟨x,H1,I1,rx,q0⟩=>?_)
 obtain ⟨a,ex,C,dx,fs,v,ea,c,n,l,q⟩:=Eq.mp dY q0
 subst ex
 obtain rfl:u=Value.ref a:=rx
 exact Iv I1 ea c n l fun u' s2 I2 ru=>⟨v,H1,I2,ru,q⟩
theorem sD (ha:PE X o ta) (hv:PE X value tv) (hs:swapsWith value (some (.Attribute o f pos')) pos.line X.env=pure false):PS X (.Assign [.Attribute o f pos'] value pos) (vK X.K ta tv f):=by
 intro pins s σ H D I h
 refine plainObj_wpAny_Assign_Attribute (thn (hv pins s σ H _ I h) fun u s1 ⟨y,H1,I1,ry,q⟩=>thn (ha pins s1 σ H1 _ I1 q) fun ov s2 ⟨x,H2,I2,rx,q0⟩=>?_) hs
 obtain ⟨a,ex,C,dx,fs,ea,c,n,l,q2⟩:=Eq.mp dY q0
 subst ex
 obtain rfl:ov=Value.ref a:=rx
 exact Hr I2 ea c n l ry fun s3 I3=>⟨σ,_,I3,q2⟩
end
section
variable {X:Cx} {pins:List (Addr×Obj)} {σ:St} {H:Hp} {s:Shared} {A:Around} {E:Value->Shared->Prop} {Q:Value->Shared->Prop} {c:Value} {b:Bool}
inductive uJ (K:PySem.W.Frag) (H:Hp):V->Value->Prop where
 | non:uJ K H .non (.type "NoneType")
 | bl (x:Bool):uJ K H (.bl x) (.type "bool")
 | int (i:Int):uJ K H (.int i) (.type "int")
 | str (x:Str):uJ K H (.str x) (.type "str")
 | flt (x:UInt64):uJ K H (.flt x) (.type "float")
 | lst {a:Addr} {xs:List V} (e:H a=some (.lst xs)):uJ K H (.ref a) (.type "list")
 | frz {a:Addr} {o:Obj} {xs:List V} (e:H a=some (.frz o (.lst xs))):uJ K H (.ref a) (.type "list")
 | tup {a:Addr} {xs:List V} (e:H a=some (.tup xs)):uJ K H (.ref a) (.type "tuple")
 | dK {a:Addr} {kvs:List (Key×V)} (e:H a=some (.dK kvs)):uJ K H (.ref a) (.type "dict")
 | dT {a:Addr} {kvs:List (List Key×V)} (e:H a=some (.dT kvs)):uJ K H (.ref a) (.type "dict")
 | ins {a C dx:Addr} {fs:List (Str×V)} (e:H a=some (.ins C dx fs)) (cl:Cls K C) (ha:PySem.W.findIn K (.ref C) "__class__" = some (some (.builtin "object.__class__")))
   (hn:PySem.W.specialIn K (.builtin "object.__class__") "__get__" = some (some (.builtin "getset_descriptor.__get__"))) (htk:PySem.W.takesIn K (.builtin "object.__class__")=some true)
   (hm:PySem.W.mroIn K C (.type "object")=some true):uJ K H (.ref a) (.ref C)
theorem kC {x:V} {t:Value} (I:Inv X pins σ H s) (rx:aZ x u) (ty:uJ X.K H x t) (e:PySem.W.kitOne X.K t c=some b) (h:∀ tk,Q (.bool b) { s with toks:=tk }) :
  wpAny (model X.prog X.w) A (call (.builtin "isinstance") [u,c]) Q E s:=by
 cases ty with
 | non=>cases (show u=Value.none from rx);exact PySem.W.kia_one PySem.W.kitx_none I.kIn True.intro e (fun z=>nomatch z) h
 | bl y=>cases (show u=Value.bool y from rx);exact PySem.W.kia_one PySem.W.kitx_bool I.kIn True.intro e (fun z=>nomatch z) h
 | int i=>obtain ⟨t,q⟩:=(show ∃ t,u=Value.int i t from rx);cases q;exact PySem.W.kia_one PySem.W.kitx_int I.kIn True.intro e (fun z=>nomatch z) h
 | str y=>obtain ⟨t,q⟩:=(show ∃ t,u=Value.str y t from rx);cases q;exact PySem.W.kia_one PySem.W.kitx_str I.kIn True.intro e (fun z=>nomatch z) h
 | flt y=>obtain ⟨t,q⟩:=(show ∃ t,u=Value.float y t from rx);cases q;exact PySem.W.kia_one PySem.W.kitx_float I.kIn True.intro e (fun z=>nomatch z) h
 | @lst a xs ea =>
  cases (show u=Value.ref a from rx)
  obtain ⟨_,_,n,_,h1⟩:=(show bZ X.prog X.w H s.heap a (.lst xs) from I.hok a _ ea)
  exact PySem.W.kia_one PySem.W.kitx_list I.kIn ⟨_,h1,rfl⟩ e (fun z=>nomatch z) h
 | @frz a ob xs ea =>
  cases (show u=Value.ref a from rx)
  obtain ⟨_,_,_,n,_,h1⟩:=(show bZ X.prog X.w H s.heap a (.frz ob (.lst xs)) from I.hok a _ ea)
  exact PySem.W.kia_one PySem.W.kitx_list I.kIn ⟨_,h1,rfl⟩ e (fun z=>nomatch z) h
 | @tup a xs ea =>
  cases (show u=Value.ref a from rx)
  obtain ⟨_,_,_,p⟩:=(show bZ X.prog X.w H s.heap a (.tup xs) from I.hok a _ ea)
  obtain ⟨o,h1,h2,_⟩:=p
  exact PySem.W.kia_one PySem.W.kitx_tuple I.kIn ⟨o,h1,h2⟩ e (fun z=>nomatch z) h
 | @dK a kvs ea =>
  cases (show u=Value.ref a from rx)
  obtain ⟨_,_,vs,_,p⟩:=(show bZ X.prog X.w H s.heap a (.dK kvs) from I.hok a _ ea)
  obtain ⟨o,es,ep,h1,h2,_⟩:=p
  exact PySem.W.kia_one PySem.W.kitx_dict I.kIn ⟨o,h1,h2.1⟩ e (fun z=>nomatch z) h
 | @dT a kvs ea =>
  cases (show u=Value.ref a from rx)
  obtain ⟨_,_,xs,_,o,es,ep,h1,h2,_⟩:=(show bZ X.prog X.w H s.heap a (.dT kvs) from I.hok a _ ea)
  exact PySem.W.kia_one PySem.W.kitx_dict I.kIn ⟨o,h1,h2.1⟩ e (fun z=>nomatch z) h
 | @ins a C dx fs ea cl ha hn htk hm =>
  cases (show u=Value.ref a from rx)
  obtain ⟨mA,O,_⟩:=vC I.hok ea
  obtain ⟨od,J,_⟩:=O.look
  exact PySem.W.kia_one (PySem.W.kitx_own (cl.get _) cl.hd ha hn htk hm) I.kIn J e (fun z=>nomatch z) h
end
structure cV (k:Nat) (A:Around):Prop where
 hd:A.handled=none
 dp:A.depth+3 * k+5 < recursionLimit
 un:A.units+16 * k+200 < cLine
theorem cV.mono {k:Nat} (r:cV k A) (h:j<=k):cV j A:=⟨r.hd,by have:=r.dp;omega,by have:=r.un;omega⟩
theorem cV.deeper {k:Nat} (r:cV (k+1) A) (env:Env):cV k (A.deeper env) :=
 ⟨r.hd,by have:=r.dp;show A.depth+1+3 * k+5 < _;omega,by have:=r.un;show A.units+3+16 * k+200 < _;omega⟩
theorem cV.in1 {k:Nat} (r:cV (k+1) A):cV k A.in1 :=
 ⟨r.hd,by have:=r.dp;show A.depth+3 * k+5 < _;omega,by have:=r.un;show A.units+1+16 * k+200 < _;omega⟩
theorem Ip:(A.under (.builtin "type.__call__" ⟨.ref C :: us,kw⟩)).depth=A.depth+1:=by
 first | rfl | simp [Around.under,Code.weight,Code.isCreation,Code.isGuard,Code.isCaller,Code.frames,Code.isFrame,guardIds]
theorem Il:(A.under (.builtin "type.__call__" ⟨.ref C :: us,kw⟩)).units=A.units+1:=by
 first | rfl | simp [Around.under,Code.cUnits,Code.frames,Code.isFrame]
theorem cV.make {k:Nat} (r:cV (k+1) A) (C:Addr) (us:List Value) (kw:List (Str×Value)):cV k (A.under (.builtin "type.__call__" ⟨.ref C :: us,kw⟩)) :=
 ⟨r.hd,by have:=r.dp;rw [Ip];omega,by have:=r.un;rw [Il];omega⟩
theorem cV.depth {k:Nat} (r:cV k A):A.depth < recursionLimit:=by have:=r.dp;omega
theorem cV.units {k:Nat} (r:cV k A):A.units+64 < cLine:=by have:=r.un;omega
def aM:TA:=fun _ H Q=>Q [] H
def aC (ta:TE) (tr:TA):TA:=fun σ H Q=>ta σ H fun x H1=>tr σ H1 fun xs H2=>Q (x :: xs) H2
section
variable {X:Cx} {e:Expr} {es:List Expr} {te:TE} {t:TA} {pos:Pos}
theorem aF:PA X [] aM:=fun _ _ _ _ H Q I h=>Calls.spliced_nil ⟨[],H,I,.nil,h⟩
theorem aA (ha:PE X e te) (hr:PA X es t) (hs:starEach (e :: es) X.env=(false,eval e X.env) :: starEach es X.env:=by rfl):PA X (e :: es) (aC te t):=by
 intro pos pins s σ H Q I h
 rw [hs]
 show wpAny _ _ (spliced ((false,eval e X.env) :: backTo pos (starEach es X.env))) _ _ s
 refine Calls.spliced_cons (thn (ha pins s σ H _ I h) fun u s1 ⟨x,H1,I1,r1,q1⟩=>?_)
 exact thn (hr pos pins s1 σ H1 _ I1 q1) fun us s2 ⟨xs,H2,I2,r2,q2⟩=>⟨x :: xs,H2,I2,.cons r1 r2,q2⟩
def fR (t:TA):TE:=fun σ H Q=>t σ H fun xs H1=>xs.length<=sizeLine/\∀ p,H1 p=none->Q (.ref p) (upd H1 p (.tup xs))
def jC (t:TA):TE:=fun σ H Q=>t σ H fun xs H1=>xs.length<=sizeLine/\∀ p,H1 p=none->Q (.ref p) (upd H1 p (.lst xs))
theorem cP {x1} (h:PA X es t):PE X (.Tuple es x1 pos) (fR t):=by
 intro pins s σ H Q I hq
 refine wpAny_Tuple_spliced (thn (h pos pins s σ H _ I hq) fun us s1 ⟨xs,H1,I1,r,z,q⟩=>⟨by rw [← r.length];exact z,?_⟩)
 have hf:H1 s1.heap.objs.size=none:=I1.hok.fresh (Nat.le_refl _)
 refine ⟨.ref s1.heap.objs.size,upd H1 s1.heap.objs.size (.tup xs),I1.laid (t':=s1.toks) (fun b u e=>Heap.get?_push_of_some _ e) (Nat.le_refl _) ?_,rfl,q _ hf⟩
 exact ⟨z,us,r,⟨_,Heap.get?_push_size _ rfl,rfl,_,rfl⟩⟩
theorem dW (h:PA X es t):PE X (.List es pos) (jC t):=by
 intro pins s σ H Q I hq
 refine wpAny_List_spliced (thn (h pos pins s σ H _ I hq) fun us s1 ⟨xs,H1,I1,r,z,q⟩=>⟨by rw [← r.length];exact z,?_⟩)
 have hf:H1 s1.heap.objs.size=none:=I1.hok.fresh (Nat.le_refl _)
 refine ⟨.ref s1.heap.objs.size,upd H1 s1.heap.objs.size (.lst xs),I1.laid (t':=s1.toks) (fun b u e=>Heap.get?_push_of_some _ e) (Nat.le_refl _) ?_,rfl,q _ hf⟩
 exact ⟨z,us,0,r,Heap.get?_push_size _ rfl⟩
end
abbrev Sp:=List V->Hp->VK->XK->Prop
abbrev CXT:=List Env->Hp->Shared->XK->Value->Shared->Prop
structure yS (P:Program) (w:World) (K:PySem.W.Frag) (mg:Str->Option Value) (base:Heap) (A:Around) (outer:List Env) (s:Shared) (H:Hp):Prop where
 frames:A.frames=some outer
 mod:Mod K mg base
 bs:∀ b o,base.get? b=some o->s.heap.get? b=some o/\H b=none
 bsz:base.objs.size<=s.heap.objs.size
 funs:s.heap.FunFrames base outer
 frf:∀ b∈frs outer,H b=none
 hok:HOk P w H s.heap
 bare:AllBare s.gens
def CE (outer:List Env) (P:Program) (w:World) (H:Hp) (s:Shared) (Q:VK) (u:Value) (s':Shared):Prop :=
 ∃ v H',s'.os=s.os/\AllBare s'.gens/\Un (frs outer) [] H H' s.heap s'.heap/\HOk P w H' s'.heap/\aZ v u/\Q v H'
def CR (CX:CXT) (outer:List Env) (P:Program) (w:World) (H:Hp) (s:Shared) (Q:VK) (E:XK) (r:Result) (s':Shared):Prop :=
 match r with
 | .ok (.ret u)=>CE outer P w H s Q u s'
 | .ok _=>False
 | .error e=>CX outer H s E e s'
structure fT (P:Program) (w:World) (K:PySem.W.Frag) (mg:Str->Option Value) (base:Heap) (CX:CXT) (k:Nat) (f:Addr) (fd:FuncData) (ps:List Str) (sp:Sp):Prop where
 len:∀ vs H Q E,sp vs H Q E->vs.length=ps.length
 run:∀ (A:Around) (outer:List Env) (s:Shared) (H:Hp) (args:Args) (us:List Value) (vs:List V) (Q:VK) (E:XK),cV k A->yS P w K mg base A outer s H->BindsTo s fd args (ps.zip us)->aY vs us->sp vs H Q E ->
  codeAny (model P w) A (.call (.ref f) args) (CR CX outer P w H s Q E) s
theorem fT.mono {w:World} {CX:CXT} {k:Nat} {f:Addr} (F:fT P w K mg base CX j f fd ps sp) (h:j<=k) :
  fT P w K mg base CX k f fd ps sp:=⟨F.len,fun A outer s H args us vs Q E hr=>F.run A outer s H args us vs Q E (hr.mono h)⟩
theorem fT.imp {w:World} {CX:CXT} {k:Nat} {f:Addr} {sp':Sp} (F:fT P w K mg base CX k f fd ps sp)
  (h:∀ vs H Q E,sp' vs H Q E->sp vs H Q E):fT P w K mg base CX k f fd ps sp' :=
 ⟨fun vs H Q E q=>F.len vs H Q E (h _ _ _ _ q),fun A outer s H args us vs Q E hr he hb hv hs=>F.run A outer s H args us vs Q E hr he hb hv (h _ _ _ _ hs)⟩
theorem yS.make {w:World} (e:yS P w K mg base A outer s H) (C:Addr) (us:List Value) (kw:List (Str×Value)) :
  yS P w K mg base (A.under (.builtin "type.__call__" ⟨.ref C :: us,kw⟩)) outer s H:=⟨by first | exact e.frames | (simpa [Around.under,Code.envs,Code.isFrame,pushEnvs] using e.frames),e.mod,e.bs,e.bsz,e.funs,e.frf,e.hok,e.bare⟩
theorem yS.in1 {w:World} (e:yS P w K mg base A outer s H) :
  yS P w K mg base A.in1 outer s H:=⟨e.frames,e.mod,e.bs,e.bsz,e.funs,e.frf,e.hok,e.bare⟩
section
variable {X:Cx} {pins:List (Addr×Obj)} {σ:St} {H:Hp} {s s':Shared}
theorem Inv.env0 (I:Inv X pins σ H s):yS X.prog X.w X.K X.mg X.base X.A X.stack s H :=
 ⟨I.ok.frames,I.ok.mod,I.bs,Nat.le_trans I.ok.bsz I.sz,I.stack,I.stkFree,I.hok,I.bare⟩
theorem Inv.after {Q:VK} (I:Inv X pins σ H s) (h:CE X.stack X.prog X.w H s Q u s'):EP X pins σ Q u s':=by
 obtain ⟨v,H',os,bare,un,hok,r,q⟩:=h
 obtain ⟨hh,g,d,t,os'⟩:=s'
 obtain rfl:os'=s.os:=os
 exact ⟨v,H',I.call (h':=hh) (g':=g) (d':=d) (t':=t) (ch:=[]) un hok bare (fun b z=>absurd z (by simp)),r,q⟩
end
def aU (sp:Sp) (dvs:List V) (E:XK) (t:TA):TE:=fun σ H Q=>t σ H fun vs H1=>sp (vs ++ dvs) H1 Q E
def eN (C:Addr) (m:Str) (sp:Sp) (dvs:List V) (E:XK) (ta:TE) (t:TA):TE:=fun σ H Q=>ta σ H fun x H1=>exR x fun a=>∃ dx fs,H1 a=some (.ins C dx fs)/\fs.lookup m=none /\
 t σ H1 fun vs H2=>sp (x :: (vs ++ dvs)) H2 Q E
def tD (C:Addr) (sp:Sp) (dvs:List V) (E:XK) (t:TA):TE:=fun σ H Q=>t σ H fun vs H1=>∀ x dx,H1 x=none->H1 dx=none->dx≠x ->
 sp (.ref x :: (vs ++ dvs)) (upd (upd H1 dx (.own x)) x (.ins C dx [])) (fun v H2=>v=.non/\Q (.ref x) H2) E
def gW (K:PySem.W.Frag) (fd:FuncData) (ps:List Str) (ds:List Value):Prop :=
 ∀ (s:Shared) (us:List Value),K.In s.heap->(us ++ ds).length=ps.length->BindsTo s fd ⟨us,[]⟩ (ps.zip (us ++ ds))
theorem gW.all (h:∀ us:List Value,us.length=ps.length->bindArgs fd ⟨us,[]⟩=pure (ps.zip us)):gW K fd ps []:=fun s us _ hl=>by
 rw [List.append_nil] at hl ⊢
 exact .of_eq (h us hl)
def mL (CX:CXT) (X:Cx) (E:XK):Prop:=∀ (pins:List (Addr×Obj)) (σ:St) (H:Hp) (s:Shared) (e:Value) (s':Shared),Inv X pins σ H s->CX X.stack H s E e s'->X.xe e s'
section
variable {X:Cx} {CX:CXT} {k:Nat} {f C:Addr} {fd:FuncData} {ps:List Str} {sp:Sp} {dvs:List V} {ds:List Value} {E:XK} {x m:Str} {p pos apos:Pos} {e o:Expr} {es:List Expr} {ta:TE} {t:TA}
theorem Gx {Q:VK} (F:fT X.prog X.w X.K X.mg X.base CX k f fd ps sp) (hr:cV k X.A) (hb:gW X.K fd ps ds) (hd:aY dvs ds) (hx:mL CX X E)
  (I:Inv X pins σ H s) (r:aY vs us) (h:sp (vs ++ dvs) H Q E):wpAny (model X.prog X.w) X.A (call (.ref f) us) (EP X pins σ Q) X.xe s:=by
 have r2:aY (vs ++ dvs) (us ++ ds):=r.append hd
 have hl:(us ++ ds).length=ps.length:=by rw [← r2.length];exact F.len _ _ _ _ h
 refine wpAny_call (codeAny_mono (F.run X.A X.stack s H ⟨us,[]⟩ (us ++ ds) (vs ++ dvs) Q E hr I.env0 (hb s us I.kIn hl) r2 h) fun r s' hq=>?_)
 cases r with
 | error e=>exact hx pins σ H s e s' I hq
 | ok fl =>
  cases fl with
  | ret u=>exact I.after hq
  | next=>exact False.elim hq
  | brk=>exact False.elim hq
  | cont=>exact False.elim hq
theorem Jt (F:fT X.prog X.w X.K X.mg X.base CX k f fd ps sp) (hr:cV k X.A) (hg:Gl X x) (hm:X.mg x=some (.ref f)) (hk:PySem.W.keepIn X.K (.ref f)=true) (hb:gW X.K fd ps ds) (hd:aY dvs ds) (hx:mL CX X E)
  (ha:PA X (e :: es) t) (hdb:(x == ("__debug__" : Str))=false:=by decide) (he:starEach (e :: es) X.env=(false,eval e X.env) :: starEach es X.env:=by rfl) (hpl:(backTo pos (starEach es X.env)).any (·.1)=false:=by rfl) :
  PE X (.Call (.Name x p) (e :: es) [] pos) (aU sp dvs E t):=by
 intro pins s σ H Q I h
 refine wpAny_Call_Name_kw (nO I hg hm ?_ hdb)
 refine PySem.W.callWith_K (h₀:=X.base) I.ok.mod.kin hk (thn (ha pos pins s σ H _ I h) fun us s1 ⟨vs,H1,I1,r,q⟩=>⟨I1.kIn,?_⟩) he hpl
 exact Gx F hr hb hd hx I1 r q
theorem Tp (he:PE X o ta) (c:Cls X.K C) (hm:Oc X.K C m f) (F:fT X.prog X.w X.K X.mg X.base CX k f fd ps sp) (hr:cV k X.A) (hb:gW X.K fd ps ds) (hd:aY dvs ds) (hx:mL CX X E) (ha:PA X (e :: es) t)
  (hst:starEach (e :: es) X.env=(false,eval e X.env) :: starEach es X.env:=by rfl) (hpl:(backTo pos (starEach es X.env)).any (·.1)=false:=by rfl)
  (ht:eval (.Call (.Attribute o m apos) (e :: es) [] pos) X.env=(do
   let ov ← eval o X.env
   standAt apos.atName
   let (f,first) ← holding [ov] (getMethod ov m pl)
   callWith pos f first (backTo pos (starEach (e :: es) X.env)) (backToKw pos (keywordEach [] X.env))):=by rfl) :
  PE X (.Call (.Attribute o m apos) (e :: es) [] pos) (eN C m sp dvs E ta t):=by
 intro pins s σ H Q I h
 refine PySem.W.methodCall_KW (pl:=pl) (thn (he pins s σ H _ I h) fun u s1 ⟨x,H1,I1,rx,q0⟩=>?_) ht
 obtain ⟨a,ex,dx,fs,ea,l,q⟩:=Eq.mp dY q0
 subst ex
 obtain rfl:u=Value.ref a:=rx
 refine xL I1 ea c hm l ?_
 refine PySem.W.callWith_K (first:=[.ref a]) (h₀:=X.base) I.ok.mod.kin hm.kp (thn (ha pos pins s1 σ H1 _ I1 q) fun us s2 ⟨vs,H2,I2,r,q2⟩=>⟨I2.kIn,?_⟩) hst hpl
 exact Gx (us:=.ref a :: us) (vs:=.ref a :: vs) F hr hb hd hx I2 (.cons rfl r) q2
theorem Qs (he:PE X o ta) (c:Cls X.K C) (hm:Oc X.K C m f) (F:fT X.prog X.w X.K X.mg X.base CX k f fd ps sp) (hr:cV k X.A) (hb:gW X.K fd ps ds) (hd:aY dvs ds) (hx:mL CX X E)
  (ht:eval (.Call (.Attribute o m apos) [] [] pos) X.env=(do
   let ov ← eval o X.env
   standAt apos.atName
   let (f,first) ← holding [ov] (getMethod ov m pl)
   callWith pos f first (backTo pos (starEach [] X.env)) (backToKw pos (keywordEach [] X.env))):=by rfl) :
  PE X (.Call (.Attribute o m apos) [] [] pos) (eN C m sp dvs E ta aM):=by
 intro pins s σ H Q I h
 refine PySem.W.methodCall_KW (pl:=pl) (thn (he pins s σ H _ I h) fun u s1 ⟨x,H1,I1,rx,q0⟩=>?_) ht
 obtain ⟨a,ex,dx,fs,ea,l,q⟩:=Eq.mp dY q0
 subst ex
 obtain rfl:u=Value.ref a:=rx
 refine xL I1 ea c hm l ?_
 exact PySem.W.callWith_K0 (first:=[.ref a]) I1.kIn hm.kp (Gx (us:=[.ref a]) (vs:=[.ref a]) F hr hb hd hx I1 (.cons rfl .nil) q)
structure Mk (K:PySem.W.Frag) (C f:Addr):Prop where
 makes:PySem.W.makesIn K C=true
 init:PySem.W.findIn K (.ref C) "__init__" = some (some (.ref f))
 fn:PySem.W.isFn K (.ref f)=true
 kp:PySem.W.keepIn K (.ref C)=true
theorem Qg {Q:VK} (M:Mk X.K C f) (F:fT X.prog X.w X.K X.mg X.base CX k f fd ps sp) (hr:cV (k+1) X.A) (hb:gW X.K fd ps ds) (hd:aY dvs ds)
  (hx:mL CX X E) (I:Inv X pins σ H s) (r:aY vs us)
  (h:∀ x dx,H x=none->H dx=none->dx≠x->sp (.ref x :: (vs ++ dvs)) (upd (upd H dx (.own x)) x (.ins C dx [])) (fun v H2=>v=.non/\Q (.ref x) H2) E) :
  wpAny (model X.prog X.w) X.A (call (.ref C) us) (EP X pins σ Q) X.xe s:=by
 have hq:=h (s.heap.objs.size+1) s.heap.objs.size (I.hok.fresh (Nat.le_succ _)) (I.hok.fresh (Nat.le_refl _)) (Nat.ne_of_lt (Nat.lt_succ_self _))
 have I2:=Inv.made (C:=C) I
 have r2:aY (V.ref (s.heap.objs.size+1) :: (vs ++ dvs)) (Value.ref (s.heap.objs.size+1) :: (us ++ ds)):=.cons rfl (r.append hd)
 have hl:(Value.ref (s.heap.objs.size+1) :: us ++ ds).length=ps.length:=by
  have e:=r2.length
  rw [F.len _ _ _ _ hq] at e
  exact e.symm
 refine wpAny_call (Rc (f:=f) I.kIn M.makes M.init (beq_iff_eq.mp M.fn) (codeAny_mono (F.run _ X.stack _ _ ⟨Value.ref (s.heap.objs.size+1) :: us,[]⟩ (Value.ref (s.heap.objs.size+1) :: (us ++ ds)) _ _ E (hr.make C us [])
  (I2.env0.make C us []) (hb _ (Value.ref (s.heap.objs.size+1) :: us) I2.kIn hl) r2 hq) fun r s' hq'=>?_))
 cases r with
 | error e=>exact hx pins σ _ _ e s' I2 hq'
 | ok fl =>
  cases fl with
  | ret u =>
   obtain ⟨v,H',I3,rv,ev,q3⟩:=I2.after hq'
   subst ev
   exact ⟨rv,⟨V.ref (s.heap.objs.size+1),H',I3,rfl,q3⟩⟩
  | next=>exact False.elim hq'
  | brk=>exact False.elim hq'
  | cont=>exact False.elim hq'
theorem Tq (M:Mk X.K C f) (F:fT X.prog X.w X.K X.mg X.base CX k f fd ps sp) (hr:cV (k+1) X.A) (hg:Gl X x) (hm:X.mg x=some (.ref C)) (hb:gW X.K fd ps ds) (hd:aY dvs ds) (hx:mL CX X E)
  (ha:PA X (e :: es) t) (hdb:(x == ("__debug__" : Str))=false:=by decide) (he:starEach (e :: es) X.env=(false,eval e X.env) :: starEach es X.env:=by rfl) (hpl:(backTo pos (starEach es X.env)).any (·.1)=false:=by rfl) :
  PE X (.Call (.Name x p) (e :: es) [] pos) (tD C sp dvs E t):=by
 intro pins s σ H Q I h
 refine wpAny_Call_Name_kw (nO I hg hm ?_ hdb)
 refine PySem.W.callWith_K (h₀:=X.base) I.ok.mod.kin M.kp (thn (ha pos pins s σ H _ I h) fun us s1 ⟨vs,H1,I1,r,q⟩=>⟨I1.kIn,?_⟩) he hpl
 exact Qg M F hr hb hd hx I1 r q
end
structure gL (N P:List Str) (sc:Scope):Prop where
 kind:sc.kind=.function
 co:sc.isCoroutine=false
 gen:sc.isGenerator=false
 nd:N.Nodup
 pre:N.take P.length=P
 par:∀ x∈P,sc.names.lookup x=some .local∨sc.names.lookup x=some .cell
 nofree:∀ y∈sc.names,y.2≠.free
theorem Am {kindOf:Str->Option NameKind} {x:Str}:∀ {binds:List (Str×Value)} {m:Str->Option Value},(∀ v,(x,v)∉binds)->bindL kindOf binds m x=m x
 | [],_,_=>rfl
 | (n,v) :: r,m,h=>by
  unfold bindL
  rw [Am fun w hw=>h w (List.mem_cons_of_mem _ hw)]
  split
  ·have:x≠n:=by rintro rfl;exact h v List.mem_cons_self
   simp [this]
  ·rfl
theorem Ao {kindOf:Str->Option NameKind} {x:Str}:∀ {binds:List (Str×Value)} {m:Str->Option Value},(∀ v,(x,v)∉binds)->bindC kindOf binds m x=m x
 | [],_,_=>rfl
 | (n,v) :: r,m,h=>by
  unfold bindC
  rw [Ao fun w hw=>h w (List.mem_cons_of_mem _ hw)]
  split
  ·rfl
  ·have:x≠n:=by rintro rfl;exact h v List.mem_cons_self
   simp [this]
theorem An {kindOf:Str->Option NameKind} {x:Str} {v:Value}:∀ {P:List Str} {vs:List Value} {i:Nat} {m:Str->Option Value},P.Nodup->P[i]?=some x->vs[i]?=some v->kindOf x=some .local ->
  bindL kindOf (P.zip vs) m x=some v
 | [],_,_,_,_,h,_,_=>by simp at h
 | _ :: _,[],_,_,_,_,h,_=>by simp at h
 | p :: P,w :: vs,0,m,nd,h1,h2,hk=>by
  simp at h1 h2;subst h1;subst h2
  show bindL kindOf ((p,w) :: P.zip vs) m p=_
  unfold bindL
  rw [Am fun v hv=>(List.nodup_cons.mp nd).1 (List.of_mem_zip hv).1,if_pos hk]
  simp
 | p :: P,w :: vs,i+1,m,nd,h1,h2,hk=>by
  show bindL kindOf ((p,w) :: P.zip vs) m x=_
  unfold bindL
  exact An (i:=i) (List.nodup_cons.mp nd).2 (by simpa using h1) (by simpa using h2) hk
theorem Ap {kindOf:Str->Option NameKind} {x:Str} {v:Value}:∀ {P:List Str} {vs:List Value} {i:Nat} {m:Str->Option Value},P.Nodup->P[i]?=some x->vs[i]?=some v->kindOf x≠some .local ->
  bindC kindOf (P.zip vs) m x=some v
 | [],_,_,_,_,h,_,_=>by simp at h
 | _ :: _,[],_,_,_,_,h,_=>by simp at h
 | p :: P,w :: vs,0,m,nd,h1,h2,hk=>by
  simp at h1 h2;subst h1;subst h2
  show bindC kindOf ((p,w) :: P.zip vs) m p=_
  unfold bindC
  rw [Ao fun v hv=>(List.nodup_cons.mp nd).1 (List.of_mem_zip hv).1,if_neg hk]
  simp
 | p :: P,w :: vs,i+1,m,nd,h1,h2,hk=>by
  show bindC kindOf ((p,w) :: P.zip vs) m x=_
  unfold bindC
  exact Ap (i:=i) (List.nodup_cons.mp nd).2 (by simpa using h1) (by simpa using h2) hk
def start (N:List Str) (vs:List V):St:=vs.map some ++ List.replicate (N.length - vs.length) none
def jD (CX:CXT) (P:Program) (w:World) (K:PySem.W.Frag) (mg:Str->Option Value) (base:Heap) (N:List Str) (qual:Str) (scope:Scope) (f:Addr) (cd:Value) (A:Around) (outer:List Env) (s:Shared) (H:Hp) (E:XK):Cx where
 prog:=P
 w:=w
 K:=K
 mg:=mg
 base:=base
 A:=A.deeper (envOfC qual scope s.heap.objs.size f cd)
 N:=N
 s₀:=s
 H₀:=H
 env:=envOfC qual scope s.heap.objs.size f cd
 outer:=outer
 stack:=envOfC qual scope s.heap.objs.size f cd :: outer
 ex:=[]
 calm:=true
 fn:=fun _=>true
 pn:=[]
 xe:=fun e s'=>wpAny (model P w) (A.deeper (envOfC qual scope s.heap.objs.size f cd)) (leaving (envOfC qual scope s.heap.objs.size f cd) e) (fun _ s''=>CX outer H s E e s'') (fun e' s''=>CX outer H s E e' s'') s'
theorem Ey {sc:Scope} {n:Nat} (h:sc.names.lookup x=some .cell):∃ c,(cellsFrom n sc.names []).lookup x=some c:=by
 have q:=PySem.W.cellsFrom_some sc.names n [] (.inl h)
 exact Option.isSome_iff_exists.mp q
theorem Mz {CX:CXT} {w:World} {qual:Str} {scope:Scope} {f:Addr} {cd:Value} {s1:Shared} {E:XK}
  (S:gL N ps scope) (hd:A.handled=none) (e0:yS P w K mg base A outer s H) (hl:vs.length=ps.length) (r:aY vs us)
  (x:InCallC s s.heap.objs.size (bindL (envOfC qual scope s.heap.objs.size f cd).kindOf (ps.zip us) fun _=>none) (cellsFrom (s.heap.objs.size+1) scope.names []) (bindC (envOfC qual scope s.heap.objs.size f cd).kindOf (ps.zip us) fun _=>none) s1) :
  Inv (jD CX P w K mg base N qual scope f cd A outer s H E) [] (start N vs) H s1:=by
 have hpl:ps.length<=N.length:=by have:=congrArg List.length S.pre;rw [List.length_take] at this;omega
 obtain ⟨h1,tk,rfl,hk⟩:=x.done
 have noA:∀ b:Addr,b∉(jD CX P w K mg base N qual scope f cd A outer s H E).ex:=fun b z=>absurd (show b∈([]:List Addr) from z) (by simp)
 refine ⟨⟨e0.mod,S.kind,rfl,rfl,Nat.le_refl _,fun y z c h1 h2=>?_,fun y hy=>?_,fun y c _ h=>?_,fun _=>hd,Around.frames_deeper e0.frames,.inr ⟨rfl,rfl⟩,fun b z=>absurd z (noA b),e0.bs,e0.bsz,fun b _ _=>noA b,fun b z=>absurd z (noA b),e0.funs,e0.frf⟩,
  rfl,e0.bare,Un.kept hk,⟨_,x.toInCall.ns,fun i y v h1 h2 h3=>?_⟩,fun y c h=>⟨_,x.cell y c h⟩,e0.hok.fresh (Nat.le_refl _),fun y c h=>?_,fun p hp=>absurd (show p∈([]:List (Addr×Obj)) from hp) (by simp),e0.hok.kept hk,?_⟩
 ·exact name_of_addr x.apart (PySem.mem_of_lookup h1) (PySem.mem_of_lookup h2)
 ·have hy:scope.names.lookup y=some .cell∨scope.names.lookup y=some .free:=hy
  rcases hy with hy | hy
  ·exact Ey hy
  ·exact absurd rfl (S.nofree _ (PySem.mem_of_lookup hy))
 ·exact Nat.le_of_lt (x.above y c (PySem.mem_of_lookup h))
 ·have hi:i < vs.length:=by
   unfold start at h2
   by_cases hi:i < vs.length
   ·exact hi
   ·rw [List.getElem?_append_right (by simpa using hi)] at h2
    rw [List.getElem?_replicate] at h2
    split at h2 <;> cases h2
  have ha:vs[i]?=some v:=by
   unfold start at h2
   rw [List.getElem?_append_left (by simpa using hi),List.getElem?_map] at h2
   cases e:vs[i]? with
   | none=>rw [e] at h2;cases h2
   | some a=>rw [e] at h2;cases h2;rfl
  obtain ⟨u,hu,rv⟩:=r.get ha
  have hp:ps[i]?=some y:=by
   rw [← S.pre,List.getElem?_take_of_lt (by omega)];exact h1
  have ndP:ps.Nodup:=by rw [← S.pre];exact S.nd.sublist (List.take_sublist _ _)
  refine ⟨u,rv,?_⟩
  rcases S.par y (List.mem_of_getElem? hp) with k | k
  ·exact .inl ⟨k,An ndP hp hu k⟩
  ·obtain ⟨c,e⟩:=Ey (n:=s.heap.objs.size+1) k
   refine .inr ⟨.inl k,c,e,?_⟩
   have q:=x.cell y c e
   rw [Ap ndP hp hu (by show scope.names.lookup y≠_;rw [k];decide)] at q
   exact q
 ·exact e0.hok.fresh (Nat.le_of_lt (x.above y c (PySem.mem_of_lookup h)))
 ·unfold start
  show _=N.length
  rw [List.length_append,List.length_map,List.length_replicate]
  omega
theorem Ja {CX:CXT} {w:World} {k:Nat} {f:Addr} {name qual:Str} {params:Arguments} {scope:Scope} {dV kV doc pm cdv ct oc:Value} {an od:Option Addr}
  {osl:Array (Option Value)} (lk:K.lookup f=some ⟨oc,od,.func (PySem.W.fnOf name qual params body scope dV kV doc pm an cdv ct),osl⟩) (hcd:PySem.W.codeIn K cdv qual=true) (S:gL N ps scope)
  (len:∀ vs H Q E,sp vs H Q E->vs.length=ps.length)
  (hbody:∀ (A:Around) (outer:List Env) (s:Shared) (H:Hp) (vs:List V) (Q:VK) (E:XK),cV k (A.deeper (envOfC qual scope s.heap.objs.size f cdv))->sp vs H Q E ->
   ∃ t,PSs (jD CX P w K mg base N qual scope f cdv A outer s H E) body t/\t { nx:=fun _ H'=>Q .non H',rt:=Q } (start N vs) H) :
  fT P w K mg base CX (k+1) f (PySem.W.fnOf name qual params body scope dV kV doc pm an cdv ct) ps sp:=by
 refine ⟨len,fun A outer s H args us vs Q E hr e0 hb r hsp=>?_⟩
 have hl:=len _ _ _ _ hsp
 have KX:K.In s.heap:=e0.mod.kin.keeps fun b o e=>(e0.bs b o e).1
 have lim:s.heap.NoLimit:=e0.mod.nolimit.keeps fun b o e=>(e0.bs b o e).1
 have hkind:∀ y∈ps.zip us,scope.names.lookup y.1=some .local∨(scope.names.lookup y.1=some .cell/\((cellsFrom (s.heap.objs.size+1) scope.names []).lookup y.1).isSome=true):=fun ⟨n,v⟩ hy=>by
  rcases S.par n (List.of_mem_zip hy).1 with q | q
  ·exact .inl q
  ·exact .inr ⟨q,PySem.W.cellsFrom_some _ _ _ (.inl q)⟩
 refine codeAny_call_function hr.depth (KX _ _ lk) rfl S.co S.gen rfl (PySem.W.codeRec_of KX hcd) (hb _ _ _ _ ?_)
 refine wpAny_newFunctionEnv_cells S.kind hkind fun env he s1 x=>?_
 subst he
 refine ⟨lim.keeps x.toInCall.keep,codeAny_func ?_⟩
 obtain ⟨t,ht,hq⟩:=hbody A outer s H vs Q E (hr.deeper _) hsp
 have I:Inv (jD CX P w K mg base N qual scope f cdv A outer s H E) [] (start N vs) H s1:=Mz S hr.hd e0 hl r x
 refine wpAny_mono (ht [] s1 (start N vs) H _ I hq) (fun fl s' hs=>?_) fun e s' hs=>hs
 have fin:∀ {σ':St} {H':Hp} {v:V} {u:Value},Inv (jD CX P w K mg base N qual scope f cdv A outer s H E) [] σ' H' s'->aZ v u->Q v H'->CE outer P w H s Q u s' :=
  fun {σ' H' v u} J rv q=>⟨v,H',J.os,J.bare,J.base,J.hok,rv,q⟩
 cases fl with
 | ret u =>
  obtain ⟨v,σ',H',J,rv,q⟩:=hs
  exact fin J rv q
 | next =>
  obtain ⟨σ',H',J,q⟩:=hs
  exact fin (v:=V.non) (u:=Value.none) J rfl q
 | brk =>
  obtain ⟨_,_,_,q⟩:=hs
  exact False.elim q
 | cont =>
  obtain ⟨_,_,_,q⟩:=hs
  exact False.elim q
section
variable {X:Cx} {x:Str} {p pos:Pos} {e:Expr} {es:List Expr} {t:TA} {id T:String} {r:List V->Hp->VK->Prop}
def tCB (r:List V->Hp->VK->Prop) (t:TA):TE:=fun σ H Q=>t σ H fun vs H1=>r vs H1 Q
theorem aT (hc:fQ X (.builtin id) r) (hg:Gl X x) (hm:X.mg x=none) (hv:bootBuiltins x=some (.builtin id)) (ha:PA X (e :: es) t) (hn:x ≠ "__name__":=by decide) (hdb:(x == ("__debug__" : Str))=false:=by decide)
  (he:starEach (e :: es) X.env=(false,eval e X.env) :: starEach es X.env:=by rfl) (hpl:(backTo pos (starEach es X.env)).any (·.1)=false:=by rfl):PE X (.Call (.Name x p) (e :: es) [] pos) (tCB r t):=by
 intro pins s σ H Q I h
 refine wpAny_Call_Name_kw (jE I hg hm hv ?_ hn hdb)
 exact PyProof.Rows.callWith_builtin1 (thn (ha pos pins s σ H _ I h) fun us s1 ⟨vs,H1,I1,r1,q1⟩=>hc pins s1 σ H1 vs us Q I1 r1 q1) he hpl
theorem fX (hc:fQ X (.type T) r) (hg:Gl X x) (hm:X.mg x=none) (hv:bootBuiltins x=some (.type T)) (ha:PA X (e :: es) t) (hn:x ≠ "__name__":=by decide) (hdb:(x == ("__debug__" : Str))=false:=by decide)
  (he:starEach (e :: es) X.env=(false,eval e X.env) :: starEach es X.env:=by rfl) (hpl:(backTo pos (starEach es X.env)).any (·.1)=false:=by rfl):PE X (.Call (.Name x p) (e :: es) [] pos) (tCB r t):=by
 intro pins s σ H Q I h
 refine wpAny_Call_Name_kw (jE I hg hm hv ?_ hn hdb)
 exact PyProof.Rows.callWith_type1 (thn (ha pos pins s σ H _ I h) fun us s1 ⟨vs,H1,I1,r1,q1⟩=>hc pins s1 σ H1 vs us Q I1 r1 q1) he hpl
end
end L2
namespace HT
open PySem PyProof.Rows
section
open PySem.SeqAt
open PySem.AutoSeq1 (wpAny_loadPart')
open PySem.MeetsSeq PySem.MeetsSeq2 PySem.MeetsSeq3
end
section
variable {prog:Program} {w:World} {A:Around} {E:Value->Shared->Prop} {s:Shared}
theorem cat_tup {t b:Addr} {vs ws:List Value} {Q:Value->Shared->Prop} (ht:IsTup s.heap t vs.toArray) (hb:IsTup s.heap b ws.toArray) (hv:vs≠[])
  (h1:ws=[]->Q (.ref t) s) (h2:ws≠[]->Q (.ref s.heap.objs.size) { s with heap:=s.heap.push { cls:=.type "tuple",data:=.seq (vs ++ ws).toArray } })
  (hsz:vs.length+ws.length<=sizeLine):wpAny (model prog w) A (binaryOp .Add (.ref t) (.ref b)) Q E s:=by
 obtain ⟨⟨cls,dd,data,sl⟩,ho,hc,n,hd⟩:=id ht
 obtain ⟨⟨cls2,dd2,data2,sl2⟩,ho2,hc2,n2,hd2⟩:=id hb
 simp only at hc hd hc2 hd2
 subst hc hd hc2 hd2
 have e:vs.toArray ++ ws.toArray=(vs ++ ws).toArray:=by simp
 by_cases hw:ws=[]
 ·exact concat_meets ⟨_,ho,rfl⟩ ⟨_,ho2,rfl⟩ noFill_tuple_add seq_tuple_add PySem.F.slot_tuple_add PySem.F.entry_tuple_add (PySem.F.args_tuple_add_2 _ _)
   (tuple_addW1 t b vs.toArray ws.toArray n n2 dd dd2 sl sl2 (by simpa using hv) (by simp [hw])) ⟨ho,ho2,h1 hw⟩
 ·refine concat_meets ⟨_,ho,rfl⟩ ⟨_,ho2,rfl⟩ noFill_tuple_add seq_tuple_add PySem.F.slot_tuple_add PySem.F.entry_tuple_add (PySem.F.args_tuple_add_2 _ _)
   (tuple_addW2 t b vs.toArray ws.toArray n n2 dd dd2 sl sl2 (by simpa using hv) (by simpa using hw) (by rw [List.size_toArray,List.size_toArray];exact hsz)) ⟨ho,ho2,?_⟩
  rw [e]
  exact h2 hw
def sIx (n d:Nat):Option Int->Nat
 | none=>d
 | some v=>if v < 0 then (v+(n:Int)).toNat else min v.toNat n
theorem sIx_none (n d:Nat):sIx n d none=d:=rfl
theorem sIx_nat (n d k:Nat):sIx n d (some (k:Int))=min k n:=by
 show (if (k:Int) < 0 then ((k:Int)+(n:Int)).toNat else min (k:Int).toNat n)=min k n
 rw [if_neg (by omega),Int.toNat_natCast]
theorem sIx_le (n d:Nat) (hd:d<=n) (o:Option Int):sIx n d o<=n:=by
 cases o with
 | none=>exact hd
 | some v =>
  show (if v < 0 then (v+(n:Int)).toNat else min v.toNat n)<=n
  by_cases hv:v < 0
  ·rw [if_pos hv];omega
  ·rw [if_neg hv];exact Nat.min_le_right _ _
theorem Kr (v:Int) (n d:Nat):(if v < 0 then max (v+(n:Int)) 0 else min v (n:Int))=((sIx n d (some v):Nat):Int):=by
 show (if v < 0 then max (v+(n:Int)) 0 else min v (n:Int))=(((if v < 0 then (v+(n:Int)).toNat else min v.toNat n):Nat):Int)
 by_cases hv:v < 0
 ·simp only [if_pos hv];omega
 ·simp only [if_neg hv];omega
theorem Iy (lo hi:Option Int) (n:Nat):Builtin.Slice.sliceAdjust lo hi 1 (n:Int)=(((sIx n 0 lo:Nat):Int),((sIx n n hi:Nat):Int)):=by
 have h1:¬ ((1:Int) < 0):=by omega
 unfold Builtin.Slice.sliceAdjust
 simp only [h1,if_false]
 refine Prod.ext ?_ ?_
 ·cases lo with
  | none=>rfl
  | some v=>exact Kr v n 0
 ·cases hi with
  | none=>rfl
  | some v=>exact Kr v n n
theorem Ic (i j:Nat):Builtin.Slice.slicePlaces (i:Int) (j:Int) 1=j - i:=by
 unfold Builtin.Slice.slicePlaces
 have h1:(1:Int) > 0:=by omega
 simp only [h1,if_true,Int.ediv_one]
 split <;> omega
theorem xF {v:Value} {o:Option Int} {Q:Option Int->Shared->Prop} (p:IsPart v o) (h:Q o s):wpAny (model prog w) A (Builtin.Slice.slicePartIndex v) Q E s:=by
 cases p with
 | none=>exact slicePart_none h
 | int i t=>exact slicePart_int h
theorem kR {sl:Addr} {vl vu:Value} {lo hi:Option Int} {n:Nat} {Q:Int×Int×Nat->Shared->Prop} (hs:s.heap.IsSliceOf sl vl vu .none) (pl:IsPart vl lo) (pu:IsPart vu hi)
  (h:Q (((sIx n 0 lo:Nat):Int),1,sIx n n hi - sIx n 0 lo) s):wpAny (model prog w) A (Builtin.Slice.sliceApplied (.ref sl) (pure (n:Int))) Q E s:=by
 obtain ⟨os,hos,hcs,hds⟩:=id hs
 unfold Builtin.Slice.sliceApplied Builtin.Slice.sliceFields
 refine wpAny_bind (wpAny_bind (wpAny_field hos hds (x:=vl) rfl (wpAny_bind (wpAny_field hos hds (x:=vu) rfl (wpAny_bind (wpAny_field hos hds (x:=.none) rfl (wpAny_pure ?_)))))))
 refine wpAny_bind (slicePart_none ?_)
 show wpAny _ _ (if ((1:Int) == 0)=true then _ else _) _ _ s
 rw [if_neg (by decide)]
 refine wpAny_bind (xF pl (wpAny_bind (xF pu (wpAny_bind (wpAny_pure ?_)))))
 show wpAny _ _ (match Builtin.Slice.sliceAdjust lo hi 1 (n:Int) with | (lo,hi)=>pure (lo,(1:Int),Builtin.Slice.slicePlaces lo hi 1)) _ _ s
 rw [Iy lo hi n]
 show wpAny _ _ (pure (((sIx n 0 lo:Nat):Int),(1:Int),Builtin.Slice.slicePlaces ((sIx n 0 lo:Nat):Int) ((sIx n n hi:Nat):Int) 1)) _ _ s
 rw [Ic]
 exact wpAny_pure h
theorem Qq (xs:Array Value) (i k:Nat):((List.range k).filterMap fun (m:Nat)=>xs[((i:Int)+(m:Int) * 1).toNat]?).toArray=((xs.toList.drop i).take k).toArray:=by
 have e:(fun (m:Nat)=>xs[((i:Int)+(m:Int) * 1).toNat]?)=fun m=>xs[i+m]?:=by
  funext m
  have:((i:Int)+(m:Int) * 1).toNat=i+m:=by omega
  rw [this]
 rw [e]
 have:=pick_run xs i k
 rw [List.filterMap_map] at this
 have e2:((fun x=>xs[x]?) ∘ fun x=>i+x)=fun m=>xs[i+m]?:=rfl
 rw [e2] at this
 rw [this]
theorem getItem_tuple_cut {t sl:Addr} {items:Array Value} {vl vu:Value} {lo hi:Option Int} {Q:Value->Shared->Prop} (ht:IsTup s.heap t items) (hs:s.heap.IsSliceOf sl vl vu .none) (pl:IsPart vl lo) (pu:IsPart vu hi)
  (hw:¬ (sIx items.size 0 lo=0/\sIx items.size items.size hi=items.size))
  (h:Q (.ref s.heap.objs.size) { s with heap:=s.heap.push { cls:=.type "tuple",data:=.seq ((items.toList.drop (sIx items.size 0 lo)).take (sIx items.size items.size hi - sIx items.size 0 lo)).toArray } })
  (hsz:items.size<=sizeLine):wpAny (model prog w) A (getItem (.ref t) (.ref sl)) Q E s:=by
 have htake:sizeOk (.seq ((items.toList.drop (sIx items.size 0 lo)).take (sIx items.size items.size hi - sIx items.size 0 lo)).toArray):=by
  show ((items.toList.drop (sIx items.size 0 lo)).take (sIx items.size items.size hi - sIx items.size 0 lo)).toArray.size<=sizeLine
  rw [List.size_toArray,List.length_take,List.length_drop,Array.length_toList]
  omega
 have hj:sIx items.size items.size hi<=items.size:=sIx_le _ _ (Nat.le_refl _) hi
 obtain ⟨os,hos,hcs,hds⟩:=id hs
 have hTs:s.TypeIs (.ref sl) "slice":=⟨os,hos,hcs⟩
 unfold getItem
 try with_reducible refine wpAny_holding ?_
 first | refine wpAny_bind (wpAny_pure ?_) | skip
 refine wpAny_bind (wpAny_sequenceKey ht.typeIs (by decide) ?_)
 refine wpAny_bind (wpAny_callSpecial?_slot (name:=Str.ofString "__getitem__") ht.typeIs PyProof.Rows.slot_tuple_getitem
  (wpAny_call_entry PyProof.Rows.slot_tuple_getitem ht.typeIs entry_tuple_getitem ?_ (args_tuple_getitem _ _)))
 show wpAny _ _ (Builtin.Tuple.tupleItemsOf (.ref t) >>= _) _ _ s
 refine wpAny_bind (tupleItemsOf_ ht ?_)
 refine wpAny_bind (wpAny_typeOf hTs ?_)
 rw [if_pos (by decide)]
 refine wpAny_bind (kR hs pl pu ?_)
 have hno:¬ ((((sIx items.size 0 lo:Nat):Int) == 0 && (1:Int) == 1 && (sIx items.size items.size hi - sIx items.size 0 lo) == items.size)=true):=by
  intro q
  rw [Bool.and_eq_true,Bool.and_eq_true] at q
  have q1:((sIx items.size 0 lo:Nat):Int)=0:=eq_of_beq q.1.1
  have q2:sIx items.size items.size hi - sIx items.size 0 lo=items.size:=eq_of_beq q.2
  exact hw ⟨by omega,by omega⟩
 show wpAny _ _ (if (((sIx items.size 0 lo:Nat):Int) == 0 && (1:Int) == 1 && (sIx items.size items.size hi - sIx items.size 0 lo) == items.size)=true then _ else _) _ _ s
 rw [if_neg hno,Qq]
 first
  | exact wpAny_bind (m:=Builtin.Tuple.tupleExact _) (wpAny_newObj_type (wpAny_pure ⟨_,rfl,wpAny_pure h⟩) htake)
  | exact wpAny_bind (m:=Builtin.Tuple.tupleExact _) (wpAny_newObj_type (wpAny_bind (wpAny_pure (wpAny_pure ⟨_,rfl,wpAny_pure h⟩))) htake)
  | exact wpAny_bind (wpAny_bind (m:=Builtin.Tuple.tupleExact _) (wpAny_newObj_type (wpAny_pure (wpAny_pure ⟨_,rfl,wpAny_pure h⟩)) htake))
  | exact wpAny_bind (wpAny_bind (m:=Builtin.Tuple.tupleExact _) (wpAny_newObj_type (wpAny_pure ⟨_,rfl,wpAny_pure h⟩) htake))
end
end HT
namespace L2
open PySem PySem.Spec PyProof.Rows
variable {H:Hp} {its:List Value} {pins:List (Addr×Obj)} {s:Shared} {xs:List V} {α:Type} {σ:St}
abbrev TO:=St->Hp->(Option Int->Hp->Prop)->Prop
def PO (X:Cx) (e:Option Expr) (t:TO):Prop :=
 ∀ (pins:List (Addr×Obj)) (s:Shared) (σ:St) (H:Hp) (Q:Option Int->Hp->Prop),Inv X pins σ H s->t σ H Q ->
  wpAny (model X.prog X.w) X.A (evalPart e X.env) (fun u s'=>∃ o H',Inv X pins σ H' s'/\IsPart u o/\Q o H') X.xe s
def iQ:TO:=fun _ H Q=>Q none H
def sY (t:TE):TO:=fun σ H Q=>t σ H fun x H1=>∃ i,x=.int i/\Q (some i) H1
section
variable {X:Cx} {e:Expr} {te:TE} {lo hi:Option Expr} {tl th:TO} {pos p2:Pos}
theorem uY:PO X none iQ:=by
 intro pins s σ H Q I h
 rw [evalPart_none]
 exact wpAny_pure ⟨none,H,I,.none,h⟩
theorem uX (h:PE X e te):PO X (some e) (sY te):=by
 intro pins s σ H Q I hw
 rw [evalPart_some]
 refine thn (h pins s σ H _ I hw) fun u s1 ⟨x,H1,I1,r1,q1⟩=>?_
 obtain ⟨i,rfl,q⟩:=q1
 obtain ⟨t,rfl⟩:=r1
 exact ⟨some i,H1,I1,.int i t,q⟩
def SlR (X:Cx) (r:V->Option Int->Option Int->Hp->VK->Prop):Prop :=
 ∀ (pins:List (Addr×Obj)) (s:Shared) (σ:St) (H:Hp) (x:V) (v vl vu:Value) (lo hi:Option Int) (sl:Addr) (Q:VK),Inv X pins σ H s->aZ x v->s.heap.IsSliceOf sl vl vu .none->IsPart vl lo->IsPart vu hi->r x lo hi H Q ->
  ∃ T id,typeLookup (.type T) "__getitem__" = pure (some (.builtin id))/\s.TypeIs v T/\wpAny (model X.prog X.w) X.A (getItem v (.ref sl)) (EP X pins σ Q) X.xe s
theorem SlR.or {r r':V->Option Int->Option Int->Hp->VK->Prop} (h:SlR X r) (h':SlR X r'):SlR X (fun x lo hi H Q=>r x lo hi H Q∨r' x lo hi H Q):=by
 intro pins s σ H x v vl vu lo hi sl Q I rx hs pl pu q
 rcases q with q | q
 ·exact h pins s σ H x v vl vu lo hi sl Q I rx hs pl pu q
 ·exact h' pins s σ H x v vl vu lo hi sl Q I rx hs pl pu q
def tSl (r:V->Option Int->Option Int->Hp->VK->Prop) (te:TE) (tl th:TO):TE:=fun σ H Q=>te σ H fun x H1=>tl σ H1 fun l H2=>th σ H2 fun u H3=>r x l u H3 Q
theorem rB {r:V->Option Int->Option Int->Hp->VK->Prop} (hr:SlR X r) (he:PE X e te) (hl:PO X lo tl) (hu:PO X hi th):PE X (.Subscript e (.Slice lo hi none p2) pos) (tSl r te tl th):=by
 intro pins s σ H Q I h
 refine Subscript_ (thn (he pins s σ H _ I h) fun v s1 ⟨x,H1,I1,r1,q1⟩=>?_)
 refine wpAny_Slice (thn (hl pins s1 σ H1 _ I1 q1) fun vl s2 ⟨l,H2,I2,pl,q2⟩=>thn (hu pins s2 σ H2 _ I2 q2) fun vu s3 ⟨u,H3,I3,pu,q3⟩=>?_)
 rw [evalPart_none]
 refine wpAny_pure ?_
 have I4:Inv X pins σ H3 { s3 with heap:=s3.heap.push { cls:=.type "slice",data:=.fields #[vl,vu,.none] } }:=I3.kept (t':=s3.toks) fun b ob q=>Heap.get?_push_of_some _ q
 obtain ⟨T,id,hT,ht,hg⟩:=hr pins { s3 with heap:=s3.heap.push { cls:=.type "slice",data:=.fields #[vl,vu,.none] } } σ H3 x v vl vu l u s3.heap.objs.size Q I4 r1 (Heap.IsSliceOf.new ..) pl pu q3
 show wpAny (model X.prog X.w) X.A (subscriptTail e (.Slice lo hi none p2) v (.ref s3.heap.objs.size)) (EP X pins σ Q) X.xe { s3 with heap:=s3.heap.push { cls:=.type "slice",data:=.fields #[vl,vu,.none] } }
 exact tail_any (ops:=[.ref s3.heap.objs.size,v]) ht hT hg (by with_unfolding_all rfl)
def lY (xs:List V) (lo hi:Option Int):List V:=(xs.drop (HT.sIx xs.length 0 lo)).take (HT.sIx xs.length xs.length hi - HT.sIx xs.length 0 lo)
theorem nD (xs:List V) (lo hi:Option Int):(lY xs lo hi).length<=xs.length:=by
 unfold lY
 rw [List.length_take,List.length_drop]
 omega
def rSlT (K:PySem.W.Frag):V->Option Int->Option Int->Hp->VK->Prop:=fun x lo hi H Q=>∃ a xs,x=.ref a/\SqT K H a xs /\
 ¬ (HT.sIx xs.length 0 lo=0/\HT.sIx xs.length xs.length hi=xs.length)/\∀ p,H p=none->Q (.ref p) (upd H p (.tup (lY xs lo hi)))
theorem sl_tup:SlR X (rSlT X.K):=by
 intro pins s σ H x v vl vu lo hi sl Q I rx hs pl pu h
 obtain ⟨a,xs,rfl,hx,hw,q⟩:=h
 cases rx
 obtain ⟨its,r,ht,hz⟩:=I.tuple hx
 have hlen:its.toArray.size=xs.length:=by rw [List.size_toArray];exact r.length.symm
 refine ⟨"tuple",_,PyProof.Rows.slot_tuple_getitem.lookup,ht.typeIs,?_⟩
 refine HT.getItem_tuple_cut ht hs pl pu (by rw [hlen];exact hw) ?_ (by rw [hlen];exact hz)
 rw [hlen]
 refine ⟨.ref s.heap.objs.size,_,I.laid (t':=s.toks) (o:=.tup (lY xs lo hi)) (fun b ob q=>Heap.get?_push_of_some _ q) (Nat.le_refl _) ?_,rfl,q _ (I.hok.fresh (Nat.le_refl _))⟩
 exact ⟨Nat.le_trans (nD xs lo hi) hz,_,(r.drop (HT.sIx xs.length 0 lo)).take (HT.sIx xs.length xs.length hi - HT.sIx xs.length 0 lo),IsTup.new _ _⟩
def rCatT (K:PySem.W.Frag):R2:=fun x y H Q=>∃ a b xs ys,x=.ref a/\y=.ref b/\SqT K H a xs/\SqT K H b ys/\xs≠[]/\xs.length+ys.length<=sizeLine /\
 (ys=[]->Q (.ref a) H)/\(ys≠[]->∀ p,H p=none->Q (.ref p) (upd H p (.tup (xs ++ ys))))
theorem aY.nil_iff {us:List Value} (r:aY xs us):us=[]↔xs=[]:=by
 cases r with
 | nil=>simp
 | cons _ _=>simp
theorem Ts:OpR X (binaryOp .Add) (rCatT X.K):=by
 intro pins s σ H x y v u Q I rx ry h
 obtain ⟨a,b,xs,ys,rfl,rfl,ha,hb,hx,hz,q1,q2⟩:=h
 cases rx
 cases ry
 obtain ⟨its,r1,p1,_⟩:=I.tuple ha
 obtain ⟨its2,r2,p2,_⟩:=I.tuple hb
 refine HT.cat_tup p1 p2 (fun z=>hx (r1.nil_iff.mp z)) (fun z=>⟨.ref a,H,I,rfl,q1 (r2.nil_iff.mp z)⟩) (fun z=>?_) (by rw [← r1.length,← r2.length];exact hz)
 refine ⟨.ref s.heap.objs.size,_,I.laid (t':=s.toks) (o:=.tup (xs ++ ys)) (fun b ob q=>Heap.get?_push_of_some _ q) (Nat.le_refl _) ?_,rfl,q2 (fun w=>z (r2.nil_iff.mpr w)) _ (I.hok.fresh (Nat.le_refl _))⟩
 exact ⟨by rw [List.length_append];exact hz,_,r1.append r2,IsTup.new _ _⟩
end
def ixN (n:Nat) (i:Int):Option Nat:=if 0<=i then (if i < n then some i.toNat else none) else if -(n:Int)<=i then some (i+n).toNat else none
def atI {α:Type} (xs:List α) (i:Int):Option α:=(ixN xs.length i).bind fun j=>xs[j]?
theorem Kd {n:Nat} {i:Int} {j:Nat} (h:ixN n i=some j):seqIndex? i n=some j/\j < n/\-(n:Int)<=i/\i < n:=by
 unfold ixN at h
 by_cases h0:0<=i
 ·rw [if_pos h0] at h
  by_cases h1:i < n
  ·rw [if_pos h1] at h
   have e:i.toNat=j:=Option.some.inj h
   exact ⟨by rw [seqIndex_of h0 h1,e],by omega,by omega,h1⟩
  ·rw [if_neg h1] at h;cases h
 ·rw [if_neg h0] at h
  by_cases h1:-(n:Int)<=i
  ·rw [if_pos h1] at h
   have e:(i+n).toNat=j:=Option.some.inj h
   exact ⟨by rw [seqIndex_neg (by omega) h1,e],by omega,h1,by omega⟩
  ·rw [if_neg h1] at h;cases h
theorem Ku {xs:List α} {i:Int} {v:α} (h:atI xs i=some v):∃ j,seqIndex? i xs.length=some j/\xs[j]?=some v/\j < xs.length/\-(xs.length:Int)<=i/\i < xs.length:=by
 unfold atI at h
 cases e:ixN xs.length i with
 | none=>rw [e] at h;cases h
 | some j =>
  rw [e] at h
  obtain ⟨h1,h2,h3,h4⟩:=Kd e
  exact ⟨j,h1,h,h2,h3,h4⟩
theorem cE {xs:List α} {j:Nat} {v:α} (h:xs[j]?=some v):atI xs (j:Int)=some v:=by
 have hj:j < xs.length:=(List.getElem?_eq_some_iff.mp h).1
 have e:ixN xs.length (j:Int)=some j:=by
  unfold ixN
  rw [if_pos (by omega),if_pos (by omega)];simp
 unfold atI;rw [e];exact h
theorem wV (xs:List α) (v:α):atI (xs ++ [v]) (-1)=some v:=by
 have hl:(xs ++ [v]).length=xs.length+1:=by simp
 have e:ixN (xs ++ [v]).length (-1)=some xs.length:=by
  unfold ixN
  rw [hl,if_neg (by decide),if_pos (by omega)]
  congr 1
  omega
 unfold atI
 rw [e]
 show (xs ++ [v])[xs.length]?=some v
 simp
def Cj (b:Expr):Prop:=∀ o i,subscripted b false o i=operate [o,i] (getItem o i)
def IxR (X:Cx) (r:R2):Prop :=
 ∀ (value slice:Expr) (pins:List (Addr×Obj)) (s:Shared) (σ:St) (H:Hp) (x y:V) (v u:Value) (Q:VK),Inv X pins σ H s->aZ x v->aZ y u->r x y H Q ->
  subscripted slice false v u=operate [v,u] (getItem v u)->wpAny (model X.prog X.w) X.A (subscriptTail value slice v u) (EP X pins σ Q) X.xe s
def MtR (X:Cx) (id:String) (r:V->List V->Hp->VK->Prop):Prop :=
 ∀ (pins:List (Addr×Obj)) (s:Shared) (σ:St) (H:Hp) (x:V) (xs:List V) (v:Value) (us:List Value) (Q:VK),Inv X pins σ H s->aZ x v->aY xs us->r x xs H Q ->
  wpAny (model X.prog X.w) X.A (call (.builtin id) (v :: us)) (EP X pins σ Q) X.xe s
section
variable {X:Cx} {a b:Expr} {ta tb:TE} {pos:Pos}
theorem IxR.or {r r':R2} (h:IxR X r) (h':IxR X r'):IxR X (fun x y H Q=>r x y H Q∨r' x y H Q):=by
 intro value slice pins s σ H x y v u Q I rx ry q hs
 rcases q with q | q
 ·exact h value slice pins s σ H x y v u Q I rx ry q hs
 ·exact h' value slice pins s σ H x y v u Q I rx ry q hs
theorem MtR.or {id:String} {r r':V->List V->Hp->VK->Prop} (h:MtR X id r) (h':MtR X id r'):MtR X id (fun x xs H Q=>r x xs H Q∨r' x xs H Q):=by
 intro pins s σ H x xs v us Q I rx rs q
 rcases q with q | q
 ·exact h pins s σ H x xs v us Q I rx rs q
 ·exact h' pins s σ H x xs v us Q I rx rs q
theorem pe_ix {r:R2} (hr:IxR X r) (ha:PE X a ta) (hb:PE X b tb) (hs:Cj b):PE X (.Subscript a b pos) (tOp r ta tb):=by
 intro pins s σ H Q I h
 exact Subscript_ (binT ha hb I h fun v u s2 x y H2 I2 rx ry q=>hr a b pins s2 σ H2 x y v u Q I2 rx ry q (hs _ _))
def bW (K:PySem.W.Frag):R2:=fun x y H Q=>exR x fun p=>exI y fun i=>∃ xs,SqL K H p xs/\∃ v,atI xs i=some v/\Q v H
def dL (K:PySem.W.Frag):R2:=fun x y H Q=>exR x fun p=>exI y fun i=>∃ xs,SqT K H p xs/\∃ v,atI xs i=some v/\Q v H
theorem Uk:IxR X (bW X.K):=by
 intro value slice pins s σ H x y v u Q I rx ry h hs
 obtain ⟨p,rfl,h1⟩:=Eq.mp dY h
 obtain ⟨i,rfl,xs,hq,z,he,q⟩:=Eq.mp cQ h1
 cases rx
 obtain ⟨t,rfl⟩:=ry
 obtain ⟨its,r,pl,hz⟩:=I.list hq
 obtain ⟨j,h1,h2,h3,h4,h5⟩:=Ku he
 obtain ⟨w,ew,rw'⟩:=r.get h2
 have hl:=r.length
 have hn:=Bk
 have fin:EP X pins σ Q w s:=⟨z,H,I,rw',q⟩
 by_cases h0:0<=i
 ·have hj:i.toNat=j:=by
   rw [seqIndex_of h0 h5] at h1
   exact Option.some.inj h1
  exact item_listR pl.isList h0 (by omega) (by rw [hj];simpa using ew) fin hs
 ·have hj:(i+(its.toArray.size:Int)).toNat=j:=by
   rw [seqIndex_neg (by omega) h4] at h1
   rw [List.size_toArray,← hl]
   exact Option.some.inj h1
  exact subscriptTail_builtinR (x:=w) pl.isList.typeIs slot_list_getitem.lookup
   (wpAny_getItem_list_neg (Q:=fun r s'=>r=w/\EP X pins σ Q r s') pl.isList (by omega) (by rw [List.size_toArray] <;> omega) (by omega) (by rw [hj];simpa using ew) ⟨rfl,fin⟩) hs
theorem ix_tup:IxR X (dL X.K):=by
 intro value slice pins s σ H x y v u Q I rx ry h hs
 obtain ⟨p,rfl,h1⟩:=Eq.mp dY h
 obtain ⟨i,rfl,xs,hq,z,he,q⟩:=Eq.mp cQ h1
 cases rx
 obtain ⟨t,rfl⟩:=ry
 obtain ⟨its,r,pl,hz⟩:=I.tuple hq
 obtain ⟨j,h1,h2,h3,h4,h5⟩:=Ku he
 obtain ⟨w,ew,rw'⟩:=r.get h2
 have hl:=r.length
 have hn:=Bk
 have fin:EP X pins σ Q w s:=⟨z,H,I,rw',q⟩
 exact subscriptTail_builtinR (x:=w) pl.typeIs slot_tuple_getitem.lookup
  (getItem_tuple (j:=j) (Q:=fun r s'=>r=w/\EP X pins σ Q r s') pl (by omega) (by omega) (by rw [List.size_toArray,← hl];exact h1) (by simpa using ew) ⟨rfl,fin⟩) hs
theorem Ik (its:List Value) (n j:Nat) (u:Value):Obj.mapSeq (·.setIfInBounds j u) { cls:=.type "list",data:=.seq its.toArray n }={ cls:=.type "list",data:=.seq (its.set j u).toArray n }:=by
 simp [Obj.mapSeq]
theorem Inv.lst {p:Addr} (I:Inv X pins σ H s) (h:H p=some (.lst xs)) :
  ∃ (its:List Value) (n:Nat),aY xs its/\s.heap.get? p=some { cls:=.type "list",data:=.seq its.toArray n }/\xs.length<=sizeLine:=by
 obtain ⟨z,its,n,r,e⟩:=I.hok p _ h
 exact ⟨its,n,r,e,z⟩
theorem Inv.lstUpd {p:Addr} {ys:List V} {its':List Value} {n n':Nat} {f:Obj->Obj} (I:Inv X pins σ H s) (h:H p=some (.lst xs))
  (ho:s.heap.get? p=some { cls:=.type "list",data:=.seq its.toArray n }) (hf:f { cls:=.type "list",data:=.seq its.toArray n }={ cls:=.type "list",data:=.seq its'.toArray n' }) (r:aY ys its') (hz:ys.length<=sizeLine) (t:Nat) :
  Inv X pins σ (upd H p (.lst ys)) { s with heap:=s.heap.update p f,toks:=t }:=by
 have e:(s.heap.update p f).get? p=some { cls:=.type "list",data:=.seq its'.toArray n' }:=by
  rw [Heap.get?_update_self f ho (by rw [hf] <;> rfl),hf]
 refine I.write (x:=p) (e:=p) (by rw [h];trivial) (.inl rfl) (fun b u hb q=>(Heap.get?_update_other _ _ (Ne.symm hb)).trans q) ⟨_,e⟩ ?_
 exact ⟨hz,its',n',r,e⟩
def Dl:V->V->V->Hp->(Hp->Prop)->Prop:=fun o i v H Q=>∃ p xs k j,o=.ref p/\i=.int k/\H p=some (.lst xs)/\ixN xs.length k=some j/\Q (upd H p (.lst (xs.set j v)))
theorem Ef:PSet X Dl:=by
 intro pins s σ H o i v ov iv u Q I ro ri rv h
 obtain ⟨p,xs,k,j,rfl,rfl,hp,hj,q⟩:=h
 cases ro
 obtain ⟨t,rfl⟩:=ri
 obtain ⟨its,n,r,ho,hz⟩:=I.lst hp
 obtain ⟨h1,h2,h3,h4⟩:=Kd hj
 have hl:=r.length
 have hn:=Bk
 have I':Inv X pins σ (upd H p (.lst (xs.set j v))) { s with heap:=s.heap.update p (Obj.mapSeq (·.setIfInBounds j u)) } :=
  I.lstUpd hp ho (Ik its n j u) (r.set rv j) (by rw [List.length_set];exact hz) s.toks
 by_cases h0:0<=k
 ·have hk:k.toNat=j:=by
   rw [seqIndex_of h0 h4] at h1
   exact Option.some.inj h1
  exact PySem.W.ki_setAt ho h0 (by omega) (by rw [List.size_toArray,← hl];exact h4) (by rw [hk];exact ⟨_,I',q⟩)
 ·have hk:(k+(its.toArray.size:Int)).toNat=j:=by
   rw [seqIndex_neg (by omega) h3] at h1
   rw [List.size_toArray,← hl]
   exact Option.some.inj h1
  exact PySem.W.ki_setBack ho (by omega) (by rw [List.size_toArray,← hl];exact h3) (by omega) (by rw [hk];exact ⟨_,I',q⟩)
theorem Cn (lo hi:Option Int) (n:Nat):(sliceBounds lo hi none n).1=((HT.sIx n 0 lo:Nat):Int)/\(sliceBounds lo hi none n).2.1=((HT.sIx n n hi:Nat):Int)/\(sliceBounds lo hi none n).2.2=1:=by
 refine ⟨?_,?_,rfl⟩
 ·cases lo with
  | none=>simp [sliceBounds,HT.sIx]
  | some i =>
   simp only [sliceBounds,HT.sIx,Option.getD_none,show (1:Int) > 0 by decide,if_true]
   by_cases h:i < 0
   ·simp only [h,if_true] <;> omega
   ·simp only [h,if_false] <;> omega
 ·cases hi with
  | none=>simp [sliceBounds,HT.sIx]
  | some i =>
   simp only [sliceBounds,HT.sIx,Option.getD_none,show (1:Int) > 0 by decide,if_true]
   by_cases h:i < 0
   ·simp only [h,if_true] <;> omega
   ·simp only [h,if_false] <;> omega
theorem yV (its:List Value) (lo hi:Option Int):slicePick its.toArray lo hi none=((its.drop (HT.sIx its.length 0 lo)).take (HT.sIx its.length its.length hi - HT.sIx its.length 0 lo)).toArray:=by
 obtain ⟨h1,h2,h3⟩:=Cn lo hi its.toArray.size
 unfold slicePick
 rw [h1,h2,h3]
 simp only [sliceRange_one,pick_run,List.size_toArray] <;> rfl
def Lb (K:PySem.W.Frag):V->Option Int->Option Int->Hp->VK->Prop:=fun x lo hi H Q=>∃ a xs,x=.ref a/\SqL K H a xs/\∀ p,H p=none->Q (.ref p) (upd H p (.lst (lY xs lo hi)))
theorem Ji:SlR X (Lb X.K):=by
 intro pins s σ H x v vl vu lo hi sl Q I rx hs pl pu h
 obtain ⟨a,xs,rfl,hx,q⟩:=h
 cases rx
 obtain ⟨its,r,ht,hz⟩:=I.list hx
 have hlen:=r.length
 refine ⟨"list",_,slot_list_getitem.lookup,ht.isList.typeIs,?_⟩
 refine wpAny_getItem_list_slice ht.isList hs pl pu .none (by simp) ?_ (by rw [List.size_toArray] <;> omega)
 rw [yV,← hlen]
 refine ⟨.ref s.heap.objs.size,_,I.laid (t':=s.toks) (o:=.lst (lY xs lo hi)) (fun b ob q=>Heap.get?_push_of_some _ q) (Nat.le_refl _) ?_,rfl,q _ (I.hok.fresh (Nat.le_refl _))⟩
 exact ⟨Nat.le_trans (nD xs lo hi) hz,_,0,(r.drop (HT.sIx xs.length 0 lo)).take (HT.sIx xs.length xs.length hi - HT.sIx xs.length 0 lo),Heap.get?_push_size _ rfl⟩
theorem bC:fQ X (.builtin "len") (fun xs H Q=>∃ p ys,xs=[.ref p]/\(SqL X.K H p ys∨SqT X.K H p ys)/\Q (.int ys.length) H):=by
 intro pins s σ H xs us Q I r h
 obtain ⟨p,ys,rfl,hq,q⟩:=h
 obtain ⟨u,rfl,rx⟩:=sX r
 cases rx
 have hn:=Bk
 rcases hq with hq | hq
 ·obtain ⟨its,r',pl,hz⟩:=I.list hq
  have hlen:=r'.length
  exact Calls.call_len_list pl.isList (by simp only [List.size_toArray] <;> omega) ⟨.int ys.length,H,I.tok _,⟨s.toks+1,by rw [List.size_toArray,hlen]⟩,q⟩
 ·obtain ⟨its,r',pl,hz⟩:=I.tuple hq
  have hlen:=r'.length
  exact len_tuple pl (by simp only [List.size_toArray] <;> omega) ⟨.int ys.length,H,I.tok _,⟨s.toks+1,by rw [List.size_toArray,hlen]⟩,q⟩
theorem fQ.or {f:Value} {r r':List V->Hp->VK->Prop} (h:fQ X f r) (h':fQ X f r'):fQ X f (fun xs H Q=>r xs H Q∨r' xs H Q):=by
 intro pins s σ H xs us Q I rs q
 rcases q with q | q
 ·exact h pins s σ H xs us Q I rs q
 ·exact h' pins s σ H xs us Q I rs q
theorem dF:fQ X (.type "list") (fun xs H Q=>∃ p ys,xs=[.ref p]/\(SqL X.K H p ys∨SqT X.K H p ys)/\∀ l,H l=none->Q (.ref l) (upd H l (.lst ys))):=by
 intro pins s σ H xs us Q I r h
 obtain ⟨p,ys,rfl,hq,q⟩:=h
 obtain ⟨u,rfl,rx⟩:=sX r
 cases rx
 have fin:∀ (its:List Value),aY ys its->ys.length<=sizeLine->∀ (h':Heap) (c':Nat),(∀ b o',s.heap.get? b=some o'->h'.get? b=some o') ->
   h'.get? s.heap.objs.size=some { cls:=.type "list",dict:=none,data:=.seq its.toArray c',slots:=#[] }->EP X pins σ Q (.ref s.heap.objs.size) { s with heap:=h' }:=fun its r' hz h' c' kp e =>
  ⟨.ref s.heap.objs.size,_,I.laid (t':=s.toks) kp (Nat.le_refl _) (show bZ X.prog X.w _ h' _ (.lst ys) from ⟨hz,its,c',r',e⟩),rfl,q _ (I.hok.fresh (Nat.le_refl _))⟩
 rcases hq with hq | hq
 ·obtain ⟨its,r',pl,hz⟩:=I.list hq
  have hlen:=r'.length
  obtain ⟨o,ho,hc,n,hd⟩:=pl.isList
  exact call_list_seq p (.inl rfl) ho hc hd (fun h' c' kp e=>fin its r' hz h' c' kp e) (by simp only [List.size_toArray] <;> omega)
 ·obtain ⟨its,r',pl,hz⟩:=I.tuple hq
  have hlen:=r'.length
  obtain ⟨o,ho,hc,n,hd⟩:=pl
  exact call_list_seq p (.inr rfl) ho hc hd (fun h' c' kp e=>fin its r' hz h' c' kp e) (by simp only [List.size_toArray] <;> omega)
def tyV (K:PySem.W.Frag) (T:String) (x:V) (H:Hp):Prop:=match x with
 | .str _=>T="str"
 | .int _=>T="int"
 | .ref p=>(T="list" /\ ∃ xs,SqL K H p xs)∨(T="tuple" /\ ∃ o,K.lookup p=some o/\o.cls=.type "tuple" /\ o.dict=none) ∨
   (T="dict" /\ ((∃ kvs,H p=some (.dK kvs))∨∃ kvs,H p=some (.dT kvs)))∨(T="set" /\ ∃ S n,H p=some (.set S n))
 | _=>False
theorem tyV_is {T:String} {x:V} {v:Value} (I:Inv X pins σ H s) (r:aZ x v) (ty:tyV X.K T x H) :
  s.TypeIs v T/\∀ a,v=.ref a->∃ ob,s.heap.get? a=some ob/\ob.dict=none:=by
 cases x with
 | str z =>
  obtain ⟨t,rfl⟩:=r
  cases (show T="str" from ty)
  exact ⟨typeIs_str s z t,fun _ e=>nomatch e⟩
 | int i =>
  obtain ⟨t,rfl⟩:=r
  cases (show T="int" from ty)
  exact ⟨typeIs_int s i t,fun _ e=>nomatch e⟩
 | ref p =>
  cases r
  rcases ty with ⟨rfl,xs,hq⟩ | ⟨rfl,o,hk,hc,hd⟩ | ⟨rfl,hk⟩ | ⟨rfl,S,n,hk⟩
  ·obtain ⟨its,_,pl,_⟩:=I.list hq
   refine ⟨pl.isList.typeIs,fun a e=>?_⟩
   cases e
   obtain ⟨o,n,e,c,hd,_⟩:=pl
   exact ⟨o,e,hd⟩
  ·refine ⟨⟨o,I.kIn p o hk,hc⟩,fun a e=>?_⟩
   cases e
   exact ⟨o,I.kIn _ o hk,hd⟩
  ·have z:∃ o,s.heap.get? p=some o/\o.ExactDict:=by
    rcases hk with ⟨kvs,hk⟩ | ⟨kvs,hk⟩
    ·obtain ⟨_,_,_,_,o,_,_,e,ex,_⟩:=I.hok p _ hk
     exact ⟨o,e,ex⟩
    ·obtain ⟨_,_,_,_,o,_,_,e,ex,_⟩:=I.hok p _ hk
     exact ⟨o,e,ex⟩
   obtain ⟨o,e,ex⟩:=z
   refine ⟨⟨o,e,ex.1⟩,fun a e2=>?_⟩
   cases e2
   exact ⟨o,e,ex.2.1⟩
  ·obtain ⟨o,_,_,_,e,ex,_⟩:=I.hok p _ hk
   refine ⟨⟨o,e,ex.1⟩,fun a e2=>?_⟩
   cases e2
   exact ⟨o,e,ex.2.1⟩
 | _=>exact False.elim ty
def tBM (K:PySem.W.Frag) (T:String) (r:V->List V->Hp->VK->Prop) (to:TE) (t:TA):TE:=fun σ H Q=>to σ H fun x H1=>tyV K T x H1/\t σ H1 fun xs H2=>r x xs H2 Q
variable {o e:Expr} {es:List Expr} {to:TE} {t:TA} {name:Str} {apos cpos:Pos} {T id:String} {r:V->List V->Hp->VK->Prop}
theorem zG (pa:PlainAttrs T) (slot:Slot T name id) (hty:typeOf (.builtin id)=pure (.type "method_descriptor")) (hm:MtR X id r) (ho:PE X o to) (ha:PA X (e :: es) t)
  (hbase:attributeBase o name X.env (eval o X.env)=eval o X.env:=by rfl)
  (hfew:((backTo cpos (starEach (e :: es) X.env)).all (fun x=>!x.1) && (backToKw cpos (keywordEach [] X.env)).all (fun x=>x.1.isSome)
   && decide ((e :: es).length+([]:List Keyword).length+(if ([]:List Keyword).isEmpty then 0 else 1) < 30))=true:=by rfl)
  (hline:(apos.endLine == cpos.line)=true:=by rfl) (hs:starEach (e :: es) X.env=(false,eval e X.env) :: starEach es X.env:=by rfl) (hplain:(backTo cpos (starEach es X.env)).any (·.1)=false:=by rfl) :
  PE X (.Call (.Attribute o name apos) (e :: es) [] cpos) (tBM X.K T r to t):=by
 intro pins s σ H Q I h
 refine wpAny_Call_method_late hbase hfew hline rfl (thn (ho pins s σ H _ I h) fun v s1 ⟨x,H1,I1,r1,ty,q1⟩=>?_)
 obtain ⟨h1,h2⟩:=tyV_is I1 r1 ty
 refine ⟨T,id,pa,slot,hty,h1,h2,?_⟩
 have hA:=ha cpos pins s1 σ H1 _ I1 q1
 rw [hs] at hA ⊢
 refine Calls.callWith_builtin (by show (false || (backTo cpos (starEach es X.env)).any (·.1))=false;rw [hplain] <;> rfl) (Calls.evalArgs_plain ?_)
 exact thn hA fun us s2 ⟨vs,H2,I2,r2,q2⟩=>hm pins s2 σ H2 x vs v us Q I2 r1 r2 q2
end
def MtM (X:Cx) (id:String) (r:V->List V->Hp->VK->Prop):Prop :=
 ∀ (pins:List (Addr×Obj)) (s:Shared) (σ:St) (H:Hp) (x:V) (xs:List V) (v:Value) (us:List Value) (Q:VK),Inv X pins σ H s->aZ x v->aY xs us->r x xs H Q ->
  wpAny (model X.prog X.w) X.A (call (.builtin id) (v :: us)) (EP X pins σ Q) X.xe s
theorem aY.one:∀ {x:V} {us:List Value},aY [x] us->∃ u,us=[u]/\aZ x u
 | _,_,.cons r .nil=>⟨_,rfl,r⟩
theorem aY.two:∀ {x y:V} {us:List Value},aY [x,y] us->∃ u v,us=[u,v]/\aZ x u/\aZ y v
 | _,_,_,.cons r (.cons q .nil)=>⟨_,_,rfl,r,q⟩
theorem aY.zero:∀ {us:List Value},aY [] us->us=[]
 | _,.nil=>rfl
theorem aY.reverse {us:List Value} (h:aY xs us):aY xs.reverse us.reverse:=by
 induction h with
 | nil=>exact .nil
 | cons r t ih=>rw [List.reverse_cons,List.reverse_cons];exact aY.append ih (.cons r .nil)
section
variable {X:Cx} {pins:List (Addr×Obj)} {σ:St} {H:Hp} {s:Shared} {l b:Addr} {xs ys zs:List V}
theorem Inv.lset {its':List Value} {n:Nat} {f:Array Value->Array Value} {t':Nat} (I:Inv X pins σ H s) (hH:H l=some (.lst xs))
  (e:s.heap.get? l=some { cls:=.type "list",data:=.seq its.toArray n }) (hf:f its.toArray=its'.toArray) (hv:aY ys its') (hz:ys.length<=sizeLine) :
  Inv X pins σ (upd H l (.lst ys)) { s with heap:=s.heap.update l (Obj.mapSeq f),toks:=t' }:=by
 have q:=PySem.IsL.update e f
 rw [hf] at q
 refine I.write (x:=l) (e:=l) (by rw [hH];exact trivial) (.inl rfl) (fun b' u hb hu=>(Heap.get?_update_other s.heap (Obj.mapSeq f) (Ne.symm hb)).trans hu) ⟨_,q⟩ ?_
 exact ⟨hz,its',_,hv,q⟩
theorem Inv.lnew {t':Nat} (I:Inv X pins σ H s) (hv:aY ys its) (hz:ys.length<=sizeLine) :
  Inv X pins σ (upd H s.heap.objs.size (.lst ys)) { s with heap:=s.heap.push { cls:=.type "list",data:=.seq its.toArray },toks:=t' } :=
 I.laid (fun _ _ q=>Heap.get?_push_of_some _ q) (Nat.le_refl _) ⟨hz,its,0,hv,Heap.get?_push_size _ rfl⟩
theorem Inv.fresh (I:Inv X pins σ H s):H s.heap.objs.size=none:=I.hok.fresh (Nat.le_refl _)
theorem Inv.lstM (I:Inv X pins σ H s) (hH:H l=some (.lst xs)):xs.length<=sizeLine/\∃ (its:List Value) (n:Nat),aY xs its/\xs.length=its.length/\s.heap.get? l=some { cls:=.type "list",data:=.seq its.toArray n }:=by
 obtain ⟨z,its,n,r,e⟩:=I.hok l _ hH
 exact ⟨z,its,n,r,r.length,e⟩
theorem Qz {n:Nat} (h:n<=sizeLine):Builtin.List.listTooLong n=false:=by
 unfold Builtin.List.listTooLong
 exact decide_eq_false (by omega)
end
section
variable {X:Cx}
def gK:V->List V->Hp->VK->Prop:=fun x vs H Q=>∃ l xs y,x=.ref l/\vs=[y]/\H l=some (.lst xs)/\xs.length < sizeLine/\Q .non (upd H l (.lst (xs ++ [y])))
theorem kB:MtM X "list.append" gK:=by
 intro pins s σ H x vs v us Q I rx rv h
 obtain ⟨l,xs,y,rfl,rfl,hH,hz,q⟩:=h
 cases rx
 obtain ⟨u,rfl,ru⟩:=rv.one
 obtain ⟨z,its,n,r,hl,e⟩:=I.lstM hH
 refine call_meets F.slot_list_append ⟨_,e,rfl⟩ F.entry_list_append (F.args_list_append_2 _ _) (PySem.list_append l its.toArray n u (by rw [List.size_toArray];omega)) ⟨e,?_⟩
 refine ⟨.non,_,I.lset (its':=its ++ [u]) hH e (by simp) (r.append (.cons ru .nil)) ?_,rfl,q⟩
 rw [List.length_append,List.length_singleton]
 omega
def Jm:V->List V->Hp->VK->Prop:=fun x vs H Q=>∃ l b xs zs,x=.ref l/\vs=[.ref b]/\H l=some (.lst xs)/\H b=some (.lst zs)/\xs.length+zs.length<=sizeLine/\Q .non (upd H l (.lst (xs ++ zs)))
theorem Mn:MtM X "list.extend" Jm:=by
 intro pins s σ H x vs v us Q I rx rv h
 obtain ⟨l,b,xs,zs,rfl,rfl,hH,hB,hz,q⟩:=h
 cases rx
 obtain ⟨u,rfl,ru⟩:=rv.one
 cases ru
 obtain ⟨z,its,n,r,hl,e⟩:=I.lstM hH
 obtain ⟨z2,its2,n2,r2,hl2,e2⟩:=I.lstM hB
 have hsz:its.toArray.size+its2.toArray.size<=sizeLine:=by rw [List.size_toArray,List.size_toArray];omega
 have hlong:¬ (!its.toArray.isEmpty && Builtin.List.listTooLong (its.toArray.size+its2.toArray.size))=true:=by
  rw [Qz hsz,Bool.and_false]
  exact Bool.false_ne_true
 refine call_meets F.slot_list_extend ⟨_,e,rfl⟩ F.entry_list_extend (F.args_list_extend_2 _ _)
  (AutoSeq1.list_extend_list_list_0 l its.toArray n b its2.toArray n2 hlong (by rw [List.size_toArray];omega) (by omega)) ⟨e,e2,?_⟩
 refine ⟨.non,_,I.lset (its':=its ++ its2) hH e (by simp) (r.append r2) ?_,rfl,q⟩
 rw [List.length_append]
 omega
def rT:R2:=fun x y H Q=>∃ l b xs zs,x=.ref l/\y=.ref b/\H l=some (.lst xs)/\H b=some (.lst zs)/\xs.length+zs.length<=sizeLine/\∀ p,H p=none->Q (.ref p) (upd H p (.lst (xs ++ zs)))
theorem pK:OpR X (binaryOp .Add) rT:=by
 intro pins s σ H x y v u Q I rx ry h
 obtain ⟨l,b,xs,zs,rfl,rfl,hH,hB,hz,q⟩:=h
 cases rx
 cases ry
 obtain ⟨z,its,n,r,hl,e⟩:=I.lstM hH
 obtain ⟨z2,its2,n2,r2,hl2,e2⟩:=I.lstM hB
 refine PySem.P.add_list e e2 ?_ (by rw [List.size_toArray,List.size_toArray];omega)
 have ea:its.toArray ++ its2.toArray=(its ++ its2).toArray:=by simp
 rw [ea]
 exact ⟨.ref _,_,I.lnew (t':=s.toks) (r.append r2) (by rw [List.length_append];omega),rfl,q _ I.fresh⟩
end
end L2
namespace Att
open PySem PySem.W PySem.Calls PyProof.Rows
theorem uO {P:Params} {h:Heap}:∀ (ns:List Int) (vs:List Value),WellAll P h vs (ns.map WData.int)->IntsAre vs ns:=by
 intro ns
 induction ns with
 | nil =>
  intro vs w
  rw [List.map_nil] at w
  cases w
  exact .nil
 | cons n ns ih =>
  intro vs w
  rw [List.map_cons] at w
  cases w with
  | cons a b =>
   cases a
   exact .cons _ _ (ih _ b)
theorem Lk {l:OpenLaw} {n:Nat} (hn:l.most=some n) {P:Params} {h:Heap} {args:List WData} {vals:List Value}
  (hpre:l.row.toRowW.claim.pre args=true) (hwl:WellAll P h vals args) :
  ∃ a vs ns,vals=[Value.ref a]/\args=[WData.list (ns.map WData.int)]/\h.get? a=some { cls:=.type "list",data:=.seq vs.toArray }/\IntsAre vs ns/\ns.length<=n:=by
 have hsh:WShape.hasAll [] args [.list .int]=true:=(pre_splitW hpre).1
 have hc:l.pre.holds [] { args:=args }=true:=(pre_splitW hpre).2
 obtain ⟨d,r,rfl,h1,h2⟩:=hasAllW_cons hsh
 obtain rfl:=hasAllW_nil h2
 obtain ⟨xs,rfl,h3⟩:=hasW_list h1
 obtain ⟨ns,rfl⟩:=items_int h3
 have hlen:ns.length<=n:=by
  unfold OpenLaw.pre at hc
  have h4:(WTm.not (.lt (.lit (.int (n:Int))) (.len (.arg 0)))).holds [] { args:=[.list (ns.map .int)] }=true:=by
   have h4:=(holds_andW hc).1
   rw [hn] at h4
   exact h4
  have h5:=condW_of h4 (w_not (w_lt w_lit (w_len_list (w_arg rfl))))
  rw [List.length_map] at h5
  refine Nat.le_of_not_lt fun q=>?_
  have q':(n:Int) < ((ns.length:Nat):Int):=by omega
  first
   | (rw [decide_eq_true q'] at h5;exact absurd h5 (by decide))
   | (simp at h5;omega)
 cases hwl with
 | cons w1 w2 =>
  cases w2
  cases w1 with
  | list ho hall=>exact ⟨_,_,ns,rfl,rfl,ho,uO ns _ hall,hlen⟩
theorem Ma (l:OpenLaw) (args:List WData):l.row.toRowW.claim.post args (.bool true) args=true :=
 postW_of (r:=l.row.toRowW) (X:=(true == true))
  (show WShape.has [] (.bool true) .bool=true by first | rfl | decide | simp [WShape.has,WShape.arms,WShape.armsAll])
  (show (WTm.eq .res (.lit (.bool true))).value [] { args:=args,res:=some (.bool true),after:=args }=some (.bool (true == true)) from w_eq_bool (w_res rfl) w_lit) rfl
theorem attach_call {l:OpenLaw} {n:Nat} {q:Program} {loose:List Str} {XP:(Str->Option Value)->Heap->Prop} {YP:World->Heap->Prop} {d:DefRec}
  (hn:l.most=some n) (hdf:d.params.defaults=[])
  (call:∀ (w:World) (s₀ s₁:Shared) (mg mb:Str->Option Value) (fa:Addr) (o:Obj) (pm cd doc:Value) (a:Addr) (vs:List Value) (ns:List Int),
   Ground q loose [] XP w s₀ mg mb s₁.heap->YP w s₁.heap ->
   s₁.heap.get? fa=some o->o.data=.func (docDef d.name d.params d.body d.scope pm cd doc)->s₁.heap.CodeRec cd d.name->mg d.name=some (.ref fa) ->
   s₁.heap.get? a=some { cls:=.type "list",data:=.seq vs.toArray }->IntsAre vs ns->ns.length<=n->s₁.gens=#[] ->
   codeAny (model l.prog w) callerA (.call (.ref fa) ⟨[.ref a],[]⟩) (fun r s'=>r=.ok (.ret (.bool true))/\OldK s₁.heap s'.heap/\s'.os=s₁.os/\AllBare s'.gens) s₁) :
  WalkO q loose XP YP l.row.toRowW d [] (fun f vs=>PySem.call f vs):=by
 intro w s₀ s₁ mg mb G Y fa o pm cd doc dV kV ho hd hcd hD hmg hg args vals as hpre hlay hrd hwl hlo
 obtain rfl:dV=.none:=Dflts.none hD hdf
 obtain rfl:kV=.none:=Dflts.noKw hD
 obtain ⟨a,vs,ns,rfl,rfl,hobj,hints,hlen⟩:=Lk hn hpre hwl
 refine enter_call (codeAny_mono (call w s₀ s₁ mg mb fa o pm cd doc a vs ns G Y ho (fd_plain hd) hcd hmg hobj hints hlen hg) fun r s' hq=>?_)
 obtain ⟨rfl,h2,h3,h4⟩:=hq
 exact ⟨.inl ⟨.bool true,.bool true,[],rfl,fun _=>rfl,.bool true,Ma l _,fun _=>⟨List.Pairwise.nil,fun _ hm=>(nomatch hm)⟩⟩,h2,h3,h4⟩
end Att
namespace L2
open PySem PySem.Spec PyProof.Rows
variable {A:Prop} {H:Hp} {fd:FuncData} {x:Str}
theorem zL:∀ {vs:List Value} {ns:List Int},IntsAre vs ns->aY (ns.map V.int) vs
 | _,_,.nil=>.nil
 | _,_,.cons n t h=>.cons ⟨t,rfl⟩ (zL h)
def Only (H:Hp):Prop:=∀ b,H b=none∨∃ o xs,H b=some (.frz o (.lst xs))
theorem Rf {P:Program} {w:World} {K:PySem.W.Frag} {mg mb:Str->Option Value} {CX:CXT} {k:Nat} {fa a:Addr} {sp:Sp} {s₁:Shared} {vs:List Value} {ns:List Int}
  (KX:K.In s₁.heap) (hns:s₁.heap.Ns mainGlobals mg) (hb:s₁.heap.Ns builtinsNs mb) (hbb:∀ x:Str,x ≠ "__name__" -> mb x=bootBuiltins x) (hlim:s₁.heap.NoLimit) (hg:s₁.gens=#[])
  (ha:s₁.heap.get? a=some { cls:=.type "list",data:=.seq vs.toArray }) (hi:IntsAre vs ns) (hl:ns.length<=sizeLine) (hr:cV k callerA)
  (F:∀ base:Heap,K.In base->base.Ns mainGlobals mg->fT P w K mg base CX k fa fd [x] sp) (hbind:∀ (s:Shared) (u:Value),BindsTo s fd ⟨[u],[]⟩ [(x,u)])
  (hsp:∀ H:Hp,Only H->SqL K H a (ns.map V.int)->sp [.ref a] H (fun v _=>v=.bl true) fun _ _ _=>False)
  (hCX:∀ H e s',CX [] H s₁ (fun _ _ _=>False) e s'->False) :
  codeAny (model P w) callerA (.call (.ref fa) ⟨[.ref a],[]⟩) (fun r s'=>r=.ok (.ret (.bool true))/\OldK s₁.heap s'.heap/\s'.os=s₁.os/\AllBare s'.gens) s₁:=by
 have rv:=zL hi
 have lenV:=hi.length
 -- from an abstract heap in which nothing but the script may be tracked
 have core:∀ H:Hp,Only H->SqL K H a (ns.map V.int)->HOk P w H s₁.heap->(∀ b,H b≠none->b=a)->(H a≠none->K.lookup a=none) ->
   codeAny (model P w) callerA (.call (.ref fa) ⟨[.ref a],[]⟩) (fun r s'=>r=.ok (.ret (.bool true))/\OldK s₁.heap s'.heap/\s'.os=s₁.os/\AllBare s'.gens) s₁:=by
  intro H hO hS hok hA hK
  have base_of:∀ {b:Addr} {o:Obj},s₁.heap.get? b=some o->H b=none->(Ba s₁.heap H).get? b=some o:=fun e n=>Rj e n
  have noA:∀ {b:Addr} {o:Obj} {es:Array DictEntry} {ep:Nat},s₁.heap.get? b=some o->o.data=.dict es ep->H b=none:=fun {b o es ep} e d=>by
   cases q:H b with
   | none=>rfl
   | some u =>
    have e':b=a:=hA b (by rw [q];simp)
    subst e'
    rw [ha] at e;cases e
    have d':Data.seq vs.toArray _=Data.dict es ep:=d
    cases d'
  have nsK:∀ {b:Addr} {m:Str->Option Value},s₁.heap.Ns b m->(Ba s₁.heap H).Ns b m:=fun {b m} ⟨o,es,ep,e,d,r⟩=>⟨o,es,ep,base_of e (noA e d),d,r⟩
  have hKb:K.In (Ba s₁.heap H):=fun b o e=>base_of (KX b o e) (by
   cases q:H b with
   | none=>rfl
   | some u =>
    have e':b=a:=hA b (by rw [q];simp)
    subst e'
    rw [hK (by rw [q];simp)] at e;cases e)
  have hM:Mod K mg (Ba s₁.heap H):=⟨hKb,nsK hns,⟨mb,nsK hb,hbb⟩,let ⟨mc,h1,h2⟩:=hlim;⟨mc,nsK h1,h2⟩⟩
  have e0:yS P w K mg (Ba s₁.heap H) callerA [] s₁ H:=⟨rfl,hM,fun b o e=>Tz e,Nat.le_of_eq (Na _ _),trivial,fun b hb=>absurd (show b∈([]:List Addr) from hb) (by simp),hok,.of_eq hg⟩
  refine codeAny_mono ((F _ hKb (nsK hns)).run callerA [] s₁ H ⟨[.ref a],[]⟩ [.ref a] [.ref a] _ _ hr e0 (hbind s₁ (.ref a)) (.cons rfl .nil) (hsp H hO hS)) fun r s' h=>?_
  cases r with
  | error e=>exact (hCX H e s' h).elim
  | ok fl =>
   cases fl with
   | next=>exact False.elim h
   | brk=>exact False.elim h
   | cont=>exact False.elim h
   | ret u =>
    obtain ⟨v,H',os,bare,un,hok',r',q⟩:=h
    have q':v=.bl true:=q
    subst q'
    obtain rfl:u=Value.bool true:=r'
    refine ⟨rfl,OldK.of_keep fun b o e=>?_,os,bare⟩
    cases q:H b with
    | none=>exact un.keep b o e q (by intro z;exact absurd (show b∈([]:List Addr) from z) (by simp)) (by simp)
    | some u =>
     rcases hO b with z | ⟨ob,xs,z⟩
     ·rw [q] at z;cases z
     ·have z2:=un.frzs b ob _ z
      obtain ⟨e1,_⟩:=hok b _ z
      obtain ⟨e2,_⟩:=hok' b _ z2
      rw [e] at e1;cases e1
      exact e2
 cases hk:K.lookup a with
 | some o =>
  -- the script is one of the module's own objects
  have e:=KX a o hk
  rw [ha] at e
  cases e
  refine core (fun _=>none) (fun _=>.inl rfl) (.inr ⟨_,vs.toArray,_,hk,rfl,rfl,rfl,by rw [List.size_toArray,lenV];exact hl,by simpa using rv⟩) (fun b u z=>by have z':(none:Option HO)=some u:=z;cases z') (fun b z=>absurd rfl z) fun z=>absurd rfl z
 | none =>
  refine core (fun b=>if b=a then some (.frz { cls:=.type "list",data:=.seq vs.toArray } (.lst (ns.map V.int))) else none) (fun b=>?_) (.inl (.inr ⟨{ cls:=.type "list",data:=.seq vs.toArray },if_pos rfl⟩)) (fun b u z=>?_) (fun b z=>?_) fun _=>hk
  ·by_cases hb:b=a
   ·exact .inr ⟨_,_,if_pos hb⟩
   ·exact .inl (if_neg hb)
  ·by_cases hb:b=a
   ·have z':=(if_pos hb).symm.trans z
    cases z'
    subst hb
    exact ⟨ha,by rw [List.length_map];exact hl,vs,_,rv,ha⟩
   ·have z':=(if_neg hb).symm.trans z
    cases z'
  ·by_cases hb:b=a
   ·exact hb
   ·exact absurd (if_neg hb) z
theorem walk_of {l:PySem.W.OpenLaw} {n k:Nat} {q:Program} {loose:List Str} {XP:(Str->Option Value)->Heap->Prop} {YP:World->Heap->Prop} {d:DefRec} {K:Params->PySem.W.Frag} {CX:World->CXT} {sp:World->Sp}
  (hn:l.most=some n) (hn2:n<=sizeLine) (hdf:d.params.defaults=[]) (hr:cV k callerA)
  (hY:∀ (w:World) (h:Heap),YP w h->(K w.params).In h)
  (F:∀ (w:World) (mg:Str->Option Value) (fa:Addr) (h:Heap),(K w.params).In h->h.Ns mainGlobals mg->mg d.name=some (.ref fa) ->
   ∃ fd:FuncData,(∀ (s:Shared) (u:Value),BindsTo s fd ⟨[u],[]⟩ [(x,u)]) /\
    ∀ base:Heap,(K w.params).In base->base.Ns mainGlobals mg->fT l.prog w (K w.params) mg base (CX w) k fa fd [x] (sp w))
  (hsp:∀ (w:World) (H:Hp) (a:Addr) (ns:List Int),ns.length<=n->Only H->SqL (K w.params) H a (ns.map V.int)->sp w [.ref a] H (fun v _=>v=.bl true) fun _ _ _=>False)
  (hCX:∀ (w:World) (H:Hp) (s:Shared) (e:Value) (s':Shared),CX w [] H s (fun _ _ _=>False) e s'->False) :
  PySem.W.WalkO q loose XP YP l.row.toRowW d [] (fun f vs=>PySem.call f vs):=by
 refine Att.attach_call hn hdf fun w s₀ s₁ mg mb fa o pm cd doc a vs ns G Y ho hd hcd hmg hobj hints hlen hg=>?_
 have KX:=hY w _ Y
 obtain ⟨fd,hb,hF⟩:=F w mg fa _ KX G.T.g hmg
 exact Rf KX G.T.g G.T.b G.T.builtins G.T.nolimit hg hobj hints (Nat.le_trans hlen hn2) hr hF hb (fun H hO hS=>hsp w H a ns hlen hO hS) fun H e s'=>hCX w H s₁ e s'
def nQ (s:Stmt) (j:Nat):Stmt:=match s with
 | .ClassDef _ _ _ body _ _ _ _ _ _ _=>body.getD j (.Pass ⟨0,0,0,0⟩)
 | _=>.Pass ⟨0,0,0,0⟩
def eU (s:Stmt):Arguments:=match s with
 | .FunctionDef _ a _ _ _ _ _ _ _ _=>a
 | _=>{ posonlyargs:=[],args:=[],vararg:=none,kwonlyargs:=[],kw_defaults:=[],kwarg:=none,defaults:=[] }
def cJ (s:Stmt):List Stmt:=match s with
 | .FunctionDef _ _ b _ _ _ _ _ _ _=>b
 | _=>[]
def aP (s:Stmt):Scope:=match s with
 | .FunctionDef _ _ _ _ _ _ sc _ _ _=>sc
 | _=>{ kind:=.function,names:=[],isGenerator:=false,isCoroutine:=false }
abbrev CX0:CXT:=fun _ _ _ _ _ _=>False
abbrev E0:XK:=fun _ _ _=>False
theorem Iz {X:Cx}:mL CX0 X E0:=fun _ _ _ _ _ _ _ h=>h.elim
structure Fun (K:PySem.W.Frag) (x qual:Str) (st:Stmt) (f:Addr) (fd:FuncData):Prop where
 ex:∃ (oc:Value) (od:Option Addr) (kV doc pm:Value) (an:Option Addr) (cdv ct:Value) (osl:Array (Option Value)),
  fd=PySem.W.fnOf x qual (eU st) (cJ st) (aP st) .none kV doc pm an cdv ct/\K.lookup f=some ⟨oc,od,.func fd,osl⟩/\PySem.W.codeIn K cdv qual=true
 kp:PySem.W.keepIn K (.ref f)=true
section
variable {P:Program} {w:World} {K:PySem.W.Frag} {mg:Str->Option Value} {base:Heap}
theorem Fun.ok {qual:Str} {st:Stmt} {f:Addr} {N ps:List Str} {k:Nat} {sp:Sp} (F:Fun K x qual st f fd) (S:gL N ps (aP st)) (len:∀ vs H Q E,sp vs H Q E->vs.length=ps.length)
  (hbody:∀ (cdv:Value) (A:Around) (outer:List Env) (s:Shared) (H:Hp) (vs:List V) (Q:VK) (E:XK),cV k (A.deeper (envOfC qual (aP st) s.heap.objs.size f cdv))->sp vs H Q E ->
   ∃ t,PSs (jD CX0 P w K mg base N qual (aP st) f cdv A outer s H E).nox (cJ st) t/\t { nx:=fun _ H'=>Q .non H',rt:=Q } (start N vs) H):fT P w K mg base CX0 (k+1) f fd ps sp:=by
 obtain ⟨oc,od,kV,doc,pm,an,cdv,ct,osl,rfl,lk,hcd⟩:=F.ex
 refine Ja lk hcd S len fun A outer s H vs Q E hr hsp=>?_
 obtain ⟨t,h,q⟩:=hbody cdv A outer s H vs Q E hr hsp
 exact ⟨t,h.nox,q⟩
theorem Fun.binds {qual:Str} {st:Stmt} {f:Addr} {ps:List Str} (F:Fun K x qual st f fd)
  (h:∀ (kV doc pm:Value) (an:Option Addr) (cdv ct:Value) (us:List Value),us.length=ps.length->bindArgs (PySem.W.fnOf x qual (eU st) (cJ st) (aP st) .none kV doc pm an cdv ct) ⟨us,[]⟩=pure (ps.zip us)):gW K fd ps []:=by
 obtain ⟨oc,od,kV,doc,pm,an,cdv,ct,osl,rfl,lk,hcd⟩:=F.ex
 exact .all (h kV doc pm an cdv ct)
end
theorem mI {A:Around} {k:Nat} (hr:cV k A):A.units+1 < cLine:=Nat.lt_of_le_of_lt (Nat.add_le_add_left (by decide:1<=64) _) hr.units
theorem vL {B:Prop} (h:B):if false=true then A else B:=by
 rw [if_neg Bool.false_ne_true]
 exact h
theorem Sq {B:Prop} (h:A):if true=true then A else B:=by
 rw [if_pos rfl]
 exact h
theorem uG {c B:Prop} [Decidable c] (h1:c->A) (h2:¬ c->B):if c then A else B:=by
 by_cases h:c
 ·rw [if_pos h]
  exact h1 h
 ·rw [if_neg h]
  exact h2 h
theorem Ol {c B:Prop} [Decidable c] (hc:c) (h:B):if (!decide c)=true then A else B:=by
 rw [decide_eq_true hc]
 exact vL h
def aE (H H':Hp):Prop:=∀ b o,H b=some o->H' b=some o
theorem aE.refl (H:Hp):aE H H:=fun _ _ h=>h
theorem aE.trans {H1 H2:Hp} (a:aE H H1) (b:aE H1 H2):aE H H2:=fun c o h=>b c o (a c o h)
theorem aE.free {H':Hp} (e:aE H H') {l:Addr} (h:H' l=Option.none):H l=Option.none:=by
 cases q:H l with
 | none=>rfl
 | some o =>
  rw [e l o q] at h
  cases h
theorem aE.seq {K:PySem.W.Frag} {H':Hp} {a:Addr} {xs:List V} (e:aE H H') (h:SqL K H a xs):SqL K H' a xs:=by
 rcases h with (h | ⟨o,h⟩) | h
 ·exact .inl (.inl (e _ _ h))
 ·exact .inl (.inr ⟨o,e _ _ h⟩)
 ·exact .inr h
end L2
set_option Elab.async false
set_option linter.all false
set_option maxRecDepth 100000
set_option maxHeartbeats 4000000
namespace L2
open PySem PySem.Spec PyProof.Rows
variable {H H':Hp} {P:Program} {Q:Value->Shared->Prop} {a:Addr} {o:Option V} {s:Shared} {u:Value} {xs:List (List Key×Addr×Value)} {y:V}
section
variable {κ:Type} [DecidableEq κ]
def dR (kvs:List (κ×V)) (k:κ):Option V:=(kvs.find? fun kv=>decide (kv.1=k)).map (·.2)
def eF (kvs:List (κ×V)) (k:κ) (v:V):List (κ×V) :=
 if (kvs.any fun kv=>decide (kv.1=k))=true then kvs.map (fun kv=>if kv.1=k then (kv.1,v) else kv) else kvs ++ [(k,v)]
def dropK (kvs:List (κ×V)) (k:κ):List (κ×V):=kvs.filter fun kv=>decide (kv.1≠k)
theorem dI {p:κ×V} {r:List (κ×V)} {k:κ} (e:p.1=k):dR (p :: r) k=some p.2:=by simp [dR,List.find?_cons,e]
theorem dJ {p:κ×V} {r:List (κ×V)} {k:κ} (e:¬ p.1=k):dR (p :: r) k=dR r k:=by simp [dR,List.find?_cons,e]
theorem jW (k:κ):∀ kvs:List (κ×V),(kvs.any fun kv=>decide (kv.1=k))=(dR kvs k).isSome
 | []=>rfl
 | p :: r=>by
  rw [List.any_cons]
  by_cases e:p.1=k
  ·simp only [dI e,decide_eq_true e,Bool.true_or,Option.isSome_some]
  ·rw [dJ e,decide_eq_false e,Bool.false_or];exact jW k r
theorem Dv (k j:κ) (y:V):∀ kvs:List (κ×V),dR (kvs.map fun kv=>if kv.1=k then (kv.1,y) else kv) j=(dR kvs j).map fun x=>if j=k then y else x
 | []=>rfl
 | p :: r=>by
  have ih:=Dv k j y r
  rw [List.map_cons]
  by_cases h:p.1=k
  ·rw [if_pos h]
   by_cases e:p.1=j
   ·rw [dI (p:=(p.1,y)) e,dI e,Option.map_some,if_pos (e.symm.trans h)]
   ·rw [dJ (p:=(p.1,y)) e,dJ e,ih]
  ·rw [if_neg h]
   by_cases e:p.1=j
   ·rw [dI (p:=p) e,dI e,Option.map_some,if_neg (fun z=>h (e.trans z))]
   ·rw [dJ (p:=p) e,dJ e,ih]
theorem zM (k j:κ) (y:V):∀ kvs:List (κ×V),dR kvs k=none->dR (kvs ++ [(k,y)]) j=if j=k then some y else dR kvs j
 | [],_=>by
  by_cases e:k=j
  ·rw [if_pos e.symm];exact dI (p:=(k,y)) e
  ·rw [if_neg (fun z=>e z.symm)];exact dJ (p:=(k,y)) e
 | p :: r,hn=>by
  rw [List.cons_append]
  have hk:¬ p.1=k:=fun z=>by rw [dI z] at hn;cases hn
  rw [dJ hk] at hn
  have ih:=zM k j y r hn
  by_cases e:p.1=j
  ·rw [dI e,dI e,if_neg (fun z=>hk (e.trans z))]
  ·rw [dJ e,dJ e,ih]
theorem qR (kvs:List (κ×V)) (k j:κ) (y:V):dR (eF kvs k y) j=if j=k then some y else dR kvs j:=by
 unfold eF
 by_cases a:(kvs.any fun kv=>decide (kv.1=k))=true
 ·rw [if_pos a,Dv]
  rw [jW] at a
  by_cases e:j=k
  ·obtain ⟨x,hx⟩:=Option.isSome_iff_exists.mp a
   rw [if_pos e,e,hx,Option.map_some,if_pos rfl]
  ·rw [if_neg e]
   cases dR kvs j with
   | none=>rfl
   | some x=>rw [Option.map_some,if_neg e]
 ·rw [if_neg a]
  refine zM k j y kvs ?_
  rw [jW] at a
  cases q:dR kvs k with
  | none=>rfl
  | some x=>rw [q] at a;exact (a rfl).elim
theorem gZ (kvs:List (κ×V)) (k:κ) (v:V):(eF kvs k v).length<=kvs.length+1:=by
 unfold eF
 split
 ·rw [List.length_map];omega
 ·rw [List.length_append,List.length_cons,List.length_nil];omega
theorem mQ {kvs:List (κ×V)} {k:κ} (v:V) (h:dR kvs k=none):eF kvs k v=kvs ++ [(k,v)]:=by
 unfold eF
 rw [jW,h]
 exact if_neg (by decide)
theorem mB.isSome_eq {u:Option Value} (r:mB o u):o.isSome=u.isSome:=by
 cases o with
 | none=>cases u with
  | none=>rfl
  | some _=>exact (show False from r).elim
 | some _=>cases u with
  | none=>exact (show False from r).elim
  | some _=>rfl
theorem mB.getD {u:Option Value} {d:V} {d':Value} (r:mB o u) (rd:aZ d d'):aZ (o.getD d) (u.getD d'):=by
 cases o with
 | none=>cases u with
  | none=>exact rd
  | some _=>exact (show False from r).elim
 | some _=>cases u with
  | none=>exact (show False from r).elim
  | some _=>exact r
theorem KV.val {kvs:List (κ×V)} {vs:List (κ×Value)} (r:KV kvs vs) (k:κ):mB (dR kvs k) (valueAt vs k):=by
 unfold KV at r
 induction r with
 | nil=>exact True.intro
 | @cons p q ps qs h t ih =>
  obtain ⟨h1,h2⟩:=h
  by_cases e:p.1=k
  ·have e':q.1=k:=h1.symm.trans e
   have b:valueAt (q :: qs) k=some q.2:=by simp [valueAt,List.find?_cons,e']
   rw [dI e,b];exact h2
  ·have e':¬ q.1=k:=fun z=>e (h1.trans z)
   have b:valueAt (q :: qs) k=valueAt qs k:=by simp [valueAt,List.find?_cons,e']
   rw [dJ e,b];exact ih
theorem KV.any {kvs:List (κ×V)} {vs:List (κ×Value)} (r:KV kvs vs) (k:κ):(kvs.any fun kv=>decide (kv.1=k))=vs.any fun kv=>decide (kv.1=k):=by
 unfold KV at r
 induction r with
 | nil=>rfl
 | cons h t ih=>rw [List.any_cons,List.any_cons,ih,h.1]
theorem KV.repl {kvs:List (κ×V)} {vs:List (κ×Value)} (r:KV kvs vs) (k:κ) (ry:aZ y u) :
  KV (kvs.map fun kv=>if kv.1=k then (kv.1,y) else kv) (vs.map fun kv=>if kv.1=k then (kv.1,u) else kv):=by
 unfold KV at r ⊢
 induction r with
 | nil=>exact .nil
 | @cons p q ps qs h t ih =>
  rw [List.map_cons,List.map_cons]
  refine .cons ?_ ih
  obtain ⟨h1,h2⟩:=h
  by_cases e:p.1=k
  ·rw [if_pos e,if_pos (h1.symm.trans e)];exact ⟨h1,ry⟩
  ·rw [if_neg e,if_neg (fun z=>e (h1.trans z))];exact ⟨h1,h2⟩
theorem KV.put {kvs:List (κ×V)} {vs:List (κ×Value)} (r:KV kvs vs) (k:κ) (ry:aZ y u):KV (eF kvs k y) (stored vs k u):=by
 unfold eF stored
 rw [r.any k]
 by_cases e:(vs.any fun kv=>decide (kv.1=k))=true
 ·rw [if_pos e,if_pos e];exact r.repl k ry
 ·rw [if_neg e,if_neg e];exact Paired.snoc r ⟨rfl,ry⟩
theorem KV.drop {kvs:List (κ×V)} {vs:List (κ×Value)} (r:KV kvs vs) (k:κ):KV (dropK kvs k) (without vs k):=by
 unfold KV at r ⊢
 unfold dropK without
 induction r with
 | nil=>exact .nil
 | @cons p q ps qs h t ih =>
  obtain ⟨h1,h2⟩:=h
  rw [List.filter_cons,List.filter_cons]
  by_cases e:p.1=k
  ·have a:¬ decide (p.1≠k)=true:=by simp [e]
   have b:¬ decide (q.1≠k)=true:=by simp [h1.symm.trans e]
   rw [if_neg a,if_neg b];exact ih
  ·have e':¬ q.1=k:=fun z=>e (h1.trans z)
   have a:decide (p.1≠k)=true:=by simp [e]
   have b:decide (q.1≠k)=true:=by simp [e']
   rw [if_pos a,if_pos b];exact .cons ⟨h1,h2⟩ ih
theorem KV.keys {kvs:List (κ×V)} {vs:List (κ×Value)} (r:KV kvs vs):kvs.map (·.1)=vs.map (·.1):=by
 unfold KV at r
 induction r with
 | nil=>rfl
 | cons h t ih=>rw [List.map_cons,List.map_cons,ih,h.1]
theorem KV.length {kvs:List (κ×V)} {vs:List (κ×Value)} (r:KV kvs vs):kvs.length=vs.length:=Paired.length r
end
theorem Dp {w:World} {k:Key} (r:aZ (kV k) u):(dB P w).is k u=true:=by
 cases k with
 | inl i=>obtain ⟨t,e⟩:=(show ∃ t,u=Value.int i t from r);subst e;exact Gb P w i t
 | inr x=>obtain ⟨t,e⟩:=(show ∃ t,u=Value.str x t from r);subst e;exact Ga P w x t
theorem zZ {P:Program} {w:World}:∀ {ks:List Key} {us:List Value},aY (ks.map kV) us->ItemsAre (dB P w) ks us
 | [],_,r=>by rw [List.map_nil] at r;cases r;exact .nil
 | k :: ks,_,r=>by
  rw [List.map_cons] at r
  cases r with
  | cons h t=>exact .cons (Dp h) (zZ t)
abbrev KT (H:Hp):List (List Key×V)->List (List Key×Addr×Value)->Prop:=Paired fun p q=>p.1=q.1/\H q.2.1=some (.tup (p.1.map kV))/\aZ p.2 q.2.2
theorem KT.val {kvs:List (List Key×V)} (r:KT H kvs xs) (k:List Key):mB (dR kvs k) ((atKey xs k).map (·.2)):=by
 induction r with
 | nil=>exact True.intro
 | @cons p q ps qs h t ih =>
  obtain ⟨h1,_,h2⟩:=h
  by_cases e:p.1=k
  ·have e':q.1=k:=h1.symm.trans e
   have b:atKey (q :: qs) k=some q.2:=by simp [atKey,List.find?_cons,e']
   rw [dI e,b];exact h2
  ·have e':¬ q.1=k:=fun z=>e (h1.trans z)
   have b:atKey (q :: qs) k=atKey qs k:=by simp [atKey,List.find?_cons,e']
   rw [dJ e,b];exact ih
theorem KT.repl {kvs:List (List Key×V)} (r:KT H kvs xs) (k:List Key) (ry:aZ y u) :
  KT H (kvs.map fun kv=>if kv.1=k then (kv.1,y) else kv) (xs.map (putAt k u)):=by
 induction r with
 | nil=>exact .nil
 | @cons p q ps qs h t ih =>
  rw [List.map_cons,List.map_cons]
  refine .cons ?_ ih
  obtain ⟨h1,h2,h3⟩:=h
  unfold putAt
  by_cases e:p.1=k
  ·rw [if_pos e,if_pos (h1.symm.trans e)];exact ⟨h1,h2,ry⟩
  ·rw [if_neg e,if_neg (fun z=>e (h1.trans z))];exact ⟨h1,h2,h3⟩
theorem KT.put {kvs:List (List Key×V)} (r:KT H kvs xs) (k:List Key) {b:Addr} (hb:H b=some (.tup (k.map kV))) (ry:aZ y u) :
  KT H (eF kvs k y) (storedH xs k b u):=by
 have e:(kvs.any fun kv=>decide (kv.1=k))=(atKey xs k).isSome:=by
  rw [jW,(r.val k).isSome_eq,Option.isSome_map]
 unfold eF storedH
 rw [e]
 by_cases q:(atKey xs k).isSome=true
 ·rw [if_pos q,if_pos q];exact r.repl k ry
 ·rw [if_neg q,if_neg q];exact Paired.snoc r ⟨rfl,hb,ry⟩
theorem KT.keeps {kvs:List (List Key×V)} (r:KT H kvs xs) (ht:∀ b ys,H b=some (.tup ys)->H' b=some (.tup ys)):KT H' kvs xs :=
 Paired.mapP r fun _ _ z=>⟨z.1,ht _ _ z.2.1,z.2.2⟩
section
variable {P:Program} {w:World} {H:Hp} {h:Heap} {a:Addr}
theorem rd_of {u:HO} (ok:HOk P w H h) (e:Rd H a u):bZ P w H h a u:=e.ok ok
theorem zK {kvs:List (Key×V)} (ok:HOk P w H h) (e:Rd H a (.dK kvs)):kvs.length<=sizeLine/\(a == sysModules)=false/\∃ vs,KV kvs vs/\h.DictOf (dB P w) a vs :=
 show bZ P w H h a (.dK kvs) from rd_of ok e
theorem dk_of {kvs:List (Key×V)} (ok:HOk P w H h) (e:H a=some (.dK kvs)):kvs.length<=sizeLine/\(a == sysModules)=false/\∃ vs,KV kvs vs/\h.DictOf (dB P w) a vs:=zK ok (.inl e)
theorem vT {ks:List Key} (ok:HOk P w H h) (e:H a=some (.tup (ks.map kV))):(tupleKind (dB P w)).is h ks a:=by
 obtain ⟨_,its,r,o,h1,h2,n,h3⟩:=(show bZ P w H h a (.tup (ks.map kV)) from ok a _ e)
 exact ⟨o,its.toArray,n,h1,h2,h3,by simpa using zZ r⟩
theorem zJ {kvs:List (List Key×V)} (ok:HOk P w H h) (e:Rd H a (.dT kvs)):kvs.length<=sizeLine/\(a == sysModules)=false /\
  ∃ xs,KT H kvs xs/\h.DictOfH (tupleKind (dB P w)) a xs:=by
 obtain ⟨z,y,xs,r,o,es,ep,h1,h2,h3,h4,h5⟩:=(show bZ P w H h a (.dT kvs) from rd_of ok e)
 refine ⟨z,y,xs,r,o,es,ep,h1,h2,h3,h4,fun x hx=>?_,h5⟩
 have all:∀ {l:List (List Key×V)} {m:List (List Key×Addr×Value)},KT H l m->∀ x∈m,(tupleKind (dB P w)).is h x.1 x.2.1:=by
  intro l m q
  induction q with
  | nil=>intro x hx;exact nomatch hx
  | @cons p q ps qs hq t ih =>
   intro x hx
   rcases List.mem_cons.mp hx with e | hx
   ·subst e
    exact vT ok (by rw [← hq.1];exact hq.2.1)
   ·exact ih x hx
 exact all r x hx
theorem dt_of {kvs:List (List Key×V)} (ok:HOk P w H h) (e:H a=some (.dT kvs)):kvs.length<=sizeLine/\(a == sysModules)=false /\
  ∃ xs,KT H kvs xs/\h.DictOfH (tupleKind (dB P w)) a xs:=zJ ok (.inl e)
end
def mH (H:Hp) (a:Addr) (y:V) (r:Option V):Prop :=
 (∃ kvs k,Rd H a (.dK kvs)/\y=kV k/\r=dR kvs k)∨∃ kvs k b,Rd H a (.dT kvs)/\y=.ref b/\H b=some (.tup (k.map kV))/\r=dR kvs k
def vM (H:Hp) (a:Addr) (y v:V) (H':Hp):Prop :=
 (∃ kvs k,H a=some (.dK kvs)/\y=kV k/\kvs.length < sizeLine/\H'=upd H a (.dK (eF kvs k v))) ∨
 ∃ kvs k b,H a=some (.dT kvs)/\y=.ref b/\H b=some (.tup (k.map kV))/\kvs.length < sizeLine/\H'=upd H a (.dT (eF kvs k v))
theorem mH.k {H:Hp} {a:Addr} {kvs:List (Key×V)} {k:Key} (e:H a=some (.dK kvs)):mH H a (kV k) (dR kvs k):=.inl ⟨kvs,k,.inl e,rfl,rfl⟩
theorem mH.t {b:Addr} {kvs:List (List Key×V)} {k:List Key} (e:H a=some (.dT kvs)) (eb:H b=some (.tup (k.map kV))):mH H a (.ref b) (dR kvs k):=.inr ⟨kvs,k,b,.inl e,rfl,eb,rfl⟩
theorem vM.k {H:Hp} {a:Addr} {kvs:List (Key×V)} {k:Key} {v:V} (e:H a=some (.dK kvs)) (hl:kvs.length < sizeLine):vM H a (kV k) v (upd H a (.dK (eF kvs k v))):=.inl ⟨kvs,k,e,rfl,hl,rfl⟩
theorem vM.t {b:Addr} {kvs:List (List Key×V)} {k:List Key} {v:V} (e:H a=some (.dT kvs)) (eb:H b=some (.tup (k.map kV))) (hl:kvs.length < sizeLine) :
  vM H a (.ref b) v (upd H a (.dT (eF kvs k v))):=.inr ⟨kvs,k,b,e,rfl,eb,hl,rfl⟩
section
variable {X:Cx} {pins:List (Addr×Obj)} {σ:St} {H:Hp} {s:Shared} {a:Addr} {y v:V} {u r:Value} {o:Option V} {A:Around} {E:Value->Shared->Prop}
theorem Inv.big (I:Inv X pins σ H s):sysModules < s.heap.objs.size:=by
 have h:mainGlobals < s.heap.objs.size:=(I.mod.glob.keeps I.bk).lt
 exact Nat.lt_trans (by decide) h
theorem Nj (hu:A.units+1 < cLine) (I:Inv X pins σ H s) (g:mH H a y (some v)) (ry:aZ y u) (h:∀ w' s',Inv X pins σ H s'->aZ v w'->Q w' s') :
  wpAny (model X.prog X.w) A (getItem (.ref a) u) Q E s:=by
 rcases g with ⟨kvs,k,e,ey,l⟩ | ⟨kvs,k,b,e,ey,eb,l⟩
 ·subst ey
  obtain ⟨z,hd,vs,rel,dd⟩:=zK I.hok e
  obtain ⟨w',hw,rw'⟩:=mB.some_of (v:=v) (o:=valueAt vs k) (by rw [l];exact rel.val k)
  exact wpAny_getItem_of (Dp ry) dd.mapOf hw (h w' _ (I.tok _) rw')
 ·subst ey
  cases (show u=Value.ref b from ry)
  obtain ⟨z,hd,xs,rel,dd⟩:=zJ I.hok e
  obtain ⟨w',hw,rw'⟩:=mB.some_of (v:=v) (o:=(atKey xs k).map (·.2)) (by rw [l];exact rel.val k)
  obtain ⟨p,hp,hp2⟩:=Option.map_eq_some_iff.mp hw
  refine wpAny_getItem_heap (tupleKind_room_in1 hu) (vT I.hok eb) dd hp ?_
  rw [hp2]
  exact h w' _ (I.tok _) rw'
theorem Ux (hu:A.units+1 < cLine) (I:Inv X pins σ H s) (g:mH H a y o) (ry:aZ y u) (h:∀ s',Inv X pins σ H s'->Q (.bool (!o.isSome)) s') :
  wpAny (model X.prog X.w) A (compareOp .NotIn u (.ref a)) Q E s:=by
 rcases g with ⟨kvs,k,e,ey,l⟩ | ⟨kvs,k,b,e,ey,eb,l⟩
 ·subst ey
  obtain ⟨z,hd,vs,rel,dd⟩:=zK I.hok e
  refine wpAny_notIn_of (Dp ry) hd dd.mapOf ?_
  rw [← (rel.val k).isSome_eq,← l]
  exact h _ (I.tok _)
 ·subst ey
  cases (show u=Value.ref b from ry)
  obtain ⟨z,hd,xs,rel,dd⟩:=zJ I.hok e
  refine wpAny_notIn_heap (tupleKind_room_in1 hu) (vT I.hok eb) hd dd ?_
  have q:=(rel.val k).isSome_eq
  rw [Option.isSome_map] at q
  rw [← q,← l]
  exact h _ (I.tok _)
theorem Kq {h':Heap} {t':Nat} {ob:HO} (I:Inv X pins σ H s) (mu:Mut (H a)) (hs:Heap.SameBut a s.heap h') (he:∃ q,h'.get? a=some q) (new:bZ X.prog X.w (upd H a ob) h' a ob) :
  Inv X pins σ (upd H a ob) { s with heap:=h',toks:=t' } :=
 I.write (x:=a) (e:=a) mu (.inl rfl) (fun b q hb z=>(hs.2 b hb).trans z) he new
theorem dk_new {w:World} {h':Heap} {kvs:List (Key×V)} {vs:List (Key×Value)} (z:kvs.length<=sizeLine) (hd:(a == sysModules)=false) (rel:KV kvs vs) (dd:h'.DictOf (dB P w) a vs) :
  bZ P w H' h' a (.dK kvs):=⟨z,hd,vs,rel,dd⟩
theorem Ni {Q:Unit->Shared->Prop} (hu:A.units+1 < cLine) (I:Inv X pins σ H s) (g:vM H a y v H') (ry:aZ y u) (rv:aZ v r) (h:∀ s',Inv X pins σ H' s'->Q () s') :
  wpAny (model X.prog X.w) A (setItem (.ref a) u r) Q E s:=by
 rcases g with ⟨kvs,k,e,ey,l,eH⟩ | ⟨kvs,k,b,e,ey,eb,l,eH⟩
 ·subst ey eH
  obtain ⟨z,hd,vs,rel,dd⟩:=dk_of I.hok e
  have hz:vs.length<=sizeLine:=by rw [← rel.length];exact z
  have hl:(eF kvs k v).length<=sizeLine:=by have:=gZ kvs k v;omega
  refine wpAny_setItem_pairs (hsz:=hz) (Dp ry) dd fun h' dd' hs=>h _ ?_
  have he:∃ q,h'.get? a=some q:=let ⟨q,_,_,hq,_⟩:=dd';⟨q,hq⟩
  exact Kq I (by rw [e];exact True.intro) hs he (dk_new hl hd (rel.put k rv) dd')
 ·subst ey eH
  cases (show u=Value.ref b from ry)
  obtain ⟨z,hd,xs,rel,dd⟩:=dt_of I.hok e
  have hz:xs.length<=sizeLine:=by rw [← Paired.length rel];exact z
  have hl:(eF kvs k v).length<=sizeLine:=by have:=gZ kvs k v;omega
  refine wpAny_setItem_heap (hsz:=hz) (tupleKind_room_in1 hu) (vT I.hok eb) dd fun h' dd' hs=>h _ ?_
  obtain ⟨q,es,ep,hq,h2,h3,h4,_,h5⟩:=dd'
  refine Kq I (by rw [e];exact True.intro) hs ⟨q,hq⟩ ⟨hl,hd,_,(rel.put k eb rv).keeps fun c ys ec=>?_,q,es,ep,hq,h2,h3,h4,h5⟩
  rw [aN (eK ec e (fun z=>nomatch z))]
  exact ec
end
def NoSl (i:Expr):Prop:=∀ ov iv,subscripted i false ov iv=operate [ov,iv] (getItem ov iv)
theorem Ta {prog:Program} {w:World} {A:Around} {E:Value->Shared->Prop} {env:Env} {value slice:Expr} {pos:Pos} {T id:String}
  (hl:typeLookup (.type T) "__getitem__" = pure (some (.builtin id))) (hs:NoSl slice)
  (h:wpAny (model prog w) A (eval value env) (fun o s₁=>wpAny (model prog w) A (eval slice env) (fun i s₂=>s₂.TypeIs o T/\wpAny (model prog w) A (getItem o i) Q E s₂) E s₁) E s) :
  wpAny (model prog w) A (eval (.Subscript value slice pos) env) Q E s:=by
 refine Subscript_ (wpAny_mono h (fun o s₁ h₁=>wpAny_mono h₁ (fun i s₂ h₂=>?_) fun _ _ x=>x) fun _ _ x=>x)
 obtain ⟨hT,h₂⟩:=h₂
 unfold subscriptTail
 refine wpAny_bind ?_
 rw [getitemInPython_of_ne hT.not_modules]
 refine wpAny_bind (wpAny_specialOf hT hl ?_)
 have fin:wpAny (model prog w) A (subscripted slice false o i) (fun r s₃=>wpAny (model prog w) A (letTemporaryGo value o r >>= fun _=>pure r) Q E s₃) E s₂:=by
  rw [hs o i]
  exact wpAny_operating (wpAny_mono h₂ (fun r s₃ h₃=>wpAny_bind (wpAny_letTemporaryGo (wpAny_pure h₃))) fun _ _ x=>x)
 first
  | exact wpAny_pure (wpAny_bind fin)
  | exact wpAny_bind (wpAny_pure (wpAny_bind fin))
  | exact wpAny_bind fin
theorem Gc {X:Cx} {pins:List (Addr×Obj)} {σ:St} (I:Inv X pins σ H s) (g:mH H a y o):s.TypeIs (.ref a) "dict":=by
 rcases g with ⟨kvs,k,e,_,_⟩ | ⟨kvs,k,b,e,_,_,_⟩
 ·obtain ⟨_,_,vs,_,dd⟩:=zK I.hok e
  exact dd.typeIs
 ·obtain ⟨_,_,xs,_,dd⟩:=zJ I.hok e
  exact dd.typeIs
def qB (td ty:TE):TE:=fun σ H Q=>td σ H fun x H1=>ty σ H1 fun y H2=>∃ a v,x=.ref a/\mH H2 a y (some v)/\Q v H2
def Br (ty td:TE):TE:=fun σ H Q=>ty σ H fun y H1=>td σ H1 fun x H2=>∃ a o,x=.ref a/\mH H2 a y o/\Q (.bl (!o.isSome)) H2
def oJ (td ty tv:TE):TS:=fun D σ H=>tv σ H fun v H1=>td σ H1 fun x H2=>ty σ H2 fun y H3=>∃ a H4,x=.ref a/\vM H3 a y v H4/\D.nx σ H4
section
variable {X:Cx} {o i e value:Expr} {pos pos' tpos:Pos} {td ty tv:TE}
theorem vA (hu:X.A.units+1 < cLine) (ho:PE X o td) (hi:PE X i ty) (hs:NoSl i):PE X (.Subscript o i pos) (qB td ty):=by
 intro pins s σ H Q I h
 refine Ta PySem.F.slot_dict_getitem.lookup hs (thn (ho pins s σ H _ I h) fun u s1 ⟨x,H1,I1,rx,q1⟩=>thn (hi pins s1 σ H1 _ I1 q1) fun iv s2 ⟨y,H2,I2,ry,a,v,ex,g,q2⟩=>?_)
 subst ex
 obtain rfl:u=Value.ref a:=rx
 exact ⟨Gc I2 g,Nj hu I2 g ry fun w' s3 I3 rw'=>⟨v,H2,I3,rw',q2⟩⟩
theorem Mc (hu:X.A.units+1 < cLine) (hi:PE X i ty) (ho:PE X o td):PC X .NotIn i o (Br ty td):=by
 intro pins s σ H Q I h
 refine thn (hi pins s σ H _ I h) fun iv s1 ⟨y,H1,I1,ry,q1⟩=>thn (ho pins s1 σ H1 _ I1 q1) fun u s2 ⟨x,H2,I2,rx,a,ov,ex,g,q2⟩=>?_
 subst ex
 obtain rfl:u=Value.ref a:=rx
 exact Ux hu I2 g ry fun s3 I3=>⟨.bl (!ov.isSome),H2,I3,rfl,q2⟩
theorem qK (hu:X.A.units+1 < cLine) (ho:PE X o td) (hi:PE X i ty) (hv:PE X value tv) (hs:swapsWith value (some (.Subscript o i pos')) pos.line X.env=pure false) :
  PS X (.Assign [.Subscript o i pos'] value pos) (oJ td ty tv):=by
 intro pins s σ H D I h
 refine wpAny_Assign_Subscript (thn (hv pins s σ H _ I h) fun r s1 ⟨v,H1,I1,rv,q1⟩=>thn (ho pins s1 σ H1 _ I1 q1) fun u s2 ⟨x,H2,I2,rx,q2⟩=>thn (hi pins s2 σ H2 _ I2 q2) fun iv s3 ⟨y,H3,I3,ry,a,H4,ex,g,q3⟩=>?_) hs
 subst ex
 obtain rfl:u=Value.ref a:=rx
 exact Ni hu I3 g ry rv fun s4 I4=>⟨σ,H4,I4,q3⟩
end
theorem Rx {w:World} (h:Heap) (hb:sysModules < h.objs.size):bZ P w H (h.push { cls:=.type "dict",data:=.dict #[] }) h.objs.size (.dK []) :=
 ⟨Nat.zero_le _,beq_eq_false_iff_ne.mpr (Ne.symm (Nat.ne_of_lt hb)),[],.nil,Heap.DictOf.new h⟩
theorem Rw {w:World} (h:Heap) (hb:sysModules < h.objs.size):bZ P w H (h.push { cls:=.type "dict",data:=.dict #[] }) h.objs.size (.dT []) :=
 ⟨Nat.zero_le _,beq_eq_false_iff_ne.mpr (Ne.symm (Nat.ne_of_lt hb)),[],.nil,_,#[],0,Heap.get?_push_size _ rfl,⟨rfl,rfl,rfl⟩,rfl,rfl,List.nodup_nil⟩
def Gu:TE:=fun _ H Q=>∀ p,H p=none->Q (.ref p) (upd H p (.dK []))
def sB:TE:=fun _ H Q=>∀ p,H p=none->Q (.ref p) (upd H p (.dT []))
section
variable {X:Cx} {pos:Pos}
theorem Qv:PE X (.Dict [] [] pos) Gu:=fun pins s σ H Q I h =>
 wpAny_Dict_empty ⟨.ref s.heap.objs.size,_,I.laid (a:=s.heap.objs.size) (o:=.dK []) (t':=s.toks) (fun _ _ q=>Heap.get?_push_of_some _ q) (Nat.le_refl _) (Rx s.heap I.big),rfl,h _ (I.hok.fresh (Nat.le_refl _))⟩
theorem wN:PE X (.Dict [] [] pos) sB:=fun pins s σ H Q I h =>
 wpAny_Dict_empty ⟨.ref s.heap.objs.size,_,I.laid (a:=s.heap.objs.size) (o:=.dT []) (t':=s.toks) (fun _ _ q=>Heap.get?_push_of_some _ q) (Nat.le_refl _) (Rw s.heap I.big),rfl,h _ (I.hok.fresh (Nat.le_refl _))⟩
end
structure M2 (X:Cx) (o:Expr) (m:Str) (apos:Pos) (e f:Expr) (cpos:Pos):Prop where
 base:attributeBase o m X.env (eval o X.env)=eval o X.env
 few:((backTo cpos (starEach [e,f] X.env)).all (fun x=>!x.1) && (backToKw cpos (keywordEach [] X.env)).all (fun x=>x.1.isSome)
  && decide (([e,f]:List Expr).length+([]:List Keyword).length+(if ([]:List Keyword).isEmpty then 0 else 1) < 30))=true
 line:(apos.endLine == cpos.line)=true
 trees:backTo cpos (starEach [e,f] X.env)=[(false,eval e X.env),(false,eval f X.env)]
def IsD (H:Hp) (a:Addr):Prop:=(∃ kvs,Rd H a (.dK kvs))∨∃ kvs,Rd H a (.dT kvs)
theorem isD_at {X:Cx} {pins:List (Addr×Obj)} {σ:St} (I:Inv X pins σ H s) (d:IsD H a) :
  s.TypeIs (.ref a) "dict" /\ (∀ b,Value.ref a=.ref b->∃ ob,s.heap.get? b=some ob/\ob.dict=none)/\(a == sysModules)=false:=by
 rcases d with ⟨kvs,e⟩ | ⟨kvs,e⟩
 ·obtain ⟨_,hd,vs,_,dd⟩:=zK I.hok e
  refine ⟨dd.typeIs,fun b q=>?_,hd⟩
  cases q
  obtain ⟨ob,_,_,h1,h2,_⟩:=dd
  exact ⟨ob,h1,h2.2.1⟩
 ·obtain ⟨_,hd,xs,_,dd⟩:=zJ I.hok e
  refine ⟨dd.typeIs,fun b q=>?_,hd⟩
  cases q
  obtain ⟨ob,_,_,h1,h2,_⟩:=dd
  exact ⟨ob,h1,h2.2.1⟩
section
variable {X:Cx} {pins:List (Addr×Obj)} {σ:St} {H:Hp} {s:Shared} {a:Addr} {y d:V} {u r:Value} {o:Option V} {A:Around} {E:Value->Shared->Prop}
theorem d_get2 (hu:A.units+1 < cLine) (I:Inv X pins σ H s) (g:mH H a y o) (ry:aZ y u) (rd:aZ d r) (h:∀ w' s',Inv X pins σ H s'->aZ (o.getD d) w'->Q w' s') :
  wpAny (model X.prog X.w) A (call (.builtin "dict.get") [.ref a,u,r]) Q E s:=by
 rcases g with ⟨kvs,k,e,ey,l⟩ | ⟨kvs,k,b,e,ey,eb,l⟩
 ·subst ey
  obtain ⟨z,hd,vs,rel,dd⟩:=zK I.hok e
  refine call_meetsIn PySem.F.slot_dict_get dd.typeIs PySem.F.entry_dict_get (PySem.F.args_dict_get_3 _ _ _) (meets_dict_get_default (dB X.prog X.w) a (Dp ry) hd r) ⟨_,dd.mapOf,h _ _ (I.tok _) ?_⟩
  rw [l]
  exact (rel.val k).getD rd
 ·subst ey
  cases (show u=Value.ref b from ry)
  obtain ⟨z,hd,xs,rel,dd⟩:=zJ I.hok e
  refine call_meetsIn PySem.F.slot_dict_get dd.typeIs PySem.F.entry_dict_get (PySem.F.args_dict_get_3 _ _ _) (meetsH_dict_get_default (tupleKind (dB X.prog X.w)) a b hd r) ⟨tupleKind_room_in1 hu,k,xs,vT I.hok eb,dd,h _ _ (I.tok _) ?_⟩
  rw [l]
  exact (rel.val k).getD rd
end
def Gv (td ty tx:TE):TE:=fun σ H Q=>td σ H fun x H1=>∃ a,x=.ref a/\IsD H1 a/\ty σ H1 fun y H2=>tx σ H2 fun z H3=>∃ o,mH H3 a y o/\Q (o.getD z) H3
section
variable {X:Cx} {o e f:Expr} {apos cpos:Pos} {td ty tx:TE}
theorem Qw (hu:X.A.units+1 < cLine) (ho:PE X o td) (he:PE X e ty) (hf:PE X f tx) (m:M2 X o "get" apos e f cpos):PE X (.Call (.Attribute o "get" apos) [e,f] [] cpos) (Gv td ty tx):=by
 intro pins s σ H Q I h
 refine wpAny_Call_method m.base m.few m.line PySem.F.plainAttrs_dict PySem.F.slot_dict_get PySem.F.type_dict_get (thn (ho pins s σ H _ I h) fun u s1 ⟨x,H1,I1,rx,a,ex,d,q1⟩=>?_)
 subst ex
 obtain rfl:u=Value.ref a:=rx
 obtain ⟨t1,t2,_⟩:=isD_at I1 d
 refine ⟨t1,t2,?_⟩
 rw [m.trees]
 refine Calls.callWith_builtin rfl (Calls.evalArgs_plain (Calls.spliced_cons (thn (he pins s1 σ H1 _ I1 q1) fun iv s2 ⟨y,H2,I2,ry,q2⟩ =>
  Calls.spliced_cons (thn (hf pins s2 σ H2 _ I2 q2) fun fv s3 ⟨z,H3,I3,rz,ov,g,q3⟩=>Calls.spliced_nil ?_))))
 exact d_get2 hu I3 g ry rz fun w' s4 I4 rw'=>⟨_,H3,I4,rw',q3⟩
end
end L2
namespace L2
open PySem
variable {H:Hp} {K:PySem.W.Frag} {a p:Addr} {i j:Int} {m:Nat} {xs:List V} {σ:St}
def BB (n:Nat) (i:Int):Prop:=i.natAbs < 2 ^ n
def qG (i j:Int):Prop:=∃ m n,m+n<=100000000/\((BB m i/\BB n j)∨BB 64 i∨BB 64 j)
def CDivB (_ j:Int):Prop:=j≠0/\BB 9000 j
def gU:R2:=rI0 fun i j=>.int (i+j)
def qD:R2:=rI0 fun i j=>.int (i - j)
def dH:R2:=rI qG fun i j=>.int (i * j)
def eO:R2:=rI CDivB fun i j=>.int (i.fdiv j)
def Oi:R2:=rI CDiv fun i j=>.int (i / j)
def eJ:R2:=rI (fun _ j=>0 < j) fun i j=>.int (i % j)
def vO:R2:=rI CPow fun i j=>.int (i ^ j.toNat)
def vP:V->Hp->VK->Prop:=rU fun i=>.int (-i)
def rS:R2:=rI0 fun i j=>.bl (decide (i < j))
def rLeI:R2:=rI0 fun i j=>.bl (decide (i<=j))
def yQ:R2:=rI0 fun i j=>.bl (decide (j < i))
def So:R2:=rI0 fun i j=>.bl (decide (j<=i))
def Bc:List V->Hp->VK->Prop:=fun xs H Q=>∃ i,xs=[.int i]/\Q (.int (if i < 0 then -i else i)) H
def lZ (K:PySem.W.Frag):List V->Hp->VK->Prop:=fun xs H Q=>∃ p ys,xs=[.ref p]/\(SqL K H p ys∨SqT K H p ys)/\Q (.int ys.length) H
def isB (x:V) (H:Hp) (T:String) (b:Bool):Prop:=match x with
 | .int _=>(T="int" /\ b=true)∨(T="bool" /\ b=false)
 | .bl _=>T="bool" /\ b=true
 | .ref p=>T="tuple" /\ b=true/\∃ xs,H p=some (.tup xs)
 | _=>False
def Dg:List V->Hp->VK->Prop:=fun xs H Q=>∃ x T b,xs=[x,.ty T]/\isB x H T b/\Q (.bl b) H
theorem BB.mono {n:Nat} (h:BB m i) (hm:m<=n):BB n i:=Nat.lt_of_lt_of_le h (Nat.pow_le_pow_right (by decide) hm)
theorem qG.l (h:BB 64 i):qG i j:=⟨0,0,by decide,.inr (.inl h)⟩
theorem qG.r (h:BB 64 j):qG i j:=⟨0,0,by decide,.inr (.inr h)⟩
theorem aE.tup {H':Hp} (e:aE H H') (h:SqT K H a xs):SqT K H' a xs:=by
 rcases h with (h | ⟨o,h⟩) | h
 ·exact .inl (.inl (e _ _ h))
 ·exact .inl (.inr ⟨o,e _ _ h⟩)
 ·exact .inr h
theorem uU {i:Nat} {Q:VK} (h:aB i σ H Q):∃ v,σ[i]?=some (some v)/\Q v H:=by
 first
 | exact h
 | (unfold aB at h
    split at h
    ·exact ⟨_,‹_›,h⟩
    ·exact h.elim)
theorem uT {i:Nat} {Q:VK} {v:V} (e:σ[i]?=some (some v)) (q:Q v H):aB i σ H Q:=by
 first
 | exact ⟨v,e,q⟩
 | (unfold aB
    rw [e]
    exact q)
theorem aE.upd {o:HO} (h:H p=none):aE H (upd H p o):=fun b u e=>by
 rw [aN (bF e h)];exact e
theorem BB.of_le {n:Nat} (h:BB n j) (hl:i.natAbs<=j.natAbs):BB n i:=Nat.lt_of_le_of_lt hl h
theorem BB.mul {n:Nat} (hi:BB m i) (hj:BB n j):BB (m+n) (i * j):=by
 unfold BB at *
 rw [Int.natAbs_mul,Nat.pow_add]
 exact Nat.mul_lt_mul_of_lt_of_lt hi hj
theorem BB.add {n:Nat} (hi:BB n i) (hj:BB n j):BB (n+1) (i+j):=by
 unfold BB at *
 rw [Nat.pow_succ]
 omega
theorem BB.sub {n:Nat} (hi:BB n i) (hj:BB n j):BB (n+1) (i - j):=by
 unfold BB at *
 rw [Nat.pow_succ]
 omega
theorem BB.gcd {n:Nat} (hj:BB n j) (h0:j≠0):BB n (Int.gcd i j:Nat):=by
 refine hj.of_le ?_
 rw [Int.natAbs_natCast]
 exact Int.gcd_le_natAbs_right _ h0
theorem BB.neg {n:Nat} (h:BB n i):BB n (-i):=by unfold BB at *;rwa [Int.natAbs_neg]
theorem qG.b {n:Nat} (hi:BB m i) (hj:BB n j) (h:m+n<=100000000:=by decide):qG i j:=⟨m,n,h,.inl ⟨hi,hj⟩⟩
def bJ (σ:St) (caps:List Nat):St:=caps.map fun j=>(σ[j]?).join
def mM (J:It) (σ:St) (caps:List Nat) (te:TE) (H1:Hp) (fin:List V->Hp->Prop):Prop :=
 ∃ (n:Nat) (W:Nat->List V->Hp->Prop),n<=sizeLine/\W 0 [] H1/\∀ i ys H2,i<=n->ys.length=i->W i ys H2 ->
  (J.stop i H2/\fin ys H2)∨(i < n/\J.go i H2/\∀ x H3,J.yld i H2 x H3->te (some x :: bJ σ caps) H3 fun y H4=>W (i+1) (ys ++ [y]) H4)
def bP (wi:TI) (caps:List Nat) (te:TE):TE:=fun σ H Q=>wi σ H fun J H1=>mM J σ caps te H1 fun ys H2=>∀ p,H2 p=none->Q (.ref p) (upd H2 p (.lst ys))
def Ite (K:PySem.W.Frag) (a:Addr):It :=
 ⟨fun i H=>∃ xs x,SqL K H a xs/\xs[i]?=some x,fun i H v H'=>∃ p x,v=.ref p/\H p=none/\H'=upd H p (.tup [.int i,x])/\∀ xs,SqL K H a xs->xs[i]?=some x,fun i H=>∃ xs,SqL K H a xs/\xs.length<=i⟩
def qF (K:PySem.W.Frag) (tl:TE):TI:=fun σ H R=>tl σ H fun x H1=>∃ a,x=.ref a/\(∃ xs,SqL K H1 a xs)/\R (Ite K a) H1
theorem rC {g:TG} {tb:TS} {D:gQ} (Pv:Nat->St->Hp->Prop) (h0:Pv 0 σ H) (hl:∀ i σ H,i<=xs.length->Pv i σ H->SqL K H a xs)
  (hs:∀ i x p σ H,xs[i]?=some x->Pv i σ H->H p=none->g (.ref p) σ (upd H p (.tup [.int i,x])) fun σ2 H2=>tb { D with nx:=Pv (i+1),ct:=Pv (i+1),bk:=D.nx } σ2 H2) (hd:∀ σ H,Pv xs.length σ H->D.nx σ H) :
  ∃ W:Nat->Nat->St->Hp->Prop,(∃ m,W 0 m σ H)/\∀ i m σ H,W i m σ H ->
   ((Ite K a).stop i H/\D.nx σ H)∨((Ite K a).go i H/\∃ N:St->Hp->Prop,(∀ σ' H',N σ' H'->∃ m',m' < m/\W (i+1) m' σ' H')/\∀ x H',(Ite K a).yld i H x H'->g x σ H' fun σ2 H2=>tb { D with nx:=N,ct:=N,bk:=D.nx } σ2 H2):=by
 refine ⟨fun i m σ H=>m=xs.length - i/\i<=xs.length/\Pv i σ H,⟨xs.length,by simp,Nat.zero_le _,h0⟩,?_⟩
 rintro i m σ H ⟨rfl,hi,p⟩
 have q:=hl i σ H hi p
 by_cases hlt:i < xs.length
 ·refine .inr ⟨⟨xs,xs[i],q,by simp [hlt]⟩,Pv (i+1),fun σ' H' p'=>⟨xs.length - (i+1),by omega,rfl,hlt,p'⟩,fun x H' y=>?_⟩
  obtain ⟨pp,z,e1,e2,e3,y⟩:=y
  subst e1 e3
  exact hs i z pp σ _ (y xs q) p e2
 ·have e:i=xs.length:=by omega
  subst e
  exact .inl ⟨⟨xs,q,Nat.le_refl _⟩,hd σ H p⟩
theorem cT {caps:List Nat} {te:TE} {H1:Hp} {fin:List V->Hp->Prop} (W:Nat->List V->Hp->Prop) (hz:xs.length<=sizeLine) (h0:W 0 [] H1) (hl:∀ i ys H,i<=xs.length->W i ys H->SqL K H a xs)
  (hs:∀ i x ys H,xs[i]?=some x->ys.length=i->W i ys H->te (some x :: bJ σ caps) H fun y H4=>W (i+1) (ys ++ [y]) H4) (hd:∀ ys H,ys.length=xs.length->W xs.length ys H->fin ys H):mM (Itl K a) σ caps te H1 fin:=by
 refine ⟨xs.length,W,hz,h0,fun i ys H2 hi hy hw=>?_⟩
 have q:=hl i ys H2 hi hw
 by_cases hlt:i < xs.length
 ·refine .inr ⟨hlt,⟨xs,xs[i],q,by simp [hlt]⟩,fun x H3 y=>?_⟩
  obtain ⟨e,y⟩:=y
  subst e
  exact hs i x ys _ (y xs q) hy hw
 ·have e:i=xs.length:=by omega
  subst e
  exact .inl ⟨⟨xs,q,Nat.le_refl _⟩,hd ys H2 hy hw⟩
theorem gB {lo:Int} {n:Nat} {caps:List Nat} {te:TE} {H1:Hp} {fin:List V->Hp->Prop} (W:Nat->List V->Hp->Prop) (hz:n<=sizeLine) (h0:W 0 [] H1)
  (hs:∀ i ys H,i < n->ys.length=i->W i ys H->te (some (.int (lo+i)) :: bJ σ caps) H fun y H4=>W (i+1) (ys ++ [y]) H4) (hd:∀ ys H,ys.length=n->W n ys H->fin ys H):mM (Itr lo n) σ caps te H1 fin:=by
 refine ⟨n,W,hz,h0,fun i ys H2 hi hy hw=>?_⟩
 by_cases hlt:i < n
 ·refine .inr ⟨hlt,hlt,fun x H3 y=>?_⟩
  obtain ⟨e1,e2⟩:=y
  subst e1 e2
  exact hs i ys _ hlt hy hw
 ·have e:i=n:=by omega
  subst e
  exact .inl ⟨Nat.le_refl _,hd ys H2 hy hw⟩
def Sr (K:PySem.W.Frag):List V->Hp->VK->Prop:=fun xs H Q=>∃ p ns,xs=[.ref p]/\SqL K H p (List.map V.int ns)/\Q (.int ns.sum) H
def cMax:List V->Hp->VK->Prop:=fun xs H Q=>∃ i j,xs=[.int i,.int j]/\Q (.int (if j > i then j else i)) H
def Ss:List V->Hp->VK->Prop:=fun xs H Q=>∃ i j,xs=[.int i,.int j]/\Q (.int (if j < i then j else i)) H
def iP (K:PySem.W.Frag):List V->Hp->VK->Prop:=fun xs H Q=>∃ p ys,xs=[.ref p]/\(SqL K H p ys∨SqT K H p ys)/\∀ l,H l=none->Q (.ref l) (upd H l (.lst ys))
theorem aE.put {H':Hp} {o:HO} (s:aE H H') (h:H p=none):aE H (L2.upd H' p o):=fun b u e=>by
 rw [aN (bF e h)];exact s b u e
theorem SqT.off {r:Addr} {ys zs:List V} (h:SqT K H p xs) (hr:H r=some (.lst ys)):SqT K (upd H r (.lst zs)) p xs:=by
 rcases h with (h | ⟨o,h⟩) | h
 ·exact .inl (.inl (by rw [aN (eK h hr (by intro z;cases z))];exact h))
 ·exact .inl (.inr ⟨o,by rw [aN (eK h hr (by intro z;cases z))];exact h⟩)
 ·exact .inr h
end L2
namespace L2
open PySem PySem.Spec PyProof.Rows
variable {A:Around} {C a:Addr} {E:Value->Shared->Prop} {H:Hp} {K:PySem.W.Frag} {M:Model} {P:Program} {Q:Unit->Shared->Prop} {c:Value} {h:Heap} {i j:Int} {o:HO} {oe:Obj} {pins:List (Addr×Obj)} {pos tp:Pos} {s:Shared} {vs:Array Value} {x:Str} {σ:St}
theorem bt_int:bootBuiltins "int" = some (.type "int"):=by decide +kernel
theorem Va:bootBuiltins "bool" = some (.type "bool"):=by decide +kernel
theorem Sg:bootBuiltins "tuple" = some (.type "tuple"):=by decide +kernel
theorem fD:bootBuiltins "list" = some (.type "list"):=by decide +kernel
theorem Bo:bootBuiltins "abs" = some (.builtin "abs"):=by decide +kernel
theorem eZ:bootBuiltins "len" = some (.builtin "len"):=by decide +kernel
theorem bV:bootBuiltins "isinstance" = some (.builtin "isinstance"):=by decide +kernel
theorem bt_max:bootBuiltins "max" = some (.builtin "max"):=by decide +kernel
theorem Bm:bootBuiltins "min" = some (.builtin "min"):=by decide +kernel
theorem Hj:bootBuiltins "sum" = some (.builtin "sum"):=by decide +kernel
theorem iZ {n:Nat} {k:Int} (h:BB n k):Builtin.Int.intBits k<=n:=by
 unfold Builtin.Int.intBits
 split
 ·exact Nat.zero_le _
 ·rename_i h0
  have hp:k.natAbs≠0:=by simpa using h0
  have h2:=(Nat.log2_lt hp).mpr h
  omega
theorem qG.ok (h:qG i j):IntMulOk i j:=by
 obtain ⟨m,n,hz,⟨h1,h2⟩ | h1 | h1⟩:=h
 ·exact IntMulOk.of_le (iZ h1) (iZ h2) (by omega)
 ·exact .of_left (iZ h1)
 ·exact .of_right (iZ h1)
theorem noPyB (h:BB 9000 j):Builtin.divisionGoesByPylong i j=false:=by
 refine PyProof.noPylong_of_log2 ?_
 by_cases h0:j.natAbs=0
 ·rw [h0];decide +kernel
 ·exact (Nat.log2_lt h0).mpr h
section
variable {X:Cx}
theorem dA:OpR X (binaryOp .Mult) dH:=opI fun _ _ _ _ _ _ _ hc q=>mul_int q hc.ok
theorem eP:OpR X (binaryOp .FloorDiv) eO:=opI fun _ _ _ _ _ _ _ hc q=>floordiv_int hc.1 q (.inl (noPyB hc.2))
theorem kit_ii (K:PySem.W.Frag):PySem.W.kitOne K (.type "int") (.type "int")=some true:=by rfl
theorem kit_ib (K:PySem.W.Frag):PySem.W.kitOne K (.type "int") (.type "bool")=some false:=by rfl
theorem kit_bb (K:PySem.W.Frag):PySem.W.kitOne K (.type "bool") (.type "bool")=some true:=by rfl
theorem Pp (K:PySem.W.Frag):PySem.W.kitOne K (.type "tuple") (.type "tuple")=some true:=by rfl
theorem wU:fQ X (.builtin "isinstance") Dg:=by
 intro pins s σ H xs us Q I r h
 obtain ⟨x,T,b,rfl,hb,q⟩:=h
 obtain ⟨u,c,rfl,ru,rc⟩:=zE r
 obtain rfl:c=Value.type T:=rc
 have fin:∀ tk,EP X pins σ Q (.bool b) { s with toks:=tk }:=fun tk=>⟨.bl b,H,I.tok _,rfl,q⟩
 cases x with
 | int i =>
  rcases hb with ⟨rfl,rfl⟩ | ⟨rfl,rfl⟩
  ·exact kC I ru (.int i) (kit_ii _) fin
  ·exact kC I ru (.int i) (kit_ib _) fin
 | bl i =>
  obtain ⟨rfl,rfl⟩:=hb
  exact kC I ru (.bl i) (kit_bb _) fin
 | ref p =>
  obtain ⟨rfl,rfl,xs,hp⟩:=hb
  exact kC I ru (.tup hp) (Pp _) fin
 | _=>exact (show False from hb).elim
end
def fW (env:Env):List (Str×NameKind)->List (Str×Addr)->List (Str×Addr)
 | [],cs=>cs
 | (n,k) :: r,cs=>fW env r (if (k == NameKind.free)=true then (n,(env.cells.lookup n).getD 0) :: cs else cs)
theorem oU {scope:Scope} {env:Env} (h:∀ p∈scope.names,p.2=.free->∃ c,env.cells.lookup p.1=some c):closureFor scope env=pure (fW env scope.names []):=by
 have go:∀ (f:Str×NameKind->List (Str×Addr)->Sem (ForInStep (List (Str×Addr)))),(∀ n k cs,f (n,k) cs=if (k == NameKind.free)=true then (cellOf env n >>= fun a=>pure (ForInStep.yield ((n,a) :: cs))) else pure (ForInStep.yield cs)) ->
   ∀ (l:List (Str×NameKind)) (cs:List (Str×Addr)),(∀ p∈l,p.2=.free->∃ c,env.cells.lookup p.1=some c)->(forIn l cs f:Sem _)=pure (fW env l cs):=by
  intro f hf l
  induction l with
  | nil=>intro cs _;rfl
  | cons p r ih =>
   intro cs hl
   obtain ⟨n,k⟩:=p
   have hr:∀ p∈r,p.2=.free->∃ c,env.cells.lookup p.1=some c:=fun p hp=>hl p (List.mem_cons_of_mem _ hp)
   rw [List.forIn_cons,hf]
   by_cases hk:(k == NameKind.free)=true
   ·obtain ⟨c,hc⟩:=hl (n,k) List.mem_cons_self (by simpa using hk)
    have hc':env.cells.lookup n=some c:=hc
    have e:cellOf env n=pure c:=by unfold cellOf;rw [hc']
    rw [if_pos hk,e,pure_bind,pure_bind]
    dsimp only
    rw [ih _ hr]
    have e2:fW env ((n,k) :: r) cs=fW env r ((n,c) :: cs):=by
     show fW env r (if (k == NameKind.free)=true then (n,(env.cells.lookup n).getD 0) :: cs else cs)=_
     rw [if_pos hk,hc'];rfl
    rw [e2]
   ·rw [if_neg hk,pure_bind]
    dsimp only
    rw [ih _ hr]
    have e2:fW env ((n,k) :: r) cs=fW env r cs:=by
     show fW env r (if (k == NameKind.free)=true then (n,(env.cells.lookup n).getD 0) :: cs else cs)=_
     rw [if_neg hk]
    rw [e2]
 unfold closureFor
 show (forIn scope.names [] _ >>= fun s=>pure s)=_
 rw [go _ (fun n k cs=>by rfl) scope.names [] h,pure_bind]
theorem lL {env:Env}:∀ {l:List (Str×NameKind)} {cs:List (Str×Addr)},(∀ p∈l,p.2=.free->∃ c,env.cells.lookup p.1=some c)->(∀ p∈cs,env.cells.lookup p.1=some p.2)->∀ p∈fW env l cs,env.cells.lookup p.1=some p.2
 | [],_,_,h,p,hp=>h p hp
 | (n,k) :: r,cs,hl,h,p,hp=>by
  refine lL (l:=r) (fun q hq=>hl q (List.mem_cons_of_mem _ hq)) (fun q hq=>?_) p hp
  by_cases hk:(k == NameKind.free)=true
  ·rw [if_pos hk] at hq
   rcases List.mem_cons.mp hq with rfl | hq
   ·obtain ⟨c,hc⟩:=hl (n,k) List.mem_cons_self (by simpa using hk)
    have hc':env.cells.lookup n=some c:=hc
    show env.cells.lookup n=some ((env.cells.lookup n).getD 0)
    rw [hc'];rfl
   ·exact h q hq
  ·rw [if_neg hk] at hq
   exact h q hq
theorem uB {env:Env} {y:Str}:∀ {l:List (Str×NameKind)} {cs:List (Str×Addr)},y∈cs.map (·.1)->y∈(fW env l cs).map (·.1)
 | [],_,h=>h
 | (n,k) :: r,cs,h=>by
  refine uB (l:=r) ?_
  by_cases hk:(k == NameKind.free)=true
  ·rw [if_pos hk];exact List.mem_cons_of_mem _ h
  ·rw [if_neg hk];exact h
theorem pZ {env:Env} {y:Str}:∀ {l:List (Str×NameKind)} {cs:List (Str×Addr)},(y,NameKind.free)∈l->y∈(fW env l cs).map (·.1)
 | [],_,h=>nomatch h
 | (n,k) :: r,cs,h=>by
  rcases List.mem_cons.mp h with e | h
  ·cases e
   refine uB (l:=r) ?_
   rw [if_pos (by rfl)]
   exact List.mem_cons_self
  ·exact pZ (l:=r) h
theorem jS {α:Type} {y:Str}:∀ {l:List (Str×α)},y∈l.map (·.1)->∃ c,l.lookup y=some c
 | [],h=>nomatch h
 | (n,c) :: r,h=>by
  cases hx:y == n with
  | true=>exact ⟨c,by simp only [List.lookup_cons,hx]⟩
  | false =>
   have h':y∈r.map (·.1):=by
    rcases List.mem_cons.mp h with e | h
    ·have e':y=n:=e
     rw [e'] at hx;simp at hx
    ·exact h
   obtain ⟨c',e⟩:=jS h'
   exact ⟨c',by simp only [List.lookup_cons,hx];exact e⟩
theorem rO {env:Env} (hk:env.scope.kind=.function):∀ {names:List (Str×NameKind)} {y:Str},names.lookup y=some .free->env.kindOf y=some .cell ->
  (names.map fun (n,k)=>if (k == NameKind.free && env.scope.kind == .function && env.kindOf n == some .cell) then (n,NameKind.cell) else (n,k)).lookup y=some .cell
 | [],_,h,_=>by simp at h
 | (n,k) :: r,y,h,hc=>by
  have ih:=@rO env hk r y
  show List.lookup y ((if (k == NameKind.free && env.scope.kind == .function && env.kindOf n == some .cell)=true then (n,NameKind.cell) else (n,k)) :: _)=_
  cases hx:y == n with
  | true =>
   simp only [List.lookup_cons,hx] at h
   cases h
   have e:y=n:=by simpa using hx
   subst e
   have ht:(NameKind.free == NameKind.free && env.scope.kind == .function && env.kindOf y == some .cell)=true:=by rw [hk,hc];rfl
   rw [if_pos ht];simp only [List.lookup_cons,hx]
  | false =>
   simp only [List.lookup_cons,hx] at h
   by_cases hc':(k == NameKind.free && env.scope.kind == .function && env.kindOf n == some .cell)=true
   ·rw [if_pos hc'];simp only [List.lookup_cons,hx];exact ih h hc
   ·rw [if_neg hc'];simp only [List.lookup_cons,hx];exact ih h hc
theorem xG {env:Env}:∀ {names:List (Str×NameKind)} {y:Str},(∀ p∈names,p.2≠.cell) ->
  (∃ k,(names.map fun (n,k)=>if (k == NameKind.free && env.scope.kind == .function && env.kindOf n == some .cell) then (n,NameKind.cell) else (n,k)).lookup y=some k/\(k=.cell∨k=.free))->(y,NameKind.free)∈names
 | [],_,_,⟨_,h,_⟩=>by simp at h
 | (n,k) :: r,y,hn,⟨kk,h,hkk⟩=>by
  have h:List.lookup y ((if (k == NameKind.free && env.scope.kind == .function && env.kindOf n == some .cell)=true then (n,NameKind.cell) else (n,k)) :: r.map fun (n,k)=>if (k == NameKind.free && env.scope.kind == .function && env.kindOf n == some .cell) then (n,NameKind.cell) else (n,k))=some kk:=h
  have ih:=@xG env r y fun p hp=>hn p (List.mem_cons_of_mem _ hp)
  cases hx:y == n with
  | true =>
   have e:y=n:=by simpa using hx
   subst e
   by_cases hc':(k == NameKind.free && env.scope.kind == .function && env.kindOf y == some .cell)=true
   ·have hf:k=.free:=by
     rw [Bool.and_eq_true,Bool.and_eq_true] at hc'
     simpa using hc'.1.1
    rw [hf];exact List.mem_cons_self
   ·rw [if_neg hc'] at h
    simp only [List.lookup_cons,hx] at h
    have e2:k=kk:=Option.some.inj h
    subst e2
    rcases hkk with z | z
    ·exact absurd z (hn (y,k) List.mem_cons_self)
    ·rw [z];exact List.mem_cons_self
  | false =>
   have h2:(r.map fun (n,k)=>if (k == NameKind.free && env.scope.kind == .function && env.kindOf n == some .cell) then (n,NameKind.cell) else (n,k)).lookup y=some kk:=by
    by_cases hc':(k == NameKind.free && env.scope.kind == .function && env.kindOf n == some .cell)=true
    ·rw [if_pos hc'] at h;simp only [List.lookup_cons,hx] at h;exact h
    ·rw [if_neg hc'] at h;simp only [List.lookup_cons,hx] at h;exact h
   exact List.mem_cons_of_mem _ (ih ⟨kk,h2,hkk⟩)
structure jF (FS scope:Scope) (N:List Str) (x:Str) (ys:List Str) (caps:List Nat):Prop where
 ncell:∀ y∈scope.names,y.2≠.cell
 kind:scope.kind=.function
 names:∀ y∈scope.names,y.2=.local->scope.names.lookup y.1=some .local
 loc:scope.names.lookup x=some .local
 fr:∀ p∈scope.names,p.2=.free->FS.names.lookup p.1=some .cell
 fk:FS.kind=.function
 cap:∀ p∈ys.zip caps,N[p.2]?=some p.1/\scope.names.lookup p.1=some .free
 len:ys.length=caps.length
 nd:(x :: ys).Nodup
abbrev lW (X:Cx) (scope:Scope):List (Str×Addr):=fW X.env scope.names []
def bU (X:Cx) (scope:Scope) (NY:List Str) (s:Shared) (H:Hp) (ex:List Addr) (pn:List (Addr×Obj)):Cx :=
 { X with N:=NY,s₀:=s,H₀:=H,env:=compEnvC scope (lW X scope) s.heap.objs.size X.env,outer:=X.stack,stack:=X.stack,ex:=ex,fn:=fun _=>false,pn:=pn,xe:=fun _ _=>False }
section
variable {X:Cx} {pins:List (Addr×Obj)} {σ:St} {H:Hp} {s:Shared}
theorem Inv.adopt {D:Addr} (I:Inv X pins σ H s) (hn:H D=none) (hs:X.s₀.heap.objs.size<=D) (hL:D≠X.env.locals) (hc:∀ x c,X.env.cells.lookup x=some c->c≠D) (hp:∀ p∈X.pn ++ pins,p.1≠D)
  (new:bZ X.prog X.w (upd H D o) s.heap D o):Inv X pins σ (upd H D o) s:=by
 have u:Un X.fs X.ex H (upd H D o) s.heap s.heap->True:=fun _=>trivial
 refine ⟨I.ok,I.os,I.bare,⟨I.base.keep,I.base.slot,fun b ob e n hx=>?_,I.base.there,fun b xs e=>?_,fun b ob xs e=>?_,fun b ps e=>?_⟩,I.loc,I.cell,?_,fun x c e=>?_,fun p h=>?_,fun b ob e=>?_,I.len⟩
 ·rw [aN (Nat.ne_of_lt (Nat.lt_of_lt_of_le (Heap.lt_size e) hs))];exact I.base.free b ob e n hx
 ·have q:=I.base.tups b xs e
  rw [aN (bF q hn)];exact q
 ·have q:=I.base.frzs b ob xs e
  rw [aN (bF q hn)];exact q
 ·obtain ⟨more,q⟩:=I.base.tbls b ps e
  exact ⟨more,by rw [aN (bF q hn)];exact q⟩
 ·rw [aN (Ne.symm hL)];exact I.free
 ·rw [aN (hc x c e)];exact I.freeC x c e
 ·obtain ⟨a1,a2,a3⟩:=I.pin p h
  exact ⟨a1,by rw [aN (hp p h)];exact a2,a3⟩
 ·by_cases hb:b=D
  ·subst hb;rw [aD] at e;cases e;exact new
  ·rw [aN hb] at e
   exact (I.hok b ob e).stay (fun c v _ q=>q) (fun c q=>by rw [aN (bF q hn)];exact q) fun c xs q=>by rw [aN (bF q hn)];exact q
end
section
variable {X:Cx} {scope:Scope} {x:Str} {ys:List Str} {caps:List Nat} {elt iter:Expr} {te:TE} {px pos:Pos}
theorem nxE {α:Type} {t:Sem α} {Q Q':α->Shared->Prop} {F:Value->Shared->Prop} (hF:F=fun _ _=>False) (h:wpAny M A t Q F s) (hQ:∀ a s,Q a s->Q' a s):wpAny M A t Q' E s :=
 wpAny_mono h hQ fun e s' z=>by
  rw [hF] at z
  exact z.elim
abbrev rV (its:List Value) (n:Nat):Obj:={ cls:=.type "list",data:=.seq its.toArray n }
end
theorem Db:bootBuiltins "enumerate" = some (.type "enumerate"):=by decide +kernel
section
variable {X:Cx} {pins:List (Addr×Obj)} {σ:St} {H:Hp} {s:Shared} {h':Heap}
theorem Inv.turnedL {t':Nat} {ch:List Addr} (I:Inv X pins σ H s) (k:∀ b o,b∉ch->s.heap.get? b=some o->h'.get? b=some o) (hf:∀ b∈ch,Be X pins H b):Inv X pins σ H { s with heap:=h',toks:=t' }:=by
 have nit:∀ b u,H b=some u->b∉ch:=fun b u e z=>by rw [(hf b z).1] at e;cases e
 refine I.step (g':=s.gens) (d':=s.drawn) (ch:=ch) (fun b hb=>?_) (fun b o _ _ hc e _=>k b o hc e) (fun b o _ _ hc e _=>⟨o.slots,k b o hc e⟩) (fun _ _ _ _ n=>n)
  (fun b o hc e=>⟨o,k b o hc e⟩) (fun _ _ e=>e) (fun _ _ _ e=>e) (fun b ps e=>⟨#[],by rw [e];simp⟩) (fun m hm=>?_) (fun b u e=>?_) I.bare
 ·obtain ⟨a1,a2,a3,a4,a5,a6⟩:=hf b hb
  exact ⟨a4,a2,a5,a6⟩
 ·obtain ⟨o,es,ep,ho,r⟩:=hm
  exact ⟨o,es,ep,k _ o (fun z=>(hf _ z).2.1 rfl) ho,r⟩
 ·refine (I.hok b u e).stay (fun c v hc q=>k c v ?_ q) (fun _ q=>q) fun _ _ q=>q
  rcases hc with z | z
  ·rw [z];exact nit b u e
  ·exact nit c _ z
end
theorem Lj {w:World} {elts:List Expr} {k:Nat} (a e it:Addr) (hne:e≠it) :
  Le P w K (.Tuple elts k tp) (Ite K a) [e,it] e (fun i h=>(∃ old,IsEnum h e it i old)/\h.IsListIter it a i) where
 mem:=by simp
 obj:=fun i h st b hb=>by
  obtain ⟨⟨old,he⟩,hit⟩:=st
  have z:b=e∨b=it:=by simpa using hb
  rcases z with rfl | rfl
  ·exact ⟨_,he,fun v z=>by
    have z':Data.fields _=Data.cell v:=z
    cases z'⟩
  ·obtain ⟨o,e,c,d⟩:=hit
   exact ⟨o,e,fun v z=>by rw [d] at z;cases z⟩
 keep:=fun i h h' st k=>by
  obtain ⟨⟨old,he⟩,hit⟩:=st
  exact ⟨⟨old,k e (by simp) _ he⟩,hit.at fun o q=>k it (by simp) o q⟩
 item:=by
  intro X hP hw hK hc i pins s σ H E I hf st hg
  subst hP hw hK
  obtain ⟨xs,x,hq,hx⟩:=hg
  obtain ⟨its,rv,p,hz⟩:=I.list hq
  obtain ⟨u,hu,ru⟩:=rv.get hx
  obtain ⟨⟨old,he⟩,hit⟩:=st
  refine wpAny_pyNext_enum_item he hit p.isList (x:=u) (by simpa using hu) hne fun h1 out hit1 tup sz kp=>⟨_,rfl,?_⟩
  refine wpAny_letOwnedTupleGo_enum (s:={ s with heap:=h1,toks:=s.toks+1 }) out fun h2 en sb=>?_
  have hel:e < s.heap.objs.size:=Heap.lt_size he
  have hTe:s.heap.objs.size≠e:=Nat.ne_of_gt hel
  have sb':Heap.SameBut e h1 h2:=sb
  have I1:Inv X pins σ H { s with heap:=h2,toks:=s.toks+1 }:=I.turnedL (ch:=[e,it]) (fun b o hb q=>by
   have hb':b≠e/\b≠it:=by simpa using hb
   exact (sb'.2 b hb'.1).trans (kp b o hb'.1 hb'.2 q)) hf
  have hTn:H s.heap.objs.size=none:=I.hok.fresh (Nat.le_refl _)
  have tup2:h2.get? s.heap.objs.size=some { cls:=.type "tuple",data:=.seq #[.int i s.toks,u] }:=(sb'.2 _ hTe).trans tup
  have I2:Inv X pins σ (upd H s.heap.objs.size (.tup [.int i,x])) { s with heap:=h2,toks:=s.toks+1 }:=I1.adopt hTn I.sz (Nat.ne_of_gt I.lt) (fun y c q=>by
   obtain ⟨v,z⟩:=I.cell y c q
   exact Nat.ne_of_lt z.lt) (fun q hq=>Nat.ne_of_lt (Heap.lt_size (I.pin q hq).1)) ⟨by show 2<=sizeLine;decide,[.int i s.toks,u],.cons ⟨_,rfl⟩ (.cons ru .nil),⟨_,tup2,rfl,_,rfl⟩⟩
  refine ⟨.ref s.heap.objs.size,_,I2,rfl,⟨_,x,rfl,hTn,rfl,fun ys hy=>by rw [I.list_inj hy hq];exact hx⟩,⟨⟨_,by have:=en;exact_mod_cast this⟩,?_⟩,fun b hb=>?_⟩
  ·obtain ⟨o,q,r⟩:=hit1
   exact ⟨o,(sb'.2 it (Ne.symm hne)).trans q,r⟩
  ·have hb0:=(hf b hb).1
   have z:b=e∨b=it:=by simpa using hb
   have hlt:b < s.heap.objs.size:=by
    rcases z with rfl | rfl
    ·exact hel
    ·obtain ⟨o,q,_⟩:=hit
     exact Heap.lt_size q
   rw [aN (Nat.ne_of_lt hlt)]
   exact hb0
 done:=by
  intro X hP hw hK hc i pins s σ H E I hf st hg
  subst hP hw hK
  obtain ⟨xs,hq,hx⟩:=hg
  obtain ⟨its,rv,p,hz⟩:=I.list hq
  obtain ⟨⟨old,he⟩,hit⟩:=st
  obtain ⟨f0,f1,f2,f3,f4,f5⟩:=hf it (by simp)
  have hl:=rv.length
  exact wpAny_pyNext_enum_end (I.ok.hd hc) he hit p.isList (by simp;omega) fun h' eb=>⟨rfl,I.turned (t':=s.toks) (fun b o hb e=>eb b o hb e) f0 f1 f3 f4 f5⟩
 self:=fun _ _ _ _ _ st h=>by
  obtain ⟨⟨old,he⟩,hit⟩:=st
  exact wpAny_pyIter_enum he h
section
variable {X:Cx}
theorem uZ {elts:List Expr} {k:Nat} {a:Expr} {tl:TE} {p:Pos} (hg:Gl X "enumerate") (hm:X.mg "enumerate" = none) (hl:PE X a tl) (hs:starEach [a] X.env=[(false,eval a X.env)]:=by rfl):PI X (.Tuple elts k tp) (.Call (.Name "enumerate" p) [a] [] pos) (qF X.K tl):=by
 intro pins s σ H R I h
 have hA:PA X [a] (aC tl aM):=aA hl aF (by rw [hs];rfl)
 refine Call_ (jE I hg hm Db (PyProof.Rows.callWith_type1 (thn (hA pos pins s σ H (fun vs H1=>∃ x,vs=[x]/\∃ a,x=.ref a/\(∃ xs,SqL X.K H1 a xs)/\R (Ite X.K a) H1) I ?_) fun us s1 ⟨vs,H1,I1,r1,q1⟩=>?_) hs rfl))
 ·show tl σ H fun x H1=>∃ y,[x]=[y]/\_
  have e:(fun (x:V) (H1:Hp)=>∃ y,[x]=[y]/\∃ a,y=V.ref a/\(∃ xs,SqL X.K H1 a xs)/\R (Ite X.K a) H1)=fun x H1=>∃ a,x=V.ref a/\(∃ xs,SqL X.K H1 a xs)/\R (Ite X.K a) H1:=by
   funext x H1
   exact propext ⟨fun ⟨y,e,r⟩=>by cases e;exact r,fun r=>⟨x,rfl,r⟩⟩
  have h':tl σ H fun x H1=>∃ a,x=V.ref a/\(∃ xs,SqL X.K H1 a xs)/\R (Ite X.K a) H1:=h
  rw [← e] at h'
  exact h'
 ·obtain ⟨x,e1,b,e2,⟨xs,hq⟩,q⟩:=q1
  subst e1 e2
  obtain ⟨u,rfl,ru⟩:=sX r1
  cases ru
  obtain ⟨its,rv,pl,hz⟩:=I1.list hq
  refine call_enumerate_list pl.isList fun h1 he hit hsz hk=>?_
  refine wpAny_pyIter_enum he ?_
  have I2:Inv X pins σ H1 { s1 with heap:=h1 }:=I1.kept (t':=s1.toks) hk
  refine ⟨s1.heap.objs.size+1,[s1.heap.objs.size+1,s1.heap.objs.size],_,Ite X.K b,H1,rfl,I2,Lj b _ _ (Nat.succ_ne_self _),⟨⟨_,he⟩,hit⟩,fun c hc=>?_,q⟩
  have z:c=s1.heap.objs.size+1∨c=s1.heap.objs.size:=by simpa using hc
  have hle:s1.heap.objs.size<=c:=by rcases z with rfl | rfl <;> omega
  exact I1.fpOk hle (I1.hok.fresh hle)
theorem tU (ns:List Int):∀ n,n<=ns.length->preSum (fun i=>ns.getD i 0) n=(ns.take n).sum
 | 0,_=>by simp [preSum]
 | n+1,h=>by
  show preSum _ n+ns.getD n 0=_
  have hn:n < ns.length:=by omega
  rw [tU ns n (by omega),List.take_succ,List.sum_append,List.getD_eq_getElem?_getD,List.getElem?_eq_getElem hn]
  simp
theorem sW (hc:X.calm=true):fQ X (.builtin "sum") (Sr X.K):=by
 intro pins s σ H xs us Q I r h
 obtain ⟨p,ns,rfl,hq,q⟩:=h
 obtain ⟨u,rfl,ru⟩:=sX r
 cases ru
 obtain ⟨its,rv,pl,hz⟩:=I.list hq
 have hl:=rv.length
 rw [List.length_map] at hl
 have hpl:p < s.heap.objs.size:=by obtain ⟨o,e,_⟩:=pl.isList;exact Heap.lt_size e
 refine call_sum_walkG (wpAny_pyIter_list pl.isList ⟨s.heap.objs.size,_,_,_,_,_,fun i=>ns.getD i 0,rfl,Walks.list (A:=X.A.in1) (I.ok.hd hc) s.heap.objs.size p (Nat.ne_of_lt hpl) its.toArray,⟨⟨_,Heap.get?_push_size _ rfl,rfl,rfl⟩,pl.isList.push _⟩,fun b hb=>?_,fun i v hv=>?_,fun h' tk t' hk=>?_⟩)
 ·show b < (s.heap.push _).objs.size
  rw [Heap.size_push]
  have z:b=s.heap.objs.size∨b=p:=by simpa using hb
  rcases z with rfl | rfl
  ·exact Nat.lt_succ_self _
  ·exact Nat.lt_succ_of_lt hpl
 ·have hv':its[i]?=some v:=by simpa using hv
  obtain ⟨x,ex,rx⟩:∃ x,(List.map V.int ns)[i]?=some x/\aZ x v:=by
   have hi:i < its.length:=(List.getElem?_eq_some_iff.mp hv').1
   have hi2:i < (List.map V.int ns).length:=by rw [List.length_map];omega
   obtain ⟨u,eu,ru⟩:=rv.get (i:=i) (x:=(List.map V.int ns)[i]) (List.getElem?_eq_getElem hi2)
   rw [hv'] at eu;cases eu
   exact ⟨_,List.getElem?_eq_getElem hi2,ru⟩
  rw [List.getElem?_map] at ex
  cases e:ns[i]? with
  | none=>rw [e] at ex;cases ex
  | some z =>
   rw [e] at ex
   have:V.int z=x:=Option.some.inj ex
   subst this
   obtain ⟨t,rfl⟩:=rx
   exact ⟨t,by show Value.int z t=Value.int (ns.getD i 0) t;rw [List.getD_eq_getElem?_getD,e];rfl⟩
 ·have e:preSum (fun i=>ns.getD i 0) its.toArray.size=ns.sum:=by
   rw [List.size_toArray,← hl,tU ns _ (Nat.le_refl _),List.take_length]
  rw [e]
  refine ⟨.int ns.sum,H,I.kept fun b o q=>?_,⟨_,rfl⟩,q⟩
  exact hk b o (by
   intro z
   have z':b=s.heap.objs.size:=by simpa using z
   exact absurd (Heap.lt_size q) (by rw [z'];exact Nat.lt_irrefl _)) (Heap.get?_push_of_some _ q)
theorem Nh {u v:Value} (r1:aZ (.int i) u) (r2:aZ (.int j) v):SeqAt.EqAt A s u v (i == j):=by
 obtain ⟨t,rfl⟩:=r1
 obtain ⟨t',rfl⟩:=r2
 exact fun prog w E Q hq=>wpAny_eqBool_int hq
theorem Gd:∀ (ns ms:List Int),((List.range (min ns.length ms.length)).all (fun j=>ns.getD j 0 == ms.getD j 0) && ns.length == ms.length)=decide (ns=ms):=by
 intro ns ms
 rw [Bool.eq_iff_iff,decide_eq_true_eq,Bool.and_eq_true,List.all_eq_true,beq_iff_eq]
 constructor
 ·rintro ⟨h1,h2⟩
  refine List.ext_getElem h2 fun i hi hj=>?_
  have:=h1 i (List.mem_range.mpr (by omega))
  rw [List.getD_eq_getElem?_getD,List.getD_eq_getElem?_getD,List.getElem?_eq_getElem hi,List.getElem?_eq_getElem hj] at this
  simpa using this
 ·rintro rfl
  exact ⟨fun j _=>by simp,rfl⟩
end
def TrP (PO:Obj->Prop) (h base:Heap) (e:Addr) (c a0 fl:Value):Prop :=
 ∃ oe vs T oT ts,h.get? e=some oe/\PO oe/\oe.cls=c/\vs[0]?=some a0/\oe.data=.fields vs/\vs[1]?=some (.ref T)/\base.get? T=none/\T≠e/\h.get? T=some oT/\oT.data=.fields ts/\ts[3]?=some fl
def Stb (PO:Obj->Prop):Prop:=∀ o f,PO o->PO (Obj.mapFields f o)
def Og (head:Value) (L:Addr) (pl:List Value):Obj:={ cls:=.type "traceback",dict:=none,data:=.fields ([head,.ref L,.none,rawInt L,.none] ++ (if pl.isEmpty then List.replicate 6 Value.none else pl)).toArray }
section
variable {M:Model} {A:Around} {E:Value->Shared->Prop} {s:Shared} {PO:Obj->Prop} {base:Heap} {env:Env} {outer:List Env} {L e:Addr} {a0:Value}
theorem pL {b x:Addr} {o ox:Obj} (hx:h.get? x=some ox) (hd:ox.data=.fields vs) (hb:h.get? b=some o) (hn:∀ vs,o.data≠.fields vs):b≠x:=fun z=>by
 subst z
 rw [hx] at hb
 exact hn vs (by rw [← Option.some.inj hb];exact hd)
theorem Pt (hP:Stb PO) {head:Value} {hadNext:Bool} (fr:A.frames=some (env :: outer)) (fl:s.heap.FunFrames base (env :: outer)) (ef:env.frame=some L) (ge:s.heap.get? e=some oe) (po:PO oe)
  (kb:base.StaysIn s.heap) (ne:base.get? e=none) (dd:oe.data=.fields vs) (sz:1 < vs.size) (v0:vs[0]?=some a0)
  (k:∀ h',base.StaysIn h'->h'.FunFrames base (env :: outer)->TrP PO h' base e oe.cls a0 (rawInt L)->s.heap.UpToSlots h'->Q () { s with heap:=h' }) :
  wpAny M A (frameOf env >>= fun a=>entryPlaceOf L hadNext >>= fun pl=>EntryCells.newEntry head a .none (rawInt L) .none pl >>= fun b=>setField (.ref e) 1 b) Q E s:=by
 have off:e∉(env :: outer).filterMap (·.frame):=fun hm=>by
  obtain ⟨_,o,ho,hn⟩:=fl.mem hm
  exact pL ge dd ho hn rfl
 refine wpAny_bind (wpAny_frameOf_fun fr fl ef fun h1 q1=>wpAny_bind (wpAny_entryPlaceOf fun pl hpl=>?_))
 unfold EntryCells.newEntry newFields
 refine wpAny_bind (wpAny_newObj_type ?_ (hpl.sizeOk5 _ _ _ _ _))
 have e1:h1.get? e=some oe:=(q1.2.1 e off).trans ge
 have b1:base.StaysIn h1:=fun b o hb=>(q1.2.1 b fun hm=>by rw [(fl.mem hm).1] at hb;cases hb).trans (kb b o hb)
 have e2:=Heap.get?_push_of_some (h:=h1) (Og head L pl) e1
 have Te:h1.objs.size≠e:=Nat.ne_of_gt (Heap.lt_size e1)
 have d3:=Obj.data_mapFields dd (·.setIfInBounds 1 (Value.ref h1.objs.size))
 have e3:=Heap.get?_update_self (Obj.mapFields (·.setIfInBounds 1 (Value.ref h1.objs.size))) e2 (Obj.isFreed_of_fields d3)
 have T3:=(Heap.get?_update_other (h1.push (Og head L pl)) (Obj.mapFields (·.setIfInBounds 1 (Value.ref h1.objs.size))) (Ne.symm Te)).trans (Heap.get?_push_size h1 rfl)
 have keep:∀ b o,b≠e->h1.get? b=some o->((h1.push (Og head L pl)).update e (Obj.mapFields (·.setIfInBounds 1 (Value.ref h1.objs.size)))).get? b=some o:=fun b o hb q=>by
  rw [Heap.get?_update_other _ _ (Ne.symm hb)];exact Heap.get?_push_of_some _ q
 refine wpAny_setField e2 dd sz (k _ (fun b o hb=>keep b o (fun z=>by rw [z,ne] at hb;cases hb) (b1 b o hb)) (fl.of_keeps fun b o hb hn=>?_) ?_ fun b o hb hn=>?_)
 ·obtain ⟨sl,hs⟩:=q1.2.2 b o hb
  exact ⟨_,keep b _ (pL ge dd hb hn) hs,rfl⟩
 ·refine ⟨_,_,h1.objs.size,_,_,e3,hP _ _ po,Obj.cls_mapFields _ _,by rw [Array.getElem?_setIfInBounds_ne (by decide)];exact v0,d3,by simp [sz],b1.fresh,Te,T3,rfl,?_⟩
  first
   | (simp;done)
   | (rcases hpl with rfl | ⟨_,_,_,_,_,_,_,rfl⟩ <;> simp)
 ·obtain ⟨sl,hs⟩:=q1.2.2 b o hb
  exact ⟨sl,keep b _ (pL ge dd hb hn) hs⟩
theorem Ij (hP:Stb PO) (fr:A.frames=some (env :: outer)) (fl:s.heap.FunFrames base (env :: outer)) (ef:env.frame=some L) (ge:s.heap.get? e=some oe) (po:PO oe)
  (kb:base.StaysIn s.heap) (ne:base.get? e=none) (dd:oe.data=.fields vs) (v1:vs[1]?=some .none) (v0:vs[0]?=some a0)
  (k:∀ h',base.StaysIn h'->h'.FunFrames base (env :: outer)->TrP PO h' base e oe.cls a0 (rawInt L)->s.heap.UpToSlots h'->Q () { s with heap:=h' }):wpAny M A (noteFrame (.ref e) env) Q E s:=by
 unfold noteFrame
 simp only [ef]
 refine wpAny_bind (wpAny_field ge dd v1 ?_)
 rw [if_neg (by decide)]
 exact Pt hP fr fl ef ge po kb ne dd (Array.getElem?_eq_some_iff.mp v1).1 v0 k
theorem zW (hP:Stb PO) (fr:A.frames=some (env :: outer)) (fl:s.heap.FunFrames base (env :: outer)) (ef:env.frame=some L) (tr:TrP PO s.heap base e c a0 .none) (kb:base.StaysIn s.heap) (ne:base.get? e=none)
  (k:∀ h',base.StaysIn h'->h'.FunFrames base (env :: outer)->TrP PO h' base e c a0 (rawInt L)->s.heap.UpToSlots h'->Q () { s with heap:=h' }):wpAny M A (noteFrame (.ref e) env) Q E s:=by
 obtain ⟨oe,vs,T,oT,ts,ge,po,rfl,v0,dd,v1,nT,Te,gT,dT,t3⟩:=tr
 unfold noteFrame
 simp only [ef]
 refine wpAny_bind (wpAny_field ge dd v1 ?_)
 rw [if_pos (by simp)]
 refine wpAny_bind (wpAny_field gT dT t3 ?_)
 rw [if_neg (by simp [rawInt])]
 refine wpAny_bind (wpAny_setField gT dT (Array.getElem?_eq_some_iff.mp t3).1 ?_)
 have ot:∀ b,b≠T->(s.heap.update T (Obj.mapFields (·.setIfInBounds 3 Value.none))).get? b=s.heap.get? b:=fun b hb=>Heap.get?_update_other _ _ (Ne.symm hb)
 exact Pt (s:={ s with heap:=s.heap.update T (Obj.mapFields (·.setIfInBounds 3 Value.none)) }) hP fr (fl.of_keeps fun b o hb hn=>⟨o,(ot b (pL gT dT hb hn)).trans hb,rfl⟩) ef ((ot e (Ne.symm Te)).trans ge) po
  (fun b o hb=>(ot b fun z=>by rw [z,nT] at hb;cases hb).trans (kb b o hb)) ne dd (Array.getElem?_eq_some_iff.mp v1).1 v0
  fun h' x1 x2 x3 x4=>k h' x1 x2 x3 fun b o hb hn=>x4 b o ((ot b (pL gT dT hb hn)).trans hb) hn
theorem vD {fl:Value} {l:List Env} (kb:base.StaysIn s.heap) (ff:s.heap.FunFrames base l) (tr:TrP PO s.heap base e c a0 fl)
  (k:∀ h',base.StaysIn h'->h'.FunFrames base l->TrP PO h' base e c a0 .none->s.heap.UpToSlots h'->Q () { s with heap:=h' }):wpAny M A (setFlight (.ref e) none) Q E s:=by
 obtain ⟨oe,vs,T,oT,ts,ge,po,ec,v0,dd,v1,nT,Te,gT,dT,t3⟩:=tr
 have s3:3 < ts.size:=(Array.getElem?_eq_some_iff.mp t3).1
 have ot:∀ b,b≠T->(s.heap.update T (Obj.mapFields (·.setIfInBounds 3 ((none:Option Addr).elim Value.none fun f=>rawInt f)))).get? b=s.heap.get? b:=fun b hb=>Heap.get?_update_other _ _ (Ne.symm hb)
 unfold setFlight
 refine wpAny_bind (wpAny_field ge dd v1 ?_)
 rw [if_pos (by simp)]
 refine wpAny_setField gT dT s3 (k _ (fun b o hb=>(ot b fun z=>by rw [z,nT] at hb;cases hb).trans (kb b o hb)) (ff.of_keeps fun b o hb hn=>⟨o,(ot b (pL gT dT hb hn)).trans hb,rfl⟩) ?_ fun b o hb hn=>⟨o.slots,(ot b (pL gT dT hb hn)).trans hb⟩)
 exact ⟨oe,vs,T,_,_,(ot e (Ne.symm Te)).trans ge,po,ec,v0,dd,v1,nT,Te,Heap.get?_update_self _ gT (Obj.isFreed_of_fields (Obj.data_mapFields dT _)),Obj.data_mapFields dT _,by simp [s3]⟩
end
theorem bZ.got {w:World} (x:bZ P w H h a o):∃ ob,h.get? a=some ob:=by
 cases o with
 | lst xs=>obtain ⟨_,_,_,_,e⟩:=x;exact ⟨_,e⟩
 | tup xs=>obtain ⟨_,_,_,ob,e,_⟩:=x;exact ⟨ob,e⟩
 | dK kvs=>obtain ⟨_,_,_,_,ob,_,_,e,_⟩:=x;exact ⟨ob,e⟩
 | dT kvs=>obtain ⟨_,_,_,_,ob,_,_,e,_⟩:=x;exact ⟨ob,e⟩
 | set S n=>obtain ⟨ob,_,_,_,e,_⟩:=x;exact ⟨ob,e⟩
 | ins C dx fs=>obtain ⟨_,_,_,e,_⟩:=x;exact ⟨_,e⟩
 | own y=>obtain ⟨ob,e⟩:=x;exact ⟨ob,e⟩
 | xd fs=>obtain ⟨_,⟨ob,_,_,e,_⟩,_⟩:=x;exact ⟨ob,e⟩
 | rng lo hi=>obtain ⟨_,_,_,e⟩:=x;exact ⟨_,e⟩
 | frz ob u=>obtain ⟨e,_⟩:=x;exact ⟨ob,e⟩
 | tbl ps=>exact ⟨_,show h.get? a=some _ from x⟩
 | met f y=>exact ⟨_,show h.get? a=some _ from x⟩
 | ext φ=>obtain ⟨_,⟨ob,e⟩,_⟩:=x;exact ⟨ob,e⟩
theorem HOk.byB {w:World} {h' B:Heap} (x:HOk P w H h) (c:∀ b o,H b=some o->∃ ob,h.get? b=some ob/\B.get? b=some ob) (st:B.StaysIn h'):HOk P w H h':=fun a o e =>
 (x a o e).stay (fun b u hb q=>by
  have key:∀ o',H b=some o'->h'.get? b=some u:=fun o' eo=>by
   obtain ⟨ob,e1,e2⟩:=c b o' eo
   rw [q] at e1
   rw [Option.some.inj e1]
   exact st b ob e2
  rcases hb with z | z
  ·exact key o (z ▸ e)
  ·exact key _ z) (fun _ q=>q) fun _ _ q=>q
theorem Un.byB {fs:List Addr} {H':Hp} {h1 h2 B:Heap} (U:Un fs [] H H' h h1) (c2:∀ b ob,h.get? b=some ob->H b=none->b∉fs->B.get? b=some ob) (c3:∀ b ob,h.get? b=some ob->b∉fs->∃ ob',B.get? b=some ob')
  (st:B.StaysIn h2) (up:h1.UpToSlots h2) (hf:∀ b∈fs,∃ o,h1.get? b=some o/\∀ vs,o.data≠.fields vs):Un fs [] H H' h h2 where
 keep:=fun b o e n hb _=>st b o (c2 b o e n hb)
 slot:=fun b o e n hb hx=>by
  obtain ⟨sl,q⟩:=U.slot b o e n hb hx
  obtain ⟨o',q',d⟩:=hf b hb
  rw [q] at q'
  have q2:=Option.some.inj q'
  subst q2
  obtain ⟨sl',z⟩:=up b _ q d
  exact ⟨sl',z⟩
 free:=U.free
 there:=fun b o e hx=>by
  by_cases hb:b∈fs
  ·obtain ⟨o',q',d⟩:=hf b hb
   obtain ⟨sl,z⟩:=up b o' q' d
   exact ⟨_,z⟩
  ·obtain ⟨o',z⟩:=c3 b o e hb
   exact ⟨o',st b o' z⟩
 tups:=U.tups
 frzs:=U.frzs
 tbls:=U.tbls
def yR (od:Option Addr) (base:Heap) (l:List Env) (e:Addr) (c a0:Value) (h:Heap):Prop:=base.StaysIn h/\base.get? e=none/\h.FunFrames base l/\TrP (fun o=>o.dict=od) h base e c a0 .none
def FlyH (od:Option Addr) (base:Heap) (l:List Env) (e:Addr) (c a0:Value) (L:Addr) (h:Heap):Prop:=base.StaysIn h/\base.get? e=none/\h.FunFrames base l/\TrP (fun o=>o.dict=od) h base e c a0 (rawInt L)
theorem wI (od:Option Addr):Stb (fun o=>o.dict=od):=fun o f h=>by
 obtain ⟨c,d,dt,sl⟩:=o
 cases dt <;> exact h
theorem yR.first {od:Option Addr} {base:Heap} {l:List Env} {e:Addr} {a0:Value} (x:yR od base l e c a0 h):∃ oe vs,h.get? e=some oe/\oe.cls=c/\oe.dict=od/\oe.data=.fields vs :=
 let ⟨_,_,_,oe,vs,_,_,_,ge,po,ec,_,dd,_⟩:=x;⟨oe,vs,ge,ec,po,dd⟩
section
variable {M:Model} {A:Around} {E:Value->Shared->Prop} {s:Shared} {base:Heap} {env:Env} {outer:List Env} {L e:Addr} {c a0:Value} {od:Option Addr}
theorem Iq (fr:A.frames=some (env :: outer)) (ef:env.frame=some L) (fl:yR od base (env :: outer) e c a0 s.heap) (hQ:∀ h',yR od base outer e c a0 h'->s.heap.UpToSlots h'->Q () { s with heap:=h' }):wpAny M A (leaving env (.ref e)) Q E s:=by
 obtain ⟨f1,f2,f3,f4⟩:=fl
 unfold leaving
 refine wpAny_bind (zW (wI od) fr f3 ef f4 f1 f2 fun h1 x1 x2 x3 x4=>?_)
 exact vD (s:={ s with heap:=h1 }) x1 x2 x3 fun h2 y1 y2 y3 y4=>hQ h2 ⟨y1,f2,y2.2.2,y3⟩ (x4.trans y4)
theorem zA (fr:A.frames=some (env :: outer)) (ef:env.frame=some L) (kb:base.StaysIn s.heap) (fl:s.heap.FunFrames base (env :: outer)) (ne:base.get? e=none) (ge:s.heap.get? e=some oe) (dd:oe.data=.fields vs) (v1:vs[1]?=some .none) (v0:vs[0]?=some a0)
  (hQ:∀ h',yR oe.dict base outer e oe.cls a0 h'->s.heap.UpToSlots h'->Q () { s with heap:=h' }):wpAny M A (leaving env (.ref e)) Q E s:=by
 unfold leaving
 refine wpAny_bind (Ij (wI oe.dict) fr fl ef ge rfl kb ne dd v1 v0 fun h1 x1 x2 x3 x4=>?_)
 exact vD (s:={ s with heap:=h1 }) x1 x2 x3 fun h2 y1 y2 y3 y4=>hQ h2 ⟨y1,ne,y2.2.2,y3⟩ (x4.trans y4)
theorem Mo (fr:A.frames=some (env :: outer)) (ef:env.frame=some L) (fl:yR od base (env :: outer) e c a0 s.heap) (hQ:∀ h',FlyH od base (env :: outer) e c a0 L h'->s.heap.UpToSlots h'->Q () { s with heap:=h' }):wpAny M A (noteFrame (.ref e) env) Q E s :=
 zW (wI od) fr fl.2.2.1 ef fl.2.2.2 fl.1 fl.2.1 fun h1 x1 x2 x3 x4=>hQ h1 ⟨x1,fl.2.1,x2,x3⟩ x4
theorem landsD {l:List Env} (fl:FlyH od base l e c a0 L s.heap) (hQ:∀ h',yR od base l e c a0 h'->s.heap.UpToSlots h'->Q () { s with heap:=h' }):wpAny M A (setFlight (.ref e) none) Q E s :=
 vD fl.1 fl.2.2.1 fl.2.2.2 fun h1 x1 x2 x3 x4=>hQ h1 ⟨x1,fl.2.1,x2,x3⟩ x4
theorem Cz {l:List Env} (fl:yR od base l e c a0 s.heap) (hQ:∀ h',yR od base l e c a0 h'->s.heap.UpToSlots h'->Q () { s with heap:=h' }):wpAny M A (setFlight (.ref e) none) Q E s :=
 vD fl.1 fl.2.2.1 fl.2.2.2 fun h1 x1 x2 x3 x4=>hQ h1 ⟨x1,fl.2.1,x2,x3⟩ x4
end
structure Fly (P:Program) (w:World) (outer:List Env) (H:Hp) (s:Shared) (cls:Value) (od:Option Addr) (a:Addr) (H':Hp) (B:Heap) (s':Shared):Prop where
 os:s'.os=s.os
 bare:AllBare s'.gens
 un:Un (frs outer) [] H H' s.heap s'.heap
 hok:HOk P w H' s'.heap
 fr:H' a=none
 nw:s.heap.get? a=none
 fl:∃ a0,yR od B outer a cls a0 s'.heap
 c1:∀ b o,H' b=some o->∃ ob,s'.heap.get? b=some ob/\B.get? b=some ob
 c2:∀ b ob,s.heap.get? b=some ob->H b=none->b∉frs outer->B.get? b=some ob
 c3:∀ b ob,s.heap.get? b=some ob->b∉frs outer->∃ ob',B.get? b=some ob'
def CXF (P:Program) (w:World):CXT:=fun outer H s E e s'=>∃ a cls od H' B,e=.ref a/\Fly P w outer H s cls od a H' B s'/\E cls od H'
theorem passN {X:Cx} {w:World}:mL (CXF P w) X E0:=fun _ _ _ _ _ _ _ ⟨_,_,_,_,_,_,_,q⟩=>q.elim
section
variable {X:Cx} {pins:List (Addr×Obj)} {σ:St} {H H':Hp} {s s':Shared} {cls:Value} {od:Option Addr} {a:Addr} {B:Heap}
theorem Inv.newer (I:Inv X pins σ H s) (hex:X.ex=[]) {b:Addr} (h:s.heap.get? b=none):X.s₀.heap.get? b=none:=by
 cases q:X.s₀.heap.get? b with
 | none=>rfl
 | some o =>
  obtain ⟨o',z⟩:=I.base.there b o q (by rw [hex];simp)
  rw [h] at z;cases z
theorem Inv.offStack (I:Inv X pins σ H s) {b:Addr} {ob:Obj} (e:X.s₀.heap.get? b=some ob) (hb:b∉X.fs):b∉frs X.stack:=fun z=>by
 rcases List.mem_cons.mp (I.stkSub b z) with z | z
 ·exact absurd (Nat.lt_of_lt_of_le (Heap.lt_size e) I.ok.above) (by rw [z];exact Nat.lt_irrefl _)
 ·exact hb z
theorem Fly.inv (I:Inv X pins σ H s) (F:Fly X.prog X.w X.stack H s cls od a H' B s') {h2:Heap} (st:B.StaysIn h2) (up:s'.heap.UpToSlots h2):Inv X pins σ H' { s' with heap:=h2 }:=by
 obtain ⟨a0,fl⟩:=F.fl
 refine I.call' (s':={ s' with heap:=h2 }) (ch:=[]) F.os (F.un.byB F.c2 F.c3 st up fun b hb=>?_) (F.hok.byB F.c1 st) F.bare (fun b z=>absurd z (by simp))
 obtain ⟨_,o,ho,hd⟩:=fl.2.2.1.mem hb
 exact ⟨o,ho,hd⟩
theorem Fly.on (I:Inv X pins σ H s) (hex:X.ex=[]) (hst:X.stack=X.env :: X.outer) (hfr:X.env.frame=some X.env.locals) (F:Fly X.prog X.w X.stack H s cls od a H' B s') :
  wpAny M X.A (leaving X.env (.ref a)) (fun _ s2=>Fly X.prog X.w X.outer X.H₀ X.s₀ cls od a H' B s2) E s':=by
 obtain ⟨a0,fl⟩:=F.fl
 have fl':=fl
 rw [hst] at fl'
 have hA:X.A.frames=some (X.env :: X.outer):=by rw [I.ok.frames,hst]
 refine Iq hA hfr fl' fun h2 fl2 up=>?_
 have J:Inv X pins σ H' { s' with heap:=h2 }:=F.inv I fl2.1 up
 have b0:Un X.fs [] X.H₀ H' X.s₀.heap h2:=by have:=J.base;rw [hex] at this;exact this
 refine ⟨J.os,J.bare,b0,J.hok,F.fr,I.newer hex F.nw,⟨a0,fl2⟩,fun b o e=>?_,fun b ob e n hb=>?_,fun b ob e hb=>?_⟩
 ·obtain ⟨ob,_,e2⟩:=F.c1 b o e
  exact ⟨ob,fl2.1 b ob e2,e2⟩
 ·exact F.c2 b ob (I.base.keep b ob e n hb (by rw [hex];simp)) (I.base.free b ob e n (by rw [hex];simp)) (I.offStack e hb)
 ·obtain ⟨o',e'⟩:=I.base.there b ob e (by rw [hex];simp)
  exact F.c3 b o' e' (I.offStack e hb)
theorem Fly.first {a0:Value} (I:Inv X pins σ H s) (hex:X.ex=[]) (hst:X.stack=X.env :: X.outer) (hfr:X.env.frame=some X.env.locals) (ge:s.heap.get? a=some oe) (oc:oe.cls=cls) (hd:oe.data=.fields vs) (v1:vs[1]?=some .none) (v0:vs[0]?=some a0) (hH:H a=none) (nw:X.s₀.heap.get? a=none) :
  wpAny M X.A (leaving X.env (.ref a)) (fun _ s2=>∃ B,Fly X.prog X.w X.outer X.H₀ X.s₀ cls oe.dict a H B s2) E s:=by
 have hA:X.A.frames=some (X.env :: X.outer):=by rw [I.ok.frames,hst]
 have stk:=I.stack
 have hin:∀ env∈X.stack,∀ b,env.frame=some b->b∈a :: frs X.stack:=fun env he b hb=>List.mem_cons_of_mem _ (List.mem_filterMap.mpr ⟨env,he,hb⟩)
 have hl:=PySem.W.funFrames_hide stk hin
 have off:∀ b,b≠a->b∉frs X.stack->b∉a :: frs X.stack:=fun b h1 h2 z=>by
  rcases List.mem_cons.mp z with z | z
  ·exact h1 z
  ·exact h2 z
 have c1:∀ b o,H b=some o->∃ ob,s.heap.get? b=some ob/\(PySem.W.hideAll s.heap (a :: frs X.stack)).get? b=some ob:=fun b o e=>by
  obtain ⟨ob,e1⟩:=(I.hok b o e).got
  refine ⟨ob,e1,PySem.W.hideAll_get _ e1 (off b (fun z=>by rw [z,hH] at e;cases e) fun z=>?_)⟩
  have:=I.stkFree b z
  rw [e] at this;cases this
 have c2:∀ b ob,X.s₀.heap.get? b=some ob->X.H₀ b=none->b∉X.fs->(PySem.W.hideAll s.heap (a :: frs X.stack)).get? b=some ob:=fun b ob e n hb =>
  PySem.W.hideAll_get _ (I.base.keep b ob e n hb (by rw [hex];simp)) (off b (fun z=>by rw [z,nw] at e;cases e) (I.offStack e hb))
 have c3:∀ b ob,X.s₀.heap.get? b=some ob->b∉X.fs->∃ ob',(PySem.W.hideAll s.heap (a :: frs X.stack)).get? b=some ob':=fun b ob e hb=>by
  obtain ⟨o',e'⟩:=I.base.there b ob e (by rw [hex];simp)
  exact ⟨o',PySem.W.hideAll_get _ e' (off b (fun z=>by rw [z,nw] at e;cases e) (I.offStack e hb))⟩
 have b0:Un X.fs [] X.H₀ H X.s₀.heap s.heap:=by have:=I.base;rw [hex] at this;exact this
 have hl2:s.heap.FunFrames (PySem.W.hideAll s.heap (a :: frs X.stack)) (X.env :: X.outer):=by
  generalize PySem.W.hideAll s.heap (a :: frs X.stack)=G at hl ⊢
  rw [hst] at hl
  exact hl
 refine zA (base:=PySem.W.hideAll s.heap (a :: frs X.stack)) hA hfr (fun b o q=>PySem.W.of_hideAll _ q) hl2 (PySem.W.hideAll_none _ List.mem_cons_self) ge hd v1 v0 fun h2 fl up=>?_
 have un:Un X.fs [] X.H₀ H X.s₀.heap h2:=b0.byB c2 c3 fl.1 up fun b hb=>by
  obtain ⟨_,o,ho,hd⟩:=I.funs.mem hb
  exact ⟨o,ho,hd⟩
 refine ⟨_,I.os,I.bare,un,I.hok.byB c1 fl.1,hH,nw,⟨a0,by rw [← oc];exact fl⟩,fun b o e=>?_,c2,c3⟩
 obtain ⟨ob,_,e2⟩:=c1 b o e
 exact ⟨ob,fl.1 b ob e2,e2⟩
end
section
variable {P:Program} {w:World} {K:PySem.W.Frag} {mg:Str->Option Value} {base:Heap} {N ps:List Str} {qual:Str} {scope:Scope} {f:Addr} {cd:Value} {A:Around} {outer:List Env} {s:Shared} {H:Hp} {E:XK}
theorem Uv {bmB:List Value} {newId:String} (X:K.In h) (q:PySem.W.excIn K C bmB newId=true):∃ bm N' nm qn bs hdct sn sub ab col dd k0 k1 k2 k3 k5 mN,
  h.get? C=some (excClassObj nm qn C N' bs bm hdct sn sub ab col dd k0 k1 k2 k3 k5 newId)/\h.Ns N' mN/\mN "__init__" = none/\OwnTail h bmB bm:=by
 unfold PySem.W.excIn at q
 split at q
 ·rename_i dd cd sl ho
  split at q
  ·rename_i C' bm k0 k1 k2 k3 n k5 hm hs
   rw [Bool.and_eq_true,Bool.and_eq_true,Bool.and_eq_true,Bool.and_eq_true,Bool.and_eq_true,beq_iff_eq,beq_iff_eq,beq_iff_eq,Bool.not_eq_true'] at q
   obtain ⟨⟨⟨⟨⟨e1,e2⟩,hdel⟩,ht⟩,hk⟩,hi⟩:=q
   subst e1 e2
   obtain ⟨nm,bs,mro,ns,qn,hd,sn,sub,ab,col,del⟩:=cd
   dsimp only at hm hdel hk hi
   subst hm hdel
   have es:sl=#[k0,k1,k2,k3,some (.builtin n),k5]:=by
    cases sl with | mk l=>simp only at hs;rw [hs]
   subst es
   exact ⟨bm,ns,nm,qn,bs,hd,sn,sub,ab,col,dd,k0,k1,k2,k3,k5,_,X _ _ ho,.of_isNs (PySem.W.isNs_of_in X hk),PySem.W.nsMap_none_of_in X hk hi,PySem.W.tail_of_in X ht⟩
  ·cases q
 ·cases q
def Gr (E:XK) (c:Value) (ta:TA):TS:=fun _ σ H=>ta σ H fun vs H1=>vs.length<=sizeLine/\E c none H1
theorem Qo {bm0 bmN:List Value} {Bb Bn newId nid initId inN:String} {np cpos:Pos} {e₀:Expr} {kS:List Expr} {ta:TA}
  (Fn:ExcBaseFacts Bn newId inN bmN) (hBn:bm0.contains (.type Bn)=true) (FB:ExcBaseFacts Bb nid initId bm0)
  (hg:Gl (jD (CXF P w) P w K mg base N qual scope f cd A outer s H E) x) (hm:mg x=some (.ref C)) (hx:PySem.W.excIn K C bm0 newId=true)
  (ha:PA (jD (CXF P w) P w K mg base N qual scope f cd A outer s H E) (e₀ :: kS) ta)
  (he:starEach (e₀ :: kS) (jD (CXF P w) P w K mg base N qual scope f cd A outer s H E).env=(false,eval e₀ (jD (CXF P w) P w K mg base N qual scope f cd A outer s H E).env) :: starEach kS (jD (CXF P w) P w K mg base N qual scope f cd A outer s H E).env:=by rfl)
  (hpl:(backTo cpos (starEach kS (jD (CXF P w) P w K mg base N qual scope f cd A outer s H E).env)).any (·.1)=false:=by rfl) (hdb:(x == ("__debug__" : Str))=false:=by decide) :
  PS (jD (CXF P w) P w K mg base N qual scope f cd A outer s H E) (.Raise (some (.Call (.Name x np) (e₀ :: kS) [] cpos)) none pos) (Gr E (.ref C) ta):=by
 intro pins s1 σ H1 D I h
 obtain ⟨bm,N',nm,qn,bs,hdct,sn,sub,ab,col,dd,k0,k1,k2,k3,k5,mN,hC,hN,hni,T⟩:=Uv (h:=base) I.mod.kin hx
 refine wpAny_Raise_call_subU (C:=C) (nm:=nm) (q:=qn) (N:=N') (bs:=bs) (bm:=bm) (bmB:=bm0) (hdct:=hdct) (sn:=sn) (sub:=sub) (ab:=ab) (col:=col) (dd:=dd) (k0:=k0) (k1:=k1) (k2:=k2) (k3:=k3) (k5:=k5)
  Fn hBn FB (mN:=mN) (T.hasType FB.hasBase) (I.ok.hd rfl) ?_ hni (nO I hg hm ⟨rfl,?_⟩ hdb)
 ·rw [he]
  show (false || (backTo cpos (starEach kS _)).any (·.1))=false
  rw [hpl];rfl
 ·have hA:=ha cpos pins s1 σ H1 _ I h
  rw [he] at hA ⊢
  refine Calls.evalArgs_plain (thn hA fun us s2 ⟨vs,H2,I2,r,hz,q⟩=>⟨rfl,?_,I2.bk _ _ hC,hN.keeps I2.bk,T.keeps I2.bk,fun h1 e hmade=>?_⟩)
  ·show us.length<=sizeLine
   rw [← r.length];exact hz
  ·obtain ⟨t,ge,_,_⟩:=hmade.there
   have I3:Inv (jD (CXF P w) P w K mg base N qual scope f cd A outer s H E) pins σ H2 { s2 with heap:=h1 }:=I2.kept (t':=s2.toks) hmade.keeps
   have hn:H2 e=none:=by
    cases q':H2 e with
    | none=>rfl
    | some o =>
     obtain ⟨ob,e1⟩:=(I2.hok e o q').got
     rw [hmade.new] at e1;cases e1
   exact wpAny_mono (Fly.first (E:=fun e' s2=>CXF P w outer H s E e' s2) (M:=model P w) I3 rfl rfl rfl ge rfl rfl rfl rfl hn (I2.newer rfl hmade.new)) (fun _ s3 ⟨B,F⟩=>⟨e,_,_,H2,B,rfl,F,q⟩) fun _ _ z=>z
theorem Fun.okX {st:Stmt} {fd:FuncData} {k:Nat} {sp:Sp} (F:Fun K x qual st f fd) (S:gL N ps (aP st)) (len:∀ vs H Q E,sp vs H Q E->vs.length=ps.length)
  (hbody:∀ (cdv:Value) (A:Around) (outer:List Env) (s:Shared) (H:Hp) (vs:List V) (Q:VK) (E:XK),cV k (A.deeper (envOfC qual (aP st) s.heap.objs.size f cdv))->sp vs H Q E ->
   ∃ t,PSs (jD (CXF P w) P w K mg base N qual (aP st) f cdv A outer s H E) (cJ st) t/\t { nx:=fun _ H'=>Q .non H',rt:=Q } (start N vs) H):fT P w K mg base (CXF P w) (k+1) f fd ps sp:=by
 obtain ⟨oc,od,kV,doc,pm,an,cdv,ct,osl,rfl,lk,hcd⟩:=F.ex
 exact Ja lk hcd S len fun A outer s H vs Q E hr hsp=>hbody cdv A outer s H vs Q E hr hsp
end
def De (a:Addr) (c:Value) (od:Option Addr):HO:=.ext fun h=>∃ o,h.get? a=some o/\o.cls=c/\o.dict=od/\∃ vs,o.data=.fields vs
abbrev Cx.inx (X:Cx) (a:Addr):Cx:={ X with A:=X.A.mark (some (.ref a)),calm:=false }
section
variable {X:Cx} {pins:List (Addr×Obj)} {σ:St} {H H':Hp} {s s':Shared} {cls:Value} {od:Option Addr} {a:Addr} {B:Heap}
theorem Inv.inx (I:Inv X pins σ H s) (a:Addr):Inv (X.inx a) pins σ H s :=
 ⟨⟨I.ok.mod,I.ok.kind,I.ok.glob,I.ok.blt,I.ok.above,I.ok.inj,I.ok.has,I.ok.cab,(fun z=>nomatch z),I.ok.frames,I.ok.stk,I.ok.exf,I.ok.bs,I.ok.bsz,I.ok.noex,I.ok.exfs,I.ok.funs,I.ok.frf⟩,I.os,I.bare,I.base,I.loc,I.cell,I.free,I.freeC,I.pin,I.hok,I.len⟩
theorem Inv.back (J:Inv ((X.inx a).nox) pins σ H s) (ok:X.Ok):Inv X pins σ H s:=⟨ok,J.os,J.bare,J.base,J.loc,J.cell,J.free,J.freeC,J.pin,J.hok,J.len⟩
theorem Inv.adoptE {D:Addr} (I:Inv X pins σ H s) (hn:H D=none) (hs:X.s₀.heap.get? D=none) (hL:D≠X.env.locals) (hc:∀ x c,X.env.cells.lookup x=some c->c≠D) (hp:∀ p∈X.pn ++ pins,p.1≠D)
  (new:bZ X.prog X.w (upd H D o) s.heap D o):Inv X pins σ (upd H D o) s:=by
 have old:∀ b u,H b=some u->upd H D o b=some u:=fun b u q=>by rw [aN (bF q hn)];exact q
 refine ⟨I.ok,I.os,I.bare,⟨I.base.keep,I.base.slot,fun b ob e n hx=>?_,I.base.there,fun b xs e=>old _ _ (I.base.tups b xs e),fun b ob xs e=>old _ _ (I.base.frzs b ob xs e),fun b ps e=>?_⟩,I.loc,I.cell,?_,fun x c e=>?_,fun p h=>?_,fun b ob e=>?_,I.len⟩
 ·have hb:b≠D:=fun z=>by rw [z,hs] at e;cases e
  rw [aN hb];exact I.base.free b ob e n hx
 ·obtain ⟨more,q⟩:=I.base.tbls b ps e
  exact ⟨more,old _ _ q⟩
 ·rw [aN (Ne.symm hL)];exact I.free
 ·rw [aN (hc x c e)];exact I.freeC x c e
 ·obtain ⟨a1,a2,a3⟩:=I.pin p h
  exact ⟨a1,by rw [aN (hp p h)];exact a2,a3⟩
 ·by_cases hb:b=D
  ·subst hb;rw [aD] at e;cases e;exact new
  ·rw [aN hb] at e
   exact (I.hok b ob e).stay (fun c v _ q=>q) (fun c q=>old _ _ q) fun c xs q=>old _ _ q
theorem Um {i:Nat} (I:Inv X pins σ H s) (hN:X.N.Nodup) (hi:X.N[i]?=some x) (hk:X.env.scope.names.lookup x=some .local)
  (h:∀ s',Inv X pins (σ.set i none) H s'->Q () s'):wpAny M A (do bindName X.env x .none;unbindBehindTheSuite X.env x pos) Q E s:=by
 obtain ⟨m,hn,hl⟩:=id I.loc
 have hp:(X.env.scope.kind == .class || (X.env.scope.kind == .module && X.env.locals != X.env.globals))=false:=by rw [I.ok.kind];rfl
 refine wpAny_nameGoes_keeps hk hn hp fun h' v hn' hs=>h _ ?_
 obtain ⟨oL,_,_,hoL,_⟩:=id hn
 have older:∀ b o,X.s₀.heap.get? b=some o->b≠X.env.locals:=fun b o e=>Nat.ne_of_lt (Nat.lt_of_lt_of_le (Heap.lt_size e) I.ok.above)
 refine ⟨I.ok,I.os,I.bare,⟨fun b o e n hb hx=>(hs.2 b (older b o e)).trans (I.base.keep b o e n hb hx),fun b o e n hb hx=>?_,I.base.free,fun b o e hx=>?_,I.base.tups,I.base.frzs,I.base.tbls⟩,⟨_,hn',fun j y v' e1 e2 e3=>?_⟩,fun y c e=>?_,I.free,I.freeC,fun p hp=>?_,fun b ob e=>?_,by simpa using I.len⟩
 ·obtain ⟨sl,e1⟩:=I.base.slot b o e n hb hx
  exact ⟨sl,(hs.2 b (older b o e)).trans e1⟩
 ·obtain ⟨o',e1⟩:=I.base.there b o e hx
  exact ⟨o',(hs.2 b (older b o e)).trans e1⟩
 ·by_cases hj:j=i
  ·subst hj
   rw [List.getElem?_set] at e2
   split at e2
   ·split at e2 <;> cases e2
   ·exact absurd rfl ‹_›
  ·rw [List.getElem?_set_ne (Ne.symm hj)] at e2
   obtain ⟨u',r',q⟩:=hl j y v' e1 e2 e3
   refine ⟨u',r',?_⟩
   rcases q with ⟨k,e⟩ | ⟨k,c,e,z⟩
   ·have ne:y≠x:=fun e=>hj (wP hN e1 (e ▸ hi))
    exact .inl ⟨k,by simp [ne,e]⟩
   ·exact .inr ⟨k,c,e,z.sameBut hs (I.cne y c e)⟩
 ·obtain ⟨w',z⟩:=I.cell y c e
  exact ⟨w',z.sameBut hs (I.cne y c e)⟩
 ·obtain ⟨e,n,ne,nf,d⟩:=I.pin p hp
  exact ⟨(hs.2 p.1 ne).trans e,n,ne,nf,d⟩
 ·refine (I.hok b ob e).stay (fun c w' hc q=>(hs.2 c ?_).trans q) (fun _ q=>q) fun _ _ q=>q
  intro z
  subst z
  rcases hc with z | z
  ·rw [← z,I.free] at e;cases e
  ·rw [I.free] at z;cases z
end
def PEx (X:Cx) (e:Expr) (te:XK->TE):Prop :=
 ∀ (pins:List (Addr×Obj)) (s:Shared) (σ:St) (H:Hp) (Q:VK) (E:XK) (xe:Value->Shared->Prop),Inv X pins σ H s->te E σ H Q ->
  (∀ H1 s1 e1 s',Inv X pins σ H1 s1->CXF X.prog X.w X.stack H1 s1 E e1 s'->xe e1 s')->wpAny (model X.prog X.w) X.A (eval e X.env) (EP X pins σ Q) xe s
section
variable {X:Cx} {k:Nat} {f C:Addr} {fd:FuncData} {ps:List Str} {sp:Sp} {dvs:List V} {ds:List Value} {x m:Str} {p pos apos:Pos} {e o:Expr} {es:List Expr} {ta:TE} {t:TA}
theorem Th {Q:VK} {E:XK} {xe:Value->Shared->Prop} {us:List Value} {vs:List V} (F:fT X.prog X.w X.K X.mg X.base (CXF X.prog X.w) k f fd ps sp) (hr:cV k X.A) (hb:gW X.K fd ps [])
  (I:Inv X pins σ H s) (r:aY vs us) (h:sp vs H Q E) (hx:∀ e1 s',CXF X.prog X.w X.stack H s E e1 s'->xe e1 s'):wpAny (model X.prog X.w) X.A (call (.ref f) us) (EP X pins σ Q) xe s:=by
 have hl:(us ++ []).length=ps.length:=by rw [List.append_nil,← r.length];exact F.len _ _ _ _ h
 have bt:=hb s us I.kIn hl
 rw [List.append_nil] at bt
 refine wpAny_call (codeAny_mono (F.run X.A X.stack s H ⟨us,[]⟩ us vs Q E hr I.env0 bt r h) fun res s' hq=>?_)
 cases res with
 | error e=>exact hx e s' hq
 | ok fl =>
  cases fl with
  | ret u=>exact I.after hq
  | next=>exact False.elim hq
  | brk=>exact False.elim hq
  | cont=>exact False.elim hq
theorem Qr (F:fT X.prog X.w X.K X.mg X.base (CXF X.prog X.w) k f fd ps sp) (hr:cV k X.A) (hg:Gl X x) (hm:X.mg x=some (.ref f)) (hk:PySem.W.keepIn X.K (.ref f)=true) (hb:gW X.K fd ps [])
  (ha:PA X.nox (e :: es) t) (hdb:(x == ("__debug__" : Str))=false:=by decide) (he:starEach (e :: es) X.env=(false,eval e X.env) :: starEach es X.env:=by rfl) (hpl:(backTo pos (starEach es X.env)).any (·.1)=false:=by rfl) :
  PEx X (.Call (.Name x p) (e :: es) [] pos) (fun E=>aU sp [] E t):=by
 intro pins s σ H Q E xe I h hx
 refine wpAny_Call_Name_kw (nO I hg hm ?_ hdb)
 refine PySem.W.callWith_K (h₀:=X.base) I.ok.mod.kin hk (wpAny_mono (ha pos pins s σ H _ (I.wish _) h) (fun us s1 ⟨vs,H1,I1,r,q⟩=>⟨I1.kIn,?_⟩) fun _ _ z=>z.elim) he hpl
 have q':sp (vs ++ []) H1 Q E:=q
 rw [List.append_nil] at q'
 exact Th F hr hb I1.unwish r q' fun e1 s' z=>hx H1 s1 e1 s' I1.unwish z
end
def Sl (te:XK->TE) (c0:Value) (j:Nat) (ts:TS):TS:=fun D σ H=>te (fun cls od H2=>cls=c0/\∀ a,H2 a=none->ts { nx:=fun σ' H'=>D.nx (σ'.set j none) H',rt:=fun _ _=>False } (σ.set j (some (.ref a))) (upd H2 a (De a c0 od))) σ H fun _ H2=>D.nx σ H2
theorem ps_try {X:Cx} {te:XK->TE} {ts:TS} {c0:Value} {cx n:Str} {j:Nat} {e:Expr} {s0:Stmt} {suite:List Stmt} {p1 np hp:Pos} (he:PEx X e te) (hs:∀ a,PSs ((X.inx a).nox) (s0 :: suite) ts)
  (hst:X.stack=X.env :: X.outer) (hfr:X.env.frame=some X.env.locals) (hex:X.ex=[]) (hg:Gl X cx) (hm:X.mg cx=some c) (hmt:PySem.W.exmOne X.K c0 c=some true) (hN:X.N.Nodup) (hj:X.N[j]?=some n) (hn:X.env.scope.names.lookup n=some .local)
  (hdb:(cx == ("__debug__" : Str))=false:=by decide) (hsw:swapsWith e none p1.line X.env=pure false:=by rfl) :
  PS X (.Try [.Expr e p1] [.ExceptHandler (some (.Name cx np)) (some n) (s0 :: suite) hp] [] [] tp) (Sl te c0 j ts):=by
 intro pins s σ H D I h
 refine wpAny_Try_except (wpAny_execs_cons (wpAny_Expr_any (wpAny_mono (he pins s σ H _ _ _ I h fun H1 s1 e1 s' I1 z=>?_) (fun v s1 ⟨y,H1,I1,r1,q1⟩=>wpAny_execs_nil (wpAny_execs_nil ⟨σ,H1,I1,q1⟩)) fun _ _ z=>z) I.quiet hsw))
 obtain ⟨a,cls,od,H',B,e0,F,ec,q⟩:=z
 subst e0 ec
 obtain ⟨a0,fl⟩:=F.fl
 have fl':=fl
 rw [hst] at fl'
 have hA:X.A.frames=some (X.env :: X.outer):=by rw [I.ok.frames,hst]
 refine Mo hA hfr fl' fun h4 held up4=>landsD (s:={ s' with heap:=h4 }) held fun h5 fl5 up5=>?_
 have I5:Inv X pins σ H' { s' with heap:=h5 }:=F.inv I1 fl5.1 (up4.trans up5)
 obtain ⟨ob,_,hob,hobc,_,_⟩:=fl5.first
 have LT:PySem.W.Looks (model X.prog X.w) h5 (typeOf (.ref a)) cls:=hobc ▸ (PySem.W.Looks.ld hob).andThen .now
 refine wpAny_handleBy_cons (codeAny_handlers_test (nO (X:=X.inx a) (I5.inx a) hg hm ((PySem.W.exm_one I5.kIn LT hmt).here (codeAny_handlers_suite_as ?_)) hdb)) (by intro z;cases z)
 refine Cz (s:={ s' with heap:=h5 }) fl5 fun h6 fl6 up6=>?_
 have I6:Inv X pins σ H' { s' with heap:=h6 }:=F.inv I1 fl6.1 ((up4.trans up5).trans up6)
 obtain ⟨oe,vs,hoe,hoc,hdc,hod⟩:=fl6.first
 have nL:a≠X.env.locals:=fun z=>by
  obtain ⟨_,⟨oL,_,_,e1,_⟩,_⟩:=I1.loc
  rw [← z,F.nw] at e1;cases e1
 have nC:∀ y c,X.env.cells.lookup y=some c->c≠a:=fun y c e1 z=>by
  obtain ⟨_,oc,e2,_⟩:=I1.cell y c e1
  rw [z,F.nw] at e2;cases e2
 have nP:∀ p∈X.pn ++ pins,p.1≠a:=fun p hp z=>by
  have e1:=(I1.pin p hp).1
  rw [z,F.nw] at e1;cases e1
 have I7:Inv X pins σ (upd H' a (De a cls od)) { s' with heap:=h6 }:=I6.adoptE F.fr (I1.newer hex F.nw) nL nC nP ⟨⟨oe,hoe,hoc,hdc,vs,hod⟩,⟨oe,hoe⟩,fun g1 g2 ⟨o,e1,r⟩ kp=>⟨o,kp o e1,r⟩⟩
 refine mO I7 hN hj (.inl hn) (v:=.ref a) (u:=.ref a) rfl (fun s8 I8=>?_) (.inr hn)
 refine wpAny_mono (hs a pins s8 _ _ _ (I8.inx a |>.wish _) (q a F.fr)) (fun fl9 s9 z=>?_) fun _ _ z=>z.elim
 cases fl9 with
 | next =>
  obtain ⟨σ',H9,I9,q9⟩:=z
  exact Um (I9.back I.ok) hN hj hn fun s10 I10=>⟨_,_,I10,q9⟩
 | ret v=>obtain ⟨_,_,_,_,_,z⟩:=z;exact z.elim
 | brk=>obtain ⟨_,_,_,z⟩:=z;exact z.elim
 | cont=>obtain ⟨_,_,_,z⟩:=z;exact z.elim
def aR (K:PySem.W.Frag) (x:Str):Addr:=match PySem.W.nsIn K mainGlobals x with
 | some (some (.ref C))=>C
 | _=>0
theorem bO (h:PySem.W.nsIn K mainGlobals x=some (some (.ref C))):aR K x=C:=by unfold aR;rw [h]
def tJ (a C:Addr) (h:Heap):Prop:=∃ o,h.get? a=some o/\o.cls=.ref C/\∃ vs,o.data=.fields vs
def KX (K:PySem.W.Frag) (C:Addr):Prop:=∀ a,PySem.W.KitX K (.ref a) (.ref C) (tJ a C)
def isE (K:PySem.W.Frag) (C:Addr) (H:Hp) (y:V) (b:Bool):Prop :=
 (∃ D,y=.ref D/\PySem.W.kitOne K (.ref C) (.ref D)=some b)∨(∃ T,y=.ty T/\PySem.W.kitOne K (.ref C) (.type T)=some b)∨(∃ p Ds,y=.ref p/\H p=some (.tup (List.map V.ref Ds))/\PySem.W.kitAny K (.ref C) (List.map Value.ref Ds)=some b)
def Oa (K:PySem.W.Frag):List V->Hp->VK->Prop:=fun xs H Q=>∃ a C od y b,xs=[.ref a,y]/\H a=some (De a (.ref C) od)/\KX K C/\isE K C H y b/\Q (.bl b) H
structure XT (K:PySem.W.Frag) (R:Str) (others:List Str):Prop where
 any:PySem.W.kitAny K (.ref (aR K R)) (others.map fun x=>.ref (aR K x))=some false
 val:PySem.W.kitOne K (.ref (aR K R)) (.type "ValueError")=some true
 kx:KX K (aR K R)
theorem XT.own {R:Str} {others:List Str} (_:XT K R others):PySem.W.kitOne K (.ref (aR K R)) (.ref (aR K R))=some true:=by
 unfold PySem.W.kitOne;rw [if_pos (by simp)]
section
variable {X:Cx}
theorem tJ.of (I:Inv X pins σ H s) {od:Option Addr} (h:H a=some (De a (.ref C) od)):tJ a C s.heap:=let ⟨o,e1,e2,_,e3⟩:=(I.hok a _ h).1;⟨o,e1,e2,e3⟩
theorem tup_of {p:Addr} {Ds:List Addr} (I:Inv X pins σ H s) (h:H p=some (.tup (List.map V.ref Ds))):∃ o n,s.heap.get? p=some o/\o.cls=.type "tuple" /\ o.data=.seq (List.map Value.ref Ds).toArray n:=by
 obtain ⟨_,its,r,o,e,c,n,d⟩:=I.hok p _ h
 have key:∀ (Ds:List Addr) (its:List Value),aY (List.map V.ref Ds) its->its=List.map Value.ref Ds:=by
  intro Ds
  induction Ds with
  | nil=>intro its r;cases r;rfl
  | cons D r' ih =>
   intro its r
   cases r with
   | cons q t =>
    have q':_=Value.ref D:=q
    rw [q',ih _ t];rfl
 have:=key Ds its r
 subst this
 exact ⟨o,n,e,c,d⟩
theorem wT:fQ X (.builtin "isinstance") (Oa X.K):=by
 intro pins s σ H xs us Q I r h
 obtain ⟨a,C,od,y,b,rfl,hH,kx,hb,q⟩:=h
 obtain ⟨u,c,rfl,ru,rc⟩:=zE r
 obtain rfl:u=Value.ref a:=ru
 have at_:=tJ.of I hH
 have fin:∀ tk,EP X pins σ Q (.bool b) { s with toks:=tk }:=fun tk=>⟨.bl b,H,I.tok _,rfl,q⟩
 rcases hb with ⟨D,rfl,e⟩ | ⟨T,rfl,e⟩ | ⟨p,Ds,rfl,hp,e⟩
 ·obtain rfl:c=Value.ref D:=rc
  exact PySem.W.kia_one (kx a) I.kIn at_ e (fun z=>nomatch z) fin
 ·obtain rfl:c=Value.type T:=rc
  exact PySem.W.kia_one (kx a) I.kIn at_ e (fun z=>nomatch z) fin
 ·obtain rfl:c=Value.ref p:=rc
  obtain ⟨⟨oc,od,dt,sl⟩,n,e1,e2,e3⟩:=tup_of I hp
  dsimp only at e2 e3
  subst e2 e3
  exact PySem.W.kia_tup (kx a) I.kIn at_ e1 e (fun z=>nomatch z) fin
end
theorem sub_of {T:Value} {b:Bool} (X:K.In h) (at_:tJ a C h) (e:PySem.W.mroIn K C T=some b):PySem.W.Looks M h (isInstance (.ref a) T) b:=by
 obtain ⟨o,e1,e2,_⟩:=at_
 have L0:PySem.W.Looks M h (typeOf (.ref a)) (.ref C):=e2 ▸ (PySem.W.Looks.ld e1).andThen .now
 exact L0.andThen (PySem.W.looks_mroIn X e)
section
open PySem.W Builtin Builtin.ObjectAttr Builtin.Getset_descriptor
theorem Da {prog:Program} {w:World} {K:Frag} {x:Addr} {R:Result->Shared->Prop} {tp:Value} (X:K.In s.heap) (at_:tJ x C s.heap) (hm:mroIn K C (.type "object")=some true) (h:R (.ok (.ret (.ref C))) s) :
  codeAny (model prog w) A (.call (.builtin "getset_descriptor.__get__") ⟨[.builtin "object.__class__",.ref x,tp],[]⟩) R s:=by
 obtain ⟨o,e1,e2,vs,e3⟩:=at_
 obtain ⟨hh,g,dr,t,os⟩:=s
 have L0:Looks (model prog w) hh (typeOf (.ref x)) (.ref C):=e2 ▸ (Looks.ld e1).andThen .now
 have L1:=looks_mroIn (M:=model prog w) X hm
 refine codeAny_call_builtin KF.slot_gs.plain KF.entry_gs (KF.slot_gs.check _ _ _ _ _ _ _ _ KF.type_class (KF.args_gs _ _ _) ?_)
 unfold Builtin.«getset_descriptor.__get__» descrGet;rw [dga_obj]
 refine wpAny_bind (wpAny_pure ?_)
 unfold descrGetter descrCheckInstance descrNameAndClass isInstance;simp only [KF.owner_class]
 repeat lk
 refine ⟨Code.quiet_builtin _ (by decide +kernel),codeAny_builtin KF.entry_class ?_⟩;unfold Builtin.«object.__class__» shownTypeOf
 repeat lk
 exact h
theorem Ng {prog:Program} {w:World} {K:Frag} {x:Addr} {Q:Option Value->Shared->Prop}
  (hga:findIn K (.ref C) "__getattribute__" = some (some (.builtin "BaseException.__getattribute__"))) (hgh:findIn K (.ref C) "__getattr__" = some none) (hcl:findIn K (.ref C) "__class__" = some (some (.builtin "object.__class__")))
  (hn:specialIn K (.builtin "object.__class__") "__get__" = some (some (.builtin "getset_descriptor.__get__"))) (htk:takesIn K (.builtin "object.__class__")=some true) (hm:mroIn K C (.type "object")=some true) (hb:mroIn K C (.type "BaseException")=some true)
  (X:K.In s.heap) (at_:tJ x C s.heap) (h:Q (some (.ref C)) { s with toks:=s.toks+1 }):wpAny (model prog w) A (getAttr? (.ref x) "__class__") Q E s:=by
 obtain ⟨o,e1,e2,vs,e3⟩:=id at_
 obtain ⟨hh,g,dr,t,os⟩:=s
 have L0:Looks (model prog w) hh (typeOf (.ref x)) (.ref C):=e2 ▸ (Looks.ld e1).andThen .now
 have L1:=looks_findIn (M:=model prog w) X hga
 have L2:=looks_findIn (M:=model prog w) X hgh
 have L3:=looks_findIn (M:=model prog w) X hcl
 have L4:=looks_specialIn (M:=model prog w) X hn
 have L5:=looks_takesIn (M:=model prog w) X htk
 have L6:Looks (model prog w) hh (isInstance (.ref x) (.type "BaseException")) true:=sub_of X at_ hb
 have LD:Looks (model prog w) hh (dataDescriptor? (some (.builtin "object.__class__")) (some (.builtin "getset_descriptor.__get__"))) (some (.builtin "getset_descriptor.__get__",.builtin "object.__class__")):=L5.andThen .now
 have LF:Looks (model prog w) hh (find (.ref x) (.ref C) "__class__") (.bind (.builtin "getset_descriptor.__get__") (.builtin "object.__class__")):=L3.andThen (L4.andThen (LD.andThen (Looks.tag .now)))
 have bnd:=PySem.F.attr_ValueError.ga.bind (.ref x)
 have hne:(Value.builtin "BaseException.__getattribute__" == Value.builtin "object.__getattribute__")=false:=by decide +kernel
 have hk:builtinKind "BaseException.__getattribute__" = some .slot:=by decide +kernel
 have hsp:splitId "BaseException.__getattribute__" = some ("BaseException", "__getattribute__"):=by decide +kernel
 unfold getAttr? getAttrBy? getAttrBy
 refine wpAny_bind (wpAny_mkText (wpAny_bind (wpAny_attempt (wpAny_holding (wpAny_bind (L0.at (wpAny_bind (L1.at ?_))))))))
 dsimp only
 rw [hne,Bool.and_false,if_neg Bool.false_ne_true]
 unfold getAttrByItsOwn hookBefore
 rw [if_pos (show onTheHeap (Value.ref C)=true from rfl)]
 refine wpAny_bind (L2.at (wpAny_bind (wpAny_attempt (wpAny_holding ?_))))
 unfold callGetattribute boundAndCalled
 rw [Bool.false_and,if_neg Bool.false_ne_true,bnd]
 refine wpAny_bind (wpAny_pure (wpAny_call (codeAny_call_builtin PySem.F.attr_ValueError.ga.plain PySem.F.entry_bexc_ga ?_)))
 have ha:=PySem.F.args_bexc_ga (.ref x) (.str "__class__" t)
 show wpAny _ _ (checkBuiltinCall _ ⟨[.ref x,.str "__class__" t],[]⟩) _ _ _
 simp only [checkBuiltinCall,hk,hsp]
 refine wpAny_bind (L6.at ?_)
 repeat (first | lk | wp_step)
 show wpAny _ _ (run (.call (.builtin "getset_descriptor.__get__") ⟨[.builtin "object.__class__",.ref x,.ref C],[]⟩) none) _ _ _
 refine wpAny_run (Da X at_ hm ?_)
 repeat (first | lk | wp_step)
 exact h
end
theorem Rg (hga:PySem.W.findIn K (.ref C) "__getattribute__" = some (some (.builtin "BaseException.__getattribute__"))) (hgh:PySem.W.findIn K (.ref C) "__getattr__" = some none) (hcl:PySem.W.findIn K (.ref C) "__class__" = some (some (.builtin "object.__class__")))
  (hn:PySem.W.specialIn K (.builtin "object.__class__") "__get__" = some (some (.builtin "getset_descriptor.__get__"))) (htk:PySem.W.takesIn K (.builtin "object.__class__")=some true) (hm:PySem.W.mroIn K C (.type "object")=some true) (hb:PySem.W.mroIn K C (.type "BaseException")=some true) :
  PySem.W.KitX K (.ref a) (.ref C) (tJ a C):=by
 obtain ⟨cd,hc,_⟩:=Option.bind_eq_some_iff.mp hm
 have key:∃ c d sl,K.lookup C=some ⟨c,d,.cls cd,sl⟩:=by
  unfold PySem.W.clsIn at hc
  split at hc
  ·rename_i c' d' cd' sl' ho
   have:=Option.some.inj hc
   subst this
   exact ⟨_,_,_,ho⟩
  ·cases hc
 obtain ⟨c,d,sl,ho⟩:=key
 refine ⟨fun M h X p=>?_,fun M h X p=>?_,fun h tp dd its n sl' X e=>?_,fun X p q=>Ng hga hgh hcl hn htk hm hb X p q⟩
 ·obtain ⟨o,e1,e2,_⟩:=p
  exact e2 ▸ (PySem.W.Looks.ld e1).andThen .now
 ·intro A' Q' E' s' k q
  unfold isType loadHead
  exact wpAny_bind (wpAny_loadPart (k _ _ (X _ _ ho)) (wpAny_pure q))
 ·refine Bool.eq_false_iff.mpr fun q=>?_
  have z:C=tp:=Value.ref.inj (beq_iff_eq.mp q)
  subst z
  cases (X _ _ ho).symm.trans e
end L2
namespace L2
theorem zC:PySem.bootBuiltins "ValueError" = some (.type "ValueError"):=by decide +kernel
end L2
namespace L2
open PySem PySem.Spec PyProof.Rows Builtin Builtin.ObjectAttr
def vTail:List Value:=[.type "ValueError",.type "Exception",.type "BaseException",.type "object"]
def Jv:List Value->Bool
 | .ref _ :: r=>Jv r
 | l=>l == vTail
def Kj (K:PySem.W.Frag) (C:Addr):Bool:=(PySem.W.clsIn K C).any fun cd=>Jv cd.mro
end L2
namespace L2
open PySem PySem.Spec PyProof.Rows
variable {H:Hp} {K:PySem.W.Frag} {N:List Str} {P:List Value->Prop} {a c e:Addr} {ex:List Addr} {g:TG} {i:Nat} {p1 py spos tp:Pos} {pins:List (Addr×Obj)} {s:Shared} {wi:TI} {x y:Str} {xs:List V} {σ:St}
section
open PySem.W Builtin Builtin.ObjectAttr Builtin.Getset_descriptor
end
structure XCl (K:PySem.W.Frag) (C:Addr) (f:Str):Prop where
 sa:PySem.W.findIn K (.ref C) "__setattr__" = some (some (.builtin "object.__setattr__"))
 ov:Kj K C=true
 no:PySem.W.findIn K (.ref C) f=some none
 hd:PySem.W.hasDictIn K C=true
structure XCg (K:PySem.W.Frag) (C:Addr) (f:Str):Prop where
 ga:PySem.W.findIn K (.ref C) "__getattribute__" = some (some (.builtin "BaseException.__getattribute__"))
 gh:PySem.W.findIn K (.ref C) "__getattr__" = some none
 hd:PySem.W.hasDictIn K C=true
 no:PySem.W.findIn K (.ref C) f=some none
 mr:PySem.W.mroIn K C (.type "BaseException")=some true
def Nz (H:Hp) (e:Addr):Hp:=fun b=>if b=e then none else H b
theorem Ae:Nz H e e=none:=if_pos rfl
theorem Cd {b:Addr} (h:b≠e):Nz H e b=H b:=if_neg h
theorem oF {b:Addr} (h:H b=none):Nz H e b=none:=by
 by_cases q:b=e
 ·rw [q];exact Ae
 ·rw [Cd q];exact h
theorem Inv.drop {X:Cx} {φ:Heap->Prop} (I:Inv X pins σ H s) (hs:X.s₀.heap.get? e=none) (he:H e=some (.ext φ)):Inv X pins σ (Nz H e) s:=by
 have old:∀ b u,H b=some u->(∀ ψ,u≠.ext ψ)->Nz H e b=some u:=fun b u q n=>by
  rw [Cd fun z=>?_]
  ·exact q
  ·rw [z,he] at q
   exact n φ (Option.some.inj q).symm
 refine ⟨I.ok,I.os,I.bare,⟨I.base.keep,I.base.slot,fun b ob e1 n hx=>oF (I.base.free b ob e1 n hx),I.base.there,fun b xs e1=>old _ _ (I.base.tups b xs e1) (fun _ z=>nomatch z),fun b ob xs e1=>old _ _ (I.base.frzs b ob xs e1) (fun _ z=>nomatch z),fun b ps e1=>?_⟩,I.loc,I.cell,oF I.free,fun x c e1=>oF (I.freeC x c e1),fun p h=>?_,fun b ob e1=>?_,I.len⟩
 ·obtain ⟨more,q⟩:=I.base.tbls b ps e1
  exact ⟨more,old _ _ q (fun _ z=>nomatch z)⟩
 ·obtain ⟨a1,a2,a3⟩:=I.pin p h
  exact ⟨a1,oF a2,a3⟩
 ·have nb:b≠e:=fun z=>by rw [z,Ae] at e1;cases e1
  rw [Cd nb] at e1
  exact (I.hok b ob e1).stay (fun c v _ q=>q) (fun c q=>old _ _ q (fun _ z=>nomatch z)) fun c xs q=>old _ _ q (fun _ z=>nomatch z)
structure ExK (K:PySem.W.Frag) (R:Str) (fs:List Str):Prop where
 put:∀ f,f∈fs->XCl K (aR K R) f
 get:∀ f,f∈fs->XCg K (aR K R) f
theorem ExK.of {R:Str} {C:Addr} {fs:List Str} (e:aR K R=C) (sa:PySem.W.findIn K (.ref C) "__setattr__" = some (some (.builtin "object.__setattr__"))) (ov:Kj K C=true) (hd:PySem.W.hasDictIn K C=true)
  (ga:PySem.W.findIn K (.ref C) "__getattribute__" = some (some (.builtin "BaseException.__getattribute__"))) (gh:PySem.W.findIn K (.ref C) "__getattr__" = some none) (mr:PySem.W.mroIn K C (.type "BaseException")=some true) (no:∀ f,f∈fs->PySem.W.findIn K (.ref C) f=some none):ExK K R fs:=by
 subst e
 exact ⟨fun f hf=>⟨sa,ov,no f hf,hd⟩,fun f hf=>⟨ga,gh,hd,no f hf,mr⟩⟩
def REq (K:PySem.W.Frag) (H:Hp) (D:V->V->Bool->Prop) (x y:V) (b:Bool):Prop:=∃ a c xs ys,x=.ref a/\y=.ref c /\
 ((SqL K H a xs/\SqL K H c ys/\((xs.length≠ys.length/\b=false)∨(xs.length=ys.length/\∃ e:Nat->Bool,(∀ (j:Nat) x' y',xs[j]?=some x'->ys[j]?=some y'->D x' y' (e j))/\b=(List.range xs.length).all e))) ∨
  (SqT K H a xs/\SqT K H c ys/\∃ e:Nat->Bool,(∀ (j:Nat) x' y',xs[j]?=some x'->ys[j]?=some y'->D x' y' (e j))/\b=((List.range (min xs.length ys.length)).all e && xs.length == ys.length)))
def DEq (K:PySem.W.Frag) (H:Hp):Nat->V->V->Bool->Prop
 | 0,x,y,b=>(x=y/\(∃ a,x=.ref a)/\b=true)∨∃ i j,x=.int i/\y=.int j/\b=(i == j)
 | n+1,x,y,b=>((x=y/\(∃ a,x=.ref a)/\b=true)∨∃ i j,x=.int i/\y=.int j/\b=(i == j))∨(x≠y/\REq K H (DEq K H n) x y b)
def rNeD (K:PySem.W.Frag) (n:Nat):R2:=fun x y H Q=>∃ b,REq K H (DEq K H n) x y b/\Q (.bl (!b)) H
theorem aY.ix {us:List Value} (r:aY xs us) {j:Nat} (h:j < us.toArray.size):∃ x,xs[j]?=some x/\aZ x us.toArray[j]:=by
 have hl:=r.length
 have h1:j < us.length:=by simpa using h
 have h2:j < xs.length:=by omega
 obtain ⟨u,e,q⟩:=r.get (i:=j) (x:=xs[j]) (List.getElem?_eq_getElem h2)
 refine ⟨xs[j],List.getElem?_eq_getElem h2,?_⟩
 have e2:us.toArray[j]=u:=by
  obtain ⟨_,z⟩:=List.getElem?_eq_some_iff.mp e
  simpa using z
 rw [e2];exact q
section
variable {X:Cx} {pins:List (Addr×Obj)} {σ:St} {H:Hp} {s:Shared}
theorem rc_of {A:Around} {D:V->V->Bool->Prop} (I:Inv X pins σ H s) (hu:A.units < cLine) (hD:∀ x y u v b,aZ x u->aZ y v->D x y b->SeqAt.EqAt A.in1 s u v b) {x y:V} {u v:Value} {b:Bool} (rx:aZ x u) (ry:aZ y v) (h:REq X.K H D x y b):SeqAt.RcAt A s u v b:=by
 obtain ⟨a,c,xs,ys,rfl,rfl,h⟩:=h
 cases rx
 cases ry
 rcases h with ⟨ha,hc,h⟩ | ⟨ha,hc,e,he,rfl⟩
 ·obtain ⟨i1,r1,p1,_⟩:=I.list ha
  obtain ⟨i2,r2,p2,_⟩:=I.list hc
  have l1:=r1.length
  have l2:=r2.length
  rcases h with ⟨hn,rfl⟩ | ⟨hl,e,he,rfl⟩
  ·exact SeqAt.RcAt.lists_lengths p1.isList p2.isList (by rw [List.size_toArray,List.size_toArray];simp;omega) hu
  ·have q:=SeqAt.RcAt.lists (e:=e) p1.isList p2.isList (by rw [List.size_toArray,List.size_toArray];omega) hu fun j h1 h2=>by
    obtain ⟨x',ex,rx'⟩:=r1.ix h1
    obtain ⟨y',ey,ry'⟩:=r2.ix h2
    exact hD _ _ _ _ _ rx' ry' (he j x' y' ex ey)
   rw [List.size_toArray,← l1] at q
   exact q
 ·obtain ⟨i1,r1,p1,_⟩:=I.tuple ha
  obtain ⟨i2,r2,p2,_⟩:=I.tuple hc
  have l1:=r1.length
  have l2:=r2.length
  have q:=SeqAt.RcAt.tuples (e:=e) p1 p2 hu fun j h1 h2=>by
   obtain ⟨x',ex,rx'⟩:=r1.ix h1
   obtain ⟨y',ey,ry'⟩:=r2.ix h2
   exact hD _ _ _ _ _ rx' ry' (he j x' y' ex ey)
  rw [List.size_toArray,List.size_toArray,← l1,← l2] at q
  exact q
theorem Kk {A:Around} {x y:V} {u v:Value} {b:Bool} (rx:aZ x u) (ry:aZ y v) (h:(x=y/\(∃ a,x=.ref a)/\b=true)∨∃ i j,x=.int i/\y=.int j/\b=(i == j)):SeqAt.EqAt A s u v b:=by
 rcases h with ⟨rfl,⟨a,rfl⟩,rfl⟩ | ⟨i,j,rfl,rfl,rfl⟩
 ·cases rx
  cases ry
  exact SeqAt.EqAt.same _
 ·exact Nh rx ry
theorem Ad (I:Inv X pins σ H s):∀ (n:Nat) (A:Around),A.units+n < cLine->∀ x y u v b,aZ x u->aZ y v->DEq X.K H n x y b->SeqAt.EqAt A s u v b
 | 0,_,_,_,_,_,_,_,rx,ry,h=>Kk rx ry h
 | n+1,A,hu,x,y,u,v,b,rx,ry,h=>by
  rcases h with h | ⟨hne,h⟩
  ·exact Kk rx ry h
  ·have q:=rc_of I (A:=A) (by omega) (fun x y u v b rx ry d=>Ad I n A.in1 (by show A.units+1+n < cLine;omega) x y u v b rx ry d) rx ry h
   obtain ⟨a,c,xs,ys,rfl,rfl,_⟩:=h
   cases rx
   cases ry
   exact SeqAt.EqAt.of_refs (fun z=>hne (by rw [z])) q
end
section
variable {X:Cx}
theorem op_neD (n:Nat) (hu:X.A.units+(n+1) < cLine):OpR X (compareOp .NotEq) (rNeD X.K n):=by
 intro pins s σ H x y v u Q I rx ry h
 obtain ⟨b,⟨a,c,xs,ys,rfl,rfl,h⟩,q⟩:=h
 cases rx
 cases ry
 have hD:=Ad I n X.A.in1 (by show X.A.units+1+n < cLine;omega)
 have hu':X.A.units < cLine:=by omega
 have fin:EP X pins σ Q (.bool (!b)) s:=⟨.bl (!b),H,I,rfl,q⟩
 rcases h with ⟨ha,hc,h⟩ | ⟨ha,hc,e,he,rfl⟩
 ·obtain ⟨i1,r1,p1,_⟩:=I.list ha
  obtain ⟨i2,r2,p2,_⟩:=I.list hc
  have l1:=r1.length
  have l2:=r2.length
  rcases h with ⟨hn,rfl⟩ | ⟨hl,e,he,rfl⟩
  ·exact SeqAt.RcNeAt.lists_lengths p1.isList p2.isList (by rw [List.size_toArray,List.size_toArray];simp;omega) hu' _ _ _ _ fin
  ·have z:=SeqAt.RcNeAt.lists (A:=X.A) (e:=e) p1.isList p2.isList (by rw [List.size_toArray,List.size_toArray];omega) hu' fun j h1 h2=>by
    obtain ⟨x',ex,rx'⟩:=r1.ix h1
    obtain ⟨y',ey,ry'⟩:=r2.ix h2
    exact hD _ _ _ _ _ rx' ry' (he j x' y' ex ey)
   rw [List.size_toArray,← l1] at z
   exact z _ _ _ _ fin
 ·obtain ⟨i1,r1,p1,_⟩:=I.tuple ha
  obtain ⟨i2,r2,p2,_⟩:=I.tuple hc
  have l1:=r1.length
  have l2:=r2.length
  have z:=SeqAt.RcNeAt.tuples (A:=X.A) (e:=e) p1 p2 hu' fun j h1 h2=>by
   obtain ⟨x',ex,rx'⟩:=r1.ix h1
   obtain ⟨y',ey,ry'⟩:=r2.ix h2
   exact hD _ _ _ _ _ rx' ry' (he j x' y' ex ey)
  rw [List.size_toArray,List.size_toArray,← l1,← l2] at z
  exact z _ _ _ _ fin
end
theorem REq.ints {n:Nat} {ns ms:List Int} (h1:SqL K H a (List.map V.int ns)) (h2:SqL K H c (List.map V.int ms)):REq K H (DEq K H n) (.ref a) (.ref c) (decide (ns=ms)):=by
 refine ⟨a,c,_,_,rfl,rfl,.inl ⟨h1,h2,?_⟩⟩
 by_cases hl:ns.length=ms.length
 ·refine .inr ⟨by simp [hl],fun j=>ns.getD j 0 == ms.getD j 0,fun j x y ex ey=>?_,?_⟩
  ·rw [List.getElem?_map] at ex ey
   cases e1:ns[j]? with
   | none=>rw [e1] at ex;cases ex
   | some i1 =>
    cases e2:ms[j]? with
    | none=>rw [e2] at ey;cases ey
    | some i2 =>
     rw [e1] at ex
     rw [e2] at ey
     have x1:=Option.some.inj ex
     have y1:=Option.some.inj ey
     have leaf:(x=y/\(∃ a,x=V.ref a)/\(ns.getD j 0 == ms.getD j 0)=true)∨∃ i k,x=V.int i/\y=V.int k/\(ns.getD j 0 == ms.getD j 0)=(i == k):=.inr ⟨i1,i2,x1.symm,y1.symm,by rw [List.getD_eq_getElem?_getD,List.getD_eq_getElem?_getD,e1,e2];rfl⟩
     cases n with
     | zero=>exact leaf
     | succ n=>exact .inl leaf
  ·have:=Gd ns ms
   rw [List.length_map,← this,hl,Nat.min_self]
   simp
 ·exact .inl ⟨by simpa using hl,decide_eq_false fun z=>hl (by rw [z])⟩
def zF:R2:=fun x y H Q=>∃ a b xs ys,x=.ref a/\y=.ref b/\H a=some (.tup xs)/\H b=some (.tup ys)/\xs.length+ys.length<=sizeLine/\∀ p H',aE H H'->H' p=some (.tup (xs ++ ys))->Q (.ref p) H'
def Sn:V->Option Int->Option Int->Hp->VK->Prop:=fun x lo hi H Q=>∃ a xs,x=.ref a/\H a=some (.tup xs)/\∀ p H',aE H H'->H' p=some (.tup (lY xs lo hi))->Q (.ref p) H'
section
variable {X:Cx}
theorem Bx:OpR X (binaryOp .Add) zF:=by
 intro pins s σ H x y v u Q I rx ry h
 obtain ⟨a,b,xs,ys,rfl,rfl,ha,hb,hz,q⟩:=h
 by_cases hx:xs=[]
 ·subst hx
  cases rx
  cases ry
  obtain ⟨i1,r1,p1,_⟩:=I.tuple (SqT.of ha)
  obtain ⟨i2,r2,p2,_⟩:=I.tuple (SqT.of hb)
  have e1:i1=[]:=by cases r1;rfl
  subst e1
  obtain ⟨⟨cls,dd,data,sl⟩,ho,hc,n,hd⟩:=id p1
  obtain ⟨⟨cls2,dd2,data2,sl2⟩,ho2,hc2,n2,hd2⟩:=id p2
  simp only at hc hd hc2 hd2
  subst hc hd hc2 hd2
  exact concat_meets ⟨_,ho,rfl⟩ ⟨_,ho2,rfl⟩ noFill_tuple_add seq_tuple_add PySem.F.slot_tuple_add PySem.F.entry_tuple_add (PySem.F.args_tuple_add_2 _ _) (tuple_addW0 a b _ _ n n2 dd dd2 sl sl2 (by simp)) ⟨ho,ho2,⟨.ref b,H,I,rfl,q b H (aE.refl H) hb⟩⟩
 ·refine Ts pins s σ H _ _ v u Q I rx ry ⟨a,b,xs,ys,rfl,rfl,SqT.of ha,SqT.of hb,hx,hz,fun e=>?_,fun _ p hp=>q p _ (aE.upd hp) aD⟩
  subst e
  exact q a H (aE.refl H) (by rw [List.append_nil];exact ha)
end
section
variable {prog:Program} {w:World} {A:Around} {E:Value->Shared->Prop} {s:Shared}
open HT in
theorem Fj {t sl:Addr} {items:Array Value} {vl vu:Value} {lo hi:Option Int} {Q:Value->Shared->Prop} (ht:IsTup s.heap t items) (hs:s.heap.IsSliceOf sl vl vu .none) (pl:IsPart vl lo) (pu:IsPart vu hi)
  (hw:sIx items.size 0 lo=0/\sIx items.size items.size hi=items.size) (h:Q (.ref t) s):wpAny (model prog w) A (getItem (.ref t) (.ref sl)) Q E s:=by
 obtain ⟨os,hos,hcs,hds⟩:=id hs
 have hTs:s.TypeIs (.ref sl) "slice":=⟨os,hos,hcs⟩
 unfold getItem
 try with_reducible refine wpAny_holding ?_
 first | refine wpAny_bind (wpAny_pure ?_) | skip
 refine wpAny_bind (wpAny_sequenceKey ht.typeIs (by decide) ?_)
 refine wpAny_bind (wpAny_callSpecial?_slot (name:=Str.ofString "__getitem__") ht.typeIs PyProof.Rows.slot_tuple_getitem
  (wpAny_call_entry PyProof.Rows.slot_tuple_getitem ht.typeIs entry_tuple_getitem ?_ (args_tuple_getitem _ _)))
 show wpAny _ _ (Builtin.Tuple.tupleItemsOf (.ref t) >>= _) _ _ s
 refine wpAny_bind (tupleItemsOf_ ht ?_)
 refine wpAny_bind (wpAny_typeOf hTs ?_)
 rw [if_pos (by decide)]
 refine wpAny_bind (kR hs pl pu ?_)
 have yes:((((sIx items.size 0 lo:Nat):Int) == 0 && (1:Int) == 1 && (sIx items.size items.size hi - sIx items.size 0 lo) == items.size)=true):=by
  rw [hw.1,hw.2];simp
 show wpAny _ _ (if (((sIx items.size 0 lo:Nat):Int) == 0 && (1:Int) == 1 && (sIx items.size items.size hi - sIx items.size 0 lo) == items.size)=true then _ else _) _ _ s
 rw [if_pos yes]
 unfold Builtin.Tuple.tupleIsExact
 refine wpAny_bind (wpAny_bind (wpAny_typeOf ht.typeIs (wpAny_pure ?_)))
 rw [if_pos (by decide)]
 first
  | exact wpAny_bind (wpAny_rule (wpAny_pure ⟨_,rfl,wpAny_pure h⟩))
  | exact wpAny_bind (wpAny_rule (wpAny_bind (wpAny_pure (wpAny_pure ⟨_,rfl,wpAny_pure h⟩))))
  | exact wpAny_bind (wpAny_rule (wpAny_pure h))
end
section
variable {X:Cx}
theorem Ix {lo hi:Option Int} (h:HT.sIx xs.length 0 lo=0/\HT.sIx xs.length xs.length hi=xs.length):lY xs lo hi=xs:=by
 unfold lY
 rw [h.1,h.2,List.drop_zero,Nat.sub_zero,List.take_length]
theorem Jh:SlR X Sn:=by
 intro pins s σ H x v vl vu lo hi sl Q I rx hs pl pu h
 obtain ⟨a,xs,rfl,hx,q⟩:=h
 by_cases hw:HT.sIx xs.length 0 lo=0/\HT.sIx xs.length xs.length hi=xs.length
 ·cases rx
  obtain ⟨its,r,ht,hz⟩:=I.tuple (SqT.of hx)
  have hlen:its.toArray.size=xs.length:=by rw [List.size_toArray];exact r.length.symm
  refine ⟨"tuple",_,PyProof.Rows.slot_tuple_getitem.lookup,ht.typeIs,?_⟩
  exact Fj ht hs pl pu (by rw [hlen];exact hw) ⟨.ref a,H,I,rfl,q a H (aE.refl H) (by rw [Ix hw];exact hx)⟩
 ·exact sl_tup pins s σ H _ v vl vu lo hi sl Q I rx hs pl pu ⟨a,xs,rfl,SqT.of hx,hw,fun p hp=>q p _ (aE.upd hp) aD⟩
end
section
variable {X:Cx} {scope:Scope} {x:Str} {ys:List Str} {caps:List Nat}
theorem jF.cells (S:jF X.env.scope scope X.N x ys caps) (I:Inv X pins σ H s):∀ p∈scope.names,p.2=.free->∃ c,X.env.cells.lookup p.1=some c:=fun p hp hf =>
 I.ok.has p.1 (.inl (S.fr p hp hf))
theorem jF.sub (S:jF X.env.scope scope X.N x ys caps) (I:Inv X pins σ H s) (e:(lW X scope).lookup y=some c):X.env.cells.lookup y=some c :=
 lL (S.cells I) (fun p hp=>absurd hp (by simp)) (y,c) (PySem.mem_of_lookup e)
end
def Oo:List V->Hp->VK->Prop:=fun xs H Q=>∃ p kvs,xs=[.ref p]/\H p=some (.dT kvs)/\Q (.int (kvs.length:Nat)) H
theorem Uh {prog:Program} {w:World} {d:Addr} (hd:(d == sysModules)=false):MeetsIn prog w (Builtin.«dict.__len__» ⟨[.ref d],[]⟩) (fun _ R s=>∃ o es ep,s.heap.get? d=some o/\o.data=.dict es ep/\R (.ok (.ret (.int (es.size:Nat) s.toks))) { s with toks:=s.toks+1 }) :=
 .of_wp fun A R s ⟨o,es,ep,ho,hdat,h⟩=>by
  show wpAny _ _ (dictSize d >>= _) _ _ s;unfold dictSize
  refine wpAny_bind (wpAny_bind (wpAny_dictEntries ho hdat (wpAny_pure ?_)))
  show wpAny _ _ (Builtin.Dict.pendingCount d >>= _) _ _ s;refine wpAny_bind (wpAny_pendingCount_other hd ?_)
  refine wpAny_ret_mkInt ?_;rw [Nat.add_zero];exact h
section
variable {X:Cx}
theorem Nn:fQ X (.builtin "len") Oo:=by
 intro pins s σ H xs us Q I r h
 obtain ⟨p,kvs,rfl,hp,q⟩:=h
 obtain ⟨u,rfl,ru⟩:=sX r
 cases ru
 obtain ⟨z,hd,ys,rel,o,es,ep,ho,hc,hdat,he,_⟩:=dt_of I.hok hp
 have hT:s.TypeIs (.ref p) "dict":=⟨o,ho,hc.1⟩
 have sz:es.size=kvs.length:=by rw [size_of_entries he];exact (Paired.length rel).symm
 have hz:(es.size:Int) < 2 ^ 63:=by rw [sz];rw [sizeLine_eq] at z;omega
 refine Calls.call_function_entry kind_len plain_len entry_len (args_len1 _) ?_
 unfold Builtin.«len»
 refine wpAny_bind (m:=oneArg "len" _) (wpAny_pure ?_)
 refine wpAny_bind (m:=callSpecial? (.ref p) (Str.ofString "__len__")) (wpAny_callSpecial?_slot (name:=Str.ofString "__len__") hT F.slot_dict_len (call_meetsIn F.slot_dict_len hT F.entry_dict_len (F.args_dict_len_1 _) (Uh hd) ⟨o,es,ep,ho,hdat,?_⟩))
 show wpAny _ _ _ _ _ { s with toks:=s.toks+1 }
 refine wpAny_bind (wpAny_holding (wpAny_pure (wpAny_bind (wpAny_letGo ?_))))
 show wpAny _ _ (if ((es.size:Nat):Int) < 0 then _ else _) _ _ _;rw [if_neg (by omega)]
 show wpAny _ _ (if ((es.size:Nat):Int) ≥ 2 ^ 63 then _ else _) _ _ _;rw [if_neg (by omega)]
 refine wpAny_bind (wpAny_mkInt (wpAny_pure ⟨_,rfl,?_⟩))
 exact ⟨.int (kvs.length:Nat),H,(I.tok _).tok _,⟨_,by rw [sz]⟩,q⟩
def isB2 (x:V) (H:Hp) (T:String) (b:Bool):Prop:=isB x H T b∨(∃ p xs,x=.ref p/\H p=some (.lst xs)/\T="list" /\ b=true)
def Dr:List V->Hp->VK->Prop:=fun xs H Q=>∃ x T b,xs=[x,.ty T]/\isB2 x H T b/\Q (.bl b) H
theorem kit_ll (K:PySem.W.Frag):PySem.W.kitOne K (.type "list") (.type "list")=some true:=by rfl
theorem Al:fQ X (.builtin "isinstance") Dr:=by
 intro pins s σ H xs us Q I r h
 obtain ⟨x,T,b,rfl,hb,q⟩:=h
 rcases hb with hb | ⟨p,ys,rfl,hp,rfl,rfl⟩
 ·exact wU pins s σ H _ us Q I r ⟨x,T,b,rfl,hb,q⟩
 ·obtain ⟨u,c,rfl,ru,rc⟩:=zE r
  obtain rfl:c=Value.type "list":=rc
  exact kC I ru (.lst hp) (kit_ll _) fun tk=>⟨.bl true,H,I.tok _,rfl,q⟩
end
structure Ob (K:PySem.W.Frag):Prop where
 cl:Cls K (aR K "Table")
 nM:iE K (aR K "Table") "many"
 nC:iE K (aR K "Table") "cells"
def mE (n:Nat):List Int:=(List.range n).map Int.ofNat
theorem Qh {n k:Nat} (h:k < n):(mE n)[k]?=some (k:Int):=by
 unfold mE;rw [List.getElem?_map,List.getElem?_range h];rfl
theorem mZ (n:Nat):(mE n).length=n:=by unfold mE;rw [List.length_map,List.length_range]
def Dk (ta:TE):TE:=fun σ H Q=>ta σ H fun x H1=>∃ n:Nat,x=.int n/\n<=10000/\∀ p,H1 p=none->Q (.ref p) (upd H1 p (.lst (List.map V.int (mE n))))
theorem mR:∀ {xs:List V} {us:List Value},xs.length=us.length->(∀ (i:Nat) (x:V) (u:Value),xs[i]?=some x->us[i]?=some u->aZ x u)->aY xs us
 | [],[],_,_=>.nil
 | [],_ :: _,h,_=>by simp at h
 | _ :: _,[],h,_=>by simp at h
 | x :: xs,u :: us,h,k=>.cons (k 0 x u rfl rfl) (mR (by simpa using h) fun i x u h1 h2=>k (i+1) x u (by simpa using h1) (by simpa using h2))
section
variable {X:Cx}
theorem Jr {a:Expr} {tl:TE} {p2 pos1 pos2:Pos} (hg1:Gl X "list") (hm1:X.mg "list" = none) (hg2:Gl X "range") (hm2:X.mg "range" = none) (hc:X.calm=true) (hl:PE X a tl)
  (hs1:starEach [.Call (.Name "range" p2) [a] [] pos2] X.env=[(false,eval (.Call (.Name "range" p2) [a] [] pos2) X.env)]:=by rfl) (hs2:starEach [a] X.env=[(false,eval a X.env)]:=by rfl) :
  PE X (.Call (.Name "list" p1) [.Call (.Name "range" p2) [a] [] pos2] [] pos1) (Dk tl):=by
 intro pins s σ H Q I h
 have hA:PA X [a] (aC tl aM):=aA hl aF (by rw [hs2];rfl)
 refine Call_ (jE I hg1 hm1 fD (PyProof.Rows.callWith_type1 (spliced_more ?_ (by rw [hs1];rfl)) hs1 rfl))
 refine Call_ (jE I hg2 hm2 boot_range (PyProof.Rows.callWith_type1 (thn (hA pos2 pins s σ H (fun vs H1=>∃ x,vs=[x]/\∃ n:Nat,x=.int n/\n<=10000/\∀ p,H1 p=none->Q (.ref p) (upd H1 p (.lst (List.map V.int (mE n))))) I ?_) fun us s1 ⟨vs,H1,I1,r1,q1⟩=>?_) hs2 rfl))
 ·show tl σ H fun x H1=>∃ y,[x]=[y]/\_
  have e:(fun (x:V) (H1:Hp)=>∃ y,[x]=[y]/\∃ n:Nat,y=V.int n/\n<=10000/\∀ p,H1 p=none->Q (.ref p) (upd H1 p (.lst (List.map V.int (mE n)))))=fun x H1=>∃ n:Nat,x=V.int n/\n<=10000/\∀ p,H1 p=none->Q (.ref p) (upd H1 p (.lst (List.map V.int (mE n)))):=by
   funext x H1
   exact propext ⟨fun ⟨y,e,r⟩=>by cases e;exact r,fun r=>⟨x,rfl,r⟩⟩
  have h':tl σ H fun x H1=>∃ n:Nat,x=V.int n/\n<=10000/\∀ p,H1 p=none->Q (.ref p) (upd H1 p (.lst (List.map V.int (mE n)))):=h
  rw [← e] at h'
  exact h'
 ·obtain ⟨x,e1,n,e2,hn,q⟩:=q1
  subst e1 e2
  obtain ⟨u,rfl,ru⟩:=sX r1
  obtain ⟨t,rfl⟩:=ru
  refine call_range_1 (spliced_none ?_)
  have hz:Builtin.Range.rangeSize 0 (n:Int) 1=(n:Int):=by rw [rangeSize_one];split <;> omega
  refine call_list_range (I1.ok.hd hc) (IsRange.new ..) (small_one (by decide) (by decide) (by omega) (by omega)) hz (by omega) fun h2 tk acc c' hk hS hacc=>?_
  have kp:∀ c o,s1.heap.get? c=some o->h2.get? c=some o:=fun c o e=>hk c o (Heap.get?_push_of_some _ e)
  have gsz:(s1.heap.push { cls:=.type "range",data:=.fields #[.int 0 s1.toks,.int (n:Int) t,.int 1 (s1.toks+1)] }).objs.size=s1.heap.objs.size+1:=Heap.size_push ..
  have lt:s1.heap.objs.size<=(s1.heap.push { cls:=.type "range",data:=.fields #[.int 0 s1.toks,.int (n:Int) t,.int 1 (s1.toks+1)] }).objs.size:=by rw [gsz];exact Nat.le_succ _
  refine ⟨.ref _,_,I1.laid (t':=tk) (o:=.lst (List.map V.int (mE n))) kp lt ⟨by rw [List.length_map,mZ,sizeLine_eq];omega,acc.toList,c',mR (by rw [List.length_map,mZ,Array.length_toList,hacc.1]) fun i x u h1 h3=>?_,by simpa using hS⟩,rfl,q _ (I1.hok.fresh lt)⟩
  have hi:i < n:=by
   have:=(List.getElem?_eq_some_iff.mp h1).1
   rwa [List.length_map,mZ] at this
  rw [List.getElem?_map,Qh hi] at h1
  cases h1
  obtain ⟨tk',e⟩:=hacc.2 i u (by simpa using h3)
  rw [e]
  exact ⟨tk',by simp⟩
end
theorem KT.mem {kvs:List (List Key×V)} {xs:List (List Key×Addr×Value)} (r:KT H kvs xs):∀ x∈xs,∃ p∈kvs,p.1=x.1/\aZ p.2 x.2.2:=by
 induction r with
 | nil=>intro x hx;exact nomatch hx
 | @cons p q ps qs hq t ih =>
  intro x hx
  rcases List.mem_cons.mp hx with e | hx
  ·subst e;exact ⟨p,List.mem_cons_self ..,hq.1,hq.2.2⟩
  ·obtain ⟨p',m,e⟩:=ih x hx
   exact ⟨p',List.mem_cons_of_mem _ m,e⟩
theorem bt_zip:bootBuiltins "zip" = some (.type "zip"):=by decide +kernel
def Itz (K:PySem.W.Frag) (a b:Addr):It :=
 ⟨fun i H=>∃ xs x ys y,SqL K H a xs/\xs[i]?=some x/\SqL K H b ys/\ys[i]?=some y,
  fun i H v H'=>∃ p x y,v=.ref p/\H p=none/\H'=upd H p (.tup [x,y])/\(∀ xs,SqL K H a xs->xs[i]?=some x)/\(∀ ys,SqL K H b ys->ys[i]?=some y),
  fun i H=>∃ xs ys,SqL K H a xs/\SqL K H b ys/\(xs.length<=i∨ys.length<=i)⟩
def Ge (K:PySem.W.Frag) (t:TA):TI:=fun σ H R=>t σ H fun vs H1=>∃ a b,vs=[.ref a,.ref b]/\(∃ xs,SqL K H1 a xs)/\(∃ ys,SqL K H1 b ys)/\R (Itz K a b) H1
theorem Qe {P:Program} {w:World} {elts:List Expr} {k:Nat} (a b z TI TO i1 i2:Addr) (D:ZipApart z TI TO i1 i2 a b) :
  Le P w K (.Tuple elts k tp) (Itz K a b) [z,TI,TO,i1,i2] z (fun i h=>IsZip h z TI TO .none/\IsPair h TI (.ref i1) (.ref i2)/\(∃ u v,IsPair h TO u v)/\h.IsListIter i1 a i/\h.IsListIter i2 b i) where
 mem:=by simp
 obj:=fun i h st c hc=>by
  obtain ⟨hz,hTI,⟨u,v,hTO⟩,⟨o1,e1,c1,d1⟩,⟨o2,e2,c2,d2⟩⟩:=st
  have q:c=z∨c=TI∨c=TO∨c=i1∨c=i2:=by simpa using hc
  rcases q with rfl | rfl | rfl | rfl | rfl
  ·exact ⟨_,hz,fun v z=>nomatch z⟩
  ·exact ⟨_,hTI,fun v z=>nomatch z⟩
  ·exact ⟨_,hTO,fun v z=>nomatch z⟩
  ·exact ⟨o1,e1,fun v z=>by rw [d1] at z;cases z⟩
  ·exact ⟨o2,e2,fun v z=>by rw [d2] at z;cases z⟩
 keep:=fun i h h' st kp=>by
  obtain ⟨hz,hTI,⟨u,v,hTO⟩,h1,h2⟩:=st
  exact ⟨kp z (by simp) _ hz,kp TI (by simp) _ hTI,⟨u,v,kp TO (by simp) _ hTO⟩,h1.at fun o q=>kp i1 (by simp) o q,h2.at fun o q=>kp i2 (by simp) o q⟩
 item:=by
  intro X hP hw hK hc i pins s σ H E I hf st hg
  subst hP hw hK
  obtain ⟨xs,x,ys,y,hq,hx,hr,hy⟩:=hg
  obtain ⟨its,rv,p,hz'⟩:=I.list hq
  obtain ⟨jts,sv,r,hw'⟩:=I.list hr
  obtain ⟨u,hu,ru⟩:=rv.get hx
  obtain ⟨v,hv,rw'⟩:=sv.get hy
  obtain ⟨hz,hTI,⟨u0,v0,hTO⟩,h1,h2⟩:=st
  refine wpAny_pyNext_zip_item D hz hTI hTO h1 h2 p.isList r.isList (x:=u) (y:=v) (by simpa using hu) (by simpa using hv) fun g a1 a2 a3 a4 a5 a6 kp=>⟨_,rfl,?_⟩
  refine wpAny_letOwnedTupleGo_zip (s:={ s with heap:=g }) a1 fun g2 en sb=>?_
  have sb':Heap.SameBut z g g2:=sb
  have lt:∀ {c:Addr} {o:Obj},s.heap.get? c=some o->c < s.heap.objs.size:=fun e=>Heap.lt_size e
  have lz:=lt hz
  have lTI:=lt hTI
  have lTO:=lt hTO
  have l1:i1 < s.heap.objs.size:=by obtain ⟨_,e,_⟩:=h1;exact lt e
  have l2:i2 < s.heap.objs.size:=by obtain ⟨_,e,_⟩:=h2;exact lt e
  have I1:Inv X pins σ H { s with heap:=g2,toks:=s.toks }:=I.turnedL (ch:=[z,TI,TO,i1,i2]) (fun c o hb q=>by
   have hb':c≠z/\c≠TI/\c≠TO/\c≠i1/\c≠i2:=by simpa using hb
   exact (sb'.2 c hb'.1).trans (kp c o hb'.1 hb'.2.2.1 hb'.2.2.2.1 hb'.2.2.2.2 q)) hf
  have hTn:H s.heap.objs.size=none:=I.hok.fresh (Nat.le_refl _)
  have tup2:g2.get? s.heap.objs.size=some { cls:=.type "tuple",data:=.seq #[u,v] }:=(sb'.2 _ (Nat.ne_of_gt lz)).trans a5
  have I2:Inv X pins σ (upd H s.heap.objs.size (.tup [x,y])) { s with heap:=g2,toks:=s.toks }:=I1.adopt hTn I.sz (Nat.ne_of_gt I.lt) (fun n c q=>by
   obtain ⟨v,z⟩:=I.cell n c q
   exact Nat.ne_of_lt z.lt) (fun q hq=>Nat.ne_of_lt (Heap.lt_size (I.pin q hq).1)) ⟨by show 2<=sizeLine;decide,[u,v],.cons ru (.cons rw' .nil),⟨_,tup2,rfl,_,rfl⟩⟩
  refine ⟨.ref s.heap.objs.size,_,I2,rfl,⟨_,x,y,rfl,hTn,rfl,fun zs hy'=>by rw [I.list_inj hy' hq];exact hx,fun zs hy'=>by rw [I.list_inj hy' hr];exact hy⟩,⟨en,?_,⟨_,_,(sb'.2 _ D.TOz).trans a2⟩,?_,?_⟩,fun c hb=>?_⟩
  ·exact (sb'.2 _ D.TIz).trans (kp _ _ D.TIz D.TITO D.TIi1 D.TIi2 hTI)
  ·obtain ⟨o,q,t⟩:=a3
   exact ⟨o,(sb'.2 _ D.i1z).trans q,t⟩
  ·obtain ⟨o,q,t⟩:=a4
   exact ⟨o,(sb'.2 _ D.i2z).trans q,t⟩
  ·have hb0:=(hf c hb).1
   have q:c=z∨c=TI∨c=TO∨c=i1∨c=i2:=by simpa using hb
   have hlt:c < s.heap.objs.size:=by rcases q with rfl | rfl | rfl | rfl | rfl <;> assumption
   rw [aN (Nat.ne_of_lt hlt)]
   exact hb0
 done:=by
  intro X hP hw hK hc i pins s σ H E I hf st hg
  subst hP hw hK
  obtain ⟨xs,ys,hq,hr,hx⟩:=hg
  obtain ⟨its,rv,p,hz'⟩:=I.list hq
  obtain ⟨jts,sv,r,hw'⟩:=I.list hr
  obtain ⟨hz,hTI,⟨u0,v0,hTO⟩,h1,h2⟩:=st
  have l1:=rv.length
  have l2:=sv.length
  refine wpAny_pyNext_zip_end (I.ok.hd hc) D hz hTI hTO h1 h2 p.isList r.isList (by simp;omega) fun g kp=>⟨rfl,?_⟩
  exact I.turnedL (t':=s.toks) (ch:=[z,TI,TO,i1,i2]) (fun c o hb q=>by
   have hb':c≠z/\c≠TI/\c≠TO/\c≠i1/\c≠i2:=by simpa using hb
   exact kp c o hb'.1 hb'.2.2.1 hb'.2.2.2.1 hb'.2.2.2.2 q) hf
 self:=fun _ _ _ _ _ st h=>wpAny_pyIter_zip st.1 h
theorem Lf {n l1 l2:Nat} (h1:l1 < n) (h2:l2 < n):ZipApart (n+4) (n+2) (n+3) n (n+1) l1 l2:=by
 constructor <;> (intro e;have e2:(_:Nat)=_:=e;omega)
section
variable {X:Cx}
theorem Ha {elts:List Expr} {k:Nat} {a b:Expr} {t:TA} {p pos:Pos} (hg:Gl X "zip") (hm:X.mg "zip" = none) (hl:PA X [a,b] t)
  (he:starEach (a :: [b]) X.env=(false,eval a X.env) :: starEach [b] X.env:=by rfl) (hpl:(backTo pos (starEach [b] X.env)).any (·.1)=false:=by rfl):PI X (.Tuple elts k tp) (.Call (.Name "zip" p) [a,b] [] pos) (Ge X.K t):=by
 intro pins s σ H R I h
 refine wpAny_Call_Name_kw (jE I hg hm bt_zip ?_)
 refine PyProof.Rows.callWith_type1 (thn (hl pos pins s σ H _ I h) fun us s1 ⟨vs,H1,I1,r1,q1⟩=>?_) he hpl
 obtain ⟨l1,l2,e0,⟨xs,hq⟩,⟨ys,hr⟩,q⟩:=q1
 subst e0
 cases r1 with
 | cons ra r1 =>
 cases r1 with
 | cons rb r1 =>
 cases r1
 cases ra
 cases rb
 obtain ⟨its,rv,pl,hz'⟩:=I1.list hq
 obtain ⟨jts,sv,pm,hw'⟩:=I1.list hr
 have lt1:l1 < s1.heap.objs.size:=by obtain ⟨o,e,_⟩:=pl.isList;exact Heap.lt_size e
 have lt2:l2 < s1.heap.objs.size:=by obtain ⟨o,e,_⟩:=pm.isList;exact Heap.lt_size e
 refine call_zip_2 pl.isList pm.isList fun g hz hTI hTO h1 h2 hsz hk=>?_
 refine wpAny_pyIter_zip hz ?_
 have I2:Inv X pins σ H1 { s1 with heap:=g }:=I1.kept (t':=s1.toks) hk
 refine ⟨s1.heap.objs.size+4,[s1.heap.objs.size+4,s1.heap.objs.size+2,s1.heap.objs.size+3,s1.heap.objs.size,s1.heap.objs.size+1],_,Itz X.K l1 l2,H1,rfl,I2,Qe l1 l2 _ _ _ _ _ (Lf lt1 lt2),⟨hz,hTI,⟨_,_,hTO⟩,h1,h2⟩,fun c hc=>?_,q⟩
 have z:c=s1.heap.objs.size+4∨c=s1.heap.objs.size+2∨c=s1.heap.objs.size+3∨c=s1.heap.objs.size∨c=s1.heap.objs.size+1:=by simpa using hc
 have hle:s1.heap.objs.size<=c:=by rcases z with rfl | rfl | rfl | rfl | rfl <;> omega
 exact I1.fpOk hle (I1.hok.fresh hle)
end
theorem Ur {b:Addr} {ys:List V} {tb:TS} {D:gQ} (Pv:Nat->St->Hp->Prop) (h0:Pv 0 σ H) (hl:∀ i σ H,i<=xs.length->Pv i σ H->SqL K H a xs/\SqL K H b ys) (he:xs.length=ys.length)
  (hs:∀ i x y p σ H,xs[i]?=some x->ys[i]?=some y->Pv i σ H->H p=none->g (.ref p) σ (upd H p (.tup [x,y])) fun σ2 H2=>tb { D with nx:=Pv (i+1),ct:=Pv (i+1),bk:=D.nx } σ2 H2) (hd:∀ σ H,Pv xs.length σ H->D.nx σ H) :
  ∃ W:Nat->Nat->St->Hp->Prop,(∃ m,W 0 m σ H)/\∀ i m σ H,W i m σ H ->
   ((Itz K a b).stop i H/\D.nx σ H)∨((Itz K a b).go i H/\∃ N:St->Hp->Prop,(∀ σ' H',N σ' H'->∃ m',m' < m/\W (i+1) m' σ' H')/\∀ x H',(Itz K a b).yld i H x H'->g x σ H' fun σ2 H2=>tb { D with nx:=N,ct:=N,bk:=D.nx } σ2 H2):=by
 refine ⟨fun i m σ H=>m=xs.length - i/\i<=xs.length/\Pv i σ H,⟨xs.length,by simp,Nat.zero_le _,h0⟩,?_⟩
 rintro i m σ H ⟨rfl,hi,p⟩
 obtain ⟨q,r⟩:=hl i σ H hi p
 by_cases hlt:i < xs.length
 ·have hlt2:i < ys.length:=by omega
  refine .inr ⟨⟨xs,xs[i],ys,ys[i],q,by simp [hlt],r,by simp [hlt2]⟩,Pv (i+1),fun σ' H' p'=>⟨xs.length - (i+1),by omega,rfl,hlt,p'⟩,fun x H' y=>?_⟩
  obtain ⟨pp,x',y',e1,e2,e3,y1,y2⟩:=y
  subst e1 e3
  exact hs i x' y' pp σ _ (y1 xs q) (y2 ys r) p e2
 ·have e:i=xs.length:=by omega
  subst e
  exact .inl ⟨⟨xs,ys,q,r,.inl (Nat.le_refl _)⟩,hd σ H p⟩
theorem KT.at {H:Hp} {kvs:List (List Key×V)} {xs:List (List Key×Addr×Value)} (r:KT H kvs xs):∀ (i:Nat) p,kvs[i]?=some p->∃ q,xs[i]?=some q/\p.1=q.1/\H q.2.1=some (.tup (p.1.map kV))/\aZ p.2 q.2.2:=by
 induction r with
 | nil=>intro i p hp;simp at hp
 | @cons p q ps qs hq t ih =>
  intro i p' hp
  cases i with
  | zero=>simp at hp;subst hp;exact ⟨q,rfl,hq⟩
  | succ i=>exact ih i p' (by simpa using hp)
structure dC (FS scope:Scope) (N:List Str) (xs ys:List Str) (caps:List Nat):Prop where
 ncell:∀ y∈scope.names,y.2≠.cell
 kind:scope.kind=.function
 names:∀ y∈scope.names,y.2=.local->scope.names.lookup y.1=some .local
 fr:∀ p∈scope.names,p.2=.free->FS.names.lookup p.1=some .cell
 fk:FS.kind=.function
 cap:∀ p∈ys.zip caps,N[p.2]?=some p.1/\scope.names.lookup p.1=some .free
 len:ys.length=caps.length
def kY (J:It) (σ:St) (k:Nat) (caps:List Nat) (g:TG) (te:TE) (H1:Hp) (fin:List V->Hp->Prop):Prop :=
 ∃ (n:Nat) (W:Nat->List V->Hp->Prop),n<=sizeLine/\W 0 [] H1/\∀ i ys H2,i<=n->ys.length=i->W i ys H2 ->
  (J.stop i H2/\fin ys H2)∨(i < n/\J.go i H2/\∀ x H3,J.yld i H2 x H3->∀ os:St,os.length=k->g x (os ++ bJ σ caps) H3 fun σ2 H4=>(∃ os':St,os'.length=k/\σ2=os' ++ bJ σ caps)/\te σ2 H4 fun y H5=>W (i+1) (ys ++ [y]) H5)
def mJ (wi:TI) (k:Nat) (caps:List Nat) (g:TG) (te:TE):TE:=fun σ H Q=>wi σ H fun J H1=>kY J σ k caps g te H1 fun ys H2=>∀ p,H2 p=none->Q (.ref p) (upd H2 p (.lst ys))
section
variable {X:Cx} {scope:Scope} {xs ys:List Str} {caps:List Nat}
theorem dC.cells (S:dC X.env.scope scope X.N xs ys caps) (I:Inv X pins σ H s):∀ p∈scope.names,p.2=.free->∃ c,X.env.cells.lookup p.1=some c:=fun p hp hf =>
 I.ok.has p.1 (.inl (S.fr p hp hf))
theorem dC.sub (S:dC X.env.scope scope X.N xs ys caps) (I:Inv X pins σ H s) (e:(lW X scope).lookup y=some c):X.env.cells.lookup y=some c :=
 lL (S.cells I) (fun p hp=>absurd hp (by simp)) (y,c) (PySem.mem_of_lookup e)
theorem Inv.enterG {h₁:Heap} {tk:Nat} {pl:List (Addr×Obj)} (S:dC X.env.scope scope X.N xs ys caps) (hcalm:X.calm=true) (I:Inv X pins σ H s)
  (hn:h₁.Ns s.heap.objs.size (fun _=>none)) (keep:∀ b o,s.heap.get? b=some o->h₁.get? b=some o)
  (hex:∀ b∈ex,b < s.heap.objs.size/\b∉frs X.stack/\(∀ y c,X.env.cells.lookup y=some c->c≠b)/\X.base.get? b=none)
  (hpl:∀ p∈pl,s.heap.get? p.1=some p.2/\H p.1=none/\p.1∉frs X.stack/\∀ v,p.2.data≠.cell v) :
  Inv (bU X scope (xs ++ ys) s H ex (X.pn ++ pins)) pl (xs.map (fun _=>none) ++ bJ σ caps) H { s with heap:=h₁,toks:=tk }:=by
 have hL:s.heap.objs.size≠X.env.locals:=Nat.ne_of_gt I.lt
 have hCn:∀ b o,s.heap.get? b=some o->b≠s.heap.objs.size:=fun b o e=>Nat.ne_of_lt (Heap.lt_size e)
 have cellLt:∀ y c,X.env.cells.lookup y=some c->c < s.heap.objs.size:=fun y c e=>by
  obtain ⟨v,z⟩:=I.cell y c e
  exact z.lt
 have cellUp:∀ {c:Addr} {v:Option Value},s.heap.IsCell c v->h₁.IsCell c v:=fun {c v} ⟨o,ho,hd⟩=>⟨o,keep c o ho,hd⟩
 refine ⟨⟨I.ok.mod,S.kind,I.ok.glob,I.ok.blt,Nat.le_refl _,fun y z c h1 h2=>I.ok.inj y z c (S.sub I h1) (S.sub I h2),fun y hy=>?_,fun y c hf _=>?_,fun _=>I.ok.hd hcalm,I.ok.frames,.inl rfl,fun b hb=>?_,I.bs,Nat.le_trans I.ok.bsz I.sz,fun b o e hb=>?_,fun b hb=>(hex b hb).2.1,I.stack,I.stkFree⟩,
  rfl,I.bare,Un.kept keep,⟨_,hn,fun i y v e1 e2 e3=>?_⟩,fun y c e=>?_,I.hok.fresh (Nat.le_refl _),fun y c e=>I.freeC y c (S.sub I e),fun p hp=>?_,I.hok.kept keep,?_⟩
 ·have hy':(y,NameKind.free)∈scope.names:=xG (env:=X.env) S.ncell (by
   rcases hy with hy | hy
   ·exact ⟨_,hy,.inl rfl⟩
   ·exact ⟨_,hy,.inr rfl⟩)
  exact jS (pZ hy')
 ·exact absurd (show false=true from hf) Bool.false_ne_true
 ·exact ⟨Nat.ne_of_lt (hex b hb).1,fun y c e=>(hex b hb).2.2.1 y c (S.sub I e)⟩
 ·have z:=(hex b hb).2.2.2
  have e':X.base.get? b=some o:=e
  rw [z] at e';cases e'
 ·have e1':(xs ++ ys)[i]?=some y:=e1
  obtain ⟨i,e1,e2⟩:∃ i',ys[i']?=some y/\(bJ σ caps)[i']?=some (some v):=by
   by_cases hi:i < xs.length
   ·rw [List.getElem?_append_left (by rw [List.length_map];exact hi),List.getElem?_map,List.getElem?_eq_getElem hi] at e2
    cases e2
   ·rw [List.getElem?_append_right (by omega)] at e1'
    rw [List.getElem?_append_right (by rw [List.length_map];omega),List.length_map] at e2
    exact ⟨_,e1',e2⟩
  obtain ⟨j,hj,hv⟩:∃ j,caps[i]?=some j/\σ[j]?=some (some v):=by
   unfold bJ at e2
   rw [List.getElem?_map] at e2
   cases q:caps[i]? with
   | none=>rw [q] at e2;cases e2
   | some j =>
    rw [q] at e2
    have e3:(σ[j]?).join=some v:=Option.some.inj e2
    cases q2:σ[j]? with
    | none=>rw [q2] at e3;cases e3
    | some w'=>rw [q2] at e3;exact ⟨j,rfl,by rw [show w'=some v from e3] at q2;exact q2⟩
  have hz:(y,j)∈ys.zip caps:=List.mem_of_getElem? (i:=i) (by rw [List.getElem?_zip_eq_some];exact ⟨e1,hj⟩)
  obtain ⟨hN,hf⟩:=S.cap (y,j) hz
  have hcellX:X.env.kindOf y=some .cell:=S.fr (y,.free) (PySem.mem_of_lookup hf) rfl
  obtain ⟨m,hm,hl⟩:=I.loc
  obtain ⟨u,r,l⟩:=hl j y v hN hv (.inr (.inl hcellX))
  refine ⟨u,r,?_⟩
  rcases l with ⟨hk,_⟩ | ⟨_,c,hc,hcell⟩
  ·rw [hcellX] at hk;cases hk
  ·obtain ⟨c',hc'⟩:=jS (pZ (env:=X.env) (cs:=[]) (PySem.mem_of_lookup hf))
   have:=S.sub I hc'
   rw [hc] at this
   cases this
   exact .inr ⟨.inl (rO S.fk hf hcellX),c,hc',cellUp hcell⟩
 ·obtain ⟨v,z⟩:=I.cell y c (S.sub I e)
  exact ⟨v,cellUp z⟩
 ·rcases List.mem_append.mp hp with hp | hp
  ·obtain ⟨a1,a2,a3,a4,a5⟩:=I.pin p hp
   exact ⟨keep _ _ a1,a2,hCn _ _ a1,fun z=>(List.mem_cons.mp (I.stkSub p.1 z)).elim a3 a4,a5⟩
  ·obtain ⟨a1,a2,a4,a5⟩:=hpl p hp
   exact ⟨keep _ _ a1,a2,hCn _ _ a1,a4,a5⟩
 ·show (xs.map (fun _=>none) ++ bJ σ caps).length=(xs ++ ys).length
  rw [List.length_append,List.length_append,List.length_map,bJ,List.length_map,S.len]
end
section
variable {X:Cx} {scope:Scope} {xs ys:List Str} {caps:List Nat} {elt iter tg:Expr} {te:TE} {g:TG} {pos:Pos}
theorem Ag {H2:Hp} {s2:Shared} {J:It} {fp:List Addr} {it:Addr} {tn:Nat->Heap->Prop} {E:Value->Shared->Prop} {fin:List V->Hp->Prop} {RR:Value->Addr->Result->Shared->Prop}
  (hcalm:X.calm=true) (S:dC X.env.scope scope X.N xs ys caps) (hg:∀ s H ex pn,PG (bU X scope (xs ++ ys) s H ex pn) tg g) (he:∀ s H ex pn,PE (bU X scope (xs ++ ys) s H ex pn) elt te)
  (I2:Inv X pins σ H2 s2) (T:Le X.prog X.w X.K tg J fp it tn) (st2:tn 0 s2.heap) (f2:∀ b∈fp,Be X pins H2 b) (rd:kY J σ xs.length caps g te H2 fin)
  (hRR:∀ (C:Addr) (ysV:List V) (its:List Value) (n:Nat) (H8:Hp) (s8:Shared) (m:Str->Option Value),C=s2.heap.objs.size+1->Inv X pins σ H8 s8->H8 s2.heap.objs.size=none->H8 C=none->aY ysV its->ysV.length<=sizeLine ->
   s8.heap.get? s2.heap.objs.size=some (rV its n)->s8.heap.Ns C m->fin ysV H8->RR (.ref s2.heap.objs.size) C (.ok .next) s8) :
  wpAny (model X.prog X.w) X.A (newList []) (fun acc s₃=>wpAny (model X.prog X.w) X.A (newFunctionEnv scope X.env.globals (lW X scope) [] X.env.qual none .none (some X.env)) (fun cenv s₄ =>
   codeAny (model X.prog X.w) X.A (.compStart (.ListComp elt [⟨tg,iter,[],0⟩] scope pos) 0 (.ref it) acc { cenv with scope:=relabel scope X.env }) (RR acc cenv.locals) s₄) E s₃) E s2:=by
 obtain ⟨n0,W,hn0,w0,turn⟩:=rd
 refine wpAny_newObj_type (wpAny_newFunctionEnv S.ncell (by intro y hy;simp at hy) (fun h₁ hns hsb=>?_) S.kind)
 dsimp only at hns hsb ⊢
 generalize hg3:s2.heap.push { cls:=.type "list",dict:=none,data:=.seq ([]:List Value).toArray }=g3 at hns hsb ⊢
 have hC:g3.objs.size=s2.heap.objs.size+1:=by rw [← hg3,Heap.size_push]
 have up3:∀ b o,s2.heap.get? b=some o->g3.get? b=some o:=fun b o e=>hg3 ▸ Heap.get?_push_of_some _ e
 have I3:Inv X pins σ H2 { s2 with heap:=g3 }:=I2.kept (t':=s2.toks) up3
 have keep:∀ b o,g3.get? b=some o->h₁.get? b=some o:=fun b o e=>hsb.extBut b o (Nat.ne_of_lt (Heap.lt_size e)) (Heap.get?_push_of_some _ e)
 have objD:g3.get? s2.heap.objs.size=some (rV [] 0):=hg3 ▸ Heap.get?_push_size _ rfl
 have hDL:s2.heap.objs.size≠X.env.locals:=Nat.ne_of_gt I2.lt
 have hDfs:s2.heap.objs.size∉X.fs:=I2.nofs (Nat.le_refl _)
 have hDst:s2.heap.objs.size∉frs X.stack:=fun z=>(List.mem_cons.mp (I2.stkSub _ z)).elim hDL hDfs
 have hDc:∀ y c,X.env.cells.lookup y=some c->c≠s2.heap.objs.size:=fun y c e=>by
  obtain ⟨v,z⟩:=I2.cell y c e
  exact Nat.ne_of_lt z.lt
 have hDp:∀ p∈X.pn ++ pins,p.1≠s2.heap.objs.size:=fun p hp=>Nat.ne_of_lt (Heap.lt_size (I2.pin p hp).1)
 have hfl:∀ b∈fp,b < s2.heap.objs.size:=fun b hb=>by
  obtain ⟨o,e,_⟩:=T.obj _ _ st2 b hb
  exact Heap.lt_size e
 have hbz:X.base.objs.size<=X.s₀.heap.objs.size:=I2.ok.bsz
 have hch:∀ b∈s2.heap.objs.size :: fp,(b∈X.ex∨X.s₀.heap.objs.size<=b)/\b≠X.env.locals/\(∀ y c,X.env.cells.lookup y=some c->c≠b)/\∀ p∈X.pn ++ pins,p.1≠b:=fun b hb=>by
  rcases List.mem_cons.mp hb with rfl | hb
  ·exact ⟨.inr I2.sz,hDL,hDc,hDp⟩
  ·obtain ⟨a1,a2,a3,a4,a5,a6⟩:=f2 b hb
   exact ⟨a4,a2,a5,a6⟩
 have hex:∀ b∈s2.heap.objs.size :: fp,b < g3.objs.size/\b∉frs X.stack/\(∀ y c,X.env.cells.lookup y=some c->c≠b)/\X.base.get? b=none:=fun b hb=>by
  have hst:b∉frs X.stack:=by
   rcases List.mem_cons.mp hb with rfl | hb
   ·exact hDst
   ·obtain ⟨a1,a2,a3,a4,a5,a6⟩:=f2 b hb
    exact fun z=>(List.mem_cons.mp (I2.stkSub _ z)).elim a2 a3
  have hlt:b < g3.objs.size:=by
   rw [hC]
   rcases List.mem_cons.mp hb with rfl | hb
   ·exact Nat.lt_succ_self _
   ·exact Nat.lt_succ_of_lt (hfl b hb)
  refine ⟨hlt,hst,(hch b hb).2.2.1,?_⟩
  cases q:X.base.get? b with
  | none=>rfl
  | some o =>
   rcases (hch b hb).1 with z | z
   ·exact absurd z (I2.ok.noex b o q)
   ·exact absurd (Nat.lt_of_lt_of_le (Heap.lt_size q) (Nat.le_trans hbz z)) (Nat.lt_irrefl _)
 have hD2:H2 s2.heap.objs.size=none:=I2.hok.fresh (Nat.le_refl _)
 have I4:Inv (bU X scope (xs ++ ys) { s2 with heap:=g3 } H2 (s2.heap.objs.size :: fp) (X.pn ++ pins)) [(s2.heap.objs.size,rV [] 0)] (xs.map (fun _=>none) ++ bJ σ caps) H2 { s2 with heap:=h₁,toks:=s2.toks+([]:List (Str×Value)).length } :=
  Inv.enterG S hcalm I3 hns keep hex fun p hp=>by
   have e:p=(s2.heap.objs.size,rV [] 0):=by simpa using hp
   subst e
   exact ⟨objD,hD2,hDst,fun v z=>nomatch z⟩
 have st4:tn 0 h₁:=T.keep _ _ _ st2 fun b hb o e=>keep b o (up3 b o e)
 generalize hY:bU X scope (xs ++ ys) { s2 with heap:=g3 } H2 (s2.heap.objs.size :: fp) (X.pn ++ pins)=Y at I4
 have yP:Y.prog=X.prog:=by rw [← hY];rfl
 have yW:Y.w=X.w:=by rw [← hY];rfl
 have yK:Y.K=X.K:=by rw [← hY];rfl
 have yA:Y.A=X.A:=by rw [← hY];rfl
 have yC:Y.calm=true:=by rw [← hY];exact hcalm
 have yX:Y.xe=fun _ _=>False:=by rw [← hY];rfl
 have yN:Y.N=xs ++ ys:=by rw [← hY];rfl
 have yE:Y.env=compEnvC scope (lW X scope) g3.objs.size X.env:=by rw [← hY];rfl
 have yex:Y.ex=s2.heap.objs.size :: fp:=by rw [← hY];rfl
 have ypn:Y.pn=X.pn ++ pins:=by rw [← hY];rfl
 have yfs:Y.fs=frs X.stack:=by rw [← hY];rfl
 have ybase:∀ {pl σ' H' s'},Inv Y pl σ' H' s'->Un (frs X.stack) (s2.heap.objs.size :: fp) H2 H' g3 s'.heap/\s'.os=s2.os:=by
  intro pl σ' H' s' I
  rw [← hY] at I
  exact ⟨I.base,I.os⟩
 have yhg:PG Y tg g:=by rw [← hY];exact hg _ _ _ _
 have yhe:PE Y elt te:=by rw [← hY];exact he _ _ _ _
 have ycl:∀ y c,Y.env.cells.lookup y=some c->X.env.cells.lookup y=some c:=fun y c e=>by
  rw [yE] at e
  exact S.sub I2 e
 have yfp:∀ {H':Hp} {o:Obj},(∀ b∈fp,H' b=none)->∀ b∈fp,Be Y [(s2.heap.objs.size,o)] H' b:=fun {H' o} hn b hb=>by
  obtain ⟨a1,a2,a3,a4,a5,a6⟩:=f2 b hb
  refine ⟨hn b hb,?_,?_,?_,fun y c e=>a5 y c (ycl y c e),fun p hp=>?_⟩
  ·rw [yE];exact Nat.ne_of_lt (hex b (List.mem_cons_of_mem _ hb)).1
  ·rw [yfs];exact (hex b (List.mem_cons_of_mem _ hb)).2.1
  ·rw [yex];exact .inl (List.mem_cons_of_mem _ hb)
  ·rw [ypn] at hp
   rcases List.mem_append.mp hp with hp | hp
   ·exact a6 p hp
   ·have e:p=(s2.heap.objs.size,o):=by simpa using hp
    subst e
    exact Nat.ne_of_gt (hfl b hb)
 have loop:∀ s₃:Shared,s₃={ s2 with heap:=h₁,toks:=s2.toks+([]:List (Str×Value)).length } ->
   codeAny (model X.prog X.w) X.A (.compLoop (.ListComp elt [⟨tg,iter,[],0⟩] scope pos) 0 (.ref it) (.ref s2.heap.objs.size) (compEnvC scope (lW X scope) g3.objs.size X.env)) (RR (.ref s2.heap.objs.size) g3.objs.size) s₃:=by
  rintro s₃ rfl
  refine codeAny_loop rfl (fun k s'=>∃ i ysV its cnt H' os,os.length=xs.length/\k=n0+1 - i/\Inv Y [(s2.heap.objs.size,rV its cnt)] (os ++ bJ σ caps) H' s'/\tn i s'.heap/\(∀ b∈fp,H' b=none)/\aY ysV its/\ysV.length=i/\i<=n0/\W i ysV H') ?_ (n0+1)
   ⟨0,[],[],0,H2,xs.map (fun _=>none),by rw [List.length_map],rfl,I4,st4,fun b hb=>(f2 b hb).1,.nil,rfl,Nat.zero_le _,w0⟩
  rintro k s' ⟨i,ysV,its,cnt,H',os,hos,rfl,I',tni,frn,vv,hlen,hin,hw⟩
  show wpAny _ _ ((compTurn (.ListComp elt [⟨tg,iter,[],0⟩] scope pos) 0 (.ref it) (.ref s2.heap.objs.size) (compEnvC scope (lW X scope) g3.objs.size X.env)).onRaise (fun x=>do noteFrame x (compEnvC scope (lW X scope) g3.objs.size X.env);theTreesLotGoes x)) _ _ s'
  refine wpAny_noted ?_
  rw [compTurn_list1]
  have fpok:=yfp (o:=rV its cnt) frn
  rcases turn i ysV H' hin hlen hw with ⟨stop,hfin⟩ | ⟨hlt,go,step⟩
  ·refine wpAny_bind (wpAny_standAt (wpAny_bind (thn (Q:=fun r s1=>r=none/\Inv Y [(s2.heap.objs.size,rV its cnt)] (os ++ bJ σ caps) H' s1) ?_ fun r s1 ⟨hr,I1⟩=>?_)))
   ·have:=T.done Y yP yW yK yC i _ s' _ H' (notedBy (model X.prog X.w) X.A (compEnvC scope (lW X scope) g3.objs.size X.env) fun e s'=>RR (.ref s2.heap.objs.size) g3.objs.size (.error e) s') I' fpok tni stop
    rw [yA] at this
    exact this
   ·subst hr
    refine wpAny_pure ?_
    obtain ⟨ub,uo⟩:=ybase I1
    obtain ⟨m,hm,_⟩:=I1.loc
    obtain ⟨p1,p2,_⟩:=I1.pin (s2.heap.objs.size,rV its cnt) (List.mem_append_right _ List.mem_cons_self)
    have hok:HOk X.prog X.w H' s1.heap:=by have:=I1.hok;rw [yP,yW] at this;exact this
    have hCf:=I1.free
    rw [yE] at hm hCf
    refine hRR g3.objs.size ysV its cnt H' s1 m hC (I3.call' uo ub hok I1.bare hch) p2 hCf vv (by omega) p1 hm hfin
  ·refine wpAny_bind (wpAny_standAt (wpAny_bind (thn (Q:=fun r s1=>∃ u,r=some u/\wpAny (model X.prog X.w) X.A (letOwnedTupleGo tg (.ref it) u) (fun _ s5=>∃ x H5,Inv Y [(s2.heap.objs.size,rV its cnt)] (os ++ bJ σ caps) H5 s5/\aZ x u/\J.yld i H' x H5/\tn (i+1) s5.heap/\∀ b∈fp,H5 b=none)
     (notedBy (model X.prog X.w) X.A (compEnvC scope (lW X scope) g3.objs.size X.env) fun e s'=>RR (.ref s2.heap.objs.size) g3.objs.size (.error e) s') s1) ?_ fun r s1 ⟨u,hr,h4⟩=>?_)))
   ·have:=T.item Y yP yW yK yC i _ s' _ H' (notedBy (model X.prog X.w) X.A (compEnvC scope (lW X scope) g3.objs.size X.env) fun e s'=>RR (.ref s2.heap.objs.size) g3.objs.size (.error e) s') I' fpok tni go
    rw [yA] at this
    exact this
   ·subst hr
    refine wpAny_bind (thn h4 fun _ s5 ⟨xv,H5,I5,r5,y5,st5,fr5⟩=>?_)
    have I5':=I5.pinned (yfp fr5) (T.obj _ _ st5)
    have sto:=yhg _ s5 _ H5 xv u _ I5' r5 (step xv H5 y5 os hos)
    rw [yP,yW,yA,yE] at sto
    refine wpAny_bind (nxE yX sto fun _ s6 ⟨σ6,H6,I6,⟨os',hos',e6⟩,t6⟩=>?_)
    subst e6
    have ev:=yhe _ s6 _ H6 _ I6 t6
    rw [yP,yW,yA,yE] at ev
    refine wpAny_bind (wpAny_bind (nxE yX ev fun yv s7 ⟨y,H7,I7,r7,w7⟩=>?_))
    obtain ⟨zD,hD7,hDl7,hDf7,_⟩:=I7.pin (s2.heap.objs.size,rV its cnt) (List.mem_append_right _ (List.mem_append_left _ List.mem_cons_self))
    have hil:=vv.length
    refine wpAny_bind (append_at zD (fun h8 sb8 d8=>wpAny_pure (wpAny_pure ⟨rfl,?_⟩)) (by rw [List.size_toArray];omega))
    have I7':Inv Y [] (os' ++ bJ σ caps) H7 s7:=I7.pins_of fun p hp=>nomatch hp
    have I8:Inv Y [] (os' ++ bJ σ caps) H7 { s7 with heap:=h8 }:=I7'.turned (t':=s7.toks) (fun b ob hb e=>(sb8.2 b hb).trans e) hD7 hDl7 (.inl (by rw [yex];exact List.mem_cons_self)) (fun y c e=>hDc y c (ycl y c e)) (fun p hp=>by
     rw [ypn,List.append_nil] at hp
     exact hDp p hp)
    have I9:Inv Y [(s2.heap.objs.size,rV (its ++ [yv]) (cnt+1))] (os' ++ bJ σ caps) H7 { s7 with heap:=h8 }:=I8.pins_of fun p hp=>by
     have e:p=(s2.heap.objs.size,rV (its ++ [yv]) (cnt+1)):=by simpa using hp
     subst e
     refine ⟨?_,hD7,hDl7,hDf7,fun v z=>nomatch z⟩
     show h8.get? s2.heap.objs.size=some { cls:=.type "list",data:=.seq (its ++ [yv]).toArray (cnt+1) }
     rw [d8,List.push_toArray]
    refine ⟨n0+1 - (i+1),by omega,i+1,ysV ++ [y],its ++ [yv],cnt+1,H7,os',hos',rfl,I9,?_,?_,vv.append (.cons r7 .nil),by rw [List.length_append,hlen];rfl,hlt,w7⟩
    ·refine T.keep _ _ _ st5 fun b hb ob e=>(sb8.2 b (Nat.ne_of_lt (hfl b hb))).trans ?_
     exact (I7.pin (b,ob) (List.mem_append_right _ (List.mem_append_right _ (lJ hb e)))).1
    ·intro b hb
     obtain ⟨ob,e,_⟩:=T.obj _ _ st5 b hb
     exact (I7.pin (b,ob) (List.mem_append_right _ (List.mem_append_right _ (lJ hb e)))).2.1
 exact codeAny_compStart_list (loop _ rfl) (T.self _ 0 _ _ _ st4 (loop _ rfl))
theorem Ej {RD:St->VK->It->Hp->Prop} (hRD:∀ σ Q J H1,RD σ Q J H1->kY J σ xs.length caps g te H1 fun ys H2=>∀ p,H2 p=none->Q (.ref p) (upd H2 p (.lst ys))) {FS:Scope} (S0:dC FS scope N xs ys caps) (hFS:X.env.scope=FS) (hN0:X.N=N) (hcalm:X.calm=true) (hi:PI X tg iter wi) (hg:∀ s H ex pn,PG (bU X scope (xs ++ ys) s H ex pn) tg g) (he:∀ s H ex pn,PE (bU X scope (xs ++ ys) s H ex pn) elt te)
  (hs:∀ v,foldedSetIterable iter X.env v=pure v:=by intro _;rfl):PE X (.ListComp elt [⟨tg,iter,[],0⟩] scope pos) (fun σ H Q=>wi σ H (RD σ Q)):=by
 have S:dC X.env.scope scope X.N xs ys caps:=by rw [hFS,hN0];exact S0
 intro pins s σ H Q I h
 rw [eval_ListComp]
 refine wpAny_comprehension_free (use:=none) rfl hs (oU (S.cells I)) S.kind S.names (thn (hi pins s σ H _ I h) fun v s1 h1=>thn h1 fun itv s2 h2=>?_)
 obtain ⟨it,fp,tn,J,H2,rfl,I2,T,st2,f2,rd⟩:=h2
 refine Ag (RR:=fun acc C=>compPost (model X.prog X.w) X.A X.xe none (EP X pins σ Q) acc C) hcalm S hg he I2 T st2 f2 (hRD _ _ _ _ rd) ?_
 intro C ysV its n H8 s8 m hC I8 hD hC8 vv hz oD hn fin
 refine ⟨m,hn,fun h' sb=>?_⟩
 have sz:=I2.sz
 have lt:=I2.lt
 have ap:∀ b:Addr,b < s2.heap.objs.size->b≠C/\C≠b:=fun b hb=>by
  subst hC
  exact ⟨Nat.ne_of_lt (Nat.lt_succ_of_lt hb),Nat.ne_of_gt (Nat.lt_succ_of_lt hb)⟩
 have szC:X.s₀.heap.objs.size<=C:=by subst hC;exact Nat.le_succ_of_le sz
 have DC:s2.heap.objs.size≠C:=by subst hC;exact Nat.ne_of_lt (Nat.lt_succ_self _)
 have cl:∀ y c,X.env.cells.lookup y=some c->c < s2.heap.objs.size:=fun y c e=>by
  obtain ⟨w',z⟩:=I2.cell y c e
  exact z.lt
 have pl:∀ p∈X.pn ++ pins,p.1 < s2.heap.objs.size:=fun p hp=>Heap.lt_size (I2.pin p hp).1
 have I9:Inv X pins σ H8 { s8 with heap:=h' }:=I8.turned (t':=s8.toks) (fun b o hb e=>(sb.2 b hb).trans e) hC8 (ap _ lt).2 (.inr szC) (fun y c e=>(ap c (cl y c e)).1) (fun p hp=>(ap p.1 (pl p hp)).1)
 have oD':h'.get? s2.heap.objs.size=some (rV its n):=(sb.2 _ DC).trans oD
 exact ⟨.ref s2.heap.objs.size,upd H8 s2.heap.objs.size (.lst ysV),I9.adopt hD sz (Nat.ne_of_gt lt) (fun y c e=>Nat.ne_of_lt (cl y c e)) (fun p hp=>Nat.ne_of_lt (pl p hp)) ⟨hz,its,n,vv,oD'⟩,rfl,fin _ hD⟩
theorem tT {RD:St->VK->It->Hp->Prop} (hRD:∀ σ Q J H1,RD σ Q J H1->kY J σ xs.length caps g te H1 fun ys H2=>∀ p,H2 p=none->Q (.ref p) (upd H2 p (.lst ys))) {FS:Scope} (S0:dC FS scope N xs ys caps) (hFS:X.env.scope=FS) (hN0:X.N=N) (hcalm:X.calm=true) (hN:X.N.Nodup) (hy:X.N[i]?=some y) (hl:Loc X.env.scope y) (hi:PI X tg iter wi) (hg:∀ s H ex pn,PG (bU X scope (xs ++ ys) s H ex pn) tg g) (he:∀ s H ex pn,PE (bU X scope (xs ++ ys) s H ex pn) elt te)
  (hsw:swapsWith (.ListComp elt [⟨tg,iter,[],0⟩] scope pos) (some (.Name y py)) spos.line X.env=pure true:=by rfl)
  (hs:∀ v,foldedSetIterable iter X.env v=pure v:=by intro _;rfl) (hf:X.fn y=true∨X.env.scope.names.lookup y=some .local:=by first | exact .inl rfl | exact .inr rfl | assumption) :
  PS X (.Assign [.Name y py] (.ListComp elt [⟨tg,iter,[],0⟩] scope pos) spos) (aW (fun σ H Q=>wi σ H (RD σ Q)) (aI i)):=by
 have S:dC X.env.scope scope X.N xs ys caps:=by rw [hFS,hN0];exact S0
 intro pins s σ H D I h
 rw [exec_Assign_Name_used _ _ _ _ hsw]
 refine wpAny_bind (wpAny_standAt (wpAny_bind ?_))
 show wpAny _ X.A (do let _ ← comprehension (.ListComp elt [⟨tg,iter,[],0⟩] scope pos) scope X.env _ (newList []) false (eval iter X.env) (some (assign (.Name y py) X.env))) _ _ s
 refine wpAny_bind (wpAny_mono (wpAny_comprehension_free (use:=some (assign (.Name y py) X.env)) (Q:=fun _ s'=>SP X pins D .next s') rfl hs (oU (S.cells I)) S.kind S.names
  (thn (hi pins s σ H _ I h) fun v s1 h1=>thn h1 fun itv s2 h2=>?_)) (fun _ s' hq=>wpAny_pure (wpAny_pure hq)) fun _ _ e=>e)
 obtain ⟨it,fp,tn,J,H2,rfl,I2,T,st2,f2,rd⟩:=h2
 refine Ag (RR:=fun acc C=>compPost (model X.prog X.w) X.A X.xe (some (assign (.Name y py) X.env)) (fun _ s'=>SP X pins D .next s') acc C) hcalm S hg he I2 T st2 f2 (hRD _ _ _ _ rd) ?_
 intro C ysV its n H8 s8 m hC I8 hD hC8 vv hz oD hn fin
 have sz:=I2.sz
 have lt:=I2.lt
 have ap:∀ b:Addr,b < s2.heap.objs.size->b≠C/\C≠b:=fun b hb=>by
  subst hC
  exact ⟨Nat.ne_of_lt (Nat.lt_succ_of_lt hb),Nat.ne_of_gt (Nat.lt_succ_of_lt hb)⟩
 have szC:X.s₀.heap.objs.size<=C:=by subst hC;exact Nat.le_succ_of_le sz
 have DC:C≠s2.heap.objs.size:=by subst hC;exact Nat.ne_of_gt (Nat.lt_succ_self _)
 have cl:∀ y c,X.env.cells.lookup y=some c->c < s2.heap.objs.size:=fun y c e=>by
  obtain ⟨w',z⟩:=I2.cell y c e
  exact z.lt
 have pl:∀ p∈X.pn ++ pins,p.1 < s2.heap.objs.size:=fun p hp=>Heap.lt_size (I2.pin p hp).1
 have I9:Inv X pins σ (upd H8 s2.heap.objs.size (.lst ysV)) s8:=I8.adopt hD sz (Nat.ne_of_gt lt) (fun y c e=>Nat.ne_of_lt (cl y c e)) (fun p hp=>Nat.ne_of_lt (pl p hp)) ⟨hz,its,n,vv,oD⟩
 show wpAny (model X.prog X.w) X.A (assign (.Name y py) X.env (.ref s2.heap.objs.size)) _ _ s8
 refine wpAny_assign_Name (zR (v:=.ref s2.heap.objs.size) I9 hN hy hl rfl (fun s9 I10 ⟨a,sa,ha⟩=>?_) hf)
 have hCa:C≠a:=by
  rcases ha with rfl | e
  ·exact (ap _ lt).2
  ·exact (ap _ (cl _ _ e)).2
 refine ⟨m,hn.sameBut sa hCa,fun h' sb=>⟨_,_,I10.turned (t':=s9.toks) (fun b o hb e=>(sb.2 b hb).trans e) ?_ (ap _ lt).2 (.inr szC) (fun y c e=>(ap c (cl y c e)).1) (fun p hp=>(ap p.1 (pl p hp)).1),fin _ hD⟩⟩
 rw [aN DC]
 exact hC8
theorem rA {X:Cx} {scope:Scope} {NY:List Str} {pn:List (Addr×Obj)} {px:Pos} (hN:NY.Nodup) (hi:NY[i]?=some x) (hx:scope.names.lookup x=some .local):PG (bU X scope NY s H ex pn) (.Name x px) (aI i) :=
 Jq (X:=bU X scope NY s H ex pn) hN hi (.inl (lookup_relabel_local hx)) (.inr (lookup_relabel_local hx))
theorem jF.toG {FS:Scope} (S:jF FS scope N x ys caps):dC FS scope N [x] ys caps:=⟨S.ncell,S.kind,S.names,S.fr,S.fk,S.cap,S.len⟩
theorem mM.toG {J:It} {te:TE} {H1:Hp} {fin:List V->Hp->Prop}:mM J σ caps te H1 fin->kY J σ 1 caps (aI 0) te H1 fin:=by
 rintro ⟨n,W,hn,h0,h⟩
 refine ⟨n,W,hn,h0,fun i ys H2 hi hy hw=>?_⟩
 rcases h i ys H2 hi hy hw with z | ⟨z1,z2,z3⟩
 ·exact .inl z
 ·refine .inr ⟨z1,z2,fun x H3 y os ho=>?_⟩
  match os,ho with
  | [o],_=>exact ⟨⟨[some x],rfl,rfl⟩,z3 x H3 y⟩
theorem Qx {FS:Scope} (S0:dC FS scope N xs ys caps) (hFS:X.env.scope=FS) (hN0:X.N=N) (hcalm:X.calm=true) (hi:PI X tg iter wi) (hg:∀ s H ex pn,PG (bU X scope (xs ++ ys) s H ex pn) tg g) (he:∀ s H ex pn,PE (bU X scope (xs ++ ys) s H ex pn) elt te)
  (hs:∀ v,foldedSetIterable iter X.env v=pure v:=by intro _;rfl):PE X (.ListComp elt [⟨tg,iter,[],0⟩] scope pos) (mJ wi xs.length caps g te):=Ej (fun _ _ _ _ h=>h) S0 hFS hN0 hcalm hi hg he hs
theorem Fv {FS:Scope} (S0:dC FS scope N xs ys caps) (hFS:X.env.scope=FS) (hN0:X.N=N) (hcalm:X.calm=true) (hN:X.N.Nodup) (hy:X.N[i]?=some y) (hl:Loc X.env.scope y) (hi:PI X tg iter wi) (hg:∀ s H ex pn,PG (bU X scope (xs ++ ys) s H ex pn) tg g) (he:∀ s H ex pn,PE (bU X scope (xs ++ ys) s H ex pn) elt te)
  (hsw:swapsWith (.ListComp elt [⟨tg,iter,[],0⟩] scope pos) (some (.Name y py)) spos.line X.env=pure true:=by rfl)
  (hs:∀ v,foldedSetIterable iter X.env v=pure v:=by intro _;rfl) (hf:X.fn y=true∨X.env.scope.names.lookup y=some .local:=by first | exact .inl rfl | exact .inr rfl | assumption) :
  PS X (.Assign [.Name y py] (.ListComp elt [⟨tg,iter,[],0⟩] scope pos) spos) (aW (mJ wi xs.length caps g te) (aI i)):=tT (RD:=fun σ Q J H1=>kY J σ xs.length caps g te H1 fun ys H2=>∀ p,H2 p=none->Q (.ref p) (upd H2 p (.lst ys))) (fun _ _ _ _ h=>h) S0 hFS hN0 hcalm hN hy hl hi hg he hsw hs hf
end
section
variable {X:Cx} {scope:Scope} {x:Str} {ys:List Str} {caps:List Nat} {elt iter:Expr} {te:TE} {px pos:Pos}
theorem Tr {FS:Scope} (S0:jF FS scope N x ys caps) (hFS:X.env.scope=FS) (hN0:X.N=N) (hcalm:X.calm=true) (hi:PI X (.Name x px) iter wi) (he:∀ s H ex pn,PE (bU X scope (x :: ys) s H ex pn) elt te)
  (hs:∀ v,foldedSetIterable iter X.env v=pure v:=by intro _;rfl):PE X (.ListComp elt [⟨.Name x px,iter,[],0⟩] scope pos) (bP wi caps te):=Ej (xs:=[x]) (g:=aI 0) (fun _ _ _ _ h=>mM.toG h) S0.toG hFS hN0 hcalm hi (fun _ _ _ _=>rA S0.nd rfl S0.loc) he hs
theorem Ib {FS:Scope} (S0:jF FS scope N x ys caps) (hFS:X.env.scope=FS) (hN0:X.N=N) (hcalm:X.calm=true) (hN:X.N.Nodup) (hy:X.N[i]?=some y) (hl:Loc X.env.scope y) (hi:PI X (.Name x px) iter wi) (he:∀ s H ex pn,PE (bU X scope (x :: ys) s H ex pn) elt te)
  (hsw:swapsWith (.ListComp elt [⟨.Name x px,iter,[],0⟩] scope pos) (some (.Name y py)) spos.line X.env=pure true:=by rfl)
  (hs:∀ v,foldedSetIterable iter X.env v=pure v:=by intro _;rfl) (hf:X.fn y=true∨X.env.scope.names.lookup y=some .local:=by first | exact .inl rfl | exact .inr rfl | assumption) :
  PS X (.Assign [.Name y py] (.ListComp elt [⟨.Name x px,iter,[],0⟩] scope pos) spos) (aW (bP wi caps te) (aI i)):=tT (RD:=fun σ Q J H1=>mM J σ caps te H1 fun ys H2=>∀ p,H2 p=none->Q (.ref p) (upd H2 p (.lst ys))) (xs:=[x]) (g:=aI 0) (fun _ _ _ _ h=>mM.toG h) S0.toG hFS hN0 hcalm hN hy hl hi (fun _ _ _ _=>rA S0.nd rfl S0.loc) he hsw hs hf
end
def Dq (K:PySem.W.Frag):List V->Hp->VK->Prop:=fun xs H Q=>∃ p ns,xs=[.ref p]/\SqL K H p (List.map V.int ns)/\ns≠[]/\∀ M,M∈ns->(∀ a∈ns,M<=a)->Q (.int M) H
theorem aY.ints:∀ {ns:List Int} {us:List Value},aY (List.map V.int ns) us->∃ xs:List (Int×Tok),us=xs.map (fun p=>Value.int p.1 p.2)/\xs.map (·.1)=ns
 | [],_,h=>by cases h;exact ⟨[],rfl,rfl⟩
 | n :: ns,_,h=>by
  cases h with
  | cons r t =>
   obtain ⟨tk,rfl⟩:=r
   obtain ⟨xs,e1,e2⟩:=aY.ints t
   exact ⟨(n,tk) :: xs,by rw [e1];rfl,by rw [List.map_cons,e2]⟩
theorem En {xs:List (Int×Tok)} {ns:List Int} (e:xs.map (·.1)=ns) (i:Nat) (h:i < ns.length):∃ n,ns[i]?=some n/\numAt xs.toArray i=n:=by
 have hx:i < xs.length:=by rw [← e,List.length_map] at h;exact h
 refine ⟨xs[i].1,by rw [← e,List.getElem?_map,List.getElem?_eq_getElem hx];rfl,?_⟩
 unfold numAt
 rw [List.getElem?_toArray,List.getElem?_eq_getElem hx]
 rfl
section
variable {X:Cx}
theorem Aj (hc:X.calm=true):fQ X (.builtin "min") (Dq X.K):=by
 intro pins s σ H xs us Q I r h
 obtain ⟨p,ns,rfl,hq,hne,q⟩:=h
 obtain ⟨u,rfl,ru⟩:=sX r
 cases ru
 obtain ⟨its,rv,pl,hz⟩:=I.list hq
 obtain ⟨ps,e1,e2⟩:=rv.ints
 have hl:ps.length=ns.length:=by rw [← e2,List.length_map]
 have hn0:0 < ns.length:=List.length_pos_iff.mpr hne
 have ei:its.toArray=intItems ps.toArray:=by rw [e1];unfold intItems;simp
 have pl':=pl.isList
 rw [ei] at pl'
 refine min_intList (I.ok.hd hc) pl' (by rw [List.size_toArray];omega) fun v h' tk hv hk=>?_
 obtain ⟨t,rfl⟩:=intItems_at hv
 obtain ⟨g1,g2⟩:=argBest_lt (numAt ps.toArray) (ps.toArray.size - 1)
 rw [List.size_toArray] at g1 g2 ⊢
 obtain ⟨M,m1,m2⟩:=En e2 (argBest (fun i j=>decide (numAt ps.toArray i < numAt ps.toArray j)) (ps.length - 1)) (by omega)
 rw [m2] at g2 ⊢
 refine ⟨.int M,H,I.kept hk,⟨_,rfl⟩,q M (List.mem_of_getElem? m1) fun a ha=>?_⟩
 obtain ⟨j,hj,ej⟩:=List.getElem_of_mem ha
 obtain ⟨n,n1,n2⟩:=En e2 j hj
 rw [List.getElem?_eq_getElem hj,ej] at n1
 cases n1
 rw [← n2]
 exact g2 j (by omega)
end
theorem Af {b:Addr} {ys:List V} {k:Nat} {caps:List Nat} {te:TE} {H1:Hp} {fin:List V->Hp->Prop} (W:Nat->List V->Hp->Prop) (hz:xs.length<=sizeLine) (he:xs.length=ys.length) (h0:W 0 [] H1) (hl:∀ i zs H,i<=xs.length->W i zs H->SqL K H a xs/\SqL K H b ys)
  (hs:∀ i x y p zs H,xs[i]?=some x->ys[i]?=some y->zs.length=i->W i zs H->H p=none->∀ os:St,os.length=k->g (.ref p) (os ++ bJ σ caps) (upd H p (.tup [x,y])) fun σ2 H4=>(∃ os':St,os'.length=k/\σ2=os' ++ bJ σ caps)/\te σ2 H4 fun z H5=>W (i+1) (zs ++ [z]) H5)
  (hd:∀ zs H,zs.length=xs.length->W xs.length zs H->fin zs H):kY (Itz K a b) σ k caps g te H1 fin:=by
 refine ⟨xs.length,W,hz,h0,fun i zs H2 hi hy hw=>?_⟩
 obtain ⟨q,r⟩:=hl i zs H2 hi hw
 by_cases hlt:i < xs.length
 ·have hlt2:i < ys.length:=by omega
  refine .inr ⟨hlt,⟨xs,xs[i],ys,ys[i],q,by simp [hlt],r,by simp [hlt2]⟩,fun x H3 y os ho=>?_⟩
  obtain ⟨pp,x',y',e1,e2,e3,y1,y2⟩:=y
  subst e1 e3
  exact hs i x' y' pp zs _ (y1 xs q) (y2 ys r) hy hw e2 os ho
 ·have e:i=xs.length:=by omega
  subst e
  exact .inl ⟨⟨xs,ys,q,r,.inl (Nat.le_refl _)⟩,hd zs H2 hy hw⟩
def rIsN:R2:=fun x y H Q=>y=.non/\Q (.bl (decide (x=.non))) H
section
variable {X:Cx}
def Su (K:PySem.W.Frag):List V->Hp->VK->Prop:=fun xs H Q=>∃ p ys,xs=[.ref p,.ty "tuple"]/\SqT K H p ys/\Q (.bl true) H
theorem Sf:fQ X (.builtin "isinstance") (Su X.K):=by
 intro pins s σ H xs us Q I r h
 obtain ⟨p,ys,rfl,hq,q⟩:=h
 obtain ⟨u,c,rfl,ru,rc⟩:=zE r
 obtain rfl:c=Value.type "tuple":=rc
 obtain rfl:u=Value.ref p:=ru
 obtain ⟨its,r',⟨o,h1,h2,_⟩,hz⟩:=I.tuple hq
 exact PySem.W.kia_one PySem.W.kitx_tuple I.kIn ⟨o,h1,h2⟩ (Pp _) (fun z=>nomatch z) fun tk=>⟨.bl true,H,I.tok _,rfl,q⟩
end
structure vI (FS scope:Scope) (N:List Str) (x:Str) (ys:List Str) (caps:List Nat):Prop where
 cf:∀ n acc,cellsFrom n scope.names acc=(x,n) :: acc
 pc:∀ h,pushCells h scope.names=h.push { cls:=.type "cell",data:=.cell none }
 only:∀ y∈scope.names,y.2=.cell->y.1=x
 xc:scope.names.lookup x=some .cell
 kind:scope.kind=.function
 names:∀ y∈scope.names,y.2=.local->scope.names.lookup y.1=some .local
 fr:∀ p∈scope.names,p.2=.free->FS.names.lookup p.1=some .cell
 xf:∀ p∈scope.names,p.2=.free->p.1≠x
 fk:FS.kind=.function
 cap:∀ p∈ys.zip caps,N[p.2]?=some p.1/\scope.names.lookup p.1=some .free
 len:ys.length=caps.length
 nd:(x :: ys).Nodup
section
variable {X:Cx} {scope:Scope} {x:Str} {ys:List Str} {caps:List Nat}
theorem vI.cells (S:vI X.env.scope scope X.N x ys caps) (I:Inv X pins σ H s):∀ p∈scope.names,p.2=.free->∃ c,X.env.cells.lookup p.1=some c:=fun p hp hf =>
 I.ok.has p.1 (.inl (S.fr p hp hf))
theorem vI.sub (S:vI X.env.scope scope X.N x ys caps) (I:Inv X pins σ H s) (e:(lW X scope).lookup y=some c):X.env.cells.lookup y=some c :=
 lL (S.cells I) (fun p hp=>absurd hp (by simp)) (y,c) (PySem.mem_of_lookup e)
end
structure mC (K:PySem.W.Frag) (x qual:Str) (st:Stmt) (df:Value) (f:Addr) (fd:FuncData):Prop where
 ex:∃ (oc:Value) (od:Option Addr) (kV doc pm:Value) (an:Option Addr) (cdv ct:Value) (osl:Array (Option Value)),
  fd=PySem.W.fnOf x qual (eU st) (cJ st) (aP st) df kV doc pm an cdv ct/\K.lookup f=some ⟨oc,od,.func fd,osl⟩/\PySem.W.codeIn K cdv qual=true
 kp:PySem.W.keepIn K (.ref f)=true
section
variable {P:Program} {w:World} {K:PySem.W.Frag} {mg:Str->Option Value} {base:Heap} {x qual:Str} {st:Stmt} {df:Value} {f:Addr} {fd:FuncData} {N ps:List Str} {k:Nat} {sp:Sp}
theorem mC.okX (F:mC K x qual st df f fd) (S:gL N ps (aP st)) (len:∀ vs H Q E,sp vs H Q E->vs.length=ps.length)
  (hbody:∀ (cdv:Value) (A:Around) (outer:List Env) (s:Shared) (H:Hp) (vs:List V) (Q:VK) (E:XK),cV k (A.deeper (envOfC qual (aP st) s.heap.objs.size f cdv))->sp vs H Q E ->
   ∃ t,PSs (jD (CXF P w) P w K mg base N qual (aP st) f cdv A outer s H E) (cJ st) t/\t { nx:=fun _ H'=>Q .non H',rt:=Q } (start N vs) H):fT P w K mg base (CXF P w) (k+1) f fd ps sp:=by
 obtain ⟨oc,od,kV,doc,pm,an,cdv,ct,osl,rfl,lk,hcd⟩:=F.ex
 exact Ja lk hcd S len fun A outer s H vs Q E hr hsp=>hbody cdv A outer s H vs Q E hr hsp
theorem mC.binds (F:mC K x qual st df f fd) (h:∀ (kV doc pm:Value) (an:Option Addr) (cdv ct:Value) (us:List Value),us.length=ps.length->bindArgs (PySem.W.fnOf x qual (eU st) (cJ st) (aP st) df kV doc pm an cdv ct) ⟨us,[]⟩=pure (ps.zip us)):gW K fd ps []:=by
 obtain ⟨oc,od,kV,doc,pm,an,cdv,ct,osl,rfl,lk,hcd⟩:=F.ex
 exact .all (h kV doc pm an cdv ct)
theorem mC.bindsD {T:Addr} {o:Obj} {items:Array Value} {n:Nat} (F:mC K x qual st (.ref T) f fd) (lT:K.lookup T=some o) (hd:o.data=.seq items n)
  (h:∀ (kV doc pm:Value) (an:Option Addr) (cdv ct:Value) (us:List Value),us.length=ps.length->∃ k,bindArgs (PySem.W.fnOf x qual (eU st) (cJ st) (aP st) (.ref T) kV doc pm an cdv ct) ⟨us,[]⟩=seqItems? (.ref T) >>= k/\k (some items)=pure (ps.zip us)):gW K fd ps []:=by
 obtain ⟨oc,od,kV,doc,pm,an,cdv,ct,osl,rfl,lk,hcd⟩:=F.ex
 intro s us hK hl
 rw [List.append_nil] at hl ⊢
 obtain ⟨k,h1,h2⟩:=h kV doc pm an cdv ct us hl
 exact BindsTo.of_defaults rfl (hK _ _ lT) hd h1 h2
end
theorem KT.keys {kvs:List (List Key×V)} {xs:List (List Key×Addr×Value)} (r:KT H kvs xs):kvs.map (·.1)=xs.map (·.1):=by
 induction r with
 | nil=>rfl
 | cons h t ih=>rw [List.map_cons,List.map_cons,ih,h.1]
structure Dh (K:PySem.W.Frag):Prop where
 cl:Cls K (aR K "Side")
 nr:iE K (aR K "Side") "rows"
 ni:iE K (aR K "Side") "inside"
 nl:iE K (aR K "Side") "listed"
def fS (a n:Nat):List Int:=(List.range n).map fun k=>((a+k:Nat):Int)
theorem Ei {a n k:Nat} (h:k < n):(fS a n)[k]?=some ((a+k:Nat):Int):=by
 unfold fS;rw [List.getElem?_map,List.getElem?_range h];rfl
theorem cW (a n:Nat):(fS a n).length=n:=by unfold fS;rw [List.length_map,List.length_range]
def Gs (ta:TA):TE:=fun σ H Q=>ta σ H fun vs H1=>∃ a n:Nat,vs=[.int a,.int (a+n:Nat)]/\a+n<=10000/\∀ p,H1 p=none->Q (.ref p) (upd H1 p (.lst (List.map V.int (fS a n))))
section
variable {X:Cx}
theorem Qt {a b:Expr} {ta:TA} {p2 pos1 pos2:Pos} (hg1:Gl X "list") (hm1:X.mg "list" = none) (hg2:Gl X "range") (hm2:X.mg "range" = none) (hc:X.calm=true) (ha:PA X [a,b] ta)
  (hs1:starEach [.Call (.Name "range" p2) [a,b] [] pos2] X.env=[(false,eval (.Call (.Name "range" p2) [a,b] [] pos2) X.env)]:=by rfl) (hs:starEach [a,b] X.env=[(false,eval a X.env),(false,eval b X.env)]:=by rfl) (hs2:starEach [b] X.env=[(false,eval b X.env)]:=by rfl) :
  PE X (.Call (.Name "list" p1) [.Call (.Name "range" p2) [a,b] [] pos2] [] pos1) (Gs ta):=by
 intro pins s σ H Q I h
 refine Call_ (jE I hg1 hm1 fD (PyProof.Rows.callWith_type1 (spliced_more ?_ (by rw [hs1];rfl)) hs1 rfl))
 refine Call_ (jE I hg2 hm2 boot_range (PyProof.Rows.callWith_type1 (thn (ha pos2 pins s σ H _ I h) fun us s1 ⟨vs,H1,I1,r1,q1⟩=>?_) (by rw [hs,hs2]) (by rw [hs2];rfl)))
 obtain ⟨lo,n,e1,hn,q⟩:=q1
 subst e1
 cases r1 with
 | cons r rr =>
  cases rr with
  | cons r' rr =>
   cases rr
   obtain ⟨t,rfl⟩:=r
   obtain ⟨t',rfl⟩:=r'
   refine call_range_2 (spliced_none ?_)
   have hz:Builtin.Range.rangeSize (lo:Int) ((lo+n:Nat):Int) 1=(n:Int):=by rw [rangeSize_one];split <;> omega
   refine call_list_range (I1.ok.hd hc) (IsRange.new ..) (small_one (by omega) (by omega) (by omega) (by omega)) hz (by omega) fun h2 tk acc c' hk hS hacc=>?_
   have kp:∀ c o,s1.heap.get? c=some o->h2.get? c=some o:=fun c o e=>hk c o (Heap.get?_push_of_some _ e)
   have lt:s1.heap.objs.size<=(s1.heap.push { cls:=.type "range",data:=.fields #[.int (lo:Int) t,.int ((lo+n:Nat):Int) t',.int 1 s1.toks] }).objs.size:=by rw [Heap.size_push];exact Nat.le_succ _
   refine ⟨.ref _,_,I1.laid (t':=tk) (o:=.lst (List.map V.int (fS lo n))) kp lt ⟨by rw [List.length_map,cW,sizeLine_eq];omega,acc.toList,c',mR (by rw [List.length_map,cW,Array.length_toList,hacc.1]) fun i x u h1 h3=>?_,by simpa using hS⟩,rfl,q _ (I1.hok.fresh lt)⟩
   have hi:i < n:=by
    have:=(List.getElem?_eq_some_iff.mp h1).1
    rwa [List.length_map,cW] at this
   rw [List.getElem?_map,Ei hi] at h1
   cases h1
   obtain ⟨tk',e⟩:=hacc.2 i u (by simpa using h3)
   rw [e]
   exact ⟨tk',by simp⟩
end
def iB (st:Stmt):List Str:=(eU st).args.map (·.arg)
def uI (N:List Str) (caps:List Nat):List Str:=caps.filterMap fun i=>N[i]?
structure Rm (X:Cx) (k:Nat) (N:List Str) (st:Stmt):Prop where
 r:cV k X.A
 nd:N.Nodup
 sc:X.env.scope=aP st
 nn:X.N=N
 calm:X.calm=true
structure Ok (P:Program) (w:World) (K:PySem.W.Frag) (mg:Str->Option Value) (base:Heap) (CX:CXT) (k:Nat) (x:Str) (sp:Sp):Prop where
 ex:∃ f fd ps,fT P w K mg base CX k f fd ps sp/\mg x=some (.ref f)/\PySem.W.keepIn K (.ref f)=true/\gW K fd ps []
structure OkM (P:Program) (w:World) (K:PySem.W.Frag) (mg:Str->Option Value) (base:Heap) (CX:CXT) (k:Nat) (C:Addr) (m:Str) (sp:Sp):Prop where
 ex:∃ f fd ps,fT P w K mg base CX k f fd ps sp/\Oc K C m f/\gW K fd ps []
structure Df (K:PySem.W.Frag) (mg:Str->Option Value) (x:Str) (st:Stmt):Prop where
 ex:∃ df f fd,mC K x x st df f fd/\gW K fd (iB st) []/\mg x=some (.ref f)
structure Mf (K:PySem.W.Frag) (c m q:Str) (st:Stmt):Prop where
 ex:∃ f fd,mC K m q st .none f fd/\gW K fd (iB st) []/\Oc K (aR K c) m f
section
variable {P:Program} {w:World} {K:PySem.W.Frag} {mg:Str->Option Value} {base:Heap} {x qual:Str} {st:Stmt} {df:Value} {f:Addr} {fd:FuncData} {N ps:List Str} {k:Nat} {sp:Sp}
theorem mC.ok0 (F:mC K x qual st df f fd) (S:gL N ps (aP st)) (len:∀ vs H Q E,sp vs H Q E->vs.length=ps.length)
  (hbody:∀ (cdv:Value) (A:Around) (outer:List Env) (s:Shared) (H:Hp) (vs:List V) (Q:VK) (E:XK),cV k (A.deeper (envOfC qual (aP st) s.heap.objs.size f cdv))->sp vs H Q E ->
   ∃ t,PSs (jD CX0 P w K mg base N qual (aP st) f cdv A outer s H E).nox (cJ st) t/\t { nx:=fun _ H'=>Q .non H',rt:=Q } (start N vs) H):fT P w K mg base CX0 (k+1) f fd ps sp:=by
 obtain ⟨oc,od,kV,doc,pm,an,cdv,ct,osl,rfl,lk,hcd⟩:=F.ex
 refine Ja lk hcd S len fun A outer s H vs Q E hr hsp=>?_
 obtain ⟨t,h,q⟩:=hbody cdv A outer s H vs Q E hr hsp
 exact ⟨t,h.nox,q⟩
abbrev Bd0 (P:Program) (w:World) (K:PySem.W.Frag) (mg:Str->Option Value) (base:Heap) (N:List Str) (qual:Str) (st:Stmt) (k:Nat) (sp:Sp):Prop :=
 ∀ {f:Addr} {cdv:Value} {A:Around} {outer:List Env} {s:Shared} {H:Hp} {vs:List V} {Q:VK} {E:XK},Rm (jD CX0 P w K mg base N qual (aP st) f cdv A outer s H E).nox k N st->sp vs H Q E ->
  ∃ t:TS,t { nx:=fun _ H'=>Q .non H',rt:=Q } (start N vs) H/\PSs (jD CX0 P w K mg base N qual (aP st) f cdv A outer s H E).nox (cJ st) t
abbrev BdX (P:Program) (w:World) (K:PySem.W.Frag) (mg:Str->Option Value) (base:Heap) (N:List Str) (qual:Str) (st:Stmt) (k:Nat) (sp:Sp):Prop :=
 ∀ {f:Addr} {cdv:Value} {A:Around} {outer:List Env} {s:Shared} {H:Hp} {vs:List V} {Q:VK} {E:XK},Rm (jD (CXF P w) P w K mg base N qual (aP st) f cdv A outer s H E) k N st->sp vs H Q E ->
  ∃ t:TS,t { nx:=fun _ H'=>Q .non H',rt:=Q } (start N vs) H/\PSs (jD (CXF P w) P w K mg base N qual (aP st) f cdv A outer s H E) (cJ st) t
theorem Df.ok (D:Df K mg x st) (b:Bd0 P w K mg base N x st k sp) (len:∀ {vs H Q E},sp vs H Q E->vs.length=(iB st).length:=by intro _ _ _ _ h;repeat (first | (obtain ⟨rfl,_⟩:=h;rfl) | obtain ⟨_,h⟩:=h))
  (S:gL N (iB st) (aP st):=by exact ⟨rfl,rfl,rfl,by decide +kernel,rfl,by decide +kernel,by decide +kernel⟩):Ok P w K mg base CX0 (k+1) x sp :=
 let ⟨_,f,fd,F,hb,hm⟩:=D.ex
 ⟨f,fd,_,F.ok0 S (fun _ _ _ _ h=>len h) fun cdv A outer s H vs Q E hr h=>let ⟨t,q,p⟩:=b (f:=f) (cdv:=cdv) (outer:=outer) ⟨hr,S.nd,rfl,rfl,rfl⟩ h;⟨t,p,q⟩,hm,F.kp,hb⟩
theorem mC.fn (F:mC K x x st df f fd) (b:Bd0 P w K mg base N x st k sp) (len:∀ {vs H Q E},sp vs H Q E->vs.length=(iB st).length:=by intro _ _ _ _ h;repeat (first | (obtain ⟨rfl,_⟩:=h;rfl) | obtain ⟨_,h⟩:=h))
  (S:gL N (iB st) (aP st):=by exact ⟨rfl,rfl,rfl,by decide +kernel,rfl,by decide +kernel,by decide +kernel⟩):fT P w K mg base CX0 (k+1) f fd (iB st) sp :=
 F.ok0 S (fun _ _ _ _ h=>len h) fun cdv A outer s H vs Q E hr h=>let ⟨t,q,p⟩:=b (f:=f) (cdv:=cdv) (outer:=outer) ⟨hr,S.nd,rfl,rfl,rfl⟩ h;⟨t,p,q⟩
theorem Df.okX (D:Df K mg x st) (b:BdX P w K mg base N x st k sp) (len:∀ {vs H Q E},sp vs H Q E->vs.length=(iB st).length:=by intro _ _ _ _ h;repeat (first | (obtain ⟨rfl,_⟩:=h;rfl) | obtain ⟨_,h⟩:=h))
  (S:gL N (iB st) (aP st):=by exact ⟨rfl,rfl,rfl,by decide +kernel,rfl,by decide +kernel,by decide +kernel⟩):Ok P w K mg base (CXF P w) (k+1) x sp :=
 let ⟨_,f,fd,F,hb,hm⟩:=D.ex
 ⟨f,fd,_,F.okX S (fun _ _ _ _ h=>len h) fun cdv A outer s H vs Q E hr h=>let ⟨t,q,p⟩:=b (f:=f) (cdv:=cdv) (outer:=outer) ⟨hr,S.nd,rfl,rfl,rfl⟩ h;⟨t,p,q⟩,hm,F.kp,hb⟩
theorem Mf.ok {c m:Str} (D:Mf K c m qual st) (b:Bd0 P w K mg base N qual st k sp) (len:∀ {vs H Q E},sp vs H Q E->vs.length=(iB st).length:=by intro _ _ _ _ h;repeat (first | (obtain ⟨rfl,_⟩:=h;rfl) | obtain ⟨_,h⟩:=h))
  (S:gL N (iB st) (aP st):=by exact ⟨rfl,rfl,rfl,by decide +kernel,rfl,by decide +kernel,by decide +kernel⟩):OkM P w K mg base CX0 (k+1) (aR K c) m sp :=
 let ⟨f,fd,F,hb,hm⟩:=D.ex
 ⟨f,fd,_,F.ok0 S (fun _ _ _ _ h=>len h) fun cdv A outer s H vs Q E hr h=>let ⟨t,q,p⟩:=b (f:=f) (cdv:=cdv) (outer:=outer) ⟨hr,S.nd,rfl,rfl,rfl⟩ h;⟨t,p,q⟩,hm,hb⟩
end
section
variable {X:Cx} {k j:Nat} {C:Addr} {sp:Sp} {E:XK} {x m c:Str} {p pos apos:Pos} {e o:Expr} {es:List Expr} {ta:TE} {t:TA}
theorem c0 (F:Ok X.prog X.w X.K X.mg X.base CX0 k x sp) (hr:cV j X.A) (ha:PA X (e :: es) t) (hk:k<=j:=by decide) (hg:Gl X x:=by rfl) (hdb:(x == ("__debug__" : Str))=false:=by decide) (he:starEach (e :: es) X.env=(false,eval e X.env) :: starEach es X.env:=by rfl) (hpl:(backTo pos (starEach es X.env)).any (·.1)=false:=by rfl) :
  PE X (.Call (.Name x p) (e :: es) [] pos) (aU sp [] E0 t) :=
 let ⟨_,_,_,F,hm,hp,hb⟩:=F.ex
 Jt F (hr.mono hk) hg hm hp hb .nil Iz ha hdb he hpl
theorem cN (F:Ok X.prog X.w X.K X.mg X.base (CXF X.prog X.w) k x sp) (hr:cV j X.A) (ha:PA X (e :: es) t) (hk:k<=j:=by decide) (hg:Gl X x:=by rfl) (hdb:(x == ("__debug__" : Str))=false:=by decide) (he:starEach (e :: es) X.env=(false,eval e X.env) :: starEach es X.env:=by rfl) (hpl:(backTo pos (starEach es X.env)).any (·.1)=false:=by rfl) :
  PE X (.Call (.Name x p) (e :: es) [] pos) (aU sp [] E0 t) :=
 let ⟨_,_,_,F,hm,hp,hb⟩:=F.ex
 Jt F (hr.mono hk) hg hm hp hb .nil passN ha hdb he hpl
theorem cX (F:Ok X.prog X.w X.K X.mg X.base (CXF X.prog X.w) k x sp) (hr:cV j X.A) (ha:PA X.nox (e :: es) t) (hk:k<=j:=by decide) (hg:Gl X x:=by rfl) (hdb:(x == ("__debug__" : Str))=false:=by decide) (he:starEach (e :: es) X.env=(false,eval e X.env) :: starEach es X.env:=by rfl) (hpl:(backTo pos (starEach es X.env)).any (·.1)=false:=by rfl) :
  PEx X (.Call (.Name x p) (e :: es) [] pos) (fun E=>aU sp [] E t) :=
 let ⟨_,_,_,F,hm,hp,hb⟩:=F.ex
 Qr F (hr.mono hk) hg hm hp hb ha hdb he hpl
theorem m1 {pl:Sem Bool} (he:PE X o ta) (c:Cls X.K C) (F:OkM X.prog X.w X.K X.mg X.base CX0 k C m sp) (hr:cV j X.A) (ha:PA X (e :: es) t) (hk:k<=j:=by decide)
  (hst:starEach (e :: es) X.env=(false,eval e X.env) :: starEach es X.env:=by rfl) (hpl:(backTo pos (starEach es X.env)).any (·.1)=false:=by rfl)
  (ht:eval (.Call (.Attribute o m apos) (e :: es) [] pos) X.env=(do
   let ov ← eval o X.env
   standAt apos.atName
   let (f,first) ← holding [ov] (getMethod ov m pl)
   callWith pos f first (backTo pos (starEach (e :: es) X.env)) (backToKw pos (keywordEach [] X.env))):=by rfl) :
  PE X (.Call (.Attribute o m apos) (e :: es) [] pos) (eN C m sp [] E0 ta t) :=
 let ⟨_,_,_,F,hm,hb⟩:=F.ex
 Tp he c hm F (hr.mono hk) hb .nil Iz ha hst hpl ht
theorem m0 {pl:Sem Bool} (he:PE X o ta) (c:Cls X.K C) (F:OkM X.prog X.w X.K X.mg X.base CX0 k C m sp) (hr:cV j X.A) (hk:k<=j:=by decide)
  (ht:eval (.Call (.Attribute o m apos) [] [] pos) X.env=(do
   let ov ← eval o X.env
   standAt apos.atName
   let (f,first) ← holding [ov] (getMethod ov m pl)
   callWith pos f first (backTo pos (starEach [] X.env)) (backToKw pos (keywordEach [] X.env))):=by rfl) :
  PE X (.Call (.Attribute o m apos) [] [] pos) (eN C m sp [] E0 ta aM) :=
 let ⟨_,_,_,F,hm,hb⟩:=F.ex
 Qs he c hm F (hr.mono hk) hb .nil Iz ht
theorem mk0 (M:PySem.W.makesIn X.K C=true/\PySem.W.keepIn X.K (.ref C)=true) (F:OkM X.prog X.w X.K X.mg X.base CX0 k C "__init__" sp) (hr:cV j X.A) (hm:X.mg x=some (.ref C)) (ha:PA X (e :: es) t) (hk:k+1<=j:=by decide) (hg:Gl X x:=by rfl) (hdb:(x == ("__debug__" : Str))=false:=by decide)
  (he:starEach (e :: es) X.env=(false,eval e X.env) :: starEach es X.env:=by rfl) (hpl:(backTo pos (starEach es X.env)).any (·.1)=false:=by rfl):PE X (.Call (.Name x p) (e :: es) [] pos) (tD C sp [] E0 t) :=
 let ⟨_,_,_,F,hi,hb⟩:=F.ex
 Tq ⟨M.1,hi.at_,hi.fn,M.2⟩ F (hr.mono hk) hg hm hb .nil Iz ha hdb he hpl
end
section
variable {X:Cx} {k:Nat} {N:List Str} {st:Stmt} {i j:Nat} {x y:Str} {px py pos tp:Pos} {iter e elt tst:Expr} {body:List Stmt} {scope:Scope} {caps:List Nat} {te:TE} {tt:TT} {wi:TI} {tb:TS}
theorem sA (R:Rm X k N st) (he:PE X e te) (hi:N[i]?=some x:=by rfl) (hx:Loc (aP st) x:=by first | exact .inl rfl | exact .inr rfl) (hs:swapsWith e (some (.Name x px)) pos.line X.env=pure false:=by rfl) (hf:X.fn x=true∨X.env.scope.names.lookup x=some .local:=by first | exact .inl rfl | exact .inr rfl) :
  PS X (.Assign [.Name x px] e pos) (aW te (aI i)):=Pc (by rw [R.nn];exact R.nd) (by rw [R.nn];exact hi) (by rw [R.sc];exact hx) he hs hf
theorem gN (R:Rm X k N st) (hi:N[i]?=some x:=by rfl) (hx:Loc (aP st) x:=by first | exact .inl rfl | exact .inr rfl) (hf:X.fn x=true∨X.env.scope.names.lookup x=some .local:=by first | exact .inl rfl | exact .inr rfl):PG X (.Name x px) (aI i) :=
 Jq (by rw [R.nn];exact R.nd) (by rw [R.nn];exact hi) (by rw [R.sc];exact hx) hf
theorem gN2 {n:Nat} (R:Rm X k N st) (hi:N[i]?=some x:=by rfl) (hx:Loc (aP st) x:=by first | exact .inl rfl | exact .inr rfl) (hf:X.fn x=true∨X.env.scope.names.lookup x=some .local:=by first | exact .inl rfl | exact .inr rfl)
  (hj:N[j]?=some y:=by rfl) (hy:Loc (aP st) y:=by first | exact .inl rfl | exact .inr rfl) (hg:X.fn y=true∨X.env.scope.names.lookup y=some .local:=by first | exact .inl rfl | exact .inr rfl)
  (hst:(assignEach [.Name x px,.Name y py] X.env).findIdx? (·.1)=none:=by rfl):PG X (.Tuple [.Name x px,.Name y py] n tp) (oH X.K 2 (cO (aI i) (cO (aI j) oI))) :=
 Pe (n:=2) R.calm (qZ (gN R hi hx hf) (qZ (gN R hj hy hg) Jp)) rfl hst
theorem fA {tg:Expr} (R:Rm X k N st) (hi:PI X tg iter wi) (hg:PG X tg g) (hb:PSs X body tb) (hp:PassesOwn (model X.prog X.w) X.A X.env X.xe:=by first | exact PassesOwn.never | exact PassesOwn.leaving) (hs:∀ x,foldedSetIterable iter X.env x=pure x:=by intro _;rfl) :
  PS X (.For tg iter body [] pos) (cH wi g tb):=ps_for hp R.calm hi hg hb hs
theorem wA {c:Expr} {tc:TT} (hc:PT X c tc) (hb:PSs X body tb) (hp:PassesOwn (model X.prog X.w) X.A X.env X.xe:=by first | exact PassesOwn.never | exact PassesOwn.leaving):PS X (.While c body [] pos) (rZ tc tb):=Qn hp hc hb
theorem kA (R:Rm X k N st) (hi:PI X (.Name x px) iter wi) (he:∀ s H ex pn,PE (bU X scope (x :: uI N caps) s H ex pn) elt te) (hs:∀ v,foldedSetIterable iter X.env v=pure v:=by intro _;rfl)
  (S:jF (aP st) scope N x (uI N caps) caps:=by exact ⟨by decide +kernel,rfl,by decide +kernel,rfl,by decide +kernel,rfl,by decide +kernel,rfl,by decide +kernel⟩):PE X (.ListComp elt [⟨.Name x px,iter,[],0⟩] scope pos) (bP wi caps te) :=
 Tr S R.sc R.nn R.calm hi he hs
theorem sK (R:Rm X k N st) (hi:PI X (.Name x px) iter wi) (he:∀ s H ex pn,PE (bU X scope (x :: uI N caps) s H ex pn) elt te) (hs:∀ v,foldedSetIterable iter X.env v=pure v:=by intro _;rfl)
  (S:jF (aP st) scope N x (uI N caps) caps:=by exact ⟨by decide +kernel,rfl,by decide +kernel,rfl,by decide +kernel,rfl,by decide +kernel,rfl,by decide +kernel⟩) (hj:N[j]?=some y:=by rfl) (hy:Loc (aP st) y:=by first | exact .inl rfl | exact .inr rfl)
  (hsw:swapsWith (.ListComp elt [⟨.Name x px,iter,[],0⟩] scope pos) (some (.Name y py)) tp.line X.env=pure true:=by rfl) (hf:X.fn y=true∨X.env.scope.names.lookup y=some .local:=by first | exact .inl rfl | exact .inr rfl) :
  PS X (.Assign [.Name y py] (.ListComp elt [⟨.Name x px,iter,[],0⟩] scope pos) tp) (aW (bP wi caps te) (aI j)) :=
 Ib S R.sc R.nn R.calm (by rw [R.nn];exact R.nd) (by rw [R.nn];exact hj) (by rw [R.sc];exact hy) hi he hsw hs hf
theorem g2 {pn:List (Addr×Obj)} {ys:List Str} {n:Nat} (hc:X.calm=true) (nd:(x :: y :: ys).Nodup) (hx:scope.names.lookup x=some .local) (hy:scope.names.lookup y=some .local) (hst:(assignEach [.Name x px,.Name y py] (bU X scope (x :: y :: ys) s H ex pn).env).findIdx? (·.1)=none) :
  PG (bU X scope ([x,y] ++ ys) s H ex pn) (.Tuple [.Name x px,.Name y py] n tp) (oH X.K 2 (cO (aI 0) (cO (aI 1) oI))) :=
 Pe (n:=2) hc (qZ (rA nd rfl hx) (qZ (rA nd rfl hy) Jp)) rfl hst
theorem kG {n:Nat} (R:Rm X k N st) (hi:PI X (.Tuple [.Name x px,.Name y py] n tp) iter wi) (he:∀ s H ex pn,PE (bU X scope ([x,y] ++ uI N caps) s H ex pn) elt te) (hs:∀ v,foldedSetIterable iter X.env v=pure v:=by intro _;rfl)
  (S:dC (aP st) scope N [x,y] (uI N caps) caps:=by exact ⟨by decide +kernel,rfl,by decide +kernel,by decide +kernel,rfl,by decide +kernel,rfl⟩) (nd:(x :: y :: uI N caps).Nodup:=by decide +kernel) (hx:scope.names.lookup x=some .local:=by rfl) (hy:scope.names.lookup y=some .local:=by rfl)
  (hst:∀ s H ex pn,(assignEach [.Name x px,.Name y py] (bU X scope (x :: y :: uI N caps) s H ex pn).env).findIdx? (·.1)=none:=by intro _ _ _ _;rfl):PE X (.ListComp elt [⟨.Tuple [.Name x px,.Name y py] n tp,iter,[],0⟩] scope pos) (mJ wi 2 caps (oH X.K 2 (cO (aI 0) (cO (aI 1) oI))) te) :=
 Qx S R.sc R.nn R.calm hi (fun s H ex pn=>g2 R.calm nd hx hy (hst s H ex pn)) he hs
theorem sG {n:Nat} {z:Str} {pz ap:Pos} (R:Rm X k N st) (hi:PI X (.Tuple [.Name x px,.Name y py] n tp) iter wi) (he:∀ s H ex pn,PE (bU X scope ([x,y] ++ uI N caps) s H ex pn) elt te) (hs:∀ v,foldedSetIterable iter X.env v=pure v:=by intro _;rfl)
  (S:dC (aP st) scope N [x,y] (uI N caps) caps:=by exact ⟨by decide +kernel,rfl,by decide +kernel,by decide +kernel,rfl,by decide +kernel,rfl⟩) (nd:(x :: y :: uI N caps).Nodup:=by decide +kernel) (hx:scope.names.lookup x=some .local:=by rfl) (hy:scope.names.lookup y=some .local:=by rfl)
  (hst:∀ s H ex pn,(assignEach [.Name x px,.Name y py] (bU X scope (x :: y :: uI N caps) s H ex pn).env).findIdx? (·.1)=none:=by intro _ _ _ _;rfl) (hj:N[j]?=some z:=by rfl) (hz:Loc (aP st) z:=by first | exact .inl rfl | exact .inr rfl)
  (hsw:swapsWith (.ListComp elt [⟨.Tuple [.Name x px,.Name y py] n tp,iter,[],0⟩] scope pos) (some (.Name z pz)) ap.line X.env=pure true:=by rfl) (hf:X.fn z=true∨X.env.scope.names.lookup z=some .local:=by first | exact .inl rfl | exact .inr rfl) :
  PS X (.Assign [.Name z pz] (.ListComp elt [⟨.Tuple [.Name x px,.Name y py] n tp,iter,[],0⟩] scope pos) ap) (aW (mJ wi 2 caps (oH X.K 2 (cO (aI 0) (cO (aI 1) oI))) te) (aI j)) :=
 Fv S R.sc R.nn R.calm (by rw [R.nn];exact R.nd) (by rw [R.nn];exact hj) (by rw [R.sc];exact hz) hi (fun s H ex pn=>g2 R.calm nd hx hy (hst s H ex pn)) he hsw hs hf
end
structure Rn (X:Cx) (N:List Str) (st:Stmt):Prop where
 nd:N.Nodup
 sc:X.env.scope=aP st
 nn:X.N=N
theorem sN {X:Cx} {st:Stmt} {px pos:Pos} {e:Expr} {te:TE} (R:Rn X N st) (he:PE X e te) (hi:N[i]?=some x:=by rfl) (hx:Loc (aP st) x:=by first | exact .inl rfl | exact .inr rfl) (hs:swapsWith e (some (.Name x px)) pos.line X.env=pure false:=by rfl) (hf:X.fn x=true∨X.env.scope.names.lookup x=some .local:=by first | exact .inl rfl | exact .inr rfl) :
  PS X (.Assign [.Name x px] e pos) (aW te (aI i)):=Pc (by rw [R.nn];exact R.nd) (by rw [R.nn];exact hi) (by rw [R.sc];exact hx) he hs hf
theorem tA {X:Cx} {k:Nat} {st:Stmt} {te:XK->TE} {ts:TS} {c c0:Value} {cx n:Str} {j:Nat} {e:Expr} {s0:Stmt} {suite:List Stmt} {np hp:Pos} (R:Rm X k N st) (hm:X.mg cx=some c) (hmt:PySem.W.exmOne X.K c0 c=some true) (he:PEx X e te) (hs:∀ a,Rn ((X.inx a).nox) N st->PSs ((X.inx a).nox) (s0 :: suite) ts)
  (hst:X.stack=X.env :: X.outer:=by rfl) (hfr:X.env.frame=some X.env.locals:=by rfl) (hex:X.ex=[]:=by rfl) (hg:Gl X cx:=by rfl) (hj:N[j]?=some n:=by rfl) (hn:(aP st).names.lookup n=some .local:=by rfl)
  (hdb:(cx == ("__debug__" : Str))=false:=by decide) (hsw:swapsWith e none p1.line X.env=pure false:=by rfl) :
  PS X (.Try [.Expr e p1] [.ExceptHandler (some (.Name cx np)) (some n) (s0 :: suite) hp] [] [] tp) (Sl te c0 j ts) :=
 ps_try he (fun a=>hs a ⟨R.nd,R.sc,R.nn⟩) hst hfr hex hg hm hmt (by rw [R.nn];exact R.nd) (by rw [R.nn];exact hj) (by rw [R.sc];exact hn) hdb hsw
section
variable {K:PySem.W.Frag} {h:Heap} {mg:Str->Option Value} {x m q c:Str} {st:Stmt} {f C:Addr} {oc kV dc pm cd ct:Value} {od an:Option Addr} {sl:Array (Option Value)}
theorem ar1 (h:∀ a,P [a]):∀ us:List Value,us.length=1->P us
 | [],e=>nomatch e
 | [a],_=>h a
 | _ :: _ :: _,e=>nomatch e
theorem ar2 (h:∀ a b,P [a,b]):∀ us:List Value,us.length=2->P us
 | [],e=>nomatch e
 | a :: us,e=>ar1 (P:=fun l=>P (a :: l)) (h a) us (Nat.succ.inj e)
theorem ar3 (h:∀ a b c,P [a,b,c]):∀ us:List Value,us.length=3->P us
 | [],e=>nomatch e
 | a :: us,e=>ar2 (P:=fun l=>P (a :: l)) (h a) us (Nat.succ.inj e)
theorem ar4 (h:∀ a b c d,P [a,b,c,d]):∀ us:List Value,us.length=4->P us
 | [],e=>nomatch e
 | a :: us,e=>ar3 (P:=fun l=>P (a :: l)) (h a) us (Nat.succ.inj e)
theorem ar5 (h:∀ a b c d e,P [a,b,c,d,e]):∀ us:List Value,us.length=5->P us
 | [],e=>nomatch e
 | a :: us,e=>ar4 (P:=fun l=>P (a :: l)) (h a) us (Nat.succ.inj e)
abbrev Bnd (x q:Str) (st:Stmt):Prop:=∀ (kV doc pm:Value) (an:Option Addr) (cdv ct:Value) (us:List Value),us.length=(iB st).length->bindArgs (PySem.W.fnOf x q (eU st) (cJ st) (aP st) .none kV doc pm an cdv ct) ⟨us,[]⟩=pure ((iB st).zip us)
theorem Df.mk' (X:K.In h) (G:h.Ns mainGlobals mg) (a:PySem.W.nsIn K mainGlobals x=some (some (.ref f))) (l:K.lookup f=some ⟨oc,od,.func (PySem.W.fnOf x x (eU st) (cJ st) (aP st) .none kV dc pm an cd ct),sl⟩) (c:PySem.W.codeIn K cd x=true) (k:PySem.W.keepIn K (.ref f)=true)
  (b:Bnd x x st:=by first | exact fun _ _ _ _ _ _=>L2.ar1 fun _=>rfl | exact fun _ _ _ _ _ _=>L2.ar2 fun _ _=>rfl | exact fun _ _ _ _ _ _=>L2.ar3 fun _ _ _=>rfl | exact fun _ _ _ _ _ _=>L2.ar4 fun _ _ _ _=>rfl | exact fun _ _ _ _ _ _=>L2.ar5 fun _ _ _ _ _=>rfl):Df K mg x st :=
 have F:mC K x x st .none f _:=⟨⟨oc,od,kV,dc,pm,an,cd,ct,sl,rfl,l,c⟩,k⟩
 ⟨_,f,_,F,F.binds b,PySem.W.mg_of X G a⟩
theorem Mf.mk' (y:PySem.W.nsIn K mainGlobals c=some (some (.ref C))) (a:PySem.W.findIn K (.ref C) m=some (some (.ref f))) (i:PySem.W.isFn K (.ref f)=true) (l:K.lookup f=some ⟨oc,od,.func (PySem.W.fnOf m q (eU st) (cJ st) (aP st) .none kV dc pm an cd ct),sl⟩) (cc:PySem.W.codeIn K cd q=true) (k:PySem.W.keepIn K (.ref f)=true)
  (b:Bnd m q st:=by first | exact fun _ _ _ _ _ _=>L2.ar1 fun _=>rfl | exact fun _ _ _ _ _ _=>L2.ar2 fun _ _=>rfl | exact fun _ _ _ _ _ _=>L2.ar3 fun _ _ _=>rfl | exact fun _ _ _ _ _ _=>L2.ar4 fun _ _ _ _=>rfl | exact fun _ _ _ _ _ _=>L2.ar5 fun _ _ _ _ _=>rfl):Mf K c m q st :=
 have F:mC K m q st .none f _:=⟨⟨oc,od,kV,dc,pm,an,cd,ct,sl,rfl,l,cc⟩,k⟩
 ⟨f,_,F,F.binds b,by rw [bO y];exact ⟨a,i,k⟩⟩
theorem law_mk (X:K.In h) (G:h.Ns mainGlobals mg) (a:PySem.W.nsIn K mainGlobals x=some (some (.ref f))) (l:K.lookup f=some ⟨oc,od,.func (PySem.W.fnOf x x (eU st) (cJ st) (aP st) .none kV dc pm an cd ct),sl⟩) (c:PySem.W.codeIn K cd x=true) (k:PySem.W.keepIn K (.ref f)=true):∃ f fd,mC K x x st .none f fd/\mg x=some (.ref f) :=
 ⟨f,_,⟨⟨oc,od,kV,dc,pm,an,cd,ct,sl,rfl,l,c⟩,k⟩,PySem.W.mg_of X G a⟩
theorem Df.mkD {T:Addr} {o:Obj} {items:Array Value} {n:Nat} (X:K.In h) (G:h.Ns mainGlobals mg) (a:PySem.W.nsIn K mainGlobals x=some (some (.ref f))) (l:K.lookup f=some ⟨oc,od,.func (PySem.W.fnOf x x (eU st) (cJ st) (aP st) (.ref T) kV dc pm an cd ct),sl⟩) (c:PySem.W.codeIn K cd x=true) (k:PySem.W.keepIn K (.ref f)=true) (lT:K.lookup T=some o) (hd:o.data=.seq items n)
  (b:∀ (kV doc pm:Value) (an:Option Addr) (cdv ct:Value) (us:List Value),us.length=(iB st).length->∃ k,bindArgs (PySem.W.fnOf x x (eU st) (cJ st) (aP st) (.ref T) kV doc pm an cdv ct) ⟨us,[]⟩=seqItems? (.ref T) >>= k/\k (some items)=pure ((iB st).zip us)):Df K mg x st :=
 have F:mC K x x st (.ref T) f _:=⟨⟨oc,od,kV,dc,pm,an,cd,ct,sl,rfl,l,c⟩,k⟩
 ⟨_,f,_,F,F.bindsD lT hd b,PySem.W.mg_of X G a⟩
theorem gi_mk {i:Int} {t:Tok} (X:K.In h) (G:h.Ns mainGlobals mg) (z:PySem.W.nsIn K mainGlobals x=some (some (.int i t))):∃ t,mg x=some (.int i t):=⟨_,PySem.W.mg_of X G z⟩
theorem cls_mk (X:K.In h) (G:h.Ns mainGlobals mg) (y:PySem.W.nsIn K mainGlobals c=some (some (.ref C))):mg c=some (.ref (aR K c)):=by rw [bO y];exact PySem.W.mg_of X G y
theorem mkc_mk (y:PySem.W.nsIn K mainGlobals c=some (some (.ref C))) (a:PySem.W.makesIn K C=true) (b:PySem.W.keepIn K (.ref C)=true):PySem.W.makesIn K (aR K c)=true/\PySem.W.keepIn K (.ref (aR K c))=true:=by rw [bO y];exact ⟨a,b⟩
end
section
variable {X:Cx} {x:Str} {pos:Pos} {a b:Expr} {ta tb:TE} {i:Nat}
theorem pV (hN:X.N[i]?=some x:=by rfl) (hv:Vis X.env.scope x:=by first | exact Or.inl rfl | exact Or.inr (Or.inl rfl) | exact Or.inr (Or.inr rfl)) (hd:(x == ("__debug__" : Str))=false:=by decide) (hcd:(x == ("__classdict__" : Str))=false:=by decide):PE X (.Name x pos) (aB i):=pe_var hN hv hd hcd
theorem iL (ha:PE X a ta) (hb:PE X b tb) (hs:Cj b:=by exact fun _ _=>rfl):PE X (.Subscript a b pos) (tOp (bW X.K) ta tb):=pe_ix Uk ha hb hs
theorem iT (ha:PE X a ta) (hb:PE X b tb) (hs:Cj b:=by exact fun _ _=>rfl):PE X (.Subscript a b pos) (tOp (dL X.K) ta tb):=pe_ix ix_tup ha hb hs
end
end L2
namespace L2
open PySem PySem.Spec PySem.Calls PyProof.Rows PySem.W PySem.W.X in
theorem walk_x {q:Program} {loose:List Str} {XP:(Str->Option Value)->Heap->Prop} {K:Params->PySem.W.Frag} {as:List Addr} {n t:Nat} {r:PySem.W.RowW} {d:DefRec} {kwd:List (Str×Expr)} {run:Value->List Value->Sem Value}
  (e:∀ P,as=(K P).map (·.1)) (W:PySem.W.WalkO q loose XP (fun w h=>(K w.params).In h) r d kwd run):WalkX q loose XP (obsZ as) (valZ K n t) r d kwd run :=
 fun w s₀ s₁ mg mb G y a o pm cd doc dV kV h1 h2 h3 h4 h5 h6 args vals as' L h7 h8 h9 h10 h11 =>
  W w s₀ s₁ mg mb G (InK.keeps w _ _ (z_facts e y).2.1 L.keeps) a o pm cd doc dV kV h1 h2 h3 h4 h5 h6 args vals as' h7 h8 h9 h10 h11
end L2
set_option Elab.async false
set_option maxRecDepth 100000
set_option maxHeartbeats 4000000
set_option linter.all false
namespace My
open PySem L2
open List (length_map map_append getElem?_eq_getElem mem_of_getElem? getD_eq_getElem?_getD getElem_mem getElem?_map mem_append mem_singleton getElem?_eq_none mem_cons_of_mem mem_map length_append mem_cons_self take_length getElem?_of_mem length_take getElem?_set length_set map_congr_left mem_or_eq_of_mem_set mem_of_mem_take getElem?_append_left getElem?_append_right map_eq_nil_iff map_take take_of_length_le)
variable {C a d hd lb o0 o1 sl x1 x2:Addr} {E:XK} {G H H' H0:Hp} {M N c h i j lo m p q u:Nat} {ad ad3:Nat->Addr} {cs ks qs:List (List Nat)} {e:List Nat->Nat->Int×Int} {f g:Int×Int} {ff:Nat->Nat->Int×Int} {ga gb:Nat->Int×Int} {ns:List Nat} {o:HO} {pa:Nat->Nat->Addr} {ps ps1 ps2 rps:List Addr} {rs:List (List Int)} {s:Nat->Nat} {sc x y z:Int} {us:List Int} {v:Nat->Int} {vs:List Nd} {α:Type} {σ τ:Nd}
theorem sz0:0<=sizeLine:=by decide
theorem sz1:1<=sizeLine:=by decide
theorem sz2:2<=sizeLine:=by decide
theorem sz3:3<=sizeLine:=by decide
theorem Lq0 {a:α} {l:List α}:(a::l)[0]?=some a:=rfl
theorem Lq1 {a:α} {l:List α}:(a::l)[i+1]?=l[i]?:=rfl
theorem Ls0 {a b:α} {l:List α}:(a::l).set 0 b=b::l:=rfl
theorem Ls1 {a b:α} {l:List α}:(a::l).set (i+1) b=a::l.set i b:=rfl
theorem Lca {a:α} {l k:List α}:a::l++k=a::(l++k):=rfl
theorem Lna {k:List α}:[]++k=k:=rfl
local macro_rules | `(tactic| dsimp! [$xs,*]) => `(tactic| (try dsimp only [$xs,*, Lq0, Lq1, Ls0, Ls1, cC, cD, cB]; try simp only [$xs,*, Lq0, Lq1, Ls0, Ls1, Option.some.injEq, exists_eq_left', V.int.injEq, V.ref.injEq, V.bl.injEq, List.cons.injEq, and_true, true_and, exists_and_left, exists_eq_left, and_assoc, cC, cD, cB, cQ, iD, dY]))
local macro_rules | `(tactic| dsimp? [$xs,*]) => `(tactic| (try dsimp only [$xs,*, aQ, aW, aI, aB, tC, tOp, tUn, rI0, rI, rU, gU, qD, dH, eO, Oi, eJ, vO, vP, rS, rLeI, yQ, So, rEq, rNe, cI, aX, dU, bA, tB, vJ, bS, aU, aC, aM, fR, jC, tCB, Bc, lZ, Dg, tSl, sY, iQ, Lb, bW, dL, qC, tOrV, La, tOr, sZ, Kz, fU, oH, cO, oI, Lq0, Lq1, Ls0, Ls1, Lca, Lna, cC, cD, cB]; try simp only [$xs,*, aQ, aW, aI, aB, tC, tOp, tUn, rI0, rI, rU, gU, qD, dH, eO, Oi, eJ, vO, vP, rS, rLeI, yQ, So, rEq, rNe, cI, aX, dU, bA, tB, vJ, bS, aU, aC, aM, fR, jC, tCB, Bc, lZ, Dg, tSl, sY, iQ, Lb, bW, dL, qC, tOrV, La, tOr, sZ, Kz, fU, oH, cO, oI, Lq0, Lq1, Ls0, Ls1, Option.some.injEq, exists_eq_left', exists_eq_left, V.int.injEq, V.ref.injEq, V.bl.injEq, V.ty.injEq, List.cons.injEq, and_true, true_and, List.append_nil, exists_and_left, decide_eq_true_eq, Lca, Lna, and_assoc, cC, cD, cB, cQ, iD, dY]))
local macro_rules | `(tactic| simp_arith [$xs,*]) => `(tactic| simp only [$xs,*, aQ, aW, aI, aB, tC, tOp, tUn, rI0, rI, rU, gU, qD, dH, eO, Oi, eJ, vO, vP, rS, rLeI, yQ, So, rEq, rNe, cI, aX, dU, bA, tB, vJ, bS, aU, aC, aM, fR, jC, tCB, Bc, lZ, Dg, tSl, sY, iQ, Lb, bW, dL, qC, tOrV, La, tOr, sZ, Kz, fU, oH, cO, oI, Lq0, Lq1, Ls0, Ls1, Option.some.injEq, exists_eq_left', exists_eq_left, V.int.injEq, V.ref.injEq, V.bl.injEq, V.ty.injEq, List.cons.injEq, and_true, true_and, List.append_nil, exists_and_left, decide_eq_true_eq, Lca, Lna, and_assoc, cC, cD, cB, cQ, iD, dY])
theorem Qa (i:Int):(if i<0 then -i else i)=(i.natAbs:Int):=by split <;> omega
theorem Cg {ns:List Int} {k:Int} (h0:0<=k) (h:k<(ns.length:Int)):atI (List.map V.int ns) k=some (.int (ns.getD k.toNat 0)):=by
 have hk:k.toNat<ns.length:=by omega
 have e:=cE (xs:=List.map V.int ns) (j:=k.toNat) (v:=V.int (ns.getD k.toNat 0)) (by
  rw [getElem?_map,getElem?_eq_getElem hk,getD_eq_getElem?_getD,getElem?_eq_getElem hk];rfl)
 rwa [Int.toNat_of_nonneg h0] at e
theorem kT {a:α} {l:List α}:atI (a::l) 0=some a:=cE (j:=0) rfl
theorem jT {a b:α} {l:List α}:atI (a::b::l) 1=some b:=cE (j:=1) rfl
structure Lo (t b x y:Int):Prop where
 pos:0<y
 cop:Int.gcd x y=1
 eq:x*b=t*y
 bx:x.natAbs<=t.natAbs
 by_:y.natAbs<=b.natAbs
theorem lo_of {t b g q r:Int} (hb:b≠0) (hg:g≠0) (ht:t=g*q) (hbr:b=g*r) (hr:0<r) (hc:Int.gcd q r=1):Lo t b (t.fdiv g) (b.fdiv g):=by
 have e1:t.fdiv g=q:=by rw [ht,Int.mul_fdiv_cancel_left _ hg]
 have e2:b.fdiv g=r:=by rw [hbr,Int.mul_fdiv_cancel_left _ hg]
 rw [e1,e2]
 have hg1:1<=g.natAbs:=by omega
 refine ⟨hr,hc,by rw [ht,hbr];rw [Int.mul_left_comm,Int.mul_assoc],?_,?_⟩
 ·rw [ht,Int.natAbs_mul];exact Nat.le_mul_of_pos_left _ hg1
 ·rw [hbr,Int.natAbs_mul];exact Nat.le_mul_of_pos_left _ hg1
theorem oC {t b:Int} (hb:b≠0):∃ q r:Int,t=(Int.gcd t b:Nat)*q/\b=(Int.gcd t b:Nat)*r/\Int.gcd q r=1/\0<Int.gcd t b:=by
 have hp:0<Int.gcd t b:=Int.gcd_pos_of_ne_zero_right _ hb
 obtain ⟨q,hq⟩:=Int.gcd_dvd_left (a:=t) (b:=b)
 obtain ⟨r,hr⟩:=Int.gcd_dvd_right (a:=t) (b:=b)
 refine ⟨q,r,hq,hr,?_,hp⟩
 have e:Int.gcd t b=Int.gcd ((Int.gcd t b:Nat)*q) ((Int.gcd t b:Nat)*r):=by rw [← hq,← hr]
 rw [Int.gcd_mul_left,Int.natAbs_natCast] at e
 exact Nat.eq_of_mul_eq_mul_left hp (by rw [Nat.mul_one];exact e.symm)
theorem Pk {t b:Int} (hb:0<b):Lo t b (t.fdiv (Int.gcd t b:Nat)) (b.fdiv (Int.gcd t b:Nat)):=by
 obtain ⟨q,r,h1,h2,h3,h4⟩:=oC (t:=t) (b:=b) (by omega)
 refine lo_of (q:=q) (r:=r) (by omega) (by omega) h1 h2 ?_ h3
 rcases Int.lt_trichotomy r 0 with h | h | h
 ·have:(Int.gcd t b:Int)*r<0:=Int.mul_neg_of_pos_of_neg (by omega) h
  omega
 ·rw [h,Int.mul_zero] at h2;omega
 ·exact h
theorem lo_neg {t b:Int} (hb:b<0):Lo t b (t.fdiv (-(Int.gcd t b:Nat))) (b.fdiv (-(Int.gcd t b:Nat))):=by
 obtain ⟨q,r,h1,h2,h3,h4⟩:=oC (t:=t) (b:=b) (by omega)
 refine lo_of (q:=-q) (r:=-r) (by omega) (by omega) (by rw [Int.neg_mul_neg];exact h1) (by rw [Int.neg_mul_neg];exact h2) ?_ (by rw [Int.gcd,Int.natAbs_neg,Int.natAbs_neg];exact h3)
 rcases Int.lt_trichotomy r 0 with h | h | h
 ·omega
 ·rw [h,Int.mul_zero] at h2;omega
 ·have:(Int.gcd t b:Int)*r > 0:=Int.mul_pos (by omega) h
  omega
def intO:Option V->Int
 | some (.int i)=>i
 | _=>0
def aO (K:W.Frag) (H:Hp):List Addr->List (Int×Int)->Prop
 | [],[]=>True
 | p::ps,f::fs=>SqT K H p [.int f.1,.int f.2]/\aO K H ps fs
 | _,_=>False
theorem aO.same {K:W.Frag} (s:aE H H'):∀ {ps:List Addr} {fs:List (Int×Int)},aO K H ps fs->aO K H' ps fs
 | [],[],_=>trivial
 | _::_,_::_,h=>⟨s.tup h.1,h.2.same s⟩
 | [],_::_,h=>h.elim
 | _::_,[],h=>h.elim
theorem aO.length {K:W.Frag}:∀ {ps:List Addr} {fs:List (Int×Int)},aO K H ps fs->ps.length=fs.length
 | [],[],_=>rfl
 | _::_,_::_,h=>by rw [List.length_cons,List.length_cons,h.2.length]
 | [],_::_,h=>h.elim
 | _::_,[],h=>h.elim
theorem aO.get {K:W.Frag}:∀ {ps:List Addr} {fs:List (Int×Int)} {i:Nat} {p:Addr},aO K H ps fs->ps[i]?=some p->∃ f,fs[i]?=some f/\SqT K H p [.int f.1,.int f.2]
 | [],[],_,_,_,e=>by simp at e
 | _::_,f::_,0,_,h,e=>by simp at e;subst e;exact ⟨f,rfl,h.1⟩
 | _::_,_::_,i+1,_,h,e=>by
  obtain ⟨f,e1,e2⟩:=h.2.get (i:=i) (by simpa using e)
  exact ⟨f,by simpa using e1,e2⟩
 | [],_::_,_,_,h,_=>h.elim
 | _::_,[],_,_,h,_=>h.elim
theorem aO.set {K:W.Frag} {q:Addr} (hq:SqT K H q [.int g.1,.int g.2]):∀ {ps:List Addr} {fs:List (Int×Int)} (i:Nat),aO K H ps fs->aO K H (ps.set i q) (fs.set i g)
 | [],[],_,_=>trivial
 | _::_,_::_,0,h=>⟨hq,h.2⟩
 | _::_,_::_,i+1,h=>⟨h.1,aO.set hq i h.2⟩
 | [],_::_,_,h=>h.elim
 | _::_,[],_,h=>h.elim
theorem aO.append {K:W.Frag} {qs:List Addr} {gs:List (Int×Int)} (hq:aO K H qs gs):∀ {ps:List Addr} {fs:List (Int×Int)},aO K H ps fs->aO K H (ps++qs) (fs++gs)
 | [],[],_=>hq
 | _::_,_::_,h=>⟨h.1,aO.append hq h.2⟩
 | [],_::_,h=>h.elim
 | _::_,[],h=>h.elim
theorem aO.take {K:W.Frag}:∀ {ps:List Addr} {fs:List (Int×Int)} (i:Nat),aO K H ps fs->aO K H (ps.take i) (fs.take i)
 | [],[],i,_=>by simp [aO]
 | _::_,_::_,0,_=>trivial
 | _::_,_::_,i+1,h=>⟨h.1,h.2.take i⟩
 | [],_::_,_,h=>h.elim
 | _::_,[],_,h=>h.elim
theorem aO.drop {K:W.Frag}:∀ {ps:List Addr} {fs:List (Int×Int)} (i:Nat),aO K H ps fs->aO K H (ps.drop i) (fs.drop i)
 | [],[],i,_=>by simp [aO]
 | _::_,_::_,0,h=>h
 | _::_,_::_,i+1,h=>h.2.drop i
 | [],_::_,_,h=>h.elim
 | _::_,[],_,h=>h.elim
theorem aO.off {K:W.Frag} {r:Addr} {ys zs:List V} (hr:H r=some (.lst ys)):∀ {ps:List Addr} {fs:List (Int×Int)},aO K H ps fs->aO K (upd H r (.lst zs)) ps fs
 | [],[],_=>trivial
 | _::_,_::_,h=>⟨h.1.off hr,h.2.off hr⟩
 | [],_::_,h=>h.elim
 | _::_,[],h=>h.elim
theorem cA {x:V} (h:(List.map V.ref ps)[i]?=some x):∃ p,x=.ref p/\ps[i]?=some p:=by
 rw [getElem?_map] at h
 cases e:ps[i]? with
 | none=>rw [e] at h;cases h
 | some z=>rw [e] at h;exact ⟨z,(Option.some.inj h).symm,rfl⟩
theorem jZ {ns:List Int} {x:V} (h:(List.map V.int ns)[i]?=some x):∃ c,x=.int c/\ns[i]?=some c:=by
 rw [getElem?_map] at h
 cases e:ns[i]? with
 | none=>rw [e] at h;cases h
 | some z=>rw [e] at h;exact ⟨z,(Option.some.inj h).symm,rfl⟩
theorem bH {l:List α} {x:α} (h:l[i]?=some x):l.take (i+1)=l.take i++[x]:=by
 rw [List.take_succ,h];rfl
structure Sm (X Y:Int) (r:Int×Int) (i:Nat):Prop where
 y0:0<Y
 cop:Int.gcd X Y=1
 eq:X*r.2=r.1*Y
 b0:0<r.2
 bX:BB (501*i+1) X
 bY:BB (501*i+1) Y
def WEq (H:Hp) (P:Nat->List V->Prop):Nat->List V->Hp->Prop:=λ i zs H5=>H5=H/\P i zs
def SEq (H:Hp) (P:Nat->St->Prop):Nat->St->Hp->Prop:=λ i σ H5=>H5=H/\P i σ
def glf (g n:Int):Int:=((Int.gcd g n:Nat):Int)
def gl (ns:List Int):Int:=ns.foldl glf 0
theorem Uo {ns:List Int} {c:Int} (h:ns[i]?=some c):gl (ns.take (i+1))=glf (gl (ns.take i)) c:=by
 unfold gl;rw [bH h,List.foldl_append];rfl
theorem Kf:∀ l:List Int,l.foldl glf 1=1
 | []=>rfl
 | a::r=>by
  have e:glf 1 a=1:=by unfold glf;rw [Int.gcd];simp
  rw [List.foldl_cons,e];exact Kf r
theorem gl_one {ns:List Int} (h:gl (ns.take i)=1):gl ns=1:=by
 unfold gl at h ⊢
 rw [← List.take_append_drop i ns,List.foldl_append,h]
 exact Kf _
theorem xK:∀ (l:List Int) (g:Int),0<=g->0<=l.foldl glf g
 | [],_,h=>h
 | a::r,g,_=>by rw [List.foldl_cons];exact xK r _ (by unfold glf;omega)
theorem oB (ns:List Int):0<=gl ns:=xK ns 0 (by decide)
theorem Kg:∀ (l:List Int) (g:Int),l.foldl glf g∣g/\∀ n∈l,l.foldl glf g∣n
 | [],g=>⟨Int.dvd_refl _,λ _ h=>nomatch h⟩
 | a::r,g=>by
  rw [List.foldl_cons]
  obtain ⟨h1,h2⟩:=Kg r (glf g a)
  have d1:glf g a∣g:=Int.gcd_dvd_left (a:=g) (b:=a)
  have d2:glf g a∣a:=Int.gcd_dvd_right (a:=g) (b:=a)
  refine ⟨Int.dvd_trans h1 d1,λ n hn=>?_⟩
  rcases List.mem_cons.mp hn with rfl | hn
  ·exact Int.dvd_trans h1 d2
  ·exact h2 n hn
theorem Bl {ns:List Int} {n:Int} (h:n∈ns):gl ns∣n:=(Kg ns 0).2 n h
theorem Eu:∀ (l:List Int),(∀ n∈l,n=0)->l.foldl glf 0=0
 | [],_=>rfl
 | a::r,h=>by
  rw [List.foldl_cons,h a mem_cons_self]
  exact Eu r λ n hn=>h n (mem_cons_of_mem _ hn)
theorem gl_bb {ns:List Int} (h:∀ n∈ns,BB m n):BB m (gl ns):=by
 by_cases hz:∃ n∈ns,n≠0
 ·obtain ⟨n,hn,n0⟩:=hz
  refine (h n hn).of_le (Nat.le_of_dvd (by omega) (Int.natAbs_dvd_natAbs.mpr (Bl hn)))
 ·have:gl ns=0:=Eu ns λ n hn=>Classical.byContradiction λ c=>hz ⟨n,hn,c⟩
  rw [this]
  unfold BB
  exact Nat.two_pow_pos _
def cZ (ns:List Int):List Int:=if gl ns<2 then ns else ns.map λ n=>n.fdiv (gl ns)
theorem eR (ns:List Int):(cZ ns).length=ns.length:=by
 unfold cZ;split
 ·rfl
 ·rw [length_map]
theorem lI {ns:List Int} {n:Int} (h:ns[i]?=some n):∃ t,(cZ ns)[i]?=some t/\t*(if 1 > gl ns then 1 else gl ns)=n:=by
 have g0:=oB ns
 have hm:n∈ns:=mem_of_getElem? h
 unfold cZ
 by_cases h2:gl ns<2
 ·rw [if_pos h2]
  refine ⟨n,h,?_⟩
  have:(if 1 > gl ns then (1:Int) else gl ns)=1:=by split <;> omega
  rw [this,Int.mul_one]
 ·rw [if_neg h2,if_neg (by omega)]
  refine ⟨n.fdiv (gl ns),by rw [getElem?_map,h];rfl,?_⟩
  obtain ⟨z,hz⟩:=Bl hm
  have e:n.fdiv (gl ns)=z:=by
   conv=>lhs;rw [hz]
   exact Int.mul_fdiv_cancel_left _ (by omega)
  rw [e,Int.mul_comm];exact hz.symm
theorem Ke {n:Nat} {k:Int} (h0:0<=k) (h:k<n):ixN n k=some k.toNat:=by
 unfold ixN
 rw [if_pos h0,if_pos h]
def lcf (n:Int) (f:Int×Int):Int:=n*(f.2.fdiv ((Int.gcd n f.2:Nat):Int))
def lc (fs:List (Int×Int)):Int:=fs.foldl lcf 1
def clr (fs:List (Int×Int)):List Int:=fs.map λ f=>f.1*((lc fs).fdiv f.2)
theorem Ui {fs:List (Int×Int)} (h:fs[i]?=some f):lc (fs.take (i+1))=lcf (lc (fs.take i)) f:=by
 unfold lc;rw [bH h,List.foldl_append];rfl
theorem Hg {n:Int} (hn:0<n) (hb:0<f.2):0<lcf n f/\n∣lcf n f/\f.2∣lcf n f/\(∀ M,n∣M->f.2∣M->lcf n f∣M)/\(f.2.fdiv ((Int.gcd n f.2:Nat):Int)).natAbs<=f.2.natAbs:=by
 obtain ⟨q,r,h1,h2,h3,h4⟩:=oC (t:=n) (b:=f.2) (by omega)
 have e:f.2.fdiv ((Int.gcd n f.2:Nat):Int)=r:=by
  conv=>lhs;lhs;rw [h2]
  exact Int.mul_fdiv_cancel_left _ (by omega)
 unfold lcf
 rw [e]
 generalize Int.gcd n f.2=g at h1 h2 h4
 have r0:0<r:=by
  rcases Int.lt_trichotomy r 0 with h | h | h
  ·have:(g:Int)*r<0:=Int.mul_neg_of_pos_of_neg (by omega) h
   omega
  ·rw [h,Int.mul_zero] at h2;omega
  ·exact h
 refine ⟨Int.mul_pos hn r0,⟨r,rfl⟩,⟨q,?_⟩,λ M d1 d2=>?_,?_⟩
 ·rw [h1,h2];ac_rfl
 ·obtain ⟨x,hx⟩:=d1
  obtain ⟨y,hy⟩:=d2
  have e2:q*x=r*y:=by
   apply Int.eq_of_mul_eq_mul_left (show (g:Int)≠0 by omega)
   rw [← Int.mul_assoc,← Int.mul_assoc,← h1,← h2,← hx,← hy]
  have d3:r∣x:=Int.natAbs_dvd_natAbs.mp (Nat.Coprime.dvd_of_dvd_mul_left (m:=q.natAbs) (Nat.Coprime.symm h3) (by rw [← Int.natAbs_mul];exact Int.natAbs_dvd_natAbs.mpr ⟨y,e2⟩))
  obtain ⟨z,hz⟩:=d3
  exact ⟨z,by rw [hx,hz,Int.mul_assoc]⟩
 ·rw [h2,Int.natAbs_mul];exact Nat.le_mul_of_pos_left _ (by omega)
theorem vS:∀ (fs:List (Int×Int)) (n:Int),0<n->(∀ f∈fs,0<f.2)->0<fs.foldl lcf n/\n∣fs.foldl lcf n/\(∀ f∈fs,f.2∣fs.foldl lcf n)/\∀ M,n∣M->(∀ f∈fs,f.2∣M)->fs.foldl lcf n∣M
 | [],n,hn,_=>⟨hn,Int.dvd_refl _,(λ _ h=>nomatch h),λ _ h _=>h⟩
 | a::r,n,hn,h=>by
  rw [List.foldl_cons]
  obtain ⟨a1,a2,a3,a4,_⟩:=Hg hn (h a mem_cons_self)
  obtain ⟨b1,b2,b3,b4⟩:=vS r (lcf n a) a1 λ f hf=>h f (mem_cons_of_mem _ hf)
  refine ⟨b1,Int.dvd_trans a2 b2,λ f hf=>?_,λ M d1 d2=>b4 M (a4 M d1 (d2 a mem_cons_self)) λ f hf=>d2 f (mem_cons_of_mem _ hf)⟩
  rcases List.mem_cons.mp hf with rfl | hf
  ·exact Int.dvd_trans a3 b2
  ·exact b3 f hf
theorem Pl {fs:List (Int×Int)} (h:∀ f∈fs,0<f.2):0<lc fs:=(vS fs 1 (by decide) h).1
theorem clr_eq {fs:List (Int×Int)} (h:∀ f∈fs,0<f.2) (hf:f∈fs):f.1*((lc fs).fdiv f.2)*f.2=f.1*lc fs:=by
 obtain ⟨k,hk⟩:=(vS fs 1 (by decide) h).2.2.1 f hf
 have hk:lc fs=f.2*k:=hk
 have e:(lc fs).fdiv f.2=k:=by rw [hk];exact Int.mul_fdiv_cancel_left _ (by have:=h f hf;omega)
 rw [e,hk];ac_rfl
theorem Ce {fs:List (Int×Int)} (h:fs[i]?=some f):(clr fs)[i]?=some (f.1*((lc fs).fdiv f.2)):=by
 unfold clr;rw [getElem?_map,h];rfl
def bB (H:Hp):List Addr->List (List Int)->Prop
 | [],[]=>True
 | p::ps,r::rs=>H p=some (.lst (List.map V.int r))/\bB H ps rs
 | _,_=>False
theorem bB.same (s:aE H H'):∀ {ps:List Addr} {rs:List (List Int)},bB H ps rs->bB H' ps rs
 | [],[],_=>trivial
 | _::_,_::_,h=>⟨s _ _ h.1,h.2.same s⟩
 | [],_::_,h=>h.elim
 | _::_,[],h=>h.elim
theorem bB.length:∀ {ps:List Addr} {rs:List (List Int)},bB H ps rs->ps.length=rs.length
 | [],[],_=>rfl
 | _::_,_::_,h=>by rw [List.length_cons,List.length_cons,h.2.length]
 | [],_::_,h=>h.elim
 | _::_,[],h=>h.elim
theorem bB.get:∀ {ps:List Addr} {rs:List (List Int)} {i:Nat} {p:Addr},bB H ps rs->ps[i]?=some p->∃ r,rs[i]?=some r/\H p=some (.lst (List.map V.int r))
 | [],[],_,_,_,e=>by simp at e
 | _::_,r::_,0,_,h,e=>by simp at e;subst e;exact ⟨r,rfl,h.1⟩
 | _::_,_::_,i+1,_,h,e=>by
  obtain ⟨f,e1,e2⟩:=h.2.get (i:=i) (by simpa using e)
  exact ⟨f,by simpa using e1,e2⟩
 | [],_::_,_,_,h,_=>h.elim
 | _::_,[],_,_,h,_=>h.elim
theorem bB.has (h:bB H ps rs) {p:Addr} (hp:p∈ps):∃ r,r∈rs/\H p=some (.lst (List.map V.int r)):=by
 obtain ⟨i,hi⟩:=getElem?_of_mem hp
 obtain ⟨r,e1,e2⟩:=h.get hi
 exact ⟨r,mem_of_getElem? e1,e2⟩
theorem bB.append {qs:List Addr} {gs:List (List Int)} (hq:bB H qs gs):∀ {ps:List Addr} {rs:List (List Int)},bB H ps rs->bB H (ps++qs) (rs++gs)
 | [],[],_=>hq
 | _::_,_::_,h=>⟨h.1,bB.append hq h.2⟩
 | [],_::_,h=>h.elim
 | _::_,[],h=>h.elim
theorem bB.snoc {q:Addr} {g:List Int} (h:bB H ps rs) (hq:H q=some (.lst (List.map V.int g))):bB H (ps++[q]) (rs++[g]):=bB.append (show bB H [q] [g] from ⟨hq,trivial⟩) h
theorem bB.put {q:Addr}:∀ {ps:List Addr} {rs:List (List Int)},q∉ps->bB H ps rs->bB (upd H q o) ps rs
 | [],[],_,_=>trivial
 | p::_,_::_,hn,h=>⟨by rw [aN (λ e:p=q=>hn (by rw [e];exact mem_cons_self))];exact h.1,bB.put (λ z=>hn (mem_cons_of_mem _ z)) h.2⟩
 | [],_::_,_,h=>h.elim
 | _::_,[],_,h=>h.elim
theorem Kh {b:Int} (hb:0<b):∀ (l:List Int) (g:Int),(l.map (·*b)).foldl glf (g*b)=l.foldl glf g*b
 | [],g=>rfl
 | a::r,g=>by
  rw [List.map_cons,List.foldl_cons,List.foldl_cons]
  have e:glf (g*b) (a*b)=glf g a*b:=by
   unfold glf
   rw [Int.gcd_mul_right,Int.natCast_mul,Int.natAbs_of_nonneg (by omega)]
  rw [e];exact Kh hb r _
theorem Pr {b:Int} (hb:0<b) (l:List Int):gl (l.map (·*b))=gl l*b:=by
 have:=Kh hb l 0
 rw [Int.zero_mul] at this
 exact this
theorem Mb {b:Int} (hb:0<b) (ns:List Int):cZ (ns.map (·*b))=cZ ns:=by
 apply List.ext_getElem?
 intro i
 by_cases hi:i<ns.length
 ·have h1:ns[i]?=some ns[i]:=getElem?_eq_getElem hi
  obtain ⟨t,e1,e2⟩:=lI h1
  obtain ⟨u,f1,f2⟩:=lI (ns:=ns.map (·*b)) (i:=i) (n:=ns[i]*b) (by rw [getElem?_map,h1];rfl)
  rw [e1,f1]
  rw [Pr hb] at f2
  have g0:=oB ns
  congr 1
  by_cases hz:gl ns=0
  ·rw [hz] at e2 f2
   have hn:ns[i]=0:=by
    obtain ⟨z,hz'⟩:=Bl (getElem_mem hi)
    rw [hz,Int.zero_mul] at hz'
    exact hz'
   rw [hn] at e2 f2
   simp at e2 f2
   rw [e2,f2]
  ·have g1:1<=gl ns:=by omega
   have hgb:1<=gl ns*b:=Int.mul_pos (by omega) hb
   rw [if_neg (by omega)] at e2 f2
   rw [← e2,Int.mul_assoc] at f2
   exact Int.eq_of_mul_eq_mul_right (by omega) f2
 ·rw [getElem?_eq_none (by rw [eR,length_map];omega),getElem?_eq_none (by rw [eR];omega)]
def tkL (row ch:List Int) (by_ th:Int):List Int:=List.zipWith (λ m y=>m*by_ - y*th) row ch
theorem Dx:∀ {row ch:List Int} {b:Int},row.length=ch.length->tkL row ch b 0=row.map (·*b)
 | [],_,_,_=>by simp [tkL]
 | _::_,[],_,h=>by simp at h
 | a::r,c::s,b,h=>by
  have:=Dx (row:=r) (ch:=s) (b:=b) (by simpa using h)
  unfold tkL at *
  rw [List.zipWith_cons_cons,List.map_cons,this,Int.mul_zero,Int.sub_zero]
theorem kZ {row ch:List Int} {b t:Int} (h:row.length=ch.length):(tkL row ch b t).length=row.length:=by
 unfold tkL;rw [List.length_zipWith];omega
theorem Je {row ch:List Int} {b t m:Int} (h1:row[i]?=some m) (h2:ch[i]?=some y):(tkL row ch b t)[i]?=some (m*b - y*t):=by
 unfold tkL;rw [List.getElem?_zipWith,h1,h2]
theorem tkL_bb {row ch:List Int} {b t:Int} {n:Nat} (h1:∀ m∈row,BB n m) (h2:∀ m∈ch,BB n m) (hb:BB n b) (ht:BB n t):∀ m∈tkL row ch b t,BB (n+n+1) m:=by
 intro m hm
 obtain ⟨i,hi⟩:=getElem?_of_mem hm
 unfold tkL at hi
 rw [List.getElem?_zipWith] at hi
 cases e1:row[i]? with
 | none=>rw [e1] at hi;cases hi
 | some x =>
  cases e2:ch[i]? with
  | none=>rw [e1,e2] at hi;cases hi
  | some y =>
   rw [e1,e2] at hi
   obtain rfl:=Option.some.inj hi
   exact ((h1 x (mem_of_getElem? e1)).mul hb).sub ((h2 y (mem_of_getElem? e2)).mul ht)
def Dc (row kept:List Int) (col:Nat):List Int:=if row.getD col 0=0 then cZ row else cZ (tkL row kept (kept.getD col 0) (row.getD col 0))
theorem Jl {row kept:List Int} {col:Nat} (h:row.length=kept.length) (hp:0<kept.getD col 0):Dc row kept col=cZ (tkL row kept (kept.getD col 0) (row.getD col 0)):=by
 unfold Dc
 by_cases hz:row.getD col 0=0
 ·rw [if_pos hz,hz,Dx h,Mb hp]
 ·rw [if_neg hz]
theorem gX {l:List Int} (h:i<l.length):l.getD i 0∈l:=by
 rw [getD_eq_getElem?_getD,getElem?_eq_getElem h];exact getElem_mem h
theorem fF {l:List Int} (h:i<l.length):atI (List.map V.int l) (i:Int)=some (.int (l.getD i 0)):=by
 have:=Cg (ns:=l) (k:=(i:Int)) (by omega) (by omega)
 rwa [Int.toNat_natCast] at this
theorem wR {l:List Int} (h:i<l.length):l[i]?=some (l.getD i 0):=by
 rw [getD_eq_getElem?_getD,getElem?_eq_getElem h];rfl
theorem wV {xs:List α} {x:α} (h:xs[xs.length - 1]?=some x):atI xs (-1)=some x:=by
 have hl:xs.length - 1<xs.length:=(List.getElem?_eq_some_iff.mp h).1
 unfold atI ixN
 rw [if_neg (by omega),if_pos (by omega)]
 show xs[(-1+(xs.length:Int)).toNat]?=some x
 rw [show (-1+(xs.length:Int)).toNat=xs.length - 1 by omega]
 exact h
def lx (a b:List Int) (c:Nat):List Nat->Option Bool
 | []=>none
 | p::r=>if a.getD p 0*b.getD c 0=b.getD p 0*a.getD c 0 then lx a b c r else some (decide (a.getD p 0*b.getD c 0<b.getD p 0*a.getD c 0))
theorem Jz {a b:List Int} {c:Nat}:∀ (l:List Nat),lx b a c l=(lx a b c l).map (!·)
 | []=>rfl
 | p::r=>by
  unfold lx
  by_cases h:a.getD p 0*b.getD c 0=b.getD p 0*a.getD c 0
  ·rw [if_pos h,if_pos h.symm];exact Jz r
  ·rw [if_neg h,if_neg (λ e=>h e.symm)]
   show some _=some _
   congr 1
   by_cases h2:a.getD p 0*b.getD c 0<b.getD p 0*a.getD c 0
   ·rw [decide_eq_true h2,decide_eq_false (by omega)];rfl
   ·rw [decide_eq_false h2,decide_eq_true (by omega)];rfl
theorem Es {a b k:List Int} {c:Nat} (ha:0<a.getD c 0) (hb:0<b.getD c 0) (hk:0<k.getD c 0):∀ (l:List Nat),lx a b c l=some true->lx b k c l≠some false->lx a k c l=some true
 | [],h,_=>by cases h
 | p::r,h1,h2=>by
  have ih:=Es ha hb hk r
  unfold lx at h1 h2 ⊢
  generalize a.getD c 0=ac at *
  generalize b.getD c 0=bc at *
  generalize k.getD c 0=kc at *
  generalize a.getD p 0=ap at *
  generalize b.getD p 0=bp at *
  generalize k.getD p 0=kp at *
  have m1:ap*bc*kc=ap*kc*bc:=by ac_rfl
  have m2:bp*ac*kc=bp*kc*ac:=by ac_rfl
  have m3:kp*bc*ac=kp*ac*bc:=by ac_rfl
  have fin:ap*kc*bc<kp*ac*bc->(if ap*kc=kp*ac then lx a k c r else some (decide (ap*kc<kp*ac)))=some true:=λ h=>by
   have:ap*kc<kp*ac:=Int.lt_of_mul_lt_mul_right h (by omega)
   rw [if_neg (by omega),decide_eq_true this]
  by_cases e1:ap*bc=bp*ac
  ·rw [if_pos e1] at h1
   have t1:ap*bc*kc=bp*ac*kc:=by rw [e1]
   by_cases e2:bp*kc=kp*bc
   ·rw [if_pos e2] at h2
    have t2:bp*kc*ac=kp*bc*ac:=by rw [e2]
    have:ap*kc=kp*ac:=Int.eq_of_mul_eq_mul_right (show bc≠0 by omega) (by omega)
    rw [if_pos this]
    exact ih h1 h2
   ·rw [if_neg e2] at h2
    have h3:bp*kc<kp*bc:=Classical.byContradiction λ z=>h2 (by rw [decide_eq_false z])
    have t2:bp*kc*ac<kp*bc*ac:=Int.mul_lt_mul_of_pos_right h3 ha
    exact fin (by omega)
  ·rw [if_neg e1] at h1
   have h3:ap*bc<bp*ac:=by simpa using h1
   have t1:ap*bc*kc<bp*ac*kc:=Int.mul_lt_mul_of_pos_right h3 hk
   by_cases e2:bp*kc=kp*bc
   ·have t2:bp*kc*ac=kp*bc*ac:=by rw [e2]
    exact fin (by omega)
   ·rw [if_neg e2] at h2
    have h3:bp*kc<kp*bc:=Classical.byContradiction λ z=>h2 (by rw [decide_eq_false z])
    have t2:bp*kc*ac<kp*bc*ac:=Int.mul_lt_mul_of_pos_right h3 ha
    exact fin (by omega)
def Lv (rs:List (List Int)) (c:Nat) (l:List Nat) (i:Nat):Option Nat->Prop
 | none=>∀ k row,k<i->rs[k]?=some row->¬ 0<row.getD c 0
 | some f=>f<i/\∃ fr,rs[f]?=some fr/\0<fr.getD c 0/\∀ k row,k<i->rs[k]?=some row->0<row.getD c 0->lx fr row c l≠some false/\(lx fr row c l=none->f<=k)
theorem Lv.skip {l:List Nat} {o:Option Nat} {row:List Int} (h:Lv rs c l i o) (hr:rs[i]?=some row) (hn:¬ 0<row.getD c 0):Lv rs c l (i+1) o:=by
 cases o with
 | none =>
  intro k row' hk e
  by_cases hki:k<i
  ·exact h k row' hki e
  ·have:k=i:=by omega
   subst this
   rw [hr] at e
   obtain rfl:=Option.some.inj e
   exact hn
 | some f =>
  obtain ⟨h1,fr,h2,h3,h4⟩:=h
  refine ⟨by omega,fr,h2,h3,λ k row' hk e hp=>?_⟩
  by_cases hki:k<i
  ·exact h4 k row' hki e hp
  ·have:k=i:=by omega
   subst this
   rw [hr] at e
   obtain rfl:=Option.some.inj e
   exact absurd hp hn
theorem Ca {a:List Int} {c:Nat}:∀ l:List Nat,lx a a c l=none
 | []=>rfl
 | p::r=>by unfold lx;rw [if_pos rfl];exact Ca r
theorem Lv.first {l:List Nat} {row:List Int} (h:Lv rs c l i none) (hr:rs[i]?=some row) (hp:0<row.getD c 0):Lv rs c l (i+1) (some i):=by
 refine ⟨by omega,row,hr,hp,λ k row' hk e hp'=>?_⟩
 by_cases hki:k<i
 ·exact absurd hp' (h k row' hki e)
 ·have:k=i:=by omega
  subst this
  rw [hr] at e
  obtain rfl:=Option.some.inj e
  rw [Ca]
  exact ⟨by simp,λ _=>Nat.le_refl _⟩
theorem Lv.keep {l:List Nat} {f:Nat} {row fr:List Int} (h:Lv rs c l i (some f)) (hf:rs[f]?=some fr) (hr:rs[i]?=some row) (hp:0<row.getD c 0) (ha:lx row fr c l≠some true):Lv rs c l (i+1) (some f):=by
 obtain ⟨h1,fr',h2,h3,h4⟩:=h
 rw [hf] at h2
 obtain rfl:=Option.some.inj h2
 refine ⟨by omega,fr,hf,h3,λ k row' hk e hp'=>?_⟩
 by_cases hki:k<i
 ·exact h4 k row' hki e hp'
 ·have:k=i:=by omega
  subst this
  rw [hr] at e
  obtain rfl:=Option.some.inj e
  refine ⟨λ z=>ha ?_,λ _=>by omega⟩
  rw [Jz (a:=fr) (b:=row),z];rfl
theorem Lv.take {l:List Nat} {f:Nat} {row fr:List Int} (h:Lv rs c l i (some f)) (hf:rs[f]?=some fr) (hr:rs[i]?=some row) (hp:0<row.getD c 0) (ha:lx row fr c l=some true):Lv rs c l (i+1) (some i):=by
 obtain ⟨h1,fr',h2,h3,h4⟩:=h
 rw [hf] at h2
 obtain rfl:=Option.some.inj h2
 refine ⟨by omega,row,hr,hp,λ k row' hk e hp'=>?_⟩
 by_cases hki:k<i
 ·have:=Es hp h3 hp' l ha (h4 k row' hki e hp').1
  rw [this]
  exact ⟨by simp,λ z=>by cases z⟩
 ·have:k=i:=by omega
  subst this
  rw [hr] at e
  obtain rfl:=Option.some.inj e
  rw [Ca]
  exact ⟨by simp,λ _=>Nat.le_refl _⟩
def sm:Nat->(Nat->Int)->Int
 | 0,_=>0
 | n+1,f=>sm n f+f n
theorem cK:∀ {n:Nat} {f g:Nat->Int},(∀ k,k<n->f k=g k)->sm n f=sm n g
 | 0,_,_,_=>rfl
 | n+1,f,g,h=>by
  show sm n f+f n=sm n g+g n
  rw [cK (n:=n) λ k hk=>h k (by omega),h n (by omega)]
theorem dZ:∀ {n:Nat} {f:Nat->Int},(∀ k,k<n->f k=0)->sm n f=0
 | 0,_,_=>rfl
 | n+1,f,h=>by
  show sm n f+f n=0
  rw [dZ (n:=n) λ k hk=>h k (by omega),h n (by omega)];rfl
theorem mK (a b:Int):∀ (n:Nat) (f g:Nat->Int),sm n (λ k=>a*f k+b*g k)=a*sm n f+b*sm n g
 | 0,_,_=>by show (0:Int)=a*0+b*0;simp
 | n+1,f,g=>by
  show sm n (λ k=>a*f k+b*g k)+(a*f n+b*g n)=a*(sm n f+f n)+b*(sm n g+g n)
  rw [mK a b n f g,Int.mul_add,Int.mul_add];omega
theorem gJ {p:Nat}:∀ {n:Nat} {f:Nat->Int},p<n->(∀ k,k<n->k≠p->f k=0)->sm n f=f p
 | 0,_,h,_=>absurd h (Nat.not_lt_zero _)
 | n+1,f,hp,h=>by
  show sm n f+f n=f p
  by_cases e:p=n
  ·rw [dZ (n:=n) λ k hk=>h k (by omega) (by omega),e];omega
  ·rw [gJ (n:=n) (by omega) λ k hk hne=>h k (by omega) hne,h n (by omega) (by omega)];omega
theorem sC {p q:Nat}:∀ {n:Nat} {f:Nat->Int},p<q->q<n->(∀ k,k<n->k≠p->k≠q->f k=0)->sm n f=f p+f q
 | 0,_,_,h,_=>absurd h (Nat.not_lt_zero _)
 | n+1,f,hpq,hq,h=>by
  show sm n f+f n=f p+f q
  by_cases e:q=n
  ·rw [gJ (p:=p) (n:=n) (by omega) λ k hk hne=>h k (by omega) hne (by omega),e]
  ·rw [sC (n:=n) hpq (by omega) λ k hk h1 h2=>h k (by omega) h1 h2,h n (by omega) (by omega) (by omega)];omega
def sg (k:Nat):Int:=if k % 2=0 then 1 else -1
theorem Td (k:Nat):sg (k+1) = - sg k:=by
 unfold sg
 split <;> split <;> omega
theorem Pa (k:Nat):(sg k).natAbs=1:=by unfold sg;split <;> rfl
def skp (k i:Nat):Nat:=if i<k then i else i+1
theorem skp_ne (k i:Nat):skp k i≠k:=by unfold skp;split <;> omega
theorem Oz {k n:Nat} (h:i<n):skp k i<n+1:=by unfold skp;split <;> omega
theorem Tc {k:Nat} (h:skp k i=skp k j):i=j:=by unfold skp at h;split at h <;> split at h <;> omega
theorem Qf {k n:Nat} (hk:k<n+1) (hj:j<n+1) (hne:j≠k):∃ i,i<n/\skp k i=j:=by
 unfold skp
 by_cases h:j<k
 ·exact ⟨j,by omega,by rw [if_pos h]⟩
 ·exact ⟨j - 1,by omega,by rw [if_neg (by omega)];omega⟩
abbrev Mx:=Nat->Nat->Int
def mnr (M:Mx) (k:Nat):Mx:=λ i r=>M (skp k i) (r+1)
def det:Nat->Mx->Int
 | 0,_=>1
 | n+1,M=>sm (n+1) λ k=>sg k*M k 0*det n (mnr M k)
theorem kE:∀ {n:Nat} {M L:Mx},(∀ i,i<n->∀ r,r<n->M i r=L i r)->det n M=det n L
 | 0,_,_,_=>rfl
 | n+1,M,L,h=>by
  refine cK λ k hk=>?_
  rw [h k hk 0 (by omega),kE (n:=n) (M:=mnr M k) (L:=mnr L k) λ i hi r hr=>h _ (Oz hi) _ (by omega)]
def pt (M:Mx) (j:Nat) (v:Nat->Int):Mx:=λ i=>if i=j then v else M i
theorem jU (M:Mx) (j:Nat) (v:Nat->Int):pt M j v j=v:=by unfold pt;rw [if_pos rfl]
theorem eX (M:Mx) (v:Nat->Int) (h:i≠j):pt M j v i=M i:=by unfold pt;rw [if_neg h]
theorem qJ (M:Mx) (j:Nat):pt M j (M j)=M:=by
 funext i;unfold pt;split
 ·rename_i e;rw [e]
 ·rfl
theorem pt_pt (M:Mx) (j:Nat) (u v:Nat->Int):pt (pt M j u) j v=pt M j v:=by
 funext i;unfold pt;split <;> rfl
theorem nK (M:Mx) (h:i≠j) (u v:Nat->Int):pt (pt M i u) j v=pt (pt M j v) i u:=by
 funext k;unfold pt
 by_cases h1:k=j
 ·rw [if_pos h1,if_neg (by omega),if_pos h1]
 ·rw [if_neg h1]
  by_cases h2:k=i
  ·rw [if_pos h2,if_pos h2]
  ·rw [if_neg h2,if_neg h2,if_neg h1]
theorem nB (M:Mx) (k:Nat) (v:Nat->Int):mnr (pt M k v) k=mnr M k:=by
 funext i r
 show pt M k v (skp k i) (r+1)=M (skp k i) (r+1)
 rw [eX _ _ (skp_ne k i)]
theorem He (M:Mx) {k j':Nat} (v:Nat->Int):mnr (pt M (skp k j') v) k=pt (mnr M k) j' (λ r=>v (r+1)):=by
 funext i r
 show pt M (skp k j') v (skp k i) (r+1)=_
 unfold pt
 by_cases h:i=j'
 ·rw [if_pos h,if_pos (by rw [h])]
 ·rw [if_neg h,if_neg (λ e=>h (Tc e))];rfl
theorem Cb (a b:Int):∀ {n:Nat} (M:Mx) {j:Nat} (u v:Nat->Int),j<n->det n (pt M j (λ r=>a*u r+b*v r))=a*det n (pt M j u)+b*det n (pt M j v)
 | 0,_,_,_,_,h=>absurd h (Nat.not_lt_zero _)
 | n+1,M,j,u,v,hj=>by
  show sm (n+1) _=a*sm (n+1) _+b*sm (n+1) _
  rw [← mK]
  refine cK λ k hk=>?_
  by_cases e:k=j
  ·subst e
   rw [jU,jU,jU,nB,nB,nB]
   grind
  ·obtain ⟨j',hj',ej⟩:=Qf hk hj (λ z=>e z.symm)
   rw [eX _ _ e,eX _ _ e,eX _ _ e,← ej,He,He,He,Cb a b (mnr M k) (λ r=>u (r+1)) (λ r=>v (r+1)) hj']
   grind
theorem vE:∀ {n:Nat} {M:Mx} {p:Nat},p+1<n->M p=M (p+1)->det n M=0
 | 0,_,_,h,_=>absurd h (Nat.not_lt_zero _)
 | n+1,M,p,hp,e=>by
  show sm (n+1) _=0
  rw [sC (p:=p) (q:=p+1) (by omega) hp]
  ·have em:mnr M p=mnr M (p+1):=by
    funext i r
    show M (skp p i) (r+1)=M (skp (p+1) i) (r+1)
    unfold skp
    by_cases h1:i<p
    ·rw [if_pos h1,if_pos (by omega)]
    ·rw [if_neg h1]
     by_cases h2:i=p
     ·rw [if_pos (by omega),h2,e]
     ·rw [if_neg (by omega)]
   rw [em,e,Td];grind
  ·intro k hk h1 h2
   have:det n (mnr M k)=0:=by
    by_cases h:k<p
    ·refine vE (p:=p - 1) (by omega) ?_
     funext r
     show M (skp k (p - 1)) (r+1)=M (skp k (p - 1+1)) (r+1)
     unfold skp
     rw [if_neg (by omega),if_neg (by omega),show p - 1+1=p by omega,e]
    ·refine vE (p:=p) (by omega) ?_
     funext r
     show M (skp k p) (r+1)=M (skp k (p+1)) (r+1)
     unfold skp
     rw [if_pos (by omega),if_pos (by omega),e]
   rw [this,Int.mul_zero]
theorem vF {n:Nat} (M:Mx) (u v:Nat->Int) (h:j<n):det n (pt M j (λ r=>u r+v r))=det n (pt M j u)+det n (pt M j v):=by
 have:=Cb 1 1 M u v h
 simp only [Int.one_mul] at this
 exact this
theorem oE {n:Nat} (M:Mx) (a:Int) (u:Nat->Int) (h:j<n):det n (pt M j (λ r=>a*u r))=a*det n (pt M j u):=by
 have:=Cb a 0 M u u h
 simp only [Int.zero_mul,Int.add_zero] at this
 exact this
theorem Jf {n:Nat} (hp:p<n) (hq:q<n) (hne:p≠q) (z:∀ M:Mx,M p=M q->det n M=0) (M:Mx) (u v:Nat->Int):det n (pt (pt M p u) q v) = - det n (pt (pt M p v) q u):=by
 have h0:=z (pt (pt M p (λ r=>u r+v r)) q (λ r=>u r+v r)) (by rw [jU,eX _ _ hne,jU])
 have huu:=z (pt (pt M p u) q u) (by rw [jU,eX _ _ hne,jU])
 have hvv:=z (pt (pt M p v) q v) (by rw [jU,eX _ _ hne,jU])
 rw [vF _ _ _ hq,nK M hne,nK M hne,vF _ _ _ hp,vF _ _ _ hp,nK M (Ne.symm hne),nK M (Ne.symm hne),nK M (Ne.symm hne),nK M (Ne.symm hne)] at h0
 omega
theorem Cc {n:Nat}:∀ (d:Nat) {M:Mx} {p q:Nat},q=p+1+d->q<n->M p=M q->det n M=0
 | 0,M,p,q,e,hq,h=>vE (p:=p) (by omega) (by rw [h,e])
 | d+1,M,p,q,e,hq,h=>by
  have sw:=Jf (n:=n) (p:=q - 1) (q:=q - 1+1) (by omega) (by omega) (by omega) (λ L hL=>vE (by omega) hL) M (M (q - 1)) (M q)
  rw [show q - 1+1=q by omega] at sw
  rw [qJ,qJ] at sw
  rw [sw,Cc d (p:=p) (q:=q - 1) (by omega) (by omega)]
  ·rfl
  ·rw [eX _ _ (show p≠q by omega),eX _ _ (show p≠q - 1 by omega),eX _ _ (show q - 1≠q by omega),jU,h]
theorem wS {n:Nat} {M:Mx} (hp:p<n) (hq:q<n) (hne:p≠q) (h:M p=M q):det n M=0:=by
 by_cases hlt:p<q
 ·exact Cc (q - p - 1) (p:=p) (q:=q) (by omega) hq h
 ·exact Cc (p - q - 1) (p:=q) (q:=p) (by omega) hp h.symm
theorem Ry {n:Nat} (hp:p<n) (hq:q<n) (hne:p≠q) (M:Mx) (u v:Nat->Int):det n (pt (pt M p u) q v) = - det n (pt (pt M p v) q u):=Jf hp hq hne (λ _ h=>wS hp hq hne h) M u v
def e1 (i:Nat):Nat->Int:=λ r=>if r=i then 1 else 0
def Im:Mx:=e1
theorem qQ:∀ n:Nat,det n Im=1
 | 0=>rfl
 | n+1=>by
  show sm (n+1) _=1
  rw [gJ (p:=0) (by omega)]
  ·have:det n (mnr Im 0)=det n Im:=kE λ i _ r _=>by
    show e1 (skp 0 i) (r+1)=e1 i r
    unfold e1 skp
    rw [if_neg (Nat.not_lt_zero i)]
    by_cases h:r=i
    ·rw [if_pos h,if_pos (by omega)]
    ·rw [if_neg h,if_neg (by omega)]
   rw [this,qQ n];rfl
  ·intro k _ hk
   have:Im k 0=0:=by show e1 k 0=0;unfold e1;rw [if_neg (λ z=>hk z.symm)]
   rw [this];grind
theorem rD {n:Nat} (M:Mx) {j:Nat} (hj:j<n) (c:Nat->Int) (w:Nat->Nat->Int):∀ m:Nat,det n (pt M j (λ r=>sm m λ k=>c k*w k r))=sm m λ k=>c k*det n (pt M j (w k))
 | 0=>by
  have:=oE M 0 (λ _=>0) hj
  simp only [Int.zero_mul] at this
  exact this
 | m+1=>by
  show det n (pt M j (λ r=>sm m (λ k=>c k*w k r)+c m*w m r))=sm m _+c m*_
  rw [vF _ _ _ hj,rD M hj c w m,oE _ _ _ hj]
theorem Ee (v:Nat->Int):∀ (n r:Nat),r<n->(sm n λ k=>v k*e1 k r)=v r:=λ n r hr=>by
 rw [gJ (p:=r) hr]
 ·unfold e1;rw [if_pos rfl,Int.mul_one]
 ·intro k _ hk
  unfold e1;rw [if_neg (λ z=>hk z.symm),Int.mul_zero]
theorem Uw {n:Nat} (M:Mx) (hj:j<n) (v:Nat->Int):det n (pt M j v)=sm n λ k=>v k*det n (pt M j (e1 k)):=by
 rw [← rD M hj v e1 n]
 refine kE λ i hi r hr=>?_
 unfold pt
 split
 ·exact (Ee v n r hr).symm
 ·rfl
section
variable {N:Nat}
def Tt (N:Nat) (B:Mx) (i:Nat) (y:Nat->Int):Int:=det N (pt B i y)
def Cr (N:Nat) (B:Mx):Prop:=∀ (y:Nat->Int) (r:Nat),r<N->(sm N λ i=>Tt N B i y*B i r)=det N B*y r
theorem Hk (B:Mx) (i:Nat):Tt N B i (B i)=det N B:=by unfold Tt;rw [qJ]
theorem rF {B:Mx} (hi:i<N) (hj:j<N) (h:i≠j):Tt N B i (B j)=0 :=
 wS hi hj h (by rw [jU,eX _ _ (Ne.symm h)])
theorem Hm {B:Mx} (hi:i<N) (y:Nat->Int):Tt N B i y=sm N λ k=>y k*Tt N B i (e1 k):=Uw B hi y
theorem Hl (hi:i<N) (y:Nat->Int):Tt N Im i y=y i:=by
 rw [Hm hi,gJ (p:=i) hi]
 ·rw [show Tt N Im i (e1 i)=det N Im from Hk Im i,qQ,Int.mul_one]
 ·intro k hk hne
  rw [show Tt N Im i (e1 k)=0 from rF hi hk (Ne.symm hne),Int.mul_zero]
theorem Hn:Cr N Im:=by
 intro y r hr
 rw [qQ,Int.one_mul,← Ee y N r hr]
 exact cK λ i hi=>by rw [Hl hi];rfl
theorem On {B:Mx} (hB:Cr N B) {r:Nat} (hr:r<N) (hi:i<N) (hne:i≠r) (x y:Nat->Int):det N B*Tt N (pt B r x) i y=Tt N B i y*Tt N B r x - Tt N B r y*Tt N B i x:=by
 have h1:det N B*Tt N (pt B r x) i y=det N (pt (pt B r x) i (λ s=>det N B*y s)):=(oE _ _ _ hi).symm
 have h2:det N (pt (pt B r x) i (λ s=>det N B*y s))=det N (pt (pt B r x) i (λ s=>sm N λ k=>Tt N B k y*B k s)):=kE λ j _ s hs=>by
  unfold pt
  by_cases e:j=i
  ·rw [if_pos e,if_pos e,hB y s hs]
  ·rw [if_neg e,if_neg e]
 rw [h1,h2,rD _ hi]
 have hii:det N (pt (pt B r x) i (B i))=Tt N B r x:=by
  have:pt (pt B r x) i (B i)=pt B r x:=by
   have:=qJ (pt B r x) i
   rwa [eX _ _ hne] at this
  rw [this];rfl
 have hir:det N (pt (pt B r x) i (B r)) = - Tt N B i x:=by
  rw [Ry hr hi (Ne.symm hne),qJ];rfl
 have key:∀ k,k<N->k≠i->k≠r->Tt N B k y*det N (pt (pt B r x) i (B k))=0:=λ k hk h1 h2=>by
  rw [wS hi hk (Ne.symm h1) (by rw [jU,eX _ _ h1,eX _ _ h2]),Int.mul_zero]
 by_cases hlt:i<r
 ·rw [sC hlt hr (λ k hk h1 h2=>key k hk h1 h2),hii,hir,Int.mul_neg];rfl
 ·rw [sC (p:=r) (q:=i) (by omega) hi (λ k hk h1 h2=>key k hk h2 h1),hii,hir,Int.mul_neg];omega
theorem Ci (B:Mx) (r:Nat) (x y:Nat->Int):Tt N (pt B r x) r y=Tt N B r y:=by unfold Tt;rw [pt_pt]
theorem det_pt (B:Mx) (r:Nat) (x:Nat->Int):det N (pt B r x)=Tt N B r x:=rfl
theorem Cr.turn {B:Mx} (hB:Cr N B) (hD:det N B≠0) {r:Nat} (hr:r<N) (x:Nat->Int):Cr N (pt B r x):=by
 intro y s hs
 apply Int.eq_of_mul_eq_mul_left hD
 have e:∀ i,i<N->det N B*(Tt N (pt B r x) i y*(pt B r x) i s)=Tt N B r x*(Tt N B i y*B i s)+(- Tt N B r y)*(Tt N B i x*B i s)+(if i=r then det N B*Tt N B r y*x s else 0):=λ i hi=>by
  by_cases h:i=r
  ·subst h
   rw [if_pos rfl,Ci,jU];grind
  ·rw [if_neg h,eX _ _ h,← Int.mul_assoc,On hB hr hi h];grind
 have s1:det N B*sm N (λ i=>Tt N (pt B r x) i y*(pt B r x) i s)=sm N λ i=>det N B*(Tt N (pt B r x) i y*(pt B r x) i s):=by
  have:=mK (det N B) 0 N (λ i=>Tt N (pt B r x) i y*(pt B r x) i s) (λ _=>0)
  simp only [Int.zero_mul,Int.add_zero] at this
  exact this.symm
 rw [s1,cK e]
 have s2:=mK 1 1 N (λ i=>Tt N B r x*(Tt N B i y*B i s)+(- Tt N B r y)*(Tt N B i x*B i s)) (λ i=>if i=r then det N B*Tt N B r y*x s else 0)
 simp only [Int.one_mul] at s2
 rw [s2,mK,hB y s hs,hB x s hs,gJ (p:=r) hr (λ k _ hk=>if_neg hk),if_pos rfl,det_pt]
 grind
end
def lp (u:Nat->Int):List Nat->Prop
 | []=>False
 | p::r=>0<u p∨(u p=0/\lp u r)
def lpn (u:Nat->Int):List Nat->Prop
 | []=>True
 | p::r=>0<u p∨(u p=0/\lpn u r)
theorem lp.weak {u:Nat->Int}:∀ {l:List Nat},lp u l->lpn u l
 | [],h=>h.elim
 | _::_,.inl h=>.inl h
 | _::_,.inr h=>.inr ⟨h.1,h.2.weak⟩
theorem cR {u v:Nat->Int}:∀ {l:List Nat},(∀ p∈l,u p=v p)->lp u l->lp v l
 | [],_,h=>h
 | p::r,e,h=>by
  have ep:=e p mem_cons_self
  rcases h with h | h
  ·exact .inl (ep ▸ h)
  ·exact .inr ⟨ep ▸ h.1,cR (λ q hq=>e q (mem_cons_of_mem _ hq)) h.2⟩
theorem iG {u:Nat->Int} {a:Int} (ha:0<a):∀ {l:List Nat},lp u l->lp (λ p=>a*u p) l
 | [],h=>h
 | p::r,h=>by
  rcases h with h | h
  ·exact .inl (Int.mul_pos ha h)
  ·exact .inr ⟨by show a*u p=0;rw [h.1,Int.mul_zero],iG ha h.2⟩
theorem eB {u:Nat->Int} {a:Int} (ha:0<a):∀ {l:List Nat},lp (λ p=>a*u p) l->lp u l
 | [],h=>h
 | p::r,h=>by
  rcases h with h | h
  ·left
   have h:0<a*u p:=h
   rcases Int.lt_trichotomy (u p) 0 with z | z | z
   ·have:=Int.mul_neg_of_pos_of_neg ha z;omega
   ·rw [z,Int.mul_zero] at h;omega
   ·exact z
  ·right
   have h1:a*u p=0:=h.1
   refine ⟨?_,eB ha h.2⟩
   rcases Int.mul_eq_zero.mp h1 with z | z
   ·omega
   ·exact z
theorem Bj {u:Nat->Int} {a b:Int} (ha:0<a) (hb:0<=b) {l:List Nat} (h:lp u l) (k:lpn v l):lp (λ p=>a*u p+b*v p) l:=by
 by_cases hz:b=0
 ·subst hz
  refine cR (λ p _=>?_) (iG ha h)
  omega
 ·have hb:0<b:=by omega
  clear hz
  induction l with
  | nil=>exact h.elim
  | cons p r ih =>
   rcases h with h | h
   ·left
    have h1:=Int.mul_pos ha h
    have h2:0<=b*v p:=by
     rcases k with k | k
     ·exact Int.mul_nonneg (by omega) (by omega)
     ·rw [k.1,Int.mul_zero];exact Int.le_refl _
    show 0<a*u p+b*v p
    omega
   ·rcases k with k | k
    ·left
     have h1:=Int.mul_pos hb k
     show 0<a*u p+b*v p
     rw [h.1,Int.mul_zero];omega
    ·exact .inr ⟨by show a*u p+b*v p=0;rw [h.1,k.1,Int.mul_zero,Int.mul_zero];rfl,ih h.2 k.2⟩
theorem oA {u:Nat->Int}:∀ {l:List Nat},(∀ p∈l,u p=0)->¬ lp u l
 | [],_,h=>h
 | p::r,e,h=>by
  have ep:=e p mem_cons_self
  rcases h with h | h
  ·omega
  ·exact oA (λ q hq=>e q (mem_cons_of_mem _ hq)) h.2
theorem Oj {u:Nat->Int}:∀ (l:List Nat),lp u l∨(∀ p∈l,u p=0)∨lp (λ p=>- u p) l
 | []=>.inr (.inl (λ _ h=>nomatch h))
 | p::r=>by
  rcases Int.lt_trichotomy (u p) 0 with z | z | z
  ·exact .inr (.inr (.inl (by show 0 < - u p;omega)))
  ·rcases Oj (u:=u) r with h | h | h
   ·exact .inl (.inr ⟨z,h⟩)
   ·refine .inr (.inl λ q hq=>?_)
    rcases List.mem_cons.mp hq with rfl | hq
    ·exact z
    ·exact h q hq
   ·exact .inr (.inr (.inr ⟨by show - u p=0;omega,h⟩))
  ·exact .inl (.inl z)
structure Lpd where
 m:Nat
 n:Nat
 a:Nat->Nat->Int
 be:Nat->Int
 fl:Bool
namespace Lpd
variable (L:Lpd)
def cv (j:Nat):Nat->Int:=if j<L.n then L.a j else e1 (j - L.n)
def B (s:Nat->Nat):Mx:=λ i=>if i<L.m then L.cv (s i) else e1 i
def sg:Int:=if L.fl=true then -1 else 1
theorem sg2:L.sg*L.sg=1:=by unfold sg;split <;> rfl
theorem Pa (x:Int):(L.sg*x).natAbs=x.natAbs:=by unfold sg;split <;> omega
def D (s:Nat->Nat):Int:=L.sg*det (L.m+1) (L.B s)
def T (s:Nat->Nat) (i:Nat) (y:Nat->Int):Int:=L.sg*Tt (L.m+1) (L.B s) i y
def li (p:Nat):Nat->Int:=if p=0 then L.be else e1 (p - 1)
def ls:List Nat:=List.range (L.m+1)
def sput (s:Nat->Nat) (r c:Nat):Nat->Nat:=λ i=>if i=r then c else s i
theorem B_put {r:Nat} (hr:r<L.m):L.B (sput s r c)=pt (L.B s) r (L.cv c):=by
 funext i
 unfold B sput pt
 by_cases h:i=r
 ·rw [if_pos (by omega),if_pos h,if_pos h]
 ·rw [if_neg h,if_neg h]
structure Okn (s:Nat->Nat):Prop where
 ne:L.D s≠0
 cr:Cr (L.m+1) (L.B s)
structure Ok (s:Nat->Nat):Prop where
 pos:0<L.D s
 cr:Cr (L.m+1) (L.B s)
 bn:∀ i,i<L.m->0<=L.T s i L.be
structure Okx (s:Nat->Nat):Prop where
 pos:0<L.D s
 cr:Cr (L.m+1) (L.B s)
 lex:∀ i,i<L.m->lp (λ p=>L.T s i (L.li p)) L.ls
theorem own (hi:i<L.m):L.T s i (L.cv (s i))=L.D s:=by
 have:=Hk (N:=L.m+1) (L.B s) i
 have e:L.B s i=L.cv (s i):=by unfold B;rw [if_pos hi]
 rw [e] at this
 unfold T D;rw [this]
theorem not_last (hi:i<L.m):L.T s i (e1 L.m)=0:=by
 have:=rF (N:=L.m+1) (B:=L.B s) (i:=i) (j:=L.m) (by omega) (by omega) (by omega)
 have e:L.B s L.m=e1 L.m:=by unfold B;rw [if_neg (Nat.lt_irrefl _)]
 rw [e] at this
 unfold T;rw [this,Int.mul_zero]
theorem other (hi:i<L.m+1) (hj:j<L.m) (h:i≠j):L.T s i (L.cv (s j))=0:=by
 have:=rF (N:=L.m+1) (B:=L.B s) (i:=i) (j:=j) hi (by omega) h
 have e:L.B s j=L.cv (s j):=by unfold B;rw [if_pos hj]
 rw [e] at this
 unfold T;rw [this,Int.mul_zero]
theorem sm_by (c:Int) (n:Nat) (f:Nat->Int):sm n (λ k=>c*f k)=c*sm n f:=by
 have:=mK c 0 n f f
 simp only [Int.zero_mul,Int.add_zero] at this
 exact this
theorem T_lin (hi:i<L.m+1) (y:Nat->Int):L.T s i y=sm (L.m+1) λ k=>y k*L.T s i (e1 k):=by
 unfold T
 rw [Hm hi,← sm_by]
 exact cK λ k _=>by rw [Int.mul_left_comm]
theorem cr_T (h:Cr (L.m+1) (L.B s)) (y:Nat->Int) {r:Nat} (hr:r<L.m+1):(sm (L.m+1) λ i=>L.T s i y*L.B s i r)=L.D s*y r:=by
 unfold T D
 rw [Int.mul_assoc,← h y r hr,← sm_by]
 exact cK λ k _=>by rw [Int.mul_assoc]
section
variable {L}
theorem Ok.n (o:L.Ok s):L.Okn s:=⟨Int.ne_of_gt o.pos,o.cr⟩
theorem Okx.n (o:L.Okx s):L.Okn s:=⟨Int.ne_of_gt o.pos,o.cr⟩
theorem Okx.bound_nonneg (o:L.Okx s) (hi:i<L.m):0<=L.T s i L.be:=by
 have h:=o.lex i hi
 unfold ls at h
 rw [List.range_succ_eq_map] at h
 have e:L.li 0=L.be:=by unfold li;rw [if_pos rfl]
 rcases h with h | h
 ·have h:0<L.T s i (L.li 0):=h
  rw [e] at h;omega
 ·have h:=h.1
  simp only [e] at h
  omega
theorem Okx.w (o:L.Okx s):L.Ok s:=⟨o.pos,o.cr,λ _ hi=>o.bound_nonneg hi⟩
theorem Okn.exch (o:L.Okn s) {r:Nat} (hr:r<L.m) (hi:i<L.m+1) (hne:i≠r) (y:Nat->Int):L.D s*L.T (sput s r c) i y=L.T s i y*L.T s r (L.cv c) - L.T s r y*L.T s i (L.cv c):=by
 have h:=On o.cr (show r<L.m+1 by omega) hi hne (L.cv c) y
 unfold T D
 rw [L.B_put hr]
 generalize Tt (L.m+1) (pt (L.B s) r (L.cv c)) i y=u at h ⊢
 have e1:L.sg*det (L.m+1) (L.B s)*(L.sg*u)=(L.sg*L.sg)*(det (L.m+1) (L.B s)*u):=by ac_rfl
 have e2:∀ x y:Int,L.sg*x*(L.sg*y)=(L.sg*L.sg)*(x*y):=λ x y=>by ac_rfl
 rw [e1,e2,e2,L.sg2,h,Int.one_mul,Int.one_mul,Int.one_mul]
theorem Okx.exch (o:L.Okx s) {r:Nat} (hr:r<L.m) (hi:i<L.m+1) (hne:i≠r) (y:Nat->Int):L.D s*L.T (sput s r c) i y=L.T s i y*L.T s r (L.cv c) - L.T s r y*L.T s i (L.cv c):=o.n.exch hr hi hne y
theorem Ok.same {r:Nat} (hr:r<L.m) (y:Nat->Int):L.T (sput s r c) r y=L.T s r y:=by
 unfold T;rw [L.B_put hr,Ci]
theorem Ok.newD {r:Nat} (hr:r<L.m):L.D (sput s r c)=L.T s r (L.cv c):=by
 unfold D T;rw [L.B_put hr];rfl
theorem Pw (h:L.D s≠0):det (L.m+1) (L.B s)≠0:=λ z=>h (by unfold D;rw [z,Int.mul_zero])
theorem Okn.step (o:L.Okn s) {r:Nat} (hr:r<L.m) (hp:L.T s r (L.cv c)≠0):L.Okn (sput s r c):=by
 refine ⟨by rw [Ok.newD hr];exact hp,?_⟩
 rw [L.B_put hr]
 exact o.cr.turn (Pw o.ne) (by omega) _
theorem Okx.step (o:L.Okx s) {r:Nat} (hr:r<L.m) (hp:0<L.T s r (L.cv c))
  (hmin:∀ i,i<L.m->0<L.T s i (L.cv c)->¬ lp (λ p=>- (L.T s i (L.li p)*L.T s r (L.cv c) - L.T s r (L.li p)*L.T s i (L.cv c))) L.ls):L.Okx (sput s r c):=by
 have hD:=o.pos
 have newpos:0<L.D (sput s r c):=by rw [Ok.newD hr];exact hp
 have newcr:Cr (L.m+1) (L.B (sput s r c)):=by
  rw [L.B_put hr]
  exact o.cr.turn (Pw (by omega)) (by omega) _
 refine ⟨newpos,newcr,λ i hi=>?_⟩
 by_cases hir:i=r
 ·subst hir
  exact cR (λ p _=>(Ok.same hi _).symm) (o.lex i hi)
 ·have ex:=λ y=>o.exch (c:=c) hr (show i<L.m+1 by omega) hir y
  by_cases hn:L.T s i (L.cv c)<=0
  ·refine eB hD (cR (λ p _=>?_) (Bj hp (b:=- L.T s i (L.cv c)) (by omega) (o.lex i hi) (o.lex r hr).weak))
   rw [ex];grind
  ·have hi0:0<L.T s i (L.cv c):=by omega
   rcases Oj (u:=λ p=>L.T s i (L.li p)*L.T s r (L.cv c) - L.T s r (L.li p)*L.T s i (L.cv c)) L.ls with h | h | h
   ·exact eB hD (cR (λ p _=>(ex _).symm) h)
   ·exfalso
    have z:∀ k,k<L.m+1->L.T (sput s r c) i (e1 k)=0:=λ k hk=>by
     by_cases hkm:k=L.m
     ·rw [hkm];exact L.not_last hi
     ·have h1:=h (k+1) (by unfold ls;exact List.mem_range.mpr (by omega))
      have e:L.li (k+1)=e1 k:=by unfold li;rw [if_neg (by omega)];rfl
      simp only [e] at h1
      have h2:=ex (e1 k)
      rw [h1] at h2
      rcases Int.mul_eq_zero.mp h2 with q | q
      ·omega
      ·exact q
    have hw:L.T (sput s r c) i (L.cv (sput s r c i))=0:=by
     rw [L.T_lin (by omega)]
     exact dZ λ k hk=>by rw [z k hk,Int.mul_zero]
    rw [L.own hi] at hw
    omega
   ·exact absurd h (hmin i hi hi0)
def Fur (L:Lpd) (s t:Nat->Nat):Prop:=lp (λ p=>L.T t L.m (L.li p)*L.D s - L.T s L.m (L.li p)*L.D t) L.ls
theorem Okx.further (o:L.Okx s) {r:Nat} (hr:r<L.m) (hneg:L.T s L.m (L.cv c)<0):L.Fur s (sput s r c):=by
 refine cR (λ p _=>?_) (iG (a:=- L.T s L.m (L.cv c)) (by omega) (o.lex r hr))
 have:=o.exch (c:=c) (i:=L.m) hr (by omega) (by omega) (L.li p)
 rw [Ok.newD hr,Int.mul_comm _ (L.D s),this];grind
theorem Fur.trans {t w:Nat->Nat} (hs:0<L.D s) (ht:0<L.D t) (hw:0<L.D w) (h1:L.Fur s t) (h2:L.Fur t w):L.Fur s w:=by
 refine eB ht (cR (λ p _=>?_) (Bj hs (Int.le_of_lt hw) h2 h1.weak))
 grind
end
end Lpd
def Ld (k:Nat):Nat->List (List Nat)
 | 0=>[[]]
 | m+1=>(Ld k m).flatMap λ l=>(List.range k).map λ c=>c::l
theorem wQ {k:Nat}:∀ {m:Nat} {l:List Nat},l.length=m->(∀ c∈l,c<k)->l∈Ld k m
 | 0,l,h,_=>by
  have:l=[]:=List.eq_nil_of_length_eq_zero h
  subst this;simp [Ld]
 | m+1,[],h,_=>by simp at h
 | m+1,c::l,h,hc=>by
  simp only [Ld,List.mem_flatMap,mem_map,List.mem_range]
  exact ⟨l,wQ (by simpa using h) λ x hx=>hc x (mem_cons_of_mem _ hx),c,hc c mem_cons_self,rfl⟩
namespace Lpd
variable {L:Lpd}
theorem Oy (n:Nat) (f g:Nat->Int):sm n (λ k=>f k+g k)=sm n f+sm n g:=by
 have:=mK 1 1 n f g
 simp only [Int.one_mul] at this
 exact this
theorem sm_mul (c:Int) (n:Nat) (f:Nat->Int):sm n (λ k=>c*f k)=c*sm n f:=by
 have:=mK c 0 n f f
 simp only [Int.zero_mul,Int.add_zero] at this
 exact this
theorem Jg (g:Nat->Nat->Int) (m:Nat):∀ n:Nat,sm n (λ j=>sm m λ i=>g i j)=sm m λ i=>sm n λ j=>g i j
 | 0=>(dZ λ _ _=>rfl).symm
 | n+1=>by
  show sm n (λ j=>sm m λ i=>g i j)+sm m (λ i=>g i n)=sm m λ i=>sm n (λ j=>g i j)+g i n
  rw [Jg g m n,Oy]
theorem sm_le:∀ {n:Nat} {f g:Nat->Int},(∀ k,k<n->f k<=g k)->sm n f<=sm n g
 | 0,_,_,_=>Int.le_refl _
 | n+1,f,g,h=>Int.add_le_add (sm_le λ k hk=>h k (by omega)) (h n (by omega))
theorem sm_nonneg {n:Nat} {f:Nat->Int} (h:∀ k,k<n->0<=f k):0<=sm n f:=by
 have:=sm_le (n:=n) (f:=λ _=>0) (g:=f) h
 rwa [dZ λ _ _=>rfl] at this
def spr (m:Nat) (s:Nat->Nat) (t:Nat->Int) (j:Nat):Int:=sm m λ i=>if s i=j then t i else 0
theorem spr_sum (m n:Nat) (s:Nat->Nat) (t:Nat->Int) (w:Nat->Int):(sm n λ j=>spr m s t j*w j)=sm m λ i=>if s i<n then t i*w (s i) else 0:=by
 have e:(sm n λ j=>spr m s t j*w j)=sm n λ j=>sm m λ i=>if s i=j then t i*w j else 0:=cK λ j _=>by
  unfold spr
  rw [Int.mul_comm,← sm_mul]
  exact cK λ i _=>by split <;> simp [Int.mul_comm]
 rw [e,Jg (λ i j=>if s i=j then t i*w j else 0)]
 refine cK λ i _=>?_
 by_cases h:s i<n
 ·rw [if_pos h,gJ (p:=s i) h]
  ·rw [if_pos rfl]
  ·intro k _ hk
   rw [if_neg (λ z=>hk z.symm)]
 ·rw [if_neg h]
  exact dZ λ j hj=>if_neg (by omega)
theorem Ok.by_cols (o:L.Ok s) (hs:∀ i,i<L.m->s i<L.n+L.m) (y:Nat->Int) {r:Nat} (hr:r<L.m+1) :
  (sm L.n λ j=>spr L.m s (λ i=>L.T s i y) j*L.a j r)+(sm L.m λ i=>if s i<L.n then 0 else L.T s i y*e1 (s i - L.n) r)+(if r=L.m then L.T s L.m y else 0)=L.D s*y r:=by
 have h:=L.cr_T o.cr y hr
 have h:(sm L.m λ i=>L.T s i y*L.B s i r)+L.T s L.m y*L.B s L.m r=L.D s*y r:=h
 rw [spr_sum,← h,← Oy]
 have e:(sm L.m λ i=>(if s i<L.n then L.T s i y*L.a (s i) r else 0)+(if s i<L.n then 0 else L.T s i y*e1 (s i - L.n) r))=sm L.m λ i=>L.T s i y*L.B s i r:=cK λ i hi=>by
  have eb:L.B s i=L.cv (s i):=by unfold B;rw [if_pos hi]
  rw [eb]
  unfold cv
  by_cases q:s i<L.n
  ·rw [if_pos q,if_pos q,if_pos q,Int.add_zero]
  ·rw [if_neg q,if_neg q,if_neg q,Int.zero_add]
 rw [e]
 have eb:L.B s L.m=e1 L.m:=by unfold B;rw [if_neg (Nat.lt_irrefl _)]
 rw [eb]
 unfold e1
 by_cases q:r=L.m
 ·rw [if_pos q,if_pos q,Int.mul_one]
 ·rw [if_neg q,if_neg q,Int.mul_zero]
theorem Ok.bound_nonneg (o:L.Ok s) (hi:i<L.m):0<=L.T s i L.be:=o.bn i hi
theorem spr_nonneg {t:Nat->Int} (h:∀ i,i<m->0<=t i) (j:Nat):0<=spr m s t j:=sm_nonneg λ i hi=>by
 split
 ·exact h i hi
 ·exact Int.le_refl _
theorem Ok.allowed (o:L.Ok s) (hs:∀ i,i<L.m->s i<L.n+L.m) {r:Nat} (hr:r<L.m):(sm L.n λ j=>spr L.m s (λ i=>L.T s i L.be) j*L.a j r)<=L.D s*L.be r:=by
 have h:=o.by_cols hs L.be (r:=r) (by omega)
 rw [if_neg (by omega)] at h
 have:0<=sm L.m λ i=>if s i<L.n then 0 else L.T s i L.be*e1 (s i - L.n) r:=sm_nonneg λ i hi=>by
  split
  ·exact Int.le_refl _
  ·refine Int.mul_nonneg (o.bound_nonneg hi) ?_
   unfold e1;split <;> decide
 omega
theorem Ok.no_spare (hs:∀ i,i<L.m->s i<L.n+L.m) (y:Nat->Int):(sm L.m λ i=>if s i<L.n then 0 else L.T s i y*e1 (s i - L.n) L.m)=0:=dZ λ i hi=>by
 split
 ·rfl
 ·have:=hs i hi
  unfold e1
  rw [if_neg (by omega),Int.mul_zero]
theorem Ok.earned (o:L.Ok s) (hs:∀ i,i<L.m->s i<L.n+L.m) (hb:L.be L.m=0):(sm L.n λ j=>spr L.m s (λ i=>L.T s i L.be) j*L.a j L.m) = - L.T s L.m L.be:=by
 have h:=o.by_cols hs L.be (r:=L.m) (by omega)
 rw [if_pos rfl,Ok.no_spare hs,hb,Int.mul_zero] at h
 omega
def ins0 (L:Lpd):Nat->Nat:=λ i=>L.n+i
theorem Ve:∀ i,L.B L.ins0 i=Im i:=λ i=>by
 unfold B ins0 cv
 by_cases h:i<L.m
 ·rw [if_pos h,if_neg (by omega)]
  show e1 (L.n+i - L.n)=e1 i
  rw [show L.n+i - L.n=i by omega]
 ·rw [if_neg h];rfl
theorem rG:L.B L.ins0=Im:=funext Ve
theorem vH (h:L.fl=false):L.D L.ins0=1:=by unfold D;rw [rG,qQ];unfold sg;rw [h];rfl
theorem T_start (h:L.fl=false) (hi:i<L.m+1) (y:Nat->Int):L.T L.ins0 i y=y i:=by
 unfold T;rw [rG,Hl hi];unfold sg;rw [h];exact Int.one_mul _
theorem Okn.start (h:L.fl=false):L.Okn L.ins0:=⟨by rw [vH h];decide,by rw [rG];exact Hn⟩
theorem Okx.start (hf:L.fl=false) (hb:∀ i,i<L.m->0<=L.be i):L.Okx L.ins0:=by
 refine ⟨?_,?_,λ i hi=>?_⟩
 ·rw [vH hf];decide
 ·rw [rG];exact Hn
 ·have e:∀ y,L.T L.ins0 i y=y i:=λ y=>T_start hf (by omega) y
  have one:∀ l:List Nat,i+1∈l->(∀ p∈l,p=0->0<=L.be i)->lp (λ p=>L.T L.ins0 i (L.li p)) l:=λ l=>by
   induction l with
   | nil=>intro h;cases h
   | cons p r ih =>
    intro h1 h2
    show 0<L.T L.ins0 i (L.li p)∨(L.T L.ins0 i (L.li p)=0/\_)
    rw [e]
    by_cases hp:p=0
    ·have eb:L.li p=L.be:=by unfold li;rw [if_pos hp]
     rw [eb]
     have hb0:=hb i hi
     by_cases hz:L.be i=0
     ·exact .inr ⟨hz,ih (by rcases List.mem_cons.mp h1 with q | q;omega;exact q) λ p hp=>h2 p (mem_cons_of_mem _ hp)⟩
     ·left;omega
    ·have eb:L.li p=e1 (p - 1):=by unfold li;rw [if_neg hp]
     rw [eb]
     unfold e1
     by_cases q:i=p - 1
     ·rw [if_pos q];left;decide
     ·rw [if_neg q]
      exact .inr ⟨rfl,ih (by rcases List.mem_cons.mp h1 with q' | q';omega;exact q') λ p hp=>h2 p (mem_cons_of_mem _ hp)⟩
  unfold ls
  exact one _ (List.mem_range.mpr (by omega)) λ _ _ _=>hb i hi
end Lpd
def ofF {α:Type} (n:Nat) (f:Nat->α):List α:=(List.range n).map f
theorem aL (n:Nat) (f:Nat->α):(ofF n f).length=n:=by unfold ofF;rw [length_map,List.length_range]
theorem bT {n k:Nat} (f:Nat->α) (h:k<n):(ofF n f)[k]?=some (f k):=by unfold ofF;rw [getElem?_map,List.getElem?_range h];rfl
theorem dQ {n k:Nat} {f:Nat->α} {x:α} (h:(ofF n f)[k]?=some x):k<n/\x=f k:=by
 have hk:k<n:=by have:=(List.getElem?_eq_some_iff.mp h).1;rwa [aL] at this
 rw [bT f hk] at h
 exact ⟨hk,(Option.some.inj h).symm⟩
theorem bR (n:Nat) (f:Nat->α):ofF (n+1) f=ofF n f++[f n]:=by unfold ofF;rw [List.range_succ,map_append];rfl
theorem dO {n:Nat} {f:Nat->α} {x:α} (h:x∈ofF n f):∃ k,k<n/\x=f k:=by
 obtain ⟨k,hk,e⟩:=mem_map.mp h
 exact ⟨k,List.mem_range.mp hk,e.symm⟩
theorem fY {n:Nat} {f g:Nat->α} (h:∀ k,k<n->f k=g k):ofF n f=ofF n g:=map_congr_left λ k hk=>h k (List.mem_range.mp hk)
theorem Bz (n:Nat) (f:Nat->Int):(ofF n f).sum=sm n f:=by
 induction n with
 | zero=>rfl
 | succ n ih=>rw [bR,List.sum_append,ih];show sm n f+(f n+0)=sm n f+f n;rw [Int.add_zero]
theorem Ua {n:Nat} {f:Nat->Int} {v:Int}:(ofF n f).set i v=ofF n λ k=>if k=i then v else f k:=by
 apply List.ext_getElem?
 intro k
 rw [getElem?_set]
 by_cases hk:k<n
 ·rw [bT (λ k=>if k=i then v else f k) hk]
  by_cases e:i=k
  ·rw [if_pos e,if_pos (by rw [aL];omega),if_pos e.symm]
  ·rw [if_neg e,if_neg (Ne.symm e),bT _ hk]
 ·rw [getElem?_eq_none (l:=ofF n λ k=>if k=i then v else f k) (by rw [aL];omega)]
  by_cases e:i=k
  ·rw [if_pos e,if_neg (by rw [aL];omega)]
  ·rw [if_neg e,getElem?_eq_none (by rw [aL];omega)]
theorem Ki {l:List Int} (h:l[i]?=some x):l.getD i 0=x:=by rw [getD_eq_getElem?_getD,h];rfl
theorem Gw:∀ {l:List Int} {p:Nat},(∀ x∈l,BB p x)->BB (p+l.length) l.sum
 | [],p,_=>by show (0:Int).natAbs<_;exact Nat.two_pow_pos _
 | a::r,p,h=>by
  have i:=Gw (l:=r) (p:=p) λ x hx=>h x (mem_cons_of_mem _ hx)
  have ha:=(h a mem_cons_self).mono (show p<=p+r.length by omega)
  rw [List.sum_cons,List.length_cons]
  exact (ha.add i).mono (by omega)
namespace Lpd
def colL (L:Lpd) (j:Nat):List Int:=ofF (L.m+1) (L.a j)
def keptL (L:Lpd) (s:Nat->Nat) (i:Nat):List Int:=ofF (L.m+1) (λ k=>L.T s i (e1 k))++[L.T s i L.be]
def insL (L:Lpd) (s:Nat->Nat):List Int:=ofF L.m λ i=>(s i:Int)
structure Lim (L:Lpd):Prop where
 m1:L.m<=100
 n1:L.n<=100
 ba:∀ j k,j<L.n->k<=L.m->BB 20000 (L.a j k)
 bc:∀ s i c,L.Okn s->i<=L.m->BB 20000 (L.T s i (L.cv c))
 bk:∀ s i k,L.Okn s->i<=L.m->k<=L.m->BB 20000 (L.T s i (e1 k))
 bb:∀ s i,L.Okn s->i<=L.m->BB 20000 (L.T s i L.be)
 bD:∀ s,L.Okn s->BB 9000 (L.D s)
theorem Lim.kept {L:Lpd} (h:L.Lim) (o:L.Okn s) (hi:i<=L.m):∀ x∈L.keptL s i,BB 20000 x:=λ x hx=>by
 unfold keptL at hx
 rcases mem_append.mp hx with hx | hx
 ·obtain ⟨k,hk,rfl⟩:=dO hx
  exact h.bk s i k o hi (by omega)
 ·rw [mem_singleton.mp hx];exact h.bb s i o hi
theorem Okn.inj {L:Lpd} (o:L.Okn s) (hi:i<L.m) (hj:j<L.m) (h:i≠j):s i≠s j:=λ e=>by
 have h1:=L.own (s:=s) hi
 have h2:L.T s i (L.cv (s j))=0:=L.other (by omega) hj h
 rw [← e,h1] at h2
 exact o.ne h2
theorem Ok.inj {L:Lpd} (o:L.Ok s) (hi:i<L.m) (hj:j<L.m) (h:i≠j):s i≠s j:=o.n.inj hi hj h
end Lpd
def Ro (row:List Int) (w:Nat):Prop:=row.length=w/\∀ m∈row,BB 20000 m
def mn (t i:Addr) (H:Hp):Hp:=λ x=>if x=t∨x=i then none else H x
theorem qM {t i:Addr}:aE (mn t i H) H:=λ b o e=>by
 unfold mn at e
 split at e
 ·cases e
 ·exact e
theorem qN {t i:Addr} (s:aE H H'):aE (mn t i H) (mn t i H'):=λ b o e=>by
 unfold mn at e ⊢
 split at e
 ·cases e
 ·rename_i h;rw [if_neg h];exact s b o e
theorem mn_of {t i x:Addr} (h:H x=some o) (h1:x≠t) (h2:x≠i):mn t i H x=some o:=by
 unfold mn;rw [if_neg (λ z=>z.elim h1 h2)];exact h
theorem bB.mn {t i:Addr}:∀ {ps:List Addr} {rs:List (List Int)},t∉ps->i∉ps->bB H ps rs->bB (mn t i H) ps rs
 | [],[],_,_,_=>trivial
 | p::ps,r::rs,h1,h2,h=>⟨mn_of h.1 (λ e=>h1 (by rw [e];exact mem_cons_self)) (λ e=>h2 (by rw [e];exact mem_cons_self)),bB.mn (λ z=>h1 (mem_cons_of_mem _ z)) (λ z=>h2 (mem_cons_of_mem _ z)) h.2⟩
 | [],_::_,_,_,h=>h.elim
 | _::_,[],_,_,h=>h.elim
def cfl (b sp k i:Addr):List (Str×V):=cF "inside" (.ref i) (cF "kept" (.ref k) (cF "spans" (.ref sp) (cF "begun" (.ref b) [])))
theorem Ai (b sp k i:Addr):(cfl b sp k i).lookup ("begun" : Str)=some (.ref b):=rfl
theorem Ah (b sp k i:Addr):(cfl b sp k i).lookup ("spans" : Str)=some (.ref sp):=rfl
theorem Ex (b sp k i:Addr):(cfl b sp k i).lookup ("kept" : Str)=some (.ref k):=rfl
structure gR (K:W.Frag) (H:Hp) (t ins:Addr) (L:Lpd) (s:Nat->Nat) (dx b sp k:Addr) (bs:List Addr) (ss:List Int) (ks:List Addr):Prop where
 ob:H t=some (.ins (aR K "Corner") dx (cfl b sp k ins))
 hb:mn t ins H b=some (.lst (List.map V.ref bs))
 hbs:bB (mn t ins H) bs (ofF L.n L.colL)
 hs:mn t ins H sp=some (.lst (List.map V.int ss))
 sl:ss.length=L.n+L.m
 sb:∀ x∈ss,BB 30000 x
 hk:mn t ins H k=some (.lst (List.map V.ref ks))
 hks:bB (mn t ins H) ks (ofF (L.m+1) (L.keptL s))
 hi:H ins=some (.lst (List.map V.int (L.insL s)))
def Jc (K:W.Frag) (H:Hp) (t ins:Addr) (L:Lpd) (s:Nat->Nat):Prop:=∃ dx b sp k bs ss ks,gR K H t ins L s dx b sp k bs ss ks
section
variable {K:W.Frag} {H H':Hp} {t ins:Addr} {L:Lpd} {s:Nat->Nat} {dx b sp k:Addr} {bs:List Addr} {ss:List Int} {ks:List Addr}
theorem gR.same (h:gR K H t ins L s dx b sp k bs ss ks) (e:aE H H'):gR K H' t ins L s dx b sp k bs ss ks :=
 ⟨e _ _ h.ob,qN e _ _ h.hb,h.hbs.same (qN e),qN e _ _ h.hs,h.sl,h.sb,qN e _ _ h.hk,h.hks.same (qN e),e _ _ h.hi⟩
theorem Jc.same (h:Jc K H t ins L s) (e:aE H H'):Jc K H' t ins L s:=let ⟨dx,b,sp,k,bs,ss,ks,c⟩:=h;⟨dx,b,sp,k,bs,ss,ks,c.same e⟩
theorem gR.B (h:gR K H t ins L s dx b sp k bs ss ks):H b=some (.lst (List.map V.ref bs)):=qM _ _ h.hb
theorem gR.Bs (h:gR K H t ins L s dx b sp k bs ss ks):bB H bs (ofF L.n L.colL):=h.hbs.same qM
theorem gR.S (h:gR K H t ins L s dx b sp k bs ss ks):H sp=some (.lst (List.map V.int ss)):=qM _ _ h.hs
theorem gR.Kp (h:gR K H t ins L s dx b sp k bs ss ks):H k=some (.lst (List.map V.ref ks)):=qM _ _ h.hk
theorem gR.Ks (h:gR K H t ins L s dx b sp k bs ss ks):bB H ks (ofF (L.m+1) (L.keptL s)):=h.hks.same qM
theorem gR.bl (h:gR K H t ins L s dx b sp k bs ss ks):bs.length=L.n:=by rw [h.hbs.length,aL]
theorem gR.kl (h:gR K H t ins L s dx b sp k bs ss ks):ks.length=L.m+1:=by rw [h.hks.length,aL]
theorem gR.row (h:gR K H t ins L s dx b sp k bs ss ks) (hi:i<=L.m):∃ p,ks[i]?=some p/\atI (List.map V.ref ks) (i:Int)=some (.ref p)/\H p=some (.lst (List.map V.int (L.keptL s i))):=by
 have hl:=h.kl
 obtain ⟨p,hp⟩:∃ p,ks[i]?=some p:=⟨_,getElem?_eq_getElem (by omega)⟩
 obtain ⟨r,e1,e2⟩:=h.Ks.get hp
 obtain ⟨_,rfl⟩:=dQ e1
 exact ⟨p,hp,cE (by rw [getElem?_map,hp];rfl),e2⟩
theorem gR.last (h:gR K H t ins L s dx b sp k bs ss ks):∃ p,ks[L.m]?=some p/\atI (List.map V.ref ks) (-1)=some (.ref p)/\H p=some (.lst (List.map V.int (L.keptL s L.m))):=by
 have hl:=h.kl
 obtain ⟨p,hp,_,e⟩:=h.row (Nat.le_refl L.m)
 exact ⟨p,hp,wV (by rw [length_map,hl,getElem?_map,show L.m+1 - 1=L.m by omega,hp];rfl),e⟩
theorem gR.col (h:gR K H t ins L s dx b sp k bs ss ks) (hj:j<L.n):∃ p,bs[j]?=some p/\atI (List.map V.ref bs) (j:Int)=some (.ref p)/\H p=some (.lst (List.map V.int (L.colL j))):=by
 have hl:=h.bl
 obtain ⟨p,hp⟩:∃ p,bs[j]?=some p:=⟨_,getElem?_eq_getElem (by omega)⟩
 obtain ⟨r,e1,e2⟩:=h.Bs.get hp
 obtain ⟨_,rfl⟩:=dQ e1
 exact ⟨p,hp,cE (by rw [getElem?_map,hp];rfl),e2⟩
end
def yT (K:W.Frag) (H:Hp) (t ins:Addr) (L:Lpd) (s:Nat->Nat) (f:Addr):Prop:=∃ dx b sp k bs ss ks,gR K H t ins L s dx b sp k bs ss ks/\f≠b/\f≠sp/\f≠k/\f∉bs/\f∉ks
section
variable {K:W.Frag} {H H':Hp} {t ins f:Addr} {L:Lpd} {s:Nat->Nat} {dx b sp k:Addr} {bs:List Addr} {ss:List Int} {ks:List Addr}
theorem yT.at (h:yT K H t ins L s f):Jc K H t ins L s:=let ⟨dx,b,sp,k,bs,ss,ks,c,_⟩:=h;⟨dx,b,sp,k,bs,ss,ks,c⟩
theorem yT.same (h:yT K H t ins L s f) (e:aE H H'):yT K H' t ins L s f:=let ⟨dx,b,sp,k,bs,ss,ks,c,r⟩:=h;⟨dx,b,sp,k,bs,ss,ks,c.same e,r⟩
theorem tY {xs ys:List Addr} (h:List.map V.ref xs=List.map V.ref ys):xs=ys:=(List.map_inj_right (λ a b h=>by injection h)).mp h
theorem yT.of (h:yT K H t ins L s f) (P:gR K H t ins L s dx b sp k bs ss ks):f≠b/\f≠sp/\f≠k/\f∉bs/\f∉ks:=by
 obtain ⟨dx',b',sp',k',bs',ss',ks',P',r⟩:=h
 have e:=Option.some.inj (P'.ob.symm.trans P.ob)
 injection e with _ _ e
 have e1:b'=b:=by have:=congrArg (List.lookup ("begun" : Str)) e;rw [Ai,Ai] at this;injection this with this;injection this
 have e2:sp'=sp:=by have:=congrArg (List.lookup ("spans" : Str)) e;rw [Ah,Ah] at this;injection this with this;injection this
 have e3:k'=k:=by have:=congrArg (List.lookup ("kept" : Str)) e;rw [Ex,Ex] at this;injection this with this;injection this
 subst e1 e2 e3
 have e4:bs'=bs:=by have:=Option.some.inj (P'.hb.symm.trans P.hb);injection this with this;exact tY this
 have e5:ks'=ks:=by have:=Option.some.inj (P'.hk.symm.trans P.hk);injection this with this;exact tY this
 subst e4 e5
 exact r
theorem qL {x:Addr} (h1:x≠t) (h2:x≠ins):mn t ins (upd H x o)=upd (mn t ins H) x o:=by
 funext y
 unfold mn
 by_cases e:y=x
 ·rw [e,if_neg (λ z=>z.elim h1 h2),aD,aD]
 ·rw [aN e,aN e]
theorem yT.upd (h:yT K H t ins L s f) (h1:f≠t) (h2:f≠ins):yT K (L2.upd H f o) t ins L s f:=by
 obtain ⟨dx,b,sp,k,bs,ss,ks,P,n1,n2,n3,n4,n5⟩:=h
 refine ⟨dx,b,sp,k,bs,ss,ks,⟨?_,?_,?_,?_,P.sl,P.sb,?_,?_,?_⟩,n1,n2,n3,n4,n5⟩
 ·rw [aN h1.symm];exact P.ob
 ·rw [qL h1 h2,aN n1.symm];exact P.hb
 ·rw [qL h1 h2];exact P.hbs.put n4
 ·rw [qL h1 h2,aN n2.symm];exact P.hs
 ·rw [qL h1 h2,aN n3.symm];exact P.hk
 ·rw [qL h1 h2];exact P.hks.put n5
 ·rw [aN h2.symm];exact P.hi
end
def lo2 (t b:Int):Int×Int:=(t.fdiv (Int.gcd t b:Nat),b.fdiv (Int.gcd t b:Nat))
theorem eY {t b:Int} (hb:0<b):Lo t b (lo2 t b).1 (lo2 t b).2:=Pk hb
theorem Lo.uniq {t b x' y':Int} (hb:0<b) (h:Lo t b x y) (h':Lo t b x' y'):x=x'/\y=y':=by
 have e:x*y'=x'*y:=by
  apply Int.eq_of_mul_eq_mul_left (show b≠0 by omega)
  have h1:=h.eq
  have h2:=h'.eq
  have:b*(x*y')=(x*b)*y':=by ac_rfl
  rw [this,h1]
  have:b*(x'*y)=(x'*b)*y:=by ac_rfl
  rw [this,h2];ac_rfl
 have d1:y∣y':=by
  have:y∣x*y':=⟨x',by rw [e,Int.mul_comm]⟩
  exact Int.natAbs_dvd_natAbs.mp (Nat.Coprime.dvd_of_dvd_mul_left (m:=x.natAbs) (Nat.Coprime.symm h.cop) (by rw [← Int.natAbs_mul];exact Int.natAbs_dvd_natAbs.mpr this))
 have d2:y'∣y:=by
  have:y'∣x'*y:=⟨x,by rw [← e,Int.mul_comm]⟩
  exact Int.natAbs_dvd_natAbs.mp (Nat.Coprime.dvd_of_dvd_mul_left (m:=x'.natAbs) (Nat.Coprime.symm h'.cop) (by rw [← Int.natAbs_mul];exact Int.natAbs_dvd_natAbs.mpr this))
 have l1:=Int.le_of_dvd h'.pos d1
 have l2:=Int.le_of_dvd h.pos d2
 have ey:y=y':=by omega
 subst ey
 exact ⟨Int.eq_of_mul_eq_mul_right (Int.ne_of_gt h.pos) e,rfl⟩
theorem Lo.is {t b:Int} (hb:0<b) (h:Lo t b x y):(x,y)=lo2 t b:=by
 obtain ⟨e1,e2⟩:=h.uniq hb (eY hb)
 rw [e1,e2]
theorem Lo.bb {t b:Int} {n:Nat} (h:Lo t b x y) (ht:BB m t) (hb:BB n b):BB m x/\BB n y:=⟨ht.of_le h.bx,hb.of_le h.by_⟩
def mx1 (g:Int):Int:=if 1 > g then 1 else g
def whF (fs:List (Int×Int)):Int×Int:=lo2 (lc fs) (mx1 (gl (clr fs)))
def whL (fs:List (Int×Int)):List Int:=cZ (clr fs)
def G9 (f:Int×Int):Prop:=0<f.2/\BB 20000 f.1/\BB 9000 f.2
def Sb (t:Addr) (H H':Hp):Prop:=∀ b o,H b=some o->b≠t->H' b=some o
def IsI (H:Hp) (t:Addr):Prop:=∃ C dx fs,H t=some (.ins C dx fs)
theorem Sb.of {t:Addr} (s:aE H H'):Sb t H H':=λ b o e _=>s b o e
theorem Sb.trans {t:Addr} {H'':Hp} (a:Sb t H H') (b:Sb t H' H''):Sb t H H'':=λ c o e hc=>b c o (a c o e hc) hc
theorem Sb.at {t:Addr}:Sb t H (upd H t o):=λ b u e hb=>by rw [aN hb];exact e
theorem Sb.lst {t:Addr} {xs:List V} (s:Sb t H H') (i:IsI H t) (h:H a=some (.lst xs)):H' a=some (.lst xs):=by
 obtain ⟨C,dx,fs,e⟩:=i
 exact s a _ h (eK h e (by intro z;cases z))
theorem Sb.rws {t:Addr} (s:Sb t H H') (i:IsI H t):∀ {ps:List Addr} {rs:List (List Int)},bB H ps rs->bB H' ps rs
 | [],[],_=>trivial
 | _::_,_::_,h=>⟨s.lst i h.1,s.rws i h.2⟩
 | [],_::_,h=>h.elim
 | _::_,[],h=>h.elim
theorem Sb.free {t:Addr} (s:Sb t H H') (h:H' d=none) (n:d≠t):H d=none:=by
 cases e:H d with
 | none=>rfl
 | some o=>have:=s d o e n;rw [h] at this;cases this
def dS (K:W.Frag) (H:Hp):List Addr->List (List (Int×Int))->Prop
 | [],[]=>True
 | p::ps,r::rs=>(∃ qs,H p=some (.lst (List.map V.ref qs))/\aO K H qs r)/\dS K H ps rs
 | _,_=>False
theorem dS.same {K:W.Frag} (s:aE H H'):∀ {ps:List Addr} {rs:List (List (Int×Int))},dS K H ps rs->dS K H' ps rs
 | [],[],_=>trivial
 | _::_,_::_,h=>⟨let ⟨qs,a,b⟩:=h.1;⟨qs,s _ _ a,b.same s⟩,h.2.same s⟩
 | [],_::_,h=>h.elim
 | _::_,[],h=>h.elim
theorem dS.length {K:W.Frag}:∀ {ps:List Addr} {rs:List (List (Int×Int))},dS K H ps rs->ps.length=rs.length
 | [],[],_=>rfl
 | _::_,_::_,h=>by rw [List.length_cons,List.length_cons,h.2.length]
 | [],_::_,h=>h.elim
 | _::_,[],h=>h.elim
theorem dS.get {K:W.Frag}:∀ {ps:List Addr} {rs:List (List (Int×Int))} {i:Nat} {p:Addr},dS K H ps rs->ps[i]?=some p->∃ r qs,rs[i]?=some r/\H p=some (.lst (List.map V.ref qs))/\aO K H qs r
 | [],[],_,_,_,e=>by simp at e
 | _::_,r::_,0,_,h,e=>by simp at e;subst e;obtain ⟨qs,a,b⟩:=h.1;exact ⟨r,qs,rfl,a,b⟩
 | _::_,_::_,i+1,_,h,e=>by
  obtain ⟨f,qs,e1,e2⟩:=h.2.get (i:=i) (by simpa using e)
  exact ⟨f,qs,by simpa using e1,e2⟩
 | [],_::_,_,_,h,_=>h.elim
 | _::_,[],_,_,h,_=>h.elim
theorem dS.append {K:W.Frag} {qs:List Addr} {gs:List (List (Int×Int))} (hq:dS K H qs gs):∀ {ps:List Addr} {rs:List (List (Int×Int))},dS K H ps rs->dS K H (ps++qs) (rs++gs)
 | [],[],_=>hq
 | _::_,_::_,h=>⟨h.1,dS.append hq h.2⟩
 | [],_::_,h=>h.elim
 | _::_,[],h=>h.elim
def rW (H:Hp):List Addr->List (List (Int×Int))->Prop
 | [],[]=>True
 | p::ps,r::rs=>(∃ f l,H p=some (.tup [.ref f,.ref l])/\H f=some (.tup [.int (whF r).1,.int (whF r).2])/\H l=some (.lst (List.map V.int (whL r))))/\rW H ps rs
 | _,_=>False
theorem rW.same (s:aE H H'):∀ {ps:List Addr} {rs:List (List (Int×Int))},rW H ps rs->rW H' ps rs
 | [],[],_=>trivial
 | _::_,_::_,h=>⟨let ⟨f,l,a,b,c⟩:=h.1;⟨f,l,s _ _ a,s _ _ b,s _ _ c⟩,h.2.same s⟩
 | [],_::_,h=>h.elim
 | _::_,[],h=>h.elim
theorem rW.length:∀ {ps:List Addr} {rs:List (List (Int×Int))},rW H ps rs->ps.length=rs.length
 | [],[],_=>rfl
 | _::_,_::_,h=>by rw [List.length_cons,List.length_cons,h.2.length]
 | [],_::_,h=>h.elim
 | _::_,[],h=>h.elim
theorem rW.get:∀ {ps:List Addr} {rs:List (List (Int×Int))} {i:Nat} {p:Addr},rW H ps rs->ps[i]?=some p->∃ r f l,rs[i]?=some r/\H p=some (.tup [.ref f,.ref l])/\H f=some (.tup [.int (whF r).1,.int (whF r).2])/\H l=some (.lst (List.map V.int (whL r)))
 | [],[],_,_,_,e=>by simp at e
 | _::_,r::_,0,_,h,e=>by simp at e;subst e;obtain ⟨f,l,a,b,c⟩:=h.1;exact ⟨r,f,l,rfl,a,b,c⟩
 | _::_,_::_,i+1,_,h,e=>by
  obtain ⟨r,f,l,e1,e2⟩:=h.2.get (i:=i) (by simpa using e)
  exact ⟨r,f,l,by simpa using e1,e2⟩
 | [],_::_,_,_,h,_=>h.elim
 | _::_,[],_,_,h,_=>h.elim
theorem rW.append {qs:List Addr} {gs:List (List (Int×Int))} (hq:rW H qs gs):∀ {ps:List Addr} {rs:List (List (Int×Int))},rW H ps rs->rW H (ps++qs) (rs++gs)
 | [],[],_=>hq
 | _::_,_::_,h=>⟨h.1,rW.append hq h.2⟩
 | [],_::_,h=>h.elim
 | _::_,[],h=>h.elim
def fov (f g:Int×Int):Int×Int:=lo2 (f.1*g.2) (f.2*g.1)
theorem Lpd.out {L:Lpd} (h:L.T s L.m (L.cv c)<0) (hi:i<L.m):s i≠c:=λ e=>by
 have:=L.other (s:=s) (i:=L.m) (j:=i) (by omega) hi (by omega)
 rw [e] at this
 omega
theorem yZ {a:Int} (ha:0<a) (h:0<=x*a):0<=x:=Classical.byContradiction λ z=>by
 have:=Int.mul_neg_of_neg_of_pos (show x<0 by omega) ha
 omega
theorem lK {t b:Int} (hb:0<b) (ht:0<=t):0<=(lo2 t b).1:=by
 have l:=eY (t:=t) hb
 refine yZ hb ?_
 rw [l.eq]
 exact Int.mul_nonneg ht (Int.le_of_lt l.pos)
theorem dS.put {K:W.Frag} {q:Addr} {ys zs:List V} (hq:H q=some (.lst ys)):∀ {ps:List Addr} {rs:List (List (Int×Int))},q∉ps->dS K H ps rs->dS K (upd H q (.lst zs)) ps rs
 | [],[],_,_=>trivial
 | p::_,_::_,hn,h=>⟨let ⟨qs,a,b⟩:=h.1;⟨qs,by rw [aN (λ e:p=q=>hn (by rw [e];exact mem_cons_self))];exact a,b.off hq⟩,dS.put hq (λ z=>hn (mem_cons_of_mem _ z)) h.2⟩
 | [],_::_,_,h=>h.elim
 | _::_,[],_,h=>h.elim
theorem dS.has {K:W.Frag} {rs:List (List (Int×Int))} (h:dS K H ps rs) {p:Addr} (hp:p∈ps):∃ r qs,r∈rs/\H p=some (.lst (List.map V.ref qs))/\aO K H qs r:=by
 obtain ⟨i,hi⟩:=getElem?_of_mem hp
 obtain ⟨r,qs,e1,e2⟩:=h.get hi
 exact ⟨r,qs,mem_of_getElem? e1,e2⟩
def rY (H:Hp):List Addr->List Addr->Prop
 | [],[]=>True
 | p::ps,q::qs=>(∃ rs,H p=some (.lst (List.map V.ref rs))/\H q=some (.lst (List.map V.ref rs))/\p≠q)/\rY H ps qs
 | _,_=>False
theorem rY.same (s:aE H H'):∀ {ps qs:List Addr},rY H ps qs->rY H' ps qs
 | [],[],_=>trivial
 | _::_,_::_,h=>⟨let ⟨rs,a,b,c⟩:=h.1;⟨rs,s _ _ a,s _ _ b,c⟩,h.2.same s⟩
 | [],_::_,h=>h.elim
 | _::_,[],h=>h.elim
theorem rY.length:∀ {ps qs:List Addr},rY H ps qs->ps.length=qs.length
 | [],[],_=>rfl
 | _::_,_::_,h=>by rw [List.length_cons,List.length_cons,h.2.length]
 | [],_::_,h=>h.elim
 | _::_,[],h=>h.elim
theorem rY.append {qs2:List Addr} (hq:rY H ps2 qs2):∀ {ps qs:List Addr},rY H ps qs->rY H (ps++ps2) (qs++qs2)
 | [],[],_=>hq
 | _::_,_::_,h=>⟨h.1,rY.append hq h.2⟩
 | [],_::_,h=>h.elim
 | _::_,[],h=>h.elim
theorem rY.get:∀ {ps qs:List Addr} {i:Nat} {p q:Addr},rY H ps qs->ps[i]?=some p->qs[i]?=some q->∃ rs,H p=some (.lst (List.map V.ref rs))/\H q=some (.lst (List.map V.ref rs))/\p≠q
 | [],[],_,_,_,_,e,_=>by simp at e
 | _::_,_::_,0,_,_,h,e1,e2=>by simp at e1 e2;subst e1 e2;exact h.1
 | _::_,_::_,i+1,_,_,h,e1,e2=>h.2.get (i:=i) (by simpa using e1) (by simpa using e2)
 | [],_::_,_,_,_,h,_,_=>h.elim
 | _::_,[],_,_,_,h,_,_=>h.elim
def Tw (K:W.Frag) (H:Hp) (p q:Addr) (a b c d:Int):Prop:=SqT K H p [.int a,.int b]/\SqT K H q [.int c,.int d]/\BB 20000 a/\BB 20000 b/\BB 20000 c/\BB 20000 d
theorem aO.snoc {K:W.Frag} {q:Addr} {fs:List (Int×Int)} (h:aO K H ps fs) (hq:SqT K H q [.int g.1,.int g.2]):aO K H (ps++[q]) (fs++[g]):=aO.append (show aO K H [q] [g] from ⟨hq,trivial⟩) h
def nsm:Nat->(Nat->Nat)->Nat
 | 0,_=>0
 | n+1,c=>nsm n c+c n
theorem zV:∀ {n:Nat} {c d:Nat->Nat},(∀ i,i<n->c i=d i)->nsm n c=nsm n d
 | 0,_,_,_=>rfl
 | n+1,c,d,h=>by
  show nsm n c+c n=nsm n d+d n
  rw [zV (n:=n) λ i hi=>h i (by omega),h n (by omega)]
theorem Jx (c:Nat->Nat):∀ {n k:Nat},k<=n->nsm n (λ i=>c (skp k i))+c k=nsm (n+1) c
 | 0,k,h=>by
  have:k=0:=by omega
  subst this;show 0+c 0=0+c 0;rfl
 | n+1,k,h=>by
  show nsm n (λ i=>c (skp k i))+c (skp k n)+c k=nsm (n+1) c+c (n+1)
  by_cases e:k=n+1
  ·subst e
   have e1:nsm n (λ i=>c (skp (n+1) i))=nsm n c:=zV λ i hi=>by unfold skp;rw [if_pos (by omega)]
   have e2:skp (n+1) n=n:=by unfold skp;rw [if_pos (by omega)]
   rw [e1,e2];rfl
  ·have ih:=Jx c (n:=n) (k:=k) (by omega)
   have e2:skp k n=n+1:=by unfold skp;rw [if_neg (by omega)]
   rw [e2];omega
theorem bb_abs {n:Nat} (h:BB n x) (e:y.natAbs=x.natAbs):BB n y:=by unfold BB at *;omega
theorem Hi:∀ {N:Nat} {M:Mx} {c:Nat->Nat},(∀ i,i<N->∀ r,r<N->BB (c i) (M i r))->BB (nsm N c+N*N+1) (det N M)
 | 0,_,_,_=>by show (1:Int).natAbs<2 ^ 1;decide
 | n+1,M,c,h=>by
  have e:det (n+1) M=(ofF (n+1) λ k=>sg k*M k 0*det n (mnr M k)).sum:=(Bz _ _).symm
  rw [e]
  have:=Gw (l:=ofF (n+1) λ k=>sg k*M k 0*det n (mnr M k)) (p:=nsm (n+1) c+n*n+1) λ x hx=>by
   obtain ⟨k,hk,rfl⟩:=dO hx
   have ih:=Hi (N:=n) (M:=mnr M k) (c:=λ i=>c (skp k i)) λ i hi r hr=>h _ (Oz hi) _ (by omega)
   have h0:=h k hk 0 (by omega)
   have hs:=Jx c (n:=n) (k:=k) (by omega)
   refine bb_abs ((h0.mul ih).mono (by omega)) ?_
   rw [Int.natAbs_mul,Int.natAbs_mul,Pa,Nat.one_mul,Int.natAbs_mul]
  rw [aL] at this
  refine this.mono ?_
  have:(n+1)*(n+1)=n*n+n+n+1:=by rw [Nat.add_mul,Nat.mul_add];omega
  omega
theorem bb_e1 (h:1<=q) (k r:Nat):BB q (e1 k r):=by
 unfold e1
 have h2:1<2 ^ q:=Nat.one_lt_two_pow (by omega)
 split
 ·show (1:Int).natAbs<_;exact h2
 ·show (0:Int).natAbs<_;exact Nat.two_pow_pos _
theorem sU (q:Nat):∀ n,nsm n (λ _=>q)=n*q
 | 0=>by rw [Nat.zero_mul];rfl
 | n+1=>by show nsm n (λ _=>q)+q=_;rw [sU q n,Nat.add_mul,Nat.one_mul]
def Gp (p r:Nat) (f:Int×Int):Prop:=0<f.2/\BB p f.1/\BB r f.2
theorem Pn:∀ (fs:List (Int×Int)) (n:Int) (m r:Nat),0<n->BB m n->(∀ f∈fs,0<f.2)->(∀ f∈fs,BB r f.2)->BB (m+r*fs.length) (fs.foldl lcf n)
 | [],_,_,_,_,h,_,_=>h
 | a::t,n,m,r,hn,h,h1,h2=>by
  rw [List.foldl_cons]
  obtain ⟨o1,_,_,_,o5⟩:=Hg hn (h1 a mem_cons_self)
  have b:BB (m+r) (lcf n a):=h.mul ((h2 a mem_cons_self).of_le o5)
  have:=Pn t (lcf n a) (m+r) r o1 b (λ f hf=>h1 f (mem_cons_of_mem _ hf)) λ f hf=>h2 f (mem_cons_of_mem _ hf)
  rw [List.length_cons]
  refine this.mono ?_
  rw [Nat.mul_add,Nat.mul_one];omega
theorem Pm {fs:List (Int×Int)} {r:Nat} (h:∀ f∈fs,Gp p r f):BB (1+r*fs.length) (lc fs):=Pn fs 1 1 r (by decide) (by show (1:Int).natAbs<2 ^ 1;decide) (λ f hf=>(h f hf).1) λ f hf=>(h f hf).2.2
theorem Uy {fs:List (Int×Int)} {r:Nat} (h:∀ f∈fs,Gp p r f) (hq:BB q (lc fs)):∀ x∈clr fs,BB (p+q) x:=λ x hx=>by
 obtain ⟨f,hf,rfl⟩:=mem_map.mp hx
 have g:=h f hf
 obtain ⟨k,hk⟩:=(vS fs 1 (by decide) λ f hf=>(h f hf).1).2.2.1 f hf
 have hk:lc fs=f.2*k:=hk
 have ek:(lc fs).fdiv f.2=k:=by rw [hk];exact Int.mul_fdiv_cancel_left _ (Int.ne_of_gt g.1)
 refine g.2.1.mul (hq.of_le ?_)
 rw [ek,hk,Int.natAbs_mul]
 exact Nat.le_mul_of_pos_left _ (by have:=g.1;omega)
theorem dS.set {K:W.Frag} {q:Addr} {g:List (Int×Int)} (hq:∃ qs,H q=some (.lst (List.map V.ref qs))/\aO K H qs g):∀ {ps:List Addr} {rs:List (List (Int×Int))} (i:Nat),dS K H ps rs->dS K H (ps.set i q) (rs.set i g)
 | [],[],_,_=>trivial
 | _::_,_::_,0,h=>⟨hq,h.2⟩
 | _::_,_::_,i+1,h=>⟨h.1,dS.set hq i h.2⟩
 | [],_::_,_,h=>h.elim
 | _::_,[],_,h=>h.elim
namespace Lpd
def rowL (L:Lpd) (i:Nat):List Int:=ofF L.n (λ j=>L.a j i)++[L.be i]
end Lpd
structure Gg (H:Hp) (a:Addr) (rps:List Addr) (L:Lpd):Prop where
 ha:H a=some (.lst (List.map V.ref rps))
 hr:bB H rps (ofF (L.m+1) L.rowL)
theorem Gg.same {L:Lpd} (h:Gg H a rps L) (s:aE H H'):Gg H' a rps L:=⟨s _ _ h.ha,h.hr.same s⟩
theorem Gg.len {L:Lpd} (h:Gg H a rps L):rps.length=L.m+1:=by rw [h.hr.length,aL]
theorem Gg.row {L:Lpd} (h:Gg H a rps L) (hi:i<=L.m):∃ p,rps[i]?=some p/\H p=some (.lst (List.map V.int (L.rowL i))):=by
 have hl:=h.len
 obtain ⟨p,hp⟩:∃ p,rps[i]?=some p:=⟨_,getElem?_eq_getElem (by omega)⟩
 obtain ⟨r,e1,e2⟩:=h.hr.get hp
 obtain ⟨_,rfl⟩:=dQ e1
 exact ⟨p,hp,e2⟩
theorem Ed {l:List α} {x y:α} (e:(l++[x])[h]?=some y):(l[h]?=some y/\h<l.length)∨(h=l.length/\y=x):=by
 by_cases hlt:h<l.length
 ·rw [getElem?_append_left hlt] at e
  exact .inl ⟨e,hlt⟩
 ·have hh:h=l.length:=by have:=(List.getElem?_eq_some_iff.mp e).1;rw [length_append] at this;simp at this;omega
  rw [getElem?_append_right (by omega),hh,Nat.sub_self] at e
  cases e
  exact .inr ⟨hh,rfl⟩
def va (f:Int×Int):Rat:=(f.1:Rat) / (f.2:Rat)
theorem cY (h:0<z):(0:Rat)<z:=by exact_mod_cast h
theorem hE (h:0<f.2):va f*f.2=f.1:=by
 unfold va
 have:=cY h
 exact Rat.div_mul_cancel (by grind)
theorem iH {a b c:Rat} (hc:0<c) (h:a*c=b):a=b / c:=by
 have:c≠0:=by grind
 rw [← h,Rat.div_def,Rat.mul_assoc,Rat.mul_inv_cancel _ this,Rat.mul_one]
theorem gA {a b c:Rat} (hc:0<c) (h:a*c=b*c):a=b:=by
 have h1:=iH hc h
 have h2:=iH (a:=b) hc rfl
 rw [h1,← h2]
theorem va_of {t b:Int} (hf:0<f.2) (hb:0<b) (e:f.1*b=t*f.2):va f=(t:Rat) / b:=by
 have h1:=hE hf
 have h2:=cY hf
 have h3:=cY hb
 have e':(f.1:Rat)*b=t*f.2:=by exact_mod_cast congrArg (λ z:Int=>(z:Rat)) e
 refine iH h3 (gA h2 ?_)
 rw [← e',← h1];grind
theorem Oe {t b:Int} (hb:0<b) (l:Lo t b x y):va (x,y)=(t:Rat) / b:=va_of l.pos hb l.eq
theorem Of (hf:0<f.2) (hg:0<g.2):va f<=va g↔f.1*g.2<=g.1*f.2:=by
 have h1:=hE hf
 have h2:=hE hg
 have p1:=cY hf
 have p2:=cY hg
 have pp:=Rat.mul_pos p1 p2
 have e1:va f*((f.2:Rat)*g.2)=((f.1*g.2:Int):Rat):=by rw [Rat.intCast_mul,← h1];grind
 have e2:va g*((f.2:Rat)*g.2)=((g.1*f.2:Int):Rat):=by rw [Rat.intCast_mul,← h2];grind
 constructor
 ·intro h
  have:=Rat.mul_le_mul_of_nonneg_right h (c:=(f.2:Rat)*g.2) (by grind)
  rw [e1,e2] at this
  exact Rat.intCast_le_intCast.mp this
 ·intro h
  refine Rat.le_of_mul_le_mul_right (c:=(f.2:Rat)*g.2) ?_ pp
  rw [e1,e2]
  exact Rat.intCast_le_intCast.mpr h
theorem va_one:va (1,1)=1:=by unfold va;decide +kernel
theorem qH:va (0,1)=0:=by unfold va;decide +kernel
theorem hZ (hf:0<f.2) (h:0<=f.1):0<=va f:=by
 have:=(Of (f:=(0,1)) (g:=f) (by decide) hf).mpr (by simpa using h)
 rwa [qH] at this
def rsm:Nat->(Nat->Rat)->Rat
 | 0,_=>0
 | n+1,f=>rsm n f+f n
theorem bK {f g:Nat->Rat}:∀ {n:Nat},(∀ k,k<n->f k=g k)->rsm n f=rsm n g
 | 0,_=>rfl
 | n+1,h=>by
  show rsm n f+f n=rsm n g+g n
  rw [bK (n:=n) λ k hk=>h k (by omega),h n (by omega)]
theorem fC {f:Nat->Rat} {c:Rat}:∀ {n:Nat},rsm n (λ k=>f k*c)=rsm n f*c
 | 0=>by show (0:Rat)=0*c;grind
 | n+1=>by
  show rsm n (λ k=>f k*c)+f n*c=(rsm n f+f n)*c
  rw [fC];grind
theorem Bw {f g:Nat->Rat}:∀ {n:Nat},rsm n (λ k=>f k+g k)=rsm n f+rsm n g
 | 0=>by show (0:Rat)=0+0;grind
 | n+1=>by
  show rsm n (λ k=>f k+g k)+(f n+g n)=rsm n f+f n+(rsm n g+g n)
  rw [Bw];grind
theorem Pb {f g:Nat->Rat}:∀ {n:Nat},(∀ k,k<n->f k<=g k)->rsm n f<=rsm n g
 | 0,_=>by show (0:Rat)<=0;grind
 | n+1,h=>by
  show rsm n f+f n<=rsm n g+g n
  have h1:=Pb (n:=n) λ k hk=>h k (by omega)
  have h2:=h n (by omega)
  grind
theorem lH {f:Nat->Rat}:∀ {n:Nat},(∀ k,k<n->0<=f k)->0<=rsm n f
 | 0,_=>by show (0:Rat)<=0;grind
 | n+1,h=>by
  show 0<=rsm n f+f n
  have h1:=lH (n:=n) λ k hk=>h k (by omega)
  have h2:=h n (by omega)
  grind
theorem Eg {f:Nat->Rat}:∀ {n:Nat},(∀ k,k<n->0<=f k)->rsm n f=0->∀ k,k<n->f k=0
 | 0,_,_,_,hk=>absurd hk (Nat.not_lt_zero _)
 | n+1,h,e,k,hk=>by
  have e:rsm n f+f n=0:=e
  have h1:=lH (n:=n) λ k hk=>h k (by omega)
  have h2:=h n (by omega)
  by_cases hn:k=n
  ·subst hn;grind
  ·exact Eg (n:=n) (λ k hk=>h k (by omega)) (by grind) k (by omega)
theorem Eh {f:Nat->Rat}:∀ {n:Nat},(∀ k,k<n->f k=0)->rsm n f=0
 | 0,_=>rfl
 | n+1,h=>by
  show rsm n f+f n=0
  rw [Eh (n:=n) λ k hk=>h k (by omega),h n (by omega)];grind
structure Gm (m n:Nat) (r:Nat->Nat->Rat) (v:Rat) (p q:Nat->Rat):Prop where
 p0:∀ i,i<m->0<=p i
 p1:rsm m p=1
 q0:∀ j,j<n->0<=q j
 q1:rsm n q=1
 lo:∀ j,j<n->v<=rsm m λ i=>p i*r i j
 hi:∀ i,i<m->(rsm n λ j=>r i j*q j)<=v
theorem Kl {M:Int} (h:x*M=z*y) (g:Int.gcd x y=1):y∣M:=by
 have h1:y∣x*M:=⟨z,by rw [h,Int.mul_comm]⟩
 have h2:=Int.natAbs_dvd_natAbs.mpr h1
 rw [Int.natAbs_mul] at h2
 have c:Nat.Coprime y.natAbs x.natAbs:=by show Nat.gcd _ _=1;rw [Nat.gcd_comm];exact g
 exact Int.natAbs_dvd_natAbs.mp (c.dvd_of_dvd_mul_left h2)
theorem Bf (hf:0<f.2) (h:va f<=1):f.1<=f.2:=by
 rw [← va_one] at h
 have:=(Of hf (by decide)).mp h
 simpa using this
theorem Bp {n:Nat} {M:Int} (h:BB n M) (hM:0<M) (d:x∣M):BB n x:=h.of_le (Nat.le_of_dvd (by omega) (Int.natAbs_dvd_natAbs.mpr d))
theorem Ot (hf:0<f.2) (hg:0<g.2):va (lo2 (f.1*g.2+g.1*f.2) (f.2*g.2))=va f+va g:=by
 have z:=Int.mul_pos hf hg
 rw [show va (lo2 (f.1*g.2+g.1*f.2) (f.2*g.2))=((f.1*g.2+g.1*f.2:Int):Rat) / ((f.2*g.2:Int):Rat) from Oe z (eY z)]
 symm
 refine iH (cY z) ?_
 have h1:=hE hf
 have h2:=hE hg
 simp only [Rat.intCast_add,Rat.intCast_mul]
 rw [← h1,← h2];grind
theorem Gj (hg:0<g.2) (hg1:0<g.1):0<va g:=by
 have h2:=hE hg
 have a:=cY hg1
 have:=hZ hg (Int.le_of_lt hg1)
 by_cases e:va g=0
 ·rw [e] at h2;grind
 ·grind
theorem va_fov (hf:0<f.2) (hg:0<g.2) (hg1:0<g.1):va (fov f g)=va f / va g:=by
 have z:=Int.mul_pos hf hg1
 have l:=eY (t:=f.1*g.2) z
 have e:va (fov f g)*((f.2*g.1:Int):Rat)=((f.1*g.2:Int):Rat):=by
  unfold fov
  rw [show va (lo2 (f.1*g.2) (f.2*g.1))=((f.1*g.2:Int):Rat) / ((f.2*g.1:Int):Rat) from Oe z l]
  exact Rat.div_mul_cancel (by have:=cY z;grind)
 have h1:=hE hf
 have h2:=hE hg
 have p1:=cY hf
 have p2:=cY hg
 refine iH (Gj hg hg1) (gA (Rat.mul_pos p1 p2) ?_)
 simp only [Rat.intCast_mul] at e
 rw [← h1,← h2] at e
 grind
theorem Sy {M:Int} (hf:0<f.2) (hg:0<g.2) (df:f.2∣M) (dg:g.2∣M):(lo2 (f.1*g.2+g.1*f.2) (f.2*g.2)).2∣M:=by
 obtain ⟨u,rfl⟩:=df
 obtain ⟨v,hv⟩:=dg
 have z:=Int.mul_pos hf hg
 have l:=eY (t:=f.1*g.2+g.1*f.2) z
 refine Kl (x:=(lo2 (f.1*g.2+g.1*f.2) (f.2*g.2)).1) (z:=f.1*u+g.1*v) ?_ l.cop
 have e:=l.eq
 have zne:f.2*g.2≠0:=by omega
 refine Int.eq_of_mul_eq_mul_right zne ?_
 generalize (lo2 (f.1*g.2+g.1*f.2) (f.2*g.2)).1=X at e ⊢
 generalize (lo2 (f.1*g.2+g.1*f.2) (f.2*g.2)).2=Y at e ⊢
 have:X*(f.2*u)*(f.2*g.2)=(X*(f.2*g.2))*(f.2*u):=by grind
 rw [this,e]
 grind
theorem qY {f:Nat->Rat} {i:Nat}:∀ {n:Nat},i<=n->(∀ k,k<n->0<=f k)->rsm i f<=rsm n f
 | 0,h,_=>by rw [show i=0 by omega];exact Rat.le_refl
 | n+1,h,h0=>by
  by_cases e:i=n+1
  ·rw [e];exact Rat.le_refl
  ·have h1:=qY (n:=n) (i:=i) (by omega) λ k hk=>h0 k (by omega)
   have h2:=h0 n (by omega)
   show _<=rsm n f+f n
   grind
def lft (z:Int) (f:Int×Int):Int×Int:=lo2 (f.1*1+(1 - z)*f.2) (f.2*1)
def Dd (z:Int) (frs:List (List (Int×Int))):List (List (Int×Int)):=frs.map λ r=>r.map (lft z)
structure Mnf (frs:List (List (Int×Int))) (z:Int):Prop where
 at_:∃ r∈frs,∃ f∈r,z=f.1.fdiv f.2
 le:∀ r∈frs,∀ f∈r,z<=f.1.fdiv f.2
theorem Os (hf:0<f.2):va (lft z f)=va f+(1 - z:Int):=by
 have:=Ot (g:=(1 - z,1)) hf (by decide:(0:Int)<1)
 unfold lft
 rw [this]
 congr 1
 unfold va
 show ((1 - z:Int):Rat) / ((1:Int):Rat)=_
 rw [show ((1:Int):Rat)=1 from rfl,Rat.div_def]
 grind
theorem Ut (hf:0<f.2):((f.1.fdiv f.2:Int):Rat)<=va f:=by
 refine Rat.le_of_mul_le_mul_right (c:=(f.2:Rat)) ?_ (cY hf)
 rw [hE hf,← Rat.intCast_mul]
 refine Rat.intCast_le_intCast.mpr ?_
 have:=Int.mul_fdiv_add_fmod f.1 f.2
 have h2:=Int.fmod_nonneg_of_pos f.1 hf
 rw [Int.mul_comm];omega
theorem Hf (hf:0<f.2) (h:z<=f.1.fdiv f.2):1<=va (lft z f):=by
 rw [Os hf]
 have h1:=Ut hf
 have h2:(z:Rat)<=(f.1.fdiv f.2:Int):=Rat.intCast_le_intCast.mpr h
 have h3:((1 - z:Int):Rat)=1 - z:=by rw [Rat.intCast_sub];rfl
 rw [h3];grind
theorem Gm.congr {n:Nat} {r r':Nat->Nat->Rat} {v v':Rat} {p q p' q':Nat->Rat} (h:Gm m n r v p q) (hr:∀ i j,i<m->j<n->r i j=r' i j) (hv:v=v') (hp:∀ i,i<m->p i=p' i) (hq:∀ j,j<n->q j=q' j):Gm m n r' v' p' q':=by
 refine ⟨λ i hi=>hp i hi ▸ h.p0 i hi,?_,λ j hj=>hq j hj ▸ h.q0 j hj,?_,λ j hj=>?_,λ i hi=>?_⟩
 ·rw [← h.p1];exact (bK hp).symm
 ·rw [← h.q1];exact (bK hq).symm
 ·rw [← hv,← bK λ i hi=>show p i*r i j=p' i*r' i j by rw [hp i hi,hr i j hi hj]]
  exact h.lo j hj
 ·rw [← hv,← bK λ j hj=>show r i j*q j=r' i j*q' j by rw [hq j hj,hr i j hi hj]]
  exact h.hi i hi
theorem wL {f:Nat->Rat} {n:Nat} (hi:i<n) (h:∀ k,k<n->0<=f k):f i<=rsm n f:=by
 have h1:=qY (f:=f) (i:=i+1) (n:=n) (by omega) h
 have h2:=lH (f:=f) (n:=i) λ k hk=>h k (by omega)
 have h3:rsm (i+1) f=rsm i f+f i:=rfl
 grind
theorem Rt {a b:Int} (h:0<b):(a.fdiv b).natAbs<=a.natAbs:=by
 have e:=Int.mul_fdiv_add_fmod a b
 have h1:=Int.fmod_nonneg_of_pos a h
 have h2:=Int.fmod_lt_of_pos a h
 generalize a.fdiv b=q at e ⊢
 generalize a.fmod b=r at e h1 h2
 by_cases hq:0<=q
 ·have:q<=b*q:=by have:=Int.mul_le_mul_of_nonneg_right (show (1:Int)<=b by omega) hq;omega
  omega
 ·have:b*(q+1)<=q+1:=by have:=Int.mul_le_mul_of_nonpos_right (show (1:Int)<=b by omega) (show q+1<=0 by omega);omega
  have e2:b*(q+1)=b*q+b:=by rw [Int.mul_add,Int.mul_one]
  omega
theorem Mnf.bb {frs:List (List (Int×Int))} {n:Nat} (h:Mnf frs z) (hg:∀ r∈frs,∀ f∈r,0<f.2/\BB n f.1/\BB n f.2):BB (n+1) (1 - z):=by
 obtain ⟨r,hr,f,hf,rfl⟩:=h.at_
 obtain ⟨f2,b1,_⟩:=hg r hr f hf
 have h1:BB n (f.1.fdiv f.2):=b1.of_le (Rt f2)
 have:(f.1.fdiv f.2).natAbs<2 ^ n:=h1
 show (1 - f.1.fdiv f.2).natAbs<2 ^ (n+1)
 rw [Nat.pow_succ]
 have:=Nat.two_pow_pos n
 omega
theorem Rz {K:W.Frag} {n:Nat} {p p':Addr} (h:SqT K H p [.int f.1,.int f.2]) (h':SqT K H p' [.int f.1,.int f.2]):DEq K H (n+1) (.ref p) (.ref p') true:=by
 by_cases e:p=p'
 ·subst e
  exact .inl (.inl ⟨rfl,⟨p,rfl⟩,rfl⟩)
 ·refine .inr ⟨λ z=>e (by injection z),p,p',_,_,rfl,rfl,.inr ⟨h,h',λ _=>true,λ j x' y' h1 h2=>?_,by simp⟩⟩
  have leaf:(x'=y'/\(∃ a,x'=V.ref a)/\true=true)∨∃ i k,x'=V.int i/\y'=V.int k/\true=(i == k):=by
   match j,h1,h2 with
   | 0,h1,h2=>simp at h1 h2;subst h1 h2;exact .inr ⟨_,_,rfl,rfl,by simp⟩
   | 1,h1,h2=>simp at h1 h2;subst h1 h2;exact .inr ⟨_,_,rfl,rfl,by simp⟩
   | n+2,h1,_=>simp at h1
  cases n with
  | zero=>exact leaf
  | succ n=>exact .inl leaf
theorem Lm {K:W.Frag} {n:Nat} {b:Addr} {qs:List Addr} {fs:List (Int×Int)} (ha:SqL K H a (List.map V.ref ps)) (hb:SqL K H b (List.map V.ref qs)) (hp:aO K H ps fs) (hq:aO K H qs fs):REq K H (DEq K H (n+1)) (.ref a) (.ref b) true:=by
 refine ⟨a,b,_,_,rfl,rfl,.inl ⟨ha,hb,.inr ⟨by rw [length_map,length_map,hp.length,hq.length],λ _=>true,λ j x y hx hy=>?_,by simp⟩⟩⟩
 obtain ⟨p,rfl,h1⟩:=cA hx
 obtain ⟨q,rfl,h2⟩:=cA hy
 obtain ⟨f,e,hf⟩:=hp.get h1
 obtain ⟨g,e2,hg⟩:=hq.get h2
 rw [e] at e2
 cases e2
 exact Rz hf hg
theorem Bv {f:Nat->Int}:∀ {n:Nat},((sm n f:Int):Rat)=rsm n λ k=>((f k:Int):Rat)
 | 0=>rfl
 | n+1=>by
  show ((sm n f+f n:Int):Rat)=rsm n (λ k=>((f k:Int):Rat))+((f n:Int):Rat)
  rw [Rat.intCast_add,Bv]
structure WoR (frs:List (List (Int×Int))) (n:Nat):Prop where
 m1:1<=frs.length
 m2:frs.length<=100
 n1:1<=n
 n2:n<=100
 hr:∀ r∈frs,r.length=n
 hg:∀ r∈frs,∀ f∈r,0<f.2/\BB 4000 f.1/\BB 4000 f.2
def tv (q:List Nat):List V:=q.map λ n:Nat=>V.int (n:Int)
def tk (q:List Nat):List Key:=q.map λ n:Nat=>(Sum.inl (n:Int):Key)
theorem vN (q:List Nat):(tk q).map kV=tv q:=by
 unfold tk tv
 rw [List.map_map]
 exact map_congr_left λ n _=>rfl
theorem tv_app (a b:List Nat):tv (a++b)=tv a++tv b:=map_append
theorem hJ (q:List Nat):(tv q).length=q.length:=length_map _
theorem Bh {q:List Nat} {x:V} (h:(tv q)[i]?=some x):∃ n,q[i]?=some n/\x=.int (n:Nat):=by
 unfold tv at h
 rw [getElem?_map] at h
 cases e:q[i]? with
 | none=>rw [e] at h;cases h
 | some n=>rw [e] at h;exact ⟨n,rfl,(Option.some.inj h).symm⟩
theorem tv_at {q:List Nat} {n:Nat} (h:q[i]?=some n):(tv q)[i]?=some (.int (n:Nat)):=by
 unfold tv;rw [getElem?_map,h];rfl
theorem pH:∀ {a b:List Nat},tk a=tk b->a=b
 | [],[],_=>rfl
 | [],_::_,h=>by simp [tk] at h
 | _::_,[],h=>by simp [tk] at h
 | x::a,y::b,h=>by
  simp only [tk,List.map_cons,List.cons.injEq,Sum.inl.injEq] at h
  have h1:x=y:=by have:=h.1;omega
  rw [h1,pH (a:=a) (b:=b) h.2]
def cM:List Nat->List (List Nat)
 | []=>[[]]
 | s::rs=>(cM rs).flatMap λ b=>(List.range s).map λ c=>b++[c]
def Lc:List Nat->Nat->List Nat
 | [],_=>[]
 | s::rs,n=>Lc rs (n / s)++[n % s]
def oK:List Nat->Nat
 | []=>1
 | s::rs=>oK rs*s
theorem zT (s:Nat):∀ m:Nat,List.range (m*s)=(List.range m).flatMap λ i=>(List.range s).map λ c=>i*s+c
 | 0=>by simp
 | m+1=>by
  rw [Nat.succ_mul,List.range_add,List.range_succ,List.flatMap_append,zT s m]
  simp
theorem Ju:∀ rs:List Nat,(∀ s∈rs,1<=s)->cM rs=(List.range (oK rs)).map (Lc rs)
 | [],_=>by simp [cM,oK,Lc]
 | s::rs,h=>by
  have hs:1<=s:=h s (mem_cons_self ..)
  have hr:=Ju rs λ t ht=>h t (mem_cons_of_mem _ ht)
  show (cM rs).flatMap _=(List.range (oK rs*s)).map (Lc (s::rs))
  rw [hr,zT,List.map_flatMap,List.flatMap_map]
  congr 1
  funext i
  rw [List.map_map]
  refine map_congr_left λ c hc=>?_
  have hc':c<s:=List.mem_range.mp hc
  show Lc rs i++[c]=Lc rs ((i*s+c) / s)++[(i*s+c) % s]
  rw [Nat.mul_comm i s,Nat.mul_add_div (by omega),Nat.div_eq_of_lt hc',Nat.mul_add_mod,Nat.mod_eq_of_lt hc',Nat.add_zero]
theorem nA (rs:List Nat) (h:∀ s∈rs,1<=s):(cM rs).length=oK rs:=by rw [Ju rs h,length_map,List.length_range]
theorem wM:∀ rs:List Nat,(∀ s∈rs,s<=6)->oK rs<=6 ^ rs.length
 | [],_=>Nat.le_refl _
 | s::rs,h=>by
  show oK rs*s<=6 ^ (rs.length+1)
  rw [Nat.pow_succ]
  exact Nat.mul_le_mul (wM rs λ t ht=>h t (mem_cons_of_mem _ ht)) (h s (mem_cons_self ..))
theorem eT:∀ (rs:List Nat) (q:List Nat),q∈cM rs->q.length=rs.length
 | [],q,h=>by simp [cM] at h;subst h;rfl
 | s::rs,q,h=>by
  simp only [cM,List.mem_flatMap,mem_map] at h
  obtain ⟨b,hb,c,_,rfl⟩:=h
  simp [eT rs b hb]
structure Sz (ns:List Nat):Prop where
 len:ns.length<=3
 ge:∀ n∈ns,1<=n
 le:∀ n∈ns,n<=6
theorem Sz.rev (h:Sz ns):Sz ns.reverse:=⟨by rw [List.length_reverse];exact h.len,λ n hn=>h.ge n (List.mem_reverse.mp hn),λ n hn=>h.le n (List.mem_reverse.mp hn)⟩
theorem Sz.take (h:Sz ns) (i:Nat):Sz (ns.take i):=⟨by have:=h.len;rw [length_take];omega,λ n hn=>h.ge n (mem_of_mem_take hn),λ n hn=>h.le n (mem_of_mem_take hn)⟩
theorem Sz.many (h:Sz ns):oK ns<=216:=Nat.le_trans (wM ns h.le) (Nat.le_trans (Nat.pow_le_pow_right (by decide) h.len) (by decide))
theorem Sz.ord (h:Sz ns):(cM ns).length<=216:=by rw [nA ns h.ge];exact h.many
def wo {α:Type} (h:Nat) (q:List α):List α:=q.take h++q.drop (h+1)
theorem Sz.wo (s:Sz ns) (h:Nat):Sz (wo h ns):=by
 have hm:∀ n∈My.wo h ns,n∈ns:=λ n hn=>by
  rcases mem_append.mp hn with z | z
  ·exact mem_of_mem_take z
  ·exact List.mem_of_mem_drop z
 refine ⟨?_,λ n hn=>s.ge n (hm n hn),λ n hn=>s.le n (hm n hn)⟩
 have:=s.len
 unfold My.wo
 rw [length_append,length_take,List.length_drop]
 omega
theorem wo_tv (h:Nat) (q:List Nat):wo h (tv q)=tv (wo h q):=by
 unfold wo tv
 rw [map_append,map_take,List.map_drop]
def Ps (H:Hp) (xs:List V) (qs:List (List Nat)):Prop:=xs.length=qs.length/\∀ (i:Nat) (q:List Nat),qs[i]?=some q->∃ a:Addr,xs[i]?=some (V.ref a)/\H a=some (.tup (tv q))
def oM (H H':Hp):Prop:=∀ a xs,H a=some (.tup xs)->H' a=some (.tup xs)
theorem pX (s:aE H H'):oM H H':=λ a xs h=>s a _ h
theorem Mt {l:Addr} {xs:List V} (h:H l=some (.lst xs)):oM H (upd H l o):=λ a ys e=>by
 rw [aN (eK e h (by intro z;cases z))];exact e
theorem oM.trans {H'':Hp} (a:oM H H') (b:oM H' H''):oM H H'':=λ c xs h=>b c xs (a c xs h)
theorem Ps.keep {xs:List V} (p:Ps H xs qs) (k:oM H H'):Ps H' xs qs:=⟨p.1,λ i q e=>let ⟨a,h1,h2⟩:=p.2 i q e;⟨a,h1,k a _ h2⟩⟩
theorem Ps.same {xs:List V} (p:Ps H xs qs) (s:aE H H'):Ps H' xs qs:=p.keep (pX s)
theorem Ps.nil:Ps H [] []:=⟨rfl,λ i q e=>by simp at e⟩
theorem Ps.app {xs ys:List V} {rs:List (List Nat)} (p:Ps H xs qs) (r:Ps H ys rs):Ps H (xs++ys) (qs++rs):=by
 refine ⟨by rw [length_append,length_append,p.1,r.1],λ i q e=>?_⟩
 by_cases hi:i<qs.length
 ·rw [getElem?_append_left hi] at e
  rw [getElem?_append_left (by rw [p.1];exact hi)]
  exact p.2 i q e
 ·rw [getElem?_append_right (by omega)] at e
  rw [getElem?_append_right (by rw [p.1];omega),p.1]
  exact r.2 _ q e
theorem Ps.one {q:List Nat} (h:H a=some (.tup (tv q))):Ps H [.ref a] [q]:=by
 refine ⟨rfl,λ i q' e=>?_⟩
 cases i with
 | zero=>simp at e;subst e;exact ⟨a,rfl,h⟩
 | succ i=>simp at e
theorem Ps.get {xs:List V} {x:V} (p:Ps H xs qs) (h:xs[i]?=some x):∃ q a,qs[i]?=some q/\x=.ref a/\H a=some (.tup (tv q)):=by
 have hl:i<qs.length:=by rw [← p.1];exact (List.getElem?_eq_some_iff.mp h).1
 obtain ⟨a,e1,e2⟩:=p.2 i qs[i] (getElem?_eq_getElem hl)
 rw [h] at e1
 exact ⟨qs[i],a,getElem?_eq_getElem hl,Option.some.inj e1,e2⟩
theorem Ps.at {xs:List V} (p:Ps H xs qs) (h:i<qs.length):∃ q a,qs[i]?=some q/\xs[i]?=some (.ref a)/\H a=some (.tup (tv q)):=by
 obtain ⟨a,e1,e2⟩:=p.2 i qs[i] (getElem?_eq_getElem h)
 exact ⟨qs[i],a,getElem?_eq_getElem h,e1,e2⟩
theorem Ps.rev {xs:List V} (p:Ps H xs qs):Ps H xs.reverse qs.reverse:=by
 refine ⟨by rw [List.length_reverse,List.length_reverse,p.1],λ i q e=>?_⟩
 have hi:i<qs.length:=by have:=(List.getElem?_eq_some_iff.mp e).1;rwa [List.length_reverse] at this
 rw [List.getElem?_reverse hi] at e
 rw [List.getElem?_reverse (by rw [p.1];exact hi),p.1]
 exact p.2 _ q e
theorem tE {n:Nat} (h:n<=216):n<=sizeLine:=by rw [sizeLine_eq];omega
theorem small' {n:Nat} (h:n<=216):n<sizeLine:=by rw [sizeLine_eq];omega
theorem Py {xs:List V}:lY xs none (some (h:Int))=xs.take h:=by
 unfold lY
 rw [HT.sIx_none,HT.sIx_nat,List.drop_zero,Nat.sub_zero]
 by_cases e:h<=xs.length
 ·rw [Nat.min_eq_left e]
 ·rw [Nat.min_eq_right (by omega),take_length,take_of_length_le (by omega)]
theorem Ev {xs:List V}:lY xs (some (h:Int)) none=xs.drop h:=by
 unfold lY
 rw [HT.sIx_none,HT.sIx_nat]
 by_cases e:h<=xs.length
 ·rw [Nat.min_eq_left e,take_of_length_le (by rw [List.length_drop];omega)]
 ·rw [Nat.min_eq_right (by omega),List.drop_eq_nil_of_le (Nat.le_refl _),List.drop_eq_nil_of_le (by omega)];simp
theorem vG (xs:List V) (lo hi:Option Int):(lY xs lo hi).length<=xs.length:=nD xs lo hi
def tK (H:Hp) (kvs:List (List Key×V)) (cont:List Nat->List V) (q:List Nat):Prop:=∃ l,dR kvs (tk q)=some (.ref l)/\H l=some (.lst (cont q))
theorem tK.same {kvs:List (List Key×V)} {cont:List Nat->List V} {q:List Nat} (c:tK H kvs cont q) (s:aE H H'):tK H' kvs cont q:=let ⟨l,h1,h2⟩:=c;⟨l,h1,s _ _ h2⟩
def FrT (H:Hp) (xs:List V):Prop:=∀ v∈xs,∃ a x y,v=.ref a/\H a=some (.tup [.int x,.int y])
theorem FrT.keep {xs:List V} (f:FrT H xs) (k:oM H H'):FrT H' xs:=λ v hv=>let ⟨a,x,y,e,h⟩:=f v hv;⟨a,x,y,e,k _ _ h⟩
theorem FrT.same {xs:List V} (f:FrT H xs) (s:aE H H'):FrT H' xs:=f.keep (pX s)
theorem kW:∀ (rs q:List Nat),q∈cM rs->∀ (i n c:Nat),rs.reverse[i]?=some n->q[i]?=some c->c<n
 | [],q,h=>by intro i n c e;simp at e
 | s::rs,q,h=>by
  simp only [cM,List.mem_flatMap,mem_map,List.mem_range] at h
  obtain ⟨b,hb,x,hx,rfl⟩:=h
  intro i n c e1 e2
  have hl:=eT rs b hb
  rw [List.reverse_cons] at e1
  by_cases hi:i<rs.length
  ·rw [getElem?_append_left (by rw [List.length_reverse];exact hi)] at e1
   rw [getElem?_append_left (by rw [hl];exact hi)] at e2
   exact kW rs b hb i n c e1 e2
  ·rw [getElem?_append_right (by rw [List.length_reverse];omega),List.length_reverse] at e1
   rw [getElem?_append_right (by rw [hl];omega),hl] at e2
   cases e3:i - rs.length with
   | zero=>rw [e3] at e1 e2;simp at e1 e2;omega
   | succ k=>rw [e3] at e1;simp at e1
def only (S:Addr->Prop) (H:Hp):Hp:=open Classical in λ b=>if S b then H b else none
def Kc (H:Hp) (kvs:List (List Key×V)) (cont:List Nat->List V) (qs:List (List Nat)):Prop:=kvs.length=qs.length/\∀ (i:Nat) (q:List Nat),qs[i]?=some q->∃ l,kvs[i]?=some (tk q,V.ref l)/\H l=some (.lst (cont q))
theorem uP:∀ {kvs:List (List Key×V)},(kvs.map (·.1)).Nodup->∀ (i:Nat) {k:List Key} {v:V},kvs[i]?=some (k,v)->dR kvs k=some v
 | [],_,i,k,v,h=>by simp at h
 | p::kvs,nd,i,k,v,h=>by
  rw [List.map_cons,List.nodup_cons] at nd
  cases i with
  | zero =>
   simp at h;subst h
   exact dI rfl
  | succ i =>
   simp at h
   have hm:k∈kvs.map (·.1):=mem_map.mpr ⟨_,mem_of_getElem? h,rfl⟩
   rw [dJ (λ e=>nd.1 (by rw [e];exact hm))]
   exact uP nd.2 i h
theorem Kc.keys {kvs:List (List Key×V)} {cont:List Nat->List V} (h:Kc H kvs cont qs):kvs.map (·.1)=qs.map tk:=by
 refine List.ext_getElem? λ i=>?_
 rw [getElem?_map,getElem?_map]
 cases e:qs[i]? with
 | none =>
  have:kvs[i]?=none:=by
   rw [List.getElem?_eq_none_iff] at e ⊢
   rw [h.1];exact e
  rw [this];rfl
 | some q =>
  obtain ⟨l,e1,_⟩:=h.2 i q e
  rw [e1];rfl
theorem Kc.cells {kvs:List (List Key×V)} {cont:List Nat->List V} (h:Kc H kvs cont qs) (nd:qs.Nodup):∀ q∈qs,tK H kvs cont q:=by
 intro q hq
 obtain ⟨i,hi,e⟩:=List.getElem_of_mem hq
 obtain ⟨l,e1,e2⟩:=h.2 i q (by rw [getElem?_eq_getElem hi,e])
 refine ⟨l,uP ?_ i e1,e2⟩
 rw [h.keys]
 unfold List.Nodup
 rw [List.pairwise_map]
 exact nd.imp λ hab e=>hab (pH e)
theorem Kc.same {kvs:List (List Key×V)} {cont:List Nat->List V} (h:Kc H kvs cont qs) (s:aE H H'):Kc H' kvs cont qs:=⟨h.1,λ i q e=>let ⟨l,e1,e2⟩:=h.2 i q e;⟨l,e1,s _ _ e2⟩⟩
theorem Kc.snoc {kvs:List (List Key×V)} {cont:List Nat->List V} {b:List Nat} {l:Addr} (h:Kc H kvs cont (qs.take i)) (hb:qs[i]?=some b) (hl:H l=some (.lst (cont b))):Kc H (kvs++[(tk b,.ref l)]) cont (qs.take (i+1)):=by
 rw [bH hb]
 refine ⟨by rw [length_append,length_append,h.1];rfl,λ j q e=>?_⟩
 by_cases hj:j<(qs.take i).length
 ·rw [getElem?_append_left hj] at e
  rw [getElem?_append_left (by rw [h.1];exact hj)]
  exact h.2 j q e
 ·rw [getElem?_append_right (by omega)] at e
  rw [getElem?_append_right (by rw [h.1];omega),h.1]
  cases z:j - (qs.take i).length with
  | zero=>rw [z] at e;simp at e;subst e;exact ⟨l,rfl,hl⟩
  | succ n=>rw [z] at e;simp at e
theorem Kc.off {kvs:List (List Key×V)} {cont:List Nat->List V} (h:Kc H kvs cont qs) (k:∀ b xs,H b=some (.lst xs)->H' b=some (.lst xs)):Kc H' kvs cont qs:=⟨h.1,λ i q e=>let ⟨l,e1,e2⟩:=h.2 i q e;⟨l,e1,k _ _ e2⟩⟩
theorem Kc.mem {kvs:List (List Key×V)} {cont:List Nat->List V} (h:Kc H kvs cont qs) {p:List Key×V} (hp:p∈kvs):∃ q l,q∈qs/\p.2=V.ref l/\H l=some (.lst (cont q)):=by
 obtain ⟨i,hi,e⟩:=List.getElem_of_mem hp
 have hq:i<qs.length:=by rw [← h.1];exact hi
 obtain ⟨l,e1,e2⟩:=h.2 i _ (getElem?_eq_getElem hq)
 rw [getElem?_eq_getElem hi,e] at e1
 cases e1
 exact ⟨_,l,getElem_mem hq,rfl,e2⟩
def UF (H:Hp) (sc:Int) (xs:List V) (us:List Int):Prop:=xs.length=us.length/\∀ (i:Nat) (u:Int),us[i]?=some u->∃ a x y,xs[i]?=some (.ref a)/\H a=some (.tup [.int x,.int y])/\Lo u sc x y/\BB 300 u
theorem UF.keep {xs:List V} (f:UF H sc xs us) (k:oM H H'):UF H' sc xs us:=⟨f.1,λ i u e=>let ⟨a,x,y,h1,h2,h3⟩:=f.2 i u e;⟨a,x,y,h1,k _ _ h2,h3⟩⟩
theorem UF.same {xs:List V} (f:UF H sc xs us) (s:aE H H'):UF H' sc xs us:=f.keep (pX s)
theorem UF.nil:UF H sc [] []:=⟨rfl,λ i u e=>by simp at e⟩
theorem UF.snoc {xs:List V} {u:Int} (f:UF H sc xs us) (h:H a=some (.tup [.int x,.int y])) (lo:Lo u sc x y) (b:BB 300 u):UF H sc (xs++[.ref a]) (us++[u]):=by
 refine ⟨by rw [length_append,length_append,f.1];rfl,λ i v e=>?_⟩
 by_cases hi:i<us.length
 ·rw [getElem?_append_left hi] at e
  rw [getElem?_append_left (by rw [f.1];exact hi)]
  exact f.2 i v e
 ·rw [getElem?_append_right (by omega)] at e
  rw [getElem?_append_right (by rw [f.1];omega),f.1]
  cases z:i - us.length with
  | zero=>rw [z] at e;simp at e;subst e;exact ⟨a,x,y,rfl,h,lo,b⟩
  | succ n=>rw [z] at e;simp at e
theorem UF.get {xs:List V} {v:V} (f:UF H sc xs us) (h:xs[i]?=some v):∃ u a x y,us[i]?=some u/\v=.ref a/\H a=some (.tup [.int x,.int y])/\Lo u sc x y/\BB 300 u:=by
 have hl:i<us.length:=by rw [← f.1];exact (List.getElem?_eq_some_iff.mp h).1
 obtain ⟨a,x,y,h1,h2,h3,h4⟩:=f.2 i us[i] (getElem?_eq_getElem hl)
 rw [h] at h1
 exact ⟨us[i],a,x,y,getElem?_eq_getElem hl,Option.some.inj h1,h2,h3,h4⟩
def FM (l:List Int) (m:Int) (j:Nat):Prop:=l[j]?=some m/\(∀ (k:Nat) v,l[k]?=some v->v<=m)/\∀ k,k<j->l[k]?≠some m
theorem FM.uniq {l:List Int} {m m':Int} {j':Nat} (h:FM l m j) (h':FM l m' j'):m=m'/\j=j':=by
 have e:m=m':=by
  have a:=h.2.1 j' m' h'.1
  have b:=h'.2.1 j m h.1
  omega
 subst e
 refine ⟨rfl,?_⟩
 rcases Nat.lt_trichotomy j j' with z | z | z
 ·exact absurd h.1 (h'.2.2 j z)
 ·exact z
 ·exact absurd h'.1 (h.2.2 j' z)
def Om (un:List Nat->List Int) (q:List Nat) (h n:Nat):List Int:=(List.range n).map λ c=>(un (q.set h c)).getD h 0
def Dt (un:List Nat->List Int) (q ns:List Nat) (i:Nat):Prop:=∀ h n,h<i->ns[h]?=some n->∀ m j,FM (Om un q h n) m j->¬ (un q).getD h 0<m
def Off (un:List Nat->List Int) (q ns:List Nat):Option (Nat×Nat)->Prop
 | none=>Dt un q ns ns.length
 | some (h,c)=>∃ n m,ns[h]?=some n/\FM (Om un q h n) m c/\(un q).getD h 0<m/\Dt un q ns h
theorem Dt.succ {un:List Nat->List Int} {q:List Nat} {n:Nat} {m:Int} (h:Dt un q ns i) (hn:ns[i]?=some n) (fm:FM (Om un q i n) m j) (hm:¬ (un q).getD i 0<m):Dt un q ns (i+1):=by
 intro h' n' hl e m' j' fm'
 by_cases z:h'<i
 ·exact h h' n' z e m' j' fm'
 ·have:h'=i:=by omega
  subst this
  rw [hn] at e
  obtain rfl:=Option.some.inj e
  obtain ⟨rfl,_⟩:=fm.uniq fm'
  exact hm
theorem Off.uniq {un:List Nat->List Int} {q:List Nat}:∀ {o o':Option (Nat×Nat)},Off un q ns o->Off un q ns o'->o=o'
 | none,none,_,_=>rfl
 | none,some (h,c),a,⟨n,m,e1,e2,e3,_⟩=>absurd e3 (a h n (List.getElem?_eq_some_iff.mp e1).1 e1 m c e2)
 | some (h,c),none,⟨n,m,e1,e2,e3,_⟩,a=>absurd e3 (a h n (List.getElem?_eq_some_iff.mp e1).1 e1 m c e2)
 | some (h,c),some (h',c'),⟨n,m,e1,e2,e3,e4⟩,⟨n',m',f1,f2,f3,f4⟩=>by
  rcases Nat.lt_trichotomy h h' with z | z | z
  ·exact absurd e3 (f4 h n z e1 m c e2)
  ·subst z
   rw [e1] at f1
   obtain rfl:=Option.some.inj f1
   obtain ⟨_,rfl⟩:=e2.uniq f2
   rfl
  ·exact absurd f3 (e4 h' n' z f1 m' c' f2)
def OffV (H:Hp) (v:V):Option (Nat×Nat)->Prop
 | none=>v=.non
 | some (h,c)=>∃ a,v=.ref a/\H a=some (.tup [.int (h:Nat),.int (c:Nat)])
theorem OffV.same {v:V} {o:Option (Nat×Nat)} (h:OffV H v o) (s:aE H H'):OffV H' v o:=by
 cases o with
 | none=>exact h
 | some p=>obtain ⟨a,e1,e2⟩:=h;exact ⟨a,e1,s _ _ e2⟩
theorem Er:∀ (rs q:List Nat),q.length=rs.length->(∀ (i n c:Nat),rs.reverse[i]?=some n->q[i]?=some c->c<n)->q∈cM rs
 | [],q,hl,_=>by
  have:q=[]:=List.eq_nil_of_length_eq_zero hl
  subst this;simp [cM]
 | s::rs,q,hl,h=>by
  rw [List.length_cons] at hl
  have hlt:rs.length<q.length:=by omega
  have hq:q[rs.length]?=some q[rs.length]:=getElem?_eq_getElem hlt
  have e:q=q.take rs.length++[q[rs.length]]:=by
   have:=bH hq
   rw [take_of_length_le (by omega)] at this
   exact this
  have hb:q.take rs.length∈cM rs:=by
   refine Er rs _ (by rw [length_take];omega) λ i n c e1 e2=>?_
   have hi:i<rs.length:=by have:=(List.getElem?_eq_some_iff.mp e1).1;rwa [List.length_reverse] at this
   refine h i n c ?_ ?_
   ·rw [List.reverse_cons,getElem?_append_left (by rw [List.length_reverse];exact hi)];exact e1
   ·rw [List.getElem?_take_of_lt hi] at e2;exact e2
  have hc:q[rs.length]<s:=by
   refine h rs.length s _ ?_ hq
   rw [List.reverse_cons,getElem?_append_right (by rw [List.length_reverse];omega),List.length_reverse,Nat.sub_self];rfl
  simp only [cM,List.mem_flatMap,mem_map,List.mem_range]
  exact ⟨_,hb,_,hc,e.symm⟩
def bd (ns:List Nat) (zs:List Int) (i:Nat):Bool:=decide (zs.getD i 0<0) || decide ((ns.getD i 0:Int)<=zs.getD i 0)
def mF:List (List Nat)->List (List Nat)
 | []=>[[]]
 | c::rs=>(mF rs).flatMap λ b=>c.map λ x=>b++[x]
theorem Ek:∀ rs:List Nat,cM rs=mF (rs.map List.range)
 | []=>rfl
 | s::rs=>by show (cM rs).flatMap _=(mF (rs.map List.range)).flatMap _;rw [Ek rs]
theorem tV:∀ cs:List (List Nat),(mF cs).length=oK (cs.map List.length)
 | []=>rfl
 | c::rs=>by
  show ((mF rs).flatMap _).length=oK (rs.map List.length)*c.length
  rw [← tV rs]
  generalize mF rs=l
  induction l with
  | nil=>simp
  | cons b l ih=>rw [List.flatMap_cons,length_append,length_map,ih,List.length_cons,Nat.succ_mul];omega
theorem zU:∀ (cs:List (List Nat)) (q:List Nat),q∈mF cs->q.length=cs.length
 | [],q,h=>by simp [mF] at h;subst h;rfl
 | c::rs,q,h=>by
  simp only [mF,List.mem_flatMap,mem_map] at h
  obtain ⟨b,hb,x,_,rfl⟩:=h
  simp [zU rs b hb]
structure Ch (cs:List (List Nat)):Prop where
 len:cs.length<=3
 le:∀ c∈cs,c.length<=6
theorem Ch.rev (h:Ch cs):Ch cs.reverse:=⟨by rw [List.length_reverse];exact h.len,λ n hn=>h.le n (List.mem_reverse.mp hn)⟩
theorem Ch.many (h:Ch cs):(mF cs).length<=6 ^ cs.length:=by
 rw [tV]
 have:=wM (cs.map List.length) λ s hs=>by obtain ⟨c,hc,rfl⟩:=mem_map.mp hs;exact h.le c hc
 rwa [length_map] at this
theorem Ch.ord (h:Ch cs):(mF cs).length<=216:=Nat.le_trans h.many (Nat.le_trans (Nat.pow_le_pow_right (by decide) h.len) (by decide))
def Lg (H:Hp) (xs:List V) (cs:List (List Nat)):Prop:=xs.length=cs.length/\∀ (i:Nat) c,cs[i]?=some c->∃ a:Addr,xs[i]?=some (.ref a)/\H a=some (.lst (tv c))
theorem Lg.same {xs:List V} (h:Lg H xs cs) (s:aE H H'):Lg H' xs cs:=⟨h.1,λ i n e=>let ⟨c,e1,e2⟩:=h.2 i n e;⟨c,e1,s _ _ e2⟩⟩
theorem Lg.nil:Lg H [] []:=⟨rfl,λ i q e=>by simp at e⟩
theorem Lg.app {xs ys:List V} {rs:List (List Nat)} (p:Lg H xs qs) (r:Lg H ys rs):Lg H (xs++ys) (qs++rs):=by
 refine ⟨by rw [length_append,length_append,p.1,r.1],λ i q e=>?_⟩
 by_cases hi:i<qs.length
 ·rw [getElem?_append_left hi] at e
  rw [getElem?_append_left (by rw [p.1];exact hi)]
  exact p.2 i q e
 ·rw [getElem?_append_right (by omega)] at e
  rw [getElem?_append_right (by rw [p.1];omega),p.1]
  exact r.2 _ q e
theorem Lg.one {q:List Nat} (h:H a=some (.lst (tv q))):Lg H [.ref a] [q]:=by
 refine ⟨rfl,λ i q' e=>?_⟩
 cases i with
 | zero=>simp at e;subst e;exact ⟨a,rfl,h⟩
 | succ i=>simp at e
theorem Lg.snoc {xs:List V} {c:List Nat} (h:Lg H xs cs) (hc:H a=some (.lst (tv c))):Lg H (xs++[.ref a]) (cs++[c]):=h.app (.one hc)
theorem Lg.get {xs:List V} {x:V} (h:Lg H xs cs) (e:xs[i]?=some x):∃ c a,cs[i]?=some c/\x=.ref a/\H a=some (.lst (tv c)):=by
 have hl:i<cs.length:=by rw [← h.1];exact (List.getElem?_eq_some_iff.mp e).1
 obtain ⟨c,e1,e2⟩:=h.2 i cs[i] (getElem?_eq_getElem hl)
 rw [e] at e1
 exact ⟨cs[i],c,getElem?_eq_getElem hl,Option.some.inj e1,e2⟩
theorem Lg.take {xs:List V} (h:Lg H xs cs) (n:Nat):Lg H (xs.take n) (cs.take n):=by
 refine ⟨by rw [length_take,length_take,h.1],λ i c e=>?_⟩
 have hi:i<n:=by have:=(List.getElem?_eq_some_iff.mp e).1;rw [length_take] at this;omega
 rw [List.getElem?_take_of_lt hi] at e ⊢
 exact h.2 i c e
theorem Lg.drop {xs:List V} (h:Lg H xs cs) (n:Nat):Lg H (xs.drop n) (cs.drop n):=by
 refine ⟨by rw [List.length_drop,List.length_drop,h.1],λ i c e=>?_⟩
 rw [List.getElem?_drop] at e ⊢
 exact h.2 _ c e
theorem Lg.wo {xs:List V} (h:Lg H xs cs) (n:Nat):Lg H (xs.take n++xs.drop (n+1)) (wo n cs):=(h.take n).app (h.drop (n+1))
structure Kp (ns:List Nat) (ks:List (List Nat)):Prop where
 len:ks.length=ns.length
 ne:∀ k∈ks,k≠[]
 nd:∀ k∈ks,k.Nodup
 lt:∀ (i:Nat) k n,ks[i]?=some k->ns[i]?=some n->k.length<=n/\∀ x∈k,x<n
theorem wo_mem {l:List α} {x:α} (m:x∈wo h l):x∈l:=by
 rcases mem_append.mp m with z | z
 ·exact mem_of_mem_take z
 ·exact List.mem_of_mem_drop z
theorem Kp.le (K:Kp ns ks) {B:Nat} (h:∀ n∈ns,n<=B):∀ c∈ks,c.length<=B:=λ c hc=>by
 obtain ⟨i,hi⟩:=getElem?_of_mem hc
 have hl:i<ns.length:=by rw [← K.len];exact (List.getElem?_eq_some_iff.mp hi).1
 exact Nat.le_trans (K.lt i c _ hi (getElem?_eq_getElem hl)).1 (h _ (getElem_mem hl))
theorem Kp.ch (K:Kp ns ks) (sz:Sz ns):Ch ks:=⟨by rw [K.len];exact sz.len,K.le sz.le⟩
theorem Ch.wo (h:Ch cs) (n:Nat):Ch (wo n cs):=⟨by have:=h.len;unfold My.wo;rw [length_append,length_take,List.length_drop];omega,λ c hc=>h.le c (wo_mem hc)⟩
def jn (b:List Nat) (h c:Nat):List Nat:=b.take h++c::b.drop h
theorem Kp.snoc {ms:List Nat} {n:Nat} {c:List Nat} (kp:Kp (ms.take i) ks) (hn:ms[i]?=some n) (ne:c≠[]) (nd:c.Nodup) (lt:c.length<=n/\∀ x∈c,x<n):Kp (ms.take (i+1)) (ks++[c]):=by
 have kl:=kp.len
 have al:∀ {P:List Nat->Prop},(∀ k∈ks,P k)->P c->∀ k∈ks++[c],P k:=λ h hc k hk=>by
  rcases mem_append.mp hk with z | z
  ·exact h k z
  ·rw [mem_singleton.mp z];exact hc
 refine ⟨by rw [bH hn,length_append,length_append,kl];rfl,al kp.ne ne,al kp.nd nd,λ j k m e1 e2=>?_⟩
 rw [bH hn] at e2
 by_cases hj:j<ks.length
 ·rw [getElem?_append_left hj] at e1
  rw [getElem?_append_left (by omega)] at e2
  exact kp.lt j k m e1 e2
 ·rw [getElem?_append_right (by omega)] at e1
  rw [getElem?_append_right (by omega),← kl] at e2
  cases z:j - ks.length with
  | zero=>rw [z] at e1 e2;simp at e1 e2;subst e1 e2;exact lt
  | succ k=>rw [z] at e1;simp at e1
theorem Kp.range (h:∀ n∈ns,1<=n):Kp ns (ns.map List.range):=by
 refine ⟨length_map _,λ k hk=>?_,λ k hk=>?_,λ i k n e1 e2=>?_⟩
 ·obtain ⟨n,hn,rfl⟩:=mem_map.mp hk
  intro e
  have h1:=congrArg List.length e
  rw [List.length_range] at h1
  have h2:=h n hn
  have h3:n=0:=h1
  omega
 ·obtain ⟨n,hn,rfl⟩:=mem_map.mp hk
  exact List.nodup_range
 ·rw [getElem?_map,e2] at e1
  obtain rfl:=Option.some.inj e1
  exact ⟨by rw [List.length_range];exact Nat.le_refl _,λ x hx=>List.mem_range.mp hx⟩
theorem iI {n:Nat} (h:BB n y) (h0:0<=x) (h1:x<=y):BB n x:=h.of_le (by omega)
def pF (m d:Addr):List (Str×V):=cF "cells" (.ref d) (cF "many" (.ref m) [])
structure jV (K:W.Frag) (H:Hp) (t:Addr) (ns:List Nat) (cont:List Nat->List V):Prop where
 ob:∃ dx m d kv,H t=some (.ins (aR K "Table") dx (pF m d))/\H m=some (.lst (tv ns))/\H d=some (.dT kv)/\∀ q∈cM ns.reverse,tK H kv cont q
theorem cm:¬ ("many" : Str)="cells":=by decide +kernel
theorem Ac (m d:Addr):(pF m d).lookup ("many" : Str)=some (.ref m):=by
 unfold pF
 rw [eC,if_neg cm,eC,if_pos rfl]
theorem xM (m d:Addr):(pF m d).lookup ("cells" : Str)=some (.ref d):=by
 unfold pF
 rw [eC,if_pos rfl]
theorem qP (m d:Addr) {x:Str} (h1:¬ x="cells") (h2:¬ x="many"):(pF m d).lookup x=none:=by
 unfold pF
 rw [eC,if_neg h1,eC,if_neg h2]
 all_goals rfl
theorem jV.same {K:W.Frag} {t:Addr} {cont:List Nat->List V} (h:jV K H t ns cont) (s:aE H H'):jV K H' t ns cont:=let ⟨dx,m,d,kv,h1,h2,h3,h4⟩:=h.ob;⟨dx,m,d,kv,s _ _ h1,s _ _ h2,s _ _ h3,λ q hq=>(h4 q hq).same s⟩
theorem jV.ins {K:W.Frag} {t:Addr} {cont:List Nat->List V} (h:jV K H t ns cont):∃ dx m d,H t=some (.ins (aR K "Table") dx (pF m d)):=let ⟨dx,m,d,_,h1,_⟩:=h.ob;⟨dx,m,d,h1⟩
structure Sd where
 m:Nat
 W:Nat
 c:Nat->Nat->Int
 be:Nat->Int
 sp:Nat->Nat
namespace Sd
variable (L:Sd)
structure Wf:Prop where
 hs:∀ i,i<L.m->L.sp i<L.W/\L.c (L.sp i)=e1 i
 bp:∀ i,i<L.m->0<L.be i
 cn:∀ l r,l<L.W->r<L.m->0<=L.c l r
 cp:∀ l,l<L.W->∃ r,r<L.m/\0<L.c l r
def B (s:Nat->Nat):Mx:=λ i=>if i<L.m then L.c (s i) else e1 i
def D (s:Nat->Nat):Int:=det L.m (L.B s)
def T (s:Nat->Nat) (i:Nat) (y:Nat->Int):Int:=Tt L.m (L.B s) i y
def li (p:Nat):Nat->Int:=if p=0 then L.be else e1 (p - 1)
def ls:List Nat:=List.range (L.m+1)
structure Okx (s:Nat->Nat):Prop where
 pos:0<L.D s
 cr:Cr L.m (L.B s)
 lex:∀ i,i<L.m->lp (λ p=>L.T s i (L.li p)) L.ls
variable {L}
theorem Di (hi:i<L.m):L.B s i=L.c (s i):=if_pos hi
theorem own (hi:i<L.m):L.T s i (L.c (s i))=L.D s:=by
 have:=Hk (N:=L.m) (L.B s) i
 rwa [Di hi] at this
theorem other (hi:i<L.m) (hj:j<L.m) (h:i≠j):L.T s i (L.c (s j))=0:=by
 have:=rF (N:=L.m) (B:=L.B s) hi hj h
 rwa [Di hj] at this
theorem B_put {r l:Nat} (hr:r<L.m):L.B (Lpd.sput s r l)=pt (L.B s) r (L.c l):=by
 funext i
 unfold B Lpd.sput pt
 by_cases h:i=r
 ·rw [if_pos (by omega),if_pos h,if_pos h]
 ·rw [if_neg h,if_neg h]
theorem same {r l:Nat} (hr:r<L.m) (y:Nat->Int):L.T (Lpd.sput s r l) r y=L.T s r y:=by
 unfold T;rw [B_put hr,Ci]
theorem newD {r l:Nat} (hr:r<L.m):L.D (Lpd.sput s r l)=L.T s r (L.c l):=by
 unfold D T;rw [B_put hr];rfl
theorem Okx.exch (o:L.Okx s) {r l:Nat} (hr:r<L.m) (hi:i<L.m) (hne:i≠r) (y:Nat->Int):L.D s*L.T (Lpd.sput s r l) i y=L.T s i y*L.T s r (L.c l) - L.T s r y*L.T s i (L.c l):=by
 have h:=On o.cr hr hi hne (L.c l) y
 unfold T D
 rw [B_put hr];exact h
theorem T_lin (hi:i<L.m) (y:Nat->Int):L.T s i y=sm L.m λ k=>y k*L.T s i (e1 k):=Hm hi y
theorem Okx.inj (o:L.Okx s) (hi:i<L.m) (hj:j<L.m) (h:s i=s j):i=j:=Classical.byContradiction λ n=>by
 have h1:=own (L:=L) (s:=s) hi
 rw [h,other hi hj n] at h1
 have:=o.pos
 omega
theorem start (w:L.Wf):L.B L.sp=Im:=by
 funext i
 unfold B
 split
 ·exact (w.hs i (by assumption)).2
 ·rfl
theorem T_start (w:L.Wf) (hi:i<L.m) (y:Nat->Int):L.T L.sp i y=y i:=by
 unfold T;rw [start w];exact Hl hi y
theorem vH (w:L.Wf):L.D L.sp=1:=by unfold D;rw [start w,qQ]
theorem Ud {u:Nat->Int} {n:Nat} (h:0<u 0):lp u (List.range (n+1)):=by
 rw [List.range_succ_eq_map];exact .inl h
theorem Okx.start (w:L.Wf):L.Okx L.sp:=by
 refine ⟨by rw [vH w];decide,by rw [Sd.start w];exact Hn,λ i hi=>Ud ?_⟩
 show 0<L.T L.sp i (L.li 0)
 rw [T_start w hi];exact w.bp i hi
theorem Okx.step (o:L.Okx s) {r l:Nat} (hr:r<L.m) (hp:0<L.T s r (L.c l))
  (hmin:∀ i,i<L.m->0<L.T s i (L.c l)->¬ lp (λ p=>L.T s r (L.li p)*L.T s i (L.c l) - L.T s i (L.li p)*L.T s r (L.c l)) L.ls):L.Okx (Lpd.sput s r l):=by
 have hD:=o.pos
 have newpos:0<L.D (Lpd.sput s r l):=by rw [newD hr];exact hp
 refine ⟨newpos,by rw [B_put hr];exact o.cr.turn (Int.ne_of_gt hD) hr _,λ i hi=>?_⟩
 by_cases hir:i=r
 ·subst hir
  exact cR (λ p _=>(same hi _).symm) (o.lex i hi)
 ·have ex:=λ y=>o.exch (l:=l) hr hi hir y
  by_cases hn:L.T s i (L.c l)<=0
  ·refine eB hD (cR (λ p _=>?_) (Bj hp (b:=- L.T s i (L.c l)) (by omega) (o.lex i hi) (o.lex r hr).weak))
   rw [ex];grind
  ·have hi0:0<L.T s i (L.c l):=by omega
   rcases Oj (u:=λ p=>L.T s i (L.li p)*L.T s r (L.c l) - L.T s r (L.li p)*L.T s i (L.c l)) L.ls with h | h | h
   ·exact eB hD (cR (λ p _=>(ex _).symm) h)
   ·exfalso
    have z:∀ k,k<L.m->L.T (Lpd.sput s r l) i (e1 k)=0:=λ k hk=>by
     have h1:=h (k+1) (by unfold ls;exact List.mem_range.mpr (by omega))
     have e:L.li (k+1)=e1 k:=by unfold li;rw [if_neg (by omega)];rfl
     simp only [e] at h1
     have h2:=ex (e1 k)
     rw [h1] at h2
     rcases Int.mul_eq_zero.mp h2 with q | q
     ·omega
     ·exact q
    have hw:=own (L:=L) (s:=Lpd.sput s r l) hi
    rw [T_lin hi,dZ λ k hk=>by rw [z k hk,Int.mul_zero]] at hw
    omega
   ·refine absurd (cR (λ p _=>?_) h) (hmin i hi hi0)
    show -(_ - _)=_
    omega
theorem Okx.some_pos (w:L.Wf) (o:L.Okx s) (hs:∀ i,i<L.m->s i<L.W) {l:Nat} (hl:l<L.W):∃ i,i<L.m/\0<L.T s i (L.c l):=Classical.byContradiction λ n=>by
 obtain ⟨r,hr,cp⟩:=w.cp l hl
 have h:=o.cr (L.c l) r hr
 have le:(sm L.m λ i=>Tt L.m (L.B s) i (L.c l)*L.B s i r)<=sm L.m λ _=>0:=Lpd.sm_le λ i hi=>by
  have h1:L.T s i (L.c l)<=0:=Classical.byContradiction λ z=>n ⟨i,hi,by omega⟩
  have h2:0<=L.B s i r:=by rw [Di hi];exact w.cn _ _ (hs i hi) hr
  exact Int.mul_nonpos_of_nonpos_of_nonneg h1 h2
 rw [dZ λ _ _=>rfl,h] at le
 have:=Int.mul_pos o.pos cp
 unfold D at this
 omega
theorem Ez {s1:Nat->Nat} (o1:L.Okx s1) {r:Nat} (hr:r<L.m) (y:Nat->Int):L.D s1*L.T s r y=sm L.m λ j=>L.T s1 j y*L.T s r (L.c (s1 j)):=by
 have h1:L.D s1*L.T s r y=det L.m (pt (L.B s) r (λ k=>L.D s1*y k)):=(oE _ _ _ hr).symm
 have h2:det L.m (pt (L.B s) r (λ k=>L.D s1*y k))=det L.m (pt (L.B s) r (λ k=>sm L.m λ j=>L.T s1 j y*L.B s1 j k)):=kE λ j _ k hk=>by
  unfold pt
  by_cases e:j=r
  ·rw [if_pos e,if_pos e];exact (o1.cr y k hk).symm
  ·rw [if_neg e,if_neg e]
 rw [h1,h2,rD _ hr]
 exact cK λ j hj=>by rw [Di hj];rfl
theorem lp_no {u:Nat->Int} {l:List Nat} (h:lp u l) (k:lp v l) (e:∀ p∈l,u p+v p=0):False :=
 oA (l:=l) (u:=λ p=>1*u p+1*v p) (λ p hp=>by have:=e p hp;omega) (Bj (by decide) (by decide) h k.weak)
theorem Uc {u:Nat->Int} {l:List Nat} {d a:Int} (hd:0<d) (h:lp u l) (k:lp v l) (e:∀ p∈l,d*u p=v p*a):0<a:=Classical.byContradiction λ n=>by
 by_cases z:a=0
 ·refine oA (λ p hp=>?_) (iG hd h)
  rw [e p hp,z,Int.mul_zero]
 ·exact lp_no (iG hd h) (iG (a:=-a) (by omega) k) λ p hp=>by rw [e p hp];grind
def In (L:Sd) (s:Nat->Nat) (x:Nat):Prop:=∃ i,i<L.m/\s i=x
def Fe (L:Sd) (X:Nat->Prop):Prop:=∃ s,L.Okx s/\∀ x,X x↔L.In s x
theorem edge1 {s1:Nat->Nat} (o:L.Okx s) (o1:L.Okx s1) {r l:Nat} (hr:r<L.m) (hl:¬ L.In s l) (hx:∀ x,L.In s1 x↔x=l∨(L.In s x/\x≠s r)) :
  0<L.T s r (L.c l)/\∀ i,i<L.m->i≠r->lp (λ p=>L.T s i (L.li p)*L.T s r (L.c l) - L.T s r (L.li p)*L.T s i (L.c l)) L.ls:=by
 obtain ⟨q,hq,eq⟩:=(hx l).mpr (.inl rfl)
 have hj:∀ j,j<L.m->j≠q->∃ k,k<L.m/\s k=s1 j/\k≠r:=λ j hj hn=>by
  rcases (hx (s1 j)).mp ⟨j,hj,rfl⟩ with e | ⟨⟨k,hk,e⟩,e2⟩
  ·exact absurd (o1.inj hj hq (e.trans eq.symm)) hn
  ·exact ⟨k,hk,e,λ z=>e2 (by rw [← e,z])⟩
 have hr1:∀ y,L.D s1*L.T s r y=L.T s1 q y*L.T s r (L.c l):=λ y=>by
  rw [Ez o1 hr,gJ (p:=q) hq,eq]
  intro j h1 h2
  obtain ⟨k,hk,e,n⟩:=hj j h1 h2
  rw [← e,other hr hk (Ne.symm n),Int.mul_zero]
 have pos:0<L.T s r (L.c l):=Uc o1.pos (o.lex r hr) (o1.lex q hq) λ p _=>hr1 _
 refine ⟨pos,λ i hi hn=>?_⟩
 obtain ⟨j,hj2,ej⟩:=(hx (s i)).mpr (.inr ⟨⟨i,hi,rfl⟩,λ z=>hn (o.inj hi hr z)⟩)
 have jq:j≠q:=λ z=>hl ⟨i,hi,by rw [← ej,z,eq]⟩
 have hr2:∀ y,L.D s1*L.T s i y=L.T s1 j y*L.D s+L.T s1 q y*L.T s i (L.c l):=λ y=>by
  rw [Ez o1 hi]
  have z:∀ k,k<L.m->k≠j->k≠q->L.T s1 k y*L.T s i (L.c (s1 k))=0:=λ k hk h1 h2=>by
   obtain ⟨k',hk',e,_⟩:=hj k hk h2
   rw [← e,other hi hk' (λ z=>h1 (o1.inj hk hj2 (by rw [← e,← z,ej]))),Int.mul_zero]
  have e1:L.T s i (L.c (s1 j))=L.D s:=by rw [ej];exact own hi
  by_cases hlt:j<q
  ·rw [sC hlt hq z,e1,eq]
  ·rw [sC (p:=q) (q:=j) (by omega) hj2 (λ k hk h1 h2=>z k hk h2 h1),e1,eq];omega
 refine eB o1.pos (cR (λ p _=>?_) (iG (a:=L.T s r (L.c l)*L.D s) (Int.mul_pos pos o.pos) (o1.lex j hj2)))
 have a1:=hr1 (L.li p)
 have a2:=hr2 (L.li p)
 generalize L.T s r (L.li p)=x1 at *
 generalize L.T s i (L.li p)=x2 at *
 grind
theorem edge {X X1 X2:Nat->Prop} (F:L.Fe X) (F1:L.Fe X1) (F2:L.Fe X2) {l a b:Nat} (hl:¬ X l) (ha:X a) (hb:X b) (x1:∀ x,X1 x↔x=l∨(X x/\x≠a)) (x2:∀ x,X2 x↔x=l∨(X x/\x≠b)):a=b:=by
 obtain ⟨s,o,hs⟩:=F
 obtain ⟨s1,o1,h1⟩:=F1
 obtain ⟨s2,o2,h2⟩:=F2
 obtain ⟨r,hr,rfl⟩:=(hs a).mp ha
 obtain ⟨i,hi,rfl⟩:=(hs b).mp hb
 refine Classical.byContradiction λ n=>?_
 have g1:=(edge1 o o1 hr (λ z=>hl ((hs l).mpr z)) λ x=>by rw [← h1,← hs];exact x1 x).2 i hi λ z=>n (by rw [z])
 have g2:=(edge1 o o2 hi (λ z=>hl ((hs l).mpr z)) λ x=>by rw [← h2,← hs];exact x2 x).2 r hr λ z=>n (by rw [z])
 exact lp_no g1 g2 λ p _=>by omega
theorem In_put (o:L.Okx s) {r l:Nat} (hr:r<L.m) (x:Nat):L.In (Lpd.sput s r l) x↔x=l∨(L.In s x/\x≠s r):=by
 constructor
 ·rintro ⟨i,hi,e⟩
  unfold Lpd.sput at e
  by_cases h:i=r
  ·rw [if_pos h] at e;exact .inl e.symm
  ·rw [if_neg h] at e
   exact .inr ⟨⟨i,hi,e⟩,λ z=>h (o.inj hi hr (e.trans z))⟩
 ·rintro (rfl | ⟨⟨i,hi,e⟩,h⟩)
  ·exact ⟨r,hr,if_pos rfl⟩
  ·exact ⟨i,hi,by unfold Lpd.sput;rw [if_neg λ z=>h (by rw [← e,z]),e]⟩
theorem only_sp (w:L.Wf) (o:L.Okx s) (h0:∀ i,i<L.m->(∀ r,r<L.m->s i≠L.sp r)->L.T s i L.be=0) (x:Nat):L.In s x↔∃ r,r<L.m/\x=L.sp r:=by
 have all:∀ r,r<L.m->L.In s (L.sp r):=λ r hr=>Classical.byContradiction λ n=>by
  have h:=o.cr L.be r hr
  rw [dZ] at h
  ·have:=Int.mul_pos o.pos (w.bp r hr)
   unfold D at this
   omega
  ·intro i hi
   by_cases q:∃ k,k<L.m/\s i=L.sp k
   ·obtain ⟨k,hk,e⟩:=q
    rw [Di hi,e,(w.hs k hk).2]
    have:r≠k:=λ z=>n ⟨i,hi,by rw [e,z]⟩
    unfold e1;rw [if_neg this,Int.mul_zero]
   ·have:Tt L.m (L.B s) i L.be=0:=h0 i hi λ r hr e=>q ⟨r,hr,e⟩
    rw [this,Int.zero_mul]
 constructor
 ·rintro ⟨i,hi,rfl⟩
  refine Classical.byContradiction λ n=>?_
  have hn:∀ r,r<L.m->s i≠L.sp r:=λ r hr e=>n ⟨r,hr,e⟩
  refine oA (λ p hp=>?_) (o.lex i hi)
  by_cases p0:p=0
  ·rw [p0];exact h0 i hi hn
  ·have hp:p<L.m+1:=List.mem_range.mp hp
   obtain ⟨j,hj,e⟩:=all (p - 1) (by omega)
   have:L.li p=L.c (s j):=by unfold li;rw [if_neg p0,e,(w.hs (p - 1) (by omega)).2]
   rw [this]
   exact other hi hj λ z=>hn (p - 1) (by omega) (by rw [z,e])
 ·rintro ⟨r,hr,rfl⟩
  exact all r hr
def X (L:Sd) (s:Nat->Nat) (l:Nat):Int:=Lpd.spr L.m s (λ i=>L.T s i L.be) l
theorem Okx.nonneg (o:L.Okx s) (hi:i<L.m):0<=L.T s i L.be:=by
 have h:=o.lex i hi
 unfold ls at h
 rw [List.range_succ_eq_map] at h
 rcases h with h | h
 ·exact Int.le_of_lt h
 ·exact Int.le_of_eq h.1.symm
theorem X_nonneg (o:L.Okx s) (l:Nat):0<=L.X s l:=Lpd.spr_nonneg (λ _ hi=>o.nonneg hi) l
theorem X_in (o:L.Okx s) (hi:i<L.m):L.X s (s i)=L.T s i L.be:=by
 unfold X Lpd.spr
 rw [gJ (p:=i) hi,if_pos rfl]
 intro k hk h
 exact if_neg λ z=>h (o.inj hk hi z)
theorem X_out {l:Nat} (h:¬ L.In s l):L.X s l=0:=dZ λ i hi=>if_neg λ z=>h ⟨i,hi,z⟩
theorem X_sum (o:L.Okx s) (hs:∀ i,i<L.m->s i<L.W) {r:Nat} (hr:r<L.m):(sm L.W λ l=>L.X s l*L.c l r)=L.D s*L.be r:=by
 unfold X
 rw [Lpd.spr_sum]
 refine Eq.trans (cK λ i hi=>?_) (o.cr L.be r hr)
 rw [if_pos (hs i hi),Di hi];rfl
end Sd
structure Nd where
 S:Nat->Nat->Prop
 u:Nat
 t:Nat
structure Rl (L:Nat->Sd) (σ τ:Nd):Prop where
 f:(L σ.t).Fe (σ.S σ.t)
 g:(L σ.t).Fe (τ.S σ.t)
 o:¬ σ.S σ.t σ.u
 i:σ.S σ.t τ.u
 n:∀ x,τ.S σ.t x↔x=σ.u∨(σ.S σ.t x/\x≠τ.u)
 k:∀ t,t≠σ.t->τ.S t=σ.S t
 a:τ.t=1 - σ.t
 b:σ.t<=1
theorem Rl.ne {L:Nat->Sd} (h:Rl L σ τ):σ.u≠τ.u:=λ e=>h.o (by rw [e];exact h.i)
theorem Rl.out {L:Nat->Sd} (h:Rl L σ τ):¬ τ.S σ.t τ.u:=λ z=>((h.n _).mp z).elim (λ e=>h.ne e.symm) λ e=>e.2 rfl
theorem Rl.back {L:Nat->Sd} (h:Rl L σ τ):∀ x,σ.S σ.t x↔x=τ.u∨(τ.S σ.t x/\x≠σ.u):=λ x=>by
 have:=h.n x
 constructor
 ·intro q
  by_cases e:x=τ.u
  ·exact .inl e
  ·exact .inr ⟨this.mpr (.inr ⟨q,e⟩),λ z=>h.o (by rw [← z];exact q)⟩
 ·rintro (rfl | ⟨q,e⟩)
  ·exact h.i
  ·exact (this.mp q).elim (λ z=>absurd z e) λ z=>z.1
theorem Rl.inj {L:Nat->Sd} {ρ:Nd} (h:Rl L σ τ) (k:Rl L ρ τ):σ=ρ:=by
 have et:σ.t=ρ.t:=by have:=h.a;have:=k.a;have:=h.b;have:=k.b;omega
 have eu:σ.u=ρ.u:=Sd.edge (L:=L σ.t) h.g h.f (by rw [et];exact k.f) h.out ((h.n _).mpr (.inl rfl)) (by rw [et];exact (k.n _).mpr (.inl rfl)) h.back (by rw [et];exact k.back)
 have eS:σ.S=ρ.S:=by
  funext t x
  by_cases e:t=σ.t
  ·rw [e]
   refine propext ((h.back x).trans (Iff.trans ?_ ((et ▸ k.back:∀ x,ρ.S σ.t x↔x=τ.u∨(τ.S σ.t x/\x≠ρ.u)) x).symm))
   rw [eu]
  ·rw [← h.k t e,← k.k t (by rw [← et];exact e)]
 obtain ⟨S,u,t⟩:=σ
 obtain ⟨S',u',t'⟩:=ρ
 cases et;cases eu;cases eS;rfl
def Nd.rev (σ:Nd):Nd:=⟨σ.S,σ.u,1 - σ.t⟩
theorem Rl.rev {L:Nat->Sd} (h:Rl L σ τ):Rl L τ.rev σ.rev:=by
 have e:τ.rev.t=σ.t:=by show 1 - τ.t=_;have:=h.a;have:=h.b;omega
 refine ⟨by rw [e];exact h.g,by rw [e];exact h.f,by rw [e];exact h.out,by rw [e];exact (h.n _).mpr (.inl rfl),by rw [e];exact h.back,λ t ht=>?_,?_,by rw [e];exact h.b⟩
 ·rw [e] at ht;exact (h.k t ht).symm
 ·show 1 - σ.t=1 - τ.rev.t
  rw [e]
def Rn (L:Nat->Sd):Nat->Nd->Nd->Prop
 | 0,σ,τ=>σ=τ
 | n+1,σ,τ=>∃ ρ,Rn L n σ ρ/\Rl L ρ τ
theorem Rn.front {L:Nat->Sd}:∀ {n:Nat} {σ τ:Nd},Rn L (n+1) σ τ->∃ ρ,Rl L σ ρ/\Rn L n ρ τ
 | 0,_,τ,⟨_,e,h⟩=>by cases e;exact ⟨τ,h,rfl⟩
 | n+1,_,_,⟨ρ,h,k⟩=>let ⟨ρ',a,b⟩:=Rn.front h;⟨ρ',a,ρ,b,k⟩
theorem Rn.no_rev {L:Nat->Sd}:∀ {n:Nat} {σ:Nd},σ.t<=1->¬ Rn L n σ σ.rev
 | 0,σ,_,e=>by
  have:σ.t=1 - σ.t:=congrArg Nd.t e
  omega
 | 1,σ,_,⟨ρ,e,h⟩=>by
  cases e
  exact h.o ((h.n σ.u).mpr (.inl rfl))
 | n+2,σ,_,⟨ρ',h,k⟩=>by
  obtain ⟨ρ,a,b⟩:=h.front
  have e:ρ'=ρ.rev:=k.inj a.rev
  rw [e] at b
  refine Rn.no_rev ?_ b
  have:=a.a;omega
inductive Pth (L:Nat->Sd) (z:Nd):List Nd->Prop
 | nil:Pth L z [z]
 | cons {σ τ:Nd} {vs:List Nd}:Pth L z (σ::vs)->Rl L σ τ->τ.u≠0->Pth L z (τ::σ::vs)
theorem Pth.nd {L:Nat->Sd} {z:Nd} (hz:z.u=0) {l:List Nd} (p:Pth L z l):l.Nodup/\∀ x∈l,x=z∨∃ y∈l.tail,Rl L y x:=by
 induction p with
 | nil=>exact ⟨by simp,λ x hx=>.inl (by simpa using hx)⟩
 | @cons σ τ vs p r u ih =>
  refine ⟨List.nodup_cons.mpr ⟨λ m=>?_,ih.1⟩,λ x hx=>?_⟩
  ·rcases ih.2 τ m with e | ⟨y,hy,k⟩
   ·rw [e] at u;exact u hz
   ·have e:=k.inj r
    rw [e] at hy
    exact (List.nodup_cons.mp ih.1).1 hy
  ·rcases List.mem_cons.mp hx with rfl | hx
   ·exact .inr ⟨σ,mem_cons_self,r⟩
   ·rcases ih.2 x hx with e | ⟨y,hy,k⟩
    ·exact .inl e
    ·exact .inr ⟨y,mem_cons_of_mem _ hy,k⟩
theorem Pth.rn {L:Nat->Sd} {z:Nd} {l:List Nd} (p:Pth L z l):∀ σ vs,l=σ::vs->∃ n,Rn L n z σ:=by
 induction p with
 | nil=>intro σ vs e;cases e;exact ⟨0,rfl⟩
 | @cons σ τ vs p r u ih =>
  intro σ' vs' e
  cases e
  obtain ⟨n,h⟩:=ih σ vs rfl
  exact ⟨n+1,σ,h,r⟩
theorem Pth.fin {L:Nat->Sd} {z:Nd} (p:Pth L z (σ::vs)) (r:Rl L σ τ) (hu:τ.u=0) (z0:z.u=0) (zt:z.t=0) (z1:z.S 1 0) (h:τ.S=z.S):False:=by
 have hb:=r.b
 by_cases e:σ.t=0
 ·obtain ⟨n,hn⟩:=p.rn σ vs rfl
  refine Rn.no_rev (L:=L) (n:=n+1) (σ:=z) (by omega) ⟨σ,hn,?_⟩
  have:τ=z.rev:=by
   have ht:=r.a
   rw [e] at ht
   obtain ⟨S,u,t⟩:=τ
   obtain ⟨S',u',t'⟩:=z
   cases h;cases hu;cases z0;cases zt;cases ht;rfl
  rw [← this];exact r
 ·have e1:σ.t=1:=by omega
  have:=r.out
  rw [e1,hu,h] at this
  exact this z1
theorem Pu {d T:Int}:∀ (l:List Int) (g:Int),d∣T*g->(∀ n∈l,d∣T*n)->d∣T*l.foldl glf g
 | [],_,h,_=>h
 | a::r,g,h,h2=>by
  rw [List.foldl_cons]
  refine Pu r _ ?_ λ n hn=>h2 n (mem_cons_of_mem _ hn)
  have g1:d.natAbs∣Int.gcd (T*g) (T*a):=Nat.dvd_gcd (Int.natAbs_dvd_natAbs.mpr h) (Int.natAbs_dvd_natAbs.mpr (h2 a mem_cons_self))
  rw [Int.gcd_mul_left] at g1
  refine Int.natAbs_dvd_natAbs.mp ?_
  unfold glf
  rw [Int.natAbs_mul,Int.natAbs_natCast];exact g1
theorem Fw (ns:List Int):ns=(cZ ns).map (·*(if 1 > gl ns then 1 else gl ns)):=by
 apply List.ext_getElem?
 intro i
 by_cases hi:i<ns.length
 ·have h1:ns[i]?=some ns[i]:=getElem?_eq_getElem hi
  obtain ⟨t,e1,e2⟩:=lI h1
  rw [h1,getElem?_map,e1]
  show _=some (t*_)
  rw [e2]
 ·rw [getElem?_eq_none (by omega),getElem?_eq_none (by rw [length_map,eR];omega)]
theorem Rk (ns:List Int):gl (cZ ns)<=1:=by
 have g0:=oB ns
 by_cases h2:gl ns<2
 ·have:cZ ns=ns:=by unfold cZ;rw [if_pos h2]
  rw [this];omega
 ·have e:=Fw ns
  rw [if_neg (by omega)] at e
  have e2:gl ns=gl (cZ ns)*gl ns:=by
   conv=>lhs;rw [e]
   exact Pr (by omega) _
  have:gl (cZ ns)=1:=Int.eq_of_mul_eq_mul_right (show gl ns≠0 by omega) (by omega)
  omega
theorem Dm {a b:Int} (h:0<a*b) (ha:0<a):0<b:=Classical.byContradiction λ n=>by
 have:=Int.mul_nonpos_of_nonneg_of_nonpos (show 0<=a by omega) (show b<=0 by omega)
 omega
namespace Sd
def cw (L:Sd) (j:Nat):Nat->Int:=if j<L.W then L.c j else L.be
theorem cw_at {L:Sd} (h:j<L.W):L.cw j=L.c j:=if_pos h
theorem cw_last {L:Sd}:L.cw L.W=L.be:=if_neg (Nat.lt_irrefl _)
structure Tb (L:Sd) (s:Nat->Nat) (rs:List (List Int)):Prop where
 n:rs.length=L.m
 w:∀ row∈rs,row.length=L.W+1
 k:∀ i row,rs[i]?=some row->∃ k:Int,0<k/\∀ j,j<=L.W->L.T s i (L.cw j)=k*row.getD j 0
variable {L:Sd}
theorem Tb.turn {ts:List (List Int)} (o:L.Okx s) (b:L.Tb s rs) {r l:Nat} {kept:List Int} (hk:rs[r]?=some kept) (hl:l<L.W) (hp:0<L.T s r (L.c l)) (hn:ts.length=rs.length) (ht:∀ i row,rs[i]?=some row->ts[i]?=some (if i=r then row else Dc row kept l)):L.Tb (Lpd.sput s r l) ts:=by
 have hr:r<L.m:=by rw [← b.n];exact (List.getElem?_eq_some_iff.mp hk).1
 have kw:=b.w kept (mem_of_getElem? hk)
 obtain ⟨kr,kr0,ek⟩:=b.k r kept hk
 have kl0:0<kept.getD l 0:=by
  have:=ek l (by omega)
  rw [cw_at hl] at this
  rw [this] at hp
  exact Dm hp kr0
 have back:∀ (i:Nat) t,ts[i]?=some t->∃ row,rs[i]?=some row/\t=if i=r then row else Dc row kept l:=λ i t e=>by
  have hi:i<rs.length:=by rw [← hn];exact (List.getElem?_eq_some_iff.mp e).1
  have e1:=getElem?_eq_getElem hi
  have e2:=ht i _ e1
  rw [e] at e2
  exact ⟨_,e1,Option.some.inj e2⟩
 refine ⟨hn.trans b.n,λ t hm=>?_,λ i t e=>?_⟩
 ·obtain ⟨i,e⟩:=getElem?_of_mem hm
  obtain ⟨row,er,et⟩:=back i t e
  have rw_:=b.w row (mem_of_getElem? er)
  rw [et]
  split
  ·exact rw_
  ·rw [Jl (by omega) kl0,eR,kZ (by omega)];exact rw_
 ·obtain ⟨row,er,et⟩:=back i t e
  have hi:i<L.m:=by rw [← b.n];exact (List.getElem?_eq_some_iff.mp er).1
  have rl:=b.w row (mem_of_getElem? er)
  obtain ⟨ki,ki0,ei⟩:=b.k i row er
  by_cases z:i=r
  ·rw [if_pos z] at et
   subst et z
   exact ⟨ki,ki0,λ j hj=>by rw [same hi];exact ei j hj⟩
  ·rw [if_neg z,Jl (by omega) kl0] at et
   have hg0:(0:Int)<(if 1 > gl (tkL row kept (kept.getD l 0) (row.getD l 0)) then 1 else gl (tkL row kept (kept.getD l 0) (row.getD l 0))):=by split <;> omega
   have eg:∀ j,j<=L.W->t.getD j 0*(if 1 > gl (tkL row kept (kept.getD l 0) (row.getD l 0)) then 1 else gl (tkL row kept (kept.getD l 0) (row.getD l 0)))=row.getD j 0*kept.getD l 0 - kept.getD j 0*row.getD l 0:=λ j hj=>by
    obtain ⟨t',e1,e2⟩:=lI (Je (b:=kept.getD l 0) (t:=row.getD l 0) (wR (l:=row) (i:=j) (by omega)) (wR (l:=kept) (i:=j) (by omega)))
    rw [← et] at e1
    rw [getD_eq_getElem?_getD,e1];exact e2
   generalize (if 1 > gl (tkL row kept (kept.getD l 0) (row.getD l 0)) then 1 else gl (tkL row kept (kept.getD l 0) (row.getD l 0)))=g at hg0 eg
   have eD:∀ j,j<=L.W->L.D s*L.T (Lpd.sput s r l) i (L.cw j)=ki*kr*g*t.getD j 0:=λ j hj=>by
    rw [o.exch hr hi z,ei j hj,ek j hj]
    have a1:=ei l (by omega)
    have a2:=ek l (by omega)
    rw [cw_at hl] at a1 a2
    rw [a1,a2]
    have:=eg j hj
    grind
   have N0:0<ki*kr*g:=Int.mul_pos (Int.mul_pos ki0 kr0) hg0
   generalize ki*kr*g=N at eD N0
   have tl:t.length=L.W+1:=by rw [et,eR,kZ (by omega)];exact rl
   have pl:gl t<=1:=by rw [et];exact Rk _
   have g0:=oB t
   have hD:=o.pos
   by_cases gz:gl t=0
   ·refine ⟨1,by decide,λ j hj=>?_⟩
    have tz:t.getD j 0=0:=by
     obtain ⟨q,hq⟩:=Bl (gX (l:=t) (i:=j) (by omega))
     rw [gz,Int.zero_mul] at hq;exact hq
    have:=eD j hj
    rw [tz,Int.mul_zero] at this
    rw [tz,Int.mul_zero]
    rcases Int.mul_eq_zero.mp this with q | q
    ·omega
    ·exact q
   ·have g1:gl t=1:=by omega
    have key:L.D s∣N*gl t:=Pu t 0 (by rw [Int.mul_zero];exact Int.dvd_zero _) λ x hx=>by
     obtain ⟨j,hj⟩:=getElem?_of_mem hx
     have hj':j<t.length:=(List.getElem?_eq_some_iff.mp hj).1
     have:=eD j (by omega)
     rw [getD_eq_getElem?_getD,hj] at this
     exact ⟨_,this.symm⟩
    rw [g1,Int.mul_one] at key
    obtain ⟨k,hk⟩:=key
    refine ⟨k,?_,λ j hj=>?_⟩
    ·rw [hk] at N0
     exact Dm N0 hD
    ·have:=eD j hj
     rw [hk,Int.mul_assoc] at this
     exact Int.eq_of_mul_eq_mul_left (by omega) this
def jl (L:Sd):List Nat:=L.W::(List.range L.m).map L.sp
theorem Pj {v:Nat->Int} {f:Nat->Nat}:∀ {l:List Nat},lp (λ p=>v (f p)) l->lp v (l.map f)
 | [],h=>h
 | _::_,.inl h=>.inl h
 | _::_,.inr h=>.inr ⟨h.1,Pj h.2⟩
theorem Et {a b:List Int} {c:Nat}:∀ {l:List Nat},lp (λ j=>a.getD j 0*b.getD c 0 - b.getD j 0*a.getD c 0) l->lx a b c l=some false
 | [],h=>h.elim
 | p::r,h=>by
  unfold lx
  rcases h with h | h
  ·have h:0<a.getD p 0*b.getD c 0 - b.getD p 0*a.getD c 0:=h
   rw [if_neg (by omega),decide_eq_false (by omega)]
  ·have h1:a.getD p 0*b.getD c 0 - b.getD p 0*a.getD c 0=0:=h.1
   rw [if_pos (by omega)]
   exact Et h.2
theorem Tb.get (b:L.Tb s rs) (hi:i<L.m):∃ row,rs[i]?=some row:=⟨_,getElem?_eq_getElem (by rw [b.n];exact hi)⟩
theorem li_jl (w:L.Wf) (h:p<L.m+1):L.li p=L.cw (if p=0 then L.W else L.sp (p - 1))/\(if p=0 then L.W else L.sp (p - 1))<=L.W:=by
 unfold li
 by_cases e:p=0
 ·rw [if_pos e,if_pos e,cw_last];exact ⟨rfl,Nat.le_refl _⟩
 ·obtain ⟨h1,h2⟩:=w.hs (p - 1) (by omega)
  rw [if_neg e,if_neg e,cw_at h1,h2];exact ⟨rfl,Nat.le_of_lt h1⟩
theorem jl_eq (L:Sd):L.jl=L.ls.map λ p=>if p=0 then L.W else L.sp (p - 1):=by
 unfold jl ls
 rw [List.range_succ_eq_map,List.map_cons,List.map_map,if_pos rfl]
 congr 1
theorem Tb.leave (w:L.Wf) (o:L.Okx s) (hs:∀ i,i<L.m->s i<L.W) (b:L.Tb s rs) {l:Nat} (hl:l<L.W) {f:Option Nat} (h:Lv rs l L.jl rs.length f):∃ r kept,f=some r/\r<L.m/\rs[r]?=some kept/\0<L.T s r (L.c l)/\L.Okx (Lpd.sput s r l):=by
 have sg:∀ i row,rs[i]?=some row->(0<row.getD l 0↔0<L.T s i (L.c l)):=λ i row e=>by
  obtain ⟨k,k0,ek⟩:=b.k i row e
  have:=ek l (by omega)
  rw [cw_at hl] at this
  rw [this]
  exact ⟨λ h=>Int.mul_pos k0 h,λ h=>Dm h k0⟩
 cases f with
 | none =>
  obtain ⟨i,hi,hp⟩:=o.some_pos w hs hl
  obtain ⟨row,e⟩:=b.get hi
  exact absurd ((sg i row e).mpr hp) (h i row (by rw [b.n];exact hi) e)
 | some r =>
  obtain ⟨hr,fr,e,hp,hm⟩:=h
  have hr':r<L.m:=by rw [← b.n];exact hr
  refine ⟨r,fr,rfl,hr',e,(sg r fr e).mp hp,o.step hr' ((sg r fr e).mp hp) λ i hi hpi q=>?_⟩
  obtain ⟨row,ei⟩:=b.get hi
  have hrow:=(sg i row ei).mpr hpi
  refine (hm i row (by rw [b.n];exact hi) ei hrow).1 (Et ?_)
  rw [jl_eq]
  refine Pj ?_
  obtain ⟨kr,kr0,er⟩:=b.k r fr e
  obtain ⟨ki,ki0,eki⟩:=b.k i row ei
  have e1:=er l (by omega)
  have e2:=eki l (by omega)
  rw [cw_at hl] at e1 e2
  refine eB (a:=kr*ki) (Int.mul_pos kr0 ki0) (cR (λ p hp=>?_) q)
  obtain ⟨h1,h2⟩:=li_jl w (List.mem_range.mp hp)
  rw [h1,er _ h2,eki _ h2,e1,e2]
  grind
structure Sm (L:Sd) (q:Nat):Prop where
 q1:1<=q
 c:∀ l r,l<L.W->r<L.m->BB q (L.c l r)
 b:∀ r,r<L.m->BB q (L.be r)
theorem Sm.T (h:L.Sm q) (hs:∀ i,i<L.m->s i<L.W) (i:Nat) {y:Nat->Int} (hy:∀ k,k<L.m->BB q (y k)):BB (L.m*q+L.m*L.m+1) (L.T s i y):=by
 have:=Hi (N:=L.m) (M:=pt (L.B s) i y) (c:=λ _=>q) λ j hj r hr=>by
  unfold pt
  by_cases e:j=i
  ·rw [if_pos e];exact hy r hr
  ·rw [if_neg e,Di hj];exact h.c _ _ (hs j hj) hr
 rw [sU] at this
 exact this
theorem Sm.D (h:L.Sm q) (hs:∀ i,i<L.m->s i<L.W):BB (L.m*q+L.m*L.m+1) (L.D s):=by
 have:=Hi (N:=L.m) (M:=L.B s) (c:=λ _=>q) λ j hj r hr=>by rw [Di hj];exact h.c _ _ (hs j hj) hr
 rw [sU] at this
 exact this
theorem Tb.bb (h:L.Sm q) (hs:∀ i,i<L.m->s i<L.W) (b:L.Tb s rs):∀ row∈rs,∀ x∈row,BB (L.m*q+L.m*L.m+1) x:=λ row hr x hx=>by
 obtain ⟨i,e⟩:=getElem?_of_mem hr
 obtain ⟨j,ej⟩:=getElem?_of_mem hx
 have hw:=b.w row hr
 have hj:j<row.length:=(List.getElem?_eq_some_iff.mp ej).1
 obtain ⟨k,k0,ek⟩:=b.k i row e
 have:=ek j (by omega)
 rw [getD_eq_getElem?_getD,ej] at this
 have t:BB (L.m*q+L.m*L.m+1) (L.T s i (L.cw j)):=h.T hs i λ r hr=>by
  unfold cw
  split
  ·exact h.c _ _ (by assumption) hr
  ·exact h.b _ hr
 refine t.of_le ?_
 rw [this,Int.natAbs_mul]
 exact Nat.le_mul_of_pos_left _ (by omega)
end Sd
structure Cm (S:Nat->Nat->Prop) (M u:Nat):Prop where
 lt:∀ t x,t<=1->S t x->x<M
 one:∀ t x,t<=1->x<M->x≠0->x≠u->(S t x↔¬ S (1 - t) x)
 zero:u≠0->∀ t,t<=1->S t 0
 non:u≠0->∀ t,t<=1->¬ S t u
 ful:u=0->0<M->∀ t,t<=1->(S t 0↔¬ S (1 - t) 0)
theorem Cm.step {L:Nat->Sd} (c:Cm σ.S M σ.u) (r:Rl L σ τ) (hM:σ.u<M) (h0:σ.u=0->σ.t=0):Cm τ.S M τ.u/\τ.u<M:=by
 have hb:=r.b
 have hd:1 - σ.t≠σ.t:=by omega
 have ho:τ.S (1 - σ.t)=σ.S (1 - σ.t):=r.k _ hd
 have hu:τ.u<M:=c.lt _ _ hb r.i
 have ne:=r.ne
 have two:∀ t,t<=1->t=σ.t∨(t=1 - σ.t/\1 - t=σ.t):=λ t ht=>by omega
 have e2:1 - (1 - σ.t)=σ.t:=by omega
 -- both sides by one
 have both:∀ {x:Nat},(τ.S σ.t x↔¬ τ.S (1 - σ.t) x)->∀ t,t<=1->(τ.S t x↔¬ τ.S (1 - t) x):=λ {x} h t ht=>by
  rcases two t ht with rfl | ⟨rfl,_⟩
  ·exact h
  ·rw [e2]
   exact ⟨λ a b=>h.mp b a,λ a=>Classical.byContradiction λ z=>a (h.mpr z)⟩
 refine ⟨⟨λ t x ht hx=>?_,λ t x ht hx x0 xu=>?_,λ u0 t ht=>?_,λ u0 t ht=>?_,λ u0 _ t ht=>?_⟩,hu⟩
 ·rcases two t ht with rfl | ⟨rfl,_⟩
  ·rcases (r.n x).mp hx with rfl | h
   ·exact hM
   ·exact c.lt _ _ ht h.1
  ·rw [ho] at hx;exact c.lt _ _ ht hx
 ·refine both ?_ t ht
  rw [ho,r.n x]
  by_cases e:x=σ.u
  ·have hn:=c.non (λ z=>x0 (e.trans z)) (1 - σ.t) (by omega)
   exact ⟨λ _=>by rw [e];exact hn,λ _=>.inl e⟩
  ·have:=c.one σ.t x hb hx x0 e
   exact ⟨λ h=>h.elim (λ z=>absurd z e) λ z=>this.mp z.1,λ h=>.inr ⟨this.mpr h,xu⟩⟩
 ·by_cases s0:σ.u=0
  ·have st:=h0 s0
   rcases two t ht with rfl | ⟨rfl,_⟩
   ·exact (r.n 0).mpr (.inl s0.symm)
   ·rw [ho]
    have:=(c.ful s0 (by omega) σ.t hb)
    refine Classical.byContradiction λ z=>r.o ?_
    rw [s0];exact this.mpr z
  ·rcases two t ht with rfl | ⟨rfl,_⟩
   ·exact (r.n 0).mpr (.inr ⟨c.zero s0 _ ht,λ z=>u0 z.symm⟩)
   ·rw [ho];exact c.zero s0 _ ht
 ·rcases two t ht with rfl | ⟨rfl,_⟩
  ·exact r.out
  ·rw [ho]
   exact (c.one σ.t τ.u hb hu u0 (Ne.symm ne)).mp r.i
 ·refine both ?_ t ht
  rw [ho]
  have s0:σ.u≠0:=λ z=>ne (z.trans u0.symm)
  have:=c.zero s0 (1 - σ.t) (by omega)
  have n:=r.out
  rw [u0] at n
  exact ⟨λ a=>absurd a n,λ a=>absurd this a⟩
theorem Eo {α:Type}:∀ {l k:List α},l.Nodup->(∀ x∈l,x∈k)->l.length<=k.length
 | [],_,_,_=>Nat.zero_le _
 | a::l,k,h,hs=>by
  obtain ⟨s,t,rfl⟩:=List.append_of_mem (hs a mem_cons_self)
  have:=Eo (l:=l) (k:=s++t) (List.nodup_cons.mp h).2 λ x hx=>by
   have:=hs x (mem_cons_of_mem _ hx)
   simp only [mem_append,List.mem_cons] at this ⊢
   rcases this with q | rfl | q
   ·exact .inl q
   ·exact absurd hx (List.nodup_cons.mp h).1
   ·exact .inr q
  simp only [length_append,List.length_cons] at this ⊢
  omega
def oG (L:Nat->Sd) (s:Nat->Nat->Nat) (u t:Nat):Nd:=⟨λ t x=>t<=1/\(L t).In (s t) x,u,t⟩
def two {α:Type} (a b:α) (t:Nat):α:=if t=0 then a else b
def Gf (L:Nat->Sd) (M:Nat):List Nd:=(Ld M (L 0).m).flatMap λ a=>(Ld M (L 1).m).flatMap λ b=>(List.range M).flatMap λ u=>(List.range 2).map λ t=>⟨λ t x=>t<=1/\x∈two a b t,u,t⟩
theorem Ep {L:Nat->Sd} {s:Nat->Nat->Nat} {t:Nat} (hs:∀ t i,t<=1->i<(L t).m->s t i<M) (hu:u<M) (ht:t<=1):oG L s u t∈Gf L M:=by
 simp only [Gf,List.mem_flatMap,mem_map,List.mem_range]
 refine ⟨ofF (L 0).m (s 0),wQ (aL _ _) (λ c hc=>?_),ofF (L 1).m (s 1),wQ (aL _ _) (λ c hc=>?_),u,hu,t,by omega,?_⟩
 ·obtain ⟨k,hk,rfl⟩:=dO hc;exact hs 0 k (by decide) hk
 ·obtain ⟨k,hk,rfl⟩:=dO hc;exact hs 1 k (by decide) hk
 ·unfold oG
  congr 1
  funext t x
  have mem:∀ t,x∈ofF (L t).m (s t)↔(L t).In (s t) x:=λ t=>⟨λ h=>let ⟨k,hk,e⟩:=dO h;⟨k,hk,e.symm⟩,λ ⟨k,hk,e⟩=>e ▸ mem_of_getElem? (bT _ hk)⟩
  refine propext (and_congr_right λ ht=>?_)
  unfold two
  by_cases e:t=0
  ·rw [if_pos e,e];exact mem 0
  ·rw [if_neg e,show t=1 by omega];exact mem 1
def up (s:Nat->Nat->Nat) (t r u:Nat):Nat->Nat->Nat:=λ t'=>if t'=t then Lpd.sput (s t) r u else s t'
theorem Dj (s:Nat->Nat->Nat) (t r u:Nat):up s t r u t=Lpd.sput (s t) r u:=if_pos rfl
theorem Bg {s:Nat->Nat->Nat} {t r t':Nat} (h:t'≠t):up s t r u t'=s t':=if_neg h
def nd0 (L:Nat->Sd):Nd:=oG L (λ t=>(L t).sp) 0 0
structure Lh (L:Nat->Sd) (M:Nat) (s:Nat->Nat->Nat) (u t:Nat) (vs:List Nd):Prop where
 wf:∀ t,t<=1->(L t).Wf/\(L t).W=M
 ok:∀ t,t<=1->(L t).Okx (s t)
 lt:∀ t i,t<=1->i<(L t).m->s t i<M
 cm:Cm (oG L s u t).S M u
 um:u<M
 t1:t<=1
 p:Pth L (nd0 L) (oG L s u t::vs)
 z:u=0->t=0/\¬ (L 0).In (s 0) 0
 mem:∀ x∈oG L s u t::vs,x∈Gf L M
theorem Lh.out {L:Nat->Sd} {s:Nat->Nat->Nat} {t:Nat} (h:Lh L M s u t vs):¬ (L t).In (s t) u:=by
 by_cases e:u=0
 ·obtain ⟨rfl,n⟩:=h.z e
  rw [e];exact n
 ·exact λ q=>h.cm.non e t h.t1 ⟨h.t1,q⟩
theorem Lh.rl {L:Nat->Sd} {s:Nat->Nat->Nat} {t:Nat} (h:Lh L M s u t vs) {r:Nat} (hr:r<(L t).m) (o:(L t).Okx (Lpd.sput (s t) r u)):Rl L (oG L s u t) (oG L (up s t r u) (s t r) (1 - t)):=by
 have t1:=h.t1
 have ok:=h.ok t t1
 refine ⟨⟨s t,ok,λ x=>⟨λ z=>z.2,λ z=>⟨t1,z⟩⟩⟩,⟨Lpd.sput (s t) r u,o,λ x=>?_⟩,λ z=>h.out z.2,⟨t1,r,hr,rfl⟩,λ x=>?_,λ t' ht=>?_,rfl,t1⟩
 ·show (t<=1/\(L t).In (up s t r u t) x)↔_
  rw [Dj];exact ⟨λ z=>z.2,λ z=>⟨t1,z⟩⟩
 ·show (t<=1/\(L t).In (up s t r u t) x)↔x=u∨((t<=1/\(L t).In (s t) x)/\x≠s t r)
  rw [Dj,Sd.In_put ok hr]
  exact ⟨λ z=>z.2.elim .inl λ y=>.inr ⟨⟨t1,y.1⟩,y.2⟩,λ z=>⟨t1,z.elim .inl λ y=>.inr ⟨y.1.2,y.2⟩⟩⟩
 ·funext x
  show (t'<=1/\(L t').In (up s t r u t') x)=(t'<=1/\(L t').In (s t') x)
  rw [Bg (show t'≠t from ht)]
theorem Lh.okup {L:Nat->Sd} {s:Nat->Nat->Nat} {t:Nat} (h:Lh L M s u t vs) {r:Nat} (o:(L t).Okx (Lpd.sput (s t) r u)):(∀ t',t'<=1->(L t').Okx (up s t r u t'))/\∀ t' i,t'<=1->i<(L t').m->up s t r u t' i<M:=by
 refine ⟨λ t' h1=>?_,λ t' i h1 hi=>?_⟩
 ·by_cases e:t'=t
  ·rw [e,Dj];exact o
  ·rw [Bg e];exact h.ok t' h1
 ·by_cases e:t'=t
  ·rw [e,Dj]
   unfold Lpd.sput
   split
   ·exact h.um
   ·exact h.lt t i h.t1 (by rw [← e];exact hi)
  ·rw [Bg e];exact h.lt t' i h1 hi
theorem Lh.step {L:Nat->Sd} {s:Nat->Nat->Nat} {t:Nat} (h:Lh L M s u t vs) {r:Nat} (hr:r<(L t).m) (o:(L t).Okx (Lpd.sput (s t) r u)) (h0:s t r≠0):Lh L M (up s t r u) (s t r) (1 - t) (oG L s u t::vs):=by
 have R:=h.rl hr o
 obtain ⟨c,hu⟩:=Cm.step h.cm R h.um λ z=>(h.z z).1
 obtain ⟨k1,k2⟩:=h.okup o
 have hm:oG L (up s t r u) (s t r) (1 - t)∈Gf L M:=Ep k2 hu (by omega)
 exact ⟨h.wf,k1,k2,c,hu,by omega,.cons h.p R h0,λ z=>absurd z h0,λ x hx=>(List.mem_cons.mp hx).elim (λ e=>by rw [e];exact hm) (h.mem x)⟩
theorem Lh.bound {L:Nat->Sd} {s:Nat->Nat->Nat} {t:Nat} (h:Lh L M s u t vs):vs.length<(Gf L M).length:=by
 have:=Eo (Pth.nd rfl h.p).1 h.mem
 rw [List.length_cons] at this
 omega
theorem Lh.start {L:Nat->Sd} (wf:∀ t,t<=1->(L t).Wf/\(L t).W=M) (hM:0<M) (a:∀ x,(L 0).In (L 0).sp x↔(L 1).m<=x/\x<M) (b:∀ x,(L 1).In (L 1).sp x↔x<(L 1).m) (h1:1<=(L 1).m) (hm:(L 1).m<=M):Lh L M (λ t=>(L t).sp) 0 0 []:=by
 have lt:∀ t i,t<=1->i<(L t).m->(L t).sp i<M:=λ t i ht hi=>by
  have:=((wf t ht).1.hs i hi).1
  rw [(wf t ht).2] at this;exact this
 have two:∀ t,t<=1->t=0∨t=1:=λ t ht=>by omega
 have one:∀ t x,t<=1->x<M->((oG L (λ t=>(L t).sp) 0 0).S t x↔¬ (oG L (λ t=>(L t).sp) 0 0).S (1 - t) x):=λ t x ht hx=>by
  show (t<=1/\(L t).In (L t).sp x)↔¬ (1 - t<=1/\(L (1 - t)).In (L (1 - t)).sp x)
  rcases two t ht with rfl | rfl
  ·show (0<=1/\(L 0).In (L 0).sp x)↔¬ (1<=1/\(L 1).In (L 1).sp x)
   rw [a,b];omega
  ·show (1<=1/\(L 1).In (L 1).sp x)↔¬ (0<=1/\(L 0).In (L 0).sp x)
   rw [a,b];omega
 refine ⟨wf,λ t ht=>.start (wf t ht).1,lt,⟨λ t x ht hx=>?_,λ t x ht hx _ _=>one t x ht hx,λ z=>absurd rfl z,λ z=>absurd rfl z,λ _ h t ht=>one t 0 ht h⟩,hM,by decide,.nil,λ _=>⟨rfl,λ z=>by have:=(a 0).mp z;omega⟩,λ x hx=>?_⟩
 ·obtain ⟨i,hi,e⟩:=hx.2
  rw [← e];exact lt t i ht hi
 ·rw [mem_singleton.mp hx]
  exact Ep lt hM (by decide)
theorem Lh.done {L:Nat->Sd} {s:Nat->Nat->Nat} {t:Nat} (h:Lh L M s u t vs) {r:Nat} (hr:r<(L t).m) (o:(L t).Okx (Lpd.sput (s t) r u)) (h0:s t r=0) (a:∀ x,(L 0).In (L 0).sp x↔(L 1).m<=x/\x<M) (b:∀ x,(L 1).In (L 1).sp x↔x<(L 1).m) (h1:1<=(L 1).m) :
  (∀ l,l<M->(L 0).X (up s t r u 0) l=0∨(L 1).X (up s t r u 1) l=0)/\(∃ l,l<(L 1).m/\(L 0).X (up s t r u 0) l≠0)/\∃ l,(L 1).m<=l/\l<M/\(L 1).X (up s t r u 1) l≠0:=by
 have R:=h.rl hr o
 obtain ⟨c,hu⟩:=Cm.step h.cm R h.um λ z=>(h.z z).1
 obtain ⟨k1,k2⟩:=h.okup o
 rw [show (oG L (up s t r u) (s t r) (1 - t)).u=0 from h0] at c hu
 have one:∀ x,x<M->((L 0).In (up s t r u 0) x↔¬ (L 1).In (up s t r u 1) x):=λ x hx=>by
  have e:(oG L (up s t r u) (s t r) (1 - t)).S 0 x↔¬ (oG L (up s t r u) (s t r) (1 - t)).S (1 - 0) x:=by
   by_cases x0:x=0
   ·rw [x0];exact c.ful rfl hu 0 (by decide)
   ·exact c.one 0 x (by decide) hx x0 x0
  have e:(0<=1/\(L 0).In (up s t r u 0) x)↔¬ (1<=1/\(L 1).In (up s t r u 1) x):=e
  exact ⟨λ q w=>e.mp ⟨by decide,q⟩ ⟨by decide,w⟩,λ q=>(e.mpr λ w=>q w.2).2⟩
 have lt0:∀ x,(L 0).In (up s t r u 0) x->x<M:=λ x hx=>c.lt 0 x (by decide) ⟨by decide,hx⟩
 have lt1:∀ x,(L 1).In (up s t r u 1) x->x<M:=λ x hx=>c.lt 1 x (by decide) ⟨by decide,hx⟩
 -- not the start
 have ns:¬ ((∀ x,(L 0).In (up s t r u 0) x↔(L 1).m<=x/\x<M)/\∀ x,(L 1).In (up s t r u 1) x↔x<(L 1).m):=λ ⟨e0,e1⟩=>by
  refine Pth.fin h.p R h0 rfl rfl ⟨by decide,(b 0).mpr (by omega)⟩ ?_
  funext t' x
  refine propext (and_congr_right λ ht=>?_)
  by_cases z:t'=0
  ·rw [z];exact (e0 x).trans (a x).symm
  ·rw [show t'=1 by omega];exact (e1 x).trans (b x).symm
 refine ⟨λ l hl=>?_,Classical.byContradiction λ n=>ns ?_,Classical.byContradiction λ n=>ns ?_⟩
 ·by_cases q:(L 0).In (up s t r u 0) l
  ·exact .inr (Sd.X_out ((one l hl).mp q))
  ·exact .inl (Sd.X_out q)
 ·have e0:=Sd.only_sp (h.wf 0 (by decide)).1 (k1 0 (by decide)) λ i hi hn=>Classical.byContradiction λ z=>n ⟨up s t r u 0 i,Classical.byContradiction λ w=>by
    obtain ⟨k,hk,e⟩:=(a (up s t r u 0 i)).mpr ⟨by omega,lt0 _ ⟨i,hi,rfl⟩⟩
    exact hn k hk e.symm,by rw [Sd.X_in (k1 0 (by decide)) hi];exact z⟩
  have e0:∀ x,(L 0).In (up s t r u 0) x↔(L 1).m<=x/\x<M:=λ x=>(e0 x).trans (Iff.trans ⟨λ ⟨k,hk,e⟩=>⟨k,hk,e.symm⟩,λ ⟨k,hk,e⟩=>⟨k,hk,e.symm⟩⟩ (a x))
  refine ⟨e0,λ x=>⟨λ q=>?_,λ q=>?_⟩⟩
  ·have hx:=lt1 x q
   refine Classical.byContradiction λ w=>?_
   exact (one x hx).mp ((e0 x).mpr ⟨by omega,hx⟩) q
  ·have hm:(L 1).m<=M:=Classical.byContradiction λ w=>by
    obtain ⟨i,hi,e⟩:=(b M).mpr (by omega)
    have h2:=((h.wf 1 (by decide)).1.hs i hi).1
    rw [(h.wf 1 (by decide)).2,e] at h2
    omega
   exact Classical.byContradiction λ w=>by
    have:=(one x (by omega)).mpr w
    have:=(e0 x).mp this
    omega
 ·have e1:=Sd.only_sp (h.wf 1 (by decide)).1 (k1 1 (by decide)) λ i hi hn=>Classical.byContradiction λ z=>n ⟨up s t r u 1 i,Classical.byContradiction λ w=>by
    obtain ⟨k,hk,e⟩:=(b (up s t r u 1 i)).mpr (by omega)
    exact hn k hk e.symm,lt1 _ ⟨i,hi,rfl⟩,by rw [Sd.X_in (k1 1 (by decide)) hi];exact z⟩
  have e1:∀ x,(L 1).In (up s t r u 1) x↔x<(L 1).m:=λ x=>(e1 x).trans (Iff.trans ⟨λ ⟨k,hk,e⟩=>⟨k,hk,e.symm⟩,λ ⟨k,hk,e⟩=>⟨k,hk,e.symm⟩⟩ (b x))
  refine ⟨λ x=>⟨λ q=>?_,λ q=>?_⟩,e1⟩
  ·have hx:=lt0 x q
   refine ⟨Classical.byContradiction λ w=>?_,hx⟩
   exact (one x hx).mp q ((e1 x).mpr (by omega))
  ·exact (one x q.2).mpr λ w=>by have:=(e1 x).mp w;omega
def oV:Option Nat->V
 | none=>.non
 | some f=>.int f
def em (e:List Nat->Nat->Int×Int) (h c j:Nat):Int×Int:=e (two [c,j] [j,c] h) h
def fB (e:List Nat->Nat->Int×Int) (m0 m1 h:Nat):List (List (Int×Int)):=ofF (two m0 m1 h) λ c=>ofF (two m1 m0 h) (em e h c)
def Nb (n p r:Nat):Prop:=(n=2/\p=200/\r=4)∨(n=2/\p=30/\r=20)∨(n=3/\p=30/\r=4)∨(n=4/\p=60/\r=4)∨(n=6/\p=4/\r=1)
structure T2 (e:List Nat->Nat->Int×Int) (m0 m1 n p r:Nat):Prop where
 a1:1<=m0
 b1:1<=m1
 nb:Nb n p r
 a2:m0<=n
 b2:m1<=n
 g:∀ h c j,h<=1->c<two m0 m1 h->j<two m1 m0 h->Gp p r (em e h c j)
theorem Nb.le {n r:Nat} (h:Nb n p r):n<=6/\p<=200/\r<=20/\p+r+2<=210/\n*(p+r+3+r*n)+n*n+1<=440/\1<=r/\1<=p:=by
 rcases h with ⟨rfl,rfl,rfl⟩ | ⟨rfl,rfl,rfl⟩ | ⟨rfl,rfl,rfl⟩ | ⟨rfl,rfl,rfl⟩ | ⟨rfl,rfl,rfl⟩ <;> decide
theorem Ov {a b n:Nat} (ha:a<=n) (hb:b<=n):two a b h<=n:=by unfold two;split <;> assumption
theorem Ow {a b n:Nat} (ha:n<=a) (hb:n<=b):n<=two a b h:=by unfold two;split <;> assumption
theorem T2.le {m0 m1 n r:Nat} (t:T2 e m0 m1 n p r) (h:Nat):1<=two m0 m1 h/\two m0 m1 h<=6/\1<=two m1 m0 h/\two m1 m0 h<=6/\two m0 m1 h<=n/\two m1 m0 h<=n:=by
 have:=t.nb.le.1
 have h1:=Ov (h:=h) t.a2 t.b2
 have h2:=Ov (h:=h) t.b2 t.a2
 exact ⟨Ow t.a1 t.b1,by omega,Ow t.b1 t.a1,by omega,h1,h2⟩
theorem Rs {m0 m1:Nat} {row:List (Int×Int)} (hr:row∈fB e m0 m1 h):∃ c,c<two m0 m1 h/\row=ofF (two m1 m0 h) (em e h c):=dO hr
theorem T2.gp {m0 m1 n r:Nat} (t:T2 e m0 m1 n p r) (h1:h<=1):∀ row∈fB e m0 m1 h,row.length=two m1 m0 h/\∀ f∈row,Gp p r f:=λ row hr=>by
 obtain ⟨c,hc,rfl⟩:=Rs hr
 refine ⟨aL _ _,λ f hf=>?_⟩
 obtain ⟨j,hj,rfl⟩:=dO hf
 exact t.g h c j h1 hc hj
theorem T2.wor {m0 m1 n r:Nat} (t:T2 e m0 m1 n p r) (h1:h<=1):WoR (fB e m0 m1 h) (two m1 m0 h):=by
 obtain ⟨l1,l2,l3,l4,_⟩:=t.le h
 have:=t.nb.le
 have hl:(fB e m0 m1 h).length=two m0 m1 h:=aL _ _
 exact ⟨by omega,by omega,l3,by omega,λ row hr=>(t.gp h1 row hr).1,λ row hr f hf=>let g:=(t.gp h1 row hr).2 f hf;⟨g.1,g.2.1.mono (by omega),g.2.2.mono (by omega)⟩⟩
theorem Uu {a b:Int} (h:BB p a) (hb:0<b):BB p (a.fdiv b):=by
 refine h.of_le ?_
 rw [Int.fdiv_eq_ediv_of_nonneg _ (by omega)]
 have h1:=Int.ediv_mul_le a (show b≠0 by omega)
 have h2:=Int.lt_ediv_add_one_mul_self a hb
 generalize a / b=z at *
 by_cases hz:z<0
 ·have:z*b<=z*1:=Int.mul_le_mul_of_nonpos_left (by omega) (by omega)
  have h3:(z+1)*b<=(z+1)*1:=Int.mul_le_mul_of_nonpos_left (by omega) (by omega)
  omega
 ·have:z*1<=z*b:=Int.mul_le_mul_of_nonneg_left (by omega) (by omega)
  omega
theorem Ka {m0 m1 n r:Nat} (t:T2 e m0 m1 n p r) (h1:h<=1) (m:Mnf (fB e m0 m1 h) z):BB (p+1) (1 - z):=by
 obtain ⟨row,hr,f,hf,e1⟩:=m.at_
 have g:=(t.gp h1 row hr).2 f hf
 have b:=Uu g.2.1 g.1
 rw [← e1] at b
 have:BB p 1:=by have:=t.nb.le.2.2.2.2.2.2;show (1:Int).natAbs<2 ^ p;exact Nat.one_lt_two_pow (by omega)
 exact this.sub b
theorem lft_gp {r:Nat} (g:Gp p r f) (bz:BB (p+1) (1 - z)) (hz:z<=f.1.fdiv f.2):Gp (p+r+2) r (lft z f)/\0<(lft z f).1/\Int.gcd (lft z f).1 (lft z f).2=1:=by
 have l:=eY (t:=f.1*1+(1 - z)*f.2) (b:=f.2*1) (by rw [Int.mul_one];exact g.1)
 have b1:BB (p+r+2) (f.1*1+(1 - z)*f.2):=by
  rw [Int.mul_one]
  exact ((g.2.1.mono (show p<=p+1+r by omega)).add (bz.mul g.2.2)).mono (by omega)
 refine ⟨⟨l.pos,b1.of_le l.bx,g.2.2.of_le (Nat.le_trans l.by_ (by rw [Int.mul_one];exact Nat.le_refl _))⟩,?_,l.cop⟩
 have v:=Hf g.1 hz
 exact Classical.byContradiction λ n=>by
  have:va (lft z f)<=va (0,1):=(Of l.pos (by decide)).mpr (by
   show (lft z f).1*1<=0*(lft z f).2
   omega)
  rw [qH] at this
  grind
theorem aO.sb {K:W.Frag} {x:Addr} {ys:List V} (s:Sb x H H') (hx:H x=some (.lst ys)):∀ {ps:List Addr} {fs:List (Int×Int)},aO K H ps fs->aO K H' ps fs
 | [],[],_=>trivial
 | p::_,_::_,h=>by
  refine ⟨?_,aO.sb s hx h.2⟩
  rcases h.1 with (h | ⟨o,h⟩) | h
  ·exact .inl (.inl (s _ _ h λ z=>by rw [z,hx] at h;cases h))
  ·exact .inl (.inr ⟨o,s _ _ h λ z=>by rw [z,hx] at h;cases h⟩)
  ·exact .inr h
 | [],_::_,h=>h.elim
 | _::_,[],h=>h.elim
def sdr (h:Nat) (us:List Int) (fs:List (Int×Int)):List Int:=two (us++clr fs) (clr fs++us) h++[lc fs]
def un1 (n k:Nat):List Int:=ofF n λ r=>if r=k then 1 else 0
def lV (e:List Nat->Nat->Int×Int) (m0 m1 h:Nat) (z:Int):List (List Int):=ofF (two m0 m1 h) λ c=>sdr h (un1 (two m0 m1 h) c) (ofF (two m1 m0 h) λ j=>lft z (em e h c j))
theorem Jj {fs:List (Int×Int)}:(sdr h us fs).length=us.length+fs.length+1:=by
 have cl:(clr fs).length=fs.length:=by unfold clr;rw [length_map]
 unfold sdr two
 split <;> simp [cl] <;> omega
theorem vB {m0 m1 n r:Nat} (T:T2 e m0 m1 n p r) (h1:h<=1) (mn:Mnf (fB e m0 m1 h) z) (hc:c<two m0 m1 h):∀ f∈(ofF (two m1 m0 h) λ j=>lft z (em e h c j)),Gp (p+r+2) r f/\0<f.1:=λ f hf=>by
 obtain ⟨j,hj,rfl⟩:=dO hf
 obtain ⟨a,b,_⟩:=lft_gp (T.g h c j h1 hc hj) (Ka T h1 mn) (mn.le _ (mem_of_getElem? (bT _ hc)) _ (mem_of_getElem? (bT _ hj)))
 exact ⟨a,b⟩
structure Few (L:Sd):Prop where
 wf:L.Wf
 q:∃ q,L.Sm q/\L.m*q+L.m*L.m+1<=560
 m6:L.m<=6
 w:L.W<=12
def xf (L:Sd) (s:Nat->Nat) (lo k:Nat):Int×Int:=lo2 (L.X s (lo+k)) (L.D s)
structure Gi (L:Sd) (s:Nat->Nat) (lo n:Nat) (f:Nat->Int×Int):Prop where
 g:∀ k,k<n->0<(f k).2/\0<=(f k).1/\Int.gcd (f k).1 (f k).2=1/\BB 1200 (f k).1/\BB 1200 (f k).2
 v:∀ k,k<n->va (f k)=va (xf L s lo k) / rsm n λ j=>va (xf L s lo j)
def SdO (rs:List (List Int)) (W:Nat) (sp:Nat->Nat):Sd:=⟨rs.length,W,λ l r=>(rs.getD r []).getD l 0,λ r=>(rs.getD r []).getD W 0,sp⟩
theorem SdO_tb {W:Nat} {sp:Nat->Nat} (w:(SdO rs W sp).Wf) (hw:∀ row∈rs,row.length=W+1):(SdO rs W sp).Tb sp rs:=by
 refine ⟨rfl,hw,λ i row e=>⟨1,by decide,λ j hj=>?_⟩⟩
 have hi:i<rs.length:=(List.getElem?_eq_some_iff.mp e).1
 have er:rs.getD i []=row:=by rw [getD_eq_getElem?_getD,e];rfl
 rw [show (SdO rs W sp).T sp i ((SdO rs W sp).cw j)=(SdO rs W sp).cw j i from Sd.T_start w hi _,Int.one_mul]
 unfold Sd.cw
 split
 ·show (rs.getD i []).getD j 0=_;rw [er]
 ·have q:¬ j<W:=by assumption
  have hj:j<=W:=hj
  show (rs.getD i []).getD W 0=_
  rw [er,show j=W by omega]
theorem fE {a b:List Int}:(a++b).getD i 0=if i<a.length then a.getD i 0 else b.getD (i - a.length) 0:=by
 rw [getD_eq_getElem?_getD]
 split
 ·rw [getElem?_append_left (by assumption),getD_eq_getElem?_getD]
 ·rw [getElem?_append_right (by omega),getD_eq_getElem?_getD]
theorem Dw {n k:Nat} (h:i<n):(un1 n k).getD i 0=if i=k then 1 else 0:=Ki (bT _ h)
theorem Ew {n:Nat} {f:Nat->Int×Int} (h:i<n):(clr (ofF n f)).getD i 0=(f i).1*(lc (ofF n f)).fdiv (f i).2:=Ki (Ce (bT _ h))
section
variable {e:List Nat->Nat->Int×Int} {m0 m1 n p r h c:Nat} {z:Int}
def fsr (e:List Nat->Nat->Int×Int) (m0 m1 h:Nat) (z:Int) (c:Nat):List (Int×Int):=ofF (two m1 m0 h) λ j=>lft z (em e h c j)
def sdh (e:List Nat->Nat->Int×Int) (m0 m1 h:Nat) (z:Int):Sd:=SdO (lV e m0 m1 h z) (m0+m1) (two (λ i=>i) (λ i=>m0+i) h)
def olb (m0 h j:Nat):Nat:=two (m0+j) j h
theorem Gz (hc:c<two m0 m1 h):(lV e m0 m1 h z).getD c []=sdr h (un1 (two m0 m1 h) c) (fsr e m0 m1 h z c):=by
 rw [getD_eq_getElem?_getD]
 unfold lV
 rw [bT _ hc];rfl
theorem Tk (hc:¬ c<two m0 m1 h):(lV e m0 m1 h z).getD c []=[]:=by
 rw [getD_eq_getElem?_getD,getElem?_eq_none (by unfold lV;rw [aL];omega)];rfl
theorem kX (fs:List (Int×Int)):(clr fs).length=fs.length:=by unfold clr;rw [length_map]
theorem iU:(fsr e m0 m1 h z c).length=two m1 m0 h:=aL _ _
theorem hU {n k:Nat}:(un1 n k).length=n:=aL _ _
theorem Kt (h1:h<=1) (hc:c<two m0 m1 h) (hj:j<two m1 m0 h):(sdh e m0 m1 h z).c (olb m0 h j) c=(lft z (em e h c j)).1*(lc (fsr e m0 m1 h z c)).fdiv (lft z (em e h c j)).2:=by
 show ((lV e m0 m1 h z).getD c []).getD (olb m0 h j) 0=_
 rw [Gz hc]
 unfold sdr
 rcases (show h=0∨h=1 by omega) with rfl | rfl
 ·have hj:j<m1:=hj
  show ((un1 m0 c++clr (fsr e m0 m1 0 z c))++[lc (fsr e m0 m1 0 z c)]).getD (m0+j) 0=_
  rw [fE,if_pos (by rw [length_append,hU,kX,iU];show m0+j<m0+m1;omega),fE,hU,if_neg (by omega),show m0+j - m0=j by omega]
  exact Ew hj
 ·have hj:j<m0:=hj
  show ((clr (fsr e m0 m1 1 z c)++un1 m1 c)++[lc (fsr e m0 m1 1 z c)]).getD j 0=_
  rw [fE,if_pos (by rw [length_append,hU,kX,iU];show j<m0+m1;omega),fE,kX,iU,if_pos (show j<two m1 m0 1 from hj)]
  exact Ew hj
theorem nR (h1:h<=1) (hi:i<two m0 m1 h):(sdh e m0 m1 h z).c ((sdh e m0 m1 h z).sp i)=e1 i:=by
 funext c
 show ((lV e m0 m1 h z).getD c []).getD (two (λ i=>i) (λ i=>m0+i) h i) 0=_
 by_cases hc:c<two m0 m1 h
 ·rw [Gz hc]
  unfold sdr
  rcases (show h=0∨h=1 by omega) with rfl | rfl
  ·have hi:i<m0:=hi
   show ((un1 m0 c++clr (fsr e m0 m1 0 z c))++[lc (fsr e m0 m1 0 z c)]).getD i 0=_
   rw [fE,if_pos (by rw [length_append,hU];omega),fE,hU,if_pos hi,Dw hi]
   unfold e1
   by_cases q:i=c
   ·rw [if_pos q,if_pos q.symm]
   ·rw [if_neg q,if_neg (Ne.symm q)]
  ·have hi:i<m1:=hi
   show ((clr (fsr e m0 m1 1 z c)++un1 m1 c)++[lc (fsr e m0 m1 1 z c)]).getD (m0+i) 0=_
   have fl:(fsr e m0 m1 1 z c).length=m0:=iU
   rw [fE,if_pos (by rw [length_append,hU,kX,fl];omega),fE,kX,fl,if_neg (by omega),show m0+i - m0=i by omega,Dw hi]
   unfold e1
   by_cases q:i=c
   ·rw [if_pos q,if_pos q.symm]
   ·rw [if_neg q,if_neg (Ne.symm q)]
 ·rw [Tk hc]
  unfold e1
  rw [if_neg (by omega)];rfl
theorem be_at (h1:h<=1) (hc:c<two m0 m1 h):(sdh e m0 m1 h z).be c=lc (fsr e m0 m1 h z c):=by
 show ((lV e m0 m1 h z).getD c []).getD (m0+m1) 0=_
 rw [Gz hc]
 unfold sdr
 have l:(two (un1 (two m0 m1 h) c++clr (fsr e m0 m1 h z c)) (clr (fsr e m0 m1 h z c)++un1 (two m0 m1 h) c) h).length=m0+m1:=by
  rcases (show h=0∨h=1 by omega) with rfl | rfl
  ·show (un1 m0 c++clr (fsr e m0 m1 0 z c)).length=_
   rw [length_append,hU,kX,iU];rfl
  ·show (clr (fsr e m0 m1 1 z c)++un1 m1 c).length=_
   rw [length_append,hU,kX,iU];rfl
 rw [fE,l,if_neg (by omega),Nat.sub_self];rfl
theorem Hh (h1:h<=1) {l:Nat} (hl:l<m0+m1):(∃ i,i<two m0 m1 h/\l=(sdh e m0 m1 h z).sp i)∨∃ j,j<two m1 m0 h/\l=olb m0 h j:=by
 rcases (show h=0∨h=1 by omega) with rfl | rfl
 ·by_cases q:l<m0
  ·exact .inl ⟨l,q,rfl⟩
  ·exact .inr ⟨l - m0,by show l - m0<m1;omega,by show l=m0+(l - m0);omega⟩
 ·by_cases q:l<m0
  ·exact .inr ⟨l,q,rfl⟩
  ·exact .inl ⟨l - m0,by show l - m0<m1;omega,by show l=m0+(l - m0);omega⟩
theorem gS:(sdh e m0 m1 h z).m=two m0 m1 h:=aL _ _
theorem zS (h1:h<=1) (hi:i<two m0 m1 h):(sdh e m0 m1 h z).sp i<m0+m1:=by
 rcases (show h=0∨h=1 by omega) with rfl | rfl
 ·have:i<m0:=hi
  show i<_;omega
 ·have:i<m1:=hi
  show m0+i<_;omega
theorem qO (T:T2 e m0 m1 n p r) (h1:h<=1) (mn:Mnf (fB e m0 m1 h) z) (hc:c<two m0 m1 h) (hj:j<two m1 m0 h) :
  ((sdh e m0 m1 h z).c (olb m0 h j) c:Rat)=va (lft z (em e h c j))*((sdh e m0 m1 h z).be c:Rat)/\(sdh e m0 m1 h z).be c<=(sdh e m0 m1 h z).c (olb m0 h j) c/\0<(sdh e m0 m1 h z).be c:=by
 have hp:∀ f∈fsr e m0 m1 h z c,0<f.2:=λ f hf=>(vB T h1 mn hc f hf).1.1
 have hm:lft z (em e h c j)∈fsr e m0 m1 h z c:=mem_of_getElem? (bT _ hj)
 have eq:=clr_eq hp hm
 have l0:=Pl hp
 have f2:=hp _ hm
 have v:=Hf (T.g h c j h1 hc hj).1 (mn.le _ (mem_of_getElem? (bT _ hc)) _ (mem_of_getElem? (bT _ hj)))
 rw [Kt h1 hc hj,be_at h1 hc]
 generalize lft z (em e h c j)=f at *
 generalize f.1*(lc (fsr e m0 m1 h z c)).fdiv f.2=x at *
 generalize lc (fsr e m0 m1 h z c)=w at *
 have e1:=hE f2
 have p2:=cY f2
 have p3:=cY l0
 have e2:(x:Rat)*(f.2:Rat)=(f.1:Rat)*(w:Rat):=by rw [← Rat.intCast_mul,← Rat.intCast_mul,eq]
 have e3:(x:Rat)=va f*(w:Rat):=by
  refine gA p2 ?_
  rw [e2,← e1];grind
 refine ⟨e3,Rat.intCast_le_intCast.mp ?_,l0⟩
 rw [e3]
 have:=Rat.mul_le_mul_of_nonneg_right (a:=1) (b:=va f) (c:=(w:Rat)) v (by grind)
 grind
theorem Bt (T:T2 e m0 m1 n p r) (h1:h<=1) (mn:Mnf (fB e m0 m1 h) z):Few (sdh e m0 m1 h z)/\(sdh e m0 m1 h z).W=m0+m1/\∀ row∈lV e m0 m1 h z,row.length=m0+m1+1:=by
 obtain ⟨l1,l2,l3,l4,l5,l6⟩:=T.le h
 have nb:=T.nb.le
 have M:two m0 m1 h+two m1 m0 h=m0+m1:=by unfold two;split <;> omega
 refine ⟨⟨⟨λ i hi=>⟨?_,?_⟩,λ i hi=>?_,λ l c hl hc=>?_,λ l hl=>?_⟩,⟨p+r+3+r*n,⟨by omega,λ l c hl hc=>?_,λ c hc=>?_⟩,?_⟩,?_,?_⟩,rfl,λ row hr=>?_⟩
 ·rw [gS] at hi;exact zS h1 hi
 ·rw [gS] at hi;exact nR h1 hi
 ·rw [gS] at hi;exact (qO T h1 mn hi (j:=0) l3).2.2
 ·rw [gS] at hc
  rcases Hh (e:=e) (z:=z) h1 hl with ⟨i,hi,rfl⟩ | ⟨j,hj,rfl⟩
  ·rw [nR h1 hi];unfold e1;split <;> decide
  ·have:=(qO T h1 mn hc hj).2;omega
 ·rcases Hh (e:=e) (z:=z) h1 hl with ⟨i,hi,rfl⟩ | ⟨j,hj,rfl⟩
  ·refine ⟨i,by rw [gS];exact hi,?_⟩
   rw [nR h1 hi];unfold e1;rw [if_pos rfl];decide
  ·refine ⟨0,by rw [gS];omega,?_⟩
   have:=(qO T h1 mn (c:=0) (by omega) hj).2;omega
 ·rw [gS] at hc
  have hg:∀ f∈fsr e m0 m1 h z c,Gp (p+r+2) r f:=λ f hf=>(vB T h1 mn hc f hf).1
  have bl:=Pm hg
  rw [iU] at bl
  have:r*two m1 m0 h<=r*n:=Nat.mul_le_mul_left _ l6
  rcases Hh (e:=e) (z:=z) h1 hl with ⟨i,hi,rfl⟩ | ⟨j,hj,rfl⟩
  ·rw [nR h1 hi];exact bb_e1 (by omega) _ _
  ·rw [Kt h1 hc hj]
   exact (Uy hg bl _ (mem_of_getElem? (Ce (bT _ hj)))).mono (by omega)
 ·rw [gS] at hc
  have hg:∀ f∈fsr e m0 m1 h z c,Gp (p+r+2) r f:=λ f hf=>(vB T h1 mn hc f hf).1
  have bl:=Pm hg
  rw [iU] at bl
  have:r*two m1 m0 h<=r*n:=Nat.mul_le_mul_left _ l6
  rw [be_at h1 hc]
  exact bl.mono (by omega)
 ·rw [gS]
  have a:=Nat.mul_le_mul_right (p+r+3+r*n) l5
  have b:=Nat.mul_le_mul l5 l5
  omega
 ·rw [gS];omega
 ·show m0+m1<=12
  have:=T.a2;have:=T.b2;omega
 ·obtain ⟨c,hc,rfl⟩:=dO hr
  rw [Jj,hU,aL];omega
end
theorem wJ (f:Nat->Int) (a:Nat):∀ b:Nat,sm (a+b) f=sm a f+sm b λ k=>f (a+k)
 | 0=>by show sm a f=sm a f+0;omega
 | b+1=>by
  show sm (a+b) f+f (a+b)=sm a f+(sm b (λ k=>f (a+k))+f (a+b))
  rw [wJ f a b];omega
theorem Fu {a b:Rat} (ha:0<a) (hb:0<b):0<a / b:=Classical.byContradiction λ n=>by
 have e:a / b*b=a:=Rat.div_mul_cancel (by grind)
 have:=Rat.mul_le_mul_of_nonneg_right (show a / b<=0 by grind) (c:=b) (by grind)
 grind
section
variable {e:List Nat->Nat->Int×Int} {m0 m1 n p r h c:Nat} {z:Int} {s:Nat->Nat}
theorem olb_eq (j:Nat):olb m0 h j=two m0 0 h+j:=by unfold olb two;split <;> omega
theorem Tj (T:T2 e m0 m1 n p r) (h1:h<=1) (mn:Mnf (fB e m0 m1 h) z) (o:(sdh e m0 m1 h z).Okx s) (hs:∀ k,k<(sdh e m0 m1 h z).m->s k<m0+m1) (hc:c<two m0 m1 h) :
  (sm (two m1 m0 h) λ j=>(sdh e m0 m1 h z).X s (olb m0 h j)*(sdh e m0 m1 h z).c (olb m0 h j) c)+(sdh e m0 m1 h z).X s ((sdh e m0 m1 h z).sp c)=(sdh e m0 m1 h z).D s*(sdh e m0 m1 h z).be c:=by
 rw [← Sd.X_sum o hs (by rw [gS];exact hc)]
 show _=sm (m0+m1) _
 rw [wJ]
 have sps:∀ (m:Nat),m=two m0 m1 h->(sm m λ i=>(sdh e m0 m1 h z).X s ((sdh e m0 m1 h z).sp i)*(sdh e m0 m1 h z).c ((sdh e m0 m1 h z).sp i) c)=(sdh e m0 m1 h z).X s ((sdh e m0 m1 h z).sp c):=λ m hm=>by
  rw [hm,gJ (p:=c) hc]
  ·rw [nR h1 hc];unfold e1;rw [if_pos rfl,Int.mul_one]
  ·intro k hk hn
   rw [nR h1 hk];unfold e1;rw [if_neg (Ne.symm hn),Int.mul_zero]
 rcases (show h=0∨h=1 by omega) with rfl | rfl
 ·rw [← sps m0 rfl,Int.add_comm];rfl
 ·rw [← sps m1 rfl];rfl
theorem Od (o:(sdh e m0 m1 h z).Okx s) (j:Nat):va (xf (sdh e m0 m1 h z) s (two m0 0 h) j)=((sdh e m0 m1 h z).X s (olb m0 h j):Rat) / ((sdh e m0 m1 h z).D s:Rat):=by
 unfold xf
 rw [olb_eq]
 exact Oe o.pos (eY o.pos)
def slk (L:Sd) (s:Nat->Nat) (c:Nat):Rat:=(L.X s (L.sp c):Rat) / ((L.D s:Rat)*(L.be c:Rat))
theorem Gy (T:T2 e m0 m1 n p r) (h1:h<=1) (mn:Mnf (fB e m0 m1 h) z) (o:(sdh e m0 m1 h z).Okx s) (hs:∀ k,k<(sdh e m0 m1 h z).m->s k<m0+m1) (hc:c<two m0 m1 h) :
  (rsm (two m1 m0 h) λ j=>va (xf (sdh e m0 m1 h z) s (two m0 0 h) j)*va (lft z (em e h c j)))+slk (sdh e m0 m1 h z) s c=1/\0<=slk (sdh e m0 m1 h z) s c:=by
 have l3:=(T.le h).2.2.1
 have b0:=cY (qO T h1 mn hc (j:=0) l3).2.2
 have D0:=cY o.pos
 have X0:(0:Rat)<=((sdh e m0 m1 h z).X s ((sdh e m0 m1 h z).sp c):Rat):=Rat.intCast_nonneg.mpr (Sd.X_nonneg o _)
 have DB:=Rat.mul_pos D0 b0
 have key:=Tj T h1 mn o hs hc
 have k2:((sm (two m1 m0 h) λ j=>(sdh e m0 m1 h z).X s (olb m0 h j)*(sdh e m0 m1 h z).c (olb m0 h j) c:Int):Rat)=(rsm (two m1 m0 h) λ j=>va (xf (sdh e m0 m1 h z) s (two m0 0 h) j)*va (lft z (em e h c j)))*(((sdh e m0 m1 h z).D s:Rat)*((sdh e m0 m1 h z).be c:Rat)):=by
  rw [Bv,← fC]
  refine bK λ j hj=>?_
  rw [Rat.intCast_mul,(qO T h1 mn hc hj).1,Od o]
  have:((sdh e m0 m1 h z).X s (olb m0 h j):Rat) / ((sdh e m0 m1 h z).D s:Rat)*((sdh e m0 m1 h z).D s:Rat)=((sdh e m0 m1 h z).X s (olb m0 h j):Rat):=Rat.div_mul_cancel (by grind)
  grind
 have k3:slk (sdh e m0 m1 h z) s c*(((sdh e m0 m1 h z).D s:Rat)*((sdh e m0 m1 h z).be c:Rat))=((sdh e m0 m1 h z).X s ((sdh e m0 m1 h z).sp c):Rat):=Rat.div_mul_cancel (by grind)
 have k4:(((sm (two m1 m0 h) λ j=>(sdh e m0 m1 h z).X s (olb m0 h j)*(sdh e m0 m1 h z).c (olb m0 h j) c)+(sdh e m0 m1 h z).X s ((sdh e m0 m1 h z).sp c):Int):Rat)=(((sdh e m0 m1 h z).D s*(sdh e m0 m1 h z).be c:Int):Rat):=by rw [key]
 rw [Rat.intCast_add,Rat.intCast_mul,k2,← k3] at k4
 refine ⟨gA DB (by grind),?_⟩
 refine Classical.byContradiction λ n=>?_
 have:=Rat.mul_pos (show 0 < - slk (sdh e m0 m1 h z) s c by grind) DB
 grind
theorem ys_le (T:T2 e m0 m1 n p r) (h1:h<=1) (mn:Mnf (fB e m0 m1 h) z) (o:(sdh e m0 m1 h z).Okx s) (hs:∀ k,k<(sdh e m0 m1 h z).m->s k<m0+m1) (hz:∃ j,j<two m1 m0 h/\(sdh e m0 m1 h z).X s (olb m0 h j)≠0) :
  (rsm (two m1 m0 h) λ j=>va (xf (sdh e m0 m1 h z) s (two m0 0 h) j))<=1/\0<(rsm (two m1 m0 h) λ j=>va (xf (sdh e m0 m1 h z) s (two m0 0 h) j))/\∀ j,0<=va (xf (sdh e m0 m1 h z) s (two m0 0 h) j):=by
 have l1:=(T.le h).1
 have y0:∀ j,0<=va (xf (sdh e m0 m1 h z) s (two m0 0 h) j):=λ j=>hZ (eY o.pos).pos (lK o.pos (Sd.X_nonneg o _))
 obtain ⟨q1,q2⟩:=Gy T h1 mn o hs (c:=0) (by omega)
 refine ⟨?_,?_,y0⟩
 ·have:(rsm (two m1 m0 h) λ j=>va (xf (sdh e m0 m1 h z) s (two m0 0 h) j))<=rsm (two m1 m0 h) λ j=>va (xf (sdh e m0 m1 h z) s (two m0 0 h) j)*va (lft z (em e h 0 j)):=Pb λ j hj=>by
   have v:=Hf (T.g h 0 j h1 (by omega) hj).1 (mn.le _ (mem_of_getElem? (bT _ (show 0<two m0 m1 h by omega))) _ (mem_of_getElem? (bT _ hj)))
   have:=Rat.mul_le_mul_of_nonneg_left v (y0 j)
   grind
  grind
 ·obtain ⟨j,hj,hx⟩:=hz
  have a:=wL (f:=λ j=>va (xf (sdh e m0 m1 h z) s (two m0 0 h) j)) hj λ k _=>y0 k
  have:0<va (xf (sdh e m0 m1 h z) s (two m0 0 h) j):=by
   have x0:0<(sdh e m0 m1 h z).X s (olb m0 h j):=by have:=Sd.X_nonneg o (olb m0 h j);omega
   rw [Od o]
   exact Fu (cY x0) (cY o.pos)
  grind
end
theorem Nf {n:Nat} {a:Nat->Nat->Rat} {ℓ Y:Rat} {y sl x:Nat->Rat} (hY:Y=rsm m y) (Y0:0<Y) (sl0:∀ c,c<n->0<=sl c) (eq:∀ c,c<n->(rsm m λ j=>y j*(a c j+ℓ))+sl c=1) (x1:rsm n x=1) (cm:∀ c,c<n->x c=0∨sl c=0) (hc:c<n) :
  (rsm m λ j=>y j / Y*a c j)<=rsm n λ c'=>x c'*rsm m λ j=>y j / Y*a c' j:=by
 have val:∀ c,c<n->(rsm m λ j=>y j / Y*a c j)*Y=1 - sl c - ℓ*Y:=λ c hc=>by
  have e1:(rsm m λ j=>y j*(a c j+ℓ))=(rsm m λ j=>y j / Y*a c j)*Y+(rsm m λ j=>y j)*ℓ:=by
   rw [← fC,← fC,← Bw]
   refine bK λ j _=>?_
   have:y j / Y*Y=y j:=Rat.div_mul_cancel (by grind)
   grind
  have:=eq c hc
  have hY':rsm m (λ j=>y j)=Y:=hY.symm
  grind
 have tot:(rsm n λ c'=>x c'*rsm m λ j=>y j / Y*a c' j)*Y=1 - ℓ*Y:=by
  rw [← fC]
  have:(rsm n λ c'=>x c'*(rsm m λ j=>y j / Y*a c' j)*Y)=rsm n λ c'=>x c'*(1 - ℓ*Y):=bK λ c' hc'=>by
   have v:=val c' hc'
   rcases cm c' hc' with q | q
   ·rw [q];grind
   ·rw [q] at v;grind
  rw [this,fC,x1];grind
 have v:=val c hc
 have:=sl0 c hc
 refine Classical.byContradiction λ w=>?_
 have w:(rsm n λ c'=>x c'*rsm m λ j=>y j / Y*a c' j)<(rsm m λ j=>y j / Y*a c j):=by grind
 have:=Rat.mul_lt_mul_of_pos_right w Y0
 grind
structure Eq2 (e:List Nat->Nat->Int×Int) (m0 m1:Nat) (f:Nat->Nat->Int×Int):Prop where
 g:∀ h k,h<=1->k<two m0 m1 h->0<(f h k).2/\0<=(f h k).1/\Int.gcd (f h k).1 (f h k).2=1/\BB 1200 (f h k).1/\BB 1200 (f h k).2
 s:∀ h,h<=1->(rsm (two m0 m1 h) λ k=>va (f h k))=1
 b:∀ h c,h<=1->c<two m0 m1 h->(rsm (two m1 m0 h) λ j=>va (f (1 - h) j)*va (em e h c j))<=rsm (two m0 m1 h) λ c'=>va (f h c')*rsm (two m1 m0 h) λ j=>va (f (1 - h) j)*va (em e h c' j)
theorem Jy {L:Sd} {n:Nat} {f:Nat->Int×Int} (m:Gi L s lo n f) (ps:0<rsm n λ j=>va (xf L s lo j)):(rsm n λ k=>va (f k))=1:=by
 have:(rsm n λ k=>va (f k))*(rsm n λ j=>va (xf L s lo j))=rsm n λ j=>va (xf L s lo j):=by
  rw [← fC]
  refine bK λ k hk=>?_
  rw [m.v k hk]
  exact Rat.div_mul_cancel (by grind)
 exact gA ps (by grind)
theorem Qp {m0 m1 n r:Nat} {z:Nat->Int} {S:Nat->Nat->Nat} {f:Nat->Nat->Int×Int} (T:T2 e m0 m1 n p r) (mn:∀ h,h<=1->Mnf (fB e m0 m1 h) (z h)) (o:∀ h,h<=1->(sdh e m0 m1 h (z h)).Okx (S h)) (hs:∀ h k,h<=1->k<(sdh e m0 m1 h (z h)).m->S h k<m0+m1)
  (hz:∀ h,h<=1->∃ j,j<two m1 m0 h/\(sdh e m0 m1 h (z h)).X (S h) (olb m0 h j)≠0) (cm:∀ l,l<m0+m1->(sdh e m0 m1 0 (z 0)).X (S 0) l=0∨(sdh e m0 m1 1 (z 1)).X (S 1) l=0)
  (mx:∀ h,h<=1->Gi (sdh e m0 m1 h (z h)) (S h) (two m0 0 h) (two m1 m0 h) (f (1 - h))):Eq2 e m0 m1 f:=by
 have tw:∀ h,h<=1->two m1 m0 (1 - h)=two m0 m1 h:=λ h hh=>by rcases (show h=0∨h=1 by omega) with rfl | rfl <;> rfl
 have ww:∀ h,h<=1->1 - (1 - h)=h:=λ h hh=>by omega
 have mx':∀ h,h<=1->Gi (sdh e m0 m1 (1 - h) (z (1 - h))) (S (1 - h)) (two m0 0 (1 - h)) (two m0 m1 h) (f h):=λ h hh=>by
  have:=mx (1 - h) (by omega)
  rwa [tw h hh,ww h hh] at this
 have ys:=λ h hh=>ys_le T hh (mn h hh) (o h hh) (λ k=>hs h k hh) (hz h hh)
 refine ⟨λ h k hh hk=>(mx' h hh).g k hk,λ h hh=>Jy (mx' h hh) (by have:=(ys (1 - h) (by omega)).2.1;rwa [tw h hh] at this),λ h c hh hc=>?_⟩
 have key:=Nf (n:=two m0 m1 h) (m:=two m1 m0 h) (a:=λ c j=>va (em e h c j)) (ℓ:=((1 - z h:Int):Rat)) (y:=λ j=>va (xf (sdh e m0 m1 h (z h)) (S h) (two m0 0 h) j)) (sl:=slk (sdh e m0 m1 h (z h)) (S h)) (x:=λ c=>va (f h c)) rfl (ys h hh).2.1
  (λ c hc=>(Gy T hh (mn h hh) (o h hh) (λ k=>hs h k hh) hc).2)
  (λ c hc=>by
   rw [← (Gy T hh (mn h hh) (o h hh) (λ k=>hs h k hh) hc).1]
   congr 1
   exact bK λ j hj=>by rw [Os (T.g h c j hh hc hj).1])
  (Jy (mx' h hh) (by have:=(ys (1 - h) (by omega)).2.1;rwa [tw h hh] at this))
  (λ c hc=>?_) hc
 ·have e1:∀ c,(rsm (two m1 m0 h) λ j=>va (f (1 - h) j)*va (em e h c j))=rsm (two m1 m0 h) λ j=>va (xf (sdh e m0 m1 h (z h)) (S h) (two m0 0 h) j) / (rsm (two m1 m0 h) λ j=>va (xf (sdh e m0 m1 h (z h)) (S h) (two m0 0 h) j))*va (em e h c j):=λ c=>bK λ j hj=>by rw [(mx h hh).v j hj]
  simp only [e1]
  exact key
 ·have lt:=zS (e:=e) (z:=z h) hh hc
  have lab:olb m0 (1 - h) c=(sdh e m0 m1 h (z h)).sp c:=by rcases (show h=0∨h=1 by omega) with rfl | rfl <;> rfl
  have q:(sdh e m0 m1 (1 - h) (z (1 - h))).X (S (1 - h)) ((sdh e m0 m1 h (z h)).sp c)=0∨(sdh e m0 m1 h (z h)).X (S h) ((sdh e m0 m1 h (z h)).sp c)=0:=by
   rcases (show h=0∨h=1 by omega) with rfl | rfl
   ·exact (cm _ lt).symm
   ·exact cm _ lt
  rcases q with q | q
  ·left
   rw [(mx' h hh).v c hc,Od (o (1 - h) (by omega)),lab,q]
   grind
  ·right
   unfold slk
   rw [q];grind
def Nm (h:Int):Prop:=0<=h/\BB 210 h
theorem nm_at {hs:List Int} (h:∀ x∈hs,Nm x) (hi:i<hs.length):Nm (hs.getD i 0):=by
 rw [getD_eq_getElem?_getD,getElem?_eq_getElem hi]
 exact h _ (getElem_mem hi)
theorem jY {zs:List Int} (h:i<zs.length):atI (List.map V.int zs) (i:Int)=some (.int (zs.getD i 0)):=by
 refine cE ?_
 rw [getElem?_map,getD_eq_getElem?_getD,getElem?_eq_getElem h];rfl
def ckv (m1:Nat) (ad:Nat->Addr) (k:Nat):List (List Key×V):=ofF k λ i=>(tk [i / m1,i % m1],V.ref (ad i))
theorem jA {m1 a b:Nat} (h1:a / m1=b / m1) (h2:a % m1=b % m1):a=b:=by
 rw [← Nat.div_add_mod a m1,← Nat.div_add_mod b m1,h1,h2]
theorem Sc (m1:Nat) (ad:Nat->Addr) (k:Nat):((ckv m1 ad k).map (·.1)).Nodup:=by
 unfold ckv ofF
 rw [List.map_map]
 unfold List.Nodup
 rw [List.pairwise_map]
 refine List.Pairwise.imp ?_ (List.nodup_range (n:=k))
 intro a b hab e
 have e:=pH (show tk [a / m1,a % m1]=tk [b / m1,b % m1] from e)
 injection e with e1 e2
 injection e2 with e2 _
 exact hab (jA e1 e2)
theorem Cf {m1:Nat} {k:Nat}:dR (ckv m1 ad k) (tk [k / m1,k % m1])=none:=by
 cases e:dR (ckv m1 ad k) (tk [k / m1,k % m1]) with
 | none=>rfl
 | some v =>
  unfold dR at e
  obtain ⟨p,hp,_⟩:=Option.map_eq_some_iff.mp e
  have hm:=List.mem_of_find?_eq_some hp
  have hq:=List.find?_some hp
  have hq:=of_decide_eq_true hq
  obtain ⟨i,hi,rfl⟩:=dO hm
  have e:=pH (show tk [i / m1,i % m1]=tk [k / m1,k % m1] from hq)
  injection e with e1 e2
  injection e2 with e2 _
  have:=jA e1 e2
  omega
theorem Pz {m1:Nat} (hj:j<m1) (h:i*m1+j<N):dR (ckv m1 ad N) (tk [i,j])=some (.ref (ad (i*m1+j))):=by
 refine uP (Sc m1 ad N) (i*m1+j) ?_
 unfold ckv
 rw [bT _ h]
 have h1:(i*m1+j) / m1=i:=by rw [Nat.mul_comm,Nat.mul_add_div (by omega),Nat.div_eq_of_lt hj];omega
 have h2:(i*m1+j) % m1=j:=by rw [Nat.mul_comm,Nat.mul_add_mod,Nat.mod_eq_of_lt hj]
 rw [h1,h2]
structure Ce2 (H:Hp) (c:Addr) (m1 N p r:Nat) (ad:Nat->Addr) (pa:Nat->Nat->Addr) (ff:Nat->Nat->Int×Int):Prop where
 at_:H c=some (.dT (ckv m1 ad N))
 v:∀ k,k<N->H (ad k)=some (.lst [.ref (pa k 0),.ref (pa k 1)])/\∀ h,h<=1->H (pa k h)=some (.tup [.int (ff k h).1,.int (ff k h).2])/\Gp p r (ff k h)
theorem Ce2.same {c:Addr} {m1 r:Nat} (h:Ce2 H c m1 N p r ad pa ff) (s:aE H H'):Ce2 H' c m1 N p r ad pa ff:=⟨s _ _ h.at_,λ k hk=>⟨s _ _ (h.v k hk).1,λ x hx=>⟨s _ _ ((h.v k hk).2 x hx).1,((h.v k hk).2 x hx).2⟩⟩⟩
theorem Ce2.put {c l b:Addr} {m1 r:Nat} {x y:Int×Int} (h:Ce2 H c m1 N p r ad pa ff) (hl:H l=some (.lst [.ref a,.ref b])) (ha:H a=some (.tup [.int x.1,.int x.2])) (hb:H b=some (.tup [.int y.1,.int y.2])) (gx:Gp p r x) (gy:Gp p r y) :
  ∃ ad' pa' ff',Ce2 (upd H c (.dT (eF (ckv m1 ad N) (tk [N / m1,N % m1]) (.ref l)))) c m1 (N+1) p r ad' pa' ff':=by
 refine ⟨λ k=>if k=N then l else ad k,λ k=>if k=N then two a b else pa k,λ k=>if k=N then two x y else ff k,?_,λ k hk=>?_⟩
 ·rw [aD,mQ _ Cf]
  unfold ckv
  rw [bR]
  show some (HO.dT (_++[(_,V.ref l)]))=some (HO.dT (_++[(_,V.ref (if N=N then l else ad N))]))
  rw [if_pos rfl]
  congr 3
  refine fY λ i hi=>?_
  show _=(_,V.ref (if i=N then l else ad i))
  rw [if_neg (by omega)]
 ·have off:∀ {z:Addr} {o:HO},H z=some o->(∀ kv,o≠.dT kv)->upd H c (.dT (eF (ckv m1 ad N) (tk [N / m1,N % m1]) (.ref l))) z=some o:=λ {z o} e n=>by
   rw [aN (λ q=>by rw [q,h.at_] at e;exact n _ (Option.some.inj e).symm)];exact e
  by_cases e:k=N
  ·rw [if_pos e,if_pos e,if_pos e]
   refine ⟨off hl (λ _ z=>by cases z),λ h1 hh=>?_⟩
   rcases (show h1=0∨h1=1 by omega) with rfl | rfl
   ·exact ⟨off ha (λ _ z=>by cases z),gx⟩
   ·exact ⟨off hb (λ _ z=>by cases z),gy⟩
  ·rw [if_neg e,if_neg e,if_neg e]
   obtain ⟨v1,v2⟩:=h.v k (by omega)
   exact ⟨off v1 (λ _ z=>by cases z),λ h1 hh=>⟨off (v2 h1 hh).1 (λ _ z=>by cases z),(v2 h1 hh).2⟩⟩
def eOf (m1:Nat) (ff:Nat->Nat->Int×Int) (q:List Nat) (h:Nat):Int×Int:=ff (q.getD 0 0*m1+q.getD 1 0) h
theorem aO.ofF {K:W.Frag} {H:Hp} {p:Nat->Addr} {f:Nat->Int×Int}:∀ {n:Nat},(∀ k,k<n->SqT K H (p k) [.int (f k).1,.int (f k).2])->aO K H (ofF n p) (ofF n f)
 | 0,_=>trivial
 | n+1,h=>by
  rw [bR,bR]
  exact aO.snoc (aO.ofF λ k hk=>h k (by omega)) (h n (by omega))
theorem iV {x y m0 m1:Nat} (hx:x<m0) (hy:y<m1):x*m1+y<m0*m1:=by
 have:=Nat.mul_le_mul_right m1 (show x+1<=m0 by omega)
 rw [Nat.add_mul,Nat.one_mul] at this
 omega
theorem sT (f:Nat->Rat) (a:Nat):∀ b:Nat,rsm (a+b) f=rsm a f+rsm b λ k=>f (a+k)
 | 0=>by show rsm a f=rsm a f+0;grind
 | b+1=>by
  show rsm (a+b) f+f (a+b)=rsm a f+(rsm b (λ k=>f (a+k))+f (a+b))
  rw [sT f a b];grind
theorem Ti (g:Nat->Rat) {n s:Nat} (hs:s<=n) (hn:0<n):(rsm n λ j=>g ((j+s) % n))=rsm n g:=by
 have e1:(rsm n λ j=>g ((j+s) % n))=rsm (n - s) (λ j=>g (s+j))+rsm s g:=by
  have:=sT (λ j=>g ((j+s) % n)) (n - s) s
  rw [show n - s+s=n by omega] at this
  rw [this]
  congr 1
  ·exact bK λ k hk=>by rw [Nat.mod_eq_of_lt (by omega),Nat.add_comm]
  ·refine bK λ k hk=>?_
   show g ((n - s+k+s) % n)=g k
   rw [show n - s+k+s=k+n by omega,Nat.add_mod_right,Nat.mod_eq_of_lt (by omega)]
 have e2:=sT g s (n - s)
 rw [show s+(n - s)=n by omega] at e2
 rw [e1,e2];grind
theorem Bu {f:Nat->Rat} {p:Nat}:∀ {n:Nat},p<n->(∀ k,k<n->k≠p->f k=0)->rsm n f=f p
 | 0,h,_=>absurd h (Nat.not_lt_zero _)
 | n+1,hp,h=>by
  show rsm n f+f n=f p
  by_cases e:p=n
  ·rw [Eh (n:=n) λ k hk=>h k (by omega) (by omega),e];grind
  ·rw [Bu (n:=n) (by omega) λ k hk hne=>h k (by omega) hne,h n (by omega) (by omega)];grind
theorem qX {f:Nat->Rat}:∀ {n:Nat},0<rsm n f->∃ k,k<n/\0<f k
 | 0,h=>absurd h (by show ¬ (0:Rat)<0;grind)
 | n+1,h=>by
  have h:0<rsm n f+f n:=h
  by_cases e:0<f n
  ·exact ⟨n,by omega,e⟩
  ·obtain ⟨k,hk,h1⟩:=qX (n:=n) (f:=f) (by grind)
   exact ⟨k,by omega,h1⟩
theorem Jn {n:Nat} {x u:Nat->Rat} {V:Rat} (x0:∀ c,c<n->0<=x c) (x1:rsm n x=1) (hV:V=rsm n λ c=>x c*u c) (le:∀ c,c<n->u c<=V):∀ c,c<n->x c=0∨u c=V:=by
 have z:(rsm n λ c=>x c*(V - u c))=0:=by
  have:(rsm n λ c=>x c*(V - u c))=rsm n (λ c=>x c*V)+rsm n λ c=>(x c*u c)*(-1):=by
   rw [← Bw]
   exact bK λ k _=>by grind
  rw [this,fC,fC,x1,← hV];grind
 intro c hc
 have t:=Eg (f:=λ c=>x c*(V - u c)) (λ k hk=>Rat.mul_nonneg (x0 k hk) (by have:=le k hk;grind)) z c hc
 by_cases e:x c=0
 ·exact .inl e
 ·right
  have t:x c*(V - u c)=0:=t
  rcases Rat.mul_eq_zero.mp t with q | q
  ·exact absurd q e
  ·grind
structure Uq (n:Nat) (σ τ:Nat->Nat) (A B x y:Nat->Rat):Prop where
 s1:∀ i,i<n->σ i<n/\τ (σ i)=i
 s2:∀ j,j<n->τ j<n/\σ (τ j)=j
 A0:∀ i,i<n->0<A i
 B0:∀ i,i<n->0<B i
 x0:∀ i,i<n->0<=x i
 y0:∀ i,i<n->0<=y i
 x1:rsm n x=1
 y1:rsm n y=1
 h0:∀ c,c<n->y (σ c)*A c<=rsm n λ c'=>x c'*(y (σ c')*A c')
 h1:∀ c,c<n->x (τ c)*-B (τ c)<=rsm n λ c'=>y c'*(x (τ c')*-B (τ c'))
theorem Uq.all {n:Nat} {σ τ:Nat->Nat} {A B x y:Nat->Rat} (U:Uq n σ τ A B x y):∃ V W:Rat,(∀ i,i<n->y (σ i)*A i=V)/\∀ i,i<n->x i*B i=W:=by
 have c0:=Jn U.x0 U.x1 rfl U.h0
 have c1:=Jn U.y0 U.y1 rfl U.h1
 have le0:=U.h0
 have le1:=U.h1
 generalize (rsm n λ c'=>x c'*(y (σ c')*A c'))=V at c0 le0
 generalize (rsm n λ c'=>y c'*(x (τ c')*-B (τ c')))=W at c1 le1
 obtain ⟨k,hk,yk⟩:=qX (n:=n) (f:=y) (by rw [U.y1];grind)
 obtain ⟨i0,hi0,xi⟩:=qX (n:=n) (f:=x) (by rw [U.x1];grind)
 have V0:0<V:=by
  obtain ⟨t1,t2⟩:=U.s2 k hk
  have h:=le0 (τ k) t1
  rw [t2] at h
  have:=Rat.mul_pos yk (U.A0 _ t1)
  grind
 have xp:∀ i,i<n->x i≠0:=λ i hi e=>by
  obtain ⟨s1,s2⟩:=U.s1 i hi
  have w0:=le1 (σ i) s1
  rw [s2,e] at w0
  have W0:0<=W:=by grind
  have no:∀ c,c<n->y c=0∨x (τ c)=0:=λ c hc=>by
   rcases c1 c hc with q | q
   ·exact .inl q
   ·right
    have t1:=(U.s2 c hc).1
    have b:=U.B0 _ t1
    have xx:=U.x0 _ t1
    by_cases z:x (τ c)=0
    ·exact z
    ·exfalso
     have:=Rat.mul_pos (show 0<x (τ c) by grind) b
     grind
  obtain ⟨q1,q2⟩:=U.s1 i0 hi0
  rcases c0 i0 hi0 with q | q
  ·grind
  ·rcases no (σ i0) q1 with z | z
   ·rw [z] at q;grind
   ·rw [q2] at z;grind
 have yv:∀ i,i<n->y (σ i)*A i=V:=λ i hi=>(c0 i hi).resolve_left (xp i hi)
 refine ⟨V,-W,yv,λ i hi=>?_⟩
 obtain ⟨s1,s2⟩:=U.s1 i hi
 have yn:y (σ i)≠0:=λ z=>by
  have:=yv i hi
  rw [z] at this;grind
 have:=(c1 (σ i) s1).resolve_left yn
 rw [s2] at this
 grind
theorem uA {n:Nat} {x B:Nat->Rat} {W:Rat} {t:Nat->Rat} {P:Rat} (x1:rsm n x=1) (h:∀ i,i<n->x i*B i=W) (hB:∀ i,i<n->0<B i) (hP:0<P) (ht:∀ i,i<n->t i*B i=P):0<rsm n t/\∀ i,i<n->x i*rsm n t=t i:=by
 have e:∀ i,i<n->x i*P=t i*W:=λ i hi=>by
  have a:=h i hi
  have b:=ht i hi
  rw [← a,← b];grind
 have s:P=rsm n t*W:=by
  have:rsm n x*P=rsm n t*W:=by
   rw [← fC,← fC]
   exact bK e
  rw [x1] at this;grind
 have tp:∀ i,i<n->0<t i:=λ i hi=>Classical.byContradiction λ z=>by
  have:=ht i hi
  have:=Rat.mul_le_mul_of_nonneg_right (show t i<=0 by grind) (c:=B i) (by have:=hB i hi;grind)
  grind
 obtain ⟨k,hk,_⟩:=qX (n:=n) (f:=x) (by rw [x1];grind)
 have T0:0<rsm n t:=by
  have:=wL (f:=t) hk λ i hi=>by have:=tp i hi;grind
  have:=tp k hk
  grind
 refine ⟨T0,λ i hi=>?_⟩
 have ei:=e i hi
 have W0:W≠0:=λ z=>by rw [z] at s;grind
 have:(x i*rsm n t - t i)*W=0:=by rw [s] at ei;grind
 rcases Rat.mul_eq_zero.mp this with q | q
 ·grind
 ·exact absurd q W0
theorem Mq {a b:Int} (hf:0<f.2) (hb:0<b) (g:Int.gcd f.1 f.2=1) (h:va f*(b:Rat)=(a:Rat)):f=lo2 a b:=by
 have e:f.1*b=a*f.2:=by
  have v:=hE hf
  have:((f.1*b:Int):Rat)=((a*f.2:Int):Rat):=by
   rw [Rat.intCast_mul,Rat.intCast_mul,← v,← h];grind
  exact Rat.intCast_inj.mp this
 obtain ⟨t,ht⟩:=Kl (x:=f.1) (z:=a) e g
 have t0:0<t:=Dm (by rw [← ht];exact hb) hf
 have ea:a=f.1*t:=by
  rw [ht] at e
  have:f.1*(f.2*t)=(f.1*t)*f.2:=by grind
  rw [this] at e
  exact (Int.eq_of_mul_eq_mul_right (by omega) e).symm
 refine Lo.is hb ⟨hf,g,e,?_,?_⟩
 ·rw [ea,Int.natAbs_mul];exact Nat.le_mul_of_pos_right _ (by omega)
 ·rw [ht,Int.natAbs_mul];exact Nat.le_mul_of_pos_right _ (by omega)
def tpR (g:Nat->Int×Int) (k:Nat):Nat->Int
 | 0=>(g k).2
 | j+1=>if j=k then tpR g k j else tpR g k j*(g j).1
def prA (g:Nat->Int×Int):Nat->Int
 | 0=>1
 | j+1=>prA g j*(g j).1
theorem Ox (g:Nat->Int×Int) (k:Nat):∀ n:Nat,tpR g k n*(if k<n then (g k).1 else 1)=(g k).2*prA g n
 | 0=>by show (g k).2*_=(g k).2*1;rw [if_neg (by omega)]
 | n+1=>by
  have ih:=Ox g k n
  show (if n=k then tpR g k n else tpR g k n*(g n).1)*_=(g k).2*(prA g n*(g n).1)
  by_cases e:n=k
  ·rw [if_neg (by omega)] at ih
   rw [if_pos e,if_pos (by omega),← Int.mul_assoc,← ih,e];grind
  ·rw [if_neg e]
   by_cases h:k<n
   ·rw [if_pos h] at ih
    rw [if_pos (by omega),← Int.mul_assoc,← ih];grind
   ·rw [if_neg h] at ih
    rw [if_neg (by omega),← Int.mul_assoc,← ih];grind
theorem Jd {g:Nat->Int×Int} {k:Nat} (hk:0<(g k).2):∀ {n:Nat},(∀ j,j<n->0<(g j).1)->0<tpR g k n
 | 0,_=>hk
 | n+1,h=>by
  show 0<if n=k then tpR g k n else tpR g k n*(g n).1
  have:=Jd hk (n:=n) λ j hj=>h j (by omega)
  split
  ·exact this
  ·exact Int.mul_pos this (h n (by omega))
theorem Gk {g:Nat->Int×Int} {k p:Nat} (hk:BB p (g k).2):∀ {n:Nat},(∀ j,j<n->BB p (g j).1)->BB (p*(n+1)) (tpR g k n)
 | 0,_=>by rw [Nat.zero_add,Nat.mul_one];exact hk
 | n+1,h=>by
  have:=Gk hk (n:=n) λ j hj=>h j (by omega)
  show BB _ (if n=k then tpR g k n else tpR g k n*(g n).1)
  have e:p*(n+1+1)=p*(n+1)+p:=by rw [Nat.mul_add p (n+1) 1,Nat.mul_one]
  split
  ·exact this.mono (by omega)
  ·rw [e];exact this.mul (h n (by omega))
theorem Jo {g:Nat->Int×Int}:∀ {n:Nat},(∀ j,j<n->0<(g j).1)->0<prA g n
 | 0,_=>by show (0:Int)<1;decide
 | n+1,h=>Int.mul_pos (Jo λ j hj=>h j (by omega)) (h n (by omega))
theorem tpR_va {g:Nat->Int×Int} {n k:Nat} (hk:k<n) (h2:0<(g k).2):((tpR g k n:Int):Rat)*va (g k)=((prA g n:Int):Rat):=by
 have e:=Ox g k n
 rw [if_pos hk] at e
 have v:=hE h2
 have p:=cY h2
 refine gA p ?_
 have:((tpR g k n*(g k).1:Int):Rat)=(((g k).2*prA g n:Int):Rat):=by rw [e]
 rw [Rat.intCast_mul,Rat.intCast_mul] at this
 rw [Rat.mul_assoc,v,this];grind
def shF (g:Nat->Int×Int) (n k:Nat):Int×Int:=lo2 (tpR g k n) (sm n λ j=>tpR g j n)
structure Abv (g:Nat->Int×Int) (n:Nat):Prop where
 p:∀ k,k<n->0<(g k).1/\0<(g k).2/\BB 60 (g k).1/\BB 60 (g k).2
 n1:1<=n
 n6:n<=6
theorem Abv.sum {g:Nat->Int×Int} {n:Nat} (h:Abv g n):(∀ k,k<n->0<tpR g k n/\BB 420 (tpR g k n))/\0<(sm n λ j=>tpR g j n)/\BB 426 (sm n λ j=>tpR g j n):=by
 have t:∀ k,k<n->0<tpR g k n/\BB 420 (tpR g k n):=λ k hk=>⟨Jd (h.p k hk).2.1 λ j hj=>(h.p j hj).1,(Gk (h.p k hk).2.2.2 (n:=n) λ j hj=>(h.p j hj).2.2.1).mono (by have:=h.n6;omega)⟩
 refine ⟨t,?_,?_⟩
 ·have:(sm n λ j=>tpR g j n)=sm n (λ j=>tpR g j n - 0):=cK λ k _=>by omega
  have h0:tpR g 0 n<=sm n λ j=>tpR g j n:=by
   have e:=wJ (λ j=>tpR g j n) 1 (n - 1)
   rw [show 1+(n - 1)=n by have:=h.n1;omega] at e
   rw [e]
   have:0<=sm (n - 1) λ k=>tpR g (1+k) n:=Lpd.sm_nonneg λ k hk=>Int.le_of_lt (t (1+k) (by omega)).1
   show tpR g 0 n<=0+tpR g 0 n+_
   omega
  have:=(t 0 (by have:=h.n1;omega)).1
  omega
 ·have e:(sm n λ j=>tpR g j n)=(ofF n λ j=>tpR g j n).sum:=(Bz _ _).symm
  rw [e]
  have:=Gw (l:=ofF n λ j=>tpR g j n) (p:=420) λ x hx=>by
   obtain ⟨k,hk,rfl⟩:=dO hx
   exact (t k hk).2
  rw [aL] at this
  exact this.mono (by have:=h.n6;omega)
theorem Abv.is {g:Nat->Int×Int} {n k:Nat} (h:Abv g n) (hf:0<f.2) (gf:Int.gcd f.1 f.2=1) (e:va f*(rsm n λ j=>((tpR g j n:Int):Rat))=((tpR g k n:Int):Rat)):f=shF g n k:=by
 refine Mq hf h.sum.2.1 gf ?_
 rw [Bv];exact e
theorem Ia {kvs:List (List Key×V)} {k:List Key} {v w:V} (h:dR kvs k=none):eF (eF kvs k v) k w=eF kvs k w:=by
 have hn:∀ p∈kvs,p.1≠k:=λ p hp e=>by
  have a:=jW k kvs
  rw [h] at a
  have:(kvs.any λ kv=>decide (kv.1=k))=true:=List.any_eq_true.mpr ⟨p,hp,decide_eq_true e⟩
  rw [this] at a;cases a
 rw [mQ v h,mQ w h]
 unfold eF
 rw [if_pos (by rw [List.any_append];simp),map_append]
 congr 1
 ·refine (map_congr_left λ p hp=>?_).trans (List.map_id _)
  rw [if_neg (hn p hp)];rfl
 ·simp
theorem Ce2.more {c l b:Addr} {m1 r:Nat} (h:Ce2 H c m1 N p r ad pa ff) (hc:H' c=some (.dT (eF (ckv m1 ad N) (tk [N / m1,N % m1]) (.ref l)))) (k:∀ z o,H z=some o->z≠c->H' z=some o) (hl:H' l=some (.lst [.ref a,.ref b])) (ha:H' a=some (.tup [.int (ff N 0).1,.int (ff N 0).2])) (hb:H' b=some (.tup [.int (ff N 1).1,.int (ff N 1).2])) (gx:Gp p r (ff N 0)) (gy:Gp p r (ff N 1)):∃ ad' pa',Ce2 H' c m1 (N+1) p r ad' pa' ff:=by
 refine ⟨λ k=>if k=N then l else ad k,λ k=>if k=N then two a b else pa k,?_,λ k' hk=>?_⟩
 ·rw [hc,mQ _ Cf]
  unfold ckv
  rw [bR]
  show some (HO.dT (_++[(_,V.ref l)]))=some (HO.dT (_++[(_,V.ref (if N=N then l else ad N))]))
  rw [if_pos rfl]
  congr 3
  refine fY λ i hi=>?_
  show _=(_,V.ref (if i=N then l else ad i))
  rw [if_neg (by omega)]
 ·by_cases e:k'=N
  ·rw [if_pos e,if_pos e,e]
   refine ⟨hl,λ h1 hh=>?_⟩
   rcases (show h1=0∨h1=1 by omega) with rfl | rfl
   ·exact ⟨ha,gx⟩
   ·exact ⟨hb,gy⟩
  ·rw [if_neg e,if_neg e]
   obtain ⟨v1,v2⟩:=h.v k' (by omega)
   have ne:∀ {z:Addr} {o:HO},H z=some o->(∀ kv,o≠.dT kv)->z≠c:=λ {z o} e n q=>by rw [q,h.at_] at e;exact n _ (Option.some.inj e).symm
   exact ⟨k _ _ v1 (ne v1 (λ _ z=>by cases z)),λ h1 hh=>⟨k _ _ (v2 h1 hh).1 (ne (v2 h1 hh).1 (λ _ z=>by cases z)),(v2 h1 hh).2⟩⟩
def uH (m:Nat) (ad:Nat->Addr) (k:Nat):List (List Key×V):=ofF k λ i=>(tk [i / m,0,i % m],V.ref (ad i))
theorem Nk (m:Nat) (ad:Nat->Addr) (k:Nat):((uH m ad k).map (·.1)).Nodup:=by
 unfold uH ofF
 rw [List.map_map]
 unfold List.Nodup
 rw [List.pairwise_map]
 refine List.Pairwise.imp ?_ (List.nodup_range (n:=k))
 intro a b hab e
 have e:=pH (show tk [a / m,0,a % m]=tk [b / m,0,b % m] from e)
 injection e with e1 e2
 injection e2 with _ e2
 injection e2 with e2 _
 exact hab (jA e1 e2)
theorem Se {k:Nat}:dR (uH m ad k) (tk [k / m,0,k % m])=none:=by
 cases e:dR (uH m ad k) (tk [k / m,0,k % m]) with
 | none=>rfl
 | some v =>
  unfold dR at e
  obtain ⟨p,hp,_⟩:=Option.map_eq_some_iff.mp e
  have hm:=List.mem_of_find?_eq_some hp
  have hq:=List.find?_some hp
  have hq:=of_decide_eq_true hq
  obtain ⟨i,hi,rfl⟩:=dO hm
  have e:=pH (show tk [i / m,0,i % m]=tk [k / m,0,k % m] from hq)
  injection e with e1 e2
  injection e2 with _ e2
  injection e2 with e2 _
  have:=jA e1 e2
  omega
theorem Uz (hj:j<m) (h:i*m+j<N):dR (uH m ad N) (tk [i,0,j])=some (.ref (ad (i*m+j))):=by
 refine uP (Nk m ad N) (i*m+j) ?_
 unfold uH
 rw [bT _ h]
 have h1:(i*m+j) / m=i:=by rw [Nat.mul_comm,Nat.mul_add_div (by omega),Nat.div_eq_of_lt hj];omega
 have h2:(i*m+j) % m=j:=by rw [Nat.mul_comm,Nat.mul_add_mod,Nat.mod_eq_of_lt hj]
 rw [h1,h2]
structure Th3 (H:Hp) (d:Addr) (m N:Nat) (ad:Nat->Addr) (xt:Nat->List V):Prop where
 at_:H d=some (.dT (uH m ad N))
 v:∀ k,k<N->H (ad k)=some (.lst (xt k))/\(xt k).length=3
theorem Th3.keep {xt:Nat->List V} (h:Th3 H d m N ad xt) (hd:H' d=H d) (k:∀ z xs,H z=some (.lst xs)->H' z=some (.lst xs)):Th3 H' d m N ad xt:=⟨by rw [hd];exact h.at_,λ i hi=>⟨k _ _ (h.v i hi).1,(h.v i hi).2⟩⟩
theorem Th3.same {xt:Nat->List V} (h:Th3 H d m N ad xt) (s:aE H H'):Th3 H' d m N ad xt:=⟨s _ _ h.at_,λ i hi=>⟨s _ _ (h.v i hi).1,(h.v i hi).2⟩⟩
theorem Th3.put {l:Addr} {xt:Nat->List V} {xs:List V} (h:Th3 H d m N ad xt) (hl:H l=some (.lst xs)) (x3:xs.length=3):∃ ad' xt',Th3 (upd H d (.dT (eF (uH m ad N) (tk [N / m,0,N % m]) (.ref l)))) d m (N+1) ad' xt':=by
 refine ⟨λ k=>if k=N then l else ad k,λ k=>if k=N then xs else xt k,?_,λ k hk=>?_⟩
 ·rw [aD,mQ _ Se]
  unfold uH
  rw [bR]
  show some (HO.dT (_++[(_,V.ref l)]))=some (HO.dT (_++[(_,V.ref (if N=N then l else ad N))]))
  rw [if_pos rfl]
  congr 3
  refine fY λ i hi=>?_
  show _=(_,V.ref (if i=N then l else ad i))
  rw [if_neg (by omega)]
 ·by_cases e:k=N
  ·rw [if_pos e,if_pos e]
   exact ⟨by rw [aN (eK hl h.at_ (by intro z;cases z))];exact hl,x3⟩
  ·rw [if_neg e,if_neg e]
   obtain ⟨v1,v2⟩:=h.v k (by omega)
   exact ⟨by rw [aN (eK v1 h.at_ (by intro z;cases z))];exact v1,v2⟩
def cf (m on:Nat) (ga gb:Nat->Int×Int) (k h:Nat):Int×Int:=if k % m=(k / m+on) % m then two (ga (k / m)) (0 - (gb (k / m)).1,(gb (k / m)).2) h else (0,1)
theorem vQ {on:Nat} (hj:j<m):cf m on ga gb (i*m+j) h=if j=(i+on) % m then two (ga i) (0 - (gb i).1,(gb i).2) h else (0,1):=by
 have h1:(i*m+j) / m=i:=by rw [Nat.mul_comm,Nat.mul_add_div (by omega),Nat.div_eq_of_lt hj];omega
 have h2:(i*m+j) % m=j:=by rw [Nat.mul_comm,Nat.mul_add_mod,Nat.mod_eq_of_lt hj]
 unfold cf
 rw [h1,h2]
theorem va_neg:va (0 - f.1,f.2) = - va f:=by
 unfold va
 show ((0 - f.1:Int):Rat) / _=_
 rw [show (0:Int) - f.1 = - f.1 by omega,Rat.intCast_neg];grind
theorem Jk {on:Nat} (hon:on<m):(∀ i,i<m->(i+on) % m<m/\((i+on) % m+(m - on)) % m=i)/\∀ j,j<m->(j+(m - on)) % m<m/\((j+(m - on)) % m+on) % m=j:=by
 have key:∀ a b i,a+b=m->i<m->((i+a) % m+b) % m=i:=λ a b i h hi=>by
  rw [Nat.mod_add_mod,show i+a+b=i+m by omega,Nat.add_mod_right,Nat.mod_eq_of_lt hi]
 exact ⟨λ i hi=>⟨Nat.mod_lt _ (by omega),key on (m - on) i (by omega) hi⟩,λ j hj=>⟨Nat.mod_lt _ (by omega),key (m - on) on j (by omega) hj⟩⟩
theorem Tu {on:Nat} {f:Nat->Nat->Int×Int} (hon:on<m) (Aa:Abv ga m) (Ab:Abv gb m) (E:Eq2 (eOf m (cf m on ga gb)) m m f):(∀ k,k<m->f 0 k=shF gb m k)/\∀ k,k<m->f 1 k=shF ga m ((k+(m - on)) % m):=by
 obtain ⟨r1,r2⟩:=Jk hon
 have tm:∀ h,two m m h=m:=λ h=>by unfold two;split <;> rfl
 have g:=λ h k (hh:h<=1) (hk:k<m)=>E.g h k hh (by rw [tm];exact hk)
 have sm1:=λ h (hh:h<=1)=>by have:=E.s h hh;rw [tm] at this;exact this
 have e0:∀ c,c<m->(rsm m λ j=>va (f 1 j)*va (em (eOf m (cf m on ga gb)) 0 c j))=va (f 1 ((c+on) % m))*va (ga c):=λ c hc=>by
  rw [Bu (p:=(c+on) % m) (r1 c hc).1]
  ·show _*va (cf m on ga gb (c*m+(c+on) % m) 0)=_
   rw [vQ (r1 c hc).1,if_pos rfl];rfl
  ·intro j hj hn
   show _*va (cf m on ga gb (c*m+j) 0)=0
   rw [vQ hj,if_neg hn,qH];grind
 have e1:∀ c,c<m->(rsm m λ j=>va (f 0 j)*va (em (eOf m (cf m on ga gb)) 1 c j))=va (f 0 ((c+(m - on)) % m))*-va (gb ((c+(m - on)) % m)):=λ c hc=>by
  rw [Bu (p:=(c+(m - on)) % m) (r2 c hc).1]
  ·show _*va (cf m on ga gb ((c+(m - on)) % m*m+c) 1)=_
   rw [vQ hc,if_pos (r2 c hc).2.symm]
   show _*va (0 - (gb _).1,(gb _).2)=_
   rw [va_neg]
  ·intro j hj hn
   show _*va (cf m on ga gb (j*m+c) 1)=0
   rw [vQ hc,if_neg (λ z=>hn (by rw [z];exact (r1 j hj).2.symm)),qH];grind
 have U:Uq m (λ i=>(i+on) % m) (λ j=>(j+(m - on)) % m) (λ i=>va (ga i)) (λ i=>va (gb i)) (λ i=>va (f 0 i)) (λ i=>va (f 1 i)):=by
  refine ⟨r1,r2,λ i hi=>Gj (Aa.p i hi).2.1 (Aa.p i hi).1,λ i hi=>Gj (Ab.p i hi).2.1 (Ab.p i hi).1,λ i hi=>hZ (g 0 i (by decide) hi).1 (g 0 i (by decide) hi).2.1,λ i hi=>hZ (g 1 i (by decide) hi).1 (g 1 i (by decide) hi).2.1,sm1 0 (by decide),sm1 1 (by decide),λ c hc=>?_,λ c hc=>?_⟩
  ·have b:=E.b 0 c (by decide) (by rw [tm];exact hc)
   rw [tm] at b
   have b:(rsm m λ j=>va (f 1 j)*va (em (eOf m (cf m on ga gb)) 0 c j))<=rsm m λ c'=>va (f 0 c')*rsm m λ j=>va (f 1 j)*va (em (eOf m (cf m on ga gb)) 0 c' j):=b
   rw [e0 c hc,bK (f:=λ c'=>va (f 0 c')*rsm m λ j=>va (f 1 j)*va (em (eOf m (cf m on ga gb)) 0 c' j)) (g:=λ c'=>va (f 0 c')*(va (f 1 ((c'+on) % m))*va (ga c'))) λ k hk=>by rw [e0 k hk]] at b
   exact b
  ·have b:=E.b 1 c (by decide) (by rw [tm];exact hc)
   rw [tm] at b
   have b:(rsm m λ j=>va (f 0 j)*va (em (eOf m (cf m on ga gb)) 1 c j))<=rsm m λ c'=>va (f 1 c')*rsm m λ j=>va (f 0 j)*va (em (eOf m (cf m on ga gb)) 1 c' j):=b
   rw [e1 c hc,bK (f:=λ c'=>va (f 1 c')*rsm m λ j=>va (f 0 j)*va (em (eOf m (cf m on ga gb)) 1 c' j)) (g:=λ c'=>va (f 1 c')*(va (f 0 ((c'+(m - on)) % m))*-va (gb ((c'+(m - on)) % m)))) λ k hk=>by rw [e1 k hk]] at b
   exact b
 obtain ⟨Vv,W,hy,hx⟩:=U.all
 have qa:∀ {gg:Nat->Int×Int},Abv gg m->∀ i,i<m->((tpR gg i m:Int):Rat)*va (gg i)=((prA gg m:Int):Rat):=λ A i hi=>tpR_va hi (A.p i hi).2.1
 have pp:∀ {gg:Nat->Int×Int},Abv gg m->(0:Rat)<((prA gg m:Int):Rat):=λ A=>cY (Jo λ j hj=>(A.p j hj).1)
 refine ⟨λ k hk=>?_,λ k hk=>?_⟩
 ·have s:=(uA (x:=λ i=>va (f 0 i)) (B:=λ i=>va (gb i)) (t:=λ i=>((tpR gb i m:Int):Rat)) U.x1 hx U.B0 (pp Ab) (qa Ab)).2 k hk
  exact Ab.is (g 0 k (by decide) hk).1 (g 0 k (by decide) hk).2.2.1 s
 ·have y1:(rsm m λ i=>va (f 1 ((i+on) % m)))=1:=by rw [Ti (λ j=>va (f 1 j)) (by omega) (by omega)];exact U.y1
  obtain ⟨t1,t2⟩:=r2 k hk
  have s:=(uA (x:=λ i=>va (f 1 ((i+on) % m))) (B:=λ i=>va (ga i)) (t:=λ i=>((tpR ga i m:Int):Rat)) y1 hy U.A0 (pp Aa) (qa Aa)).2 _ t1
  have s:va (f 1 (((k+(m - on)) % m+on) % m))*_=_:=s
  rw [t2] at s
  exact Aa.is (g 1 k (by decide) hk).1 (g 1 k (by decide) hk).2.2.1 s
def mD (H:Hp) (ps:List Addr) (fs:List (Int×Int)):Prop:=ps.length=fs.length/\∀ (i:Nat) p f,ps[i]?=some p->fs[i]?=some f->H p=some (.tup [.int f.1,.int f.2])
theorem mD.same {fs:List (Int×Int)} (h:mD H ps fs) (s:aE H H'):mD H' ps fs:=⟨h.1,λ i p f h1 h2=>s _ _ (h.2 i p f h1 h2)⟩
theorem mD.length {fs:List (Int×Int)} (h:mD H ps fs):ps.length=fs.length:=h.1
theorem mD.at_ {n:Nat} {g:Nat->Int×Int} {p:Addr} (h:mD H ps (ofF n g)) (hp:ps[i]?=some p) (hi:i<n):H p=some (.tup [.int (g i).1,.int (g i).2]):=h.2 i p _ hp (bT _ hi)
theorem mD.snoc {n:Nat} {g:Nat->Int×Int} {p:Addr} {x:Int×Int} (h:mD H ps (ofF n g)) (hp:H p=some (.tup [.int x.1,.int x.2])) (e:g n=x):mD H (ps++[p]) (ofF (n+1) g):=by
 have hl:=h.1
 rw [aL] at hl
 refine ⟨by rw [length_append,aL,hl];rfl,λ i q f h1 h2=>?_⟩
 obtain ⟨hi,rfl⟩:=dQ h2
 by_cases q:i<n
 ·rw [getElem?_append_left (by omega)] at h1
  exact h.2 i _ _ h1 (bT _ q)
 ·have:i=n:=by omega
  subst this
  rw [getElem?_append_right (by omega),hl,Nat.sub_self] at h1
  cases h1
  rw [e];exact hp
theorem mD.frs {K:W.Frag}:∀ {ps:List Addr} {fs:List (Int×Int)},mD H ps fs->aO K H ps fs
 | [],[],_=>trivial
 | p::ps,f::fs,h=>⟨SqT.of (h.2 0 p f rfl rfl),mD.frs ⟨by simpa using h.1,λ i q g h1 h2=>h.2 (i+1) q g (by simpa using h1) (by simpa using h2)⟩⟩
 | [],_::_,h=>by simp [mD] at h
 | _::_,[],h=>by simp [mD] at h
def uD:List PySem.Str:=["_law_script", "_law_many", "_law_found", "_law_k", "_law_cell", "_law_at"]
def hW (K:W.Frag):Sp:=λ vs H Q _=>∃ a ns,∃ many:Nat,vs=[.ref a,.int many]/\SqL K H a (List.map V.int ns)/\ns.length<=63/\1<=many/\many<=1000/\∀ l hs H',aE H H'->H' l=some (.lst (List.map V.int hs))->hs.length=many->(∀ h∈hs,Nm h)->Q (.ref l) H'
def pY (a l:Addr) (many:Nat) (H0:Hp):Nat->St->Hp->Prop:=λ _ σ H3=>∃ (o1 o2 o3:Option V) (hs:List Int),σ=[some (.ref a),some (.int many),some (.ref l),o1,o2,o3]/\aE H0 H3/\H3 l=some (.lst (List.map V.int hs))/\hs.length=many/\∀ h∈hs,Nm h
def iJ (K:W.Frag):TS:=(aQ (aW (tOp eJ (aB 3) (aB 1)) (aI 5)) (aW (tOp eJ (tOp gU (tOp gU (tOp dH (tOp (bW K) (aB 2) (aB 5)) (tC (.int 48271))) (aB 4)) (tOp dH (aB 3) (aB 3))) (tOp gU (tOp vO (tC (.int 10)) (tC (.int 60))) (tC (.int 7)))) (Ny (aB 2) (aB 5) Dl)))
def nF (K:W.Frag):TS:=(aQ (aW (tC (.int 0)) (aI 4)) (aQ (dU (bA (tOp yQ (tCB (lZ K) (aC (aB 0) aM)) (tC (.int 0)))) (aW (tOp eJ (tOp (bW K) (aB 0) (tOp eJ (aB 3) (tCB Ss (aC (tCB (lZ K) (aC (aB 0) aM)) (aC (tC (.int 63)) aM))))) (tOp gU (tOp vO (tC (.int 10)) (tC (.int 60))) (tC (.int 7)))) (aI 4)) bS) (iJ K)))
def nE (K:W.Frag):TE:=(tC (.int 0))
def mV (K:W.Frag):TS:=(aQ (aW (bP (eL (aC (aB 1) aM)) [] (nE K)) (aI 2)) (aQ (cH (eL (aC (tCB cMax (aC (aB 1) (aC (tCB Ss (aC (tCB (lZ K) (aC (aB 0) aM)) (aC (tC (.int 63)) aM))) aM))) aM)) (aI 3) (nF K)) (aX (aB 2))))
theorem Sj {K vs H Q E} (h:hW K vs H Q E):vs.length=2:=by obtain ⟨a,ns,m,rfl,_⟩:=h;rfl
theorem nm_mod (c:Int):Nm (c % (10 ^ Int.toNat 60+7)):=by
 have w1:=Int.emod_nonneg c (show (10 ^ Int.toNat 60+7:Int)≠0 by decide)
 have w2:=Int.emod_lt_of_pos c (show (0:Int)<10 ^ Int.toNat 60+7 by decide)
 refine ⟨w1,?_⟩
 generalize c % (10 ^ Int.toNat 60+7)=w at w1 w2 ⊢
 have e60:(10 ^ Int.toNat 60:Int)=1000000000000000000000000000000000000000000000000000000000000:=by decide
 rw [e60] at w2
 unfold BB
 have:(2:Nat) ^ 210=1645504557321206042154969182557350504982735865633579863348609024:=by decide
 rw [this]
 omega
theorem Cs {K vs H Q E} (h:hW K vs H Q E):mV K { nx:=λ _ H'=>Q .non H',rt:=Q } (start uD vs) H:=by
 obtain ⟨a,ns,many,rfl,hS,hn,m1,m2,q⟩:=h
 rw [show start uD [V.ref a,V.int many]=[some (.ref a),some (.int many),none,none,none,none] from rfl]
 (dsimp! [mV,bP,cH,eL,cMax,Ss,aQ,aW,aI,aB,tC,aX,aC,aM,tCB,lZ])
 refine ⟨by omega,by omega,gB (lo:=0) (W:=WEq H λ i zs=>zs=List.map V.int (List.replicate i 0)) (by rw [sizeLine_eq];omega) ⟨rfl,rfl⟩ ?_ ?_⟩
 ·rintro i ys H3 _ _ ⟨rfl,rfl⟩
  dsimp only [nE,tC,cC,cD,cB]
  exact ⟨rfl,by show _=List.map V.int (List.replicate (i+1) 0);rw [List.replicate_succ',map_append];rfl⟩
 ·rintro ys H3 _ ⟨rfl,rfl⟩ l hl
  rw [Int.toNat_natCast]
  have s1:=aE.upd (o:=HO.lst (List.map V.int (List.replicate many 0))) hl
  refine ⟨_,.inl (s1.seq hS),?_⟩
  rw [length_map]
  have hj:∃ j:Nat,(if (if 63<(ns.length:Int) then 63 else (ns.length:Int)) > many then (if 63<(ns.length:Int) then 63 else (ns.length:Int)) else (many:Int))=j/\j<=1063:=by
   refine ⟨(if (if 63<(ns.length:Int) then 63 else (ns.length:Int)) > many then (if 63<(ns.length:Int) then 63 else (ns.length:Int)) else (many:Int)).toNat,?_,?_⟩
   ·split <;> (try split) <;> omega
   ·split <;> (try split) <;> omega
  obtain ⟨j,ej,hj⟩:=hj
  rw [ej,Int.toNat_natCast]
  refine ⟨by omega,by omega,kD (lo:=0) (n:=j) (g:=aI 3) (D:={ nx:=aX (aB 2) { nx:=λ _ H'=>Q .non H',rt:=Q },rt:=Q }) (pY a l many H3) ?_ ?_ ?_⟩
  ·exact ⟨none,none,none,List.replicate many 0,rfl,s1,aD,by rw [List.length_replicate],λ h hh=>by rw [List.eq_of_mem_replicate hh];exact ⟨by decide,by unfold BB;decide⟩⟩
  ·rintro i σ H4 hij ⟨o1,o2,o3,hs,rfl,s4,hl4,hlen,hb⟩
   have last:∀ c:Int,iJ K { nx:=pY a l many H3 (i+1),ct:=pY a l many H3 (i+1),bk:=aX (aB 2) { nx:=λ _ H'=>Q .non H',rt:=Q },rt:=Q } [some (.ref a),some (.int many),some (.ref l),some (.int (0+i)),some (.int c),o3] H4:=by
    intro c
    have hat:((0+(i:Int)) % (many:Int))=((i % many:Nat):Int):=by rw [Int.zero_add];push_cast;rfl
    have hik:i % many<many:=Nat.mod_lt _ (by omega)
    (dsimp! [iJ,Ny,Dl,aQ,aW,aI,aB,tC,tOp,rI0,rI,gU,dH,eJ,vO,bW])
    refine ⟨by omega,_,SqL.of hl4,_,Cg (by rw [hat];omega) (by rw [hat,hlen];omega),_,rfl,.r (by unfold BB;decide),.r (by unfold BB;omega),⟨by decide,by decide,by decide⟩,by decide,_,hl4,_,(by rw [length_map,hlen];exact Ke (by rw [hat];omega) (by rw [hat];omega)),?_⟩
    rw [← List.map_set]
    refine ⟨_,_,_,_,rfl,s4.put hl,aD,by rw [length_set,hlen],λ h hh=>?_⟩
    rcases mem_or_eq_of_mem_set hh with hh | rfl
    ·exact hb h hh
    ·exact nm_mod _
   (dsimp? [nF,Ss,eO])
   refine ⟨_,.inl (s4.seq hS),uG (λ h0=>?_) (λ _=>last 0)⟩
   rw [length_map] at h0
   refine ⟨_,.inl (s4.seq hS),?_⟩
   rw [length_map]
   have hm:0<(if 63<(ns.length:Int) then 63 else (ns.length:Int))/\(if 63<(ns.length:Int) then 63 else (ns.length:Int))<=ns.length:=by split <;> omega
   generalize (if 63<(ns.length:Int) then 63 else (ns.length:Int))=m at hm
   have z1:=Int.emod_nonneg (0+(i:Int)) (show m≠0 by omega)
   have z2:=Int.emod_lt_of_pos (0+(i:Int)) hm.1
   exact ⟨hm.1,_,s4.seq hS,_,Cg z1 (by omega),⟨by decide,by decide,by decide⟩,_,rfl,by decide,last _⟩
  ·rintro σ H4 ⟨o1,o2,o3,hs,rfl,s4,hl4,hlen,hb⟩
   (dsimp! [aB,aX])
   exact q l hs H4 s4 hl4 hlen hb
def uE:List PySem.Str:=["_law_one", "_law_other"]
def dE (_:W.Frag):Sp:=λ vs H Q _=>∃ a b,vs=[.int a,.int b]/\Q (.int (Int.gcd a b:Nat)) H
def nG (K:W.Frag):TS:=(Kz 0 1 (aC (aB 1) (aC (tOp eJ (aB 0) (aB 1)) aM)))
def mW (K:W.Frag):TS:=(aQ (aW (tCB Bc (aC (aB 0) aM)) (aI 0)) (aQ (aW (tCB Bc (aC (aB 1) aM)) (aI 1)) (aQ (rZ (bA (tOp yQ (aB 1) (tC (.int 0)))) (nG K)) (aX (aB 0)))))
theorem Sk {K vs H Q E} (h:dE K vs H Q E):vs.length=2:=by obtain ⟨a,b,rfl,_⟩:=h;rfl
theorem Ct {K vs H Q E} (h:dE K vs H Q E):mW K { nx:=λ _ H'=>Q .non H',rt:=Q } (start uE vs) H:=by
 obtain ⟨a,b,rfl,k⟩:=h
 rw [show start uE [V.int a,V.int b]=[some (.int a),some (.int b)] from rfl]
 (dsimp! [mW,aQ,aW,aI,aB,yQ,aC,aM,tCB,Bc,Qa])
 refine Du (λ σ H'=>H'=H/\∃ g s,σ=[some (.int g),some (.int s)]/\0<=g/\0<=s/\Int.gcd g s=Int.gcd a b) (λ σ _=>(intO (σ.getD 1 none)).toNat) ?_ ?_ ?_
 ·exact ⟨rfl,_,_,rfl,by omega,by omega,by simp [Int.gcd]⟩
 ·rintro σ H' ⟨rfl,g,s,rfl,hg,hs,e⟩
  (dsimp! [nG,aB,tC,tOp,rI0,rI,eJ,aX,bA,aC,aM,Kz,decide_eq_true_eq])
  refine uG (λ hp=>?_) (λ hp=>?_)
  ·have h1:=Int.emod_nonneg g (b:=s) (by omega)
   have h2:=Int.emod_lt_of_pos g hp
   simp [hp,h1,hs]
   refine ⟨?_,?_⟩
   ·rw [← e,Int.gcd_comm g s,Int.emod_def,Int.gcd_sub_mul_left_right]
   ·show max (g % s) 0<s
    omega
  ·have h0:s=0:=by omega
   subst h0
   rw [← e,Int.gcd_zero_right] at k
   have:((g.natAbs:Nat):Int)=g:=by omega
   rw [this] at k
   exact k
 ·intro σ H' Q1 Q2 im h
  dsimp only [bA,tOp,tC,rI0] at h ⊢
  first
  | (obtain ⟨v,hv,q⟩:=uU h
     exact uT hv (Ru q λ i q=>im _ _ q))
  | (obtain ⟨v,hv,i,j,hi,hj,b,hb,q⟩:=uU h
     exact uT hv ⟨i,j,hi,hj,b,hb,im _ _ q⟩)
def Aw:List PySem.Str:=["_law_number", "_law_wide", "_law_top", "_law_bottom", "_law_most"]
def apb (b:Bool):Nat:=if b then 4 else 60
def arb (b:Bool):Nat:=if b then 1 else 4
def lD (_:W.Frag):Sp:=λ vs H Q _=>∃ (n:Int) (b:Bool),vs=[.int n,.bl b]/\Nm n/\∀ p f H',aE H H'->H' p=some (.tup [.int f.1,.int f.2])->Gp (apb b) (arb b) f->0<f.1->Q (.ref p) H'
def lP (K:W.Frag):TS:=(aQ (aW (tOp gU (tC (.int 1)) (tOp eJ (aB 0) (tOp vO (tC (.int 10)) (tC (.int 18))))) (aI 2)) (aQ (aW (tOp gU (tC (.int 1)) (tOp eJ (tOp eJ (tOp dH (aB 0) (tC (.int 48271))) (tC (.int 1000003))) (tC (.int 9)))) (aI 3)) (aQ (aW (aU (dE K) [] E0 (aC (aB 2) (aC (aB 3) aM))) (aI 4)) (aX (fR (aC (tOp eO (aB 2) (aB 4)) (aC (tOp eO (aB 3) (aB 4)) aM)))))))
def sO (K:W.Frag):TS:=(aQ (dU (tB (aB 1)) (aX (fR (aC (tOp gU (tC (.int 1)) (tOp eJ (aB 0) (tC (.int 9)))) (aC (tC (.int 1)) aM)))) bS) (lP K))
theorem Hw {K vs H Q E} (h:lD K vs H Q E):sO K { nx:=λ _ H'=>Q .non H',rt:=Q } (start Aw vs) H:=by
 obtain ⟨n,b,rfl,nm,q⟩:=h
 rw [show start Aw [V.int n,V.bl b]=[some (.int n),some (.bl b),none,none,none] from rfl]
 have bn:=nm.2
 have b1:∀ k:Int,0<=k->k<1000000->BB 20 k:=λ k h0 h1=>by unfold BB;omega
 (dsimp? [sO])
 cases b with
 | true =>
  refine Sq ⟨by decide,sz2,λ p hp=>q p (1+n % 9,1) _ (aE.upd hp) aD ⟨(show (0:Int)<1 by decide),?_,?_⟩ ?_⟩
  ·show BB 4 (1+n % 9)
   unfold BB;omega
  ·show BB 1 1;unfold BB;decide
  ·show 0<1+n % 9;omega
 | false =>
  refine vL ?_
  (dsimp? [lP];try simp_arith [lP,dE])
  have e18:(10 ^ Int.toNat 18:Int)=1000000000000000000:=by decide
  refine ⟨⟨by decide,by decide,by decide⟩,by decide,.b bn (b1 _ (by decide) (by decide)),by decide,by decide,?_⟩
  rw [e18]
  have t0:0<1+n % 1000000000000000000:=by omega
  have bt:BB 60 (1+n % 1000000000000000000):=by unfold BB;omega
  generalize 1+n % 1000000000000000000=t at t0 bt
  generalize n*48271 % 1000003=m
  have m1:0<1+m % 9:=by omega
  have bm:BB 4 (1+m % 9):=by unfold BB;omega
  generalize 1+m % 9=b at m1 bm
  have g0:0<Int.gcd t b:=Int.gcd_pos_of_ne_zero_right _ (by omega)
  have bg:=bm.gcd (i:=t) (by omega)
  refine ⟨⟨by omega,bg.mono (by decide)⟩,⟨by omega,bg.mono (by decide)⟩,sz2,λ p hp=>q p (lo2 t b) _ (aE.upd hp) aD ?_ ?_⟩
  ·have l:=eY (t:=t) m1
   exact ⟨l.pos,bt.of_le l.bx,bm.of_le l.by_⟩
  ·have l:=eY (t:=t) m1
   have e:=l.eq
   have:=Int.mul_pos t0 l.pos
   rw [← e] at this
   exact Int.pos_of_mul_pos_left this m1
def pC:List PySem.Str:=["self"]
def cU (K:W.Frag):Sp:=λ vs H Q _=>∃ t ns cont,vs=[.ref t]/\jV K H t ns cont/\∀ l,H l=none->Q (.ref l) (upd H l (.lst (tv ns)))
def jP (K:W.Frag):TS:=(aX (tCB (iP K) (aC (iO K (aB 0) "many") aM)))
theorem Nw {K vs H Q E} (h:cU K vs H Q E):vs.length=1:=by obtain ⟨t,ns,cont,rfl,_⟩:=h;rfl
theorem xY {K vs H Q E} (T:Ob K) (h:cU K vs H Q E):jP K { nx:=λ _ H'=>Q .non H',rt:=Q } (start pC vs) H:=by
 obtain ⟨t,ns,cont,rfl,⟨dx,m,d,kv,ht,hm,_⟩,q⟩:=h
 rw [show start pC [V.ref t]=[some (.ref t)] from rfl]
 (dsimp? [jP,iO,iP])
 exact ⟨_,_,_,ht,T.cl,T.nM,_,Ac _ _,m,rfl,_,.inl (SqL.of hm),q⟩
def nJ:List PySem.Str:=["self", "play", "hand", "size"]
def eV (K:W.Frag):Sp:=λ vs H Q _=>∃ t a ns cont q,vs=[.ref t,.ref a]/\jV K H t ns cont/\H a=some (.tup (tv q))/\q∈cM ns.reverse/\∀ l H',aE H H'->H l=none->H' l=some (.lst (cont q))->Q (.ref l) H'
def uN (t a:Addr) (H:Hp):Nat->St->Hp->Prop:=λ _ σ H3=>∃ o1 o2,σ=[some (.ref t),some (.ref a),o1,o2]/\aE H H3
def fO (K:W.Frag):TS:=(aX (tCB (iP K) (aC (qB (iO K (aB 0) "cells") (aB 1)) aM)))
def jB (K:W.Frag):TS:=(dU (tOr (bA (tOp rS (tOp (dL K) (aB 1) (aB 2)) (tC (.int 0)))) (bA (tOp So (tOp (dL K) (aB 1) (aB 2)) (aB 3)))) fU bS)
def fP (K:W.Frag):TG:=(oH K 2 (cO (aI 2) (cO (aI 3) oI)))
def iK (K:W.Frag):TS:=(aQ (cH (qF K (iO K (aB 0) "many")) (fP K) (jB K)) (fO K))
theorem Np {K vs H Q E} (h:eV K vs H Q E):vs.length=2:=by obtain ⟨t,a,ns,cont,q,rfl,_⟩:=h;rfl
theorem uK {K vs H Q E} (T:Ob K) (h:eV K vs H Q E):iK K { nx:=λ _ H'=>Q .non H',rt:=Q } (start nJ vs) H:=by
 obtain ⟨t,a,ns,cont,q,rfl,⟨dx,m,d,kv,ht,hm,hd,ok⟩,ha,hq,k⟩:=h
 have hql:q.length=ns.length:=by rw [eT _ q hq,List.length_reverse]
 rw [show start nJ [V.ref t,V.ref a]=[some (.ref t),some (.ref a),none,none] from rfl]
 (dsimp? [iK,cH,qF,iO])
 refine ⟨_,_,_,ht,T.cl,T.nM,_,Ac _ _,m,rfl,⟨_,SqL.of hm⟩,rC (K:=K) (a:=m) (xs:=tv ns) (g:=fP K) (D:={ nx:=fO K { nx:=λ _ H'=>Q .non H',rt:=Q },rt:=Q }) (uN t a H) ?_ ?_ ?_ ?_⟩
 ·exact ⟨_,_,rfl,aE.refl _⟩
 ·rintro i σ H3 _ ⟨_,_,_,s3⟩
  exact SqL.of (s3 _ _ hm)
 ·rintro i x p σ H3 hi ⟨o1,o2,rfl,s3⟩ hp
  obtain ⟨n,hn,rfl⟩:=Bh hi
  have hil:i<q.length:=by rw [hql];exact (List.getElem?_eq_some_iff.mp hn).1
  have hqi:q[i]?=some q[i]:=getElem?_eq_getElem hil
  have lt:=kW _ q hq i n q[i] (by rw [List.reverse_reverse];exact hn) hqi
  have s4:aE H3 (upd H3 p (.tup [.int i,.int n])):=aE.upd hp
  (dsimp? [fP,jB])
  refine ⟨_,SqT.of aD,rfl,_,_,rfl,_,_,rfl,rfl,_,rfl,_,SqT.of (s4 _ _ (s3 _ _ ha)),_,cE (tv_at hqi),_,rfl,?_⟩
  rw [if_neg (by omega)]
  refine ⟨_,rfl,_,SqT.of (s4 _ _ (s3 _ _ ha)),_,cE (tv_at hqi),_,rfl,_,rfl,?_⟩
  rw [if_neg (by omega)]
  exact ⟨_,_,rfl,s3.trans s4⟩
 ·rintro σ H3 ⟨o1,o2,rfl,s3⟩
  (dsimp? [fO,qB,iO,iP])
  obtain ⟨l,hv,hL⟩:=ok q hq
  exact ⟨_,_,_,s3 _ _ ht,T.cl,T.nC,_,xM _ _,d,rfl,_,(by rw [← hv];exact mH.t (s3 _ _ hd) (by rw [vN];exact s3 _ _ ha)),l,rfl,_,.inl (SqL.of (s3 _ _ hL)),λ l' hl'=>k l' _ (s3.trans (aE.upd hl')) (s3.free hl') aD⟩
def Fh:List PySem.Str:=["rest", "hand", "choice"]
def nZ (_:W.Frag):Sp:=λ vs H Q _=>∃ a q h c,vs=[.ref a,.int (h:Nat),.int (c:Nat)]/\H a=some (.tup (tv q))/\q.length<=100/\∀ p H',aE H H'->H' p=some (.tup (tv (q.take h++c::q.drop h)))->Q (.ref p) H'
def wH (K:W.Frag):TS:=(aX (tOp zF (tOp zF (tSl Sn (aB 0) iQ (sY (aB 1))) (fR (aC (aB 2) aM))) (tSl Sn (aB 0) (sY (aB 1)) iQ)))
theorem len_joined {K vs H Q E} (h:nZ K vs H Q E):vs.length=3:=by obtain ⟨a,q,h,c,rfl,_⟩:=h;rfl
theorem Lz {K vs H Q E} (h:nZ K vs H Q E):wH K { nx:=λ _ H'=>Q .non H',rt:=Q } (start Fh vs) H:=by
 obtain ⟨a,q,h,c,rfl,ha,hl,k⟩:=h
 rw [show start Fh [V.ref a,V.int h,V.int c]=[some (.ref a),some (.int h),some (.int c)] from rfl]
 (dsimp? [wH,zF,Sn])
 have e1:=vG (tv q) none (some (h:Int))
 have e2:=vG (tv q) (some (h:Int)) none
 rw [hJ] at e1 e2
 refine ⟨_,ha,λ p1 H1 s1 h1=>⟨sz1,λ z hz=>?_⟩⟩
 have s2:aE H1 (upd H1 z (.tup [.int c])):=aE.upd hz
 refine ⟨_,s2 _ _ h1,_,aD,tE (by show _+1<=216;omega),λ p3 H3 s3 h3=>⟨_,s3 _ _ (s2 _ _ (s1 _ _ ha)),λ p4 H4 s4 h4=>⟨_,s4 _ _ h3,_,h4,?_,λ p5 H5 s5 h5=>?_⟩⟩⟩
 ·rw [length_append]
  exact tE (by show _+1+_<=216;omega)
 ·refine k p5 H5 ((((s1.trans s2).trans s3).trans s4).trans s5) ?_
  rw [h5,Py,Ev]
  simp only [tv,map_append,List.map_cons,map_take,List.map_drop,List.append_assoc,Lca,Lna]
def oZ:List PySem.Str:=["table", "rest", "hand", "choice"]
def fK (K:W.Frag):Sp:=λ vs H Q _=>∃ t r ns cont b i c v,vs=[.ref t,.ref r,.int (i:Nat),.int (c:Nat)]/\jV K H t ns cont/\H r=some (.tup (tv b))/\b.length<=100/\b.take i++c::b.drop i∈cM ns.reverse/\(cont (b.take i++c::b.drop i))[i]?=some v/\∀ H',aE H H'->Q v H'
def gP (K:W.Frag):TS:=(aX (tOp (bW K) (eN (aR K "Table") "earned" (eV K) [] E0 (aB 0) (aC (aU (nZ K) [] E0 (aC (aB 1) (aC (aB 2) (aC (aB 3) aM)))) aM)) (aB 2)))
theorem Nt {K vs H Q E} (h:fK K vs H Q E):vs.length=4:=by obtain ⟨_,_,_,_,_,_,_,_,rfl,_⟩:=h;rfl
theorem xV {K vs H Q E} (h:fK K vs H Q E):gP K { nx:=λ _ H'=>Q .non H',rt:=Q } (start oZ vs) H:=by
 obtain ⟨t,r,ns,cont,b,i,c,v,rfl,T,hr,hb,hq,hv,k⟩:=h
 rw [show start oZ [V.ref t,V.ref r,V.int i,V.int c]=[some (.ref t),some (.ref r),some (.int i),some (.int c)] from rfl]
 obtain ⟨dx,m0,d0,ht⟩:=T.ins
 (dsimp? [gP,eN];try simp_arith [gP,eN,if_true])
 refine ⟨dx,_,ht,qP _ _ (by decide +kernel) (by decide +kernel),r,b,i,c,rfl,hr,hb,λ p2 H1 s1 hp2=>⟨t,p2,ns,cont,_,rfl,T.same s1,hp2,hq,λ l H2 s2 _ hl2=>?_⟩⟩
 exact ⟨_,rfl,_,SqL.of hl2,_,cE hv,k _ (s1.trans s2)⟩
def xR:List PySem.Str:=["table", "hand", "choice", "others"]
structure Bd (K:W.Frag) (H:Hp) (t:Addr) (ns:List Nat) (e:List Nat->Nat->Int×Int):Prop where
 ex:∃ cont,jV K H t ns cont/\∀ q∈cM ns.reverse,∃ ps,cont q=List.map V.ref ps/\aO K H ps (ofF ns.length (e q))
theorem Bd.same {K:W.Frag} {t:Addr} (h:Bd K H t ns e) (s:aE H H'):Bd K H' t ns e:=let ⟨c,a,b⟩:=h.ex;⟨c,a.same s,λ q hq=>let ⟨ps,x,y⟩:=b q hq;⟨ps,x,y.same s⟩⟩
def iY (K:W.Frag):Sp:=λ vs H Q _=>∃ (t o:Addr) (ns:List Nat) (e:List Nat->Nat->Int×Int) (bs:List (List Nat)) (h c:Nat) (xs:List V),vs=[.ref t,.int h,.int c,.ref o]/\Bd K H t ns e/\H o=some (.lst xs)/\Ps H xs bs/\h<ns.length/\(∀ b∈bs,b.length<=3/\jn b h c∈cM ns.reverse)/\bs.length<=216 /\
 ∀ l qs H',aE H H'->H' l=some (.lst (List.map V.ref qs))->aO K H' qs (bs.map λ b=>e (jn b h c) h)->Q (.ref l) H'
def oR (K:W.Frag):TE:=(aU (fK K) [] E0 (aC (aB 1) (aC (aB 0) (aC (aB 2) (aC (aB 3) aM)))))
def pT (K:W.Frag):TS:=(aX (bP (bG K (aB 3)) [0,1,2] (oR K)))
theorem Vh {K vs H Q E} (h:iY K vs H Q E):vs.length=4:=by obtain ⟨_,_,_,_,_,_,_,_,rfl,_⟩:=h;rfl
theorem Ft {K vs H Q E} (h:iY K vs H Q E):pT K { nx:=λ _ H'=>Q .non H',rt:=Q } (start xR vs) H:=by
 obtain ⟨t,o,ns,e,bs,h,c,xs,rfl,T,ho,ps,hn,hb,bl,q⟩:=h
 rw [show start xR [V.ref t,V.int h,V.int c,V.ref o]=[some (.ref t),some (.int h),some (.int c),some (.ref o)] from rfl]
 (dsimp? [pT,bP,bG])
 refine ⟨⟨_,SqL.of ho⟩,cT (K:=K) (a:=o) (xs:=xs) (λ i zs H3=>aE H H3/\∃ qs,zs=List.map V.ref qs/\aO K H3 qs ((bs.take i).map λ b=>e (jn b h c) h)) (by rw [ps.1];exact tE bl) ⟨aE.refl _,[],rfl,trivial⟩ ?_ ?_ ?_⟩
 ·rintro i zs H3 _ ⟨s3,_⟩
  exact SqL.of (s3 _ _ ho)
 ·rintro i x zs H3 hi _ ⟨s3,qs,rfl,hq⟩
  obtain ⟨b,a,eb,rfl,ha⟩:=ps.get hi
  obtain ⟨b3,bo⟩:=hb b (mem_of_getElem? eb)
  obtain ⟨cont,tab,fr⟩:=T.ex
  obtain ⟨rs,ec,hf⟩:=fr _ bo
  have rl:=hf.length
  rw [aL] at rl
  obtain ⟨p,hp⟩:∃ p,rs[h]?=some p:=⟨_,getElem?_eq_getElem (by omega)⟩
  obtain ⟨f,ef,hF⟩:=hf.get hp
  obtain ⟨_,rfl⟩:=dQ ef
  (dsimp? [oR,bJ,List.map_cons,List.map_nil,Option.join_some])
  refine ⟨t,a,ns,cont,b,h,c,.ref p,rfl,tab.same s3,s3 _ _ ha,by omega,bo,by rw [show b.take h++c::b.drop h=jn b h c from rfl,ec,getElem?_map,hp];rfl,λ H4 s4=>⟨s3.trans s4,qs++[p],by rw [map_append];rfl,?_⟩⟩
  rw [bH eb,map_append]
  exact aO.snoc (hq.same s4) (s4.tup (s3.tup hF))
 ·rintro zs H3 _ ⟨s3,qs,rfl,hq⟩ l hl
  rw [ps.1,take_length] at hq
  exact q l qs _ (s3.trans (aE.upd hl)) aD (hq.same (aE.upd hl))
def oX:List PySem.Str:=["lists", "told", "choices", "longer", "begun"]
def fH (_:W.Frag):Sp:=λ vs H Q _=>∃ l ls cs,vs=[.ref l]/\H l=some (.lst ls)/\Lg H ls cs/\Ch cs/\∀ p xs H',aE H H'->H p=none->H' p=some (.lst xs)->Ps H' xs (mF cs.reverse)->Q (.ref p) H'
def more (c:List Nat) (b:List Nat):List (List Nat):=c.map λ x=>b++[x]
def yL (l:Addr) (H:Hp) (cs:List (List Nat)):Nat->St->Hp->Prop:=λ i σ H3=>∃ t xs o1 o2 o3,σ=[some (.ref l),some (.ref t),o1,o2,o3]/\aE H H3/\H t=none/\H3 t=some (.lst xs)/\Ps H3 xs (mF (cs.take i).reverse)
def uM (l t a:Addr) (c:List Nat) (H:Hp) (qs:List (List Nat)):Nat->St->Hp->Prop:=λ j σ H3=>∃ g ys o3,σ=[some (.ref l),some (.ref t),some (.ref a),some (.ref g),o3]/\aE H H3/\H g=none/\H3 g=some (.lst ys)/\Ps H3 ys ((qs.take j).flatMap (more c))
def gD (K:W.Frag):TS:=(aW (aB 3) (aI 1))
def gE (K:W.Frag):TE:=(tOp zF (aB 1) (fR (aC (aB 0) aM)))
def kI (K:W.Frag):TS:=(iA (tBM K "list" Jm (aB 3) (aC (bP (bG K (aB 2)) [4] (gE K)) aM)))
def kH (K:W.Frag):TS:=(aQ (aW (jC aM) (aI 3)) (aQ (cH (bG K (aB 1)) (aI 4) (kI K)) (gD K)))
def jH (K:W.Frag):TS:=(aQ (aW (jC (aC (fR aM) aM)) (aI 1)) (aQ (cH (bG K (aB 0)) (aI 2) (kH K)) (aX (aB 1))))
theorem Nq {K vs H Q E} (h:fH K vs H Q E):vs.length=1:=by obtain ⟨l,ls,ns,rfl,_⟩:=h;rfl
theorem zX (c:List Nat):∀ qs:List (List Nat),(qs.flatMap (more c)).length=qs.length*c.length
 | []=>by simp
 | b::qs=>by rw [List.flatMap_cons,length_append,zX c qs,List.length_cons,Nat.succ_mul,more,length_map];omega
theorem xT {K vs H Q E} (h:fH K vs H Q E):jH K { nx:=λ _ H'=>Q .non H',rt:=Q } (start oX vs) H:=by
 obtain ⟨l,ls,cs,rfl,hS,rg,ch,q⟩:=h
 rw [show start oX [V.ref l]=[some (.ref l),none,none,none,none] from rfl]
 (dsimp? [jH,cH,bG])
 refine ⟨sz0,λ a ha=>⟨sz1,λ t ht=>?_⟩⟩
 have s1:aE H (upd H a (.tup [])):=aE.upd ha
 have s2:aE (upd H a (.tup [])) (upd (upd H a (.tup [])) t (.lst [.ref a])):=aE.upd ht
 have s3:=s1.trans s2
 refine ⟨⟨_,SqL.of (s3 _ _ hS)⟩,eA (K:=K) (a:=l) (xs:=ls) (g:=aI 2) (D:={ nx:=aX (aB 1) { nx:=λ _ H'=>Q .non H',rt:=Q },rt:=Q }) (yL l H cs) ?_ ?_ ?_ ?_⟩
 ·exact ⟨t,_,none,none,none,rfl,s3,s1.free ht,aD,Ps.one (s2 _ _ aD)⟩
 ·rintro i σ H3 _ ⟨_,_,_,_,_,_,s4,_⟩
  exact SqL.of (s4 _ _ hS)
 ·rintro i x σ H3 hi ⟨t,xs,o1,o2,o3,rfl,s4,ht,hT,ps⟩
  obtain ⟨n,c,hn,rfl,hc⟩:=(rg.same s4).get hi
  have hin:i<cs.length:=(List.getElem?_eq_some_iff.mp hn).1
  have n6:=ch.le n (mem_of_getElem? hn)
  have hlen:=ch.len
  have cht:Ch (cs.take i).reverse:=Ch.rev ⟨by rw [length_take];omega,λ d hd=>ch.le d (mem_of_mem_take hd)⟩
  have hmax:(mF (cs.take i).reverse).length<=36:=Nat.le_trans cht.many (Nat.le_trans (Nat.pow_le_pow_right (j:=2) (by decide) (by rw [List.length_reverse,length_take];omega)) (by decide))
  have el:xs.length=(mF (cs.take i).reverse).length:=ps.1
  (dsimp? [kH,cH,bG])
  refine ⟨sz0,λ g hg=>?_⟩
  have s5:aE H3 (upd H3 g (.lst [])):=aE.upd hg
  refine ⟨⟨_,SqL.of (s5 _ _ hT)⟩,eA (K:=K) (a:=t) (xs:=xs) (g:=aI 4) (D:={ nx:=gD K _,rt:=Q }) (uM l t c n H3 (mF (cs.take i).reverse)) ?_ ?_ ?_ ?_⟩
  ·exact ⟨g,[],_,rfl,s5,hg,aD,Ps.nil⟩
  ·rintro j σ H4 _ ⟨_,_,_,_,s6,_⟩
   exact SqL.of (s6 _ _ hT)
  ·rintro j x σ H4 hj ⟨g,ys,o4,rfl,s6,hg,hG,py⟩
   obtain ⟨b,a,hb,rfl,ha⟩:=(ps.same s6).get hj
   have hjl:j<(mF (cs.take i).reverse).length:=(List.getElem?_eq_some_iff.mp hb).1
   have hy:ys.length=j*n.length:=by rw [py.1,zX,length_take];congr 1;omega
   have hc4:=s6 _ _ hc
   (dsimp? [kI,iA,tBM,bP,bG])
   refine ⟨.inl ⟨rfl,_,SqL.of hG⟩,⟨_,SqL.of hc4⟩,cT (K:=K) (a:=c) (xs:=tv n) (λ k zs H5=>aE H4 H5/\Ps H5 zs (more (n.take k) b)) ?_ ⟨aE.refl _,Ps.nil⟩ ?_ ?_ ?_⟩
   ·rw [hJ];exact tE (by omega)
   ·rintro k zs H5 _ ⟨s7,_⟩
    exact SqL.of (s7 _ _ hc4)
   ·rintro k x zs H5 hk _ ⟨s7,pz⟩
    obtain ⟨m,hm,rfl⟩:=Bh hk
    show gE K [some (.int m),some (.ref a)] H5 _
    (dsimp? [gE,zF])
    refine ⟨sz1,λ z hz=>?_⟩
    have s8:aE H5 (upd H5 z (.tup [.int m])):=aE.upd hz
    refine ⟨_,s8 _ _ (s7 _ _ ha),_,aD,?_,λ p H6 s9 hp=>⟨s7.trans (s8.trans s9),?_⟩⟩
    ·rw [hJ]
     have:=zU _ b (mem_of_getElem? hb)
     rw [List.length_reverse,length_take] at this
     exact tE (by show _+1<=216;omega)
    ·unfold more
     rw [bH hm,map_append]
     exact (pz.same (s8.trans s9)).app (Ps.one (by rw [hp,tv_app];rfl))
   ·rintro zs H5 hz ⟨s7,pz⟩ p hp
    rw [hJ,take_length] at pz
    rw [hJ] at hz
    have s8:aE H5 (upd H5 p (.lst zs)):=aE.upd hp
    refine ⟨g,p,ys,zs,rfl,rfl,s8 _ _ (s7 _ _ hG),aD,?_,?_⟩
    ·rw [hy,hz]
     have:j*n.length+n.length<=216:=by
      have h1:(j+1)*n.length<=36*6:=Nat.mul_le_mul (by omega) n6
      rw [Nat.succ_mul] at h1
      exact h1
     exact tE this
    ·refine ⟨g,_,_,rfl,((s6.trans s7).trans s8).put hg,hg,aD,?_⟩
     rw [bH hb,List.flatMap_append]
     refine Ps.keep (Ps.app ((py.same s7).same s8) ?_) (Mt (s8 _ _ (s7 _ _ hG)))
     rw [List.flatMap_cons,List.flatMap_nil,List.append_nil]
     exact pz.same s8
  ·rintro σ H4 ⟨g,ys,o4,rfl,s6,hg,hG,py⟩
   (dsimp? [gD])
   refine ⟨g,ys,_,_,_,rfl,s4.trans s6,s4.free hg,hG,?_⟩
   rw [el,take_length] at py
   rw [bH hn,List.reverse_append]
   exact py
 ·rintro σ H3 ⟨t,xs,o1,o2,o3,rfl,s4,ht,hT,ps⟩
  (dsimp! [aB,tC,tOp,rI0,rNe,cI,aX,bA])
  rw [rg.1,take_length] at ps
  exact q t xs H3 s4 ht hT ps
def xQ:List PySem.Str:=["sizes"]
def gY (K:W.Frag):Sp:=λ vs H Q _=>∃ l ns,vs=[.ref l]/\SqL K H l (tv ns)/\Sz ns/\∀ p xs H',aE H H'->H p=none->H' p=some (.lst xs)->Ps H' xs (cM ns.reverse)->Q (.ref p) H'
def oQ (K:W.Frag):TE:=(Dk (aB 0))
def pS (K:W.Frag):TS:=(aX (aU (fH K) [] E0 (aC (bP (bG K (aB 0)) [] (oQ K)) aM)))
theorem Vg {K vs H Q E} (h:gY K vs H Q E):vs.length=1:=by obtain ⟨l,ns,rfl,_⟩:=h;rfl
theorem rng_tv (n:Nat):List.map V.int (mE n)=tv (List.range n):=by unfold mE tv;rw [List.map_map];rfl
theorem Sz.ch (sz:Sz ns):Ch (ns.map List.range):=⟨by rw [length_map];exact sz.len,λ c hc=>by obtain ⟨n,hn,rfl⟩:=mem_map.mp hc;rw [List.length_range];exact sz.le n hn⟩
theorem Uf {H3:Hp} {ys:List V} {n:Nat} {p:Addr} (rg:Lg H3 ys ((ns.take i).map List.range)) (hn:ns[i]?=some n) (hp:H3 p=none):Lg (upd H3 p (.lst (List.map V.int (mE n)))) (ys++[.ref p]) ((ns.take (i+1)).map List.range):=by
 rw [bH hn,map_append]
 exact (rg.same (aE.upd hp)).snoc (by rw [aD,rng_tv])
theorem Fs {K vs H Q E} (h:gY K vs H Q E):pS K { nx:=λ _ H'=>Q .non H',rt:=Q } (start xQ vs) H:=by
 obtain ⟨l,ns,rfl,hS,sz,q⟩:=h
 rw [show start xQ [V.ref l]=[some (.ref l)] from rfl]
 have n3:=sz.len
 (dsimp? [pS,bP,bG])
 refine ⟨⟨_,hS⟩,cT (K:=K) (a:=l) (xs:=tv ns) (λ i zs H3=>aE H H3/\Lg H3 zs ((ns.take i).map List.range)) ?_ ⟨aE.refl _,Lg.nil⟩ ?_ ?_ ?_⟩
 ·rw [hJ];exact tE (by omega)
 ·rintro i ys H3 _ ⟨s3,_⟩
  exact s3.seq hS
 ·rintro i x ys H3 hi _ ⟨s3,rg⟩
  obtain ⟨n,hn,rfl⟩:=Bh hi
  have n6:=sz.le n (mem_of_getElem? hn)
  (dsimp? [oQ,bJ,List.map_nil,Dk])
  exact ⟨n,rfl,by omega,λ p hp=>⟨s3.trans (aE.upd hp),Uf rg hn hp⟩⟩
 ·rintro ys H3 _ ⟨s3,rg⟩ p hp
  rw [hJ,take_length] at rg
  have s4:aE H3 (upd H3 p (.lst ys)):=aE.upd hp
  refine ⟨p,ys,ns.map List.range,rfl,aD,rg.same s4,sz.ch,λ p' xs H' s5 hp' hP ps=>q p' xs H' ((s3.trans s4).trans s5) ((s3.trans s4).free hp') hP ?_⟩
  rw [Ek,List.map_reverse];exact ps
def Kv:List PySem.Str:=["table", "hand", "sizes"]
def qV (K:W.Frag):Sp:=λ vs H Q _=>∃ t ns cont h,vs=[.ref t,.int (h:Nat)]/\jV K H t ns cont/\Sz ns/\∀ p xs H',aE H H'->H p=none->H' p=some (.lst xs)->Ps H' xs (cM (wo h ns).reverse)->Q (.ref p) H'
def uQ (K:W.Frag):TS:=(aQ (aW (eN (aR K "Table") "sizes" (cU K) [] E0 (aB 0) aM) (aI 2)) (aX (aU (gY K) [] E0 (aC (tOp rT (tSl (Lb K) (aB 2) iQ (sY (aB 1))) (tSl (Lb K) (aB 2) (sY (tOp gU (aB 1) (tC (.int 1)))) iQ)) aM))))
theorem len_rests {K vs H Q E} (h:qV K vs H Q E):vs.length=2:=by obtain ⟨t,ns,cont,h,rfl,_⟩:=h;rfl
theorem Qi {K vs H Q E} (h:qV K vs H Q E):uQ K { nx:=λ _ H'=>Q .non H',rt:=Q } (start Kv vs) H:=by
 obtain ⟨t,ns,cont,h,rfl,tb,sz,k⟩:=h
 rw [show start Kv [V.ref t,V.int h]=[some (.ref t),some (.int h),none] from rfl]
 obtain ⟨dx,m,d,ht⟩:=tb.ins
 (dsimp? [uQ,eN,rT];try simp_arith [uQ,eN,if_true,rT])
 refine ⟨dx,_,ht,qP _ _ (by decide +kernel) (by decide +kernel),t,ns,cont,rfl,tb,λ l hl=>?_⟩
 have s1:aE H (upd H l (.lst (tv ns))):=aE.upd hl
 have l1:(upd H l (.lst (tv ns))) l=some (.lst (tv ns)):=aD
 generalize upd H l (.lst (tv ns))=H1 at s1 l1
 refine ⟨l,rfl,_,SqL.of l1,λ p1 hp1=>⟨l,rfl,tv ns,SqL.of ((aE.upd hp1) _ _ l1),λ p2 hp2=>?_⟩⟩
 have s2:=aE.upd (o:=.lst (lY (tv ns) none (some (h:Int)))) hp1
 have s3:=aE.upd (o:=.lst (lY (tv ns) (some ((h:Int)+1)) none)) hp2
 have e1:=vG (tv ns) none (some (h:Int))
 have e2:=vG (tv ns) (some ((h:Int)+1)) none
 have e3:=sz.len
 rw [hJ] at e1 e2
 refine ⟨_,s3 _ _ aD,_,aD,tE (by omega),λ p3 hp3=>?_⟩
 have s4:=aE.upd (o:=.lst (lY (tv ns) none (some (h:Int))++lY (tv ns) (some ((h:Int)+1)) none)) hp3
 have s5:=((s1.trans s2).trans s3).trans s4
 refine ⟨p3,wo h ns,rfl,SqL.of ?_,sz.wo h,λ p xs H' s6 hp hP ps=>k p xs H' (s5.trans s6) (s5.free hp) hP ps⟩
 rw [aD,Py,show ((h:Int)+1)=((h+1:Nat):Int) by omega,Ev,← wo_tv]
 rfl
def oY:List PySem.Str:=["row"]
def fJ (K:W.Frag):Sp:=λ vs H Q _=>∃ a ps fs,vs=[.ref a]/\SqL K H a (List.map V.ref ps)/\aO K H ps fs/\(∀ f∈fs,0<f.2/\BB 4000 f.2)/\fs≠[]/\fs.length<=100/\∀ z H',aE H H'->(∃ f∈fs,z=f.1.fdiv f.2)->(∀ f∈fs,z<=f.1.fdiv f.2)->Q (.int z) H'
def kJ (K:W.Frag):TE:=(tOp eO (tOp (dL K) (aB 0) (tC (.int 0))) (tOp (dL K) (aB 0) (tC (.int 1))))
def jI (K:W.Frag):TS:=(aX (tCB (Dq K) (aC (bP (bG K (aB 0)) [] (kJ K)) aM)))
theorem Nr {K vs H Q E} (h:fJ K vs H Q E):vs.length=1:=by obtain ⟨_,_,_,rfl,_⟩:=h;rfl
theorem xU {K vs H Q E} (h:fJ K vs H Q E):jI K { nx:=λ _ H'=>Q .non H',rt:=Q } (start oY vs) H:=by
 obtain ⟨a,ps,fs,rfl,hS,hf,hg,ne,hn,q⟩:=h
 have hpl:=hf.length
 rw [show start oY [V.ref a]=[some (.ref a)] from rfl]
 (dsimp? [jI,bP,bG,Dq])
 refine ⟨⟨_,hS⟩,cT (K:=K) (a:=a) (xs:=List.map V.ref ps) (λ i zs H3=>aE H H3/\zs=List.map V.int ((fs.take i).map λ f=>f.1.fdiv f.2)) (by rw [length_map,sizeLine_eq];omega) ⟨aE.refl _,rfl⟩ ?_ ?_ ?_⟩
 ·rintro i zs H3 _ ⟨s3,_⟩
  exact s3.seq hS
 ·rintro i x zs H3 hi _ ⟨s3,rfl⟩
  obtain ⟨p,rfl,hp⟩:=cA hi
  obtain ⟨f,ef,hF⟩:=(hf.same s3).get hp
  have g:=hg f (mem_of_getElem? ef)
  (dsimp? [kJ])
  refine ⟨_,hF,_,kT,_,hF,_,jT,_,rfl,_,rfl,⟨by omega,g.2.mono (by decide)⟩,s3,?_⟩
  rw [bH ef,map_append,map_append];rfl
 ·rintro zs H3 _ ⟨s3,rfl⟩ p hp
  rw [length_map,hpl,take_length]
  refine ⟨_,SqL.of aD,λ e=>ne (map_eq_nil_iff.mp e),λ z hz hA=>?_⟩
  obtain ⟨f,hf1,rfl⟩:=mem_map.mp hz
  exact q _ _ (s3.trans (aE.upd hp)) ⟨f,hf1,rfl⟩ λ g hg'=>hA _ (mem_map.mpr ⟨g,hg',rfl⟩)
def Aq:List PySem.Str:=["rows"]
def lA (K:W.Frag):Sp:=λ vs H Q _=>∃ a rps frs n,vs=[.ref a]/\SqL K H a (List.map V.ref rps)/\dS K H rps frs/\WoR frs n/\∀ z p H',aE H H'->H' p=some (.tup [.int (1 - z),.int 1])->Mnf frs z->Q (.ref p) H'
def rH (K:W.Frag):TE:=(aU (fJ K) [] E0 (aC (aB 0) aM))
def sF (K:W.Frag):TS:=(aX (fR (aC (tOp qD (tC (.int 1)) (tCB (Dq K) (aC (bP (bG K (aB 0)) [] (rH K)) aM))) (aC (tC (.int 1)) aM))))
theorem len_lift_of {K vs H Q E} (h:lA K vs H Q E):vs.length=1:=by obtain ⟨_,_,_,_,rfl,_⟩:=h;rfl
theorem Hs {K vs H Q E} (h:lA K vs H Q E):sF K { nx:=λ _ H'=>Q .non H',rt:=Q } (start Aq vs) H:=by
 obtain ⟨a,rps,frs,n,rfl,hS,hf,W,q⟩:=h
 have hpl:=hf.length
 have m2:=W.m2
 rw [show start Aq [V.ref a]=[some (.ref a)] from rfl]
 (dsimp? [sF,bP,bG,Dq])
 refine ⟨⟨_,hS⟩,cT (K:=K) (a:=a) (xs:=List.map V.ref rps) (λ i zs H3=>aE H H3/\∃ zz:List Int,zs=List.map V.int zz/\zz.length=i/\(∀ z∈zz,∃ r∈frs,∃ f∈r,z=f.1.fdiv f.2)/\∀ (k:Nat) z r,zz[k]?=some z->frs[k]?=some r->∀ f∈r,z<=f.1.fdiv f.2) (by rw [length_map,sizeLine_eq];omega) ⟨aE.refl _,[],rfl,rfl,(λ _ h=>nomatch h),λ k z r e=>by simp at e⟩ ?_ ?_ ?_⟩
 ·rintro i zs H3 _ ⟨s3,_⟩
  exact s3.seq hS
 ·rintro i x zs H3 hi _ ⟨s3,zz,rfl,zl,z1,z2⟩
  obtain ⟨p,rfl,hp⟩:=cA hi
  obtain ⟨r,qs,er,hrow,hfr⟩:=hf.get hp
  have hrm:=mem_of_getElem? er
  have rl:=W.hr r hrm
  have n1:=W.n1
  have n2:=W.n2
  (dsimp? [rH])
  refine ⟨p,qs,r,rfl,s3.seq (SqL.of hrow),hfr.same s3,λ f hf'=>⟨(W.hg r hrm f hf').1,(W.hg r hrm f hf').2.2⟩,λ e=>by rw [e] at rl;simp at rl;omega,by omega,λ z H4 s4 ⟨f,hfm,e⟩ le=>⟨s3.trans s4,zz++[z],by rw [map_append];rfl,by rw [length_append,zl];rfl,λ z' hz'=>?_,λ k z' r' e1 e2 f' hf'=>?_⟩⟩
  ·rcases mem_append.mp hz' with h | h
   ·exact z1 z' h
   ·rw [mem_singleton.mp h];exact ⟨r,hrm,f,hfm,e⟩
  ·rcases Ed e1 with ⟨e1,_⟩ | ⟨ek,rfl⟩
   ·exact z2 k z' r' e1 e2 f' hf'
   ·rw [ek,zl,er] at e2
    obtain rfl:=Option.some.inj e2
    exact le f' hf'
 ·rintro zs H3 _ ⟨s3,zz,rfl,zl,z1,z2⟩ p hp
  rw [length_map,hpl] at zl
  have m1:=W.m1
  refine ⟨_,SqL.of aD,λ e=>by rw [e] at zl;simp at zl;omega,λ z hz hA=>⟨sz2,λ t ht=>q z t _ ((s3.trans (aE.upd hp)).trans (aE.upd ht)) aD ⟨z1 z hz,λ r hr f hf'=>?_⟩⟩⟩
  obtain ⟨k,hk⟩:=getElem?_of_mem hr
  have hkl:k<zz.length:=by have:=(List.getElem?_eq_some_iff.mp hk).1;omega
  have h1:=hA _ (getElem_mem hkl)
  have h2:=z2 k _ r (getElem?_eq_getElem hkl) hk f hf'
  omega
def Ax:List PySem.Str:=["one", "other", "great", "small", "left"]
def dD (_:W.Frag):Sp:=λ vs H Q _=>∃ a b,vs=[.int a,.int b]/\Q (.int (Int.gcd a b:Nat)) H
def rL (K:W.Frag):TS:=(aQ (aW (tOp eJ (aB 2) (aB 3)) (aI 4)) (aQ (aW (aB 3) (aI 2)) (aW (aB 4) (aI 3))))
def sP (K:W.Frag):TS:=(aQ (aW (tCB Bc (aC (aB 0) aM)) (aI 2)) (aQ (aW (tCB Bc (aC (aB 1) aM)) (aI 3)) (aQ (rZ (bA (tOp rNe (aB 3) (tC (.int 0)))) (rL K)) (aX (aB 2)))))
theorem len_divisor {K vs H Q E} (h:dD K vs H Q E):vs.length=2:=by obtain ⟨a,b,rfl,_⟩:=h;rfl
theorem Hx {K vs H Q E} (h:dD K vs H Q E):sP K { nx:=λ _ H'=>Q .non H',rt:=Q } (start Ax vs) H:=by
 obtain ⟨a,b,rfl,k⟩:=h
 rw [show start Ax [V.int a,V.int b]=[some (.int a),some (.int b),none,none,none] from rfl]
 (dsimp! [sP,aQ,aW,aI,aB,aC,aM,tCB,Bc,Qa])
 refine Du (λ σ H'=>H'=H/\∃ g s l,σ=[some (.int a),some (.int b),some (.int g),some (.int s),l]/\0<=g/\0<=s/\Int.gcd g s=Int.gcd a b) (λ σ _=>(intO (σ.getD 3 none)).toNat) ?_ ?_ ?_
 ·exact ⟨rfl,_,_,_,rfl,by omega,by omega,by simp [Int.gcd]⟩
 ·rintro σ H' ⟨rfl,g,s,l,rfl,hg,hs,e⟩
  (dsimp! [rL,aQ,aW,aI,aB,tC,tOp,rI,eJ,rNe,cI,aX,bA])
  by_cases h0:s=0
  ·subst h0
   simp only [decide_true,Bool.not_true,Option.some.injEq,exists_eq_left',exists_eq_left,V.int.injEq,V.ref.injEq,V.bl.injEq,List.cons.injEq,and_true,true_and,exists_and_left,and_assoc,cC,cD,cB,cQ,iD,dY]
   rw [← e,Int.gcd_zero_right] at k
   have:((g.natAbs:Nat):Int)=g:=by omega
   rw [this] at k
   simpa using k
  ·have hp:0<s:=by omega
   have h1:=Int.emod_nonneg g h0
   have h2:=Int.emod_lt_of_pos g hp
   simp [h0,hp,h1,hs]
   refine ⟨?_,?_⟩
   ·rw [← e,Int.gcd_comm g s,Int.emod_def,Int.gcd_sub_mul_left_right]
   ·show max (g % s) 0<s
    omega
 ·intro σ H' Q1 Q2 im h
  dsimp only [bA,tOp,tC,rNe] at h ⊢
  first
  | (obtain ⟨v,hv,hs,q⟩:=uU h
     exact uT hv ⟨hs,im _ _ q⟩)
  | (obtain ⟨v,hv,hs,b,hb,q⟩:=uU h
     exact uT hv ⟨hs,b,hb,im _ _ q⟩)
def Kw:List PySem.Str:=["top", "bottom", "shared"]
def jX (_:W.Frag):Sp:=λ vs H Q _=>∃ t b,vs=[.int t,.int b]/\b≠0/\BB 9000 b/\∀ x y p H',aE H H'->H' p=some (.tup [.int x,.int y])->Lo t b x y->Q (.ref p) H'
def uR (K:W.Frag):TS:=(aQ (dU (bA (tOp rEq (aB 1) (tC (.int 0)))) fU bS) (aQ (aW (aU (dD K) [] E0 (aC (aB 0) (aC (aB 1) aM))) (aI 2)) (aQ (dU (bA (tOp rS (aB 1) (tC (.int 0)))) (aW (tUn vP (aB 2)) (aI 2)) bS) (aX (fR (aC (tOp eO (aB 0) (aB 2)) (aC (tOp eO (aB 1) (aB 2)) aM)))))))
theorem len_ratio {K vs H Q E} (h:jX K vs H Q E):vs.length=2:=by obtain ⟨a,b,rfl,_⟩:=h;rfl
theorem Qj {K vs H Q E} (h:jX K vs H Q E):uR K { nx:=λ _ H'=>Q .non H',rt:=Q } (start Kw vs) H:=by
 obtain ⟨t,b,rfl,hb,bb,q⟩:=h
 rw [show start Kw [V.int t,V.int b]=[some (.int t),some (.int b),none] from rfl]
 (try dsimp only [uR,aQ,aW,aI,aB,tC,tOp,tUn,rI0,rI,rU,eO,vP,rS,rEq,cI,aX,dU,bA,bS,aU,aC,aM,fR,fU,Lq0,Lq1,Ls0,Ls1,cC,cD,cB];try simp only [uR,aQ,aW,aI,aB,tC,tOp,tUn,rI0,rI,rU,eO,vP,rS,rEq,cI,aX,dU,bA,bS,aU,aC,aM,fR,fU,Lq0,Lq1,Ls0,Ls1,Option.some.injEq,exists_eq_left',V.int.injEq,V.bl.injEq,List.cons.injEq,and_true,true_and,List.append_nil,exists_and_left,decide_eq_true_eq,and_assoc,dD,exists_eq_left,V.ref.injEq,cC,cD,cB,cQ,iD,dY])
 rw [if_neg hb]
 have bg:=bb.gcd (i:=t) hb
 have g0:0<Int.gcd t b:=Int.gcd_pos_of_ne_zero_right _ hb
 refine uG (λ hn=>?_) (λ hn=>?_)
 ·refine ⟨⟨by omega,bg.neg⟩,⟨by omega,bg.neg⟩,sz2,λ p hp=>q _ _ p _ (aE.upd hp) aD (lo_neg hn)⟩
 ·refine ⟨⟨by omega,bg⟩,⟨by omega,bg⟩,sz2,λ p hp=>q _ _ p _ (aE.upd hp) aD (Pk (by omega))⟩
def Qc:List PySem.Str:=["one", "other"]
def qI (K:W.Frag):Sp:=λ vs H Q _=>∃ p q a b c d,vs=[.ref p,.ref q]/\Tw K H p q a b c d/\0<b/\0<d/\BB 9000 (b*d)/\∀ r H',aE H H'->H' r=some (.tup [.int (lo2 (a*d+c*b) (b*d)).1,.int (lo2 (a*d+c*b) (b*d)).2])->Q (.ref r) H'
def Go (K:W.Frag):TS:=(aX (aU (jX K) [] E0 (aC (tOp gU (tOp dH (tOp (dL K) (aB 0) (tC (.int 0))) (tOp (dL K) (aB 1) (tC (.int 1)))) (tOp dH (tOp (dL K) (aB 1) (tC (.int 0))) (tOp (dL K) (aB 0) (tC (.int 1))))) (aC (tOp dH (tOp (dL K) (aB 0) (tC (.int 1))) (tOp (dL K) (aB 1) (tC (.int 1)))) aM))))
theorem len_plus {K vs H Q E} (h:qI K vs H Q E):vs.length=2:=by obtain ⟨p,q,a,b,c,d,rfl,_⟩:=h;rfl
theorem Tm {K vs H Q E} (h:qI K vs H Q E):Go K { nx:=λ _ H'=>Q .non H',rt:=Q } (start Qc vs) H:=by
 obtain ⟨p,q,a,b,c,d,rfl,⟨hp,hq,ba,bb,bc,bd⟩,b0,d0,b9,k⟩:=h
 rw [show start Qc [V.ref p,V.ref q]=[some (.ref p),some (.ref q)] from rfl]
 (dsimp? [Go])
 refine ⟨_,hp,_,kT,_,hq,_,jT,_,rfl,_,rfl,.b ba bd,_,hq,_,kT,_,hp,_,jT,_,rfl,_,rfl,.b bc bb,_,hp,_,jT,_,hq,_,jT,_,rfl,_,rfl,.b bb bd,?_⟩
 have z:0<b*d:=Int.mul_pos b0 d0
 refine ⟨_,_,rfl,by omega,b9,λ x y r H' s h l=>k r H' s ?_⟩
 obtain ⟨e1,e2⟩:=l.uniq z (eY z)
 rw [← e1,← e2];exact h
def Fg:List PySem.Str:=["row", "lift"]
def nY (K:W.Frag):Sp:=λ vs H Q _=>∃ a t ps fs,∃ z:Int,vs=[.ref a,.ref t]/\SqL K H a (List.map V.ref ps)/\aO K H ps fs/\SqT K H t [.int (1 - z),.int 1]/\BB 9000 (1 - z)/\(∀ f∈fs,0<f.2/\BB 4000 f.1/\BB 4000 f.2)/\fs.length<=100/\∀ l qs H',aE H H'->H' l=some (.lst (List.map V.ref qs))->aO K H' qs (fs.map (lft z))->Q (.ref l) H'
def tS (K:W.Frag):TE:=(aU (qI K) [] E0 (aC (aB 0) (aC (aB 1) aM)))
def vZ (K:W.Frag):TS:=(aX (bP (bG K (aB 0)) [1] (tS K)))
theorem len_lifted {K vs H Q E} (h:nY K vs H Q E):vs.length=2:=by obtain ⟨_,_,_,_,_,rfl,_⟩:=h;rfl
theorem Ly {K vs H Q E} (h:nY K vs H Q E):vZ K { nx:=λ _ H'=>Q .non H',rt:=Q } (start Fg vs) H:=by
 obtain ⟨a,t,ps,fs,z,rfl,hS,hf,ht,bz,hg,hn,q⟩:=h
 have hpl:=hf.length
 rw [show start Fg [V.ref a,V.ref t]=[some (.ref a),some (.ref t)] from rfl]
 (dsimp? [vZ,bP,bG])
 refine ⟨⟨_,hS⟩,cT (K:=K) (a:=a) (xs:=List.map V.ref ps) (λ i zs H3=>aE H H3/\∃ qs,zs=List.map V.ref qs/\aO K H3 qs ((fs.take i).map (lft z))) (by rw [length_map,sizeLine_eq];omega) ⟨aE.refl _,[],rfl,trivial⟩ ?_ ?_ ?_⟩
 ·rintro i zs H3 _ ⟨s3,_⟩
  exact s3.seq hS
 ·rintro i x zs H3 hi _ ⟨s3,qs,rfl,hq⟩
  obtain ⟨p,rfl,hp⟩:=cA hi
  obtain ⟨f,ef,hF⟩:=(hf.same s3).get hp
  have g:=hg f (mem_of_getElem? ef)
  have one:BB 20000 (1:Int):=by show (1:Int).natAbs<2 ^ 20000;exact Nat.one_lt_two_pow (by decide)
  (dsimp? [tS,bJ,List.map_cons,List.map_nil,Option.join_some])
  refine ⟨_,_,_,_,_,_,rfl,⟨hF,s3.tup ht,g.2.1.mono (by decide),g.2.2.mono (by decide),bz.mono (by decide),one⟩,g.1,by decide,by rw [Int.mul_one];exact g.2.2.mono (by decide),λ r H4 s4 hr=>⟨s3.trans s4,qs++[r],by rw [map_append];rfl,?_⟩⟩
  rw [bH ef,map_append]
  exact aO.snoc (hq.same s4) (SqT.of hr)
 ·rintro zs H3 _ ⟨s3,qs,rfl,hq⟩ l hl
  rw [length_map,hpl,take_length] at hq
  exact q l qs _ (s3.trans (aE.upd hl)) aD (hq.same (aE.upd hl))
def Ff:List PySem.Str:=["table", "hand", "rows", "lift"]
def sS (K:W.Frag):Sp:=λ vs H Q _=>∃ (t:Addr) (m0 m1 n p r:Nat) (e:List Nat->Nat->Int×Int) (h:Nat),vs=[.ref t,.int h]/\Bd K H t [m0,m1] e/\T2 e m0 m1 n p r/\h<=1/\∀ l rps z H',aE H H'->H' l=some (.lst (List.map V.ref rps))->dS K H' rps (Dd z (fB e m0 m1 h))->Mnf (fB e m0 m1 h) z->Q (.ref l) H'
def tR (K:W.Frag):TE:=(aU (nY K) [] E0 (aC (aB 0) (aC (aB 1) aM)))
def mT (K:W.Frag):TS:=(aX (bP (bG K (aB 2)) [3] (tR K)))
def tP (K:W.Frag):TS:=(aQ (aW (aU (lA K) [] E0 (aC (aB 2) aM)) (aI 3)) (mT K))
def tQ (K:W.Frag):TE:=(aU (iY K) [] E0 (aC (aB 1) (aC (aB 2) (aC (aB 0) (aC (aU (qV K) [] E0 (aC (aB 1) (aC (aB 2) aM))) aM)))))
def vY (K:W.Frag):TS:=(aQ (aW (bP (eL (aC (tOp (bW K) (eN (aR K "Table") "sizes" (cU K) [] E0 (aB 0) aM) (aB 1)) aM)) [0,1] (tQ K)) (aI 2)) (tP K))
theorem Vc {a b:Nat} (h1:h<=1):atI (tv [a,b]) (h:Int)=some (.int ((two a b h:Nat):Int)):=by
 by_cases e:h=0
 ·subst e;exact kT
 ·obtain rfl:h=1:=by omega
  exact jT
theorem Ll {a b:Nat} (h1:h<=1):cM (wo h [a,b]).reverse=ofF (two b a h) λ j=>[j]:=by
 have one:∀ n,cM [n]=ofF n λ j=>[j]:=λ n=>by
  show (cM []).flatMap _=_
  unfold cM ofF
  rw [List.flatMap_cons,List.flatMap_nil,List.append_nil];rfl
 by_cases e:h=0
 ·subst e;exact one b
 ·obtain rfl:h=1:=by omega
  exact one a
theorem Pq (h1:h<=1):jn [j] h c=two [c,j] [j,c] h:=by
 by_cases e:h=0
 ·subst e;rfl
 ·obtain rfl:h=1:=by omega
  rfl
theorem Sx {a b:Nat} (h1:h<=1) (hc:c<two a b h) (hj:j<two b a h):two [c,j] [j,c] h∈cM [a,b].reverse:=by
 have key:∀ x y,x<a->y<b->[x,y]∈cM [a,b].reverse:=λ x y hx hy=>by
  refine Er _ _ rfl λ i n c e1 e2=>?_
  rw [List.reverse_reverse] at e1
  match i,e1,e2 with
  | 0,e1,e2=>cases e1;cases e2;exact hx
  | 1,e1,e2=>cases e1;cases e2;exact hy
  | i+2,e1,_=>simp at e1
 by_cases e:h=0
 ·subst e;exact key c j hc hj
 ·obtain rfl:h=1:=by omega
  exact key j c hj hc
theorem dS.snoc {K:W.Frag} {q:Addr} {r:List (Int×Int)} {qs:List Addr} {rs:List (List (Int×Int))} (h:dS K H ps rs) (hq:H q=some (.lst (List.map V.ref qs))) (hf:aO K H qs r):dS K H (ps++[q]) (rs++[r]):=dS.append (show dS K H [q] [r] from ⟨⟨qs,hq,hf⟩,trivial⟩) h
theorem Cp {K:W.Frag} {t l lf:Addr} {m0 m1 n r:Nat} {D:gQ} (T:T2 e m0 m1 n p r) (h1:h<=1) (hl:H l=some (.lst (List.map V.ref rps))) (hr:dS K H rps (fB e m0 m1 h)) (hz:H lf=some (.tup [.int (1 - z),.int 1])) (m:Mnf (fB e m0 m1 h) z)
  (k:∀ l rps H',aE H H'->H' l=some (.lst (List.map V.ref rps))->dS K H' rps (Dd z (fB e m0 m1 h))->D.rt (.ref l) H'):mT K D [some (.ref t),some (.int h),some (.ref l),some (.ref lf)] H:=by
 obtain ⟨_,l2,_,l4,_⟩:=T.le h
 have nb:=T.nb.le
 have hpl:=hr.length
 have fl:(fB e m0 m1 h).length=two m0 m1 h:=aL _ _
 have bz:=Ka T h1 m
 (dsimp? [mT,bP,bG])
 refine ⟨⟨_,SqL.of hl⟩,cT (K:=K) (a:=l) (xs:=List.map V.ref rps) (λ i zs H3=>aE H H3/\∃ qs,zs=List.map V.ref qs/\dS K H3 qs (Dd z ((fB e m0 m1 h).take i))) (by rw [length_map,sizeLine_eq];omega) ⟨aE.refl _,[],rfl,trivial⟩ ?_ ?_ ?_⟩
 ·rintro i zs H3 _ ⟨s3,_⟩
  exact s3.seq (SqL.of hl)
 ·rintro i x zs H3 hi _ ⟨s3,qs,rfl,hq⟩
  obtain ⟨p',rfl,hp⟩:=cA hi
  obtain ⟨row,us,er,hrow,hfr⟩:=hr.get hp
  have hg:=T.gp h1 row (mem_of_getElem? er)
  (dsimp? [tR,bJ,List.map_cons,List.map_nil,Option.join_some])
  refine ⟨p',lf,us,row,z,rfl,s3.seq (SqL.of hrow),hfr.same s3,s3.tup (SqT.of hz),bz.mono (by omega),λ f hf=>let g:=hg.2 f hf;⟨g.1,g.2.1.mono (by omega),g.2.2.mono (by omega)⟩,by omega,λ l' qs' H4 s4 hl4 hf4=>⟨s3.trans s4,qs++[l'],by rw [map_append];rfl,?_⟩⟩
  unfold Dd
  rw [bH er,map_append]
  exact dS.snoc (hq.same s4) hl4 hf4
 ·rintro zs H3 _ ⟨s3,qs,rfl,hq⟩ l' hl'
  rw [length_map,hpl,take_length] at hq
  exact k l' qs _ (s3.trans (aE.upd hl')) aD (hq.same (aE.upd hl'))
theorem Lu {K vs H Q E} (h:sS K vs H Q E):vY K { nx:=λ _ H'=>Q .non H',rt:=Q } (start Ff vs) H:=by
 obtain ⟨t,m0,m1,n,p,r,e,h,rfl,tf,T,h1,q⟩:=h
 obtain ⟨l1,l2,l3,l4,_⟩:=T.le h
 obtain ⟨cont,tab,fr⟩:=id tf.ex
 rw [show start Ff [V.ref t,V.int h]=[some (.ref t),some (.int h),none,none] from rfl]
 obtain ⟨dx,m,d,ins⟩:=tab.ins
 have sz:Sz [m0,m1]:=⟨by show 2<=3;decide,λ n hn=>by simp at hn;have:=T.a1;have:=T.b1;omega,λ n hn=>by simp at hn;have:=T.a2;have:=T.b2;have:=T.nb.le.1;omega⟩
 (dsimp? [vY,bP,eN,eL])
 refine ⟨_,_,ins,qP _ _ (by decide +kernel) (by decide +kernel),t,[m0,m1],cont,rfl,tab,λ sl hsl=>?_⟩
 have s1:aE H (upd H sl (.lst (tv [m0,m1]))):=aE.upd hsl
 have hs1:(upd H sl (.lst (tv [m0,m1]))) sl=some (.lst (tv [m0,m1])):=aD
 generalize upd H sl (.lst (tv [m0,m1]))=H1 at s1 hs1
 refine ⟨_,rfl,_,SqL.of hs1,_,Vc h1,_,rfl,by omega,by omega,?_⟩
 rw [Int.toNat_natCast]
 refine gB (lo:=0) (W:=λ i zs H3=>aE H1 H3/\∃ rps,zs=List.map V.ref rps/\dS K H3 rps (ofF i λ c=>ofF (two m1 m0 h) (em e h c))) (by rw [sizeLine_eq];omega) ⟨aE.refl _,[],rfl,trivial⟩ ?_ ?_
 ·rintro i ys H3 hi _ ⟨s3,rps,rfl,hr⟩
  have s13:=s1.trans s3
  (dsimp? [tQ,bJ,List.map_cons,List.map_nil,Option.join_some])
  refine ⟨t,[m0,m1],cont,h,rfl,tab.same s13,sz,λ pr xs H4 s4 _ hp ps=>?_⟩
  rw [Ll h1] at ps
  refine ⟨t,pr,[m0,m1],e,_,h,i,xs,by rw [Int.zero_add],tf.same (s13.trans s4),hp,ps,by show h<2;omega,λ b hb=>?_,by rw [aL];omega,λ l qs H5 s5 hl5 hf5=>⟨(s3.trans s4).trans s5,rps++[l],by rw [map_append];rfl,?_⟩⟩
  ·obtain ⟨j,hj,rfl⟩:=dO hb
   exact ⟨by show 1<=3;decide,by rw [Pq h1];exact Sx h1 hi hj⟩
  ·rw [bR]
   refine dS.snoc (hr.same (s4.trans s5)) hl5 ?_
   rw [show (ofF (two m1 m0 h) λ j=>[j]).map (λ b=>e (jn b h i) h)=ofF (two m1 m0 h) (em e h i) from by
    unfold ofF em;rw [List.map_map];exact map_congr_left λ j _=>by show e (jn [j] h i) h=_;rw [Pq h1]] at hf5
   exact hf5
 ·rintro ys H3 _ ⟨s3,rps,rfl,hr⟩ l hl
  have s4:aE H3 (upd H3 l (.lst (List.map V.ref rps))):=aE.upd hl
  have hl4:(upd H3 l (.lst (List.map V.ref rps))) l=some (.lst (List.map V.ref rps)):=aD
  have hr4:=hr.same s4
  generalize upd H3 l (.lst (List.map V.ref rps))=H4 at s4 hl4 hr4
  have s04:=s1.trans (s3.trans s4)
  (dsimp? [tP])
  refine ⟨l,rps,fB e m0 m1 h,two m1 m0 h,rfl,SqL.of hl4,hr4,T.wor h1,λ z p5 H5 s5 hp5 mn=>?_⟩
  exact Cp T h1 (s5 _ _ hl4) (hr4.same s5) hp5 mn λ l' rps' H6 s6 hl6 hr6=>q l' rps' z H6 (s04.trans (s5.trans s6)) hl6 hr6 mn
def Az:List PySem.Str:=["row", "number", "fraction"]
def lF (K:W.Frag):Sp:=λ vs H Q _=>∃ a ps fs,vs=[.ref a]/\SqL K H a (List.map V.ref ps)/\aO K H ps fs/\(∀ f∈fs,G9 f)/\fs.length<=100/\∀ l p H',aE H H'->H' l=some (.lst (List.map V.int (clr fs)))->H' p=some (.tup [.int (lc fs),.ref l])->Q (.ref p) H'
def Iu (a:Addr) (H0:Hp) (fs:List (Int×Int)):Nat->St->Hp->Prop:=λ i σ H3=>H3=H0/\∃ o,σ=[some (.ref a),some (.int (lc (fs.take i))),o]/\BB (9000*i+1) (lc (fs.take i))
def Iw (H0:Hp) (fs:List (Int×Int)):Nat->List V->Hp->Prop:=WEq H0 λ i ys=>ys=List.map V.int ((clr fs).take i)
def rN (K:W.Frag):TE:=(tOp dH (tOp (dL K) (aB 0) (tC (.int 0))) (tOp eO (aB 1) (tOp (dL K) (aB 0) (tC (.int 1)))))
def lQ (K:W.Frag):TS:=(aX (fR (aC (aB 1) (aC (bP (bG K (aB 0)) [1] (rN K)) aM))))
def Cl (K:W.Frag):TS:=(aW (tOp dH (aB 1) (tOp eO (tOp (dL K) (aB 2) (tC (.int 1))) (aU (dD K) [] E0 (aC (aB 1) (aC (tOp (dL K) (aB 2) (tC (.int 1))) aM))))) (aI 1))
def sR (K:W.Frag):TS:=(aQ (aW (tC (.int 1)) (aI 1)) (aQ (cH (bG K (aB 0)) (aI 2) (Cl K)) (lQ K)))
theorem len_cleared {K vs H Q E} (h:lF K vs H Q E):vs.length=1:=by obtain ⟨a,ps,fs,rfl,_⟩:=h;rfl
theorem Hz {K vs H Q E} (h:lF K vs H Q E):sR K { nx:=λ _ H'=>Q .non H',rt:=Q } (start Az vs) H:=by
 obtain ⟨a,ps,fs,rfl,hS,hf,hg,hn,q⟩:=h
 have hpl:=hf.length
 have hpos:∀ f∈fs,0<f.2:=λ f hf=>(hg f hf).1
 rw [show start Az [V.ref a]=[some (.ref a),none,none] from rfl]
 (dsimp! [sR,cH,bG,aQ,aW,aI,aB,tC])
 refine ⟨⟨_,hS⟩,eA (K:=K) (a:=a) (xs:=List.map V.ref ps) (g:=aI 2) (D:={ nx:=lQ K { nx:=λ _ H'=>Q .non H',rt:=Q },rt:=Q }) (Iu a H fs) ?_ ?_ ?_ ?_⟩
 ·exact ⟨rfl,none,rfl,by show BB 1 1;unfold BB;decide⟩
 ·rintro i σ H3 _ ⟨rfl,_⟩
  exact hS
 ·rintro i x σ H3 hi ⟨rfl,o,rfl,bl⟩
  obtain ⟨p,rfl,hp⟩:=cA hi
  obtain ⟨f,ef,hF⟩:=hf.get hp
  have gf:=hg f (mem_of_getElem? ef)
  have lp:0<lc (fs.take i):=Pl λ f hf=>hpos f (mem_of_mem_take hf)
  obtain ⟨o1,_,_,_,o5⟩:=Hg lp gf.1
  have e:=Ui ef
  have hlt:i<fs.length:=(List.getElem?_eq_some_iff.mp ef).1
  have bq:=gf.2.2.of_le o5
  have fne:f.2≠0:=Int.ne_of_gt gf.1
  have g0:0<Int.gcd (lc (fs.take i)) f.2:=Int.gcd_pos_of_ne_zero_right _ fne
  unfold lcf at e
  (try dsimp only [aW,aI,aB,tC,tOp,rI,dH,eO,aU,aC,aM,dL,Lq0,Lq1,Ls0,Ls1,cC,cD,cB];try simp only [dD,aW,aI,aB,tC,tOp,rI,dH,eO,aU,aC,aM,dL,Lq0,Lq1,Ls0,Ls1,Option.some.injEq,exists_eq_left',V.int.injEq,V.ref.injEq,List.cons.injEq,and_true,List.append_nil,exists_and_left,and_assoc,exists_eq_left,V.bl.injEq,true_and,cC,cD,cB,cQ,iD,dY])
  refine ⟨_,hF,_,jT,_,hF,_,jT,_,rfl,_,rfl,⟨by omega,gf.2.2.gcd fne⟩,.b (m:=900001) (n:=9000) (bl.mono (by omega)) bq,?_⟩
  rw [← e]
  refine ⟨rfl,_,rfl,?_⟩
  rw [e]
  exact (bl.mul bq).mono (by omega)
 ·rintro σ H3 ⟨rfl,o,rfl,bl⟩
  rw [length_map,hpl,take_length] at bl ⊢
  (dsimp! [lQ,bP,bG,aB,aX,aC,aM,fR])
  refine ⟨⟨_,hS⟩,cT (K:=K) (a:=a) (xs:=List.map V.ref ps) (Iw H3 fs) ?_ ?_ ?_ ?_ ?_⟩
  ·rw [length_map,hpl,sizeLine_eq];omega
  ·exact ⟨rfl,by simp⟩
  ·rintro i ys H4 _ ⟨rfl,_⟩
   exact hS
  ·rintro i x ys H4 hi _ ⟨rfl,rfl⟩
   obtain ⟨p,rfl,hp⟩:=cA hi
   obtain ⟨f,ef,hF⟩:=hf.get hp
   have gf:=hg f (mem_of_getElem? ef)
   obtain ⟨k,hk⟩:=(vS fs 1 (by decide) hpos).2.2.1 f (mem_of_getElem? ef)
   have hk:lc fs=f.2*k:=hk
   have fne:f.2≠0:=Int.ne_of_gt gf.1
   have ek:(lc fs).fdiv f.2=k:=by rw [hk];exact Int.mul_fdiv_cancel_left _ fne
   have bk:BB (9000*fs.length+1) ((lc fs).fdiv f.2):=by
    refine bl.of_le ?_
    rw [ek,hk,Int.natAbs_mul]
    exact Nat.le_mul_of_pos_left _ (by omega)
   (dsimp! [rN,bJ,List.map_cons,List.map_nil,Option.join_some,aB,tC,tOp,rI,dH,eO,dL])
   refine ⟨_,hF,_,kT,_,hF,_,jT,_,rfl,⟨fne,gf.2.2⟩,_,rfl,.b (m:=20000) (n:=900001) gf.2.1 (bk.mono (by omega)),rfl,?_⟩
   show _=List.map V.int (List.take (i+1) (clr fs))
   rw [bH (Ce ef),map_append];rfl
  ·rintro ys H4 _ ⟨rfl,rfl⟩ l hl
   have hcl:(clr fs).length=fs.length:=by unfold clr;rw [length_map]
   rw [length_map,hpl,← hcl,take_length]
   refine ⟨sz2,λ p hp=>q l p _ ((aE.upd hl).trans (aE.upd hp)) (aE.upd hp _ _ aD) aD⟩
def xN:List PySem.Str:=["row", "hand", "spares", "made"]
def mY (K:W.Frag):Sp:=λ vs H Q _=>∃ (a b:Addr) (ps:List Addr) (fs:List (Int×Int)) (h:Nat) (us:List Int),vs=[.ref a,.int h,.ref b]/\SqL K H a (List.map V.ref ps)/\aO K H ps fs/\(∀ f∈fs,G9 f)/\fs.length<=60/\h<=1/\H b=some (.lst (List.map V.int us))/\us.length<=60/\∀ l H',aE H H'->H l=none->H' l=some (.lst (List.map V.int (sdr h us fs)))->Q (.ref l) H'
def pM (K:W.Frag):TS:=(aQ (aW (aU (lF K) [] E0 (aC (aB 0) aM)) (aI 3)) (aQ (dU (bA (tOp rEq (aB 1) (tC (.int 0)))) (aX (tOp rT (tOp rT (aB 2) (tOp (dL K) (aB 3) (tC (.int 1)))) (jC (aC (tOp (dL K) (aB 3) (tC (.int 0))) aM)))) bS) (aX (tOp rT (tOp rT (tOp (dL K) (aB 3) (tC (.int 1))) (aB 2)) (jC (aC (tOp (dL K) (aB 3) (tC (.int 0))) aM))))))
theorem Fk {K vs H Q E} (h:mY K vs H Q E):pM K { nx:=λ _ H'=>Q .non H',rt:=Q } (start xN vs) H:=by
 obtain ⟨a,b,ps,fs,h,us,rfl,ha,hf,hg,fl,h1,hb,ul,q⟩:=h
 have cl:(clr fs).length=fs.length:=by unfold clr;rw [length_map]
 rw [show start xN [V.ref a,V.int h,V.ref b]=[some (.ref a),some (.int h),some (.ref b),none] from rfl]
 (dsimp? [pM,rT])
 refine ⟨a,ps,fs,rfl,ha,hf,hg,by omega,λ l p H1 s1 hl hp=>uG (λ e=>?_) (λ e=>?_)⟩
 ·have e0:h=0:=by omega
  refine ⟨_,rfl,_,SqT.of hp,_,jT,_,rfl,_,s1 _ _ hb,_,hl,by rw [length_map,length_map,sizeLine_eq];omega,λ c hc=>?_⟩
  have s2:aE H1 (upd H1 c (.lst (List.map V.int us++List.map V.int (clr fs)))):=aE.upd hc
  have hc2:(upd H1 c (.lst (List.map V.int us++List.map V.int (clr fs)))) c=some (.lst (List.map V.int us++List.map V.int (clr fs))):=aD
  generalize upd H1 c (.lst (List.map V.int us++List.map V.int (clr fs)))=H2 at s2 hc2
  refine ⟨_,rfl,_,SqT.of (s2 _ _ hp),_,kT,sz1,λ d hd=>⟨_,aE.upd hd _ _ hc2,_,aD,by rw [length_append,length_map,length_map,sizeLine_eq];show _+1<=_;omega,λ g hg'=>?_⟩⟩
  refine q g _ ((s1.trans s2).trans ((aE.upd hd).trans (aE.upd hg'))) (((s1.trans s2).trans (aE.upd hd)).free hg') ?_
  rw [aD,e0]
  unfold sdr two
  rw [if_pos rfl,map_append,map_append];rfl
 ·have e0:¬ h=0:=λ z=>e (by rw [z];rfl)
  refine ⟨_,rfl,_,SqT.of hp,_,jT,_,rfl,_,hl,_,s1 _ _ hb,by rw [length_map,length_map,sizeLine_eq];omega,λ c hc=>?_⟩
  have s2:aE H1 (upd H1 c (.lst (List.map V.int (clr fs)++List.map V.int us))):=aE.upd hc
  have hc2:(upd H1 c (.lst (List.map V.int (clr fs)++List.map V.int us))) c=some (.lst (List.map V.int (clr fs)++List.map V.int us)):=aD
  generalize upd H1 c (.lst (List.map V.int (clr fs)++List.map V.int us))=H2 at s2 hc2
  refine ⟨_,rfl,_,SqT.of (s2 _ _ hp),_,kT,sz1,λ d hd=>⟨_,aE.upd hd _ _ hc2,_,aD,by rw [length_append,length_map,length_map,sizeLine_eq];show _+1<=_;omega,λ g hg'=>?_⟩⟩
  refine q g _ ((s1.trans s2).trans ((aE.upd hd).trans (aE.upd hg'))) (((s1.trans s2).trans (aE.upd hd)).free hg') ?_
  rw [aD]
  unfold sdr two
  rw [if_neg e0,map_append,map_append];rfl
def Qb:List PySem.Str:=["many", "place"]
def uV (K:W.Frag):Sp:=λ vs H Q _=>∃ n k:Nat,vs=[.int n,.int k]/\n<=200/\∀ l H',aE H H'->H l=none->H' l=some (.lst (List.map V.int (ofF n λ r=>if r=k then 1 else 0)))->Q (.ref l) H'
def zN (K:W.Frag):TE:=(tIf (bA (tOp rEq (aB 0) (aB 1))) (tC (.int 1)) (tC (.int 0)))
def Gn (K:W.Frag):TS:=(aX (bP (eL (aC (aB 0) aM)) [1] (zN K)))
theorem len_unit {K vs H Q E} (h:uV K vs H Q E):vs.length=2:=by obtain ⟨n,k,rfl,_⟩:=h;rfl
theorem Tl {K vs H Q E} (h:uV K vs H Q E):Gn K { nx:=λ _ H'=>Q .non H',rt:=Q } (start Qb vs) H:=by
 obtain ⟨n,k,rfl,hn,q⟩:=h
 rw [show start Qb [V.int n,V.int k]=[some (.int n),some (.int k)] from rfl]
 (dsimp! [Gn,bP,eL,aB,aX,aC,aM])
 refine ⟨by omega,by omega,gB (lo:=0) (W:=WEq H λ i zs=>zs=List.map V.int (ofF i λ r=>if r=k then 1 else 0)) (by rw [sizeLine_eq];omega) ⟨rfl,rfl⟩ ?_ ?_⟩
 ·rintro i ys H3 _ _ ⟨rfl,rfl⟩
  (dsimp! [zN,tIf,bJ,List.map_cons,List.map_nil,Option.join_some,aB,tC,tOp,rEq,cI,bA,decide_eq_true_eq])
  refine uG (λ h=>⟨rfl,?_⟩) (λ h=>⟨rfl,?_⟩)
  ·show _=List.map V.int (ofF (i+1) λ r=>if r=k then 1 else 0)
   have:i=k:=by omega
   rw [bR,map_append,if_pos this];rfl
  ·show _=List.map V.int (ofF (i+1) λ r=>if r=k then 1 else 0)
   have:¬ i=k:=by omega
   rw [bR,map_append,if_neg this];rfl
 ·rintro ys H3 _ ⟨rfl,rfl⟩ l hl
  rw [Int.toNat_natCast]
  exact q l _ (aE.upd hl) hl aD
def uF:List PySem.Str:=["self", "rows", "spares"]
def sfl (r i l:Addr):List (Str×V):=cF "listed" (.ref l) (cF "inside" (.ref i) (cF "rows" (.ref r) []))
def lU (K:W.Frag):Sp:=λ vs H Q _=>∃ (t dx r b:Addr) (ps:List Addr) (rs:List (List Int)) (us:List Int) (W:Nat),vs=[.ref t,.ref r,.ref b]/\H t=some (.ins (aR K "Side") dx [])/\H r=some (.lst (List.map V.ref ps))/\bB H ps rs/\1<=rs.length/\(∀ row∈rs,row.length=W+1)/\H b=some (.lst (List.map V.int us))/\us.length<=60 /\
 ∀ i l H',H i=none->H l=none->i≠l->Sb t H H'->H' t=some (.ins (aR K "Side") dx (sfl r i l))->H' i=some (.lst (List.map V.int us))->H' l=some (.lst (List.map V.int ((W:Int)::us)))->Q .non H'
def mX (K:W.Frag):TS:=(aQ (vK K (aB 0) (aB 1) "rows") (aQ (vK K (aB 0) (tCB (iP K) (aC (aB 2) aM)) "inside") (vK K (aB 0) (tOp rT (jC (aC (tOp qD (tCB (lZ K) (aC (tOp (bW K) (aB 1) (tC (.int 0))) aM)) (tC (.int 1))) aM)) (aB 2)) "listed")))
theorem Cu {K vs H Q E} (S:Dh K) (h:lU K vs H Q E):mX K { nx:=λ _ H'=>Q .non H',rt:=Q } (start uF vs) H:=by
 obtain ⟨t,dx,r,b,ps,rs,us,W,rfl,ht,hr,hrs,h1,hw,hb,ul,q⟩:=h
 have hI:IsI H t:=⟨_,_,_,ht⟩
 have pl:=hrs.length
 obtain ⟨p0,e0⟩:∃ p,ps[0]?=some p:=⟨_,getElem?_eq_getElem (by omega)⟩
 obtain ⟨row,er,hrow⟩:=hrs.get e0
 rw [show start uF [V.ref t,V.ref r,V.ref b]=[some (.ref t),some (.ref r),some (.ref b)] from rfl]
 (dsimp? [mX,vK,rT,iP])
 refine ⟨_,_,_,ht,S.cl,S.nr,by show 0<1000;decide,?_⟩
 have b1:Sb t H (upd H t (.ins (aR K "Side") dx (cF "rows" (.ref r) []))):=Sb.at
 have t1:(upd H t (.ins (aR K "Side") dx (cF "rows" (.ref r) []))) t=some (.ins (aR K "Side") dx (cF "rows" (.ref r) [])):=aD
 generalize upd H t (.ins (aR K "Side") dx (cF "rows" (.ref r) []))=H1 at b1 t1
 have b1b:=b1.lst hI hb
 refine ⟨_,.inl (SqL.of b1b),λ i hi=>?_⟩
 have s2:aE H1 (upd H1 i (.lst (List.map V.int us))):=aE.upd hi
 have i2:(upd H1 i (.lst (List.map V.int us))) i=some (.lst (List.map V.int us)):=aD
 generalize upd H1 i (.lst (List.map V.int us))=H2 at s2 i2
 have t2:=s2 _ _ t1
 have nit:i≠t:=λ e=>by rw [e,t1] at hi;cases hi
 refine ⟨_,_,_,t2,S.cl,S.ni,by show 1<1000;decide,?_⟩
 have b3:Sb t H2 (upd H2 t (.ins (aR K "Side") dx (cF "inside" (.ref i) (cF "rows" (.ref r) [])))):=Sb.at
 have t3:(upd H2 t (.ins (aR K "Side") dx (cF "inside" (.ref i) (cF "rows" (.ref r) [])))) t=some (.ins (aR K "Side") dx (cF "inside" (.ref i) (cF "rows" (.ref r) []))):=aD
 generalize upd H2 t (.ins (aR K "Side") dx (cF "inside" (.ref i) (cF "rows" (.ref r) [])))=H3 at b3 t3
 have I2:IsI H2 t:=⟨_,_,_,t2⟩
 have b03:Sb t H H3:=(b1.trans (Sb.of s2)).trans b3
 have i3:=b3.lst I2 i2
 refine ⟨_,SqL.of (b03.lst hI hr),V.ref p0,cE (j:=0) (by rw [getElem?_map,e0];rfl),p0,rfl,_,.inl (SqL.of (b03.lst hI hrow)),sz1,λ c hc=>?_⟩
 have rl:=hw row (mem_of_getElem? er)
 rw [length_map,rl,show ((W+1:Nat):Int) - 1=(W:Int) by omega]
 have s4:aE H3 (upd H3 c (.lst [.int (W:Int)])):=aE.upd hc
 refine ⟨_,aD,_,s4 _ _ (b03.lst hI hb),by rw [length_map,sizeLine_eq];show 1+_<=_;omega,λ l hl=>?_⟩
 have s5:aE H3 (upd (upd H3 c (.lst [.int (W:Int)])) l (.lst ([.int (W:Int)]++List.map V.int us))):=s4.trans (aE.upd hl)
 have l5:(upd (upd H3 c (.lst [.int (W:Int)])) l (.lst ([.int (W:Int)]++List.map V.int us))) l=some (.lst (List.map V.int ((W:Int)::us))):=aD
 have hl3:=s4.free hl
 generalize upd (upd H3 c (.lst [.int (W:Int)])) l (.lst ([.int (W:Int)]++List.map V.int us))=H5 at s5 l5
 have t5:=s5 _ _ t3
 have nlt:l≠t:=λ e=>by rw [e,t3] at hl3;cases hl3
 refine ⟨_,_,_,t5,S.cl,S.nl,by show 2<1000;decide,?_⟩
 refine q i l _ (b1.free hi nit) (b03.free hl3 nlt) (λ e=>by rw [e,hl3] at i3;cases i3) ((b03.trans (Sb.of s5)).trans Sb.at) aD ?_ ?_
 ·rw [aN nit];exact s5 _ _ i3
 ·rw [aN nlt];exact l5
def oW:List PySem.Str:=["table", "hand", "labels", "rows", "place", "row"]
structure Sv (K:W.Frag) (H H':Hp) (a r i l:Addr) (ps:List Addr) (rs:List (List Int)) (us:List Int) (M:Nat):Prop where
 na:H a=none
 nr:H r=none
 ni:H i=none
 nl:H l=none
 np:∀ p∈ps,H p=none
 il:i≠l
 ir:i≠r
 ip:i∉ps
 ob:∃ dx,H' a=some (.ins (aR K "Side") dx (sfl r i l))
 hr:H' r=some (.lst (List.map V.ref ps))
 hp:bB H' ps rs
 hi:H' i=some (.lst (List.map V.int us))
 hl:H' l=some (.lst (List.map V.int ((M:Int)::us)))
def fG (K:W.Frag):Sp:=λ vs H Q _=>∃ (t b:Addr) (m0 m1 n p r:Nat) (e:List Nat->Nat->Int×Int) (h:Nat) (us:List Int),vs=[.ref t,.int h,.ref b]/\Bd K H t [m0,m1] e/\T2 e m0 m1 n p r/\h<=1/\H b=some (.lst (List.map V.int us))/\us.length=two m0 m1 h /\
 ∀ a r i l ps z H',aE H H'->Sv K H H' a r i l ps (lV e m0 m1 h z) us (m0+m1)->Mnf (fB e m0 m1 h) z->Q (.ref a) H'
def Mv (t b x:Addr) (h:Nat) (H0:Hp) (R:Nat->List Int):Nat->St->Hp->Prop:=λ i σ H3=>∃ o1 o2 ps,σ=[some (.ref t),some (.int h),some (.ref b),some (.ref x),o1,o2]/\aE H0 H3/\H3 x=some (.lst (List.map V.ref ps))/\bB H3 ps (ofF i R)/\(∀ p∈ps,H0 p=none)/\x∉ps
def eG (K:W.Frag):TS:=(aX (tD (aR K "Side") (lU K) [] E0 (aC (aB 3) (aC (aB 2) aM))))
def kF (K:W.Frag):TS:=(iA (tBM K "list" gK (aB 3) (aC (aU (mY K) [] E0 (aC (aB 5) (aC (aB 1) (aC (aU (uV K) [] E0 (aC (tCB (lZ K) (aC (aB 2) aM)) (aC (aB 4) aM))) aM)))) aM)))
def gC (K:W.Frag):TG:=(oH K 2 (cO (aI 4) (cO (aI 5) oI)))
def jG (K:W.Frag):TS:=(aQ (aW (jC aM) (aI 3)) (aQ (cH (qF K (aU (sS K) [] E0 (aC (aB 0) (aC (aB 1) aM)))) (gC K) (kF K)) (eG K)))
theorem Ug {m0 m1:Nat} {row:List (Int×Int)} (er:(Dd z (fB e m0 m1 h))[i]?=some row):i<two m0 m1 h/\row=ofF (two m1 m0 h) λ j=>lft z (em e h i j):=by
 unfold Dd fB at er
 rw [getElem?_map] at er
 cases e1:(ofF (two m0 m1 h) λ c=>ofF (two m1 m0 h) (em e h c))[i]? with
 | none=>rw [e1] at er;cases er
 | some r0 =>
  rw [e1] at er
  obtain ⟨hi,rfl⟩:=dQ e1
  obtain rfl:=Option.some.inj er
  refine ⟨hi,?_⟩
  show List.map (lft z) (ofF (two m1 m0 h) (em e h i))=_
  unfold ofF;rw [List.map_map];rfl
theorem Co {K:W.Frag} {t b x:Addr} {o1 o2:Option V} {D:gQ} (s:aE H0 H) (hb:H b=some (.lst (List.map V.int us))) (ul:us.length<=60) (hx0:H0 x=none) (hx:H x=some (.lst (List.map V.ref ps))) (hps:bB H ps rs) (np:∀ p∈ps,H0 p=none) (r1:1<=rs.length) (hw:∀ row∈rs,row.length=M+1)
  (k:∀ a r i l ps H',aE H0 H'->Sv K H0 H' a r i l ps rs us M->D.rt (.ref a) H'):eG K D [some (.ref t),some (.int h),some (.ref b),some (.ref x),o1,o2] H:=by
 (dsimp? [eG,tD])
 intro a dx ha hdx hd
 have s1:aE H (upd H dx (.own a)):=aE.upd hdx
 have a1:(upd H dx (.own a)) a=none:=by rw [aN (Ne.symm hd)];exact ha
 have s2:aE H (upd (upd H dx (.own a)) a (.ins (aR K "Side") dx [])):=s1.trans (aE.upd a1)
 have a2:(upd (upd H dx (.own a)) a (.ins (aR K "Side") dx [])) a=some (.ins (aR K "Side") dx []):=aD
 generalize upd (upd H dx (.own a)) a (.ins (aR K "Side") dx [])=H2 at s2 a2
 refine ⟨a,dx,x,b,ps,rs,us,M,rfl,a2,s2 _ _ hx,hps.same s2,r1,hw,s2 _ _ hb,ul,λ i l H' hi hl il sb at_ hi' hl'=>⟨rfl,?_⟩⟩
 have I2:IsI H2 a:=⟨_,_,_,a2⟩
 have s3:aE H H':=λ c o e=>sb c o (s2 c o e) (λ z=>by rw [z,ha] at e;cases e)
 refine k a x i l ps H' (s.trans s3) ⟨s.free ha,hx0,(s.trans s2).free hi,(s.trans s2).free hl,np,il,λ z=>?_,λ z=>?_,⟨dx,at_⟩,s3 _ _ hx,hps.same s3,hi',hl'⟩
 ·rw [z,s2 _ _ hx] at hi;cases hi
 ·obtain ⟨row,_,e⟩:=(hps.same s2).has z
  rw [e] at hi;cases hi
theorem xS {K vs H Q E} (h:fG K vs H Q E):jG K { nx:=λ _ H'=>Q .non H',rt:=Q } (start oW vs) H:=by
 obtain ⟨t,b,m0,m1,n,p,r,e,h,us,rfl,tf,T,h1,hb,ul,q⟩:=h
 obtain ⟨l1,l2,l3,l4,_⟩:=T.le h
 have nb:=T.nb.le
 rw [show start oW [V.ref t,V.int h,V.ref b]=[some (.ref t),some (.int h),some (.ref b),none,none,none] from rfl]
 (dsimp? [jG,cH,qF])
 refine ⟨sz0,λ x hx=>?_⟩
 have s1:aE H (upd H x (.lst [])):=aE.upd hx
 have x1:(upd H x (.lst [])) x=some (.lst []):=aD
 generalize upd H x (.lst [])=H1 at s1 x1
 refine ⟨t,m0,m1,n,p,r,e,h,rfl,tf.same s1,T,h1,λ l rps z H2 s2 hl2 hr2 mn=>?_⟩
 have rl:=hr2.length
 have fl:(Dd z (fB e m0 m1 h)).length=two m0 m1 h:=by unfold Dd fB;rw [length_map,aL]
 have s12:=s1.trans s2
 refine ⟨l,rfl,⟨_,SqL.of hl2⟩,rC (K:=K) (a:=l) (xs:=List.map V.ref rps) (g:=gC K) (D:={ nx:=eG K { nx:=λ _ H'=>Q .non H',rt:=Q },rt:=Q }) (λ i σ H3=>Mv t b x h H (λ c=>sdr h (un1 (two m0 m1 h) c) (ofF (two m1 m0 h) λ j=>lft z (em e h c j))) i σ H3/\Sb x H2 H3) ?_ ?_ ?_ ?_⟩
 ·exact ⟨⟨none,none,[],rfl,s12,s2 _ _ x1,trivial,(λ _ h=>nomatch h),(λ h=>nomatch h)⟩,Sb.of (aE.refl _)⟩
 ·rintro i σ H3 _ ⟨_,sb⟩
  exact SqL.of (sb _ _ hl2 λ z=>by rw [z,s2 _ _ x1] at hl2;injection hl2 with z;injection z with z;have:=congrArg List.length z;rw [length_map,rl,fl] at this;simp at this;omega)
 ·rintro i u pt σ H3 hi ⟨⟨o1,o2,ps,rfl,s3,x3,hps,np,xp⟩,sb⟩ hpt
  obtain ⟨w,rfl,hw⟩:=cA hi
  obtain ⟨row,qs,er,hrow,hfr⟩:=hr2.get hw
  obtain ⟨hin,rfl⟩:=Ug er
  have nw:w≠x:=λ z=>by
   rw [z,s2 _ _ x1] at hrow;injection hrow with q';injection q' with q'
   have:=congrArg List.length q';rw [length_map,hfr.length,aL] at this;simp at this;omega
  have s4:aE H3 (upd H3 pt (.tup [.int i,.ref w])):=aE.upd hpt
  have t4:(upd H3 pt (.tup [.int i,.ref w])) pt=some (.tup [.int i,.ref w]):=aD
  generalize upd H3 pt (.tup [.int i,.ref w])=H4 at s4 t4
  have s04:=s3.trans s4
  have row4:=s4 _ _ (sb _ _ hrow nw)
  have fr4:=(aO.sb sb (s2 _ _ x1) hfr).same s4
  (dsimp? [gC,kF,iA,tBM,gK])
  refine ⟨_,SqT.of t4,rfl,_,_,rfl,_,_,rfl,rfl,.inl ⟨rfl,_,SqL.of (s4 _ _ x3)⟩,?_⟩
  refine ⟨_,.inl (SqL.of (s04 _ _ hb)),two m0 m1 h,i,by rw [length_map,ul],by omega,λ un H5 s5 hun un5=>?_⟩
  refine ⟨w,un,qs,_,h,_,rfl,SqL.of (s5 _ _ row4),fr4.same s5,λ f hf=>?_,by rw [aL];omega,h1,un5,by rw [aL];omega,λ nl H6 s6 hn6 nl6=>?_⟩
  ·have g:=(vB T h1 mn hin f hf).1
   exact ⟨g.1,g.2.1.mono (by omega),g.2.2.mono (by omega)⟩
  ·have s36:=s4.trans (s5.trans s6)
   have x6:=s36 _ _ x3
   have pl:=hps.length
   rw [aL] at pl
   have nx:nl≠x:=λ z=>by rw [z,(s4.trans s5) _ _ x3] at hn6;cases hn6
   refine ⟨_,x6,by rw [length_map,pl,sizeLine_eq];omega,⟨_,_,ps++[nl],rfl,(s3.trans s36).put hx,by rw [aD,map_append];rfl,?_,λ v hv=>?_,λ hv=>?_⟩,λ c o e hc=>?_⟩
   ·rw [bR]
    exact bB.snoc ((hps.same s36).put xp) (by rw [aN nx];exact nl6)
   ·rcases mem_append.mp hv with hv | hv
    ·exact np v hv
    ·rw [mem_singleton.mp hv];exact ((s3.trans s4).trans s5).free hn6
   ·rcases mem_append.mp hv with hv | hv
    ·exact xp hv
    ·exact nx (mem_singleton.mp hv).symm
   ·rw [aN hc];exact s36 _ _ (sb c o e hc)
 ·rintro σ H3 ⟨⟨o1,o2,ps,rfl,s3,x3,hps,np,xp⟩,_⟩
  rw [length_map,rl,fl] at hps
  refine Co (t:=t) (h:=h) (o1:=o1) (o2:=o2) (M:=m0+m1) s3 (s3 _ _ hb) (by omega) hx x3 hps np (by rw [aL];omega) (λ row hr=>?_) λ a r i l ps' H' s' so=>q a r i l ps' z H' s' so mn
  obtain ⟨c,hc,rfl⟩:=dO hr
  rw [Jj]
  unfold un1
  rw [aL,aL]
  unfold two
  split <;> omega
def xP:List PySem.Str:=["row", "other", "column", "listed", "place", "mine", "yours"]
def iX (K:W.Frag):Sp:=λ vs H Q _=>∃ a b l x y js,∃ c w:Nat,vs=[.ref a,.ref b,.int c,.ref l]/\SqL K H a (List.map V.int x)/\SqL K H b (List.map V.int y)/\SqL K H l (List.map (λ j:Nat=>V.int j) js)/\Ro x w/\Ro y w/\c<w/\(∀ j∈js,j<w)/\Q (.bl (decide (lx x y c js=some true))) H
def Rh (a b l:Addr) (x y:List Int) (c:Nat) (js:List Nat) (H0:Hp):Nat->St->Hp->Prop:=SEq H0 λ i σ=>∃ o1 o2 o3,σ=[some (.ref a),some (.ref b),some (.int c),some (.ref l),o1,o2,o3]/\lx x y c js=lx x y c (js.drop i)
def jM (K:W.Frag):TS:=(aX (tC (.bl false)))
def yU (K:W.Frag):TS:=(aQ (aW (tOp dH (tOp (bW K) (aB 0) (aB 4)) (tOp (bW K) (aB 1) (aB 2))) (aI 5)) (aQ (aW (tOp dH (tOp (bW K) (aB 1) (aB 4)) (tOp (bW K) (aB 0) (aB 2))) (aI 6)) (dU (bA (tOp rNe (aB 5) (aB 6))) (aX (tOp rS (aB 5) (aB 6))) bS)))
def pR (K:W.Frag):TS:=(aQ (cH (bG K (aB 3)) (aI 4) (yU K)) (jM K))
theorem Vf {K vs H Q E} (h:iX K vs H Q E):vs.length=4:=by obtain ⟨_,_,_,_,_,_,_,_,rfl,_⟩:=h;rfl
theorem Rq {js:List Nat} {x:V} (h:(List.map (λ j:Nat=>V.int j) js)[i]?=some x):∃ c:Nat,x=.int c/\js[i]?=some c:=by
 rw [getElem?_map] at h
 cases e:js[i]? with
 | none=>rw [e] at h;cases h
 | some z=>rw [e] at h;exact ⟨z,(Option.some.inj h).symm,rfl⟩
theorem Ub {x y:List Int} {js:List Nat} (h:js[i]?=some j):lx x y c (js.drop i)=if x.getD j 0*y.getD c 0=y.getD j 0*x.getD c 0 then lx x y c (js.drop (i+1)) else some (decide (x.getD j 0*y.getD c 0<y.getD j 0*x.getD c 0)):=by
 have hlt:i<js.length:=(List.getElem?_eq_some_iff.mp h).1
 rw [List.drop_eq_getElem_cons hlt]
 have:js[i]=j:=(List.getElem?_eq_some_iff.mp h).2
 rw [this]
 rfl
theorem Fq {K vs H Q E} (h:iX K vs H Q E):pR K { nx:=λ _ H'=>Q .non H',rt:=Q } (start xP vs) H:=by
 obtain ⟨a,b,l,x,y,js,c,w,rfl,hA,hB,hL,⟨xl,xb⟩,⟨yl,yb⟩,hc,hj,q⟩:=h
 rw [show start xP [V.ref a,V.ref b,V.int c,V.ref l]=[some (.ref a),some (.ref b),some (.int c),some (.ref l),none,none,none] from rfl]
 (dsimp! [pR,cH,bG,aQ,aI,aB])
 refine ⟨⟨_,hL⟩,eA (K:=K) (a:=l) (xs:=List.map (λ j:Nat=>V.int j) js) (g:=aI 4) (D:={ nx:=jM K { nx:=λ _ H'=>Q .non H',rt:=Q },rt:=Q }) (Rh a b l x y c js H) ?_ ?_ ?_ ?_⟩
 ·exact ⟨rfl,none,none,none,rfl,rfl⟩
 ·rintro i σ H3 _ ⟨rfl,_⟩
  exact hL
 ·rintro i v σ H3 hi ⟨rfl,o1,o2,o3,rfl,e⟩
  obtain ⟨j,rfl,ej⟩:=Rq hi
  have jw:=hj j (mem_of_getElem? ej)
  rw [Ub ej] at e
  (dsimp! [aQ,aW,aI,aB,tOp,rI0,rI,dH,rS,rNe,cI,aX,dU,bA,bS,bW])
  refine ⟨_,hA,_,fF (i:=j) (by omega),_,hB,_,fF (i:=c) (by omega),_,rfl,_,rfl,.b (xb _ (gX (by omega))) (yb _ (gX (by omega))),_,hB,_,fF (i:=j) (by omega),_,hA,_,fF (i:=c) (by omega),_,rfl,_,rfl,.b (yb _ (gX (by omega))) (xb _ (gX (by omega))),?_⟩
  by_cases hz:x.getD j 0*y.getD c 0=y.getD j 0*x.getD c 0
  ·rw [if_neg (by rw [decide_eq_true hz];decide)]
   rw [if_pos hz] at e
   exact ⟨rfl,_,_,_,rfl,e⟩
  ·rw [if_pos (by rw [decide_eq_false hz];rfl)]
   rw [if_neg hz] at e
   rw [e] at q
   have:decide (some (decide (x.getD j 0*y.getD c 0<y.getD j 0*x.getD c 0))=some true)=decide (x.getD j 0*y.getD c 0<y.getD j 0*x.getD c 0):=by
    by_cases h2:x.getD j 0*y.getD c 0<y.getD j 0*x.getD c 0
    ·rw [decide_eq_true h2];rfl
    ·rw [decide_eq_false h2];rfl
   rw [this] at q
   exact q
 ·rintro σ H3 ⟨rfl,o1,o2,o3,rfl,e⟩
  rw [length_map,List.drop_length] at e
  rw [e] at q
  dsimp only [jM,tC,aX,cC,cD,cB]
  exact q
def Ar:List PySem.Str:=["rows", "column", "listed", "found", "place", "row"]
def lB (K:W.Frag):Sp:=λ vs H Q _=>∃ r l ps rs js,∃ c w:Nat,vs=[.ref r,.int c,.ref l]/\SqL K H r (List.map V.ref ps)/\bB H ps rs/\(∀ row∈rs,Ro row w)/\SqL K H l (List.map (λ j:Nat=>V.int j) js)/\c<w/\(∀ j∈js,j<w)/\∀ o H',aE H H'->Lv rs c js rs.length o->Q (oV o) H'
def Ir (r l:Addr) (c:Nat) (rs:List (List Int)) (js:List Nat) (H0:Hp):Nat->St->Hp->Prop:=λ i σ H3=>∃ o o1 o2,σ=[some (.ref r),some (.int c),some (.ref l),some (oV o),o1,o2]/\aE H0 H3/\Lv rs c js i o
def rJ (K:W.Frag):TS:=(dU (La (bA (tOp yQ (tOp (bW K) (aB 5) (aB 1)) (tC (.int 0)))) (tOr (bA (tOp rIsN (aB 3) (tC .non))) (tB (aU (iX K) [] E0 (aC (aB 5) (aC (tOp (bW K) (aB 0) (aB 3)) (aC (aB 1) (aC (aB 2) aM)))))))) (aW (aB 4) (aI 3)) bS)
def lM (K:W.Frag):TG:=(oH K 2 (cO (aI 4) (cO (aI 5) oI)))
def sI (K:W.Frag):TS:=(aQ (aW (tC .non) (aI 3)) (aQ (cH (qF K (aB 0)) (lM K) (rJ K)) (aX (aB 3))))
theorem len_leaving {K vs H Q E} (h:lB K vs H Q E):vs.length=3:=by obtain ⟨_,_,_,_,_,_,_,rfl,_⟩:=h;rfl
theorem Ht {K vs H Q E} (h:lB K vs H Q E):sI K { nx:=λ _ H'=>Q .non H',rt:=Q } (start Ar vs) H:=by
 obtain ⟨r,l,ps,rs,js,c,w,rfl,hR,hrs,hrw,hL,hc,hj,q⟩:=h
 have hpl:=hrs.length
 rw [show start Ar [V.ref r,V.int c,V.ref l]=[some (.ref r),some (.int c),some (.ref l),none,none,none] from rfl]
 (dsimp! [sI,cH,qF,aQ,aW,aI,aB,tC,aX])
 refine ⟨⟨_,hR⟩,rC (K:=K) (a:=r) (xs:=List.map V.ref ps) (g:=lM K) (D:={ nx:=aX (aB 3) { nx:=λ _ H'=>Q .non H',rt:=Q },rt:=Q }) (Ir r l c rs js H) ?_ ?_ ?_ ?_⟩
 ·exact ⟨none,none,none,rfl,aE.refl _,λ k row hk=>absurd hk (Nat.not_lt_zero _)⟩
 ·rintro i σ H3 _ ⟨_,_,_,_,s3,_⟩
  exact s3.seq hR
 ·rintro i x p σ H3 hi ⟨o,o1,o2,rfl,s3,lv⟩ hp
  obtain ⟨z,rfl,hz⟩:=cA hi
  obtain ⟨row,er,hrow⟩:=hrs.get hz
  obtain ⟨rl,rb⟩:=hrw row (mem_of_getElem? er)
  have s4:aE H (upd H3 p (.tup [.int i,.ref z])):=s3.trans (aE.upd hp)
  (dsimp! [lM,rJ,rIsN,aW,aI,aB,tC,tOp,rI0,yQ,dU,bA,tB,bS,aU,aC,aM,bW,La,tOr,oH,cO,oI,List.append_nil,decide_eq_true_eq])
  refine ⟨_,SqT.of aD,rfl,_,_,rfl,_,_,rfl,rfl,_,rfl,_,SqL.of (s4 _ _ hrow),_,fF (by omega),_,rfl,uG (λ hpos=>?_) (λ hn=>⟨_,_,_,rfl,s4,lv.skip er hn⟩)⟩
  cases o with
  | none =>
   simp only [oV,if_true,Option.some.injEq,exists_eq_left',exists_eq_left,V.int.injEq,V.ref.injEq,V.bl.injEq,List.cons.injEq,and_true,true_and,exists_and_left,and_assoc,cC,cD,cB,cQ,iD,dY]
   exact ⟨some i,_,_,rfl,s4,lv.first er hpos⟩
  | some f =>
   obtain ⟨hfi,fr,hf,_⟩:=id lv
   obtain ⟨zf,hzf⟩:∃ zf,ps[f]?=some zf:=⟨_,getElem?_eq_getElem (by rw [hpl];exact (List.getElem?_eq_some_iff.mp hf).1)⟩
   obtain ⟨fr',ef,hfr⟩:=hrs.get hzf
   rw [hf] at ef
   obtain rfl:=Option.some.inj ef
   have atf:atI (List.map V.ref ps) (f:Int)=some (.ref zf):=cE (by rw [getElem?_map,hzf];rfl)
   simp only [oV,reduceCtorEq,if_false,exists_eq_left',V.int.injEq,Option.some.injEq,exists_eq_left,V.ref.injEq,V.bl.injEq,List.cons.injEq,and_true,true_and,exists_and_left,and_assoc,cC,cD,cB,cQ,iD,dY]
   refine ⟨_,s4.seq hR,_,atf,_,_,_,_,_,_,_,w,rfl,SqL.of (s4 _ _ hrow),SqL.of (s4 _ _ hfr),s4.seq hL,⟨rl,rb⟩,hrw fr (mem_of_getElem? hf),hc,hj,_,rfl,uG (λ ha=>⟨some i,_,_,rfl,s4,lv.take hf er hpos (by simpa using ha)⟩) (λ ha=>⟨some f,_,_,rfl,s4,lv.keep hf er hpos (by simpa using ha)⟩)⟩
 ·rintro σ H3 ⟨o,o1,o2,rfl,s3,lv⟩
  rw [length_map,hpl] at lv
  (dsimp! [aB,tC,tOp,rI0,rNe,cI,aX,bA])
  exact q o H3 s3 lv
def Fc:List PySem.Str:=["row", "told", "number"]
def nW (K:W.Frag):Sp:=λ vs H Q _=>∃ a ns,vs=[.ref a]/\SqL K H a (List.map V.int ns)/\Q (.int (gl ns)) H
def Mw (a:Addr) (H0:Hp) (ns:List Int):Nat->St->Hp->Prop:=λ i σ H3=>H3=H0/\∃ o,σ=[some (.ref a),some (.int (gl (ns.take i))),o]
def Fi (K:W.Frag):TS:=(aQ (aW (aU (dD K) [] E0 (aC (aB 1) (aC (aB 2) aM))) (aI 1)) (dU (bA (tOp rEq (aB 1) (tC (.int 1)))) (aX (aB 1)) bS))
def vW (K:W.Frag):TS:=(aQ (aW (tC (.int 0)) (aI 1)) (aQ (cH (bG K (aB 0)) (aI 2) (Fi K)) (aX (aB 1))))
theorem len_shared {K vs H Q E} (h:nW K vs H Q E):vs.length=1:=by obtain ⟨a,ns,rfl,_⟩:=h;rfl
theorem Lq {K vs H Q E} (h:nW K vs H Q E):vW K { nx:=λ _ H'=>Q .non H',rt:=Q } (start Fc vs) H:=by
 obtain ⟨a,ns,rfl,hS,q⟩:=h
 rw [show start Fc [V.ref a]=[some (.ref a),none,none] from rfl]
 (dsimp! [vW,cH,bG,aQ,aW,aI,aB,tC,aX])
 refine ⟨⟨_,hS⟩,eA (K:=K) (a:=a) (xs:=List.map V.int ns) (g:=aI 2) (D:={ nx:=aX (aB 1) { nx:=λ _ H'=>Q .non H',rt:=Q },rt:=Q }) (Mw a H ns) ?_ ?_ ?_ ?_⟩
 ·exact ⟨rfl,none,rfl⟩
 ·rintro i σ H3 _ ⟨rfl,_⟩
  exact hS
 ·rintro i x σ H3 hi ⟨rfl,o,rfl⟩
  obtain ⟨c,rfl,hc⟩:=jZ hi
  have e:=Uo hc
  unfold glf at e
  (try dsimp only [aQ,aW,aI,aB,tC,tOp,rEq,cI,aX,dU,bA,bS,aU,aC,aM,Lq0,Lq1,Ls0,Ls1,cC,cD,cB];try simp only [dD,aQ,aW,aI,aB,tC,tOp,rEq,cI,aX,dU,bA,bS,aU,aC,aM,Lq0,Lq1,Ls0,Ls1,Option.some.injEq,exists_eq_left',V.int.injEq,V.bl.injEq,List.cons.injEq,and_true,true_and,List.append_nil,exists_and_left,decide_eq_true_eq,and_assoc,exists_eq_left,V.ref.injEq,cC,cD,cB,cQ,iD,dY])
  rw [← e]
  refine uG (λ h1=>?_) (λ h1=>?_)
  ·have e1:=gl_one h1
   rw [h1]
   rwa [e1] at q
  ·exact ⟨rfl,_,rfl⟩
 ·rintro σ H3 ⟨rfl,o,rfl⟩
  (dsimp! [aB,tC,tOp,rI0,rNe,cI,aX,bA])
  rwa [length_map,take_length]
def Kx:List PySem.Str:=["row", "common"]
def mP (K:W.Frag):Sp:=λ vs H Q _=>∃ a ns,vs=[.ref a]/\SqL K H a (List.map V.int ns)/\ns.length<=1000/\(∀ n∈ns,BB 9000 n)/\∀ l H',aE H H'->H l=none->H' l=some (.lst (List.map V.int (cZ ns)))->Q (.ref l) H'
def Sa (H0:Hp) (ns:List Int):Nat->List V->Hp->Prop:=λ i ys H3=>H3=H0/\ys=List.map V.int ((ns.take i).map λ n=>n.fdiv (gl ns))
def xE (K:W.Frag):TE:=(tOp eO (aB 0) (aB 1))
def Bq (K:W.Frag):TS:=(aQ (aW (aU (nW K) [] E0 (aC (aB 0) aM)) (aI 1)) (aQ (dU (bA (tOp rS (aB 1) (tC (.int 2)))) (aX (tCB (iP K) (aC (aB 0) aM))) bS) (aX (bP (bG K (aB 0)) [1] (xE K)))))
theorem len_plain {K vs H Q E} (h:mP K vs H Q E):vs.length=1:=by obtain ⟨a,ns,rfl,_⟩:=h;rfl
theorem Ql {K vs H Q E} (h:mP K vs H Q E):Bq K { nx:=λ _ H'=>Q .non H',rt:=Q } (start Kx vs) H:=by
 obtain ⟨a,ns,rfl,hS,hn,hb,q⟩:=h
 rw [show start Kx [V.ref a]=[some (.ref a),none] from rfl]
 (dsimp! [Bq,bP,bG,iP,aQ,aW,aI,aB,tC,tOp,rI0,rS,aX,dU,bA,bS,aU,aC,aM,tCB,List.append_nil,decide_eq_true_eq])
 refine ⟨_,_,rfl,hS,_,rfl,uG (λ h2=>?_) (λ h2=>?_)⟩
 ·refine ⟨_,.inl hS,λ l hl=>q l _ (aE.upd hl) hl ?_⟩
  unfold cZ
  rw [if_pos h2];exact aD
 ·refine ⟨⟨_,hS⟩,cT (K:=K) (a:=a) (xs:=List.map V.int ns) (Sa H ns) ?_ ?_ ?_ ?_ ?_⟩
  ·rw [length_map,sizeLine_eq];omega
  ·exact ⟨rfl,rfl⟩
  ·rintro i ys H3 _ ⟨rfl,_⟩
   exact hS
  ·rintro i x ys H3 hi _ ⟨rfl,rfl⟩
   obtain ⟨c,rfl,hc⟩:=jZ hi
   (dsimp! [xE,bJ,List.map_cons,List.map_nil,Option.join_some,aB,tOp,rI,eO])
   refine ⟨⟨by omega,gl_bb hb⟩,rfl,?_⟩
   rw [bH hc];simp
  ·rintro ys H3 _ ⟨rfl,rfl⟩ p hp
   refine q p _ (aE.upd hp) hp ?_
   rw [length_map,take_length]
   unfold cZ
   rw [if_neg h2];exact aD
def Fd:List PySem.Str:=["row", "kept", "column"]
def Rv (row:List Int) (w:Nat):Prop:=row.length=w/\∀ m∈row,BB 560 m
def nX (K:W.Frag):Sp:=λ vs H Q _=>∃ a b row kept,∃ col w:Nat,vs=[.ref a,.ref b,.int col]/\SqL K H a (List.map V.int row)/\SqL K H b (List.map V.int kept)/\Rv row w/\Rv kept w/\col<w/\w<=13/\∀ l H',aE H H'->H l=none->H' l=some (.lst (List.map V.int (Dc row kept col)))->Q (.ref l) H'
def tO (K:W.Frag):TE:=(tOp qD (tOp dH (aB 0) (tOp (bW K) (aB 2) (aB 3))) (tOp dH (aB 1) (tOp (bW K) (aB 4) (aB 3))))
def tN (K:W.Frag):TG:=(oH K 2 (cO (aI 0) (cO (aI 1) oI)))
def vX (K:W.Frag):TS:=(aQ (dU (bA (tOp rEq (tOp (bW K) (aB 0) (aB 2)) (tC (.int 0)))) (aX (aU (mP K) [] E0 (aC (aB 0) aM))) bS) (aX (aU (mP K) [] E0 (aC (mJ (Ge K (aC (aB 0) (aC (aB 1) aM))) 2 [1,2,0] (tN K) (tO K)) aM))))
theorem len_rid_of {K vs H Q E} (h:nX K vs H Q E):vs.length=3:=by obtain ⟨a,b,_,_,_,_,rfl,_⟩:=h;rfl
theorem Lr {K vs H Q E} (h:nX K vs H Q E):vX K { nx:=λ _ H'=>Q .non H',rt:=Q } (start Fd vs) H:=by
 obtain ⟨a,b,row,kept,col,w,rfl,hA,hB,⟨rl,rb⟩,⟨kl,kb⟩,hc,hw,q⟩:=h
 rw [show start Fd [V.ref a,V.ref b,V.int col]=[some (.ref a),some (.ref b),some (.int col)] from rfl]
 have br:=rb _ (gX (l:=row) (i:=col) (by omega))
 have bk:=kb _ (gX (l:=kept) (i:=col) (by omega))
 (dsimp? [vX,mJ,Ge])
 refine ⟨_,hA,_,fF (by omega),rfl,uG (λ hz=>?_) (λ hz=>?_)⟩
 all_goals (have hz0:V.int (row.getD col 0)=V.int 0↔row.getD col 0=0:=⟨λ e=>by injection e,λ e=>by rw [e]⟩;rw [hz0] at hz;clear hz0)
 ·refine ⟨_,_,rfl,hA,by omega,λ n hn=>(rb n hn).mono (by decide),λ l H' s h0 h1=>q l H' s h0 ?_⟩
  unfold Dc;rw [if_pos hz];exact h1
 ·refine ⟨⟨_,hA⟩,⟨_,hB⟩,Af (K:=K) (a:=a) (b:=b) (xs:=List.map V.int row) (ys:=List.map V.int kept) (λ i zs H3=>aE H H3/\zs=List.map V.int ((tkL row kept (kept.getD col 0) (row.getD col 0)).take i)) ?_ ?_ ?_ ?_ ?_ ?_⟩
  ·rw [length_map,sizeLine_eq];omega
  ·rw [length_map,length_map,rl,kl]
  ·exact ⟨aE.refl _,rfl⟩
  ·rintro i zs H3 _ ⟨s3,_⟩
   exact ⟨s3.seq hA,s3.seq hB⟩
  ·rintro i x y p zs H3 hx hy _ ⟨s3,rfl⟩ hp os hos
   obtain ⟨m,rfl,hm⟩:=jZ hx
   obtain ⟨n,rfl,hn⟩:=jZ hy
   obtain ⟨o1,o2,rfl⟩:∃ o1 o2,os=[o1,o2]:=match os,hos with | [o1,o2],_=>⟨o1,o2,rfl⟩
   have s4:aE H (upd H3 p (.tup [.int m,.int n])):=s3.trans (aE.upd hp)
   (dsimp? [tN,tO,bJ,List.map_cons,List.map_nil,Lq1,Lq0,Option.join_some])
   refine ⟨_,SqT.of aD,rfl,_,_,rfl,_,_,rfl,rfl,⟨[some (.int m),some (.int n)],rfl,rfl⟩,_,s4.seq hB,_,fF (by omega),_,rfl,_,rfl,.b (rb m (mem_of_getElem? hm)) bk,_,s4.seq hA,_,fF (by omega),_,rfl,_,rfl,.b (kb n (mem_of_getElem? hn)) br,s4,?_⟩
   rw [bH (Je hm hn),map_append];rfl
  ·rintro zs H3 _ ⟨s3,rfl⟩ p hp
   have el:(List.map V.int row).length=(tkL row kept (kept.getD col 0) (row.getD col 0)).length:=by rw [length_map,kZ (by omega)]
   rw [el,take_length]
   refine ⟨_,_,rfl,SqL.of aD,by rw [kZ (by omega)];omega,λ n hn=>(tkL_bb rb kb bk br n hn).mono (by decide),λ l H' s h0 h1=>q l H' ((s3.trans (aE.upd hp)).trans s) ((s3.trans (aE.upd hp)).free h0) ?_⟩
   unfold Dc;rw [if_neg hz];exact h1
def Fa:List PySem.Str:=["rows", "at", "column", "told", "place", "row"]
def Ky (kept:List Int) (at_ col i:Nat) (row:List Int):List Int:=if i=at_ then row else Dc row kept col
def nU (K:W.Frag):Sp:=λ vs H Q _=>∃ r ps rs kept,∃ at_ col w:Nat,vs=[.ref r,.int at_,.int col]/\SqL K H r (List.map V.ref ps)/\bB H ps rs/\(∀ row∈rs,Rv row w)/\rs[at_]?=some kept/\col<w/\w<=13/\rs.length<=6 /\
 ∀ l qs ts H',aE H H'->H l=none->H' l=some (.lst (List.map V.ref qs))->bB H' qs ts->(∀ p∈qs,H p=none)->l∉qs->ts.length=rs.length->(∀ i row,rs[i]?=some row->ts[i]?=some (Ky kept at_ col i row))->Q (.ref l) H'
def zY (r l:Addr) (at_ col:Nat) (kept:List Int) (rs:List (List Int)) (H0:Hp):Nat->St->Hp->Prop:=λ i σ H3=>∃ (o1 o2:Option V) (qs:List Addr) (ts:List (List Int)),σ=[some (.ref r),some (.int at_),some (.int col),some (.ref l),o1,o2]/\aE H0 H3/\H3 l=some (.lst (List.map V.ref qs))/\bB H3 qs ts/\(∀ p∈qs,H0 p=none)/\l∉qs/\ts.length=i/\∀ j row,j<i->rs[j]?=some row->ts[j]?=some (Ky kept at_ col j row)
def tL (K:W.Frag):TS:=(dU (bA (tOp rEq (aB 4) (aB 1))) (iA (tBM K "list" gK (aB 3) (aC (tCB (iP K) (aC (aB 5) aM)) aM))) (iA (tBM K "list" gK (aB 3) (aC (aU (nX K) [] E0 (aC (aB 5) (aC (tOp (bW K) (aB 0) (aB 1)) (aC (aB 2) aM)))) aM))))
def mS (K:W.Frag):TG:=(oH K 2 (cO (aI 4) (cO (aI 5) oI)))
def vU (K:W.Frag):TS:=(aQ (aW (jC aM) (aI 3)) (aQ (cH (qF K (aB 0)) (mS K) (tL K)) (aX (aB 3))))
theorem len_turned {K vs H Q E} (h:nU K vs H Q E):vs.length=3:=by obtain ⟨a,_,_,_,_,_,_,rfl,_⟩:=h;rfl
theorem Ln {K vs H Q E} (h:nU K vs H Q E):vU K { nx:=λ _ H'=>Q .non H',rt:=Q } (start Fa vs) H:=by
 obtain ⟨r,ps,rs,kept,at_,col,w,rfl,hR,hrs,hw,hat,hc,w6,r6,q⟩:=h
 have hpl:=hrs.length
 rw [show start Fa [V.ref r,V.int at_,V.int col]=[some (.ref r),some (.int at_),some (.int col),none,none,none] from rfl]
 (dsimp? [vU,cH,qF])
 refine ⟨sz0,λ l hl=>⟨⟨_,(aE.upd hl).seq hR⟩,rC (K:=K) (a:=r) (xs:=List.map V.ref ps) (g:=mS K) (D:={ nx:=aX (aB 3) { nx:=λ _ H'=>Q .non H',rt:=Q },rt:=Q }) (zY r l at_ col kept rs H) ?_ ?_ ?_ ?_⟩⟩
 ·exact ⟨none,none,[],[],rfl,aE.upd hl,aD,trivial,(λ _ h=>nomatch h),(λ h=>nomatch h),rfl,λ j row h=>absurd h (Nat.not_lt_zero _)⟩
 ·rintro i σ H3 _ ⟨_,_,_,_,_,s3,_⟩
  exact s3.seq hR
 ·rintro i x p σ H3 hi ⟨o1,o2,qs,ts,rfl,s3,hl3,hq3,hn3,hlq,hlen,hts⟩ hp
  obtain ⟨z,rfl,hz⟩:=cA hi
  obtain ⟨row,er,hrow⟩:=hrs.get hz
  have hlt:i<rs.length:=(List.getElem?_eq_some_iff.mp er).1
  have s4:aE H (upd H3 p (.tup [.int i,.ref z])):=s3.trans (aE.upd hp)
  have hl4:(upd H3 p (.tup [.int i,.ref z])) l=some (.lst (List.map V.ref qs)):=aE.upd hp _ _ hl3
  have hq4:bB (upd H3 p (.tup [.int i,.ref z])) qs ts:=hq3.same (aE.upd hp)
  generalize hH4:upd H3 p (.tup [.int i,.ref z])=H4 at s4 hl4 hq4
  have hT:SqT K H4 p [.int i,.ref z]:=by rw [← hH4];exact SqT.of aD
  have hqs:=hq3.length
  have fin:∀ (n:Addr) (H5:Hp),aE H4 H5->H4 n=none->H5 n=some (.lst (List.map V.int (Ky kept at_ col i row)))->zY r l at_ col kept rs H (i+1) [some (.ref r),some (.int at_),some (.int col),some (.ref l),some (.int i),some (.ref z)] (upd H5 l (.lst (List.map V.ref qs++[.ref n]))):=by
   intro n H5 s5 hn4 hn5
   have hnl:n≠l:=λ e=>by rw [e,hl4] at hn4;cases hn4
   refine ⟨_,_,qs++[n],ts++[Ky kept at_ col i row],rfl,(s4.trans s5).put hl,by rw [aD,map_append];rfl,bB.snoc ((hq4.same s5).put hlq) (by rw [aN hnl];exact hn5),λ v hv=>?_,λ hv=>?_,by simp [hlen],λ j row' hj e=>?_⟩
   ·rcases mem_append.mp hv with hv | hv
    ·exact hn3 v hv
    ·rw [mem_singleton.mp hv];exact s4.free hn4
   ·rcases mem_append.mp hv with hv | hv
    ·exact hlq hv
    ·exact hnl (mem_singleton.mp hv).symm
   ·by_cases hji:j<i
    ·rw [getElem?_append_left (by omega)]
     exact hts j row' hji e
    ·have:j=i:=by omega
     subst this
     rw [er] at e
     obtain rfl:=Option.some.inj e
     rw [getElem?_append_right (by omega),hlen,Nat.sub_self];rfl
  have hsz:(List.map V.ref qs).length<sizeLine:=by rw [length_map,hqs,hlen,sizeLine_eq];omega
  (dsimp? [mS,tL,iA,tBM,gK,iP])
  refine ⟨_,hT,rfl,_,_,rfl,_,_,rfl,rfl,rfl,uG (λ e=>?_) (λ e=>?_)⟩
  ·refine ⟨.inl ⟨rfl,_,SqL.of hl4⟩,_,rfl,_,.inl (SqL.of (s4 _ _ hrow)),λ n hn=>⟨_,aE.upd hn _ _ hl4,hsz,?_⟩⟩
   refine fin n _ (aE.upd hn) hn ?_
   have e':(i:Int)=(at_:Int):=by injection e
   have:i=at_:=by omega
   unfold Ky;rw [if_pos this];exact aD
  ·obtain ⟨z2,hz2⟩:∃ z2,ps[at_]?=some z2:=⟨_,getElem?_eq_getElem (by rw [hpl];exact (List.getElem?_eq_some_iff.mp hat).1)⟩
   obtain ⟨row2,er2,hrow2⟩:=hrs.get hz2
   rw [hat] at er2
   obtain rfl:=Option.some.inj er2
   have hat2:atI (List.map V.ref ps) (at_:Int)=some (.ref z2):=cE (by rw [getElem?_map,hz2];rfl)
   refine ⟨.inl ⟨rfl,_,SqL.of hl4⟩,_,s4.seq hR,_,hat2,_,_,_,_,_,w,rfl,SqL.of (s4 _ _ hrow),SqL.of (s4 _ _ hrow2),hw row (mem_of_getElem? er),hw kept (mem_of_getElem? hat),hc,w6,λ n H5 s5 hn4 hn5=>⟨_,s5 _ _ hl4,hsz,?_⟩⟩
   refine fin n _ s5 hn4 ?_
   have:¬ i=at_:=λ z=>e (by rw [z])
   unfold Ky;rw [if_neg this];exact hn5
 ·rintro σ H3 ⟨o1,o2,qs,ts,rfl,s3,hl3,hq3,hn3,hlq,hlen,hts⟩
  rw [length_map,hpl] at hlen hts
  (dsimp! [aB,tC,tOp,rI0,rNe,cI,aX,bA])
  exact q l qs ts H3 s3 hl hl3 hq3 hn3 hlq hlen λ i row e=>hts i row (List.getElem?_eq_some_iff.mp e).1 e
def pE:List PySem.Str:=["self", "label", "at", "gone"]
theorem wK (r i l:Addr):(sfl r i l).lookup ("rows" : Str)=some (.ref r):=rfl
theorem pU (r i l:Addr):(sfl r i l).lookup ("inside" : Str)=some (.ref i):=rfl
theorem Hq (r i l:Addr):(sfl r i l).lookup ("listed" : Str)=some (.ref l):=rfl
theorem Tf (r i l r':Addr):cF "rows" (.ref r') (sfl r i l)=sfl r' i l:=rfl
structure qA (K:W.Frag) (H:Hp) (a r i l:Addr) (ps:List Addr) (rs:List (List Int)) (L:Sd) (s:Nat->Nat):Prop where
 ob:∃ dx,H a=some (.ins (aR K "Side") dx (sfl r i l))
 hr:H r=some (.lst (List.map V.ref ps))
 hp:bB H ps rs
 hi:H i=some (.lst (List.map V.int (ofF L.m λ k=>(s k:Int))))
 hl:H l=some (.lst (List.map (λ j:Nat=>V.int j) L.jl))
 ir:i≠r
 ip:i∉ps
 il:i≠l
 tb:L.Tb s rs
def eE (K:W.Frag):Sp:=λ vs H Q _=>∃ (a r i l:Addr) (ps:List Addr) (rs:List (List Int)) (L:Sd) (s:Nat->Nat) (u:Nat),vs=[.ref a,.int u]/\qA K H a r i l ps rs L s/\Few L/\L.Okx s/\(∀ k,k<L.m->s k<L.W)/\u<L.W /\
 ∀ f r' ps' rs' H',f<L.m->L.Okx (Lpd.sput s f u)->H r'=none->(∀ p∈ps',H p=none)->(∀ b o,H b=some o->b≠a->b≠i->H' b=some o)->qA K H' a r' i l ps' rs' L (Lpd.sput s f u)->Q (.int (s f)) H'
def kQ (K:W.Frag):TS:=(aQ (aW (aB 1) (Ny (iO K (aB 0) "inside") (aB 2) Dl)) (aX (aB 3)))
def kP (K:W.Frag):TS:=(aQ (aW (tOp (bW K) (iO K (aB 0) "inside") (aB 2)) (aI 3)) (kQ K))
def gI (K:W.Frag):TS:=(aQ (vK K (aB 0) (aU (nU K) [] E0 (aC (iO K (aB 0) "rows") (aC (aB 2) (aC (aB 1) aM)))) "rows") (kP K))
def jR (K:W.Frag):TS:=(aQ (aW (aU (lB K) [] E0 (aC (iO K (aB 0) "rows") (aC (aB 1) (aC (iO K (aB 0) "listed") aM)))) (aI 2)) (gI K))
theorem Few.bb {L:Sd} (F:Few L) (hs:∀ k,k<L.m->s k<L.W) (b:L.Tb s rs):∀ row∈rs,row.length=L.W+1/\∀ x∈row,BB 560 x:=λ row hr=>by
 obtain ⟨q,sm,le⟩:=F.q
 exact ⟨b.w row hr,λ x hx=>(b.bb sm hs row hr x hx).mono le⟩
theorem jl_lt {L:Sd} (w:L.Wf):∀ j∈L.jl,j<L.W+1:=λ j hj=>by
 rcases List.mem_cons.mp hj with rfl | hj
 ·omega
 ·obtain ⟨k,hk,rfl⟩:=mem_map.mp hj
  have:=(w.hs k (List.mem_range.mp hk)).1
  omega
theorem Ul {n k:Nat} (h:k<n):ixN n (k:Int)=some k:=by rw [Ke (by omega) (by omega),Int.toNat_natCast]
theorem Ri {f:Nat}:(List.map V.int (ofF m λ k=>(s k:Int))).set f (.int u)=List.map V.int (ofF m λ k=>(Lpd.sput s f u k:Int)):=by
 rw [← List.map_set,Ua]
 congr 1
 refine fY λ k _=>?_
 unfold Lpd.sput
 split <;> rfl
theorem yB {K vs H Q E} (S:Dh K) (h:eE K vs H Q E):jR K { nx:=λ _ H'=>Q .non H',rt:=Q } (start pE vs) H:=by
 obtain ⟨a,r,i,l,ps,rs,L,s,u,rfl,P,F,o,hs,hu,q⟩:=h
 obtain ⟨dx,ob⟩:=P.ob
 have bb:=F.bb hs P.tb
 have m6:=F.m6
 have w12:=F.w
 rw [show start pE [V.ref a,V.int u]=[some (.ref a),some (.int u),none,none] from rfl]
 (dsimp? [jR,iO])
 refine ⟨_,_,_,ob,S.cl,S.nr,_,wK _ _ _,_,_,_,ob,S.cl,S.nl,_,Hq _ _ _,?_⟩
 refine ⟨r,l,ps,rs,L.jl,u,L.W+1,rfl,SqL.of P.hr,P.hp,λ row hr=>⟨(bb row hr).1,λ x hx=>((bb row hr).2 x hx).mono (by decide)⟩,SqL.of P.hl,by omega,jl_lt F.wf,λ f0 H1 s1 lv=>?_⟩
 obtain ⟨f,kept,rfl,hf,ek,hp,o2⟩:=P.tb.leave F.wf o hs hu lv
 have ob1:=s1 _ _ ob
 (dsimp? [gI,vK,iO];try simp_arith [gI,oV,vK,iO])
 refine ⟨_,_,_,ob1,S.cl,S.nr,_,wK _ _ _,?_⟩
 refine ⟨r,ps,rs,kept,f,u,L.W+1,rfl,s1.seq (SqL.of P.hr),P.hp.same s1,λ row hr=>bb row hr,ek,by omega,by omega,by rw [P.tb.n];exact m6,λ r' qs ts H2 s2 hr' r2 hq2 hn2 rq tl tt=>?_⟩
 have s12:=s1.trans s2
 have ob2:=s12 _ _ ob
 refine ⟨_,_,_,ob2,S.cl,S.nr,by show 3<1000;decide,?_⟩
 rw [Tf]
 have i2:=s12 _ _ P.hi
 have nia:i≠a:=λ z=>by have:=P.hi;rw [z,ob] at this;cases this
 have nra:r'≠a:=λ z=>by rw [z,ob2] at r2;cases r2
 have i3:(upd H2 a (.ins (aR K "Side") dx (sfl r' i l))) i=some (.lst (List.map V.int (ofF L.m λ k=>(s k:Int)))):=by rw [aN nia];exact i2
 have a3:(upd H2 a (.ins (aR K "Side") dx (sfl r' i l))) a=some (.ins (aR K "Side") dx (sfl r' i l)):=aD
 have sb3:Sb a H2 (upd H2 a (.ins (aR K "Side") dx (sfl r' i l))):=Sb.at
 generalize upd H2 a (.ins (aR K "Side") dx (sfl r' i l))=H3 at i3 a3 sb3
 have atf:atI (List.map V.int (ofF L.m λ k=>(s k:Int))) (f:Int)=some (.int (s f)):=cE (by rw [getElem?_map,bT _ hf];rfl)
 (dsimp? [kP,iO])
 refine ⟨_,_,_,a3,S.cl,S.ni,_,pU _ _ _,_,rfl,_,SqL.of i3,_,atf,?_⟩
 (dsimp? [kQ,Ny,Dl,iO])
 refine ⟨_,_,_,a3,S.cl,S.ni,_,pU _ _ _,i,rfl,_,i3,f,Ul (by rw [length_map,aL];exact hf),?_⟩
 rw [Ri]
 have I2:IsI H2 a:=⟨_,_,_,ob2⟩
 have nri:r'≠i:=λ z=>by rw [z,s1 _ _ P.hi] at hr';cases hr'
 have nqi:i∉qs:=λ z=>by have:=hn2 i z;rw [s1 _ _ P.hi] at this;cases this
 refine q f r' qs ts _ hf o2 (s1.free hr') (λ p hp=>s1.free (hn2 p hp)) (λ b ob' e hb hbi=>?_) ⟨⟨dx,?_⟩,?_,?_,aD,?_,Ne.symm nri,nqi,P.il,P.tb.turn o ek hu hp tl tt⟩
 ·rw [aN hbi];exact sb3 _ _ (s12 _ _ e) hb
 ·rw [aN (Ne.symm nia)];exact a3
 ·rw [aN nri];exact sb3 _ _ r2 nra
 ·exact (sb3.rws I2 hq2).put nqi
 ·rw [aN (Ne.symm P.il)];exact sb3.lst I2 (s12 _ _ P.hl)
def Qd:List PySem.Str:=["one", "other"]
def uW (K:W.Frag):Sp:=λ vs H Q _=>∃ p q a b c d,vs=[.ref p,.ref q]/\Tw K H p q a b c d/\0<b/\0<c/\BB 9000 (b*c)/\∀ r H',aE H H'->H' r=some (.tup [.int (lo2 (a*d) (b*c)).1,.int (lo2 (a*d) (b*c)).2])->Q (.ref r) H'
def Gq (K:W.Frag):TS:=(aX (aU (jX K) [] E0 (aC (tOp dH (tOp (dL K) (aB 0) (tC (.int 0))) (tOp (dL K) (aB 1) (tC (.int 1)))) (aC (tOp dH (tOp (dL K) (aB 0) (tC (.int 1))) (tOp (dL K) (aB 1) (tC (.int 0)))) aM))))
theorem len_over {K vs H Q E} (h:uW K vs H Q E):vs.length=2:=by obtain ⟨p,q,a,b,c,d,rfl,_⟩:=h;rfl
theorem Tn {K vs H Q E} (h:uW K vs H Q E):Gq K { nx:=λ _ H'=>Q .non H',rt:=Q } (start Qd vs) H:=by
 obtain ⟨p,q,a,b,c,d,rfl,⟨hp,hq,ba,bb,bc,bd⟩,b0,c0,b9,k⟩:=h
 rw [show start Qd [V.ref p,V.ref q]=[some (.ref p),some (.ref q)] from rfl]
 (dsimp! [Gq,aB,tC,tOp,rI,dH,aX,aU,aC,aM,dL,List.append_nil])
 refine ⟨_,hp,_,kT,_,hq,_,jT,_,rfl,_,rfl,.b ba bd,_,hp,_,jT,_,hq,_,kT,_,rfl,_,rfl,.b bb bc,?_⟩
 have z:0<b*c:=Int.mul_pos b0 c0
 refine ⟨_,_,rfl,by omega,b9,λ x y r H' s h l=>k r H' s ?_⟩
 obtain ⟨e1,e2⟩:=l.uniq z (eY z)
 rw [← e1,← e2];exact h
def Ay:List PySem.Str:=["weights", "total"]
def lE (K:W.Frag):Sp:=λ vs H Q _=>∃ a t ps n X x y,vs=[.ref a,.ref t]/\SqL K H a (List.map V.ref ps)/\aO K H ps (ofF n X)/\SqT K H t [.int x,.int y]/\0<x/\0<y/\BB 4000 x/\BB 4000 y/\(∀ k,k<n->0<(X k).2/\0<=(X k).1/\(X k).1<=(X k).2/\BB 4000 (X k).2)/\n<=100/\∀ l qs H',aE H H'->H' l=some (.lst (List.map V.ref qs))->aO K H' qs (ofF n λ k=>fov (X k) (x,y))->Q (.ref l) H'
def rM (K:W.Frag):TE:=(aU (uW K) [] E0 (aC (aB 0) (aC (aB 1) aM)))
def sQ (K:W.Frag):TS:=(aX (bP (bG K (aB 0)) [1] (rM K)))
theorem len_divided {K vs H Q E} (h:lE K vs H Q E):vs.length=2:=by obtain ⟨_,_,_,_,_,_,_,rfl,_⟩:=h;rfl
theorem Hy {K vs H Q E} (h:lE K vs H Q E):sQ K { nx:=λ _ H'=>Q .non H',rt:=Q } (start Ay vs) H:=by
 obtain ⟨a,t,ps,n,X,x,y,rfl,hS,hf,ht,x0,y0,bx,by4,hX,hn,q⟩:=h
 have hpl:ps.length=n:=by rw [hf.length,aL]
 rw [show start Ay [V.ref a,V.ref t]=[some (.ref a),some (.ref t)] from rfl]
 (dsimp? [sQ,bP,bG])
 refine ⟨⟨_,hS⟩,cT (K:=K) (a:=a) (xs:=List.map V.ref ps) (λ i zs H3=>aE H H3/\∃ qs,zs=List.map V.ref qs/\aO K H3 qs (ofF i λ k=>fov (X k) (x,y))) (by rw [length_map,sizeLine_eq];omega) ⟨aE.refl _,[],rfl,trivial⟩ ?_ ?_ ?_⟩
 ·rintro i zs H3 _ ⟨s3,_⟩
  exact s3.seq hS
 ·rintro i u zs H3 hi _ ⟨s3,qs,rfl,hq⟩
  obtain ⟨p,rfl,hp⟩:=cA hi
  obtain ⟨f,ef,hF⟩:=(hf.same s3).get hp
  obtain ⟨hin,rfl⟩:=dQ ef
  obtain ⟨f2,f1,ff,bf⟩:=hX i hin
  (dsimp? [rM,bJ,List.map_cons,List.map_nil,Option.join_some])
  refine ⟨_,_,_,_,_,_,rfl,⟨hF,s3.tup ht,(iI bf f1 ff).mono (by decide),bf.mono (by decide),bx.mono (by decide),by4.mono (by decide)⟩,f2,x0,(bf.mul bx).mono (by decide),λ r H4 s4 hr=>⟨s3.trans s4,qs++[r],by rw [map_append];rfl,?_⟩⟩
  rw [bR]
  exact aO.snoc (hq.same s4) (SqT.of hr)
 ·rintro zs H3 _ ⟨s3,qs,rfl,hq⟩ l hl
  rw [length_map,hpl] at hq
  exact q l qs _ (s3.trans (aE.upd hl)) aD (hq.same (aE.upd hl))
def Fb:List PySem.Str:=["fractions", "total", "fraction"]
def nV (K:W.Frag):Sp:=λ vs H Q _=>∃ l ps n X M,vs=[.ref l]/\SqL K H l (List.map V.ref ps)/\aO K H ps (ofF n X)/\0<M/\BB 4000 M/\(∀ k,k<n->0<(X k).2/\0<=(X k).1/\(X k).2∣M)/\(rsm n λ k=>va (X k))<=1 /\
 ∀ x y p H',aE H H'->H' p=some (.tup [.int x,.int y])->0<y->0<=x->y∣M->va (x,y)=(rsm n λ k=>va (X k))->Q (.ref p) H'
def Mu (l:Addr) (H0:Hp) (M:Int) (X:Nat->Int×Int):Nat->St->Hp->Prop:=λ i σ H3=>∃ t x y o,σ=[some (.ref l),some (.ref t),o]/\aE H0 H3/\H3 t=some (.tup [.int x,.int y])/\0<y/\0<=x/\y∣M/\va (x,y)=(rsm i λ k=>va (X k))
def tM (K:W.Frag):TS:=(aW (aU (qI K) [] E0 (aC (aB 1) (aC (aB 2) aM))) (aI 1))
def vV (K:W.Frag):TS:=(aQ (aW (fR (aC (tC (.int 0)) (aC (tC (.int 1)) aM))) (aI 1)) (aQ (cH (bG K (aB 0)) (aI 2) (tM K)) (aX (aB 1))))
theorem len_summed {K vs H Q E} (h:nV K vs H Q E):vs.length=1:=by obtain ⟨_,_,_,_,_,rfl,_⟩:=h;rfl
theorem Lp {K vs H Q E} (h:nV K vs H Q E):vV K { nx:=λ _ H'=>Q .non H',rt:=Q } (start Fb vs) H:=by
 obtain ⟨l,ps,n,X,M,rfl,hl,hf,M0,bM,hX,le1,q⟩:=h
 have hpl:ps.length=n:=by rw [hf.length,aL]
 have v0:∀ k,k<n->0<=va (X k):=λ k hk=>hZ (hX k hk).1 (hX k hk).2.1
 rw [show start Fb [V.ref l]=[some (.ref l),none,none] from rfl]
 (dsimp? [vV,cH,bG])
 refine ⟨sz2,λ t ht=>⟨⟨_,(aE.upd ht).seq hl⟩,eA (K:=K) (a:=l) (xs:=List.map V.ref ps) (g:=aI 2) (D:={ nx:=aX (aB 1) { nx:=λ _ H'=>Q .non H',rt:=Q },rt:=Q }) (Mu l H M X) ?_ ?_ ?_ ?_⟩⟩
 ·exact ⟨t,0,1,none,rfl,aE.upd ht,aD,by decide,by decide,Int.one_dvd _,qH⟩
 ·rintro i σ H3 _ ⟨_,_,_,_,_,s3,_⟩
  exact s3.seq hl
 ·rintro i x σ H3 hi ⟨t,x,y,o,rfl,s3,hT,y0,x0,dM,e⟩
  obtain ⟨p,rfl,hp⟩:=cA hi
  obtain ⟨f,ef,hF⟩:=(hf.same s3).get hp
  obtain ⟨hin,rfl⟩:=dQ ef
  obtain ⟨f2,f1,fM⟩:=hX i hin
  have m1:=qY (f:=λ k=>va (X k)) (i:=i) (n:=n) (by omega) v0
  have m2:=qY (f:=λ k=>va (X k)) (i:=i+1) (n:=n) (by omega) v0
  have m3:rsm (i+1) (λ k=>va (X k))=rsm i (λ k=>va (X k))+va (X i):=rfl
  have m4:=lH (f:=λ k=>va (X k)) (n:=i) λ k hk=>v0 k (by omega)
  have xy:x<=y:=Bf (f:=(x,y)) y0 (by rw [e];grind)
  have ff:(X i).1<=(X i).2:=Bf f2 (by grind)
  have by4:=Bp bM M0 dM
  have bf4:=Bp bM M0 fM
  have z:=Int.mul_pos y0 f2
  (dsimp? [tM])
  refine ⟨_,_,_,_,_,_,rfl,⟨SqT.of hT,hF,(iI by4 x0 xy).mono (by decide),by4.mono (by decide),(iI bf4 f1 ff).mono (by decide),bf4.mono (by decide)⟩,y0,f2,(by4.mul bf4).mono (by decide),λ r H4 s4 hr=>?_⟩
  refine ⟨r,_,_,_,rfl,s3.trans s4,hr,(eY z).pos,lK z (Int.add_nonneg (Int.mul_nonneg x0 (Int.le_of_lt f2)) (Int.mul_nonneg f1 (Int.le_of_lt y0))),Sy (f:=(x,y)) y0 f2 dM fM,?_⟩
  show va (lo2 (x*(X i).2+(X i).1*y) (y*(X i).2))=_
  rw [m3,← e]
  exact Ot (f:=(x,y)) y0 f2
 ·rintro σ H3 ⟨t,x,y,o,rfl,s3,hT,y0,x0,dM,e⟩
  (dsimp! [aB,tC,tOp,rI0,rNe,cI,aX,bA])
  rw [length_map,hpl] at e
  exact q x y t H3 s3 hT y0 x0 dM e
def pD:List PySem.Str:=["self", "labels", "found", "row", "label", "chances"]
def iM (K:W.Frag):Sp:=λ vs H Q _=>∃ (a r i l b:Addr) (ps:List Addr) (rs:List (List Int)) (L:Sd) (s:Nat->Nat) (lo n:Nat),vs=[.ref a,.ref b]/\qA K H a r i l ps rs L s/\Few L/\L.Okx s/\(∀ k,k<L.m->s k<L.W)/\H b=some (.lst (List.map V.int (fS lo n)))/\n<=6/\(rsm n λ k=>va (xf L s lo k))<=1/\0<(rsm n λ k=>va (xf L s lo k)) /\
 ∀ c qs f H',aE H H'->H' c=some (.lst (List.map V.ref qs))->aO K H' qs (ofF n f)->Gi L s lo n f->Q (.ref c) H'
def FdAt (H:Hp) (d:Addr) (L:Sd) (s:Nat->Nat) (i:Nat):Prop:=∃ kvs:List (Key×V),H d=some (.dK kvs)/\kvs.length<=i/\(∀ k,k<i->∃ p,dR kvs (.inl (s k:Int))=some (.ref p)/\H p=some (.tup [.int (lo2 (L.T s k L.be) (L.D s)).1,.int (lo2 (L.T s k L.be) (L.D s)).2]))/\∀ x:Nat,(∀ k,k<i->s k≠x)->dR kvs (.inl (x:Int))=none
def gG (K:W.Frag):TS:=(aX (aU (lE K) [] E0 (aC (aB 5) (aC (aU (nV K) [] E0 (aC (aB 5) aM)) aM))))
def kN (K:W.Frag):TE:=(Gv (aB 1) (aB 0) (fR (aC (tC (.int 0)) (aC (tC (.int 1)) aM))))
def eI (K:W.Frag):TS:=(aQ (aW (bP (bG K (aB 1)) [2] (kN K)) (aI 5)) (gG K))
def kO (K:W.Frag):TS:=(oJ (aB 2) (aB 4) (aU (jX K) [] E0 (aC (tOp (bW K) (aB 3) (tUn vP (tC (.int 1)))) (aC (tOp (bW K) (aB 3) (aB 4)) aM))))
def gH (K:W.Frag):TG:=(oH K 2 (cO (aI 3) (cO (aI 4) oI)))
def kM (K:W.Frag):TS:=(aQ (cH (Ge K (aC (iO K (aB 0) "rows") (aC (iO K (aB 0) "inside") aM))) (gH K) (kO K)) (eI K))
def jQ (K:W.Frag):TS:=(aQ (aW Gu (aI 2)) (kM K))
theorem Lo.scale {t b k:Int} (hk:0<k) (h:Lo t b x y):Lo (k*t) (k*b) x y:=by
 refine ⟨h.pos,h.cop,?_,?_,?_⟩
 ·have:=h.eq;grind
 ·rw [Int.natAbs_mul];exact Nat.le_trans h.bx (Nat.le_mul_of_pos_left _ (by omega))
 ·rw [Int.natAbs_mul];exact Nat.le_trans h.by_ (Nat.le_mul_of_pos_left _ (by omega))
theorem Re {b:Int} (hb:0<b):lo2 0 b=(0,1):=(Lo.is hb ⟨by decide,by decide,by omega,by decide,by omega⟩).symm
theorem Ue {t b:Int} (hb:0<b):(lo2 t b).2∣b:=by
 obtain ⟨q,r,h1,h2,h3,h4⟩:=oC (t:=t) (b:=b) (by omega)
 have e:(lo2 t b).2=r:=by
  show b.fdiv (Int.gcd t b:Nat)=r
  conv=>lhs;lhs;rw [h2]
  exact Int.mul_fdiv_cancel_left _ (by omega)
 rw [e]
 exact ⟨_,h2.trans (Int.mul_comm _ _)⟩
theorem Lx {K:W.Frag} {L:Sd} {n:Nat} {c:Addr} {qs:List Addr} {o0 o1 o2 o3 o4:Option V} {D:gQ} (F:Few L) (o:L.Okx s) (hs:∀ k,k<L.m->s k<L.W) (n6:n<=6) (le:(rsm n λ k=>va (xf L s lo k))<=1) (ps:0<(rsm n λ k=>va (xf L s lo k))) (hc:H c=some (.lst (List.map V.ref qs))) (hf:aO K H qs (ofF n (xf L s lo)))
  (k:∀ c qs f H',aE H H'->H' c=some (.lst (List.map V.ref qs))->aO K H' qs (ofF n f)->Gi L s lo n f->D.rt (.ref c) H'):gG K D [o0,o1,o2,o3,o4,some (.ref c)] H:=by
 obtain ⟨q,sm,ql⟩:=F.q
 have hD:=o.pos
 have bD:=(sm.D hs).mono ql
 have x0:∀ k,0<(xf L s lo k).2/\0<=(xf L s lo k).1/\(xf L s lo k).2∣L.D s:=λ k=>⟨(eY hD).pos,lK hD (Sd.X_nonneg o _),Ue hD⟩
 (dsimp? [gG])
 refine ⟨c,qs,n,xf L s lo,L.D s,rfl,SqL.of hc,hf,hD,bD.mono (by decide),λ k _=>x0 k,le,λ x y p H1 s1 hp y0 xx0 dv e=>?_⟩
 have xp:0<x:=Classical.byContradiction λ z=>by
  have:x=0:=by omega
  rw [this] at e
  have:va (0,y)=0:=by unfold va;grind
  grind
 have xy:x<=y:=Bf (f:=(x,y)) y0 (by rw [e];exact le)
 have by_:=Bp bD hD dv
 have bx:=iI by_ (by omega) xy
 have xl:∀ k,k<n->(xf L s lo k).1<=(xf L s lo k).2/\BB 560 (xf L s lo k).2:=λ k hk=>by
  refine ⟨Bf (x0 k).1 ?_,Bp bD hD (x0 k).2.2⟩
  have:=wL (f:=λ k=>va (xf L s lo k)) hk λ j _=>hZ (x0 j).1 (x0 j).2.1
  grind
 refine ⟨c,p,qs,n,xf L s lo,x,y,rfl,s1.seq (SqL.of hc),hf.same s1,SqT.of hp,xp,y0,bx.mono (by decide),by_.mono (by decide),λ k hk=>⟨(x0 k).1,(x0 k).2.1,(xl k hk).1,(xl k hk).2.mono (by decide)⟩,by omega,λ c' qs' H2 s2 hc2 hf2=>k c' qs' _ H2 (s1.trans s2) hc2 hf2 ⟨λ k hk=>?_,λ k hk=>?_⟩⟩
 ·have z:=Int.mul_pos (x0 k).1 xp
  have l:=eY (t:=(xf L s lo k).1*y) z
  have b1:=iI (xl k hk).2 (x0 k).2.1 (xl k hk).1
  exact ⟨l.pos,lK z (Int.mul_nonneg (x0 k).2.1 (by omega)),l.cop,((b1.mul by_).of_le l.bx).mono (by decide),(((xl k hk).2.mul bx).of_le l.by_).mono (by decide)⟩
 ·rw [va_fov (x0 k).1 y0 xp,e]
theorem Rp {n:Nat} {x:V} (h:(List.map V.int (fS lo n))[i]?=some x):i<n/\x=.int ((lo+i:Nat):Int):=by
 have hi:i<n:=by
  have:=(List.getElem?_eq_some_iff.mp h).1
  rwa [length_map,cW] at this
 rw [getElem?_map,Ei hi] at h
 exact ⟨hi,(Option.some.inj h).symm⟩
theorem Lw {K:W.Frag} {L:Sd} {n:Nat} {b:Addr} {o0 o3 o4:Option V} {D:gQ} (F:Few L) (o:L.Okx s) (hs:∀ k,k<L.m->s k<L.W) (n6:n<=6) (le:(rsm n λ k=>va (xf L s lo k))<=1) (ps:0<(rsm n λ k=>va (xf L s lo k))) (hb:H b=some (.lst (List.map V.int (fS lo n)))) (fd:FdAt H d L s L.m)
  (k:∀ c qs f H',aE H H'->H' c=some (.lst (List.map V.ref qs))->aO K H' qs (ofF n f)->Gi L s lo n f->D.rt (.ref c) H'):eI K D [o0,some (.ref b),some (.ref d),o3,o4,none] H:=by
 obtain ⟨kvs,hd,kl,h1,h2⟩:=fd
 (dsimp? [eI,bP,bG])
 refine ⟨⟨_,SqL.of hb⟩,cT (K:=K) (a:=b) (xs:=List.map V.int (fS lo n)) (λ i zs H3=>aE H H3/\∃ qs,zs=List.map V.ref qs/\aO K H3 qs (ofF i (xf L s lo))) (by rw [length_map,cW,sizeLine_eq];omega) ⟨aE.refl _,[],rfl,trivial⟩ ?_ ?_ ?_⟩
 ·rintro i zs H3 _ ⟨s3,_⟩
  exact s3.seq (SqL.of hb)
 ·rintro i x zs H3 hi _ ⟨s3,qs,rfl,hq⟩
  obtain ⟨hin,rfl⟩:=Rp hi
  (dsimp? [kN,Gv,bJ,List.map_cons,List.map_nil,Option.join_some])
  refine ⟨.inl ⟨kvs,.inl (s3 _ _ hd)⟩,sz2,λ p hp=>⟨_,mH.k (k:=.inl ((lo+i:Nat):Int)) (aE.upd hp _ _ (s3 _ _ hd)),?_⟩⟩
  have s4:aE H3 (upd H3 p (.tup [.int 0,.int 1])):=aE.upd hp
  by_cases e:∃ k,k<L.m/\s k=lo+i
  ·obtain ⟨k',hk',ek⟩:=e
   obtain ⟨c,ec,hc⟩:=h1 k' hk'
   rw [ek] at ec
   rw [ec]
   refine ⟨s3.trans s4,qs++[c],by rw [map_append];rfl,?_⟩
   rw [bR]
   refine aO.snoc (hq.same s4) (SqT.of (s4 _ _ (s3 _ _ ?_)))
   unfold xf
   rw [← ek,Sd.X_in o hk'];exact hc
  ·rw [h2 (lo+i) λ k hk z=>e ⟨k,hk,z⟩]
   refine ⟨s3.trans s4,qs++[p],by rw [map_append];rfl,?_⟩
   rw [bR]
   refine aO.snoc (hq.same s4) (SqT.of ?_)
   unfold xf
   rw [Sd.X_out λ ⟨k,hk,z⟩=>e ⟨k,hk,z⟩,Re o.pos];exact aD
 ·rintro zs H3 _ ⟨s3,qs,rfl,hq⟩ l hl
  rw [length_map,cW] at hq
  exact Lx F o hs n6 le ps aD (hq.same (aE.upd hl)) λ c qs f H' s'=>k c qs f H' ((s3.trans (aE.upd hl)).trans s')
theorem xZ {K vs H Q E} (S:Dh K) (h:iM K vs H Q E):jQ K { nx:=λ _ H'=>Q .non H',rt:=Q } (start pD vs) H:=by
 obtain ⟨a,r,i,l,b,ps,rs,L,s,lo,n,rfl,P,F,o,hs,hb,n6,le,pos,q⟩:=h
 obtain ⟨dx,ob⟩:=P.ob
 have bb:=F.bb hs P.tb
 have m6:=F.m6
 have pl:=P.hp.length
 have tn:=P.tb.n
 rw [show start pD [V.ref a,V.ref b]=[some (.ref a),some (.ref b),none,none,none,none] from rfl]
 (dsimp? [jQ,Gu])
 intro d hd
 have s1:aE H (upd H d (.dK [])):=aE.upd hd
 have d1:(upd H d (.dK [])) d=some (.dK []):=aD
 generalize upd H d (.dK [])=H1 at s1 d1
 have ob1:=s1 _ _ ob
 (dsimp? [kM,cH,Ge,iO])
 refine ⟨_,_,_,ob1,S.cl,S.nr,_,wK _ _ _,_,_,_,ob1,S.cl,S.ni,_,pU _ _ _,r,rfl,i,rfl,⟨_,SqL.of (s1 _ _ P.hr)⟩,⟨_,SqL.of (s1 _ _ P.hi)⟩,Ur (K:=K) (a:=r) (b:=i) (xs:=List.map V.ref ps) (ys:=List.map V.int (ofF L.m λ k=>(s k:Int))) (g:=gH K) (D:={ nx:=eI K { nx:=λ _ H'=>Q .non H',rt:=Q },rt:=Q }) (λ j σ H3=>∃ o1 o2,σ=[some (.ref a),some (.ref b),some (.ref d),o1,o2,none]/\aE H H3/\FdAt H3 d L s j) ⟨none,none,rfl,s1,[],d1,Nat.le_refl _,(λ k hk=>absurd hk (Nat.not_lt_zero _)),λ _ _=>rfl⟩ ?_ ?_ ?_ ?_⟩
 ·rintro j σ H3 _ ⟨_,_,_,s3,_⟩
  exact ⟨s3.seq (SqL.of P.hr),s3.seq (SqL.of P.hi)⟩
 ·rw [length_map,length_map,aL,pl,tn]
 ·rintro j x y p σ H3 hx hy ⟨o1,o2,rfl,s3,kvs,hd3,kl,h1,h2⟩ hp
  obtain ⟨z,rfl,hz⟩:=cA hx
  obtain ⟨v,rfl,hv⟩:=jZ hy
  obtain ⟨hj,rfl⟩:=dQ hv
  obtain ⟨row,er,hrow⟩:=P.hp.get hz
  have rl:=bb row (mem_of_getElem? er)
  have sj:=hs j hj
  obtain ⟨k,k0,ek⟩:=P.tb.k j row er
  have e1:=ek (s j) (by omega)
  rw [Sd.cw_at sj,Sd.own hj] at e1
  have e2:=ek L.W (Nat.le_refl _)
  rw [Sd.cw_last] at e2
  have p1:0<row.getD (s j) 0:=Dm (by rw [← e1];exact o.pos) k0
  have s4:aE H3 (upd H3 p (.tup [.ref z,.int (s j)])):=aE.upd hp
  have t4:(upd H3 p (.tup [.ref z,.int (s j)])) p=some (.tup [.ref z,.int (s j)]):=aD
  generalize upd H3 p (.tup [.ref z,.int (s j)])=H4 at s4 t4
  have s04:=s3.trans s4
  (dsimp? [gH])
  refine ⟨_,SqT.of t4,rfl,_,_,rfl,_,_,rfl,rfl,?_⟩
  (dsimp? [kO,oJ])
  refine ⟨_,SqL.of (s04 _ _ hrow),_,wV (x:=V.int (row.getD L.W 0)) ?_,_,SqL.of (s04 _ _ hrow),_,fF (i:=s j) (by omega),?_⟩
  ·rw [length_map,rl.1,getElem?_map,Nat.add_sub_cancel,wR (by omega)];rfl
  ·refine ⟨_,_,rfl,by omega,(rl.2 _ (gX (by omega))).mono (by decide),λ x y p5 H5 s5 hp5 lo5=>?_⟩
   have hd5:=s5 _ _ (s4 _ _ hd3)
   have lo6:(x,y)=lo2 (L.T s j L.be) (L.D s):=by
    have:=Lo.scale k0 lo5
    rw [← e1,← e2] at this
    exact this.is o.pos
   refine ⟨_,vM.k (k:=.inl (s j:Int)) hd5 (by rw [sizeLine_eq];omega),((s04.trans s5).put hd),_,aD,?_,λ k' hk'=>?_,λ x' hx'=>?_⟩
   ·have:=gZ kvs (.inl (s j:Int)) (V.ref p5)
    omega
   ·rw [qR]
    by_cases e:(Sum.inl ((s k':Nat):Int):Key)=Sum.inl ((s j:Nat):Int)
    ·have e':s k'=s j:=by injection e with e;omega
     have:k'=j:=o.inj (by omega) hj e'
     rw [if_pos e,this]
     refine ⟨p5,rfl,?_⟩
     rw [aN (eK hp5 hd5 (by intro z;cases z)),← lo6];exact hp5
    ·rw [if_neg e]
     obtain ⟨c,ec,hc⟩:=h1 k' (Classical.byContradiction λ w=>e (by rw [show k'=j by omega]))
     have hc5:=s5 _ _ (s4 _ _ hc)
     exact ⟨c,ec,by rw [aN (eK hc5 hd5 (by intro z;cases z))];exact hc5⟩
   ·rw [qR,if_neg (λ z=>hx' j (by omega) (by injection z with z;omega))]
    exact h2 x' λ k hk=>hx' k (by omega)
 ·rintro σ H3 ⟨o1,o2,rfl,s3,fd⟩
  rw [length_map,pl,tn] at fd
  exact Lw F o hs n6 le pos (s3 _ _ hb) fd λ c qs f H' s'=>q c qs f H' (s3.trans s')
def Ck:List PySem.Str:=["table", "sizes", "labels", "sides", "label", "turn"]
def qW (K:W.Frag):Sp:=λ vs H Q E=>∃ t:Addr,vs=[.ref t]/\((∃ (m0 m1 n p r:Nat) (e:List Nat->Nat->Int×Int),Bd K H t [m0,m1] e/\T2 e m0 m1 n p r/\∀ c q0 q1 us0 us1 f H',aE H H'->H' c=some (.lst [.ref q0,.ref q1])->H' q0=some (.lst (List.map V.ref us0))->aO K H' us0 (ofF m0 (f 0))->H' q1=some (.lst (List.map V.ref us1))->aO K H' us1 (ofF m1 (f 1))->Eq2 e m0 m1 f->Q (.ref c) H') ∨
 ∃ (ns:List Nat) (cont:List Nat->List V),jV K H t ns cont/\ns.length=3/\∀ H',aE H H'->E (.ref (aR K "NotTwo")) none H')
def xC (K:W.Frag) (E:XK):TE:=(eN (aR K "Side") "mixing" (iM K) [] E0 (aB 0) (aC (aB 1) aM))
def xB (K:W.Frag) (E:XK):TG:=(oH K 2 (cO (aI 0) (cO (aI 1) oI)))
def pP (K:W.Frag) (E:XK):TS:=(aX (mJ (Ge K (aC (aB 3) (aC (aB 2) aM))) 2 [] (xB K E) (xC K E)))
def xA (K:W.Frag) (E:XK):TS:=(aW (tOp qD (tC (.int 1)) (aB 5)) (aI 5))
def xD (K:W.Frag) (E:XK):TS:=(aQ (aW (eN (aR K "Side") "let_in" (eE K) [] E0 (tOp (bW K) (aB 3) (aB 5)) (aC (aB 4) aM)) (aI 4)) (xA K E))
def wZ (K:W.Frag) (E:XK):TS:=(aQ (rZ (bA (tOp rNe (aB 4) (tC (.int 0)))) (xD K E)) (pP K E))
def wY (K:W.Frag) (E:XK):TS:=(aQ (aW (tC (.int 1)) (aI 5)) (wZ K E))
def wX (K:W.Frag) (E:XK):TS:=(aQ (aW (eN (aR K "Side") "let_in" (eE K) [] E0 (tOp (bW K) (aB 3) (tC (.int 0))) (aC (tC (.int 0)) aM)) (aI 4)) (wY K E))
def pO (K:W.Frag) (E:XK):TS:=(aQ (aW (jC (aC (aU (fG K) [] E0 (aC (aB 0) (aC (tC (.int 1)) (aC (tOp (bW K) (aB 2) (tC (.int 1))) aM)))) (aC (aU (fG K) [] E0 (aC (aB 0) (aC (tC (.int 0)) (aC (tOp (bW K) (aB 2) (tC (.int 0))) aM)))) aM))) (aI 3)) (wX K E))
def wW (K:W.Frag) (E:XK):TS:=(aQ (aW (jC (aC (Dk (tOp (bW K) (aB 1) (tC (.int 0)))) (aC (Gs (aC (tOp (bW K) (aB 1) (tC (.int 0))) (aC (tCB (Sr K) (aC (aB 1) aM)) aM))) aM))) (aI 2)) (pO K E))
def pN (K:W.Frag) (E:XK):TS:=(aQ (dU (bA (tOp rNe (tCB (lZ K) (aC (aB 1) aM)) (tC (.int 2)))) (Gr E (.ref (aR K "NotTwo")) (aC (tC (.str "a point is told of two hands")) aM)) bS) (wW K E))
def uS (K:W.Frag) (E:XK):TS:=(aQ (aW (eN (aR K "Table") "sizes" (cU K) [] E0 (aB 0) aM) (aI 1)) (pN K E))
theorem bB.mono:∀ {ps:List Addr} {rs:List (List Int)},(∀ p∈ps,∀ o,H p=some o->H' p=some o)->bB H ps rs->bB H' ps rs
 | [],[],_,_=>trivial
 | _::_,_::_,k,h=>⟨k _ mem_cons_self _ h.1,bB.mono (λ p hp=>k p (mem_cons_of_mem _ hp)) h.2⟩
 | [],_::_,_,h=>h.elim
 | _::_,[],_,h=>h.elim
theorem qA.same {K:W.Frag} {r i l:Addr} {L:Sd} (h:qA K H a r i l ps rs L s) (e:aE H H'):qA K H' a r i l ps rs L s:=⟨let ⟨dx,o⟩:=h.ob;⟨dx,e _ _ o⟩,e _ _ h.hr,h.hp.same e,e _ _ h.hi,e _ _ h.hl,h.ir,h.ip,h.il,h.tb⟩
structure Tw2 (K:W.Frag) (H:Hp) (a i:Nat->Addr) (L:Nat->Sd) (s:Nat->Nat->Nat):Prop where
 p:∀ t,t<=1->∃ r l ps rs,qA K H (a t) r (i t) l ps rs (L t) (s t)/\a (1 - t)≠r/\a (1 - t)≠l/\a (1 - t)∉ps/\i (1 - t)≠r/\i (1 - t)≠l/\i (1 - t)∉ps
 d:∀ t,t<=1->a t≠a (1 - t)/\a t≠i (1 - t)/\i t≠i (1 - t)
theorem Tw2.same {K:W.Frag} {a i:Nat->Addr} {L:Nat->Sd} {s:Nat->Nat->Nat} (h:Tw2 K H a i L s) (e:aE H H'):Tw2 K H' a i L s:=⟨λ t ht=>let ⟨r,l,ps,rs,P,q⟩:=h.p t ht;⟨r,l,ps,rs,P.same e,q⟩,h.d⟩
theorem Tw2.step {K:W.Frag} {a i:Nat->Addr} {L:Nat->Sd} {s:Nat->Nat->Nat} {t f:Nat} {l r':Addr} {ps':List Addr} {rs':List (List Int)} (h:Tw2 K H a i L s) (ht:t<=1) (hl:a (1 - t)≠l/\i (1 - t)≠l) (nr:H r'=none) (np:∀ p∈ps',H p=none) (k:∀ b o,H b=some o->b≠a t->b≠i t->H' b=some o) (P:qA K H' (a t) r' (i t) l ps' rs' (L t) (Lpd.sput (s t) f u)):Tw2 K H' a i L (up s t f u):=by
 refine ⟨λ t' ht'=>?_,h.d⟩
 obtain ⟨d1,d2,d3⟩:=h.d (1 - t) (by omega)
 rw [show 1 - (1 - t)=t by omega] at d1 d2 d3
 obtain ⟨r1,l1,ps1,rs1,P1,q1,q2,q3,q4,q5,q6⟩:=h.p (1 - t) (by omega)
 rw [show 1 - (1 - t)=t by omega] at q1 q2 q3 q4 q5 q6
 obtain ⟨dx1,ob1⟩:=P1.ob
 by_cases e:t'=t
 ·rw [e,Dj]
  refine ⟨r',l,ps',rs',P,λ z=>?_,hl.1,λ z=>?_,λ z=>?_,hl.2,λ z=>?_⟩
  ·rw [← z,ob1] at nr;cases nr
  ·have:=np _ z;rw [ob1] at this;cases this
  ·rw [← z,P1.hi] at nr;cases nr
  ·have:=np _ z;rw [P1.hi] at this;cases this
 ·have e1:t'=1 - t:=by omega
  rw [e1,Bg (by omega),show 1 - (1 - t)=t by omega]
  have dd:=(h.d t ht).2.1
  refine ⟨r1,l1,ps1,rs1,⟨⟨dx1,k _ _ ob1 d1 d2⟩,k _ _ P1.hr (Ne.symm q1) (Ne.symm q4),P1.hp.mono λ p hp o e=>k _ _ e (λ z=>q3 (by rw [← z];exact hp)) (λ z=>q6 (by rw [← z];exact hp)),k _ _ P1.hi (Ne.symm dd) d3,k _ _ P1.hl (Ne.symm q2) (Ne.symm q5),P1.ir,P1.ip,P1.il,P1.tb⟩,q1,q2,q3,q4,q5,q6⟩
structure Sw (L:Nat->Sd) (M:Nat) (s:Nat->Nat->Nat):Prop where
 ok:∀ t,t<=1->(L t).Okx (s t)
 lt:∀ t k,t<=1->k<(L t).m->s t k<M
 cm:∀ l,l<M->(L 0).X (s 0) l=0∨(L 1).X (s 1) l=0
 z0:∃ l,l<(L 1).m/\(L 0).X (s 0) l≠0
 z1:∃ l,(L 1).m<=l/\l<M/\(L 1).X (s 1) l≠0
structure Pt2 (L:Nat->Sd) (M:Nat):Prop where
 few:∀ t,t<=1->Few (L t)/\(L t).W=M
 a:∀ x,(L 0).In (L 0).sp x↔(L 1).m<=x/\x<M
 b:∀ x,(L 1).In (L 1).sp x↔x<(L 1).m
 m1:1<=(L 1).m
theorem Kb {K:W.Frag} {a i:Nat->Addr} {L:Nat->Sd} {s:Nat->Nat->Nat} {t:Nat} {Q:VK} (B:Pt2 L M) (h:Lh L M s u t vs) (w:Tw2 K H a i L s) (sG:aE G H) (na:∀ t,t<=1->G (a t)=none/\G (i t)=none)
  (k:∀ g s' H',aE G H'->Tw2 K H' a i L s'->((g≠0/\Lh L M s' g (1 - t) (oG L s u t::vs))∨(g=0/\Sw L M s'))->Q (.int (g:Nat)) H'):eE K [.ref (a t),.int u] H Q E:=by
 have t1:=h.t1
 obtain ⟨fw,eW⟩:=B.few t t1
 obtain ⟨r,l,ps,rs,P,q1,q2,q3,q4,q5,q6⟩:=w.p t t1
 refine ⟨a t,r,i t,l,ps,rs,L t,s t,u,rfl,P,fw,h.ok t t1,λ k hk=>by rw [eW];exact h.lt t k t1 hk,by rw [eW];exact h.um,λ f r' ps' rs' H' hf o nr np kp P'=>k (s t f) (up s t f u) H' (λ b o e=>kp b o (sG b o e) (λ z=>by rw [z,(na t t1).1] at e;cases e) (λ z=>by rw [z,(na t t1).2] at e;cases e)) (w.step t1 ⟨q2,q5⟩ nr np kp P') ?_⟩
 by_cases e:s t f=0
 ·right
  obtain ⟨c1,c2,c3⟩:=h.done hf o e B.a B.b B.m1
  obtain ⟨k1,k2⟩:=h.okup o
  exact ⟨e,k1,k2,c1,c2,c3⟩
 ·exact .inl ⟨e,h.step hf o e⟩
theorem Fo {K:W.Frag} {t sd:Addr} {a i:Nat->Addr} {m0 m1 n r:Nat} {z:Nat->Int} {s:Nat->Nat->Nat} {v4 v5:Option V} {D:gQ} (T:T2 e m0 m1 n p r) (mn:∀ h,h<=1->Mnf (fB e m0 m1 h) (z h)) (w:Tw2 K H a i (λ t=>sdh e m0 m1 (1 - t) (z (1 - t))) s) (en:Sw (λ t=>sdh e m0 m1 (1 - t) (z (1 - t))) (m0+m1) s)
  (hs:H sd=some (.lst [.ref (a 0),.ref (a 1)])) (hlb:H lb=some (.lst [.ref o0,.ref o1])) (h0:H o0=some (.lst (List.map V.int (fS 0 m0)))) (h1:H o1=some (.lst (List.map V.int (fS m0 m1))))
  (k:∀ c q0 q1 us0 us1 f H',aE H H'->H' c=some (.lst [.ref q0,.ref q1])->H' q0=some (.lst (List.map V.ref us0))->aO K H' us0 (ofF m0 (f 0))->H' q1=some (.lst (List.map V.ref us1))->aO K H' us1 (ofF m1 (f 1))->Eq2 e m0 m1 f->D.rt (.ref c) H'):pP K E D [some (.ref t),some (.ref sl),some (.ref lb),some (.ref sd),v4,v5] H:=by
 have hz:∀ h,h<=1->∃ j,j<two m1 m0 h/\(sdh e m0 m1 h (z h)).X (s (1 - h)) (olb m0 h j)≠0:=λ h hh=>by
  rcases (show h=0∨h=1 by omega) with rfl | rfl
  ·obtain ⟨l,l1,l2,l3⟩:=en.z1
   rw [show (sdh e m0 m1 (1 - 1) (z (1 - 1))).m=m0 from gS] at l1
   exact ⟨l - m0,by show l - m0<m1;omega,by rw [show olb m0 0 (l - m0)=l from by show m0+(l - m0)=l;omega];exact l3⟩
  ·obtain ⟨l,l1,l2⟩:=en.z0
   rw [show (sdh e m0 m1 (1 - 1) (z (1 - 1))).m=m0 from gS] at l1
   exact ⟨l,l1,l2⟩
 have ww:∀ h,h<=1->1 - (1 - h)=h:=λ h hh=>by omega
 have ok:∀ h,h<=1->(sdh e m0 m1 h (z h)).Okx (s (1 - h)):=λ h hh=>by have:=en.ok (1 - h) (by omega);simp only [ww h hh] at this;exact this
 have lt:∀ h k,h<=1->k<(sdh e m0 m1 h (z h)).m->s (1 - h) k<m0+m1:=λ h k hh hk=>en.lt (1 - h) k (by omega) (by simp only [ww h hh];exact hk)
 have tw:∀ h,h<=1->two m1 m0 (1 - h)=two m0 m1 h:=λ h hh=>by rcases (show h=0∨h=1 by omega) with rfl | rfl <;> rfl
 (dsimp? [pP,mJ,Ge])
 refine ⟨⟨_,SqL.of hs⟩,⟨_,SqL.of hlb⟩,Af (K:=K) (a:=sd) (b:=lb) (xs:=[.ref (a 0),.ref (a 1)]) (ys:=[.ref o0,.ref o1]) (λ j zs H3=>aE H H3/\∃ qs:List Addr,zs=List.map V.ref qs/\qs.length=j/\∀ (k:Nat) q,qs[k]?=some q->∃ us f,H3 q=some (.lst (List.map V.ref us))/\aO K H3 us (ofF (two m0 m1 k) f)/\Gi (sdh e m0 m1 (1 - k) (z (1 - k))) (s k) (two m0 0 (1 - k)) (two m0 m1 k) f) (sz2) rfl ⟨aE.refl _,[],rfl,rfl,λ k q e=>by simp at e⟩ ?_ ?_ ?_⟩
 ·rintro j zs H3 _ ⟨s3,_⟩
  exact ⟨s3.seq (SqL.of hs),s3.seq (SqL.of hlb)⟩
 ·rintro j x y pp zs H3 hx hy _ ⟨s3,qs,rfl,ql,qa⟩ hpp os ho
  have hj:j<=1:=by have:=(List.getElem?_eq_some_iff.mp hx).1;simp at this;omega
  obtain rfl:x=.ref (a j):=by rcases (show j=0∨j=1 by omega) with rfl | rfl <;> exact (Option.some.inj hx).symm
  obtain ⟨ob,rfl,hob⟩:∃ ob,y=.ref ob/\H ob=some (.lst (List.map V.int (fS (two m0 0 (1 - j)) (two m0 m1 j)))):=by
   rcases (show j=0∨j=1 by omega) with rfl | rfl
   ·exact ⟨o0,(Option.some.inj hy).symm,h0⟩
   ·exact ⟨o1,(Option.some.inj hy).symm,h1⟩
  obtain ⟨q1,q2,rfl⟩:∃ o1 o2,os=[o1,o2]:=by
   match os,ho with
   | [o1,o2],_=>exact ⟨o1,o2,rfl⟩
  have s6:=s3.trans (aE.upd (o:=HO.tup [.ref (a j),.ref ob]) hpp)
  obtain ⟨r1,l1,ps1,rs1,P,_⟩:=w.p j hj
  obtain ⟨dx,obj⟩:=P.ob
  obtain ⟨fw,eW,_⟩:=Bt T (show 1 - j<=1 by omega) (mn (1 - j) (by omega))
  have yy:=ys_le T (show 1 - j<=1 by omega) (mn (1 - j) (by omega)) (by have:=ok (1 - j) (by omega);rwa [ww j hj] at this) (λ k hk=>by have:=lt (1 - j) k (by omega) hk;rwa [ww j hj] at this) (by have:=hz (1 - j) (by omega);rwa [ww j hj] at this)
  rw [tw j hj] at yy
  (dsimp? [xB])
  refine ⟨_,SqT.of aD,rfl,_,_,rfl,_,_,rfl,rfl,⟨[some (.ref (a j)),some (.ref ob)],rfl,rfl⟩,?_⟩
  have hl6:two m0 m1 j<=6:=(T.le j).2.1
  (dsimp? [xC,eN,bJ,List.map_nil])
  refine ⟨dx,_,s6 _ _ obj,rfl,_,_,_,_,_,_,_,_,_,two m0 0 (1 - j),two m0 m1 j,rfl,P.same s6,fw,en.ok j hj,λ k hk=>by rw [eW];exact en.lt j k hj hk,s6 _ _ hob,hl6,yy.1,yy.2.1,λ c us f H7 s7 hc hf mx=>?_⟩
  refine ⟨s6.trans s7,qs++[c],by rw [map_append];rfl,by rw [length_append,ql];rfl,λ k q e=>?_⟩
  rcases Ed e with ⟨e1,_⟩ | ⟨ek,rfl⟩
  ·obtain ⟨us',f',a1,a2,a3⟩:=qa k q e1
   have s37:=(aE.upd (o:=HO.tup [.ref (a j),.ref ob]) hpp).trans s7
   exact ⟨us',s37 _ _ a1,f',a2.same s37,a3⟩
  ·rw [ek,ql];exact ⟨us,hc,f,hf,mx⟩
 ·rintro zs H3 _ ⟨s3,qs,rfl,ql,qa⟩ c hc
  obtain ⟨q0,q1,rfl⟩:∃ q0 q1,qs=[q0,q1]:=by
   match qs,ql with
   | [q0,q1],_=>exact ⟨q0,q1,rfl⟩
  obtain ⟨us0,f0,a1,a2,a3⟩:=qa 0 q0 rfl
  obtain ⟨us1,f1,b1,b2,b3⟩:=qa 1 q1 rfl
  have s4:aE H3 (upd H3 c (.lst (List.map V.ref [q0,q1]))):=aE.upd hc
  refine k c q0 q1 us0 us1 (two f0 f1) _ (s3.trans s4) aD (s4 _ _ a1) (a2.same s4) (s4 _ _ b1) (b2.same s4) (Qp (S:=λ h=>s (1 - h)) T mn ok lt hz (λ l hl=>(en.cm l hl).symm) λ h hh=>?_)
  rcases (show h=0∨h=1 by omega) with rfl | rfl
  ·exact b3
  ·exact a3
def Wpt (K:W.Frag) (G:Hp) (a i:Nat->Addr) (L:Nat->Sd) (M:Nat) (t sl lb sd:Addr):Nat->St->Hp->Prop:=λ m σ H3=>∃ (g t':Nat) (s:Nat->Nat->Nat),σ=[some (.ref t),some (.ref sl),some (.ref lb),some (.ref sd),some (.int g),some (.int t')]/\aE G H3/\Tw2 K H3 a i L s/\((g≠0/\∃ vs,Lh L M s g t' vs/\m=(Gf L M).length - vs.length)∨(g=0/\m=0/\Sw L M s))
theorem Fm {K:W.Frag} {t sd:Addr} {a i:Nat->Addr} {m0 m1 n r:Nat} {z:Nat->Int} {s:Nat->Nat->Nat} {g:Nat} {D:gQ} (S:Dh K) (T:T2 e m0 m1 n p r) (mn:∀ h,h<=1->Mnf (fB e m0 m1 h) (z h)) (B:Pt2 (λ t=>sdh e m0 m1 (1 - t) (z (1 - t))) (m0+m1)) (na:∀ t,t<=1->G (a t)=none/\G (i t)=none) (sG:aE G H)
  (hs:G sd=some (.lst [.ref (a 0),.ref (a 1)])) (hlb:G lb=some (.lst [.ref o0,.ref o1])) (h0:G o0=some (.lst (List.map V.int (fS 0 m0)))) (h1:G o1=some (.lst (List.map V.int (fS m0 m1)))) (w:Tw2 K H a i (λ t=>sdh e m0 m1 (1 - t) (z (1 - t))) s)
  (st:(g≠0/\Lh (λ t=>sdh e m0 m1 (1 - t) (z (1 - t))) (m0+m1) s g 1 vs)∨(g=0/\Sw (λ t=>sdh e m0 m1 (1 - t) (z (1 - t))) (m0+m1) s))
  (k:∀ c q0 q1 us0 us1 f H',aE G H'->H' c=some (.lst [.ref q0,.ref q1])->H' q0=some (.lst (List.map V.ref us0))->aO K H' us0 (ofF m0 (f 0))->H' q1=some (.lst (List.map V.ref us1))->aO K H' us1 (ofF m1 (f 1))->Eq2 e m0 m1 f->D.rt (.ref c) H'):wZ K E D [some (.ref t),some (.ref sl),some (.ref lb),some (.ref sd),some (.int (g:Nat)),some (.int 1)] H:=by
 generalize hL:(λ t=>sdh e m0 m1 (1 - t) (z (1 - t)))=L at *
 have Z:∀ {t':Nat},t'<=1->atI [V.ref (a 0),V.ref (a 1)] (t':Int)=some (.ref (a t')):=λ {t'} h=>by
  rcases (show t'=0∨t'=1 by omega) with rfl | rfl
  ·exact kT
  ·exact jT
 show ∃ W:Nat->St->Hp->Prop,(∃ m,W m _ H)/\_
 refine ⟨Wpt K G a i L (m0+m1) t sl lb sd,?_,?_⟩
 ·rcases st with ⟨g0,h⟩ | ⟨g0,h⟩
  ·exact ⟨_,g,1,s,rfl,sG,w,.inl ⟨g0,vs,h,rfl⟩⟩
  ·exact ⟨0,g,1,s,rfl,sG,w,.inr ⟨g0,rfl,h⟩⟩
 ·rintro m σ H3 ⟨g,t',s,rfl,s3,w3,st3⟩
  (dsimp! [aB,tC,tOp,rI0,rNe,cI,aX,bA])
  rcases st3 with ⟨g0,vs,h,hm⟩ | ⟨g0,hm,en⟩
  ·rw [if_pos (by simp [g0])]
   have t1:=h.t1
   have bd:=h.bound
   obtain ⟨r1,l1,ps1,rs1,P,_⟩:=w3.p t' t1
   obtain ⟨dx,obj⟩:=P.ob
   refine ⟨_,λ σ' H' q=>q,?_⟩
   (dsimp? [xD,eN])
   refine ⟨_,SqL.of (s3 _ _ hs),_,Z t1,_,rfl,_,_,obj,rfl,Kb B h w3 s3 na λ g' s' H4 s4 w4 st4=>?_⟩
   (dsimp? [xA])
   rw [show (1:Int) - (t':Int)=((1 - t':Nat):Int) by omega]
   rcases st4 with ⟨g1,h4⟩ | ⟨g1,e4⟩
   ·have b4:=h4.bound
    rw [List.length_cons] at b4
    exact ⟨(Gf L (m0+m1)).length - (vs.length+1),by omega,g',1 - t',s',rfl,s4,w4,.inl ⟨g1,_,h4,by rw [List.length_cons]⟩⟩
   ·exact ⟨0,by omega,g',1 - t',s',rfl,s4,w4,.inr ⟨g1,rfl,e4⟩⟩
  ·rw [if_neg (by simp [g0])]
   subst hL
   exact Fo T mn w3 en (s3 _ _ hs) (s3 _ _ hlb) (s3 _ _ h0) (s3 _ _ h1) λ c q0 q1 us0 us1 f H' s'=>k c q0 q1 us0 us1 f H' (s3.trans s')
theorem rngL_F (n:Nat):mE n=fS 0 n:=map_congr_left λ k _=>by show (k:Int)=((0+k:Nat):Int);omega
theorem qA.init {K:W.Frag} {r i l:Addr} {m0 m1 n:Nat} (T:T2 e m0 m1 n p q) (h1:h<=1) (mn:Mnf (fB e m0 m1 h) z) (o:Sv K H H' a r i l ps (lV e m0 m1 h z) (fS (two 0 m0 h) (two m0 m1 h)) (m0+m1)):qA K H' a r i l ps (lV e m0 m1 h z) (sdh e m0 m1 h z) (sdh e m0 m1 h z).sp:=by
 obtain ⟨fw,eW,wl⟩:=Bt T h1 mn
 have e1:fS (two 0 m0 h) (two m0 m1 h)=ofF (sdh e m0 m1 h z).m λ k=>((sdh e m0 m1 h z).sp k:Int):=by
  rw [gS]
  refine map_congr_left λ k _=>?_
  rcases (show h=0∨h=1 by omega) with rfl | rfl
  ·show ((0+k:Nat):Int)=(k:Int);omega
  ·rfl
 refine ⟨o.ob,o.hr,o.hp,by rw [o.hi,e1],?_,o.ir,o.ip,o.il,SdO_tb fw.wf wl⟩
 rw [o.hl,e1]
 unfold Sd.jl ofF
 rw [eW,List.map_cons,List.map_cons,List.map_map,List.map_map];rfl
theorem pt2_of {m0 m1 n r:Nat} {z:Nat->Int} (T:T2 e m0 m1 n p r) (mn:∀ h,h<=1->Mnf (fB e m0 m1 h) (z h)):Pt2 (λ t=>sdh e m0 m1 (1 - t) (z (1 - t))) (m0+m1):=by
 have e0:(sdh e m0 m1 (1 - 0) (z (1 - 0))).m=m1:=gS
 have e1:(sdh e m0 m1 (1 - 1) (z (1 - 1))).m=m0:=gS
 refine ⟨λ t ht=>let q:=Bt T (show 1 - t<=1 by omega) (mn (1 - t) (by omega));⟨q.1,q.2.1⟩,λ x=>?_,λ x=>?_,by rw [e1];exact T.a1⟩
 ·rw [e1]
  constructor
  ·rintro ⟨i,hi,rfl⟩
   rw [e0] at hi
   show m0<=m0+i/\m0+i<m0+m1
   omega
  ·rintro ⟨h1,h2⟩
   exact ⟨x - m0,by rw [e0];omega,by show m0+(x - m0)=x;omega⟩
 ·rw [e1]
  constructor
  ·rintro ⟨i,hi,rfl⟩
   rw [e1] at hi;exact hi
  ·intro h
   exact ⟨x,by rw [e1];exact h,rfl⟩
theorem tw2_of {K:W.Frag} {H4 H5 H6:Hp} {a0 r0 i0 l0 a1 r1 i1 l1:Addr} {ps0:List Addr} {rs0 rs1:List (List Int)} {L:Nat->Sd} {s:Nat->Nat->Nat} (P0:qA K H4 a0 r0 i0 l0 ps0 rs0 (L 0) (s 0)) (s45:aE H4 H5) (s56:aE H5 H6) (O1:Sv K H4 H5 a1 r1 i1 l1 ps1 rs1 us M) (P1:qA K H5 a1 r1 i1 l1 ps1 rs1 (L 1) (s 1)):Tw2 K H6 (two a0 a1) (two i0 i1) L s:=by
 obtain ⟨dx,ob⟩:=P0.ob
 have nn:∀ {x y:Addr} {o:HO},H4 x=none->H4 y=some o->x≠y:=λ h1 h2 e=>by rw [e,h2] at h1;cases h1
 have np:∀ {x:Addr},H4 x=none->x∉ps0:=λ h1 hm=>by
  obtain ⟨_,_,e⟩:=P0.hp.has hm
  rw [e] at h1;cases h1
 refine ⟨λ t ht=>?_,λ t ht=>?_⟩
 ·rcases (show t=0∨t=1 by omega) with rfl | rfl
  ·exact ⟨r0,l0,ps0,rs0,P0.same (s45.trans s56),nn O1.na P0.hr,nn O1.na P0.hl,np O1.na,nn O1.ni P0.hr,nn O1.ni P0.hl,np O1.ni⟩
  ·exact ⟨r1,l1,ps1,rs1,P1.same s56,(nn O1.nr ob).symm,(nn O1.nl ob).symm,λ z=>nn (O1.np _ z) ob rfl,(nn O1.nr P0.hi).symm,(nn O1.nl P0.hi).symm,λ z=>nn (O1.np _ z) P0.hi rfl⟩
 ·rcases (show t=0∨t=1 by omega) with rfl | rfl
  ·exact ⟨(nn O1.na ob).symm,(nn O1.ni ob).symm,(nn O1.ni P0.hi).symm⟩
  ·exact ⟨nn O1.na ob,nn O1.na P0.hi,nn O1.ni P0.hi⟩
def mn4 (H:Hp) (a b c d:Addr):Hp:=λ x=>if x=a∨x=b∨x=c∨x=d then none else H x
theorem Rb {b c:Addr}:aE (mn4 H a b c d) H:=λ x o e=>by
 unfold mn4 at e
 split at e
 ·cases e
 ·exact e
theorem Pi {b c x:Addr} (h:H x=some o) (h1:x≠a) (h2:x≠b) (h3:x≠c) (h4:x≠d):mn4 H a b c d x=some o:=by
 unfold mn4
 rw [if_neg λ z=>z.elim h1 λ z=>z.elim h2 λ z=>z.elim h3 h4];exact h
theorem Fl {K:W.Frag} {t:Addr} {m0 m1 n r:Nat} {D:gQ} (S:Dh K) (T:T2 e m0 m1 n p r) (tf:Bd K H t [m0,m1] e) (hlb:H lb=some (.lst [.ref o0,.ref o1])) (h0:H o0=some (.lst (List.map V.int (fS 0 m0)))) (h1:H o1=some (.lst (List.map V.int (fS m0 m1))))
  (k:∀ c q0 q1 us0 us1 f H',aE H H'->H' c=some (.lst [.ref q0,.ref q1])->H' q0=some (.lst (List.map V.ref us0))->aO K H' us0 (ofF m0 (f 0))->H' q1=some (.lst (List.map V.ref us1))->aO K H' us1 (ofF m1 (f 1))->Eq2 e m0 m1 f->D.rt (.ref c) H'):pO K E D [some (.ref t),some (.ref sl),some (.ref lb),none,none,none] H:=by
 (dsimp? [pO])
 refine ⟨_,SqL.of hlb,_,jT,t,o1,m0,m1,n,p,r,e,1,fS m0 m1,rfl,tf,T,Nat.le_refl 1,h1,cW _ _,λ a0 r0 i0 l0 ps0 z1 H4 s4 O0 mn1=>?_⟩
 refine ⟨_,SqL.of (s4 _ _ hlb),_,kT,t,o0,m0,m1,n,p,r,e,0,fS 0 m0,rfl,tf.same s4,T,Nat.zero_le _,s4 _ _ h0,cW _ _,λ a1 r1 i1 l1 ps1 z0 H5 s5 O1 mn0=>?_⟩
 have mn:∀ h,h<=1->Mnf (fB e m0 m1 h) (two z0 z1 h):=λ h hh=>by
  rcases (show h=0∨h=1 by omega) with rfl | rfl
  ·exact mn0
  ·exact mn1
 have P0:=qA.init T (Nat.le_refl 1) mn1 O0
 have P1:=qA.init T (Nat.zero_le 1) mn0 O1
 refine ⟨sz2,λ sd hsd=>?_⟩
 have s6:aE H5 (upd H5 sd (.lst [.ref a0,.ref a1])):=aE.upd hsd
 have sd6:(upd H5 sd (.lst [.ref a0,.ref a1])) sd=some (.lst [.ref a0,.ref a1]):=aD
 generalize upd H5 sd (.lst [.ref a0,.ref a1])=H6 at s6 sd6
 have B:=pt2_of (z:=two z0 z1) T mn
 have w:=tw2_of (L:=λ t=>sdh e m0 m1 (1 - t) (two z0 z1 (1 - t))) (s:=λ t=>(sdh e m0 m1 (1 - t) (two z0 z1 (1 - t))).sp) P0 s5 s6 O1 P1
 have Ls:Lh (λ t=>sdh e m0 m1 (1 - t) (two z0 z1 (1 - t))) (m0+m1) (λ t=>(sdh e m0 m1 (1 - t) (two z0 z1 (1 - t))).sp) 0 0 []:=Lh.start (λ t ht=>⟨(B.few t ht).1.wf,(B.few t ht).2⟩) (by have:=T.a1;omega) B.a B.b B.m1 (by rw [show (sdh e m0 m1 (1 - 1) (two z0 z1 (1 - 1))).m=m0 from gS];omega)
 obtain ⟨dx,ob⟩:=P0.ob
 have sH:aE H H6:=s4.trans (s5.trans s6)
 have fr:∀ {x:Addr} {o:HO},H x=some o->x≠a0/\x≠i0/\x≠a1/\x≠i1:=λ {x o} h=>⟨λ z=>(by rw [z,O0.na] at h;cases h),λ z=>(by rw [z,O0.ni] at h;cases h),λ z=>(by have:=s4 _ _ h;rw [z,O1.na] at this;cases this),λ z=>(by have:=s4 _ _ h;rw [z,O1.ni] at this;cases this)⟩
 have sG:aE (mn4 H6 a0 i0 a1 i1) H6:=Rb
 have HG:aE H (mn4 H6 a0 i0 a1 i1):=λ x o h=>Pi (sH _ _ h) (fr h).1 (fr h).2.1 (fr h).2.2.1 (fr h).2.2.2
 have sdG:(mn4 H6 a0 i0 a1 i1) sd=some (.lst [.ref (two a0 a1 0),.ref (two a0 a1 1)]):=by
  have nz:∀ {x:Addr} {o:HO},H5 x=some o->sd≠x:=λ h z=>by rw [← z,hsd] at h;cases h
  exact Pi sd6 (nz (s5 _ _ ob)) (nz (s5 _ _ P0.hi)) (nz P1.ob.choose_spec) (nz P1.hi)
 have na:∀ t,t<=1->(mn4 H6 a0 i0 a1 i1) (two a0 a1 t)=none/\(mn4 H6 a0 i0 a1 i1) (two i0 i1 t)=none:=λ t ht=>by
  rcases (show t=0∨t=1 by omega) with rfl | rfl
  ·exact ⟨if_pos (.inl rfl),if_pos (.inr (.inl rfl))⟩
  ·exact ⟨if_pos (.inr (.inr (.inl rfl))),if_pos (.inr (.inr (.inr rfl)))⟩
 generalize mn4 H6 a0 i0 a1 i1=G at sG HG sdG na
 (dsimp? [wX,eN])
 refine ⟨_,SqL.of sd6,_,kT,_,rfl,dx,_,s6 _ _ (s5 _ _ ob),rfl,Kb (u:=0) (t:=0) B Ls w sG na λ g s' H7 s7 w7 st7=>?_⟩
 (dsimp? [wY])
 exact Fm S T mn B na s7 sdG (HG _ _ hlb) (HG _ _ h0) (HG _ _ h1) w7 st7 λ c q0 q1 us0 us1 f H' s'=>k c q0 q1 us0 us1 f H' (HG.trans s')
theorem Qk {K vs H Q E} (S:Dh K) (h:qW K vs H Q E):uS K E { nx:=λ _ H'=>Q .non H',rt:=Q } (start Ck vs) H:=by
 obtain ⟨t,rfl,⟨m0,m1,n,p,r,e,tf,T,q⟩ | ⟨ns,cont,tab,n3,q⟩⟩:=h
 ·obtain ⟨cont,tab,fr⟩:=id tf.ex
  obtain ⟨dx,m,d,ins⟩:=tab.ins
  have a6:m0<=6:=(T.le 0).2.1
  have b6:m1<=6:=(T.le 1).2.1
  rw [show start Ck [V.ref t]=[some (.ref t),none,none,none,none,none] from rfl]
  (dsimp? [uS,eN])
  refine ⟨_,_,ins,qP _ _ (by decide +kernel) (by decide +kernel),t,[m0,m1],cont,rfl,tab,λ sl hsl=>?_⟩
  have s1:aE H (upd H sl (.lst (tv [m0,m1]))):=aE.upd hsl
  have hs1:(upd H sl (.lst (tv [m0,m1]))) sl=some (.lst (tv [m0,m1])):=aD
  generalize upd H sl (.lst (tv [m0,m1]))=H1 at s1 hs1
  (dsimp? [pN])
  refine ⟨_,.inl (SqL.of hs1),?_⟩
  rw [show ((tv [m0,m1]).length:Int)=2 from rfl,if_neg (by simp)]
  (dsimp? [wW,Dk,Gs])
  refine ⟨_,SqL.of hs1,_,kT,m0,rfl,by omega,λ o0 h0=>?_⟩
  have s2:aE H1 (upd H1 o0 (.lst (List.map V.int (mE m0)))):=aE.upd h0
  have o2:(upd H1 o0 (.lst (List.map V.int (mE m0)))) o0=some (.lst (List.map V.int (fS 0 m0))):=by rw [aD,rngL_F]
  generalize upd H1 o0 (.lst (List.map V.int (mE m0)))=H2 at s2 o2
  have sl2:=s2 _ _ hs1
  refine ⟨_,SqL.of sl2,_,kT,sl,[(m0:Int),(m1:Int)],rfl,SqL.of sl2,m0,rfl,m1,?_,by omega,λ o1 h1=>?_⟩
  ·simp
  have s3:aE H2 (upd H2 o1 (.lst (List.map V.int (fS m0 m1)))):=aE.upd h1
  have o3:(upd H2 o1 (.lst (List.map V.int (fS m0 m1)))) o1=some (.lst (List.map V.int (fS m0 m1))):=aD
  generalize upd H2 o1 (.lst (List.map V.int (fS m0 m1)))=H3 at s3 o3
  refine ⟨sz2,λ lb hlb=>?_⟩
  have s4:aE H3 (upd H3 lb (.lst [.ref o0,.ref o1])):=aE.upd hlb
  have l4:(upd H3 lb (.lst [.ref o0,.ref o1])) lb=some (.lst [.ref o0,.ref o1]):=aD
  generalize upd H3 lb (.lst [.ref o0,.ref o1])=H4 at s4 l4
  have s14:=s1.trans (s2.trans (s3.trans s4))
  exact Fl S T (tf.same s14) l4 ((s3.trans s4) _ _ o2) (s4 _ _ o3) λ c q0 q1 us0 us1 f H' s'=>q c q0 q1 us0 us1 f H' (s14.trans s')
 ·obtain ⟨dx,m,d,ins⟩:=tab.ins
  rw [show start Ck [V.ref t]=[some (.ref t),none,none,none,none,none] from rfl]
  (dsimp? [uS,eN])
  refine ⟨_,_,ins,qP _ _ (by decide +kernel) (by decide +kernel),t,ns,cont,rfl,tab,λ sl hsl=>?_⟩
  (dsimp? [pN,Gr])
  refine ⟨_,.inl (SqL.of aD),?_⟩
  rw [hJ,n3,if_pos (by decide)]
  exact ⟨sz1,q _ (aE.upd hsl)⟩
def uC:List PySem.Str:=["_law_table", "_law_mine", "_law_others", "e"]
abbrev Oq:List Str:=["NoNumber", "NoTable", "NoOrder", "NoStart", "NoPlan", "NoChoice", "NoMixing"]
def lS (K:W.Frag):Sp:=λ vs H Q _=>∃ (t:Addr) (ns:List Nat) (cont:List Nat->List V),vs=[.ref t]/\jV K H t ns cont/\ns.length=3/\∀ H',aE H H'->Q (.bl true) H'
def mU (K:W.Frag):TS:=(aQ (aW (tC (.bl false)) (aI 1)) (aQ (aW (tC (.bl true)) (aI 2)) (aQ (Sl (λ E=>aU (qW K) [] E (aC (aB 0) aM)) (.ref (aR K "NotTwo")) 3 (aQ (aW (qC (tCB (Oa K) (aC (aB 3) (aC (tC (.ref (aR K "NotTwo"))) aM))) (tCB (Oa K) (aC (aB 3) (aC (tC (.ty "ValueError")) aM)))) (aI 1)) (aW (tCB (Oa K) (aC (aB 3) (aC (fR (aC (tC (.ref (aR K "NoNumber"))) (aC (tC (.ref (aR K "NoTable"))) (aC (tC (.ref (aR K "NoOrder"))) (aC (tC (.ref (aR K "NoStart"))) (aC (tC (.ref (aR K "NoPlan"))) (aC (tC (.ref (aR K "NoChoice"))) (aC (tC (.ref (aR K "NoMixing"))) aM)))))))) aM))) (aI 2)))) (aX (qC (aB 1) (sZ (aB 2)))))))
theorem Cq {K vs H Q E} (z:XT K "NotTwo" Oq) (h:lS K vs H Q E):mU K { nx:=λ _ H'=>Q .non H',rt:=Q } (start uC vs) H:=by
 obtain ⟨t,ns,cont,rfl,tab,n3,q⟩:=h
 rw [show start uC [V.ref t]=[some (.ref t),none,none,none] from rfl]
 (dsimp? [mU,Sl])
 refine ⟨t,rfl,.inr ⟨ns,cont,tab,n3,λ H1 s1=>⟨rfl,λ x hx=>?_⟩⟩⟩
 have s2:=s1.trans (aE.upd (o:=De x (.ref (aR K "NotTwo")) none) hx)
 have hx2:(upd H1 x (De x (.ref (aR K "NotTwo")) none)) x=some (De x (.ref (aR K "NotTwo")) none):=aD
 generalize upd H1 x (De x (.ref (aR K "NotTwo")) none)=H2 at s2 hx2
 (dsimp? [Oa])
 refine ⟨_,_,hx2,z.kx,true,.inl ⟨_,rfl,z.own⟩,Sq ⟨_,_,hx2,z.kx,true,.inr (.inl ⟨_,rfl,z.val⟩),?_⟩⟩
 refine ⟨by show 7<=sizeLine;decide,λ p hp=>?_⟩
 have s3:=aE.upd (o:=HO.tup (Oq.map λ x=>V.ref (aR K x))) hp
 refine ⟨_,_,s3 _ _ hx2,z.kx,false,.inr (.inr ⟨p,Oq.map (aR K),rfl,aD,z.any⟩),?_⟩
 exact Sq (q _ (s2.trans s3))
def pA:List PySem.Str:=["sizes", "size"]
def fL (K:W.Frag):Sp:=λ vs H Q _=>∃ l ns,vs=[.ref l]/\SqL K H l (tv ns)/\2<=ns.length/\Sz ns/\Q .non H
def yM (l:Addr) (H:Hp):Nat->St->Hp->Prop:=λ _ σ H3=>H3=H/\∃ o,σ=[some (.ref l),o]
def kK (K:W.Frag):TS:=(dU (tOr (bA (tOp rS (aB 1) (tC (.int 1)))) (bA (tOp yQ (aB 1) (tC (.int 6))))) fU bS)
def jN (K:W.Frag):TS:=(aQ (dU (tOr (bA (tOp rS (tCB (lZ K) (aC (aB 0) aM)) (tC (.int 2)))) (bA (tOp yQ (tCB (lZ K) (aC (aB 0) aM)) (tC (.int 3))))) fU bS) (cH (bG K (aB 0)) (aI 1) (kK K)))
theorem Nu {K vs H Q E} (h:fL K vs H Q E):vs.length=1:=by obtain ⟨l,ns,rfl,_⟩:=h;rfl
theorem xW {K vs H Q E} (h:fL K vs H Q E):jN K { nx:=λ _ H'=>Q .non H',rt:=Q } (start pA vs) H:=by
 obtain ⟨l,ns,rfl,hS,h2,sz,q⟩:=h
 have h3:=sz.len
 rw [show start pA [V.ref l]=[some (.ref l),none] from rfl]
 (dsimp? [jN,cH,bG])
 refine ⟨_,.inl hS,?_⟩
 rw [hJ,if_neg (by omega)]
 refine ⟨_,.inl hS,?_⟩
 rw [hJ,if_neg (by omega)]
 refine ⟨⟨_,hS⟩,eA (K:=K) (a:=l) (xs:=tv ns) (g:=aI 1) (D:={ nx:=λ _ H'=>Q .non H',rt:=Q }) (yM l H) ?_ ?_ ?_ ?_⟩
 ·exact ⟨rfl,none,rfl⟩
 ·rintro i σ H3 _ ⟨rfl,_⟩
  exact hS
 ·rintro i x σ H3 hi ⟨rfl,o,rfl⟩
  obtain ⟨n,hn,rfl⟩:=Bh hi
  have g1:=sz.ge n (mem_of_getElem? hn)
  have g2:=sz.le n (mem_of_getElem? hn)
  (dsimp? [kK])
  rw [if_neg (by omega),if_neg (by omega)]
  exact ⟨rfl,_,rfl⟩
 ·rintro σ H3 ⟨rfl,o,rfl⟩
  exact q
def pB:List PySem.Str:=["cells", "plays", "hands", "play"]
def fN (K:W.Frag):Sp:=λ vs H Q _=>∃ c p kvs xs qs hands cont,vs=[.ref c,.ref p,.int (hands:Nat)]/\H c=some (.dT kvs)/\H p=some (.lst xs)/\Ps H xs qs/\(∀ q∈qs,tK H kvs cont q)/\(∀ q∈qs,(cont q).length=hands)/\kvs.length=qs.length/\Q .non H
def yO (c p:Addr) (hands:Nat) (H:Hp):Nat->St->Hp->Prop:=λ _ σ H3=>H3=H/\∃ o,σ=[some (.ref c),some (.ref p),some (.int hands),o]
def gF (K:W.Frag):TS:=(dU (bA (tOp rNe (tCB Oo (aC (aB 0) aM)) (tCB (lZ K) (aC (aB 1) aM)))) fU bS)
def kL (K:W.Frag):TS:=(aQ (dU (tB (Br (aB 3) (aB 0))) fU bS) (dU (bA (tOp rNe (tCB (lZ K) (aC (qB (aB 0) (aB 3)) aM)) (aB 2))) fU bS))
def jO (K:W.Frag):TS:=(aQ (cH (bG K (aB 1)) (aI 3) (kL K)) (gF K))
theorem Nv {K vs H Q E} (h:fN K vs H Q E):vs.length=3:=by obtain ⟨c,p,kvs,xs,qs,hands,cont,rfl,_⟩:=h;rfl
theorem xX {K vs H Q E} (h:fN K vs H Q E):jO K { nx:=λ _ H'=>Q .non H',rt:=Q } (start pB vs) H:=by
 obtain ⟨c,p,kvs,xs,qs,hands,cont,rfl,hc,hp,ps,ok,oh,hl,q⟩:=h
 rw [show start pB [V.ref c,V.ref p,V.int hands]=[some (.ref c),some (.ref p),some (.int hands),none] from rfl]
 (dsimp? [jO,cH,bG])
 refine ⟨⟨_,SqL.of hp⟩,eA (K:=K) (a:=p) (xs:=xs) (g:=aI 3) (D:={ nx:=gF K _,rt:=Q }) (yO c p hands H) ?_ ?_ ?_ ?_⟩
 ·exact ⟨rfl,none,rfl⟩
 ·rintro i σ H3 _ ⟨rfl,_⟩
  exact SqL.of hp
 ·rintro i x σ H3 hi ⟨rfl,o,rfl⟩
  obtain ⟨b,a,hb,rfl,ha⟩:=ps.get hi
  obtain ⟨l,hv,hL⟩:=ok b (mem_of_getElem? hb)
  have hvl:=oh b (mem_of_getElem? hb)
  have ht:H3 a=some (.tup ((tk b).map kV)):=by rw [vN];exact ha
  (dsimp? [kL,Br,qB])
  refine ⟨_,mH.t hc ht,?_⟩
  rw [hv]
  refine vL ?_
  refine ⟨_,by rw [← hv];exact mH.t hc ht,?_⟩
  exact ⟨l,rfl,_,.inl (SqL.of hL),Ol (by rw [hvl]) ⟨rfl,_,rfl⟩⟩
 ·rintro σ H3 ⟨rfl,o,rfl⟩
  (dsimp? [gF,Oo])
  refine ⟨_,hc,_,.inl (SqL.of hp),?_⟩
  rw [hl,ps.1]
  refine Ol rfl q
def rQ:List PySem.Str:=["self", "sizes", "cells", "plays", "play"]
def eQ (K:W.Frag):Sp:=λ vs H Q _=>∃ t dx s c ns kvs cont,vs=[.ref t,.ref s,.ref c]/\H t=some (.ins (aR K "Table") dx [])/\SqL K H s (tv ns)/\2<=ns.length/\Sz ns/\H c=some (.dT kvs)/\(∀ q∈cM ns.reverse,tK H kvs cont q)/\(∀ q∈cM ns.reverse,(cont q).length=ns.length)/\kvs.length=(cM ns.reverse).length /\
 ∀ H',Sb t H H'->jV K H' t ns cont->Q .non H'
def zB (K:W.Frag) (t dx s c p m d:Addr) (ns:List Nat) (cont:List Nat->List V) (H:Hp) (xs:List V):Nat->St->Hp->Prop:=λ i σ H3=>∃ kvs o,σ=[some (.ref t),some (.ref s),some (.ref c),some (.ref p),o]/\Sb t H H3/\H3 t=some (.ins (aR K "Table") dx (pF m d))/\H3 m=some (.lst (tv ns))/\H3 p=some (.lst xs)/\Ps H3 xs (cM ns.reverse) /\
 H d=none/\H3 d=some (.dT kvs)/\kvs.length<=i/\∀ q∈(cM ns.reverse).take i,tK H3 kvs cont q
def lX (K:W.Frag):TS:=(oJ (iO K (aB 0) "cells") (aB 4) (tCB (iP K) (aC (qB (aB 2) (aB 4)) aM)))
def lR (K:W.Frag):TS:=(aQ (iA (aU (fL K) [] E0 (aC (aB 1) aM))) (aQ (aW (aU (gY K) [] E0 (aC (aB 1) aM)) (aI 3)) (aQ (iA (aU (fN K) [] E0 (aC (aB 2) (aC (aB 3) (aC (tCB (lZ K) (aC (aB 1) aM)) aM))))) (aQ (vK K (aB 0) (tCB (iP K) (aC (aB 1) aM)) "many") (aQ (vK K (aB 0) sB "cells") (cH (bG K (aB 3)) (aI 4) (lX K)))))))
theorem Si {K vs H Q E} (h:eQ K vs H Q E):vs.length=3:=by obtain ⟨t,dx,s,c,ns,kvs,cont,rfl,_⟩:=h;rfl
theorem Sb.keepT {t dx:Addr} {fs:List (Str×V)} (s:Sb t H H') (h:H t=some (.ins C dx fs)):oM H H':=λ a xs e=>s a _ e (eK e h (by intro z;cases z))
theorem Sb.put {t:Addr} (s:Sb t H G) (h:H d=none):Sb t H (upd G d o):=λ b u e hb=>by rw [aN (bF e h)];exact s b u e hb
theorem yY {K vs H Q E} (T:Ob K) (h:eQ K vs H Q E):lR K { nx:=λ _ H'=>Q .non H',rt:=Q } (start rQ vs) H:=by
 obtain ⟨t,dx,s,c,ns,kvs,cont,rfl,ht,hS,h2,sz,hc,ok,oh,hl,q⟩:=h
 rw [show start rQ [V.ref t,V.ref s,V.ref c]=[some (.ref t),some (.ref s),some (.ref c),none,none] from rfl]
 (dsimp? [lR,iA,vK,sB,iP,cH,bG])
 refine ⟨s,ns,rfl,hS,h2,sz,s,ns,rfl,hS,sz,λ p xs H1 s1 hp hP ps=>?_⟩
 refine ⟨_,.inl (s1.seq hS),?_⟩
 rw [hJ]
 refine ⟨c,p,kvs,xs,cM ns.reverse,ns.length,cont,rfl,s1 _ _ hc,hP,ps,λ q hq=>(ok q hq).same s1,oh,hl,?_⟩
 refine ⟨_,.inl (s1.seq hS),λ m hm=>?_⟩
 have s2:aE H1 (upd H1 m (.lst (tv ns))):=aE.upd hm
 generalize e2:upd H1 m (.lst (tv ns))=H2 at s2
 have m2:H2 m=some (.lst (tv ns)):=by rw [← e2];exact aD
 have t2:H2 t=some (.ins (aR K "Table") dx []):=s2 _ _ (s1 _ _ ht)
 refine ⟨_,dx,[],t2,T.cl,T.nM,by show 0<1000;decide,λ d hd=>?_⟩
 have t3:(upd H2 t (.ins (aR K "Table") dx (cF "many" (.ref m) []))) t=some (.ins (aR K "Table") dx (cF "many" (.ref m) [])):=aD
 have ntd:t≠d:=bF t3 hd
 refine ⟨_,dx,_,(by rw [aN ntd];exact t3),T.cl,T.nC,by show 1<1000;decide,?_⟩
 have b1:Sb t H2 (upd (upd (upd H2 t (.ins (aR K "Table") dx (cF "many" (.ref m) []))) d (.dT [])) t (.ins (aR K "Table") dx (pF m d))):=(Sb.at.trans (Sb.of (aE.upd hd))).trans Sb.at
 have d5:(upd (upd (upd H2 t (.ins (aR K "Table") dx (cF "many" (.ref m) []))) d (.dT [])) t (.ins (aR K "Table") dx (pF m d))) d=some (.dT []):=by rw [aN ntd.symm];exact aD
 have t5:(upd (upd (upd H2 t (.ins (aR K "Table") dx (cF "many" (.ref m) []))) d (.dT [])) t (.ins (aR K "Table") dx (pF m d))) t=some (.ins (aR K "Table") dx (pF m d)):=aD
 have hd0:H d=none:=Sb.free ((Sb.of (s1.trans s2)).trans Sb.at) hd ntd.symm
 rw [show cF "cells" (V.ref d) (cF "many" (V.ref m) [])=pF m d from rfl]
 generalize (upd (upd (upd H2 t (.ins (aR K "Table") dx (cF "many" (.ref m) []))) d (.dT [])) t (.ins (aR K "Table") dx (pF m d)))=H5 at b1 d5 t5
 have b0:Sb t H H5:=(Sb.of (s1.trans s2)).trans b1
 have mt:m≠t:=eK m2 t2 (by intro z;cases z)
 have pt:p≠t:=eK (s2 _ _ hP) t2 (by intro z;cases z)
 have p5:H5 p=some (.lst xs):=b1 _ _ (s2 _ _ hP) pt
 have ps5:Ps H5 xs (cM ns.reverse):=(ps.same s2).keep (b1.keepT t2)
 have hnp:(cM ns.reverse).length<=216:=sz.rev.ord
 refine ⟨p,rfl,⟨_,SqL.of p5⟩,eA (K:=K) (a:=p) (xs:=xs) (g:=aI 4) (D:={ nx:=λ _ H'=>Q .non H',rt:=Q }) (zB K t dx s c p m d ns cont H xs) ?_ ?_ ?_ ?_⟩
 ·exact ⟨[],none,rfl,b0,t5,b1 _ _ m2 mt,p5,ps5,hd0,d5,Nat.le_refl _,λ q hq=>(by simp at hq)⟩
 ·rintro i σ G _ ⟨_,_,_,_,_,_,hp,_⟩
  exact SqL.of hp
 ·rintro i x σ G hi ⟨kv,o,rfl,b3,tG,mG,pG,psG,hd,dG,hk,okG⟩
  obtain ⟨b,a,hb,rfl,ha⟩:=psG.get hi
  have hil:i<(cM ns.reverse).length:=(List.getElem?_eq_some_iff.mp hb).1
  obtain ⟨l,hv,hL⟩:=ok b (mem_of_getElem? hb)
  have cG:G c=some (.dT kvs):=b3 _ _ hc (eK hc ht (by intro z;cases z))
  have lG:G l=some (.lst (cont b)):=b3 _ _ hL (eK hL ht (by intro z;cases z))
  have aG:G a=some (.tup ((tk b).map kV)):=by rw [vN];exact ha
  (dsimp? [lX,oJ,qB,iO,iP])
  refine ⟨_,by rw [← hv];exact mH.t cG aG,?_⟩
  refine ⟨l,rfl,_,.inl (SqL.of lG),λ l' hl'=>?_⟩
  have s6:aE G (upd G l' (.lst (cont b))):=aE.upd hl'
  have d6:(upd G l' (.lst (cont b))) d=some (.dT kv):=s6 _ _ dG
  refine ⟨_,_,_,s6 _ _ tG,T.cl,T.nC,_,xM _ _,d,rfl,_,vM.t d6 (s6 _ _ aG) (small' (by omega)),?_⟩
  refine ⟨_,_,rfl,(b3.trans (Sb.of s6)).put hd,?_,?_,?_,?_,hd,aD,?_,?_⟩
  ·rw [aN (eK (s6 _ _ tG) d6 (by intro z;cases z))];exact s6 _ _ tG
  ·rw [aN (eK (s6 _ _ mG) d6 (by intro z;cases z))];exact s6 _ _ mG
  ·rw [aN (eK (s6 _ _ pG) d6 (by intro z;cases z))];exact s6 _ _ pG
  ·exact (psG.same s6).keep λ b xs e=>by rw [aN (eK e d6 (by intro z;cases z))];exact e
  ·have:=gZ kv (tk b) (V.ref l')
   omega
  ·intro q hq
   rw [bH hb] at hq
   have ne1:l'≠d:=eK aD d6 (by intro z;cases z)
   by_cases e:q=b
   ·subst e
    exact ⟨l',by rw [qR,if_pos rfl],by rw [aN ne1];exact aD⟩
   ·have hq':q∈(cM ns.reverse).take i:=by
     rcases mem_append.mp hq with h | h
     ·exact h
     ·exact absurd (mem_singleton.mp h) e
    obtain ⟨l2,hv2,hL2⟩:=okG q hq'
    exact ⟨l2,by rw [qR,if_neg (λ z=>e (pH z))];exact hv2,by rw [aN (eK (s6 _ _ hL2) d6 (by intro z;cases z))];exact s6 _ _ hL2⟩
 ·rintro σ G ⟨kv,o,rfl,b3,tG,mG,_,_,_,dG,_,okG⟩
  rw [show xs.length=(cM ns.reverse).length from ps.1,take_length] at okG
  exact q G b3 ⟨dx,m,d,kv,tG,mG,dG,okG⟩
def Au:List PySem.Str:=["_law_found"]
def fZ (_:W.Frag):Sp:=λ vs H Q _=>∃ i,vs=[.int i]/\Q (.bl true) H
def nS (K:W.Frag):TS:=(aX (qC (tCB Dg (aC (aB 0) (aC (tC (.ty "int")) aM))) (sZ (tCB Dg (aC (aB 0) (aC (tC (.ty "bool")) aM))))))
theorem len_l_whole {K vs H Q E} (h:fZ K vs H Q E):vs.length=1:=by obtain ⟨a,rfl,_⟩:=h;rfl
theorem Hu {K vs H Q E} (h:fZ K vs H Q E):nS K { nx:=λ _ H'=>Q .non H',rt:=Q } (start Au vs) H:=by
 obtain ⟨i,rfl,q⟩:=h
 rw [show start Au [V.int i]=[some (.int i)] from rfl]
 (try dsimp only [nS,aB,tC,aX,aC,aM,tCB,Dg,qC,sZ,Lq0,cC,cD,cB];try simp only [nS,aB,tC,aX,aC,aM,tCB,Dg,qC,sZ,Lq0,Option.some.injEq,exists_eq_left',V.bl.injEq,V.ty.injEq,List.cons.injEq,and_true,exists_and_left,and_assoc,exists_eq_left,V.int.injEq,V.ref.injEq,true_and,cC,cD,cB,cQ,iD,dY])
 exact ⟨true,.inl ⟨rfl,rfl⟩,Sq ⟨false,.inr ⟨rfl,rfl⟩,q⟩⟩
def Av:List PySem.Str:=["_law_found", "_law_due", "_law_one"]
def lC (K:W.Frag):Sp:=λ vs H Q _=>∃ (a b:Addr) (ps qs:List Addr) (n:Nat) (f:Nat->Int×Int),vs=[.ref a,.ref b]/\H a=some (.lst (List.map V.ref ps))/\aO K H ps (ofF n f)/\H b=some (.lst (List.map V.ref qs))/\aO K H qs (ofF n f)/\Q (.bl true) H
def lN (K:W.Frag):TS:=(aX (tC (.bl true)))
def lO (K:W.Frag):TS:=(dU (tOr (vJ (tB (tCB (Su K) (aC (aB 2) (aC (tC (.ty "tuple")) aM))))) (tOr (vJ (tB (aU (fZ K) [] E0 (aC (tOp (dL K) (aB 2) (tC (.int 0))) aM)))) (vJ (tB (aU (fZ K) [] E0 (aC (tOp (dL K) (aB 2) (tC (.int 1))) aM)))))) (aX (tC (.bl false))) bS)
def rK (K:W.Frag):TS:=(aQ (cH (bG K (aB 0)) (aI 2) (lO K)) (lN K))
def sM (K:W.Frag):TS:=(aQ (dU (tOr (vJ (tB (tCB Dr (aC (aB 0) (aC (tC (.ty "list")) aM))))) (bA (tOp (rNeD K 1) (aB 0) (aB 1)))) (aX (tC (.bl false))) bS) (rK K))
theorem Hv {K vs H Q E} (h:lC K vs H Q E):sM K { nx:=λ _ H'=>Q .non H',rt:=Q } (start Av vs) H:=by
 obtain ⟨a,b,ps,qs,n,f,rfl,ha,hf,hb,hg,q⟩:=h
 rw [show start Av [V.ref a,V.ref b]=[some (.ref a),some (.ref b),none] from rfl]
 (dsimp? [sM,Dr,rNeD])
 refine ⟨true,.inr ⟨_,_,rfl,ha,rfl,rfl⟩,vL ⟨true,Lm (SqL.of ha) (SqL.of hb) hf hg,vL ?_⟩⟩
 (dsimp? [rK,cH,bG])
 refine ⟨⟨_,SqL.of ha⟩,eA (K:=K) (a:=a) (xs:=List.map V.ref ps) (g:=aI 2) (D:={ nx:=lN K { nx:=λ _ H'=>Q .non H',rt:=Q },rt:=Q }) (SEq H λ _ σ=>∃ o,σ=[some (.ref a),some (.ref b),o]) ⟨rfl,none,rfl⟩ ?_ ?_ ?_⟩
 ·rintro i σ H3 _ ⟨rfl,_⟩
  exact SqL.of ha
 ·rintro i x σ H3 hi ⟨rfl,o,rfl⟩
  obtain ⟨p,rfl,hp⟩:=cA hi
  obtain ⟨g,eg,hG⟩:=hf.get hp
  obtain ⟨hin,rfl⟩:=dQ eg
  (dsimp? [lO,Su];try simp_arith [lO,Su,fZ])
  exact ⟨_,hG,vL ⟨_,hG,_,kT,_,rfl,vL ⟨_,hG,_,jT,_,rfl,vL ⟨rfl,_,rfl⟩⟩⟩⟩
 ·rintro σ H3 ⟨rfl,o,rfl⟩
  (dsimp? [lN])
  exact q
def xO:List PySem.Str:=["_law_numbers_here", "_law_tops", "_law_k", "_law_top", "_law_j", "_law_found", "_law_most"]
def iW (K:W.Frag):Sp:=λ vs H Q _=>∃ (a:Addr) (ps:List Addr) (n:Nat) (g:Nat->Int×Int),vs=[.ref a]/\H a=some (.lst (List.map V.ref ps))/\aO K H ps (ofF n g)/\Abv g n/\∀ l qs H',aE H H'->H' l=some (.lst (List.map V.ref qs))->aO K H' qs (ofF n (shF g n))->Q (.ref l) H'
def iv_sh1 (a l:Addr) (n:Nat) (g:Nat->Int×Int) (H0:Hp):Nat->St->Hp->Prop:=λ i σ H3=>∃ o2 o3 o4,σ=[some (.ref a),some (.ref l),o2,o3,o4,none,none]/\aE H0 H3/\H3 l=some (.lst (List.map V.int (ofF i λ k=>tpR g k n)))
def iv_sh2 (a l:Addr) (k:Nat) (g:Nat->Int×Int) (H0:Hp):Nat->St->Hp->Prop:=SEq H0 λ j σ=>∃ o4,σ=[some (.ref a),some (.ref l),some (.int k),some (.int (tpR g k j)),o4,none,none]
def iv_sh3 (K:W.Frag) (a l x:Addr) (n:Nat) (g:Nat->Int×Int) (o2 o4:Option V) (H0:Hp):Nat->St->Hp->Prop:=λ i σ H3=>∃ o3 o6 qs,σ=[some (.ref a),some (.ref l),o2,o3,o4,some (.ref x),o6]/\aE H0 H3/\H3 x=some (.lst (List.map V.ref qs))/\aO K H3 qs (ofF i (shF g n))
def oP (K:W.Frag):TS:=(iA (tBM K "list" gK (aB 5) (aC (fR (aC (tOp eO (aB 3) (aB 6)) (aC (tOp eO (tCB (Sr K) (aC (aB 1) aM)) (aB 6)) aM))) aM)))
def jL (K:W.Frag):TS:=(aQ (aW (aU (dE K) [] E0 (aC (aB 3) (aC (tCB (Sr K) (aC (aB 1) aM)) aM))) (aI 6)) (oP K))
def oO (K:W.Frag):TS:=(aQ (cH (bG K (aB 1)) (aI 3) (jL K)) (aX (aB 5)))
def gM (K:W.Frag):TS:=(aQ (aW (jC aM) (aI 5)) (oO K))
def jJ (K:W.Frag):TS:=(iA (tBM K "list" gK (aB 1) (aC (aB 3) aM)))
def jK (K:W.Frag):TS:=(dU (bA (tOp rNe (aB 4) (aB 2))) (aW (tOp dH (aB 3) (tOp (dL K) (tOp (bW K) (aB 0) (aB 4)) (tC (.int 0)))) (aI 3)) bS)
def oN (K:W.Frag):TS:=(aQ (cH (eL (aC (tCB (lZ K) (aC (aB 0) aM)) aM)) (aI 4) (jK K)) (jJ K))
def gO (K:W.Frag):TS:=(aQ (aW (tOp (dL K) (tOp (bW K) (aB 0) (aB 2)) (tC (.int 1))) (aI 3)) (oN K))
def pQ (K:W.Frag):TS:=(aQ (aW (jC aM) (aI 1)) (aQ (cH (eL (aC (tCB (lZ K) (aC (aB 0) aM)) aM)) (aI 2) (gO K)) (gM K)))
theorem shr_r3 {K:W.Frag} {l:Addr} {n:Nat} {g:Nat->Int×Int} {o2 o3 o4:Option V} {D:gQ} (A:Abv g n) (hl:H l=some (.lst (List.map V.int (ofF n λ k=>tpR g k n)))) (k:∀ l qs H',aE H H'->H' l=some (.lst (List.map V.ref qs))->aO K H' qs (ofF n (shF g n))->D.rt (.ref l) H'):gM K D [some (.ref a),some (.ref l),o2,o3,o4,none,none] H:=by
 obtain ⟨t1,s0,sb⟩:=A.sum
 have n6:=A.n6
 have es:(ofF n λ k=>tpR g k n).sum=sm n λ k=>tpR g k n:=Bz _ _
 (dsimp? [gM])
 refine ⟨sz0,λ x hx=>?_⟩
 have s1:aE H (upd H x (.lst [])):=aE.upd hx
 have x1:(upd H x (.lst [])) x=some (.lst []):=aD
 generalize upd H x (.lst [])=H1 at s1 x1
 (dsimp? [oO,cH,bG])
 refine ⟨⟨_,SqL.of (s1 _ _ hl)⟩,eA (K:=K) (a:=l) (xs:=List.map V.int (ofF n λ k=>tpR g k n)) (g:=aI 3) (D:={ D with nx:=aX (aB 5) D }) (iv_sh3 K a l x n g o2 o4 H) ⟨o3,none,[],rfl,s1,x1,trivial⟩ ?_ ?_ ?_⟩
 ·rintro i σ H3 _ ⟨_,_,_,_,s3,_⟩
  exact SqL.of (s3 _ _ hl)
 ·rintro i u σ H3 hi ⟨o3,o6,qs,rfl,s3,x3,hq⟩
  obtain ⟨v,rfl,hv⟩:=jZ hi
  obtain ⟨hin,rfl⟩:=dQ hv
  have hl3:=s3 _ _ hl
  have ql:=hq.length
  rw [aL] at ql
  have g0:0<Int.gcd (tpR g i n) (sm n λ j=>tpR g j n):=Int.gcd_pos_of_ne_zero_right _ (by omega)
  have bg:=sb.gcd (i:=tpR g i n) (by omega)
  (dsimp? [jL];try simp_arith [jL,dE])
  refine ⟨l,_,rfl,SqL.of hl3,_,rfl,?_⟩
  rw [es]
  (dsimp? [oP,iA,tBM,gK])
  refine ⟨.inl ⟨rfl,_,SqL.of x3⟩,⟨by omega,bg.mono (by decide)⟩,l,_,rfl,SqL.of hl3,_,rfl,?_⟩
  rw [es]
  refine ⟨⟨by omega,bg.mono (by decide)⟩,sz2,λ p hp=>?_⟩
  have s4:aE H3 (upd H3 p (.tup [.int (shF g n i).1,.int (shF g n i).2])):=aE.upd hp
  refine ⟨_,s4 _ _ x3,by rw [length_map,ql,sizeLine_eq];omega,_,_,qs++[p],rfl,(s3.trans s4).put hx,by rw [aD,map_append];rfl,?_⟩
  rw [bR]
  exact aO.snoc ((hq.same s4).off (s4 _ _ x3)) ((SqT.of aD).off (s4 _ _ x3))
 ·rintro σ H3 ⟨o3,o6,qs,rfl,s3,x3,hq⟩
  rw [length_map,aL] at hq
  (dsimp! [aB,tC,tOp,rI0,rNe,cI,aX,bA])
  exact k x qs H3 s3 x3 hq
theorem shr_b3 {K:W.Frag} {H3:Hp} {l:Addr} {n:Nat} {g:Nat->Int×Int} {o3 o4:Option V} {D:gQ} (A:Abv g n) (ha3:H3 a=some (.lst (List.map V.ref ps))) (hf3:aO K H3 ps (ofF n g)) (hi:i<n) (l3:H3 l=some (.lst (List.map V.int (ofF i λ k=>tpR g k n))))
  (k:∀ σ H',(∃ o2 o3 o4,σ=[some (.ref a),some (.ref l),o2,o3,o4,none,none]/\H'=upd H3 l (.lst (List.map V.int (ofF (i+1) λ k=>tpR g k n)))/\H' l=some (.lst (List.map V.int (ofF (i+1) λ k=>tpR g k n))))->D.nx σ H'):gO K D [some (.ref a),some (.ref l),some (.int i),o3,o4,none,none] H3:=by
 have n6:=A.n6
 have pl:ps.length=n:=by rw [hf3.length,aL]
 obtain ⟨pi,hpi⟩:∃ p,ps[i]?=some p:=⟨_,getElem?_eq_getElem (by omega)⟩
 obtain ⟨gi,egi,hGi⟩:=hf3.get hpi
 obtain ⟨_,rfl⟩:=dQ egi
 have ati:atI (List.map V.ref ps) (i:Int)=some (.ref pi):=cE (by rw [getElem?_map,hpi];rfl)
 (dsimp? [gO])
 refine ⟨_,SqL.of ha3,_,ati,_,rfl,_,hGi,_,jT,?_⟩
 (dsimp? [oN,cH,eL])
 refine ⟨_,.inl (SqL.of ha3),?_⟩
 rw [length_map,pl,Int.toNat_natCast,show (g i).2=tpR g i 0 from rfl]
 refine ⟨by omega,by omega,kD (lo:=0) (n:=n) (g:=aI 4) (D:={ D with nx:=jJ K D }) (iv_sh2 a l i g H3) ⟨rfl,_,rfl⟩ ?_ ?_⟩
 ·rintro j σ H4 hj ⟨rfl,o4',rfl⟩
  obtain ⟨pj,hpj⟩:∃ p,ps[j]?=some p:=⟨_,getElem?_eq_getElem (by omega)⟩
  obtain ⟨gj,egj,hGj⟩:=hf3.get hpj
  obtain ⟨_,rfl⟩:=dQ egj
  have atj:atI (List.map V.ref ps) (j:Int)=some (.ref pj):=cE (by rw [getElem?_map,hpj];rfl)
  (dsimp? [jK];try simp_arith [jK,Int.zero_add])
  by_cases e:j=i
  ·rw [if_neg (by simp [e])]
   refine ⟨rfl,some (.int j),?_⟩
   show _=[_,_,_,some (V.int (if j=i then tpR g i j else tpR g i j*(g j).1)),_,_,_]
   rw [if_pos e]
  ·rw [if_pos (by simp;omega)]
   refine ⟨_,SqL.of ha3,_,atj,_,rfl,_,hGj,_,kT,_,rfl,.b (m:=500) (n:=60) ((Gk (A.p i hi).2.2.2 (n:=j) λ x hx=>(A.p x (by omega)).2.2.1).mono (by omega)) (A.p j hj).2.2.1,rfl,some (.int j),?_⟩
   show _=[_,_,_,some (V.int (if j=i then tpR g i j else tpR g i j*(g j).1)),_,_,_]
   rw [if_neg e]
 ·rintro σ H4 ⟨rfl,o4',rfl⟩
  (dsimp? [jJ,iA,tBM,gK])
  refine ⟨.inl ⟨rfl,_,SqL.of l3⟩,_,l3,by rw [length_map,aL,sizeLine_eq];omega,k _ _ ⟨_,_,_,rfl,?_,?_⟩⟩
  ·rw [bR,map_append];rfl
  ·rw [aD,bR,map_append];rfl
theorem Fp {K vs H Q E} (h:iW K vs H Q E):pQ K { nx:=λ _ H'=>Q .non H',rt:=Q } (start xO vs) H:=by
 obtain ⟨a,ps,n,g,rfl,ha,hf,A,q⟩:=h
 have pl:ps.length=n:=by rw [hf.length,aL]
 have n6:=A.n6
 rw [show start xO [V.ref a]=[some (.ref a),none,none,none,none,none,none] from rfl]
 (dsimp? [pQ,cH,eL])
 refine ⟨sz0,λ l hl=>?_⟩
 have s1:aE H (upd H l (.lst [])):=aE.upd hl
 have l1:(upd H l (.lst [])) l=some (.lst []):=aD
 generalize upd H l (.lst [])=H1 at s1 l1
 refine ⟨_,.inl (SqL.of (s1 _ _ ha)),?_⟩
 rw [length_map,pl,Int.toNat_natCast]
 refine ⟨by omega,by omega,kD (lo:=0) (n:=n) (g:=aI 2) (D:={ nx:=gM K { nx:=λ _ H'=>Q .non H',rt:=Q },rt:=Q }) (iv_sh1 a l n g H) ⟨none,none,none,rfl,s1,l1⟩ ?_ ?_⟩
 ·rintro i σ H3 hi ⟨o2,o3,o4,rfl,s3,l3⟩
  show gO K _ [some (.ref a),some (.ref l),some (.int (0+(i:Int))),o3,o4,none,none] H3
  rw [Int.zero_add]
  exact shr_b3 A (s3 _ _ ha) (hf.same s3) hi l3 λ σ H' ⟨o2,o3,o4,e1,e2⟩=>⟨o2,o3,o4,e1,by rw [e2.1];exact s3.put hl,e2.2⟩
 ·rintro σ H3 ⟨o2,o3,o4,rfl,s3,l3⟩
  exact shr_r3 A l3 λ l qs H' s'=>q l qs H' (s3.trans s')
def N_law:List PySem.Str:=["_law_script", "_law_head", "_law_wide", "_law_many", "_law_on", "_law_ones", "_law_others", "_law_cells", "_law_three", "_law_i", "_law_j", "_law_found", "_law_shares_here"]
def vR (K:W.Frag):Sp:=λ vs H Q _=>∃ (a:Addr) (ns:List Int),vs=[.ref a]/\SqL K H a (ns.map V.int)/\ns.length<=63/\∀ H',Q (.bl true) H'
structure Dr2 (K:W.Frag) (H:Hp) (b:Bool) (m on:Nat) (x1 x2:Addr) (ps1 ps2:List Addr) (ga gb:Nat->Int×Int):Prop where
 h1:H x1=some (.lst (List.map V.ref ps1))
 f1:mD H ps1 (ofF m ga)
 h2:H x2=some (.lst (List.map V.ref ps2))
 f2:mD H ps2 (ofF m gb)
 g1:∀ k,k<m->Gp (apb b) (arb b) (ga k)/\0<(ga k).1
 g2:∀ k,k<m->Gp (apb b) (arb b) (gb k)/\0<(gb k).1
 on_:on<m
 mb:m<=(if b then 6 else 4)
def rR (a hd:Addr) (b:Bool) (m on:Nat) (x1 x2 c d:Addr) (o9 o10:Option V):St:=[some (.ref a),some (.ref hd),some (.bl b),some (.int m),some (.int on),some (.ref x1),some (.ref x2),some (.ref c),some (.ref d),o9,o10,none,none]
def Nx (a hd:Addr) (b:Bool) (m on:Nat) (x1 x2 c d:Addr) (ga gb:Nat->Int×Int) (H0:Hp) (N:Nat):St->Hp->Prop:=λ σ H=>∃ o9 o10 ad pa ad3 xt,σ=rR a hd b m on x1 x2 c d o9 o10/\aE H0 H/\Ce2 H c m N (apb b) (arb b) ad pa (cf m on ga gb)/\Th3 H d m N ad3 xt
def wG (K:W.Frag):TE:=(tOp (bW K) (aB 1) (tOp eJ (tOp qD (aB 0) (aB 3)) (aB 2)))
def wD (K:W.Frag):TS:=(aX (aU (lC K) [] E0 (aC (tOp (bW K) (aB 11) (tC (.int 1))) (aC (bP (eL (aC (aB 3) aM)) [12,3,4] (wG K)) aM))))
def Ec (K:W.Frag):TS:=(aQ (aW (aU (iW K) [] E0 (aC (aB 5) aM)) (aI 12)) (wD K))
def Eb (K:W.Frag):TS:=(aQ (dU (tOr (vJ (tB (tCB Dr (aC (aB 11) (aC (tC (.ty "list")) aM))))) (tOr (bA (tOp rNe (tCB (lZ K) (aC (aB 11) aM)) (tC (.int 2)))) (vJ (tB (aU (lC K) [] E0 (aC (tOp (bW K) (aB 11) (tC (.int 0))) (aC (aU (iW K) [] E0 (aC (aB 6) aM)) aM))))))) (aX (tC (.bl false))) bS) (Ec K))
def Ea (K:W.Frag):TS:=(aQ (aW (aU (qW K) [] E0 (aC (tD (aR K "Table") (eQ K) [] E0 (aC (jC (aC (aB 3) (aC (aB 3) aM))) (aC (aB 7) aM))) aM)) (aI 11)) (Eb K))
def qS (K:W.Frag):TS:=(aQ (dU (vJ (tB (aU (lS K) [] E0 (aC (tD (aR K "Table") (eQ K) [] E0 (aC (jC (aC (aB 3) (aC (tC (.int 1)) (aC (aB 3) aM)))) (aC (aB 8) aM))) aM)))) (aX (tC (.bl false))) bS) (Ea K))
def wC (K:W.Frag):TS:=(oJ (aB 8) (fR (aC (aB 9) (aC (tC (.int 0)) (aC (aB 10) aM)))) (tOp rT (qB (aB 7) (fR (aC (aB 9) (aC (aB 10) aM)))) (jC (aC (fR (aC (tC (.int 0)) (aC (tC (.int 1)) aM))) aM))))
def qU (K:W.Frag):TS:=(aQ (oJ (aB 7) (fR (aC (aB 9) (aC (aB 10) aM))) (jC (aC (fR (aC (tC (.int 0)) (aC (tC (.int 1)) aM))) (aC (fR (aC (tC (.int 0)) (aC (tC (.int 1)) aM))) aM)))) (aQ (dU (bA (tOp rEq (aB 10) (tOp eJ (tOp gU (aB 9) (aB 4)) (aB 3)))) (oJ (aB 7) (fR (aC (aB 9) (aC (aB 10) aM))) (jC (aC (tOp (bW K) (aB 5) (aB 9)) (aC (fR (aC (tOp qD (tC (.int 0)) (tOp (dL K) (tOp (bW K) (aB 6) (aB 9)) (tC (.int 0)))) (aC (tOp (dL K) (tOp (bW K) (aB 6) (aB 9)) (tC (.int 1))) aM))) aM)))) bS) (wC K)))
def qT (K:W.Frag):TS:=(cH (eL (aC (aB 3) aM)) (aI 10) (qU K))
def wB (K:W.Frag):TS:=(aQ (cH (eL (aC (aB 3) aM)) (aI 9) (qT K)) (qS K))
def Dz (K:W.Frag):TS:=(aQ (aW sB (aI 8)) (wB K))
def Dy (K:W.Frag):TS:=(aQ (aW sB (aI 7)) (Dz K))
def wF (K:W.Frag):TE:=(aU (lD K) [] E0 (aC (tOp (bW K) (aB 2) (tOp gU (tC (.int 9)) (aB 0))) (aC (aB 1) aM)))
def zQ (K:W.Frag):TS:=(aQ (aW (bP (eL (aC (aB 3) aM)) [2,1] (wF K)) (aI 6)) (Dy K))
def wE (K:W.Frag):TE:=(aU (lD K) [] E0 (aC (tOp (bW K) (aB 2) (tOp gU (tC (.int 3)) (aB 0))) (aC (aB 1) aM)))
def sL (K:W.Frag):TS:=(aQ (aW (bP (eL (aC (aB 3) aM)) [2,1] (wE K)) (aI 5)) (zQ K))
def sJ (K:W.Frag):TS:=(aQ (aW (tOp eJ (tOp (bW K) (aB 1) (tC (.int 2))) (aB 3)) (aI 4)) (sL K))
def zP (K:W.Frag):TS:=(aQ (aW (tOp gU (tC (.int 1)) (tOp eJ (tOp (bW K) (aB 1) (tC (.int 1))) (tOp (bW K) (jC (aC (tC (.int 4)) (aC (tC (.int 6)) aM))) (tOp eJ (tOp (bW K) (aB 1) (tC (.int 0))) (tC (.int 2)))))) (aI 3)) (sJ K))
def zO (K:W.Frag):TS:=(aQ (aW (tOp rEq (tOp eJ (tOp (bW K) (aB 1) (tC (.int 0))) (tC (.int 2))) (tC (.int 1))) (aI 2)) (zP K))
def Oh (K:W.Frag):TS:=(aQ (aW (aU (hW K) [] E0 (aC (aB 0) (aC (tC (.int 15)) aM))) (aI 1)) (zO K))
theorem Dr2.same {K:W.Frag} {b:Bool} {on:Nat} (h:Dr2 K H b m on x1 x2 ps1 ps2 ga gb) (s:aE H H'):Dr2 K H' b m on x1 x2 ps1 ps2 ga gb:=⟨s _ _ h.h1,h.f1.same s,s _ _ h.h2,h.f2.same s,h.g1,h.g2,h.on_,h.mb⟩
theorem gp_z {b:Bool}:Gp (apb b) (arb b) (0,1):=by
 refine ⟨(show (0:Int)<1 by decide),?_,?_⟩
 ·show (0:Int).natAbs<_;exact Nat.two_pow_pos _
 ·cases b
  ·show (1:Int).natAbs<2 ^ 4;decide
  ·show (1:Int).natAbs<2 ^ 1;decide
theorem Jb {K:W.Frag} {b:Bool} {on:Nat} (D2:Dr2 K H b m on x1 x2 ps1 ps2 ga gb) (hi:i<m) (hj:j<m) (hh:h<=1):Gp (apb b) (arb b) (cf m on ga gb (i*m+j) h):=by
 rw [vQ hj]
 split
 ·rcases (show h=0∨h=1 by omega) with rfl | rfl
  ·exact (D2.g1 i hi).1
  ·have g:=(D2.g2 i hi).1
   exact ⟨g.1,g.2.1.of_le (by show (0 - (gb i).1).natAbs<=_;omega),g.2.2⟩
 ·exact gp_z
theorem Po {K:W.Frag} {c:Addr} (cd:c≠d) {b:Bool} {on:Nat} {xt:Nat->List V} {D:gQ} (s0:aE H0 H) (hd0:H0 d=none) (hi:i<m) (hj:j<m) (m6:m<=6) (ce:Ce2 H c m (i*m+j+1) (apb b) (arb b) ad pa (cf m on ga gb)) (th:Th3 H d m (i*m+j) ad3 xt) (k:∀ σ H',Nx a hd b m on x1 x2 c d ga gb H0 (i*m+j+1) σ H'/\σ[9]?=some (some (.int i))->D.nx σ H'):wC K D (rR a hd b m on x1 x2 c d (some (.int i)) (some (.int j))) H:=by
 have lt:i*m+j<36:=by have:=iV hi hj;have:=Nat.mul_le_mul m6 m6;omega
 have q1:(i*m+j) / m=i:=by rw [Nat.mul_comm,Nat.mul_add_div (by omega),Nat.div_eq_of_lt hj];omega
 have q2:(i*m+j) % m=j:=by rw [Nat.mul_comm,Nat.mul_add_mod,Nat.mod_eq_of_lt hj]
 unfold rR
 (dsimp? [wC,oJ,qB,rT])
 refine ⟨sz2,λ kp hkp=>?_⟩
 have s1:aE H (upd H kp (.tup [.int i,.int j])):=aE.upd hkp
 have k1:(upd H kp (.tup [.int i,.int j])) kp=some (.tup ((tk [i,j]).map kV)):=by rw [vN];exact aD
 generalize upd H kp (.tup [.int i,.int j])=H1 at s1 k1
 have ce1:=ce.same s1
 have v1:=(ce1.v (i*m+j) (by omega)).1
 refine ⟨_,by rw [← Pz (ad:=ad) hj (show i*m+j<i*m+j+1 by omega)];exact mH.t ce1.at_ k1,?_⟩
 refine ⟨sz2,λ z hz=>⟨sz1,λ y hy=>?_⟩⟩
 have s2:aE H1 (upd (upd H1 z (.tup [.int 0,.int 1])) y (.lst [.ref z])):=(aE.upd hz).trans (aE.upd hy)
 have y2:(upd (upd H1 z (.tup [.int 0,.int 1])) y (.lst [.ref z])) y=some (.lst [.ref z]):=aD
 generalize upd (upd H1 z (.tup [.int 0,.int 1])) y (.lst [.ref z])=H2 at s2 y2
 refine ⟨_,rfl,_,s2 _ _ v1,_,y2,by show 2+1<=sizeLine;decide,λ l hl=>?_⟩
 have s3:aE H2 (upd H2 l (.lst ([.ref (pa (i*m+j) 0),.ref (pa (i*m+j) 1)]++[.ref z]))):=aE.upd hl
 have l3:(upd H2 l (.lst ([.ref (pa (i*m+j) 0),.ref (pa (i*m+j) 1)]++[.ref z]))) l=some (.lst ([.ref (pa (i*m+j) 0),.ref (pa (i*m+j) 1)]++[.ref z])):=aD
 generalize upd H2 l (.lst ([.ref (pa (i*m+j) 0),.ref (pa (i*m+j) 1)]++[.ref z]))=H3 at s3 l3
 refine ⟨sz3,λ kq hkq=>?_⟩
 have s4:aE H3 (upd H3 kq (.tup [.int i,.int 0,.int j])):=aE.upd hkq
 have k4:(upd H3 kq (.tup [.int i,.int 0,.int j])) kq=some (.tup ((tk [i,0,j]).map kV)):=by rw [vN];exact aD
 generalize upd H3 kq (.tup [.int i,.int 0,.int j])=H4 at s4 k4
 have s04:=s1.trans (s2.trans (s3.trans s4))
 have th4:=th.same s04
 refine ⟨_,vM.t th4.at_ k4 (by unfold uH;rw [aL,sizeLine_eq];omega),k _ _ ⟨?_,rfl⟩⟩
 obtain ⟨ad',xt',th'⟩:=th4.put (s4 _ _ l3) rfl
 rw [q1,q2] at th'
 have ce4:=ce.same s04
 refine ⟨_,_,ad,pa,ad',xt',rfl,(s0.trans s04).put hd0,⟨by rw [aN cd];exact ce4.at_,λ k' hk'=>?_⟩,th'⟩
 obtain ⟨w1,w2⟩:=ce4.v k' hk'
 exact ⟨by rw [aN (eK w1 th4.at_ (by intro z;cases z))];exact w1,λ h hh=>⟨by rw [aN (eK (w2 h hh).1 th4.at_ (by intro z;cases z))];exact (w2 h hh).1,(w2 h hh).2⟩⟩
theorem l42_b1 {K:W.Frag} {c:Addr} (cd:c≠d) {b:Bool} {on:Nat} {xt:Nat->List V} {D:gQ} (D2:Dr2 K H0 b m on x1 x2 ps1 ps2 ga gb) (s0:aE H0 H) (hc0:H0 c=none) (hd0:H0 d=none) (hi:i<m) (hj:j<m) (m6:m<=6) (ce:Ce2 H c m (i*m+j) (apb b) (arb b) ad pa (cf m on ga gb)) (th:Th3 H d m (i*m+j) ad3 xt) (k:∀ σ H',Nx a hd b m on x1 x2 c d ga gb H0 (i*m+j+1) σ H'/\σ[9]?=some (some (.int i))->D.nx σ H'):qU K D (rR a hd b m on x1 x2 c d (some (.int i)) (some (.int j))) H:=by
 have lt:i*m+j<36:=by have:=iV hi hj;have:=Nat.mul_le_mul m6 m6;omega
 have q1:(i*m+j) / m=i:=by rw [Nat.mul_comm,Nat.mul_add_div (by omega),Nat.div_eq_of_lt hj];omega
 have q2:(i*m+j) % m=j:=by rw [Nat.mul_comm,Nat.mul_add_mod,Nat.mod_eq_of_lt hj]
 have om:=D2.on_
 have gp0:=Jb D2 hi hj (h:=0) (by decide)
 have gp1:=Jb D2 hi hj (h:=1) (by decide)
 have nkey:dR (ckv m ad (i*m+j)) (tk [i,j])=none:=by have:=Cf (m1:=m) (ad:=ad) (k:=i*m+j);rwa [q1,q2] at this
 unfold rR
 (dsimp? [qU,oJ])
 refine ⟨sz2,λ z1 h1=>⟨sz2,λ z2 h2=>⟨sz2,λ l hl=>?_⟩⟩⟩
 have s1:aE H (upd (upd (upd H z1 (.tup [.int 0,.int 1])) z2 (.tup [.int 0,.int 1])) l (.lst [.ref z1,.ref z2])):=(aE.upd h1).trans ((aE.upd h2).trans (aE.upd hl))
 have l1:(upd (upd (upd H z1 (.tup [.int 0,.int 1])) z2 (.tup [.int 0,.int 1])) l (.lst [.ref z1,.ref z2])) l=some (.lst [.ref z1,.ref z2]):=aD
 have z11:(upd (upd (upd H z1 (.tup [.int 0,.int 1])) z2 (.tup [.int 0,.int 1])) l (.lst [.ref z1,.ref z2])) z1=some (.tup [.int 0,.int 1]):=((aE.upd h2).trans (aE.upd hl)) _ _ aD
 have z21:(upd (upd (upd H z1 (.tup [.int 0,.int 1])) z2 (.tup [.int 0,.int 1])) l (.lst [.ref z1,.ref z2])) z2=some (.tup [.int 0,.int 1]):=(aE.upd hl) _ _ aD
 generalize upd (upd (upd H z1 (.tup [.int 0,.int 1])) z2 (.tup [.int 0,.int 1])) l (.lst [.ref z1,.ref z2])=H1 at s1 l1 z11 z21
 refine ⟨sz2,λ kp hkp=>?_⟩
 have s2:aE H1 (upd H1 kp (.tup [.int i,.int j])):=aE.upd hkp
 have k2:(upd H1 kp (.tup [.int i,.int j])) kp=some (.tup ((tk [i,j]).map kV)):=by rw [vN];exact aD
 generalize upd H1 kp (.tup [.int i,.int j])=H2 at s2 k2
 have s02:=s1.trans s2
 have ce2:=ce.same s02
 have th2:=th.same s02
 refine ⟨_,vM.t ce2.at_ k2 (by unfold ckv;rw [aL,sizeLine_eq];omega),?_⟩
 have c3:(upd H2 c (.dT (eF (ckv m ad (i*m+j)) (tk [i,j]) (.ref l)))) c=some (.dT (eF (ckv m ad (i*m+j)) (tk [i,j]) (.ref l))):=aD
 have kp3:∀ z o,H2 z=some o->z≠c->(upd H2 c (.dT (eF (ckv m ad (i*m+j)) (tk [i,j]) (.ref l)))) z=some o:=λ z o e n=>by rw [aN n];exact e
 have s03:aE H0 (upd H2 c (.dT (eF (ckv m ad (i*m+j)) (tk [i,j]) (.ref l)))):=(s0.trans s02).put hc0
 generalize upd H2 c (.dT (eF (ckv m ad (i*m+j)) (tk [i,j]) (.ref l)))=H3 at c3 kp3 s03
 have nc:∀ {z:Addr} {o:HO},H2 z=some o->(∀ kv,o≠.dT kv)->z≠c:=λ {z o} e n q=>by rw [q,ce2.at_] at e;exact n _ (Option.some.inj e).symm
 have th3:Th3 H3 d m (i*m+j) ad3 xt:=th2.keep ((kp3 _ _ th2.at_ (Ne.symm cd)).trans th2.at_.symm) λ z xs e=>kp3 _ _ e (nc e (λ _ q=>by cases q))
 have l3:=kp3 _ _ (s2 _ _ l1) (nc (s2 _ _ l1) (λ _ q=>by cases q))
 have e1:((i:Int)+(on:Int)) % (m:Int)=(((i+on) % m:Nat):Int):=by push_cast;rfl
 refine ⟨by omega,uG (λ e=>?_) (λ e=>?_)⟩
 ·have ej:j=(i+on) % m:=by rw [e1] at e;omega
  have hcf:∀ h,cf m on ga gb (i*m+j) h=two (ga i) (0 - (gb i).1,(gb i).2) h:=λ h=>by rw [vQ hj,if_pos ej]
  have d3:=D2.same s03
  obtain ⟨p1,hp1⟩:∃ p,ps1[i]?=some p:=⟨_,getElem?_eq_getElem (by rw [d3.f1.length,aL];exact hi)⟩
  obtain ⟨p2,hp2⟩:∃ p,ps2[i]?=some p:=⟨_,getElem?_eq_getElem (by rw [d3.f2.length,aL];exact hi)⟩
  have v1:=d3.f1.at_ hp1 hi
  have v2:=d3.f2.at_ hp2 hi
  have at1:atI (List.map V.ref ps1) (i:Int)=some (.ref p1):=cE (by rw [getElem?_map,hp1];rfl)
  have at2:atI (List.map V.ref ps2) (i:Int)=some (.ref p2):=cE (by rw [getElem?_map,hp2];rfl)
  refine ⟨_,SqL.of d3.h1,_,at1,_,SqL.of d3.h2,_,at2,_,rfl,_,SqT.of v2,_,kT,_,rfl,_,SqL.of d3.h2,_,at2,_,rfl,_,SqT.of v2,_,jT,sz2,λ y hy=>⟨sz2,λ l' hl'=>?_⟩⟩
  have s4:aE H3 (upd (upd H3 y (.tup [.int (0 - (gb i).1),.int (gb i).2])) l' (.lst [.ref p1,.ref y])):=(aE.upd hy).trans (aE.upd hl')
  have y4:(upd (upd H3 y (.tup [.int (0 - (gb i).1),.int (gb i).2])) l' (.lst [.ref p1,.ref y])) y=some (.tup [.int (0 - (gb i).1),.int (gb i).2]):=(aE.upd hl') _ _ aD
  have l4:(upd (upd H3 y (.tup [.int (0 - (gb i).1),.int (gb i).2])) l' (.lst [.ref p1,.ref y])) l'=some (.lst [.ref p1,.ref y]):=aD
  generalize upd (upd H3 y (.tup [.int (0 - (gb i).1),.int (gb i).2])) l' (.lst [.ref p1,.ref y])=H4 at s4 y4 l4
  refine ⟨sz2,λ kq hkq=>?_⟩
  have s5:aE H4 (upd H4 kq (.tup [.int i,.int j])):=aE.upd hkq
  have k5:(upd H4 kq (.tup [.int i,.int j])) kq=some (.tup ((tk [i,j]).map kV)):=by rw [vN];exact aD
  generalize upd H4 kq (.tup [.int i,.int j])=H5 at s5 k5
  have s35:=s4.trans s5
  have c5:=s35 _ _ c3
  refine ⟨_,vM.t c5 k5 ?_,?_⟩
  ·have:=gZ (ckv m ad (i*m+j)) (tk [i,j]) (V.ref l)
   unfold ckv at this ⊢
   rw [aL] at this
   rw [sizeLine_eq];omega
  rw [Ia nkey]
  have off:∀ {z:Addr} {o:HO},H5 z=some o->(∀ kv,o≠.dT kv)->(upd H5 c (.dT (eF (ckv m ad (i*m+j)) (tk [i,j]) (.ref l')))) z=some o:=λ {z o} e n=>by
   rw [aN (λ q=>by rw [q,c5] at e;exact n _ (Option.some.inj e).symm)];exact e
  have c6:(upd H5 c (.dT (eF (ckv m ad (i*m+j)) (tk [i,j]) (.ref l')))) c=some (.dT (eF (ckv m ad (i*m+j)) (tk [(i*m+j) / m,(i*m+j) % m]) (.ref l'))):=by rw [q1,q2];exact aD
  obtain ⟨ad',pa',ce'⟩:=ce2.more (H':=upd H5 c (.dT (eF (ckv m ad (i*m+j)) (tk [i,j]) (.ref l')))) c6 (λ z o e n=>by rw [aN n];exact s35 _ _ (kp3 _ _ e n)) (off (s5 _ _ l4) (λ _ q=>by cases q)) (by rw [hcf];exact off (s35 _ _ v1) (λ _ q=>by cases q)) (by rw [hcf];exact off (s5 _ _ y4) (λ _ q=>by cases q)) gp0 gp1
  have th6:Th3 (upd H5 c (.dT (eF (ckv m ad (i*m+j)) (tk [i,j]) (.ref l')))) d m (i*m+j) ad3 xt:=(th3.same s35).keep (by rw [aN (Ne.symm cd)]) λ z xs e=>off e (λ _ q=>by cases q)
  exact Po cd ((s03.trans s35).put hc0) hd0 hi hj m6 ce' th6 k
 ·have ej:¬ j=(i+on) % m:=λ z=>e (by rw [e1,← z])
  have hcf:∀ h,cf m on ga gb (i*m+j) h=(0,1):=λ h=>by rw [vQ hj,if_neg ej]
  obtain ⟨ad',pa',ce'⟩:=ce2.more (H':=H3) (by rw [q1,q2];exact c3) kp3 l3 (by rw [hcf];exact kp3 _ _ (s2 _ _ z11) (nc (s2 _ _ z11) (λ _ q=>by cases q))) (by rw [hcf];exact kp3 _ _ (s2 _ _ z21) (nc (s2 _ _ z21) (λ _ q=>by cases q))) gp0 gp1
  exact Po cd s03 hd0 hi hj m6 ce' th3 k
theorem l42_b2 {K:W.Frag} {c:Addr} {b:Bool} {on:Nat} {xt:Nat->List V} {o10:Option V} {D:gQ} (cd:c≠d) (D2:Dr2 K H0 b m on x1 x2 ps1 ps2 ga gb) (s0:aE H0 H) (hc0:H0 c=none) (hd0:H0 d=none) (hi:i<m) (m6:m<=6) (ce:Ce2 H c m (i*m) (apb b) (arb b) ad pa (cf m on ga gb)) (th:Th3 H d m (i*m) ad3 xt) (k:∀ σ H',Nx a hd b m on x1 x2 c d ga gb H0 (i*m+m) σ H'->D.nx σ H'):qT K D (rR a hd b m on x1 x2 c d (some (.int i)) o10) H:=by
 unfold rR
 (dsimp? [qT,cH,eL])
 rw [Int.toNat_natCast]
 refine ⟨by omega,by omega,kD (lo:=0) (n:=m) (g:=aI 10) (D:=D) (λ j σ H=>Nx a hd b m on x1 x2 c d ga gb H0 (i*m+j) σ H/\σ[9]?=some (some (.int i))) ⟨⟨_,_,ad,pa,ad3,xt,rfl,s0,ce,th⟩,rfl⟩ ?_ ?_⟩
 ·rintro j σ H3 hj ⟨⟨o9,o10,ad,pa,ad3,xt,rfl,s3,ce,th⟩,e9⟩
  obtain rfl:o9=some (.int i):=Option.some.inj e9
  show qU K _ (rR a hd b m on x1 x2 c d (some (.int i)) (some (.int (0+(j:Int))))) H3
  rw [Int.zero_add]
  exact l42_b1 cd D2 s3 hc0 hd0 hi hj m6 ce th λ σ H' r=>r
 ·rintro σ H3 ⟨r,_⟩
  exact k σ H3 r
theorem l42_r1 {K:W.Frag} {c fo q0 q1 sh:Addr} {b:Bool} {on:Nat} {us1 qs:List Addr} {o9 o10:Option V} {D:gQ} (om:on<m) (m6:m<=6) (hfo:H fo=some (.lst [.ref q0,.ref q1])) (h1:H q1=some (.lst (List.map V.ref us1))) (f1:aO K H us1 (ofF m λ k=>shF ga m ((k+(m - on)) % m))) (hsh:H sh=some (.lst (List.map V.ref qs))) (hq:aO K H qs (ofF m (shF ga m))) (q:∀ H',D.rt (.bl true) H') :
  wD K D [some (.ref a),some (.ref hd),some (.bl b),some (.int m),some (.int on),some (.ref x1),some (.ref x2),some (.ref c),some (.ref d),o9,o10,some (.ref fo),some (.ref sh)] H:=by
 have ql:=hq.length
 rw [aL] at ql
 (dsimp? [wD,bP,eL])
 refine ⟨_,SqL.of hfo,_,jT,by omega,by omega,?_⟩
 rw [Int.toNat_natCast]
 refine gB (lo:=0) (W:=λ j zs H5=>aE H H5/\∃ rs,zs=List.map V.ref rs/\aO K H5 rs (ofF j λ k=>shF ga m ((k+(m - on)) % m))) (by rw [sizeLine_eq];omega) ⟨aE.refl _,[],rfl,trivial⟩ ?_ ?_
 ·rintro j zs H5 hj _ ⟨s5,rs,rfl,hr⟩
  obtain ⟨t1,_⟩:=(Jk om).2 j hj
  obtain ⟨p,hp⟩:∃ p,qs[(j+(m - on)) % m]?=some p:=⟨_,getElem?_eq_getElem (by omega)⟩
  obtain ⟨g,eg,hG⟩:=hq.get hp
  obtain ⟨_,rfl⟩:=dQ eg
  have e:((j:Int) - (on:Int)) % (m:Int)=(((j+(m - on)) % m:Nat):Int):=by
   rw [Int.natCast_emod,show ((j+(m - on):Nat):Int)=(j:Int) - on+m by omega,Int.add_emod_right]
  show wG K [some (.int (0+(j:Int))),some (.ref sh),some (.int m),some (.int on)] H5 _
  rw [Int.zero_add]
  (dsimp? [wG])
  refine ⟨by omega,?_⟩
  rw [e]
  refine ⟨_,SqL.of (s5 _ _ hsh),_,cE (by rw [getElem?_map,hp];rfl),s5,rs++[p],by rw [map_append];rfl,?_⟩
  rw [bR]
  exact aO.snoc hr (s5.tup hG)
 ·rintro zs H5 _ ⟨s5,rs,rfl,hr⟩ l hl
  have s6:aE H5 (upd H5 l (.lst (List.map V.ref rs))):=aE.upd hl
  exact ⟨q1,l,us1,rs,m,_,rfl,(s5.trans s6) _ _ h1,f1.same (s5.trans s6),aD,hr.same s6,q _⟩
theorem l42_r5 {K:W.Frag} {c:Addr} {b:Bool} {on:Nat} {xt:Nat->List V} {o9 o10:Option V} {D:gQ} (D2:Dr2 K H b m on x1 x2 ps1 ps2 ga gb) (ce:Ce2 H c m (m*m) (apb b) (arb b) ad pa (cf m on ga gb)) (th:Th3 H d m (m*m) ad3 xt) (q:∀ H',D.rt (.bl true) H'):qS K D (rR a hd b m on x1 x2 c d o9 o10) H:=by
 have om:=D2.on_
 have mb:=D2.mb
 have m6:m<=6:=by split at mb <;> omega
 have Aa:Abv ga m:=⟨λ k hk=>by
  obtain ⟨g,p⟩:=D2.g1 k hk
  exact ⟨p,g.1,g.2.1.mono (by unfold apb;split <;> decide),g.2.2.mono (by unfold arb;split <;> decide)⟩,by omega,m6⟩
 have Ab:Abv gb m:=⟨λ k hk=>by
  obtain ⟨g,p⟩:=D2.g2 k hk
  exact ⟨p,g.1,g.2.1.mono (by unfold apb;split <;> decide),g.2.2.mono (by unfold arb;split <;> decide)⟩,by omega,m6⟩
 have zB3:Sz [m,1,m]:=⟨by show 3<=3;decide,λ n hn=>by simp at hn;omega,λ n hn=>by simp at hn;omega⟩
 have zB2:Sz [m,m]:=⟨by show 2<=3;decide,λ n hn=>by simp at hn;omega,λ n hn=>by simp at hn;omega⟩
 have tm:∀ h,two m m h=m:=λ h=>by unfold two;split <;> rfl
 unfold rR
 (dsimp? [qS,tD])
 refine ⟨sz3,λ sl hsl=>?_⟩
 have s1:aE H (upd H sl (.lst [.int m,.int 1,.int m])):=aE.upd hsl
 have l1:(upd H sl (.lst [.int m,.int 1,.int m])) sl=some (.lst (tv [m,1,m])):=aD
 generalize upd H sl (.lst [.int m,.int 1,.int m])=H1 at s1 l1
 intro t dx ht hdx hdt
 have t2:(upd H1 dx (.own t)) t=none:=by rw [aN (Ne.symm hdt)];exact ht
 have s2:aE H1 (upd (upd H1 dx (.own t)) t (.ins (aR K "Table") dx [])):=(aE.upd hdx).trans (aE.upd t2)
 have t3:(upd (upd H1 dx (.own t)) t (.ins (aR K "Table") dx [])) t=some (.ins (aR K "Table") dx []):=aD
 generalize upd (upd H1 dx (.own t)) t (.ins (aR K "Table") dx [])=H2 at s2 t3
 have th2:=th.same (s1.trans s2)
 have three_of:∀ q∈cM [m,1,m].reverse,∃ x y,q=[x,0,y]/\x<m/\y<m:=λ q hq=>by
  have ql:=eT _ q hq
  match q,ql with
  | [x,z,y],_ =>
   have a1:=kW _ _ hq 0 m x rfl rfl
   have a2:=kW _ _ hq 1 1 z rfl rfl
   have a3:=kW _ _ hq 2 m y rfl rfl
   exact ⟨x,y,by rw [show z=0 by omega],a1,a3⟩
 refine ⟨t,dx,sl,d,[m,1,m],uH m ad3 (m*m),λ q=>xt (q.getD 0 0*m+q.getD 2 0),rfl,t3,SqL.of (s2 _ _ l1),by show 2<=3;decide,zB3,th2.at_,λ q hq=>?_,λ q hq=>?_,?_,λ H3 b3 tab=>⟨rfl,?_⟩⟩
 ·obtain ⟨x,y,rfl,hx,hy⟩:=three_of q hq
  exact ⟨ad3 (x*m+y),Uz hy (iV hx hy),(th2.v _ (iV hx hy)).1⟩
 ·obtain ⟨x,y,rfl,hx,hy⟩:=three_of q hq
  exact (th2.v _ (iV hx hy)).2
 ·rw [nA _ λ s hs=>by simp at hs;omega]
  unfold uH
  rw [aL]
  show m*m=1*m*1*m
  rw [Nat.one_mul,Nat.mul_one]
 have s3:aE H1 H3:=λ z u e=>b3 z u (s2 z u e) (bF e ht)
 have s13:=s1.trans s3
 refine ⟨t,[m,1,m],_,rfl,tab,rfl,λ H4 s4=>⟨true,rfl,vL ?_⟩⟩
 have s14:=s13.trans s4
 (dsimp? [Ea,tD])
 refine ⟨sz2,λ sl hsl=>?_⟩
 have s5:aE H4 (upd H4 sl (.lst [.int m,.int m])):=aE.upd hsl
 have l5:(upd H4 sl (.lst [.int m,.int m])) sl=some (.lst (tv [m,m])):=aD
 generalize upd H4 sl (.lst [.int m,.int m])=H5 at s5 l5
 intro t dx ht hdx hdt
 have t6:(upd H5 dx (.own t)) t=none:=by rw [aN (Ne.symm hdt)];exact ht
 have s6:aE H5 (upd (upd H5 dx (.own t)) t (.ins (aR K "Table") dx [])):=(aE.upd hdx).trans (aE.upd t6)
 have t7:(upd (upd H5 dx (.own t)) t (.ins (aR K "Table") dx [])) t=some (.ins (aR K "Table") dx []):=aD
 generalize upd (upd H5 dx (.own t)) t (.ins (aR K "Table") dx [])=H6 at s6 t7
 have ce6:=ce.same (s14.trans (s5.trans s6))
 have two_of:∀ q∈cM [m,m].reverse,∃ x y,q=[x,y]/\x<m/\y<m:=λ q hq=>by
  have ql:=eT _ q hq
  match q,ql with
  | [x,y],_=>exact ⟨x,y,rfl,kW _ _ hq 0 m x rfl rfl,kW _ _ hq 1 m y rfl rfl⟩
 refine ⟨t,dx,sl,c,[m,m],ckv m ad (m*m),λ q=>[.ref (pa (q.getD 0 0*m+q.getD 1 0) 0),.ref (pa (q.getD 0 0*m+q.getD 1 0) 1)],rfl,t7,SqL.of (s6 _ _ l5),by show 2<=2;decide,zB2,ce6.at_,λ q hq=>?_,λ q hq=>rfl,?_,λ H7 b7 tab=>⟨rfl,?_⟩⟩
 ·obtain ⟨x,y,rfl,hx,hy⟩:=two_of q hq
  exact ⟨ad (x*m+y),Pz hy (iV hx hy),(ce6.v _ (iV hx hy)).1⟩
 ·rw [nA _ λ s hs=>by simp at hs;omega]
  unfold ckv
  rw [aL]
  show m*m=1*m*m
  rw [Nat.one_mul]
 have s7:aE H5 H7:=λ z u e=>b7 z u (s6 z u e) (bF e ht)
 have s17:=s14.trans (s5.trans s7)
 have ce7:=ce.same s17
 have tf:Bd K H7 t [m,m] (eOf m (cf m on ga gb)):=⟨_,tab,λ q hq=>by
  obtain ⟨x,y,rfl,hx,hy⟩:=two_of q hq
  have v:=(ce7.v _ (iV hx hy)).2
  exact ⟨[pa (x*m+y) 0,pa (x*m+y) 1],rfl,SqT.of (v 0 (by decide)).1,SqT.of (v 1 (by decide)).1,trivial⟩⟩
 have g:∀ h c j,h<=1->c<two m m h->j<two m m h->Gp (apb b) (arb b) (em (eOf m (cf m on ga gb)) h c j):=λ h c j hh hc hj=>by
  rw [tm] at hc hj
  rcases (show h=0∨h=1 by omega) with rfl | rfl
  ·exact Jb D2 hc hj (by decide)
  ·exact Jb D2 hj hc (by decide)
 obtain ⟨n,T⟩:∃ n,T2 (eOf m (cf m on ga gb)) m m n (apb b) (arb b):=by
  cases b
  ·exact ⟨4,by omega,by omega,.inr (.inr (.inr (.inl ⟨rfl,rfl,rfl⟩))),mb,mb,g⟩
  ·exact ⟨6,by omega,by omega,.inr (.inr (.inr (.inr ⟨rfl,rfl,rfl⟩))),m6,m6,g⟩
 refine ⟨t,rfl,.inl ⟨m,m,n,_,_,_,tf,T,λ fo q0 q1 us0 us1 f H8 s8 hfo h0 f0 h1 f1 eq=>?_⟩⟩
 obtain ⟨u0,u1⟩:=Tu om Aa Ab eq
 rw [fY (g:=shF gb m) u0] at f0
 rw [fY (g:=λ k=>shF ga m ((k+(m - on)) % m)) u1] at f1
 have d8:=D2.same (s17.trans s8)
 (dsimp? [Eb,Dr])
 refine ⟨true,.inr ⟨_,_,rfl,hfo,rfl,rfl⟩,vL ⟨_,.inl (SqL.of hfo),Ol rfl ?_⟩⟩
 refine ⟨_,SqL.of hfo,_,kT,x2,ps2,m,gb,rfl,d8.h2,d8.f2.frs,Ab,λ l qs H9 s9 hl hq=>?_⟩
 refine ⟨q0,l,us0,qs,m,_,rfl,s9 _ _ h0,f0.same s9,hl,hq,true,rfl,vL ?_⟩
 have d9:=d8.same s9
 (dsimp? [Ec])
 refine ⟨x1,ps1,m,ga,rfl,d9.h1,d9.f1.frs,Aa,λ l qs H10 s10 hl hq=>?_⟩
 exact l42_r1 om m6 ((s9.trans s10) _ _ hfo) ((s9.trans s10) _ _ h1) (f1.same (s9.trans s10)) hl hq q
theorem l42_r7 {K:W.Frag} {c:Addr} {b:Bool} {on:Nat} {D:gQ} (cd:c≠d) (D2:Dr2 K H0 b m on x1 x2 ps1 ps2 ga gb) (s0:aE H0 H) (hc0:H0 c=none) (hd0:H0 d=none) (hc:H c=some (.dT [])) (hd':H d=some (.dT [])) (q:∀ H',D.rt (.bl true) H'):wB K D (rR a hd b m on x1 x2 c d none none) H:=by
 have mb:=D2.mb
 have m6:m<=6:=by split at mb <;> omega
 unfold rR
 (dsimp? [wB,cH,eL])
 rw [Int.toNat_natCast]
 refine ⟨by omega,by omega,kD (lo:=0) (n:=m) (g:=aI 9) (D:={ D with nx:=qS K D }) (λ i σ H=>Nx a hd b m on x1 x2 c d ga gb H0 (i*m) σ H) ?_ ?_ ?_⟩
 ·rw [Nat.zero_mul]
  exact ⟨none,none,λ _=>0,λ _ _=>0,λ _=>0,λ _=>[],rfl,s0,⟨hc,λ k hk=>absurd hk (Nat.not_lt_zero _)⟩,hd',λ k hk=>absurd hk (Nat.not_lt_zero _)⟩
 ·rintro i σ H3 hi ⟨o9,o10,ad,pa,ad3,xt,rfl,s3,ce,th⟩
  show qT K _ (rR a hd b m on x1 x2 c d (some (.int (0+(i:Int)))) o10) H3
  rw [Int.zero_add]
  exact l42_b2 cd D2 s3 hc0 hd0 hi m6 ce th λ σ H' r=>by rw [Nat.add_mul,Nat.one_mul];exact r
 ·rintro σ H3 ⟨o9,o10,ad,pa,ad3,xt,rfl,s3,ce,th⟩
  exact l42_r5 (D2.same s3) ce th q
def AbL (H:Hp) (b:Bool) (zs:List V) (i:Nat):Prop:=∃ ps ga,zs=List.map V.ref ps/\mD H ps (ofF i ga)/\∀ k,k<i->Gp (apb b) (arb b) (ga k)/\0<(ga k).1
theorem AbL.nil {b:Bool}:AbL H b [] 0:=⟨[],λ _=>(0,1),rfl,⟨rfl,λ i p f h=>by simp at h⟩,λ k hk=>absurd hk (Nat.not_lt_zero _)⟩
theorem AbL.snoc {b:Bool} {zs:List V} {p:Addr} (h:AbL H b zs i) (s:aE H H') (hp:H' p=some (.tup [.int f.1,.int f.2])) (g:Gp (apb b) (arb b) f) (f0:0<f.1):AbL H' b (zs++[.ref p]) (i+1):=by
 obtain ⟨ps,ga,rfl,hf,hg⟩:=h
 have e:ofF i ga=ofF i λ k=>if k=i then f else ga k:=fY λ k hk=>by rw [if_neg (by omega)]
 rw [e] at hf
 refine ⟨ps++[p],λ k=>if k=i then f else ga k,by rw [map_append];rfl,(hf.same s).snoc hp (if_pos rfl),λ k hk=>?_⟩
 show Gp _ _ (if k=i then f else ga k)/\0<(if k=i then f else ga k).1
 by_cases z:k=i
 ·rw [if_pos z];exact ⟨g,f0⟩
 ·rw [if_neg z];exact hg k (by omega)
theorem Uj {K:W.Frag} {b:Bool} {on:Nat} {hs':List Int} {D:gQ} (hh:H hd=some (.lst (List.map V.int hs'))) (hl:hs'.length=15) (nm:∀ h∈hs',Nm h) (om:on<m) (mb:m<=(if b then 6 else 4)) (q:∀ H',D.rt (.bl true) H'):sL K D [some (.ref a),some (.ref hd),some (.bl b),some (.int m),some (.int on),none,none,none,none,none,none,none,none] H:=by
 have m6:m<=6:=by split at mb <;> omega
 (dsimp? [sL,bP,eL])
 rw [Int.toNat_natCast]
 refine ⟨by omega,by omega,gB (lo:=0) (W:=λ i zs H5=>aE H H5/\AbL H5 b zs i) (by rw [sizeLine_eq];omega) ⟨aE.refl _,AbL.nil⟩ ?_ ?_⟩
 ·rintro i zs H5 hi _ ⟨s5,al⟩
  show wE K [some (.int (0+(i:Int))),some (.bl b),some (.ref hd)] H5 _
  rw [Int.zero_add]
  (dsimp? [wE])
  refine ⟨_,SqL.of (s5 _ _ hh),V.int (hs'.getD (3+i) 0),?_⟩
  rw [show (3:Int)+(i:Int)=((3+i:Nat):Int) by omega]
  exact ⟨jY (by omega),_,b,rfl,nm_at nm (by omega),λ p f H6 s6 hp g f0=>⟨s5.trans s6,al.snoc s6 hp g f0⟩⟩
 ·rintro zs H5 _ ⟨s5,ps1,ga,rfl,f1,g1⟩ x1 hx1
  have s6:aE H5 (upd H5 x1 (.lst (List.map V.ref ps1))):=aE.upd hx1
  have x16:(upd H5 x1 (.lst (List.map V.ref ps1))) x1=some (.lst (List.map V.ref ps1)):=aD
  have f16:=f1.same s6
  generalize upd H5 x1 (.lst (List.map V.ref ps1))=H6 at s6 x16 f16
  have hh6:=(s5.trans s6) _ _ hh
  (dsimp? [zQ,bP,eL])
  rw [Int.toNat_natCast]
  refine ⟨by omega,by omega,gB (lo:=0) (W:=λ i zs H7=>aE H6 H7/\AbL H7 b zs i) (by rw [sizeLine_eq];omega) ⟨aE.refl _,AbL.nil⟩ ?_ ?_⟩
  ·rintro i zs H7 hi _ ⟨s7,al⟩
   show wF K [some (.int (0+(i:Int))),some (.bl b),some (.ref hd)] H7 _
   rw [Int.zero_add]
   (dsimp? [wF])
   refine ⟨_,SqL.of (s7 _ _ hh6),V.int (hs'.getD (9+i) 0),?_⟩
   rw [show (9:Int)+(i:Int)=((9+i:Nat):Int) by omega]
   exact ⟨jY (by omega),_,b,rfl,nm_at nm (by omega),λ p f H8 s8 hp g f0=>⟨s7.trans s8,al.snoc s8 hp g f0⟩⟩
  ·rintro zs H7 _ ⟨s7,ps2,gb,rfl,f2,g2⟩ x2 hx2
   have s8:aE H7 (upd H7 x2 (.lst (List.map V.ref ps2))):=aE.upd hx2
   have x28:(upd H7 x2 (.lst (List.map V.ref ps2))) x2=some (.lst (List.map V.ref ps2)):=aD
   have f28:=f2.same s8
   generalize upd H7 x2 (.lst (List.map V.ref ps2))=H8 at s8 x28 f28
   have d8:Dr2 K H8 b m on x1 x2 ps1 ps2 ga gb:=⟨(s7.trans s8) _ _ x16,f16.same (s7.trans s8),x28,f28,g1,g2,om,mb⟩
   (dsimp? [Dy,Dz,sB])
   intro c hc d hd9
   have s9:aE H8 (upd H8 c (.dT [])):=aE.upd hc
   have c9:(upd H8 c (.dT [])) c=some (.dT []):=aD
   have cd:c≠d:=λ z=>by rw [← z,c9] at hd9;cases hd9
   have s10:aE (upd H8 c (.dT [])) (upd (upd H8 c (.dT [])) d (.dT [])):=aE.upd hd9
   exact l42_r7 cd d8 (s9.trans s10) hc (s9.free hd9) (s10 _ _ c9) aD q
theorem rd_law {K vs H Q E} (h:vR K vs H Q E):Oh K { nx:=λ _ H'=>Q .non H',rt:=Q } (start N_law vs) H:=by
 obtain ⟨a,ns,rfl,ha,nl,q⟩:=h
 rw [show start N_law [V.ref a]=[some (.ref a),none,none,none,none,none,none,none,none,none,none,none,none] from rfl]
 (dsimp? [Oh])
 refine ⟨a,ns,15,rfl,ha,nl,by decide,by decide,λ hd hs' H1 s1 hh hl nm=>?_⟩
 (dsimp? [zO])
 refine ⟨_,SqL.of hh,_,jY (i:=0) (by omega),_,rfl,by decide,?_⟩
 (dsimp? [zP])
 refine ⟨_,SqL.of hh,_,jY (i:=1) (by omega),sz2,λ x hx=>?_⟩
 have s2:aE H1 (upd H1 x (.lst [.int 4,.int 6])):=aE.upd hx
 have x2:(upd H1 x (.lst [.int 4,.int 6])) x=some (.lst [.int 4,.int 6]):=aD
 generalize upd H1 x (.lst [.int 4,.int 6])=H2 at s2 x2
 have hh2:=s2 _ _ hh
 refine ⟨_,SqL.of hh2,_,jY (i:=0) (by omega),_,rfl,by decide,_,SqL.of x2,?_⟩
 have go:∀ (b:Bool) (mm:Nat),mm=(if b then 6 else 4)->sJ K { nx:=λ _ H'=>Q .non H',rt:=Q } [some (.ref a),some (.ref hd),some (.bl b),some (.int (1+hs'.getD 1 0 % (mm:Int))),none,none,none,none,none,none,none,none,none] H2:=λ b mm hm=>by
  have mp:0<mm:=by rw [hm];split <;> decide
  obtain ⟨m,em,p1,q1⟩:∃ k:Nat,1+hs'.getD 1 0 % (mm:Int)=(k:Int)/\1<=k/\k<=mm:=by
   have h1:=Int.emod_nonneg (hs'.getD 1 0) (show (mm:Int)≠0 by omega)
   have h2:=Int.emod_lt_of_pos (hs'.getD 1 0) (show (0:Int)<mm by omega)
   exact ⟨(1+hs'.getD 1 0 % (mm:Int)).toNat,by omega,by omega,by omega⟩
  rw [em]
  obtain ⟨on,eo,po⟩:∃ k:Nat,hs'.getD 2 0 % (m:Int)=(k:Int)/\k<m:=by
   have h1:=Int.emod_nonneg (hs'.getD 2 0) (show (m:Int)≠0 by omega)
   have h2:=Int.emod_lt_of_pos (hs'.getD 2 0) (show (0:Int)<m by omega)
   exact ⟨(hs'.getD 2 0 % (m:Int)).toNat,by omega,by omega⟩
  (dsimp? [sJ])
  refine ⟨_,SqL.of hh2,_,jY (i:=2) (by omega),_,rfl,by omega,?_⟩
  rw [eo]
  exact Uj hh2 hl nm po (by rw [← hm];exact q1) q
 rcases (show hs'.getD 0 0 % 2=0∨hs'.getD 0 0 % 2=1 by omega) with e | e <;> rw [e]
 ·refine ⟨_,kT,_,rfl,_,rfl,by decide,?_⟩
  exact go false 4 rfl
 ·refine ⟨_,jT,_,rfl,_,rfl,by decide,?_⟩
  exact go true 6 rfl
def top (i:Nat):Stmt:=PySem.Challenge.pw_mixplay_k42_the_only_point.main.body.getD i (.Pass ⟨0,0,0,0⟩)
structure Exs (K:W.Frag):Prop where
 x_NotTwo:PySem.W.excIn K (aR K "NotTwo") [.type "ValueError",.type "Exception",.type "BaseException",.type "object"] "ValueError.__new__" = true
 exm:PySem.W.exmOne K (.ref (aR K "NotTwo")) (.ref (aR K "PlayError"))=some true
 xt:XT K "NotTwo" ["NoNumber", "NoTable", "NoOrder", "NoStart", "NoPlan", "NoChoice", "NoMixing"]
set_option genInjectivity false in
set_option genSizeOf false in
structure Tx (K:W.Frag) (mg:Str->Option Value):Prop where
 f49:Df K mg "_law_numbers" (top 49)
 f50:Df K mg "_law_divisor" (top 50)
 f51:Df K mg "_law_above" (top 51)
 f31_1:Mf K "Table" "sizes" "Table.sizes" (nQ (top 31) 1)
 f31_3:Mf K "Table" "earned" "Table.earned" (nQ (top 31) 3)
 f32:Df K mg "joined" (top 32)
 f34:Df K mg "earned_with" (top 34)
 f35:Df K mg "earnings" (top 35)
 f27:Df K mg "one_of_each" (top 27)
 f28:Df K mg "in_order" (top 28)
 f33:Df K mg "rests" (top 33)
 f37:Df K mg "least_whole" (top 37)
 f38:Df K mg "lift_of" (top 38)
 f11:Df K mg "divisor" (top 11)
 f12:Df K mg "ratio" (top 12)
 f13:Df K mg "plus" (top 13)
 f39:Df K mg "lifted" (top 39)
 f42:Df K mg "raised" (top 42)
 f19:Df K mg "cleared" (top 19)
 f44:Df K mg "side_row" (top 44)
 f25:Df K mg "unit" (top 25)
 f43_0:Mf K "Side" "__init__" "Side.__init__" (nQ (top 43) 0)
 f45:Df K mg "spares_side" (top 45)
 f22:Df K mg "is_ahead" (top 22)
 f23:Df K mg "leaving" (top 23)
 f17:Df K mg "shared" (top 17)
 f18:Df K mg "plain" (top 18)
 f20:Df K mg "rid_of" (top 20)
 f21:Df K mg "turned" (top 21)
 f43_1:Mf K "Side" "let_in" "Side.let_in" (nQ (top 43) 1)
 f14:Df K mg "over" (top 14)
 f40:Df K mg "divided" (top 40)
 f15:Df K mg "summed" (top 15)
 f43_2:Mf K "Side" "mixing" "Side.mixing" (nQ (top 43) 2)
 f46:Df K mg "point" (top 46)
 f54:Df K mg "_law_refused" (top 54)
 f29:Df K mg "check_sizes" (top 29)
 f30:Df K mg "check_cells" (top 30)
 f31_0:Mf K "Table" "__init__" "Table.__init__" (nQ (top 31) 0)
 f48:Df K mg "_law_whole" (top 48)
 f53:Df K mg "_law_alike" (top 53)
 f52:Df K mg "_law_shares" (top 52)
 n_ValueError:mg "ValueError" = none
 n_abs:mg "abs" = none
 n_bool:mg "bool" = none
 n_enumerate:mg "enumerate" = none
 n_int:mg "int" = none
 n_isinstance:mg "isinstance" = none
 n_len:mg "len" = none
 n_list:mg "list" = none
 n_max:mg "max" = none
 n_min:mg "min" = none
 n_range:mg "range" = none
 n_sum:mg "sum" = none
 n_tuple:mg "tuple" = none
 n_zip:mg "zip" = none
 c_NoChoice:mg "NoChoice" = some (.ref (aR K "NoChoice"))
 c_NoMixing:mg "NoMixing" = some (.ref (aR K "NoMixing"))
 c_NoNumber:mg "NoNumber" = some (.ref (aR K "NoNumber"))
 c_NoOrder:mg "NoOrder" = some (.ref (aR K "NoOrder"))
 c_NoPlan:mg "NoPlan" = some (.ref (aR K "NoPlan"))
 c_NoStart:mg "NoStart" = some (.ref (aR K "NoStart"))
 c_NoTable:mg "NoTable" = some (.ref (aR K "NoTable"))
 c_NotTwo:mg "NotTwo" = some (.ref (aR K "NotTwo"))
 c_PlayError:mg "PlayError" = some (.ref (aR K "PlayError"))
 c_Side:mg "Side" = some (.ref (aR K "Side"))
 c_Table:mg "Table" = some (.ref (aR K "Table"))
 mk_Side:PySem.W.makesIn K (aR K "Side")=true/\W.keepIn K (.ref (aR K "Side"))=true
 sk:Dh K
 mk_Table:PySem.W.makesIn K (aR K "Table")=true/\W.keepIn K (.ref (aR K "Table"))=true
 tt:Ob K
 ex:Exs K
section
variable {P:Program} {w:World} {K:W.Frag} {mg:Str->Option Value} {base:Heap} 
theorem Cw (T:Tx K mg):Ok P w K mg base CX0 1 "_law_numbers" (hW K):=T.f49.ok λ R h=>⟨mV K,Cs h,(aH (sK R (cS rfl T.n_range (aA pV aF)) (λ _ _ _ _=>aK)) (aH (fA R (cS rfl T.n_range (aA (aT (Nl rfl) rfl T.n_max bt_max (aA pV (aA (aT (Ak rfl) rfl T.n_min Bm (aA (aT bC rfl T.n_len eZ (aA pV aF)) (aA aK aF))) aF))) aF)) (gN R) (aH (sA R aK) (aH (dN (bE Dn (aT bC rfl T.n_len eZ (aA pV aF)) aK (bL _)) (aJ (sA R (aS eM (iL pV (aS eM pV (aT (Ak rfl) rfl T.n_min Bm (aA (aT bC rfl T.n_len eZ (aA pV aF)) (aA aK aF))))) (aS fV (aS Hd aK aK) aK)))) bN) (aH (sA R (aS eM pV pV)) (aJ (Pd (aS eM (aS fV (aS fV (aS dA (iL pV pV) aK) pV) (aS dA pV pV)) (aS fV (aS Hd aK aK) aK)) (Pf pV pV Ef))))))) (aJ (aV pV))))⟩
theorem rP (T:Tx K mg):Ok P w K mg base CX0 1 "_law_divisor" (dE K):=T.f50.ok λ R h=>⟨mW K,Ct h,(aH (sA R (aT rE rfl T.n_abs Bo (aA pV aF))) (aH (sA R (aT rE rfl T.n_abs Bo (aA pV aF))) (aH (wA (bE Dn pV aK (bL _)) (aJ (ps_par (i:=0) (j:=1) rfl (by rw [R.nn];exact R.nd) rfl rfl (by decide) rfl rfl (aA pV (aA (aS eM pV pV) aF)) rfl))) (aJ (aV pV)))))⟩
theorem xJ (T:Tx K mg):Ok P w K mg base CX0 2 "_law_above" (lD K):=T.f51.ok λ R h=>⟨sO K,Hw h,(aH (dN (kU pV) (aJ (aV (cP (aA (aS fV aK (aS eM pV aK)) (aA aK aF))))) bN) (aH (sA R (aS fV aK (aS eM pV (aS Hd aK aK)))) (aH (sA R (aS fV aK (aS eM (aS eM (aS dA pV aK) aK) aK))) (aH (sA R (c0 (rP T) R.r (aA pV (aA pV aF)))) (aJ (aV (cP (aA (aS eP pV pV) (aA (aS eP pV pV) aF)))))))))⟩
theorem iN (T:Tx K mg):OkM P w K mg base CX0 1 (aR K "Table") "sizes" (cU K):=T.f31_1.ok λ R h=>⟨jP K,xY T.tt h,(aJ (aV (fX dF rfl T.n_list fD (aA (iC pV rfl) aF))))⟩
theorem uL (T:Tx K mg):OkM P w K mg base CX0 1 (aR K "Table") "earned" (eV K):=T.f31_3.ok λ R h=>⟨iK K,uK T.tt h,(aH (fA R (uZ rfl T.n_enumerate (iC pV rfl)) (gN2 R) (aJ (dN (PW.pt (qE (bE zH (iT pV pV) aK (bL _)) (pI (bE op_ge (iT pV pV) pV (bL _))))) (aJ iF) bN))) (aJ (aV (fX dF rfl T.n_list fD (aA (vA (mI R.r) (iC pV rfl) pV (λ _ _=>rfl)) aF)))))⟩
theorem Ml (T:Tx K mg):Ok P w K mg base CX0 1 "joined" (nZ K):=T.f32.ok λ R h=>⟨wH K,Lz h,(aJ (aV (aS Bx (aS Bx (rB Jh pV uY (uX pV)) (cP (aA pV aF))) (rB Jh pV (uX pV) uY))))⟩
theorem yG (T:Tx K mg):Ok P w K mg base CX0 2 "earned_with" (fK K):=T.f34.ok λ R h=>⟨gP K,xV h,(aJ (aV (iL (m1 pV T.tt.cl (uL T) R.r (aA (c0 (Ml T) R.r (aA pV (aA pV (aA pV aF)))) aF)) pV)))⟩
theorem Fz (T:Tx K mg):Ok P w K mg base CX0 3 "earnings" (iY K):=T.f35.ok λ R h=>⟨pT K,Ft h,(aJ (aV (kA R (bQ pV) (λ _ _ _ _=>(c0 (yG T) R.r (aA pV (aA pV (aA pV (aA pV aF)))))))))⟩
theorem yD (T:Tx K mg):Ok P w K mg base CX0 1 "one_of_each" (fH K):=T.f27.ok λ R h=>⟨jH K,xT h,(aH (sA R (dW (aA (cP aF) aF))) (aH (fA R (bQ pV) (gN R) (aH (sA R (dW aF)) (aH (fA R (bQ pV) (gN R) (aJ (iR (zG PySem.F.plainAttrs_list PySem.F.slot_list_extend PySem.F.type_list_extend Mn pV (aA (kA R (bQ pV) (λ _ _ _ _=>(aS Bx pV (cP (aA pV aF))))) aF))))) (aJ (sA R pV))))) (aJ (aV pV))))⟩
theorem tX (T:Tx K mg):Ok P w K mg base CX0 2 "in_order" (gY K):=T.f28.ok λ R h=>⟨pS K,Fs h,(aJ (aV (c0 (yD T) R.r (aA (kA R (bQ pV) (λ _ _ _ _=>(Jr rfl T.n_list rfl T.n_range rfl pV))) aF))))⟩
theorem Qy (T:Tx K mg):Ok P w K mg base CX0 3 "rests" (qV K):=T.f33.ok λ R h=>⟨uQ K,Qi h,(aH (sA R (m0 pV T.tt.cl (iN T) R.r)) (aJ (aV (c0 (tX T) R.r (aA (aS pK (rB Ji pV uY (uX pV)) (rB Ji pV (uX (aS fV pV aK)) uY)) aF)))))⟩
theorem yF (T:Tx K mg):Ok P w K mg base CX0 1 "least_whole" (fJ K):=T.f37.ok λ R h=>⟨jI K,xU h,(aJ (aV (aT (Aj rfl) rfl T.n_min Bm (aA (kA R (bQ pV) (λ _ _ _ _=>(aS eP (iT pV aK) (iT pV aK)))) aF))))⟩
theorem Ie (T:Tx K mg):Ok P w K mg base CX0 2 "lift_of" (lA K):=T.f38.ok λ R h=>⟨sF K,Hs h,(aJ (aV (cP (aA (aS sE aK (aT (Aj rfl) rfl T.n_min Bm (aA (kA R (bQ pV) (λ _ _ _ _=>(c0 (yF T) R.r (aA pV aF)))) aF))) (aA aK aF)))))⟩
theorem pW (T:Tx K mg):Ok P w K mg base CX0 1 "divisor" (dD K):=T.f11.ok λ R h=>⟨sP K,Hx h,(aH (sA R (aT rE rfl T.n_abs Bo (aA pV aF))) (aH (sA R (aT rE rfl T.n_abs Bo (aA pV aF))) (aH (wA (bE tH pV aK (bL _)) (aH (sA R (aS eM pV pV)) (aH (sA R pV) (aJ (sA R pV))))) (aJ (aV pV)))))⟩
theorem wO (T:Tx K mg):Ok P w K mg base CX0 2 "ratio" (jX K):=T.f12.ok λ R h=>⟨uR K,Qj h,(aH (dN (bE tI pV aK (bL _)) (aJ iF) bN) (aH (sA R (c0 (pW T) R.r (aA pV (aA pV aF)))) (aH (dN (bE zH pV aK (bL _)) (aJ (sA R (pe_un Ou pV))) bN) (aJ (aV (cP (aA (aS eP pV pV) (aA (aS eP pV pV) aF))))))))⟩
theorem Jw (T:Tx K mg):Ok P w K mg base CX0 3 "plus" (qI K):=T.f13.ok λ R h=>⟨Go K,Tm h,(aJ (aV (c0 (wO T) R.r (aA (aS fV (aS dA (iT pV aK) (iT pV aK)) (aS dA (iT pV aK) (iT pV aK))) (aA (aS dA (iT pV aK) (iT pV aK)) aF)))))⟩
theorem Mj (T:Tx K mg):Ok P w K mg base CX0 4 "lifted" (nY K):=T.f39.ok λ R h=>⟨vZ K,Ly h,(aJ (aV (kA R (bQ pV) (λ _ _ _ _=>(c0 (Jw T) R.r (aA pV (aA pV aF)))))))⟩
theorem Mi (T:Tx K mg):Ok P w K mg base CX0 5 "raised" (sS K):=T.f42.ok λ R h=>⟨vY K,Lu h,(aH (sK R (cS rfl T.n_range (aA (iL (m0 pV T.tt.cl (iN T) R.r) pV) aF)) (λ _ _ _ _=>(c0 (Fz T) R.r (aA pV (aA pV (aA pV (aA (c0 (Qy T) R.r (aA pV (aA pV aF))) aF))))))) (aH (sA R (c0 (Ie T) R.r (aA pV aF))) (aJ (aV (kA R (bQ pV) (λ _ _ _ _=>(c0 (Mj T) R.r (aA pV (aA pV aF)))))))))⟩
theorem Ii (T:Tx K mg):Ok P w K mg base CX0 2 "cleared" (lF K):=T.f19.ok λ R h=>⟨sR K,Hz h,(aH (sA R aK) (aH (fA R (bQ pV) (gN R) (aJ (sA R (aS dA pV (aS eP (iT pV aK) (c0 (pW T) R.r (aA pV (aA (iT pV aK) aF)))))))) (aJ (aV (cP (aA pV (aA (kA R (bQ pV) (λ _ _ _ _=>(aS dA (iT pV aK) (aS eP pV (iT pV aK))))) aF)))))))⟩
theorem Fx (T:Tx K mg):Ok P w K mg base CX0 3 "side_row" (mY K):=T.f44.ok λ R h=>⟨pM K,Fk h,(aH (sA R (c0 (Ii T) R.r (aA pV aF))) (aH (dN (bE tI pV aK (bL _)) (aJ (aV (aS pK (aS pK pV (iT pV aK)) (dW (aA (iT pV aK) aF))))) bN) (aJ (aV (aS pK (aS pK (iT pV aK) pV) (dW (aA (iT pV aK) aF)))))))⟩
theorem Tv (T:Tx K mg):Ok P w K mg base CX0 1 "unit" (uV K):=T.f25.ok λ R h=>⟨Gn K,Tl h,(aJ (aV (kA R (cS rfl T.n_range (aA pV aF)) (λ _ _ _ _=>(Qu (bE tI pV pV (bL _)) aK aK)))))⟩
theorem Cy (T:Tx K mg):OkM P w K mg base CX0 1 (aR K "Side") "__init__" (lU K):=T.f43_0.ok λ R h=>⟨mX K,Cu T.sk h,(aH (sD pV pV rfl) (aH (sD pV (fX dF rfl T.n_list fD (aA pV aF)) rfl) (aJ (sD pV (aS pK (dW (aA (aS sE (aT bC rfl T.n_len eZ (aA (iL pV aK) aF)) aK) aF)) pV) rfl))))⟩
theorem nH (T:Tx K mg):Ok P w K mg base CX0 6 "spares_side" (fG K):=T.f45.ok λ R h=>⟨jG K,xS h,(aH (sA R (dW aF)) (aH (fA R (uZ rfl T.n_enumerate (c0 (Mi T) R.r (aA pV (aA pV aF)))) (gN2 R) (aJ (iR (zG PySem.F.plainAttrs_list PySem.F.slot_list_append PySem.F.type_list_append kB pV (aA (c0 (Fx T) R.r (aA pV (aA pV (aA (c0 (Tv T) R.r (aA (aT bC rfl T.n_len eZ (aA pV aF)) (aA pV aF))) aF)))) aF))))) (aJ (aV (mk0 T.mk_Side (Cy T) R.r T.c_Side (aA pV (aA pV aF)))))))⟩
theorem Fy (T:Tx K mg):Ok P w K mg base CX0 1 "is_ahead" (iX K):=T.f22.ok λ R h=>⟨pR K,Fq h,(aH (fA R (bQ pV) (gN R) (aH (sA R (aS dA (iL pV pV) (iL pV pV))) (aH (sA R (aS dA (iL pV pV) (iL pV pV))) (aJ (dN (bE tH pV pV (bL _)) (aJ (aV (Js zH pV pV (bL _)))) bN))))) (aJ (aV tF)))⟩
theorem Ig (T:Tx K mg):Ok P w K mg base CX0 2 "leaving" (lB K):=T.f23.ok λ R h=>⟨sI K,Ht h,(aH (sA R Ph) (aH (fA R (uZ rfl T.n_enumerate pV) (gN2 R) (aJ (dN (PW.pt (pw_and (bE Dn (iL pV pV) aK (bL _)) (To (PW.pt (qE (bE op_isN pV Ph (bL _)) (pI (kU (c0 (Fy T) R.r (aA pV (aA (iL pV pV) (aA pV (aA pV aF)))))))))))) (aJ (sA R pV)) bN))) (aJ (aV pV))))⟩
theorem Mg (T:Tx K mg):Ok P w K mg base CX0 2 "shared" (nW K):=T.f17.ok λ R h=>⟨vW K,Lq h,(aH (sA R aK) (aH (fA R (bQ pV) (gN R) (aH (sA R (c0 (pW T) R.r (aA pV (aA pV aF)))) (aJ (dN (bE tI pV aK (bL _)) (aJ (aV pV)) bN)))) (aJ (aV pV))))⟩
theorem Em (T:Tx K mg):Ok P w K mg base CX0 3 "plain" (mP K):=T.f18.ok λ R h=>⟨Bq K,Ql h,(aH (sA R (c0 (Mg T) R.r (aA pV aF))) (aH (dN (bE zH pV aK (bL _)) (aJ (aV (fX dF rfl T.n_list fD (aA pV aF)))) bN) (aJ (aV (kA R (bQ pV) (λ _ _ _ _=>(aS eP pV pV)))))))⟩
theorem Mh (T:Tx K mg):Ok P w K mg base CX0 4 "rid_of" (nX K):=T.f20.ok λ R h=>⟨vX K,Lr h,(aH (dN (bE tI (iL pV pV) aK (bL _)) (aJ (aV (c0 (Em T) R.r (aA pV aF)))) bN) (aJ (aV (c0 (Em T) R.r (aA (kG R (Ha rfl T.n_zip (aA pV (aA pV aF))) (λ _ _ _ _=>(aS sE (aS dA pV (iL pV pV)) (aS dA pV (iL pV pV))))) aF)))))⟩
theorem Md (T:Tx K mg):Ok P w K mg base CX0 5 "turned" (nU K):=T.f21.ok λ R h=>⟨vU K,Ln h,(aH (sA R (dW aF)) (aH (fA R (uZ rfl T.n_enumerate pV) (gN2 R) (aJ (dN (bE tI pV pV (bL _)) (aJ (iR (zG PySem.F.plainAttrs_list PySem.F.slot_list_append PySem.F.type_list_append kB pV (aA (fX dF rfl T.n_list fD (aA pV aF)) aF)))) (aJ (iR (zG PySem.F.plainAttrs_list PySem.F.slot_list_append PySem.F.type_list_append kB pV (aA (c0 (Mh T) R.r (aA pV (aA (iL pV pV) (aA pV aF)))) aF))))))) (aJ (aV pV))))⟩
theorem nI (T:Tx K mg):OkM P w K mg base CX0 6 (aR K "Side") "let_in" (eE K):=T.f43_1.ok λ R h=>⟨jR K,yB T.sk h,(aH (sA R (c0 (Ig T) R.r (aA (iC pV rfl) (aA pV (aA (iC pV rfl) aF))))) (aH (sD pV (c0 (Md T) R.r (aA (iC pV rfl) (aA pV (aA pV aF)))) rfl) (aH (sA R (iL (iC pV rfl) pV)) (aH (Pd pV (Pf (iC pV rfl) pV Ef)) (aJ (aV pV))))))⟩
theorem Ty (T:Tx K mg):Ok P w K mg base CX0 3 "over" (uW K):=T.f14.ok λ R h=>⟨Gq K,Tn h,(aJ (aV (c0 (wO T) R.r (aA (aS dA (iT pV aK) (iT pV aK)) (aA (aS dA (iT pV aK) (iT pV aK)) aF)))))⟩
theorem Ih (T:Tx K mg):Ok P w K mg base CX0 4 "divided" (lE K):=T.f40.ok λ R h=>⟨sQ K,Hy h,(aJ (aV (kA R (bQ pV) (λ _ _ _ _=>(c0 (Ty T) R.r (aA pV (aA pV aF)))))))⟩
theorem Me (T:Tx K mg):Ok P w K mg base CX0 4 "summed" (nV K):=T.f15.ok λ R h=>⟨vV K,Lp h,(aH (sA R (cP (aA aK (aA aK aF)))) (aH (fA R (bQ pV) (gN R) (aJ (sA R (c0 (Jw T) R.r (aA pV (aA pV aF)))))) (aJ (aV pV))))⟩
theorem yJ (T:Tx K mg):OkM P w K mg base CX0 5 (aR K "Side") "mixing" (iM K):=T.f43_2.ok λ R h=>⟨jQ K,xZ T.sk h,(aH (sA R Qv) (aH (fA R (Ha rfl T.n_zip (aA (iC pV rfl) (aA (iC pV rfl) aF))) (gN2 R) (aJ (qK (mI R.r) pV pV (c0 (wO T) R.r (aA (iL pV (pe_un Ou aK)) (aA (iL pV pV) aF))) rfl))) (aH (sK R (bQ pV) (λ _ _ _ _=>(Qw (mI R.r) pV pV (cP (aA aK (aA aK aF))) ⟨rfl,rfl,rfl,rfl⟩))) (aJ (aV (c0 (Ih T) R.r (aA pV (aA (c0 (Me T) R.r (aA pV aF)) aF))))))))⟩
theorem El (T:Tx K mg):Ok P w K mg base (CXF P w) 7 "point" (qW K):=T.f46.okX λ R h=>⟨uS K _,Qk T.sk h,(aH (sA R (m0 pV T.tt.cl (iN T) R.r)) (aH (dN (bE tH (aT bC rfl T.n_len eZ (aA pV aF)) aK (bL _)) (aJ (Qo PySem.F.excBase_ValueError (by decide +kernel) PySem.F.excBase_ValueError rfl T.c_NotTwo T.ex.x_NotTwo (aA pe_str aF))) bN) (aH (sA R (dW (aA (Jr rfl T.n_list rfl T.n_range rfl (iL pV aK)) (aA (Qt rfl T.n_list rfl T.n_range rfl (aA (iL pV aK) (aA (aT (sW rfl) rfl T.n_sum Hj (aA pV aF)) aF))) aF)))) (aH (sA R (dW (aA (c0 (nH T) R.r (aA pV (aA aK (aA (iL pV aK) aF)))) (aA (c0 (nH T) R.r (aA pV (aA aK (aA (iL pV aK) aF)))) aF)))) (aH (sA R (m1 (iL pV aK) T.sk.cl (nI T) R.r (aA aK aF))) (aH (sA R aK) (aH (wA (bE tH pV aK (bL _)) (aH (sA R (m1 (iL pV pV) T.sk.cl (nI T) R.r (aA pV aF))) (aJ (sA R (aS sE aK pV))))) (aJ (aV (kG R (Ha rfl T.n_zip (aA pV (aA pV aF))) (λ _ _ _ _=>(m1 pV T.sk.cl (yJ T) R.r (aA pV aF)))))))))))))⟩
theorem Cv (T:Tx K mg):Ok P w K mg base CX0 8 "_law_refused" (lS K):=T.f54.ok λ R h=>⟨mU K,Cq T.ex.xt h,(aH (sA R tF) (aH (sA R tF) (aH (tA R T.c_PlayError T.ex.exm (cX (El T) R.r (aA pV aF)) (λ _ R=>(aH (sN R (Hc (aT wT rfl T.n_isinstance bV (aA pV (aA (iS rfl T.c_NotTwo rfl) aF))) (Hb (aT wT rfl T.n_isinstance bV (aA pV (aA (nN rfl T.n_ValueError zC rfl) aF)))))) (aJ (sN R (aT wT rfl T.n_isinstance bV (aA pV (aA (cP (aA (iS rfl T.c_NoNumber rfl) (aA (iS rfl T.c_NoTable rfl) (aA (iS rfl T.c_NoOrder rfl) (aA (iS rfl T.c_NoStart rfl) (aA (iS rfl T.c_NoPlan rfl) (aA (iS rfl T.c_NoChoice rfl) (aA (iS rfl T.c_NoMixing rfl) aF)))))))) aF)))))))) (aJ (aV (Hc pV (Hb (Pg pV))))))))⟩
theorem yH (T:Tx K mg):Ok P w K mg base CX0 1 "check_sizes" (fL K):=T.f29.ok λ R h=>⟨jN K,xW h,(aH (dN (PW.pt (qE (bE zH (aT bC rfl T.n_len eZ (aA pV aF)) aK (bL _)) (pI (bE Dn (aT bC rfl T.n_len eZ (aA pV aF)) aK (bL _))))) (aJ iF) bN) (aJ (fA R (bQ pV) (gN R) (aJ (dN (PW.pt (qE (bE zH pV aK (bL _)) (pI (bE Dn pV aK (bL _))))) (aJ iF) bN)))))⟩
theorem yI (T:Tx K mg):Ok P w K mg base CX0 1 "check_cells" (fN K):=T.f30.ok λ R h=>⟨jO K,xX h,(aH (fA R (bQ pV) (gN R) (aH (dN (pt_cmp (Mc (mI R.r) pV pV)) (aJ iF) bN) (aJ (dN (bE tH (aT bC rfl T.n_len eZ (aA (vA (mI R.r) pV pV (λ _ _=>rfl)) aF)) pV (bL _)) (aJ iF) bN)))) (aJ (dN (bE tH (aT Nn rfl T.n_len eZ (aA pV aF)) (aT bC rfl T.n_len eZ (aA pV aF)) (bL _)) (aJ iF) bN)))⟩
theorem oS (T:Tx K mg):OkM P w K mg base CX0 3 (aR K "Table") "__init__" (eQ K):=T.f31_0.ok λ R h=>⟨lR K,yY T.tt h,(aH (iR (c0 (yH T) R.r (aA pV aF))) (aH (sA R (c0 (tX T) R.r (aA pV aF))) (aH (iR (c0 (yI T) R.r (aA pV (aA pV (aA (aT bC rfl T.n_len eZ (aA pV aF)) aF))))) (aH (sD pV (fX dF rfl T.n_list fD (aA pV aF)) rfl) (aH (sD pV wN rfl) (aJ (fA R (bQ pV) (gN R) (aJ (qK (mI R.r) (iC pV rfl) pV (fX dF rfl T.n_list fD (aA (vA (mI R.r) pV pV (λ _ _=>rfl)) aF)) rfl)))))))))⟩
theorem xH (T:Tx K mg):Ok P w K mg base CX0 1 "_law_whole" (fZ K):=T.f48.ok λ R h=>⟨nS K,Hu h,(aJ (aV (Hc (aT wU rfl T.n_isinstance bV (aA pV (aA (nN rfl T.n_int bt_int rfl) aF))) (Hb (Pg (aT wU rfl T.n_isinstance bV (aA pV (aA (nN rfl T.n_bool Va rfl) aF))))))))⟩
theorem xI (T:Tx K mg):Ok P w K mg base CX0 2 "_law_alike" (lC K):=T.f53.ok λ R h=>⟨sM K,Hv h,(aH (dN (PW.pt (qE (pJ (kU (aT Al rfl T.n_isinstance bV (aA pV (aA (nN rfl T.n_list fD rfl) aF))))) (pI (bE (op_neD 1 (Nat.lt_of_le_of_lt (Nat.add_le_add_left (by decide) _) R.r.units)) pV pV (bL _))))) (aJ (aV tF)) bN) (aH (fA R (bQ pV) (gN R) (aJ (dN (PW.pt (qE (pJ (kU (aT Sf rfl T.n_isinstance bV (aA pV (aA (nN rfl T.n_tuple Sg rfl) aF))))) (qE (pJ (kU (c0 (xH T) R.r (aA (iT pV aK) aF)))) (pI (pJ (kU (c0 (xH T) R.r (aA (iT pV aK) aF)))))))) (aJ (aV tF)) bN))) (aJ (aV tF))))⟩
theorem tW (T:Tx K mg):Ok P w K mg base CX0 2 "_law_shares" (iW K):=T.f52.ok λ R h=>⟨pQ K,Fp h,(aH (sA R (dW aF)) (aH (fA R (cS rfl T.n_range (aA (aT bC rfl T.n_len eZ (aA pV aF)) aF)) (gN R) (aH (sA R (iT (iL pV pV) aK)) (aH (fA R (cS rfl T.n_range (aA (aT bC rfl T.n_len eZ (aA pV aF)) aF)) (gN R) (aJ (dN (bE tH pV pV (bL _)) (aJ (sA R (aS dA pV (iT (iL pV pV) aK)))) bN))) (aJ (iR (zG PySem.F.plainAttrs_list PySem.F.slot_list_append PySem.F.type_list_append kB pV (aA pV aF))))))) (aH (sA R (dW aF)) (aH (fA R (bQ pV) (gN R) (aH (sA R (c0 (rP T) R.r (aA pV (aA (aT (sW rfl) rfl T.n_sum Hj (aA pV aF)) aF)))) (aJ (iR (zG PySem.F.plainAttrs_list PySem.F.slot_list_append PySem.F.type_list_append kB pV (aA (cP (aA (aS eP pV pV) (aA (aS eP (aT (sW rfl) rfl T.n_sum Hj (aA pV aF)) pV) aF))) aF)))))) (aJ (aV pV))))))⟩
theorem law_fn (T:Tx K mg) {f:Addr} {fd:FuncData} (F:mC K "law" "law" (top 55) .none f fd):fT P w K mg base CX0 9 f fd ["_law_script"] (vR K):=F.fn λ R h=>⟨Oh K,rd_law h,(aH (sA R (c0 (Cw T) R.r (aA pV (aA aK aF)))) (aH (sA R (Js tI (aS eM (iL pV aK) aK) aK (bL _))) (aH (sA R (aS fV aK (aS eM (iL pV aK) (iL (dW (aA aK (aA aK aF))) (aS eM (iL pV aK) aK))))) (aH (sA R (aS eM (iL pV aK) pV)) (aH (sK R (cS rfl T.n_range (aA pV aF)) (λ _ _ _ _=>(c0 (xJ T) R.r (aA (iL pV (aS fV aK pV)) (aA pV aF))))) (aH (sK R (cS rfl T.n_range (aA pV aF)) (λ _ _ _ _=>(c0 (xJ T) R.r (aA (iL pV (aS fV aK pV)) (aA pV aF))))) (aH (sA R wN) (aH (sA R wN) (aH (fA R (cS rfl T.n_range (aA pV aF)) (gN R) (aJ (fA R (cS rfl T.n_range (aA pV aF)) (gN R) (aH (qK (mI R.r) pV (cP (aA pV (aA pV aF))) (dW (aA (cP (aA aK (aA aK aF))) (aA (cP (aA aK (aA aK aF))) aF))) rfl) (aH (dN (bE tI pV (aS eM (aS fV pV pV) pV) (bL _)) (aJ (qK (mI R.r) pV (cP (aA pV (aA pV aF))) (dW (aA (iL pV pV) (aA (cP (aA (aS sE aK (iT (iL pV pV) aK)) (aA (iT (iL pV pV) aK) aF))) aF))) rfl)) bN) (aJ (qK (mI R.r) pV (cP (aA pV (aA aK (aA pV aF)))) (aS pK (vA (mI R.r) pV (cP (aA pV (aA pV aF))) (λ _ _=>rfl)) (dW (aA (cP (aA aK (aA aK aF))) aF))) rfl))))))) (aH (dN (pJ (kU (c0 (Cv T) R.r (aA (mk0 T.mk_Table (oS T) R.r T.c_Table (aA (dW (aA pV (aA aK (aA pV aF)))) (aA pV aF))) aF)))) (aJ (aV tF)) bN) (aH (sA R (cN (El T) R.r (aA (mk0 T.mk_Table (oS T) R.r T.c_Table (aA (dW (aA pV (aA pV aF))) (aA pV aF))) aF))) (aH (dN (PW.pt (qE (pJ (kU (aT Al rfl T.n_isinstance bV (aA pV (aA (nN rfl T.n_list fD rfl) aF))))) (qE (bE tH (aT bC rfl T.n_len eZ (aA pV aF)) aK (bL _)) (pI (pJ (kU (c0 (xI T) R.r (aA (iL pV aK) (aA (c0 (tW T) R.r (aA pV aF)) aF))))))))) (aJ (aV tF)) bN) (aH (sA R (c0 (tW T) R.r (aA pV aF))) (aJ (aV (c0 (xI T) R.r (aA (iL pV aK) (aA (kA R (cS rfl T.n_range (aA pV aF)) (λ _ _ _ _=>(iL pV (aS eM (aS sE pV pV) pV)))) aF))))))))))))))))))⟩
end
theorem exs_mk {K:W.Frag} {C0 C1 C2 C3 C4 C5 C6 C7 C8:Addr}
  (y0:W.nsIn K mainGlobals "PlayError" = some (some (.ref C0)))
  (y1:W.nsIn K mainGlobals "NotTwo" = some (some (.ref C1)))
  (y2:W.nsIn K mainGlobals "NoNumber" = some (some (.ref C2)))
  (y3:W.nsIn K mainGlobals "NoTable" = some (some (.ref C3)))
  (y4:W.nsIn K mainGlobals "NoOrder" = some (some (.ref C4)))
  (y5:W.nsIn K mainGlobals "NoStart" = some (some (.ref C5)))
  (y6:W.nsIn K mainGlobals "NoPlan" = some (some (.ref C6)))
  (y7:W.nsIn K mainGlobals "NoChoice" = some (some (.ref C7)))
  (y8:W.nsIn K mainGlobals "NoMixing" = some (some (.ref C8)))
  (xm:PySem.W.exmOne K (.ref C1) (.ref C0)=some true) (xa:PySem.W.kitAny K (.ref C1) [.ref C2,.ref C3,.ref C4,.ref C5,.ref C6,.ref C7,.ref C8]=some false) (xv:PySem.W.kitOne K (.ref C1) (.type "ValueError")=some true)
  (x1:W.findIn K (.ref C1) "__getattribute__" = some (some (.builtin "BaseException.__getattribute__"))) (x2:W.findIn K (.ref C1) "__getattr__" = some none) (x3:W.findIn K (.ref C1) "__class__" = some (some (.builtin "object.__class__"))) (x4:PySem.W.specialIn K (.builtin "object.__class__") "__get__" = some (some (.builtin "getset_descriptor.__get__"))) (x5:PySem.W.takesIn K (.builtin "object.__class__")=some true) (x6:PySem.W.mroIn K C1 (.type "object")=some true) (x7:PySem.W.mroIn K C1 (.type "BaseException")=some true)
  (xx:PySem.W.excIn K C1 [.type "ValueError",.type "Exception",.type "BaseException",.type "object"] "ValueError.__new__" = true):Exs K :=
 ⟨by rw [bO y1];exact xx,by rw [bO y1,bO y0];exact xm,by simp only [List.map_cons,List.map_nil,bO y2,bO y3,bO y4,bO y5,bO y6,bO y7,bO y8];rw [bO y1];exact xa,by rw [bO y1];exact xv,by rw [bO y1];exact λ _=>Rg x1 x2 x3 x4 x5 x6 x7⟩
theorem SidK_mk {K:W.Frag} (y:W.nsIn K mainGlobals "Side" = some (some (.ref C))) (pg:PySem.W.plainGet K C Str.empty=true) (hd:PySem.W.hasDictIn K C=true) (po:PySem.W.plainOver K C=true) (sa:W.findIn K (.ref C) "__setattr__" = some (some (.builtin "object.__setattr__"))) (n_rows:W.findIn K (.ref C) "rows" = some none) (n_inside:W.findIn K (.ref C) "inside" = some none) (n_listed:W.findIn K (.ref C) "listed" = some none):Dh K :=
 ⟨by rw [bO y];exact ⟨pg,hd,po,sa⟩,by rw [bO y];exact n_rows,by rw [bO y];exact n_inside,by rw [bO y];exact n_listed⟩
theorem TabK_mk {K:W.Frag} (y:W.nsIn K mainGlobals "Table" = some (some (.ref C))) (pg:PySem.W.plainGet K C Str.empty=true) (hd:PySem.W.hasDictIn K C=true) (po:PySem.W.plainOver K C=true) (sa:W.findIn K (.ref C) "__setattr__" = some (some (.builtin "object.__setattr__"))) (n_many:W.findIn K (.ref C) "many" = some none) (n_cells:W.findIn K (.ref C) "cells" = some none):Ob K :=
 ⟨by rw [bO y];exact ⟨pg,hd,po,sa⟩,by rw [bO y];exact n_many,by rw [bO y];exact n_cells⟩
theorem fin {l:PySem.W.OpenLaw} {w:World} {K:W.Frag} {mg:Str->Option Value} {fa:Addr} (hfa:mg "law" = some (.ref fa)) (T:Tx K mg) (Z:∃ f fd,mC K "law" "law" (top 55) .none f fd/\mg "law" = some (.ref f)) :
  ∃ fd:FuncData,(∀ (s:Shared) (v:Value),BindsTo s fd ⟨[v],[]⟩ [("_law_script",v)])/\∀ base:Heap,K.In base->base.Ns mainGlobals mg->fT l.prog w K mg base CX0 9 fa fd ["_law_script"] (vR K):=by
 obtain ⟨f,fd,F,hf⟩:=Z
 rw [hfa] at hf
 cases hf
 have F':=F
 obtain ⟨oc,od,kV,doc,pm,an,cdv,ct,osl,rfl,lk,hcd⟩:=F.ex
 exact ⟨_,λ s v=>.of_eq rfl,λ base _ _=>law_fn T F'⟩
theorem walk {l:PySem.W.OpenLaw} {q:Program} {loose:List Str} {XP:(Str->Option Value)->Heap->Prop} {YP:World->Heap->Prop} {d:DefRec} {K:Params->W.Frag} (hn:l.most=some 63) (hdf:d.params.defaults=[])
  (hY:∀ (w:World) (h:Heap),YP w h->(K w.params).In h)
  (F:∀ (w:World) (mg:Str->Option Value) (fa:Addr) (h:Heap),(K w.params).In h->h.Ns mainGlobals mg->mg d.name=some (.ref fa) ->
   ∃ fd:FuncData,(∀ (s:Shared) (u:Value),BindsTo s fd ⟨[u],[]⟩ [("_law_script",u)])/\∀ base:Heap,(K w.params).In base->base.Ns mainGlobals mg->fT l.prog w (K w.params) mg base CX0 9 fa fd ["_law_script"] (vR (K w.params))) :
  PySem.W.WalkO q loose XP YP l.row.toRowW d [] (λ f vs=>PySem.call f vs) :=
 L2.walk_of (n:=63) (k:=9) (x:="_law_script") (CX:=λ _=>CX0) (sp:=λ w=>vR (K w.params)) hn (by decide) hdf ⟨rfl,by decide,by decide⟩ hY F (λ _ _ a ns hl _ hS=>⟨a,ns,rfl,hS,hl,λ _=>rfl⟩) λ _ _ _ _ _ z=>z
end My
set_option Elab.async true
def PySem.Challenge.cw_mixplay_k42_the_only_point_holds.tw17830417018941570363:Nat:=0
def PySem.Challenge.cw_mixplay_k42_the_only_point_holds.tw45651324228511004:Nat:=0
def PySem.Challenge.cw_mixplay_k42_the_only_point_holds.tw9495203191822729555:Nat:=0
def PySem.Challenge.cw_mixplay_k42_the_only_point_holds.tw17805056884028968313:Nat:=0
def PySem.Challenge.cw_mixplay_k42_the_only_point_holds.tw15528534631281244931:Nat:=0
def PySem.Challenge.cw_mixplay_k42_the_only_point_holds.tw1156986912380683911:Nat:=0
def PySem.Challenge.cw_mixplay_k42_the_only_point_holds.tw14282681503652451032:Nat:=0
def PySem.Challenge.cw_mixplay_k42_the_only_point_holds.tw885211891691077461:Nat:=0
def PySem.Challenge.cw_mixplay_k42_the_only_point_holds.tw3281524904435549125:Nat:=0
open PySem PySem.W PyProof.Rows
set_option maxRecDepth 100000 in
set_option maxHeartbeats 0 in
theorem PySem.Challenge.cw_mixplay_k42_the_only_point_holds : PySem.Challenge.rw_mixplay_k42_the_only_point.Holds := by
  w_on; o_law; z_head; (case hw => w_witness2)
  k_fill
  refine L2.walk_x (fun _ => rfl) (My.walk (l := PySem.Challenge.rw_mixplay_k42_the_only_point) rfl rfl (fun w h Y => Y) ?F)
  case F =>
    intro w mg fa h KX G hmg
    refine' My.fin hmg ?T (L2.law_mk KX G ?z1 ?z2 ?z3 ?z4)
    (case z1 => k_is)
    (case z2 => k_is)
    (case z3 => k_is)
    (case z4 => k_is)
    constructor
    case ex =>
      refine' My.exs_mk ?y0 ?y1 ?y2 ?y3 ?y4 ?y5 ?y6 ?y7 ?y8 ?xm ?xa ?xv ?x1 ?x2 ?x3 ?x4 ?x5 ?x6 ?x7 ?xx
      (case y0 => k_is)
      (case y1 => k_is)
      (case y2 => k_is)
      (case y3 => k_is)
      (case y4 => k_is)
      (case y5 => k_is)
      (case y6 => k_is)
      (case y7 => k_is)
      (case y8 => k_is)
      (case xm => kts_exm)
      (case xa => kit_is)
      (case xv => kit_is)
      (case x1 => k_is)
      (case x2 => k_is)
      (case x3 => k_is)
      (case x4 => k_is)
      (case x5 => k_is)
      (case x6 => k_is)
      (case x7 => k_is)
      (case xx => k_exc)
    all_goals first
      | (refine' L2.Df.mk' KX G ?a ?l ?c ?k; (case a => k_is); (case l => k_is); (case c => k_is); (case k => k_is))
      | (refine' L2.Df.mkD KX G ?a ?l ?c ?k ?d ?e ?b; (case a => k_is); (case l => k_is); (case c => k_is); (case k => k_is); (case d => k_is); (case e => rfl); (case b => first | exact fun _ _ _ _ _ _ => L2.ar4 fun _ _ _ _ => ⟨_, rfl, rfl⟩ | exact fun _ _ _ _ _ _ => L2.ar2 fun _ _ => ⟨_, rfl, rfl⟩))
      | (refine' L2.Mf.mk' ?y ?a ?i ?l ?c ?k; (case y => k_is); (case a => k_is); (case i => k_is); (case l => k_is); (case c => k_is); (case k => k_is))
      | (refine' PySem.W.mg_none_of KX G ?z; (case z => k_is))
      | (refine' L2.cls_mk KX G ?y; (case y => k_is))
      | (refine' L2.mkc_mk ?y ?a ?b; (case y => k_is); (case a => k_is); (case b => k_is))
      | (refine' L2.gi_mk KX G ?z; (case z => k_is))
      | (refine' My.SidK_mk ?y ?g ?d ?o ?s ?n0 ?n1 ?n2; (case y => k_is); (case g => k_is); (case d => k_is); (case o => k_is); (case s => k_is); (case n0 => k_is); (case n1 => k_is); (case n2 => k_is))
      | (refine' My.TabK_mk ?y ?g ?d ?o ?s ?n0 ?n1; (case y => k_is); (case g => k_is); (case d => k_is); (case o => k_is); (case s => k_is); (case n0 => k_is); (case n1 => k_is))

